import PyProof.Rows.All
import Wide.All
import OpenK.AllK
import Wide.FinOn
import Lean
import PyProof.EqAt
import PyProof.EqKinds
import PyProof.TupleCall
import PyProof.NeKinds
import PyProof.NeData
import PyProof.P3In
import PyProof.ZipIter
import PyProof.Draws
import PyProof.StrWalks
import PyProof.IsiPairs
import PyProof.IsiSeqPairs
import PyProof.ConsumeWalk
import PyProof.ListStr
import PyProof.IsiHeapPairs
import PyProof.Rows.Range3
import PyProof.IsiNone
import KE.KRevIter
import KE.KRevSl
import PyProof.Conv_int_bool
import PyProof.ListRange
import PyProof.TupleOfSeq
import PyProof.MinMaxWalk
import PyProof.WalkInts
import PyProof.SeqI3
import PyProof.SetKind
import PyProof.Rows.SetFrom
import PyProof.CollectWalk
import PyProof.FactsAll.set
import PyProof.Rows.SortWalk
import PyProof.Rows.SortShell
import PyProof.Rows.SumAny
import PyProof.DictWalks
import PyProof.Rows.SortRev
import PyProof.Rows.SortStr
import PySem.Challenge.RW_fewfind_k84_slips
set_option Elab.async false
set_option linter.all false
set_option maxRecDepth 100000
open PySem.W (methodObj keepIn fnOf codeIn nsIn mg_of mg_none_of)
open PyProof.Rows (boot_sorted boot_int)
open List (mem_filter mem_range filterMap_cons mem_cons_self mem_cons_of_mem mem_cons mem_append mem_append_left getElem?_set_self getElem?_set_ne mem_filterMap mem_append_right size_toArray append_nil nodup_cons length_take getElem?_append_right getElem?_replicate getElem?_append_left getElem?_map mem_of_getElem? length_append length_map length_drop length_set replicate_succ flatten_cons append_assoc foldl_cons length_singleton nil_append map_nil map_cons getElem?_set drop_eq_getElem_cons lookup_cons set_set length_cons all_eq_true getD_eq_getElem?_getD length_pos_iff getElem?_eq_getElem getElem_mem mem_map pairwise_cons pairwise_map map_map length_range map_append take_of_length_le mem_singleton pairwise_append find?_cons any_cons length_nil not_mem_nil any_eq_true map_congr_left mem_map_of_mem getElem?_cons_zero getElem?_cons_succ set_cons_succ set_cons_zero range'_succ range_eq_range' drop_zero getD_cons_zero getD_cons_succ map_id length_filter_le mem_flatMap)
open Nat (lt_of_lt_of_le lt_irrefl ne_of_lt le_trans le_of_lt ne_of_gt le_refl lt_or_ge zero_le lt_succ_self zero_add lt_succ_of_lt le_succ)
open Int (toNat_natCast emod_nonneg)
open Array (length_toList getElem_toList getElem?_toList)
open PySem.W (Frag)
open PySem.Heap (get?_push_of_some)
namespace L2
open PySem PySem.Spec PyProof.Rows
theorem lnz1{α:Type _}{l:List α}(h:l.length=1):∃a,l=[a]:=List.length_eq_one_iff.mp h
theorem lnz2{α:Type _}{l:List α}(h:l.length=2):∃a b,l=[a,b]:=by
 match l,h with
 |[a,b],_=>exact⟨a,b,rfl⟩
theorem lnz3{α:Type _}{l:List α}(h:l.length=3):∃a b c,l=[a,b,c]:=by
 match l,h with
 |[a,b,c],_=>exact⟨a,b,c,rfl⟩
theorem lnz4{α:Type _}{l:List α}(h:l.length=4):∃a b c d,l=[a,b,c,d]:=by
 match l,h with
 |[a,b,c,d],_=>exact⟨a,b,c,d,rfl⟩
noncomputable abbrev Key:=Sum Int Str
noncomputable def WA:Key→Value→Bool
 |.inl k,v=>Value.isInt k v
 |.inr x,v=>Value.isStrOf x v
noncomputable def keyH(w:World):Key→Int
 |.inl k=>hashInt k
 |.inr x=>hashStr w x
theorem xh:∀{k:Key} {v:Value},WA k v=true→(∃i t,k=Sum.inl i∧v=Value.int i t)∨(∃x t,k=Sum.inr x∧v=Value.str x t)
 |.inl i,v,h=>by
  obtain⟨t,e⟩:=Value.isInt_shape (k:=i) (v:=v) h
  exact .inl ⟨i,t,rfl,e⟩
 |.inr x,v,h=>by
  obtain⟨t,e⟩:=Value.isStrOf_shape (x:=x) (v:=v) h
  exact .inr ⟨x,t,rfl,e⟩
theorem QU(i:Int)(t:Tok):WA (.inl i) (.int i t)=true:=by simp[WA,Value.isInt]
theorem QT(x:Str)(t:Tok):WA (.inr x) (.str x t)=true:=by simp[WA,Value.isStrOf]
theorem zp1(a b:Int):decide ((Sum.inl a:Key)=Sum.inl b)=(a==b):=by
 by_cases e:a=b
 ·subst e;simp
 ·have h:¬ (Sum.inl a:Key)=Sum.inl b:=fun q=>e (Sum.inl.inj q)
  rw[decide_eq_false h]
  exact(beq_eq_false_iff_ne.mpr e).symm
theorem zo8(a b:Str):decide ((Sum.inr a:Key)=Sum.inr b)=decide (a=b):=by
 by_cases e:a=b
 ·subst e;simp
 ·have h:¬ (Sum.inr a:Key)=Sum.inr b:=fun q=>e (Sum.inr.inj q)
  rw[decide_eq_false h,decide_eq_false e]
theorem zp0(a:Int)(b:Str):decide ((Sum.inl a:Key)=Sum.inr b)=false:=decide_eq_false (fun q=>nomatch q)
theorem zo9(a:Str)(b:Int):decide ((Sum.inr a:Key)=Sum.inl b)=false:=decide_eq_false (fun q=>nomatch q)
noncomputable def wa(prog:Program)(w:World):PySem.KeyKind prog w Key where
 is:=WA
 hash:=keyH w
 inj:=fun v a b ha hb=>by
  rcases xh ha with ⟨i,t,rfl,rfl⟩|⟨x,t,rfl,rfl⟩
  ·rcases xh hb with ⟨j,u,rfl,e⟩|⟨y,u,rfl,e⟩
   ·injection e with e1 _;rw[e1]
   ·exact nomatch e
  ·rcases xh hb with ⟨j,u,rfl,e⟩|⟨y,u,rfl,e⟩
   ·exact nomatch e
   ·injection e with e1 _;rw[e1]
 byValue:=fun k v h=>by
  rcases xh h with ⟨i,t,rfl,rfl⟩|⟨x,t,rfl,rfl⟩ <;> rfl
 pyHash:=fun hv h=>by
  rcases xh hv with ⟨i,t,rfl,rfl⟩|⟨x,t,rfl,rfl⟩
  ·exact wpAny_pyHash_int h
  ·exact wpAny_pyHash_str h
 eqBool:=fun hu hv h=>by
  rcases xh hu with ⟨i,t,rfl,rfl⟩|⟨x,t,rfl,rfl⟩
  ·rcases xh hv with ⟨j,u,rfl,rfl⟩|⟨y,u,rfl,rfl⟩
   ·rw[zp1] at h;exact wpAny_eqBool_int h
   ·rw[zp0] at h;exact SeqAt.EqAt.int_str i t y u _ _ _ _ h
  ·rcases xh hv with ⟨j,u,rfl,rfl⟩|⟨y,u,rfl,rfl⟩
   ·rw[zo9] at h;exact SeqAt.EqAt.str_int x t j u _ _ _ _ h
   ·rw[zo8] at h;exact wpAny_eqBool_str h
 «strs»:=fun k x t v h=>by
  rcases xh h with ⟨i,u,rfl,e⟩|⟨y,u,rfl,e⟩
  ·exact nomatch e
  ·injection e with e1 _
   subst e1
   cases v <;> rfl
theorem V3(prog:Program)(w:World)(i:Int)(t:Tok):(wa prog w).is (.inl i) (.int i t)=true:=QU i t
theorem V2(prog:Program)(w:World)(x:Str)(t:Tok):(wa prog w).is (.inr x) (.str x t)=true:=QT x t
inductive V where
 | non|bl (b:Bool) | int (i:Int) | str (x:Str) | byt (b:Array UInt8) | flt (b:UInt64) | ref (a:Addr) | ty (n:String)
 deriving DecidableEq
noncomputable def RelV:V→Value→Prop
 |.non,u=>u=Value.none
 |.bl b,u=>u=Value.bool b
 |.int i,u=>∃t,u=Value.int i t
 |.str x,u=>∃t,u=Value.str x t
 |.byt b,u=>∃t,u=Value.bytes b t
 |.flt b,u=>∃t,u=Value.float b t
 |.ref a,u=>u=Value.ref a
 |.ty n,u=>u=Value.type n
noncomputable abbrev Vals:List V→List Value→Prop:=Paired RelV
theorem Vals.length{xs:List V}{us:List Value}(r:Vals xs us):xs.length=us.length:=Paired.length r
theorem Vals.get:∀{xs:List V} {us:List Value} {i:Nat} {x:V},Vals xs us→xs[i]?=some x→∃u,us[i]?=some u∧RelV x u
 |_,_,_,_,.nil,e=>by simp at e
 |_,_,0,_,.cons r _,e=>by simp at e;subst e;exact⟨_,rfl,r⟩
 |_,_,i+1,x,.cons _ t,e=>by
  obtain⟨u,h1,h2⟩:=Vals.get (i:=i) (x:=x) t (by simpa using e)
  exact⟨u,by simpa using h1,h2⟩
theorem Vals.set{x:V}{u:Value}(r:RelV x u):∀{xs:List V} {us:List Value} (i:Nat),Vals xs us→Vals (xs.set i x) (us.set i u)
 |_,_,_,.nil=>.nil
 |_,_,0,.cons _ t=>.cons r t
 |_,_,i+1,.cons q t=>.cons q (Vals.set r i t)
theorem Vals.append:∀{xs ys:List V} {us ws:List Value},Vals xs us→Vals ys ws→Vals (xs++ys) (us++ws)
 |_,_,_,_,.nil,s=>s
 |_,_,_,_,.cons r t,s=>.cons r (Vals.append t s)
theorem Vals.take:∀{xs:List V} {us:List Value} (n:Nat),Vals xs us→Vals (xs.take n) (us.take n)
 |_,_,0,_=>.nil
 |_,_,_+1,.nil=>.nil
 |_,_,n+1,.cons r t=>.cons r (Vals.take n t)
theorem Vals.drop:∀{xs:List V} {us:List Value} (n:Nat),Vals xs us→Vals (xs.drop n) (us.drop n)
 |_,_,0,r=>r
 |_,_,_+1,.nil=>.nil
 |_,_,n+1,.cons _ t=>Vals.drop n t
noncomputable def RelO:Option V→Option Value→Prop
 |some v,some u=>RelV v u
 |none,none=>True
 |_,_=>False
noncomputable def KV{κ:Type}:List (κ×V)→List (κ×Value)→Prop:=Paired fun (p:κ×V) (q:κ×Value)=>p.1=q.1∧RelV p.2 q.2
noncomputable def kV:Key→V
 |.inl i=>.int i
 |.inr x=>.str x
inductive HO where
 | lst (xs:List V)
 | tup (xs:List V)
 | dK (kvs:List (Key×V)) | dT (kvs:List (List Key×V))
 | set (S:Int→Bool) (n:Nat)
 | ins (C dx:Addr) (fs:List (Str×V))
 | own (x:Addr)
 | xd (fs:List (Str×V))
 | met (f x:Addr)
 | rng (lo hi:Int)
 | frz (o:Obj) (u:HO)
 | tbl (ps:Array Value)
 | ext (φ:Heap→Prop)
noncomputable abbrev Hp:=Addr→Option HO
noncomputable def upd(H:Hp)(a:Addr)(o:HO):Hp:=fun b=>if b=a then some o else H b
theorem zJ{H:Hp}{a:Addr}{o:HO}:upd H a o a=some o:=by unfold upd;rw[if_pos rfl]
theorem zA{H:Hp}{a b:Addr}{o:HO}(h:b≠a):upd H a o b=H b:=by unfold upd;rw[if_neg h]
theorem ne_of{H:Hp}{a b:Addr}{o u:HO}(h:H a=some o)(h':H b=some u)(d:o≠u):a≠b:=by
 intro e;subst e;rw[h] at h';exact d (Option.some.inj h')
theorem z6{H:Hp}{a b:Addr}{o:HO}(h:H a=some o)(h':H b=none):a≠b:=by
 intro e;subst e;rw[h] at h';cases h'
section
variable(P:Program)(w:World)
noncomputable def ObjOk(H:Hp)(h:Heap)(a:Addr):HO→Prop
 |.lst xs=>xs.length≤sizeLine∧∃(its:List Value) (n:Nat),Vals xs its∧h.get? a=some { cls:=.type "list", data:=.seq its.toArray n }
 |.tup xs=>xs.length≤sizeLine∧∃its:List Value,Vals xs its∧IsTup h a its.toArray
 |.dK kvs=>kvs.length≤sizeLine∧(a==sysModules)=false∧∃vs,KV kvs vs∧h.DictOf (wa P w) a vs
 |.dT kvs=>kvs.length≤sizeLine∧(a==sysModules)=false∧∃xs:List (List Key×Addr×Value),
   Paired (fun (p:List Key×V) (q:List Key×Addr×Value)=>p.1=q.1∧H q.2.1=some (.tup (p.1.map kV))∧RelV p.2 q.2.2) kvs xs ∧
   ∃o es ep,h.get? a=some o∧o.ExactDict∧o.data=.dict es ep∧es.toList=xs.map (entryOfKey (tupleKind (wa P w)))∧(xs.map (·.1)).Nodup
 |.set S n=>h.SetOf (intKind P w) a S n
 |.ins C dx fs=>H dx=some (.own a)∧fs.length≤1000∧dx≠a∧h.get? a=some (PySem.W.instObj C dx) ∧
   ∃mA,h.Ns1 dx mA∧(∀f,RelO (fs.lookup f) (mA f))∧PySem.Within mA (fs.map (·.1))
 |.own _=>∃o,h.get? a=some o
 |.xd fs=>∃mA,h.Ns1 a mA∧∀f,RelO (fs.lookup f) (mA f)
 |.rng lo hi=>∃t u v,h.get? a=some { cls:=.type "range", data:=.fields #[.int lo t,.int hi u,.int 1 v] }
 |.frz o u=>h.get? a=some o∧ObjOk H h a u
 |.tbl ps=>h.get? a=some { cls:=.none,data:=.fields ps }
 |.met f x=>h.get? a=some (methodObj (.ref f) (.ref x))
 |.ext φ=>φ h∧(∃o,h.get? a=some o)∧∀h1 h2:Heap,φ h1→(∀o,h1.get? a=some o→h2.get? a=some o)→φ h2
noncomputable def HOk(H:Hp)(h:Heap):Prop:=∀a o,H a=some o→ObjOk P w H h a o
end
section
variable{P:Program}{w:World}{H H':Hp}{h h':Heap}{a:Addr}{o:HO}
theorem ObjOk.lt(x:ObjOk P w H h a o):a<h.objs.size:=by
 cases o with
 |lst xs=>obtain⟨_,_,_,_,e⟩:=x;exact Heap.lt_size e
 |tup xs=>obtain⟨_,_,_,p⟩:=x;exact p.lt
 |dK kvs=>obtain⟨_,_,_,_,o,_,_,e,_⟩:=x;exact Heap.lt_size e
 |dT kvs=>obtain⟨_,_,_,_,o,_,_,e,_⟩:=x;exact Heap.lt_size e
 |set S n=>obtain⟨o,_,_,_,e,_⟩:=x;exact Heap.lt_size e
 |ins C dx fs=>obtain⟨_,_,_,e,_⟩:=x;exact Heap.lt_size e
 |own y=>obtain⟨_,e⟩:=x;exact Heap.lt_size e
 |xd fs=>obtain⟨_,⟨_,_,_,e,_⟩,_⟩:=x;exact Heap.lt_size e
 |rng lo hi=>obtain⟨_,_,_,e⟩:=x;exact Heap.lt_size e
 |frz ob u=>obtain⟨e,_⟩:=x;exact Heap.lt_size e
 |tbl ps=>exact Heap.lt_size (show h.get? a=some _ from x)
 |met f y=>exact Heap.lt_size (show h.get? a=some _ from x)
 |ext φ=>obtain⟨_,⟨_,e⟩,_⟩:=x;exact Heap.lt_size e
theorem Paired.mapP{α β:Type}{F G:α→β→Prop}:∀{l₁:List α} {l₂:List β},Paired F l₁ l₂→(∀a b,F a b→G a b)→Paired G l₁ l₂
 |_,_,.nil,_=>.nil
 |_,_,.cons r t,f=>.cons (f _ _ r) (Paired.mapP t f)
theorem ObjOk.stay(x:ObjOk P w H h a o)(k:∀b u,(b=a∨H b=some (.own a))→h.get? b=some u→h'.get? b=some u)
  (ho:∀b,H b=some (.own a)→H' b=some (.own a)) (ht:∀b xs,H b=some (.tup xs)→H' b=some (.tup xs)):ObjOk P w H' h' a o:=by
 induction o with
 |lst xs=>obtain⟨z,its,n,r,e⟩:=x;exact⟨z,its,n,r,k _ _ (.inl rfl) e⟩
 |tup xs=>obtain⟨z,its,r,ob,e,c⟩:=x;exact⟨z,its,r,ob,k _ _ (.inl rfl) e,c⟩
 |dK kvs=>obtain⟨z,y,vs,r,ob,es,ep,e,c⟩:=x;exact⟨z,y,vs,r,ob,es,ep,k _ _ (.inl rfl) e,c⟩
 |dT kvs=>
  obtain⟨z,y,xs,r,ob,es,ep,e,c⟩:=x
  exact⟨z,y,xs,Paired.mapP r fun p q z=>⟨z.1,ht _ _ z.2.1,z.2.2⟩,ob,es,ep,k _ _ (.inl rfl) e,c⟩
 |set S n=>obtain⟨ob,es,ep,t,e,c⟩:=x;exact⟨ob,es,ep,t,k _ _ (.inl rfl) e,c⟩
 |ins C dx fs=>
  obtain⟨d,z,ne,e,mA,⟨od,es,ep,e2,c⟩,r⟩:=x
  exact⟨ho _ d,z,ne,k _ _ (.inl rfl) e,mA,⟨od,es,ep,k _ _ (.inr d) e2,c⟩,r⟩
 |own y=>obtain⟨ob,e⟩:=x;exact⟨ob,k _ _ (.inl rfl) e⟩
 |xd fs=>obtain⟨mA,⟨od,es,ep,e,c⟩,r⟩:=x;exact⟨mA,⟨od,es,ep,k _ _ (.inl rfl) e,c⟩,r⟩
 |rng lo hi=>obtain⟨t,u,v,e⟩:=x;exact⟨t,u,v,k _ _ (.inl rfl) e⟩
 |frz ob u ih=>obtain⟨e,q⟩:=x;exact⟨k _ _ (.inl rfl) e,ih q⟩
 |tbl ps=>
  have e:h.get? a=some { cls:=.none,data:=.fields ps }:=x
  show h'.get? a=some { cls:=.none,data:=.fields ps }
  exact k a _ (.inl rfl) e
 |met f y=>
  have e:h.get? a=some (methodObj (.ref f) (.ref y)):=x
  show h'.get? a=some (methodObj (.ref f) (.ref y))
  exact k a _ (.inl rfl) e
 |ext φ=>obtain⟨p,⟨o,e⟩,st⟩:=x;exact⟨st _ _ p fun o q=>k _ _ (.inl rfl) q,⟨o,k _ _ (.inl rfl) e⟩,st⟩
theorem HOk.lt(x:HOk P w H h)(e:H a=some o):a<h.objs.size:=(x a o e).lt
theorem HOk.fresh(x:HOk P w H h)(e:h.objs.size≤a):H a=none:=by
 cases q:H a with
 |none=>rfl
 |some u=>exact absurd (lt_of_lt_of_le (x.lt q) e) (lt_irrefl _)
theorem HOk.kept(x:HOk P w H h)(k:∀b u,h.get? b=some u→h'.get? b=some u):HOk P w H h':=fun a o e=>
 (x a o e).stay (fun b u _ q=>k b u q) (fun _ q=>q) fun _ _ q=>q
theorem HOk.laid(x:HOk P w H h)(k:∀b u,h.get? b=some u→h'.get? b=some u)(hp:h.objs.size≤a)(new:ObjOk P w (upd H a o) h' a o):HOk P w (upd H a o) h':=fun b u e=>by
 have hn:=x.fresh hp
 by_cases hb:b=a
 ·subst hb;rw[zJ] at e;cases e;exact new
 ·rw[zA hb] at e
  exact(x b u e).stay (fun c v _ q=>k c v q) (fun c q=>by rw[zA (z6 q hn)];exact q) fun c xs q=>by rw[zA (z6 q hn)];exact q
end
noncomputable def Rd(H:Hp)(a:Addr)(u:HO):Prop:=H a=some u∨∃o,H a=some (.frz o u)
theorem Rd.ok{P:Program}{w:World}{H:Hp}{h:Heap}{a:Addr}{u:HO}(r:Rd H a u)(x:HOk P w H h):ObjOk P w H h a u:=by
 rcases r with r|⟨o,r⟩
 ·exact x a u r
 ·obtain⟨_,q⟩:=x a _ r
  exact q
noncomputable def Mut:Option HO→Prop
 | some (.lst _)=>True
 | some (.dK _)=>True
 | some (.dT _)=>True
 | some (.set _ _)=>True
 | some (.ins _ _ _)=>True
 | some (.ext _)=>True
 |_=>False
section
variable{P:Program}{w:World}{H:Hp}{h h':Heap}{x e:Addr}{o':HO}
theorem HOk.write(ok:HOk P w H h)(mu:Mut (H x))(he:e=x∨H e=some (.own x))(k:∀b u,b≠e→h.get? b=some u→h'.get? b=some u)(heo:∃u,h'.get? e=some u)
  (new:ObjOk P w (upd H x o') h' x o'):HOk P w (upd H x o') h':=fun b u q=>by
 have nown:∀c y,H c=some (.own y)→c≠x:=fun c y r z=>by subst z;rw[r] at mu;exact mu
 have ntup:∀c xs,H c=some (.tup xs)→c≠x:=fun c xs r z=>by subst z;rw[r] at mu;exact mu
 by_cases hb:b=x
 ·subst hb;rw[zJ] at q;cases q;exact new
 ·rw[zA hb] at q
  by_cases hbe:b=e
  ·have q':H b=some (.own x):=by
    rcases he with z|z
    ·exact absurd (hbe.trans z) hb
    ·rw[hbe];exact z
   rw[q] at q';cases q'
   obtain⟨v,hv⟩:=heo
   exact⟨v,by rw[hbe];exact hv⟩
  ·refine(ok b u q).stay (fun c v hc r=>k c v ?_ r) (fun c r=>by rw[zA (nown c b r)];exact r) fun c xs r=>by rw[zA (ntup c xs r)];exact r
   rcases hc with rfl|hc
   ·exact hbe
   ·rintro rfl
    rcases he with z|z
    ·exact nown c b hc z
    ·rw[hc] at z;cases z;exact hb rfl
end
structure Un(fs ex:List Addr)(H H':Hp)(h h':Heap):Prop where
 keep:∀b o,h.get? b=some o→H b=none→b∉fs→b∉ex→h'.get? b=some o
 slot:∀b o,h.get? b=some o→H b=none→b∈fs→b∉ex→∃sl,h'.get? b=some { o with slots:=sl }
 free:∀b o,h.get? b=some o→H b=none→b∉ex→H' b=none
 there:∀b o,h.get? b=some o→b∉ex→∃o',h'.get? b=some o'
 tups:∀b xs,H b=some (.tup xs)→H' b=some (.tup xs)
 frzs:∀b o u,H b=some (.frz o u)→H' b=some (.frz o u)
 tbls:∀b ps,H b=some (.tbl ps)→∃more,H' b=some (.tbl (ps++more))
section
variable{fs fs' ex ex':List Addr}{H H1 H2:Hp}{h h1 h2 h':Heap}{a x e:Addr}{o:HO}
theorem Un.any(u:Un fs ex H H1 h h1){b:Addr}{ob:Obj}(q:h.get? b=some ob)(n:H b=none)(hx:b∉ex):∃sl,h1.get? b=some { ob with slots:=sl }:=by
 by_cases hb:b∈fs
 ·exact u.slot b ob q n hb hx
 ·exact⟨ob.slots,u.keep b ob q n hb hx⟩
theorem Un.kept(k:∀b u,h.get? b=some u→h'.get? b=some u):Un fs ex H H h h':=
 ⟨fun b ob q _ _ _=>k b ob q,fun b ob q _ _ _=>⟨ob.slots,k b ob q⟩,fun _ _ _ n _=>n,fun b ob q _=>⟨ob,k b ob q⟩,fun _ _ q=>q,fun _ _ _ q=>q,fun _ ps q=>⟨#[],by rw[q];simp⟩⟩
theorem Un.refl:Un fs ex H H h h:=Un.kept fun _ _ q=>q
theorem Un.laid(k:∀b u,h.get? b=some u→h'.get? b=some u)(hp:h.objs.size≤a)(hn:H a=none):Un fs ex H (upd H a o) h h' where
 keep:=fun b u q _ _ _=>k b u q
 slot:=fun b u q _ _ _=>⟨u.slots,k b u q⟩
 free:=fun b u q n _=>by rw[zA (ne_of_lt (lt_of_lt_of_le (Heap.lt_size q) hp))];exact n
 there:=fun b u q _=>⟨u,k b u q⟩
 tups:=fun b xs q=>by rw[zA (z6 q hn)];exact q
 frzs:=fun b u xs q=>by rw[zA (z6 q hn)];exact q
 tbls:=fun b ps q=>⟨#[],by rw[zA (z6 q hn),q];simp⟩
theorem Un.write(mu:Mut (H x))(he:e=x∨H e=some (.own x))(k:∀b u,b≠e→h.get? b=some u→h'.get? b=some u)(heo:∃u,h'.get? e=some u):Un fs ex H (upd H x o) h h':=by
 have hx:∀b,H b=none→b≠x:=fun b n z=>by subst z;rw[n] at mu;exact mu
 have hb:∀b,H b=none→b≠e:=fun b n z=>by
  subst z
  rcases he with r|r
  ·exact hx b n r
  ·rw[n] at r;cases r
 have hm:∀b u,H b=some u→¬ Mut (some u)→b≠x:=fun b u q nm z=>by subst z;rw[q] at mu;exact nm mu
 refine⟨fun b u q n _ _=>k b u (hb b n) q,fun b u q n _ _=>⟨u.slots,k b u (hb b n) q⟩,fun b u q n _=>by rw[zA (hx b n)];exact n,fun b u q _=>?_,
  fun b xs q=>by rw[zA (hm b _ q fun z=>z)];exact q,fun b u xs q=>by rw[zA (hm b _ q fun z=>z)];exact q,fun b ps q=>⟨#[],by rw[zA (hm b _ q fun z=>z),q];simp⟩⟩
 by_cases hbe:b=e
 ·subst hbe;exact heo
 ·exact⟨u,k b u hbe q⟩
end
noncomputable def trk(h:Heap)(H:Hp):List Addr:=(List.range h.objs.size).filter fun a=>(H a).isSome
noncomputable def X2(h:Heap)(H:Hp):Heap:=PySem.W.hideAll h (trk h H)
theorem Q2(h:Heap)(H:Hp):(X2 h H).objs.size=h.objs.size:=PySem.W.hideAll_size _ _
theorem M2{h:Heap}{H:Hp}{b:Addr}{o:Obj}(e:h.get? b=some o)(n:H b=none):(X2 h H).get? b=some o:=
 PySem.W.hideAll_get _ e fun hm=>by
  have q:(H b).isSome=true:=(mem_filter.mp hm).2
  rw[n] at q;simp at q
theorem LW{h:Heap}{H:Hp}{b:Addr}{o:Obj}(e:(X2 h H).get? b=some o):h.get? b=some o∧H b=none:=by
 have e':h.get? b=some o:=PySem.W.of_hideAll (trk h H) e
 refine⟨e',?_⟩
 cases q:H b with
 |none=>rfl
 |some x=>
  have hm:b∈trk h H:=mem_filter.mpr ⟨mem_range.mpr (Heap.lt_size e'),by simp[q]⟩
  have z:(X2 h H).get? b=none:=PySem.W.hideAll_none (trk h H) hm
  rw[z] at e;cases e
noncomputable def zf5(g h:Heap)(L:Addr):List (Addr×Obj):=(List.range h.objs.size).filterMap fun a=>if a=L∨(g.get? a).isSome=true then none else (h.get? a).map fun o=>(a,o)
noncomputable def rest(g h:Heap)(L d:Addr):List (Addr×Obj):=(zf5 g h L).filter fun p=>decide (p.1≠d)
structure Mod(K:Frag)(mg:Str→Option Value)(base:Heap):Prop where
 kin:K.In base
 glob:base.Ns mainGlobals mg
 blt:∃mb,base.Ns builtinsNs mb∧∀x:Str,x ≠ "__name__" → mb x=bootBuiltins x
 nolimit:base.NoLimit
structure Cx where
 prog:Program
 w:World
 K:Frag
 mg:Str→Option Value
 base:Heap
 A:Around
 N:List Str
 s₀:Shared
 H₀:Hp
 env:Env
 outer:List Env
 stack:List Env
 ex:List Addr
 fn:Str→Bool
 calm:Bool
 pn:List (Addr×Obj)
 xe:Value→Shared→Prop
noncomputable def frs(l:List Env):List Addr:=l.filterMap (·.frame)
noncomputable abbrev Cx.fs(X:Cx):List Addr:=frs X.outer
noncomputable def Vis(sc:Scope)(x:Str):Prop:=sc.names.lookup x=some .local∨sc.names.lookup x=some .cell∨sc.names.lookup x=some .free
noncomputable def Loc(sc:Scope)(x:Str):Prop:=sc.names.lookup x=some .local∨sc.names.lookup x=some .cell
noncomputable def Look(env:Env)(h:Heap)(m:Str→Option Value)(x:Str)(u:Value):Prop:=
 (env.kindOf x=some .local∧m x=some u)∨((env.kindOf x=some .cell∨env.kindOf x=some .free)∧∃c,env.cells.lookup x=some c∧h.IsCell c (some u))
structure Cx.Ok(X:Cx):Prop where
 mod:Mod X.K X.mg X.base
 kind:X.env.scope.kind=.function
 glob:X.env.globals=mainGlobals
 blt:X.env.builtins=builtinsNs
 above:X.s₀.heap.objs.size≤X.env.locals
 inj:∀x y c,X.env.cells.lookup x=some c→X.env.cells.lookup y=some c→x=y
 has:∀x,(X.env.kindOf x=some .cell∨X.env.kindOf x=some .free)→∃c,X.env.cells.lookup x=some c
 cab:∀x c,X.fn x=true→X.env.cells.lookup x=some c→X.s₀.heap.objs.size≤c
 hd:X.calm=true→X.A.handled=none
 frames:X.A.frames=some X.stack
 stk:X.stack=X.outer∨(X.stack=X.env::X.outer∧X.env.frame=some X.env.locals)
 exf:∀b∈X.ex,b≠X.env.locals∧∀x c,X.env.cells.lookup x=some c→c≠b
 bs:∀b o,X.base.get? b=some o→X.s₀.heap.get? b=some o∧X.H₀ b=none
 bsz:X.base.objs.size≤X.s₀.heap.objs.size
 noex:∀b o,X.base.get? b=some o→b∉X.ex
 exfs:∀b∈X.ex,b∉X.fs
 funs:X.s₀.heap.FunFrames X.base X.outer
 frf:∀b∈X.fs,X.H₀ b=none
structure Inv(X:Cx)(pins:List (Addr×Obj))(σ:List (Option V))(H:Hp)(s:Shared):Prop where
 ok:X.Ok
 os:s.os=X.s₀.os
 bare:AllBare s.gens
 base:Un X.fs X.ex X.H₀ H X.s₀.heap s.heap
 loc:∃m,s.heap.Ns X.env.locals m∧∀(i:Nat) (x:Str) (v:V),X.N[i]?=some x→σ[i]?=some (some v)→Vis X.env.scope x→∃u,RelV v u∧Look X.env s.heap m x u
 cell:∀x c,X.env.cells.lookup x=some c→∃v,s.heap.IsCell c v
 free:H X.env.locals=none
 freeC:∀x c,X.env.cells.lookup x=some c→H c=none
 pin:∀p∈X.pn++pins,s.heap.get? p.1=some p.2∧H p.1=none∧p.1≠X.env.locals∧p.1∉X.fs∧∀v,p.2.data≠.cell v
 hok:HOk X.prog X.w H s.heap
 len:σ.length=X.N.length
section
variable{X:Cx}{pins:List (Addr×Obj)}{σ:List (Option V)}{H H':Hp}{s:Shared}{h':Heap}
theorem Cx.Ok.nofr(ok:X.Ok){b:Addr}{o:Obj}(e:X.base.get? b=some o):b∉X.fs:=fun hb=>by
 have:=(ok.funs.mem hb).1
 rw[e] at this;cases this
theorem Inv.bs(I:Inv X pins σ H s):∀b o,X.base.get? b=some o→s.heap.get? b=some o∧H b=none:=fun b o e=>
 ⟨I.base.keep b o (I.ok.bs b o e).1 (I.ok.bs b o e).2 (I.ok.nofr e) (I.ok.noex b o e),I.base.free b o (I.ok.bs b o e).1 (I.ok.bs b o e).2 (I.ok.noex b o e)⟩
theorem Inv.bk(I:Inv X pins σ H s):∀b o,X.base.get? b=some o→s.heap.get? b=some o:=fun b o e=>(I.bs b o e).1
theorem Inv.mod(I:Inv X pins σ H s):Mod X.K X.mg X.base:=I.ok.mod
theorem Inv.kIn(I:Inv X pins σ H s):X.K.In s.heap:=I.ok.mod.kin.keeps I.bk
theorem Inv.lt(I:Inv X pins σ H s):X.env.locals<s.heap.objs.size:=let ⟨_,hn,_⟩:=I.loc;hn.lt
theorem Inv.sz(I:Inv X pins σ H s):X.s₀.heap.objs.size≤s.heap.objs.size:=le_trans I.ok.above (le_of_lt I.lt)
theorem Inv.nofs(I:Inv X pins σ H s){a:Addr}(h:s.heap.objs.size≤a):a∉X.fs:=fun hb=>by
 obtain⟨_,o,ho,_⟩:=I.ok.funs.mem hb
 exact absurd (lt_of_lt_of_le (Heap.lt_size ho) (le_trans I.sz h)) (lt_irrefl _)
theorem Inv.cne(I:Inv X pins σ H s):∀x c,X.env.cells.lookup x=some c→c≠X.env.locals:=fun x c e z=>by
 obtain⟨v,o,ho,hd⟩:=I.cell x c e
 obtain⟨m,⟨o',es,ep,ho',hd',_⟩,_⟩:=I.loc
 rw[z,ho'] at ho;cases ho;rw[hd'] at hd;cases hd
theorem Inv.funs(I:Inv X pins σ H s):s.heap.FunFrames X.base X.outer:=by
 have all:∀(l:List Env),(∀b∈frs l,b∈X.fs)→X.s₀.heap.FunFrames X.base l→s.heap.FunFrames X.base l:=by
  intro l
  induction l with
  |nil=>intro _ _;trivial
  |cons env r ih=>
   intro hs hl
   obtain⟨hk,⟨L,o,hf,hn,ho,hd⟩,hr⟩:=hl
   have hL:L∈X.fs:=hs L (by unfold frs;rw[filterMap_cons,hf];exact mem_cons_self)
   obtain⟨sl,e⟩:=I.base.slot L o ho (I.ok.frf L hL) hL fun z=>I.ok.exfs L z hL
   exact⟨hk,⟨L,_,hf,hn,e,hd⟩,ih (fun b hb=>hs b (by unfold frs;rw[filterMap_cons,hf];exact mem_cons_of_mem _ hb)) hr⟩
 exact all X.outer (fun _ hb=>hb) I.ok.funs
theorem Inv.stack(I:Inv X pins σ H s):s.heap.FunFrames X.base X.stack:=by
 rcases I.ok.stk with e|⟨e,hf⟩
 ·rw[e];exact I.funs
 ·rw[e]
  obtain⟨m,hn,_⟩:=I.loc
  refine .cons (by rw[I.ok.kind];decide) hf hn ?_ I.funs
  exact Heap.get?_none_of_le (le_trans I.ok.bsz I.ok.above)
theorem Inv.stkSub(I:Inv X pins σ H s):∀b∈frs X.stack,b∈X.env.locals::X.fs:=fun b hb=>by
 rcases I.ok.stk with e|⟨e,hf⟩
 ·rw[e] at hb;exact mem_cons_of_mem _ hb
 ·rw[e] at hb
  unfold frs at hb
  rw[filterMap_cons,hf] at hb
  exact hb
theorem Inv.stkFree(I:Inv X pins σ H s):∀b∈frs X.stack,H b=none:=fun b hb=>by
 rcases mem_cons.mp (I.stkSub b hb) with e|hb
 ·rw[e];exact I.free
 ·obtain⟨_,o,ho,_⟩:=I.ok.funs.mem hb
  exact I.base.free b o ho (I.ok.frf b hb) fun z=>I.ok.exfs b z hb
theorem Inv.step{g':Array GenState}{t':Nat}{d':Drawn}{ch:List Addr}(I:Inv X pins σ H s)
  (hch:∀b∈ch,(b∈X.ex∨X.s₀.heap.objs.size≤b)∧b≠X.env.locals∧(∀x c,X.env.cells.lookup x=some c→c≠b)∧∀p∈X.pn++pins,p.1≠b)
  (keep:∀b o,b≠X.env.locals→b∉X.fs→b∉ch→s.heap.get? b=some o→H b=none→h'.get? b=some o)
  (slot:∀b o,b≠X.env.locals→b∈X.fs→b∉ch→s.heap.get? b=some o→H b=none→∃sl,h'.get? b=some { o with slots:=sl }) (free:∀b o,b∉ch→s.heap.get? b=some o→H b=none→H' b=none)
  (there:∀b o,b∉ch→s.heap.get? b=some o→∃o',h'.get? b=some o')
  (tups:∀b xs,H b=some (.tup xs)→H' b=some (.tup xs)) (frzs:∀b o u,H b=some (.frz o u)→H' b=some (.frz o u)) (tbls:∀b ps,H b=some (.tbl ps)→∃more,H' b=some (.tbl (ps++more)))
  (ns:∀m,s.heap.Ns X.env.locals m→h'.Ns X.env.locals m) (hok:HOk X.prog X.w H' h') (hg:AllBare g') :
  Inv X pins σ H' { s with heap:=h',gens:=g',drawn:=d',toks:=t' }:=by
 have neL:∀b o,X.s₀.heap.get? b=some o→b≠X.env.locals:=fun b o e=>ne_of_lt (lt_of_lt_of_le (Heap.lt_size e) I.ok.above)
 have neC:∀b o,X.s₀.heap.get? b=some o→b∉X.ex→b∉ch:=fun b o e hx hb=>by
  rcases (hch b hb).1 with z|z
  ·exact hx z
  ·exact absurd (lt_of_lt_of_le (Heap.lt_size e) z) (lt_irrefl _)
 have cellK:∀x c,X.env.cells.lookup x=some c→∀v,s.heap.IsCell c v→h'.IsCell c v:=fun x c e v z_=>by
  obtain⟨o,ho,hd⟩:=z_
  have nch:c∉ch:=fun z=>(hch c z).2.2.1 x c e rfl
  by_cases hc:c∈X.fs
  ·obtain⟨sl,q⟩:=slot c o (I.cne x c e) hc nch ho (I.freeC x c e)
   exact⟨_,q,hd⟩
  ·exact⟨o,keep c o (I.cne x c e) hc nch ho (I.freeC x c e),hd⟩
 refine⟨I.ok,I.os,hg,⟨fun b o e n hb hx=>?_,fun b o e n hb hx=>?_,fun b o e n hx=>?_,fun b o e hx=>?_,fun b xs e=>tups b xs (I.base.tups b xs e),fun b o xs e=>frzs b o xs (I.base.frzs b o xs e),fun b ps e=>?_⟩,?_,fun x c e=>?_,?_,fun x c e=>?_,fun p hp=>?_,hok,I.len⟩
 ·exact keep b o (neL b o e) hb (neC b o e hx) (I.base.keep b o e n hb hx) (I.base.free b o e n hx)
 ·obtain⟨sl,e1⟩:=I.base.slot b o e n hb hx
  obtain⟨sl',e2⟩:=slot b _ (neL b o e) hb (neC b o e hx) e1 (I.base.free b o e n hx)
  exact⟨sl',e2⟩
 ·obtain⟨o',e1⟩:=I.base.there b o e hx
  exact free b o' (neC b o e hx) e1 (I.base.free b o e n hx)
 ·obtain⟨o',e1⟩:=I.base.there b o e hx
  exact there b o' (neC b o e hx) e1
 ·obtain⟨m1,e1⟩:=I.base.tbls b ps e
  obtain⟨m2,e2⟩:=tbls b _ e1
  exact⟨m1++m2,by rw[e2,Array.append_assoc]⟩
 ·obtain⟨m,hn,hl⟩:=I.loc
  refine⟨m,ns m hn,fun i x v e1 e2 e3=>?_⟩
  obtain⟨u,r,l⟩:=hl i x v e1 e2 e3
  refine⟨u,r,?_⟩
  rcases l with l|⟨k,c,e,z⟩
  ·exact .inl l
  ·exact .inr ⟨k,c,e,cellK x c e _ z⟩
 ·obtain⟨v,z⟩:=I.cell x c e
  exact⟨v,cellK x c e v z⟩
 ·obtain⟨m,⟨o,_,_,ho,_⟩,_⟩:=I.loc
  exact free _ o (fun z=>(hch _ z).2.1 rfl) ho I.free
 ·obtain⟨v,o,ho,hd⟩:=I.cell x c e
  exact free c o (fun z=>(hch c z).2.2.1 x c e rfl) ho (I.freeC x c e)
 ·obtain⟨e,n,ne,nf,d⟩:=I.pin p hp
  have nch:p.1∉ch:=fun z=>(hch p.1 z).2.2.2 p hp rfl
  exact⟨keep p.1 p.2 ne nf nch e n,free p.1 p.2 nch e n,ne,nf,d⟩
theorem Inv.un{t':Nat}(I:Inv X pins σ H s)(u:Un X.fs [] H H' s.heap h')(hok:HOk X.prog X.w H' h'):Inv X pins σ H' { s with heap:=h',toks:=t' }:=by
 obtain⟨m,⟨o,es,ep,ho,r⟩,_⟩:=id I.loc
 obtain⟨sl,hL⟩:=u.any ho I.free (by simp)
 exact I.step (g':=s.gens) (d':=s.drawn) (ch:=[]) (fun _ z=>nomatch z) (fun b o _ hb _ e n=>u.keep b o e n hb (by simp)) (fun b o _ hb _ e n=>u.slot b o e n hb (by simp)) (fun b o _ e n=>u.free b o e n (by simp)) (fun b o _ e=>u.there b o e (by simp)) u.tups u.frzs u.tbls (fun m' hm=>by
  obtain⟨o',es',ep',ho',r'⟩:=hm
  rw[ho] at ho';cases ho'
  exact⟨_,es',ep',hL,r'⟩) hok I.bare
theorem Inv.call{g':Array GenState}{t':Nat}{d':Drawn}{ch:List Addr}(I:Inv X pins σ H s)(u:Un (frs X.stack) ch H H' s.heap h')(hok:HOk X.prog X.w H' h')(hg:AllBare g')
  (hch:∀b∈ch,(b∈X.ex∨X.s₀.heap.objs.size≤b)∧b≠X.env.locals∧(∀x c,X.env.cells.lookup x=some c→c≠b)∧∀p∈X.pn++pins,p.1≠b) :
  Inv X pins σ H' { s with heap:=h',gens:=g',drawn:=d',toks:=t' }:=by
 obtain⟨m,⟨o,es,ep,ho,r⟩,_⟩:=id I.loc
 obtain⟨sl,hL⟩:=u.any ho I.free fun z=>(hch _ z).2.1 rfl
 exact I.step (ch:=ch) hch (fun b o hL hb hc e n=>u.keep b o e n (fun z=>(mem_cons.mp (I.stkSub b z)).elim hL hb) hc) (fun b o _ _ hc e n=>u.any e n hc) (fun b o hc e n=>u.free b o e n hc) (fun b o hc e=>u.there b o e hc) u.tups u.frzs u.tbls (fun m' hm=>by
  obtain⟨o',es',ep',ho',r'⟩:=hm
  rw[ho] at ho';cases ho'
  exact⟨_,es',ep',hL,r'⟩) hok hg
theorem Inv.turned{t':Nat}{it:Addr}(I:Inv X pins σ H s)(k:∀b o,b≠it→s.heap.get? b=some o→h'.get? b=some o)(hn:H it=none)(hL:it≠X.env.locals)
  (h1:it∈X.ex∨X.s₀.heap.objs.size≤it) (h2:∀x c,X.env.cells.lookup x=some c→c≠it) (h3:∀p∈X.pn++pins,p.1≠it):Inv X pins σ H { s with heap:=h',toks:=t' }:=by
 have nit:∀b u,H b=some u→b≠it:=fun b u e z=>by rw[z,hn] at e;cases e
 refine I.step (g':=s.gens) (d':=s.drawn) (ch:=[it]) (fun b hb=>?_) (fun b o _ _ hc e _=>k b o (fun z=>hc (by simp[z])) e) (fun b o _ _ hc e _=>⟨o.slots,k b o (fun z=>hc (by simp[z])) e⟩) (fun _ _ _ _ n=>n)
  (fun b o hc e=>⟨o,k b o (fun z=>hc (by simp[z])) e⟩) (fun _ _ e=>e) (fun _ _ _ e=>e) (fun b ps e=>⟨#[],by rw[e];simp⟩) (fun m hm=>?_) (fun b u e=>?_) I.bare
 ·have e:b=it:=by simpa using hb
  subst e
  exact⟨h1,hL,h2,h3⟩
 ·obtain⟨o,es,ep,ho,r⟩:=hm
  exact⟨o,es,ep,k _ o (Ne.symm hL) ho,r⟩
 ·refine(I.hok b u e).stay (fun c v hc q=>k c v ?_ q) (fun _ q=>q) fun _ _ q=>q
  rcases hc with z|z
  ·rw[z];exact nit b u e
  ·exact nit c _ z
theorem Inv.tok(I:Inv X pins σ H s)(t:Nat):Inv X pins σ H { s with toks:=t }:=I.un (h':=s.heap) (t':=t) Un.refl I.hok
theorem Inv.kept{t':Nat}(I:Inv X pins σ H s)(k:∀b u,s.heap.get? b=some u→h'.get? b=some u):Inv X pins σ H { s with heap:=h',toks:=t' }:=I.un (Un.kept k) (I.hok.kept k)
theorem Inv.laid{a:Addr}{o:HO}{t':Nat}(I:Inv X pins σ H s)(k:∀b u,s.heap.get? b=some u→h'.get? b=some u)(hp:s.heap.objs.size≤a)(new:ObjOk X.prog X.w (upd H a o) h' a o) :
  Inv X pins σ (upd H a o) { s with heap:=h',toks:=t' }:=I.un (Un.laid k hp (I.hok.fresh hp)) (I.hok.laid k hp new)
theorem Inv.write{x e:Addr}{o:HO}{t':Nat}(I:Inv X pins σ H s)(mu:Mut (H x))(he:e=x∨H e=some (.own x))(k:∀b u,b≠e→s.heap.get? b=some u→h'.get? b=some u)(heo:∃u,h'.get? e=some u)
  (new:ObjOk X.prog X.w (upd H x o) h' x o):Inv X pins σ (upd H x o) { s with heap:=h',toks:=t' }:=I.un (Un.write mu he k heo) (I.hok.write mu he k heo new)
theorem Inv.pins_of{pins':List (Addr×Obj)}(I:Inv X pins σ H s)(h:∀p∈pins',s.heap.get? p.1=some p.2∧H p.1=none∧p.1≠X.env.locals∧p.1∉X.fs∧∀v,p.2.data≠.cell v):Inv X pins' σ H s:=
 ⟨I.ok,I.os,I.bare,I.base,I.loc,I.cell,I.free,I.freeC,fun p hp=>(mem_append.mp hp).elim (fun z=>I.pin p (mem_append_left _ z)) (h p),I.hok,I.len⟩
theorem V1{N:List Str}(hN:N.Nodup){i j:Nat}{x:Str}(a:N[i]?=some x)(b:N[j]?=some x):i=j:=by
 obtain⟨h1,e1⟩:=List.getElem?_eq_some_iff.mp a
 obtain⟨h2,e2⟩:=List.getElem?_eq_some_iff.mp b
 exact(List.getElem_inj hN).mp (e1.trans e2.symm)
theorem X8{M:Model}{A:Around}{E:Value→Shared→Prop}{i:Nat}{x:Str}{v:V}{u:Value}{Q:Unit→Shared→Prop}(I:Inv X pins σ H s)(hN:X.N.Nodup)(hi:X.N[i]?=some x)(hx:Loc X.env.scope x)(r:RelV v u)
  (h:∀s',Inv X pins (σ.set i (some v)) H s'→(∃a,Heap.SameBut a s.heap s'.heap∧(a=X.env.locals∨X.env.cells.lookup x=some a))→Q () s') (hf:X.fn x=true∨X.env.scope.names.lookup x=some .local:=by first|exact .inl rfl|exact .inr rfl|assumption):wpAny M A (storeName X.env x u) Q E s:=by
 obtain⟨m,hn,hl⟩:=id I.loc
 have hcls:(X.env.scope.kind == .class||(X.env.scope.kind == .module&&X.env.locals != X.env.globals))=false:=by rw[I.ok.kind];rfl
 have hiσ:i<σ.length:=by rw[I.len];exact(List.getElem?_eq_some_iff.mp hi).1
 have cne:=I.cne
 have tracked:∀{a:Addr} {h':Heap},(∃o,s.heap.get? a=some o∧H a=none)→Heap.SameBut a s.heap h'→HOk X.prog X.w H h':=fun {a h'} ha hs b ob e=>by
  obtain⟨_,_,hfree⟩:=ha
  refine(I.hok b ob e).stay (fun c w' hc q=>(hs.2 c ?_).trans q) (fun _ q=>q) fun _ _ q=>q
  rintro rfl
  rcases hc with rfl|hc
  ·rw[hfree] at e;cases e
  ·rw[hfree] at hc;cases hc
 rcases hx with hk|hk
 ·refine wpAny_storeName_local hk hn (fun h' hn' hs=>?_) hcls
  obtain⟨oL,_,_,hoL,_⟩:=id hn
  refine h _ ⟨I.ok,I.os,I.bare,⟨fun b o e n hb hx=>?_,fun b o e n hb hx=>?_,I.base.free,fun b o e hx=>?_,I.base.tups,I.base.frzs,I.base.tbls⟩,⟨_,hn',fun j y v' e1 e2 e3=>?_⟩,fun y c e=>?_,I.free,I.freeC,fun p hp=>?_,tracked ⟨oL,hoL,I.free⟩ hs,by simpa using I.len⟩ ⟨_,hs,.inl rfl⟩
  ·exact(hs.2 b (ne_of_lt (lt_of_lt_of_le (Heap.lt_size e) I.ok.above))).trans (I.base.keep b o e n hb hx)
  ·obtain⟨sl,e1⟩:=I.base.slot b o e n hb hx
   exact⟨sl,(hs.2 b (ne_of_lt (lt_of_lt_of_le (Heap.lt_size e) I.ok.above))).trans e1⟩
  ·obtain⟨o',e1⟩:=I.base.there b o e hx
   exact⟨o',(hs.2 b (ne_of_lt (lt_of_lt_of_le (Heap.lt_size e) I.ok.above))).trans e1⟩
  ·by_cases hj:j=i
   ·subst hj
    rw[hi] at e1;cases e1
    rw[getElem?_set_self hiσ] at e2
    cases e2
    exact⟨u,r,.inl ⟨hk,by simp⟩⟩
   ·rw[getElem?_set_ne (Ne.symm hj)] at e2
    obtain⟨u',r',q⟩:=hl j y v' e1 e2 e3
    refine⟨u',r',?_⟩
    rcases q with ⟨k,e⟩|⟨k,c,e,z⟩
    ·refine .inl ⟨k,?_⟩
     have:y≠x:=fun e=>hj (V1 hN e1 (e ▸ hi))
     simp[this,e]
    ·exact .inr ⟨k,c,e,z.sameBut hs (cne y c e)⟩
  ·obtain⟨w',z⟩:=I.cell y c e
   exact⟨w',z.sameBut hs (cne y c e)⟩
  ·obtain⟨e,n,ne,nf,d⟩:=I.pin p hp
   exact⟨(hs.2 p.1 ne).trans e,n,ne,nf,d⟩
 ·have hfn:X.fn x=true:=by
   rcases hf with z|z
   ·exact z
   ·rw[z] at hk;cases hk
  obtain⟨c,hc⟩:=I.ok.has x (.inl hk)
  obtain⟨w',z⟩:=I.cell x c hc
  refine wpAny_storeName_cell I.ok.kind hk hc z (fun h' hc' hs=>?_)
  obtain⟨oc,hoc,hocd⟩:=id z
  refine h { s with heap:=h' } ⟨I.ok,I.os,I.bare,⟨fun b o e n hb hx=>?_,fun b o e n hb hx=>?_,I.base.free,fun b o e hx=>?_,I.base.tups,I.base.frzs,I.base.tbls⟩,⟨m,hn.sameBut hs (Ne.symm (cne x c hc)),fun j y v' e1 e2 e3=>?_⟩,fun y c' e=>?_,I.free,I.freeC,fun p hp=>?_,tracked ⟨oc,hoc,I.freeC x c hc⟩ hs,by simpa using I.len⟩ ⟨c,hs,.inr hc⟩
  ·exact(hs.2 b (ne_of_lt (lt_of_lt_of_le (Heap.lt_size e) (I.ok.cab x c hfn hc)))).trans (I.base.keep b o e n hb hx)
  ·obtain⟨sl,e1⟩:=I.base.slot b o e n hb hx
   exact⟨sl,(hs.2 b (ne_of_lt (lt_of_lt_of_le (Heap.lt_size e) (I.ok.cab x c hfn hc)))).trans e1⟩
  ·obtain⟨o',e1⟩:=I.base.there b o e hx
   exact⟨o',(hs.2 b (ne_of_lt (lt_of_lt_of_le (Heap.lt_size e) (I.ok.cab x c hfn hc)))).trans e1⟩
  ·by_cases hj:j=i
   ·subst hj
    rw[hi] at e1;cases e1
    rw[getElem?_set_self hiσ] at e2
    cases e2
    exact⟨u,r,.inr ⟨.inl hk,c,hc,hc'⟩⟩
   ·rw[getElem?_set_ne (Ne.symm hj)] at e2
    obtain⟨u',r',q⟩:=hl j y v' e1 e2 e3
    refine⟨u',r',?_⟩
    rcases q with q|⟨k,c',e,z'⟩
    ·exact .inl q
    ·refine .inr ⟨k,c',e,z'.sameBut hs ?_⟩
     rintro rfl
     exact hj (V1 hN e1 (I.ok.inj _ _ _ e hc ▸ hi))
  ·by_cases hcc:c'=c
   ·subst hcc;exact⟨_,hc'⟩
   ·obtain⟨w2,z2⟩:=I.cell y c' e
    exact⟨w2,z2.sameBut hs hcc⟩
  ·obtain⟨e,n,ne,nf,d⟩:=I.pin p hp
   refine⟨(hs.2 p.1 ?_).trans e,n,ne,nf,d⟩
   intro q
   rw[q,hoc] at e
   have q':oc=p.2:=Option.some.inj e
   exact d w' (by rw[← q'];exact hocd)
theorem YB{M:Model}{A:Around}{E:Value→Shared→Prop}{i:Nat}{x:Str}{v:V}{u:Value}{Q:Unit→Shared→Prop}(I:Inv X pins σ H s)(hN:X.N.Nodup)(hi:X.N[i]?=some x)(hx:Loc X.env.scope x)(r:RelV v u)
  (h:∀s',Inv X pins (σ.set i (some v)) H s'→Q () s') (hf:X.fn x=true∨X.env.scope.names.lookup x=some .local:=by first|exact .inl rfl|exact .inr rfl|assumption):wpAny M A (storeName X.env x u) Q E s:=
 X8 I hN hi hx r (fun s' I' _=>h s' I') hf
theorem Inv.call'{s':Shared}{ch:List Addr}(I:Inv X pins σ H s)(ho:s'.os=s.os)(u:Un (frs X.stack) ch H H' s.heap s'.heap)(hok:HOk X.prog X.w H' s'.heap)(hg:AllBare s'.gens)
  (hch:∀b∈ch,(b∈X.ex∨X.s₀.heap.objs.size≤b)∧b≠X.env.locals∧(∀x c,X.env.cells.lookup x=some c→c≠b)∧∀p∈X.pn++pins,p.1≠b):Inv X pins σ H' s':=by
 obtain⟨h',g',d',t',o'⟩:=s'
 have e:o'=s.os:=ho
 subst e
 exact I.call (g':=g') (t':=t') (d':=d') u hok hg hch
end
noncomputable abbrev XK:=Value→Option Addr→Hp→Prop
noncomputable abbrev St:=List (Option V)
noncomputable abbrev VK:=V→Hp→Prop
noncomputable abbrev TE:=St→Hp→VK→Prop
noncomputable abbrev TT:=St→Hp→(Bool→Hp→Prop)→Prop
noncomputable abbrev TA:=St→Hp→(List V→Hp→Prop)→Prop
structure UC where
 nx:St→Hp→Prop
 rt:VK
 bk:St→Hp→Prop:=fun _ _=>False
 ct:St→Hp→Prop:=fun _ _=>False
noncomputable abbrev TS:=UC→St→Hp→Prop
noncomputable def EP(X:Cx)(pins:List (Addr×Obj))(σ:St)(Q:VK)(u:Value)(s':Shared):Prop:=∃v H',Inv X pins σ H' s'∧RelV v u∧Q v H'
noncomputable def TP(X:Cx)(pins:List (Addr×Obj))(σ:St)(Q:Bool→Hp→Prop)(b:Bool)(s':Shared):Prop:=∃H',Inv X pins σ H' s'∧Q b H'
noncomputable def AP(X:Cx)(pins:List (Addr×Obj))(σ:St)(Q:List V→Hp→Prop)(us:List Value)(s':Shared):Prop:=∃vs H',Inv X pins σ H' s'∧Vals vs us∧Q vs H'
noncomputable def SP(X:Cx)(pins:List (Addr×Obj))(D:UC)(f:Flow)(s':Shared):Prop:=
 match f with
 |.next=>∃σ' H',Inv X pins σ' H' s'∧D.nx σ' H'
 |.brk=>∃σ' H',Inv X pins σ' H' s'∧D.bk σ' H'
 |.cont=>∃σ' H',Inv X pins σ' H' s'∧D.ct σ' H'
 |.ret u=>∃v σ' H',Inv X pins σ' H' s'∧RelV v u∧D.rt v H'
noncomputable def PE(X:Cx)(e:Expr)(t:TE):Prop:=
 ∀(pins:List (Addr×Obj)) (s:Shared) (σ:St) (H:Hp) (Q:VK),Inv X pins σ H s→t σ H Q→wpAny (model X.prog X.w) X.A (eval e X.env) (EP X pins σ Q) X.xe s
noncomputable def PT(X:Cx)(e:Expr)(t:TT):Prop:=
 ∀(pins:List (Addr×Obj)) (s:Shared) (σ:St) (H:Hp) (Q:Bool→Hp→Prop),Inv X pins σ H s→t σ H Q→wpAny (model X.prog X.w) X.A (isTrue e X.env (eval e X.env)) (TP X pins σ Q) X.xe s
noncomputable def PW(X:Cx)(e:Expr)(t:TT):Prop:=
 ∀(whole:Sem Value) (pins:List (Addr×Obj)) (s:Shared) (σ:St) (H:Hp) (Q:Bool→Hp→Prop),Inv X pins σ H s→t σ H Q→wpAny (model X.prog X.w) X.A (isTrue e X.env whole) (TP X pins σ Q) X.xe s
theorem PW.pt{X:Cx}{e:Expr}{t:TT}(h:PW X e t):PT X e t:=h _
noncomputable def PA(X:Cx)(es:List Expr)(t:TA):Prop:=
 ∀(pos:Pos) (pins:List (Addr×Obj)) (s:Shared) (σ:St) (H:Hp) (Q:List V→Hp→Prop),Inv X pins σ H s→t σ H Q→wpAny (model X.prog X.w) X.A (spliced (backTo pos (starEach es X.env))) (AP X pins σ Q) X.xe s
noncomputable def PS(X:Cx)(st:Stmt)(t:TS):Prop:=
 ∀(pins:List (Addr×Obj)) (s:Shared) (σ:St) (H:Hp) (D:UC),Inv X pins σ H s→t D σ H→wpAny (model X.prog X.w) X.A (exec st X.env) (SP X pins D) X.xe s
noncomputable def PSs(X:Cx)(st:List Stmt)(t:TS):Prop:=
 ∀(pins:List (Addr×Obj)) (s:Shared) (σ:St) (H:Hp) (D:UC),Inv X pins σ H s→t D σ H→wpAny (model X.prog X.w) X.A (execs st X.env) (SP X pins D) X.xe s
theorem thn{α:Type}{t:Sem α}{Q Q':α→Shared→Prop}{M:Model}{A:Around}{E:Value→Shared→Prop}{s:Shared}(h:wpAny M A t Q E s)(hQ:∀a s,Q a s→Q' a s):wpAny M A t Q' E s:=wpAny_mono h hQ fun _ _ x=>x
section
variable{X:Cx}
noncomputable def XM(i:Nat):TE:=fun σ H Q=>∃v,σ[i]?=some (some v)∧Q v H
noncomputable def tC(v:V):TE:=fun _ H Q=>Q v H
theorem zl0{i:Nat}{x:Str}{pos:Pos}(hN:X.N[i]?=some x)(hv:Vis X.env.scope x)(hd:(x==("__debug__" : Str))=false:=by decide)(hcd:(x==("__classdict__" : Str))=false:=by decide):PE X (.Name x pos) (XM i):=by
 intro pins s σ H Q I h
 obtain⟨v,e,h⟩:=h
 obtain⟨m,hn,hl⟩:=I.loc
 obtain⟨u,r,l⟩:=hl i x v hN e hv
 have fin:EP X pins σ Q u s:=⟨v,H,I,r,h⟩
 rcases l with ⟨hk,hm⟩|⟨hk,c,hc,hcell⟩
 ·exact wpAny_Name (wpAny_loadName_local I.ok.kind hk hn hm fin) hd
 ·rcases hk with hk|hk
  ·exact wpAny_Name (wpAny_loadName_cell I.ok.kind hk hc hcell fin) hd
  ·exact wpAny_Name (wpAny_loadName_free I.ok.kind hk hc hcell fin hcd) hd
theorem zl5{i j pos}:PE X (.Constant (.int i) j pos) (tC (.int i)):=fun _ _ _ H _ I h=>wpAny_Constant_int ⟨.int i,H,I.tok _,⟨_,rfl⟩,h⟩
theorem zg7{b j pos}:PE X (.Constant (.bool b) j pos) (tC (.bl b)):=fun _ _ _ H _ I h=>Constant_bool ⟨.bl b,H,I,rfl,h⟩
theorem zl4{j pos}:PE X (.Constant .none j pos) (tC .non):=fun _ _ _ H _ I h=>Constant_none ⟨.non,H,I,rfl,h⟩
theorem zl2{x j pos}:PE X (.Constant (.str x) j pos) (tC (.str x)):=fun _ _ _ H _ I h=>Calls.Constant_str ⟨.str x,H,I.tok _,⟨_,rfl⟩,h⟩
noncomputable def Gl(X:Cx)(x:Str):Prop:=X.env.kindOf x=some .globalImplicit
theorem JP{E:Value→Shared→Prop}{pins:List (Addr×Obj)}{s:Shared}{σ:St}{H:Hp}{x:Str}{u:Value}{pos:Pos}{Q:Value→Shared→Prop}(I:Inv X pins σ H s)(hg:Gl X x)(hm:X.mg x=some u)(h:Q u s)
  (hd:(x==("__debug__" : Str))=false:=by decide):wpAny (model X.prog X.w) X.A (eval (.Name x pos) X.env) Q E s:=
 Calls.Name_function_global I.ok.kind hg (Calls.loadGlobal_global (by rw[I.ok.glob];exact I.mod.glob.keeps I.bk) hm h) hd
theorem uB{E:Value→Shared→Prop}{pins:List (Addr×Obj)}{s:Shared}{σ:St}{H:Hp}{x:Str}{u:Value}{pos:Pos}{Q:Value→Shared→Prop}(I:Inv X pins σ H s)(hg:Gl X x)(hm:X.mg x=none)(hv:bootBuiltins x=some u)(h:Q u s)
  (hn:x ≠ "__name__" := by decide) (hd:(x==("__debug__" : Str))=false:=by decide):wpAny (model X.prog X.w) X.A (eval (.Name x pos) X.env) Q E s:=by
 obtain⟨mb,h1,h2⟩:=I.mod.blt
 exact Calls.Name_function_global I.ok.kind hg (Calls.loadGlobal_builtin (by rw[I.ok.glob];exact I.mod.glob.keeps I.bk) hm (by rw[I.ok.blt];exact h1.keeps I.bk) ((h2 x hn).trans hv) h) hd
theorem LG{x:Str}{v:V}{u:Value}{pos:Pos}(hg:Gl X x)(hm:X.mg x=some u)(r:RelV v u)(hd:(x==("__debug__" : Str))=false:=by decide):PE X (.Name x pos) (tC v):=
 fun _ _ _ H _ I h=>JP I hg hm ⟨v,H,I,r,h⟩ hd
variable{a b:Expr}{ta tb:TE}{pos:Pos}
noncomputable def tB(t:TE):TT:=fun σ H Q=>t σ H fun x H1=>∃c,x=.bl c∧Q c H1
variable{tA tB':TT}{rest:List Expr}
noncomputable def tAnd(t u:TT):TT:=fun σ H Q=>t σ H fun c H1=>if c=true then u σ H1 Q else Q false H1
noncomputable def tOr(t u:TT):TT:=fun σ H Q=>t σ H fun c H1=>if c=true then Q true H1 else u σ H1 Q
noncomputable def tNot(t:TT):TT:=fun σ H Q=>t σ H fun c H1=>Q (!c) H1
theorem Ls(ha:PT X a tA):PW X (.BoolOp .And [a] pos) tA:=by
 intro wh pins s σ H Q I h
 refine isTrue_and (thn (ha pins s σ H Q I h) fun c s1 e=>?_)
 cases c with
 |true=>exact isTrue_and_nil e
 |false=>exact e
theorem zk1(ha:PT X a tA):PW X (.BoolOp .Or [a] pos) tA:=by
 intro wh pins s σ H Q I h
 refine isTrue_or (thn (ha pins s σ H Q I h) fun c s1 e=>?_)
 cases c with
 |false=>exact isTrue_or_nil e
 |true=>exact e
theorem zk3(ha:PT X a tA)(hb:PW X (.BoolOp .And (b::rest) pos) tB'):PW X (.BoolOp .And (a::b::rest) pos) (tAnd tA tB'):=by
 intro wh pins s σ H Q I h
 refine isTrue_and (thn (ha pins s σ H _ I h) fun c s1 z_=>?_)
 obtain⟨H1,I1,q1⟩:=z_
 cases c with
 |true=>exact hb wh pins s1 σ H1 Q I1 q1
 |false=>exact⟨H1,I1,q1⟩
theorem pw_or(ha:PT X a tA)(hb:PW X (.BoolOp .Or (b::rest) pos) tB'):PW X (.BoolOp .Or (a::b::rest) pos) (tOr tA tB'):=by
 intro wh pins s σ H Q I h
 refine isTrue_or (thn (ha pins s σ H _ I h) fun c s1 z_=>?_)
 obtain⟨H1,I1,q1⟩:=z_
 cases c with
 |true=>exact⟨H1,I1,q1⟩
 |false=>exact hb wh pins s1 σ H1 Q I1 q1
theorem zk4(ha:PT X a tA):PT X (.UnaryOp .Not a pos) (tNot tA):=by
 intro pins s σ H Q I h
 exact isTrue_not (ha pins s σ H (fun c H1=>Q (!c) H1) I h)
theorem zl3{op}{t:TE}(h:PE X a t):PE X (.BoolOp op [a] pos) t:=fun pins s σ H Q I hw=>BoolOp_one (h pins s σ H Q I hw)
noncomputable def tIf(t:TT)(ta tb:TE):TE:=fun σ H Q=>t σ H fun c H1=>if c=true then ta σ H1 Q else tb σ H1 Q
theorem Md{c:Expr}(hc:PT X c tA)(ha:PE X a ta)(hb:PE X b tb):PE X (.IfExp c a b pos) (tIf tA ta tb):=by
 intro pins s σ H Q I h
 refine wpAny_IfExp (thn (hc pins s σ H _ I h) fun d s1 z_=>?_)
 obtain⟨H1,I1,q1⟩:=z_
 cases d with
 |true=>exact ha pins s1 σ H1 Q I1 q1
 |false=>exact hb pins s1 σ H1 Q I1 q1
end
noncomputable def SqL(K:Frag)(H:Hp)(a:Addr)(xs:List V):Prop:=
 Rd H a (.lst xs) ∨
  ∃(o:Obj) (its:Array Value) (n:Nat),K.lookup a=some o∧o.cls=.type "list" ∧ o.dict=none∧o.data=.seq its n∧its.size≤sizeLine∧Vals xs its.toList
noncomputable def SqT(K:Frag)(H:Hp)(a:Addr)(xs:List V):Prop:=
 Rd H a (.tup xs) ∨
  ∃(o:Obj) (its:Array Value) (n:Nat),K.lookup a=some o∧o.cls=.type "tuple" ∧ o.data=.seq its n∧its.size≤sizeLine∧Vals xs its.toList
noncomputable def absV:Value→Option V
 |.none=>some .non
 |.bool b=>some (.bl b)
 |.int i _=>some (.int i)
 |.str x _=>some (.str x)
 |.bytes b _=>some (.byt b)
 |.float b _=>some (.flt b)
 |.ref a=>some (.ref a)
 |.type n=>some (.ty n)
 |_=>none
theorem RelV.abs{x:V}{u:Value}(r:RelV x u):absV u=some x:=by
 cases x with
 |non=>cases r;rfl
 |bl _=>cases r;rfl
 |int _=>obtain⟨t,rfl⟩:=r;rfl
 |str _=>obtain⟨t,rfl⟩:=r;rfl
 |byt _=>obtain⟨t,rfl⟩:=r;rfl
 |flt _=>obtain⟨t,rfl⟩:=r;rfl
 |ref _=>cases r;rfl
 |ty _=>cases r;rfl
theorem RelV.inj{x y:V}{u:Value}(r:RelV x u)(q:RelV y u):x=y:=Option.some.inj (r.abs.symm.trans q.abs)
theorem Vals.inj:∀{xs ys:List V} {us:List Value},Vals xs us→Vals ys us→xs=ys
 |_,_,_,.nil,.nil=>rfl
 |_,_,_,.cons r t,.cons r' t'=>by rw[r.inj r',Vals.inj t t']
section
variable{X:Cx}{pins:List (Addr×Obj)}{σ:St}{H:Hp}{s:Shared}{a:Addr}{xs ys:List V}
theorem SqL.of{K:Frag}(h:H a=some (.lst xs)):SqL K H a xs:=.inl (.inl h)
theorem SqT.of{K:Frag}(h:H a=some (.tup xs)):SqT K H a xs:=.inl (.inl h)
theorem Inv.list(I:Inv X pins σ H s)(h:SqL X.K H a xs):∃its:List Value,Vals xs its∧PlainL s.heap a its.toArray∧xs.length≤sizeLine:=by
 rcases h with h|⟨o,its,n,hk,hc,hd,hs,hz,r⟩
 ·obtain⟨z,its,n,r,e⟩:=h.ok I.hok
  exact⟨its,r,⟨_,n,e,rfl,rfl,rfl⟩,z⟩
 ·refine⟨its.toList,r,⟨o,n,I.kIn a o hk,hc,hd,by simpa using hs⟩,?_⟩
  have e:=r.length
  simp only[length_toList] at e
  lia
theorem Inv.tuple(I:Inv X pins σ H s)(h:SqT X.K H a xs):∃its:List Value,Vals xs its∧IsTup s.heap a its.toArray∧xs.length≤sizeLine:=by
 rcases h with h|⟨o,its,n,hk,hc,hs,hz,r⟩
 ·obtain⟨z,its,r,p⟩:=h.ok I.hok
  exact⟨its,r,p,z⟩
 ·refine⟨its.toList,r,⟨o,I.kIn a o hk,hc,n,by simpa using hs⟩,?_⟩
  have e:=r.length
  simp only[length_toList] at e
  lia
theorem Inv.list_inj(I:Inv X pins σ H s)(h:SqL X.K H a xs)(h':SqL X.K H a ys):xs=ys:=by
 obtain⟨its,r,⟨o,n,e,_,_,d⟩,_⟩:=I.list h
 obtain⟨its',r',⟨o',n',e',_,_,d'⟩,_⟩:=I.list h'
 rw[e] at e';cases e'
 rw[d] at d'
 injection d' with d1 _
 have:its=its':=by simpa using congrArg Array.toList d1
 subst this
 exact r.inj r'
theorem Inv.tuple_inj(I:Inv X pins σ H s)(h:SqT X.K H a xs)(h':SqT X.K H a ys):xs=ys:=by
 obtain⟨its,r,⟨o,e,_,n,d⟩,_⟩:=I.tuple h
 obtain⟨its',r',⟨o',e',_,n',d'⟩,_⟩:=I.tuple h'
 rw[e] at e';cases e'
 rw[d] at d'
 injection d' with d1 _
 have:its=its':=by simpa using congrArg Array.toList d1
 subst this
 exact r.inj r'
end
noncomputable abbrev Cx.wish(X:Cx)(E:Value→Shared→Prop):Cx:={ X with xe:=E }
noncomputable abbrev Cx.nox(X:Cx):Cx:=X.wish fun _ _=>False
theorem Cx.Ok.wish{X:Cx}(ok:X.Ok)(E:Value→Shared→Prop):(X.wish E).Ok:=
 ⟨ok.mod,ok.kind,ok.glob,ok.blt,ok.above,ok.inj,ok.has,ok.cab,ok.hd,ok.frames,ok.stk,ok.exf,ok.bs,ok.bsz,ok.noex,ok.exfs,ok.funs,ok.frf⟩
theorem Cx.Ok.unwish{X:Cx}{E:Value→Shared→Prop}(ok:(X.wish E).Ok):X.Ok:=
 ⟨ok.mod,ok.kind,ok.glob,ok.blt,ok.above,ok.inj,ok.has,ok.cab,ok.hd,ok.frames,ok.stk,ok.exf,ok.bs,ok.bsz,ok.noex,ok.exfs,ok.funs,ok.frf⟩
section
variable{X:Cx}{pins:List (Addr×Obj)}{σ:St}{H:Hp}{s:Shared}{E:Value→Shared→Prop}
theorem Inv.wish(I:Inv X pins σ H s)(E:Value→Shared→Prop):Inv (X.wish E) pins σ H s:=⟨I.ok.wish E,I.os,I.bare,I.base,I.loc,I.cell,I.free,I.freeC,I.pin,I.hok,I.len⟩
theorem Inv.unwish(I:Inv (X.wish E) pins σ H s):Inv X pins σ H s:=⟨I.ok.unwish,I.os,I.bare,I.base,I.loc,I.cell,I.free,I.freeC,I.pin,I.hok,I.len⟩
theorem SP.unwish{D:UC}{f:Flow}{s':Shared}(h:SP (X.wish E) pins D f s'):SP X pins D f s':=by
 cases f with
 |next=>obtain⟨σ',H',I,q⟩:=h;exact⟨σ',H',I.unwish,q⟩
 |brk=>obtain⟨σ',H',I,q⟩:=h;exact⟨σ',H',I.unwish,q⟩
 |cont=>obtain⟨σ',H',I,q⟩:=h;exact⟨σ',H',I.unwish,q⟩
 |ret u=>obtain⟨v,σ',H',I,r,q⟩:=h;exact⟨v,σ',H',I.unwish,r,q⟩
theorem PSs.nox{st:List Stmt}{t:TS}(h:PSs X.nox st t):PSs X st t:=fun pins s σ H D I hw=>
 wpAny_mono (h pins s σ H D (I.wish _) hw) (fun _ _ q=>q.unwish) fun _ _ z=>False.elim z
end
section
variable{X:Cx}{st:Stmt}{rest:List Stmt}{t u:TS}{e:Expr}{te:TE}{pos:Pos}
noncomputable def tNext:TS:=fun D σ H=>D.nx σ H
noncomputable def tSeq(t u:TS):TS:=fun D σ H=>t { D with nx:=u D } σ H
theorem Ly:PSs X [] tNext:=fun _ _ σ H _ I h=>wpAny_execs_nil ⟨σ,H,I,h⟩
theorem YL(h1:PS X st t)(h2:PSs X rest u):PSs X (st::rest) (tSeq t u):=by
 intro pins s σ H D I h
 refine wpAny_execs_cons (thn (h1 pins s σ H { D with nx:=u D } I h) fun f s1 q=>?_)
 cases f with
 |next=>
  obtain⟨σ',H',I',q⟩:=q
  exact h2 pins s1 σ' H' D I' q
 |ret v=>exact q
 |brk=>exact q
 |cont=>exact q
theorem Yk(h1:PS X st t):PSs X [st] t:=by
 intro pins s σ H D I h
 refine wpAny_execs_cons (thn (h1 pins s σ H D I h) fun f s1 q=>?_)
 cases f with
 |next=>exact wpAny_execs_nil q
 |ret v=>exact q
 |brk=>exact q
 |cont=>exact q
theorem Inv.quiet{pins:List (Addr×Obj)}{σ:St}{H:Hp}{s:Shared}(I:Inv X pins σ H s):interactive X.env=false:=by simp[interactive,I.ok.kind]
noncomputable def tDrop(te:TE):TS:=fun D σ H=>te σ H fun _ H1=>D.nx σ H1
theorem LA(he:PE X e te)(hs:swapsWith e none pos.line X.env=pure false:=by rfl):PS X (.Expr e pos) (tDrop te):=by
 intro pins s σ H D I h
 exact wpAny_Expr_any (thn (he pins s σ H _ I h) fun v s1 ⟨x,H1,I1,r1,q1⟩=>⟨σ,H1,I1,q1⟩) I.quiet hs
noncomputable def tRet(te:TE):TS:=fun D σ H=>te σ H D.rt
theorem UU(he:PE X e te):PS X (.Return (some e) pos) (tRet te):=by
 intro pins s σ H D I h
 exact wpAny_Return_some (thn (he pins s σ H _ I h) fun v s1 ⟨x,H1,I1,r1,q1⟩=>⟨x,σ,H1,I1,r1,q1⟩)
noncomputable def tIfS(c:TT)(t u:TS):TS:=fun D σ H=>c σ H fun b H1=>if b=true then t D σ H1 else u D σ H1
theorem ps_if{c:Expr}{a b:List Stmt}{tc:TT}(hc:PT X c tc)(ha:PSs X a t)(hb:PSs X b u):PS X (.If c a b pos) (tIfS tc t u):=by
 intro pins s σ H D I h
 refine wpAny_If (thn (hc pins s σ H _ I h) fun d s1 z_=>?_)
 obtain⟨H1,I1,q1⟩:=z_
 cases d with
 |true=>exact ha pins s1 σ H1 D I1 q1
 |false=>exact hb pins s1 σ H1 D I1 q1
end
noncomputable abbrev TG:=V→St→Hp→(St→Hp→Prop)→Prop
noncomputable abbrev TGs:=List V→St→Hp→(St→Hp→Prop)→Prop
noncomputable def PG(X:Cx)(target:Expr)(t:TG):Prop:=
 ∀(pins:List (Addr×Obj)) (s:Shared) (σ:St) (H:Hp) (v:V) (u:Value) (Q:St→Hp→Prop),Inv X pins σ H s→RelV v u→t v σ H Q →
  wpAny (model X.prog X.w) X.A (assign target X.env u) (fun _ s'=>∃σ' H',Inv X pins σ' H' s'∧Q σ' H') X.xe s
noncomputable def PGs(X:Cx)(ts:List Expr)(t:TGs):Prop:=
 ∀(pins:List (Addr×Obj)) (s:Shared) (σ:St) (H:Hp) (vs:List V) (us:List Value) (Q:St→Hp→Prop),Inv X pins σ H s→Vals vs us→t vs σ H Q →
  wpAny (model X.prog X.w) X.A (assignInOrder ((assignEach ts X.env).map (·.2)) us) (fun _ s'=>∃σ' H',Inv X pins σ' H' s'∧Q σ' H') X.xe s
noncomputable abbrev zs8:=V→V→V→Hp→(Hp→Prop)→Prop
noncomputable def PSet(X:Cx)(t:zs8):Prop:=
 ∀(pins:List (Addr×Obj)) (s:Shared) (σ:St) (H:Hp) (o i v:V) (ov iv u:Value) (Q:Hp→Prop),Inv X pins σ H s→RelV o ov→RelV i iv→RelV v u→t o i v H Q →
  wpAny (model X.prog X.w) X.A (setItem ov iv u) (fun _ s'=>∃H',Inv X pins σ H' s'∧Q H') X.xe s
noncomputable abbrev TIp:=V→V→Hp→VK→Prop
noncomputable def PIp(X:Cx)(op:Operator)(t:TIp):Prop:=
 ∀(pins:List (Addr×Obj)) (s:Shared) (σ:St) (H:Hp) (x y:V) (v u:Value) (Q:VK),Inv X pins σ H s→RelV x v→RelV y u→t x y H Q →
  wpAny (model X.prog X.w) X.A (inplaceOp op v u) (EP X pins σ Q) X.xe s
section
variable{X:Cx}{pos:Pos}
noncomputable def WF(i:Nat):TG:=fun v σ H Q=>Q (σ.set i (some v)) H
theorem ut{i:Nat}{x:Str}(hN:X.N.Nodup)(hi:X.N[i]?=some x)(hx:Loc X.env.scope x)(hf:X.fn x=true∨X.env.scope.names.lookup x=some .local:=by first|exact .inl rfl|exact .inr rfl|assumption):PG X (.Name x pos) (WF i):=by
 intro pins s σ H v u Q I r h
 exact wpAny_assign_Name (YB I hN hi hx r (fun s' I'=>⟨_,H,I',h⟩) hf)
noncomputable def gNil:TGs:=fun vs σ H Q=>vs=[]∧Q σ H
noncomputable def gCons(t:TG)(u:TGs):TGs:=fun vs σ H Q=>∃v r,vs=v::r∧t v σ H fun σ' H'=>u r σ' H' Q
theorem JF:PGs X [] gNil:=by
 intro pins s σ H vs us Q I r h
 obtain⟨e,h⟩:=h
 subst e
 cases r
 exact assignInOrder_nil ⟨σ,H,I,h⟩
theorem uT{e:Expr}{es:List Expr}{t:TG}{u:TGs}(h1:PG X e t)(h2:PGs X es u)
  (hs:(assignEach (e::es) X.env).map (·.2)=assign e X.env::(assignEach es X.env).map (·.2):=by rfl):PGs X (e::es) (gCons t u):=by
 intro pins s σ H vs us Q I r h
 obtain⟨v,vr,e1,h⟩:=h
 subst e1
 cases r with
 |cons r rr=>
  rw[hs]
  refine assignInOrder_cons (thn (h1 pins s σ H _ _ _ I r h) fun _ s1 z_=>?_)
  obtain⟨σ1,H1,I1,q1⟩:=z_
  exact h2 pins s1 σ1 H1 _ _ Q I1 rr q1
noncomputable def gTup(K:Frag)(n:Nat)(t:TGs):TG:=fun v σ H Q=>∃a xs,v=.ref a∧SqT K H a xs∧xs.length=n∧t xs σ H Q
theorem G9{es:List Expr}{k:Nat}{t:TGs}{n:Nat}(hc:X.calm=true)(h:PGs X es t)
  (hn:(assignEach es X.env).length=n:=by rfl) (hst:(assignEach es X.env).findIdx? (·.1)=none:=by rfl):PG X (.Tuple es k pos) (gTup X.K n t):=by
 intro pins s σ H v u Q I r hw
 obtain⟨a,xs,e1,hq,hl,hw⟩:=hw
 subst e1
 cases r
 obtain⟨its,rv,ht,hz⟩:=I.tuple hq
 refine assign_Tuple_tuple (I.ok.hd hc) ht (by simp[hn,← hl,rv.length]) hst fun h' hx=>?_
 have I1:Inv X pins σ H { s with heap:=h' }:=I.kept (t':=s.toks) fun b o e=>hx b o (ne_of_lt (Heap.lt_size e)) e
 exact h pins _ σ H xs _ Q I1 (by simpa using rv) hw
noncomputable def gSub(to ti:TE)(t:zs8):TG:=fun v σ H Q=>to σ H fun o H1=>ti σ H1 fun i H2=>t o i v H2 fun H3=>Q σ H3
theorem zk9{o i:Expr}{to ti:TE}{t:zs8}(ho:PE X o to)(hi:PE X i ti)(hs:PSet X t)
  (ha:∀v,assign (.Subscript o i pos) X.env v=(do
   let ov ← holding [v] (eval o X.env)
   let iv ← holding [v,ov] (eval i X.env)
   standAt pos
   holding [v,ov,iv] (setItem ov iv v)
   release [v,ov,iv] []):=by intro _;rfl):PG X (.Subscript o i pos) (gSub to ti t):=by
 intro pins s σ H v u Q I r h
 rw[ha]
 refine wpAny_bind (wpAny_holding (thn (ho pins s σ H _ I h) fun ov s1 z_=>?_))
 obtain⟨x,H1,I1,r1,q1⟩:=z_
 refine wpAny_bind (wpAny_holding (thn (hi pins s1 σ H1 _ I1 q1) fun iv s2 z_=>?_))
 obtain⟨y,H2,I2,r2,q2⟩:=z_
 refine wpAny_bind (wpAny_standAt (wpAny_bind (wpAny_holding (thn (hs pins s2 σ H2 x y v ov iv u _ I2 r1 r2 r q2) fun _ s3 z_=>?_))))
 obtain⟨H3,I3,q3⟩:=z_
 exact wpAny_release ⟨σ,H3,I3,q3⟩
noncomputable def zj0(te:TE)(g:TG):TS:=fun D σ H=>te σ H fun x H1=>g x σ H1 D.nx
theorem zk6{tg e:Expr}{te:TE}{g:TG}(he:PE X e te)(hg:PG X tg g)(hs:swapsWithSole [tg] e pos.line X.env=pure false:=by rfl)(hw:swappedStores [tg] e X.env=pure none:=by rfl)
  (h1:(assignEach [tg] X.env).map (·.2)=[assign tg X.env]:=by rfl):PS X (.Assign [tg] e pos) (zj0 te g):=by
 intro pins s σ H D I h
 refine wpAny_Assign_stores (thn (he pins s σ H _ I h) fun v s1 z_=>?_) hs hw
 obtain⟨x,H1,I1,r1,q1⟩:=z_
 rw[h1]
 exact thn (hg pins s1 σ H1 x v _ I1 r1 q1) fun _ s2 q=>q
theorem UT{i:Nat}{x:Str}{e:Expr}{te:TE}{pos':Pos}(hN:X.N.Nodup)(hi:X.N[i]?=some x)(hx:Loc X.env.scope x)(he:PE X e te)(hs:swapsWith e (some (.Name x pos')) pos.line X.env=pure false:=by rfl)(hf:X.fn x=true∨X.env.scope.names.lookup x=some .local:=by first|exact .inl rfl|exact .inr rfl|assumption) :
  PS X (.Assign [.Name x pos'] e pos) (zj0 te (WF i)):=by
 intro pins s σ H D I h
 refine wpAny_Assign_Name (thn (he pins s σ H _ I h) fun v s1 z_=>?_) hs
 obtain⟨y,H1,I1,r1,q1⟩:=z_
 exact YB I1 hN hi hx r1 (fun s2 I2=>⟨_,H1,I2,q1⟩) hf
noncomputable def tAug(i:Nat)(te:TE)(ti:TIp):TS:=fun D σ H=>∃x,σ[i]?=some (some x)∧te σ H fun y H1=>ti x y H1 fun z H2=>D.nx (σ.set i (some z)) H2
theorem zk5{i:Nat}{x:Str}{e:Expr}{te:TE}{op:Operator}{ti:TIp}{pos':Pos}(hN:X.N.Nodup)(hi:X.N[i]?=some x)(hx:Loc X.env.scope x)(he:PE X e te)(ho:PIp X op ti)(hf:X.fn x=true∨X.env.scope.names.lookup x=some .local:=by first|exact .inl rfl|exact .inr rfl|assumption) :
  PS X (.AugAssign (.Name x pos') op e pos) (tAug i te ti):=by
 intro pins s σ H D I h
 obtain⟨v,e1,h⟩:=h
 obtain⟨m,hn,hl⟩:=I.loc
 have vis:Vis X.env.scope x:=by rcases hx with k|k;exact .inl k;exact .inr (.inl k)
 obtain⟨u,r,l⟩:=hl i x v hi e1 vis
 refine wpAny_AugAssign_Name ?_
 have go:wpAny (model X.prog X.w) X.A (eval e X.env) (fun w s₂=>wpAny (model X.prog X.w) X.A (inplaceOp op u w) (fun r s₃=>wpAny (model X.prog X.w) X.A (storeName X.env x r) (fun _=>SP X pins D .next) X.xe s₃) X.xe s₂) X.xe s:=by
  refine thn (he pins s σ H _ I h) fun w s1 z_=>?_
  obtain⟨y,H1,I1,r1,q1⟩:=z_
  refine thn (ho pins s1 σ H1 v y u w _ I1 r r1 q1) fun z s2 z_=>?_
  obtain⟨zv,H2,I2,r2,q2⟩:=z_
  exact YB I2 hN hi hx r2 (fun s3 I3=>⟨_,H2,I3,q2⟩) hf
 rcases l with ⟨hk,hm⟩|⟨hk,c,hc,hcell⟩
 ·exact wpAny_loadName_local I.ok.kind hk hn hm go
 ·rcases hk with hk|hk
  ·exact wpAny_loadName_cell I.ok.kind hk hc hcell go
  ·rcases hx with k|k
   ·have:X.env.scope.names.lookup x=some .free:=hk
    rw[k] at this;cases this
   ·have:X.env.scope.names.lookup x=some .free:=hk
    rw[k] at this;cases this
noncomputable def ipI(f:Int→Int→Int):TIp:=fun x y H Q=>∃i j,x=.int i∧y=.int j∧Q (.int (f i j)) H
theorem zp8:PIp X .Add (ipI fun i j=>i+j):=by
 intro pins s σ H x y v u Q I r1 r2 h
 obtain⟨i,j,e1,e2,q⟩:=h
 subst e1;subst e2
 obtain⟨t,rfl⟩:=r1
 obtain⟨t',rfl⟩:=r2
 exact iadd_int ⟨.int _,H,I.tok _,⟨_,rfl⟩,q⟩
end
section
variable{X:Cx}{pos:Pos}
noncomputable def zi8(c:TT)(tb:TS):TS:=fun D σ H=>∃W:Nat→St→Hp→Prop,(∃m,W m σ H)∧∀m σ H,W m σ H →
 c σ H fun b H1=>if b=true then ∃N:St→Hp→Prop,(∀σ' H',N σ' H'→∃m',m'<m∧W m' σ' H')∧tb { D with nx:=N,ct:=N,bk:=D.nx } σ H1 else D.nx σ H1
theorem G6{c:Expr}{body:List Stmt}{tc:TT}{tb:TS}(hp:PassesOwn (model X.prog X.w) X.A X.env X.xe)(hc:PT X c tc)(hb:PSs X body tb):PS X (.While c body [] pos) (zi8 tc tb):=by
 intro pins s σ H D I h
 obtain⟨W,⟨m0,w0⟩,turn⟩:=h
 refine wpAny_While (codeAny_whileLoop (fun n s'=>∃σ' H',Inv X pins σ' H' s'∧W n σ' H') ?_ m0 ⟨σ,H,I,w0⟩)
 rintro n s1 ⟨σ1,H1,I1,w1⟩
 refine wpAny_passesOwn hp (thn (hc pins s1 σ1 H1 _ I1 (turn n σ1 H1 w1)) fun b s2 z_=>?_)
 obtain⟨H2,I2,q2⟩:=z_
 cases b with
 |true=>
  obtain⟨N,hN,q2⟩:=q2
  rw[if_pos rfl]
  refine wpAny_passesOwn hp (thn (hb pins s2 σ1 H2 _ I2 q2) fun f s3 q3=>?_)
  cases f with
  |next=>
   obtain⟨σ3,H3,I3,n3⟩:=q3
   obtain⟨m',hm,w3⟩:=hN σ3 H3 n3
   exact⟨m',hm,σ3,H3,I3,w3⟩
  |cont=>
   obtain⟨σ3,H3,I3,n3⟩:=q3
   obtain⟨m',hm,w3⟩:=hN σ3 H3 n3
   exact⟨m',hm,σ3,H3,I3,w3⟩
  |brk=>exact q3
  |ret v=>exact q3
 |false=>
  rw[if_neg Bool.false_ne_true]
  exact wpAny_execs_nil ⟨σ1,H2,I2,q2⟩
end
structure It where
 go:Nat→Hp→Prop
 yld:Nat→Hp→V→Hp→Prop
 stop:Nat→Hp→Prop
noncomputable def XI(X:Cx)(pins:List (Addr×Obj))(H:Hp)(b:Addr):Prop:=
 H b=none∧b≠X.env.locals∧b∉X.fs∧(b∈X.ex∨X.s₀.heap.objs.size≤b)∧(∀x c,X.env.cells.lookup x=some c→c≠b)∧∀p∈X.pn++pins,p.1≠b
theorem Inv.fpOk{X:Cx}{pins:List (Addr×Obj)}{σ:St}{H H':Hp}{s:Shared}{b:Addr}(I:Inv X pins σ H s)(hb:s.heap.objs.size≤b)(hn:H' b=none):XI X pins H' b:=by
 refine⟨hn,ne_of_gt (lt_of_lt_of_le I.lt hb),I.nofs hb,.inr (le_trans I.sz hb),fun x c e z=>?_,fun p hp z=>?_⟩
 ·obtain⟨v,q⟩:=I.cell x c e
  exact absurd (lt_of_lt_of_le q.lt (by rw[z];exact hb)) (lt_irrefl _)
 ·exact absurd (lt_of_lt_of_le (Heap.lt_size (I.pin p hp).1) (by rw[z];exact hb)) (lt_irrefl _)
structure Vt(P:Program)(w:World)(K:Frag)(tg:Expr)(J:It)(fp:List Addr)(it:Addr)(tn:Nat→Heap→Prop):Prop where
 mem:it∈fp
 obj:∀i h,tn i h→∀b∈fp,∃o,h.get? b=some o∧∀v,o.data≠.cell v
 keep:∀i h h',tn i h→(∀b∈fp,∀o,h.get? b=some o→h'.get? b=some o)→tn i h'
 item:∀(X:Cx),X.prog=P→X.w=w→X.K=K→X.calm=true→∀(i:Nat) (pins:List (Addr×Obj)) (s:Shared) (σ:St) (H:Hp) (E:Value→Shared→Prop),Inv X pins σ H s→(∀b∈fp,XI X pins H b)→tn i s.heap→J.go i H →
  wpAny (model P w) X.A (pyNext (.ref it)) (fun r s1=>∃u,r=some u ∧
   wpAny (model P w) X.A (letOwnedTupleGo tg (.ref it) u) (fun _ s2=>∃x H',Inv X pins σ H' s2∧RelV x u∧J.yld i H x H'∧tn (i+1) s2.heap∧∀b∈fp,H' b=none) E s1) E s
 done:∀(X:Cx),X.prog=P→X.w=w→X.K=K→X.calm=true→∀(i:Nat) (pins:List (Addr×Obj)) (s:Shared) (σ:St) (H:Hp) (E:Value→Shared→Prop),Inv X pins σ H s→(∀b∈fp,XI X pins H b)→tn i s.heap→J.stop i H →
  wpAny (model P w) X.A (pyNext (.ref it)) (fun r s1=>r=none∧Inv X pins σ H s1) E s
 self:∀(A:Around) (i:Nat) (s:Shared) (Q:Value→Shared→Prop) (E:Value→Shared→Prop),tn i s.heap→Q (.ref it) s→wpAny (model P w) A (pyIter (.ref it)) Q E s
noncomputable abbrev TI:=St→Hp→(It→Hp→Prop)→Prop
noncomputable def PIE(X:Cx)(pins:List (Addr×Obj))(σ:St)(tg:Expr)(R:It→Hp→Prop)(itv:Value)(s2:Shared):Prop:=
 ∃(it:Addr) (fp:List Addr) (tn:Nat→Heap→Prop) (J:It) (H':Hp),itv=.ref it∧Inv X pins σ H' s2∧Vt X.prog X.w X.K tg J fp it tn∧tn 0 s2.heap∧(∀b∈fp,XI X pins H' b)∧R J H'
noncomputable def PI(X:Cx)(tg iter:Expr)(wi:TI):Prop:=
 ∀(pins:List (Addr×Obj)) (s:Shared) (σ:St) (H:Hp) (R:It→Hp→Prop),Inv X pins σ H s→wi σ H R →
  wpAny (model X.prog X.w) X.A (eval iter X.env) (fun v s1=>wpAny (model X.prog X.w) X.A (pyIter v) (PIE X pins σ tg R) X.xe s1) X.xe s
theorem Uo{M:Model}{A:Around}{E:Value→Shared→Prop}{s:Shared}{tg:Expr}{it:Addr}{u:Value}{o:Obj}{n:String}{vs:Array Value}{Q:Unit→Shared→Prop}(ho:s.heap.get? it=some o)(hc:o.cls=.type n)(hd:o.data=.fields vs)
  (hn:["enumerate", "zip", "dict_itemiterator", "dict_reverseitemiterator", "odict_iterator", "itertools.zip_longest", "itertools.pairwise"].contains n=false) (hQ:Q () s):wpAny M A (letOwnedTupleGo tg (.ref it) u) Q E s:=by
 unfold letOwnedTupleGo
 cases tg <;> first
  | exact wpAny_pure hQ
  | (cases u <;> first
    | exact wpAny_pure hQ
    | (refine wpAny_bind (wpAny_load ho ?_)
       rw[hc,hd]
       show wpAny M A (if (["enumerate", "zip", "dict_itemiterator", "dict_reverseitemiterator", "odict_iterator", "itertools.zip_longest", "itertools.pairwise"].contains n&&vs[0]?==some (rawInt _))=true then _ else _) Q E s
       rw[if_neg (by intro h;rw[hn,Bool.false_and] at h;cases h)]
       exact wpAny_pure hQ))
noncomputable def Itl(K:Frag)(a:Addr):It:=
 ⟨fun i H=>∃xs x,SqL K H a xs∧xs[i]?=some x,fun i H x H'=>H'=H∧∀xs,SqL K H a xs→xs[i]?=some x,fun i H=>∃xs,SqL K H a xs∧xs.length≤i⟩
noncomputable def Itt(K:Frag)(a:Addr):It:=
 ⟨fun i H=>∃xs x,SqT K H a xs∧xs[i]?=some x,fun i H x H'=>H'=H∧∀xs,SqT K H a xs→xs[i]?=some x,fun i H=>∃xs,SqT K H a xs∧xs.length≤i⟩
noncomputable def Itr(lo:Int)(n:Nat):It:=⟨fun i _=>i<n,fun i H x H'=>H'=H∧x=.int (lo+i),fun i _=>n≤i⟩
theorem Qd{P:Program}{w:World}{K:Frag}{tg:Expr}(a it:Addr):Vt P w K tg (Itl K a) [it] it (fun i h=>h.IsListIter it a i) where
 mem:=by simp
 obj:=fun i h st b hb=>by
  have e:b=it:=by simpa using hb
  subst e
  obtain⟨o,e,c,d⟩:=st
  exact⟨o,e,fun v z=>by rw[d] at z;cases z⟩
 keep:=fun i h h' st k=>st.at fun o e=>k it (by simp) o e
 item:=by
  intro X hP hw hK hc i pins s σ H E I hf st hg
  subst hP hw hK
  obtain⟨xs,x,hq,hx⟩:=hg
  obtain⟨its,rv,p,hz⟩:=I.list hq
  obtain⟨u,hu,ru⟩:=rv.get hx
  obtain⟨f0,f1,f2,f3,f4,f5⟩:=hf it (by simp)
  refine wpAny_pyNext_list_item st p.isList (x:=u) (by simpa using hu) fun h' st' sb=>?_
  have I1:Inv X pins σ H { s with heap:=h' }:=I.turned (t':=s.toks) (fun b o hb e=>(sb.2 b hb).trans e) f0 f1 f3 f4 f5
  obtain⟨o,e,c,d⟩:=id st'
  exact⟨u,rfl,Uo (s:={ s with heap:=h' }) e c d (by decide) ⟨x,H,I1,ru,⟨rfl,fun ys hy=>by rw[I.list_inj hy hq];exact hx⟩,st',fun b hb=>(hf b hb).1⟩⟩
 done:=by
  intro X hP hw hK hc i pins s σ H E I hf st hg
  subst hP hw hK
  obtain⟨xs,hq,hx⟩:=hg
  obtain⟨its,rv,p,hz⟩:=I.list hq
  obtain⟨f0,f1,f2,f3,f4,f5⟩:=hf it (by simp)
  have hl:=rv.length
  exact wpAny_pyNext_list_end (I.ok.hd hc) st p.isList (by simp;lia) fun h' eb=>⟨rfl,I.turned (t':=s.toks) (fun b o hb e=>eb b o hb e) f0 f1 f3 f4 f5⟩
 self:=fun _ _ _ _ _ st h=>wpAny_pyIter_listiter st h
theorem UE{P:Program}{w:World}{K:Frag}{tg:Expr}(a it:Addr):Vt P w K tg (Itt K a) [it] it (fun i h=>h.IsTupleIter it a i) where
 mem:=by simp
 obj:=fun i h st b hb=>by
  have e:b=it:=by simpa using hb
  subst e
  obtain⟨o,e,c,d⟩:=st
  exact⟨o,e,fun v z=>by rw[d] at z;cases z⟩
 keep:=fun i h h' st k=>st.at fun o e=>k it (by simp) o e
 item:=by
  intro X hP hw hK hc i pins s σ H E I hf st hg
  subst hP hw hK
  obtain⟨xs,x,hq,hx⟩:=hg
  obtain⟨its,rv,p,hz⟩:=I.tuple hq
  obtain⟨u,hu,ru⟩:=rv.get hx
  obtain⟨f0,f1,f2,f3,f4,f5⟩:=hf it (by simp)
  refine wpAny_pyNext_tuple_item st (show s.heap.IsTuple a its.toArray from p) (x:=u) (by simpa using hu) fun h' st' sb=>?_
  have I1:Inv X pins σ H { s with heap:=h' }:=I.turned (t':=s.toks) (fun b o hb e=>(sb.2 b hb).trans e) f0 f1 f3 f4 f5
  obtain⟨o,e,c,d⟩:=id st'
  exact⟨u,rfl,Uo (s:={ s with heap:=h' }) e c d (by decide) ⟨x,H,I1,ru,⟨rfl,fun ys hy=>by rw[I.tuple_inj hy hq];exact hx⟩,st',fun b hb=>(hf b hb).1⟩⟩
 done:=by
  intro X hP hw hK hc i pins s σ H E I hf st hg
  subst hP hw hK
  obtain⟨xs,hq,hx⟩:=hg
  obtain⟨its,rv,p,hz⟩:=I.tuple hq
  obtain⟨f0,f1,f2,f3,f4,f5⟩:=hf it (by simp)
  have hl:=rv.length
  exact wpAny_pyNext_tuple_end (I.ok.hd hc) st (show s.heap.IsTuple a its.toArray from p) (by simp;lia) fun h' eb=>⟨rfl,I.turned (t':=s.toks) (fun b o hb e=>eb b o hb e) f0 f1 f3 f4 f5⟩
 self:=fun _ _ _ _ _ st h=>wpAny_pyIter_tupleiter st h
theorem UF{P:Program}{w:World}{K:Frag}{tg:Expr}(it:Addr)(lo:Int)(n:Nat):Vt P w K tg (Itr lo n) [it] it (fun i h=>IsRangeIter h it (lo+(i:Nat)*1) ((n:Int)-(i:Nat)) 1) where
 mem:=by simp
 obj:=fun i h st b hb=>by
  have e:b=it:=by simpa using hb
  subst e
  exact⟨_,st,fun v z=>by
   have z':Data.fields _=Data.cell v:=z
   cases z'⟩
 keep:=fun i h h' st k=>k it (by simp) _ st
 item:=by
  intro X hP hw hK hc i pins s σ H E I hf st hg
  subst hP hw hK
  obtain⟨f0,f1,f2,f3,f4,f5⟩:=hf it (by simp)
  have W:=Walks.range (prog:=X.prog) (w:=X.w) (I.ok.hd hc) it lo 1 n
  refine W.item i s _ _ hg st fun v h' tk hv st' kk=>?_
  obtain⟨t,rfl⟩:=hv
  have I1:Inv X pins σ H { s with heap:=h',toks:=tk }:=I.turned (fun b o hb e=>kk b o (by simpa using hb) e) f0 f1 f3 f4 f5
  refine⟨_,rfl,Uo (s:={ s with heap:=h',toks:=tk }) (n := "range_iterator") st' rfl rfl (by decide) ⟨.int (lo+i),H,I1,⟨t,?_⟩,⟨rfl,rfl⟩,st',fun b hb=>(hf b hb).1⟩⟩
  rw[Int.mul_one]
 done:=by
  intro X hP hw hK hc i pins s σ H E I hf st hg
  subst hP hw hK
  obtain⟨f0,f1,f2,f3,f4,f5⟩:=hf it (by simp)
  exact wpAny_pyNext_range_end (I.ok.hd hc) st (by have:n≤i:=hg;lia) fun h' eb=>⟨rfl,I.turned (t':=s.toks) (fun b o hb e=>eb b o hb e) f0 f1 f3 f4 f5⟩
 self:=fun _ _ _ _ _ st h=>wpAny_pyIter_rangeiter st h
section
variable{X:Cx}{tg:Expr}
theorem VU{pins:List (Addr×Obj)}{σ:St}{H:Hp}{s:Shared}{R:It→Hp→Prop}{E:Value→Shared→Prop}{lo hi:Int}{t u v:Tok}{tk:Nat}(I:Inv X pins σ H s)(h1 : -(2 ^ 62)≤lo)(h2:lo<2 ^ 62)(h3 : -(2 ^ 62)≤hi)(h4:hi<2 ^ 62)
  (q:R (Itr lo (hi-lo).toNat) H):wpAny (model X.prog X.w) X.A (pyIter (.ref s.heap.objs.size)) (PIE X pins σ tg R) E { s with heap:=s.heap.push { cls:=.type "range", data:=.fields #[.int lo t,.int hi u,.int 1 v] },toks:=tk }:=by
 refine wpAny_pyIter_range (IsRange.new ..) (small_one h1 h2 h3 h4) ?_
 have I1:Inv X pins σ H { s with heap:=s.heap.push { cls:=.type "range", data:=.fields #[.int lo t,.int hi u,.int 1 v] },toks:=tk }:=I.kept fun b o e=>get?_push_of_some _ e
 refine⟨(s.heap.push { cls:=.type "range", data:=.fields #[.int lo t,.int hi u,.int 1 v] }).objs.size,[(s.heap.push { cls:=.type "range", data:=.fields #[.int lo t,.int hi u,.int 1 v] }).objs.size],_,_,H,rfl,
  I1.kept (t':=tk) fun b o e=>get?_push_of_some _ e,UF _ lo (hi-lo).toNat,?_,fun b hb=>?_,q⟩
 ·have e1:lo+((0:Nat):Int)*1=lo:=by simp
  have e2:(((hi-lo).toNat:Nat):Int)-((0:Nat):Int)=Builtin.Range.rangeSize lo hi 1:=by rw[rangeSize_one];split <;> lia
  show IsRangeIter _ _ (lo+((0:Nat):Int)*1) ((((hi-lo).toNat:Nat):Int)-((0:Nat):Int)) 1
  rw[e1,e2]
  exact Heap.get?_push_size _ rfl
 ·have e:b=(s.heap.push { cls:=.type "range", data:=.fields #[.int lo t,.int hi u,.int 1 v] }).objs.size:=by simpa using hb
  subst e
  exact I1.fpOk (le_refl _) (I1.hok.fresh (le_refl _))
noncomputable def iRng1(ta:TA):TI:=fun σ H R=>ta σ H fun vs H1=>∃j:Int,vs=[.int j]∧-(2 ^ 62)≤j∧j<2 ^ 62∧R (Itr 0 j.toNat) H1
noncomputable def iRng2(ta:TA):TI:=fun σ H R=>ta σ H fun vs H1=>∃i j:Int,vs=[.int i,.int j]∧(-(2 ^ 62)≤i∧i<2 ^ 62∧-(2 ^ 62)≤j∧j<2 ^ 62)∧R (Itr i (j-i).toNat) H1
theorem Qu{a:Expr}{ta:TA}{p pos:Pos}(hg:Gl X "range")(hm:X.mg "range" = none)(ha:PA X [a] ta)(hs:starEach [a] X.env=[(false,eval a X.env)]:=by rfl):PI X tg (.Call (.Name "range" p) [a] [] pos) (iRng1 ta):=by
 intro pins s σ H R I h
 refine Call_ (uB I hg hm boot_range (PyProof.Rows.callWith_type1 (thn (ha pos pins s σ H _ I h) fun us s1 z_=>?_) hs rfl))
 obtain⟨vs,H1,I1,r1,q1⟩:=z_
 obtain⟨j,e,q1,q2,q⟩:=q1
 subst e
 cases r1 with
 |cons r rr=>
  cases rr
  obtain⟨t,rfl⟩:=r
  exact call_range_1 (VU I1 (by lia) (by lia) q1 q2 (by simpa using q))
theorem Qt{a b:Expr}{ta:TA}{p pos:Pos}(hg:Gl X "range")(hm:X.mg "range" = none)(ha:PA X [a,b] ta)(hs:starEach [a,b] X.env=[(false,eval a X.env),(false,eval b X.env)]:=by rfl)(hs2:starEach [b] X.env=[(false,eval b X.env)]:=by rfl) :
  PI X tg (.Call (.Name "range" p) [a,b] [] pos) (iRng2 ta):=by
 intro pins s σ H R I h
 refine Call_ (uB I hg hm boot_range (PyProof.Rows.callWith_type1 (thn (ha pos pins s σ H _ I h) fun us s1 z_=>?_) (by rw[hs,hs2]) (by rw[hs2];rfl)))
 obtain⟨vs,H1,I1,r1,q1⟩:=z_
 obtain⟨i,j,e,⟨q1,q2,q3,q4⟩,q⟩:=q1
 subst e
 cases r1 with
 |cons r rr=>
  cases rr with
  |cons r' rr=>
   cases rr
   obtain⟨t,rfl⟩:=r
   obtain⟨t',rfl⟩:=r'
   exact call_range_2 (VU I1 q1 q2 q3 q4 q)
noncomputable def tFor(wi:TI)(g:TG)(tb:TS):TS:=fun D σ H=>wi σ H fun J H1=>∃W:Nat→Nat→St→Hp→Prop,(∃m,W 0 m σ H1)∧∀i m σ H,W i m σ H →
 (J.stop i H∧D.nx σ H)∨(J.go i H∧∃N:St→Hp→Prop,(∀σ' H',N σ' H'→∃m',m'<m∧W (i+1) m' σ' H')∧∀x H',J.yld i H x H'→g x σ H' fun σ2 H2=>tb { D with nx:=N,ct:=N,bk:=D.nx } σ2 H2)
noncomputable def YN(fp:List Addr)(h:Heap):List (Addr×Obj):=fp.filterMap fun b=>(h.get? b).map fun o=>(b,o)
theorem uy{fp:List Addr}{h:Heap}{b:Addr}{o:Obj}(hb:b∈fp)(e:h.get? b=some o):(b,o)∈YN fp h:=mem_filterMap.mpr ⟨b,hb,by rw[e];rfl⟩
theorem QD{fp:List Addr}{h:Heap}{p:Addr×Obj}(hp:p∈YN fp h):p.1∈fp∧h.get? p.1=some p.2:=by
 obtain⟨b,hb,e⟩:=mem_filterMap.mp hp
 cases q:h.get? b with
 |none=>rw[q] at e;cases e
 |some o=>
  rw[q] at e
  have e':(b,o)=p:=Option.some.inj e
  subst e'
  exact⟨hb,q⟩
theorem Inv.pinned{pins:List (Addr×Obj)}{σ:St}{H:Hp}{s:Shared}{fp:List Addr}(I:Inv X pins σ H s)(hf:∀b∈fp,XI X pins H b)(ho:∀b∈fp,∃o,s.heap.get? b=some o∧∀v,o.data≠.cell v):Inv X (pins++YN fp s.heap) σ H s:=
 I.pins_of fun p hp=>(mem_append.mp hp).elim (fun z=>I.pin p (mem_append_right _ z)) fun z=>by
  obtain⟨hb,e⟩:=QD z
  obtain⟨f0,f1,f2,_⟩:=hf p.1 hb
  obtain⟨o,e',d⟩:=ho p.1 hb
  rw[e] at e';cases e'
  exact⟨e,f0,f1,f2,d⟩
theorem Inv.unpinned{pins pl:List (Addr×Obj)}{σ:St}{H:Hp}{s:Shared}(I:Inv X (pins++pl) σ H s):Inv X pins σ H s:=I.pins_of fun p hp=>I.pin p (mem_append_right _ (mem_append_left _ hp))
theorem G7{iter:Expr}{body:List Stmt}{wi:TI}{g:TG}{tb:TS}{pos:Pos}(hp:PassesOwn (model X.prog X.w) X.A X.env X.xe)(hc:X.calm=true)(hi:PI X tg iter wi)(hg:PG X tg g)(hb:PSs X body tb)
  (hs:∀x,foldedSetIterable iter X.env x=pure x:=by intro _;rfl):PS X (.For tg iter body [] pos) (tFor wi g tb):=by
 intro pins s σ H D I h
 refine wpAny_For (thn (hi pins s σ H _ I h) fun v s1 h1=>thn h1 fun itv s2 h2=>?_) hs
 obtain⟨it,fp,tn,J,H2,e,I2,T,st2,f2,W,⟨m0,w0⟩,turn⟩:=h2
 subst e
 have stat:∀{H':Hp},(∀b∈fp,H' b=none)→∀b∈fp,XI X pins H' b:=fun hn b hb=>⟨hn b hb,(f2 b hb).2⟩
 refine codeAny_forLoop_any (fun n s'=>∃i σ' H',Inv X pins σ' H' s'∧tn i s'.heap∧(∀b∈fp,H' b=none)∧W i n σ' H') ?_ m0 ⟨0,σ,H2,I2,st2,fun b hb=>(f2 b hb).1,w0⟩
 rintro n s3 ⟨i,σ3,H3,I3,st3,fr3,w3⟩
 rcases turn i n σ3 H3 w3 with ⟨stop,qn⟩|⟨go,N,hN,step⟩
 ·refine wpAny_passesOwn hp (thn (T.done X rfl rfl rfl hc i pins s3 σ3 H3 X.xe I3 (stat fr3) st3 stop) fun r s4 z_=>?_)
  obtain⟨hr,I4⟩:=z_
  subst hr
  exact wpAny_execs_nil ⟨σ3,H3,I4,qn⟩
 ·refine wpAny_passesOwn hp (thn (T.item X rfl rfl rfl hc i pins s3 σ3 H3 X.xe I3 (stat fr3) st3 go) fun r s4 z_=>?_)
  obtain⟨u,hr,h4⟩:=z_
  subst hr
  refine wpAny_passesOwn hp (thn h4 fun _ s5 z_=>?_)
  obtain⟨x,H5,I5,r5,y5,st5,fr5⟩:=z_
  have I5':=I5.pinned (stat fr5) (T.obj _ _ st5)
  refine wpAny_passesOwn hp (thn (hg _ s5 σ3 H5 x u _ I5' r5 (step x H5 y5)) fun _ s6 z_=>?_)
  obtain⟨σ6,H6,I6,q6⟩:=z_
  refine wpAny_passesOwn hp (thn (hb _ s6 σ6 H6 _ I6 q6) fun f s7 q7=>?_)
  have again:∀{σ7:St} {H7:Hp},Inv X (pins++YN fp s5.heap) σ7 H7 s7→N σ7 H7→∃m,m<n∧∃i σ' H',Inv X pins σ' H' s7∧tn i s7.heap∧(∀b∈fp,H' b=none)∧W i m σ' H':=fun {σ7 H7} I7 n7=>by
   obtain⟨m',hm,w7⟩:=hN σ7 H7 n7
   refine⟨m',hm,i+1,σ7,H7,I7.unpinned,T.keep _ _ _ st5 fun b hb o e=>(I7.pin (b,o) (mem_append_right _ (mem_append_right _ (uy hb e)))).1,fun b hb=>?_,w7⟩
   obtain⟨o,e,d⟩:=T.obj _ _ st5 b hb
   exact(I7.pin (b,o) (mem_append_right _ (mem_append_right _ (uy hb e)))).2.1
  cases f with
  |next=>obtain⟨σ7,H7,I7,n7⟩:=q7;exact again I7 n7
  |cont=>obtain⟨σ7,H7,I7,n7⟩:=q7;exact again I7 n7
  |brk=>obtain⟨σ7,H7,I7,q7⟩:=q7;exact⟨σ7,H7,I7.unpinned,q7⟩
  |ret v=>obtain⟨x7,σ7,H7,I7,r7,q7⟩:=q7;exact⟨x7,σ7,H7,I7.unpinned,r7,q7⟩
end
noncomputable abbrev R2:=V→V→Hp→VK→Prop
noncomputable def OpR(X:Cx)(f:Value→Value→Sem Value)(r:R2):Prop:=
 ∀(pins:List (Addr×Obj)) (s:Shared) (σ:St) (H:Hp) (x y:V) (v u:Value) (Q:VK),Inv X pins σ H s→RelV x v→RelV y u→r x y H Q →
  wpAny (model X.prog X.w) X.A (f v u) (EP X pins σ Q) X.xe s
noncomputable def UnR(X:Cx)(f:Value→Sem Value)(r:V→Hp→VK→Prop):Prop:=
 ∀(pins:List (Addr×Obj)) (s:Shared) (σ:St) (H:Hp) (x:V) (v:Value) (Q:VK),Inv X pins σ H s→RelV x v→r x H Q →
  wpAny (model X.prog X.w) X.A (f v) (EP X pins σ Q) X.xe s
noncomputable def CallR(X:Cx)(f:Value)(r:List V→Hp→VK→Prop):Prop:=
 ∀(pins:List (Addr×Obj)) (s:Shared) (σ:St) (H:Hp) (xs:List V) (us:List Value) (Q:VK),Inv X pins σ H s→Vals xs us→r xs H Q →
  wpAny (model X.prog X.w) X.A (call f us) (EP X pins σ Q) X.xe s
noncomputable def TruR(X:Cx)(r:V→Hp→(Bool→Hp→Prop)→Prop):Prop:=
 ∀(pins:List (Addr×Obj)) (s:Shared) (σ:St) (H:Hp) (x:V) (v:Value) (Q:Bool→Hp→Prop),Inv X pins σ H s→RelV x v→r x H Q →
  wpAny (model X.prog X.w) X.A (truthy v) (TP X pins σ Q) X.xe s
noncomputable def tOp(r:R2)(ta tb:TE):TE:=fun σ H Q=>ta σ H fun x H1=>tb σ H1 fun y H2=>r x y H2 Q
noncomputable def tUn(r:V→Hp→VK→Prop)(ta:TE):TE:=fun σ H Q=>ta σ H fun x H1=>r x H1 Q
noncomputable def rI(C:Int→Int→Prop)(g:Int→Int→V):R2:=fun x y H Q=>∃i j,x=.int i∧y=.int j∧C i j∧Q (g i j) H
noncomputable def rI0(g:Int→Int→V):R2:=fun x y H Q=>∃i j,x=.int i∧y=.int j∧Q (g i j) H
noncomputable def rU(g:Int→V):V→Hp→VK→Prop:=fun x H Q=>∃i,x=.int i∧Q (g i) H
section
variable{X:Cx}{a b c:Expr}{ta tb tc:TE}{pos:Pos}
theorem zs0(ha:PE X a ta)(hb:PE X b tb){pins:List (Addr×Obj)}{s:Shared}{σ:St}{H:Hp}{R:V→V→Hp→Prop}(I:Inv X pins σ H s)
  (h:ta σ H fun x H1=>tb σ H1 fun y H2=>R x y H2) {Q:Value→Shared→Prop} {f:Value→Value→Sem Value}
  (hf:∀v u s2 x y H2,Inv X pins σ H2 s2→RelV x v→RelV y u→R x y H2→wpAny (model X.prog X.w) X.A (f v u) Q X.xe s2) :
  wpAny (model X.prog X.w) X.A (eval a X.env) (fun v s₁=>wpAny (model X.prog X.w) X.A (eval b X.env) (fun u s₂=>wpAny (model X.prog X.w) X.A (f v u) Q X.xe s₂) X.xe s₁) X.xe s:=by
 refine thn (ha pins s σ H _ I h) fun v s1 z_=>?_
 obtain⟨x,H1,I1,r1,q1⟩:=z_
 refine thn (hb pins s1 σ H1 _ I1 q1) fun u s2 z_=>?_
 obtain⟨y,H2,I2,r2,q2⟩:=z_
 exact hf v u s2 x y H2 I2 r1 r2 q2
theorem pe_op{op:Operator}{r:R2}(ho:OpR X (binaryOp op) r)(ha:PE X a ta)(hb:PE X b tb):PE X (.BinOp a op b pos) (tOp r ta tb):=by
 intro pins s σ H Q I h
 exact wpAny_BinOp (zs0 ha hb I h fun v u s2 x y H2 I2 rx ry q=>ho pins s2 σ H2 x y v u Q I2 rx ry q)
theorem pe_un{op:UnaryOp}{r:V→Hp→VK→Prop}(ho:UnR X (unaryOp op) r)(ha:PE X a ta):PE X (.UnaryOp op a pos) (tUn r ta):=by
 intro pins s σ H Q I h
 exact UnaryOp_ (thn (ha pins s σ H _ I h) fun v s1 ⟨x,H1,I1,r1,q1⟩=>ho pins s1 σ H1 x v Q I1 r1 q1)
theorem opI{f:Value→Value→Sem Value}{C:Int→Int→Prop}{g:Int→Int→Int}
  (rule:∀(i j:Int) (t u:Tok) (s:Shared) (Q:Value→Shared→Prop) (E:Value→Shared→Prop),C i j→Q (.int (g i j) s.toks) { s with toks:=s.toks+1 }→wpAny (model X.prog X.w) X.A (f (.int i t) (.int j u)) Q E s) :
  OpR X f (rI C fun i j=>.int (g i j)):=by
 intro pins s σ H x y v u Q I rx ry h
 obtain⟨i,j,rfl,rfl,hc,q⟩:=h
 obtain⟨t,rfl⟩:=rx
 obtain⟨t',rfl⟩:=ry
 exact rule i j t t' s _ _ hc ⟨.int (g i j),H,I.tok _,⟨_,rfl⟩,q⟩
theorem opI0{f:Value→Value→Sem Value}{g:Int→Int→Int}
  (rule:∀(i j:Int) (t u:Tok) (s:Shared) (Q:Value→Shared→Prop) (E:Value→Shared→Prop),Q (.int (g i j) s.toks) { s with toks:=s.toks+1 }→wpAny (model X.prog X.w) X.A (f (.int i t) (.int j u)) Q E s) :
  OpR X f (rI0 fun i j=>.int (g i j)):=by
 intro pins s σ H x y v u Q I rx ry h
 obtain⟨i,j,rfl,rfl,q⟩:=h
 obtain⟨t,rfl⟩:=rx
 obtain⟨t',rfl⟩:=ry
 exact rule i j t t' s _ _ ⟨.int (g i j),H,I.tok _,⟨_,rfl⟩,q⟩
theorem zm7{f:Value→Value→Sem Value}{g:Int→Int→Bool}
  (rule:∀(i j:Int) (t u:Tok) (s:Shared) (Q:Value→Shared→Prop) (E:Value→Shared→Prop),Q (.bool (g i j)) s→wpAny (model X.prog X.w) X.A (f (.int i t) (.int j u)) Q E s) :
  OpR X f (rI0 fun i j=>.bl (g i j)):=by
 intro pins s σ H x y v u Q I rx ry h
 obtain⟨i,j,rfl,rfl,q⟩:=h
 obtain⟨t,rfl⟩:=rx
 obtain⟨t',rfl⟩:=ry
 exact rule i j t t' s _ _ ⟨.bl (g i j),H,I,rfl,q⟩
noncomputable def CDiv(i j:Int):Prop:=0<j∧j<1073741824
noncomputable def CMul(i j:Int):Prop:=(-(2 ^ 64)<i∧i<2 ^ 64)∨(-(2 ^ 64)<j∧j<2 ^ 64)
theorem CMul.ok{i j:Int}(h:CMul i j):IntMulOk i j:=by
 rcases h with ⟨h1,h2⟩|⟨h1,h2⟩
 ·exact .of_left (intBits_le_64 h1 h2)
 ·exact .of_right (intBits_le_64 h1 h2)
theorem op_add:OpR X (binaryOp .Add) (rI0 fun i j=>.int (i+j)):=opI0 fun _ _ _ _ _ _ _ q=>add_int q
theorem zm2:OpR X (binaryOp .Sub) (rI0 fun i j=>.int (i-j)):=opI0 fun _ _ _ _ _ _ _ q=>sub_int q
theorem op_mul:OpR X (binaryOp .Mult) (rI CMul fun i j=>.int (i*j)):=opI fun _ _ _ _ _ _ _ hc q=>mul_int q hc.ok
theorem LQ:OpR X (binaryOp .FloorDiv) (rI CDiv fun i j=>.int (i / j)):=opI fun i j _ _ _ _ _ hc q=>by
 have h1:(0:Int)<j:=hc.1
 have h2:j<1073741824:=hc.2
 exact floordiv_int (by lia) (by rw[Int.fdiv_eq_ediv_of_nonneg i (by lia)];exact q) (.inl (PyProof.noPylong_small (by lia)))
theorem zm4:OpR X (binaryOp .Mod) (rI (fun _ j=>0<j) fun i j=>.int (i%j)):=opI fun i j _ _ _ _ _ hc q=>by
 have h1:(0:Int)<j:=hc
 exact mod_int' (by lia) (by rw[Int.fmod_eq_emod_of_nonneg i (by lia)];exact q)
theorem unI{f:Value→Sem Value}{g:Int→Int}
  (rule:∀(i:Int) (t:Tok) (s:Shared) (Q:Value→Shared→Prop) (E:Value→Shared→Prop),Q (.int (g i) s.toks) { s with toks:=s.toks+1 }→wpAny (model X.prog X.w) X.A (f (.int i t)) Q E s) :
  UnR X f (rU fun i=>.int (g i)):=by
 intro pins s σ H x v Q I rx h
 obtain⟨i,rfl,q⟩:=h
 obtain⟨t,rfl⟩:=rx
 exact rule i t s _ _ ⟨.int (g i),H,I.tok _,⟨_,rfl⟩,q⟩
theorem zi7:UnR X (unaryOp .USub) (rU fun i=>.int (-i)):=unI fun _ _ _ _ _ q=>neg_int q
end
noncomputable def scal:V→V→Bool
 |.non,.non=>true | .non,.int _=>true | .int _,.non=>true | .non,.bl _=>true | .bl _,.non=>true | .non,.str _=>true | .str _,.non=>true
 |.int _,.int _=>true | .bl _,.bl _=>true | .str _,.str _=>true | .byt _,.byt _=>true
 |.int _,.str _=>true | .str _,.int _=>true | .bl _,.str _=>true | .str _,.bl _=>true
 |_,_=>false
noncomputable def rEq:R2:=fun x y H Q=>scal x y=true∧Q (.bl (decide (x=y))) H
noncomputable def rNe:R2:=fun x y H Q=>scal x y=true∧Q (.bl (!decide (x=y))) H
theorem Yy{i j:Int}:decide (V.int i=V.int j)=(i==j):=by
 rw[Bool.eq_iff_iff]
 simp
theorem Tj{i j:Bool}:decide (V.bl i=V.bl j)=(i==j):=by
 rw[Bool.eq_iff_iff]
 simp
theorem Yx{i j:Str}:decide (V.str i=V.str j)=(i==j):=by
 rw[Bool.eq_iff_iff]
 simp
theorem J6{i j:Array UInt8}:decide (V.byt i=V.byt j)=(i.toList==j.toList):=by
 rw[Bool.eq_iff_iff]
 cases i
 cases j
 simp
section
variable{X:Cx}{a b c:Expr}{ta tb tc:TE}{pos:Pos}
theorem ym{pins:List (Addr×Obj)}{σ:St}{H:Hp}{s:Shared}{Q:VK}{k k':Bool}(I:Inv X pins σ H s)(q:Q (.bl k) H)(e:k=k'):EP X pins σ Q (.bool k') s:=by
 subst e
 exact⟨.bl k,H,I,rfl,q⟩
theorem op_eq:OpR X (compareOp .Eq) rEq:=by
 intro pins s σ H x y v u Q I rx ry h
 obtain⟨hs,q⟩:=h
 cases x with
 |non=>
  cases rx
  cases y with
  |non=>cases ry;exact PySem.EqNone.eq_none_none (ym I q (by simp))
  |bl j=>cases ry;exact PySem.EqNone.eq_none_bool (ym I q (by simp))
  |int j=>obtain⟨t',rfl⟩:=ry;exact PySem.EqNone.eq_none_int (ym I q (by simp))
  |str j=>obtain⟨t',rfl⟩:=ry;exact PySem.EqNone.eq_none_str (ym I q (by simp))
  |_=>exact absurd (show false=true from hs) Bool.false_ne_true
 |bl i=>
  cases rx
  cases y with
  |non=>cases ry;exact PySem.EqNone.eq_bool_none (ym I q (by simp))
  |bl j=>cases ry;exact eq_bool (ym I q Tj)
  |str j=>obtain⟨t',rfl⟩:=ry;exact PySem.EqMixed.eq_bool_str (ym I q (by simp))
  |_=>exact absurd (show false=true from hs) Bool.false_ne_true
 |int i=>
  obtain⟨t,rfl⟩:=rx
  cases y with
  |non=>cases ry;exact PySem.EqNone.eq_int_none (ym I q (by simp))
  |int j=>obtain⟨t',rfl⟩:=ry;exact eq_int (ym I q Yy)
  |str j=>obtain⟨t',rfl⟩:=ry;exact PySem.EqMixed.eq_int_str (ym I q (by simp))
  |_=>exact absurd (show false=true from hs) Bool.false_ne_true
 |str i=>
  obtain⟨t,rfl⟩:=rx
  cases y with
  |non=>cases ry;exact PySem.EqNone.eq_str_none (ym I q (by simp))
  |bl j=>cases ry;exact PySem.EqMixed.eq_str_bool (ym I q (by simp))
  |int j=>obtain⟨t',rfl⟩:=ry;exact PySem.EqMixed.eq_str_int (ym I q (by simp))
  |str j=>obtain⟨t',rfl⟩:=ry;exact eq_str (ym I q Yx)
  |_=>exact absurd (show false=true from hs) Bool.false_ne_true
 |byt i=>
  obtain⟨t,rfl⟩:=rx
  cases y with
  |byt j=>obtain⟨t',rfl⟩:=ry;exact PySem.W.eq_bytes (ym I q J6)
  |_=>exact absurd (show false=true from hs) Bool.false_ne_true
 |_=>cases y <;> exact absurd (show false=true from hs) Bool.false_ne_true
theorem op_ne:OpR X (compareOp .NotEq) rNe:=by
 intro pins s σ H x y v u Q I rx ry h
 obtain⟨hs,q⟩:=h
 cases x with
 |non=>
  cases rx
  cases y with
  |non=>cases ry;exact PySem.EqNone.ne_none_none (ym I q (by simp))
  |bl j=>cases ry;exact PySem.EqNone.ne_none_bool (ym I q (by simp))
  |int j=>obtain⟨t',rfl⟩:=ry;exact PySem.EqNone.ne_none_int (ym I q (by simp))
  |str j=>obtain⟨t',rfl⟩:=ry;exact PySem.EqNone.ne_none_str (ym I q (by simp))
  |_=>exact absurd (show false=true from hs) Bool.false_ne_true
 |bl i=>
  cases rx
  cases y with
  |non=>cases ry;exact PySem.EqNone.ne_bool_none (ym I q (by simp))
  |bl j=>cases ry;exact ne_bool (ym I q (congrArg not Tj))
  |str j=>obtain⟨t',rfl⟩:=ry;exact PySem.EqMixed.ne_bool_str (ym I q (by simp))
  |_=>exact absurd (show false=true from hs) Bool.false_ne_true
 |int i=>
  obtain⟨t,rfl⟩:=rx
  cases y with
  |non=>cases ry;exact PySem.EqNone.ne_int_none (ym I q (by simp))
  |int j=>obtain⟨t',rfl⟩:=ry;exact ne_int (ym I q (congrArg not Yy))
  |str j=>obtain⟨t',rfl⟩:=ry;exact PySem.EqMixed.ne_int_str (ym I q (by simp))
  |_=>exact absurd (show false=true from hs) Bool.false_ne_true
 |str i=>
  obtain⟨t,rfl⟩:=rx
  cases y with
  |non=>cases ry;exact PySem.EqNone.ne_str_none (ym I q (by simp))
  |bl j=>cases ry;exact PySem.EqMixed.ne_str_bool (ym I q (by simp))
  |int j=>obtain⟨t',rfl⟩:=ry;exact PySem.EqMixed.ne_str_int (ym I q (by simp))
  |str j=>obtain⟨t',rfl⟩:=ry;exact ne_str (ym I q (congrArg not Yx))
  |_=>exact absurd (show false=true from hs) Bool.false_ne_true
 |byt i=>
  obtain⟨t,rfl⟩:=rx
  cases y with
  |byt j=>obtain⟨t',rfl⟩:=ry;exact PySem.W.ne_bytes (ym I q (congrArg not J6))
  |_=>exact absurd (show false=true from hs) Bool.false_ne_true
 |_=>cases y <;> exact absurd (show false=true from hs) Bool.false_ne_true
theorem op_lt:OpR X (compareOp .Lt) (rI0 fun i j=>.bl (decide (i<j))):=zm7 fun _ _ _ _ _ _ _ q=>lt_int q
theorem op_le:OpR X (compareOp .LtE) (rI0 fun i j=>.bl (decide (i≤j))):=zm7 fun _ _ _ _ _ _ _ q=>le_int q
theorem op_gt:OpR X (compareOp .Gt) (rI0 fun i j=>.bl (decide (j<i))):=zm7 fun _ _ _ _ _ _ _ q=>gt_int q
theorem op_in_str:OpR X (compareOp .In) (fun x y H Q=>∃i j,x=.str i∧y=.str j∧Q (.bl (!(Builtin.Str.occurrences j i 0 j.length 1).isEmpty)) H):=by
 intro pins s σ H x y v u Q I rx ry h
 obtain⟨i,j,rfl,rfl,q⟩:=h
 obtain⟨t,rfl⟩:=rx
 obtain⟨t',rfl⟩:=ry
 exact in_str (ym I q rfl)
theorem zm5:OpR X (compareOp .Is) (fun x y H Q=>y=.non∧Q (.bl (decide (x=.non))) H):=by
 intro pins s σ H x y v u Q I rx ry h
 obtain⟨rfl,q⟩:=h
 cases ry
 refine is_none_gen (ym I q ?_)
 cases x <;> first
  | (cases rx;rfl)
  | (obtain⟨t,rfl⟩:=rx;rfl)
theorem LP:OpR X (compareOp .IsNot) (fun x y H Q=>y=.non∧Q (.bl (!decide (x=.non))) H):=by
 intro pins s σ H x y v u Q I rx ry h
 obtain⟨rfl,q⟩:=h
 cases ry
 refine isnot_none_gen (ym I q ?_)
 cases x <;> first
  | (cases rx;rfl)
  | (obtain⟨t,rfl⟩:=rx;rfl)
theorem OpR.or{f:Value→Value→Sem Value}{r r':R2}(h:OpR X f r)(h':OpR X f r'):OpR X f (fun x y H Q=>r x y H Q∨r' x y H Q):=by
 intro pins s σ H x y v u Q I rx ry q
 rcases q with q|q
 ·exact h pins s σ H x y v u Q I rx ry q
 ·exact h' pins s σ H x y v u Q I rx ry q
theorem yb(b:Expr){op:CmpOp}(h:op≠.In:=by decide)(h2:op≠.NotIn:=by decide):behindInMarks op b=false:=by
 have e1:(op==CmpOp.In)=false:=by cases op <;> first|rfl|exact absurd rfl h
 have e2:(op==CmpOp.NotIn)=false:=by cases op <;> first|rfl|exact absurd rfl h2
 cases b <;> simp[behindInMarks,e1,e2]
theorem LI{op:CmpOp}{r:R2}(ho:OpR X (compareOp op) r)(ha:PE X a ta)(hb:PE X b tb)(hm:behindInMarks op b=false):PE X (.Compare a [op] [b] pos) (tOp r ta tb):=by
 intro pins s σ H Q I h
 exact wpAny_Compare1 (zs0 ha hb I h fun v u s2 x y H2 I2 rx ry q=>ho pins s2 σ H2 x y v u Q I2 rx ry q) hm
noncomputable def zf9(t:TE):TT:=fun σ H Q=>t σ H fun x H'=>∃k,x=.bl k∧Q k H'
theorem Lx{op:CmpOp}{r:R2}(ho:OpR X (compareOp op) r)(ha:PE X a ta)(hb:PE X b tb)(hm:behindInMarks op b=false):PT X (.Compare a [op] [b] pos) (zf9 (tOp r ta tb)):=by
 intro pins s σ H Q I h
 refine wpAny_isTrue_Compare1 (thn (ha pins s σ H _ I h) fun v s1 ⟨x,H1,I1,r1,q1⟩=>thn (hb pins s1 σ H1 _ I1 q1) fun u s2 ⟨y,H2,I2,r2,q2⟩=>
  thn (ho pins s2 σ H2 x y v u _ I2 r1 r2 q2) fun c s3 ⟨z,H3,I3,r3,k,e,q3⟩=>?_) hm
 subst e
 cases r3
 exact wpAny_truthy_bool ⟨H3,I3,q3⟩
noncomputable def zs7(K:Frag)(x:V)(H:Hp)(k:Bool):Prop:=
 match x with
 |.non=>k=false
 |.bl b=>k=b
 |.int i=>k=(i != 0)
 |.str y=>y.length≤sizeLine∧k=((y.length:Int) != 0)
 |.byt y=>y.size≤sizeLine∧k=((y.size:Int) != 0)
 |.ref p=>(∃xs,SqL K H p xs∧k = !xs.isEmpty)∨(∃xs,SqT K H p xs∧k = !xs.isEmpty)∨∃kvs,H p=some (.dK kvs)∧k = !kvs.isEmpty
 |_=>False
theorem Ja{κ:Type}{kvs:List (κ×V)}{vs:List (κ×Value)}(r:KV kvs vs):(!vs.isEmpty) = !kvs.isEmpty:=by
 cases r <;> rfl
theorem Xg{xs:List V}{its:List Value}(r:Vals xs its):(!its.toArray.isEmpty) = !xs.isEmpty:=by
 cases r <;> simp
theorem jT:(sizeLine:Nat)<2 ^ 63:=by rw[sizeLine_eq];decide
theorem tru_ok:TruR X (fun x H Q=>∃k,zs7 X.K x H k∧Q k H):=by
 intro pins s σ H x v Q I rx h
 obtain⟨k,e,q⟩:=h
 have hl:=jT
 have hs:sizeLine=16777216:=sizeLine_eq
 cases x with
 |non=>
  cases rx
  have e':k=false:=e
  subst e'
  exact truthy_none ⟨H,I,q⟩
 |bl b=>
  cases rx
  have e':k=b:=e
  subst e'
  exact wpAny_truthy_bool ⟨H,I,q⟩
 |int i=>
  obtain⟨t,rfl⟩:=rx
  have e':k=(i != 0):=e
  subst e'
  exact PySem.P.truthy_int ⟨H,I,q⟩
 |str y=>
  obtain⟨t,rfl⟩:=rx
  obtain⟨hy,e'⟩:y.length≤sizeLine∧k=((y.length:Int) != 0):=e
  subst e'
  exact PySem.P.truthy_str (by lia) ⟨H,I.tok _,q⟩
 |byt y=>
  obtain⟨t,rfl⟩:=rx
  obtain⟨hy,e'⟩:y.size≤sizeLine∧k=((y.size:Int) != 0):=e
  subst e'
  exact PySem.W.truthy_bytes (by lia) ⟨H,I.tok _,q⟩
 |ref p=>
  cases rx
  have e':(∃xs,SqL X.K H p xs∧k = !xs.isEmpty)∨(∃xs,SqT X.K H p xs∧k = !xs.isEmpty)∨∃kvs,H p=some (.dK kvs)∧k = !kvs.isEmpty:=e
  rcases e' with ⟨xs,hx,e'⟩|⟨xs,hx,e'⟩|⟨kvs,hx,e'⟩
  ·subst e'
   obtain⟨its,r,pl,hz⟩:=I.list hx
   have hlen:=r.length
   exact wpAny_truthy_list pl.isList (by simp only[size_toArray];lia) ⟨H,I.tok _,by rw[Xg r];exact q⟩
  ·subst e'
   obtain⟨its,r,pl,hz⟩:=I.tuple hx
   have hlen:=r.length
   exact truthy_tuple pl (by simp only[size_toArray];lia) ⟨H,I.tok _,by rw[Xg r];exact q⟩
  ·subst e'
   obtain⟨hz,hS,vs,r,m⟩:kvs.length≤sizeLine∧(p==sysModules)=false∧∃vs,KV kvs vs∧s.heap.DictOf (wa X.prog X.w) p vs:=I.hok p _ hx
   have hlen:kvs.length=vs.length:=Paired.length r
   exact wpAny_truthy_dict hS m (by lia) ⟨H,I.tok _,by rw[Ja r];exact q⟩
 |_=>exact(show False from e).elim
theorem G5(ha:PE X a ta)(he:∀whole,isTrue a X.env whole=(do let v ← whole;standAt a.pos;holding [v] (truthy v))) :
  PT X a (fun σ H Q=>ta σ H fun x H'=>∃k,zs7 X.K x H' k∧Q k H'):=by
 intro pins s σ H Q I h
 exact isTrue_plain (thn (ha pins s σ H _ I h) fun v s1 ⟨x,H1,I1,r1,q1⟩=>tru_ok pins s1 σ H1 x v Q I1 r1 q1) (he _)
theorem op_add_str:OpR X (binaryOp .Add) (fun x y H Q=>∃i j,x=.str i∧y=.str j∧i.length+j.length≤sizeLine∧Q (.str (i++j)) H):=by
 intro pins s σ H x y v u Q I rx ry h
 obtain⟨i,j,rfl,rfl,hz,q⟩:=h
 obtain⟨t,rfl⟩:=rx
 obtain⟨t',rfl⟩:=ry
 exact add_str (fun t' tk=>⟨.str (i++j),H,I.tok _,⟨_,rfl⟩,q⟩) hz
theorem vals1{x:V}{us:List Value}(r:Vals [x] us):∃u,us=[u]∧RelV x u:=by
 cases r with
 |cons r1 r2=>cases r2;exact⟨_,rfl,r1⟩
theorem vals2{x y:V}{us:List Value}(r:Vals [x,y] us):∃u w',us=[u,w']∧RelV x u∧RelV y w':=by
 cases r with
 |cons r1 r2=>
  cases r2 with
  |cons r3 r4=>cases r4;exact⟨_,_,rfl,r1,r3⟩
theorem Gj(hc:X.calm=true):CallR X (.builtin "max") (fun xs H Q=>∃i j,xs=[.int i,.int j]∧Q (.int (if j > i then j else i)) H):=by
 intro pins s σ H xs us Q I r h
 obtain⟨i,j,rfl,q⟩:=h
 obtain⟨u,w',rfl,⟨t,rfl⟩,⟨t',rfl⟩⟩:=vals2 r
 refine max_two_ints (I.ok.hd hc) fun h' tk k=>⟨_,H,I.kept k,?_,q⟩
 by_cases hj:j > i
 ·rw[if_pos hj,if_pos hj];exact⟨_,rfl⟩
 ·rw[if_neg hj,if_neg hj];exact⟨_,rfl⟩
theorem Gh(hc:X.calm=true):CallR X (.builtin "min") (fun xs H Q=>∃i j,xs=[.int i,.int j]∧Q (.int (if j<i then j else i)) H):=by
 intro pins s σ H xs us Q I r h
 obtain⟨i,j,rfl,q⟩:=h
 obtain⟨u,w',rfl,⟨t,rfl⟩,⟨t',rfl⟩⟩:=vals2 r
 refine min_two_ints (I.ok.hd hc) fun h' tk k=>⟨_,H,I.kept k,?_,q⟩
 by_cases hj:j<i
 ·rw[if_pos hj,if_pos hj];exact⟨_,rfl⟩
 ·rw[if_neg hj,if_neg hj];exact⟨_,rfl⟩
end
section
variable{prog:Program}{w:World}{A:Around}{E:Value→Shared→Prop}{s:Shared}{K:Frag}{x dx C f:Addr}{mA:Str→Option Value}{name:Str}{v:Value}
end
section
variable{P:Program}{w:World}{H H':Hp}{h h':Heap}{a C dx:Addr}{fs fs':List (Str×V)}
end
section
variable{X:Cx}{pins:List (Addr×Obj)}{σ:St}{H:Hp}{s:Shared}{a C dx:Addr}{fs:List (Str×V)}{f:Str}{v:V}{A:Around}{E:Value→Shared→Prop}
end
section
variable{X:Cx}{o e value:Expr}{f:Str}{pos pos' tpos:Pos}{ta tv:TE}
end
section
variable{X:Cx}{pins:List (Addr×Obj)}{σ:St}{H:Hp}{s:Shared}{A:Around}{E:Value→Shared→Prop}{Q:Value→Shared→Prop}{c:Value}{b:Bool}
end
structure Room(k:Nat)(A:Around):Prop where
 hd:A.handled=none
 dp:A.depth+3*k+5<recursionLimit
 un:A.units+16*k+200<cLine
theorem Room.mono{j k:Nat}{A:Around}(r:Room k A)(h:j≤k):Room j A:=⟨r.hd,by have:=r.dp;lia,by have:=r.un;lia⟩
theorem Room.deeper{k:Nat}{A:Around}(r:Room (k+1) A)(env:Env):Room k (A.deeper env):=
 ⟨r.hd,by have:=r.dp;show A.depth+1+3*k+5<_;lia,by have:=r.un;show A.units+3+16*k+200<_;lia⟩
theorem Room.in1{k:Nat}{A:Around}(r:Room (k+1) A):Room k A.in1:=
 ⟨r.hd,by have:=r.dp;show A.depth+3*k+5<_;lia,by have:=r.un;show A.units+1+16*k+200<_;lia⟩
theorem Room.depth{k:Nat}{A:Around}(r:Room k A):A.depth<recursionLimit:=by have:=r.dp;lia
theorem Room.units{k:Nat}{A:Around}(r:Room k A):A.units+64<cLine:=by have:=r.un;lia
noncomputable def tNil:TA:=fun _ H Q=>Q [] H
noncomputable def tCons(ta:TE)(tr:TA):TA:=fun σ H Q=>ta σ H fun x H1=>tr σ H1 fun xs H2=>Q (x::xs) H2
section
variable{X:Cx}{e:Expr}{es:List Expr}{te:TE}{t:TA}{pos:Pos}
theorem W5:PA X [] tNil:=fun _ _ _ _ H Q I h=>Calls.spliced_nil ⟨[],H,I,.nil,h⟩
theorem Yq(ha:PE X e te)(hr:PA X es t)(hs:starEach (e::es) X.env=(false,eval e X.env)::starEach es X.env:=by rfl):PA X (e::es) (tCons te t):=by
 intro pos pins s σ H Q I h
 rw[hs]
 show wpAny _ _ (spliced ((false,eval e X.env)::backTo pos (starEach es X.env))) _ _ s
 refine Calls.spliced_cons (thn (ha pins s σ H _ I h) fun u s1 z_=>?_)
 obtain⟨x,H1,I1,r1,q1⟩:=z_
 exact thn (hr pos pins s1 σ H1 _ I1 q1) fun us s2 z_=>by obtain⟨xs,H2,I2,r2,q2⟩:=z_;exact⟨x::xs,H2,I2,.cons r1 r2,q2⟩
noncomputable def tTup(t:TA):TE:=fun σ H Q=>t σ H fun xs H1=>xs.length≤sizeLine∧∀p,H1 p=none→Q (.ref p) (upd H1 p (.tup xs))
noncomputable def tLst(t:TA):TE:=fun σ H Q=>t σ H fun xs H1=>xs.length≤sizeLine∧∀p,H1 p=none→Q (.ref p) (upd H1 p (.lst xs))
theorem zl1{x1}(h:PA X es t):PE X (.Tuple es x1 pos) (tTup t):=by
 intro pins s σ H Q I hq
 refine wpAny_Tuple_spliced (thn (h pos pins s σ H _ I hq) fun us s1 ⟨xs,H1,I1,r,z,q⟩=>⟨by rw[← r.length];exact z,?_⟩)
 have hf:H1 s1.heap.objs.size=none:=I1.hok.fresh (le_refl _)
 refine⟨.ref s1.heap.objs.size,upd H1 s1.heap.objs.size (.tup xs),I1.laid (t':=s1.toks) (fun b u e=>get?_push_of_some _ e) (le_refl _) ?_,rfl,q _ hf⟩
 exact⟨z,us,r,⟨_,Heap.get?_push_size _ rfl,rfl,_,rfl⟩⟩
theorem Mc(h:PA X es t):PE X (.List es pos) (tLst t):=by
 intro pins s σ H Q I hq
 refine wpAny_List_spliced (thn (h pos pins s σ H _ I hq) fun us s1 ⟨xs,H1,I1,r,z,q⟩=>⟨by rw[← r.length];exact z,?_⟩)
 have hf:H1 s1.heap.objs.size=none:=I1.hok.fresh (le_refl _)
 refine⟨.ref s1.heap.objs.size,upd H1 s1.heap.objs.size (.lst xs),I1.laid (t':=s1.toks) (fun b u e=>get?_push_of_some _ e) (le_refl _) ?_,rfl,q _ hf⟩
 exact⟨z,us,0,r,Heap.get?_push_size _ rfl⟩
end
noncomputable abbrev Sp:=List V→Hp→VK→XK→Prop
noncomputable abbrev CXT:=List Env→Hp→Shared→XK→Value→Shared→Prop
structure zf8(P:Program)(w:World)(K:Frag)(mg:Str→Option Value)(base:Heap)(A:Around)(outer:List Env)(s:Shared)(H:Hp):Prop where
 frames:A.frames=some outer
 mod:Mod K mg base
 bs:∀b o,base.get? b=some o→s.heap.get? b=some o∧H b=none
 bsz:base.objs.size≤s.heap.objs.size
 funs:s.heap.FunFrames base outer
 frf:∀b∈frs outer,H b=none
 hok:HOk P w H s.heap
 bare:AllBare s.gens
noncomputable def CE(outer:List Env)(P:Program)(w:World)(H:Hp)(s:Shared)(Q:VK)(u:Value)(s':Shared):Prop:=
 ∃v H',s'.os=s.os∧AllBare s'.gens∧Un (frs outer) [] H H' s.heap s'.heap∧HOk P w H' s'.heap∧RelV v u∧Q v H'
noncomputable def CR(CX:CXT)(outer:List Env)(P:Program)(w:World)(H:Hp)(s:Shared)(Q:VK)(E:XK)(r:Result)(s':Shared):Prop:=
 match r with
 | .ok (.ret u)=>CE outer P w H s Q u s'
 |.ok _=>False
 |.error e=>CX outer H s E e s'
structure FnOk(P:Program)(w:World)(K:Frag)(mg:Str→Option Value)(base:Heap)(CX:CXT)(k:Nat)(f:Addr)(fd:FuncData)(ps:List Str)(sp:Sp):Prop where
 len:∀vs H Q E,sp vs H Q E→vs.length=ps.length
 run:∀(A:Around) (outer:List Env) (s:Shared) (H:Hp) (args:Args) (us:List Value) (vs:List V) (Q:VK) (E:XK),Room k A→zf8 P w K mg base A outer s H→BindsTo s fd args (ps.zip us)→Vals vs us→sp vs H Q E →
  codeAny (model P w) A (.call (.ref f) args) (CR CX outer P w H s Q E) s
theorem FnOk.imp{P:Program}{w:World}{K:Frag}{mg:Str→Option Value}{base:Heap}{CX:CXT}{k:Nat}{f:Addr}{fd:FuncData}{ps:List Str}{sp sp':Sp}(F:FnOk P w K mg base CX k f fd ps sp)
  (h:∀vs H Q E,sp' vs H Q E→sp vs H Q E):FnOk P w K mg base CX k f fd ps sp':=
 ⟨fun vs H Q E q=>F.len vs H Q E (h _ _ _ _ q),fun A outer s H args us vs Q E hr he hb hv hs=>F.run A outer s H args us vs Q E hr he hb hv (h _ _ _ _ hs)⟩
section
variable{X:Cx}{pins:List (Addr×Obj)}{σ:St}{H:Hp}{s s':Shared}
theorem Inv.env0(I:Inv X pins σ H s):zf8 X.prog X.w X.K X.mg X.base X.A X.stack s H:=
 ⟨I.ok.frames,I.ok.mod,I.bs,le_trans I.ok.bsz I.sz,I.stack,I.stkFree,I.hok,I.bare⟩
theorem Inv.after{Q:VK}{u:Value}(I:Inv X pins σ H s)(h:CE X.stack X.prog X.w H s Q u s'):EP X pins σ Q u s':=by
 obtain⟨v,H',os,bare,un,hok,r,q⟩:=h
 obtain⟨hh,g,d,t,os'⟩:=s'
 obtain rfl:os'=s.os:=os
 exact⟨v,H',I.call (h':=hh) (g':=g) (d':=d) (t':=t) (ch:=[]) un hok bare (fun b z=>absurd z (by simp)),r,q⟩
end
noncomputable def tCall(sp:Sp)(dvs:List V)(E:XK)(t:TA):TE:=fun σ H Q=>t σ H fun vs H1=>sp (vs++dvs) H1 Q E
noncomputable def Binds(K:Frag)(fd:FuncData)(ps:List Str)(ds:List Value):Prop:=
 ∀(s:Shared) (us:List Value),K.In s.heap→(us++ds).length=ps.length→BindsTo s fd ⟨us,[]⟩ (ps.zip (us++ds))
theorem Binds.all{K:Frag}{fd:FuncData}{ps:List Str}(h:∀us:List Value,us.length=ps.length→bindArgs fd ⟨us,[]⟩=pure (ps.zip us)):Binds K fd ps []:=fun s us _ hl=>by
 rw[append_nil] at hl ⊢
 exact .of_eq (h us hl)
noncomputable def Jo(CX:CXT)(X:Cx)(E:XK):Prop:=∀(pins:List (Addr×Obj)) (σ:St) (H:Hp) (s:Shared) (e:Value) (s':Shared),Inv X pins σ H s→CX X.stack H s E e s'→X.xe e s'
section
variable{X:Cx}{CX:CXT}{k:Nat}{f C:Addr}{fd:FuncData}{ps:List Str}{sp:Sp}{dvs:List V}{ds:List Value}{E:XK}{x m:Str}{p pos apos:Pos}{e o:Expr}{es:List Expr}{ta:TE}{t:TA}
theorem zj7{pins:List (Addr×Obj)}{σ:St}{H:Hp}{s:Shared}{Q:VK}{us:List Value}{vs:List V}(F:FnOk X.prog X.w X.K X.mg X.base CX k f fd ps sp)(hr:Room k X.A)(hb:Binds X.K fd ps ds)(hd:Vals dvs ds)(hx:Jo CX X E)
  (I:Inv X pins σ H s) (r:Vals vs us) (h:sp (vs++dvs) H Q E):wpAny (model X.prog X.w) X.A (call (.ref f) us) (EP X pins σ Q) X.xe s:=by
 have r2:Vals (vs++dvs) (us++ds):=r.append hd
 have hl:(us++ds).length=ps.length:=by rw[← r2.length];exact F.len _ _ _ _ h
 refine wpAny_call (codeAny_mono (F.run X.A X.stack s H ⟨us,[]⟩ (us++ds) (vs++dvs) Q E hr I.env0 (hb s us I.kIn hl) r2 h) fun r s' hq=>?_)
 cases r with
 |error e=>exact hx pins σ H s e s' I hq
 |ok fl=>
  cases fl with
  |ret u=>exact I.after hq
  |next=>exact False.elim hq
  |brk=>exact False.elim hq
  |cont=>exact False.elim hq
theorem LJ(F:FnOk X.prog X.w X.K X.mg X.base CX k f fd ps sp)(hr:Room k X.A)(hg:Gl X x)(hm:X.mg x=some (.ref f))(hk:keepIn X.K (.ref f)=true)(hb:Binds X.K fd ps ds)(hd:Vals dvs ds)(hx:Jo CX X E)
  (ha:PA X (e::es) t) (hdb:(x==("__debug__" : Str))=false:=by decide) (he:starEach (e::es) X.env=(false,eval e X.env)::starEach es X.env:=by rfl) (hpl:(backTo pos (starEach es X.env)).any (·.1)=false:=by rfl) :
  PE X (.Call (.Name x p) (e::es) [] pos) (tCall sp dvs E t):=by
 intro pins s σ H Q I h
 refine wpAny_Call_Name_kw (JP I hg hm ?_ hdb)
 refine PySem.W.callWith_K (h₀:=X.base) I.ok.mod.kin hk (thn (ha pos pins s σ H _ I h) fun us s1 ⟨vs,H1,I1,r,q⟩=>⟨I1.kIn,?_⟩) he hpl
 exact zj7 F hr hb hd hx I1 r q
end
section
variable{X:Cx}{CX:CXT}{k:Nat}{f C:Addr}{fd:FuncData}{ps ks:List Str}{sp:Sp}{E:XK}{x m:Str}{p pos apos kpos:Pos}{e o:Expr}{es:List Expr}{kws:List Keyword}{te ta:TE}{t tk:TA}{nm:Option Str}
variable{g:List Value→List Value→List Value}{gV:List V→List V→List V}
end
structure zQ(N P:List Str)(sc:Scope):Prop where
 kind:sc.kind=.function
 co:sc.isCoroutine=false
 gen:sc.isGenerator=false
 nd:N.Nodup
 pre:N.take P.length=P
 par:∀x∈P,sc.names.lookup x=some .local∨sc.names.lookup x=some .cell
 nofree:∀y∈sc.names,y.2≠.free
theorem WJ{kindOf:Str→Option NameKind}{x:Str}:∀{binds:List (Str×Value)} {m:Str→Option Value},(∀v,(x,v)∉binds)→bindL kindOf binds m x=m x
 |[],_,_=>rfl
 | (n,v)::r,m,h=>by
  unfold bindL
  rw[WJ fun w hw=>h w (mem_cons_of_mem _ hw)]
  split
  ·have:x≠n:=by rintro rfl;exact h v mem_cons_self
   simp[this]
  ·rfl
theorem WL{kindOf:Str→Option NameKind}{x:Str}:∀{binds:List (Str×Value)} {m:Str→Option Value},(∀v,(x,v)∉binds)→bindC kindOf binds m x=m x
 |[],_,_=>rfl
 | (n,v)::r,m,h=>by
  unfold bindC
  rw[WL fun w hw=>h w (mem_cons_of_mem _ hw)]
  split
  ·rfl
  ·have:x≠n:=by rintro rfl;exact h v mem_cons_self
   simp[this]
theorem WK{kindOf:Str→Option NameKind}{x:Str}{v:Value}:∀{P:List Str} {vs:List Value} {i:Nat} {m:Str→Option Value},P.Nodup→P[i]?=some x→vs[i]?=some v→kindOf x=some .local →
  bindL kindOf (P.zip vs) m x=some v
 |[],_,_,_,_,h,_,_=>by simp at h
 |_::_,[],_,_,_,_,h,_=>by simp at h
 |p::P,w::vs,0,m,nd,h1,h2,hk=>by
  simp at h1 h2;subst h1;subst h2
  show bindL kindOf ((p,w)::P.zip vs) m p=_
  unfold bindL
  rw[WJ fun v hv=>(nodup_cons.mp nd).1 (List.of_mem_zip hv).1,if_pos hk]
  simp
 |p::P,w::vs,i+1,m,nd,h1,h2,hk=>by
  show bindL kindOf ((p,w)::P.zip vs) m x=_
  unfold bindL
  exact WK (i:=i) (nodup_cons.mp nd).2 (by simpa using h1) (by simpa using h2) hk
theorem WM{kindOf:Str→Option NameKind}{x:Str}{v:Value}:∀{P:List Str} {vs:List Value} {i:Nat} {m:Str→Option Value},P.Nodup→P[i]?=some x→vs[i]?=some v→kindOf x≠some .local →
  bindC kindOf (P.zip vs) m x=some v
 |[],_,_,_,_,h,_,_=>by simp at h
 |_::_,[],_,_,_,_,h,_=>by simp at h
 |p::P,w::vs,0,m,nd,h1,h2,hk=>by
  simp at h1 h2;subst h1;subst h2
  show bindC kindOf ((p,w)::P.zip vs) m p=_
  unfold bindC
  rw[WL fun v hv=>(nodup_cons.mp nd).1 (List.of_mem_zip hv).1,if_neg hk]
  simp
 |p::P,w::vs,i+1,m,nd,h1,h2,hk=>by
  show bindC kindOf ((p,w)::P.zip vs) m x=_
  unfold bindC
  exact WM (i:=i) (nodup_cons.mp nd).2 (by simpa using h1) (by simpa using h2) hk
noncomputable def start(N:List Str)(vs:List V):St:=vs.map some++List.replicate (N.length-vs.length) none
noncomputable def Vo(CX:CXT)(P:Program)(w:World)(K:Frag)(mg:Str→Option Value)(base:Heap)(N:List Str)(qual:Str)(scope:Scope)(f:Addr)(cd:Value)(A:Around)(outer:List Env)(s:Shared)(H:Hp)(E:XK):Cx where
 prog:=P
 w:=w
 K:=K
 mg:=mg
 base:=base
 A:=A.deeper (envOfC qual scope s.heap.objs.size f cd)
 N:=N
 s₀:=s
 H₀:=H
 env:=envOfC qual scope s.heap.objs.size f cd
 outer:=outer
 stack:=envOfC qual scope s.heap.objs.size f cd::outer
 ex:=[]
 calm:=true
 fn:=fun _=>true
 pn:=[]
 xe:=fun e s'=>wpAny (model P w) (A.deeper (envOfC qual scope s.heap.objs.size f cd)) (leaving (envOfC qual scope s.heap.objs.size f cd) e) (fun _ s''=>CX outer H s E e s'') (fun e' s''=>CX outer H s E e' s'') s'
theorem Ux{sc:Scope}{n:Nat}{x:Str}(h:sc.names.lookup x=some .cell):∃c,(cellsFrom n sc.names []).lookup x=some c:=by
 have q:=PySem.W.cellsFrom_some sc.names n [] (.inl h)
 exact Option.isSome_iff_exists.mp q
theorem QY{CX:CXT}{P:Program}{w:World}{K:Frag}{mg:Str→Option Value}{base:Heap}{N ps:List Str}{qual:Str}{scope:Scope}{f:Addr}{cd:Value}{A:Around}{outer:List Env}{s s1:Shared}{H:Hp}{E:XK}{us:List Value}{vs:List V}
  (S:zQ N ps scope) (hd:A.handled=none) (e0:zf8 P w K mg base A outer s H) (hl:vs.length=ps.length) (r:Vals vs us)
  (x:InCallC s s.heap.objs.size (bindL (envOfC qual scope s.heap.objs.size f cd).kindOf (ps.zip us) fun _=>none) (cellsFrom (s.heap.objs.size+1) scope.names []) (bindC (envOfC qual scope s.heap.objs.size f cd).kindOf (ps.zip us) fun _=>none) s1) :
  Inv (Vo CX P w K mg base N qual scope f cd A outer s H E) [] (start N vs) H s1:=by
 have hpl:ps.length≤N.length:=by have:=congrArg List.length S.pre;rw[length_take] at this;lia
 obtain⟨h1,tk,rfl,hk⟩:=x.done
 have noA:∀b:Addr,b∉(Vo CX P w K mg base N qual scope f cd A outer s H E).ex:=fun b z=>absurd (show b∈([]:List Addr) from z) (by simp)
 refine⟨⟨e0.mod,S.kind,rfl,rfl,le_refl _,fun y z c h1 h2=>?_,fun y hy=>?_,fun y c _ h=>?_,fun _=>hd,Around.frames_deeper e0.frames,.inr ⟨rfl,rfl⟩,fun b z=>absurd z (noA b),e0.bs,e0.bsz,fun b _ _=>noA b,fun b z=>absurd z (noA b),e0.funs,e0.frf⟩,
  rfl,e0.bare,Un.kept hk,⟨_,x.toInCall.ns,fun i y v h1 h2 h3=>?_⟩,fun y c h=>⟨_,x.cell y c h⟩,e0.hok.fresh (le_refl _),fun y c h=>?_,fun p hp=>absurd (show p∈([]:List (Addr×Obj)) from hp) (by simp),e0.hok.kept hk,?_⟩
 ·exact name_of_addr x.apart (PySem.mem_of_lookup h1) (PySem.mem_of_lookup h2)
 ·have hy:scope.names.lookup y=some .cell∨scope.names.lookup y=some .free:=hy
  rcases hy with hy|hy
  ·exact Ux hy
  ·exact absurd rfl (S.nofree _ (PySem.mem_of_lookup hy))
 ·exact le_of_lt (x.above y c (PySem.mem_of_lookup h))
 ·have hi:i<vs.length:=by
   unfold start at h2
   by_cases hi:i<vs.length
   ·exact hi
   ·rw[getElem?_append_right (by simpa using hi)] at h2
    rw[getElem?_replicate] at h2
    split at h2 <;> cases h2
  have ha:vs[i]?=some v:=by
   unfold start at h2
   rw[getElem?_append_left (by simpa using hi),getElem?_map] at h2
   cases e:vs[i]? with
   |none=>rw[e] at h2;cases h2
   |some a=>rw[e] at h2;cases h2;rfl
  obtain⟨u,hu,rv⟩:=r.get ha
  have hp:ps[i]?=some y:=by
   rw[← S.pre,List.getElem?_take_of_lt (by lia)];exact h1
  have ndP:ps.Nodup:=by rw[← S.pre];exact S.nd.sublist (List.take_sublist _ _)
  refine⟨u,rv,?_⟩
  rcases S.par y (mem_of_getElem? hp) with k|k
  ·exact .inl ⟨k,WK ndP hp hu k⟩
  ·obtain⟨c,e⟩:=Ux (n:=s.heap.objs.size+1) k
   refine .inr ⟨.inl k,c,e,?_⟩
   have q:=x.cell y c e
   rw[WM ndP hp hu (by show scope.names.lookup y≠_;rw[k];decide)] at q
   exact q
 ·exact e0.hok.fresh (le_of_lt (x.above y c (PySem.mem_of_lookup h)))
 ·unfold start
  show _=N.length
  rw[length_append,length_map,List.length_replicate]
  lia
theorem zi0{CX:CXT}{P:Program}{w:World}{K:Frag}{mg:Str→Option Value}{base:Heap}{k:Nat}{f:Addr}{name qual:Str}{params:Arguments}{body:List Stmt}{scope:Scope}{dV kV doc pm cdv ct oc:Value}{an od:Option Addr}
  {osl:Array (Option Value)} {N ps:List Str} {sp:Sp} (lk:K.lookup f=some ⟨oc,od,.func (fnOf name qual params body scope dV kV doc pm an cdv ct),osl⟩) (hcd:codeIn K cdv qual=true) (S:zQ N ps scope)
  (len:∀vs H Q E,sp vs H Q E→vs.length=ps.length)
  (hbody:∀(A:Around) (outer:List Env) (s:Shared) (H:Hp) (vs:List V) (Q:VK) (E:XK),Room k (A.deeper (envOfC qual scope s.heap.objs.size f cdv))→sp vs H Q E →
   ∃t,PSs (Vo CX P w K mg base N qual scope f cdv A outer s H E) body t∧t { nx:=fun _ H'=>Q .non H',rt:=Q } (start N vs) H) :
  FnOk P w K mg base CX (k+1) f (fnOf name qual params body scope dV kV doc pm an cdv ct) ps sp:=by
 refine⟨len,fun A outer s H args us vs Q E hr e0 hb r hsp=>?_⟩
 have hl:=len _ _ _ _ hsp
 have KX:K.In s.heap:=e0.mod.kin.keeps fun b o e=>(e0.bs b o e).1
 have lim:s.heap.NoLimit:=e0.mod.nolimit.keeps fun b o e=>(e0.bs b o e).1
 have hkind:∀y∈ps.zip us,scope.names.lookup y.1=some .local∨(scope.names.lookup y.1=some .cell∧((cellsFrom (s.heap.objs.size+1) scope.names []).lookup y.1).isSome=true):=fun ⟨n,v⟩ hy=>by
  rcases S.par n (List.of_mem_zip hy).1 with q|q
  ·exact .inl q
  ·exact .inr ⟨q,PySem.W.cellsFrom_some _ _ _ (.inl q)⟩
 refine codeAny_call_function hr.depth (KX _ _ lk) rfl S.co S.gen rfl (PySem.W.codeRec_of KX hcd) (hb _ _ _ _ ?_)
 refine wpAny_newFunctionEnv_cells S.kind hkind fun env he s1 x=>?_
 subst he
 refine⟨lim.keeps x.toInCall.keep,codeAny_func ?_⟩
 obtain⟨t,ht,hq⟩:=hbody A outer s H vs Q E (hr.deeper _) hsp
 have I:Inv (Vo CX P w K mg base N qual scope f cdv A outer s H E) [] (start N vs) H s1:=QY S hr.hd e0 hl r x
 refine wpAny_mono (ht [] s1 (start N vs) H _ I hq) (fun fl s' hs=>?_) fun e s' hs=>hs
 have fin:∀{σ':St} {H':Hp} {v:V} {u:Value},Inv (Vo CX P w K mg base N qual scope f cdv A outer s H E) [] σ' H' s'→RelV v u→Q v H'→CE outer P w H s Q u s':=
  fun {σ' H' v u} J rv q=>⟨v,H',J.os,J.bare,J.base,J.hok,rv,q⟩
 cases fl with
 |ret u=>
  obtain⟨v,σ',H',J,rv,q⟩:=hs
  exact fin J rv q
 |next=>
  obtain⟨σ',H',J,q⟩:=hs
  exact fin (v:=V.non) (u:=Value.none) J rfl q
 |brk=>
  obtain⟨_,_,_,q⟩:=hs
  exact False.elim q
 |cont=>
  obtain⟨_,_,_,q⟩:=hs
  exact False.elim q
section
variable{X:Cx}{x:Str}{p pos:Pos}{e:Expr}{es:List Expr}{t:TA}{id T:String}{r:List V→Hp→VK→Prop}
noncomputable def tCB(r:List V→Hp→VK→Prop)(t:TA):TE:=fun σ H Q=>t σ H fun vs H1=>r vs H1 Q
theorem pe_callB(hc:CallR X (.builtin id) r)(hg:Gl X x)(hm:X.mg x=none)(hv:bootBuiltins x=some (.builtin id))(ha:PA X (e::es) t)(hn:x ≠ "__name__" := by decide)(hdb:(x==("__debug__" : Str))=false:=by decide)
  (he:starEach (e::es) X.env=(false,eval e X.env)::starEach es X.env:=by rfl) (hpl:(backTo pos (starEach es X.env)).any (·.1)=false:=by rfl):PE X (.Call (.Name x p) (e::es) [] pos) (tCB r t):=by
 intro pins s σ H Q I h
 refine wpAny_Call_Name_kw (uB I hg hm hv ?_ hn hdb)
 exact PyProof.Rows.callWith_builtin1 (thn (ha pos pins s σ H _ I h) fun us s1 ⟨vs,H1,I1,r1,q1⟩=>hc pins s1 σ H1 vs us Q I1 r1 q1) he hpl
theorem pe_callTy(hc:CallR X (.type T) r)(hg:Gl X x)(hm:X.mg x=none)(hv:bootBuiltins x=some (.type T))(ha:PA X (e::es) t)(hn:x ≠ "__name__" := by decide)(hdb:(x==("__debug__" : Str))=false:=by decide)
  (he:starEach (e::es) X.env=(false,eval e X.env)::starEach es X.env:=by rfl) (hpl:(backTo pos (starEach es X.env)).any (·.1)=false:=by rfl):PE X (.Call (.Name x p) (e::es) [] pos) (tCB r t):=by
 intro pins s σ H Q I h
 refine wpAny_Call_Name_kw (uB I hg hm hv ?_ hn hdb)
 exact PyProof.Rows.callWith_type1 (thn (ha pos pins s σ H _ I h) fun us s1 ⟨vs,H1,I1,r1,q1⟩=>hc pins s1 σ H1 vs us Q I1 r1 q1) he hpl
end
end L2
namespace HT
open PySem PyProof.Rows
theorem rcLt_int(A:Around)(s:Shared)(a:Int)(t:Tok)(c:Int)(u:Tok)(prog:Program)(w:World)(E:Value→Shared→Prop)(Q:Value→Shared→Prop)(h:Q (.bool (decide (a<c))) s) :
  wpAny (model prog w) A (richCompare .Lt (.int a t) (.int c u)) Q E s:=
 (PyProof.Rows.lt_int h:wpAny (model prog w) A (compareOp .Lt (.int a t) (.int c u)) Q E s)
section
open PySem.SeqAt
open PySem.AutoSeq1 (wpAny_loadPart')
open PySem.MeetsSeq PySem.MeetsSeq2 PySem.MeetsSeq3
end
section
variable{prog:Program}{w:World}{A:Around}{E:Value→Shared→Prop}{s:Shared}
noncomputable def sIx(n d:Nat):Option Int→Nat
 |none=>d
 |some v=>if v<0 then (v+(n:Int)).toNat else min v.toNat n
theorem sIx_none(n d:Nat):sIx n d none=d:=rfl
theorem sIx_nat(n d k:Nat):sIx n d (some (k:Int))=min k n:=by
 show(if (k:Int)<0 then ((k:Int)+(n:Int)).toNat else min (k:Int).toNat n)=min k n
 rw[if_neg (by lia),toNat_natCast]
end
end HT
namespace L2
open PySem PySem.Spec PyProof.Rows
noncomputable abbrev TO:=St→Hp→(Option Int→Hp→Prop)→Prop
noncomputable def PO(X:Cx)(e:Option Expr)(t:TO):Prop:=
 ∀(pins:List (Addr×Obj)) (s:Shared) (σ:St) (H:Hp) (Q:Option Int→Hp→Prop),Inv X pins σ H s→t σ H Q →
  wpAny (model X.prog X.w) X.A (evalPart e X.env) (fun u s'=>∃o H',Inv X pins σ H' s'∧IsPart u o∧Q o H') X.xe s
noncomputable def T6:TO:=fun _ H Q=>Q none H
noncomputable def tPart(t:TE):TO:=fun σ H Q=>t σ H fun x H1=>∃i,x=.int i∧Q (some i) H1
section
variable{X:Cx}{e:Expr}{te:TE}{lo hi:Option Expr}{tl th:TO}{pos p2:Pos}
theorem LD:PO X none T6:=by
 intro pins s σ H Q I h
 rw[evalPart_none]
 exact wpAny_pure ⟨none,H,I,.none,h⟩
theorem LC(h:PE X e te):PO X (some e) (tPart te):=by
 intro pins s σ H Q I hw
 rw[evalPart_some]
 refine thn (h pins s σ H _ I hw) fun u s1 z_=>?_
 obtain⟨x,H1,I1,r1,q1⟩:=z_
 obtain⟨i,rfl,q⟩:=q1
 obtain⟨t,rfl⟩:=r1
 exact⟨some i,H1,I1,.int i t,q⟩
noncomputable def SlR(X:Cx)(r:V→Option Int→Option Int→Hp→VK→Prop):Prop:=
 ∀(pins:List (Addr×Obj)) (s:Shared) (σ:St) (H:Hp) (x:V) (v vl vu:Value) (lo hi:Option Int) (sl:Addr) (Q:VK),Inv X pins σ H s→RelV x v→s.heap.IsSliceOf sl vl vu .none→IsPart vl lo→IsPart vu hi→r x lo hi H Q →
  ∃T id,typeLookup (.type T) "__getitem__" = pure (some (.builtin id))∧s.TypeIs v T∧wpAny (model X.prog X.w) X.A (getItem v (.ref sl)) (EP X pins σ Q) X.xe s
theorem SlR.or{r r':V→Option Int→Option Int→Hp→VK→Prop}(h:SlR X r)(h':SlR X r'):SlR X (fun x lo hi H Q=>r x lo hi H Q∨r' x lo hi H Q):=by
 intro pins s σ H x v vl vu lo hi sl Q I rx hs pl pu q
 rcases q with q|q
 ·exact h pins s σ H x v vl vu lo hi sl Q I rx hs pl pu q
 ·exact h' pins s σ H x v vl vu lo hi sl Q I rx hs pl pu q
noncomputable def tSl(r:V→Option Int→Option Int→Hp→VK→Prop)(te:TE)(tl th:TO):TE:=fun σ H Q=>te σ H fun x H1=>tl σ H1 fun l H2=>th σ H2 fun u H3=>r x l u H3 Q
theorem Mb{r:V→Option Int→Option Int→Hp→VK→Prop}(hr:SlR X r)(he:PE X e te)(hl:PO X lo tl)(hu:PO X hi th):PE X (.Subscript e (.Slice lo hi none p2) pos) (tSl r te tl th):=by
 intro pins s σ H Q I h
 refine Subscript_ (thn (he pins s σ H _ I h) fun v s1 z_=>?_)
 obtain⟨x,H1,I1,r1,q1⟩:=z_
 refine wpAny_Slice (thn (hl pins s1 σ H1 _ I1 q1) fun vl s2 ⟨l,H2,I2,pl,q2⟩=>thn (hu pins s2 σ H2 _ I2 q2) fun vu s3 z_=>?_)
 obtain⟨u,H3,I3,pu,q3⟩:=z_
 rw[evalPart_none]
 refine wpAny_pure ?_
 have I4:Inv X pins σ H3 { s3 with heap:=s3.heap.push { cls:=.type "slice", data:=.fields #[vl,vu,.none] } }:=I3.kept (t':=s3.toks) fun b ob q=>get?_push_of_some _ q
 obtain⟨T,id,hT,ht,hg⟩:=hr pins { s3 with heap:=s3.heap.push { cls:=.type "slice", data:=.fields #[vl,vu,.none] } } σ H3 x v vl vu l u s3.heap.objs.size Q I4 r1 (Heap.IsSliceOf.new ..) pl pu q3
 show wpAny (model X.prog X.w) X.A (subscriptTail e (.Slice lo hi none p2) v (.ref s3.heap.objs.size)) (EP X pins σ Q) X.xe { s3 with heap:=s3.heap.push { cls:=.type "slice", data:=.fields #[vl,vu,.none] } }
 exact tail_any (ops:=[.ref s3.heap.objs.size,v]) ht hT hg (by with_unfolding_all rfl)
noncomputable def Gc(xs:List V)(lo hi:Option Int):List V:=(xs.drop (HT.sIx xs.length 0 lo)).take (HT.sIx xs.length xs.length hi-HT.sIx xs.length 0 lo)
theorem Uv(xs:List V)(lo hi:Option Int):(Gc xs lo hi).length≤xs.length:=by
 unfold Gc
 rw[length_take,length_drop]
 lia
end
noncomputable def ixN(n:Nat)(i:Int):Option Nat:=if 0≤i then (if i<n then some i.toNat else none) else if -(n:Int)≤i then some (i+n).toNat else none
noncomputable def atI{α:Type}(xs:List α)(i:Int):Option α:=(ixN xs.length i).bind fun j=>xs[j]?
theorem JT{n:Nat}{i:Int}{j:Nat}(h:ixN n i=some j):seqIndex? i n=some j∧j<n∧-(n:Int)≤i∧i<n:=by
 unfold ixN at h
 by_cases h0:0≤i
 ·rw[if_pos h0] at h
  by_cases h1:i<n
  ·rw[if_pos h1] at h
   have e:i.toNat=j:=Option.some.inj h
   exact⟨by rw[seqIndex_of h0 h1,e],by lia,by lia,h1⟩
  ·rw[if_neg h1] at h;cases h
 ·rw[if_neg h0] at h
  by_cases h1 : -(n:Int)≤i
  ·rw[if_pos h1] at h
   have e:(i+n).toNat=j:=Option.some.inj h
   exact⟨by rw[seqIndex_neg (by lia) h1,e],by lia,h1,by lia⟩
  ·rw[if_neg h1] at h;cases h
theorem Vr{α:Type}{xs:List α}{i:Int}{v:α}(h:atI xs i=some v):∃j,seqIndex? i xs.length=some j∧xs[j]?=some v∧j<xs.length∧-(xs.length:Int)≤i∧i<xs.length:=by
 unfold atI at h
 cases e:ixN xs.length i with
 |none=>rw[e] at h;cases h
 |some j=>
  rw[e] at h
  obtain⟨h1,h2,h3,h4⟩:=JT e
  exact⟨j,h1,h,h2,h3,h4⟩
theorem Qa{α:Type}{xs:List α}{j:Nat}{v:α}(h:xs[j]?=some v):atI xs (j:Int)=some v:=by
 have hj:j<xs.length:=(List.getElem?_eq_some_iff.mp h).1
 have e:ixN xs.length (j:Int)=some j:=by
  unfold ixN
  rw[if_pos (by lia),if_pos (by lia)];simp
 unfold atI;rw[e];exact h
noncomputable def Vv(b:Expr):Prop:=∀o i,subscripted b false o i=operate [o,i] (getItem o i)
noncomputable def IxR(X:Cx)(r:R2):Prop:=
 ∀(value slice:Expr) (pins:List (Addr×Obj)) (s:Shared) (σ:St) (H:Hp) (x y:V) (v u:Value) (Q:VK),Inv X pins σ H s→RelV x v→RelV y u→r x y H Q →
  subscripted slice false v u=operate [v,u] (getItem v u)→wpAny (model X.prog X.w) X.A (subscriptTail value slice v u) (EP X pins σ Q) X.xe s
noncomputable def MtR(X:Cx)(id:String)(r:V→List V→Hp→VK→Prop):Prop:=
 ∀(pins:List (Addr×Obj)) (s:Shared) (σ:St) (H:Hp) (x:V) (xs:List V) (v:Value) (us:List Value) (Q:VK),Inv X pins σ H s→RelV x v→Vals xs us→r x xs H Q →
  wpAny (model X.prog X.w) X.A (call (.builtin id) (v::us)) (EP X pins σ Q) X.xe s
section
variable{X:Cx}{a b:Expr}{ta tb:TE}{pos:Pos}
theorem IxR.or{r r':R2}(h:IxR X r)(h':IxR X r'):IxR X (fun x y H Q=>r x y H Q∨r' x y H Q):=by
 intro value slice pins s σ H x y v u Q I rx ry q hs
 rcases q with q|q
 ·exact h value slice pins s σ H x y v u Q I rx ry q hs
 ·exact h' value slice pins s σ H x y v u Q I rx ry q hs
theorem zg5{r:R2}(hr:IxR X r)(ha:PE X a ta)(hb:PE X b tb)(hs:Vv b):PE X (.Subscript a b pos) (tOp r ta tb):=by
 intro pins s σ H Q I h
 exact Subscript_ (zs0 ha hb I h fun v u s2 x y H2 I2 rx ry q=>hr a b pins s2 σ H2 x y v u Q I2 rx ry q (hs _ _))
noncomputable def rIxL(K:Frag):R2:=fun x y H Q=>∃p xs i v,x=.ref p∧y=.int i∧SqL K H p xs∧atI xs i=some v∧Q v H
noncomputable def rIxT(K:Frag):R2:=fun x y H Q=>∃p xs i v,x=.ref p∧y=.int i∧SqT K H p xs∧atI xs i=some v∧Q v H
noncomputable def rIxS:R2:=fun x y H Q=>∃z i c,x=.str z∧y=.int i∧z.length≤sizeLine∧atI z.cps.toList i=some c∧Q (.str ⟨#[c]⟩) H
theorem ix_list:IxR X (rIxL X.K):=by
 intro value slice pins s σ H x y v u Q I rx ry h hs
 obtain⟨p,xs,i,z,rfl,rfl,hq,he,q⟩:=h
 cases rx
 obtain⟨t,rfl⟩:=ry
 obtain⟨its,r,pl,hz⟩:=I.list hq
 obtain⟨j,h1,h2,h3,h4,h5⟩:=Vr he
 obtain⟨w,ew,rw'⟩:=r.get h2
 have hl:=r.length
 have hn:=jT
 have fin:EP X pins σ Q w s:=⟨z,H,I,rw',q⟩
 by_cases h0:0≤i
 ·have hj:i.toNat=j:=by
   rw[seqIndex_of h0 h5] at h1
   exact Option.some.inj h1
  exact item_listR pl.isList h0 (by lia) (by rw[hj];simpa using ew) fin hs
 ·have hj:(i+(its.toArray.size:Int)).toNat=j:=by
   rw[seqIndex_neg (by lia) h4] at h1
   rw[size_toArray,← hl]
   exact Option.some.inj h1
  exact subscriptTail_builtinR (x:=w) pl.isList.typeIs slot_list_getitem.lookup
   (wpAny_getItem_list_neg (Q:=fun r s'=>r=w∧EP X pins σ Q r s') pl.isList (by lia) (by rw[size_toArray] <;> lia) (by lia) (by rw[hj];simpa using ew) ⟨rfl,fin⟩) hs
theorem ix_tup:IxR X (rIxT X.K):=by
 intro value slice pins s σ H x y v u Q I rx ry h hs
 obtain⟨p,xs,i,z,rfl,rfl,hq,he,q⟩:=h
 cases rx
 obtain⟨t,rfl⟩:=ry
 obtain⟨its,r,pl,hz⟩:=I.tuple hq
 obtain⟨j,h1,h2,h3,h4,h5⟩:=Vr he
 obtain⟨w,ew,rw'⟩:=r.get h2
 have hl:=r.length
 have hn:=jT
 have fin:EP X pins σ Q w s:=⟨z,H,I,rw',q⟩
 exact subscriptTail_builtinR (x:=w) pl.typeIs slot_tuple_getitem.lookup
  (getItem_tuple (j:=j) (Q:=fun r s'=>r=w∧EP X pins σ Q r s') pl (by lia) (by lia) (by rw[size_toArray,← hl];exact h1) (by simpa using ew) ⟨rfl,fin⟩) hs
theorem zp3:IxR X rIxS:=by
 intro value slice pins s σ H x y v u Q I rx ry h hs
 obtain⟨z,i,c,rfl,rfl,hz,he,q⟩:=h
 obtain⟨t,rfl⟩:=rx
 obtain⟨t',rfl⟩:=ry
 obtain⟨j,h1,h2,h3,h4,h5⟩:=Vr he
 have hl:z.cps.toList.length=z.length:=by simp[Str.length]
 rw[hl] at h1 h4 h5
 have hn:=jT
 exact tail_any (typeIs_str s z t) slot_str_getitem.lookup (getItem_str (c:=c) (by
  have e1:decide (i < -(2 ^ 63:Int))=false:=decide_eq_false (by lia)
  have e2:decide (i ≥ 2 ^ 63)=false:=decide_eq_false (by lia)
  rw[e1,e2,Bool.or_false]) (by rw[h1];simpa using h2) ⟨.str ⟨#[c]⟩,H,I.tok _,⟨_,rfl⟩,q⟩) hs
noncomputable def rIx(K:Frag):R2:=fun x y H Q=>rIxL K x y H Q∨rIxT K x y H Q∨rIxS x y H Q
theorem zp4:IxR X (rIx X.K):=ix_list.or (ix_tup.or zp3)
theorem U3(its:List Value)(n j:Nat)(u:Value):Obj.mapSeq (·.setIfInBounds j u) { cls:=.type "list", data:=.seq its.toArray n } = { cls:=.type "list", data:=.seq (its.set j u).toArray n }:=by
 simp[Obj.mapSeq]
theorem Inv.lst{pins:List (Addr×Obj)}{σ:St}{H:Hp}{s:Shared}{p:Addr}{xs:List V}(I:Inv X pins σ H s)(h:H p=some (.lst xs)) :
  ∃(its:List Value) (n:Nat),Vals xs its∧s.heap.get? p=some { cls:=.type "list", data:=.seq its.toArray n }∧xs.length≤sizeLine:=by
 obtain⟨z,its,n,r,e⟩:=I.hok p _ h
 exact⟨its,n,r,e,z⟩
theorem Inv.lstUpd{pins:List (Addr×Obj)}{σ:St}{H:Hp}{s:Shared}{p:Addr}{xs ys:List V}{its its':List Value}{n n':Nat}{f:Obj→Obj}(I:Inv X pins σ H s)(h:H p=some (.lst xs))
  (ho:s.heap.get? p=some { cls:=.type "list", data:=.seq its.toArray n }) (hf:f { cls:=.type "list", data:=.seq its.toArray n } = { cls:=.type "list", data:=.seq its'.toArray n' }) (r:Vals ys its') (hz:ys.length≤sizeLine) (t:Nat) :
  Inv X pins σ (upd H p (.lst ys)) { s with heap:=s.heap.update p f,toks:=t }:=by
 have e:(s.heap.update p f).get? p=some { cls:=.type "list", data:=.seq its'.toArray n' }:=by
  rw[Heap.get?_update_self f ho (by rw[hf] <;> rfl),hf]
 refine I.write (x:=p) (e:=p) (by rw[h];trivial) (.inl rfl) (fun b u hb q=>(Heap.get?_update_other _ _ (Ne.symm hb)).trans q) ⟨_,e⟩ ?_
 exact⟨hz,its',n',r,e⟩
noncomputable def rSetL:V→V→V→Hp→(Hp→Prop)→Prop:=fun o i v H Q=>∃p xs k j,o=.ref p∧i=.int k∧H p=some (.lst xs)∧ixN xs.length k=some j∧Q (upd H p (.lst (xs.set j v)))
theorem GR:PSet X rSetL:=by
 intro pins s σ H o i v ov iv u Q I ro ri rv h
 obtain⟨p,xs,k,j,rfl,rfl,hp,hj,q⟩:=h
 cases ro
 obtain⟨t,rfl⟩:=ri
 obtain⟨its,n,r,ho,hz⟩:=I.lst hp
 obtain⟨h1,h2,h3,h4⟩:=JT hj
 have hl:=r.length
 have hn:=jT
 have I':Inv X pins σ (upd H p (.lst (xs.set j v))) { s with heap:=s.heap.update p (Obj.mapSeq (·.setIfInBounds j u)) }:=
  I.lstUpd hp ho (U3 its n j u) (r.set rv j) (by rw[length_set];exact hz) s.toks
 by_cases h0:0≤k
 ·have hk:k.toNat=j:=by
   rw[seqIndex_of h0 h4] at h1
   exact Option.some.inj h1
  exact PySem.W.ki_setAt ho h0 (by lia) (by rw[size_toArray,← hl];exact h4) (by rw[hk];exact⟨_,I',q⟩)
 ·have hk:(k+(its.toArray.size:Int)).toNat=j:=by
   rw[seqIndex_neg (by lia) h3] at h1
   rw[size_toArray,← hl]
   exact Option.some.inj h1
  exact PySem.W.ki_setBack ho (by lia) (by rw[size_toArray,← hl];exact h3) (by lia) (by rw[hk];exact⟨_,I',q⟩)
theorem WU(lo hi:Option Int)(n:Nat):(sliceBounds lo hi none n).1=((HT.sIx n 0 lo:Nat):Int)∧(sliceBounds lo hi none n).2.1=((HT.sIx n n hi:Nat):Int)∧(sliceBounds lo hi none n).2.2=1:=by
 refine⟨?_,?_,rfl⟩
 ·cases lo with
  |none=>simp[sliceBounds,HT.sIx]
  |some i=>
   simp only[sliceBounds,HT.sIx,Option.getD_none,show(1:Int) > 0 by decide,if_true]
   by_cases h:i<0
   ·simp only[h,if_true] <;> lia
   ·simp only[h,if_false] <;> lia
 ·cases hi with
  |none=>simp[sliceBounds,HT.sIx]
  |some i=>
   simp only[sliceBounds,HT.sIx,Option.getD_none,show(1:Int) > 0 by decide,if_true]
   by_cases h:i<0
   ·simp only[h,if_true] <;> lia
   ·simp only[h,if_false] <;> lia
theorem XN(its:List Value)(lo hi:Option Int):slicePick its.toArray lo hi none=((its.drop (HT.sIx its.length 0 lo)).take (HT.sIx its.length its.length hi-HT.sIx its.length 0 lo)).toArray:=by
 obtain⟨h1,h2,h3⟩:=WU lo hi its.toArray.size
 unfold slicePick
 rw[h1,h2,h3]
 simp only[sliceRange_one,pick_run,size_toArray] <;> rfl
noncomputable def rSlL(K:Frag):V→Option Int→Option Int→Hp→VK→Prop:=fun x lo hi H Q=>∃a xs,x=.ref a∧SqL K H a xs∧∀p,H p=none→Q (.ref p) (upd H p (.lst (Gc xs lo hi)))
theorem Lh:SlR X (rSlL X.K):=by
 intro pins s σ H x v vl vu lo hi sl Q I rx hs pl pu h
 obtain⟨a,xs,rfl,hx,q⟩:=h
 cases rx
 obtain⟨its,r,ht,hz⟩:=I.list hx
 have hlen:=r.length
 refine⟨"list", _,slot_list_getitem.lookup,ht.isList.typeIs,?_⟩
 refine wpAny_getItem_list_slice ht.isList hs pl pu .none (by simp) ?_ (by rw[size_toArray] <;> lia)
 rw[XN,← hlen]
 refine⟨.ref s.heap.objs.size,_,I.laid (t':=s.toks) (o:=.lst (Gc xs lo hi)) (fun b ob q=>get?_push_of_some _ q) (le_refl _) ?_,rfl,q _ (I.hok.fresh (le_refl _))⟩
 exact⟨le_trans (Uv xs lo hi) hz,_,0,(r.drop (HT.sIx xs.length 0 lo)).take (HT.sIx xs.length xs.length hi-HT.sIx xs.length 0 lo),Heap.get?_push_size _ rfl⟩
theorem call_len_seq:CallR X (.builtin "len") (fun xs H Q=>∃p ys,xs=[.ref p]∧(SqL X.K H p ys∨SqT X.K H p ys)∧Q (.int ys.length) H):=by
 intro pins s σ H xs us Q I r h
 obtain⟨p,ys,rfl,hq,q⟩:=h
 obtain⟨u,rfl,rx⟩:=vals1 r
 cases rx
 have hn:=jT
 rcases hq with hq|hq
 ·obtain⟨its,r',pl,hz⟩:=I.list hq
  have hlen:=r'.length
  exact Calls.call_len_list pl.isList (by simp only[size_toArray] <;> lia) ⟨.int ys.length,H,I.tok _,⟨s.toks+1,by rw[size_toArray,hlen]⟩,q⟩
 ·obtain⟨its,r',pl,hz⟩:=I.tuple hq
  have hlen:=r'.length
  exact len_tuple pl (by simp only[size_toArray] <;> lia) ⟨.int ys.length,H,I.tok _,⟨s.toks+1,by rw[size_toArray,hlen]⟩,q⟩
theorem Vq:CallR X (.builtin "len") (fun xs H Q=>∃z,xs=[.str z]∧z.length≤sizeLine∧Q (.int z.length) H):=by
 intro pins s σ H xs us Q I r h
 obtain⟨z,rfl,hz,q⟩:=h
 obtain⟨u,rfl,t,rfl⟩:=vals1 r
 have hn:=jT
 exact len_str (by lia) ⟨.int z.length,H,I.tok _,⟨_,rfl⟩,q⟩
theorem CallR.or{f:Value}{r r':List V→Hp→VK→Prop}(h:CallR X f r)(h':CallR X f r'):CallR X f (fun xs H Q=>r xs H Q∨r' xs H Q):=by
 intro pins s σ H xs us Q I rs q
 rcases q with q|q
 ·exact h pins s σ H xs us Q I rs q
 ·exact h' pins s σ H xs us Q I rs q
noncomputable def tyV(K:Frag)(T:String)(x:V)(H:Hp):Prop:=match x with
 |.str _=>T = "str"
 |.int _=>T = "int"
 |.ref p=>(T = "list" ∧ ∃xs,SqL K H p xs)∨(T = "tuple" ∧ ∃o,K.lookup p=some o∧o.cls=.type "tuple" ∧ o.dict=none) ∨
   (T = "dict" ∧ ((∃kvs,H p=some (.dK kvs))∨∃kvs,H p=some (.dT kvs)))∨(T = "set" ∧ ∃S n,H p=some (.set S n))
 |_=>False
theorem Gu{pins:List (Addr×Obj)}{σ:St}{H:Hp}{s:Shared}{T:String}{x:V}{v:Value}(I:Inv X pins σ H s)(r:RelV x v)(ty:tyV X.K T x H) :
  s.TypeIs v T∧∀a,v=.ref a→∃ob,s.heap.get? a=some ob∧ob.dict=none:=by
 cases x with
 |str z=>
  obtain⟨t,rfl⟩:=r
  cases (show T = "str" from ty)
  exact⟨typeIs_str s z t,fun _ e=>nomatch e⟩
 |int i=>
  obtain⟨t,rfl⟩:=r
  cases (show T = "int" from ty)
  exact⟨typeIs_int s i t,fun _ e=>nomatch e⟩
 |ref p=>
  cases r
  rcases ty with ⟨rfl,xs,hq⟩|⟨rfl,o,hk,hc,hd⟩|⟨rfl,hk⟩|⟨rfl,S,n,hk⟩
  ·obtain⟨its,_,pl,_⟩:=I.list hq
   refine⟨pl.isList.typeIs,fun a e=>?_⟩
   cases e
   obtain⟨o,n,e,c,hd,_⟩:=pl
   exact⟨o,e,hd⟩
  ·refine⟨⟨o,I.kIn p o hk,hc⟩,fun a e=>?_⟩
   cases e
   exact⟨o,I.kIn _ o hk,hd⟩
  ·have z:∃o,s.heap.get? p=some o∧o.ExactDict:=by
    rcases hk with ⟨kvs,hk⟩|⟨kvs,hk⟩
    ·obtain⟨_,_,_,_,o,_,_,e,ex,_⟩:=I.hok p _ hk
     exact⟨o,e,ex⟩
    ·obtain⟨_,_,_,_,o,_,_,e,ex,_⟩:=I.hok p _ hk
     exact⟨o,e,ex⟩
   obtain⟨o,e,ex⟩:=z
   refine⟨⟨o,e,ex.1⟩,fun a e2=>?_⟩
   cases e2
   exact⟨o,e,ex.2.1⟩
  ·obtain⟨o,_,_,_,e,ex,_⟩:=I.hok p _ hk
   refine⟨⟨o,e,ex.1⟩,fun a e2=>?_⟩
   cases e2
   exact⟨o,e,ex.2.1⟩
 |_=>exact False.elim ty
noncomputable def tBM0(K:Frag)(T:String)(r:V→List V→Hp→VK→Prop)(to:TE):TE:=fun σ H Q=>to σ H fun x H1=>tyV K T x H1∧r x [] H1 Q
noncomputable def tBM(K:Frag)(T:String)(r:V→List V→Hp→VK→Prop)(to:TE)(t:TA):TE:=fun σ H Q=>to σ H fun x H1=>tyV K T x H1∧t σ H1 fun xs H2=>r x xs H2 Q
variable{o e:Expr}{es:List Expr}{to:TE}{t:TA}{name:Str}{apos cpos:Pos}{T id:String}{r:V→List V→Hp→VK→Prop}
theorem zl6(pa:PlainAttrs T)(slot:Slot T name id)(hty:typeOf (.builtin id)=pure (.type "method_descriptor"))(hm:MtR X id r)(ho:PE X o to)
  (hbase:attributeBase o name X.env (eval o X.env)=eval o X.env:=by rfl) (hline:(apos.endLine==cpos.line)=true:=by rfl):PE X (.Call (.Attribute o name apos) [] [] cpos) (tBM0 X.K T r to):=by
 intro pins s σ H Q I h
 refine wpAny_Call_method0_late hbase hline (thn (ho pins s σ H _ I h) fun v s1 z_=>?_)
 obtain⟨x,H1,I1,r1,ty,q1⟩:=z_
 obtain⟨h1,h2⟩:=Gu I1 r1 ty
 exact⟨T,id,pa,slot,hty,h1,h2,Calls.callWith_builtin rfl (PySem.evalArgs_none (hm pins s1 σ H1 x [] v [] Q I1 r1 .nil q1))⟩
theorem zg6(pa:PlainAttrs T)(slot:Slot T name id)(hty:typeOf (.builtin id)=pure (.type "method_descriptor"))(hm:MtR X id r)(ho:PE X o to)(ha:PA X (e::es) t)
  (hbase:attributeBase o name X.env (eval o X.env)=eval o X.env:=by rfl)
  (hfew:((backTo cpos (starEach (e::es) X.env)).all (fun x=>!x.1)&&(backToKw cpos (keywordEach [] X.env)).all (fun x=>x.1.isSome)
   && decide ((e::es).length+([]:List Keyword).length+(if ([]:List Keyword).isEmpty then 0 else 1)<30))=true:=by rfl)
  (hline:(apos.endLine==cpos.line)=true:=by rfl) (hs:starEach (e::es) X.env=(false,eval e X.env)::starEach es X.env:=by rfl) (hplain:(backTo cpos (starEach es X.env)).any (·.1)=false:=by rfl) :
  PE X (.Call (.Attribute o name apos) (e::es) [] cpos) (tBM X.K T r to t):=by
 intro pins s σ H Q I h
 refine wpAny_Call_method_late hbase hfew hline rfl (thn (ho pins s σ H _ I h) fun v s1 z_=>?_)
 obtain⟨x,H1,I1,r1,ty,q1⟩:=z_
 obtain⟨h1,h2⟩:=Gu I1 r1 ty
 refine⟨T,id,pa,slot,hty,h1,h2,?_⟩
 have hA:=ha cpos pins s1 σ H1 _ I1 q1
 rw[hs] at hA ⊢
 refine Calls.callWith_builtin (by show(false||(backTo cpos (starEach es X.env)).any (·.1))=false;rw[hplain] <;> rfl) (Calls.evalArgs_plain ?_)
 exact thn hA fun us s2 z_=>by obtain⟨vs,H2,I2,r2,q2⟩:=z_;exact hm pins s2 σ H2 x vs v us Q I2 r1 r2 q2
end
noncomputable def MtM(X:Cx)(id:String)(r:V→List V→Hp→VK→Prop):Prop:=
 ∀(pins:List (Addr×Obj)) (s:Shared) (σ:St) (H:Hp) (x:V) (xs:List V) (v:Value) (us:List Value) (Q:VK),Inv X pins σ H s→RelV x v→Vals xs us→r x xs H Q →
  wpAny (model X.prog X.w) X.A (call (.builtin id) (v::us)) (EP X pins σ Q) X.xe s
theorem Vals.one{x:V}{us:List Value}(h:Vals [x] us):∃u,us=[u]∧RelV x u:=by
 cases h with
 |cons r h=>cases h;exact⟨_,rfl,r⟩
theorem Vals.rep{xs:List V}{us:List Value}(h:Vals xs us):∀k:Nat,Vals (List.replicate k xs).flatten (List.replicate k us).flatten:=by
 intro l_
 induction l_ with
 |zero=>
  exact .nil
 |succ k ih_=>
  rw[replicate_succ,replicate_succ,flatten_cons,flatten_cons]
  exact Vals.append h (ih_)
theorem foldl_rep(its:List Value):∀(k:Nat) (acc:List Value),
  List.foldl (fun x1 x2=>x1++x2) acc.toArray (List.replicate k its.toArray)=(acc++(List.replicate k its).flatten).toArray:=by
 intro l_
 induction l_ with
 |zero=>
  rintro acc
  simp
 |succ k ih_=>
  rintro acc
  have e:acc.toArray++its.toArray=(acc++its).toArray:=by simp
  have e2:(acc++its)++(List.replicate k its).flatten=acc++(List.replicate (k+1) its).flatten:=by
   rw[replicate_succ,flatten_cons,append_assoc]
  rw[← e2,← ih_ (acc++its),← e,replicate_succ,foldl_cons]
section
variable{X:Cx}{pins:List (Addr×Obj)}{σ:St}{H:Hp}{s:Shared}{l b:Addr}{xs ys zs:List V}
theorem Inv.lset{its its':List Value}{n:Nat}{f:Array Value→Array Value}{t':Nat}(I:Inv X pins σ H s)(hH:H l=some (.lst xs))
  (e:s.heap.get? l=some { cls:=.type "list", data:=.seq its.toArray n }) (hf:f its.toArray=its'.toArray) (hv:Vals ys its') (hz:ys.length≤sizeLine) :
  Inv X pins σ (upd H l (.lst ys)) { s with heap:=s.heap.update l (Obj.mapSeq f),toks:=t' }:=by
 have q:=PySem.IsL.update e f
 rw[hf] at q
 refine I.write (x:=l) (e:=l) (by rw[hH];exact trivial) (.inl rfl) (fun b' u hb hu=>(Heap.get?_update_other s.heap (Obj.mapSeq f) (Ne.symm hb)).trans hu) ⟨_,q⟩ ?_
 exact⟨hz,its',_,hv,q⟩
theorem Inv.lnew{its:List Value}{t':Nat}(I:Inv X pins σ H s)(hv:Vals ys its)(hz:ys.length≤sizeLine) :
  Inv X pins σ (upd H s.heap.objs.size (.lst ys)) { s with heap:=s.heap.push { cls:=.type "list", data:=.seq its.toArray },toks:=t' }:=
 I.laid (fun _ _ q=>get?_push_of_some _ q) (le_refl _) ⟨hz,its,0,hv,Heap.get?_push_size _ rfl⟩
theorem Inv.fresh(I:Inv X pins σ H s):H s.heap.objs.size=none:=I.hok.fresh (le_refl _)
theorem Inv.lstM(I:Inv X pins σ H s)(hH:H l=some (.lst xs)):xs.length≤sizeLine∧∃(its:List Value) (n:Nat),Vals xs its∧xs.length=its.length∧s.heap.get? l=some { cls:=.type "list", data:=.seq its.toArray n }:=by
 obtain⟨z,its,n,r,e⟩:=I.hok l _ hH
 exact⟨z,its,n,r,r.length,e⟩
theorem Mt{n:Nat}(h:n≤sizeLine):Builtin.List.listTooLong n=false:=by
 unfold Builtin.List.listTooLong
 exact decide_eq_false (by lia)
end
section
variable{X:Cx}
noncomputable def Lr:V→List V→Hp→VK→Prop:=fun x vs H Q=>∃l xs y,x=.ref l∧vs=[y]∧H l=some (.lst xs)∧xs.length<sizeLine∧Q .non (upd H l (.lst (xs++[y])))
theorem Wk:MtM X "list.append" Lr:=by
 intro pins s σ H x vs v us Q I rx rv h
 obtain⟨l,xs,y,rfl,rfl,hH,hz,q⟩:=h
 cases rx
 obtain⟨u,rfl,ru⟩:=rv.one
 obtain⟨z,its,n,r,hl,e⟩:=I.lstM hH
 refine call_meets F.slot_list_append ⟨_,e,rfl⟩ F.entry_list_append (F.args_list_append_2 _ _) (PySem.list_append l its.toArray n u (by rw[size_toArray];lia)) ⟨e,?_⟩
 refine⟨.non,_,I.lset (its':=its++[u]) hH e (by simp) (r.append (.cons ru .nil)) ?_,rfl,q⟩
 rw[length_append,length_singleton]
 lia
noncomputable def rCat:R2:=fun x y H Q=>∃l b xs zs,x=.ref l∧y=.ref b∧H l=some (.lst xs)∧H b=some (.lst zs)∧xs.length+zs.length≤sizeLine∧∀p,H p=none→Q (.ref p) (upd H p (.lst (xs++zs)))
theorem zm6:OpR X (binaryOp .Add) rCat:=by
 intro pins s σ H x y v u Q I rx ry h
 obtain⟨l,b,xs,zs,rfl,rfl,hH,hB,hz,q⟩:=h
 cases rx
 cases ry
 obtain⟨z,its,n,r,hl,e⟩:=I.lstM hH
 obtain⟨z2,its2,n2,r2,hl2,e2⟩:=I.lstM hB
 refine PySem.P.add_list e e2 ?_ (by rw[size_toArray,size_toArray];lia)
 have ea:its.toArray++its2.toArray=(its++its2).toArray:=by simp
 rw[ea]
 exact⟨.ref _,_,I.lnew (t':=s.toks) (r.append r2) (by rw[length_append];lia),rfl,q _ I.fresh⟩
noncomputable def rRep:R2:=fun x y H Q=>∃l k xs,x=.ref l∧y=.int k∧H l=some (.lst xs)∧-(2 ^ 63)≤k∧k<2 ^ 63∧xs.length*k.toNat≤sizeLine ∧
 ∀p,H p=none→Q (.ref p) (upd H p (.lst (List.replicate k.toNat xs).flatten))
theorem za7{α:Type}(xs:List α)(k:Nat):(List.replicate k xs).flatten.length=k*xs.length:=by
 induction k with
 |zero=>simp
 |succ k ih=>rw[replicate_succ,flatten_cons,length_append,ih,Nat.succ_mul,Nat.add_comm]
theorem zm3:OpR X (binaryOp .Mult) rRep:=by
 intro pins s σ H x y v u Q I rx ry h
 obtain⟨l,k,xs,rfl,rfl,hH,h1,h2,hz,q⟩:=h
 cases rx
 obtain⟨t,rfl⟩:=ry
 obtain⟨z,its,n,r,hl,e⟩:=I.lstM hH
 have hlen:its.toArray.size*k.toNat≤sizeLine:=by rw[size_toArray,← hl];exact hz
 have hcap:¬ its.toArray.size*k.toNat > (2 ^ 63-1) / 8:=by
  have:(sizeLine:Nat)≤(2 ^ 63-1) / 8:=by decide
  lia
 have hfit:¬ (!Builtin.List.listFitsIndex k)=true:=by
  rw[fitsIndex_both h1 h2]
  exact Bool.false_ne_true
 have hlong:¬ Builtin.List.listTooLong (its.toArray.size*k.toNat)=true:=by
  rw[Mt hlen]
  exact Bool.false_ne_true
 have hnew:List.foldl (fun x1 x2=>x1++x2) #[] (List.replicate (if its.toArray.isEmpty=true then 0 else k.toNat) its.toArray)=(List.replicate k.toNat its).flatten.toArray:=by
  have f0:∀m:Nat,List.foldl (fun x1 x2=>x1++x2) #[] (List.replicate m its.toArray)=(List.replicate m its).flatten.toArray:=fun m=>by
   have:=foldl_rep its m []
   rw[nil_append] at this
   exact this
  rw[f0]
  cases its with
  |nil=>simp
  |cons a r'=>rw[if_neg (by simp)]
 refine wpAny_binaryOp_repeat_ref (T := "list") (U := "int") (by decide) ⟨_,e,rfl⟩ (fun s'=>typeIs_int s' k t) noFill_list_mul F.fills_int_mul F.slot_int_rmul repeat_list F.slot_int_index.lookup
  (call_meets F.slot_int_rmul (typeIs_int s k t) F.entry_int_rmul (F.args_int_rmul_2 _ _) (int___rmul___int_list k t l its.toArray n)
   ⟨e,rfl,⟨_,e,rfl⟩,call_meets F.slot_list_mul ⟨_,e,rfl⟩ F.entry_list_mul (F.args_list_mul_2 _ _) (AutoListH.list___mul___list_int_3 l its.toArray n k t hfit hcap hlong) ⟨e,?_⟩⟩)
 rw[hnew]
 exact⟨.ref _,_,I.lnew (t':=s.toks) (r.rep k.toNat) (by rw[za7,Nat.mul_comm];exact hz),rfl,q _ I.fresh⟩
end
section
variable{prog:Program}{w:World}{A:Around}{E:Value→Shared→Prop}{s:Shared}
end
section
variable{X:Cx}
end
end L2
namespace Att
open PySem PySem.W PySem.Calls PyProof.Rows
theorem Yf{P:Params}{h:Heap}:∀(ns:List Int) (vs:List Value),WellAll P h vs (ns.map WData.int)→IntsAre vs ns:=by
 intro ns
 induction ns with
 |nil=>
  intro vs w
  rw[map_nil] at w
  cases w
  exact .nil
 |cons n ns ih=>
  intro vs w
  rw[map_cons] at w
  cases w with
  |cons a b=>
   cases a
   exact .cons _ _ (ih _ b)
theorem Qm{l:OpenLaw}{n:Nat}(hn:l.most=some n){P:Params}{h:Heap}{args:List WData}{vals:List Value}
  (hpre:l.row.toRowW.claim.pre args=true) (hwl:WellAll P h vals args) :
  ∃a vs ns,vals=[Value.ref a]∧args=[WData.list (ns.map WData.int)]∧h.get? a=some { cls:=.type "list", data:=.seq vs.toArray }∧IntsAre vs ns∧ns.length≤n:=by
 have hsh:WShape.hasAll [] args [.list .int]=true:=(pre_splitW hpre).1
 have hc:l.pre.holds [] { args:=args }=true:=(pre_splitW hpre).2
 obtain⟨d,r,rfl,h1,h2⟩:=hasAllW_cons hsh
 obtain rfl:=hasAllW_nil h2
 obtain⟨xs,rfl,h3⟩:=hasW_list h1
 obtain⟨ns,rfl⟩:=items_int h3
 have hlen:ns.length≤n:=by
  unfold OpenLaw.pre at hc
  have h4:(WTm.not (.lt (.lit (.int (n:Int))) (.len (.arg 0)))).holds [] { args:=[.list (ns.map .int)] }=true:=by
   have h4:=(holds_andW hc).1
   rw[hn] at h4
   exact h4
  have h5:=condW_of h4 (w_not (w_lt w_lit (w_len_list (w_arg rfl))))
  rw[length_map] at h5
  refine Nat.le_of_not_lt fun q=>?_
  have q':(n:Int)<((ns.length:Nat):Int):=by lia
  first
   | (rw[decide_eq_true q'] at h5;exact absurd h5 (by decide))
   | (simp at h5;lia)
 cases hwl with
 |cons w1 w2=>
  cases w2
  cases w1 with
  |list ho hall=>exact⟨_,_,ns,rfl,rfl,ho,Yf ns _ hall,hlen⟩
theorem Qr(l:OpenLaw)(args:List WData):l.row.toRowW.claim.post args (.bool true) args=true:=
 postW_of (r:=l.row.toRowW) (X:=(true==true))
  (show WShape.has [] (.bool true) .bool=true by first|rfl|decide|simp[WShape.has,WShape.arms,WShape.armsAll])
  (show(WTm.eq .res (.lit (.bool true))).value [] { args:=args,res:=some (.bool true),after:=args }=some (.bool (true==true)) from w_eq_bool (w_res rfl) w_lit) rfl
theorem attach_call{l:OpenLaw}{n:Nat}{q:Program}{loose:List Str}{XP:(Str→Option Value)→Heap→Prop}{YP:World→Heap→Prop}{d:DefRec}
  (hn:l.most=some n) (hdf:d.params.defaults=[])
  (call:∀(w:World) (s₀ s₁:Shared) (mg mb:Str→Option Value) (fa:Addr) (o:Obj) (pm cd doc:Value) (a:Addr) (vs:List Value) (ns:List Int),
   Ground q loose [] XP w s₀ mg mb s₁.heap→YP w s₁.heap →
   s₁.heap.get? fa=some o→o.data=.func (docDef d.name d.params d.body d.scope pm cd doc)→s₁.heap.CodeRec cd d.name→mg d.name=some (.ref fa) →
   s₁.heap.get? a=some { cls:=.type "list", data:=.seq vs.toArray }→IntsAre vs ns→ns.length≤n→s₁.gens = #[] →
   codeAny (model l.prog w) callerA (.call (.ref fa) ⟨[.ref a],[]⟩) (fun r s'=>r=.ok (.ret (.bool true))∧OldK s₁.heap s'.heap∧s'.os=s₁.os∧AllBare s'.gens) s₁) :
  WalkO q loose XP YP l.row.toRowW d [] (fun f vs=>PySem.call f vs):=by
 intro w s₀ s₁ mg mb G Y fa o pm cd doc dV kV ho hd hcd hD hmg hg args vals as hpre hlay hrd hwl hlo
 obtain rfl:dV=.none:=Dflts.none hD hdf
 obtain rfl:kV=.none:=Dflts.noKw hD
 obtain⟨a,vs,ns,rfl,rfl,hobj,hints,hlen⟩:=Qm hn hpre hwl
 refine enter_call (codeAny_mono (call w s₀ s₁ mg mb fa o pm cd doc a vs ns G Y ho (fd_plain hd) hcd hmg hobj hints hlen hg) fun r s' hq=>?_)
 obtain⟨rfl,h2,h3,h4⟩:=hq
 exact⟨.inl ⟨.bool true,.bool true,[],rfl,fun _=>rfl,.bool true,Qr l _,fun _=>⟨List.Pairwise.nil,fun _ hm=>(nomatch hm)⟩⟩,h2,h3,h4⟩
section
variable{prog:Program}{w:World}{A:Around}{E:Value→Shared→Prop}{s:Shared}{K:Frag}
end
end Att
namespace L2
open PySem PySem.Spec PyProof.Rows
theorem vals_ints:∀{vs:List Value} {ns:List Int},IntsAre vs ns→Vals (ns.map V.int) vs
 |_,_,.nil=>.nil
 |_,_,.cons n t h=>.cons ⟨t,rfl⟩ (vals_ints h)
noncomputable def Only(H:Hp):Prop:=∀b,H b=none∨∃o xs,H b=some (.frz o (.lst xs))
noncomputable def zO(s:Stmt):Arguments:=match s with
 |.FunctionDef _ a _ _ _ _ _ _ _ _=>a
 |_=>{ posonlyargs:=[],args:=[],vararg:=none,kwonlyargs:=[],kw_defaults:=[],kwarg:=none,defaults:=[] }
noncomputable def zH(s:Stmt):List Stmt:=match s with
 |.FunctionDef _ _ b _ _ _ _ _ _ _=>b
 |_=>[]
noncomputable def zl(s:Stmt):Scope:=match s with
 |.FunctionDef _ _ _ _ _ _ sc _ _ _=>sc
 |_=>{ kind:=.function,names:=[],isGenerator:=false,isCoroutine:=false }
noncomputable abbrev CX0:CXT:=fun _ _ _ _ _ _=>False
noncomputable abbrev E0:XK:=fun _ _ _=>False
theorem pass0{X:Cx}:Jo CX0 X E0:=fun _ _ _ _ _ _ _ h=>h.elim
structure Fun(K:Frag)(x qual:Str)(st:Stmt)(f:Addr)(fd:FuncData):Prop where
 ex:∃(oc:Value) (od:Option Addr) (kV doc pm:Value) (an:Option Addr) (cdv ct:Value) (osl:Array (Option Value)),
  fd=fnOf x qual (zO st) (zH st) (zl st) .none kV doc pm an cdv ct∧K.lookup f=some ⟨oc,od,.func fd,osl⟩∧codeIn K cdv qual=true
 kp:keepIn K (.ref f)=true
section
variable{P:Program}{w:World}{K:Frag}{mg:Str→Option Value}{base:Heap}
theorem Fun.ok{x qual:Str}{st:Stmt}{f:Addr}{fd:FuncData}{N ps:List Str}{k:Nat}{sp:Sp}(F:Fun K x qual st f fd)(S:zQ N ps (zl st))(len:∀vs H Q E,sp vs H Q E→vs.length=ps.length)
  (hbody:∀(cdv:Value) (A:Around) (outer:List Env) (s:Shared) (H:Hp) (vs:List V) (Q:VK) (E:XK),Room k (A.deeper (envOfC qual (zl st) s.heap.objs.size f cdv))→sp vs H Q E →
   ∃t,PSs (Vo CX0 P w K mg base N qual (zl st) f cdv A outer s H E).nox (zH st) t∧t { nx:=fun _ H'=>Q .non H',rt:=Q } (start N vs) H):FnOk P w K mg base CX0 (k+1) f fd ps sp:=by
 obtain⟨oc,od,kV,doc,pm,an,cdv,ct,osl,rfl,lk,hcd⟩:=F.ex
 refine zi0 lk hcd S len fun A outer s H vs Q E hr hsp=>?_
 obtain⟨t,h,q⟩:=hbody cdv A outer s H vs Q E hr hsp
 exact⟨t,h.nox,q⟩
theorem Fun.binds{x qual:Str}{st:Stmt}{f:Addr}{fd:FuncData}{ps:List Str}(F:Fun K x qual st f fd)
  (h:∀(kV doc pm:Value) (an:Option Addr) (cdv ct:Value) (us:List Value),us.length=ps.length→bindArgs (fnOf x qual (zO st) (zH st) (zl st) .none kV doc pm an cdv ct) ⟨us,[]⟩=pure (ps.zip us)):Binds K fd ps []:=by
 obtain⟨oc,od,kV,doc,pm,an,cdv,ct,osl,rfl,lk,hcd⟩:=F.ex
 exact .all (h kV doc pm an cdv ct)
theorem yo{x qual:Str}{st:Stmt}{f:Addr}{oc:Value}{od an:Option Addr}{osl:Array (Option Value)}{kV doc pm cdv ct:Value}(l:K.lookup f=some ⟨oc,od,.func (fnOf x qual (zO st) (zH st) (zl st) .none kV doc pm an cdv ct),osl⟩)
  (c:codeIn K cdv qual=true) (k:keepIn K (.ref f)=true):Fun K x qual st f (fnOf x qual (zO st) (zH st) (zl st) .none kV doc pm an cdv ct):=⟨⟨oc,od,kV,doc,pm,an,cdv,ct,osl,rfl,l,c⟩,k⟩
end
theorem hu_of{A:Around}{k:Nat}(hr:Room k A):A.units+1<cLine:=Nat.lt_of_le_of_lt (Nat.add_le_add_left (by decide:1≤64) _) hr.units
theorem xc{n:Nat}(h:n≤1000):n<sizeLine:=Nat.lt_of_le_of_lt h (by decide)
section
variable{X:Cx}
theorem pv(i:Nat){x:Str}{pos:Pos}(hN:X.N[i]?=some x:=by rfl)(hv:Vis X.env.scope x:=by first|exact Or.inl rfl|exact Or.inr (Or.inl rfl) | exact Or.inr (Or.inr rfl))(hd:(x==("__debug__" : Str))=false:=by decide)
  (hcd:(x==("__classdict__" : Str))=false:=by decide):PE X (.Name x pos) (XM i):=zl0 hN hv hd hcd
end
noncomputable def Same(H H':Hp):Prop:=∀b o,H b=some o→H' b=some o
theorem Same.refl(H:Hp):Same H H:=fun _ _ h=>h
theorem Same.trans{H H1 H2:Hp}(a:Same H H1)(b:Same H1 H2):Same H H2:=fun c o h=>b c o (a c o h)
theorem Same.seq{K:Frag}{H H':Hp}{a:Addr}{xs:List V}(e:Same H H')(h:SqL K H a xs):SqL K H' a xs:=by
 rcases h with (h|⟨o,h⟩) | h
 ·exact .inl (.inl (e _ _ h))
 ·exact .inl (.inr ⟨o,e _ _ h⟩)
 ·exact .inr h
end L2
namespace FD
open PySem PySem.Spec PyProof.Rows L2
noncomputable abbrev St:=L2.St
inductive D where
 | non|bl (b:Bool) | int (i:Int) | str (x:Str) | lst (xs:List D) | tup (xs:List D) | scr (ns:List Int) | raw (v:V) | exc (c:Str) | dct (ks:List Key) (ds:List D)
inductive Rs (α:Type) where
 | ok (a:α) | ex (c:Str) | no
noncomputable def Rs.bind{α β:Type}(r:Rs α)(k:α→Rs β):Rs β:=match r with
 |.ok a=>k a
 |.ex c=>.ex c
 |.no=>.no
@[simp] theorem Rs.bind_ok{α β:Type}(a:α)(k:α→Rs β):(Rs.ok a).bind k=k a:=rfl
noncomputable def excIs(K:Frag)(a:Addr)(c:Str):Heap→Prop:=fun h=>∃oe cls vs,h.get? a=some oe∧oe.cls=cls∧oe.dict=none∧oe.data=.fields vs∧nsIn K mainGlobals c=some (some cls)
section
variable(K:Frag)
mutual
noncomputable def Rep(F:Hp):D→V→Prop
 |.non,v=>v=.non
 |.bl b,v=>v=.bl b
 |.int i,v=>v=.int i
 |.str x,v=>v=.str x
 |.lst ds,v=>∃a vs,v=.ref a∧F a=some (.lst vs)∧Reps F ds vs
 |.scr ns,v=>∃a,v=.ref a∧SqL K F a (ns.map V.int)
 |.tup ds,v=>∃a vs,v=.ref a∧SqT K F a vs∧Reps F ds vs
 |.raw u,v=>v=u
 |.exc c,v=>∃a,v=.ref a∧F a=some (.ext (excIs K a c))
 |.dct ks ds,v=>∃a kvs o,v=.ref a∧F a=some (.frz o (.dK kvs))∧kvs.map (·.1)=ks∧Reps F ds (kvs.map (·.2))
noncomputable def Reps(F:Hp):List D→List V→Prop
 |[],vs=>vs=[]
 |d::ds,vs=>∃v r,vs=v::r∧Rep F d v∧Reps F ds r
end
end
theorem Same.refl(H:Hp):Same H H:=fun _ _ h=>h
theorem Same.seqT{K:Frag}{H H':Hp}{a:Addr}{xs:List V}(e:Same H H')(h:SqT K H a xs):SqT K H' a xs:=by
 rcases h with (h|⟨o,h⟩) | h
 ·exact .inl (.inl (e _ _ h))
 ·exact .inl (.inr ⟨o,e _ _ h⟩)
 ·exact .inr h
section
variable{K:Frag}{F F':Hp}
mutual
theorem Rep.mono(h:Same F F'):∀{d:D} {v:V},Rep K F d v→Rep K F' d v
 |.non,_,r=>by simpa only[Rep] using r
 |.bl _,_,r=>by simpa only[Rep] using r
 |.int _,_,r=>by simpa only[Rep] using r
 |.str _,_,r=>by simpa only[Rep] using r
 |.raw _,_,r=>by simpa only[Rep] using r
 |.exc c,v,r=>by
  simp only[Rep] at r ⊢
  obtain⟨a,e,q⟩:=r
  exact⟨a,e,h _ _ q⟩
 |.dct ks ds,v,r=>by
  simp only[Rep] at r ⊢
  obtain⟨a,kvs,o,e,q,k,t⟩:=r
  exact⟨a,kvs,o,e,h _ _ q,k,Reps.mono h t⟩
 |.lst ds,v,r=>by
  simp only[Rep] at r ⊢
  obtain⟨a,vs,e,q,t⟩:=r
  exact⟨a,vs,e,h _ _ q,Reps.mono h t⟩
 |.scr ns,v,r=>by
  simp only[Rep] at r ⊢
  obtain⟨a,e,q⟩:=r
  exact⟨a,e,h.seq q⟩
 |.tup ds,v,r=>by
  simp only[Rep] at r ⊢
  obtain⟨a,vs,e,q,t⟩:=r
  exact⟨a,vs,e,Same.seqT h q,Reps.mono h t⟩
theorem Reps.mono(h:Same F F'):∀{ds:List D} {vs:List V},Reps K F ds vs→Reps K F' ds vs
 |[],_,r=>by simpa only[Reps] using r
 |d::ds,vs,r=>by
  simp only[Reps] at r ⊢
  obtain⟨v,r',e,q,t⟩:=r
  exact⟨v,r',e,Rep.mono h q,Reps.mono h t⟩
end
theorem Reps.length:∀{ds:List D} {vs:List V},Reps K F ds vs→ds.length=vs.length
 |[],_,r=>by simp only[Reps] at r;subst r;rfl
 |d::ds,_,r=>by
  simp only[Reps] at r
  obtain⟨v,r',rfl,_,t⟩:=r
  simp[Reps.length t]
theorem Reps.get:∀{ds:List D} {vs:List V} {i:Nat} {d:D},Reps K F ds vs→ds[i]?=some d→∃v,vs[i]?=some v∧Rep K F d v
 |[],_,_,_,_,e=>by simp at e
 |d::ds,_,0,_,r,e=>by
  simp only[Reps] at r
  obtain⟨v,r',rfl,q,t⟩:=r
  simp at e;subst e
  exact⟨v,rfl,q⟩
 |d::ds,_,i+1,_,r,e=>by
  simp only[Reps] at r
  obtain⟨v,r',rfl,q,t⟩:=r
  obtain⟨w,h1,h2⟩:=Reps.get (i:=i) t (by simpa using e)
  exact⟨w,by simpa using h1,h2⟩
theorem Reps.nil:Reps K F [] []:=by simp only[Reps]
theorem Reps.cons{d:D}{v:V}{ds:List D}{vs:List V}(h:Rep K F d v)(t:Reps K F ds vs):Reps K F (d::ds) (v::vs):=by
 simp only[Reps];exact⟨v,vs,rfl,h,t⟩
theorem Reps.append:∀{ds es:List D} {vs ws:List V},Reps K F ds vs→Reps K F es ws→Reps K F (ds++es) (vs++ws)
 |[],_,_,_,r,t=>by simp only[Reps] at r;subst r;exact t
 |d::ds,es,_,ws,r,t=>by
  simp only[Reps] at r
  obtain⟨v,r',rfl,q,u⟩:=r
  exact Reps.cons q (Reps.append u t)
theorem Reps.take:∀{ds:List D} {vs:List V} (n:Nat),Reps K F ds vs→Reps K F (ds.take n) (vs.take n)
 |_,_,0,_=>by simp only[List.take_zero];exact Reps.nil
 |[],_,n+1,r=>by simp only[Reps] at r;subst r;simp only[List.take_nil];exact Reps.nil
 |d::ds,_,n+1,r=>by
  simp only[Reps] at r
  obtain⟨v,r',rfl,q,u⟩:=r
  exact Reps.cons q (Reps.take n u)
theorem Reps.drop:∀{ds:List D} {vs:List V} (n:Nat),Reps K F ds vs→Reps K F (ds.drop n) (vs.drop n)
 |_,_,0,r=>r
 |[],_,n+1,r=>by simp only[Reps] at r;subst r;simp only[List.drop_nil];exact Reps.nil
 |d::ds,_,n+1,r=>by
  simp only[Reps] at r
  obtain⟨v,r',rfl,q,u⟩:=r
  exact Reps.drop n u
theorem Reps.set{d:D}{v:V}(h:Rep K F d v):∀{ds:List D} {vs:List V} (i:Nat),Reps K F ds vs→Reps K F (ds.set i d) (vs.set i v)
 |[],_,_,r=>by simp only[Reps] at r;subst r;exact Reps.nil
 |e::ds,_,0,r=>by
  simp only[Reps] at r
  obtain⟨w,r',rfl,q,u⟩:=r
  exact Reps.cons h u
 |e::ds,_,i+1,r=>by
  simp only[Reps] at r
  obtain⟨w,r',rfl,q,u⟩:=r
  exact Reps.cons q (Reps.set h i u)
theorem Reps.one{d:D}{vs:List V}(h:Reps K F [d] vs):∃v,vs=[v]∧Rep K F d v:=by
 simp only[Reps] at h
 obtain⟨v,r,e,q,e2⟩:=h
 subst e2;exact⟨v,e,q⟩
theorem Reps.two{d e:D}{vs:List V}(h:Reps K F [d,e] vs):∃v w,vs=[v,w]∧Rep K F d v∧Rep K F e w:=by
 simp only[Reps] at h
 obtain⟨v,r,e1,q,w,r2,e2,q2,e3⟩:=h
 subst e3;subst e2;exact⟨v,w,e1,q,q2⟩
theorem Reps.rep{ds:List D}{vs:List V}(h:Reps K F ds vs):∀k:Nat,Reps K F (List.replicate k ds).flatten (List.replicate k vs).flatten:=by
 intro l_
 induction l_ with
 |zero=>
  exact Reps.nil
 |succ k ih_=>
  rw[replicate_succ,replicate_succ,flatten_cons,flatten_cons]
  exact Reps.append h (ih_)
theorem Reps.ints:∀(ns:List Int),Reps K F (ns.map D.int) (ns.map V.int):=by
 intro l_
 induction l_ with
 |nil=>
  exact Reps.nil
 |cons n r ih_=>
  exact Reps.cons (by simp only[Rep]) (ih_)
end
class Tabs where
 rows:List (Addr×Nat×Nat×Str)
 own:Str→Str→Bool
noncomputable def Xy(c:Addr)(q:Str):Heap→Prop:=fun h=>h.CodeRec (.ref c) q
noncomputable def TOk(F H:Hp)(r:Addr×Nat×Nat×Str):Prop:=F r.1=none∧(H r.1=some (.tbl #[])∨∃c,H r.1=some (.tbl #[rawInt r.2.1,rawInt r.2.2.1,.ref c])∧H c=some (.ext (Xy c r.2.2.2)))
variable[Tabs]
noncomputable def OwnOk(H:Hp):Prop:=∀d a,H d=some (.own a)→∃C dx vs,H a=some (.ins C dx vs)
noncomputable def TbT(F H:Hp):Prop:=(∀r∈Tabs.rows,TOk F H r)∧OwnOk H
omit [Tabs] in
theorem TOk.step{F H F' H':Hp}{r:Addr×Nat×Nat×Str}(t:TOk F H r)(nw:∀a o,F' a=some o→F a=some o∨H a=none)(k:∀a o,H a=some o→(∀vs,o≠.lst vs)→H' a=some o):TOk F' H' r:=by
 have hn:∀ps,H r.1=some (.tbl ps)→F' r.1=none:=fun ps e=>by
  cases q:F' r.1 with
  |none=>rfl
  |some o=>
   rcases nw _ _ q with z|z
   ·rw[t.1] at z;cases z
   ·rw[e] at z;cases z
 rcases t.2 with e|⟨c,e,e2⟩
 ·exact⟨hn _ e,.inl (k _ _ e fun _ z=>nomatch z)⟩
 ·exact⟨hn _ e,.inr ⟨c,k _ _ e (fun _ z=>nomatch z),k _ _ e2 fun _ z=>nomatch z⟩⟩
theorem TbT.step{F H F' H':Hp}(t:TbT F H)(nw:∀a o,F' a=some o→F a=some o∨H a=none)(k:∀a o,H a=some o→(∀vs,o≠.lst vs)→H' a=some o)(no:∀d a,H' d=some (.own a)→H d=some (.own a)):TbT F' H':=⟨fun r hr=>(t.1 r hr).step nw k,fun d a e=>by
 obtain⟨C,dx,vs,h⟩:=t.2 d a (no d a e)
 exact⟨C,dx,vs,k _ _ h fun _ z=>nomatch z⟩⟩
theorem TbT.freeze{F H:Hp}{a:Addr}{vs:List V}{o:HO}(t:TbT F H)(e:H a=some (.lst vs)):TbT (upd F a o) H:=⟨fun r hr=>by
 obtain⟨t1,t2⟩:=t.1 r hr
 have:r.1≠a:=fun z=>by
  rw[z,e] at t2
  rcases t2 with q|⟨c,q,_⟩ <;> cases q
 exact⟨by rw[zA this];exact t1,t2⟩,t.2⟩
noncomputable def Kp:HO→Option HO→Prop
 |.tbl _,r=>∃ps,r=some (.tbl ps)
 |o,r=>r=some o
noncomputable def Hh(H H':Hp):Prop:=∀b o,H b=some o→Kp o (H' b)
omit [Tabs] in
theorem Kp.of{o:HO}{r:Option HO}(h:r=some o):Kp o r:=by cases o <;> first|exact h|exact⟨_,h⟩
omit [Tabs] in
theorem Kp.some{o:HO}{r:Option HO}(h:Kp o r):r≠none:=by
 cases o <;> first | (obtain⟨_,h⟩:=h;rw[h];simp) | (have h:r=_:=h;rw[h];simp)
omit [Tabs] in
theorem Hh.of{H H':Hp}(h:Same H H'):Hh H H':=fun b o e=>.of (h b o e)
omit [Tabs] in
theorem Hh.refl(H:Hp):Hh H H:=.of (Same.refl H)
omit [Tabs] in
theorem Hh.trans{H H1 H2:Hp}(a:Hh H H1)(b:Hh H1 H2):Hh H H2:=fun c o e=>by
 have k:=a c o e
 cases o <;> first|exact b c _ k | (obtain⟨ps,q⟩:=k;show ∃ps,H2 c=some (.tbl ps);exact b c _ q)
omit [Tabs] in
theorem vC{F H:Hp}(h:Hh F H){a:Addr}(e:H a=none):F a=none:=by
 cases q:F a with
 |none=>rfl
 |some o=>exact absurd e (h a o q).some
structure Ext(F H F' H':Hp):Prop where
 ff:Same F F'
 hh:Hh H H'
 fh:Same F' H'
 nw:∀a o,F' a=some o→F a=some o∨H a=none
 tt:TbT F H→TbT F' H'
theorem Ext.refl{F H:Hp}(h:Same F H):Ext F H F H:=⟨Same.refl F,Hh.refl H,h,fun _ _ e=>.inl e,id⟩
theorem Ext.trans{F H F1 H1 F2 H2:Hp}(a:Ext F H F1 H1)(b:Ext F1 H1 F2 H2):Ext F H F2 H2:=
 ⟨a.ff.trans b.ff,a.hh.trans b.hh,b.fh,fun c o e=>by
  rcases b.nw c o e with q|q
  ·exact a.nw c o q
  ·exact .inr (vC a.hh q),fun t=>b.tt (a.tt t)⟩
omit [Tabs] in
theorem yd{F H:Hp}(h:Same F H){a:Addr}(e:H a=none):F a=none:=by
 cases q:F a with
 |none=>rfl
 |some o=>rw[h a o q] at e;cases e
omit [Tabs] in
theorem yz{H:Hp}{p:Addr}{o:HO}(h:H p=none):Same H (upd H p o):=fun b u q=>by rw[zA (z6 q h)];exact q
omit [Tabs] in
theorem Qn{F H:Hp}{p:Addr}{o:HO}(h:Same F H)(hp:H p=none):Same (upd F p o) (upd H p o):=fun b u q=>by
 by_cases hb:b=p
 ·subst hb;rw[zJ] at q ⊢;exact q
 ·rw[zA hb] at q ⊢;exact h b u q
theorem Ext.same{F H F' H':Hp}(ff:Same F F')(hh:Same H H')(fh:Same F' H')(nw:∀a o,F' a=some o→F a=some o∨H a=none)(no:∀d a,H' d=some (.own a)→H d=some (.own a)):Ext F H F' H':=⟨ff,.of hh,fh,nw,fun t=>t.step nw (fun a o e _=>hh a o e) no⟩
omit [Tabs] in
theorem ZI{H:Hp}{p:Addr}{o:HO}(ho:∀a,o≠.own a):∀d a,upd H p o d=some (.own a)→H d=some (.own a):=fun d a e=>by
 by_cases h:d=p
 ·subst h;rw[zJ] at e;cases e;exact absurd rfl (ho a)
 ·rw[zA h] at e;exact e
theorem Ext.new{F H:Hp}{p:Addr}{o:HO}(h:Same F H)(hp:H p=none)(ho:∀a,o≠.own a:=by intro _ h;cases h):Ext F H (upd F p o) (upd H p o):=
 .same (yz (yd h hp)) (yz hp) (Qn h hp) (fun a u e=>by
  by_cases hb:a=p
  ·subst hb;exact .inr hp
  ·rw[zA hb] at e;exact .inl e) (ZI ho)
theorem Ext.open{F H:Hp}{p:Addr}{o:HO}(h:Same F H)(hp:H p=none)(ho:∀a,o≠.own a:=by intro _ h;cases h):Ext F H F (upd H p o):=
 .same (Same.refl F) (yz hp) (h.trans (yz hp)) (fun a u e=>.inl e) (ZI ho)
inductive Sl where
 | val (d:D)
 | own (ds:List D)
 | obj (n:Nat) (c:Str) (fs:List (Str×D))
 | obr (c:Str) (fs:List (Str×D))
noncomputable abbrev DS:=List (Option Sl)
noncomputable def OwnF(K:Frag)(F H:Hp)(d:D)(v:V):Prop:=∃ds l ws,d=.lst ds∧v=.ref l∧H l=some (.lst ws)∧F l=none∧Reps K F ds ws
noncomputable def zt0(K:Frag)(F H:Hp)(c f:Str)(d:D)(v:V):Prop:=if Tabs.own c f=true then OwnF K F H d v else Rep K F d v
noncomputable def Flds(K:Frag)(F H:Hp)(c:Str):List (Str×D)→List (Str×V)→Prop
 |[],[]=>True
 | (f,d)::r,(g,v)::s=>f=g∧zt0 K F H c f d v∧Flds K F H c r s
 |_,_=>False
noncomputable def Ya(c:Str):List (Str×V)→List Addr
 |[]=>[]
 | (f,v)::r=>if Tabs.own c f=true then (match v with
  |.ref l=>l::Ya c r
  |_=>Ya c r) else Ya c r
noncomputable def Lof(H:Hp)(c:Str)(a:Addr):List Addr:=match H a with
 | some (.ins _ _ vs)=>Ya c vs
 |_=>[]
theorem Lof.ins{H:Hp}{c:Str}{a C dx:Addr}{vs:List (Str×V)}(h:H a=some (.ins C dx vs)):Lof H c a=Ya c vs:=by unfold Lof;rw[h]
theorem Flds.own{K:Frag}{F H:Hp}{c:Str}{l:Addr}:∀{fs:List (Str×D)} {vs:List (Str×V)},Flds K F H c fs vs→l∈Ya c vs→F l=none∧∃ws,H l=some (.lst ws)
 |[],[],_,h=>by cases h
 | (f,d)::r,(g,v)::s,q,h=>by
  obtain⟨rfl,q2,q3⟩:=q
  unfold Ya at h
  unfold zt0 at q2
  by_cases z:Tabs.own c f=true
  ·rw[if_pos z] at h q2
   obtain⟨ds,l',ws,e1,rfl,e3,e4,e5⟩:=q2
   rcases mem_cons.mp h with rfl|h
   ·exact⟨e4,ws,e3⟩
   ·exact Flds.own q3 h
  ·rw[if_neg z] at h
   exact Flds.own q3 h
 |[],_::_,q,_=>q.elim
 |_::_,[],q,_=>q.elim
theorem Flds.keep{K:Frag}{F H F' H':Hp}{c:Str}(hf:Same F F'):∀{fs:List (Str×D)} {vs:List (Str×V)},Flds K F H c fs vs→(∀l ws,l∈Ya c vs→H l=some (.lst ws)→F l=none→H' l=some (.lst ws)∧F' l=none)→Flds K F' H' c fs vs
 |[],[],_,_=>trivial
 | (f,d)::r,(g,v)::s,q,k=>by
  obtain⟨rfl,q2,q3⟩:=q
  refine⟨rfl,?_,Flds.keep hf q3 fun l ws hl=>k l ws ?_⟩
  ·unfold zt0 at q2 ⊢
   by_cases z:Tabs.own c f=true
   ·rw[if_pos z] at q2 ⊢
    obtain⟨ds,l,ws,e1,rfl,e3,e4,e5⟩:=q2
    obtain⟨k1,k2⟩:=k l ws (by unfold Ya;rw[if_pos z];exact mem_cons_self) e3 e4
    exact⟨ds,l,ws,e1,rfl,k1,k2,e5.mono hf⟩
   ·rw[if_neg z] at q2 ⊢;exact q2.mono hf
  ·unfold Ya
   by_cases z:Tabs.own c f=true
   ·rw[if_pos z]
    cases v with
    |ref l'=>exact mem_cons_of_mem _ hl
    |_=>exact hl
   ·rw[if_neg z];exact hl
 |[],_::_,q,_=>q.elim
 |_::_,[],q,_=>q.elim
noncomputable def ObAt(K:Frag)(F H:Hp)(c:Str)(fs:List (Str×D))(a:Addr):Prop:=∃C dx vs,H a=some (.ins C dx vs)∧F a=none∧nsIn K mainGlobals c=some (some (.ref C))∧Flds K F H c fs vs∧H dx=some (.own a)∧(Ya c vs).Nodup
noncomputable def ObS(s:Option (Option Sl))(c:Str):Prop:=(∃n fs,s=some (some (.obj n c fs)))∨∃fs,s=some (some (.obr c fs))
structure ObsOk(K:Frag)(F:Hp)(τ:DS)(σ:St)(H:Hp):Prop where
 at_:∀(i n:Nat) (c:Str) (fs:List (Str×D)),τ[i]?=some (some (.obj n c fs))→∃a,σ[i]?=some (some (.ref a))∧ObAt K F H c fs a
 dis:∀(i j n:Nat) (c c':Str) (fs:List (Str×D)) (a:Addr),i≠j→τ[i]?=some (some (.obj n c fs))→ObS τ[j]? c'→σ[i]?=some (some (.ref a))→σ[j]?=some (some (.ref a))→False
 rd:∀(i:Nat) (c:Str) (fs:List (Str×D)),τ[i]?=some (some (.obr c fs))→∃a C dx vs,σ[i]?=some (some (.ref a))∧H a=some (.ins C dx vs)∧nsIn K mainGlobals c=some (some (.ref C))∧Flds K F H c fs vs
 ll:∀(i j n:Nat) (c c':Str) (fs:List (Str×D)) (a a' l:Addr),i≠j→τ[i]?=some (some (.obj n c fs))→ObS τ[j]? c'→σ[i]?=some (some (.ref a))→σ[j]?=some (some (.ref a'))→l∈Lof H c a→l∈Lof H c' a'→False
 lo:∀(i j:Nat) (c:Str) (ds:List D) (a l:Addr),ObS τ[i]? c→τ[j]?=some (some (.own ds))→σ[i]?=some (some (.ref a))→σ[j]?=some (some (.ref l))→l∈Lof H c a→False
noncomputable def U9:Option Sl→Bool
 | some (.obj _ _ _)=>true
 | some (.obr _ _)=>true
 |_=>false
noncomputable def noObj(τ:DS):Prop:=∀(i:Nat) s,τ[i]?=some s→U9 s=false
omit [Tabs] in
theorem noObj.obs{τ:DS}(n:noObj τ){i:Nat}{c:Str}(h:ObS τ[i]? c):False:=by
 rcases h with ⟨m,fs,h⟩|⟨fs,h⟩
 ·have:=n i _ h;cases this
 ·have:=n i _ h;cases this
theorem ObsOk.none{K:Frag}{F H:Hp}{τ:DS}{σ:St}(n:noObj τ):ObsOk K F τ σ H:=
 ⟨fun i m c fs h=>(by have:=n i _ h;cases this),fun i j m c c' fs a _ h=>(by have:=n i _ h;cases this),fun i c fs h=>(by have:=n i _ h;cases this),fun i j m c c' fs a a' l _ h=>(by have:=n i _ h;cases this),fun i j c ds a l h=>(n.obs h).elim⟩
theorem ObsOk.get{K:Frag}{F H:Hp}{τ:DS}{σ:St}{i:Nat}{c:Str}(o:ObsOk K F τ σ H)(h:ObS τ[i]? c):∃a C dx vs fs,σ[i]?=some (some (.ref a))∧H a=some (.ins C dx vs)∧Flds K F H c fs vs:=by
 rcases h with ⟨m,fs,h⟩|⟨fs,h⟩
 ·obtain⟨a,h1,C,dx,vs,h2,_,_,h5,_⟩:=o.at_ i m c fs h
  exact⟨a,C,dx,vs,fs,h1,h2,h5⟩
 ·obtain⟨a,C,dx,vs,h1,h2,_,h5⟩:=o.rd i c fs h
  exact⟨a,C,dx,vs,fs,h1,h2,h5⟩
theorem ObsOk.keep{K:Frag}{F H F' H':Hp}{τ:DS}{σ:St}(o:ObsOk K F τ σ H)(hf:Same F F')(hi:∀a C dx vs,H a=some (.ins C dx vs)→H' a=some (.ins C dx vs))(hn:∀a C dx vs,H a=some (.ins C dx vs)→F a=Option.none→F' a=Option.none)(hd:∀d a,H d=some (.own a)→H' d=some (.own a))
  (hl:∀(i:Nat) (c:Str) (a l:Addr) (ws:List V),ObS τ[i]? c→σ[i]?=some (some (.ref a))→l∈Lof H c a→H l=some (.lst ws)→F l=Option.none→H' l=some (.lst ws)∧F' l=Option.none):ObsOk K F' τ σ H':=by
 have lof:∀{i:Nat} {c:Str} {a:Addr},ObS τ[i]? c→σ[i]?=some (some (.ref a))→Lof H' c a=Lof H c a:=fun {i c a} h e=>by
  obtain⟨a',C,dx,vs,fs,h1,h2,_⟩:=o.get h
  rw[e] at h1;cases h1
  rw[Lof.ins h2,Lof.ins (hi _ _ _ _ h2)]
 refine⟨fun i m c fs h=>?_,o.dis,fun i c fs h=>?_,fun i j m c c' fs a a' l hij h1 h2 h3 h4 h5 h6=>?_,fun i j c ds a l h1 h2 h3 h4 h5=>?_⟩
 ·obtain⟨a,h1,C,dx,vs,h2,h3,h4,h5,h6,h7⟩:=o.at_ i m c fs h
  exact⟨a,h1,C,dx,vs,hi _ _ _ _ h2,hn _ _ _ _ h2 h3,h4,h5.keep hf fun l ws q=>hl i c a l ws (.inl ⟨m,fs,h⟩) h1 (by rw[Lof.ins h2];exact q),hd _ _ h6,h7⟩
 ·obtain⟨a,C,dx,vs,h1,h2,h4,h5⟩:=o.rd i c fs h
  exact⟨a,C,dx,vs,h1,hi _ _ _ _ h2,h4,h5.keep hf fun l ws q=>hl i c a l ws (.inr ⟨fs,h⟩) h1 (by rw[Lof.ins h2];exact q)⟩
 ·rw[lof (.inl ⟨m,fs,h1⟩) h3] at h5
  rw[lof h2 h4] at h6
  exact o.ll i j m c c' fs a a' l hij h1 h2 h3 h4 h5 h6
 ·rw[lof h1 h3] at h5
  exact o.lo i j c ds a l h1 h2 h3 h4 h5
theorem ObsOk.ext{K:Frag}{F H F' H':Hp}{τ:DS}{σ:St}(o:ObsOk K F τ σ H)(x:Ext F H F' H'):ObsOk K F' τ σ H':=by
 have nF:∀{a:Addr} {u:HO},H a=some u→F a=Option.none→F' a=Option.none:=fun {a u} h h3=>by
  cases q:F' a with
  |none=>rfl
  |some w=>
   rcases x.nw a w q with z|z
   ·rw[h3] at z;cases z
   ·rw[h] at z;cases z
 exact o.keep x.ff (fun a C dx vs h=>x.hh _ _ h) (fun a C dx vs h=>nF h) (fun d a h=>x.hh _ _ h) fun i c a l ws _ _ _ h h3=>⟨x.hh _ _ h,nF h h3⟩
theorem ObsOk.updL{K:Frag}{F H:Hp}{τ:DS}{σ:St}{p:Addr}{u:HO}(o:ObsOk K F τ σ H)(hl:H p=.none∨∃vs,H p=some (.lst vs))(hp:∀(i:Nat) (c:Str) (a:Addr),ObS τ[i]? c→σ[i]?=some (some (.ref a))→p∉Lof H c a):ObsOk K F τ σ (upd H p u):=by
 have ne:∀{a:Addr} {w:HO},H a=some w→(∀vs,w≠.lst vs)→a≠p:=fun {a w} h n z=>by
  subst z
  rcases hl with z|⟨ws,z⟩
  ·rw[z] at h;cases h
  ·rw[z] at h;cases h;exact n _ rfl
 refine o.keep (Same.refl F) (fun a C dx vs h=>?_) (fun a C dx vs _ h=>h) (fun d a h=>?_) fun i c a l ws h1 h2 h3 h4 h5=>⟨?_,h5⟩
 ·rw[zA (ne h fun _ z=>nomatch z)];exact h
 ·rw[zA (ne h fun _ z=>nomatch z)];exact h
 ·have:l≠p:=fun z=>by subst z;exact hp i c a h1 h2 h3
  rw[zA this];exact h4
omit [Tabs] in
theorem yO{τ:DS}{i j:Nat}{s u:Option Sl}(hs:U9 s=false)(hu:U9 u=true)(h:(τ.set i s)[j]?=some u):i≠j∧τ[j]?=some u:=by
 by_cases hij:i=j
 ·subst hij
  rw[getElem?_set] at h
  simp only[if_true] at h
  split at h
  ·cases h;rw[hs] at hu;cases hu
  ·cases h
 ·rw[getElem?_set_ne hij] at h;exact⟨hij,h⟩
omit [Tabs] in
theorem jk{τ:DS}{i j:Nat}{s:Option Sl}{c:Str}(hs:U9 s=false)(h:ObS (τ.set i s)[j]? c):i≠j∧ObS τ[j]? c:=by
 rcases h with ⟨n,fs,h⟩|⟨fs,h⟩
 ·obtain⟨a,b⟩:=yO hs rfl h;exact⟨a,.inl ⟨n,fs,b⟩⟩
 ·obtain⟨a,b⟩:=yO hs rfl h;exact⟨a,.inr ⟨fs,b⟩⟩
theorem ObsOk.put{K:Frag}{F H:Hp}{τ:DS}{σ:St}{i:Nat}{s:Option Sl}{v:Option V}(o:ObsOk K F τ σ H)(hs:U9 s=false)(hw:∀ds l,s=some (.own ds)→v=some (.ref l)→∀(j:Nat) (c:Str) (a:Addr),ObS τ[j]? c→σ[j]?=some (some (.ref a))→l∉Lof H c a):ObsOk K F (τ.set i s) (σ.set i v) H:=
 ⟨fun j m c fs h=>by
  obtain⟨n,h⟩:=yO hs rfl h
  rw[getElem?_set_ne n];exact o.at_ j m c fs h,
  fun j k m c c' fs a hjk h1 h2 h3 h4=>by
   obtain⟨n1,h1⟩:=yO hs rfl h1
   obtain⟨n2,h2⟩:=jk hs h2
   rw[getElem?_set_ne n1] at h3
   rw[getElem?_set_ne n2] at h4
   exact o.dis j k m c c' fs a hjk h1 h2 h3 h4,
  fun j c fs h=>by
   obtain⟨n,h⟩:=yO hs rfl h
   rw[getElem?_set_ne n];exact o.rd j c fs h,
  fun j k m c c' fs a a' l hjk h1 h2 h3 h4=>by
   obtain⟨n1,h1⟩:=yO hs rfl h1
   obtain⟨n2,h2⟩:=jk hs h2
   rw[getElem?_set_ne n1] at h3
   rw[getElem?_set_ne n2] at h4
   exact o.ll j k m c c' fs a a' l hjk h1 h2 h3 h4,
  fun j k c ds a l h1 h2 h3 h4 h5=>by
   obtain⟨n1,g1⟩:=jk hs h1
   rw[getElem?_set_ne n1] at h3
   by_cases e:i=k
   ·subst e
    rw[getElem?_set] at h2 h4
    simp only[if_true] at h2 h4
    split at h2
    ·split at h4
     ·exact hw ds l (by simpa using h2) (by simpa using h4) j c a g1 h3 h5
     ·cases h4
    ·cases h2
   ·rw[getElem?_set_ne e] at h2 h4
    exact o.lo j k c ds a l g1 h2 h3 h4 h5⟩
theorem ObsOk.putS{K:Frag}{F H:Hp}{τ:DS}{σ:St}{i:Nat}{ds es:List D}(o:ObsOk K F τ σ H)(hi:τ[i]?=some (some (.own ds))):ObsOk K F (τ.set i (some (.own es))) σ H:=
 ⟨fun j m c fs h=>o.at_ j m c fs (yO (s:=some (.own es)) rfl rfl h).2,fun j k m c c' fs a hjk h1 h2=>o.dis j k m c c' fs a hjk (yO (s:=some (.own es)) rfl rfl h1).2 (jk (s:=some (.own es)) rfl h2).2,fun j c fs h=>o.rd j c fs (yO (s:=some (.own es)) rfl rfl h).2,
  fun j k m c c' fs a a' l hjk h1 h2=>o.ll j k m c c' fs a a' l hjk (yO (s:=some (.own es)) rfl rfl h1).2 (jk (s:=some (.own es)) rfl h2).2,fun j k c ds' a l h1 h2 h3 h4 h5=>by
   have h1:=(jk (s:=some (.own es)) rfl h1).2
   by_cases e:i=k
   ·subst e;exact o.lo j i c ds a l h1 hi h3 h4 h5
   ·rw[getElem?_set_ne e] at h2;exact o.lo j k c ds' a l h1 h2 h3 h4 h5⟩
theorem ObsOk.fresh{K:Frag}{F H:Hp}{τ:DS}{σ:St}{p:Addr}(o:ObsOk K F τ σ H)(hp:H p=.none):∀(i:Nat) (c:Str) (a:Addr),ObS τ[i]? c→σ[i]?=some (some (.ref a))→p∉Lof H c a:=fun i c a h e hl=>by
 obtain⟨a',C,dx,vs,fs,h1,h2,h3⟩:=o.get h
 rw[e] at h1;cases h1
 rw[Lof.ins h2] at hl
 obtain⟨_,ws,q⟩:=h3.own hl
 rw[hp] at q;cases q
theorem ObsOk.lof{K:Frag}{F H:Hp}{τ:DS}{σ:St}{i:Nat}{c:Str}{a p:Addr}{u:HO}(o:ObsOk K F τ σ H)(h1:ObS τ[i]? c)(h2:σ[i]?=some (some (.ref a)))(hl:H p=.none∨∃vs,H p=some (.lst vs)):Lof (upd H p u) c a=Lof H c a:=by
 obtain⟨a',C,dx,vs,fs,h3,h4,_⟩:=o.get h1
 rw[h2] at h3;cases h3
 have:a≠p:=fun z=>by
  subst z
  rcases hl with z|⟨ws,z⟩
  ·rw[z] at h4;cases h4
  ·rw[z] at h4;cases h4
 rw[Lof.ins h4,Lof.ins (show upd H p u a=some (.ins C dx vs) by rw[zA this];exact h4)]
structure RV(K:Frag)(F:Hp)(τ:DS)(σ:St)(H:Hp):Prop where
 fh:Same F H
 len:τ.length=σ.length
 val:∀(i:Nat) (d:D),τ[i]?=some (some (.val d))→∃v,σ[i]?=some (some v)∧Rep K F d v
 own:∀(i:Nat) (ds:List D),τ[i]?=some (some (.own ds))→∃a vs,σ[i]?=some (some (.ref a))∧H a=some (.lst vs)∧F a=none∧Reps K F ds vs
 dis:∀(i j:Nat) (ds es:List D) (a:Addr),i≠j→τ[i]?=some (some (.own ds))→τ[j]?=some (some (.own es))→σ[i]?=some (some (.ref a))→σ[j]?=some (some (.ref a))→False
 tt:TbT F H
 ob:ObsOk K F τ σ H
theorem RV.ext{K:Frag}{F H F' H':Hp}{τ:DS}{σ:St}(R:RV K F τ σ H)(x:Ext F H F' H'):RV K F' τ σ H':=
 ⟨x.fh,R.len,fun i d e=>by
  obtain⟨v,h1,h2⟩:=R.val i d e
  exact⟨v,h1,h2.mono x.ff⟩,
  fun i ds e=>by
   obtain⟨a,vs,h1,h2,h3,h4⟩:=R.own i ds e
   refine⟨a,vs,h1,x.hh _ _ h2,?_,h4.mono x.ff⟩
   cases q:F' a with
   |none=>rfl
   |some o=>
    rcases x.nw a o q with z|z
    ·rw[h3] at z;cases z
    ·rw[h2] at z;exact absurd z (by simp),
  R.dis,x.tt R.tt,R.ob.ext x⟩
structure RS(K:Frag)(B Z F:Hp)(τ:DS)(σ:St)(H:Hp):Prop where
 rv:RV K F τ σ H
 bh:Hh B H
 zf:Same Z F
 nb:∀a o,F a=some o→Z a=some o∨B a=none
 ob:∀(i:Nat) (ds:List D) (a:Addr),τ[i]?=some (some (.own ds))→σ[i]?=some (some (.ref a))→B a=none
 oo:∀(i n:Nat) (c:Str) (fs:List (Str×D)) (a:Addr),τ[i]?=some (some (.obj n c fs))→σ[i]?=some (some (.ref a))→B a=none∧∀l∈Lof H c a,B l=none
 sf:∀(a0 dx:Addr),B dx=some (.own a0)→B a0=none→∀(i n:Nat) (c:Str) (fs:List (Str×D)),τ[i]?=some (some (.obj (n+1) c fs))→σ[i]?=some (some (.ref a0))
 ro:∀(i:Nat) (c:Str) (fs:List (Str×D)) (a:Addr),τ[i]?=some (some (.obr c fs))→σ[i]?=some (some (.ref a))→∃C dx vs,B a=some (.ins C dx vs)∧∀l∈Ya c vs,∃ws,B l=some (.lst ws)
theorem RS.ext{K:Frag}{B Z F H F' H':Hp}{τ:DS}{σ:St}(R:RS K B Z F τ σ H)(x:Ext F H F' H'):RS K B Z F' τ σ H':=
 ⟨R.rv.ext x,R.bh.trans x.hh,R.zf.trans x.ff,fun a o e=>by
  rcases x.nw a o e with q|q
  ·exact R.nb a o q
  ·exact .inr (vC R.bh q),R.ob,fun i n c fs a h1 h2=>by
  obtain⟨q1,q2⟩:=R.oo i n c fs a h1 h2
  refine⟨q1,fun l hl=>q2 l ?_⟩
  obtain⟨a',h3,C,dx,vs,h4,_⟩:=R.rv.ob.at_ i n c fs h1
  rw[h2] at h3;cases h3
  rw[Lof.ins h4]
  rw[Lof.ins (x.hh _ _ h4:H' a=some (.ins C dx vs))] at hl
  exact hl,R.sf,R.ro⟩
theorem RS.out{K:Frag}{B Z F H:Hp}{τ:DS}{σ:St}(R:RS K B Z F τ σ H):Ext Z B F H:=⟨R.zf,R.bh,R.rv.fh,R.nb,fun _=>R.rv.tt⟩
noncomputable def Xob(X:Cx)(c:Str):Prop:=∀e s',X.xe e s'
noncomputable def Ok(X:Cx){α:Type}(r:Rs α)(P:α→Prop):Prop:=match r with
 |.ok a=>P a
 |.ex c=>Xob X c
 |.no=>False
theorem Ok.bind{X:Cx}{α β:Type}{r:Rs α}{k:α→Rs β}{P:β→Prop}(h:Ok X (r.bind k) P):Ok X r fun a=>Ok X (k a) P:=by
 cases r <;> exact h
theorem Ok.imp{X:Cx}{α:Type}{r:Rs α}{P Q:α→Prop}(h:Ok X r P)(f:∀a,P a→Q a):Ok X r Q:=by
 cases r with
 |ok a=>exact f a h
 |ex c=>exact h
 |no=>exact h
noncomputable abbrev FE:=DS→Rs D
noncomputable abbrev FA:=DS→Rs (List D)
noncomputable abbrev FT:=DS→Rs Bool
noncomputable def Ev(K:Frag)(F H:Hp)(Q:VK)(d:D):Prop:=∀v F' H',Ext F H F' H'→Rep K F' d v→Q v H'
noncomputable def Evs(K:Frag)(F H:Hp)(Q:List V→Hp→Prop)(ds:List D):Prop:=∀vs F' H',Ext F H F' H'→Reps K F' ds vs→Q vs H'
noncomputable def Evb(F H:Hp)(Q:Bool→Hp→Prop)(b:Bool):Prop:=∀F' H',Ext F H F' H'→Q b H'
theorem Ev.ext{K:Frag}{F H F1 H1:Hp}{Q:VK}{d:D}(h:Ev K F H Q d)(x:Ext F H F1 H1):Ev K F1 H1 Q d:=fun v F' H' y r=>h v F' H' (x.trans y) r
theorem Evb.ext{F H F1 H1:Hp}{Q:Bool→Hp→Prop}{d:Bool}(h:Evb F H Q d)(x:Ext F H F1 H1):Evb F1 H1 Q d:=fun F' H' y=>h F' H' (x.trans y)
noncomputable def tE(X:Cx)(f:FE):TE:=fun σ H Q=>∃F τ,RV X.K F τ σ H∧Ok X (f τ) (Ev X.K F H Q)
noncomputable def tAs(X:Cx)(f:FA):TA:=fun σ H Q=>∃F τ,RV X.K F τ σ H∧Ok X (f τ) (Evs X.K F H Q)
noncomputable def tTs(X:Cx)(f:FT):TT:=fun σ H Q=>∃F τ,RV X.K F τ σ H∧Ok X (f τ) (Evb F H Q)
noncomputable def PDE(X:Cx)(e:Expr)(f:FE):Prop:=PE X e (tE X f)
noncomputable def PDA(X:Cx)(e:List Expr)(f:FA):Prop:=PA X e (tAs X f)
noncomputable def PDT(X:Cx)(e:Expr)(f:FT):Prop:=PT X e (tTs X f)
noncomputable def PDW(X:Cx)(e:Expr)(f:FT):Prop:=PW X e (tTs X f)
theorem _root_.L2.PE.imp{X:Cx}{e:Expr}{t t':TE}(h:PE X e t)(f:∀σ H Q,t' σ H Q→t σ H Q):PE X e t':=fun pins s σ H Q I q=>h pins s σ H Q I (f _ _ _ q)
theorem _root_.L2.PT.imp{X:Cx}{e:Expr}{t t':TT}(h:PT X e t)(f:∀σ H Q,t' σ H Q→t σ H Q):PT X e t':=fun pins s σ H Q I q=>h pins s σ H Q I (f _ _ _ q)
theorem _root_.L2.PW.imp{X:Cx}{e:Expr}{t t':TT}(h:PW X e t)(f:∀σ H Q,t' σ H Q→t σ H Q):PW X e t':=fun w pins s σ H Q I q=>h w pins s σ H Q I (f _ _ _ q)
theorem _root_.L2.PA.imp{X:Cx}{e:List Expr}{t t':TA}(h:PA X e t)(f:∀σ H Q,t' σ H Q→t σ H Q):PA X e t':=fun p pins s σ H Q I q=>h p pins s σ H Q I (f _ _ _ q)
theorem _root_.L2.PS.imp{X:Cx}{e:Stmt}{t t':TS}(h:PS X e t)(f:∀E σ H,t' E σ H→t E σ H):PS X e t':=fun pins s σ H Q I q=>h pins s σ H Q I (f _ _ _ q)
theorem _root_.L2.PSs.imp{X:Cx}{e:List Stmt}{t t':TS}(h:PSs X e t)(f:∀E σ H,t' E σ H→t E σ H):PSs X e t':=fun pins s σ H Q I q=>h pins s σ H Q I (f _ _ _ q)
theorem tE.of{X:Cx}{f:FE}{F H:Hp}{τ:DS}{σ:St}{Q:VK}{G:D→Prop}(R:RV X.K F τ σ H)(h:Ok X (f τ) G)
  (k:∀d v F1 H1,G d→Ext F H F1 H1→RV X.K F1 τ σ H1→Rep X.K F1 d v→Q v H1):tE X f σ H Q:=
 ⟨F,τ,R,h.imp fun d g v F1 H1 x r=>k d v F1 H1 g x (R.ext x) r⟩
theorem tAs.of{X:Cx}{f:FA}{F H:Hp}{τ:DS}{σ:St}{Q:List V→Hp→Prop}{G:List D→Prop}(R:RV X.K F τ σ H)(h:Ok X (f τ) G)
  (k:∀d v F1 H1,G d→Ext F H F1 H1→RV X.K F1 τ σ H1→Reps X.K F1 d v→Q v H1):tAs X f σ H Q:=
 ⟨F,τ,R,h.imp fun d g v F1 H1 x r=>k d v F1 H1 g x (R.ext x) r⟩
theorem tTs.of{X:Cx}{f:FT}{F H:Hp}{τ:DS}{σ:St}{Q:Bool→Hp→Prop}{G:Bool→Prop}(R:RV X.K F τ σ H)(h:Ok X (f τ) G)
  (k:∀b F1 H1,G b→Ext F H F1 H1→RV X.K F1 τ σ H1→Q b H1):tTs X f σ H Q:=
 ⟨F,τ,R,h.imp fun d g F1 H1 x=>k d F1 H1 g x (R.ext x)⟩
noncomputable def zc(i:Nat):FE:=fun τ=>match τ[i]? with
 | some (some (.val d))=>.ok d
 |_=>.no
section
variable{X:Cx}{pos:Pos}
theorem zb{i:Nat}{x:Str}(h:PE X (.Name x pos) (XM i)):PDE X (.Name x pos) (zc i):=h.imp fun σ H Q z_=>by
 obtain⟨F,τ,R,q⟩:=z_
 unfold zc at q
 cases e:τ[i]? with
 |none=>rw[e] at q;exact q.elim
 |some o=>
  cases o with
  |none=>rw[e] at q;exact q.elim
  |some sl=>
   cases sl with
   |own ds=>rw[e] at q;exact q.elim
   |obj n c fs=>rw[e] at q;exact q.elim
   |obr c fs=>rw[e] at q;exact q.elim
   |val d=>
    rw[e] at q
    obtain⟨v,h1,h2⟩:=R.val i d e
    exact⟨v,h1,q v F H (Ext.refl R.fh) h2⟩
noncomputable def eC(d:D):FE:=fun _=>.ok d
theorem VZ{e:Expr}{v:V}{d:D}(h:PE X e (tC v))(r:∀F,Rep X.K F d v):PDE X e (eC d):=h.imp fun σ H Q z_=>by obtain⟨F,τ,R,q⟩:=z_;exact q v F H (Ext.refl R.fh) (r F)
theorem zj{i j}:PDE X (.Constant (.int i) j pos) (eC (.int i)):=VZ zl5 fun _=>by simp only[Rep]
theorem Mk{i j}:PDE X (.Constant (.bool i) j pos) (eC (.bl i)):=VZ zg7 fun _=>by simp only[Rep]
theorem wA{j}:PDE X (.Constant .none j pos) (eC .non):=VZ zl4 fun _=>by simp only[Rep]
theorem x6{i j}:PDE X (.Constant (.str i) j pos) (eC (.str i)):=VZ zl2 fun _=>by simp only[Rep]
end
noncomputable def OpD(X:Cx)(g:Value→Value→Sem Value)(op:D→D→Rs D):Prop:=∃r:R2,OpR X g r ∧
 ∀F H x y dx dy Q,Same F H→Rep X.K F dx x→Rep X.K F dy y→Ok X (op dx dy) (Ev X.K F H Q)→r x y H Q
noncomputable def eOp(op:D→D→Rs D)(fa fb:FE):FE:=fun τ=>(fa τ).bind fun x=>(fb τ).bind fun y=>op x y
section
variable{X:Cx}{pos:Pos}{a b c:Expr}{fa fb fc:FE}
theorem JJ{r:R2}{op:D→D→Rs D}(hl:∀F H x y dx dy Q,Same F H→Rep X.K F dx x→Rep X.K F dy y→Ok X (op dx dy) (Ev X.K F H Q)→r x y H Q)
  (σ:St) (H:Hp) (Q:VK) (h:tE X (eOp op fa fb) σ H Q):tOp r (tE X fa) (tE X fb) σ H Q:=by
 obtain⟨F,τ,R,h⟩:=h
 refine tE.of R h.bind fun x u F1 H1 g x1 R1 r1=>?_
 refine tE.of R1 g.bind fun y v F2 H2 g2 x2 R2 r2=>?_
 exact hl F2 H2 u v x y Q R2.fh (r1.mono x2.ff) r2 (g2.imp fun d e=>e.ext (x1.trans x2))
theorem zn{o:Operator}{op:D→D→Rs D}(ho:OpD X (binaryOp o) op)(ha:PDE X a fa)(hb:PDE X b fb):PDE X (.BinOp a o b pos) (eOp op fa fb):=by
 obtain⟨r,h1,h2⟩:=ho
 exact(pe_op h1 ha hb).imp (JJ h2)
theorem wu{o:CmpOp}{op:D→D→Rs D}(ho:OpD X (compareOp o) op)(ha:PDE X a fa)(hb:PDE X b fb)(hm:behindInMarks o b=false):PDE X (.Compare a [o] [b] pos) (eOp op fa fb):=by
 obtain⟨r,h1,h2⟩:=ho
 exact(LI h1 ha hb hm).imp (JJ h2)
noncomputable def tB(f:FE):FT:=fun τ=>(f τ).bind fun d=>match d with
 |.bl b=>.ok b
 |_=>.no
theorem T4{t:FE}{u:TE}(hi:∀σ H Q,tE X t σ H Q→u σ H Q)(σ:St)(H:Hp)(Q:Bool→Hp→Prop)(h:tTs X (tB t) σ H Q):zf9 u σ H Q:=by
 obtain⟨F,τ,R,h⟩:=h
 refine hi σ H _ (tE.of R h.bind fun d v F1 H1 g x R1 r=>?_)
 cases d with
 |bl k=>simp only[Rep] at r;exact⟨k,r,g F1 H1 x⟩
 |_=>exact g.elim
theorem zW{o:CmpOp}{op:D→D→Rs D}(ho:OpD X (compareOp o) op)(ha:PDE X a fa)(hb:PDE X b fb)(hm:behindInMarks o b=false):PDT X (.Compare a [o] [b] pos) (tB (eOp op fa fb)):=by
 obtain⟨r,h1,h2⟩:=ho
 exact(Lx h1 ha hb hm).imp (T4 (JJ h2))
noncomputable def Zy:D→Rs Bool
 |.non=>.ok false
 |.bl b=>.ok b
 |.int i=>.ok (i != 0)
 |.str x=>if x.length≤sizeLine then .ok ((x.length:Int) != 0) else .no
 |.lst ds=>.ok (!ds.isEmpty)
 |.tup ds=>.ok (!ds.isEmpty)
 |.scr ns=>.ok (!ns.isEmpty)
 |.raw _=>.no
 |.exc _=>.no
 |.dct _ _=>.no
theorem Zh{K:Frag}{F:Hp}{ds:List D}{vs:List V}(h:Reps K F ds vs):ds.isEmpty=vs.isEmpty:=by
 have:=h.length
 cases ds <;> cases vs <;> simp_all
theorem UG{F H:Hp}{d:D}{v:V}{Q:Bool→Hp→Prop}(fh:Same F H)(r:Rep X.K F d v)(h:Ok X (Zy d) (fun b=>Q b H)):∃k,zs7 X.K v H k∧Q k H:=by
 cases d with
 |non=>simp only[Rep] at r;subst r;exact⟨_,rfl,h⟩
 |bl b=>simp only[Rep] at r;subst r;exact⟨_,rfl,h⟩
 |int i=>simp only[Rep] at r;subst r;exact⟨_,rfl,h⟩
 |str x=>
  simp only[Rep] at r;subst r
  (delta Zy at h;dsimp only at h)
  by_cases z:x.length≤sizeLine
  ·rw[if_pos z] at h;exact⟨_,⟨z,rfl⟩,h⟩
  ·rw[if_neg z] at h;exact h.elim
 |lst ds=>
  simp only[Rep] at r;obtain⟨a,vs,rfl,e,q⟩:=r
  refine⟨!vs.isEmpty,.inl ⟨vs,SqL.of (fh _ _ e),rfl⟩,?_⟩
  rw[← Zh q];exact h
 |tup ds=>
  simp only[Rep] at r;obtain⟨a,vs,rfl,e,q⟩:=r
  refine⟨!vs.isEmpty,.inr (.inl ⟨vs,Same.seqT fh e,rfl⟩),?_⟩
  rw[← Zh q];exact h
 |scr ns=>
  simp only[Rep] at r;obtain⟨a,rfl,e⟩:=r
  refine⟨!(ns.map V.int).isEmpty,.inl ⟨_,fh.seq e,rfl⟩,?_⟩
  have e2:(ns.map V.int).isEmpty=ns.isEmpty:=by cases ns <;> rfl
  rw[e2];exact h
 |raw u=>exact h.elim
 |exc c=>exact h.elim
 |dct _ _=>exact h.elim
noncomputable def uR(f:FE):FT:=fun τ=>(f τ).bind Zy
theorem jn(ha:PDE X a fa)(he:∀whole,isTrue a X.env whole=(do let v ← whole;standAt a.pos;holding [v] (truthy v)):=by intro _;rfl):PDT X a (uR fa):=
 (G5 ha he).imp fun σ H Q z_=>by obtain⟨F,τ,R,h⟩:=z_;exact tE.of R h.bind fun d v F1 H1 g x R1 r=>UG R1.fh r (g.imp fun b e=>e F1 H1 x)
noncomputable def vm(f g:FT):FT:=fun τ=>(f τ).bind fun b=>if b=true then g τ else .ok false
noncomputable def Z7(f g:FT):FT:=fun τ=>(f τ).bind fun b=>if b=true then .ok true else g τ
noncomputable def ZT(f:FT):FT:=fun τ=>(f τ).bind fun b=>.ok (!b)
variable{ga gb:FT}{rest:List Expr}
theorem uU(ha:PDT X a ga):PDW X (.BoolOp .And [a] pos) ga:=Ls ha
theorem Ym(ha:PDT X a ga):PDW X (.BoolOp .Or [a] pos) ga:=zk1 ha
theorem j3(ha:PDT X a ga)(hb:PDW X (.BoolOp .And (b::rest) pos) gb):PDW X (.BoolOp .And (a::b::rest) pos) (vm ga gb):=
 PW.imp (zk3 ha hb) fun σ H Q z_=>by
  obtain⟨F,τ,R,h⟩:=z_
  refine tTs.of R h.bind fun k F1 H1 g x R1=>?_
  cases k with
  |true=>rw[if_pos rfl];rw[if_pos rfl] at g;exact⟨F1,τ,R1,g.imp fun d e=>e.ext x⟩
  |false=>rw[if_neg (by simp)];rw[if_neg (by simp)] at g;exact g F1 H1 x
theorem W3(ha:PDT X a ga)(hb:PDW X (.BoolOp .Or (b::rest) pos) gb):PDW X (.BoolOp .Or (a::b::rest) pos) (Z7 ga gb):=
 PW.imp (pw_or ha hb) fun σ H Q z_=>by
  obtain⟨F,τ,R,h⟩:=z_
  refine tTs.of R h.bind fun k F1 H1 g x R1=>?_
  cases k with
  |false=>rw[if_neg (by simp)];rw[if_neg (by simp)] at g;exact⟨F1,τ,R1,g.imp fun d e=>e.ext x⟩
  |true=>rw[if_pos rfl];rw[if_pos rfl] at g;exact g F1 H1 x
theorem j4{e:Expr}(h:PDW X e ga):PDT X e ga:=PW.pt h
theorem JG(ha:PDT X a ga):PDT X (.UnaryOp .Not a pos) (ZT ga):=
 PT.imp (zk4 ha) fun σ H Q z_=>by obtain⟨F,τ,R,h⟩:=z_;exact tTs.of R h.bind fun k F1 H1 g x R1=>g F1 H1 x
noncomputable def eIf(g:FT)(fa fb:FE):FE:=fun τ=>(g τ).bind fun b=>if b=true then fa τ else fb τ
theorem Mh(hc:PDT X c ga)(ha:PDE X a fa)(hb:PDE X b fb):PDE X (.IfExp c a b pos) (eIf ga fa fb):=
 PE.imp (Md hc ha hb) fun σ H Q z_=>by
  obtain⟨F,τ,R,h⟩:=z_
  refine tTs.of R h.bind fun k F1 H1 g x R1=>?_
  cases k with
  |true=>rw[if_pos rfl];rw[if_pos rfl] at g;exact⟨F1,τ,R1,g.imp fun d e=>e.ext x⟩
  |false=>rw[if_neg (by simp)];rw[if_neg (by simp)] at g;exact⟨F1,τ,R1,g.imp fun d e=>e.ext x⟩
noncomputable def Xw(fa fb:FE):FE:=fun τ=>(fa τ).bind fun x=>(Zy x).bind fun b=>if b=true then fb τ else .ok x
noncomputable def eOr(fa fb:FE):FE:=fun τ=>(fa τ).bind fun x=>(Zy x).bind fun b=>if b=true then .ok x else fb τ
theorem uu{op}(h:PDE X a fa):PDE X (.BoolOp op [a] pos) fa:=zl3 h
theorem Yp(ha:PDE X a fa)(hb:PDE X (.BoolOp .And (b::rest) pos) fb):PDE X (.BoolOp .And (a::b::rest) pos) (Xw fa fb):=by
 rintro pins s σ H Q I ⟨F,τ,R,h⟩
 refine BoolOp_and (thn (ha pins s σ H _ I (tE.of R h.bind fun d v F1 H1 g x R1 r=>(⟨d,F1,g,x,R1,r⟩:∃d F1,Ok X ((Zy d).bind fun b=>if b=true then fb τ else .ok d) (Ev X.K F H Q)∧Ext F H F1 H1∧RV X.K F1 τ σ H1∧Rep X.K F1 d v))) fun v s1 z_=>?_)
 obtain⟨x,H1,I1,r1,d,F1,g,x1,R1,r⟩:=z_
 refine thn (tru_ok pins s1 σ H1 x v (fun b H2=>H2=H1∧Ok X (if b=true then fb τ else .ok d) (Ev X.K F H Q)) I1 r1 (UG (Q:=fun b H2=>H2=H1∧Ok X (if b=true then fb τ else .ok d) (Ev X.K F H Q)) R1.fh r (g.bind.imp fun b e=>⟨rfl,e⟩))) fun k s2 z_=>?_
 obtain⟨H2,I2,e2,q⟩:=z_
 subst e2
 cases k with
 |true=>rw[if_pos rfl] at q ⊢;exact hb pins s2 σ _ Q I2 ⟨F1,τ,R1,q.imp fun d e=>e.ext x1⟩
 |false=>rw[if_neg (by simp)] at q ⊢;exact⟨x,_,I2,r1,q x F1 _ x1 r⟩
theorem UY(ha:PDE X a fa)(hb:PDE X (.BoolOp .Or (b::rest) pos) fb):PDE X (.BoolOp .Or (a::b::rest) pos) (eOr fa fb):=by
 rintro pins s σ H Q I ⟨F,τ,R,h⟩
 refine BoolOp_or (thn (ha pins s σ H _ I (tE.of R h.bind fun d v F1 H1 g x R1 r=>(⟨d,F1,g,x,R1,r⟩:∃d F1,Ok X ((Zy d).bind fun b=>if b=true then .ok d else fb τ) (Ev X.K F H Q)∧Ext F H F1 H1∧RV X.K F1 τ σ H1∧Rep X.K F1 d v))) fun v s1 z_=>?_)
 obtain⟨x,H1,I1,r1,d,F1,g,x1,R1,r⟩:=z_
 refine thn (tru_ok pins s1 σ H1 x v (fun b H2=>H2=H1∧Ok X (if b=true then .ok d else fb τ) (Ev X.K F H Q)) I1 r1 (UG (Q:=fun b H2=>H2=H1∧Ok X (if b=true then .ok d else fb τ) (Ev X.K F H Q)) R1.fh r (g.bind.imp fun b e=>⟨rfl,e⟩))) fun k s2 z_=>?_
 obtain⟨H2,I2,e2,q⟩:=z_
 subst e2
 cases k with
 |false=>rw[if_neg (by simp)] at q ⊢;exact hb pins s2 σ _ Q I2 ⟨F1,τ,R1,q.imp fun d e=>e.ext x1⟩
 |true=>rw[if_pos rfl] at q ⊢;exact⟨x,_,I2,r1,q x F1 _ x1 r⟩
end
section
variable{X:Cx}{pos:Pos}{e:Expr}{es:List Expr}{fe:FE}{fs:FA}
noncomputable def zh:FA:=fun _=>.ok []
noncomputable def za(f:FE)(g:FA):FA:=fun τ=>(f τ).bind fun x=>(g τ).bind fun r=>.ok (x::r)
theorem zi:PDA X [] zh:=PA.imp W5 fun σ H Q z_=>by obtain⟨F,τ,R,h⟩:=z_;exact h [] F H (Ext.refl R.fh) Reps.nil
theorem zd(ha:PDE X e fe)(hr:PDA X es fs)(hs:starEach (e::es) X.env=(false,eval e X.env)::starEach es X.env:=by rfl):PDA X (e::es) (za fe fs):=
 PA.imp (Yq ha hr hs) fun σ H Q ⟨F,τ,R,h⟩=>tE.of R h.bind fun x v F1 H1 g x1 R1 r1=>tAs.of R1 g.bind fun ys vs F2 H2 g2 x2 R2 r2=>
  g2 (v::vs) F2 H2 (x1.trans x2) (Reps.cons (r1.mono x2.ff) r2)
noncomputable def xu(f:FA):FE:=fun τ=>(f τ).bind fun ds=>if ds.length≤sizeLine then .ok (.tup ds) else .no
noncomputable def xw(f:FA):FE:=fun τ=>(f τ).bind fun ds=>if ds.length≤sizeLine then .ok (.lst ds) else .no
theorem y7{X:Cx}{α:Type}{c:Prop}[Decidable c]{a:α}{P:α→Prop}(h:Ok X (if c then .ok a else .no) P):c∧P a:=by
 by_cases z:c
 ·rw[if_pos z] at h;exact⟨z,h⟩
 ·rw[if_neg z] at h;exact h.elim
theorem xZ{x1}(h:PDA X es fs):PDE X (.Tuple es x1 pos) (xu fs):=
 PE.imp (zl1 h) fun σ H Q z_=>by
  obtain⟨F,τ,R,hq⟩:=z_
  refine tAs.of R hq.bind fun ds vs F1 H1 g x R1 r=>?_
  obtain⟨z,g⟩:=y7 g
  refine⟨by rw[← r.length];exact z,fun p hp=>g (.ref p) _ _ (x.trans (Ext.new R1.fh hp)) ?_⟩
  simp only[Rep]
  exact⟨p,vs,rfl,SqT.of zJ,r.mono (yz (yd R1.fh hp))⟩
theorem x8(h:PDA X es fs):PDE X (.List es pos) (xw fs):=
 PE.imp (Mc h) fun σ H Q z_=>by
  obtain⟨F,τ,R,hq⟩:=z_
  refine tAs.of R hq.bind fun ds vs F1 H1 g x R1 r=>?_
  obtain⟨z,g⟩:=y7 g
  refine⟨by rw[← r.length];exact z,fun p hp=>g (.ref p) _ _ (x.trans (Ext.new R1.fh hp)) ?_⟩
  simp only[Rep]
  exact⟨p,vs,rfl,zJ,r.mono (yz (yd R1.fh hp))⟩
end
inductive Fl where
 | nx (τ:DS) | rt (d:D) | bk (τ:DS) | ct (τ:DS) | ex (c:Str) | no
 | rs (c:Str) (τ:DS)
 | ro (d:D) (τ:DS)
 | rb (i:Nat) (τ:DS)
noncomputable def Nw(X:Cx)(H:Hp)(b:Addr):Prop:=H b=none∧X.s₀.heap.get? b=none∧∀p∈X.pn,p.1≠b
noncomputable def ExcAt(X:Cx)(H:Hp)(h:Heap)(a:Addr)(cls:Value):Prop:=Nw X H a∧∃oe vs,h.get? a=some oe∧oe.cls=cls∧oe.dict=none∧oe.data=.fields vs ∧
 (vs[1]?=some .none∨∃T oT ts,vs[1]?=some (.ref T)∧Nw X H T∧T≠a∧h.get? T=some oT∧oT.data=.fields ts∧ts[3]?=some .none)∧vs[2]?=some .none
noncomputable def XA(X:Cx)(c:Str)(σ:St)(H:Hp):Prop:=∀s a cls,nsIn X.K mainGlobals c=some (some cls)→Inv X [] σ H s→ExcAt X H s.heap a cls→X.xe (.ref a) s
noncomputable abbrev FS:=DS→Fl
noncomputable def Post(X:Cx)(B Z F:Hp)(E:UC):Fl→Prop
 |.nx τ=>∀σ F' H',Same F F'→RS X.K B Z F' τ σ H'→E.nx σ H'
 |.bk τ=>∀σ F' H',Same F F'→RS X.K B Z F' τ σ H'→E.bk σ H'
 |.ct τ=>∀σ F' H',Same F F'→RS X.K B Z F' τ σ H'→E.ct σ H'
 |.rt d=>∀v F' H',Ext Z B F' H'→Rep X.K F' d v→E.rt v H'
 |.ex c=>Xob X c
 |.no=>False
 |.rs c τ=>∀σ F' H',Same F F'→RS X.K B Z F' τ σ H'→XA X c σ H'
 |.ro d τ=>∀v σ F' H',Same F F'→RS X.K B Z F' τ σ H'→Rep X.K F' d v→E.rt v H'
 |.rb i τ=>∀v σ F' H',Same F F'→RS X.K B Z F' τ σ H'→σ[i]?=some (some v)→E.rt v H'
theorem Post.same{X:Cx}{B Z F F1:Hp}{E:UC}{r:Fl}(h:Post X B Z F E r)(f:Same F F1):Post X B Z F1 E r:=by
 cases r with
 |nx τ=>exact fun σ F' H' g R=>h σ F' H' (f.trans g) R
 |bk τ=>exact fun σ F' H' g R=>h σ F' H' (f.trans g) R
 |ct τ=>exact fun σ F' H' g R=>h σ F' H' (f.trans g) R
 |rt d=>exact h
 |ex c=>exact h
 |no=>exact h
 |rs c τ=>exact fun σ F' H' g R=>h σ F' H' (f.trans g) R
 |ro d τ=>exact fun v σ F' H' g R r=>h v σ F' H' (f.trans g) R r
 |rb i τ=>exact fun v σ F' H' g R r=>h v σ F' H' (f.trans g) R r
noncomputable def tS(X:Cx)(f:FS):TS:=fun E σ H=>∃B Z F τ,RS X.K B Z F τ σ H∧Post X B Z F E (f τ)
noncomputable def PDS(X:Cx)(st:Stmt)(f:FS):Prop:=PS X st (tS X f)
noncomputable def Zw(X:Cx)(st:List Stmt)(f:FS):Prop:=PSs X st (tS X f)
noncomputable def Fl.of{α:Type}(r:Rs α)(k:α→Fl):Fl:=match r with
 |.ok a=>k a
 |.ex c=>.ex c
 |.no=>.no
@[simp] theorem Fl.of_ok{α:Type}(a:α)(k:α→Fl):Fl.of (.ok a) k=k a:=rfl
theorem Post.of{X:Cx}{B Z F:Hp}{E:UC}{α:Type}{r:Rs α}{k:α→Fl}(h:Post X B Z F E (Fl.of r k)):Ok X r fun a=>Post X B Z F E (k a):=by
 cases r <;> exact h
section
variable{X:Cx}{pos:Pos}{e:Expr}{es:List Expr}{fe:FE}{fs:FA}{st:Stmt}{rest:List Stmt}{f g:FS}{c:Expr}{gc:FT}
noncomputable def ya:FS:=fun τ=>.nx τ
noncomputable def zp(f g:FS):FS:=fun τ=>match f τ with
 |.nx τ'=>g τ'
 |r=>r
theorem yj:Zw X [] ya:=PSs.imp Ly fun E σ H z_=>by obtain⟨B,Z,F,τ,R,h⟩:=z_;exact h σ F H (Same.refl F) R
theorem zm(h:PDS X st f):Zw X [st] f:=Yk h
theorem zk(h1:PDS X st f)(h2:Zw X rest g):Zw X (st::rest) (zp f g):=
 PSs.imp (YL h1 h2) fun E σ H z_=>by
  obtain⟨B,Z,F,τ,R,h⟩:=z_
  refine⟨B,Z,F,τ,R,?_⟩
  unfold zp at h
  cases q:f τ with
  |nx τ'=>rw[q] at h;exact fun σ' F' H' ff R'=>⟨B,Z,F',τ',R',Post.same h ff⟩
  |rt d=>rw[q] at h;exact h
  |bk d=>rw[q] at h;exact h
  |ct d=>rw[q] at h;exact h
  |ex d=>rw[q] at h;exact h
  |no=>rw[q] at h;exact h
  |rs c d=>rw[q] at h;exact h
  |ro c d=>rw[q] at h;exact h
  |rb c d=>rw[q] at h;exact h
noncomputable def yh(fe:FE):FS:=fun τ=>Fl.of (fe τ) fun d=>.rt d
theorem tE.at{B Z F H:Hp}{τ:DS}{σ:St}{Q:VK}{G:D→Prop}(R:RS X.K B Z F τ σ H)(h:Ok X (fe τ) G)
  (k:∀d v F1 H1,G d→Ext F H F1 H1→RS X.K B Z F1 τ σ H1→Rep X.K F1 d v→Q v H1):tE X fe σ H Q:=
 tE.of R.rv h fun d v F1 H1 g x _ r=>k d v F1 H1 g x (R.ext x) r
theorem zP(he:PDE X e fe):PDS X (.Return (some e) pos) (yh fe):=
 PS.imp (UU he) fun E σ H z_=>by obtain⟨B,Z,F,τ,R,h⟩:=z_;exact tE.at R h.of fun d v F1 H1 g x R1 r=>g v F1 H1 R1.out r
noncomputable def sIf(gc:FT)(f g:FS):FS:=fun τ=>Fl.of (gc τ) fun b=>if b=true then f τ else g τ
theorem yT{a b:List Stmt}(hc:PDT X c gc)(ha:Zw X a f)(hb:Zw X b g):PDS X (.If c a b pos) (sIf gc f g):=
 PS.imp (ps_if hc ha hb) fun E σ H z_=>by
  obtain⟨B,Z,F,τ,R,h⟩:=z_
  refine tTs.of R.rv h.of fun k F1 H1 q x _=>?_
  cases k with
  |true=>rw[if_pos rfl] at q ⊢;exact⟨B,Z,F1,τ,R.ext x,q.same x.ff⟩
  |false=>rw[if_neg (by simp)] at q ⊢;exact⟨B,Z,F1,τ,R.ext x,q.same x.ff⟩
theorem RV.set{K:Frag}{F H:Hp}{τ:DS}{σ:St}{i:Nat}{d:D}{v:V}(R:RV K F τ σ H)(r:Rep K F d v):RV K F (τ.set i (some (.val d))) (σ.set i (some v)) H:=by
 refine⟨R.fh,by simp[R.len],fun j e h=>?_,fun j es h=>?_,fun j k ds es a hjk h1 h2 h3 h4=>?_,?_,?_⟩
 ·by_cases hij:i=j
  ·subst hij
   have hlt:i<τ.length:=by
    rcases lt_or_ge i τ.length with z|z
    ·exact z
    ·rw[List.getElem?_eq_none_iff.mpr (by simpa using z)] at h;cases h
   rw[getElem?_set_self hlt] at h
   cases h
   exact⟨v,by rw[getElem?_set_self (by rw[← R.len];exact hlt)],r⟩
  ·rw[getElem?_set_ne hij] at h ⊢
   exact R.val j e h
 ·by_cases hij:i=j
  ·subst hij
   rw[getElem?_set] at h
   simp only[if_true] at h
   split at h <;> cases h
  ·rw[getElem?_set_ne hij] at h ⊢
   exact R.own j es h
 ·have n1:i≠j:=fun z=>by
   subst z
   rw[getElem?_set] at h1
   simp only[if_true] at h1
   split at h1 <;> cases h1
  have n2:i≠k:=fun z=>by
   subst z
   rw[getElem?_set] at h2
   simp only[if_true] at h2
   split at h2 <;> cases h2
  rw[getElem?_set_ne n1] at h1 h3
  rw[getElem?_set_ne n2] at h2 h4
  exact R.dis j k ds es a hjk h1 h2 h3 h4
 ·exact R.tt
 ·exact R.ob.put rfl fun _ _ z=>by cases z
theorem RS.set{K:Frag}{B Z F H:Hp}{τ:DS}{σ:St}{i:Nat}{d:D}{v:V}(R:RS K B Z F τ σ H)(r:Rep K F d v):RS K B Z F (τ.set i (some (.val d))) (σ.set i (some v)) H:=
 ⟨R.rv.set r,R.bh,R.zf,R.nb,fun j ds a h1 h2=>by
  have n1:i≠j:=fun z=>by
   subst z
   rw[getElem?_set] at h1
   simp only[if_true] at h1
   split at h1 <;> cases h1
  rw[getElem?_set_ne n1] at h1 h2
  exact R.ob j ds a h1 h2,fun j m c fs a h1 h2=>by
  obtain⟨n,h1⟩:=yO (s:=some (.val d)) rfl rfl h1
  rw[getElem?_set_ne n] at h2
  exact R.oo j m c fs a h1 h2,fun a0 dx b1 b2 j m c fs h=>by
  obtain⟨n,h⟩:=yO (s:=some (.val d)) rfl rfl h
  rw[getElem?_set_ne n]
  exact R.sf a0 dx b1 b2 j m c fs h,fun j c fs a h1 h2=>by
  obtain⟨n,h1⟩:=yO (s:=some (.val d)) rfl rfl h1
  rw[getElem?_set_ne n] at h2
  exact R.ro j c fs a h1 h2⟩
noncomputable def zB(i:Nat)(fe:FE):FS:=fun τ=>Fl.of (fe τ) fun d=>.nx (τ.set i (some (.val d)))
theorem zy{i:Nat}{x:Str}{pos':Pos}(hN:X.N.Nodup)(hi:X.N[i]?=some x)(hx:Loc X.env.scope x)(he:PDE X e fe)(hs:swapsWith e (some (.Name x pos')) pos.line X.env=pure false:=by rfl)(hf:X.fn x=true∨X.env.scope.names.lookup x=some .local:=by first|exact .inl rfl|exact .inr rfl|assumption) :
  PDS X (.Assign [.Name x pos'] e pos) (zB i fe):=
 PS.imp (UT hN hi hx he hs hf) fun E σ H z_=>by obtain⟨B,Z,F,τ,R,h⟩:=z_;exact tE.at R h.of fun d v F1 H1 g x R1 r=>g _ F1 H1 x.ff (R1.set r)
noncomputable def tFr(X:Cx)(f:FA):TE:=fun σ H Q=>∃F τ,RV X.K F τ σ H∧Ok X (f τ) fun ds=>∀p vs F' H',Ext F H F' H'→H' p=none→Reps X.K F' ds vs→Q (.ref p) (upd H' p (.lst vs))
noncomputable def PDF(X:Cx)(e:Expr)(f:FA):Prop:=PE X e (tFr X f)
theorem Yo(h:PDA X es fs):PDF X (.List es pos) (fun τ=>(fs τ).bind fun ds=>if ds.length≤sizeLine then .ok ds else .no):=
 PE.imp (Mc h) fun σ H Q z_=>by
  obtain⟨F,τ,R,hq⟩:=z_
  refine tAs.of R hq.bind fun ds vs F1 H1 g x R1 r=>?_
  obtain⟨z,g⟩:=y7 g
  exact⟨by rw[← r.length];exact z,fun p hp=>g p vs F1 H1 x hp r⟩
theorem uv{ff:FA}(h:PDF X e ff):PDE X e (fun τ=>(ff τ).bind fun ds=>.ok (.lst ds)):=
 PE.imp h fun σ H Q ⟨F,τ,R,hq⟩=>⟨F,τ,R,hq.bind.imp fun ds g p vs F1 H1 x hp r=>by
  refine g (.ref p) _ _ (x.trans (Ext.new x.fh hp)) ?_
  simp only[Rep]
  exact⟨p,vs,rfl,zJ,r.mono (yz (yd x.fh hp))⟩⟩
noncomputable def vz(i:Nat)(ff:FA):FS:=fun τ=>Fl.of (ff τ) fun ds=>.nx (τ.set i (some (.own ds)))
theorem RV.setO{K:Frag}{F H:Hp}{τ:DS}{σ:St}{i:Nat}{p:Addr}{ds:List D}{vs:List V}(R:RV K F τ σ H)(hp:H p=none)(r:Reps K F ds vs):RV K F (τ.set i (some (.own ds))) (σ.set i (some (.ref p))) (upd H p (.lst vs)):=by
 have nofr:=yd R.fh hp
 have hlt:∀{o:Sl},(τ.set i (some (.own ds)))[i]?=some (some o)→i<τ.length:=fun {o} h=>by
  rcases lt_or_ge i τ.length with z|z
  ·exact z
  ·rw[List.getElem?_eq_none_iff.mpr (by simpa using z)] at h;cases h
 refine⟨R.fh.trans (yz hp),by simp[R.len],fun j e h=>?_,fun j es h=>?_,fun j k es es' a hjk h1 h2 h3 h4=>?_,?_,?_⟩
 ·by_cases hij:i=j
  ·subst hij
   rw[getElem?_set_self (hlt h)] at h;cases h
  ·rw[getElem?_set_ne hij] at h ⊢
   exact R.val j e h
 ·by_cases hij:i=j
  ·subst hij
   have l:=hlt h
   rw[getElem?_set_self l] at h
   cases h
   exact⟨p,vs,by rw[getElem?_set_self (by rw[← R.len];exact l)],zJ,nofr,r⟩
  ·rw[getElem?_set_ne hij] at h ⊢
   obtain⟨a,ws,q1,q2,q3,q4⟩:=R.own j es h
   exact⟨a,ws,q1,by rw[zA (z6 q2 hp)];exact q2,q3,q4⟩
 ·by_cases n1:i=j
  ·subst n1
   rw[getElem?_set_ne hjk] at h2 h4
   obtain⟨a',ws,q1,q2,q3,q4⟩:=R.own k es' h2
   rw[q1] at h4;cases h4
   have l:=hlt h1
   rw[getElem?_set_self (by rw[← R.len];exact l)] at h3
   cases h3
   rw[hp] at q2;cases q2
  ·by_cases n2:i=k
   ·subst n2
    rw[getElem?_set_ne (Ne.symm hjk)] at h1 h3
    obtain⟨a',ws,q1,q2,q3,q4⟩:=R.own j es h1
    rw[q1] at h3;cases h3
    have l:=hlt h2
    rw[getElem?_set_self (by rw[← R.len];exact l)] at h4
    cases h4
    rw[hp] at q2;cases q2
   ·rw[getElem?_set_ne n1] at h1 h3
    rw[getElem?_set_ne n2] at h2 h4
    exact R.dis j k es es' a hjk h1 h2 h3 h4
 ·exact R.tt.step (fun _ _ e=>.inl e) (fun b o e _=>by rw[zA (z6 e hp)];exact e) (ZI fun _ z=>nomatch z)
 ·have o1:ObsOk K F (τ.set i (some (.own ds))) (σ.set i (some (.ref p))) H:=R.ob.put rfl fun _ l _ z=>by
   cases z;exact R.ob.fresh hp
  exact o1.updL (.inl hp) (o1.fresh hp)
theorem RS.setO{K:Frag}{B Z F H:Hp}{τ:DS}{σ:St}{i:Nat}{p:Addr}{ds:List D}{vs:List V}(R:RS K B Z F τ σ H)(hp:H p=none)(r:Reps K F ds vs):RS K B Z F (τ.set i (some (.own ds))) (σ.set i (some (.ref p))) (upd H p (.lst vs)):=
 ⟨R.rv.setO hp r,R.bh.trans (.of (yz hp)),R.zf,R.nb,fun j es a h1 h2=>by
  by_cases n1:i=j
  ·subst n1
   have l:i<τ.length:=by
    rcases lt_or_ge i τ.length with z|z
    ·exact z
    ·rw[List.getElem?_eq_none_iff.mpr (by simpa using z)] at h1;cases h1
   rw[getElem?_set_self (by rw[← R.rv.len];exact l)] at h2
   cases h2
   exact vC R.bh hp
  ·rw[getElem?_set_ne n1] at h1 h2
   exact R.ob j es a h1 h2,fun j m c fs a h1 h2=>by
  obtain⟨n,h1⟩:=yO (s:=some (.own ds)) rfl rfl h1
  rw[getElem?_set_ne n] at h2
  rw[R.rv.ob.lof (.inl ⟨m,fs,h1⟩) h2 (.inl hp)]
  exact R.oo j m c fs a h1 h2,fun a0 dx b1 b2 j m c fs h=>by
  obtain⟨n,h⟩:=yO (s:=some (.own ds)) rfl rfl h
  rw[getElem?_set_ne n]
  exact R.sf a0 dx b1 b2 j m c fs h,fun j c fs a h1 h2=>by
  obtain⟨n,h1⟩:=yO (s:=some (.own ds)) rfl rfl h1
  rw[getElem?_set_ne n] at h2
  exact R.ro j c fs a h1 h2⟩
theorem j5{i:Nat}{x:Str}{pos':Pos}{ff:FA}(hN:X.N.Nodup)(hi:X.N[i]?=some x)(hx:Loc X.env.scope x)(he:PDF X e ff)(hs:swapsWith e (some (.Name x pos')) pos.line X.env=pure false:=by rfl)(hf:X.fn x=true∨X.env.scope.names.lookup x=some .local:=by first|exact .inl rfl|exact .inr rfl|assumption) :
  PDS X (.Assign [.Name x pos'] e pos) (vz i ff):=
 PS.imp (UT hN hi hx he hs hf) fun E σ H z_=>by obtain⟨B,Z,F,τ,R,h⟩:=z_;exact⟨F,τ,R.rv,h.of.imp fun ds g p vs F1 H1 x hp r=>g _ F1 _ x.ff ((R.ext x).setO hp r)⟩
theorem RV.own_upd{K:Frag}{F H:Hp}{τ:DS}{σ:St}{i:Nat}{p:Addr}{ds es:List D}{ws:List V}(R:RV K F τ σ H)(h:τ[i]?=some (some (.own ds)))(hp:σ[i]?=some (some (.ref p)))(r:Reps K F es ws) :
  RV K F (τ.set i (some (.own es))) σ (upd H p (.lst ws)):=by
 obtain⟨a,vs,q1,q2,q3,q4⟩:=R.own i ds h
 rw[q1] at hp;cases hp
 have l:i<τ.length:=(List.getElem?_eq_some_iff.mp h).1
 refine⟨fun b o e=>?_,by simp[R.len],fun j e h'=>?_,fun j es' h'=>?_,fun j k e1 e2 b hjk h1 h2 h3 h4=>?_,?_,?_⟩
 ·have n:b≠p:=fun z=>by subst z;rw[q3] at e;cases e
  rw[zA n];exact R.fh b o e
 ·by_cases hij:i=j
  ·subst hij;rw[getElem?_set_self l] at h';cases h'
  ·rw[getElem?_set_ne hij] at h';exact R.val j e h'
 ·by_cases hij:i=j
  ·subst hij
   rw[getElem?_set_self l] at h';cases h'
   exact⟨p,ws,q1,zJ,q3,r⟩
  ·rw[getElem?_set_ne hij] at h'
   obtain⟨a',vs',z1,z2,z3,z4⟩:=R.own j es' h'
   have n:a'≠p:=fun z=>by subst z;exact R.dis i j ds es' a' hij h h' q1 z1
   exact⟨a',vs',z1,by rw[zA n];exact z2,z3,z4⟩
 ·have:∀{m:Nat} {e:List D},(τ.set i (some (.own es)))[m]?=some (some (.own e))→∃e',τ[m]?=some (some (.own e')):=fun {m e} z=>by
   by_cases him:i=m
   ·subst him;exact⟨ds,h⟩
   ·rw[getElem?_set_ne him] at z;exact⟨e,z⟩
  obtain⟨x1,y1⟩:=this h1
  obtain⟨x2,y2⟩:=this h2
  exact R.dis j k x1 x2 b hjk y1 y2 h3 h4
 ·exact R.tt.step (fun _ _ e=>.inl e) (fun b o e n=>by
   have:b≠p:=fun z=>by subst z;rw[q2] at e;cases e;exact n _ rfl
   rw[zA this];exact e) (ZI fun _ z=>nomatch z)
 ·exact(R.ob.updL (.inr ⟨vs,q2⟩) fun j c a g1 g2 hl=>R.ob.lo j i c ds a p g1 h g2 q1 hl).putS h
theorem RS.own_upd{K:Frag}{B Z F H:Hp}{τ:DS}{σ:St}{i:Nat}{p:Addr}{ds es:List D}{ws:List V}(R:RS K B Z F τ σ H)(h:τ[i]?=some (some (.own ds)))(hp:σ[i]?=some (some (.ref p)))(r:Reps K F es ws) :
  RS K B Z F (τ.set i (some (.own es))) σ (upd H p (.lst ws)):=by
 have hb:=R.ob i ds p h hp
 refine⟨R.rv.own_upd h hp r,fun b o e=>?_,R.zf,R.nb,fun j e a h1 h2=>?_,fun j m c fs a h1 h2=>?_,fun a0 dx b1 b2 j m c fs h=>R.sf a0 dx b1 b2 j m c fs (yO (s:=some (.own es)) rfl rfl h).2,fun j c fs a h1 h2=>R.ro j c fs a (yO (s:=some (.own es)) rfl rfl h1).2 h2⟩
 ·have n:b≠p:=fun z=>by subst z;rw[hb] at e;cases e
  rw[zA n];exact R.bh b o e
 ·by_cases him:i=j
  ·subst him;exact R.ob i ds a h h2
  ·rw[getElem?_set_ne him] at h1;exact R.ob j e a h1 h2
 ·have h1:=(yO (s:=some (.own es)) rfl rfl h1).2
  obtain⟨p',vs,q1,q2,_⟩:=R.rv.own i ds h
  rw[q1] at hp;cases hp
  rw[R.rv.ob.lof (.inl ⟨m,fs,h1⟩) h2 (.inr ⟨vs,q2⟩)]
  exact R.oo j m c fs a h1 h2
noncomputable def jC(τ:DS)(i:Nat):Rs (List D):=match τ[i]? with
 | some (some (.own ds))=>.ok ds
 |_=>.no
theorem uW{τ:DS}{i:Nat}{P:List D→Prop}(h:Ok X (jC τ i) P):∃ds,τ[i]?=some (some (.own ds))∧P ds:=by
 unfold jC at h
 cases q:τ[i]? with
 |none=>rw[q] at h;exact h.elim
 |some o=>
  cases o with
  |none=>rw[q] at h;exact h.elim
  |some sl=>
   cases sl with
   |val d=>rw[q] at h;exact h.elim
   |obj n c fs=>rw[q] at h;exact h.elim
   |obr c fs=>rw[q] at h;exact h.elim
   |own ds=>rw[q] at h;exact⟨ds,rfl,h⟩
noncomputable def YH(i:Nat)(fe:FE):FS:=fun τ=>Fl.of (jC τ i) fun ds=>Fl.of (fe τ) fun d=>if ds.length<sizeLine then .nx (τ.set i (some (.own (ds++[d])))) else .no
theorem Yn{i:Nat}{x:Str}{p1 apos cpos:Pos}(hx:PE X (.Name x p1) (XM i))(he:PDE X e fe)
  (hfew:((backTo cpos (starEach [e] X.env)).all (fun x=>!x.1)&&(backToKw cpos (keywordEach [] X.env)).all (fun x=>x.1.isSome)
   && decide ([e].length+([]:List Keyword).length+(if ([]:List Keyword).isEmpty then 0 else 1)<30))=true:=by rfl)
  (hline:(apos.endLine==cpos.line)=true:=by rfl) (hs:starEach [e] X.env=[(false,eval e X.env)]:=by rfl) (hplain:(backTo cpos (starEach [] X.env)).any (·.1)=false:=by rfl)
  (hbase:attributeBase (.Name x p1) "append" X.env (eval (.Name x p1) X.env)=eval (.Name x p1) X.env:=by rfl)
  (hsw:swapsWith (.Call (.Attribute (.Name x p1) "append" apos) [e] [] cpos) none pos.line X.env=pure false:=by rfl) :
  PDS X (.Expr (.Call (.Attribute (.Name x p1) "append" apos) [e] [] cpos) pos) (YH i fe):=
 PS.imp (LA (zg6 PySem.F.plainAttrs_list PySem.F.slot_list_append PySem.F.type_list_append Wk hx (Yq he W5 (by rw[hs];rfl)) hbase hfew hline (by rw[hs];rfl) hplain) hsw) fun E σ H z_=>by
  obtain⟨B,Z,F,τ,R,h⟩:=z_
  obtain⟨ds,h1,h2⟩:=uW (X:=X) (Post.of h)
  obtain⟨a,vs,q1,q2,q3,q4⟩:=R.rv.own i ds h1
  refine⟨_,q1,.inl ⟨rfl,vs,SqL.of q2⟩,?_⟩
  refine tE.at R h2.of fun d v F1 H1 g x R1 r=>?_
  by_cases z:ds.length<sizeLine
  ·rw[if_pos z] at g
   refine⟨a,vs,v,rfl,rfl,x.hh _ _ q2,by rw[← q4.length];exact z,?_⟩
   exact g _ F1 _ x.ff (R1.own_upd h1 q1 ((q4.mono x.ff).append (Reps.cons r Reps.nil)))
  ·rw[if_neg z] at g;exact g.elim
noncomputable def Qo(i:Nat)(fi fe:FE):FS:=fun τ=>Fl.of (fe τ) fun d=>Fl.of (jC τ i) fun ds=>Fl.of (fi τ) fun k=>match k with
 |.int k=>match ixN ds.length k with
  |some j=>.nx (τ.set i (some (.own (ds.set j d))))
  |none=>.no
 |_=>.no
theorem LK{i:Nat}{x:Str}{p1 spos:Pos}{ix:Expr}{fi:FE}(hx:PE X (.Name x p1) (XM i))(hi:PDE X ix fi)(he:PDE X e fe)
  (ha:∀v,assign (.Subscript (.Name x p1) ix spos) X.env v=(do
   let ov ← holding [v] (eval (.Name x p1) X.env)
   let iv ← holding [v,ov] (eval ix X.env)
   standAt spos
   holding [v,ov,iv] (setItem ov iv v)
   release [v,ov,iv] []):=by intro _;rfl)
  (hs:swapsWithSole [.Subscript (.Name x p1) ix spos] e pos.line X.env=pure false:=by rfl) (hw:swappedStores [.Subscript (.Name x p1) ix spos] e X.env=pure none:=by rfl)
  (h1:(assignEach [.Subscript (.Name x p1) ix spos] X.env).map (·.2)=[assign (.Subscript (.Name x p1) ix spos) X.env]:=by rfl) :
  PDS X (.Assign [.Subscript (.Name x p1) ix spos] e pos) (Qo i fi fe):=
 PS.imp (zk6 he (zk9 hx hi GR ha) hs hw h1) fun E σ H z_=>by
  obtain⟨B,Z,F,τ,R,h⟩:=z_
  refine tE.at R h.of fun d v F1 H1 g x R1 r=>?_
  obtain⟨ds,h1,h2⟩:=uW (X:=X) (Post.of g)
  obtain⟨a,vs,q1,q2,q3,q4⟩:=R1.rv.own i ds h1
  refine⟨_,q1,?_⟩
  refine tE.at R1 h2.of fun k w F2 H2 g2 x2 R2 r2=>?_
  cases k with
  |int k=>
   simp only[Rep] at r2
   simp only at g2
   cases q:ixN ds.length k with
   |none=>rw[q] at g2;exact g2.elim
   |some j=>
    rw[q] at g2
    refine⟨a,vs,k,j,rfl,r2,x2.hh _ _ q2,by rw[← q4.length];exact q,?_⟩
    exact g2 _ F2 _ (x.ff.trans x2.ff) (R2.own_upd h1 q1 (Reps.set (r.mono x2.ff) j (q4.mono x2.ff)))
  |_=>exact g2.elim
noncomputable def j2(i:Nat):FS:=fun τ=>Fl.of (jC τ i) fun ds=>.rt (.lst ds)
theorem YO{i:Nat}{x:Str}{p1:Pos}(hx:PE X (.Name x p1) (XM i)):PDS X (.Return (some (.Name x p1)) pos) (j2 i):=
 PS.imp (UU hx) fun E σ H z_=>by
  obtain⟨B,Z,F,τ,R,h⟩:=z_
  obtain⟨ds,h1,h2⟩:=uW (X:=X) (Post.of h)
  obtain⟨a,vs,q1,q2,q3,q4⟩:=R.rv.own i ds h1
  have hb:=R.ob i ds a h1 q1
  refine⟨_,q1,h2 (.ref a) (upd F a (.lst vs)) H ⟨?_,R.bh,fun b o e=>?_,fun b o e=>?_,fun _=>R.rv.tt.freeze q2⟩ ?_⟩
  ·exact R.zf.trans (yz q3)
  ·by_cases z:b=a
   ·subst z;rw[zJ] at e;cases e;exact q2
   ·rw[zA z] at e;exact R.rv.fh b o e
  ·by_cases z:b=a
   ·subst z;exact .inr hb
   ·rw[zA z] at e;exact R.nb b o e
  ·simp only[Rep]
   exact⟨a,vs,rfl,zJ,q4.mono (yz q3)⟩
noncomputable def Q9(i:Nat)(fi:FE):FE:=fun τ=>(jC τ i).bind fun ds=>(fi τ).bind fun k=>match k with
 |.int k=>match atI ds k with
  |some d=>.ok d
  |none=>.no
 |_=>.no
theorem XE{K:Frag}{F:Hp}{ds:List D}{vs:List V}{k:Int}{d:D}(r:Reps K F ds vs)(h:atI ds k=some d):∃v,atI vs k=some v∧Rep K F d v:=by
 unfold atI at h ⊢
 rw[← r.length]
 cases q:ixN ds.length k with
 |none=>rw[q] at h;cases h
 |some j=>
  rw[q] at h
  exact r.get h
theorem LM{i:Nat}{x:Str}{p1:Pos}{ix:Expr}{fi:FE}(hx:PE X (.Name x p1) (XM i))(hi:PDE X ix fi)(hs:Vv ix:=by intro _ _;rfl):PDE X (.Subscript (.Name x p1) ix pos) (Q9 i fi):=
 PE.imp (zg5 ix_list hx hi hs) fun σ H Q z_=>by
  obtain⟨F,τ,R,h⟩:=z_
  obtain⟨ds,h1,h2⟩:=uW (X:=X) (Ok.bind h)
  obtain⟨a,vs,q1,q2,q3,q4⟩:=R.own i ds h1
  refine⟨_,q1,?_⟩
  refine tE.of R h2.bind fun k w F2 H2 g2 x2 R2 r2=>?_
  cases k with
  |int k=>
   simp only[Rep] at r2
   simp only at g2
   cases q:atI ds k with
   |none=>rw[q] at g2;exact g2.elim
   |some d=>
    rw[q] at g2
    obtain⟨v,z1,z2⟩:=XE q4 q
    exact⟨a,vs,k,v,rfl,r2,SqL.of (x2.hh _ _ q2),z1,g2 v F2 H2 x2 (z2.mono x2.ff)⟩
  |_=>exact g2.elim
noncomputable def Zp(i:Nat):FE:=fun τ=>(jC τ i).bind fun ds=>.ok (.int ds.length)
theorem YT{i:Nat}{x:Str}{p1 p:Pos}(hx:PE X (.Name x p1) (XM i))(hg:Gl X "len")(hm:X.mg "len" = none)
  (he:starEach [.Name x p1] X.env=[(false,eval (.Name x p1) X.env)]:=by rfl) (hpl:(backTo pos (starEach [] X.env)).any (·.1)=false:=by rfl):PDE X (.Call (.Name "len" p) [.Name x p1] [] pos) (Zp i):=
 PE.imp (pe_callB call_len_seq hg hm PySem.boot_len (Yq hx W5 (by rw[he];rfl)) (he:=by rw[he];rfl) (hpl:=hpl)) fun σ H Q z_=>by
  obtain⟨F,τ,R,h⟩:=z_
  obtain⟨ds,h1,h2⟩:=uW (X:=X) (Ok.bind h)
  obtain⟨a,vs,q1,q2,q3,q4⟩:=R.own i ds h1
  refine⟨_,q1,a,vs,rfl,.inl (SqL.of q2),?_⟩
  rw[← q4.length]
  exact h2 (.int ds.length) F H (Ext.refl R.fh) (by simp only[Rep])
noncomputable def UP(i:Nat)(op:D→D→Rs D)(fe:FE):FS:=fun τ=>Fl.of (zc i τ) fun x=>Fl.of (fe τ) fun y=>Fl.of (op x y) fun z=>.nx (τ.set i (some (.val z)))
theorem zd7{τ:DS}{i:Nat}{P:D→Prop}(h:Ok X (zc i τ) P):∃d,τ[i]?=some (some (.val d))∧P d:=by
 unfold zc at h
 cases q:τ[i]? with
 |none=>rw[q] at h;exact h.elim
 |some o=>
  cases o with
  |none=>rw[q] at h;exact h.elim
  |some sl=>
   cases sl with
   |own d=>rw[q] at h;exact h.elim
   |obj n c fs=>rw[q] at h;exact h.elim
   |obr c fs=>rw[q] at h;exact h.elim
   |val ds=>rw[q] at h;exact⟨ds,rfl,h⟩
theorem LL{i:Nat}{x:Str}{op:Operator}{od:D→D→Rs D}{r:TIp}{pos':Pos}(hN:X.N.Nodup)(hi:X.N[i]?=some x)(hx:Loc X.env.scope x)(he:PDE X e fe)(ho:PIp X op r)
  (hl:∀F H x y dx dy Q,Same F H→Rep X.K F dx x→Rep X.K F dy y→Ok X (od dx dy) (Ev X.K F H Q)→r x y H Q)
  (hf:X.fn x=true∨X.env.scope.names.lookup x=some .local:=by first|exact .inl rfl|exact .inr rfl|assumption):PDS X (.AugAssign (.Name x pos') op e pos) (UP i od fe):=
 PS.imp (zk5 hN hi hx he ho hf) fun E σ H z_=>by
  obtain⟨B,Z,F,τ,R,h⟩:=z_
  obtain⟨d,h1,h2⟩:=zd7 (X:=X) (Post.of h)
  obtain⟨v,q1,q2⟩:=R.rv.val i d h1
  refine⟨v,q1,tE.at R h2.of fun y w F1 H1 g x1 R1 r1=>?_⟩
  refine hl F1 H1 v w d y _ R1.rv.fh (q2.mono x1.ff) r1 (g.of.imp fun z gz u F2 H2 x2 r2=>?_)
  exact gz _ F2 H2 (x1.ff.trans x2.ff) ((R1.ext x2).set r2)
end
noncomputable def Jp(K:Frag)(J:It)(F1:Hp)(ds:List D):Prop:=∀(i:Nat) (F H:Hp),Same F1 F→Same F H →
 (ds.length≤i→J.stop i H)∧∀d,ds[i]?=some d→J.go i H∧∀x H',J.yld i H x H'→∃F',Ext F H F' H'∧Rep K F' d x
noncomputable def tI(X:Cx)(f:FA):TI:=fun σ H R=>∃F τ,RV X.K F τ σ H∧Ok X (f τ) fun ds=>∀J F1 H1,Ext F H F1 H1→Jp X.K J F1 ds→R J H1
noncomputable def PDI(X:Cx)(tg iter:Expr)(f:FA):Prop:=PI X tg iter (tI X f)
theorem _root_.L2.PI.imp{X:Cx}{tg e:Expr}{t t':TI}(h:PI X tg e t)(f:∀σ H Q,t' σ H Q→t σ H Q):PI X tg e t':=fun pins s σ H Q I q=>h pins s σ H Q I (f _ _ _ q)
section
variable{X:Cx}{pos:Pos}{e tg:Expr}{es:List Expr}{fe:FE}{fs:FA}
theorem JV{K:Frag}{a:Addr}{F1:Hp}{ds:List D}{vs:List V}(e:SqL K F1 a vs)(r:Reps K F1 ds vs):Jp K (Itl K a) F1 ds:=fun i F H f1 f2=>by
 have q:SqL K H a vs:=(f1.trans f2).seq e
 refine⟨fun h=>⟨vs,q,by rw[← r.length];exact h⟩,fun d hd=>?_⟩
 obtain⟨v,h1,h2⟩:=r.get hd
 refine⟨⟨vs,v,q,h1⟩,fun x H' y=>?_⟩
 obtain⟨e1,y⟩:=y
 subst e1
 have h3:=y vs q
 rw[h1] at h3;cases h3
 exact⟨F,Ext.refl f2,h2.mono f1⟩
theorem zp6{K:Frag}{a:Addr}{F1:Hp}{ds:List D}{vs:List V}(e:SqT K F1 a vs)(r:Reps K F1 ds vs):Jp K (Itt K a) F1 ds:=fun i F H f1 f2=>by
 have q:SqT K H a vs:=Same.seqT (f1.trans f2) e
 refine⟨fun h=>⟨vs,q,by rw[← r.length];exact h⟩,fun d hd=>?_⟩
 obtain⟨v,h1,h2⟩:=r.get hd
 refine⟨⟨vs,v,q,h1⟩,fun x H' y=>?_⟩
 obtain⟨e1,y⟩:=y
 subst e1
 have h3:=y vs q
 rw[h1] at h3;cases h3
 exact⟨F,Ext.refl f2,h2.mono f1⟩
noncomputable def YK(lo:Int)(n:Nat):List D:=(List.range n).map fun (k:Nat)=>D.int (lo+k)
theorem MT{K:Frag}{F1:Hp}{lo:Int}{n:Nat}:Jp K (Itr lo n) F1 (YK lo n):=fun i F H f1 f2=>by
 have hl:(YK lo n).length=n:=by simp[YK]
 refine⟨fun h=>by rw[hl] at h;exact h,fun d hd=>?_⟩
 have hi:i<n:=by have:=(List.getElem?_eq_some_iff.mp hd).1;rw[hl] at this;exact this
 refine⟨hi,fun x H' y=>?_⟩
 obtain⟨e1,y⟩:=y
 subst e1
 refine⟨F,Ext.refl f2,?_⟩
 simp[YK,hi] at hd
 subst hd
 simp only[Rep];exact y
noncomputable def MZ:List D→Option Int
 |[.int j]=>some j
 |_=>none
noncomputable def X1:List D→Option (Int×Int)
 |[.int i,.int j]=>some (i,j)
 |_=>none
noncomputable def YV:D→Option (D×D)
 |.tup [x,y]=>some (x,y)
 |_=>none
theorem zc3{ds:List D}{j:Int}(h:MZ ds=some j):ds=[.int j]:=by
 unfold MZ at h;split at h <;> cases h;rfl
theorem Vg{ds:List D}{i j:Int}(h:X1 ds=some (i,j)):ds=[.int i,.int j]:=by
 unfold X1 at h;split at h <;> cases h;rfl
theorem Ml{d x y:D}(h:YV d=some (x,y)):d=.tup [x,y]:=by
 unfold YV at h;split at h <;> cases h;rfl
noncomputable def uN(fs:FA):FA:=fun τ=>(fs τ).bind fun ds=>match MZ ds with
 |some j=>if -(2 ^ 62)≤j∧j<2 ^ 62 then .ok (YK 0 j.toNat) else .no
 |none=>.no
theorem wk{a:Expr}{p:Pos}(hg:Gl X "range")(hm:X.mg "range" = none)(ha:PDA X [a] fs)(hs:starEach [a] X.env=[(false,eval a X.env)]:=by rfl):PDI X tg (.Call (.Name "range" p) [a] [] pos) (uN fs):=
 PI.imp (Qu hg hm ha hs) fun σ H R z_=>by
  obtain⟨F,τ,Rv,h⟩:=z_
  refine tAs.of Rv h.bind fun ds vs F1 H1 g x R1 r=>?_
  cases q1:MZ ds with
  |none=>rw[q1] at g;exact g.elim
  |some j=>
   rw[q1] at g
   have e:=zc3 q1
   subst e
   obtain⟨v,rfl,q⟩:=r.one
   simp only[Rep] at q;subst q
   obtain⟨z,g⟩:=y7 g
   exact⟨j,rfl,z.1,z.2,g _ F1 H1 x MT⟩
noncomputable def M0(fs:FA):FA:=fun τ=>(fs τ).bind fun ds=>match X1 ds with
 | some (i,j)=>if (-(2 ^ 62)≤i∧i<2 ^ 62)∧-(2 ^ 62)≤j∧j<2 ^ 62 then .ok (YK i (j-i).toNat) else .no
 |none=>.no
theorem UX{a b:Expr}{p:Pos}(hg:Gl X "range")(hm:X.mg "range" = none)(ha:PDA X [a,b] fs)(hs:starEach [a,b] X.env=[(false,eval a X.env),(false,eval b X.env)]:=by rfl)(hs2:starEach [b] X.env=[(false,eval b X.env)]:=by rfl) :
  PDI X tg (.Call (.Name "range" p) [a,b] [] pos) (M0 fs):=
 PI.imp (Qt hg hm ha hs hs2) fun σ H R z_=>by
  obtain⟨F,τ,Rv,h⟩:=z_
  refine tAs.of Rv h.bind fun ds vs F1 H1 g x R1 r=>?_
  cases q1:X1 ds with
  |none=>rw[q1] at g;exact g.elim
  |some ij=>
   obtain⟨i,j⟩:=ij
   rw[q1] at g
   have e:=Vg q1
   subst e
   obtain⟨v,w,rfl,q,q'⟩:=r.two
   simp only[Rep] at q q';subst q;subst q'
   obtain⟨z,g⟩:=y7 g
   exact⟨i,j,rfl,⟨z.1.1,z.1.2,z.2.1,z.2.2⟩,g _ F1 H1 x MT⟩
noncomputable abbrev FG:=D→DS→Rs DS
noncomputable def tG(X:Cx)(set:FG):TG:=fun v σ H Q=>∃F τ d,RV X.K F τ σ H∧Rep X.K F d v∧Ok X (set d τ) fun τ'=>∀σ',RV X.K F τ' σ' H→(∀B Z,RS X.K B Z F τ σ H→RS X.K B Z F τ' σ' H)→σ'.length=σ.length→Q σ' H
noncomputable def PDG(X:Cx)(tg:Expr)(set:FG):Prop:=PG X tg (tG X set)
theorem _root_.L2.PG.imp{X:Cx}{e:Expr}{t t':TG}(h:PG X e t)(f:∀v σ H Q,t' v σ H Q→t v σ H Q):PG X e t':=fun pins s σ H v u Q I r q=>h pins s σ H v u Q I r (f _ _ _ _ q)
noncomputable def gNm(i:Nat):FG:=fun d τ=>.ok (τ.set i (some (.val d)))
theorem yk{i:Nat}{x:Str}(hN:X.N.Nodup)(hi:X.N[i]?=some x)(hx:Loc X.env.scope x)(hf:X.fn x=true∨X.env.scope.names.lookup x=some .local:=by first|exact .inl rfl|exact .inr rfl|assumption):PDG X (.Name x pos) (gNm i):=
 PG.imp (ut hN hi hx hf) fun v σ H Q z_=>by obtain⟨F,τ,d,R,r,h⟩:=z_;exact h _ (R.set r) (fun B Z R'=>R'.set r) (by simp)
noncomputable def gPr(i j:Nat):FG:=fun d τ=>match YV d with
 | some (x,y)=>.ok ((τ.set i (some (.val x))).set j (some (.val y)))
 |none=>.no
theorem j7{i j k:Nat}{x y:Str}{px py:Pos}(hc:X.calm=true)(hN:X.N.Nodup)(hi:X.N[i]?=some x)(hx:Loc X.env.scope x)(hj:X.N[j]?=some y)(hy:Loc X.env.scope y)
  (hf:X.fn x=true∨X.env.scope.names.lookup x=some .local:=by first|exact .inl rfl|exact .inr rfl|assumption) (hf':X.fn y=true∨X.env.scope.names.lookup y=some .local:=by first|exact .inl rfl|exact .inr rfl|assumption) :
  PDG X (.Tuple [.Name x px,.Name y py] k pos) (gPr i j):=
 PG.imp (G9 (n:=2) hc (uT (ut hN hi hx hf) (uT (ut hN hj hy hf') JF))) fun v σ H Q z_=>by
  obtain⟨F,τ,d,R,r,h⟩:=z_
  unfold gPr at h
  cases q1:YV d with
  |none=>rw[q1] at h;exact h.elim
  |some xy=>
   obtain⟨x,y⟩:=xy
   rw[q1] at h
   have e:=Ml q1
   subst e
   simp only[Rep] at r
   obtain⟨a,vs,rfl,q,t⟩:=r
   obtain⟨v1,v2,rfl,r1,r2⟩:=t.two
   exact⟨a,_,rfl,Same.seqT R.fh q,rfl,v1,[v2],rfl,v2,[],rfl,rfl,h _ ((R.set r1).set r2) (fun B Z R'=>(R'.set r1).set r2) (by simp)⟩
noncomputable def yr(set:FG)(body:FS):List D→DS→Fl
 |[],τ=>.nx τ
 |d::r,τ=>Fl.of (set d τ) fun τ1=>match body τ1 with
  |.nx τ'=>yr set body r τ'
  |.ct τ'=>yr set body r τ'
  |.bk τ'=>.nx τ'
  |.rt d=>.rt d
  |.ro d τ'=>.ro d τ'
  |.rb d τ'=>.rb d τ'
  |.ex c=>.ex c
  |.no=>.no
  |.rs c τ'=>.rs c τ'
noncomputable def wj(fi:FA)(set:FG)(body:FS):FS:=fun τ=>Fl.of (fi τ) fun ds=>yr set body ds τ
theorem xQ{iter:Expr}{body:List Stmt}{fi:FA}{set:FG}{fb:FS}(hp:PassesOwn (model X.prog X.w) X.A X.env X.xe)(hc:X.calm=true)(hi:PDI X tg iter fi)(hg:PDG X tg set)(hb:Zw X body fb)
  (hs:∀x,foldedSetIterable iter X.env x=pure x:=by intro _;rfl):PDS X (.For tg iter body [] pos) (wj fi set fb):=
 PS.imp (G7 hp hc hi hg hb hs) fun E σ H z_=>by
  obtain⟨B,Z,F,τ,R,h⟩:=z_
  refine⟨F,τ,R.rv,h.of.imp fun ds g J F1 H1 x io=>?_⟩
  refine⟨fun i m σ H=>m=ds.length-i∧i≤ds.length∧∃F' τ',Same F1 F'∧RS X.K B Z F' τ' σ H∧Post X B Z F' E (yr set fb (ds.drop i) τ'),⟨ds.length,by simp,zero_le _,F1,τ,Same.refl _,R.ext x,g.same x.ff⟩,?_⟩
  rintro i m σ2 H2 ⟨rfl,hi,F2,τ2,f2,R2,p2⟩
  obtain⟨i1,i2⟩:=io i F2 H2 f2 R2.rv.fh
  by_cases hlt:i<ds.length
  ·have hd:ds.drop i=ds[i]::ds.drop (i+1):=drop_eq_getElem_cons hlt
   rw[hd] at p2
   obtain⟨go,yl⟩:=i2 ds[i] (by simp[hlt])
   refine .inr ⟨go,fun σ' H'=>∃F' τ',Same F2 F'∧RS X.K B Z F' τ' σ' H'∧Post X B Z F' E (yr set fb (ds.drop (i+1)) τ'),fun σ' H' ⟨F',τ',a,b,c⟩=>⟨ds.length-(i+1),by lia,rfl,hlt,F',τ',f2.trans a,b,c⟩,fun y H' yy=>?_⟩
   obtain⟨F3,x3,r3⟩:=yl y H' yy
   have R3:=R2.ext x3
   refine⟨F3,τ2,ds[i],R3.rv,r3,(Post.of p2).imp fun τ4 p4 σ4 _ R4 _=>⟨B,Z,F3,τ4,R4 B Z R3,?_⟩⟩
   cases q:fb τ4 with
   |nx τ5=>rw[q] at p4;exact fun σ' F' H' ff RR=>⟨F',τ5,x3.ff.trans ff,RR,Post.same p4 (x3.ff.trans ff)⟩
   |ct τ5=>rw[q] at p4;exact fun σ' F' H' ff RR=>⟨F',τ5,x3.ff.trans ff,RR,Post.same p4 (x3.ff.trans ff)⟩
   |bk τ5=>rw[q] at p4;exact fun σ' F' H' ff RR=>p4 σ' F' H' (x3.ff.trans ff) RR
   |rt d=>rw[q] at p4;exact p4
   |ro d τ'=>rw[q] at p4;exact fun v σ' F' H' ff RR rr=>p4 v σ' F' H' (x3.ff.trans ff) RR rr
   |rb d τ'=>rw[q] at p4;exact fun v σ' F' H' ff RR rr=>p4 v σ' F' H' (x3.ff.trans ff) RR rr
   |ex c=>rw[q] at p4;exact p4
   |no=>rw[q] at p4;exact p4
   |rs c τ5=>rw[q] at p4;exact fun σ' F' H' ff RR=>p4 σ' F' H' (x3.ff.trans ff) RR
  ·have e:i=ds.length:=by lia
   subst e
   rw[List.drop_length] at p2
   exact .inl ⟨i1 (le_refl _),p2 σ2 F2 H2 (Same.refl _) R2⟩
end
noncomputable def LY(r:Rs D):Rs D:=match r with
 |.ok d=>.ok d
 |_=>.no
noncomputable def spD(K:Frag)(n:Nat)(g:List D→Rs D):Sp:=fun vs H Q E=>vs.length=n∧∃ds F,Same F H∧TbT F H∧Reps K F ds vs∧match g ds with
 |.ok d=>Ev K F H Q d
 |_=>False
noncomputable def zV(N:Nat)(ds:List D):DS:=ds.map (fun d=>some (.val d))++List.replicate (N-ds.length) none
noncomputable def jd:Fl→Rs D
 |.rt d=>.ok d
 |.ro d _=>.ok d
 |.nx _=>.ok .non
 |.rs c _=>.ex c
 |_=>.no
noncomputable def yX(N:Nat)(fb:FS)(ds:List D):Rs D:=jd (fb (zV N ds))
theorem VP{K:Frag}{F H:Hp}{N:List Str}{ds:List D}{vs:List V}(fh:Same F H)(tt:TbT F H)(r:Reps K F ds vs):RS K H F F (zV N.length ds) (L2.start N vs) H:=by
 have hl:=r.length
 have hval:∀(i:Nat) (o:Sl),(zV N.length ds)[i]?=some (some o)→∃d,ds[i]?=some d∧o=.val d:=fun i o h=>by
  unfold zV at h
  by_cases hi:i<ds.length
  ·rw[getElem?_append_left (by simpa using hi),getElem?_map] at h
   cases e:ds[i]? with
   |none=>rw[e] at h;cases h
   |some d=>rw[e] at h;cases h;exact⟨d,rfl,rfl⟩
  ·rw[getElem?_append_right (by simpa using hi),getElem?_replicate] at h
   split at h <;> cases h
 refine⟨⟨fh,?_,fun i d h=>?_,fun i es h=>?_,fun i j es es' a _ h1 _ _ _=>?_,tt,ObsOk.none fun i s h=>?_⟩,Hh.refl H,Same.refl F,fun a o e=>.inl e,fun i es a h1 _=>?_,fun i m c fs a h1 _=>?_,fun a0 dx _ _ j m c fs h1=>?_,fun j c fs a h1 _=>?_⟩
 ·simp[zV,L2.start,hl]
 ·obtain⟨d',h1,h2⟩:=hval i _ h
  cases h2
  obtain⟨v,q1,q2⟩:=r.get h1
  refine⟨v,?_,q2⟩
  have hi:i<vs.length:=(List.getElem?_eq_some_iff.mp q1).1
  unfold L2.start
  rw[getElem?_append_left (by simpa using hi),getElem?_map,q1];rfl
 ·obtain⟨_,_,h2⟩:=hval i _ h;cases h2
 ·obtain⟨_,_,h2⟩:=hval i _ h1;cases h2
 ·cases s with
  |none=>rfl
  |some o=>obtain⟨_,_,h2⟩:=hval i _ h;rw[h2];rfl
 ·obtain⟨_,_,h2⟩:=hval i _ h1;cases h2
 ·obtain⟨_,_,h2⟩:=hval i _ h1;cases h2
 ·obtain⟨_,_,h2⟩:=hval j _ h1;cases h2
 ·obtain⟨_,_,h2⟩:=hval j _ h1;cases h2
section
variable{P:Program}{w:World}{K:Frag}{mg:Str→Option Value}{base:Heap}
theorem fnD{x qual:Str}{st:Stmt}{f:Addr}{fd:FuncData}{N ps:List Str}{k n:Nat}{fb:FS}(F:Fun K x qual st f fd)(S:zQ N ps (zl st))(hn:ps.length=n)
  (hbody:∀(cdv:Value) (A:Around) (outer:List Env) (s:Shared) (H:Hp) (E:XK),Room k (A.deeper (envOfC qual (zl st) s.heap.objs.size f cdv)) →
   Zw (Vo CX0 P w K mg base N qual (zl st) f cdv A outer s H E).nox (zH st) fb):FnOk P w K mg base CX0 (k+1) f fd ps (spD K n (yX N.length fb)):=by
 refine F.ok S (fun vs H Q E h=>by rw[hn];exact h.1) fun cdv A outer s H vs Q E hr h=>⟨_,hbody cdv A outer s H E hr,?_⟩
 obtain⟨hl,ds,Fz,fh,tt,r,h⟩:=h
 refine⟨H,Fz,Fz,zV N.length ds,VP fh tt r,?_⟩
 unfold yX at h
 cases q:fb (zV N.length ds) with
 |nx τ=>rw[q] at h;exact fun σ F' H' ff RR=>h .non F' H' RR.out (by simp only[Rep])
 |rt d=>rw[q] at h;exact fun v F' H' x rr=>h v F' H' x rr
 |ro d τ=>rw[q] at h;exact fun v σ F' H' ff RR rr=>h v F' H' RR.out rr
 |rb d τ=>rw[q] at h;exact h.elim
 |bk τ=>rw[q] at h;exact h.elim
 |ct τ=>rw[q] at h;exact h.elim
 |ex c=>rw[q] at h;exact h.elim
 |no=>rw[q] at h;exact h.elim
 |rs c τ=>rw[q] at h;exact h.elim
theorem FnD.to{CX:CXT}{f:Addr}{fd:FuncData}{ps:List Str}{k n:Nat}{g g':List D→Rs D}(F:FnOk P w K mg base CX k f fd ps (spD K n g))(h:∀ds d,ds.length=n→g' ds=.ok d→g ds=.ok d):FnOk P w K mg base CX k f fd ps (spD K n g'):=
 F.imp fun vs H Q E ⟨hl,ds,Fz,fh,tt,r,q⟩=>⟨hl,ds,Fz,fh,tt,r,by
  cases e:g' ds with
  |ok d=>rw[e] at q;rw[h ds d (by rw[r.length];exact hl) e];exact q
  |ex c=>rw[e] at q;exact q.elim
  |no=>rw[e] at q;exact q.elim⟩
end
section
variable{X:Cx}{pos:Pos}{e tg:Expr}{es:List Expr}{fe:FE}{fs:FA}
noncomputable def zo(g:List D→Rs D)(fs:FA):FE:=fun τ=>(fs τ).bind fun ds=>LY (g ds)
theorem Mj{k n:Nat}{f:Addr}{fd:FuncData}{ps:List Str}{g:List D→Rs D}{x:Str}{p:Pos}(F:FnOk X.prog X.w X.K X.mg X.base CX0 k f fd ps (spD X.K n g))(hr:Room k X.A)(hg:Gl X x)(hm:X.mg x=some (.ref f))(hk:keepIn X.K (.ref f)=true)(hb:Binds X.K fd ps [])
  (ha:PDA X (e::es) fs) (hn:(e::es).length=n) (hfs:∀τ ds,fs τ=.ok ds→ds.length=(e::es).length) (hdb:(x==("__debug__" : Str))=false:=by decide) (he:starEach (e::es) X.env=(false,eval e X.env)::starEach es X.env:=by rfl) (hpl:(backTo pos (starEach es X.env)).any (·.1)=false:=by rfl) :
  PDE X (.Call (.Name x p) (e::es) [] pos) (zo g fs):=
 PE.imp (LJ F hr hg hm hk hb .nil (E:=E0) pass0 ha hdb he hpl) fun σ H Q z_=>by
  obtain⟨Fz,τ,R,h⟩:=z_
  have hb:=h.bind
  refine⟨Fz,τ,R,?_⟩
  cases q:fs τ with
  |no=>rw[q] at hb;exact hb
  |ex c=>rw[q] at hb;exact hb
  |ok ds=>
   rw[q] at hb
   intro vs F1 H1 x r
   rw[append_nil]
   refine⟨by rw[← r.length,hfs τ ds q,hn],ds,F1,x.fh,x.tt R.tt,r,?_⟩
   have hb:Ok X (LY (g ds)) (Ev X.K Fz H Q):=hb
   cases z:g ds with
   |ok d=>rw[z] at hb;exact Ev.ext hb x
   |ex c=>rw[z] at hb;exact hb.elim
   |no=>rw[z] at hb;exact hb.elim
theorem zu(τ:DS)(ds:List D)(h:zh τ=.ok ds):ds.length=0:=by cases h;rfl
theorem zg{f:FE}{g:FA}{n:Nat}(hg:∀τ ds,g τ=.ok ds→ds.length=n)(τ:DS)(ds:List D)(h:za f g τ=.ok ds):ds.length=n+1:=by
 unfold za at h
 cases q:f τ with
 |no=>rw[q] at h;cases h
 |ex c=>rw[q] at h;cases h
 |ok d=>
  rw[q] at h
  cases q2:g τ with
  |no=>rw[q2] at h;cases h
  |ex c=>rw[q2] at h;cases h
  |ok r=>rw[q2] at h;cases h;simp[hg τ r q2]
noncomputable def jJ(X:Cx)(f:Value)(g:List D→Rs D):Prop:=∃r,CallR X f r∧∀F H vs ds Q,Same F H→Reps X.K F ds vs→Ok X (g ds) (Ev X.K F H Q)→r vs H Q
noncomputable def z7(g:List D→Rs D)(fs:FA):FE:=fun τ=>(fs τ).bind g
theorem zF{id:String}{x:Str}{p:Pos}{g:List D→Rs D}(hc:jJ X (.builtin id) g)(hg:Gl X x)(hm:X.mg x=none)(hv:bootBuiltins x=some (.builtin id))(ha:PDA X (e::es) fs)(hn:x ≠ "__name__" := by decide)(hdb:(x==("__debug__" : Str))=false:=by decide)
  (he:starEach (e::es) X.env=(false,eval e X.env)::starEach es X.env:=by rfl) (hpl:(backTo pos (starEach es X.env)).any (·.1)=false:=by rfl):PDE X (.Call (.Name x p) (e::es) [] pos) (z7 g fs):=by
 obtain⟨r,h1,h2⟩:=hc
 exact PE.imp (L2.pe_callB h1 hg hm hv ha hn hdb he hpl) fun σ H Q z_=>by obtain⟨Fz,τ,R,h⟩:=z_;exact tAs.of R h.bind fun ds vs F1 H1 q x R1 rr=>h2 F1 H1 vs ds Q R1.fh rr (q.imp fun d e=>e.ext x)
theorem YU{id:String}{x:Str}{p:Pos}{g:List D→Rs D}(hc:jJ X (.type id) g)(hg:Gl X x)(hm:X.mg x=none)(hv:bootBuiltins x=some (.type id))(ha:PDA X (e::es) fs)(hn:x ≠ "__name__" := by decide)(hdb:(x==("__debug__" : Str))=false:=by decide)
  (he:starEach (e::es) X.env=(false,eval e X.env)::starEach es X.env:=by rfl) (hpl:(backTo pos (starEach es X.env)).any (·.1)=false:=by rfl):PDE X (.Call (.Name x p) (e::es) [] pos) (z7 g fs):=by
 obtain⟨r,h1,h2⟩:=hc
 exact PE.imp (L2.pe_callTy h1 hg hm hv ha hn hdb he hpl) fun σ H Q z_=>by obtain⟨Fz,τ,R,h⟩:=z_;exact tAs.of R h.bind fun ds vs F1 H1 q x R1 rr=>h2 F1 H1 vs ds Q R1.fh rr (q.imp fun d e=>e.ext x)
noncomputable def IxD(X:Cx)(op:D→D→Rs D):Prop:=∃r:R2,IxR X r∧∀F H x y dx dy Q,Same F H→Rep X.K F dx x→Rep X.K F dy y→Ok X (op dx dy) (Ev X.K F H Q)→r x y H Q
theorem zK{a b:Expr}{fa fb:FE}{op:D→D→Rs D}(hr:IxD X op)(ha:PDE X a fa)(hb:PDE X b fb)(hs:Vv b:=by intro _ _;rfl):PDE X (.Subscript a b pos) (eOp op fa fb):=by
 obtain⟨r,h1,h2⟩:=hr
 exact PE.imp (zg5 h1 ha hb hs) (JJ h2)
noncomputable def ixD:D→D→Rs D
 |.lst ds,.int k=>match atI ds k with
  |some d=>.ok d
  |none=>.no
 |.tup ds,.int k=>match atI ds k with
  |some d=>.ok d
  |none=>.no
 |.scr ns,.int k=>match atI ns k with
  |some d=>.ok (.int d)
  |none=>.no
 |.str x,.int k=>match atI x.cps.toList k with
  |some c=>if x.length≤sizeLine then .ok (.str ⟨#[c]⟩) else .no
  |none=>.no
 |_,_=>.no
theorem zf1{α β:Type}{f:α→β}{xs:List α}{k:Int}{a:α}(h:atI xs k=some a):atI (xs.map f) k=some (f a):=by
 unfold atI at h ⊢
 rw[length_map]
 cases q:ixN xs.length k with
 |none=>rw[q] at h;cases h
 |some j=>
  rw[q] at h
  have h:xs[j]?=some a:=h
  show(xs.map f)[j]?=_
  rw[getElem?_map,h];rfl
theorem z8:IxD X ixD:=⟨_,zp4,fun F H x y dx dy Q fh r1 r2 h=>by
 cases dx with
 |lst ds=>
  cases dy with
  |int k=>
   simp only[Rep] at r1 r2;obtain⟨a,vs,rfl,q,t⟩:=r1;subst r2
   (delta ixD at h;dsimp only at h)
   cases z:atI ds k with
   |none=>rw[z] at h;exact h.elim
   |some d=>
    rw[z] at h
    obtain⟨v,z1,z2⟩:=XE t z
    exact .inl ⟨a,vs,k,v,rfl,rfl,SqL.of (fh _ _ q),z1,h v F H (Ext.refl fh) z2⟩
  |_=>exact h.elim
 |tup ds=>
  cases dy with
  |int k=>
   simp only[Rep] at r1 r2;obtain⟨a,vs,rfl,q,t⟩:=r1;subst r2
   (delta ixD at h;dsimp only at h)
   cases z:atI ds k with
   |none=>rw[z] at h;exact h.elim
   |some d=>
    rw[z] at h
    obtain⟨v,z1,z2⟩:=XE t z
    exact .inr (.inl ⟨a,vs,k,v,rfl,rfl,Same.seqT fh q,z1,h v F H (Ext.refl fh) z2⟩)
  |_=>exact h.elim
 |scr ns=>
  cases dy with
  |int k=>
   simp only[Rep] at r1 r2;obtain⟨a,rfl,q⟩:=r1;subst r2
   (delta ixD at h;dsimp only at h)
   cases z:atI ns k with
   |none=>rw[z] at h;exact h.elim
   |some d=>
    rw[z] at h
    exact .inl ⟨a,_,k,.int d,rfl,rfl,fh.seq q,zf1 z,h (.int d) F H (Ext.refl fh) (by simp only[Rep])⟩
  |_=>exact h.elim
 |str x=>
  cases dy with
  |int k=>
   simp only[Rep] at r1 r2;subst r1;subst r2
   (delta ixD at h;dsimp only at h)
   cases z:atI x.cps.toList k with
   |none=>rw[z] at h;exact h.elim
   |some c=>
    rw[z] at h
    obtain⟨z2,h⟩:=y7 h
    exact .inr (.inr ⟨x,k,c,rfl,rfl,z2,z,h _ F H (Ext.refl fh) (by simp only[Rep])⟩)
  |_=>exact h.elim
 |_=>cases dy <;> exact h.elim⟩
end
mutual
noncomputable def yW:D→PyData
 |.non=>.none
 |.bl b=>.bool b
 |.int i=>.int i
 |.str x=>.str x
 |.lst ds=>.list (toPys ds)
 |.tup ds=>.tuple (toPys ds)
 |.scr ns=>.list (ns.map .int)
 |.raw _=>.none
 |.exc _=>.none
 |.dct _ _=>.none
noncomputable def toPys:List D→List PyData
 |[]=>[]
 |d::r=>yW d::toPys r
end
mutual
noncomputable def xA:D→Bool
 |.lst ds=>plainDs ds
 |.tup ds=>plainDs ds
 |.raw _=>false
 |.exc _=>false
 |.dct _ _=>false
 |_=>true
noncomputable def plainDs:List D→Bool
 |[]=>true
 |d::r=>xA d&&plainDs r
end
theorem readsAll_ints{h:Heap}:∀{ns:List Int} {us:List Value},Vals (ns.map V.int) us→ReadsAll h us (ns.map .int) []
 |[],_,.nil=>.nil
 |n::ns,_,.cons r t=>by
  obtain⟨tk,rfl⟩:=r
  exact .cons (as:=[]) (bs:=[]) (.int n tk) (readsAll_ints t)
section
variable{X:Cx}{pins:List (Addr×Obj)}{σ:St}{F H:Hp}{s:Shared}
mutual
theorem vA(I:Inv X pins σ H s)(fh:Same F H):∀(d:D) {v:V} {u:Value},Rep X.K F d v→RelV v u→xA d=true→∃as,Reads s.heap u (yW d) as
 |.non,v,u,r,rv,_=>by simp only[Rep] at r;subst r;cases rv;exact⟨[],.none⟩
 |.bl b,v,u,r,rv,_=>by simp only[Rep] at r;subst r;cases rv;exact⟨[],.bool b⟩
 |.int i,v,u,r,rv,_=>by simp only[Rep] at r;subst r;obtain⟨t,rfl⟩:=rv;exact⟨[],.int i t⟩
 |.str x,v,u,r,rv,_=>by simp only[Rep] at r;subst r;obtain⟨t,rfl⟩:=rv;exact⟨[],.str x t⟩
 |.lst ds,v,u,r,rv,hp=>by
  simp only[Rep] at r;obtain⟨a,vs,rfl,q,t⟩:=r
  cases rv
  obtain⟨its,rr,⟨o,n,e,c,_,dd⟩,_⟩:=I.list (SqL.of (K:=X.K) (fh _ _ q))
  obtain⟨as,ra⟩:=readss_of I fh ds t rr (by simpa only[xA] using hp)
  exact⟨a::as,by rw[yW];exact .list e c dd (by simpa using ra)⟩
 |.tup ds,v,u,r,rv,hp=>by
  simp only[Rep] at r;obtain⟨a,vs,rfl,q,t⟩:=r
  cases rv
  obtain⟨its,rr,⟨o,e,c,n,dd⟩,_⟩:=I.tuple (Same.seqT fh q)
  obtain⟨as,ra⟩:=readss_of I fh ds t rr (by simpa only[xA] using hp)
  exact⟨as,by rw[yW];exact .tuple e c dd (by simpa using ra)⟩
 |.scr ns,v,u,r,rv,hp=>by
  simp only[Rep] at r;obtain⟨a,rfl,q⟩:=r
  cases rv
  obtain⟨its,rr,⟨o,n,e,c,_,dd⟩,_⟩:=I.list (fh.seq q)
  exact⟨[a],by rw[yW];exact .list e c dd (by simpa using readsAll_ints rr)⟩
 |.raw w,v,u,r,rv,hp=>by simp[xA] at hp
 |.exc w,v,u,r,rv,hp=>by simp[xA] at hp
 |.dct _ _,v,u,r,rv,hp=>by simp[xA] at hp
theorem readss_of(I:Inv X pins σ H s)(fh:Same F H):∀(ds:List D) {vs:List V} {us:List Value},Reps X.K F ds vs→Vals vs us→plainDs ds=true→∃as,ReadsAll s.heap us (toPys ds) as
 |[],vs,us,r,rv,_=>by simp only[Reps] at r;subst r;cases rv;exact⟨[],by rw[toPys];exact .nil⟩
 |d::ds,vs,us,r,rv,hp=>by
  simp only[Reps] at r
  obtain⟨v,r',rfl,q,t⟩:=r
  simp only[plainDs,Bool.and_eq_true] at hp
  cases rv with
  |cons r1 r2=>
   obtain⟨as,h1⟩:=vA I fh d q r1 hp.1
   obtain⟨bs,h2⟩:=readss_of I fh ds t r2 hp.2
   exact⟨as++bs,by rw[toPys];exact .cons h1 h2⟩
end
end
noncomputable def okD(d:D):Bool:=xA d&&(yW d).canLay0&&decide ((yW d).depth≤60)
theorem jq{d:D}(h:okD d=true):xA d=true∧(yW d).canLay0=true∧(yW d).depth≤60:=by
 simpa[okD,and_assoc] using h
noncomputable def uf(d e:D):Bool:=PyData.eqv (yW d) (yW e)
noncomputable def eqD:D→D→Rs D
 |.str x,.str y=>.ok (.bl (x==y))
 |.int x,.int y=>.ok (.bl (x==y))
 |d,e=>if okD d=true∧okD e=true then .ok (.bl (uf d e)) else .no
noncomputable def neD:D→D→Rs D
 |.str x,.str y=>.ok (.bl (!(x==y)))
 |.int x,.int y=>.ok (.bl (!(x==y)))
 |d,e=>if okD d=true∧okD e=true then .ok (.bl (!uf d e)) else .no
section
variable{X:Cx}
noncomputable def JB(K:Frag)(b:D→D→Bool):R2:=fun x y H Q=>∃F d e,Same F H∧Rep K F d x∧Rep K F e y∧okD d=true∧okD e=true∧Q (.bl (b d e)) H
theorem QC(hu:X.A.units+64<cLine):OpR X (compareOp .Eq) (JB X.K uf):=by
 intro pins s σ H x y v u Q I rx ry h
 obtain⟨F,d,e,fh,r1,r2,o1,o2,q⟩:=h
 obtain⟨p1,c1,e1⟩:=jq o1
 obtain⟨p2,c2,e2⟩:=jq o2
 obtain⟨as,h1⟩:=vA I fh d r1 rx p1
 obtain⟨bs,h2⟩:=vA I fh e r2 ry p2
 exact SeqAt.compareEq_reads h1 h2 c1 c2 (by lia) ⟨.bl _,H,I,rfl,q⟩
theorem QA(hu:X.A.units+64<cLine):OpR X (compareOp .NotEq) (JB X.K fun d e=>!uf d e):=by
 intro pins s σ H x y v u Q I rx ry h
 obtain⟨F,d,e,fh,r1,r2,o1,o2,q⟩:=h
 obtain⟨p1,c1,e1⟩:=jq o1
 obtain⟨p2,c2,e2⟩:=jq o2
 obtain⟨as,h1⟩:=vA I fh d r1 rx p1
 obtain⟨bs,h2⟩:=vA I fh e r2 ry p2
 exact SeqAt.compareNe_reads h1 h2 c1 c2 (by lia) ⟨.bl _,H,I,rfl,q⟩
theorem xR(hu:X.A.units+64<cLine):OpD X (compareOp .Eq) eqD:=⟨_,op_eq.or (QC hu),fun F H x y dx dy Q fh r1 r2 h=>by
 have gen:(Ok X (if okD dx=true∧okD dy=true then .ok (.bl (uf dx dy)) else .no) (Ev X.K F H Q))→rEq x y H Q∨JB X.K uf x y H Q:=fun h=>by
  obtain⟨z,h⟩:=y7 h
  exact .inr ⟨F,dx,dy,fh,r1,r2,z.1,z.2,h _ F H (Ext.refl fh) (by simp only[Rep])⟩
 cases dx with
 |str a=>
  cases dy with
  |str b=>
   simp only[Rep] at r1 r2;subst r1;subst r2
   exact .inl ⟨rfl,by rw[Yx];exact h _ F H (Ext.refl fh) (by simp only[Rep])⟩
  |_=>exact gen h
 |int a=>
  cases dy with
  |int b=>
   simp only[Rep] at r1 r2;subst r1;subst r2
   exact .inl ⟨rfl,by rw[Yy];exact h _ F H (Ext.refl fh) (by simp only[Rep])⟩
  |_=>exact gen h
 |_=>exact gen h⟩
theorem W6(hu:X.A.units+64<cLine):OpD X (compareOp .NotEq) neD:=⟨_,op_ne.or (QA hu),fun F H x y dx dy Q fh r1 r2 h=>by
 have gen:(Ok X (if okD dx=true∧okD dy=true then .ok (.bl (!uf dx dy)) else .no) (Ev X.K F H Q))→rNe x y H Q∨JB X.K (fun d e=>!uf d e) x y H Q:=fun h=>by
  obtain⟨z,h⟩:=y7 h
  exact .inr ⟨F,dx,dy,fh,r1,r2,z.1,z.2,h _ F H (Ext.refl fh) (by simp only[Rep])⟩
 cases dx with
 |str a=>
  cases dy with
  |str b=>
   simp only[Rep] at r1 r2;subst r1;subst r2
   exact .inl ⟨rfl,by rw[Yx];exact h _ F H (Ext.refl fh) (by simp only[Rep])⟩
  |_=>exact gen h
 |int a=>
  cases dy with
  |int b=>
   simp only[Rep] at r1 r2;subst r1;subst r2
   exact .inl ⟨rfl,by rw[Yy];exact h _ F H (Ext.refl fh) (by simp only[Rep])⟩
  |_=>exact gen h
 |_=>exact gen h⟩
noncomputable def intOp(C:Int→Int→Bool)(g:Int→Int→D):D→D→Rs D
 |.int i,.int j=>if C i j=true then .ok (g i j) else .no
 |_,_=>.no
theorem JI{f:Value→Value→Sem Value}{C':Int→Int→Prop}{C:Int→Int→Bool}{gv:Int→Int→V}{g:Int→Int→D}(h:OpR X f (rI C' gv))(hc:∀i j,C i j=true→C' i j)(hg:∀F i j,Rep X.K F (g i j) (gv i j)):OpD X f (intOp C g):=
 ⟨_,h,fun F H x y dx dy Q fh r1 r2 q=>by
  cases dx with
  |int i=>
   cases dy with
   |int j=>
    simp only[Rep] at r1 r2;subst r1;subst r2
    obtain⟨z,q⟩:=y7 q
    exact⟨i,j,rfl,rfl,hc i j z,q _ F H (Ext.refl fh) (hg F i j)⟩
   |_=>exact q.elim
  |_=>cases dy <;> exact q.elim⟩
noncomputable def uC(g:Int→Int→D):D→D→Rs D
 |.int i,.int j=>.ok (g i j)
 |_,_=>.no
theorem j9{f:Value→Value→Sem Value}{gv:Int→Int→V}{g:Int→Int→D}(h:OpR X f (rI0 gv))(hg:∀F i j,Rep X.K F (g i j) (gv i j)):OpD X f (uC g):=
 ⟨_,h,fun F H x y dx dy Q fh r1 r2 q=>by
  cases dx with
  |int i=>
   cases dy with
   |int j=>
    simp only[Rep] at r1 r2;subst r1;subst r2
    exact⟨i,j,rfl,rfl,q _ F H (Ext.refl fh) (hg F i j)⟩
   |_=>exact q.elim
  |_=>cases dy <;> exact q.elim⟩
noncomputable def yH:=uC fun i j=>.int (i-j)
theorem yK:OpD X (binaryOp .Sub) yH:=j9 zm2 fun _ _ _=>by simp only[Rep]
noncomputable def Vd:=intOp (fun _ j=>decide (0<j)) fun i j=>.int (i%j)
theorem jo:OpD X (binaryOp .Mod) Vd:=JI zm4 (fun i j h=>by simpa using h) fun _ _ _=>by simp only[Rep]
noncomputable def Xr:=intOp (fun _ j=>decide (0<j∧j<1073741824)) fun i j=>.int (i / j)
theorem Za:OpD X (binaryOp .FloorDiv) Xr:=JI LQ (fun i j h=>by have h':0<j∧j<1073741824:=of_decide_eq_true h;exact h') fun _ _ _=>by simp only[Rep]
noncomputable def ltI:=uC fun i j=>.bl (decide (i<j))
noncomputable def leD:=uC fun i j=>.bl (decide (i≤j))
noncomputable def gtD:=uC fun i j=>.bl (decide (j<i))
theorem zm0:OpD X (compareOp .Lt) ltI:=j9 op_lt fun _ _ _=>by simp only[Rep]
theorem zm1:OpD X (compareOp .LtE) leD:=j9 op_le fun _ _ _=>by simp only[Rep]
theorem YW:OpD X (compareOp .Gt) gtD:=j9 op_gt fun _ _ _=>by simp only[Rep]
noncomputable def zI:D→D→Rs D
 |.int i,.int j=>.ok (.int (i+j))
 |.str i,.str j=>if i.length+j.length≤sizeLine then .ok (.str (i++j)) else .no
 |.lst i,.lst j=>if i.length+j.length≤sizeLine then .ok (.lst (i++j)) else .no
 |_,_=>.no
theorem zD:OpD X (binaryOp .Add) zI:=⟨_,op_add.or (op_add_str.or zm6),fun F H x y dx dy Q fh r1 r2 q=>by
 cases dx with
 |int i=>
  cases dy with
  |int j=>
   simp only[Rep] at r1 r2;subst r1;subst r2
   exact .inl ⟨i,j,rfl,rfl,q _ F H (Ext.refl fh) (by simp only[Rep])⟩
  |_=>exact q.elim
 |str i=>
  cases dy with
  |str j=>
   simp only[Rep] at r1 r2;subst r1;subst r2
   obtain⟨z,q⟩:=y7 q
   exact .inr (.inl ⟨i,j,rfl,rfl,z,q _ F H (Ext.refl fh) (by simp only[Rep])⟩)
  |_=>exact q.elim
 |lst i=>
  cases dy with
  |lst j=>
   simp only[Rep] at r1 r2
   obtain⟨a,vs,rfl,e1,t1⟩:=r1
   obtain⟨b,ws,rfl,e2,t2⟩:=r2
   obtain⟨z,q⟩:=y7 q
   refine .inr (.inr ⟨a,b,vs,ws,rfl,rfl,fh _ _ e1,fh _ _ e2,by rw[← t1.length,← t2.length];exact z,fun p hp=>q _ _ _ (Ext.new fh hp) ?_⟩)
   simp only[Rep]
   exact⟨p,vs++ws,rfl,zJ,(t1.append t2).mono (yz (yd fh hp))⟩
  |_=>exact q.elim
 |_=>cases dy <;> exact q.elim⟩
noncomputable def wP:D→D→Rs D
 |.int i,.int j=>if (-(18446744073709551616)<i∧i<18446744073709551616)∨(-(18446744073709551616)<j∧j<18446744073709551616) then .ok (.int (i*j)) else .no
 |.lst i,.int k=>if k<16777216∧-16777216<k∧i.length*k.toNat≤sizeLine then .ok (.lst (List.replicate k.toNat i).flatten) else .no
 |_,_=>.no
theorem x9:OpD X (binaryOp .Mult) wP:=⟨_,op_mul.or zm3,fun F H x y dx dy Q fh r1 r2 q=>by
 cases dx with
 |int i=>
  cases dy with
  |int j=>
   simp only[Rep] at r1 r2;subst r1;subst r2
   obtain⟨z,q⟩:=y7 q
   refine .inl ⟨i,j,rfl,rfl,?_,q _ F H (Ext.refl fh) (by simp only[Rep])⟩
   unfold CMul
   rcases z with z|z
   ·exact .inl (by lia)
   ·exact .inr (by lia)
  |_=>exact q.elim
 |lst i=>
  cases dy with
  |int k=>
   simp only[Rep] at r1 r2
   obtain⟨a,vs,rfl,e1,t1⟩:=r1
   subst r2
   obtain⟨z,q⟩:=y7 q
   refine .inr ⟨a,k,vs,rfl,rfl,fh _ _ e1,by lia,by lia,by rw[← t1.length];exact z.2.2,fun p hp=>q _ _ _ (Ext.new fh hp) ?_⟩
   simp only[Rep]
   exact⟨p,_,rfl,zJ,(t1.rep k.toNat).mono (yz (yd fh hp))⟩
  |_=>exact q.elim
 |_=>cases dy <;> exact q.elim⟩
noncomputable def Jv(i j:Str):Bool:=!(Builtin.Str.occurrences j i 0 j.length 1).isEmpty
noncomputable def inD:D→D→Rs D
 |.str i,.str j=>.ok (.bl (Jv i j))
 |d,.lst xs=>if okD d=true∧okD (.lst xs)=true then .ok (.bl (xs.any fun y=>uf y d)) else .no
 |d,.tup xs=>if okD d=true∧okD (.tup xs)=true then .ok (.bl (xs.any fun y=>uf y d)) else .no
 |_,_=>.no
theorem X3:∀xs:List D,toPys xs=xs.map yW:=by
 intro l_
 induction l_ with
 |nil=>
  exact rfl
 |cons d r ih_=>
  rw[toPys,ih_,map_cons]
theorem WN(xs:List D)(d:D):((toPys xs).any fun y=>PyData.eqv y (yW d))=xs.any fun y=>uf y d:=by
 rw[X3,List.any_map];rfl
noncomputable def rInD(K:Frag)(neg:Bool):R2:=fun x y H Q=>∃F d e xs,Same F H∧Rep K F d x∧Rep K F e y∧okD d=true∧okD e=true∧(e=.lst xs∨e=.tup xs)∧Q (.bl (if neg then !(xs.any fun y=>uf y d) else xs.any fun y=>uf y d)) H
theorem QB(hu:X.A.units+128<cLine):OpR X (compareOp .In) (rInD X.K false):=by
 intro pins s σ H x y v u Q I rx ry h
 obtain⟨F,d,e,xs,fh,r1,r2,o1,o2,he,q⟩:=h
 obtain⟨p1,c1,e1⟩:=jq o1
 obtain⟨p2,c2,e2⟩:=jq o2
 obtain⟨as,h1⟩:=vA I fh d r1 rx p1
 obtain⟨bs,h2⟩:=vA I fh e r2 ry p2
 rcases he with rfl|rfl
 ·rw[yW] at h2 c2 e2
  refine SeqAt.in_list_reads h2 h1 (by simpa only[PyData.canLay0] using c2) c1 (by lia) ⟨.bl _,H,I,rfl,?_⟩
  rw[WN];exact q
 ·rw[yW] at h2 c2 e2
  refine SeqAt.in_tuple_reads h2 h1 (by simpa only[PyData.canLay0] using c2) c1 (by lia) ⟨.bl _,H,I,rfl,?_⟩
  rw[WN];exact q
theorem vX(hu:X.A.units+128<cLine):OpD X (compareOp .In) inD:=⟨_,op_in_str.or (QB hu),fun F H x y dx dy Q fh r1 r2 q=>by
 cases dy with
 |lst xs=>
  have q':Ok X (if okD dx=true∧okD (.lst xs)=true then .ok (.bl (xs.any fun y=>uf y dx)) else .no) (Ev X.K F H Q):=by cases dx <;> exact q
  obtain⟨z,q⟩:=y7 q'
  exact .inr ⟨F,dx,_,xs,fh,r1,r2,z.1,z.2,.inl rfl,q _ F H (Ext.refl fh) (by simp only[Rep];rfl)⟩
 |tup xs=>
  have q':Ok X (if okD dx=true∧okD (.tup xs)=true then .ok (.bl (xs.any fun y=>uf y dx)) else .no) (Ev X.K F H Q):=by cases dx <;> exact q
  obtain⟨z,q⟩:=y7 q'
  exact .inr ⟨F,dx,_,xs,fh,r1,r2,z.1,z.2,.inr rfl,q _ F H (Ext.refl fh) (by simp only[Rep];rfl)⟩
 |str j=>
  cases dx with
  |str i=>
   simp only[Rep] at r1 r2;subst r1;subst r2
   exact .inl ⟨i,j,rfl,rfl,q _ F H (Ext.refl fh) (by simp only[Rep,Jv])⟩
  |_=>exact q.elim
 |_=>cases dx <;> exact q.elim⟩
noncomputable def isN:D→Rs Bool
 |.non=>.ok true
 |.raw _=>.no
 |.exc _=>.no
 |.dct _ _=>.no
 |_=>.ok false
noncomputable def isD(d e:D):Rs D:=match e with
 |.non=>(isN d).bind fun b=>.ok (.bl b)
 |_=>.no
noncomputable def xY(d e:D):Rs D:=match e with
 |.non=>(isN d).bind fun b=>.ok (.bl (!b))
 |_=>.no
theorem JW{F:Hp}{d:D}{v:V}{P:Bool→Prop}(r:Rep X.K F d v)(h:Ok X (isN d) P):P (decide (v=.non)):=by
 cases d with
 |non=>simp only[Rep] at r;subst r;exact h
 |bl b=>simp only[Rep] at r;subst r;exact h
 |int b=>simp only[Rep] at r;subst r;exact h
 |str b=>simp only[Rep] at r;subst r;exact h
 |lst b=>simp only[Rep] at r;obtain⟨a,vs,rfl,_⟩:=r;exact h
 |tup b=>simp only[Rep] at r;obtain⟨a,vs,rfl,_⟩:=r;exact h
 |scr b=>simp only[Rep] at r;obtain⟨a,rfl,_⟩:=r;exact h
 |raw b=>exact h.elim
 |exc b=>exact h.elim
 |dct _ _=>exact h.elim
theorem UZ:OpD X (compareOp .Is) isD:=⟨_,zm5,fun F H x y dx dy Q fh r1 r2 q=>by
 cases dy with
 |non=>simp only[Rep] at r2;exact⟨r2,JW r1 (Ok.bind q) _ F H (Ext.refl fh) (by simp only[Rep])⟩
 |_=>exact q.elim⟩
theorem ub:OpD X (compareOp .IsNot) xY:=⟨_,LP,fun F H x y dx dy Q fh r1 r2 q=>by
 cases dy with
 |non=>simp only[Rep] at r2;have q':Ok X ((isN dx).bind fun b=>Rs.ok (D.bl (!b))) (Ev X.K F H Q):=q;have q2:=JW (P:=fun b=>Ok X (Rs.ok (D.bl (!b))) (Ev X.K F H Q)) r1 (Ok.bind q');exact⟨r2,q2 _ F H (Ext.refl fh) (by simp only[Rep])⟩
 |_=>exact q.elim⟩
noncomputable def wL(fa:FE):FE:=fun τ=>(fa τ).bind fun d=>match d with
 |.int i=>.ok (.int (-i))
 |_=>.no
theorem vQ{a:Expr}{pos:Pos}{fa:FE}(ha:PDE X a fa):PDE X (.UnaryOp .USub a pos) (wL fa):=
 PE.imp (pe_un zi7 ha) fun σ H Q z_=>by
  obtain⟨F,τ,R,h⟩:=z_
  refine tE.of R h.bind fun d v F1 H1 g x R1 r=>?_
  cases d with
  |int i=>simp only[Rep] at r;exact⟨i,r,g _ F1 H1 x (by simp only[Rep])⟩
  |_=>exact g.elim
end
noncomputable def yS(env:Env)(cs:List (Str×Addr))(y:Str×NameKind):List (Str×Addr):=if y.2==NameKind.free then (y.1,(env.cells.lookup y.1).getD 0)::cs else cs
noncomputable def wy(scope:Scope)(env:Env):List (Str×Addr):=scope.names.foldl (yS env) []
theorem vZ{scope:Scope}{env:Env}(h:∀y∈scope.names,y.2=.free→(env.cells.lookup y.1).isSome=true):closureFor scope env=pure (wy scope env):=by
 unfold closureFor wy
 generalize scope.names=names at h
 have gen:∀(cs:List (Str×Addr)),(forIn names cs fun x r=>(do
   if (x.2==NameKind.free)=true then do
    let c ← cellOf env x.1
    pure PUnit.unit
    pure (ForInStep.yield ((x.1,c)::r))
   else do
    pure PUnit.unit
    pure (ForInStep.yield r)):Sem (List (Str×Addr)))=pure (names.foldl (yS env) cs):=by
  induction names with
  |nil=>intro cs;rfl
  |cons y r ih=>
   intro cs
   rw[List.forIn_cons,foldl_cons]
   by_cases hk:y.2=.free
   ·obtain⟨c,hc⟩:=Option.isSome_iff_exists.mp (h y mem_cons_self hk)
    have e:yS env cs y=(y.1,c)::cs:=by simp[yS,hk,hc]
    rw[e,← ih (fun z hz=>h z (mem_cons_of_mem _ hz))]
    simp only[hk,beq_self_eq_true,if_true,cellOf,hc]
    rfl
   ·have hb:(y.2==NameKind.free)=false:=by simpa using hk
    have e:yS env cs y=cs:=by simp[yS,hb]
    rw[e,← ih (fun z hz=>h z (mem_cons_of_mem _ hz))]
    simp only[hb,Bool.false_eq_true,if_false]
    rfl
 show((forIn names ([]:List (Str×Addr)) fun x r=>(do
   if (x.2==NameKind.free)=true then do
    let c ← cellOf env x.1
    pure PUnit.unit
    pure (ForInStep.yield ((x.1,c)::r))
   else do
    pure PUnit.unit
    pure (ForInStep.yield r)):Sem (List (Str×Addr))) >>= fun s=>pure s)=_
 rw[gen []]
 rfl
theorem Z2{env:Env}{x:Str}:∀{names:List (Str×NameKind)} {cs:List (Str×Addr)} {c:Addr},(names.foldl (yS env) cs).lookup x=some c→cs.lookup x=some c∨(∃y∈names,y.1=x∧y.2=.free∧c=(env.cells.lookup x).getD 0)
 |[],cs,c,h=>.inl h
 |y::r,cs,c,h=>by
  rw[foldl_cons] at h
  rcases Z2 h with q|⟨z,hz,e⟩
  ·by_cases hk:y.2=.free
   ·have e:yS env cs y=(y.1,(env.cells.lookup y.1).getD 0)::cs:=by simp[yS,hk]
    rw[e,lookup_cons] at q
    by_cases hx:x=y.1
    ·subst hx
     simp at q
     exact .inr ⟨y,mem_cons_self,rfl,hk,q.symm⟩
    ·have hb:(x==y.1)=false:=by simpa using hx
     rw[hb] at q
     exact .inl q
   ·have hb:(y.2==NameKind.free)=false:=by simpa using hk
    have e:yS env cs y=cs:=by simp[yS,hb]
    rw[e] at q
    exact .inl q
  ·exact .inr ⟨z,mem_cons_of_mem _ hz,e⟩
theorem jf{env:Env}{x:Str}:∀{names:List (Str×NameKind)} {cs:List (Str×Addr)},((∃y∈names,y.1=x∧y.2=.free)∨∃c,cs.lookup x=some c)→∃c,(names.foldl (yS env) cs).lookup x=some c
 |[],cs,h=>by
  rcases h with ⟨y,hy,_⟩|h
  ·cases hy
  ·exact h
 |y::r,cs,h=>by
  rw[foldl_cons]
  refine jf ?_
  by_cases hk:y.2=.free
  ·have e:yS env cs y=(y.1,(env.cells.lookup y.1).getD 0)::cs:=by simp[yS,hk]
   rw[e]
   by_cases hx:x=y.1
   ·subst hx;exact .inr ⟨(env.cells.lookup y.1).getD 0,by rw[lookup_cons];simp⟩
   ·have hb:(x==y.1)=false:=by simpa using hx
    rcases h with ⟨z,hz,e1,e2⟩|⟨c,hc⟩
    ·rcases mem_cons.mp hz with rfl|hz
     ·exact absurd e1.symm hx
     ·exact .inl ⟨z,hz,e1,e2⟩
    ·exact .inr ⟨c,by rw[lookup_cons,hb];exact hc⟩
  ·have hb:(y.2==NameKind.free)=false:=by simpa using hk
   have e:yS env cs y=cs:=by simp[yS,hb]
   rw[e]
   rcases h with ⟨z,hz,e1,e2⟩|h
   ·rcases mem_cons.mp hz with rfl|hz
    ·exact absurd e2 hk
    ·exact .inl ⟨z,hz,e1,e2⟩
   ·exact .inr h
noncomputable def _root_.L2.Cx.comp(X:Cx)(scope:Scope)(N:List Str)(s:Shared)(H:Hp)(C:Addr)(fp:List Addr):Cx:=
 { prog:=X.prog,w:=X.w,K:=X.K,mg:=X.mg,base:=X.base,A:=X.A,N:=N,s₀:=s,H₀:=H,env:=compEnvC scope (wy scope X.env) C X.env,outer:=X.stack,stack:=X.stack,ex:=fp,fn:=fun _=>false,calm:=X.calm,pn:=[],xe:=fun _ _=>False }
structure xX(X:Cx)(scope:Scope):Prop where
 kind:scope.kind=.function
 nocell:∀y∈scope.names,y.2≠.cell
 locs:∀y∈scope.names,y.2=.local→scope.names.lookup y.1=some .local
 free:∀y∈scope.names,y.2=.free→X.env.kindOf y.1=some .cell∨X.env.kindOf y.1=some .free
theorem vp{env:Env}:∀{names:List (Str×NameKind)} {x:Str},((names.map fun (n,k)=>if (k==NameKind.free&&env.scope.kind == .function&&env.kindOf n==some .cell) then (n,NameKind.cell) else (n,k)).lookup x=some .cell ∨
  (names.map fun (n,k)=>if (k==NameKind.free&&env.scope.kind == .function&&env.kindOf n==some .cell) then (n,NameKind.cell) else (n,k)).lookup x=some .free)→(∀y∈names,y.2≠.cell)→∃y∈names,y.1=x∧y.2=.free
 |[],_,h,_=>by rcases h with h|h <;> simp at h
 | (n,k)::r,x,h,hc=>by
  have hr:∀y∈r,y.2≠.cell:=fun y hy=>hc y (mem_cons_of_mem _ hy)
  rw[map_cons] at h
  by_cases hx:x=n
  ·subst hx
   by_cases hk:k=.free
   ·exact⟨_,mem_cons_self,rfl,hk⟩
   ·have hb:(k==NameKind.free)=false:=by simpa using hk
    have hck:k≠.cell:=hc (x,k) mem_cons_self
    simp only[hb,Bool.false_and,Bool.false_eq_true,if_false,lookup_cons,beq_self_eq_true] at h
    rcases h with h|h
    ·exact absurd (Option.some.inj h) hck
    ·exact absurd (Option.some.inj h) hk
  ·have hb:(x==n)=false:=by simpa using hx
   have step:∀q:Str×NameKind,q.1=n→((q::(r.map fun (n,k)=>if (k==NameKind.free&&env.scope.kind == .function&&env.kindOf n==some .cell) then (n,NameKind.cell) else (n,k))).lookup x)=((r.map fun (n,k)=>if (k==NameKind.free&&env.scope.kind == .function&&env.kindOf n==some .cell) then (n,NameKind.cell) else (n,k)).lookup x):=fun q hq=>by
    obtain⟨q1,q2⟩:=q
    simp only at hq
    subst hq
    rw[lookup_cons,hb]
   have h':((r.map fun (n,k)=>if (k==NameKind.free&&env.scope.kind == .function&&env.kindOf n==some .cell) then (n,NameKind.cell) else (n,k)).lookup x=some .cell∨(r.map fun (n,k)=>if (k==NameKind.free&&env.scope.kind == .function&&env.kindOf n==some .cell) then (n,NameKind.cell) else (n,k)).lookup x=some .free):=by
    rcases h with h|h
    ·left;exact(step _ (by show(if (k==NameKind.free&&env.scope.kind == .function&&env.kindOf n==some .cell)=true then (n,NameKind.cell) else (n,k)).1=n;split <;> rfl)).symm.trans h
    ·right;exact(step _ (by show(if (k==NameKind.free&&env.scope.kind == .function&&env.kindOf n==some .cell)=true then (n,NameKind.cell) else (n,k)).1=n;split <;> rfl)).symm.trans h
   obtain⟨y,hy,e⟩:=vp h' hr
   exact⟨y,mem_cons_of_mem _ hy,e⟩
theorem ur{env:Env}:∀{names:List (Str×NameKind)} {x:Str},names.lookup x=some .free→¬ (names.map fun (n,k)=>if (k==NameKind.free&&env.scope.kind == .function&&env.kindOf n==some .cell) then (n,NameKind.cell) else (n,k)).lookup x=some .local
 |[],_,h=>by simp at h
 | (n,k)::r,x,h=>by
  rw[map_cons]
  show ¬ List.lookup x ((if (k==NameKind.free&&env.scope.kind == .function&&env.kindOf n==some .cell)=true then (n,NameKind.cell) else (n,k))::_)=_
  rw[lookup_cons] at h
  by_cases hx:x=n
  ·subst hx
   simp only[beq_self_eq_true] at h
   have hk:k=.free:=Option.some.inj h
   subst hk
   split <;> simp[lookup_cons]
  ·have hb:(x==n)=false:=by simpa using hx
   rw[hb] at h
   split
   ·rw[lookup_cons,hb];exact ur h
   ·rw[lookup_cons,hb];exact ur h
section
variable{X:Cx}{scope:Scope}{N':List Str}
theorem ZQ(S:xX X scope)(ok:X.Ok){x:Str}{c:Addr}(h:(wy scope X.env).lookup x=some c):X.env.cells.lookup x=some c:=by
 rcases Z2 h with q|⟨y,hy,e1,e2,e3⟩
 ·simp at q
 ·subst e1
  obtain⟨c',hc'⟩:=ok.has y.1 (S.free y hy e2)
  rw[hc'] at e3 ⊢
  rw[e3];rfl
theorem Tq{pins:List (Addr×Obj)}{σ σ':St}{H:Hp}{s:Shared}{h1:Heap}{fp:List Addr}{t:Nat}(S:xX X scope)(I:Inv X pins σ H s)(hfp:∀b∈fp,XI X pins H b)(hlt:∀b∈fp,b<s.heap.objs.size)
  (hn:h1.Ns s.heap.objs.size fun _=>none) (hsb:∀b o,s.heap.get? b=some o→h1.get? b=some o) (hl:σ'.length=N'.length)
  (hσ:∀(i:Nat) (v:V),σ'[i]?=some (some v)→∃(x:Str) (j:Nat),N'[i]?=some x∧X.N[j]?=some x∧σ[j]?=some (some v)∧scope.names.lookup x=some .free) :
  Inv (X.comp scope N' s H s.heap.objs.size fp) [] σ' H { s with heap:=h1,toks:=t }:=by
 have hH:H s.heap.objs.size=none:=I.hok.fresh (le_refl _)
 have cl:∀{x c},(wy scope X.env).lookup x=some c→X.env.cells.lookup x=some c:=fun h=>ZQ S I.ok h
 have kept:∀{c v},s.heap.IsCell c v→h1.IsCell c v:=fun ⟨o,e,d⟩=>⟨o,hsb _ o e,d⟩
 refine⟨⟨I.ok.mod,S.kind,I.ok.glob,I.ok.blt,le_refl _,fun x y c e1 e2=>I.ok.inj x y c (cl e1) (cl e2),fun x hx=>?_,fun x c hf _=>absurd hf (by simp[Cx.comp]),I.ok.hd,I.ok.frames,.inl rfl,fun b hb=>?_,I.bs,le_trans I.ok.bsz I.sz,fun b o e hb=>?_,fun b hb hs=>?_,I.stack,I.stkFree⟩,
  I.os.symm ▸ rfl,I.bare,Un.kept hsb,⟨_,hn,fun i x v e1 e2 e3=>?_⟩,fun x c e=>?_,hH,fun x c e=>I.freeC x c (cl e),fun p hp=>absurd (show p∈([]:List (Addr×Obj)) from hp) (by simp),I.hok.kept hsb,hl⟩
 ·have hx:(relabel scope X.env).names.lookup x=some .cell∨(relabel scope X.env).names.lookup x=some .free:=hx
  exact jf (.inl (vp hx S.nocell))
 ·have hb:b∈fp:=hb
  refine⟨ne_of_lt (hlt b hb),fun x c e=>(hfp b hb).2.2.2.2.1 x c (cl e)⟩
 ·have hb:b∈fp:=hb
  rcases (hfp b hb).2.2.2.1 with z|z
  ·exact I.ok.noex b o e z
  ·exact absurd (lt_of_lt_of_le (Heap.lt_size e) (le_trans I.ok.bsz z)) (lt_irrefl _)
 ·have hb:b∈fp:=hb
  obtain⟨_,f1,f2,_⟩:=hfp b hb
  rcases mem_cons.mp (I.stkSub b hs) with z|z
  ·exact f1 z
  ·exact f2 z
 ·obtain⟨x',j,e4,e5,e6,e9⟩:=hσ i v e2
  have hy:=PySem.mem_of_lookup e9
  have e1':N'[i]?=some x:=e1
  rw[e1'] at e4;cases e4
  have kd:=S.free _ hy rfl
  obtain⟨m,hm,hl⟩:=I.loc
  obtain⟨u,ru,lk⟩:=hl j x v e5 e6 (kd.elim (fun z=>.inr (.inl z)) fun z=>.inr (.inr z))
  refine⟨u,ru,?_⟩
  rcases lk with ⟨z,_⟩|⟨z,c,hc,hcell⟩
  ·rcases kd with k|k <;> rw[k] at z <;> cases z
  ·obtain⟨c',hc'⟩:=jf (env:=X.env) (names:=scope.names) (cs:=[]) (x:=x) (.inl ⟨_,hy,rfl,rfl⟩)
   have:=cl hc'
   rw[hc] at this;cases this
   have e3':(relabel scope X.env).names.lookup x=some .local∨(relabel scope X.env).names.lookup x=some .cell∨(relabel scope X.env).names.lookup x=some .free:=e3
   rcases e3' with q|q|q
   ·exact absurd q (ur e9)
   ·exact .inr ⟨.inl q,c,hc',kept hcell⟩
   ·exact .inr ⟨.inr q,c,hc',kept hcell⟩
 ·obtain⟨v,z⟩:=I.cell x c (cl e)
  exact⟨v,kept z⟩
end
theorem Gd{prog:Program}{w:World}{A:Around}{R:Result→Shared→Prop}{s:Shared}{elt target iter:Expr}{ifs:List Expr}{scope:Scope}{pos:Pos}{it acc:Value}{env:Env}(I:Nat→Shared→Prop)
  (turn:∀n s,I n s→wpAny (model prog w) A (pyNext it) (fun r s₁=>match r with
   |none=>R (.ok .next) s₁
   |some v=>wpAny (model prog w) A (letOwnedTupleGo target it v) (fun _ s0=>wpAny (model prog w) A (assign target env v) (fun _ s₂=>
     wpAny (model prog w) A (forIn ifs true fun c r=>if r=true then do let ok ← isTrue c env (eval c env);pure (ForInStep.yield ok) else pure (ForInStep.yield r)) (fun ok s₃=>
      if ok=true then wpAny (model prog w) A (eval elt env) (fun x s₄=>
       wpAny (model prog w) A (call (.builtin "list.append") [acc,x]) (fun _ s₅=>∃m,m<n∧I m s₅) (fun _ _=>False) s₄) (fun _ _=>False) s₃
      else ∃m,m<n∧I m s₃) (fun _ _=>False) s₂) (fun _ _=>False) s0) (fun _ _=>False) s₁) (fun _ _=>False) s)
  (n:Nat) (h:I n s) :
  codeAny (model prog w) A (.compLoop (.ListComp elt [⟨target,iter,ifs,0⟩] scope pos) 0 it acc env) R s:=by
 refine codeAny_loop rfl I (fun n s hI=>?_) n h
 show wpAny _ A ((compTurn (.ListComp elt [⟨target,iter,ifs,0⟩] scope pos) 0 it acc env).onRaise (fun x=>do noteFrame x env;theTreesLotGoes x)) _ _ s
 refine wpAny_noted ?_
 rw[compTurn_list]
 refine wpAny_bind (wpAny_standAt (wpAny_bind (wpAny_mono (turn n s hI) (fun r s₁ h₁=>?_) fun _ _ h'=>h'.elim)))
 cases r with
 |none=>exact wpAny_pure h₁
 |some v=>
  refine wpAny_bind (wpAny_mono h₁ (fun _ s0 h0=>?_) fun _ _ h'=>h'.elim)
  refine wpAny_bind (wpAny_mono h0 (fun _ s₂ h₂=>wpAny_bind (wpAny_mono h₂ (fun ok s₃ h₃=>?_) fun _ _ h'=>h'.elim)) fun _ _ h'=>h'.elim)
  cases ok with
  |false=>exact wpAny_pure ⟨rfl,h₃⟩
  |true=>
   exact wpAny_bind (wpAny_bind (wpAny_mono h₃ (fun x s₄ h₄=>wpAny_bind (wpAny_mono h₄ (fun _ s₅ h₅=>wpAny_pure (wpAny_pure ⟨rfl,h₅⟩)) fun _ _ h'=>h'.elim)) fun _ _ h'=>h'.elim))
theorem Mu{M:Model}{A:Around}{env:Env}{Q:Bool→Shared→Prop}{E:Value→Shared→Prop}{s:Shared}(h:Q true s) :
  wpAny M A (forIn ([]:List Expr) true fun c r=>if r=true then do let ok ← isTrue c env (eval c env);pure (ForInStep.yield ok) else pure (ForInStep.yield r)) Q E s:=wpAny_pure h
theorem Mo{M:Model}{A:Around}{env:Env}{Q:Bool→Shared→Prop}{E:Value→Shared→Prop}{s:Shared}{c:Expr}(h:wpAny M A (isTrue c env (eval c env)) Q E s) :
  wpAny M A (forIn [c] true fun c r=>if r=true then do let ok ← isTrue c env (eval c env);pure (ForInStep.yield ok) else pure (ForInStep.yield r)) Q E s:=by
 rw[List.forIn_cons]
 simp only[if_true]
 refine wpAny_bind (wpAny_bind (wpAny_mono h (fun b s' q=>wpAny_pure ?_) fun _ _ e=>e))
 exact wpAny_pure q
noncomputable def PTs(Y:Cx)(ifs:List Expr)(t:TT):Prop:=∀(pins:List (Addr×Obj)) (s:Shared) (σ:St) (H:Hp) (Q:Bool→Hp→Prop),Inv Y pins σ H s→t σ H Q →
 wpAny (model Y.prog Y.w) Y.A (forIn ifs true fun c r=>if r=true then do let ok ← isTrue c Y.env (eval c Y.env);pure (ForInStep.yield ok) else pure (ForInStep.yield r)) (TP Y pins σ Q) Y.xe s
theorem Lw{Y:Cx}:PTs Y [] (fun _ H Q=>Q true H):=fun pins s σ H Q I h=>Mu ⟨H,I,h⟩
theorem Lv{Y:Cx}{c:Expr}{t:TT}(h:PT Y c t):PTs Y [c] t:=fun pins s σ H Q I q=>Mo (h pins s σ H Q I q)
noncomputable def GD(s0:St→St)(wi:TI)(g:TG)(ti:TT)(te:TE):TE:=fun σ H Q=>wi σ H fun J H1=>∀acc,H1 acc=none→∃W:Nat→Nat→St→Hp→Prop,(∃m,W 0 m (s0 σ) (upd H1 acc (.lst [])))∧∀i m σ1 H,W i m σ1 H →
 (J.stop i H∧Q (.ref acc) H)∨(J.go i H∧∀x H',J.yld i H x H'→g x σ1 H' fun σ2 H2=>ti σ2 H2 fun b H3=>
  if b=true then te σ2 H3 fun y H4=>∃ys,H4 acc=some (.lst ys)∧ys.length<sizeLine∧∃m',m'<m∧W (i+1) m' σ2 (upd H4 acc (.lst (ys++[y]))) else ∃m',m'<m∧W (i+1) m' σ2 H3)
section
variable{X:Cx}{scope:Scope}{N':List Str}{tg iter elt:Expr}{ifs:List Expr}{pos:Pos}{wi:TI}{g:TG}{ti:TT}{te:TE}{s0:St→St}
theorem zc5{P:Program}{w:World}{H:Hp}{h h':Heap}{C:Addr}(ok:HOk P w H h)(hC:H C=none)(k:∀b o,b≠C→h.get? b=some o→h'.get? b=some o):HOk P w H h':=fun b u e=>by
 refine(ok b u e).stay (fun c v hc q=>k c v ?_ q) (fun _ q=>q) fun _ _ q=>q
 rintro rfl
 rcases hc with z|z
 ·subst z;rw[hC] at e;cases e
 ·rw[hC] at z;cases z
theorem Xx{pins:List (Addr×Obj)}{σ:St}{H:Hp}{s:Shared}{QQ:V→Hp→Prop}{J:It}{fp:List Addr}{it acc:Addr}{tn:Nat→Heap→Prop}{RR:Addr→Result→Shared→Prop}{E:Value→Shared→Prop}{W:Nat→Nat→St→Hp→Prop}{m0:Nat}
  (S:xX X scope) (hc:X.calm=true) (hl:(s0 σ).length=N'.length)
  (hσ:∀(i:Nat) (v:V),(s0 σ)[i]?=some (some v)→∃(x:Str) (j:Nat),N'[i]?=some x∧X.N[j]?=some x∧σ[j]?=some (some v)∧scope.names.lookup x=some .free)
  (hg:∀s H C fp,PG (X.comp scope N' s H C fp) tg g) (ht:∀s H C fp,PTs (X.comp scope N' s H C fp) ifs ti) (he:∀s H C fp,PE (X.comp scope N' s H C fp) elt te)
  (I:Inv X pins σ H s) (T:Vt X.prog X.w X.K tg J fp it tn) (st:tn 0 s.heap) (hfp:∀b∈fp,XI X pins H b) (hlt:∀b∈fp,b<s.heap.objs.size) (hacc:acc<s.heap.objs.size)
  (w0:W 0 m0 (s0 σ) H) (turn:∀i m σ1 H,W i m σ1 H→(J.stop i H∧QQ (.ref acc) H)∨(J.go i H∧∀x H',J.yld i H x H'→g x σ1 H' fun σ2 H2=>ti σ2 H2 fun b H3=>
    if b=true then te σ2 H3 fun y H4=>∃ys,H4 acc=some (.lst ys)∧ys.length<sizeLine∧∃m',m'<m∧W (i+1) m' σ2 (upd H4 acc (.lst (ys++[y]))) else ∃m',m'<m∧W (i+1) m' σ2 H3))
  (hRR:∀s',(∃m,s'.heap.Ns s.heap.objs.size m)→(∀h',Heap.SameBut s.heap.objs.size s'.heap h'→EP X pins σ (fun v H'=>QQ v H'∧H' s.heap.objs.size=none) (.ref acc) { s' with heap:=h' })→RR s.heap.objs.size (.ok .next) s') :
  wpAny (model X.prog X.w) X.A (newFunctionEnv scope X.env.globals (wy scope X.env) [] X.env.qual none .none (some X.env)) (fun cenv s₄=>
   codeAny (model X.prog X.w) X.A (.compStart (.ListComp elt [⟨tg,iter,ifs,0⟩] scope pos) 0 (.ref it) (.ref acc) { cenv with scope:=relabel scope X.env }) (RR cenv.locals) s₄) E s:=by
 refine wpAny_newFunctionEnv S.nocell (by intro y hy;simp at hy) (fun h1 hns hsb=>?_) S.kind
 have keep3:∀b o,s.heap.get? b=some o→h1.get? b=some o:=fun b o e=>hsb.extBut b o (ne_of_lt (Heap.lt_size e)) (get?_push_of_some _ e)
 have Y0:Inv (X.comp scope N' s H s.heap.objs.size fp) [] (s0 σ) H { s with heap:=h1,toks:=s.toks+([]:List (Str×Value)).length }:=Tq S I hfp hlt hns keep3 hl hσ
 have fpY:∀{H':Hp},(∀b∈fp,H' b=none)→∀b∈fp,XI (X.comp scope N' s H s.heap.objs.size fp) [] H' b:=fun {H'} hn b hb=>by
  obtain⟨f0,f1,f2,f3,f4,f5⟩:=hfp b hb
  refine⟨hn b hb,ne_of_lt (hlt b hb),fun z=>?_,.inl hb,fun x c e=>f4 x c (ZQ S I.ok e),fun p hp=>absurd (show p∈([]:List (Addr×Obj)) from hp) (by simp)⟩
  rcases mem_cons.mp (I.stkSub b z) with q|q
  ·exact f1 q
  ·exact f2 q
 have st1:tn 0 h1:=T.keep _ _ _ st fun b hb o e=>keep3 b o e
 have loop:∀s3:Shared,s3 = { s with heap:=h1,toks:=s.toks+([]:List (Str×Value)).length } →
   codeAny (model X.prog X.w) X.A (.compLoop (.ListComp elt [⟨tg,iter,ifs,0⟩] scope pos) 0 (.ref it) (.ref acc) (X.comp scope N' s H s.heap.objs.size fp).env) (RR s.heap.objs.size) s3:=by
  rintro s3 rfl
  refine Gd (fun n s'=>∃i σ' H',Inv (X.comp scope N' s H s.heap.objs.size fp) [] σ' H' s'∧tn i s'.heap∧(∀b∈fp,H' b=none)∧W i n σ' H') ?_ m0 ⟨0,s0 σ,H,Y0,st1,fun b hb=>(hfp b hb).1,w0⟩
  rintro n s4 ⟨i,σ4,H4,I4,st4,fr4,w4⟩
  rcases turn i n σ4 H4 w4 with ⟨stop,qn⟩|⟨go,step⟩
  ·refine thn (T.done (X.comp scope N' s H s.heap.objs.size fp) rfl rfl rfl hc i [] s4 σ4 H4 _ I4 (fpY fr4) st4 stop) fun r s5 z_=>?_
   obtain⟨hr,I5⟩:=z_
   subst hr
   obtain⟨m5,n5,_⟩:=id I5.loc
   have hC:H4 s.heap.objs.size=none:=I5.free
   refine hRR s5 ⟨m5,n5⟩ fun h' sb=>⟨.ref acc,H4,?_,rfl,qn,hC⟩
   refine I.call' (s':={ s5 with heap:=h' }) (ch:=fp) I5.os ⟨fun b o e n hb hx=>?_,fun b o e n hb hx=>?_,fun b o e n hx=>I5.base.free b o e n hx,fun b o e hx=>?_,I5.base.tups,I5.base.frzs,I5.base.tbls⟩ (zc5 I5.hok hC fun b o hb e=>(sb.2 b hb).trans e) I5.bare fun b hb=>?_
   ·exact(sb.2 b (ne_of_lt (Heap.lt_size e))).trans (I5.base.keep b o e n hb hx)
   ·obtain⟨sl,q⟩:=I5.base.slot b o e n hb hx
    exact⟨sl,(sb.2 b (ne_of_lt (Heap.lt_size e))).trans q⟩
   ·obtain⟨o',q⟩:=I5.base.there b o e hx
    exact⟨o',(sb.2 b (ne_of_lt (Heap.lt_size e))).trans q⟩
   ·obtain⟨f0,f1,f2,f3,f4,f5⟩:=hfp b hb
    exact⟨f3,f1,f4,f5⟩
  ·refine thn (T.item (X.comp scope N' s H s.heap.objs.size fp) rfl rfl rfl hc i [] s4 σ4 H4 _ I4 (fpY fr4) st4 go) fun r s5 z_=>?_
   obtain⟨u,hr,h5⟩:=z_
   subst hr
   refine thn h5 fun _ s6 z_=>?_
   obtain⟨x,H6,I6,r6,y6,st6,fr6⟩:=z_
   have I6':=I6.pinned (fpY fr6) (T.obj _ _ st6)
   refine thn (hg _ _ _ _ _ s6 σ4 H6 x u _ I6' r6 (step x H6 y6)) fun _ s7 z_=>?_
   obtain⟨σ7,H7,I7,q7⟩:=z_
   refine thn (ht _ _ _ _ _ s7 σ7 H7 _ I7 q7) fun ok s8 z_=>?_
   obtain⟨H8,I8,q8⟩:=z_
   have again:∀{s9:Shared} {H9:Hp} {m':Nat},Inv (X.comp scope N' s H s.heap.objs.size fp) ([]++YN fp s6.heap) σ7 H9 s9→m'<n→W (i+1) m' σ7 H9→∃m,m<n∧∃i σ' H',Inv (X.comp scope N' s H s.heap.objs.size fp) [] σ' H' s9∧tn i s9.heap∧(∀b∈fp,H' b=none)∧W i m σ' H':=fun {s9 H9 m'} I9 hm w9=>by
    refine⟨m',hm,i+1,σ7,H9,I9.unpinned,T.keep _ _ _ st6 fun b hb o e=>(I9.pin (b,o) (mem_append_right _ (mem_append_right _ (uy hb e)))).1,fun b hb=>?_,w9⟩
    obtain⟨o,e,d⟩:=T.obj _ _ st6 b hb
    exact(I9.pin (b,o) (mem_append_right _ (mem_append_right _ (uy hb e)))).2.1
   cases ok with
   |false=>
    rw[if_neg (by simp)] at q8
    obtain⟨m',hm,w8⟩:=q8
    exact again I8 hm w8
   |true=>
    rw[if_pos rfl] at q8
    refine thn (he _ _ _ _ _ s8 σ7 H8 _ I8 q8) fun y s9 z_=>?_
    obtain⟨z,H9,I9,r9,ys,e9,l9,m',hm,w9⟩:=z_
    refine thn (Wk _ s9 σ7 H9 (.ref acc) [z] (.ref acc) [y] (fun _ H'=>H'=upd H9 acc (.lst (ys++[z]))) I9 rfl (.cons r9 .nil) ⟨acc,ys,z,rfl,rfl,e9,l9,rfl⟩) fun _ s10 z_=>?_
    obtain⟨_,H10,I10,_,e10⟩:=z_
    subst e10
    exact again I10 hm w9
 exact codeAny_compStart_list (loop _ rfl) (T.self _ 0 _ _ _ st1 (loop _ rfl))
end
section
variable{X:Cx}{scope:Scope}{N':List Str}{tg iter elt:Expr}{ifs:List Expr}{pos:Pos}{wi:TI}{g:TG}{ti:TT}{te:TE}{s0:St→St}
theorem zh9{pins:List (Addr×Obj)}{σ:St}{H:Hp}{s:Shared}{J:It}{fp:List Addr}{it:Addr}{tn:Nat→Heap→Prop}(T:Vt X.prog X.w X.K tg J fp it tn)(st:tn 0 s.heap):∀b∈fp,b<s.heap.objs.size:=fun b hb=>by
 obtain⟨o,e,_⟩:=T.obj 0 _ st b hb
 exact Heap.lt_size e
theorem LH(S:xX X scope)(hc:X.calm=true)(hl:∀σ:St,σ.length=X.N.length→(s0 σ).length=N'.length)
  (hσ:∀(σ:St) (i:Nat) (v:V),(s0 σ)[i]?=some (some v)→∃(x:Str) (j:Nat),N'[i]?=some x∧X.N[j]?=some x∧σ[j]?=some (some v)∧scope.names.lookup x=some .free)
  (hi:PI X tg iter wi) (hg:∀s H C fp,PG (X.comp scope N' s H C fp) tg g) (ht:∀s H C fp,PTs (X.comp scope N' s H C fp) ifs ti) (he:∀s H C fp,PE (X.comp scope N' s H C fp) elt te)
  (hs:∀x,foldedSetIterable iter X.env x=pure x:=by intro _;rfl):PE X (.ListComp elt [⟨tg,iter,ifs,0⟩] scope pos) (GD s0 wi g ti te):=by
 intro pins s σ H Q I h
 rw[eval_ListComp]
 have hclos:=vZ (scope:=scope) (env:=X.env) fun y hy hk=>Option.isSome_iff_exists.mpr (I.ok.has y.1 (S.free y hy hk))
 refine wpAny_comprehension_free (use:=none) rfl hs hclos S.kind S.locs (thn (hi pins s σ H _ I h) fun x s1 h1=>thn h1 fun itv s2 h2=>?_)
 obtain⟨it,fp,tn,J,H2,e,I2,T,st2,f2,hw⟩:=h2
 subst e
 have hf:H2 s2.heap.objs.size=none:=I2.hok.fresh (le_refl _)
 obtain⟨W,⟨m0,w0⟩,turn⟩:=hw _ hf
 have hlt:=zh9 (pins:=pins) (σ:=σ) (H:=H2) T st2
 refine wpAny_newObj_type ?_
 have I3:Inv X pins σ (upd H2 s2.heap.objs.size (.lst [])) { s2 with heap:=s2.heap.push { cls:=.type "list", dict:=none,data:=.seq ([]:List Value).toArray } }:=
  I2.laid (t':=s2.toks) (o:=.lst []) (fun b u e=>get?_push_of_some _ e) (le_refl _) ⟨zero_le _,[],0,.nil,Heap.get?_push_size _ rfl⟩
 have hsz:s2.heap.objs.size<(s2.heap.push { cls:=.type "list", dict:=none,data:=.seq ([]:List Value).toArray }).objs.size:=by rw[Heap.size_push];exact lt_succ_self _
 refine Xx (s0:=s0) (QQ:=Q) (W:=W) (m0:=m0) S hc (hl σ I2.len) (hσ σ) hg ht he I3 T (T.keep _ _ _ st2 fun b hb o e=>get?_push_of_some _ e) (fun b hb=>?_) (fun b hb=>Nat.lt_trans (hlt b hb) hsz) hsz w0 turn fun s' ⟨m,hn⟩ hq=>⟨m,hn,fun h' sb=>let ⟨v,H',I',r',q',_⟩:=hq h' sb;⟨v,H',I',r',q'⟩⟩
 obtain⟨f0,f1,f2,f3⟩:=f2 b hb
 exact⟨by rw[zA (ne_of_lt (hlt b hb))];exact f0,f1,f2,f3⟩
theorem JD{i:Nat}{y:Str}{py spos:Pos}(hN:X.N.Nodup)(hiN:X.N[i]?=some y)(hy:X.env.scope.names.lookup y=some .local)
  (hsw:swapsWith (.ListComp elt [⟨tg,iter,ifs,0⟩] scope pos) (some (.Name y py)) spos.line X.env=pure true)
  (S:xX X scope) (hc:X.calm=true) (hl:∀σ:St,σ.length=X.N.length→(s0 σ).length=N'.length)
  (hσ:∀(σ:St) (i:Nat) (v:V),(s0 σ)[i]?=some (some v)→∃(x:Str) (j:Nat),N'[i]?=some x∧X.N[j]?=some x∧σ[j]?=some (some v)∧scope.names.lookup x=some .free)
  (hi:PI X tg iter wi) (hg:∀s H C fp,PG (X.comp scope N' s H C fp) tg g) (ht:∀s H C fp,PTs (X.comp scope N' s H C fp) ifs ti) (he:∀s H C fp,PE (X.comp scope N' s H C fp) elt te)
  (hs:∀x,foldedSetIterable iter X.env x=pure x:=by intro _;rfl):PS X (.Assign [.Name y py] (.ListComp elt [⟨tg,iter,ifs,0⟩] scope pos) spos) (zj0 (GD s0 wi g ti te) (WF i)):=by
 intro pins s σ H D I h
 rw[exec_Assign_Name_used _ _ _ _ hsw]
 refine wpAny_bind (wpAny_standAt (wpAny_bind ?_))
 show wpAny _ X.A (do let _ ← comprehension (.ListComp elt [⟨tg,iter,ifs,0⟩] scope pos) scope X.env _ (newList []) false (eval iter X.env) (some (assign (.Name y py) X.env))) _ _ s
 have hclos:=vZ (scope:=scope) (env:=X.env) fun y hy hk=>Option.isSome_iff_exists.mpr (I.ok.has y.1 (S.free y hy hk))
 refine wpAny_bind (wpAny_mono (wpAny_comprehension_free (use:=some (assign (.Name y py) X.env)) (Q:=fun _ s'=>SP X pins D .next s') rfl hs hclos S.kind S.locs
  (thn (hi pins s σ H _ I h) fun x s1 h1=>thn h1 fun itv s2 h2=>?_)) (fun _ s' hq=>wpAny_pure (wpAny_pure hq)) fun _ _ e=>e)
 obtain⟨it,fp,tn,J,H2,e,I2,T,st2,f2,hw⟩:=h2
 subst e
 have hf:H2 s2.heap.objs.size=none:=I2.hok.fresh (le_refl _)
 obtain⟨W,⟨m0,w0⟩,turn⟩:=hw _ hf
 have hlt:=zh9 (pins:=pins) (σ:=σ) (H:=H2) T st2
 refine wpAny_newObj_type ?_
 have I3:Inv X pins σ (upd H2 s2.heap.objs.size (.lst [])) { s2 with heap:=s2.heap.push { cls:=.type "list", dict:=none,data:=.seq ([]:List Value).toArray } }:=
  I2.laid (t':=s2.toks) (o:=.lst []) (fun b u e=>get?_push_of_some _ e) (le_refl _) ⟨zero_le _,[],0,.nil,Heap.get?_push_size _ rfl⟩
 have hsz:s2.heap.objs.size<(s2.heap.push { cls:=.type "list", dict:=none,data:=.seq ([]:List Value).toArray }).objs.size:=by rw[Heap.size_push];exact lt_succ_self _
 refine Xx (s0:=s0) (QQ:=fun x H1=>WF i x σ H1 D.nx) (W:=W) (m0:=m0) S hc (hl σ I2.len) (hσ σ) hg ht he I3 T (T.keep _ _ _ st2 fun b hb o e=>get?_push_of_some _ e) (fun b hb=>?_) (fun b hb=>Nat.lt_trans (hlt b hb) hsz) hsz w0 turn fun s' ⟨m,hn⟩ hq=>?_
 ·obtain⟨f0,f1,f2,f3⟩:=f2 b hb
  exact⟨by rw[zA (ne_of_lt (hlt b hb))];exact f0,f1,f2,f3⟩
 ·obtain⟨v,H5,I5,r5,q5,hC⟩:=hq s'.heap (.refl ..)
  have I5:Inv X pins σ H5 s':=I5
  show wpAny _ X.A (assign (.Name y py) X.env _) _ _ s'
  refine wpAny_assign_Name (X8 I5 hN hiN (.inl hy) r5 (fun s6 I6 z_=>?_) (.inr hy))
  obtain⟨a,sb,ha⟩:=z_
  have lt3:=I3.lt
  have ca:∀x c,X.env.cells.lookup x=some c→c<(s2.heap.push { cls:=.type "list", dict:=none,data:=.seq ([]:List Value).toArray }).objs.size:=fun x c e=>by
   obtain⟨v,z⟩:=I3.cell x c e
   exact z.lt
  have hne:(s2.heap.push { cls:=.type "list", dict:=none,data:=.seq ([]:List Value).toArray }).objs.size≠a:=by
   rcases ha with rfl|ha
   ·exact ne_of_gt lt3
   ·exact ne_of_gt (ca _ _ ha)
  refine⟨m,hn.sameBut sb hne,fun h' sb'=>⟨_,H5,?_,q5⟩⟩
  refine I6.turned (t':=s6.toks) (it:=(s2.heap.push { cls:=.type "list", dict:=none,data:=.seq ([]:List Value).toArray }).objs.size) (fun b o hb e=>(sb'.2 b hb).trans e) hC (ne_of_gt lt3) (.inr I3.sz) (fun x c e=>ne_of_lt (ca x c e)) fun p hp=>?_
  exact ne_of_lt (Heap.lt_size (I3.pin p hp).1)
end
noncomputable def vq(set:FG)(ft:FT)(fe:FE)(τ:DS):List D→Rs (List D)
 |[]=>.ok []
 |d::r=>match set d τ with
  |.ok τ1=>match ft τ1 with
   |.ok true=>match fe τ1 with
    |.ok x=>(vq set ft fe τ r).bind fun xs=>.ok (x::xs)
    |_=>.no
   |.ok false=>vq set ft fe τ r
   |_=>.no
  |_=>.no
noncomputable def jZ:Option (Option Sl)→Option Sl
 | some (some (.val d))=>some (.val d)
 | some (some (.obr c fs))=>some (.obr c fs)
 | some (some (.obj _ c fs))=>some (.obr c fs)
 |_=>none
noncomputable def vN(k:Nat)(idx:List Nat)(τ:DS):DS:=List.replicate k none++idx.map fun j=>jZ τ[j]?
noncomputable def uo(k:Nat)(idx:List Nat)(σ:St):St:=List.replicate k none++idx.map fun j=>(σ[j]?).join
noncomputable def xa(k:Nat)(idx:List Nat)(fi:FA)(set:FG)(ft:FT)(fe:FE):FA:=fun τ=>(fi τ).bind fun ds=>match vq set ft fe (vN k idx τ) ds with
 |.ok xs=>if xs.length≤sizeLine then .ok xs else .no
 |_=>.no
noncomputable def jD(τ:DS):Prop:=(∀(i:Nat) es,τ[i]?≠some (some (.own es)))∧∀(i n:Nat) c fs,τ[i]?≠some (some (.obj n c fs))
structure XH(set:FG):Prop where
 ov:∀d e τ τ1,set e τ=.ok τ1→set d τ1=set d τ
 no:∀d τ τ1,set d τ=.ok τ1→jD τ→jD τ1
theorem vx{τ:DS}{i:Nat}{d:D}(h:jD τ):jD (τ.set i (some (.val d))):=⟨fun j es e=>by
 by_cases hij:i=j
 ·subst hij
  rw[getElem?_set] at e
  simp only[if_true] at e
  split at e <;> cases e
 ·rw[getElem?_set_ne hij] at e;exact h.1 j es e,fun j n c fs e=>h.2 j n c fs (yO (s:=some (.val d)) rfl rfl e).2⟩
theorem wG(i:Nat):XH (gNm i):=⟨fun d e τ τ1 h=>by
 unfold gNm at h ⊢;cases h;rw[set_set],fun d τ τ1 h n=>by unfold gNm at h;cases h;exact vx n⟩
theorem VN(i j:Nat):XH (gPr i j):=⟨fun d e τ τ1 h=>by
 unfold gPr at h ⊢
 cases q:YV e with
 |none=>rw[q] at h;cases h
 |some xy=>
  obtain⟨x,y⟩:=xy
  rw[q] at h;cases h
  cases q2:YV d with
  |none=>rfl
  |some zw=>
   obtain⟨z,w⟩:=zw
   by_cases hij:i=j
   ·subst hij;simp[set_set]
   ·have e1:((τ.set i (some (.val x))).set j (some (.val y))).set i (some (.val z))=(τ.set i (some (.val z))).set j (some (.val y)):=by
     rw[List.set_comm _ _ (Ne.symm hij),set_set]
    simp only
    rw[e1,set_set]
    , fun d τ τ1 h n=>by
 unfold gPr at h
 cases q:YV d with
 |none=>rw[q] at h;cases h
 |some xy=>
  obtain⟨x,y⟩:=xy
  rw[q] at h;cases h
  exact vx (vx n)⟩
theorem uw(k:Nat)(idx:List Nat)(τ:DS):∀(i:Nat) es,(vN k idx τ)[i]?≠some (some (.own es)):=fun i es e=>by
 unfold vN at e
 by_cases hi:i<k
 ·rw[getElem?_append_left (by simpa using hi),getElem?_replicate] at e
  simp[hi] at e
 ·rw[getElem?_append_right (by simpa using hi),getElem?_map] at e
  cases q:idx[i-(List.replicate k (none:Option Sl)).length]? with
  |none=>rw[q] at e;cases e
  |some j=>
   rw[q] at e
   simp only[Option.map_some,Option.some.injEq] at e
   unfold jZ at e
   split at e <;> cases e
theorem jR(k:Nat)(idx:List Nat)(τ:DS):∀(i n:Nat) c fs,(vN k idx τ)[i]?≠some (some (.obj n c fs)):=fun i n c fs e=>by
 unfold vN at e
 by_cases hi:i<k
 ·rw[getElem?_append_left (by simpa using hi),getElem?_replicate] at e
  simp[hi] at e
 ·rw[getElem?_append_right (by simpa using hi),getElem?_map] at e
  cases q:idx[i-(List.replicate k (none:Option Sl)).length]? with
  |none=>rw[q] at e;cases e
  |some j=>
   rw[q] at e
   simp only[Option.map_some,Option.some.injEq] at e
   unfold jZ at e
   split at e <;> cases e
theorem ux(k:Nat)(idx:List Nat)(τ:DS):jD (vN k idx τ):=⟨uw k idx τ,jR k idx τ⟩
theorem Mr{k:Nat}{idx:List Nat}{τ:DS}{i:Nat}{c:Str}{fs:List (Str×D)}(e:(vN k idx τ)[i]?=some (some (.obr c fs))):∃j,k≤i∧idx[i-k]?=some j∧((∃n,τ[j]?=some (some (.obj n c fs)))∨τ[j]?=some (some (.obr c fs))):=by
 unfold vN at e
 by_cases hi:i<k
 ·rw[getElem?_append_left (by simpa using hi),getElem?_replicate] at e
  simp[hi] at e
 ·rw[getElem?_append_right (by simpa using hi),getElem?_map] at e
  simp only[List.length_replicate] at e
  cases q:idx[i-k]? with
  |none=>rw[q] at e;cases e
  |some j=>
   rw[q] at e
   simp only[Option.map_some,Option.some.injEq] at e
   unfold jZ at e
   split at e <;> cases e
   ·exact⟨j,by lia,rfl,.inr (by assumption)⟩
   ·exact⟨j,by lia,rfl,.inl ⟨_,by assumption⟩⟩
theorem ObsOk.read{K:Frag}{F H:Hp}{τ:DS}{σ:St}(n:jD τ)(h:∀(i:Nat) (c:Str) (fs:List (Str×D)),τ[i]?=some (some (.obr c fs))→∃a C dx vs,σ[i]?=some (some (.ref a))∧H a=some (.ins C dx vs)∧nsIn K mainGlobals c=some (some (.ref C))∧Flds K F H c fs vs):ObsOk K F τ σ H:=
 ⟨fun i m c fs h=>absurd h (n.2 i m c fs),fun i j m c c' fs a _ h=>absurd h (n.2 i m c fs),h,fun i j m c c' fs a a' l _ h=>absurd h (n.2 i m c fs),fun i j c ds a l _ h=>absurd h (n.1 j ds)⟩
theorem RV.free_upd{K:Frag}{F H:Hp}{τ:DS}{σ:St}{p:Addr}{o:HO}(R:RV K F τ σ H)(n:jD τ)(hp:F p=none)(hl:H p=none∨∃vs,H p=some (.lst vs))(hq:∀(i:Nat) (c:Str) (a:Addr),ObS τ[i]? c→σ[i]?=some (some (.ref a))→p∉Lof H c a)(ho:∀a,o≠.own a:=by intro _ h;cases h):RV K F τ σ (upd H p o):=
 ⟨fun b u e=>by
  have:b≠p:=fun z=>by subst z;rw[hp] at e;cases e
  rw[zA this];exact R.fh b u e,R.len,R.val,fun i es e=>absurd e (n.1 i es),fun i j ds es a _ h=>absurd h (n.1 i ds),R.tt.step (fun _ _ e=>.inl e) (fun b o e n=>by
  have:b≠p:=fun z=>by
   subst z
   rcases hl with z|⟨vs,z⟩
   ·rw[z] at e;cases e
   ·rw[z] at e;cases e;exact n _ rfl
  rw[zA this];exact e) (ZI ho),R.ob.updL hl hq⟩
theorem RS.apart{K:Frag}{B Z F H:Hp}{τ:DS}{σ:St}{p:Addr}(R:RS K B Z F τ σ H)(n:jD τ)(hp:B p=none):∀(i:Nat) (c:Str) (a:Addr),ObS τ[i]? c→σ[i]?=some (some (.ref a))→p∉Lof H c a:=fun i c a h e hm=>by
 rcases h with ⟨m,fs,h⟩|⟨fs,h⟩
 ·exact n.2 i m c fs h
 ·obtain⟨C,dx,vs,h1,h2⟩:=R.ro i c fs a h e
  rw[Lof.ins (R.bh _ _ h1)] at hm
  obtain⟨ws,h3⟩:=h2 p hm
  rw[hp] at h3;cases h3
theorem RS.free_upd{K:Frag}{B Z F H:Hp}{τ:DS}{σ:St}{p:Addr}{vs:List V}(R:RS K B Z F τ σ H)(n:jD τ)(hb:B p=none)(hp:F p=none)(hl:H p=none∨∃vs,H p=some (.lst vs)):RS K B Z F τ σ (upd H p (.lst vs)):=
 ⟨R.rv.free_upd n hp hl (R.apart n hb),fun a o e=>by
  have:a≠p:=fun z=>by subst z;rw[hb] at e;cases e
  rw[zA this];exact R.bh a o e,R.zf,R.nb,fun i ds a h=>absurd h (n.1 i ds),fun i m c fs a h=>absurd h (n.2 i m c fs),fun a0 dx h1 h2 i m c fs h=>absurd h (n.2 i (m+1) c fs),R.ro⟩
theorem WZ{K:Frag}{F H:Hp}{τ:DS}{σ:St}(k:Nat)(idx:List Nat)(R:RV K F τ σ H):RV K F (vN k idx τ) (uo k idx σ) H:=by
 refine⟨R.fh,by simp[vN,uo],fun i d e=>?_,fun i es e=>absurd e (uw k idx τ i es),fun i j ds es a _ h=>absurd h (uw k idx τ i ds),R.tt,ObsOk.read (ux k idx τ) fun i c fs e=>?_⟩
 rotate_left
 ·obtain⟨j,hk,hj,h⟩:=Mr e
  have es:∀v,σ[j]?=some (some v)→(uo k idx σ)[i]?=some (some v):=fun v h=>by
   unfold uo
   rw[getElem?_append_right (by simpa using hk),getElem?_map]
   simp[hj,h]
  rcases h with ⟨n,h⟩|h
  ·obtain⟨a,h1,C,dx,vs,h2,_,h4,h5,_⟩:=R.ob.at_ j n c fs h
   exact⟨a,C,dx,vs,es _ h1,h2,h4,h5⟩
  ·obtain⟨a,C,dx,vs,h1,h2,h4,h5⟩:=R.ob.rd j c fs h
   exact⟨a,C,dx,vs,es _ h1,h2,h4,h5⟩
 unfold vN at e
 unfold uo
 by_cases hi:i<k
 ·rw[getElem?_append_left (by simpa using hi),getElem?_replicate] at e
  simp[hi] at e
 ·rw[getElem?_append_right (by simpa using hi),getElem?_map] at e
  rw[getElem?_append_right (by simpa using hi),getElem?_map]
  simp only[List.length_replicate] at e ⊢
  cases q:idx[i-k]? with
  |none=>rw[q] at e;cases e
  |some j=>
   rw[q] at e
   simp only[Option.map_some,Option.some.injEq] at e
   have:τ[j]?=some (some (.val d)):=by
    unfold jZ at e
    split at e <;> cases e
    assumption
   obtain⟨v,h1,h2⟩:=R.val j d this
   exact⟨v,by simp[h1],h2⟩
theorem Ln{K:Frag}{F H:Hp}{τ:DS}{σ:St}(k:Nat)(idx:List Nat)(R:RV K F τ σ H):RS K H F F (vN k idx τ) (uo k idx σ) H:=
 ⟨WZ k idx R,Hh.refl H,Same.refl F,fun a o e=>.inl e,fun i ds a h=>absurd h (uw k idx τ i ds),fun i m c fs a h=>absurd h (jR k idx τ i m c fs),fun a0 dx h1 h2 i m c fs h=>absurd h (jR k idx τ i (m+1) c fs),fun i c fs a h e=>by
  obtain⟨a',C,dx,vs,h1,h2,_,h5⟩:=(WZ k idx R).ob.rd i c fs h
  rw[e] at h1;cases h1
  exact⟨C,dx,vs,h2,fun l hl=>(h5.own hl).2⟩⟩
noncomputable def vf(H:Hp)(p:Addr):Hp:=fun b=>if b=p then none else H b
theorem u0(H:Hp)(p:Addr):vf H p p=none:=by unfold vf;rw[if_pos rfl]
theorem ZM{H:Hp}{p b:Addr}(h:b≠p):vf H p b=H b:=by unfold vf;rw[if_neg h]
theorem Yz(H:Hp)(p:Addr)(o:HO):upd (vf H p) p o=upd H p o:=by
 funext b;unfold upd vf;split <;> rfl
theorem Xs{F1 H1 F2 Hm F5 H5:Hp}{acc:Addr}{ls:List V}(a:Ext F1 H1 F2 Hm)(hm:Hm acc=none)(b:Ext F2 (upd Hm acc (.lst ls)) F5 H5):Ext F1 H1 F5 (vf H5 acc)∧F5 acc=none:=by
 have hf5:F5 acc=none:=by
  cases q:F5 acc with
  |none=>rfl
  |some o=>
   rcases b.nw acc o q with z|z
   ·rw[yd a.fh hm] at z;cases z
   ·rw[zJ] at z;cases z
 have h1:H1 acc=none:=vC a.hh hm
 have ha:H5 acc=some (.lst ls):=b.hh acc _ zJ
 refine⟨⟨a.ff.trans b.ff,fun c o e=>?_,fun c o e=>?_,fun c o e=>?_,fun t=>?_⟩,hf5⟩
 ·have n:c≠acc:=fun z=>by subst z;rw[h1] at e;cases e
  rw[ZM n]
  exact((a.hh.trans (.of (yz hm))).trans b.hh) c o e
 ·have n:c≠acc:=fun z=>by subst z;rw[hf5] at e;cases e
  rw[ZM n];exact b.fh c o e
 ·rcases b.nw c o e with z|z
  ·exact a.nw c o z
  ·have n:c≠acc:=fun z'=>by subst z';rw[zJ] at z;cases z
   rw[zA n] at z
   exact .inr (vC a.hh z)
 ·have t2:=b.tt ((a.tt t).step (F':=F2) (H':=upd Hm acc (.lst ls)) (fun _ _ e=>.inl e) (fun c o e _=>by rw[zA (z6 e hm)];exact e) (ZI fun _ z=>nomatch z))
  exact t2.step (fun _ _ e=>.inl e) (fun c o e n=>by
   have:c≠acc:=fun z=>by subst z;rw[ha] at e;cases e;exact n _ rfl
   rw[ZM this];exact e) fun d a e=>by
   unfold vf at e
   split at e
   ·cases e
   ·exact e
noncomputable def FreeOk(scope:Scope)(N:List Str):List Str→List Nat→Prop
 |[],[]=>True
 |x::xs,j::js=>N[j]?=some x∧scope.names.lookup x=some .free∧FreeOk scope N xs js
 |_,_=>False
theorem FreeOk.len{scope:Scope}{N:List Str}:∀{xs:List Str} {js:List Nat},FreeOk scope N xs js→xs.length=js.length
 |[],[],_=>rfl
 |_::xs,_::js,h=>by rw[length_cons,length_cons,FreeOk.len h.2.2]
theorem FreeOk.get{scope:Scope}{N:List Str}:∀{xs:List Str} {js:List Nat} {p j:Nat},FreeOk scope N xs js→js[p]?=some j→∃x,xs[p]?=some x∧N[j]?=some x∧scope.names.lookup x=some .free
 |[],[],_,_,_,e=>by simp at e
 |x::xs,i::js,0,j,h,e=>by simp at e;subst e;exact⟨x,rfl,h.1,h.2.1⟩
 |x::xs,i::js,p+1,j,h,e=>by
  obtain⟨y,h1,h2⟩:=FreeOk.get (p:=p) h.2.2 (by simpa using e)
  exact⟨y,by simpa using h1,h2⟩
noncomputable def jv(osc scope:Scope):Bool:=(match scope.kind with | .function=>true|_=>false)&&scope.names.all (fun y=>match y.2 with
 |.cell=>false
 |.local=>(match scope.names.lookup y.1 with|some .local=>true|_=>false)
 |.free=>(match osc.names.lookup y.1 with|some .cell=>true|some .free=>true|_=>false)
 |_=>true)
theorem vw{X:Cx}{scope:Scope}(h:jv X.env.scope scope=true):xX X scope:=by
 unfold jv at h
 rw[Bool.and_eq_true,all_eq_true] at h
 obtain⟨h1,h2⟩:=h
 refine⟨?_,fun y hy z=>?_,fun y hy z=>?_,fun y hy z=>?_⟩
 ·split at h1
  ·assumption
  ·cases h1
 ·have:=h2 y hy;rw[z] at this;cases this
 ·have:=h2 y hy;rw[z] at this
  simp only at this
  split at this
  ·assumption
  ·cases this
 ·have:=h2 y hy;rw[z] at this
  simp only at this
  split at this
  ·left;assumption
  ·right;assumption
  ·cases this
noncomputable def TY(Y:Cx)(ifs:List Expr)(f:FT):Prop:=PTs Y ifs (tTs Y f)
theorem vB{Y:Cx}:TY Y [] (fun _=>.ok true):=fun pins s σ H Q I z_=>by obtain⟨F,τ,R,h⟩:=z_;exact Lw pins s σ H Q I (h F H (Ext.refl R.fh))
theorem uV{Y:Cx}{c:Expr}{f:FT}(h:PDT Y c f):TY Y [c] f:=Lv h
section
variable{X:Cx}{scope:Scope}{tn fr:List Str}{idx:List Nat}{tg iter elt:Expr}{ifs:List Expr}{pos:Pos}{fi:FA}{set:FG}{ft:FT}{fe:FE}
structure CWH(K:Frag)(set:FG)(ft:FT)(fe:FE)(t0:DS)(ds xs:List D)(F1 H1:Hp)(acc:Addr)(i:Nat)(σ1:St)(Hc F2 Hm:Hp)(τ1:DS)(dn rs:List D)(vs:List V):Prop where
 a1:Ext F1 H1 F2 Hm
 a2:Hm acc=none
 a3:Hc=upd Hm acc (.lst vs)
 a4:Reps K F2 dn vs
 a5:RS K H1 F1 F2 τ1 σ1 Hc
 a6:jD τ1
 a7:∀d,set d τ1=set d t0
 a8:vq set ft fe t0 (ds.drop i)=.ok rs
 a9:xs=dn++rs
theorem ZP(so:XH set){Y:Cx}(hK:Y.K=X.K)(σ:St)(H:Hp)(Q:VK)(h:tFr X (xa tn.length idx fi set ft fe) σ H Q):GD (uo tn.length idx) (tI X fi) (tG Y set) (tTs Y ft) (tE Y fe) σ H Q:=by
 obtain⟨F,τ,R,h⟩:=h
 refine⟨F,τ,R,h.bind.imp fun ds gds J F1 H1 x io=>fun acc hacc=>?_⟩
 cases q:vq set ft fe (vN tn.length idx τ) ds with
 |no=>rw[q] at gds;exact gds.elim
 |ex c=>rw[q] at gds;exact gds.elim
 |ok xs=>
  rw[q] at gds
  obtain⟨hz,k⟩:=y7 gds
  have R1:=R.ext x
  have hF1:F1 acc=none:=yd x.fh hacc
  refine⟨fun i m σ1 Hc=>m=ds.length-i∧i≤ds.length∧∃F2 Hm τ1 dn rs vs,CWH X.K set ft fe (vN tn.length idx τ) ds xs F1 H1 acc i σ1 Hc F2 Hm τ1 dn rs vs,⟨ds.length,by simp,zero_le _,F1,H1,_,[],xs,[],Ext.refl x.fh,hacc,rfl,Reps.nil,?_,ux _ _ _,fun _=>rfl,q,rfl⟩,?_⟩
  ·exact(Ln tn.length idx R1).free_upd (ux _ _ _) hacc hF1 (.inl hacc)
  rintro i m σ1 Hc ⟨rfl,hi,F2,Hm,τ1,dn,rs,vs,x2,hm,rfl,r2,R2,n2,so2,cl,ex⟩
  obtain⟨i1,i2⟩:=io i F2 _ x2.ff R2.rv.fh
  by_cases hlt:i<ds.length
  ·have hd:ds.drop i=ds[i]::ds.drop (i+1):=drop_eq_getElem_cons hlt
   rw[hd,vq] at cl
   obtain⟨go,yl⟩:=i2 ds[i] (by simp[hlt])
   refine .inr ⟨go,fun y H' yy=>?_⟩
   obtain⟨F3,x3,r3⟩:=yl y H' yy
   refine⟨F3,τ1,ds[i],by rw[hK];exact(R2.ext x3).rv,by rw[hK];exact r3,?_⟩
   rw[so2]
   cases e1:set ds[i] (vN tn.length idx τ) with
   |no=>rw[e1] at cl;cases cl
   |ex c=>rw[e1] at cl;cases cl
   |ok τ2=>
    rw[e1] at cl
    simp only at cl
    intro σ2 _ RR _
    rw[hK] at RR
    have RR:=RR _ _ (R2.ext x3)
    have n3:=so.no _ _ _ e1 (ux _ _ _)
    have so3:∀d,set d τ2=set d (vN tn.length idx τ):=fun d=>so.ov d _ _ _ e1
    cases e2:ft τ2 with
    |no=>rw[e2] at cl;cases cl
    |ex c=>rw[e2] at cl;cases cl
    |ok b=>
     rw[e2] at cl
     refine⟨F3,τ2,by rw[hK];exact RR.rv,?_⟩
     rw[e2]
     intro F4 H4 x4
     have x34:=x3.trans x4
     cases b with
     |false=>
      simp only at cl
      rw[if_neg (by simp)]
      obtain⟨y1,y2⟩:=Xs x2 hm x34
      have ha:H4 acc=some (.lst vs):=x34.hh acc _ zJ
      have eH:H4=upd (vf H4 acc) acc (.lst vs):=by
       rw[Yz];funext b;unfold upd;split
       ·rename_i z;subst z;exact ha
       ·rfl
      refine⟨ds.length-(i+1),by lia,rfl,hlt,F4,vf H4 acc,τ2,dn,rs,vs,y1,u0 _ _,eH,r2.mono x34.ff,RR.ext x4,n3,so3,cl,ex⟩
     |true=>
      simp only at cl
      rw[if_pos rfl]
      cases e3:fe τ2 with
      |no=>rw[e3] at cl;cases cl
      |ex c=>rw[e3] at cl;cases cl
      |ok z=>
       rw[e3] at cl
       simp only at cl
       cases e4:vq set ft fe (vN tn.length idx τ) (ds.drop (i+1)) with
       |no=>rw[e4] at cl;cases cl
       |ex c=>rw[e4] at cl;cases cl
       |ok rs'=>
        rw[e4] at cl
        have ers:z::rs'=rs:=by simpa using cl
        refine⟨F4,τ2,by rw[hK];exact(RR.ext x4).rv,?_⟩
        rw[e3]
        intro v F5 H5 x5 r5
        rw[hK] at r5
        have x35:=x34.trans x5
        obtain⟨y1,y2⟩:=Xs x2 hm x35
        refine⟨vs,x35.hh acc _ zJ,?_,ds.length-(i+1),by lia,rfl,hlt,F5,vf H5 acc,τ2,dn++[z],rs',vs++[v],y1,u0 _ _,by rw[Yz],(r2.mono x35.ff).append (Reps.cons r5 Reps.nil),?_,n3,so3,e4,?_⟩
        ·have:=congrArg List.length ex
         rw[← ers,length_append,length_cons,r2.length] at this
         lia
        ·exact((RR.ext x4).ext x5).free_upd n3 hacc y2 (.inr ⟨_,x35.hh acc _ zJ⟩)
        ·rw[ex,← ers,append_assoc];rfl
  ·have e:i=ds.length:=by lia
   subst e
   rw[List.drop_length,vq] at cl
   cases cl
   rw[append_nil] at ex
   subst ex
   exact .inl ⟨i1 (le_refl _),k acc vs F2 Hm (x.trans x2) hm r2⟩
theorem Yh(hfr:FreeOk scope X.N fr idx)(σ:St)(i:Nat)(v:V)(h:(uo tn.length idx σ)[i]?=some (some v)):∃(x:Str) (j:Nat),(tn++fr)[i]?=some x∧X.N[j]?=some x∧σ[j]?=some (some v)∧scope.names.lookup x=some .free:=by
 unfold uo at h
 by_cases hi:i<tn.length
 ·rw[getElem?_append_left (by simpa using hi),getElem?_replicate] at h
  simp[hi] at h
 ·rw[getElem?_append_right (by simpa using hi),getElem?_map] at h
  simp only[List.length_replicate] at h
  cases q:idx[i-tn.length]? with
  |none=>rw[q] at h;cases h
  |some j=>
   rw[q] at h
   simp only[Option.map_some,Option.some.injEq] at h
   obtain⟨x,h1,h2,h3⟩:=hfr.get q
   refine⟨x,j,by rw[getElem?_append_right (by lia)];exact h1,h2,?_,h3⟩
   cases z:σ[j]? with
   |none=>rw[z] at h;cases h
   |some o=>rw[z] at h;simp at h;rw[h]
theorem wZ(hb:jv X.env.scope scope=true)(hc:X.calm=true)(hfr:FreeOk scope X.N fr idx)(so:XH set)(hi:PDI X tg iter fi)
  (hg:∀s H C fp,PDG (X.comp scope (tn++fr) s H C fp) tg set) (ht:∀s H C fp,TY (X.comp scope (tn++fr) s H C fp) ifs ft) (he:∀s H C fp,PDE (X.comp scope (tn++fr) s H C fp) elt fe)
  (hs:∀x,foldedSetIterable iter X.env x=pure x:=by intro _;rfl):PDF X (.ListComp elt [⟨tg,iter,ifs,0⟩] scope pos) (xa tn.length idx fi set ft fe):=
 PE.imp (LH (s0:=uo tn.length idx) (g:=tG (X.comp scope (tn++fr) X.s₀ X.H₀ 0 []) set) (ti:=tTs (X.comp scope (tn++fr) X.s₀ X.H₀ 0 []) ft) (te:=tE (X.comp scope (tn++fr) X.s₀ X.H₀ 0 []) fe)
  (vw hb) hc (fun σ _=>by simp[uo,hfr.len]) (Yh hfr) hi hg ht he hs) (ZP so rfl)
theorem YQ{i:Nat}{y:Str}{py spos:Pos}(hN:X.N.Nodup)(hiN:X.N[i]?=some y)(hy:X.env.scope.names.lookup y=some .local)
  (hsw:swapsWith (.ListComp elt [⟨tg,iter,ifs,0⟩] scope pos) (some (.Name y py)) spos.line X.env=pure true)
  (hb:jv X.env.scope scope=true) (hc:X.calm=true) (hfr:FreeOk scope X.N fr idx) (so:XH set) (hi:PDI X tg iter fi)
  (hg:∀s H C fp,PDG (X.comp scope (tn++fr) s H C fp) tg set) (ht:∀s H C fp,TY (X.comp scope (tn++fr) s H C fp) ifs ft) (he:∀s H C fp,PDE (X.comp scope (tn++fr) s H C fp) elt fe)
  (hs:∀x,foldedSetIterable iter X.env x=pure x:=by intro _;rfl):PDS X (.Assign [.Name y py] (.ListComp elt [⟨tg,iter,ifs,0⟩] scope pos) spos) (zB i fun τ=>(xa tn.length idx fi set ft fe τ).bind fun ds=>.ok (.lst ds)):=
 PS.imp (JD (s0:=uo tn.length idx) (g:=tG (X.comp scope (tn++fr) X.s₀ X.H₀ 0 []) set) (ti:=tTs (X.comp scope (tn++fr) X.s₀ X.H₀ 0 []) ft) (te:=tE (X.comp scope (tn++fr) X.s₀ X.H₀ 0 []) fe) hN hiN hy hsw
  (vw hb) hc (fun σ _=>by simp[uo,hfr.len]) (Yh hfr) hi hg ht he hs) fun E σ H ⟨B,Z,F,τ,R,h⟩=>by
  refine ZP (X:=X) (tn:=tn) (idx:=idx) (fi:=fi) (ft:=ft) (fe:=fe) so (Y:=X.comp scope (tn++fr) X.s₀ X.H₀ 0 []) rfl σ H (fun x H1=>WF i x σ H1 E.nx) ⟨F,τ,R.rv,?_⟩
  have h':=h.of.bind
  refine h'.imp fun ds g p vs F1 H1 x hp r=>?_
  have x2:=x.trans (Ext.new (o:=.lst vs) x.fh hp)
  refine g _ _ _ x2.ff ((R.ext x2).set ?_)
  simp only[Rep]
  exact⟨p,vs,rfl,zJ,r.mono (yz (yd x.fh hp))⟩
theorem Qw{i:Nat}{y:Str}{py spos:Pos}(hN:X.N.Nodup)(hiN:X.N[i]?=some y)(hy:X.env.scope.names.lookup y=some .local)
  (hsw:swapsWith (.ListComp elt [⟨tg,iter,ifs,0⟩] scope pos) (some (.Name y py)) spos.line X.env=pure true)
  (hb:jv X.env.scope scope=true) (hc:X.calm=true) (hfr:FreeOk scope X.N fr idx) (so:XH set) (hi:PDI X tg iter fi)
  (hg:∀s H C fp,PDG (X.comp scope (tn++fr) s H C fp) tg set) (ht:∀s H C fp,TY (X.comp scope (tn++fr) s H C fp) ifs ft) (he:∀s H C fp,PDE (X.comp scope (tn++fr) s H C fp) elt fe)
  (hs:∀x,foldedSetIterable iter X.env x=pure x:=by intro _;rfl):PDS X (.Assign [.Name y py] (.ListComp elt [⟨tg,iter,ifs,0⟩] scope pos) spos) (vz i (xa tn.length idx fi set ft fe)):=
 PS.imp (JD (s0:=uo tn.length idx) (g:=tG (X.comp scope (tn++fr) X.s₀ X.H₀ 0 []) set) (ti:=tTs (X.comp scope (tn++fr) X.s₀ X.H₀ 0 []) ft) (te:=tE (X.comp scope (tn++fr) X.s₀ X.H₀ 0 []) fe) hN hiN hy hsw
  (vw hb) hc (fun σ _=>by simp[uo,hfr.len]) (Yh hfr) hi hg ht he hs) fun E σ H ⟨B,Z,F,τ,R,h⟩=>by
  refine ZP (X:=X) (tn:=tn) (idx:=idx) (fi:=fi) (ft:=ft) (fe:=fe) so (Y:=X.comp scope (tn++fr) X.s₀ X.H₀ 0 []) rfl σ H (fun x H1=>WF i x σ H1 E.nx) ⟨F,τ,R.rv,?_⟩
  exact h.of.imp fun ds g p vs F1 H1 x hp r=>g _ F1 _ x.ff ((R.ext x).setO hp r)
end
section
variable{prog:Program}{w:World}{A:Around}{E:Value→Shared→Prop}{s:Shared}{z TI TO i1 i2:Addr}{n1 n2:Nat}{P1 P2:Nat→Value→Prop}{st1 st2:Nat→Heap→Prop}{rd1 rd2:Heap→Prop}
end
theorem WO{X:Cx}{pins:List (Addr×Obj)}{σ:St}{H:Hp}{s:Shared}{h':Heap}{t':Nat}{ch:List Addr}(I:Inv X pins σ H s)(k:∀b o,b∉ch→s.heap.get? b=some o→h'.get? b=some o)(hf:∀b∈ch,XI X pins H b)(he:∀b∈ch,H b=none) :
  Inv X pins σ H { s with heap:=h',toks:=t' }:=by
 refine I.step (g':=s.gens) (d':=s.drawn) (ch:=ch) (fun b hb=>?_) (fun b o _ _ hc e _=>k b o hc e) (fun b o _ _ hc e _=>⟨o.slots,k b o hc e⟩) (fun _ _ _ _ n=>n)
  (fun b o hc e=>⟨o,k b o hc e⟩) (fun _ _ e=>e) (fun _ _ _ e=>e) (fun b ps e=>⟨#[],by rw[e];simp⟩) (fun m hm=>?_) (fun b u e=>?_) I.bare
 ·obtain⟨f0,f1,f2,f3,f4,f5⟩:=hf b hb
  exact⟨f3,f1,f4,f5⟩
 ·obtain⟨o,es,ep,ho,r⟩:=hm
  exact⟨o,es,ep,k _ o (fun z=>(hf _ z).2.1 rfl) ho,r⟩
 ·refine(I.hok b u e).stay (fun c v hc q=>k c v ?_ q) (fun _ q=>q) fun _ _ q=>q
  intro z
  rcases hc with q|q
  ·subst q;rw[he c z] at e;cases e
  ·rw[he c z] at q;cases q
theorem T2{X:Cx}{pins:List (Addr×Obj)}{σ:St}{H:Hp}{s:Shared}{h':Heap}{t':Nat}{ch:List Addr}{p:Addr}{xs:List V}{its:List Value}(I:Inv X pins σ H s)(k:∀b o,b∉ch→s.heap.get? b=some o→h'.get? b=some o)(hf:∀b∈ch,XI X pins H b)
  (hp:s.heap.objs.size≤p) (ht:IsTup h' p its.toArray) (hv:Vals xs its) (hz:xs.length≤sizeLine) :
  Inv X pins σ (upd H p (.tup xs)) { s with heap:=h',toks:=t' }:=by
 have hn:H p=none:=I.hok.fresh hp
 have lt:∀{b:Addr} {o:Obj},s.heap.get? b=some o→b≠p:=fun e=>ne_of_lt (lt_of_lt_of_le (Heap.lt_size e) hp)
 refine I.step (g':=s.gens) (d':=s.drawn) (ch:=ch) (fun b hb=>?_) (fun b o _ _ hc e _=>k b o hc e) (fun b o _ _ hc e _=>⟨o.slots,k b o hc e⟩) (fun b o _ e n=>by rw[zA (lt e)];exact n)
  (fun b o hc e=>⟨o,k b o hc e⟩) (fun b ys e=>by rw[zA (z6 e hn)];exact e) (fun b o u e=>by rw[zA (z6 e hn)];exact e) (fun b ps e=>⟨#[],by rw[zA (z6 e hn),e];simp⟩) (fun m hm=>?_) (fun b u e=>?_) I.bare
 ·obtain⟨f0,f1,f2,f3,f4,f5⟩:=hf b hb
  exact⟨f3,f1,f4,f5⟩
 ·obtain⟨o,es,ep,ho,r⟩:=hm
  exact⟨o,es,ep,k _ o (fun z=>(hf _ z).2.1 rfl) ho,r⟩
 ·by_cases hb:b=p
  ·subst hb;rw[zJ] at e;cases e
   exact⟨hz,its,hv,ht⟩
  ·rw[zA hb] at e
   refine(I.hok b u e).stay (fun c v hc q=>k c v ?_ q) (fun c q=>by rw[zA (z6 q hn)];exact q) fun c ys q=>by rw[zA (z6 q hn)];exact q
   intro z
   rcases hc with q|q
   ·subst q;rw[(hf c z).1] at e;cases e
   ·rw[(hf c z).1] at q;cases q
noncomputable def zt(c:Nat):D:=.str ⟨#[c]⟩
noncomputable def um(x:Str):List D:=x.cps.toList.map zt
noncomputable def Its(x:Str):It:=⟨fun i _=>i<x.cps.size,fun i H y H'=>H'=H∧∃c,x.cps[i]?=some c∧y=.str ⟨#[c]⟩,fun i _=>x.cps.size≤i⟩
theorem Gw{P:Program}{w:World}{K:Frag}{tg:Expr}{it:Addr}{x:Str}{t:Tok}{ty:String}(hty:ty = "str_ascii_iterator" ∨ ty = "str_iterator"):Vt P w K tg (Its x) [it] it (fun k h=>h.IsStrIter it ty x t k) where
 mem:=by simp
 obj:=fun i h ⟨o,e,c,d⟩ b hb=>by
  have z:b=it:=by simpa using hb
  subst z
  exact⟨o,e,fun v z=>by rw[d] at z;cases z⟩
 keep:=fun i h h' ⟨o,e,r⟩ k=>⟨o,k it (by simp) o e,r⟩
 item:=by
  intro X hP hw hK hc i pins s σ H E I hf st hg
  subst hP hw hK
  obtain⟨f0,f1,f2,f3,f4,f5⟩:=hf it (by simp)
  have hh:X.A.handled=none:=I.ok.hd hc
  have W:Walks X.prog X.w X.A it [it] [it] x.cps.size (SignAt x) (fun i h=>h.IsStrIter it ty x t i):=by
   rcases hty with rfl|rfl
   ·exact Walks.strAscii hh it x t
   ·exact Walks.strWide hh it x t
  refine W.item i s _ _ hg st fun v h' tk hv st' kk=>?_
  obtain⟨c,u,ec,rfl⟩:=hv
  have I1:Inv X pins σ H { s with heap:=h',toks:=tk }:=I.turned (fun b o hb e=>kk b o (by simpa using hb) e) f0 f1 f3 f4 f5
  obtain⟨o,e,cc,d⟩:=id st'
  exact⟨_,rfl,Uo (s:={ s with heap:=h',toks:=tk }) e cc d (by rcases hty with rfl|rfl <;> decide) ⟨.str ⟨#[c]⟩,H,I1,⟨u,rfl⟩,⟨rfl,c,ec,rfl⟩,st',fun b hb=>(hf b hb).1⟩⟩
 done:=by
  intro X hP hw hK hc i pins s σ H E I hf st hg
  subst hP hw hK
  obtain⟨f0,f1,f2,f3,f4,f5⟩:=hf it (by simp)
  have hh:X.A.handled=none:=I.ok.hd hc
  have hx:x.cps[i]?=none:=by have:x.cps.size≤i:=hg;simp;lia
  rcases hty with rfl|rfl
  ·exact wpAny_pyNext_ascii_end hh st hx fun h' eb=>⟨rfl,I.turned (t':=s.toks) (fun b o hb e=>eb b o hb e) f0 f1 f3 f4 f5⟩
  ·exact wpAny_pyNext_wide_end hh st hx fun h' eb=>⟨rfl,I.turned (t':=s.toks) (fun b o hb e=>eb b o hb e) f0 f1 f3 f4 f5⟩
 self:=fun _ _ _ _ _ st h=>by
  rcases hty with rfl|rfl
  ·exact wpAny_pyIter_striter_ascii st h
  ·exact wpAny_pyIter_striter_wide st h
section
variable{X:Cx}{pos:Pos}{e tg:Expr}{es:List Expr}{fe:FE}{fs:FA}
theorem zp7{K:Frag}{F1:Hp}{x:Str}:Jp K (Its x) F1 (um x):=fun i F H f1 f2=>by
 have hl:(um x).length=x.cps.size:=by simp[um]
 refine⟨fun h=>by rw[hl] at h;exact h,fun d hd=>?_⟩
 have hi:i<x.cps.size:=by have:=(List.getElem?_eq_some_iff.mp hd).1;rw[hl] at this;exact this
 refine⟨hi,fun y H' yy=>?_⟩
 obtain⟨e1,c,ec,rfl⟩:=yy
 subst e1
 refine⟨F,Ext.refl f2,?_⟩
 have:d=zt c:=by
  simp only[um,getElem?_map] at hd
  have e2:x.cps.toList[i]?=some c:=by simpa using ec
  rw[e2] at hd
  exact(Option.some.inj hd).symm
 subst this
 simp only[zt,Rep]
noncomputable def Itd(hi:Int)(n:Nat):It:=⟨fun i _=>i<n,fun i H x H'=>H'=H∧x=.int (hi-i),fun i _=>n≤i⟩
theorem VC{P:Program}{w:World}{K:Frag}{tg:Expr}(it:Addr)(hi:Int)(n:Nat):Vt P w K tg (Itd hi n) [it] it (fun i h=>IsRangeIter h it (hi+(i:Nat)*(-1)) ((n:Int)-(i:Nat)) (-1)) where
 mem:=by simp
 obj:=fun i h st b hb=>by
  have e:b=it:=by simpa using hb
  subst e
  exact⟨_,st,fun v z=>by
   have z':Data.fields _=Data.cell v:=z
   cases z'⟩
 keep:=fun i h h' st k=>k it (by simp) _ st
 item:=by
  intro X hP hw hK hc i pins s σ H E I hf st hg
  subst hP hw hK
  obtain⟨f0,f1,f2,f3,f4,f5⟩:=hf it (by simp)
  have W:=Walks.range (prog:=X.prog) (w:=X.w) (I.ok.hd hc) it hi (-1) n
  refine W.item i s _ _ hg st fun v h' tk hv st' kk=>?_
  obtain⟨t,rfl⟩:=hv
  have I1:Inv X pins σ H { s with heap:=h',toks:=tk }:=I.turned (fun b o hb e=>kk b o (by simpa using hb) e) f0 f1 f3 f4 f5
  refine⟨_,rfl,Uo (s:={ s with heap:=h',toks:=tk }) (n := "range_iterator") st' rfl rfl (by decide) ⟨.int (hi-i),H,I1,⟨t,?_⟩,⟨rfl,rfl⟩,st',fun b hb=>(hf b hb).1⟩⟩
  congr 1
  lia
 done:=by
  intro X hP hw hK hc i pins s σ H E I hf st hg
  subst hP hw hK
  obtain⟨f0,f1,f2,f3,f4,f5⟩:=hf it (by simp)
  exact wpAny_pyNext_range_end (I.ok.hd hc) st (by have:n≤i:=hg;lia) fun h' eb=>⟨rfl,I.turned (t':=s.toks) (fun b o hb e=>eb b o hb e) f0 f1 f3 f4 f5⟩
 self:=fun _ _ _ _ _ st h=>wpAny_pyIter_rangeiter st h
end
section
variable{X:Cx}{pos:Pos}{e tg:Expr}{es:List Expr}{fe:FE}{fs:FA}
noncomputable def len1:D→Rs D
 |.lst ds=>.ok (.int ds.length)
 |.tup ds=>.ok (.int ds.length)
 |.scr ns=>.ok (.int ns.length)
 |.str x=>if x.length≤sizeLine then .ok (.int x.length) else .no
 |_=>.no
noncomputable def yL:List D→Rs D
 |[d]=>len1 d
 |_=>.no
theorem xv:jJ X (.builtin "len") yL:=⟨_,call_len_seq.or Vq,fun F H vs ds Q fh r h=>by
 match ds,r,h with
 |[d],r,h=>
  obtain⟨v,rfl,q⟩:=r.one
  cases d with
  |lst ds=>
   simp only[Rep] at q;obtain⟨a,ws,rfl,e1,t⟩:=q
   refine .inl ⟨a,ws,rfl,.inl (SqL.of (fh _ _ e1)),?_⟩
   rw[← t.length];exact h _ F H (Ext.refl fh) (by simp only[Rep])
  |tup ds=>
   simp only[Rep] at q;obtain⟨a,ws,rfl,e1,t⟩:=q
   refine .inl ⟨a,ws,rfl,.inr (Same.seqT fh e1),?_⟩
   rw[← t.length];exact h _ F H (Ext.refl fh) (by simp only[Rep])
  |scr ns=>
   simp only[Rep] at q;obtain⟨a,rfl,e1⟩:=q
   refine .inl ⟨a,_,rfl,.inl (fh.seq e1),?_⟩
   rw[length_map];exact h _ F H (Ext.refl fh) (by simp only[Rep])
  |str x=>
   simp only[Rep] at q;subst q
   obtain⟨z,h⟩:=y7 h
   exact .inr ⟨x,rfl,z,h _ F H (Ext.refl fh) (by simp only[Rep])⟩
  |_=>exact h.elim
 |[],_,h=>exact h.elim
 |_::_::_,_,h=>exact(show False from h).elim⟩
noncomputable def vo(ds:List D):Rs D:=match X1 ds with
 | some (i,j)=>.ok (.int (if j<i then j else i))
 |none=>.no
noncomputable def Xa(ds:List D):Rs D:=match X1 ds with
 | some (i,j)=>.ok (.int (if j > i then j else i))
 |none=>.no
theorem jw(hc:X.calm=true):jJ X (.builtin "min") vo:=⟨_,Gh hc,fun F H vs ds Q fh r h=>by
 unfold vo at h
 cases q:X1 ds with
 |none=>rw[q] at h;exact h.elim
 |some ij=>
  obtain⟨i,j⟩:=ij
  rw[q] at h
  have e:=Vg q
  subst e
  obtain⟨v,w,rfl,r1,r2⟩:=r.two
  simp only[Rep] at r1 r2;subst r1;subst r2
  exact⟨i,j,rfl,h _ F H (Ext.refl fh) (by simp only[Rep])⟩⟩
theorem ze6(hc:X.calm=true):jJ X (.builtin "max") Xa:=⟨_,Gj hc,fun F H vs ds Q fh r h=>by
 unfold Xa at h
 cases q:X1 ds with
 |none=>rw[q] at h;exact h.elim
 |some ij=>
  obtain⟨i,j⟩:=ij
  rw[q] at h
  have e:=Vg q
  subst e
  obtain⟨v,w,rfl,r1,r2⟩:=r.two
  simp only[Rep] at r1 r2;subst r1;subst r2
  exact⟨i,j,rfl,h _ F H (Ext.refl fh) (by simp only[Rep])⟩⟩
theorem rangeSize_down(a b:Int):Builtin.Range.rangeSize a b (-1)=((a-b).toNat:Int):=by
 unfold Builtin.Range.rangeSize
 rw[if_neg (by decide)]
 by_cases h:a > b
 ·rw[if_pos h,show(- -1:Int)=1 from rfl,Int.ediv_one];lia
 ·rw[if_neg h];lia
theorem small_down{a b:Int}(ha : -(2 ^ 62)≤a)(ha':a<2 ^ 62)(hb : -(2 ^ 62)≤b)(hb':b<2 ^ 62):Builtin.Range.small a b (-1)=true:=by
 unfold Builtin.Range.small
 rw[rangeSize_down]
 simp only[Builtin.Range.rangeFitsLong,Bool.and_eq_true,Bool.or_eq_true,decide_eq_true_eq,beq_iff_eq,show ¬ (-1:Int) > 0 by decide,if_false]
 lia
noncomputable def iRngD(ta:TA):TI:=fun σ H R=>ta σ H fun vs H1=>∃i j:Int,vs=[.int i,.int j,.int (-1)]∧(-(2 ^ 62)≤i∧i<2 ^ 62∧-(2 ^ 62)≤j∧j<2 ^ 62)∧R (Itd i (i-j).toNat) H1
theorem Qs{a b c:Expr}{ta:TA}{p pos:Pos}(hg:Gl X "range")(hm:X.mg "range" = none)(ha:PA X [a,b,c] ta)(hs:starEach [a,b,c] X.env=[(false,eval a X.env),(false,eval b X.env),(false,eval c X.env)]:=by rfl)(hs2:starEach [b,c] X.env=[(false,eval b X.env),(false,eval c X.env)]:=by rfl) :
  PI X tg (.Call (.Name "range" p) [a,b,c] [] pos) (iRngD ta):=by
 intro pins s σ H R I h
 refine Call_ (uB I hg hm boot_range (PyProof.Rows.callWith_type1 (thn (ha pos pins s σ H _ I h) fun us s1 z_=>?_) (by rw[hs,hs2]) (by rw[hs2];rfl)))
 obtain⟨vs,H1,I1,r1,q1⟩:=z_
 obtain⟨i,j,e,⟨q1,q2,q3,q4⟩,q⟩:=q1
 subst e
 cases r1 with
 |cons r rr=>
  cases rr with
  |cons r' rr=>
   cases rr with
   |cons r'' rr=>
    cases rr
    obtain⟨t,rfl⟩:=r
    obtain⟨t',rfl⟩:=r'
    obtain⟨t'',rfl⟩:=r''
    refine call_range_3 (by decide) ?_ (.inl (PyProof.noPylong_small (by decide)))
    have I2:Inv X pins σ H1 { s1 with heap:=s1.heap.push { cls:=.type "range", data:=.fields #[.int i t,.int j t',.int (-1) t''] },toks:=s1.toks }:=I1.kept fun b o e=>get?_push_of_some _ e
    refine wpAny_pyIter_range (IsRange.new ..) (small_down q1 q2 q3 q4) ?_
    refine⟨(s1.heap.push { cls:=.type "range", data:=.fields #[.int i t,.int j t',.int (-1) t''] }).objs.size,[(s1.heap.push { cls:=.type "range", data:=.fields #[.int i t,.int j t',.int (-1) t''] }).objs.size],_,_,H1,rfl,
     I2.kept (t':=s1.toks) fun b o e=>get?_push_of_some _ e,VC _ i (i-j).toNat,?_,fun b hb=>?_,q⟩
    ·have e1:i+((0:Nat):Int)*(-1)=i:=by simp
     have e2:(((i-j).toNat:Nat):Int)-((0:Nat):Int)=Builtin.Range.rangeSize i j (-1):=by rw[rangeSize_down];lia
     show IsRangeIter _ _ (i+((0:Nat):Int)*(-1)) ((((i-j).toNat:Nat):Int)-((0:Nat):Int)) (-1)
     rw[e1,e2]
     exact Heap.get?_push_size _ rfl
    ·have e:b=(s1.heap.push { cls:=.type "range", data:=.fields #[.int i t,.int j t',.int (-1) t''] }).objs.size:=by simpa using hb
     subst e
     exact I2.fpOk (le_refl _) (I2.hok.fresh (le_refl _))
noncomputable def ZU(hi:Int)(n:Nat):List D:=(List.range n).map fun (k:Nat)=>D.int (hi-k)
theorem zc1{K:Frag}{F1:Hp}{lo:Int}{n:Nat}:Jp K (Itd lo n) F1 (ZU lo n):=fun i F H f1 f2=>by
 have hl:(ZU lo n).length=n:=by simp[ZU]
 refine⟨fun h=>by rw[hl] at h;exact h,fun d hd=>?_⟩
 have hi:i<n:=by have:=(List.getElem?_eq_some_iff.mp hd).1;rw[hl] at this;exact this
 refine⟨hi,fun x H' y=>?_⟩
 obtain⟨e1,y⟩:=y
 subst e1
 refine⟨F,Ext.refl f2,?_⟩
 simp[ZU,hi] at hd
 subst hd
 simp only[Rep];exact y
noncomputable def Uj:List D→Option (Int×Int)
 | [.int i,.int j,.int (-1)]=>some (i,j)
 |_=>none
theorem MY{ds:List D}{i j:Int}(h:Uj ds=some (i,j)):ds=[.int i,.int j,.int (-1)]:=by
 unfold Uj at h;split at h <;> cases h;rfl
noncomputable def Q1(fs:FA):FA:=fun τ=>(fs τ).bind fun ds=>match Uj ds with
 | some (i,j)=>if (-(2 ^ 62)≤i∧i<2 ^ 62)∧-(2 ^ 62)≤j∧j<2 ^ 62 then .ok (ZU i (i-j).toNat) else .no
 |none=>.no
theorem UW{a b c:Expr}{p:Pos}(hg:Gl X "range")(hm:X.mg "range" = none)(ha:PDA X [a,b,c] fs)(hs:starEach [a,b,c] X.env=[(false,eval a X.env),(false,eval b X.env),(false,eval c X.env)]:=by rfl)(hs2:starEach [b,c] X.env=[(false,eval b X.env),(false,eval c X.env)]:=by rfl) :
  PDI X tg (.Call (.Name "range" p) [a,b,c] [] pos) (Q1 fs):=
 PI.imp (Qs hg hm ha hs hs2) fun σ H R z_=>by
  obtain⟨F,τ,Rv,h⟩:=z_
  refine tAs.of Rv h.bind fun ds vs F1 H1 g x R1 r=>?_
  cases q1:Uj ds with
  |none=>rw[q1] at g;exact g.elim
  |some ij=>
   obtain⟨i,j⟩:=ij
   rw[q1] at g
   have e:=MY q1
   subst e
   simp only[Reps] at r
   obtain⟨v,r1,e1,q,w,r2,e2,q',u,r3,e3,q'',e4⟩:=r
   simp only[Rep] at q q' q'';subst q q' q'' e4 e3 e2 e1
   obtain⟨z,g⟩:=y7 g
   exact⟨i,j,rfl,⟨z.1.1,z.1.2,z.2.1,z.2.2⟩,g _ F1 H1 x zc1⟩
noncomputable def MtD(X:Cx)(id:String)(g:D→List D→Rs D):Prop:=∃r,MtR X id r∧∀F H v vs d ds Q,Same F H→Rep X.K F d v→Reps X.K F ds vs→Ok X (g d ds) (Ev X.K F H Q)→r v vs H Q
noncomputable def ZK(T:String):D→Bool
 |.str _=>T = "str"
 |.int _=>T = "int"
 |.lst _=>T = "list"
 |.scr _=>T = "list"
 |_=>false
noncomputable def Ji(T:String)(g:D→List D→Rs D)(fo:FE):FE:=fun τ=>(fo τ).bind fun d=>if ZK T d=true then g d [] else .no
noncomputable def eMt(T:String)(g:D→List D→Rs D)(fo:FE)(fa:FA):FE:=fun τ=>(fo τ).bind fun d=>if ZK T d=true then (fa τ).bind fun ds=>g d ds else .no
theorem Gs{F H:Hp}{d:D}{v:V}{T:String}(fh:Same F H)(r:Rep X.K F d v)(h:ZK T d=true):tyV X.K T v H:=by
 cases d with
 |str x=>simp only[Rep] at r;subst r;show T = "str"; simpa[ZK] using h
 |int x=>simp only[Rep] at r;subst r;show T = "int"; simpa[ZK] using h
 |lst ds=>simp only[Rep] at r;obtain⟨a,vs,rfl,e,t⟩:=r;exact .inl ⟨by simpa[ZK] using h,vs,SqL.of (fh _ _ e)⟩
 |scr ds=>simp only[Rep] at r;obtain⟨a,rfl,e⟩:=r;exact .inl ⟨by simpa[ZK] using h,_,fh.seq e⟩
 |_=>simp[ZK] at h
theorem zh2{X:Cx}{α:Type}{c:Prop}[Decidable c]{r:Rs α}{P:α→Prop}(h:Ok X (if c then r else .no) P):c∧Ok X r P:=by
 by_cases z:c
 ·rw[if_pos z] at h;exact⟨z,h⟩
 ·rw[if_neg z] at h;exact h.elim
theorem JH{T id:String}{name:Str}{o:Expr}{apos cpos:Pos}{fo:FE}{g:D→List D→Rs D}(pa:PlainAttrs T)(slot:Slot T name id)(hty:typeOf (.builtin id)=pure (.type "method_descriptor"))(hm:MtD X id g)(ho:PDE X o fo)
  (hbase:attributeBase o name X.env (eval o X.env)=eval o X.env:=by rfl) (hline:(apos.endLine==cpos.line)=true:=by rfl):PDE X (.Call (.Attribute o name apos) [] [] cpos) (Ji T g fo):=by
 obtain⟨r,h1,h2⟩:=hm
 exact PE.imp (zl6 pa slot hty h1 ho hbase hline) fun σ H Q z_=>by
  obtain⟨Fz,τ,R,h⟩:=z_
  refine tE.of R h.bind fun d v F1 H1 q x R1 rr=>?_
  obtain⟨z,q⟩:=zh2 q
  exact⟨Gs R1.fh rr z,h2 F1 H1 v [] d [] Q R1.fh rr Reps.nil (q.imp fun d e=>e.ext x)⟩
theorem zl7{T id:String}{name:Str}{o:Expr}{apos cpos:Pos}{fo:FE}{g:D→List D→Rs D}(pa:PlainAttrs T)(slot:Slot T name id)(hty:typeOf (.builtin id)=pure (.type "method_descriptor"))(hm:MtD X id g)(ho:PDE X o fo)(ha:PDA X (e::es) fs)
  (hbase:attributeBase o name X.env (eval o X.env)=eval o X.env:=by rfl)
  (hfew:((backTo cpos (starEach (e::es) X.env)).all (fun x=>!x.1)&&(backToKw cpos (keywordEach [] X.env)).all (fun x=>x.1.isSome)
   && decide ((e::es).length+([]:List Keyword).length+(if ([]:List Keyword).isEmpty then 0 else 1)<30))=true:=by rfl)
  (hline:(apos.endLine==cpos.line)=true:=by rfl) (hs:starEach (e::es) X.env=(false,eval e X.env)::starEach es X.env:=by rfl) (hplain:(backTo cpos (starEach es X.env)).any (·.1)=false:=by rfl) :
  PDE X (.Call (.Attribute o name apos) (e::es) [] cpos) (eMt T g fo fs):=by
 obtain⟨r,h1,h2⟩:=hm
 exact PE.imp (zg6 pa slot hty h1 ho ha hbase hfew hline hs hplain) fun σ H Q z_=>by
  obtain⟨Fz,τ,R,h⟩:=z_
  refine tE.of R h.bind fun d v F1 H1 q x R1 rr=>?_
  obtain⟨z,q⟩:=zh2 q
  exact⟨Gs R1.fh rr z,tAs.of R1 q.bind fun ds vs F2 H2 q2 x2 R2 rs=>h2 F2 H2 v vs d ds Q R2.fh (rr.mono x2.ff) rs (q2.imp fun d e=>e.ext (x.trans x2))⟩
noncomputable def upD:D→List D→Rs D
 |.str x,[]=>if x.length≤5000000 then .ok (.str (Txt.upper x)) else .no
 |_,_=>.no
noncomputable def loD:D→List D→Rs D
 |.str x,[]=>if x.length≤5000000 then .ok (.str (Txt.lower x)) else .no
 |_,_=>.no
theorem mt_up:MtR X "str.upper" (fun v vs H Q=>∃x,v=.str x∧vs=[]∧x.length≤5000000∧Q (.str (Txt.upper x)) H):=by
 intro pins s σ H v vs u us Q I r rs h
 obtain⟨x,rfl,rfl,hx,q⟩:=h
 obtain⟨t,rfl⟩:=r
 cases rs
 exact SC.upper (fit_upper (by lia)) ⟨.str (Txt.upper x),H,I.tok _,⟨_,rfl⟩,q⟩
theorem mt_lo:MtR X "str.lower" (fun v vs H Q=>∃x,v=.str x∧vs=[]∧x.length≤5000000∧Q (.str (Txt.lower x)) H):=by
 intro pins s σ H v vs u us Q I r rs h
 obtain⟨x,rfl,rfl,hx,q⟩:=h
 obtain⟨t,rfl⟩:=r
 cases rs
 exact SC.lower (fit_lower (by lia)) ⟨.str (Txt.lower x),H,I.tok _,⟨_,rfl⟩,q⟩
theorem md_up:MtD X "str.upper" upD:=⟨_,mt_up,fun F H v vs d ds Q fh r rs h=>by
 cases d with
 |str x=>
  cases ds with
  |nil=>
   simp only[Rep] at r;subst r
   simp only[Reps] at rs;subst rs
   obtain⟨z,h⟩:=y7 h
   exact⟨x,rfl,rfl,z,h _ F H (Ext.refl fh) (by simp only[Rep])⟩
  |cons a b=>exact h.elim
 |_=>cases ds <;> exact h.elim⟩
theorem md_lo:MtD X "str.lower" loD:=⟨_,mt_lo,fun F H v vs d ds Q fh r rs h=>by
 cases d with
 |str x=>
  cases ds with
  |nil=>
   simp only[Rep] at r;subst r
   simp only[Reps] at rs;subst rs
   obtain⟨z,h⟩:=y7 h
   exact⟨x,rfl,rfl,z,h _ F H (Ext.refl fh) (by simp only[Rep])⟩
  |cons a b=>exact h.elim
 |_=>cases ds <;> exact h.elim⟩
theorem Qx{o:Expr}{apos cpos:Pos}{fo:FE}(ho:PDE X o fo)(hbase:attributeBase o "upper" X.env (eval o X.env)=eval o X.env:=by rfl)(hline:(apos.endLine==cpos.line)=true:=by rfl):PDE X (.Call (.Attribute o "upper" apos) [] [] cpos) (Ji "str" upD fo):=
 JH F.plainAttrs_str F.slot_str_upper F.type_str_upper md_up ho hbase hline
theorem Qz{o:Expr}{apos cpos:Pos}{fo:FE}(ho:PDE X o fo)(hbase:attributeBase o "lower" X.env (eval o X.env)=eval o X.env:=by rfl)(hline:(apos.endLine==cpos.line)=true:=by rfl):PDE X (.Call (.Attribute o "lower" apos) [] [] cpos) (Ji "str" loD fo):=
 JH F.plainAttrs_str F.slot_str_lower F.type_str_lower md_lo ho hbase hline
noncomputable def uk:List D→Option (List Str)
 |[]=>some []
 |.str x::r=>(uk r).map (x :: ·)
 |_=>none
theorem X7{K:Frag}{F:Hp}:∀{ds:List D} {ys:List Str} {vs:List V} {us:List Value},uk ds=some ys→Reps K F ds vs→Vals vs us→StrsAre us ys
 |[],ys,vs,us,h,r,rv=>by
  simp only[Reps] at r;subst r;cases rv;cases h;exact .nil
 |.str x::ds,ys,vs,us,h,r,rv=>by
  simp only[Reps,Rep] at r
  obtain⟨v,r',rfl,rfl,t⟩:=r
  simp only[uk] at h
  cases q:uk ds with
  |none=>rw[q] at h;cases h
  |some zs=>
   rw[q] at h;cases h
   cases rv with
   |cons r1 r2=>
    obtain⟨tk,rfl⟩:=r1
    exact .cons x tk (X7 q t r2)
 |.non::_,_,_,_,h,_,_=>by cases h
 |.bl _::_,_,_,_,h,_,_=>by cases h
 |.int _::_,_,_,_,h,_,_=>by cases h
 |.lst _::_,_,_,_,h,_,_=>by cases h
 |.tup _::_,_,_,_,h,_,_=>by cases h
 |.scr _::_,_,_,_,h,_,_=>by cases h
 |.raw _::_,_,_,_,h,_,_=>by cases h
 |.exc _::_,_,_,_,h,_,_=>by cases h
 |.dct _ _::_,_,_,_,h,_,_=>by cases h
end
section
variable{X:Cx}{pos:Pos}{e tg:Expr}{es:List Expr}{fe:FE}{fs:FA}
noncomputable def wX:List D→Option (List Bool)
 |[]=>some []
 |.bl b::r=>(wX r).map (b :: ·)
 |_=>none
noncomputable def zf3(ds:List D):Rs D:=match ds with
 |[.lst xs]=>match wX xs with
  |some bs=>.ok (.bl (bs.any id))
  |none=>.no
 |_=>.no
theorem XC{K:Frag}{F:Hp}:∀{ds:List D} {bs:List Bool} {vs:List V} {us:List Value},wX ds=some bs→Reps K F ds vs→Vals vs us→us=bs.map Value.bool
 |[],bs,vs,us,h,r,rv=>by simp only[Reps] at r;subst r;cases rv;cases h;rfl
 |.bl x::ds,ys,vs,us,h,r,rv=>by
  simp only[Reps,Rep] at r
  obtain⟨v,r',rfl,rfl,t⟩:=r
  simp only[wX] at h
  cases q:wX ds with
  |none=>rw[q] at h;cases h
  |some zs=>
   rw[q] at h;cases h
   cases rv with
   |cons r1 r2=>
    cases r1
    rw[XC q t r2];rfl
 |.non::_,_,_,_,h,_,_=>by cases h
 |.str _::_,_,_,_,h,_,_=>by cases h
 |.int _::_,_,_,_,h,_,_=>by cases h
 |.lst _::_,_,_,_,h,_,_=>by cases h
 |.tup _::_,_,_,_,h,_,_=>by cases h
 |.scr _::_,_,_,_,h,_,_=>by cases h
 |.raw _::_,_,_,_,h,_,_=>by cases h
 |.exc _::_,_,_,_,h,_,_=>by cases h
 |.dct _ _::_,_,_,_,h,_,_=>by cases h
end
section
variable{X:Cx}{pos:Pos}{e tg:Expr}{es:List Expr}{fe:FE}{fs:FA}
noncomputable def rSlS:V→Option Int→Option Int→Hp→VK→Prop:=fun x lo hi H Q=>∃z,x=.str z∧z.length≤sizeLine∧Q (.str (Txt.slice z lo hi)) H
theorem sl_str:SlR X rSlS:=by
 intro pins s σ H x v vl vu lo hi sl Q I rx hs pl pu h
 obtain⟨z,rfl,hz,q⟩:=h
 obtain⟨t,rfl⟩:=rx
 refine⟨"str", _,F.slot_str_getitem.lookup,typeIs_str _ _ _,?_⟩
 obtain⟨o,e,c,d⟩:=hs
 have fin:∀t' k,EP X pins σ Q (.str (Txt.slice z lo hi) t') { s with toks:=k }:=fun t' k=>⟨.str _,H,I.tok _,⟨_,rfl⟩,q⟩
 have hl:=le_trans (Txt.slice_le z lo hi) hz
 cases pl with
 |none=>
  cases pu with
  |none=>exact wpAny_getItem_str_slice (l:=none) (u:=none) (st:=none) ⟨o,e,c,d⟩ rfl (post_val_or_str ⟨hl,fin⟩)
  |int j uj=>exact wpAny_getItem_str_slice (l:=none) (u:=some (j,uj)) (st:=none) ⟨o,e,c,d⟩ rfl (post_val_or_str ⟨hl,fin⟩)
 |int i ui=>
  cases pu with
  |none=>exact wpAny_getItem_str_slice (l:=some (i,ui)) (u:=none) (st:=none) ⟨o,e,c,d⟩ rfl (post_val_or_str ⟨hl,fin⟩)
  |int j uj=>exact wpAny_getItem_str_slice (l:=some (i,ui)) (u:=some (j,uj)) (st:=none) ⟨o,e,c,d⟩ rfl (post_val_or_str ⟨hl,fin⟩)
noncomputable def cutD(xs:List D)(lo hi:Option Int):List D:=(xs.drop (HT.sIx xs.length 0 lo)).take (HT.sIx xs.length xs.length hi-HT.sIx xs.length 0 lo)
noncomputable def slD(d:D)(lo hi:Option Int):Rs D:=match d with
 |.str x=>if x.length≤sizeLine then .ok (.str (Txt.slice x lo hi)) else .no
 |.lst ds=>.ok (.lst (cutD ds lo hi))
 |_=>.no
noncomputable abbrev FO:=DS→Rs (Option Int)
noncomputable def uX:FO:=fun _=>.ok none
noncomputable def wM(fe:FE):FO:=fun τ=>(fe τ).bind fun d=>match d with
 |.int i=>.ok (some i)
 |_=>.no
noncomputable def tOs(X:Cx)(f:FO):TO:=fun σ H Q=>∃F τ,RV X.K F τ σ H∧Ok X (f τ) fun o=>∀F' H',Ext F H F' H'→Q o H'
noncomputable def PDO(X:Cx)(e:Option Expr)(f:FO):Prop:=PO X e (tOs X f)
theorem PO.imp{e:Option Expr}{t t':TO}(h:PO X e t)(f:∀σ H Q,t' σ H Q→t σ H Q):PO X e t':=fun pins s σ H Q I q=>h pins s σ H Q I (f _ _ _ q)
theorem j6:PDO X none uX:=PO.imp LD fun σ H Q z_=>by obtain⟨F,τ,R,h⟩:=z_;exact h F H (Ext.refl R.fh)
theorem v9(h:PDE X e fe):PDO X (some e) (wM fe):=PO.imp (LC h) fun σ H Q z_=>by
 obtain⟨F,τ,R,h⟩:=z_
 refine tE.of R h.bind fun d v F1 H1 g x R1 r=>?_
 cases d with
 |int i=>simp only[Rep] at r;exact⟨i,r,g F1 H1 x⟩
 |_=>exact g.elim
noncomputable def eSl(fe:FE)(fl fh:FO):FE:=fun τ=>(fe τ).bind fun d=>(fl τ).bind fun l=>(fh τ).bind fun u=>slD d l u
theorem YS{lo hi:Option Expr}{fl fh:FO}{p2:Pos}(he:PDE X e fe)(hl:PDO X lo fl)(hu:PDO X hi fh):PDE X (.Subscript e (.Slice lo hi none p2) pos) (eSl fe fl fh):=
 PE.imp (Mb (sl_str.or Lh) he hl hu) fun σ H Q z_=>by
  obtain⟨F,τ,R,h⟩:=z_
  refine tE.of R h.bind fun d v F1 H1 g x R1 r=>?_
  refine⟨F1,τ,R1,g.bind.imp fun l gl F2 H2 x2=>⟨F2,τ,R1.ext x2,gl.bind.imp fun u gu F3 H3 x3=>?_⟩⟩
  have f3:=x3.fh
  have x13:=x.trans (x2.trans x3)
  cases d with
  |str z=>
   simp only[Rep] at r
   obtain⟨zz,gu⟩:=y7 gu
   exact .inl ⟨z,r,zz,gu _ F3 H3 x13 (by simp only[Rep])⟩
  |lst ds=>
   simp only[Rep] at r;obtain⟨a,vs,rfl,e1,t⟩:=r
   have gu:Ev X.K F H Q (.lst (cutD ds l u)):=gu
   refine .inr ⟨a,vs,rfl,SqL.of (f3 _ _ (x3.ff _ _ (x2.ff _ _ e1))),fun p hp=>gu _ _ _ (x13.trans (Ext.new f3 hp)) ?_⟩
   simp only[Rep]
   refine⟨p,_,rfl,zJ,?_⟩
   have t3:Reps X.K F3 (cutD ds l u) (Gc vs l u):=by
    unfold cutD Gc
    rw[← t.length]
    exact((t.mono (x2.ff.trans x3.ff)).drop _).take _
   exact t3.mono (yz (yd f3 hp))
  |_=>exact gu.elim
theorem Mi{x:Str}{v:V}{u:Value}{d:D}(hg:Gl X x)(hm:X.mg x=some u)(r:RelV v u)(rd:∀F,Rep X.K F d v)(hd:(x==("__debug__" : Str))=false:=by decide):PDE X (.Name x pos) (eC d):=VZ (LG hg hm r hd) rd
theorem j8{x:Str}{y:Str}{t:Tok}(hg:Gl X x)(hm:X.mg x=some (.str y t))(hd:(x==("__debug__" : Str))=false:=by decide):PDE X (.Name x pos) (eC (.str y)):=Mi (v:=.str y) hg hm ⟨t,rfl⟩ (fun _=>by simp only[Rep]) hd
theorem wU{x:Str}{y:Int}{t:Tok}(hg:Gl X x)(hm:X.mg x=some (.int y t))(hd:(x==("__debug__" : Str))=false:=by decide):PDE X (.Name x pos) (eC (.int y)):=Mi (v:=.int y) hg hm ⟨t,rfl⟩ (fun _=>by simp only[Rep]) hd
end
section
variable{X:Cx}{pos:Pos}{e tg:Expr}{es:List Expr}{fe:FE}{fs:FA}
noncomputable def iAnyT(K:Frag)(tl:TE):TI:=fun σ H R=>tl σ H fun x H1=>(∃a,x=.ref a∧(∃xs,SqL K H1 a xs)∧R (Itl K a) H1)∨(∃a,x=.ref a∧(∃xs,SqT K H1 a xs)∧R (Itt K a) H1)∨∃z,x=.str z∧R (Its z) H1
theorem zk8{l:Expr}{tl:TE}(hl:PE X l tl):PI X tg l (iAnyT X.K tl):=by
 intro pins s σ H R I h
 refine thn (hl pins s σ H _ I h) fun v s1 z_=>?_
 obtain⟨x,H1,I1,r1,q1⟩:=z_
 rcases q1 with ⟨a,e,⟨xs,hq⟩,q⟩|⟨a,e,⟨xs,hq⟩,q⟩|⟨z,e,q⟩
 ·subst e
  cases r1
  obtain⟨its,rv,p,hz⟩:=I1.list hq
  refine wpAny_pyIter_list p.isList ?_
  refine⟨s1.heap.objs.size,[s1.heap.objs.size],_,_,H1,rfl,I1.kept (t':=s1.toks) fun b o e=>get?_push_of_some _ e,Qd a _,⟨_,Heap.get?_push_size _ rfl,rfl,rfl⟩,fun b hb=>?_,q⟩
  have e:b=s1.heap.objs.size:=by simpa using hb
  subst e
  exact I1.fpOk (le_refl _) (I1.hok.fresh (le_refl _))
 ·subst e
  cases r1
  obtain⟨its,rv,p,hz⟩:=I1.tuple hq
  refine wpAny_pyIter_tuple (show s1.heap.IsTuple a its.toArray from p) ?_
  refine⟨s1.heap.objs.size,[s1.heap.objs.size],_,_,H1,rfl,I1.kept (t':=s1.toks) fun b o e=>get?_push_of_some _ e,UE a _,⟨_,Heap.get?_push_size _ rfl,rfl,rfl⟩,fun b hb=>?_,q⟩
  have e:b=s1.heap.objs.size:=by simpa using hb
  subst e
  exact I1.fpOk (le_refl _) (I1.hok.fresh (le_refl _))
 ·subst e
  obtain⟨t,rfl⟩:=r1
  have fin:∀(ty:String),(ty = "str_ascii_iterator" ∨ ty = "str_iterator")→PIE X pins σ tg R (.ref s1.heap.objs.size) { s1 with heap:=s1.heap.push { cls:=.type ty,data:=.fields #[.str z t,.int 0 0] } }:=fun ty hty=>by
   refine⟨s1.heap.objs.size,[s1.heap.objs.size],_,_,H1,rfl,I1.kept (t':=s1.toks) fun b o e=>get?_push_of_some _ e,Gw hty,⟨_,Heap.get?_push_size _ rfl,rfl,rfl⟩,fun b hb=>?_,q⟩
   have e:b=s1.heap.objs.size:=by simpa using hb
   subst e
   exact I1.fpOk (le_refl _) (I1.hok.fresh (le_refl _))
  cases ha:z.cps.all (· < 128)
  ·exact wpAny_pyIter_wide ha (fin _ (.inr rfl))
  ·exact wpAny_pyIter_ascii ha (fin _ (.inl rfl))
noncomputable def JU:D→Rs (List D)
 |.lst ds=>.ok ds
 |.scr ns=>.ok (ns.map .int)
 |.tup ds=>.ok ds
 |.str x=>.ok (um x)
 |_=>.no
noncomputable def xi(fe:FE):FA:=fun τ=>(fe τ).bind JU
theorem xx(he:PDE X e fe):PDI X tg e (xi fe):=
 PI.imp (zk8 he) fun σ H R z_=>by
  obtain⟨F,τ,Rv,h⟩:=z_
  refine tE.of Rv h.bind fun d v F1 H1 g x R1 r=>?_
  cases d with
  |lst ds=>
   simp only[Rep] at r;obtain⟨a,vs,rfl,q,t⟩:=r
   exact .inl ⟨a,rfl,⟨vs,SqL.of (R1.fh _ _ q)⟩,g _ F1 H1 x (JV (SqL.of q) t)⟩
  |scr ns=>
   simp only[Rep] at r;obtain⟨a,rfl,q⟩:=r
   exact .inl ⟨a,rfl,⟨_,R1.fh.seq q⟩,g _ F1 H1 x (JV q (Reps.ints ns))⟩
  |tup ds=>
   simp only[Rep] at r;obtain⟨a,vs,rfl,q,t⟩:=r
   exact .inr (.inl ⟨a,rfl,⟨vs,Same.seqT R1.fh q⟩,g _ F1 H1 x (zp6 q t)⟩)
  |str z=>simp only[Rep] at r;exact .inr (.inr ⟨z,r,g _ F1 H1 x zp7⟩)
  |_=>exact g.elim
end
noncomputable def DefOk(P:Program)(w:World)(K:Frag)(mg:Str→Option Value)(base:Heap)(x:Str)(k n:Nat)(ps:List Str)(g:List D→Rs D):Prop:=
 ∃f fd,FnOk P w K mg base CX0 k f fd ps (spD K n g)∧Binds K fd ps []∧keepIn K (.ref f)=true∧mg x=some (.ref f)
structure zS(K:Frag)(mg:Str→Option Value)(x:Str)(st:Stmt)(f:Addr)(fd:FuncData):Prop where
 fn:Fun K x x st f fd
 at_:mg x=some (.ref f)
section
variable{P:Program}{w:World}{K:Frag}{mg:Str→Option Value}{base:Heap}
theorem DefOk.mk{x:Str}{st:Stmt}{f:Addr}{fd:FuncData}{N ps:List Str}{k n:Nat}{fb:FS}{g:List D→Rs D}(D:zS K mg x st f fd)(S:zQ N ps (zl st))(hn:ps.length=n)
  (hb:∀(kV doc pm:Value) (an:Option Addr) (cdv ct:Value) (us:List Value),us.length=ps.length→bindArgs (fnOf x x (zO st) (zH st) (zl st) .none kV doc pm an cdv ct) ⟨us,[]⟩=pure (ps.zip us))
  (hbody:∀(cdv:Value) (A:Around) (outer:List Env) (s:Shared) (H:Hp) (E:XK),Room k (A.deeper (envOfC x (zl st) s.heap.objs.size f cdv)) →
   Zw (Vo CX0 P w K mg base N x (zl st) f cdv A outer s H E).nox (zH st) fb)
  (hg:∀ds d,ds.length=n→g ds=.ok d→yX N.length fb ds=.ok d):DefOk P w K mg base x (k+1) n ps g:=
 ⟨f,fd,FnD.to (fnD D.fn S hn hbody) hg,D.fn.binds hb,D.fn.kp,D.at_⟩
end
section
variable{X:Cx}{pos:Pos}{e tg:Expr}{es:List Expr}{fe:FE}{fs:FA}
theorem zC{k n:Nat}{ps:List Str}{g:List D→Rs D}{x:Str}{p:Pos}(D:DefOk X.prog X.w X.K X.mg X.base x k n ps g)(hr:Room k X.A)(ha:PDA X (e::es) fs)(hfs:∀τ ds,fs τ=.ok ds→ds.length=(e::es).length)(hn:(e::es).length=n:=by rfl)(hg:Gl X x:=by rfl)(hdb:(x==("__debug__" : Str))=false:=by decide)
  (he:starEach (e::es) X.env=(false,eval e X.env)::starEach es X.env:=by rfl) (hpl:(backTo pos (starEach es X.env)).any (·.1)=false:=by rfl):PDE X (.Call (.Name x p) (e::es) [] pos) (zo g fs):=by
 obtain⟨f,fd,F,hb,hk,hm⟩:=D
 exact Mj F hr hg hm hk hb ha hn hfs hdb he hpl
end
theorem wT{k:Nat}{A:Around}(r:Room k A):A.units+128<cLine:=by have:=r.un;lia
section
variable{X:Cx}{pos:Pos}{e a b:Expr}{fe fa fb:FE}
theorem Mf{i:Nat}{x:Str}{pos':Pos}(hN:X.N.Nodup)(hi:X.N[i]?=some x)(hx:Loc X.env.scope x)(he:PDE X e fe)
  (hf:X.fn x=true∨X.env.scope.names.lookup x=some .local:=by first|exact .inl rfl|exact .inr rfl|assumption):PDS X (.AugAssign (.Name x pos') .Add e pos) (UP i (uC fun i j=>.int (i+j)) fe):=
 LL hN hi hx he zp8 (fun F H x y dx dy Q fh r1 r2 q=>by
  cases dx with
  |int i=>
   cases dy with
   |int j=>
    simp only[Rep] at r1 r2;subst r1;subst r2
    exact⟨i,j,rfl,rfl,q _ F H (Ext.refl fh) (by simp only[Rep])⟩
   |_=>exact q.elim
  |_=>cases dy <;> exact q.elim) hf
end
noncomputable def Jx(K:Frag):Sp:=fun vs H Q _=>∃(a:Addr) (ns:List Int) (F:Hp),vs=[.ref a]∧Same F H∧TbT F H∧SqL K F a (ns.map V.int)∧ns.length≤63∧∀H',Q (.bl true) H'
theorem zo7{P:Program}{w:World}{K:Frag}{mg:Str→Option Value}{base:Heap}{k:Nat}{g:List D→Rs D}{p:Str}{f:Addr}{fd:FuncData}(F:FnOk P w K mg base CX0 k f fd [p] (spD K 1 g))(h:∀ns:List Int,ns.length≤63→g [.scr ns]=.ok (.bl true)) :
  FnOk P w K mg base CX0 k f fd [p] (Jx K):=by
 refine F.imp fun vs H Q E z_=>?_
 obtain⟨a,ns,Fz,e,fh,tt,hS,h63,q⟩:=z_
 subst e
 refine⟨rfl,[.scr ns],Fz,fh,tt,Reps.cons (by simp only[Rep];exact⟨a,rfl,hS⟩) Reps.nil,?_⟩
 rw[h ns h63]
 intro v F' H' _ r
 simp only[Rep] at r
 subst r
 exact q H'
section
variable{X:Cx}{pos:Pos}{e tg:Expr}{es:List Expr}{fe:FE}{fs:FA}
noncomputable def lst1:List D→Option (List D)
 |[.lst ds]=>some ds
 |_=>none
noncomputable def bl1:List D→Option Bool
 |[.bl b]=>some b
 |_=>none
theorem zr9{ds:List D}{b:Bool}(h:bl1 ds=some b):ds=[.bl b]:=by
 unfold bl1 at h;split at h <;> cases h;rfl
noncomputable def intD(ds:List D):Rs D:=match bl1 ds with
 |some b=>.ok (.int (if b then 1 else 0))
 |none=>.no
theorem J8:jJ X (.type "int") intD:=⟨fun vs H Q=>∃b,vs=[.bl b]∧Q (.int (if b then 1 else 0)) H,fun pins s σ H xs us Q I r z_=>by
  obtain⟨b,e,q⟩:=z_
  subst e
  obtain⟨u,rfl,ru⟩:=r.one
  cases ru
  exact call_int_bool ⟨.int (if b then 1 else 0),H,I.tok _,⟨_,rfl⟩,q⟩,fun F H vs ds Q fh r h=>by
  unfold intD at h
  cases q1:bl1 ds with
  |none=>rw[q1] at h;exact h.elim
  |some b=>
   rw[q1] at h
   have e:=zr9 q1
   subst e
   obtain⟨v,rfl,q⟩:=r.one
   simp only[Rep] at q;subst q
   exact⟨b,rfl,h _ F H (Ext.refl fh) (by simp only[Rep])⟩⟩
noncomputable def zh4(fi:FA):FA:=fun τ=>(fi τ).bind fun ds=>if ds.length≤16777216 then .ok ds else .no
end
section
open PySem.SeqAt
open PySem.AutoSeq1 (wpAny_loadPart')
open PySem.MeetsSeq PySem.MeetsSeq2 PySem.MeetsSeq3
end
section
variable{X:Cx}
end
section
variable{X:Cx}
noncomputable def VH:D→List D→Option (Str×Str)
 |.str x,[.str y]=>some (x,y)
 |_,_=>none
theorem GH{d:D}{ds:List D}{x y:Str}(h:VH d ds=some (x,y)):d=.str x∧ds=[.str y]:=by
 unfold VH at h;split at h <;> cases h;exact⟨rfl,rfl⟩
noncomputable def Jd(d:D)(ds:List D):Rs D:=match VH d ds with
 | some (x,y)=>match Builtin.Str.occurrences x y 0 x.length 1 with
  |i::_=>.ok (.int (i:Nat))
  |[]=>.no
 |none=>.no
theorem zn6:MtR X "str.index" (fun v vs H Q=>∃x y i r,v=.str x∧vs=[.str y]∧Builtin.Str.occurrences x y 0 x.length 1=i::r∧Q (.int (i:Nat)) H):=by
 intro pins s σ H v vs u us Q I r rs h
 obtain⟨x,y,i,rr,rfl,rfl,ho,q⟩:=h
 obtain⟨t,rfl⟩:=r
 obtain⟨u',rfl,t',rfl⟩:=vals1 rs
 exact SC.index ho ⟨.int (i:Nat),H,I.tok _,⟨_,rfl⟩,q⟩
theorem zn7:MtD X "str.index" Jd:=⟨_,zn6,fun F H v vs d ds Q fh r rs h=>by
 unfold Jd at h
 cases q:VH d ds with
 |none=>rw[q] at h;exact h.elim
 |some xy=>
  obtain⟨x,y⟩:=xy
  rw[q] at h
  obtain⟨rfl,rfl⟩:=GH q
  simp only[Rep] at r;subst r
  obtain⟨w,rfl,e⟩:=rs.one
  simp only[Rep] at e;subst e
  cases q2:Builtin.Str.occurrences x y 0 x.length 1 with
  |nil=>simp only[q2] at h;exact h.elim
  |cons i rr=>
   simp only[q2] at h
   exact⟨x,y,i,rr,rfl,rfl,q2,h _ F H (Ext.refl fh) (by simp only[Rep])⟩⟩
end
section
variable{rest:List Expr}{env:Env}
theorem VI{a b c}:starEach (.Constant a b c::rest) env=(false,eval (.Constant a b c) env)::starEach rest env:=rfl
theorem La{a b}:starEach (.List a b::rest) env=(false,eval (.List a b) env)::starEach rest env:=rfl
end
noncomputable def Itn(K:Frag)(l:Addr):It:=
 ⟨fun k H=>∃vs,SqL K H l vs∧k<vs.length,
  fun k H y H'=>∃p v,H p=none∧(∀vs,SqL K H l vs→vs[k]?=some v)∧y=.ref p∧H'=upd H p (.tup [.int k,v]),
  fun k H=>∃vs,SqL K H l vs∧vs.length≤k⟩
theorem Qe{P:Program}{w:World}{K:Frag}{elts:List Expr}{x1}{pos:Pos}{e it l:Addr}(D:e≠it) :
  Vt P w K (.Tuple elts x1 pos) (Itn K l) [e,it] e (fun k h=>(∃old,IsEnum h e it (k:Nat) old)∧h.IsListIter it l k) where
 mem:=by simp
 obj:=fun k h ⟨⟨old,h1⟩,⟨o5,e5,c5,d5⟩⟩ b hb=>by
  simp at hb
  rcases hb with rfl|rfl
  ·exact⟨_,h1,fun v z=>by cases z⟩
  ·exact⟨_,e5,fun v z=>by rw[d5] at z;cases z⟩
 keep:=fun k h h' ⟨⟨old,h1⟩,h5⟩ hk=>⟨⟨old,hk e (by simp) _ h1⟩,h5.at fun o q=>hk it (by simp) o q⟩
 item:=by
  rintro X hP hw hK hc k pins s σ H E I hf ⟨⟨old,h1⟩,h5⟩ hg
  subst hP hw hK
  obtain⟨vs,hq,l2⟩:=hg
  obtain⟨its,rv,p,hz⟩:=I.list hq
  have hlen:=rv.length
  have hvk:vs[k]?=some vs[k]:=by simp[l2]
  obtain⟨u2,eu,ru⟩:=rv.get hvk
  refine wpAny_pyNext_enum_item (x:=u2) h1 h5 p.isList (by simpa using eu) D fun h' q1 q2 q3 q4 q5=>?_
  have np:s.heap.objs.size≠e:=ne_of_gt (Heap.lt_size h1)
  refine⟨_,rfl,wpAny_letOwnedTupleGo_enum (s:={ s with heap:=h',toks:=s.toks+1 }) q1 fun h'' z1 sb=>?_⟩
  refine⟨.ref s.heap.objs.size,upd H s.heap.objs.size (.tup [.int k,vs[k]]),?_,rfl,⟨_,vs[k],I.hok.fresh (le_refl _),fun ws hw=>by rw[I.list_inj hw hq];exact hvk,rfl,rfl⟩,⟨⟨_,by simpa using z1⟩,?_⟩,fun b hb=>?_⟩
  ·refine(T2 (s:=s) (h':=h'') (t':=s.toks+1) (xs:=[.int k,vs[k]]) (ch:=[e,it]) I (fun b o hb q=>?_) hf (le_refl _) ⟨_,sb.extBut _ _ np q3,rfl,_,rfl⟩ (.cons ⟨_,rfl⟩ (.cons ru .nil)) (by show 2≤sizeLine;decide):Inv X pins σ _ { s with heap:=h'',toks:=s.toks+1 })
   simp at hb
   exact sb.extBut _ _ hb.1 (q5 b o hb.1 hb.2 q)
  ·obtain⟨o,q,r⟩:=q2
   exact⟨o,sb.extBut _ _ (Ne.symm D) q,r⟩
  ·have lt:b<s.heap.objs.size:=by
    simp at hb
    rcases hb with rfl|rfl
    ·exact Heap.lt_size h1
    ·obtain⟨o,q,r⟩:=h5
     exact Heap.lt_size q
   rw[zA (ne_of_lt lt)]
   exact(hf b hb).1
 done:=by
  rintro X hP hw hK hc k pins s σ H E I hf ⟨⟨old,h1⟩,h5⟩ hg
  subst hP hw hK
  obtain⟨vs,hq,hend⟩:=hg
  obtain⟨its,rv,p,hz⟩:=I.list hq
  have hlen:=rv.length
  obtain⟨f0,f1,f2,f3,f4,f5⟩:=hf it (by simp)
  exact wpAny_pyNext_enum_end (I.ok.hd hc) h1 h5 p.isList (by simp;lia) fun h' eb=>⟨rfl,I.turned (t':=s.toks) (fun b o hb q=>eb b o hb q) f0 f1 f3 f4 f5⟩
 self:=fun _ _ _ _ _ ⟨⟨_,h1⟩,_⟩ h=>wpAny_pyIter_enum h1 h
section
variable{X:Cx}{pos:Pos}{e a b:Expr}{es:List Expr}{fe fa fb:FE}{fs:FA}
noncomputable def zp9(K:Frag)(ta:TA):TI:=fun σ H R=>ta σ H fun vs H1=>∃l ws,vs=[.ref l]∧SqL K H1 l ws∧R (Itn K l) H1
theorem LF{ta:TA}{p:Pos}{elts:List Expr}{x1}{tpos:Pos}(hg:Gl X "enumerate")(hm:X.mg "enumerate" = none)(ha:PA X [a] ta)(hs:starEach [a] X.env=[(false,eval a X.env)]:=by rfl) :
  PI X (.Tuple elts x1 tpos) (.Call (.Name "enumerate" p) [a] [] pos) (zp9 X.K ta):=by
 intro pins s σ H R I h
 refine Call_ (uB I hg hm boot_enumerate (PyProof.Rows.callWith_type1 (thn (ha pos pins s σ H _ I h) fun us s1 z_=>?_) (by rw[hs];rfl) rfl))
 obtain⟨vs,H1,I1,r1,q1⟩:=z_
 obtain⟨l,ws,e,hq,q⟩:=q1
 subst e
 obtain⟨u1,rfl,ru⟩:=vals1 r1
 cases ru
 obtain⟨its,rr,pp,hz⟩:=I1.list hq
 refine call_enumerate_list pp.isList fun h' g1 g2 g3 g4=>?_
 have I5:Inv X pins σ H1 { s1 with heap:=h' }:=I1.kept (t':=s1.toks) g4
 refine wpAny_pyIter_enum (s:={ s1 with heap:=h' }) g1 ?_
 refine⟨s1.heap.objs.size+1,[s1.heap.objs.size+1,s1.heap.objs.size],_,_,H1,rfl,I5,Qe (l:=l) (by show(_:Nat)≠_;lia),⟨⟨_,g1⟩,g2⟩,fun b hb=>?_,q⟩
 have hb':s1.heap.objs.size≤b:=by
  simp at hb
  rcases hb with rfl|rfl <;> (show s1.heap.objs.size≤(_:Nat);lia)
 obtain⟨f0,f1,f2,f3,f4,f5⟩:=I1.fpOk (H':=H1) hb' (I1.hok.fresh hb')
 exact⟨f0,f1,f2,f3,f4,f5⟩
noncomputable def yN(n:Nat):List D→List D
 |[]=>[]
 |d::r=>.tup [.int n,d]::yN (n+1) r
theorem Zl:∀(ds:List D) (n:Nat),(yN n ds).length=ds.length:=by
 intro l_
 induction l_ with
 |nil=>
  rintro _
  exact rfl
 |cons _ r ih_=>
  rintro n
  simp[yN,ih_]
theorem Zm:∀{ds:List D} {n i:Nat} {p:D},(yN n ds)[i]?=some p→∃d,ds[i]?=some d∧p=.tup [.int ((n+i:Nat):Int),d]
 |[],_,_,_,h=>by simp[yN] at h
 |d::ds,n,0,p,h=>by simp[yN] at h;exact⟨d,rfl,by simpa using h.symm⟩
 |d::ds,n,i+1,p,h=>by
  obtain⟨d',h2,h3⟩:=Zm (n:=n+1) (i:=i) (by simpa[yN] using h)
  exact⟨d',by simpa using h2,by rw[h3];congr 3;show((n+1+i:Nat):Int)=_;congr 1;lia⟩
theorem zc2{K:Frag}{F1:Hp}{l:Addr}{ds:List D}{vs:List V}(e:SqL K F1 l vs)(r:Reps K F1 ds vs):Jp K (Itn K l) F1 (yN 0 ds):=fun i F H f1 f2=>by
 have q:SqL K H l vs:=(f1.trans f2).seq e
 have hl:=Zl ds 0
 have hr:=r.length
 refine⟨fun h=>⟨vs,q,by lia⟩,fun p hp=>?_⟩
 obtain⟨d,h2,rfl⟩:=Zm hp
 have l2:i<vs.length:=by have:=(List.getElem?_eq_some_iff.mp h2).1;lia
 refine⟨⟨vs,q,l2⟩,fun y H' yy=>?_⟩
 obtain⟨pa,v,hp,q',rfl,rfl⟩:=yy
 refine⟨upd F pa (.tup [.int i,v]),Ext.new f2 hp,?_⟩
 simp only[Rep]
 refine⟨pa,_,rfl,SqT.of zJ,Reps.cons (by simp only[Rep,zero_add]) (Reps.cons ?_ Reps.nil)⟩
 obtain⟨v',hv',rv'⟩:=r.get h2
 have e3:=q' vs q
 rw[hv'] at e3;cases e3
 exact(rv'.mono f1).mono (yz (yd f2 hp))
noncomputable def za2:List D→Option (List D)
 |[.lst ds]=>some ds
 |_=>none
theorem za1{ds xs:List D}(h:za2 ds=some xs):ds=[.lst xs]:=by
 unfold za2 at h;split at h <;> cases h;rfl
noncomputable def iEn(fs:FA):FA:=fun τ=>(fs τ).bind fun ds=>match za2 ds with
 |some xs=>.ok (yN 0 xs)
 |none=>.no
theorem YR{p:Pos}{elts:List Expr}{x1}{tpos:Pos}(hg:Gl X "enumerate")(hm:X.mg "enumerate" = none)(ha:PDA X [a] fs)(hs:starEach [a] X.env=[(false,eval a X.env)]:=by rfl) :
  PDI X (.Tuple elts x1 tpos) (.Call (.Name "enumerate" p) [a] [] pos) (iEn fs):=
 PI.imp (LF hg hm ha hs) fun σ H R z_=>by
  obtain⟨F,τ,Rv,h⟩:=z_
  refine tAs.of Rv h.bind fun ds vs F1 H1 g x R1 r=>?_
  cases q1:za2 ds with
  |none=>rw[q1] at g;exact g.elim
  |some xs=>
   rw[q1] at g
   have e:=za1 q1
   subst e
   obtain⟨v,rfl,r1⟩:=r.one
   simp only[Rep] at r1
   obtain⟨l,ws,rfl,e1,t⟩:=r1
   exact⟨l,ws,rfl,SqL.of (R1.fh _ _ e1),g _ F1 H1 x (zc2 (SqL.of e1) t)⟩
end
section
variable{X:Cx}{pins:List (Addr×Obj)}{σ:St}{H:Hp}{s:Shared}{h':Heap}
end
section
variable{X:Cx}{pins:List (Addr×Obj)}{σ:St}{H:Hp}{s:Shared}{h':Heap}{a:Addr}{cls:Value}
variable{M:Model}{A:Around}{E:Value→Shared→Prop}{Q:Unit→Shared→Prop}
theorem np(b:Addr):∀p∈([]:List (Addr×Obj)),p.1≠b:=fun p hp=>nomatch hp
end
section
variable{P:Program}{w:World}{K:Frag}{mg:Str→Option Value}{base:Heap}
end
section
variable{X:Cx}{pos:Pos}{e:Expr}{es:List Expr}{fe:FE}{fs:FA}{st:Stmt}
end
section
variable{P:Program}{w:World}{K:Frag}{mg:Str→Option Value}{base:Heap}
end
section
variable{X:Cx}{pins:List (Addr×Obj)}{σ:St}{H:Hp}{s:Shared}{a:Addr}{cls:Value}
end
section
variable{prog:Program}{w:World}{A:Around}{E:Value→Shared→Prop}{K:Frag}{x C:Addr}
end
section
variable{X:Cx}{pos:Pos}{a b:Expr}{fa:FE}
end
section
variable{X:Cx}{pos:Pos}{e:Expr}{es:List Expr}{fs:FA}{st:Stmt}
end
section
variable{X:Cx}{pos:Pos}{e a b:Expr}{es:List Expr}{fe fa fb:FE}{fs:FA}
end
section
variable{X:Cx}{pos:Pos}{e a b:Expr}{es:List Expr}{fe fa fb:FE}{fs:FA}
noncomputable def Xh:List D→Option (List Int)
 |[]=>some []
 |.int i::r=>(Xh r).map (i :: ·)
 |_=>none
theorem Uh:∀{ds:List D} {is:List Int},Xh ds=some is→ds=is.map D.int
 |[],is,h=>by cases h;rfl
 |d::r,is,h=>by
  cases d with
  |int i=>
   simp only[Xh] at h
   cases q:Xh r with
   |none=>rw[q] at h;cases h
   |some l=>rw[q] at h;cases h;rw[Uh q];rfl
  |_=>cases h
theorem jB{K:Frag}{F:Hp}:∀{is:List Int} {vs:List V},Reps K F (is.map D.int) vs→vs=is.map V.int
 |[],vs,r=>by simpa only[map_nil,Reps] using r
 |i::is,vs,r=>by
  simp only[map_cons,Reps,Rep] at r
  obtain⟨v,r',rfl,rfl,t⟩:=r
  rw[jB t];rfl
theorem Vx{is:List Int}{us:List Value}(h:Vals (is.map V.int) us){i:Nat}{u:Value}(hu:us[i]?=some u):∃t,u=Value.int (is.getD i 0) t:=by
 have hl:=h.length
 have hi:i<is.length:=by
  have:=(List.getElem?_eq_some_iff.mp hu).1
  rw[length_map] at hl;lia
 obtain⟨w,h1,h2⟩:=h.get (i:=i) (x:=V.int is[i]) (by simp[hi])
 rw[hu] at h1;cases h1
 obtain⟨t,rfl⟩:=h2
 exact⟨t,by simp[getD_eq_getElem?_getD,hi]⟩
noncomputable def mxI(is:List Int):Int:=is.getD (argBest (fun i j=>decide (is.getD i 0 > is.getD j 0)) (is.length-1)) 0
theorem MB(is:List Int)(h:is≠[]):mxI is∈is∧∀i∈is,i≤mxI is:=by
 obtain⟨h1,h2⟩:=argBest_gt (fun i=>is.getD i 0) (is.length-1)
 have hl:=length_pos_iff.mpr h
 refine⟨?_,fun i hi=>?_⟩
 ·unfold mxI
  have:argBest (fun i j=>decide (is.getD i 0 > is.getD j 0)) (is.length-1)<is.length:=by lia
  rw[getD_eq_getElem?_getD,getElem?_eq_getElem this]
  exact getElem_mem this
 ·obtain⟨j,hj,rfl⟩:=List.mem_iff_getElem.mp hi
  have:=h2 j (by lia)
  unfold mxI
  simpa[getD_eq_getElem?_getD,hj] using this
noncomputable def lq1:List D→Option (List Int)
 |[.lst xs]=>Xh xs
 |_=>none
theorem zo2{ds:List D}{is:List Int}(h:lq1 ds=some is):ds=[.lst (is.map D.int)]:=by
 unfold lq1 at h
 split at h
 ·rw[Uh h]
 ·cases h
noncomputable def Wm(ds:List D):Rs D:=match lq1 ds with
 |some is=>if is=[] then .no else .ok (.int (mxI is))
 |none=>.no
theorem Gi(hc:X.calm=true):CallR X (.builtin "max") (fun vs H Q=>∃l is,vs=[.ref l]∧H l=some (.lst (is.map V.int))∧is≠[]∧Q (.int (mxI is)) H):=by
 rintro pins s σ H vs us Q I r ⟨l,is,e1,e,hne,q⟩
 subst e1
 obtain⟨u,rfl,r1⟩:=vals1 r
 cases r1
 obtain⟨its,rr,p,_⟩:=I.list (SqL.of (K:=X.K) e)
 have hh:X.A.in1.handled=none:=I.ok.hd hc
 have hlt:l<s.heap.objs.size:=I.hok.lt e
 have hln:=rr.length
 rw[length_map] at hln
 have hl0:=length_pos_iff.mpr hne
 refine call_max_walk (wpAny_pyIter_list p.isList ⟨s.heap.objs.size,_,_,_,_,_,fun i j=>decide (is.getD i 0 > is.getD j 0),rfl,Walks.list hh s.heap.objs.size l (ne_of_lt hlt) its.toArray,⟨⟨_,Heap.get?_push_size _ rfl,rfl,rfl⟩,p.isList.push _⟩,fun b hb=>?_,by simp;lia,CmpOf.ints_gt (fun i=>is.getD i 0) (fun i v hP=>Vx rr (by simpa using hP)),fun v h' tk hP hk=>?_⟩)
 ·have:b=s.heap.objs.size∨b=l:=by simpa using hb
  rw[Heap.size_push]
  rcases this with z|z
  ·rw[z];exact lt_succ_self _
  ·rw[z];exact lt_succ_of_lt hlt
 ·have en:its.toArray.size=is.length:=by simp[hln]
  rw[en] at hP
  obtain⟨t,rfl⟩:=Vx rr (i:=argBest (fun i j=>decide (is.getD i 0 > is.getD j 0)) (is.length-1)) (by simpa using hP)
  have I1:Inv X pins σ H { s with heap:=s.heap.push { cls:=.type "list_iterator", data:=.fields #[.ref l,.int 0 0] } }:=I.kept (t':=s.toks) fun b o e=>get?_push_of_some _ e
  have fk:=I.fpOk (H':=H) (le_refl s.heap.objs.size) (I.hok.fresh (le_refl _))
  refine⟨.int (mxI is),H,WO (s:={ s with heap:=s.heap.push { cls:=.type "list_iterator", data:=.fields #[.ref l,.int 0 0] } }) (ch:=[s.heap.objs.size]) I1 (fun b o hb e=>hk b o hb e) (fun b hb=>?_) (fun b hb=>?_),⟨t,rfl⟩,q⟩
  ·have z:b=s.heap.objs.size:=by simpa using hb
   subst z;exact fk
  ·have z:b=s.heap.objs.size:=by simpa using hb
   subst z;exact fk.1
theorem ze5(hc:X.calm=true):jJ X (.builtin "max") Wm:=⟨_,Gi hc,fun F H vs ds Q fh r h=>by
 unfold Wm at h
 cases q:lq1 ds with
 |none=>rw[q] at h;exact h.elim
 |some is=>
  rw[q] at h
  have e:=zo2 q
  subst e
  obtain⟨v,rfl,r1⟩:=r.one
  simp only[Rep] at r1
  obtain⟨l,ws,rfl,e1,t⟩:=r1
  have:=jB t
  subst this
  by_cases z:is=[]
  ·simp only[if_pos z] at h;exact h.elim
  ·simp only[if_neg z] at h
   exact⟨l,is,rfl,fh _ _ e1,z,h _ F H (Ext.refl fh) (by simp only[Rep])⟩⟩
end
section
variable{P:Program}{w:World}{K:Frag}{mg:Str→Option Value}{base:Heap}
end
section
variable{X:Cx}{pos:Pos}{e:Expr}{es:List Expr}{fe:FE}{fs:FA}
end
section
variable{X:Cx}{scope:Scope}{N':List Str}
end
section
variable{X:Cx}{scope:Scope}{N':List Str}{tg iter elt:Expr}{ifs:List Expr}{pos:Pos}{wi:TI}{g:TG}{ti:TT}{te:TE}{s0:St→St}
end
section
variable{X:Cx}{scope:Scope}{tn fr:List Str}{idx:List Nat}{tg iter elt:Expr}{ifs:List Expr}{pos:Pos}{fi:FA}{set:FG}{ft:FT}{fe:FE}
end
section
variable{X:Cx}{tg:Expr}
end
section
variable{X:Cx}{pos:Pos}{e tg:Expr}{es:List Expr}{fe:FE}{fs:FA}
end
section
variable{P:Program}{w:World}{K:Frag}{mg:Str→Option Value}{base:Heap}
end
section
variable{X:Cx}{pos:Pos}{e:Expr}{es:List Expr}{fe:FE}{fs:FA}
end
section
variable{X:Cx}{pins:List (Addr×Obj)}{σ:St}{H:Hp}{s:Shared}{a:Addr}{cls:Value}
end
section
variable{X:Cx}{pos:Pos}{e a b:Expr}{es:List Expr}{fe fa fb:FE}{fs:FA}
end
section
variable{X:Cx}{tg:Expr}
end
section
variable{X:Cx}{pos:Pos}{e tg:Expr}{es:List Expr}{fe:FE}{fs:FA}
end
section
variable{X:Cx}{pos:Pos}{e a b:Expr}{es:List Expr}{fe fa fb:FE}{fs:FA}
end
noncomputable def BM(mg:Str→Option Value)(base:Heap):Prop:=∃bm o,mg "__builtins__" = some (.ref bm)∧bm≠builtinsNs∧base.get? bm=some o∧o.cls=.type "module" ∧ o.dict=some builtinsNs∧o.data=.plain
noncomputable def zi5(ts:List Addr)(H:Hp):Prop:=∀b,H b=none∨(∃o xs,H b=some (.frz o (.lst xs)))∨(b∈ts∧H b=some (.tbl #[]))
theorem QP{P:Program}{w:World}{K:Frag}{mg mb:Str→Option Value}{CX:CXT}{k:Nat}{fa a:Addr}{fd:FuncData}{x:Str}{sp:Sp}{s₁:Shared}{vs:List Value}{ns:List Int}{ts:List Addr}
  (KX:K.In s₁.heap) (hns:s₁.heap.Ns mainGlobals mg) (hb:s₁.heap.Ns builtinsNs mb) (hbb:∀x:Str,x ≠ "__name__" → mb x=bootBuiltins x) (hlim:s₁.heap.NoLimit) (hg:s₁.gens = #[])
  (ha:s₁.heap.get? a=some { cls:=.type "list", data:=.seq vs.toArray }) (hi:IntsAre vs ns) (hl:ns.length≤sizeLine) (hr:Room k callerA)
  (tb:∀p∈ts,K.lookup p=none∧s₁.heap.get? p=some (PySem.W.tabObj #[])∧isCodeTable s₁.heap p)
  (hbm:BM mg s₁.heap) (F:∀base:Heap,K.In base→base.Ns mainGlobals mg→BM mg base→FnOk P w K mg base CX k fa fd [x] sp) (hbind:∀(s:Shared) (u:Value),BindsTo s fd ⟨[u],[]⟩ [(x,u)])
  (hsp:∀H F:Hp,zi5 ts H→Same F H→(∀p∈ts,F p=none∧H p=some (.tbl #[]))→SqL K F a (ns.map V.int)→sp [.ref a] H (fun v H'=>v=.bl true) fun _ _ _=>False)
  (hCX:∀H e s',CX [] H s₁ (fun _ _ _=>False) e s'→False) :
  codeAny (model P w) callerA (.call (.ref fa) ⟨[.ref a],[]⟩) (fun r s'=>r=.ok (.ret (.bool true))∧OldK s₁.heap s'.heap∧s'.os=s₁.os∧AllBare s'.gens) s₁:=by
 have rv:=vals_ints hi
 have lenV:=hi.length
 have nat:a∉ts:=fun z=>by
  obtain⟨_,e,_⟩:=tb a z
  rw[ha] at e;cases e
 have core:∀H F:Hp,zi5 ts H→Same F H→(∀p∈ts,F p=none∧H p=some (.tbl #[]))→SqL K F a (ns.map V.int)→HOk P w H s₁.heap→(∀b,H b≠none→b=a∨b∈ts)→(H a≠none→K.lookup a=none) →
   codeAny (model P w) callerA (.call (.ref fa) ⟨[.ref a],[]⟩) (fun r s'=>r=.ok (.ret (.bool true))∧OldK s₁.heap s'.heap∧s'.os=s₁.os∧AllBare s'.gens) s₁:=by
  intro H Fz hO fh hT hS hok hA hK
  have base_of:∀{b:Addr} {o:Obj},s₁.heap.get? b=some o→H b=none→(X2 s₁.heap H).get? b=some o:=fun e n=>M2 e n
  have noA:∀{b:Addr} {o:Obj} {es:Array DictEntry} {ep:Nat},s₁.heap.get? b=some o→o.data=.dict es ep→H b=none:=fun {b o es ep} e d=>by
   cases q:H b with
   |none=>rfl
   |some u=>
    rcases hA b (by rw[q];simp) with e' | e'
    ·subst e'
     rw[ha] at e;cases e
     have d':Data.seq vs.toArray _=Data.dict es ep:=d
     cases d'
    ·obtain⟨_,e2,_⟩:=tb b e'
     rw[e] at e2;cases e2
     cases d
  have nsK:∀{b:Addr} {m:Str→Option Value},s₁.heap.Ns b m→(X2 s₁.heap H).Ns b m:=fun {b m} ⟨o,es,ep,e,d,r⟩=>⟨o,es,ep,base_of e (noA e d),d,r⟩
  have hKb:K.In (X2 s₁.heap H):=fun b o e=>base_of (KX b o e) (by
   cases q:H b with
   |none=>rfl
   |some u=>
    rcases hA b (by rw[q];simp) with e' | e'
    ·subst e'
     rw[hK (by rw[q];simp)] at e;cases e
    ·rw[(tb b e').1] at e;cases e)
  have hM:Mod K mg (X2 s₁.heap H):=⟨hKb,nsK hns,⟨mb,nsK hb,hbb⟩,let ⟨mc,h1,h2⟩:=hlim;⟨mc,nsK h1,h2⟩⟩
  have e0:zf8 P w K mg (X2 s₁.heap H) callerA [] s₁ H:=⟨rfl,hM,fun b o e=>LW e,Nat.le_of_eq (Q2 _ _),trivial,fun b hb=>absurd (show b∈([]:List Addr) from hb) (by simp),hok,.of_eq hg⟩
  have hbb:BM mg (X2 s₁.heap H):=by
   obtain⟨bm,o,b1,b2,b3,b4,b5,b6⟩:=hbm
   refine⟨bm,o,b1,b2,base_of b3 ?_,b4,b5,b6⟩
   cases q:H bm with
   |none=>rfl
   |some u=>
    rcases hA bm (by rw[q];simp) with e' | e'
    ·subst e'
     rw[ha] at b3;cases b3;cases b6
    ·obtain⟨_,e2,_⟩:=tb bm e'
     rw[b3] at e2;cases e2;cases b6
  refine codeAny_mono ((F _ hKb (nsK hns) hbb).run callerA [] s₁ H ⟨[.ref a],[]⟩ [.ref a] [.ref a] _ _ hr e0 (hbind s₁ (.ref a)) (.cons rfl .nil) (hsp H Fz hO fh hT hS)) fun r s' h=>?_
  cases r with
  |error e=>exact(hCX H e s' h).elim
  |ok fl=>
   cases fl with
   |next=>exact False.elim h
   |brk=>exact False.elim h
   |cont=>exact False.elim h
   |ret u=>
    obtain⟨v,H',os,bare,un,hok',r',q'⟩:=h
    subst q'
    obtain rfl:u=Value.bool true:=r'
    have was:∀b o,s₁.heap.get? b=some o→asItWas s₁.heap s'.heap b o:=fun b o e=>by
     cases q:H b with
     |none=>exact .inl (un.keep b o e q (by intro z;exact absurd (show b∈([]:List Addr) from z) (by simp)) (by simp))
     |some u=>
      rcases hO b with z|⟨ob,xs,z⟩|⟨hb,z⟩
      ·rw[q] at z;cases z
      ·have z2:=un.frzs b ob _ z
       obtain⟨e1,_⟩:=hok b _ z
       obtain⟨e2,_⟩:=hok' b _ z2
       rw[e] at e1;cases e1
       exact .inl e2
      ·obtain⟨more,z2⟩:=un.tbls b _ z
       have e2:s'.heap.get? b=some { cls:=.none,data:=.fields (#[]++more) }:=hok' b _ z2
       obtain⟨_,e3,e4⟩:=tb b hb
       rw[e] at e3;cases e3
       exact .inr (.inl ⟨e4,rfl,#[],more,rfl,e2⟩)
    refine⟨rfl,⟨was,fun b o e=>?_⟩,os,bare⟩
    obtain⟨o',e'⟩:=un.there b o e (by simp)
    exact⟨o',e'⟩
 cases hk:K.lookup a with
 |some o=>
  have e:=KX a o hk
  rw[ha] at e
  cases e
  refine core (fun b=>if b∈ts then some (.tbl #[]) else none) (fun _=>none) (fun b=>?_) (fun _ _ z=>nomatch z) (fun p hp=>⟨rfl,if_pos hp⟩) (.inr ⟨_,vs.toArray,_,hk,rfl,rfl,rfl,by rw[size_toArray,lenV];exact hl,by simpa using rv⟩) (fun b u z=>?_) (fun b z=>?_) fun z=>absurd (if_neg nat) z
  ·by_cases h:b∈ts
   ·exact .inr (.inr ⟨h,if_pos h⟩)
   ·exact .inl (if_neg h)
  ·by_cases h:b∈ts
   ·have z':=(if_pos h).symm.trans z
    cases z'
    exact(tb b h).2.1
   ·have z':=(if_neg h).symm.trans z
    cases z'
  ·by_cases h:b∈ts
   ·exact .inr h
   ·exact absurd (if_neg h) z
 |none=>
  refine core (fun b=>if b∈ts then some (.tbl #[]) else if b=a then some (.frz { cls:=.type "list", data:=.seq vs.toArray } (.lst (ns.map V.int))) else none) (fun b=>if b=a then some (.frz { cls:=.type "list", data:=.seq vs.toArray } (.lst (ns.map V.int))) else none) (fun b=>?_) (fun b o z=>?_) (fun p hp=>⟨if_neg (fun z:p=a=>nat (z ▸ hp)),if_pos hp⟩) (.inl (.inr ⟨{ cls:=.type "list", data:=.seq vs.toArray },if_pos rfl⟩)) (fun b u z=>?_) (fun b z=>?_) fun _=>hk
  ·by_cases h:b∈ts
   ·exact .inr (.inr ⟨h,if_pos h⟩)
   ·by_cases hb:b=a
    ·exact .inr (.inl ⟨_,_,(if_neg h).trans (if_pos hb)⟩)
    ·exact .inl ((if_neg h).trans (if_neg hb))
  ·by_cases hb:b=a
   ·have z':=(if_pos hb).symm.trans z
    cases z'
    subst hb
    exact(if_neg nat).trans (if_pos rfl)
   ·have z':=(if_neg hb).symm.trans z
    cases z'
  ·by_cases h:b∈ts
   ·have z':=(if_pos h).symm.trans z
    cases z'
    exact(tb b h).2.1
   ·have z1:=(if_neg h).symm.trans z
    by_cases hb:b=a
    ·have z':=(if_pos hb).symm.trans z1
     cases z'
     subst hb
     exact⟨ha,by rw[length_map];exact hl,vs,_,rv,ha⟩
    ·have z':=(if_neg hb).symm.trans z1
     cases z'
  ·by_cases h:b∈ts
   ·exact .inr h
   ·by_cases hb:b=a
    ·exact .inl hb
    ·exact absurd ((if_neg h).trans (if_neg hb)) z
theorem V7{K:Frag}{p:Addr}(h:p∉K.map (·.1)):K.lookup p=none:=by
 rw[show K.lookup p=List.lookup p K from rfl,List.lookup_eq_none_iff]
 intro q hq
 simp only[bne_iff_ne,ne_eq,beq_eq_false_iff_ne]
 intro z
 exact h (mem_map.mpr ⟨q,hq,z.symm⟩)
noncomputable def TX(K:Frag):Prop:=∀r∈Tabs.rows,∃c,PySem.W.codeHdIn K c r.1=true
theorem walkM{l:PySem.W.OpenLaw}{q:Program}{loose:List Str}{XP:(Str→Option Value)→Heap→Prop}{d:DefRec}{K:Params→Frag}{k:Nat}{p:Str}{as ts:List Addr}{has:∀P,as=(K P).map (·.1)}(hn:l.most=some 63)(hdf:d.params.defaults=[])(hk:Room k callerA)
  (hts:(Tabs.rows.all fun r=>ts.contains r.1 && !as.contains r.1)=true)
  (F:∀(w:World) (mg:Str→Option Value) (fa:Addr) (h:Heap),(K w.params).In h→h.Ns mainGlobals mg→mg d.name=some (.ref fa)→TX (K w.params) ∧
   ∃fd:FuncData,(∀(s:Shared) (u:Value),BindsTo s fd ⟨[u],[]⟩ [(p,u)])∧∀base:Heap,(K w.params).In base→base.Ns mainGlobals mg→BM mg base→FnOk l.prog w (K w.params) mg base CX0 k fa fd [p] (Jx (K w.params))) :
  PySem.W.WalkO q loose XP (PySem.W.kmHook K as has ts).says l.row.toRowW d [] (fun f vs=>PySem.call f vs):=by
 refine Att.attach_call hn hdf fun w s₀ s₁ mg mb fa o pm cd doc a vs ns G Y ho hd hcd hmg hobj hints hlen hg=>?_
 have KX:=PySem.W.km_in_of Y
 have hT:=PySem.W.km_tabs_of Y
 obtain⟨tin,fd,hb,hF⟩:=F w mg fa _ KX G.T.g hmg
 refine QP (ts:=Tabs.rows.map (·.1)) (CX:=CX0) (sp:=Jx (K w.params)) KX G.T.g G.T.b G.T.builtins G.T.nolimit hg hobj hints (le_trans hlen (by decide)) hk (fun p hp=>?_) ?_ hF hb (fun H Fz hO fh hT hS=>⟨a,ns,Fz,rfl,fh,⟨fun r hr=>?_,fun d b e=>(by rcases hO d with z|⟨_,_,z⟩|⟨_,z⟩ <;> (rw[z] at e;cases e))⟩,hS,hlen,fun _=>rfl⟩) fun H e s' z=>z
 ·obtain⟨r,hr,rfl⟩:=mem_map.mp hp
  have z:=all_eq_true.mp hts r hr
  rw[Bool.and_eq_true] at z
  have hp':=hT r.1 (by simpa using z.1)
  obtain⟨c,hc⟩:=tin r hr
  refine⟨V7 (by rw[← has];simpa using z.2),hp',?_⟩
  exact((PySem.W.codeHd_of_K KX hc).tab hp').isCodeTable
 ·obtain⟨bm,ob,b1,b2,b3,b4,b5,b6⟩:=G.T.bmain
  exact⟨bm,ob,b1,b2,b3,b4,b5,b6⟩
 ·obtain⟨h1,h2⟩:=hT r.1 (mem_map.mpr ⟨r,hr,rfl⟩)
  exact⟨h1,.inl h2⟩
open PySem.W
noncomputable def lxI:List Int→List Int→Bool
 |[],[]=>false
 |[],_::_=>true
 |_::_,[]=>false
 |a::x,b::y=>if a=b then lxI x y else decide (a<b)
theorem Xc:∀x:List Int,lxI x x=false:=by
 intro l_
 induction l_ with
 |nil=>
  exact rfl
 |cons a x ih_=>
  rw[lxI,if_pos rfl];exact ih_
theorem JM:∀x y:List Int,lxI x y=false→lxI y x=false→x=y
 |[],[],_,_=>rfl
 |[],_::_,h,_=>by simp[lxI] at h
 |_::_,[],_,h=>by simp[lxI] at h
 |a::x,b::y,h1,h2=>by
  rw[lxI] at h1 h2
  by_cases e:a=b
  ·subst e
   rw[if_pos rfl] at h1 h2
   rw[JM x y h1 h2]
  ·rw[if_neg e] at h1
   rw[if_neg (Ne.symm e)] at h2
   simp only[decide_eq_false_iff_not] at h1 h2
   lia
theorem wQ:∀x y z:List Int,lxI x y=true→lxI y z=true→lxI x z=true
 |[],[],_,h,_=>by simp[lxI] at h
 |_::_,[],_,h,_=>by simp[lxI] at h
 |_,_::_,[],_,h=>by simp[lxI] at h
 |[],_::_,_::_,_,_=>rfl
 |a::x,b::y,c::z,h1,h2=>by
  rw[lxI] at h1 h2 ⊢
  by_cases e:a=b
  ·subst e
   rw[if_pos rfl] at h1
   by_cases e2:a=c
   ·subst e2;rw[if_pos rfl] at h2 ⊢;exact wQ x y z h1 h2
   ·rw[if_neg e2] at h2 ⊢;exact h2
  ·rw[if_neg e] at h1
   simp only[decide_eq_true_eq] at h1
   by_cases e2:b=c
   ·subst e2;rw[if_neg e];simpa using h1
   ·rw[if_neg e2] at h2
    simp only[decide_eq_true_eq] at h2
    rw[if_neg (by lia)];simp only[decide_eq_true_eq];lia
theorem QH{x y:List Int}(h:lxI x y=true):lxI y x=false:=by
 cases q:lxI y x with
 |false=>rfl
 |true=>have:=wQ x y x h q;rw[Xc] at this;cases this
theorem Yt{x y:List Int}(h:lxI x y=false)(n:x≠y):lxI y x=true:=by
 cases q:lxI y x with
 |true=>rfl
 |false=>exact absurd (JM x y h q) n
noncomputable def Pw{α:Type}(lt:Nat→Nat→Bool)(n:Nat):KasT α→(α→Prop)→Prop
 |.ret a,G=>G a
 |.ask i j k,G=>i<n∧j<n∧Pw lt n (k (lt i j)) G
section
variable{lt:Nat→Nat→Bool}{n:Nat}
theorem G2{α:Type}{t u:KasT α}{G:α→Prop}(h:Pw lt n t G):Pw lt n (if true=true then t else u) G:=by rw[if_pos rfl];exact h
theorem zk2{α:Type}{t u:KasT α}{G:α→Prop}(h:Pw lt n u G):Pw lt n (if false=true then t else u) G:=by rw[if_neg (by simp)];exact h
theorem Pw.bind{α β:Type}{f:α→KasT β}{G:β→Prop}:∀(t:KasT α),Pw lt n t (fun a=>Pw lt n (f a) G)→Pw lt n (t.bind f) G
 |.ret _,h=>h
 |.ask i j k,h=>⟨h.1,h.2.1,Pw.bind (k (lt i j)) h.2.2⟩
theorem Pw.mono{α:Type}{G G':α→Prop}(hg:∀a,G a→G' a):∀(t:KasT α),Pw lt n t G→Pw lt n t G'
 |.ret a,h=>hg a h
 |.ask i j k,h=>⟨h.1,h.2.1,Pw.mono hg (k (lt i j)) h.2.2⟩
theorem Pw.wp{α:Type}{cmp:Nat→Nat→(Bool→Shared→Prop)→Shared→Prop}{s:Shared}(hc:∀(i j:Nat) (C:Bool→Shared→Prop),i<n→j<n→C (lt i j) s→cmp i j C s){G:α→Prop}{Q:α→Shared→Prop}(hq:∀a,G a→Q a s) :
  ∀(t:KasT α),Pw lt n t G→t.kasWp cmp Q s
 |.ret a,h=>hq a h
 |.ask i j k,h=>hc i j _ h.1 h.2.1 (Pw.wp hc hq (k (lt i j)) h.2.2)
end
section
variable{n:Nat}{κ:Nat→List Int}{p:Array Nat}
noncomputable abbrev ltK(κ:Nat→List Int)(i j:Nat):Bool:=lxI (κ i) (κ j)
noncomputable abbrev gK(κ:Nat→List Int)(p:Array Nat)(k:Nat):List Int:=κ (p.getD k 0)
noncomputable abbrev PmK(n:Nat)(p:Array Nat):Prop:=p.toList.Perm (List.range n)
theorem wB{p:Array Nat}(k:Nat):p.getD k 0=(p[k]?).getD 0:=by simp
theorem Yl(h:PmK n p):p.size=n:=by have:=h.length_eq;simpa using this
theorem uI(h:PmK n p)(hn:0<n)(k:Nat):p.getD k 0<n:=by
 rw[wB]
 cases q:p[k]? with
 |none=>exact hn
 |some v=>
  have hv:v∈p.toList:=by
   have q':p.toList[k]?=some v:=by rw[← q];simp
   exact mem_of_getElem? q'
  have:=h.mem_iff.mp hv
  simpa using this
theorem zk7(h:PmK n p){i j:Nat}(hi:i<n)(hj:j<n)(hij:i≠j):p.getD i 0≠p.getD j 0:=by
 have nd:p.toList.Nodup:=h.symm.nodup List.nodup_range
 have sz:=Yl h
 have key:∀a b:Nat,a<b→b<n→p.getD a 0≠p.getD b 0:=fun a b hab hb=>by
  have ha':a<p.toList.length:=by simp[sz];lia
  have hb':b<p.toList.length:=by simp[sz];lia
  have:=List.pairwise_iff_getElem.mp nd a b ha' hb' hab
  rw[wB,wB]
  have ea:p[a]?=some p.toList[a]:=by rw[getElem_toList];exact Array.getElem?_eq_getElem _
  have eb:p[b]?=some p.toList[b]:=by rw[getElem_toList];exact Array.getElem?_eq_getElem _
  rw[ea,eb]
  exact this
 rcases lt_or_ge i j with z|z
 ·exact key i j z hj
 ·exact(key j i (by lia) hi).symm
noncomputable def Srt(κ:Nat→List Int)(p:Array Nat)(a:Nat):Prop:=∀i j,i<j→j<a→lxI (gK κ p i) (gK κ p j)=true
noncomputable def Dsc(κ:Nat→List Int)(p:Array Nat)(a:Nat):Prop:=∀i j,i<j→j<a→lxI (gK κ p j) (gK κ p i)=true
variable(inj:∀i j,i<n→j<n→κ i=κ j→i=j)
include inj
theorem zq6(h:PmK n p){i j:Nat}(hi:i<n)(hj:j<n)(hij:i≠j):gK κ p i≠gK κ p j:=fun e=>
 zk7 h hi hj hij (inj _ _ (uI h (by lia) i) (uI h (by lia) j) e)
theorem GJ(h:PmK n p){a:Nat}(hs:Srt κ p a)(h1:1≤a)(ha:a<n)(e:lxI (gK κ p a) (gK κ p (a-1))=false):Srt κ p (a+1):=fun i j hij hj=>by
 rcases lt_or_ge j a with z|z
 ·exact hs i j hij z
 ·obtain rfl:j=a:=by lia
  have l:=Yt e (zq6 inj h ha (by lia) (by lia))
  by_cases hi:i=j-1
  ·subst hi;exact l
  ·exact wQ _ _ _ (hs i (j-1) (by lia) (by lia)) l
omit inj in
theorem Uu{a:Nat}(hs:Dsc κ p a)(h1:1≤a)(e:lxI (gK κ p a) (gK κ p (a-1))=true):Dsc κ p (a+1):=fun i j hij hj=>by
 rcases lt_or_ge j a with z|z
 ·exact hs i j hij z
 ·obtain rfl:j=a:=by lia
  by_cases hi:i=j-1
  ·subst hi;exact e
  ·exact wQ _ _ _ e (hs i (j-1) (by lia) (by lia))
theorem Jn(hp:PmK n p):∀(f a:Nat),1≤a→a+f≤n→Srt κ p a →
  Pw (ltK κ) n (kas_asc p f a) fun m=>a≤m∧m≤a+f∧Srt κ p m∧(m<a+f→lxI (gK κ p m) (gK κ p (m-1))=true):=by
 intro l_
 induction l_ with
 |zero=>
  rintro a h1 h2 hs
  exact⟨le_refl _,le_refl _,hs,fun z=>absurd z (lt_irrefl _)⟩
 |succ f ih_=>
  rintro a h1 h2 hs
  unfold kas_asc
  refine⟨uI hp (by lia) _,uI hp (by lia) _,?_⟩
  cases e:ltK κ (p.getD a 0) (p.getD (a-1) 0) with
  |true=>
   refine G2 ?_
   exact⟨le_refl _,by lia,hs,fun _=>e⟩
  |false=>
   refine zk2 ?_
   refine Pw.mono (fun m ⟨q1,q2,q3,q4⟩=>⟨by lia,by lia,q3,fun z=>q4 (by lia)⟩) _ (ih_ (a+1) (by lia) (by lia) (GJ inj hp hs h1 (by lia) e))
theorem J5(hp:PmK n p):∀(f a:Nat),1≤a→a+f≤n→Dsc κ p a →
  Pw (ltK κ) n (kas_desc f p a 0) fun r=>r.1=p∧r.2.2=0∧a≤r.2.1∧r.2.1≤a+f∧Dsc κ p r.2.1:=by
 intro l_
 induction l_ with
 |zero=>
  rintro a h1 h2 hs
  exact⟨rfl,rfl,le_refl _,le_refl _,hs⟩
 |succ f ih_=>
  rintro a h1 h2 hs
  unfold kas_desc
  refine⟨uI hp (by lia) _,uI hp (by lia) _,?_⟩
  cases e:ltK κ (p.getD a 0) (p.getD (a-1) 0) with
  |true=>
   refine G2 ?_
   rw[if_neg (by lia)]
   refine Pw.mono (fun m ⟨q1,q2,q3,q4,q5⟩=>⟨q1,q2,by lia,by lia,q5⟩) _ (ih_ (a+1) (by lia) (by lia) (Uu hs h1 e))
  |false=>
   refine zk2 ?_
   refine⟨uI hp (by lia) _,uI hp (by lia) _,?_⟩
   have e2:ltK κ (p.getD (a-1) 0) (p.getD a 0)=true:=Yt e (zq6 inj hp (by lia) (by lia) (by lia))
   rw[e2]
   refine G2 ?_
   exact⟨rfl,rfl,le_refl _,Nat.le_add_right _ _,hs⟩
omit inj in
theorem zh7(hp:PmK n p){m:Nat}(hm:m≤n)(k:Nat):gK κ (kas_rev p 0 m) k=if k<m then gK κ p (m-1-k) else gK κ p k:=by
 unfold gK
 rw[wB,show(kas_rev p 0 m)[k]?=_ from getElem?_mirror_all (by rw[Yl hp];exact hm) k]
 by_cases z:k<m
 ·rw[if_pos ⟨zero_le _,z⟩,if_pos z,← wB,zero_add]
 ·rw[if_neg (fun y=>z y.2),if_neg z,← wB]
omit inj in
theorem G8(hp:PmK n p)(i j:Nat):PmK n (kas_rev p i j):=(Array.perm_iff_toList_perm.mp (mirror_perm p i j ((j-i) / 2))).trans hp
omit inj in
theorem Lb(hp:PmK n p){m:Nat}(hm:m≤n)(hd:Dsc κ p m):Srt κ (kas_rev p 0 m) m:=fun i j hij hj=>by
 rw[zh7 hp hm,zh7 hp hm,if_pos (by lia),if_pos hj]
 exact hd _ _ (by lia) (by lia)
theorem GC(hp:PmK n p){m:Nat}(h1:1≤m)(hm:m≤n)(hd:Dsc κ p m):Pw (ltK κ) n (kas_tail3 m n p) fun r=>PmK n r.2∧1≤r.1∧r.1≤n∧Srt κ r.2 r.1:=by
 unfold kas_tail3
 refine Pw.bind _ (Pw.mono (fun m' z_=>?_) _ (Jn inj (G8 hp 0 m) (n-m) m h1 (by lia) (Lb hp hm hd)))
 obtain⟨q1,q2,q3,q4⟩:=z_
 exact⟨G8 hp 0 m,by lia,by lia,q3⟩
theorem To(hp:PmK n p)(hn:2≤n):Pw (ltK κ) n (kas_count n p) fun r=>PmK n r.2∧1≤r.1∧r.1≤n∧Srt κ r.2 r.1:=by
 unfold kas_count
 refine Pw.bind _ (Pw.mono (fun m z_=>?_) _ (Jn inj hp (n-1) 1 (le_refl _) (by lia) fun i j hij hj=>by lia))
 obtain⟨q1,q2,q3,q4⟩:=z_
 by_cases e:m=n
 ·rw[if_pos (by simpa using e)]
  exact⟨hp,by lia,by lia,q3⟩
 ·rw[if_neg (by simpa using e)]
  have l:=q4 (by lia)
  by_cases z:m > 1
  ·rw[if_pos z]
   refine⟨uI hp (by lia) _,uI hp (by lia) _,?_⟩
   have:ltK κ (p.getD 0 0) (p.getD (m-1) 0)=true:=q3 0 (m-1) (by lia) (by lia)
   rw[this]
   refine G2 ?_
   exact⟨hp,by lia,by lia,q3⟩
  ·rw[if_neg z]
   obtain rfl:m=1:=by lia
   unfold kas_descPart
   have d1:Dsc κ p 1:=fun i j hij hj=>by lia
   refine Pw.bind _ (Pw.mono (fun r z_=>?_) _ (J5 inj hp (n-(1+1)) (1+1) (by lia) (by lia) (Uu d1 (le_refl _) l)))
   obtain⟨r1,r2,r3,r4,r5⟩:=z_
   rw[if_neg (by lia),r1]
   exact GC inj hp (by lia) (by lia) r5
theorem YM(hp:PmK n p){k:Nat}(hk:k<n)(hs:Srt κ p k):∀(f l r:Nat),l≤r→r≤k→r-l≤f→(∀i,i<l→lxI (gK κ p i) (gK κ p k)=true)→(∀i,r≤i→i<k→lxI (gK κ p k) (gK κ p i)=true) →
  Pw (ltK κ) n (kas_place p k f l r) fun m=>m≤k∧(∀i,i<m→lxI (gK κ p i) (gK κ p k)=true)∧(∀i,m≤i→i<k→lxI (gK κ p k) (gK κ p i)=true):=by
 intro l_
 induction l_ with
 |zero=>
  rintro l r h1 h2 h3 h4 h5
  obtain rfl:l=r:=by lia
  exact⟨h2,h4,h5⟩
 |succ f ih_=>
  rintro l r h1 h2 h3 h4 h5
  unfold kas_place
  by_cases z:l ≥ r
  ·rw[if_pos z]
   obtain rfl:l=r:=by lia
   exact⟨h2,h4,h5⟩
  ·rw[if_neg z]
   refine⟨uI hp (by lia) _,uI hp (by lia) _,?_⟩
   cases e:ltK κ (p.getD k 0) (p.getD ((l+r) / 2) 0) with
   |true=>
    refine G2 ?_
    refine ih_ l ((l+r) / 2) (by lia) (by lia) (by lia) h4 fun i hi hik=>?_
    by_cases q:i=(l+r) / 2
    ·subst q;exact e
    ·exact wQ _ _ _ e (hs _ i (by lia) hik)
   |false=>
    refine zk2 ?_
    refine ih_ ((l+r) / 2+1) r (by lia) (by lia) (by lia) (fun i hi=>?_) h5
    have e2:=Yt e (zq6 inj hp hk (by lia) (by lia))
    by_cases q:i=(l+r) / 2
    ·subst q;exact e2
    ·exact wQ _ _ _ (hs i _ (by lia) (by lia)) e2
omit inj in
theorem zh8(hp:PmK n p){k l:Nat}(hk:k<n)(hl:l≤k)(i:Nat):gK κ (bubble p k (k-l)) i=if i=l then gK κ p k else if l<i∧i≤k then gK κ p (i-1) else gK κ p i:=by
 unfold gK
 rw[wB,getElem?_bubble (by rw[Yl hp];exact hk) (k-l) (by lia) i,show k-(k-l)=l by lia]
 split
 ·rw[← wB]
 ·split
  ·rw[← wB]
  ·rw[← wB]
theorem Tw:∀(f:Nat) (p:Array Nat) (k:Nat),PmK n p→k+f=n→Srt κ p k→Pw (ltK κ) n (kas_bin f p k) fun q=>PmK n q∧Srt κ q n:=by
 intro l_
 induction l_ with
 |zero=>
  rintro p k hp e hs
  obtain rfl:k=n:=by lia
  exact⟨hp,hs⟩
 |succ f ih_=>
  rintro p k hp e hs
  unfold kas_bin
  refine Pw.bind _ (Pw.mono (fun l z_=>?_) _ (YM inj hp (by lia) hs k 0 k (zero_le _) (le_refl _) (by lia) (fun i hi=>by lia) (fun i hi hik=>by lia)))
  obtain⟨q1,q2,q3⟩:=z_
  refine ih_ _ (k+1) ((Array.perm_iff_toList_perm.mp (bubble_perm p k (k-l))).trans hp) (by lia) fun i j hij hj=>?_
  rw[zh8 hp (by lia) q1,zh8 hp (by lia) q1]
  by_cases a1:i=l
  ·rw[if_pos a1,if_neg (by lia),if_pos (by lia)]
   exact q3 _ (by lia) (by lia)
  ·rw[if_neg a1]
   by_cases a2:l<i∧i≤k
   ·rw[if_pos a2,if_neg (by lia),if_pos (by lia)]
    exact hs _ _ (by lia) (by lia)
   ·rw[if_neg a2]
    by_cases b1:j=l
    ·rw[if_pos b1];exact q2 _ (by lia)
    ·rw[if_neg b1]
     by_cases b2:l<j∧j≤k
     ·rw[if_pos b2]
      by_cases c:i=j-1
      ·lia
      ·exact hs _ _ (by lia) (by lia)
     ·rw[if_neg b2];exact hs _ _ hij (by lia)
theorem Ld(hn:2≤n):Pw (ltK κ) n (kas_sort n) fun q=>PmK n q∧Srt κ q n:=by
 unfold kas_sort
 refine Pw.bind _ (Pw.mono (fun r z_=>?_) _ (To inj (p:=List.toArray (List.range n)) (by show(List.toArray (List.range n)).toList.Perm _;simp) hn))
 obtain⟨q1,q2,q3,q4⟩:=z_
 by_cases z:r.1<n
 ·rw[if_pos z,Nat.max_eq_left q2]
  exact Tw inj _ _ _ q1 (by lia) q4
 ·rw[if_neg z]
  obtain e:r.1=n:=by lia
  rw[e] at q4
  exact⟨q1,q4⟩
end
noncomputable def Xj{α:Type}(x:List Int×α):List (List Int×α)→List (List Int×α)
 |[]=>[x]
 |y::r=>if lxI x.1 y.1=true then x::y::r else y::Xj x r
noncomputable def ww{α:Type}:List (List Int×α)→List (List Int×α)
 |[]=>[]
 |x::r=>Xj x (ww r)
theorem ZL{α:Type}(x:List Int×α):∀l,(Xj x l).Perm (x::l):=by
 intro l_
 induction l_ with
 |nil=>
  exact List.Perm.refl _
 |cons y r ih_=>
  unfold Xj
  split
  ·exact List.Perm.refl _
  ·exact((ih_).cons y).trans (List.Perm.swap x y r)
theorem ul{α:Type}:∀l:List (List Int×α),(ww l).Perm l:=by
 intro l_
 induction l_ with
 |nil=>
  exact List.Perm.refl _
 |cons x r ih_=>
  exact(ZL x _).trans ((ih_).cons x)
theorem Ul{α:Type}(x:List Int×α):∀l:List (List Int×α),l.Pairwise (fun a b=>lxI a.1 b.1=true)→(∀y∈l,y.1≠x.1)→(Xj x l).Pairwise fun a b=>lxI a.1 b.1=true:=by
 intro l_
 induction l_ with
 |nil=>
  rintro _ _
  unfold Xj;simp
 |cons y r ih_=>
  rintro h hd
  unfold Xj
  obtain⟨h1,h2⟩:=pairwise_cons.mp h
  split
  ·rename_i z
   refine pairwise_cons.mpr ⟨fun a ha=>?_,h⟩
   rcases mem_cons.mp ha with rfl|ha
   ·exact z
   ·exact wQ _ _ _ z (h1 a ha)
  ·rename_i z
   have z':lxI y.1 x.1=true:=Yt (by simpa using z) (hd y mem_cons_self).symm
   refine pairwise_cons.mpr ⟨fun a ha=>?_,ih_ h2 fun a ha=>hd a (mem_cons_of_mem _ ha)⟩
   rcases mem_cons.mp ((ZL x r).mem_iff.mp ha) with rfl|ha
   ·exact z'
   ·exact h1 a ha
theorem Wa{α:Type}:∀l:List (List Int×α),(l.map (·.1)).Nodup→(ww l).Pairwise fun a b=>lxI a.1 b.1=true:=by
 intro l_
 induction l_ with
 |nil=>
  rintro _
  unfold ww;exact List.Pairwise.nil
 |cons x r ih_=>
  rintro h
  unfold ww
  rw[map_cons,nodup_cons] at h
  refine Ul x _ (ih_ h.2) fun y hy e=>h.1 ?_
  rw[← e]
  exact mem_map.mpr ⟨y,(ul r).mem_iff.mp hy,rfl⟩
theorem Wi{α:Type}{r:α→α→Prop}(as:∀a b,r a b→r b a→False):∀{l m:List α},l.Perm m→l.Pairwise r→m.Pairwise r→l=m
 |[],m,p,_,_=>(List.Perm.nil_eq p)
 |a::l,[],p,_,_=>by have:=p.length_eq;simp at this
 |a::l,b::m,p,h1,h2=>by
  obtain⟨x1,x2⟩:=pairwise_cons.mp h1
  obtain⟨y1,y2⟩:=pairwise_cons.mp h2
  by_cases e:a=b
  ·subst e
   rw[Wi as ((List.perm_cons a).mp p) x2 y2]
  ·have ha:a∈b::m:=p.mem_iff.mp mem_cons_self
   have hb:b∈a::l:=p.mem_iff.mpr mem_cons_self
   rcases mem_cons.mp ha with z|z
   ·exact absurd z e
   ·rcases mem_cons.mp hb with w|w
    ·exact absurd w.symm e
    ·exact(as a b (x1 b w) (y1 a z)).elim
theorem UI{α:Type}{l m:List (List Int×α)}(p:l.Perm m)(h:l.Pairwise fun a b=>lxI a.1 b.1=true)(nd:(m.map (·.1)).Nodup):l=ww m:=
 Wi (fun a b x y=>by rw[QH x] at y;cases y) (p.trans (ul m).symm) h (Wa m nd)
theorem VJ{α:Type}{ks:List (List Int)}{ds:List α}{q:Array Nat}{d:α}(hl:ks.length=ds.length)(nd:ks.Nodup)(hp:q.toList.Perm (List.range ds.length))(hs:Srt (fun i=>ks.getD i []) q ds.length) :
  q.toList.map (fun i=>ds.getD i d)=(ww (ks.zip ds)).map (·.2):=by
 have hz:(ks.zip ds).map (·.1)=ks:=List.map_fst_zip (by lia)
 have e0:(List.range ds.length).map (fun i=>(ks.getD i [],ds.getD i d))=ks.zip ds:=by
  apply List.ext_getElem
  ·simp[hl]
  ·intro i h1 h2
   have a1:i<ds.length:=by simpa using h1
   have a2:i<ks.length:=by lia
   simp[a1,a2]
 have key:q.toList.map (fun i=>(ks.getD i [],ds.getD i d))=ww (ks.zip ds):=by
  refine UI (by rw[← e0];exact hp.map _) ?_ (by rw[hz];exact nd)
  rw[pairwise_map,List.pairwise_iff_getElem]
  intro i j hi hj hij
  have sz:q.size=ds.length:=Yl hp
  have:=hs i j hij (by simpa[sz] using hj)
  unfold gK at this
  rw[wB,wB] at this
  have ea:q[i]?=some q.toList[i]:=by rw[getElem_toList];exact Array.getElem?_eq_getElem _
  have eb:q[j]?=some q.toList[j]:=by rw[getElem_toList];exact Array.getElem?_eq_getElem _
  rw[ea,eb] at this
  exact this
 rw[← key,map_map]
 rfl
open PySem.W
noncomputable def KTs(h:Heap):List Value→List (List Int)→Prop
 |[],[]=>True
 |v::vs,k::ks=>(∃a o its n,v=Value.ref a∧h.get? a=some o∧o.cls=.type "tuple" ∧ o.data=.seq its n∧IntsAre its.toList k∧k≠[])∧KTs h vs ks
 |_,_=>False
theorem KTs.len{h:Heap}:∀{vs:List Value} {ks:List (List Int)},KTs h vs ks→vs.length=ks.length
 |[],[],_=>rfl
 |_::vs,_::ks,r=>by rw[length_cons,length_cons,KTs.len r.2]
 |[],_::_,r=>r.elim
 |_::_,[],r=>r.elim
theorem KTs.get{h:Heap}:∀{vs:List Value} {ks:List (List Int)} {i:Nat},KTs h vs ks→i<ks.length→∃a o its n,vs.getD i Value.none=Value.ref a∧h.get? a=some o∧o.cls=.type "tuple" ∧ o.data=.seq its n∧IntsAre its.toList (ks.getD i [])∧ks.getD i []≠[]
 |[],[],_,_,hi=>by simp at hi
 |_::vs,_::ks,0,r,_=>by simpa using r.1
 |_::vs,_::ks,i+1,r,hi=>by
  obtain⟨a,o,its,n,q⟩:=KTs.get (i:=i) r.2 (by simpa using hi)
  exact⟨a,o,its,n,by simpa using q⟩
 |[],_::_,_,r,_=>r.elim
 |_::_,[],_,r,_=>r.elim
theorem KTs.firsts{h:Heap}:∀{vs:List Value} {ks:List (List Int)},KTs h vs ks→∃fs:List Value,KatTups h vs fs∧fs.length=vs.length∧∀v∈fs,∃n t,v=Value.int n t
 |[],[],_=>⟨[],KatTups.nil,rfl,fun _ z=>nomatch z⟩
 |v::vs,k::ks,⟨⟨a,o,its,n,e1,e2,e3,e4,e5,e6⟩,r⟩=>by
  obtain⟨fs,q1,q2,q3⟩:=KTs.firsts r
  subst e1
  have:∃i t,its[0]?=some (Value.int i t):=by
   obtain⟨l⟩:=its
   cases e5 with
   |nil=>exact absurd rfl e6
   |cons i t _=>exact⟨i,t,rfl⟩
  obtain⟨i,t,h0⟩:=this
  refine⟨_,KatTups.cons e2 e3 e4 h0 q1,by simp[q2],fun v hv=>?_⟩
  rcases mem_cons.mp hv with rfl|hv
  ·exact⟨_,_,rfl⟩
  ·exact q3 v hv
 |[],_::_,r=>r.elim
 |_::_,[],r=>r.elim
section
variable{prog:Program}{w:World}{A:Around}{E:Value→Shared→Prop}{s:Shared}
theorem Ww{vs:List Value}{ks:List (List Int)}{Q:SortKind→Shared→Prop}(h:KTs s.heap vs ks)(hn:0<vs.length)(q:Q (tuples' true) s):wpAny (model prog w) A (keyKind' vs.toArray) Q E s:=by
 obtain⟨fs,q1,q2,q3⟩:=h.firsts
 refine kat_kind (T:=.type "int") q1 (by lia) (fun v hv=>?_) (by decide) q
 obtain⟨i,t,rfl⟩:=q3 v hv
 exact Looks.now
theorem V8{Q:Bool→Shared→Prop}{fin:Bool}:∀{xs ys:List Int} {us ws:List Value} (i:Nat),IntsAre us xs→IntsAre ws ys→fin=decide (xs.length<ys.length)→Q (lxI xs ys) s→KatLex prog w A true fin Q (us.zip ws) i s
 |_,_,_,_,i,.nil,.nil,e,q=>by
  have e:fin=false:=by simpa using e
  subst e
  exact kat_nil q
 |_,_,_,_,i,.nil,.cons _ _ _,e,q=>by
  have e:fin=true:=by simpa using e
  subst e
  exact kat_nil q
 |_,_,_,_,i,.cons _ _ _,.nil,e,q=>by
  have e:fin=false:=by simpa using e
  subst e
  exact kat_nil q
 |_,_,_,_,i,.cons a t r1,.cons b u r2,e,q=>by
  rw[lxI] at q
  refine kat_cons (wpAny_eqBool_int ?_)
  by_cases z:a=b
  ·subst z
   rw[if_pos rfl] at q
   rw[beq_self_eq_true]
   exact kat_yes (V8 (i+1) r1 r2 (by rw[e];simp) q)
  ·rw[if_neg z] at q
   rw[show(a==b)=false by simpa using z]
   refine kat_no ?_
   cases hi:(true&&i==0) with
   |true=>exact oneLt_int q
   |false=>exact kat_one _ _ (PyProof.Rows.lt_int (show PySem.W.BoolBack Q (.bool (decide (a<b))) s from q))
theorem TJ{vs:List Value}{ks:List (List Int)}{n:Nat}(h:KTs s.heap vs ks)(hn:ks.length=n)(i j:Nat)(C:Bool→Shared→Prop)(hi:i<n)(hj:j<n)(q:C (ltK (fun i=>ks.getD i []) i j) s):kas_ask prog w A (tuples' true) vs i j C s:=by
 obtain⟨a,o,its,m,e1,e2,e3,e4,e5,e6⟩:=h.get (i:=i) (by lia)
 obtain⟨a',o',its',m',f1,f2,f3,f4,f5,f6⟩:=h.get (i:=j) (by lia)
 unfold kas_ask
 rw[e1,f1]
 refine kat_lt e2 e4 f2 f4 (V8 0 e5 f5 ?_ q)
 have l1:=e5.length
 have l2:=f5.length
 rw[length_toList] at l1 l2
 rw[l1,l2]
theorem VQ{vs us:List Value}{ks:List (List Int)}{Q:SortSt→Shared→Prop}(h:KTs s.heap vs ks)(hl:vs.length=us.length)(h2:2≤us.length)(h64:us.length<64)(nd:ks.Nodup)
  (q:∀(p:Array Nat) (st:SortSt),PmK us.length p→Srt (fun i=>ks.getD i []) p us.length→(arrOf st).map (·.2)=List.toArray (p.toList.map fun i=>us.getD i Value.none)→failedOf st=none→Q st s) :
  wpAny (model prog w) A ((sortRuns').run (SortSt.mk' (tuples' true) (vs.toArray.zip us.toArray) #[] 7 none)) (fun r s'=>Q r.2 s') E s:=by
 have hk:ks.length=us.length:=by rw[← h.len,hl]
 refine kat_run (G:=fun p s'=>s'=s∧PmK us.length p∧Srt (fun i=>ks.getD i []) p us.length) hl h2 h64 (fun p st' s' h1 h3 h4 h5=>?_) ?_
 ·obtain⟨rfl,h5,h6⟩:=h5
  exact q p st' h5 h6 (kat_snds hl h3) h4
 ·have inj:∀i j,i<us.length→j<us.length→ks.getD i []=ks.getD j []→i=j:=fun i j hi hj e=>by
   have key:∀a b:Nat,a<b→b<us.length→ks.getD a []≠ks.getD b []:=fun a b hab hb=>by
    have:=List.pairwise_iff_getElem.mp nd a b (by lia) (by lia) hab
    have ea:ks.getD a []=ks[a]'(by lia):=by simp[show a<ks.length by lia]
    have eb:ks.getD b []=ks[b]'(by lia):=by simp[show b<ks.length by lia]
    rw[ea,eb];exact this
   rcases Nat.lt_trichotomy i j with z|z|z
   ·exact absurd e (key i j z hj)
   ·exact z
   ·exact absurd e.symm (key j i z hi)
  exact Pw.wp (fun i j C hi hj=>TJ h hk i j C hi hj) (fun p hp=>⟨rfl,hp⟩) _ (Ld (κ:=fun i=>ks.getD i []) inj h2)
end
noncomputable def Xi:List D→Option (List Int)
 |[]=>some []
 |.int i::r=>(Xi r).map (i :: ·)
 |_=>none
noncomputable def zb8:D→Option (List Int)
 |.tup ds=>Xi ds
 |_=>none
theorem Ui:∀{ds:List D} {ns:List Int},Xi ds=some ns→ds=ns.map D.int
 |[],ns,h=>by cases h;rfl
 |.int i::r,ns,h=>by
  simp only[Xi] at h
  cases q:Xi r with
  |none=>rw[q] at h;cases h
  |some m=>rw[q] at h;cases h;rw[Ui q];rfl
 |.non::_,_,h=>by cases h
 |.bl _::_,_,h=>by cases h
 |.str _::_,_,h=>by cases h
 |.lst _::_,_,h=>by cases h
 |.tup _::_,_,h=>by cases h
 |.scr _::_,_,h=>by cases h
 |.raw _::_,_,h=>by cases h
 |.exc _::_,_,h=>by cases h
 |.dct _ _::_,_,h=>by cases h
theorem zb7{d:D}{ns:List Int}(h:zb8 d=some ns):d=.tup (ns.map D.int):=by
 cases d <;> first|cases h|skip
 rename_i ds
 rw[Ui (ds:=ds) h]
noncomputable def Z0:List D→Option (List (List Int))
 |[]=>some []
 |d::r=>match zb8 d,Z0 r with
  |some k,some ks=>some (k::ks)
  |_,_=>none
theorem Uc:∀{ds:List D} {ks:List (List Int)},Z0 ds=some ks→ds=ks.map fun k=>D.tup (k.map D.int)
 |[],ks,h=>by cases h;rfl
 |d::r,ks,h=>by
  simp only[Z0] at h
  cases q:zb8 d with
  |none=>rw[q] at h;cases h
  |some k=>
   cases q2:Z0 r with
   |none=>rw[q,q2] at h;cases h
   |some ks'=>
    rw[q,q2] at h;cases h
    rw[zb7 q,Uc q2];rfl
section
variable[Tabs]{X:Cx}{pins:List (Addr×Obj)}{σ:St}{F H:Hp}{s:Shared}
theorem Ug:∀{ns:List Int} {vs:List V} {us:List Value},Reps X.K F (ns.map D.int) vs→Vals vs us→IntsAre us ns
 |[],_,_,r,v=>by
  simp only[map_nil,Reps] at r;subst r
  cases v;exact .nil
 |n::ns,_,_,r,v=>by
  simp only[map_cons,Reps] at r
  obtain⟨x,xs,rfl,rx,rr⟩:=r
  simp only[Rep] at rx
  subst rx
  cases v with
  |cons e t=>
   rename_i u us
   obtain⟨t',e⟩:∃t',u=Value.int n t':=e
   subst e
   exact .cons _ _ (Ug rr t)
theorem U8(I:Inv X pins σ H s)(fh:Same F H):∀{ks:List (List Int)} {vs:List V} {us:List Value},Reps X.K F (ks.map fun k=>D.tup (k.map D.int)) vs→Vals vs us→(∀k∈ks,k≠[])→KTs s.heap us ks
 |[],_,_,r,v,_=>by
  simp only[map_nil,Reps] at r;subst r
  cases v;exact trivial
 |k::ks,_,_,r,v,ne=>by
  simp only[map_cons,Reps] at r
  obtain⟨x,xs,rfl,rx,rr⟩:=r
  simp only[Rep] at rx
  obtain⟨a,ws,rfl,q,t⟩:=rx
  obtain⟨its,rv,⟨o,eo,hc,n,hd⟩,hz⟩:=I.tuple (Same.seqT fh q)
  cases v with
  |cons e tl=>
   rename_i u us
   have e:u=Value.ref a:=e
   subst e
   exact⟨⟨a,o,its.toArray,n,rfl,eo,hc,hd,by simpa using Ug t rv,ne k mem_cons_self⟩,U8 I fh rr tl fun k hk=>ne k (mem_cons_of_mem _ hk)⟩
theorem Reps.pick{K:Frag}{ds:List D}{vs:List V}(r:Reps K F ds vs):∀(q:List Nat),(∀i∈q,i<ds.length)→Reps K F (q.map fun i=>ds.getD i .non) (q.map fun i=>vs.getD i .non):=by
 intro l_
 induction l_ with
 |nil=>
  rintro _
  exact Reps.nil
 |cons i q ih_=>
  rintro h
  have hi:=h i mem_cons_self
  obtain⟨v,e1,e2⟩:=r.get (i:=i) (getElem?_eq_getElem hi)
  have z1:ds.getD i .non=ds[i]:=by simp[hi]
  have z2:vs.getD i .non=v:=by simp[e1]
  rw[map_cons,map_cons,z1,z2]
  exact Reps.cons e2 (ih_ fun j hj=>h j (mem_cons_of_mem _ hj))
theorem Zx{vs:List V}{us:List Value}(r:Vals vs us):∀(q:List Nat),(∀i∈q,i<vs.length)→Vals (q.map fun i=>vs.getD i .non) (q.map fun i=>us.getD i .none):=by
 intro l_
 induction l_ with
 |nil=>
  rintro _
  exact .nil
 |cons i q ih_=>
  rintro h
  have hi:=h i mem_cons_self
  obtain⟨u,e1,e2⟩:=r.get (i:=i) (getElem?_eq_getElem hi)
  have z1:vs.getD i .non=vs[i]:=by simp[hi]
  have z2:us.getD i .none=u:=by simp[e1]
  rw[map_cons,map_cons,z1,z2]
  exact .cons e2 (ih_ fun j hj=>h j (mem_cons_of_mem _ hj))
end
open PySem.W
section
variable{X:Cx}{pins:List (Addr×Obj)}{σ:St}{F H:Hp}{τ:DS}{s:Shared}{Q:VK}{E:Value→Shared→Prop}
theorem Inv.relist(I:Inv X pins σ H s){a:Addr}{xs ys:List V}{us ws:List Value}{n:Nat}{g:Array Value→Array Value}(e:H a=some (.lst xs))(o:s.heap.get? a=some (seqObj "list" us.toArray n))(hg:g us.toArray=ws.toArray)(r:Vals ys ws)(hz:ys.length≤sizeLine) :
  Inv X pins σ (upd H a (.lst ys)) { s with heap:=s.heap.update a (Obj.mapSeq g) }:=by
 have h1:=get?_update_seq o g
 rw[hg] at h1
 exact I.write (t':=s.toks) (by rw[e];exact trivial) (.inl rfl) (fun b u hb q=>by rw[Heap.get?_update_ne _ _ _ _ hb];exact q) ⟨_,h1⟩ ⟨hz,ws,_,r,h1⟩
theorem Inv.settle(I:Inv X (pins++[p]) σ H s){D:Addr}{n:Nat}{ys:List V}{ws:List Value}{g:Array Value→Array Value}(hp:p=(D,seqObj "list" #[] n))(hg:g #[]=ws.toArray)(r:Vals ys ws)(hz:ys.length≤sizeLine)
  (h0:X.s₀.heap.objs.size≤D) (hc:∀x c,X.env.cells.lookup x=some c→c≠D) (hn:∀q∈X.pn++pins,q.1≠D):Inv X pins σ (upd H D (.lst ys)) { s with heap:=s.heap.update D (Obj.mapSeq g) }:=by
 subst hp
 obtain⟨e,nD,neL,nf,_⟩:=I.pin (D,seqObj "list" #[] n) (by simp)
 have J:Inv X pins σ H s:=I.pins_of fun q hq=>I.pin q (mem_append_right _ (mem_append_left _ hq))
 have h1:=get?_update_seq e g
 rw[hg] at h1
 have kp:∀b u,b≠D→s.heap.get? b=some u→(s.heap.update D (Obj.mapSeq g)).get? b=some u:=fun b u hb q=>by rw[Heap.get?_update_ne _ _ _ _ hb];exact q
 refine J.step (g':=s.gens) (d':=s.drawn) (t':=s.toks) (ch:=[D]) (fun b hb=>?_) (fun b o _ _ hb q _=>kp b o (by simpa using hb) q) (fun b o _ _ hb q _=>⟨o.slots,kp b o (by simpa using hb) q⟩) (fun b o hb _ q=>by rw[zA (by simpa using hb)];exact q)
  (fun b o hb q=>⟨o,kp b o (by simpa using hb) q⟩) (fun b xs q=>by rw[zA (z6 q nD)];exact q) (fun b o u q=>by rw[zA (z6 q nD)];exact q) (fun b ps q=>⟨#[],by rw[zA (z6 q nD),q];simp⟩) (fun m hm=>?_) ?_ J.bare
 ·have:b=D:=by simpa using hb
  subst this
  exact⟨.inr h0,neL,hc,hn⟩
 ·obtain⟨o,es,ep,ho,r'⟩:=hm
  exact⟨o,es,ep,kp _ o (Ne.symm neL) ho,r'⟩
 ·intro b u q
  by_cases hb:b=D
  ·subst hb
   rw[zJ] at q;cases q
   exact⟨hz,ws,_,r,h1⟩
  ·rw[zA hb] at q
   refine(J.hok b u q).stay (fun c v hc' q'=>kp c v ?_ q') (fun c q'=>by rw[zA (z6 q' nD)];exact q') fun c xs q'=>by rw[zA (z6 q' nD)];exact q'
   rcases hc' with z|z
   ·rw[z];exact hb
   ·exact z6 z nD
theorem Qb:Vals ([]:List V) []:=.nil
theorem Js{D kS:Addr}{e1:Nat}{st:SortSt}{kvs ovs:List V}{out:List Value}{P:PySem.Fin→Shared→Prop}{A:Around}(I:Inv X (pins++[(D,seqObj "list" #[] e1)]) σ H s)(hk:H kS=some (.lst kvs))(hout:(arrOf st).map (·.2)=List.toArray out)(hf:failedOf st=none)(hz:out.length<64)
  (r:Vals ovs out) (hkz:kvs.length≤sizeLine) (h0:X.s₀.heap.objs.size≤D) (hc:∀x c,X.env.cells.lookup x=some c→c≠D) (hn:∀q∈X.pn++pins,q.1≠D)
  (h:∀s',Inv X pins σ (upd (upd H kS (.lst [])) D (.lst ovs)) s'→P (.done (.ret .none)) s'):wpAny (model X.prog X.w) A (ksk_tail D false e1 (.ref kS) st) P E s:=by
 obtain⟨z1,its,n,rk,ek⟩:=I.hok kS _ hk
 have lk:its.length≤sizeLine:=by rw[← rk.length];exact hkz
 have I1:=Inv.relist (g:=fun _=>#[]) I hk ek (ws:=[]) rfl Qb (zero_le _)
 obtain⟨eD,nD,_⟩:=I1.pin (D,seqObj "list" #[] e1) (by simp)
 unfold ksk_tail
 try dsimp only
 refine wpAny_bind (listUpdate_at ek rfl ?_ (by rw[size_toArray];exact lk) (zero_le _))
 refine wpAny_bind (wpAny_letGo ?_)
 refine wpAny_bind (seqEpoch_at eD rfl ?_)
 refine wpAny_bind (listUpdate_at eD rfl ?_ (zero_le _) ?_)
 ·rw[hf]
  simp only[bne_self_eq_false,Bool.false_eq_true,if_false]
  exact wpAny_pure (h _ (Inv.settle I1 rfl (ws:=out) hout r (by rw[r.length];exact le_of_lt (xc (by lia))) h0 hc hn))
 ·simp only[Bool.false_eq_true,if_false]
  rw[hout,size_toArray]
  exact le_trans (le_of_lt (xc (by lia))) (le_succ _)
theorem YD:∀{kz:List (List Int)} {ds:List D},kz.length=ds.length→ds.length<2→(ww (kz.zip ds)).map (·.2)=ds
 |[],[],_,_=>rfl
 |[a],[b],_,_=>rfl
 |[],_::_,h,_=>by simp at h
 |[_],[],h,_=>by simp at h
 |[_],_::_::_,h,_=>by simp at h
 |_::_::_,ds,h,h2=>by simp at h;lia
theorem zq9{Da kS:Addr}{e1:Nat}{kvs vs:List V}{us:List Value}{ds:List D}{kz:List (List Int)}{P:PySem.Fin→Shared→Prop}{A:Around}(I:Inv X (pins++[(Da,seqObj "list" #[] e1)]) σ H s)(hk:H kS=some (.lst kvs)){ks:List Value}{n:Nat}(ek:s.heap.get? kS=some (seqObj "list" ks.toArray n))(rk:Vals kvs ks)
  (fh:Same F H) (kr:Reps X.K F (kz.map fun k=>FD.D.tup (k.map FD.D.int)) kvs) (ne:∀k∈kz,k≠[]) (nd:kz.Nodup) (hl:kz.length=ds.length) (rs:Reps X.K F ds vs) (rv:Vals vs us) (hz:us.length<64)
  (h0:X.s₀.heap.objs.size≤Da) (hc:∀x c,X.env.cells.lookup x=some c→c≠Da) (hn:∀q∈X.pn++pins,q.1≠Da)
  (h:∀s' ovs,Inv X pins σ (upd (upd H kS (.lst [])) Da (.lst ovs)) s'→Reps X.K F ((ww (kz.zip ds)).map (·.2)) ovs→P (.done (.ret .none)) s'):wpAny (model X.prog X.w) A (ksk_end Da false us.toArray e1 (.ref kS) ks.toArray) P E s:=by
 have l1:ds.length=us.length:=by rw[rs.length,rv.length]
 have l2:ks.length=us.length:=by rw[← rk.length,← kr.length,length_map,hl,l1]
 have hkz:kvs.length≤sizeLine:=by rw[rk.length,l2];exact le_of_lt (xc (by lia))
 unfold ksk_end
 try dsimp only
 simp only[Bool.false_eq_true,if_false]
 by_cases h2:us.length<2
 ·have h2':us.toArray.size<2:=by rw[size_toArray];exact h2
  rw[if_pos h2',if_pos h2']
  refine wpAny_bind (wpAny_pure ?_)
  rw[StateT.run_pure]
  refine wpAny_bind (wpAny_pure ?_)
  try dsimp only
  refine Js (out:=us) (ovs:=vs) I hk ?_ rfl hz rv hkz h0 hc hn fun s' J=>h s' vs J ?_
  ·show((ks.toArray.zip us.toArray).map (·.2))=us.toArray
   apply Array.toList_inj.mp
   rw[Array.toList_map,ksk_zip]
   exact List.map_snd_zip (by simp[l2])
  ·rw[YD hl (by lia)];exact rs
 ·have h2':¬ us.toArray.size<2:=by rw[size_toArray];exact h2
  rw[if_neg h2',if_neg h2']
  have kt:=U8 I fh kr rk ne
  refine wpAny_bind (Ww kt (by lia) ?_)
  refine wpAny_bind (VQ (Q:=fun st s'=>wpAny (model X.prog X.w) A (ksk_tail Da false e1 (.ref kS) st) P E s') kt l2 (by lia) hz nd fun p st h3 h4 h5 h6=>?_)
  have hp:∀i∈p.toList,i<us.length:=fun i hi=>by simpa using h3.mem_iff.mp hi
  refine Js (ovs:=p.toList.map fun i=>vs.getD i .non) I hk h5 h6 ?_ (Zx rv _ fun i hi=>by rw[rv.length];exact hp i hi) hkz h0 hc hn fun s' J=>h s' _ J ?_
  ·rw[length_map,h3.length_eq,length_range];exact hz
  ·rw[← VJ (q:=p) (d:=.non) hl nd (by rw[l1];exact h3) (by rw[l1];exact h4)]
   exact Reps.pick rs _ fun i hi=>by rw[l1];exact hp i hi
end
open PySem.W
section
variable{X:Cx}{pins:List (Addr×Obj)}{σ:St}{F H:Hp}{τ:DS}{s:Shared}{Q:VK}{E:Value→Shared→Prop}
theorem UH{l f:Addr}{ds:List D}{vs:List V}{kz:List (List Int)}(I:Inv X pins σ H s)(fh:Same F H)(hl:F l=some (.lst vs))(rs:Reps X.K F ds vs)(h64:ds.length<64)(hk:kz.length=ds.length)(nd:kz.Nodup)(ne:∀k∈kz,k≠[])
  (key:∀(i:Nat) (d:D) (k:List Int),ds[i]?=some d→kz[i]?=some k→∀(pins':List (Addr×Obj)) (s':Shared) (F' H':Hp) (v:V) (u:Value) (Q':VK),Inv X pins' σ H' s'→(∀p∈pins,p∈pins')→Ext F H F' H'→Rep X.K F' d v→RelV v u →
   (∀kv F'' H'',Ext F' H' F'' H''→Rep X.K F'' (.tup (k.map D.int)) kv→Q' kv H'')→wpAny (model X.prog X.w) X.A.in1.in1 (call (.ref f) [u]) (EP X pins' σ Q') (fun _ _=>False) s')
  (hQ:∀Da F' H',Ext F H F' H'→Rep X.K F' (.lst ((ww (kz.zip ds)).map (·.2))) (.ref Da)→Q (.ref Da) H') :
  wpAny (model X.prog X.w) X.A (call (.builtin "sorted") [.ref l] [(Str.ofString "key", .ref f)]) (EP X pins σ Q) E s:=by
 obtain⟨us,rv,⟨o,nn,eo,hc,hd0,hd⟩,hz⟩:=I.list (SqL.of (K:=X.K) (fh _ _ hl))
 have hil:s.heap.IsList l us.toArray:=⟨o,eo,hc,nn,hd⟩
 have l1:ds.length=us.length:=by rw[rs.length,rv.length]
 have sz:us.length≤sizeLine:=le_of_lt (xc (by lia))
 refine call_function_entry_kw kind_sorted plain_sorted entry_sorted (ksk_s1 _ _) ?_
 unfold Builtin.«sorted»
 refine wpAny_bind (m:=checkCount "sorted" 1 1 _) (wpAny_pure ?_)
 refine wpAny_bind (collect_list hil ?_ sz)
 refine wpAny_bind (wpAny_newList ?_ sz)
 have keep1:∀b u,s.heap.get? b=some u→((s.heap.push (seqObj "list" #[] 0)).update s.heap.objs.size (Obj.mapSeq (· ++ us.toArray))).get? b=some u:=fun b u q=>by
  have hb:b<s.heap.objs.size:=Heap.lt_size q
  rw[Heap.get?_update_ne _ _ _ _ (ne_of_lt hb),Heap.get?_push_ne _ _ _ (ne_of_lt hb)]
  exact q
 have size1:s.heap.objs.size≤((s.heap.push (seqObj "list" #[] 0)).update s.heap.objs.size (Obj.mapSeq (· ++ us.toArray))).objs.size:=by rw[Heap.size_update,size_push'];lia
 generalize hh1:(s.heap.push (seqObj "list" #[] 0)).update s.heap.objs.size (Obj.mapSeq (· ++ us.toArray))=h1 at keep1 size1
 have hD:(h1.push (seqObj "list" us.toArray 0)).get? h1.objs.size=some (seqObj "list" us.toArray 0):=Heap.get?_push_size _ rfl
 have keep2:∀b u,s.heap.get? b=some u→(h1.push (seqObj "list" us.toArray 0)).get? b=some u:=fun b u q=>get?_push_of_some _ (keep1 b u q)
 generalize hDa:h1.objs.size=Da at hD size1
 have neD:∀b u,s.heap.get? b=some u→b≠Da:=fun b u q=>ne_of_lt (lt_of_lt_of_le (Heap.lt_size q) size1)
 generalize hh2:h1.push (seqObj "list" us.toArray 0)=h2 at hD keep2
 have ltD:Da<h2.objs.size:=Heap.lt_size hD
 refine wpAny_bind (wpAny_holding (wpAny_call_entry_kw (rest:=[]) slot_list_sort ⟨_,hD,rfl⟩ entry_list_sort ?_ (ksk_l1 _ _)))
 show wpAny (model X.prog X.w) X.A.in1.in1 (Builtin.«list.sort» ⟨[.ref Da],[(Str.ofString "key", .ref f)]⟩) _ _ _
 rw[ksk_t1 f Da]
 unfold ksk_tree
 refine wpAny_bind (listItems_at hD rfl ?_)
 refine wpAny_bind (listUpdate_at hD rfl ?_ (by rw[size_toArray];exact sz) (zero_le _))
 have keep3:∀b u,s.heap.get? b=some u→(h2.update Da (Obj.mapSeq fun _=>(#[]:Array Value))).get? b=some u:=fun b u q=>by
  rw[Heap.get?_update_ne _ _ _ _ (neD b u q)];exact keep2 b u q
 obtain⟨e1,hD3⟩:∃e1,(h2.update Da (Obj.mapSeq fun _=>(#[]:Array Value))).get? Da=some (seqObj "list" #[] e1):=⟨_,get?_update_seq hD fun _=>#[]⟩
 generalize h2.update Da (Obj.mapSeq fun _=>(#[]:Array Value))=h3 at keep3 hD3
 refine wpAny_bind (seqEpoch_at hD3 rfl ?_)
 refine wpAny_bind (wpAny_newTuple ?_ (by show us.length≤sizeLine;exact sz))
 refine wpAny_bind (wpAny_newList ?_ (zero_le _))
 refine wpAny_holding ?_
 have hDa0:s.heap.objs.size≤Da:=size1
 have nH:H Da=none:=I.hok.fresh hDa0
 have neL:Da≠X.env.locals:=(ne_of_lt (lt_of_lt_of_le I.lt hDa0)).symm
 have pinD:∀q∈X.pn++pins,q.1≠Da:=fun q hq=>neD _ _ (I.pin q hq).1
 have cellD:∀x c,X.env.cells.lookup x=some c→c≠Da:=fun x c e=>by
  obtain⟨v,oc,hoc,_⟩:=I.cell x c e
  exact neD _ _ hoc
 have I1:Inv X pins σ H { s with heap:=h3.push (seqObj "tuple" us.toArray 0) }:=I.kept (t':=s.toks) fun b u q=>get?_push_of_some _ (keep3 b u q)
 have I2:Inv X (pins++[(Da,seqObj "list" #[] e1)]) σ H { s with heap:=h3.push (seqObj "tuple" us.toArray 0) }:=I1.pins_of fun q hq=>by
  rcases mem_append.mp hq with hq|hq
  ·exact I1.pin q (mem_append_right _ hq)
  ·have:q=(Da,seqObj "list" #[] e1):=by simpa using hq
   subst this
   exact⟨get?_push_of_some _ hD3,nH,neL,I.nofs hDa0,fun v z=>nomatch z⟩
 have szk:s.heap.objs.size≤(h3.push (seqObj "tuple" us.toArray 0)).objs.size:=le_of_lt (Nat.lt_of_le_of_lt hDa0 (Heap.lt_size (get?_push_of_some _ hD3)))
 have hkS:H (h3.push (seqObj "tuple" us.toArray 0)).objs.size=none:=I.hok.fresh szk
 have I3:=I2.laid (t':=s.toks) (a:=(h3.push (seqObj "tuple" us.toArray 0)).objs.size) (o:=.lst []) (h':=(h3.push (seqObj "tuple" us.toArray 0)).push (seqObj "list" #[] 0)) (fun b u q=>get?_push_of_some _ q) (le_refl _) ⟨zero_le _,[],0,.nil,Heap.get?_push_size _ rfl⟩
 generalize hkk:(h3.push (seqObj "tuple" us.toArray 0)).objs.size=kS at hkS I3
 have h0D:X.s₀.heap.objs.size≤Da:=le_trans I.sz hDa0
 unfold ksk_rest
 refine wpAny_bind (wpAny_rule ?_)
 first
  | rw[List.forIn_toArray]
  | (rw[← Array.forIn_toList];simp only[List.toList_toArray])
 refine wpAny_bind (ksk_fold (fun i s'=>∃F2 Hm kvs,Ext F H F2 Hm∧Hm kS=none∧Inv X (pins++[(Da,seqObj "list" #[] e1)]) σ (upd Hm kS (.lst kvs)) s'∧Reps X.K F2 ((kz.take i).map fun k=>D.tup (k.map D.int)) kvs) us 0 _
  ⟨F,H,[],Ext.refl fh,hkS,I3,by simpa using Reps.nil⟩ ?step ?done)
 case step=>
  rintro j x s' hx ⟨F2,Hm,kvs,x2,hm,I4,rk⟩
  simp only[zero_add] at rk ⊢
  have hj:j<us.length:=(List.getElem?_eq_some_iff.mp hx).1
  obtain⟨d,hd⟩:∃d,ds[j]?=some d:=⟨_,getElem?_eq_getElem (by lia)⟩
  obtain⟨k,hkj⟩:∃k,kz[j]?=some k:=⟨_,getElem?_eq_getElem (by lia)⟩
  obtain⟨v,hv,rd⟩:=rs.get hd
  obtain⟨u,hu,ru⟩:=rv.get hv
  rw[hx] at hu;cases hu
  have xo:Ext F2 Hm F2 (upd Hm kS (.lst kvs)):=Ext.open x2.fh hm
  refine wpAny_bind (wpAny_attempt (wpAny_mono (key j d k hd hkj _ s' F2 _ v x (fun kv H''=>∃F'',Ext F2 (upd Hm kS (.lst kvs)) F'' H''∧Rep X.K F'' (.tup (k.map D.int)) kv) I4 (fun p hp=>mem_append_left _ hp) (x2.trans xo) (rd.mono x2.ff) ru (fun kv F'' H'' y r=>⟨F'',y,r⟩)) (fun kval s'' hk''=>?_) fun _ _ z=>z.elim))
  obtain⟨kv,H'',I5,rkv,F'',x5,rp⟩:=hk''
  have hkS5:H'' kS=some (.lst kvs):=x5.hh _ _ zJ
  obtain⟨z1,its,n,rki,ek⟩:=I5.hok kS _ hkS5
  have lk:kvs.length=j:=by
   rw[← rk.length,length_map,length_take];lia
  have li:its.length=j:=by rw[← rki.length];exact lk
  have I6:=Inv.relist (g:=(·.push kval)) I5 hkS5 ek (ws:=its++[kval]) (by simp) (rki.append (.cons rkv .nil)) (by rw[length_append,lk];exact le_of_lt (xc (by simp;lia)))
  obtain⟨y1,y2⟩:=Xs x2 hm x5
  try dsimp only
  refine wpAny_bind (listUpdate_at ek rfl ?_ (by rw[size_toArray,li];exact le_of_lt (xc (by lia))) ?_)
  ·refine wpAny_pure ⟨rfl,F'',vf H'' kS,kvs++[kv],y1,u0 _ _,by rw[Yz];exact I6,?_⟩
   have tk:kz.take (j+1)=kz.take j++[k]:=by
    rw[List.take_add_one,hkj];rfl
   rw[tk,map_append]
   exact(rk.mono x5.ff).append (Reps.cons rp Reps.nil)
  ·rw[Array.size_push,size_toArray,li];exact le_trans (le_of_lt (xc (by lia))) (le_succ _)
 case done=>
  rintro s' ⟨F2,Hm,kvs,x2,hm,I4,rk⟩
  simp only[zero_add] at rk
  rw[take_of_length_le (by lia)] at rk
  obtain⟨z1,ks,n,rki,ek⟩:=I4.hok kS _ zJ
  refine wpAny_bind (listItems_at ek rfl ?_)
  have xo:Ext F2 Hm F2 (upd Hm kS (.lst kvs)):=Ext.open x2.fh hm
  refine zq9 I4 zJ ek rki xo.fh rk ne nd hk (rs.mono x2.ff) rv (by lia) h0D cellD pinD fun s5 ovs J ro=>?_
  refine⟨_,rfl,wpAny_pure ⟨_,rfl,.ref Da,_,J,rfl,hQ Da (upd F2 Da (.lst ovs)) _ ?_ ?_⟩⟩
  ·have hmD:Hm Da=none:=by
    obtain⟨_,nD,_⟩:=I4.pin (Da,seqObj "list" #[] e1) (by simp)
    by_cases z:Da=kS
    ·rw[z];exact hm
    ·rw[zA z] at nD;exact nD
   have eq1:upd (upd (upd Hm kS (.lst kvs)) kS (.lst [])) Da (.lst ovs)=upd (upd Hm kS (.lst [])) Da (.lst ovs):=by
    congr 1;funext b;unfold upd;split <;> rfl
   rw[eq1]
   have kD:(upd Hm kS (.lst [])) Da=none:=by
    obtain⟨_,nD,_⟩:=I4.pin (Da,seqObj "list" #[] e1) (by simp)
    by_cases z:Da=kS
    ·rw[z,zJ] at nD;cases nD
    ·rw[zA z];exact hmD
   exact(x2.trans (Ext.open (o:=.lst []) x2.fh hm)).trans (Ext.new ((x2.trans (Ext.open (o:=.lst []) x2.fh hm)).fh) kD)
  ·have hF:F2 Da=none:=by
    obtain⟨_,nD,_⟩:=I4.pin (Da,seqObj "list" #[] e1) (by simp)
    exact yd xo.fh nD
   simp only[Rep]
   exact⟨Da,ovs,rfl,zJ,ro.mono (yz hF)⟩
end
open PySem.W
noncomputable def _root_.L2.Cx.lam(X:Cx)(scope:Scope)(N:List Str)(s:Shared)(H:Hp)(qual:Str)(f:Addr)(cd:Value):Cx:=
 { prog:=X.prog,w:=X.w,K:=X.K,mg:=X.mg,base:=X.base,A:=X.A.in1.in1.deeper (envX qual scope s.heap.objs.size f cd (wy scope X.env)),N:=N,s₀:=s,H₀:=H,env:=envX qual scope s.heap.objs.size f cd (wy scope X.env),outer:=X.stack,
   stack:=envX qual scope s.heap.objs.size f cd (wy scope X.env)::X.stack,ex:=[],fn:=fun _=>false,calm:=true,pn:=[],xe:=fun _ _=>False }
section
variable{X:Cx}{scope:Scope}{N':List Str}{pins:List (Addr×Obj)}{σ σ':St}{F H:Hp}{τ:DS}{s:Shared}
theorem zb4{h1:Heap}{t:Nat}{qual p:Str}{f:Addr}{cd u:Value}{v:V}(S:xX X scope)(hd:X.A.handled=none)(I:Inv X pins σ H s)(hp:scope.names.lookup p=some .local)(hN:N'[0]?=some p)(rv:RelV v u)
  (hn:h1.Ns s.heap.objs.size fun x=>([(p,u)]:List (Str×Value)).reverse.lookup x) (hsb:∀b o,s.heap.get? b=some o→h1.get? b=some o) (hl:σ'.length=N'.length) (h0:σ'[0]?=some (some v))
  (hσ:∀(i:Nat) (v:V),i≠0→σ'[i]?=some (some v)→∃(x:Str) (j:Nat),N'[i]?=some x∧X.N[j]?=some x∧σ[j]?=some (some v)∧scope.names.lookup x=some .free) :
  Inv (X.lam scope N' s H qual f cd) [] σ' H { s with heap:=h1,toks:=t }:=by
 have hH:H s.heap.objs.size=none:=I.hok.fresh (le_refl _)
 have cl:∀{x c},(wy scope X.env).lookup x=some c→X.env.cells.lookup x=some c:=fun h=>ZQ S I.ok h
 have kept:∀{c v},s.heap.IsCell c v→h1.IsCell c v:=fun ⟨o,e,d⟩=>⟨o,hsb _ o e,d⟩
 have noA:∀b:Addr,b∉(X.lam scope N' s H qual f cd).ex:=fun b z=>absurd (show b∈([]:List Addr) from z) (by simp)
 refine⟨⟨I.ok.mod,S.kind,rfl,rfl,le_refl _,fun x y c e1 e2=>I.ok.inj x y c (cl e1) (cl e2),fun x hx=>?_,fun x c hf _=>absurd hf (by simp[Cx.lam]),fun _=>hd,Around.frames_deeper (show X.A.in1.in1.frames=some X.stack from I.ok.frames),.inr ⟨rfl,rfl⟩,fun b z=>absurd z (noA b),I.bs,le_trans I.ok.bsz I.sz,fun b _ _=>noA b,fun b z=>absurd z (noA b),I.stack,I.stkFree⟩,
  I.os.symm ▸ rfl,I.bare,Un.kept hsb,⟨_,hn,fun i x v' e1 e2 e3=>?_⟩,fun x c e=>?_,hH,fun x c e=>I.freeC x c (cl e),fun p hp=>absurd (show p∈([]:List (Addr×Obj)) from hp) (by simp),I.hok.kept hsb,hl⟩
 ·have hx:scope.names.lookup x=some .cell∨scope.names.lookup x=some .free:=hx
  rcases hx with z|z
  ·exact absurd rfl (S.nocell _ (PySem.mem_of_lookup z))
  ·exact jf (.inl ⟨_,PySem.mem_of_lookup z,rfl,rfl⟩)
 ·have e1:N'[i]?=some x:=e1
  by_cases hi:i=0
  ·subst hi
   rw[hN] at e1;cases e1
   rw[h0] at e2;cases e2
   exact⟨u,rv,.inl ⟨hp,by simp[List.lookup]⟩⟩
  ·obtain⟨x',j,e4,e5,e6,e9⟩:=hσ i v' hi e2
   have hy:=PySem.mem_of_lookup e9
   rw[e1] at e4;cases e4
   have kd:=S.free _ hy rfl
   obtain⟨m,hm,hl⟩:=I.loc
   obtain⟨u',ru,lk⟩:=hl j x v' e5 e6 (kd.elim (fun z=>.inr (.inl z)) fun z=>.inr (.inr z))
   refine⟨u',ru,?_⟩
   rcases lk with ⟨z,_⟩|⟨z,c,hc,hcell⟩
   ·rcases kd with k|k <;> rw[k] at z <;> cases z
   ·obtain⟨c',hc'⟩:=jf (env:=X.env) (names:=scope.names) (cs:=[]) (x:=x) (.inl ⟨_,hy,rfl,rfl⟩)
    have:=cl hc'
    rw[hc] at this;cases this
    exact .inr ⟨.inr e9,c,hc',kept hcell⟩
 ·obtain⟨v,z⟩:=I.cell x c (cl e)
  exact⟨v,kept z⟩
noncomputable def QR(idx:List Nat)(fb:FE)(τ:DS)(d:D):Rs D:=fb ((vN 1 idx τ).set 0 (some (.val d)))
theorem MM{f c':Addr}{qual p:Str}{params:Arguments}{body:Expr}{pm ctv u:Value}{v:V}{d dk:D}{fr:List Str}{idx:List Nat}{fb:FE}{Q:VK}(S:xX X scope)(hr:Room 3 X.A)(hfr:FreeOk scope X.N fr idx)(hp:scope.names.lookup p=some .local)
  (hco:scope.isCoroutine=false) (hgen:scope.isGenerator=false) (hbind:∀(pm cd ct:Value) (cl:List (Str×Addr)) (u:Value),bindArgs (kla_fn "<lambda>" qual params body scope cl pm cd ct) ⟨[u],[]⟩=pure [(p,u)])
  (hb:∀s H f cd,PDE (X.lam scope (p::fr) s H qual f cd) body fb)
  (I:Inv X pins σ H s) (R:RV X.K F τ σ H) (ho:s.heap.get? f=some (kla_obj "<lambda>" qual params body scope (wy scope X.env) pm c' ctv)) (hc:H c'=some (.ext (Xy c' qual))) (rd:Rep X.K F d v) (ru:RelV v u) (hk:QR idx fb τ d=.ok dk)
  (hQ:∀kv F1 H1,Ext F H F1 H1→Rep X.K F1 dk kv→Q kv H1):wpAny (model X.prog X.w) X.A.in1.in1 (call (.ref f) [u]) (EP X pins σ Q) (fun _ _=>False) s:=by
 have hcd:s.heap.CodeRec (.ref c') qual:=(I.hok c' _ hc).1
 refine wpAny_call (kla_callFunE (args:=⟨[u],[]⟩) (hr.in1.in1).depth ho rfl hco hgen rfl hcd ?_)
 rw[hbind]
 refine wpAny_pure (wpAny_newFunctionEnv S.nocell (fun y hy=>?_) (fun h1 hns hsb=>⟨(I.mod.nolimit.keeps I.bk).fresh _ hsb,?_⟩) S.kind)
 ·have:y=(p,u):=by simpa using hy
  subst this;exact hp
 have keep3:∀b o,s.heap.get? b=some o→h1.get? b=some o:=fun b o e=>hsb.extBut b o (ne_of_lt (Heap.lt_size e)) (get?_push_of_some _ e)
 show codeAny _ _ (.expr body (envX qual scope s.heap.objs.size f (.ref c') (wy scope X.env))) _ _
 have hlen:(uo 1 idx σ).length=(p::fr).length:=by simp[uo,hfr.len]
 have hl0:0<(uo 1 idx σ).length:=by rw[hlen];simp
 have J:Inv (X.lam scope (p::fr) s H qual f (.ref c')) [] ((uo 1 idx σ).set 0 (some v)) H { s with heap:=h1,toks:=s.toks+([(p,u)]:List (Str×Value)).length }:=
  zb4 S hr.hd I hp rfl ru hns keep3 (by rw[length_set];exact hlen) (by rw[getElem?_set_self hl0]) fun i v' hi e=>by
   rw[getElem?_set_ne (Ne.symm hi)] at e
   exact Yh (tn:=[p]) hfr σ i v' e
 refine kla_codeExpr (wpAny_mono (hb s H f (.ref c') [] _ _ H (fun kv H1=>∃F1,Ext F H F1 H1∧Rep X.K F1 dk kv) J ⟨F,(vN 1 idx τ).set 0 (some (.val d)),(WZ 1 idx R).set rd,?_⟩) (fun w s5 h5=>?_) fun _ _ z=>z.elim)
 ·have hk:fb ((vN 1 idx τ).set 0 (some (.val d)))=.ok dk:=hk
  rw[hk]
  exact fun kv F1 H1 x r=>⟨F1,x,r⟩
 ·obtain⟨kv,H5,I5,r5,F5,x5,rk⟩:=h5
  exact⟨kv,H5,I.call' (ch:=[]) I5.os I5.base I5.hok I5.bare (fun b z=>absurd z (by simp)),r5,hQ kv F5 H5 x5 rk⟩
end
open PySem.W
noncomputable def TabsU:Prop:=∀r∈Tabs.rows,∀r'∈Tabs.rows,r.1=r'.1→r=r'
theorem Xb{α β:Type}{f:α→β}:∀{l:List α},(l.map f).Nodup→∀r∈l,∀r'∈l,f r=f r'→r=r'
 |[],_,_,h,_,_,_=>by cases h
 |a::l,nd,r,h,r',h',e=>by
  rw[map_cons,nodup_cons] at nd
  rcases mem_cons.mp h with z|z
  ·rcases mem_cons.mp h' with z' | z'
   ·rw[z,z']
   ·rw[z] at e
    exact absurd (mem_map.mpr ⟨r',z',e.symm⟩) nd.1
  ·rcases mem_cons.mp h' with z' | z'
   ·rw[z'] at e
    exact absurd (mem_map.mpr ⟨r,z,e⟩) nd.1
   ·exact Xb nd.2 r z r' z' e
theorem TabsU.of(h:(Tabs.rows.map (·.1)).Nodup):TabsU:=Xb h
section
variable{X:Cx}{scope:Scope}{pins:List (Addr×Obj)}{σ:St}{F H:Hp}{τ:DS}{s:Shared}
theorem ML{params:Arguments}{body:Expr}{lpos:Pos}{P c:Addr}{E:Value→Shared→Prop}{Q:Value→Shared→Prop}(tu:TabsU)(S:xX X scope)(bm:BM X.mg X.base)(hcode:X.env.code=.ref c)(hcd:codeHdIn X.K c P=true)(hrow:(P,lpos.line,lpos.col,X.env.qual ++ "<lambda>")∈Tabs.rows)
  (hdef:defaultsOf params X.env=([],[])) (I:Inv X pins σ H s) (fh:Same F H) (tt:TbT F H)
  (h:∀(f c':Addr) (pm ctv:Value) (H':Hp) (s':Shared),Inv X (pins++[(f,kla_obj "<lambda>" (X.env.qual ++ "<lambda>") params body scope (wy scope X.env) pm c' ctv)]) σ H' s'→Ext F H F H'→H' c'=some (.ext (Xy c' (X.env.qual ++ "<lambda>")))→Q (.ref f) s') :
  wpAny (model X.prog X.w) X.A (eval (.Lambda params body scope lpos) X.env) Q E s:=by
 obtain⟨bma,ob,b1,b2,b3,b4,b5,b6⟩:=bm
 obtain⟨b3,bH⟩:=I.bs _ _ b3
 have hgs:s.heap.Ns mainGlobals X.mg:=I.mod.glob.keeps I.bk
 have C:CodeHd s.heap c P:=codeHd_of_K (I.mod.kin.keeps I.bk) hcd
 have hcl:closureFor scope X.env=pure (wy scope X.env):=vZ fun y hy e=>by
  obtain⟨c,hc⟩:=I.ok.has _ (S.free y hy e)
  rw[hc];rfl
 have hbG:bma≠mainGlobals:=fun q=>by
  obtain⟨o,es,ep,e,hd,_⟩:=hgs
  rw[← q,b3] at e;cases e;rw[b6] at hd;cases hd
 obtain⟨tF,tt0⟩:=tt.1 _ hrow
 have hPs:∃ps,H P=some (.tbl ps):=by
  rcases tt0 with e|⟨c',e,_⟩
  ·exact⟨_,e⟩
  ·exact⟨_,e⟩
 obtain⟨ps0,hP0⟩:=hPs
 have hbP:bma≠P:=fun q=>by rw[q,hP0] at bH;cases bH
 have B:s.heap.BuiltinsAt X.mg P:=⟨bma,ob,b1,b2,hbG,hbP,b3,b4,b5,b6⟩
 refine kla_eval hdef ?_
 rcases tt0 with e|⟨c',e,ec⟩
 ·-- the first time
  have e:H P=some (.tbl #[]):=e
  have hP:s.heap.get? P=some (tabObj #[]):=I.hok P _ e
  have hgP:mainGlobals≠P:=fun q=>by
   obtain⟨o,es,ep,e',hd,_⟩:=hgs
   rw[q,hP] at e';cases e';cases hd
  refine kla_makeFunction (mg:=X.mg) hcl I.ok.glob hgs hcode C hP trivial rfl hgP B fun c' ctv h' tk hx hge hlt hrec htb=>?_
  have hc0:H c'=none:=I.hok.fresh hge
  have hPc:P≠c':=fun z=>by rw[z,hc0] at e;cases e
  have hsz:s.heap.objs.size≤h'.objs.size:=le_trans hge (le_of_lt hlt)
  have htb:h'.get? P=some (tabObj #[rawInt lpos.line,rawInt lpos.col,.ref c']):=by simpa using htb
  let H':Hp:=upd (upd H P (.tbl #[rawInt lpos.line,rawInt lpos.col,.ref c'])) c' (.ext (Xy c' (X.env.qual ++ "<lambda>")))
  have hne:∀b,b≠P→b≠c'→H' b=H b:=fun b z1 z2=>by show upd (upd H P _) c' _ b=H b;rw[zA z2,zA z1]
  have hP':H' P=some (.tbl #[rawInt lpos.line,rawInt lpos.col,.ref c']):=by show upd (upd H P _) c' _ P=_;rw[zA hPc,zJ]
  have hc':H' c'=some (.ext (Xy c' (X.env.qual ++ "<lambda>"))):=zJ
  let fo:Obj:=kla_obj "<lambda>" (X.env.qual ++ "<lambda>") params body scope (wy scope X.env) ((X.mg "__name__").getD .none) c' ctv
  have kp:∀b o,b≠P→s.heap.get? b=some o→(h'.push fo).get? b=some o:=fun b o z q=>get?_push_of_some _ (hx b o z q)
  have nc:∀b o,s.heap.get? b=some o→b≠c':=fun b o q=>ne_of_lt (lt_of_lt_of_le (Heap.lt_size q) hge)
  have nP:∀b,H b=none→b≠P:=fun b q z=>by rw[z,e] at q;cases q
  have J:Inv X pins σ H' { s with heap:=h'.push fo,toks:=tk }:=by
   refine I.un (t':=tk) ⟨fun b o q n _ _=>kp b o (nP b n) q,fun b o q n _ _=>⟨o.slots,kp b o (nP b n) q⟩,fun b o q n _=>by rw[hne b (nP b n) (nc b o q)];exact n,fun b o q _=>?_,fun b xs q=>?_,fun b o u q=>?_,fun b ps q=>?_⟩ fun b u q=>?_
   ·by_cases z:b=P
    ·subst z;exact⟨_,get?_push_of_some _ htb⟩
    ·exact⟨o,kp b o z q⟩
   ·rw[hne b (fun z=>by rw[z,e] at q;cases q) (fun z=>by rw[z,hc0] at q;cases q)];exact q
   ·rw[hne b (fun z=>by rw[z,e] at q;cases q) (fun z=>by rw[z,hc0] at q;cases q)];exact q
   ·by_cases z:b=P
    ·subst z
     rw[e] at q;cases q
     exact⟨#[rawInt lpos.line,rawInt lpos.col,.ref c'],by rw[hP'];simp⟩
    ·exact⟨#[],by rw[hne b z (fun z=>by rw[z,hc0] at q;cases q),q];simp⟩
   ·by_cases z2:b=c'
    ·subst z2
     rw[hc'] at q;cases q
     have hr2:(h'.push fo).CodeRec (.ref b) (X.env.qual ++ "<lambda>"):=by
      obtain⟨c2,oc,vs,t,g1,g2,g3,g4⟩:=hrec
      exact⟨c2,oc,vs,t,g1,get?_push_of_some _ g2,g3,g4⟩
     refine⟨hr2,?_,fun h1 h2 g k=>?_⟩
     ·obtain⟨c2,oc,vs,t,g1,g2,g3,g4⟩:=hr2
      cases g1
      exact⟨oc,g2⟩
     ·obtain⟨c2,oc,vs,t,g1,g2,g3,g4⟩:=g
      cases g1
      exact⟨_,oc,vs,t,rfl,k _ g2,g3,g4⟩
    ·by_cases z:b=P
     ·subst z
      rw[hP'] at q;cases q
      exact get?_push_of_some _ htb
     ·rw[hne b z z2] at q
      refine(I.hok b u q).stay (fun d v hd qd=>kp d v ?_ qd) (fun d qd=>?_) fun d xs qd=>?_
      ·rcases hd with y|y
       ·rw[y];exact z
       ·exact fun y'=>by rw[y',e] at y;cases y
      ·rw[hne d (fun y=>by rw[y,e] at qd;cases qd) (fun y=>by rw[y,hc0] at qd;cases qd)];exact qd
      ·rw[hne d (fun y=>by rw[y,e] at qd;cases qd) (fun y=>by rw[y,hc0] at qd;cases qd)];exact qd
  have hfz:s.heap.objs.size≤h'.objs.size:=hsz
  have nf:H' h'.objs.size=none:=by
   rw[hne _ (ne_of_gt (lt_of_lt_of_le (Heap.lt_size hP) hfz)) (ne_of_gt hlt)]
   exact I.hok.fresh hfz
  refine h h'.objs.size c' ((X.mg "__name__").getD .none) ctv H' _ (J.pins_of fun q hq=>?_) ⟨Same.refl F,fun b o q=>?_,fun b o q=>?_,fun _ _ q=>.inl q,fun t=>⟨fun r hr=>?_,fun d b q=>?_⟩⟩ hc'
  ·rcases mem_append.mp hq with hq|hq
   ·exact J.pin q (mem_append_right _ hq)
   ·have:q=(h'.objs.size,fo):=by simpa using hq
    subst this
    exact⟨Heap.get?_push_size _ rfl,nf,(ne_of_lt (lt_of_lt_of_le I.lt hfz)).symm,I.nofs hfz,fun v z=>nomatch z⟩
  ·by_cases z:b=P
   ·subst z;rw[e] at q;cases q;exact⟨_,hP'⟩
   ·exact .of (by rw[hne b z (fun z=>by rw[z,hc0] at q;cases q)];exact q)
  ·have q':=fh b o q
   rw[hne b (fun z=>by rw[z,show F P=none from tF] at q;cases q) (fun z=>by rw[z,hc0] at q';cases q')]
   exact q'
  ·by_cases z:r.1=P
   ·obtain rfl:=tu r hr _ hrow z
    exact⟨tF,.inr ⟨c',hP',hc'⟩⟩
   ·obtain⟨t1,t2⟩:=t.1 r hr
    refine⟨t1,?_⟩
    rcases t2 with q|⟨c2,q,q2⟩
    ·exact .inl (by rw[hne _ z (fun z=>by rw[z,hc0] at q;cases q)];exact q)
    ·exact .inr ⟨c2,by rw[hne _ z (fun z=>by rw[z,hc0] at q;cases q)];exact q,by rw[hne _ (fun z=>by rw[z,e] at q2;cases q2) (fun z=>by rw[z,hc0] at q2;cases q2)];exact q2⟩
  ·have q:H d=some (.own b):=by
    by_cases z2:d=c'
    ·rw[z2,hc'] at q;cases q
    ·by_cases z:d=P
     ·rw[z,hP'] at q;cases q
     ·rw[hne d z z2] at q;exact q
   obtain⟨C,dx,vs,q2⟩:=t.2 d b q
   exact⟨C,dx,vs,by rw[hne b (fun z=>by rw[z,e] at q2;cases q2) (fun z=>by rw[z,hc0] at q2;cases q2)];exact q2⟩
 ·-- again
  have e:H P=some (.tbl #[rawInt lpos.line,rawInt lpos.col,.ref c']):=e
  have hP:s.heap.get? P=some (tabObj #[rawInt lpos.line,rawInt lpos.col,.ref c']):=I.hok P _ e
  refine kla_makeFunctionHit (mg:=X.mg) (cv:=.ref c') hcl I.ok.glob hgs hcode C hP trivial (codeAmong_snoc (c:=.ref c') [] trivial rfl) B fun ctv h' tk hk hsz=>?_
  let fo:Obj:=kla_obj "<lambda>" (X.env.qual ++ "<lambda>") params body scope (wy scope X.env) ((X.mg "__name__").getD .none) c' ctv
  have J:Inv X pins σ H { s with heap:=h'.push fo,toks:=tk }:=I.kept (t':=tk) fun b u q=>get?_push_of_some _ (hk b u q)
  refine h h'.objs.size c' ((X.mg "__name__").getD .none) ctv H _ (J.pins_of fun q hq=>?_) (Ext.refl fh) ec
  rcases mem_append.mp hq with hq|hq
  ·exact J.pin q (mem_append_right _ hq)
  ·have:q=(h'.objs.size,fo):=by simpa using hq
   subst this
   exact⟨Heap.get?_push_size _ rfl,I.hok.fresh hsz,(ne_of_lt (lt_of_lt_of_le I.lt hsz)).symm,I.nofs hsz,fun v z=>nomatch z⟩
noncomputable def vt(idx:List Nat)(fb:FE)(τ:DS):List D→Rs (List D)
 |[]=>.ok []
 |d::r=>match QR idx fb τ d with
  |.ok k=>match vt idx fb τ r with
   |.ok ks=>.ok (k::ks)
   |_=>.no
  |_=>.no
theorem ZZ{idx:List Nat}{fb:FE}{τ:DS}:∀{ds ks:List D},vt idx fb τ ds=.ok ks→ks.length=ds.length∧∀(i:Nat) (d k:D),ds[i]?=some d→ks[i]?=some k→QR idx fb τ d=.ok k
 |[],ks,h=>by cases h;exact⟨rfl,fun i d k e=>by simp at e⟩
 |d::r,ks,h=>by
  unfold vt at h
  cases q:QR idx fb τ d with
  |no=>rw[q] at h;cases h
  |ex c=>rw[q] at h;cases h
  |ok k=>
   rw[q] at h
   simp only at h
   cases q2:vt idx fb τ r with
   |no=>rw[q2] at h;cases h
   |ex c=>rw[q2] at h;cases h
   |ok ks'=>
    rw[q2] at h;cases h
    obtain⟨l,g⟩:=ZZ q2
    refine⟨by simp[l],fun i d' k' e1 e2=>?_⟩
    cases i with
    |zero=>simp at e1 e2;subst e1;subst e2;exact q
    |succ i=>exact g i d' k' (by simpa using e1) (by simpa using e2)
noncomputable def uS(ks ds:List D):Rs D:=match Z0 ks with
 |some kz=>if ds.length<64∧kz.Nodup∧(∀k∈kz,k≠[]) then .ok (.lst ((ww (kz.zip ds)).map (·.2))) else .no
 |none=>.no
noncomputable def Xv(idx:List Nat)(fe fb:FE):FE:=fun τ=>(fe τ).bind fun d=>match d with
 |.lst ds=>match vt idx fb τ ds with
  |.ok ks=>uS ks ds
  |_=>.no
 |_=>.no
theorem Wc{X:Cx}{ks ds:List D}{P:D→Prop}(h:Ok X (uS ks ds) P):∃kz:List (List Int),ks=kz.map (fun k=>D.tup (k.map D.int))∧ds.length<64∧kz.Nodup∧(∀k∈kz,k≠[])∧P (.lst ((ww (kz.zip ds)).map (·.2))):=by
 unfold uS at h
 cases q:Z0 ks with
 |none=>rw[q] at h;exact h.elim
 |some kz=>
  rw[q] at h
  simp only at h
  by_cases z:ds.length<64∧kz.Nodup∧(∀k∈kz,k≠[])
  ·rw[if_pos z] at h
   exact⟨kz,Uc q,z.1,z.2.1,z.2.2,h⟩
  ·rw[if_neg z] at h;exact h.elim
theorem Qy{x p:Str}{pp pos lpos kp:Pos}{e body:Expr}{params:Arguments}{fr:List Str}{idx:List Nat}{fe fb:FE}{P c:Addr}(hg:Gl X x)(hm:X.mg x=none)(hv:bootBuiltins x=some (.builtin "sorted"))(he:PDE X e fe)
  (hr:Room 3 X.A) (tu:TabsU) (bm:BM X.mg X.base) (hcode:X.env.code=.ref c) (hcd:codeHdIn X.K c P=true) (hrow:(P,lpos.line,lpos.col,X.env.qual ++ "<lambda>")∈Tabs.rows)
  (hsc:jv X.env.scope scope=true) (hfr:FreeOk scope X.N fr idx) (hp:scope.names.lookup p=some .local) (hco:scope.isCoroutine=false) (hgen:scope.isGenerator=false)
  (hbind:∀(pm cd ct:Value) (cl:List (Str×Addr)) (u:Value),bindArgs (kla_fn "<lambda>" (X.env.qual ++ "<lambda>") params body scope cl pm cd ct) ⟨[u],[]⟩=pure [(p,u)])
  (hb:∀s H f cd,PDE (X.lam scope (p::fr) s H (X.env.qual ++ "<lambda>") f cd) body fb) (hdef:defaultsOf params X.env=([],[]):=by rfl)
  (hn:x ≠ "__name__" := by decide) (hdb:(x==("__debug__" : Str))=false:=by decide) (h1:starEach [e] X.env=(false,eval e X.env)::starEach [] X.env:=by rfl) :
  PDE X (.Call (.Name x pp) [e] [⟨some "key", .Lambda params body scope lpos,kp⟩] pos) (Xv idx fe fb):=by
 rintro pins s σ H Q I ⟨F,τ,R,hq⟩
 have S:xX X scope:=vw hsc
 refine wpAny_Call_Name_kw (uB I hg hm hv ?_ hn hdb)
 refine callWith_kw ?_ (by rw[h1];rfl) (by rw[h1];rfl)
 have hqb:=hq.bind
 have ha:PDA X [e] (za fe zh):=zd he zi (by rw[h1])
 refine thn (ha pos pins s σ H (fun vs H1=>∃F1 d v,vs=[v]∧Ext F H F1 H1∧Rep X.K F1 d v∧fe τ=.ok d) I ⟨F,τ,R,?_⟩) fun us s1 hA=>?_
 ·unfold za zh
  cases z:fe τ with
  |no=>rw[z] at hqb;exact hqb.elim
  |ex cc=>rw[z] at hqb;exact hqb
  |ok d=>
   intro vs F1 H1 x1 rr
   obtain⟨v,rfl,rd⟩:=Reps.one rr
   exact⟨F1,d,v,rfl,x1,rd,rfl⟩
 obtain⟨vs,H1,I1,rvs,F1,d,v,rfl,x1,rd,ed⟩:=hA
 obtain⟨u,rfl,ru⟩:=Vals.one rvs
 rw[ed] at hqb
 have hqb:Ok X (match d with
  |.lst ds=>match vt idx fb τ ds with
   |.ok ks=>uS ks ds
   |_=>.no
  |_=>.no) (Ev X.K F H Q):=hqb
 cases d with
 |lst ds=>
  simp only at hqb
  cases z:vt idx fb τ ds with
  |no=>rw[z] at hqb;exact hqb.elim
  |ex cc=>rw[z] at hqb;exact hqb.elim
  |ok ks=>
   rw[z] at hqb
   obtain⟨kz,ek,h64,nd,ne,hq⟩:=Wc (X:=X) hqb
   obtain⟨lk,hkeys⟩:=ZZ z
   simp only[Rep] at rd
   obtain⟨l,ws,rfl,hF1,rs⟩:=rd
   obtain rfl:u=Value.ref l:=ru
   refine kws_cons ?_
   refine ML (P:=P) (c:=c) tu S bm hcode hcd hrow hdef I1 x1.fh (x1.tt R.tt) fun f c' pm ctv H2 s2 I2 x2 hc2=>?_
   refine kws_nil ?_
   have R2:RV X.K F1 τ σ H2:=(R.ext x1).ext x2
   refine wpAny_mono (UH (E:=X.xe) (Q:=Q) (F:=F1) (kz:=kz) I2 x2.fh hF1 rs h64 (by rw[← lk,ek,length_map]) nd ne (fun i d k hd hk pins' s' F' H' v u Q' I' hpin x' rd' ru' hQ'=>?_) fun Da F' H' x' r'=>?_) (fun w s3 ⟨v3,H3,I3,r3,q3⟩=>⟨v3,H3,I3.pins_of fun q hq=>I3.pin q (mem_append_right _ (mem_append_left _ hq)),r3,q3⟩) fun _ _ z=>z
   ·refine MM S hr hfr hp hco hgen hbind hb I' (R2.ext x') (I'.pin _ (mem_append_right _ (hpin _ (mem_append_right _ (mem_singleton.mpr rfl))))).1 (x'.hh _ _ hc2) rd' ru' (hkeys i d _ hd ?_) hQ'
    rw[ek,getElem?_map,hk];rfl
   ·exact hq _ F' H' ((x1.trans x2).trans x') r'
 |_=>exact hqb.elim
end
section
variable{prog:Program}{w:World}{A:Around}{R:Result→Shared→Prop}{E:Value→Shared→Prop}{I S:Addr}{fp wr:List Addr}{n:Nat}{P:Nat→Value→Prop}{St:Nat→Heap→Prop}{kw:List (Str×Value)}
end
variable[Tabs]
section
variable{X:Cx}{pos pp kp:Pos}{e e2:Expr}{fe f2:FE}
end
open Classical in
noncomputable def Xm(τ:DS)(σ:St)(F H:Hp):Hp:=fun a=>if ∃(i:Nat) (ds:List D),τ[i]?=some (some (.own ds))∧σ[i]?=some (some (.ref a)) then H a else F a
noncomputable def frzS:Option Sl→Option Sl
 | some (.own ds)=>some (.val (.lst ds))
 |o=>o
noncomputable def uD(τ:DS):DS:=τ.map frzS
theorem ue{τ:DS}{i:Nat}{o:Sl}(h:(uD τ)[i]?=some (some o)):(∃d,o=.val d∧τ[i]?=some (some (.val d)))∨(∃ds,o=.val (.lst ds)∧τ[i]?=some (some (.own ds)))∨(U9 (some o)=true∧τ[i]?=some (some o)):=by
 unfold uD at h
 rw[getElem?_map] at h
 cases q:τ[i]? with
 |none=>rw[q] at h;cases h
 |some x=>
  rw[q] at h
  cases x with
  |none=>cases h
  |some sl=>
   cases sl with
   |val d=>cases h;exact .inl ⟨d,rfl,rfl⟩
   |own ds=>cases h;exact .inr (.inl ⟨ds,rfl,rfl⟩)
   |obj n c fs=>cases h;exact .inr (.inr ⟨rfl,rfl⟩)
   |obr c fs=>cases h;exact .inr (.inr ⟨rfl,rfl⟩)
theorem wH{τ:DS}{i:Nat}{o:Sl}(ho:U9 (some o)=true)(h:(uD τ)[i]?=some (some o)):τ[i]?=some (some o):=by
 rcases ue h with ⟨_,e1,_⟩|⟨_,e1,_⟩|⟨_,e2⟩
 ·subst e1;cases ho
 ·subst e1;cases ho
 ·exact e2
section
variable{K:Frag}{B Z F H:Hp}{τ:DS}{σ:St}
theorem ja(R:RV K F τ σ H):Same F (Xm τ σ F H):=fun b o e=>by
 unfold Xm
 split
 ·rename_i h
  obtain⟨i,ds,h1,h2⟩:=h
  obtain⟨a,vs,q1,q2,q3,q4⟩:=R.own i ds h1
  rw[h2] at q1;cases q1
  rw[q3] at e;cases e
 ·exact e
theorem RV.frz(R:RV K F τ σ H):RV K (Xm τ σ F H) (uD τ) σ H:=by
 refine⟨fun b o e=>?_,by unfold uD;rw[length_map];exact R.len,fun i d e=>?_,fun i ds e=>?_,fun i j ds es a _ h1 _ _ _=>?_,⟨fun r hr=>?_,R.tt.2⟩,?_⟩
 ·unfold Xm at e
  split at e
  ·exact e
  ·exact R.fh b o e
 ·rcases ue e with ⟨d',e1,e2⟩|⟨ds,e1,e2⟩|⟨e1,e2⟩
  ·cases e1
   obtain⟨v,h1,h2⟩:=R.val i d e2
   exact⟨v,h1,h2.mono (ja R)⟩
  ·cases e1
   obtain⟨a,vs,q1,q2,q3,q4⟩:=R.own i ds e2
   refine⟨_,q1,?_⟩
   simp only[Rep]
   refine⟨a,vs,rfl,?_,q4.mono (ja R)⟩
   unfold Xm
   rw[if_pos ⟨i,ds,e2,q1⟩];exact q2
  ·cases e1
 ·rcases ue e with ⟨_,e1,_⟩|⟨_,e1,_⟩|⟨e1,_⟩ <;> cases e1
 ·rcases ue h1 with ⟨_,e1,_⟩|⟨_,e1,_⟩|⟨e1,_⟩ <;> cases e1
 ·obtain⟨t1,t2⟩:=R.tt.1 r hr
  refine⟨?_,t2⟩
  unfold Xm
  split
  ·rename_i h
   obtain⟨i,ds,h1,h2⟩:=h
   obtain⟨a,vs,q1,q2,q3,q4⟩:=R.own i ds h1
   rw[h2] at q1;cases q1
   rw[q2] at t2
   rcases t2 with z|⟨_,z,_⟩ <;> cases z
  ·exact t1
 ·have nf:∀{a:Addr} {u:HO},H a=some u→F a=none→(∀(i:Nat) (ds:List D),τ[i]?=some (some (.own ds))→σ[i]?=some (some (.ref a))→False)→Xm τ σ F H a=none:=fun {a u} h h3 n=>by
   unfold Xm
   split
   ·rename_i h
    obtain⟨j,ds,g1,g2⟩:=h
    exact(n j ds g1 g2).elim
   ·exact h3
  have o1:ObsOk K (Xm τ σ F H) τ σ H:=R.ob.keep (ja R) (fun _ _ _ _ h=>h) (fun a C dx vs h h3=>nf h h3 fun i ds g1 g2=>by
    obtain⟨b,ws,q1,q2,q3,q4⟩:=R.own i ds g1
    rw[g2] at q1;cases q1
    rw[q2] at h;cases h) (fun _ _ h=>h) fun i c a l ws h1 h2 h3 h4 h5=>⟨h4,nf h4 h5 fun j ds g1 g2=>R.ob.lo i j c ds a l h1 g1 h2 g2 h3⟩
  have bo:∀{i:Nat} {c:Str},ObS (uD τ)[i]? c→ObS τ[i]? c:=fun {i c} h=>by
   rcases h with ⟨n,fs,h⟩|⟨fs,h⟩
   ·exact .inl ⟨n,fs,wH rfl h⟩
   ·exact .inr ⟨fs,wH rfl h⟩
  exact⟨fun i n c fs h=>o1.at_ i n c fs (wH rfl h),fun i j n c c' fs a hij h1 h2=>o1.dis i j n c c' fs a hij (wH rfl h1) (bo h2),fun i c fs h=>o1.rd i c fs (wH rfl h),fun i j n c c' fs a a' l hij h1 h2=>o1.ll i j n c c' fs a a' l hij (wH rfl h1) (bo h2),fun i j c ds a l _ h2=>by
   rcases ue h2 with ⟨_,e1,_⟩|⟨_,e1,_⟩|⟨e1,_⟩ <;> cases e1⟩
theorem RS.frz(R:RS K B Z F τ σ H):RS K B Z (Xm τ σ F H) (uD τ) σ H:=by
 refine⟨R.rv.frz,R.bh,R.zf.trans (ja R.rv),fun a o e=>?_,fun i ds a h1 _=>?_,fun i n c fs a h1 h2=>R.oo i n c fs a (wH rfl h1) h2,fun a0 dx b1 b2 i n c fs h=>R.sf a0 dx b1 b2 i n c fs (wH rfl h),fun i c fs a h1 h2=>R.ro i c fs a (wH rfl h1) h2⟩
 ·unfold Xm at e
  split at e
  ·rename_i h
   obtain⟨i,ds,h1,h2⟩:=h
   exact .inr (R.ob i ds a h1 h2)
  ·exact R.nb a o e
 ·rcases ue h1 with ⟨_,e1,_⟩|⟨_,e1,_⟩|⟨e1,_⟩ <;> cases e1
end
section
variable{X:Cx}{pos:Pos}{e tg:Expr}{st:Stmt}{ss:List Stmt}{fe:FE}{fs:FA}{f:FS}
theorem VY(h:Zw X ss f):Zw X ss (fun τ=>f (uD τ)):=PSs.imp h fun E σ H z_=>by obtain⟨B,Z,F,τ,R,q⟩:=z_;exact⟨B,Z,_,uD τ,R.frz,q.same (ja R.rv)⟩
noncomputable def scal:D→Bool
 |.non=>true
 |.bl _=>true
 |.int _=>true
 |.str _=>true
 |_=>false
noncomputable def YA:D→Option (D×D×D)
 |.tup [x,y,z]=>some (x,y,z)
 |_=>none
theorem GB{d x y z:D}(h:YA d=some (x,y,z)):d=.tup [x,y,z]:=by
 unfold YA at h
 split at h
 ·cases h;rfl
 ·cases h
noncomputable def gTr(i j k:Nat):FG:=fun d τ=>match YA d with
 | some (x,y,z)=>.ok (((τ.set i (some (.val x))).set j (some (.val y))).set k (some (.val z)))
 |none=>.no
theorem Mg{i j l k:Nat}{x y z:Str}{px py pz:Pos}(hc:X.calm=true)(hN:X.N.Nodup)(hi:X.N[i]?=some x)(hx:Loc X.env.scope x)(hj:X.N[j]?=some y)(hy:Loc X.env.scope y)(hl:X.N[l]?=some z)(hz:Loc X.env.scope z)
  (hf:X.fn x=true∨X.env.scope.names.lookup x=some .local:=by first|exact .inl rfl|exact .inr rfl|assumption) (hf':X.fn y=true∨X.env.scope.names.lookup y=some .local:=by first|exact .inl rfl|exact .inr rfl|assumption) (hf'':X.fn z=true∨X.env.scope.names.lookup z=some .local:=by first|exact .inl rfl|exact .inr rfl|assumption) :
  PDG X (.Tuple [.Name x px,.Name y py,.Name z pz] k pos) (gTr i j l):=
 PG.imp (G9 (n:=3) hc (uT (ut hN hi hx hf) (uT (ut hN hj hy hf') (uT (ut hN hl hz hf'') JF)))) fun v σ H Q z_=>by
  obtain⟨F,τ,d,R,r,h⟩:=z_
  unfold gTr at h
  cases q1:YA d with
  |none=>rw[q1] at h;exact h.elim
  |some xyz=>
   obtain⟨x,y,z⟩:=xyz
   rw[q1] at h
   have e:=GB q1
   subst e
   simp only[Rep] at r
   obtain⟨a,vs,rfl,q,t⟩:=r
   simp only[Reps] at t
   obtain⟨v1,w1,rfl,r1,v2,w2,rfl,r2,v3,w3,rfl,r3,rfl⟩:=t
   exact⟨a,_,rfl,Same.seqT R.fh q,rfl,v1,[v2,v3],rfl,v2,[v3],rfl,v3,[],rfl,rfl,h _ (((R.set r1).set r2).set r3) (fun B Z R'=>((R'.set r1).set r2).set r3) (by simp)⟩
theorem GT(i j k:Nat)(hij:i≠j)(hik:i≠k)(hjk:j≠k):XH (gTr i j k):=⟨fun d e τ τ1 h=>by
 unfold gTr at h ⊢
 cases q:YA e with
 |none=>rw[q] at h;cases h
 |some xyz=>
  obtain⟨x,y,z⟩:=xyz
  rw[q] at h;cases h
  cases q2:YA d with
  |none=>rfl
  |some w=>
   obtain⟨a,b,c⟩:=w
   simp only
   congr 1
   apply List.ext_getElem?
   intro m
   simp only[getElem?_set,length_set]
   repeat' split
   all_goals first|rfl|lia,fun d τ τ1 h n=>by
 unfold gTr at h
 cases q:YA d with
 |none=>rw[q] at h;cases h
 |some xyz=>
  obtain⟨x,y,z⟩:=xyz
  rw[q] at h;cases h
  exact vx (vx (vx n))⟩
end
open PySem.W
noncomputable def ZE(a:Addr)(e1:Nat)(st:SortSt):Sem PySem.Fin:=do
 let srt:=(arrOf st).map (·.2)
 let touched:=(← seqEpoch a) != e1
 Builtin.List.listUpdate (.ref a) (fun _=>srt)
 if let some e:=failedOf st then rule "list.sort.comparison-raised"; (throw e)
 if touched then rule "list.sort.modified"; (raiseError "ValueError" "list modified during sort")
 ret .none
section
variable{X:Cx}{pins:List (Addr×Obj)}{σ:St}{F H:Hp}{τ:DS}{s:Shared}{Q:VK}{E:Value→Shared→Prop}
theorem Qk{l:Addr}{vs:List V}{kz:List (List Int)}(I:Inv X pins σ H s)(fh:Same F H)(hl:F l=some (.lst vs))(rs:Reps X.K F (kz.map fun k=>D.tup (k.map D.int)) vs)(h64:kz.length<64)(nd:kz.Nodup)(ne:∀k∈kz,k≠[])
  (hQ:∀Da F' H',Ext F H F' H'→Rep X.K F' (.lst ((ww (kz.zip (kz.map fun k=>D.tup (k.map D.int)))).map (·.2))) (.ref Da)→Q (.ref Da) H') :
  wpAny (model X.prog X.w) X.A (call (.builtin "sorted") [.ref l]) (EP X pins σ Q) E s:=by
 obtain⟨us,rv,⟨o,nn,eo,hc,hd0,hd⟩,hz⟩:=I.list (SqL.of (K:=X.K) (fh _ _ hl))
 have hil:s.heap.IsList l us.toArray:=⟨o,eo,hc,nn,hd⟩
 have l0:kz.length=us.length:=by rw[← rv.length,← rs.length,length_map]
 have l1:(kz.map fun k=>D.tup (k.map D.int)).length=us.length:=by rw[length_map];exact l0
 have sz:us.length≤sizeLine:=le_of_lt (xc (by lia))
 refine Calls.call_function_entry kind_sorted plain_sorted entry_sorted (args_sorted1 _) ?_
 unfold Builtin.«sorted»
 refine wpAny_bind (m:=checkCount "sorted" 1 1 _) (wpAny_pure ?_);refine wpAny_bind (collect_list hil ?_ sz);refine wpAny_bind (wpAny_newList ?_ sz)
 have keep1:∀b u,s.heap.get? b=some u→((s.heap.push (seqObj "list" #[] 0)).update s.heap.objs.size (Obj.mapSeq (· ++ us.toArray))).get? b=some u:=fun b u q=>by
  have hb:b<s.heap.objs.size:=Heap.lt_size q
  rw[Heap.get?_update_ne _ _ _ _ (ne_of_lt hb),Heap.get?_push_ne _ _ _ (ne_of_lt hb)];exact q
 have size1:s.heap.objs.size≤((s.heap.push (seqObj "list" #[] 0)).update s.heap.objs.size (Obj.mapSeq (· ++ us.toArray))).objs.size:=by rw[Heap.size_update,size_push'];lia
 generalize hh1:(s.heap.push (seqObj "list" #[] 0)).update s.heap.objs.size (Obj.mapSeq (· ++ us.toArray))=h1 at keep1 size1
 have hD:(h1.push (seqObj "list" us.toArray 0)).get? h1.objs.size=some (seqObj "list" us.toArray 0):=Heap.get?_push_size _ rfl
 have keep2:∀b u,s.heap.get? b=some u→(h1.push (seqObj "list" us.toArray 0)).get? b=some u:=fun b u q=>get?_push_of_some _ (keep1 b u q)
 generalize hDa:h1.objs.size=Da at hD size1
 have neD:∀b u,s.heap.get? b=some u→b≠Da:=fun b u q=>ne_of_lt (lt_of_lt_of_le (Heap.lt_size q) size1)
 generalize hh2:h1.push (seqObj "list" us.toArray 0)=h2 at hD keep2
 refine wpAny_bind (wpAny_holding (wpAny_call_entry (rest:=[]) slot_list_sort ⟨_,hD,rfl⟩ entry_list_sort ?_ (args_list_sort _)))
 rw[list_sort_plain Da]
 refine wpAny_bind (listItems_at hD rfl ?_);refine wpAny_bind (listUpdate_at hD rfl ?_ (by rw[size_toArray];exact sz) (zero_le _))
 have keep3:∀b u,s.heap.get? b=some u→(h2.update Da (Obj.mapSeq fun _=>(#[]:Array Value))).get? b=some u:=fun b u q=>by
  rw[Heap.get?_update_ne _ _ _ _ (neD b u q)];exact keep2 b u q
 obtain⟨e1,hD3⟩:∃e1,(h2.update Da (Obj.mapSeq fun _=>(#[]:Array Value))).get? Da=some (seqObj "list" #[] e1):=⟨_,get?_update_seq hD fun _=>#[]⟩
 generalize h2.update Da (Obj.mapSeq fun _=>(#[]:Array Value))=h3 at keep3 hD3
 refine wpAny_bind (seqEpoch_at hD3 rfl ?_);refine wpAny_bind (wpAny_newTuple ?_ (by show us.length≤sizeLine;exact sz));refine wpAny_bind (wpAny_newList ?_ (zero_le _))
 refine wpAny_holding ?_
 have hDa0:s.heap.objs.size≤Da:=size1
 have nH:H Da=none:=I.hok.fresh hDa0
 have neL:Da≠X.env.locals:=(ne_of_lt (lt_of_lt_of_le I.lt hDa0)).symm
 have pinD:∀q∈X.pn++pins,q.1≠Da:=fun q hq=>neD _ _ (I.pin q hq).1
 have cellD:∀x c,X.env.cells.lookup x=some c→c≠Da:=fun x c e=>by
  obtain⟨v,oc,hoc,_⟩:=I.cell x c e
  exact neD _ _ hoc
 have keep4:∀b u,h3.get? b=some u→((h3.push (seqObj "tuple" us.toArray 0)).push (seqObj "list" #[] 0)).get? b=some u:=fun b u q=>get?_push_of_some _ (get?_push_of_some _ q)
 have I1:Inv X pins σ H { s with heap:=(h3.push (seqObj "tuple" us.toArray 0)).push (seqObj "list" #[] 0) }:=I.kept (t':=s.toks) fun b u q=>keep4 _ _ (keep3 b u q)
 have I2:Inv X (pins++[(Da,seqObj "list" #[] e1)]) σ H { s with heap:=(h3.push (seqObj "tuple" us.toArray 0)).push (seqObj "list" #[] 0) }:=I1.pins_of fun q hq=>by
  rcases mem_append.mp hq with hq|hq
  ·exact I1.pin q (mem_append_right _ hq)
  ·have:q=(Da,seqObj "list" #[] e1):=by simpa using hq
   subst this
   exact⟨keep4 _ _ hD3,nH,neL,I.nofs hDa0,fun v z=>nomatch z⟩
 have h0D:X.s₀.heap.objs.size≤Da:=le_trans I.sz hDa0
 generalize (h3.push (seqObj "tuple" us.toArray 0)).push (seqObj "list" #[] 0)=h4 at I1 I2 keep4
 have eD:h4.get? Da=some (seqObj "list" #[] e1):=keep4 _ _ hD3
 try dsimp only
 have fin:∀(st:SortSt) (out:List Value) (ovs:List V),(arrOf st).map (·.2)=List.toArray out→failedOf st=none→out.length<64→Vals ovs out→Reps X.K F ((ww (kz.zip (kz.map fun k=>D.tup (k.map D.int)))).map (·.2)) ovs →
   wpAny (model X.prog X.w) X.A.in1.in1 (ZE Da e1 st) (fun fin s'=>∃v,fin=.done (.ret v)∧wpAny (model X.prog X.w) X.A.in1 (ret (.ref Da)) (fun fin s'=>∃v,fin=.done (.ret v)∧EP X pins σ Q v s') E s') E { s with heap:=h4 }:=fun st out ovs hout hf hz r ro=>by
  unfold ZE
  try dsimp only
  refine wpAny_bind (seqEpoch_at eD rfl ?_)
  refine wpAny_bind (listUpdate_at eD rfl ?_ (zero_le _) (by rw[hout,size_toArray];exact le_trans (le_of_lt (xc (by lia))) (le_succ _)))
  rw[hf]
  simp only[bne_self_eq_false,Bool.false_eq_true,if_false]
  refine wpAny_pure ⟨_,rfl,wpAny_pure ⟨_,rfl,.ref Da,_,Inv.settle I2 rfl (ws:=out) hout r (by rw[r.length];exact le_of_lt (xc (by lia))) h0D cellD pinD,rfl,hQ Da (upd F Da (.lst ovs)) _ (Ext.new fh nH) ?_⟩⟩
  simp only[Rep]
  exact⟨Da,ovs,rfl,zJ,ro.mono (yz (yd fh nH))⟩
 by_cases h2:us.length<2
 ·have h2':us.toArray.size<2:=by rw[size_toArray];exact h2
  rw[if_pos h2',if_pos h2']
  refine wpAny_bind (wpAny_pure ?_)
  rw[StateT.run_pure]
  refine wpAny_bind (wpAny_pure ?_)
  refine fin _ us vs ?_ rfl (by lia) rv ?_
  ·show((us.toArray.zip us.toArray).map (·.2))=us.toArray
   apply Array.toList_inj.mp
   rw[Array.toList_map,ksk_zip]
   exact List.map_snd_zip (by simp)
  ·rw[YD (by rw[length_map]) (by lia)];exact rs
 ·have h2':¬ us.toArray.size<2:=by rw[size_toArray];exact h2
  rw[if_neg h2',if_neg h2']
  have kt:=U8 I2 fh rs rv ne
  refine wpAny_bind (Ww kt (by lia) ?_)
  refine wpAny_bind (VQ (Q:=fun st s'=>wpAny (model X.prog X.w) X.A.in1.in1 (ZE Da e1 st) (fun fin s'=>∃v,fin=.done (.ret v)∧wpAny (model X.prog X.w) X.A.in1 (ret (.ref Da)) (fun fin s'=>∃v,fin=.done (.ret v)∧EP X pins σ Q v s') E s') E s') kt rfl (by lia) (by lia) nd fun p st h3 h4 h5 h6=>?_)
  have hp:∀i∈p.toList,i<us.length:=fun i hi=>by simpa using h3.mem_iff.mp hi
  refine fin st _ (p.toList.map fun i=>vs.getD i .non) h5 h6 ?_ (Zx rv _ fun i hi=>by rw[rv.length];exact hp i hi) ?_
  ·rw[length_map,h3.length_eq,length_range];lia
  ·rw[← VJ (q:=p) (d:=.non) (by rw[length_map]) nd (by rw[l1];exact h3) (by rw[l1];exact h4)]
   exact Reps.pick rs _ fun i hi=>by rw[l1];exact hp i hi
noncomputable def YE:List D→Rs D
 |[.lst ds]=>uS ds ds
 |_=>.no
theorem Tu:jJ X (.builtin "sorted") YE:=⟨fun vs H Q=>∃(F:Hp) (l:Addr) (ws:List V) (kz:List (List Int)),vs=[.ref l]∧Same F H∧F l=some (.lst ws)∧Reps X.K F (kz.map fun k=>D.tup (k.map D.int)) ws∧kz.length<64∧kz.Nodup∧(∀k∈kz,k≠[]) ∧
  ∀Da F' H',Ext F H F' H'→Rep X.K F' (.lst ((ww (kz.zip (kz.map fun k=>D.tup (k.map D.int)))).map (·.2))) (.ref Da)→Q (.ref Da) H',fun pins s σ H vs us Q I r ⟨F,l,ws,kz,e1,fh,hl,rs,h64,nd,ne,q⟩=>by
  subst e1
  obtain⟨u,rfl,r1⟩:=vals1 r
  cases r1
  exact Qk I fh hl rs h64 nd ne q,fun F H vs ds Q fh r h=>by
  match ds,r,h with
  |[.lst ds],r,h=>
   obtain⟨v,rfl,r1⟩:=r.one
   obtain⟨kz,ek,h64,nd,ne,hq⟩:=Wc (X:=X) (show Ok X (uS ds ds) _ from h)
   simp only[Rep] at r1
   obtain⟨l,ws,rfl,e1,t⟩:=r1
   subst ek
   exact⟨F,l,ws,kz,rfl,fh,e1,t,by simpa using h64,nd,ne,fun Da F' H' x rp=>hq _ F' H' x rp⟩
  |[],_,h=>exact h.elim
  |[.non],_,h=>exact h.elim
  |[.bl _],_,h=>exact h.elim
  |[.int _],_,h=>exact h.elim
  |[.str _],_,h=>exact h.elim
  |[.tup _],_,h=>exact h.elim
  |[.scr _],_,h=>exact h.elim
  |[.raw _],_,h=>exact h.elim
  |[.exc _],_,h=>exact h.elim
  |[.dct _ _],_,h=>exact h.elim
  |.non::_::_,_,h=>exact h.elim
  |.bl _::_::_,_,h=>exact h.elim
  |.int _::_::_,_,h=>exact h.elim
  |.str _::_::_,_,h=>exact h.elim
  |.lst _::_::_,_,h=>exact h.elim
  |.tup _::_::_,_,h=>exact h.elim
  |.scr _::_::_,_,h=>exact h.elim
  |.raw _::_::_,_,h=>exact h.elim
  |.exc _::_::_,_,h=>exact h.elim
  |.dct _ _::_::_,_,h=>exact h.elim⟩
end
open PySem.W
structure Jq(K:Frag)(mg:Str→Option Value)(x:Str)(st:Stmt)(f c T:Addr):Prop where
 ex:∃(oc:Value) (od:Option Addr) (kV doc pm:Value) (an:Option Addr) (ct:Value) (osl:Array (Option Value)),K.lookup f=some ⟨oc,od,.func (fnOf x x (zO st) (zH st) (zl st) .none kV doc pm an (.ref c) ct),osl⟩
 cd:codeIn K (.ref c) x=true
 kp:keepIn K (.ref f)=true
 at_:mg x=some (.ref f)
 tab:codeHdIn K c T=true
section
variable{P:Program}{w:World}{K:Frag}{mg:Str→Option Value}{base:Heap}
theorem DefOk.mkL{x:Str}{st:Stmt}{f c T:Addr}{N ps:List Str}{k n:Nat}{fb:FS}(D:Jq K mg x st f c T)(S:zQ N ps (zl st))(hn:ps.length=n)
  (hb:∀(kV doc pm:Value) (an:Option Addr) (cdv ct:Value) (us:List Value),us.length=ps.length→bindArgs (fnOf x x (zO st) (zH st) (zl st) .none kV doc pm an cdv ct) ⟨us,[]⟩=pure (ps.zip us))
  (hbody:∀(A:Around) (outer:List Env) (s:Shared) (H:Hp) (E:XK),Room k (A.deeper (envOfC x (zl st) s.heap.objs.size f (.ref c))) →
   Zw (Vo CX0 P w K mg base N x (zl st) f (.ref c) A outer s H E).nox (zH st) fb):DefOk P w K mg base x (k+1) n ps (yX N.length fb):=by
 obtain⟨oc,od,kV,doc,pm,an,ct,osl,lk⟩:=D.ex
 refine⟨f,_,?_,.all (hb kV doc pm an (.ref c) ct),D.kp,D.at_⟩
 refine zi0 lk D.cd S (fun vs H Q E h=>by rw[hn];exact h.1) fun A outer s H vs Q E hr h=>⟨_,(show PSs _ _ _ from hbody A outer s H E hr).nox,?_⟩
 obtain⟨hl,ds,Fz,fh,tt,r,h⟩:=h
 refine⟨H,Fz,Fz,zV N.length ds,VP fh tt r,?_⟩
 unfold yX at h
 cases q:fb (zV N.length ds) with
 |nx τ=>rw[q] at h;exact fun σ F' H' ff RR=>h .non F' H' RR.out (by simp only[Rep])
 |rt d=>rw[q] at h;exact fun v F' H' x rr=>h v F' H' x rr
 |ro d τ=>rw[q] at h;exact fun v σ F' H' ff RR rr=>h v F' H' RR.out rr
 |rb d τ=>rw[q] at h;exact h.elim
 |bk τ=>rw[q] at h;exact h.elim
 |ct τ=>rw[q] at h;exact h.elim
 |ex c=>rw[q] at h;exact h.elim
 |no=>rw[q] at h;exact h.elim
 |rs c τ=>rw[q] at h;exact h.elim
end
section
variable{X:Cx}{pos:Pos}{e a b:Expr}{es:List Expr}{fe fa fb:FE}{fs:FA}
end
section
variable{X:Cx}{pos:Pos}{e:Expr}{es:List Expr}{fe:FE}{fs:FA}{C:Addr}{c f x:Str}{i:Nat}
end
section
variable{X:Cx}{pos:Pos}{e:Expr}{es:List Expr}{fe:FE}{fs:FA}{C:Addr}{c f x:Str}{i:Nat}
end
section
variable{X:Cx}{pos:Pos}{e:Expr}{es:List Expr}{fe:FE}{ff:FA}{C:Addr}{c f x:Str}{i:Nat}
end
section
variable{X:Cx}{pos:Pos}{e:Expr}{es:List Expr}{fe:FE}{ff:FA}{C:Addr}{c f x:Str}{i:Nat}
end
section
variable{P:Program}{w:World}{K:Frag}{mg:Str→Option Value}{base:Heap}
end
noncomputable abbrev FOb:=DS→Rs (D×DS)
noncomputable abbrev FObT:=DS→Rs (Bool×DS)
section
variable{X:Cx}{pos:Pos}{e a b:Expr}{es rest:List Expr}{fe fb:FE}{fs:FA}{c m x:Str}{i k n:Nat}{ps:List Str}{fo:FOb}{ga gb:FObT}
end
section
variable{X:Cx}{pos:Pos}{e a b:Expr}{es rest:List Expr}{fe fb:FE}{fs f1 f2:FA}{c m x y:Str}{i k n j:Nat}{ps:List Str}{fo:FOb}
end
section
variable{X:Cx}{pos:Pos}{e:Expr}{es:List Expr}{fs:FA}{c x:Str}{i k n:Nat}{ps:List Str}
end
section
variable{P:Program}{w:World}{K:Frag}{mg:Str→Option Value}{base:Heap}
end
section
variable{X:Cx}{scope:Scope}{tn fr:List Str}{idx:List Nat}{tg iter elt:Expr}{ifs:List Expr}{pos:Pos}{fi:FA}{set:FG}{ft:FT}{fe:FE}
end
section
variable{X:Cx}{pos:Pos}{e tg:Expr}{es:List Expr}{fe:FE}{fs:FA}{c f x:Str}{i:Nat}{C:Addr}
end
section
variable{P:Program}{w:World}{K:Frag}{mg:Str→Option Value}{base:Heap}
end
section
variable{X:Cx}{pos:Pos}{e:Expr}{es:List Expr}{fs:FA}{c c2 m x y:Str}{i k n h_:Nat}{ps:List Str}
end
section
variable{X:Cx}{pos:Pos}{e a b:Expr}{es:List Expr}{fe fa fb fi:FE}{C:Addr}{c f x:Str}{i:Nat}
end
omit [Tabs] in
theorem vals_ints:∀{vs:List Value} {ns:List Int},IntsAre vs ns→Vals (ns.map V.int) vs
 |_,_,.nil=>.nil
 |_,_,.cons n t r=>.cons ⟨t,rfl⟩ (vals_ints r)
section
variable{X:Cx}{pins:List (Addr×Obj)}{σ:St}{F H:Hp}{s:Shared}{Q:VK}{E:Value→Shared→Prop}
end
section
variable{X:Cx}{pos:Pos}{C:Addr}{c f x:Str}{i:Nat}
end
open PySem.W
section
variable{P:Program}{w:World}{K:Frag}{mg:Str→Option Value}{base:Heap}
end
section
variable{P:Program}{w:World}{K:Frag}{mg:Str→Option Value}{base:Heap}
end
section
variable{X:Cx}{pos:Pos}{e:Expr}{es:List Expr}{fe:FE}{ff:FA}{c m x:Str}{i k n h_:Nat}{ps:List Str}
end
end FD
set_option Elab.async false
set_option linter.all false
namespace STW
open PySem
noncomputable abbrev Ris(l:List Nat):Prop:=l.Pairwise (· < ·)
theorem Yj{l:List Nat}(h:Ris l){i k:Nat}(hik:i<k)(hk:k<l.length):l.getD i 0<l.getD k 0:=by
 have:=List.pairwise_iff_getElem.mp h i k (by lia) hk hik
 simpa[show i<l.length by lia,hk] using this
theorem XD(xs:Array Nat)(j:Nat):∀(fuel lo hi:Nat),lo≤hi→hi≤xs.size→hi-lo≤fuel→Ris xs.toList→(∀i,i<lo→xs.toList.getD i 0<j)→(∀i,hi≤i→i<xs.size→j≤xs.toList.getD i 0) →
  SetTable.below.go xs j fuel lo hi≤xs.size∧(∀i,i<SetTable.below.go xs j fuel lo hi→xs.toList.getD i 0<j)∧∀i,SetTable.below.go xs j fuel lo hi≤i→i<xs.size→j≤xs.toList.getD i 0:=by
 intro l_
 induction l_ with
 |zero=>
  rintro lo hi h1 h2 h3 hr ha hb
  have e:lo=hi:=by lia
  subst e
  unfold SetTable.below.go
  exact⟨h2,ha,hb⟩
 |succ fuel ih_=>
  rintro lo hi h1 h2 h3 hr ha hb
  unfold SetTable.below.go
  by_cases c:lo<hi
  ·rw[if_pos c]
   have hm:(lo+hi) / 2<xs.size:=by lia
   have em:xs.getD ((lo+hi) / 2) j=xs.toList.getD ((lo+hi) / 2) 0:=by
    simp[Array.getD,hm]
   dsimp only
   by_cases d:xs.getD ((lo+hi) / 2) j<j
   ·rw[if_pos d]
    refine ih_ _ hi (by lia) h2 (by lia) hr (fun i hi'=>?_) hb
    rw[em] at d
    by_cases z:i=(lo+hi) / 2
    ·subst z;exact d
    ·exact Nat.lt_trans (Yj hr (by lia) (by simpa using hm)) d
   ·rw[if_neg d]
    refine ih_ lo _ (by lia) (by lia) (by lia) hr ha fun i hi' hs=>?_
    rw[em] at d
    by_cases z:i=(lo+hi) / 2
    ·subst z;lia
    ·have:=Yj hr (i:=(lo+hi) / 2) (k:=i) (by lia) (by simpa using hs)
     lia
  ·rw[if_neg c]
   have e:lo=hi:=by lia
   subst e
   exact⟨h2,ha,hb⟩
theorem Uz{xs:Array Nat}(hr:Ris xs.toList)(j:Nat):SetTable.below xs j≤xs.size∧(∀i,i<SetTable.below xs j→xs.toList.getD i 0<j)∧∀i,SetTable.below xs j≤i→i<xs.size→j≤xs.toList.getD i 0:=
 XD xs j xs.size 0 xs.size (zero_le _) (le_refl _) (by lia) hr (fun i h=>by lia) fun i h1 h2=>by lia
noncomputable def TT(L:Bool)(t:SetTable):Prop:=t.led=L∧t.dummies = #[]∧Ris t.place.toList
theorem UL{L:Bool}{t:SetTable}(h:TT L t)(j:Nat):t.slot j≠.dummy:=by
 unfold SetTable.slot
 have:SetTable.has t.dummies j=false:=by
  rw[h.2.1];unfold SetTable.has;simp
 dsimp only
 split
 ·simp
 ·rw[this];simp
theorem UK{t:SetTable}{j:Nat}(h:t.slot j=.empty):t.place[SetTable.below t.place j]?≠some j:=fun e=>by
 unfold SetTable.slot at h
 dsimp only at h
 rw[e] at h
 simp at h
theorem VW{L:Bool}{t:SetTable}(ht:TT L t)(hashAt:Nat→Int)(h:Int):∀(fuel:Nat) (p:SetTable.Probe) (j:Nat) (d:Option Nat),p.dummy=none→SetTable.probe.go t hashAt h fuel p=some (.empty j d)→t.slot j=.empty∧d=none:=by
 intro l_
 induction l_ with
 |zero=>
  rintro p j d _ e
  unfold SetTable.probe.go at e;cases e
 |succ fuel ih_=>
  rintro p j d hp e
  unfold SetTable.probe.go at e
  cases q:t.slot p.j with
  |empty=>
   rw[q] at e
   simp only[Option.some.injEq,SetTable.Met.empty.injEq] at e
   obtain⟨rfl,rfl⟩:=e
   exact⟨q,hp⟩
  |dummy=>exact absurd q (UL ht p.j)
  |live i=>
   rw[q] at e
   dsimp only at e
   split at e
   ·cases e
   ·refine ih_ _ j d ?_ e
    unfold SetTable.advance
    split
    ·exact hp
    ·exact hp
theorem Q8{L:Bool}{t:SetTable}(ht:TT L t){h:Int}{j:Nat}{b:Bool}(e:t.freeSlot h=some (j,b)):t.slot j=.empty:=by
 unfold SetTable.freeSlot at e
 split at e
 ·rename_i j' d q
  unfold SetTable.probe at q
  obtain⟨q1,q2⟩:=VW ht _ h _ _ j' d rfl q
  subst q2
  simp at e
  rw[← e.1];exact q1
 ·cases e
theorem Uk{α:Type}(xs:Array α)(p:Nat)(x:α)(hp:p≤xs.size):(SetTable.insertAt xs p x).toList=xs.toList.take p++x::xs.toList.drop p:=by
 unfold SetTable.insertAt
 simp[Array.toList_extract,List.extract]
 exact take_of_length_le (by simp)
theorem Lu{L:Bool}{t:SetTable}(ht:TT L t){j:Nat}(hj:t.slot j=.empty):TT L (t.put j).1:=by
 obtain⟨b1,b2,b3⟩:=Uz ht.2.2 j
 have hne:=UK hj
 have hd:SetTable.has t.dummies j=false:=by rw[ht.2.1];unfold SetTable.has;simp
 refine⟨ht.1,?_,?_⟩
 ·show(if SetTable.has t.dummies j=true then _ else t.dummies) = #[]
  rw[hd];simpa using ht.2.1
 ·show Ris (SetTable.insertAt t.place (SetTable.below t.place j) j).toList
  rw[Uk _ _ _ b1]
  generalize SetTable.below t.place j=p at *
  have hr:=ht.2.2
  refine pairwise_append.mpr ⟨hr.sublist (List.take_sublist _ _),pairwise_cons.mpr ⟨fun y hy=>?_,hr.sublist (List.drop_sublist _ _)⟩,fun a ha y hy=>?_⟩
  ·obtain⟨i,hi,rfl⟩:=List.getElem_of_mem hy
   rw[List.getElem_drop]
   rw[length_drop] at hi
   have hs:p+i<t.place.size:=by have:=length_toList (xs:=t.place);lia
   have g:=b3 (p+i) (by lia) hs
   have e:t.place.toList.getD (p+i) 0=t.place.toList[p+i]'(by simpa using hs):=by simp[hs]
   rw[e] at g
   refine Nat.lt_of_le_of_ne g fun z=>?_
   by_cases i0:i=0
   ·subst i0
    apply hne
    have:t.place[p]?=some (t.place.toList[p+0]'(by simpa using hs)):=by
     have:p<t.place.size:=by lia
     simp[this]
    rw[this,← z]
   ·have h2:=Yj hr (i:=p) (k:=p+i) (by lia) (by simpa using hs)
    have h3:=b3 p (le_refl _) (by lia)
    rw[e] at h2
    lia
  ·have ha':a<j:=by
    obtain⟨i,hi,rfl⟩:=List.getElem_of_mem ha
    rw[List.getElem_take]
    rw[length_take] at hi
    have g:=b2 i (by lia)
    have hi2:i<t.place.size:=by have:=length_toList (xs:=t.place);lia
    simpa[hi2] using g
   rcases mem_cons.mp hy with rfl|hy
   ·exact ha'
   ·obtain⟨i,hi,rfl⟩:=List.getElem_of_mem hy
    rw[List.getElem_drop]
    rw[length_drop] at hi
    have hs:p+i<t.place.size:=by have:=length_toList (xs:=t.place);lia
    have g:=b3 (p+i) (by lia) hs
    have e:t.place.toList.getD (p+i) 0=t.place.toList[p+i]'(by simpa using hs):=by simp[hs]
    rw[e] at g
    lia
theorem jj{L:Bool}{t:SetTable}(ht:TT L t)(n:Nat):TT L (t.standIn n):=⟨ht.1,rfl,by
 show Ris (Array.range n).toList
 rw[Array.toList_range];exact List.pairwise_lt_range⟩
theorem zl9{L:Bool}{t:SetTable}(ht:TT L t)(n:Nat):TT L (t.orStandIn n):=by
 unfold SetTable.orStandIn
 split
 ·exact ht
 ·exact jj ht n
theorem zb2{L:Bool}{t:SetTable}(ht:TT L t)(es:Array (Int×Value))(h:Int)(x:Value):TT L (layNew t es h x).2.1:=by
 unfold layNew
 split
 ·rename_i slot wd e
  exact zl9 (Lu ht (Q8 ht e)) _
 ·exact jj ht _
theorem MN{mask finger moves:Nat}{led plain:Bool}{hs:Array Int}{t:SetTable}{o:Array Nat}(e:SetTable.laid mask finger moves led plain hs=some (t,o)):TT led t:=by
 unfold SetTable.laid at e
 cases q:SetTable.layClean mask hs with
 |none=>rw[q] at e;cases e
 |some owner=>
  rw[q] at e
  simp only[Option.bind_eq_bind,Option.bind_some,Option.pure_def,Option.some.injEq,Prod.mk.injEq] at e
  obtain⟨rfl,_⟩:=e
  refine⟨rfl,rfl,?_⟩
  show Ris (((List.range (mask+1)).filterMap fun j=>(owner.getD j none).map (j,·)).map (·.1)).toArray.toList
  show(((List.range (mask+1)).filterMap fun j=>(owner.getD j none).map (j,·)).map (·.1)).Pairwise (· < ·)
  rw[pairwise_map]
  refine(List.Pairwise.filterMap (R:=(· < ·)) _ (fun a a' haa b hb b' hb'=>?_) List.pairwise_lt_range)
  cases z:owner.getD a none with
  |none=>rw[z] at hb;simp at hb
  |some k=>
   cases z':owner.getD a' none with
   |none=>rw[z'] at hb';simp at hb'
   |some k'=>
    rw[z] at hb;rw[z'] at hb'
    simp at hb hb'
    subst hb;subst hb'
    exact haa
theorem Qq{L:Bool}{t:SetTable}(ht:TT L t)(es:Array (Int×Value))(wanted:Nat):TT L (relayAll t es wanted).2.1:=by
 unfold relayAll
 split
 ·rename_i t' order e
  dsimp only
  split
  ·unfold SetTable.relaid at e
   have:=MN e
   rw[ht.1] at this
   exact this
  ·exact jj ht _
 ·exact jj ht _
theorem LV{L:Bool}{t:SetTable}(ht:TT L t):TT L { t with plain:=false }:=ht
section
variable{prog:Program}{w:World}{K:Type}[DecidableEq K]{knd:KeyKind prog w K}{A:Around}{E:Value→Shared→Prop}{s:Shared}{L:Bool}{a:Addr}{S:K→Bool}{n:Nat}{k:K}{x:Value}
noncomputable def SetT(knd:KeyKind prog w K)(L:Bool)(h:Heap)(a:Addr)(S:K→Bool)(n:Nat):Prop:=
 ∃o es ep t,h.get? a=some o∧o.ExactSet∧o.data=.set es ep t∧ElemsOf knd es.toList∧(∀k,S k=true↔∃e∈es.toList,knd.is k e.2=true)∧es.size<scanBound∧t.fits es.size=true∧es.size=n∧TT L t
theorem SetT.at{h h':Heap}(q:SetT knd L h a S n)(k:∀o,h.get? a=some o→h'.get? a=some o):SetT knd L h' a S n:=by
 obtain⟨o,es,ep,t,ho,r⟩:=q;exact⟨o,es,ep,t,k _ ho,r⟩
theorem SetT.congr{h:Heap}{S':K→Bool}{n':Nat}(q:SetT knd L h a S n)(e:∀k,S k=S' k)(en:n=n'):SetT knd L h a S' n':=by
 have:S=S':=funext e
 subst this;subst en;exact q
theorem stored{h:Heap}{o:Obj}{es:Array (Int×Value)}{ep:Nat}{t:SetTable}(ho:h.get? a=some o)(hx:o.ExactSet)(hd:o.data=.set es ep t){es':Array (Int×Value)}{t':SetTable}{S':K→Bool}(p1:ElemsOf knd es'.toList)
  (p2:∀k,S' k=true↔∃e∈es'.toList,knd.is k e.2=true) (p3:es'.size<scanBound) (p4:t'.fits es'.size=true) (p5:TT L t') :
  (h.update a (Obj.putSet es' t')).get? a=some { o with data:=.set es' (ep+1) t' }∧SetT knd L (h.update a (Obj.putSet es' t')) a S' es'.size:=by
 obtain⟨g,_⟩:=SetOf_store (knd:=knd) ho hx hd p1 p2 p3 p4
 exact⟨g,_,es',ep+1,t',g,hx,rfl,p1,p2,p3,p4,rfl,p5⟩
theorem TV{g:Bool→Sem Unit}(hg:∀(b:Bool) (s1:Shared) (Q:Unit→Shared→Prop),Q () s1→wpAny (model prog w) A (g b) Q E s1){o:Obj}{es:Array (Int×Value)}{ep:Nat}{t:SetTable}(ho:s.heap.get? a=some o)(hx:o.ExactSet)(hd:o.data=.set es ep t)
  {es1:Array (Int×Value)} {t2:SetTable} {S':K→Bool} (p1:ElemsOf knd es1.toList) (p2:∀k,S' k=true↔∃e∈es1.toList,knd.is k e.2=true) (p3:es1.size<scanBound) (p4:t2.fits es1.size=true) (p5:TT L t2) {wasDummy:Bool} {R:Option Bool→Shared→Prop}
  (q:∀h',Heap.SameBut a s.heap h'→SetT knd L h' a S' es1.size→R (some true) { s with heap:=h' }) :
  wpAny (model prog w) A (do
    storeSet a es1 t2
    if (!wasDummy&&t2.tooFull)=true then do
        g (relayAll t2 es1 (SetTable.grown es1.size)).2.2
        storeSet a (relayAll t2 es1 (SetTable.grown es1.size)).1 (relayAll t2 es1 (SetTable.grown es1.size)).2.1
        pure (some true)
     else pure (some true)) R E s:=by
 obtain⟨g1,g2⟩:=stored (knd:=knd) ho hx hd p1 p2 p3 p4 p5
 have sb:=Heap.SameBut.update s.heap a (Obj.putSet es1 t2)
 refine wpAny_bind (wpAny_storeSet_of ho hd ?_ (fits_of_scanBound p3))
 split
 ·have r1:=relayAll_perm t2 es1 (SetTable.grown es1.size);have r2:=relayAll_fits t2 es1 (SetTable.grown es1.size);have r3:=Qq p5 es1 (SetTable.grown es1.size)
  generalize relayAll t2 es1 (SetTable.grown es1.size)=Z at r1 r2 r3 ⊢
  obtain⟨es2,t3,gv⟩:=Z
  dsimp only at r1 r2 r3 ⊢
  have z:es2.size=es1.size:=by rw[← length_toList,r1.length_eq,length_toList]
  have p3':es2.size<scanBound:=by lia
  refine wpAny_bind (hg _ _ _ (wpAny_bind (wpAny_storeSet_of g1 rfl ?_ (fits_of_scanBound p3'))))
  obtain⟨_,u⟩:=stored (knd:=knd) (L:=L) g1 hx rfl (p1.perm r1) (fun k'=>(p2 k').trans ⟨fun ⟨e,he,y⟩=>⟨e,r1.mem_iff.mpr he,y⟩,fun ⟨e,he,y⟩=>⟨e,r1.mem_iff.mp he,y⟩⟩) p3' r2 r3
  rw[z] at u
  exact wpAny_pure (q _ (sb.trans (Heap.SameBut.update _ a _)) u)
 ·exact wpAny_pure (q _ sb g2)
theorem addOk{Q:Bool→Shared→Prop}(hkey:knd.is k x=true)(hsc:x.scannable=true)(hS:SetT knd L s.heap a S n)(hroom:n+1<scanBound)
  (q:∀h',Heap.SameBut a s.heap h'→SetT knd L h' a (fun k'=>S k'||decide (k'=k)) (if S k then n else n+1)→Q (!S k) { s with heap:=h' }):wpAny (model prog w) A (setAddHashed a x (knd.hash k)) Q E s:=by
 obtain⟨o,es,ep,t,ho,hx,hd,hel,hmem,hb,hf,hn,hT⟩:=hS
 have hb1:es.size+1<scanBound:=by lia
 unfold setAddHashed setAddHashedIn;refine wpAny_holding (wpAny_bind (wpAny_setState_of ho hd hf ?_))
 dsimp only;rw[byScan_of hsc hb hel];simp only[↓reduceIte];unfold setAddByScan
 refine wpAny_bind (wpAny_bind (wpAny_rule (wpAny_bind (wpAny_setScan_of hkey ho hd hf hel ?_))))
 cases hr:List.findIdx? (fun e=>knd.is k e.2) es.toList with
 |some j=>
  obtain⟨hj,hpj,_⟩:=List.findIdx?_eq_some_iff_getElem.mp hr
  have hSk:S k=true:=(hmem k).mpr ⟨es.toList[j],getElem_mem hj,hpj⟩
  have u:=q s.heap (Heap.SameBut.refl a s.heap) ⟨o,es,ep,t,ho,hx,hd,hel,fun k'=>by
   rw[Bool.or_eq_true,decide_eq_true_eq,← hmem k'];exact⟨fun z=>z.elim id (fun e=>e ▸ hSk),.inl⟩,hb,hf,by rw[hSk];exact hn,hT⟩
  rw[hSk] at u
  dsimp only
  exact wpAny_pure (wpAny_pure u)
 |none=>
  have hSk:S k=false:=by
   cases hk:S k with
   |false=>rfl
   |true=>obtain⟨e,he,hp⟩:=(hmem k).mp hk;have:=List.findIdx?_eq_none_iff.mp hr e he;rw[hp] at this;cases this
  have gw:∀(b:Bool) (s1:Shared) (Q':Unit→Shared→Prop),Q' () s1→wpAny (model prog w) A (match b with|true=>rule "set.scan.the-table-gave-way" |false=>pure ()) Q' E s1:=fun b s1 Q' hq=>by
   cases b <;> first|exact wpAny_pure hq|exact wpAny_rule hq
  have l1:=layNew_perm t es (knd.hash k) x;have l2:=layNew_fits t es (knd.hash k) x;have l3:=zb2 hT es (knd.hash k) x
  dsimp only
  generalize layNew t es (knd.hash k) x=Z at l1 l2 l3 ⊢
  obtain⟨es1,t1,wd,gv⟩:=Z
  dsimp only at l1 l2 l3 ⊢
  rw[Array.toList_push] at l1
  have p1:ElemsOf knd es1.toList:=(hel.push hkey hsc).perm l1
  have p2:∀k',(S k'||decide (k'=k))=true↔∃e∈es1.toList,knd.is k' e.2=true:=mem_push_iff hkey hmem l1
  have z1:es1.size=n+1:=by rw[← length_toList,l1.length_eq,length_append,length_toList,hn];rfl
  have p3:es1.size<scanBound:=by lia
  have fin:∀h',Heap.SameBut a s.heap h'→SetT knd L h' a (fun k'=>S k'||decide (k'=k)) es1.size→Q true { s with heap:=h' }:=fun h' sb u=>by
   have v:=q h' sb;rw[hSk] at v;rw[z1] at u;exact v u
  refine wpAny_bind (gw _ _ _ ?_)
  split
  ·refine wpAny_bind ?_
   rw[hashByValue_scannable 8 hsc]
   refine wpAny_pure (TV (L:=L) gw ho hx hd p1 p2 p3 ?_ ?_ fun h' sb u=>wpAny_pure (fin h' sb u))
   ·split
    ·exact l2
    ·exact SetTable.fits_plain_off l2
   ·split
    ·exact l3
    ·exact LV l3
  ·refine wpAny_bind (wpAny_pure ?_)
   simp only[↓reduceIte]
   exact TV (L:=L) gw ho hx hd p1 p2 p3 l2 l3 fun h' sb u=>wpAny_pure (fin h' sb u)
end
open PyProof.Rows
section
variable{prog:Program}{w:World}{A:Around}{R:Result→Shared→Prop}{I:Addr}{fp wr:List Addr}{G:Array GenState→Array GenState→Prop}{n:Nat}{P:Nat→Value→Prop}{St:Nat→Shared→Prop}{L:Bool}
end
noncomputable def uK(w:World):Bool:=!w.params.followText "set-order"
section
variable{prog:Program}{w:World}{A:Around}{E:Value→Shared→Prop}{s:Shared}
theorem newT(a:Value){Q₁:Value→Shared→Prop}
  (h:Q₁ (.ref s.heap.objs.size) { s with heap:=s.heap.push { cls:=.type "set", dict:=none,data:=.set #[] 0 (.fresh 0 0 (uK w)) } }) :
  codeAny (model prog w) A (.call (.builtin "set.__new__") ⟨[.type "set", a],[]⟩) (wants Q₁ E) s:=by
 refine codeAny_of_tree ?_
 show wpAny _ A.in1 (do checkBuiltinCall "set.__new__" ⟨[.type "set", a],[]⟩;again (.builtin "set.__new__" ⟨[.type "set", a],[]⟩)) _ _ s
 refine wpAny_bind (wpAny_of_eq (PySem.F.newCall_set_1 a) (wpAny_pure ⟨plainId_quiet PySem.F.plain_set_new _,codeAny_builtin PySem.F.entry_set_new ?_⟩))
 rw[Around.under_plainId PySem.F.plain_set_new _];unfold Builtin.«set.__new__» Builtin.Frozenset.newClass;have hsub:=sub_set_self
 obtain⟨hp,g,d,tk,os⟩:=s;dsimp only
 wp_walk
 refine wpAny_askSetting (wpAny_pure ?_);dsimp only;simp only[newObj]
 exact wpAny_bind (wpAny_alloc (wpAny_pure (wpAny_pure h)))
end
open PyProof.Rows
section
variable{prog:Program}{w:World}{A:Around}{E:Value→Shared→Prop}{s:Shared}
noncomputable abbrev fm(ns:List Int)(n:Nat):List Int:=firstMet (fun i=>ns.getD i 0) n
noncomputable abbrev vY(b:Bool):Obj:={ cls:=.type "set", dict:=none,data:=.set #[] 0 (.fresh 0 0 b) }
end
open PyProof.Rows
namespace FS
theorem slot_next:Slot "set_iterator" "__next__" "set_iterator.__next__" := .of (owner := "set_iterator") (n := "__next__") (by rw[typeLookup_type,builtinLookup_eq_fast];kernel_rfl) (by decide +kernel) (by decide +kernel) (by decide +kernel) (by first|exact .inl (by decide +kernel) | exact .inr (by decide +kernel)) (by rw[isSubtype_type];kernel_rfl)
theorem slot_self:Slot "set_iterator" "__iter__" "set_iterator.__iter__" := .of (owner := "set_iterator") (n := "__iter__") (by rw[typeLookup_type,builtinLookup_eq_fast];kernel_rfl) (by decide +kernel) (by decide +kernel) (by decide +kernel) (by first|exact .inl (by decide +kernel) | exact .inr (by decide +kernel)) (by rw[isSubtype_type];kernel_rfl)
theorem entry_next:entryFor table "set_iterator.__next__" = some Builtin.«set_iterator.__next__»:=entryFor_of_fast (by kernel_rfl)
theorem entry_self:entryFor table "set_iterator.__iter__" = some Builtin.«dict_keyiterator.__iter__»:=entryFor_alias (id' := "dict_keyiterator.__iter__") (by kernel_rfl) rfl (by decide +kernel) (by kernel_rfl)
theorem entry_iter:entryFor table "set.__iter__" = some Builtin.«frozenset.__iter__»:=entryFor_alias (id' := "frozenset.__iter__") (by kernel_rfl) rfl (by decide +kernel) (by kernel_rfl)
theorem args_next(a:Value):argsOk "set_iterator.__next__" ⟨[a],[]⟩:=by unfold argsOk;kernel_rfl
theorem args_self(a:Value):argsOk "set_iterator.__iter__" ⟨[a],[]⟩:=by unfold argsOk;kernel_rfl
end FS
section
variable{prog:Program}{w:World}{A:Around}{E:Value→Shared→Prop}{s:Shared}
structure SetAt(h:Heap)(a:Addr)(es:Array (Int×Value))(ep:Nat)(t:SetTable):Prop where
 ex:∃o,h.get? a=some o∧o.ExactSet∧o.data=.set es ep t
 fit:t.fits es.size=true
theorem SetAt.at{h h':Heap}{a:Addr}{es:Array (Int×Value)}{ep:Nat}{t:SetTable}(q:SetAt h a es ep t)(k:∀o,h.get? a=some o→h'.get? a=some o):SetAt h' a es ep t:=by
 obtain⟨⟨o,h1,h2⟩,f⟩:=q;exact⟨⟨o,k o h1,h2⟩,f⟩
end
open PySem PyProof.Rows
section
variable{prog:Program}{w:World}{A:Around}{E:Value→Shared→Prop}{s:Shared}{I a:Addr}{es:Array (Int×Value)}{ep:Nat}{t:SetTable}{Q:Option Value→Shared→Prop}
noncomputable abbrev vT(f:Value)(i:Nat)(z:Value)(n ep:Nat):Obj:={ cls:=.type "set_iterator", dict:=none,data:=.fields #[f,.int i 0,z,.int n 0,.int ep 0],slots:=#[] }
theorem Zg{f z:Value}{i n:Nat}(h:s.heap.get? I=some (vT f i z n ep)):s.TypeIs (.ref I) "set_iterator" := ⟨_,h,rfl⟩
theorem L0{sl i nx:Nat}{x:Value}(hit:s.heap.get? I=some (vT (.int sl 0) i (.ref a) es.size ep))(hS:SetAt s.heap a es ep t)(hnx:∀(A':Around) (Q':Option (Value×Nat)→Shared→Prop) (E':Value→Shared→Prop),Q' (some (x,nx)) s→wpAny (model prog w) A' (setNext a sl i ep) Q' E' s)
  (hQ:∀h',h'.get? I=some (vT (.int nx 0) (i+1) (.ref a) es.size ep)→Heap.SameBut I s.heap h'→Q (some x) { s with heap:=h' }):wpAny (model prog w) A (pyNext (.ref I)) Q E s:=by
 obtain⟨⟨o,ho,_,hd⟩,hf⟩:=hS
 unfold pyNext
 refine wpAny_bind (wpAny_attempt (wpAny_callSpecial?_slot (name:=Str.ofString "__next__") (Zg hit) FS.slot_next (wpAny_call_entry FS.slot_next (Zg hit) FS.entry_next ?_ (FS.args_next _))))
 show wpAny _ _ (fieldsOf (.ref I) >>= _) _ _ s
 refine wpAny_bind (wpAny_fieldsOf hit rfl ?_)
 show wpAny _ _ (setEntries a >>= _) _ _ s
 refine wpAny_bind (wpAny_setEntries_of ho hd hf ?_)
 rw[if_neg (by simp)]
 show wpAny _ _ (setNext a (sl:Int).toNat (i:Int).toNat (ep:Int).toNat >>= _) _ _ s
 simp only[toNat_natCast]
 refine wpAny_bind (hnx _ _ _ ?_)
 refine wpAny_bind (wpAny_setField_rec hit (by simp) fun h1 g1 b1=>wpAny_bind (wpAny_setField_rec g1 (by simp) fun h2 g2 b2=>?_))
 exact wpAny_pure ⟨x,rfl,wpAny_pure (hQ h2 g2 (b1.trans b2))⟩
theorem zr1{sl i:Nat}(hh:A.handled=none)(hit:s.heap.get? I=some (vT (.int sl 0) i (.ref a) es.size ep))(hS:SetAt s.heap a es ep t)(hnx:∀(A':Around) (Q':Option (Value×Nat)→Shared→Prop) (E':Value→Shared→Prop),Q' none s→wpAny (model prog w) A' (setNext a sl i ep) Q' E' s)
  (hQ:∀h',(∀b o,b≠I→s.heap.get? b=some o→h'.get? b=some o)→Q none { s with heap:=h' }):wpAny (model prog w) A (pyNext (.ref I)) Q E s:=by
 obtain⟨⟨o,ho,_,hd⟩,hf⟩:=hS
 unfold pyNext
 refine wpAny_bind (wpAny_attempt (wpAny_callSpecial?_slot (name:=Str.ofString "__next__") (Zg hit) FS.slot_next (wpAny_call_entry FS.slot_next (Zg hit) FS.entry_next ?_ (FS.args_next _))))
 show wpAny _ _ (fieldsOf (.ref I) >>= _) _ _ s
 refine wpAny_bind (wpAny_fieldsOf hit rfl ?_)
 show wpAny _ _ (setEntries a >>= _) _ _ s
 refine wpAny_bind (wpAny_setEntries_of ho hd hf ?_)
 rw[if_neg (by simp)]
 show wpAny _ _ (setNext a (sl:Int).toNat (i:Int).toNat (ep:Int).toNat >>= _) _ _ s
 simp only[toNat_natCast]
 refine wpAny_bind (hnx _ _ _ (wpAny_bind (wpAny_setField_rec hit (by simp) fun h1 g1 b1=>wpAny_bind ?_)))
 simp only[newExc,newTuple];refine wpAny_bind (wpAny_newObj_type ?_ (by size_fits))
 refine wpAny_bind (m:=firstArgMember _ _) (wpAny_of_eq (a:=Value.none) (by first|rfl | (simp only[firstArgMember];rfl)) (wpAny_newObj_type ?_ (by size_fits)))
 simp only[raiseNew];refine wpAny_bind (wpAny_handled ?_)
 rw[show A.in1.handled=none from hh];refine wpAny_bind (wpAny_pure (wpAny_throw ?_))
 refine wpAny_bind (wpAny_isInstance (T := "StopIteration") (b:=true) ⟨_,Heap.get?_push_size _ rfl,rfl⟩ isSubtype_stop (wpAny_pure (hQ _ fun b o n e=>?_)))
 exact get?_push_of_some _ (get?_push_of_some _ (by rw[b1.2 b n];exact e))
theorem Jr(hh:A.handled=none)(hne:a≠I)(ord:List Value)(hl:ord.length=es.size)(fst:Nat→Nat)
  (hnx:∀(i:Nat) (s':Shared) (A':Around) (Q':Option (Value×Nat)→Shared→Prop) (E':Value→Shared→Prop),i≤es.size→SetAt s'.heap a es ep t→Q' ((ord[i]?).map fun x=>(x,fst (i+1))) s'→wpAny (model prog w) A' (setNext a (fst i) i ep) Q' E' s') :
  Walks prog w A I [I,a] [I] es.size (fun i v=>ord[i]?=some v) (fun i h=>h.get? I=some (vT (.int (fst i) 0) i (.ref a) es.size ep)∧SetAt h a es ep t) where
 sub:=fun b hb=>by simp at hb;simp[hb]
 frame:=fun _ _ _ st hk=>⟨hk I (by simp) _ st.1,st.2.at fun o e=>hk a (by simp) o e⟩
 item:=fun i s Q E hi st hQ=>by
  have e:ord[i]?=some ord[i]:=by simp[hl,hi]
  refine L0 (x:=ord[i]) (nx:=fst (i+1)) st.1 st.2 (fun A' Q' E' q=>hnx i s A' Q' E' (by lia) st.2 (by rw[e];exact q)) fun h' g b=>?_
  exact hQ _ h' s.toks e ⟨g,st.2.at fun o z=>by rw[b.2 a hne];exact z⟩ fun b' o hb z=>by rw[b.2 b' (fun y=>hb (by simp[y]))];exact z
 done:=fun s Q E st hQ=>by
  have e:ord[es.size]?=none:=by simp[hl]
  exact zr1 hh st.1 st.2 (fun A' Q' E' q=>hnx es.size s A' Q' E' (le_refl _) st.2 (by rw[e];exact q)) fun h' k=>hQ h' s.toks fun b o hb z=>k b o (fun y=>hb (by simp[y])) z
 self:=fun i s Q E st hQ=>by
  refine wpAny_pyIter_slot (Zg st.1) FS.slot_self (wpAny_call_entry FS.slot_self (Zg st.1) FS.entry_self ?_ (FS.args_self _))
  show wpAny _ _ (ret (.ref I)) _ _ s
  exact wpAny_pure ⟨_,rfl, "set_iterator", _,Zg st.1,FS.slot_next.lookup,hQ⟩
end
open PySem PyProof.Rows
theorem jV{α:Type}:∀(l:List α) (i:Nat) (h:i<l.length),(l[i]::l.eraseIdx i).Perm l
 |[],i,h=>by simp at h
 |a::l,0,h=>by simp
 |a::l,i+1,h=>by
  have ih:=jV l i (by simpa using h)
  rw[List.eraseIdx_cons_succ,List.getElem_cons_succ]
  exact(List.Perm.swap a _ _).trans (ih.cons a)
theorem JE{α:Type}(next:Nat→Nat):∀(fuel k:Nat) (left:List α) (out:Array α),left.length≤fuel→(pickOrder.go next fuel k left out).toList.Perm (out.toList++left):=by
 intro l_
 induction l_ with
 |zero=>
  rintro k left out h
  have:left=[]:=List.eq_nil_of_length_eq_zero (by lia)
  subst this
  unfold pickOrder.go;simp
 |succ fuel ih_=>
  rintro k left out h
  unfold pickOrder.go
  cases q:left[next k%left.length]? with
  |none=>
   have:left=[]:=by
    cases left with
    |nil=>rfl
    |cons a l=>
     have hlt:next k%(a::l).length<(a::l).length:=Nat.mod_lt _ (by simp)
     rw[getElem?_eq_getElem hlt] at q;cases q
   subst this
   simp
  |some x=>
   have hlt:next k%left.length<left.length:=(List.getElem?_eq_some_iff.mp q).1
   refine(ih_ (k+1) _ _ (by rw[List.length_eraseIdx_of_lt hlt];lia)).trans ?_
   rw[Array.toList_push,append_assoc]
   refine List.Perm.append_left _ ?_
   have hx:left[next k%left.length]=x:=(List.getElem?_eq_some_iff.mp q).2
   show(x::left.eraseIdx (next k%left.length)).Perm left
   rw[← hx]
   exact jV _ _ hlt
theorem Wh{α:Type}(next:Nat→Nat)(xs:Array α):(pickOrder next xs).toList.Perm xs.toList:=by
 unfold pickOrder
 have:=JE next xs.size 0 xs.toList #[] (by simp)
 simpa using this
section
variable{prog:Program}{w:World}{A:Around}{E:Value→Shared→Prop}{s:Shared}{I a:Addr}{es:Array (Int×Value)}{ep:Nat}{t:SetTable}
theorem Tr{src:Source}{n:Nat}{Q:Nat→Shared→Prop}(hn:n≠0)(h:∀i d',i<n→Q i { s with drawn:=d' }):wpAny (model prog w) A (choose src n) Q E s:=
 fun Γ p hΓ=>⟨hn,h _ _ (Nat.mod_lt _ (Nat.pos_of_ne_zero hn))⟩
theorem Th{α:Type}:∀(n:Nat) (xs:List α) (s:Shared) (Q:List α→Shared→Prop),xs.length=n→(∀l d',l.Perm xs→Q l { s with drawn:=d' })→wpAny (model prog w) A (drawOrder n xs) Q E s
 |0,xs,s,Q,h,q=>by
  have:xs=[]:=List.eq_nil_of_length_eq_zero h
  subst this
  unfold drawOrder
  exact wpAny_pure (q [] s.drawn (List.Perm.refl _))
 |n+1,[],s,Q,h,q=>by simp at h
 |n+1,x::xs,s,Q,h,q=>by
  unfold drawOrder
  refine wpAny_bind (Tr (by simp) fun i d' hi=>?_)
  have e:(x::xs)[i]?=some (x::xs)[i]:=getElem?_eq_getElem hi
  rw[e]
  refine wpAny_bind (Th n _ _ _ (by rw[List.length_eraseIdx_of_lt hi];lia) fun l d'' hp=>?_)
  exact wpAny_pure (q _ d'' ((hp.cons _).trans (jV _ _ hi)))
theorem zm9(hb:w.params.followText "set-order" = true)(i:Nat)(s':Shared)(A':Around)(Q':Option (Value×Nat)→Shared→Prop)(E':Value→Shared→Prop)(hS:SetAt s'.heap a es ep t)
  (q:Q' ((((pickOrder (w.params.setOrder a ep) es).toList.map (·.2))[i]?).map fun x=>(x,0)) s'):wpAny (model prog w) A' (setNext a 0 i ep) Q' E' s':=by
 obtain⟨⟨o,ho,_,hd⟩,hf⟩:=hS
 unfold setNext setsByText
 refine wpAny_bind (wpAny_setState_of ho hd hf ?_)
 refine wpAny_bind (wpAny_bind (wpAny_askSetting (wpAny_pure ?_)))
 show wpAny _ _ (if w.params.followText "set-order" = true then _ else _) _ _ _
 rw[if_pos hb,if_neg (by simp)]
 unfold setWalk setsByText
 refine wpAny_bind (wpAny_bind (wpAny_setState_of ho hd hf ?_))
 refine wpAny_bind (wpAny_bind (wpAny_askSetting (wpAny_pure ?_)))
 show wpAny _ _ (if w.params.followText "set-order" = true then _ else _) _ _ _
 rw[if_pos hb]
 refine wpAny_bind (wpAny_askSetting (wpAny_pure (wpAny_pure ?_)))
 have e:((pickOrder (w.params.setOrder a ep) es)[i]?).map (fun e=>(e.2,0))=(((pickOrder (w.params.setOrder a ep) es).toList.map (·.2))[i]?).map fun x=>(x,0):=by
  rw[getElem?_map,Option.map_map,getElem?_toList];rfl
 rw[← e] at q
 exact q
noncomputable def ud(t:SetTable)(i:Nat):Nat:=if i=0 then 0 else t.place.toList.getD (i-1) 0+1
theorem Q7{L:Bool}(hT:TT L t)(i:Nat)(hi:i≤t.place.size):SetTable.below t.place (ud t i)=i:=by
 obtain⟨b1,b2,b3⟩:=Uz hT.2.2 (ud t i)
 generalize SetTable.below t.place (ud t i)=p at *
 unfold ud at b2 b3
 by_cases z:i=0
 ·rw[if_pos z] at b2
  rcases Nat.eq_zero_or_pos p with y|y
  ·lia
  ·have:=b2 0 y;lia
 ·rw[if_neg z] at b2 b3
  rcases Nat.lt_trichotomy p i with y|y|y
  ·have:=b3 (i-1) (by lia) (by lia);lia
  ·exact y
  ·have h1:=b2 i y
   have h2:=Yj hT.2.2 (i:=i-1) (k:=i) (by lia) (by have:=length_toList (xs:=t.place);lia)
   lia
theorem LX(hb:w.params.followText "set-order" = false)(hT:TT (uK w) t)(hnd:(!t.plain&&decide (es.size > 1))=false)(i:Nat)(s':Shared)(A':Around)(Q':Option (Value×Nat)→Shared→Prop)(E':Value→Shared→Prop)(hi:i≤es.size)(hS:SetAt s'.heap a es ep t)
  (q:Q' (((es.toList.map (·.2))[i]?).map fun x=>(x,ud t (i+1))) s'):wpAny (model prog w) A' (setNext a (ud t i) i ep) Q' E' s':=by
 obtain⟨⟨o,ho,_,hd⟩,hf⟩:=hS
 have hsz:t.place.size=es.size:=by
  unfold SetTable.fits at hf
  simp at hf;exact hf.1
 have hled:t.led=true:=by rw[hT.1];unfold uK;rw[hb];rfl
 unfold setNext setsByText
 refine wpAny_bind (wpAny_setState_of ho hd hf ?_)
 refine wpAny_bind (wpAny_bind (wpAny_askSetting (wpAny_pure ?_)))
 show wpAny _ _ (if w.params.followText "set-order" = true then _ else _) _ _ _
 rw[if_neg (by rw[hb];simp)]
 show wpAny _ _ (if (!t.plain&&decide (es.size > 1))=true then _ else _) _ _ _
 rw[if_neg (by rw[hnd];simp)]
 show wpAny _ _ ((if (!t.led && !es.isEmpty)=true then unsupported "set:maker-not-led" else pure ()) >>= _) _ _ _
 rw[if_neg (by rw[hled];simp)]
 refine wpAny_bind (wpAny_pure ?_)
 show wpAny _ _ (pure (match es[SetTable.below t.place (ud t i)]?,t.place[SetTable.below t.place (ud t i)]? with|some (_,x),some j=>some (x,j+1) | _,_=>none)) _ _ _
 rw[Q7 hT i (by lia)]
 by_cases z:i<es.size
 ·have e1:es[i]?=some es[i]:=by simp[z]
  have e2:t.place[i]?=some (t.place.toList.getD i 0):=by
   have:i<t.place.size:=by lia
   simp[this]
  rw[e1,e2]
  have e3:((es.toList.map (·.2))[i]?).map (fun x=>(x,ud t (i+1)))=some (es[i].2,t.place.toList.getD i 0+1):=by
   rw[getElem?_map,getElem?_toList,e1]
   simp[ud]
  rw[e3] at q
  exact wpAny_pure q
 ·have e1:es[i]?=none:=by simp;lia
  rw[e1]
  have e3:((es.toList.map (·.2))[i]?).map (fun x=>(x,ud t (i+1)))=none:=by
   rw[getElem?_map,getElem?_toList,e1];rfl
  rw[e3] at q
  exact wpAny_pure q
end
open PySem PyProof.Rows
section
variable{prog:Program}{w:World}{A:Around}{E:Value→Shared→Prop}{s:Shared}{I a T:Addr}{es:Array (Int×Value)}{ep:Nat}{t:SetTable}{Q:Option Value→Shared→Prop}
noncomputable abbrev ZV(pl:List Nat):Obj:={ cls:=.type "tuple", dict:=none,data:=.seq (pl.map fun (i:Nat)=>rawInt i).toArray 0,slots:=#[] }
theorem zg4{pl:List Nat}{i:Nat}:(pl.map fun (i:Nat)=>rawInt i).toArray[i]?=(pl[i]?).map fun (p:Nat)=>rawInt p:=by
 rw[List.getElem?_toArray,getElem?_map]
theorem Ga{x:Value}{p i:Nat}(hS:SetAt s.heap a es ep t)(hx:(es.toList.map (·.2))[p]?=some x){Q:Value→Shared→Prop}(q:Q x s):wpAny (model prog w) A (setNextDrawn a p ep) Q E s:=by
 obtain⟨⟨o,ho,_,hd⟩,hf⟩:=hS
 unfold setNextDrawn
 refine wpAny_bind (wpAny_setState_of ho hd hf ?_)
 dsimp only
 rw[if_neg (by simp)]
 rw[getElem?_map,getElem?_toList] at hx
 cases z:es[p]? with
 |none=>rw[z] at hx;cases hx
 |some y=>rw[z] at hx;cases hx;exact wpAny_pure q
theorem LZ{pl:List Nat}{i p:Nat}{x:Value}(hit:s.heap.get? I=some (vT (.ref T) i (.ref a) es.size ep))(hT:s.heap.get? T=some (ZV pl))(hS:SetAt s.heap a es ep t)(hp:pl[i]?=some p)(hx:(es.toList.map (·.2))[p]?=some x)
  (hQ:∀h',h'.get? I=some (vT (.ref T) (i+1) (.ref a) es.size ep)→Heap.SameBut I s.heap h'→Q (some x) { s with heap:=h' }):wpAny (model prog w) A (pyNext (.ref I)) Q E s:=by
 obtain⟨⟨o,ho,_,hd⟩,hf⟩:=id hS
 unfold pyNext
 refine wpAny_bind (wpAny_attempt (wpAny_callSpecial?_slot (name:=Str.ofString "__next__") (Zg hit) FS.slot_next (wpAny_call_entry FS.slot_next (Zg hit) FS.entry_next ?_ (FS.args_next _))))
 show wpAny _ _ (fieldsOf (.ref I) >>= _) _ _ s
 refine wpAny_bind (wpAny_fieldsOf hit rfl ?_)
 show wpAny _ _ (setEntries a >>= _) _ _ s
 refine wpAny_bind (wpAny_setEntries_of ho hd hf ?_)
 rw[if_neg (by simp)]
 show wpAny _ _ (seqItems? (.ref T) >>= _) _ _ s
 refine wpAny_bind (wpAny_seqItems hT rfl ?_)
 show wpAny _ _ (match (pl.map fun (i:Nat)=>rawInt i).toArray[(i:Int).toNat]? with|some (.int place _)=>_|some _=>_|none=>_) _ _ s
 rw[toNat_natCast,zg4,hp]
 show wpAny _ _ (setNextDrawn a (p:Int).toNat (ep:Int).toNat >>= _) _ _ s
 rw[toNat_natCast,toNat_natCast]
 refine wpAny_bind (Ga (i:=i) hS hx (wpAny_bind (wpAny_setField_rec hit (by simp) fun h1 g1 b1=>?_)))
 exact wpAny_pure ⟨x,rfl,wpAny_pure (hQ h1 g1 b1)⟩
theorem zr0{pl:List Nat}{i:Nat}(hh:A.handled=none)(hit:s.heap.get? I=some (vT (.ref T) i (.ref a) es.size ep))(hT:s.heap.get? T=some (ZV pl))(hS:SetAt s.heap a es ep t)(hp:pl[i]?=none)
  (hQ:∀h',(∀b o,b≠I→s.heap.get? b=some o→h'.get? b=some o)→Q none { s with heap:=h' }):wpAny (model prog w) A (pyNext (.ref I)) Q E s:=by
 obtain⟨⟨o,ho,_,hd⟩,hf⟩:=id hS
 unfold pyNext
 refine wpAny_bind (wpAny_attempt (wpAny_callSpecial?_slot (name:=Str.ofString "__next__") (Zg hit) FS.slot_next (wpAny_call_entry FS.slot_next (Zg hit) FS.entry_next ?_ (FS.args_next _))))
 show wpAny _ _ (fieldsOf (.ref I) >>= _) _ _ s
 refine wpAny_bind (wpAny_fieldsOf hit rfl ?_)
 show wpAny _ _ (setEntries a >>= _) _ _ s
 refine wpAny_bind (wpAny_setEntries_of ho hd hf ?_)
 rw[if_neg (by simp)]
 show wpAny _ _ (seqItems? (.ref T) >>= _) _ _ s
 refine wpAny_bind (wpAny_seqItems hT rfl ?_)
 show wpAny _ _ (match (pl.map fun (i:Nat)=>rawInt i).toArray[(i:Int).toNat]? with|some (.int place _)=>_|some _=>_|none=>_) _ _ s
 rw[toNat_natCast,zg4,hp]
 refine wpAny_bind (wpAny_setField_rec hit (by simp) fun h0 g0 b0=>wpAny_bind (wpAny_setField_rec g0 (by simp) fun h1 g1 b1=>wpAny_bind ?_))
 simp only[newExc,newTuple];refine wpAny_bind (wpAny_newObj_type ?_ (by size_fits))
 refine wpAny_bind (m:=firstArgMember _ _) (wpAny_of_eq (a:=Value.none) (by first|rfl | (simp only[firstArgMember];rfl)) (wpAny_newObj_type ?_ (by size_fits)))
 simp only[raiseNew];refine wpAny_bind (wpAny_handled ?_)
 rw[show A.in1.handled=none from hh];refine wpAny_bind (wpAny_pure (wpAny_throw ?_))
 refine wpAny_bind (wpAny_isInstance (T := "StopIteration") (b:=true) ⟨_,Heap.get?_push_size _ rfl,rfl⟩ isSubtype_stop (wpAny_pure (hQ _ fun b o n e=>?_)))
 exact get?_push_of_some _ (get?_push_of_some _ (by rw[b1.2 b n,b0.2 b n];exact e))
theorem T0(hh:A.handled=none)(hne:a≠I)(hne2:T≠I)(pl:List Nat)(hp:pl.Perm (List.range es.size)) :
  Walks prog w A I [I,a,T] [I] es.size (fun i v=>((pl.filterMap fun p=>(es.toList.map (·.2))[p]?))[i]?=some v) (fun i h=>h.get? I=some (vT (.ref T) i (.ref a) es.size ep)∧SetAt h a es ep t∧h.get? T=some (ZV pl)):=by
 have hl:pl.length=es.size:=by rw[hp.length_eq,length_range]
 have hin:∀p∈pl,p<es.size:=fun p h=>by simpa using hp.mem_iff.mp h
 have ev:∀i p,pl[i]?=some p→∃x,(es.toList.map (·.2))[p]?=some x:=fun i p h=>by
  have:=hin p (mem_of_getElem? h)
  exact⟨(es.toList.map (·.2))[p]'(by simpa using this),getElem?_eq_getElem _⟩
 have fm:∀(l:List Nat),(∀p∈l,p<es.size)→l.filterMap (fun p=>(es.toList.map (·.2))[p]?)=l.map fun p=>((es.toList.map (·.2)).getD p .none):=fun l=>by
  induction l with
  |nil=>intro _;rfl
  |cons p l ih=>
   intro h
   have h1:=h p mem_cons_self
   have e:(es.toList.map (·.2))[p]?=some ((es.toList.map (·.2)).getD p .none):=by
    have:p<(es.toList.map (·.2)).length:=by simpa using h1
    simp[h1]
   rw[filterMap_cons,e,map_cons,ih fun q hq=>h q (mem_cons_of_mem _ hq)]
 refine⟨fun b hb=>by simp at hb;simp[hb],fun _ _ _ st hk=>⟨hk I (by simp) _ st.1,st.2.1.at fun o e=>hk a (by simp) o e,hk T (by simp) _ st.2.2⟩,fun i s Q E hi st hQ=>?_,fun s Q E st hQ=>?_,fun i s Q E st hQ=>?_⟩
 ·have e:pl[i]?=some pl[i]:=by simp[hl,hi]
  obtain⟨x,hx⟩:=ev i _ e
  refine LZ (x:=x) st.1 st.2.2 st.2.1 e hx fun h' g b=>?_
  refine hQ _ h' s.toks ?_ ⟨g,st.2.1.at fun o z=>by rw[b.2 a hne];exact z,by rw[b.2 T hne2];exact st.2.2⟩ fun b' o hb z=>by rw[b.2 b' (fun y=>hb (by simp[y]))];exact z
  show(pl.filterMap fun p=>(es.toList.map (·.2))[p]?)[i]?=some x
  rw[fm pl hin,getElem?_map,e]
  have:(es.toList.map (·.2)).getD pl[i] .none=x:=by rw[getD_eq_getElem?_getD,hx];rfl
  rw[← this];rfl
 ·exact zr0 hh st.1 st.2.2 st.2.1 (by simp[hl]) fun h' k=>hQ h' s.toks fun b o hb z=>k b o (fun y=>hb (by simp[y])) z
 ·refine wpAny_pyIter_slot (Zg st.1) FS.slot_self (wpAny_call_entry FS.slot_self (Zg st.1) FS.entry_self ?_ (FS.args_self _))
  show wpAny _ _ (ret (.ref I)) _ _ s
  exact wpAny_pure ⟨_,rfl, "set_iterator", _,Zg st.1,FS.slot_next.lookup,hQ⟩
end
open PySem PyProof.Rows
section
variable{prog:Program}{w:World}{A:Around}{E:Value→Shared→Prop}{s:Shared}{a:Addr}{es:Array (Int×Value)}{ep:Nat}{t:SetTable}
theorem JZ(l:List Value):∀(ps:List Nat),(∀p∈ps,p<l.length)→ps.filterMap (fun p=>l[p]?)=ps.map fun p=>l.getD p .none:=by
 intro l_
 induction l_ with
 |nil=>
  rintro _
  exact rfl
 |cons p ps ih_=>
  rintro h
  have h1:=h p mem_cons_self
  have e:l[p]?=some (l.getD p .none):=by simp[h1]
  rw[filterMap_cons,e,map_cons,ih_ fun q hq=>h q (mem_cons_of_mem _ hq)]
noncomputable def zs6(prog:Program)(w:World)(vs:List Value)(h0:Heap)(a I:Addr)(h1:Heap):Prop:=
 ∃(fp:List Addr) (St:Nat→Heap→Prop) (ord:List Value),ord.Perm vs∧(∀A':Around,A'.handled=none→Walks prog w A' I fp [I] vs.length (fun i v=>ord[i]?=some v) St)∧St 0 h1∧(∀b∈fp,b<h1.objs.size∧(b=a∨h0.objs.size≤b))∧I∈fp∧h0.objs.size≤I∧(∀b o,h0.get? b=some o→h1.get? b=some o)∧∃o,h1.get? I=some o∧o.cls=.type "set_iterator"
theorem zc0(hS:SetAt s.heap a es ep t)(hT:TT (uK w) t)(hz:es.size<scanBound){Q:Value→Shared→Prop}(h:∀I h1 d',zs6 prog w (es.toList.map (·.2)) s.heap a I h1→Q (.ref I) { s with heap:=h1,drawn:=d' }):wpAny (model prog w) A (pyIter (.ref a)) Q E s:=by
 obtain⟨⟨o,ho,hx,hd⟩,hf⟩:=id hS
 have ty:s.TypeIs (.ref a) "set" := ⟨o,ho,hx.1⟩
 have hlt:a<s.heap.objs.size:=Heap.lt_size ho
 have hlen:(es.toList.map (·.2)).length=es.size:=by simp
 refine wpAny_pyIter_slot ty F.slot_set_iter (wpAny_call_entry F.slot_set_iter ty FS.entry_iter ?_ (F.args_set_iter_1 _))
 unfold Builtin.«frozenset.__iter__»
 refine wpAny_bind (m:=Builtin.Frozenset.slot0 "__iter__" _) (wpAny_of_eq (a:=a) rfl ?_)
 refine wpAny_bind (m:=Builtin.Frozenset.sizeOf a) ?_
 unfold Builtin.Frozenset.sizeOf
 refine wpAny_bind (wpAny_setEntries_of ho hd hf (wpAny_pure ?_))
 refine wpAny_bind (m:=setDrawn a) ?_
 unfold setDrawn setsByText
 refine wpAny_bind (wpAny_setState_of ho hd hf ?_)
 refine wpAny_bind (wpAny_bind (wpAny_askSetting (wpAny_pure (wpAny_pure ?_))))
 show wpAny _ _ (if (!w.params.followText "set-order" && (!t.plain&&decide (es.size > 1)))=true then _ else _) _ _ _
 have fin:∀(f:Value) (h1:Heap) (d':_),SetAt h1 a es ep t→(∀I h2,h2.get? I=some (vT f 0 (.ref a) es.size ep)→I=h1.objs.size→h2=h1.push (vT f 0 (.ref a) es.size ep)→Q (.ref I) { s with heap:=h2,drawn:=d' }) →
   wpAny (model prog w) A.in1 (do ret (← newFields "set_iterator" [f,rawInt 0,.ref a,rawInt es.size,rawInt (← setEpoch a)]):Sem PySem.Fin) (fun fin s'=>∃v,fin=.done (.ret v)∧∃T r,s'.TypeIs v T∧typeLookup (.type T) (Str.ofString "__next__")=pure (some r)∧Q v s') E { s with heap:=h1,drawn:=d' }:=fun f h1 d' hS1 q=>by
  obtain⟨⟨o1,ho1,_,hd1⟩,hf1⟩:=hS1
  refine wpAny_bind (wpAny_setEpoch_of ho1 hd1 hf1 (wpAny_bind (wpAny_newObj_type ?_)))
  refine wpAny_pure ⟨_,rfl, "set_iterator", _,⟨_,Heap.get?_push_size _ rfl,rfl⟩,FS.slot_next.lookup,q _ _ (Heap.get?_push_size _ rfl) rfl rfl⟩
 by_cases hb:w.params.followText "set-order" = true
 ·rw[if_neg (by rw[hb];simp)]
  refine wpAny_bind (wpAny_pure (fin (rawInt 0) s.heap s.drawn hS fun I h2 g e1 e2=>?_))
  refine h I h2 s.drawn ⟨[I,a],fun i h=>h.get? I=some (vT (.int ((0:Nat):Int) 0) i (.ref a) es.size ep)∧SetAt h a es ep t,(pickOrder (w.params.setOrder a ep) es).toList.map (·.2),(Wh _ _).map _,fun A' hh=>?_,⟨g,hS.at fun o z=>by rw[e2];exact get?_push_of_some _ z⟩,fun b hm=>?_,by simp,by rw[e1];exact le_refl _,fun b o z=>by rw[e2];exact get?_push_of_some _ z,_,g,rfl⟩
  ·rw[hlen]
   exact Jr (t:=t) (ep:=ep) hh (by rw[e1];exact ne_of_lt hlt) _ (by rw[length_map,(Wh _ _).length_eq];simp) (fun _=>0) fun i s' A' Q' E' _ hS' q=>zm9 hb i s' A' Q' E' hS' q
  ·rw[e2,Heap.size_push]
   rcases mem_cons.mp hm with rfl|hm
   ·rw[e1];exact⟨lt_succ_self _,.inr (le_refl _)⟩
   ·obtain rfl:=mem_singleton.mp hm;exact⟨lt_succ_of_lt hlt,.inl rfl⟩
 ·have hb':w.params.followText "set-order" = false:=by simpa using hb
  by_cases hn:(!t.plain&&decide (es.size > 1))=true
  ·rw[if_pos (by rw[hb',hn];rfl)]
   refine wpAny_bind (Th es.size (List.range es.size) s _ length_range fun pl d' hp=>wpAny_bind (wpAny_newObj_type ?_ ?_))
   ·have hS1:SetAt (s.heap.push (ZV pl)) a es ep t:=hS.at fun o z=>get?_push_of_some _ z
    refine fin (.ref s.heap.objs.size) (s.heap.push (ZV pl)) d' hS1 fun I h2 g e1 e2=>?_
    have gT:h2.get? s.heap.objs.size=some (ZV pl):=by rw[e2];exact get?_push_of_some _ (Heap.get?_push_size _ rfl)
    have sz:(s.heap.push (ZV pl)).objs.size=s.heap.objs.size+1:=Heap.size_push _ _
    refine h I h2 d' ⟨[I,a,s.heap.objs.size],fun i h=>h.get? I=some (vT (.ref s.heap.objs.size) i (.ref a) es.size ep)∧SetAt h a es ep t∧h.get? s.heap.objs.size=some (ZV pl),pl.filterMap (fun p=>(es.toList.map (·.2))[p]?),?_,fun A' hh=>?_,⟨g,hS1.at fun o z=>by rw[e2];exact get?_push_of_some _ z,gT⟩,fun b hm=>?_,by simp,by rw[e1,sz];exact le_succ _,fun b o z=>by rw[e2];exact get?_push_of_some _ (get?_push_of_some _ z),_,g,rfl⟩
    ·refine(hp.filterMap _).trans ?_
     have:(List.range es.size).filterMap (fun p=>(es.toList.map (·.2))[p]?)=es.toList.map (·.2):=by
      rw[← hlen]
      generalize es.toList.map (·.2)=l
      rw[JZ l _ fun p hp=>mem_range.mp hp]
      refine List.ext_getElem (by simp) fun i h1 h2=>?_
      simp[h2]
     rw[this]
    ·rw[hlen]
     exact T0 (t:=t) hh (by rw[e1,sz];exact ne_of_lt (lt_succ_of_lt hlt)) (by rw[e1,sz];exact ne_of_lt (lt_succ_self _)) pl hp
    ·rw[e2,Heap.size_push,sz]
     rcases mem_cons.mp hm with rfl|hm
     ·rw[e1,sz];exact⟨lt_succ_self _,.inr (le_succ _)⟩
     ·rcases mem_cons.mp hm with rfl|hm
      ·exact⟨lt_succ_of_lt (lt_succ_of_lt hlt),.inl rfl⟩
      ·obtain rfl:=mem_singleton.mp hm;exact⟨lt_succ_of_lt (lt_succ_self _),.inr (le_refl _)⟩
   ·show(pl.map fun (i:Nat)=>rawInt i).toArray.size≤sizeLine
    rw[size_toArray,length_map,hp.length_eq,length_range]
    exact fits_of_scanBound hz
  ·have hn':(!t.plain&&decide (es.size > 1))=false:=by simpa using hn
   rw[if_neg (by rw[hn'];simp)]
   refine wpAny_bind (wpAny_pure (fin (rawInt 0) s.heap s.drawn hS fun I h2 g e1 e2=>?_))
   refine h I h2 s.drawn ⟨[I,a],fun i h=>h.get? I=some (vT (.int ((ud t i:Nat):Int) 0) i (.ref a) es.size ep)∧SetAt h a es ep t,es.toList.map (·.2),List.Perm.refl _,fun A' hh=>?_,⟨g,hS.at fun o z=>by rw[e2];exact get?_push_of_some _ z⟩,fun b hm=>?_,by simp,by rw[e1];exact le_refl _,fun b o z=>by rw[e2];exact get?_push_of_some _ z,_,g,rfl⟩
   ·rw[hlen]
    exact Jr (t:=t) (ep:=ep) hh (by rw[e1];exact ne_of_lt hlt) _ hlen (ud t) fun i s' A' Q' E' hi hS' q=>LX hb' hT hn' i s' A' Q' E' hi hS' q
   ·rw[e2,Heap.size_push]
    rcases mem_cons.mp hm with rfl|hm
    ·rw[e1];exact⟨lt_succ_self _,.inr (le_refl _)⟩
    ·obtain rfl:=mem_singleton.mp hm;exact⟨lt_succ_of_lt hlt,.inl rfl⟩
end
open PySem PyProof.Rows
section
variable{prog:Program}{w:World}{A:Around}{E:Value→Shared→Prop}{s:Shared}{a:Addr}{es:Array (Int×Value)}{ep:Nat}{t:SetTable}
noncomputable abbrev emp:Obj:={ cls:=.type "list", data:=.seq ([]:List Value).toArray }
theorem zc6(hS:SetAt s.heap a es ep t){Q:Bool→Shared→Prop}(q:Q false s):wpAny (model prog w) A (Builtin.List.listLengthHint (.ref a)) Q E s:=by
 obtain⟨⟨o,ho,hx,hd⟩,hf⟩:=hS
 have ty:s.TypeIs (.ref a) "set" := ⟨o,ho,hx.1⟩
 unfold Builtin.List.listLengthHint
 refine wpAny_bind (wpAny_specialOf ty F.slot_set_len.lookup ?_)
 have e1:splitId "set.__len__" = some ("set", "__len__"):=by kernel_rfl
 dsimp only
 rw[e1]
 dsimp only
 refine wpAny_bind (wpAny_isInstance ty sub_set_self ?_)
 rw[if_neg (by simp),if_pos (by kernel_rfl)]
 refine wpAny_bind (wpAny_typeOf ty ?_)
 exact wpAny_pure q
end
open PySem PyProof.Rows
section
variable{prog:Program}{w:World}{A:Around}{E:Value→Shared→Prop}{s:Shared}{a:Addr}{es:Array (Int×Value)}{ep:Nat}{t:SetTable}
theorem Jj(hS:SetAt s.heap a es ep t)(hT:TT (uK w) t)(hz:es.size<scanBound)(hh:A.handled=none){Q:List Value→Shared→Prop}(q:∀(ord:List Value) h' d' tk,ord.Perm (es.toList.map (·.2))→(∀b o,s.heap.get? b=some o→h'.get? b=some o)→s.heap.objs.size<h'.objs.size→Q ord { s with heap:=h',drawn:=d',toks:=tk }) :
  wpAny (model prog w) A (collect (.ref a)) Q E s:=by
 obtain⟨⟨o,ho,hx,hd⟩,hf⟩:=id hS
 have hlt:a<s.heap.objs.size:=Heap.lt_size ho
 unfold collect
 refine wpAny_bind (wpAny_runValue (codeAny_builtin F.entry_proto_collect ?_));rw[Around.under_plainId F.plain_proto_collect _]
 show wpAny _ A.in1 (newList [] >>= fun l=>again (.builtin "list.__iadd__" ⟨[l,.ref a],[]⟩)) _ _ s
 refine wpAny_bind (wpAny_newObj_type (wpAny_pure ⟨plainId_quiet F.plain_list_iadd _,codeAny_builtin F.entry_list_iadd ?_⟩));rw[Around.under_plainId F.plain_list_iadd _]
 have hS1:SetAt (s.heap.push emp) a es ep t:=hS.at fun o z=>get?_push_of_some _ z
 show wpAny _ A.in1 (Builtin.List.listExtendWith (.ref s.heap.objs.size) (.ref a) (.ref s.heap.objs.size)) _ _ _
 unfold Builtin.List.listExtendWith
 refine wpAny_bind (wpAny_typeOf (T := "set") ⟨o,get?_push_of_some _ ho,hx.1⟩ ?_)
 have c1:Builtin.List.listSameRef (.ref s.heap.objs.size) (.ref a)=false:=by
  have:s.heap.objs.size≠a:=ne_of_gt hlt
  simp[Builtin.List.listSameRef,this]
 have c2:(Value.type "set" == Value.type "list")=false:=by decide
 have c3:(Value.type "set" == Value.type "tuple")=false:=by decide
 simp only[c1,c2,c3,Bool.or_false,Bool.false_eq_true,if_false]
 refine wpAny_bind (zc0 (s:={ s with heap:=s.heap.push emp }) hS1 hT hz fun I h1 d' W=>?_)
 obtain⟨fp,St,ord,w1,w2,w3,w4,w5,w6,w7,_⟩:=W
 have sz1:(s.heap.push emp).objs.size=s.heap.objs.size+1:=Heap.size_push _ _
 have hlen:(es.toList.map (·.2)).length=es.size:=by simp
 refine wpAny_bind (wpAny_holding (zc6 (s:={ s with heap:=h1,drawn:=d' }) (hS1.at fun o z=>w7 a o z) ?_))
 rw[if_pos (by kernel_rfl)]
 refine wpAny_bind (wpAny_rule (wpAny_bind ?_))
 show wpAny _ A.in1 (updateSeq s.heap.objs.size (·.push .none) >>= fun _=>updateSeq s.heap.objs.size (·.pop)) _ _ _
 have g1:h1.get? s.heap.objs.size=some emp:=w7 _ _ (Heap.get?_push_size _ rfl)
 refine wpAny_bind (wpAny_updateSeq g1 rfl ?_)
 have g2:=Heap.get?_update_self (Obj.mapSeq (·.push Value.none)) g1 rfl
 refine wpAny_updateSeq g2 rfl ?_
 have g3:=Heap.get?_update_self (Obj.mapSeq (·.pop)) g2 rfl
 have oth:∀b o,b≠s.heap.objs.size→h1.get? b=some o→((h1.update s.heap.objs.size (Obj.mapSeq (·.push Value.none))).update s.heap.objs.size (Obj.mapSeq (·.pop))).get? b=some o:=fun b o hb e=>
  (Heap.get?_update_other _ _ (Ne.symm hb)).trans ((Heap.get?_update_other _ _ (Ne.symm hb)).trans e)
 have W':=(w2 A.in1 (by simp[hh])).toS
 have hSf:s.heap.objs.size∉fp:=fun hm=>by
  rcases (w4 _ hm).2 with e|e
  ·exact lt_irrefl _ (e ▸ hlt)
  ·have e':(s.heap.push emp).objs.size≤s.heap.objs.size:=e
   rw[sz1] at e';exact Nat.not_succ_le_self _ e'
 have st1:=W'.frame 0 { s with heap:=h1,drawn:=d' } ((h1.update s.heap.objs.size (Obj.mapSeq (·.push Value.none))).update s.heap.objs.size (Obj.mapSeq (·.pop))) s.toks w3 (by simp) fun b hb o e=>oth b o (fun h=>hSf (h ▸ hb)) e
 refine wpAny_pure ⟨plainId_quiet F.plain_extend_loop _,codeAny_extend_loopS (A:=A) W' (by rw[hlen];exact fits_of_scanBound hz) _ hSf _ _ 0 _ _ _ rfl (zero_le _) st1 g3 (ItemsOf.nil _) fun s' acc' c' hm hS' hacc=>?_⟩
 show wpAny _ A (load s.heap.objs.size >>= _) _ _ s'
 refine wpAny_bind (wpAny_load hS' (wpAny_pure ?_))
 have eq:s' = { s with heap:=s'.heap,drawn:=d',toks:=s'.toks }:=by
  obtain⟨_,g,d,o,_⟩:=hm
  cases s';simp only at g d o;subst g;subst d;subst o;rfl
 rw[eq]
 have ea:acc'.toList=ord:=by
  refine List.ext_getElem? fun i=>?_
  by_cases hi:i<acc'.size
  ·have:=hacc.2 i (acc'[i]) (by simp[hi])
   rw[this];simp[hi]
  ·have:ord.length=acc'.size:=by rw[w1.length_eq,hacc.1]
   simp[hi,this]
 rw[ea]
 refine q ord _ _ _ w1 (fun b o hb=>hm.heap b o ?_ ?_) (Heap.lt_size hS')
 ·have hb':=Heap.lt_size hb
  intro h
  rcases mem_cons.mp h with e|h
  ·exact lt_irrefl _ (e ▸ hb')
  ·have e:=mem_singleton.mp h
   have e':(s.heap.push emp).objs.size≤I:=w6
   rw[sz1] at e';subst e;exact lt_irrefl _ (lt_of_lt_of_le hb' (Nat.le_of_succ_le e'))
 ·exact oth b o (ne_of_lt (Heap.lt_size hb)) (w7 b o (get?_push_of_some _ hb))
end
open PySem PyProof.Rows
section
variable{prog:Program}{w:World}{A:Around}{E:Value→Shared→Prop}{s:Shared}{a:Addr}{ns:List Int}{n:Nat}
end
end STW
set_option Elab.async false
set_option linter.all false
set_option maxRecDepth 100000
namespace FD
open PySem PySem.Spec PyProof.Rows L2
variable[Tabs]
section
variable{X:Cx}{e:Expr}{pos:Pos}{fs:FA}
theorem QZ{pins:List (Addr×Obj)}{σ:St}{H:Hp}{s:Shared}(d:Drawn)(I:Inv X pins σ H s):Inv X pins σ H { s with drawn:=d }:=
 ⟨I.ok,I.os,I.bare,I.base,I.loc,I.cell,I.free,I.freeC,I.pin,I.hok,I.len⟩
end
section
variable{X:Cx}
end
end FD
set_option Elab.async false
set_option linter.all false
namespace L2
open PySem PySem.Spec PyProof.Rows
section
variable{κ:Type}[DecidableEq κ]
noncomputable def UD(kvs:List (κ×V))(k:κ):Option V:=(kvs.find? fun kv=>decide (kv.1=k)).map (·.2)
noncomputable def ZD(kvs:List (κ×V))(k:κ)(v:V):List (κ×V):=
 if (kvs.any fun kv=>decide (kv.1=k))=true then kvs.map (fun kv=>if kv.1=k then (kv.1,v) else kv) else kvs++[(k,v)]
theorem Vy{p:κ×V}{r:List (κ×V)}{k:κ}(e:p.1=k):UD (p::r) k=some p.2:=by simp[UD,find?_cons,e]
theorem Vz{p:κ×V}{r:List (κ×V)}{k:κ}(e:¬ p.1=k):UD (p::r) k=UD r k:=by simp[UD,find?_cons,e]
theorem VA(k:κ):∀kvs:List (κ×V),(kvs.any fun kv=>decide (kv.1=k))=(UD kvs k).isSome:=by
 intro l_
 induction l_ with
 |nil=>
  exact rfl
 |cons p r ih_=>
  rw[any_cons]
  by_cases e:p.1=k
  ·simp only[Vy e,decide_eq_true e,Bool.true_or,Option.isSome_some]
  ·rw[Vz e,decide_eq_false e,Bool.false_or];exact ih_
theorem ZW(kvs:List (κ×V))(k:κ)(v:V):(ZD kvs k v).length≤kvs.length+1:=by
 unfold ZD
 split
 ·rw[length_map];lia
 ·rw[length_append,length_cons,length_nil];lia
theorem RelO.isSome_eq{o:Option V}{u:Option Value}(r:RelO o u):o.isSome=u.isSome:=by
 cases o with
 |none=>cases u with
  |none=>rfl
  |some _=>exact(show False from r).elim
 |some _=>cases u with
  |none=>exact(show False from r).elim
  |some _=>rfl
theorem KV.any{kvs:List (κ×V)}{vs:List (κ×Value)}(r:KV kvs vs)(k:κ):(kvs.any fun kv=>decide (kv.1=k))=vs.any fun kv=>decide (kv.1=k):=by
 unfold KV at r
 induction r with
 |nil=>rfl
 |cons h t ih=>rw[any_cons,any_cons,ih,h.1]
theorem KV.repl{kvs:List (κ×V)}{vs:List (κ×Value)}(r:KV kvs vs)(k:κ){y:V}{u:Value}(ry:RelV y u) :
  KV (kvs.map fun kv=>if kv.1=k then (kv.1,y) else kv) (vs.map fun kv=>if kv.1=k then (kv.1,u) else kv):=by
 unfold KV at r ⊢
 induction r with
 |nil=>exact .nil
 | @cons p q ps qs h t ih=>
  rw[map_cons,map_cons]
  refine .cons ?_ ih
  obtain⟨h1,h2⟩:=h
  by_cases e:p.1=k
  ·rw[if_pos e,if_pos (h1.symm.trans e)];exact⟨h1,ry⟩
  ·rw[if_neg e,if_neg (fun z=>e (h1.trans z))];exact⟨h1,h2⟩
theorem KV.put{kvs:List (κ×V)}{vs:List (κ×Value)}(r:KV kvs vs)(k:κ){y:V}{u:Value}(ry:RelV y u):KV (ZD kvs k y) (stored vs k u):=by
 unfold ZD stored
 rw[r.any k]
 by_cases e:(vs.any fun kv=>decide (kv.1=k))=true
 ·rw[if_pos e,if_pos e];exact r.repl k ry
 ·rw[if_neg e,if_neg e];exact Paired.snoc r ⟨rfl,ry⟩
theorem KV.length{kvs:List (κ×V)}{vs:List (κ×Value)}(r:KV kvs vs):kvs.length=vs.length:=Paired.length r
end
theorem zh5{P:Program}{w:World}{k:Key}{u:Value}(r:RelV (kV k) u):(wa P w).is k u=true:=by
 cases k with
 |inl i=>obtain⟨t,e⟩:=(show ∃t,u=Value.int i t from r);subst e;exact V3 P w i t
 |inr x=>obtain⟨t,e⟩:=(show ∃t,u=Value.str x t from r);subst e;exact V2 P w x t
theorem WB{P:Program}{w:World}:∀{ks:List Key} {us:List Value},Vals (ks.map kV) us→ItemsAre (wa P w) ks us
 |[],_,r=>by rw[map_nil] at r;cases r;exact .nil
 |k::ks,_,r=>by
  rw[map_cons] at r
  cases r with
  |cons h t=>exact .cons (zh5 h) (WB t)
noncomputable abbrev KT(H:Hp):List (List Key×V)→List (List Key×Addr×Value)→Prop:=Paired fun p q=>p.1=q.1∧H q.2.1=some (.tup (p.1.map kV))∧RelV p.2 q.2.2
theorem KT.val{H:Hp}{kvs:List (List Key×V)}{xs:List (List Key×Addr×Value)}(r:KT H kvs xs)(k:List Key):RelO (UD kvs k) ((atKey xs k).map (·.2)):=by
 induction r with
 |nil=>exact True.intro
 | @cons p q ps qs h t ih=>
  obtain⟨h1,_,h2⟩:=h
  by_cases e:p.1=k
  ·have e':q.1=k:=h1.symm.trans e
   have b:atKey (q::qs) k=some q.2:=by simp[atKey,find?_cons,e']
   rw[Vy e,b];exact h2
  ·have e':¬ q.1=k:=fun z=>e (h1.trans z)
   have b:atKey (q::qs) k=atKey qs k:=by simp[atKey,find?_cons,e']
   rw[Vz e,b];exact ih
theorem KT.repl{H:Hp}{kvs:List (List Key×V)}{xs:List (List Key×Addr×Value)}(r:KT H kvs xs)(k:List Key){y:V}{u:Value}(ry:RelV y u) :
  KT H (kvs.map fun kv=>if kv.1=k then (kv.1,y) else kv) (xs.map (putAt k u)):=by
 induction r with
 |nil=>exact .nil
 | @cons p q ps qs h t ih=>
  rw[map_cons,map_cons]
  refine .cons ?_ ih
  obtain⟨h1,h2,h3⟩:=h
  unfold putAt
  by_cases e:p.1=k
  ·rw[if_pos e,if_pos (h1.symm.trans e)];exact⟨h1,h2,ry⟩
  ·rw[if_neg e,if_neg (fun z=>e (h1.trans z))];exact⟨h1,h2,h3⟩
theorem KT.put{H:Hp}{kvs:List (List Key×V)}{xs:List (List Key×Addr×Value)}(r:KT H kvs xs)(k:List Key){b:Addr}{y:V}{u:Value}(hb:H b=some (.tup (k.map kV)))(ry:RelV y u) :
  KT H (ZD kvs k y) (storedH xs k b u):=by
 have e:(kvs.any fun kv=>decide (kv.1=k))=(atKey xs k).isSome:=by
  rw[VA,(r.val k).isSome_eq,Option.isSome_map]
 unfold ZD storedH
 rw[e]
 by_cases q:(atKey xs k).isSome=true
 ·rw[if_pos q,if_pos q];exact r.repl k ry
 ·rw[if_neg q,if_neg q];exact Paired.snoc r ⟨rfl,hb,ry⟩
theorem KT.keeps{H H':Hp}{kvs:List (List Key×V)}{xs:List (List Key×Addr×Value)}(r:KT H kvs xs)(ht:∀b ys,H b=some (.tup ys)→H' b=some (.tup ys)):KT H' kvs xs:=
 Paired.mapP r fun _ _ z=>⟨z.1,ht _ _ z.2.1,z.2.2⟩
section
variable{P:Program}{w:World}{H:Hp}{h:Heap}{a:Addr}
theorem zg3{u:HO}(ok:HOk P w H h)(e:Rd H a u):ObjOk P w H h a u:=e.ok ok
theorem dk_rd{kvs:List (Key×V)}(ok:HOk P w H h)(e:Rd H a (.dK kvs)):kvs.length≤sizeLine∧(a==sysModules)=false∧∃vs,KV kvs vs∧h.DictOf (wa P w) a vs:=
 show ObjOk P w H h a (.dK kvs) from zg3 ok e
theorem zi2{kvs:List (Key×V)}(ok:HOk P w H h)(e:H a=some (.dK kvs)):kvs.length≤sizeLine∧(a==sysModules)=false∧∃vs,KV kvs vs∧h.DictOf (wa P w) a vs:=dk_rd ok (.inl e)
theorem MP{ks:List Key}(ok:HOk P w H h)(e:H a=some (.tup (ks.map kV))):(tupleKind (wa P w)).is h ks a:=by
 obtain⟨_,its,r,o,h1,h2,n,h3⟩:=(show ObjOk P w H h a (.tup (ks.map kV)) from ok a _ e)
 exact⟨o,its.toArray,n,h1,h2,h3,by simpa using WB r⟩
theorem dt_rd{kvs:List (List Key×V)}(ok:HOk P w H h)(e:Rd H a (.dT kvs)):kvs.length≤sizeLine∧(a==sysModules)=false ∧
  ∃xs,KT H kvs xs∧h.DictOfH (tupleKind (wa P w)) a xs:=by
 obtain⟨z,y,xs,r,o,es,ep,h1,h2,h3,h4,h5⟩:=(show ObjOk P w H h a (.dT kvs) from zg3 ok e)
 refine⟨z,y,xs,r,o,es,ep,h1,h2,h3,h4,fun x hx=>?_,h5⟩
 have all:∀{l:List (List Key×V)} {m:List (List Key×Addr×Value)},KT H l m→∀x∈m,(tupleKind (wa P w)).is h x.1 x.2.1:=by
  intro l m q
  induction q with
  |nil=>intro x hx;exact nomatch hx
  | @cons p q ps qs hq t ih=>
   intro x hx
   rcases mem_cons.mp hx with e|hx
   ·subst e
    exact MP ok (by rw[← hq.1];exact hq.2.1)
   ·exact ih x hx
 exact all r x hx
theorem dt_of{kvs:List (List Key×V)}(ok:HOk P w H h)(e:H a=some (.dT kvs)):kvs.length≤sizeLine∧(a==sysModules)=false ∧
  ∃xs,KT H kvs xs∧h.DictOfH (tupleKind (wa P w)) a xs:=dt_rd ok (.inl e)
end
noncomputable def DPut(H:Hp)(a:Addr)(y v:V)(H':Hp):Prop:=
 (∃kvs k,H a=some (.dK kvs)∧y=kV k∧kvs.length<sizeLine∧H'=upd H a (.dK (ZD kvs k v))) ∨
 ∃kvs k b,H a=some (.dT kvs)∧y=.ref b∧H b=some (.tup (k.map kV))∧kvs.length<sizeLine∧H'=upd H a (.dT (ZD kvs k v))
theorem DPut.k{H:Hp}{a:Addr}{kvs:List (Key×V)}{k:Key}{v:V}(e:H a=some (.dK kvs))(hl:kvs.length<sizeLine):DPut H a (kV k) v (upd H a (.dK (ZD kvs k v))):=.inl ⟨kvs,k,e,rfl,hl,rfl⟩
section
variable{X:Cx}{pins:List (Addr×Obj)}{σ:St}{H:Hp}{s:Shared}{a:Addr}{y v:V}{u r:Value}{o:Option V}{A:Around}{E:Value→Shared→Prop}
theorem Inv.big(I:Inv X pins σ H s):sysModules<s.heap.objs.size:=by
 have h:mainGlobals<s.heap.objs.size:=(I.mod.glob.keeps I.bk).lt
 exact Nat.lt_trans (by decide) h
theorem J7{h':Heap}{t':Nat}{ob:HO}(I:Inv X pins σ H s)(mu:Mut (H a))(hs:Heap.SameBut a s.heap h')(he:∃q,h'.get? a=some q)(new:ObjOk X.prog X.w (upd H a ob) h' a ob) :
  Inv X pins σ (upd H a ob) { s with heap:=h',toks:=t' }:=
 I.write (x:=a) (e:=a) mu (.inl rfl) (fun b q hb z=>(hs.2 b hb).trans z) he new
theorem zr3{P:Program}{w:World}{H':Hp}{h':Heap}{kvs:List (Key×V)}{vs:List (Key×Value)}(z:kvs.length≤sizeLine)(hd:(a==sysModules)=false)(rel:KV kvs vs)(dd:h'.DictOf (wa P w) a vs) :
  ObjOk P w H' h' a (.dK kvs):=⟨z,hd,vs,rel,dd⟩
theorem Gb{H':Hp}{Q:Unit→Shared→Prop}(hu:A.units+1<cLine)(I:Inv X pins σ H s)(g:DPut H a y v H')(ry:RelV y u)(rv:RelV v r)(h:∀s',Inv X pins σ H' s'→Q () s') :
  wpAny (model X.prog X.w) A (setItem (.ref a) u r) Q E s:=by
 rcases g with ⟨kvs,k,e,ey,l,eH⟩|⟨kvs,k,b,e,ey,eb,l,eH⟩
 ·subst ey eH
  obtain⟨z,hd,vs,rel,dd⟩:=zi2 I.hok e
  have hz:vs.length≤sizeLine:=by rw[← rel.length];exact z
  have hl:(ZD kvs k v).length≤sizeLine:=by have:=ZW kvs k v;lia
  refine wpAny_setItem_pairs (hsz:=hz) (zh5 ry) dd fun h' dd' hs=>h _ ?_
  have he:∃q,h'.get? a=some q:=let ⟨q,_,_,hq,_⟩:=dd';⟨q,hq⟩
  exact J7 I (by rw[e];exact True.intro) hs he (zr3 hl hd (rel.put k rv) dd')
 ·subst ey eH
  cases (show u=Value.ref b from ry)
  obtain⟨z,hd,xs,rel,dd⟩:=dt_of I.hok e
  have hz:xs.length≤sizeLine:=by rw[← Paired.length rel];exact z
  have hl:(ZD kvs k v).length≤sizeLine:=by have:=ZW kvs k v;lia
  refine wpAny_setItem_heap (hsz:=hz) (tupleKind_room_in1 hu) (MP I.hok eb) dd fun h' dd' hs=>h _ ?_
  obtain⟨q,es,ep,hq,h2,h3,h4,_,h5⟩:=dd'
  refine J7 I (by rw[e];exact True.intro) hs ⟨q,hq⟩ ⟨hl,hd,_,(rel.put k eb rv).keeps fun c ys ec=>?_,q,es,ep,hq,h2,h3,h4,h5⟩
  rw[zA (ne_of ec e (fun z=>nomatch z))]
  exact ec
end
section
variable{X:Cx}{pins:List (Addr×Obj)}{σ:St}{H:Hp}{s:Shared}{a:Addr}{kvs:List (Key×V)}{k:Key}{u:Value}{A:Around}{E:Value→Shared→Prop}
end
noncomputable def sDPut(td ty tv:TE):TS:=fun D σ H=>tv σ H fun v H1=>td σ H1 fun x H2=>ty σ H2 fun y H3=>∃a H4,x=.ref a∧DPut H3 a y v H4∧D.nx σ H4
section
variable{X:Cx}{o i e value:Expr}{pos pos' tpos:Pos}{td ty tv:TE}
theorem LB(hu:X.A.units+1<cLine)(ho:PE X o td)(hi:PE X i ty)(hv:PE X value tv)(hs:swapsWith value (some (.Subscript o i pos')) pos.line X.env=pure false) :
  PS X (.Assign [.Subscript o i pos'] value pos) (sDPut td ty tv):=by
 intro pins s σ H D I h
 refine wpAny_Assign_Subscript (thn (hv pins s σ H _ I h) fun r s1 ⟨v,H1,I1,rv,q1⟩=>thn (ho pins s1 σ H1 _ I1 q1) fun u s2 ⟨x,H2,I2,rx,q2⟩=>thn (hi pins s2 σ H2 _ I2 q2) fun iv s3 z_=>?_) hs
 obtain⟨y,H3,I3,ry,a,H4,ex,g,q3⟩:=z_
 subst ex
 obtain rfl:u=Value.ref a:=rx
 exact Gb hu I3 g ry rv fun s4 I4=>⟨σ,H4,I4,q3⟩
end
theorem Ti{P:Program}{w:World}{H:Hp}(h:Heap)(hb:sysModules<h.objs.size):ObjOk P w H (h.push { cls:=.type "dict", data:=.dict #[] }) h.objs.size (.dK []):=
 ⟨zero_le _,beq_eq_false_iff_ne.mpr (Ne.symm (ne_of_lt hb)),[],.nil,Heap.DictOf.new h⟩
noncomputable def zi9:TE:=fun _ H Q=>∀p,H p=none→Q (.ref p) (upd H p (.dK []))
section
variable{X:Cx}{pos:Pos}
theorem Me:PE X (.Dict [] [] pos) zi9:=fun pins s σ H Q I h=>
 wpAny_Dict_empty ⟨.ref s.heap.objs.size,_,I.laid (a:=s.heap.objs.size) (o:=.dK []) (t':=s.toks) (fun _ _ q=>get?_push_of_some _ q) (le_refl _) (Ti s.heap I.big),rfl,h _ (I.hok.fresh (le_refl _))⟩
end
section
variable{X:Cx}{pins:List (Addr×Obj)}{σ:St}{H:Hp}{s:Shared}{a:Addr}{y d:V}{u r:Value}{o:Option V}{A:Around}{E:Value→Shared→Prop}
end
section
variable{X:Cx}{o e f:Expr}{apos cpos:Pos}{td ty tx:TE}
end
section
variable{X:Cx}{pins:List (Addr×Obj)}{σ:St}{H:Hp}{s:Shared}{a:Addr}{kvs:List (Key×V)}{A:Around}{E:Value→Shared→Prop}
end
section
variable{X:Cx}{pins:List (Addr×Obj)}{σ:St}{H:Hp}{s:Shared}{a:Addr}{y:V}{u:Value}{A:Around}{E:Value→Shared→Prop}
end
section
variable{κ:Type}[DecidableEq κ]
end
end L2
set_option Elab.async false
set_option linter.all false
set_option maxRecDepth 100000
namespace STW
open PySem PyProof.Rows
section
variable{prog:Program}{w:World}{K:Type}[DecidableEq K]{knd:KeyKind prog w K}{A:Around}{E:Value→Shared→Prop}{s:Shared}{d:Addr}{kvs:List (K×Value)}{ep:Nat}
theorem zj1:isSubtype (.type "dict") (.type "dict")=pure true:=by first|exact isSubtype_dict_dict|exact PySem.isSubtype_dict_dict | (rw[isSubtype_type];kernel_rfl)
theorem M1(hm:s.heap.DictAt knd d kvs ep){Q:Bool→Shared→Prop}(q:Q false s):wpAny (model prog w) A (Builtin.List.listLengthHint (.ref d)) Q E s:=by
 have ty:s.TypeIs (.ref d) "dict" := hm.dictOf.typeIs
 unfold Builtin.List.listLengthHint
 refine wpAny_bind (wpAny_specialOf ty F.slot_dict_len.lookup ?_)
 have e1:splitId "dict.__len__" = some ("dict", "__len__"):=by kernel_rfl
 dsimp only
 rw[e1]
 dsimp only
 refine wpAny_bind (wpAny_isInstance ty zj1 ?_)
 rw[if_neg (by simp),if_pos (by kernel_rfl)]
 refine wpAny_bind (wpAny_typeOf ty ?_)
 exact wpAny_pure q
theorem Uw(hd:(d==sysModules)=false)(hm:s.heap.DictAt knd d kvs ep)(hz:kvs.length≤sizeLine)(hh:A.handled=none){Q:List Value→Shared→Prop}
  (q:∀(vs:List Value) h' tk,vs.length=kvs.length→(∀(i:Nat) (v:Value),vs[i]?=some v→∃k x,kvs[i]?=some (k,x)∧knd.is k v=true)→(∀b o,s.heap.get? b=some o→h'.get? b=some o)→s.heap.objs.size<h'.objs.size→Q vs { s with heap:=h',toks:=tk }) :
  wpAny (model prog w) A (collect (.ref d)) Q E s:=by
 have ty:s.TypeIs (.ref d) "dict" := hm.dictOf.typeIs
 have hlt:d<s.heap.objs.size:=hm.lt_size
 unfold collect
 refine wpAny_bind (wpAny_runValue (codeAny_builtin F.entry_proto_collect ?_));rw[Around.under_plainId F.plain_proto_collect _]
 show wpAny _ A.in1 (newList [] >>= fun l=>again (.builtin "list.__iadd__" ⟨[l,.ref d],[]⟩)) _ _ s
 refine wpAny_bind (wpAny_newObj_type (wpAny_pure ⟨plainId_quiet F.plain_list_iadd _,codeAny_builtin F.entry_list_iadd ?_⟩));rw[Around.under_plainId F.plain_list_iadd _]
 have hm1:(s.heap.push emp).DictAt knd d kvs ep:=hm.push emp
 show wpAny _ A.in1 (Builtin.List.listExtendWith (.ref s.heap.objs.size) (.ref d) (.ref s.heap.objs.size)) _ _ _
 unfold Builtin.List.listExtendWith
 have ty1:Shared.TypeIs { s with heap:=s.heap.push emp } (.ref d) "dict" := hm1.dictOf.typeIs
 refine wpAny_bind (wpAny_typeOf ty1 ?_)
 have c1:Builtin.List.listSameRef (.ref s.heap.objs.size) (.ref d)=false:=by
  have:s.heap.objs.size≠d:=ne_of_gt hlt
  simp[Builtin.List.listSameRef,this]
 have c2:(Value.type "dict" == Value.type "list")=false:=by decide
 have c3:(Value.type "dict" == Value.type "tuple")=false:=by decide
 simp only[c1,c2,c3,Bool.or_false,Bool.false_eq_true,if_false]
 have sz1:(s.heap.push emp).objs.size=s.heap.objs.size+1:=Heap.size_push _ _
 refine wpAny_bind (wpAny_pyIter_dict (s:={ s with heap:=s.heap.push emp }) hd hm1 ?_)
 generalize hh1:(s.heap.push emp).push { cls:=.type "dict_keyiterator", data:=.fields #[.ref d,.int 0 0,.int kvs.length 0,.int ep 0] }=h1
 have kp:∀b o,(s.heap.push emp).get? b=some o→h1.get? b=some o:=fun b o e=>by rw[← hh1];exact get?_push_of_some _ e
 have hm2:h1.DictAt knd d kvs ep:=hm1.keep kp
 have hI:h1.get? (s.heap.push emp).objs.size=some { cls:=.type "dict_keyiterator", data:=.fields #[.ref d,.int 0 0,.int kvs.length 0,.int ep 0] }:=by rw[← hh1];exact Heap.get?_push_size _ rfl
 have hne:d≠(s.heap.push emp).objs.size:=by rw[sz1];exact ne_of_lt (lt_succ_of_lt hlt)
 have W':=(Walks.dictKeys (knd:=knd) (prog:=prog) (w:=w) (A:=A.in1) (by simp[hh]) (s.heap.push emp).objs.size d hne kvs ep).toS
 refine wpAny_bind (wpAny_holding (M1 (s:={ s with heap:=h1 }) hm2 ?_))
 rw[if_pos (by kernel_rfl)]
 refine wpAny_bind (wpAny_rule (wpAny_bind ?_))
 show wpAny _ A.in1 (updateSeq s.heap.objs.size (·.push .none) >>= fun _=>updateSeq s.heap.objs.size (·.pop)) _ _ _
 have g1:h1.get? s.heap.objs.size=some emp:=kp _ _ (Heap.get?_push_size _ rfl)
 refine wpAny_bind (wpAny_updateSeq g1 rfl ?_)
 have g2:=Heap.get?_update_self (Obj.mapSeq (·.push Value.none)) g1 rfl
 refine wpAny_updateSeq g2 rfl ?_
 have g3:=Heap.get?_update_self (Obj.mapSeq (·.pop)) g2 rfl
 have oth:∀b o,b≠s.heap.objs.size→h1.get? b=some o→((h1.update s.heap.objs.size (Obj.mapSeq (·.push Value.none))).update s.heap.objs.size (Obj.mapSeq (·.pop))).get? b=some o:=fun b o hb e=>
  (Heap.get?_update_other _ _ (Ne.symm hb)).trans ((Heap.get?_update_other _ _ (Ne.symm hb)).trans e)
 have hSf:s.heap.objs.size∉[(s.heap.push emp).objs.size,d]:=by
  rw[sz1];simp only[mem_cons,not_mem_nil,or_false,not_or];exact⟨ne_of_lt (lt_succ_self _),ne_of_gt hlt⟩
 have st0:h1.IsKeyIter (s.heap.push emp).objs.size d 0 kvs.length ep∧h1.DictAt knd d kvs ep:=⟨⟨_,hI,rfl,rfl⟩,hm2⟩
 have st1:=W'.frame 0 { s with heap:=h1 } ((h1.update s.heap.objs.size (Obj.mapSeq (·.push Value.none))).update s.heap.objs.size (Obj.mapSeq (·.pop))) s.toks st0 (by simp) fun b hb o e=>oth b o (fun h=>hSf (h ▸ hb)) e
 refine wpAny_pure ⟨plainId_quiet F.plain_extend_loop _,codeAny_extend_loopS (A:=A) W' hz _ hSf _ _ 0 _ _ _ rfl (zero_le _) st1 g3 (ItemsOf.nil _) fun s' acc' c' hmv hS' hacc=>?_⟩
 show wpAny _ A (load s.heap.objs.size >>= _) _ _ s'
 refine wpAny_bind (wpAny_load hS' (wpAny_pure ?_))
 have eq:s' = { s with heap:=s'.heap,toks:=s'.toks }:=by
  obtain⟨_,g,dd,o,_⟩:=hmv
  cases s';simp only at g dd o;subst g;subst dd;subst o;rfl
 rw[eq]
 refine q _ _ _ (by rw[length_toList];exact hacc.1) (fun i v hv=>hacc.2 i v (by rw[← getElem?_toList];exact hv)) (fun b o hb=>hmv.heap b o ?_ ?_) (Heap.lt_size hS')
 ·have hb':=Heap.lt_size hb
  rw[sz1];simp only[mem_cons,not_mem_nil,or_false,not_or]
  exact⟨ne_of_lt hb',ne_of_lt (lt_succ_of_lt hb')⟩
 ·exact oth b o (ne_of_lt (Heap.lt_size hb)) (kp b o (get?_push_of_some _ hb))
end
section
variable{prog:Program}{w:World}{K:Type}[DecidableEq K]{knd:KeyKind prog w K}{A:Around}{E:Value→Shared→Prop}{s:Shared}{d:Addr}{kvs:List (K×Value)}{ep:Nat}{ns:List Int}{b:Bool}
end
end STW
set_option Elab.async false
set_option linter.all false
set_option maxRecDepth 100000
namespace FD
open PySem PySem.Spec PyProof.Rows L2
variable[Tabs]
omit [Tabs] in
theorem zb5{kvs:List (Key×V)}{vs:List (Key×Value)}(h:KV kvs vs):vs.map (·.1)=kvs.map (·.1):=by
 induction h with
 |nil=>rfl
 |cons r _ ih=>rw[map_cons,map_cons,ih,r.1]
section
variable{X:Cx}{pos pp kp p1 p2:Pos}{kk:Nat}
end
noncomputable def Vl(τ:DS):Prop:=∀(i:Nat) (s:Sl),τ[i]?=some (some s)→∃d,s=.val d
omit [Tabs] in
theorem Vl.noObj{τ:DS}(v:Vl τ):noObj τ:=fun i s h=>by
 cases s with
 |none=>rfl
 |some s=>obtain⟨d,rfl⟩:=v i s h;rfl
omit [Tabs] in
theorem Vl.set{τ:DS}(v:Vl τ)(i:Nat)(d:D):Vl (τ.set i (some (.val d))):=fun j s h=>by
 rw[getElem?_set] at h
 split at h
 ·split at h
  ·cases h;exact⟨d,rfl⟩
  ·cases h
 ·exact v j s h
noncomputable def Soft(o:Option HO):Prop:=o=none∨(∃vs,o=some (.lst vs))∨∃ks,o=some (.dK ks)
theorem RS.free{K:Frag}{B Z F H:Hp}{τ:DS}{σ:St}{p:Addr}{o:HO}(R:RS K B Z F τ σ H)(v:Vl τ)(hb:B p=none)(hp:F p=none)(hl:Soft (H p))(ho:∀a,o≠.own a:=by intro _ h;cases h):RS K B Z F τ σ (upd H p o):=by
 have ne:∀{a:Addr} {w:HO},H a=some w→(∀vs,w≠.lst vs)→(∀ks,w≠.dK ks)→a≠p:=fun {a w} h n1 n2 z=>by
  subst z
  rcases hl with z|⟨ws,z⟩|⟨ws,z⟩
  ·rw[z] at h;cases h
  ·rw[z] at h;cases h;exact n1 _ rfl
  ·rw[z] at h;cases h;exact n2 _ rfl
 have own:∀(i:Nat) ds,τ[i]?≠some (some (.own ds)):=fun i ds h=>by obtain⟨d,e⟩:=v i _ h;cases e
 have obj:∀(i n:Nat) c fs,τ[i]?≠some (some (.obj n c fs)):=fun i n c fs h=>by obtain⟨d,e⟩:=v i _ h;cases e
 have obr:∀(i:Nat) c fs,τ[i]?≠some (some (.obr c fs)):=fun i c fs h=>by obtain⟨d,e⟩:=v i _ h;cases e
 refine⟨⟨fun b u e=>?_,R.rv.len,R.rv.val,fun i ds h=>absurd h (own i ds),fun i j ds es a _ h=>absurd h (own i ds),⟨fun r hr=>?_,fun d a h=>?_⟩,ObsOk.none v.noObj⟩,fun a u e=>?_,R.zf,R.nb,fun i ds a h=>absurd h (own i ds),fun i n c fs a h=>absurd h (obj i n c fs),fun a0 dx _ _ i n c fs h=>absurd h (obj i _ c fs),fun i c fs a h=>absurd h (obr i c fs)⟩
 ·have:b≠p:=fun z=>by subst z;rw[hp] at e;cases e
  rw[zA this];exact R.rv.fh b u e
 ·obtain⟨t1,t2⟩:=R.rv.tt.1 r hr
  refine⟨t1,?_⟩
  rcases t2 with e|⟨c,e,e2⟩
  ·exact .inl (by rw[zA (ne e (fun _ z=>nomatch z) (fun _ z=>nomatch z))];exact e)
  ·exact .inr ⟨c,by rw[zA (ne e (fun _ z=>nomatch z) (fun _ z=>nomatch z))];exact e,by rw[zA (ne e2 (fun _ z=>nomatch z) (fun _ z=>nomatch z))];exact e2⟩
 ·by_cases z:d=p
  ·subst z;rw[zJ] at h;cases h;exact absurd rfl (ho a)
  ·rw[zA z] at h
   obtain⟨C,dx,vs,e⟩:=R.rv.tt.2 d a h
   exact⟨C,dx,vs,by rw[zA (ne e (fun _ z=>nomatch z) (fun _ z=>nomatch z))];exact e⟩
 ·have:a≠p:=fun z=>by subst z;rw[hb] at e;cases e
  rw[zA this];exact R.bh a u e
theorem Td{F H F' H':Hp}{a:Addr}{o:HO}(x:Ext F H F' H')(h:H a=some o)(f:F a=none):F' a=none:=by
 cases q:F' a with
 |none=>rfl
 |some u=>
  rcases x.nw a u q with z|z
  ·rw[f] at z;cases z
  ·rw[h] at z;cases z
section
variable{X:Cx}{i:Nat}{y:Str}{e0 e0' e0'' e1:Expr}{f0 f1:FE}{q1 q2 q3 cp sp sp2 lp ap ip atp callp xp:Pos}
theorem zh1{X:Cx}{α:Type}{r:Rs α}{a:α}{P:α→Prop}(h:r=.ok a)(p:P a):Ok X r P:=by rw[h];exact p
theorem zn1{B H:Hp}{p:Addr}(h:Hh B H)(e:H p=none):B p=none:=by
 cases q:B p with
 |none=>rfl
 |some o=>exact absurd e (Kp.some (h p o q))
theorem zn0{F H:Hp}{p:Addr}(h:Same F H)(e:H p=none):F p=none:=by
 cases q:F p with
 |none=>rfl
 |some o=>have:=h p o q;rw[e] at this;cases this
end
section
variable{X:Cx}{i r:Nat}{x y:Str}{e0 e0' e0'' e1 iter:Expr}{fi:FA}{q1 q2 q3 cp sp sp2 lp ap ip atp callp xp tp pos:Pos}
end
noncomputable def vlB(τ:DS):Bool:=τ.all fun s=>match s with
 |none=>true
 | some (.val _)=>true
 |_=>false
omit [Tabs] in
theorem zi6{τ:DS}(h:vlB τ=true):Vl τ:=fun i s e=>by
 have:=all_eq_true.mp h (some s) (mem_of_getElem? e)
 cases s with
 |val d=>exact⟨d,rfl⟩
 |_=>cases this
theorem RS.drop{K:Frag}{B Z F H:Hp}{τ:DS}{σ:St}{i:Nat}{v:Option V}(R:RS K B Z F τ σ H)(vl:Vl τ):RS K B Z F (τ.set i none) (σ.set i v) H∧Vl (τ.set i none):=by
 have get:∀(j:Nat) (s:Sl),(τ.set i none)[j]?=some (some s)→i≠j∧τ[j]?=some (some s):=fun j s h=>by
  by_cases z:i=j
  ·subst z
   rw[getElem?_set] at h
   simp only[if_true] at h
   split at h <;> cases h
  ·rw[getElem?_set_ne z] at h;exact⟨z,h⟩
 have vl':Vl (τ.set i none):=fun j s h=>vl j s (get j s h).2
 have own:∀(j:Nat) ds,(τ.set i none)[j]?≠some (some (.own ds)):=fun j ds h=>by obtain⟨d,e⟩:=vl' j _ h;cases e
 have obj:∀(j n:Nat) c fs,(τ.set i none)[j]?≠some (some (.obj n c fs)):=fun j n c fs h=>by obtain⟨d,e⟩:=vl' j _ h;cases e
 have obr:∀(j:Nat) c fs,(τ.set i none)[j]?≠some (some (.obr c fs)):=fun j c fs h=>by obtain⟨d,e⟩:=vl' j _ h;cases e
 refine⟨⟨⟨R.rv.fh,by rw[length_set,length_set];exact R.rv.len,fun j d h=>?_,fun j ds h=>absurd h (own j ds),fun j k ds es a _ h=>absurd h (own j ds),R.rv.tt,ObsOk.none vl'.noObj⟩,R.bh,R.zf,R.nb,fun j ds a h=>absurd h (own j ds),fun j n c fs a h=>absurd h (obj j n c fs),fun a0 dx _ _ j n c fs h=>absurd h (obj j _ c fs),fun j c fs a h=>absurd h (obr j c fs)⟩,vl'⟩
 obtain⟨ne,e⟩:=get j _ h
 obtain⟨w,h1,h2⟩:=R.rv.val j d e
 exact⟨w,by rw[getElem?_set_ne ne];exact h1,h2⟩
section
variable{X:Cx}{i r:Nat}{x y c:Str}{iter elt:Expr}{fi:FA}{body:List Stmt}{scope:Scope}{yp tp dp a1 fp rp cpos cp sp p1 p2 kp:Pos}{kk:Nat}
end
end FD
set_option Elab.async false
set_option linter.all false
set_option maxRecDepth 100000
namespace STW
open PySem PyProof.Rows
theorem zo4:∀x y:List Nat,Spec.ltCps x y=false→Spec.ltCps y x=false→x=y:=fun x=>by
 induction x with
 |nil=>
  intro y h1 h2
  cases y with
  |nil=>rfl
  |cons b y=>cases h1
 |cons a x ih=>
  intro y h1 h2
  cases y with
  |nil=>cases h2
  |cons b y=>
   have g1:(decide (a<b)||(a==b&&Spec.ltCps x y))=false:=h1
   have g2:(decide (b<a)||(b==a&&Spec.ltCps y x))=false:=h2
   rw[Bool.or_eq_false_iff,decide_eq_false_iff_not] at g1 g2
   have e:a=b:=by lia
   subst e
   have g3:Spec.ltCps x y=false:=by simpa using g1.2
   have g4:Spec.ltCps y x=false:=by simpa using g2.2
   rw[ih y g3 g4]
theorem MH:∀x y z:List Nat,Spec.ltCps y x=false→Spec.ltCps z y=false→Spec.ltCps z x=false:=fun x=>by
 induction x with
 |nil=>intro y z _ _;cases z <;> rfl
 |cons a x ih=>
  intro y z h1 h2
  cases y with
  |nil=>cases h1
  |cons b y=>
   cases z with
   |nil=>cases h2
   |cons c z=>
    have g1:(decide (b<a)||(b==a&&Spec.ltCps y x))=false:=h1
    have g2:(decide (c<b)||(c==b&&Spec.ltCps z y))=false:=h2
    show(decide (c<a)||(c==a&&Spec.ltCps z x))=false
    rw[Bool.or_eq_false_iff,decide_eq_false_iff_not] at g1 g2 ⊢
    refine⟨by lia,?_⟩
    by_cases e:c=a
    ·have e1:b=a:=by lia
     have e2:c=b:=by lia
     have g3:Spec.ltCps y x=false:=by simpa[e1] using g1.2
     have g4:Spec.ltCps z y=false:=by simpa[e2] using g2.2
     rw[ih y z g3 g4];simp
    ·simp[e]
theorem zb0(x y:List Nat)(h:Spec.ltCps x y=true):Spec.ltCps y x=false:=by
 cases e:Spec.ltCps y x with
 |false=>rfl
 |true=>
  exfalso
  have aux:∀x y:List Nat,Spec.ltCps x y=true→Spec.ltCps y x=true→False:=fun x=>by
   induction x with
   |nil=>intro y _ h2;cases y <;> cases h2
   |cons a x ih=>
    intro y h1 h2
    cases y with
    |nil=>cases h1
    |cons b y=>
     have g1:(decide (a<b)||(a==b&&Spec.ltCps x y))=true:=h1
     have g2:(decide (b<a)||(b==a&&Spec.ltCps y x))=true:=h2
     simp only[Bool.or_eq_true,decide_eq_true_eq,Bool.and_eq_true,beq_iff_eq] at g1 g2
     rcases g1 with g1|⟨e1,g1⟩
     ·rcases g2 with g2|⟨e2,_⟩ <;> lia
     ·rcases g2 with g2|⟨_,g2⟩
      ·lia
      ·exact ih y g1 g2
  exact aux x y h e
noncomputable def leS(a b:Str):Prop:=Spec.ltCps b.cps.toList a.cps.toList=false
theorem Wv{a b c:Str}(h1:leS a b)(h2:leS b c):leS a c:=MH _ _ _ h1 h2
theorem leS_anti{a b:Str}(h1:leS a b)(h2:leS b a):a=b:=by
 have:=zo4 _ _ h2 h1
 cases a;cases b
 simp only at this
 congr
 exact Array.toList_inj.mp this
noncomputable def Jb(a:Str):List Str→List Str
 |[]=>[a]
 |b::r=>if Spec.ltCps b.cps.toList a.cps.toList=true then b::Jb a r else a::b::r
noncomputable def srtS:List Str→List Str
 |[]=>[]
 |a::r=>Jb a (srtS r)
theorem WD(a:Str):∀l,(Jb a l).Perm (a::l):=fun l=>by
 induction l with
 |nil=>exact List.Perm.refl _
 |cons b r ih=>
  unfold Jb
  split
  ·exact(ih.cons b).trans (List.Perm.swap a b r)
  ·exact List.Perm.refl _
theorem srtS_perm:∀l,(srtS l).Perm l:=fun l=>by
 induction l with
 |nil=>exact List.Perm.refl _
 |cons a r ih=>exact(WD a _).trans (ih.cons a)
theorem zc4(a:Str):∀l:List Str,l.Pairwise leS→(Jb a l).Pairwise leS:=fun l=>by
 induction l with
 |nil=>intro _;simp[Jb]
 |cons b r ih=>
  intro h
  have h':=pairwise_cons.mp h
  unfold Jb
  split
  ·rename_i z
   refine pairwise_cons.mpr ⟨fun x hx=>?_,ih h'.2⟩
   rcases mem_cons.mp ((WD a r).mem_iff.mp hx) with rfl|hx
   ·exact zb0 _ _ z
   ·exact h'.1 x hx
  ·rename_i z
   have hab:leS a b:=by unfold leS;simpa using z
   refine pairwise_cons.mpr ⟨fun x hx=>?_,h⟩
   rcases mem_cons.mp hx with rfl|hx
   ·exact hab
   ·exact Wv hab (h'.1 x hx)
theorem srtS_up:∀l:List Str,(srtS l).Pairwise leS:=fun l=>by
 induction l with
 |nil=>exact List.Pairwise.nil
 |cons a r ih=>exact zc4 a _ ih
theorem Gr:∀{l m:List Str},l.Pairwise leS→m.Pairwise leS→l.Perm m→l=m:=fun {l}=>by
 induction l with
 |nil=>intro m _ _ p;rw[List.nil_perm.mp p]
 |cons a l ih=>
  intro m h1 h2 p
  cases m with
  |nil=>have:=p.length_eq;simp at this
  |cons b m=>
   have g1:=pairwise_cons.mp h1
   have g2:=pairwise_cons.mp h2
   have e:a=b:=by
    have ha:a∈b::m:=p.mem_iff.mp mem_cons_self
    have hb:b∈a::l:=p.mem_iff.mpr mem_cons_self
    rcases mem_cons.mp ha with z|z
    ·exact z
    ·rcases mem_cons.mp hb with y|y
     ·exact y.symm
     ·exact leS_anti (g1.1 b y) (g2.1 a z)
   subst e
   rw[ih g1.2 g2.2 p.cons_inv]
theorem Qp:∀(l:List Str) (a:Str),risingS a l=true→(a::l).Pairwise leS:=fun l=>by
 induction l with
 |nil=>intro a _;simp
 |cons b l ih=>
  intro a h
  have h':(!(Spec.ltCps b.cps.toList a.cps.toList)&&risingS b l)=true:=h
  rw[Bool.and_eq_true,Bool.not_eq_true'] at h'
  have p:=ih b h'.2
  have p':=pairwise_cons.mp p
  refine pairwise_cons.mpr ⟨fun x hx=>?_,p⟩
  rcases mem_cons.mp hx with rfl|hx
  ·exact h'.1
  ·exact Wv (show leS a b from h'.1) (p'.1 x hx)
theorem Qj{l:List Str}(h:sortedS l=true):l.Pairwise leS:=by
 cases l with
 |nil=>exact List.Pairwise.nil
 |cons a l=>exact Qp l a h
theorem Jw{l m:List Str}(p:l.Perm m)(h:sortedS l=true):l=srtS m:=Gr (Qj h) (srtS_up m) (p.trans (srtS_perm m).symm)
section
variable{prog:Program}{w:World}{K:Type}[DecidableEq K]{knd:PySem.KeyKind prog w K}{A:Around}{E:Value→Shared→Prop}{s:Shared}{d:Addr}{kvs:List (K×Value)}{ep:Nat}{ss:List Str}
theorem sortDictS(hd:(d==sysModules)=false)(hm:s.heap.DictAt knd d kvs ep)(h64:kvs.length<64)(hh:A.handled=none)
  (hI:∀vs:List Value,vs.length=kvs.length→(∀(i:Nat) (v:Value),vs[i]?=some v→∃k x,kvs[i]?=some (k,x)∧knd.is k v=true)→StrsAre vs ss) {Q:Value→Shared→Prop}
  (q:∀h' tk a (out:List Value) e,h'.get? a=some (seqObj "list" out.toArray e)→StrsAre out (srtS ss)→s.heap.objs.size≤a→(∀c o,s.heap.get? c=some o→h'.get? c=some o)→Q (.ref a) { s with heap:=h',toks:=tk }) :
  wpAny (model prog w) A (call (.builtin "sorted") [.ref d]) Q E s:=by
 have hz:kvs.length≤sizeLine:=le_trans (le_of_lt h64) (by rw[sizeLine_eq];decide)
 refine Calls.call_function_entry kind_sorted plain_sorted entry_sorted (args_sorted1 _) ?_
 unfold Builtin.«sorted»
 refine wpAny_bind (m:=checkCount "sorted" 1 1 _) (wpAny_pure ?_)
 refine wpAny_bind (Uw hd hm hz (by simp[hh]) fun vs h1 tk hl hv hk hs=>?_)
 have hi:=hI vs hl hv
 refine wpAny_bind (wpAny_newList ?_ (by rw[hl];exact hz))
 have hoL:(h1.push (seqObj "list" vs.toArray 0)).get? h1.objs.size=some (seqObj "list" vs.toArray 0):=Heap.get?_push_size _ rfl
 show wpAny _ _ _ _ _ { s with heap:=h1.push (seqObj "list" vs.toArray 0),toks:=tk }
 refine wpAny_bind (wpAny_holding (wpAny_call_entry slot_list_sort ⟨_,hoL,rfl⟩ entry_list_sort (list_sort_treeK (s:={ s with heap:=h1.push (seqObj "list" vs.toArray 0),toks:=tk }) strKind_oneLt hoL hi.keysOf (fun v1 v2 r e=>?_) (by lia) fun st' a2 a3=>⟨_,rfl,?_⟩) (args_list_sort _)))
 ·subst e;exact keyKind_strs hi
 obtain⟨ss',b1,b2,b3⟩:=sorted_out_str hi a2 a3
 have en:=Jw b2 b3
 subst en
 obtain⟨e,he⟩:=sortedHeap_at (out:=Array.map (fun x=>x.snd) (arrOf st')) hoL
 refine wpAny_pure ⟨_,rfl,q _ _ h1.objs.size (Array.map (fun x=>x.snd) (arrOf st')).toList e (by rw[Array.toArray_toList];exact he) b1 (le_of_lt hs) fun c o hc=>?_⟩
 have hb1:=hk c o hc
 have hlt:=Heap.lt_size hb1
 rw[sortedHeap_old (ne_of_lt hlt) (by rw[size_push'];exact lt_succ_of_lt hlt)]
 exact get?_push_of_some _ hb1
end
end STW
set_option Elab.async false
set_option linter.all false
set_option maxRecDepth 100000
namespace FD
open PySem PySem.Spec PyProof.Rows L2
variable[Tabs]
omit [Tabs] in
theorem XQ(bs:List Bool):(List.range bs.length).any (fun i=>bs.getD i false)=bs.any id:=by
 rw[Bool.eq_iff_iff,any_eq_true,any_eq_true]
 constructor
 ·rintro⟨i,hi,h⟩
  have hi:=mem_range.mp hi
  exact⟨bs[i],getElem_mem hi,by simpa[getD_eq_getElem?_getD,hi] using h⟩
 ·rintro⟨x,hx,h⟩
  obtain⟨i,hi,rfl⟩:=List.mem_iff_getElem.mp hx
  exact⟨i,mem_range.mpr hi,by simpa[getD_eq_getElem?_getD,hi] using h⟩
section
variable{X:Cx}
theorem Gk(hc:X.calm=true):CallR X (.builtin "any") (fun vs H Q=>∃a ws F ds bs,vs=[.ref a]∧H a=some (.lst ws)∧Reps X.K F ds ws∧wX ds=some bs∧Q (.bl (bs.any id)) H):=by
 intro pins s σ H vs us Q I r h
 obtain⟨a,ws,F,ds,bs,rfl,e,t,hb,q⟩:=h
 obtain⟨u,rfl,r1⟩:=vals1 r
 cases r1
 obtain⟨its,rr,p,_⟩:=I.list (SqL.of (K:=X.K) e)
 have ei:=XC hb t rr
 subst ei
 have hh:X.A.in1.handled=none:=I.ok.hd hc
 have hlt:a<s.heap.objs.size:=I.hok.lt e
 refine call_any_walk (wpAny_pyIter_list p.isList ⟨s.heap.objs.size,_,_,_,_,_,fun i=>bs.getD i false,rfl,Walks.list hh s.heap.objs.size a (ne_of_lt hlt) (bs.map Value.bool).toArray,⟨⟨_,Heap.get?_push_size _ rfl,rfl,rfl⟩,p.isList.push _⟩,fun i v E' s' Q' hP hQ=>?_,fun h' tk hk=>?_⟩)
 ·have hP:(bs.map Value.bool)[i]?=some v:=by simpa using hP
  rw[getElem?_map] at hP
  cases z:bs[i]? with
  |none=>rw[z] at hP;cases hP
  |some b=>
   rw[z] at hP
   cases hP
   exact wpAny_truthy_bool (by simpa[getD_eq_getElem?_getD,z] using hQ)
 ·have en:(bs.map Value.bool).toArray.size=bs.length:=by simp
  rw[en,XQ]
  have I1:Inv X pins σ H { s with heap:=s.heap.push { cls:=.type "list_iterator", data:=.fields #[.ref a,.int 0 0] } }:=I.kept (t':=s.toks) fun b o e=>get?_push_of_some _ e
  have fk:=I.fpOk (H':=H) (le_refl s.heap.objs.size) (I.hok.fresh (le_refl _))
  refine⟨.bl (bs.any id),H,WO (s:={ s with heap:=s.heap.push { cls:=.type "list_iterator", data:=.fields #[.ref a,.int 0 0] } }) (ch:=[s.heap.objs.size]) I1 (fun b o hb e=>hk b o hb e) (fun b hb=>?_) (fun b hb=>?_),rfl,q⟩
  ·have z:b=s.heap.objs.size:=by simpa using hb
   subst z;exact fk
  ·have z:b=s.heap.objs.size:=by simpa using hb
   subst z;exact fk.1
theorem zr7(hc:X.calm=true):jJ X (.builtin "any") zf3:=⟨_,Gk hc,fun F H vs ds Q fh r h=>by
 cases ds with
 |nil=>exact h.elim
 |cons d r2=>
  cases r2 with
  |cons a b=>cases d <;> exact h.elim
  |nil=>
   cases d with
   |lst xs=>
    obtain⟨v,rfl,q⟩:=r.one
    simp only[Rep] at q;obtain⟨a,ws,rfl,e,t⟩:=q
    simp only[zf3] at h
    cases z:wX xs with
    |none=>rw[z] at h;exact h.elim
    |some bs=>rw[z] at h;exact⟨a,ws,F,xs,bs,rfl,fh _ _ e,t,z,h _ F H (Ext.refl fh) (by simp only[Rep])⟩
   |_=>exact h.elim⟩
end
noncomputable def uO(ft:FT)(fb:FS):Nat→DS→Fl
 |0,_=>.no
 |n+1,τ=>Fl.of (ft τ) fun b=>if b=true then (match fb τ with
  |.nx τ'=>uO ft fb n τ'
  |.rt d=>.rt d
  |_=>.no) else .nx τ
noncomputable def WX(ft:FT)(fb:FS):FS:=uO ft fb 64
theorem Qv{X:Cx}{pos:Pos}{c:Expr}{body:List Stmt}{ft:FT}{fb:FS}(hp:PassesOwn (model X.prog X.w) X.A X.env X.xe)(hc:PDT X c ft)(hb:Zw X body fb):PDS X (.While c body [] pos) (WX ft fb):=
 PS.imp (G6 hp hc hb) fun E σ H z_=>by
  obtain⟨B,Z,F,τ,R,h⟩:=z_
  refine⟨fun m σ H=>∃F' τ',Same F F'∧RS X.K B Z F' τ' σ H∧Post X B Z F' E (uO ft fb m τ'),⟨64,F,τ,Same.refl _,R,h⟩,?_⟩
  rintro m σ1 H1 ⟨F1,τ1,f1,R1,p1⟩
  cases m with
  |zero=>exact p1.elim
  |succ m=>
   refine⟨F1,τ1,R1.rv,?_⟩
   refine(Post.of p1).imp fun b p2 F2 H2 x2=>?_
   cases b with
   |false=>exact p2 σ1 F2 H2 x2.ff (R1.ext x2)
   |true=>
    rw[if_pos rfl] at p2 ⊢
    refine⟨fun σ' H'=>∃F' τ',Same F F'∧RS X.K B Z F' τ' σ' H'∧Post X B Z F' E (uO ft fb m τ'),fun σ' H' ⟨F',τ',a,b,c⟩=>⟨m,lt_succ_self _,F',τ',a,b,c⟩,B,Z,F2,τ1,R1.ext x2,?_⟩
    cases q:fb τ1 with
    |nx τ2=>rw[q] at p2;exact fun σ' F' H' ff RR=>⟨F',τ2,(f1.trans x2.ff).trans ff,RR,Post.same p2 (x2.ff.trans ff)⟩
    |rt d=>rw[q] at p2;exact p2
    |ct τ2=>rw[q] at p2;exact p2.elim
    |bk τ2=>rw[q] at p2;exact p2.elim
    |ro d τ2=>rw[q] at p2;exact p2.elim
    |rb d τ2=>rw[q] at p2;exact p2.elim
    |ex c=>rw[q] at p2;exact p2.elim
    |no=>rw[q] at p2;exact p2.elim
    |rs c τ2=>rw[q] at p2;exact p2.elim
noncomputable def kvT(ks:List Str):List (Key×V):=ks.map fun k=>(Sum.inr k,V.bl true)
noncomputable def vh(ks:List Str)(k:Str):List Str:=if k∈ks then ks else ks++[k]
omit [Tabs] in
theorem put_T(ks:List Str)(k:Str):ZD (kvT ks) (Sum.inr k) (V.bl true)=kvT (vh ks k):=by
 unfold ZD vh
 have e:((kvT ks).any fun kv=>decide (kv.1=Sum.inr k))=decide (k∈ks):=by
  unfold kvT
  induction ks with
  |nil=>rfl
  |cons a ks ih=>
   rw[map_cons,any_cons,ih]
   by_cases z:a=k
   ·subst z;simp
   ·have z2:¬ k=a:=fun y=>z y.symm
    simp[z,z2]
 rw[e]
 by_cases h:k∈ks
 ·rw[if_pos (by simpa using h),if_pos h]
  unfold kvT
  rw[map_map]
  refine map_congr_left fun a _=>?_
  simp only[Function.comp]
  split <;> rfl
 ·rw[if_neg (by simpa using h),if_neg h]
  unfold kvT
  rw[map_append];rfl
structure Dt(B F H:Hp)(σ:St)(i:Nat)(ks:List Str)(d:Addr):Prop where
 sl:σ[i]?=some (some (.ref d))
 db:B d=none
 df:F d=none
 dh:H d=some (.dK (kvT ks))
theorem Dt.ext{B F H F' H':Hp}{σ:St}{i:Nat}{ks:List Str}{d:Addr}(D:Dt B F H σ i ks d)(x:Ext F H F' H'):Dt B F' H' σ i ks d:=
 ⟨D.sl,D.db,Td x D.dh D.df,x.hh _ _ D.dh⟩
theorem Dt.set{B F H:Hp}{σ:St}{i k:Nat}{ks:List Str}{d:Addr}{v:Option V}(D:Dt B F H σ i ks d)(h:k≠i):Dt B F H (σ.set k v) i ks d:=
 { D with sl:=by rw[getElem?_set_ne h];exact D.sl }
noncomputable abbrev FG2:=DS→List Str→Option (DS×List Str)
noncomputable def tGd(X:Cx)(i:Nat)(f:FG2):TS:=fun E σ H=>∃B Z F τ ks d τ' ks',RS X.K B Z F τ σ H∧Vl τ∧Dt B F H σ i ks d∧f τ ks=some (τ',ks') ∧
 ∀σ' F' H',Same F F'→RS X.K B Z F' τ' σ' H'→Vl τ'→Dt B F' H' σ' i ks' d→E.nx σ' H'
noncomputable def Yg(fk:FE):FG2:=fun τ ks=>match fk τ with
 | .ok (.str k)=>if ks.length≤1000 then some (τ,vh ks k) else none
 |_=>none
omit [Tabs] in
theorem Q6{fk:FE}{τ τ':DS}{ks ks':List Str}(h:Yg fk τ ks=some (τ',ks')):∃k,fk τ=.ok (.str k)∧ks.length≤1000∧τ'=τ∧ks'=vh ks k:=by
 unfold Yg at h
 split at h
 ·rename_i k e
  split at h
  ·rename_i z
   cases h
   exact⟨k,e,z,rfl,rfl⟩
  ·cases h
 ·cases h
section
variable{X:Cx}{i r:Nat}{x y:Str}{e0 iter:Expr}{fk:FE}{fi:FA}{f:FG2}{q1 sp bp ap tp pos:Pos}{kk:Nat}{body:List Stmt}
theorem Lz(hu:X.A.units+1<cLine)(hd:PE X (.Name y q1) (XM i))(hk:PDE X e0 fk)(hsw:swapsWith (.Constant (.bool true) kk bp) (some (.Subscript (.Name y q1) e0 sp)) ap.line X.env=pure false:=by rfl) :
  PS X (.Assign [.Subscript (.Name y q1) e0 sp] (.Constant (.bool true) kk bp) ap) (tGd X i (Yg fk)):=
 PS.imp (LB hu hd hk zg7 hsw) fun E σ H h=>by
  obtain⟨B,Z,F,τ,ks,d,τ',ks',R,vl,D,hf,q⟩:=h
  obtain⟨k,z1,z2,z3,z4⟩:=Q6 hf
  subst z3;subst z4
  refine⟨_,D.sl,?_⟩
  refine tE.at R (zh1 z1 rfl) fun dd w F1 H1 g x R1 r=>?_
  subst g
  simp only[Rep] at r;subst r
  have D1:=D.ext x
  have pt:=DPut.k (k:=Sum.inr k) (v:=.bl true) D1.dh (by rw[sizeLine_eq];unfold kvT;rw[length_map];lia)
  rw[put_T] at pt
  exact⟨d,_,rfl,pt,q σ F1 _ x.ff (RS.free (o:=.dK (kvT (vh ks k))) R1 vl D1.db D1.df (.inr (.inr ⟨_,D1.dh⟩))) vl ⟨D1.sl,D1.db,D1.df,zJ⟩⟩
noncomputable def Xk(f:FG2)(r:Nat):List D→FG2
 |[],τ,ks=>some (τ,ks)
 |d::ds,τ,ks=>(f (τ.set r (some (.val d))) ks).bind fun p=>Xk f r ds p.1 p.2
noncomputable def Xl(fi:FA)(r:Nat)(f:FG2):FG2:=fun τ ks=>match fi τ with
 |.ok ds=>Xk f r ds τ ks
 |_=>none
theorem JC(hp:PassesOwn (model X.prog X.w) X.A X.env X.xe)(hc:X.calm=true)(hi:PDI X (.Name x tp) iter fi)(hN:X.N.Nodup)(hx:X.N[r]?=some x)(hlc:Loc X.env.scope x)(hri:r≠i)
  (hb:PSs X body (tGd X i f)) (hf:X.fn x=true∨X.env.scope.names.lookup x=some .local:=by first|exact .inl rfl|exact .inr rfl|assumption) (hs:∀x,foldedSetIterable iter X.env x=pure x:=by intro _;rfl) :
  PS X (.For (.Name x tp) iter body [] pos) (tGd X i (Xl fi r f)):=
 PS.imp (G7 hp hc hi (ut hN hx hlc hf) hb hs) fun E σ H h=>by
  obtain⟨B,Z,F,τ,ks,d,τe,kse,R,vl,D,hf,q⟩:=h
  unfold Xl at hf
  cases hfi:fi τ with
  |no=>rw[hfi] at hf;cases hf
  |ex c=>rw[hfi] at hf;cases hf
  |ok ds=>
   rw[hfi] at hf
   dsimp only at hf
   refine⟨F,τ,R.rv,zh1 hfi fun J F1 H1 x1 io=>?_⟩
   refine⟨fun n m σ H=>m=ds.length-n∧n≤ds.length∧∃F' τ' ks',Same F1 F'∧RS X.K B Z F' τ' σ H∧Vl τ'∧Dt B F' H σ i ks' d∧Xk f r (ds.drop n) τ' ks'=some (τe,kse),⟨ds.length,by simp,zero_le _,F1,τ,ks,Same.refl _,R.ext x1,vl,D.ext x1,hf⟩,?_⟩
   rintro n m σ2 H2 ⟨rfl,hn,F2,τ2,k2,f2,R2,v2,D2,g2⟩
   obtain⟨i1,i2⟩:=io n F2 H2 f2 R2.rv.fh
   by_cases hlt:n<ds.length
   ·have hd:ds.drop n=ds[n]::ds.drop (n+1):=drop_eq_getElem_cons hlt
    rw[hd] at g2
    obtain⟨go,yl⟩:=i2 ds[n] (by simp[hlt])
    refine .inr ⟨go,fun σ' H'=>∃F' τ' ks',Same F2 F'∧RS X.K B Z F' τ' σ' H'∧Vl τ'∧Dt B F' H' σ' i ks' d∧Xk f r (ds.drop (n+1)) τ' ks'=some (τe,kse),fun σ' H' ⟨F',τ',ks',a,b,c,t,e⟩=>⟨ds.length-(n+1),by lia,rfl,hlt,F',τ',ks',f2.trans a,b,c,t,e⟩,fun w H' yy=>?_⟩
    obtain⟨F3,x3,r3⟩:=yl w H' yy
    have R3:=(R2.ext x3).set (i:=r) r3
    have D3:=(D2.ext x3).set (v:=some w) (k:=r) hri
    unfold Xk at g2
    cases z:f (τ2.set r (some (.val ds[n]))) k2 with
    |none=>rw[z] at g2;cases g2
    |some p=>
     obtain⟨τ3,k3⟩:=p
     rw[z] at g2
     exact⟨B,Z,F3,_,k2,d,τ3,k3,R3,v2.set r _,D3,z,fun σ' F' H'' ff RR vv DD=>⟨F',τ3,k3,x3.ff.trans ff,RR,vv,DD,g2⟩⟩
   ·have e:n=ds.length:=by lia
    subst e
    rw[List.drop_length] at g2
    cases g2
    exact .inl ⟨i1 (by simp),q σ2 F2 H2 (x1.ff.trans f2) R2 v2 D2⟩
end
omit [Tabs] in
theorem GG:∀{vs:List Value} {ns:List Str},vs.length=ns.length→(∀(i:Nat) (v:Value) (n:Str),vs[i]?=some v→ns[i]?=some n→Value.isStrOf n v=true)→StrsAre vs ns:=fun {vs}=>by
 induction vs with
 |nil=>
  intro ns h k
  cases ns with
  |nil=>exact .nil
  |cons _ _=>simp at h
 |cons v vs ih=>
  intro ns h k
  cases ns with
  |nil=>simp at h
  |cons n ns=>
   obtain⟨t,rfl⟩:=Value.isStrOf_shape (k 0 v n rfl rfl)
   exact .cons n t (ih (by simpa using h) fun i u m h1 h2=>k (i+1) u m (by simpa using h1) (by simpa using h2))
omit [Tabs] in
theorem Vw:∀{vs:List Value} {ns:List Str},StrsAre vs ns→Vals (ns.map V.str) vs:=fun {vs ns} h=>by
 induction h with
 |nil=>exact .nil
 |cons y t _ ih=>exact .cons ⟨t,rfl⟩ ih
noncomputable def zk0(vs:List V)(H:Hp)(Q:VK):Prop:=∃d ks,vs=[.ref d]∧H d=some (.dK (kvT ks))∧ks.length<64∧∀p,H p=none→Q (.ref p) (upd H p (.lst ((STW.srtS ks).map V.str)))
theorem Jk{X:Cx}(hc:X.calm=true):CallR X (.builtin "sorted") zk0:=by
 rintro pins s σ H vs us Q I r ⟨d,ks,e1,e2,h64,q⟩
 subst e1
 obtain⟨u,rfl,ru⟩:=Vals.one r
 cases ru
 obtain⟨z,hd,ws,rel,dd⟩:=zi2 I.hok e2
 obtain⟨ep,da⟩:=dd.dictAt
 have kk':ws.map (·.1)=ks.map Sum.inr:=by
  rw[zb5 rel];unfold kvT;rw[map_map];rfl
 have wl:ws.length=ks.length:=by have:=congrArg List.length kk';simpa using this
 refine STW.sortDictS (ss:=ks) hd da (by lia) (I.ok.hd hc) (fun vs hl hv=>GG (by lia) fun i v n hi hn=>?_) fun h' tk a out e he ho hsz hk=>?_
 ·obtain⟨k,x,hkx,his⟩:=hv i v hi
  have:(ws.map (·.1))[i]?=some k:=by rw[getElem?_map,hkx];rfl
  rw[kk',getElem?_map,hn] at this
  cases this
  exact his
 ·have ll:((STW.srtS ks).map V.str).length≤sizeLine:=by
   rw[length_map,(STW.srtS_perm ks).length_eq]
   exact le_of_lt (xc (by lia))
  exact⟨.ref a,_,I.laid (t':=tk) (o:=.lst ((STW.srtS ks).map V.str)) hk hsz ⟨ll,out,e,Vw ho,he⟩,rfl,q a (I.hok.fresh hsz)⟩
theorem Reps.strs{K:Frag}{F:Hp}(ks:List Str):Reps K F (ks.map D.str) (ks.map V.str):=by
 induction ks with
 |nil=>exact Reps.nil
 |cons k ks ih=>exact Reps.cons (by simp only[Rep]) ih
noncomputable def Zz(i:Nat)(f:FG2):FS:=fun τ=>if vlB τ=true∧i<τ.length then match f (τ.set i none) [] with
 |some p=>if p.2.length<64 then .rt (.lst ((STW.srtS p.2).map D.str)) else .no
 |none=>.no
 else .no
section
variable{X:Cx}{i r:Nat}{x y sx:Str}{iter:Expr}{f:FG2}{st:Stmt}{yp dp a1 rp p1 pos pp:Pos}
theorem UV(hN:X.N.Nodup)(hc:X.calm=true)(hy:X.N[i]?=some y)(hly:Loc X.env.scope y)(hb:PS X st (tGd X i f))
  (hg:Gl X sx) (hm:X.mg sx=none) (hv:bootBuiltins sx=some (.builtin "sorted")) (hpy:PE X (.Name y p1) (XM i))
  (hn:sx ≠ "__name__" := by decide) (hdb:(sx==("__debug__" : Str))=false:=by decide)
  (he:starEach [.Name y p1] X.env=(false,eval (.Name y p1) X.env)::starEach [] X.env:=by rfl) (hpl:(backTo pos (starEach [] X.env)).any (·.1)=false:=by rfl)
  (hsw:swapsWith (.Dict [] [] dp) (some (.Name y yp)) a1.line X.env=pure false:=by rfl) (hfy:X.fn y=true∨X.env.scope.names.lookup y=some .local:=by first|exact .inl rfl|exact .inr rfl|assumption) :
  Zw X [.Assign [.Name y yp] (.Dict [] [] dp) a1,st,.Return (some (.Call (.Name sx pp) [.Name y p1] [] pos)) rp] (Zz i f):=
 PSs.imp (YL (UT (i:=i) hN hy hly Me hsw hfy) (YL hb (Yk (UU (L2.pe_callB (Jk hc) hg hm hv (Yq hpy W5 (by rw[he])) hn hdb he hpl))))) fun E σ H h=>by
  obtain⟨B,Z,F,τ,R,h⟩:=h
  unfold Zz at h
  by_cases z:vlB τ=true∧i<τ.length
  ·rw[if_pos z] at h
   obtain⟨z1,z3⟩:=z
   have vl:=zi6 z1
   intro p hp'
   have bp:B p=none:=zn1 R.bh hp'
   have fp':F p=none:=zn0 R.rv.fh hp'
   obtain⟨R1,v1⟩:=RS.drop (i:=i) (v:=some (.ref p)) (RS.free (o:=.dK []) R vl bp fp' (.inl hp')) vl
   cases q:f (τ.set i none) [] with
   |none=>rw[q] at h;exact h.elim
   |some pr=>
    obtain⟨τ',ks⟩:=pr
    rw[q] at h
    dsimp only at h
    by_cases z5:ks.length<64
    ·rw[if_pos z5] at h
     refine⟨B,Z,F,τ.set i none,[],p,τ',ks,R1,v1,⟨?_,bp,fp',zJ⟩,q,fun σ' F' H' ff R' v' D'=>?_⟩
     ·rw[getElem?_set_self (by rw[← R.rv.len];exact z3)]
     ·refine⟨_,D'.sl,p,ks,rfl,D'.dh,z5,fun a ha=>?_⟩
      have x:=Ext.new (o:=.lst ((STW.srtS ks).map V.str)) R'.rv.fh ha
      exact h _ _ _ (R'.ext x).out (by simp only[Rep];exact⟨_,_,rfl,zJ,Reps.strs _⟩)
    ·rw[if_neg z5] at h;exact h.elim
  ·rw[if_neg z] at h;exact h.elim
end
end FD
set_option Elab.async false
set_option linter.all false
set_option maxRecDepth 100000
namespace STW
open PySem PyProof.Rows
noncomputable def UB(ks:List Str)(k:Str):List Str:=if ks.any (· == k) then ks else ks++[k]
noncomputable def fmT(val:Nat→Str):Nat→List Str
 |0=>[]
 |n+1=>UB (fmT val n) (val n)
theorem Ta(val:Nat→Str):fmT val 0=[]:=rfl
theorem jc(val:Nat→Str)(i:Nat):fmT val (i+1)=UB (fmT val i) (val i):=rfl
theorem j0(ks:List Str)(k:Str):(UB ks k).length=if ks.any (· == k) then ks.length else ks.length+1:=by
 unfold UB;split <;> simp
theorem Qi(ks:List Str)(k k':Str):(UB ks k).any (· == k')=(ks.any (· == k')||decide (k'=k)):=by
 unfold UB
 split
 ·rename_i h
  by_cases e:k'=k
  ·subst e;rw[h];rfl
  ·simp[e]
 ·rw[List.any_append]
  congr 1
  by_cases e:k'=k
  ·subst e;simp
  ·have e2:¬ k=k':=fun z=>e z.symm
   simp[e,e2]
theorem fmT_le(val:Nat→Str)(n:Nat):(fmT val n).length≤n:=by
 induction n with
 |zero=>exact le_refl _
 |succ n ih=>rw[jc,j0];split <;> lia
theorem T8{vs:List Value}{ns:List Str}(h:StrsAre vs ns):∀(i:Nat) (v:Value),vs[i]?=some v→∃t,v=.str (ns.getD i "") t:=by
 induction h with
 |nil=>intro i v e;simp at e
 |cons y t _ ih=>
  intro i v e
  cases i with
  |zero=>simp at e;subst e;exact⟨t,rfl⟩
  |succ i=>simpa using ih i v (by simpa using e)
section
variable{prog:Program}{w:World}{A:Around}{R:Result→Shared→Prop}{I:Addr}{fp wr:List Addr}{G:Array GenState→Array GenState→Prop}{n:Nat}{P:Nat→Value→Prop}{St:Nat→Shared→Prop}{L:Bool}
theorem Gq(W:WalksS prog w A.in1 I fp wr G n P St)(Z:Addr)(hZ:Z∉fp)(val:Nat→Str)(hval:∀i v,P i v→∃t,v=.str (val i) t)(hb:n+1<scanBound) :
  ∀(k i:Nat) (s:Shared),n-i=k→i≤n→St i s→SetT (strKind prog w) L s.heap Z (fun k'=>(fmT val i).any (· == k')) (fmT val i).length →
   (∀s',Moved (Z::wr) G s s'→SetT (strKind prog w) L s'.heap Z (fun k'=>(fmT val n).any (· == k')) (fmT val n).length→R (.ok (.ret .none)) s') →
   codeAny (model prog w) A (.builtin "set.update.loop" ⟨[.ref Z,.ref I],[]⟩) R s:=by
 have hw:Z∉wr:=fun h=>hZ (W.sub _ h)
 have up:∀b∈wr,b∈Z::wr:=fun b h=>mem_cons_of_mem _ h
 intro k
 induction k with
 |zero=>
  intro i s hk hi hst hS hR
  obtain rfl:i=n:=by lia
  refine codeAny_builtin PyProof.Rows.F.entry_set_update_loop ?_
  rw[Around.under_plainId PyProof.Rows.F.plain_set_update_loop _]
  show wpAny _ A.in1 (pyNext (.ref I) >>= _) _ _ s;refine wpAny_bind (W.done s _ _ hst fun s' hm=>?_)
  exact wpAny_pure (hR s' (hm.mono up) (hS.at fun o e=>hm.heap Z _ hw e))
 |succ k ih=>
  intro i s hk hi hst hS hR
  refine codeAny_builtin PyProof.Rows.F.entry_set_update_loop ?_
  rw[Around.under_plainId PyProof.Rows.F.plain_set_update_loop _]
  show wpAny _ A.in1 (pyNext (.ref I) >>= _) _ _ s;refine wpAny_bind (W.item i s _ _ (by lia) hst fun v s' hP hst' hm=>?_)
  obtain⟨t,rfl⟩:=hval i v hP
  have hS1:=hS.at (h':=s'.heap) fun o e=>hm.heap Z _ hw e
  show wpAny _ A.in1 (holding [Value.str (val i) t] (setAdd Z (.str (val i) t)) >>= _) _ _ s';refine wpAny_bind (wpAny_holding ?_)
  unfold setAdd
  refine wpAny_holding (wpAny_bind ((strKind prog w).pyHash (k:=val i) (strKind_is _ _ _ _) ?_))
  have room:(fmT val i).length+1<scanBound:=by have:=fmT_le val i;lia
  refine addOk (knd:=strKind prog w) (s:={ s' with toks:=s'.toks+1 }) (strKind_is _ _ _ _) rfl hS1 room fun h' sb hS2=>?_
  have hS3:=hS2.congr (S':=fun k'=>(fmT val (i+1)).any (· == k')) (n':=(fmT val (i+1)).length) (fun k'=>by rw[jc,Qi]) (by rw[jc,j0])
  refine wpAny_pure ⟨plainId_quiet PyProof.Rows.F.plain_set_update_loop _,ih (i+1) _ (by lia) (by lia) (W.frame _ s' _ _ hst' (le_succ _) fun b hb o e=>?_) hS3 fun s'' hm'' hS''=>?_⟩
  ·rw[sb.2 b (fun h:b=Z=>hZ (by rw[← h];exact hb))];exact e
  ·refine hR s'' (Moved.trans W.gtrans ((hm.mono up).then_heap (le_succ _) fun b o hb e=>?_) hm'') hS''
   rw[sb.2 b (fun h:b=Z=>hb (by rw[h];exact mem_cons_self))];exact e
end
section
variable{prog:Program}{w:World}{A:Around}{E:Value→Shared→Prop}{s:Shared}
noncomputable abbrev fmS(ns:List Str)(n:Nat):List Str:=fmT (fun i=>ns.getD i "") n
noncomputable def AftS(prog:Program)(w:World)(s:Shared)(ns:List Str)(n:Nat)(r:Value)(s2:Shared):Prop:=
 r=.none∧∃h' tk,s2 = { s with heap:=h',toks:=tk }∧SetT (strKind prog w) (uK w) h' s.heap.objs.size (fun k=>(fmS ns n).any (· == k)) (fmS ns n).length∧∀b o,b<s.heap.objs.size→s.heap.get? b=some o→h'.get? b=some o
set_option maxRecDepth 100000 in
set_option maxHeartbeats 3200000 in
theorem callSetS{l:Addr}{items:Array Value}{ns:List Str}{Q:Value→Shared→Prop}(hh:A.handled=none)(hl:s.heap.IsList l items)(hi:StrsAre items.toList ns)(hb:items.size+1<scanBound)
  (h:∀(h':Heap) (tk:Nat),SetT (strKind prog w) (uK w) h' s.heap.objs.size (fun k=>(fmS ns items.size).any (· == k)) (fmS ns items.size).length→(∀b o,b<s.heap.objs.size→s.heap.get? b=some o→h'.get? b=some o)→Q (.ref s.heap.objs.size) { s with heap:=h',toks:=tk }) :
  wpAny (model prog w) A (call (.type "set") [.ref l]) Q E s:=by
 obtain⟨c,tl,hmro⟩:=PySem.F.called_set.mro;have hmade:=PySem.F.called_set.made;have hsub:=PySem.F.called_set.sub
 refine wpAny_call (codeAny_of_tree ?_);show wpAny _ _ (callAny (.type "set") _) _ _ _
 refine wpAny_pure ⟨Code.quiet_builtin _ (by decide +kernel),codeAny_builtin F.entry_type_call ?_⟩;rw[Around.under_plain (weight_type_call_type "set" [.ref l] []) rfl]
 have h1:=PySem.F.called_set.notType;have h2:=PySem.F.called_set.canCreate;have hct:=PySem.F.typeCall_set_1 (.ref l)
 repeat (any_goals (first|assumption|wp_step))
 refine codeAny_mono (newT (.ref l) (E:=E) (Q₁:=fun obj s1=>obj=.ref s.heap.objs.size∧s1 = { s with heap:=s.heap.push (vY (uK w)) }) ⟨rfl,rfl⟩) fun r s1 hr=>?_
 cases r with
 |error e=>exact hr
 |ok fl=>
  cases fl with
  |ret obj=>
   obtain⟨rfl,rfl⟩:=hr
   generalize hled:uK w=led at h
   have hS:(s.heap.push (vY led)).get? s.heap.objs.size=some (vY led):=Heap.get?_push_size _ rfl
   have hT:Shared.TypeIs { s with heap:=s.heap.push (vY led) } (.ref s.heap.objs.size) "set" := ⟨_,hS,rfl⟩
   have hli:=PySem.F.called_set.init.lookup;have hbi:=PySem.F.called_set.init.bind (.ref s.heap.objs.size)
   repeat (any_goals (first|assumption|wp_step))
   refine codeAny_mono (codeAny_call_builtin (R:=wants (AftS prog w s ns items.size) E) PySem.F.called_set.init.plain PySem.F.entry_set_init (check_set_init_1 hT ?_)) fun r2 s2 hr2=>?_
   ·obtain⟨ol,hol,hcl,nl,hdl⟩:=hl
    obtain⟨ocls,odict,odata,oslots⟩:=ol
    simp only at hcl hdl;subst hcl;subst hdl
    have hol':(s.heap.push (vY led)).get? l=some { cls:=.type "list", dict:=odict,data:=.seq items nl,slots:=oslots }:=get?_push_of_some _ hol
    have hsls:=PySem.F.sub_list_set;have hslf:=PySem.F.sub_list_frozenset
    have hne:(Value.type "list" == Value.type "dict")=false:=by decide
    have hl1:(s.heap.push (vY led)).IsList l items:=⟨_,hol',rfl,nl,rfl⟩
    unfold Builtin.«set.__init__» noKeywords Builtin.Frozenset.updateFrom;generalize hPI:pyIter=PI
    wp_walk
    subst hPI
    refine wpAny_pyIter_list hl1 (wpAny_bind (wpAny_runValue ?_))
    have hlS:l<s.heap.objs.size:=Heap.lt_size hol
    have hh3:A.in1.in1.in1.handled=none:=by simp[hh]
    have es:(s.heap.push (vY led)).objs.size=s.heap.objs.size+1:=Heap.size_push _ _
    have hneI:l≠(s.heap.push (vY led)).objs.size:=by rw[es];exact ne_of_lt (lt_succ_of_lt hlS)
    have hSf:s.heap.objs.size∉[(s.heap.push (vY led)).objs.size,l]:=by
     rw[es];simp only[mem_cons,not_mem_nil,or_false,not_or];exact⟨ne_of_lt (lt_succ_self _),ne_of_gt hlS⟩
    have hval:∀(i:Nat) (v:Value),items[i]?=some v→∃t,v=.str ((fun i=>ns.getD i "") i) t:=fun i v hv=>T8 hi i v (by rw[getElem?_toList];exact hv)
    refine Gq (L:=led) ((Walks.list hh3 _ l hneI items).toS) s.heap.objs.size hSf (fun i=>ns.getD i "") hval hb (items.size-0) 0 _ (by lia) (zero_le _) ⟨⟨_,Heap.get?_push_size _ rfl,rfl,rfl⟩,(hl1.push _)⟩ ?hS0 ?hR
    case hS0=>
     refine⟨vY led,#[],0,.fresh 0 0 led,get?_push_of_some _ hS,⟨rfl,rfl,rfl⟩,rfl,fun e he=>by simp at he,fun k=>by simp[Ta],by decide,by rfl,rfl,rfl,rfl,List.Pairwise.nil⟩
    case hR=>
     intro s' hm hS'
     obtain⟨h',g',d',tk',os'⟩:=s'
     have eg:g'=s.gens:=hm.gens;have ed:d'=s.drawn:=hm.drawn;have eo:os'=s.os:=hm.os
     subst eg;subst ed;subst eo
     show wpAny _ _ _ _ _ _;refine wpAny_pure ?_;show wpAny _ _ (ret Value.none) _ _ _
     refine wpAny_pure ⟨rfl,h',tk',rfl,by rw[hled];exact hS',fun b o hb e=>hm.heap b o ?_ (get?_push_of_some _ (get?_push_of_some _ e))⟩
     rw[es];simp only[mem_cons,not_mem_nil,or_false,not_or];exact⟨ne_of_lt hb,ne_of_lt (lt_succ_of_lt hb)⟩
   ·cases r2 with
    |error e=>exact hr2
    |ok fl2=>
     cases fl2 with
     |ret r=>
      obtain⟨rfl,h',tk,rfl,hS',hk'⟩:=hr2
      rw[hled] at hS'
      repeat (any_goals (first|assumption|wp_step))
      exact h _ _ hS' hk'
     |_=>exact hr2.elim
  |_=>exact hr.elim
end
theorem fmT_nodup(val:Nat→Str)(n:Nat):(fmT val n).Nodup:=by
 induction n with
 |zero=>exact List.nodup_nil
 |succ n ih=>
  rw[jc];unfold UB
  split
  ·exact ih
  ·rename_i h
   have h:val n∉fmT val n:=fun q=>h (any_eq_true.mpr ⟨_,q,by simp⟩)
   exact List.nodup_append.mpr ⟨ih,by simp,fun x hx y hy=>by have:=mem_singleton.mp hy;subst this;exact fun e=>h (e ▸ hx)⟩
theorem zd2(val:Nat→Str)(x:Str)(n:Nat):x∈fmT val n↔∃i,i<n∧val i=x:=by
 induction n with
 |zero=>simp[fmT]
 |succ n ih=>
  rw[jc];unfold UB
  split
  ·rename_i h
   rw[ih]
   constructor
   ·rintro⟨i,a,b⟩;exact⟨i,by lia,b⟩
   ·rintro⟨i,a,b⟩
    rcases Nat.lt_or_eq_of_le (Nat.le_of_lt_succ a) with z|z
    ·exact⟨i,z,b⟩
    ·subst z
     obtain⟨y,hy,e⟩:=any_eq_true.mp h
     have e:y=val i:=by simpa using e
     rw[e,b] at hy
     exact ih.mp hy
  ·rw[mem_append,ih,mem_singleton]
   constructor
   ·rintro (⟨i,a,b⟩|e)
    ·exact⟨i,by lia,b⟩
    ·exact⟨n,lt_succ_self _,e.symm⟩
   ·rintro⟨i,a,b⟩
    rcases Nat.lt_or_eq_of_le (Nat.le_of_lt_succ a) with z|z
    ·exact .inl ⟨i,z,b⟩
    ·subst z;exact .inr b.symm
theorem fmS_mem(ns:List Str)(x:Str):x∈fmS ns ns.length↔x∈ns:=by
 unfold fmS
 rw[zd2]
 constructor
 ·rintro⟨i,a,rfl⟩
  have:ns.getD i "" = ns[i]:=by simp[a]
  rw[this];exact getElem_mem a
 ·intro h
  obtain⟨i,a,rfl⟩:=List.mem_iff_getElem.mp h
  exact⟨i,a,by simp[a]⟩
theorem Ju:∀{vs:List Value},(∀v∈vs,∃k t,v=Value.str k t)→∃ns,StrsAre vs ns:=fun {vs}=>by
 induction vs with
 |nil=>intro _;exact⟨[],.nil⟩
 |cons v vs ih=>
  intro h
  obtain⟨k,t,rfl⟩:=h v mem_cons_self
  obtain⟨ns,hn⟩:=ih fun v hv=>h v (mem_cons_of_mem _ hv)
  exact⟨k::ns,.cons k t hn⟩
theorem GF{vs:List Value}{ns:List Str}(h:StrsAre vs ns)(x:Str):x∈ns↔∃t,Value.str x t∈vs:=by
 induction h with
 |nil=>simp
 |cons y t _ ih=>
  rw[mem_cons,ih]
  constructor
  ·rintro (rfl|⟨u,hu⟩)
   ·exact⟨t,mem_cons_self⟩
   ·exact⟨u,mem_cons_of_mem _ hu⟩
  ·rintro⟨u,hu⟩
   rcases mem_cons.mp hu with e|e
   ·cases e;exact .inl rfl
   ·exact .inr ⟨u,e⟩
theorem strs_map{vs:List Value}{ns:List Str}(h:StrsAre vs ns):ns=vs.map strOf:=h.strs.symm
theorem Qh{vs us:List Value}{ns:List Str}(h:StrsAre vs ns)(p:us.Perm vs):∃ms,StrsAre us ms∧ms.Perm ns:=by
 obtain⟨ms,hm⟩:=Ju (vs:=us) fun v hv=>h.all v (p.mem_iff.mp hv)
 refine⟨ms,hm,?_⟩
 rw[strs_map hm,strs_map h];exact p.map _
theorem Ma:∀{m l:List Str},m.Nodup→(∀x,x∈m→x∈l)→l.length≤m.length→m.Perm l:=fun {m}=>by
 induction m with
 |nil=>intro l _ _ h;rw[List.length_eq_zero_iff.mp (Nat.le_zero.mp h)]
 |cons a m ih=>
  intro l hn hs h
  have h':=nodup_cons.mp hn
  have ha:=hs a mem_cons_self
  refine((ih (l:=l.erase a) h'.2 (fun x hx=>?_) ?_).cons a).trans (List.perm_cons_erase ha).symm
  ·exact(List.mem_erase_of_ne (fun e:x=a=>h'.1 (by rw[← e];exact hx))).mpr (hs x (mem_cons_of_mem _ hx))
  ·rw[List.length_erase_of_mem ha];simp only[length_cons] at h;lia
section
variable{prog:Program}{w:World}{A:Around}{E:Value→Shared→Prop}{s:Shared}{a:Addr}{ns:List Str}{n:Nat}
theorem GS{h:Heap}(hS:SetT (strKind prog w) (uK w) h a (fun k=>(fmS ns ns.length).any (· == k)) (fmS ns ns.length).length) :
  ∃es ep t,SetAt h a es ep t∧TT (uK w) t∧es.size<scanBound∧∃ms,StrsAre (es.toList.map (·.2)) ms∧ms.Perm (fmS ns ns.length):=by
 obtain⟨o,es,ep,t,ho,hx,hd,hel,hmem,hb,hf,hn,hT⟩:=hS
 refine⟨es,ep,t,⟨⟨o,ho,hx,hd⟩,hf⟩,hT,hb,?_⟩
 have isS:∀(k:Str) (v:Value),(strKind prog w).is k v=true→∃t,v=Value.str k t:=fun k v h=>Value.isStrOf_shape h
 obtain⟨ms,hm⟩:=Ju (vs:=es.toList.map (·.2)) fun v hv=>by
  obtain⟨e,he,rfl⟩:=mem_map.mp hv
  obtain⟨⟨k,hk,_⟩,_⟩:=hel e he
  obtain⟨t,e⟩:=isS k _ hk
  exact⟨k,t,e⟩
 refine⟨ms,hm,?_⟩
 have mem:∀x,x∈fmS ns ns.length→x∈ms:=fun x hx=>by
  have:=(hmem x).mp (any_eq_true.mpr ⟨x,hx,by simp⟩)
  obtain⟨e,he,hk⟩:=this
  obtain⟨t,z⟩:=isS x _ hk
  exact(GF hm x).mpr ⟨t,by rw[← z];exact mem_map_of_mem he⟩
 have hl:ms.length=es.size:=by
  have:=congrArg List.length (strs_map hm)
  simpa using this
 exact(Ma (fmT_nodup _ _) mem (by rw[hl,hn];exact le_refl _)).symm
theorem sortSetS(hh:A.handled=none)(hS:SetT (strKind prog w) (uK w) s.heap a (fun k=>(fmS ns ns.length).any (· == k)) (fmS ns ns.length).length)(h64:ns.length<64){Q:Value→Shared→Prop}
  (q:∀h' d' tk b (out:List Value) e,h'.get? b=some (seqObj "list" out.toArray e)→StrsAre out (srtS (fmS ns ns.length))→s.heap.objs.size≤b→(∀b o,s.heap.get? b=some o→h'.get? b=some o)→Q (.ref b) { s with heap:=h',drawn:=d',toks:=tk }) :
  wpAny (model prog w) A (call (.builtin "sorted") [.ref a]) Q E s:=by
 obtain⟨es,ep,t,hA,hT,hb,ms,hm,hp⟩:=GS hS
 refine Calls.call_function_entry kind_sorted plain_sorted entry_sorted (args_sorted1 _) ?_
 unfold Builtin.«sorted»
 refine wpAny_bind (m:=checkCount "sorted" 1 1 _) (wpAny_pure ?_)
 refine wpAny_bind (Jj hA hT hb (by simp[hh]) fun ord h1 d' tk po hk hz=>?_)
 obtain⟨ms',hm',hp'⟩:=Qh hm po
 have hl:ord.length<64:=by
  have e1:=congrArg List.length (strs_map hm');have e2:=(hp'.trans hp).length_eq;have e3:=fmT_le (fun i=>ns.getD i "") ns.length
  have e2':ms'.length=(fmT (fun i=>ns.getD i "") ns.length).length:=e2
  rw[length_map] at e1
  lia
 refine wpAny_bind (wpAny_newList ?_ (fits_of_scanBound (by rw[po.length_eq,length_map,length_toList];exact hb)))
 have hoL:(h1.push (seqObj "list" ord.toArray 0)).get? h1.objs.size=some (seqObj "list" ord.toArray 0):=Heap.get?_push_size _ rfl
 show wpAny _ _ _ _ _ { s with heap:=h1.push (seqObj "list" ord.toArray 0),drawn:=d',toks:=tk }
 refine wpAny_bind (wpAny_holding (wpAny_call_entry slot_list_sort ⟨_,hoL,rfl⟩ entry_list_sort (list_sort_treeK (s:={ s with heap:=h1.push (seqObj "list" ord.toArray 0),drawn:=d',toks:=tk }) strKind_oneLt hoL hm'.keysOf (fun v1 v2 r e=>?_) hl fun st' a2 a3=>⟨_,rfl,?_⟩) (args_list_sort _)))
 ·subst e;exact keyKind_strs hm'
 obtain⟨ss',b1,b2,b3⟩:=sorted_out_str hm' a2 a3
 have en:ss'=srtS (fmS ns ns.length):=Jw (b2.trans (hp'.trans hp)) b3
 subst en
 obtain⟨e,he⟩:=sortedHeap_at (out:=Array.map (fun x=>x.snd) (arrOf st')) hoL
 refine wpAny_pure ⟨_,rfl,q _ _ _ h1.objs.size (Array.map (fun x=>x.snd) (arrOf st')).toList e (by rw[Array.toArray_toList];exact he) b1 (le_of_lt hz) fun b o hb=>?_⟩
 have hb1:=hk b o hb
 have hlt:=Heap.lt_size hb1
 rw[sortedHeap_old (ne_of_lt hlt) (by rw[size_push'];exact lt_succ_of_lt hlt)]
 exact get?_push_of_some _ hb1
end
end STW
set_option Elab.async false
set_option linter.all false
set_option maxRecDepth 100000
namespace FD
open PySem PySem.Spec PyProof.Rows L2
variable[Tabs]
noncomputable def UO:List D→Rs (List D)
 |[.lst ds]=>match uk ds with
  |some ns=>if ns.length<64 then .ok ((STW.srtS (STW.fmS ns ns.length)).map D.str) else .no
  |none=>.no
 |_=>.no
section
variable{X:Cx}{e:Expr}{pos:Pos}{fs:FA}
theorem W4{p p2 pos2:Pos}(hc:X.calm=true)(hl:Gl X "sorted")(hml:X.mg "sorted" = none)(hg:Gl X "set")(hm:X.mg "set" = none)(ha:PDA X [e] fs)(hs:starEach [e] X.env=[(false,eval e X.env)]:=by rfl)
  (he:starEach [.Call (.Name "set" p2) [e] [] pos2] X.env=(false,eval (.Call (.Name "set" p2) [e] [] pos2) X.env)::starEach [] X.env:=by rfl) (hpl:(backTo pos (starEach [] X.env)).any (·.1)=false:=by rfl) :
  PDF X (.Call (.Name "sorted" p) [.Call (.Name "set" p2) [e] [] pos2] [] pos) (fun τ=>(fs τ).bind UO):=by
 rintro pins s σ H Q I ⟨F,τ,R,h⟩
 refine wpAny_Call_Name_kw (uB I hl hml boot_sorted ?_)
 refine PyProof.Rows.callWith_builtin1 ?_ he hpl
 rw[he]
 show wpAny _ _ (spliced ((false,eval (.Call (.Name "set" p2) [e] [] pos2) X.env)::backTo pos (starEach [] X.env))) _ _ s
 refine Calls.spliced_cons ?_
 have h:=h.bind
 generalize hG:(fun ds=>Ok X (UO ds) fun ds=>∀(p:Addr) (vs:List V) (F' H':Hp),Ext F H F' H'→H' p=none→Reps X.K F' ds vs→Q (V.ref p) (upd H' p (HO.lst vs)))=G at h
 refine Call_ (uB I hg hm boot_set (PyProof.Rows.callWith_type1 (thn (ha pos2 pins s σ H (fun vs H1=>∃ds F1,G ds∧Ext F H F1 H1∧RV X.K F1 τ σ H1∧Reps X.K F1 ds vs) I (tAs.of R h fun ds vs F1 H1 g x R1 r=>⟨ds,F1,g,x,R1,r⟩)) fun us s1 z_=>?_) hs rfl))
 obtain⟨vs,H1,I1,r1,ds,F1,g,x,R1,r⟩:=z_
 subst hG
 obtain⟨ds',ns,e1,hns,h64,gq⟩:∃(ds':List D) (ns:List Str),ds=[.lst ds']∧uk ds'=some ns∧ns.length<64∧∀(p:Addr) (vs:List V) (F' H':Hp),Ext F H F' H'→H' p=none→Reps X.K F' ((STW.srtS (STW.fmS ns ns.length)).map D.str) vs→Q (V.ref p) (upd H' p (HO.lst vs)):=by
  unfold UO at g
  split at g
  ·rename_i ds'
   cases q:uk ds' with
   |none=>rw[q] at g;exact g.elim
   |some ns=>
    rw[q] at g
    obtain⟨z,g⟩:=y7 g
    exact⟨ds',ns,rfl,q,z,g⟩
  ·exact g.elim
 subst e1
 obtain⟨v,rfl,r2⟩:=r.one
 simp only[Rep] at r2
 obtain⟨l,ws,rfl,e1,t⟩:=r2
 cases r1 with
 |cons ra rr=>
  cases rr;cases ra
  obtain⟨its,rv,⟨o,nn,eo,hcl,hd0,hd⟩,hz⟩:=I1.list (SqL.of (K:=X.K) (R1.fh _ _ e1))
  have hi:StrsAre its ns:=X7 hns t rv
  have hlen:its.length=ns.length:=by have:=congrArg List.length hi.strs;simpa using this
  refine STW.callSetS (I1.ok.hd hc) ⟨o,eo,hcl,nn,hd⟩ (by simpa using hi) (by rw[size_toArray,hlen];exact Nat.lt_of_le_of_lt (Nat.succ_le_of_lt h64) (by decide)) fun h' tk hS hk=>?_
  have hlen':its.toArray.size=ns.length:=by simpa using hlen
  rw[hlen'] at hS
  refine Calls.spliced_nil ?_
  refine STW.sortSetS (s:={ s1 with heap:=h',toks:=tk }) (I1.ok.hd hc) hS h64 fun h2 d2 tk2 b out ep hb ho hsz hk2=>?_
  have kk:∀c u,s1.heap.get? c=some u→h2.get? c=some u:=fun c u q=>hk2 c u (hk c u (Heap.lt_size q) q)
  have hp:s1.heap.objs.size≤b:=by
   obtain⟨o2,_,_,_,ho2,_⟩:=hS
   exact le_trans (le_of_lt (Heap.lt_size ho2)) hsz
  have I2:=QZ d2 I1
  have nH:H1 b=none:=I1.hok.fresh hp
  have ll:((STW.srtS (STW.fmS ns ns.length)).map V.str).length≤sizeLine:=by
   rw[length_map,(STW.srtS_perm _).length_eq]
   exact le_of_lt (xc (by have:=STW.fmT_le (fun i=>ns.getD i "") ns.length;show(STW.fmT _ _).length≤_;lia))
  exact⟨.ref b,_,I2.laid (t':=tk2) (o:=.lst ((STW.srtS (STW.fmS ns ns.length)).map V.str)) kk hp ⟨ll,out,ep,Vw ho,hb⟩,rfl,gq b _ F1 H1 x nH (Reps.strs _)⟩
end
end FD
set_option Elab.async false
set_option linter.all false
set_option maxRecDepth 100000
namespace STW
open PySem PyProof.Rows
section
variable{prog:Program}{w:World}{K:Type}[DecidableEq K]{knd:KeyKind prog w K}{A:Around}{E:Value→Shared→Prop}{s:Shared}{d:Addr}{kvs:List (K×Value)}{ep:Nat}
end
end STW
set_option Elab.async false
set_option linter.all false
set_option maxRecDepth 100000
namespace FD
open PySem PySem.Spec PyProof.Rows L2
noncomputable def Wz:D→Option Key
 |.int i=>some (.inl i)
 |.str x=>some (.inr x)
 |_=>none
theorem zb6{K:Frag}{F:Hp}{d:D}{k:Key}{v:V}(h:Wz d=some k)(r:Rep K F d v):v=kV k:=by
 cases d <;> first|cases h|skip
 all_goals (simp only[Rep] at r;subst r;rfl)
variable[Tabs]
section
variable{X:Cx}{pos apos cpos:Pos}{e o f tg:Expr}{fe fo ff:FE}
end
noncomputable abbrev SI:=List (Str×Int)
noncomputable abbrev FG3:=DS→SI→Option (DS×SI)
section
variable{X:Cx}{i r:Nat}{x y:Str}{e0 e0' ev iter:Expr}{fk fv:FE}{fi:FA}{f:FG3}{q1 q2 sp bp ap tp pos gp gc c0 c1 cp ip:Pos}{k0 k1:Nat}{body:List Stmt}
end
section
variable{X:Cx}{i:Nat}{y:Str}{f:FG3}{st:Stmt}{yp dp a1 rp p1:Pos}
end
section
variable{X:Cx}{pos p1 p2:Pos}{k1 k2:Nat}{x:Str}{n:Int}
end
theorem XG(bt:Nat→Nat→Bool):∀k,argBest bt k≤k:=fun k=>by
 induction k with
 |zero=>exact le_refl _
 |succ k ih=>unfold argBest;split <;> lia
noncomputable def zt1(prog:Program)(w:World)(A:Around)(P:Nat→Value→Prop)(bt:Nat→Nat→Bool)(Ph:Heap→Prop):Prop:=
 ∀i j vi vj (s:Shared) (Q:Value→Shared→Prop) (E:Value→Shared→Prop),j<i→Ph s.heap→P i vi→P j vj→Q (.bool (bt i j)) s→wpAny (model prog w) A (richCompare .Lt vi vj) Q E s
section
variable{prog:Program}{w:World}{A:Around}{R:Result→Shared→Prop}{E:Value→Shared→Prop}{I S:Addr}{fp wr:List Addr}{n:Nat}{P:Nat→Value→Prop}{St:Nat→Heap→Prop}{kw:List (Str×Value)}{Ph:Heap→Prop}
theorem L5:(toString "min" ++ toString ".loop" : String) = "min.loop" := by decide
theorem QG(W:Walks prog w A.in1 I fp wr n P St)(bt:Nat→Nat→Bool)(hcmp:zt1 prog w A.in1 P bt Ph)(hPh:∀h h':Heap,Ph h→(∀b o,b∉wr→b≠S→h.get? b=some o→h'.get? b=some o)→Ph h')(hSf:S∉fp):∀(k j:Nat) (s:Shared) (vb:Value) (c:Nat),n-(j+1)=k→j+1≤n→St (j+1) s.heap→Ph s.heap→P (argBest bt j) vb →
  s.heap.get? S=some { cls:=.type "list", dict:=none,data:=.seq #[vb,vb] c,slots:=#[] }→(∀v h' tk,P (argBest bt (n-1)) v→(∀b o,b∉wr→b≠S→s.heap.get? b=some o→h'.get? b=some o)→R (.ok (.ret v)) { s with heap:=h',toks:=tk }) →
  codeAny (model prog w) A (.builtin "min.loop" ⟨[.ref I,.none,.ref S],kw⟩) R s:=by
 have hSw:S∉wr:=fun h=>hSf (W.sub _ h)
 intro k
 induction k with
 |zero=>
  intro j s vb c hk hj hst hp hPb hS hR;have hin:j+1=n:=by lia
  refine codeAny_builtin F.entry_min_loop ?_;rw[Around.under_plainId F.plain_min_loop _]
  refine wpAny_bind (m:=seqItems? (.ref S)) (wpAny_seqItems hS rfl ?_)
  refine wpAny_bind (wpAny_tryCatch (W.done s _ _ (hin ▸ hst) fun h' tk hk'=>?_));have hS':=hk' S _ hSw hS
  refine wpAny_bind (m:=updateSeq S (fun _=>#[])) (wpAny_updateSeq hS' rfl (wpAny_bind (wpAny_letGo (wpAny_pure ?_))))
  exact hR vb _ tk (by rw[← hin];exact hPb) fun b o hbw hbS e=>(Heap.get?_update_other _ _ (Ne.symm hbS)).trans (hk' b o hbw e)
 |succ k ih=>
  intro j s vb c hk hj hst hp hPb hS hR;have hlt:j+1<n:=by lia
  refine codeAny_builtin F.entry_min_loop ?_;rw[Around.under_plainId F.plain_min_loop _]
  refine wpAny_bind (m:=seqItems? (.ref S)) (wpAny_seqItems hS rfl ?_)
  refine wpAny_bind (wpAny_tryCatch (W.item (j+1) s _ _ hlt hst fun v h' tk hP hst' hk'=>?_));have hS':=hk' S _ hSw hS
  have hp':Ph h':=hPh _ _ hp fun b o hbw _ e=>hk' b o hbw e
  refine wpAny_bind (wpAny_pure ?_);refine wpAny_bind (wpAny_tryCatch (wpAny_holding (wpAny_bind (m:=richCompare .Lt v vb) (hcmp (j+1) (argBest bt j) v vb _ _ _ (Nat.lt_succ_of_le (XG bt j)) hp' hP hPb ?_))))
  refine wpAny_bind (wpAny_holding (wpAny_truthy_bool ?_));refine wpAny_bind (wpAny_letGo (wpAny_pure ?_))
  cases hb:bt (j+1) (argBest bt j) with
  |true=>
   simp only[if_true];refine wpAny_bind ?_
   refine wpAny_updateSeq hS' rfl (wpAny_bind (wpAny_letGo ?_));rw[L5]
   refine wpAny_pure ⟨plainId_quiet F.plain_min_loop _,ih (j+1) _ v _ (by lia) hlt (W.frame _ _ _ hst' fun b hbf o e=>(Heap.get?_update_other _ _ (fun h:S=b=>hSf (by rw[h];exact hbf))).trans e) (hPh _ _ hp' fun b o _ hbS e=>(Heap.get?_update_other _ _ (Ne.symm hbS)).trans e) (by simp only[argBest,hb,if_true];exact hP) (Heap.get?_update_self _ hS' rfl) fun v' h'' tk'' hP' hk''=>?_⟩
   exact hR v' h'' tk'' hP' fun b o hbw hbS e=>hk'' b o hbw hbS ((Heap.get?_update_other _ _ (Ne.symm hbS)).trans (hk' b o hbw e))
  |false=>
   simp only[Bool.false_eq_true,if_false];refine wpAny_bind (wpAny_letGo ?_);rw[L5]
   refine wpAny_pure ⟨plainId_quiet F.plain_min_loop _,ih (j+1) _ vb c (by lia) hlt hst' hp' (by simp only[argBest,hb,Bool.false_eq_true,if_false];exact hPb) hS' fun v' h'' tk'' hP' hk''=>hR v' h'' tk'' hP' fun b o hbw hbS e=>hk'' b o hbw hbS (hk' b o hbw e)⟩
theorem U2(W:Walks prog w A.in1 I fp wr n P St)(bt:Nat→Nat→Bool)(hcmp:zt1 prog w A.in1 P bt Ph)(hPh:∀h h':Heap,Ph h→(∀b o,b∉wr→b≠S→h.get? b=some o→h'.get? b=some o)→Ph h')(hSf:S∉fp)(hn:0<n){s:Shared}{c:Nat}(hst:St 0 s.heap)(hp:Ph s.heap)(hS:s.heap.get? S=some { cls:=.type "list", dict:=none,data:=.seq #[] c,slots:=#[] })
  (hR:∀v h' tk,P (argBest bt (n-1)) v→(∀b o,b∉wr→b≠S→s.heap.get? b=some o→h'.get? b=some o)→R (.ok (.ret v)) { s with heap:=h',toks:=tk }):codeAny (model prog w) A (.builtin "min.loop" ⟨[.ref I,.none,.ref S],kw⟩) R s:=by
 have hSw:S∉wr:=fun h=>hSf (W.sub _ h)
 refine codeAny_builtin F.entry_min_loop ?_;rw[Around.under_plainId F.plain_min_loop _]
 refine wpAny_bind (m:=seqItems? (.ref S)) (wpAny_seqItems hS rfl ?_)
 refine wpAny_bind (wpAny_tryCatch (W.item 0 s _ _ hn hst fun v h' tk hP hst' hk'=>?_));have hS':=hk' S _ hSw hS
 have hp':Ph h':=hPh _ _ hp fun b o hbw _ e=>hk' b o hbw e
 refine wpAny_bind (wpAny_pure ?_);refine wpAny_bind (m:=updateSeq S (fun _=>#[v,v])) (wpAny_updateSeq hS' rfl ?_);rw[L5]
 refine wpAny_pure ⟨plainId_quiet F.plain_min_loop _,QG W bt hcmp hPh hSf _ 0 _ v _ rfl hn (W.frame _ _ _ hst' fun b hbf o e=>(Heap.get?_update_other _ _ (fun h:S=b=>hSf (by rw[h];exact hbf))).trans e) (hPh _ _ hp' fun b o _ hbS e=>(Heap.get?_update_other _ _ (Ne.symm hbS)).trans e) hP (Heap.get?_update_self _ hS' rfl) fun v' h'' tk'' hP' hk''=>?_⟩
 exact hR v' h'' tk'' hP' fun b o hbw hbS e=>hk'' b o hbw hbS ((Heap.get?_update_other _ _ (Ne.symm hbS)).trans (hk' b o hbw e))
theorem Xz{x:Value}{s:Shared}{Q:Value→Shared→Prop}
  (h:wpAny (model prog w) A.in1 (pyIter x) (fun it s₂=>∃I fp wr n P St bt Ph,it=.ref I∧Walks prog w A.in1 I fp wr n P St∧St 0 s₂.heap∧(∀b∈fp,b<s₂.heap.objs.size)∧zt1 prog w A.in1 P bt Ph∧Ph s₂.heap∧(∀h h':Heap,Ph h→(∀b o,b<s₂.heap.objs.size→b∉wr→h.get? b=some o→h'.get? b=some o)→Ph h')∧0<n ∧
   (∀v h' tk,P (argBest bt (n-1)) v→(∀b o,b∉wr→s₂.heap.get? b=some o→h'.get? b=some o)→Q v { s₂ with heap:=h',toks:=tk })) E s) :
  wpAny (model prog w) A (call (.builtin "min") [x]) Q E s:=by
 refine call_function_tree F.kind_min F.plain_min F.entry_min (F.args_min1 _) ?_
 show wpAny _ A.in1 (Builtin.Builtins.bindParams "min" ["key", "default"] 0 ⟨[],[]⟩ >>= _) _ _ s
 refine wpAny_bind (wpAny_of_eq (show Builtin.Builtins.bindParams "min" ["key", "default"] 0 ⟨[],[]⟩=pure [none,none] from rfl) ?_)
 refine wpAny_bind (wpAny_pure ?_)
 refine wpAny_bind (wpAny_mono h (fun it s₂ h₂=>?_) fun _ _ e=>e)
 obtain⟨I,fp,wr,n,P,St,bt,Ph,rfl,W,hst,hfp,hcmp,hp,hPh,hn,hQ⟩:=h₂
 refine wpAny_bind (wpAny_newObj_type ?_)
 have hSf:s₂.heap.objs.size∉fp:=fun hm=>lt_irrefl _ (hfp _ hm)
 rw[L5]
 have st1:=W.frame _ _ _ hst fun b (_:b∈fp) o e=>get?_push_of_some { cls:=Value.type "list", data:=Data.seq (List.toArray []) } e
 exact wpAny_pure ⟨plainId_quiet F.plain_min_loop _,U2 W bt hcmp (fun h h' a b=>hPh h h' a fun c o hc hw e=>b c o hw (ne_of_lt hc) e) hSf hn st1 (hPh _ _ hp fun b o _ _ e=>get?_push_of_some _ e) (Heap.get?_push_size _ rfl) fun v h' tk hP hk=>hQ v h' tk hP fun b o hbw e=>hk b o hbw (ne_of_lt (Heap.lt_size e)) (get?_push_of_some _ e)⟩
end
noncomputable def ltC(x y:Str):Bool:=Spec.ltCps x.cps.toList y.cps.toList
theorem za0(x y:List Nat):decide (x<y)=Spec.ltCps x y:=by
 induction x generalizing y with
 |nil=>
  cases y with
  |nil=>rfl
  |cons b y=>exact decide_eq_true (by simp)
 |cons a x ih=>
  cases y with
  |nil=>exact decide_eq_false (by simp)
  |cons b y=>
   show _=(decide (a<b)||(a==b&&Spec.ltCps x y))
   rw[← ih y,Bool.eq_iff_iff]
   simp[List.cons_lt_cons_iff]
variable[Tabs]
section
variable{X:Cx}{pos pp kp:Pos}{e e2:Expr}{fe f2:FE}
end
noncomputable def Wn:Key→Key→Option Bool
 |.inl a,.inl b=>some (decide (a<b))
 |.inr x,.inr y=>some (ltC x y)
 |_,_=>none
noncomputable def Ve:List (Option Key)→List (Option Key)→Option Bool
 |[],[]=>some false
 |[],_::_=>some true
 |_::_,[]=>some false
 |some a::xs,some b::ys=>if a=b then Ve xs ys else Wn a b
 |_::_,_::_=>none
noncomputable def KO(o:Option Key)(u:Value):Prop:=∀k,o=some k→RelV (kV k) u
theorem QN{a b:Option Key}{xs ys:List (Option Key)}{r:Bool}(h:Ve (a::xs) (b::ys)=some r):∃x y,a=some x∧b=some y∧(if x=y then Ve xs ys else Wn x y)=some r:=by
 cases a with
 |none=>cases b <;> cases h
 |some a=>
  cases b with
  |none=>cases h
  |some b=>exact⟨a,b,rfl,rfl,h⟩
theorem Te{A:Around}{s:Shared}{x y:Key}{u v:Value}(h1:RelV (kV x) u)(h2:RelV (kV y) v)(hk:x=y∨Wn x y≠none):∃e,SeqAt.EqAt A s u v e∧(e=true↔x=y):=by
 cases x with
 |inl a=>
  cases y with
  |inl c=>
   obtain⟨t,rfl⟩:=h1
   obtain⟨t',rfl⟩:=h2
   exact⟨(a==c),SeqAt.EqAt.int_int a t c t',by simp⟩
  |inr c=>rcases hk with z|z;cases z;exact absurd rfl z
 |inr a=>
  cases y with
  |inl c=>rcases hk with z|z;cases z;exact absurd rfl z
  |inr c=>
   obtain⟨t,rfl⟩:=h1
   obtain⟨t',rfl⟩:=h2
   exact⟨(a==c),SeqAt.EqAt.str_str a t c t',by simp⟩
theorem G0{A:Around}{s:Shared}{x y:Key}{u v:Value}{r:Bool}(h1:RelV (kV x) u)(h2:RelV (kV y) v)(hr:Wn x y=some r)(prog:Program)(w:World)(E:Value→Shared→Prop)(Q:Value→Shared→Prop)(h:Q (.bool r) s) :
  wpAny (model prog w) A (richCompare .Lt u v) Q E s:=by
 cases x with
 |inl a=>
  cases y with
  |inl c=>
   obtain⟨t,rfl⟩:=h1
   obtain⟨t',rfl⟩:=h2
   cases hr
   exact HT.rcLt_int A s a t c t' prog w E Q h
  |inr c=>cases hr
 |inr a=>
  cases y with
  |inl c=>cases hr
  |inr c=>
   obtain⟨t,rfl⟩:=h1
   obtain⟨t',rfl⟩:=h2
   cases hr
   unfold ltC at h
   rw[← za0] at h
   exact(PySem.P.lt_str h:wpAny (model prog w) A (compareOp .Lt (.str a t) (.str c t')) Q E s)
section
open PySem.SeqAt
open PySem.AutoSeq1 (wpAny_loadPart')
open PySem.MeetsSeq PySem.MeetsSeq2 PySem.MeetsSeq3
theorem XJ(l b:Addr)(items items2:Array Value)(n n2:Nat)(dd dd2:Option Addr)(sl sl2:Array (Option Value))(os os2:List (Option Key))(res:Bool)(hi:Paired KO os items.toList)(hj:Paired KO os2 items2.toList)(hr:Ve os os2=some res) :
  Meets (Builtin.«tuple.__lt__» ⟨[.ref l,.ref b],[]⟩)
   (fun _ R s=>s.heap.get? l=some { cls:=.type "tuple", dict:=dd,data:=.seq items n,slots:=sl }∧s.heap.get? b=some { cls:=.type "tuple", dict:=dd2,data:=.seq items2 n2,slots:=sl2 } ∧
    R (.ok (.ret (.bool res))) s):=
 .of_wp fun prog w A R s h=>by
  obtain⟨hp,g,d,tk,os0⟩:=s;obtain⟨hl,hb,h⟩:=h
  have f2:=AutoSeq1.sub_tuple_tuple
  have z1:items.size=os.length:=by rw[Paired.length hi];simp
  have z2:items2.size=os2.length:=by rw[Paired.length hj];simp
  wp_walk using wpAny_loadPart' hl,wpAny_loadPart' hb,wpAny_forIn_list _ (fun rest b s'=>b.1=none∧s'=⟨hp,g,d,tk,os0⟩∧∃(vs ws:List Value) (ns' ms':List (Option Key)),rest=vs.zip ws ∧
   Paired KO ns' vs∧Paired KO ms' ws∧ns'.length+items2.size=ms'.length+items.size∧Ve ns' ms'=some res) _
  case turn=>
   rintro⟨y,x⟩ rest b s' ⟨hb',rfl,vs,ws,ns',ms',hz,hvi,hwi,hlen,hR⟩
   cases hvi with
   |nil=>rw[List.zip_nil_left] at hz;cases hz
   | @cons a va as vas ra hvi'=>
    cases hwi with
    |nil=>rw[List.zip_nil_right] at hz;cases hz
    | @cons c vc cs vcs rc hwi'=>
     rw[List.zip_cons_cons] at hz
     injection hz with hyx hrest
     injection hyx with hy hx
     subst hy hx
     obtain⟨ka,kc,ea,ec,hR⟩:=QN hR
     have ra':=ra ka ea
     have rc':=rc kc ec
     simp only[length_cons] at hlen
     have hk:ka=kc∨Wn ka kc≠none:=by
      by_cases z:ka=kc
      ·exact .inl z
      ·rw[if_neg z] at hR;exact .inr (by rw[hR];simp)
     obtain⟨e,he,hiff⟩:=Te (A:=A.in1) (s:=⟨hp,g,d,tk,os0⟩) ra' rc' hk
     refine wpAny_bind (he prog w _ _ ?_)
     cases e with
     |true=>
      rw[if_pos (hiff.mp rfl)] at hR
      wp_walk
      exact⟨rfl,rfl,_,_,_,_,hrest,hvi',hwi',by lia,hR⟩
     |false=>
      rw[if_neg (fun q=>absurd (hiff.mpr q) Bool.false_ne_true)] at hR
      have hri:=G0 (A:=A.in1) (s:=⟨hp,g,d,tk,os0⟩) ra' rc' hR prog w
      wp_walk using hri
      exact⟨_,rfl,by simpa using h⟩
  case fin=>
   rintro⟨b1,b2⟩ s' ⟨hb',rfl,vs,ws,ns',ms',hz,hvi,hwi,hlen,hR⟩
   simp only at hb'
   subst hb'
   have hv:res=decide (items.size<items2.size):=by
    cases hvi with
    |nil=>
     cases hwi with
     |nil=>
      simp only[length_nil] at hlen
      cases hR
      exact(decide_eq_false (by lia)).symm
     |cons rc hw=>
      simp only[length_nil,length_cons] at hlen
      cases hR
      exact(decide_eq_true (by lia)).symm
    | @cons a va as vas ra hv=>
     cases hwi with
     |nil=>
      simp only[length_nil,length_cons] at hlen
      have:res=false:=by cases a <;> (cases hR;rfl)
      rw[this]
      exact(decide_eq_false (by lia)).symm
     |cons rc hw=>
      rw[List.zip_cons_cons] at hz
      cases hz
   rw[hv] at h
   wp_walk
   exact⟨_,rfl,by simpa[Builtin.Tuple.tupleCompareSizes] using h⟩
  case h=>
   exact⟨rfl,rfl,items.toList,items2.toList,os,os2,rfl,hi,hj,by lia,hr⟩
end
section
variable{prog:Program}{w:World}{A:Around}{E:Value→Shared→Prop}{s:Shared}
theorem U4{l b:Addr}{items items2:Array Value}{os os2:List (Option Key)}{res:Bool}{Q:Value→Shared→Prop}(hl:IsTup s.heap l items)(hb:IsTup s.heap b items2)(hi:Paired KO os items.toList)(hj:Paired KO os2 items2.toList)(hr:Ve os os2=some res)
  (hu:A.units<cLine) (h:Q (.bool res) s):wpAny (model prog w) A (richCompare .Lt (.ref l) (.ref b)) Q E s:=by
 obtain⟨⟨cls,dd,data,sl⟩,ho,hc,n,hd⟩:=id hl
 obtain⟨⟨cls2,dd2,data2,sl2⟩,ho2,hc2,n2,hd2⟩:=id hb
 simp only at hc hd hc2 hd2
 subst hc hd hc2 hd2
 exact richCompare_meets_room (op:=.Lt) ⟨_,ho,rfl⟩ ⟨_,ho2,rfl⟩ PySem.F.slot_tuple_lt PySem.F.entry_tuple_lt (PySem.F.args_tuple_lt_2 _ _) (XJ l b items items2 n n2 dd dd2 sl sl2 os os2 res hi hj hr)
  ⟨ho,ho2,show Value.bool res≠Value.notImplemented∧Q (.bool res) s from ⟨(fun x=>nomatch x),h⟩⟩ hu
end
theorem ko_of{K:Frag}{F:Hp}:∀{ds:List D} {vs:List V} {us:List Value},Reps K F ds vs→Vals vs us→Paired KO (ds.map Wz) us:=fun {ds}=>by
 induction ds with
 |nil=>
  intro vs us r rv
  simp only[Reps] at r;subst r
  cases rv
  exact .nil
 |cons d ds ih=>
  intro vs us r rv
  simp only[Reps] at r
  obtain⟨v,r',rfl,q,t⟩:=r
  cases rv with
  |cons r1 r2=>
   refine .cons (fun k hk=>?_) (ih t r2)
   rw[← zb6 hk q];exact r1
variable[Tabs]
section
variable{X:Cx}
noncomputable def uP:List D→Option (List (List D))
 |[]=>some []
 |.tup xs::r=>(uP r).map (xs :: ·)
 |_=>none
omit [Tabs] in
theorem Qf:∀{ds:List D} {ts:List (List D)},uP ds=some ts→ds=ts.map D.tup:=fun {ds}=>by
 induction ds with
 |nil=>intro ts h;cases h;rfl
 |cons d r ih=>
  intro ts h
  cases d with
  |tup xs=>
   simp only[uP] at h
   cases q:uP r with
   |none=>rw[q] at h;cases h
   |some l=>rw[q] at h;cases h;rw[ih q];rfl
  |_=>cases h
noncomputable def uJ(xs ys:List D):Option Bool:=Ve (xs.map Wz) (ys.map Wz)
noncomputable def mnT(ts:List (List D)):List D:=ts.getD (argBest (fun i j=>(uJ (ts.getD i []) (ts.getD j [])).getD false) (ts.length-1)) []
noncomputable def jp(ts:List (List D)):Bool:=(List.range ts.length).all fun i=>(List.range i).all fun j=>(uJ (ts.getD i []) (ts.getD j [])).isSome
noncomputable def Wl:List D→Rs D
 |[.lst xs]=>match uP xs with
  |some ts=>if ts≠[]∧jp ts=true then .ok (.tup (mnT ts)) else .no
  |none=>.no
 |_=>.no
end
section
variable{X:Cx}
theorem VT{K:Frag}{F:Hp}:∀{ts:List (List D)} {ws:List V} {i:Nat} {w:V},Reps K F (ts.map D.tup) ws→ws[i]?=some w→∃a vs,w=.ref a∧SqT K F a vs∧Reps K F (ts.getD i []) vs∧i<ts.length:=fun {ts}=>by
 induction ts with
 |nil=>intro ws i w r h;simp only[map_nil,Reps] at r;subst r;simp at h
 |cons t ts ih=>
  intro ws i w r h
  simp only[map_cons,Reps] at r
  obtain⟨v,r',rfl,q,t'⟩:=r
  cases i with
  |zero=>
   cases h
   simp only[Rep] at q
   obtain⟨a,vs,rfl,q1,q2⟩:=q
   exact⟨a,vs,rfl,q1,by simpa using q2,by simp⟩
  |succ i=>
   obtain⟨a,vs,e1,e2,e3,e4⟩:=ih t' (by simpa using h)
   exact⟨a,vs,e1,e2,by simpa using e3,by simpa using e4⟩
omit [Tabs] in
theorem U0{ts:List (List D)}(h:jp ts=true){i j:Nat}(hi:i<ts.length)(hj:j<i):uJ (ts.getD i []) (ts.getD j [])=some ((uJ (ts.getD i []) (ts.getD j [])).getD false):=by
 unfold jp at h
 have h1:=all_eq_true.mp h i (mem_range.mpr hi)
 have h2:=all_eq_true.mp h1 j (mem_range.mpr hj)
 obtain⟨r,hr⟩:=Option.isSome_iff_exists.mp h2
 rw[hr];rfl
theorem Gg(hc:X.calm=true)(hu:X.A.units+64<cLine):CallR X (.builtin "min") (fun vs H Q=>∃l ws F ts,vs=[.ref l]∧H l=some (.lst ws)∧Same F H∧Reps X.K F (ts.map D.tup) ws∧ts≠[]∧jp ts=true ∧
  ∀w,Rep X.K F (.tup (mnT ts)) w→Q w H):=by
 rintro pins s σ H vs us Q I r ⟨l,ws,F,ts,e1,e2,fh,rp,hne,hok,q⟩
 subst e1
 obtain⟨u,rfl,ru⟩:=Vals.one r
 cases ru
 obtain⟨its,rr,p,_⟩:=I.list (SqL.of (K:=X.K) e2)
 have hh:X.A.in1.handled=none:=I.ok.hd hc
 have hlt:l<s.heap.objs.size:=I.hok.lt e2
 have hln:=rr.length
 have hlt2:=rp.length
 rw[length_map] at hlt2
 have en:its.toArray.size=ts.length:=by simp;lia
 have hpos:=length_pos_iff.mpr hne
 have I3:Inv X pins σ H { s with heap:=s.heap.push { cls:=.type "list_iterator", data:=.fields #[.ref l,.int 0 0] } }:=I.kept (t':=s.toks) fun b o e=>get?_push_of_some _ e
 have fk:=I.fpOk (H':=H) (le_refl s.heap.objs.size) (I.hok.fresh (le_refl _))
 have at_:∀(i:Nat) (v:Value),its.toArray[i]?=some v→∃(a:Addr) (items:Array Value),v=.ref a∧a<s.heap.objs.size∧IsTup s.heap a items∧Paired KO ((ts.getD i []).map Wz) items.toList:=fun i v hv=>by
  have hv':its[i]?=some v:=by simpa using hv
  have hi:i<ws.length:=by have:=(List.getElem?_eq_some_iff.mp hv').1;lia
  obtain⟨a,vs,e3,e4,e5,e6⟩:=VT rp (i:=i) (w:=ws[i]) (by simp[hi])
  obtain⟨u',h1,h2⟩:=rr.get (i:=i) (x:=ws[i]) (by simp[hi])
  rw[hv'] at h1;cases h1
  rw[e3] at h2
  cases h2
  obtain⟨its2,r2,p2,_⟩:=I.tuple (Same.seqT fh e4)
  exact⟨a,its2.toArray,rfl,p2.lt,p2,by simpa using ko_of e5 r2⟩
 refine Xz (wpAny_pyIter_list p.isList ⟨s.heap.objs.size,_,_,_,_,_,fun i j=>(uJ (ts.getD i []) (ts.getD j [])).getD false,fun h=>∀b o,b<s.heap.objs.size→s.heap.get? b=some o→h.get? b=some o,rfl,Walks.list hh s.heap.objs.size l (ne_of_lt hlt) its.toArray,⟨⟨_,Heap.get?_push_size _ rfl,rfl,rfl⟩,p.isList.push _⟩,fun b hb=>?_,fun i j vi vj s' Q' E' hij hp hi hj hQ=>?_,fun b o _ e=>get?_push_of_some _ e,fun h h' hp hk b o hb e=>?_,by lia,fun v h' tk hP hk=>?_⟩)
 ·have:b=s.heap.objs.size∨b=l:=by simpa using hb
  rw[Heap.size_push]
  rcases this with z|z
  ·rw[z];exact lt_succ_self _
  ·rw[z];exact lt_succ_of_lt hlt
 ·obtain⟨a,ia,rfl,la,ta,ka⟩:=at_ i vi hi
  obtain⟨b,ib,rfl,lb,tb,kb⟩:=at_ j vj hj
  have hi':i<ts.length:=by
   have:=(Array.getElem?_eq_some_iff.mp hi).1;lia
  have ta':IsTup s'.heap a ia:=by obtain⟨o,h1,h2⟩:=ta;exact⟨o,hp a o la h1,h2⟩
  have tb':IsTup s'.heap b ib:=by obtain⟨o,h1,h2⟩:=tb;exact⟨o,hp b o lb h1,h2⟩
  exact U4 ta' tb' ka kb (U0 hok hi' hij) (Nat.lt_of_le_of_lt (by simp) hu) hQ
 ·refine hk b o ?_ ?_ (hp b o hb e)
  ·rw[Heap.size_push];exact lt_succ_of_lt hb
  ·have:b≠s.heap.objs.size:=ne_of_lt hb
   simpa using this
 ·rw[en] at hP
  have hP':its[argBest (fun i j=>(uJ (ts.getD i []) (ts.getD j [])).getD false) (ts.length-1)]?=some v:=by simpa using hP
  generalize hb:argBest (fun i j=>(uJ (ts.getD i []) (ts.getD j [])).getD false) (ts.length-1)=bi at hP'
  have hi:bi<ws.length:=by have:=(List.getElem?_eq_some_iff.mp hP').1;lia
  obtain⟨u',h1,h2⟩:=rr.get (i:=bi) (x:=ws[bi]) (by simp[hi])
  rw[hP'] at h1;cases h1
  obtain⟨a,vs,e3,e4,e5,e6⟩:=VT rp (i:=bi) (w:=ws[bi]) (by simp[hi])
  refine⟨ws[bi],H,WO (s:={ s with heap:=s.heap.push { cls:=.type "list_iterator", data:=.fields #[.ref l,.int 0 0] } }) (ch:=[s.heap.objs.size]) I3 (fun b o hb e=>hk b o hb e) (fun b hb=>?_) (fun b hb=>?_),h2,q _ ?_⟩
  ·have z:b=s.heap.objs.size:=by simpa using hb
   subst z;exact fk
  ·have z:b=s.heap.objs.size:=by simpa using hb
   subst z;exact fk.1
  ·unfold mnT
   rw[hb]
   simp only[Rep]
   exact⟨a,vs,e3,e4,e5⟩
theorem ze4(hc:X.calm=true)(hu:X.A.units+64<cLine):jJ X (.builtin "min") Wl:=⟨_,Gg hc hu,fun F H vs ds Q fh r h=>by
 cases ds with
 |nil=>exact h.elim
 |cons d r2=>
  cases r2 with
  |cons a b=>cases d <;> exact h.elim
  |nil=>
   cases d with
   |lst xs=>
    simp only[Wl] at h
    cases z:uP xs with
    |none=>rw[z] at h;exact h.elim
    |some ts=>
     rw[z] at h
     dsimp only at h
     obtain⟨hz,h⟩:=y7 h
     have e0:=Qf z
     subst e0
     obtain⟨v,rfl,q⟩:=r.one
     simp only[Rep] at q;obtain⟨a,ws,rfl,e,t⟩:=q
     exact⟨a,ws,F,ts,rfl,fh _ _ e,fh,t,hz.1,hz.2,fun w rw_=>h w F H (Ext.refl fh) rw_⟩
   |_=>exact h.elim⟩
end
mutual
noncomputable def Vp:Nat→Expr→Option D
 |0,_=>none
 |n+1,e=>match e with
  | .Constant (.str x) _ _=>some (.str x)
  | .Constant (.int i) _ _=>some (.int i)
  |.List es _=>(cstL n es).bind fun ds=>if ds.length≤100 then some (.lst ds) else none
  |_=>none
noncomputable def cstL:Nat→List Expr→Option (List D)
 |0,_=>none
 |n+1,es=>match es with
  |[]=>some []
  |e::r=>(Vp n e).bind fun d=>(cstL n r).map (d :: ·)
end
variable[Tabs]
section
variable{X:Cx}
theorem Tk{n:Nat}{e:Expr}{d:D}(h:Vp n e=some d)(r:List Expr)(env:Env):starEach (e::r) env=(false,eval e env)::starEach r env:=by
 cases n with
 |zero=>unfold Vp at h;cases h
 |succ n=>
  unfold Vp at h
  split at h
  ·exact VI
  ·exact VI
  ·exact La
  ·cases h
theorem Tn:∀n:Nat,(∀(e:Expr) (d:D),Vp n e=some d→PDE X e (fun _=>.ok d))∧∀(es:List Expr) (ds:List D),cstL n es=some ds→PDA X es (fun _=>.ok ds):=fun n=>by
 induction n with
 |zero=>exact⟨fun e d h=>(by unfold Vp at h;cases h),fun es ds h=>(by unfold cstL at h;cases h)⟩
 |succ n ih=>
  obtain⟨i1,i2⟩:=ih
  refine⟨fun e d h=>?_,fun es ds h=>?_⟩
  ·unfold Vp at h
   split at h
   ·cases h;exact x6
   ·cases h;exact zj
   ·rename_i es p
    cases z:cstL n es with
    |none=>rw[z] at h;cases h
    |some ds=>
     rw[z,Option.bind_some] at h
     by_cases hl:ds.length≤100
     ·rw[if_pos hl] at h
      cases h
      have:=x8 (pos:=p) (i2 es ds z)
      have e1:xw (fun _=>.ok ds)=fun _=>Rs.ok (D.lst ds):=by
       funext τ
       show(if ds.length≤sizeLine then Rs.ok (D.lst ds) else .no)=_
       rw[if_pos (by rw[sizeLine_eq];lia)]
      rw[e1] at this
      exact this
     ·rw[if_neg hl] at h;cases h
   ·cases h
  ·unfold cstL at h
   split at h
   ·cases h;exact zi
   ·rename_i e r
    cases z:Vp n e with
    |none=>rw[z] at h;cases h
    |some d=>
     rw[z,Option.bind_some] at h
     cases z2:cstL n r with
     |none=>rw[z2] at h;cases h
     |some ds'=>
      rw[z2] at h
      cases h
      exact zd (i1 e d z) (i2 r ds' z2) (Tk z r X.env)
theorem LN{n:Nat}{e:Expr}{d:D}(h:Vp n e=some d):PDE X e (fun _=>.ok d):=(Tn n).1 e d h
end
section
variable{τ:DS}{fa fb fc fe fi:FE}{fs:FA}{op:D→D→Rs D}{d x y:D}{i j k:Int}{n m:Nat}
noncomputable def getV:Option (Option Sl)→Rs D
 | some (some (.val d))=>.ok d
 |_=>.no
noncomputable def Up:Option (Option Sl)→Rs (List D)
 | some (some (.own d))=>.ok d
 |_=>.no
@[simp] theorem zx:getV (some (some (.val d)))=.ok d:=rfl
@[simp] theorem xW{ds:List D}:Up (some (some (.own ds)))=.ok ds:=rfl
theorem zE:zc n τ=getV τ[n]?:=rfl
theorem ua:jC τ n=Up τ[n]?:=rfl
theorem yF:eC d τ=.ok d:=rfl
theorem ye:eOp op fa fb τ=(fa τ).bind fun x=>(fb τ).bind fun y=>op x y:=rfl
theorem zM:zh τ=.ok []:=rfl
theorem zq:za fa fs τ=(fa τ).bind fun x=>(fs τ).bind fun r=>.ok (x::r):=rfl
theorem Zn:xw fs τ=(fs τ).bind fun ds=>if ds.length≤sizeLine then .ok (.lst ds) else .no:=rfl
theorem Vk:xu fs τ=(fs τ).bind fun ds=>if ds.length≤sizeLine then .ok (.tup ds) else .no:=rfl
theorem yE{g:List D→Rs D}:zo g fs τ=(fs τ).bind fun ds=>LY (g ds):=rfl
theorem wv{g:List D→Rs D}:z7 g fs τ=(fs τ).bind g:=rfl
theorem Vn{g:FT}:eIf g fa fb τ=(g τ).bind fun b=>if b=true then fa τ else fb τ:=rfl
theorem Zq:Xw fa fb τ=(fa τ).bind fun x=>(Zy x).bind fun b=>if b=true then fb τ else .ok x:=rfl
theorem Vm:eOr fa fb τ=(fa τ).bind fun x=>(Zy x).bind fun b=>if b=true then .ok x else fb τ:=rfl
noncomputable def boolOf:D→Rs Bool
 |.bl b=>.ok b
 |_=>.no
@[simp] theorem yf{b:Bool}:boolOf (.bl b)=.ok b:=rfl
theorem wz:FD.tB fe τ=(fe τ).bind boolOf:=rfl
theorem vP:uR fe τ=(fe τ).bind Zy:=rfl
theorem wS{f g:FT}:vm f g τ=(f τ).bind fun b=>if b=true then g τ else .ok false:=rfl
theorem uh{f g:FT}:Z7 f g τ=(f τ).bind fun b=>if b=true then .ok true else g τ:=rfl
theorem Jt{f:FT}:ZT f τ=(f τ).bind fun b=>.ok (!b):=rfl
theorem J4{T:String}{g:D→List D→Rs D}:Ji T g fa τ=(fa τ).bind fun d=>if ZK T d=true then g d [] else .no:=rfl
theorem zr2{T:String}{g:D→List D→Rs D}:eMt T g fa fs τ=(fa τ).bind fun d=>if ZK T d=true then (fs τ).bind fun ds=>g d ds else .no:=rfl
theorem Tg{fl fh:FO}:eSl fe fl fh τ=(fe τ).bind fun d=>(fl τ).bind fun l=>(fh τ).bind fun u=>slD d l u:=rfl
noncomputable def Jy:D→Rs (Option Int)
 |.int i=>.ok (some i)
 |_=>.no
@[simp] theorem VL:Jy (.int i)=.ok (some i):=rfl
theorem Y4:wM fe τ=(fe τ).bind Jy:=rfl
noncomputable def Fl.thn(r:Fl)(g:FS):Fl:=match r with
 |.nx τ=>g τ
 |r=>r
@[simp] theorem zU{g:FS}:(Fl.nx τ).thn g=g τ:=rfl
@[simp] theorem uQ{g:FS}:(Fl.rt d).thn g=.rt d:=rfl
theorem zG{f g:FS}:zp f g τ=(f τ).thn g:=rfl
theorem zN:zB n fe τ=Fl.of (fe τ) fun d=>.nx (τ.set n (some (.val d))):=rfl
theorem vy:vz n fs τ=Fl.of (fs τ) fun ds=>.nx (τ.set n (some (.own ds))):=rfl
theorem yi{g:FT}{f h:FS}:sIf g f h τ=Fl.of (g τ) fun b=>if b=true then f τ else h τ:=rfl
theorem zT:yh fe τ=Fl.of (fe τ) fun d=>.rt d:=rfl
theorem v8:j2 n τ=Fl.of (jC τ n) fun ds=>.rt (.lst ds):=rfl
theorem zZ:ya τ=.nx τ:=rfl
theorem xP{set:FG}{body:FS}:wj fs set body τ=Fl.of (fs τ) fun ds=>yr set body ds τ:=rfl
@[simp] theorem zL:jd (.rt d)=.ok d:=rfl
@[simp] theorem xS:LY (.ok d)=.ok d:=rfl
@[simp] theorem yJ:zI (.int i) (.int j)=.ok (.int (i+j)):=rfl
theorem Vs{a b:Str}(h:a.length+b.length≤sizeLine):zI (.str a) (.str b)=.ok (.str (a++b)):=if_pos h
@[simp] theorem yY:yH (.int i) (.int j)=.ok (.int (i-j)):=rfl
theorem vD(h:(-(18446744073709551616)<i∧i<18446744073709551616)∨(-(18446744073709551616)<j∧j<18446744073709551616)):wP (.int i) (.int j)=.ok (.int (i*j)):=if_pos h
theorem Y6(h:0<j):Vd (.int i) (.int j)=.ok (.int (i%j)):=by
 show(if decide (0<j)=true then _ else _)=_
 rw[if_pos (by simpa using h)]
theorem Yu(h:0<j∧j<1073741824):Xr (.int i) (.int j)=.ok (.int (i / j)):=by
 show(if decide (0<j∧j<1073741824)=true then _ else _)=_
 rw[if_pos (by simpa using h)]
@[simp] theorem MC:ltI (.int i) (.int j)=.ok (.bl (decide (i<j))):=rfl
@[simp] theorem leD_i:leD (.int i) (.int j)=.ok (.bl (decide (i≤j))):=rfl
@[simp] theorem WE:gtD (.int i) (.int j)=.ok (.bl (decide (j<i))):=rfl
@[simp] theorem vI:eqD (.int i) (.int j)=.ok (.bl (i==j)):=rfl
@[simp] theorem WG{a b:Str}:eqD (.str a) (.str b)=.ok (.bl (a==b)):=rfl
@[simp] theorem neD_i:neD (.int i) (.int j)=.ok (.bl (!(i==j))):=rfl
@[simp] theorem Zi{a b:Str}:inD (.str a) (.str b)=.ok (.bl (Jv a b)):=rfl
theorem wq(c:Nat)(x:Str):Jv ⟨#[c]⟩ x=decide (c∈x.cps.toList):=StrLaws.found_one x c
@[simp] theorem MF{ns:List Int}:yL [.scr ns]=.ok (.int ns.length):=rfl
@[simp] theorem Ua{ds:List D}:yL [.lst ds]=.ok (.int ds.length):=rfl
theorem V9{a:Str}(h:a.length≤sizeLine):yL [.str a]=.ok (.int a.length):=if_pos h
theorem zb9{ns:List Int}{a:Int}(h:atI ns k=some a):ixD (.scr ns) (.int k)=.ok (.int a):=by
 show(match atI ns k with|some d=>Rs.ok (D.int d) | none=>.no)=_
 rw[h]
theorem Vf{ds:List D}{a:D}(h:atI ds k=some a):ixD (.lst ds) (.int k)=.ok a:=by
 show(match atI ds k with|some d=>Rs.ok d|none=>.no)=_
 rw[h]
theorem Ze{a:Str}{c:Nat}(h:atI a.cps.toList k=some c)(hz:a.length≤sizeLine):ixD (.str a) (.int k)=.ok (zt c):=by
 show(match atI a.cps.toList k with|some c=>if a.length≤sizeLine then Rs.ok (D.str ⟨#[c]⟩) else .no|none=>.no)=_
 rw[h]
 exact if_pos hz
theorem ZR{α:Type}{xs:List α}{a:α}(h0:0≤k)(h:xs[k.toNat]?=some a):atI xs k=some a:=by
 have:=Qa (j:=k.toNat) h
 rwa [Int.toNat_of_nonneg h0] at this
@[simp] theorem wo{b:Bool}:Zy (.bl b)=.ok b:=rfl
theorem Gy{a:Str}(h:a.length≤sizeLine):Zy (.str a)=.ok ((a.length:Int) != 0):=if_pos h
theorem zY{b:FS}{ds:List D}:yX n b ds=jd (b (zV n ds)):=rfl
end
theorem Xt(l:List PyData):PyData.eqvAll l []=l.isEmpty:=by cases l <;> simp[PyData.eqvAll]
theorem LU(ns:List Int):okD (.scr ns)=true:=by
 have c:∀l:List Int,PyData.canLayAll0 (l.map PyData.int)=true:=fun l=>by
  induction l with
  |nil=>rfl
  |cons a r ih=>simp[PyData.canLayAll0,PyData.canLay0,ih]
 have d:∀l:List Int,PyData.depthAll (l.map PyData.int)=0:=fun l=>by
  induction l with
  |nil=>rfl
  |cons a r ih=>simp[PyData.depthAll,PyData.depth,ih]
 simp[okD,xA,yW,PyData.canLay0,PyData.depth,c,d]
theorem Ut(ns:List Int):eqD (.scr ns) (.lst [])=.ok (.bl ns.isEmpty):=by
 have o2:okD (.lst [])=true:=by decide
 have:uf (.scr ns) (.lst [])=ns.isEmpty:=by
  simp only[uf,yW,toPys,PyData.eqv,Xt]
  cases ns <;> rfl
 simp only[eqD,LU,o2,this,and_self,if_true]
end FD
set_option Elab.async false
set_option linter.all false
set_option maxRecDepth 100000
namespace Law
open PySem PySem.Spec PyProof.Rows L2 FD
instance tabs:FD.Tabs:=⟨[(94,71,28,("in_order" : Str) ++ ".<locals>." ++ "<lambda>")],fun c f=>false⟩
noncomputable def Z6:FS:=(zp (sIf (tB (eOp eqD (zc 0) (xw zh))) (yh (eOp wP (eC (.int 7)) (zc 1))) ya)
  (yh (eOp zI (eOp ixD (zc 0) (eOp Vd (zc 1) (z7 yL (za (zc 0) zh)))) (eOp wP (eC (.int 6553)) (eOp Xr (zc 1) (z7 yL (za (zc 0) zh)))))))
noncomputable def wD(ds:List D):Rs D:=yX 2 Z6 ds
noncomputable def Zv:FS:=(zp (zB 3 (eOp Vd (eOp zI (eOp wP (eOp Vd (zo wD (za (zc 0) (za (zc 1) zh))) (eC (.int 2147483563))) (eC (.int 69069))) (eOp wP (eC (.int 104723)) (eOp zI (zc 1) (eC (.int 1))))) (eC (.int 2147483563))))
  (zp (zB 3 (eOp Vd (eOp zI (eOp wP (zc 3) (zc 3)) (eOp Xr (zc 3) (eC (.int 3)))) (eC (.int 2147483399))))
  (yh (eOp Vd (eOp Xr (eOp Vd (eOp zI (eOp wP (zc 3) (zc 3)) (eOp Xr (zc 3) (eC (.int 7)))) (eC (.int 2147483647))) (eC (.int 11))) (zc 2)))))
noncomputable def zr(ds:List D):Rs D:=yX 4 Zv ds
noncomputable def Z4:FS:=(zp (zB 2 (eC (.str "")))
  (zp (wj (uN (za (eOp zI (eC (.int 1)) (zo zr (za (zc 0) (za (zc 1) (za (eC (.int 10)) zh))))) zh)) (gNm 3) (zB 2 (eOp zI (zc 2) (eOp ixD (eC (.str "abcabABCab1_-./xyz")) (zo zr (za (zc 0) (za (eOp zI (eOp zI (zc 1) (eC (.int 1))) (zc 3)) (za (eC (.int 18)) zh))))))))
  (yh (zc 2))))
noncomputable def xE(ds:List D):Rs D:=yX 4 Z4 ds
noncomputable def uG:FS:=(zp (vz 3 (xa 1 [0,1] (uN (za (zo zr (za (zc 0) (za (zc 1) (za (eOp zI (zc 2) (eC (.int 1))) zh)))) zh)) (gNm 0) (fun _=>.ok true) (zo xE (za (zc 1) (za (eOp zI (eOp zI (zc 2) (eC (.int 1))) (eOp wP (eC (.int 12)) (zc 0))) zh)))))
  (zp (sIf (vm (tB (eOp gtD (Zp 3) (eC (.int 1)))) (tB (eOp eqD (zo zr (za (zc 0) (za (eOp zI (zc 1) (eC (.int 12))) (za (eC (.int 5)) zh)))) (eC (.int 0))))) (Qo 3 (eC (.int 0)) (Q9 3 (wL (eC (.int 1))))) ya)
  (j2 3)))
noncomputable def xV(ds:List D):Rs D:=yX 4 uG ds
noncomputable def Z5:FS:=(yh (eOp inD (zc 0) (eC (.str "_-./"))))
noncomputable def xF(ds:List D):Rs D:=yX 1 Z5 ds
noncomputable def Zt:FS:=(zp (zB 4 (eC (.str "")))
  (zp (zB 5 (eC (.int 0)))
  (zp (wj (uN (za (zo zr (za (zc 0) (za (zc 1) (za (eOp zI (zc 3) (eC (.int 1))) zh)))) zh)) (gNm 6) (zp (zB 5 (z7 vo (za (eOp yH (z7 yL (za (zc 2) zh)) (eC (.int 1))) (za (eOp zI (zc 5) (zo zr (za (zc 0) (za (eOp zI (eOp zI (zc 1) (eC (.int 1))) (eOp wP (eC (.int 3)) (zc 6))) (za (eC (.int 3)) zh))))) zh))))
  (zp (zB 7 (Ji "str" loD (eOr (eSl (zc 2) (wM (zc 5)) (wM (eOp zI (zc 5) (eC (.int 1))))) (eC (.str "a")))))
  (zp (zB 5 (eOp zI (zc 5) (eC (.int 1))))
  (zp (sIf (tB (eOp eqD (zo zr (za (zc 0) (za (eOp zI (eOp zI (zc 1) (eC (.int 2))) (eOp wP (eC (.int 3)) (zc 6))) (za (eC (.int 5)) zh)))) (eC (.int 0)))) (zB 7 (eOp ixD (eC (.str "abAB1c")) (zo zr (za (zc 0) (za (eOp zI (eOp zI (zc 1) (eC (.int 3))) (eOp wP (eC (.int 3)) (zc 6))) (za (eC (.int 6)) zh)))))) ya)
  (sIf (ZT (uR (zo xF (za (zc 7) zh)))) (zB 4 (eOp zI (zc 4) (zc 7))) ya))))))
  (yh (zc 4)))))
noncomputable def xU(ds:List D):Rs D:=yX 8 Zt ds
noncomputable def v5:FS:=(zp (zB 2 (z7 YE (za (fun τ=>((xa 2 [0] (xi (zc 1)) (gPr 0 1) (fun _=>.ok true) (xu (za (eOp yH (eC (.int 0)) (zc 0)) (za (z7 yL (za (eOp ixD (zc 2) (zc 1)) zh)) (za (zc 1) zh))))) τ).bind fun ds=>.ok (.lst ds)) zh)))
  (yh (fun τ=>((xa 3 [] (xi (zc 2)) (gTr 0 1 2) (fun _=>.ok true) (xu (za (eOp yH (eC (.int 0)) (zc 0)) (za (zc 2) zh)))) τ).bind fun ds=>.ok (.lst ds))))
noncomputable def xt(ds:List D):Rs D:=yX 3 v5 ds
noncomputable def Zs:FS:=(zp (zB 1 (xw (za (eC (.str "")) zh)))
  (zp (wj (xi (zc 0)) (gNm 2) (zB 1 (eOp zI (zc 1) (fun τ=>((xa 1 [2] (xi (zc 1)) (gNm 0) (fun _=>.ok true) (eOp zI (zc 0) (zc 1))) τ).bind fun ds=>.ok (.lst ds)))))
  (yh (fun τ=>(((za (zc 1) zh) τ).bind UO).bind fun ds=>.ok (.lst ds)))))
noncomputable def yq(ds:List D):Rs D:=yX 3 Zs ds
noncomputable def Zu:FS:=(zp (zB 2 (eC (.str "abcdefghijklmnopqrstuvwxyz")))
  (yh (eOr (eOp eqD (zc 0) (zc 1)) (Xw (eOp inD (zc 0) (zc 2)) (eOp eqD (zc 1) (eOp ixD (eC (.str "ABCDEFGHIJKLMNOPQRSTUVWXYZ")) (eMt "str" Jd (zc 2) (za (zc 0) zh))))))))
noncomputable def xf(ds:List D):Rs D:=yX 3 Zu ds
noncomputable def vM:FS:=(zp (zB 2 (fun _=>.ok (.lst [.lst []])))
  (zp (wj (xi (zc 0)) (gNm 3) (zp (zB 4 (xw zh))
  (zp (wj (xi (zc 2)) (gNm 5) (zp (zB 6 (eIf (tB (eOp neD (zc 5) (xw zh))) (eOp zI (eOp ixD (zc 5) (wL (eC (.int 1)))) (eC (.int 1))) (eC (.int 0))))
  (zB 4 (eOp zI (zc 4) (fun τ=>((xa 1 [5,3,1] (M0 (za (zc 6) (za (z7 yL (za (zc 1) zh)) zh))) (gNm 0) (uR (zo xf (za (zc 2) (za (eOp ixD (zc 3) (zc 0)) zh)))) (eOp zI (zc 1) (xw (za (zc 0) zh)))) τ).bind fun ds=>.ok (.lst ds))))))
  (zB 2 (zc 4)))))
  (yh (zc 2))))
noncomputable def yc(ds:List D):Rs D:=yX 7 vM ds
noncomputable def uH:FS:=(zp (zB 3 (eOp zI (eC (.int 10)) (z7 intD (za (eOp eqD (zc 0) (eOp ixD (zc 1) (zc 2))) zh))))
  (zp (sIf (tB (eOp eqD (zc 2) (eC (.int 0)))) (yh (eOp zI (zc 3) (eC (.int 8)))) ya)
  (zp (sIf (tB (eOp inD (eOp ixD (zc 1) (eOp yH (zc 2) (eC (.int 1)))) (eC (.str "_-./")))) (yh (eOp zI (zc 3) (eC (.int 6)))) ya)
  (zp (zB 4 (eOp inD (eOp ixD (zc 1) (zc 2)) (eC (.str "ABCDEFGHIJKLMNOPQRSTUVWXYZ"))))
  (yh (eOp zI (zc 3) (eOp wP (eC (.int 5)) (z7 intD (za (Xw (zc 4) (eOp inD (eOp ixD (zc 1) (eOp yH (zc 2) (eC (.int 1)))) (eC (.str "abcdefghijklmnopqrstuvwxyz0123456789")))) zh)))))))))
noncomputable def xg(ds:List D):Rs D:=yX 5 uH ds
noncomputable def v6:FS:=(zp (zB 3 (eC (.int 0)))
  (zp (wj (iEn (za (zc 2) zh)) (gPr 4 5) (zp (zB 3 (eOp zI (zc 3) (zo xg (za (eOp ixD (zc 0) (zc 4)) (za (zc 1) (za (zc 5) zh))))))
  (sIf (tB (eOp eqD (zc 4) (eC (.int 0)))) (zB 3 (eOp yH (zc 3) (z7 vo (za (eC (.int 3)) (za (zc 5) zh))))) (sIf (tB (eOp eqD (eOp zI (eOp ixD (zc 2) (eOp yH (zc 4) (eC (.int 1)))) (eC (.int 1))) (zc 5))) (zB 3 (eOp zI (zc 3) (eC (.int 7)))) (zB 3 (eOp yH (zc 3) (z7 vo (za (eC (.int 5)) (za (eOp yH (eOp yH (zc 5) (eOp ixD (zc 2) (eOp yH (zc 4) (eC (.int 1))))) (eC (.int 1))) zh)))))))))
  (yh (zc 3))))
noncomputable def yV(ds:List D):Rs D:=yX 6 v6 ds
noncomputable def jh:FS:=(zp (zB 2 (eC .non))
  (zp (wj (xi (zo yc (za (zc 0) (za (zc 1) zh)))) (gNm 3) (zp (zB 4 (zo yV (za (zc 0) (za (zc 1) (za (zc 3) zh)))))
  (sIf (Z7 (tB (eOp isD (zc 2) (eC .non))) (tB (eOp gtD (zc 4) (eOp ixD (zc 2) (eC (.int 0)))))) (zB 2 (xu (za (zc 4) (za (zc 3) zh)))) ya)))
  (yh (zc 2))))
noncomputable def wn(ds:List D):Rs D:=yX 5 jh ds
noncomputable def vL:FS:=(zp (vz 3 (fun τ=>(zh τ).bind fun ds=>if ds.length≤sizeLine then .ok ds else .no))
  (zp (wj (xi (zo yq (za (zc 0) zh))) (gNm 4) (zp (zB 5 (zo wn (za (zc 4) (za (zc 1) zh))))
  (zp (zB 6 (eOp yH (z7 yL (za (zc 0) zh)) (z7 yL (za (zc 4) zh))))
  (sIf (vm (tB (eOp leD (zc 6) (zc 2))) (tB (eOp xY (zc 5) (eC .non)))) (YH 3 (xu (za (eOp yH (eOp wP (eC (.int 15)) (zc 6)) (eOp ixD (zc 5) (eC (.int 0)))) (za (zc 6) (za (zc 4) (za (eOp ixD (zc 5) (eC (.int 1))) zh)))))) ya))))
  (fun τ=>(zp (sIf (tB (eOp eqD (zc 3) (xw zh))) (yh (eC .non)) ya)
  (zp (zB 7 (z7 Wl (za (zc 3) zh)))
  (yh (xu (za (eOp yH (eC (.int 0)) (eOp ixD (zc 7) (eC (.int 0)))) (za (eOp ixD (zc 7) (eC (.int 2))) (za (eOp ixD (zc 7) (eC (.int 3))) zh))))))) (uD τ))))
noncomputable def y9(ds:List D):Rs D:=yX 8 vL ds
noncomputable def vg:FS:=(Zz 1 (Xl (xi (zc 0)) 2 (Xl (uN (za (z7 yL (za (zc 2) zh)) zh)) 3 (Yg (eOp zI (eSl (zc 2) uX (wM (zc 3))) (eSl (zc 2) (wM (eOp zI (zc 3) (eC (.int 1)))) uX))))))
noncomputable def yg(ds:List D):Rs D:=yX 4 vg ds
noncomputable def J9:FS:=(yh (eOr (eOp eqD (zc 0) (zc 1)) (Xw (eOp inD (zc 0) (eC (.str "abcdefghijklmnopqrstuvwxyz"))) (eOp eqD (Ji "str" upD (zc 0)) (zc 1)))))
noncomputable def wb(ds:List D):Rs D:=yX 2 J9 ds
noncomputable def vW:FS:=(zp (vz 2 (fun τ=>(zh τ).bind fun ds=>if ds.length≤sizeLine then .ok ds else .no))
  (zp (wj (uN (za (z7 yL (za (zc 1) zh)) zh)) (gNm 3) (sIf (vm (tB (eOp ltI (Zp 2) (z7 yL (za (zc 0) zh)))) (uR (zo wb (za (eOp ixD (zc 0) (Zp 2)) (za (eOp ixD (zc 1) (zc 3)) zh))))) (YH 2 (zc 3)) ya))
  (j2 2)))
noncomputable def yP(ds:List D):Rs D:=yX 4 vW ds
noncomputable def TH:FS:=(yh (eOp eqD (z7 yL (za (zo yP (za (zc 0) (za (zc 1) zh))) zh)) (z7 yL (za (zc 0) zh))))
noncomputable def jS(ds:List D):Rs D:=yX 2 TH ds
noncomputable def v4:FS:=(zp (zB 2 (eC (.int 0)))
  (zp (zB 3 (xw (za (zc 0) zh)))
  (zp (WX (ZT (uR (z7 zf3 (za (fun τ=>((xa 1 [1] (xi (zc 3)) (gNm 0) (fun _=>.ok true) (zo jS (za (zc 0) (za (zc 1) zh)))) τ).bind fun ds=>.ok (.lst ds)) zh)))) (zp (zB 3 (zo yg (za (zc 3) zh)))
  (UP 2 (uC fun i j=>.int (i+j)) (eC (.int 1)))))
  (yh (zc 2)))))
noncomputable def xr(ds:List D):Rs D:=yX 4 v4 ds
noncomputable def vK:FS:=(zp (sIf (tB (eOp eqD (zc 1) (eC (.int 0)))) (yh (eC (.int 8))) ya)
  (zp (zB 2 (eOp ixD (zc 0) (eOp yH (zc 1) (eC (.int 1)))))
  (zp (sIf (tB (eOp inD (zc 2) (eC (.str "_-./")))) (yh (eC (.int 6))) ya)
  (zp (sIf (vm (tB (eOp inD (eOp ixD (zc 0) (zc 1)) (eC (.str "ABCDEFGHIJKLMNOPQRSTUVWXYZ")))) (Z7 (tB (eOp inD (zc 2) (eC (.str "abcdefghijklmnopqrstuvwxyz")))) (tB (eOp inD (zc 2) (eC (.str "0123456789")))))) (yh (eC (.int 5))) ya)
  (yh (eC (.int 0)))))))
noncomputable def yI(ds:List D):Rs D:=yX 3 vK ds
noncomputable def Zr:FS:=(zp (zB 3 (eIf (tB (eOp eqD (eOp ixD (zc 1) (zc 2)) (zc 0))) (eC (.int 1)) (eC (.int 0))))
  (yh (eOp zI (eOp zI (eC (.int 10)) (zo yI (za (zc 1) (za (zc 2) zh)))) (zc 3))))
noncomputable def yD(ds:List D):Rs D:=yX 4 Zr ds
noncomputable def vV:FS:=(yh (fun τ=>((xa 1 [0,1] (uN (za (z7 yL (za (zc 1) zh)) zh)) (gNm 0) (uR (zo wb (za (zc 1) (za (eOp ixD (zc 2) (zc 0)) zh)))) (xu (za (zo yD (za (zc 1) (za (zc 2) (za (zc 0) zh)))) (za (xw (za (zc 0) zh)) zh)))) τ).bind fun ds=>.ok (.lst ds)))
noncomputable def yn(ds:List D):Rs D:=yX 2 vV ds
noncomputable def uL:FS:=(zp (zB 1 (eC .non))
  (zp (wj (xi (zc 0)) (gNm 2) (sIf (Z7 (tB (eOp isD (zc 1) (eC .non))) (tB (eOp gtD (eOp ixD (zc 2) (eC (.int 0))) (eOp ixD (zc 1) (eC (.int 0)))))) (zB 1 (zc 2)) ya))
  (yh (zc 1))))
noncomputable def z0(ds:List D):Rs D:=yX 3 uL ds
noncomputable def jH:FS:=(zp (zB 2 (eOp yH (eOp yH (zc 1) (zc 0)) (eC (.int 1))))
  (zp (sIf (tB (eOp eqD (zc 2) (eC (.int 0)))) (yh (eC (.int 7))) ya)
  (yh (wL (z7 vo (za (zc 2) (za (eC (.int 5)) zh)))))))
noncomputable def xq(ds:List D):Rs D:=yX 3 jH ds
noncomputable def jg:FS:=(yh (fun τ=>((xa 1 [0] (xi (zc 1)) (gNm 0) (tB (eOp gtD (eOp ixD (eOp ixD (zc 0) (eC (.int 1))) (eC (.int 0))) (zc 1))) (xu (za (eOp zI (eOp ixD (zc 0) (eC (.int 0))) (zo xq (za (zc 1) (za (eOp ixD (eOp ixD (zc 0) (eC (.int 1))) (eC (.int 0))) zh)))) (za (eOp ixD (zc 0) (eC (.int 1))) zh)))) τ).bind fun ds=>.ok (.lst ds)))
noncomputable def yM(ds:List D):Rs D:=yX 2 jg ds
noncomputable def vJ:FS:=(zp (vz 3 (fun τ=>(zh τ).bind fun ds=>if ds.length≤sizeLine then .ok ds else .no))
  (zp (wj (uN (za (z7 yL (za (zc 1) zh)) zh)) (gNm 4) (sIf (uR (zo wb (za (zc 0) (za (eOp ixD (zc 1) (zc 4)) zh)))) (zp (zB 5 (zo z0 (za (zo yM (za (zc 4) (za (zc 2) zh))) zh)))
  (sIf (tB (eOp xY (zc 5) (eC .non))) (YH 3 (xu (za (eOp zI (zo yD (za (zc 0) (za (zc 1) (za (zc 4) zh)))) (eOp ixD (zc 5) (eC (.int 0)))) (za (eOp zI (xw (za (zc 4) zh)) (eOp ixD (zc 5) (eC (.int 1)))) zh)))) ya)) ya))
  (j2 3)))
noncomputable def y8(ds:List D):Rs D:=yX 6 vJ ds
noncomputable def jI:FS:=(yh (wL (z7 vo (za (zc 0) (za (eC (.int 3)) zh)))))
noncomputable def yU(ds:List D):Rs D:=yX 1 jI ds
noncomputable def Jm:FS:=(zp (sIf (tB (eOp eqD (z7 yL (za (zc 0) zh)) (eC (.int 0)))) (yh (xu (za (eC (.int 0)) (za (xw zh) zh)))) ya)
  (zp (zB 2 (zo yn (za (eOp ixD (zc 0) (wL (eC (.int 1)))) (za (zc 1) zh))))
  (zp (wj (Q1 (za (eOp yH (z7 yL (za (zc 0) zh)) (eC (.int 2))) (za (wL (eC (.int 1))) (za (wL (eC (.int 1))) zh)))) (gNm 3) (zB 2 (zo y8 (za (eOp ixD (zc 0) (zc 3)) (za (zc 1) (za (zc 2) zh))))))
  (yh (zo z0 (za (fun τ=>((xa 1 [] (xi (zc 2)) (gNm 0) (fun _=>.ok true) (xu (za (eOp zI (eOp ixD (zc 0) (eC (.int 0))) (zo yU (za (eOp ixD (eOp ixD (zc 0) (eC (.int 1))) (eC (.int 0))) zh))) (za (eOp ixD (zc 0) (eC (.int 1))) zh)))) τ).bind fun ds=>.ok (.lst ds)) zh))))))
noncomputable def uz(ds:List D):Rs D:=yX 4 Jm ds
noncomputable def wJ:FS:=(zp (zB 3 (eC .non))
  (zp (zB 4 (xw (za (zc 0) zh)))
  (zp (wj (uN (za (eOp zI (z7 vo (za (zc 2) (za (z7 yL (za (zc 0) zh)) zh))) (eC (.int 1))) zh)) (gNm 5) (zp (wj (xi (zc 4)) (gNm 6) (zp (zB 7 (zo uz (za (zc 6) (za (zc 1) zh))))
  (sIf (vm (tB (eOp xY (zc 7) (eC .non))) (Z7 (tB (eOp isD (zc 3) (eC .non))) (tB (eOp gtD (eOp yH (eOp ixD (zc 7) (eC (.int 0))) (eOp wP (eC (.int 15)) (zc 5))) (eOp ixD (zc 3) (eC (.int 0))))))) (zB 3 (xu (za (eOp yH (eOp ixD (zc 7) (eC (.int 0))) (eOp wP (eC (.int 15)) (zc 5))) (za (zc 6) (za (eOp ixD (zc 7) (eC (.int 1))) zh))))) ya)))
  (zB 4 (zo yg (za (zc 4) zh)))))
  (yh (zc 3)))))
noncomputable def zX(ds:List D):Rs D:=yX 8 wJ ds
noncomputable def jY:FS:=(yh (Xv [0] (zc 1) (xu (za (wL (eOp ixD (zc 0) (eC (.int 0)))) (za (z7 yL (za (eOp ixD (zc 1) (eOp ixD (zc 0) (eC (.int 1)))) zh)) (za (eOp ixD (zc 0) (eC (.int 1))) zh))))))
noncomputable def wm(ds:List D):Rs D:=yX 2 jY ds
noncomputable def uF:FS:=(yh (eSl (zo wm (za (zc 0) (za (zc 1) zh))) uX (wM (z7 Xa (za (zc 2) (za (eC (.int 0)) zh))))))
noncomputable def xT(ds:List D):Rs D:=yX 3 uF ds
noncomputable def wC:FS:=(zp (zB 4 fun τ=>((xa 1 [1,2] (xi (zc 0)) (gNm 0) (fun _=>.ok true) (zo zX (za (zc 1) (za (zc 0) (za (zc 2) zh))))) τ).bind fun ds=>.ok (.lst ds))
  (zp (zB 5 fun τ=>((xa 2 [] (iEn (za (zc 4) zh)) (gPr 0 1) (tB (eOp xY (zc 1) (eC .non))) (xu (za (eOp ixD (zc 1) (eC (.int 0))) (za (zc 0) zh)))) τ).bind fun ds=>.ok (.lst ds))
  (yh (zo xT (za (zc 0) (za (zc 5) (za (zc 3) zh)))))))
noncomputable def zR(ds:List D):Rs D:=yX 6 wC ds
noncomputable def TF:FS:=(zp (zB 1 (zo xV (za (zc 0) (za (eC (.int 0)) (za (eC (.int 4)) zh)))))
  (zp (zB 2 (zo xU (za (zc 0) (za (eC (.int 80)) (za (eOp ixD (eOp zI (zc 1) (xw (za (eC (.str "abc")) zh))) (zo zr (za (zc 0) (za (eC (.int 79)) (za (eOp zI (z7 yL (za (zc 1) zh)) (eC (.int 1))) zh))))) (za (eC (.int 4)) zh))))))
  (zp (zB 3 (zo zr (za (zc 0) (za (eC (.int 78)) (za (eC (.int 3)) zh)))))
  (zp (vz 4 (fun τ=>(zh τ).bind fun ds=>if ds.length≤sizeLine then .ok ds else .no))
  (zp (wj (iEn (za (zc 1) zh)) (gPr 5 6) (zp (zB 7 fun τ=>((xa 1 [6] (xi (zo yq (za (zc 2) zh))) (gNm 0) (tB (eOp neD (zo yc (za (zc 0) (za (zc 1) zh))) (xw zh))) (z7 yL (za (zc 0) zh))) τ).bind fun ds=>.ok (.lst ds))
  (zp (sIf (tB (eOp neD (zo xr (za (zc 2) (za (zc 6) zh))) (eOp yH (z7 yL (za (zc 2) zh)) (z7 Wm (za (zc 7) zh))))) (yh (eC (.bl false))) ya)
  (zp (zB 8 (zo y9 (za (zc 2) (za (zc 6) (za (zc 3) zh)))))
  (zp (sIf (tB (eOp neD (zo zX (za (zc 2) (za (zc 6) (za (zc 3) zh)))) (zc 8))) (yh (eC (.bl false))) ya)
  (sIf (tB (eOp xY (zc 8) (eC .non))) (YH 4 (xu (za (eOp ixD (zc 8) (eC (.int 0))) (za (zc 5) zh)))) ya))))))
  (fun τ=>(zp (zB 4 (zo xt (za (zc 1) (za (zc 4) zh))))
  (yh (Xw (eOp eqD (zo zR (za (zc 1) (za (zc 2) (za (zc 3) (za (eC (.int 99)) zh))))) (zc 4)) (eOp eqD (zo zR (za (zc 1) (za (zc 2) (za (zc 3) (za (eC (.int 2)) zh))))) (eSl (zc 4) uX (wM (eC (.int 2)))))))) (uD τ)))))))
noncomputable def V5(ds:List D):Rs D:=yX 9 TF ds
noncomputable def Z3(ns:List Int)(k:Int):Int:=if ns=[] then 7*k else ns.getD (k%ns.length).toNat 0+6553*(k / ns.length)
theorem sizeLine_v:sizeLine=16777216:=sizeLine_eq
theorem ze3(ns:List Int)(k:Int)(h63:ns.length≤63)(h0:0≤k):wD [.scr ns,.int k]=.ok (.int (Z3 ns k)):=by
 have st:zV 2 [D.scr ns,.int k]=[some (.val (.scr ns)),some (.val (.int k))]:=rfl
 unfold wD Z6
 rw[zY,st]
 simp only[zG,yi,wz,ye,zE,Zn,zM,getElem?_cons_zero,zx,Rs.bind_ok,length_nil,zero_le,if_true,Ut,yf,Fl.of_ok]
 cases ns with
 |nil=>
  simp only[List.isEmpty_nil,if_true,zT,ye,yF,zE,getElem?_cons_zero,getElem?_cons_succ,zx,Rs.bind_ok,vD (i:=7) (j:=k) (.inl ⟨by decide,by decide⟩),Fl.of_ok,uQ,zL,Z3]
 |cons a r=>
  have hl:(0:Int)<((a::r).length:Int):=by simp only[length_cons];lia
  have hm0:=emod_nonneg k (show((a::r).length:Int)≠0 by lia)
  have hm1:=Int.emod_lt_of_pos k hl
  have hat:atI (a::r) (k%((a::r).length:Int))=some ((a::r).getD (k%((a::r).length:Int)).toNat 0):=by
   refine ZR hm0 ?_
   have:(k%((a::r).length:Int)).toNat<(a::r).length:=by lia
   rw[getD_eq_getElem?_getD,getElem?_eq_getElem this];rfl
  have hdv:Xr (.int k) (.int ((a::r).length:Int))=.ok (.int (k / ((a::r).length:Int))):=Yu ⟨hl,by lia⟩
  have hmd:Vd (.int k) (.int ((a::r).length:Int))=.ok (.int (k%((a::r).length:Int))):=Y6 hl
  have hml:=vD (i:=6553) (j:=k / ((a::r).length:Int)) (.inl ⟨by decide,by decide⟩)
  simp only[List.isEmpty_cons,Bool.false_eq_true,if_false,zZ,zU,zT,ye,yF,zE,wv,zq,zM,getElem?_cons_zero,getElem?_cons_succ,zx,Rs.bind_ok,MF,hmd,hdv,hml,zb9 hat,yJ,Fl.of_ok,zL]
  simp[Z3]
noncomputable def d1(ns:List Int)(k:Int):Int:=(Z3 ns k%2147483563*69069+104723*(k+1))%2147483563
noncomputable def d2(ns:List Int)(k:Int):Int:=(d1 ns k*d1 ns k+d1 ns k / 3)%2147483399
noncomputable def wx(ns:List Int)(k m:Int):Int:=(d2 ns k*d2 ns k+d2 ns k / 7)%2147483647 / 11%m
theorem wV(ns:List Int)(k m:Int)(h63:ns.length≤63)(h0:0≤k)(hk:k<1000000)(hm:0<m):zr [.scr ns,.int k,.int m]=.ok (.int (wx ns k m)):=by
 have st:zV 4 [D.scr ns,.int k,.int m]=[some (.val (.scr ns)),some (.val (.int k)),some (.val (.int m)),none]:=rfl
 have b1:0≤d1 ns k∧d1 ns k<2147483563:=⟨emod_nonneg _ (by decide),Int.emod_lt_of_pos _ (by decide)⟩
 have b2:0≤d2 ns k∧d2 ns k<2147483399:=⟨emod_nonneg _ (by decide),Int.emod_lt_of_pos _ (by decide)⟩
 have c0:=Int.emod_lt_of_pos (Z3 ns k) (show(0:Int)<2147483563 by decide)
 have c1:=emod_nonneg (Z3 ns k) (show(2147483563:Int)≠0 by decide)
 have q1:=vD (i:=Z3 ns k%2147483563) (j:=69069) (.inr ⟨by decide,by decide⟩)
 have q2:=vD (i:=104723) (j:=k+1) (.inl ⟨by decide,by decide⟩)
 have q3:=vD (i:=d1 ns k) (j:=d1 ns k) (.inl ⟨by lia,by lia⟩)
 have q4:=vD (i:=d2 ns k) (j:=d2 ns k) (.inl ⟨by lia,by lia⟩)
 have e1:(Z3 ns k%2147483563*69069+104723*(k+1))%2147483563=d1 ns k:=rfl
 have e2:(d1 ns k*d1 ns k+d1 ns k / 3)%2147483399=d2 ns k:=rfl
 have m1:=fun i=>Y6 (i:=i) (j:=2147483563) (by decide)
 have m2:=fun i=>Y6 (i:=i) (j:=2147483399) (by decide)
 have m3:=fun i=>Y6 (i:=i) (j:=2147483647) (by decide)
 have m4:=fun i=>Y6 (i:=i) (j:=m) hm
 have f3:=fun i=>Yu (i:=i) (j:=3) ⟨by decide,by decide⟩
 have f7:=fun i=>Yu (i:=i) (j:=7) ⟨by decide,by decide⟩
 have f11:=fun i=>Yu (i:=i) (j:=11) ⟨by decide,by decide⟩
 unfold zr Zv
 rw[zY,st]
 simp only[zG,zN,zT,ye,zE,yF,yE,zq,zM,getElem?_cons_zero,getElem?_cons_succ,zx,Rs.bind_ok,ze3 ns k h63 h0,xS,m1,q1,yJ,q2,e1,Fl.of_ok,zU,set_cons_succ,set_cons_zero,q3,f3,m2,e2,q4,f7,m3,f11,m4,zL]
 rfl
theorem wW(ns:List Int)(k:Int){m:Int}(hm:0<m):0≤wx ns k m∧wx ns k m<m:=⟨emod_nonneg _ (by lia),Int.emod_lt_of_pos _ hm⟩
end Law
set_option Elab.async false
set_option linter.all false
namespace FD
open PySem PySem.Spec PyProof.Rows L2
theorem Wp{set:FG}{body:FS}(f:Nat→D)(S:Nat→DS):∀(m j:Nat),(∀k,j≤k→k<j+m→∃τ1,set (f k) (S k)=.ok τ1∧body τ1=.nx (S (k+1)))→yr set body ((List.range' j m).map f) (S j)=.nx (S (j+m)):=by
 intro l_
 induction l_ with
 |zero=>
  rintro j _
  exact rfl
 |succ m ih_=>
  rintro j h
  obtain⟨τ1,h1,h2⟩:=h j (le_refl _) (by lia)
  rw[range'_succ,map_cons,yr,h1,Fl.of_ok]
  simp only[h2]
  rw[ih_ (j+1) fun k hk hk2=>h k (by lia) (by lia)]
  congr 2;lia
theorem U7{set:FG}{body:FS}(f:Nat→D)(S:Nat→DS)(n:Nat)(h:∀k,k<n→∃τ1,set (f k) (S k)=.ok τ1∧body τ1=.nx (S (k+1))):yr set body ((List.range n).map f) (S 0)=.nx (S n):=by
 have:=Wp f S n 0 fun k _ hk=>h k (by lia)
 rw[zero_add] at this
 rwa [range_eq_range']
theorem W2{fs:FA}{τ:DS}{j:Int}(h:fs τ=.ok [.int j])(h1 : -(2 ^ 62)≤j)(h2:j<2 ^ 62):uN fs τ=.ok (YK 0 j.toNat):=by
 unfold uN
 rw[h]
 simp only[Rs.bind_ok,MZ]
 rw[if_pos ⟨h1,h2⟩]
theorem WR(a:List Nat)(c:Nat):(⟨a.toArray⟩:Str)++(⟨#[c]⟩:Str)=⟨(a++[c]).toArray⟩:=by
 show Str.mk _=_
 simp
theorem vH{n:Nat}{d:D}{τ:DS}:gNm n d τ=.ok (τ.set n (some (.val d))):=rfl
end FD
namespace Law
open PySem PySem.Spec PyProof.Rows L2 FD
noncomputable def A18:List Nat:=[97,98,99,97,98,65,66,67,97,98,49,95,45,46,47,120,121,122]
noncomputable def Wj(ns:List Int)(a:Int):Nat:=(1+wx ns a 10).toNat
noncomputable def MA(ns:List Int)(a:Int)(k:Nat):Nat:=A18.getD (wx ns (a+1+k) 18).toNat 0
noncomputable def vR(ns:List Int)(a:Int)(n:Nat):List Nat:=(List.range n).map (MA ns a)
theorem a18:("abcabABCab1_-./xyz" : Str).cps.toList=A18:=by decide +kernel
theorem L4(ns:List Int)(a:Int)(h63:ns.length≤63)(h0:0≤a)(ha:a<900000):xE [.scr ns,.int a]=.ok (.str ⟨(vR ns a (Wj ns a)).toArray⟩):=by
 have st:zV 4 [D.scr ns,.int a]=[some (.val (.scr ns)),some (.val (.int a)),none,none]:=rfl
 have dl:=wW ns a (m:=10) (by decide)
 unfold xE Z4
 rw[zY,st,zG,zN,yF,Fl.of_ok,zU,zG,xP]
 have r1:=W2 (fs:=za (eOp zI (eC (.int 1)) (zo zr (za (zc 0) (za (zc 1) (za (eC (.int 10)) zh))))) zh) (τ:=[some (.val (.scr ns)),some (.val (.int a)),some (.val (.str "")),none]) (j:=1+wx ns a 10)
  (by simp only[zq,zM,ye,yF,yE,zE,getElem?_cons_zero,getElem?_cons_succ,zx,Rs.bind_ok,wV ns a 10 h63 h0 (by lia) (by decide),xS,yJ]) (by lia) (by lia)
 simp only[set_cons_succ,set_cons_zero]
 rw[r1,Fl.of_ok]
 let S:Nat→DS:=fun k=>[some (.val (.scr ns)),some (.val (.int a)),some (.val (.str ⟨(vR ns a k).toArray⟩)),if k=0 then none else some (.val (.int ((k:Int)-1)))]
 have s0:S 0=[some (.val (.scr ns)),some (.val (.int a)),some (.val (.str "")),none]:=by
  simp only[S,vR,List.range_zero,map_nil,if_true]
  rfl
 rw[← s0]
 have lp:=U7 (set:=gNm 3) (body:=(zB 2 (eOp zI (zc 2) (eOp ixD (eC (.str "abcabABCab1_-./xyz")) (zo zr (za (zc 0) (za (eOp zI (eOp zI (zc 1) (eC (.int 1))) (zc 3)) (za (eC (.int 18)) zh)))))))) (fun (k:Nat)=>D.int (0+k)) S (1+wx ns a 10).toNat fun k hk=>by
  refine⟨_,vH,?_⟩
  have hk':(k:Int)<20:=by lia
  have dk:=wW ns (a+1+(0+(k:Int))) (m:=18) (by decide)
  have hd:=wV ns (a+1+(0+(k:Int))) 18 h63 (by lia) (by lia) (by decide)
  have hix:=Ze (a := "abcabABCab1_-./xyz") (k:=wx ns (a+1+(0+(k:Int))) 18) (c:=A18.getD (wx ns (a+1+(0+(k:Int))) 18).toNat 0) (ZR dk.1 (by
   rw[a18]
   have:(wx ns (a+1+(0+(k:Int))) 18).toNat<A18.length:=by
    have:A18.length=18:=rfl
    lia
   rw[getD_eq_getElem?_getD,getElem?_eq_getElem this];rfl)) (by decide +kernel)
  have hadd:=Vs (a:=⟨(vR ns a k).toArray⟩) (b:=⟨#[A18.getD (wx ns (a+1+(0+(k:Int))) 18).toNat 0]⟩) (by
   show(vR ns a k).toArray.size+1≤sizeLine
   rw[sizeLine_v,size_toArray]
   simp only[vR,length_map,length_range];lia)
  simp only[S,set_cons_succ,set_cons_zero,zN,ye,yF,yE,zq,zM,zE,getElem?_cons_zero,getElem?_cons_succ,zx,Rs.bind_ok,yJ,hd,xS,hix,zt,hadd,Fl.of_ok,WR]
  have e1:vR ns a k++[A18.getD (wx ns (a+1+(0+(k:Int))) 18).toNat 0]=vR ns a (k+1):=by
   simp only[vR,List.range_succ,map_append,map_cons,map_nil,MA,Int.zero_add]
  rw[e1]
  simp
 unfold YK
 rw[lp,zU]
 simp only[S,zT,zE,getElem?_cons_zero,getElem?_cons_succ,zx,Fl.of_ok,zL]
 rfl
end Law
set_option Elab.async false
set_option linter.all false
namespace FD
open PySem PySem.Spec PyProof.Rows L2
theorem V6{set:FG}{body:FS}(f:Nat→D)(I:Nat→DS→Prop):∀(m j:Nat) (τ:DS),I j τ→(∀k τ,j≤k→k<j+m→I k τ→∃τ1 τ2,set (f k) τ=.ok τ1∧body τ1=.nx τ2∧I (k+1) τ2)→∃τ',yr set body ((List.range' j m).map f) τ=.nx τ'∧I (j+m) τ':=by
 intro l_
 induction l_ with
 |zero=>
  rintro j τ h _
  exact⟨τ,rfl,h⟩
 |succ m ih_=>
  rintro j τ h hs
  obtain⟨τ1,τ2,h1,h2,h3⟩:=hs j τ (le_refl _) (by lia) h
  obtain⟨τ',h4,h5⟩:=ih_ (j+1) τ2 h3 fun k τ hk hk2=>hs k τ (by lia) (by lia)
  refine⟨τ',?_,by rw[show j+(m+1)=j+1+m by lia];exact h5⟩
  rw[range'_succ,map_cons,yr,h1,Fl.of_ok]
  simp only[h2,h4]
theorem jr{set:FG}{body:FS}(f:Nat→D)(I:Nat→DS→Prop)(n:Nat)(τ:DS)(h0:I 0 τ)(h:∀k τ,k<n→I k τ→∃τ1 τ2,set (f k) τ=.ok τ1∧body τ1=.nx τ2∧I (k+1) τ2):∃τ',yr set body ((List.range n).map f) τ=.nx τ'∧I n τ':=by
 obtain⟨τ',h1,h2⟩:=V6 f I n 0 τ h0 fun k τ _ hk hi=>h k τ (by lia) hi
 rw[zero_add] at h2
 exact⟨τ',by rw[range_eq_range'];exact h1,h2⟩
end FD
namespace Law
open PySem PySem.Spec PyProof.Rows L2 FD
noncomputable def QS:List Nat:=[97,98,99,120,121,122,65,66,49]
noncomputable def MK:List Nat:=[95,45,46,47]
theorem U1:("_-./" : Str).cps.toList=MK:=by decide +kernel
theorem L6(c:Nat):xF [zt c]=.ok (.bl (decide (c∈MK))):=by
 have st:zV 1 [zt c]=[some (.val (zt c))]:=rfl
 unfold xF Z5
 rw[zY,st]
 simp only[zT,ye,zE,yF,getElem?_cons_zero,zx,Rs.bind_ok,zt,Zi,wq,U1,Fl.of_ok,zL]
theorem GN(x:List Nat){i j:Int}(h0:0≤i)(h1:i≤j)(h2:j≤x.length):Txt.slice (⟨x.toArray⟩:Str) (some i) (some j)=⟨((x.drop i.toNat).take (j-i).toNat).toArray⟩:=by
 have:=slice_closesL (x:=⟨x.toArray⟩) (i:=i) (j:=j) h0 h1 (by show j≤((x.toArray.size:Nat):Int);simpa using h2)
 exact eq_of_beq this
theorem Ql(x:List Nat)(p:Nat)(hp:p<x.length):Txt.slice (⟨x.toArray⟩:Str) (some (p:Int)) (some ((p:Int)+1))=⟨#[x[p]]⟩:=by
 rw[GN x (by lia) (by lia) (by lia)]
 have e1:((p:Int)+1-(p:Int)).toNat=1:=by lia
 have e2:((p:Int)).toNat=p:=by lia
 rw[e1,e2,drop_eq_getElem_cons hp]
 rfl
theorem QJ(c:Nat)(h:c<128):Txt.lower (⟨#[c]⟩:Str)=⟨#[lo1 c]⟩:=by
 rw[lower_ascii (x:=⟨#[c]⟩) (by intro d hd;have e:d=c:=(by simpa using hd);lia)]
 simp
noncomputable def NS:List Nat:=[97,98,99,65,66,67,49,95,45,46,47,120,121,122]
theorem QF(ns:List Int)(a:Int)(k:Nat)(h:0≤a+1+k):MA ns a k∈NS:=by
 have d:=wW ns (a+1+k) (m:=18) (by decide)
 have hall:∀n,n<18→A18.getD n 0∈NS:=by decide
 exact hall _ (by lia)
noncomputable def S6:List Nat:=[97,98,65,66,49,99]
theorem s6_l:("abAB1c" : Str).cps.toList=S6:=by decide +kernel
theorem JO:∀c∈NS,c<128∧(lo1 c∈QS∨lo1 c∈MK):=by decide
theorem Lm:∀n,n<6→S6.getD n 0∈QS:=by decide
set_option maxHeartbeats 1000000
noncomputable def VV:FS:=(zp (zB 5 (z7 vo (za (eOp yH (z7 yL (za (zc 2) zh)) (eC (.int 1))) (za (eOp zI (zc 5) (zo zr (za (zc 0) (za (eOp zI (eOp zI (zc 1) (eC (.int 1))) (eOp wP (eC (.int 3)) (zc 6))) (za (eC (.int 3)) zh))))) zh))))
  (zp (zB 7 (Ji "str" loD (eOr (eSl (zc 2) (wM (zc 5)) (wM (eOp zI (zc 5) (eC (.int 1))))) (eC (.str "a")))))
  (zp (zB 5 (eOp zI (zc 5) (eC (.int 1))))
  (zp (sIf (FD.tB (eOp eqD (zo zr (za (zc 0) (za (eOp zI (eOp zI (zc 1) (eC (.int 2))) (eOp wP (eC (.int 3)) (zc 6))) (za (eC (.int 5)) zh)))) (eC (.int 0)))) (zB 7 (eOp ixD (eC (.str "abAB1c")) (zo zr (za (zc 0) (za (eOp zI (eOp zI (zc 1) (eC (.int 3))) (eOp wP (eC (.int 3)) (zc 6))) (za (eC (.int 6)) zh)))))) ya)
  (sIf (ZT (uR (zo xF (za (zc 7) zh)))) (zB 4 (eOp zI (zc 4) (zc 7))) ya)))))
noncomputable def qSt(ns:List Int)(a:Int)(x:List Nat)(most:Int)(q:List Nat)(p:Int)(s1 s2:Option Sl):DS:=
 [some (.val (.scr ns)),some (.val (.int a)),some (.val (.str ⟨x.toArray⟩)),some (.val (.int most)),some (.val (.str ⟨q.toArray⟩)),some (.val (.int p)),s1,s2]
theorem US(ns:List Int)(a:Int)(x:List Nat)(most:Int)(q:List Nat)(p:Int)(k:Nat)(s2:Option Sl)(h63:ns.length≤63)(h0:0≤a)(ha:a<900000)(hk:k<100)(hx0:0<x.length)(hx1:x.length≤100)(hx:∀c∈x,c∈NS)(hq:q.length≤100)(hqs:∀c∈q,c∈QS)(hp:0≤p) :
  ∃q' p' s',VV (qSt ns a x most q p (some (.val (.int (0+k)))) s2)=.nx (qSt ns a x most q' p' (some (.val (.int (0+k)))) s')∧q'.length≤q.length+1∧(∀c∈q',c∈QS)∧0≤p':=by
 have hl:((⟨x.toArray⟩:Str).length:Int)=x.length:=by show((x.toArray.size:Nat):Int)=_;simp
 have hsz:(⟨x.toArray⟩:Str).length≤sizeLine:=by rw[sizeLine_v];show x.toArray.size≤_;simp;lia
 have m3:=vD (i:=3) (j:=0+(k:Int)) (.inl ⟨by decide,by decide⟩)
 have g1:=wV ns (a+1+3*(0+(k:Int))) 3 h63 (by lia) (by lia) (by decide)
 have g2:=wV ns (a+2+3*(0+(k:Int))) 5 h63 (by lia) (by lia) (by decide)
 have g3:=wV ns (a+3+3*(0+(k:Int))) 6 h63 (by lia) (by lia) (by decide)
 have b1:=wW ns (a+1+3*(0+(k:Int))) (m:=3) (by decide)
 have b3:=wW ns (a+3+3*(0+(k:Int))) (m:=6) (by decide)
 generalize wx ns (a+1+3*(0+(k:Int))) 3=e1 at *
 generalize wx ns (a+2+3*(0+(k:Int))) 5=e2 at *
 generalize wx ns (a+3+3*(0+(k:Int))) 6=e3 at *
 obtain⟨n,hn,hmin⟩:∃n:Nat,n<x.length∧(if p+e1<(x.length:Int)-1 then p+e1 else (x.length:Int)-1)=(n:Int):=by
  by_cases h:p+e1<(x.length:Int)-1
  ·exact⟨(p+e1).toNat,by lia,by rw[if_pos h];lia⟩
  ·exact⟨x.length-1,by lia,by rw[if_neg h];lia⟩
 have hmn:vo [.int ((x.length:Int)-1),.int (p+e1)]=.ok (.int n):=by
  simp only[vo,X1];rw[hmin]
 have hsl:slD (.str ⟨x.toArray⟩) (some (n:Int)) (some ((n:Int)+1))=.ok (.str ⟨#[x[n]]⟩):=by
  simp only[slD]
  rw[if_pos hsz,Ql x n hn]
 have hxn:=hx x[n] (getElem_mem hn)
 have hlo:loD (.str ⟨#[x[n]]⟩) []=.ok (.str ⟨#[lo1 x[n]]⟩):=by
  simp only[loD]
  rw[if_pos (by show 1≤5000000;decide),QJ _ (JO _ hxn).1]
 have htr:Zy (.str ⟨#[x[n]]⟩)=.ok true:=by
  rw[Gy (by rw[sizeLine_v];show 1≤_;decide)];rfl
 have hix:ixD (.str "abAB1c") (.int e3)=.ok (zt (S6.getD e3.toNat 0)):=Ze (ZR b3.1 (by
   rw[s6_l]
   have:e3.toNat<S6.length:=by show e3.toNat<6;lia
   rw[getD_eq_getElem?_getD,getElem?_eq_getElem this];rfl)) (by decide +kernel)
 have key:∀c:Nat,(c∈QS∨c∈MK)→∃q' s',(sIf (ZT (uR (zo xF (za (zc 7) zh)))) (zB 4 (eOp zI (zc 4) (zc 7))) ya) (qSt ns a x most q ((n:Int)+1) (some (.val (.int (0+k)))) (some (.val (zt c))))=.nx (qSt ns a x most q' ((n:Int)+1) (some (.val (.int (0+k)))) s')∧q'.length≤q.length+1∧∀c∈q',c∈QS:=fun c hc=>by
  have hadd:=Vs (a:=⟨q.toArray⟩) (b:=⟨#[c]⟩) (by
   show q.toArray.size+1≤sizeLine
   rw[sizeLine_v,size_toArray];lia)
  simp only[qSt,yi,Jt,vP,yE,zq,zM,zE,getElem?_cons_zero,getElem?_cons_succ,zx,Rs.bind_ok,L6,xS,wo,Fl.of_ok]
  by_cases hm:c∈MK
  ·exact⟨q,some (.val (zt c)),by simp only[hm,decide_true,Bool.not_true,Bool.false_eq_true,if_false,zZ],by lia,hqs⟩
  ·refine⟨q++[c],some (.val (zt c)),by simp only[hm,decide_false,Bool.not_false,if_true,zN,ye,zE,getElem?_cons_zero,getElem?_cons_succ,zx,Rs.bind_ok,zt,hadd,Fl.of_ok,set_cons_succ,set_cons_zero,WR],by simp,fun d hd=>?_⟩
   rcases mem_append.mp hd with h|h
   ·exact hqs d h
   ·have:d=c:=by simpa using h
    subst this
    exact hc.resolve_right hm
 unfold VV
 simp only[qSt,zG,zN,wv,zq,zM,ye,zE,yF,yE,getElem?_cons_zero,getElem?_cons_succ,zx,Rs.bind_ok,V9 hsz,hl,yY,yJ,m3,g1,xS,hmn,Fl.of_ok,set_cons_succ,set_cons_zero,zU,
  J4,Vm,Tg,Y4,VL,hsl,htr,if_true,ZK,decide_true,hlo,yi,wz,g2,vI,yf]
 by_cases hz:e2=0
 ·subst hz
  obtain⟨q',s',h1,h2,h3⟩:=key (S6.getD e3.toNat 0) (.inl (Lm _ (by lia)))
  simp only[qSt] at h1
  refine⟨q',(n:Int)+1,s',?_,h2,h3,by lia⟩
  simp only[beq_self_eq_true,if_true,g3,xS,Rs.bind_ok,hix,Fl.of_ok,zU]
  exact h1
 ·obtain⟨q',s',h1,h2,h3⟩:=key (lo1 x[n]) (JO _ hxn).2
  simp only[qSt] at h1
  refine⟨q',(n:Int)+1,s',?_,h2,h3,by lia⟩
  have hb:(e2==0)=false:=by simpa using hz
  simp only[hb,Bool.false_eq_true,if_false,zZ,zU]
  exact h1
theorem G1(ns:List Int)(a:Int)(x:List Nat)(most:Int)(h63:ns.length≤63)(h0:0≤a)(ha:a<900000)(hm0:0≤most)(hm1:most<50)(hx0:0<x.length)(hx1:x.length≤100)(hx:∀c∈x,c∈NS) :
  ∃q:List Nat,(q.length:Int)≤most∧(∀c∈q,c∈QS)∧xU [.scr ns,.int a,.str ⟨x.toArray⟩,.int most]=.ok (.str ⟨q.toArray⟩):=by
 have st:zV 8 [D.scr ns,.int a,.str ⟨x.toArray⟩,.int most]=[some (.val (.scr ns)),some (.val (.int a)),some (.val (.str ⟨x.toArray⟩)),some (.val (.int most)),none,none,none,none]:=rfl
 have dl:=wW ns a (m:=most+1) (by lia)
 have dk:=wV ns a (most+1) h63 h0 (by lia) (by lia)
 generalize hN:wx ns a (most+1)=N at *
 have r1:=W2 (fs:=za (zo zr (za (zc 0) (za (zc 1) (za (eOp zI (zc 3) (eC (.int 1))) zh)))) zh) (τ:=qSt ns a x most [] 0 none none) (j:=N)
  (by simp only[qSt,zq,zM,ye,yF,yE,zE,getElem?_cons_zero,getElem?_cons_succ,zx,Rs.bind_ok,yJ,dk,xS]) (by lia) (by lia)
 obtain⟨τ',l1,q,p,s1,s2,rfl,l2,l3,l4⟩:=jr (set:=gNm 6) (body:=VV) (fun (k:Nat)=>D.int (0+k)) (fun k τ=>∃q p s1 s2,τ=qSt ns a x most q p s1 s2∧q.length≤k∧(∀c∈q,c∈QS)∧0≤p) N.toNat (qSt ns a x most [] 0 none none)
  ⟨[],0,none,none,rfl,le_refl _,(fun _ h=>nomatch h),Int.le_refl _⟩ fun k τ hk z_=>by
   obtain⟨q,p,s1,s2,e,h1,h2,h3⟩:=z_
   subst e
   obtain⟨q',p',s',g1,g2,g3,g4⟩:=US ns a x most q p k s2 h63 h0 ha (by lia) hx0 hx1 hx (by lia) h2 h3
   exact⟨_,_,vH,g1,q',p',_,s',rfl,by lia,g3,g4⟩
 refine⟨q,by lia,l3,?_⟩
 have s0:qSt ns a x most [] 0 none none=[some (.val (.scr ns)),some (.val (.int a)),some (.val (.str ⟨x.toArray⟩)),some (.val (.int most)),some (.val (.str "")),some (.val (.int 0)),none,none]:=rfl
 unfold xU Zt
 rw[zY,st,zG,zN,yF,Fl.of_ok,zU,zG,zN,yF,Fl.of_ok,zU,zG,xP]
 simp only[set_cons_succ,set_cons_zero]
 rw[← s0,r1,Fl.of_ok]
 unfold YK
 have l1':yr (gNm 6) VV ((List.range N.toNat).map fun (k:Nat)=>D.int (0+k)) (qSt ns a x most [] 0 none none)=.nx (qSt ns a x most q p s1 s2):=l1
 unfold VV at l1'
 rw[l1',zU]
 simp only[qSt,zT,zE,getElem?_cons_zero,getElem?_cons_succ,zx,Fl.of_ok,zL]
noncomputable def yG(c d:Nat):Bool:=c==d||(decide (97≤c∧c≤122)&&up1 c==d)
theorem Le:("abcdefghijklmnopqrstuvwxyz" : Str).cps.toList=(List.range 26).map (· + 97):=by decide +kernel
theorem v7(c:Nat):decide (c∈("abcdefghijklmnopqrstuvwxyz" : Str).cps.toList)=decide (97≤c∧c≤122):=by
 rw[Le]
 apply decide_eq_decide.mpr
 rw[mem_map]
 constructor
 ·rintro⟨i,hi,rfl⟩
  have:=mem_range.mp hi
  lia
 ·intro h
  exact⟨c-97,mem_range.mpr (by lia),by lia⟩
theorem Qc(c:Nat)(h:c<128):Txt.upper (⟨#[c]⟩:Str)=⟨#[up1 c]⟩:=by
 rw[upper_ascii (x:=⟨#[c]⟩) (by intro d hd;have e:d=c:=(by simpa using hd);lia)]
 simp
theorem YX(c d:Nat):((⟨#[c]⟩:Str)==⟨#[d]⟩)=(c==d):=by
 rw[Bool.eq_iff_iff]
 simp
theorem Y9(c d:Nat)(hc:c<128):wb [zt c,zt d]=.ok (.bl (yG c d)):=by
 have st:zV 2 [zt c,zt d]=[some (.val (zt c)),some (.val (zt d))]:=rfl
 have hup:upD (.str ⟨#[c]⟩) []=.ok (.str ⟨#[up1 c]⟩):=by
  simp only[upD]
  rw[if_pos (by show 1≤5000000;decide),Qc _ hc]
 unfold wb J9
 rw[zY,st]
 simp only[zT,Vm,Zq,ye,zE,yF,J4,getElem?_cons_zero,getElem?_cons_succ,zx,Rs.bind_ok,zt,WG,YX,wo,Zi,wq,v7,ZK,decide_true,if_true,hup]
 unfold yG
 by_cases h:c=d
 ·subst h;simp
 ·have hb:(c==d)=false:=by simpa using h
  simp only[hb,Bool.false_eq_true,if_false,Bool.false_or]
  by_cases h2:97≤c∧c≤122
  ·simp[h2]
  ·simp[h2]
end Law
set_option Elab.async false
set_option linter.all false
set_option maxHeartbeats 1000000
namespace FD
open PySem PySem.Spec PyProof.Rows L2
section
variable{τ:DS}{fa fb fe fi:FE}{fs:FA}{n:Nat}{i:Int}
theorem Zo:Zp n τ=(Up τ[n]?).bind fun ds=>.ok (.int ds.length):=rfl
theorem jl:YH n fe τ=Fl.of (Up τ[n]?) fun ds=>Fl.of (fe τ) fun d=>if ds.length<sizeLine then .nx (τ.set n (some (.own (ds++[d])))) else .no:=rfl
theorem Zj:xi fe τ=(fe τ).bind JU:=rfl
@[simp] theorem MR{x:Str}:JU (.str x)=.ok (um x):=rfl
@[simp] theorem MS{ds:List D}:JU (.lst ds)=.ok ds:=rfl
noncomputable def putAt(n:Nat)(ds:List D)(d:D)(τ:DS):D→Fl
 |.int k=>match ixN ds.length k with
  |some j=>.nx (τ.set n (some (.own (ds.set j d))))
  |none=>.no
 |_=>.no
theorem WY:Qo n fi fe τ=Fl.of (fe τ) fun d=>Fl.of (Up τ[n]?) fun ds=>Fl.of (fi τ) (putAt n ds d τ):=by
 unfold Qo jC
 cases fe τ <;> rfl
theorem G3{ds:List D}{d:D}{j:Nat}(h:j<ds.length):putAt n ds d τ (.int j)=.nx (τ.set n (some (.own (ds.set j d)))):=by
 have:ixN ds.length (j:Int)=some j:=by
  unfold ixN
  rw[if_pos (by lia),if_pos (by lia)]
  simp
 simp only[putAt,this]
noncomputable def ixO(ds:List D):D→Rs D
 |.int k=>match atI ds k with
  |some d=>.ok d
  |none=>.no
 |_=>.no
theorem zd8:Q9 n fi τ=(Up τ[n]?).bind fun ds=>(fi τ).bind (ixO ds):=by
 unfold Q9
 show(Up τ[n]?).bind _=_
 cases Up τ[n]? <;> rfl
end
end FD
namespace Law
open PySem PySem.Spec PyProof.Rows L2 FD
noncomputable abbrev tx(x:List Nat):D:=.str ⟨x.toArray⟩
noncomputable abbrev nts(x:List Nat):D:=.lst (x.map fun (k:Nat)=>D.int k)
theorem xG(x:List Nat)(h:x.length≤1000):yL [tx x]=.ok (.int x.length):=by
 rw[V9 (by rw[sizeLine_v];show x.toArray.size≤_;simp;lia)]
 show Rs.ok (D.int ((x.toArray.size:Nat):Int))=_
 simp
theorem Gv(x:List Nat)(j:Nat)(c:Nat)(h:x[j]?=some c)(hl:x.length≤1000):ixD (tx x) (.int j)=.ok (zt c):=by
 refine Ze (ZR (by lia) (by simpa using h)) (by rw[sizeLine_v];show x.toArray.size≤_;simp;lia)
theorem VB(x:List Nat):um ⟨x.toArray⟩=x.map zt:=by simp[um]
noncomputable def epR:List Nat→List Nat→Nat→List Nat
 |[],_,_=>[]
 |_::_,[],_=>[]
 |a::q,c::x,k=>if yG a c=true then k::epR q x (k+1) else epR (a::q) x (k+1)
noncomputable def wY:List Nat→List Nat→Bool
 |[],_=>true
 |_::_,[]=>false
 |a::q,c::x=>if yG a c=true then wY q x else wY (a::q) x
theorem Zk:∀(q x:List Nat) (k:Nat),((epR q x k).length=q.length)↔wY q x=true
 |[],x,k=>by simp[epR,wY]
 |a::q,[],k=>by simp[epR,wY]
 |a::q,c::x,k=>by
  simp only[epR,wY]
  split
  ·simpa using Zk q x (k+1)
  ·exact Zk (a::q) x (k+1)
noncomputable abbrev its(x:List Int):D:=.lst (x.map D.int)
noncomputable def W1(n:Int):Int→List Int→Bool
 |_,[]=>true
 |a,t::r=>if t<a∨n≤t then false else W1 n (t+1) r
noncomputable def mt2(x:List Nat):List Nat→List Int→List Bool
 |a::q,t::l=>yG a (x.getD t.toNat 0)::mt2 x q l
 |_,_=>[]
theorem Uy:∀bs:List Bool,wX (bs.map D.bl)=some bs:=by
 intro l_
 induction l_ with
 |nil=>
  exact rfl
 |cons b r ih_=>
  simp only[map_cons,wX,ih_];rfl
noncomputable def zo6(q x:List Nat)(l:List Int):Bool:=(l.length==q.length)&&(W1 x.length 0 l&&(mt2 x q l).all id)
theorem vd{set:FG}{fe:FE}{τ:DS}{α β:Type}(f:α→D)(g:β→D)(h:α→β):∀(xs:List α),(∀a∈xs,∃τ1,set (f a) τ=.ok τ1∧fe τ1=.ok (g (h a)))→vq set (fun _=>.ok true) fe τ (xs.map f)=.ok ((xs.map h).map g):=by
 intro l_
 induction l_ with
 |nil=>
  rintro _
  exact rfl
 |cons a xs ih_=>
  rintro hs
  obtain⟨τ1,h1,h2⟩:=hs a (mem_cons_self ..)
  rw[map_cons,vq,h1]
  simp only[h2,ih_ fun b hb=>hs b (mem_cons_of_mem _ hb),Rs.bind_ok,map_cons]
end Law
set_option Elab.async false
set_option linter.all false
set_option maxHeartbeats 1000000
namespace FD
open PySem PySem.Spec PyProof.Rows L2
theorem uY(x:List Nat):(⟨x.toArray⟩:Str).length=x.length:=by show x.toArray.size=_;simp
theorem GM(x:List Nat)(n:Nat):Txt.slice (⟨x.toArray⟩:Str) none (some (n:Int))=⟨(x.take n).toArray⟩:=by
 have:=eq_of_beq (slice_to_min_closes (x:=⟨x.toArray⟩) (n:=(n:Int)) (m:=_) (by lia) rfl)
 rw[this]
 congr 2
 rw[uY]
 show(List.drop (0:Int).toNat x).take _=_
 rw[show(0:Int).toNat=0 from rfl,drop_zero]
 split
 ·rw[take_of_length_le (by lia),take_of_length_le (by lia)]
 ·congr 1
theorem UN(x:List Nat)(i:Nat)(h:i≤x.length):Txt.slice (⟨x.toArray⟩:Str) (some (i:Int)) none=⟨(x.drop i).toArray⟩:=by
 have:=eq_of_beq (slice_closes_fromL (x:=⟨x.toArray⟩) (i:=(i:Int)) (b:=_) (by lia) (by rw[uY];lia) rfl)
 rw[this]
 congr 2
 rw[uY,toNat_natCast]
 show(List.drop i x).take _=_
 rw[take_of_length_le (by rw[length_drop];lia)]
theorem T9(a b:List Nat):(⟨a.toArray⟩:Str)++(⟨b.toArray⟩:Str)=⟨(a++b).toArray⟩:=by
 show Str.mk _=_
 simp
theorem ve{set:FG}{ft:FT}{fe:FE}{τ:DS}{α:Type}(f g:α→D)(p:α→Bool):∀(xs:List α),(∀a∈xs,∃τ1,set (f a) τ=.ok τ1∧ft τ1=.ok (p a)∧fe τ1=.ok (g a))→vq set ft fe τ (xs.map f)=.ok ((xs.filter p).map g):=by
 intro l_
 induction l_ with
 |nil=>
  rintro _
  exact rfl
 |cons a xs ih_=>
  rintro hs
  obtain⟨τ1,h1,h2,h3⟩:=hs a (mem_cons_self ..)
  have ih:=ih_ fun b hb=>hs b (mem_cons_of_mem _ hb)
  rw[map_cons,vq,h1]
  cases hp:p a
  ·rw[hp] at h2
   simp only[h2,ih,List.filter_cons,hp,Bool.false_eq_true,if_false]
  ·rw[hp] at h2
   simp only[h2,h3,ih,List.filter_cons,hp,if_true,Rs.bind_ok,map_cons]
end FD
namespace Law
open PySem PySem.Spec PyProof.Rows L2 FD
theorem f1:∀a∈QS,∀c∈NS,yG (lo1 a) c=yG (lo1 a) (lo1 c):=by decide
theorem f2:∀a∈QS,∀c∈NS,yG a c=true→yG (lo1 a) c=true:=by decide
theorem f3:∀a∈QS,∀c∈NS,yG a c=true→lo1 c=lo1 a:=by decide
theorem f5:∀c∈NS,c<128∧lo1 c<128:=by decide
theorem f6:∀c∈QS,c<128∧lo1 c<128:=by decide
theorem Jg(n:Int):∀(q x:List Nat) (k:Nat) (a:Int),a≤k→(k:Int)+x.length≤n→W1 n a ((epR q x k).map fun (t:Nat)=>(t:Int))=true
 |[],x,k,a,_,_=>by simp[epR,W1]
 |_::_,[],k,a,_,_=>by simp[epR,W1]
 |b::q,c::x,k,a,h1,h2=>by
  simp only[length_cons] at h2
  simp only[epR]
  split
  ·simp only[map_cons,W1]
   rw[if_neg (by lia)]
   exact Jg n q x (k+1) _ (by lia) (by lia)
  ·exact Jg n (b::q) x (k+1) a (by lia) (by lia)
theorem WH{x0 x:List Nat}{c k:Nat}(h:x0.drop k=c::x):x0.drop (k+1)=x∧x0.getD k 0=c:=by
 have h1:x0[k]?=some c:=by
  have:=congrArg (fun l=>l[0]?) h
  simpa using this
 constructor
 ·rw[← List.drop_drop,h];rfl
 ·rw[getD_eq_getElem?_getD,h1];rfl
theorem Tf(x0:List Nat)(f:Nat→Nat):∀(q x:List Nat) (k:Nat),x0.drop k=x→(∀a∈q,∀c∈x,yG a c=true→yG (f a) c=true)→(mt2 x0 (q.map f) ((epR q x k).map fun (t:Nat)=>(t:Int))).all id=true
 |[],x,k,_,_=>by simp[epR,mt2]
 |_::_,[],k,_,_=>by simp[epR,mt2]
 |b::q,c::x,k,h1,h2=>by
  obtain⟨h3,h4⟩:=WH h1
  simp only[epR]
  split
  ·rename_i hm
   simp only[map_cons,mt2,toNat_natCast,h4,h2 b (mem_cons_self ..) c (mem_cons_self ..) hm,List.all_cons,id,Bool.true_and]
   exact Tf x0 f q x (k+1) h3 fun a ha d hd=>h2 a (mem_cons_of_mem _ ha) d (mem_cons_of_mem _ hd)
  ·exact Tf x0 f (b::q) x (k+1) h3 fun a ha d hd=>h2 a ha d (mem_cons_of_mem _ hd)
structure Lay(q x l:List Nat):Prop where
 len:l.length=q.length
 ris:∀j,j+1<l.length→l.getD j 0<l.getD (j+1) 0
 inn:∀j,j<l.length→l.getD j 0<x.length
 met:∀j,j<l.length→yG (q.getD j 0) (x.getD (l.getD j 0) 0)=true
noncomputable abbrev toI(l:List Nat):List Int:=l.map fun (t:Nat)=>(t:Int)
theorem W0(n:Nat):∀(l:List Nat) (a:Nat),W1 n a (toI l)=true↔((∀j,j+1<l.length→l.getD j 0<l.getD (j+1) 0)∧(∀j,j<l.length→l.getD j 0<n)∧(0<l.length→a≤l.getD 0 0)):=by
 intro l_
 induction l_ with
 |nil=>
  rintro a
  simp[W1]
 |cons t r ih_=>
  rintro a
  have ih:=ih_ (t+1)
  simp only[map_cons,W1]
  constructor
  ·intro h
   split at h
   ·cases h
   ·rename_i g
    have e:((t:Int)+1)=((t+1:Nat):Int):=by lia
    rw[e] at h
    obtain⟨h1,h2,h3⟩:=ih.mp h
    refine⟨fun j hj=>?_,fun j hj=>?_,fun _=>?_⟩
    ·cases j with
     |zero=>have:=h3 (by simpa using hj);exact Nat.lt_of_succ_le (by simpa using this)
     |succ j=>simpa using h1 j (by simpa using hj)
    ·cases j with
     |zero=>simp;lia
     |succ j=>simpa using h2 j (by simpa using hj)
    ·simp;lia
  ·rintro⟨h1,h2,h3⟩
   have a1:=h2 0 (by simp)
   have a2:=h3 (by simp)
   simp only[getD_cons_zero] at a1 a2
   rw[if_neg (by lia)]
   have e:((t:Int)+1)=((t+1:Nat):Int):=by lia
   rw[e]
   refine ih.mpr ⟨fun j hj=>?_,fun j hj=>?_,fun h0=>?_⟩
   ·simpa using h1 (j+1) (by simpa using hj)
   ·simpa using h2 (j+1) (by simpa using hj)
   ·exact Nat.succ_le_of_lt (by simpa using h1 0 (by simpa using h0))
theorem Vc(x:List Nat):∀(q l:List Nat),l.length=q.length→((mt2 x q (toI l)).all id=true↔∀j,j<l.length→yG (q.getD j 0) (x.getD (l.getD j 0) 0)=true)
 |[],[],_=>by simp[mt2]
 |[],_::_,h=>by simp at h
 |_::_,[],h=>by simp at h
 |a::q,t::l,h=>by
  have ih:=Vc x q l (by simpa using h)
  simp only[map_cons,mt2,List.all_cons,id,Bool.and_eq_true,toNat_natCast]
  rw[ih]
  constructor
  ·rintro⟨h1,h2⟩ j hj
   cases j with
   |zero=>simpa using h1
   |succ j=>simpa using h2 j (by simpa using hj)
  ·intro h1
   exact⟨by simpa using h1 0 (by simp),fun j hj=>by simpa using h1 (j+1) (by simpa using hj)⟩
theorem zb3(q x l:List Nat):zo6 q x (toI l)=true↔Lay q x l:=by
 unfold zo6
 simp only[Bool.and_eq_true,beq_iff_eq,length_map]
 constructor
 ·rintro⟨h1,h2,h3⟩
  obtain⟨a,b,_⟩:=(W0 x.length l 0).mp h2
  exact⟨h1,a,b,(Vc x q l h1).mp h3⟩
 ·intro h
  exact⟨h.len,(W0 x.length l 0).mpr ⟨h.ris,h.inn,fun _=>zero_le _⟩,(Vc x q l h.len).mpr h.met⟩
noncomputable def TD(x:List Nat)(p:Nat):Int:=if p=0 then 8 else if x.getD (p-1) 0∈MK then 6 else if (65≤x.getD p 0∧x.getD p 0≤90)∧((97≤x.getD (p-1) 0∧x.getD (p-1) 0≤122)∨(48≤x.getD (p-1) 0∧x.getD (p-1) 0≤57)) then 5 else 0
noncomputable def wF(a:Nat)(x:List Nat)(p:Nat):Int:=10+TD x p+(if x.getD p 0=a then 1 else 0)
noncomputable def Xe(p:Nat):Int:=-(if (p:Int)<3 then (p:Int) else 3)
noncomputable def vS(r p:Nat):Int:=if (p:Int)-r-1=0 then 7 else -(if (p:Int)-r-1<5 then (p:Int)-r-1 else 5)
noncomputable def trm(q x l:List Nat)(j:Nat):Int:=wF (q.getD j 0) x (l.getD j 0)+(if j=0 then Xe (l.getD 0 0) else vS (l.getD (j-1) 0) (l.getD j 0))
noncomputable def pts(q x l:List Nat):Nat→Int
 |0=>0
 |n+1=>pts q x l n+trm q x l n
noncomputable abbrev Tl:=Int×List Nat
noncomputable def xB:List Tl→Option Tl→Option Tl
 |[],c=>c
 |t::r,none=>xB r (some t)
 |t::r,some c=>xB r (some (if c.1<t.1 then t else c))
noncomputable def jF(a:Nat)(x:List Nat):List Tl:=((List.range x.length).filter fun p=>yG a (x.getD p 0)).map fun p=>(wF a x p,[p])
noncomputable def wN(p:Nat)(ts:List Tl):List Tl:=(ts.filter fun t=>decide (p<t.2.getD 0 0)).map fun t=>(t.1+vS p (t.2.getD 0 0),t.2)
noncomputable def uZ(a:Nat)(x:List Nat)(ts:List Tl)(p:Nat):Option Tl:=if yG a (x.getD p 0)=true then (xB (wN p ts) none).map fun t=>(wF a x p+t.1,p::t.2) else none
noncomputable def Zb(a:Nat)(x:List Nat)(ts:List Tl):List Tl:=(List.range x.length).filterMap (uZ a x ts)
noncomputable def z9:List Nat→List Nat→List Tl
 |[],_=>[]
 |[a],x=>jF a x
 |a::b::q,x=>Zb a x (z9 (b::q) x)
noncomputable def ZX(t:Tl):Tl:=(t.1+Xe (t.2.getD 0 0),t.2)
noncomputable def jG(q x:List Nat):Option Tl:=xB ((z9 q x).map ZX) none
theorem wR:∀(ts:List Tl) (c:Option Tl) (t:Tl),xB ts c=some t→t∈ts∨c=some t
 |[],c,t,h=>.inr h
 |u::r,none,t,h=>by
  rcases wR r (some u) t h with h|h
  ·exact .inl (mem_cons_of_mem _ h)
  ·cases h;exact .inl (mem_cons_self ..)
 |u::r,some c,t,h=>by
  rcases wR r _ t h with h|h
  ·exact .inl (mem_cons_of_mem _ h)
  ·by_cases g:c.1<u.1
   ·rw[if_pos g] at h;cases h;exact .inl (mem_cons_self ..)
   ·rw[if_neg g] at h;exact .inr h
theorem Xn:∀(ts:List Tl) (c:Tl),∃t,xB ts (some c)=some t:=by
 intro l_
 induction l_ with
 |nil=>
  rintro c
  exact⟨c,rfl⟩
 |cons u r ih_=>
  rintro c
  exact ih_ _
theorem Xo(ts:List Tl)(h:ts≠[]):∃t,xB ts none=some t∧t∈ts:=by
 cases ts with
 |nil=>exact absurd rfl h
 |cons u r=>
  obtain⟨t,e⟩:=Xn r u
  refine⟨t,e,?_⟩
  rcases wR (u::r) none t e with g|g
  ·exact g
  ·cases g
noncomputable def sm(f:Nat→Int):Nat→Int
 |0=>0
 |n+1=>sm f n+f n
theorem WT(f:Nat→Int):∀n,sm f (n+1)=f 0+sm (fun j=>f (j+1)) n:=by
 intro l_
 induction l_ with
 |zero=>
  simp[sm]
 |succ n ih_=>
  rw[sm,ih_,sm];lia
theorem G4(q x l:List Nat):∀n,pts q x l n=sm (trm q x l) n:=by
 intro l_
 induction l_ with
 |zero=>
  exact rfl
 |succ n ih_=>
  rw[pts,sm,ih_]
noncomputable def trk(x:List Nat)(r:Nat)(q l:List Nat)(j:Nat):Int:=wF (q.getD j 0) x (l.getD j 0)+vS (if j=0 then r else l.getD (j-1) 0) (l.getD j 0)
theorem Gz(a p:Nat)(q x l:List Nat)(j:Nat):trm (a::q) x (p::l) (j+1)=trk x p q l j:=by
 simp only[trm,trk,getD_cons_succ,Nat.succ_ne_zero,if_false,Nat.add_sub_cancel]
 cases j with
 |zero=>rw[if_pos rfl,getD_cons_zero]
 |succ j=>rw[if_neg (Nat.succ_ne_zero j),getD_cons_succ,Nat.add_sub_cancel]
theorem GA(a p r:Nat)(q x l:List Nat)(j:Nat):trk x r (a::q) (p::l) (j+1)=trk x p q l j:=by
 simp only[trk,getD_cons_succ,Nat.succ_ne_zero,if_false,Nat.add_sub_cancel]
 cases j with
 |zero=>rw[if_pos rfl,getD_cons_zero]
 |succ j=>rw[if_neg (Nat.succ_ne_zero j),getD_cons_succ,Nat.add_sub_cancel]
noncomputable def vk(x:List Nat):List Nat→List Nat→Int
 |a::q,p::l=>wF a x p+sm (trk x p q l) l.length
 |_,_=>0
theorem VG(a p:Nat)(q x l:List Nat):vk x (a::q) (p::l)+Xe p=pts (a::q) x (p::l) (l.length+1):=by
 rw[G4,WT,funext (Gz a p q x l)]
 simp only[vk,trm,if_true,getD_cons_zero]
 lia
theorem X6(a b p r:Nat)(q x l:List Nat):vk x (a::b::q) (p::r::l)=wF a x p+vS p r+vk x (b::q) (r::l):=by
 simp only[vk,length_cons]
 rw[WT,funext (GA b r p q x l)]
 simp only[trk,if_true,getD_cons_zero]
 lia
theorem Lay.one{a p:Nat}{x:List Nat}(h1:p<x.length)(h2:yG a (x.getD p 0)=true):Lay [a] x [p]:=by
 have z:∀j,j<[p].length→j=0:=fun j hj=>by simpa using hj
 exact⟨rfl,fun j hj=>by simp at hj,fun j hj=>by rw[z j hj];exact h1,fun j hj=>by rw[z j hj];exact h2⟩
theorem Lay.cons{a p:Nat}{q x l:List Nat}(h:Lay q x l)(h1:p<x.length)(h2:yG a (x.getD p 0)=true)(h3:0<l.length→p<l.getD 0 0):Lay (a::q) x (p::l):=by
 refine⟨by simp[h.len],fun j hj=>?_,fun j hj=>?_,fun j hj=>?_⟩
 ·cases j with
  |zero=>simpa using h3 (by simpa using hj)
  |succ j=>simpa using h.ris j (by simpa using hj)
 ·cases j with
  |zero=>simpa using h1
  |succ j=>simpa using h.inn j (by simpa using hj)
 ·cases j with
  |zero=>exact h2
  |succ j=>simpa using h.met j (by simpa using hj)
theorem Lay.tail{a p:Nat}{q x l:List Nat}(h:Lay (a::q) x (p::l)):Lay q x l∧p<x.length∧yG a (x.getD p 0)=true∧(0<l.length→p<l.getD 0 0):=by
 refine⟨⟨by simpa using h.len,fun j hj=>?_,fun j hj=>?_,fun j hj=>?_⟩,by simpa using h.inn 0 (by simp),by simpa using h.met 0 (by simp),fun h0=>by simpa using h.ris 0 (by simpa using h0)⟩
 ·simpa using h.ris (j+1) (by simpa using hj)
 ·simpa using h.inn (j+1) (by simpa using hj)
 ·simpa using h.met (j+1) (by simpa using hj)
theorem vO(x:List Nat):∀(q:List Nat) (t:Tl),t∈z9 q x→Lay q x t.2∧t.1=vk x q t.2
 |[],t,h=>by simp[z9] at h
 |[a],t,h=>by
  simp only[z9,jF,mem_map,mem_filter,mem_range] at h
  obtain⟨p,⟨h1,h2⟩,rfl⟩:=h
  exact⟨Lay.one h1 h2,by simp[vk,sm]⟩
 |a::b::q,t,h=>by
  simp only[z9,Zb,mem_filterMap,mem_range] at h
  obtain⟨p,h1,h2⟩:=h
  unfold uZ at h2
  split at h2
  ·rename_i hm
   cases e:xB (wN p (z9 (b::q) x)) none with
   |none=>rw[e] at h2;cases h2
   |some u=>
    rw[e] at h2
    have h2:some (wF a x p+u.1,p::u.2)=some t:=h2
    cases h2
    rcases wR _ _ _ e with g|g
    ·simp only[wN,mem_map,mem_filter,decide_eq_true_eq] at g
     obtain⟨v,⟨g1,g2⟩,rfl⟩:=g
     obtain⟨k1,k2⟩:=vO x (b::q) v g1
     refine⟨k1.cons h1 hm fun _=>g2,?_⟩
     have hl:=k1.len
     cases e2:v.2 with
     |nil=>rw[e2] at hl;simp at hl
     |cons r l=>
      rw[e2] at k2
      simp only[getD_cons_zero]
      rw[X6,k2]
      lia
    ·cases g
  ·cases h2
theorem ji(x:List Nat):∀(q l:List Nat),q≠[]→Lay q x l→∃t∈z9 q x,t.2.getD 0 0=l.getD 0 0
 |[],_,h,_=>absurd rfl h
 |[a],l,_,h=>by
  cases l with
  |nil=>have:=h.len;simp at this
  |cons p l=>
   obtain⟨_,h1,h2,_⟩:=h.tail
   refine⟨(wF a x p,[p]),?_,rfl⟩
   simp only[z9,jF,mem_map,mem_filter,mem_range]
   exact⟨p,⟨h1,h2⟩,rfl⟩
 |a::b::q,l,_,h=>by
  cases l with
  |nil=>have:=h.len;simp at this
  |cons p l=>
   obtain⟨h0,h1,h2,h3⟩:=h.tail
   obtain⟨u,u1,u2⟩:=ji x (b::q) l (by simp) h0
   have hl:0<l.length:=by rw[h0.len];simp
   have mem:(u.1+vS p (u.2.getD 0 0),u.2)∈wN p (z9 (b::q) x):=by
    simp only[wN,mem_map,mem_filter,decide_eq_true_eq]
    exact⟨u,⟨u1,by rw[u2];exact h3 hl⟩,rfl⟩
   obtain⟨t,e,_⟩:=Xo _ (List.ne_nil_of_mem mem)
   refine⟨(wF a x p+t.1,p::t.2),?_,rfl⟩
   simp only[z9,Zb,mem_filterMap,mem_range]
   refine⟨p,h1,?_⟩
   unfold uZ
   rw[if_pos h2,e]
   rfl
theorem jW(q x:List Nat)(hq:q≠[])(v:Int)(l:List Nat)(h:jG q x=some (v,l)):Lay q x l∧v=pts q x l q.length:=by
 unfold jG at h
 rcases wR _ _ _ h with g|g
 ·obtain⟨t,g1,g2⟩:=mem_map.mp g
  obtain⟨k1,k2⟩:=vO x q t g1
  simp only[ZX,Prod.mk.injEq] at g2
  obtain⟨rfl,rfl⟩:=g2
  refine⟨k1,?_⟩
  cases q with
  |nil=>exact absurd rfl hq
  |cons a q=>
   have hl:=k1.len
   cases e2:t.2 with
   |nil=>rw[e2] at hl;simp at hl
   |cons p l=>
    rw[e2] at k2 hl
    simp only[length_cons] at hl ⊢
    have:q.length=l.length:=by lia
    rw[this,← VG,k2,getD_cons_zero]
 ·cases g
theorem Go(q x l:List Nat)(hq:q≠[])(h:Lay q x l):∃v l',jG q x=some (v,l')∧Lay q x l'∧v=pts q x l' q.length:=by
 obtain⟨t,t1,_⟩:=ji x q l hq h
 obtain⟨⟨v,l'⟩,e,_⟩:=Xo ((z9 q x).map ZX) (List.ne_nil_of_mem (mem_map_of_mem t1))
 exact⟨v,l',e,jW q x hq v l' e⟩
theorem jt(q x:List Nat)(h:wY q x=true):Lay q x (epR q x 0):=by
 have h1:=(Zk q x 0).mpr h
 have h2:=Jg x.length q x 0 0 (Int.le_refl _) (by lia)
 have h3:=Tf x id q x 0 rfl fun a _ c _ hm=>hm
 rw[map_id] at h3
 refine(zb3 q x _).mp ?_
 unfold zo6
 rw[h2,h3]
 simp[h1]
theorem ju(l:List Nat)(j:Nat)(h:j<l.length):(l.map (· - 1)).getD j 0=l.getD j 0-1:=by
 simp[getD_eq_getElem?_getD,getElem?_map,getElem?_eq_getElem h]
theorem Lay.back{q x l:List Nat}{c:Nat}(h:Lay q (c::x) l)(h0:∀j,j<l.length→0<l.getD j 0):Lay q x (l.map (· - 1)):=by
 refine⟨by simp[h.len],fun j hj=>?_,fun j hj=>?_,fun j hj=>?_⟩ <;> rw[length_map] at hj
 ·rw[ju _ _ (by lia),ju _ _ hj]
  have:=h.ris j hj;have:=h0 j (by lia);lia
 ·rw[ju _ _ hj]
  have:=h.inn j hj;have:=h0 j hj;simp only[length_cons] at *;lia
 ·rw[ju _ _ hj]
  have a:=h.met j hj;have b:=h0 j hj
  obtain⟨k,hk⟩:∃k,l.getD j 0=k+1:=⟨l.getD j 0-1,by lia⟩
  rw[hk,getD_cons_succ] at a
  rw[hk];exact a
theorem Lay.low{q x l:List Nat}(h:Lay q x l)(h0:0<l.getD 0 0):∀j,j<l.length→0<l.getD j 0:=fun j=>by
 induction j with
 |zero=>exact fun _=>h0
 |succ j ih=>intro hj;have:=h.ris j hj;lia
theorem Zc:∀(x q l:List Nat),Lay q x l→wY q x=true:=by
 intro l_
 induction l_ with
 |nil=>
  rintro q l h
  cases q with
  |nil=>rfl
  |cons a q=>
   have:=h.inn 0 (by rw[h.len];simp)
   simp at this
 |cons c x ih_=>
  rintro q l h
  cases q with
  |nil=>rfl
  |cons a q=>
   cases l with
   |nil=>have:=h.len;simp at this
   |cons p l=>
    simp only[wY]
    split
    ·obtain⟨h1,_,_,h3⟩:=h.tail
     refine ih_ q (l.map (· - 1)) (h1.back fun j hj=>?_)
     have h4:=h3 (by lia)
     exact h1.low (by lia) j hj
    ·rename_i hm
     refine ih_ (a::q) ((p::l).map (· - 1)) (h.back (h.low ?_))
     rcases Nat.eq_zero_or_pos p with z|z
     ·subst z
      have:=h.met 0 (by simp)
      simp only[getD_cons_zero] at this
      exact absurd this hm
     ·simpa using z
end Law
set_option Elab.async false
set_option linter.all false
set_option maxHeartbeats 1000000
namespace FD
open PySem PySem.Spec PyProof.Rows L2
noncomputable def negI:D→Rs D
 |.int i=>.ok (.int (-i))
 |_=>.no
@[simp] theorem Mw{i:Int}:negI (.int i)=.ok (.int (-i)):=rfl
theorem Yw{fa:FE}{τ:DS}:wL fa τ=(fa τ).bind negI:=by
 unfold wL
 show(fa τ).bind _=_
 cases fa τ with
 |ok d=>cases d <;> rfl
 |_=>rfl
theorem Ll{n:Nat}{op:D→D→Rs D}{fe:FE}{τ:DS}:UP n op fe τ=Fl.of (zc n τ) fun x=>Fl.of (fe τ) fun y=>Fl.of (op x y) fun z=>.nx (τ.set n (some (.val z))):=rfl
theorem Y7(i j:Int):vo [.int i,.int j]=.ok (.int (if j<i then j else i)):=rfl
end FD
namespace Law
open PySem PySem.Spec PyProof.Rows L2 FD
noncomputable abbrev tlD(t:Tl):D:=.tup [.int t.1,nts t.2]
noncomputable def wK:Option Tl→D
 |none=>.non
 |some t=>tlD t
theorem VE(t:Tl):ixD (tlD t) (.int 0)=.ok (.int t.1):=rfl
theorem VD(t:Tl):ixD (tlD t) (.int 1)=.ok (nts t.2):=rfl
theorem Ms(l:List Nat)(j:Nat)(h:j<l.length):ixD (nts l) (.int (j:Int))=.ok (.int (l.getD j 0:Nat)):=by
 refine Vf (ZR (by lia) ?_)
 simp[getD_eq_getElem?_getD,getElem?_eq_getElem h]
theorem Vb(l:List Nat)(h:0<l.length):ixD (nts l) (.int 0)=.ok (.int (l.getD 0 0:Nat)):=Ms l 0 h
theorem u9(x:List Nat)(j:Nat)(h:j<x.length):x[j]?=some (x.getD j 0):=by
 rw[getD_eq_getElem?_getD,getElem?_eq_getElem h];rfl
theorem jA(x:List Nat)(j:Nat)(h:j<x.length)(hx:x.length≤1000):ixD (tx x) (.int (j:Int))=.ok (zt (x.getD j 0)):=Gv x j _ (u9 x j h) hx
theorem zc7:("ABCDEFGHIJKLMNOPQRSTUVWXYZ" : Str).cps.toList=(List.range 26).map (· + 65):=by decide +kernel
theorem zq7:("0123456789" : Str).cps.toList=(List.range 10).map (· + 48):=by decide +kernel
theorem Yi(c n a:Nat):decide (c∈(List.range (n+1)).map (· + a))=decide (a≤c∧c≤n+a):=by
 apply decide_eq_decide.mpr
 rw[mem_map]
 constructor
 ·rintro⟨i,hi,rfl⟩
  have:=mem_range.mp hi
  lia
 ·intro h
  exact⟨c-a,mem_range.mpr (by lia),by lia⟩
theorem uc(c:Nat):decide (c∈("ABCDEFGHIJKLMNOPQRSTUVWXYZ" : Str).cps.toList)=decide (65≤c∧c≤90):=by
 rw[zc7];exact Yi c 25 65
theorem Xq(c:Nat):decide (c∈("0123456789" : Str).cps.toList)=decide (48≤c∧c≤57):=by
 rw[zq7];exact Yi c 9 48
theorem zs1(x:List Nat)(p:Nat)(hx:x.length≤1000)(hp:p<x.length):yI [tx x,.int (p:Int)]=.ok (.int (TD x p)):=by
 have st:zV 3 [tx x,.int (p:Int)]=[some (.val (tx x)),some (.val (.int (p:Int))),none]:=rfl
 unfold yI vK
 rw[zY,st]
 cases p with
 |zero=>
  simp only[zG,yi,zT,zZ,wz,ye,zE,yF,getElem?_cons_zero,getElem?_cons_succ,zx,Rs.bind_ok,Fl.of_ok,uQ,zL,yf,vI,if_true,show((((0:Nat):Int))==0)=true from rfl]
  rfl
 |succ k=>
  have e0:(((k+1:Nat):Int)==0)=false:=by simp;lia
  have e1:((k+1:Nat):Int)-1=(k:Int):=by lia
  have hk:=jA x k (by lia) hx
  have hk1:=jA x (k+1) hp hx
  have hb:TD x (k+1)=if x.getD k 0∈MK then 6 else if (65≤x.getD (k+1) 0∧x.getD (k+1) 0≤90)∧((97≤x.getD k 0∧x.getD k 0≤122)∨(48≤x.getD k 0∧x.getD k 0≤57)) then 5 else 0:=by
   unfold TD;rw[if_neg (Nat.succ_ne_zero k)];rfl
  rw[hb]
  generalize x.getD k 0=c at *
  generalize x.getD (k+1) 0=d at *
  simp only[zt] at hk hk1
  by_cases h1:c∈MK
  ·simp only[zG,zN,yi,zT,zZ,wz,ye,zE,yF,getElem?_cons_zero,getElem?_cons_succ,set_cons_succ,set_cons_zero,zx,Rs.bind_ok,Fl.of_ok,zU,uQ,zL,yf,yY,vI,if_true,Bool.false_eq_true,if_false,e0,e1,hk,Zi,wq,U1,h1,decide_true]
  ·by_cases h2:65≤d∧d≤90
   ·by_cases h3:97≤c∧c≤122
    ·have h4:(65≤d∧d≤90)∧((97≤c∧c≤122)∨(48≤c∧c≤57)):=⟨h2,.inl h3⟩
     rw[if_neg h1,if_pos h4]
     simp only[zG,zN,yi,zT,zZ,wz,wS,uh,ye,zE,yF,getElem?_cons_zero,getElem?_cons_succ,set_cons_succ,set_cons_zero,zx,Rs.bind_ok,Fl.of_ok,zU,uQ,zL,yf,yY,vI,if_true,Bool.false_eq_true,if_false,e0,e1,hk,hk1,Zi,wq,U1,h1,decide_false,uc,v7,Xq,h2,h3,and_self,decide_true]
    ·by_cases h5:48≤c∧c≤57
     ·have h4:(65≤d∧d≤90)∧((97≤c∧c≤122)∨(48≤c∧c≤57)):=⟨h2,.inr h5⟩
      rw[if_neg h1,if_pos h4]
      simp only[zG,zN,yi,zT,zZ,wz,wS,uh,ye,zE,yF,getElem?_cons_zero,getElem?_cons_succ,set_cons_succ,set_cons_zero,zx,Rs.bind_ok,Fl.of_ok,zU,uQ,zL,yf,yY,vI,if_true,Bool.false_eq_true,if_false,e0,e1,hk,hk1,Zi,wq,U1,h1,decide_false,uc,v7,Xq,decide_eq_true h2,decide_eq_false h3,decide_eq_true h5]
     ·have h4:¬ ((65≤d∧d≤90)∧((97≤c∧c≤122)∨(48≤c∧c≤57))):=fun h=>by rcases h.2 with h|h;exact h3 h;exact h5 h
      rw[if_neg h1,if_neg h4]
      simp only[zG,zN,yi,zT,zZ,wz,wS,uh,ye,zE,yF,getElem?_cons_zero,getElem?_cons_succ,set_cons_succ,set_cons_zero,zx,Rs.bind_ok,Fl.of_ok,zU,zL,yf,yY,vI,if_true,Bool.false_eq_true,if_false,e0,e1,hk,hk1,Zi,wq,U1,h1,decide_false,uc,v7,Xq,decide_eq_true h2,decide_eq_false h3,decide_eq_false h5]
   ·have h4:¬ ((65≤d∧d≤90)∧((97≤c∧c≤122)∨(48≤c∧c≤57))):=fun h=>h2 h.1
    rw[if_neg h1,if_neg h4]
    simp only[zG,zN,yi,zT,zZ,wz,wS,uh,ye,zE,yF,getElem?_cons_zero,getElem?_cons_succ,set_cons_succ,set_cons_zero,zx,Rs.bind_ok,Fl.of_ok,zU,zL,yf,yY,vI,Bool.false_eq_true,if_false,e0,e1,hk,hk1,Zi,wq,U1,h1,decide_false,uc,decide_eq_false h2]
theorem Mm(a:Nat)(x:List Nat)(p:Nat)(hx:x.length≤1000)(hp:p<x.length):yD [zt a,tx x,.int (p:Int)]=.ok (.int (wF a x p)):=by
 have st:zV 4 [zt a,tx x,.int (p:Int)]=[some (.val (zt a)),some (.val (tx x)),some (.val (.int (p:Int))),none]:=rfl
 have hk:=jA x p hp hx
 have hb:=zs1 x p hx hp
 unfold yD Zr wF
 rw[zY,st]
 simp only[zt] at hk ⊢
 by_cases h:x.getD p 0=a
 ·have h':(x.getD p 0==a)=true:=by simpa using h
  rw[if_pos h]
  simp only[zG,zN,zT,wz,ye,zE,yF,zM,zq,yE,Vn,getElem?_cons_zero,getElem?_cons_succ,set_cons_succ,set_cons_zero,zx,Rs.bind_ok,Fl.of_ok,zU,zL,xS,yf,yJ,WG,if_true,hk,YX,h',hb]
 ·have h':(x.getD p 0==a)=false:=by simpa using h
  rw[if_neg h]
  simp only[zG,zN,zT,wz,ye,zE,yF,zM,zq,yE,Vn,getElem?_cons_zero,getElem?_cons_succ,set_cons_succ,set_cons_zero,zx,Rs.bind_ok,Fl.of_ok,zU,zL,xS,yf,yJ,WG,Bool.false_eq_true,if_false,hk,YX,h',hb]
theorem za9(p:Nat):yU [.int (p:Int)]=.ok (.int (Xe p)):=by
 have st:zV 1 [.int (p:Int)]=[some (.val (.int (p:Int)))]:=rfl
 unfold yU jI Xe
 rw[zY,st]
 simp only[zT,zE,yF,zM,zq,wv,getElem?_cons_zero,zx,Rs.bind_ok,Fl.of_ok,zL,Y7,Yw,Mw]
 congr 3
 split <;> split <;> lia
theorem za4(r p:Nat):xq [.int (r:Int),.int (p:Int)]=.ok (.int (vS r p)):=by
 have st:zV 3 [.int (r:Int),.int (p:Int)]=[some (.val (.int (r:Int))),some (.val (.int (p:Int))),none]:=rfl
 unfold xq jH vS
 rw[zY,st]
 by_cases h:(p:Int)-r-1=0
 ·have h':((p:Int)-r-1==0)=true:=by simpa using h
  rw[if_pos h]
  simp only[zG,zN,yi,zT,zZ,wz,ye,zE,yF,getElem?_cons_zero,getElem?_cons_succ,set_cons_succ,set_cons_zero,zx,Rs.bind_ok,Fl.of_ok,zU,uQ,zL,yf,yY,vI,if_true,h']
 ·have h':((p:Int)-r-1==0)=false:=by simpa using h
  rw[if_neg h]
  simp only[zG,zN,yi,zT,zZ,wz,ye,zE,yF,zM,zq,wv,getElem?_cons_zero,getElem?_cons_succ,set_cons_succ,set_cons_zero,zx,Rs.bind_ok,Fl.of_ok,zU,zL,yf,yY,vI,Bool.false_eq_true,if_false,h',Y7,Yw,Mw]
  congr 3
  split <;> split <;> lia
end Law
set_option Elab.async false
set_option linter.all false
set_option maxHeartbeats 1000000
namespace FD
open PySem PySem.Spec PyProof.Rows L2
theorem zj8{fs:FA}{τ:DS}{i j:Int}(h:fs τ=.ok [.int i,.int j,.int (-1)])(h1 : -(2 ^ 62)≤i)(h2:i<2 ^ 62)(h3 : -(2 ^ 62)≤j)(h4:j<2 ^ 62):Q1 fs τ=.ok (ZU i (i-j).toNat):=by
 unfold Q1
 rw[h]
 simp only[Rs.bind_ok,Uj]
 rw[if_pos ⟨⟨h1,h2⟩,h3,h4⟩]
end FD
namespace Law
open PySem PySem.Spec PyProof.Rows L2 FD
noncomputable def ZN:FS:=(sIf (Z7 (FD.tB (eOp isD (zc 1) (eC .non))) (FD.tB (eOp gtD (eOp ixD (zc 2) (eC (.int 0))) (eOp ixD (zc 1) (eC (.int 0)))))) (zB 1 (zc 2)) ya)
theorem MV:isD .non .non=.ok (.bl true):=rfl
theorem MU(t:Tl):isD (tlD t) .non=.ok (.bl false):=rfl
theorem QW:xY .non .non=.ok (.bl false):=rfl
theorem MW(t:Tl):xY (tlD t) .non=.ok (.bl true):=rfl
theorem Vi(z:D):∀(ts:List Tl) (c:Option Tl) (s:Option Sl),∃s',yr (gNm 2) ZN (ts.map tlD) [some (.val z),some (.val (wK c)),s]=.nx [some (.val z),some (.val (wK (xB ts c))),s']
 |[],c,s=>⟨s,rfl⟩
 |t::ts,none,s=>by
  obtain⟨s',ih⟩:=Vi z ts (some t) (some (.val (tlD t)))
  refine⟨s',?_⟩
  have:ZN [some (.val z),some (.val (wK none)),some (.val (tlD t))]=.nx [some (.val z),some (.val (wK (some t))),some (.val (tlD t))]:=by
   unfold ZN wK
   simp only[zN,yi,zZ,wz,uh,ye,zE,yF,getElem?_cons_zero,getElem?_cons_succ,set_cons_succ,set_cons_zero,zx,Rs.bind_ok,Fl.of_ok,yf,if_true,MV]
  rw[map_cons,yr,vH,Fl.of_ok]
  simp only[set_cons_succ,set_cons_zero,this]
  rw[ih]
  rfl
 |t::ts,some c,s=>by
  obtain⟨s',ih⟩:=Vi z ts (some (if c.1<t.1 then t else c)) (some (.val (tlD t)))
  refine⟨s',?_⟩
  have:ZN [some (.val z),some (.val (wK (some c))),some (.val (tlD t))]=.nx [some (.val z),some (.val (wK (some (if c.1<t.1 then t else c)))),some (.val (tlD t))]:=by
   unfold ZN wK
   by_cases h:c.1<t.1
   ·rw[if_pos h]
    simp only[zN,yi,zZ,wz,uh,ye,zE,yF,getElem?_cons_zero,getElem?_cons_succ,set_cons_succ,set_cons_zero,zx,Rs.bind_ok,Fl.of_ok,yf,WE,if_true,Bool.false_eq_true,if_false,MU,VE,h,decide_true]
   ·rw[if_neg h]
    simp only[zN,yi,zZ,wz,uh,ye,zE,yF,getElem?_cons_zero,getElem?_cons_succ,set_cons_succ,set_cons_zero,zx,Rs.bind_ok,Fl.of_ok,yf,WE,Bool.false_eq_true,if_false,MU,VE,h,decide_false]
  rw[map_cons,yr,vH,Fl.of_ok]
  simp only[set_cons_succ,set_cons_zero,this]
  rw[ih]
  rfl
theorem zi1(ts:List Tl):z0 [.lst (ts.map tlD)]=.ok (wK (xB ts none)):=by
 have st:zV 3 [.lst (ts.map tlD)]=[some (.val (.lst (ts.map tlD))),none,none]:=rfl
 obtain⟨s',h⟩:=Vi (.lst (ts.map tlD)) ts none none
 unfold ZN at h
 unfold z0 uL
 rw[zY,st]
 simp only[wK] at h
 simp only[zG,zN,zT,xP,Zj,MS,zE,yF,getElem?_cons_zero,getElem?_cons_succ,set_cons_succ,set_cons_zero,zx,Rs.bind_ok,Fl.of_ok,zU,zL,h]
 rfl
theorem size2:∀a b:D,([a,b]:List D).length≤sizeLine:=fun a b=>by rw[sizeLine_v];exact Nat.le_of_ble_eq_true rfl
theorem size1:∀a:D,([a]:List D).length≤sizeLine:=fun a=>by rw[sizeLine_v];exact Nat.le_of_ble_eq_true rfl
theorem WP{fa fb:FE}{τ:DS}{a b:D}(h1:fa τ=.ok a)(h2:fb τ=.ok b):xu (za fa (za fb zh)) τ=.ok (.tup [a,b]):=by
 rw[Vk,zq,h1,Rs.bind_ok,zq,h2,Rs.bind_ok,zM,Rs.bind_ok,Rs.bind_ok,Rs.bind_ok]
 exact if_pos (size2 a b)
theorem Wo{fa:FE}{τ:DS}{a:D}(h1:fa τ=.ok a):xw (za fa zh) τ=.ok (.lst [a]):=by
 rw[Zn,zq,h1,Rs.bind_ok,zM,Rs.bind_ok,Rs.bind_ok]
 exact if_pos (size1 a)
theorem WI{f:List D→Rs D}{fa:FE}{τ:DS}{a d:D}(h1:fa τ=.ok a)(h:f [a]=.ok d):zo f (za fa zh) τ=.ok d:=by
 rw[yE,zq,h1,Rs.bind_ok,zM,Rs.bind_ok,Rs.bind_ok,h];rfl
theorem ug{f:List D→Rs D}{fa fb:FE}{τ:DS}{a b d:D}(h1:fa τ=.ok a)(h2:fb τ=.ok b)(h:f [a,b]=.ok d):zo f (za fa (za fb zh)) τ=.ok d:=by
 rw[yE,zq,h1,Rs.bind_ok,zq,h2,Rs.bind_ok,zM,Rs.bind_ok,Rs.bind_ok,Rs.bind_ok,h];rfl
theorem vU{f:List D→Rs D}{fa fb fc:FE}{τ:DS}{a b c d:D}(h1:fa τ=.ok a)(h2:fb τ=.ok b)(h3:fc τ=.ok c)(h:f [a,b,c]=.ok d):zo f (za fa (za fb (za fc zh))) τ=.ok d:=by
 rw[yE,zq,h1,Rs.bind_ok,zq,h2,Rs.bind_ok,zq,h3,Rs.bind_ok,zM,Rs.bind_ok,Rs.bind_ok,Rs.bind_ok,Rs.bind_ok,h];rfl
theorem op2{op:D→D→Rs D}{fa fb:FE}{τ:DS}{a b:D}{r:Rs D}(h1:fa τ=.ok a)(h2:fb τ=.ok b)(h:op a b=r):eOp op fa fb τ=r:=by
 rw[ye,h1,Rs.bind_ok,h2,Rs.bind_ok,h]
theorem ze{n:Nat}{τ:DS}{d:D}(h:τ[n]?=some (some (.val d))):zc n τ=.ok d:=by rw[zE,h];rfl
theorem wI{k:Nat}{idx:List Nat}{fi:FA}{set:FG}{ft:FT}{fe:FE}{τ:DS}{ds xs:List D}(h1:fi τ=.ok ds)(h2:vq set ft fe (vN k idx τ) ds=.ok xs)(h3:xs.length≤1000):xa k idx fi set ft fe τ=.ok xs:=by
 unfold xa
 rw[h1,Rs.bind_ok,h2]
 exact if_pos (by rw[sizeLine_v];lia)
theorem tru_ok{fe:FE}{τ:DS}{b:Bool}(h:fe τ=.ok (.bl b)):uR fe τ=.ok b:=by rw[vP,h];rfl
theorem xz{fe:FE}{τ:DS}{b:Bool}(h:fe τ=.ok (.bl b)):FD.tB fe τ=.ok b:=by rw[wz,h];rfl
theorem YJ{fa:FE}{τ:DS}{n:Nat}(h:fa τ=.ok (.int (n:Int)))(hn:n≤1000):uN (za fa zh) τ=.ok ((List.range n).map fun (k:Nat)=>D.int (0+k)):=by
 rw[W2 (j:=(n:Int)) (by rw[zq,h,Rs.bind_ok,zM,Rs.bind_ok]) (by lia) (by lia),toNat_natCast];rfl
theorem v0{g:List D→Rs D}{fa:FE}{τ:DS}{a d:D}(h1:fa τ=.ok a)(h:g [a]=.ok d):z7 g (za fa zh) τ=.ok d:=by
 rw[wv,zq,h1,Rs.bind_ok,zM,Rs.bind_ok,Rs.bind_ok,h]
theorem XZ(a:Nat)(x:List Nat)(ha:a<128)(hx:x.length≤1000):yn [zt a,tx x]=.ok (.lst ((jF a x).map tlD)):=by
 have st:zV 2 [zt a,tx x]=[some (.val (zt a)),some (.val (tx x))]:=rfl
 have cf:=ve (set:=gNm 0) (ft:=(uR (zo wb (za (zc 1) (za (eOp ixD (zc 2) (zc 0)) zh))))) (fe:=(xu (za (zo yD (za (zc 1) (za (zc 2) (za (zc 0) zh)))) (za (xw (za (zc 0) zh)) zh)))) (τ:=[none,some (.val (zt a)),some (.val (tx x))])
  (fun (k:Nat)=>D.int (0+k)) (fun (p:Nat)=>tlD (wF a x p,[p])) (fun p=>yG a (x.getD p 0)) (List.range x.length) fun p hp=>by
   have hp:=mem_range.mp hp
   refine⟨[some (.val (.int (p:Int))),some (.val (zt a)),some (.val (tx x))],by rw[Int.zero_add];rfl,?_,?_⟩
   ·exact tru_ok (ug (ze rfl) (op2 (ze rfl) (ze rfl) (jA x p hp hx)) (Y9 a _ ha))
   ·exact WP (vU (ze rfl) (ze rfl) (ze rfl) (Mm a x p hx hp)) (Wo (ze rfl))
 have hlen:(((List.range x.length).filter fun p=>yG a (x.getD p 0)).map fun (p:Nat)=>tlD (wF a x p,[p])).length≤1000:=by
  rw[length_map]
  have:=length_filter_le (fun p=>yG a (x.getD p 0)) (List.range x.length)
  rw[length_range] at this;lia
 have ec:=wI (k:=1) (idx:=[0,1]) (fi:=uN (za (z7 yL (za (zc 1) zh)) zh)) (τ:=[some (.val (zt a)),some (.val (tx x))]) (YJ (v0 (ze rfl) (xG x hx)) hx) cf hlen
 unfold yn vV
 rw[zY,st,zT]
 simp only[ec,Rs.bind_ok,Fl.of_ok,zL]
 unfold jF
 rw[map_map]
 rfl
theorem QM(p:Nat)(ts:List Tl)(hs:ts.length≤1000)(hn:∀t∈ts,0<t.2.length):yM [.int (p:Int),.lst (ts.map tlD)]=.ok (.lst ((wN p ts).map tlD)):=by
 have st:zV 2 [.int (p:Int),.lst (ts.map tlD)]=[some (.val (.int (p:Int))),some (.val (.lst (ts.map tlD)))]:=rfl
 have cf:=ve (set:=gNm 0) (ft:=(FD.tB (eOp gtD (eOp ixD (eOp ixD (zc 0) (eC (.int 1))) (eC (.int 0))) (zc 1)))) (fe:=(xu (za (eOp zI (eOp ixD (zc 0) (eC (.int 0))) (zo xq (za (zc 1) (za (eOp ixD (eOp ixD (zc 0) (eC (.int 1))) (eC (.int 0))) zh)))) (za (eOp ixD (zc 0) (eC (.int 1))) zh)))) (τ:=[none,some (.val (.int (p:Int)))])
  tlD (fun t=>tlD (t.1+vS p (t.2.getD 0 0),t.2)) (fun t=>decide (p<t.2.getD 0 0)) ts fun t ht=>by
   refine⟨[some (.val (tlD t)),some (.val (.int (p:Int)))],rfl,?_,?_⟩
   ·have:=Vb t.2 (hn t ht)
    refine xz (op2 (op2 (op2 (ze rfl) rfl (VD t)) rfl this) (ze rfl) ?_)
    rw[WE]
    congr 2
    exact decide_eq_decide.mpr (by lia)
   ·have:=Vb t.2 (hn t ht)
    exact WP (op2 (op2 (ze rfl) rfl (VE t)) (ug (ze rfl) (op2 (op2 (ze rfl) rfl (VD t)) rfl this) (za4 p _)) (yJ)) (op2 (ze rfl) rfl (VD t))
 have hlen:((ts.filter fun t=>decide (p<t.2.getD 0 0)).map fun t=>tlD (t.1+vS p (t.2.getD 0 0),t.2)).length≤1000:=by
  rw[length_map]
  have:=length_filter_le (fun t:Tl=>decide (p<t.2.getD 0 0)) ts
  lia
 have it:xi (zc 1) [some (.val (.int (p:Int))),some (.val (.lst (ts.map tlD)))]=.ok (ts.map tlD):=rfl
 have ec:=wI (k:=1) (idx:=[0]) (τ:=[some (.val (.int (p:Int))),some (.val (.lst (ts.map tlD)))]) it cf hlen
 unfold yM jg
 rw[zY,st,zT]
 simp only[ec,Rs.bind_ok,Fl.of_ok,zL]
 unfold wN
 rw[map_map]
 rfl
noncomputable def ZJ:FS:=(sIf (uR (zo wb (za (zc 0) (za (eOp ixD (zc 1) (zc 4)) zh)))) (zp (zB 5 (zo z0 (za (zo yM (za (zc 4) (za (zc 2) zh))) zh)))
  (sIf (FD.tB (eOp xY (zc 5) (eC .non))) (YH 3 (xu (za (eOp zI (zo yD (za (zc 0) (za (zc 1) (za (zc 4) zh)))) (eOp ixD (zc 5) (eC (.int 0)))) (za (eOp zI (xw (za (zc 4) zh)) (eOp ixD (zc 5) (eC (.int 1)))) zh)))) ya)) ya)
theorem Gf(p:Nat)(l:List Nat)(h:l.length≤1000):zI (.lst [.int (p:Int)]) (nts l)=.ok (nts (p::l)):=by
 show(if _ then Rs.ok (D.lst _) else Rs.no)=_
 rw[if_pos (by rw[sizeLine_v,length_map,length_singleton];lia)]
 rfl
theorem ME(p:Nat)(ts:List Tl):∀t,xB (wN p ts) none=some t→∃u∈ts,t.2=u.2:=fun t h=>by
 rcases wR _ _ _ h with g|g
 ·simp only[wN,mem_map,mem_filter] at g
  obtain⟨u,⟨g1,_⟩,rfl⟩:=g
  exact⟨u,g1,rfl⟩
 ·cases g
theorem za5(a:Nat)(x:List Nat)(ts acc:List Tl)(p:Nat)(s5:Option Sl)(ha:a<128)(hx:x.length≤1000)(hs:ts.length≤1000)(hn:∀t∈ts,0<t.2.length∧t.2.length≤1000)(hp:p<x.length)(hc:acc.length≤1000) :
  ∃s',ZJ [some (.val (zt a)),some (.val (tx x)),some (.val (.lst (ts.map tlD))),some (.own (acc.map tlD)),some (.val (.int (p:Int))),s5]=.nx [some (.val (zt a)),some (.val (tx x)),some (.val (.lst (ts.map tlD))),some (.own ((acc++(uZ a x ts p).toList).map tlD)),some (.val (.int (p:Int))),s']:=by
 have hm:=Y9 a (x.getD p 0) ha
 have hlk:=QM p ts hs fun t ht=>(hn t ht).1
 have hfm:=zi1 (wN p ts)
 have how:=Mm a x p hx hp
 have hix:=jA x p hp hx
 have hsz:(acc.map tlD).length<sizeLine:=by rw[sizeLine_v,length_map];lia
 unfold ZJ uZ
 generalize wb=fa at hm ⊢
 generalize yM=fb at hlk ⊢
 generalize z0=fc at hfm ⊢
 generalize yD=fd at how ⊢
 by_cases h:yG a (x.getD p 0)=true
 ·rw[if_pos h]
  rw[h] at hm
  cases e:xB (wN p ts) none with
  |none=>
   rw[e] at hfm
   refine⟨some (.val .non),?_⟩
   simp only[zG,zN,yi,zZ,jl,wz,vP,ye,zE,yF,zM,zq,yE,getElem?_cons_zero,getElem?_cons_succ,set_cons_succ,set_cons_zero,zx,xW,Rs.bind_ok,Fl.of_ok,zU,xS,yf,wo,if_true,Bool.false_eq_true,if_false,hix,hm,hlk,hfm,wK,QW,Option.map_none,Option.toList_none,append_nil]
  |some t=>
   rw[e] at hfm
   obtain⟨u,u1,u2⟩:=ME p ts t e
   have hct:=Gf p t.2 (by rw[u2];exact(hn u u1).2)
   refine⟨some (.val (tlD t)),?_⟩
   have tp:xu (za (eOp zI (zo fd (za (zc 0) (za (zc 1) (za (zc 4) zh)))) (eOp ixD (zc 5) (eC (.int 0)))) (za (eOp zI (xw (za (zc 4) zh)) (eOp ixD (zc 5) (eC (.int 1)))) zh)) [some (.val (zt a)),some (.val (tx x)),some (.val (.lst (ts.map tlD))),some (.own (acc.map tlD)),some (.val (.int (p:Int))),some (.val (tlD t))]=.ok (tlD (wF a x p+t.1,p::t.2)):=
    WP (op2 (vU (ze rfl) (ze rfl) (ze rfl) how) (op2 (ze rfl) rfl (VE t)) yJ) (op2 (Wo (ze rfl)) (op2 (ze rfl) rfl (VD t)) hct)
   simp only[zG,zN,yi,zZ,jl,wz,vP,ye,zE,yF,zM,zq,yE,getElem?_cons_zero,getElem?_cons_succ,set_cons_succ,set_cons_zero,zx,xW,Rs.bind_ok,Fl.of_ok,zU,xS,yf,wo,if_true,hix,hm,hlk,hfm,wK,MW,tp,hsz,Option.map_some,Option.toList_some,map_append,map_cons,map_nil]
 ·have h':yG a (x.getD p 0)=false:=by simpa using h
  rw[h'] at hm
  rw[if_neg h]
  refine⟨s5,?_⟩
  simp only[zG,zN,yi,zZ,vP,ye,zE,zM,zq,yE,getElem?_cons_zero,getElem?_cons_succ,set_cons_succ,set_cons_zero,zx,Rs.bind_ok,Fl.of_ok,xS,wo,Bool.false_eq_true,if_false,hix,hm,Option.toList_none,append_nil]
theorem Xp(f:Nat→Option Tl)(k:Nat):(List.range (k+1)).filterMap f=(List.range k).filterMap f++(f k).toList:=by
 rw[List.range_succ,List.filterMap_append]
 simp only[filterMap_cons,List.filterMap_nil]
 cases h:f k <;> rfl
theorem Wq(f:Nat→Option Tl)(k:Nat):((List.range k).filterMap f).length≤k:=by
 have:=List.length_filterMap_le f (List.range k)
 rwa [length_range] at this
theorem za6(a:Nat)(x:List Nat)(ts:List Tl)(ha:a<128)(hx:x.length≤1000)(hs:ts.length≤1000)(hn:∀t∈ts,0<t.2.length∧t.2.length≤1000) :
  ∃s4 s5,yr (gNm 4) ZJ ((List.range x.length).map fun (k:Nat)=>D.int (0+k)) [some (.val (zt a)),some (.val (tx x)),some (.val (.lst (ts.map tlD))),some (.own []),none,none]=.nx [some (.val (zt a)),some (.val (tx x)),some (.val (.lst (ts.map tlD))),some (.own ((Zb a x ts).map tlD)),s4,s5]:=by
 obtain⟨τ',h1,s4,s5,h2⟩:=jr (set:=gNm 4) (body:=ZJ) (fun (k:Nat)=>D.int (0+k)) (fun k τ=>∃s4 s5,τ=[some (.val (zt a)),some (.val (tx x)),some (.val (.lst (ts.map tlD))),some (.own (((List.range k).filterMap (uZ a x ts)).map tlD)),s4,s5]) x.length
  [some (.val (zt a)),some (.val (tx x)),some (.val (.lst (ts.map tlD))),some (.own []),none,none] ⟨_,_,rfl⟩ fun k τ hk z_=>by
   obtain⟨s4,s5,e⟩:=z_
   subst e
   obtain⟨s',g⟩:=za5 a x ts ((List.range k).filterMap (uZ a x ts)) k s5 ha hx hs hn hk (by have:=Wq (uZ a x ts) k;lia)
   have e0:(0:Int)+(k:Int)=(k:Int):=by lia
   rw[Xp]
   exact⟨_,_,by rw[e0];exact vH,g,_,_,rfl⟩
 subst h2
 exact⟨s4,s5,h1⟩
theorem zq3(bd:FS)(ri:FA)(A B C:D)(n:Nat)(P:List D)(s4 s5:Option Sl)(r1:ri [some (.val A),some (.val B),some (.val C),some (.own []),none,none]=.ok ((List.range n).map fun (k:Nat)=>D.int (0+k)))
  (h1:yr (gNm 4) bd ((List.range n).map fun (k:Nat)=>D.int (0+k)) [some (.val A),some (.val B),some (.val C),some (.own []),none,none]=.nx [some (.val A),some (.val B),some (.val C),some (.own P),s4,s5]) :
  yX 6 (zp (vz 3 (fun τ=>(zh τ).bind fun ds=>if ds.length≤sizeLine then .ok ds else .no)) (zp (wj ri (gNm 4) bd) (j2 3))) [A,B,C]=.ok (.lst P):=by
 have st:zV 6 [A,B,C]=[some (.val A),some (.val B),some (.val C),none,none,none]:=rfl
 rw[zY,st]
 simp only[zG,vy,v8,ua,xP,zM,getElem?_cons_zero,getElem?_cons_succ,set_cons_succ,set_cons_zero,xW,Rs.bind_ok,Fl.of_ok,zU,zL,if_true,length_nil,zero_le,r1,h1]
theorem MD:vJ=(zp (vz 3 (fun τ=>(zh τ).bind fun ds=>if ds.length≤sizeLine then .ok ds else .no)) (zp (wj (uN (za (z7 yL (za (zc 1) zh)) zh)) (gNm 4) ZJ) (j2 3))):=by unfold vJ ZJ;rfl
theorem QK(a:Nat)(x:List Nat)(ts:List Tl)(ha:a<128)(hx:x.length≤1000)(hs:ts.length≤1000)(hn:∀t∈ts,0<t.2.length∧t.2.length≤1000):y8 [zt a,tx x,.lst (ts.map tlD)]=.ok (.lst ((Zb a x ts).map tlD)):=by
 obtain⟨s4,s5,h1⟩:=za6 a x ts ha hx hs hn
 unfold y8
 rw[MD]
 exact zq3 _ _ _ _ _ x.length _ _ _ (YJ (v0 (ze rfl) (xG x hx)) hx) h1
theorem X5(x:List Nat):∀q:List Nat,(z9 q x).length≤x.length
 |[]=>by simp[z9]
 |[a]=>by
  simp only[z9,jF,length_map]
  have:=length_filter_le (fun p=>yG a (x.getD p 0)) (List.range x.length)
  rwa [length_range] at this
 |a::b::q=>by simp only[z9,Zb];exact Wq _ _
theorem VF(q x:List Nat)(hq:q≠[])(hl:q.length≤1000):∀t∈z9 q x,0<t.2.length∧t.2.length≤1000:=fun t ht=>by
 have:=(vO x q t ht).1.len
 have:0<q.length:=length_pos_iff.mpr hq
 lia
noncomputable def XB:FS:=(zB 2 (zo y8 (za (eOp ixD (zc 0) (zc 3)) (za (zc 1) (za (zc 2) zh)))))
theorem ze9(q x:List Nat)(m:Nat)(hm:q.length=m+1)(hq:q.length≤1000)(hx:x.length≤1000)(ha:∀c∈q,c<128) :
  ∃s,yr (gNm 3) XB (ZU ((m:Int)-1) m) [some (.val (tx q)),some (.val (tx x)),some (.val (.lst ((z9 (q.drop m) x).map tlD))),none]=.nx [some (.val (tx q)),some (.val (tx x)),some (.val (.lst ((z9 q x).map tlD))),s]:=by
 obtain⟨τ',h1,s,h2⟩:=jr (set:=gNm 3) (body:=XB) (fun (k:Nat)=>D.int ((m:Int)-1-k)) (fun k τ=>∃s,τ=[some (.val (tx q)),some (.val (tx x)),some (.val (.lst ((z9 (q.drop (m-k)) x).map tlD))),s]) m
  [some (.val (tx q)),some (.val (tx x)),some (.val (.lst ((z9 (q.drop m) x).map tlD))),none] ⟨_,rfl⟩ fun k τ hk z_=>by
   obtain⟨s,e⟩:=z_
   subst e
   obtain⟨j,hj⟩:∃j,m=j+1+k:=⟨m-1-k,by lia⟩
   have e0:(m:Int)-1-(k:Int)=(j:Int):=by lia
   have d1:q.drop (m-k)=q.drop (j+1):=by congr 1;lia
   have d2:q.drop (m-(k+1))=q.drop j:=by congr 1;lia
   have hjq:j<q.length:=by lia
   have hne:q.drop (j+1)≠[]:=fun h=>by
    have:=congrArg List.length h
    rw[length_drop] at this;simp at this;lia
   have hlg:=QK (q.getD j 0) x (z9 (q.drop (j+1)) x) (ha _ (mem_of_getElem? (u9 q j hjq))) hx (by have:=X5 x (q.drop (j+1));lia) (VF _ x hne (by rw[length_drop];lia))
   have ht:Zb (q.getD j 0) x (z9 (q.drop (j+1)) x)=z9 (q.drop j) x:=by
    have e1:q.drop j=q.getD j 0::q.drop (j+1):=by
     rw[drop_eq_getElem_cons hjq,getD_eq_getElem?_getD,getElem?_eq_getElem hjq];rfl
    rw[e1]
    cases e2:q.drop (j+1) with
    |nil=>exact absurd e2 hne
    |cons b r=>rfl
   rw[ht] at hlg
   rw[d1,d2]
   refine⟨[some (.val (tx q)),some (.val (tx x)),some (.val (.lst ((z9 (q.drop (j+1)) x).map tlD))),some (.val (.int (j:Int)))],[some (.val (tx q)),some (.val (tx x)),some (.val (.lst ((z9 (q.drop j) x).map tlD))),some (.val (.int (j:Int)))],by rw[e0];rfl,?_,_,rfl⟩
   unfold XB
   rw[zN,vU (op2 (ze rfl) (ze rfl) (jA q j hjq hq)) (ze rfl) (ze rfl) hlg,Fl.of_ok]
   rfl
 subst h2
 refine⟨s,?_⟩
 rw[Nat.sub_self,drop_zero] at h1
 exact h1
noncomputable def ldE:FE:=(fun τ=>((xa 1 [] (xi (zc 2)) (gNm 0) (fun _=>.ok true) (xu (za (eOp zI (eOp ixD (zc 0) (eC (.int 0))) (zo yU (za (eOp ixD (eOp ixD (zc 0) (eC (.int 1))) (eC (.int 0))) zh))) (za (eOp ixD (zc 0) (eC (.int 1))) zh)))) τ).bind fun ds=>.ok (.lst ds))
theorem ld_ok(A B:D)(ts:List Tl)(s:Option Sl)(hs:ts.length≤1000)(hn:∀t∈ts,0<t.2.length):ldE [some (.val A),some (.val B),some (.val (.lst (ts.map tlD))),s]=.ok (.lst ((ts.map ZX).map tlD)):=by
 have cf:=vd (set:=gNm 0) (fe:=(xu (za (eOp zI (eOp ixD (zc 0) (eC (.int 0))) (zo yU (za (eOp ixD (eOp ixD (zc 0) (eC (.int 1))) (eC (.int 0))) zh))) (za (eOp ixD (zc 0) (eC (.int 1))) zh)))) (τ:=[none]) tlD tlD ZX ts fun t ht=>by
   refine⟨[some (.val (tlD t))],rfl,?_⟩
   have:=Vb t.2 (hn t ht)
   exact WP (op2 (op2 (ze rfl) rfl (VE t)) (WI (op2 (op2 (ze rfl) rfl (VD t)) rfl this) (za9 _)) yJ) (op2 (ze rfl) rfl (VD t))
 have it:xi (zc 2) [some (.val A),some (.val B),some (.val (.lst (ts.map tlD))),s]=.ok (ts.map tlD):=rfl
 have ec:=wI (k:=1) (idx:=[]) (τ:=[some (.val A),some (.val B),some (.val (.lst (ts.map tlD))),s]) it cf (by simpa using hs)
 unfold ldE
 simp only[ec,Rs.bind_ok]
theorem TB:Jm=(zp (sIf (FD.tB (eOp eqD (z7 yL (za (zc 0) zh)) (eC (.int 0)))) (yh (xu (za (eC (.int 0)) (za (xw zh) zh)))) ya)
  (zp (zB 2 (zo yn (za (eOp ixD (zc 0) (wL (eC (.int 1)))) (za (zc 1) zh))))
  (zp (wj (Q1 (za (eOp yH (z7 yL (za (zc 0) zh)) (eC (.int 2))) (za (wL (eC (.int 1))) (za (wL (eC (.int 1))) zh)))) (gNm 3) XB)
  (yh (zo z0 (za ldE zh)))))):=by unfold Jm XB ldE;rfl
theorem zn3(q:List Nat)(m:Nat)(hm:q.length=m+1)(hq:q.length≤1000):ixD (tx q) (.int (-1))=.ok (zt (q.getD m 0)):=by
 refine Ze ?_ (by rw[uY,sizeLine_v];lia)
 have e:ixN q.length (-1)=some m:=by
  unfold ixN
  rw[if_neg (by lia),if_pos (by lia)]
  congr 1;lia
 unfold atI
 show(ixN q.length (-1)).bind _=_
 rw[e]
 exact u9 q m (by lia)
theorem bs_r3(q x:List Nat)(T:D)(m:Nat)(hm:q.length=m+1)(hq:q.length≤1000):Q1 (za (eOp yH (z7 yL (za (zc 0) zh)) (eC (.int 2))) (za (wL (eC (.int 1))) (za (wL (eC (.int 1))) zh))) [some (.val (tx q)),some (.val (tx x)),some (.val T),none]=.ok (ZU ((m:Int)-1) m):=by
 have a1:eOp yH (z7 yL (za (zc 0) zh)) (eC (.int 2)) [some (.val (tx q)),some (.val (tx x)),some (.val T),none]=.ok (.int ((m:Int)-1)):=by
  refine op2 (v0 (ze rfl) (xG q hq)) rfl ?_
  rw[yY];congr 2;lia
 have a2:∀τ,wL (eC (.int 1)) τ=.ok (.int (-1)):=fun τ=>rfl
 have r3:=zj8 (fs:=za (eOp yH (z7 yL (za (zc 0) zh)) (eC (.int 2))) (za (wL (eC (.int 1))) (za (wL (eC (.int 1))) zh))) (τ:=[some (.val (tx q)),some (.val (tx x)),some (.val T),none]) (i:=(m:Int)-1) (j:=-1)
  (by rw[zq,a1,Rs.bind_ok,zq,a2,Rs.bind_ok,zq,a2,Rs.bind_ok,zM,Rs.bind_ok,Rs.bind_ok,Rs.bind_ok]) (by lia) (by lia) (by lia) (by lia)
 rw[r3]
 congr 2
 lia
theorem zq5(g1:FT)(g2:FS)(e1 e2:FE)(r3:FA)(bd:FS)(A B T T' R:D)(L:List D)(s:Option Sl)(h0:g1 [some (.val A),some (.val B),none,none]=.ok false)(h1:e1 [some (.val A),some (.val B),none,none]=.ok T)(h2:r3 [some (.val A),some (.val B),some (.val T),none]=.ok L)(h3:yr (gNm 3) bd L [some (.val A),some (.val B),some (.val T),none]=.nx [some (.val A),some (.val B),some (.val T'),s])(h4:e2 [some (.val A),some (.val B),some (.val T'),s]=.ok R) :
  yX 4 (zp (sIf g1 g2 ya) (zp (zB 2 e1) (zp (wj r3 (gNm 3) bd) (yh e2)))) [A,B]=.ok R:=by
 have st:zV 4 [A,B]=[some (.val A),some (.val B),none,none]:=rfl
 rw[zY,st]
 simp only[zG,zN,yi,zT,zZ,xP,set_cons_succ,set_cons_zero,Fl.of_ok,zU,zL,Bool.false_eq_true,if_false,h0,h1,h2,h3,h4]
theorem zf0(q x:List Nat)(hne:q≠[])(hq:q.length≤1000)(hx:x.length≤1000)(ha:∀c∈q,c<128):uz [tx q,tx x]=.ok (wK (jG q x)):=by
 have hpos:0<q.length:=length_pos_iff.mpr hne
 obtain⟨m,hm⟩:∃m,q.length=m+1:=⟨q.length-1,by lia⟩
 obtain⟨s,hl⟩:=ze9 q x m hm hq hx ha
 have hmem:q.getD m 0∈q:=mem_of_getElem? (u9 q m (by lia))
 have d:z9 (q.drop m) x=jF (q.getD m 0) x:=by
  have e1:q.drop m=[q.getD m 0]:=by
   rw[drop_eq_getElem_cons (by lia),getD_eq_getElem?_getD,getElem?_eq_getElem (by lia:m<q.length),List.drop_eq_nil_of_le (by lia)];rfl
  rw[e1];rfl
 rw[d] at hl
 have h0:FD.tB (eOp eqD (z7 yL (za (zc 0) zh)) (eC (.int 0))) [some (.val (tx q)),some (.val (tx x)),none,none]=.ok false:=by
  refine xz (op2 (v0 (ze rfl) (xG q hq)) rfl ?_)
  rw[vI]
  congr 2
  simp;exact hne
 have h1:zo yn (za (eOp ixD (zc 0) (wL (eC (.int 1)))) (za (zc 1) zh)) [some (.val (tx q)),some (.val (tx x)),none,none]=.ok (.lst ((jF (q.getD m 0) x).map tlD)):=
  ug (op2 (ze rfl) rfl (zn3 q m hm hq)) (ze rfl) (XZ _ x (ha _ hmem) hx)
 have h4:zo z0 (za ldE zh) [some (.val (tx q)),some (.val (tx x)),some (.val (.lst ((z9 q x).map tlD))),s]=.ok (wK (jG q x)):=
  WI (ld_ok _ _ _ _ (by have:=X5 x q;lia) fun t ht=>(VF q x hne hq t ht).1) (zi1 _)
 unfold uz
 rw[TB]
 exact zq5 _ _ _ _ _ _ _ _ _ _ _ _ _ h0 h1 (bs_r3 q x _ m hm hq) hl h4
noncomputable def uA:List Nat→List Nat→Bool
 |[],[]=>false
 |[],_::_=>true
 |_::_,[]=>false
 |x::xs,y::ys=>if x=y then uA xs ys else decide (x<y)
theorem Ws:∀l:List Nat,uA l l=false:=by
 intro l_
 induction l_ with
 |nil=>
  exact rfl
 |cons x xs ih_=>
  simp[uA,ih_]
theorem Wu(l m:List Nat)(hl:0<l.length)(hm:0<m.length)(h:m.getD 0 0<l.getD 0 0):uA l m=false:=by
 cases l with
 |nil=>simp at hl
 |cons x xs=>
  cases m with
  |nil=>simp at hm
  |cons y ys=>
   simp only[getD_cons_zero] at h
   simp only[uA]
   rw[if_neg (by lia)]
   exact decide_eq_false (by lia)
theorem jb:∀(ts:List Tl) (c t:Tl),xB ts (some c)=some t→(t=c∧∀u∈ts,u.1≤c.1)∨(∃pre post,ts=pre++t::post∧c.1<t.1∧(∀u∈pre,u.1<t.1)∧∀u∈post,u.1≤t.1):=by
 intro l_
 induction l_ with
 |nil=>
  rintro c t h
  have:some c=some t:=h
  cases this
  exact .inl ⟨rfl,fun u hu=>nomatch hu⟩
 |cons u r ih_=>
  rintro c t h
  have h:xB r (some (if c.1<u.1 then u else c))=some t:=h
  by_cases g:c.1<u.1
  ·rw[if_pos g] at h
   rcases ih_ u t h with ⟨e,h2⟩|⟨pre,post,e,h1,h2,h3⟩
   ·subst e
    exact .inr ⟨[],r,rfl,g,(fun v hv=>nomatch hv),h2⟩
   ·refine .inr ⟨u::pre,post,by rw[e];rfl,by lia,fun v hv=>?_,h3⟩
    rcases mem_cons.mp hv with e|e
    ·subst e;exact h1
    ·exact h2 v e
  ·rw[if_neg g] at h
   rcases ih_ c t h with ⟨e,h2⟩|⟨pre,post,e,h1,h2,h3⟩
   ·refine .inl ⟨e,fun v hv=>?_⟩
    rcases mem_cons.mp hv with e|e
    ·subst e;lia
    ·exact h2 v e
   ·refine .inr ⟨u::pre,post,by rw[e];rfl,h1,fun v hv=>?_,h3⟩
    rcases mem_cons.mp hv with e|e
    ·subst e;lia
    ·exact h2 v e
theorem Z1(ts:List Tl)(t:Tl)(h:xB ts none=some t):∃pre post,ts=pre++t::post∧(∀u∈pre,u.1<t.1)∧∀u∈post,u.1≤t.1:=by
 cases ts with
 |nil=>cases h
 |cons c r=>
  rcases jb r c t h with ⟨e,h2⟩|⟨pre,post,e,h1,h2,h3⟩
  ·subst e
   exact⟨[],r,rfl,(fun v hv=>nomatch hv),h2⟩
  ·refine⟨c::pre,post,by rw[e];rfl,fun v hv=>?_,h3⟩
   rcases mem_cons.mp hv with e|e
   ·subst e;exact h1
   ·exact h2 v e
noncomputable abbrev hd0(t:Tl):Nat:=t.2.getD 0 0
noncomputable def Srt(ts:List Tl):Prop:=ts.Pairwise fun a b=>hd0 a<hd0 b
theorem VX(ts:List Tl)(w:Tl)(hs:Srt ts)(h:xB ts none=some w):∀u∈ts,u.1≤w.1∧(u.1=w.1→u=w∨hd0 w<hd0 u):=fun u hu=>by
 obtain⟨pre,post,e,h1,h2⟩:=Z1 ts w h
 rw[e] at hu
 rcases mem_append.mp hu with g|g
 ·have:=h1 u g
  exact⟨by lia,fun z=>by lia⟩
 ·rcases mem_cons.mp g with g|g
  ·subst g;exact⟨Int.le_refl _,fun _=>.inl rfl⟩
  ·refine⟨h2 u g,fun _=>.inr ?_⟩
   unfold Srt at hs
   rw[e] at hs
   have:=(pairwise_append.mp hs).2.1
   exact(pairwise_cons.mp this).1 u g
theorem GK(p:Nat)(ts:List Tl)(h:Srt ts):Srt (wN p ts):=by
 unfold Srt wN
 rw[pairwise_map]
 exact List.Pairwise.filter _ h
theorem GL(ts:List Tl)(h:Srt ts):Srt (ts.map ZX):=by
 unfold Srt
 rw[pairwise_map]
 exact h
theorem X9(x:List Nat):∀q:List Nat,Srt (z9 q x)
 |[]=>List.Pairwise.nil
 |[a]=>by
  unfold Srt z9 jF
  rw[pairwise_map]
  exact List.Pairwise.filter _ List.pairwise_lt_range
 |a::b::q=>by
  unfold Srt z9 Zb
  rw[List.pairwise_filterMap]
  refine List.Pairwise.imp (fun {p r} hpr t ht u hu=>?_) List.pairwise_lt_range
  have key:∀(p:Nat) (t:Tl),uZ a x (z9 (b::q) x) p=some t→hd0 t=p:=fun p t ht=>by
   unfold uZ at ht
   split at ht
   ·cases e:xB (wN p (z9 (b::q) x)) none with
    |none=>rw[e] at ht;cases ht
    |some w=>rw[e] at ht;cases ht;rfl
   ·cases ht
  rw[key p t ht,key r u hu]
  exact hpr
theorem X4(x:List Nat):∀(q:List Nat) (t:Tl),t∈z9 q x→∀l,Lay q x l→l.getD 0 0=hd0 t→vk x q l≤t.1∧(vk x q l=t.1→uA l t.2=false)
 |[],t,h,_,_,_=>by simp[z9] at h
 |[a],t,h,l,hl,he=>by
  simp only[z9,jF,mem_map,mem_filter,mem_range] at h
  obtain⟨p,⟨h1,h2⟩,rfl⟩:=h
  have hlen:=hl.len
  cases l with
  |nil=>simp at hlen
  |cons r l=>
   cases l with
   |cons _ _=>simp at hlen
   |nil=>
    simp only[hd0,getD_cons_zero] at he
    subst he
    exact⟨by simp[vk,sm],fun _=>Ws _⟩
 |a::b::q,t,h,l,hl,he=>by
  simp only[z9,Zb,mem_filterMap,mem_range] at h
  obtain⟨p,h1,h2⟩:=h
  unfold uZ at h2
  split at h2
  ·cases e:xB (wN p (z9 (b::q) x)) none with
   |none=>rw[e] at h2;cases h2
   |some w=>
    rw[e] at h2
    cases h2
    cases l with
    |nil=>have:=hl.len;simp at this
    |cons p' m=>
     simp only[hd0,getD_cons_zero] at he
     subst he
     obtain⟨k0,k1,k2,k3⟩:=hl.tail
     have hml:0<m.length:=by rw[k0.len];simp
     obtain⟨u,u1,u2⟩:=ji x (b::q) m (by simp) k0
     obtain⟨o1,o2⟩:=X4 x (b::q) u u1 m k0 u2.symm
     have hin:(u.1+vS p' (u.2.getD 0 0),u.2)∈wN p' (z9 (b::q) x):=by
      simp only[wN,mem_map,mem_filter,decide_eq_true_eq]
      exact⟨u,⟨u1,by rw[u2];exact k3 hml⟩,rfl⟩
     obtain⟨c1,c2⟩:=VX _ w (GK p' _ (X9 x (b::q))) e _ hin
     have tl:vk x (a::b::q) (p'::m)=wF a x p'+vS p' (m.getD 0 0)+vk x (b::q) m:=by
      cases m with
      |nil=>simp at hml
      |cons r m=>rw[X6];rfl
     rw[tl]
     simp only at c1 c2
     rw[u2] at c1 c2
     refine⟨by show _≤wF a x p'+w.1;lia,fun z=>?_⟩
     have z:wF a x p'+vS p' (m.getD 0 0)+vk x (b::q) m=wF a x p'+w.1:=z
     have z1:vk x (b::q) m=u.1:=by lia
     have z2:u.1+vS p' (m.getD 0 0)=w.1:=by lia
     show uA (p'::m) (p'::w.2)=false
     simp only[uA,if_true]
     rcases c2 z2 with g|g
     ·rw[← g];exact o2 z1
     ·have hwl:0<w.2.length:=by
       rcases wR _ _ _ e with y|y
       ·simp only[wN,mem_map,mem_filter] at y
        obtain⟨v,⟨y1,_⟩,rfl⟩:=y
        have:=(vO x (b::q) v y1).1.len
        simp at this ⊢;lia
       ·cases y
      refine Wu m w.2 hml hwl ?_
      have g:hd0 w<u.2.getD 0 0:=g
      rw[u2] at g
      exact g
  ·cases h2
theorem Tz(q x:List Nat)(hq:q≠[])(v:Int)(l:List Nat)(h:jG q x=some (v,l))(m:List Nat)(hm:Lay q x m):pts q x m q.length≤v∧(pts q x m q.length=v→uA m l=false):=by
 have hs:=(jW q x hq v l h).1
 unfold jG at h
 obtain⟨u,u1,u2⟩:=ji x q m hq hm
 obtain⟨o1,o2⟩:=X4 x q u u1 m hm u2.symm
 obtain⟨c1,c2⟩:=VX _ _ (GL _ (X9 x q)) h (ZX u) (mem_map_of_mem u1)
 have hpos:0<q.length:=length_pos_iff.mpr hq
 have hml:0<m.length:=by rw[hm.len];exact hpos
 have hll:0<l.length:=by rw[hs.len];exact hpos
 have tp:pts q x m q.length=vk x q m+Xe (m.getD 0 0):=by
  cases q with
  |nil=>simp at hpos
  |cons a q=>
   have e:=hm.len
   cases m with
   |nil=>simp at hml
   |cons p m=>
    simp only[length_cons] at e ⊢
    have:q.length=m.length:=by lia
    rw[this,← VG];rfl
 simp only[ZX] at c1 c2
 rw[u2] at c1 c2
 rw[tp]
 refine⟨by lia,fun z=>?_⟩
 have z1:vk x q m=u.1:=by lia
 rcases c2 (by lia) with g|g
 ·have:u.2=l:=congrArg Prod.snd g
  rw[← this];exact o2 z1
 ·refine Wu m l hml hll ?_
  have g:l.getD 0 0<u.2.getD 0 0:=g
  rw[u2] at g
  exact g
theorem Gn(q x:List Nat)(hq:q≠[])(h:wY q x=false):jG q x=none:=by
 cases e:jG q x with
 |none=>rfl
 |some t=>
  have:=Zc x q t.2 (jW q x hq t.1 t.2 e).1
  rw[h] at this;cases this
noncomputable def yw(q x:List Nat):Option Tl:=if q=[] then some (0,[]) else jG q x
structure zs9(q x:List Nat)(v:Int)(l:List Nat):Prop where
 lay:Lay q x l
 pnt:v=pts q x l q.length
 opt:∀m,Lay q x m→pts q x m q.length≤v∧(pts q x m q.length=v→uA m l=false)
theorem JS(x l:List Nat)(h:Lay [] x l):l=[]:=List.eq_nil_of_length_eq_zero h.len
theorem Zd(x:List Nat):Lay [] x []:=⟨rfl,fun j hj=>by simp at hj,fun j hj=>by simp at hj,fun j hj=>by simp at hj⟩
theorem uE(q x l:List Nat)(h:Lay q x l):∃v l',yw q x=some (v,l')∧zs9 q x v l':=by
 unfold yw
 by_cases hq:q=[]
 ·subst hq
  rw[if_pos rfl]
  refine⟨0,[],rfl,Zd x,rfl,fun m hm=>?_⟩
  rw[JS x m hm]
  exact⟨Int.le_refl _,fun _=>rfl⟩
 ·rw[if_neg hq]
  obtain⟨v,l',e,h1,h2⟩:=Go q x l hq h
  exact⟨v,l',e,h1,h2,Tz q x hq v l' e⟩
theorem jX(q x:List Nat)(h:wY q x=false):yw q x=none:=by
 unfold yw
 by_cases hq:q=[]
 ·subst hq;cases x <;> simp[wY] at h
 ·rw[if_neg hq];exact Gn q x hq h
end Law
set_option Elab.async false
set_option linter.all false
set_option maxHeartbeats 1000000
namespace FD
open PySem PySem.Spec PyProof.Rows L2
theorem lst_ok{fi:FA}{τ:DS}{ds:List D}(h:fi τ=.ok ds)(hl:ds.length≤2000):zh4 fi τ=.ok ds:=by
 unfold zh4
 rw[h,Rs.bind_ok]
 exact if_pos (by lia)
theorem tn_ok{g:FT}{τ:DS}{b:Bool}(h:g τ=.ok b):ZT g τ=.ok (!b):=by rw[Jt,h];rfl
theorem GO{fe:FE}{fl fh:FO}{τ:DS}{d r:D}{l u:Option Int}(h1:fe τ=.ok d)(h2:fl τ=.ok l)(h3:fh τ=.ok u)(h:slD d l u=.ok r):eSl fe fl fh τ=.ok r:=by
 rw[Tg,h1,Rs.bind_ok,h2,Rs.bind_ok,h3,Rs.bind_ok,h]
theorem zg8{fe:FE}{τ:DS}{i:Int}(h:fe τ=.ok (.int i)):wM fe τ=.ok (some i):=by rw[Y4,h];rfl
theorem TL{fa fb:FE}{τ:DS}{d:D}(h1:fa τ=.ok (.bl true))(h2:fb τ=.ok d):Xw fa fb τ=.ok d:=by
 rw[Zq,h1,Rs.bind_ok,wo,Rs.bind_ok,if_pos rfl,h2]
theorem or_l{fa fb:FE}{τ:DS}(h1:fa τ=.ok (.bl true)):eOr fa fb τ=.ok (.bl true):=by
 rw[Vm,h1,Rs.bind_ok,wo,Rs.bind_ok,if_pos rfl]
theorem or_r{fa fb:FE}{τ:DS}{d:D}(h1:fa τ=.ok (.bl false))(h2:fb τ=.ok d):eOr fa fb τ=.ok d:=by
 rw[Vm,h1,Rs.bind_ok,wo,Rs.bind_ok,if_neg (by simp),h2]
theorem zh0{f g:FT}{τ:DS}(h1:f τ=.ok true):Z7 f g τ=.ok true:=by rw[uh,h1,Rs.bind_ok,if_pos rfl]
theorem zg9{f g:FT}{τ:DS}{b:Bool}(h1:f τ=.ok false)(h2:g τ=.ok b):Z7 f g τ=.ok b:=by rw[uh,h1,Rs.bind_ok,if_neg (by simp),h2]
end FD
namespace Law
open PySem PySem.Spec PyProof.Rows L2 FD
theorem zs3(a b:List Nat)(ha:a.length≤1000)(hb:b.length≤1000):zI (tx a) (tx b)=.ok (tx (a++b)):=by
 rw[Vs (by rw[uY,uY,sizeLine_v];lia),T9]
end Law
set_option Elab.async false
set_option linter.all false
set_option maxHeartbeats 1000000
namespace FD
open PySem PySem.Spec PyProof.Rows L2
theorem Tp{k:Nat}{idx:List Nat}{fi:FA}{set:FG}{ft:FT}{fe:FE}{τ:DS}{ds xs:List D}(h1:fi τ=.ok ds)(h2:vq set ft fe (vN k idx τ) ds=.ok xs)(h3:xs.length≤1000000):xa k idx fi set ft fe τ=.ok xs:=by
 unfold xa
 rw[h1,Rs.bind_ok,h2]
 exact if_pos (by rw[Law.sizeLine_v];lia)
theorem zj9{fa fb:FE}{τ:DS}{i n:Nat}(h1:fa τ=.ok (.int (i:Int)))(h2:fb τ=.ok (.int (n:Int)))(hi:i≤100000)(hn:n≤100000):M0 (za fa (za fb zh)) τ=.ok ((List.range (n-i)).map fun (k:Nat)=>D.int ((i:Int)+k)):=by
 unfold M0
 rw[zq,h1,Rs.bind_ok,zq,h2,Rs.bind_ok,zM,Rs.bind_ok,Rs.bind_ok,Rs.bind_ok]
 simp only[X1]
 rw[if_pos ⟨⟨by lia,by lia⟩,by lia,by lia⟩]
 unfold YK
 have:((n:Int)-(i:Int)).toNat=n-i:=by lia
 rw[this]
theorem zs4{a b:List D}(h:a.length+b.length≤1000000):zI (.lst a) (.lst b)=.ok (.lst (a++b)):=by
 show(if _ then Rs.ok (D.lst _) else Rs.no)=_
 exact if_pos (by rw[Law.sizeLine_v];lia)
theorem Mv{τ:DS}:xw zh τ=.ok (.lst []):=by
 rw[Zn,zM,Rs.bind_ok];exact if_pos (zero_le _)
end FD
namespace Law
open PySem PySem.Spec PyProof.Rows L2 FD
theorem QE:∀i,i<26→Builtin.Str.occurrences ("abcdefghijklmnopqrstuvwxyz" : Str) ⟨#[i+97]⟩ 0 ("abcdefghijklmnopqrstuvwxyz" : Str).length 1=[i]:=by decide +kernel
theorem M3:∀i,i<26→("ABCDEFGHIJKLMNOPQRSTUVWXYZ" : Str).cps.toList[i]?=some (i+65):=by decide +kernel
theorem QL(a c:Nat):xf [zt a,zt c]=.ok (.bl (yG a c)):=by
 have st:zV 3 [zt a,zt c]=[some (.val (zt a)),some (.val (zt c)),none]:=rfl
 unfold xf Zu
 rw[zY,st,zG,zN,yF,Fl.of_ok,zU,zT]
 simp only[set_cons_succ,set_cons_zero]
 have h0:eOp eqD (zc 0) (zc 1) [some (.val (zt a)),some (.val (zt c)),some (.val (.str "abcdefghijklmnopqrstuvwxyz"))]=.ok (.bl (a==c)):=op2 (ze rfl) (ze rfl) (by simp only[zt];rw[WG,YX])
 have h1:eOp inD (zc 0) (zc 2) [some (.val (zt a)),some (.val (zt c)),some (.val (.str "abcdefghijklmnopqrstuvwxyz"))]=.ok (.bl (decide (97≤a∧a≤122))):=op2 (ze rfl) (ze rfl) (by simp only[zt];rw[Zi,wq,v7])
 by_cases e:a=c
 ·have e':(a==c)=true:=by simpa using e
  rw[e'] at h0
  rw[or_l h0]
  simp[yG,e]
 ·have e':(a==c)=false:=by simpa using e
  rw[e'] at h0
  by_cases s:97≤a∧a≤122
  ·rw[decide_eq_true s] at h1
   obtain⟨i,hi,rfl⟩:∃i,i<26∧a=i+97:=⟨a-97,by lia,by lia⟩
   have hidx:eMt "str" Jd (zc 2) (za (zc 0) zh) [some (.val (zt (i+97))),some (.val (zt c)),some (.val (.str "abcdefghijklmnopqrstuvwxyz"))]=.ok (.int (i:Nat)):=by
    have hty:ZK "str" (.str "abcdefghijklmnopqrstuvwxyz")=true:=rfl
    rw[zr2,ze (d:=.str "abcdefghijklmnopqrstuvwxyz") rfl,Rs.bind_ok,hty,if_pos rfl,zq,ze (d:=zt (i+97)) rfl,Rs.bind_ok,zM,Rs.bind_ok,Rs.bind_ok]
    simp only[Jd,zt,VH]
    rw[QE i hi]
   have hix:ixD (.str "ABCDEFGHIJKLMNOPQRSTUVWXYZ") (.int (i:Nat))=.ok (zt (i+65)):=Ze (ZR (by lia) (by rw[toNat_natCast];exact M3 i hi)) (by decide +kernel)
   have h2:eOp eqD (zc 1) (eOp ixD (eC (.str "ABCDEFGHIJKLMNOPQRSTUVWXYZ")) (eMt "str" Jd (zc 2) (za (zc 0) zh))) [some (.val (zt (i+97))),some (.val (zt c)),some (.val (.str "abcdefghijklmnopqrstuvwxyz"))]=.ok (.bl (c==i+65)):=
    op2 (ze rfl) (op2 rfl hidx hix) (by simp only[zt];rw[WG,YX])
   rw[or_r h0 (TL h1 h2)]
   have hup:up1 (i+97)=i+65:=by unfold up1;rw[if_pos s];lia
   simp only[Fl.of_ok,zL,yG,e',Bool.false_or,decide_eq_true s,Bool.true_and,hup]
   congr 2
   rw[Bool.eq_iff_iff];simp;lia
  ·rw[decide_eq_false s] at h1
   have h2:Xw (eOp inD (zc 0) (zc 2)) (eOp eqD (zc 1) (eOp ixD (eC (.str "ABCDEFGHIJKLMNOPQRSTUVWXYZ")) (eMt "str" Jd (zc 2) (za (zc 0) zh)))) [some (.val (zt a)),some (.val (zt c)),some (.val (.str "abcdefghijklmnopqrstuvwxyz"))]=.ok (.bl false):=by
    rw[Zq,h1,Rs.bind_ok,wo,Rs.bind_ok,if_neg (by simp)]
   rw[or_r h0 h2]
   simp only[Fl.of_ok,zL,yG,e',Bool.false_or,decide_eq_false s,Bool.false_and]
noncomputable def stt(l:List Nat):Nat:=match l.getLast? with
 |some p=>p+1
 |none=>0
noncomputable def ext(a:Nat)(x l:List Nat):List (List Nat):=(((List.range (x.length-stt l)).map (stt l + ·)).filter fun k=>yG a (x.getD k 0)).map fun k=>l++[k]
noncomputable def vF(q x:List Nat):List (List Nat):=q.foldl (fun found a=>found.flatMap (ext a x)) [[]]
theorem yv(l:List Nat)(p j:Nat):(l++[p]).getD j 0=if j<l.length then l.getD j 0 else if j=l.length then p else 0:=by
 by_cases h:j<l.length
 ·rw[if_pos h];simp[getD_eq_getElem?_getD,getElem?_append_left h]
 ·rw[if_neg h]
  by_cases e:j=l.length
  ·subst e;simp[getD_eq_getElem?_getD]
  ·rw[if_neg e,getD_eq_getElem?_getD,List.getElem?_eq_none (by simp;lia)];rfl
theorem WQ(l:List Nat):stt l=if l=[] then 0 else l.getD (l.length-1) 0+1:=by
 unfold stt
 cases l with
 |nil=>rfl
 |cons a r=>
  rw[List.getLast?_eq_getElem?,if_neg (by simp),getD_eq_getElem?_getD,getElem?_eq_getElem (by simp:(a::r).length-1<(a::r).length)]
  rfl
theorem Ub(q x l:List Nat)(a p:Nat):Lay (q++[a]) x (l++[p])↔Lay q x l∧stt l≤p∧p<x.length∧yG a (x.getD p 0)=true:=by
 constructor
 ·intro h
  have hl:l.length=q.length:=by have:=h.len;simp at this;exact this
  refine⟨⟨hl,fun j hj=>?_,fun j hj=>?_,fun j hj=>?_⟩,?_,?_,?_⟩
  ·have:=h.ris j (by simp;lia)
   rwa [yv,yv,if_pos (by lia),if_pos hj] at this
  ·have:=h.inn j (by simp;lia)
   rwa [yv,if_pos hj] at this
  ·have:=h.met j (by simp;lia)
   rwa [yv,yv,if_pos (by lia),if_pos hj] at this
  ·rw[WQ]
   by_cases e:l=[]
   ·rw[if_pos e];lia
   ·rw[if_neg e]
    have hp:0<l.length:=length_pos_iff.mpr e
    have:=h.ris (l.length-1) (by simp;lia)
    rw[yv,yv,if_pos (by lia),if_neg (by lia),if_pos (by lia)] at this
    lia
  ·have:=h.inn l.length (by simp)
   rwa [yv,if_neg (by lia),if_pos rfl] at this
  ·have:=h.met l.length (by simp)
   rwa [yv,yv,if_neg (by lia),if_pos (by lia),if_neg (by lia),if_pos rfl] at this
 ·rintro⟨h,h1,h2,h3⟩
  have hl:=h.len
  refine⟨by simp[hl],fun j hj=>?_,fun j hj=>?_,fun j hj=>?_⟩
  ·simp at hj
   rw[yv,yv,if_pos (by lia)]
   by_cases e:j+1<l.length
   ·rw[if_pos e];exact h.ris j e
   ·rw[if_neg e,if_pos (by lia)]
    rw[WQ,if_neg (by intro z;subst z;simp at hj)] at h1
    have:l.length-1=j:=by lia
    rw[this] at h1;lia
  ·simp at hj
   rw[yv]
   by_cases e:j<l.length
   ·rw[if_pos e];exact h.inn j e
   ·rw[if_neg e,if_pos (by lia)];exact h2
  ·simp at hj
   by_cases e:j<l.length
   ·rw[yv,yv,if_pos e,if_pos (by lia)];exact h.met j e
   ·have e1:(q++[a]).getD j 0=a:=by rw[yv,if_neg (by lia),if_pos (by lia)]
    have e2:(l++[p]).getD j 0=p:=by rw[yv,if_neg (by lia),if_pos (by lia)]
    rw[e1,e2];exact h3
theorem Ys(a:Nat)(x l0 l:List Nat):l∈ext a x l0↔∃p,l=l0++[p]∧stt l0≤p∧p<x.length∧yG a (x.getD p 0)=true:=by
 unfold ext
 simp only[mem_map,mem_filter,mem_range]
 constructor
 ·rintro⟨p,⟨⟨k,hk,rfl⟩,hm⟩,rfl⟩
  exact⟨_,rfl,by lia,by lia,hm⟩
 ·rintro⟨p,rfl,h1,h2,h3⟩
  exact⟨p,⟨⟨p-stt l0,by lia,by lia⟩,h3⟩,rfl⟩
theorem Y8(a:Nat)(x p:List Nat)(found:List (List Nat))(h:∀l,l∈found↔Lay p x l)(l:List Nat):l∈found.flatMap (ext a x)↔Lay (p++[a]) x l:=by
 rw[mem_flatMap]
 constructor
 ·rintro⟨l0,h0,h1⟩
  obtain⟨k,rfl,h2⟩:=(Ys a x l0 l).mp h1
  exact(Ub p x l0 a k).mpr ⟨(h l0).mp h0,h2⟩
 ·intro hl
  have hne:l≠[]:=fun z=>by subst z;have:=hl.len;simp at this
  have e:l=l.dropLast++[l.getLast hne]:=(List.dropLast_concat_getLast hne).symm
  rw[e] at hl
  obtain⟨h1,h2⟩:=(Ub p x _ a _).mp hl
  exact⟨l.dropLast,(h _).mpr h1,(Ys a x _ l).mpr ⟨_,e,h2⟩⟩
theorem V4(x:List Nat):∀(q p:List Nat) (found:List (List Nat)),(∀l,l∈found↔Lay p x l)→∀l,l∈q.foldl (fun found a=>found.flatMap (ext a x)) found↔Lay (p++q) x l:=by
 intro l_
 induction l_ with
 |nil=>
  rintro p found h l
  rw[append_nil];exact h l
 |cons a q ih_=>
  rintro p found h l
  have:=ih_ (p++[a]) _ (Y8 a x p found h) l
  rw[append_assoc] at this
  exact this
theorem vE(q x l:List Nat):l∈vF q x↔Lay q x l:=by
 refine V4 x q [] [[]] (fun l=>?_) l
 constructor
 ·intro h
  have:l=[]:=by simpa using h
  subst this;exact Zd x
 ·intro h
  have:l=[]:=List.eq_nil_of_length_eq_zero h.len
  subst this;simp
theorem Yv(a:Nat)(x l:List Nat):(ext a x l).length≤x.length:=by
 unfold ext
 rw[length_map]
 have:=length_filter_le (fun k=>yG a (x.getD k 0)) ((List.range (x.length-stt l)).map (stt l + ·))
 rw[length_map,length_range] at this
 lia
theorem Us(a:Nat)(x:List Nat)(hx:x.length≤10):∀found:List (List Nat),(found.flatMap (ext a x)).length≤10*found.length:=by
 intro l_
 induction l_ with
 |nil=>
  simp
 |cons l r ih_=>
  have:=ih_
  have h1:=Yv a x l
  simp only[List.flatMap_cons,length_append,length_cons]
  lia
end Law
set_option Elab.async false
set_option linter.all false
set_option maxHeartbeats 1000000
namespace FD
open PySem PySem.Spec PyProof.Rows L2
theorem Mq(l:List Nat):okD (.lst (l.map fun (k:Nat)=>D.int k))=true:=by
 have a:∀l:List Nat,plainDs (l.map fun (k:Nat)=>D.int k)=true:=fun l=>by
  induction l with
  |nil=>rfl
  |cons a r ih=>simp[plainDs,xA,ih]
 have b:∀l:List Nat,PyData.canLayAll0 (toPys (l.map fun (k:Nat)=>D.int k))=true:=fun l=>by
  induction l with
  |nil=>rfl
  |cons a r ih=>simp[toPys,yW,PyData.canLayAll0,PyData.canLay0,ih]
 have c:∀l:List Nat,PyData.depthAll (toPys (l.map fun (k:Nat)=>D.int k))=0:=fun l=>by
  induction l with
  |nil=>rfl
  |cons a r ih=>simp[toPys,yW,PyData.depthAll,PyData.depth,ih]
 simp[okD,xA,yW,PyData.canLay0,PyData.depth,a,b l,c]
theorem JK:okD (.lst [])=true:=by decide
theorem J1(ds:List D):uf (.lst ds) (.lst [])=ds.isEmpty:=by
 simp only[uf,yW,toPys,PyData.eqv,Xt]
 cases ds <;> rfl
theorem Mx(ds:List D)(h:okD (.lst ds)=true):neD (.lst ds) (.lst [])=.ok (.bl (!ds.isEmpty)):=by
 simp only[neD,h,JK,and_self,if_true,J1]
theorem zq8(ds:List D)(h:okD (.lst ds)=true):eqD (.lst ds) (.lst [])=.ok (.bl ds.isEmpty):=by
 simp only[eqD,h,JK,and_self,if_true,J1]
theorem if_t{g:FT}{fa fb:FE}{τ:DS}{r:Rs D}(h1:g τ=.ok true)(h2:fa τ=r):eIf g fa fb τ=r:=by rw[Vn,h1,Rs.bind_ok,if_pos rfl,h2]
theorem if_f{g:FT}{fa fb:FE}{τ:DS}{r:Rs D}(h1:g τ=.ok false)(h2:fb τ=r):eIf g fa fb τ=r:=by rw[Vn,h1,Rs.bind_ok,if_neg (by simp),h2]
end FD
namespace Law
open PySem PySem.Spec PyProof.Rows L2 FD
noncomputable def stE:FE:=(eIf (FD.tB (eOp neD (zc 5) (xw zh))) (eOp zI (eOp ixD (zc 5) (wL (eC (.int 1)))) (eC (.int 1))) (eC (.int 0)))
noncomputable def cmE:FA:=(xa 1 [5,3,1] (M0 (za (zc 6) (za (z7 yL (za (zc 1) zh)) zh))) (gNm 0) (uR (zo xf (za (zc 2) (za (eOp ixD (zc 3) (zc 0)) zh)))) (eOp zI (zc 1) (xw (za (zc 0) zh))))
noncomputable def cmV:FE:=fun τ=>(cmE τ).bind fun ds=>.ok (.lst ds)
noncomputable def ib:FS:=(zp (zB 6 stE) (zB 4 (eOp zI (zc 4) cmV)))
noncomputable def ob:FS:=(zp (zB 4 (xw zh)) (zp (wj (xi (zc 2)) (gNm 5) ib) (zB 2 (zc 4))))
theorem zo5:vM=zp (zB 2 (xw (za (xw zh) zh))) (zp (wj (xi (zc 0)) (gNm 3) ob) (yh (zc 2))):=by
 unfold vM ob ib cmV cmE stE;rfl
noncomputable abbrev S7(q x:List Nat)(a2 a3 a4 a5 a6:Option Sl):DS:=[some (.val (tx q)),some (.val (tx x)),a2,a3,a4,a5,a6]
theorem L3(l:List Nat)(h:l≠[]):ixD (nts l) (.int (-1))=.ok (.int (l.getD (l.length-1) 0:Nat)):=by
 have hp:0<l.length:=length_pos_iff.mpr h
 refine Vf ?_
 have e:ixN (l.map fun (k:Nat)=>D.int k).length (-1)=some (l.length-1):=by
  unfold ixN
  rw[length_map,if_neg (by lia),if_pos (by lia)]
  congr 1;lia
 unfold atI
 rw[e]
 show(l.map fun (k:Nat)=>D.int k)[l.length-1]?=_
 rw[getElem?_map,u9 l (l.length-1) (by lia)];rfl
theorem zj2(q x l:List Nat)(a2 a3 a4 a6:Option Sl):stE (S7 q x a2 a3 a4 (some (.val (nts l))) a6)=.ok (.int (stt l:Nat)):=by
 unfold stE
 have hn:=Mx _ (Mq l)
 rw[WQ]
 cases l with
 |nil=>exact if_f (xz (op2 (ze rfl) Mv hn)) rfl
 |cons a r=>
  rw[if_neg (by simp)]
  refine if_t (xz (op2 (ze rfl) Mv hn)) ?_
  rw[op2 (op2 (ze rfl) (rfl:wL (eC (.int 1)) _=.ok (.int (-1))) (L3 (a::r) (by simp))) rfl yJ]
  congr 2
theorem zr4(q x l:List Nat)(a:Nat)(a2 a4:Option Sl)(hx:x.length≤10)(hl:l.length≤10)(hs:stt l≤1000):cmV (S7 q x a2 (some (.val (zt a))) a4 (some (.val (nts l))) (some (.val (.int (stt l:Nat)))))=.ok (.lst ((ext a x l).map nts)):=by
 have r2:=zj9 (fa:=zc 6) (fb:=z7 yL (za (zc 1) zh)) (τ:=S7 q x a2 (some (.val (zt a))) a4 (some (.val (nts l))) (some (.val (.int (stt l:Nat))))) (i:=stt l) (n:=x.length) (ze rfl) (v0 (ze rfl) (xG x (by lia))) (by lia) (by lia)
 have e1:((List.range (x.length-stt l)).map fun (k:Nat)=>D.int (((stt l:Nat):Int)+k))=((List.range (x.length-stt l)).map (stt l + ·)).map fun (k:Nat)=>D.int k:=by
  rw[map_map]
  apply map_congr_left
  intro k _
  show D.int (((stt l:Nat):Int)+(k:Int))=D.int ((stt l+k:Nat):Int)
  congr 1
 rw[e1] at r2
 have cf:=ve (set:=gNm 0) (ft:=(uR (zo xf (za (zc 2) (za (eOp ixD (zc 3) (zc 0)) zh))))) (fe:=(eOp zI (zc 1) (xw (za (zc 0) zh)))) (τ:=[none,some (.val (nts l)),some (.val (zt a)),some (.val (tx x))])
  (fun (k:Nat)=>D.int k) (fun k=>nts (l++[k])) (fun k=>yG a (x.getD k 0)) ((List.range (x.length-stt l)).map (stt l + ·)) fun p hp=>by
   obtain⟨k,hk,rfl⟩:=mem_map.mp hp
   have hk:=mem_range.mp hk
   refine⟨[some (.val (.int ((stt l+k:Nat):Int))),some (.val (nts l)),some (.val (zt a)),some (.val (tx x))],rfl,tru_ok (ug (ze rfl) (op2 (ze rfl) (ze rfl) (jA x (stt l+k) (by lia) (by lia))) (QL a _)),op2 (ze rfl) (Wo (ze rfl)) ?_⟩
   rw[zs4 (by simp;lia)]
   simp
 have hlen:((((List.range (x.length-stt l)).map (stt l + ·)).filter fun k=>yG a (x.getD k 0)).map fun k=>nts (l++[k])).length≤1000000:=by
  have:=Yv a x l
  unfold ext at this
  rw[length_map] at this ⊢
  lia
 have ec:=Tp (k:=1) (idx:=[5,3,1]) (τ:=S7 q x a2 (some (.val (zt a))) a4 (some (.val (nts l))) (some (.val (.int (stt l:Nat))))) r2 cf hlen
 unfold cmV cmE
 rw[ec]
 unfold ext
 rw[map_map]
 rfl
theorem zq4(e1 e2:FE)(S L M R:D)(a0 a1 a2 a3 a5 a6:Option Sl)(h1:e1 [a0,a1,a2,a3,some (.val L),a5,a6]=.ok S)(h2:e2 [a0,a1,a2,a3,some (.val L),a5,some (.val S)]=.ok M)(h3:zI L M=.ok R) :
  zp (zB 6 e1) (zB 4 (eOp zI (zc 4) e2)) [a0,a1,a2,a3,some (.val L),a5,a6]=.nx [a0,a1,a2,a3,some (.val R),a5,some (.val S)]:=by
 simp only[zG,zN,ye,zE,getElem?_cons_zero,getElem?_cons_succ,set_cons_succ,set_cons_zero,zx,Rs.bind_ok,Fl.of_ok,zU,h1,h2,h3]
theorem ib_ok(q x l:List Nat)(a:Nat)(acc:List (List Nat))(a2 a6:Option Sl)(hx:x.length≤10)(hl:l.length≤10)(hs:stt l≤1000)(hc:acc.length≤900000) :
  ∃b6,ib (S7 q x a2 (some (.val (zt a))) (some (.val (.lst (acc.map nts)))) (some (.val (nts l))) a6)=.nx (S7 q x a2 (some (.val (zt a))) (some (.val (.lst ((acc++ext a x l).map nts)))) (some (.val (nts l))) b6):=by
 have h3:zI (.lst (acc.map nts)) (.lst ((ext a x l).map nts))=.ok (.lst ((acc++ext a x l).map nts)):=by
  have:=Yv a x l
  rw[zs4 (by rw[length_map,length_map];lia),map_append]
 unfold ib
 exact⟨_,zq4 stE cmV _ _ _ _ _ _ _ _ _ _ (zj2 q x l _ _ _ _) (zr4 q x l a _ _ hx hl hs) h3⟩
theorem JX(q x:List Nat)(a:Nat)(a2:Option Sl)(hx:x.length≤10):∀(ls acc:List (List Nat)) (a5 a6:Option Sl),(∀l∈ls,l.length≤10∧stt l≤1000)→acc.length+10*ls.length≤900000 →
  ∃b5 b6,yr (gNm 5) ib (ls.map nts) (S7 q x a2 (some (.val (zt a))) (some (.val (.lst (acc.map nts)))) a5 a6)=.nx (S7 q x a2 (some (.val (zt a))) (some (.val (.lst ((acc++ls.flatMap (ext a x)).map nts)))) b5 b6):=by
 intro l_
 induction l_ with
 |nil=>
  rintro acc a5 a6 _ _
  exact⟨a5,a6,by rw[List.flatMap_nil,append_nil];rfl⟩
 |cons l ls ih_=>
  rintro acc a5 a6 h hc
  simp only[length_cons] at hc
  obtain⟨b6,h1⟩:=ib_ok q x l a acc a2 a6 hx (h l (mem_cons_self ..)).1 (h l (mem_cons_self ..)).2 (by lia)
  have:=Yv a x l
  obtain⟨c5,c6,h2⟩:=ih_ (acc++ext a x l) (some (.val (nts l))) b6 (fun m hm=>h m (mem_cons_of_mem _ hm)) (by rw[length_append];lia)
  refine⟨c5,c6,?_⟩
  rw[map_cons,yr,vH,Fl.of_ok]
  have h1':ib ((S7 q x a2 (some (.val (zt a))) (some (.val (.lst (acc.map nts)))) a5 a6).set 5 (some (.val (nts l))))=.nx (S7 q x a2 (some (.val (zt a))) (some (.val (.lst ((acc++ext a x l).map nts)))) (some (.val (nts l))) b6):=h1
  rw[h1']
  rw[List.flatMap_cons,← append_assoc]
  exact h2
theorem zq1(it:FA)(b:FS)(L:List D)(R:D)(a0 a1 a2 a3 a4 a5 a6 b5 b6:Option Sl)(h1:it [a0,a1,a2,a3,some (.val (.lst [])),a5,a6]=.ok L)(h2:yr (gNm 5) b L [a0,a1,a2,a3,some (.val (.lst [])),a5,a6]=.nx [a0,a1,a2,a3,some (.val R),b5,b6]) :
  zp (zB 4 (xw zh)) (zp (wj it (gNm 5) b) (zB 2 (zc 4))) [a0,a1,a2,a3,a4,a5,a6]=.nx [a0,a1,some (.val R),a3,some (.val R),b5,b6]:=by
 have h0:=Mv (τ:=[a0,a1,a2,a3,a4,a5,a6])
 simp only[zG,zN,xP,zE,getElem?_cons_zero,getElem?_cons_succ,set_cons_succ,set_cons_zero,zx,Fl.of_ok,zU,h0,h1,h2]
theorem JL(q x:List Nat)(hx:x.length≤10):∀(r p:List Nat) (found:List (List Nat)) (a3 a4 a5 a6:Option Sl),(∀l,l∈found↔Lay p x l)→p.length+r.length≤5→found.length≤10 ^ p.length →
  ∃b3 b4 b5 b6,yr (gNm 3) ob (r.map zt) (S7 q x (some (.val (.lst (found.map nts)))) a3 a4 a5 a6)=.nx (S7 q x (some (.val (.lst ((r.foldl (fun found a=>found.flatMap (ext a x)) found).map nts)))) b3 b4 b5 b6):=by
 intro l_
 induction l_ with
 |nil=>
  rintro p found a3 a4 a5 a6 _ _ _
  exact⟨a3,a4,a5,a6,rfl⟩
 |cons a r ih_=>
  rintro p found a3 a4 a5 a6 h hp hf
  simp only[length_cons] at hp
  have hf4:found.length≤10000:=le_trans hf (Nat.pow_le_pow_right (by decide:0<10) (by lia:p.length≤4))
  have hls:∀l∈found,l.length≤10∧stt l≤1000:=fun l hl=>by
   have L:=(h l).mp hl
   refine⟨by rw[L.len];lia,?_⟩
   rw[WQ]
   split
   ·lia
   ·rename_i hne
    have:=L.inn (l.length-1) (by have:=length_pos_iff.mpr hne;lia)
    lia
  obtain⟨b5,b6,h1⟩:=JX q x a (some (.val (.lst (found.map nts)))) hx found [] a5 a6 hls (by simp;lia)
  have hb:ob (S7 q x (some (.val (.lst (found.map nts)))) (some (.val (zt a))) a4 a5 a6)=.nx (S7 q x (some (.val (.lst ((found.flatMap (ext a x)).map nts)))) (some (.val (zt a))) (some (.val (.lst ((found.flatMap (ext a x)).map nts)))) b5 b6):=by
   unfold ob
   exact zq1 _ _ _ _ _ _ _ _ _ _ _ _ _ rfl h1
  have hfl:=Us a x hx found
  obtain⟨c3,c4,c5,c6,h2⟩:=ih_ (p++[a]) (found.flatMap (ext a x)) (some (.val (zt a))) (some (.val (.lst ((found.flatMap (ext a x)).map nts)))) b5 b6 (Y8 a x p found h) (by simp;lia) (by
   rw[length_append,length_singleton,Nat.pow_succ];lia)
  refine⟨c3,c4,c5,c6,?_⟩
  rw[map_cons,yr,vH,Fl.of_ok]
  have hb':ob ((S7 q x (some (.val (.lst (found.map nts)))) a3 a4 a5 a6).set 3 (some (.val (zt a))))=.nx (S7 q x (some (.val (.lst ((found.flatMap (ext a x)).map nts)))) (some (.val (zt a))) (some (.val (.lst ((found.flatMap (ext a x)).map nts)))) b5 b6):=hb
  rw[hb']
  exact h2
theorem M5(it:FA)(b:FS)(L:List D)(A B R:D)(c3 c4 c5 c6:Option Sl)(h1:it [some (.val A),some (.val B),some (.val (.lst [.lst []])),none,none,none,none]=.ok L)(h2:yr (gNm 3) b L [some (.val A),some (.val B),some (.val (.lst [.lst []])),none,none,none,none]=.nx [some (.val A),some (.val B),some (.val R),c3,c4,c5,c6]) :
  yX 7 (zp (zB 2 (xw (za (xw zh) zh))) (zp (wj it (gNm 3) b) (yh (zc 2)))) [A,B]=.ok R:=by
 have st:zV 7 [A,B]=[some (.val A),some (.val B),none,none,none,none,none]:=rfl
 have h0:=Wo (Mv (τ:=[some (.val A),some (.val B),none,none,none,none,none]))
 rw[zY,st]
 simp only[zG,zN,zT,xP,zE,getElem?_cons_zero,getElem?_cons_succ,set_cons_succ,set_cons_zero,zx,Fl.of_ok,zU,zL,h0,h1,h2]
theorem JR(q x:List Nat)(hq:q.length≤5)(hx:x.length≤10):yc [tx q,tx x]=.ok (.lst ((vF q x).map nts)):=by
 obtain⟨b3,b4,b5,b6,h⟩:=JL q x hx q [] [[]] none none none none (fun l=>by
  constructor
  ·intro h
   have:l=[]:=by simpa using h
   subst this;exact Zd x
  ·intro h
   have:l=[]:=List.eq_nil_of_length_eq_zero h.len
   subst this;simp) (by simpa using hq) (by simp)
 unfold yc
 rw[zo5]
 have it:xi (zc 0) [some (.val (tx q)),some (.val (tx x)),some (.val (.lst [.lst []])),none,none,none,none]=.ok (q.map zt):=by
  rw[Zj,ze (d:=tx q) rfl,Rs.bind_ok,MR,VB]
 exact M5 _ _ _ _ _ _ _ _ _ _ it h
theorem Wr:∀(l m:List Nat) (a b:Nat),l.length=m.length→uA l m=true→uA (l++[a]) (m++[b])=true
 |[],[],_,_,_,h=>by cases h
 |[],_::_,_,_,h,_=>by simp at h
 |_::_,[],_,_,h,_=>by simp at h
 |x::xs,y::ys,a,b,hl,h=>by
  simp only[uA] at h
  simp only[List.cons_append,uA]
  by_cases e:x=y
  ·rw[if_pos e] at h ⊢
   exact Wr xs ys a b (by simpa using hl) h
  ·rw[if_neg e] at h ⊢;exact h
theorem Wt:∀(l:List Nat) (a b:Nat),a<b→uA (l++[a]) (l++[b])=true:=by
 intro l_
 induction l_ with
 |nil=>
  rintro a b h
  simp only[nil_append,uA]
  rw[if_neg (by lia)]
  exact decide_eq_true h
 |cons x xs ih_=>
  rintro a b h
  simp only[List.cons_append,uA,if_true]
  exact ih_ a b h
noncomputable def Vu(ls:List (List Nat)):Prop:=ls.Pairwise fun l m=>uA l m=true
theorem zd5(a:Nat)(x l:List Nat):Vu (ext a x l):=by
 unfold Vu ext
 rw[pairwise_map]
 refine List.Pairwise.filter _ ?_
 rw[pairwise_map]
 refine List.Pairwise.imp (fun {i j} h=>?_) (List.pairwise_lt_range)
 exact Wt l _ _ (by lia)
theorem GI(a:Nat)(x:List Nat)(n:Nat)(found:List (List Nat))(hn:∀l∈found,l.length=n)(h:Vu found):Vu (found.flatMap (ext a x)):=by
 unfold Vu
 rw[List.pairwise_flatMap]
 refine⟨fun l _=>zd5 a x l,?_⟩
 refine List.Pairwise.imp_of_mem (fun {l m} hl hm hlm u hu v hv=>?_) h
 obtain⟨p,rfl,_⟩:=(Ys a x l u).mp hu
 obtain⟨p',rfl,_⟩:=(Ys a x m v).mp hv
 exact Wr l m p p' (by rw[hn l hl,hn m hm]) hlm
theorem Uq(x:List Nat):∀(q p:List Nat) (found:List (List Nat)),(∀l,l∈found↔Lay p x l)→Vu found→Vu (q.foldl (fun found a=>found.flatMap (ext a x)) found):=by
 intro l_
 induction l_ with
 |nil=>
  rintro p found _ h
  exact h
 |cons a q ih_=>
  rintro p found hm h
  exact ih_ (p++[a]) (found.flatMap (ext a x)) (Y8 a x p found hm) (GI a x p.length found (fun l hl=>((hm l).mp hl).len) h)
theorem MJ(q x:List Nat):Vu (vF q x):=by
 refine Uq x q [] [[]] (fun l=>?_) (by simp[Vu])
 constructor
 ·intro h
  have:l=[]:=by simpa using h
  subst this;exact Zd x
 ·intro h
  have:l=[]:=JS x l h
  subst this;simp
noncomputable def UA(q x:List Nat):List Tl:=(vF q x).map fun l=>(pts q x l q.length,l)
theorem TC(q x:List Nat):xB (UA q x) none=yw q x:=by
 by_cases hs:wY q x=true
 ·have hl:=jt q x hs
  obtain⟨v,l',e,hb⟩:=uE q x _ hl
  rw[e]
  have hne:UA q x≠[]:=by
   intro z
   unfold UA at z
   rw[List.map_eq_nil_iff] at z
   have:=(vE q x _).mpr hl
   rw[z] at this;simp at this
  obtain⟨t,ht,htm⟩:=Xo _ hne
  rw[ht]
  obtain⟨pre,post,es,h1,h2⟩:=Z1 _ t ht
  obtain⟨l,hlm,rfl⟩:=mem_map.mp htm
  have hlL:=(vE q x l).mp hlm
  have hl'm:(pts q x l' q.length,l')∈UA q x:=mem_map.mpr ⟨l',(vE q x l').mpr hb.lay,rfl⟩
  have o1:=hb.opt l hlL
  have hv:v=pts q x l' q.length:=hb.pnt
  have hle:∀u∈UA q x,u.1≤pts q x l q.length:=fun u hu=>by
   rw[es] at hu
   rcases mem_append.mp hu with z|z
   ·exact Int.le_of_lt (h1 u z)
   ·rcases mem_cons.mp z with z|z
    ·rw[z];exact Int.le_refl _
    ·exact h2 u z
  have o2:=hle _ hl'm
  have hev:pts q x l q.length=v:=by
   have:=o1.1
   simp only at o2
   lia
  have hll:l=l':=by
   rw[es] at hl'm
   rcases mem_append.mp hl'm with z|z
   ·have:=h1 _ z
    simp only at this;lia
   ·rcases mem_cons.mp z with z|z
    ·have:=congrArg Prod.snd z
     exact this.symm
    ·exfalso
     have hp:(UA q x).Pairwise fun a b=>uA a.2 b.2=true:=by
      unfold UA
      rw[pairwise_map]
      exact MJ q x
     rw[es] at hp
     have hp2:=(pairwise_append.mp hp).2.1
     have:=(pairwise_cons.mp hp2).1 _ z
     simp only at this
     rw[o1.2 hev] at this
     cases this
  rw[hev,hll]
 ·have hs:wY q x=false:=by simpa using hs
  rw[jX q x hs]
  have:vF q x=[]:=by
   cases z:vF q x with
   |nil=>rfl
   |cons l r=>
    have:=(vE q x l).mp (by rw[z];simp)
    have:=Zc x q l this
    rw[hs] at this;cases this
  unfold UA
  rw[this];rfl
theorem sf_l:("abcdefghijklmnopqrstuvwxyz0123456789" : Str).cps.toList=(List.range 26).map (· + 97)++(List.range 10).map (· + 48):=by decide +kernel
theorem zj5(c:Nat):decide (c∈("abcdefghijklmnopqrstuvwxyz0123456789" : Str).cps.toList)=decide ((97≤c∧c≤122)∨(48≤c∧c≤57)):=by
 rw[sf_l]
 have h1:=Yi c 25 97
 have h2:=Yi c 9 48
 simp only[decide_eq_decide] at h1 h2
 rw[decide_eq_decide,mem_append]
 exact⟨fun h=>h.elim (fun h=>.inl (h1.mp h)) (fun h=>.inr (h2.mp h)),fun h=>h.elim (fun h=>.inl (h1.mpr h)) (fun h=>.inr (h2.mpr h))⟩
theorem MX(b:Bool):intD [.bl b]=.ok (.int (if b then 1 else 0)):=rfl
theorem Li(a c:Nat):eqD (zt a) (zt c)=.ok (.bl (decide (c=a))):=by
 have:=WG (a:=(⟨#[a]⟩:Str)) (b:=⟨#[c]⟩)
 show eqD (.str ⟨#[a]⟩) (.str ⟨#[c]⟩)=_
 rw[this]
 congr 2
 rw[Bool.eq_iff_iff,beq_iff_eq,decide_eq_true_iff]
 constructor
 ·intro h
  have:=congrArg (fun s:Str=>s.cps.toList) h
  simp at this
  exact this.symm
 ·intro h;rw[h]
theorem MQ(x:List Nat)(p:Nat)(hp:p<x.length)(h0:p≠0)(hx:x.length≤1000):ixD (tx x) (.int ((p:Int)-1))=.ok (zt (x.getD (p-1) 0)):=by
 have e:((p:Int)-1)=((p-1:Nat):Int):=by lia
 rw[e]
 exact jA x (p-1) (by lia) hx
theorem Q5(e3:FE)(g1 g2:FT)(e4 e5:FE)(A B P:D)(w:Int)(b1 b2 bg:Bool)(r:D)(h3:e3 [some (.val A),some (.val B),some (.val P),none,none]=.ok (.int w))
  (h1:g1 [some (.val A),some (.val B),some (.val P),some (.val (.int w)),none]=.ok b1) (h2:b1=false→g2 [some (.val A),some (.val B),some (.val P),some (.val (.int w)),none]=.ok b2)
  (h4:b1=false→b2=false→e4 [some (.val A),some (.val B),some (.val P),some (.val (.int w)),none]=.ok (.bl bg)) (h5:b1=false→b2=false→e5 [some (.val A),some (.val B),some (.val P),some (.val (.int w)),some (.val (.bl bg))]=.ok r) :
  yX 5 (zp (zB 3 e3) (zp (sIf g1 (yh (eOp zI (zc 3) (eC (.int 8)))) ya) (zp (sIf g2 (yh (eOp zI (zc 3) (eC (.int 6)))) ya) (zp (zB 4 e4) (yh e5))))) [A,B,P]=if b1=true then .ok (.int (w+8)) else if b2=true then .ok (.int (w+6)) else .ok r:=by
 have st:zV 5 [A,B,P]=[some (.val A),some (.val B),some (.val P),none,none]:=rfl
 rw[zY,st]
 cases b1 with
 |true=>simp only[zG,zN,yi,zT,zZ,ye,zE,yF,getElem?_cons_zero,getElem?_cons_succ,set_cons_succ,set_cons_zero,zx,Rs.bind_ok,Fl.of_ok,zU,uQ,zL,yJ,if_true,h3,h1]
 |false=>
  have h2:=h2 rfl
  cases b2 with
  |true=>simp only[zG,zN,yi,zT,zZ,ye,zE,yF,getElem?_cons_zero,getElem?_cons_succ,set_cons_succ,set_cons_zero,zx,Rs.bind_ok,Fl.of_ok,zU,uQ,zL,yJ,if_true,Bool.false_eq_true,if_false,h3,h1,h2]
  |false=>
   have h4:=h4 rfl rfl
   have h5:=h5 rfl rfl
   simp only[zG,zN,yi,zT,zZ,ye,zE,yF,getElem?_cons_zero,getElem?_cons_succ,set_cons_succ,set_cons_zero,zx,Rs.bind_ok,Fl.of_ok,zU,zL,yJ,Bool.false_eq_true,if_false,h3,h1,h2,h4,h5]
theorem zf4:uH=(zp (zB 3 (eOp zI (eC (.int 10)) (z7 intD (za (eOp eqD (zc 0) (eOp ixD (zc 1) (zc 2))) zh))))
  (zp (sIf (FD.tB (eOp eqD (zc 2) (eC (.int 0)))) (yh (eOp zI (zc 3) (eC (.int 8)))) ya)
  (zp (sIf (FD.tB (eOp inD (eOp ixD (zc 1) (eOp yH (zc 2) (eC (.int 1)))) (eC (.str "_-./")))) (yh (eOp zI (zc 3) (eC (.int 6)))) ya)
  (zp (zB 4 (eOp inD (eOp ixD (zc 1) (zc 2)) (eC (.str "ABCDEFGHIJKLMNOPQRSTUVWXYZ"))))
  (yh (eOp zI (zc 3) (eOp wP (eC (.int 5)) (z7 intD (za (Xw (zc 4) (eOp inD (eOp ixD (zc 1) (eOp yH (zc 2) (eC (.int 1)))) (eC (.str "abcdefghijklmnopqrstuvwxyz0123456789")))) zh))))))))):=by unfold uH;rfl
theorem TM(a:Nat)(x:List Nat)(p:Nat)(hx:x.length≤1000)(hp:p<x.length):xg [zt a,tx x,.int (p:Int)]=.ok (.int (wF a x p)):=by
 have hix:=jA x p hp hx
 have w:Int:=10+(if x.getD p 0=a then 1 else 0)
 have h3:eOp zI (eC (.int 10)) (z7 intD (za (eOp eqD (zc 0) (eOp ixD (zc 1) (zc 2))) zh)) [some (.val (zt a)),some (.val (tx x)),some (.val (.int (p:Int))),none,none]=.ok (.int (10+(if decide (x.getD p 0=a) then 1 else 0))):=
  op2 rfl (v0 (op2 (ze rfl) (op2 (ze rfl) (ze rfl) hix) (Li a _)) (MX _)) yJ
 have h1:FD.tB (eOp eqD (zc 2) (eC (.int 0))) [some (.val (zt a)),some (.val (tx x)),some (.val (.int (p:Int))),some (.val (.int (10+(if decide (x.getD p 0=a) then 1 else 0)))),none]=.ok (decide (p=0)):=by
  refine xz (op2 (ze rfl) rfl ?_)
  rw[vI]
  congr 2
  rw[Bool.eq_iff_iff,beq_iff_eq,decide_eq_true_iff];lia
 have inn:∀(c:Nat) (y:Str),inD (zt c) (.str y)=.ok (.bl (decide (c∈y.cps.toList))):=fun c y=>by simp only[zt];rw[Zi,wq]
 unfold xg
 rw[zf4]
 rw[Q5 _ _ _ _ _ _ _ _ (10+(if decide (x.getD p 0=a) then 1 else 0)) (decide (p=0)) (decide (x.getD (p-1) 0∈MK)) (decide (65≤x.getD p 0∧x.getD p 0≤90))
  (.int (10+(if decide (x.getD p 0=a) then 1 else 0)+5*(if (decide (65≤x.getD p 0∧x.getD p 0≤90)&&decide ((97≤x.getD (p-1) 0∧x.getD (p-1) 0≤122)∨(48≤x.getD (p-1) 0∧x.getD (p-1) 0≤57))) then 1 else 0))) h3 h1 (fun hz=>?_) (fun hz _=>?_) (fun hz _=>?_)]
 ·unfold wF TD
  by_cases z:p=0
  ·simp only[z,decide_true,if_true]
   simp only[decide_eq_true_eq]
   congr 2;lia
  ·simp only[z,decide_false,Bool.false_eq_true,if_false,decide_eq_true_eq,Bool.and_eq_true]
   by_cases z2:x.getD (p-1) 0∈MK
   ·simp only[z2,if_true];congr 2;lia
   ·simp only[z2,if_false]
    split <;> split <;> first | (congr 2;lia;done) | (simp_all;done) | (simp_all;lia)
 ·have z:p≠0:=by simpa using hz
  have:=MQ x p hp z hx
  have h:=inn (x.getD (p-1) 0) "_-./"
  rw[U1] at h
  exact xz (op2 (op2 (ze rfl) (op2 (ze rfl) rfl yY) this) rfl h)
 ·have h:=inn (x.getD p 0) "ABCDEFGHIJKLMNOPQRSTUVWXYZ"
  rw[uc] at h
  exact op2 (op2 (ze rfl) (ze rfl) hix) rfl h
 ·have z:p≠0:=by simpa using hz
  have hs:=MQ x p hp z hx
  have h:=inn (x.getD (p-1) 0) "abcdefghijklmnopqrstuvwxyz0123456789"
  rw[zj5] at h
  have ha:∀τ:DS,τ=[some (.val (zt a)),some (.val (tx x)),some (.val (.int (p:Int))),some (.val (.int (10+(if decide (x.getD p 0=a) then 1 else 0)))),some (.val (.bl (decide (65≤x.getD p 0∧x.getD p 0≤90))))] →
    Xw (zc 4) (eOp inD (eOp ixD (zc 1) (eOp yH (zc 2) (eC (.int 1)))) (eC (.str "abcdefghijklmnopqrstuvwxyz0123456789"))) τ=.ok (.bl (decide (65≤x.getD p 0∧x.getD p 0≤90)&&decide ((97≤x.getD (p-1) 0∧x.getD (p-1) 0≤122)∨(48≤x.getD (p-1) 0∧x.getD (p-1) 0≤57)))):=fun τ e=>by
   subst e
   cases k:decide (65≤x.getD p 0∧x.getD p 0≤90) with
   |true=>rw[Bool.true_and];exact TL (ze rfl) (op2 (op2 (ze rfl) (op2 (ze rfl) rfl yY) hs) rfl h)
   |false=>rw[Zq,ze (d:=.bl false) rfl,Rs.bind_ok,wo,Rs.bind_ok,if_neg (by simp)];rfl
  exact op2 (ze rfl) (op2 rfl (v0 (ha _ rfl) (MX _)) (vD (.inl ⟨by decide,by decide⟩))) yJ
noncomputable def Xd:FS:=(zp (zB 3 (eOp zI (zc 3) (zo xg (za (eOp ixD (zc 0) (zc 4)) (za (zc 1) (za (zc 5) zh))))))
  (sIf (FD.tB (eOp eqD (zc 4) (eC (.int 0)))) (zB 3 (eOp yH (zc 3) (z7 vo (za (eC (.int 3)) (za (zc 5) zh))))) (sIf (FD.tB (eOp eqD (eOp zI (eOp ixD (zc 2) (eOp yH (zc 4) (eC (.int 1)))) (eC (.int 1))) (zc 5))) (zB 3 (eOp zI (zc 3) (eC (.int 7)))) (zB 3 (eOp yH (zc 3) (z7 vo (za (eC (.int 5)) (za (eOp yH (eOp yH (zc 5) (eOp ixD (zc 2) (eOp yH (zc 4) (eC (.int 1))))) (eC (.int 1))) zh))))))))
noncomputable def SP6(q x l:List Nat)(v:Int)(s4 s5:Option Sl):DS:=[some (.val (tx q)),some (.val (tx x)),some (.val (nts l)),some (.val (.int v)),s4,s5]
theorem zq2(e1 e2 e3 e4:FE)(g1 g2:FT)(a0 a1 a2 a4 a5:Option Sl)(v w r2 r3 r4:D)(b1 b2:Bool)(h1:e1 [a0,a1,a2,some (.val v),a4,a5]=.ok w)(k1:g1 [a0,a1,a2,some (.val w),a4,a5]=.ok b1)(k2:b1=false→g2 [a0,a1,a2,some (.val w),a4,a5]=.ok b2)
  (h2:b1=true→e2 [a0,a1,a2,some (.val w),a4,a5]=.ok r2) (h3:b1=false→b2=true→e3 [a0,a1,a2,some (.val w),a4,a5]=.ok r3) (h4:b1=false→b2=false→e4 [a0,a1,a2,some (.val w),a4,a5]=.ok r4) :
  zp (zB 3 e1) (sIf g1 (zB 3 e2) (sIf g2 (zB 3 e3) (zB 3 e4))) [a0,a1,a2,some (.val v),a4,a5]=.nx [a0,a1,a2,some (.val (if b1=true then r2 else if b2=true then r3 else r4)),a4,a5]:=by
 cases b1 with
 |true=>have h2:=h2 rfl;simp only[zG,zN,yi,set_cons_succ,set_cons_zero,Fl.of_ok,zU,if_true,h1,k1,h2]
 |false=>
  have k2:=k2 rfl
  cases b2 with
  |true=>have h3:=h3 rfl rfl;simp only[zG,zN,yi,set_cons_succ,set_cons_zero,Fl.of_ok,zU,if_true,Bool.false_eq_true,if_false,h1,k1,k2,h3]
  |false=>have h4:=h4 rfl rfl;simp only[zG,zN,yi,set_cons_succ,set_cons_zero,Fl.of_ok,zU,Bool.false_eq_true,if_false,h1,k1,k2,h4]
theorem za3(q x l:List Nat)(k:Nat)(hq:q.length≤1000)(hx:x.length≤1000)(h:Lay q x l)(hk:k<l.length) :
  Xd (SP6 q x l (pts q x l k) (some (.val (.int (k:Int)))) (some (.val (.int (l.getD k 0:Nat)))))=.nx (SP6 q x l (pts q x l (k+1)) (some (.val (.int (k:Int)))) (some (.val (.int (l.getD k 0:Nat))))):=by
 have hkq:k<q.length:=by rw[← h.len];exact hk
 have hin:=h.inn k hk
 have hqi:=jA q k hkq hq
 have hal:=TM (q.getD k 0) x (l.getD k 0) hx hin
 unfold Xd SP6
 have e1:eOp zI (zc 3) (zo xg (za (eOp ixD (zc 0) (zc 4)) (za (zc 1) (za (zc 5) zh)))) [some (.val (tx q)),some (.val (tx x)),some (.val (nts l)),some (.val (.int (pts q x l k))),some (.val (.int (k:Int))),some (.val (.int (l.getD k 0:Nat)))]=.ok (.int (pts q x l k+wF (q.getD k 0) x (l.getD k 0))):=
  op2 (ze rfl) (vU (op2 (ze rfl) (ze rfl) hqi) (ze rfl) (ze rfl) hal) yJ
 have k1:FD.tB (eOp eqD (zc 4) (eC (.int 0))) [some (.val (tx q)),some (.val (tx x)),some (.val (nts l)),some (.val (.int (pts q x l k+wF (q.getD k 0) x (l.getD k 0)))),some (.val (.int (k:Int))),some (.val (.int (l.getD k 0:Nat)))]=.ok (decide (k=0)):=by
  refine xz (op2 (ze rfl) rfl ?_)
  rw[vI]
  congr 2
  rw[Bool.eq_iff_iff,beq_iff_eq,decide_eq_true_iff];lia
 have prev:k≠0→∀τ:DS,τ[2]?=some (some (.val (nts l)))→τ[4]?=some (some (.val (.int (k:Int))))→eOp ixD (zc 2) (eOp yH (zc 4) (eC (.int 1))) τ=.ok (.int (l.getD (k-1) 0:Nat)):=fun hz τ t2 t4=>by
  have e:((k:Int)-1)=((k-1:Nat):Int):=by lia
  refine op2 (ze t2) (op2 (ze t4) rfl yY) ?_
  rw[e];exact Ms l (k-1) (by lia)
 refine(zq2 _ _ _ _ _ _ _ _ _ _ _ _ _ (.int (pts q x l k+wF (q.getD k 0) x (l.getD k 0)-(if ((l.getD k 0:Nat):Int)<3 then ((l.getD k 0:Nat):Int) else 3))) (.int (pts q x l k+wF (q.getD k 0) x (l.getD k 0)+7))
  (.int (pts q x l k+wF (q.getD k 0) x (l.getD k 0)-(if ((l.getD k 0:Nat):Int)-(l.getD (k-1) 0:Nat)-1<5 then ((l.getD k 0:Nat):Int)-(l.getD (k-1) 0:Nat)-1 else 5))) (decide (k=0)) (decide (l.getD (k-1) 0+1=l.getD k 0)) e1 k1 (fun hz=>?_) (fun hz=>?_) (fun hz _=>?_) (fun hz _=>?_)).trans ?_
 ·have z:k≠0:=by simpa using hz
  refine xz (op2 (op2 (prev z _ rfl rfl) rfl yJ) (ze rfl) ?_)
  rw[vI]
  congr 2
  rw[Bool.eq_iff_iff,beq_iff_eq,decide_eq_true_iff];lia
 ·refine op2 (ze rfl) ?_ yY
  rw[wv,zq];exact Y7 _ _
 ·exact op2 (ze rfl) rfl yJ
 ·have z:k≠0:=by simpa using hz
  have hp:=prev z [some (.val (tx q)),some (.val (tx x)),some (.val (nts l)),some (.val (.int (pts q x l k+wF (q.getD k 0) x (l.getD k 0)))),some (.val (.int (k:Int))),some (.val (.int (l.getD k 0:Nat)))] rfl rfl
  refine op2 (ze rfl) ?_ yY
  have h2:eOp yH (eOp yH (zc 5) (eOp ixD (zc 2) (eOp yH (zc 4) (eC (.int 1))))) (eC (.int 1)) [some (.val (tx q)),some (.val (tx x)),some (.val (nts l)),some (.val (.int (pts q x l k+wF (q.getD k 0) x (l.getD k 0)))),some (.val (.int (k:Int))),some (.val (.int (l.getD k 0:Nat)))]=.ok (.int (((l.getD k 0:Nat):Int)-(l.getD (k-1) 0:Nat)-1)):=op2 (op2 (ze rfl) hp yY) rfl yY
  rw[wv,zq,yF,Rs.bind_ok,zq,h2,Rs.bind_ok,zM,Rs.bind_ok,Rs.bind_ok,Rs.bind_ok]
  exact Y7 _ _
 ·have:(if decide (k=0)=true then D.int (pts q x l k+wF (q.getD k 0) x (l.getD k 0)-(if ((l.getD k 0:Nat):Int)<3 then ((l.getD k 0:Nat):Int) else 3)) else if decide (l.getD (k-1) 0+1=l.getD k 0)=true then D.int (pts q x l k+wF (q.getD k 0) x (l.getD k 0)+7) else D.int (pts q x l k+wF (q.getD k 0) x (l.getD k 0)-(if ((l.getD k 0:Nat):Int)-(l.getD (k-1) 0:Nat)-1<5 then ((l.getD k 0:Nat):Int)-(l.getD (k-1) 0:Nat)-1 else 5)))=D.int (pts q x l (k+1)):=by
   show _=D.int (pts q x l k+trm q x l k)
   unfold trm
   by_cases z:k=0
   ·subst z
    simp only[decide_true,if_true,Xe]
    congr 1;lia
   ·simp only[z,decide_false,Bool.false_eq_true,if_false,vS]
    by_cases z2:l.getD (k-1) 0+1=l.getD k 0
    ·simp only[z2,decide_true,if_true]
     rw[if_pos (by lia)]
     congr 1;lia
    ·simp only[z2,decide_false,Bool.false_eq_true,if_false]
     rw[if_neg (show ¬ ((l.getD k 0:Nat):Int)-(l.getD (k-1) 0:Nat)-1=0 by lia)]
     congr 1;lia
  rw[this]
theorem JN(q x l:List Nat)(hq:q.length≤1000)(hx:x.length≤1000)(h:Lay q x l):∀(r:List Nat) (k:Nat) (s4 s5:Option Sl),l.drop k=r→k≤l.length→∃t4 t5,yr (gPr 4 5) Xd (yN k (r.map fun (t:Nat)=>D.int t)) (SP6 q x l (pts q x l k) s4 s5)=.nx (SP6 q x l (pts q x l l.length) t4 t5):=by
 intro l_
 induction l_ with
 |nil=>
  rintro k s4 s5 hd hk
  have:k=l.length:=by have:=congrArg List.length hd;simp at this;lia
  subst this
  exact⟨s4,s5,rfl⟩
 |cons p r ih_=>
  rintro k s4 s5 hd hk
  obtain⟨d1,d2⟩:=WH hd
  have hlt:k<l.length:=by have:=congrArg List.length hd;simp at this;lia
  obtain⟨t4,t5,ih⟩:=ih_ (k+1) (some (.val (.int (k:Int)))) (some (.val (.int (p:Int)))) d1 hlt
  refine⟨t4,t5,?_⟩
  have hs:=za3 q x l k hq hx h hlt
  rw[d2] at hs
  have hset:gPr 4 5 (.tup [.int (k:Int),.int (p:Int)]) (SP6 q x l (pts q x l k) s4 s5)=.ok (SP6 q x l (pts q x l k) (some (.val (.int (k:Int)))) (some (.val (.int (p:Int))))):=rfl
  rw[map_cons,yN,yr,hset,Fl.of_ok]
  simp only[hs]
  exact ih
theorem lp_b:v6=(zp (zB 3 (eC (.int 0))) (zp (wj (iEn (za (zc 2) zh)) (gPr 4 5) Xd) (yh (zc 3)))):=by unfold v6 Xd;rfl
theorem zc9(it:FA)(b:FS)(A B C:D)(L:List D)(P:D)(t4 t5:Option Sl)(h1:it [some (.val A),some (.val B),some (.val C),some (.val (.int 0)),none,none]=.ok L)(h2:yr (gPr 4 5) b L [some (.val A),some (.val B),some (.val C),some (.val (.int 0)),none,none]=.nx [some (.val A),some (.val B),some (.val C),some (.val P),t4,t5]) :
  yX 6 (zp (zB 3 (eC (.int 0))) (zp (wj it (gPr 4 5) b) (yh (zc 3)))) [A,B,C]=.ok P:=by
 have st:zV 6 [A,B,C]=[some (.val A),some (.val B),some (.val C),none,none,none]:=rfl
 rw[zY,st]
 simp only[zG,zN,zT,xP,zE,yF,getElem?_cons_zero,getElem?_cons_succ,set_cons_succ,set_cons_zero,zx,Fl.of_ok,zU,zL,h1,h2]
theorem U6(q x l:List Nat)(hq:q.length≤1000)(hx:x.length≤1000)(h:Lay q x l):yV [tx q,tx x,nts l]=.ok (.int (pts q x l q.length)):=by
 obtain⟨t4,t5,h1⟩:=JN q x l hq hx h l 0 none none (drop_zero ..) (zero_le _)
 have it:iEn (za (zc 2) zh) [some (.val (tx q)),some (.val (tx x)),some (.val (nts l)),some (.val (.int 0)),none,none]=.ok (yN 0 (l.map fun (t:Nat)=>D.int t)):=rfl
 unfold yV
 rw[lp_b,← h.len]
 exact zc9 _ _ _ _ _ _ _ _ _ it h1
noncomputable def Xf:FS:=(zp (zB 4 (zo yV (za (zc 0) (za (zc 1) (za (zc 3) zh)))))
  (sIf (Z7 (FD.tB (eOp isD (zc 2) (eC .non))) (FD.tB (eOp gtD (zc 4) (eOp ixD (zc 2) (eC (.int 0)))))) (zB 2 (xu (za (zc 4) (za (zc 3) zh)))) ya))
theorem M4(e1 e2:FE)(g:FT)(a0 a1 a3 a4:Option Sl)(C W T:D)(b:Bool)(h1:e1 [a0,a1,some (.val C),a3,a4]=.ok W)(h2:g [a0,a1,some (.val C),a3,some (.val W)]=.ok b)(h3:b=true→e2 [a0,a1,some (.val C),a3,some (.val W)]=.ok T) :
  zp (zB 4 e1) (sIf g (zB 2 e2) ya) [a0,a1,some (.val C),a3,a4]=.nx [a0,a1,some (.val (if b=true then T else C)),a3,some (.val W)]:=by
 cases b with
 |true=>have h3:=h3 rfl;simp only[zG,zN,yi,zZ,set_cons_succ,set_cons_zero,Fl.of_ok,zU,if_true,h1,h2,h3]
 |false=>simp only[zG,zN,yi,zZ,set_cons_succ,set_cons_zero,Fl.of_ok,zU,Bool.false_eq_true,if_false,h1,h2]
theorem zb1(q x l:List Nat)(c:Option Tl)(s4:Option Sl)(hq:q.length≤1000)(hx:x.length≤1000)(h:Lay q x l) :
  ∃t4,Xf [some (.val (tx q)),some (.val (tx x)),some (.val (wK c)),some (.val (nts l)),s4]=.nx [some (.val (tx q)),some (.val (tx x)),some (.val (wK (xB [(pts q x l q.length,l)] c))),some (.val (nts l)),t4]:=by
 have hp:=U6 q x l hq hx h
 have e1:zo yV (za (zc 0) (za (zc 1) (za (zc 3) zh))) [some (.val (tx q)),some (.val (tx x)),some (.val (wK c)),some (.val (nts l)),s4]=.ok (.int (pts q x l q.length)):=vU (ze rfl) (ze rfl) (ze rfl) hp
 have e2:∀C:D,xu (za (zc 4) (za (zc 3) zh)) [some (.val (tx q)),some (.val (tx x)),some (.val C),some (.val (nts l)),some (.val (.int (pts q x l q.length)))]=.ok (tlD (pts q x l q.length,l)):=fun C=>WP (ze rfl) (ze rfl)
 unfold Xf
 cases c with
 |none=>
  refine⟨some (.val (.int (pts q x l q.length))),(M4 _ _ _ _ _ _ _ _ _ _ true e1 (zh0 (xz (op2 (ze rfl) rfl MV))) fun _=>e2 _).trans ?_⟩
  rfl
 |some t=>
  have g:Z7 (FD.tB (eOp isD (zc 2) (eC .non))) (FD.tB (eOp gtD (zc 4) (eOp ixD (zc 2) (eC (.int 0))))) [some (.val (tx q)),some (.val (tx x)),some (.val (wK (some t))),some (.val (nts l)),some (.val (.int (pts q x l q.length)))]=.ok (decide (t.1<pts q x l q.length)):=
   zg9 (xz (op2 (ze rfl) rfl (MU t))) (xz (op2 (ze rfl) (op2 (ze rfl) rfl (VE t)) WE))
  refine⟨some (.val (.int (pts q x l q.length))),(M4 _ _ _ _ _ _ _ _ _ _ _ e1 g fun _=>e2 _).trans ?_⟩
  by_cases z:t.1<pts q x l q.length
  ·simp only[z,decide_true,if_true,xB];rfl
  ·simp only[z,decide_false,Bool.false_eq_true,if_false,xB]
theorem Jf(t:Tl)(ts:List Tl)(c:Option Tl):xB (t::ts) c=xB ts (xB [t] c):=by
 cases c <;> rfl
theorem JQ(q x:List Nat)(hq:q.length≤1000)(hx:x.length≤1000):∀(ls:List (List Nat)) (c:Option Tl) (s3 s4:Option Sl),(∀l∈ls,Lay q x l)→∃t3 t4,yr (gNm 3) Xf (ls.map nts) [some (.val (tx q)),some (.val (tx x)),some (.val (wK c)),s3,s4]=.nx [some (.val (tx q)),some (.val (tx x)),some (.val (wK (xB (ls.map fun l=>(pts q x l q.length,l)) c))),t3,t4]:=by
 intro l_
 induction l_ with
 |nil=>
  rintro c s3 s4 _
  exact⟨s3,s4,rfl⟩
 |cons l ls ih_=>
  rintro c s3 s4 h
  obtain⟨t4,e⟩:=zb1 q x l c s4 hq hx (h l (mem_cons_self ..))
  obtain⟨u3,u4,ih⟩:=ih_ (xB [(pts q x l q.length,l)] c) (some (.val (nts l))) t4 fun m hm=>h m (mem_cons_of_mem _ hm)
  refine⟨u3,u4,?_⟩
  rw[map_cons,yr,vH,Fl.of_ok]
  simp only[set_cons_succ,set_cons_zero,e]
  rw[ih,map_cons,Jf (pts q x l q.length,l) (ls.map _) c]
theorem lb_b:jh=(zp (zB 2 (eC .non)) (zp (wj (xi (zo yc (za (zc 0) (za (zc 1) zh)))) (gNm 3) Xf) (yh (zc 2)))):=by unfold jh Xf;rfl
theorem zd0(it:FA)(b:FS)(A B R:D)(L:List D)(t3 t4:Option Sl)(h1:it [some (.val A),some (.val B),some (.val .non),none,none]=.ok L)(h2:yr (gNm 3) b L [some (.val A),some (.val B),some (.val .non),none,none]=.nx [some (.val A),some (.val B),some (.val R),t3,t4]) :
  yX 5 (zp (zB 2 (eC .non)) (zp (wj it (gNm 3) b) (yh (zc 2)))) [A,B]=.ok R:=by
 have st:zV 5 [A,B]=[some (.val A),some (.val B),none,none,none]:=rfl
 rw[zY,st]
 simp only[zG,zN,zT,xP,zE,yF,getElem?_cons_zero,getElem?_cons_succ,set_cons_succ,set_cons_zero,zx,Fl.of_ok,zU,zL,h1,h2]
theorem MI(q x:List Nat)(hq:q.length≤5)(hx:x.length≤10):wn [tx q,tx x]=.ok (wK (yw q x)):=by
 obtain⟨t3,t4,h⟩:=JQ q x (by lia) (by lia) (vF q x) none none none fun l hl=>(vE q x l).mp hl
 have it:xi (zo yc (za (zc 0) (za (zc 1) zh))) [some (.val (tx q)),some (.val (tx x)),some (.val .non),none,none]=.ok ((vF q x).map nts):=by
  rw[Zj,ug (ze rfl) (ze rfl) (JR q x hq hx)];rfl
 unfold wn
 rw[lb_b,← TC]
 exact zd0 _ _ _ _ _ _ _ _ it h
theorem TW(q x:List Nat)(hq:q.length≤1000)(hx:x.length≤1000)(ha:∀c∈q,c<128):uz [tx q,tx x]=.ok (wK (yw q x)):=by
 by_cases z:q=[]
 ·subst z
  have st:zV 4 [tx [],tx x]=[some (.val (tx [])),some (.val (tx x)),none,none]:=rfl
  have hl:=xG [] (by simp)
  have hg:FD.tB (eOp eqD (z7 yL (za (zc 0) zh)) (eC (.int 0))) [some (.val (tx [])),some (.val (tx x)),none,none]=.ok true:=xz (op2 (v0 (ze rfl) hl) rfl rfl)
  have he:xu (za (eC (.int 0)) (za (xw zh) zh)) [some (.val (tx [])),some (.val (tx x)),none,none]=.ok (.tup [.int 0,.lst []]):=WP rfl Mv
  unfold uz
  rw[TB,zY,st,zG,yi,hg,Fl.of_ok,if_pos rfl,zT,he]
  rfl
 ·have:=zf0 q x z hq hx ha
  rw[this]
  unfold yw
  rw[if_neg z]
theorem Q4(fc:FA)(g:FT)(fx:FE)(A B C:D)(L:List D)(b:Bool)(d:D)(h1:fc [some (.val A),some (.val B),some (.val C),none]=.ok L)(h2:g [some (.val A),some (.val B),some (.val C),some (.own L)]=.ok b)
  (h3:b=true→fx [some (.val A),some (.val B),some (.val C),some (.own L)]=.ok d∧0<L.length) :
  yX 4 (zp (vz 3 fc) (zp (sIf g (Qo 3 (eC (.int 0)) fx) ya) (j2 3))) [A,B,C]=.ok (.lst (if b=true then L.set 0 d else L)):=by
 have st:zV 4 [A,B,C]=[some (.val A),some (.val B),some (.val C),none]:=rfl
 rw[zY,st]
 cases b with
 |false=>simp only[zG,vy,yi,v8,ua,zZ,WY,yF,getElem?_cons_zero,getElem?_cons_succ,set_cons_succ,set_cons_zero,xW,Fl.of_ok,zU,zL,Bool.false_eq_true,if_false,h1,h2,vy,v8,ua,xW,Bool.false_eq_true,if_false]
 |true=>
  obtain⟨h3,h4⟩:=h3 rfl
  have hp:=G3 (n:=3) (τ:=[some (.val A),some (.val B),some (.val C),some (.own L)]) (d:=d) (j:=0) h4
  have e0:(((0:Nat):Int))=0:=rfl
  rw[e0] at hp
  simp only[zG,vy,yi,v8,ua,zZ,WY,yF,getElem?_cons_zero,getElem?_cons_succ,set_cons_succ,set_cons_zero,xW,Fl.of_ok,zU,zL,if_true,h1,h2,h3,vy,v8,ua,xW,WY,hp]
theorem zn5:uG=(zp (vz 3 (xa 1 [0,1] (uN (za (zo zr (za (zc 0) (za (zc 1) (za (eOp zI (zc 2) (eC (.int 1))) zh)))) zh)) (gNm 0) (fun _=>.ok true) (zo xE (za (zc 1) (za (eOp zI (eOp zI (zc 2) (eC (.int 1))) (eOp wP (eC (.int 12)) (zc 0))) zh)))))
  (zp (sIf (vm (FD.tB (eOp gtD (Zp 3) (eC (.int 1)))) (FD.tB (eOp eqD (zo zr (za (zc 0) (za (eOp zI (zc 1) (eC (.int 12))) (za (eC (.int 5)) zh)))) (eC (.int 0))))) (Qo 3 (eC (.int 0)) (Q9 3 (wL (eC (.int 1))))) ya)
  (j2 3))):=by unfold uG;rfl
noncomputable def Gp(x:List Nat):Prop:=0<x.length∧x.length≤10∧∀c∈x,c∈NS
theorem Mz(ns:List Int)(a:Int)(h0:0≤a):Gp (vR ns a (Wj ns a)):=by
 have d:=wW ns a (m:=10) (by decide)
 have hl:(vR ns a (Wj ns a)).length=(1+wx ns a 10).toNat:=by simp[vR,Wj]
 refine⟨by rw[hl];lia,by rw[hl];lia,fun c hc=>?_⟩
 obtain⟨k,_,rfl⟩:=mem_map.mp hc
 exact QF ns a k (by lia)
theorem zi4{f g:FT}{τ:DS}{b c:Bool}(h1:f τ=.ok b)(h2:b=true→g τ=.ok c):vm f g τ=.ok (b&&c):=by
 rw[wS,h1,Rs.bind_ok]
 cases b with
 |false=>rfl
 |true=>rw[if_pos rfl,h2 rfl];rfl
theorem My(ns:List Int)(a most:Int)(h63:ns.length≤63)(h0:0≤a)(ha:a<800000)(hm0:0≤most)(hm1:most<50) :
  ∃X:List (List Nat),xV [.scr ns,.int a,.int most]=.ok (.lst (X.map tx))∧(X.length:Int)≤most∧∀x∈X,Gp x:=by
 have dl:=wW ns a (m:=most+1) (by lia)
 have dk:=wV ns a (most+1) h63 h0 (by lia) (by lia)
 have dk2:=wV ns (a+12) 5 h63 (by lia) (by lia) (by decide)
 generalize hN:wx ns a (most+1)=N at *
 generalize wx ns (a+12) 5=M at *
 have cf:=vd (set:=gNm 0) (fe:=(zo xE (za (zc 1) (za (eOp zI (eOp zI (zc 2) (eC (.int 1))) (eOp wP (eC (.int 12)) (zc 0))) zh)))) (τ:=[none,some (.val (.scr ns)),some (.val (.int a))]) (fun (k:Nat)=>D.int (0+k)) tx
  (fun k=>vR ns (a+1+12*(k:Int)) (Wj ns (a+1+12*(k:Int)))) (List.range N.toNat) fun k hk=>by
   have hk:=mem_range.mp hk
   refine⟨[some (.val (.int (k:Int))),some (.val (.scr ns)),some (.val (.int a))],by rw[Int.zero_add];rfl,?_⟩
   exact ug (ze rfl) (op2 (op2 (ze rfl) rfl yJ) (op2 rfl (ze rfl) (vD (by lia))) yJ) (L4 ns _ h63 (by lia) (by lia))
 have it:uN (za (zo zr (za (zc 0) (za (zc 1) (za (eOp zI (zc 2) (eC (.int 1))) zh)))) zh) [some (.val (.scr ns)),some (.val (.int a)),some (.val (.int most)),none]=.ok ((List.range N.toNat).map fun (k:Nat)=>D.int (0+k)):=
  YJ (n:=N.toNat) (by rw[Int.toNat_of_nonneg dl.1];exact vU (ze rfl) (ze rfl) (op2 (ze rfl) rfl yJ) dk) (by lia)
 have ec:=wI (k:=1) (idx:=[0,1]) it cf (by simp;lia)
 generalize hX0:(List.range N.toNat).map (fun (k:Nat)=>vR ns (a+1+12*(k:Int)) (Wj ns (a+1+12*(k:Int))))=X0 at ec cf
 have l0:X0.length=N.toNat:=by rw[← hX0];simp
 have ok0:∀x∈X0,Gp x:=fun x hx=>by
  rw[← hX0] at hx
  obtain⟨k,_,rfl⟩:=mem_map.mp hx
  exact Mz ns _ (by lia)
 have hg:vm (FD.tB (eOp gtD (Zp 3) (eC (.int 1)))) (FD.tB (eOp eqD (zo zr (za (zc 0) (za (eOp zI (zc 1) (eC (.int 12))) (za (eC (.int 5)) zh)))) (eC (.int 0)))) [some (.val (.scr ns)),some (.val (.int a)),some (.val (.int most)),some (.own (X0.map tx))]=.ok (decide (1<(X0.length:Int))&&(M==0)):=
  zi4 (xz (op2 (a:=.int (X0.length:Int)) (by rw[Zo];show Rs.ok (D.int ((X0.map tx).length:Int))=_;rw[length_map]) rfl WE)) fun _=>xz (op2 (vU (ze rfl) (op2 (ze rfl) rfl yJ) rfl dk2) rfl vI)
 have hne:(decide (1<(X0.length:Int))&&(M==0))=true→0<X0.length:=fun h=>by
  rw[Bool.and_eq_true,decide_eq_true_eq] at h;lia
 have e:=Q4 _ _ (Q9 3 (wL (eC (.int 1)))) (.scr ns) (.int a) (.int most) (X0.map tx) _ (tx (X0.getD (X0.length-1) [])) ec hg fun h=>by
  have hp:=hne h
  refine⟨?_,by rw[length_map];exact hp⟩
  rw[zd8]
  show(Rs.ok (X0.map tx)).bind (fun ds=>(wL (eC (.int 1)) _).bind (ixO ds))=_
  rw[Rs.bind_ok,Yw,yF,Rs.bind_ok]
  show(Rs.ok (D.int (-1))).bind _=_
  rw[Rs.bind_ok]
  unfold ixO
  have:atI (X0.map tx) (-1)=some (tx (X0.getD (X0.length-1) [])):=by
   have e:ixN (X0.map tx).length (-1)=some (X0.length-1):=by
    unfold ixN
    rw[length_map,if_neg (by lia),if_pos (by lia)]
    congr 1;lia
   unfold atI
   rw[e]
   show(X0.map tx)[X0.length-1]?=_
   rw[getElem?_map,getElem?_eq_getElem (by lia)]
   simp[show X0.length-1<X0.length by lia]
  simp only[this]
 unfold xV
 rw[zn5,e]
 cases hb:(decide (1<(X0.length:Int))&&(M==0)) with
 |false=>exact⟨X0,by rw[if_neg (by simp)],by lia,ok0⟩
 |true=>
  have hp:=hne hb
  refine⟨X0.set 0 (X0.getD (X0.length-1) []),by rw[if_pos rfl,List.map_set],by rw[length_set];lia,fun x hx=>?_⟩
  rcases List.mem_or_eq_of_mem_set hx with h|h
  ·exact ok0 x h
  ·rw[h]
   have:X0.getD (X0.length-1) []=X0[X0.length-1]'(by lia):=by simp[show X0.length-1<X0.length by lia]
   rw[this]
   exact ok0 _ (getElem_mem _)
theorem Um{α β:Type}(f:α→β)(x:List Int×α):∀l:List (List Int×α),Xj (x.1,f x.2) (l.map fun p=>(p.1,f p.2))=(Xj x l).map fun p=>(p.1,f p.2):=by
 intro l_
 induction l_ with
 |nil=>
  exact rfl
 |cons y r ih_=>
  rw[map_cons,Xj,Xj]
  split
  ·rfl
  ·rw[ih_];rfl
theorem Wb{α β:Type}(f:α→β):∀l:List (List Int×α),ww (l.map fun p=>(p.1,f p.2))=(ww l).map fun p=>(p.1,f p.2):=by
 intro l_
 induction l_ with
 |nil=>
  exact rfl
 |cons x r ih_=>
  rw[map_cons,ww,ww,ih_,Um]
noncomputable def vn{α:Type}(key:α→List Int)(rs:List α):List α:=(ww (rs.map fun r=>(key r,r))).map (·.2)
theorem Lc{α:Type}(key:α→List Int)(f:α→D)(rs:List α):(ww ((rs.map key).zip (rs.map f))).map (·.2)=(vn key rs).map f:=by
 have e:(rs.map key).zip (rs.map f)=(rs.map fun r=>(key r,r)).map fun p=>(p.1,f p.2):=by
  induction rs with
  |nil=>rfl
  |cons r rs ih=>simp only[map_cons,List.zip_cons_cons,ih]
 rw[e,Wb]
 unfold vn
 rw[map_map,map_map];rfl
theorem YC{α:Type}(key:α→List Int)(rs:List α):(vn key rs).Perm rs:=by
 have:=(ul (rs.map fun r=>(key r,r))).map (·.2)
 rw[map_map] at this
 have e:rs.map ((fun p:List Int×α=>p.2) ∘ fun r=>(key r,r))=rs:=by
  rw[show((fun p:List Int×α=>p.2) ∘ fun r=>(key r,r))=id from rfl,map_id]
 rw[e] at this
 exact this
noncomputable def kD(k:List Int):D:=.tup (k.map D.int)
theorem WC:∀k:List Int,Xi (k.map D.int)=some k:=by
 intro l_
 induction l_ with
 |nil=>
  exact rfl
 |cons i k ih_=>
  show(Xi (k.map D.int)).map (i :: ·)=_
  rw[ih_];rfl
theorem zp2(k:List Int):zb8 (kD k)=some k:=WC k
theorem Wy{α:Type}(key:α→List Int):∀rs:List α,Z0 (rs.map fun r=>kD (key r))=some (rs.map key):=by
 intro l_
 induction l_ with
 |nil=>
  exact rfl
 |cons r rs ih_=>
  rw[map_cons,Z0,zp2,ih_];rfl
theorem YF{α:Type}(key:α→List Int)(f:α→D)(rs:List α)(h64:rs.length<64)(nd:(rs.map key).Nodup)(ne:∀r,key r≠[]):uS (rs.map fun r=>kD (key r)) (rs.map f)=.ok (.lst ((vn key rs).map f)):=by
 unfold uS
 rw[Wy]
 simp only
 rw[if_pos ⟨by simpa using h64,nd,fun k hk=>by obtain⟨r,_,rfl⟩:=mem_map.mp hk;exact ne r⟩,Lc]
theorem ZY{α:Type}{idx:List Nat}{fb:FE}{τ:DS}(key:α→List Int)(f:α→D):∀rs:List α,(∀r∈rs,QR idx fb τ (f r)=.ok (kD (key r)))→vt idx fb τ (rs.map f)=.ok (rs.map fun r=>kD (key r)):=by
 intro l_
 induction l_ with
 |nil=>
  rintro _
  exact rfl
 |cons r rs ih_=>
  rintro h
  rw[map_cons,vt,h r mem_cons_self]
  simp only[ih_ fun s hs=>h s (mem_cons_of_mem _ hs),map_cons]
theorem Jh{α:Type}{idx:List Nat}{fe fb:FE}{τ:DS}(key:α→List Int)(f:α→D)(rs:List α)(h:fe τ=.ok (.lst (rs.map f)))(hk:∀r∈rs,QR idx fb τ (f r)=.ok (kD (key r)))(h64:rs.length<64)(nd:(rs.map key).Nodup)(ne:∀r,key r≠[]) :
  Xv idx fe fb τ=.ok (.lst ((vn key rs).map f)):=by
 unfold Xv
 rw[h,Rs.bind_ok]
 simp only[ZY key f rs hk]
 exact YF key f rs h64 nd ne
theorem UJ{α:Type}(key:α→List Int)(rs:List α)(h64:rs.length<64)(nd:(rs.map key).Nodup)(ne:∀r,key r≠[]):YE [.lst (rs.map fun r=>kD (key r))]=.ok (.lst ((vn key rs).map fun r=>kD (key r))):=
 YF key (fun r=>kD (key r)) rs h64 nd ne
noncomputable abbrev Rw:=Int×Nat
noncomputable def wt(r:Rw):D:=.tup [.int r.1,.int (r.2:Int)]
theorem row_0(r:Rw):ixD (wt r) (.int 0)=.ok (.int r.1):=rfl
theorem zg2(r:Rw):ixD (wt r) (.int 1)=.ok (.int (r.2:Int)):=rfl
theorem ZH{key:Rw→List Int}(hk:∀r s,key r=key s→r.2=s.2):∀rs:List Rw,(rs.map (·.2)).Nodup→(rs.map key).Nodup:=by
 intro l_
 induction l_ with
 |nil=>
  rintro _
  exact List.nodup_nil
 |cons r rs ih_=>
  rintro h
  rw[map_cons,nodup_cons] at h ⊢
  refine⟨fun hm=>h.1 ?_,ih_ h.2⟩
  obtain⟨s,hs,e⟩:=mem_map.mp hm
  exact mem_map.mpr ⟨s,hs,hk s r e⟩
noncomputable def vG(X:List (List Nat))(r:Rw):List Int:=[-r.1,((X.getD r.2 []).length:Int),(r.2:Int)]
theorem Ud(X:List (List Nat))(r s:Rw)(h:vG X r=vG X s):r.2=s.2:=by
 unfold vG at h
 injection h with h1 h2
 injection h2 with h2 h3
 injection h3 with h3 _
 lia
theorem Xu{α:Type}(f:α→D):∀(X:List α) (k:Nat),yN k (X.map f)=(X.zipIdx k).map fun p=>D.tup [.int (p.2:Int),f p.1]:=by
 intro l_
 induction l_ with
 |nil=>
  rintro _
  exact rfl
 |cons x X ih_=>
  rintro k
  rw[map_cons,yN,List.zipIdx_cons,map_cons,ih_ (k+1)]
theorem size3:∀a b c:D,([a,b,c]:List D).length≤sizeLine:=fun a b c=>by rw[sizeLine_v];exact Nat.le_of_ble_eq_true rfl
theorem T3{fa fb fc:FE}{τ:DS}{a b c:D}(h1:fa τ=.ok a)(h2:fb τ=.ok b)(h3:fc τ=.ok c):xu (za fa (za fb (za fc zh))) τ=.ok (.tup [a,b,c]):=by
 rw[Vk,zq,h1,Rs.bind_ok,zq,h2,Rs.bind_ok,zq,h3,Rs.bind_ok,zM,Rs.bind_ok,Rs.bind_ok,Rs.bind_ok,Rs.bind_ok]
 exact if_pos (size3 a b c)
theorem zn2{fa:FE}{τ:DS}{i:Int}(h:fa τ=.ok (.int i)):wL fa τ=.ok (.int (-i)):=by rw[Yw,h];rfl
theorem Y5(X:List (List Nat))(i:Nat)(h:i<X.length):ixD (.lst (X.map tx)) (.int (i:Int))=.ok (tx (X.getD i [])):=by
 refine Vf (Qa ?_)
 rw[getElem?_map,getElem?_eq_getElem h]
 simp[h]
theorem T5(ds:List D)(n:Nat):slD (.lst ds) none (some (n:Int))=.ok (.lst (ds.take n)):=by
 have:FD.cutD ds none (some (n:Int))=ds.take n:=by
  have e0:HT.sIx ds.length 0 none=0:=rfl
  have e1:HT.sIx ds.length ds.length (some (n:Int))=min n ds.length:=by
   unfold HT.sIx
   have:¬ ((n:Int)<0):=by lia
   simp[this]
  unfold FD.cutD
  rw[e0,e1,drop_zero,Nat.sub_zero]
  rcases Nat.le_total n ds.length with z|z
  ·rw[Nat.min_eq_left z]
  ·rw[Nat.min_eq_right z,List.take_length,take_of_length_le z]
 show Rs.ok (D.lst (FD.cutD ds none (some (n:Int))))=_
 rw[this]
theorem LO:jY=(yh (Xv [0] (zc 1) (xu (za (wL (eOp ixD (zc 0) (eC (.int 0)))) (za (z7 yL (za (eOp ixD (zc 1) (eOp ixD (zc 0) (eC (.int 1)))) zh)) (za (eOp ixD (zc 0) (eC (.int 1))) zh)))))):=by unfold jY;rfl
structure zf7(X:List (List Nat))(rs:List Rw):Prop where
 few:rs.length<64
 nd:(rs.map (·.2)).Nodup
 lt:∀r∈rs,r.2<X.length
 sz:∀x∈X,x.length≤1000
theorem getD_mem{X:List (List Nat)}{i:Nat}(h:i<X.length):X.getD i []∈X:=by
 have:X.getD i []=X[i]:=by simp[h]
 rw[this];exact getElem_mem _
theorem Mn(X:List (List Nat))(rs:List Rw)(h:zf7 X rs):wm [.lst (X.map tx),.lst (rs.map wt)]=.ok (.lst ((vn (vG X) rs).map wt)):=by
 have st:zV 2 [.lst (X.map tx),.lst (rs.map wt)]=[some (.val (.lst (X.map tx))),some (.val (.lst (rs.map wt)))]:=rfl
 unfold wm
 rw[LO,zY,st,zT,Jh (vG X) wt rs (ze rfl) (fun r hr=>?_) h.few (ZH (Ud X) rs h.nd) (fun r z=>nomatch z)]
 ·rfl
 ·have hlt:=h.lt r hr
  have hsz:=h.sz _ (getD_mem hlt)
  have:xu (za (wL (eOp ixD (zc 0) (eC (.int 0)))) (za (z7 yL (za (eOp ixD (zc 1) (eOp ixD (zc 0) (eC (.int 1)))) zh)) (za (eOp ixD (zc 0) (eC (.int 1))) zh))) [some (.val (wt r)),some (.val (.lst (X.map tx)))]=.ok (kD (vG X r)):=T3 (zn2 (op2 (ze rfl) rfl (row_0 r))) (v0 (op2 (ze rfl) (op2 (ze rfl) rfl (zg2 r)) (Y5 X r.2 hlt)) (xG _ hsz)) (op2 (ze rfl) rfl (zg2 r))
  exact this
theorem zn9(i j:Int):Xa [.int i,.int j]=.ok (.int (if i<j then j else i)):=rfl
theorem zd4:uF=(yh (eSl (zo wm (za (zc 0) (za (zc 1) zh))) uX (wM (z7 Xa (za (zc 2) (za (eC (.int 0)) zh)))))):=by unfold uF;rfl
theorem blt2{g:List D→Rs D}{fa fb:FE}{τ:DS}{a b d:D}(h1:fa τ=.ok a)(h2:fb τ=.ok b)(h:g [a,b]=.ok d):z7 g (za fa (za fb zh)) τ=.ok d:=by
 rw[wv,zq,h1,Rs.bind_ok,zq,h2,Rs.bind_ok,zM,Rs.bind_ok,Rs.bind_ok,Rs.bind_ok,h]
theorem zl8{fa:FE}{τ:DS}{i:Int}(h:fa τ=.ok (.int i)):wM fa τ=.ok (some i):=by rw[Y4,h];rfl
theorem Tc(X:List (List Nat))(rs:List Rw)(many:Nat)(h:zf7 X rs):xT [.lst (X.map tx),.lst (rs.map wt),.int (many:Int)]=.ok (.lst (((vn (vG X) rs).take many).map wt)):=by
 have st:zV 3 [.lst (X.map tx),.lst (rs.map wt),.int (many:Int)]=[some (.val (.lst (X.map tx))),some (.val (.lst (rs.map wt))),some (.val (.int (many:Int)))]:=rfl
 have hm:Xa [.int (many:Int),.int 0]=.ok (.int (many:Int)):=by
  rw[zn9];rw[if_neg (by lia)]
 have e:eSl (zo wm (za (zc 0) (za (zc 1) zh))) uX (wM (z7 Xa (za (zc 2) (za (eC (.int 0)) zh)))) [some (.val (.lst (X.map tx))),some (.val (.lst (rs.map wt))),some (.val (.int (many:Int)))]=.ok (.lst (((vn (vG X) rs).take many).map wt)):=
  GO (ug (ze rfl) (ze rfl) (Mn X rs h)) rfl (zl8 (blt2 (ze rfl) rfl hm)) (by rw[T5,List.map_take])
 unfold xT
 rw[zd4,zY,st,zT,e];rfl
theorem zc8(e1 e2:FE)(A B C R:D)(h1:e1 [some (.val A),some (.val B),none]=.ok C)(h2:e2 [some (.val A),some (.val B),some (.val C)]=.ok R):yX 3 (zp (zB 2 e1) (yh e2)) [A,B]=.ok R:=by
 have st:zV 3 [A,B]=[some (.val A),some (.val B),none]:=rfl
 rw[zY,st]
 simp only[zG,zN,zT,set_cons_succ,set_cons_zero,Fl.of_ok,zU,zL,h1,h2]
noncomputable def abcN:List Nat:=[97,98,99]
theorem abc_s:("abc" : Str)=⟨abcN.toArray⟩:=by decide +kernel
theorem zs5:Gp abcN:=⟨by decide,by decide,by decide⟩
theorem ze7(X:List (List Nat))(h:X.length≤1000):zI (.lst (X.map tx)) (.lst [.str "abc"])=.ok (.lst ((X++[abcN]).map tx)):=by
 show(if _ then Rs.ok (D.lst _) else Rs.no)=_
 rw[if_pos (by rw[sizeLine_v,length_map,length_singleton];lia),map_append,abc_s]
 rfl
noncomputable def qE(a b m:Int):FE:=(zo xU (za (zc 0) (za (eC (.int a)) (za (eOp ixD (eOp zI (zc 1) (xw (za (eC (.str "abc")) zh))) (zo zr (za (zc 0) (za (eC (.int b)) (za (eOp zI (z7 yL (za (zc 1) zh)) (eC (.int 1))) zh))))) (za (eC (.int m)) zh)))))
theorem Jl{f:List D→Rs D}{fa fb fc fd:FE}{τ:DS}{a b c d r:D}(h1:fa τ=.ok a)(h2:fb τ=.ok b)(h3:fc τ=.ok c)(h4:fd τ=.ok d)(h:f [a,b,c,d]=.ok r):zo f (za fa (za fb (za fc (za fd zh)))) τ=.ok r:=by
 rw[yE,zq,h1,Rs.bind_ok,zq,h2,Rs.bind_ok,zq,h3,Rs.bind_ok,zq,h4,Rs.bind_ok,zM,Rs.bind_ok,Rs.bind_ok,Rs.bind_ok,Rs.bind_ok,Rs.bind_ok,h];rfl
theorem qE_ok(ns:List Int)(X:List (List Nat))(a b m:Int)(h63:ns.length≤63)(ha0:0≤a)(ha:a<900000)(hb0:0≤b)(hb:b<900000)(hm0:0≤m)(hm:m<50)(hX:∀x∈X,Gp x)(hl:X.length≤1000)(r:DS) :
  ∃q:List Nat,(q.length:Int)≤m∧(∀c∈q,c∈QS)∧qE a b m (some (.val (.scr ns))::some (.val (.lst (X.map tx)))::r)=.ok (tx q):=by
 have dl:=wW ns b (m:=(X.length:Int)+1) (by lia)
 have dk:=wV ns b ((X.length:Int)+1) h63 hb0 (by lia) (by lia)
 generalize wx ns b ((X.length:Int)+1)=M at dl dk
 have hi:M.toNat<(X++[abcN]).length:=by rw[length_append,length_singleton];lia
 have hm':(X++[abcN]).getD M.toNat []∈X++[abcN]:=getD_mem hi
 have hn:Gp ((X++[abcN]).getD M.toNat []):=by
  rcases mem_append.mp hm' with z|z
  ·exact hX _ z
  ·have:(X++[abcN]).getD M.toNat []=abcN:=by simpa using z
   rw[this];exact zs5
 obtain⟨q,q1,q2,q3⟩:=G1 ns a ((X++[abcN]).getD M.toNat []) m h63 ha0 ha hm0 hm hn.1 (le_trans hn.2.1 (by decide)) hn.2.2
 refine⟨q,q1,q2,?_⟩
 have ix:=Y5 (X++[abcN]) M.toNat hi
 rw[Int.toNat_of_nonneg dl.1] at ix
 unfold qE
 exact Jl (ze rfl) rfl (op2 (op2 (ze rfl) (Wo rfl) (ze7 X hl)) (vU (ze rfl) rfl (op2 (v0 (ze rfl) Ua) rfl (by rw[length_map];exact yJ)) dk) ix) rfl q3
theorem and_f{f g:FT}{τ:DS}(h1:f τ=.ok false):vm f g τ=.ok false:=by rw[wS,h1,Rs.bind_ok,if_neg (by simp)]
theorem zi3{f g:FT}{τ:DS}{b:Bool}(h1:f τ=.ok true)(h2:g τ=.ok b):vm f g τ=.ok b:=by rw[wS,h1,Rs.bind_ok,if_pos rfl,h2]
theorem QI:v5=(zp (zB 2 (z7 YE (za (fun τ=>((xa 2 [0] (xi (zc 1)) (gPr 0 1) (fun _=>.ok true) (xu (za (eOp yH (eC (.int 0)) (zc 0)) (za (z7 yL (za (eOp ixD (zc 2) (zc 1)) zh)) (za (zc 1) zh))))) τ).bind fun ds=>.ok (.lst ds)) zh)))
  (yh (fun τ=>((xa 3 [] (xi (zc 2)) (gTr 0 1 2) (fun _=>.ok true) (xu (za (eOp yH (eC (.int 0)) (zc 0)) (za (zc 2) zh)))) τ).bind fun ds=>.ok (.lst ds)))):=by unfold v5;rfl
theorem U5(X:List (List Nat))(rs:List Rw)(h:zf7 X rs):xt [.lst (X.map tx),.lst (rs.map wt)]=.ok (.lst ((vn (vG X) rs).map wt)):=by
 have c1:=vd (set:=gPr 0 1) (fe:=(xu (za (eOp yH (eC (.int 0)) (zc 0)) (za (z7 yL (za (eOp ixD (zc 2) (zc 1)) zh)) (za (zc 1) zh))))) (τ:=[none,none,some (.val (.lst (X.map tx)))]) wt (fun r=>kD (vG X r)) id rs fun r hr=>by
  have hlt:=h.lt r hr
  have hsz:=h.sz _ (getD_mem hlt)
  refine⟨[some (.val (.int r.1)),some (.val (.int (r.2:Int))),some (.val (.lst (X.map tx)))],rfl,?_⟩
  refine(T3 (op2 rfl (ze rfl) yY) (v0 (op2 (ze rfl) (ze rfl) (Y5 X r.2 hlt)) (xG _ hsz)) (ze rfl)).trans ?_
  unfold kD vG
  rw[Int.zero_sub];rfl
 rw[map_id] at c1
 have p:=YC (vG X) rs
 have e1:=wI (k:=2) (idx:=[0]) (fi:=xi (zc 1)) (τ:=[some (.val (.lst (X.map tx))),some (.val (.lst (rs.map wt))),none]) rfl c1 (by rw[length_map];have:=h.few;lia)
 have s1:z7 YE (za (fun τ=>((xa 2 [0] (xi (zc 1)) (gPr 0 1) (fun _=>.ok true) (xu (za (eOp yH (eC (.int 0)) (zc 0)) (za (z7 yL (za (eOp ixD (zc 2) (zc 1)) zh)) (za (zc 1) zh))))) τ).bind fun ds=>.ok (.lst ds)) zh) [some (.val (.lst (X.map tx))),some (.val (.lst (rs.map wt))),none]=.ok (.lst ((vn (vG X) rs).map fun r=>kD (vG X r))):=
  v0 (by rw[e1];rfl) (UJ (vG X) rs h.few (ZH (Ud X) rs h.nd) fun r z=>nomatch z)
 have c2:=vd (set:=gTr 0 1 2) (fe:=(xu (za (eOp yH (eC (.int 0)) (zc 0)) (za (zc 2) zh)))) (τ:=[none,none,none]) (fun r=>kD (vG X r)) wt id (vn (vG X) rs) fun r hr=>by
  refine⟨[some (.val (.int (-r.1))),some (.val (.int ((X.getD r.2 []).length:Int))),some (.val (.int (r.2:Int)))],rfl,?_⟩
  refine(WP (op2 rfl (ze rfl) yY) (ze rfl)).trans ?_
  unfold wt id
  rw[Int.zero_sub,Int.neg_neg]
 rw[map_id] at c2
 have e2:=wI (k:=3) (idx:=[]) (fi:=xi (zc 2)) (τ:=[some (.val (.lst (X.map tx))),some (.val (.lst (rs.map wt))),some (.val (.lst ((vn (vG X) rs).map fun r=>kD (vG X r))))]) rfl c2 (by rw[length_map,p.length_eq];have:=h.few;lia)
 unfold xt
 rw[QI]
 exact zc8 _ _ _ _ _ _ s1 (by rw[e2];rfl)
theorem yx{f g:FS}{τ τ':DS}(h:f τ=.nx τ'):zp f g τ=g τ':=by rw[zG,h,zU]
theorem if_f{g:FT}{a b:FS}{τ:DS}(h:g τ=.ok false):sIf g a b τ=b τ:=by rw[yi,h,Fl.of_ok,if_neg (by simp)]
theorem if_t{g:FT}{a b:FS}{τ:DS}(h:g τ=.ok true):sIf g a b τ=a τ:=by rw[yi,h,Fl.of_ok,if_pos rfl]
theorem Jc{g:FT}{a:FS}{τ:DS}(h:g τ=.ok false):sIf g a ya τ=.nx τ:=if_f h
theorem xb{i:Nat}{fe:FE}{τ:DS}{d:D}(h:fe τ=.ok d):zB i fe τ=.nx (τ.set i (some (.val d))):=by rw[zN,h,Fl.of_ok]
theorem Jz{i:Nat}{ff:FA}{τ:DS}{ds:List D}(h:ff τ=.ok ds):vz i ff τ=.nx (τ.set i (some (.own ds))):=by rw[vy,h,Fl.of_ok]
theorem ZC{fe:FE}{τ:DS}{d:D}(h:fe τ=.ok d):yh fe τ=.rt d:=by rw[zT,h,Fl.of_ok]
theorem zf2{fa:FE}{τ:DS}{a:D}(h:fa τ=.ok a):za fa zh τ=.ok [a]:=by rw[zq,h,Rs.bind_ok,zM,Rs.bind_ok]
noncomputable def gd:Nat→D→Prop
 |_,.str x=>PyData.strOk x=true
 |_,.int _=>True
 |_,.bl _=>True
 |_,.non=>True
 |n+1,.lst ds=>∀d∈ds,gd n d
 |n+1,.tup ds=>∀d∈ds,gd n d
 |_,_=>False
theorem Je{n:Nat}(ih:∀d,gd n d→xA d=true∧(yW d).canLay0=true∧(yW d).depth≤n∧PyData.eqv (yW d) (yW d)=true):∀ds:List D,(∀d∈ds,gd n d)→plainDs ds=true∧PyData.canLayAll0 (toPys ds)=true∧PyData.depthAll (toPys ds)≤n∧PyData.eqvAll (toPys ds) (toPys ds)=true:=by
 intro l_
 induction l_ with
 |nil=>
  rintro _
  exact⟨rfl,rfl,zero_le _,by simp[toPys,PyData.eqvAll]⟩
 |cons d ds ih_=>
  rintro h
  obtain⟨a1,a2,a3,a4⟩:=ih d (h d mem_cons_self)
  obtain⟨b1,b2,b3,b4⟩:=ih_ fun e he=>h e (mem_cons_of_mem _ he)
  refine⟨by simp[plainDs,a1,b1],by simp[toPys,PyData.canLayAll0,a2,b2],?_,by simp[toPys,PyData.eqvAll,a4,b4]⟩
  simp only[toPys,PyData.depthAll]
  lia
theorem M7:∀(n:Nat) (d:D),gd n d→xA d=true∧(yW d).canLay0=true∧(yW d).depth≤n∧PyData.eqv (yW d) (yW d)=true
 |n,.str x,h=>⟨by simp[xA],by simpa[yW,PyData.canLay0,gd] using h,by simp[yW,PyData.depth],by simp[yW,PyData.eqv]⟩
 |n,.int _,h=>⟨by simp[xA],by simp[yW,PyData.canLay0],by simp[yW,PyData.depth],by simp[yW,PyData.eqv]⟩
 |n,.bl _,h=>⟨by simp[xA],by simp[yW,PyData.canLay0],by simp[yW,PyData.depth],by simp[yW,PyData.eqv]⟩
 |n,.non,h=>⟨by simp[xA],by simp[yW,PyData.canLay0],by simp[yW,PyData.depth],by simp[yW,PyData.eqv]⟩
 |n+1,.lst ds,h=>by
  obtain⟨b1,b2,b3,b4⟩:=Je (M7 n) ds (by simpa[gd] using h)
  exact⟨by simpa[xA] using b1,by simpa[yW,PyData.canLay0] using b2,by simpa[yW,PyData.depth] using b3,by simpa[yW,PyData.eqv] using b4⟩
 |n+1,.tup ds,h=>by
  obtain⟨b1,b2,b3,b4⟩:=Je (M7 n) ds (by simpa[gd] using h)
  exact⟨by simpa[xA] using b1,by simpa[yW,PyData.canLay0] using b2,by simpa[yW,PyData.depth] using b3,by simpa[yW,PyData.eqv] using b4⟩
 |0,.lst ds,h=>by simp[gd] at h
 |0,.tup ds,h=>by simp[gd] at h
 |0,.scr ds,h=>by simp[gd] at h
 |0,.raw ds,h=>by simp[gd] at h
 |0,.exc ds,h=>by simp[gd] at h
 |n+1,.scr ds,h=>by simp[gd] at h
 |n+1,.raw ds,h=>by simp[gd] at h
 |n+1,.exc ds,h=>by simp[gd] at h
 |0,.dct _ _,h=>by simp[gd] at h
 |n+1,.dct _ _,h=>by simp[gd] at h
theorem Vh{n:Nat}{d:D}(h:gd n d)(hn:n≤60):okD d=true∧uf d d=true:=by
 obtain⟨a,b,c,e⟩:=M7 n d h
 refine⟨?_,e⟩
 have:(yW d).depth≤60:=by lia
 simp[okD,a,b,this]
theorem zn4{n:Nat}{ds:List D}(h:gd n (.tup ds))(hn:n≤60):neD (.tup ds) (.tup ds)=.ok (.bl false):=by
 obtain⟨a,b⟩:=Vh h hn
 unfold neD
 simp only[a,and_self,if_true,b,Bool.not_true]
theorem M6{n:Nat}{x:Str}(h:PyData.strOk x=true):gd n (.str x):=by cases n <;> exact h
theorem frE{ff:FA}{τ:DS}{ds:List D}(h:ff τ=.ok ds):(fun τ=>(ff τ).bind fun ds=>Rs.ok (D.lst ds)) τ=.ok (.lst ds):=by show(ff τ).bind _=_;rw[h];rfl
theorem ZS{fe:FE}{τ:DS}{ds:List D}(h:fe τ=.ok (.lst ds)):xi fe τ=.ok ds:=by rw[Zj,h];rfl
theorem JY(rs:List Rw):gd 2 (.lst (rs.map wt)):=fun d hd=>by
 obtain⟨r,_,rfl⟩:=mem_map.mp hd
 intro e he
 rcases mem_cons.mp he with rfl|he
 ·trivial
 ·rw[mem_singleton.mp he];trivial
theorem J2{n:Nat}{ds:List D}(h:gd n (.lst ds))(hn:n≤60):eqD (.lst ds) (.lst ds)=.ok (.bl true):=by
 obtain⟨a,b⟩:=Vh h hn
 unfold eqD
 simp only[a,and_self,if_true,b]
noncomputable def je:FS:=(sIf (vm (FD.tB (eOp ltI (Zp 2) (z7 yL (za (zc 0) zh)))) (uR (zo wb (za (eOp ixD (zc 0) (Zp 2)) (za (eOp ixD (zc 1) (zc 3)) zh))))) (YH 2 (zc 3)) ya)
theorem J3(q x:List Nat)(hq:q.length≤1000)(hx:x.length≤1000)(ha:∀c∈q,c<128):∀(m k:Nat) (b:List Nat) (s:Option Sl),k+m=x.length→b.length≤k →
  ∃s',yr (gNm 3) je ((List.range' k m).map fun (k:Nat)=>D.int (0+k)) [some (.val (tx q)),some (.val (tx x)),some (.own (b.map fun (k:Nat)=>D.int k)),s]
   = .nx [some (.val (tx q)),some (.val (tx x)),some (.own ((b++epR (q.drop b.length) (x.drop k) k).map fun (k:Nat)=>D.int k)),s']:=by
 intro l_
 induction l_ with
 |zero=>
  rintro k b s h hb
  have:x.drop k=[]:=List.drop_eq_nil_of_le (by lia)
  rw[this]
  have e:epR (q.drop b.length) [] k=[]:=by cases q.drop b.length <;> rfl
  rw[e,append_nil]
  exact⟨s,rfl⟩
 |succ m ih_=>
  rintro k b s h hb
  have hk:k<x.length:=by lia
  have hxk:=Gv x k x[k] (getElem?_eq_getElem hk) hx
  rw[range'_succ,map_cons,yr,vH,Fl.of_ok,drop_eq_getElem_cons hk]
  simp only[set_cons_succ,set_cons_zero,Int.zero_add]
  have ih:=fun b' s' h'=>ih_ (k+1) b' s' (by lia) h'
  simp only[Int.zero_add] at ih
  by_cases hl:b.length<q.length
  ·have hqb:=Gv q b.length q[b.length] (getElem?_eq_getElem hl) hq
   have hbz:b.length<sizeLine:=by rw[sizeLine_v];lia
   have hmt:=Y9 q[b.length] x[k] (ha _ (getElem_mem hl))
   rw[drop_eq_getElem_cons hl]
   by_cases hm:yG q[b.length] x[k]=true
   ·obtain⟨s',e⟩:=ih (b++[k]) (some (.val (.int k))) (by simp;lia)
    refine⟨s',?_⟩
    have:je [some (.val (tx q)),some (.val (tx x)),some (.own (b.map fun (k:Nat)=>D.int k)),some (.val (.int k))]=.nx [some (.val (tx q)),some (.val (tx x)),some (.own ((b++[k]).map fun (k:Nat)=>D.int k)),some (.val (.int k))]:=by
     unfold je
     simp only[yi,zZ,jl,Zo,wz,vP,wS,ye,zE,zM,zq,yE,wv,getElem?_cons_zero,getElem?_cons_succ,set_cons_succ,set_cons_zero,zx,xW,Rs.bind_ok,Fl.of_ok,xS,yf,wo,MC,if_true,length_map,xG q hq,Int.ofNat_lt,hl,decide_true,hqb,hxk,hmt,hm,hbz,map_append,map_cons,map_nil]
    simp only[this]
    rw[e]
    simp only[epR,hm,if_true,append_assoc,List.cons_append,nil_append,length_append,length_cons,length_nil,zero_add]
   ·obtain⟨s',e⟩:=ih b (some (.val (.int k))) (by lia)
    refine⟨s',?_⟩
    have hm':yG q[b.length] x[k]=false:=by simpa using hm
    have:je [some (.val (tx q)),some (.val (tx x)),some (.own (b.map fun (k:Nat)=>D.int k)),some (.val (.int k))]=.nx [some (.val (tx q)),some (.val (tx x)),some (.own (b.map fun (k:Nat)=>D.int k)),some (.val (.int k))]:=by
     unfold je
     simp only[yi,zZ,jl,Zo,wz,vP,wS,ye,zE,zM,zq,yE,wv,getElem?_cons_zero,getElem?_cons_succ,set_cons_succ,set_cons_zero,zx,xW,Rs.bind_ok,Fl.of_ok,xS,yf,wo,MC,if_true,Bool.false_eq_true,if_false,length_map,xG q hq,Int.ofNat_lt,hl,decide_true,hqb,hxk,hmt,hm']
    simp only[this]
    rw[e,drop_eq_getElem_cons hl]
    simp only[epR,hm',Bool.false_eq_true,if_false]
  ·obtain⟨s',e⟩:=ih b (some (.val (.int k))) (by lia)
   refine⟨s',?_⟩
   have:je [some (.val (tx q)),some (.val (tx x)),some (.own (b.map fun (k:Nat)=>D.int k)),some (.val (.int k))]=.nx [some (.val (tx q)),some (.val (tx x)),some (.own (b.map fun (k:Nat)=>D.int k)),some (.val (.int k))]:=by
    unfold je
    simp only[yi,zZ,jl,Zo,wz,vP,wS,ye,zE,zM,zq,yE,wv,getElem?_cons_zero,getElem?_cons_succ,set_cons_succ,set_cons_zero,zx,xW,Rs.bind_ok,Fl.of_ok,yf,MC,Bool.false_eq_true,if_false,length_map,xG q hq,Int.ofNat_lt,hl,decide_false]
   simp only[this]
   rw[e,List.drop_eq_nil_of_le (by lia:q.length≤b.length)]
   simp only[epR]
theorem ep_ok(q x:List Nat)(hq:q.length≤1000)(hx:x.length≤1000)(ha:∀c∈q,c<128):yP [tx q,tx x]=.ok (nts (epR q x 0)):=by
 have st:zV 4 [tx q,tx x]=[some (.val (tx q)),some (.val (tx x)),none,none]:=rfl
 obtain⟨s',e⟩:=J3 q x hq hx ha x.length 0 [] none (by lia) (le_refl _)
 unfold je at e
 have r1:=W2 (fs:=za (z7 yL (za (zc 1) zh)) zh) (τ:=[some (.val (tx q)),some (.val (tx x)),some (.own []),none]) (j:=x.length) (by simp only[zE,zM,zq,wv,getElem?_cons_zero,getElem?_cons_succ,zx,Rs.bind_ok,xG x hx]) (by lia) (by lia)
 unfold yP vW
 rw[zY,st]
 simp only[zG,vy,xP,zM,set_cons_succ,set_cons_zero,Rs.bind_ok,Fl.of_ok,zU,if_true,length_nil,zero_le,r1,YK,toNat_natCast]
 rw[range_eq_range']
 rw[show([]:List D)=([]:List Nat).map fun (k:Nat)=>D.int k from rfl,e]
 simp only[v8,ua,getElem?_cons_zero,getElem?_cons_succ,xW,Fl.of_ok,zU,zL,nil_append,length_nil,drop_zero]
theorem Tb(q x:List Nat)(hq:q.length≤1000)(hx:x.length≤1000)(ha:∀c∈q,c<128):jS [tx q,tx x]=.ok (.bl (wY q x)):=by
 have st:zV 2 [tx q,tx x]=[some (.val (tx q)),some (.val (tx x))]:=rfl
 unfold jS TH
 rw[zY,st]
 simp only[zT,ye,zE,zM,zq,yE,wv,getElem?_cons_zero,getElem?_cons_succ,zx,Rs.bind_ok,Fl.of_ok,zL,xS,vI,Ua,ep_ok q x hq hx ha,xG q hq,length_map]
 congr 2
 rw[Bool.eq_iff_iff,← Zk q x 0,beq_iff_eq]
 lia
noncomputable def jx(r:List Nat):List (List Nat):=(List.range r.length).map fun p=>r.take p++r.drop (p+1)
theorem Wg(a:Nat)(r:List Nat):jx (a::r)=r::(jx r).map (a :: ·):=by
 unfold jx
 rw[length_cons,List.range_succ_eq_map,map_cons,map_map,map_map]
 congr 1
theorem Lq{s r:List Nat}:∀{q:List Nat},s∈jx q→List.Sublist s q∧s.length+1=q.length:=fun {q} h=>by
 obtain⟨p,hp,rfl⟩:=mem_map.mp h
 have hp:=mem_range.mp hp
 refine⟨?_,?_⟩
 ·have:List.Sublist (q.take p++q.drop (p+1)) (q.take p++q.drop p):=List.Sublist.append_left (by rw[← List.drop_drop];exact List.drop_sublist _ _) _
  rwa [List.take_append_drop] at this
 ·rw[length_append,length_take,length_drop];lia
theorem add_one{s q:List Nat}(h:List.Sublist s q):s.length<q.length→∃r,List.Sublist r q∧r.length=s.length+1∧s∈jx r:=by
 induction h with
 |slnil=>intro z;cases z
 | @cons s q a h ih=>
  intro _
  exact⟨a::s,h.cons_cons a,rfl,by rw[Wg];exact mem_cons_self⟩
 | @cons_cons s q a h ih=>
  intro z
  obtain⟨r,r1,r2,r3⟩:=ih (by simpa using z)
  exact⟨a::r,r1.cons_cons a,by rw[length_cons,r2,length_cons],by rw[Wg];exact mem_cons_of_mem _ (mem_map_of_mem r3)⟩
noncomputable def mkS(x:List Nat):Str:=⟨x.toArray⟩
theorem Yr{x y:List Nat}(h:mkS x=mkS y):x=y:=by
 have:=congrArg (fun s:Str=>s.cps.toList) h
 simpa[mkS] using this
theorem jE(s:Str):mkS s.cps.toList=s:=by cases s;simp[mkS]
noncomputable def Wx(L:List (List Nat)):List Str:=(L.map mkS).foldl vh []
theorem TU(ks:List Str)(k x:Str):x∈vh ks k↔x∈ks∨x=k:=by
 unfold vh
 split
 ·rename_i h
  exact⟨.inl,fun z=>z.elim id fun e=>by rw[e];exact h⟩
 ·simp
theorem zf6(ks:List Str)(k:Str)(h:ks.Nodup):(vh ks k).Nodup:=by
 unfold vh
 split
 ·exact h
 ·rename_i z
  rw[List.nodup_append]
  exact⟨h,by simp,fun a ha b hb e=>z (by rw[← mem_singleton.mp hb,← e];exact ha)⟩
theorem Ur(l:List Str):∀(ks:List Str) (x:Str),x∈l.foldl vh ks↔x∈ks∨x∈l:=by
 induction l with
 |nil=>intro ks x;simp
 |cons a l ih=>intro ks x;rw[foldl_cons,ih,TU,mem_cons,or_assoc]
theorem zd1(l:List Str):∀(ks:List Str),ks.Nodup→(l.foldl vh ks).Nodup:=by
 induction l with
 |nil=>intro ks h;exact h
 |cons a l ih=>intro ks h;exact ih _ (zf6 ks a h)
noncomputable def sh(R:List (List Nat)):List (List Nat):=(STW.srtS (Wx (R.flatMap jx))).map fun s=>s.cps.toList
theorem GQ(R:List (List Nat))(x:List Nat):x∈sh R↔∃r∈R,x∈jx r:=by
 unfold sh Wx
 rw[mem_map]
 constructor
 ·rintro⟨s,hs,rfl⟩
  have:=(STW.srtS_perm _).mem_iff.mp hs
  rw[Ur] at this
  rcases this with z|z
  ·cases z
  ·obtain⟨y,hy,rfl⟩:=mem_map.mp z
   have e:(mkS y).cps.toList=y:=by simp[mkS]
   rw[e]
   exact mem_flatMap.mp hy
 ·rintro⟨r,hr,hx⟩
  refine⟨mkS x,(STW.srtS_perm _).mem_iff.mpr ?_,by simp[mkS]⟩
  rw[Ur]
  exact .inr (mem_map_of_mem (mem_flatMap.mpr ⟨r,hr,hx⟩))
theorem sh_nd(R:List (List Nat)):(sh R).Nodup:=by
 unfold sh Wx
 have:=(STW.srtS_perm ((R.flatMap jx).map mkS |>.foldl vh [])).nodup_iff.mpr (zd1 _ [] List.nodup_nil)
 rw[List.nodup_iff_pairwise_ne] at this ⊢
 rw[pairwise_map]
 refine this.imp fun {a b} h e=>h ?_
 rw[← jE a,← jE b,e]
theorem sh_D(R:List (List Nat)):(STW.srtS (Wx (R.flatMap jx))).map D.str=(sh R).map tx:=by
 unfold sh
 rw[map_map]
 refine map_congr_left fun s _=>?_
 exact congrArg D.str (jE s).symm
noncomputable def Rk(q:List Nat):Nat→List (List Nat)
 |0=>[q]
 |j+1=>sh (Rk q j)
theorem We(q:List Nat):∀(j:Nat) (s:List Nat),s∈Rk q j→List.Sublist s q∧s.length+j=q.length:=fun j=>by
 induction j with
 |zero=>intro s h;rw[mem_singleton.mp h];exact⟨List.Sublist.refl _,rfl⟩
 |succ j ih=>
  intro s h
  obtain⟨r,hr,hs⟩:=(GQ _ _).mp h
  obtain⟨h1,h2⟩:=ih r hr
  obtain⟨h3,h4⟩:=Lq (r:=r) hs
  exact⟨h3.trans h1,by lia⟩
theorem UR(q:List Nat):∀(j:Nat) (s:List Nat),List.Sublist s q→s.length+j=q.length→s∈Rk q j:=fun j=>by
 induction j with
 |zero=>intro s h1 h2;rw[h1.eq_of_length (by lia)];exact mem_singleton.mpr rfl
 |succ j ih=>
  intro s h1 h2
  obtain⟨r,r1,r2,r3⟩:=add_one h1 (by lia)
  exact(GQ _ _).mpr ⟨r,ih r r1 (by lia),r3⟩
theorem rk_nd(q:List Nat)(j:Nat):(Rk q j).Nodup:=by
 cases j with
 |zero=>simp[Rk]
 |succ j=>exact sh_nd _
noncomputable def TR:List Nat→List (List Nat)
 |[]=>[[]]
 |a::r=>TR r++(TR r).map (a :: ·)
theorem TQ(q:List Nat):(TR q).length=2 ^ q.length:=by
 induction q with
 |nil=>rfl
 |cons a r ih=>unfold TR;rw[length_append,length_map,ih,length_cons,Nat.pow_succ];lia
theorem TN{s q:List Nat}(h:List.Sublist s q):s∈TR q:=by
 induction h with
 |slnil=>exact mem_singleton.mpr rfl
 |cons a _ ih=>exact mem_append_left _ ih
 |cons_cons a _ ih=>exact mem_append_right _ (mem_map_of_mem ih)
theorem zh3{α:Type}[DecidableEq α]:∀{l m:List α},l.Nodup→(∀x∈l,x∈m)→l.length≤m.length:=fun {l}=>by
 induction l with
 |nil=>intro m _ _;exact zero_le _
 |cons a l ih=>
  intro m nd h
  rw[nodup_cons] at nd
  have ha:=h a mem_cons_self
  have:=ih (m:=m.erase a) nd.2 fun x hx=>by
   have:x≠a:=fun e=>nd.1 (by rw[← e];exact hx)
   exact(List.mem_erase_of_ne this).mpr (h x (mem_cons_of_mem _ hx))
  rw[List.length_erase_of_mem ha] at this
  have hp:0<m.length:=List.length_pos_of_mem ha
  rw[length_cons];lia
theorem UQ(q:List Nat)(j:Nat)(h:q.length≤5):(Rk q j).length≤32:=by
 have h1:=zh3 (rk_nd q j) fun s hs=>TN (We q j s hs).1
 rw[TQ] at h1
 have:2 ^ q.length≤2 ^ 5:=Nat.pow_le_pow_right (by decide) h
 lia
theorem MO(q:List Nat)(j:Nat)(h:q.length≤5):(Wx ((Rk q j).flatMap jx)).length≤32:=by
 have:=UQ q (j+1) h
 unfold Rk sh at this
 rw[length_map,(STW.srtS_perm _).length_eq] at this
 exact this
noncomputable def ZO(q x:List Nat)(j:Nat):Bool:=(Rk q j).any fun s=>wY s x
theorem Vj(q x:List Nat)(j:Nat):ZO q x j=true↔∃s,List.Sublist s q∧s.length+j=q.length∧wY s x=true:=by
 unfold ZO
 rw[any_eq_true]
 constructor
 ·rintro⟨s,h1,h2⟩
  obtain⟨a,b⟩:=We q j s h1
  exact⟨s,a,b,h2⟩
 ·rintro⟨s,a,b,c⟩
  exact⟨s,UR q j s a b,c⟩
theorem J0(q x:List Nat):ZO q x q.length=true:=(Vj q x _).mpr ⟨[],List.nil_sublist _,by simp,by cases x <;> rfl⟩
noncomputable def lsl(q x:List Nat):Nat→Nat→Nat
 |0,j=>j
 |n+1,j=>if ZO q x j=true then j else lsl q x n (j+1)
theorem zo1(q x:List Nat):∀n j,j+n=q.length→ZO q x (lsl q x n j)=true∧j≤lsl q x n j∧lsl q x n j≤q.length∧∀k,j≤k→k<lsl q x n j→ZO q x k=false:=fun n=>by
 induction n with
 |zero=>
  intro j h
  have:j=q.length:=by lia
  subst this
  exact⟨J0 q x,le_refl _,le_refl _,fun k h1 h2=>by unfold lsl at h2;lia⟩
 |succ n ih=>
  intro j h
  unfold lsl
  by_cases z:ZO q x j=true
  ·rw[if_pos z];exact⟨z,le_refl _,by lia,fun k h1 h2=>by lia⟩
  ·rw[if_neg z]
   obtain⟨a,b,c,d⟩:=ih (j+1) (by lia)
   refine⟨a,by lia,c,fun k h1 h2=>?_⟩
   rcases Nat.lt_or_eq_of_le h1 with y|y
   ·exact d k y h2
   ·subst y;simpa using z
noncomputable def lst(q x:List Nat):Nat:=lsl q x q.length 0
theorem lst_ok(q x:List Nat):ZO q x (lst q x)=true∧lst q x≤q.length∧∀k,k<lst q x→ZO q x k=false:=by
 obtain⟨a,_,c,d⟩:=zo1 q x q.length 0 (by lia)
 exact⟨a,c,fun k h=>d k (zero_le _) h⟩
theorem zo0(q x:List Nat)(j:Nat)(h:ZO q x j=true):lst q x≤j:=by
 rcases lt_or_ge j (lst q x) with z|z
 ·rw[(lst_ok q x).2.2 j z] at h;cases h
 ·exact z
noncomputable abbrev Ch:=Option (Int×List Nat×List Nat)
noncomputable def chD:Ch→D
 |none=>.non
 |some t=>.tup [.int t.1,tx t.2.1,nts t.2.2]
noncomputable def st1(x:List Nat)(j:Nat)(c:Ch)(r:List Nat):Ch:=match yw r x with
 |none=>c
 |some t=>match c with
  |none=>some (t.1-15*(j:Int),r,t.2)
  |some b=>if b.1<t.1-15*(j:Int) then some (t.1-15*(j:Int),r,t.2) else c
noncomputable def chL(x:List Nat)(L:List (Nat×List Nat))(c:Ch):Ch:=L.foldl (fun c p=>st1 x p.1 c p.2) c
noncomputable def itm(q:List Nat)(n:Nat):List (Nat×List Nat):=(List.range n).flatMap fun j=>(Rk q j).map fun r=>(j,r)
noncomputable def ch(q x:List Nat)(m:Nat):Ch:=chL x (itm q (min m q.length+1)) none
theorem Zf(q:List Nat)(n:Nat)(p:Nat×List Nat):p∈itm q n↔p.1<n∧p.2∈Rk q p.1:=by
 unfold itm
 rw[mem_flatMap]
 constructor
 ·rintro⟨j,hj,hp⟩
  obtain⟨r,hr,rfl⟩:=mem_map.mp hp
  exact⟨mem_range.mp hj,hr⟩
 ·rintro⟨h1,h2⟩
  exact⟨p.1,mem_range.mpr h1,mem_map.mpr ⟨p.2,h2,rfl⟩⟩
theorem Ue(q:List Nat)(n:Nat):itm q (n+1)=itm q n++(Rk q n).map fun r=>(n,r):=by
 unfold itm
 rw[List.range_succ,List.flatMap_append,List.flatMap_singleton]
theorem ze2(x:List Nat)(L M:List (Nat×List Nat))(c:Ch):chL x (L++M) c=chL x M (chL x L c):=List.foldl_append
theorem ze1(x:List Nat)(j:Nat)(R:List (List Nat)):∀c,chL x (R.map fun r=>(j,r)) c=R.foldl (st1 x j) c:=by
 induction R with
 |nil=>intro c;rfl
 |cons r R ih=>intro c;exact ih _
theorem zj3(x:List Nat)(j:Nat)(c:Ch)(r:List Nat):(∀t,st1 x j c r=some t→c=some t∨yw r x=some (t.1+15*(j:Int),t.2.2)∧t.2.1=r)∧(∀b,c=some b→∃t,st1 x j c r=some t∧b.1≤t.1)∧∀w,yw r x=some w→∃t,st1 x j c r=some t∧w.1-15*(j:Int)≤t.1:=by
 unfold st1
 cases z:yw r x with
 |none=>exact⟨fun t h=>.inl h,fun b h=>⟨b,h,Int.le_refl _⟩,fun w h=>by cases h⟩
 |some t=>
  have e:yw r x=some (t.1-15*(j:Int)+15*(j:Int),t.2):=by rw[z];congr 1;exact Prod.ext (by simp only[];lia) rfl
  cases c with
  |none=>
   refine⟨fun u h=>.inr ?_,fun b h=>(by cases h),fun w h=>⟨_,rfl,?_⟩⟩
   ·cases h;exact⟨by rw[← z];exact e,rfl⟩
   ·cases h;exact Int.le_refl _
  |some b=>
   dsimp only
   split
   ·rename_i y
    refine⟨fun u h=>.inr ?_,fun b' h=>⟨_,rfl,?_⟩,fun w h=>⟨_,rfl,?_⟩⟩
    ·cases h;exact⟨by rw[← z];exact e,rfl⟩
    ·cases h;exact Int.le_of_lt y
    ·cases h;exact Int.le_refl _
   ·rename_i y
    refine⟨fun u h=>.inl h,fun b' h=>⟨b,rfl,?_⟩,fun w h=>⟨b,rfl,?_⟩⟩
    ·cases h;exact Int.le_refl _
    ·cases h;lia
theorem Tt(x:List Nat):∀(L:List (Nat×List Nat)) (c:Ch),(∀t,chL x L c=some t→c=some t∨∃p∈L,yw p.2 x=some (t.1+15*(p.1:Int),t.2.2)∧t.2.1=p.2)∧(∀b,c=some b→∃t,chL x L c=some t∧b.1≤t.1)∧∀p∈L,∀w,yw p.2 x=some w→∃t,chL x L c=some t∧w.1-15*(p.1:Int)≤t.1:=fun L=>by
 induction L with
 |nil=>intro c;exact⟨fun t h=>.inl h,fun b h=>⟨b,h,Int.le_refl _⟩,fun p hp=>by cases hp⟩
 |cons p L ih=>
  intro c
  obtain⟨a1,a2,a3⟩:=zj3 x p.1 c p.2
  obtain⟨b1,b2,b3⟩:=ih (st1 x p.1 c p.2)
  refine⟨fun t h=>?_,fun b h=>?_,fun p' hp w h=>?_⟩
  ·rcases b1 t h with z|⟨p',hp,z⟩
   ·rcases a1 t z with y|y
    ·exact .inl y
    ·exact .inr ⟨p,mem_cons_self,y⟩
   ·exact .inr ⟨p',mem_cons_of_mem _ hp,z⟩
  ·obtain⟨t,h1,h2⟩:=a2 b h
   obtain⟨u,h3,h4⟩:=b2 t h1
   exact⟨u,h3,Int.le_trans h2 h4⟩
  ·rcases mem_cons.mp hp with rfl|hp
   ·obtain⟨t,h1,h2⟩:=a3 w h
    obtain⟨u,h3,h4⟩:=b2 t h1
    exact⟨u,h3,Int.le_trans h2 h4⟩
   ·exact b3 p' hp w h
theorem ch_of(q x:List Nat)(m:Nat)(t:Int×List Nat×List Nat)(h:ch q x m=some t):∃j,j≤m∧j≤q.length∧t.2.1∈Rk q j∧yw t.2.1 x=some (t.1+15*(j:Int),t.2.2):=by
 rcases (Tt x _ none).1 t h with z|⟨p,hp,h1,h2⟩
 ·cases z
 ·obtain⟨h3,h4⟩:=(Zf _ _ _).mp hp
  rw[h2]
  exact⟨p.1,by lia,by lia,h4,h1⟩
theorem ch_ge(q x:List Nat)(m j:Nat)(r:List Nat)(w:Tl)(h1:j≤m)(h2:j≤q.length)(hr:r∈Rk q j)(hw:yw r x=some w):∃t,ch q x m=some t∧w.1-15*(j:Int)≤t.1:=
 (Tt x _ none).2.2 (j,r) ((Zf _ _ _).mpr ⟨by show j<_;lia,hr⟩) w hw
theorem Gm(w x:List Nat):(yw w x).isSome=wY w x:=by
 cases z:wY w x with
 |false=>rw[jX w x z];rfl
 |true=>obtain⟨v,l,e,_⟩:=uE w x _ (jt w x z);rw[e];rfl
theorem Tx(q x:List Nat)(v:Int)(l:List Nat)(h:yw q x=some (v,l)):Lay q x l∧v=pts q x l q.length:=by
 have hs:wY q x=true:=by rw[← Gm,h];rfl
 obtain⟨v',l',e,b⟩:=uE q x _ (jt q x hs)
 rw[h] at e;cases e
 exact⟨b.lay,b.pnt⟩
theorem zr5(q x:List Nat)(m:Nat)(t:Int×List Nat×List Nat)(h:ch q x m=some t):Lay t.2.1 x t.2.2∧t.1=pts t.2.1 x t.2.2 t.2.1.length-15*((q.length:Int)-(t.2.1.length:Int))∧List.Sublist t.2.1 q:=by
 obtain⟨j,h1,h2,h3,h4⟩:=ch_of q x m t h
 obtain⟨a,b⟩:=We q j _ h3
 obtain⟨l1,l2⟩:=Tx _ _ _ _ h4
 exact⟨l1,by lia,a⟩
theorem zj4(x:List Nat)(hx:x.length≤1000)(n:Nat):slD (tx x) none (some (n:Int))=.ok (tx (x.take n)):=by
 show(if _ then Rs.ok (D.str (Txt.slice _ none (some (n:Int)))) else Rs.no)=_
 rw[if_pos (by rw[uY,sizeLine_v];lia),GM]
theorem GP(x:List Nat)(hx:x.length≤1000)(n:Nat)(h:n≤x.length):slD (tx x) (some (n:Int)) none=.ok (tx (x.drop n)):=by
 show(if _ then Rs.ok (D.str (Txt.slice _ (some (n:Int)) none)) else Rs.no)=_
 rw[if_pos (by rw[uY,sizeLine_v];lia),UN x n h]
noncomputable def kyE:FE:=(eOp zI (eSl (zc 2) uX (wM (zc 3))) (eSl (zc 2) (wM (eOp zI (zc 3) (eC (.int 1)))) uX))
noncomputable def rgE:FA:=(uN (za (z7 yL (za (zc 2) zh)) zh))
theorem Lj:vg=(Zz 1 (Xl (xi (zc 0)) 2 (Xl rgE 3 (Yg kyE)))):=by unfold vg rgE kyE;rfl
theorem ky_ok(A:D)(r:List Nat)(p:Nat)(hr:r.length≤1000)(hp:p<r.length):kyE [some (.val A),none,some (.val (tx r)),some (.val (.int (p:Int)))]=.ok (.str (mkS (r.take p++r.drop (p+1)))):=by
 unfold kyE
 refine op2 (b:=tx (r.drop (p+1))) (GO (ze rfl) rfl (zg8 (ze rfl)) (zj4 r hr p)) (GO (ze rfl) (zg8 (op2 (ze rfl) rfl yJ)) rfl ?_) ?_
 ·exact GP r hr (p+1) hp
 ·exact zs3 _ _ (by rw[length_take];lia) (by rw[length_drop];lia)
theorem M9(l:List Str):∀ks:List Str,(l.foldl vh ks).length≤ks.length+l.length:=by
 induction l with
 |nil=>intro ks;exact le_refl _
 |cons a l ih=>
  intro ks
  have h1:(vh ks a).length≤ks.length+1:=by unfold vh;split <;> simp
  have:=ih (vh ks a)
  rw[foldl_cons,length_cons];lia
theorem gl_in(A:D)(r:List Nat)(hr:r.length≤1000):∀(ps:List Nat) (s3:Option Sl) (ks:List Str),(∀p∈ps,p<r.length)→ks.length+ps.length≤1000 →
  ∃t3,Xk (Yg kyE) 3 (ps.map fun (p:Nat)=>D.int (0+p)) [some (.val A),none,some (.val (tx r)),s3] ks=some ([some (.val A),none,some (.val (tx r)),t3],(ps.map fun p=>mkS (r.take p++r.drop (p+1))).foldl vh ks):=fun ps=>by
 induction ps with
 |nil=>intro s3 ks _ _;exact⟨s3,rfl⟩
 |cons p ps ih=>
  intro s3 ks h hl
  rw[length_cons] at hl
  have ha:(vh ks (mkS (r.take p++r.drop (p+1)))).length≤ks.length+1:=by unfold vh;split <;> simp
  obtain⟨t3,e⟩:=ih (some (.val (.int (p:Int)))) (vh ks (mkS (r.take p++r.drop (p+1)))) (fun p' hp'=>h p' (mem_cons_of_mem _ hp')) (by lia)
  refine⟨t3,?_⟩
  rw[map_cons,map_cons,foldl_cons,← e,Int.zero_add]
  have g:Yg kyE [some (.val A),none,some (.val (tx r)),some (.val (.int (p:Int)))] ks=some ([some (.val A),none,some (.val (tx r)),some (.val (.int (p:Int)))],vh ks (mkS (r.take p++r.drop (p+1)))):=by
   unfold Yg
   rw[ky_ok A r p hr (h p mem_cons_self)]
   exact if_pos (by lia)
  show(Yg kyE [some (.val A),none,some (.val (tx r)),some (.val (.int (p:Int)))] ks).bind _=_
  rw[g];rfl
theorem zq0(A:D):∀(R:List (List Nat)) (s2 s3:Option Sl) (ks:List Str),(∀r∈R,r.length≤5)→ks.length+5*R.length≤900 →
  ∃t2 t3,Xk (Xl rgE 3 (Yg kyE)) 2 (R.map tx) [some (.val A),none,s2,s3] ks=some ([some (.val A),none,t2,t3],((R.flatMap jx).map mkS).foldl vh ks):=fun R=>by
 induction R with
 |nil=>intro s2 s3 ks _ _;exact⟨s2,s3,rfl⟩
 |cons r R ih=>
  intro s2 s3 ks h hl
  rw[length_cons] at hl
  have hr:=h r mem_cons_self
  obtain⟨u3,e1⟩:=gl_in A r (by lia) (List.range r.length) s3 ks (fun p hp=>mem_range.mp hp) (by rw[length_range];lia)
  have hf:=M9 ((List.range r.length).map fun p=>mkS (r.take p++r.drop (p+1))) ks
  rw[length_map,length_range] at hf
  have er:((List.range r.length).map fun p=>mkS (r.take p++r.drop (p+1)))=(jx r).map mkS:=by unfold jx;rw[map_map];rfl
  rw[er] at e1 hf
  obtain⟨t2,t3,e2⟩:=ih (some (.val (tx r))) u3 (((jx r).map mkS).foldl vh ks) (fun r' hr'=>h r' (mem_cons_of_mem _ hr')) (by lia)
  refine⟨t2,t3,?_⟩
  rw[List.flatMap_cons,map_append,List.foldl_append,← e2,map_cons]
  have g:Xl rgE 3 (Yg kyE) [some (.val A),none,some (.val (tx r)),s3] ks=some ([some (.val A),none,some (.val (tx r)),u3],((jx r).map mkS).foldl vh ks):=by
   unfold Xl
   have:rgE [some (.val A),none,some (.val (tx r)),s3]=.ok ((List.range r.length).map fun (k:Nat)=>D.int (0+k)):=YJ (v0 (ze rfl) (xG r (by lia))) (by lia)
   rw[this]
   exact e1
  show(Xl rgE 3 (Yg kyE) [some (.val A),none,some (.val (tx r)),s3] ks).bind _=_
  rw[g];rfl
theorem Q3(f:FG2)(A:D)(τ:DS)(ks:List Str)(h:f [some (.val A),none,none,none] []=some (τ,ks))(hl:ks.length<64):yX 4 (Zz 1 f) [A]=.ok (.lst ((STW.srtS ks).map D.str)):=by
 have st:zV 4 [A]=[some (.val A),none,none,none]:=rfl
 have v:vlB [some (.val A),none,none,none]=true:=rfl
 rw[zY,st]
 unfold Zz
 rw[if_pos ⟨v,by simp⟩]
 have e:([some (.val A),none,none,none]:DS).set 1 none=[some (.val A),none,none,none]:=rfl
 rw[e,h]
 dsimp only
 rw[if_pos hl];rfl
theorem VM(q:List Nat)(j:Nat)(hq:q.length≤5):yg [.lst ((Rk q j).map tx)]=.ok (.lst ((Rk q (j+1)).map tx)):=by
 have hl:=UQ q j hq
 obtain⟨t2,t3,e⟩:=zq0 (.lst ((Rk q j).map tx)) (Rk q j) none none [] (fun r hr=>by have:=(We q j r hr).2;lia) (by rw[length_nil];lia)
 unfold yg
 rw[Lj,Q3 _ _ [some (.val (.lst ((Rk q j).map tx))),none,t2,t3] (Wx ((Rk q j).flatMap jx)) ?_ (by have:=MO q j hq;lia),sh_D]
 ·rfl
 ·unfold Xl
  have:xi (zc 0) [some (.val (.lst ((Rk q j).map tx))),none,none,none]=.ok ((Rk q j).map tx):=ZS (ze rfl)
  rw[this]
  exact e
noncomputable def anE:FE:=(z7 zf3 (za (fun τ=>((xa 1 [1] (xi (zc 3)) (gNm 0) (fun _=>.ok true) (zo jS (za (zc 0) (za (zc 1) zh)))) τ).bind fun ds=>.ok (.lst ds)) zh))
noncomputable def whT:FT:=(ZT (uR anE))
noncomputable def whB:FS:=(zp (zB 3 (zo yg (za (zc 3) zh))) (UP 2 (uC fun i j=>.int (i+j)) (eC (.int 1))))
theorem za8:v4=(zp (zB 2 (eC (.int 0))) (zp (zB 3 (xw (za (zc 0) zh))) (zp (WX whT whB) (yh (zc 2))))):=by unfold v4 whT whB anE;rfl
noncomputable abbrev S4(q x:List Nat)(j:Nat):DS:=[some (.val (tx q)),some (.val (tx x)),some (.val (.int (j:Int))),some (.val (.lst ((Rk q j).map tx)))]
structure QX(q x:List Nat):Prop where
 q5:q.length≤5
 qs:∀c∈q,c<128
 xs:x.length≤1000
theorem QX.part{q x:List Nat}(h:QX q x){j:Nat}{s:List Nat}(hs:s∈Rk q j):s.length≤5∧∀c∈s,c<128:=by
 obtain⟨a,b⟩:=We q j s hs
 exact⟨by have:=h.q5;lia,fun c hc=>h.qs c (a.mem hc)⟩
theorem wh_t{q x:List Nat}(h:QX q x)(j:Nat):whT (S4 q x j)=.ok (!ZO q x j):=by
 unfold whT anE
 refine tn_ok (tru_ok (v0 (frE (wI (ZS (ze rfl)) (vd tx D.bl (fun s=>wY s x) (Rk q j) fun s hs=>⟨[some (.val (tx s)),some (.val (tx x))],rfl,?_⟩) ?_)) ?_))
 ·obtain⟨a,b⟩:=h.part hs
  exact ug (ze rfl) (ze rfl) (Tb s x (by lia) h.xs b)
 ·have:=UQ q j h.q5;simp only[length_map];lia
 ·show(match wX (((Rk q j).map fun s=>wY s x).map D.bl) with|some bs=>Rs.ok (D.bl (bs.any id)) | none=>.no)=_
  rw[Uy]
  dsimp only
  rw[List.any_map];rfl
theorem lst1{fa:FE}{τ:DS}{a:D}(h1:fa τ=.ok a):xw (za fa zh) τ=.ok (.lst [a]):=by
 rw[Zn,zf2 h1,Rs.bind_ok]
 exact if_pos (size1 a)
theorem zs2{n:Nat}{τ:DS}{i k:Int}(h:τ[n]?=some (some (.val (.int i)))):UP n (uC fun i j=>.int (i+j)) (eC (.int k)) τ=.nx (τ.set n (some (.val (.int (i+k))))):=by
 rw[Ll,ze h,Fl.of_ok];rfl
theorem wh_b{q x:List Nat}(h:QX q x)(j:Nat):whB (S4 q x j)=.nx (S4 q x (j+1)):=by
 unfold whB
 rw[yx (xb (WI (ze rfl) (VM q j h.q5)))]
 show UP 2 _ _ [some (.val (tx q)),some (.val (tx x)),some (.val (.int (j:Int))),some (.val (.lst ((Rk q (j+1)).map tx)))]=_
 rw[zs2 (i:=(j:Int)) rfl];rfl
theorem TZ{q x:List Nat}(h:QX q x):∀(n f j:Nat),j+n=q.length→n<f→uO whT whB f (S4 q x j)=.nx (S4 q x (lsl q x n j)):=fun n=>by
 induction n with
 |zero=>
  intro f j hj hf
  have e:j=q.length:=by lia
  obtain⟨f,rfl⟩:∃g,f=g+1:=⟨f-1,by lia⟩
  unfold uO
  rw[wh_t h,Fl.of_ok,e,J0];rfl
 |succ n ih=>
  intro f j hj hf
  obtain⟨f,rfl⟩:∃g,f=g+1:=⟨f-1,by lia⟩
  unfold uO lsl
  rw[wh_t h,Fl.of_ok]
  by_cases z:ZO q x j=true
  ·rw[z,if_pos rfl];rfl
  ·have z':ZO q x j=false:=by simpa using z
   rw[z']
   show(match whB (S4 q x j) with | .nx τ'=>uO whT whB f τ' | .rt d=>.rt d|_=>.no)=_
   rw[wh_b h,if_neg (by simp)]
   exact ih f (j+1) (by lia) (by lia)
theorem MG{q x:List Nat}(h:QX q x):xr [tx q,tx x]=.ok (.int (lst q x:Int)):=by
 have st:zV 4 [tx q,tx x]=[some (.val (tx q)),some (.val (tx x)),none,none]:=rfl
 have hq:=h.q5
 unfold xr
 rw[za8,zY,st,yx (xb (d:=.int 0) rfl)]
 show jd (zp _ _ [some (.val (tx q)),some (.val (tx x)),some (.val (.int 0)),none])=_
 rw[yx (xb (lst1 (ze rfl)))]
 show jd (zp _ _ (S4 q x 0))=_
 have hw:WX whT whB (S4 q x 0)=.nx (S4 q x (lst q x)):=TZ h q.length 64 0 (by lia) (by lia)
 rw[yx hw,ZC (ze rfl)];rfl
noncomputable def bwT:FT:=(vm (FD.tB (eOp xY (zc 7) (eC .non))) (Z7 (FD.tB (eOp isD (zc 3) (eC .non))) (FD.tB (eOp gtD (eOp yH (eOp ixD (zc 7) (eC (.int 0))) (eOp wP (eC (.int 15)) (zc 5))) (eOp ixD (zc 3) (eC (.int 0)))))))
noncomputable def bwE:FE:=(xu (za (eOp yH (eOp ixD (zc 7) (eC (.int 0))) (eOp wP (eC (.int 15)) (zc 5))) (za (zc 6) (za (eOp ixD (zc 7) (eC (.int 1))) zh))))
noncomputable def bwI:FS:=(zp (zB 7 (zo uz (za (zc 6) (za (zc 1) zh)))) (sIf bwT (zB 3 bwE) ya))
noncomputable def bwO:FS:=(zp (wj (xi (zc 4)) (gNm 6) bwI) (zB 4 (zo yg (za (zc 4) zh))))
noncomputable def bwR:FA:=(uN (za (eOp zI (z7 vo (za (zc 2) (za (z7 yL (za (zc 0) zh)) zh))) (eC (.int 1))) zh))
theorem bws_b:wJ=(zp (zB 3 (eC .non)) (zp (zB 4 (xw (za (zc 0) zh))) (zp (wj bwR (gNm 5) bwO) (yh (zc 3))))):=by unfold wJ bwR bwO bwI bwT bwE;rfl
noncomputable abbrev S8(q x:List Nat)(m:Nat)(c:Ch)(R:List (List Nat))(s5 s6 s7:Option Sl):DS:=[some (.val (tx q)),some (.val (tx x)),some (.val (.int (m:Int))),some (.val (chD c)),some (.val (.lst (R.map tx))),s5,s6,s7]
theorem zh6(c:Ch):isD (chD c) .non=.ok (.bl c.isNone):=by cases c <;> rfl
theorem Uf(c:Ch):xY (chD c) .non=.ok (.bl c.isSome):=by cases c <;> rfl
theorem zr6(t:Int×List Nat×List Nat):ixD (chD (some t)) (.int 0)=.ok (.int t.1):=rfl
theorem bw_in{q x:List Nat}(m j:Nat)(c:Ch)(R:List (List Nat))(r:List Nat)(s7:Option Sl)(hr:r.length≤5)(hs:∀c∈r,c<128)(hx:x.length≤1000) :
  bwI (S8 q x m c R (some (.val (.int (j:Int)))) (some (.val (tx r))) s7)=.nx (S8 q x m (st1 x j c r) R (some (.val (.int (j:Int)))) (some (.val (tx r))) (some (.val (wK (yw r x))))):=by
 unfold bwI
 rw[yx (xb (ug (ze rfl) (ze rfl) (TW r x (by lia) hx hs)))]
 show sIf bwT (zB 3 bwE) ya (S8 q x m c R (some (.val (.int (j:Int)))) (some (.val (tx r))) (some (.val (wK (yw r x)))))=_
 unfold st1
 cases z:yw r x with
 |none=>rw[Jc (by unfold bwT;exact and_f (xz (op2 (ze rfl) rfl (by rfl))))]
 |some t=>
  have hv:eOp yH (eOp ixD (zc 7) (eC (.int 0))) (eOp wP (eC (.int 15)) (zc 5)) (S8 q x m c R (some (.val (.int (j:Int)))) (some (.val (tx r))) (some (.val (tlD t))))=.ok (.int (t.1-15*(j:Int))):=
   op2 (op2 (ze rfl) rfl (VE t)) (op2 rfl (ze rfl) (vD (.inl ⟨by decide,by decide⟩))) yY
  have hE:bwE (S8 q x m c R (some (.val (.int (j:Int)))) (some (.val (tx r))) (some (.val (tlD t))))=.ok (chD (some (t.1-15*(j:Int),r,t.2))):=T3 hv (ze rfl) (op2 (ze rfl) rfl (VD t))
  have h1:FD.tB (eOp xY (zc 7) (eC .non)) (S8 q x m c R (some (.val (.int (j:Int)))) (some (.val (tx r))) (some (.val (tlD t))))=.ok true:=xz (op2 (ze rfl) rfl rfl)
  show sIf bwT (zB 3 bwE) ya (S8 q x m c R (some (.val (.int (j:Int)))) (some (.val (tx r))) (some (.val (tlD t))))=_
  cases c with
  |none=>
   rw[if_t (by unfold bwT;exact zi3 h1 (zh0 (xz (op2 (ze rfl) rfl (zh6 none))))),xb hE];rfl
  |some b=>
   have hT:bwT (S8 q x m (some b) R (some (.val (.int (j:Int)))) (some (.val (tx r))) (some (.val (tlD t))))=.ok (decide (b.1<t.1-15*(j:Int))):=by
    unfold bwT
    exact zi3 h1 (zg9 (xz (op2 (ze rfl) rfl (zh6 (some b)))) (xz (op2 hv (op2 (ze rfl) rfl (zr6 b)) WE)))
   dsimp only
   by_cases y:b.1<t.1-15*(j:Int)
   ·rw[if_pos y,if_t (by rw[hT,decide_eq_true y]),xb hE];rfl
   ·rw[if_neg y,Jc (by rw[hT,decide_eq_false y])];rfl
theorem ze8{q x:List Nat}(m j:Nat)(R0:List (List Nat))(hx:x.length≤1000):∀(R:List (List Nat)) (c:Ch) (s6 s7:Option Sl),(∀r∈R,r.length≤5∧∀c∈r,c<128) →
  ∃t6 t7,yr (gNm 6) bwI (R.map tx) (S8 q x m c R0 (some (.val (.int (j:Int)))) s6 s7)=.nx (S8 q x m (R.foldl (st1 x j) c) R0 (some (.val (.int (j:Int)))) t6 t7):=fun R=>by
 induction R with
 |nil=>intro c s6 s7 _;exact⟨s6,s7,rfl⟩
 |cons r R ih=>
  intro c s6 s7 h
  obtain⟨a,b⟩:=h r mem_cons_self
  obtain⟨t6,t7,e⟩:=ih (st1 x j c r) (some (.val (tx r))) (some (.val (wK (yw r x)))) fun r' hr'=>h r' (mem_cons_of_mem _ hr')
  refine⟨t6,t7,?_⟩
  have g:gNm 6 (tx r) (S8 q x m c R0 (some (.val (.int (j:Int)))) s6 s7)=.ok (S8 q x m c R0 (some (.val (.int (j:Int)))) (some (.val (tx r))) s7):=rfl
  rw[map_cons,yr,g,Fl.of_ok,bw_in m j c R0 r s7 a b hx]
  exact e
theorem zr8{q x:List Nat}(h:QX q x)(m:Nat):∀(n k:Nat) (s5 s6 s7:Option Sl),
  ∃t5 t6 t7,yr (gNm 5) bwO ((List.range' k n).map fun (i:Nat)=>D.int i) (S8 q x m (chL x (itm q k) none) (Rk q k) s5 s6 s7)=.nx (S8 q x m (chL x (itm q (k+n)) none) (Rk q (k+n)) t5 t6 t7):=fun n=>by
 induction n with
 |zero=>intro k s5 s6 s7;exact⟨s5,s6,s7,rfl⟩
 |succ n ih=>
  intro k s5 s6 s7
  obtain⟨u6,u7,e1⟩:=ze8 (q:=q) m k (Rk q k) h.xs (Rk q k) (chL x (itm q k) none) s6 s7 fun r hr=>h.part hr
  obtain⟨t5,t6,t7,e2⟩:=ih (k+1) (some (.val (.int (k:Int)))) u6 u7
  refine⟨t5,t6,t7,?_⟩
  have g:gNm 5 (D.int (k:Int)) (S8 q x m (chL x (itm q k) none) (Rk q k) s5 s6 s7)=.ok (S8 q x m (chL x (itm q k) none) (Rk q k) (some (.val (.int (k:Int)))) s6 s7):=rfl
  have b:bwO (S8 q x m (chL x (itm q k) none) (Rk q k) (some (.val (.int (k:Int)))) s6 s7)=.nx (S8 q x m (chL x (itm q (k+1)) none) (Rk q (k+1)) (some (.val (.int (k:Int)))) u6 u7):=by
   unfold bwO
   rw[yx (τ':=S8 q x m ((Rk q k).foldl (st1 x k) (chL x (itm q k) none)) (Rk q k) (some (.val (.int (k:Int)))) u6 u7) (by rw[xP,ZS (ds:=(Rk q k).map tx) (ze rfl),Fl.of_ok];exact e1)]
   rw[xb (WI (ze rfl) (VM q k h.q5)),Ue,ze2,ze1];rfl
  rw[range'_succ,map_cons,yr,g,Fl.of_ok,b]
  have en:k+(n+1)=k+1+n:=by lia
  rw[en]
  exact e2
theorem Lp(n:Nat):((List.range n).map fun (k:Nat)=>D.int (0+k))=(List.range n).map fun (i:Nat)=>D.int i:=map_congr_left fun k _=>by rw[Int.zero_add]
theorem Tv{q x:List Nat}(h:QX q x)(m:Nat)(hm:m≤100):zX [tx q,tx x,.int (m:Int)]=.ok (chD (ch q x m)):=by
 have st:zV 8 [tx q,tx x,.int (m:Int)]=[some (.val (tx q)),some (.val (tx x)),some (.val (.int (m:Int))),none,none,none,none,none]:=rfl
 have hq:=h.q5
 obtain⟨t5,t6,t7,e⟩:=zr8 h m (min m q.length+1) 0 none none none
 unfold zX
 rw[bws_b,zY,st,yx (xb (d:=.non) rfl)]
 show jd (zp _ _ [some (.val (tx q)),some (.val (tx x)),some (.val (.int (m:Int))),some (.val .non),none,none,none,none])=_
 rw[yx (xb (lst1 (ze rfl)))]
 show jd (zp _ _ (S8 q x m none (Rk q 0) none none none))=_
 have er:bwR (S8 q x m none (Rk q 0) none none none)=.ok ((List.range' 0 (min m q.length+1)).map fun (i:Nat)=>D.int i):=by
  unfold bwR
  have hmin:z7 vo (za (zc 2) (za (z7 yL (za (zc 0) zh)) zh)) (S8 q x m none (Rk q 0) none none none)=.ok (.int (min m q.length:Nat)):=blt2 (ze rfl) (v0 (ze rfl) (xG q (by lia))) (by
   rw[Y7];congr 2
   rw[Nat.min_def]
   split <;> split <;> lia)
  rw[← range_eq_range',← Lp]
  exact YJ (n:=min m q.length+1) (op2 hmin rfl (by rw[yJ];congr 2)) (by lia)
 rw[yx (τ':=S8 q x m (chL x (itm q (0+(min m q.length+1))) none) (Rk q (0+(min m q.length+1))) t5 t6 t7) (by rw[xP,er,Fl.of_ok];exact e),ZC (ze rfl)]
 rw[zero_add];rfl
noncomputable def wE:FE:=fun τ=>((xa 1 [1,2] (xi (zc 0)) (gNm 0) (fun _=>.ok true) (zo zX (za (zc 1) (za (zc 0) (za (zc 2) zh))))) τ).bind fun ds=>.ok (.lst ds)
noncomputable def rwE:FE:=fun τ=>((xa 2 [] (iEn (za (zc 4) zh)) (gPr 0 1) (FD.tB (eOp xY (zc 1) (eC .non))) (xu (za (eOp ixD (zc 1) (eC (.int 0))) (za (zc 0) zh)))) τ).bind fun ds=>.ok (.lst ds)
theorem fws_b:wC=(zp (zB 4 wE) (zp (zB 5 rwE) (yh (zo xT (za (zc 0) (za (zc 5) (za (zc 3) zh))))))):=by unfold wC wE rwE;rfl
noncomputable def orS(q:List Nat)(m:Nat)(p:List Nat×Nat):Option Rw:=(ch q p.1 m).map fun t=>(t.1,p.2)
noncomputable def sR(X:List (List Nat))(q:List Nat)(m:Nat):List Rw:=X.zipIdx.filterMap (orS q m)
theorem zj6(q:List Nat)(m:Nat)(X:List (List Nat)):∀k,((((X.zipIdx k).filterMap (orS q m))).map (·.2)).Sublist (List.range' k X.length):=by
 induction X with
 |nil=>intro k;exact List.Sublist.refl _
 |cons x X ih=>
  intro k
  have:=ih (k+1)
  rw[List.zipIdx_cons,length_cons,range'_succ]
  cases z:ch q x m with
  |none=>rw[List.filterMap_cons_none (by simp[orS,z])];exact List.Sublist.cons _ this
  |some v=>rw[List.filterMap_cons_some (b:=(v.1,k)) (by simp[orS,z]),map_cons];exact this.cons_cons _
theorem GV(X:List (List Nat))(q:List Nat)(m:Nat)(hX:∀x∈X,x.length≤1000)(hl:X.length<64):zf7 X (sR X q m):=by
 have s:=zj6 q m X 0
 rw[← range_eq_range'] at s
 refine⟨?_,s.nodup List.nodup_range,fun r hr=>?_,hX⟩
 ·have:=s.length_le
  rw[length_map,length_range] at this
  unfold sR;lia
 ·have:=s.mem (mem_map.mpr ⟨r,hr,rfl⟩)
  simpa using this
theorem ze0{set:FG}{ft:FT}{fe:FE}{τ:DS}{α β:Type}(f:α→D)(g:β→D)(h:α→Option β):∀(xs:List α),(∀a∈xs,∃τ1,set (f a) τ=.ok τ1∧ft τ1=.ok (h a).isSome∧∀b,h a=some b→fe τ1=.ok (g b))→vq set ft fe τ (xs.map f)=.ok ((xs.filterMap h).map g):=fun xs=>by
 induction xs with
 |nil=>intro _;rfl
 |cons a xs ih=>
  intro H
  obtain⟨τ1,h1,h2,h3⟩:=H a mem_cons_self
  have ih:=ih fun b hb=>H b (mem_cons_of_mem _ hb)
  rw[map_cons,vq]
  simp only[h1]
  cases z:h a with
  |none=>
   rw[z] at h2
   rw[List.filterMap_cons_none z]
   simp only[h2,Option.isSome_none]
   exact ih
  |some b=>
   rw[z] at h2
   rw[List.filterMap_cons_some z]
   simp only[h2,Option.isSome_some,h3 b z]
   rw[ih];rfl
theorem zd6(q:List Nat)(m:Nat)(X:List (List Nat)):∀k,yN k (X.map fun x=>chD (ch q x m))=(X.zipIdx k).map fun p=>D.tup [.int (p.2:Int),chD (ch q p.1 m)]:=Xu (fun x=>chD (ch q x m)) X
theorem M8(X:List (List Nat))(q:List Nat)(m many:Nat)(hm:m≤100)(hq:q.length≤5)(ha:∀c∈q,c<128)(hX:∀x∈X,x.length≤1000)(hl:X.length<64):zR [.lst (X.map tx),tx q,.int (m:Int),.int (many:Int)]=.ok (.lst (((vn (vG X) (sR X q m)).take many).map wt)):=by
 have st:zV 6 [.lst (X.map tx),tx q,.int (m:Int),.int (many:Int)]=[some (.val (.lst (X.map tx))),some (.val (tx q)),some (.val (.int (m:Int))),some (.val (.int (many:Int))),none,none]:=rfl
 have e1:wE [some (.val (.lst (X.map tx))),some (.val (tx q)),some (.val (.int (m:Int))),some (.val (.int (many:Int))),none,none]=.ok (.lst (X.map fun x=>chD (ch q x m))):=by
  unfold wE
  have c:=vd (set:=gNm 0) (fe:=(zo zX (za (zc 1) (za (zc 0) (za (zc 2) zh))))) (τ:=[none,some (.val (tx q)),some (.val (.int (m:Int)))]) tx (fun x=>chD (ch q x m)) id X fun x hx=>⟨[some (.val (tx x)),some (.val (tx q)),some (.val (.int (m:Int)))],rfl,vU (ze rfl) (ze rfl) (ze rfl) (Tv ⟨hq,ha,hX x hx⟩ m hm)⟩
  rw[map_id] at c
  exact frE (wI (ZS (ze rfl)) c (by rw[length_map];lia))
 have e2:rwE [some (.val (.lst (X.map tx))),some (.val (tx q)),some (.val (.int (m:Int))),some (.val (.int (many:Int))),some (.val (.lst (X.map fun x=>chD (ch q x m)))),none]=.ok (.lst ((sR X q m).map wt)):=by
  unfold rwE
  refine frE (wI (ds:=X.zipIdx.map fun p:List Nat×Nat=>D.tup [.int (p.2:Int),chD (ch q p.1 m)]) ?_ (ze0 (fun p:List Nat×Nat=>D.tup [.int (p.2:Int),chD (ch q p.1 m)]) wt (orS q m) X.zipIdx fun p hp=>⟨[some (.val (.int (p.2:Int))),some (.val (chD (ch q p.1 m)))],rfl,?_,fun b hb=>?_⟩) ?_)
  ·unfold iEn
   rw[zf2 (ze (d:=.lst (X.map fun x=>chD (ch q x m))) rfl),Rs.bind_ok]
   show Rs.ok (yN 0 (X.map fun x=>chD (ch q x m)))=_
   rw[zd6]
  ·refine xz (op2 (ze rfl) rfl ?_)
   rw[Uf];unfold orS;cases ch q p.1 m <;> rfl
  ·unfold orS at hb
   cases z:ch q p.1 m with
   |none=>rw[z] at hb;cases hb
   |some t=>
    rw[z] at hb;cases hb
    exact WP (op2 (ze rfl) rfl (zr6 t)) (ze rfl)
  ·have:=(GV X q m hX hl).few
   rw[length_map]
   show(sR X q m).length≤_
   lia
 unfold zR
 rw[fws_b,zY,st,yx (xb e1)]
 show jd (zp _ _ [some (.val (.lst (X.map tx))),some (.val (tx q)),some (.val (.int (m:Int))),some (.val (.int (many:Int))),some (.val (.lst (X.map fun x=>chD (ch q x m)))),none])=_
 rw[yx (xb e2)]
 exact congrArg jd (ZC (vU (ze rfl) (ze rfl) (ze rfl) (Tc X _ many (GV X q m hX hl))))
theorem JA{P:List Nat→Prop}(h0:P [])(hs:∀x c,P x→P (x++[c]))(x:List Nat):P x:=by
 have:∀y:List Nat,P y.reverse:=fun y=>by
  induction y with
  |nil=>exact h0
  |cons a y ih=>rw[List.reverse_cons];exact hs _ _ ih
 have h:=this x.reverse
 rwa [List.reverse_reverse] at h
theorem sub_one{b:List Nat}{c:Nat}(h:List.Sublist b [c]):b=[]∨b=[c]:=by
 cases h with
 |cons _ h=>exact .inl (List.sublist_nil.mp h)
 |cons_cons _ h=>exact .inr (by rw[List.sublist_nil.mp h])
theorem GE{r x:List Nat}{c:Nat}:List.Sublist r (x++[c])↔List.Sublist r x∨∃s,r=s++[c]∧List.Sublist s x:=by
 rw[List.sublist_append_iff]
 constructor
 ·rintro⟨a,b,rfl,h1,h2⟩
  rcases sub_one h2 with rfl|rfl
  ·exact .inl (by simpa using h1)
  ·exact .inr ⟨a,rfl,h1⟩
 ·rintro (h|⟨s,rfl,h⟩)
  ·exact⟨r,[],by simp,h,List.nil_sublist _⟩
  ·exact⟨s,[c],rfl,h,List.Sublist.refl _⟩
noncomputable def VR(F:List (List Nat))(c:Nat):List (List Nat):=F++F.map fun r=>r++[c]
noncomputable def xD(x:List Nat):List (List Nat):=x.foldl VR [[]]
theorem jN(x:List Nat)(c:Nat):xD (x++[c])=VR (xD x) c:=by unfold xD;rw[List.foldl_append];rfl
theorem ZB(x:List Nat):∀r,r∈xD x↔List.Sublist r x:=by
 refine JA (P:=fun x=>∀r,r∈xD x↔List.Sublist r x) ?_ ?_ x
 ·intro r
  unfold xD
  simp only[List.foldl_nil,mem_singleton]
  exact⟨fun h=>by rw[h];exact List.Sublist.refl _,fun h=>List.sublist_nil.mp h⟩
 ·intro x c ih r
  rw[jN,VR,mem_append,ih,GE]
  constructor
  ·rintro (h|h)
   ·exact .inl h
   ·obtain⟨s,hs,rfl⟩:=mem_map.mp h
    exact .inr ⟨s,rfl,(ih s).mp hs⟩
  ·rintro (h|⟨s,rfl,h⟩)
   ·exact .inl h
   ·exact .inr (mem_map.mpr ⟨s,(ih s).mpr h,rfl⟩)
theorem Wf(x:List Nat):(xD x).length=2 ^ x.length:=by
 refine JA (P:=fun x=>(xD x).length=2 ^ x.length) ?_ ?_ x
 ·rfl
 ·intro x c ih
  rw[jN,VR,length_append,length_map,length_append,length_singleton,Nat.pow_succ]
  lia
noncomputable def rs(q:List Nat):List (List Nat):=(STW.srtS (STW.fmS ((xD q).map mkS) ((xD q).map mkS).length)).map fun s=>s.cps.toList
theorem rs_D(q:List Nat):(STW.srtS (STW.fmS ((xD q).map mkS) ((xD q).map mkS).length)).map D.str=(rs q).map tx:=by
 unfold rs
 rw[map_map]
 refine map_congr_left fun s _=>?_
 show D.str s=D.str (mkS s.cps.toList)
 rw[jE]
theorem ZA(q r:List Nat):r∈rs q↔List.Sublist r q:=by
 rw[← ZB]
 unfold rs
 rw[mem_map]
 constructor
 ·rintro⟨s,hs,rfl⟩
  have h:=(STW.srtS_perm _).mem_iff.mp hs
  rw[STW.fmS_mem] at h
  obtain⟨p,hp,rfl⟩:=mem_map.mp h
  have:(mkS p).cps.toList=p:=Yr (jE (mkS p))
  rw[this];exact hp
 ·intro h
  exact⟨mkS r,(STW.srtS_perm _).mem_iff.mpr ((STW.fmS_mem _ _).mpr (mem_map.mpr ⟨r,h,rfl⟩)),Yr (jE (mkS r))⟩
theorem zg1(q:List Nat):(rs q).Nodup:=by
 unfold rs
 have h1:(STW.srtS (STW.fmS ((xD q).map mkS) ((xD q).map mkS).length)).Nodup:=(STW.srtS_perm _).nodup_iff.mpr (STW.fmT_nodup _ _)
 unfold List.Nodup at h1 ⊢
 rw[pairwise_map]
 refine h1.imp fun {a b} hne h=>hne ?_
 rw[← jE a,← jE b]
 exact congrArg mkS h
theorem GW(q:List Nat)(hq:q.length≤5):(rs q).length≤32:=by
 have h1:(rs q).length≤(xD q).length:=zh3 (zg1 q) fun x hx=>(ZB q x).mpr ((ZA q x).mp hx)
 rw[Wf] at h1
 exact le_trans h1 (le_trans (Nat.pow_le_pow_right (by decide) hq) (by decide))
theorem QO(s x:List Nat):(vF s x).isEmpty = !wY s x:=by
 cases z:wY s x with
 |true=>
  have:=(vE s x _).mpr (jt s x z)
  cases h:vF s x with
  |nil=>rw[h] at this;cases this
  |cons a l=>rfl
 |false=>
  cases h:vF s x with
  |nil=>rfl
  |cons a l=>
   have hl:Lay s x a:=(vE s x a).mp (by rw[h];exact mem_cons_self)
   obtain⟨v,l',e,_⟩:=uE s x a hl
   rw[jX s x z] at e;cases e
noncomputable def jU(q x:List Nat):List (List Nat):=(rs q).filter fun s=>wY s x
theorem zd3(q x:List Nat):((jU q x).map fun s=>(s.length:Int))≠[]∧mxI ((jU q x).map fun s=>(s.length:Int))=(q.length:Int)-(lst q x:Int):=by
 obtain⟨h1,h2,h3⟩:=lst_ok q x
 obtain⟨s,hs1,hs2,hs3⟩:=(Vj q x _).mp h1
 have hm:s∈jU q x:=mem_filter.mpr ⟨(ZA q s).mpr hs1,hs3⟩
 have hne:((jU q x).map fun s=>(s.length:Int))≠[]:=fun z=>by
  rw[List.map_eq_nil_iff] at z
  rw[z] at hm;cases hm
 refine⟨hne,?_⟩
 obtain⟨m1,m2⟩:=MB _ hne
 obtain⟨r,hr,e⟩:=mem_map.mp m1
 obtain⟨r1,r2⟩:=mem_filter.mp hr
 have hrq:=(ZA q r).mp r1
 have hle:=hrq.length_le
 have:=zo0 q x (q.length-r.length) ((Vj q x _).mpr ⟨r,hrq,by lia,r2⟩)
 have h4:=m2 (s.length:Int) (mem_map.mpr ⟨s,hm,rfl⟩)
 lia
theorem Ge(x:List Nat):∀(L:List (Nat×List Nat)) (c:Ch) (t:Int×List Nat×List Nat),chL x L c=some t →
  (c=some t∧∀p∈L,∀w,yw p.2 x=some w→w.1-15*(p.1:Int)≤t.1) ∨
  ∃L1 p L2,L=L1++p::L2∧(∃w,yw p.2 x=some w∧t=(w.1-15*(p.1:Int),p.2,w.2))∧(∀b,c=some b→b.1<t.1)∧(∀p'∈L1,∀w,yw p'.2 x=some w→w.1-15*(p'.1:Int)<t.1)∧∀p'∈L2,∀w,yw p'.2 x=some w→w.1-15*(p'.1:Int)≤t.1:=fun L=>by
 induction L with
 |nil=>intro c t h;exact .inl ⟨h,fun p hp=>by cases hp⟩
 |cons p L ih=>
  intro c t h
  have h:chL x L (st1 x p.1 c p.2)=some t:=h
  have key:=ih _ t h
  unfold st1 at key
  cases hb:yw p.2 x with
  |none=>
   rw[hb] at key
   rcases key with ⟨k1,k2⟩|⟨L1,r,L2,e,hw,k1,k2,k3⟩
   ·refine .inl ⟨k1,fun p' hp' w hw=>?_⟩
    rcases mem_cons.mp hp' with rfl|hp'
    ·rw[hb] at hw;cases hw
    ·exact k2 p' hp' w hw
   ·refine .inr ⟨p::L1,r,L2,by rw[e];rfl,hw,k1,fun p' hp' w hw=>?_,k3⟩
    rcases mem_cons.mp hp' with rfl|hp'
    ·rw[hb] at hw;cases hw
    ·exact k2 p' hp' w hw
  |some v=>
   rw[hb] at key
   dsimp only at key
   have new:(∀b,c=some b→b.1<v.1-15*(p.1:Int))→((some (v.1-15*(p.1:Int),p.2,v.2):Ch)=some t∧(∀p∈L,∀w,yw p.2 x=some w→w.1-15*(p.1:Int)≤t.1) ∨
     ∃L1 r L2,L=L1++r::L2∧(∃w,yw r.2 x=some w∧t=(w.1-15*(r.1:Int),r.2,w.2))∧(∀b,(some (v.1-15*(p.1:Int),p.2,v.2):Ch)=some b→b.1<t.1)∧(∀p'∈L1,∀w,yw p'.2 x=some w→w.1-15*(p'.1:Int)<t.1)∧∀p'∈L2,∀w,yw p'.2 x=some w→w.1-15*(p'.1:Int)≤t.1) →
     ∃L1 r L2,p::L=L1++r::L2∧(∃w,yw r.2 x=some w∧t=(w.1-15*(r.1:Int),r.2,w.2))∧(∀b,c=some b→b.1<t.1)∧(∀p'∈L1,∀w,yw p'.2 x=some w→w.1-15*(p'.1:Int)<t.1)∧∀p'∈L2,∀w,yw p'.2 x=some w→w.1-15*(p'.1:Int)≤t.1:=by
    intro hc key
    rcases key with ⟨k1,k2⟩|⟨L1,r,L2,e,hw,k1,k2,k3⟩
    ·cases k1
     exact⟨[],p,L,rfl,⟨v,hb,rfl⟩,hc,fun p' hp'=>(by cases hp'),k2⟩
    ·have hv:=k1 _ rfl
     refine⟨p::L1,r,L2,by rw[e];rfl,hw,fun b hb'=>?_,fun p' hp' w hw'=>?_,k3⟩
     ·have:=hc b hb'
      exact Int.lt_trans this hv
     ·rcases mem_cons.mp hp' with rfl|hp'
      ·rw[hb] at hw';cases hw';exact hv
      ·exact k2 p' hp' w hw'
   cases c with
   |none=>exact .inr (new (fun b hb'=>by cases hb') key)
   |some b=>
    dsimp only at key
    by_cases hlt:b.1<v.1-15*(p.1:Int)
    ·rw[if_pos hlt] at key
     exact .inr (new (fun b' hb'=>by cases hb';exact hlt) key)
    ·rw[if_neg hlt] at key
     rcases key with ⟨k1,k2⟩|⟨L1,r,L2,e,hw,k1,k2,k3⟩
     ·refine .inl ⟨k1,fun p' hp' w hw=>?_⟩
      rcases mem_cons.mp hp' with rfl|hp'
      ·rw[hb] at hw;cases hw;cases k1;lia
      ·exact k2 p' hp' w hw
     ·refine .inr ⟨p::L1,r,L2,by rw[e];rfl,hw,k1,fun p' hp' w hw=>?_,k3⟩
      rcases mem_cons.mp hp' with rfl|hp'
      ·rw[hb] at hw;cases hw
       have:=k1 b rfl
       lia
      ·exact k2 p' hp' w hw
noncomputable def Ord(p r:Nat×List Nat):Prop:=p.1<r.1∨(p.1=r.1∧STW.leS (mkS p.2) (mkS r.2))
theorem rk_up(q:List Nat)(j:Nat):(Rk q j).Pairwise fun a b=>STW.leS (mkS a) (mkS b):=by
 cases j with
 |zero=>simp[Rk]
 |succ j=>
  show(sh (Rk q j)).Pairwise _
  unfold sh
  rw[pairwise_map]
  refine(STW.srtS_up _).imp fun {a b} h=>?_
  rw[jE,jE];exact h
theorem zp5(q:List Nat)(n:Nat):(itm q n).Pairwise Ord:=by
 induction n with
 |zero=>simp[itm]
 |succ n ih=>
  rw[Ue,pairwise_append]
  refine⟨ih,?_,fun a ha b hb=>?_⟩
  ·rw[pairwise_map]
   exact(rk_up q n).imp fun h=>.inr ⟨rfl,h⟩
  ·obtain⟨r,_,rfl⟩:=mem_map.mp hb
   exact .inl ((Zf q n a).mp ha).1
noncomputable def YI(q:List Nat)(w:Tl)(s:List Nat):List D:=[.int (15*((q.length:Int)-(s.length:Int))-w.1),.int ((q.length:Int)-(s.length:Int)),tx s,nts w.2]
theorem jm(q:List Nat)(w:Tl)(s:List Nat):(YI q w s).map Wz=[some (.inl (15*((q.length:Int)-(s.length:Int))-w.1)),some (.inl ((q.length:Int)-(s.length:Int))),some (.inr (mkS s)),none]:=rfl
theorem zo3(a b a' b':Int)(s s':Str):Ve [some (.inl a),some (.inl b),some (.inr s),none] [some (.inl a'),some (.inl b'),some (.inr s'),none]=if a=a' then (if b=b' then (if s=s' then none else some (ltC s s')) else some (decide (b<b'))) else some (decide (a<a')):=by
 simp only[Ve,Sum.inl.injEq,Sum.inr.injEq,Wn]
theorem GZ(q:List Nat)(w w':Tl)(s s':List Nat)(h:s≠s'):(uJ (YI q w s) (YI q w' s')).isSome=true:=by
 unfold uJ
 rw[jm,jm,zo3]
 have:¬ mkS s=mkS s':=fun z=>h (Yr z)
 split
 ·split
  ·first|rfl | (rw[if_neg this];rfl)
  ·rfl
 ·rfl
noncomputable def okS(q x:List Nat)(m:Nat)(s:List Nat):Bool:=decide (q.length-s.length≤m)&&(yw s x).isSome
noncomputable def Ss(q x:List Nat)(m:Nat):List (List Nat):=(rs q).filter (okS q x m)
noncomputable def uM(q x s:List Nat):List D:=YI q ((yw s x).getD (0,[])) s
noncomputable def xC(q x:List Nat)(m:Nat):List (List D):=(Ss q x m).map (uM q x)
theorem zg0(q x:List Nat)(m:Nat):(Ss q x m).Nodup:=(zg1 q).filter _
theorem WS(q x:List Nat)(m:Nat)(s:List Nat):s∈Ss q x m↔List.Sublist s q∧q.length-s.length≤m∧∃w,yw s x=some w:=by
 unfold Ss okS
 rw[mem_filter,ZA,Bool.and_eq_true,decide_eq_true_eq,Option.isSome_iff_exists]
theorem Ts{q x:List Nat}{m:Nat}{t:Int×List Nat×List Nat}(h:ch q x m=some t):t.2.1∈Ss q x m∧uM q x t.2.1=YI q (t.1+15*((q.length:Int)-(t.2.1.length:Int)),t.2.2) t.2.1∧∀s∈Ss q x m,s≠t.2.1→uJ (uM q x t.2.1) (uM q x s)=some true∧uJ (uM q x s) (uM q x t.2.1)=some false:=by
 unfold ch at h
 rcases Ge x _ none t h with ⟨z,_⟩|⟨L1,p,L2,e,⟨w,hw,rfl⟩,_,k2,k3⟩
 ·cases z
 have hp:p∈itm q (min m q.length+1):=by rw[e];exact mem_append_right _ mem_cons_self
 obtain⟨hp1,hp2⟩:=(Zf q _ p).mp hp
 obtain⟨hs1,hs2⟩:=We q p.1 p.2 hp2
 have hup:=zp5 q (min m q.length+1)
 rw[e,pairwise_append] at hup
 have hup2:=(pairwise_cons.mp hup.2.1).1
 dsimp only
 have hrow:uM q x p.2=YI q w p.2:=by unfold uM;rw[hw];rfl
 refine⟨(WS q x m p.2).mpr ⟨hs1,by lia,w,hw⟩,?_,fun s hs hne=>?_⟩
 ·rw[hrow]
  have:w.1-15*(p.1:Int)+15*((q.length:Int)-(p.2.length:Int))=w.1:=by lia
  rw[this]
 ·obtain⟨g1,g2,v,hv⟩:=(WS q x m s).mp hs
  have hsl:=g1.length_le
  have hin:(q.length-s.length,s)∈itm q (min m q.length+1):=(Zf q _ _).mpr ⟨by show q.length-s.length<_;lia,UR q _ s g1 (by show s.length+(q.length-s.length)=_;lia)⟩
  have hrow2:uM q x s=YI q v s:=by unfold uM;rw[hv];rfl
  rw[hrow,hrow2]
  unfold uJ
  rw[jm,jm,zo3,zo3]
  have hval:v.1-15*((q.length-s.length:Nat):Int)≤w.1-15*(p.1:Int)∧(v.1-15*((q.length-s.length:Nat):Int)=w.1-15*(p.1:Int)→Ord p (q.length-s.length,s)):=by
   rw[e] at hin
   rcases mem_append.mp hin with hin|hin
   ·have:=k2 _ hin v hv
    exact⟨Int.le_of_lt this,fun z=>absurd z (Int.ne_of_lt this)⟩
   ·rcases mem_cons.mp hin with hin|hin
    ·exact absurd (congrArg (·.2) hin) hne
    ·exact⟨k3 _ hin v hv,fun _=>hup2 _ hin⟩
  have hpi:(p.1:Int)=(q.length:Int)-(p.2.length:Int):=by lia
  have hsi:((q.length-s.length:Nat):Int)=(q.length:Int)-(s.length:Int):=by lia
  rw[hsi,hpi] at hval
  generalize (q.length:Int)-(p.2.length:Int)=lp at *
  generalize hls:(q.length:Int)-(s.length:Int)=ls at *
  have hns:¬ mkS p.2=mkS s:=fun z=>hne (Yr z).symm
  have hns2:¬ mkS s=mkS p.2:=fun z=>hns z.symm
  by_cases e1:15*lp-w.1=15*ls-v.1
  ·have ord:=hval.2 (by lia)
   rw[if_pos e1,if_pos e1.symm]
   rcases ord with o|⟨o1,o2⟩
   ·have o':lp<ls:=by
     have:p.1<q.length-s.length:=o
     lia
    rw[if_neg (by lia),if_neg (by lia),decide_eq_true o',decide_eq_false (by lia)]
    exact⟨rfl,rfl⟩
   ·have o':lp=ls:=by
     have:p.1=q.length-s.length:=o1
     lia
    rw[if_pos o',if_pos o'.symm,if_neg hns,if_neg hns2]
    have h2:ltC (mkS s) (mkS p.2)=false:=o2
    have h1:ltC (mkS p.2) (mkS s)=true:=by
     cases z:ltC (mkS p.2) (mkS s) with
     |true=>rfl
     |false=>exact absurd (STW.leS_anti (show STW.leS (mkS s) (mkS p.2) from z) o2).symm hns
    rw[h1,h2];exact⟨rfl,rfl⟩
  ·rw[if_neg e1,if_neg (fun z=>e1 z.symm),decide_eq_true (by lia),decide_eq_false (by lia)]
   exact⟨rfl,rfl⟩
theorem XF{bt:Nat→Nat→Bool}{e:Nat}:∀n,e≤n→(∀i,i≤n→i≠e→bt e i=true∧bt i e=false)→argBest bt n=e:=fun n=>by
 induction n with
 |zero=>intro h _;show 0=e;lia
 |succ n ih=>
  intro h k
  unfold argBest
  by_cases z:e=n+1
  ·have hb:=XG bt n
   rw[← z,(k (argBest bt n) (by lia) (by lia)).1,if_pos rfl]
  ·rw[ih (by lia) fun i hi hne=>k i (by lia) hne,(k (n+1) (le_refl _) (fun y=>z y.symm)).2,if_neg (by simp)]
theorem GY(q x:List Nat)(m:Nat):jp (xC q x m)=true:=by
 unfold jp
 rw[all_eq_true]
 intro i hi
 rw[all_eq_true]
 intro j hj
 have hi:=mem_range.mp hi
 have hj:=mem_range.mp hj
 have hl:(xC q x m).length=(Ss q x m).length:=by unfold xC;rw[length_map]
 have gi:∀k,k<(Ss q x m).length→(xC q x m).getD k []=uM q x ((Ss q x m).getD k []):=fun k hk=>by
  unfold xC
  rw[getD_eq_getElem?_getD,getElem?_map,getElem?_eq_getElem hk];simp[hk]
 rw[gi i (by lia),gi j (by lia)]
 refine GZ q _ _ _ _ fun z=>?_
 have h1:i<(Ss q x m).length:=by lia
 have h2:j<(Ss q x m).length:=by lia
 have:(Ss q x m)[i]=(Ss q x m)[j]:=by simpa[h1,h2] using z
 have:=(List.getElem_inj (zg0 q x m)).mp this
 lia
theorem GX{q x:List Nat}{m:Nat}{t:Int×List Nat×List Nat}(h:ch q x m=some t):xC q x m≠[]∧mnT (xC q x m)=YI q (t.1+15*((q.length:Int)-(t.2.1.length:Int)),t.2.2) t.2.1:=by
 obtain⟨h1,h2,h3⟩:=Ts h
 have hl:(xC q x m).length=(Ss q x m).length:=by unfold xC;rw[length_map]
 have gi:∀k,k<(Ss q x m).length→(xC q x m).getD k []=uM q x ((Ss q x m).getD k []):=fun k hk=>by
  unfold xC
  rw[getD_eq_getElem?_getD,getElem?_map,getElem?_eq_getElem hk];simp[hk]
 obtain⟨e,he,hee⟩:=List.mem_iff_getElem.mp h1
 have hge:(Ss q x m).getD e []=t.2.1:=by simp[he,hee]
 refine⟨fun z=>?_,?_⟩
 ·rw[z] at hl;simp at hl;lia
 ·unfold mnT
  rw[XF (e:=e) ((xC q x m).length-1) (by lia) fun i hi hne=>?_]
  ·rw[gi e he,hge,h2]
  ·have hi':i<(Ss q x m).length:=by lia
   have hgi:(Ss q x m).getD i []=(Ss q x m)[i]:=by simp[hi']
   have hd:(Ss q x m)[i]≠t.2.1:=fun z=>by
    rw[← hee] at z
    exact hne ((List.getElem_inj (zg0 q x m)).mp z)
   obtain⟨a,b⟩:=h3 _ (getElem_mem hi') hd
   rw[gi e he,gi i hi',hge,hgi,a,b]
   exact⟨rfl,rfl⟩
theorem Wd{q x:List Nat}{m:Nat}(h:ch q x m=none):xC q x m=[]:=by
 unfold xC
 rw[List.map_eq_nil_iff]
 refine List.eq_nil_iff_forall_not_mem.mpr fun s hs=>?_
 obtain⟨g1,g2,w,hw⟩:=(WS q x m s).mp hs
 have hsl:=g1.length_le
 obtain⟨t,e,_⟩:=ch_ge q x m (q.length-s.length) s w g2 (by lia) (UR q _ s g1 (by lia)) hw
 rw[h] at e;cases e
theorem lst0{τ:DS}:xw zh τ=.ok (.lst []):=by
 rw[Zn,zM,Rs.bind_ok]
 exact if_pos (zero_le _)
theorem L7{α:Type}(f:Nat→α)(x:List Nat):x.map f=(List.range x.length).map fun k=>f (x.getD k 0):=by
 apply List.ext_getElem?
 intro i
 rw[getElem?_map,getElem?_map]
 by_cases hi:i<x.length
 ·rw[List.getElem?_range hi,getElem?_eq_getElem hi];simp[hi]
 ·rw[List.getElem?_eq_none (by simpa using hi),List.getElem?_eq_none (by simpa using hi)];rfl
theorem Qg(x:List Nat)(k:Nat)(h:k<x.length):x.take (k+1)=x.take k++[x.getD k 0]:=by
 rw[List.take_succ,getElem?_eq_getElem h]
 simp[h]
theorem T1(q:List Nat)(c:Nat)(h:q.length≤1000):zI (tx q) (zt c)=.ok (tx (q++[c])):=by
 show zI (.str ⟨q.toArray⟩) (.str ⟨#[c]⟩)=_
 rw[Vs (by rw[sizeLine_v];show q.toArray.size+1≤_;simp;lia),WR]
theorem T7:∀l:List (List Nat),uk (l.map tx)=some (l.map mkS):=fun l=>by
 induction l with
 |nil=>rfl
 |cons x l ih=>rw[map_cons,map_cons];show(uk (l.map tx)).map _=_;rw[ih];rfl
theorem VS(q:List Nat)(hq:q.length≤5):yq [tx q]=.ok (.lst ((rs q).map tx)):=by
 have st:zV 3 [tx q]=[some (.val (tx q)),none,none]:=rfl
 have hlen:∀k,(xD (q.take k)).length≤32:=fun k=>by
  rw[Wf]
  have h2:(q.take k).length≤5:=by rw[length_take];lia
  exact le_trans (Nat.pow_le_pow_right (by decide) h2) (by decide)
 have hrl:∀k,∀r∈xD (q.take k),r.length≤5:=fun k r hr=>by
  have:=((ZB (q.take k) r).mp hr).length_le
  rw[length_take] at this;lia
 unfold yq Zs
 rw[zY,st,yx (xb (Wo (fa:=eC (.str "")) rfl))]
 simp only[set_cons_succ,set_cons_zero]
 have it:xi (zc 0) [some (.val (tx q)),some (.val (.lst [.str ""])),none]=.ok ((List.range q.length).map fun k=>zt (q.getD k 0)):=by
  rw[← L7 zt q,Zj,ze (d:=tx q) rfl,Rs.bind_ok]
  show Rs.ok (um _)=_
  rw[VB]
 obtain⟨τ',lp,s3,rfl⟩:=jr (set:=gNm 2) (body:=(zB 1 (eOp zI (zc 1) (fun τ=>((xa 1 [2] (xi (zc 1)) (gNm 0) (fun _=>.ok true) (eOp zI (zc 0) (zc 1))) τ).bind fun ds=>.ok (.lst ds))))) (fun k=>zt (q.getD k 0))
  (fun k τ=>∃s3,τ=[some (.val (tx q)),some (.val (.lst ((xD (q.take k)).map tx))),s3]) q.length [some (.val (tx q)),some (.val (.lst [.str ""])),none] ⟨none,rfl⟩ fun k τ hk hI=>by
   obtain⟨s3,rfl⟩:=hI
   refine⟨[some (.val (tx q)),some (.val (.lst ((xD (q.take k)).map tx))),some (.val (zt (q.getD k 0)))],[some (.val (tx q)),some (.val (.lst ((xD (q.take (k+1))).map tx))),some (.val (zt (q.getD k 0)))],rfl,?_,_,rfl⟩
   generalize hc:q.getD k 0=c
   have cm:=vd (set:=gNm 0) (fe:=eOp zI (zc 0) (zc 1)) (τ:=[none,some (.val (zt c))]) tx tx (fun r=>r++[c]) (xD (q.take k)) fun r hr=>⟨_,vH,op2 (ze rfl) (ze rfl) (T1 r c (by have:=hrl k r hr;lia))⟩
   have hl2:=hlen k
   have ec:=wI (k:=1) (idx:=[2]) (fi:=xi (zc 1)) (τ:=[some (.val (tx q)),some (.val (.lst ((xD (q.take k)).map tx))),some (.val (zt c))]) rfl cm (by rw[length_map,length_map];lia)
   rw[xb (op2 (ze rfl) (b:=.lst (((xD (q.take k)).map fun r=>r++[c]).map tx)) (by simp only[ec,Rs.bind_ok]) (zs4 (by rw[length_map,length_map,length_map];lia)))]
   rw[Qg q k hk,jN,hc]
   unfold VR
   rw[map_append]
   rfl
 rw[yx (by rw[xP,it,Fl.of_ok];exact lp),List.take_length]
 have h0:=hlen q.length
 rw[List.take_length] at h0
 have e7:UO [.lst ((xD q).map tx)]=.ok ((rs q).map tx):=by
  unfold UO
  dsimp only
  rw[T7]
  dsimp only
  rw[if_pos (by rw[length_map];lia),rs_D]
 rw[ZC (d:=.lst ((rs q).map tx)) (by
  show(((za (zc 1) zh) [some (.val (tx q)),some (.val (.lst ((xD q).map tx))),s3]).bind UO).bind (fun ds=>Rs.ok (D.lst ds))=_
  rw[zf2 (a:=.lst ((xD q).map tx)) (ze rfl),Rs.bind_ok,e7,Rs.bind_ok])]
 rfl
noncomputable def slB:FS:=(zp (zB 5 (zo wn (za (zc 4) (za (zc 1) zh))))
  (zp (zB 6 (eOp yH (z7 yL (za (zc 0) zh)) (z7 yL (za (zc 4) zh))))
  (sIf (vm (FD.tB (eOp leD (zc 6) (zc 2))) (FD.tB (eOp xY (zc 5) (eC .non)))) (YH 3 (xu (za (eOp yH (eOp wP (eC (.int 15)) (zc 6)) (eOp ixD (zc 5) (eC (.int 0)))) (za (zc 6) (za (zc 4) (za (eOp ixD (zc 5) (eC (.int 1))) zh)))))) ya)))
theorem QV(o:Option Tl):xY (wK o) .non=.ok (.bl o.isSome):=by cases o <;> rfl
theorem tup4{fa fb fc fd:FE}{τ:DS}{a b c d:D}(h1:fa τ=.ok a)(h2:fb τ=.ok b)(h3:fc τ=.ok c)(h4:fd τ=.ok d):xu (za fa (za fb (za fc (za fd zh)))) τ=.ok (.tup [a,b,c,d]):=by
 rw[Vk,zq,h1,Rs.bind_ok,zq,h2,Rs.bind_ok,zq,h3,Rs.bind_ok,zq,h4,Rs.bind_ok,zM,Rs.bind_ok,Rs.bind_ok,Rs.bind_ok,Rs.bind_ok,Rs.bind_ok]
 exact if_pos (by rw[sizeLine_v];exact Nat.le_of_ble_eq_true rfl)
theorem TK{n:Nat}{fe:FE}{τ:DS}{ds:List D}{d:D}(h1:τ[n]?=some (some (.own ds)))(h2:fe τ=.ok d)(h3:ds.length≤1000):YH n fe τ=.nx (τ.set n (some (.own (ds++[d])))):=by
 rw[jl,h1,xW,Fl.of_ok,h2,Fl.of_ok,if_pos (by rw[sizeLine_v];lia)]
theorem Lf(q x s:List Nat)(m:Nat)(acc:List (List D))(s5 s6 s7:Option Sl)(hs:List.Sublist s q)(hq:q.length≤5)(hx:x.length≤10)(hl:acc.length≤1000) :
  ∃t5 t6,slB [some (.val (tx q)),some (.val (tx x)),some (.val (.int (m:Int))),some (.own (acc.map D.tup)),some (.val (tx s)),s5,s6,s7]=.nx [some (.val (tx q)),some (.val (tx x)),some (.val (.int (m:Int))),some (.own ((if okS q x m s=true then acc++[uM q x s] else acc).map D.tup)),some (.val (tx s)),t5,t6,s7]:=by
 have hsl:=hs.length_le
 unfold slB
 rw[yx (xb (ug (ze rfl) (ze rfl) (MI s x (by lia) hx)))]
 simp only[set_cons_succ,set_cons_zero]
 rw[yx (xb (op2 (v0 (ze rfl) (xG q (by lia))) (v0 (ze rfl) (xG s (by lia))) yY))]
 simp only[set_cons_succ,set_cons_zero]
 have t:vm (FD.tB (eOp leD (zc 6) (zc 2))) (FD.tB (eOp xY (zc 5) (eC .non))) [some (.val (tx q)),some (.val (tx x)),some (.val (.int (m:Int))),some (.own (acc.map D.tup)),some (.val (tx s)),some (.val (wK (yw s x))),some (.val (.int ((q.length:Int)-(s.length:Int)))),s7]=.ok (okS q x m s):=by
  unfold okS
  refine zi4 ?_ fun _=>xz (op2 (ze rfl) rfl (QV _))
  refine xz (op2 (ze rfl) (ze rfl) ?_)
  rw[leD_i]
  congr 2
  exact decide_eq_decide.mpr (by lia)
 cases hk:okS q x m s with
 |false=>
  rw[hk] at t
  rw[Jc t,if_neg (by simp)]
  exact⟨_,_,rfl⟩
 |true=>
  rw[hk] at t
  rw[if_t t,if_pos rfl]
  have hb:∃w,yw s x=some w:=by
   unfold okS at hk
   rw[Bool.and_eq_true] at hk
   exact Option.isSome_iff_exists.mp hk.2
  obtain⟨w,hw⟩:=hb
  have et:xu (za (eOp yH (eOp wP (eC (.int 15)) (zc 6)) (eOp ixD (zc 5) (eC (.int 0)))) (za (zc 6) (za (zc 4) (za (eOp ixD (zc 5) (eC (.int 1))) zh)))) [some (.val (tx q)),some (.val (tx x)),some (.val (.int (m:Int))),some (.own (acc.map D.tup)),some (.val (tx s)),some (.val (wK (yw s x))),some (.val (.int ((q.length:Int)-(s.length:Int)))),s7]=.ok (.tup (uM q x s)):=by
   unfold uM
   rw[hw]
   exact tup4 (op2 (op2 rfl (ze rfl) (vD (.inl ⟨by decide,by decide⟩))) (op2 (ze rfl) rfl (VE w)) yY) (ze rfl) (ze rfl) (op2 (ze rfl) rfl (VD w))
  rw[TK (ds:=acc.map D.tup) rfl et (by rw[length_map];exact hl),map_append]
  exact⟨_,_,rfl⟩
theorem Lg(q x:List Nat)(m:Nat)(hq:q.length≤5)(hx:x.length≤10)(s7:Option Sl):∀(S:List (List Nat)) (acc:List (List D)) (s4 s5 s6:Option Sl),(∀s∈S,List.Sublist s q)→acc.length+S.length≤1000 →
  ∃t4 t5 t6,yr (gNm 4) slB (S.map tx) [some (.val (tx q)),some (.val (tx x)),some (.val (.int (m:Int))),some (.own (acc.map D.tup)),s4,s5,s6,s7]=.nx [some (.val (tx q)),some (.val (tx x)),some (.val (.int (m:Int))),some (.own ((acc++(S.filter (okS q x m)).map (uM q x)).map D.tup)),t4,t5,t6,s7]:=fun S=>by
 induction S with
 |nil=>intro acc s4 s5 s6 _ _;exact⟨s4,s5,s6,by rw[List.filter_nil,map_nil,map_nil,append_nil];rfl⟩
 |cons s S ih=>
  intro acc s4 s5 s6 hS hl
  rw[length_cons] at hl
  obtain⟨t5,t6,h1⟩:=Lf q x s m acc s5 s6 s7 (hS s mem_cons_self) hq hx (by lia)
  obtain⟨u4,u5,u6,h2⟩:=ih (if okS q x m s=true then acc++[uM q x s] else acc) (some (.val (tx s))) t5 t6 (fun r hr=>hS r (mem_cons_of_mem _ hr)) (by
   split
   ·rw[length_append,length_singleton];lia
   ·lia)
  refine⟨u4,u5,u6,?_⟩
  rw[map_cons,yr,vH,Fl.of_ok]
  simp only[set_cons_succ,set_cons_zero,h1,h2,List.filter_cons]
  split <;> simp only[map_cons,append_assoc,List.singleton_append]
theorem Lo(q x:List Nat)(m:Nat)(hq:∀c∈q,c<128):gd 3 (.lst ((xC q x m).map D.tup)):=fun d hd=>by
 obtain⟨r,hr,rfl⟩:=mem_map.mp hd
 unfold xC at hr
 obtain⟨s,hs,rfl⟩:=mem_map.mp hr
 have hsq:=((WS q x m s).mp hs).1
 intro e he
 unfold uM YI at he
 simp only[mem_cons,not_mem_nil,or_false] at he
 rcases he with rfl|rfl|rfl|rfl
 ·trivial
 ·trivial
 ·refine M6 ?_
  simp[PyData.strOk]
  intro c hc
  have:=hq c (hsq.subset hc)
  lia
 ·intro f hf
  obtain⟨k,_,rfl⟩:=mem_map.mp hf
  trivial
theorem Gx(ts:List (List D)):uP (ts.map D.tup)=some ts:=by
 induction ts with
 |nil=>rfl
 |cons t ts ih=>rw[map_cons];show(uP (ts.map D.tup)).map _=_;rw[ih];rfl
theorem UM(q x:List Nat)(m:Nat)(hq:q.length≤5)(hx:x.length≤10)(ha:∀c∈q,c<128):y9 [tx q,tx x,.int (m:Int)]=.ok (chD (ch q x m)):=by
 have st:zV 8 [tx q,tx x,.int (m:Int)]=[some (.val (tx q)),some (.val (tx x)),some (.val (.int (m:Int))),none,none,none,none,none]:=rfl
 have hb:vL=(zp (vz 3 (fun τ=>(zh τ).bind fun ds=>if ds.length≤sizeLine then .ok ds else .no))
   (zp (wj (xi (zo yq (za (zc 0) zh))) (gNm 4) slB)
   (fun τ=>(zp (sIf (FD.tB (eOp eqD (zc 3) (xw zh))) (yh (eC .non)) ya)
   (zp (zB 7 (z7 Wl (za (zc 3) zh)))
   (yh (xu (za (eOp yH (eC (.int 0)) (eOp ixD (zc 7) (eC (.int 0)))) (za (eOp ixD (zc 7) (eC (.int 2))) (za (eOp ixD (zc 7) (eC (.int 3))) zh))))))) (uD τ)))):=by unfold vL slB;rfl
 unfold y9
 rw[hb,zY,st,yx (Jz (ds:=[]) (by rw[zM,Rs.bind_ok];exact if_pos (zero_le _)))]
 simp only[set_cons_succ,set_cons_zero]
 have it:xi (zo yq (za (zc 0) zh)) [some (.val (tx q)),some (.val (tx x)),some (.val (.int (m:Int))),some (.own []),none,none,none,none]=.ok ((rs q).map tx):=ZS (WI (ze rfl) (VS q hq))
 obtain⟨t4,t5,t6,lp⟩:=Lg q x m hq hx none (rs q) [] none none none (fun s hs=>(ZA q s).mp hs) (by have:=GW q hq;simp;lia)
 rw[nil_append] at lp
 have lp':wj (xi (zo yq (za (zc 0) zh))) (gNm 4) slB [some (.val (tx q)),some (.val (tx x)),some (.val (.int (m:Int))),some (.own []),none,none,none,none]=.nx [some (.val (tx q)),some (.val (tx x)),some (.val (.int (m:Int))),some (.own ((xC q x m).map D.tup)),t4,t5,t6,none]:=by
  rw[xP,it,Fl.of_ok];exact lp
 rw[yx lp']
 have hz:uD [some (.val (tx q)),some (.val (tx x)),some (.val (.int (m:Int))),some (.own ((xC q x m).map D.tup)),t4,t5,t6,none]=some (.val (tx q))::some (.val (tx x))::some (.val (.int (m:Int)))::some (.val (.lst ((xC q x m).map D.tup)))::uD [t4,t5,t6,none]:=rfl
 have hz2:∃a b c,uD [t4,t5,t6,none]=[a,b,c,none]:=⟨_,_,_,rfl⟩
 obtain⟨a,b,c,hz2⟩:=hz2
 show jd ((zp (sIf (FD.tB (eOp eqD (zc 3) (xw zh))) (yh (eC .non)) ya) _) (uD _))=_
 rw[hz,hz2]
 have te:FD.tB (eOp eqD (zc 3) (xw zh)) [some (.val (tx q)),some (.val (tx x)),some (.val (.int (m:Int))),some (.val (.lst ((xC q x m).map D.tup))),a,b,c,none]=.ok (xC q x m).isEmpty:=by
  refine xz (op2 (ze rfl) lst0 ?_)
  rw[zq8 _ (Vh (Lo q x m ha) (by decide)).1]
  cases xC q x m <;> rfl
 cases hc:ch q x m with
 |none=>
  rw[Wd hc] at te
  rw[Wd hc,zG,if_t te,zT]
  rfl
 |some t=>
  obtain⟨hne,hmn⟩:=GX hc
  have hem:(xC q x m).isEmpty=false:=by
   cases h:xC q x m with
   |nil=>exact absurd h hne
   |cons _ _=>rfl
  rw[hem] at te
  rw[yx (Jc te)]
  have e7:Wl [.lst ((xC q x m).map D.tup)]=.ok (.tup (YI q (t.1+15*((q.length:Int)-(t.2.1.length:Int)),t.2.2) t.2.1)):=by
   unfold Wl
   dsimp only
   rw[Gx]
   dsimp only
   rw[if_pos ⟨hne,GY q x m⟩,hmn]
  rw[yx (xb (v0 (ze rfl) e7))]
  simp only[set_cons_succ,set_cons_zero]
  have hlast:xu (za (eOp yH (eC (.int 0)) (eOp ixD (zc 7) (eC (.int 0)))) (za (eOp ixD (zc 7) (eC (.int 2))) (za (eOp ixD (zc 7) (eC (.int 3))) zh))) [some (.val (tx q)),some (.val (tx x)),some (.val (.int (m:Int))),some (.val (.lst ((xC q x m).map D.tup))),a,b,c,some (.val (.tup (YI q (t.1+15*((q.length:Int)-(t.2.1.length:Int)),t.2.2) t.2.1)))]=.ok (chD (some t)):=by
   refine T3 (op2 rfl (op2 (ze rfl) rfl rfl) ?_) (op2 (ze rfl) rfl rfl) (op2 (ze rfl) rfl rfl)
   rw[yY]
   congr 2
   dsimp only
   lia
  rw[ZC hlast]
  rfl
noncomputable def ftE:FE:=fun τ=>((xa 1 [6] (xi (zo yq (za (zc 2) zh))) (gNm 0) (FD.tB (eOp neD (zo yc (za (zc 0) (za (zc 1) zh))) (xw zh))) (z7 yL (za (zc 0) zh))) τ).bind fun ds=>.ok (.lst ds)
noncomputable def flS:FS:=yh (eC (.bl false))
noncomputable def g1T:FT:=(FD.tB (eOp neD (zo xr (za (zc 2) (za (zc 6) zh))) (eOp yH (z7 yL (za (zc 2) zh)) (z7 Wm (za (zc 7) zh)))))
noncomputable def slE:FE:=(zo y9 (za (zc 2) (za (zc 6) (za (zc 3) zh))))
noncomputable def g2T:FT:=(FD.tB (eOp neD (zo zX (za (zc 2) (za (zc 6) (za (zc 3) zh)))) (zc 8)))
noncomputable def apS:FS:=(sIf (FD.tB (eOp xY (zc 8) (eC .non))) (YH 4 (xu (za (eOp ixD (zc 8) (eC (.int 0))) (za (zc 5) zh)))) ya)
noncomputable def lwB:FS:=(zp (zB 7 ftE) (zp (sIf g1T flS ya) (zp (zB 8 slE) (zp (sIf g2T flS ya) apS))))
noncomputable def laE:FE:=(Xw (eOp eqD (zo zR (za (zc 1) (za (zc 2) (za (zc 3) (za (eC (.int 99)) zh))))) (zc 4)) (eOp eqD (zo zR (za (zc 1) (za (zc 2) (za (zc 3) (za (eC (.int 2)) zh))))) (eSl (zc 4) uX (wM (eC (.int 2))))))
theorem law_b:TF=(zp (zB 1 (zo xV (za (zc 0) (za (eC (.int 0)) (za (eC (.int 4)) zh)))))
  (zp (zB 2 (qE 80 79 4))
  (zp (zB 3 (zo zr (za (zc 0) (za (eC (.int 78)) (za (eC (.int 3)) zh)))))
  (zp (vz 4 (fun τ=>(zh τ).bind fun ds=>if ds.length≤sizeLine then .ok ds else .no))
  (zp (wj (iEn (za (zc 1) zh)) (gPr 5 6) lwB)
  (fun τ=>(zp (zB 4 (zo xt (za (zc 1) (za (zc 4) zh)))) (yh laE)) (uD τ))))))):=by
 unfold TF qE lwB ftE g1T flS slE g2T apS laE;rfl
section
variable{ns:List Int}{X:List (List Nat)}{q x:List Nat}{m:Nat}
noncomputable abbrev Z9(ns:List Int)(X:List (List Nat))(q:List Nat)(m:Nat)(acc:List Rw)(s5 s6 s7 s8:Option Sl):DS:=[some (.val (.scr ns)),some (.val (.lst (X.map tx))),some (.val (tx q)),some (.val (.int (m:Int))),some (.own (acc.map wt)),s5,s6,s7,s8]
theorem ft_ok(acc:List Rw)(i:Nat)(s7 s8:Option Sl)(hq:q.length≤5)(hx:x.length≤10):ftE (Z9 ns X q m acc (some (.val (.int (i:Int)))) (some (.val (tx x))) s7 s8)=.ok (.lst (((jU q x).map fun s=>(s.length:Int)).map D.int)):=by
 have cf:=ve (set:=gNm 0) (ft:=FD.tB (eOp neD (zo yc (za (zc 0) (za (zc 1) zh))) (xw zh))) (fe:=z7 yL (za (zc 0) zh)) (τ:=[none,some (.val (tx x))]) tx (fun s=>D.int (s.length:Int)) (fun s=>wY s x) (rs q) fun s hs=>by
  have hsl:=((ZA q s).mp hs).length_le
  refine⟨[some (.val (tx s)),some (.val (tx x))],rfl,?_,v0 (ze rfl) (xG s (by lia))⟩
  refine xz (op2 (ug (ze rfl) (ze rfl) (JR s x (by lia) hx)) lst0 ?_)
  rw[Mx _ (okD_lays2 (vF s x))]
  have e:((vF s x).map nts).isEmpty=(vF s x).isEmpty:=by cases vF s x <;> rfl
  rw[e,QO,Bool.not_not]
 have hl:=GW q hq
 have ec:=wI (k:=1) (idx:=[6]) (τ:=Z9 ns X q m acc (some (.val (.int (i:Int)))) (some (.val (tx x))) s7 s8) (ZS (WI (fa:=zc 2) (ze rfl) (VS q hq))) cf (by rw[length_map];exact le_trans (length_filter_le _ _) (by lia))
 unfold ftE
 simp only[ec,Rs.bind_ok]
 unfold jU
 rw[map_map];rfl
where
 okD_lays2 (ls:List (List Nat)):okD (.lst (ls.map nts))=true:=by
  have h:gd 2 (.lst (ls.map nts)):=fun d hd=>by
   obtain⟨l,_,rfl⟩:=mem_map.mp hd
   intro e he
   obtain⟨k,_,rfl⟩:=mem_map.mp he
   trivial
  exact(Vh h (by decide)).1
theorem Q0(l:List Int):Xh (l.map D.int)=some l:=by
 induction l with
 |nil=>rfl
 |cons i l ih=>rw[map_cons];show(Xh (l.map D.int)).map _=_;rw[ih];rfl
theorem zn8(q x:List Nat):Wm [.lst (((jU q x).map fun s=>(s.length:Int)).map D.int)]=.ok (.int ((q.length:Int)-(lst q x:Int))):=by
 obtain⟨h1,h2⟩:=zd3 q x
 unfold Wm lq1
 dsimp only
 rw[Q0]
 dsimp only
 rw[if_neg h1,h2]
theorem ch_gd{q x:List Nat}{m:Nat}(ha:∀c∈q,c<128):gd 2 (chD (ch q x m)):=by
 cases h:ch q x m with
 |none=>trivial
 |some t=>
  have hs:=(zr5 q x m t h).2.2
  intro e he
  simp only[mem_cons,not_mem_nil,or_false] at he
  rcases he with rfl|rfl|rfl
  ·trivial
  ·refine M6 ?_
   simp[PyData.strOk]
   intro c hc
   have:=ha c (hs.subset hc)
   lia
  ·intro f hf
   obtain⟨k,_,rfl⟩:=mem_map.mp hf
   trivial
theorem ne_ch{q x:List Nat}{m:Nat}(ha:∀c∈q,c<128):neD (chD (ch q x m)) (chD (ch q x m))=.ok (.bl false):=by
 have h:=ch_gd (x:=x) (m:=m) ha
 cases e:ch q x m with
 |none=>rfl
 |some t=>
  rw[e] at h
  exact zn4 h (by decide)
theorem L8(acc:List Rw)(i:Nat)(s7 s8:Option Sl)(h:QX q x)(hx:x.length≤10)(hm:m≤100)(hl:acc.length≤1000) :
  ∃t7 t8,lwB (Z9 ns X q m acc (some (.val (.int (i:Int)))) (some (.val (tx x))) s7 s8)=.nx (Z9 ns X q m (acc++(orS q m (x,i)).toList) (some (.val (.int (i:Int)))) (some (.val (tx x))) t7 t8):=by
 unfold lwB
 rw[yx (xb (ft_ok acc i s7 s8 h.q5 hx))]
 show ∃t7 t8,zp _ _ (Z9 ns X q m acc (some (.val (.int (i:Int)))) (some (.val (tx x))) (some (.val (.lst (((jU q x).map fun s=>(s.length:Int)).map D.int)))) s8)=_
 have t1:g1T (Z9 ns X q m acc (some (.val (.int (i:Int)))) (some (.val (tx x))) (some (.val (.lst (((jU q x).map fun s=>(s.length:Int)).map D.int)))) s8)=.ok false:=by
  unfold g1T
  refine xz (op2 (ug (ze rfl) (ze rfl) (MG h)) (op2 (v0 (ze rfl) (xG q (by have:=h.q5;lia))) (v0 (ze rfl) (zn8 q x)) yY) ?_)
  rw[neD_i]
  congr 2
  have:(q.length:Int)-((q.length:Int)-(lst q x:Int))=(lst q x:Int):=by lia
  rw[this];simp
 have es:slE (Z9 ns X q m acc (some (.val (.int (i:Int)))) (some (.val (tx x))) (some (.val (.lst (((jU q x).map fun s=>(s.length:Int)).map D.int)))) s8)=.ok (chD (ch q x m)):=vU (ze rfl) (ze rfl) (ze rfl) (UM q x m h.q5 hx h.qs)
 rw[yx (Jc t1),yx (xb es)]
 show ∃t7 t8,zp _ _ (Z9 ns X q m acc (some (.val (.int (i:Int)))) (some (.val (tx x))) (some (.val (.lst (((jU q x).map fun s=>(s.length:Int)).map D.int)))) (some (.val (chD (ch q x m)))))=_
 have t2:g2T (Z9 ns X q m acc (some (.val (.int (i:Int)))) (some (.val (tx x))) (some (.val (.lst (((jU q x).map fun s=>(s.length:Int)).map D.int)))) (some (.val (chD (ch q x m)))))=.ok false:=by
  unfold g2T
  exact xz (op2 (vU (ze rfl) (ze rfl) (ze rfl) (Tv h m hm)) (ze rfl) (ne_ch h.qs))
 rw[yx (Jc t2)]
 unfold apS
 have t3:FD.tB (eOp xY (zc 8) (eC .non)) (Z9 ns X q m acc (some (.val (.int (i:Int)))) (some (.val (tx x))) (some (.val (.lst (((jU q x).map fun s=>(s.length:Int)).map D.int)))) (some (.val (chD (ch q x m)))))=.ok (ch q x m).isSome:=xz (op2 (ze rfl) rfl (Uf _))
 unfold orS
 cases e:ch q x m with
 |none=>
  rw[e] at t3
  rw[Jc t3]
  refine⟨some (.val (.lst (((jU q x).map fun s=>(s.length:Int)).map D.int))),some (.val (chD none)),?_⟩
  show _=Fl.nx (Z9 ns X q m (acc++[]) _ _ _ _)
  rw[append_nil]
 |some t=>
  rw[e] at t3
  rw[if_t t3]
  rw[TK (ds:=acc.map wt) (d:=wt (t.1,i)) rfl (WP (op2 (ze rfl) rfl (zr6 t)) (ze rfl)) (by rw[length_map];exact hl)]
  refine⟨some (.val (.lst (((jU q x).map fun s=>(s.length:Int)).map D.int))),some (.val (chD (some t))),?_⟩
  show _=Fl.nx (Z9 ns X q m (acc++[(t.1,i)]) _ _ _ _)
  unfold Z9
  rw[map_append];rfl
theorem L9(hm:m≤100):∀(L:List (List Nat×Nat)) (acc:List Rw) (s5 s6 s7 s8:Option Sl),(∀p∈L,QX q p.1∧p.1.length≤10)→acc.length+L.length≤1000 →
  ∃t5 t6 t7 t8,yr (gPr 5 6) lwB (L.map fun p=>D.tup [.int (p.2:Int),tx p.1]) (Z9 ns X q m acc s5 s6 s7 s8)=.nx (Z9 ns X q m (acc++L.filterMap (orS q m)) t5 t6 t7 t8):=fun L=>by
 induction L with
 |nil=>intro acc s5 s6 s7 s8 _ _;exact⟨s5,s6,s7,s8,by rw[List.filterMap_nil,append_nil];rfl⟩
 |cons p L ih=>
  intro acc s5 s6 s7 s8 hL hl
  rw[length_cons] at hl
  obtain⟨h1,h2⟩:=hL p mem_cons_self
  obtain⟨t7,t8,e1⟩:=L8 (ns:=ns) (X:=X) acc p.2 s7 s8 h1 h2 hm (by lia)
  have hle:(acc++(orS q m (p.1,p.2)).toList).length+L.length≤1000:=by
   rw[length_append]
   have:(orS q m (p.1,p.2)).toList.length≤1:=by cases orS q m (p.1,p.2) <;> simp
   lia
  obtain⟨u5,u6,u7,u8,e2⟩:=ih (acc++(orS q m (p.1,p.2)).toList) (some (.val (.int (p.2:Int)))) (some (.val (tx p.1))) t7 t8 (fun r hr=>hL r (mem_cons_of_mem _ hr)) hle
  refine⟨u5,u6,u7,u8,?_⟩
  rw[map_cons,yr]
  show Fl.of (Rs.ok (Z9 ns X q m acc (some (.val (.int (p.2:Int)))) (some (.val (tx p.1))) s7 s8)) _=_
  rw[Fl.of_ok]
  simp only[e1,e2]
  have:(p.1,p.2)=p:=rfl
  rw[this,append_assoc]
  congr 3
  rw[filterMap_cons]
  cases orS q m p <;> rfl
end
theorem zd9(ds:List D):FD.cutD ds none (some 2)=ds.take 2:=by
 unfold FD.cutD
 have:=HT.sIx_nat ds.length ds.length 2
 rw[HT.sIx_none]
 show((ds.drop 0).take (HT.sIx ds.length ds.length (some ((2:Nat):Int))-0))=_
 rw[this,drop_zero,Nat.sub_zero]
 by_cases h:2≤ds.length
 ·rw[Nat.min_eq_left h]
 ·rw[Nat.min_eq_right (by lia),take_of_length_le (le_refl _),take_of_length_le (by lia)]
theorem law84(ns:List Int)(h63:ns.length≤63):V5 [.scr ns]=.ok (.bl true):=by
 have st:zV 9 [D.scr ns]=[some (.val (.scr ns)),none,none,none,none,none,none,none,none]:=rfl
 obtain⟨X,hX,hl0,hok⟩:=My ns 0 4 h63 (by decide) (by decide) (by decide) (by decide)
 have hl:X.length≤4:=by lia
 obtain⟨q,hq4,hqs,hqE⟩:=qE_ok ns X 80 79 4 h63 (by decide) (by decide) (by decide) (by decide) (by decide) (by decide) hok (by lia) [none,none,none,none,none,none,none]
 have hq5:q.length≤5:=by lia
 have h128:∀c∈QS,c<128:=by decide
 have ha:∀c∈q,c<128:=fun c hc=>h128 c (hqs c hc)
 have dk:=wV ns 78 3 h63 (by decide) (by decide) (by decide)
 have dl:=wW ns 78 (m:=3) (by decide)
 obtain⟨m,hm⟩:∃m:Nat,wx ns 78 3=(m:Int):=⟨(wx ns 78 3).toNat,by lia⟩
 rw[hm] at dk dl
 have hm2:m≤100:=by lia
 have hX1000:∀x∈X,x.length≤1000:=fun x hx=>by have:=(hok x hx).2.1;lia
 unfold V5
 rw[law_b,zY,st,yx (xb (vU (ze rfl) rfl rfl hX))]
 simp only[set_cons_succ,set_cons_zero]
 rw[yx (xb hqE)]
 simp only[set_cons_succ,set_cons_zero]
 rw[yx (xb (vU (ze rfl) rfl rfl dk))]
 simp only[set_cons_succ,set_cons_zero]
 rw[yx (Jz (ds:=[]) (by rw[zM,Rs.bind_ok];exact if_pos (zero_le _)))]
 simp only[set_cons_succ,set_cons_zero]
 have it:iEn (za (zc 1) zh) [some (.val (.scr ns)),some (.val (.lst (X.map tx))),some (.val (tx q)),some (.val (.int (m:Int))),some (.own []),none,none,none,none]=.ok (X.zipIdx.map fun p=>D.tup [.int (p.2:Int),tx p.1]):=by
  unfold iEn
  rw[zf2 (ze rfl),Rs.bind_ok]
  show Rs.ok (yN 0 _)=_
  rw[Xu]
 obtain⟨t5,t6,t7,t8,lp⟩:=L9 (ns:=ns) (X:=X) (q:=q) hm2 X.zipIdx [] none none none none (fun p hp=>by
  have hp1:p.1∈X:=by
   obtain⟨a,b⟩:=p
   exact(List.mem_zipIdx' hp).2 ▸ getElem_mem _
  have:=(hok p.1 hp1).2.1
  exact⟨⟨hq5,ha,by lia⟩,this⟩) (by rw[List.length_zipIdx,length_nil];lia)
 rw[nil_append] at lp
 have fr:wj (iEn (za (zc 1) zh)) (gPr 5 6) lwB [some (.val (.scr ns)),some (.val (.lst (X.map tx))),some (.val (tx q)),some (.val (.int (m:Int))),some (.own []),none,none,none,none]=.nx (Z9 ns X q m (sR X q m) t5 t6 t7 t8):=by
  rw[xP,it,Fl.of_ok];exact lp
 rw[yx fr]
 have hz:∃a b c d,uD (Z9 ns X q m (sR X q m) t5 t6 t7 t8)=[some (.val (.scr ns)),some (.val (.lst (X.map tx))),some (.val (tx q)),some (.val (.int (m:Int))),some (.val (.lst ((sR X q m).map wt))),a,b,c,d]:=⟨_,_,_,_,rfl⟩
 obtain⟨a,b,c,d,hz⟩:=hz
 show jd (zp _ _ (uD _))=_
 have hrs:=GV X q m hX1000 (by lia)
 rw[hz,yx (xb (ug (ze rfl) (ze rfl) (U5 X (sR X q m) hrs)))]
 simp only[set_cons_succ,set_cons_zero]
 have f99:=M8 X q m 99 hm2 hq5 ha hX1000 (by lia)
 have f2:=M8 X q m 2 hm2 hq5 ha hX1000 (by lia)
 have hlen:(vn (vG X) (sR X q m)).length≤99:=by
  have h1:=(YC (vG X) (sR X q m)).length_eq
  have:=hrs.few
  lia
 rw[take_of_length_le hlen] at f99
 generalize vn (vG X) (sR X q m)=Rr at *
 have e1:eOp eqD (zo zR (za (zc 1) (za (zc 2) (za (zc 3) (za (eC (.int 99)) zh))))) (zc 4) [some (.val (.scr ns)),some (.val (.lst (X.map tx))),some (.val (tx q)),some (.val (.int (m:Int))),some (.val (.lst (Rr.map wt))),a,b,c,d]=.ok (.bl true):=op2 (Jl (ze rfl) (ze rfl) (ze rfl) rfl f99) (ze rfl) (J2 (JY Rr) (by decide))
 have e2:eOp eqD (zo zR (za (zc 1) (za (zc 2) (za (zc 3) (za (eC (.int 2)) zh))))) (eSl (zc 4) uX (wM (eC (.int 2)))) [some (.val (.scr ns)),some (.val (.lst (X.map tx))),some (.val (tx q)),some (.val (.int (m:Int))),some (.val (.lst (Rr.map wt))),a,b,c,d]=.ok (.bl true):=by
  refine op2 (Jl (ze rfl) (ze rfl) (ze rfl) rfl f2) (b:=.lst ((Rr.take 2).map wt)) ?_ (J2 (JY (Rr.take 2)) (by decide))
  show Rs.ok (D.lst (FD.cutD (Rr.map wt) none (some 2)))=_
  rw[zd9,List.map_take]
 rw[ZC (d:=.bl true) (by unfold laE;rw[Zq,e1,Rs.bind_ok,wo,Rs.bind_ok,if_pos rfl,e2])]
 rfl
theorem main:∀ns:List Int,ns.length≤63→V5 [.scr ns]=.ok (.bl true):=law84
set_option maxHeartbeats 4000000
noncomputable def top(i:Nat):Stmt:=PySem.Challenge.pw_fewfind_k84_slips.main.body.getD i (.Pass ⟨0,0,0,0⟩)
section
variable{P:Program}{w:World}{K:Frag}{mg:Str→Option Value}{base:Heap}
noncomputable abbrev wf:Stmt:=top 36
theorem WW:zQ ["_law_script", "_law_k"] ["_law_script", "_law_k"] (zl wf):=⟨rfl,rfl,rfl,by decide +kernel,rfl,by decide +kernel,by decide +kernel⟩
theorem W9{f:Addr}{fd:FuncData}(A_:zS K mg "_law_cell" wf f fd)(z_len:mg "len" = none):DefOk P w K mg base "_law_cell" 1 2 ["_law_script", "_law_k"] wD:=by
 refine DefOk.mk (k:=0) A_ WW rfl (fun _ _ _ _ _ _ us hl=>by obtain⟨_,_,rfl⟩:=lnz2 hl;rfl) (fun cdv A outer s H E hr=>?_) fun _ _ _ h=>h
 exact(zk (yT (zW (xR hr.units) (zb (pv 0)) (x8 zi) (yb _)) (zm (zP (zn x9 zj (zb (pv 1))))) yj) (zm (zP (zn zD (zK z8 (zb (pv 0)) (zn jo (zb (pv 1)) (zF xv rfl z_len PySem.boot_len (zd (zb (pv 0)) zi)))) (zn x9 zj (zn Za (zb (pv 1)) (zF xv rfl z_len PySem.boot_len (zd (zb (pv 0)) zi))))))))
noncomputable abbrev xN:Stmt:=top 37
theorem sc__law_drawn:zQ ["_law_script", "_law_k", "_law_many", "_law_cell_here"] ["_law_script", "_law_k", "_law_many"] (zl xN):=⟨rfl,rfl,rfl,by decide +kernel,rfl,by decide +kernel,by decide +kernel⟩
theorem XX{f:Addr}{fd:FuncData}(A_:zS K mg "_law_drawn" xN f fd)(h__law_cell:DefOk P w K mg base "_law_cell" 1 2 ["_law_script", "_law_k"] wD):DefOk P w K mg base "_law_drawn" 2 3 ["_law_script", "_law_k", "_law_many"] zr:=by
 refine DefOk.mk (k:=1) A_ sc__law_drawn rfl (fun _ _ _ _ _ _ us hl=>by obtain⟨_,_,_,rfl⟩:=lnz3 hl;rfl) (fun cdv A outer s H E hr=>?_) fun _ _ _ h=>h
 exact(zk (zy (i:=3) sc__law_drawn.nd rfl (Or.inl rfl) (zn jo (zn zD (zn x9 (zn jo (zC h__law_cell (hr.mono (by decide)) (zd (zb (pv 0)) (zd (zb (pv 1)) zi)) (zg (zg zu))) zj) zj) (zn x9 zj (zn zD (zb (pv 1)) zj))) zj)) (zk (zy (i:=3) sc__law_drawn.nd rfl (Or.inl rfl) (zn jo (zn zD (zn x9 (zb (pv 3)) (zb (pv 3))) (zn Za (zb (pv 3)) zj)) zj)) (zm (zP (zn jo (zn Za (zn jo (zn zD (zn x9 (zb (pv 3)) (zb (pv 3))) (zn Za (zb (pv 3)) zj)) zj) zj) (zb (pv 2)))))))
noncomputable abbrev wc:Stmt:=top 38
theorem sc__law_name:zQ ["_law_script", "_law_at", "_law_found_here", "_law_k"] ["_law_script", "_law_at"] (zl wc):=⟨rfl,rfl,rfl,by decide +kernel,rfl,by decide +kernel,by decide +kernel⟩
theorem W7{f:Addr}{fd:FuncData}(A_:zS K mg "_law_name" wc f fd)(h__law_drawn:DefOk P w K mg base "_law_drawn" 2 3 ["_law_script", "_law_k", "_law_many"] zr)(z_range:mg "range" = none):DefOk P w K mg base "_law_name" 3 2 ["_law_script", "_law_at"] xE:=by
 refine DefOk.mk (k:=2) A_ sc__law_name rfl (fun _ _ _ _ _ _ us hl=>by obtain⟨_,_,rfl⟩:=lnz2 hl;rfl) (fun cdv A outer s H E hr=>?_) fun _ _ _ h=>h
 exact(zk (zy (i:=2) sc__law_name.nd rfl (Or.inl rfl) x6) (zk (xQ PassesOwn.never rfl (wk rfl z_range (zd (zn zD zj (zC h__law_drawn (hr.mono (by decide)) (zd (zb (pv 0)) (zd (zb (pv 1)) (zd zj zi))) (zg (zg (zg zu))))) zi)) (yk sc__law_name.nd rfl (Or.inl rfl)) (zm (zy (i:=2) sc__law_name.nd rfl (Or.inl rfl) (zn zD (zb (pv 2)) (zK z8 x6 (zC h__law_drawn (hr.mono (by decide)) (zd (zb (pv 0)) (zd (zn zD (zn zD (zb (pv 1)) zj) (zb (pv 3))) (zd zj zi))) (zg (zg (zg zu))))))))) (zm (zP (zb (pv 2))))))
noncomputable abbrev xL:Stmt:=top 40
theorem sc__law_names:zQ ["_law_script", "_law_at", "_law_most", "_law_found_here"] ["_law_script", "_law_at", "_law_most"] (zl xL):=⟨rfl,rfl,rfl,by decide +kernel,rfl,by decide +kernel,by decide +kernel⟩
theorem XV{f:Addr}{fd:FuncData}(A_:zS K mg "_law_names" xL f fd)(h__law_drawn:DefOk P w K mg base "_law_drawn" 2 3 ["_law_script", "_law_k", "_law_many"] zr)(h__law_name:DefOk P w K mg base "_law_name" 3 2 ["_law_script", "_law_at"] xE)(z_len:mg "len" = none)(z_range:mg "range" = none):DefOk P w K mg base "_law_names" 4 3 ["_law_script", "_law_at", "_law_most"] xV:=by
 refine DefOk.mk (k:=3) A_ sc__law_names rfl (fun _ _ _ _ _ _ us hl=>by obtain⟨_,_,_,rfl⟩:=lnz3 hl;rfl) (fun cdv A outer s H E hr=>?_) fun _ _ _ h=>h
 exact(zk (Qw (i:=3) sc__law_names.nd rfl rfl rfl (tn:=["_law_k"]) (fr:=["_law_script", "_law_at"]) (idx:=[0,1]) rfl rfl ⟨rfl,rfl,⟨rfl,rfl,trivial⟩⟩ (wG 0) (wk rfl z_range (zd (zC h__law_drawn (hr.mono (by decide)) (zd (zb (pv 0)) (zd (zb (pv 1)) (zd (zn zD (zb (pv 2)) zj) zi))) (zg (zg (zg zu)))) zi)) (fun s H C fp=>(yk (show List.Nodup (["_law_k", "_law_script", "_law_at"]:List Str) by decide +kernel) rfl (Or.inl rfl))) (fun s H C fp=>vB) (fun s H C fp=>(zC h__law_name (hr.mono (by decide)) (zd (zb (pv 1)) (zd (zn zD (zn zD (zb (pv 2)) zj) (zn x9 zj (zb (pv 0)))) zi)) (zg (zg zu))))) (zk (yT (j4 (j3 (zW YW (YT (pv 3) rfl z_len) zj (yb _)) (uU (zW (xR hr.units) (zC h__law_drawn (hr.mono (by decide)) (zd (zb (pv 0)) (zd (zn zD (zb (pv 1)) zj) (zd zj zi))) (zg (zg (zg zu)))) zj (yb _))))) (zm (LK (pv 3) zj (LM (pv 3) (vQ zj)))) yj) (zm (YO (pv 3)))))
noncomputable abbrev we:Stmt:=top 39
theorem WV:zQ ["_law_sign"] ["_law_sign"] (zl we):=⟨rfl,rfl,rfl,by decide +kernel,rfl,by decide +kernel,by decide +kernel⟩
theorem W8{f:Addr}{fd:FuncData}(A_:zS K mg "_law_mark" we f fd):DefOk P w K mg base "_law_mark" 1 1 ["_law_sign"] xF:=by
 refine DefOk.mk (k:=0) A_ WV rfl (fun _ _ _ _ _ _ us hl=>by obtain⟨_,rfl⟩:=lnz1 hl;rfl) (fun cdv A outer s H E hr=>?_) fun _ _ _ h=>h
 exact(zm (zP (wu (vX (wT hr)) (zb (pv 0)) x6 (by with_unfolding_all rfl))))
noncomputable abbrev xK:Stmt:=top 41
theorem sc__law_query:zQ ["_law_script", "_law_at", "_law_name_here", "_law_most", "_law_found_here", "_law_place", "_law_k", "_law_sign"] ["_law_script", "_law_at", "_law_name_here", "_law_most"] (zl xK):=⟨rfl,rfl,rfl,by decide +kernel,rfl,by decide +kernel,by decide +kernel⟩
theorem XU{f:Addr}{fd:FuncData}(A_:zS K mg "_law_query" xK f fd)(h__law_drawn:DefOk P w K mg base "_law_drawn" 2 3 ["_law_script", "_law_k", "_law_many"] zr)(h__law_mark:DefOk P w K mg base "_law_mark" 1 1 ["_law_sign"] xF)(z_range:mg "range" = none)(z_len:mg "len" = none)(z_min:mg "min" = none):DefOk P w K mg base "_law_query" 3 4 ["_law_script", "_law_at", "_law_name_here", "_law_most"] xU:=by
 refine DefOk.mk (k:=2) A_ sc__law_query rfl (fun _ _ _ _ _ _ us hl=>by obtain⟨_,_,_,_,rfl⟩:=lnz4 hl;rfl) (fun cdv A outer s H E hr=>?_) fun _ _ _ h=>h
 exact(zk (zy (i:=4) sc__law_query.nd rfl (Or.inl rfl) x6) (zk (zy (i:=5) sc__law_query.nd rfl (Or.inl rfl) zj) (zk (xQ PassesOwn.never rfl (wk rfl z_range (zd (zC h__law_drawn (hr.mono (by decide)) (zd (zb (pv 0)) (zd (zb (pv 1)) (zd (zn zD (zb (pv 3)) zj) zi))) (zg (zg (zg zu)))) zi)) (yk sc__law_query.nd rfl (Or.inl rfl)) (zk (zy (i:=5) sc__law_query.nd rfl (Or.inl rfl) (zF (jw rfl) rfl z_min boot_min (zd (zn yK (zF xv rfl z_len PySem.boot_len (zd (zb (pv 2)) zi)) zj) (zd (zn zD (zb (pv 5)) (zC h__law_drawn (hr.mono (by decide)) (zd (zb (pv 0)) (zd (zn zD (zn zD (zb (pv 1)) zj) (zn x9 zj (zb (pv 6)))) (zd zj zi))) (zg (zg (zg zu))))) zi)))) (zk (zy (i:=7) sc__law_query.nd rfl (Or.inl rfl) (Qz (UY (YS (zb (pv 2)) (v9 (zb (pv 5))) (v9 (zn zD (zb (pv 5)) zj))) (uu x6)))) (zk (zy (i:=5) sc__law_query.nd rfl (Or.inl rfl) (zn zD (zb (pv 5)) zj)) (zk (yT (zW (xR hr.units) (zC h__law_drawn (hr.mono (by decide)) (zd (zb (pv 0)) (zd (zn zD (zn zD (zb (pv 1)) zj) (zn x9 zj (zb (pv 6)))) (zd zj zi))) (zg (zg (zg zu)))) zj (yb _)) (zm (zy (i:=7) sc__law_query.nd rfl (Or.inl rfl) (zK z8 x6 (zC h__law_drawn (hr.mono (by decide)) (zd (zb (pv 0)) (zd (zn zD (zn zD (zb (pv 1)) zj) (zn x9 zj (zb (pv 6)))) (zd zj zi))) (zg (zg (zg zu))))))) yj) (zm (yT (JG (jn (zC h__law_mark (hr.mono (by decide)) (zd (zb (pv 7)) zi) (zg zu)))) (zm (zy (i:=4) sc__law_query.nd rfl (Or.inl rfl) (zn zD (zb (pv 4)) (zb (pv 7))))) yj))))))) (zm (zP (zb (pv 4)))))))
noncomputable abbrev xm:Stmt:=top 47
theorem sc__law_sorted:zQ ["_law_names_here", "_law_rows", "_law_keyed"] ["_law_names_here", "_law_rows"] (zl xm):=⟨rfl,rfl,rfl,by decide +kernel,rfl,by decide +kernel,by decide +kernel⟩
theorem Y2{f:Addr}{fd:FuncData}(A_:zS K mg "_law_sorted" xm f fd)(z_len:mg "len" = none)(z_sorted:mg "sorted" = none):DefOk P w K mg base "_law_sorted" 1 2 ["_law_names_here", "_law_rows"] xt:=by
 refine DefOk.mk (k:=0) A_ sc__law_sorted rfl (fun _ _ _ _ _ _ us hl=>by obtain⟨_,_,rfl⟩:=lnz2 hl;rfl) (fun cdv A outer s H E hr=>?_) fun _ _ _ h=>h
 exact(zk (zy (i:=2) sc__law_sorted.nd rfl (Or.inl rfl) (zF Tu rfl z_sorted boot_sorted (zd (uv (wZ (tn:=["_law_count", "_law_number"]) (fr:=["_law_names_here"]) (idx:=[0]) rfl rfl ⟨rfl,rfl,trivial⟩ (VN 0 1) (xx (zb (pv 1))) (fun s H C fp=>(j7 rfl (show List.Nodup (["_law_count", "_law_number", "_law_names_here"]:List Str) by decide +kernel) rfl (Or.inl rfl) rfl (Or.inl rfl))) (fun s H C fp=>vB) (fun s H C fp=>(xZ (zd (zn yK zj (zb (pv 0))) (zd (zF xv rfl z_len PySem.boot_len (zd (zK z8 (zb (pv 2)) (zb (pv 1))) zi)) (zd (zb (pv 1)) zi))))))) zi))) (zm (zP (uv (wZ (tn:=["_law_less", "_law_many", "_law_number"]) (fr:=[]) (idx:=[]) rfl rfl trivial (GT 0 1 2 (by decide) (by decide) (by decide)) (xx (zb (pv 2))) (fun s H C fp=>(Mg rfl (show List.Nodup (["_law_less", "_law_many", "_law_number"]:List Str) by decide +kernel) rfl (Or.inl rfl) rfl (Or.inl rfl) rfl (Or.inl rfl))) (fun s H C fp=>vB) (fun s H C fp=>(xZ (zd (zn yK zj (zb (pv 0))) (zd (zb (pv 2)) zi)))))))))
noncomputable abbrev xJ:Stmt:=top 49
theorem sc__law_rests:zQ ["_law_query_here", "_law_found_here", "_law_typed"] ["_law_query_here"] (zl xJ):=⟨rfl,rfl,rfl,by decide +kernel,rfl,by decide +kernel,by decide +kernel⟩
theorem XT{f:Addr}{fd:FuncData}(A_:zS K mg "_law_rests" xJ f fd)(z_sorted:mg "sorted" = none)(z_set:mg "set" = none):DefOk P w K mg base "_law_rests" 1 1 ["_law_query_here"] yq:=by
 refine DefOk.mk (k:=0) A_ sc__law_rests rfl (fun _ _ _ _ _ _ us hl=>by obtain⟨_,rfl⟩:=lnz1 hl;rfl) (fun cdv A outer s H E hr=>?_) fun _ _ _ h=>h
 exact(zk (zy (i:=1) sc__law_rests.nd rfl (Or.inl rfl) (x8 (zd x6 zi))) (zk (xQ PassesOwn.never rfl (xx (zb (pv 0))) (yk sc__law_rests.nd rfl (Or.inr rfl)) (zm (zy (i:=1) sc__law_rests.nd rfl (Or.inl rfl) (zn zD (zb (pv 1)) (uv (wZ (tn:=["_law_rest"]) (fr:=["_law_typed"]) (idx:=[2]) rfl rfl ⟨rfl,rfl,trivial⟩ (wG 0) (xx (zb (pv 1))) (fun s H C fp=>(yk (show List.Nodup (["_law_rest", "_law_typed"]:List Str) by decide +kernel) rfl (Or.inl rfl))) (fun s H C fp=>vB) (fun s H C fp=>(zn zD (zb (pv 0)) (zb (pv 1)))))))))) (zm (zP (uv (W4 rfl rfl z_sorted rfl z_set (zd (zb (pv 1)) zi)))))))
noncomputable abbrev xM:Stmt:=top 42
theorem sc__law_meets:zQ ["_law_typed", "_law_sign", "_law_smalls"] ["_law_typed", "_law_sign"] (zl xM):=⟨rfl,rfl,rfl,by decide +kernel,rfl,by decide +kernel,by decide +kernel⟩
theorem XW{f:Addr}{fd:FuncData}(A_:zS K mg "_law_meets" xM f fd):DefOk P w K mg base "_law_meets" 1 2 ["_law_typed", "_law_sign"] xf:=by
 refine DefOk.mk (k:=0) A_ sc__law_meets rfl (fun _ _ _ _ _ _ us hl=>by obtain⟨_,_,rfl⟩:=lnz2 hl;rfl) (fun cdv A outer s H E hr=>?_) fun _ _ _ h=>h
 exact(zk (zy (i:=2) sc__law_meets.nd rfl (Or.inl rfl) x6) (zm (zP (UY (wu (xR hr.units) (zb (pv 0)) (zb (pv 1)) (yb _)) (uu (Yp (wu (vX (wT hr)) (zb (pv 0)) (zb (pv 2)) (by with_unfolding_all rfl)) (uu (wu (xR hr.units) (zb (pv 1)) (zK z8 x6 (zl7 F.plainAttrs_str F.slot_str_index F.type_str_index zn7 (zb (pv 2)) (zd (zb (pv 0)) zi))) (yb _)))))))))
noncomputable abbrev y4:Stmt:=top 43
theorem sc__law_layings:zQ ["_law_query_here", "_law_name_here", "_law_found_here", "_law_typed", "_law_longer", "_law_laying", "_law_start"] ["_law_query_here", "_law_name_here"] (zl y4):=⟨rfl,rfl,rfl,by decide +kernel,rfl,by decide +kernel,by decide +kernel⟩
theorem Ye{f:Addr}{fd:FuncData}(A_:zS K mg "_law_layings" y4 f fd)(h__law_meets:DefOk P w K mg base "_law_meets" 1 2 ["_law_typed", "_law_sign"] xf)(z_len:mg "len" = none)(z_range:mg "range" = none):DefOk P w K mg base "_law_layings" 2 2 ["_law_query_here", "_law_name_here"] yc:=by
 refine DefOk.mk (k:=1) A_ sc__law_layings rfl (fun _ _ _ _ _ _ us hl=>by obtain⟨_,_,rfl⟩:=lnz2 hl;rfl) (fun cdv A outer s H E hr=>?_) fun _ _ _ h=>h
 exact(zk (by refine zy (i:=2) ?_ ?_ ?_ ?_ ?_ ?_;(exact sc__law_layings.nd);rfl;(exact Or.inl rfl);(exact LN (n:=20) (by kernel_rfl));rfl;(first|exact .inl rfl|exact .inr rfl)) (zk (xQ PassesOwn.never rfl (xx (zb (pv 0))) (yk sc__law_layings.nd rfl (Or.inr rfl)) (zk (zy (i:=4) sc__law_layings.nd rfl (Or.inl rfl) (x8 zi)) (zk (xQ PassesOwn.never rfl (xx (zb (pv 2))) (yk sc__law_layings.nd rfl (Or.inr rfl)) (zk (zy (i:=6) sc__law_layings.nd rfl (Or.inl rfl) (Mh (zW (W6 hr.units) (zb (pv 5)) (x8 zi) (yb _)) (zn zD (zK z8 (zb (pv 5)) (vQ zj)) zj) zj)) (zm (zy (i:=4) sc__law_layings.nd rfl (Or.inl rfl) (zn zD (zb (pv 4)) (uv (wZ (tn:=["_law_k"]) (fr:=["_law_laying", "_law_typed", "_law_name_here"]) (idx:=[5,3,1]) rfl rfl ⟨rfl,rfl,⟨rfl,rfl,⟨rfl,rfl,trivial⟩⟩⟩ (wG 0) (UX rfl z_range (zd (zb (pv 6)) (zd (zF xv rfl z_len PySem.boot_len (zd (zb (pv 1)) zi)) zi))) (fun s H C fp=>(yk (show List.Nodup (["_law_k", "_law_laying", "_law_typed", "_law_name_here"]:List Str) by decide +kernel) rfl (Or.inl rfl))) (fun s H C fp=>(uV (jn (zC h__law_meets (hr.mono (by decide)) (zd (zb (pv 2)) (zd (zK z8 (zb (pv 3)) (zb (pv 0))) zi)) (zg (zg zu)))))) (fun s H C fp=>(zn zD (zb (pv 1)) (x8 (zd (zb (pv 0)) zi))))))))))) (zm (zy (i:=2) sc__law_layings.nd rfl (Or.inl rfl) (zb (pv 4))))))) (zm (zP (zb (pv 2))))))
noncomputable abbrev xO:Stmt:=top 44
theorem sc__law_alone:zQ ["_law_typed", "_law_name_here", "_law_place", "_law_whole", "_law_is_great"] ["_law_typed", "_law_name_here", "_law_place"] (zl xO):=⟨rfl,rfl,rfl,by decide +kernel,rfl,by decide +kernel,by decide +kernel⟩
theorem XY{f:Addr}{fd:FuncData}(A_:zS K mg "_law_alone" xO f fd)(z_int:mg "int" = none):DefOk P w K mg base "_law_alone" 1 3 ["_law_typed", "_law_name_here", "_law_place"] xg:=by
 refine DefOk.mk (k:=0) A_ sc__law_alone rfl (fun _ _ _ _ _ _ us hl=>by obtain⟨_,_,_,rfl⟩:=lnz3 hl;rfl) (fun cdv A outer s H E hr=>?_) fun _ _ _ h=>h
 exact(zk (zy (i:=3) sc__law_alone.nd rfl (Or.inl rfl) (zn zD zj (YU J8 rfl z_int boot_int (zd (wu (xR hr.units) (zb (pv 0)) (zK z8 (zb (pv 1)) (zb (pv 2))) (yb _)) zi)))) (zk (yT (zW (xR hr.units) (zb (pv 2)) zj (yb _)) (zm (zP (zn zD (zb (pv 3)) zj))) yj) (zk (yT (zW (vX (wT hr)) (zK z8 (zb (pv 1)) (zn yK (zb (pv 2)) zj)) x6 (by with_unfolding_all rfl)) (zm (zP (zn zD (zb (pv 3)) zj))) yj) (zk (zy (i:=4) sc__law_alone.nd rfl (Or.inl rfl) (wu (vX (wT hr)) (zK z8 (zb (pv 1)) (zb (pv 2))) x6 (by with_unfolding_all rfl))) (zm (zP (zn zD (zb (pv 3)) (zn x9 zj (YU J8 rfl z_int boot_int (zd (Yp (zb (pv 4)) (uu (wu (vX (wT hr)) (zK z8 (zb (pv 1)) (zn yK (zb (pv 2)) zj)) x6 (by with_unfolding_all rfl)))) zi))))))))))
noncomputable abbrev xn:Stmt:=top 45
theorem sc__law_points:zQ ["_law_query_here", "_law_name_here", "_law_laying", "_law_whole", "_law_at", "_law_place"] ["_law_query_here", "_law_name_here", "_law_laying"] (zl xn):=⟨rfl,rfl,rfl,by decide +kernel,rfl,by decide +kernel,by decide +kernel⟩
theorem Y3{f:Addr}{fd:FuncData}(A_:zS K mg "_law_points" xn f fd)(h__law_alone:DefOk P w K mg base "_law_alone" 1 3 ["_law_typed", "_law_name_here", "_law_place"] xg)(z_enumerate:mg "enumerate" = none)(z_min:mg "min" = none):DefOk P w K mg base "_law_points" 2 3 ["_law_query_here", "_law_name_here", "_law_laying"] yV:=by
 refine DefOk.mk (k:=1) A_ sc__law_points rfl (fun _ _ _ _ _ _ us hl=>by obtain⟨_,_,_,rfl⟩:=lnz3 hl;rfl) (fun cdv A outer s H E hr=>?_) fun _ _ _ h=>h
 exact(zk (zy (i:=3) sc__law_points.nd rfl (Or.inl rfl) zj) (zk (xQ PassesOwn.never rfl (YR rfl z_enumerate (zd (zb (pv 2)) zi)) (j7 rfl sc__law_points.nd rfl (Or.inl rfl) rfl (Or.inl rfl)) (zk (zy (i:=3) sc__law_points.nd rfl (Or.inl rfl) (zn zD (zb (pv 3)) (zC h__law_alone (hr.mono (by decide)) (zd (zK z8 (zb (pv 0)) (zb (pv 4))) (zd (zb (pv 1)) (zd (zb (pv 5)) zi))) (zg (zg (zg zu)))))) (zm (yT (zW (xR hr.units) (zb (pv 4)) zj (yb _)) (zm (zy (i:=3) sc__law_points.nd rfl (Or.inl rfl) (zn yK (zb (pv 3)) (zF (jw rfl) rfl z_min boot_min (zd zj (zd (zb (pv 5)) zi)))))) (zm (yT (zW (xR hr.units) (zn zD (zK z8 (zb (pv 2)) (zn yK (zb (pv 4)) zj)) zj) (zb (pv 5)) (yb _)) (zm (zy (i:=3) sc__law_points.nd rfl (Or.inl rfl) (zn zD (zb (pv 3)) zj))) (zm (zy (i:=3) sc__law_points.nd rfl (Or.inl rfl) (zn yK (zb (pv 3)) (zF (jw rfl) rfl z_min boot_min (zd zj (zd (zn yK (zn yK (zb (pv 5)) (zK z8 (zb (pv 2)) (zn yK (zb (pv 4)) zj))) zj) zi)))))))))))) (zm (zP (zb (pv 3))))))
noncomputable abbrev wg:Stmt:=top 46
theorem sc__law_best:zQ ["_law_query_here", "_law_name_here", "_law_best_row", "_law_laying", "_law_count"] ["_law_query_here", "_law_name_here"] (zl wg):=⟨rfl,rfl,rfl,by decide +kernel,rfl,by decide +kernel,by decide +kernel⟩
theorem Va{f:Addr}{fd:FuncData}(A_:zS K mg "_law_best" wg f fd)(h__law_layings:DefOk P w K mg base "_law_layings" 2 2 ["_law_query_here", "_law_name_here"] yc)(h__law_points:DefOk P w K mg base "_law_points" 2 3 ["_law_query_here", "_law_name_here", "_law_laying"] yV):DefOk P w K mg base "_law_best" 3 2 ["_law_query_here", "_law_name_here"] wn:=by
 refine DefOk.mk (k:=2) A_ sc__law_best rfl (fun _ _ _ _ _ _ us hl=>by obtain⟨_,_,rfl⟩:=lnz2 hl;rfl) (fun cdv A outer s H E hr=>?_) fun _ _ _ h=>h
 exact(zk (zy (i:=2) sc__law_best.nd rfl (Or.inl rfl) wA) (zk (xQ PassesOwn.never rfl (xx (zC h__law_layings (hr.mono (by decide)) (zd (zb (pv 0)) (zd (zb (pv 1)) zi)) (zg (zg zu)))) (yk sc__law_best.nd rfl (Or.inl rfl)) (zk (zy (i:=4) sc__law_best.nd rfl (Or.inl rfl) (zC h__law_points (hr.mono (by decide)) (zd (zb (pv 0)) (zd (zb (pv 1)) (zd (zb (pv 3)) zi))) (zg (zg (zg zu))))) (zm (yT (j4 (W3 (zW UZ (zb (pv 2)) wA (yb _)) (Ym (zW YW (zb (pv 4)) (zK z8 (zb (pv 2)) zj) (yb _))))) (zm (zy (i:=2) sc__law_best.nd rfl (Or.inl rfl) (xZ (zd (zb (pv 4)) (zd (zb (pv 3)) zi))))) yj)))) (zm (zP (zb (pv 2))))))
noncomputable abbrev y3:Stmt:=top 50
theorem sc__law_slipped:zQ ["_law_query_here", "_law_name_here", "_law_many", "_law_rows", "_law_rest", "_law_told", "_law_left", "_law_row"] ["_law_query_here", "_law_name_here", "_law_many"] (zl y3):=⟨rfl,rfl,rfl,by decide +kernel,rfl,by decide +kernel,by decide +kernel⟩
theorem Yd{f:Addr}{fd:FuncData}(A_:zS K mg "_law_slipped" y3 f fd)(h__law_rests:DefOk P w K mg base "_law_rests" 1 1 ["_law_query_here"] yq)(h__law_best:DefOk P w K mg base "_law_best" 3 2 ["_law_query_here", "_law_name_here"] wn)(z_min:mg "min" = none)(z_len:mg "len" = none):DefOk P w K mg base "_law_slipped" 4 3 ["_law_query_here", "_law_name_here", "_law_many"] y9:=by
 refine DefOk.mk (k:=3) A_ sc__law_slipped rfl (fun _ _ _ _ _ _ us hl=>by obtain⟨_,_,_,rfl⟩:=lnz3 hl;rfl) (fun cdv A outer s H E hr=>?_) fun _ _ _ h=>h
 exact(zk (j5 (i:=3) sc__law_slipped.nd rfl (Or.inl rfl) (Yo zi)) (zk (xQ PassesOwn.never rfl (xx (zC h__law_rests (hr.mono (by decide)) (zd (zb (pv 0)) zi) (zg zu))) (yk sc__law_slipped.nd rfl (Or.inl rfl)) (zk (zy (i:=5) sc__law_slipped.nd rfl (Or.inl rfl) (zC h__law_best (hr.mono (by decide)) (zd (zb (pv 4)) (zd (zb (pv 1)) zi)) (zg (zg zu)))) (zk (zy (i:=6) sc__law_slipped.nd rfl (Or.inl rfl) (zn yK (zF xv rfl z_len PySem.boot_len (zd (zb (pv 0)) zi)) (zF xv rfl z_len PySem.boot_len (zd (zb (pv 4)) zi)))) (zm (yT (j4 (j3 (zW zm1 (zb (pv 6)) (zb (pv 2)) (yb _)) (uU (zW ub (zb (pv 5)) wA (yb _))))) (zm (Yn (pv 3) (xZ (zd (zn yK (zn x9 zj (zb (pv 6))) (zK z8 (zb (pv 5)) zj)) (zd (zb (pv 6)) (zd (zb (pv 4)) (zd (zK z8 (zb (pv 5)) zj) zi))))))) yj))))) (VY (zk (yT (zW (xR hr.units) (zb (pv 3)) (x8 zi) (yb _)) (zm (zP wA)) yj) (zk (zy (i:=7) sc__law_slipped.nd rfl (Or.inl rfl) (zF (ze4 rfl hr.units) rfl z_min boot_min (zd (zb (pv 3)) zi))) (zm (zP (xZ (zd (zn yK zj (zK z8 (zb (pv 7)) zj)) (zd (zK z8 (zb (pv 7)) zj) (zd (zK z8 (zb (pv 7)) zj) zi)))))))))))
noncomputable abbrev yQ:Stmt:=top 31
theorem sc_shorter_rests:zQ ["rests", "shorter", "rest", "place"] ["rests"] (zl yQ):=⟨rfl,rfl,rfl,by decide +kernel,rfl,by decide +kernel,by decide +kernel⟩
theorem ZF{f:Addr}{fd:FuncData}(A_:zS K mg "shorter_rests" yQ f fd)(z_len:mg "len" = none)(z_range:mg "range" = none)(z_sorted:mg "sorted" = none):DefOk P w K mg base "shorter_rests" 1 1 ["rests"] yg:=by
 refine DefOk.mk (k:=0) A_ sc_shorter_rests rfl (fun _ _ _ _ _ _ us hl=>by obtain⟨_,rfl⟩:=lnz1 hl;rfl) (fun cdv A outer s H E hr=>?_) fun _ _ _ h=>h
 exact(UV (i:=1) sc_shorter_rests.nd rfl rfl (Or.inl rfl) (JC (r:=2) PassesOwn.never rfl (xx (zb (pv 0))) sc_shorter_rests.nd rfl (Or.inl rfl) (by decide) (Yk (JC (r:=3) PassesOwn.never rfl (wk rfl z_range (zd (zF xv rfl z_len PySem.boot_len (zd (zb (pv 2)) zi)) zi)) sc_shorter_rests.nd rfl (Or.inl rfl) (by decide) (Yk (Lz (hu_of hr) (pv 1) (zn zD (YS (zb (pv 2)) j6 (v9 (zb (pv 3)))) (YS (zb (pv 2)) (v9 (zn zD (zb (pv 3)) zj)) j6))))))) rfl z_sorted boot_sorted (pv 1))
noncomputable abbrev uq:Stmt:=top 5
theorem GU:zQ ["sign", "other"] ["sign", "other"] (zl uq):=⟨rfl,rfl,rfl,by decide +kernel,rfl,by decide +kernel,by decide +kernel⟩
theorem Mp{f:Addr}{fd:FuncData}(A_:zS K mg "meets" uq f fd){t_SMALL:Tok}(g_SMALL:mg "SMALL" = some (.str "abcdefghijklmnopqrstuvwxyz" t_SMALL)):DefOk P w K mg base "meets" 1 2 ["sign", "other"] wb:=by
 refine DefOk.mk (k:=0) A_ GU rfl (fun _ _ _ _ _ _ us hl=>by obtain⟨_,_,rfl⟩:=lnz2 hl;rfl) (fun cdv A outer s H E hr=>?_) fun _ _ _ h=>h
 exact(zm (zP (UY (wu (xR hr.units) (zb (pv 0)) (zb (pv 1)) (yb _)) (uu (Yp (wu (vX (wT hr)) (zb (pv 0)) (j8 rfl g_SMALL) (by with_unfolding_all rfl)) (uu (wu (xR hr.units) (Qx (zb (pv 0))) (zb (pv 1)) (yb _))))))))
noncomputable abbrev yB:Stmt:=top 6
theorem sc_earliest_places:zQ ["query", "name", "places", "place"] ["query", "name"] (zl yB):=⟨rfl,rfl,rfl,by decide +kernel,rfl,by decide +kernel,by decide +kernel⟩
theorem jP{f:Addr}{fd:FuncData}(A_:zS K mg "earliest_places" yB f fd)(h_meets:DefOk P w K mg base "meets" 1 2 ["sign", "other"] wb)(z_len:mg "len" = none)(z_range:mg "range" = none):DefOk P w K mg base "earliest_places" 2 2 ["query", "name"] yP:=by
 refine DefOk.mk (k:=1) A_ sc_earliest_places rfl (fun _ _ _ _ _ _ us hl=>by obtain⟨_,_,rfl⟩:=lnz2 hl;rfl) (fun cdv A outer s H E hr=>?_) fun _ _ _ h=>h
 exact(zk (j5 (i:=2) sc_earliest_places.nd rfl (Or.inl rfl) (Yo zi)) (zk (xQ PassesOwn.never rfl (wk rfl z_range (zd (zF xv rfl z_len PySem.boot_len (zd (zb (pv 1)) zi)) zi)) (yk sc_earliest_places.nd rfl (Or.inl rfl)) (zm (yT (j4 (j3 (zW zm0 (YT (pv 2) rfl z_len) (zF xv rfl z_len PySem.boot_len (zd (zb (pv 0)) zi)) (yb _)) (uU (jn (zC h_meets (hr.mono (by decide)) (zd (zK z8 (zb (pv 0)) (YT (pv 2) rfl z_len)) (zd (zK z8 (zb (pv 1)) (zb (pv 3))) zi)) (zg (zg zu))))))) (zm (Yn (pv 2) (zb (pv 3)))) yj))) (zm (YO (pv 2)))))
noncomputable abbrev jL:Stmt:=top 7
theorem Lk:zQ ["query", "name"] ["query", "name"] (zl jL):=⟨rfl,rfl,rfl,by decide +kernel,rfl,by decide +kernel,by decide +kernel⟩
theorem LR{f:Addr}{fd:FuncData}(A_:zS K mg "fits" jL f fd)(h_earliest_places:DefOk P w K mg base "earliest_places" 2 2 ["query", "name"] yP)(z_len:mg "len" = none):DefOk P w K mg base "fits" 3 2 ["query", "name"] jS:=by
 refine DefOk.mk (k:=2) A_ Lk rfl (fun _ _ _ _ _ _ us hl=>by obtain⟨_,_,rfl⟩:=lnz2 hl;rfl) (fun cdv A outer s H E hr=>?_) fun _ _ _ h=>h
 exact(zm (zP (wu (xR hr.units) (zF xv rfl z_len PySem.boot_len (zd (zC h_earliest_places (hr.mono (by decide)) (zd (zb (pv 0)) (zd (zb (pv 1)) zi)) (zg (zg zu))) zi)) (zF xv rfl z_len PySem.boot_len (zd (zb (pv 0)) zi)) (yb _))))
noncomputable abbrev xk:Stmt:=top 32
theorem sc_least_slips:zQ ["query", "name", "slips", "rests"] ["query", "name"] (zl xk):=⟨rfl,rfl,rfl,by decide +kernel,rfl,by decide +kernel,by decide +kernel⟩
theorem YZ{f:Addr}{fd:FuncData}(A_:zS K mg "least_slips" xk f fd)(h_fits:DefOk P w K mg base "fits" 3 2 ["query", "name"] jS)(h_shorter_rests:DefOk P w K mg base "shorter_rests" 1 1 ["rests"] yg)(z_any:mg "any" = none):DefOk P w K mg base "least_slips" 4 2 ["query", "name"] xr:=by
 refine DefOk.mk (k:=3) A_ sc_least_slips rfl (fun _ _ _ _ _ _ us hl=>by obtain⟨_,_,rfl⟩:=lnz2 hl;rfl) (fun cdv A outer s H E hr=>?_) fun _ _ _ h=>h
 exact(zk (zy (i:=2) sc_least_slips.nd rfl (Or.inl rfl) zj) (zk (zy (i:=3) sc_least_slips.nd rfl (Or.inl rfl) (x8 (zd (zb (pv 0)) zi))) (zk (Qv PassesOwn.never (JG (jn (zF (zr7 rfl) rfl z_any boot_any (zd (uv (wZ (tn:=["rest"]) (fr:=["name"]) (idx:=[1]) rfl rfl ⟨rfl,rfl,trivial⟩ (wG 0) (xx (zb (pv 3))) (fun s H C fp=>(yk (show List.Nodup (["rest", "name"]:List Str) by decide +kernel) rfl (Or.inl rfl))) (fun s H C fp=>vB) (fun s H C fp=>(zC h_fits (hr.mono (by decide)) (zd (zb (pv 0)) (zd (zb (pv 1)) zi)) (zg (zg zu)))))) zi)))) (zk (zy (i:=3) sc_least_slips.nd rfl (Or.inl rfl) (zC h_shorter_rests (hr.mono (by decide)) (zd (zb (pv 3)) zi) (zg zu))) (zm (Mf (i:=2) sc_least_slips.nd rfl (Or.inl rfl) zj)))) (zm (zP (zb (pv 2)))))))
noncomputable abbrev yu:Stmt:=top 17
theorem sc_beginning_points:zQ ["name", "place", "ahead"] ["name", "place"] (zl yu):=⟨rfl,rfl,rfl,by decide +kernel,rfl,by decide +kernel,by decide +kernel⟩
theorem jz{f:Addr}{fd:FuncData}(A_:zS K mg "beginning_points" yu f fd){t_FIGURES:Tok}(g_FIGURES:mg "FIGURES" = some (.str "0123456789" t_FIGURES)){t_SMALL:Tok}(g_SMALL:mg "SMALL" = some (.str "abcdefghijklmnopqrstuvwxyz" t_SMALL)){t_GREAT:Tok}(g_GREAT:mg "GREAT" = some (.str "ABCDEFGHIJKLMNOPQRSTUVWXYZ" t_GREAT)){t_AT_GREAT:Tok}(g_AT_GREAT:mg "AT_GREAT" = some (.int 5 t_AT_GREAT)){t_MARKS:Tok}(g_MARKS:mg "MARKS" = some (.str "_-./" t_MARKS)){t_BEHIND_MARK:Tok}(g_BEHIND_MARK:mg "BEHIND_MARK" = some (.int 6 t_BEHIND_MARK)){t_AT_BEGINNING:Tok}(g_AT_BEGINNING:mg "AT_BEGINNING" = some (.int 8 t_AT_BEGINNING)):DefOk P w K mg base "beginning_points" 1 2 ["name", "place"] yI:=by
 refine DefOk.mk (k:=0) A_ sc_beginning_points rfl (fun _ _ _ _ _ _ us hl=>by obtain⟨_,_,rfl⟩:=lnz2 hl;rfl) (fun cdv A outer s H E hr=>?_) fun _ _ _ h=>h
 exact(zk (yT (zW (xR hr.units) (zb (pv 1)) zj (yb _)) (zm (zP (wU rfl g_AT_BEGINNING))) yj) (zk (zy (i:=2) sc_beginning_points.nd rfl (Or.inl rfl) (zK z8 (zb (pv 0)) (zn yK (zb (pv 1)) zj))) (zk (yT (zW (vX (wT hr)) (zb (pv 2)) (j8 rfl g_MARKS) (by with_unfolding_all rfl)) (zm (zP (wU rfl g_BEHIND_MARK))) yj) (zk (yT (j4 (j3 (zW (vX (wT hr)) (zK z8 (zb (pv 0)) (zb (pv 1))) (j8 rfl g_GREAT) (by with_unfolding_all rfl)) (uU (j4 (W3 (zW (vX (wT hr)) (zb (pv 2)) (j8 rfl g_SMALL) (by with_unfolding_all rfl)) (Ym (zW (vX (wT hr)) (zb (pv 2)) (j8 rfl g_FIGURES) (by with_unfolding_all rfl)))))))) (zm (zP (wU rfl g_AT_GREAT))) yj) (zm (zP zj))))))
noncomputable abbrev xH:Stmt:=top 18
theorem sc_own_points:zQ ["sign", "name", "place", "same"] ["sign", "name", "place"] (zl xH):=⟨rfl,rfl,rfl,by decide +kernel,rfl,by decide +kernel,by decide +kernel⟩
theorem XR{f:Addr}{fd:FuncData}(A_:zS K mg "own_points" xH f fd)(h_beginning_points:DefOk P w K mg base "beginning_points" 1 2 ["name", "place"] yI){t_EACH_PLACE:Tok}(g_EACH_PLACE:mg "EACH_PLACE" = some (.int 10 t_EACH_PLACE)){t_SAME_SIGN:Tok}(g_SAME_SIGN:mg "SAME_SIGN" = some (.int 1 t_SAME_SIGN)):DefOk P w K mg base "own_points" 2 3 ["sign", "name", "place"] yD:=by
 refine DefOk.mk (k:=1) A_ sc_own_points rfl (fun _ _ _ _ _ _ us hl=>by obtain⟨_,_,_,rfl⟩:=lnz3 hl;rfl) (fun cdv A outer s H E hr=>?_) fun _ _ _ h=>h
 exact(zk (zy (i:=3) sc_own_points.nd rfl (Or.inl rfl) (Mh (zW (xR hr.units) (zK z8 (zb (pv 1)) (zb (pv 2))) (zb (pv 0)) (yb _)) (wU rfl g_SAME_SIGN) zj)) (zm (zP (zn zD (zn zD (wU rfl g_EACH_PLACE) (zC h_beginning_points (hr.mono (by decide)) (zd (zb (pv 1)) (zd (zb (pv 2)) zi)) (zg (zg zu)))) (zb (pv 3))))))
noncomputable abbrev yA:Stmt:=top 22
theorem jK:zQ ["sign", "name"] ["sign", "name"] (zl yA):=⟨rfl,rfl,rfl,by decide +kernel,rfl,by decide +kernel,by decide +kernel⟩
theorem jO{f:Addr}{fd:FuncData}(A_:zS K mg "last_sign_tails" yA f fd)(h_meets:DefOk P w K mg base "meets" 1 2 ["sign", "other"] wb)(h_own_points:DefOk P w K mg base "own_points" 2 3 ["sign", "name", "place"] yD)(z_len:mg "len" = none)(z_range:mg "range" = none):DefOk P w K mg base "last_sign_tails" 3 2 ["sign", "name"] yn:=by
 refine DefOk.mk (k:=2) A_ jK rfl (fun _ _ _ _ _ _ us hl=>by obtain⟨_,_,rfl⟩:=lnz2 hl;rfl) (fun cdv A outer s H E hr=>?_) fun _ _ _ h=>h
 exact(zm (zP (uv (wZ (tn:=["place"]) (fr:=["sign", "name"]) (idx:=[0,1]) rfl rfl ⟨rfl,rfl,⟨rfl,rfl,trivial⟩⟩ (wG 0) (wk rfl z_range (zd (zF xv rfl z_len PySem.boot_len (zd (zb (pv 1)) zi)) zi)) (fun s H C fp=>(yk (show List.Nodup (["place", "sign", "name"]:List Str) by decide +kernel) rfl (Or.inl rfl))) (fun s H C fp=>(uV (jn (zC h_meets (hr.mono (by decide)) (zd (zb (pv 1)) (zd (zK z8 (zb (pv 2)) (zb (pv 0))) zi)) (zg (zg zu)))))) (fun s H C fp=>(xZ (zd (zC h_own_points (hr.mono (by decide)) (zd (zb (pv 1)) (zd (zb (pv 2)) (zd (zb (pv 0)) zi))) (zg (zg (zg zu)))) (zd (x8 (zd (zb (pv 0)) zi)) zi))))))))
noncomputable abbrev yR:Stmt:=top 21
theorem sc_first_of_most:zQ ["tails", "chosen", "tail"] ["tails"] (zl yR):=⟨rfl,rfl,rfl,by decide +kernel,rfl,by decide +kernel,by decide +kernel⟩
theorem ZG{f:Addr}{fd:FuncData}(A_:zS K mg "first_of_most" yR f fd):DefOk P w K mg base "first_of_most" 1 1 ["tails"] z0:=by
 refine DefOk.mk (k:=0) A_ sc_first_of_most rfl (fun _ _ _ _ _ _ us hl=>by obtain⟨_,rfl⟩:=lnz1 hl;rfl) (fun cdv A outer s H E hr=>?_) fun _ _ _ h=>h
 exact(zk (zy (i:=1) sc_first_of_most.nd rfl (Or.inl rfl) wA) (zk (xQ PassesOwn.never rfl (xx (zb (pv 0))) (yk sc_first_of_most.nd rfl (Or.inl rfl)) (zm (yT (j4 (W3 (zW UZ (zb (pv 1)) wA (yb _)) (Ym (zW YW (zK z8 (zb (pv 2)) zj) (zK z8 (zb (pv 1)) zj) (yb _))))) (zm (zy (i:=1) sc_first_of_most.nd rfl (Or.inl rfl) (zb (pv 2)))) yj))) (zm (zP (zb (pv 1))))))
noncomputable abbrev xj:Stmt:=top 20
theorem sc_link_points:zQ ["ahead", "place", "between"] ["ahead", "place"] (zl xj):=⟨rfl,rfl,rfl,by decide +kernel,rfl,by decide +kernel,by decide +kernel⟩
theorem YY{f:Addr}{fd:FuncData}(A_:zS K mg "link_points" xj f fd){t_MOST_BETWEEN:Tok}(g_MOST_BETWEEN:mg "MOST_BETWEEN" = some (.int 5 t_MOST_BETWEEN)){t_BESIDE:Tok}(g_BESIDE:mg "BESIDE" = some (.int 7 t_BESIDE))(z_min:mg "min" = none):DefOk P w K mg base "link_points" 1 2 ["ahead", "place"] xq:=by
 refine DefOk.mk (k:=0) A_ sc_link_points rfl (fun _ _ _ _ _ _ us hl=>by obtain⟨_,_,rfl⟩:=lnz2 hl;rfl) (fun cdv A outer s H E hr=>?_) fun _ _ _ h=>h
 exact(zk (zy (i:=2) sc_link_points.nd rfl (Or.inl rfl) (zn yK (zn yK (zb (pv 1)) (zb (pv 0))) zj)) (zk (yT (zW (xR hr.units) (zb (pv 2)) zj (yb _)) (zm (zP (wU rfl g_BESIDE))) yj) (zm (zP (vQ (zF (jw rfl) rfl z_min boot_min (zd (zb (pv 2)) (zd (wU rfl g_MOST_BETWEEN) zi))))))))
noncomputable abbrev y0:Stmt:=top 23
theorem Z8:zQ ["place", "tails"] ["place", "tails"] (zl y0):=⟨rfl,rfl,rfl,by decide +kernel,rfl,by decide +kernel,by decide +kernel⟩
theorem Yc{f:Addr}{fd:FuncData}(A_:zS K mg "linked_tails" y0 f fd)(h_link_points:DefOk P w K mg base "link_points" 1 2 ["ahead", "place"] xq):DefOk P w K mg base "linked_tails" 2 2 ["place", "tails"] yM:=by
 refine DefOk.mk (k:=1) A_ Z8 rfl (fun _ _ _ _ _ _ us hl=>by obtain⟨_,_,rfl⟩:=lnz2 hl;rfl) (fun cdv A outer s H E hr=>?_) fun _ _ _ h=>h
 exact(zm (zP (uv (wZ (tn:=["tail"]) (fr:=["place"]) (idx:=[0]) rfl rfl ⟨rfl,rfl,trivial⟩ (wG 0) (xx (zb (pv 1))) (fun s H C fp=>(yk (show List.Nodup (["tail", "place"]:List Str) by decide +kernel) rfl (Or.inl rfl))) (fun s H C fp=>(uV (zW YW (zK z8 (zK z8 (zb (pv 0)) zj) zj) (zb (pv 1)) (yb _)))) (fun s H C fp=>(xZ (zd (zn zD (zK z8 (zb (pv 0)) zj) (zC h_link_points (hr.mono (by decide)) (zd (zb (pv 1)) (zd (zK z8 (zK z8 (zb (pv 0)) zj) zj) zi)) (zg (zg zu)))) (zd (zK z8 (zb (pv 0)) zj) zi))))))))
noncomputable abbrev yZ:Stmt:=top 24
theorem sc_longer_tails:zQ ["sign", "name", "tails", "longer", "place", "chosen"] ["sign", "name", "tails"] (zl yZ):=⟨rfl,rfl,rfl,by decide +kernel,rfl,by decide +kernel,by decide +kernel⟩
theorem Yb{f:Addr}{fd:FuncData}(A_:zS K mg "longer_tails" yZ f fd)(h_meets:DefOk P w K mg base "meets" 1 2 ["sign", "other"] wb)(h_own_points:DefOk P w K mg base "own_points" 2 3 ["sign", "name", "place"] yD)(h_linked_tails:DefOk P w K mg base "linked_tails" 2 2 ["place", "tails"] yM)(h_first_of_most:DefOk P w K mg base "first_of_most" 1 1 ["tails"] z0)(z_len:mg "len" = none)(z_range:mg "range" = none):DefOk P w K mg base "longer_tails" 3 3 ["sign", "name", "tails"] y8:=by
 refine DefOk.mk (k:=2) A_ sc_longer_tails rfl (fun _ _ _ _ _ _ us hl=>by obtain⟨_,_,_,rfl⟩:=lnz3 hl;rfl) (fun cdv A outer s H E hr=>?_) fun _ _ _ h=>h
 exact(zk (j5 (i:=3) sc_longer_tails.nd rfl (Or.inl rfl) (Yo zi)) (zk (xQ PassesOwn.never rfl (wk rfl z_range (zd (zF xv rfl z_len PySem.boot_len (zd (zb (pv 1)) zi)) zi)) (yk sc_longer_tails.nd rfl (Or.inl rfl)) (zm (yT (jn (zC h_meets (hr.mono (by decide)) (zd (zb (pv 0)) (zd (zK z8 (zb (pv 1)) (zb (pv 4))) zi)) (zg (zg zu)))) (zk (zy (i:=5) sc_longer_tails.nd rfl (Or.inl rfl) (zC h_first_of_most (hr.mono (by decide)) (zd (zC h_linked_tails (hr.mono (by decide)) (zd (zb (pv 4)) (zd (zb (pv 2)) zi)) (zg (zg zu))) zi) (zg zu))) (zm (yT (zW ub (zb (pv 5)) wA (yb _)) (zm (Yn (pv 3) (xZ (zd (zn zD (zC h_own_points (hr.mono (by decide)) (zd (zb (pv 0)) (zd (zb (pv 1)) (zd (zb (pv 4)) zi))) (zg (zg (zg zu)))) (zK z8 (zb (pv 5)) zj)) (zd (zn zD (x8 (zd (zb (pv 4)) zi)) (zK z8 (zb (pv 5)) zj)) zi))))) yj))) yj))) (zm (YO (pv 3)))))
noncomputable abbrev xl:Stmt:=top 19
theorem YG:zQ ["place"] ["place"] (zl xl):=⟨rfl,rfl,rfl,by decide +kernel,rfl,by decide +kernel,by decide +kernel⟩
theorem Y1{f:Addr}{fd:FuncData}(A_:zS K mg "lead_points" xl f fd){t_MOST_AHEAD:Tok}(g_MOST_AHEAD:mg "MOST_AHEAD" = some (.int 3 t_MOST_AHEAD))(z_min:mg "min" = none):DefOk P w K mg base "lead_points" 1 1 ["place"] yU:=by
 refine DefOk.mk (k:=0) A_ YG rfl (fun _ _ _ _ _ _ us hl=>by obtain⟨_,rfl⟩:=lnz1 hl;rfl) (fun cdv A outer s H E hr=>?_) fun _ _ _ h=>h
 exact(zm (zP (vQ (zF (jw rfl) rfl z_min boot_min (zd (zb (pv 0)) (zd (wU rfl g_MOST_AHEAD) zi))))))
noncomputable abbrev jM:Stmt:=top 25
theorem sc_best:zQ ["query", "name", "tails", "number"] ["query", "name"] (zl jM):=⟨rfl,rfl,rfl,by decide +kernel,rfl,by decide +kernel,by decide +kernel⟩
theorem LS{f:Addr}{fd:FuncData}(A_:zS K mg "best" jM f fd)(h_lead_points:DefOk P w K mg base "lead_points" 1 1 ["place"] yU)(h_first_of_most:DefOk P w K mg base "first_of_most" 1 1 ["tails"] z0)(h_longer_tails:DefOk P w K mg base "longer_tails" 3 3 ["sign", "name", "tails"] y8)(h_last_sign_tails:DefOk P w K mg base "last_sign_tails" 3 2 ["sign", "name"] yn)(z_len:mg "len" = none)(z_range:mg "range" = none):DefOk P w K mg base "best" 4 2 ["query", "name"] uz:=by
 refine DefOk.mk (k:=3) A_ sc_best rfl (fun _ _ _ _ _ _ us hl=>by obtain⟨_,_,rfl⟩:=lnz2 hl;rfl) (fun cdv A outer s H E hr=>?_) fun _ _ _ h=>h
 exact(zk (yT (zW (xR hr.units) (zF xv rfl z_len PySem.boot_len (zd (zb (pv 0)) zi)) zj (yb _)) (zm (zP (xZ (zd zj (zd (x8 zi) zi))))) yj) (zk (zy (i:=2) sc_best.nd rfl (Or.inl rfl) (zC h_last_sign_tails (hr.mono (by decide)) (zd (zK z8 (zb (pv 0)) (vQ zj)) (zd (zb (pv 1)) zi)) (zg (zg zu)))) (zk (xQ PassesOwn.never rfl (UW rfl z_range (zd (zn yK (zF xv rfl z_len PySem.boot_len (zd (zb (pv 0)) zi)) zj) (zd (vQ zj) (zd (vQ zj) zi)))) (yk sc_best.nd rfl (Or.inl rfl)) (zm (zy (i:=2) sc_best.nd rfl (Or.inl rfl) (zC h_longer_tails (hr.mono (by decide)) (zd (zK z8 (zb (pv 0)) (zb (pv 3))) (zd (zb (pv 1)) (zd (zb (pv 2)) zi))) (zg (zg (zg zu))))))) (zm (zP (zC h_first_of_most (hr.mono (by decide)) (zd (uv (wZ (tn:=["tail"]) (fr:=[]) (idx:=[]) rfl rfl trivial (wG 0) (xx (zb (pv 2))) (fun s H C fp=>(yk (show List.Nodup (["tail"]:List Str) by decide +kernel) rfl (Or.inl rfl))) (fun s H C fp=>vB) (fun s H C fp=>(xZ (zd (zn zD (zK z8 (zb (pv 0)) zj) (zC h_lead_points (hr.mono (by decide)) (zd (zK z8 (zK z8 (zb (pv 0)) zj) zj) zi) (zg zu))) (zd (zK z8 (zb (pv 0)) zj) zi)))))) zi) (zg zu)))))))
noncomputable abbrev yC:Stmt:=top 33
theorem sc_best_with_slips:zQ ["query", "name", "many", "chosen", "rests", "slips", "rest", "laid"] ["query", "name", "many"] (zl yC):=⟨rfl,rfl,rfl,by decide +kernel,rfl,by decide +kernel,by decide +kernel⟩
theorem jQ{f:Addr}{fd:FuncData}(A_:zS K mg "best_with_slips" yC f fd)(h_shorter_rests:DefOk P w K mg base "shorter_rests" 1 1 ["rests"] yg)(h_best:DefOk P w K mg base "best" 4 2 ["query", "name"] uz){t_EACH_SLIP:Tok}(g_EACH_SLIP:mg "EACH_SLIP" = some (.int 15 t_EACH_SLIP))(z_len:mg "len" = none)(z_min:mg "min" = none)(z_range:mg "range" = none):DefOk P w K mg base "best_with_slips" 5 3 ["query", "name", "many"] zX:=by
 refine DefOk.mk (k:=4) A_ sc_best_with_slips rfl (fun _ _ _ _ _ _ us hl=>by obtain⟨_,_,_,rfl⟩:=lnz3 hl;rfl) (fun cdv A outer s H E hr=>?_) fun _ _ _ h=>h
 exact(zk (zy (i:=3) sc_best_with_slips.nd rfl (Or.inl rfl) wA) (zk (zy (i:=4) sc_best_with_slips.nd rfl (Or.inl rfl) (x8 (zd (zb (pv 0)) zi))) (zk (xQ PassesOwn.never rfl (wk rfl z_range (zd (zn zD (zF (jw rfl) rfl z_min boot_min (zd (zb (pv 2)) (zd (zF xv rfl z_len PySem.boot_len (zd (zb (pv 0)) zi)) zi))) zj) zi)) (yk sc_best_with_slips.nd rfl (Or.inl rfl)) (zk (xQ PassesOwn.never rfl (xx (zb (pv 4))) (yk sc_best_with_slips.nd rfl (Or.inl rfl)) (zk (zy (i:=7) sc_best_with_slips.nd rfl (Or.inl rfl) (zC h_best (hr.mono (by decide)) (zd (zb (pv 6)) (zd (zb (pv 1)) zi)) (zg (zg zu)))) (zm (yT (j4 (j3 (zW ub (zb (pv 7)) wA (yb _)) (uU (j4 (W3 (zW UZ (zb (pv 3)) wA (yb _)) (Ym (zW YW (zn yK (zK z8 (zb (pv 7)) zj) (zn x9 (wU rfl g_EACH_SLIP) (zb (pv 5)))) (zK z8 (zb (pv 3)) zj) (yb _)))))))) (zm (zy (i:=3) sc_best_with_slips.nd rfl (Or.inl rfl) (xZ (zd (zn yK (zK z8 (zb (pv 7)) zj) (zn x9 (wU rfl g_EACH_SLIP) (zb (pv 5)))) (zd (zb (pv 6)) (zd (zK z8 (zb (pv 7)) zj) zi)))))) yj)))) (zm (zy (i:=4) sc_best_with_slips.nd rfl (Or.inl rfl) (zC h_shorter_rests (hr.mono (by decide)) (zd (zb (pv 4)) zi) (zg zu)))))) (zm (zP (zb (pv 3)))))))
noncomputable abbrev wO:Stmt:=top 27
theorem VO:zQ ["names", "rows"] ["names", "rows"] (zl wO):=⟨rfl,rfl,rfl,by decide +kernel,rfl,by decide +kernel,by decide +kernel⟩
theorem V0{f c:Addr}(A_:Jq K mg "in_order" wO f c 94)(bm:BM mg base)(z_len:mg "len" = none)(z_sorted:mg "sorted" = none):DefOk P w K mg base "in_order" 4 2 ["names", "rows"] wm:=by
 refine DefOk.mkL (k:=3) A_ VO rfl (fun _ _ _ _ _ _ us hl=>by obtain⟨_,_,rfl⟩:=lnz2 hl;rfl) (fun A outer s H E hr=>?_)
 exact(zm (zP (Qy (P:=94) (p := "row") (fr:=["names"]) (idx:=[0]) rfl z_sorted boot_sorted (zb (pv 1)) (hr.mono (by decide)) (TabsU.of (by decide)) bm rfl A_.tab (.head _) rfl ⟨rfl,rfl,trivial⟩ rfl rfl rfl (fun _ _ _ _ _=>rfl) (fun s H f cd=>(xZ (zd (vQ (zK z8 (zb (pv 0)) zj)) (zd (zF xv rfl z_len PySem.boot_len (zd (zK z8 (zb (pv 1)) (zK z8 (zb (pv 0)) zj)) zi)) (zd (zK z8 (zb (pv 0)) zj) zi))))))))
noncomputable abbrev xI:Stmt:=top 28
theorem XO:zQ ["names", "rows", "many"] ["names", "rows", "many"] (zl xI):=⟨rfl,rfl,rfl,by decide +kernel,rfl,by decide +kernel,by decide +kernel⟩
theorem XS{f:Addr}{fd:FuncData}(A_:zS K mg "first_rows" xI f fd)(h_in_order:DefOk P w K mg base "in_order" 4 2 ["names", "rows"] wm)(z_max:mg "max" = none):DefOk P w K mg base "first_rows" 5 3 ["names", "rows", "many"] xT:=by
 refine DefOk.mk (k:=4) A_ XO rfl (fun _ _ _ _ _ _ us hl=>by obtain⟨_,_,_,rfl⟩:=lnz3 hl;rfl) (fun cdv A outer s H E hr=>?_) fun _ _ _ h=>h
 exact(zm (zP (YS (zC h_in_order (hr.mono (by decide)) (zd (zb (pv 0)) (zd (zb (pv 1)) zi)) (zg (zg zu))) j6 (v9 (zF (ze6 rfl) rfl z_max boot_max (zd (zb (pv 2)) (zd zj zi)))))))
noncomputable abbrev yt:Stmt:=top 34
theorem sc_finds_with_slips:zQ ["names", "query", "slips", "many", "laid", "rows"] ["names", "query", "slips", "many"] (zl yt):=⟨rfl,rfl,rfl,by decide +kernel,rfl,by decide +kernel,by decide +kernel⟩
theorem jy{f:Addr}{fd:FuncData}(A_:zS K mg "finds_with_slips" yt f fd)(h_first_rows:DefOk P w K mg base "first_rows" 5 3 ["names", "rows", "many"] xT)(h_best_with_slips:DefOk P w K mg base "best_with_slips" 5 3 ["query", "name", "many"] zX)(z_enumerate:mg "enumerate" = none):DefOk P w K mg base "finds_with_slips" 6 4 ["names", "query", "slips", "many"] zR:=by
 refine DefOk.mk (k:=5) A_ sc_finds_with_slips rfl (fun _ _ _ _ _ _ us hl=>by obtain⟨_,_,_,_,rfl⟩:=lnz4 hl;rfl) (fun cdv A outer s H E hr=>?_) fun _ _ _ h=>h
 exact(zk (YQ (i:=4) sc_finds_with_slips.nd rfl rfl rfl (tn:=["name"]) (fr:=["query", "slips"]) (idx:=[1,2]) rfl rfl ⟨rfl,rfl,⟨rfl,rfl,trivial⟩⟩ (wG 0) (xx (zb (pv 0))) (fun s H C fp=>(yk (show List.Nodup (["name", "query", "slips"]:List Str) by decide +kernel) rfl (Or.inl rfl))) (fun s H C fp=>vB) (fun s H C fp=>(zC h_best_with_slips (hr.mono (by decide)) (zd (zb (pv 1)) (zd (zb (pv 0)) (zd (zb (pv 2)) zi))) (zg (zg (zg zu)))))) (zk (YQ (i:=5) sc_finds_with_slips.nd rfl rfl rfl (tn:=["number", "told"]) (fr:=[]) (idx:=[]) rfl rfl trivial (VN 0 1) (YR rfl z_enumerate (zd (zb (pv 4)) zi)) (fun s H C fp=>(j7 rfl (show List.Nodup (["number", "told"]:List Str) by decide +kernel) rfl (Or.inl rfl) rfl (Or.inl rfl))) (fun s H C fp=>(uV (zW ub (zb (pv 1)) wA (yb _)))) (fun s H C fp=>(xZ (zd (zK z8 (zb (pv 1)) zj) (zd (zb (pv 0)) zi))))) (zm (zP (zC h_first_rows (hr.mono (by decide)) (zd (zb (pv 0)) (zd (zb (pv 5)) (zd (zb (pv 3)) zi))) (zg (zg (zg zu))))))))
noncomputable abbrev j1:Stmt:=top 51
theorem sc_law:zQ ["_law_script", "_law_names_here", "_law_query_here", "_law_many", "_law_rows", "_law_number", "_law_name_here", "_law_fitting", "_law_due"] ["_law_script"] (zl j1):=⟨rfl,rfl,rfl,by decide +kernel,rfl,by decide +kernel,by decide +kernel⟩
theorem zm8{f:Addr}{fd:FuncData}(A_:Fun K "law" "law" j1 f fd)(h_finds_with_slips:DefOk P w K mg base "finds_with_slips" 6 4 ["names", "query", "slips", "many"] zR)(h__law_sorted:DefOk P w K mg base "_law_sorted" 1 2 ["_law_names_here", "_law_rows"] xt)(h_best_with_slips:DefOk P w K mg base "best_with_slips" 5 3 ["query", "name", "many"] zX)(h__law_slipped:DefOk P w K mg base "_law_slipped" 4 3 ["_law_query_here", "_law_name_here", "_law_many"] y9)(h_least_slips:DefOk P w K mg base "least_slips" 4 2 ["query", "name"] xr)(h__law_rests:DefOk P w K mg base "_law_rests" 1 1 ["_law_query_here"] yq)(h__law_layings:DefOk P w K mg base "_law_layings" 2 2 ["_law_query_here", "_law_name_here"] yc)(h__law_drawn:DefOk P w K mg base "_law_drawn" 2 3 ["_law_script", "_law_k", "_law_many"] zr)(h__law_query:DefOk P w K mg base "_law_query" 3 4 ["_law_script", "_law_at", "_law_name_here", "_law_most"] xU)(h__law_names:DefOk P w K mg base "_law_names" 4 3 ["_law_script", "_law_at", "_law_most"] xV)(z_enumerate:mg "enumerate" = none)(z_len:mg "len" = none)(z_max:mg "max" = none):FnOk P w K mg base CX0 7 f fd ["_law_script"] (spD K 1 V5):=by
 refine fnD (k:=6) A_ sc_law rfl fun cdv A outer s H E hr=>?_
 exact(zk (zy (i:=1) sc_law.nd rfl (Or.inl rfl) (zC h__law_names (hr.mono (by decide)) (zd (zb (pv 0)) (zd zj (zd zj zi))) (zg (zg (zg zu))))) (zk (zy (i:=2) sc_law.nd rfl (Or.inl rfl) (zC h__law_query (hr.mono (by decide)) (zd (zb (pv 0)) (zd zj (zd (zK z8 (zn zD (zb (pv 1)) (x8 (zd x6 zi))) (zC h__law_drawn (hr.mono (by decide)) (zd (zb (pv 0)) (zd zj (zd (zn zD (zF xv rfl z_len PySem.boot_len (zd (zb (pv 1)) zi)) zj) zi))) (zg (zg (zg zu))))) (zd zj zi)))) (zg (zg (zg (zg zu)))))) (zk (zy (i:=3) sc_law.nd rfl (Or.inl rfl) (zC h__law_drawn (hr.mono (by decide)) (zd (zb (pv 0)) (zd zj (zd zj zi))) (zg (zg (zg zu))))) (zk (j5 (i:=4) sc_law.nd rfl (Or.inl rfl) (Yo zi)) (zk (xQ PassesOwn.never rfl (YR rfl z_enumerate (zd (zb (pv 1)) zi)) (j7 rfl sc_law.nd rfl (Or.inl rfl) rfl (Or.inr rfl)) (zk (YQ (i:=7) sc_law.nd rfl rfl rfl (tn:=["_law_rest"]) (fr:=["_law_name_here"]) (idx:=[6]) rfl rfl ⟨rfl,rfl,trivial⟩ (wG 0) (xx (zC h__law_rests (hr.mono (by decide)) (zd (zb (pv 2)) zi) (zg zu))) (fun s H C fp=>(yk (show List.Nodup (["_law_rest", "_law_name_here"]:List Str) by decide +kernel) rfl (Or.inl rfl))) (fun s H C fp=>(uV (zW (W6 hr.units) (zC h__law_layings (hr.mono (by decide)) (zd (zb (pv 0)) (zd (zb (pv 1)) zi)) (zg (zg zu))) (x8 zi) (yb _)))) (fun s H C fp=>(zF xv rfl z_len PySem.boot_len (zd (zb (pv 0)) zi)))) (zk (yT (zW (W6 hr.units) (zC h_least_slips (hr.mono (by decide)) (zd (zb (pv 2)) (zd (zb (pv 6)) zi)) (zg (zg zu))) (zn yK (zF xv rfl z_len PySem.boot_len (zd (zb (pv 2)) zi)) (zF (ze5 rfl) rfl z_max boot_max (zd (zb (pv 7)) zi))) (yb _)) (zm (zP Mk)) yj) (zk (zy (i:=8) sc_law.nd rfl (Or.inl rfl) (zC h__law_slipped (hr.mono (by decide)) (zd (zb (pv 2)) (zd (zb (pv 6)) (zd (zb (pv 3)) zi))) (zg (zg (zg zu))))) (zk (yT (zW (W6 hr.units) (zC h_best_with_slips (hr.mono (by decide)) (zd (zb (pv 2)) (zd (zb (pv 6)) (zd (zb (pv 3)) zi))) (zg (zg (zg zu)))) (zb (pv 8)) (yb _)) (zm (zP Mk)) yj) (zm (yT (zW ub (zb (pv 8)) wA (yb _)) (zm (Yn (pv 4) (xZ (zd (zK z8 (zb (pv 8)) zj) (zd (zb (pv 5)) zi))))) yj))))))) (VY (zk (zy (i:=4) sc_law.nd rfl (Or.inl rfl) (zC h__law_sorted (hr.mono (by decide)) (zd (zb (pv 1)) (zd (zb (pv 4)) zi)) (zg (zg zu)))) (zm (zP (Yp (wu (xR hr.units) (zC h_finds_with_slips (hr.mono (by decide)) (zd (zb (pv 1)) (zd (zb (pv 2)) (zd (zb (pv 3)) (zd zj zi)))) (zg (zg (zg (zg zu))))) (zb (pv 4)) (yb _)) (uu (wu (xR hr.units) (zC h_finds_with_slips (hr.mono (by decide)) (zd (zb (pv 1)) (zd (zb (pv 2)) (zd (zb (pv 3)) (zd zj zi)))) (zg (zg (zg (zg zu))))) (YS (zb (pv 4)) j6 (v9 zj)) (yb _)))))))))))))
end
theorem all_mk{l:PySem.W.OpenLaw}{w:World}{K:Frag}{h:Heap}{mg:Str→Option Value}{fa:Addr}(X:K.In h)(G:h.Ns mainGlobals mg)(hfa:mg "law" = some (.ref fa))(hl:∀ns:List Int,ns.length≤63→V5 [.scr ns]=.ok (.bl true))
  {f0 f1 f2 f3 f4 f5 f6 f7 f8 f9 f10 f11 f12 f13 f14 f15 f16 f17 f18 f19 f20 f21 f22 f23 f24 f25 f26 f27 f28 f29 f30 f31 f32:Addr} {od0 an0 od1 an1 od2 an2 od3 an3 od4 an4 od5 an5 od6 an6 od7 an7 od8 an8 od9 an9 od10 an10 od11 an11 od12 an12 od13 an13 od14 an14 od15 an15 od16 an16 od17 an17 od18 an18 od19 an19 od20 an20 od21 an21 od22 an22 od23 an23 od24 an24 od25 an25 od26 an26 od27 an27 od28 an28 od29 an29 od30 an30 od31 an31 od32 an32:Option Addr} {sl0 sl1 sl2 sl3 sl4 sl5 sl6 sl7 sl8 sl9 sl10 sl11 sl12 sl13 sl14 sl15 sl16 sl17 sl18 sl19 sl20 sl21 sl22 sl23 sl24 sl25 sl26 sl27 sl28 sl29 sl30 sl31 sl32:Array (Option Value)} {oc0 kV0 dc0 pm0 ct0 cd0 oc1 kV1 dc1 pm1 ct1 cd1 oc2 kV2 dc2 pm2 ct2 cd2 oc3 kV3 dc3 pm3 ct3 cd3 oc4 kV4 dc4 pm4 ct4 cd4 oc5 kV5 dc5 pm5 ct5 cd5 oc6 kV6 dc6 pm6 ct6 cd6 oc7 kV7 dc7 pm7 ct7 cd7 oc8 kV8 dc8 pm8 ct8 cd8 oc9 kV9 dc9 pm9 ct9 cd9 oc10 kV10 dc10 pm10 ct10 cd10 oc11 kV11 dc11 pm11 ct11 cd11 oc12 kV12 dc12 pm12 ct12 cd12 oc13 kV13 dc13 pm13 ct13 cd13 oc14 kV14 dc14 pm14 ct14 cd14 oc15 kV15 dc15 pm15 ct15 cd15 oc16 kV16 dc16 pm16 ct16 cd16 oc17 kV17 dc17 pm17 ct17 cd17 oc18 kV18 dc18 pm18 ct18 cd18 oc19 kV19 dc19 pm19 ct19 cd19 oc20 kV20 dc20 pm20 ct20 cd20 oc21 kV21 dc21 pm21 ct21 cd21 oc22 kV22 dc22 pm22 ct22 cd22 oc23 kV23 dc23 pm23 ct23 cd23 oc24 kV24 dc24 pm24 ct24 cd24 oc25 kV25 dc25 pm25 ct25 cd25 oc26 kV26 dc26 pm26 ct26 cd26 oc27 kV27 dc27 pm27 ct27 cd27 oc28 kV28 dc28 pm28 ct28 cd28 oc29 kV29 dc29 pm29 ct29 oc30 kV30 dc30 pm30 ct30 cd30 oc31 kV31 dc31 pm31 ct31 cd31 oc32 kV32 dc32 pm32 ct32 cd32:Value} {t_SMALL t_FIGURES t_GREAT t_AT_GREAT t_MARKS t_BEHIND_MARK t_AT_BEGINNING t_EACH_PLACE t_SAME_SIGN t_MOST_BETWEEN t_BESIDE t_MOST_AHEAD t_EACH_SLIP:Tok}
  {cc29:Addr}
  (a0:nsIn K mainGlobals "_law_cell" = some (some (.ref f0))) (l0:K.lookup f0=some ⟨oc0,od0,.func (fnOf "_law_cell" "_law_cell" (zO wf) (zH wf) (zl wf) .none kV0 dc0 pm0 an0 cd0 ct0),sl0⟩) (c0:codeIn K cd0 "_law_cell" = true) (k0:keepIn K (.ref f0)=true)
  (a1:nsIn K mainGlobals "_law_drawn" = some (some (.ref f1))) (l1:K.lookup f1=some ⟨oc1,od1,.func (fnOf "_law_drawn" "_law_drawn" (zO xN) (zH xN) (zl xN) .none kV1 dc1 pm1 an1 cd1 ct1),sl1⟩) (c1:codeIn K cd1 "_law_drawn" = true) (k1:keepIn K (.ref f1)=true)
  (a2:nsIn K mainGlobals "_law_name" = some (some (.ref f2))) (l2:K.lookup f2=some ⟨oc2,od2,.func (fnOf "_law_name" "_law_name" (zO wc) (zH wc) (zl wc) .none kV2 dc2 pm2 an2 cd2 ct2),sl2⟩) (c2:codeIn K cd2 "_law_name" = true) (k2:keepIn K (.ref f2)=true)
  (a3:nsIn K mainGlobals "_law_names" = some (some (.ref f3))) (l3:K.lookup f3=some ⟨oc3,od3,.func (fnOf "_law_names" "_law_names" (zO xL) (zH xL) (zl xL) .none kV3 dc3 pm3 an3 cd3 ct3),sl3⟩) (c3:codeIn K cd3 "_law_names" = true) (k3:keepIn K (.ref f3)=true)
  (a4:nsIn K mainGlobals "_law_mark" = some (some (.ref f4))) (l4:K.lookup f4=some ⟨oc4,od4,.func (fnOf "_law_mark" "_law_mark" (zO we) (zH we) (zl we) .none kV4 dc4 pm4 an4 cd4 ct4),sl4⟩) (c4:codeIn K cd4 "_law_mark" = true) (k4:keepIn K (.ref f4)=true)
  (a5:nsIn K mainGlobals "_law_query" = some (some (.ref f5))) (l5:K.lookup f5=some ⟨oc5,od5,.func (fnOf "_law_query" "_law_query" (zO xK) (zH xK) (zl xK) .none kV5 dc5 pm5 an5 cd5 ct5),sl5⟩) (c5:codeIn K cd5 "_law_query" = true) (k5:keepIn K (.ref f5)=true)
  (a6:nsIn K mainGlobals "_law_sorted" = some (some (.ref f6))) (l6:K.lookup f6=some ⟨oc6,od6,.func (fnOf "_law_sorted" "_law_sorted" (zO xm) (zH xm) (zl xm) .none kV6 dc6 pm6 an6 cd6 ct6),sl6⟩) (c6:codeIn K cd6 "_law_sorted" = true) (k6:keepIn K (.ref f6)=true)
  (a7:nsIn K mainGlobals "_law_rests" = some (some (.ref f7))) (l7:K.lookup f7=some ⟨oc7,od7,.func (fnOf "_law_rests" "_law_rests" (zO xJ) (zH xJ) (zl xJ) .none kV7 dc7 pm7 an7 cd7 ct7),sl7⟩) (c7:codeIn K cd7 "_law_rests" = true) (k7:keepIn K (.ref f7)=true)
  (a8:nsIn K mainGlobals "_law_meets" = some (some (.ref f8))) (l8:K.lookup f8=some ⟨oc8,od8,.func (fnOf "_law_meets" "_law_meets" (zO xM) (zH xM) (zl xM) .none kV8 dc8 pm8 an8 cd8 ct8),sl8⟩) (c8:codeIn K cd8 "_law_meets" = true) (k8:keepIn K (.ref f8)=true)
  (a9:nsIn K mainGlobals "_law_layings" = some (some (.ref f9))) (l9:K.lookup f9=some ⟨oc9,od9,.func (fnOf "_law_layings" "_law_layings" (zO y4) (zH y4) (zl y4) .none kV9 dc9 pm9 an9 cd9 ct9),sl9⟩) (c9:codeIn K cd9 "_law_layings" = true) (k9:keepIn K (.ref f9)=true)
  (a10:nsIn K mainGlobals "_law_alone" = some (some (.ref f10))) (l10:K.lookup f10=some ⟨oc10,od10,.func (fnOf "_law_alone" "_law_alone" (zO xO) (zH xO) (zl xO) .none kV10 dc10 pm10 an10 cd10 ct10),sl10⟩) (c10:codeIn K cd10 "_law_alone" = true) (k10:keepIn K (.ref f10)=true)
  (a11:nsIn K mainGlobals "_law_points" = some (some (.ref f11))) (l11:K.lookup f11=some ⟨oc11,od11,.func (fnOf "_law_points" "_law_points" (zO xn) (zH xn) (zl xn) .none kV11 dc11 pm11 an11 cd11 ct11),sl11⟩) (c11:codeIn K cd11 "_law_points" = true) (k11:keepIn K (.ref f11)=true)
  (a12:nsIn K mainGlobals "_law_best" = some (some (.ref f12))) (l12:K.lookup f12=some ⟨oc12,od12,.func (fnOf "_law_best" "_law_best" (zO wg) (zH wg) (zl wg) .none kV12 dc12 pm12 an12 cd12 ct12),sl12⟩) (c12:codeIn K cd12 "_law_best" = true) (k12:keepIn K (.ref f12)=true)
  (a13:nsIn K mainGlobals "_law_slipped" = some (some (.ref f13))) (l13:K.lookup f13=some ⟨oc13,od13,.func (fnOf "_law_slipped" "_law_slipped" (zO y3) (zH y3) (zl y3) .none kV13 dc13 pm13 an13 cd13 ct13),sl13⟩) (c13:codeIn K cd13 "_law_slipped" = true) (k13:keepIn K (.ref f13)=true)
  (a14:nsIn K mainGlobals "shorter_rests" = some (some (.ref f14))) (l14:K.lookup f14=some ⟨oc14,od14,.func (fnOf "shorter_rests" "shorter_rests" (zO yQ) (zH yQ) (zl yQ) .none kV14 dc14 pm14 an14 cd14 ct14),sl14⟩) (c14:codeIn K cd14 "shorter_rests" = true) (k14:keepIn K (.ref f14)=true)
  (a15:nsIn K mainGlobals "meets" = some (some (.ref f15))) (l15:K.lookup f15=some ⟨oc15,od15,.func (fnOf "meets" "meets" (zO uq) (zH uq) (zl uq) .none kV15 dc15 pm15 an15 cd15 ct15),sl15⟩) (c15:codeIn K cd15 "meets" = true) (k15:keepIn K (.ref f15)=true)
  (a16:nsIn K mainGlobals "earliest_places" = some (some (.ref f16))) (l16:K.lookup f16=some ⟨oc16,od16,.func (fnOf "earliest_places" "earliest_places" (zO yB) (zH yB) (zl yB) .none kV16 dc16 pm16 an16 cd16 ct16),sl16⟩) (c16:codeIn K cd16 "earliest_places" = true) (k16:keepIn K (.ref f16)=true)
  (a17:nsIn K mainGlobals "fits" = some (some (.ref f17))) (l17:K.lookup f17=some ⟨oc17,od17,.func (fnOf "fits" "fits" (zO jL) (zH jL) (zl jL) .none kV17 dc17 pm17 an17 cd17 ct17),sl17⟩) (c17:codeIn K cd17 "fits" = true) (k17:keepIn K (.ref f17)=true)
  (a18:nsIn K mainGlobals "least_slips" = some (some (.ref f18))) (l18:K.lookup f18=some ⟨oc18,od18,.func (fnOf "least_slips" "least_slips" (zO xk) (zH xk) (zl xk) .none kV18 dc18 pm18 an18 cd18 ct18),sl18⟩) (c18:codeIn K cd18 "least_slips" = true) (k18:keepIn K (.ref f18)=true)
  (a19:nsIn K mainGlobals "beginning_points" = some (some (.ref f19))) (l19:K.lookup f19=some ⟨oc19,od19,.func (fnOf "beginning_points" "beginning_points" (zO yu) (zH yu) (zl yu) .none kV19 dc19 pm19 an19 cd19 ct19),sl19⟩) (c19:codeIn K cd19 "beginning_points" = true) (k19:keepIn K (.ref f19)=true)
  (a20:nsIn K mainGlobals "own_points" = some (some (.ref f20))) (l20:K.lookup f20=some ⟨oc20,od20,.func (fnOf "own_points" "own_points" (zO xH) (zH xH) (zl xH) .none kV20 dc20 pm20 an20 cd20 ct20),sl20⟩) (c20:codeIn K cd20 "own_points" = true) (k20:keepIn K (.ref f20)=true)
  (a21:nsIn K mainGlobals "last_sign_tails" = some (some (.ref f21))) (l21:K.lookup f21=some ⟨oc21,od21,.func (fnOf "last_sign_tails" "last_sign_tails" (zO yA) (zH yA) (zl yA) .none kV21 dc21 pm21 an21 cd21 ct21),sl21⟩) (c21:codeIn K cd21 "last_sign_tails" = true) (k21:keepIn K (.ref f21)=true)
  (a22:nsIn K mainGlobals "first_of_most" = some (some (.ref f22))) (l22:K.lookup f22=some ⟨oc22,od22,.func (fnOf "first_of_most" "first_of_most" (zO yR) (zH yR) (zl yR) .none kV22 dc22 pm22 an22 cd22 ct22),sl22⟩) (c22:codeIn K cd22 "first_of_most" = true) (k22:keepIn K (.ref f22)=true)
  (a23:nsIn K mainGlobals "link_points" = some (some (.ref f23))) (l23:K.lookup f23=some ⟨oc23,od23,.func (fnOf "link_points" "link_points" (zO xj) (zH xj) (zl xj) .none kV23 dc23 pm23 an23 cd23 ct23),sl23⟩) (c23:codeIn K cd23 "link_points" = true) (k23:keepIn K (.ref f23)=true)
  (a24:nsIn K mainGlobals "linked_tails" = some (some (.ref f24))) (l24:K.lookup f24=some ⟨oc24,od24,.func (fnOf "linked_tails" "linked_tails" (zO y0) (zH y0) (zl y0) .none kV24 dc24 pm24 an24 cd24 ct24),sl24⟩) (c24:codeIn K cd24 "linked_tails" = true) (k24:keepIn K (.ref f24)=true)
  (a25:nsIn K mainGlobals "longer_tails" = some (some (.ref f25))) (l25:K.lookup f25=some ⟨oc25,od25,.func (fnOf "longer_tails" "longer_tails" (zO yZ) (zH yZ) (zl yZ) .none kV25 dc25 pm25 an25 cd25 ct25),sl25⟩) (c25:codeIn K cd25 "longer_tails" = true) (k25:keepIn K (.ref f25)=true)
  (a26:nsIn K mainGlobals "lead_points" = some (some (.ref f26))) (l26:K.lookup f26=some ⟨oc26,od26,.func (fnOf "lead_points" "lead_points" (zO xl) (zH xl) (zl xl) .none kV26 dc26 pm26 an26 cd26 ct26),sl26⟩) (c26:codeIn K cd26 "lead_points" = true) (k26:keepIn K (.ref f26)=true)
  (a27:nsIn K mainGlobals "best" = some (some (.ref f27))) (l27:K.lookup f27=some ⟨oc27,od27,.func (fnOf "best" "best" (zO jM) (zH jM) (zl jM) .none kV27 dc27 pm27 an27 cd27 ct27),sl27⟩) (c27:codeIn K cd27 "best" = true) (k27:keepIn K (.ref f27)=true)
  (a28:nsIn K mainGlobals "best_with_slips" = some (some (.ref f28))) (l28:K.lookup f28=some ⟨oc28,od28,.func (fnOf "best_with_slips" "best_with_slips" (zO yC) (zH yC) (zl yC) .none kV28 dc28 pm28 an28 cd28 ct28),sl28⟩) (c28:codeIn K cd28 "best_with_slips" = true) (k28:keepIn K (.ref f28)=true)
  (a29:nsIn K mainGlobals "in_order" = some (some (.ref f29))) (l29:K.lookup f29=some ⟨oc29,od29,.func (fnOf "in_order" "in_order" (zO wO) (zH wO) (zl wO) .none kV29 dc29 pm29 an29 (.ref cc29) ct29),sl29⟩) (c29:codeIn K (.ref cc29) "in_order" = true) (k29:keepIn K (.ref f29)=true) (tb29:PySem.W.codeHdIn K cc29 94=true)
  (a30:nsIn K mainGlobals "first_rows" = some (some (.ref f30))) (l30:K.lookup f30=some ⟨oc30,od30,.func (fnOf "first_rows" "first_rows" (zO xI) (zH xI) (zl xI) .none kV30 dc30 pm30 an30 cd30 ct30),sl30⟩) (c30:codeIn K cd30 "first_rows" = true) (k30:keepIn K (.ref f30)=true)
  (a31:nsIn K mainGlobals "finds_with_slips" = some (some (.ref f31))) (l31:K.lookup f31=some ⟨oc31,od31,.func (fnOf "finds_with_slips" "finds_with_slips" (zO yt) (zH yt) (zl yt) .none kV31 dc31 pm31 an31 cd31 ct31),sl31⟩) (c31:codeIn K cd31 "finds_with_slips" = true) (k31:keepIn K (.ref f31)=true)
  (a32:nsIn K mainGlobals "law" = some (some (.ref f32))) (l32:K.lookup f32=some ⟨oc32,od32,.func (fnOf "law" "law" (zO j1) (zH j1) (zl j1) .none kV32 dc32 pm32 an32 cd32 ct32),sl32⟩) (c32:codeIn K cd32 "law" = true) (k32:keepIn K (.ref f32)=true)
  (g_SMALL:nsIn K mainGlobals "SMALL" = some (some (.str "abcdefghijklmnopqrstuvwxyz" t_SMALL)))
  (g_FIGURES:nsIn K mainGlobals "FIGURES" = some (some (.str "0123456789" t_FIGURES)))
  (g_GREAT:nsIn K mainGlobals "GREAT" = some (some (.str "ABCDEFGHIJKLMNOPQRSTUVWXYZ" t_GREAT)))
  (g_AT_GREAT:nsIn K mainGlobals "AT_GREAT" = some (some (.int 5 t_AT_GREAT)))
  (g_MARKS:nsIn K mainGlobals "MARKS" = some (some (.str "_-./" t_MARKS)))
  (g_BEHIND_MARK:nsIn K mainGlobals "BEHIND_MARK" = some (some (.int 6 t_BEHIND_MARK)))
  (g_AT_BEGINNING:nsIn K mainGlobals "AT_BEGINNING" = some (some (.int 8 t_AT_BEGINNING)))
  (g_EACH_PLACE:nsIn K mainGlobals "EACH_PLACE" = some (some (.int 10 t_EACH_PLACE)))
  (g_SAME_SIGN:nsIn K mainGlobals "SAME_SIGN" = some (some (.int 1 t_SAME_SIGN)))
  (g_MOST_BETWEEN:nsIn K mainGlobals "MOST_BETWEEN" = some (some (.int 5 t_MOST_BETWEEN)))
  (g_BESIDE:nsIn K mainGlobals "BESIDE" = some (some (.int 7 t_BESIDE)))
  (g_MOST_AHEAD:nsIn K mainGlobals "MOST_AHEAD" = some (some (.int 3 t_MOST_AHEAD)))
  (g_EACH_SLIP:nsIn K mainGlobals "EACH_SLIP" = some (some (.int 15 t_EACH_SLIP)))
  (z_len:nsIn K mainGlobals "len" = some none)
  (z_range:nsIn K mainGlobals "range" = some none)
  (z_min:nsIn K mainGlobals "min" = some none)
  (z_sorted:nsIn K mainGlobals "sorted" = some none)
  (z_set:nsIn K mainGlobals "set" = some none)
  (z_int:nsIn K mainGlobals "int" = some none)
  (z_enumerate:nsIn K mainGlobals "enumerate" = some none)
  (z_any:nsIn K mainGlobals "any" = some none)
  (z_max:nsIn K mainGlobals "max" = some none)
  : TX K∧∃fd:FuncData,(∀(s:Shared) (v:Value),BindsTo s fd ⟨[v],[]⟩ [("_law_script", v)])∧∀base:Heap,K.In base→base.Ns mainGlobals mg→BM mg base→FnOk l.prog w K mg base CX0 7 fa fd ["_law_script"] (Jx K):=by
 have e:=hfa.symm.trans (mg_of X G a32)
 cases e
 refine⟨fun r hr=>?_,?_⟩
 ·rcases hr with _|⟨_,hr⟩
  ·exact⟨_,tb29⟩
  ·cases hr
 have D0:zS K mg "_law_cell" wf f0 _:=⟨yo (st:=wf) l0 c0 k0,mg_of X G a0⟩
 have D1:zS K mg "_law_drawn" xN f1 _:=⟨yo (st:=xN) l1 c1 k1,mg_of X G a1⟩
 have D2:zS K mg "_law_name" wc f2 _:=⟨yo (st:=wc) l2 c2 k2,mg_of X G a2⟩
 have D3:zS K mg "_law_names" xL f3 _:=⟨yo (st:=xL) l3 c3 k3,mg_of X G a3⟩
 have D4:zS K mg "_law_mark" we f4 _:=⟨yo (st:=we) l4 c4 k4,mg_of X G a4⟩
 have D5:zS K mg "_law_query" xK f5 _:=⟨yo (st:=xK) l5 c5 k5,mg_of X G a5⟩
 have D6:zS K mg "_law_sorted" xm f6 _:=⟨yo (st:=xm) l6 c6 k6,mg_of X G a6⟩
 have D7:zS K mg "_law_rests" xJ f7 _:=⟨yo (st:=xJ) l7 c7 k7,mg_of X G a7⟩
 have D8:zS K mg "_law_meets" xM f8 _:=⟨yo (st:=xM) l8 c8 k8,mg_of X G a8⟩
 have D9:zS K mg "_law_layings" y4 f9 _:=⟨yo (st:=y4) l9 c9 k9,mg_of X G a9⟩
 have D10:zS K mg "_law_alone" xO f10 _:=⟨yo (st:=xO) l10 c10 k10,mg_of X G a10⟩
 have D11:zS K mg "_law_points" xn f11 _:=⟨yo (st:=xn) l11 c11 k11,mg_of X G a11⟩
 have D12:zS K mg "_law_best" wg f12 _:=⟨yo (st:=wg) l12 c12 k12,mg_of X G a12⟩
 have D13:zS K mg "_law_slipped" y3 f13 _:=⟨yo (st:=y3) l13 c13 k13,mg_of X G a13⟩
 have D14:zS K mg "shorter_rests" yQ f14 _:=⟨yo (st:=yQ) l14 c14 k14,mg_of X G a14⟩
 have D15:zS K mg "meets" uq f15 _:=⟨yo (st:=uq) l15 c15 k15,mg_of X G a15⟩
 have D16:zS K mg "earliest_places" yB f16 _:=⟨yo (st:=yB) l16 c16 k16,mg_of X G a16⟩
 have D17:zS K mg "fits" jL f17 _:=⟨yo (st:=jL) l17 c17 k17,mg_of X G a17⟩
 have D18:zS K mg "least_slips" xk f18 _:=⟨yo (st:=xk) l18 c18 k18,mg_of X G a18⟩
 have D19:zS K mg "beginning_points" yu f19 _:=⟨yo (st:=yu) l19 c19 k19,mg_of X G a19⟩
 have D20:zS K mg "own_points" xH f20 _:=⟨yo (st:=xH) l20 c20 k20,mg_of X G a20⟩
 have D21:zS K mg "last_sign_tails" yA f21 _:=⟨yo (st:=yA) l21 c21 k21,mg_of X G a21⟩
 have D22:zS K mg "first_of_most" yR f22 _:=⟨yo (st:=yR) l22 c22 k22,mg_of X G a22⟩
 have D23:zS K mg "link_points" xj f23 _:=⟨yo (st:=xj) l23 c23 k23,mg_of X G a23⟩
 have D24:zS K mg "linked_tails" y0 f24 _:=⟨yo (st:=y0) l24 c24 k24,mg_of X G a24⟩
 have D25:zS K mg "longer_tails" yZ f25 _:=⟨yo (st:=yZ) l25 c25 k25,mg_of X G a25⟩
 have D26:zS K mg "lead_points" xl f26 _:=⟨yo (st:=xl) l26 c26 k26,mg_of X G a26⟩
 have D27:zS K mg "best" jM f27 _:=⟨yo (st:=jM) l27 c27 k27,mg_of X G a27⟩
 have D28:zS K mg "best_with_slips" yC f28 _:=⟨yo (st:=yC) l28 c28 k28,mg_of X G a28⟩
 have D29:Jq K mg "in_order" wO f29 cc29 94:=⟨⟨_,_,_,_,_,_,_,_,l29⟩,c29,k29,mg_of X G a29,tb29⟩
 have D30:zS K mg "first_rows" xI f30 _:=⟨yo (st:=xI) l30 c30 k30,mg_of X G a30⟩
 have D31:zS K mg "finds_with_slips" yt f31 _:=⟨yo (st:=yt) l31 c31 k31,mg_of X G a31⟩
 refine⟨fnOf "law" "law" (zO j1) (zH j1) (zl j1) .none kV32 dc32 pm32 an32 cd32 ct32,fun s v=>.of_eq rfl,fun base _ _ bm=>?_⟩
 have h__law_cell:DefOk l.prog w K mg base "_law_cell" 1 2 ["_law_script", "_law_k"] wD:=W9 D0 (mg_none_of X G z_len)
 have h__law_drawn:DefOk l.prog w K mg base "_law_drawn" 2 3 ["_law_script", "_law_k", "_law_many"] zr:=XX D1 h__law_cell
 have h__law_name:DefOk l.prog w K mg base "_law_name" 3 2 ["_law_script", "_law_at"] xE:=W7 D2 h__law_drawn (mg_none_of X G z_range)
 have h__law_names:DefOk l.prog w K mg base "_law_names" 4 3 ["_law_script", "_law_at", "_law_most"] xV:=XV D3 h__law_drawn h__law_name (mg_none_of X G z_len) (mg_none_of X G z_range)
 have h__law_mark:DefOk l.prog w K mg base "_law_mark" 1 1 ["_law_sign"] xF:=W8 D4
 have h__law_query:DefOk l.prog w K mg base "_law_query" 3 4 ["_law_script", "_law_at", "_law_name_here", "_law_most"] xU:=XU D5 h__law_drawn h__law_mark (mg_none_of X G z_range) (mg_none_of X G z_len) (mg_none_of X G z_min)
 have h__law_sorted:DefOk l.prog w K mg base "_law_sorted" 1 2 ["_law_names_here", "_law_rows"] xt:=Y2 D6 (mg_none_of X G z_len) (mg_none_of X G z_sorted)
 have h__law_rests:DefOk l.prog w K mg base "_law_rests" 1 1 ["_law_query_here"] yq:=XT D7 (mg_none_of X G z_sorted) (mg_none_of X G z_set)
 have h__law_meets:DefOk l.prog w K mg base "_law_meets" 1 2 ["_law_typed", "_law_sign"] xf:=XW D8
 have h__law_layings:DefOk l.prog w K mg base "_law_layings" 2 2 ["_law_query_here", "_law_name_here"] yc:=Ye D9 h__law_meets (mg_none_of X G z_len) (mg_none_of X G z_range)
 have h__law_alone:DefOk l.prog w K mg base "_law_alone" 1 3 ["_law_typed", "_law_name_here", "_law_place"] xg:=XY D10 (mg_none_of X G z_int)
 have h__law_points:DefOk l.prog w K mg base "_law_points" 2 3 ["_law_query_here", "_law_name_here", "_law_laying"] yV:=Y3 D11 h__law_alone (mg_none_of X G z_enumerate) (mg_none_of X G z_min)
 have h__law_best:DefOk l.prog w K mg base "_law_best" 3 2 ["_law_query_here", "_law_name_here"] wn:=Va D12 h__law_layings h__law_points
 have h__law_slipped:DefOk l.prog w K mg base "_law_slipped" 4 3 ["_law_query_here", "_law_name_here", "_law_many"] y9:=Yd D13 h__law_rests h__law_best (mg_none_of X G z_min) (mg_none_of X G z_len)
 have h_shorter_rests:DefOk l.prog w K mg base "shorter_rests" 1 1 ["rests"] yg:=ZF D14 (mg_none_of X G z_len) (mg_none_of X G z_range) (mg_none_of X G z_sorted)
 have h_meets:DefOk l.prog w K mg base "meets" 1 2 ["sign", "other"] wb:=Mp D15 (mg_of X G g_SMALL)
 have h_earliest_places:DefOk l.prog w K mg base "earliest_places" 2 2 ["query", "name"] yP:=jP D16 h_meets (mg_none_of X G z_len) (mg_none_of X G z_range)
 have h_fits:DefOk l.prog w K mg base "fits" 3 2 ["query", "name"] jS:=LR D17 h_earliest_places (mg_none_of X G z_len)
 have h_least_slips:DefOk l.prog w K mg base "least_slips" 4 2 ["query", "name"] xr:=YZ D18 h_fits h_shorter_rests (mg_none_of X G z_any)
 have h_beginning_points:DefOk l.prog w K mg base "beginning_points" 1 2 ["name", "place"] yI:=jz D19 (mg_of X G g_FIGURES) (mg_of X G g_SMALL) (mg_of X G g_GREAT) (mg_of X G g_AT_GREAT) (mg_of X G g_MARKS) (mg_of X G g_BEHIND_MARK) (mg_of X G g_AT_BEGINNING)
 have h_own_points:DefOk l.prog w K mg base "own_points" 2 3 ["sign", "name", "place"] yD:=XR D20 h_beginning_points (mg_of X G g_EACH_PLACE) (mg_of X G g_SAME_SIGN)
 have h_last_sign_tails:DefOk l.prog w K mg base "last_sign_tails" 3 2 ["sign", "name"] yn:=jO D21 h_meets h_own_points (mg_none_of X G z_len) (mg_none_of X G z_range)
 have h_first_of_most:DefOk l.prog w K mg base "first_of_most" 1 1 ["tails"] z0:=ZG D22
 have h_link_points:DefOk l.prog w K mg base "link_points" 1 2 ["ahead", "place"] xq:=YY D23 (mg_of X G g_MOST_BETWEEN) (mg_of X G g_BESIDE) (mg_none_of X G z_min)
 have h_linked_tails:DefOk l.prog w K mg base "linked_tails" 2 2 ["place", "tails"] yM:=Yc D24 h_link_points
 have h_longer_tails:DefOk l.prog w K mg base "longer_tails" 3 3 ["sign", "name", "tails"] y8:=Yb D25 h_meets h_own_points h_linked_tails h_first_of_most (mg_none_of X G z_len) (mg_none_of X G z_range)
 have h_lead_points:DefOk l.prog w K mg base "lead_points" 1 1 ["place"] yU:=Y1 D26 (mg_of X G g_MOST_AHEAD) (mg_none_of X G z_min)
 have h_best:DefOk l.prog w K mg base "best" 4 2 ["query", "name"] uz:=LS D27 h_lead_points h_first_of_most h_longer_tails h_last_sign_tails (mg_none_of X G z_len) (mg_none_of X G z_range)
 have h_best_with_slips:DefOk l.prog w K mg base "best_with_slips" 5 3 ["query", "name", "many"] zX:=jQ D28 h_shorter_rests h_best (mg_of X G g_EACH_SLIP) (mg_none_of X G z_len) (mg_none_of X G z_min) (mg_none_of X G z_range)
 have h_in_order:DefOk l.prog w K mg base "in_order" 4 2 ["names", "rows"] wm:=V0 D29 bm (mg_none_of X G z_len) (mg_none_of X G z_sorted)
 have h_first_rows:DefOk l.prog w K mg base "first_rows" 5 3 ["names", "rows", "many"] xT:=XS D30 h_in_order (mg_none_of X G z_max)
 have h_finds_with_slips:DefOk l.prog w K mg base "finds_with_slips" 6 4 ["names", "query", "slips", "many"] zR:=jy D31 h_first_rows h_best_with_slips (mg_none_of X G z_enumerate)
 exact zo7 (zm8 (yo (st:=j1) l32 c32 k32) h_finds_with_slips h__law_sorted h_best_with_slips h__law_slipped h_least_slips h__law_rests h__law_layings h__law_drawn h__law_query h__law_names (mg_none_of X G z_enumerate) (mg_none_of X G z_len) (mg_none_of X G z_max)) hl
end Law
open PySem PySem.W PyProof.Rows
set_option maxRecDepth 100000 in
set_option maxHeartbeats 0 in
theorem PySem.Challenge.cw_fewfind_k84_slips_holds : PySem.Challenge.rw_fewfind_k84_slips.Holds := by
 w_on;o_law;k_head;(case hw=>w_witness2)
 k_fill
 refine FD.walkM (l:=PySem.Challenge.rw_fewfind_k84_slips) (k:=7) (p := "_law_script") rfl rfl ⟨rfl,by decide,by decide⟩ ?T ?F
 case F=>
  intro w mg fa h KX G hmg
  refine' Law.all_mk KX G hmg Law.main ..
  any_goals first|k_is|k_exc|with_unfolding_all rfl
 case T=>decide
