import PyProof.Rows.All
import Wide.All
import OpenK.AllK
import Wide.FinOn
import Lean
import PyProof.EqAt
import PyProof.EqKinds
import PyProof.TupleCall
import PyProof.NeKinds
import PyProof.NeData
import PyProof.P3In
import PyProof.ZipIter
import PyProof.Draws
import PyProof.StrWalks
import PyProof.IsiPairs
import PyProof.IsiSeqPairs
import PyProof.ConsumeWalk
import PyProof.ListStr
import PyProof.IsiHeapPairs
import PyProof.Rows.Range3
import PyProof.IsiNone
import KE.KRevIter
import KE.KRevSl
import PyProof.Conv_int_bool
import PyProof.ListRange
import PyProof.TupleOfSeq
import PyProof.MinMaxWalk
import PyProof.WalkInts
import PyProof.SeqI3
import PyProof.SetKind
import PyProof.Rows.SetFrom
import PyProof.CollectWalk
import PyProof.FactsAll.set
import PyProof.Rows.SortWalk
import PyProof.Rows.SortShell
import PyProof.Rows.SumAny
import PyProof.DictWalks
import PyProof.Rows.SortRev
import PySem.Challenge.RW_fewfind_k20_found
set_option Elab.async false
set_option linter.all false
set_option maxRecDepth 100000
open PySem.W (methodObj keepIn cellsFrom_some fnOf codeIn nsIn excIn exmOne findIn findObj mroIn typeIn kitCls kitOne mg_of mg_none_of)
open PyProof.Rows (boot_list boot_sorted boot_int)
open List (mem_filter mem_range filterMap_cons mem_cons_self mem_cons_of_mem mem_cons mem_append mem_append_left getElem?_set_self getElem?_set_ne mem_filterMap mem_append_right size_toArray append_nil nodup_cons length_take getElem?_append_right getElem?_replicate getElem?_append_left getElem?_map mem_of_getElem? length_append length_map length_drop length_set replicate_succ flatten_cons append_assoc foldl_cons length_singleton map_nil map_cons getElem?_set lookup_cons set_set length_cons all_eq_true ext_getElem length_range cons_append mem_map pairwise_cons pairwise_map map_map getElem?_eq_getElem map_append take_of_length_le mem_singleton pairwise_lt_range getElem_mem not_mem_nil getD_eq_getElem?_getD find?_cons any_cons length_nil map_congr_left getElem?_of_mem getElem?_cons_zero getElem?_cons_succ set_cons_succ set_cons_zero getD_cons_zero getD_cons_succ map_id length_filter_le length_pos_iff flatMap_cons)
open Nat (lt_of_lt_of_le lt_irrefl ne_of_lt le_trans le_of_lt ne_of_gt le_refl lt_or_ge zero_le lt_succ_self lt_trans zero_add le_succ lt_succ_of_lt)
open Int (toNat_natCast emod_nonneg)
open Array (length_toList getElem_toList getElem?_toList)
open PySem.W (Frag)
open PySem.Heap (get?_push_of_some)
namespace L2
open PySem PySem.Spec PyProof.Rows
theorem lnz1{α:Type _}{l:List α}(h:l.length=1):∃a,l=[a]:=List.length_eq_one_iff.mp h
theorem lnz2{α:Type _}{l:List α}(h:l.length=2):∃a b,l=[a,b]:=by
 match l,h with
 |[a,b],_=>exact⟨a,b,rfl⟩
theorem lnz3{α:Type _}{l:List α}(h:l.length=3):∃a b c,l=[a,b,c]:=by
 match l,h with
 |[a,b,c],_=>exact⟨a,b,c,rfl⟩
theorem lnz4{α:Type _}{l:List α}(h:l.length=4):∃a b c d,l=[a,b,c,d]:=by
 match l,h with
 |[a,b,c,d],_=>exact⟨a,b,c,d,rfl⟩
noncomputable abbrev Key:=Sum Int Str
noncomputable def Ww:Key→Value→Bool
 |.inl k,v=>Value.isInt k v
 |.inr x,v=>Value.isStrOf x v
noncomputable def keyH(w:World):Key→Int
 |.inl k=>hashInt k
 |.inr x=>hashStr w x
theorem xc:∀{k:Key} {v:Value},Ww k v=true→(∃i t,k=Sum.inl i∧v=Value.int i t)∨(∃x t,k=Sum.inr x∧v=Value.str x t)
 |.inl i,v,h=>by
  obtain⟨t,e⟩:=Value.isInt_shape (k:=i) (v:=v) h
  exact .inl ⟨i,t,rfl,e⟩
 |.inr x,v,h=>by
  obtain⟨t,e⟩:=Value.isStrOf_shape (x:=x) (v:=v) h
  exact .inr ⟨x,t,rfl,e⟩
theorem GO(i:Int)(t:Tok):Ww (.inl i) (.int i t)=true:=by simp[Ww,Value.isInt]
theorem GN(x:Str)(t:Tok):Ww (.inr x) (.str x t)=true:=by simp[Ww,Value.isStrOf]
theorem zs6(a b:Int):decide ((Sum.inl a:Key)=Sum.inl b)=(a==b):=by
 by_cases e:a=b
 ·subst e;simp
 ·have h:¬ (Sum.inl a:Key)=Sum.inl b:=fun q=>e (Sum.inl.inj q)
  rw[decide_eq_false h]
  exact(beq_eq_false_iff_ne.mpr e).symm
theorem zs3(a b:Str):decide ((Sum.inr a:Key)=Sum.inr b)=decide (a=b):=by
 by_cases e:a=b
 ·subst e;simp
 ·have h:¬ (Sum.inr a:Key)=Sum.inr b:=fun q=>e (Sum.inr.inj q)
  rw[decide_eq_false h,decide_eq_false e]
theorem zs5(a:Int)(b:Str):decide ((Sum.inl a:Key)=Sum.inr b)=false:=decide_eq_false (fun q=>nomatch q)
theorem zs4(a:Str)(b:Int):decide ((Sum.inr a:Key)=Sum.inl b)=false:=decide_eq_false (fun q=>nomatch q)
noncomputable def xU(prog:Program)(w:World):PySem.KeyKind prog w Key where
 is:=Ww
 hash:=keyH w
 inj:=fun v a b ha hb=>by
  rcases xc ha with ⟨i,t,rfl,rfl⟩|⟨x,t,rfl,rfl⟩
  ·rcases xc hb with ⟨j,u,rfl,e⟩|⟨y,u,rfl,e⟩
   ·injection e with e1 _;rw[e1]
   ·exact nomatch e
  ·rcases xc hb with ⟨j,u,rfl,e⟩|⟨y,u,rfl,e⟩
   ·exact nomatch e
   ·injection e with e1 _;rw[e1]
 byValue:=fun k v h=>by
  rcases xc h with ⟨i,t,rfl,rfl⟩|⟨x,t,rfl,rfl⟩ <;> rfl
 pyHash:=fun hv h=>by
  rcases xc hv with ⟨i,t,rfl,rfl⟩|⟨x,t,rfl,rfl⟩
  ·exact wpAny_pyHash_int h
  ·exact wpAny_pyHash_str h
 eqBool:=fun hu hv h=>by
  rcases xc hu with ⟨i,t,rfl,rfl⟩|⟨x,t,rfl,rfl⟩
  ·rcases xc hv with ⟨j,u,rfl,rfl⟩|⟨y,u,rfl,rfl⟩
   ·rw[zs6] at h;exact wpAny_eqBool_int h
   ·rw[zs5] at h;exact SeqAt.EqAt.int_str i t y u _ _ _ _ h
  ·rcases xc hv with ⟨j,u,rfl,rfl⟩|⟨y,u,rfl,rfl⟩
   ·rw[zs4] at h;exact SeqAt.EqAt.str_int x t j u _ _ _ _ h
   ·rw[zs3] at h;exact wpAny_eqBool_str h
 «strs»:=fun k x t v h=>by
  rcases xc h with ⟨i,u,rfl,e⟩|⟨y,u,rfl,e⟩
  ·exact nomatch e
  ·injection e with e1 _
   subst e1
   cases v <;> rfl
theorem V6(prog:Program)(w:World)(i:Int)(t:Tok):(xU prog w).is (.inl i) (.int i t)=true:=GO i t
theorem V5(prog:Program)(w:World)(x:Str)(t:Tok):(xU prog w).is (.inr x) (.str x t)=true:=GN x t
inductive V where
 | non|bl (b:Bool) | int (i:Int) | str (x:Str) | byt (b:Array UInt8) | flt (b:UInt64) | ref (a:Addr) | ty (n:String)
 deriving DecidableEq
noncomputable def RelV:V→Value→Prop
 |.non,u=>u=Value.none
 |.bl b,u=>u=Value.bool b
 |.int i,u=>∃t,u=Value.int i t
 |.str x,u=>∃t,u=Value.str x t
 |.byt b,u=>∃t,u=Value.bytes b t
 |.flt b,u=>∃t,u=Value.float b t
 |.ref a,u=>u=Value.ref a
 |.ty n,u=>u=Value.type n
noncomputable abbrev Vals:List V→List Value→Prop:=Paired RelV
theorem Vals.length{xs:List V}{us:List Value}(r:Vals xs us):xs.length=us.length:=Paired.length r
theorem Vals.get:∀{xs:List V} {us:List Value} {i:Nat} {x:V},Vals xs us→xs[i]?=some x→∃u,us[i]?=some u∧RelV x u
 |_,_,_,_,.nil,e=>by simp at e
 |_,_,0,_,.cons r _,e=>by simp at e;subst e;exact⟨_,rfl,r⟩
 |_,_,i+1,x,.cons _ t,e=>by
  obtain⟨u,h1,h2⟩:=Vals.get (i:=i) (x:=x) t (by simpa using e)
  exact⟨u,by simpa using h1,h2⟩
theorem Vals.set{x:V}{u:Value}(r:RelV x u):∀{xs:List V} {us:List Value} (i:Nat),Vals xs us→Vals (xs.set i x) (us.set i u)
 |_,_,_,.nil=>.nil
 |_,_,0,.cons _ t=>.cons r t
 |_,_,i+1,.cons q t=>.cons q (Vals.set r i t)
theorem Vals.append:∀{xs ys:List V} {us ws:List Value},Vals xs us→Vals ys ws→Vals (xs++ys) (us++ws)
 |_,_,_,_,.nil,s=>s
 |_,_,_,_,.cons r t,s=>.cons r (Vals.append t s)
theorem Vals.take:∀{xs:List V} {us:List Value} (n:Nat),Vals xs us→Vals (xs.take n) (us.take n)
 |_,_,0,_=>.nil
 |_,_,_+1,.nil=>.nil
 |_,_,n+1,.cons r t=>.cons r (Vals.take n t)
theorem Vals.drop:∀{xs:List V} {us:List Value} (n:Nat),Vals xs us→Vals (xs.drop n) (us.drop n)
 |_,_,0,r=>r
 |_,_,_+1,.nil=>.nil
 |_,_,n+1,.cons _ t=>Vals.drop n t
noncomputable def RelO:Option V→Option Value→Prop
 |some v,some u=>RelV v u
 |none,none=>True
 |_,_=>False
noncomputable def KV{κ:Type}:List (κ×V)→List (κ×Value)→Prop:=Paired fun (p:κ×V) (q:κ×Value)=>p.1=q.1∧RelV p.2 q.2
noncomputable def kV:Key→V
 |.inl i=>.int i
 |.inr x=>.str x
inductive HO where
 | lst (xs:List V)
 | tup (xs:List V)
 | dK (kvs:List (Key×V)) | dT (kvs:List (List Key×V))
 | set (S:Int→Bool) (n:Nat)
 | ins (C dx:Addr) (fs:List (Str×V))
 | own (x:Addr)
 | xd (fs:List (Str×V))
 | met (f x:Addr)
 | rng (lo hi:Int)
 | frz (o:Obj) (u:HO)
 | tbl (ps:Array Value)
 | ext (φ:Heap→Prop)
noncomputable abbrev Hp:=Addr→Option HO
noncomputable def upd(H:Hp)(a:Addr)(o:HO):Hp:=fun b=>if b=a then some o else H b
theorem zv{H:Hp}{a:Addr}{o:HO}:upd H a o a=some o:=by unfold upd;rw[if_pos rfl]
theorem zo{H:Hp}{a b:Addr}{o:HO}(h:b≠a):upd H a o b=H b:=by unfold upd;rw[if_neg h]
theorem ne_of{H:Hp}{a b:Addr}{o u:HO}(h:H a=some o)(h':H b=some u)(d:o≠u):a≠b:=by
 intro e;subst e;rw[h] at h';exact d (Option.some.inj h')
theorem zP{H:Hp}{a b:Addr}{o:HO}(h:H a=some o)(h':H b=none):a≠b:=by
 intro e;subst e;rw[h] at h';cases h'
section
variable(P:Program)(w:World)
noncomputable def ObjOk(H:Hp)(h:Heap)(a:Addr):HO→Prop
 |.lst xs=>xs.length≤sizeLine∧∃(its:List Value) (n:Nat),Vals xs its∧h.get? a=some { cls:=.type "list", data:=.seq its.toArray n }
 |.tup xs=>xs.length≤sizeLine∧∃its:List Value,Vals xs its∧IsTup h a its.toArray
 |.dK kvs=>kvs.length≤sizeLine∧(a==sysModules)=false∧∃vs,KV kvs vs∧h.DictOf (xU P w) a vs
 |.dT kvs=>kvs.length≤sizeLine∧(a==sysModules)=false∧∃xs:List (List Key×Addr×Value),
   Paired (fun (p:List Key×V) (q:List Key×Addr×Value)=>p.1=q.1∧H q.2.1=some (.tup (p.1.map kV))∧RelV p.2 q.2.2) kvs xs ∧
   ∃o es ep,h.get? a=some o∧o.ExactDict∧o.data=.dict es ep∧es.toList=xs.map (entryOfKey (tupleKind (xU P w)))∧(xs.map (·.1)).Nodup
 |.set S n=>h.SetOf (intKind P w) a S n
 |.ins C dx fs=>H dx=some (.own a)∧fs.length≤1000∧dx≠a∧h.get? a=some (PySem.W.instObj C dx) ∧
   ∃mA,h.Ns1 dx mA∧(∀f,RelO (fs.lookup f) (mA f))∧PySem.Within mA (fs.map (·.1))
 |.own _=>∃o,h.get? a=some o
 |.xd fs=>∃mA,h.Ns1 a mA∧∀f,RelO (fs.lookup f) (mA f)
 |.rng lo hi=>∃t u v,h.get? a=some { cls:=.type "range", data:=.fields #[.int lo t,.int hi u,.int 1 v] }
 |.frz o u=>h.get? a=some o∧ObjOk H h a u
 |.tbl ps=>h.get? a=some { cls:=.none,data:=.fields ps }
 |.met f x=>h.get? a=some (methodObj (.ref f) (.ref x))
 |.ext φ=>φ h∧(∃o,h.get? a=some o)∧∀h1 h2:Heap,φ h1→(∀o,h1.get? a=some o→h2.get? a=some o)→φ h2
noncomputable def HOk(H:Hp)(h:Heap):Prop:=∀a o,H a=some o→ObjOk P w H h a o
end
section
variable{P:Program}{w:World}{H H':Hp}{h h':Heap}{a:Addr}{o:HO}
theorem ObjOk.lt(x:ObjOk P w H h a o):a<h.objs.size:=by
 cases o with
 |lst xs=>obtain⟨_,_,_,_,e⟩:=x;exact Heap.lt_size e
 |tup xs=>obtain⟨_,_,_,p⟩:=x;exact p.lt
 |dK kvs=>obtain⟨_,_,_,_,o,_,_,e,_⟩:=x;exact Heap.lt_size e
 |dT kvs=>obtain⟨_,_,_,_,o,_,_,e,_⟩:=x;exact Heap.lt_size e
 |set S n=>obtain⟨o,_,_,_,e,_⟩:=x;exact Heap.lt_size e
 |ins C dx fs=>obtain⟨_,_,_,e,_⟩:=x;exact Heap.lt_size e
 |own y=>obtain⟨_,e⟩:=x;exact Heap.lt_size e
 |xd fs=>obtain⟨_,⟨_,_,_,e,_⟩,_⟩:=x;exact Heap.lt_size e
 |rng lo hi=>obtain⟨_,_,_,e⟩:=x;exact Heap.lt_size e
 |frz ob u=>obtain⟨e,_⟩:=x;exact Heap.lt_size e
 |tbl ps=>exact Heap.lt_size (show h.get? a=some _ from x)
 |met f y=>exact Heap.lt_size (show h.get? a=some _ from x)
 |ext φ=>obtain⟨_,⟨_,e⟩,_⟩:=x;exact Heap.lt_size e
theorem Paired.mapP{α β:Type}{F G:α→β→Prop}:∀{l₁:List α} {l₂:List β},Paired F l₁ l₂→(∀a b,F a b→G a b)→Paired G l₁ l₂
 |_,_,.nil,_=>.nil
 |_,_,.cons r t,f=>.cons (f _ _ r) (Paired.mapP t f)
theorem ObjOk.stay(x:ObjOk P w H h a o)(k:∀b u,(b=a∨H b=some (.own a))→h.get? b=some u→h'.get? b=some u)
  (ho:∀b,H b=some (.own a)→H' b=some (.own a)) (ht:∀b xs,H b=some (.tup xs)→H' b=some (.tup xs)):ObjOk P w H' h' a o:=by
 induction o with
 |lst xs=>obtain⟨z,its,n,r,e⟩:=x;exact⟨z,its,n,r,k _ _ (.inl rfl) e⟩
 |tup xs=>obtain⟨z,its,r,ob,e,c⟩:=x;exact⟨z,its,r,ob,k _ _ (.inl rfl) e,c⟩
 |dK kvs=>obtain⟨z,y,vs,r,ob,es,ep,e,c⟩:=x;exact⟨z,y,vs,r,ob,es,ep,k _ _ (.inl rfl) e,c⟩
 |dT kvs=>
  obtain⟨z,y,xs,r,ob,es,ep,e,c⟩:=x
  exact⟨z,y,xs,Paired.mapP r fun p q z=>⟨z.1,ht _ _ z.2.1,z.2.2⟩,ob,es,ep,k _ _ (.inl rfl) e,c⟩
 |set S n=>obtain⟨ob,es,ep,t,e,c⟩:=x;exact⟨ob,es,ep,t,k _ _ (.inl rfl) e,c⟩
 |ins C dx fs=>
  obtain⟨d,z,ne,e,mA,⟨od,es,ep,e2,c⟩,r⟩:=x
  exact⟨ho _ d,z,ne,k _ _ (.inl rfl) e,mA,⟨od,es,ep,k _ _ (.inr d) e2,c⟩,r⟩
 |own y=>obtain⟨ob,e⟩:=x;exact⟨ob,k _ _ (.inl rfl) e⟩
 |xd fs=>obtain⟨mA,⟨od,es,ep,e,c⟩,r⟩:=x;exact⟨mA,⟨od,es,ep,k _ _ (.inl rfl) e,c⟩,r⟩
 |rng lo hi=>obtain⟨t,u,v,e⟩:=x;exact⟨t,u,v,k _ _ (.inl rfl) e⟩
 |frz ob u ih=>obtain⟨e,q⟩:=x;exact⟨k _ _ (.inl rfl) e,ih q⟩
 |tbl ps=>
  have e:h.get? a=some { cls:=.none,data:=.fields ps }:=x
  show h'.get? a=some { cls:=.none,data:=.fields ps }
  exact k a _ (.inl rfl) e
 |met f y=>
  have e:h.get? a=some (methodObj (.ref f) (.ref y)):=x
  show h'.get? a=some (methodObj (.ref f) (.ref y))
  exact k a _ (.inl rfl) e
 |ext φ=>obtain⟨p,⟨o,e⟩,st⟩:=x;exact⟨st _ _ p fun o q=>k _ _ (.inl rfl) q,⟨o,k _ _ (.inl rfl) e⟩,st⟩
theorem HOk.lt(x:HOk P w H h)(e:H a=some o):a<h.objs.size:=(x a o e).lt
theorem HOk.fresh(x:HOk P w H h)(e:h.objs.size≤a):H a=none:=by
 cases q:H a with
 |none=>rfl
 |some u=>exact absurd (lt_of_lt_of_le (x.lt q) e) (lt_irrefl _)
theorem HOk.kept(x:HOk P w H h)(k:∀b u,h.get? b=some u→h'.get? b=some u):HOk P w H h':=fun a o e=>
 (x a o e).stay (fun b u _ q=>k b u q) (fun _ q=>q) fun _ _ q=>q
theorem HOk.laid(x:HOk P w H h)(k:∀b u,h.get? b=some u→h'.get? b=some u)(hp:h.objs.size≤a)(new:ObjOk P w (upd H a o) h' a o):HOk P w (upd H a o) h':=fun b u e=>by
 have hn:=x.fresh hp
 by_cases hb:b=a
 ·subst hb;rw[zv] at e;cases e;exact new
 ·rw[zo hb] at e
  exact(x b u e).stay (fun c v _ q=>k c v q) (fun c q=>by rw[zo (zP q hn)];exact q) fun c xs q=>by rw[zo (zP q hn)];exact q
end
noncomputable def Rd(H:Hp)(a:Addr)(u:HO):Prop:=H a=some u∨∃o,H a=some (.frz o u)
theorem Rd.ok{P:Program}{w:World}{H:Hp}{h:Heap}{a:Addr}{u:HO}(r:Rd H a u)(x:HOk P w H h):ObjOk P w H h a u:=by
 rcases r with r|⟨o,r⟩
 ·exact x a u r
 ·obtain⟨_,q⟩:=x a _ r
  exact q
noncomputable def Mut:Option HO→Prop
 | some (.lst _)=>True
 | some (.dK _)=>True
 | some (.dT _)=>True
 | some (.set _ _)=>True
 | some (.ins _ _ _)=>True
 | some (.ext _)=>True
 |_=>False
section
variable{P:Program}{w:World}{H:Hp}{h h':Heap}{x e:Addr}{o':HO}
theorem HOk.write(ok:HOk P w H h)(mu:Mut (H x))(he:e=x∨H e=some (.own x))(k:∀b u,b≠e→h.get? b=some u→h'.get? b=some u)(heo:∃u,h'.get? e=some u)
  (new:ObjOk P w (upd H x o') h' x o'):HOk P w (upd H x o') h':=fun b u q=>by
 have nown:∀c y,H c=some (.own y)→c≠x:=fun c y r z=>by subst z;rw[r] at mu;exact mu
 have ntup:∀c xs,H c=some (.tup xs)→c≠x:=fun c xs r z=>by subst z;rw[r] at mu;exact mu
 by_cases hb:b=x
 ·subst hb;rw[zv] at q;cases q;exact new
 ·rw[zo hb] at q
  by_cases hbe:b=e
  ·have q':H b=some (.own x):=by
    rcases he with z|z
    ·exact absurd (hbe.trans z) hb
    ·rw[hbe];exact z
   rw[q] at q';cases q'
   obtain⟨v,hv⟩:=heo
   exact⟨v,by rw[hbe];exact hv⟩
  ·refine(ok b u q).stay (fun c v hc r=>k c v ?_ r) (fun c r=>by rw[zo (nown c b r)];exact r) fun c xs r=>by rw[zo (ntup c xs r)];exact r
   rcases hc with rfl|hc
   ·exact hbe
   ·rintro rfl
    rcases he with z|z
    ·exact nown c b hc z
    ·rw[hc] at z;cases z;exact hb rfl
end
structure Un(fs ex:List Addr)(H H':Hp)(h h':Heap):Prop where
 keep:∀b o,h.get? b=some o→H b=none→b∉fs→b∉ex→h'.get? b=some o
 slot:∀b o,h.get? b=some o→H b=none→b∈fs→b∉ex→∃sl,h'.get? b=some { o with slots:=sl }
 free:∀b o,h.get? b=some o→H b=none→b∉ex→H' b=none
 there:∀b o,h.get? b=some o→b∉ex→∃o',h'.get? b=some o'
 tups:∀b xs,H b=some (.tup xs)→H' b=some (.tup xs)
 frzs:∀b o u,H b=some (.frz o u)→H' b=some (.frz o u)
 tbls:∀b ps,H b=some (.tbl ps)→∃more,H' b=some (.tbl (ps++more))
section
variable{fs fs' ex ex':List Addr}{H H1 H2:Hp}{h h1 h2 h':Heap}{a x e:Addr}{o:HO}
theorem Un.any(u:Un fs ex H H1 h h1){b:Addr}{ob:Obj}(q:h.get? b=some ob)(n:H b=none)(hx:b∉ex):∃sl,h1.get? b=some { ob with slots:=sl }:=by
 by_cases hb:b∈fs
 ·exact u.slot b ob q n hb hx
 ·exact⟨ob.slots,u.keep b ob q n hb hx⟩
theorem Un.kept(k:∀b u,h.get? b=some u→h'.get? b=some u):Un fs ex H H h h':=
 ⟨fun b ob q _ _ _=>k b ob q,fun b ob q _ _ _=>⟨ob.slots,k b ob q⟩,fun _ _ _ n _=>n,fun b ob q _=>⟨ob,k b ob q⟩,fun _ _ q=>q,fun _ _ _ q=>q,fun _ ps q=>⟨#[],by rw[q];simp⟩⟩
theorem Un.refl:Un fs ex H H h h:=Un.kept fun _ _ q=>q
theorem Un.laid(k:∀b u,h.get? b=some u→h'.get? b=some u)(hp:h.objs.size≤a)(hn:H a=none):Un fs ex H (upd H a o) h h' where
 keep:=fun b u q _ _ _=>k b u q
 slot:=fun b u q _ _ _=>⟨u.slots,k b u q⟩
 free:=fun b u q n _=>by rw[zo (ne_of_lt (lt_of_lt_of_le (Heap.lt_size q) hp))];exact n
 there:=fun b u q _=>⟨u,k b u q⟩
 tups:=fun b xs q=>by rw[zo (zP q hn)];exact q
 frzs:=fun b u xs q=>by rw[zo (zP q hn)];exact q
 tbls:=fun b ps q=>⟨#[],by rw[zo (zP q hn),q];simp⟩
theorem Un.write(mu:Mut (H x))(he:e=x∨H e=some (.own x))(k:∀b u,b≠e→h.get? b=some u→h'.get? b=some u)(heo:∃u,h'.get? e=some u):Un fs ex H (upd H x o) h h':=by
 have hx:∀b,H b=none→b≠x:=fun b n z=>by subst z;rw[n] at mu;exact mu
 have hb:∀b,H b=none→b≠e:=fun b n z=>by
  subst z
  rcases he with r|r
  ·exact hx b n r
  ·rw[n] at r;cases r
 have hm:∀b u,H b=some u→¬ Mut (some u)→b≠x:=fun b u q nm z=>by subst z;rw[q] at mu;exact nm mu
 refine⟨fun b u q n _ _=>k b u (hb b n) q,fun b u q n _ _=>⟨u.slots,k b u (hb b n) q⟩,fun b u q n _=>by rw[zo (hx b n)];exact n,fun b u q _=>?_,
  fun b xs q=>by rw[zo (hm b _ q fun z=>z)];exact q,fun b u xs q=>by rw[zo (hm b _ q fun z=>z)];exact q,fun b ps q=>⟨#[],by rw[zo (hm b _ q fun z=>z),q];simp⟩⟩
 by_cases hbe:b=e
 ·subst hbe;exact heo
 ·exact⟨u,k b u hbe q⟩
end
noncomputable def trk(h:Heap)(H:Hp):List Addr:=(List.range h.objs.size).filter fun a=>(H a).isSome
noncomputable def X7(h:Heap)(H:Hp):Heap:=PySem.W.hideAll h (trk h H)
theorem GV(h:Heap)(H:Hp):(X7 h H).objs.size=h.objs.size:=PySem.W.hideAll_size _ _
theorem Ld{h:Heap}{H:Hp}{b:Addr}{o:Obj}(e:h.get? b=some o)(n:H b=none):(X7 h H).get? b=some o:=
 PySem.W.hideAll_get _ e fun hm=>by
  have q:(H b).isSome=true:=(mem_filter.mp hm).2
  rw[n] at q;simp at q
theorem ze4{h:Heap}{H:Hp}{b:Addr}{o:Obj}(e:(X7 h H).get? b=some o):h.get? b=some o∧H b=none:=by
 have e':h.get? b=some o:=PySem.W.of_hideAll (trk h H) e
 refine⟨e',?_⟩
 cases q:H b with
 |none=>rfl
 |some x=>
  have hm:b∈trk h H:=mem_filter.mpr ⟨mem_range.mpr (Heap.lt_size e'),by simp[q]⟩
  have z:(X7 h H).get? b=none:=PySem.W.hideAll_none (trk h H) hm
  rw[z] at e;cases e
noncomputable def zk8(g h:Heap)(L:Addr):List (Addr×Obj):=(List.range h.objs.size).filterMap fun a=>if a=L∨(g.get? a).isSome=true then none else (h.get? a).map fun o=>(a,o)
noncomputable def rest(g h:Heap)(L d:Addr):List (Addr×Obj):=(zk8 g h L).filter fun p=>decide (p.1≠d)
structure Mod(K:Frag)(mg:Str→Option Value)(base:Heap):Prop where
 kin:K.In base
 glob:base.Ns mainGlobals mg
 blt:∃mb,base.Ns builtinsNs mb∧∀x:Str,x ≠ "__name__" → mb x=bootBuiltins x
 nolimit:base.NoLimit
structure Cx where
 prog:Program
 w:World
 K:Frag
 mg:Str→Option Value
 base:Heap
 A:Around
 N:List Str
 s₀:Shared
 H₀:Hp
 env:Env
 outer:List Env
 stack:List Env
 ex:List Addr
 fn:Str→Bool
 calm:Bool
 pn:List (Addr×Obj)
 xe:Value→Shared→Prop
noncomputable def frs(l:List Env):List Addr:=l.filterMap (·.frame)
noncomputable abbrev Cx.fs(X:Cx):List Addr:=frs X.outer
noncomputable def Vis(sc:Scope)(x:Str):Prop:=sc.names.lookup x=some .local∨sc.names.lookup x=some .cell∨sc.names.lookup x=some .free
noncomputable def Loc(sc:Scope)(x:Str):Prop:=sc.names.lookup x=some .local∨sc.names.lookup x=some .cell
noncomputable def Look(env:Env)(h:Heap)(m:Str→Option Value)(x:Str)(u:Value):Prop:=
 (env.kindOf x=some .local∧m x=some u)∨((env.kindOf x=some .cell∨env.kindOf x=some .free)∧∃c,env.cells.lookup x=some c∧h.IsCell c (some u))
structure Cx.Ok(X:Cx):Prop where
 mod:Mod X.K X.mg X.base
 kind:X.env.scope.kind=.function
 glob:X.env.globals=mainGlobals
 blt:X.env.builtins=builtinsNs
 above:X.s₀.heap.objs.size≤X.env.locals
 inj:∀x y c,X.env.cells.lookup x=some c→X.env.cells.lookup y=some c→x=y
 has:∀x,(X.env.kindOf x=some .cell∨X.env.kindOf x=some .free)→∃c,X.env.cells.lookup x=some c
 cab:∀x c,X.fn x=true→X.env.cells.lookup x=some c→X.s₀.heap.objs.size≤c
 hd:X.calm=true→X.A.handled=none
 frames:X.A.frames=some X.stack
 stk:X.stack=X.outer∨(X.stack=X.env::X.outer∧X.env.frame=some X.env.locals)
 exf:∀b∈X.ex,b≠X.env.locals∧∀x c,X.env.cells.lookup x=some c→c≠b
 bs:∀b o,X.base.get? b=some o→X.s₀.heap.get? b=some o∧X.H₀ b=none
 bsz:X.base.objs.size≤X.s₀.heap.objs.size
 noex:∀b o,X.base.get? b=some o→b∉X.ex
 exfs:∀b∈X.ex,b∉X.fs
 funs:X.s₀.heap.FunFrames X.base X.outer
 frf:∀b∈X.fs,X.H₀ b=none
structure Inv(X:Cx)(pins:List (Addr×Obj))(σ:List (Option V))(H:Hp)(s:Shared):Prop where
 ok:X.Ok
 os:s.os=X.s₀.os
 bare:AllBare s.gens
 base:Un X.fs X.ex X.H₀ H X.s₀.heap s.heap
 loc:∃m,s.heap.Ns X.env.locals m∧∀(i:Nat) (x:Str) (v:V),X.N[i]?=some x→σ[i]?=some (some v)→Vis X.env.scope x→∃u,RelV v u∧Look X.env s.heap m x u
 cell:∀x c,X.env.cells.lookup x=some c→∃v,s.heap.IsCell c v
 free:H X.env.locals=none
 freeC:∀x c,X.env.cells.lookup x=some c→H c=none
 pin:∀p∈X.pn++pins,s.heap.get? p.1=some p.2∧H p.1=none∧p.1≠X.env.locals∧p.1∉X.fs∧∀v,p.2.data≠.cell v
 hok:HOk X.prog X.w H s.heap
 len:σ.length=X.N.length
section
variable{X:Cx}{pins:List (Addr×Obj)}{σ:List (Option V)}{H H':Hp}{s:Shared}{h':Heap}
theorem Cx.Ok.nofr(ok:X.Ok){b:Addr}{o:Obj}(e:X.base.get? b=some o):b∉X.fs:=fun hb=>by
 have:=(ok.funs.mem hb).1
 rw[e] at this;cases this
theorem Inv.bs(I:Inv X pins σ H s):∀b o,X.base.get? b=some o→s.heap.get? b=some o∧H b=none:=fun b o e=>
 ⟨I.base.keep b o (I.ok.bs b o e).1 (I.ok.bs b o e).2 (I.ok.nofr e) (I.ok.noex b o e),I.base.free b o (I.ok.bs b o e).1 (I.ok.bs b o e).2 (I.ok.noex b o e)⟩
theorem Inv.bk(I:Inv X pins σ H s):∀b o,X.base.get? b=some o→s.heap.get? b=some o:=fun b o e=>(I.bs b o e).1
theorem Inv.mod(I:Inv X pins σ H s):Mod X.K X.mg X.base:=I.ok.mod
theorem Inv.kIn(I:Inv X pins σ H s):X.K.In s.heap:=I.ok.mod.kin.keeps I.bk
theorem Inv.lt(I:Inv X pins σ H s):X.env.locals<s.heap.objs.size:=let ⟨_,hn,_⟩:=I.loc;hn.lt
theorem Inv.sz(I:Inv X pins σ H s):X.s₀.heap.objs.size≤s.heap.objs.size:=le_trans I.ok.above (le_of_lt I.lt)
theorem Inv.nofs(I:Inv X pins σ H s){a:Addr}(h:s.heap.objs.size≤a):a∉X.fs:=fun hb=>by
 obtain⟨_,o,ho,_⟩:=I.ok.funs.mem hb
 exact absurd (lt_of_lt_of_le (Heap.lt_size ho) (le_trans I.sz h)) (lt_irrefl _)
theorem Inv.cne(I:Inv X pins σ H s):∀x c,X.env.cells.lookup x=some c→c≠X.env.locals:=fun x c e z=>by
 obtain⟨v,o,ho,hd⟩:=I.cell x c e
 obtain⟨m,⟨o',es,ep,ho',hd',_⟩,_⟩:=I.loc
 rw[z,ho'] at ho;cases ho;rw[hd'] at hd;cases hd
theorem Inv.funs(I:Inv X pins σ H s):s.heap.FunFrames X.base X.outer:=by
 have all:∀(l:List Env),(∀b∈frs l,b∈X.fs)→X.s₀.heap.FunFrames X.base l→s.heap.FunFrames X.base l:=by
  intro l
  induction l with
  |nil=>intro _ _;trivial
  |cons env r ih=>
   intro hs hl
   obtain⟨hk,⟨L,o,hf,hn,ho,hd⟩,hr⟩:=hl
   have hL:L∈X.fs:=hs L (by unfold frs;rw[filterMap_cons,hf];exact mem_cons_self)
   obtain⟨sl,e⟩:=I.base.slot L o ho (I.ok.frf L hL) hL fun z=>I.ok.exfs L z hL
   exact⟨hk,⟨L,_,hf,hn,e,hd⟩,ih (fun b hb=>hs b (by unfold frs;rw[filterMap_cons,hf];exact mem_cons_of_mem _ hb)) hr⟩
 exact all X.outer (fun _ hb=>hb) I.ok.funs
theorem Inv.stack(I:Inv X pins σ H s):s.heap.FunFrames X.base X.stack:=by
 rcases I.ok.stk with e|⟨e,hf⟩
 ·rw[e];exact I.funs
 ·rw[e]
  obtain⟨m,hn,_⟩:=I.loc
  refine .cons (by rw[I.ok.kind];decide) hf hn ?_ I.funs
  exact Heap.get?_none_of_le (le_trans I.ok.bsz I.ok.above)
theorem Inv.stkSub(I:Inv X pins σ H s):∀b∈frs X.stack,b∈X.env.locals::X.fs:=fun b hb=>by
 rcases I.ok.stk with e|⟨e,hf⟩
 ·rw[e] at hb;exact mem_cons_of_mem _ hb
 ·rw[e] at hb
  unfold frs at hb
  rw[filterMap_cons,hf] at hb
  exact hb
theorem Inv.stkFree(I:Inv X pins σ H s):∀b∈frs X.stack,H b=none:=fun b hb=>by
 rcases mem_cons.mp (I.stkSub b hb) with e|hb
 ·rw[e];exact I.free
 ·obtain⟨_,o,ho,_⟩:=I.ok.funs.mem hb
  exact I.base.free b o ho (I.ok.frf b hb) fun z=>I.ok.exfs b z hb
theorem Inv.step{g':Array GenState}{t':Nat}{d':Drawn}{ch:List Addr}(I:Inv X pins σ H s)
  (hch:∀b∈ch,(b∈X.ex∨X.s₀.heap.objs.size≤b)∧b≠X.env.locals∧(∀x c,X.env.cells.lookup x=some c→c≠b)∧∀p∈X.pn++pins,p.1≠b)
  (keep:∀b o,b≠X.env.locals→b∉X.fs→b∉ch→s.heap.get? b=some o→H b=none→h'.get? b=some o)
  (slot:∀b o,b≠X.env.locals→b∈X.fs→b∉ch→s.heap.get? b=some o→H b=none→∃sl,h'.get? b=some { o with slots:=sl }) (free:∀b o,b∉ch→s.heap.get? b=some o→H b=none→H' b=none)
  (there:∀b o,b∉ch→s.heap.get? b=some o→∃o',h'.get? b=some o')
  (tups:∀b xs,H b=some (.tup xs)→H' b=some (.tup xs)) (frzs:∀b o u,H b=some (.frz o u)→H' b=some (.frz o u)) (tbls:∀b ps,H b=some (.tbl ps)→∃more,H' b=some (.tbl (ps++more)))
  (ns:∀m,s.heap.Ns X.env.locals m→h'.Ns X.env.locals m) (hok:HOk X.prog X.w H' h') (hg:AllBare g') :
  Inv X pins σ H' { s with heap:=h',gens:=g',drawn:=d',toks:=t' }:=by
 have neL:∀b o,X.s₀.heap.get? b=some o→b≠X.env.locals:=fun b o e=>ne_of_lt (lt_of_lt_of_le (Heap.lt_size e) I.ok.above)
 have neC:∀b o,X.s₀.heap.get? b=some o→b∉X.ex→b∉ch:=fun b o e hx hb=>by
  rcases (hch b hb).1 with z|z
  ·exact hx z
  ·exact absurd (lt_of_lt_of_le (Heap.lt_size e) z) (lt_irrefl _)
 have cellK:∀x c,X.env.cells.lookup x=some c→∀v,s.heap.IsCell c v→h'.IsCell c v:=fun x c e v z_=>by
  obtain⟨o,ho,hd⟩:=z_
  have nch:c∉ch:=fun z=>(hch c z).2.2.1 x c e rfl
  by_cases hc:c∈X.fs
  ·obtain⟨sl,q⟩:=slot c o (I.cne x c e) hc nch ho (I.freeC x c e)
   exact⟨_,q,hd⟩
  ·exact⟨o,keep c o (I.cne x c e) hc nch ho (I.freeC x c e),hd⟩
 refine⟨I.ok,I.os,hg,⟨fun b o e n hb hx=>?_,fun b o e n hb hx=>?_,fun b o e n hx=>?_,fun b o e hx=>?_,fun b xs e=>tups b xs (I.base.tups b xs e),fun b o xs e=>frzs b o xs (I.base.frzs b o xs e),fun b ps e=>?_⟩,?_,fun x c e=>?_,?_,fun x c e=>?_,fun p hp=>?_,hok,I.len⟩
 ·exact keep b o (neL b o e) hb (neC b o e hx) (I.base.keep b o e n hb hx) (I.base.free b o e n hx)
 ·obtain⟨sl,e1⟩:=I.base.slot b o e n hb hx
  obtain⟨sl',e2⟩:=slot b _ (neL b o e) hb (neC b o e hx) e1 (I.base.free b o e n hx)
  exact⟨sl',e2⟩
 ·obtain⟨o',e1⟩:=I.base.there b o e hx
  exact free b o' (neC b o e hx) e1 (I.base.free b o e n hx)
 ·obtain⟨o',e1⟩:=I.base.there b o e hx
  exact there b o' (neC b o e hx) e1
 ·obtain⟨m1,e1⟩:=I.base.tbls b ps e
  obtain⟨m2,e2⟩:=tbls b _ e1
  exact⟨m1++m2,by rw[e2,Array.append_assoc]⟩
 ·obtain⟨m,hn,hl⟩:=I.loc
  refine⟨m,ns m hn,fun i x v e1 e2 e3=>?_⟩
  obtain⟨u,r,l⟩:=hl i x v e1 e2 e3
  refine⟨u,r,?_⟩
  rcases l with l|⟨k,c,e,z⟩
  ·exact .inl l
  ·exact .inr ⟨k,c,e,cellK x c e _ z⟩
 ·obtain⟨v,z⟩:=I.cell x c e
  exact⟨v,cellK x c e v z⟩
 ·obtain⟨m,⟨o,_,_,ho,_⟩,_⟩:=I.loc
  exact free _ o (fun z=>(hch _ z).2.1 rfl) ho I.free
 ·obtain⟨v,o,ho,hd⟩:=I.cell x c e
  exact free c o (fun z=>(hch c z).2.2.1 x c e rfl) ho (I.freeC x c e)
 ·obtain⟨e,n,ne,nf,d⟩:=I.pin p hp
  have nch:p.1∉ch:=fun z=>(hch p.1 z).2.2.2 p hp rfl
  exact⟨keep p.1 p.2 ne nf nch e n,free p.1 p.2 nch e n,ne,nf,d⟩
theorem Inv.un{t':Nat}(I:Inv X pins σ H s)(u:Un X.fs [] H H' s.heap h')(hok:HOk X.prog X.w H' h'):Inv X pins σ H' { s with heap:=h',toks:=t' }:=by
 obtain⟨m,⟨o,es,ep,ho,r⟩,_⟩:=id I.loc
 obtain⟨sl,hL⟩:=u.any ho I.free (by simp)
 exact I.step (g':=s.gens) (d':=s.drawn) (ch:=[]) (fun _ z=>nomatch z) (fun b o _ hb _ e n=>u.keep b o e n hb (by simp)) (fun b o _ hb _ e n=>u.slot b o e n hb (by simp)) (fun b o _ e n=>u.free b o e n (by simp)) (fun b o _ e=>u.there b o e (by simp)) u.tups u.frzs u.tbls (fun m' hm=>by
  obtain⟨o',es',ep',ho',r'⟩:=hm
  rw[ho] at ho';cases ho'
  exact⟨_,es',ep',hL,r'⟩) hok I.bare
theorem Inv.call{g':Array GenState}{t':Nat}{d':Drawn}{ch:List Addr}(I:Inv X pins σ H s)(u:Un (frs X.stack) ch H H' s.heap h')(hok:HOk X.prog X.w H' h')(hg:AllBare g')
  (hch:∀b∈ch,(b∈X.ex∨X.s₀.heap.objs.size≤b)∧b≠X.env.locals∧(∀x c,X.env.cells.lookup x=some c→c≠b)∧∀p∈X.pn++pins,p.1≠b) :
  Inv X pins σ H' { s with heap:=h',gens:=g',drawn:=d',toks:=t' }:=by
 obtain⟨m,⟨o,es,ep,ho,r⟩,_⟩:=id I.loc
 obtain⟨sl,hL⟩:=u.any ho I.free fun z=>(hch _ z).2.1 rfl
 exact I.step (ch:=ch) hch (fun b o hL hb hc e n=>u.keep b o e n (fun z=>(mem_cons.mp (I.stkSub b z)).elim hL hb) hc) (fun b o _ _ hc e n=>u.any e n hc) (fun b o hc e n=>u.free b o e n hc) (fun b o hc e=>u.there b o e hc) u.tups u.frzs u.tbls (fun m' hm=>by
  obtain⟨o',es',ep',ho',r'⟩:=hm
  rw[ho] at ho';cases ho'
  exact⟨_,es',ep',hL,r'⟩) hok hg
theorem Inv.turned{t':Nat}{it:Addr}(I:Inv X pins σ H s)(k:∀b o,b≠it→s.heap.get? b=some o→h'.get? b=some o)(hn:H it=none)(hL:it≠X.env.locals)
  (h1:it∈X.ex∨X.s₀.heap.objs.size≤it) (h2:∀x c,X.env.cells.lookup x=some c→c≠it) (h3:∀p∈X.pn++pins,p.1≠it):Inv X pins σ H { s with heap:=h',toks:=t' }:=by
 have nit:∀b u,H b=some u→b≠it:=fun b u e z=>by rw[z,hn] at e;cases e
 refine I.step (g':=s.gens) (d':=s.drawn) (ch:=[it]) (fun b hb=>?_) (fun b o _ _ hc e _=>k b o (fun z=>hc (by simp[z])) e) (fun b o _ _ hc e _=>⟨o.slots,k b o (fun z=>hc (by simp[z])) e⟩) (fun _ _ _ _ n=>n)
  (fun b o hc e=>⟨o,k b o (fun z=>hc (by simp[z])) e⟩) (fun _ _ e=>e) (fun _ _ _ e=>e) (fun b ps e=>⟨#[],by rw[e];simp⟩) (fun m hm=>?_) (fun b u e=>?_) I.bare
 ·have e:b=it:=by simpa using hb
  subst e
  exact⟨h1,hL,h2,h3⟩
 ·obtain⟨o,es,ep,ho,r⟩:=hm
  exact⟨o,es,ep,k _ o (Ne.symm hL) ho,r⟩
 ·refine(I.hok b u e).stay (fun c v hc q=>k c v ?_ q) (fun _ q=>q) fun _ _ q=>q
  rcases hc with z|z
  ·rw[z];exact nit b u e
  ·exact nit c _ z
theorem Inv.tok(I:Inv X pins σ H s)(t:Nat):Inv X pins σ H { s with toks:=t }:=I.un (h':=s.heap) (t':=t) Un.refl I.hok
theorem Inv.kept{t':Nat}(I:Inv X pins σ H s)(k:∀b u,s.heap.get? b=some u→h'.get? b=some u):Inv X pins σ H { s with heap:=h',toks:=t' }:=I.un (Un.kept k) (I.hok.kept k)
theorem Inv.laid{a:Addr}{o:HO}{t':Nat}(I:Inv X pins σ H s)(k:∀b u,s.heap.get? b=some u→h'.get? b=some u)(hp:s.heap.objs.size≤a)(new:ObjOk X.prog X.w (upd H a o) h' a o) :
  Inv X pins σ (upd H a o) { s with heap:=h',toks:=t' }:=I.un (Un.laid k hp (I.hok.fresh hp)) (I.hok.laid k hp new)
theorem Inv.write{x e:Addr}{o:HO}{t':Nat}(I:Inv X pins σ H s)(mu:Mut (H x))(he:e=x∨H e=some (.own x))(k:∀b u,b≠e→s.heap.get? b=some u→h'.get? b=some u)(heo:∃u,h'.get? e=some u)
  (new:ObjOk X.prog X.w (upd H x o) h' x o):Inv X pins σ (upd H x o) { s with heap:=h',toks:=t' }:=I.un (Un.write mu he k heo) (I.hok.write mu he k heo new)
theorem Inv.pins_of{pins':List (Addr×Obj)}(I:Inv X pins σ H s)(h:∀p∈pins',s.heap.get? p.1=some p.2∧H p.1=none∧p.1≠X.env.locals∧p.1∉X.fs∧∀v,p.2.data≠.cell v):Inv X pins' σ H s:=
 ⟨I.ok,I.os,I.bare,I.base,I.loc,I.cell,I.free,I.freeC,fun p hp=>(mem_append.mp hp).elim (fun z=>I.pin p (mem_append_left _ z)) (h p),I.hok,I.len⟩
theorem V4{N:List Str}(hN:N.Nodup){i j:Nat}{x:Str}(a:N[i]?=some x)(b:N[j]?=some x):i=j:=by
 obtain⟨h1,e1⟩:=List.getElem?_eq_some_iff.mp a
 obtain⟨h2,e2⟩:=List.getElem?_eq_some_iff.mp b
 exact(List.getElem_inj hN).mp (e1.trans e2.symm)
theorem Zz{M:Model}{A:Around}{E:Value→Shared→Prop}{i:Nat}{x:Str}{v:V}{u:Value}{Q:Unit→Shared→Prop}(I:Inv X pins σ H s)(hN:X.N.Nodup)(hi:X.N[i]?=some x)(hx:Loc X.env.scope x)(r:RelV v u)
  (h:∀s',Inv X pins (σ.set i (some v)) H s'→(∃a,Heap.SameBut a s.heap s'.heap∧(a=X.env.locals∨X.env.cells.lookup x=some a))→Q () s') (hf:X.fn x=true∨X.env.scope.names.lookup x=some .local:=by first|exact .inl rfl|exact .inr rfl|assumption):wpAny M A (storeName X.env x u) Q E s:=by
 obtain⟨m,hn,hl⟩:=id I.loc
 have hcls:(X.env.scope.kind == .class||(X.env.scope.kind == .module&&X.env.locals != X.env.globals))=false:=by rw[I.ok.kind];rfl
 have hiσ:i<σ.length:=by rw[I.len];exact(List.getElem?_eq_some_iff.mp hi).1
 have cne:=I.cne
 have tracked:∀{a:Addr} {h':Heap},(∃o,s.heap.get? a=some o∧H a=none)→Heap.SameBut a s.heap h'→HOk X.prog X.w H h':=fun {a h'} ha hs b ob e=>by
  obtain⟨_,_,hfree⟩:=ha
  refine(I.hok b ob e).stay (fun c w' hc q=>(hs.2 c ?_).trans q) (fun _ q=>q) fun _ _ q=>q
  rintro rfl
  rcases hc with rfl|hc
  ·rw[hfree] at e;cases e
  ·rw[hfree] at hc;cases hc
 rcases hx with hk|hk
 ·refine wpAny_storeName_local hk hn (fun h' hn' hs=>?_) hcls
  obtain⟨oL,_,_,hoL,_⟩:=id hn
  refine h _ ⟨I.ok,I.os,I.bare,⟨fun b o e n hb hx=>?_,fun b o e n hb hx=>?_,I.base.free,fun b o e hx=>?_,I.base.tups,I.base.frzs,I.base.tbls⟩,⟨_,hn',fun j y v' e1 e2 e3=>?_⟩,fun y c e=>?_,I.free,I.freeC,fun p hp=>?_,tracked ⟨oL,hoL,I.free⟩ hs,by simpa using I.len⟩ ⟨_,hs,.inl rfl⟩
  ·exact(hs.2 b (ne_of_lt (lt_of_lt_of_le (Heap.lt_size e) I.ok.above))).trans (I.base.keep b o e n hb hx)
  ·obtain⟨sl,e1⟩:=I.base.slot b o e n hb hx
   exact⟨sl,(hs.2 b (ne_of_lt (lt_of_lt_of_le (Heap.lt_size e) I.ok.above))).trans e1⟩
  ·obtain⟨o',e1⟩:=I.base.there b o e hx
   exact⟨o',(hs.2 b (ne_of_lt (lt_of_lt_of_le (Heap.lt_size e) I.ok.above))).trans e1⟩
  ·by_cases hj:j=i
   ·subst hj
    rw[hi] at e1;cases e1
    rw[getElem?_set_self hiσ] at e2
    cases e2
    exact⟨u,r,.inl ⟨hk,by simp⟩⟩
   ·rw[getElem?_set_ne (Ne.symm hj)] at e2
    obtain⟨u',r',q⟩:=hl j y v' e1 e2 e3
    refine⟨u',r',?_⟩
    rcases q with ⟨k,e⟩|⟨k,c,e,z⟩
    ·refine .inl ⟨k,?_⟩
     have:y≠x:=fun e=>hj (V4 hN e1 (e ▸ hi))
     simp[this,e]
    ·exact .inr ⟨k,c,e,z.sameBut hs (cne y c e)⟩
  ·obtain⟨w',z⟩:=I.cell y c e
   exact⟨w',z.sameBut hs (cne y c e)⟩
  ·obtain⟨e,n,ne,nf,d⟩:=I.pin p hp
   exact⟨(hs.2 p.1 ne).trans e,n,ne,nf,d⟩
 ·have hfn:X.fn x=true:=by
   rcases hf with z|z
   ·exact z
   ·rw[z] at hk;cases hk
  obtain⟨c,hc⟩:=I.ok.has x (.inl hk)
  obtain⟨w',z⟩:=I.cell x c hc
  refine wpAny_storeName_cell I.ok.kind hk hc z (fun h' hc' hs=>?_)
  obtain⟨oc,hoc,hocd⟩:=id z
  refine h { s with heap:=h' } ⟨I.ok,I.os,I.bare,⟨fun b o e n hb hx=>?_,fun b o e n hb hx=>?_,I.base.free,fun b o e hx=>?_,I.base.tups,I.base.frzs,I.base.tbls⟩,⟨m,hn.sameBut hs (Ne.symm (cne x c hc)),fun j y v' e1 e2 e3=>?_⟩,fun y c' e=>?_,I.free,I.freeC,fun p hp=>?_,tracked ⟨oc,hoc,I.freeC x c hc⟩ hs,by simpa using I.len⟩ ⟨c,hs,.inr hc⟩
  ·exact(hs.2 b (ne_of_lt (lt_of_lt_of_le (Heap.lt_size e) (I.ok.cab x c hfn hc)))).trans (I.base.keep b o e n hb hx)
  ·obtain⟨sl,e1⟩:=I.base.slot b o e n hb hx
   exact⟨sl,(hs.2 b (ne_of_lt (lt_of_lt_of_le (Heap.lt_size e) (I.ok.cab x c hfn hc)))).trans e1⟩
  ·obtain⟨o',e1⟩:=I.base.there b o e hx
   exact⟨o',(hs.2 b (ne_of_lt (lt_of_lt_of_le (Heap.lt_size e) (I.ok.cab x c hfn hc)))).trans e1⟩
  ·by_cases hj:j=i
   ·subst hj
    rw[hi] at e1;cases e1
    rw[getElem?_set_self hiσ] at e2
    cases e2
    exact⟨u,r,.inr ⟨.inl hk,c,hc,hc'⟩⟩
   ·rw[getElem?_set_ne (Ne.symm hj)] at e2
    obtain⟨u',r',q⟩:=hl j y v' e1 e2 e3
    refine⟨u',r',?_⟩
    rcases q with q|⟨k,c',e,z'⟩
    ·exact .inl q
    ·refine .inr ⟨k,c',e,z'.sameBut hs ?_⟩
     rintro rfl
     exact hj (V4 hN e1 (I.ok.inj _ _ _ e hc ▸ hi))
  ·by_cases hcc:c'=c
   ·subst hcc;exact⟨_,hc'⟩
   ·obtain⟨w2,z2⟩:=I.cell y c' e
    exact⟨w2,z2.sameBut hs hcc⟩
  ·obtain⟨e,n,ne,nf,d⟩:=I.pin p hp
   refine⟨(hs.2 p.1 ?_).trans e,n,ne,nf,d⟩
   intro q
   rw[q,hoc] at e
   have q':oc=p.2:=Option.some.inj e
   exact d w' (by rw[← q'];exact hocd)
theorem YR{M:Model}{A:Around}{E:Value→Shared→Prop}{i:Nat}{x:Str}{v:V}{u:Value}{Q:Unit→Shared→Prop}(I:Inv X pins σ H s)(hN:X.N.Nodup)(hi:X.N[i]?=some x)(hx:Loc X.env.scope x)(r:RelV v u)
  (h:∀s',Inv X pins (σ.set i (some v)) H s'→Q () s') (hf:X.fn x=true∨X.env.scope.names.lookup x=some .local:=by first|exact .inl rfl|exact .inr rfl|assumption):wpAny M A (storeName X.env x u) Q E s:=
 Zz I hN hi hx r (fun s' I' _=>h s' I') hf
theorem Inv.call'{s':Shared}{ch:List Addr}(I:Inv X pins σ H s)(ho:s'.os=s.os)(u:Un (frs X.stack) ch H H' s.heap s'.heap)(hok:HOk X.prog X.w H' s'.heap)(hg:AllBare s'.gens)
  (hch:∀b∈ch,(b∈X.ex∨X.s₀.heap.objs.size≤b)∧b≠X.env.locals∧(∀x c,X.env.cells.lookup x=some c→c≠b)∧∀p∈X.pn++pins,p.1≠b):Inv X pins σ H' s':=by
 obtain⟨h',g',d',t',o'⟩:=s'
 have e:o'=s.os:=ho
 subst e
 exact I.call (g':=g') (t':=t') (d':=d') u hok hg hch
end
noncomputable abbrev XK:=Value→Option Addr→Hp→Prop
noncomputable abbrev St:=List (Option V)
noncomputable abbrev VK:=V→Hp→Prop
noncomputable abbrev TE:=St→Hp→VK→Prop
noncomputable abbrev TT:=St→Hp→(Bool→Hp→Prop)→Prop
noncomputable abbrev TA:=St→Hp→(List V→Hp→Prop)→Prop
structure UT where
 nx:St→Hp→Prop
 rt:VK
 bk:St→Hp→Prop:=fun _ _=>False
 ct:St→Hp→Prop:=fun _ _=>False
noncomputable abbrev TS:=UT→St→Hp→Prop
noncomputable def EP(X:Cx)(pins:List (Addr×Obj))(σ:St)(Q:VK)(u:Value)(s':Shared):Prop:=∃v H',Inv X pins σ H' s'∧RelV v u∧Q v H'
noncomputable def TP(X:Cx)(pins:List (Addr×Obj))(σ:St)(Q:Bool→Hp→Prop)(b:Bool)(s':Shared):Prop:=∃H',Inv X pins σ H' s'∧Q b H'
noncomputable def AP(X:Cx)(pins:List (Addr×Obj))(σ:St)(Q:List V→Hp→Prop)(us:List Value)(s':Shared):Prop:=∃vs H',Inv X pins σ H' s'∧Vals vs us∧Q vs H'
noncomputable def SP(X:Cx)(pins:List (Addr×Obj))(D:UT)(f:Flow)(s':Shared):Prop:=
 match f with
 |.next=>∃σ' H',Inv X pins σ' H' s'∧D.nx σ' H'
 |.brk=>∃σ' H',Inv X pins σ' H' s'∧D.bk σ' H'
 |.cont=>∃σ' H',Inv X pins σ' H' s'∧D.ct σ' H'
 |.ret u=>∃v σ' H',Inv X pins σ' H' s'∧RelV v u∧D.rt v H'
noncomputable def PE(X:Cx)(e:Expr)(t:TE):Prop:=
 ∀(pins:List (Addr×Obj)) (s:Shared) (σ:St) (H:Hp) (Q:VK),Inv X pins σ H s→t σ H Q→wpAny (model X.prog X.w) X.A (eval e X.env) (EP X pins σ Q) X.xe s
noncomputable def PT(X:Cx)(e:Expr)(t:TT):Prop:=
 ∀(pins:List (Addr×Obj)) (s:Shared) (σ:St) (H:Hp) (Q:Bool→Hp→Prop),Inv X pins σ H s→t σ H Q→wpAny (model X.prog X.w) X.A (isTrue e X.env (eval e X.env)) (TP X pins σ Q) X.xe s
noncomputable def PW(X:Cx)(e:Expr)(t:TT):Prop:=
 ∀(whole:Sem Value) (pins:List (Addr×Obj)) (s:Shared) (σ:St) (H:Hp) (Q:Bool→Hp→Prop),Inv X pins σ H s→t σ H Q→wpAny (model X.prog X.w) X.A (isTrue e X.env whole) (TP X pins σ Q) X.xe s
theorem PW.pt{X:Cx}{e:Expr}{t:TT}(h:PW X e t):PT X e t:=h _
noncomputable def PA(X:Cx)(es:List Expr)(t:TA):Prop:=
 ∀(pos:Pos) (pins:List (Addr×Obj)) (s:Shared) (σ:St) (H:Hp) (Q:List V→Hp→Prop),Inv X pins σ H s→t σ H Q→wpAny (model X.prog X.w) X.A (spliced (backTo pos (starEach es X.env))) (AP X pins σ Q) X.xe s
noncomputable def PS(X:Cx)(st:Stmt)(t:TS):Prop:=
 ∀(pins:List (Addr×Obj)) (s:Shared) (σ:St) (H:Hp) (D:UT),Inv X pins σ H s→t D σ H→wpAny (model X.prog X.w) X.A (exec st X.env) (SP X pins D) X.xe s
noncomputable def PSs(X:Cx)(st:List Stmt)(t:TS):Prop:=
 ∀(pins:List (Addr×Obj)) (s:Shared) (σ:St) (H:Hp) (D:UT),Inv X pins σ H s→t D σ H→wpAny (model X.prog X.w) X.A (execs st X.env) (SP X pins D) X.xe s
theorem thn{α:Type}{t:Sem α}{Q Q':α→Shared→Prop}{M:Model}{A:Around}{E:Value→Shared→Prop}{s:Shared}(h:wpAny M A t Q E s)(hQ:∀a s,Q a s→Q' a s):wpAny M A t Q' E s:=wpAny_mono h hQ fun _ _ x=>x
section
variable{X:Cx}
noncomputable def uc(i:Nat):TE:=fun σ H Q=>∃v,σ[i]?=some (some v)∧Q v H
noncomputable def tC(v:V):TE:=fun _ H Q=>Q v H
theorem zp4{i:Nat}{x:Str}{pos:Pos}(hN:X.N[i]?=some x)(hv:Vis X.env.scope x)(hd:(x==("__debug__" : Str))=false:=by decide)(hcd:(x==("__classdict__" : Str))=false:=by decide):PE X (.Name x pos) (uc i):=by
 intro pins s σ H Q I h
 obtain⟨v,e,h⟩:=h
 obtain⟨m,hn,hl⟩:=I.loc
 obtain⟨u,r,l⟩:=hl i x v hN e hv
 have fin:EP X pins σ Q u s:=⟨v,H,I,r,h⟩
 rcases l with ⟨hk,hm⟩|⟨hk,c,hc,hcell⟩
 ·exact wpAny_Name (wpAny_loadName_local I.ok.kind hk hn hm fin) hd
 ·rcases hk with hk|hk
  ·exact wpAny_Name (wpAny_loadName_cell I.ok.kind hk hc hcell fin) hd
  ·exact wpAny_Name (wpAny_loadName_free I.ok.kind hk hc hcell fin hcd) hd
theorem zp8{i j pos}:PE X (.Constant (.int i) j pos) (tC (.int i)):=fun _ _ _ H _ I h=>wpAny_Constant_int ⟨.int i,H,I.tok _,⟨_,rfl⟩,h⟩
theorem zl8{b j pos}:PE X (.Constant (.bool b) j pos) (tC (.bl b)):=fun _ _ _ H _ I h=>Constant_bool ⟨.bl b,H,I,rfl,h⟩
theorem zp7{j pos}:PE X (.Constant .none j pos) (tC .non):=fun _ _ _ H _ I h=>Constant_none ⟨.non,H,I,rfl,h⟩
theorem zp5{x j pos}:PE X (.Constant (.str x) j pos) (tC (.str x)):=fun _ _ _ H _ I h=>Calls.Constant_str ⟨.str x,H,I.tok _,⟨_,rfl⟩,h⟩
noncomputable def Gl(X:Cx)(x:Str):Prop:=X.env.kindOf x=some .globalImplicit
theorem Zb{E:Value→Shared→Prop}{pins:List (Addr×Obj)}{s:Shared}{σ:St}{H:Hp}{x:Str}{u:Value}{pos:Pos}{Q:Value→Shared→Prop}(I:Inv X pins σ H s)(hg:Gl X x)(hm:X.mg x=some u)(h:Q u s)
  (hd:(x==("__debug__" : Str))=false:=by decide):wpAny (model X.prog X.w) X.A (eval (.Name x pos) X.env) Q E s:=
 Calls.Name_function_global I.ok.kind hg (Calls.loadGlobal_global (by rw[I.ok.glob];exact I.mod.glob.keeps I.bk) hm h) hd
theorem wS{E:Value→Shared→Prop}{pins:List (Addr×Obj)}{s:Shared}{σ:St}{H:Hp}{x:Str}{u:Value}{pos:Pos}{Q:Value→Shared→Prop}(I:Inv X pins σ H s)(hg:Gl X x)(hm:X.mg x=none)(hv:bootBuiltins x=some u)(h:Q u s)
  (hn:x ≠ "__name__" := by decide) (hd:(x==("__debug__" : Str))=false:=by decide):wpAny (model X.prog X.w) X.A (eval (.Name x pos) X.env) Q E s:=by
 obtain⟨mb,h1,h2⟩:=I.mod.blt
 exact Calls.Name_function_global I.ok.kind hg (Calls.loadGlobal_builtin (by rw[I.ok.glob];exact I.mod.glob.keeps I.bk) hm (by rw[I.ok.blt];exact h1.keeps I.bk) ((h2 x hn).trans hv) h) hd
theorem Yy{x:Str}{v:V}{u:Value}{pos:Pos}(hg:Gl X x)(hm:X.mg x=some u)(r:RelV v u)(hd:(x==("__debug__" : Str))=false:=by decide):PE X (.Name x pos) (tC v):=
 fun _ _ _ H _ I h=>Zb I hg hm ⟨v,H,I,r,h⟩ hd
theorem Qf{x:Str}{v:V}{u:Value}{pos:Pos}(hg:Gl X x)(hm:X.mg x=none)(hv:bootBuiltins x=some u)(r:RelV v u)(hn:x ≠ "__name__" := by decide)(hd:(x==("__debug__" : Str))=false:=by decide):PE X (.Name x pos) (tC v):=
 fun _ _ _ H _ I h=>wS I hg hm hv ⟨v,H,I,r,h⟩ hn hd
variable{a b:Expr}{ta tb:TE}{pos:Pos}
noncomputable def PC(X:Cx)(op:CmpOp)(a b:Expr)(t:TE):Prop:=
 ∀(pins:List (Addr×Obj)) (s:Shared) (σ:St) (H:Hp) (Q:VK),Inv X pins σ H s→t σ H Q →
  wpAny (model X.prog X.w) X.A (eval a X.env) (fun v s₁=>wpAny (model X.prog X.w) X.A (eval b X.env) (fun u s₂=>wpAny (model X.prog X.w) X.A (compareOp op v u) (EP X pins σ Q) X.xe s₂) X.xe s₁) X.xe s
theorem Tr(b:Expr){op:CmpOp}(h:op≠.In)(h2:op≠.NotIn):behindInMarks op b=false:=by
 have e1:(op==CmpOp.In)=false:=by cases op <;> first|rfl|exact absurd rfl h
 have e2:(op==CmpOp.NotIn)=false:=by cases op <;> first|rfl|exact absurd rfl h2
 cases b <;> simp[behindInMarks,e1,e2]
noncomputable def tB(t:TE):TT:=fun σ H Q=>t σ H fun x H1=>∃c,x=.bl c∧Q c H1
theorem zo8{op:CmpOp}{t:TE}(h:PC X op a b t)(h1:behindInMarks op b=false:=by first|exact Tr _ (by decide) (by decide) | rfl):PT X (.Compare a [op] [b] pos) (tB t):=by
 intro pins s σ H Q I hw
 refine wpAny_isTrue_Compare1 (thn (h pins s σ H _ I hw) fun v s1 h1=>thn h1 fun u s2 h2=>thn h2 fun c s3 z_=>?_) h1
 obtain⟨x,H1,I1,r1,q1⟩:=z_
 obtain⟨d,rfl,q⟩:=q1
 cases r1
 exact wpAny_truthy_bool ⟨H1,I1,q⟩
variable{tA tB':TT}{rest:List Expr}
noncomputable def tAnd(t u:TT):TT:=fun σ H Q=>t σ H fun c H1=>if c=true then u σ H1 Q else Q false H1
noncomputable def tOr(t u:TT):TT:=fun σ H Q=>t σ H fun c H1=>if c=true then Q true H1 else u σ H1 Q
noncomputable def tNot(t:TT):TT:=fun σ H Q=>t σ H fun c H1=>Q (!c) H1
theorem zb9(ha:PT X a tA):PW X (.BoolOp .And [a] pos) tA:=by
 intro wh pins s σ H Q I h
 refine isTrue_and (thn (ha pins s σ H Q I h) fun c s1 e=>?_)
 cases c with
 |true=>exact isTrue_and_nil e
 |false=>exact e
theorem zo4(ha:PT X a tA):PW X (.BoolOp .Or [a] pos) tA:=by
 intro wh pins s σ H Q I h
 refine isTrue_or (thn (ha pins s σ H Q I h) fun c s1 e=>?_)
 cases c with
 |false=>exact isTrue_or_nil e
 |true=>exact e
theorem zo6(ha:PT X a tA)(hb:PW X (.BoolOp .And (b::rest) pos) tB'):PW X (.BoolOp .And (a::b::rest) pos) (tAnd tA tB'):=by
 intro wh pins s σ H Q I h
 refine isTrue_and (thn (ha pins s σ H _ I h) fun c s1 z_=>?_)
 obtain⟨H1,I1,q1⟩:=z_
 cases c with
 |true=>exact hb wh pins s1 σ H1 Q I1 q1
 |false=>exact⟨H1,I1,q1⟩
theorem pw_or(ha:PT X a tA)(hb:PW X (.BoolOp .Or (b::rest) pos) tB'):PW X (.BoolOp .Or (a::b::rest) pos) (tOr tA tB'):=by
 intro wh pins s σ H Q I h
 refine isTrue_or (thn (ha pins s σ H _ I h) fun c s1 z_=>?_)
 obtain⟨H1,I1,q1⟩:=z_
 cases c with
 |true=>exact⟨H1,I1,q1⟩
 |false=>exact hb wh pins s1 σ H1 Q I1 q1
theorem zo7(ha:PT X a tA):PT X (.UnaryOp .Not a pos) (tNot tA):=by
 intro pins s σ H Q I h
 exact isTrue_not (ha pins s σ H (fun c H1=>Q (!c) H1) I h)
theorem zp6{op}{t:TE}(h:PE X a t):PE X (.BoolOp op [a] pos) t:=fun pins s σ H Q I hw=>BoolOp_one (h pins s σ H Q I hw)
noncomputable def tIf(t:TT)(ta tb:TE):TE:=fun σ H Q=>t σ H fun c H1=>if c=true then ta σ H1 Q else tb σ H1 Q
theorem M3{c:Expr}(hc:PT X c tA)(ha:PE X a ta)(hb:PE X b tb):PE X (.IfExp c a b pos) (tIf tA ta tb):=by
 intro pins s σ H Q I h
 refine wpAny_IfExp (thn (hc pins s σ H _ I h) fun d s1 z_=>?_)
 obtain⟨H1,I1,q1⟩:=z_
 cases d with
 |true=>exact ha pins s1 σ H1 Q I1 q1
 |false=>exact hb pins s1 σ H1 Q I1 q1
end
noncomputable def SqL(K:Frag)(H:Hp)(a:Addr)(xs:List V):Prop:=
 Rd H a (.lst xs) ∨
  ∃(o:Obj) (its:Array Value) (n:Nat),K.lookup a=some o∧o.cls=.type "list" ∧ o.dict=none∧o.data=.seq its n∧its.size≤sizeLine∧Vals xs its.toList
noncomputable def SqT(K:Frag)(H:Hp)(a:Addr)(xs:List V):Prop:=
 Rd H a (.tup xs) ∨
  ∃(o:Obj) (its:Array Value) (n:Nat),K.lookup a=some o∧o.cls=.type "tuple" ∧ o.data=.seq its n∧its.size≤sizeLine∧Vals xs its.toList
noncomputable def absV:Value→Option V
 |.none=>some .non
 |.bool b=>some (.bl b)
 |.int i _=>some (.int i)
 |.str x _=>some (.str x)
 |.bytes b _=>some (.byt b)
 |.float b _=>some (.flt b)
 |.ref a=>some (.ref a)
 |.type n=>some (.ty n)
 |_=>none
theorem RelV.abs{x:V}{u:Value}(r:RelV x u):absV u=some x:=by
 cases x with
 |non=>cases r;rfl
 |bl _=>cases r;rfl
 |int _=>obtain⟨t,rfl⟩:=r;rfl
 |str _=>obtain⟨t,rfl⟩:=r;rfl
 |byt _=>obtain⟨t,rfl⟩:=r;rfl
 |flt _=>obtain⟨t,rfl⟩:=r;rfl
 |ref _=>cases r;rfl
 |ty _=>cases r;rfl
theorem RelV.inj{x y:V}{u:Value}(r:RelV x u)(q:RelV y u):x=y:=Option.some.inj (r.abs.symm.trans q.abs)
theorem Vals.inj:∀{xs ys:List V} {us:List Value},Vals xs us→Vals ys us→xs=ys
 |_,_,_,.nil,.nil=>rfl
 |_,_,_,.cons r t,.cons r' t'=>by rw[r.inj r',Vals.inj t t']
section
variable{X:Cx}{pins:List (Addr×Obj)}{σ:St}{H:Hp}{s:Shared}{a:Addr}{xs ys:List V}
theorem SqL.of{K:Frag}(h:H a=some (.lst xs)):SqL K H a xs:=.inl (.inl h)
theorem SqT.of{K:Frag}(h:H a=some (.tup xs)):SqT K H a xs:=.inl (.inl h)
theorem Inv.list(I:Inv X pins σ H s)(h:SqL X.K H a xs):∃its:List Value,Vals xs its∧PlainL s.heap a its.toArray∧xs.length≤sizeLine:=by
 rcases h with h|⟨o,its,n,hk,hc,hd,hs,hz,r⟩
 ·obtain⟨z,its,n,r,e⟩:=h.ok I.hok
  exact⟨its,r,⟨_,n,e,rfl,rfl,rfl⟩,z⟩
 ·refine⟨its.toList,r,⟨o,n,I.kIn a o hk,hc,hd,by simpa using hs⟩,?_⟩
  have e:=r.length
  simp only[length_toList] at e
  lia
theorem Inv.tuple(I:Inv X pins σ H s)(h:SqT X.K H a xs):∃its:List Value,Vals xs its∧IsTup s.heap a its.toArray∧xs.length≤sizeLine:=by
 rcases h with h|⟨o,its,n,hk,hc,hs,hz,r⟩
 ·obtain⟨z,its,r,p⟩:=h.ok I.hok
  exact⟨its,r,p,z⟩
 ·refine⟨its.toList,r,⟨o,I.kIn a o hk,hc,n,by simpa using hs⟩,?_⟩
  have e:=r.length
  simp only[length_toList] at e
  lia
theorem Inv.list_inj(I:Inv X pins σ H s)(h:SqL X.K H a xs)(h':SqL X.K H a ys):xs=ys:=by
 obtain⟨its,r,⟨o,n,e,_,_,d⟩,_⟩:=I.list h
 obtain⟨its',r',⟨o',n',e',_,_,d'⟩,_⟩:=I.list h'
 rw[e] at e';cases e'
 rw[d] at d'
 injection d' with d1 _
 have:its=its':=by simpa using congrArg Array.toList d1
 subst this
 exact r.inj r'
theorem Inv.tuple_inj(I:Inv X pins σ H s)(h:SqT X.K H a xs)(h':SqT X.K H a ys):xs=ys:=by
 obtain⟨its,r,⟨o,e,_,n,d⟩,_⟩:=I.tuple h
 obtain⟨its',r',⟨o',e',_,n',d'⟩,_⟩:=I.tuple h'
 rw[e] at e';cases e'
 rw[d] at d'
 injection d' with d1 _
 have:its=its':=by simpa using congrArg Array.toList d1
 subst this
 exact r.inj r'
end
noncomputable abbrev Cx.wish(X:Cx)(E:Value→Shared→Prop):Cx:={ X with xe:=E }
noncomputable abbrev Cx.nox(X:Cx):Cx:=X.wish fun _ _=>False
theorem Cx.Ok.wish{X:Cx}(ok:X.Ok)(E:Value→Shared→Prop):(X.wish E).Ok:=
 ⟨ok.mod,ok.kind,ok.glob,ok.blt,ok.above,ok.inj,ok.has,ok.cab,ok.hd,ok.frames,ok.stk,ok.exf,ok.bs,ok.bsz,ok.noex,ok.exfs,ok.funs,ok.frf⟩
theorem Cx.Ok.unwish{X:Cx}{E:Value→Shared→Prop}(ok:(X.wish E).Ok):X.Ok:=
 ⟨ok.mod,ok.kind,ok.glob,ok.blt,ok.above,ok.inj,ok.has,ok.cab,ok.hd,ok.frames,ok.stk,ok.exf,ok.bs,ok.bsz,ok.noex,ok.exfs,ok.funs,ok.frf⟩
section
variable{X:Cx}{pins:List (Addr×Obj)}{σ:St}{H:Hp}{s:Shared}{E:Value→Shared→Prop}
theorem Inv.wish(I:Inv X pins σ H s)(E:Value→Shared→Prop):Inv (X.wish E) pins σ H s:=⟨I.ok.wish E,I.os,I.bare,I.base,I.loc,I.cell,I.free,I.freeC,I.pin,I.hok,I.len⟩
theorem Inv.unwish(I:Inv (X.wish E) pins σ H s):Inv X pins σ H s:=⟨I.ok.unwish,I.os,I.bare,I.base,I.loc,I.cell,I.free,I.freeC,I.pin,I.hok,I.len⟩
theorem SP.unwish{D:UT}{f:Flow}{s':Shared}(h:SP (X.wish E) pins D f s'):SP X pins D f s':=by
 cases f with
 |next=>obtain⟨σ',H',I,q⟩:=h;exact⟨σ',H',I.unwish,q⟩
 |brk=>obtain⟨σ',H',I,q⟩:=h;exact⟨σ',H',I.unwish,q⟩
 |cont=>obtain⟨σ',H',I,q⟩:=h;exact⟨σ',H',I.unwish,q⟩
 |ret u=>obtain⟨v,σ',H',I,r,q⟩:=h;exact⟨v,σ',H',I.unwish,r,q⟩
theorem PSs.nox{st:List Stmt}{t:TS}(h:PSs X.nox st t):PSs X st t:=fun pins s σ H D I hw=>
 wpAny_mono (h pins s σ H D (I.wish _) hw) (fun _ _ q=>q.unwish) fun _ _ z=>False.elim z
end
section
variable{X:Cx}{st:Stmt}{rest:List Stmt}{t u:TS}{e:Expr}{te:TE}{pos:Pos}
noncomputable def tNext:TS:=fun D σ H=>D.nx σ H
noncomputable def tSeq(t u:TS):TS:=fun D σ H=>t { D with nx:=u D } σ H
theorem J8:PSs X [] tNext:=fun _ _ σ H _ I h=>wpAny_execs_nil ⟨σ,H,I,h⟩
theorem jX(h1:PS X st t)(h2:PSs X rest u):PSs X (st::rest) (tSeq t u):=by
 intro pins s σ H D I h
 refine wpAny_execs_cons (thn (h1 pins s σ H { D with nx:=u D } I h) fun f s1 q=>?_)
 cases f with
 |next=>
  obtain⟨σ',H',I',q⟩:=q
  exact h2 pins s1 σ' H' D I' q
 |ret v=>exact q
 |brk=>exact q
 |cont=>exact q
theorem Yw(h1:PS X st t):PSs X [st] t:=by
 intro pins s σ H D I h
 refine wpAny_execs_cons (thn (h1 pins s σ H D I h) fun f s1 q=>?_)
 cases f with
 |next=>exact wpAny_execs_nil q
 |ret v=>exact q
 |brk=>exact q
 |cont=>exact q
theorem Inv.quiet{pins:List (Addr×Obj)}{σ:St}{H:Hp}{s:Shared}(I:Inv X pins σ H s):interactive X.env=false:=by simp[interactive,I.ok.kind]
noncomputable def tDrop(te:TE):TS:=fun D σ H=>te σ H fun _ H1=>D.nx σ H1
theorem WZ(he:PE X e te)(hs:swapsWith e none pos.line X.env=pure false:=by rfl):PS X (.Expr e pos) (tDrop te):=by
 intro pins s σ H D I h
 exact wpAny_Expr_any (thn (he pins s σ H _ I h) fun v s1 ⟨x,H1,I1,r1,q1⟩=>⟨σ,H1,I1,q1⟩) I.quiet hs
noncomputable def tRet(te:TE):TS:=fun D σ H=>te σ H D.rt
theorem WY(he:PE X e te):PS X (.Return (some e) pos) (tRet te):=by
 intro pins s σ H D I h
 exact wpAny_Return_some (thn (he pins s σ H _ I h) fun v s1 ⟨x,H1,I1,r1,q1⟩=>⟨x,σ,H1,I1,r1,q1⟩)
noncomputable def tIfS(c:TT)(t u:TS):TS:=fun D σ H=>c σ H fun b H1=>if b=true then t D σ H1 else u D σ H1
theorem zl5{c:Expr}{a b:List Stmt}{tc:TT}(hc:PT X c tc)(ha:PSs X a t)(hb:PSs X b u):PS X (.If c a b pos) (tIfS tc t u):=by
 intro pins s σ H D I h
 refine wpAny_If (thn (hc pins s σ H _ I h) fun d s1 z_=>?_)
 obtain⟨H1,I1,q1⟩:=z_
 cases d with
 |true=>exact ha pins s1 σ H1 D I1 q1
 |false=>exact hb pins s1 σ H1 D I1 q1
end
noncomputable abbrev TG:=V→St→Hp→(St→Hp→Prop)→Prop
noncomputable abbrev TGs:=List V→St→Hp→(St→Hp→Prop)→Prop
noncomputable def PG(X:Cx)(target:Expr)(t:TG):Prop:=
 ∀(pins:List (Addr×Obj)) (s:Shared) (σ:St) (H:Hp) (v:V) (u:Value) (Q:St→Hp→Prop),Inv X pins σ H s→RelV v u→t v σ H Q →
  wpAny (model X.prog X.w) X.A (assign target X.env u) (fun _ s'=>∃σ' H',Inv X pins σ' H' s'∧Q σ' H') X.xe s
noncomputable def PGs(X:Cx)(ts:List Expr)(t:TGs):Prop:=
 ∀(pins:List (Addr×Obj)) (s:Shared) (σ:St) (H:Hp) (vs:List V) (us:List Value) (Q:St→Hp→Prop),Inv X pins σ H s→Vals vs us→t vs σ H Q →
  wpAny (model X.prog X.w) X.A (assignInOrder ((assignEach ts X.env).map (·.2)) us) (fun _ s'=>∃σ' H',Inv X pins σ' H' s'∧Q σ' H') X.xe s
noncomputable abbrev zv8:=V→V→V→Hp→(Hp→Prop)→Prop
noncomputable def PSet(X:Cx)(t:zv8):Prop:=
 ∀(pins:List (Addr×Obj)) (s:Shared) (σ:St) (H:Hp) (o i v:V) (ov iv u:Value) (Q:Hp→Prop),Inv X pins σ H s→RelV o ov→RelV i iv→RelV v u→t o i v H Q →
  wpAny (model X.prog X.w) X.A (setItem ov iv u) (fun _ s'=>∃H',Inv X pins σ H' s'∧Q H') X.xe s
section
variable{X:Cx}{pos:Pos}
noncomputable def uC(i:Nat):TG:=fun v σ H Q=>Q (σ.set i (some v)) H
theorem vL{i:Nat}{x:Str}(hN:X.N.Nodup)(hi:X.N[i]?=some x)(hx:Loc X.env.scope x)(hf:X.fn x=true∨X.env.scope.names.lookup x=some .local:=by first|exact .inl rfl|exact .inr rfl|assumption):PG X (.Name x pos) (uC i):=by
 intro pins s σ H v u Q I r h
 exact wpAny_assign_Name (YR I hN hi hx r (fun s' I'=>⟨_,H,I',h⟩) hf)
noncomputable def gNil:TGs:=fun vs σ H Q=>vs=[]∧Q σ H
noncomputable def gCons(t:TG)(u:TGs):TGs:=fun vs σ H Q=>∃v r,vs=v::r∧t v σ H fun σ' H'=>u r σ' H' Q
theorem Qb:PGs X [] gNil:=by
 intro pins s σ H vs us Q I r h
 obtain⟨e,h⟩:=h
 subst e
 cases r
 exact assignInOrder_nil ⟨σ,H,I,h⟩
theorem uO{e:Expr}{es:List Expr}{t:TG}{u:TGs}(h1:PG X e t)(h2:PGs X es u)
  (hs:(assignEach (e::es) X.env).map (·.2)=assign e X.env::(assignEach es X.env).map (·.2):=by rfl):PGs X (e::es) (gCons t u):=by
 intro pins s σ H vs us Q I r h
 obtain⟨v,vr,e1,h⟩:=h
 subst e1
 cases r with
 |cons r rr=>
  rw[hs]
  refine assignInOrder_cons (thn (h1 pins s σ H _ _ _ I r h) fun _ s1 z_=>?_)
  obtain⟨σ1,H1,I1,q1⟩:=z_
  exact h2 pins s1 σ1 H1 _ _ Q I1 rr q1
noncomputable def gTup(K:Frag)(n:Nat)(t:TGs):TG:=fun v σ H Q=>∃a xs,v=.ref a∧SqT K H a xs∧xs.length=n∧t xs σ H Q
theorem MZ{es:List Expr}{k:Nat}{t:TGs}{n:Nat}(hc:X.calm=true)(h:PGs X es t)
  (hn:(assignEach es X.env).length=n:=by rfl) (hst:(assignEach es X.env).findIdx? (·.1)=none:=by rfl):PG X (.Tuple es k pos) (gTup X.K n t):=by
 intro pins s σ H v u Q I r hw
 obtain⟨a,xs,e1,hq,hl,hw⟩:=hw
 subst e1
 cases r
 obtain⟨its,rv,ht,hz⟩:=I.tuple hq
 refine assign_Tuple_tuple (I.ok.hd hc) ht (by simp[hn,← hl,rv.length]) hst fun h' hx=>?_
 have I1:Inv X pins σ H { s with heap:=h' }:=I.kept (t':=s.toks) fun b o e=>hx b o (ne_of_lt (Heap.lt_size e)) e
 exact h pins _ σ H xs _ Q I1 (by simpa using rv) hw
noncomputable def gSub(to ti:TE)(t:zv8):TG:=fun v σ H Q=>to σ H fun o H1=>ti σ H1 fun i H2=>t o i v H2 fun H3=>Q σ H3
theorem zp3{o i:Expr}{to ti:TE}{t:zv8}(ho:PE X o to)(hi:PE X i ti)(hs:PSet X t)
  (ha:∀v,assign (.Subscript o i pos) X.env v=(do
   let ov ← holding [v] (eval o X.env)
   let iv ← holding [v,ov] (eval i X.env)
   standAt pos
   holding [v,ov,iv] (setItem ov iv v)
   release [v,ov,iv] []):=by intro _;rfl):PG X (.Subscript o i pos) (gSub to ti t):=by
 intro pins s σ H v u Q I r h
 rw[ha]
 refine wpAny_bind (wpAny_holding (thn (ho pins s σ H _ I h) fun ov s1 z_=>?_))
 obtain⟨x,H1,I1,r1,q1⟩:=z_
 refine wpAny_bind (wpAny_holding (thn (hi pins s1 σ H1 _ I1 q1) fun iv s2 z_=>?_))
 obtain⟨y,H2,I2,r2,q2⟩:=z_
 refine wpAny_bind (wpAny_standAt (wpAny_bind (wpAny_holding (thn (hs pins s2 σ H2 x y v ov iv u _ I2 r1 r2 r q2) fun _ s3 z_=>?_))))
 obtain⟨H3,I3,q3⟩:=z_
 exact wpAny_release ⟨σ,H3,I3,q3⟩
noncomputable def za2(te:TE)(g:TG):TS:=fun D σ H=>te σ H fun x H1=>g x σ H1 D.nx
theorem zp0{tg e:Expr}{te:TE}{g:TG}(he:PE X e te)(hg:PG X tg g)(hs:swapsWithSole [tg] e pos.line X.env=pure false:=by rfl)(hw:swappedStores [tg] e X.env=pure none:=by rfl)
  (h1:(assignEach [tg] X.env).map (·.2)=[assign tg X.env]:=by rfl):PS X (.Assign [tg] e pos) (za2 te g):=by
 intro pins s σ H D I h
 refine wpAny_Assign_stores (thn (he pins s σ H _ I h) fun v s1 z_=>?_) hs hw
 obtain⟨x,H1,I1,r1,q1⟩:=z_
 rw[h1]
 exact thn (hg pins s1 σ H1 x v _ I1 r1 q1) fun _ s2 q=>q
theorem Ja{i:Nat}{x:Str}{e:Expr}{te:TE}{pos':Pos}(hN:X.N.Nodup)(hi:X.N[i]?=some x)(hx:Loc X.env.scope x)(he:PE X e te)(hs:swapsWith e (some (.Name x pos')) pos.line X.env=pure false:=by rfl)(hf:X.fn x=true∨X.env.scope.names.lookup x=some .local:=by first|exact .inl rfl|exact .inr rfl|assumption) :
  PS X (.Assign [.Name x pos'] e pos) (za2 te (uC i)):=by
 intro pins s σ H D I h
 refine wpAny_Assign_Name (thn (he pins s σ H _ I h) fun v s1 z_=>?_) hs
 obtain⟨y,H1,I1,r1,q1⟩:=z_
 exact YR I1 hN hi hx r1 (fun s2 I2=>⟨_,H1,I2,q1⟩) hf
end
section
variable{X:Cx}{pos:Pos}
end
structure It where
 go:Nat→Hp→Prop
 yld:Nat→Hp→V→Hp→Prop
 stop:Nat→Hp→Prop
noncomputable def ZY(X:Cx)(pins:List (Addr×Obj))(H:Hp)(b:Addr):Prop:=
 H b=none∧b≠X.env.locals∧b∉X.fs∧(b∈X.ex∨X.s₀.heap.objs.size≤b)∧(∀x c,X.env.cells.lookup x=some c→c≠b)∧∀p∈X.pn++pins,p.1≠b
theorem Inv.fpOk{X:Cx}{pins:List (Addr×Obj)}{σ:St}{H H':Hp}{s:Shared}{b:Addr}(I:Inv X pins σ H s)(hb:s.heap.objs.size≤b)(hn:H' b=none):ZY X pins H' b:=by
 refine⟨hn,ne_of_gt (lt_of_lt_of_le I.lt hb),I.nofs hb,.inr (le_trans I.sz hb),fun x c e z=>?_,fun p hp z=>?_⟩
 ·obtain⟨v,q⟩:=I.cell x c e
  exact absurd (lt_of_lt_of_le q.lt (by rw[z];exact hb)) (lt_irrefl _)
 ·exact absurd (lt_of_lt_of_le (Heap.lt_size (I.pin p hp).1) (by rw[z];exact hb)) (lt_irrefl _)
structure X9(P:Program)(w:World)(K:Frag)(tg:Expr)(J:It)(fp:List Addr)(it:Addr)(tn:Nat→Heap→Prop):Prop where
 mem:it∈fp
 obj:∀i h,tn i h→∀b∈fp,∃o,h.get? b=some o∧∀v,o.data≠.cell v
 keep:∀i h h',tn i h→(∀b∈fp,∀o,h.get? b=some o→h'.get? b=some o)→tn i h'
 item:∀(X:Cx),X.prog=P→X.w=w→X.K=K→X.calm=true→∀(i:Nat) (pins:List (Addr×Obj)) (s:Shared) (σ:St) (H:Hp) (E:Value→Shared→Prop),Inv X pins σ H s→(∀b∈fp,ZY X pins H b)→tn i s.heap→J.go i H →
  wpAny (model P w) X.A (pyNext (.ref it)) (fun r s1=>∃u,r=some u ∧
   wpAny (model P w) X.A (letOwnedTupleGo tg (.ref it) u) (fun _ s2=>∃x H',Inv X pins σ H' s2∧RelV x u∧J.yld i H x H'∧tn (i+1) s2.heap∧∀b∈fp,H' b=none) E s1) E s
 done:∀(X:Cx),X.prog=P→X.w=w→X.K=K→X.calm=true→∀(i:Nat) (pins:List (Addr×Obj)) (s:Shared) (σ:St) (H:Hp) (E:Value→Shared→Prop),Inv X pins σ H s→(∀b∈fp,ZY X pins H b)→tn i s.heap→J.stop i H →
  wpAny (model P w) X.A (pyNext (.ref it)) (fun r s1=>r=none∧Inv X pins σ H s1) E s
 self:∀(A:Around) (i:Nat) (s:Shared) (Q:Value→Shared→Prop) (E:Value→Shared→Prop),tn i s.heap→Q (.ref it) s→wpAny (model P w) A (pyIter (.ref it)) Q E s
noncomputable abbrev TI:=St→Hp→(It→Hp→Prop)→Prop
noncomputable def PIE(X:Cx)(pins:List (Addr×Obj))(σ:St)(tg:Expr)(R:It→Hp→Prop)(itv:Value)(s2:Shared):Prop:=
 ∃(it:Addr) (fp:List Addr) (tn:Nat→Heap→Prop) (J:It) (H':Hp),itv=.ref it∧Inv X pins σ H' s2∧X9 X.prog X.w X.K tg J fp it tn∧tn 0 s2.heap∧(∀b∈fp,ZY X pins H' b)∧R J H'
noncomputable def PI(X:Cx)(tg iter:Expr)(wi:TI):Prop:=
 ∀(pins:List (Addr×Obj)) (s:Shared) (σ:St) (H:Hp) (R:It→Hp→Prop),Inv X pins σ H s→wi σ H R →
  wpAny (model X.prog X.w) X.A (eval iter X.env) (fun v s1=>wpAny (model X.prog X.w) X.A (pyIter v) (PIE X pins σ tg R) X.xe s1) X.xe s
theorem Uw{M:Model}{A:Around}{E:Value→Shared→Prop}{s:Shared}{tg:Expr}{it:Addr}{u:Value}{o:Obj}{n:String}{vs:Array Value}{Q:Unit→Shared→Prop}(ho:s.heap.get? it=some o)(hc:o.cls=.type n)(hd:o.data=.fields vs)
  (hn:["enumerate", "zip", "dict_itemiterator", "dict_reverseitemiterator", "odict_iterator", "itertools.zip_longest", "itertools.pairwise"].contains n=false) (hQ:Q () s):wpAny M A (letOwnedTupleGo tg (.ref it) u) Q E s:=by
 unfold letOwnedTupleGo
 cases tg <;> first
  | exact wpAny_pure hQ
  | (cases u <;> first
    | exact wpAny_pure hQ
    | (refine wpAny_bind (wpAny_load ho ?_)
       rw[hc,hd]
       show wpAny M A (if (["enumerate", "zip", "dict_itemiterator", "dict_reverseitemiterator", "odict_iterator", "itertools.zip_longest", "itertools.pairwise"].contains n&&vs[0]?==some (rawInt _))=true then _ else _) Q E s
       rw[if_neg (by intro h;rw[hn,Bool.false_and] at h;cases h)]
       exact wpAny_pure hQ))
noncomputable def Itl(K:Frag)(a:Addr):It:=
 ⟨fun i H=>∃xs x,SqL K H a xs∧xs[i]?=some x,fun i H x H'=>H'=H∧∀xs,SqL K H a xs→xs[i]?=some x,fun i H=>∃xs,SqL K H a xs∧xs.length≤i⟩
noncomputable def Itt(K:Frag)(a:Addr):It:=
 ⟨fun i H=>∃xs x,SqT K H a xs∧xs[i]?=some x,fun i H x H'=>H'=H∧∀xs,SqT K H a xs→xs[i]?=some x,fun i H=>∃xs,SqT K H a xs∧xs.length≤i⟩
noncomputable def Itr(lo:Int)(n:Nat):It:=⟨fun i _=>i<n,fun i H x H'=>H'=H∧x=.int (lo+i),fun i _=>n≤i⟩
theorem Wa{P:Program}{w:World}{K:Frag}{tg:Expr}(a it:Addr):X9 P w K tg (Itl K a) [it] it (fun i h=>h.IsListIter it a i) where
 mem:=by simp
 obj:=fun i h st b hb=>by
  have e:b=it:=by simpa using hb
  subst e
  obtain⟨o,e,c,d⟩:=st
  exact⟨o,e,fun v z=>by rw[d] at z;cases z⟩
 keep:=fun i h h' st k=>st.at fun o e=>k it (by simp) o e
 item:=by
  intro X hP hw hK hc i pins s σ H E I hf st hg
  subst hP hw hK
  obtain⟨xs,x,hq,hx⟩:=hg
  obtain⟨its,rv,p,hz⟩:=I.list hq
  obtain⟨u,hu,ru⟩:=rv.get hx
  obtain⟨f0,f1,f2,f3,f4,f5⟩:=hf it (by simp)
  refine wpAny_pyNext_list_item st p.isList (x:=u) (by simpa using hu) fun h' st' sb=>?_
  have I1:Inv X pins σ H { s with heap:=h' }:=I.turned (t':=s.toks) (fun b o hb e=>(sb.2 b hb).trans e) f0 f1 f3 f4 f5
  obtain⟨o,e,c,d⟩:=id st'
  exact⟨u,rfl,Uw (s:={ s with heap:=h' }) e c d (by decide) ⟨x,H,I1,ru,⟨rfl,fun ys hy=>by rw[I.list_inj hy hq];exact hx⟩,st',fun b hb=>(hf b hb).1⟩⟩
 done:=by
  intro X hP hw hK hc i pins s σ H E I hf st hg
  subst hP hw hK
  obtain⟨xs,hq,hx⟩:=hg
  obtain⟨its,rv,p,hz⟩:=I.list hq
  obtain⟨f0,f1,f2,f3,f4,f5⟩:=hf it (by simp)
  have hl:=rv.length
  exact wpAny_pyNext_list_end (I.ok.hd hc) st p.isList (by simp;lia) fun h' eb=>⟨rfl,I.turned (t':=s.toks) (fun b o hb e=>eb b o hb e) f0 f1 f3 f4 f5⟩
 self:=fun _ _ _ _ _ st h=>wpAny_pyIter_listiter st h
theorem UV{P:Program}{w:World}{K:Frag}{tg:Expr}(a it:Addr):X9 P w K tg (Itt K a) [it] it (fun i h=>h.IsTupleIter it a i) where
 mem:=by simp
 obj:=fun i h st b hb=>by
  have e:b=it:=by simpa using hb
  subst e
  obtain⟨o,e,c,d⟩:=st
  exact⟨o,e,fun v z=>by rw[d] at z;cases z⟩
 keep:=fun i h h' st k=>st.at fun o e=>k it (by simp) o e
 item:=by
  intro X hP hw hK hc i pins s σ H E I hf st hg
  subst hP hw hK
  obtain⟨xs,x,hq,hx⟩:=hg
  obtain⟨its,rv,p,hz⟩:=I.tuple hq
  obtain⟨u,hu,ru⟩:=rv.get hx
  obtain⟨f0,f1,f2,f3,f4,f5⟩:=hf it (by simp)
  refine wpAny_pyNext_tuple_item st (show s.heap.IsTuple a its.toArray from p) (x:=u) (by simpa using hu) fun h' st' sb=>?_
  have I1:Inv X pins σ H { s with heap:=h' }:=I.turned (t':=s.toks) (fun b o hb e=>(sb.2 b hb).trans e) f0 f1 f3 f4 f5
  obtain⟨o,e,c,d⟩:=id st'
  exact⟨u,rfl,Uw (s:={ s with heap:=h' }) e c d (by decide) ⟨x,H,I1,ru,⟨rfl,fun ys hy=>by rw[I.tuple_inj hy hq];exact hx⟩,st',fun b hb=>(hf b hb).1⟩⟩
 done:=by
  intro X hP hw hK hc i pins s σ H E I hf st hg
  subst hP hw hK
  obtain⟨xs,hq,hx⟩:=hg
  obtain⟨its,rv,p,hz⟩:=I.tuple hq
  obtain⟨f0,f1,f2,f3,f4,f5⟩:=hf it (by simp)
  have hl:=rv.length
  exact wpAny_pyNext_tuple_end (I.ok.hd hc) st (show s.heap.IsTuple a its.toArray from p) (by simp;lia) fun h' eb=>⟨rfl,I.turned (t':=s.toks) (fun b o hb e=>eb b o hb e) f0 f1 f3 f4 f5⟩
 self:=fun _ _ _ _ _ st h=>wpAny_pyIter_tupleiter st h
theorem UW{P:Program}{w:World}{K:Frag}{tg:Expr}(it:Addr)(lo:Int)(n:Nat):X9 P w K tg (Itr lo n) [it] it (fun i h=>IsRangeIter h it (lo+(i:Nat)*1) ((n:Int)-(i:Nat)) 1) where
 mem:=by simp
 obj:=fun i h st b hb=>by
  have e:b=it:=by simpa using hb
  subst e
  exact⟨_,st,fun v z=>by
   have z':Data.fields _=Data.cell v:=z
   cases z'⟩
 keep:=fun i h h' st k=>k it (by simp) _ st
 item:=by
  intro X hP hw hK hc i pins s σ H E I hf st hg
  subst hP hw hK
  obtain⟨f0,f1,f2,f3,f4,f5⟩:=hf it (by simp)
  have W:=Walks.range (prog:=X.prog) (w:=X.w) (I.ok.hd hc) it lo 1 n
  refine W.item i s _ _ hg st fun v h' tk hv st' kk=>?_
  obtain⟨t,rfl⟩:=hv
  have I1:Inv X pins σ H { s with heap:=h',toks:=tk }:=I.turned (fun b o hb e=>kk b o (by simpa using hb) e) f0 f1 f3 f4 f5
  refine⟨_,rfl,Uw (s:={ s with heap:=h',toks:=tk }) (n := "range_iterator") st' rfl rfl (by decide) ⟨.int (lo+i),H,I1,⟨t,?_⟩,⟨rfl,rfl⟩,st',fun b hb=>(hf b hb).1⟩⟩
  rw[Int.mul_one]
 done:=by
  intro X hP hw hK hc i pins s σ H E I hf st hg
  subst hP hw hK
  obtain⟨f0,f1,f2,f3,f4,f5⟩:=hf it (by simp)
  exact wpAny_pyNext_range_end (I.ok.hd hc) st (by have:n≤i:=hg;lia) fun h' eb=>⟨rfl,I.turned (t':=s.toks) (fun b o hb e=>eb b o hb e) f0 f1 f3 f4 f5⟩
 self:=fun _ _ _ _ _ st h=>wpAny_pyIter_rangeiter st h
section
variable{X:Cx}{tg:Expr}
noncomputable def zm1(K:Frag)(tl:TE):TI:=fun σ H R=>tl σ H fun x H1=>∃a,x=.ref a∧(∃xs,SqL K H1 a xs)∧R (Itl K a) H1
theorem zc7{l:Expr}{tl:TE}(hl:PE X l tl):PI X tg l (zm1 X.K tl):=by
 intro pins s σ H R I h
 refine thn (hl pins s σ H _ I h) fun v s1 z_=>?_
 obtain⟨x,H1,I1,r1,q1⟩:=z_
 obtain⟨a,e,⟨xs,hq⟩,q⟩:=q1
 subst e
 cases r1
 obtain⟨its,rv,p,hz⟩:=I1.list hq
 refine wpAny_pyIter_list p.isList ?_
 refine⟨s1.heap.objs.size,[s1.heap.objs.size],_,_,H1,rfl,I1.kept (t':=s1.toks) fun b o e=>get?_push_of_some _ e,Wa a _,⟨_,Heap.get?_push_size _ rfl,rfl,rfl⟩,fun b hb=>?_,q⟩
 have e:b=s1.heap.objs.size:=by simpa using hb
 subst e
 exact I1.fpOk (le_refl _) (I1.hok.fresh (le_refl _))
theorem VP{pins:List (Addr×Obj)}{σ:St}{H:Hp}{s:Shared}{R:It→Hp→Prop}{E:Value→Shared→Prop}{lo hi:Int}{t u v:Tok}{tk:Nat}(I:Inv X pins σ H s)(h1 : -(2 ^ 62)≤lo)(h2:lo<2 ^ 62)(h3 : -(2 ^ 62)≤hi)(h4:hi<2 ^ 62)
  (q:R (Itr lo (hi-lo).toNat) H):wpAny (model X.prog X.w) X.A (pyIter (.ref s.heap.objs.size)) (PIE X pins σ tg R) E { s with heap:=s.heap.push { cls:=.type "range", data:=.fields #[.int lo t,.int hi u,.int 1 v] },toks:=tk }:=by
 refine wpAny_pyIter_range (IsRange.new ..) (small_one h1 h2 h3 h4) ?_
 have I1:Inv X pins σ H { s with heap:=s.heap.push { cls:=.type "range", data:=.fields #[.int lo t,.int hi u,.int 1 v] },toks:=tk }:=I.kept fun b o e=>get?_push_of_some _ e
 refine⟨(s.heap.push { cls:=.type "range", data:=.fields #[.int lo t,.int hi u,.int 1 v] }).objs.size,[(s.heap.push { cls:=.type "range", data:=.fields #[.int lo t,.int hi u,.int 1 v] }).objs.size],_,_,H,rfl,
  I1.kept (t':=tk) fun b o e=>get?_push_of_some _ e,UW _ lo (hi-lo).toNat,?_,fun b hb=>?_,q⟩
 ·have e1:lo+((0:Nat):Int)*1=lo:=by simp
  have e2:(((hi-lo).toNat:Nat):Int)-((0:Nat):Int)=Builtin.Range.rangeSize lo hi 1:=by rw[rangeSize_one];split <;> lia
  show IsRangeIter _ _ (lo+((0:Nat):Int)*1) ((((hi-lo).toNat:Nat):Int)-((0:Nat):Int)) 1
  rw[e1,e2]
  exact Heap.get?_push_size _ rfl
 ·have e:b=(s.heap.push { cls:=.type "range", data:=.fields #[.int lo t,.int hi u,.int 1 v] }).objs.size:=by simpa using hb
  subst e
  exact I1.fpOk (le_refl _) (I1.hok.fresh (le_refl _))
noncomputable def iRng1(ta:TA):TI:=fun σ H R=>ta σ H fun vs H1=>∃j:Int,vs=[.int j]∧-(2 ^ 62)≤j∧j<2 ^ 62∧R (Itr 0 j.toNat) H1
noncomputable def iRng2(ta:TA):TI:=fun σ H R=>ta σ H fun vs H1=>∃i j:Int,vs=[.int i,.int j]∧(-(2 ^ 62)≤i∧i<2 ^ 62∧-(2 ^ 62)≤j∧j<2 ^ 62)∧R (Itr i (j-i).toNat) H1
theorem Ge{a:Expr}{ta:TA}{p pos:Pos}(hg:Gl X "range")(hm:X.mg "range" = none)(ha:PA X [a] ta)(hs:starEach [a] X.env=[(false,eval a X.env)]:=by rfl):PI X tg (.Call (.Name "range" p) [a] [] pos) (iRng1 ta):=by
 intro pins s σ H R I h
 refine Call_ (wS I hg hm boot_range (PyProof.Rows.callWith_type1 (thn (ha pos pins s σ H _ I h) fun us s1 z_=>?_) hs rfl))
 obtain⟨vs,H1,I1,r1,q1⟩:=z_
 obtain⟨j,e,q1,q2,q⟩:=q1
 subst e
 cases r1 with
 |cons r rr=>
  cases rr
  obtain⟨t,rfl⟩:=r
  exact call_range_1 (VP I1 (by lia) (by lia) q1 q2 (by simpa using q))
theorem Gd{a b:Expr}{ta:TA}{p pos:Pos}(hg:Gl X "range")(hm:X.mg "range" = none)(ha:PA X [a,b] ta)(hs:starEach [a,b] X.env=[(false,eval a X.env),(false,eval b X.env)]:=by rfl)(hs2:starEach [b] X.env=[(false,eval b X.env)]:=by rfl) :
  PI X tg (.Call (.Name "range" p) [a,b] [] pos) (iRng2 ta):=by
 intro pins s σ H R I h
 refine Call_ (wS I hg hm boot_range (PyProof.Rows.callWith_type1 (thn (ha pos pins s σ H _ I h) fun us s1 z_=>?_) (by rw[hs,hs2]) (by rw[hs2];rfl)))
 obtain⟨vs,H1,I1,r1,q1⟩:=z_
 obtain⟨i,j,e,⟨q1,q2,q3,q4⟩,q⟩:=q1
 subst e
 cases r1 with
 |cons r rr=>
  cases rr with
  |cons r' rr=>
   cases rr
   obtain⟨t,rfl⟩:=r
   obtain⟨t',rfl⟩:=r'
   exact call_range_2 (VP I1 q1 q2 q3 q4 q)
noncomputable def tFor(wi:TI)(g:TG)(tb:TS):TS:=fun D σ H=>wi σ H fun J H1=>∃W:Nat→Nat→St→Hp→Prop,(∃m,W 0 m σ H1)∧∀i m σ H,W i m σ H →
 (J.stop i H∧D.nx σ H)∨(J.go i H∧∃N:St→Hp→Prop,(∀σ' H',N σ' H'→∃m',m'<m∧W (i+1) m' σ' H')∧∀x H',J.yld i H x H'→g x σ H' fun σ2 H2=>tb { D with nx:=N,ct:=N,bk:=D.nx } σ2 H2)
noncomputable def ZE(fp:List Addr)(h:Heap):List (Addr×Obj):=fp.filterMap fun b=>(h.get? b).map fun o=>(b,o)
theorem wQ{fp:List Addr}{h:Heap}{b:Addr}{o:Obj}(hb:b∈fp)(e:h.get? b=some o):(b,o)∈ZE fp h:=mem_filterMap.mpr ⟨b,hb,by rw[e];rfl⟩
theorem Gw{fp:List Addr}{h:Heap}{p:Addr×Obj}(hp:p∈ZE fp h):p.1∈fp∧h.get? p.1=some p.2:=by
 obtain⟨b,hb,e⟩:=mem_filterMap.mp hp
 cases q:h.get? b with
 |none=>rw[q] at e;cases e
 |some o=>
  rw[q] at e
  have e':(b,o)=p:=Option.some.inj e
  subst e'
  exact⟨hb,q⟩
theorem Inv.pinned{pins:List (Addr×Obj)}{σ:St}{H:Hp}{s:Shared}{fp:List Addr}(I:Inv X pins σ H s)(hf:∀b∈fp,ZY X pins H b)(ho:∀b∈fp,∃o,s.heap.get? b=some o∧∀v,o.data≠.cell v):Inv X (pins++ZE fp s.heap) σ H s:=
 I.pins_of fun p hp=>(mem_append.mp hp).elim (fun z=>I.pin p (mem_append_right _ z)) fun z=>by
  obtain⟨hb,e⟩:=Gw z
  obtain⟨f0,f1,f2,_⟩:=hf p.1 hb
  obtain⟨o,e',d⟩:=ho p.1 hb
  rw[e] at e';cases e'
  exact⟨e,f0,f1,f2,d⟩
theorem Inv.unpinned{pins pl:List (Addr×Obj)}{σ:St}{H:Hp}{s:Shared}(I:Inv X (pins++pl) σ H s):Inv X pins σ H s:=I.pins_of fun p hp=>I.pin p (mem_append_right _ (mem_append_left _ hp))
theorem MW{iter:Expr}{body:List Stmt}{wi:TI}{g:TG}{tb:TS}{pos:Pos}(hp:PassesOwn (model X.prog X.w) X.A X.env X.xe)(hc:X.calm=true)(hi:PI X tg iter wi)(hg:PG X tg g)(hb:PSs X body tb)
  (hs:∀x,foldedSetIterable iter X.env x=pure x:=by intro _;rfl):PS X (.For tg iter body [] pos) (tFor wi g tb):=by
 intro pins s σ H D I h
 refine wpAny_For (thn (hi pins s σ H _ I h) fun v s1 h1=>thn h1 fun itv s2 h2=>?_) hs
 obtain⟨it,fp,tn,J,H2,e,I2,T,st2,f2,W,⟨m0,w0⟩,turn⟩:=h2
 subst e
 have stat:∀{H':Hp},(∀b∈fp,H' b=none)→∀b∈fp,ZY X pins H' b:=fun hn b hb=>⟨hn b hb,(f2 b hb).2⟩
 refine codeAny_forLoop_any (fun n s'=>∃i σ' H',Inv X pins σ' H' s'∧tn i s'.heap∧(∀b∈fp,H' b=none)∧W i n σ' H') ?_ m0 ⟨0,σ,H2,I2,st2,fun b hb=>(f2 b hb).1,w0⟩
 rintro n s3 ⟨i,σ3,H3,I3,st3,fr3,w3⟩
 rcases turn i n σ3 H3 w3 with ⟨stop,qn⟩|⟨go,N,hN,step⟩
 ·refine wpAny_passesOwn hp (thn (T.done X rfl rfl rfl hc i pins s3 σ3 H3 X.xe I3 (stat fr3) st3 stop) fun r s4 z_=>?_)
  obtain⟨hr,I4⟩:=z_
  subst hr
  exact wpAny_execs_nil ⟨σ3,H3,I4,qn⟩
 ·refine wpAny_passesOwn hp (thn (T.item X rfl rfl rfl hc i pins s3 σ3 H3 X.xe I3 (stat fr3) st3 go) fun r s4 z_=>?_)
  obtain⟨u,hr,h4⟩:=z_
  subst hr
  refine wpAny_passesOwn hp (thn h4 fun _ s5 z_=>?_)
  obtain⟨x,H5,I5,r5,y5,st5,fr5⟩:=z_
  have I5':=I5.pinned (stat fr5) (T.obj _ _ st5)
  refine wpAny_passesOwn hp (thn (hg _ s5 σ3 H5 x u _ I5' r5 (step x H5 y5)) fun _ s6 z_=>?_)
  obtain⟨σ6,H6,I6,q6⟩:=z_
  refine wpAny_passesOwn hp (thn (hb _ s6 σ6 H6 _ I6 q6) fun f s7 q7=>?_)
  have again:∀{σ7:St} {H7:Hp},Inv X (pins++ZE fp s5.heap) σ7 H7 s7→N σ7 H7→∃m,m<n∧∃i σ' H',Inv X pins σ' H' s7∧tn i s7.heap∧(∀b∈fp,H' b=none)∧W i m σ' H':=fun {σ7 H7} I7 n7=>by
   obtain⟨m',hm,w7⟩:=hN σ7 H7 n7
   refine⟨m',hm,i+1,σ7,H7,I7.unpinned,T.keep _ _ _ st5 fun b hb o e=>(I7.pin (b,o) (mem_append_right _ (mem_append_right _ (wQ hb e)))).1,fun b hb=>?_,w7⟩
   obtain⟨o,e,d⟩:=T.obj _ _ st5 b hb
   exact(I7.pin (b,o) (mem_append_right _ (mem_append_right _ (wQ hb e)))).2.1
  cases f with
  |next=>obtain⟨σ7,H7,I7,n7⟩:=q7;exact again I7 n7
  |cont=>obtain⟨σ7,H7,I7,n7⟩:=q7;exact again I7 n7
  |brk=>obtain⟨σ7,H7,I7,q7⟩:=q7;exact⟨σ7,H7,I7.unpinned,q7⟩
  |ret v=>obtain⟨x7,σ7,H7,I7,r7,q7⟩:=q7;exact⟨x7,σ7,H7,I7.unpinned,r7,q7⟩
end
noncomputable abbrev R2:=V→V→Hp→VK→Prop
noncomputable def OpR(X:Cx)(f:Value→Value→Sem Value)(r:R2):Prop:=
 ∀(pins:List (Addr×Obj)) (s:Shared) (σ:St) (H:Hp) (x y:V) (v u:Value) (Q:VK),Inv X pins σ H s→RelV x v→RelV y u→r x y H Q →
  wpAny (model X.prog X.w) X.A (f v u) (EP X pins σ Q) X.xe s
noncomputable def UnR(X:Cx)(f:Value→Sem Value)(r:V→Hp→VK→Prop):Prop:=
 ∀(pins:List (Addr×Obj)) (s:Shared) (σ:St) (H:Hp) (x:V) (v:Value) (Q:VK),Inv X pins σ H s→RelV x v→r x H Q →
  wpAny (model X.prog X.w) X.A (f v) (EP X pins σ Q) X.xe s
noncomputable def CallR(X:Cx)(f:Value)(r:List V→Hp→VK→Prop):Prop:=
 ∀(pins:List (Addr×Obj)) (s:Shared) (σ:St) (H:Hp) (xs:List V) (us:List Value) (Q:VK),Inv X pins σ H s→Vals xs us→r xs H Q →
  wpAny (model X.prog X.w) X.A (call f us) (EP X pins σ Q) X.xe s
noncomputable def TruR(X:Cx)(r:V→Hp→(Bool→Hp→Prop)→Prop):Prop:=
 ∀(pins:List (Addr×Obj)) (s:Shared) (σ:St) (H:Hp) (x:V) (v:Value) (Q:Bool→Hp→Prop),Inv X pins σ H s→RelV x v→r x H Q →
  wpAny (model X.prog X.w) X.A (truthy v) (TP X pins σ Q) X.xe s
noncomputable def tOp(r:R2)(ta tb:TE):TE:=fun σ H Q=>ta σ H fun x H1=>tb σ H1 fun y H2=>r x y H2 Q
noncomputable def tUn(r:V→Hp→VK→Prop)(ta:TE):TE:=fun σ H Q=>ta σ H fun x H1=>r x H1 Q
noncomputable def rI(C:Int→Int→Prop)(g:Int→Int→V):R2:=fun x y H Q=>∃i j,x=.int i∧y=.int j∧C i j∧Q (g i j) H
noncomputable def rI0(g:Int→Int→V):R2:=fun x y H Q=>∃i j,x=.int i∧y=.int j∧Q (g i j) H
noncomputable def rU(g:Int→V):V→Hp→VK→Prop:=fun x H Q=>∃i,x=.int i∧Q (g i) H
section
variable{X:Cx}{a b c:Expr}{ta tb tc:TE}{pos:Pos}
theorem zv2(ha:PE X a ta)(hb:PE X b tb){pins:List (Addr×Obj)}{s:Shared}{σ:St}{H:Hp}{R:V→V→Hp→Prop}(I:Inv X pins σ H s)
  (h:ta σ H fun x H1=>tb σ H1 fun y H2=>R x y H2) {Q:Value→Shared→Prop} {f:Value→Value→Sem Value}
  (hf:∀v u s2 x y H2,Inv X pins σ H2 s2→RelV x v→RelV y u→R x y H2→wpAny (model X.prog X.w) X.A (f v u) Q X.xe s2) :
  wpAny (model X.prog X.w) X.A (eval a X.env) (fun v s₁=>wpAny (model X.prog X.w) X.A (eval b X.env) (fun u s₂=>wpAny (model X.prog X.w) X.A (f v u) Q X.xe s₂) X.xe s₁) X.xe s:=by
 refine thn (ha pins s σ H _ I h) fun v s1 z_=>?_
 obtain⟨x,H1,I1,r1,q1⟩:=z_
 refine thn (hb pins s1 σ H1 _ I1 q1) fun u s2 z_=>?_
 obtain⟨y,H2,I2,r2,q2⟩:=z_
 exact hf v u s2 x y H2 I2 r1 r2 q2
theorem pe_op{op:Operator}{r:R2}(ho:OpR X (binaryOp op) r)(ha:PE X a ta)(hb:PE X b tb):PE X (.BinOp a op b pos) (tOp r ta tb):=by
 intro pins s σ H Q I h
 exact wpAny_BinOp (zv2 ha hb I h fun v u s2 x y H2 I2 rx ry q=>ho pins s2 σ H2 x y v u Q I2 rx ry q)
theorem pe_un{op:UnaryOp}{r:V→Hp→VK→Prop}(ho:UnR X (unaryOp op) r)(ha:PE X a ta):PE X (.UnaryOp op a pos) (tUn r ta):=by
 intro pins s σ H Q I h
 exact UnaryOp_ (thn (ha pins s σ H _ I h) fun v s1 ⟨x,H1,I1,r1,q1⟩=>ho pins s1 σ H1 x v Q I1 r1 q1)
theorem opI{f:Value→Value→Sem Value}{C:Int→Int→Prop}{g:Int→Int→Int}
  (rule:∀(i j:Int) (t u:Tok) (s:Shared) (Q:Value→Shared→Prop) (E:Value→Shared→Prop),C i j→Q (.int (g i j) s.toks) { s with toks:=s.toks+1 }→wpAny (model X.prog X.w) X.A (f (.int i t) (.int j u)) Q E s) :
  OpR X f (rI C fun i j=>.int (g i j)):=by
 intro pins s σ H x y v u Q I rx ry h
 obtain⟨i,j,rfl,rfl,hc,q⟩:=h
 obtain⟨t,rfl⟩:=rx
 obtain⟨t',rfl⟩:=ry
 exact rule i j t t' s _ _ hc ⟨.int (g i j),H,I.tok _,⟨_,rfl⟩,q⟩
theorem opI0{f:Value→Value→Sem Value}{g:Int→Int→Int}
  (rule:∀(i j:Int) (t u:Tok) (s:Shared) (Q:Value→Shared→Prop) (E:Value→Shared→Prop),Q (.int (g i j) s.toks) { s with toks:=s.toks+1 }→wpAny (model X.prog X.w) X.A (f (.int i t) (.int j u)) Q E s) :
  OpR X f (rI0 fun i j=>.int (g i j)):=by
 intro pins s σ H x y v u Q I rx ry h
 obtain⟨i,j,rfl,rfl,q⟩:=h
 obtain⟨t,rfl⟩:=rx
 obtain⟨t',rfl⟩:=ry
 exact rule i j t t' s _ _ ⟨.int (g i j),H,I.tok _,⟨_,rfl⟩,q⟩
theorem zq8{f:Value→Value→Sem Value}{g:Int→Int→Bool}
  (rule:∀(i j:Int) (t u:Tok) (s:Shared) (Q:Value→Shared→Prop) (E:Value→Shared→Prop),Q (.bool (g i j)) s→wpAny (model X.prog X.w) X.A (f (.int i t) (.int j u)) Q E s) :
  OpR X f (rI0 fun i j=>.bl (g i j)):=by
 intro pins s σ H x y v u Q I rx ry h
 obtain⟨i,j,rfl,rfl,q⟩:=h
 obtain⟨t,rfl⟩:=rx
 obtain⟨t',rfl⟩:=ry
 exact rule i j t t' s _ _ ⟨.bl (g i j),H,I,rfl,q⟩
noncomputable def CDiv(i j:Int):Prop:=0<j∧j<1073741824
noncomputable def CMul(i j:Int):Prop:=(-(2 ^ 64)<i∧i<2 ^ 64)∨(-(2 ^ 64)<j∧j<2 ^ 64)
theorem CMul.ok{i j:Int}(h:CMul i j):IntMulOk i j:=by
 rcases h with ⟨h1,h2⟩|⟨h1,h2⟩
 ·exact .of_left (intBits_le_64 h1 h2)
 ·exact .of_right (intBits_le_64 h1 h2)
theorem op_add:OpR X (binaryOp .Add) (rI0 fun i j=>.int (i+j)):=opI0 fun _ _ _ _ _ _ _ q=>add_int q
theorem zq3:OpR X (binaryOp .Sub) (rI0 fun i j=>.int (i-j)):=opI0 fun _ _ _ _ _ _ _ q=>sub_int q
theorem op_mul:OpR X (binaryOp .Mult) (rI CMul fun i j=>.int (i*j)):=opI fun _ _ _ _ _ _ _ hc q=>mul_int q hc.ok
theorem zd8:OpR X (binaryOp .FloorDiv) (rI CDiv fun i j=>.int (i / j)):=opI fun i j _ _ _ _ _ hc q=>by
 have h1:(0:Int)<j:=hc.1
 have h2:j<1073741824:=hc.2
 exact floordiv_int (by lia) (by rw[Int.fdiv_eq_ediv_of_nonneg i (by lia)];exact q) (.inl (PyProof.noPylong_small (by lia)))
theorem zq5:OpR X (binaryOp .Mod) (rI (fun _ j=>0<j) fun i j=>.int (i%j)):=opI fun i j _ _ _ _ _ hc q=>by
 have h1:(0:Int)<j:=hc
 exact mod_int' (by lia) (by rw[Int.fmod_eq_emod_of_nonneg i (by lia)];exact q)
theorem unI{f:Value→Sem Value}{g:Int→Int}
  (rule:∀(i:Int) (t:Tok) (s:Shared) (Q:Value→Shared→Prop) (E:Value→Shared→Prop),Q (.int (g i) s.toks) { s with toks:=s.toks+1 }→wpAny (model X.prog X.w) X.A (f (.int i t)) Q E s) :
  UnR X f (rU fun i=>.int (g i)):=by
 intro pins s σ H x v Q I rx h
 obtain⟨i,rfl,q⟩:=h
 obtain⟨t,rfl⟩:=rx
 exact rule i t s _ _ ⟨.int (g i),H,I.tok _,⟨_,rfl⟩,q⟩
theorem zn1:UnR X (unaryOp .USub) (rU fun i=>.int (-i)):=unI fun _ _ _ _ _ q=>neg_int q
end
noncomputable def scal:V→V→Bool
 |.non,.non=>true | .non,.int _=>true | .int _,.non=>true | .non,.bl _=>true | .bl _,.non=>true | .non,.str _=>true | .str _,.non=>true
 |.int _,.int _=>true | .bl _,.bl _=>true | .str _,.str _=>true | .byt _,.byt _=>true
 |.int _,.str _=>true | .str _,.int _=>true | .bl _,.str _=>true | .str _,.bl _=>true
 |_,_=>false
noncomputable def rEq:R2:=fun x y H Q=>scal x y=true∧Q (.bl (decide (x=y))) H
noncomputable def rNe:R2:=fun x y H Q=>scal x y=true∧Q (.bl (!decide (x=y))) H
theorem YJ{i j:Int}:decide (V.int i=V.int j)=(i==j):=by
 rw[Bool.eq_iff_iff]
 simp
theorem LB{i j:Bool}:decide (V.bl i=V.bl j)=(i==j):=by
 rw[Bool.eq_iff_iff]
 simp
theorem YI{i j:Str}:decide (V.str i=V.str j)=(i==j):=by
 rw[Bool.eq_iff_iff]
 simp
theorem QR{i j:Array UInt8}:decide (V.byt i=V.byt j)=(i.toList==j.toList):=by
 rw[Bool.eq_iff_iff]
 cases i
 cases j
 simp
section
variable{X:Cx}{a b c:Expr}{ta tb tc:TE}{pos:Pos}
theorem yf{pins:List (Addr×Obj)}{σ:St}{H:Hp}{s:Shared}{Q:VK}{k k':Bool}(I:Inv X pins σ H s)(q:Q (.bl k) H)(e:k=k'):EP X pins σ Q (.bool k') s:=by
 subst e
 exact⟨.bl k,H,I,rfl,q⟩
theorem op_eq:OpR X (compareOp .Eq) rEq:=by
 intro pins s σ H x y v u Q I rx ry h
 obtain⟨hs,q⟩:=h
 cases x with
 |non=>
  cases rx
  cases y with
  |non=>cases ry;exact PySem.EqNone.eq_none_none (yf I q (by simp))
  |bl j=>cases ry;exact PySem.EqNone.eq_none_bool (yf I q (by simp))
  |int j=>obtain⟨t',rfl⟩:=ry;exact PySem.EqNone.eq_none_int (yf I q (by simp))
  |str j=>obtain⟨t',rfl⟩:=ry;exact PySem.EqNone.eq_none_str (yf I q (by simp))
  |_=>exact absurd (show false=true from hs) Bool.false_ne_true
 |bl i=>
  cases rx
  cases y with
  |non=>cases ry;exact PySem.EqNone.eq_bool_none (yf I q (by simp))
  |bl j=>cases ry;exact eq_bool (yf I q LB)
  |str j=>obtain⟨t',rfl⟩:=ry;exact PySem.EqMixed.eq_bool_str (yf I q (by simp))
  |_=>exact absurd (show false=true from hs) Bool.false_ne_true
 |int i=>
  obtain⟨t,rfl⟩:=rx
  cases y with
  |non=>cases ry;exact PySem.EqNone.eq_int_none (yf I q (by simp))
  |int j=>obtain⟨t',rfl⟩:=ry;exact eq_int (yf I q YJ)
  |str j=>obtain⟨t',rfl⟩:=ry;exact PySem.EqMixed.eq_int_str (yf I q (by simp))
  |_=>exact absurd (show false=true from hs) Bool.false_ne_true
 |str i=>
  obtain⟨t,rfl⟩:=rx
  cases y with
  |non=>cases ry;exact PySem.EqNone.eq_str_none (yf I q (by simp))
  |bl j=>cases ry;exact PySem.EqMixed.eq_str_bool (yf I q (by simp))
  |int j=>obtain⟨t',rfl⟩:=ry;exact PySem.EqMixed.eq_str_int (yf I q (by simp))
  |str j=>obtain⟨t',rfl⟩:=ry;exact eq_str (yf I q YI)
  |_=>exact absurd (show false=true from hs) Bool.false_ne_true
 |byt i=>
  obtain⟨t,rfl⟩:=rx
  cases y with
  |byt j=>obtain⟨t',rfl⟩:=ry;exact PySem.W.eq_bytes (yf I q QR)
  |_=>exact absurd (show false=true from hs) Bool.false_ne_true
 |_=>cases y <;> exact absurd (show false=true from hs) Bool.false_ne_true
theorem op_ne:OpR X (compareOp .NotEq) rNe:=by
 intro pins s σ H x y v u Q I rx ry h
 obtain⟨hs,q⟩:=h
 cases x with
 |non=>
  cases rx
  cases y with
  |non=>cases ry;exact PySem.EqNone.ne_none_none (yf I q (by simp))
  |bl j=>cases ry;exact PySem.EqNone.ne_none_bool (yf I q (by simp))
  |int j=>obtain⟨t',rfl⟩:=ry;exact PySem.EqNone.ne_none_int (yf I q (by simp))
  |str j=>obtain⟨t',rfl⟩:=ry;exact PySem.EqNone.ne_none_str (yf I q (by simp))
  |_=>exact absurd (show false=true from hs) Bool.false_ne_true
 |bl i=>
  cases rx
  cases y with
  |non=>cases ry;exact PySem.EqNone.ne_bool_none (yf I q (by simp))
  |bl j=>cases ry;exact ne_bool (yf I q (congrArg not LB))
  |str j=>obtain⟨t',rfl⟩:=ry;exact PySem.EqMixed.ne_bool_str (yf I q (by simp))
  |_=>exact absurd (show false=true from hs) Bool.false_ne_true
 |int i=>
  obtain⟨t,rfl⟩:=rx
  cases y with
  |non=>cases ry;exact PySem.EqNone.ne_int_none (yf I q (by simp))
  |int j=>obtain⟨t',rfl⟩:=ry;exact ne_int (yf I q (congrArg not YJ))
  |str j=>obtain⟨t',rfl⟩:=ry;exact PySem.EqMixed.ne_int_str (yf I q (by simp))
  |_=>exact absurd (show false=true from hs) Bool.false_ne_true
 |str i=>
  obtain⟨t,rfl⟩:=rx
  cases y with
  |non=>cases ry;exact PySem.EqNone.ne_str_none (yf I q (by simp))
  |bl j=>cases ry;exact PySem.EqMixed.ne_str_bool (yf I q (by simp))
  |int j=>obtain⟨t',rfl⟩:=ry;exact PySem.EqMixed.ne_str_int (yf I q (by simp))
  |str j=>obtain⟨t',rfl⟩:=ry;exact ne_str (yf I q (congrArg not YI))
  |_=>exact absurd (show false=true from hs) Bool.false_ne_true
 |byt i=>
  obtain⟨t,rfl⟩:=rx
  cases y with
  |byt j=>obtain⟨t',rfl⟩:=ry;exact PySem.W.ne_bytes (yf I q (congrArg not QR))
  |_=>exact absurd (show false=true from hs) Bool.false_ne_true
 |_=>cases y <;> exact absurd (show false=true from hs) Bool.false_ne_true
theorem op_lt:OpR X (compareOp .Lt) (rI0 fun i j=>.bl (decide (i<j))):=zq8 fun _ _ _ _ _ _ _ q=>lt_int q
theorem op_gt:OpR X (compareOp .Gt) (rI0 fun i j=>.bl (decide (j<i))):=zq8 fun _ _ _ _ _ _ _ q=>gt_int q
theorem op_ge:OpR X (compareOp .GtE) (rI0 fun i j=>.bl (decide (j≤i))):=zq8 fun _ _ _ _ _ _ _ q=>ge_int q
theorem op_in_str:OpR X (compareOp .In) (fun x y H Q=>∃i j,x=.str i∧y=.str j∧Q (.bl (!(Builtin.Str.occurrences j i 0 j.length 1).isEmpty)) H):=by
 intro pins s σ H x y v u Q I rx ry h
 obtain⟨i,j,rfl,rfl,q⟩:=h
 obtain⟨t,rfl⟩:=rx
 obtain⟨t',rfl⟩:=ry
 exact in_str (yf I q rfl)
theorem zq6:OpR X (compareOp .Is) (fun x y H Q=>y=.non∧Q (.bl (decide (x=.non))) H):=by
 intro pins s σ H x y v u Q I rx ry h
 obtain⟨rfl,q⟩:=h
 cases ry
 refine is_none_gen (yf I q ?_)
 cases x <;> first
  | (cases rx;rfl)
  | (obtain⟨t,rfl⟩:=rx;rfl)
theorem zd7:OpR X (compareOp .IsNot) (fun x y H Q=>y=.non∧Q (.bl (!decide (x=.non))) H):=by
 intro pins s σ H x y v u Q I rx ry h
 obtain⟨rfl,q⟩:=h
 cases ry
 refine isnot_none_gen (yf I q ?_)
 cases x <;> first
  | (cases rx;rfl)
  | (obtain⟨t,rfl⟩:=rx;rfl)
theorem op_notin_str:OpR X (compareOp .NotIn) (fun x y H Q=>∃i j,x=.str i∧y=.str j∧Q (.bl (!(!(Builtin.Str.occurrences j i 0 j.length 1).isEmpty))) H):=by
 intro pins s σ H x y v u Q I rx ry h
 obtain⟨i,j,rfl,rfl,q⟩:=h
 obtain⟨t,rfl⟩:=rx
 obtain⟨t',rfl⟩:=ry
 exact notIn_str (yf I q rfl)
noncomputable def isObj:HO→Bool
 |.lst _=>true
 |.ins _ _ _=>true
 |_=>false
theorem obj_there{pins:List (Addr×Obj)}{s:Shared}{σ:St}{H:Hp}{a:Addr}{o:HO}(I:Inv X pins σ H s)(h:H a=some o)(p:isObj o=true):∃ob,s.heap.get? a=some ob∧ob.cls≠.type "tuple" := by
 cases o with
 |lst xs=>
  obtain⟨_,its,n,_,e⟩:xs.length≤sizeLine∧∃(its:List Value) (n:Nat),Vals xs its∧s.heap.get? a=some { cls:=.type "list", data:=.seq its.toArray n }:=I.hok a _ h
  exact⟨_,e,(by show Value.type "list" ≠ .type "tuple"; decide +kernel)⟩
 |ins C dx fs=>
  have x:=I.hok a _ h
  obtain⟨_,_,_,e,_⟩:=x
  exact⟨_,e,(by show Value.ref C≠.type "tuple"; exact fun z=>by cases z)⟩
 |_=>exact absurd (show false=true from p) Bool.false_ne_true
theorem OpR.or{f:Value→Value→Sem Value}{r r':R2}(h:OpR X f r)(h':OpR X f r'):OpR X f (fun x y H Q=>r x y H Q∨r' x y H Q):=by
 intro pins s σ H x y v u Q I rx ry q
 rcases q with q|q
 ·exact h pins s σ H x y v u Q I rx ry q
 ·exact h' pins s σ H x y v u Q I rx ry q
theorem ya(b:Expr){op:CmpOp}(h:op≠.In:=by decide)(h2:op≠.NotIn:=by decide):behindInMarks op b=false:=by
 have e1:(op==CmpOp.In)=false:=by cases op <;> first|rfl|exact absurd rfl h
 have e2:(op==CmpOp.NotIn)=false:=by cases op <;> first|rfl|exact absurd rfl h2
 cases b <;> simp[behindInMarks,e1,e2]
theorem zc9{op:CmpOp}{r:R2}(ho:OpR X (compareOp op) r)(ha:PE X a ta)(hb:PE X b tb)(hm:behindInMarks op b=false):PE X (.Compare a [op] [b] pos) (tOp r ta tb):=by
 intro pins s σ H Q I h
 exact wpAny_Compare1 (zv2 ha hb I h fun v u s2 x y H2 I2 rx ry q=>ho pins s2 σ H2 x y v u Q I2 rx ry q) hm
noncomputable def zl2(t:TE):TT:=fun σ H Q=>t σ H fun x H'=>∃k,x=.bl k∧Q k H'
theorem zc3{op:CmpOp}{r:R2}(ho:OpR X (compareOp op) r)(ha:PE X a ta)(hb:PE X b tb)(hm:behindInMarks op b=false):PT X (.Compare a [op] [b] pos) (zl2 (tOp r ta tb)):=by
 intro pins s σ H Q I h
 refine wpAny_isTrue_Compare1 (thn (ha pins s σ H _ I h) fun v s1 ⟨x,H1,I1,r1,q1⟩=>thn (hb pins s1 σ H1 _ I1 q1) fun u s2 ⟨y,H2,I2,r2,q2⟩=>
  thn (ho pins s2 σ H2 x y v u _ I2 r1 r2 q2) fun c s3 ⟨z,H3,I3,r3,k,e,q3⟩=>?_) hm
 subst e
 cases r3
 exact wpAny_truthy_bool ⟨H3,I3,q3⟩
noncomputable def zv7(K:Frag)(x:V)(H:Hp)(k:Bool):Prop:=
 match x with
 |.non=>k=false
 |.bl b=>k=b
 |.int i=>k=(i != 0)
 |.str y=>y.length≤sizeLine∧k=((y.length:Int) != 0)
 |.byt y=>y.size≤sizeLine∧k=((y.size:Int) != 0)
 |.ref p=>(∃xs,SqL K H p xs∧k = !xs.isEmpty)∨(∃xs,SqT K H p xs∧k = !xs.isEmpty)∨∃kvs,H p=some (.dK kvs)∧k = !kvs.isEmpty
 |_=>False
theorem Jr{κ:Type}{kvs:List (κ×V)}{vs:List (κ×Value)}(r:KV kvs vs):(!vs.isEmpty) = !kvs.isEmpty:=by
 cases r <;> rfl
theorem Xp{xs:List V}{its:List Value}(r:Vals xs its):(!its.toArray.isEmpty) = !xs.isEmpty:=by
 cases r <;> simp
theorem jI:(sizeLine:Nat)<2 ^ 63:=by rw[sizeLine_eq];decide
theorem tru_ok:TruR X (fun x H Q=>∃k,zv7 X.K x H k∧Q k H):=by
 intro pins s σ H x v Q I rx h
 obtain⟨k,e,q⟩:=h
 have hl:=jI
 have hs:sizeLine=16777216:=sizeLine_eq
 cases x with
 |non=>
  cases rx
  have e':k=false:=e
  subst e'
  exact truthy_none ⟨H,I,q⟩
 |bl b=>
  cases rx
  have e':k=b:=e
  subst e'
  exact wpAny_truthy_bool ⟨H,I,q⟩
 |int i=>
  obtain⟨t,rfl⟩:=rx
  have e':k=(i != 0):=e
  subst e'
  exact PySem.P.truthy_int ⟨H,I,q⟩
 |str y=>
  obtain⟨t,rfl⟩:=rx
  obtain⟨hy,e'⟩:y.length≤sizeLine∧k=((y.length:Int) != 0):=e
  subst e'
  exact PySem.P.truthy_str (by lia) ⟨H,I.tok _,q⟩
 |byt y=>
  obtain⟨t,rfl⟩:=rx
  obtain⟨hy,e'⟩:y.size≤sizeLine∧k=((y.size:Int) != 0):=e
  subst e'
  exact PySem.W.truthy_bytes (by lia) ⟨H,I.tok _,q⟩
 |ref p=>
  cases rx
  have e':(∃xs,SqL X.K H p xs∧k = !xs.isEmpty)∨(∃xs,SqT X.K H p xs∧k = !xs.isEmpty)∨∃kvs,H p=some (.dK kvs)∧k = !kvs.isEmpty:=e
  rcases e' with ⟨xs,hx,e'⟩|⟨xs,hx,e'⟩|⟨kvs,hx,e'⟩
  ·subst e'
   obtain⟨its,r,pl,hz⟩:=I.list hx
   have hlen:=r.length
   exact wpAny_truthy_list pl.isList (by simp only[size_toArray];lia) ⟨H,I.tok _,by rw[Xp r];exact q⟩
  ·subst e'
   obtain⟨its,r,pl,hz⟩:=I.tuple hx
   have hlen:=r.length
   exact truthy_tuple pl (by simp only[size_toArray];lia) ⟨H,I.tok _,by rw[Xp r];exact q⟩
  ·subst e'
   obtain⟨hz,hS,vs,r,m⟩:kvs.length≤sizeLine∧(p==sysModules)=false∧∃vs,KV kvs vs∧s.heap.DictOf (xU X.prog X.w) p vs:=I.hok p _ hx
   have hlen:kvs.length=vs.length:=Paired.length r
   exact wpAny_truthy_dict hS m (by lia) ⟨H,I.tok _,by rw[Jr r];exact q⟩
 |_=>exact(show False from e).elim
theorem MV(ha:PE X a ta)(he:∀whole,isTrue a X.env whole=(do let v ← whole;standAt a.pos;holding [v] (truthy v))) :
  PT X a (fun σ H Q=>ta σ H fun x H'=>∃k,zv7 X.K x H' k∧Q k H'):=by
 intro pins s σ H Q I h
 exact isTrue_plain (thn (ha pins s σ H _ I h) fun v s1 ⟨x,H1,I1,r1,q1⟩=>tru_ok pins s1 σ H1 x v Q I1 r1 q1) (he _)
theorem op_add_str:OpR X (binaryOp .Add) (fun x y H Q=>∃i j,x=.str i∧y=.str j∧i.length+j.length≤sizeLine∧Q (.str (i++j)) H):=by
 intro pins s σ H x y v u Q I rx ry h
 obtain⟨i,j,rfl,rfl,hz,q⟩:=h
 obtain⟨t,rfl⟩:=rx
 obtain⟨t',rfl⟩:=ry
 exact add_str (fun t' tk=>⟨.str (i++j),H,I.tok _,⟨_,rfl⟩,q⟩) hz
theorem vals1{x:V}{us:List Value}(r:Vals [x] us):∃u,us=[u]∧RelV x u:=by
 cases r with
 |cons r1 r2=>cases r2;exact⟨_,rfl,r1⟩
theorem vals2{x y:V}{us:List Value}(r:Vals [x,y] us):∃u w',us=[u,w']∧RelV x u∧RelV y w':=by
 cases r with
 |cons r1 r2=>
  cases r2 with
  |cons r3 r4=>cases r4;exact⟨_,_,rfl,r1,r3⟩
theorem Me(hc:X.calm=true):CallR X (.builtin "max") (fun xs H Q=>∃i j,xs=[.int i,.int j]∧Q (.int (if j > i then j else i)) H):=by
 intro pins s σ H xs us Q I r h
 obtain⟨i,j,rfl,q⟩:=h
 obtain⟨u,w',rfl,⟨t,rfl⟩,⟨t',rfl⟩⟩:=vals2 r
 refine max_two_ints (I.ok.hd hc) fun h' tk k=>⟨_,H,I.kept k,?_,q⟩
 by_cases hj:j > i
 ·rw[if_pos hj,if_pos hj];exact⟨_,rfl⟩
 ·rw[if_neg hj,if_neg hj];exact⟨_,rfl⟩
theorem Md(hc:X.calm=true):CallR X (.builtin "min") (fun xs H Q=>∃i j,xs=[.int i,.int j]∧Q (.int (if j<i then j else i)) H):=by
 intro pins s σ H xs us Q I r h
 obtain⟨i,j,rfl,q⟩:=h
 obtain⟨u,w',rfl,⟨t,rfl⟩,⟨t',rfl⟩⟩:=vals2 r
 refine min_two_ints (I.ok.hd hc) fun h' tk k=>⟨_,H,I.kept k,?_,q⟩
 by_cases hj:j<i
 ·rw[if_pos hj,if_pos hj];exact⟨_,rfl⟩
 ·rw[if_neg hj,if_neg hj];exact⟨_,rfl⟩
end
section
variable{prog:Program}{w:World}{A:Around}{E:Value→Shared→Prop}{s:Shared}{K:Frag}{x dx C f:Addr}{mA:Str→Option Value}{name:Str}{v:Value}
end
theorem RelO.some_of{v:V}{o:Option Value}(r:RelO (some v) o):∃u,o=some u∧RelV v u:=by
 cases o with
 |none=>exact(show False from r).elim
 |some u=>exact⟨u,rfl,r⟩
section
variable{P:Program}{w:World}{H H':Hp}{h h':Heap}{a C dx:Addr}{fs fs':List (Str×V)}
end
section
variable{X:Cx}{pins:List (Addr×Obj)}{σ:St}{H:Hp}{s:Shared}{a C dx:Addr}{fs:List (Str×V)}{f:Str}{v:V}{A:Around}{E:Value→Shared→Prop}
end
section
variable{X:Cx}{o e value:Expr}{f:Str}{pos pos' tpos:Pos}{ta tv:TE}
end
section
variable{X:Cx}{pins:List (Addr×Obj)}{σ:St}{H:Hp}{s:Shared}{A:Around}{E:Value→Shared→Prop}{Q:Value→Shared→Prop}{c:Value}{b:Bool}
end
structure Room(k:Nat)(A:Around):Prop where
 hd:A.handled=none
 dp:A.depth+3*k+5<recursionLimit
 un:A.units+16*k+200<cLine
theorem Room.mono{j k:Nat}{A:Around}(r:Room k A)(h:j≤k):Room j A:=⟨r.hd,by have:=r.dp;lia,by have:=r.un;lia⟩
theorem Room.deeper{k:Nat}{A:Around}(r:Room (k+1) A)(env:Env):Room k (A.deeper env):=
 ⟨r.hd,by have:=r.dp;show A.depth+1+3*k+5<_;lia,by have:=r.un;show A.units+3+16*k+200<_;lia⟩
theorem Room.in1{k:Nat}{A:Around}(r:Room (k+1) A):Room k A.in1:=
 ⟨r.hd,by have:=r.dp;show A.depth+3*k+5<_;lia,by have:=r.un;show A.units+1+16*k+200<_;lia⟩
theorem Room.depth{k:Nat}{A:Around}(r:Room k A):A.depth<recursionLimit:=by have:=r.dp;lia
theorem Room.units{k:Nat}{A:Around}(r:Room k A):A.units+64<cLine:=by have:=r.un;lia
noncomputable def tNil:TA:=fun _ H Q=>Q [] H
noncomputable def Mv(ta:TE)(tr:TA):TA:=fun σ H Q=>ta σ H fun x H1=>tr σ H1 fun xs H2=>Q (x::xs) H2
section
variable{X:Cx}{e:Expr}{es:List Expr}{te:TE}{t:TA}{pos:Pos}
theorem jE:PA X [] tNil:=fun _ _ _ _ H Q I h=>Calls.spliced_nil ⟨[],H,I,.nil,h⟩
theorem vN(ha:PE X e te)(hr:PA X es t)(hs:starEach (e::es) X.env=(false,eval e X.env)::starEach es X.env:=by rfl):PA X (e::es) (Mv te t):=by
 intro pos pins s σ H Q I h
 rw[hs]
 show wpAny _ _ (spliced ((false,eval e X.env)::backTo pos (starEach es X.env))) _ _ s
 refine Calls.spliced_cons (thn (ha pins s σ H _ I h) fun u s1 z_=>?_)
 obtain⟨x,H1,I1,r1,q1⟩:=z_
 exact thn (hr pos pins s1 σ H1 _ I1 q1) fun us s2 z_=>by obtain⟨xs,H2,I2,r2,q2⟩:=z_;exact⟨x::xs,H2,I2,.cons r1 r2,q2⟩
noncomputable def tTup(t:TA):TE:=fun σ H Q=>t σ H fun xs H1=>xs.length≤sizeLine∧∀p,H1 p=none→Q (.ref p) (upd H1 p (.tup xs))
noncomputable def tLst(t:TA):TE:=fun σ H Q=>t σ H fun xs H1=>xs.length≤sizeLine∧∀p,H1 p=none→Q (.ref p) (upd H1 p (.lst xs))
theorem M0{x1}(h:PA X es t):PE X (.Tuple es x1 pos) (tTup t):=by
 intro pins s σ H Q I hq
 refine wpAny_Tuple_spliced (thn (h pos pins s σ H _ I hq) fun us s1 ⟨xs,H1,I1,r,z,q⟩=>⟨by rw[← r.length];exact z,?_⟩)
 have hf:H1 s1.heap.objs.size=none:=I1.hok.fresh (le_refl _)
 refine⟨.ref s1.heap.objs.size,upd H1 s1.heap.objs.size (.tup xs),I1.laid (t':=s1.toks) (fun b u e=>get?_push_of_some _ e) (le_refl _) ?_,rfl,q _ hf⟩
 exact⟨z,us,r,⟨_,Heap.get?_push_size _ rfl,rfl,_,rfl⟩⟩
theorem Jb(h:PA X es t):PE X (.List es pos) (tLst t):=by
 intro pins s σ H Q I hq
 refine wpAny_List_spliced (thn (h pos pins s σ H _ I hq) fun us s1 ⟨xs,H1,I1,r,z,q⟩=>⟨by rw[← r.length];exact z,?_⟩)
 have hf:H1 s1.heap.objs.size=none:=I1.hok.fresh (le_refl _)
 refine⟨.ref s1.heap.objs.size,upd H1 s1.heap.objs.size (.lst xs),I1.laid (t':=s1.toks) (fun b u e=>get?_push_of_some _ e) (le_refl _) ?_,rfl,q _ hf⟩
 exact⟨z,us,0,r,Heap.get?_push_size _ rfl⟩
end
noncomputable abbrev Sp:=List V→Hp→VK→XK→Prop
noncomputable abbrev CXT:=List Env→Hp→Shared→XK→Value→Shared→Prop
structure zl0(P:Program)(w:World)(K:Frag)(mg:Str→Option Value)(base:Heap)(A:Around)(outer:List Env)(s:Shared)(H:Hp):Prop where
 frames:A.frames=some outer
 mod:Mod K mg base
 bs:∀b o,base.get? b=some o→s.heap.get? b=some o∧H b=none
 bsz:base.objs.size≤s.heap.objs.size
 funs:s.heap.FunFrames base outer
 frf:∀b∈frs outer,H b=none
 hok:HOk P w H s.heap
 bare:AllBare s.gens
noncomputable def CE(outer:List Env)(P:Program)(w:World)(H:Hp)(s:Shared)(Q:VK)(u:Value)(s':Shared):Prop:=
 ∃v H',s'.os=s.os∧AllBare s'.gens∧Un (frs outer) [] H H' s.heap s'.heap∧HOk P w H' s'.heap∧RelV v u∧Q v H'
noncomputable def CR(CX:CXT)(outer:List Env)(P:Program)(w:World)(H:Hp)(s:Shared)(Q:VK)(E:XK)(r:Result)(s':Shared):Prop:=
 match r with
 | .ok (.ret u)=>CE outer P w H s Q u s'
 |.ok _=>False
 |.error e=>CX outer H s E e s'
structure FnOk(P:Program)(w:World)(K:Frag)(mg:Str→Option Value)(base:Heap)(CX:CXT)(k:Nat)(f:Addr)(fd:FuncData)(ps:List Str)(sp:Sp):Prop where
 len:∀vs H Q E,sp vs H Q E→vs.length=ps.length
 run:∀(A:Around) (outer:List Env) (s:Shared) (H:Hp) (args:Args) (us:List Value) (vs:List V) (Q:VK) (E:XK),Room k A→zl0 P w K mg base A outer s H→BindsTo s fd args (ps.zip us)→Vals vs us→sp vs H Q E →
  codeAny (model P w) A (.call (.ref f) args) (CR CX outer P w H s Q E) s
theorem FnOk.imp{P:Program}{w:World}{K:Frag}{mg:Str→Option Value}{base:Heap}{CX:CXT}{k:Nat}{f:Addr}{fd:FuncData}{ps:List Str}{sp sp':Sp}(F:FnOk P w K mg base CX k f fd ps sp)
  (h:∀vs H Q E,sp' vs H Q E→sp vs H Q E):FnOk P w K mg base CX k f fd ps sp':=
 ⟨fun vs H Q E q=>F.len vs H Q E (h _ _ _ _ q),fun A outer s H args us vs Q E hr he hb hv hs=>F.run A outer s H args us vs Q E hr he hb hv (h _ _ _ _ hs)⟩
section
variable{X:Cx}{pins:List (Addr×Obj)}{σ:St}{H:Hp}{s s':Shared}
theorem Inv.env0(I:Inv X pins σ H s):zl0 X.prog X.w X.K X.mg X.base X.A X.stack s H:=
 ⟨I.ok.frames,I.ok.mod,I.bs,le_trans I.ok.bsz I.sz,I.stack,I.stkFree,I.hok,I.bare⟩
theorem Inv.after{Q:VK}{u:Value}(I:Inv X pins σ H s)(h:CE X.stack X.prog X.w H s Q u s'):EP X pins σ Q u s':=by
 obtain⟨v,H',os,bare,un,hok,r,q⟩:=h
 obtain⟨hh,g,d,t,os'⟩:=s'
 obtain rfl:os'=s.os:=os
 exact⟨v,H',I.call (h':=hh) (g':=g) (d':=d) (t':=t) (ch:=[]) un hok bare (fun b z=>absurd z (by simp)),r,q⟩
end
noncomputable def tCall(sp:Sp)(dvs:List V)(E:XK)(t:TA):TE:=fun σ H Q=>t σ H fun vs H1=>sp (vs++dvs) H1 Q E
noncomputable def Binds(K:Frag)(fd:FuncData)(ps:List Str)(ds:List Value):Prop:=
 ∀(s:Shared) (us:List Value),K.In s.heap→(us++ds).length=ps.length→BindsTo s fd ⟨us,[]⟩ (ps.zip (us++ds))
theorem Binds.all{K:Frag}{fd:FuncData}{ps:List Str}(h:∀us:List Value,us.length=ps.length→bindArgs fd ⟨us,[]⟩=pure (ps.zip us)):Binds K fd ps []:=fun s us _ hl=>by
 rw[append_nil] at hl ⊢
 exact .of_eq (h us hl)
noncomputable def JM(CX:CXT)(X:Cx)(E:XK):Prop:=∀(pins:List (Addr×Obj)) (σ:St) (H:Hp) (s:Shared) (e:Value) (s':Shared),Inv X pins σ H s→CX X.stack H s E e s'→X.xe e s'
section
variable{X:Cx}{CX:CXT}{k:Nat}{f C:Addr}{fd:FuncData}{ps:List Str}{sp:Sp}{dvs:List V}{ds:List Value}{E:XK}{x m:Str}{p pos apos:Pos}{e o:Expr}{es:List Expr}{ta:TE}{t:TA}
theorem zn8{pins:List (Addr×Obj)}{σ:St}{H:Hp}{s:Shared}{Q:VK}{us:List Value}{vs:List V}(F:FnOk X.prog X.w X.K X.mg X.base CX k f fd ps sp)(hr:Room k X.A)(hb:Binds X.K fd ps ds)(hd:Vals dvs ds)(hx:JM CX X E)
  (I:Inv X pins σ H s) (r:Vals vs us) (h:sp (vs++dvs) H Q E):wpAny (model X.prog X.w) X.A (call (.ref f) us) (EP X pins σ Q) X.xe s:=by
 have r2:Vals (vs++dvs) (us++ds):=r.append hd
 have hl:(us++ds).length=ps.length:=by rw[← r2.length];exact F.len _ _ _ _ h
 refine wpAny_call (codeAny_mono (F.run X.A X.stack s H ⟨us,[]⟩ (us++ds) (vs++dvs) Q E hr I.env0 (hb s us I.kIn hl) r2 h) fun r s' hq=>?_)
 cases r with
 |error e=>exact hx pins σ H s e s' I hq
 |ok fl=>
  cases fl with
  |ret u=>exact I.after hq
  |next=>exact False.elim hq
  |brk=>exact False.elim hq
  |cont=>exact False.elim hq
theorem zd0(F:FnOk X.prog X.w X.K X.mg X.base CX k f fd ps sp)(hr:Room k X.A)(hg:Gl X x)(hm:X.mg x=some (.ref f))(hk:keepIn X.K (.ref f)=true)(hb:Binds X.K fd ps ds)(hd:Vals dvs ds)(hx:JM CX X E)
  (ha:PA X (e::es) t) (hdb:(x==("__debug__" : Str))=false:=by decide) (he:starEach (e::es) X.env=(false,eval e X.env)::starEach es X.env:=by rfl) (hpl:(backTo pos (starEach es X.env)).any (·.1)=false:=by rfl) :
  PE X (.Call (.Name x p) (e::es) [] pos) (tCall sp dvs E t):=by
 intro pins s σ H Q I h
 refine wpAny_Call_Name_kw (Zb I hg hm ?_ hdb)
 refine PySem.W.callWith_K (h₀:=X.base) I.ok.mod.kin hk (thn (ha pos pins s σ H _ I h) fun us s1 ⟨vs,H1,I1,r,q⟩=>⟨I1.kIn,?_⟩) he hpl
 exact zn8 F hr hb hd hx I1 r q
end
section
variable{X:Cx}{CX:CXT}{k:Nat}{f C:Addr}{fd:FuncData}{ps ks:List Str}{sp:Sp}{E:XK}{x m:Str}{p pos apos kpos:Pos}{e o:Expr}{es:List Expr}{kws:List Keyword}{te ta:TE}{t tk:TA}{nm:Option Str}
variable{g:List Value→List Value→List Value}{gV:List V→List V→List V}
end
structure zO(N P:List Str)(sc:Scope):Prop where
 kind:sc.kind=.function
 co:sc.isCoroutine=false
 gen:sc.isGenerator=false
 nd:N.Nodup
 pre:N.take P.length=P
 par:∀x∈P,sc.names.lookup x=some .local∨sc.names.lookup x=some .cell
 nofree:∀y∈sc.names,y.2≠.free
theorem WG{kindOf:Str→Option NameKind}{x:Str}:∀{binds:List (Str×Value)} {m:Str→Option Value},(∀v,(x,v)∉binds)→bindL kindOf binds m x=m x
 |[],_,_=>rfl
 | (n,v)::r,m,h=>by
  unfold bindL
  rw[WG fun w hw=>h w (mem_cons_of_mem _ hw)]
  split
  ·have:x≠n:=by rintro rfl;exact h v mem_cons_self
   simp[this]
  ·rfl
theorem WI{kindOf:Str→Option NameKind}{x:Str}:∀{binds:List (Str×Value)} {m:Str→Option Value},(∀v,(x,v)∉binds)→bindC kindOf binds m x=m x
 |[],_,_=>rfl
 | (n,v)::r,m,h=>by
  unfold bindC
  rw[WI fun w hw=>h w (mem_cons_of_mem _ hw)]
  split
  ·rfl
  ·have:x≠n:=by rintro rfl;exact h v mem_cons_self
   simp[this]
theorem WH{kindOf:Str→Option NameKind}{x:Str}{v:Value}:∀{P:List Str} {vs:List Value} {i:Nat} {m:Str→Option Value},P.Nodup→P[i]?=some x→vs[i]?=some v→kindOf x=some .local →
  bindL kindOf (P.zip vs) m x=some v
 |[],_,_,_,_,h,_,_=>by simp at h
 |_::_,[],_,_,_,_,h,_=>by simp at h
 |p::P,w::vs,0,m,nd,h1,h2,hk=>by
  simp at h1 h2;subst h1;subst h2
  show bindL kindOf ((p,w)::P.zip vs) m p=_
  unfold bindL
  rw[WG fun v hv=>(nodup_cons.mp nd).1 (List.of_mem_zip hv).1,if_pos hk]
  simp
 |p::P,w::vs,i+1,m,nd,h1,h2,hk=>by
  show bindL kindOf ((p,w)::P.zip vs) m x=_
  unfold bindL
  exact WH (i:=i) (nodup_cons.mp nd).2 (by simpa using h1) (by simpa using h2) hk
theorem WJ{kindOf:Str→Option NameKind}{x:Str}{v:Value}:∀{P:List Str} {vs:List Value} {i:Nat} {m:Str→Option Value},P.Nodup→P[i]?=some x→vs[i]?=some v→kindOf x≠some .local →
  bindC kindOf (P.zip vs) m x=some v
 |[],_,_,_,_,h,_,_=>by simp at h
 |_::_,[],_,_,_,_,h,_=>by simp at h
 |p::P,w::vs,0,m,nd,h1,h2,hk=>by
  simp at h1 h2;subst h1;subst h2
  show bindC kindOf ((p,w)::P.zip vs) m p=_
  unfold bindC
  rw[WI fun v hv=>(nodup_cons.mp nd).1 (List.of_mem_zip hv).1,if_neg hk]
  simp
 |p::P,w::vs,i+1,m,nd,h1,h2,hk=>by
  show bindC kindOf ((p,w)::P.zip vs) m x=_
  unfold bindC
  exact WJ (i:=i) (nodup_cons.mp nd).2 (by simpa using h1) (by simpa using h2) hk
noncomputable def start(N:List Str)(vs:List V):St:=vs.map some++List.replicate (N.length-vs.length) none
noncomputable def Ys(CX:CXT)(P:Program)(w:World)(K:Frag)(mg:Str→Option Value)(base:Heap)(N:List Str)(qual:Str)(scope:Scope)(f:Addr)(cd:Value)(A:Around)(outer:List Env)(s:Shared)(H:Hp)(E:XK):Cx where
 prog:=P
 w:=w
 K:=K
 mg:=mg
 base:=base
 A:=A.deeper (envOfC qual scope s.heap.objs.size f cd)
 N:=N
 s₀:=s
 H₀:=H
 env:=envOfC qual scope s.heap.objs.size f cd
 outer:=outer
 stack:=envOfC qual scope s.heap.objs.size f cd::outer
 ex:=[]
 calm:=true
 fn:=fun _=>true
 pn:=[]
 xe:=fun e s'=>wpAny (model P w) (A.deeper (envOfC qual scope s.heap.objs.size f cd)) (leaving (envOfC qual scope s.heap.objs.size f cd) e) (fun _ s''=>CX outer H s E e s'') (fun e' s''=>CX outer H s E e' s'') s'
theorem UN{sc:Scope}{n:Nat}{x:Str}(h:sc.names.lookup x=some .cell):∃c,(cellsFrom n sc.names []).lookup x=some c:=by
 have q:=cellsFrom_some sc.names n [] (.inl h)
 exact Option.isSome_iff_exists.mp q
theorem GQ{CX:CXT}{P:Program}{w:World}{K:Frag}{mg:Str→Option Value}{base:Heap}{N ps:List Str}{qual:Str}{scope:Scope}{f:Addr}{cd:Value}{A:Around}{outer:List Env}{s s1:Shared}{H:Hp}{E:XK}{us:List Value}{vs:List V}
  (S:zO N ps scope) (hd:A.handled=none) (e0:zl0 P w K mg base A outer s H) (hl:vs.length=ps.length) (r:Vals vs us)
  (x:InCallC s s.heap.objs.size (bindL (envOfC qual scope s.heap.objs.size f cd).kindOf (ps.zip us) fun _=>none) (cellsFrom (s.heap.objs.size+1) scope.names []) (bindC (envOfC qual scope s.heap.objs.size f cd).kindOf (ps.zip us) fun _=>none) s1) :
  Inv (Ys CX P w K mg base N qual scope f cd A outer s H E) [] (start N vs) H s1:=by
 have hpl:ps.length≤N.length:=by have:=congrArg List.length S.pre;rw[length_take] at this;lia
 obtain⟨h1,tk,rfl,hk⟩:=x.done
 have noA:∀b:Addr,b∉(Ys CX P w K mg base N qual scope f cd A outer s H E).ex:=fun b z=>absurd (show b∈([]:List Addr) from z) (by simp)
 refine⟨⟨e0.mod,S.kind,rfl,rfl,le_refl _,fun y z c h1 h2=>?_,fun y hy=>?_,fun y c _ h=>?_,fun _=>hd,Around.frames_deeper e0.frames,.inr ⟨rfl,rfl⟩,fun b z=>absurd z (noA b),e0.bs,e0.bsz,fun b _ _=>noA b,fun b z=>absurd z (noA b),e0.funs,e0.frf⟩,
  rfl,e0.bare,Un.kept hk,⟨_,x.toInCall.ns,fun i y v h1 h2 h3=>?_⟩,fun y c h=>⟨_,x.cell y c h⟩,e0.hok.fresh (le_refl _),fun y c h=>?_,fun p hp=>absurd (show p∈([]:List (Addr×Obj)) from hp) (by simp),e0.hok.kept hk,?_⟩
 ·exact name_of_addr x.apart (PySem.mem_of_lookup h1) (PySem.mem_of_lookup h2)
 ·have hy:scope.names.lookup y=some .cell∨scope.names.lookup y=some .free:=hy
  rcases hy with hy|hy
  ·exact UN hy
  ·exact absurd rfl (S.nofree _ (PySem.mem_of_lookup hy))
 ·exact le_of_lt (x.above y c (PySem.mem_of_lookup h))
 ·have hi:i<vs.length:=by
   unfold start at h2
   by_cases hi:i<vs.length
   ·exact hi
   ·rw[getElem?_append_right (by simpa using hi)] at h2
    rw[getElem?_replicate] at h2
    split at h2 <;> cases h2
  have ha:vs[i]?=some v:=by
   unfold start at h2
   rw[getElem?_append_left (by simpa using hi),getElem?_map] at h2
   cases e:vs[i]? with
   |none=>rw[e] at h2;cases h2
   |some a=>rw[e] at h2;cases h2;rfl
  obtain⟨u,hu,rv⟩:=r.get ha
  have hp:ps[i]?=some y:=by
   rw[← S.pre,List.getElem?_take_of_lt (by lia)];exact h1
  have ndP:ps.Nodup:=by rw[← S.pre];exact S.nd.sublist (List.take_sublist _ _)
  refine⟨u,rv,?_⟩
  rcases S.par y (mem_of_getElem? hp) with k|k
  ·exact .inl ⟨k,WH ndP hp hu k⟩
  ·obtain⟨c,e⟩:=UN (n:=s.heap.objs.size+1) k
   refine .inr ⟨.inl k,c,e,?_⟩
   have q:=x.cell y c e
   rw[WJ ndP hp hu (by show scope.names.lookup y≠_;rw[k];decide)] at q
   exact q
 ·exact e0.hok.fresh (le_of_lt (x.above y c (PySem.mem_of_lookup h)))
 ·unfold start
  show _=N.length
  rw[length_append,length_map,List.length_replicate]
  lia
theorem Lr{CX:CXT}{P:Program}{w:World}{K:Frag}{mg:Str→Option Value}{base:Heap}{k:Nat}{f:Addr}{name qual:Str}{params:Arguments}{body:List Stmt}{scope:Scope}{dV kV doc pm cdv ct oc:Value}{an od:Option Addr}
  {osl:Array (Option Value)} {N ps:List Str} {sp:Sp} (lk:K.lookup f=some ⟨oc,od,.func (fnOf name qual params body scope dV kV doc pm an cdv ct),osl⟩) (hcd:codeIn K cdv qual=true) (S:zO N ps scope)
  (len:∀vs H Q E,sp vs H Q E→vs.length=ps.length)
  (hbody:∀(A:Around) (outer:List Env) (s:Shared) (H:Hp) (vs:List V) (Q:VK) (E:XK),Room k (A.deeper (envOfC qual scope s.heap.objs.size f cdv))→sp vs H Q E →
   ∃t,PSs (Ys CX P w K mg base N qual scope f cdv A outer s H E) body t∧t { nx:=fun _ H'=>Q .non H',rt:=Q } (start N vs) H) :
  FnOk P w K mg base CX (k+1) f (fnOf name qual params body scope dV kV doc pm an cdv ct) ps sp:=by
 refine⟨len,fun A outer s H args us vs Q E hr e0 hb r hsp=>?_⟩
 have hl:=len _ _ _ _ hsp
 have KX:K.In s.heap:=e0.mod.kin.keeps fun b o e=>(e0.bs b o e).1
 have lim:s.heap.NoLimit:=e0.mod.nolimit.keeps fun b o e=>(e0.bs b o e).1
 have hkind:∀y∈ps.zip us,scope.names.lookup y.1=some .local∨(scope.names.lookup y.1=some .cell∧((cellsFrom (s.heap.objs.size+1) scope.names []).lookup y.1).isSome=true):=fun ⟨n,v⟩ hy=>by
  rcases S.par n (List.of_mem_zip hy).1 with q|q
  ·exact .inl q
  ·exact .inr ⟨q,cellsFrom_some _ _ _ (.inl q)⟩
 refine codeAny_call_function hr.depth (KX _ _ lk) rfl S.co S.gen rfl (PySem.W.codeRec_of KX hcd) (hb _ _ _ _ ?_)
 refine wpAny_newFunctionEnv_cells S.kind hkind fun env he s1 x=>?_
 subst he
 refine⟨lim.keeps x.toInCall.keep,codeAny_func ?_⟩
 obtain⟨t,ht,hq⟩:=hbody A outer s H vs Q E (hr.deeper _) hsp
 have I:Inv (Ys CX P w K mg base N qual scope f cdv A outer s H E) [] (start N vs) H s1:=GQ S hr.hd e0 hl r x
 refine wpAny_mono (ht [] s1 (start N vs) H _ I hq) (fun fl s' hs=>?_) fun e s' hs=>hs
 have fin:∀{σ':St} {H':Hp} {v:V} {u:Value},Inv (Ys CX P w K mg base N qual scope f cdv A outer s H E) [] σ' H' s'→RelV v u→Q v H'→CE outer P w H s Q u s':=
  fun {σ' H' v u} J rv q=>⟨v,H',J.os,J.bare,J.base,J.hok,rv,q⟩
 cases fl with
 |ret u=>
  obtain⟨v,σ',H',J,rv,q⟩:=hs
  exact fin J rv q
 |next=>
  obtain⟨σ',H',J,q⟩:=hs
  exact fin (v:=V.non) (u:=Value.none) J rfl q
 |brk=>
  obtain⟨_,_,_,q⟩:=hs
  exact False.elim q
 |cont=>
  obtain⟨_,_,_,q⟩:=hs
  exact False.elim q
section
variable{X:Cx}{x:Str}{p pos:Pos}{e:Expr}{es:List Expr}{t:TA}{id T:String}{r:List V→Hp→VK→Prop}
noncomputable def tCB(r:List V→Hp→VK→Prop)(t:TA):TE:=fun σ H Q=>t σ H fun vs H1=>r vs H1 Q
theorem pe_callB(hc:CallR X (.builtin id) r)(hg:Gl X x)(hm:X.mg x=none)(hv:bootBuiltins x=some (.builtin id))(ha:PA X (e::es) t)(hn:x ≠ "__name__" := by decide)(hdb:(x==("__debug__" : Str))=false:=by decide)
  (he:starEach (e::es) X.env=(false,eval e X.env)::starEach es X.env:=by rfl) (hpl:(backTo pos (starEach es X.env)).any (·.1)=false:=by rfl):PE X (.Call (.Name x p) (e::es) [] pos) (tCB r t):=by
 intro pins s σ H Q I h
 refine wpAny_Call_Name_kw (wS I hg hm hv ?_ hn hdb)
 exact PyProof.Rows.callWith_builtin1 (thn (ha pos pins s σ H _ I h) fun us s1 ⟨vs,H1,I1,r1,q1⟩=>hc pins s1 σ H1 vs us Q I1 r1 q1) he hpl
theorem pe_callTy(hc:CallR X (.type T) r)(hg:Gl X x)(hm:X.mg x=none)(hv:bootBuiltins x=some (.type T))(ha:PA X (e::es) t)(hn:x ≠ "__name__" := by decide)(hdb:(x==("__debug__" : Str))=false:=by decide)
  (he:starEach (e::es) X.env=(false,eval e X.env)::starEach es X.env:=by rfl) (hpl:(backTo pos (starEach es X.env)).any (·.1)=false:=by rfl):PE X (.Call (.Name x p) (e::es) [] pos) (tCB r t):=by
 intro pins s σ H Q I h
 refine wpAny_Call_Name_kw (wS I hg hm hv ?_ hn hdb)
 exact PyProof.Rows.callWith_type1 (thn (ha pos pins s σ H _ I h) fun us s1 ⟨vs,H1,I1,r1,q1⟩=>hc pins s1 σ H1 vs us Q I1 r1 q1) he hpl
end
end L2
namespace HT
open PySem PyProof.Rows
section
open PySem.SeqAt
open PySem.AutoSeq1 (wpAny_loadPart')
open PySem.MeetsSeq PySem.MeetsSeq2 PySem.MeetsSeq3
end
section
variable{prog:Program}{w:World}{A:Around}{E:Value→Shared→Prop}{s:Shared}
noncomputable def sIx(n d:Nat):Option Int→Nat
 |none=>d
 |some v=>if v<0 then (v+(n:Int)).toNat else min v.toNat n
end
end HT
namespace L2
open PySem PySem.Spec PyProof.Rows
noncomputable abbrev TO:=St→Hp→(Option Int→Hp→Prop)→Prop
noncomputable def PO(X:Cx)(e:Option Expr)(t:TO):Prop:=
 ∀(pins:List (Addr×Obj)) (s:Shared) (σ:St) (H:Hp) (Q:Option Int→Hp→Prop),Inv X pins σ H s→t σ H Q →
  wpAny (model X.prog X.w) X.A (evalPart e X.env) (fun u s'=>∃o H',Inv X pins σ H' s'∧IsPart u o∧Q o H') X.xe s
noncomputable def za0:TO:=fun _ H Q=>Q none H
noncomputable def tPart(t:TE):TO:=fun σ H Q=>t σ H fun x H1=>∃i,x=.int i∧Q (some i) H1
section
variable{X:Cx}{e:Expr}{te:TE}{lo hi:Option Expr}{tl th:TO}{pos p2:Pos}
theorem zc6:PO X none za0:=by
 intro pins s σ H Q I h
 rw[evalPart_none]
 exact wpAny_pure ⟨none,H,I,.none,h⟩
theorem zc5(h:PE X e te):PO X (some e) (tPart te):=by
 intro pins s σ H Q I hw
 rw[evalPart_some]
 refine thn (h pins s σ H _ I hw) fun u s1 z_=>?_
 obtain⟨x,H1,I1,r1,q1⟩:=z_
 obtain⟨i,rfl,q⟩:=q1
 obtain⟨t,rfl⟩:=r1
 exact⟨some i,H1,I1,.int i t,q⟩
noncomputable def SlR(X:Cx)(r:V→Option Int→Option Int→Hp→VK→Prop):Prop:=
 ∀(pins:List (Addr×Obj)) (s:Shared) (σ:St) (H:Hp) (x:V) (v vl vu:Value) (lo hi:Option Int) (sl:Addr) (Q:VK),Inv X pins σ H s→RelV x v→s.heap.IsSliceOf sl vl vu .none→IsPart vl lo→IsPart vu hi→r x lo hi H Q →
  ∃T id,typeLookup (.type T) "__getitem__" = pure (some (.builtin id))∧s.TypeIs v T∧wpAny (model X.prog X.w) X.A (getItem v (.ref sl)) (EP X pins σ Q) X.xe s
theorem SlR.or{r r':V→Option Int→Option Int→Hp→VK→Prop}(h:SlR X r)(h':SlR X r'):SlR X (fun x lo hi H Q=>r x lo hi H Q∨r' x lo hi H Q):=by
 intro pins s σ H x v vl vu lo hi sl Q I rx hs pl pu q
 rcases q with q|q
 ·exact h pins s σ H x v vl vu lo hi sl Q I rx hs pl pu q
 ·exact h' pins s σ H x v vl vu lo hi sl Q I rx hs pl pu q
noncomputable def tSl(r:V→Option Int→Option Int→Hp→VK→Prop)(te:TE)(tl th:TO):TE:=fun σ H Q=>te σ H fun x H1=>tl σ H1 fun l H2=>th σ H2 fun u H3=>r x l u H3 Q
theorem M2{r:V→Option Int→Option Int→Hp→VK→Prop}(hr:SlR X r)(he:PE X e te)(hl:PO X lo tl)(hu:PO X hi th):PE X (.Subscript e (.Slice lo hi none p2) pos) (tSl r te tl th):=by
 intro pins s σ H Q I h
 refine Subscript_ (thn (he pins s σ H _ I h) fun v s1 z_=>?_)
 obtain⟨x,H1,I1,r1,q1⟩:=z_
 refine wpAny_Slice (thn (hl pins s1 σ H1 _ I1 q1) fun vl s2 ⟨l,H2,I2,pl,q2⟩=>thn (hu pins s2 σ H2 _ I2 q2) fun vu s3 z_=>?_)
 obtain⟨u,H3,I3,pu,q3⟩:=z_
 rw[evalPart_none]
 refine wpAny_pure ?_
 have I4:Inv X pins σ H3 { s3 with heap:=s3.heap.push { cls:=.type "slice", data:=.fields #[vl,vu,.none] } }:=I3.kept (t':=s3.toks) fun b ob q=>get?_push_of_some _ q
 obtain⟨T,id,hT,ht,hg⟩:=hr pins { s3 with heap:=s3.heap.push { cls:=.type "slice", data:=.fields #[vl,vu,.none] } } σ H3 x v vl vu l u s3.heap.objs.size Q I4 r1 (Heap.IsSliceOf.new ..) pl pu q3
 show wpAny (model X.prog X.w) X.A (subscriptTail e (.Slice lo hi none p2) v (.ref s3.heap.objs.size)) (EP X pins σ Q) X.xe { s3 with heap:=s3.heap.push { cls:=.type "slice", data:=.fields #[vl,vu,.none] } }
 exact tail_any (ops:=[.ref s3.heap.objs.size,v]) ht hT hg (by with_unfolding_all rfl)
noncomputable def Ma(xs:List V)(lo hi:Option Int):List V:=(xs.drop (HT.sIx xs.length 0 lo)).take (HT.sIx xs.length xs.length hi-HT.sIx xs.length 0 lo)
theorem UK(xs:List V)(lo hi:Option Int):(Ma xs lo hi).length≤xs.length:=by
 unfold Ma
 rw[length_take,length_drop]
 lia
end
noncomputable def ixN(n:Nat)(i:Int):Option Nat:=if 0≤i then (if i<n then some i.toNat else none) else if -(n:Int)≤i then some (i+n).toNat else none
noncomputable def atI{α:Type}(xs:List α)(i:Int):Option α:=(ixN xs.length i).bind fun j=>xs[j]?
theorem Qz{n:Nat}{i:Int}{j:Nat}(h:ixN n i=some j):seqIndex? i n=some j∧j<n∧-(n:Int)≤i∧i<n:=by
 unfold ixN at h
 by_cases h0:0≤i
 ·rw[if_pos h0] at h
  by_cases h1:i<n
  ·rw[if_pos h1] at h
   have e:i.toNat=j:=Option.some.inj h
   exact⟨by rw[seqIndex_of h0 h1,e],by lia,by lia,h1⟩
  ·rw[if_neg h1] at h;cases h
 ·rw[if_neg h0] at h
  by_cases h1 : -(n:Int)≤i
  ·rw[if_pos h1] at h
   have e:(i+n).toNat=j:=Option.some.inj h
   exact⟨by rw[seqIndex_neg (by lia) h1,e],by lia,h1,by lia⟩
  ·rw[if_neg h1] at h;cases h
theorem Vt{α:Type}{xs:List α}{i:Int}{v:α}(h:atI xs i=some v):∃j,seqIndex? i xs.length=some j∧xs[j]?=some v∧j<xs.length∧-(xs.length:Int)≤i∧i<xs.length:=by
 unfold atI at h
 cases e:ixN xs.length i with
 |none=>rw[e] at h;cases h
 |some j=>
  rw[e] at h
  obtain⟨h1,h2,h3,h4⟩:=Qz e
  exact⟨j,h1,h,h2,h3,h4⟩
theorem QY{α:Type}{xs:List α}{j:Nat}{v:α}(h:xs[j]?=some v):atI xs (j:Int)=some v:=by
 have hj:j<xs.length:=(List.getElem?_eq_some_iff.mp h).1
 have e:ixN xs.length (j:Int)=some j:=by
  unfold ixN
  rw[if_pos (by lia),if_pos (by lia)];simp
 unfold atI;rw[e];exact h
noncomputable def Vv(b:Expr):Prop:=∀o i,subscripted b false o i=operate [o,i] (getItem o i)
noncomputable def IxR(X:Cx)(r:R2):Prop:=
 ∀(value slice:Expr) (pins:List (Addr×Obj)) (s:Shared) (σ:St) (H:Hp) (x y:V) (v u:Value) (Q:VK),Inv X pins σ H s→RelV x v→RelV y u→r x y H Q →
  subscripted slice false v u=operate [v,u] (getItem v u)→wpAny (model X.prog X.w) X.A (subscriptTail value slice v u) (EP X pins σ Q) X.xe s
noncomputable def MtR(X:Cx)(id:String)(r:V→List V→Hp→VK→Prop):Prop:=
 ∀(pins:List (Addr×Obj)) (s:Shared) (σ:St) (H:Hp) (x:V) (xs:List V) (v:Value) (us:List Value) (Q:VK),Inv X pins σ H s→RelV x v→Vals xs us→r x xs H Q →
  wpAny (model X.prog X.w) X.A (call (.builtin id) (v::us)) (EP X pins σ Q) X.xe s
section
variable{X:Cx}{a b:Expr}{ta tb:TE}{pos:Pos}
theorem IxR.or{r r':R2}(h:IxR X r)(h':IxR X r'):IxR X (fun x y H Q=>r x y H Q∨r' x y H Q):=by
 intro value slice pins s σ H x y v u Q I rx ry q hs
 rcases q with q|q
 ·exact h value slice pins s σ H x y v u Q I rx ry q hs
 ·exact h' value slice pins s σ H x y v u Q I rx ry q hs
theorem zl7{r:R2}(hr:IxR X r)(ha:PE X a ta)(hb:PE X b tb)(hs:Vv b):PE X (.Subscript a b pos) (tOp r ta tb):=by
 intro pins s σ H Q I h
 exact Subscript_ (zv2 ha hb I h fun v u s2 x y H2 I2 rx ry q=>hr a b pins s2 σ H2 x y v u Q I2 rx ry q (hs _ _))
noncomputable def rIxL(K:Frag):R2:=fun x y H Q=>∃p xs i v,x=.ref p∧y=.int i∧SqL K H p xs∧atI xs i=some v∧Q v H
noncomputable def rIxT(K:Frag):R2:=fun x y H Q=>∃p xs i v,x=.ref p∧y=.int i∧SqT K H p xs∧atI xs i=some v∧Q v H
noncomputable def rIxS:R2:=fun x y H Q=>∃z i c,x=.str z∧y=.int i∧z.length≤sizeLine∧atI z.cps.toList i=some c∧Q (.str ⟨#[c]⟩) H
theorem ix_list:IxR X (rIxL X.K):=by
 intro value slice pins s σ H x y v u Q I rx ry h hs
 obtain⟨p,xs,i,z,rfl,rfl,hq,he,q⟩:=h
 cases rx
 obtain⟨t,rfl⟩:=ry
 obtain⟨its,r,pl,hz⟩:=I.list hq
 obtain⟨j,h1,h2,h3,h4,h5⟩:=Vt he
 obtain⟨w,ew,rw'⟩:=r.get h2
 have hl:=r.length
 have hn:=jI
 have fin:EP X pins σ Q w s:=⟨z,H,I,rw',q⟩
 by_cases h0:0≤i
 ·have hj:i.toNat=j:=by
   rw[seqIndex_of h0 h5] at h1
   exact Option.some.inj h1
  exact item_listR pl.isList h0 (by lia) (by rw[hj];simpa using ew) fin hs
 ·have hj:(i+(its.toArray.size:Int)).toNat=j:=by
   rw[seqIndex_neg (by lia) h4] at h1
   rw[size_toArray,← hl]
   exact Option.some.inj h1
  exact subscriptTail_builtinR (x:=w) pl.isList.typeIs slot_list_getitem.lookup
   (wpAny_getItem_list_neg (Q:=fun r s'=>r=w∧EP X pins σ Q r s') pl.isList (by lia) (by rw[size_toArray] <;> lia) (by lia) (by rw[hj];simpa using ew) ⟨rfl,fin⟩) hs
theorem ix_tup:IxR X (rIxT X.K):=by
 intro value slice pins s σ H x y v u Q I rx ry h hs
 obtain⟨p,xs,i,z,rfl,rfl,hq,he,q⟩:=h
 cases rx
 obtain⟨t,rfl⟩:=ry
 obtain⟨its,r,pl,hz⟩:=I.tuple hq
 obtain⟨j,h1,h2,h3,h4,h5⟩:=Vt he
 obtain⟨w,ew,rw'⟩:=r.get h2
 have hl:=r.length
 have hn:=jI
 have fin:EP X pins σ Q w s:=⟨z,H,I,rw',q⟩
 exact subscriptTail_builtinR (x:=w) pl.typeIs slot_tuple_getitem.lookup
  (getItem_tuple (j:=j) (Q:=fun r s'=>r=w∧EP X pins σ Q r s') pl (by lia) (by lia) (by rw[size_toArray,← hl];exact h1) (by simpa using ew) ⟨rfl,fin⟩) hs
theorem zs8:IxR X rIxS:=by
 intro value slice pins s σ H x y v u Q I rx ry h hs
 obtain⟨z,i,c,rfl,rfl,hz,he,q⟩:=h
 obtain⟨t,rfl⟩:=rx
 obtain⟨t',rfl⟩:=ry
 obtain⟨j,h1,h2,h3,h4,h5⟩:=Vt he
 have hl:z.cps.toList.length=z.length:=by simp[Str.length]
 rw[hl] at h1 h4 h5
 have hn:=jI
 exact tail_any (typeIs_str s z t) slot_str_getitem.lookup (getItem_str (c:=c) (by
  have e1:decide (i < -(2 ^ 63:Int))=false:=decide_eq_false (by lia)
  have e2:decide (i ≥ 2 ^ 63)=false:=decide_eq_false (by lia)
  rw[e1,e2,Bool.or_false]) (by rw[h1];simpa using h2) ⟨.str ⟨#[c]⟩,H,I.tok _,⟨_,rfl⟩,q⟩) hs
noncomputable def rIx(K:Frag):R2:=fun x y H Q=>rIxL K x y H Q∨rIxT K x y H Q∨rIxS x y H Q
theorem zs9:IxR X (rIx X.K):=ix_list.or (ix_tup.or zs8)
theorem Jl(its:List Value)(n j:Nat)(u:Value):Obj.mapSeq (·.setIfInBounds j u) { cls:=.type "list", data:=.seq its.toArray n } = { cls:=.type "list", data:=.seq (its.set j u).toArray n }:=by
 simp[Obj.mapSeq]
theorem Inv.lst{pins:List (Addr×Obj)}{σ:St}{H:Hp}{s:Shared}{p:Addr}{xs:List V}(I:Inv X pins σ H s)(h:H p=some (.lst xs)) :
  ∃(its:List Value) (n:Nat),Vals xs its∧s.heap.get? p=some { cls:=.type "list", data:=.seq its.toArray n }∧xs.length≤sizeLine:=by
 obtain⟨z,its,n,r,e⟩:=I.hok p _ h
 exact⟨its,n,r,e,z⟩
theorem Inv.lstUpd{pins:List (Addr×Obj)}{σ:St}{H:Hp}{s:Shared}{p:Addr}{xs ys:List V}{its its':List Value}{n n':Nat}{f:Obj→Obj}(I:Inv X pins σ H s)(h:H p=some (.lst xs))
  (ho:s.heap.get? p=some { cls:=.type "list", data:=.seq its.toArray n }) (hf:f { cls:=.type "list", data:=.seq its.toArray n } = { cls:=.type "list", data:=.seq its'.toArray n' }) (r:Vals ys its') (hz:ys.length≤sizeLine) (t:Nat) :
  Inv X pins σ (upd H p (.lst ys)) { s with heap:=s.heap.update p f,toks:=t }:=by
 have e:(s.heap.update p f).get? p=some { cls:=.type "list", data:=.seq its'.toArray n' }:=by
  rw[Heap.get?_update_self f ho (by rw[hf] <;> rfl),hf]
 refine I.write (x:=p) (e:=p) (by rw[h];trivial) (.inl rfl) (fun b u hb q=>(Heap.get?_update_other _ _ (Ne.symm hb)).trans q) ⟨_,e⟩ ?_
 exact⟨hz,its',n',r,e⟩
noncomputable def rSetL:V→V→V→Hp→(Hp→Prop)→Prop:=fun o i v H Q=>∃p xs k j,o=.ref p∧i=.int k∧H p=some (.lst xs)∧ixN xs.length k=some j∧Q (upd H p (.lst (xs.set j v)))
theorem MG:PSet X rSetL:=by
 intro pins s σ H o i v ov iv u Q I ro ri rv h
 obtain⟨p,xs,k,j,rfl,rfl,hp,hj,q⟩:=h
 cases ro
 obtain⟨t,rfl⟩:=ri
 obtain⟨its,n,r,ho,hz⟩:=I.lst hp
 obtain⟨h1,h2,h3,h4⟩:=Qz hj
 have hl:=r.length
 have hn:=jI
 have I':Inv X pins σ (upd H p (.lst (xs.set j v))) { s with heap:=s.heap.update p (Obj.mapSeq (·.setIfInBounds j u)) }:=
  I.lstUpd hp ho (Jl its n j u) (r.set rv j) (by rw[length_set];exact hz) s.toks
 by_cases h0:0≤k
 ·have hk:k.toNat=j:=by
   rw[seqIndex_of h0 h4] at h1
   exact Option.some.inj h1
  exact PySem.W.ki_setAt ho h0 (by lia) (by rw[size_toArray,← hl];exact h4) (by rw[hk];exact⟨_,I',q⟩)
 ·have hk:(k+(its.toArray.size:Int)).toNat=j:=by
   rw[seqIndex_neg (by lia) h3] at h1
   rw[size_toArray,← hl]
   exact Option.some.inj h1
  exact PySem.W.ki_setBack ho (by lia) (by rw[size_toArray,← hl];exact h3) (by lia) (by rw[hk];exact⟨_,I',q⟩)
theorem WO(lo hi:Option Int)(n:Nat):(sliceBounds lo hi none n).1=((HT.sIx n 0 lo:Nat):Int)∧(sliceBounds lo hi none n).2.1=((HT.sIx n n hi:Nat):Int)∧(sliceBounds lo hi none n).2.2=1:=by
 refine⟨?_,?_,rfl⟩
 ·cases lo with
  |none=>simp[sliceBounds,HT.sIx]
  |some i=>
   simp only[sliceBounds,HT.sIx,Option.getD_none,show(1:Int) > 0 by decide,if_true]
   by_cases h:i<0
   ·simp only[h,if_true] <;> lia
   ·simp only[h,if_false] <;> lia
 ·cases hi with
  |none=>simp[sliceBounds,HT.sIx]
  |some i=>
   simp only[sliceBounds,HT.sIx,Option.getD_none,show(1:Int) > 0 by decide,if_true]
   by_cases h:i<0
   ·simp only[h,if_true] <;> lia
   ·simp only[h,if_false] <;> lia
theorem XT(its:List Value)(lo hi:Option Int):slicePick its.toArray lo hi none=((its.drop (HT.sIx its.length 0 lo)).take (HT.sIx its.length its.length hi-HT.sIx its.length 0 lo)).toArray:=by
 obtain⟨h1,h2,h3⟩:=WO lo hi its.toArray.size
 unfold slicePick
 rw[h1,h2,h3]
 simp only[sliceRange_one,pick_run,size_toArray] <;> rfl
noncomputable def rSlL(K:Frag):V→Option Int→Option Int→Hp→VK→Prop:=fun x lo hi H Q=>∃a xs,x=.ref a∧SqL K H a xs∧∀p,H p=none→Q (.ref p) (upd H p (.lst (Ma xs lo hi)))
theorem za9:SlR X (rSlL X.K):=by
 intro pins s σ H x v vl vu lo hi sl Q I rx hs pl pu h
 obtain⟨a,xs,rfl,hx,q⟩:=h
 cases rx
 obtain⟨its,r,ht,hz⟩:=I.list hx
 have hlen:=r.length
 refine⟨"list", _,slot_list_getitem.lookup,ht.isList.typeIs,?_⟩
 refine wpAny_getItem_list_slice ht.isList hs pl pu .none (by simp) ?_ (by rw[size_toArray] <;> lia)
 rw[XT,← hlen]
 refine⟨.ref s.heap.objs.size,_,I.laid (t':=s.toks) (o:=.lst (Ma xs lo hi)) (fun b ob q=>get?_push_of_some _ q) (le_refl _) ?_,rfl,q _ (I.hok.fresh (le_refl _))⟩
 exact⟨le_trans (UK xs lo hi) hz,_,0,(r.drop (HT.sIx xs.length 0 lo)).take (HT.sIx xs.length xs.length hi-HT.sIx xs.length 0 lo),Heap.get?_push_size _ rfl⟩
theorem call_len_seq:CallR X (.builtin "len") (fun xs H Q=>∃p ys,xs=[.ref p]∧(SqL X.K H p ys∨SqT X.K H p ys)∧Q (.int ys.length) H):=by
 intro pins s σ H xs us Q I r h
 obtain⟨p,ys,rfl,hq,q⟩:=h
 obtain⟨u,rfl,rx⟩:=vals1 r
 cases rx
 have hn:=jI
 rcases hq with hq|hq
 ·obtain⟨its,r',pl,hz⟩:=I.list hq
  have hlen:=r'.length
  exact Calls.call_len_list pl.isList (by simp only[size_toArray] <;> lia) ⟨.int ys.length,H,I.tok _,⟨s.toks+1,by rw[size_toArray,hlen]⟩,q⟩
 ·obtain⟨its,r',pl,hz⟩:=I.tuple hq
  have hlen:=r'.length
  exact len_tuple pl (by simp only[size_toArray] <;> lia) ⟨.int ys.length,H,I.tok _,⟨s.toks+1,by rw[size_toArray,hlen]⟩,q⟩
theorem Vr:CallR X (.builtin "len") (fun xs H Q=>∃z,xs=[.str z]∧z.length≤sizeLine∧Q (.int z.length) H):=by
 intro pins s σ H xs us Q I r h
 obtain⟨z,rfl,hz,q⟩:=h
 obtain⟨u,rfl,t,rfl⟩:=vals1 r
 have hn:=jI
 exact len_str (by lia) ⟨.int z.length,H,I.tok _,⟨_,rfl⟩,q⟩
theorem CallR.or{f:Value}{r r':List V→Hp→VK→Prop}(h:CallR X f r)(h':CallR X f r'):CallR X f (fun xs H Q=>r xs H Q∨r' xs H Q):=by
 intro pins s σ H xs us Q I rs q
 rcases q with q|q
 ·exact h pins s σ H xs us Q I rs q
 ·exact h' pins s σ H xs us Q I rs q
noncomputable def tyV(K:Frag)(T:String)(x:V)(H:Hp):Prop:=match x with
 |.str _=>T = "str"
 |.int _=>T = "int"
 |.ref p=>(T = "list" ∧ ∃xs,SqL K H p xs)∨(T = "tuple" ∧ ∃o,K.lookup p=some o∧o.cls=.type "tuple" ∧ o.dict=none) ∨
   (T = "dict" ∧ ((∃kvs,H p=some (.dK kvs))∨∃kvs,H p=some (.dT kvs)))∨(T = "set" ∧ ∃S n,H p=some (.set S n))
 |_=>False
theorem Mm{pins:List (Addr×Obj)}{σ:St}{H:Hp}{s:Shared}{T:String}{x:V}{v:Value}(I:Inv X pins σ H s)(r:RelV x v)(ty:tyV X.K T x H) :
  s.TypeIs v T∧∀a,v=.ref a→∃ob,s.heap.get? a=some ob∧ob.dict=none:=by
 cases x with
 |str z=>
  obtain⟨t,rfl⟩:=r
  cases (show T = "str" from ty)
  exact⟨typeIs_str s z t,fun _ e=>nomatch e⟩
 |int i=>
  obtain⟨t,rfl⟩:=r
  cases (show T = "int" from ty)
  exact⟨typeIs_int s i t,fun _ e=>nomatch e⟩
 |ref p=>
  cases r
  rcases ty with ⟨rfl,xs,hq⟩|⟨rfl,o,hk,hc,hd⟩|⟨rfl,hk⟩|⟨rfl,S,n,hk⟩
  ·obtain⟨its,_,pl,_⟩:=I.list hq
   refine⟨pl.isList.typeIs,fun a e=>?_⟩
   cases e
   obtain⟨o,n,e,c,hd,_⟩:=pl
   exact⟨o,e,hd⟩
  ·refine⟨⟨o,I.kIn p o hk,hc⟩,fun a e=>?_⟩
   cases e
   exact⟨o,I.kIn _ o hk,hd⟩
  ·have z:∃o,s.heap.get? p=some o∧o.ExactDict:=by
    rcases hk with ⟨kvs,hk⟩|⟨kvs,hk⟩
    ·obtain⟨_,_,_,_,o,_,_,e,ex,_⟩:=I.hok p _ hk
     exact⟨o,e,ex⟩
    ·obtain⟨_,_,_,_,o,_,_,e,ex,_⟩:=I.hok p _ hk
     exact⟨o,e,ex⟩
   obtain⟨o,e,ex⟩:=z
   refine⟨⟨o,e,ex.1⟩,fun a e2=>?_⟩
   cases e2
   exact⟨o,e,ex.2.1⟩
  ·obtain⟨o,_,_,_,e,ex,_⟩:=I.hok p _ hk
   refine⟨⟨o,e,ex.1⟩,fun a e2=>?_⟩
   cases e2
   exact⟨o,e,ex.2.1⟩
 |_=>exact False.elim ty
noncomputable def tBM0(K:Frag)(T:String)(r:V→List V→Hp→VK→Prop)(to:TE):TE:=fun σ H Q=>to σ H fun x H1=>tyV K T x H1∧r x [] H1 Q
noncomputable def tBM(K:Frag)(T:String)(r:V→List V→Hp→VK→Prop)(to:TE)(t:TA):TE:=fun σ H Q=>to σ H fun x H1=>tyV K T x H1∧t σ H1 fun xs H2=>r x xs H2 Q
variable{o e:Expr}{es:List Expr}{to:TE}{t:TA}{name:Str}{apos cpos:Pos}{T id:String}{r:V→List V→Hp→VK→Prop}
theorem zp9(pa:PlainAttrs T)(slot:Slot T name id)(hty:typeOf (.builtin id)=pure (.type "method_descriptor"))(hm:MtR X id r)(ho:PE X o to)
  (hbase:attributeBase o name X.env (eval o X.env)=eval o X.env:=by rfl) (hline:(apos.endLine==cpos.line)=true:=by rfl):PE X (.Call (.Attribute o name apos) [] [] cpos) (tBM0 X.K T r to):=by
 intro pins s σ H Q I h
 refine wpAny_Call_method0_late hbase hline (thn (ho pins s σ H _ I h) fun v s1 z_=>?_)
 obtain⟨x,H1,I1,r1,ty,q1⟩:=z_
 obtain⟨h1,h2⟩:=Mm I1 r1 ty
 exact⟨T,id,pa,slot,hty,h1,h2,Calls.callWith_builtin rfl (PySem.evalArgs_none (hm pins s1 σ H1 x [] v [] Q I1 r1 .nil q1))⟩
theorem M5(pa:PlainAttrs T)(slot:Slot T name id)(hty:typeOf (.builtin id)=pure (.type "method_descriptor"))(hm:MtR X id r)(ho:PE X o to)(ha:PA X (e::es) t)
  (hbase:attributeBase o name X.env (eval o X.env)=eval o X.env:=by rfl)
  (hfew:((backTo cpos (starEach (e::es) X.env)).all (fun x=>!x.1)&&(backToKw cpos (keywordEach [] X.env)).all (fun x=>x.1.isSome)
   && decide ((e::es).length+([]:List Keyword).length+(if ([]:List Keyword).isEmpty then 0 else 1)<30))=true:=by rfl)
  (hline:(apos.endLine==cpos.line)=true:=by rfl) (hs:starEach (e::es) X.env=(false,eval e X.env)::starEach es X.env:=by rfl) (hplain:(backTo cpos (starEach es X.env)).any (·.1)=false:=by rfl) :
  PE X (.Call (.Attribute o name apos) (e::es) [] cpos) (tBM X.K T r to t):=by
 intro pins s σ H Q I h
 refine wpAny_Call_method_late hbase hfew hline rfl (thn (ho pins s σ H _ I h) fun v s1 z_=>?_)
 obtain⟨x,H1,I1,r1,ty,q1⟩:=z_
 obtain⟨h1,h2⟩:=Mm I1 r1 ty
 refine⟨T,id,pa,slot,hty,h1,h2,?_⟩
 have hA:=ha cpos pins s1 σ H1 _ I1 q1
 rw[hs] at hA ⊢
 refine Calls.callWith_builtin (by show(false||(backTo cpos (starEach es X.env)).any (·.1))=false;rw[hplain] <;> rfl) (Calls.evalArgs_plain ?_)
 exact thn hA fun us s2 z_=>by obtain⟨vs,H2,I2,r2,q2⟩:=z_;exact hm pins s2 σ H2 x vs v us Q I2 r1 r2 q2
end
noncomputable def MtM(X:Cx)(id:String)(r:V→List V→Hp→VK→Prop):Prop:=
 ∀(pins:List (Addr×Obj)) (s:Shared) (σ:St) (H:Hp) (x:V) (xs:List V) (v:Value) (us:List Value) (Q:VK),Inv X pins σ H s→RelV x v→Vals xs us→r x xs H Q →
  wpAny (model X.prog X.w) X.A (call (.builtin id) (v::us)) (EP X pins σ Q) X.xe s
theorem Vals.one{x:V}{us:List Value}(h:Vals [x] us):∃u,us=[u]∧RelV x u:=by
 cases h with
 |cons r h=>cases h;exact⟨_,rfl,r⟩
theorem Vals.reverse{xs:List V}{us:List Value}(h:Vals xs us):Vals xs.reverse us.reverse:=by
 induction h with
 |nil=>exact .nil
 |cons r t ih=>rw[List.reverse_cons,List.reverse_cons];exact Vals.append ih (.cons r .nil)
theorem Vals.rep{xs:List V}{us:List Value}(h:Vals xs us):∀k:Nat,Vals (List.replicate k xs).flatten (List.replicate k us).flatten:=by
 intro l_
 induction l_ with
 |zero=>
  exact .nil
 |succ k ih_=>
  rw[replicate_succ,replicate_succ,flatten_cons,flatten_cons]
  exact Vals.append h (ih_)
theorem foldl_rep(its:List Value):∀(k:Nat) (acc:List Value),
  List.foldl (fun x1 x2=>x1++x2) acc.toArray (List.replicate k its.toArray)=(acc++(List.replicate k its).flatten).toArray:=by
 intro l_
 induction l_ with
 |zero=>
  rintro acc
  simp
 |succ k ih_=>
  rintro acc
  have e:acc.toArray++its.toArray=(acc++its).toArray:=by simp
  have e2:(acc++its)++(List.replicate k its).flatten=acc++(List.replicate (k+1) its).flatten:=by
   rw[replicate_succ,flatten_cons,append_assoc]
  rw[← e2,← ih_ (acc++its),← e,replicate_succ,foldl_cons]
section
variable{X:Cx}{pins:List (Addr×Obj)}{σ:St}{H:Hp}{s:Shared}{l b:Addr}{xs ys zs:List V}
theorem Inv.lset{its its':List Value}{n:Nat}{f:Array Value→Array Value}{t':Nat}(I:Inv X pins σ H s)(hH:H l=some (.lst xs))
  (e:s.heap.get? l=some { cls:=.type "list", data:=.seq its.toArray n }) (hf:f its.toArray=its'.toArray) (hv:Vals ys its') (hz:ys.length≤sizeLine) :
  Inv X pins σ (upd H l (.lst ys)) { s with heap:=s.heap.update l (Obj.mapSeq f),toks:=t' }:=by
 have q:=PySem.IsL.update e f
 rw[hf] at q
 refine I.write (x:=l) (e:=l) (by rw[hH];exact trivial) (.inl rfl) (fun b' u hb hu=>(Heap.get?_update_other s.heap (Obj.mapSeq f) (Ne.symm hb)).trans hu) ⟨_,q⟩ ?_
 exact⟨hz,its',_,hv,q⟩
theorem Inv.lnew{its:List Value}{t':Nat}(I:Inv X pins σ H s)(hv:Vals ys its)(hz:ys.length≤sizeLine) :
  Inv X pins σ (upd H s.heap.objs.size (.lst ys)) { s with heap:=s.heap.push { cls:=.type "list", data:=.seq its.toArray },toks:=t' }:=
 I.laid (fun _ _ q=>get?_push_of_some _ q) (le_refl _) ⟨hz,its,0,hv,Heap.get?_push_size _ rfl⟩
theorem Inv.fresh(I:Inv X pins σ H s):H s.heap.objs.size=none:=I.hok.fresh (le_refl _)
theorem Inv.lstM(I:Inv X pins σ H s)(hH:H l=some (.lst xs)):xs.length≤sizeLine∧∃(its:List Value) (n:Nat),Vals xs its∧xs.length=its.length∧s.heap.get? l=some { cls:=.type "list", data:=.seq its.toArray n }:=by
 obtain⟨z,its,n,r,e⟩:=I.hok l _ hH
 exact⟨z,its,n,r,r.length,e⟩
theorem Tp{n:Nat}(h:n≤sizeLine):Builtin.List.listTooLong n=false:=by
 unfold Builtin.List.listTooLong
 exact decide_eq_false (by lia)
end
section
variable{X:Cx}
noncomputable def Yv:V→List V→Hp→VK→Prop:=fun x vs H Q=>∃l xs y,x=.ref l∧vs=[y]∧H l=some (.lst xs)∧xs.length<sizeLine∧Q .non (upd H l (.lst (xs++[y])))
theorem jk:MtM X "list.append" Yv:=by
 intro pins s σ H x vs v us Q I rx rv h
 obtain⟨l,xs,y,rfl,rfl,hH,hz,q⟩:=h
 cases rx
 obtain⟨u,rfl,ru⟩:=rv.one
 obtain⟨z,its,n,r,hl,e⟩:=I.lstM hH
 refine call_meets F.slot_list_append ⟨_,e,rfl⟩ F.entry_list_append (F.args_list_append_2 _ _) (PySem.list_append l its.toArray n u (by rw[size_toArray];lia)) ⟨e,?_⟩
 refine⟨.non,_,I.lset (its':=its++[u]) hH e (by simp) (r.append (.cons ru .nil)) ?_,rfl,q⟩
 rw[length_append,length_singleton]
 lia
noncomputable def rCat:R2:=fun x y H Q=>∃l b xs zs,x=.ref l∧y=.ref b∧H l=some (.lst xs)∧H b=some (.lst zs)∧xs.length+zs.length≤sizeLine∧∀p,H p=none→Q (.ref p) (upd H p (.lst (xs++zs)))
theorem zq7:OpR X (binaryOp .Add) rCat:=by
 intro pins s σ H x y v u Q I rx ry h
 obtain⟨l,b,xs,zs,rfl,rfl,hH,hB,hz,q⟩:=h
 cases rx
 cases ry
 obtain⟨z,its,n,r,hl,e⟩:=I.lstM hH
 obtain⟨z2,its2,n2,r2,hl2,e2⟩:=I.lstM hB
 refine PySem.P.add_list e e2 ?_ (by rw[size_toArray,size_toArray];lia)
 have ea:its.toArray++its2.toArray=(its++its2).toArray:=by simp
 rw[ea]
 exact⟨.ref _,_,I.lnew (t':=s.toks) (r.append r2) (by rw[length_append];lia),rfl,q _ I.fresh⟩
noncomputable def rRep:R2:=fun x y H Q=>∃l k xs,x=.ref l∧y=.int k∧H l=some (.lst xs)∧-(2 ^ 63)≤k∧k<2 ^ 63∧xs.length*k.toNat≤sizeLine ∧
 ∀p,H p=none→Q (.ref p) (upd H p (.lst (List.replicate k.toNat xs).flatten))
theorem zg2{α:Type}(xs:List α)(k:Nat):(List.replicate k xs).flatten.length=k*xs.length:=by
 induction k with
 |zero=>simp
 |succ k ih=>rw[replicate_succ,flatten_cons,length_append,ih,Nat.succ_mul,Nat.add_comm]
theorem zq4:OpR X (binaryOp .Mult) rRep:=by
 intro pins s σ H x y v u Q I rx ry h
 obtain⟨l,k,xs,rfl,rfl,hH,h1,h2,hz,q⟩:=h
 cases rx
 obtain⟨t,rfl⟩:=ry
 obtain⟨z,its,n,r,hl,e⟩:=I.lstM hH
 have hlen:its.toArray.size*k.toNat≤sizeLine:=by rw[size_toArray,← hl];exact hz
 have hcap:¬ its.toArray.size*k.toNat > (2 ^ 63-1) / 8:=by
  have:(sizeLine:Nat)≤(2 ^ 63-1) / 8:=by decide
  lia
 have hfit:¬ (!Builtin.List.listFitsIndex k)=true:=by
  rw[fitsIndex_both h1 h2]
  exact Bool.false_ne_true
 have hlong:¬ Builtin.List.listTooLong (its.toArray.size*k.toNat)=true:=by
  rw[Tp hlen]
  exact Bool.false_ne_true
 have hnew:List.foldl (fun x1 x2=>x1++x2) #[] (List.replicate (if its.toArray.isEmpty=true then 0 else k.toNat) its.toArray)=(List.replicate k.toNat its).flatten.toArray:=by
  have f0:∀m:Nat,List.foldl (fun x1 x2=>x1++x2) #[] (List.replicate m its.toArray)=(List.replicate m its).flatten.toArray:=fun m=>by
   have:=foldl_rep its m []
   rw[List.nil_append] at this
   exact this
  rw[f0]
  cases its with
  |nil=>simp
  |cons a r'=>rw[if_neg (by simp)]
 refine wpAny_binaryOp_repeat_ref (T := "list") (U := "int") (by decide) ⟨_,e,rfl⟩ (fun s'=>typeIs_int s' k t) noFill_list_mul F.fills_int_mul F.slot_int_rmul repeat_list F.slot_int_index.lookup
  (call_meets F.slot_int_rmul (typeIs_int s k t) F.entry_int_rmul (F.args_int_rmul_2 _ _) (int___rmul___int_list k t l its.toArray n)
   ⟨e,rfl,⟨_,e,rfl⟩,call_meets F.slot_list_mul ⟨_,e,rfl⟩ F.entry_list_mul (F.args_list_mul_2 _ _) (AutoListH.list___mul___list_int_3 l its.toArray n k t hfit hcap hlong) ⟨e,?_⟩⟩)
 rw[hnew]
 exact⟨.ref _,_,I.lnew (t':=s.toks) (r.rep k.toNat) (by rw[zg2,Nat.mul_comm];exact hz),rfl,q _ I.fresh⟩
end
section
variable{prog:Program}{w:World}{A:Around}{E:Value→Shared→Prop}{s:Shared}
end
section
variable{X:Cx}
end
end L2
namespace Att
open PySem PySem.W PySem.Calls PyProof.Rows
theorem Yq{P:Params}{h:Heap}:∀(ns:List Int) (vs:List Value),WellAll P h vs (ns.map WData.int)→IntsAre vs ns:=by
 intro ns
 induction ns with
 |nil=>
  intro vs w
  rw[map_nil] at w
  cases w
  exact .nil
 |cons n ns ih=>
  intro vs w
  rw[map_cons] at w
  cases w with
  |cons a b=>
   cases a
   exact .cons _ _ (ih _ b)
theorem Q7{l:OpenLaw}{n:Nat}(hn:l.most=some n){P:Params}{h:Heap}{args:List WData}{vals:List Value}
  (hpre:l.row.toRowW.claim.pre args=true) (hwl:WellAll P h vals args) :
  ∃a vs ns,vals=[Value.ref a]∧args=[WData.list (ns.map WData.int)]∧h.get? a=some { cls:=.type "list", data:=.seq vs.toArray }∧IntsAre vs ns∧ns.length≤n:=by
 have hsh:WShape.hasAll [] args [.list .int]=true:=(pre_splitW hpre).1
 have hc:l.pre.holds [] { args:=args }=true:=(pre_splitW hpre).2
 obtain⟨d,r,rfl,h1,h2⟩:=hasAllW_cons hsh
 obtain rfl:=hasAllW_nil h2
 obtain⟨xs,rfl,h3⟩:=hasW_list h1
 obtain⟨ns,rfl⟩:=items_int h3
 have hlen:ns.length≤n:=by
  unfold OpenLaw.pre at hc
  have h4:(WTm.not (.lt (.lit (.int (n:Int))) (.len (.arg 0)))).holds [] { args:=[.list (ns.map .int)] }=true:=by
   have h4:=(holds_andW hc).1
   rw[hn] at h4
   exact h4
  have h5:=condW_of h4 (w_not (w_lt w_lit (w_len_list (w_arg rfl))))
  rw[length_map] at h5
  refine Nat.le_of_not_lt fun q=>?_
  have q':(n:Int)<((ns.length:Nat):Int):=by lia
  first
   | (rw[decide_eq_true q'] at h5;exact absurd h5 (by decide))
   | (simp at h5;lia)
 cases hwl with
 |cons w1 w2=>
  cases w2
  cases w1 with
  |list ho hall=>exact⟨_,_,ns,rfl,rfl,ho,Yq ns _ hall,hlen⟩
theorem Gb(l:OpenLaw)(args:List WData):l.row.toRowW.claim.post args (.bool true) args=true:=
 postW_of (r:=l.row.toRowW) (X:=(true==true))
  (show WShape.has [] (.bool true) .bool=true by first|rfl|decide|simp[WShape.has,WShape.arms,WShape.armsAll])
  (show(WTm.eq .res (.lit (.bool true))).value [] { args:=args,res:=some (.bool true),after:=args }=some (.bool (true==true)) from w_eq_bool (w_res rfl) w_lit) rfl
theorem attach_call{l:OpenLaw}{n:Nat}{q:Program}{loose:List Str}{XP:(Str→Option Value)→Heap→Prop}{YP:World→Heap→Prop}{d:DefRec}
  (hn:l.most=some n) (hdf:d.params.defaults=[])
  (call:∀(w:World) (s₀ s₁:Shared) (mg mb:Str→Option Value) (fa:Addr) (o:Obj) (pm cd doc:Value) (a:Addr) (vs:List Value) (ns:List Int),
   Ground q loose [] XP w s₀ mg mb s₁.heap→YP w s₁.heap →
   s₁.heap.get? fa=some o→o.data=.func (docDef d.name d.params d.body d.scope pm cd doc)→s₁.heap.CodeRec cd d.name→mg d.name=some (.ref fa) →
   s₁.heap.get? a=some { cls:=.type "list", data:=.seq vs.toArray }→IntsAre vs ns→ns.length≤n→s₁.gens = #[] →
   codeAny (model l.prog w) callerA (.call (.ref fa) ⟨[.ref a],[]⟩) (fun r s'=>r=.ok (.ret (.bool true))∧OldK s₁.heap s'.heap∧s'.os=s₁.os∧AllBare s'.gens) s₁) :
  WalkO q loose XP YP l.row.toRowW d [] (fun f vs=>PySem.call f vs):=by
 intro w s₀ s₁ mg mb G Y fa o pm cd doc dV kV ho hd hcd hD hmg hg args vals as hpre hlay hrd hwl hlo
 obtain rfl:dV=.none:=Dflts.none hD hdf
 obtain rfl:kV=.none:=Dflts.noKw hD
 obtain⟨a,vs,ns,rfl,rfl,hobj,hints,hlen⟩:=Q7 hn hpre hwl
 refine enter_call (codeAny_mono (call w s₀ s₁ mg mb fa o pm cd doc a vs ns G Y ho (fd_plain hd) hcd hmg hobj hints hlen hg) fun r s' hq=>?_)
 obtain⟨rfl,h2,h3,h4⟩:=hq
 exact⟨.inl ⟨.bool true,.bool true,[],rfl,fun _=>rfl,.bool true,Gb l _,fun _=>⟨List.Pairwise.nil,fun _ hm=>(nomatch hm)⟩⟩,h2,h3,h4⟩
section
variable{prog:Program}{w:World}{A:Around}{E:Value→Shared→Prop}{s:Shared}{K:Frag}
end
end Att
namespace L2
open PySem PySem.Spec PyProof.Rows
theorem vals_ints:∀{vs:List Value} {ns:List Int},IntsAre vs ns→Vals (ns.map V.int) vs
 |_,_,.nil=>.nil
 |_,_,.cons n t h=>.cons ⟨t,rfl⟩ (vals_ints h)
noncomputable def Only(H:Hp):Prop:=∀b,H b=none∨∃o xs,H b=some (.frz o (.lst xs))
noncomputable def zL(s:Stmt):Arguments:=match s with
 |.FunctionDef _ a _ _ _ _ _ _ _ _=>a
 |_=>{ posonlyargs:=[],args:=[],vararg:=none,kwonlyargs:=[],kw_defaults:=[],kwarg:=none,defaults:=[] }
noncomputable def zC(s:Stmt):List Stmt:=match s with
 |.FunctionDef _ _ b _ _ _ _ _ _ _=>b
 |_=>[]
noncomputable def zk(s:Stmt):Scope:=match s with
 |.FunctionDef _ _ _ _ _ _ sc _ _ _=>sc
 |_=>{ kind:=.function,names:=[],isGenerator:=false,isCoroutine:=false }
noncomputable abbrev CX0:CXT:=fun _ _ _ _ _ _=>False
noncomputable abbrev E0:XK:=fun _ _ _=>False
theorem pass0{X:Cx}:JM CX0 X E0:=fun _ _ _ _ _ _ _ h=>h.elim
structure Fun(K:Frag)(x qual:Str)(st:Stmt)(f:Addr)(fd:FuncData):Prop where
 ex:∃(oc:Value) (od:Option Addr) (kV doc pm:Value) (an:Option Addr) (cdv ct:Value) (osl:Array (Option Value)),
  fd=fnOf x qual (zL st) (zC st) (zk st) .none kV doc pm an cdv ct∧K.lookup f=some ⟨oc,od,.func fd,osl⟩∧codeIn K cdv qual=true
 kp:keepIn K (.ref f)=true
section
variable{P:Program}{w:World}{K:Frag}{mg:Str→Option Value}{base:Heap}
theorem Fun.ok{x qual:Str}{st:Stmt}{f:Addr}{fd:FuncData}{N ps:List Str}{k:Nat}{sp:Sp}(F:Fun K x qual st f fd)(S:zO N ps (zk st))(len:∀vs H Q E,sp vs H Q E→vs.length=ps.length)
  (hbody:∀(cdv:Value) (A:Around) (outer:List Env) (s:Shared) (H:Hp) (vs:List V) (Q:VK) (E:XK),Room k (A.deeper (envOfC qual (zk st) s.heap.objs.size f cdv))→sp vs H Q E →
   ∃t,PSs (Ys CX0 P w K mg base N qual (zk st) f cdv A outer s H E).nox (zC st) t∧t { nx:=fun _ H'=>Q .non H',rt:=Q } (start N vs) H):FnOk P w K mg base CX0 (k+1) f fd ps sp:=by
 obtain⟨oc,od,kV,doc,pm,an,cdv,ct,osl,rfl,lk,hcd⟩:=F.ex
 refine Lr lk hcd S len fun A outer s H vs Q E hr hsp=>?_
 obtain⟨t,h,q⟩:=hbody cdv A outer s H vs Q E hr hsp
 exact⟨t,h.nox,q⟩
theorem Fun.binds{x qual:Str}{st:Stmt}{f:Addr}{fd:FuncData}{ps:List Str}(F:Fun K x qual st f fd)
  (h:∀(kV doc pm:Value) (an:Option Addr) (cdv ct:Value) (us:List Value),us.length=ps.length→bindArgs (fnOf x qual (zL st) (zC st) (zk st) .none kV doc pm an cdv ct) ⟨us,[]⟩=pure (ps.zip us)):Binds K fd ps []:=by
 obtain⟨oc,od,kV,doc,pm,an,cdv,ct,osl,rfl,lk,hcd⟩:=F.ex
 exact .all (h kV doc pm an cdv ct)
theorem yn{x qual:Str}{st:Stmt}{f:Addr}{oc:Value}{od an:Option Addr}{osl:Array (Option Value)}{kV doc pm cdv ct:Value}(l:K.lookup f=some ⟨oc,od,.func (fnOf x qual (zL st) (zC st) (zk st) .none kV doc pm an cdv ct),osl⟩)
  (c:codeIn K cdv qual=true) (k:keepIn K (.ref f)=true):Fun K x qual st f (fnOf x qual (zL st) (zC st) (zk st) .none kV doc pm an cdv ct):=⟨⟨oc,od,kV,doc,pm,an,cdv,ct,osl,rfl,l,c⟩,k⟩
end
theorem zm2{A:Around}{k:Nat}(hr:Room k A):A.units+1<cLine:=Nat.lt_of_le_of_lt (Nat.add_le_add_left (by decide:1≤64) _) hr.units
theorem yS{n:Nat}(h:n≤1000):n<sizeLine:=Nat.lt_of_le_of_lt h (by decide)
section
variable{X:Cx}
theorem pv(i:Nat){x:Str}{pos:Pos}(hN:X.N[i]?=some x:=by rfl)(hv:Vis X.env.scope x:=by first|exact Or.inl rfl|exact Or.inr (Or.inl rfl) | exact Or.inr (Or.inr rfl))(hd:(x==("__debug__" : Str))=false:=by decide)
  (hcd:(x==("__classdict__" : Str))=false:=by decide):PE X (.Name x pos) (uc i):=zp4 hN hv hd hcd
end
noncomputable def Same(H H':Hp):Prop:=∀b o,H b=some o→H' b=some o
theorem Same.refl(H:Hp):Same H H:=fun _ _ h=>h
theorem Same.trans{H H1 H2:Hp}(a:Same H H1)(b:Same H1 H2):Same H H2:=fun c o h=>b c o (a c o h)
theorem Same.seq{K:Frag}{H H':Hp}{a:Addr}{xs:List V}(e:Same H H')(h:SqL K H a xs):SqL K H' a xs:=by
 rcases h with (h|⟨o,h⟩) | h
 ·exact .inl (.inl (e _ _ h))
 ·exact .inl (.inr ⟨o,e _ _ h⟩)
 ·exact .inr h
end L2
namespace FD
open PySem PySem.Spec PyProof.Rows L2
noncomputable abbrev St:=L2.St
inductive D where
 | non|bl (b:Bool) | int (i:Int) | str (x:Str) | lst (xs:List D) | tup (xs:List D) | scr (ns:List Int) | raw (v:V) | exc (c:Str)
inductive Rs (α:Type) where
 | ok (a:α) | ex (c:Str) | no
noncomputable def Rs.bind{α β:Type}(r:Rs α)(k:α→Rs β):Rs β:=match r with
 |.ok a=>k a
 |.ex c=>.ex c
 |.no=>.no
@[simp] theorem Rs.bind_ok{α β:Type}(a:α)(k:α→Rs β):(Rs.ok a).bind k=k a:=rfl
noncomputable def UC(K:Frag)(a:Addr)(c:Str):Heap→Prop:=fun h=>∃oe cls vs,h.get? a=some oe∧oe.cls=cls∧oe.dict=none∧oe.data=.fields vs∧nsIn K mainGlobals c=some (some cls)
section
variable(K:Frag)
mutual
noncomputable def Rep(F:Hp):D→V→Prop
 |.non,v=>v=.non
 |.bl b,v=>v=.bl b
 |.int i,v=>v=.int i
 |.str x,v=>v=.str x
 |.lst ds,v=>∃a vs,v=.ref a∧F a=some (.lst vs)∧Reps F ds vs
 |.scr ns,v=>∃a,v=.ref a∧SqL K F a (ns.map V.int)
 |.tup ds,v=>∃a vs,v=.ref a∧SqT K F a vs∧Reps F ds vs
 |.raw u,v=>v=u
 |.exc c,v=>∃a,v=.ref a∧F a=some (.ext (UC K a c))
noncomputable def Reps(F:Hp):List D→List V→Prop
 |[],vs=>vs=[]
 |d::ds,vs=>∃v r,vs=v::r∧Rep F d v∧Reps F ds r
end
end
theorem Same.refl(H:Hp):Same H H:=fun _ _ h=>h
theorem Same.seqT{K:Frag}{H H':Hp}{a:Addr}{xs:List V}(e:Same H H')(h:SqT K H a xs):SqT K H' a xs:=by
 rcases h with (h|⟨o,h⟩) | h
 ·exact .inl (.inl (e _ _ h))
 ·exact .inl (.inr ⟨o,e _ _ h⟩)
 ·exact .inr h
section
variable{K:Frag}{F F':Hp}
mutual
theorem Rep.mono(h:Same F F'):∀{d:D} {v:V},Rep K F d v→Rep K F' d v
 |.non,_,r=>by simpa only[Rep] using r
 |.bl _,_,r=>by simpa only[Rep] using r
 |.int _,_,r=>by simpa only[Rep] using r
 |.str _,_,r=>by simpa only[Rep] using r
 |.raw _,_,r=>by simpa only[Rep] using r
 |.exc c,v,r=>by
  simp only[Rep] at r ⊢
  obtain⟨a,e,q⟩:=r
  exact⟨a,e,h _ _ q⟩
 |.lst ds,v,r=>by
  simp only[Rep] at r ⊢
  obtain⟨a,vs,e,q,t⟩:=r
  exact⟨a,vs,e,h _ _ q,Reps.mono h t⟩
 |.scr ns,v,r=>by
  simp only[Rep] at r ⊢
  obtain⟨a,e,q⟩:=r
  exact⟨a,e,h.seq q⟩
 |.tup ds,v,r=>by
  simp only[Rep] at r ⊢
  obtain⟨a,vs,e,q,t⟩:=r
  exact⟨a,vs,e,Same.seqT h q,Reps.mono h t⟩
theorem Reps.mono(h:Same F F'):∀{ds:List D} {vs:List V},Reps K F ds vs→Reps K F' ds vs
 |[],_,r=>by simpa only[Reps] using r
 |d::ds,vs,r=>by
  simp only[Reps] at r ⊢
  obtain⟨v,r',e,q,t⟩:=r
  exact⟨v,r',e,Rep.mono h q,Reps.mono h t⟩
end
theorem Reps.length:∀{ds:List D} {vs:List V},Reps K F ds vs→ds.length=vs.length
 |[],_,r=>by simp only[Reps] at r;subst r;rfl
 |d::ds,_,r=>by
  simp only[Reps] at r
  obtain⟨v,r',rfl,_,t⟩:=r
  simp[Reps.length t]
theorem Reps.get:∀{ds:List D} {vs:List V} {i:Nat} {d:D},Reps K F ds vs→ds[i]?=some d→∃v,vs[i]?=some v∧Rep K F d v
 |[],_,_,_,_,e=>by simp at e
 |d::ds,_,0,_,r,e=>by
  simp only[Reps] at r
  obtain⟨v,r',rfl,q,t⟩:=r
  simp at e;subst e
  exact⟨v,rfl,q⟩
 |d::ds,_,i+1,_,r,e=>by
  simp only[Reps] at r
  obtain⟨v,r',rfl,q,t⟩:=r
  obtain⟨w,h1,h2⟩:=Reps.get (i:=i) t (by simpa using e)
  exact⟨w,by simpa using h1,h2⟩
theorem Reps.nil:Reps K F [] []:=by simp only[Reps]
theorem Reps.cons{d:D}{v:V}{ds:List D}{vs:List V}(h:Rep K F d v)(t:Reps K F ds vs):Reps K F (d::ds) (v::vs):=by
 simp only[Reps];exact⟨v,vs,rfl,h,t⟩
theorem Reps.append:∀{ds es:List D} {vs ws:List V},Reps K F ds vs→Reps K F es ws→Reps K F (ds++es) (vs++ws)
 |[],_,_,_,r,t=>by simp only[Reps] at r;subst r;exact t
 |d::ds,es,_,ws,r,t=>by
  simp only[Reps] at r
  obtain⟨v,r',rfl,q,u⟩:=r
  exact Reps.cons q (Reps.append u t)
theorem Reps.take:∀{ds:List D} {vs:List V} (n:Nat),Reps K F ds vs→Reps K F (ds.take n) (vs.take n)
 |_,_,0,_=>by simp only[List.take_zero];exact Reps.nil
 |[],_,n+1,r=>by simp only[Reps] at r;subst r;simp only[List.take_nil];exact Reps.nil
 |d::ds,_,n+1,r=>by
  simp only[Reps] at r
  obtain⟨v,r',rfl,q,u⟩:=r
  exact Reps.cons q (Reps.take n u)
theorem Reps.drop:∀{ds:List D} {vs:List V} (n:Nat),Reps K F ds vs→Reps K F (ds.drop n) (vs.drop n)
 |_,_,0,r=>r
 |[],_,n+1,r=>by simp only[Reps] at r;subst r;simp only[List.drop_nil];exact Reps.nil
 |d::ds,_,n+1,r=>by
  simp only[Reps] at r
  obtain⟨v,r',rfl,q,u⟩:=r
  exact Reps.drop n u
theorem Reps.reverse:∀{ds:List D} {vs:List V},Reps K F ds vs→Reps K F ds.reverse vs.reverse
 |[],_,r=>by simp only[Reps] at r;subst r;exact Reps.nil
 |d::ds,_,r=>by
  simp only[Reps] at r
  obtain⟨v,r',rfl,q,u⟩:=r
  rw[List.reverse_cons,List.reverse_cons]
  exact Reps.append (Reps.reverse u) (Reps.cons q Reps.nil)
theorem Reps.set{d:D}{v:V}(h:Rep K F d v):∀{ds:List D} {vs:List V} (i:Nat),Reps K F ds vs→Reps K F (ds.set i d) (vs.set i v)
 |[],_,_,r=>by simp only[Reps] at r;subst r;exact Reps.nil
 |e::ds,_,0,r=>by
  simp only[Reps] at r
  obtain⟨w,r',rfl,q,u⟩:=r
  exact Reps.cons h u
 |e::ds,_,i+1,r=>by
  simp only[Reps] at r
  obtain⟨w,r',rfl,q,u⟩:=r
  exact Reps.cons q (Reps.set h i u)
theorem Reps.one{d:D}{vs:List V}(h:Reps K F [d] vs):∃v,vs=[v]∧Rep K F d v:=by
 simp only[Reps] at h
 obtain⟨v,r,e,q,e2⟩:=h
 subst e2;exact⟨v,e,q⟩
theorem Reps.two{d e:D}{vs:List V}(h:Reps K F [d,e] vs):∃v w,vs=[v,w]∧Rep K F d v∧Rep K F e w:=by
 simp only[Reps] at h
 obtain⟨v,r,e1,q,w,r2,e2,q2,e3⟩:=h
 subst e3;subst e2;exact⟨v,w,e1,q,q2⟩
theorem Reps.rep{ds:List D}{vs:List V}(h:Reps K F ds vs):∀k:Nat,Reps K F (List.replicate k ds).flatten (List.replicate k vs).flatten:=by
 intro l_
 induction l_ with
 |zero=>
  exact Reps.nil
 |succ k ih_=>
  rw[replicate_succ,replicate_succ,flatten_cons,flatten_cons]
  exact Reps.append h (ih_)
theorem Reps.ints:∀(ns:List Int),Reps K F (ns.map D.int) (ns.map V.int):=by
 intro l_
 induction l_ with
 |nil=>
  exact Reps.nil
 |cons n r ih_=>
  exact Reps.cons (by simp only[Rep]) (ih_)
end
class Tabs where
 rows:List (Addr×Nat×Nat×Str)
 own:Str→Str→Bool
noncomputable def XO(c:Addr)(q:Str):Heap→Prop:=fun h=>h.CodeRec (.ref c) q
noncomputable def TOk(F H:Hp)(r:Addr×Nat×Nat×Str):Prop:=F r.1=none∧(H r.1=some (.tbl #[])∨∃c,H r.1=some (.tbl #[rawInt r.2.1,rawInt r.2.2.1,.ref c])∧H c=some (.ext (XO c r.2.2.2)))
variable[Tabs]
noncomputable def OwnOk(H:Hp):Prop:=∀d a,H d=some (.own a)→∃C dx vs,H a=some (.ins C dx vs)
noncomputable def TbT(F H:Hp):Prop:=(∀r∈Tabs.rows,TOk F H r)∧OwnOk H
omit [Tabs] in
theorem TOk.step{F H F' H':Hp}{r:Addr×Nat×Nat×Str}(t:TOk F H r)(nw:∀a o,F' a=some o→F a=some o∨H a=none)(k:∀a o,H a=some o→(∀vs,o≠.lst vs)→H' a=some o):TOk F' H' r:=by
 have hn:∀ps,H r.1=some (.tbl ps)→F' r.1=none:=fun ps e=>by
  cases q:F' r.1 with
  |none=>rfl
  |some o=>
   rcases nw _ _ q with z|z
   ·rw[t.1] at z;cases z
   ·rw[e] at z;cases z
 rcases t.2 with e|⟨c,e,e2⟩
 ·exact⟨hn _ e,.inl (k _ _ e fun _ z=>nomatch z)⟩
 ·exact⟨hn _ e,.inr ⟨c,k _ _ e (fun _ z=>nomatch z),k _ _ e2 fun _ z=>nomatch z⟩⟩
theorem TbT.step{F H F' H':Hp}(t:TbT F H)(nw:∀a o,F' a=some o→F a=some o∨H a=none)(k:∀a o,H a=some o→(∀vs,o≠.lst vs)→H' a=some o)(no:∀d a,H' d=some (.own a)→H d=some (.own a)):TbT F' H':=⟨fun r hr=>(t.1 r hr).step nw k,fun d a e=>by
 obtain⟨C,dx,vs,h⟩:=t.2 d a (no d a e)
 exact⟨C,dx,vs,k _ _ h fun _ z=>nomatch z⟩⟩
theorem TbT.freeze{F H:Hp}{a:Addr}{vs:List V}{o:HO}(t:TbT F H)(e:H a=some (.lst vs)):TbT (upd F a o) H:=⟨fun r hr=>by
 obtain⟨t1,t2⟩:=t.1 r hr
 have:r.1≠a:=fun z=>by
  rw[z,e] at t2
  rcases t2 with q|⟨c,q,_⟩ <;> cases q
 exact⟨by rw[zo this];exact t1,t2⟩,t.2⟩
noncomputable def Kp:HO→Option HO→Prop
 |.tbl _,r=>∃ps,r=some (.tbl ps)
 |o,r=>r=some o
noncomputable def Hh(H H':Hp):Prop:=∀b o,H b=some o→Kp o (H' b)
omit [Tabs] in
theorem Kp.of{o:HO}{r:Option HO}(h:r=some o):Kp o r:=by cases o <;> first|exact h|exact⟨_,h⟩
omit [Tabs] in
theorem Kp.some{o:HO}{r:Option HO}(h:Kp o r):r≠none:=by
 cases o <;> first | (obtain⟨_,h⟩:=h;rw[h];simp) | (have h:r=_:=h;rw[h];simp)
omit [Tabs] in
theorem Hh.of{H H':Hp}(h:Same H H'):Hh H H':=fun b o e=>.of (h b o e)
omit [Tabs] in
theorem Hh.refl(H:Hp):Hh H H:=.of (Same.refl H)
omit [Tabs] in
theorem Hh.trans{H H1 H2:Hp}(a:Hh H H1)(b:Hh H1 H2):Hh H H2:=fun c o e=>by
 have k:=a c o e
 cases o <;> first|exact b c _ k | (obtain⟨ps,q⟩:=k;show ∃ps,H2 c=some (.tbl ps);exact b c _ q)
omit [Tabs] in
theorem vz{F H:Hp}(h:Hh F H){a:Addr}(e:H a=none):F a=none:=by
 cases q:F a with
 |none=>rfl
 |some o=>exact absurd e (h a o q).some
structure Ext(F H F' H':Hp):Prop where
 ff:Same F F'
 hh:Hh H H'
 fh:Same F' H'
 nw:∀a o,F' a=some o→F a=some o∨H a=none
 tt:TbT F H→TbT F' H'
theorem Ext.refl{F H:Hp}(h:Same F H):Ext F H F H:=⟨Same.refl F,Hh.refl H,h,fun _ _ e=>.inl e,id⟩
theorem Ext.trans{F H F1 H1 F2 H2:Hp}(a:Ext F H F1 H1)(b:Ext F1 H1 F2 H2):Ext F H F2 H2:=
 ⟨a.ff.trans b.ff,a.hh.trans b.hh,b.fh,fun c o e=>by
  rcases b.nw c o e with q|q
  ·exact a.nw c o q
  ·exact .inr (vz a.hh q),fun t=>b.tt (a.tt t)⟩
omit [Tabs] in
theorem zY{F H:Hp}(h:Same F H){a:Addr}(e:H a=none):F a=none:=by
 cases q:F a with
 |none=>rfl
 |some o=>rw[h a o q] at e;cases e
omit [Tabs] in
theorem yi{H:Hp}{p:Addr}{o:HO}(h:H p=none):Same H (upd H p o):=fun b u q=>by rw[zo (zP q h)];exact q
omit [Tabs] in
theorem Q8{F H:Hp}{p:Addr}{o:HO}(h:Same F H)(hp:H p=none):Same (upd F p o) (upd H p o):=fun b u q=>by
 by_cases hb:b=p
 ·subst hb;rw[zv] at q ⊢;exact q
 ·rw[zo hb] at q ⊢;exact h b u q
theorem Ext.same{F H F' H':Hp}(ff:Same F F')(hh:Same H H')(fh:Same F' H')(nw:∀a o,F' a=some o→F a=some o∨H a=none)(no:∀d a,H' d=some (.own a)→H d=some (.own a)):Ext F H F' H':=⟨ff,.of hh,fh,nw,fun t=>t.step nw (fun a o e _=>hh a o e) no⟩
omit [Tabs] in
theorem ZI{H:Hp}{p:Addr}{o:HO}(ho:∀a,o≠.own a):∀d a,upd H p o d=some (.own a)→H d=some (.own a):=fun d a e=>by
 by_cases h:d=p
 ·subst h;rw[zv] at e;cases e;exact absurd rfl (ho a)
 ·rw[zo h] at e;exact e
theorem Ext.new{F H:Hp}{p:Addr}{o:HO}(h:Same F H)(hp:H p=none)(ho:∀a,o≠.own a:=by intro _ h;cases h):Ext F H (upd F p o) (upd H p o):=
 .same (yi (zY h hp)) (yi hp) (Q8 h hp) (fun a u e=>by
  by_cases hb:a=p
  ·subst hb;exact .inr hp
  ·rw[zo hb] at e;exact .inl e) (ZI ho)
theorem Ext.open{F H:Hp}{p:Addr}{o:HO}(h:Same F H)(hp:H p=none)(ho:∀a,o≠.own a:=by intro _ h;cases h):Ext F H F (upd H p o):=
 .same (Same.refl F) (yi hp) (h.trans (yi hp)) (fun a u e=>.inl e) (ZI ho)
inductive Sl where
 | val (d:D)
 | own (ds:List D)
 | obj (n:Nat) (c:Str) (fs:List (Str×D))
 | obr (c:Str) (fs:List (Str×D))
noncomputable abbrev DS:=List (Option Sl)
noncomputable def OwnF(K:Frag)(F H:Hp)(d:D)(v:V):Prop:=∃ds l ws,d=.lst ds∧v=.ref l∧H l=some (.lst ws)∧F l=none∧Reps K F ds ws
noncomputable def zw1(K:Frag)(F H:Hp)(c f:Str)(d:D)(v:V):Prop:=if Tabs.own c f=true then OwnF K F H d v else Rep K F d v
noncomputable def Flds(K:Frag)(F H:Hp)(c:Str):List (Str×D)→List (Str×V)→Prop
 |[],[]=>True
 | (f,d)::r,(g,v)::s=>f=g∧zw1 K F H c f d v∧Flds K F H c r s
 |_,_=>False
noncomputable def Yk(c:Str):List (Str×V)→List Addr
 |[]=>[]
 | (f,v)::r=>if Tabs.own c f=true then (match v with
  |.ref l=>l::Yk c r
  |_=>Yk c r) else Yk c r
noncomputable def Lof(H:Hp)(c:Str)(a:Addr):List Addr:=match H a with
 | some (.ins _ _ vs)=>Yk c vs
 |_=>[]
theorem Lof.ins{H:Hp}{c:Str}{a C dx:Addr}{vs:List (Str×V)}(h:H a=some (.ins C dx vs)):Lof H c a=Yk c vs:=by unfold Lof;rw[h]
theorem Flds.own{K:Frag}{F H:Hp}{c:Str}{l:Addr}:∀{fs:List (Str×D)} {vs:List (Str×V)},Flds K F H c fs vs→l∈Yk c vs→F l=none∧∃ws,H l=some (.lst ws)
 |[],[],_,h=>by cases h
 | (f,d)::r,(g,v)::s,q,h=>by
  obtain⟨rfl,q2,q3⟩:=q
  unfold Yk at h
  unfold zw1 at q2
  by_cases z:Tabs.own c f=true
  ·rw[if_pos z] at h q2
   obtain⟨ds,l',ws,e1,rfl,e3,e4,e5⟩:=q2
   rcases mem_cons.mp h with rfl|h
   ·exact⟨e4,ws,e3⟩
   ·exact Flds.own q3 h
  ·rw[if_neg z] at h
   exact Flds.own q3 h
 |[],_::_,q,_=>q.elim
 |_::_,[],q,_=>q.elim
theorem Flds.keep{K:Frag}{F H F' H':Hp}{c:Str}(hf:Same F F'):∀{fs:List (Str×D)} {vs:List (Str×V)},Flds K F H c fs vs→(∀l ws,l∈Yk c vs→H l=some (.lst ws)→F l=none→H' l=some (.lst ws)∧F' l=none)→Flds K F' H' c fs vs
 |[],[],_,_=>trivial
 | (f,d)::r,(g,v)::s,q,k=>by
  obtain⟨rfl,q2,q3⟩:=q
  refine⟨rfl,?_,Flds.keep hf q3 fun l ws hl=>k l ws ?_⟩
  ·unfold zw1 at q2 ⊢
   by_cases z:Tabs.own c f=true
   ·rw[if_pos z] at q2 ⊢
    obtain⟨ds,l,ws,e1,rfl,e3,e4,e5⟩:=q2
    obtain⟨k1,k2⟩:=k l ws (by unfold Yk;rw[if_pos z];exact mem_cons_self) e3 e4
    exact⟨ds,l,ws,e1,rfl,k1,k2,e5.mono hf⟩
   ·rw[if_neg z] at q2 ⊢;exact q2.mono hf
  ·unfold Yk
   by_cases z:Tabs.own c f=true
   ·rw[if_pos z]
    cases v with
    |ref l'=>exact mem_cons_of_mem _ hl
    |_=>exact hl
   ·rw[if_neg z];exact hl
 |[],_::_,q,_=>q.elim
 |_::_,[],q,_=>q.elim
noncomputable def ObAt(K:Frag)(F H:Hp)(c:Str)(fs:List (Str×D))(a:Addr):Prop:=∃C dx vs,H a=some (.ins C dx vs)∧F a=none∧nsIn K mainGlobals c=some (some (.ref C))∧Flds K F H c fs vs∧H dx=some (.own a)∧(Yk c vs).Nodup
noncomputable def ObS(s:Option (Option Sl))(c:Str):Prop:=(∃n fs,s=some (some (.obj n c fs)))∨∃fs,s=some (some (.obr c fs))
structure ObsOk(K:Frag)(F:Hp)(τ:DS)(σ:St)(H:Hp):Prop where
 at_:∀(i n:Nat) (c:Str) (fs:List (Str×D)),τ[i]?=some (some (.obj n c fs))→∃a,σ[i]?=some (some (.ref a))∧ObAt K F H c fs a
 dis:∀(i j n:Nat) (c c':Str) (fs:List (Str×D)) (a:Addr),i≠j→τ[i]?=some (some (.obj n c fs))→ObS τ[j]? c'→σ[i]?=some (some (.ref a))→σ[j]?=some (some (.ref a))→False
 rd:∀(i:Nat) (c:Str) (fs:List (Str×D)),τ[i]?=some (some (.obr c fs))→∃a C dx vs,σ[i]?=some (some (.ref a))∧H a=some (.ins C dx vs)∧nsIn K mainGlobals c=some (some (.ref C))∧Flds K F H c fs vs
 ll:∀(i j n:Nat) (c c':Str) (fs:List (Str×D)) (a a' l:Addr),i≠j→τ[i]?=some (some (.obj n c fs))→ObS τ[j]? c'→σ[i]?=some (some (.ref a))→σ[j]?=some (some (.ref a'))→l∈Lof H c a→l∈Lof H c' a'→False
 lo:∀(i j:Nat) (c:Str) (ds:List D) (a l:Addr),ObS τ[i]? c→τ[j]?=some (some (.own ds))→σ[i]?=some (some (.ref a))→σ[j]?=some (some (.ref l))→l∈Lof H c a→False
noncomputable def T8:Option Sl→Bool
 | some (.obj _ _ _)=>true
 | some (.obr _ _)=>true
 |_=>false
noncomputable def noObj(τ:DS):Prop:=∀(i:Nat) s,τ[i]?=some s→T8 s=false
omit [Tabs] in
theorem noObj.obs{τ:DS}(n:noObj τ){i:Nat}{c:Str}(h:ObS τ[i]? c):False:=by
 rcases h with ⟨m,fs,h⟩|⟨fs,h⟩
 ·have:=n i _ h;cases this
 ·have:=n i _ h;cases this
theorem ObsOk.none{K:Frag}{F H:Hp}{τ:DS}{σ:St}(n:noObj τ):ObsOk K F τ σ H:=
 ⟨fun i m c fs h=>(by have:=n i _ h;cases this),fun i j m c c' fs a _ h=>(by have:=n i _ h;cases this),fun i c fs h=>(by have:=n i _ h;cases this),fun i j m c c' fs a a' l _ h=>(by have:=n i _ h;cases this),fun i j c ds a l h=>(n.obs h).elim⟩
theorem ObsOk.get{K:Frag}{F H:Hp}{τ:DS}{σ:St}{i:Nat}{c:Str}(o:ObsOk K F τ σ H)(h:ObS τ[i]? c):∃a C dx vs fs,σ[i]?=some (some (.ref a))∧H a=some (.ins C dx vs)∧Flds K F H c fs vs:=by
 rcases h with ⟨m,fs,h⟩|⟨fs,h⟩
 ·obtain⟨a,h1,C,dx,vs,h2,_,_,h5,_⟩:=o.at_ i m c fs h
  exact⟨a,C,dx,vs,fs,h1,h2,h5⟩
 ·obtain⟨a,C,dx,vs,h1,h2,_,h5⟩:=o.rd i c fs h
  exact⟨a,C,dx,vs,fs,h1,h2,h5⟩
theorem ObsOk.keep{K:Frag}{F H F' H':Hp}{τ:DS}{σ:St}(o:ObsOk K F τ σ H)(hf:Same F F')(hi:∀a C dx vs,H a=some (.ins C dx vs)→H' a=some (.ins C dx vs))(hn:∀a C dx vs,H a=some (.ins C dx vs)→F a=Option.none→F' a=Option.none)(hd:∀d a,H d=some (.own a)→H' d=some (.own a))
  (hl:∀(i:Nat) (c:Str) (a l:Addr) (ws:List V),ObS τ[i]? c→σ[i]?=some (some (.ref a))→l∈Lof H c a→H l=some (.lst ws)→F l=Option.none→H' l=some (.lst ws)∧F' l=Option.none):ObsOk K F' τ σ H':=by
 have lof:∀{i:Nat} {c:Str} {a:Addr},ObS τ[i]? c→σ[i]?=some (some (.ref a))→Lof H' c a=Lof H c a:=fun {i c a} h e=>by
  obtain⟨a',C,dx,vs,fs,h1,h2,_⟩:=o.get h
  rw[e] at h1;cases h1
  rw[Lof.ins h2,Lof.ins (hi _ _ _ _ h2)]
 refine⟨fun i m c fs h=>?_,o.dis,fun i c fs h=>?_,fun i j m c c' fs a a' l hij h1 h2 h3 h4 h5 h6=>?_,fun i j c ds a l h1 h2 h3 h4 h5=>?_⟩
 ·obtain⟨a,h1,C,dx,vs,h2,h3,h4,h5,h6,h7⟩:=o.at_ i m c fs h
  exact⟨a,h1,C,dx,vs,hi _ _ _ _ h2,hn _ _ _ _ h2 h3,h4,h5.keep hf fun l ws q=>hl i c a l ws (.inl ⟨m,fs,h⟩) h1 (by rw[Lof.ins h2];exact q),hd _ _ h6,h7⟩
 ·obtain⟨a,C,dx,vs,h1,h2,h4,h5⟩:=o.rd i c fs h
  exact⟨a,C,dx,vs,h1,hi _ _ _ _ h2,h4,h5.keep hf fun l ws q=>hl i c a l ws (.inr ⟨fs,h⟩) h1 (by rw[Lof.ins h2];exact q)⟩
 ·rw[lof (.inl ⟨m,fs,h1⟩) h3] at h5
  rw[lof h2 h4] at h6
  exact o.ll i j m c c' fs a a' l hij h1 h2 h3 h4 h5 h6
 ·rw[lof h1 h3] at h5
  exact o.lo i j c ds a l h1 h2 h3 h4 h5
theorem ObsOk.ext{K:Frag}{F H F' H':Hp}{τ:DS}{σ:St}(o:ObsOk K F τ σ H)(x:Ext F H F' H'):ObsOk K F' τ σ H':=by
 have nF:∀{a:Addr} {u:HO},H a=some u→F a=Option.none→F' a=Option.none:=fun {a u} h h3=>by
  cases q:F' a with
  |none=>rfl
  |some w=>
   rcases x.nw a w q with z|z
   ·rw[h3] at z;cases z
   ·rw[h] at z;cases z
 exact o.keep x.ff (fun a C dx vs h=>x.hh _ _ h) (fun a C dx vs h=>nF h) (fun d a h=>x.hh _ _ h) fun i c a l ws _ _ _ h h3=>⟨x.hh _ _ h,nF h h3⟩
theorem ObsOk.updL{K:Frag}{F H:Hp}{τ:DS}{σ:St}{p:Addr}{u:HO}(o:ObsOk K F τ σ H)(hl:H p=.none∨∃vs,H p=some (.lst vs))(hp:∀(i:Nat) (c:Str) (a:Addr),ObS τ[i]? c→σ[i]?=some (some (.ref a))→p∉Lof H c a):ObsOk K F τ σ (upd H p u):=by
 have ne:∀{a:Addr} {w:HO},H a=some w→(∀vs,w≠.lst vs)→a≠p:=fun {a w} h n z=>by
  subst z
  rcases hl with z|⟨ws,z⟩
  ·rw[z] at h;cases h
  ·rw[z] at h;cases h;exact n _ rfl
 refine o.keep (Same.refl F) (fun a C dx vs h=>?_) (fun a C dx vs _ h=>h) (fun d a h=>?_) fun i c a l ws h1 h2 h3 h4 h5=>⟨?_,h5⟩
 ·rw[zo (ne h fun _ z=>nomatch z)];exact h
 ·rw[zo (ne h fun _ z=>nomatch z)];exact h
 ·have:l≠p:=fun z=>by subst z;exact hp i c a h1 h2 h3
  rw[zo this];exact h4
omit [Tabs] in
theorem yL{τ:DS}{i j:Nat}{s u:Option Sl}(hs:T8 s=false)(hu:T8 u=true)(h:(τ.set i s)[j]?=some u):i≠j∧τ[j]?=some u:=by
 by_cases hij:i=j
 ·subst hij
  rw[getElem?_set] at h
  simp only[if_true] at h
  split at h
  ·cases h;rw[hs] at hu;cases hu
  ·cases h
 ·rw[getElem?_set_ne hij] at h;exact⟨hij,h⟩
omit [Tabs] in
theorem jf{τ:DS}{i j:Nat}{s:Option Sl}{c:Str}(hs:T8 s=false)(h:ObS (τ.set i s)[j]? c):i≠j∧ObS τ[j]? c:=by
 rcases h with ⟨n,fs,h⟩|⟨fs,h⟩
 ·obtain⟨a,b⟩:=yL hs rfl h;exact⟨a,.inl ⟨n,fs,b⟩⟩
 ·obtain⟨a,b⟩:=yL hs rfl h;exact⟨a,.inr ⟨fs,b⟩⟩
theorem ObsOk.put{K:Frag}{F H:Hp}{τ:DS}{σ:St}{i:Nat}{s:Option Sl}{v:Option V}(o:ObsOk K F τ σ H)(hs:T8 s=false)(hw:∀ds l,s=some (.own ds)→v=some (.ref l)→∀(j:Nat) (c:Str) (a:Addr),ObS τ[j]? c→σ[j]?=some (some (.ref a))→l∉Lof H c a):ObsOk K F (τ.set i s) (σ.set i v) H:=
 ⟨fun j m c fs h=>by
  obtain⟨n,h⟩:=yL hs rfl h
  rw[getElem?_set_ne n];exact o.at_ j m c fs h,
  fun j k m c c' fs a hjk h1 h2 h3 h4=>by
   obtain⟨n1,h1⟩:=yL hs rfl h1
   obtain⟨n2,h2⟩:=jf hs h2
   rw[getElem?_set_ne n1] at h3
   rw[getElem?_set_ne n2] at h4
   exact o.dis j k m c c' fs a hjk h1 h2 h3 h4,
  fun j c fs h=>by
   obtain⟨n,h⟩:=yL hs rfl h
   rw[getElem?_set_ne n];exact o.rd j c fs h,
  fun j k m c c' fs a a' l hjk h1 h2 h3 h4=>by
   obtain⟨n1,h1⟩:=yL hs rfl h1
   obtain⟨n2,h2⟩:=jf hs h2
   rw[getElem?_set_ne n1] at h3
   rw[getElem?_set_ne n2] at h4
   exact o.ll j k m c c' fs a a' l hjk h1 h2 h3 h4,
  fun j k c ds a l h1 h2 h3 h4 h5=>by
   obtain⟨n1,g1⟩:=jf hs h1
   rw[getElem?_set_ne n1] at h3
   by_cases e:i=k
   ·subst e
    rw[getElem?_set] at h2 h4
    simp only[if_true] at h2 h4
    split at h2
    ·split at h4
     ·exact hw ds l (by simpa using h2) (by simpa using h4) j c a g1 h3 h5
     ·cases h4
    ·cases h2
   ·rw[getElem?_set_ne e] at h2 h4
    exact o.lo j k c ds a l g1 h2 h3 h4 h5⟩
theorem ObsOk.putS{K:Frag}{F H:Hp}{τ:DS}{σ:St}{i:Nat}{ds es:List D}(o:ObsOk K F τ σ H)(hi:τ[i]?=some (some (.own ds))):ObsOk K F (τ.set i (some (.own es))) σ H:=
 ⟨fun j m c fs h=>o.at_ j m c fs (yL (s:=some (.own es)) rfl rfl h).2,fun j k m c c' fs a hjk h1 h2=>o.dis j k m c c' fs a hjk (yL (s:=some (.own es)) rfl rfl h1).2 (jf (s:=some (.own es)) rfl h2).2,fun j c fs h=>o.rd j c fs (yL (s:=some (.own es)) rfl rfl h).2,
  fun j k m c c' fs a a' l hjk h1 h2=>o.ll j k m c c' fs a a' l hjk (yL (s:=some (.own es)) rfl rfl h1).2 (jf (s:=some (.own es)) rfl h2).2,fun j k c ds' a l h1 h2 h3 h4 h5=>by
   have h1:=(jf (s:=some (.own es)) rfl h1).2
   by_cases e:i=k
   ·subst e;exact o.lo j i c ds a l h1 hi h3 h4 h5
   ·rw[getElem?_set_ne e] at h2;exact o.lo j k c ds' a l h1 h2 h3 h4 h5⟩
theorem ObsOk.fresh{K:Frag}{F H:Hp}{τ:DS}{σ:St}{p:Addr}(o:ObsOk K F τ σ H)(hp:H p=.none):∀(i:Nat) (c:Str) (a:Addr),ObS τ[i]? c→σ[i]?=some (some (.ref a))→p∉Lof H c a:=fun i c a h e hl=>by
 obtain⟨a',C,dx,vs,fs,h1,h2,h3⟩:=o.get h
 rw[e] at h1;cases h1
 rw[Lof.ins h2] at hl
 obtain⟨_,ws,q⟩:=h3.own hl
 rw[hp] at q;cases q
theorem ObsOk.lof{K:Frag}{F H:Hp}{τ:DS}{σ:St}{i:Nat}{c:Str}{a p:Addr}{u:HO}(o:ObsOk K F τ σ H)(h1:ObS τ[i]? c)(h2:σ[i]?=some (some (.ref a)))(hl:H p=.none∨∃vs,H p=some (.lst vs)):Lof (upd H p u) c a=Lof H c a:=by
 obtain⟨a',C,dx,vs,fs,h3,h4,_⟩:=o.get h1
 rw[h2] at h3;cases h3
 have:a≠p:=fun z=>by
  subst z
  rcases hl with z|⟨ws,z⟩
  ·rw[z] at h4;cases h4
  ·rw[z] at h4;cases h4
 rw[Lof.ins h4,Lof.ins (show upd H p u a=some (.ins C dx vs) by rw[zo this];exact h4)]
structure RV(K:Frag)(F:Hp)(τ:DS)(σ:St)(H:Hp):Prop where
 fh:Same F H
 len:τ.length=σ.length
 val:∀(i:Nat) (d:D),τ[i]?=some (some (.val d))→∃v,σ[i]?=some (some v)∧Rep K F d v
 own:∀(i:Nat) (ds:List D),τ[i]?=some (some (.own ds))→∃a vs,σ[i]?=some (some (.ref a))∧H a=some (.lst vs)∧F a=none∧Reps K F ds vs
 dis:∀(i j:Nat) (ds es:List D) (a:Addr),i≠j→τ[i]?=some (some (.own ds))→τ[j]?=some (some (.own es))→σ[i]?=some (some (.ref a))→σ[j]?=some (some (.ref a))→False
 tt:TbT F H
 ob:ObsOk K F τ σ H
theorem RV.ext{K:Frag}{F H F' H':Hp}{τ:DS}{σ:St}(R:RV K F τ σ H)(x:Ext F H F' H'):RV K F' τ σ H':=
 ⟨x.fh,R.len,fun i d e=>by
  obtain⟨v,h1,h2⟩:=R.val i d e
  exact⟨v,h1,h2.mono x.ff⟩,
  fun i ds e=>by
   obtain⟨a,vs,h1,h2,h3,h4⟩:=R.own i ds e
   refine⟨a,vs,h1,x.hh _ _ h2,?_,h4.mono x.ff⟩
   cases q:F' a with
   |none=>rfl
   |some o=>
    rcases x.nw a o q with z|z
    ·rw[h3] at z;cases z
    ·rw[h2] at z;exact absurd z (by simp),
  R.dis,x.tt R.tt,R.ob.ext x⟩
structure RS(K:Frag)(B Z F:Hp)(τ:DS)(σ:St)(H:Hp):Prop where
 rv:RV K F τ σ H
 bh:Hh B H
 zf:Same Z F
 nb:∀a o,F a=some o→Z a=some o∨B a=none
 ob:∀(i:Nat) (ds:List D) (a:Addr),τ[i]?=some (some (.own ds))→σ[i]?=some (some (.ref a))→B a=none
 oo:∀(i n:Nat) (c:Str) (fs:List (Str×D)) (a:Addr),τ[i]?=some (some (.obj n c fs))→σ[i]?=some (some (.ref a))→B a=none∧∀l∈Lof H c a,B l=none
 sf:∀(a0 dx:Addr),B dx=some (.own a0)→B a0=none→∀(i n:Nat) (c:Str) (fs:List (Str×D)),τ[i]?=some (some (.obj (n+1) c fs))→σ[i]?=some (some (.ref a0))
 ro:∀(i:Nat) (c:Str) (fs:List (Str×D)) (a:Addr),τ[i]?=some (some (.obr c fs))→σ[i]?=some (some (.ref a))→∃C dx vs,B a=some (.ins C dx vs)∧∀l∈Yk c vs,∃ws,B l=some (.lst ws)
theorem RS.ext{K:Frag}{B Z F H F' H':Hp}{τ:DS}{σ:St}(R:RS K B Z F τ σ H)(x:Ext F H F' H'):RS K B Z F' τ σ H':=
 ⟨R.rv.ext x,R.bh.trans x.hh,R.zf.trans x.ff,fun a o e=>by
  rcases x.nw a o e with q|q
  ·exact R.nb a o q
  ·exact .inr (vz R.bh q),R.ob,fun i n c fs a h1 h2=>by
  obtain⟨q1,q2⟩:=R.oo i n c fs a h1 h2
  refine⟨q1,fun l hl=>q2 l ?_⟩
  obtain⟨a',h3,C,dx,vs,h4,_⟩:=R.rv.ob.at_ i n c fs h1
  rw[h2] at h3;cases h3
  rw[Lof.ins h4]
  rw[Lof.ins (x.hh _ _ h4:H' a=some (.ins C dx vs))] at hl
  exact hl,R.sf,R.ro⟩
theorem RS.out{K:Frag}{B Z F H:Hp}{τ:DS}{σ:St}(R:RS K B Z F τ σ H):Ext Z B F H:=⟨R.zf,R.bh,R.rv.fh,R.nb,fun _=>R.rv.tt⟩
noncomputable def Xob(X:Cx)(c:Str):Prop:=∀e s',X.xe e s'
noncomputable def Ok(X:Cx){α:Type}(r:Rs α)(P:α→Prop):Prop:=match r with
 |.ok a=>P a
 |.ex c=>Xob X c
 |.no=>False
theorem Ok.bind{X:Cx}{α β:Type}{r:Rs α}{k:α→Rs β}{P:β→Prop}(h:Ok X (r.bind k) P):Ok X r fun a=>Ok X (k a) P:=by
 cases r <;> exact h
theorem Ok.imp{X:Cx}{α:Type}{r:Rs α}{P Q:α→Prop}(h:Ok X r P)(f:∀a,P a→Q a):Ok X r Q:=by
 cases r with
 |ok a=>exact f a h
 |ex c=>exact h
 |no=>exact h
noncomputable abbrev FE:=DS→Rs D
noncomputable abbrev FA:=DS→Rs (List D)
noncomputable abbrev FT:=DS→Rs Bool
noncomputable def Ev(K:Frag)(F H:Hp)(Q:VK)(d:D):Prop:=∀v F' H',Ext F H F' H'→Rep K F' d v→Q v H'
noncomputable def Evs(K:Frag)(F H:Hp)(Q:List V→Hp→Prop)(ds:List D):Prop:=∀vs F' H',Ext F H F' H'→Reps K F' ds vs→Q vs H'
noncomputable def Evb(F H:Hp)(Q:Bool→Hp→Prop)(b:Bool):Prop:=∀F' H',Ext F H F' H'→Q b H'
theorem Ev.ext{K:Frag}{F H F1 H1:Hp}{Q:VK}{d:D}(h:Ev K F H Q d)(x:Ext F H F1 H1):Ev K F1 H1 Q d:=fun v F' H' y r=>h v F' H' (x.trans y) r
theorem Evb.ext{F H F1 H1:Hp}{Q:Bool→Hp→Prop}{d:Bool}(h:Evb F H Q d)(x:Ext F H F1 H1):Evb F1 H1 Q d:=fun F' H' y=>h F' H' (x.trans y)
noncomputable def tE(X:Cx)(f:FE):TE:=fun σ H Q=>∃F τ,RV X.K F τ σ H∧Ok X (f τ) (Ev X.K F H Q)
noncomputable def tAs(X:Cx)(f:FA):TA:=fun σ H Q=>∃F τ,RV X.K F τ σ H∧Ok X (f τ) (Evs X.K F H Q)
noncomputable def tTs(X:Cx)(f:FT):TT:=fun σ H Q=>∃F τ,RV X.K F τ σ H∧Ok X (f τ) (Evb F H Q)
noncomputable def PDE(X:Cx)(e:Expr)(f:FE):Prop:=PE X e (tE X f)
noncomputable def PDA(X:Cx)(e:List Expr)(f:FA):Prop:=PA X e (tAs X f)
noncomputable def PDT(X:Cx)(e:Expr)(f:FT):Prop:=PT X e (tTs X f)
noncomputable def PDW(X:Cx)(e:Expr)(f:FT):Prop:=PW X e (tTs X f)
theorem _root_.L2.PE.imp{X:Cx}{e:Expr}{t t':TE}(h:PE X e t)(f:∀σ H Q,t' σ H Q→t σ H Q):PE X e t':=fun pins s σ H Q I q=>h pins s σ H Q I (f _ _ _ q)
theorem _root_.L2.PT.imp{X:Cx}{e:Expr}{t t':TT}(h:PT X e t)(f:∀σ H Q,t' σ H Q→t σ H Q):PT X e t':=fun pins s σ H Q I q=>h pins s σ H Q I (f _ _ _ q)
theorem _root_.L2.PW.imp{X:Cx}{e:Expr}{t t':TT}(h:PW X e t)(f:∀σ H Q,t' σ H Q→t σ H Q):PW X e t':=fun w pins s σ H Q I q=>h w pins s σ H Q I (f _ _ _ q)
theorem _root_.L2.PA.imp{X:Cx}{e:List Expr}{t t':TA}(h:PA X e t)(f:∀σ H Q,t' σ H Q→t σ H Q):PA X e t':=fun p pins s σ H Q I q=>h p pins s σ H Q I (f _ _ _ q)
theorem _root_.L2.PS.imp{X:Cx}{e:Stmt}{t t':TS}(h:PS X e t)(f:∀E σ H,t' E σ H→t E σ H):PS X e t':=fun pins s σ H Q I q=>h pins s σ H Q I (f _ _ _ q)
theorem _root_.L2.PSs.imp{X:Cx}{e:List Stmt}{t t':TS}(h:PSs X e t)(f:∀E σ H,t' E σ H→t E σ H):PSs X e t':=fun pins s σ H Q I q=>h pins s σ H Q I (f _ _ _ q)
theorem tE.of{X:Cx}{f:FE}{F H:Hp}{τ:DS}{σ:St}{Q:VK}{G:D→Prop}(R:RV X.K F τ σ H)(h:Ok X (f τ) G)
  (k:∀d v F1 H1,G d→Ext F H F1 H1→RV X.K F1 τ σ H1→Rep X.K F1 d v→Q v H1):tE X f σ H Q:=
 ⟨F,τ,R,h.imp fun d g v F1 H1 x r=>k d v F1 H1 g x (R.ext x) r⟩
theorem tAs.of{X:Cx}{f:FA}{F H:Hp}{τ:DS}{σ:St}{Q:List V→Hp→Prop}{G:List D→Prop}(R:RV X.K F τ σ H)(h:Ok X (f τ) G)
  (k:∀d v F1 H1,G d→Ext F H F1 H1→RV X.K F1 τ σ H1→Reps X.K F1 d v→Q v H1):tAs X f σ H Q:=
 ⟨F,τ,R,h.imp fun d g v F1 H1 x r=>k d v F1 H1 g x (R.ext x) r⟩
theorem tTs.of{X:Cx}{f:FT}{F H:Hp}{τ:DS}{σ:St}{Q:Bool→Hp→Prop}{G:Bool→Prop}(R:RV X.K F τ σ H)(h:Ok X (f τ) G)
  (k:∀b F1 H1,G b→Ext F H F1 H1→RV X.K F1 τ σ H1→Q b H1):tTs X f σ H Q:=
 ⟨F,τ,R,h.imp fun d g F1 H1 x=>k d F1 H1 g x (R.ext x)⟩
noncomputable def zc(i:Nat):FE:=fun τ=>match τ[i]? with
 | some (some (.val d))=>.ok d
 |_=>.no
section
variable{X:Cx}{pos:Pos}
theorem zb{i:Nat}{x:Str}(h:PE X (.Name x pos) (uc i)):PDE X (.Name x pos) (zc i):=h.imp fun σ H Q z_=>by
 obtain⟨F,τ,R,q⟩:=z_
 unfold zc at q
 cases e:τ[i]? with
 |none=>rw[e] at q;exact q.elim
 |some o=>
  cases o with
  |none=>rw[e] at q;exact q.elim
  |some sl=>
   cases sl with
   |own ds=>rw[e] at q;exact q.elim
   |obj n c fs=>rw[e] at q;exact q.elim
   |obr c fs=>rw[e] at q;exact q.elim
   |val d=>
    rw[e] at q
    obtain⟨v,h1,h2⟩:=R.val i d e
    exact⟨v,h1,q v F H (Ext.refl R.fh) h2⟩
noncomputable def eC(d:D):FE:=fun _=>.ok d
theorem Wm{e:Expr}{v:V}{d:D}(h:PE X e (tC v))(r:∀F,Rep X.K F d v):PDE X e (eC d):=h.imp fun σ H Q z_=>by obtain⟨F,τ,R,q⟩:=z_;exact q v F H (Ext.refl R.fh) (r F)
theorem zj{i j}:PDE X (.Constant (.int i) j pos) (eC (.int i)):=Wm zp8 fun _=>by simp only[Rep]
theorem uQ{i j}:PDE X (.Constant (.bool i) j pos) (eC (.bl i)):=Wm zl8 fun _=>by simp only[Rep]
theorem wV{j}:PDE X (.Constant .none j pos) (eC .non):=Wm zp7 fun _=>by simp only[Rep]
theorem wa{i j}:PDE X (.Constant (.str i) j pos) (eC (.str i)):=Wm zp5 fun _=>by simp only[Rep]
end
noncomputable def OpD(X:Cx)(g:Value→Value→Sem Value)(op:D→D→Rs D):Prop:=∃r:R2,OpR X g r ∧
 ∀F H x y dx dy Q,Same F H→Rep X.K F dx x→Rep X.K F dy y→Ok X (op dx dy) (Ev X.K F H Q)→r x y H Q
noncomputable def eOp(op:D→D→Rs D)(fa fb:FE):FE:=fun τ=>(fa τ).bind fun x=>(fb τ).bind fun y=>op x y
section
variable{X:Cx}{pos:Pos}{a b c:Expr}{fa fb fc:FE}
theorem Qm{r:R2}{op:D→D→Rs D}(hl:∀F H x y dx dy Q,Same F H→Rep X.K F dx x→Rep X.K F dy y→Ok X (op dx dy) (Ev X.K F H Q)→r x y H Q)
  (σ:St) (H:Hp) (Q:VK) (h:tE X (eOp op fa fb) σ H Q):tOp r (tE X fa) (tE X fb) σ H Q:=by
 obtain⟨F,τ,R,h⟩:=h
 refine tE.of R h.bind fun x u F1 H1 g x1 R1 r1=>?_
 refine tE.of R1 g.bind fun y v F2 H2 g2 x2 R2 r2=>?_
 exact hl F2 H2 u v x y Q R2.fh (r1.mono x2.ff) r2 (g2.imp fun d e=>e.ext (x1.trans x2))
theorem zq{o:Operator}{op:D→D→Rs D}(ho:OpD X (binaryOp o) op)(ha:PDE X a fa)(hb:PDE X b fb):PDE X (.BinOp a o b pos) (eOp op fa fb):=by
 obtain⟨r,h1,h2⟩:=ho
 exact(pe_op h1 ha hb).imp (Qm h2)
theorem xT{o:CmpOp}{op:D→D→Rs D}(ho:OpD X (compareOp o) op)(ha:PDE X a fa)(hb:PDE X b fb)(hm:behindInMarks o b=false):PDE X (.Compare a [o] [b] pos) (eOp op fa fb):=by
 obtain⟨r,h1,h2⟩:=ho
 exact(zc9 h1 ha hb hm).imp (Qm h2)
noncomputable def tB(f:FE):FT:=fun τ=>(f τ).bind fun d=>match d with
 |.bl b=>.ok b
 |_=>.no
theorem L9{t:FE}{u:TE}(hi:∀σ H Q,tE X t σ H Q→u σ H Q)(σ:St)(H:Hp)(Q:Bool→Hp→Prop)(h:tTs X (tB t) σ H Q):zl2 u σ H Q:=by
 obtain⟨F,τ,R,h⟩:=h
 refine hi σ H _ (tE.of R h.bind fun d v F1 H1 g x R1 r=>?_)
 cases d with
 |bl k=>simp only[Rep] at r;exact⟨k,r,g F1 H1 x⟩
 |_=>exact g.elim
theorem zX{o:CmpOp}{op:D→D→Rs D}(ho:OpD X (compareOp o) op)(ha:PDE X a fa)(hb:PDE X b fb)(hm:behindInMarks o b=false):PDT X (.Compare a [o] [b] pos) (tB (eOp op fa fb)):=by
 obtain⟨r,h1,h2⟩:=ho
 exact(zc3 h1 ha hb hm).imp (L9 (Qm h2))
noncomputable def Zy:D→Rs Bool
 |.non=>.ok false
 |.bl b=>.ok b
 |.int i=>.ok (i != 0)
 |.str x=>if x.length≤sizeLine then .ok ((x.length:Int) != 0) else .no
 |.lst ds=>.ok (!ds.isEmpty)
 |.tup ds=>.ok (!ds.isEmpty)
 |.scr ns=>.ok (!ns.isEmpty)
 |.raw _=>.no
 |.exc _=>.no
theorem Zh{K:Frag}{F:Hp}{ds:List D}{vs:List V}(h:Reps K F ds vs):ds.isEmpty=vs.isEmpty:=by
 have:=h.length
 cases ds <;> cases vs <;> simp_all
theorem UX{F H:Hp}{d:D}{v:V}{Q:Bool→Hp→Prop}(fh:Same F H)(r:Rep X.K F d v)(h:Ok X (Zy d) (fun b=>Q b H)):∃k,zv7 X.K v H k∧Q k H:=by
 cases d with
 |non=>simp only[Rep] at r;subst r;exact⟨_,rfl,h⟩
 |bl b=>simp only[Rep] at r;subst r;exact⟨_,rfl,h⟩
 |int i=>simp only[Rep] at r;subst r;exact⟨_,rfl,h⟩
 |str x=>
  simp only[Rep] at r;subst r
  (delta Zy at h;dsimp only at h)
  by_cases z:x.length≤sizeLine
  ·rw[if_pos z] at h;exact⟨_,⟨z,rfl⟩,h⟩
  ·rw[if_neg z] at h;exact h.elim
 |lst ds=>
  simp only[Rep] at r;obtain⟨a,vs,rfl,e,q⟩:=r
  refine⟨!vs.isEmpty,.inl ⟨vs,SqL.of (fh _ _ e),rfl⟩,?_⟩
  rw[← Zh q];exact h
 |tup ds=>
  simp only[Rep] at r;obtain⟨a,vs,rfl,e,q⟩:=r
  refine⟨!vs.isEmpty,.inr (.inl ⟨vs,Same.seqT fh e,rfl⟩),?_⟩
  rw[← Zh q];exact h
 |scr ns=>
  simp only[Rep] at r;obtain⟨a,rfl,e⟩:=r
  refine⟨!(ns.map V.int).isEmpty,.inl ⟨_,fh.seq e,rfl⟩,?_⟩
  have e2:(ns.map V.int).isEmpty=ns.isEmpty:=by cases ns <;> rfl
  rw[e2];exact h
 |raw u=>exact h.elim
 |exc c=>exact h.elim
noncomputable def uI(f:FE):FT:=fun τ=>(f τ).bind Zy
theorem jh(ha:PDE X a fa)(he:∀whole,isTrue a X.env whole=(do let v ← whole;standAt a.pos;holding [v] (truthy v)):=by intro _;rfl):PDT X a (uI fa):=
 (MV ha he).imp fun σ H Q z_=>by obtain⟨F,τ,R,h⟩:=z_;exact tE.of R h.bind fun d v F1 H1 g x R1 r=>UX R1.fh r (g.imp fun b e=>e F1 H1 x)
noncomputable def jR(f g:FT):FT:=fun τ=>(f τ).bind fun b=>if b=true then g τ else .ok false
noncomputable def v4(f g:FT):FT:=fun τ=>(f τ).bind fun b=>if b=true then .ok true else g τ
noncomputable def ZZ(f:FT):FT:=fun τ=>(f τ).bind fun b=>.ok (!b)
variable{ga gb:FT}{rest:List Expr}
theorem Y3(ha:PDT X a ga):PDW X (.BoolOp .And [a] pos) ga:=zb9 ha
theorem jg(ha:PDT X a ga):PDW X (.BoolOp .Or [a] pos) ga:=zo4 ha
theorem W0(ha:PDT X a ga)(hb:PDW X (.BoolOp .And (b::rest) pos) gb):PDW X (.BoolOp .And (a::b::rest) pos) (jR ga gb):=
 PW.imp (zo6 ha hb) fun σ H Q z_=>by
  obtain⟨F,τ,R,h⟩:=z_
  refine tTs.of R h.bind fun k F1 H1 g x R1=>?_
  cases k with
  |true=>rw[if_pos rfl];rw[if_pos rfl] at g;exact⟨F1,τ,R1,g.imp fun d e=>e.ext x⟩
  |false=>rw[if_neg (by simp)];rw[if_neg (by simp)] at g;exact g F1 H1 x
theorem jD(ha:PDT X a ga)(hb:PDW X (.BoolOp .Or (b::rest) pos) gb):PDW X (.BoolOp .Or (a::b::rest) pos) (v4 ga gb):=
 PW.imp (pw_or ha hb) fun σ H Q z_=>by
  obtain⟨F,τ,R,h⟩:=z_
  refine tTs.of R h.bind fun k F1 H1 g x R1=>?_
  cases k with
  |false=>rw[if_neg (by simp)];rw[if_neg (by simp)] at g;exact⟨F1,τ,R1,g.imp fun d e=>e.ext x⟩
  |true=>rw[if_pos rfl];rw[if_pos rfl] at g;exact g F1 H1 x
theorem jY{e:Expr}(h:PDW X e ga):PDT X e ga:=PW.pt h
theorem Qg(ha:PDT X a ga):PDT X (.UnaryOp .Not a pos) (ZZ ga):=
 PT.imp (zo7 ha) fun σ H Q z_=>by obtain⟨F,τ,R,h⟩:=z_;exact tTs.of R h.bind fun k F1 H1 g x R1=>g F1 H1 x
noncomputable def eIf(g:FT)(fa fb:FE):FE:=fun τ=>(g τ).bind fun b=>if b=true then fa τ else fb τ
theorem Tb(hc:PDT X c ga)(ha:PDE X a fa)(hb:PDE X b fb):PDE X (.IfExp c a b pos) (eIf ga fa fb):=
 PE.imp (M3 hc ha hb) fun σ H Q z_=>by
  obtain⟨F,τ,R,h⟩:=z_
  refine tTs.of R h.bind fun k F1 H1 g x R1=>?_
  cases k with
  |true=>rw[if_pos rfl];rw[if_pos rfl] at g;exact⟨F1,τ,R1,g.imp fun d e=>e.ext x⟩
  |false=>rw[if_neg (by simp)];rw[if_neg (by simp)] at g;exact⟨F1,τ,R1,g.imp fun d e=>e.ext x⟩
noncomputable def XJ(fa fb:FE):FE:=fun τ=>(fa τ).bind fun x=>(Zy x).bind fun b=>if b=true then fb τ else .ok x
noncomputable def eOr(fa fb:FE):FE:=fun τ=>(fa τ).bind fun x=>(Zy x).bind fun b=>if b=true then .ok x else fb τ
theorem ul{op}(h:PDE X a fa):PDE X (.BoolOp op [a] pos) fa:=zp6 h
theorem Yz(ha:PDE X a fa)(hb:PDE X (.BoolOp .And (b::rest) pos) fb):PDE X (.BoolOp .And (a::b::rest) pos) (XJ fa fb):=by
 rintro pins s σ H Q I ⟨F,τ,R,h⟩
 refine BoolOp_and (thn (ha pins s σ H _ I (tE.of R h.bind fun d v F1 H1 g x R1 r=>(⟨d,F1,g,x,R1,r⟩:∃d F1,Ok X ((Zy d).bind fun b=>if b=true then fb τ else .ok d) (Ev X.K F H Q)∧Ext F H F1 H1∧RV X.K F1 τ σ H1∧Rep X.K F1 d v))) fun v s1 z_=>?_)
 obtain⟨x,H1,I1,r1,d,F1,g,x1,R1,r⟩:=z_
 refine thn (tru_ok pins s1 σ H1 x v (fun b H2=>H2=H1∧Ok X (if b=true then fb τ else .ok d) (Ev X.K F H Q)) I1 r1 (UX (Q:=fun b H2=>H2=H1∧Ok X (if b=true then fb τ else .ok d) (Ev X.K F H Q)) R1.fh r (g.bind.imp fun b e=>⟨rfl,e⟩))) fun k s2 z_=>?_
 obtain⟨H2,I2,e2,q⟩:=z_
 subst e2
 cases k with
 |true=>rw[if_pos rfl] at q ⊢;exact hb pins s2 σ _ Q I2 ⟨F1,τ,R1,q.imp fun d e=>e.ext x1⟩
 |false=>rw[if_neg (by simp)] at q ⊢;exact⟨x,_,I2,r1,q x F1 _ x1 r⟩
theorem Jg(ha:PDE X a fa)(hb:PDE X (.BoolOp .Or (b::rest) pos) fb):PDE X (.BoolOp .Or (a::b::rest) pos) (eOr fa fb):=by
 rintro pins s σ H Q I ⟨F,τ,R,h⟩
 refine BoolOp_or (thn (ha pins s σ H _ I (tE.of R h.bind fun d v F1 H1 g x R1 r=>(⟨d,F1,g,x,R1,r⟩:∃d F1,Ok X ((Zy d).bind fun b=>if b=true then .ok d else fb τ) (Ev X.K F H Q)∧Ext F H F1 H1∧RV X.K F1 τ σ H1∧Rep X.K F1 d v))) fun v s1 z_=>?_)
 obtain⟨x,H1,I1,r1,d,F1,g,x1,R1,r⟩:=z_
 refine thn (tru_ok pins s1 σ H1 x v (fun b H2=>H2=H1∧Ok X (if b=true then .ok d else fb τ) (Ev X.K F H Q)) I1 r1 (UX (Q:=fun b H2=>H2=H1∧Ok X (if b=true then .ok d else fb τ) (Ev X.K F H Q)) R1.fh r (g.bind.imp fun b e=>⟨rfl,e⟩))) fun k s2 z_=>?_
 obtain⟨H2,I2,e2,q⟩:=z_
 subst e2
 cases k with
 |false=>rw[if_neg (by simp)] at q ⊢;exact hb pins s2 σ _ Q I2 ⟨F1,τ,R1,q.imp fun d e=>e.ext x1⟩
 |true=>rw[if_pos rfl] at q ⊢;exact⟨x,_,I2,r1,q x F1 _ x1 r⟩
end
section
variable{X:Cx}{pos:Pos}{e:Expr}{es:List Expr}{fe:FE}{fs:FA}
noncomputable def zh:FA:=fun _=>.ok []
noncomputable def za(f:FE)(g:FA):FA:=fun τ=>(f τ).bind fun x=>(g τ).bind fun r=>.ok (x::r)
theorem zi:PDA X [] zh:=PA.imp jE fun σ H Q z_=>by obtain⟨F,τ,R,h⟩:=z_;exact h [] F H (Ext.refl R.fh) Reps.nil
theorem zd(ha:PDE X e fe)(hr:PDA X es fs)(hs:starEach (e::es) X.env=(false,eval e X.env)::starEach es X.env:=by rfl):PDA X (e::es) (za fe fs):=
 PA.imp (vN ha hr hs) fun σ H Q ⟨F,τ,R,h⟩=>tE.of R h.bind fun x v F1 H1 g x1 R1 r1=>tAs.of R1 g.bind fun ys vs F2 H2 g2 x2 R2 r2=>
  g2 (v::vs) F2 H2 (x1.trans x2) (Reps.cons (r1.mono x2.ff) r2)
noncomputable def xg(f:FA):FE:=fun τ=>(f τ).bind fun ds=>if ds.length≤sizeLine then .ok (.tup ds) else .no
noncomputable def xt(f:FA):FE:=fun τ=>(f τ).bind fun ds=>if ds.length≤sizeLine then .ok (.lst ds) else .no
theorem yz{X:Cx}{α:Type}{c:Prop}[Decidable c]{a:α}{P:α→Prop}(h:Ok X (if c then .ok a else .no) P):c∧P a:=by
 by_cases z:c
 ·rw[if_pos z] at h;exact⟨z,h⟩
 ·rw[if_neg z] at h;exact h.elim
theorem xR{x1}(h:PDA X es fs):PDE X (.Tuple es x1 pos) (xg fs):=
 PE.imp (M0 h) fun σ H Q z_=>by
  obtain⟨F,τ,R,hq⟩:=z_
  refine tAs.of R hq.bind fun ds vs F1 H1 g x R1 r=>?_
  obtain⟨z,g⟩:=yz g
  refine⟨by rw[← r.length];exact z,fun p hp=>g (.ref p) _ _ (x.trans (Ext.new R1.fh hp)) ?_⟩
  simp only[Rep]
  exact⟨p,vs,rfl,SqT.of zv,r.mono (yi (zY R1.fh hp))⟩
theorem xS(h:PDA X es fs):PDE X (.List es pos) (xt fs):=
 PE.imp (Jb h) fun σ H Q z_=>by
  obtain⟨F,τ,R,hq⟩:=z_
  refine tAs.of R hq.bind fun ds vs F1 H1 g x R1 r=>?_
  obtain⟨z,g⟩:=yz g
  refine⟨by rw[← r.length];exact z,fun p hp=>g (.ref p) _ _ (x.trans (Ext.new R1.fh hp)) ?_⟩
  simp only[Rep]
  exact⟨p,vs,rfl,zv,r.mono (yi (zY R1.fh hp))⟩
end
inductive Fl where
 | nx (τ:DS) | rt (d:D) | bk (τ:DS) | ct (τ:DS) | ex (c:Str) | no
 | rs (c:Str) (τ:DS)
 | ro (d:D) (τ:DS)
 | rb (i:Nat) (τ:DS)
noncomputable def Nw(X:Cx)(H:Hp)(b:Addr):Prop:=H b=none∧X.s₀.heap.get? b=none∧∀p∈X.pn,p.1≠b
noncomputable def US(X:Cx)(H:Hp)(h:Heap)(a:Addr)(cls:Value):Prop:=Nw X H a∧∃oe vs,h.get? a=some oe∧oe.cls=cls∧oe.dict=none∧oe.data=.fields vs ∧
 (vs[1]?=some .none∨∃T oT ts,vs[1]?=some (.ref T)∧Nw X H T∧T≠a∧h.get? T=some oT∧oT.data=.fields ts∧ts[3]?=some .none)∧vs[2]?=some .none
noncomputable def XA(X:Cx)(c:Str)(σ:St)(H:Hp):Prop:=∀s a cls,nsIn X.K mainGlobals c=some (some cls)→Inv X [] σ H s→US X H s.heap a cls→X.xe (.ref a) s
noncomputable abbrev FS:=DS→Fl
noncomputable def Post(X:Cx)(B Z F:Hp)(E:UT):Fl→Prop
 |.nx τ=>∀σ F' H',Same F F'→RS X.K B Z F' τ σ H'→E.nx σ H'
 |.bk τ=>∀σ F' H',Same F F'→RS X.K B Z F' τ σ H'→E.bk σ H'
 |.ct τ=>∀σ F' H',Same F F'→RS X.K B Z F' τ σ H'→E.ct σ H'
 |.rt d=>∀v F' H',Ext Z B F' H'→Rep X.K F' d v→E.rt v H'
 |.ex c=>Xob X c
 |.no=>False
 |.rs c τ=>∀σ F' H',Same F F'→RS X.K B Z F' τ σ H'→XA X c σ H'
 |.ro d τ=>∀v σ F' H',Same F F'→RS X.K B Z F' τ σ H'→Rep X.K F' d v→E.rt v H'
 |.rb i τ=>∀v σ F' H',Same F F'→RS X.K B Z F' τ σ H'→σ[i]?=some (some v)→E.rt v H'
theorem Post.same{X:Cx}{B Z F F1:Hp}{E:UT}{r:Fl}(h:Post X B Z F E r)(f:Same F F1):Post X B Z F1 E r:=by
 cases r with
 |nx τ=>exact fun σ F' H' g R=>h σ F' H' (f.trans g) R
 |bk τ=>exact fun σ F' H' g R=>h σ F' H' (f.trans g) R
 |ct τ=>exact fun σ F' H' g R=>h σ F' H' (f.trans g) R
 |rt d=>exact h
 |ex c=>exact h
 |no=>exact h
 |rs c τ=>exact fun σ F' H' g R=>h σ F' H' (f.trans g) R
 |ro d τ=>exact fun v σ F' H' g R r=>h v σ F' H' (f.trans g) R r
 |rb i τ=>exact fun v σ F' H' g R r=>h v σ F' H' (f.trans g) R r
noncomputable def tS(X:Cx)(f:FS):TS:=fun E σ H=>∃B Z F τ,RS X.K B Z F τ σ H∧Post X B Z F E (f τ)
noncomputable def PDS(X:Cx)(st:Stmt)(f:FS):Prop:=PS X st (tS X f)
noncomputable def ja(X:Cx)(st:List Stmt)(f:FS):Prop:=PSs X st (tS X f)
noncomputable def Fl.of{α:Type}(r:Rs α)(k:α→Fl):Fl:=match r with
 |.ok a=>k a
 |.ex c=>.ex c
 |.no=>.no
@[simp] theorem Fl.of_ok{α:Type}(a:α)(k:α→Fl):Fl.of (.ok a) k=k a:=rfl
theorem Post.of{X:Cx}{B Z F:Hp}{E:UT}{α:Type}{r:Rs α}{k:α→Fl}(h:Post X B Z F E (Fl.of r k)):Ok X r fun a=>Post X B Z F E (k a):=by
 cases r <;> exact h
section
variable{X:Cx}{pos:Pos}{e:Expr}{es:List Expr}{fe:FE}{fs:FA}{st:Stmt}{rest:List Stmt}{f g:FS}{c:Expr}{gc:FT}
noncomputable def yc:FS:=fun τ=>.nx τ
noncomputable def zt(f g:FS):FS:=fun τ=>match f τ with
 |.nx τ'=>g τ'
 |r=>r
theorem yj:ja X [] yc:=PSs.imp J8 fun E σ H z_=>by obtain⟨B,Z,F,τ,R,h⟩:=z_;exact h σ F H (Same.refl F) R
theorem zn(h:PDS X st f):ja X [st] f:=Yw h
theorem zm(h1:PDS X st f)(h2:ja X rest g):ja X (st::rest) (zt f g):=
 PSs.imp (jX h1 h2) fun E σ H z_=>by
  obtain⟨B,Z,F,τ,R,h⟩:=z_
  refine⟨B,Z,F,τ,R,?_⟩
  unfold zt at h
  cases q:f τ with
  |nx τ'=>rw[q] at h;exact fun σ' F' H' ff R'=>⟨B,Z,F',τ',R',Post.same h ff⟩
  |rt d=>rw[q] at h;exact h
  |bk d=>rw[q] at h;exact h
  |ct d=>rw[q] at h;exact h
  |ex d=>rw[q] at h;exact h
  |no=>rw[q] at h;exact h
  |rs c d=>rw[q] at h;exact h
  |ro c d=>rw[q] at h;exact h
  |rb c d=>rw[q] at h;exact h
noncomputable def yd(fe:FE):FS:=fun τ=>Fl.of (fe τ) fun d=>.rt d
theorem tE.at{B Z F H:Hp}{τ:DS}{σ:St}{Q:VK}{G:D→Prop}(R:RS X.K B Z F τ σ H)(h:Ok X (fe τ) G)
  (k:∀d v F1 H1,G d→Ext F H F1 H1→RS X.K B Z F1 τ σ H1→Rep X.K F1 d v→Q v H1):tE X fe σ H Q:=
 tE.of R.rv h fun d v F1 H1 g x _ r=>k d v F1 H1 g x (R.ext x) r
theorem zN(he:PDE X e fe):PDS X (.Return (some e) pos) (yd fe):=
 PS.imp (WY he) fun E σ H z_=>by obtain⟨B,Z,F,τ,R,h⟩:=z_;exact tE.at R h.of fun d v F1 H1 g x R1 r=>g v F1 H1 R1.out r
noncomputable def sIf(gc:FT)(f g:FS):FS:=fun τ=>Fl.of (gc τ) fun b=>if b=true then f τ else g τ
theorem yP{a b:List Stmt}(hc:PDT X c gc)(ha:ja X a f)(hb:ja X b g):PDS X (.If c a b pos) (sIf gc f g):=
 PS.imp (zl5 hc ha hb) fun E σ H z_=>by
  obtain⟨B,Z,F,τ,R,h⟩:=z_
  refine tTs.of R.rv h.of fun k F1 H1 q x _=>?_
  cases k with
  |true=>rw[if_pos rfl] at q ⊢;exact⟨B,Z,F1,τ,R.ext x,q.same x.ff⟩
  |false=>rw[if_neg (by simp)] at q ⊢;exact⟨B,Z,F1,τ,R.ext x,q.same x.ff⟩
theorem RV.set{K:Frag}{F H:Hp}{τ:DS}{σ:St}{i:Nat}{d:D}{v:V}(R:RV K F τ σ H)(r:Rep K F d v):RV K F (τ.set i (some (.val d))) (σ.set i (some v)) H:=by
 refine⟨R.fh,by simp[R.len],fun j e h=>?_,fun j es h=>?_,fun j k ds es a hjk h1 h2 h3 h4=>?_,?_,?_⟩
 ·by_cases hij:i=j
  ·subst hij
   have hlt:i<τ.length:=by
    rcases lt_or_ge i τ.length with z|z
    ·exact z
    ·rw[List.getElem?_eq_none_iff.mpr (by simpa using z)] at h;cases h
   rw[getElem?_set_self hlt] at h
   cases h
   exact⟨v,by rw[getElem?_set_self (by rw[← R.len];exact hlt)],r⟩
  ·rw[getElem?_set_ne hij] at h ⊢
   exact R.val j e h
 ·by_cases hij:i=j
  ·subst hij
   rw[getElem?_set] at h
   simp only[if_true] at h
   split at h <;> cases h
  ·rw[getElem?_set_ne hij] at h ⊢
   exact R.own j es h
 ·have n1:i≠j:=fun z=>by
   subst z
   rw[getElem?_set] at h1
   simp only[if_true] at h1
   split at h1 <;> cases h1
  have n2:i≠k:=fun z=>by
   subst z
   rw[getElem?_set] at h2
   simp only[if_true] at h2
   split at h2 <;> cases h2
  rw[getElem?_set_ne n1] at h1 h3
  rw[getElem?_set_ne n2] at h2 h4
  exact R.dis j k ds es a hjk h1 h2 h3 h4
 ·exact R.tt
 ·exact R.ob.put rfl fun _ _ z=>by cases z
theorem RS.set{K:Frag}{B Z F H:Hp}{τ:DS}{σ:St}{i:Nat}{d:D}{v:V}(R:RS K B Z F τ σ H)(r:Rep K F d v):RS K B Z F (τ.set i (some (.val d))) (σ.set i (some v)) H:=
 ⟨R.rv.set r,R.bh,R.zf,R.nb,fun j ds a h1 h2=>by
  have n1:i≠j:=fun z=>by
   subst z
   rw[getElem?_set] at h1
   simp only[if_true] at h1
   split at h1 <;> cases h1
  rw[getElem?_set_ne n1] at h1 h2
  exact R.ob j ds a h1 h2,fun j m c fs a h1 h2=>by
  obtain⟨n,h1⟩:=yL (s:=some (.val d)) rfl rfl h1
  rw[getElem?_set_ne n] at h2
  exact R.oo j m c fs a h1 h2,fun a0 dx b1 b2 j m c fs h=>by
  obtain⟨n,h⟩:=yL (s:=some (.val d)) rfl rfl h
  rw[getElem?_set_ne n]
  exact R.sf a0 dx b1 b2 j m c fs h,fun j c fs a h1 h2=>by
  obtain⟨n,h1⟩:=yL (s:=some (.val d)) rfl rfl h1
  rw[getElem?_set_ne n] at h2
  exact R.ro j c fs a h1 h2⟩
noncomputable def zI(i:Nat)(fe:FE):FS:=fun τ=>Fl.of (fe τ) fun d=>.nx (τ.set i (some (.val d)))
theorem zE{i:Nat}{x:Str}{pos':Pos}(hN:X.N.Nodup)(hi:X.N[i]?=some x)(hx:Loc X.env.scope x)(he:PDE X e fe)(hs:swapsWith e (some (.Name x pos')) pos.line X.env=pure false:=by rfl)(hf:X.fn x=true∨X.env.scope.names.lookup x=some .local:=by first|exact .inl rfl|exact .inr rfl|assumption) :
  PDS X (.Assign [.Name x pos'] e pos) (zI i fe):=
 PS.imp (Ja hN hi hx he hs hf) fun E σ H z_=>by obtain⟨B,Z,F,τ,R,h⟩:=z_;exact tE.at R h.of fun d v F1 H1 g x R1 r=>g _ F1 H1 x.ff (R1.set r)
noncomputable def tFr(X:Cx)(f:FA):TE:=fun σ H Q=>∃F τ,RV X.K F τ σ H∧Ok X (f τ) fun ds=>∀p vs F' H',Ext F H F' H'→H' p=none→Reps X.K F' ds vs→Q (.ref p) (upd H' p (.lst vs))
noncomputable def PDF(X:Cx)(e:Expr)(f:FA):Prop:=PE X e (tFr X f)
theorem Qi(h:PDA X es fs):PDF X (.List es pos) (fun τ=>(fs τ).bind fun ds=>if ds.length≤sizeLine then .ok ds else .no):=
 PE.imp (Jb h) fun σ H Q z_=>by
  obtain⟨F,τ,R,hq⟩:=z_
  refine tAs.of R hq.bind fun ds vs F1 H1 g x R1 r=>?_
  obtain⟨z,g⟩:=yz g
  exact⟨by rw[← r.length];exact z,fun p hp=>g p vs F1 H1 x hp r⟩
theorem ve{ff:FA}(h:PDF X e ff):PDE X e (fun τ=>(ff τ).bind fun ds=>.ok (.lst ds)):=
 PE.imp h fun σ H Q ⟨F,τ,R,hq⟩=>⟨F,τ,R,hq.bind.imp fun ds g p vs F1 H1 x hp r=>by
  refine g (.ref p) _ _ (x.trans (Ext.new x.fh hp)) ?_
  simp only[Rep]
  exact⟨p,vs,rfl,zv,r.mono (yi (zY x.fh hp))⟩⟩
noncomputable def uz(i:Nat)(ff:FA):FS:=fun τ=>Fl.of (ff τ) fun ds=>.nx (τ.set i (some (.own ds)))
theorem RV.setO{K:Frag}{F H:Hp}{τ:DS}{σ:St}{i:Nat}{p:Addr}{ds:List D}{vs:List V}(R:RV K F τ σ H)(hp:H p=none)(r:Reps K F ds vs):RV K F (τ.set i (some (.own ds))) (σ.set i (some (.ref p))) (upd H p (.lst vs)):=by
 have nofr:=zY R.fh hp
 have hlt:∀{o:Sl},(τ.set i (some (.own ds)))[i]?=some (some o)→i<τ.length:=fun {o} h=>by
  rcases lt_or_ge i τ.length with z|z
  ·exact z
  ·rw[List.getElem?_eq_none_iff.mpr (by simpa using z)] at h;cases h
 refine⟨R.fh.trans (yi hp),by simp[R.len],fun j e h=>?_,fun j es h=>?_,fun j k es es' a hjk h1 h2 h3 h4=>?_,?_,?_⟩
 ·by_cases hij:i=j
  ·subst hij
   rw[getElem?_set_self (hlt h)] at h;cases h
  ·rw[getElem?_set_ne hij] at h ⊢
   exact R.val j e h
 ·by_cases hij:i=j
  ·subst hij
   have l:=hlt h
   rw[getElem?_set_self l] at h
   cases h
   exact⟨p,vs,by rw[getElem?_set_self (by rw[← R.len];exact l)],zv,nofr,r⟩
  ·rw[getElem?_set_ne hij] at h ⊢
   obtain⟨a,ws,q1,q2,q3,q4⟩:=R.own j es h
   exact⟨a,ws,q1,by rw[zo (zP q2 hp)];exact q2,q3,q4⟩
 ·by_cases n1:i=j
  ·subst n1
   rw[getElem?_set_ne hjk] at h2 h4
   obtain⟨a',ws,q1,q2,q3,q4⟩:=R.own k es' h2
   rw[q1] at h4;cases h4
   have l:=hlt h1
   rw[getElem?_set_self (by rw[← R.len];exact l)] at h3
   cases h3
   rw[hp] at q2;cases q2
  ·by_cases n2:i=k
   ·subst n2
    rw[getElem?_set_ne (Ne.symm hjk)] at h1 h3
    obtain⟨a',ws,q1,q2,q3,q4⟩:=R.own j es h1
    rw[q1] at h3;cases h3
    have l:=hlt h2
    rw[getElem?_set_self (by rw[← R.len];exact l)] at h4
    cases h4
    rw[hp] at q2;cases q2
   ·rw[getElem?_set_ne n1] at h1 h3
    rw[getElem?_set_ne n2] at h2 h4
    exact R.dis j k es es' a hjk h1 h2 h3 h4
 ·exact R.tt.step (fun _ _ e=>.inl e) (fun b o e _=>by rw[zo (zP e hp)];exact e) (ZI fun _ z=>nomatch z)
 ·have o1:ObsOk K F (τ.set i (some (.own ds))) (σ.set i (some (.ref p))) H:=R.ob.put rfl fun _ l _ z=>by
   cases z;exact R.ob.fresh hp
  exact o1.updL (.inl hp) (o1.fresh hp)
theorem RS.setO{K:Frag}{B Z F H:Hp}{τ:DS}{σ:St}{i:Nat}{p:Addr}{ds:List D}{vs:List V}(R:RS K B Z F τ σ H)(hp:H p=none)(r:Reps K F ds vs):RS K B Z F (τ.set i (some (.own ds))) (σ.set i (some (.ref p))) (upd H p (.lst vs)):=
 ⟨R.rv.setO hp r,R.bh.trans (.of (yi hp)),R.zf,R.nb,fun j es a h1 h2=>by
  by_cases n1:i=j
  ·subst n1
   have l:i<τ.length:=by
    rcases lt_or_ge i τ.length with z|z
    ·exact z
    ·rw[List.getElem?_eq_none_iff.mpr (by simpa using z)] at h1;cases h1
   rw[getElem?_set_self (by rw[← R.rv.len];exact l)] at h2
   cases h2
   exact vz R.bh hp
  ·rw[getElem?_set_ne n1] at h1 h2
   exact R.ob j es a h1 h2,fun j m c fs a h1 h2=>by
  obtain⟨n,h1⟩:=yL (s:=some (.own ds)) rfl rfl h1
  rw[getElem?_set_ne n] at h2
  rw[R.rv.ob.lof (.inl ⟨m,fs,h1⟩) h2 (.inl hp)]
  exact R.oo j m c fs a h1 h2,fun a0 dx b1 b2 j m c fs h=>by
  obtain⟨n,h⟩:=yL (s:=some (.own ds)) rfl rfl h
  rw[getElem?_set_ne n]
  exact R.sf a0 dx b1 b2 j m c fs h,fun j c fs a h1 h2=>by
  obtain⟨n,h1⟩:=yL (s:=some (.own ds)) rfl rfl h1
  rw[getElem?_set_ne n] at h2
  exact R.ro j c fs a h1 h2⟩
theorem VU{i:Nat}{x:Str}{pos':Pos}{ff:FA}(hN:X.N.Nodup)(hi:X.N[i]?=some x)(hx:Loc X.env.scope x)(he:PDF X e ff)(hs:swapsWith e (some (.Name x pos')) pos.line X.env=pure false:=by rfl)(hf:X.fn x=true∨X.env.scope.names.lookup x=some .local:=by first|exact .inl rfl|exact .inr rfl|assumption) :
  PDS X (.Assign [.Name x pos'] e pos) (uz i ff):=
 PS.imp (Ja hN hi hx he hs hf) fun E σ H z_=>by obtain⟨B,Z,F,τ,R,h⟩:=z_;exact⟨F,τ,R.rv,h.of.imp fun ds g p vs F1 H1 x hp r=>g _ F1 _ x.ff ((R.ext x).setO hp r)⟩
theorem RV.own_upd{K:Frag}{F H:Hp}{τ:DS}{σ:St}{i:Nat}{p:Addr}{ds es:List D}{ws:List V}(R:RV K F τ σ H)(h:τ[i]?=some (some (.own ds)))(hp:σ[i]?=some (some (.ref p)))(r:Reps K F es ws) :
  RV K F (τ.set i (some (.own es))) σ (upd H p (.lst ws)):=by
 obtain⟨a,vs,q1,q2,q3,q4⟩:=R.own i ds h
 rw[q1] at hp;cases hp
 have l:i<τ.length:=(List.getElem?_eq_some_iff.mp h).1
 refine⟨fun b o e=>?_,by simp[R.len],fun j e h'=>?_,fun j es' h'=>?_,fun j k e1 e2 b hjk h1 h2 h3 h4=>?_,?_,?_⟩
 ·have n:b≠p:=fun z=>by subst z;rw[q3] at e;cases e
  rw[zo n];exact R.fh b o e
 ·by_cases hij:i=j
  ·subst hij;rw[getElem?_set_self l] at h';cases h'
  ·rw[getElem?_set_ne hij] at h';exact R.val j e h'
 ·by_cases hij:i=j
  ·subst hij
   rw[getElem?_set_self l] at h';cases h'
   exact⟨p,ws,q1,zv,q3,r⟩
  ·rw[getElem?_set_ne hij] at h'
   obtain⟨a',vs',z1,z2,z3,z4⟩:=R.own j es' h'
   have n:a'≠p:=fun z=>by subst z;exact R.dis i j ds es' a' hij h h' q1 z1
   exact⟨a',vs',z1,by rw[zo n];exact z2,z3,z4⟩
 ·have:∀{m:Nat} {e:List D},(τ.set i (some (.own es)))[m]?=some (some (.own e))→∃e',τ[m]?=some (some (.own e')):=fun {m e} z=>by
   by_cases him:i=m
   ·subst him;exact⟨ds,h⟩
   ·rw[getElem?_set_ne him] at z;exact⟨e,z⟩
  obtain⟨x1,y1⟩:=this h1
  obtain⟨x2,y2⟩:=this h2
  exact R.dis j k x1 x2 b hjk y1 y2 h3 h4
 ·exact R.tt.step (fun _ _ e=>.inl e) (fun b o e n=>by
   have:b≠p:=fun z=>by subst z;rw[q2] at e;cases e;exact n _ rfl
   rw[zo this];exact e) (ZI fun _ z=>nomatch z)
 ·exact(R.ob.updL (.inr ⟨vs,q2⟩) fun j c a g1 g2 hl=>R.ob.lo j i c ds a p g1 h g2 q1 hl).putS h
theorem RS.own_upd{K:Frag}{B Z F H:Hp}{τ:DS}{σ:St}{i:Nat}{p:Addr}{ds es:List D}{ws:List V}(R:RS K B Z F τ σ H)(h:τ[i]?=some (some (.own ds)))(hp:σ[i]?=some (some (.ref p)))(r:Reps K F es ws) :
  RS K B Z F (τ.set i (some (.own es))) σ (upd H p (.lst ws)):=by
 have hb:=R.ob i ds p h hp
 refine⟨R.rv.own_upd h hp r,fun b o e=>?_,R.zf,R.nb,fun j e a h1 h2=>?_,fun j m c fs a h1 h2=>?_,fun a0 dx b1 b2 j m c fs h=>R.sf a0 dx b1 b2 j m c fs (yL (s:=some (.own es)) rfl rfl h).2,fun j c fs a h1 h2=>R.ro j c fs a (yL (s:=some (.own es)) rfl rfl h1).2 h2⟩
 ·have n:b≠p:=fun z=>by subst z;rw[hb] at e;cases e
  rw[zo n];exact R.bh b o e
 ·by_cases him:i=j
  ·subst him;exact R.ob i ds a h h2
  ·rw[getElem?_set_ne him] at h1;exact R.ob j e a h1 h2
 ·have h1:=(yL (s:=some (.own es)) rfl rfl h1).2
  obtain⟨p',vs,q1,q2,_⟩:=R.rv.own i ds h
  rw[q1] at hp;cases hp
  rw[R.rv.ob.lof (.inl ⟨m,fs,h1⟩) h2 (.inr ⟨vs,q2⟩)]
  exact R.oo j m c fs a h1 h2
noncomputable def ju(τ:DS)(i:Nat):Rs (List D):=match τ[i]? with
 | some (some (.own ds))=>.ok ds
 |_=>.no
theorem uR{τ:DS}{i:Nat}{P:List D→Prop}(h:Ok X (ju τ i) P):∃ds,τ[i]?=some (some (.own ds))∧P ds:=by
 unfold ju at h
 cases q:τ[i]? with
 |none=>rw[q] at h;exact h.elim
 |some o=>
  cases o with
  |none=>rw[q] at h;exact h.elim
  |some sl=>
   cases sl with
   |val d=>rw[q] at h;exact h.elim
   |obj n c fs=>rw[q] at h;exact h.elim
   |obr c fs=>rw[q] at h;exact h.elim
   |own ds=>rw[q] at h;exact⟨ds,rfl,h⟩
noncomputable def VM(i:Nat)(fe:FE):FS:=fun τ=>Fl.of (ju τ i) fun ds=>Fl.of (fe τ) fun d=>if ds.length<sizeLine then .nx (τ.set i (some (.own (ds++[d])))) else .no
theorem Qh{i:Nat}{x:Str}{p1 apos cpos:Pos}(hx:PE X (.Name x p1) (uc i))(he:PDE X e fe)
  (hfew:((backTo cpos (starEach [e] X.env)).all (fun x=>!x.1)&&(backToKw cpos (keywordEach [] X.env)).all (fun x=>x.1.isSome)
   && decide ([e].length+([]:List Keyword).length+(if ([]:List Keyword).isEmpty then 0 else 1)<30))=true:=by rfl)
  (hline:(apos.endLine==cpos.line)=true:=by rfl) (hs:starEach [e] X.env=[(false,eval e X.env)]:=by rfl) (hplain:(backTo cpos (starEach [] X.env)).any (·.1)=false:=by rfl)
  (hbase:attributeBase (.Name x p1) "append" X.env (eval (.Name x p1) X.env)=eval (.Name x p1) X.env:=by rfl)
  (hsw:swapsWith (.Call (.Attribute (.Name x p1) "append" apos) [e] [] cpos) none pos.line X.env=pure false:=by rfl) :
  PDS X (.Expr (.Call (.Attribute (.Name x p1) "append" apos) [e] [] cpos) pos) (VM i fe):=
 PS.imp (WZ (M5 PySem.F.plainAttrs_list PySem.F.slot_list_append PySem.F.type_list_append jk hx (vN he jE (by rw[hs];rfl)) hbase hfew hline (by rw[hs];rfl) hplain) hsw) fun E σ H z_=>by
  obtain⟨B,Z,F,τ,R,h⟩:=z_
  obtain⟨ds,h1,h2⟩:=uR (X:=X) (Post.of h)
  obtain⟨a,vs,q1,q2,q3,q4⟩:=R.rv.own i ds h1
  refine⟨_,q1,.inl ⟨rfl,vs,SqL.of q2⟩,?_⟩
  refine tE.at R h2.of fun d v F1 H1 g x R1 r=>?_
  by_cases z:ds.length<sizeLine
  ·rw[if_pos z] at g
   refine⟨a,vs,v,rfl,rfl,x.hh _ _ q2,by rw[← q4.length];exact z,?_⟩
   exact g _ F1 _ x.ff (R1.own_upd h1 q1 ((q4.mono x.ff).append (Reps.cons r Reps.nil)))
  ·rw[if_neg z] at g;exact g.elim
noncomputable def Q9(i:Nat)(fi fe:FE):FS:=fun τ=>Fl.of (fe τ) fun d=>Fl.of (ju τ i) fun ds=>Fl.of (fi τ) fun k=>match k with
 |.int k=>match ixN ds.length k with
  |some j=>.nx (τ.set i (some (.own (ds.set j d))))
  |none=>.no
 |_=>.no
theorem zd1{i:Nat}{x:Str}{p1 spos:Pos}{ix:Expr}{fi:FE}(hx:PE X (.Name x p1) (uc i))(hi:PDE X ix fi)(he:PDE X e fe)
  (ha:∀v,assign (.Subscript (.Name x p1) ix spos) X.env v=(do
   let ov ← holding [v] (eval (.Name x p1) X.env)
   let iv ← holding [v,ov] (eval ix X.env)
   standAt spos
   holding [v,ov,iv] (setItem ov iv v)
   release [v,ov,iv] []):=by intro _;rfl)
  (hs:swapsWithSole [.Subscript (.Name x p1) ix spos] e pos.line X.env=pure false:=by rfl) (hw:swappedStores [.Subscript (.Name x p1) ix spos] e X.env=pure none:=by rfl)
  (h1:(assignEach [.Subscript (.Name x p1) ix spos] X.env).map (·.2)=[assign (.Subscript (.Name x p1) ix spos) X.env]:=by rfl) :
  PDS X (.Assign [.Subscript (.Name x p1) ix spos] e pos) (Q9 i fi fe):=
 PS.imp (zp0 he (zp3 hx hi MG ha) hs hw h1) fun E σ H z_=>by
  obtain⟨B,Z,F,τ,R,h⟩:=z_
  refine tE.at R h.of fun d v F1 H1 g x R1 r=>?_
  obtain⟨ds,h1,h2⟩:=uR (X:=X) (Post.of g)
  obtain⟨a,vs,q1,q2,q3,q4⟩:=R1.rv.own i ds h1
  refine⟨_,q1,?_⟩
  refine tE.at R1 h2.of fun k w F2 H2 g2 x2 R2 r2=>?_
  cases k with
  |int k=>
   simp only[Rep] at r2
   simp only at g2
   cases q:ixN ds.length k with
   |none=>rw[q] at g2;exact g2.elim
   |some j=>
    rw[q] at g2
    refine⟨a,vs,k,j,rfl,r2,x2.hh _ _ q2,by rw[← q4.length];exact q,?_⟩
    exact g2 _ F2 _ (x.ff.trans x2.ff) (R2.own_upd h1 q1 (Reps.set (r.mono x2.ff) j (q4.mono x2.ff)))
  |_=>exact g2.elim
noncomputable def uM(i:Nat):FS:=fun τ=>Fl.of (ju τ i) fun ds=>.rt (.lst ds)
theorem Y4{i:Nat}{x:Str}{p1:Pos}(hx:PE X (.Name x p1) (uc i)):PDS X (.Return (some (.Name x p1)) pos) (uM i):=
 PS.imp (WY hx) fun E σ H z_=>by
  obtain⟨B,Z,F,τ,R,h⟩:=z_
  obtain⟨ds,h1,h2⟩:=uR (X:=X) (Post.of h)
  obtain⟨a,vs,q1,q2,q3,q4⟩:=R.rv.own i ds h1
  have hb:=R.ob i ds a h1 q1
  refine⟨_,q1,h2 (.ref a) (upd F a (.lst vs)) H ⟨?_,R.bh,fun b o e=>?_,fun b o e=>?_,fun _=>R.rv.tt.freeze q2⟩ ?_⟩
  ·exact R.zf.trans (yi q3)
  ·by_cases z:b=a
   ·subst z;rw[zv] at e;cases e;exact q2
   ·rw[zo z] at e;exact R.rv.fh b o e
  ·by_cases z:b=a
   ·subst z;exact .inr hb
   ·rw[zo z] at e;exact R.nb b o e
  ·simp only[Rep]
   exact⟨a,vs,rfl,zv,q4.mono (yi q3)⟩
noncomputable def G6(i:Nat)(fi:FE):FE:=fun τ=>(ju τ i).bind fun ds=>(fi τ).bind fun k=>match k with
 |.int k=>match atI ds k with
  |some d=>.ok d
  |none=>.no
 |_=>.no
theorem XS{K:Frag}{F:Hp}{ds:List D}{vs:List V}{k:Int}{d:D}(r:Reps K F ds vs)(h:atI ds k=some d):∃v,atI vs k=some v∧Rep K F d v:=by
 unfold atI at h ⊢
 rw[← r.length]
 cases q:ixN ds.length k with
 |none=>rw[q] at h;cases h
 |some j=>
  rw[q] at h
  exact r.get h
theorem zd3{i:Nat}{x:Str}{p1:Pos}{ix:Expr}{fi:FE}(hx:PE X (.Name x p1) (uc i))(hi:PDE X ix fi)(hs:Vv ix:=by intro _ _;rfl):PDE X (.Subscript (.Name x p1) ix pos) (G6 i fi):=
 PE.imp (zl7 ix_list hx hi hs) fun σ H Q z_=>by
  obtain⟨F,τ,R,h⟩:=z_
  obtain⟨ds,h1,h2⟩:=uR (X:=X) (Ok.bind h)
  obtain⟨a,vs,q1,q2,q3,q4⟩:=R.own i ds h1
  refine⟨_,q1,?_⟩
  refine tE.of R h2.bind fun k w F2 H2 g2 x2 R2 r2=>?_
  cases k with
  |int k=>
   simp only[Rep] at r2
   simp only at g2
   cases q:atI ds k with
   |none=>rw[q] at g2;exact g2.elim
   |some d=>
    rw[q] at g2
    obtain⟨v,z1,z2⟩:=XS q4 q
    exact⟨a,vs,k,v,rfl,r2,SqL.of (x2.hh _ _ q2),z1,g2 v F2 H2 x2 (z2.mono x2.ff)⟩
  |_=>exact g2.elim
noncomputable def UH(i:Nat):FE:=fun τ=>(ju τ i).bind fun ds=>.ok (.int ds.length)
theorem Ta{i:Nat}{x:Str}{p1 p:Pos}(hx:PE X (.Name x p1) (uc i))(hg:Gl X "len")(hm:X.mg "len" = none)
  (he:starEach [.Name x p1] X.env=[(false,eval (.Name x p1) X.env)]:=by rfl) (hpl:(backTo pos (starEach [] X.env)).any (·.1)=false:=by rfl):PDE X (.Call (.Name "len" p) [.Name x p1] [] pos) (UH i):=
 PE.imp (pe_callB call_len_seq hg hm PySem.boot_len (vN hx jE (by rw[he];rfl)) (he:=by rw[he];rfl) (hpl:=hpl)) fun σ H Q z_=>by
  obtain⟨F,τ,R,h⟩:=z_
  obtain⟨ds,h1,h2⟩:=uR (X:=X) (Ok.bind h)
  obtain⟨a,vs,q1,q2,q3,q4⟩:=R.own i ds h1
  refine⟨_,q1,a,vs,rfl,.inl (SqL.of q2),?_⟩
  rw[← q4.length]
  exact h2 (.int ds.length) F H (Ext.refl R.fh) (by simp only[Rep])
end
noncomputable def JN(K:Frag)(J:It)(F1:Hp)(ds:List D):Prop:=∀(i:Nat) (F H:Hp),Same F1 F→Same F H →
 (ds.length≤i→J.stop i H)∧∀d,ds[i]?=some d→J.go i H∧∀x H',J.yld i H x H'→∃F',Ext F H F' H'∧Rep K F' d x
noncomputable def tI(X:Cx)(f:FA):TI:=fun σ H R=>∃F τ,RV X.K F τ σ H∧Ok X (f τ) fun ds=>∀J F1 H1,Ext F H F1 H1→JN X.K J F1 ds→R J H1
noncomputable def PDI(X:Cx)(tg iter:Expr)(f:FA):Prop:=PI X tg iter (tI X f)
theorem _root_.L2.PI.imp{X:Cx}{tg e:Expr}{t t':TI}(h:PI X tg e t)(f:∀σ H Q,t' σ H Q→t σ H Q):PI X tg e t':=fun pins s σ H Q I q=>h pins s σ H Q I (f _ _ _ q)
section
variable{X:Cx}{pos:Pos}{e tg:Expr}{es:List Expr}{fe:FE}{fs:FA}
theorem QA{K:Frag}{a:Addr}{F1:Hp}{ds:List D}{vs:List V}(e:SqL K F1 a vs)(r:Reps K F1 ds vs):JN K (Itl K a) F1 ds:=fun i F H f1 f2=>by
 have q:SqL K H a vs:=(f1.trans f2).seq e
 refine⟨fun h=>⟨vs,q,by rw[← r.length];exact h⟩,fun d hd=>?_⟩
 obtain⟨v,h1,h2⟩:=r.get hd
 refine⟨⟨vs,v,q,h1⟩,fun x H' y=>?_⟩
 obtain⟨e1,y⟩:=y
 subst e1
 have h3:=y vs q
 rw[h1] at h3;cases h3
 exact⟨F,Ext.refl f2,h2.mono f1⟩
theorem zt1{K:Frag}{a:Addr}{F1:Hp}{ds:List D}{vs:List V}(e:SqT K F1 a vs)(r:Reps K F1 ds vs):JN K (Itt K a) F1 ds:=fun i F H f1 f2=>by
 have q:SqT K H a vs:=Same.seqT (f1.trans f2) e
 refine⟨fun h=>⟨vs,q,by rw[← r.length];exact h⟩,fun d hd=>?_⟩
 obtain⟨v,h1,h2⟩:=r.get hd
 refine⟨⟨vs,v,q,h1⟩,fun x H' y=>?_⟩
 obtain⟨e1,y⟩:=y
 subst e1
 have h3:=y vs q
 rw[h1] at h3;cases h3
 exact⟨F,Ext.refl f2,h2.mono f1⟩
noncomputable def uN(lo:Int)(n:Nat):List D:=(List.range n).map fun (k:Nat)=>D.int (lo+k)
theorem T5{K:Frag}{F1:Hp}{lo:Int}{n:Nat}:JN K (Itr lo n) F1 (uN lo n):=fun i F H f1 f2=>by
 have hl:(uN lo n).length=n:=by simp[uN]
 refine⟨fun h=>by rw[hl] at h;exact h,fun d hd=>?_⟩
 have hi:i<n:=by have:=(List.getElem?_eq_some_iff.mp hd).1;rw[hl] at this;exact this
 refine⟨hi,fun x H' y=>?_⟩
 obtain⟨e1,y⟩:=y
 subst e1
 refine⟨F,Ext.refl f2,?_⟩
 simp[uN,hi] at hd
 subst hd
 simp only[Rep];exact y
noncomputable def Jt:List D→Option Int
 |[.int j]=>some j
 |_=>none
noncomputable def X6:List D→Option (Int×Int)
 |[.int i,.int j]=>some (i,j)
 |_=>none
noncomputable def Y7:D→Option (D×D)
 |.tup [x,y]=>some (x,y)
 |_=>none
theorem QC{ds:List D}{j:Int}(h:Jt ds=some j):ds=[.int j]:=by
 unfold Jt at h;split at h <;> cases h;rfl
theorem Vi{ds:List D}{i j:Int}(h:X6 ds=some (i,j)):ds=[.int i,.int j]:=by
 unfold X6 at h;split at h <;> cases h;rfl
theorem Te{d x y:D}(h:Y7 d=some (x,y)):d=.tup [x,y]:=by
 unfold Y7 at h;split at h <;> cases h;rfl
noncomputable def vJ(fs:FA):FA:=fun τ=>(fs τ).bind fun ds=>match Jt ds with
 |some j=>if -(2 ^ 62)≤j∧j<2 ^ 62 then .ok (uN 0 j.toNat) else .no
 |none=>.no
theorem wP{a:Expr}{p:Pos}(hg:Gl X "range")(hm:X.mg "range" = none)(ha:PDA X [a] fs)(hs:starEach [a] X.env=[(false,eval a X.env)]:=by rfl):PDI X tg (.Call (.Name "range" p) [a] [] pos) (vJ fs):=
 PI.imp (Ge hg hm ha hs) fun σ H R z_=>by
  obtain⟨F,τ,Rv,h⟩:=z_
  refine tAs.of Rv h.bind fun ds vs F1 H1 g x R1 r=>?_
  cases q1:Jt ds with
  |none=>rw[q1] at g;exact g.elim
  |some j=>
   rw[q1] at g
   have e:=QC q1
   subst e
   obtain⟨v,rfl,q⟩:=r.one
   simp only[Rep] at q;subst q
   obtain⟨z,g⟩:=yz g
   exact⟨j,rfl,z.1,z.2,g _ F1 H1 x T5⟩
noncomputable def Lb(fs:FA):FA:=fun τ=>(fs τ).bind fun ds=>match X6 ds with
 | some (i,j)=>if (-(2 ^ 62)≤i∧i<2 ^ 62)∧-(2 ^ 62)≤j∧j<2 ^ 62 then .ok (uN i (j-i).toNat) else .no
 |none=>.no
theorem Je{a b:Expr}{p:Pos}(hg:Gl X "range")(hm:X.mg "range" = none)(ha:PDA X [a,b] fs)(hs:starEach [a,b] X.env=[(false,eval a X.env),(false,eval b X.env)]:=by rfl)(hs2:starEach [b] X.env=[(false,eval b X.env)]:=by rfl) :
  PDI X tg (.Call (.Name "range" p) [a,b] [] pos) (Lb fs):=
 PI.imp (Gd hg hm ha hs hs2) fun σ H R z_=>by
  obtain⟨F,τ,Rv,h⟩:=z_
  refine tAs.of Rv h.bind fun ds vs F1 H1 g x R1 r=>?_
  cases q1:X6 ds with
  |none=>rw[q1] at g;exact g.elim
  |some ij=>
   obtain⟨i,j⟩:=ij
   rw[q1] at g
   have e:=Vi q1
   subst e
   obtain⟨v,w,rfl,q,q'⟩:=r.two
   simp only[Rep] at q q';subst q;subst q'
   obtain⟨z,g⟩:=yz g
   exact⟨i,j,rfl,⟨z.1.1,z.1.2,z.2.1,z.2.2⟩,g _ F1 H1 x T5⟩
noncomputable abbrev FG:=D→DS→Rs DS
noncomputable def tG(X:Cx)(set:FG):TG:=fun v σ H Q=>∃F τ d,RV X.K F τ σ H∧Rep X.K F d v∧Ok X (set d τ) fun τ'=>∀σ',RV X.K F τ' σ' H→(∀B Z,RS X.K B Z F τ σ H→RS X.K B Z F τ' σ' H)→σ'.length=σ.length→Q σ' H
noncomputable def PDG(X:Cx)(tg:Expr)(set:FG):Prop:=PG X tg (tG X set)
theorem _root_.L2.PG.imp{X:Cx}{e:Expr}{t t':TG}(h:PG X e t)(f:∀v σ H Q,t' v σ H Q→t v σ H Q):PG X e t':=fun pins s σ H v u Q I r q=>h pins s σ H v u Q I r (f _ _ _ _ q)
noncomputable def gNm(i:Nat):FG:=fun d τ=>.ok (τ.set i (some (.val d)))
theorem yr{i:Nat}{x:Str}(hN:X.N.Nodup)(hi:X.N[i]?=some x)(hx:Loc X.env.scope x)(hf:X.fn x=true∨X.env.scope.names.lookup x=some .local:=by first|exact .inl rfl|exact .inr rfl|assumption):PDG X (.Name x pos) (gNm i):=
 PG.imp (vL hN hi hx hf) fun v σ H Q z_=>by obtain⟨F,τ,d,R,r,h⟩:=z_;exact h _ (R.set r) (fun B Z R'=>R'.set r) (by simp)
noncomputable def gPr(i j:Nat):FG:=fun d τ=>match Y7 d with
 | some (x,y)=>.ok ((τ.set i (some (.val x))).set j (some (.val y)))
 |none=>.no
theorem uP{i j k:Nat}{x y:Str}{px py:Pos}(hc:X.calm=true)(hN:X.N.Nodup)(hi:X.N[i]?=some x)(hx:Loc X.env.scope x)(hj:X.N[j]?=some y)(hy:Loc X.env.scope y)
  (hf:X.fn x=true∨X.env.scope.names.lookup x=some .local:=by first|exact .inl rfl|exact .inr rfl|assumption) (hf':X.fn y=true∨X.env.scope.names.lookup y=some .local:=by first|exact .inl rfl|exact .inr rfl|assumption) :
  PDG X (.Tuple [.Name x px,.Name y py] k pos) (gPr i j):=
 PG.imp (MZ (n:=2) hc (uO (vL hN hi hx hf) (uO (vL hN hj hy hf') Qb))) fun v σ H Q z_=>by
  obtain⟨F,τ,d,R,r,h⟩:=z_
  unfold gPr at h
  cases q1:Y7 d with
  |none=>rw[q1] at h;exact h.elim
  |some xy=>
   obtain⟨x,y⟩:=xy
   rw[q1] at h
   have e:=Te q1
   subst e
   simp only[Rep] at r
   obtain⟨a,vs,rfl,q,t⟩:=r
   obtain⟨v1,v2,rfl,r1,r2⟩:=t.two
   exact⟨a,_,rfl,Same.seqT R.fh q,rfl,v1,[v2],rfl,v2,[],rfl,rfl,h _ ((R.set r1).set r2) (fun B Z R'=>(R'.set r1).set r2) (by simp)⟩
noncomputable def ye(set:FG)(body:FS):List D→DS→Fl
 |[],τ=>.nx τ
 |d::r,τ=>Fl.of (set d τ) fun τ1=>match body τ1 with
  |.nx τ'=>ye set body r τ'
  |.ct τ'=>ye set body r τ'
  |.bk τ'=>.nx τ'
  |.rt d=>.rt d
  |.ro d τ'=>.ro d τ'
  |.rb d τ'=>.rb d τ'
  |.ex c=>.ex c
  |.no=>.no
  |.rs c τ'=>.rs c τ'
noncomputable def wk(fi:FA)(set:FG)(body:FS):FS:=fun τ=>Fl.of (fi τ) fun ds=>ye set body ds τ
theorem wq{iter:Expr}{body:List Stmt}{fi:FA}{set:FG}{fb:FS}(hp:PassesOwn (model X.prog X.w) X.A X.env X.xe)(hc:X.calm=true)(hi:PDI X tg iter fi)(hg:PDG X tg set)(hb:ja X body fb)
  (hs:∀x,foldedSetIterable iter X.env x=pure x:=by intro _;rfl):PDS X (.For tg iter body [] pos) (wk fi set fb):=
 PS.imp (MW hp hc hi hg hb hs) fun E σ H z_=>by
  obtain⟨B,Z,F,τ,R,h⟩:=z_
  refine⟨F,τ,R.rv,h.of.imp fun ds g J F1 H1 x io=>?_⟩
  refine⟨fun i m σ H=>m=ds.length-i∧i≤ds.length∧∃F' τ',Same F1 F'∧RS X.K B Z F' τ' σ H∧Post X B Z F' E (ye set fb (ds.drop i) τ'),⟨ds.length,by simp,zero_le _,F1,τ,Same.refl _,R.ext x,g.same x.ff⟩,?_⟩
  rintro i m σ2 H2 ⟨rfl,hi,F2,τ2,f2,R2,p2⟩
  obtain⟨i1,i2⟩:=io i F2 H2 f2 R2.rv.fh
  by_cases hlt:i<ds.length
  ·have hd:ds.drop i=ds[i]::ds.drop (i+1):=List.drop_eq_getElem_cons hlt
   rw[hd] at p2
   obtain⟨go,yl⟩:=i2 ds[i] (by simp[hlt])
   refine .inr ⟨go,fun σ' H'=>∃F' τ',Same F2 F'∧RS X.K B Z F' τ' σ' H'∧Post X B Z F' E (ye set fb (ds.drop (i+1)) τ'),fun σ' H' ⟨F',τ',a,b,c⟩=>⟨ds.length-(i+1),by lia,rfl,hlt,F',τ',f2.trans a,b,c⟩,fun y H' yy=>?_⟩
   obtain⟨F3,x3,r3⟩:=yl y H' yy
   have R3:=R2.ext x3
   refine⟨F3,τ2,ds[i],R3.rv,r3,(Post.of p2).imp fun τ4 p4 σ4 _ R4 _=>⟨B,Z,F3,τ4,R4 B Z R3,?_⟩⟩
   cases q:fb τ4 with
   |nx τ5=>rw[q] at p4;exact fun σ' F' H' ff RR=>⟨F',τ5,x3.ff.trans ff,RR,Post.same p4 (x3.ff.trans ff)⟩
   |ct τ5=>rw[q] at p4;exact fun σ' F' H' ff RR=>⟨F',τ5,x3.ff.trans ff,RR,Post.same p4 (x3.ff.trans ff)⟩
   |bk τ5=>rw[q] at p4;exact fun σ' F' H' ff RR=>p4 σ' F' H' (x3.ff.trans ff) RR
   |rt d=>rw[q] at p4;exact p4
   |ro d τ'=>rw[q] at p4;exact fun v σ' F' H' ff RR rr=>p4 v σ' F' H' (x3.ff.trans ff) RR rr
   |rb d τ'=>rw[q] at p4;exact fun v σ' F' H' ff RR rr=>p4 v σ' F' H' (x3.ff.trans ff) RR rr
   |ex c=>rw[q] at p4;exact p4
   |no=>rw[q] at p4;exact p4
   |rs c τ5=>rw[q] at p4;exact fun σ' F' H' ff RR=>p4 σ' F' H' (x3.ff.trans ff) RR
  ·have e:i=ds.length:=by lia
   subst e
   rw[List.drop_length] at p2
   exact .inl ⟨i1 (le_refl _),p2 σ2 F2 H2 (Same.refl _) R2⟩
end
noncomputable def ze6(r:Rs D):Rs D:=match r with
 |.ok d=>.ok d
 |_=>.no
noncomputable def spD(K:Frag)(n:Nat)(g:List D→Rs D):Sp:=fun vs H Q E=>vs.length=n∧∃ds F,Same F H∧TbT F H∧Reps K F ds vs∧match g ds with
 |.ok d=>Ev K F H Q d
 |_=>False
noncomputable def zQ(N:Nat)(ds:List D):DS:=ds.map (fun d=>some (.val d))++List.replicate (N-ds.length) none
noncomputable def uD:Fl→Rs D
 |.rt d=>.ok d
 |.ro d _=>.ok d
 |.nx _=>.ok .non
 |.rs c _=>.ex c
 |_=>.no
noncomputable def yC(N:Nat)(fb:FS)(ds:List D):Rs D:=uD (fb (zQ N ds))
theorem YZ{K:Frag}{F H:Hp}{N:List Str}{ds:List D}{vs:List V}(fh:Same F H)(tt:TbT F H)(r:Reps K F ds vs):RS K H F F (zQ N.length ds) (L2.start N vs) H:=by
 have hl:=r.length
 have hval:∀(i:Nat) (o:Sl),(zQ N.length ds)[i]?=some (some o)→∃d,ds[i]?=some d∧o=.val d:=fun i o h=>by
  unfold zQ at h
  by_cases hi:i<ds.length
  ·rw[getElem?_append_left (by simpa using hi),getElem?_map] at h
   cases e:ds[i]? with
   |none=>rw[e] at h;cases h
   |some d=>rw[e] at h;cases h;exact⟨d,rfl,rfl⟩
  ·rw[getElem?_append_right (by simpa using hi),getElem?_replicate] at h
   split at h <;> cases h
 refine⟨⟨fh,?_,fun i d h=>?_,fun i es h=>?_,fun i j es es' a _ h1 _ _ _=>?_,tt,ObsOk.none fun i s h=>?_⟩,Hh.refl H,Same.refl F,fun a o e=>.inl e,fun i es a h1 _=>?_,fun i m c fs a h1 _=>?_,fun a0 dx _ _ j m c fs h1=>?_,fun j c fs a h1 _=>?_⟩
 ·simp[zQ,L2.start,hl]
 ·obtain⟨d',h1,h2⟩:=hval i _ h
  cases h2
  obtain⟨v,q1,q2⟩:=r.get h1
  refine⟨v,?_,q2⟩
  have hi:i<vs.length:=(List.getElem?_eq_some_iff.mp q1).1
  unfold L2.start
  rw[getElem?_append_left (by simpa using hi),getElem?_map,q1];rfl
 ·obtain⟨_,_,h2⟩:=hval i _ h;cases h2
 ·obtain⟨_,_,h2⟩:=hval i _ h1;cases h2
 ·cases s with
  |none=>rfl
  |some o=>obtain⟨_,_,h2⟩:=hval i _ h;rw[h2];rfl
 ·obtain⟨_,_,h2⟩:=hval i _ h1;cases h2
 ·obtain⟨_,_,h2⟩:=hval i _ h1;cases h2
 ·obtain⟨_,_,h2⟩:=hval j _ h1;cases h2
 ·obtain⟨_,_,h2⟩:=hval j _ h1;cases h2
section
variable{P:Program}{w:World}{K:Frag}{mg:Str→Option Value}{base:Heap}
theorem fnD{x qual:Str}{st:Stmt}{f:Addr}{fd:FuncData}{N ps:List Str}{k n:Nat}{fb:FS}(F:Fun K x qual st f fd)(S:zO N ps (zk st))(hn:ps.length=n)
  (hbody:∀(cdv:Value) (A:Around) (outer:List Env) (s:Shared) (H:Hp) (E:XK),Room k (A.deeper (envOfC qual (zk st) s.heap.objs.size f cdv)) →
   ja (Ys CX0 P w K mg base N qual (zk st) f cdv A outer s H E).nox (zC st) fb):FnOk P w K mg base CX0 (k+1) f fd ps (spD K n (yC N.length fb)):=by
 refine F.ok S (fun vs H Q E h=>by rw[hn];exact h.1) fun cdv A outer s H vs Q E hr h=>⟨_,hbody cdv A outer s H E hr,?_⟩
 obtain⟨hl,ds,Fz,fh,tt,r,h⟩:=h
 refine⟨H,Fz,Fz,zQ N.length ds,YZ fh tt r,?_⟩
 unfold yC at h
 cases q:fb (zQ N.length ds) with
 |nx τ=>rw[q] at h;exact fun σ F' H' ff RR=>h .non F' H' RR.out (by simp only[Rep])
 |rt d=>rw[q] at h;exact fun v F' H' x rr=>h v F' H' x rr
 |ro d τ=>rw[q] at h;exact fun v σ F' H' ff RR rr=>h v F' H' RR.out rr
 |rb d τ=>rw[q] at h;exact h.elim
 |bk τ=>rw[q] at h;exact h.elim
 |ct τ=>rw[q] at h;exact h.elim
 |ex c=>rw[q] at h;exact h.elim
 |no=>rw[q] at h;exact h.elim
 |rs c τ=>rw[q] at h;exact h.elim
theorem FnD.to{CX:CXT}{f:Addr}{fd:FuncData}{ps:List Str}{k n:Nat}{g g':List D→Rs D}(F:FnOk P w K mg base CX k f fd ps (spD K n g))(h:∀ds d,ds.length=n→g' ds=.ok d→g ds=.ok d):FnOk P w K mg base CX k f fd ps (spD K n g'):=
 F.imp fun vs H Q E ⟨hl,ds,Fz,fh,tt,r,q⟩=>⟨hl,ds,Fz,fh,tt,r,by
  cases e:g' ds with
  |ok d=>rw[e] at q;rw[h ds d (by rw[r.length];exact hl) e];exact q
  |ex c=>rw[e] at q;exact q.elim
  |no=>rw[e] at q;exact q.elim⟩
end
section
variable{X:Cx}{pos:Pos}{e tg:Expr}{es:List Expr}{fe:FE}{fs:FA}
noncomputable def zp(g:List D→Rs D)(fs:FA):FE:=fun τ=>(fs τ).bind fun ds=>ze6 (g ds)
theorem Td{k n:Nat}{f:Addr}{fd:FuncData}{ps:List Str}{g:List D→Rs D}{x:Str}{p:Pos}(F:FnOk X.prog X.w X.K X.mg X.base CX0 k f fd ps (spD X.K n g))(hr:Room k X.A)(hg:Gl X x)(hm:X.mg x=some (.ref f))(hk:keepIn X.K (.ref f)=true)(hb:Binds X.K fd ps [])
  (ha:PDA X (e::es) fs) (hn:(e::es).length=n) (hfs:∀τ ds,fs τ=.ok ds→ds.length=(e::es).length) (hdb:(x==("__debug__" : Str))=false:=by decide) (he:starEach (e::es) X.env=(false,eval e X.env)::starEach es X.env:=by rfl) (hpl:(backTo pos (starEach es X.env)).any (·.1)=false:=by rfl) :
  PDE X (.Call (.Name x p) (e::es) [] pos) (zp g fs):=
 PE.imp (zd0 F hr hg hm hk hb .nil (E:=E0) pass0 ha hdb he hpl) fun σ H Q z_=>by
  obtain⟨Fz,τ,R,h⟩:=z_
  have hb:=h.bind
  refine⟨Fz,τ,R,?_⟩
  cases q:fs τ with
  |no=>rw[q] at hb;exact hb
  |ex c=>rw[q] at hb;exact hb
  |ok ds=>
   rw[q] at hb
   intro vs F1 H1 x r
   rw[append_nil]
   refine⟨by rw[← r.length,hfs τ ds q,hn],ds,F1,x.fh,x.tt R.tt,r,?_⟩
   have hb:Ok X (ze6 (g ds)) (Ev X.K Fz H Q):=hb
   cases z:g ds with
   |ok d=>rw[z] at hb;exact Ev.ext hb x
   |ex c=>rw[z] at hb;exact hb.elim
   |no=>rw[z] at hb;exact hb.elim
theorem zu(τ:DS)(ds:List D)(h:zh τ=.ok ds):ds.length=0:=by cases h;rfl
theorem ze{f:FE}{g:FA}{n:Nat}(hg:∀τ ds,g τ=.ok ds→ds.length=n)(τ:DS)(ds:List D)(h:za f g τ=.ok ds):ds.length=n+1:=by
 unfold za at h
 cases q:f τ with
 |no=>rw[q] at h;cases h
 |ex c=>rw[q] at h;cases h
 |ok d=>
  rw[q] at h
  cases q2:g τ with
  |no=>rw[q2] at h;cases h
  |ex c=>rw[q2] at h;cases h
  |ok r=>rw[q2] at h;cases h;simp[hg τ r q2]
noncomputable def Zw(X:Cx)(f:Value)(g:List D→Rs D):Prop:=∃r,CallR X f r∧∀F H vs ds Q,Same F H→Reps X.K F ds vs→Ok X (g ds) (Ev X.K F H Q)→r vs H Q
noncomputable def yb(g:List D→Rs D)(fs:FA):FE:=fun τ=>(fs τ).bind g
theorem zU{id:String}{x:Str}{p:Pos}{g:List D→Rs D}(hc:Zw X (.builtin id) g)(hg:Gl X x)(hm:X.mg x=none)(hv:bootBuiltins x=some (.builtin id))(ha:PDA X (e::es) fs)(hn:x ≠ "__name__" := by decide)(hdb:(x==("__debug__" : Str))=false:=by decide)
  (he:starEach (e::es) X.env=(false,eval e X.env)::starEach es X.env:=by rfl) (hpl:(backTo pos (starEach es X.env)).any (·.1)=false:=by rfl):PDE X (.Call (.Name x p) (e::es) [] pos) (yb g fs):=by
 obtain⟨r,h1,h2⟩:=hc
 exact PE.imp (L2.pe_callB h1 hg hm hv ha hn hdb he hpl) fun σ H Q z_=>by obtain⟨Fz,τ,R,h⟩:=z_;exact tAs.of R h.bind fun ds vs F1 H1 q x R1 rr=>h2 F1 H1 vs ds Q R1.fh rr (q.imp fun d e=>e.ext x)
theorem Y6{id:String}{x:Str}{p:Pos}{g:List D→Rs D}(hc:Zw X (.type id) g)(hg:Gl X x)(hm:X.mg x=none)(hv:bootBuiltins x=some (.type id))(ha:PDA X (e::es) fs)(hn:x ≠ "__name__" := by decide)(hdb:(x==("__debug__" : Str))=false:=by decide)
  (he:starEach (e::es) X.env=(false,eval e X.env)::starEach es X.env:=by rfl) (hpl:(backTo pos (starEach es X.env)).any (·.1)=false:=by rfl):PDE X (.Call (.Name x p) (e::es) [] pos) (yb g fs):=by
 obtain⟨r,h1,h2⟩:=hc
 exact PE.imp (L2.pe_callTy h1 hg hm hv ha hn hdb he hpl) fun σ H Q z_=>by obtain⟨Fz,τ,R,h⟩:=z_;exact tAs.of R h.bind fun ds vs F1 H1 q x R1 rr=>h2 F1 H1 vs ds Q R1.fh rr (q.imp fun d e=>e.ext x)
noncomputable def IxD(X:Cx)(op:D→D→Rs D):Prop:=∃r:R2,IxR X r∧∀F H x y dx dy Q,Same F H→Rep X.K F dx x→Rep X.K F dy y→Ok X (op dx dy) (Ev X.K F H Q)→r x y H Q
theorem zK{a b:Expr}{fa fb:FE}{op:D→D→Rs D}(hr:IxD X op)(ha:PDE X a fa)(hb:PDE X b fb)(hs:Vv b:=by intro _ _;rfl):PDE X (.Subscript a b pos) (eOp op fa fb):=by
 obtain⟨r,h1,h2⟩:=hr
 exact PE.imp (zl7 h1 ha hb hs) (Qm h2)
noncomputable def ixD:D→D→Rs D
 |.lst ds,.int k=>match atI ds k with
  |some d=>.ok d
  |none=>.no
 |.tup ds,.int k=>match atI ds k with
  |some d=>.ok d
  |none=>.no
 |.scr ns,.int k=>match atI ns k with
  |some d=>.ok (.int d)
  |none=>.no
 |.str x,.int k=>match atI x.cps.toList k with
  |some c=>if x.length≤sizeLine then .ok (.str ⟨#[c]⟩) else .no
  |none=>.no
 |_,_=>.no
theorem zk6{α β:Type}{f:α→β}{xs:List α}{k:Int}{a:α}(h:atI xs k=some a):atI (xs.map f) k=some (f a):=by
 unfold atI at h ⊢
 rw[length_map]
 cases q:ixN xs.length k with
 |none=>rw[q] at h;cases h
 |some j=>
  rw[q] at h
  have h:xs[j]?=some a:=h
  show(xs.map f)[j]?=_
  rw[getElem?_map,h];rfl
theorem z8:IxD X ixD:=⟨_,zs9,fun F H x y dx dy Q fh r1 r2 h=>by
 cases dx with
 |lst ds=>
  cases dy with
  |int k=>
   simp only[Rep] at r1 r2;obtain⟨a,vs,rfl,q,t⟩:=r1;subst r2
   (delta ixD at h;dsimp only at h)
   cases z:atI ds k with
   |none=>rw[z] at h;exact h.elim
   |some d=>
    rw[z] at h
    obtain⟨v,z1,z2⟩:=XS t z
    exact .inl ⟨a,vs,k,v,rfl,rfl,SqL.of (fh _ _ q),z1,h v F H (Ext.refl fh) z2⟩
  |_=>exact h.elim
 |tup ds=>
  cases dy with
  |int k=>
   simp only[Rep] at r1 r2;obtain⟨a,vs,rfl,q,t⟩:=r1;subst r2
   (delta ixD at h;dsimp only at h)
   cases z:atI ds k with
   |none=>rw[z] at h;exact h.elim
   |some d=>
    rw[z] at h
    obtain⟨v,z1,z2⟩:=XS t z
    exact .inr (.inl ⟨a,vs,k,v,rfl,rfl,Same.seqT fh q,z1,h v F H (Ext.refl fh) z2⟩)
  |_=>exact h.elim
 |scr ns=>
  cases dy with
  |int k=>
   simp only[Rep] at r1 r2;obtain⟨a,rfl,q⟩:=r1;subst r2
   (delta ixD at h;dsimp only at h)
   cases z:atI ns k with
   |none=>rw[z] at h;exact h.elim
   |some d=>
    rw[z] at h
    exact .inl ⟨a,_,k,.int d,rfl,rfl,fh.seq q,zk6 z,h (.int d) F H (Ext.refl fh) (by simp only[Rep])⟩
  |_=>exact h.elim
 |str x=>
  cases dy with
  |int k=>
   simp only[Rep] at r1 r2;subst r1;subst r2
   (delta ixD at h;dsimp only at h)
   cases z:atI x.cps.toList k with
   |none=>rw[z] at h;exact h.elim
   |some c=>
    rw[z] at h
    obtain⟨z2,h⟩:=yz h
    exact .inr (.inr ⟨x,k,c,rfl,rfl,z2,z,h _ F H (Ext.refl fh) (by simp only[Rep])⟩)
  |_=>exact h.elim
 |_=>cases dy <;> exact h.elim⟩
end
mutual
noncomputable def yB:D→PyData
 |.non=>.none
 |.bl b=>.bool b
 |.int i=>.int i
 |.str x=>.str x
 |.lst ds=>.list (toPys ds)
 |.tup ds=>.tuple (toPys ds)
 |.scr ns=>.list (ns.map .int)
 |.raw _=>.none
 |.exc _=>.none
noncomputable def toPys:List D→List PyData
 |[]=>[]
 |d::r=>yB d::toPys r
end
mutual
noncomputable def y4:D→Bool
 |.lst ds=>plainDs ds
 |.tup ds=>plainDs ds
 |.raw _=>false
 |.exc _=>false
 |_=>true
noncomputable def plainDs:List D→Bool
 |[]=>true
 |d::r=>y4 d&&plainDs r
end
theorem readsAll_ints{h:Heap}:∀{ns:List Int} {us:List Value},Vals (ns.map V.int) us→ReadsAll h us (ns.map .int) []
 |[],_,.nil=>.nil
 |n::ns,_,.cons r t=>by
  obtain⟨tk,rfl⟩:=r
  exact .cons (as:=[]) (bs:=[]) (.int n tk) (readsAll_ints t)
section
variable{X:Cx}{pins:List (Addr×Obj)}{σ:St}{F H:Hp}{s:Shared}
mutual
theorem wD(I:Inv X pins σ H s)(fh:Same F H):∀(d:D) {v:V} {u:Value},Rep X.K F d v→RelV v u→y4 d=true→∃as,Reads s.heap u (yB d) as
 |.non,v,u,r,rv,_=>by simp only[Rep] at r;subst r;cases rv;exact⟨[],.none⟩
 |.bl b,v,u,r,rv,_=>by simp only[Rep] at r;subst r;cases rv;exact⟨[],.bool b⟩
 |.int i,v,u,r,rv,_=>by simp only[Rep] at r;subst r;obtain⟨t,rfl⟩:=rv;exact⟨[],.int i t⟩
 |.str x,v,u,r,rv,_=>by simp only[Rep] at r;subst r;obtain⟨t,rfl⟩:=rv;exact⟨[],.str x t⟩
 |.lst ds,v,u,r,rv,hp=>by
  simp only[Rep] at r;obtain⟨a,vs,rfl,q,t⟩:=r
  cases rv
  obtain⟨its,rr,⟨o,n,e,c,_,dd⟩,_⟩:=I.list (SqL.of (K:=X.K) (fh _ _ q))
  obtain⟨as,ra⟩:=readss_of I fh ds t rr (by simpa only[y4] using hp)
  exact⟨a::as,by rw[yB];exact .list e c dd (by simpa using ra)⟩
 |.tup ds,v,u,r,rv,hp=>by
  simp only[Rep] at r;obtain⟨a,vs,rfl,q,t⟩:=r
  cases rv
  obtain⟨its,rr,⟨o,e,c,n,dd⟩,_⟩:=I.tuple (Same.seqT fh q)
  obtain⟨as,ra⟩:=readss_of I fh ds t rr (by simpa only[y4] using hp)
  exact⟨as,by rw[yB];exact .tuple e c dd (by simpa using ra)⟩
 |.scr ns,v,u,r,rv,hp=>by
  simp only[Rep] at r;obtain⟨a,rfl,q⟩:=r
  cases rv
  obtain⟨its,rr,⟨o,n,e,c,_,dd⟩,_⟩:=I.list (fh.seq q)
  exact⟨[a],by rw[yB];exact .list e c dd (by simpa using readsAll_ints rr)⟩
 |.raw w,v,u,r,rv,hp=>by simp[y4] at hp
 |.exc w,v,u,r,rv,hp=>by simp[y4] at hp
theorem readss_of(I:Inv X pins σ H s)(fh:Same F H):∀(ds:List D) {vs:List V} {us:List Value},Reps X.K F ds vs→Vals vs us→plainDs ds=true→∃as,ReadsAll s.heap us (toPys ds) as
 |[],vs,us,r,rv,_=>by simp only[Reps] at r;subst r;cases rv;exact⟨[],by rw[toPys];exact .nil⟩
 |d::ds,vs,us,r,rv,hp=>by
  simp only[Reps] at r
  obtain⟨v,r',rfl,q,t⟩:=r
  simp only[plainDs,Bool.and_eq_true] at hp
  cases rv with
  |cons r1 r2=>
   obtain⟨as,h1⟩:=wD I fh d q r1 hp.1
   obtain⟨bs,h2⟩:=readss_of I fh ds t r2 hp.2
   exact⟨as++bs,by rw[toPys];exact .cons h1 h2⟩
end
end
noncomputable def okD(d:D):Bool:=y4 d&&(yB d).canLay0&&decide ((yB d).depth≤60)
theorem vO{d:D}(h:okD d=true):y4 d=true∧(yB d).canLay0=true∧(yB d).depth≤60:=by
 simpa[okD,and_assoc] using h
noncomputable def wK(d e:D):Bool:=PyData.eqv (yB d) (yB e)
noncomputable def eqD:D→D→Rs D
 |.str x,.str y=>.ok (.bl (x==y))
 |.int x,.int y=>.ok (.bl (x==y))
 |d,e=>if okD d=true∧okD e=true then .ok (.bl (wK d e)) else .no
noncomputable def neD:D→D→Rs D
 |.str x,.str y=>.ok (.bl (!(x==y)))
 |.int x,.int y=>.ok (.bl (!(x==y)))
 |d,e=>if okD d=true∧okD e=true then .ok (.bl (!wK d e)) else .no
section
variable{X:Cx}
noncomputable def J6(K:Frag)(b:D→D→Bool):R2:=fun x y H Q=>∃F d e,Same F H∧Rep K F d x∧Rep K F e y∧okD d=true∧okD e=true∧Q (.bl (b d e)) H
theorem Gv(hu:X.A.units+64<cLine):OpR X (compareOp .Eq) (J6 X.K wK):=by
 intro pins s σ H x y v u Q I rx ry h
 obtain⟨F,d,e,fh,r1,r2,o1,o2,q⟩:=h
 obtain⟨p1,c1,e1⟩:=vO o1
 obtain⟨p2,c2,e2⟩:=vO o2
 obtain⟨as,h1⟩:=wD I fh d r1 rx p1
 obtain⟨bs,h2⟩:=wD I fh e r2 ry p2
 exact SeqAt.compareEq_reads h1 h2 c1 c2 (by lia) ⟨.bl _,H,I,rfl,q⟩
theorem Gs(hu:X.A.units+64<cLine):OpR X (compareOp .NotEq) (J6 X.K fun d e=>!wK d e):=by
 intro pins s σ H x y v u Q I rx ry h
 obtain⟨F,d,e,fh,r1,r2,o1,o2,q⟩:=h
 obtain⟨p1,c1,e1⟩:=vO o1
 obtain⟨p2,c2,e2⟩:=vO o2
 obtain⟨as,h1⟩:=wD I fh d r1 rx p1
 obtain⟨bs,h2⟩:=wD I fh e r2 ry p2
 exact SeqAt.compareNe_reads h1 h2 c1 c2 (by lia) ⟨.bl _,H,I,rfl,q⟩
theorem xL(hu:X.A.units+64<cLine):OpD X (compareOp .Eq) eqD:=⟨_,op_eq.or (Gv hu),fun F H x y dx dy Q fh r1 r2 h=>by
 have gen:(Ok X (if okD dx=true∧okD dy=true then .ok (.bl (wK dx dy)) else .no) (Ev X.K F H Q))→rEq x y H Q∨J6 X.K wK x y H Q:=fun h=>by
  obtain⟨z,h⟩:=yz h
  exact .inr ⟨F,dx,dy,fh,r1,r2,z.1,z.2,h _ F H (Ext.refl fh) (by simp only[Rep])⟩
 cases dx with
 |str a=>
  cases dy with
  |str b=>
   simp only[Rep] at r1 r2;subst r1;subst r2
   exact .inl ⟨rfl,by rw[YI];exact h _ F H (Ext.refl fh) (by simp only[Rep])⟩
  |_=>exact gen h
 |int a=>
  cases dy with
  |int b=>
   simp only[Rep] at r1 r2;subst r1;subst r2
   exact .inl ⟨rfl,by rw[YJ];exact h _ F H (Ext.refl fh) (by simp only[Rep])⟩
  |_=>exact gen h
 |_=>exact gen h⟩
theorem ZF(hu:X.A.units+64<cLine):OpD X (compareOp .NotEq) neD:=⟨_,op_ne.or (Gs hu),fun F H x y dx dy Q fh r1 r2 h=>by
 have gen:(Ok X (if okD dx=true∧okD dy=true then .ok (.bl (!wK dx dy)) else .no) (Ev X.K F H Q))→rNe x y H Q∨J6 X.K (fun d e=>!wK d e) x y H Q:=fun h=>by
  obtain⟨z,h⟩:=yz h
  exact .inr ⟨F,dx,dy,fh,r1,r2,z.1,z.2,h _ F H (Ext.refl fh) (by simp only[Rep])⟩
 cases dx with
 |str a=>
  cases dy with
  |str b=>
   simp only[Rep] at r1 r2;subst r1;subst r2
   exact .inl ⟨rfl,by rw[YI];exact h _ F H (Ext.refl fh) (by simp only[Rep])⟩
  |_=>exact gen h
 |int a=>
  cases dy with
  |int b=>
   simp only[Rep] at r1 r2;subst r1;subst r2
   exact .inl ⟨rfl,by rw[YJ];exact h _ F H (Ext.refl fh) (by simp only[Rep])⟩
  |_=>exact gen h
 |_=>exact gen h⟩
noncomputable def intOp(C:Int→Int→Bool)(g:Int→Int→D):D→D→Rs D
 |.int i,.int j=>if C i j=true then .ok (g i j) else .no
 |_,_=>.no
theorem Ql{f:Value→Value→Sem Value}{C':Int→Int→Prop}{C:Int→Int→Bool}{gv:Int→Int→V}{g:Int→Int→D}(h:OpR X f (rI C' gv))(hc:∀i j,C i j=true→C' i j)(hg:∀F i j,Rep X.K F (g i j) (gv i j)):OpD X f (intOp C g):=
 ⟨_,h,fun F H x y dx dy Q fh r1 r2 q=>by
  cases dx with
  |int i=>
   cases dy with
   |int j=>
    simp only[Rep] at r1 r2;subst r1;subst r2
    obtain⟨z,q⟩:=yz q
    exact⟨i,j,rfl,rfl,hc i j z,q _ F H (Ext.refl fh) (hg F i j)⟩
   |_=>exact q.elim
  |_=>cases dy <;> exact q.elim⟩
noncomputable def Xr(g:Int→Int→D):D→D→Rs D
 |.int i,.int j=>.ok (g i j)
 |_,_=>.no
theorem j6{f:Value→Value→Sem Value}{gv:Int→Int→V}{g:Int→Int→D}(h:OpR X f (rI0 gv))(hg:∀F i j,Rep X.K F (g i j) (gv i j)):OpD X f (Xr g):=
 ⟨_,h,fun F H x y dx dy Q fh r1 r2 q=>by
  cases dx with
  |int i=>
   cases dy with
   |int j=>
    simp only[Rep] at r1 r2;subst r1;subst r2
    exact⟨i,j,rfl,rfl,q _ F H (Ext.refl fh) (hg F i j)⟩
   |_=>exact q.elim
  |_=>cases dy <;> exact q.elim⟩
noncomputable def xr:=Xr fun i j=>.int (i-j)
theorem xK:OpD X (binaryOp .Sub) xr:=j6 zq3 fun _ _ _=>by simp only[Rep]
noncomputable def Vc:=intOp (fun _ j=>decide (0<j)) fun i j=>.int (i%j)
theorem ji:OpD X (binaryOp .Mod) Vc:=Ql zq5 (fun i j h=>by simpa using h) fun _ _ _=>by simp only[Rep]
noncomputable def XC:=intOp (fun _ j=>decide (0<j∧j<1073741824)) fun i j=>.int (i / j)
theorem j7:OpD X (binaryOp .FloorDiv) XC:=Ql zd8 (fun i j h=>by have h':0<j∧j<1073741824:=of_decide_eq_true h;exact h') fun _ _ _=>by simp only[Rep]
noncomputable def ltI:=Xr fun i j=>.bl (decide (i<j))
noncomputable def gtD:=Xr fun i j=>.bl (decide (j<i))
noncomputable def geD:=Xr fun i j=>.bl (decide (j≤i))
theorem zq1:OpD X (compareOp .Lt) ltI:=j6 op_lt fun _ _ _=>by simp only[Rep]
theorem W2:OpD X (compareOp .Gt) gtD:=j6 op_gt fun _ _ _=>by simp only[Rep]
theorem zq2:OpD X (compareOp .GtE) geD:=j6 op_ge fun _ _ _=>by simp only[Rep]
noncomputable def zM:D→D→Rs D
 |.int i,.int j=>.ok (.int (i+j))
 |.str i,.str j=>if i.length+j.length≤sizeLine then .ok (.str (i++j)) else .no
 |.lst i,.lst j=>if i.length+j.length≤sizeLine then .ok (.lst (i++j)) else .no
 |_,_=>.no
theorem zG:OpD X (binaryOp .Add) zM:=⟨_,op_add.or (op_add_str.or zq7),fun F H x y dx dy Q fh r1 r2 q=>by
 cases dx with
 |int i=>
  cases dy with
  |int j=>
   simp only[Rep] at r1 r2;subst r1;subst r2
   exact .inl ⟨i,j,rfl,rfl,q _ F H (Ext.refl fh) (by simp only[Rep])⟩
  |_=>exact q.elim
 |str i=>
  cases dy with
  |str j=>
   simp only[Rep] at r1 r2;subst r1;subst r2
   obtain⟨z,q⟩:=yz q
   exact .inr (.inl ⟨i,j,rfl,rfl,z,q _ F H (Ext.refl fh) (by simp only[Rep])⟩)
  |_=>exact q.elim
 |lst i=>
  cases dy with
  |lst j=>
   simp only[Rep] at r1 r2
   obtain⟨a,vs,rfl,e1,t1⟩:=r1
   obtain⟨b,ws,rfl,e2,t2⟩:=r2
   obtain⟨z,q⟩:=yz q
   refine .inr (.inr ⟨a,b,vs,ws,rfl,rfl,fh _ _ e1,fh _ _ e2,by rw[← t1.length,← t2.length];exact z,fun p hp=>q _ _ _ (Ext.new fh hp) ?_⟩)
   simp only[Rep]
   exact⟨p,vs++ws,rfl,zv,(t1.append t2).mono (yi (zY fh hp))⟩
  |_=>exact q.elim
 |_=>cases dy <;> exact q.elim⟩
noncomputable def ur:D→D→Rs D
 |.int i,.int j=>if (-(18446744073709551616)<i∧i<18446744073709551616)∨(-(18446744073709551616)<j∧j<18446744073709551616) then .ok (.int (i*j)) else .no
 |.lst i,.int k=>if k<16777216∧-16777216<k∧i.length*k.toNat≤sizeLine then .ok (.lst (List.replicate k.toNat i).flatten) else .no
 |_,_=>.no
theorem wE:OpD X (binaryOp .Mult) ur:=⟨_,op_mul.or zq4,fun F H x y dx dy Q fh r1 r2 q=>by
 cases dx with
 |int i=>
  cases dy with
  |int j=>
   simp only[Rep] at r1 r2;subst r1;subst r2
   obtain⟨z,q⟩:=yz q
   refine .inl ⟨i,j,rfl,rfl,?_,q _ F H (Ext.refl fh) (by simp only[Rep])⟩
   unfold CMul
   rcases z with z|z
   ·exact .inl (by lia)
   ·exact .inr (by lia)
  |_=>exact q.elim
 |lst i=>
  cases dy with
  |int k=>
   simp only[Rep] at r1 r2
   obtain⟨a,vs,rfl,e1,t1⟩:=r1
   subst r2
   obtain⟨z,q⟩:=yz q
   refine .inr ⟨a,k,vs,rfl,rfl,fh _ _ e1,by lia,by lia,by rw[← t1.length];exact z.2.2,fun p hp=>q _ _ _ (Ext.new fh hp) ?_⟩
   simp only[Rep]
   exact⟨p,_,rfl,zv,(t1.rep k.toNat).mono (yi (zY fh hp))⟩
  |_=>exact q.elim
 |_=>cases dy <;> exact q.elim⟩
noncomputable def VD(i j:Str):Bool:=!(Builtin.Str.occurrences j i 0 j.length 1).isEmpty
noncomputable def inD:D→D→Rs D
 |.str i,.str j=>.ok (.bl (VD i j))
 |d,.lst xs=>if okD d=true∧okD (.lst xs)=true then .ok (.bl (xs.any fun y=>wK y d)) else .no
 |d,.tup xs=>if okD d=true∧okD (.tup xs)=true then .ok (.bl (xs.any fun y=>wK y d)) else .no
 |_,_=>.no
noncomputable def zf1(r:D):Rs D:=match r with
 |.bl b=>.ok (.bl (!b))
 |_=>.no
noncomputable def Xf(d e:D):Rs D:=(inD d e).bind zf1
theorem Wb:∀xs:List D,toPys xs=xs.map yB:=by
 intro l_
 induction l_ with
 |nil=>
  exact rfl
 |cons d r ih_=>
  rw[toPys,ih_,map_cons]
theorem jp(xs:List D)(d:D):((toPys xs).any fun y=>PyData.eqv y (yB d))=xs.any fun y=>wK y d:=by
 rw[Wb,List.any_map];rfl
noncomputable def rInD(K:Frag)(neg:Bool):R2:=fun x y H Q=>∃F d e xs,Same F H∧Rep K F d x∧Rep K F e y∧okD d=true∧okD e=true∧(e=.lst xs∨e=.tup xs)∧Q (.bl (if neg then !(xs.any fun y=>wK y d) else xs.any fun y=>wK y d)) H
theorem Gu(hu:X.A.units+128<cLine):OpR X (compareOp .In) (rInD X.K false):=by
 intro pins s σ H x y v u Q I rx ry h
 obtain⟨F,d,e,xs,fh,r1,r2,o1,o2,he,q⟩:=h
 obtain⟨p1,c1,e1⟩:=vO o1
 obtain⟨p2,c2,e2⟩:=vO o2
 obtain⟨as,h1⟩:=wD I fh d r1 rx p1
 obtain⟨bs,h2⟩:=wD I fh e r2 ry p2
 rcases he with rfl|rfl
 ·rw[yB] at h2 c2 e2
  refine SeqAt.in_list_reads h2 h1 (by simpa only[PyData.canLay0] using c2) c1 (by lia) ⟨.bl _,H,I,rfl,?_⟩
  rw[jp];exact q
 ·rw[yB] at h2 c2 e2
  refine SeqAt.in_tuple_reads h2 h1 (by simpa only[PyData.canLay0] using c2) c1 (by lia) ⟨.bl _,H,I,rfl,?_⟩
  rw[jp];exact q
theorem W3(hu:X.A.units+128<cLine):OpR X (compareOp .NotIn) (rInD X.K true):=by
 intro pins s σ H x y v u Q I rx ry h
 obtain⟨F,d,e,xs,fh,r1,r2,o1,o2,he,q⟩:=h
 obtain⟨p1,c1,e1⟩:=vO o1
 obtain⟨p2,c2,e2⟩:=vO o2
 obtain⟨as,h1⟩:=wD I fh d r1 rx p1
 obtain⟨bs,h2⟩:=wD I fh e r2 ry p2
 rcases he with rfl|rfl
 ·rw[yB] at h2 c2 e2
  refine SeqAt.notIn_list_reads h2 h1 (by simpa only[PyData.canLay0] using c2) c1 (by lia) ⟨.bl _,H,I,rfl,?_⟩
  rw[jp];exact q
 ·rw[yB] at h2 c2 e2
  refine SeqAt.notIn_tuple_reads h2 h1 (by simpa only[PyData.canLay0] using c2) c1 (by lia) ⟨.bl _,H,I,rfl,?_⟩
  rw[jp];exact q
theorem vV(hu:X.A.units+128<cLine):OpD X (compareOp .In) inD:=⟨_,op_in_str.or (Gu hu),fun F H x y dx dy Q fh r1 r2 q=>by
 cases dy with
 |lst xs=>
  have q':Ok X (if okD dx=true∧okD (.lst xs)=true then .ok (.bl (xs.any fun y=>wK y dx)) else .no) (Ev X.K F H Q):=by cases dx <;> exact q
  obtain⟨z,q⟩:=yz q'
  exact .inr ⟨F,dx,_,xs,fh,r1,r2,z.1,z.2,.inl rfl,q _ F H (Ext.refl fh) (by simp only[Rep];rfl)⟩
 |tup xs=>
  have q':Ok X (if okD dx=true∧okD (.tup xs)=true then .ok (.bl (xs.any fun y=>wK y dx)) else .no) (Ev X.K F H Q):=by cases dx <;> exact q
  obtain⟨z,q⟩:=yz q'
  exact .inr ⟨F,dx,_,xs,fh,r1,r2,z.1,z.2,.inr rfl,q _ F H (Ext.refl fh) (by simp only[Rep];rfl)⟩
 |str j=>
  cases dx with
  |str i=>
   simp only[Rep] at r1 r2;subst r1;subst r2
   exact .inl ⟨i,j,rfl,rfl,q _ F H (Ext.refl fh) (by simp only[Rep,VD])⟩
  |_=>exact q.elim
 |_=>cases dx <;> exact q.elim⟩
theorem Gq(hu:X.A.units+128<cLine):OpD X (compareOp .NotIn) Xf:=⟨_,op_notin_str.or (W3 hu),fun F H x y dx dy Q fh r1 r2 q=>by
 have q:=Ok.bind q
 cases dy with
 |lst xs=>
  have q':Ok X (if okD dx=true∧okD (.lst xs)=true then .ok (.bl (xs.any fun y=>wK y dx)) else .no) (fun r=>Ok X (zf1 r) (Ev X.K F H Q)):=by cases dx <;> exact q
  obtain⟨z,q⟩:=yz q'
  exact .inr ⟨F,dx,_,xs,fh,r1,r2,z.1,z.2,.inl rfl,q _ F H (Ext.refl fh) (by simp only[Rep];rfl)⟩
 |tup xs=>
  have q':Ok X (if okD dx=true∧okD (.tup xs)=true then .ok (.bl (xs.any fun y=>wK y dx)) else .no) (fun r=>Ok X (zf1 r) (Ev X.K F H Q)):=by cases dx <;> exact q
  obtain⟨z,q⟩:=yz q'
  exact .inr ⟨F,dx,_,xs,fh,r1,r2,z.1,z.2,.inr rfl,q _ F H (Ext.refl fh) (by simp only[Rep];rfl)⟩
 |str j=>
  cases dx with
  |str i=>
   simp only[Rep] at r1 r2;subst r1;subst r2
   exact .inl ⟨i,j,rfl,rfl,q _ F H (Ext.refl fh) (by simp only[Rep,VD])⟩
  |_=>exact q.elim
 |_=>cases dx <;> exact q.elim⟩
noncomputable def isN:D→Rs Bool
 |.non=>.ok true
 |.raw _=>.no
 |.exc _=>.no
 |_=>.ok false
noncomputable def isD(d e:D):Rs D:=match e with
 |.non=>(isN d).bind fun b=>.ok (.bl b)
 |_=>.no
noncomputable def ww(d e:D):Rs D:=match e with
 |.non=>(isN d).bind fun b=>.ok (.bl (!b))
 |_=>.no
theorem QB{F:Hp}{d:D}{v:V}{P:Bool→Prop}(r:Rep X.K F d v)(h:Ok X (isN d) P):P (decide (v=.non)):=by
 cases d with
 |non=>simp only[Rep] at r;subst r;exact h
 |bl b=>simp only[Rep] at r;subst r;exact h
 |int b=>simp only[Rep] at r;subst r;exact h
 |str b=>simp only[Rep] at r;subst r;exact h
 |lst b=>simp only[Rep] at r;obtain⟨a,vs,rfl,_⟩:=r;exact h
 |tup b=>simp only[Rep] at r;obtain⟨a,vs,rfl,_⟩:=r;exact h
 |scr b=>simp only[Rep] at r;obtain⟨a,rfl,_⟩:=r;exact h
 |raw b=>exact h.elim
 |exc b=>exact h.elim
theorem Ji:OpD X (compareOp .Is) isD:=⟨_,zq6,fun F H x y dx dy Q fh r1 r2 q=>by
 cases dy with
 |non=>simp only[Rep] at r2;exact⟨r2,QB r1 (Ok.bind q) _ F H (Ext.refl fh) (by simp only[Rep])⟩
 |_=>exact q.elim⟩
theorem jj:OpD X (compareOp .IsNot) ww:=⟨_,zd7,fun F H x y dx dy Q fh r1 r2 q=>by
 cases dy with
 |non=>simp only[Rep] at r2;have q':Ok X ((isN dx).bind fun b=>Rs.ok (D.bl (!b))) (Ev X.K F H Q):=q;have q2:=QB (P:=fun b=>Ok X (Rs.ok (D.bl (!b))) (Ev X.K F H Q)) r1 (Ok.bind q');exact⟨r2,q2 _ F H (Ext.refl fh) (by simp only[Rep])⟩
 |_=>exact q.elim⟩
noncomputable def wn(fa:FE):FE:=fun τ=>(fa τ).bind fun d=>match d with
 |.int i=>.ok (.int (-i))
 |_=>.no
theorem wW{a:Expr}{pos:Pos}{fa:FE}(ha:PDE X a fa):PDE X (.UnaryOp .USub a pos) (wn fa):=
 PE.imp (pe_un zn1 ha) fun σ H Q z_=>by
  obtain⟨F,τ,R,h⟩:=z_
  refine tE.of R h.bind fun d v F1 H1 g x R1 r=>?_
  cases d with
  |int i=>simp only[Rep] at r;exact⟨i,r,g _ F1 H1 x (by simp only[Rep])⟩
  |_=>exact g.elim
end
noncomputable def yO(env:Env)(cs:List (Str×Addr))(y:Str×NameKind):List (Str×Addr):=if y.2==NameKind.free then (y.1,(env.cells.lookup y.1).getD 0)::cs else cs
noncomputable def y7(scope:Scope)(env:Env):List (Str×Addr):=scope.names.foldl (yO env) []
theorem wZ{scope:Scope}{env:Env}(h:∀y∈scope.names,y.2=.free→(env.cells.lookup y.1).isSome=true):closureFor scope env=pure (y7 scope env):=by
 unfold closureFor y7
 generalize scope.names=names at h
 have gen:∀(cs:List (Str×Addr)),(forIn names cs fun x r=>(do
   if (x.2==NameKind.free)=true then do
    let c ← cellOf env x.1
    pure PUnit.unit
    pure (ForInStep.yield ((x.1,c)::r))
   else do
    pure PUnit.unit
    pure (ForInStep.yield r)):Sem (List (Str×Addr)))=pure (names.foldl (yO env) cs):=by
  induction names with
  |nil=>intro cs;rfl
  |cons y r ih=>
   intro cs
   rw[List.forIn_cons,foldl_cons]
   by_cases hk:y.2=.free
   ·obtain⟨c,hc⟩:=Option.isSome_iff_exists.mp (h y mem_cons_self hk)
    have e:yO env cs y=(y.1,c)::cs:=by simp[yO,hk,hc]
    rw[e,← ih (fun z hz=>h z (mem_cons_of_mem _ hz))]
    simp only[hk,beq_self_eq_true,if_true,cellOf,hc]
    rfl
   ·have hb:(y.2==NameKind.free)=false:=by simpa using hk
    have e:yO env cs y=cs:=by simp[yO,hb]
    rw[e,← ih (fun z hz=>h z (mem_cons_of_mem _ hz))]
    simp only[hb,Bool.false_eq_true,if_false]
    rfl
 show((forIn names ([]:List (Str×Addr)) fun x r=>(do
   if (x.2==NameKind.free)=true then do
    let c ← cellOf env x.1
    pure PUnit.unit
    pure (ForInStep.yield ((x.1,c)::r))
   else do
    pure PUnit.unit
    pure (ForInStep.yield r)):Sem (List (Str×Addr))) >>= fun s=>pure s)=_
 rw[gen []]
 rfl
theorem u0{env:Env}{x:Str}:∀{names:List (Str×NameKind)} {cs:List (Str×Addr)} {c:Addr},(names.foldl (yO env) cs).lookup x=some c→cs.lookup x=some c∨(∃y∈names,y.1=x∧y.2=.free∧c=(env.cells.lookup x).getD 0)
 |[],cs,c,h=>.inl h
 |y::r,cs,c,h=>by
  rw[foldl_cons] at h
  rcases u0 h with q|⟨z,hz,e⟩
  ·by_cases hk:y.2=.free
   ·have e:yO env cs y=(y.1,(env.cells.lookup y.1).getD 0)::cs:=by simp[yO,hk]
    rw[e,lookup_cons] at q
    by_cases hx:x=y.1
    ·subst hx
     simp at q
     exact .inr ⟨y,mem_cons_self,rfl,hk,q.symm⟩
    ·have hb:(x==y.1)=false:=by simpa using hx
     rw[hb] at q
     exact .inl q
   ·have hb:(y.2==NameKind.free)=false:=by simpa using hk
    have e:yO env cs y=cs:=by simp[yO,hb]
    rw[e] at q
    exact .inl q
  ·exact .inr ⟨z,mem_cons_of_mem _ hz,e⟩
theorem vB{env:Env}{x:Str}:∀{names:List (Str×NameKind)} {cs:List (Str×Addr)},((∃y∈names,y.1=x∧y.2=.free)∨∃c,cs.lookup x=some c)→∃c,(names.foldl (yO env) cs).lookup x=some c
 |[],cs,h=>by
  rcases h with ⟨y,hy,_⟩|h
  ·cases hy
  ·exact h
 |y::r,cs,h=>by
  rw[foldl_cons]
  refine vB ?_
  by_cases hk:y.2=.free
  ·have e:yO env cs y=(y.1,(env.cells.lookup y.1).getD 0)::cs:=by simp[yO,hk]
   rw[e]
   by_cases hx:x=y.1
   ·subst hx;exact .inr ⟨(env.cells.lookup y.1).getD 0,by rw[lookup_cons];simp⟩
   ·have hb:(x==y.1)=false:=by simpa using hx
    rcases h with ⟨z,hz,e1,e2⟩|⟨c,hc⟩
    ·rcases mem_cons.mp hz with rfl|hz
     ·exact absurd e1.symm hx
     ·exact .inl ⟨z,hz,e1,e2⟩
    ·exact .inr ⟨c,by rw[lookup_cons,hb];exact hc⟩
  ·have hb:(y.2==NameKind.free)=false:=by simpa using hk
   have e:yO env cs y=cs:=by simp[yO,hb]
   rw[e]
   rcases h with ⟨z,hz,e1,e2⟩|h
   ·rcases mem_cons.mp hz with rfl|hz
    ·exact absurd e2 hk
    ·exact .inl ⟨z,hz,e1,e2⟩
   ·exact .inr h
noncomputable def _root_.L2.Cx.comp(X:Cx)(scope:Scope)(N:List Str)(s:Shared)(H:Hp)(C:Addr)(fp:List Addr):Cx:=
 { prog:=X.prog,w:=X.w,K:=X.K,mg:=X.mg,base:=X.base,A:=X.A,N:=N,s₀:=s,H₀:=H,env:=compEnvC scope (y7 scope X.env) C X.env,outer:=X.stack,stack:=X.stack,ex:=fp,fn:=fun _=>false,calm:=X.calm,pn:=[],xe:=fun _ _=>False }
structure xP(X:Cx)(scope:Scope):Prop where
 kind:scope.kind=.function
 nocell:∀y∈scope.names,y.2≠.cell
 locs:∀y∈scope.names,y.2=.local→scope.names.lookup y.1=some .local
 free:∀y∈scope.names,y.2=.free→X.env.kindOf y.1=some .cell∨X.env.kindOf y.1=some .free
theorem vi{env:Env}:∀{names:List (Str×NameKind)} {x:Str},((names.map fun (n,k)=>if (k==NameKind.free&&env.scope.kind == .function&&env.kindOf n==some .cell) then (n,NameKind.cell) else (n,k)).lookup x=some .cell ∨
  (names.map fun (n,k)=>if (k==NameKind.free&&env.scope.kind == .function&&env.kindOf n==some .cell) then (n,NameKind.cell) else (n,k)).lookup x=some .free)→(∀y∈names,y.2≠.cell)→∃y∈names,y.1=x∧y.2=.free
 |[],_,h,_=>by rcases h with h|h <;> simp at h
 | (n,k)::r,x,h,hc=>by
  have hr:∀y∈r,y.2≠.cell:=fun y hy=>hc y (mem_cons_of_mem _ hy)
  rw[map_cons] at h
  by_cases hx:x=n
  ·subst hx
   by_cases hk:k=.free
   ·exact⟨_,mem_cons_self,rfl,hk⟩
   ·have hb:(k==NameKind.free)=false:=by simpa using hk
    have hck:k≠.cell:=hc (x,k) mem_cons_self
    simp only[hb,Bool.false_and,Bool.false_eq_true,if_false,lookup_cons,beq_self_eq_true] at h
    rcases h with h|h
    ·exact absurd (Option.some.inj h) hck
    ·exact absurd (Option.some.inj h) hk
  ·have hb:(x==n)=false:=by simpa using hx
   have step:∀q:Str×NameKind,q.1=n→((q::(r.map fun (n,k)=>if (k==NameKind.free&&env.scope.kind == .function&&env.kindOf n==some .cell) then (n,NameKind.cell) else (n,k))).lookup x)=((r.map fun (n,k)=>if (k==NameKind.free&&env.scope.kind == .function&&env.kindOf n==some .cell) then (n,NameKind.cell) else (n,k)).lookup x):=fun q hq=>by
    obtain⟨q1,q2⟩:=q
    simp only at hq
    subst hq
    rw[lookup_cons,hb]
   have h':((r.map fun (n,k)=>if (k==NameKind.free&&env.scope.kind == .function&&env.kindOf n==some .cell) then (n,NameKind.cell) else (n,k)).lookup x=some .cell∨(r.map fun (n,k)=>if (k==NameKind.free&&env.scope.kind == .function&&env.kindOf n==some .cell) then (n,NameKind.cell) else (n,k)).lookup x=some .free):=by
    rcases h with h|h
    ·left;exact(step _ (by show(if (k==NameKind.free&&env.scope.kind == .function&&env.kindOf n==some .cell)=true then (n,NameKind.cell) else (n,k)).1=n;split <;> rfl)).symm.trans h
    ·right;exact(step _ (by show(if (k==NameKind.free&&env.scope.kind == .function&&env.kindOf n==some .cell)=true then (n,NameKind.cell) else (n,k)).1=n;split <;> rfl)).symm.trans h
   obtain⟨y,hy,e⟩:=vi h' hr
   exact⟨y,mem_cons_of_mem _ hy,e⟩
theorem vp{env:Env}:∀{names:List (Str×NameKind)} {x:Str},names.lookup x=some .free→¬ (names.map fun (n,k)=>if (k==NameKind.free&&env.scope.kind == .function&&env.kindOf n==some .cell) then (n,NameKind.cell) else (n,k)).lookup x=some .local
 |[],_,h=>by simp at h
 | (n,k)::r,x,h=>by
  rw[map_cons]
  show ¬ List.lookup x ((if (k==NameKind.free&&env.scope.kind == .function&&env.kindOf n==some .cell)=true then (n,NameKind.cell) else (n,k))::_)=_
  rw[lookup_cons] at h
  by_cases hx:x=n
  ·subst hx
   simp only[beq_self_eq_true] at h
   have hk:k=.free:=Option.some.inj h
   subst hk
   split <;> simp[lookup_cons]
  ·have hb:(x==n)=false:=by simpa using hx
   rw[hb] at h
   split
   ·rw[lookup_cons,hb];exact vp h
   ·rw[lookup_cons,hb];exact vp h
section
variable{X:Cx}{scope:Scope}{N':List Str}
theorem ZT(S:xP X scope)(ok:X.Ok){x:Str}{c:Addr}(h:(y7 scope X.env).lookup x=some c):X.env.cells.lookup x=some c:=by
 rcases u0 h with q|⟨y,hy,e1,e2,e3⟩
 ·simp at q
 ·subst e1
  obtain⟨c',hc'⟩:=ok.has y.1 (S.free y hy e2)
  rw[hc'] at e3 ⊢
  rw[e3];rfl
theorem LF{pins:List (Addr×Obj)}{σ σ':St}{H:Hp}{s:Shared}{h1:Heap}{fp:List Addr}{t:Nat}(S:xP X scope)(I:Inv X pins σ H s)(hfp:∀b∈fp,ZY X pins H b)(hlt:∀b∈fp,b<s.heap.objs.size)
  (hn:h1.Ns s.heap.objs.size fun _=>none) (hsb:∀b o,s.heap.get? b=some o→h1.get? b=some o) (hl:σ'.length=N'.length)
  (hσ:∀(i:Nat) (v:V),σ'[i]?=some (some v)→∃(x:Str) (j:Nat),N'[i]?=some x∧X.N[j]?=some x∧σ[j]?=some (some v)∧scope.names.lookup x=some .free) :
  Inv (X.comp scope N' s H s.heap.objs.size fp) [] σ' H { s with heap:=h1,toks:=t }:=by
 have hH:H s.heap.objs.size=none:=I.hok.fresh (le_refl _)
 have cl:∀{x c},(y7 scope X.env).lookup x=some c→X.env.cells.lookup x=some c:=fun h=>ZT S I.ok h
 have kept:∀{c v},s.heap.IsCell c v→h1.IsCell c v:=fun ⟨o,e,d⟩=>⟨o,hsb _ o e,d⟩
 refine⟨⟨I.ok.mod,S.kind,I.ok.glob,I.ok.blt,le_refl _,fun x y c e1 e2=>I.ok.inj x y c (cl e1) (cl e2),fun x hx=>?_,fun x c hf _=>absurd hf (by simp[Cx.comp]),I.ok.hd,I.ok.frames,.inl rfl,fun b hb=>?_,I.bs,le_trans I.ok.bsz I.sz,fun b o e hb=>?_,fun b hb hs=>?_,I.stack,I.stkFree⟩,
  I.os.symm ▸ rfl,I.bare,Un.kept hsb,⟨_,hn,fun i x v e1 e2 e3=>?_⟩,fun x c e=>?_,hH,fun x c e=>I.freeC x c (cl e),fun p hp=>absurd (show p∈([]:List (Addr×Obj)) from hp) (by simp),I.hok.kept hsb,hl⟩
 ·have hx:(relabel scope X.env).names.lookup x=some .cell∨(relabel scope X.env).names.lookup x=some .free:=hx
  exact vB (.inl (vi hx S.nocell))
 ·have hb:b∈fp:=hb
  refine⟨ne_of_lt (hlt b hb),fun x c e=>(hfp b hb).2.2.2.2.1 x c (cl e)⟩
 ·have hb:b∈fp:=hb
  rcases (hfp b hb).2.2.2.1 with z|z
  ·exact I.ok.noex b o e z
  ·exact absurd (lt_of_lt_of_le (Heap.lt_size e) (le_trans I.ok.bsz z)) (lt_irrefl _)
 ·have hb:b∈fp:=hb
  obtain⟨_,f1,f2,_⟩:=hfp b hb
  rcases mem_cons.mp (I.stkSub b hs) with z|z
  ·exact f1 z
  ·exact f2 z
 ·obtain⟨x',j,e4,e5,e6,e9⟩:=hσ i v e2
  have hy:=PySem.mem_of_lookup e9
  have e1':N'[i]?=some x:=e1
  rw[e1'] at e4;cases e4
  have kd:=S.free _ hy rfl
  obtain⟨m,hm,hl⟩:=I.loc
  obtain⟨u,ru,lk⟩:=hl j x v e5 e6 (kd.elim (fun z=>.inr (.inl z)) fun z=>.inr (.inr z))
  refine⟨u,ru,?_⟩
  rcases lk with ⟨z,_⟩|⟨z,c,hc,hcell⟩
  ·rcases kd with k|k <;> rw[k] at z <;> cases z
  ·obtain⟨c',hc'⟩:=vB (env:=X.env) (names:=scope.names) (cs:=[]) (x:=x) (.inl ⟨_,hy,rfl,rfl⟩)
   have:=cl hc'
   rw[hc] at this;cases this
   have e3':(relabel scope X.env).names.lookup x=some .local∨(relabel scope X.env).names.lookup x=some .cell∨(relabel scope X.env).names.lookup x=some .free:=e3
   rcases e3' with q|q|q
   ·exact absurd q (vp e9)
   ·exact .inr ⟨.inl q,c,hc',kept hcell⟩
   ·exact .inr ⟨.inr q,c,hc',kept hcell⟩
 ·obtain⟨v,z⟩:=I.cell x c (cl e)
  exact⟨v,kept z⟩
end
theorem WF{prog:Program}{w:World}{A:Around}{R:Result→Shared→Prop}{s:Shared}{elt target iter:Expr}{ifs:List Expr}{scope:Scope}{pos:Pos}{it acc:Value}{env:Env}(I:Nat→Shared→Prop)
  (turn:∀n s,I n s→wpAny (model prog w) A (pyNext it) (fun r s₁=>match r with
   |none=>R (.ok .next) s₁
   |some v=>wpAny (model prog w) A (letOwnedTupleGo target it v) (fun _ s0=>wpAny (model prog w) A (assign target env v) (fun _ s₂=>
     wpAny (model prog w) A (forIn ifs true fun c r=>if r=true then do let ok ← isTrue c env (eval c env);pure (ForInStep.yield ok) else pure (ForInStep.yield r)) (fun ok s₃=>
      if ok=true then wpAny (model prog w) A (eval elt env) (fun x s₄=>
       wpAny (model prog w) A (call (.builtin "list.append") [acc,x]) (fun _ s₅=>∃m,m<n∧I m s₅) (fun _ _=>False) s₄) (fun _ _=>False) s₃
      else ∃m,m<n∧I m s₃) (fun _ _=>False) s₂) (fun _ _=>False) s0) (fun _ _=>False) s₁) (fun _ _=>False) s)
  (n:Nat) (h:I n s) :
  codeAny (model prog w) A (.compLoop (.ListComp elt [⟨target,iter,ifs,0⟩] scope pos) 0 it acc env) R s:=by
 refine codeAny_loop rfl I (fun n s hI=>?_) n h
 show wpAny _ A ((compTurn (.ListComp elt [⟨target,iter,ifs,0⟩] scope pos) 0 it acc env).onRaise (fun x=>do noteFrame x env;theTreesLotGoes x)) _ _ s
 refine wpAny_noted ?_
 rw[compTurn_list]
 refine wpAny_bind (wpAny_standAt (wpAny_bind (wpAny_mono (turn n s hI) (fun r s₁ h₁=>?_) fun _ _ h'=>h'.elim)))
 cases r with
 |none=>exact wpAny_pure h₁
 |some v=>
  refine wpAny_bind (wpAny_mono h₁ (fun _ s0 h0=>?_) fun _ _ h'=>h'.elim)
  refine wpAny_bind (wpAny_mono h0 (fun _ s₂ h₂=>wpAny_bind (wpAny_mono h₂ (fun ok s₃ h₃=>?_) fun _ _ h'=>h'.elim)) fun _ _ h'=>h'.elim)
  cases ok with
  |false=>exact wpAny_pure ⟨rfl,h₃⟩
  |true=>
   exact wpAny_bind (wpAny_bind (wpAny_mono h₃ (fun x s₄ h₄=>wpAny_bind (wpAny_mono h₄ (fun _ s₅ h₅=>wpAny_pure (wpAny_pure ⟨rfl,h₅⟩)) fun _ _ h'=>h'.elim)) fun _ _ h'=>h'.elim))
theorem Ts{M:Model}{A:Around}{env:Env}{Q:Bool→Shared→Prop}{E:Value→Shared→Prop}{s:Shared}(h:Q true s) :
  wpAny M A (forIn ([]:List Expr) true fun c r=>if r=true then do let ok ← isTrue c env (eval c env);pure (ForInStep.yield ok) else pure (ForInStep.yield r)) Q E s:=wpAny_pure h
theorem Th{M:Model}{A:Around}{env:Env}{Q:Bool→Shared→Prop}{E:Value→Shared→Prop}{s:Shared}{c:Expr}(h:wpAny M A (isTrue c env (eval c env)) Q E s) :
  wpAny M A (forIn [c] true fun c r=>if r=true then do let ok ← isTrue c env (eval c env);pure (ForInStep.yield ok) else pure (ForInStep.yield r)) Q E s:=by
 rw[List.forIn_cons]
 simp only[if_true]
 refine wpAny_bind (wpAny_bind (wpAny_mono h (fun b s' q=>wpAny_pure ?_) fun _ _ e=>e))
 exact wpAny_pure q
noncomputable def PTs(Y:Cx)(ifs:List Expr)(t:TT):Prop:=∀(pins:List (Addr×Obj)) (s:Shared) (σ:St) (H:Hp) (Q:Bool→Hp→Prop),Inv Y pins σ H s→t σ H Q →
 wpAny (model Y.prog Y.w) Y.A (forIn ifs true fun c r=>if r=true then do let ok ← isTrue c Y.env (eval c Y.env);pure (ForInStep.yield ok) else pure (ForInStep.yield r)) (TP Y pins σ Q) Y.xe s
theorem J7{Y:Cx}:PTs Y [] (fun _ H Q=>Q true H):=fun pins s σ H Q I h=>Ts ⟨H,I,h⟩
theorem zc2{Y:Cx}{c:Expr}{t:TT}(h:PT Y c t):PTs Y [c] t:=fun pins s σ H Q I q=>Th (h pins s σ H Q I q)
noncomputable def VC(s0:St→St)(wi:TI)(g:TG)(ti:TT)(te:TE):TE:=fun σ H Q=>wi σ H fun J H1=>∀acc,H1 acc=none→∃W:Nat→Nat→St→Hp→Prop,(∃m,W 0 m (s0 σ) (upd H1 acc (.lst [])))∧∀i m σ1 H,W i m σ1 H →
 (J.stop i H∧Q (.ref acc) H)∨(J.go i H∧∀x H',J.yld i H x H'→g x σ1 H' fun σ2 H2=>ti σ2 H2 fun b H3=>
  if b=true then te σ2 H3 fun y H4=>∃ys,H4 acc=some (.lst ys)∧ys.length<sizeLine∧∃m',m'<m∧W (i+1) m' σ2 (upd H4 acc (.lst (ys++[y]))) else ∃m',m'<m∧W (i+1) m' σ2 H3)
section
variable{X:Cx}{scope:Scope}{N':List Str}{tg iter elt:Expr}{ifs:List Expr}{pos:Pos}{wi:TI}{g:TG}{ti:TT}{te:TE}{s0:St→St}
theorem QG{P:Program}{w:World}{H:Hp}{h h':Heap}{C:Addr}(ok:HOk P w H h)(hC:H C=none)(k:∀b o,b≠C→h.get? b=some o→h'.get? b=some o):HOk P w H h':=fun b u e=>by
 refine(ok b u e).stay (fun c v hc q=>k c v ?_ q) (fun _ q=>q) fun _ _ q=>q
 rintro rfl
 rcases hc with z|z
 ·subst z;rw[hC] at e;cases e
 ·rw[hC] at z;cases z
theorem XM{pins:List (Addr×Obj)}{σ:St}{H:Hp}{s:Shared}{QQ:V→Hp→Prop}{J:It}{fp:List Addr}{it acc:Addr}{tn:Nat→Heap→Prop}{RR:Addr→Result→Shared→Prop}{E:Value→Shared→Prop}{W:Nat→Nat→St→Hp→Prop}{m0:Nat}
  (S:xP X scope) (hc:X.calm=true) (hl:(s0 σ).length=N'.length)
  (hσ:∀(i:Nat) (v:V),(s0 σ)[i]?=some (some v)→∃(x:Str) (j:Nat),N'[i]?=some x∧X.N[j]?=some x∧σ[j]?=some (some v)∧scope.names.lookup x=some .free)
  (hg:∀s H C fp,PG (X.comp scope N' s H C fp) tg g) (ht:∀s H C fp,PTs (X.comp scope N' s H C fp) ifs ti) (he:∀s H C fp,PE (X.comp scope N' s H C fp) elt te)
  (I:Inv X pins σ H s) (T:X9 X.prog X.w X.K tg J fp it tn) (st:tn 0 s.heap) (hfp:∀b∈fp,ZY X pins H b) (hlt:∀b∈fp,b<s.heap.objs.size) (hacc:acc<s.heap.objs.size)
  (w0:W 0 m0 (s0 σ) H) (turn:∀i m σ1 H,W i m σ1 H→(J.stop i H∧QQ (.ref acc) H)∨(J.go i H∧∀x H',J.yld i H x H'→g x σ1 H' fun σ2 H2=>ti σ2 H2 fun b H3=>
    if b=true then te σ2 H3 fun y H4=>∃ys,H4 acc=some (.lst ys)∧ys.length<sizeLine∧∃m',m'<m∧W (i+1) m' σ2 (upd H4 acc (.lst (ys++[y]))) else ∃m',m'<m∧W (i+1) m' σ2 H3))
  (hRR:∀s',(∃m,s'.heap.Ns s.heap.objs.size m)→(∀h',Heap.SameBut s.heap.objs.size s'.heap h'→EP X pins σ (fun v H'=>QQ v H'∧H' s.heap.objs.size=none) (.ref acc) { s' with heap:=h' })→RR s.heap.objs.size (.ok .next) s') :
  wpAny (model X.prog X.w) X.A (newFunctionEnv scope X.env.globals (y7 scope X.env) [] X.env.qual none .none (some X.env)) (fun cenv s₄=>
   codeAny (model X.prog X.w) X.A (.compStart (.ListComp elt [⟨tg,iter,ifs,0⟩] scope pos) 0 (.ref it) (.ref acc) { cenv with scope:=relabel scope X.env }) (RR cenv.locals) s₄) E s:=by
 refine wpAny_newFunctionEnv S.nocell (by intro y hy;simp at hy) (fun h1 hns hsb=>?_) S.kind
 have keep3:∀b o,s.heap.get? b=some o→h1.get? b=some o:=fun b o e=>hsb.extBut b o (ne_of_lt (Heap.lt_size e)) (get?_push_of_some _ e)
 have Y0:Inv (X.comp scope N' s H s.heap.objs.size fp) [] (s0 σ) H { s with heap:=h1,toks:=s.toks+([]:List (Str×Value)).length }:=LF S I hfp hlt hns keep3 hl hσ
 have fpY:∀{H':Hp},(∀b∈fp,H' b=none)→∀b∈fp,ZY (X.comp scope N' s H s.heap.objs.size fp) [] H' b:=fun {H'} hn b hb=>by
  obtain⟨f0,f1,f2,f3,f4,f5⟩:=hfp b hb
  refine⟨hn b hb,ne_of_lt (hlt b hb),fun z=>?_,.inl hb,fun x c e=>f4 x c (ZT S I.ok e),fun p hp=>absurd (show p∈([]:List (Addr×Obj)) from hp) (by simp)⟩
  rcases mem_cons.mp (I.stkSub b z) with q|q
  ·exact f1 q
  ·exact f2 q
 have st1:tn 0 h1:=T.keep _ _ _ st fun b hb o e=>keep3 b o e
 have loop:∀s3:Shared,s3 = { s with heap:=h1,toks:=s.toks+([]:List (Str×Value)).length } →
   codeAny (model X.prog X.w) X.A (.compLoop (.ListComp elt [⟨tg,iter,ifs,0⟩] scope pos) 0 (.ref it) (.ref acc) (X.comp scope N' s H s.heap.objs.size fp).env) (RR s.heap.objs.size) s3:=by
  rintro s3 rfl
  refine WF (fun n s'=>∃i σ' H',Inv (X.comp scope N' s H s.heap.objs.size fp) [] σ' H' s'∧tn i s'.heap∧(∀b∈fp,H' b=none)∧W i n σ' H') ?_ m0 ⟨0,s0 σ,H,Y0,st1,fun b hb=>(hfp b hb).1,w0⟩
  rintro n s4 ⟨i,σ4,H4,I4,st4,fr4,w4⟩
  rcases turn i n σ4 H4 w4 with ⟨stop,qn⟩|⟨go,step⟩
  ·refine thn (T.done (X.comp scope N' s H s.heap.objs.size fp) rfl rfl rfl hc i [] s4 σ4 H4 _ I4 (fpY fr4) st4 stop) fun r s5 z_=>?_
   obtain⟨hr,I5⟩:=z_
   subst hr
   obtain⟨m5,n5,_⟩:=id I5.loc
   have hC:H4 s.heap.objs.size=none:=I5.free
   refine hRR s5 ⟨m5,n5⟩ fun h' sb=>⟨.ref acc,H4,?_,rfl,qn,hC⟩
   refine I.call' (s':={ s5 with heap:=h' }) (ch:=fp) I5.os ⟨fun b o e n hb hx=>?_,fun b o e n hb hx=>?_,fun b o e n hx=>I5.base.free b o e n hx,fun b o e hx=>?_,I5.base.tups,I5.base.frzs,I5.base.tbls⟩ (QG I5.hok hC fun b o hb e=>(sb.2 b hb).trans e) I5.bare fun b hb=>?_
   ·exact(sb.2 b (ne_of_lt (Heap.lt_size e))).trans (I5.base.keep b o e n hb hx)
   ·obtain⟨sl,q⟩:=I5.base.slot b o e n hb hx
    exact⟨sl,(sb.2 b (ne_of_lt (Heap.lt_size e))).trans q⟩
   ·obtain⟨o',q⟩:=I5.base.there b o e hx
    exact⟨o',(sb.2 b (ne_of_lt (Heap.lt_size e))).trans q⟩
   ·obtain⟨f0,f1,f2,f3,f4,f5⟩:=hfp b hb
    exact⟨f3,f1,f4,f5⟩
  ·refine thn (T.item (X.comp scope N' s H s.heap.objs.size fp) rfl rfl rfl hc i [] s4 σ4 H4 _ I4 (fpY fr4) st4 go) fun r s5 z_=>?_
   obtain⟨u,hr,h5⟩:=z_
   subst hr
   refine thn h5 fun _ s6 z_=>?_
   obtain⟨x,H6,I6,r6,y6,st6,fr6⟩:=z_
   have I6':=I6.pinned (fpY fr6) (T.obj _ _ st6)
   refine thn (hg _ _ _ _ _ s6 σ4 H6 x u _ I6' r6 (step x H6 y6)) fun _ s7 z_=>?_
   obtain⟨σ7,H7,I7,q7⟩:=z_
   refine thn (ht _ _ _ _ _ s7 σ7 H7 _ I7 q7) fun ok s8 z_=>?_
   obtain⟨H8,I8,q8⟩:=z_
   have again:∀{s9:Shared} {H9:Hp} {m':Nat},Inv (X.comp scope N' s H s.heap.objs.size fp) ([]++ZE fp s6.heap) σ7 H9 s9→m'<n→W (i+1) m' σ7 H9→∃m,m<n∧∃i σ' H',Inv (X.comp scope N' s H s.heap.objs.size fp) [] σ' H' s9∧tn i s9.heap∧(∀b∈fp,H' b=none)∧W i m σ' H':=fun {s9 H9 m'} I9 hm w9=>by
    refine⟨m',hm,i+1,σ7,H9,I9.unpinned,T.keep _ _ _ st6 fun b hb o e=>(I9.pin (b,o) (mem_append_right _ (mem_append_right _ (wQ hb e)))).1,fun b hb=>?_,w9⟩
    obtain⟨o,e,d⟩:=T.obj _ _ st6 b hb
    exact(I9.pin (b,o) (mem_append_right _ (mem_append_right _ (wQ hb e)))).2.1
   cases ok with
   |false=>
    rw[if_neg (by simp)] at q8
    obtain⟨m',hm,w8⟩:=q8
    exact again I8 hm w8
   |true=>
    rw[if_pos rfl] at q8
    refine thn (he _ _ _ _ _ s8 σ7 H8 _ I8 q8) fun y s9 z_=>?_
    obtain⟨z,H9,I9,r9,ys,e9,l9,m',hm,w9⟩:=z_
    refine thn (jk _ s9 σ7 H9 (.ref acc) [z] (.ref acc) [y] (fun _ H'=>H'=upd H9 acc (.lst (ys++[z]))) I9 rfl (.cons r9 .nil) ⟨acc,ys,z,rfl,rfl,e9,l9,rfl⟩) fun _ s10 z_=>?_
    obtain⟨_,H10,I10,_,e10⟩:=z_
    subst e10
    exact again I10 hm w9
 exact codeAny_compStart_list (loop _ rfl) (T.self _ 0 _ _ _ st1 (loop _ rfl))
end
section
variable{X:Cx}{scope:Scope}{N':List Str}{tg iter elt:Expr}{ifs:List Expr}{pos:Pos}{wi:TI}{g:TG}{ti:TT}{te:TE}{s0:St→St}
theorem Lq{pins:List (Addr×Obj)}{σ:St}{H:Hp}{s:Shared}{J:It}{fp:List Addr}{it:Addr}{tn:Nat→Heap→Prop}(T:X9 X.prog X.w X.K tg J fp it tn)(st:tn 0 s.heap):∀b∈fp,b<s.heap.objs.size:=fun b hb=>by
 obtain⟨o,e,_⟩:=T.obj 0 _ st b hb
 exact Heap.lt_size e
theorem Qe(S:xP X scope)(hc:X.calm=true)(hl:∀σ:St,σ.length=X.N.length→(s0 σ).length=N'.length)
  (hσ:∀(σ:St) (i:Nat) (v:V),(s0 σ)[i]?=some (some v)→∃(x:Str) (j:Nat),N'[i]?=some x∧X.N[j]?=some x∧σ[j]?=some (some v)∧scope.names.lookup x=some .free)
  (hi:PI X tg iter wi) (hg:∀s H C fp,PG (X.comp scope N' s H C fp) tg g) (ht:∀s H C fp,PTs (X.comp scope N' s H C fp) ifs ti) (he:∀s H C fp,PE (X.comp scope N' s H C fp) elt te)
  (hs:∀x,foldedSetIterable iter X.env x=pure x:=by intro _;rfl):PE X (.ListComp elt [⟨tg,iter,ifs,0⟩] scope pos) (VC s0 wi g ti te):=by
 intro pins s σ H Q I h
 rw[eval_ListComp]
 have hclos:=wZ (scope:=scope) (env:=X.env) fun y hy hk=>Option.isSome_iff_exists.mpr (I.ok.has y.1 (S.free y hy hk))
 refine wpAny_comprehension_free (use:=none) rfl hs hclos S.kind S.locs (thn (hi pins s σ H _ I h) fun x s1 h1=>thn h1 fun itv s2 h2=>?_)
 obtain⟨it,fp,tn,J,H2,e,I2,T,st2,f2,hw⟩:=h2
 subst e
 have hf:H2 s2.heap.objs.size=none:=I2.hok.fresh (le_refl _)
 obtain⟨W,⟨m0,w0⟩,turn⟩:=hw _ hf
 have hlt:=Lq (pins:=pins) (σ:=σ) (H:=H2) T st2
 refine wpAny_newObj_type ?_
 have I3:Inv X pins σ (upd H2 s2.heap.objs.size (.lst [])) { s2 with heap:=s2.heap.push { cls:=.type "list", dict:=none,data:=.seq ([]:List Value).toArray } }:=
  I2.laid (t':=s2.toks) (o:=.lst []) (fun b u e=>get?_push_of_some _ e) (le_refl _) ⟨zero_le _,[],0,.nil,Heap.get?_push_size _ rfl⟩
 have hsz:s2.heap.objs.size<(s2.heap.push { cls:=.type "list", dict:=none,data:=.seq ([]:List Value).toArray }).objs.size:=by rw[Heap.size_push];exact lt_succ_self _
 refine XM (s0:=s0) (QQ:=Q) (W:=W) (m0:=m0) S hc (hl σ I2.len) (hσ σ) hg ht he I3 T (T.keep _ _ _ st2 fun b hb o e=>get?_push_of_some _ e) (fun b hb=>?_) (fun b hb=>lt_trans (hlt b hb) hsz) hsz w0 turn fun s' ⟨m,hn⟩ hq=>⟨m,hn,fun h' sb=>let ⟨v,H',I',r',q',_⟩:=hq h' sb;⟨v,H',I',r',q'⟩⟩
 obtain⟨f0,f1,f2,f3⟩:=f2 b hb
 exact⟨by rw[zo (ne_of_lt (hlt b hb))];exact f0,f1,f2,f3⟩
theorem J9{i:Nat}{y:Str}{py spos:Pos}(hN:X.N.Nodup)(hiN:X.N[i]?=some y)(hy:X.env.scope.names.lookup y=some .local)
  (hsw:swapsWith (.ListComp elt [⟨tg,iter,ifs,0⟩] scope pos) (some (.Name y py)) spos.line X.env=pure true)
  (S:xP X scope) (hc:X.calm=true) (hl:∀σ:St,σ.length=X.N.length→(s0 σ).length=N'.length)
  (hσ:∀(σ:St) (i:Nat) (v:V),(s0 σ)[i]?=some (some v)→∃(x:Str) (j:Nat),N'[i]?=some x∧X.N[j]?=some x∧σ[j]?=some (some v)∧scope.names.lookup x=some .free)
  (hi:PI X tg iter wi) (hg:∀s H C fp,PG (X.comp scope N' s H C fp) tg g) (ht:∀s H C fp,PTs (X.comp scope N' s H C fp) ifs ti) (he:∀s H C fp,PE (X.comp scope N' s H C fp) elt te)
  (hs:∀x,foldedSetIterable iter X.env x=pure x:=by intro _;rfl):PS X (.Assign [.Name y py] (.ListComp elt [⟨tg,iter,ifs,0⟩] scope pos) spos) (za2 (VC s0 wi g ti te) (uC i)):=by
 intro pins s σ H D I h
 rw[exec_Assign_Name_used _ _ _ _ hsw]
 refine wpAny_bind (wpAny_standAt (wpAny_bind ?_))
 show wpAny _ X.A (do let _ ← comprehension (.ListComp elt [⟨tg,iter,ifs,0⟩] scope pos) scope X.env _ (newList []) false (eval iter X.env) (some (assign (.Name y py) X.env))) _ _ s
 have hclos:=wZ (scope:=scope) (env:=X.env) fun y hy hk=>Option.isSome_iff_exists.mpr (I.ok.has y.1 (S.free y hy hk))
 refine wpAny_bind (wpAny_mono (wpAny_comprehension_free (use:=some (assign (.Name y py) X.env)) (Q:=fun _ s'=>SP X pins D .next s') rfl hs hclos S.kind S.locs
  (thn (hi pins s σ H _ I h) fun x s1 h1=>thn h1 fun itv s2 h2=>?_)) (fun _ s' hq=>wpAny_pure (wpAny_pure hq)) fun _ _ e=>e)
 obtain⟨it,fp,tn,J,H2,e,I2,T,st2,f2,hw⟩:=h2
 subst e
 have hf:H2 s2.heap.objs.size=none:=I2.hok.fresh (le_refl _)
 obtain⟨W,⟨m0,w0⟩,turn⟩:=hw _ hf
 have hlt:=Lq (pins:=pins) (σ:=σ) (H:=H2) T st2
 refine wpAny_newObj_type ?_
 have I3:Inv X pins σ (upd H2 s2.heap.objs.size (.lst [])) { s2 with heap:=s2.heap.push { cls:=.type "list", dict:=none,data:=.seq ([]:List Value).toArray } }:=
  I2.laid (t':=s2.toks) (o:=.lst []) (fun b u e=>get?_push_of_some _ e) (le_refl _) ⟨zero_le _,[],0,.nil,Heap.get?_push_size _ rfl⟩
 have hsz:s2.heap.objs.size<(s2.heap.push { cls:=.type "list", dict:=none,data:=.seq ([]:List Value).toArray }).objs.size:=by rw[Heap.size_push];exact lt_succ_self _
 refine XM (s0:=s0) (QQ:=fun x H1=>uC i x σ H1 D.nx) (W:=W) (m0:=m0) S hc (hl σ I2.len) (hσ σ) hg ht he I3 T (T.keep _ _ _ st2 fun b hb o e=>get?_push_of_some _ e) (fun b hb=>?_) (fun b hb=>lt_trans (hlt b hb) hsz) hsz w0 turn fun s' ⟨m,hn⟩ hq=>?_
 ·obtain⟨f0,f1,f2,f3⟩:=f2 b hb
  exact⟨by rw[zo (ne_of_lt (hlt b hb))];exact f0,f1,f2,f3⟩
 ·obtain⟨v,H5,I5,r5,q5,hC⟩:=hq s'.heap (.refl ..)
  have I5:Inv X pins σ H5 s':=I5
  show wpAny _ X.A (assign (.Name y py) X.env _) _ _ s'
  refine wpAny_assign_Name (Zz I5 hN hiN (.inl hy) r5 (fun s6 I6 z_=>?_) (.inr hy))
  obtain⟨a,sb,ha⟩:=z_
  have lt3:=I3.lt
  have ca:∀x c,X.env.cells.lookup x=some c→c<(s2.heap.push { cls:=.type "list", dict:=none,data:=.seq ([]:List Value).toArray }).objs.size:=fun x c e=>by
   obtain⟨v,z⟩:=I3.cell x c e
   exact z.lt
  have hne:(s2.heap.push { cls:=.type "list", dict:=none,data:=.seq ([]:List Value).toArray }).objs.size≠a:=by
   rcases ha with rfl|ha
   ·exact ne_of_gt lt3
   ·exact ne_of_gt (ca _ _ ha)
  refine⟨m,hn.sameBut sb hne,fun h' sb'=>⟨_,H5,?_,q5⟩⟩
  refine I6.turned (t':=s6.toks) (it:=(s2.heap.push { cls:=.type "list", dict:=none,data:=.seq ([]:List Value).toArray }).objs.size) (fun b o hb e=>(sb'.2 b hb).trans e) hC (ne_of_gt lt3) (.inr I3.sz) (fun x c e=>ne_of_lt (ca x c e)) fun p hp=>?_
  exact ne_of_lt (Heap.lt_size (I3.pin p hp).1)
end
noncomputable def vk(set:FG)(ft:FT)(fe:FE)(τ:DS):List D→Rs (List D)
 |[]=>.ok []
 |d::r=>match set d τ with
  |.ok τ1=>match ft τ1 with
   |.ok true=>match fe τ1 with
    |.ok x=>(vk set ft fe τ r).bind fun xs=>.ok (x::xs)
    |_=>.no
   |.ok false=>vk set ft fe τ r
   |_=>.no
  |_=>.no
noncomputable def jP:Option (Option Sl)→Option Sl
 | some (some (.val d))=>some (.val d)
 | some (some (.obr c fs))=>some (.obr c fs)
 | some (some (.obj _ c fs))=>some (.obr c fs)
 |_=>none
noncomputable def vH(k:Nat)(idx:List Nat)(τ:DS):DS:=List.replicate k none++idx.map fun j=>jP τ[j]?
noncomputable def vo(k:Nat)(idx:List Nat)(σ:St):St:=List.replicate k none++idx.map fun j=>(σ[j]?).join
noncomputable def yD(k:Nat)(idx:List Nat)(fi:FA)(set:FG)(ft:FT)(fe:FE):FA:=fun τ=>(fi τ).bind fun ds=>match vk set ft fe (vH k idx τ) ds with
 |.ok xs=>if xs.length≤sizeLine then .ok xs else .no
 |_=>.no
noncomputable def jv(τ:DS):Prop:=(∀(i:Nat) es,τ[i]?≠some (some (.own es)))∧∀(i n:Nat) c fs,τ[i]?≠some (some (.obj n c fs))
structure Yf(set:FG):Prop where
 ov:∀d e τ τ1,set e τ=.ok τ1→set d τ1=set d τ
 no:∀d τ τ1,set d τ=.ok τ1→jv τ→jv τ1
theorem vv{τ:DS}{i:Nat}{d:D}(h:jv τ):jv (τ.set i (some (.val d))):=⟨fun j es e=>by
 by_cases hij:i=j
 ·subst hij
  rw[getElem?_set] at e
  simp only[if_true] at e
  split at e <;> cases e
 ·rw[getElem?_set_ne hij] at e;exact h.1 j es e,fun j n c fs e=>h.2 j n c fs (yL (s:=some (.val d)) rfl rfl e).2⟩
theorem wj(i:Nat):Yf (gNm i):=⟨fun d e τ τ1 h=>by
 unfold gNm at h ⊢;cases h;rw[set_set],fun d τ τ1 h n=>by unfold gNm at h;cases h;exact vv n⟩
theorem YX(i j:Nat):Yf (gPr i j):=⟨fun d e τ τ1 h=>by
 unfold gPr at h ⊢
 cases q:Y7 e with
 |none=>rw[q] at h;cases h
 |some xy=>
  obtain⟨x,y⟩:=xy
  rw[q] at h;cases h
  cases q2:Y7 d with
  |none=>rfl
  |some zw=>
   obtain⟨z,w⟩:=zw
   by_cases hij:i=j
   ·subst hij;simp[set_set]
   ·have e1:((τ.set i (some (.val x))).set j (some (.val y))).set i (some (.val z))=(τ.set i (some (.val z))).set j (some (.val y)):=by
     rw[List.set_comm _ _ (Ne.symm hij),set_set]
    simp only
    rw[e1,set_set]
    , fun d τ τ1 h n=>by
 unfold gPr at h
 cases q:Y7 d with
 |none=>rw[q] at h;cases h
 |some xy=>
  obtain⟨x,y⟩:=xy
  rw[q] at h;cases h
  exact vv (vv n)⟩
theorem um(k:Nat)(idx:List Nat)(τ:DS):∀(i:Nat) es,(vH k idx τ)[i]?≠some (some (.own es)):=fun i es e=>by
 unfold vH at e
 by_cases hi:i<k
 ·rw[getElem?_append_left (by simpa using hi),getElem?_replicate] at e
  simp[hi] at e
 ·rw[getElem?_append_right (by simpa using hi),getElem?_map] at e
  cases q:idx[i-(List.replicate k (none:Option Sl)).length]? with
  |none=>rw[q] at e;cases e
  |some j=>
   rw[q] at e
   simp only[Option.map_some,Option.some.injEq] at e
   unfold jP at e
   split at e <;> cases e
theorem jG(k:Nat)(idx:List Nat)(τ:DS):∀(i n:Nat) c fs,(vH k idx τ)[i]?≠some (some (.obj n c fs)):=fun i n c fs e=>by
 unfold vH at e
 by_cases hi:i<k
 ·rw[getElem?_append_left (by simpa using hi),getElem?_replicate] at e
  simp[hi] at e
 ·rw[getElem?_append_right (by simpa using hi),getElem?_map] at e
  cases q:idx[i-(List.replicate k (none:Option Sl)).length]? with
  |none=>rw[q] at e;cases e
  |some j=>
   rw[q] at e
   simp only[Option.map_some,Option.some.injEq] at e
   unfold jP at e
   split at e <;> cases e
theorem uo(k:Nat)(idx:List Nat)(τ:DS):jv (vH k idx τ):=⟨um k idx τ,jG k idx τ⟩
theorem Tn{k:Nat}{idx:List Nat}{τ:DS}{i:Nat}{c:Str}{fs:List (Str×D)}(e:(vH k idx τ)[i]?=some (some (.obr c fs))):∃j,k≤i∧idx[i-k]?=some j∧((∃n,τ[j]?=some (some (.obj n c fs)))∨τ[j]?=some (some (.obr c fs))):=by
 unfold vH at e
 by_cases hi:i<k
 ·rw[getElem?_append_left (by simpa using hi),getElem?_replicate] at e
  simp[hi] at e
 ·rw[getElem?_append_right (by simpa using hi),getElem?_map] at e
  simp only[List.length_replicate] at e
  cases q:idx[i-k]? with
  |none=>rw[q] at e;cases e
  |some j=>
   rw[q] at e
   simp only[Option.map_some,Option.some.injEq] at e
   unfold jP at e
   split at e <;> cases e
   ·exact⟨j,by lia,rfl,.inr (by assumption)⟩
   ·exact⟨j,by lia,rfl,.inl ⟨_,by assumption⟩⟩
theorem ObsOk.read{K:Frag}{F H:Hp}{τ:DS}{σ:St}(n:jv τ)(h:∀(i:Nat) (c:Str) (fs:List (Str×D)),τ[i]?=some (some (.obr c fs))→∃a C dx vs,σ[i]?=some (some (.ref a))∧H a=some (.ins C dx vs)∧nsIn K mainGlobals c=some (some (.ref C))∧Flds K F H c fs vs):ObsOk K F τ σ H:=
 ⟨fun i m c fs h=>absurd h (n.2 i m c fs),fun i j m c c' fs a _ h=>absurd h (n.2 i m c fs),h,fun i j m c c' fs a a' l _ h=>absurd h (n.2 i m c fs),fun i j c ds a l _ h=>absurd h (n.1 j ds)⟩
theorem RV.free_upd{K:Frag}{F H:Hp}{τ:DS}{σ:St}{p:Addr}{o:HO}(R:RV K F τ σ H)(n:jv τ)(hp:F p=none)(hl:H p=none∨∃vs,H p=some (.lst vs))(hq:∀(i:Nat) (c:Str) (a:Addr),ObS τ[i]? c→σ[i]?=some (some (.ref a))→p∉Lof H c a)(ho:∀a,o≠.own a:=by intro _ h;cases h):RV K F τ σ (upd H p o):=
 ⟨fun b u e=>by
  have:b≠p:=fun z=>by subst z;rw[hp] at e;cases e
  rw[zo this];exact R.fh b u e,R.len,R.val,fun i es e=>absurd e (n.1 i es),fun i j ds es a _ h=>absurd h (n.1 i ds),R.tt.step (fun _ _ e=>.inl e) (fun b o e n=>by
  have:b≠p:=fun z=>by
   subst z
   rcases hl with z|⟨vs,z⟩
   ·rw[z] at e;cases e
   ·rw[z] at e;cases e;exact n _ rfl
  rw[zo this];exact e) (ZI ho),R.ob.updL hl hq⟩
theorem RS.apart{K:Frag}{B Z F H:Hp}{τ:DS}{σ:St}{p:Addr}(R:RS K B Z F τ σ H)(n:jv τ)(hp:B p=none):∀(i:Nat) (c:Str) (a:Addr),ObS τ[i]? c→σ[i]?=some (some (.ref a))→p∉Lof H c a:=fun i c a h e hm=>by
 rcases h with ⟨m,fs,h⟩|⟨fs,h⟩
 ·exact n.2 i m c fs h
 ·obtain⟨C,dx,vs,h1,h2⟩:=R.ro i c fs a h e
  rw[Lof.ins (R.bh _ _ h1)] at hm
  obtain⟨ws,h3⟩:=h2 p hm
  rw[hp] at h3;cases h3
theorem RS.free_upd{K:Frag}{B Z F H:Hp}{τ:DS}{σ:St}{p:Addr}{vs:List V}(R:RS K B Z F τ σ H)(n:jv τ)(hb:B p=none)(hp:F p=none)(hl:H p=none∨∃vs,H p=some (.lst vs)):RS K B Z F τ σ (upd H p (.lst vs)):=
 ⟨R.rv.free_upd n hp hl (R.apart n hb),fun a o e=>by
  have:a≠p:=fun z=>by subst z;rw[hb] at e;cases e
  rw[zo this];exact R.bh a o e,R.zf,R.nb,fun i ds a h=>absurd h (n.1 i ds),fun i m c fs a h=>absurd h (n.2 i m c fs),fun a0 dx h1 h2 i m c fs h=>absurd h (n.2 i (m+1) c fs),R.ro⟩
theorem WS{K:Frag}{F H:Hp}{τ:DS}{σ:St}(k:Nat)(idx:List Nat)(R:RV K F τ σ H):RV K F (vH k idx τ) (vo k idx σ) H:=by
 refine⟨R.fh,by simp[vH,vo],fun i d e=>?_,fun i es e=>absurd e (um k idx τ i es),fun i j ds es a _ h=>absurd h (um k idx τ i ds),R.tt,ObsOk.read (uo k idx τ) fun i c fs e=>?_⟩
 rotate_left
 ·obtain⟨j,hk,hj,h⟩:=Tn e
  have es:∀v,σ[j]?=some (some v)→(vo k idx σ)[i]?=some (some v):=fun v h=>by
   unfold vo
   rw[getElem?_append_right (by simpa using hk),getElem?_map]
   simp[hj,h]
  rcases h with ⟨n,h⟩|h
  ·obtain⟨a,h1,C,dx,vs,h2,_,h4,h5,_⟩:=R.ob.at_ j n c fs h
   exact⟨a,C,dx,vs,es _ h1,h2,h4,h5⟩
  ·obtain⟨a,C,dx,vs,h1,h2,h4,h5⟩:=R.ob.rd j c fs h
   exact⟨a,C,dx,vs,es _ h1,h2,h4,h5⟩
 unfold vH at e
 unfold vo
 by_cases hi:i<k
 ·rw[getElem?_append_left (by simpa using hi),getElem?_replicate] at e
  simp[hi] at e
 ·rw[getElem?_append_right (by simpa using hi),getElem?_map] at e
  rw[getElem?_append_right (by simpa using hi),getElem?_map]
  simp only[List.length_replicate] at e ⊢
  cases q:idx[i-k]? with
  |none=>rw[q] at e;cases e
  |some j=>
   rw[q] at e
   simp only[Option.map_some,Option.some.injEq] at e
   have:τ[j]?=some (some (.val d)):=by
    unfold jP at e
    split at e <;> cases e
    assumption
   obtain⟨v,h1,h2⟩:=R.val j d this
   exact⟨v,by simp[h1],h2⟩
theorem zb3{K:Frag}{F H:Hp}{τ:DS}{σ:St}(k:Nat)(idx:List Nat)(R:RV K F τ σ H):RS K H F F (vH k idx τ) (vo k idx σ) H:=
 ⟨WS k idx R,Hh.refl H,Same.refl F,fun a o e=>.inl e,fun i ds a h=>absurd h (um k idx τ i ds),fun i m c fs a h=>absurd h (jG k idx τ i m c fs),fun a0 dx h1 h2 i m c fs h=>absurd h (jG k idx τ i (m+1) c fs),fun i c fs a h e=>by
  obtain⟨a',C,dx,vs,h1,h2,_,h5⟩:=(WS k idx R).ob.rd i c fs h
  rw[e] at h1;cases h1
  exact⟨C,dx,vs,h2,fun l hl=>(h5.own hl).2⟩⟩
noncomputable def vf(H:Hp)(p:Addr):Hp:=fun b=>if b=p then none else H b
theorem uW(H:Hp)(p:Addr):vf H p p=none:=by unfold vf;rw[if_pos rfl]
theorem ZP{H:Hp}{p b:Addr}(h:b≠p):vf H p b=H b:=by unfold vf;rw[if_neg h]
theorem YN(H:Hp)(p:Addr)(o:HO):upd (vf H p) p o=upd H p o:=by
 funext b;unfold upd vf;split <;> rfl
theorem XE{F1 H1 F2 Hm F5 H5:Hp}{acc:Addr}{ls:List V}(a:Ext F1 H1 F2 Hm)(hm:Hm acc=none)(b:Ext F2 (upd Hm acc (.lst ls)) F5 H5):Ext F1 H1 F5 (vf H5 acc)∧F5 acc=none:=by
 have hf5:F5 acc=none:=by
  cases q:F5 acc with
  |none=>rfl
  |some o=>
   rcases b.nw acc o q with z|z
   ·rw[zY a.fh hm] at z;cases z
   ·rw[zv] at z;cases z
 have h1:H1 acc=none:=vz a.hh hm
 have ha:H5 acc=some (.lst ls):=b.hh acc _ zv
 refine⟨⟨a.ff.trans b.ff,fun c o e=>?_,fun c o e=>?_,fun c o e=>?_,fun t=>?_⟩,hf5⟩
 ·have n:c≠acc:=fun z=>by subst z;rw[h1] at e;cases e
  rw[ZP n]
  exact((a.hh.trans (.of (yi hm))).trans b.hh) c o e
 ·have n:c≠acc:=fun z=>by subst z;rw[hf5] at e;cases e
  rw[ZP n];exact b.fh c o e
 ·rcases b.nw c o e with z|z
  ·exact a.nw c o z
  ·have n:c≠acc:=fun z'=>by subst z';rw[zv] at z;cases z
   rw[zo n] at z
   exact .inr (vz a.hh z)
 ·have t2:=b.tt ((a.tt t).step (F':=F2) (H':=upd Hm acc (.lst ls)) (fun _ _ e=>.inl e) (fun c o e _=>by rw[zo (zP e hm)];exact e) (ZI fun _ z=>nomatch z))
  exact t2.step (fun _ _ e=>.inl e) (fun c o e n=>by
   have:c≠acc:=fun z=>by subst z;rw[ha] at e;cases e;exact n _ rfl
   rw[ZP this];exact e) fun d a e=>by
   unfold vf at e
   split at e
   ·cases e
   ·exact e
noncomputable def FreeOk(scope:Scope)(N:List Str):List Str→List Nat→Prop
 |[],[]=>True
 |x::xs,j::js=>N[j]?=some x∧scope.names.lookup x=some .free∧FreeOk scope N xs js
 |_,_=>False
theorem FreeOk.len{scope:Scope}{N:List Str}:∀{xs:List Str} {js:List Nat},FreeOk scope N xs js→xs.length=js.length
 |[],[],_=>rfl
 |_::xs,_::js,h=>by rw[length_cons,length_cons,FreeOk.len h.2.2]
theorem FreeOk.get{scope:Scope}{N:List Str}:∀{xs:List Str} {js:List Nat} {p j:Nat},FreeOk scope N xs js→js[p]?=some j→∃x,xs[p]?=some x∧N[j]?=some x∧scope.names.lookup x=some .free
 |[],[],_,_,_,e=>by simp at e
 |x::xs,i::js,0,j,h,e=>by simp at e;subst e;exact⟨x,rfl,h.1,h.2.1⟩
 |x::xs,i::js,p+1,j,h,e=>by
  obtain⟨y,h1,h2⟩:=FreeOk.get (p:=p) h.2.2 (by simpa using e)
  exact⟨y,by simpa using h1,h2⟩
noncomputable def uu(osc scope:Scope):Bool:=(match scope.kind with | .function=>true|_=>false)&&scope.names.all (fun y=>match y.2 with
 |.cell=>false
 |.local=>(match scope.names.lookup y.1 with|some .local=>true|_=>false)
 |.free=>(match osc.names.lookup y.1 with|some .cell=>true|some .free=>true|_=>false)
 |_=>true)
theorem wJ{X:Cx}{scope:Scope}(h:uu X.env.scope scope=true):xP X scope:=by
 unfold uu at h
 rw[Bool.and_eq_true,all_eq_true] at h
 obtain⟨h1,h2⟩:=h
 refine⟨?_,fun y hy z=>?_,fun y hy z=>?_,fun y hy z=>?_⟩
 ·split at h1
  ·assumption
  ·cases h1
 ·have:=h2 y hy;rw[z] at this;cases this
 ·have:=h2 y hy;rw[z] at this
  simp only at this
  split at this
  ·assumption
  ·cases this
 ·have:=h2 y hy;rw[z] at this
  simp only at this
  split at this
  ·left;assumption
  ·right;assumption
  ·cases this
noncomputable def Mh(Y:Cx)(ifs:List Expr)(f:FT):Prop:=PTs Y ifs (tTs Y f)
theorem vb{Y:Cx}:Mh Y [] (fun _=>.ok true):=fun pins s σ H Q I z_=>by obtain⟨F,τ,R,h⟩:=z_;exact J7 pins s σ H Q I (h F H (Ext.refl R.fh))
theorem v6{Y:Cx}{c:Expr}{f:FT}(h:PDT Y c f):Mh Y [c] f:=zc2 h
section
variable{X:Cx}{scope:Scope}{tn fr:List Str}{idx:List Nat}{tg iter elt:Expr}{ifs:List Expr}{pos:Pos}{fi:FA}{set:FG}{ft:FT}{fe:FE}
structure CWH(K:Frag)(set:FG)(ft:FT)(fe:FE)(t0:DS)(ds xs:List D)(F1 H1:Hp)(acc:Addr)(i:Nat)(σ1:St)(Hc F2 Hm:Hp)(τ1:DS)(dn rs:List D)(vs:List V):Prop where
 a1:Ext F1 H1 F2 Hm
 a2:Hm acc=none
 a3:Hc=upd Hm acc (.lst vs)
 a4:Reps K F2 dn vs
 a5:RS K H1 F1 F2 τ1 σ1 Hc
 a6:jv τ1
 a7:∀d,set d τ1=set d t0
 a8:vk set ft fe t0 (ds.drop i)=.ok rs
 a9:xs=dn++rs
theorem jo(so:Yf set){Y:Cx}(hK:Y.K=X.K)(σ:St)(H:Hp)(Q:VK)(h:tFr X (yD tn.length idx fi set ft fe) σ H Q):VC (vo tn.length idx) (tI X fi) (tG Y set) (tTs Y ft) (tE Y fe) σ H Q:=by
 obtain⟨F,τ,R,h⟩:=h
 refine⟨F,τ,R,h.bind.imp fun ds gds J F1 H1 x io=>fun acc hacc=>?_⟩
 cases q:vk set ft fe (vH tn.length idx τ) ds with
 |no=>rw[q] at gds;exact gds.elim
 |ex c=>rw[q] at gds;exact gds.elim
 |ok xs=>
  rw[q] at gds
  obtain⟨hz,k⟩:=yz gds
  have R1:=R.ext x
  have hF1:F1 acc=none:=zY x.fh hacc
  refine⟨fun i m σ1 Hc=>m=ds.length-i∧i≤ds.length∧∃F2 Hm τ1 dn rs vs,CWH X.K set ft fe (vH tn.length idx τ) ds xs F1 H1 acc i σ1 Hc F2 Hm τ1 dn rs vs,⟨ds.length,by simp,zero_le _,F1,H1,_,[],xs,[],Ext.refl x.fh,hacc,rfl,Reps.nil,?_,uo _ _ _,fun _=>rfl,q,rfl⟩,?_⟩
  ·exact(zb3 tn.length idx R1).free_upd (uo _ _ _) hacc hF1 (.inl hacc)
  rintro i m σ1 Hc ⟨rfl,hi,F2,Hm,τ1,dn,rs,vs,x2,hm,rfl,r2,R2,n2,so2,cl,ex⟩
  obtain⟨i1,i2⟩:=io i F2 _ x2.ff R2.rv.fh
  by_cases hlt:i<ds.length
  ·have hd:ds.drop i=ds[i]::ds.drop (i+1):=List.drop_eq_getElem_cons hlt
   rw[hd,vk] at cl
   obtain⟨go,yl⟩:=i2 ds[i] (by simp[hlt])
   refine .inr ⟨go,fun y H' yy=>?_⟩
   obtain⟨F3,x3,r3⟩:=yl y H' yy
   refine⟨F3,τ1,ds[i],by rw[hK];exact(R2.ext x3).rv,by rw[hK];exact r3,?_⟩
   rw[so2]
   cases e1:set ds[i] (vH tn.length idx τ) with
   |no=>rw[e1] at cl;cases cl
   |ex c=>rw[e1] at cl;cases cl
   |ok τ2=>
    rw[e1] at cl
    simp only at cl
    intro σ2 _ RR _
    rw[hK] at RR
    have RR:=RR _ _ (R2.ext x3)
    have n3:=so.no _ _ _ e1 (uo _ _ _)
    have so3:∀d,set d τ2=set d (vH tn.length idx τ):=fun d=>so.ov d _ _ _ e1
    cases e2:ft τ2 with
    |no=>rw[e2] at cl;cases cl
    |ex c=>rw[e2] at cl;cases cl
    |ok b=>
     rw[e2] at cl
     refine⟨F3,τ2,by rw[hK];exact RR.rv,?_⟩
     rw[e2]
     intro F4 H4 x4
     have x34:=x3.trans x4
     cases b with
     |false=>
      simp only at cl
      rw[if_neg (by simp)]
      obtain⟨y1,y2⟩:=XE x2 hm x34
      have ha:H4 acc=some (.lst vs):=x34.hh acc _ zv
      have eH:H4=upd (vf H4 acc) acc (.lst vs):=by
       rw[YN];funext b;unfold upd;split
       ·rename_i z;subst z;exact ha
       ·rfl
      refine⟨ds.length-(i+1),by lia,rfl,hlt,F4,vf H4 acc,τ2,dn,rs,vs,y1,uW _ _,eH,r2.mono x34.ff,RR.ext x4,n3,so3,cl,ex⟩
     |true=>
      simp only at cl
      rw[if_pos rfl]
      cases e3:fe τ2 with
      |no=>rw[e3] at cl;cases cl
      |ex c=>rw[e3] at cl;cases cl
      |ok z=>
       rw[e3] at cl
       simp only at cl
       cases e4:vk set ft fe (vH tn.length idx τ) (ds.drop (i+1)) with
       |no=>rw[e4] at cl;cases cl
       |ex c=>rw[e4] at cl;cases cl
       |ok rs'=>
        rw[e4] at cl
        have ers:z::rs'=rs:=by simpa using cl
        refine⟨F4,τ2,by rw[hK];exact(RR.ext x4).rv,?_⟩
        rw[e3]
        intro v F5 H5 x5 r5
        rw[hK] at r5
        have x35:=x34.trans x5
        obtain⟨y1,y2⟩:=XE x2 hm x35
        refine⟨vs,x35.hh acc _ zv,?_,ds.length-(i+1),by lia,rfl,hlt,F5,vf H5 acc,τ2,dn++[z],rs',vs++[v],y1,uW _ _,by rw[YN],(r2.mono x35.ff).append (Reps.cons r5 Reps.nil),?_,n3,so3,e4,?_⟩
        ·have:=congrArg List.length ex
         rw[← ers,length_append,length_cons,r2.length] at this
         lia
        ·exact((RR.ext x4).ext x5).free_upd n3 hacc y2 (.inr ⟨_,x35.hh acc _ zv⟩)
        ·rw[ex,← ers,append_assoc];rfl
  ·have e:i=ds.length:=by lia
   subst e
   rw[List.drop_length,vk] at cl
   cases cl
   rw[append_nil] at ex
   subst ex
   exact .inl ⟨i1 (le_refl _),k acc vs F2 Hm (x.trans x2) hm r2⟩
theorem je(hfr:FreeOk scope X.N fr idx)(σ:St)(i:Nat)(v:V)(h:(vo tn.length idx σ)[i]?=some (some v)):∃(x:Str) (j:Nat),(tn++fr)[i]?=some x∧X.N[j]?=some x∧σ[j]?=some (some v)∧scope.names.lookup x=some .free:=by
 unfold vo at h
 by_cases hi:i<tn.length
 ·rw[getElem?_append_left (by simpa using hi),getElem?_replicate] at h
  simp[hi] at h
 ·rw[getElem?_append_right (by simpa using hi),getElem?_map] at h
  simp only[List.length_replicate] at h
  cases q:idx[i-tn.length]? with
  |none=>rw[q] at h;cases h
  |some j=>
   rw[q] at h
   simp only[Option.map_some,Option.some.injEq] at h
   obtain⟨x,h1,h2,h3⟩:=hfr.get q
   refine⟨x,j,by rw[getElem?_append_right (by lia)];exact h1,h2,?_,h3⟩
   cases z:σ[j]? with
   |none=>rw[z] at h;cases h
   |some o=>rw[z] at h;simp at h;rw[h]
theorem wm(hb:uu X.env.scope scope=true)(hc:X.calm=true)(hfr:FreeOk scope X.N fr idx)(so:Yf set)(hi:PDI X tg iter fi)
  (hg:∀s H C fp,PDG (X.comp scope (tn++fr) s H C fp) tg set) (ht:∀s H C fp,Mh (X.comp scope (tn++fr) s H C fp) ifs ft) (he:∀s H C fp,PDE (X.comp scope (tn++fr) s H C fp) elt fe)
  (hs:∀x,foldedSetIterable iter X.env x=pure x:=by intro _;rfl):PDF X (.ListComp elt [⟨tg,iter,ifs,0⟩] scope pos) (yD tn.length idx fi set ft fe):=
 PE.imp (Qe (s0:=vo tn.length idx) (g:=tG (X.comp scope (tn++fr) X.s₀ X.H₀ 0 []) set) (ti:=tTs (X.comp scope (tn++fr) X.s₀ X.H₀ 0 []) ft) (te:=tE (X.comp scope (tn++fr) X.s₀ X.H₀ 0 []) fe)
  (wJ hb) hc (fun σ _=>by simp[vo,hfr.len]) (je hfr) hi hg ht he hs) (jo so rfl)
theorem VV{i:Nat}{y:Str}{py spos:Pos}(hN:X.N.Nodup)(hiN:X.N[i]?=some y)(hy:X.env.scope.names.lookup y=some .local)
  (hsw:swapsWith (.ListComp elt [⟨tg,iter,ifs,0⟩] scope pos) (some (.Name y py)) spos.line X.env=pure true)
  (hb:uu X.env.scope scope=true) (hc:X.calm=true) (hfr:FreeOk scope X.N fr idx) (so:Yf set) (hi:PDI X tg iter fi)
  (hg:∀s H C fp,PDG (X.comp scope (tn++fr) s H C fp) tg set) (ht:∀s H C fp,Mh (X.comp scope (tn++fr) s H C fp) ifs ft) (he:∀s H C fp,PDE (X.comp scope (tn++fr) s H C fp) elt fe)
  (hs:∀x,foldedSetIterable iter X.env x=pure x:=by intro _;rfl):PDS X (.Assign [.Name y py] (.ListComp elt [⟨tg,iter,ifs,0⟩] scope pos) spos) (zI i fun τ=>(yD tn.length idx fi set ft fe τ).bind fun ds=>.ok (.lst ds)):=
 PS.imp (J9 (s0:=vo tn.length idx) (g:=tG (X.comp scope (tn++fr) X.s₀ X.H₀ 0 []) set) (ti:=tTs (X.comp scope (tn++fr) X.s₀ X.H₀ 0 []) ft) (te:=tE (X.comp scope (tn++fr) X.s₀ X.H₀ 0 []) fe) hN hiN hy hsw
  (wJ hb) hc (fun σ _=>by simp[vo,hfr.len]) (je hfr) hi hg ht he hs) fun E σ H ⟨B,Z,F,τ,R,h⟩=>by
  refine jo (X:=X) (tn:=tn) (idx:=idx) (fi:=fi) (ft:=ft) (fe:=fe) so (Y:=X.comp scope (tn++fr) X.s₀ X.H₀ 0 []) rfl σ H (fun x H1=>uC i x σ H1 E.nx) ⟨F,τ,R.rv,?_⟩
  have h':=h.of.bind
  refine h'.imp fun ds g p vs F1 H1 x hp r=>?_
  have x2:=x.trans (Ext.new (o:=.lst vs) x.fh hp)
  refine g _ _ _ x2.ff ((R.ext x2).set ?_)
  simp only[Rep]
  exact⟨p,vs,rfl,zv,r.mono (yi (zY x.fh hp))⟩
theorem Gj{i:Nat}{y:Str}{py spos:Pos}(hN:X.N.Nodup)(hiN:X.N[i]?=some y)(hy:X.env.scope.names.lookup y=some .local)
  (hsw:swapsWith (.ListComp elt [⟨tg,iter,ifs,0⟩] scope pos) (some (.Name y py)) spos.line X.env=pure true)
  (hb:uu X.env.scope scope=true) (hc:X.calm=true) (hfr:FreeOk scope X.N fr idx) (so:Yf set) (hi:PDI X tg iter fi)
  (hg:∀s H C fp,PDG (X.comp scope (tn++fr) s H C fp) tg set) (ht:∀s H C fp,Mh (X.comp scope (tn++fr) s H C fp) ifs ft) (he:∀s H C fp,PDE (X.comp scope (tn++fr) s H C fp) elt fe)
  (hs:∀x,foldedSetIterable iter X.env x=pure x:=by intro _;rfl):PDS X (.Assign [.Name y py] (.ListComp elt [⟨tg,iter,ifs,0⟩] scope pos) spos) (uz i (yD tn.length idx fi set ft fe)):=
 PS.imp (J9 (s0:=vo tn.length idx) (g:=tG (X.comp scope (tn++fr) X.s₀ X.H₀ 0 []) set) (ti:=tTs (X.comp scope (tn++fr) X.s₀ X.H₀ 0 []) ft) (te:=tE (X.comp scope (tn++fr) X.s₀ X.H₀ 0 []) fe) hN hiN hy hsw
  (wJ hb) hc (fun σ _=>by simp[vo,hfr.len]) (je hfr) hi hg ht he hs) fun E σ H ⟨B,Z,F,τ,R,h⟩=>by
  refine jo (X:=X) (tn:=tn) (idx:=idx) (fi:=fi) (ft:=ft) (fe:=fe) so (Y:=X.comp scope (tn++fr) X.s₀ X.H₀ 0 []) rfl σ H (fun x H1=>uC i x σ H1 E.nx) ⟨F,τ,R.rv,?_⟩
  exact h.of.imp fun ds g p vs F1 H1 x hp r=>g _ F1 _ x.ff ((R.ext x).setO hp r)
end
section
variable{prog:Program}{w:World}{A:Around}{E:Value→Shared→Prop}{s:Shared}{z TI TO i1 i2:Addr}{n1 n2:Nat}{P1 P2:Nat→Value→Prop}{st1 st2:Nat→Heap→Prop}{rd1 rd2:Heap→Prop}
end
theorem L6{X:Cx}{pins:List (Addr×Obj)}{σ:St}{H:Hp}{s:Shared}{h':Heap}{t':Nat}{ch:List Addr}{p:Addr}{xs:List V}{its:List Value}(I:Inv X pins σ H s)(k:∀b o,b∉ch→s.heap.get? b=some o→h'.get? b=some o)(hf:∀b∈ch,ZY X pins H b)
  (hp:s.heap.objs.size≤p) (ht:IsTup h' p its.toArray) (hv:Vals xs its) (hz:xs.length≤sizeLine) :
  Inv X pins σ (upd H p (.tup xs)) { s with heap:=h',toks:=t' }:=by
 have hn:H p=none:=I.hok.fresh hp
 have lt:∀{b:Addr} {o:Obj},s.heap.get? b=some o→b≠p:=fun e=>ne_of_lt (lt_of_lt_of_le (Heap.lt_size e) hp)
 refine I.step (g':=s.gens) (d':=s.drawn) (ch:=ch) (fun b hb=>?_) (fun b o _ _ hc e _=>k b o hc e) (fun b o _ _ hc e _=>⟨o.slots,k b o hc e⟩) (fun b o _ e n=>by rw[zo (lt e)];exact n)
  (fun b o hc e=>⟨o,k b o hc e⟩) (fun b ys e=>by rw[zo (zP e hn)];exact e) (fun b o u e=>by rw[zo (zP e hn)];exact e) (fun b ps e=>⟨#[],by rw[zo (zP e hn),e];simp⟩) (fun m hm=>?_) (fun b u e=>?_) I.bare
 ·obtain⟨f0,f1,f2,f3,f4,f5⟩:=hf b hb
  exact⟨f3,f1,f4,f5⟩
 ·obtain⟨o,es,ep,ho,r⟩:=hm
  exact⟨o,es,ep,k _ o (fun z=>(hf _ z).2.1 rfl) ho,r⟩
 ·by_cases hb:b=p
  ·subst hb;rw[zv] at e;cases e
   exact⟨hz,its,hv,ht⟩
  ·rw[zo hb] at e
   refine(I.hok b u e).stay (fun c v hc q=>k c v ?_ q) (fun c q=>by rw[zo (zP q hn)];exact q) fun c ys q=>by rw[zo (zP q hn)];exact q
   intro z
   rcases hc with q|q
   ·subst q;rw[(hf c z).1] at e;cases e
   ·rw[(hf c z).1] at q;cases q
noncomputable def zy(c:Nat):D:=.str ⟨#[c]⟩
noncomputable def uK(x:Str):List D:=x.cps.toList.map zy
noncomputable def Its(x:Str):It:=⟨fun i _=>i<x.cps.size,fun i H y H'=>H'=H∧∃c,x.cps[i]?=some c∧y=.str ⟨#[c]⟩,fun i _=>x.cps.size≤i⟩
theorem Mp{P:Program}{w:World}{K:Frag}{tg:Expr}{it:Addr}{x:Str}{t:Tok}{ty:String}(hty:ty = "str_ascii_iterator" ∨ ty = "str_iterator"):X9 P w K tg (Its x) [it] it (fun k h=>h.IsStrIter it ty x t k) where
 mem:=by simp
 obj:=fun i h ⟨o,e,c,d⟩ b hb=>by
  have z:b=it:=by simpa using hb
  subst z
  exact⟨o,e,fun v z=>by rw[d] at z;cases z⟩
 keep:=fun i h h' ⟨o,e,r⟩ k=>⟨o,k it (by simp) o e,r⟩
 item:=by
  intro X hP hw hK hc i pins s σ H E I hf st hg
  subst hP hw hK
  obtain⟨f0,f1,f2,f3,f4,f5⟩:=hf it (by simp)
  have hh:X.A.handled=none:=I.ok.hd hc
  have W:Walks X.prog X.w X.A it [it] [it] x.cps.size (SignAt x) (fun i h=>h.IsStrIter it ty x t i):=by
   rcases hty with rfl|rfl
   ·exact Walks.strAscii hh it x t
   ·exact Walks.strWide hh it x t
  refine W.item i s _ _ hg st fun v h' tk hv st' kk=>?_
  obtain⟨c,u,ec,rfl⟩:=hv
  have I1:Inv X pins σ H { s with heap:=h',toks:=tk }:=I.turned (fun b o hb e=>kk b o (by simpa using hb) e) f0 f1 f3 f4 f5
  obtain⟨o,e,cc,d⟩:=id st'
  exact⟨_,rfl,Uw (s:={ s with heap:=h',toks:=tk }) e cc d (by rcases hty with rfl|rfl <;> decide) ⟨.str ⟨#[c]⟩,H,I1,⟨u,rfl⟩,⟨rfl,c,ec,rfl⟩,st',fun b hb=>(hf b hb).1⟩⟩
 done:=by
  intro X hP hw hK hc i pins s σ H E I hf st hg
  subst hP hw hK
  obtain⟨f0,f1,f2,f3,f4,f5⟩:=hf it (by simp)
  have hh:X.A.handled=none:=I.ok.hd hc
  have hx:x.cps[i]?=none:=by have:x.cps.size≤i:=hg;simp;lia
  rcases hty with rfl|rfl
  ·exact wpAny_pyNext_ascii_end hh st hx fun h' eb=>⟨rfl,I.turned (t':=s.toks) (fun b o hb e=>eb b o hb e) f0 f1 f3 f4 f5⟩
  ·exact wpAny_pyNext_wide_end hh st hx fun h' eb=>⟨rfl,I.turned (t':=s.toks) (fun b o hb e=>eb b o hb e) f0 f1 f3 f4 f5⟩
 self:=fun _ _ _ _ _ st h=>by
  rcases hty with rfl|rfl
  ·exact wpAny_pyIter_striter_ascii st h
  ·exact wpAny_pyIter_striter_wide st h
section
variable{X:Cx}{pos:Pos}{e tg:Expr}{es:List Expr}{fe:FE}{fs:FA}
theorem zt2{K:Frag}{F1:Hp}{x:Str}:JN K (Its x) F1 (uK x):=fun i F H f1 f2=>by
 have hl:(uK x).length=x.cps.size:=by simp[uK]
 refine⟨fun h=>by rw[hl] at h;exact h,fun d hd=>?_⟩
 have hi:i<x.cps.size:=by have:=(List.getElem?_eq_some_iff.mp hd).1;rw[hl] at this;exact this
 refine⟨hi,fun y H' yy=>?_⟩
 obtain⟨e1,c,ec,rfl⟩:=yy
 subst e1
 refine⟨F,Ext.refl f2,?_⟩
 have:d=zy c:=by
  simp only[uK,getElem?_map] at hd
  have e2:x.cps.toList[i]?=some c:=by simpa using ec
  rw[e2] at hd
  exact(Option.some.inj hd).symm
 subst this
 simp only[zy,Rep]
noncomputable def Itd(hi:Int)(n:Nat):It:=⟨fun i _=>i<n,fun i H x H'=>H'=H∧x=.int (hi-i),fun i _=>n≤i⟩
theorem Vw{P:Program}{w:World}{K:Frag}{tg:Expr}(it:Addr)(hi:Int)(n:Nat):X9 P w K tg (Itd hi n) [it] it (fun i h=>IsRangeIter h it (hi+(i:Nat)*(-1)) ((n:Int)-(i:Nat)) (-1)) where
 mem:=by simp
 obj:=fun i h st b hb=>by
  have e:b=it:=by simpa using hb
  subst e
  exact⟨_,st,fun v z=>by
   have z':Data.fields _=Data.cell v:=z
   cases z'⟩
 keep:=fun i h h' st k=>k it (by simp) _ st
 item:=by
  intro X hP hw hK hc i pins s σ H E I hf st hg
  subst hP hw hK
  obtain⟨f0,f1,f2,f3,f4,f5⟩:=hf it (by simp)
  have W:=Walks.range (prog:=X.prog) (w:=X.w) (I.ok.hd hc) it hi (-1) n
  refine W.item i s _ _ hg st fun v h' tk hv st' kk=>?_
  obtain⟨t,rfl⟩:=hv
  have I1:Inv X pins σ H { s with heap:=h',toks:=tk }:=I.turned (fun b o hb e=>kk b o (by simpa using hb) e) f0 f1 f3 f4 f5
  refine⟨_,rfl,Uw (s:={ s with heap:=h',toks:=tk }) (n := "range_iterator") st' rfl rfl (by decide) ⟨.int (hi-i),H,I1,⟨t,?_⟩,⟨rfl,rfl⟩,st',fun b hb=>(hf b hb).1⟩⟩
  congr 1
  lia
 done:=by
  intro X hP hw hK hc i pins s σ H E I hf st hg
  subst hP hw hK
  obtain⟨f0,f1,f2,f3,f4,f5⟩:=hf it (by simp)
  exact wpAny_pyNext_range_end (I.ok.hd hc) st (by have:n≤i:=hg;lia) fun h' eb=>⟨rfl,I.turned (t':=s.toks) (fun b o hb e=>eb b o hb e) f0 f1 f3 f4 f5⟩
 self:=fun _ _ _ _ _ st h=>wpAny_pyIter_rangeiter st h
end
section
variable{X:Cx}{pos:Pos}{e tg:Expr}{es:List Expr}{fe:FE}{fs:FA}
noncomputable def len1:D→Rs D
 |.lst ds=>.ok (.int ds.length)
 |.tup ds=>.ok (.int ds.length)
 |.scr ns=>.ok (.int ns.length)
 |.str x=>if x.length≤sizeLine then .ok (.int x.length) else .no
 |_=>.no
noncomputable def yN:List D→Rs D
 |[d]=>len1 d
 |_=>.no
theorem wg:Zw X (.builtin "len") yN:=⟨_,call_len_seq.or Vr,fun F H vs ds Q fh r h=>by
 match ds,r,h with
 |[d],r,h=>
  obtain⟨v,rfl,q⟩:=r.one
  cases d with
  |lst ds=>
   simp only[Rep] at q;obtain⟨a,ws,rfl,e1,t⟩:=q
   refine .inl ⟨a,ws,rfl,.inl (SqL.of (fh _ _ e1)),?_⟩
   rw[← t.length];exact h _ F H (Ext.refl fh) (by simp only[Rep])
  |tup ds=>
   simp only[Rep] at q;obtain⟨a,ws,rfl,e1,t⟩:=q
   refine .inl ⟨a,ws,rfl,.inr (Same.seqT fh e1),?_⟩
   rw[← t.length];exact h _ F H (Ext.refl fh) (by simp only[Rep])
  |scr ns=>
   simp only[Rep] at q;obtain⟨a,rfl,e1⟩:=q
   refine .inl ⟨a,_,rfl,.inl (fh.seq e1),?_⟩
   rw[length_map];exact h _ F H (Ext.refl fh) (by simp only[Rep])
  |str x=>
   simp only[Rep] at q;subst q
   obtain⟨z,h⟩:=yz h
   exact .inr ⟨x,rfl,z,h _ F H (Ext.refl fh) (by simp only[Rep])⟩
  |_=>exact h.elim
 |[],_,h=>exact h.elim
 |_::_::_,_,h=>exact(show False from h).elim⟩
noncomputable def v8(ds:List D):Rs D:=match X6 ds with
 | some (i,j)=>.ok (.int (if j<i then j else i))
 |none=>.no
noncomputable def Xi(ds:List D):Rs D:=match X6 ds with
 | some (i,j)=>.ok (.int (if j > i then j else i))
 |none=>.no
theorem Zo(hc:X.calm=true):Zw X (.builtin "min") v8:=⟨_,Md hc,fun F H vs ds Q fh r h=>by
 unfold v8 at h
 cases q:X6 ds with
 |none=>rw[q] at h;exact h.elim
 |some ij=>
  obtain⟨i,j⟩:=ij
  rw[q] at h
  have e:=Vi q
  subst e
  obtain⟨v,w,rfl,r1,r2⟩:=r.two
  simp only[Rep] at r1 r2;subst r1;subst r2
  exact⟨i,j,rfl,h _ F H (Ext.refl fh) (by simp only[Rep])⟩⟩
theorem zk0(hc:X.calm=true):Zw X (.builtin "max") Xi:=⟨_,Me hc,fun F H vs ds Q fh r h=>by
 unfold Xi at h
 cases q:X6 ds with
 |none=>rw[q] at h;exact h.elim
 |some ij=>
  obtain⟨i,j⟩:=ij
  rw[q] at h
  have e:=Vi q
  subst e
  obtain⟨v,w,rfl,r1,r2⟩:=r.two
  simp only[Rep] at r1 r2;subst r1;subst r2
  exact⟨i,j,rfl,h _ F H (Ext.refl fh) (by simp only[Rep])⟩⟩
theorem rangeSize_down(a b:Int):Builtin.Range.rangeSize a b (-1)=((a-b).toNat:Int):=by
 unfold Builtin.Range.rangeSize
 rw[if_neg (by decide)]
 by_cases h:a > b
 ·rw[if_pos h,show(- -1:Int)=1 from rfl,Int.ediv_one];lia
 ·rw[if_neg h];lia
theorem small_down{a b:Int}(ha : -(2 ^ 62)≤a)(ha':a<2 ^ 62)(hb : -(2 ^ 62)≤b)(hb':b<2 ^ 62):Builtin.Range.small a b (-1)=true:=by
 unfold Builtin.Range.small
 rw[rangeSize_down]
 simp only[Builtin.Range.rangeFitsLong,Bool.and_eq_true,Bool.or_eq_true,decide_eq_true_eq,beq_iff_eq,show ¬ (-1:Int) > 0 by decide,if_false]
 lia
noncomputable def iRngD(ta:TA):TI:=fun σ H R=>ta σ H fun vs H1=>∃i j:Int,vs=[.int i,.int j,.int (-1)]∧(-(2 ^ 62)≤i∧i<2 ^ 62∧-(2 ^ 62)≤j∧j<2 ^ 62)∧R (Itd i (i-j).toNat) H1
theorem Gc{a b c:Expr}{ta:TA}{p pos:Pos}(hg:Gl X "range")(hm:X.mg "range" = none)(ha:PA X [a,b,c] ta)(hs:starEach [a,b,c] X.env=[(false,eval a X.env),(false,eval b X.env),(false,eval c X.env)]:=by rfl)(hs2:starEach [b,c] X.env=[(false,eval b X.env),(false,eval c X.env)]:=by rfl) :
  PI X tg (.Call (.Name "range" p) [a,b,c] [] pos) (iRngD ta):=by
 intro pins s σ H R I h
 refine Call_ (wS I hg hm boot_range (PyProof.Rows.callWith_type1 (thn (ha pos pins s σ H _ I h) fun us s1 z_=>?_) (by rw[hs,hs2]) (by rw[hs2];rfl)))
 obtain⟨vs,H1,I1,r1,q1⟩:=z_
 obtain⟨i,j,e,⟨q1,q2,q3,q4⟩,q⟩:=q1
 subst e
 cases r1 with
 |cons r rr=>
  cases rr with
  |cons r' rr=>
   cases rr with
   |cons r'' rr=>
    cases rr
    obtain⟨t,rfl⟩:=r
    obtain⟨t',rfl⟩:=r'
    obtain⟨t'',rfl⟩:=r''
    refine call_range_3 (by decide) ?_ (.inl (PyProof.noPylong_small (by decide)))
    have I2:Inv X pins σ H1 { s1 with heap:=s1.heap.push { cls:=.type "range", data:=.fields #[.int i t,.int j t',.int (-1) t''] },toks:=s1.toks }:=I1.kept fun b o e=>get?_push_of_some _ e
    refine wpAny_pyIter_range (IsRange.new ..) (small_down q1 q2 q3 q4) ?_
    refine⟨(s1.heap.push { cls:=.type "range", data:=.fields #[.int i t,.int j t',.int (-1) t''] }).objs.size,[(s1.heap.push { cls:=.type "range", data:=.fields #[.int i t,.int j t',.int (-1) t''] }).objs.size],_,_,H1,rfl,
     I2.kept (t':=s1.toks) fun b o e=>get?_push_of_some _ e,Vw _ i (i-j).toNat,?_,fun b hb=>?_,q⟩
    ·have e1:i+((0:Nat):Int)*(-1)=i:=by simp
     have e2:(((i-j).toNat:Nat):Int)-((0:Nat):Int)=Builtin.Range.rangeSize i j (-1):=by rw[rangeSize_down];lia
     show IsRangeIter _ _ (i+((0:Nat):Int)*(-1)) ((((i-j).toNat:Nat):Int)-((0:Nat):Int)) (-1)
     rw[e1,e2]
     exact Heap.get?_push_size _ rfl
    ·have e:b=(s1.heap.push { cls:=.type "range", data:=.fields #[.int i t,.int j t',.int (-1) t''] }).objs.size:=by simpa using hb
     subst e
     exact I2.fpOk (le_refl _) (I2.hok.fresh (le_refl _))
noncomputable def Z1(hi:Int)(n:Nat):List D:=(List.range n).map fun (k:Nat)=>D.int (hi-k)
theorem zh8{K:Frag}{F1:Hp}{lo:Int}{n:Nat}:JN K (Itd lo n) F1 (Z1 lo n):=fun i F H f1 f2=>by
 have hl:(Z1 lo n).length=n:=by simp[Z1]
 refine⟨fun h=>by rw[hl] at h;exact h,fun d hd=>?_⟩
 have hi:i<n:=by have:=(List.getElem?_eq_some_iff.mp hd).1;rw[hl] at this;exact this
 refine⟨hi,fun x H' y=>?_⟩
 obtain⟨e1,y⟩:=y
 subst e1
 refine⟨F,Ext.refl f2,?_⟩
 simp[Z1,hi] at hd
 subst hd
 simp only[Rep];exact y
noncomputable def Ur:List D→Option (Int×Int)
 | [.int i,.int j,.int (-1)]=>some (i,j)
 |_=>none
theorem La{ds:List D}{i j:Int}(h:Ur ds=some (i,j)):ds=[.int i,.int j,.int (-1)]:=by
 unfold Ur at h;split at h <;> cases h;rfl
noncomputable def GU(fs:FA):FA:=fun τ=>(fs τ).bind fun ds=>match Ur ds with
 | some (i,j)=>if (-(2 ^ 62)≤i∧i<2 ^ 62)∧-(2 ^ 62)≤j∧j<2 ^ 62 then .ok (Z1 i (i-j).toNat) else .no
 |none=>.no
theorem Jd{a b c:Expr}{p:Pos}(hg:Gl X "range")(hm:X.mg "range" = none)(ha:PDA X [a,b,c] fs)(hs:starEach [a,b,c] X.env=[(false,eval a X.env),(false,eval b X.env),(false,eval c X.env)]:=by rfl)(hs2:starEach [b,c] X.env=[(false,eval b X.env),(false,eval c X.env)]:=by rfl) :
  PDI X tg (.Call (.Name "range" p) [a,b,c] [] pos) (GU fs):=
 PI.imp (Gc hg hm ha hs hs2) fun σ H R z_=>by
  obtain⟨F,τ,Rv,h⟩:=z_
  refine tAs.of Rv h.bind fun ds vs F1 H1 g x R1 r=>?_
  cases q1:Ur ds with
  |none=>rw[q1] at g;exact g.elim
  |some ij=>
   obtain⟨i,j⟩:=ij
   rw[q1] at g
   have e:=La q1
   subst e
   simp only[Reps] at r
   obtain⟨v,r1,e1,q,w,r2,e2,q',u,r3,e3,q'',e4⟩:=r
   simp only[Rep] at q q' q'';subst q q' q'' e4 e3 e2 e1
   obtain⟨z,g⟩:=yz g
   exact⟨i,j,rfl,⟨z.1.1,z.1.2,z.2.1,z.2.2⟩,g _ F1 H1 x zh8⟩
noncomputable def MtD(X:Cx)(id:String)(g:D→List D→Rs D):Prop:=∃r,MtR X id r∧∀F H v vs d ds Q,Same F H→Rep X.K F d v→Reps X.K F ds vs→Ok X (g d ds) (Ev X.K F H Q)→r v vs H Q
noncomputable def ZM(T:String):D→Bool
 |.str _=>T = "str"
 |.int _=>T = "int"
 |.lst _=>T = "list"
 |.scr _=>T = "list"
 |_=>false
noncomputable def JB(T:String)(g:D→List D→Rs D)(fo:FE):FE:=fun τ=>(fo τ).bind fun d=>if ZM T d=true then g d [] else .no
noncomputable def eMt(T:String)(g:D→List D→Rs D)(fo:FE)(fa:FA):FE:=fun τ=>(fo τ).bind fun d=>if ZM T d=true then (fa τ).bind fun ds=>g d ds else .no
theorem Ml{F H:Hp}{d:D}{v:V}{T:String}(fh:Same F H)(r:Rep X.K F d v)(h:ZM T d=true):tyV X.K T v H:=by
 cases d with
 |str x=>simp only[Rep] at r;subst r;show T = "str"; simpa[ZM] using h
 |int x=>simp only[Rep] at r;subst r;show T = "int"; simpa[ZM] using h
 |lst ds=>simp only[Rep] at r;obtain⟨a,vs,rfl,e,t⟩:=r;exact .inl ⟨by simpa[ZM] using h,vs,SqL.of (fh _ _ e)⟩
 |scr ds=>simp only[Rep] at r;obtain⟨a,rfl,e⟩:=r;exact .inl ⟨by simpa[ZM] using h,_,fh.seq e⟩
 |_=>simp[ZM] at h
theorem zm0{X:Cx}{α:Type}{c:Prop}[Decidable c]{r:Rs α}{P:α→Prop}(h:Ok X (if c then r else .no) P):c∧Ok X r P:=by
 by_cases z:c
 ·rw[if_pos z] at h;exact⟨z,h⟩
 ·rw[if_neg z] at h;exact h.elim
theorem Qj{T id:String}{name:Str}{o:Expr}{apos cpos:Pos}{fo:FE}{g:D→List D→Rs D}(pa:PlainAttrs T)(slot:Slot T name id)(hty:typeOf (.builtin id)=pure (.type "method_descriptor"))(hm:MtD X id g)(ho:PDE X o fo)
  (hbase:attributeBase o name X.env (eval o X.env)=eval o X.env:=by rfl) (hline:(apos.endLine==cpos.line)=true:=by rfl):PDE X (.Call (.Attribute o name apos) [] [] cpos) (JB T g fo):=by
 obtain⟨r,h1,h2⟩:=hm
 exact PE.imp (zp9 pa slot hty h1 ho hbase hline) fun σ H Q z_=>by
  obtain⟨Fz,τ,R,h⟩:=z_
  refine tE.of R h.bind fun d v F1 H1 q x R1 rr=>?_
  obtain⟨z,q⟩:=zm0 q
  exact⟨Ml R1.fh rr z,h2 F1 H1 v [] d [] Q R1.fh rr Reps.nil (q.imp fun d e=>e.ext x)⟩
theorem M9{T id:String}{name:Str}{o:Expr}{apos cpos:Pos}{fo:FE}{g:D→List D→Rs D}(pa:PlainAttrs T)(slot:Slot T name id)(hty:typeOf (.builtin id)=pure (.type "method_descriptor"))(hm:MtD X id g)(ho:PDE X o fo)(ha:PDA X (e::es) fs)
  (hbase:attributeBase o name X.env (eval o X.env)=eval o X.env:=by rfl)
  (hfew:((backTo cpos (starEach (e::es) X.env)).all (fun x=>!x.1)&&(backToKw cpos (keywordEach [] X.env)).all (fun x=>x.1.isSome)
   && decide ((e::es).length+([]:List Keyword).length+(if ([]:List Keyword).isEmpty then 0 else 1)<30))=true:=by rfl)
  (hline:(apos.endLine==cpos.line)=true:=by rfl) (hs:starEach (e::es) X.env=(false,eval e X.env)::starEach es X.env:=by rfl) (hplain:(backTo cpos (starEach es X.env)).any (·.1)=false:=by rfl) :
  PDE X (.Call (.Attribute o name apos) (e::es) [] cpos) (eMt T g fo fs):=by
 obtain⟨r,h1,h2⟩:=hm
 exact PE.imp (M5 pa slot hty h1 ho ha hbase hfew hline hs hplain) fun σ H Q z_=>by
  obtain⟨Fz,τ,R,h⟩:=z_
  refine tE.of R h.bind fun d v F1 H1 q x R1 rr=>?_
  obtain⟨z,q⟩:=zm0 q
  exact⟨Ml R1.fh rr z,tAs.of R1 q.bind fun ds vs F2 H2 q2 x2 R2 rs=>h2 F2 H2 v vs d ds Q R2.fh (rr.mono x2.ff) rs (q2.imp fun d e=>e.ext (x.trans x2))⟩
noncomputable def upD:D→List D→Rs D
 |.str x,[]=>if x.length≤5000000 then .ok (.str (Txt.upper x)) else .no
 |_,_=>.no
noncomputable def loD:D→List D→Rs D
 |.str x,[]=>if x.length≤5000000 then .ok (.str (Txt.lower x)) else .no
 |_,_=>.no
theorem mt_up:MtR X "str.upper" (fun v vs H Q=>∃x,v=.str x∧vs=[]∧x.length≤5000000∧Q (.str (Txt.upper x)) H):=by
 intro pins s σ H v vs u us Q I r rs h
 obtain⟨x,rfl,rfl,hx,q⟩:=h
 obtain⟨t,rfl⟩:=r
 cases rs
 exact SC.upper (fit_upper (by lia)) ⟨.str (Txt.upper x),H,I.tok _,⟨_,rfl⟩,q⟩
theorem mt_lo:MtR X "str.lower" (fun v vs H Q=>∃x,v=.str x∧vs=[]∧x.length≤5000000∧Q (.str (Txt.lower x)) H):=by
 intro pins s σ H v vs u us Q I r rs h
 obtain⟨x,rfl,rfl,hx,q⟩:=h
 obtain⟨t,rfl⟩:=r
 cases rs
 exact SC.lower (fit_lower (by lia)) ⟨.str (Txt.lower x),H,I.tok _,⟨_,rfl⟩,q⟩
theorem md_up:MtD X "str.upper" upD:=⟨_,mt_up,fun F H v vs d ds Q fh r rs h=>by
 cases d with
 |str x=>
  cases ds with
  |nil=>
   simp only[Rep] at r;subst r
   simp only[Reps] at rs;subst rs
   obtain⟨z,h⟩:=yz h
   exact⟨x,rfl,rfl,z,h _ F H (Ext.refl fh) (by simp only[Rep])⟩
  |cons a b=>exact h.elim
 |_=>cases ds <;> exact h.elim⟩
theorem md_lo:MtD X "str.lower" loD:=⟨_,mt_lo,fun F H v vs d ds Q fh r rs h=>by
 cases d with
 |str x=>
  cases ds with
  |nil=>
   simp only[Rep] at r;subst r
   simp only[Reps] at rs;subst rs
   obtain⟨z,h⟩:=yz h
   exact⟨x,rfl,rfl,z,h _ F H (Ext.refl fh) (by simp only[Rep])⟩
  |cons a b=>exact h.elim
 |_=>cases ds <;> exact h.elim⟩
theorem Gm{o:Expr}{apos cpos:Pos}{fo:FE}(ho:PDE X o fo)(hbase:attributeBase o "upper" X.env (eval o X.env)=eval o X.env:=by rfl)(hline:(apos.endLine==cpos.line)=true:=by rfl):PDE X (.Call (.Attribute o "upper" apos) [] [] cpos) (JB "str" upD fo):=
 Qj F.plainAttrs_str F.slot_str_upper F.type_str_upper md_up ho hbase hline
theorem Go{o:Expr}{apos cpos:Pos}{fo:FE}(ho:PDE X o fo)(hbase:attributeBase o "lower" X.env (eval o X.env)=eval o X.env:=by rfl)(hline:(apos.endLine==cpos.line)=true:=by rfl):PDE X (.Call (.Attribute o "lower" apos) [] [] cpos) (JB "str" loD fo):=
 Qj F.plainAttrs_str F.slot_str_lower F.type_str_lower md_lo ho hbase hline
end
section
variable{X:Cx}{pos:Pos}{e tg:Expr}{es:List Expr}{fe:FE}{fs:FA}
noncomputable def Zg(d:D)(T:String):Rs Bool:=match d with
 |.raw _=>.no
 |.exc _=>.no
 |d=>if T = "str" then .ok (match d with | .str _=>true|_=>false)
  else if T = "int" then .ok (match d with | .int _=>true | .bl _=>true|_=>false)
  else if T = "bool" then .ok (match d with | .bl _=>true|_=>false)
  else if T = "list" then .ok (match d with | .lst _=>true | .scr _=>true|_=>false)
  else if T = "tuple" then .ok (match d with | .tup _=>true|_=>false)
  else .no
noncomputable def JQ:List D→Option (D×String)
 | [d,.raw (.ty T)]=>some (d,T)
 |_=>none
theorem Mn{ds:List D}{d:D}{T:String}(h:JQ ds=some (d,T)):ds=[d,.raw (.ty T)]:=by
 unfold JQ at h;split at h <;> cases h;rfl
noncomputable def GP(ds:List D):Rs D:=match JQ ds with
 | some (d,T)=>(Zg d T).bind fun b=>.ok (.bl b)
 |none=>.no
theorem LM:CallR X (.builtin "isinstance") (fun vs H Q=>∃F d v T b,Same F H∧Rep X.K F d v∧vs=[v,.ty T]∧Zg d T=.ok b∧Q (.bl b) H):=by
 intro pins s σ H vs us Q I r h
 obtain⟨F,d,v,T,b,fh,rd,rfl,hb,q⟩:=h
 obtain⟨u,w,rfl,r1,r2⟩:=vals2 r
 cases r2
 have fin:∀{b':Bool},b=b'→EP X pins σ Q (.bool b') s:=fun e=>by subst e;exact⟨.bl _,H,I,rfl,q⟩
 have fin':∀{b':Bool},b=b'→EP X pins σ Q (.bool b') { s with toks:=s.toks+1 }:=fun e=>by subst e;exact⟨.bl _,H,I.tok _,rfl,q⟩
 have hT:T = "str" ∨ T = "int" ∨ T = "bool" ∨ T = "list" ∨ T = "tuple" := by
  by_cases h1:T = "str"; exact .inl h1
  by_cases h2:T = "int"; exact .inr (.inl h2)
  by_cases h3:T = "bool"; exact .inr (.inr (.inl h3))
  by_cases h4:T = "list"; exact .inr (.inr (.inr (.inl h4)))
  by_cases h5:T = "tuple"; exact .inr (.inr (.inr (.inr h5)))
  exfalso
  unfold Zg at hb
  cases d <;> simp[h1,h2,h3,h4,h5] at hb
 cases d with
 |raw _=>simp[Zg] at hb
 |exc _=>simp[Zg] at hb
 |non=>
  simp only[Rep] at rd;subst rd;cases r1
  rcases hT with rfl|rfl|rfl|rfl|rfl <;> simp[Zg] at hb <;> first
   | exact IsiPair.NoneType_str (fin' hb) | exact IsiPair.NoneType_int (fin' hb) | exact IsiPair.NoneType_bool (fin' hb) | exact IsiPair.NoneType_list (fin' hb) | exact IsiPair.NoneType_tuple (fin' hb)
 |bl k=>
  simp only[Rep] at rd;subst rd;cases r1
  rcases hT with rfl|rfl|rfl|rfl|rfl <;> simp[Zg] at hb <;> first
   | exact IsiPair.bool_str (fin' hb) | exact IsiPair.bool_int (fin hb) | exact IsiPair.bool_bool (fin hb) | exact IsiPair.bool_list (fin' hb) | exact IsiPair.bool_tuple (fin' hb)
 |int k=>
  simp only[Rep] at rd;subst rd;obtain⟨t,rfl⟩:=r1
  rcases hT with rfl|rfl|rfl|rfl|rfl <;> simp[Zg] at hb <;> first
   | exact IsiPair.int_str (fin' hb) | exact IsiPair.int_int (fin hb) | exact IsiPair.int_bool (fin' hb) | exact IsiPair.int_list (fin' hb) | exact IsiPair.int_tuple (fin' hb)
 |str k=>
  simp only[Rep] at rd;subst rd;obtain⟨t,rfl⟩:=r1
  rcases hT with rfl|rfl|rfl|rfl|rfl <;> simp[Zg] at hb <;> first
   | exact IsiPair.str_str (fin hb) | exact IsiPair.str_int (fin' hb) | exact IsiPair.str_bool (fin' hb) | exact IsiPair.str_list (fin' hb) | exact IsiPair.str_tuple (fin' hb)
 |lst k=>
  simp only[Rep] at rd;obtain⟨a,ws,rfl,e,t⟩:=rd;cases r1
  obtain⟨its,rr,⟨o,n,eo,c,_,_⟩,_⟩:=I.list (SqL.of (K:=X.K) (fh _ _ e))
  rcases hT with rfl|rfl|rfl|rfl|rfl <;> simp[Zg] at hb <;> first
   | exact IsiPair.list_str eo c (fin' hb) | exact IsiPair.list_int eo c (fin' hb) | exact IsiPair.list_bool eo c (fin' hb) | exact IsiPair.list_list eo c (fin hb) | exact IsiPair.list_tuple eo c (fin' hb)
 |scr k=>
  simp only[Rep] at rd;obtain⟨a,rfl,e⟩:=rd;cases r1
  obtain⟨its,rr,⟨o,n,eo,c,_,_⟩,_⟩:=I.list (fh.seq e)
  rcases hT with rfl|rfl|rfl|rfl|rfl <;> simp[Zg] at hb <;> first
   | exact IsiPair.list_str eo c (fin' hb) | exact IsiPair.list_int eo c (fin' hb) | exact IsiPair.list_bool eo c (fin' hb) | exact IsiPair.list_list eo c (fin hb) | exact IsiPair.list_tuple eo c (fin' hb)
 |tup k=>
  simp only[Rep] at rd;obtain⟨a,ws,rfl,e,t⟩:=rd;cases r1
  obtain⟨its,rr,⟨o,eo,c,_,_⟩,_⟩:=I.tuple (Same.seqT fh e)
  rcases hT with rfl|rfl|rfl|rfl|rfl <;> simp[Zg] at hb <;> first
   | exact IsiPair.tuple_str eo c (fin' hb) | exact IsiPair.tuple_int eo c (fin' hb) | exact IsiPair.tuple_bool eo c (fin' hb) | exact IsiPair.tuple_list eo c (fin' hb) | exact IsiPair.tuple_tuple eo c (fin hb)
theorem LL:Zw X (.builtin "isinstance") GP:=⟨_,LM,fun F H vs ds Q fh r h=>by
 unfold GP at h
 cases q:JQ ds with
 |none=>rw[q] at h;exact h.elim
 |some dT=>
  obtain⟨d,T⟩:=dT
  rw[q] at h
  have e:=Mn q
  subst e
  obtain⟨v,w,rfl,r1,r2⟩:=r.two
  simp only[Rep] at r2;subst r2
  simp only at h
  cases q2:Zg d T with
  |no=>rw[q2] at h;exact h.elim
  |ex c=>exfalso;unfold Zg at q2;cases d <;> simp at q2 <;> (repeat (first | (split at q2) | cases q2))
  |ok b=>rw[q2] at h;exact⟨F,d,v,T,b,fh,r1,rfl,q2,h _ F H (Ext.refl fh) (by simp only[Rep])⟩⟩
end
section
variable{X:Cx}{pos:Pos}{e tg:Expr}{es:List Expr}{fe:FE}{fs:FA}
noncomputable def rSlS:V→Option Int→Option Int→Hp→VK→Prop:=fun x lo hi H Q=>∃z,x=.str z∧z.length≤sizeLine∧Q (.str (Txt.slice z lo hi)) H
theorem sl_str:SlR X rSlS:=by
 intro pins s σ H x v vl vu lo hi sl Q I rx hs pl pu h
 obtain⟨z,rfl,hz,q⟩:=h
 obtain⟨t,rfl⟩:=rx
 refine⟨"str", _,F.slot_str_getitem.lookup,typeIs_str _ _ _,?_⟩
 obtain⟨o,e,c,d⟩:=hs
 have fin:∀t' k,EP X pins σ Q (.str (Txt.slice z lo hi) t') { s with toks:=k }:=fun t' k=>⟨.str _,H,I.tok _,⟨_,rfl⟩,q⟩
 have hl:=le_trans (Txt.slice_le z lo hi) hz
 cases pl with
 |none=>
  cases pu with
  |none=>exact wpAny_getItem_str_slice (l:=none) (u:=none) (st:=none) ⟨o,e,c,d⟩ rfl (post_val_or_str ⟨hl,fin⟩)
  |int j uj=>exact wpAny_getItem_str_slice (l:=none) (u:=some (j,uj)) (st:=none) ⟨o,e,c,d⟩ rfl (post_val_or_str ⟨hl,fin⟩)
 |int i ui=>
  cases pu with
  |none=>exact wpAny_getItem_str_slice (l:=some (i,ui)) (u:=none) (st:=none) ⟨o,e,c,d⟩ rfl (post_val_or_str ⟨hl,fin⟩)
  |int j uj=>exact wpAny_getItem_str_slice (l:=some (i,ui)) (u:=some (j,uj)) (st:=none) ⟨o,e,c,d⟩ rfl (post_val_or_str ⟨hl,fin⟩)
noncomputable def cutD(xs:List D)(lo hi:Option Int):List D:=(xs.drop (HT.sIx xs.length 0 lo)).take (HT.sIx xs.length xs.length hi-HT.sIx xs.length 0 lo)
noncomputable def slD(d:D)(lo hi:Option Int):Rs D:=match d with
 |.str x=>if x.length≤sizeLine then .ok (.str (Txt.slice x lo hi)) else .no
 |.lst ds=>.ok (.lst (cutD ds lo hi))
 |_=>.no
noncomputable abbrev FO:=DS→Rs (Option Int)
noncomputable def Xd:FO:=fun _=>.ok none
noncomputable def v7(fe:FE):FO:=fun τ=>(fe τ).bind fun d=>match d with
 |.int i=>.ok (some i)
 |_=>.no
noncomputable def tOs(X:Cx)(f:FO):TO:=fun σ H Q=>∃F τ,RV X.K F τ σ H∧Ok X (f τ) fun o=>∀F' H',Ext F H F' H'→Q o H'
noncomputable def PDO(X:Cx)(e:Option Expr)(f:FO):Prop:=PO X e (tOs X f)
theorem PO.imp{e:Option Expr}{t t':TO}(h:PO X e t)(f:∀σ H Q,t' σ H Q→t σ H Q):PO X e t':=fun pins s σ H Q I q=>h pins s σ H Q I (f _ _ _ q)
theorem VW:PDO X none Xd:=PO.imp zc6 fun σ H Q z_=>by obtain⟨F,τ,R,h⟩:=z_;exact h F H (Ext.refl R.fh)
theorem jZ(h:PDE X e fe):PDO X (some e) (v7 fe):=PO.imp (zc5 h) fun σ H Q z_=>by
 obtain⟨F,τ,R,h⟩:=z_
 refine tE.of R h.bind fun d v F1 H1 g x R1 r=>?_
 cases d with
 |int i=>simp only[Rep] at r;exact⟨i,r,g F1 H1 x⟩
 |_=>exact g.elim
noncomputable def eSl(fe:FE)(fl fh:FO):FE:=fun τ=>(fe τ).bind fun d=>(fl τ).bind fun l=>(fh τ).bind fun u=>slD d l u
theorem Jf{lo hi:Option Expr}{fl fh:FO}{p2:Pos}(he:PDE X e fe)(hl:PDO X lo fl)(hu:PDO X hi fh):PDE X (.Subscript e (.Slice lo hi none p2) pos) (eSl fe fl fh):=
 PE.imp (M2 (sl_str.or za9) he hl hu) fun σ H Q z_=>by
  obtain⟨F,τ,R,h⟩:=z_
  refine tE.of R h.bind fun d v F1 H1 g x R1 r=>?_
  refine⟨F1,τ,R1,g.bind.imp fun l gl F2 H2 x2=>⟨F2,τ,R1.ext x2,gl.bind.imp fun u gu F3 H3 x3=>?_⟩⟩
  have f3:=x3.fh
  have x13:=x.trans (x2.trans x3)
  cases d with
  |str z=>
   simp only[Rep] at r
   obtain⟨zz,gu⟩:=yz gu
   exact .inl ⟨z,r,zz,gu _ F3 H3 x13 (by simp only[Rep])⟩
  |lst ds=>
   simp only[Rep] at r;obtain⟨a,vs,rfl,e1,t⟩:=r
   have gu:Ev X.K F H Q (.lst (cutD ds l u)):=gu
   refine .inr ⟨a,vs,rfl,SqL.of (f3 _ _ (x3.ff _ _ (x2.ff _ _ e1))),fun p hp=>gu _ _ _ (x13.trans (Ext.new f3 hp)) ?_⟩
   simp only[Rep]
   refine⟨p,_,rfl,zv,?_⟩
   have t3:Reps X.K F3 (cutD ds l u) (Ma vs l u):=by
    unfold cutD Ma
    rw[← t.length]
    exact((t.mono (x2.ff.trans x3.ff)).drop _).take _
   exact t3.mono (yi (zY f3 hp))
  |_=>exact gu.elim
theorem Tc{x:Str}{v:V}{u:Value}{d:D}(hg:Gl X x)(hm:X.mg x=some u)(r:RelV v u)(rd:∀F,Rep X.K F d v)(hd:(x==("__debug__" : Str))=false:=by decide):PDE X (.Name x pos) (eC d):=Wm (Yy hg hm r hd) rd
theorem j5{x:Str}{y:Str}{t:Tok}(hg:Gl X x)(hm:X.mg x=some (.str y t))(hd:(x==("__debug__" : Str))=false:=by decide):PDE X (.Name x pos) (eC (.str y)):=Tc (v:=.str y) hg hm ⟨t,rfl⟩ (fun _=>by simp only[Rep]) hd
theorem vM{x:Str}{y:Int}{t:Tok}(hg:Gl X x)(hm:X.mg x=some (.int y t))(hd:(x==("__debug__" : Str))=false:=by decide):PDE X (.Name x pos) (eC (.int y)):=Tc (v:=.int y) hg hm ⟨t,rfl⟩ (fun _=>by simp only[Rep]) hd
theorem M8{x:Str}{T:String}(hg:Gl X x)(hm:X.mg x=none)(hv:bootBuiltins x=some (.type T))(hn:x ≠ "__name__" := by decide)(hd:(x==("__debug__" : Str))=false:=by decide):PDE X (.Name x pos) (eC (.raw (.ty T))):=
 Wm (Qf (v:=.ty T) hg hm hv rfl hn hd) fun _=>by simp only[Rep]
end
section
variable{X:Cx}{pos:Pos}{e tg:Expr}{es:List Expr}{fe:FE}{fs:FA}
noncomputable def iAnyT(K:Frag)(tl:TE):TI:=fun σ H R=>tl σ H fun x H1=>(∃a,x=.ref a∧(∃xs,SqL K H1 a xs)∧R (Itl K a) H1)∨(∃a,x=.ref a∧(∃xs,SqT K H1 a xs)∧R (Itt K a) H1)∨∃z,x=.str z∧R (Its z) H1
theorem zp2{l:Expr}{tl:TE}(hl:PE X l tl):PI X tg l (iAnyT X.K tl):=by
 intro pins s σ H R I h
 refine thn (hl pins s σ H _ I h) fun v s1 z_=>?_
 obtain⟨x,H1,I1,r1,q1⟩:=z_
 rcases q1 with ⟨a,e,⟨xs,hq⟩,q⟩|⟨a,e,⟨xs,hq⟩,q⟩|⟨z,e,q⟩
 ·subst e
  cases r1
  obtain⟨its,rv,p,hz⟩:=I1.list hq
  refine wpAny_pyIter_list p.isList ?_
  refine⟨s1.heap.objs.size,[s1.heap.objs.size],_,_,H1,rfl,I1.kept (t':=s1.toks) fun b o e=>get?_push_of_some _ e,Wa a _,⟨_,Heap.get?_push_size _ rfl,rfl,rfl⟩,fun b hb=>?_,q⟩
  have e:b=s1.heap.objs.size:=by simpa using hb
  subst e
  exact I1.fpOk (le_refl _) (I1.hok.fresh (le_refl _))
 ·subst e
  cases r1
  obtain⟨its,rv,p,hz⟩:=I1.tuple hq
  refine wpAny_pyIter_tuple (show s1.heap.IsTuple a its.toArray from p) ?_
  refine⟨s1.heap.objs.size,[s1.heap.objs.size],_,_,H1,rfl,I1.kept (t':=s1.toks) fun b o e=>get?_push_of_some _ e,UV a _,⟨_,Heap.get?_push_size _ rfl,rfl,rfl⟩,fun b hb=>?_,q⟩
  have e:b=s1.heap.objs.size:=by simpa using hb
  subst e
  exact I1.fpOk (le_refl _) (I1.hok.fresh (le_refl _))
 ·subst e
  obtain⟨t,rfl⟩:=r1
  have fin:∀(ty:String),(ty = "str_ascii_iterator" ∨ ty = "str_iterator")→PIE X pins σ tg R (.ref s1.heap.objs.size) { s1 with heap:=s1.heap.push { cls:=.type ty,data:=.fields #[.str z t,.int 0 0] } }:=fun ty hty=>by
   refine⟨s1.heap.objs.size,[s1.heap.objs.size],_,_,H1,rfl,I1.kept (t':=s1.toks) fun b o e=>get?_push_of_some _ e,Mp hty,⟨_,Heap.get?_push_size _ rfl,rfl,rfl⟩,fun b hb=>?_,q⟩
   have e:b=s1.heap.objs.size:=by simpa using hb
   subst e
   exact I1.fpOk (le_refl _) (I1.hok.fresh (le_refl _))
  cases ha:z.cps.all (· < 128)
  ·exact wpAny_pyIter_wide ha (fin _ (.inr rfl))
  ·exact wpAny_pyIter_ascii ha (fin _ (.inl rfl))
noncomputable def Uk:D→Rs (List D)
 |.lst ds=>.ok ds
 |.scr ns=>.ok (ns.map .int)
 |.tup ds=>.ok ds
 |.str x=>.ok (uK x)
 |_=>.no
noncomputable def xf(fe:FE):FA:=fun τ=>(fe τ).bind Uk
theorem xn(he:PDE X e fe):PDI X tg e (xf fe):=
 PI.imp (zp2 he) fun σ H R z_=>by
  obtain⟨F,τ,Rv,h⟩:=z_
  refine tE.of Rv h.bind fun d v F1 H1 g x R1 r=>?_
  cases d with
  |lst ds=>
   simp only[Rep] at r;obtain⟨a,vs,rfl,q,t⟩:=r
   exact .inl ⟨a,rfl,⟨vs,SqL.of (R1.fh _ _ q)⟩,g _ F1 H1 x (QA (SqL.of q) t)⟩
  |scr ns=>
   simp only[Rep] at r;obtain⟨a,rfl,q⟩:=r
   exact .inl ⟨a,rfl,⟨_,R1.fh.seq q⟩,g _ F1 H1 x (QA q (Reps.ints ns))⟩
  |tup ds=>
   simp only[Rep] at r;obtain⟨a,vs,rfl,q,t⟩:=r
   exact .inr (.inl ⟨a,rfl,⟨vs,Same.seqT R1.fh q⟩,g _ F1 H1 x (zt1 q t)⟩)
  |str z=>simp only[Rep] at r;exact .inr (.inr ⟨z,r,g _ F1 H1 x zt2⟩)
  |_=>exact g.elim
end
noncomputable def DefOk(P:Program)(w:World)(K:Frag)(mg:Str→Option Value)(base:Heap)(x:Str)(k n:Nat)(ps:List Str)(g:List D→Rs D):Prop:=
 ∃f fd,FnOk P w K mg base CX0 k f fd ps (spD K n g)∧Binds K fd ps []∧keepIn K (.ref f)=true∧mg x=some (.ref f)
structure zR(K:Frag)(mg:Str→Option Value)(x:Str)(st:Stmt)(f:Addr)(fd:FuncData):Prop where
 fn:Fun K x x st f fd
 at_:mg x=some (.ref f)
section
variable{P:Program}{w:World}{K:Frag}{mg:Str→Option Value}{base:Heap}
theorem DefOk.mk{x:Str}{st:Stmt}{f:Addr}{fd:FuncData}{N ps:List Str}{k n:Nat}{fb:FS}{g:List D→Rs D}(D:zR K mg x st f fd)(S:zO N ps (zk st))(hn:ps.length=n)
  (hb:∀(kV doc pm:Value) (an:Option Addr) (cdv ct:Value) (us:List Value),us.length=ps.length→bindArgs (fnOf x x (zL st) (zC st) (zk st) .none kV doc pm an cdv ct) ⟨us,[]⟩=pure (ps.zip us))
  (hbody:∀(cdv:Value) (A:Around) (outer:List Env) (s:Shared) (H:Hp) (E:XK),Room k (A.deeper (envOfC x (zk st) s.heap.objs.size f cdv)) →
   ja (Ys CX0 P w K mg base N x (zk st) f cdv A outer s H E).nox (zC st) fb)
  (hg:∀ds d,ds.length=n→g ds=.ok d→yC N.length fb ds=.ok d):DefOk P w K mg base x (k+1) n ps g:=
 ⟨f,fd,FnD.to (fnD D.fn S hn hbody) hg,D.fn.binds hb,D.fn.kp,D.at_⟩
end
section
variable{X:Cx}{pos:Pos}{e tg:Expr}{es:List Expr}{fe:FE}{fs:FA}
theorem zD{k n:Nat}{ps:List Str}{g:List D→Rs D}{x:Str}{p:Pos}(D:DefOk X.prog X.w X.K X.mg X.base x k n ps g)(hr:Room k X.A)(ha:PDA X (e::es) fs)(hfs:∀τ ds,fs τ=.ok ds→ds.length=(e::es).length)(hn:(e::es).length=n:=by rfl)(hg:Gl X x:=by rfl)(hdb:(x==("__debug__" : Str))=false:=by decide)
  (he:starEach (e::es) X.env=(false,eval e X.env)::starEach es X.env:=by rfl) (hpl:(backTo pos (starEach es X.env)).any (·.1)=false:=by rfl):PDE X (.Call (.Name x p) (e::es) [] pos) (zp g fs):=by
 obtain⟨f,fd,F,hb,hk,hm⟩:=D
 exact Td F hr hg hm hk hb ha hn hfs hdb he hpl
end
theorem wC{k:Nat}{A:Around}(r:Room k A):A.units+128<cLine:=by have:=r.un;lia
section
variable{X:Cx}{pos:Pos}{e a b:Expr}{fe fa fb:FE}
end
noncomputable def JY(K:Frag):Sp:=fun vs H Q _=>∃(a:Addr) (ns:List Int) (F:Hp),vs=[.ref a]∧Same F H∧TbT F H∧SqL K F a (ns.map V.int)∧ns.length≤63∧∀H',Q (.bl true) H'
theorem zs2{P:Program}{w:World}{K:Frag}{mg:Str→Option Value}{base:Heap}{k:Nat}{g:List D→Rs D}{p:Str}{f:Addr}{fd:FuncData}(F:FnOk P w K mg base CX0 k f fd [p] (spD K 1 g))(h:∀ns:List Int,ns.length≤63→g [.scr ns]=.ok (.bl true)) :
  FnOk P w K mg base CX0 k f fd [p] (JY K):=by
 refine F.imp fun vs H Q E z_=>?_
 obtain⟨a,ns,Fz,e,fh,tt,hS,h63,q⟩:=z_
 subst e
 refine⟨rfl,[.scr ns],Fz,fh,tt,Reps.cons (by simp only[Rep];exact⟨a,rfl,hS⟩) Reps.nil,?_⟩
 rw[h ns h63]
 intro v F' H' _ r
 simp only[Rep] at r
 subst r
 exact q H'
section
variable{X:Cx}{pos:Pos}{e tg:Expr}{es:List Expr}{fe:FE}{fs:FA}
noncomputable def lst1:List D→Option (List D)
 |[.lst ds]=>some ds
 |_=>none
theorem zb5(x:Str)(u:Tok):Txt.sliceBy x none none (-1,u)=⟨x.cps.toList.reverse.toArray⟩:=by
 have h:=step_rev_list x u
 have e:((List.range x.length).map fun k=>x.cps.getD (x.length-1-k) 0)=x.cps.toList.reverse:=by
  have hl:x.length=x.cps.toList.length:=by simp[Str.length]
  apply ext_getElem
  ·simp[hl]
  ·intro i h1 h2
   have hi:i<x.cps.size:=by simpa[Str.length] using h1
   simp only[List.getElem_map,List.getElem_range,List.getElem_reverse]
   rw[hl]
   simp only[length_toList,getElem_toList,Array.getD]
   rw[dif_pos (by lia)]
   rfl
 rw[e] at h
 generalize Txt.sliceBy x none none (-1,u)=y at h
 obtain⟨c⟩:=y
 congr 1
 rw[← h]
noncomputable def MO:D→Rs D
 |.str x=>if x.length≤sizeLine then .ok (.str ⟨x.cps.toList.reverse.toArray⟩) else .no
 |.lst ds=>.ok (.lst ds.reverse)
 |_=>.no
noncomputable def zj4(fe:FE):FE:=fun τ=>(fe τ).bind MO
theorem zd2{st:Expr}{p2:Pos}(he:PDE X e fe)(hs:PDE X st (wn (eC (.int 1)))):PDE X (.Subscript e (.Slice none none (some st) p2) pos) (zj4 fe):=by
 rintro pins s σ H Q I ⟨F,τ,R,h⟩
 refine Subscript_ (thn (he pins s σ H _ I (tE.of R h.bind fun d v F1 H1 g x R1 r=>(⟨d,F1,g,x,R1,r⟩:∃d F1,Ok X (MO d) (Ev X.K F H Q)∧Ext F H F1 H1∧RV X.K F1 τ σ H1∧Rep X.K F1 d v))) fun v s1 z_=>?_)
 obtain⟨x,H1,I1,r1,d,F1,g,x1,R1,r⟩:=z_
 refine wpAny_Slice ?_
 rw[evalPart_none]
 refine wpAny_pure (wpAny_pure ?_)
 rw[evalPart_some]
 refine thn (hs pins s1 σ H1 (fun w H2=>w=.int (-1)∧∃F2,Ext F1 H1 F2 H2) I1 ⟨F1,τ,R1,fun w F2 H2 x2 r2=>⟨by simpa only[Rep] using r2,F2,x2⟩⟩) fun u s2 z_=>?_
 obtain⟨y,H2,I2,r2,ey,F2,x2⟩:=z_
 subst ey
 obtain⟨tk,rfl⟩:=r2
 have I4:Inv X pins σ H2 { s2 with heap:=s2.heap.push { cls:=.type "slice", data:=.fields #[.none,.none,.int (-1) tk] } }:=I2.kept (t':=s2.toks) fun b ob q=>get?_push_of_some _ q
 have x12:=x1.trans x2
 have r:=r.mono x2.ff
 show wpAny (model X.prog X.w) X.A (subscriptTail e (.Slice none none (some st) p2) v (.ref s2.heap.objs.size)) (EP X pins σ Q) X.xe { s2 with heap:=s2.heap.push { cls:=.type "slice", data:=.fields #[.none,.none,.int (-1) tk] } }
 cases d with
 |str z=>
  simp only[Rep] at r;subst r
  obtain⟨t,rfl⟩:=r1
  obtain⟨hz,g⟩:=yz g
  refine tail_any (ops:=[.str z t,.ref s2.heap.objs.size]) (typeIs_str _ _ _) PySem.F.slot_str_getitem.lookup (wpAny_getItem_str_slice (l:=none) (u:=none) (st:=some (-1,tk)) ⟨_,Heap.get?_push_size _ rfl,rfl,rfl⟩ rfl (post_val_or_str ⟨le_trans (Txt.sliceBy_le z none none (-1,tk) (by show(-1:Int)≠0;decide)) hz,fun t' k=>⟨.str (Txt.sliceBy z none none (-1,tk)),H2,I4.tok _,⟨_,rfl⟩,?_⟩⟩)) (by with_unfolding_all rfl)
  rw[zb5]
  exact g _ F2 H2 x12 (by simp only[Rep])
 |lst ds=>
  simp only[Rep] at r;obtain⟨a,vs,rfl,e1,t⟩:=r
  cases r1
  obtain⟨its,rr,ht,hz⟩:=I4.list (SqL.of (K:=X.K) (x2.fh _ _ e1))
  have g:Ev X.K F H Q (.lst ds.reverse):=g
  refine tail_any (ops:=[.ref a,.ref s2.heap.objs.size]) ht.isList.typeIs slot_list_getitem.lookup (wpAny_getItem_list_slice ht.isList (Heap.IsSliceOf.new ..) .none .none (.int (-1) tk) (by simp) ?_ (by rw[size_toArray,← rr.length];exact hz)) (by with_unfolding_all rfl)
  rw[PySem.W.krv_pick]
  refine⟨.ref _,_,I4.laid (t':=s2.toks) (o:=.lst vs.reverse) (fun b ob q=>get?_push_of_some _ q) (le_refl _) ?_,rfl,g _ _ _ (x12.trans (Ext.new x2.fh (I4.hok.fresh (le_refl _)))) ?_⟩
  ·exact⟨by rw[List.length_reverse];exact hz,its.reverse,0,rr.reverse,Heap.get?_push_size _ rfl⟩
  ·simp only[Rep]
   exact⟨_,_,rfl,zv,(t.reverse).mono (yi (zY x2.fh (I4.hok.fresh (le_refl _))))⟩
 |_=>exact g.elim
noncomputable def bl1:List D→Option Bool
 |[.bl b]=>some b
 |_=>none
theorem zv1{ds:List D}{b:Bool}(h:bl1 ds=some b):ds=[.bl b]:=by
 unfold bl1 at h;split at h <;> cases h;rfl
noncomputable def intD(ds:List D):Rs D:=match bl1 ds with
 |some b=>.ok (.int (if b then 1 else 0))
 |none=>.no
theorem QW:Zw X (.type "int") intD:=⟨fun vs H Q=>∃b,vs=[.bl b]∧Q (.int (if b then 1 else 0)) H,fun pins s σ H xs us Q I r z_=>by
  obtain⟨b,e,q⟩:=z_
  subst e
  obtain⟨u,rfl,ru⟩:=r.one
  cases ru
  exact call_int_bool ⟨.int (if b then 1 else 0),H,I.tok _,⟨_,rfl⟩,q⟩,fun F H vs ds Q fh r h=>by
  unfold intD at h
  cases q1:bl1 ds with
  |none=>rw[q1] at h;exact h.elim
  |some b=>
   rw[q1] at h
   have e:=zv1 q1
   subst e
   obtain⟨v,rfl,q⟩:=r.one
   simp only[Rep] at q;subst q
   exact⟨b,rfl,h _ F H (Ext.refl fh) (by simp only[Rep])⟩⟩
theorem MP{K:Frag}{F:Hp}(lo:Int)(n:Nat):Reps K F (uN lo n) ((List.range n).map fun (k:Nat)=>V.int (lo+k)):=by
 unfold uN
 generalize List.range n=l
 induction l with
 |nil=>exact Reps.nil
 |cons a r ih=>exact Reps.cons (by simp only[Rep]) ih
theorem Mk{lo:Int}{acc:Array Value}{n:Nat}(h:ItemsOf (fun i v=>∃t,v=Value.int (lo+i*1) t) acc n):Vals ((List.range n).map fun (k:Nat)=>V.int (lo+k)) acc.toList:=by
 obtain⟨hn,hi⟩:=h
 have key:∀(l:List Value) (j:Nat),(∀k v,l[k]?=some v→∃t,v=Value.int (lo+((j+k:Nat):Int)) t)→Vals ((List.range' j l.length).map fun (k:Nat)=>V.int (lo+k)) l:=fun l=>by
  induction l with
  |nil=>intro j _;exact .nil
  |cons a r ih=>
   intro j hj
   rw[length_cons,List.range'_succ,map_cons]
   refine .cons ?_ (ih (j+1) fun k v hv=>?_)
   ·obtain⟨t,rfl⟩:=hj 0 a rfl
    exact⟨t,by simp⟩
   ·obtain⟨t,e⟩:=hj (k+1) v (by simpa using hv)
    exact⟨t,by rw[e];congr 2;lia⟩
 have:=key acc.toList 0 fun k v hv=>by
  obtain⟨t,e⟩:=hi k v (by simpa using hv)
  exact⟨t,by rw[e];simp⟩
 rw[length_toList,hn,← List.range_eq_range'] at this
 exact this
noncomputable def V9(fi:FA):FA:=fun τ=>(fi τ).bind fun ds=>if ds.length≤16777216 then .ok ds else .no
theorem TN{pins:List (Addr×Obj)}{σ:St}{F H F1 H1:Hp}{s1:Shared}{Q:VK}{lo hi:Int}{t u v:Tok}{tk:Nat}(hc:X.calm=true)(I1:Inv X pins σ H1 s1)(h1 : -(2 ^ 62)≤lo)(h2:lo<2 ^ 62)(h3 : -(2 ^ 62)≤hi)(h4:hi<2 ^ 62)(hz:(uN lo (hi-lo).toNat).length≤16777216)
  (x:Ext F H F1 H1) (q:∀p vs F' H',Ext F H F' H'→H' p=none→Reps X.K F' (uN lo (hi-lo).toNat) vs→Q (.ref p) (upd H' p (.lst vs))) :
  wpAny (model X.prog X.w) X.A (call (.type "list") [.ref s1.heap.objs.size]) (EP X pins σ Q) X.xe { s1 with heap:=s1.heap.push { cls:=.type "range", data:=.fields #[.int lo t,.int hi u,.int 1 v] },toks:=tk }:=by
 have I2:Inv X pins σ H1 { s1 with heap:=s1.heap.push { cls:=.type "range", data:=.fields #[.int lo t,.int hi u,.int 1 v] },toks:=tk }:=I1.kept fun b o e=>get?_push_of_some _ e
 have hl:(uN lo (hi-lo).toNat).length=(hi-lo).toNat:=by simp[uN]
 rw[hl] at hz
 refine call_list_range (n:=(hi-lo).toNat) (I2.ok.hd hc) (IsRange.new ..) (small_one h1 h2 h3 h4) (by rw[rangeSize_one];split <;> lia) (by lia) fun h' tk' acc' c' hk hS' hacc=>?_
 have rel:=Mk hacc
 refine⟨.ref _,_,I2.laid (t':=tk') hk (le_refl _) (o:=.lst ((List.range (hi-lo).toNat).map fun (k:Nat)=>V.int (lo+k))) ⟨by rw[length_map,length_range,sizeLine_eq];exact hz,acc'.toList,c',rel,by simpa using hS'⟩,rfl,q _ _ _ _ x (I2.hok.fresh (le_refl _)) (MP _ _)⟩
theorem Yj{a:Expr}{p p2 pos2:Pos}(hc:X.calm=true)(hl:Gl X "list")(hml:X.mg "list" = none)(hg:Gl X "range")(hm:X.mg "range" = none)(ha:PDA X [a] fs)(hs:starEach [a] X.env=[(false,eval a X.env)]:=by rfl)
  (he:starEach [.Call (.Name "range" p2) [a] [] pos2] X.env=(false,eval (.Call (.Name "range" p2) [a] [] pos2) X.env)::starEach [] X.env:=by rfl) (hpl:(backTo pos (starEach [] X.env)).any (·.1)=false:=by rfl) :
  PDF X (.Call (.Name "list" p) [.Call (.Name "range" p2) [a] [] pos2] [] pos) (V9 (vJ fs)):=by
 rintro pins s σ H Q I ⟨F,τ,R,h⟩
 refine wpAny_Call_Name_kw (wS I hl hml boot_list ?_)
 refine PyProof.Rows.callWith_type1 ?_ he hpl
 rw[he]
 show wpAny _ _ (spliced ((false,eval (.Call (.Name "range" p2) [a] [] pos2) X.env)::backTo pos (starEach [] X.env))) _ _ s
 refine Calls.spliced_cons ?_
 have h:=h.bind
 unfold vJ at h
 have h:=h.bind
 generalize hG:(fun ds=>Ok X (match Jt ds with|some j=>if -(2 ^ 62)≤j∧j<2 ^ 62 then Rs.ok (uN 0 j.toNat) else Rs.no|none=>Rs.no) fun a=>Ok X (if a.length≤16777216 then Rs.ok a else Rs.no) fun ds=>∀(p:Addr) (vs:List V) (F' H':Hp),Ext F H F' H'→H' p=none→Reps X.K F' ds vs→Q (V.ref p) (upd H' p (HO.lst vs)))=G at h
 refine Call_ (wS I hg hm boot_range (PyProof.Rows.callWith_type1 (thn (ha pos2 pins s σ H (fun vs H1=>∃ds F1,G ds∧Ext F H F1 H1∧RV X.K F1 τ σ H1∧Reps X.K F1 ds vs) I (tAs.of R h fun ds vs F1 H1 g x R1 r=>⟨ds,F1,g,x,R1,r⟩)) fun us s1 z_=>?_) hs rfl))
 obtain⟨vs,H1,I1,r1,ds,F1,g,x,R1,r⟩:=z_
 subst hG
 cases q1:Jt ds with
 |none=>simp only[q1] at g;exact g.elim
 |some j=>
  simp only[q1] at g
  have e:=QC q1
  subst e
  obtain⟨v,rfl,q⟩:=r.one
  simp only[Rep] at q;subst q
  obtain⟨z,g⟩:=yz g
  obtain⟨zl,g⟩:=yz g
  cases r1 with
  |cons ra rr=>
   cases rr
   obtain⟨t,rfl⟩:=ra
   refine call_range_1 ?_
   refine Calls.spliced_nil ?_
   exact TN hc I1 (by decide) (by decide) z.1 z.2 (by rw[Int.sub_zero];exact zl) x (by rw[Int.sub_zero];exact g)
end
section
open PySem.SeqAt
open PySem.AutoSeq1 (wpAny_loadPart')
open PySem.MeetsSeq PySem.MeetsSeq2 PySem.MeetsSeq3
end
section
variable{X:Cx}
end
section
variable{X:Cx}
noncomputable def VF:D→List D→Option (Str×Str)
 |.str x,[.str y]=>some (x,y)
 |_,_=>none
theorem Mx{d:D}{ds:List D}{x y:Str}(h:VF d ds=some (x,y)):d=.str x∧ds=[.str y]:=by
 unfold VF at h;split at h <;> cases h;exact⟨rfl,rfl⟩
noncomputable def Jv(d:D)(ds:List D):Rs D:=match VF d ds with
 | some (x,y)=>match Builtin.Str.occurrences x y 0 x.length 1 with
  |i::_=>.ok (.int (i:Nat))
  |[]=>.no
 |none=>.no
theorem zr5:MtR X "str.index" (fun v vs H Q=>∃x y i r,v=.str x∧vs=[.str y]∧Builtin.Str.occurrences x y 0 x.length 1=i::r∧Q (.int (i:Nat)) H):=by
 intro pins s σ H v vs u us Q I r rs h
 obtain⟨x,y,i,rr,rfl,rfl,ho,q⟩:=h
 obtain⟨t,rfl⟩:=r
 obtain⟨u',rfl,t',rfl⟩:=vals1 rs
 exact SC.index ho ⟨.int (i:Nat),H,I.tok _,⟨_,rfl⟩,q⟩
theorem zr8:MtD X "str.index" Jv:=⟨_,zr5,fun F H v vs d ds Q fh r rs h=>by
 unfold Jv at h
 cases q:VF d ds with
 |none=>rw[q] at h;exact h.elim
 |some xy=>
  obtain⟨x,y⟩:=xy
  rw[q] at h
  obtain⟨rfl,rfl⟩:=Mx q
  simp only[Rep] at r;subst r
  obtain⟨w,rfl,e⟩:=rs.one
  simp only[Rep] at e;subst e
  cases q2:Builtin.Str.occurrences x y 0 x.length 1 with
  |nil=>simp only[q2] at h;exact h.elim
  |cons i rr=>
   simp only[q2] at h
   exact⟨x,y,i,rr,rfl,rfl,q2,h _ F H (Ext.refl fh) (by simp only[Rep])⟩⟩
end
section
variable{rest:List Expr}{env:Env}
end
noncomputable def Itn(K:Frag)(l:Addr):It:=
 ⟨fun k H=>∃vs,SqL K H l vs∧k<vs.length,
  fun k H y H'=>∃p v,H p=none∧(∀vs,SqL K H l vs→vs[k]?=some v)∧y=.ref p∧H'=upd H p (.tup [.int k,v]),
  fun k H=>∃vs,SqL K H l vs∧vs.length≤k⟩
theorem Q1{P:Program}{w:World}{K:Frag}{elts:List Expr}{x1}{pos:Pos}{e it l:Addr}(D:e≠it) :
  X9 P w K (.Tuple elts x1 pos) (Itn K l) [e,it] e (fun k h=>(∃old,IsEnum h e it (k:Nat) old)∧h.IsListIter it l k) where
 mem:=by simp
 obj:=fun k h ⟨⟨old,h1⟩,⟨o5,e5,c5,d5⟩⟩ b hb=>by
  simp at hb
  rcases hb with rfl|rfl
  ·exact⟨_,h1,fun v z=>by cases z⟩
  ·exact⟨_,e5,fun v z=>by rw[d5] at z;cases z⟩
 keep:=fun k h h' ⟨⟨old,h1⟩,h5⟩ hk=>⟨⟨old,hk e (by simp) _ h1⟩,h5.at fun o q=>hk it (by simp) o q⟩
 item:=by
  rintro X hP hw hK hc k pins s σ H E I hf ⟨⟨old,h1⟩,h5⟩ hg
  subst hP hw hK
  obtain⟨vs,hq,l2⟩:=hg
  obtain⟨its,rv,p,hz⟩:=I.list hq
  have hlen:=rv.length
  have hvk:vs[k]?=some vs[k]:=by simp[l2]
  obtain⟨u2,eu,ru⟩:=rv.get hvk
  refine wpAny_pyNext_enum_item (x:=u2) h1 h5 p.isList (by simpa using eu) D fun h' q1 q2 q3 q4 q5=>?_
  have np:s.heap.objs.size≠e:=ne_of_gt (Heap.lt_size h1)
  refine⟨_,rfl,wpAny_letOwnedTupleGo_enum (s:={ s with heap:=h',toks:=s.toks+1 }) q1 fun h'' z1 sb=>?_⟩
  refine⟨.ref s.heap.objs.size,upd H s.heap.objs.size (.tup [.int k,vs[k]]),?_,rfl,⟨_,vs[k],I.hok.fresh (le_refl _),fun ws hw=>by rw[I.list_inj hw hq];exact hvk,rfl,rfl⟩,⟨⟨_,by simpa using z1⟩,?_⟩,fun b hb=>?_⟩
  ·refine(L6 (s:=s) (h':=h'') (t':=s.toks+1) (xs:=[.int k,vs[k]]) (ch:=[e,it]) I (fun b o hb q=>?_) hf (le_refl _) ⟨_,sb.extBut _ _ np q3,rfl,_,rfl⟩ (.cons ⟨_,rfl⟩ (.cons ru .nil)) (by show 2≤sizeLine;decide):Inv X pins σ _ { s with heap:=h'',toks:=s.toks+1 })
   simp at hb
   exact sb.extBut _ _ hb.1 (q5 b o hb.1 hb.2 q)
  ·obtain⟨o,q,r⟩:=q2
   exact⟨o,sb.extBut _ _ (Ne.symm D) q,r⟩
  ·have lt:b<s.heap.objs.size:=by
    simp at hb
    rcases hb with rfl|rfl
    ·exact Heap.lt_size h1
    ·obtain⟨o,q,r⟩:=h5
     exact Heap.lt_size q
   rw[zo (ne_of_lt lt)]
   exact(hf b hb).1
 done:=by
  rintro X hP hw hK hc k pins s σ H E I hf ⟨⟨old,h1⟩,h5⟩ hg
  subst hP hw hK
  obtain⟨vs,hq,hend⟩:=hg
  obtain⟨its,rv,p,hz⟩:=I.list hq
  have hlen:=rv.length
  obtain⟨f0,f1,f2,f3,f4,f5⟩:=hf it (by simp)
  exact wpAny_pyNext_enum_end (I.ok.hd hc) h1 h5 p.isList (by simp;lia) fun h' eb=>⟨rfl,I.turned (t':=s.toks) (fun b o hb q=>eb b o hb q) f0 f1 f3 f4 f5⟩
 self:=fun _ _ _ _ _ ⟨⟨_,h1⟩,_⟩ h=>wpAny_pyIter_enum h1 h
section
variable{X:Cx}{pos:Pos}{e a b:Expr}{es:List Expr}{fe fa fb:FE}{fs:FA}
noncomputable def zt3(K:Frag)(ta:TA):TI:=fun σ H R=>ta σ H fun vs H1=>∃l ws,vs=[.ref l]∧SqL K H1 l ws∧R (Itn K l) H1
theorem zc8{ta:TA}{p:Pos}{elts:List Expr}{x1}{tpos:Pos}(hg:Gl X "enumerate")(hm:X.mg "enumerate" = none)(ha:PA X [a] ta)(hs:starEach [a] X.env=[(false,eval a X.env)]:=by rfl) :
  PI X (.Tuple elts x1 tpos) (.Call (.Name "enumerate" p) [a] [] pos) (zt3 X.K ta):=by
 intro pins s σ H R I h
 refine Call_ (wS I hg hm boot_enumerate (PyProof.Rows.callWith_type1 (thn (ha pos pins s σ H _ I h) fun us s1 z_=>?_) (by rw[hs];rfl) rfl))
 obtain⟨vs,H1,I1,r1,q1⟩:=z_
 obtain⟨l,ws,e,hq,q⟩:=q1
 subst e
 obtain⟨u1,rfl,ru⟩:=vals1 r1
 cases ru
 obtain⟨its,rr,pp,hz⟩:=I1.list hq
 refine call_enumerate_list pp.isList fun h' g1 g2 g3 g4=>?_
 have I5:Inv X pins σ H1 { s1 with heap:=h' }:=I1.kept (t':=s1.toks) g4
 refine wpAny_pyIter_enum (s:={ s1 with heap:=h' }) g1 ?_
 refine⟨s1.heap.objs.size+1,[s1.heap.objs.size+1,s1.heap.objs.size],_,_,H1,rfl,I5,Q1 (l:=l) (by show(_:Nat)≠_;lia),⟨⟨_,g1⟩,g2⟩,fun b hb=>?_,q⟩
 have hb':s1.heap.objs.size≤b:=by
  simp at hb
  rcases hb with rfl|rfl <;> (show s1.heap.objs.size≤(_:Nat);lia)
 obtain⟨f0,f1,f2,f3,f4,f5⟩:=I1.fpOk (H':=H1) hb' (I1.hok.fresh hb')
 exact⟨f0,f1,f2,f3,f4,f5⟩
noncomputable def yu(n:Nat):List D→List D
 |[]=>[]
 |d::r=>.tup [.int n,d]::yu (n+1) r
theorem Zl:∀(ds:List D) (n:Nat),(yu n ds).length=ds.length:=by
 intro l_
 induction l_ with
 |nil=>
  rintro _
  exact rfl
 |cons _ r ih_=>
  rintro n
  simp[yu,ih_]
theorem Zm:∀{ds:List D} {n i:Nat} {p:D},(yu n ds)[i]?=some p→∃d,ds[i]?=some d∧p=.tup [.int ((n+i:Nat):Int),d]
 |[],_,_,_,h=>by simp[yu] at h
 |d::ds,n,0,p,h=>by simp[yu] at h;exact⟨d,rfl,by simpa using h.symm⟩
 |d::ds,n,i+1,p,h=>by
  obtain⟨d',h2,h3⟩:=Zm (n:=n+1) (i:=i) (by simpa[yu] using h)
  exact⟨d',by simpa using h2,by rw[h3];congr 3;show((n+1+i:Nat):Int)=_;congr 1;lia⟩
theorem zh9{K:Frag}{F1:Hp}{l:Addr}{ds:List D}{vs:List V}(e:SqL K F1 l vs)(r:Reps K F1 ds vs):JN K (Itn K l) F1 (yu 0 ds):=fun i F H f1 f2=>by
 have q:SqL K H l vs:=(f1.trans f2).seq e
 have hl:=Zl ds 0
 have hr:=r.length
 refine⟨fun h=>⟨vs,q,by lia⟩,fun p hp=>?_⟩
 obtain⟨d,h2,rfl⟩:=Zm hp
 have l2:i<vs.length:=by have:=(List.getElem?_eq_some_iff.mp h2).1;lia
 refine⟨⟨vs,q,l2⟩,fun y H' yy=>?_⟩
 obtain⟨pa,v,hp,q',rfl,rfl⟩:=yy
 refine⟨upd F pa (.tup [.int i,v]),Ext.new f2 hp,?_⟩
 simp only[Rep]
 refine⟨pa,_,rfl,SqT.of zv,Reps.cons (by simp only[Rep,zero_add]) (Reps.cons ?_ Reps.nil)⟩
 obtain⟨v',hv',rv'⟩:=r.get h2
 have e3:=q' vs q
 rw[hv'] at e3;cases e3
 exact(rv'.mono f1).mono (yi (zY f2 hp))
noncomputable def zf6:List D→Option (List D)
 |[.lst ds]=>some ds
 |_=>none
theorem zf5{ds xs:List D}(h:zf6 ds=some xs):ds=[.lst xs]:=by
 unfold zf6 at h;split at h <;> cases h;rfl
noncomputable def iEn(fs:FA):FA:=fun τ=>(fs τ).bind fun ds=>match zf6 ds with
 |some xs=>.ok (yu 0 xs)
 |none=>.no
theorem Y5{p:Pos}{elts:List Expr}{x1}{tpos:Pos}(hg:Gl X "enumerate")(hm:X.mg "enumerate" = none)(ha:PDA X [a] fs)(hs:starEach [a] X.env=[(false,eval a X.env)]:=by rfl) :
  PDI X (.Tuple elts x1 tpos) (.Call (.Name "enumerate" p) [a] [] pos) (iEn fs):=
 PI.imp (zc8 hg hm ha hs) fun σ H R z_=>by
  obtain⟨F,τ,Rv,h⟩:=z_
  refine tAs.of Rv h.bind fun ds vs F1 H1 g x R1 r=>?_
  cases q1:zf6 ds with
  |none=>rw[q1] at g;exact g.elim
  |some xs=>
   rw[q1] at g
   have e:=zf5 q1
   subst e
   obtain⟨v,rfl,r1⟩:=r.one
   simp only[Rep] at r1
   obtain⟨l,ws,rfl,e1,t⟩:=r1
   exact⟨l,ws,rfl,SqL.of (R1.fh _ _ e1),g _ F1 H1 x (zh9 (SqL.of e1) t)⟩
end
theorem obj_there{P:Program}{w:World}{H:Hp}{h:Heap}{a:Addr}{o:HO}(x:ObjOk P w H h a o):∃ob,h.get? a=some ob:=by
 cases o with
 |lst xs=>obtain⟨_,_,_,_,e⟩:=x;exact⟨_,e⟩
 |tup xs=>obtain⟨_,_,_,ob,e,_⟩:=x;exact⟨_,e⟩
 |dK kvs=>obtain⟨_,_,_,_,o,_,_,e,_⟩:=x;exact⟨_,e⟩
 |dT kvs=>obtain⟨_,_,_,_,o,_,_,e,_⟩:=x;exact⟨_,e⟩
 |set S n=>obtain⟨o,_,_,_,e,_⟩:=x;exact⟨_,e⟩
 |ins C dx fs=>obtain⟨_,_,_,e,_⟩:=x;exact⟨_,e⟩
 |own y=>exact x
 |xd fs=>obtain⟨_,⟨_,_,_,e,_⟩,_⟩:=x;exact⟨_,e⟩
 |rng lo hi=>obtain⟨_,_,_,e⟩:=x;exact⟨_,e⟩
 |frz ob u=>obtain⟨e,_⟩:=x;exact⟨_,e⟩
 |tbl ps=>exact⟨_,(show h.get? a=some _ from x)⟩
 |met f y=>exact⟨_,(show h.get? a=some _ from x)⟩
 |ext φ=>obtain⟨_,q,_⟩:=x;exact q
section
variable{X:Cx}{pins:List (Addr×Obj)}{σ:St}{H:Hp}{s:Shared}{h':Heap}
theorem Vk(I:Inv X pins σ H s){b:Addr}(e:s.heap.get? b=none):H b=none:=by
 cases q:H b with
 |none=>rfl
 |some o=>obtain⟨ob,z⟩:=obj_there (I.hok b o q);rw[e] at z;cases z
theorem XH(I:Inv X pins σ H s)(hx:X.ex=[]){b:Addr}(e:s.heap.get? b=none):X.s₀.heap.get? b=none:=by
 cases q:X.s₀.heap.get? b with
 |none=>rfl
 |some o=>obtain⟨ob,z⟩:=I.base.there b o q (by rw[hx];simp);rw[e] at z;cases z
theorem Xe(I:Inv X pins σ H s)(hx:X.ex=[]){b:Addr}(e:s.heap.get? b=none):Nw X H b:=
 ⟨Vk I e,XH I hx e,fun p hp z=>by
  have:=(I.pin p (mem_append_left _ hp)).1
  rw[z,e] at this;cases this⟩
theorem QI(I:Inv X pins σ H s){b:Addr}(hb:b∈X.fs):H b=none:=by
 obtain⟨_,o,ho,_⟩:=I.ok.funs.mem hb
 exact I.base.free b o ho (I.ok.frf b hb) fun z=>I.ok.exfs b z hb
theorem zl1{ch:List Addr}{t':Nat}(I:Inv X pins σ H s)(hx:X.ex=[])(hch:∀b∈ch,X.s₀.heap.get? b=none∧H b=none∧b≠X.env.locals∧b∉X.fs∧(∀x c,X.env.cells.lookup x=some c→c≠b)∧∀p∈X.pn++pins,p.1≠b)
  (keep:∀b o,b≠X.env.locals→b∉X.fs→b∉ch→s.heap.get? b=some o→h'.get? b=some o)
  (slot:∀b o,(b=X.env.locals∨b∈X.fs)→s.heap.get? b=some o→∃sl,h'.get? b=some { o with slots:=sl }):Inv X pins σ H { s with heap:=h',toks:=t' }:=by
 let X':Cx:={ X with ex:=ch }
 have ok':X'.Ok:=⟨I.ok.mod,I.ok.kind,I.ok.glob,I.ok.blt,I.ok.above,I.ok.inj,I.ok.has,I.ok.cab,I.ok.hd,I.ok.frames,I.ok.stk,fun b hb=>⟨(hch b hb).2.2.1,(hch b hb).2.2.2.2.1⟩,I.ok.bs,I.ok.bsz,(fun b o e hb=>nomatch (hch b hb).1.symm.trans (I.ok.bs b o e).1),fun b hb=>(hch b hb).2.2.2.1,I.ok.funs,I.ok.frf⟩
 have hx':∀b:Addr,b∉X.ex:=fun b=>by rw[hx];simp
 have I':Inv X' pins σ H s:=⟨ok',I.os,I.bare,⟨fun b o e n h1 _=>I.base.keep b o e n h1 (hx' b),fun b o e n h1 _=>I.base.slot b o e n h1 (hx' b),fun b o e n _=>I.base.free b o e n (hx' b),fun b o e _=>I.base.there b o e (hx' b),I.base.tups,I.base.frzs,I.base.tbls⟩,
  I.loc,I.cell,I.free,I.freeC,I.pin,I.hok,I.len⟩
 have hok:HOk X.prog X.w H h':=fun b u e=>(I.hok b u e).stay (fun c v hc q=>keep c v (fun z=>?_) (fun z=>?_) (fun z=>?_) q) (fun _ q=>q) fun _ _ q=>q
 have J:=I'.step (g':=s.gens) (d':=s.drawn) (t':=t') (h':=h') (H':=H) (ch:=ch) (fun b hb=>⟨.inl hb,(hch b hb).2.2.1,(hch b hb).2.2.2.2.1,(hch b hb).2.2.2.2.2⟩) (fun b o h1 h2 h3 e _=>keep b o h1 h2 h3 e) (fun b o _ h2 _ e _=>slot b o (.inr h2) e) (fun _ _ _ _ n=>n)
  (fun b o h3 e=>?_) (fun _ _ e=>e) (fun _ _ _ e=>e) (fun b ps e=>⟨#[],by rw[e];simp⟩) (fun m ⟨o,es,ep,ho,r⟩=>?_) hok I.bare
 ·have nch:∀b o,X.s₀.heap.get? b=some o→b∉ch:=fun b o e hb=>by rw[(hch b hb).1] at e;cases e
  exact⟨I.ok,J.os,J.bare,⟨fun b o e n h1 _=>J.base.keep b o e n h1 (nch b o e),fun b o e n h1 _=>J.base.slot b o e n h1 (nch b o e),fun b o e n _=>J.base.free b o e n (nch b o e),fun b o e _=>J.base.there b o e (nch b o e),J.base.tups,J.base.frzs,J.base.tbls⟩,
   J.loc,J.cell,J.free,J.freeC,J.pin,J.hok,J.len⟩
 ·by_cases h1:b=X.env.locals∨b∈X.fs
  ·obtain⟨sl,q⟩:=slot b o h1 e;exact⟨_,q⟩
  ·exact⟨o,keep b o (fun z=>h1 (.inl z)) (fun z=>h1 (.inr z)) h3 e⟩
 ·obtain⟨sl,q⟩:=slot _ o (.inl rfl) ho
  exact⟨_,es,ep,q,r⟩
 all_goals
  rcases hc with hc|hc
  ·subst hc
   first
    | (subst z;rw[I.free] at e;cases e)
    | (rw[QI I z] at e;cases e)
    | (rw[(hch _ z).2.1] at e;cases e)
  ·first
    | (subst z;rw[I.free] at hc;cases hc)
    | (rw[QI I z] at hc;cases hc)
    | (rw[(hch _ z).2.1] at hc;cases hc)
structure Fst(X:Cx):Prop where
 ex:X.ex=[]
 stk:X.stack=X.env::X.outer
 fr:X.env.frame=some X.env.locals
theorem Fst.mem{X:Cx}(D:Fst X){b:Addr}:b∈frs X.stack↔b=X.env.locals∨b∈X.fs:=by
 rw[D.stk]
 unfold frs
 rw[filterMap_cons,D.fr]
 show b∈X.env.locals::_↔_
 rw[mem_cons];exact Iff.rfl
theorem QV(D:Fst X)(I:Inv X pins σ H s){b:Addr}{o:Obj}{vs:Array Value}(n:Nw X H b)(hp:∀p∈pins,p.1≠b)(e:s.heap.get? b=some o)(d:o.data=.fields vs) :
  X.s₀.heap.get? b=none∧H b=none∧b≠X.env.locals∧b∉X.fs∧(∀x c,X.env.cells.lookup x=some c→c≠b)∧∀p∈X.pn++pins,p.1≠b:=by
 refine⟨n.2.1,n.1,fun z=>?_,fun z=>?_,fun x c hc z=>?_,fun p hp'=>(mem_append.mp hp').elim (n.2.2 p) (hp p)⟩
 ·obtain⟨m,⟨o',es,ep,ho',hd',_⟩,_⟩:=I.loc
  rw[z,ho'] at e;cases e;rw[hd'] at d;cases d
 ·obtain⟨_,o',ho',hd'⟩:=I.stack.mem (show b∈frs X.stack from D.mem.mpr (.inr z))
  rw[ho'] at e;cases e;exact hd' _ d
 ·obtain⟨v,o',ho',hd'⟩:=I.cell x c hc
  rw[z,e] at ho';cases ho';rw[d] at hd';cases hd'
theorem jT{l:List Addr}{h h1:Heap}(so:Heap.SlotsOnly l h h1){b:Addr}{o:Obj}(hb:b∉l)(e:h.get? b=some o):h1.get? b=some o:=(so.2.1 b hb).trans e
end
section
variable{X:Cx}{pins:List (Addr×Obj)}{σ:St}{H:Hp}{s:Shared}{h':Heap}{a:Addr}{cls:Value}
noncomputable def TrAt(X:Cx)(H:Hp)(h:Heap)(a:Addr)(cls fl:Value):Prop:=Nw X H a∧∃oe vs T oT ts,h.get? a=some oe∧oe.cls=cls∧oe.dict=none∧oe.data=.fields vs ∧
 vs[1]?=some (.ref T)∧Nw X H T∧T≠a∧h.get? T=some oT∧oT.data=.fields ts∧ts[3]?=some fl∧vs[2]?=some .none
theorem TrAt.exc{h:Heap}(x:TrAt X H h a cls .none):US X H h a cls:=by
 obtain⟨n,oe,vs,T,oT,ts,e1,e2,e0,e3,e4,e5,e6,e7,e8,e9⟩:=x
 exact⟨n,oe,vs,e1,e2,e0,e3,.inr ⟨T,oT,ts,e4,e5,e6,e7,e8,e9.1⟩,e9.2⟩
theorem LA(o:Obj)(f:Array Value→Array Value):(Obj.mapFields f o).dict=o.dict:=by
 unfold Obj.mapFields;split <;> rfl
theorem v9{vs:Array Value}{i:Nat}{v:Value}(h:vs[i]?=some v):i<vs.size:=by
 rcases lt_or_ge i vs.size with z|z
 ·exact z
 ·rw[Array.getElem?_eq_none z] at h;cases h
variable{M:Model}{A:Around}{E:Value→Shared→Prop}{Q:Unit→Shared→Prop}
theorem np(b:Addr):∀p∈([]:List (Addr×Obj)),p.1≠b:=fun p hp=>nomatch hp
theorem Mj{b:Addr}{o:Obj}{vs:Array Value}(f:Array Value→Array Value)(D:Fst X)(I:Inv X [] σ H s)(n:Nw X H b)(e:s.heap.get? b=some o)(d:o.data=.fields vs):Inv X [] σ H { s with heap:=s.heap.update b (Obj.mapFields f) }:=by
 refine zl1 (ch:=[b]) (t':=s.toks) I D.ex (fun c hc=>?_) (fun c u h1 h2 h3 q=>?_) fun c u hc q=>⟨u.slots,?_⟩
 ·have:c=b:=by simpa using hc
  subst this
  exact QV D I n (np c) e d
 ·rw[Heap.get?_update_other _ _ (fun z=>h3 (by simp[z]))];exact q
 ·have:=QV D I n (np b) e d
  rw[Heap.get?_update_other _ _ (fun z=>?_)]
  ·exact q
  ·subst z
   rcases hc with hc|hc
   ·exact this.2.2.1 hc
   ·exact this.2.2.2.1 hc
theorem WB{h:Heap}{b:Addr}{o:Obj}{vs:Array Value}{f:Array Value→Array Value}(e:h.get? b=some o)(d:o.data=.fields vs):(h.update b (Obj.mapFields f)).get? b=some (Obj.mapFields f o):=
 Heap.get?_update_self _ e (Obj.isFreed_of_fields (Obj.data_mapFields d f))
theorem ZS{fl:Value}(D:Fst X)(I:Inv X [] σ H s)(x:TrAt X H s.heap a cls fl)(k:∀h',Inv X [] σ H { s with heap:=h' }→TrAt X H h' a cls .none→Q () { s with heap:=h' }):wpAny M A (setFlight (.ref a) none) Q E s:=by
 obtain⟨na,oe,vs,T,oT,ts,e1,e2,e0,e3,e4,nT,ne,eT,dT,e9⟩:=x
 refine wpAny_setFlight_none e1 e3 e4 eT dT (v9 e9.1) ?_
 refine k _ (Mj _ D I nT eT dT) ⟨na,oe,vs,T,_,_,?_,e2,e0,e3,e4,nT,ne,WB eT dT,Obj.data_mapFields dT _,?_,e9.2⟩
 ·rw[Heap.get?_update_other _ _ ne];exact e1
 ·simp[Array.getElem?_setIfInBounds,v9 e9.1]
theorem UG{oe:Obj}{vs:Array Value}{head:Value}{hn:Bool}(hA:A.frames=some X.stack)(D:Fst X)(I:Inv X [] σ H s)(na:Nw X H a)(e1:s.heap.get? a=some oe)(e2:oe.cls=cls)(e0:oe.dict=none)(e3:oe.data=.fields vs)(hv:1<vs.size)(hv2:vs[2]?=some .none)
  (k:∀h',Inv X [] σ H { s with heap:=h' }→TrAt X H h' a cls (rawInt X.env.locals)→Q () { s with heap:=h' }) :
  wpAny M A (do
   let f ← PySem.frameOf X.env
   let pl ← entryPlaceOf X.env.locals hn
   let b ← EntryCells.newEntry head f Value.none (rawInt X.env.locals) Value.none pl
   setField (.ref a) 1 b) Q E s:=by
 refine wpAny_bind (wpAny_frameOf_fun (base:=X.base) (outer:=X.outer) (by rw[← D.stk];exact hA) (by rw[← D.stk];exact I.stack) D.fr fun h1 so=>?_)
 have ca:=QV D I na (np a) e1 e3
 have nf:a∉frs X.stack:=fun z=>(D.mem.mp z).elim ca.2.2.1 ca.2.2.2.1
 have so':Heap.SlotsOnly (frs X.stack) s.heap h1:=by rw[D.stk];exact so
 have I1:Inv X [] σ H { s with heap:=h1 }:=zl1 (ch:=[]) (t':=s.toks) I D.ex (fun c hc=>nomatch hc) (fun c u z1 z2 _ q=>jT so' (fun z=>(D.mem.mp z).elim z1 z2) q) fun c u _ q=>so'.2.2 c u q
 have f1:h1.get? a=some oe:=jT so' nf e1
 refine wpAny_bind (wpAny_entryPlaceOf fun pl hp=>wpAny_bind ?_)
 unfold EntryCells.newEntry newFields
 refine wpAny_newObj_type ?_ (hp.sizeOk5 _ _ _ _ _)
 have I2:=I1.kept (t':=s.toks) (h':=h1.push { cls:=Value.type "traceback", data:=Data.fields ([head,.ref X.env.locals,Value.none,rawInt X.env.locals,Value.none]++if pl.isEmpty=true then List.replicate 6 Value.none else pl).toArray }) fun b u e=>get?_push_of_some _ e
 have f2:=get?_push_of_some { cls:=Value.type "traceback", data:=Data.fields ([head,.ref X.env.locals,Value.none,rawInt X.env.locals,Value.none]++if pl.isEmpty=true then List.replicate 6 Value.none else pl).toArray } f1
 have nT:Nw X H h1.objs.size:=Xe I1 D.ex (by
  cases q:h1.get? h1.objs.size with
  |none=>rfl
  |some u=>exact absurd (Heap.lt_size q) (lt_irrefl _))
 have ne:h1.objs.size≠a:=ne_of_gt (Heap.lt_size f1)
 refine wpAny_setField f2 e3 hv ?_
 refine k _ (Mj _ D I2 na f2 e3) ⟨na,_,_,h1.objs.size,{ cls:=Value.type "traceback", data:=Data.fields ([head,.ref X.env.locals,Value.none,rawInt X.env.locals,Value.none]++if pl.isEmpty=true then List.replicate 6 Value.none else pl).toArray },_,WB f2 e3,(Obj.cls_mapFields _ _).trans e2,(LA _ _).trans e0,Obj.data_mapFields e3 _,?_,nT,ne,?_,rfl,?_,?_⟩
 ·simp[Array.getElem?_setIfInBounds,hv]
 ·rw[Heap.get?_update_other _ _ (Ne.symm ne)];exact Heap.get?_push_size _ rfl
 ·simp
 ·simpa[Array.getElem?_setIfInBounds] using hv2
theorem Qo(hA:A.frames=some X.stack)(D:Fst X)(I:Inv X [] σ H s)(x:US X H s.heap a cls)
  (k:∀h',Inv X [] σ H { s with heap:=h' }→TrAt X H h' a cls (rawInt X.env.locals)→Q () { s with heap:=h' }):wpAny M A (noteFrame (.ref a) X.env) Q E s:=by
 obtain⟨na,oe,vs,e1,e2,e0,e3,alt,v2⟩:=x
 unfold noteFrame
 rw[D.fr]
 rcases alt with e4|⟨T,oT,ts,e4,nT,ne,eT,dT,e9⟩
 ·refine wpAny_bind (wpAny_field e1 e3 e4 ?_)
  exact UG (hn:=false) hA D I na e1 e2 e0 e3 (v9 e4) v2 k
 ·refine wpAny_bind (wpAny_field e1 e3 e4 ?_)
  refine wpAny_bind (wpAny_field eT dT e9 ?_)
  refine wpAny_bind (wpAny_setField eT dT (v9 e9) ?_)
  have I1:=Mj (fun v=>v.setIfInBounds 3 Value.none) D I nT eT dT
  exact UG (hn:=true) (s:={ s with heap:=s.heap.update T (Obj.mapFields fun v=>v.setIfInBounds 3 Value.none) }) hA D I1 na (by rw[Heap.get?_update_other _ _ ne];exact e1) e2 e0 e3 (v9 e4) v2 k
theorem TV(hA:A.frames=some X.stack)(D:Fst X)(I:Inv X [] σ H s)(x:US X H s.heap a cls)
  (k:∀h',Inv X [] σ H { s with heap:=h' }→TrAt X H h' a cls .none→Q () { s with heap:=h' }):wpAny M A (leaving X.env (.ref a)) Q E s:=by
 unfold leaving
 refine wpAny_bind (Qo hA D I x fun h1 I1 x1=>?_)
 exact ZS (s:={ s with heap:=h1 }) D I1 x1 fun h2 I2 x2=>k h2 I2 x2
noncomputable def CXD(P:Program)(w:World):CXT:=fun outer H s E e s'=>∃a cls H',e=.ref a∧s'.os=s.os∧AllBare s'.gens∧Un (frs outer) [] H H' s.heap s'.heap∧HOk P w H' s'.heap ∧
 (∃oe vs T oT ts,s'.heap.get? a=some oe∧oe.cls=cls∧oe.dict=none∧oe.data=.fields vs∧vs[1]?=some (.ref T)∧T≠a∧s'.heap.get? T=some oT∧oT.data=.fields ts∧ts[3]?=some .none ∧
  H' a=none∧s.heap.get? a=none∧H' T=none∧s.heap.get? T=none∧vs[2]?=some .none)∧E cls none H'
noncomputable def spX(K:Frag)(n:Nat)(g:List D→Rs D):Sp:=fun vs H Q E=>vs.length=n∧∃ds F,Same F H∧TbT F H∧Reps K F ds vs∧match g ds with
 |.ok d=>Ev K F H Q d
 |.ex c=>∀F' H' cls,Ext F H F' H'→nsIn K mainGlobals c=some (some cls)→E cls none H'
 |.no=>False
noncomputable def XV(X:Cx)(σ:St):XK:=fun cls _ H=>∀s a,Inv X [] σ H s→US X H s.heap a cls→X.xe (.ref a) s
theorem XA.xv{c:Str}(h:XA X c σ H){cls:Value}(e:nsIn X.K mainGlobals c=some (some cls)):XV X σ cls none H:=fun s a I x=>h s a cls e I x
theorem Inv.nil(I:Inv X pins σ H s):Inv X [] σ H s:=⟨I.ok,I.os,I.bare,I.base,I.loc,I.cell,I.free,I.freeC,fun p hp=>I.pin p (mem_append_left _ (by simpa using hp)),I.hok,I.len⟩
theorem LX(hx:X.ex=[])(I:Inv X pins σ H s){E:XK}{e:Value}{s':Shared}(h:CXD X.prog X.w X.stack H s E e s'):∃a cls H',e=.ref a∧Inv X pins σ H' s'∧TrAt X H' s'.heap a cls .none∧(∀p∈pins,p.1≠a)∧E cls none H':=by
 obtain⟨a,cls,H',rfl,os,bare,un,hok,⟨oe,vs,T,oT,ts,e1,e2,e0,e3,e4,e5,e6,e7,e8,z1,z2,z3,z4,z5⟩,q⟩:=h
 obtain⟨hh,g,d,t,os'⟩:=s'
 obtain rfl:os'=s.os:=os
 have n1:∀{b:Addr},s.heap.get? b=none→H' b=none→Nw X H' b:=fun {b} z n=>⟨n,XH I hx z,fun p hp y=>by
  have:=(I.pin p (mem_append_left _ hp)).1
  rw[y,z] at this;cases this⟩
 refine⟨a,cls,H',rfl,I.call (h':=hh) (g':=g) (d':=d) (t':=t) (ch:=[]) un hok bare (fun b z=>absurd z (by simp)),⟨n1 z2 z1,oe,vs,T,oT,ts,e1,e2,e0,e3,e4,n1 z4 z3,e5,e6,e7,e8,z5⟩,fun p hp y=>?_,q⟩
 have:=(I.pin p (mem_append_right _ hp)).1
 rw[y,z2] at this;cases this
theorem passX(hx:X.ex=[]){σ:St}(H:Hp)(s:Shared)(I:Inv X pins σ H s){e:Value}{s':Shared}(h:CXD X.prog X.w X.stack H s (XV X σ) e s'):X.xe e s':=by
 obtain⟨a,cls,H',rfl,J,x,_,q⟩:=LX hx I h
 exact q s' a (Inv.nil J) x.exc
end
section
variable{P:Program}{w:World}{K:Frag}{mg:Str→Option Value}{base:Heap}
theorem fnX{x qual:Str}{st:Stmt}{f:Addr}{fd:FuncData}{N ps:List Str}{k n:Nat}{fb:FS}(F:Fun K x qual st f fd)(S:zO N ps (zk st))(hn:ps.length=n)
  (hbody:∀(cdv:Value) (A:Around) (outer:List Env) (s:Shared) (H:Hp) (E:XK),Room k (A.deeper (envOfC qual (zk st) s.heap.objs.size f cdv)) →
   ja (Ys (CXD P w) P w K mg base N qual (zk st) f cdv A outer s H E) (zC st) fb):FnOk P w K mg base (CXD P w) (k+1) f fd ps (spX K n (yC N.length fb)):=by
 obtain⟨oc,od,kV,doc,pm,an,cdv,ct,osl,rfl,lk,hcd⟩:=F.ex
 refine Lr lk hcd S (fun vs H Q E h=>by rw[hn];exact h.1) fun A outer s H vs Q E hr h=>⟨_,hbody cdv A outer s H E hr,?_⟩
 obtain⟨hl,ds,Fz,fh,tt,r,h⟩:=h
 refine⟨H,Fz,Fz,zQ N.length ds,YZ fh tt r,?_⟩
 unfold yC at h
 cases q:fb (zQ N.length ds) with
 |nx τ=>rw[q] at h;exact fun σ F' H' ff RR=>h .non F' H' RR.out (by simp only[Rep])
 |rt d=>rw[q] at h;exact fun v F' H' x rr=>h v F' H' x rr
 |ro d τ=>rw[q] at h;exact fun v σ F' H' ff RR rr=>h v F' H' RR.out rr
 |rb d τ=>rw[q] at h;exact h.elim
 |bk τ=>rw[q] at h;exact h.elim
 |ct τ=>rw[q] at h;exact h.elim
 |ex c=>rw[q] at h;exact h.elim
 |no=>rw[q] at h;exact h.elim
 |rs c τ=>
  rw[q] at h
  intro σ F' H' ff RR s2 a cls hc I x
  let X:Cx:=Ys (CXD P w) P w K mg base N qual (zk st) f cdv A outer s H E
  have D:Fst X:=⟨rfl,rfl,rfl⟩
  refine TV (X:=X) I.ok.frames D I x fun h3 J t=>?_
  obtain⟨na,oe,vs,T,oT,ts,g1,g2,g0,g3,g4,g5,g6,g7,g8,g9⟩:=t
  exact⟨a,cls,H',rfl,J.os,J.bare,J.base,J.hok,⟨oe,vs,T,oT,ts,g1,g2,g0,g3,g4,g6,g7,g8,g9.1,na.1,na.2.1,g5.1,g5.2.1,g9.2⟩,h F' H' cls RR.out hc⟩
end
abbrev VE:List Value:=[Value.type "ValueError", Value.type "Exception", Value.type "BaseException", Value.type "object"]
theorem G5{K:Frag}{h:Heap}{C:Addr}{bmB:List Value}{newId:String}(KX:K.In h)(e:excIn K C bmB newId=true):∃bm N nm q bs hdct sn sub ab col dd k0 k1 k2 k3 k5 mN,
  h.get? C=some (excClassObj nm q C N bs bm hdct sn sub ab col dd k0 k1 k2 k3 k5 newId)∧h.Ns N mN∧mN (Str.ofString "__init__")=none∧OwnTail h bmB bm:=by
 unfold excIn at e
 split at e
 ·rename_i dict cd sl hl
  split at e
  ·rename_i C' bm k0 k1 k2 k3 n k5 hm hs
   simp only[Bool.and_eq_true,beq_iff_eq] at e
   obtain⟨⟨⟨⟨⟨e1,e2⟩,e3⟩,e4⟩,e5⟩,e6⟩:=e
   subst e1;subst e2
   have obj:=KX _ _ hl
   have hsl:sl = #[k0,k1,k2,k3,some (Value.builtin n),k5]:=by
    apply Array.toList_inj.mp
    rw[hs]
   obtain⟨nm,bs,mro,ns,q,hdct,sn,sub,ab,col,hdel⟩:=cd
   simp only at hm e3 e5 e6
   have e3:hdel=false:=by simpa using e3
   subst e3 hm hsl
   exact⟨bm,ns,nm,q,bs,hdct,sn,sub,ab,col,dict,k0,k1,k2,k3,k5,_,obj,Heap.Ns.of_isNs (PySem.W.isNs_of_in KX e5),PySem.W.nsMap_none_of_in KX e5 e6,PySem.W.tail_of_in KX e4⟩
  ·cases e
 ·cases e
structure EC(K:Frag)(mg:Str→Option Value)(c:Str)(C:Addr):Prop where
 ns:nsIn K mainGlobals c=some (some (.ref C))
 mgl:mg c=some (.ref C)
 exc:excIn K C VE "ValueError.__new__" = true
section
variable{X:Cx}{pos:Pos}{e:Expr}{es:List Expr}{fe:FE}{fs:FA}{st:Stmt}
noncomputable def U6(c:Str):FS:=fun τ=>.rs c τ
theorem Gh{c:Str}{C:Addr}{np cpos:Pos}{d:D}(T:EC X.K X.mg c C)(hx:X.ex=[])(hh:X.A.handled=none)(ha:PDE X e (eC d))(hg:Gl X c:=by rfl)(hd:(c==("__debug__" : Str))=false:=by decide)
  (hs:starEach [e] X.env=[(false,eval e X.env)]:=by rfl):PDS X (.Raise (some (.Call (.Name c np) [e] [] cpos)) none pos) (U6 c):=by
 rintro pins s σ H D I ⟨B,Z,F,τ,R,h⟩
 obtain⟨bm,N,nm,q,bs,hdct,sn,sub,ab,col,dd,k0,k1,k2,k3,k5,mN,hC,hN,hi,tl⟩:=G5 I.ok.mod.kin T.exc
 refine wpAny_Raise_call_subU (bmB:=VE) (mN:=mN) (nm:=nm) (q:=q) (N:=N) (bs:=bs) (hdct:=hdct) (sn:=sn) (sub:=sub) (ab:=ab) (col:=col) (dd:=dd) (k0:=k0) (k1:=k1) (k2:=k2) (k3:=k3) (k5:=k5) PySem.F.excBase_ValueError (by decide) PySem.F.excBase_ValueError (tl.hasType (by decide)) hh (by rw[hs];rfl) hi (Zb I hg T.mgl ⟨rfl,?_⟩ hd)
 rw[hs]
 refine Calls.evalArgs_plain ?_
 have ha':=zd ha zi (by rw[hs];rfl)
 have ha2:=ha' cpos pins s σ H (fun vs H1=>∃F1,Ext F H F1 H1∧vs.length=1) I ⟨F,τ,R.rv,fun vs F1 H1 x r=>⟨F1,x,by rw[← r.length];rfl⟩⟩
 rw[hs] at ha2
 refine thn ha2 fun us s1 z_=>?_
 obtain⟨vs,H1,I1,r,F1,x1,hl⟩:=z_
 refine⟨rfl,by show us.length≤sizeLine;rw[← r.length,hl];decide,I1.bk _ _ hC,hN.keeps I1.bk,tl.keeps I1.bk,fun h' a m=>?_⟩
 have I2:Inv X pins σ H1 { s1 with heap:=h' }:=I1.kept (t':=s1.toks) m.keeps
 obtain⟨t,et,_,_⟩:=m.there
 exact h σ F1 H1 x1.ff (R.ext x1) { s1 with heap:=h' } a (.ref C) T.ns (Inv.nil I2) ⟨Xe (s:=s1) I1 hx m.new,_,_,et,rfl,rfl,rfl,.inl rfl,rfl⟩
noncomputable def tX(X:Cx)(fs:FA)(g:List D→Rs D):TE:=fun σ H Q=>∃F τ,RV X.K F τ σ H∧Ok X (fs τ) fun ds=>match g ds with
 |.ok d=>Ev X.K F H Q d
 |.ex c=>∀F' H',Ext F H F' H'→XA X c σ H'
 |.no=>False
noncomputable def DefX(P:Program)(w:World)(K:Frag)(mg:Str→Option Value)(base:Heap)(x:Str)(k n:Nat)(ps:List Str)(g:List D→Rs D):Prop:=
 ∃f fd,FnOk P w K mg base (CXD P w) k f fd ps (spX K n g)∧Binds K fd ps []∧keepIn K (.ref f)=true∧mg x=some (.ref f)
theorem VT{k n:Nat}{ps:List Str}{g:List D→Rs D}{x:Str}{p:Pos}(D:DefX X.prog X.w X.K X.mg X.base x k n ps g)(hx:X.ex=[])(hr:Room k X.A)(ha:PDA X (e::es) fs)(hfs:∀τ ds,fs τ=.ok ds→ds.length=(e::es).length)(hn:(e::es).length=n:=by rfl)(hg:Gl X x:=by rfl)(hdb:(x==("__debug__" : Str))=false:=by decide)
  (he:starEach (e::es) X.env=(false,eval e X.env)::starEach es X.env:=by rfl) (hpl:(backTo pos (starEach es X.env)).any (·.1)=false:=by rfl):PE X (.Call (.Name x p) (e::es) [] pos) (tX X fs g):=by
 obtain⟨f,fd,FF,hb,hk,hm⟩:=D
 rintro pins s σ H Q I ⟨F,τ,R,h⟩
 refine wpAny_Call_Name_kw (Zb I hg hm ?_ hdb)
 refine PySem.W.callWith_K (h₀:=X.base) I.ok.mod.kin hk (thn (ha pos pins s σ H (fun vs H1=>vs.length=n∧∃ds F1,Ext F H F1 H1∧Reps X.K F1 ds vs∧match g ds with
  |.ok d=>Ev X.K F H Q d
  |.ex c=>∀F' H',Ext F H F' H'→XA X c σ H'
  |.no=>False) I ⟨F,τ,R,?_⟩) fun us s1 ⟨vs,H1,I1,r,hl,ds,F1,x1,rr,q⟩=>⟨I1.kIn,?_⟩) he hpl
 ·cases z:fs τ with
  |ok ds=>rw[z] at h;exact fun vs F1 H1 x1 rr=>⟨by rw[← rr.length,hfs τ ds z,hn],ds,F1,x1,rr,h⟩
  |ex c=>rw[z] at h;exact h
  |no=>rw[z] at h;exact h
 ·have hl2:us.length=ps.length:=by
   rw[← r.length,hl]
   have:=FF.len vs H1 Q (XV X σ)
   refine Eq.trans hl.symm (this ⟨hl,ds,F1,x1.fh,x1.tt R.tt,rr,?_⟩)
   cases z:g ds with
   |ok d=>rw[z] at q;exact q.ext x1
   |ex c=>rw[z] at q;exact fun F' H' cls xx hc=>(q F' H' (x1.trans xx)).xv hc
   |no=>rw[z] at q;exact q
  have hsp:spX X.K n g vs H1 Q (XV X σ):=⟨hl,ds,F1,x1.fh,x1.tt R.tt,rr,by
   cases z:g ds with
   |ok d=>rw[z] at q;exact q.ext x1
   |ex c=>rw[z] at q;exact fun F' H' cls xx hc=>(q F' H' (x1.trans xx)).xv hc
   |no=>rw[z] at q;exact q⟩
  have bt:=hb s1 us I1.kIn (by rw[append_nil];exact hl2)
  rw[append_nil] at bt
  refine wpAny_call (codeAny_mono (FF.run X.A X.stack s1 H1 ⟨us,[]⟩ us vs Q (XV X σ) hr I1.env0 bt r hsp) fun r s' hq=>?_)
  cases r with
  |error e=>exact passX hx H1 s1 I1 hq
  |ok fl=>
   cases fl with
   |ret u=>exact I1.after hq
   |next=>exact False.elim hq
   |brk=>exact False.elim hq
   |cont=>exact False.elim hq
noncomputable def jV(g:List D→Rs D)(fs:FA):FS:=fun τ=>Fl.of (fs τ) fun ds=>match g ds with
 |.ok d=>.rt d
 |.ex c=>.rs c τ
 |.no=>.no
theorem M6{g:List D→Rs D}(h:PE X e (tX X fs g)):PDS X (.Return (some e) pos) (jV g fs):=
 PS.imp (WY h) fun E σ H ⟨B,Z,F,τ,R,q⟩=>⟨F,τ,R.rv,q.of.imp fun ds q=>by
  cases z:g ds with
  |ok d=>rw[z] at q;exact fun v F1 H1 x r=>q v F1 H1 (R.ext x).out r
  |ex c=>rw[z] at q;exact fun F1 H1 x=>q σ F1 H1 x.ff (R.ext x)
  |no=>rw[z] at q;exact q⟩
noncomputable def uk(g:List D→Rs D)(fs:FA):FS:=fun τ=>Fl.of (fs τ) fun ds=>match g ds with
 |.ok d=>.nx τ
 |.ex c=>.rs c τ
 |.no=>.no
theorem Gi{g:List D→Rs D}(h:PE X e (tX X fs g))(hs:swapsWith e none pos.line X.env=pure false:=by rfl):PDS X (.Expr e pos) (uk g fs):=
 PS.imp (WZ h hs) fun E σ H ⟨B,Z,F,τ,R,q⟩=>⟨F,τ,R.rv,q.of.imp fun ds q=>by
  cases z:g ds with
  |ok d=>rw[z] at q;exact fun v F1 H1 x r=>q σ F1 H1 x.ff (R.ext x)
  |ex c=>rw[z] at q;exact fun F1 H1 x=>q σ F1 H1 x.ff (R.ext x)
  |no=>rw[z] at q;exact q⟩
noncomputable def ZB(f:FS):FS:=fun τ=>match f τ with
 |.rs _ _=>.no
 |.ex _=>.no
 |r=>r
theorem Jc{sts:List Stmt}{f:FS}(h:ja X.nox sts f):ja X sts (ZB f):=
 PSs.imp (PSs.nox h) fun E σ H ⟨B,Z,F,τ,R,q⟩=>⟨B,Z,F,τ,R,by
  unfold ZB at q
  cases z:f τ with
  |nx τ'=>rw[z] at q;exact q
  |rt d=>rw[z] at q;exact q
  |ro d τ=>rw[z] at q;exact q
  |rb d τ=>rw[z] at q;exact q
  |bk d=>rw[z] at q;exact q
  |ct d=>rw[z] at q;exact q
  |ex d=>rw[z] at q;exact q.elim
  |no=>rw[z] at q;exact q
  |rs c d=>rw[z] at q;exact q.elim⟩
end
section
variable{P:Program}{w:World}{K:Frag}{mg:Str→Option Value}{base:Heap}
theorem DefX.mk{x:Str}{st:Stmt}{f:Addr}{fd:FuncData}{N ps:List Str}{k n:Nat}{fb:FS}(D:zR K mg x st f fd)(S:zO N ps (zk st))(hn:ps.length=n)
  (hb:∀(kV doc pm:Value) (an:Option Addr) (cdv ct:Value) (us:List Value),us.length=ps.length→bindArgs (fnOf x x (zL st) (zC st) (zk st) .none kV doc pm an cdv ct) ⟨us,[]⟩=pure (ps.zip us))
  (hbody:∀(cdv:Value) (A:Around) (outer:List Env) (s:Shared) (H:Hp) (E:XK),Room k (A.deeper (envOfC x (zk st) s.heap.objs.size f cdv)) →
   ja (Ys (CXD P w) P w K mg base N x (zk st) f cdv A outer s H E) (zC st) fb):DefX P w K mg base x (k+1) n ps (yC N.length fb):=
 ⟨f,fd,fnX D.fn S hn hbody,D.fn.binds hb,D.fn.kp,D.at_⟩
end
section
variable{X:Cx}{pins:List (Addr×Obj)}{σ:St}{H:Hp}{s:Shared}{a:Addr}{cls:Value}
theorem track{o:HO}{oe:Obj}{vs:Array Value}(D:Fst X)(I:Inv X pins σ H s)(n:Nw X H a)(hp:∀p∈pins,p.1≠a)(e:s.heap.get? a=some oe)(d:oe.data=.fields vs)(new:ObjOk X.prog X.w (upd H a o) s.heap a o):Inv X pins σ (upd H a o) s:=by
 have c:=QV D I n hp e d
 have hn:=n.1
 refine⟨I.ok,I.os,I.bare,⟨I.base.keep,I.base.slot,fun b u q z hx=>?_,I.base.there,fun b xs q=>?_,fun b u v q=>?_,fun b ps q=>?_⟩,I.loc,I.cell,?_,fun x c' hc=>?_,fun p hp'=>?_,fun b u q=>?_,I.len⟩
 ·rw[zo (fun z=>by rw[z,c.1] at q;cases q)];exact I.base.free b u q z hx
 ·have:=I.base.tups b xs q
  rw[zo (zP this hn)];exact this
 ·have:=I.base.frzs b u v q
  rw[zo (zP this hn)];exact this
 ·obtain⟨m,q'⟩:=I.base.tbls b ps q
  exact⟨m,by rw[zo (zP q' hn)];exact q'⟩
 ·rw[zo (Ne.symm c.2.2.1)];exact I.free
 ·rw[zo (c.2.2.2.2.1 x c' hc)];exact I.freeC x c' hc
 ·obtain⟨q1,q2,q3⟩:=I.pin p hp'
  exact⟨q1,by rw[zo (c.2.2.2.2.2 p hp')];exact q2,q3⟩
 ·by_cases hb:b=a
  ·subst hb;rw[zv] at q;cases q;exact new
  ·rw[zo hb] at q
   exact(I.hok b u q).stay (fun _ _ _ z=>z) (fun b' z=>by rw[zo (zP z hn)];exact z) fun b' xs z=>by rw[zo (zP z hn)];exact z
noncomputable abbrev UZ(X:Cx)(a:Addr):Cx:={ X with A:=X.A.mark (some (.ref a)),calm:=false,xe:=fun _ _=>False }
theorem Inv.suite(I:Inv X pins σ H s)(a:Addr):Inv (UZ X a) pins σ H s:=
 ⟨⟨I.ok.mod,I.ok.kind,I.ok.glob,I.ok.blt,I.ok.above,I.ok.inj,I.ok.has,I.ok.cab,(fun z=>nomatch z),I.ok.frames,I.ok.stk,I.ok.exf,I.ok.bs,I.ok.bsz,I.ok.noex,I.ok.exfs,I.ok.funs,I.ok.frf⟩,I.os,I.bare,I.base,I.loc,I.cell,I.free,I.freeC,I.pin,I.hok,I.len⟩
theorem Inv.unsuite(ok:X.Ok)(I:Inv (UZ X a) pins σ H s):Inv X pins σ H s:=⟨ok,I.os,I.bare,I.base,I.loc,I.cell,I.free,I.freeC,I.pin,I.hok,I.len⟩
noncomputable abbrev Vx(X:Cx)(pins:List (Addr×Obj))(E:Value→Shared→Prop):Cx:={ X with xe:=E,pn:=X.pn++pins }
theorem Inv.tryI(I:Inv X pins σ H s)(E:Value→Shared→Prop):Inv (Vx X pins E) [] σ H s:=
 ⟨⟨I.ok.mod,I.ok.kind,I.ok.glob,I.ok.blt,I.ok.above,I.ok.inj,I.ok.has,I.ok.cab,I.ok.hd,I.ok.frames,I.ok.stk,I.ok.exf,I.ok.bs,I.ok.bsz,I.ok.noex,I.ok.exfs,I.ok.funs,I.ok.frf⟩,I.os,I.bare,I.base,I.loc,I.cell,I.free,I.freeC,fun p hp=>I.pin p (by simpa using hp),I.hok,I.len⟩
theorem Inv.untry{E:Value→Shared→Prop}(ok:X.Ok)(I:Inv (Vx X pins E) [] σ H s):Inv X pins σ H s:=
 ⟨ok,I.os,I.bare,I.base,I.loc,I.cell,I.free,I.freeC,fun p hp=>I.pin p (by simpa using hp),I.hok,I.len⟩
theorem GE{M:Model}{h:Heap}{oe:Obj}(e:h.get? a=some oe):PySem.W.Looks M h (typeOf (.ref a)) oe.cls:=PySem.W.Looks.andThen (PySem.W.Looks.ld e) PySem.W.Looks.now
noncomputable def Tt(τ:DS):Bool:=τ.all fun o=>match o with
 | some (.own _)=>false
 |_=>true
noncomputable def uL(fb:FS)(ok:Str→Bool)(i:Nat)(fe:FS):FS:=fun τ=>if Tt τ=true then (match fb τ with
 |.rs c τ'=>if ok c=true then (match fe (τ'.set i (some (.val (.exc c)))) with
  |.rt d=>.rt d
  |_=>.no) else .no
 |.ex _=>.no
 |r=>r) else .no
theorem goes{h':Heap}{m':Str→Option Value}{t':Nat}(I:Inv X pins σ H s)(hn:h'.Ns X.env.locals m')(sb:Heap.SameBut X.env.locals s.heap h'):Inv X pins (List.replicate X.N.length none) H { s with heap:=h',toks:=t' }:=by
 have nL:∀b o,X.s₀.heap.get? b=some o→b≠X.env.locals:=fun b o e=>ne_of_lt (lt_of_lt_of_le (Heap.lt_size e) I.ok.above)
 refine⟨I.ok,I.os,I.bare,⟨fun b o e n hb hx=>(sb.2 b (nL b o e)).trans (I.base.keep b o e n hb hx),fun b o e n hb hx=>?_,I.base.free,fun b o e hx=>?_,I.base.tups,I.base.frzs,I.base.tbls⟩,⟨m',hn,fun j y v e1 e2 e3=>?_⟩,fun y c e=>?_,I.free,I.freeC,fun p hp=>?_,fun b u e=>?_,by simp⟩
 ·obtain⟨sl,q⟩:=I.base.slot b o e n hb hx
  exact⟨sl,(sb.2 b (nL b o e)).trans q⟩
 ·obtain⟨o',q⟩:=I.base.there b o e hx
  exact⟨o',(sb.2 b (nL b o e)).trans q⟩
 ·rw[getElem?_replicate] at e2
  split at e2 <;> cases e2
 ·obtain⟨v,o,ho,hd⟩:=I.cell y c e
  exact⟨v,o,(sb.2 c (I.cne y c e)).trans ho,hd⟩
 ·obtain⟨q1,q2,q3,q4⟩:=I.pin p hp
  exact⟨(sb.2 p.1 q3).trans q1,q2,q3,q4⟩
 ·refine(I.hok b u e).stay (fun c w' hc q=>(sb.2 c ?_).trans q) (fun _ q=>q) fun _ _ q=>q
  rintro rfl
  rcases hc with rfl|hc
  ·rw[I.free] at e;cases e
  ·rw[I.free] at hc;cases hc
theorem Gg{body suite:List Stmt}{b₀:Stmt}{fb fe:FS}{ok:Str→Bool}{n hc:Str}{Ch:Addr}{i:Nat}{np hpos pos:Pos}(D:Fst X)(TH:EC X.K X.mg hc Ch)(hN:X.N.Nodup)(hi:X.N[i]?=some n)(hk:X.env.kindOf n=some .local)
  (hb:∀pins E,ja (Vx X pins E) body fb) (hs:∀a,ja (UZ X a) (b₀::suite) fe)
  (hok:∀c cls,ok c=true→nsIn X.K mainGlobals c=some (some cls)→exmOne X.K cls (.ref Ch)=some true)
  (hg:Gl X hc:=by rfl) (hd:(hc==("__debug__" : Str))=false:=by decide):PDS X (.Try body [.ExceptHandler (some (.Name hc np)) (some n) (b₀::suite) hpos] [] [] pos) (uL fb ok i fe):=by
 rintro pins s σ H E I ⟨B,Z,F,τ,R,h⟩
 unfold uL at h
 by_cases hno:Tt τ=true
 rotate_left
 ·rw[if_neg hno] at h;exact h.elim
 rw[if_pos hno] at h
 refine wpAny_Try_except ?_
 have R0:RS X.K B Z F τ σ H:=R
 have lift:∀{σ':St} {F' H':Hp} {τ':DS},RS X.K B Z F' τ' σ' H'→RS X.K B Z F' τ' σ' H':=fun RR=>RR
 refine wpAny_mono (Q:=SP (Vx X pins _) [] E) (hb pins _ [] s σ H E (Inv.tryI I _) ⟨B,Z,F,τ,R0,?_⟩) (fun f s' sp=>?_) (fun _ _ q=>q)
 ·cases q:fb τ with
  |nx τ'=>rw[q] at h;exact fun σ' F' H' ff RR=>h σ' F' H' ff (lift RR)
  |bk τ'=>rw[q] at h;exact fun σ' F' H' ff RR=>h σ' F' H' ff (lift RR)
  |ct τ'=>rw[q] at h;exact fun σ' F' H' ff RR=>h σ' F' H' ff (lift RR)
  |rt d=>rw[q] at h;exact fun v F' H' x r=>h v F' H' x r
  |ro d τ'=>rw[q] at h;exact fun v σ' F' H' ff RR r=>h v σ' F' H' ff (lift RR) r
  |rb d τ'=>rw[q] at h;exact fun v σ' F' H' ff RR r=>h v σ' F' H' ff (lift RR) r
  |ex c=>rw[q] at h;exact h.elim
  |no=>rw[q] at h;exact h
  |rs c τ'=>
   rw[q] at h
   intro σ' F' H' ff RR s1 a cls hcn J x
   have RR:RS X.K B Z F' τ' σ' H':=RR
   by_cases hoc:ok c=true
   rotate_left
   ·simp only[if_neg hoc] at h;exact h.elim
   simp only[if_pos hoc] at h
   have D1:∀E',Fst (Vx X pins E'):=fun _=>⟨D.ex,D.stk,D.fr⟩
   refine Qo (X:=Vx X pins _) I.ok.frames (D1 _) J x fun h1 J1 x1=>?_
   refine ZS (X:=Vx X pins _) (s:={ s1 with heap:=h1 }) (D1 _) J1 x1 fun h2 J2 x2=>?_
   refine wpAny_handleBy_cons ?_ (by intro z;cases z)
   refine codeAny_handlers_test ?_
   have JS:=Inv.suite J2 a
   refine Zb JS hg TH.mgl ?_ hd
   obtain⟨na,oe,vs,T,oT,ts,g1,g2,g0,g3,g4,g5,g6,g7,g8,g9⟩:=id x2
   have lk:PySem.W.Looks (model X.prog X.w) h2 (excMatches (.ref a) (.ref Ch)) true:=PySem.W.exm_one J2.kIn (GE g1) (by rw[g2];exact hok c cls hoc hcn)
   refine PySem.W.Looks.at lk ?_
   refine codeAny_handlers_suite_as ?_
   refine ZS (X:=Vx X pins _) (s:={ s1 with heap:=h2 }) (D1 _) J2 x2 fun h3 J3 x3=>?_
   obtain⟨na,oe,vs,T,oT,ts,g1,g2,g0,g3,g4,g5,g6,g7,g8,g9⟩:=id x3
   have JT:=track (o:=.ext (UC X.K a c)) (D1 _) J3 na (FD.np a) g1 g3 ⟨⟨oe,cls,vs,g1,g2,g0,g3,hcn⟩,⟨oe,g1⟩,fun k1 k2 ⟨o1,c1,v1,p1,p2⟩ kk=>⟨o1,c1,v1,kk _ p1,p2⟩⟩
   refine YR (Inv.untry I.ok JT) hN hi (Or.inl hk) (show RelV (.ref a) (.ref a) from rfl) (fun s4 J4=>?_) (.inr hk)
   have RR2:RS X.K B Z (upd F' a (.ext (UC X.K a c))) (τ'.set i (some (.val (.exc c)))) (σ'.set i (some (.ref a))) (upd H' a (.ext (UC X.K a c))):=((lift RR).ext (Ext.new (lift RR).rv.fh na.1)).set (by simp only[Rep];exact⟨a,rfl,zv⟩)
   refine wpAny_mono (hs a pins s4 _ _ { nx:=fun _ _=>False,rt:=E.rt } (Inv.suite J4 a) ⟨B,Z,_,_,RR2,?_⟩) (fun f s5 sp=>?_) (fun _ _ z=>False.elim z)
   ·cases q2:fe (τ'.set i (some (.val (.exc c)))) with
    |rt d=>rw[q2] at h;exact h
    |ro _ _=>rw[q2] at h;exact h.elim
    |rb _ _=>rw[q2] at h;exact h.elim
    |nx _=>rw[q2] at h;exact h.elim
    |bk _=>rw[q2] at h;exact h.elim
    |ct _=>rw[q2] at h;exact h.elim
    |ex _=>rw[q2] at h;exact h.elim
    |no=>rw[q2] at h;exact h.elim
    |rs _ _=>rw[q2] at h;exact h.elim
   ·cases f with
    |next=>obtain⟨_,_,_,z⟩:=sp;exact z.elim
    |brk=>obtain⟨_,_,_,z⟩:=sp;exact z.elim
    |cont=>obtain⟨_,_,_,z⟩:=sp;exact z.elim
    |ret u=>
     obtain⟨v,σ5,H5,I5,r5,q5⟩:=sp
     have I5:=Inv.unsuite I.ok I5
     obtain⟨m,hm,_⟩:=id I5.loc
     exact wpAny_nameGoes hk hm (by rw[I.ok.kind];rfl) fun h6 m6 hn6 sb=>⟨v,_,H5,goes I5 hn6 sb,r5,q5⟩
 ·cases f with
  |next=>obtain⟨σ',H',I',q'⟩:=sp;exact wpAny_execs_nil ⟨σ',H',Inv.untry I.ok I',q'⟩
  |brk=>obtain⟨σ',H',I',q'⟩:=sp;exact⟨σ',H',Inv.untry I.ok I',q'⟩
  |cont=>obtain⟨σ',H',I',q'⟩:=sp;exact⟨σ',H',Inv.untry I.ok I',q'⟩
  |ret u=>obtain⟨v,σ',H',I',r',q'⟩:=sp;exact⟨v,σ',H',Inv.untry I.ok I',r',q'⟩
end
theorem zh1:builtinKind "BaseException.__getattribute__" = some Manifest.AttrKind.slot:=by decide +kernel
theorem MD:splitId "BaseException.__getattribute__" = some ("BaseException", "__getattribute__"):=by decide +kernel
structure ECK(K:Frag)(C:Addr):Prop where
 ga:findIn K (.ref C) "__getattribute__" = some (some (.builtin "BaseException.__getattribute__"))
 gh:findIn K (.ref C) "__getattr__" = some none
 ob:findObj K C none "__class__" = some (Builtin.ObjectAttr.Found.bind (.builtin "getset_descriptor.__get__") (.builtin "object.__class__"))
 mo:mroIn K C (.type "object")=some true
 mb:mroIn K C (.type "BaseException")=some true
 ty:typeIn K (.ref C)=some (.type "type")
 se:kitCls K (.ref C) (.ref C)=some true
noncomputable def ExI(x C:Addr):Heap→Prop:=fun h=>∃oe vs,h.get? x=some oe∧oe.cls=.ref C∧oe.dict=none∧oe.data=.fields vs
theorem ExI.inst{x C:Addr}{h:Heap}(e:ExI x C h):∃ox,PySem.W.InstAt h x ox C none:=by
 obtain⟨oe,vs,e1,e2,e3,e4⟩:=e
 exact⟨oe,e1,e2,by unfold PySem.W.notCls;rw[e4],by rw[e3];trivial⟩
section
variable{prog:Program}{w:World}{A:Around}{E:Value→Shared→Prop}{K:Frag}{x C:Addr}
theorem LI{s:Shared}{nameV:Value}{Q:Unit→Shared→Prop}(T:ECK K C)(KX:K.In s.heap)(hx:ExI x C s.heap)(q:Q () s):wpAny (model prog w) A (checkBuiltinCall "BaseException.__getattribute__" { pos:=[.ref x,nameV] }) Q E s:=by
 obtain⟨hp,g,d,t,os⟩:=s
 obtain⟨ox,ix⟩:=hx.inst
 unfold checkBuiltinCall
 simp only[zh1,MD]
 unfold isInstance
 refine wpAny_bind (wpAny_bind (PySem.W.Looks.at ix.type ?_))
 refine PySem.W.Looks.at (PySem.W.looks_mroIn KX T.mb) ?_
 simp only[Bool.not_true,Bool.false_eq_true,if_false]
 have:=PySem.F.args_bexc_ga (.ref x) nameV
 unfold argsOk at this
 cases z:Manifest.signature? "BaseException.__getattribute__" with
 |none=>exact wpAny_pure q
 |some sig=>
  rw[z] at this
  exact wpAny_of_eq this q
theorem G4{s:Shared}{Q:Option Value→Shared→Prop}(T:ECK K C)(KX:K.In s.heap)(hx:ExI x C s.heap)(q:Q (some (.ref C)) { s with toks:=s.toks+1 }):wpAny (model prog w) A (getAttr? (.ref x) "__class__") Q E s:=by
 obtain⟨hp,g,d,t,os⟩:=s
 obtain⟨ox,ix⟩:=hx.inst
 unfold getAttr?
 refine wpAny_bind (wpAny_mkText ?_)
 unfold getAttrBy?
 refine wpAny_bind (wpAny_attempt ?_)
 unfold getAttrBy
 refine wpAny_holding (wpAny_bind (PySem.W.Looks.at ix.type ?_))
 refine wpAny_bind (PySem.W.Looks.at (PySem.W.looks_findIn KX T.ga) ?_)
 simp only
 rw[if_neg (show ¬(onTheHeap (Value.ref C)&&Value.builtin "BaseException.__getattribute__" == Value.builtin "object.__getattribute__")=true by show ¬ (true&&_)=true;decide)]
 unfold getAttrByItsOwn hookBefore
 refine wpAny_bind ?_
 rw[if_pos (by rfl)]
 refine PySem.W.Looks.at (PySem.W.looks_findIn KX T.gh) ?_
 refine wpAny_bind (wpAny_attempt (wpAny_holding ?_))
 unfold callGetattribute boundAndCalled
 rw[if_neg (by decide)]
 rw[PySem.F.attrBase_ValueError.ga.bind]
 refine wpAny_bind (wpAny_pure ?_)
 refine wpAny_call (codeAny_call_builtin PySem.F.attrBase_ValueError.ga.plain PySem.F.entry_bexc_ga ?_)
 refine LI T KX hx ?_
 unfold Builtin.«object.__getattribute__»
 refine wpAny_bind ?_
 refine(show wpAny (model prog w) A.in1 (pure (Value.ref x,[Value.str (Str.ofString "__class__") t]):Sem (Value×List Value)) _ _ _ from wpAny_pure ?_)
 refine wpAny_bind ((show wpAny (model prog w) A.in1 (pure (Str.ofString "__class__"):Sem Str) _ _ _ from wpAny_pure ?_))
 refine wpAny_bind (PySem.W.Looks.at ix.type ?_)
 refine wpAny_bind (PySem.W.Looks.at (PySem.W.looks_find KX ix T.ob) ?_)
 refine wpAny_bind (wpAny_holding (wpAny_call (PySem.W.class_get KX ix T.mo ?_)))
 exact wpAny_pure (wpAny_pure (wpAny_pure q))
theorem zh0(T:ECK K C):PySem.W.KitX K (.ref x) (.ref C) (ExI x C) where
 ty:=fun M h _ hx=>by
  obtain⟨ox,ix⟩:=hx.inst
  exact ix.type
 it:=fun M h KX _=>(PySem.W.kit_cls KX T.se).2.1
 ne:=fun h tp dd its n sl KX e=>by
  cases z:(Value.ref C==Value.ref tp) with
  |false=>rfl
  |true=>
   have z:C=tp:=by simpa using z
   subst z
   have ty:Option.map (fun x:Obj=>x.cls) (List.lookup C K)=some (.type "type"):=T.ty
   cases l:List.lookup C K with
   |none=>rw[l] at ty;cases ty
   |some o=>
    rw[l] at ty
    have:=KX C o l
    rw[e] at this;cases this
    simp at ty
 ca:=fun KX hx q=>G4 T KX hx q
end
section
variable{X:Cx}{pos:Pos}{a b:Expr}{fa:FE}
noncomputable def QK(tb:List (Str×Bool)):D→Rs D
 |.exc c=>match tb.lookup c with
  |some b=>.ok (.bl b)
  |none=>.no
 |_=>.no
noncomputable def Yr(tb:List (Str×Bool))(fa:FE):FE:=fun τ=>(fa τ).bind (QK tb)
theorem zd4{tb:List (Str×Bool)}{v:V}{u:Value}{p:Pos}(ha:PDE X a fa)(hb:PE X b (tC v))(hu:∀u',RelV v u'→u'=u)(ht:∀c k,tb.lookup c=some k→∃C,nsIn X.K mainGlobals c=some (some (.ref C))∧ECK X.K C∧kitOne X.K (.ref C) u=some k)
  (hm:X.mg "isinstance" = none) (hg:Gl X "isinstance" := by rfl) (hs:starEach [a,b] X.env=[(false,eval a X.env),(false,eval b X.env)]:=by rfl) (hs2:starEach [b] X.env=[(false,eval b X.env)]:=by rfl) :
  PDE X (.Call (.Name "isinstance" p) [a,b] [] pos) (Yr tb fa):=by
 have call:CallR X (.builtin "isinstance") (fun vs H Q=>∃x c k,vs=[.ref x,v]∧H x=some (.ext (UC X.K x c))∧tb.lookup c=some k∧Q (.bl k) H):=by
  rintro pins s σ H vs us Q I r ⟨x,c,k,e,hx,hk,q⟩
  subst e
  obtain⟨u1,u2,rfl,r1,r2⟩:=vals2 r
  obtain rfl:u1=Value.ref x:=r1
  rw[hu u2 r2]
  obtain⟨C,h1,T,h2⟩:=ht c k hk
  obtain⟨⟨oe,cls,vs,e1,e2,e3,e4,e5⟩,_,_⟩:=I.hok x _ hx
  rw[h1] at e5
  cases e5
  exact PySem.W.kia_one (zh0 T) I.kIn ⟨oe,vs,e1,e2,e3,e4⟩ h2 (by intro z;cases z) fun tk=>⟨.bl k,H,I.tok _,rfl,q⟩
 refine PE.imp (L2.pe_callB call hg hm boot_isinstance (vN ha (vN hb jE (by rw[hs2];rfl)) (by rw[hs,hs2])) (he:=by rw[hs,hs2]) (hpl:=by rw[hs2];rfl)) fun σ H Q z_=>?_
 obtain⟨F,τ,R,h⟩:=z_
 refine tE.of R h.bind fun d w F1 H1 g x R1 r=>?_
 cases d with
 |exc c=>
  simp only[Rep] at r
  obtain⟨y,rfl,e⟩:=r
  simp only[QK] at g
  cases z:tb.lookup c with
  |none=>rw[z] at g;exact g.elim
  |some k=>
   rw[z] at g
   exact⟨y,c,k,rfl,R1.fh _ _ e,z,g (.bl k) F1 H1 x (by simp only[Rep])⟩
 |_=>exact g.elim
theorem tb1{c0 c:Str}{k0 k:Bool}(h:List.lookup c [(c0,k0)]=some k):c=c0∧k=k0:=by
 simp only[List.lookup] at h
 cases z:c==c0 with
 |true=>rw[z] at h;exact⟨by simpa using z,(Option.some.inj h).symm⟩
 |false=>rw[z] at h;cases h
theorem j0{c0:Str}{C0:Addr}{k0:Bool}{v:V}{u:Value}{p:Pos}(T:EC X.K X.mg c0 C0)(TK:ECK X.K C0)(ha:PDE X a fa)(hb:PE X b (tC v))(hu:∀u',RelV v u'→u'=u)(kk:kitOne X.K (.ref C0) u=some k0)
  (hm:X.mg "isinstance" = none) (hg:Gl X "isinstance" := by rfl) (hs:starEach [a,b] X.env=[(false,eval a X.env),(false,eval b X.env)]:=by rfl) (hs2:starEach [b] X.env=[(false,eval b X.env)]:=by rfl) :
  PDE X (.Call (.Name "isinstance" p) [a,b] [] pos) (Yr [(c0,k0)] fa):=
 zd4 ha hb hu (fun c k h=>by obtain⟨rfl,rfl⟩:=tb1 h;exact⟨C0,T.ns,TK,kk⟩) hm hg hs hs2
theorem WW{C:Addr}:∀u',RelV (V.ref C) u'→u'=Value.ref C:=fun u' h=>h
theorem zo3{T:String}:∀u',RelV (V.ty T) u'→u'=Value.type T:=fun u' h=>h
theorem ok1{c0:Str}{C0 Ch:Addr}{K:Frag}{mg:Str→Option Value}(T:EC K mg c0 C0)(x:exmOne K (.ref C0) (.ref Ch)=some true):∀c cls,(c==c0)=true→nsIn K mainGlobals c=some (some cls)→exmOne K cls (.ref Ch)=some true:=fun c cls h1 h2=>by
 have e:c=c0:=by simpa using h1
 subst e
 rw[T.ns] at h2
 cases h2
 exact x
end
section
variable{X:Cx}{pos:Pos}{e:Expr}{es:List Expr}{fs:FA}{st:Stmt}
theorem zk4:bootBuiltins "ValueError" = some (.type "ValueError"):=by first|rfl|decide +kernel
noncomputable def bl2:D→D→Option (Bool×Bool)
 |.bl a,.bl b=>some (a,b)
 |_,_=>none
theorem zv0{d e:D}{a b:Bool}(h:bl2 d e=some (a,b)):d=.bl a∧e=.bl b:=by
 unfold bl2 at h;split at h <;> cases h;exact⟨rfl,rfl⟩
noncomputable def YC(d e:D):Rs D:=match bl2 d e with
 | some (a,b)=>.ok (.bl (!(a==b)))
 |none=>.no
theorem Jh:OpD X (compareOp .IsNot) YC:=⟨fun x y H Q=>∃a b,x=.bl a∧y=.bl b∧Q (.bl (!(a==b))) H,fun pins s σ H x y v u Q I rx ry z_=>by
  obtain⟨a,b,e1,e2,q⟩:=z_
  subst e1;subst e2;cases rx;cases ry
  exact isnot_bool ⟨.bl _,H,I,rfl,q⟩,fun F H x y dx dy Q fh r1 r2 h=>by
  unfold YC at h
  cases q:bl2 dx dy with
  |none=>rw[q] at h;exact h.elim
  |some ab=>
   obtain⟨a,b⟩:=ab
   rw[q] at h
   obtain⟨rfl,rfl⟩:=zv0 q
   simp only[Rep] at r1 r2
   exact⟨a,b,r1,r2,h _ F H (Ext.refl fh) (by simp only[Rep])⟩⟩
end
section
variable{X:Cx}{pos:Pos}{e a b:Expr}{es:List Expr}{fe fa fb:FE}{fs:FA}
end
section
variable{X:Cx}{pos:Pos}{e a b:Expr}{es:List Expr}{fe fa fb:FE}{fs:FA}
end
section
variable{P:Program}{w:World}{K:Frag}{mg:Str→Option Value}{base:Heap}
end
section
variable{X:Cx}{pos:Pos}{e:Expr}{es:List Expr}{fe:FE}{fs:FA}
end
theorem xO:∀(names:List (Str×NameKind)) (n:Nat) (acc:List (Str×Addr)),cellsFrom n names acc=cellsFrom n names []++acc:=by
 intro l_
 induction l_ with
 |nil=>
  rintro n acc
  exact rfl
 |cons p_ r ih_=>
  obtain⟨x,k⟩:=p_
  rintro n acc
  rw[cellsFrom.eq_def,cellsFrom.eq_def n ((x,k)::r) []]
  simp only
  split
  ·rw[ih_ (n+1) ((x,n)::acc),ih_ (n+1) [(x,n)],append_assoc];rfl
  ·exact ih_ n acc
theorem va:∀(names:List (Str×NameKind)) (n:Nat) {x:Str} {c:Addr},(x,c)∈cellsFrom n names []→(x,NameKind.cell)∈names:=by
 intro l_
 induction l_ with
 |nil=>
  rintro n x c h
  rw[cellsFrom.eq_def] at h;cases h
 |cons p_ r ih_=>
  obtain⟨y,k⟩:=p_
  rintro n x c h
  rw[cellsFrom.eq_def] at h
  simp only at h
  split at h
  ·rename_i hk
   rw[xO] at h
   rcases mem_append.mp h with z|z
   ·exact mem_cons_of_mem _ (ih_ _ z)
   ·have z:(x,c)=(y,n):=by simpa using z
    cases z
    have:k=.cell:=by simpa using hk
    subst this
    exact mem_cons_self
  ·exact mem_cons_of_mem _ (ih_ _ h)
theorem Xm{x:Str}{β:Type}:∀{a b:List (Str×β)} {c:β},(a++b).lookup x=some c→a.lookup x=some c∨(a.lookup x=none∧b.lookup x=some c)
 |[],b,c,h=>.inr ⟨rfl,h⟩
 | (y,d)::a,b,c,h=>by
  rw[cons_append,lookup_cons] at h
  rw[lookup_cons]
  cases q:x==y with
  |true=>rw[q] at h;exact .inl h
  |false=>rw[q] at h;exact Xm h
theorem j9{x:Str}{β:Type}:∀{a b:List (Str×β)},a.lookup x=none→(a++b).lookup x=b.lookup x
 |[],b,h=>rfl
 | (y,d)::a,b,h=>by
  rw[cons_append,lookup_cons]
  rw[lookup_cons] at h
  cases q:x==y with
  |true=>rw[q] at h;cases h
  |false=>rw[q] at h;exact j9 h
noncomputable abbrev inCells(scope:Scope)(C:Addr)(env:Env):List (Str×Addr):=cellsFrom (C+1) scope.names (y7 scope env)
noncomputable def W1(scope:Scope)(x:Str):Bool:=match scope.names.lookup x with
 |some .cell=>true
 |_=>false
noncomputable def _root_.L2.Cx.compC(X:Cx)(scope:Scope)(N:List Str)(s:Shared)(H:Hp)(C:Addr)(fp:List Addr):Cx:=
 { prog:=X.prog,w:=X.w,K:=X.K,mg:=X.mg,base:=X.base,A:=X.A,N:=N,s₀:=s,H₀:=H,env:=compEnvC scope (inCells scope C X.env) C X.env,outer:=X.stack,stack:=X.stack,ex:=fp,fn:=W1 scope,calm:=X.calm,pn:=[],xe:=fun _ _=>False }
structure wx(X:Cx)(scope:Scope):Prop where
 kind:scope.kind=.function
 locs:∀y∈scope.names,y.2=.local→scope.names.lookup y.1=some .local
 cels:∀y∈scope.names,y.2=.cell→scope.names.lookup y.1=some .cell
 fres:∀y∈scope.names,y.2=.free→scope.names.lookup y.1=some .free
 free:∀y∈scope.names,y.2=.free→X.env.kindOf y.1=some .cell∨X.env.kindOf y.1=some .free
theorem vA{env:Env}:∀{names:List (Str×NameKind)} {x:Str},((names.map fun (n,k)=>if (k==NameKind.free&&env.scope.kind == .function&&env.kindOf n==some .cell) then (n,NameKind.cell) else (n,k)).lookup x=some .cell ∨
  (names.map fun (n,k)=>if (k==NameKind.free&&env.scope.kind == .function&&env.kindOf n==some .cell) then (n,NameKind.cell) else (n,k)).lookup x=some .free)→∃y∈names,y.1=x∧(y.2=.free∨y.2=.cell)
 |[],_,h=>by rcases h with h|h <;> simp at h
 | (n,k)::r,x,h=>by
  rw[map_cons] at h
  by_cases hx:x=n
  ·subst hx
   by_cases hk:k=.free
   ·exact⟨_,mem_cons_self,rfl,.inl hk⟩
   ·have hb:(k==NameKind.free)=false:=by simpa using hk
    simp only[hb,Bool.false_and,Bool.false_eq_true,if_false,lookup_cons,beq_self_eq_true] at h
    rcases h with h|h
    ·exact⟨_,mem_cons_self,rfl,.inr (Option.some.inj h)⟩
    ·exact absurd (Option.some.inj h) hk
  ·have hb:(x==n)=false:=by simpa using hx
   have step:∀q:Str×NameKind,q.1=n→((q::(r.map fun (n,k)=>if (k==NameKind.free&&env.scope.kind == .function&&env.kindOf n==some .cell) then (n,NameKind.cell) else (n,k))).lookup x)=((r.map fun (n,k)=>if (k==NameKind.free&&env.scope.kind == .function&&env.kindOf n==some .cell) then (n,NameKind.cell) else (n,k)).lookup x):=fun q hq=>by
    obtain⟨q1,q2⟩:=q
    simp only at hq
    subst hq
    rw[lookup_cons,hb]
   have h':((r.map fun (n,k)=>if (k==NameKind.free&&env.scope.kind == .function&&env.kindOf n==some .cell) then (n,NameKind.cell) else (n,k)).lookup x=some .cell∨(r.map fun (n,k)=>if (k==NameKind.free&&env.scope.kind == .function&&env.kindOf n==some .cell) then (n,NameKind.cell) else (n,k)).lookup x=some .free):=by
    rcases h with h|h
    ·left;exact(step _ (by show(if (k==NameKind.free&&env.scope.kind == .function&&env.kindOf n==some .cell)=true then (n,NameKind.cell) else (n,k)).1=n;split <;> rfl)).symm.trans h
    ·right;exact(step _ (by show(if (k==NameKind.free&&env.scope.kind == .function&&env.kindOf n==some .cell)=true then (n,NameKind.cell) else (n,k)).1=n;split <;> rfl)).symm.trans h
   obtain⟨y,hy,e⟩:=vA h'
   exact⟨y,mem_cons_of_mem _ hy,e⟩
section
variable{X:Cx}{scope:Scope}{N':List Str}
theorem XN(S:wx X scope)(ok:X.Ok){x:Str}{c:Addr}(h:(y7 scope X.env).lookup x=some c):X.env.cells.lookup x=some c∧scope.names.lookup x=some .free:=by
 rcases u0 h with q|⟨y,hy,e1,e2,e3⟩
 ·simp at q
 ·subst e1
  obtain⟨c',hc'⟩:=ok.has y.1 (S.free y hy e2)
  rw[hc'] at e3 ⊢
  exact⟨by rw[e3];rfl,S.fres y hy e2⟩
theorem JD(S:wx X scope)(ok:X.Ok){x:Str}{c C:Addr}(h:(inCells scope C X.env).lookup x=some c) :
  ((x,c)∈cellsFrom (C+1) scope.names []∧scope.names.lookup x=some .cell)∨(X.env.cells.lookup x=some c∧scope.names.lookup x=some .free):=by
 unfold inCells at h
 rw[xO] at h
 rcases Xm h with q|⟨_,q⟩
 ·have:=PySem.mem_of_lookup q
  exact .inl ⟨this,S.cels _ (va _ _ this) rfl⟩
 ·exact .inr (XN S ok q)
theorem JC(S:wx X scope){x:Str}{C:Addr}(h:scope.names.lookup x=some .free):(inCells scope C X.env).lookup x=(y7 scope X.env).lookup x:=by
 unfold inCells
 rw[xO]
 refine j9 ?_
 cases q:(cellsFrom (C+1) scope.names []).lookup x with
 |none=>rfl
 |some c=>
  have:=S.cels _ (va _ _ (PySem.mem_of_lookup q)) rfl
  rw[h] at this;cases this
theorem Mb{pins:List (Addr×Obj)}{σ σ':St}{H:Hp}{s:Shared}{h1:Heap}{fp:List Addr}(S:wx X scope)(I:Inv X pins σ H s)(hfp:∀b∈fp,ZY X pins H b)(hlt:∀b∈fp,b<s.heap.objs.size)
  (hn:h1.Ns s.heap.objs.size fun _=>none) (hsb:∀b o,s.heap.get? b=some o→h1.get? b=some o) (hcs:CellsOk h1 (s.heap.objs.size+1) (cellsFrom (s.heap.objs.size+1) scope.names [])) (hl:σ'.length=N'.length)
  (hσ:∀(i:Nat) (v:V),σ'[i]?=some (some v)→∃(x:Str) (j:Nat),N'[i]?=some x∧X.N[j]?=some x∧σ[j]?=some (some v)∧scope.names.lookup x=some .free) :
  Inv (X.compC scope N' s H s.heap.objs.size fp) [] σ' H { s with heap:=h1 }:=by
 have hH:H s.heap.objs.size=none:=I.hok.fresh (le_refl _)
 have kept:∀{c v},s.heap.IsCell c v→h1.IsCell c v:=fun ⟨o,e,d⟩=>⟨o,hsb _ o e,d⟩
 have olt:∀{x c},X.env.cells.lookup x=some c→c<s.heap.objs.size:=fun {x c} e=>by
  obtain⟨v,z⟩:=I.cell x c e
  exact z.lt
 have nge:∀{x c},(x,c)∈cellsFrom (s.heap.objs.size+1) scope.names []→s.heap.objs.size+1≤c:=fun {x c} e=>(hcs.empty x c e).2
 have cl:∀{x c},(inCells scope s.heap.objs.size X.env).lookup x=some c→((x,c)∈cellsFrom (s.heap.objs.size+1) scope.names []∧scope.names.lookup x=some .cell)∨(X.env.cells.lookup x=some c∧scope.names.lookup x=some .free):=fun h=>JD S I.ok h
 refine⟨⟨I.ok.mod,S.kind,I.ok.glob,I.ok.blt,le_refl _,fun x y c e1 e2=>?_,fun x hx=>?_,fun x c hf e=>?_,I.ok.hd,I.ok.frames,.inl rfl,fun b hb=>?_,I.bs,le_trans I.ok.bsz I.sz,fun b o e hb=>?_,fun b hb hs=>?_,I.stack,I.stkFree⟩,
  I.os.symm ▸ rfl,I.bare,Un.kept hsb,⟨_,hn,fun i x v e1 e2 e3=>?_⟩,fun x c e=>?_,hH,fun x c e=>?_,fun p hp=>absurd (show p∈([]:List (Addr×Obj)) from hp) (by simp),I.hok.kept hsb,hl⟩
 ·rcases cl e1 with ⟨m1,_⟩|⟨m1,_⟩ <;> rcases cl e2 with ⟨m2,_⟩|⟨m2,_⟩
  ·exact name_of_addr hcs.apart m1 m2
  ·exact absurd (lt_of_lt_of_le (olt m2) (Nat.le_of_succ_le (nge m1))) (lt_irrefl _)
  ·exact absurd (lt_of_lt_of_le (olt m1) (Nat.le_of_succ_le (nge m2))) (lt_irrefl _)
  ·exact I.ok.inj x y c m1 m2
 ·have hx:(relabel scope X.env).names.lookup x=some .cell∨(relabel scope X.env).names.lookup x=some .free:=hx
  obtain⟨y,hy,rfl,hk⟩:=vA hx
  refine Option.isSome_iff_exists.mp (cellsFrom_some _ _ _ ?_)
  rcases hk with hk|hk
  ·exact .inr (Option.isSome_iff_exists.mpr (vB (.inl ⟨y,hy,rfl,hk⟩)))
  ·exact .inl (S.cels y hy hk)
 ·have hf:W1 scope x=true:=hf
  unfold W1 at hf
  rcases cl e with ⟨m1,_⟩|⟨_,m2⟩
  ·exact le_of_lt (nge m1)
  ·rw[m2] at hf;cases hf
 ·have hb:b∈fp:=hb
  refine⟨ne_of_lt (hlt b hb),fun x c e=>?_⟩
  rcases cl e with ⟨m1,_⟩|⟨m1,_⟩
  ·exact fun z=>absurd (lt_of_lt_of_le (hlt b hb) (Nat.le_of_succ_le (z ▸ nge m1))) (lt_irrefl _)
  ·exact(hfp b hb).2.2.2.2.1 x c m1
 ·have hb:b∈fp:=hb
  rcases (hfp b hb).2.2.2.1 with z|z
  ·exact I.ok.noex b o e z
  ·exact absurd (lt_of_lt_of_le (Heap.lt_size e) (le_trans I.ok.bsz z)) (lt_irrefl _)
 ·have hb:b∈fp:=hb
  obtain⟨_,f1,f2,_⟩:=hfp b hb
  rcases mem_cons.mp (I.stkSub b hs) with z|z
  ·exact f1 z
  ·exact f2 z
 ·obtain⟨x',j,e4,e5,e6,e9⟩:=hσ i v e2
  have hy:=PySem.mem_of_lookup e9
  have e1':N'[i]?=some x:=e1
  rw[e1'] at e4;cases e4
  have kd:=S.free _ hy rfl
  obtain⟨m,hm,hl⟩:=I.loc
  obtain⟨u,ru,lk⟩:=hl j x v e5 e6 (kd.elim (fun z=>.inr (.inl z)) fun z=>.inr (.inr z))
  refine⟨u,ru,?_⟩
  rcases lk with ⟨z,_⟩|⟨z,c,hc,hcell⟩
  ·rcases kd with k|k <;> rw[k] at z <;> cases z
  ·obtain⟨c',hc'⟩:=vB (env:=X.env) (names:=scope.names) (cs:=[]) (x:=x) (.inl ⟨_,hy,rfl,rfl⟩)
   have hc2:(inCells scope s.heap.objs.size X.env).lookup x=some c':=(JC S e9).trans hc'
   have:=(XN S I.ok hc').1
   rw[hc] at this;cases this
   have e3':(relabel scope X.env).names.lookup x=some .local∨(relabel scope X.env).names.lookup x=some .cell∨(relabel scope X.env).names.lookup x=some .free:=e3
   rcases e3' with q|q|q
   ·exact absurd q (vp e9)
   ·exact .inr ⟨.inl q,c,hc2,kept hcell⟩
   ·exact .inr ⟨.inr q,c,hc2,kept hcell⟩
 ·rcases cl e with ⟨m1,_⟩|⟨m1,_⟩
  ·exact⟨none,(hcs.empty x c m1).1⟩
  ·obtain⟨v,z⟩:=I.cell x c m1
   exact⟨v,kept z⟩
 ·rcases cl e with ⟨m1,_⟩|⟨m1,_⟩
  ·exact I.hok.fresh (le_of_lt (nge m1))
  ·exact I.freeC x c m1
end
theorem WX{names:List (Str×NameKind)}{h:Heap}{C:Addr}{m:Str→Option Value}(n:h.Ns C m):(pushCells h names).Ns C m:=n.keeps fun b o e=>pushCells_keeps names h b o e
theorem UU{M:Model}{A:Around}{E:Value→Shared→Prop}{s:Shared}{scope:Scope}{env:Env}{Q:Env→Shared→Prop}
  (k:∀h1,h1.Ns s.heap.objs.size (fun _=>none)→(∀b o,s.heap.get? b=some o→h1.get? b=some o)→CellsOk h1 (s.heap.objs.size+1) (cellsFrom (s.heap.objs.size+1) scope.names []) →
   Q { scope:=scope,locals:=s.heap.objs.size,globals:=env.globals,cells:=inCells scope s.heap.objs.size env,qual:=env.qual,func:=none,code:=env.code,frame:=env.frame,builtins:=env.builtins } { s with heap:=h1 }) :
  wpAny M A (newFunctionEnv scope env.globals (y7 scope env) [] env.qual none .none (some env)) Q E s:=by
 unfold newFunctionEnv
 refine wpAny_bind (wpAny_alloc ?_)
 refine wpAny_bind (wpAny_layCells _ (fun _ _ _=>rfl) _ _ _ _ ?_)
 refine wpAny_bind (wpAny_pure (wpAny_pure ?_))
 have hs:(s.heap.push { cls:=Value.type "dict", data:=Data.dict #[] }).objs.size=s.heap.objs.size+1:=Heap.size_push _ _
 have:=k (pushCells (s.heap.push { cls:=Value.type "dict", data:=Data.dict #[] }) scope.names) ?_ ?_ ?_
 ·have e:inCells scope s.heap.objs.size env=cellsFrom (s.heap.push { cls:=Value.type "dict", data:=Data.dict #[] }).objs.size scope.names (y7 scope env):=by rw[hs]
  rw[e] at this
  exact this
 ·exact WX (Heap.Ns.new _ _)
 ·exact fun b o e=>pushCells_keeps _ _ _ _ (get?_push_of_some _ e)
 ·have:=cellsFrom_ok scope.names (s.heap.push { cls:=Value.type "dict", data:=Data.dict #[] }) (s.heap.objs.size+1) [] ⟨(fun _ _ h=>nomatch h),List.Pairwise.nil⟩ (Nat.le_of_eq hs.symm)
  rw[hs] at this
  exact this
noncomputable def Vq(osc scope:Scope):Bool:=(match scope.kind with | .function=>true|_=>false)&&scope.names.all (fun y=>match y.2 with
 |.cell=>(match scope.names.lookup y.1 with|some .cell=>true|_=>false)
 |.local=>(match scope.names.lookup y.1 with|some .local=>true|_=>false)
 |.free=>(match scope.names.lookup y.1 with|some .free=>true|_=>false)&&(match osc.names.lookup y.1 with|some .cell=>true|some .free=>true|_=>false)
 |_=>true)
theorem X8{X:Cx}{scope:Scope}(h:Vq X.env.scope scope=true):wx X scope:=by
 unfold Vq at h
 rw[Bool.and_eq_true,all_eq_true] at h
 obtain⟨h1,h2⟩:=h
 refine⟨?_,fun y hy z=>?_,fun y hy z=>?_,fun y hy z=>?_,fun y hy z=>?_⟩
 ·split at h1
  ·assumption
  ·cases h1
 ·have:=h2 y hy;rw[z] at this
  simp only at this
  split at this
  ·assumption
  ·cases this
 ·have:=h2 y hy;rw[z] at this
  simp only at this
  split at this
  ·assumption
  ·cases this
 ·have:=h2 y hy;rw[z] at this
  simp only[Bool.and_eq_true] at this
  have:=this.1
  split at this
  ·assumption
  ·cases this
 ·have:=h2 y hy;rw[z] at this
  simp only[Bool.and_eq_true] at this
  have:=this.2
  split at this
  ·left;assumption
  ·right;assumption
  ·cases this
section
variable{X:Cx}{scope:Scope}{N':List Str}{tg iter elt:Expr}{ifs:List Expr}{pos:Pos}{wi:TI}{g:TG}{ti:TT}{te:TE}{s0:St→St}
theorem UL{pins:List (Addr×Obj)}{σ:St}{H:Hp}{s:Shared}{QQ:V→Hp→Prop}{J:It}{fp:List Addr}{it acc:Addr}{tn:Nat→Heap→Prop}{RR:Addr→Result→Shared→Prop}{E:Value→Shared→Prop}{W:Nat→Nat→St→Hp→Prop}{m0:Nat}
  (S:wx X scope) (hc:X.calm=true) (hl:(s0 σ).length=N'.length)
  (hσ:∀(i:Nat) (v:V),(s0 σ)[i]?=some (some v)→∃(x:Str) (j:Nat),N'[i]?=some x∧X.N[j]?=some x∧σ[j]?=some (some v)∧scope.names.lookup x=some .free)
  (hg:∀s H C fp,PG (X.compC scope N' s H C fp) tg g) (ht:∀s H C fp,PTs (X.compC scope N' s H C fp) ifs ti) (he:∀s H C fp,PE (X.compC scope N' s H C fp) elt te)
  (I:Inv X pins σ H s) (T:X9 X.prog X.w X.K tg J fp it tn) (st:tn 0 s.heap) (hfp:∀b∈fp,ZY X pins H b) (hlt:∀b∈fp,b<s.heap.objs.size) (hacc:acc<s.heap.objs.size)
  (w0:W 0 m0 (s0 σ) H) (turn:∀i m σ1 H,W i m σ1 H→(J.stop i H∧QQ (.ref acc) H)∨(J.go i H∧∀x H',J.yld i H x H'→g x σ1 H' fun σ2 H2=>ti σ2 H2 fun b H3=>
    if b=true then te σ2 H3 fun y H4=>∃ys,H4 acc=some (.lst ys)∧ys.length<sizeLine∧∃m',m'<m∧W (i+1) m' σ2 (upd H4 acc (.lst (ys++[y]))) else ∃m',m'<m∧W (i+1) m' σ2 H3))
  (hRR:∀s',(∃m,s'.heap.Ns s.heap.objs.size m)→(∀h',Heap.SameBut s.heap.objs.size s'.heap h'→EP X pins σ (fun v H'=>QQ v H'∧H' s.heap.objs.size=none) (.ref acc) { s' with heap:=h' })→RR s.heap.objs.size (.ok .next) s') :
  wpAny (model X.prog X.w) X.A (newFunctionEnv scope X.env.globals (y7 scope X.env) [] X.env.qual none .none (some X.env)) (fun cenv s₄=>
   codeAny (model X.prog X.w) X.A (.compStart (.ListComp elt [⟨tg,iter,ifs,0⟩] scope pos) 0 (.ref it) (.ref acc) { cenv with scope:=relabel scope X.env }) (RR cenv.locals) s₄) E s:=by
 refine UU fun h1 hns keep3 hcs=>?_
 have Y0:Inv (X.compC scope N' s H s.heap.objs.size fp) [] (s0 σ) H { s with heap:=h1 }:=Mb S I hfp hlt hns keep3 hcs hl hσ
 have fpY:∀{H':Hp},(∀b∈fp,H' b=none)→∀b∈fp,ZY (X.compC scope N' s H s.heap.objs.size fp) [] H' b:=fun {H'} hn b hb=>by
  obtain⟨f0,f1,f2,f3,f4,f5⟩:=hfp b hb
  refine⟨hn b hb,ne_of_lt (hlt b hb),fun z=>?_,.inl hb,fun x c e=>(Y0.ok.exf b hb).2 x c e,fun p hp=>absurd (show p∈([]:List (Addr×Obj)) from hp) (by simp)⟩
  rcases mem_cons.mp (I.stkSub b z) with q|q
  ·exact f1 q
  ·exact f2 q
 have st1:tn 0 h1:=T.keep _ _ _ st fun b hb o e=>keep3 b o e
 have loop:∀s3:Shared,s3 = { s with heap:=h1 } →
   codeAny (model X.prog X.w) X.A (.compLoop (.ListComp elt [⟨tg,iter,ifs,0⟩] scope pos) 0 (.ref it) (.ref acc) (X.compC scope N' s H s.heap.objs.size fp).env) (RR s.heap.objs.size) s3:=by
  rintro s3 rfl
  refine WF (fun n s'=>∃i σ' H',Inv (X.compC scope N' s H s.heap.objs.size fp) [] σ' H' s'∧tn i s'.heap∧(∀b∈fp,H' b=none)∧W i n σ' H') ?_ m0 ⟨0,s0 σ,H,Y0,st1,fun b hb=>(hfp b hb).1,w0⟩
  rintro n s4 ⟨i,σ4,H4,I4,st4,fr4,w4⟩
  rcases turn i n σ4 H4 w4 with ⟨stop,qn⟩|⟨go,step⟩
  ·refine thn (T.done (X.compC scope N' s H s.heap.objs.size fp) rfl rfl rfl hc i [] s4 σ4 H4 _ I4 (fpY fr4) st4 stop) fun r s5 z_=>?_
   obtain⟨hr,I5⟩:=z_
   subst hr
   obtain⟨m5,n5,_⟩:=id I5.loc
   have hC:H4 s.heap.objs.size=none:=I5.free
   refine hRR s5 ⟨m5,n5⟩ fun h' sb=>⟨.ref acc,H4,?_,rfl,qn,hC⟩
   refine I.call' (s':={ s5 with heap:=h' }) (ch:=fp) I5.os ⟨fun b o e n hb hx=>?_,fun b o e n hb hx=>?_,fun b o e n hx=>I5.base.free b o e n hx,fun b o e hx=>?_,I5.base.tups,I5.base.frzs,I5.base.tbls⟩ (QG I5.hok hC fun b o hb e=>(sb.2 b hb).trans e) I5.bare fun b hb=>?_
   ·exact(sb.2 b (ne_of_lt (Heap.lt_size e))).trans (I5.base.keep b o e n hb hx)
   ·obtain⟨sl,q⟩:=I5.base.slot b o e n hb hx
    exact⟨sl,(sb.2 b (ne_of_lt (Heap.lt_size e))).trans q⟩
   ·obtain⟨o',q⟩:=I5.base.there b o e hx
    exact⟨o',(sb.2 b (ne_of_lt (Heap.lt_size e))).trans q⟩
   ·obtain⟨f0,f1,f2,f3,f4,f5⟩:=hfp b hb
    exact⟨f3,f1,f4,f5⟩
  ·refine thn (T.item (X.compC scope N' s H s.heap.objs.size fp) rfl rfl rfl hc i [] s4 σ4 H4 _ I4 (fpY fr4) st4 go) fun r s5 z_=>?_
   obtain⟨u,hr,h5⟩:=z_
   subst hr
   refine thn h5 fun _ s6 z_=>?_
   obtain⟨x,H6,I6,r6,y6,st6,fr6⟩:=z_
   have I6':=I6.pinned (fpY fr6) (T.obj _ _ st6)
   refine thn (hg _ _ _ _ _ s6 σ4 H6 x u _ I6' r6 (step x H6 y6)) fun _ s7 z_=>?_
   obtain⟨σ7,H7,I7,q7⟩:=z_
   refine thn (ht _ _ _ _ _ s7 σ7 H7 _ I7 q7) fun ok s8 z_=>?_
   obtain⟨H8,I8,q8⟩:=z_
   have again:∀{s9:Shared} {H9:Hp} {m':Nat},Inv (X.compC scope N' s H s.heap.objs.size fp) ([]++ZE fp s6.heap) σ7 H9 s9→m'<n→W (i+1) m' σ7 H9→∃m,m<n∧∃i σ' H',Inv (X.compC scope N' s H s.heap.objs.size fp) [] σ' H' s9∧tn i s9.heap∧(∀b∈fp,H' b=none)∧W i m σ' H':=fun {s9 H9 m'} I9 hm w9=>by
    refine⟨m',hm,i+1,σ7,H9,I9.unpinned,T.keep _ _ _ st6 fun b hb o e=>(I9.pin (b,o) (mem_append_right _ (mem_append_right _ (wQ hb e)))).1,fun b hb=>?_,w9⟩
    obtain⟨o,e,d⟩:=T.obj _ _ st6 b hb
    exact(I9.pin (b,o) (mem_append_right _ (mem_append_right _ (wQ hb e)))).2.1
   cases ok with
   |false=>
    rw[if_neg (by simp)] at q8
    obtain⟨m',hm,w8⟩:=q8
    exact again I8 hm w8
   |true=>
    rw[if_pos rfl] at q8
    refine thn (he _ _ _ _ _ s8 σ7 H8 _ I8 q8) fun y s9 z_=>?_
    obtain⟨z,H9,I9,r9,ys,e9,l9,m',hm,w9⟩:=z_
    refine thn (jk _ s9 σ7 H9 (.ref acc) [z] (.ref acc) [y] (fun _ H'=>H'=upd H9 acc (.lst (ys++[z]))) I9 rfl (.cons r9 .nil) ⟨acc,ys,z,rfl,rfl,e9,l9,rfl⟩) fun _ s10 z_=>?_
    obtain⟨_,H10,I10,_,e10⟩:=z_
    subst e10
    exact again I10 hm w9
 exact codeAny_compStart_list (loop _ rfl) (T.self _ 0 _ _ _ st1 (loop _ rfl))
theorem MX{i:Nat}{y:Str}{py spos:Pos}(hN:X.N.Nodup)(hiN:X.N[i]?=some y)(hy:X.env.scope.names.lookup y=some .local)
  (hsw:swapsWith (.ListComp elt [⟨tg,iter,ifs,0⟩] scope pos) (some (.Name y py)) spos.line X.env=pure true)
  (S:wx X scope) (hc:X.calm=true) (hl:∀σ:St,σ.length=X.N.length→(s0 σ).length=N'.length)
  (hσ:∀(σ:St) (i:Nat) (v:V),(s0 σ)[i]?=some (some v)→∃(x:Str) (j:Nat),N'[i]?=some x∧X.N[j]?=some x∧σ[j]?=some (some v)∧scope.names.lookup x=some .free)
  (hi:PI X tg iter wi) (hg:∀s H C fp,PG (X.compC scope N' s H C fp) tg g) (ht:∀s H C fp,PTs (X.compC scope N' s H C fp) ifs ti) (he:∀s H C fp,PE (X.compC scope N' s H C fp) elt te)
  (hs:∀x,foldedSetIterable iter X.env x=pure x:=by intro _;rfl):PS X (.Assign [.Name y py] (.ListComp elt [⟨tg,iter,ifs,0⟩] scope pos) spos) (za2 (VC s0 wi g ti te) (uC i)):=by
 intro pins s σ H D I h
 rw[exec_Assign_Name_used _ _ _ _ hsw]
 refine wpAny_bind (wpAny_standAt (wpAny_bind ?_))
 show wpAny _ X.A (do let _ ← comprehension (.ListComp elt [⟨tg,iter,ifs,0⟩] scope pos) scope X.env _ (newList []) false (eval iter X.env) (some (assign (.Name y py) X.env))) _ _ s
 have hclos:=wZ (scope:=scope) (env:=X.env) fun y hy hk=>Option.isSome_iff_exists.mpr (I.ok.has y.1 (S.free y hy hk))
 refine wpAny_bind (wpAny_mono (wpAny_comprehension_free (use:=some (assign (.Name y py) X.env)) (Q:=fun _ s'=>SP X pins D .next s') rfl hs hclos S.kind S.locs
  (thn (hi pins s σ H _ I h) fun x s1 h1=>thn h1 fun itv s2 h2=>?_)) (fun _ s' hq=>wpAny_pure (wpAny_pure hq)) fun _ _ e=>e)
 obtain⟨it,fp,tn,J,H2,e,I2,T,st2,f2,hw⟩:=h2
 subst e
 have hf:H2 s2.heap.objs.size=none:=I2.hok.fresh (le_refl _)
 obtain⟨W,⟨m0,w0⟩,turn⟩:=hw _ hf
 have hlt:=Lq (pins:=pins) (σ:=σ) (H:=H2) T st2
 refine wpAny_newObj_type ?_
 have I3:Inv X pins σ (upd H2 s2.heap.objs.size (.lst [])) { s2 with heap:=s2.heap.push { cls:=.type "list", dict:=none,data:=.seq ([]:List Value).toArray } }:=
  I2.laid (t':=s2.toks) (o:=.lst []) (fun b u e=>get?_push_of_some _ e) (le_refl _) ⟨zero_le _,[],0,.nil,Heap.get?_push_size _ rfl⟩
 have hsz:s2.heap.objs.size<(s2.heap.push { cls:=.type "list", dict:=none,data:=.seq ([]:List Value).toArray }).objs.size:=by rw[Heap.size_push];exact lt_succ_self _
 refine UL (s0:=s0) (QQ:=fun x H1=>uC i x σ H1 D.nx) (W:=W) (m0:=m0) S hc (hl σ I2.len) (hσ σ) hg ht he I3 T (T.keep _ _ _ st2 fun b hb o e=>get?_push_of_some _ e) (fun b hb=>?_) (fun b hb=>lt_trans (hlt b hb) hsz) hsz w0 turn fun s' ⟨m,hn⟩ hq=>?_
 ·obtain⟨f0,f1,f2,f3⟩:=f2 b hb
  exact⟨by rw[zo (ne_of_lt (hlt b hb))];exact f0,f1,f2,f3⟩
 ·obtain⟨v,H5,I5,r5,q5,hC⟩:=hq s'.heap (.refl ..)
  have I5:Inv X pins σ H5 s':=I5
  show wpAny _ X.A (assign (.Name y py) X.env _) _ _ s'
  refine wpAny_assign_Name (Zz I5 hN hiN (.inl hy) r5 (fun s6 I6 z_=>?_) (.inr hy))
  obtain⟨a,sb,ha⟩:=z_
  have lt3:=I3.lt
  have ca:∀x c,X.env.cells.lookup x=some c→c<(s2.heap.push { cls:=.type "list", dict:=none,data:=.seq ([]:List Value).toArray }).objs.size:=fun x c e=>by
   obtain⟨v,z⟩:=I3.cell x c e
   exact z.lt
  have hne:(s2.heap.push { cls:=.type "list", dict:=none,data:=.seq ([]:List Value).toArray }).objs.size≠a:=by
   rcases ha with rfl|ha
   ·exact ne_of_gt lt3
   ·exact ne_of_gt (ca _ _ ha)
  refine⟨m,hn.sameBut sb hne,fun h' sb'=>⟨_,H5,?_,q5⟩⟩
  refine I6.turned (t':=s6.toks) (it:=(s2.heap.push { cls:=.type "list", dict:=none,data:=.seq ([]:List Value).toArray }).objs.size) (fun b o hb e=>(sb'.2 b hb).trans e) hC (ne_of_gt lt3) (.inr I3.sz) (fun x c e=>ne_of_lt (ca x c e)) fun p hp=>?_
  exact ne_of_lt (Heap.lt_size (I3.pin p hp).1)
end
section
variable{X:Cx}{scope:Scope}{tn fr:List Str}{idx:List Nat}{tg iter elt:Expr}{ifs:List Expr}{pos:Pos}{fi:FA}{set:FG}{ft:FT}{fe:FE}
theorem Gk{i:Nat}{y:Str}{py spos:Pos}(hN:X.N.Nodup)(hiN:X.N[i]?=some y)(hy:X.env.scope.names.lookup y=some .local)
  (hsw:swapsWith (.ListComp elt [⟨tg,iter,ifs,0⟩] scope pos) (some (.Name y py)) spos.line X.env=pure true)
  (hb:Vq X.env.scope scope=true) (hc:X.calm=true) (hfr:FreeOk scope X.N fr idx) (so:Yf set) (hi:PDI X tg iter fi)
  (hg:∀s H C fp,PDG (X.compC scope (tn++fr) s H C fp) tg set) (ht:∀s H C fp,Mh (X.compC scope (tn++fr) s H C fp) ifs ft) (he:∀s H C fp,PDE (X.compC scope (tn++fr) s H C fp) elt fe)
  (hs:∀x,foldedSetIterable iter X.env x=pure x:=by intro _;rfl):PDS X (.Assign [.Name y py] (.ListComp elt [⟨tg,iter,ifs,0⟩] scope pos) spos) (zI i fun τ=>(yD tn.length idx fi set ft fe τ).bind fun ds=>.ok (.lst ds)):=
 PS.imp (MX (s0:=vo tn.length idx) (g:=tG (X.compC scope (tn++fr) X.s₀ X.H₀ 0 []) set) (ti:=tTs (X.compC scope (tn++fr) X.s₀ X.H₀ 0 []) ft) (te:=tE (X.compC scope (tn++fr) X.s₀ X.H₀ 0 []) fe) hN hiN hy hsw
  (X8 hb) hc (fun σ _=>by simp[vo,hfr.len]) (je hfr) hi hg ht he hs) fun E σ H ⟨B,Z,F,τ,R,h⟩=>by
  refine jo (X:=X) (tn:=tn) (idx:=idx) (fi:=fi) (ft:=ft) (fe:=fe) so (Y:=X.compC scope (tn++fr) X.s₀ X.H₀ 0 []) rfl σ H (fun x H1=>uC i x σ H1 E.nx) ⟨F,τ,R.rv,?_⟩
  have h':=h.of.bind
  refine h'.imp fun ds g p vs F1 H1 x hp r=>?_
  have x2:=x.trans (Ext.new (o:=.lst vs) x.fh hp)
  refine g _ _ _ x2.ff ((R.ext x2).set ?_)
  simp only[Rep]
  exact⟨p,vs,rfl,zv,r.mono (yi (zY x.fh hp))⟩
end
section
variable{X:Cx}{tg:Expr}
end
section
variable{X:Cx}{pos:Pos}{e tg:Expr}{es:List Expr}{fe:FE}{fs:FA}
end
section
variable{P:Program}{w:World}{K:Frag}{mg:Str→Option Value}{base:Heap}
end
section
variable{X:Cx}{pos:Pos}{e:Expr}{es:List Expr}{fe:FE}{fs:FA}
end
section
variable{X:Cx}{pins:List (Addr×Obj)}{σ:St}{H:Hp}{s:Shared}{a:Addr}{cls:Value}
end
section
variable{X:Cx}{pos:Pos}{e a b:Expr}{es:List Expr}{fe fa fb:FE}{fs:FA}
end
section
variable{X:Cx}{tg:Expr}
end
section
variable{X:Cx}{pos:Pos}{e tg:Expr}{es:List Expr}{fe:FE}{fs:FA}
end
section
variable{X:Cx}{pos:Pos}{e a b:Expr}{es:List Expr}{fe fa fb:FE}{fs:FA}
end
noncomputable def BM(mg:Str→Option Value)(base:Heap):Prop:=∃bm o,mg "__builtins__" = some (.ref bm)∧bm≠builtinsNs∧base.get? bm=some o∧o.cls=.type "module" ∧ o.dict=some builtinsNs∧o.data=.plain
noncomputable def zm9(ts:List Addr)(H:Hp):Prop:=∀b,H b=none∨(∃o xs,H b=some (.frz o (.lst xs)))∨(b∈ts∧H b=some (.tbl #[]))
theorem GL{P:Program}{w:World}{K:Frag}{mg mb:Str→Option Value}{CX:CXT}{k:Nat}{fa a:Addr}{fd:FuncData}{x:Str}{sp:Sp}{s₁:Shared}{vs:List Value}{ns:List Int}{ts:List Addr}
  (KX:K.In s₁.heap) (hns:s₁.heap.Ns mainGlobals mg) (hb:s₁.heap.Ns builtinsNs mb) (hbb:∀x:Str,x ≠ "__name__" → mb x=bootBuiltins x) (hlim:s₁.heap.NoLimit) (hg:s₁.gens = #[])
  (ha:s₁.heap.get? a=some { cls:=.type "list", data:=.seq vs.toArray }) (hi:IntsAre vs ns) (hl:ns.length≤sizeLine) (hr:Room k callerA)
  (tb:∀p∈ts,K.lookup p=none∧s₁.heap.get? p=some (PySem.W.tabObj #[])∧isCodeTable s₁.heap p)
  (hbm:BM mg s₁.heap) (F:∀base:Heap,K.In base→base.Ns mainGlobals mg→BM mg base→FnOk P w K mg base CX k fa fd [x] sp) (hbind:∀(s:Shared) (u:Value),BindsTo s fd ⟨[u],[]⟩ [(x,u)])
  (hsp:∀H F:Hp,zm9 ts H→Same F H→(∀p∈ts,F p=none∧H p=some (.tbl #[]))→SqL K F a (ns.map V.int)→sp [.ref a] H (fun v H'=>v=.bl true) fun _ _ _=>False)
  (hCX:∀H e s',CX [] H s₁ (fun _ _ _=>False) e s'→False) :
  codeAny (model P w) callerA (.call (.ref fa) ⟨[.ref a],[]⟩) (fun r s'=>r=.ok (.ret (.bool true))∧OldK s₁.heap s'.heap∧s'.os=s₁.os∧AllBare s'.gens) s₁:=by
 have rv:=vals_ints hi
 have lenV:=hi.length
 have nat:a∉ts:=fun z=>by
  obtain⟨_,e,_⟩:=tb a z
  rw[ha] at e;cases e
 have core:∀H F:Hp,zm9 ts H→Same F H→(∀p∈ts,F p=none∧H p=some (.tbl #[]))→SqL K F a (ns.map V.int)→HOk P w H s₁.heap→(∀b,H b≠none→b=a∨b∈ts)→(H a≠none→K.lookup a=none) →
   codeAny (model P w) callerA (.call (.ref fa) ⟨[.ref a],[]⟩) (fun r s'=>r=.ok (.ret (.bool true))∧OldK s₁.heap s'.heap∧s'.os=s₁.os∧AllBare s'.gens) s₁:=by
  intro H Fz hO fh hT hS hok hA hK
  have base_of:∀{b:Addr} {o:Obj},s₁.heap.get? b=some o→H b=none→(X7 s₁.heap H).get? b=some o:=fun e n=>Ld e n
  have noA:∀{b:Addr} {o:Obj} {es:Array DictEntry} {ep:Nat},s₁.heap.get? b=some o→o.data=.dict es ep→H b=none:=fun {b o es ep} e d=>by
   cases q:H b with
   |none=>rfl
   |some u=>
    rcases hA b (by rw[q];simp) with e' | e'
    ·subst e'
     rw[ha] at e;cases e
     have d':Data.seq vs.toArray _=Data.dict es ep:=d
     cases d'
    ·obtain⟨_,e2,_⟩:=tb b e'
     rw[e] at e2;cases e2
     cases d
  have nsK:∀{b:Addr} {m:Str→Option Value},s₁.heap.Ns b m→(X7 s₁.heap H).Ns b m:=fun {b m} ⟨o,es,ep,e,d,r⟩=>⟨o,es,ep,base_of e (noA e d),d,r⟩
  have hKb:K.In (X7 s₁.heap H):=fun b o e=>base_of (KX b o e) (by
   cases q:H b with
   |none=>rfl
   |some u=>
    rcases hA b (by rw[q];simp) with e' | e'
    ·subst e'
     rw[hK (by rw[q];simp)] at e;cases e
    ·rw[(tb b e').1] at e;cases e)
  have hM:Mod K mg (X7 s₁.heap H):=⟨hKb,nsK hns,⟨mb,nsK hb,hbb⟩,let ⟨mc,h1,h2⟩:=hlim;⟨mc,nsK h1,h2⟩⟩
  have e0:zl0 P w K mg (X7 s₁.heap H) callerA [] s₁ H:=⟨rfl,hM,fun b o e=>ze4 e,Nat.le_of_eq (GV _ _),trivial,fun b hb=>absurd (show b∈([]:List Addr) from hb) (by simp),hok,.of_eq hg⟩
  have hbb:BM mg (X7 s₁.heap H):=by
   obtain⟨bm,o,b1,b2,b3,b4,b5,b6⟩:=hbm
   refine⟨bm,o,b1,b2,base_of b3 ?_,b4,b5,b6⟩
   cases q:H bm with
   |none=>rfl
   |some u=>
    rcases hA bm (by rw[q];simp) with e' | e'
    ·subst e'
     rw[ha] at b3;cases b3;cases b6
    ·obtain⟨_,e2,_⟩:=tb bm e'
     rw[b3] at e2;cases e2;cases b6
  refine codeAny_mono ((F _ hKb (nsK hns) hbb).run callerA [] s₁ H ⟨[.ref a],[]⟩ [.ref a] [.ref a] _ _ hr e0 (hbind s₁ (.ref a)) (.cons rfl .nil) (hsp H Fz hO fh hT hS)) fun r s' h=>?_
  cases r with
  |error e=>exact(hCX H e s' h).elim
  |ok fl=>
   cases fl with
   |next=>exact False.elim h
   |brk=>exact False.elim h
   |cont=>exact False.elim h
   |ret u=>
    obtain⟨v,H',os,bare,un,hok',r',q'⟩:=h
    subst q'
    obtain rfl:u=Value.bool true:=r'
    have was:∀b o,s₁.heap.get? b=some o→asItWas s₁.heap s'.heap b o:=fun b o e=>by
     cases q:H b with
     |none=>exact .inl (un.keep b o e q (by intro z;exact absurd (show b∈([]:List Addr) from z) (by simp)) (by simp))
     |some u=>
      rcases hO b with z|⟨ob,xs,z⟩|⟨hb,z⟩
      ·rw[q] at z;cases z
      ·have z2:=un.frzs b ob _ z
       obtain⟨e1,_⟩:=hok b _ z
       obtain⟨e2,_⟩:=hok' b _ z2
       rw[e] at e1;cases e1
       exact .inl e2
      ·obtain⟨more,z2⟩:=un.tbls b _ z
       have e2:s'.heap.get? b=some { cls:=.none,data:=.fields (#[]++more) }:=hok' b _ z2
       obtain⟨_,e3,e4⟩:=tb b hb
       rw[e] at e3;cases e3
       exact .inr (.inl ⟨e4,rfl,#[],more,rfl,e2⟩)
    refine⟨rfl,⟨was,fun b o e=>?_⟩,os,bare⟩
    obtain⟨o',e'⟩:=un.there b o e (by simp)
    exact⟨o',e'⟩
 cases hk:K.lookup a with
 |some o=>
  have e:=KX a o hk
  rw[ha] at e
  cases e
  refine core (fun b=>if b∈ts then some (.tbl #[]) else none) (fun _=>none) (fun b=>?_) (fun _ _ z=>nomatch z) (fun p hp=>⟨rfl,if_pos hp⟩) (.inr ⟨_,vs.toArray,_,hk,rfl,rfl,rfl,by rw[size_toArray,lenV];exact hl,by simpa using rv⟩) (fun b u z=>?_) (fun b z=>?_) fun z=>absurd (if_neg nat) z
  ·by_cases h:b∈ts
   ·exact .inr (.inr ⟨h,if_pos h⟩)
   ·exact .inl (if_neg h)
  ·by_cases h:b∈ts
   ·have z':=(if_pos h).symm.trans z
    cases z'
    exact(tb b h).2.1
   ·have z':=(if_neg h).symm.trans z
    cases z'
  ·by_cases h:b∈ts
   ·exact .inr h
   ·exact absurd (if_neg h) z
 |none=>
  refine core (fun b=>if b∈ts then some (.tbl #[]) else if b=a then some (.frz { cls:=.type "list", data:=.seq vs.toArray } (.lst (ns.map V.int))) else none) (fun b=>if b=a then some (.frz { cls:=.type "list", data:=.seq vs.toArray } (.lst (ns.map V.int))) else none) (fun b=>?_) (fun b o z=>?_) (fun p hp=>⟨if_neg (fun z:p=a=>nat (z ▸ hp)),if_pos hp⟩) (.inl (.inr ⟨{ cls:=.type "list", data:=.seq vs.toArray },if_pos rfl⟩)) (fun b u z=>?_) (fun b z=>?_) fun _=>hk
  ·by_cases h:b∈ts
   ·exact .inr (.inr ⟨h,if_pos h⟩)
   ·by_cases hb:b=a
    ·exact .inr (.inl ⟨_,_,(if_neg h).trans (if_pos hb)⟩)
    ·exact .inl ((if_neg h).trans (if_neg hb))
  ·by_cases hb:b=a
   ·have z':=(if_pos hb).symm.trans z
    cases z'
    subst hb
    exact(if_neg nat).trans (if_pos rfl)
   ·have z':=(if_neg hb).symm.trans z
    cases z'
  ·by_cases h:b∈ts
   ·have z':=(if_pos h).symm.trans z
    cases z'
    exact(tb b h).2.1
   ·have z1:=(if_neg h).symm.trans z
    by_cases hb:b=a
    ·have z':=(if_pos hb).symm.trans z1
     cases z'
     subst hb
     exact⟨ha,by rw[length_map];exact hl,vs,_,rv,ha⟩
    ·have z':=(if_neg hb).symm.trans z1
     cases z'
  ·by_cases h:b∈ts
   ·exact .inr h
   ·by_cases hb:b=a
    ·exact .inl hb
    ·exact absurd ((if_neg h).trans (if_neg hb)) z
theorem Ud{K:Frag}{p:Addr}(h:p∉K.map (·.1)):K.lookup p=none:=by
 rw[show K.lookup p=List.lookup p K from rfl,List.lookup_eq_none_iff]
 intro q hq
 simp only[bne_iff_ne,ne_eq,beq_eq_false_iff_ne]
 intro z
 exact h (mem_map.mpr ⟨q,hq,z.symm⟩)
noncomputable def L1(K:Frag):Prop:=∀r∈Tabs.rows,∃c,PySem.W.codeHdIn K c r.1=true
theorem walkM{l:PySem.W.OpenLaw}{q:Program}{loose:List Str}{XP:(Str→Option Value)→Heap→Prop}{d:DefRec}{K:Params→Frag}{k:Nat}{p:Str}{as ts:List Addr}{has:∀P,as=(K P).map (·.1)}(hn:l.most=some 63)(hdf:d.params.defaults=[])(hk:Room k callerA)
  (hts:(Tabs.rows.all fun r=>ts.contains r.1 && !as.contains r.1)=true)
  (F:∀(w:World) (mg:Str→Option Value) (fa:Addr) (h:Heap),(K w.params).In h→h.Ns mainGlobals mg→mg d.name=some (.ref fa)→L1 (K w.params) ∧
   ∃fd:FuncData,(∀(s:Shared) (u:Value),BindsTo s fd ⟨[u],[]⟩ [(p,u)])∧∀base:Heap,(K w.params).In base→base.Ns mainGlobals mg→BM mg base→FnOk l.prog w (K w.params) mg base CX0 k fa fd [p] (JY (K w.params))) :
  PySem.W.WalkO q loose XP (PySem.W.kmHook K as has ts).says l.row.toRowW d [] (fun f vs=>PySem.call f vs):=by
 refine Att.attach_call hn hdf fun w s₀ s₁ mg mb fa o pm cd doc a vs ns G Y ho hd hcd hmg hobj hints hlen hg=>?_
 have KX:=PySem.W.km_in_of Y
 have hT:=PySem.W.km_tabs_of Y
 obtain⟨tin,fd,hb,hF⟩:=F w mg fa _ KX G.T.g hmg
 refine GL (ts:=Tabs.rows.map (·.1)) (CX:=CX0) (sp:=JY (K w.params)) KX G.T.g G.T.b G.T.builtins G.T.nolimit hg hobj hints (le_trans hlen (by decide)) hk (fun p hp=>?_) ?_ hF hb (fun H Fz hO fh hT hS=>⟨a,ns,Fz,rfl,fh,⟨fun r hr=>?_,fun d b e=>(by rcases hO d with z|⟨_,_,z⟩|⟨_,z⟩ <;> (rw[z] at e;cases e))⟩,hS,hlen,fun _=>rfl⟩) fun H e s' z=>z
 ·obtain⟨r,hr,rfl⟩:=mem_map.mp hp
  have z:=all_eq_true.mp hts r hr
  rw[Bool.and_eq_true] at z
  have hp':=hT r.1 (by simpa using z.1)
  obtain⟨c,hc⟩:=tin r hr
  refine⟨Ud (by rw[← has];simpa using z.2),hp',?_⟩
  exact((PySem.W.codeHd_of_K KX hc).tab hp').isCodeTable
 ·obtain⟨bm,ob,b1,b2,b3,b4,b5,b6⟩:=G.T.bmain
  exact⟨bm,ob,b1,b2,b3,b4,b5,b6⟩
 ·obtain⟨h1,h2⟩:=hT r.1 (mem_map.mpr ⟨r,hr,rfl⟩)
  exact⟨h1,.inl h2⟩
open PySem.W
noncomputable def lxI:List Int→List Int→Bool
 |[],[]=>false
 |[],_::_=>true
 |_::_,[]=>false
 |a::x,b::y=>if a=b then lxI x y else decide (a<b)
theorem Xk:∀x:List Int,lxI x x=false:=by
 intro l_
 induction l_ with
 |nil=>
  exact rfl
 |cons a x ih_=>
  rw[lxI,if_pos rfl];exact ih_
theorem Qr:∀x y:List Int,lxI x y=false→lxI y x=false→x=y
 |[],[],_,_=>rfl
 |[],_::_,h,_=>by simp[lxI] at h
 |_::_,[],_,h=>by simp[lxI] at h
 |a::x,b::y,h1,h2=>by
  rw[lxI] at h1 h2
  by_cases e:a=b
  ·subst e
   rw[if_pos rfl] at h1 h2
   rw[Qr x y h1 h2]
  ·rw[if_neg e] at h1
   rw[if_neg (Ne.symm e)] at h2
   simp only[decide_eq_false_iff_not] at h1 h2
   lia
theorem wR:∀x y z:List Int,lxI x y=true→lxI y z=true→lxI x z=true
 |[],[],_,h,_=>by simp[lxI] at h
 |_::_,[],_,h,_=>by simp[lxI] at h
 |_,_::_,[],_,h=>by simp[lxI] at h
 |[],_::_,_::_,_,_=>rfl
 |a::x,b::y,c::z,h1,h2=>by
  rw[lxI] at h1 h2 ⊢
  by_cases e:a=b
  ·subst e
   rw[if_pos rfl] at h1
   by_cases e2:a=c
   ·subst e2;rw[if_pos rfl] at h2 ⊢;exact wR x y z h1 h2
   ·rw[if_neg e2] at h2 ⊢;exact h2
  ·rw[if_neg e] at h1
   simp only[decide_eq_true_eq] at h1
   by_cases e2:b=c
   ·subst e2;rw[if_neg e];simpa using h1
   ·rw[if_neg e2] at h2
    simp only[decide_eq_true_eq] at h2
    rw[if_neg (by lia)];simp only[decide_eq_true_eq];lia
theorem GB{x y:List Int}(h:lxI x y=true):lxI y x=false:=by
 cases q:lxI y x with
 |false=>rfl
 |true=>have:=wR x y x h q;rw[Xk] at this;cases this
theorem YB{x y:List Int}(h:lxI x y=false)(n:x≠y):lxI y x=true:=by
 cases q:lxI y x with
 |true=>rfl
 |false=>exact absurd (Qr x y h q) n
noncomputable def Pw{α:Type}(lt:Nat→Nat→Bool)(n:Nat):KasT α→(α→Prop)→Prop
 |.ret a,G=>G a
 |.ask i j k,G=>i<n∧j<n∧Pw lt n (k (lt i j)) G
section
variable{lt:Nat→Nat→Bool}{n:Nat}
theorem MS{α:Type}{t u:KasT α}{G:α→Prop}(h:Pw lt n t G):Pw lt n (if true=true then t else u) G:=by rw[if_pos rfl];exact h
theorem zo5{α:Type}{t u:KasT α}{G:α→Prop}(h:Pw lt n u G):Pw lt n (if false=true then t else u) G:=by rw[if_neg (by simp)];exact h
theorem Pw.bind{α β:Type}{f:α→KasT β}{G:β→Prop}:∀(t:KasT α),Pw lt n t (fun a=>Pw lt n (f a) G)→Pw lt n (t.bind f) G
 |.ret _,h=>h
 |.ask i j k,h=>⟨h.1,h.2.1,Pw.bind (k (lt i j)) h.2.2⟩
theorem Pw.mono{α:Type}{G G':α→Prop}(hg:∀a,G a→G' a):∀(t:KasT α),Pw lt n t G→Pw lt n t G'
 |.ret a,h=>hg a h
 |.ask i j k,h=>⟨h.1,h.2.1,Pw.mono hg (k (lt i j)) h.2.2⟩
theorem Pw.wp{α:Type}{cmp:Nat→Nat→(Bool→Shared→Prop)→Shared→Prop}{s:Shared}(hc:∀(i j:Nat) (C:Bool→Shared→Prop),i<n→j<n→C (lt i j) s→cmp i j C s){G:α→Prop}{Q:α→Shared→Prop}(hq:∀a,G a→Q a s) :
  ∀(t:KasT α),Pw lt n t G→t.kasWp cmp Q s
 |.ret a,h=>hq a h
 |.ask i j k,h=>hc i j _ h.1 h.2.1 (Pw.wp hc hq (k (lt i j)) h.2.2)
end
section
variable{n:Nat}{κ:Nat→List Int}{p:Array Nat}
noncomputable abbrev ltK(κ:Nat→List Int)(i j:Nat):Bool:=lxI (κ i) (κ j)
noncomputable abbrev gK(κ:Nat→List Int)(p:Array Nat)(k:Nat):List Int:=κ (p.getD k 0)
noncomputable abbrev PmK(n:Nat)(p:Array Nat):Prop:=p.toList.Perm (List.range n)
theorem wu{p:Array Nat}(k:Nat):p.getD k 0=(p[k]?).getD 0:=by simp
theorem Yx(h:PmK n p):p.size=n:=by have:=h.length_eq;simpa using this
theorem uA(h:PmK n p)(hn:0<n)(k:Nat):p.getD k 0<n:=by
 rw[wu]
 cases q:p[k]? with
 |none=>exact hn
 |some v=>
  have hv:v∈p.toList:=by
   have q':p.toList[k]?=some v:=by rw[← q];simp
   exact mem_of_getElem? q'
  have:=h.mem_iff.mp hv
  simpa using this
theorem zp1(h:PmK n p){i j:Nat}(hi:i<n)(hj:j<n)(hij:i≠j):p.getD i 0≠p.getD j 0:=by
 have nd:p.toList.Nodup:=h.symm.nodup List.nodup_range
 have sz:=Yx h
 have key:∀a b:Nat,a<b→b<n→p.getD a 0≠p.getD b 0:=fun a b hab hb=>by
  have ha':a<p.toList.length:=by simp[sz];lia
  have hb':b<p.toList.length:=by simp[sz];lia
  have:=List.pairwise_iff_getElem.mp nd a b ha' hb' hab
  rw[wu,wu]
  have ea:p[a]?=some p.toList[a]:=by rw[getElem_toList];exact Array.getElem?_eq_getElem _
  have eb:p[b]?=some p.toList[b]:=by rw[getElem_toList];exact Array.getElem?_eq_getElem _
  rw[ea,eb]
  exact this
 rcases lt_or_ge i j with z|z
 ·exact key i j z hj
 ·exact(key j i (by lia) hi).symm
noncomputable def Srt(κ:Nat→List Int)(p:Array Nat)(a:Nat):Prop:=∀i j,i<j→j<a→lxI (gK κ p i) (gK κ p j)=true
noncomputable def Dsc(κ:Nat→List Int)(p:Array Nat)(a:Nat):Prop:=∀i j,i<j→j<a→lxI (gK κ p j) (gK κ p i)=true
variable(inj:∀i j,i<n→j<n→κ i=κ j→i=j)
include inj
theorem zt9(h:PmK n p){i j:Nat}(hi:i<n)(hj:j<n)(hij:i≠j):gK κ p i≠gK κ p j:=fun e=>
 zp1 h hi hj hij (inj _ _ (uA h (by lia) i) (uA h (by lia) j) e)
theorem Mz(h:PmK n p){a:Nat}(hs:Srt κ p a)(h1:1≤a)(ha:a<n)(e:lxI (gK κ p a) (gK κ p (a-1))=false):Srt κ p (a+1):=fun i j hij hj=>by
 rcases lt_or_ge j a with z|z
 ·exact hs i j hij z
 ·obtain rfl:j=a:=by lia
  have l:=YB e (zt9 inj h ha (by lia) (by lia))
  by_cases hi:i=j-1
  ·subst hi;exact l
  ·exact wR _ _ _ (hs i (j-1) (by lia) (by lia)) l
omit inj in
theorem UI{a:Nat}(hs:Dsc κ p a)(h1:1≤a)(e:lxI (gK κ p a) (gK κ p (a-1))=true):Dsc κ p (a+1):=fun i j hij hj=>by
 rcases lt_or_ge j a with z|z
 ·exact hs i j hij z
 ·obtain rfl:j=a:=by lia
  by_cases hi:i=j-1
  ·subst hi;exact e
  ·exact wR _ _ _ e (hs i (j-1) (by lia) (by lia))
theorem JJ(hp:PmK n p):∀(f a:Nat),1≤a→a+f≤n→Srt κ p a →
  Pw (ltK κ) n (kas_asc p f a) fun m=>a≤m∧m≤a+f∧Srt κ p m∧(m<a+f→lxI (gK κ p m) (gK κ p (m-1))=true):=by
 intro l_
 induction l_ with
 |zero=>
  rintro a h1 h2 hs
  exact⟨le_refl _,le_refl _,hs,fun z=>absurd z (lt_irrefl _)⟩
 |succ f ih_=>
  rintro a h1 h2 hs
  unfold kas_asc
  refine⟨uA hp (by lia) _,uA hp (by lia) _,?_⟩
  cases e:ltK κ (p.getD a 0) (p.getD (a-1) 0) with
  |true=>
   refine MS ?_
   exact⟨le_refl _,by lia,hs,fun _=>e⟩
  |false=>
   refine zo5 ?_
   refine Pw.mono (fun m ⟨q1,q2,q3,q4⟩=>⟨by lia,by lia,q3,fun z=>q4 (by lia)⟩) _ (ih_ (a+1) (by lia) (by lia) (Mz inj hp hs h1 (by lia) e))
theorem QP(hp:PmK n p):∀(f a:Nat),1≤a→a+f≤n→Dsc κ p a →
  Pw (ltK κ) n (kas_desc f p a 0) fun r=>r.1=p∧r.2.2=0∧a≤r.2.1∧r.2.1≤a+f∧Dsc κ p r.2.1:=by
 intro l_
 induction l_ with
 |zero=>
  rintro a h1 h2 hs
  exact⟨rfl,rfl,le_refl _,le_refl _,hs⟩
 |succ f ih_=>
  rintro a h1 h2 hs
  unfold kas_desc
  refine⟨uA hp (by lia) _,uA hp (by lia) _,?_⟩
  cases e:ltK κ (p.getD a 0) (p.getD (a-1) 0) with
  |true=>
   refine MS ?_
   rw[if_neg (by lia)]
   refine Pw.mono (fun m ⟨q1,q2,q3,q4,q5⟩=>⟨q1,q2,by lia,by lia,q5⟩) _ (ih_ (a+1) (by lia) (by lia) (UI hs h1 e))
  |false=>
   refine zo5 ?_
   refine⟨uA hp (by lia) _,uA hp (by lia) _,?_⟩
   have e2:ltK κ (p.getD (a-1) 0) (p.getD a 0)=true:=YB e (zt9 inj hp (by lia) (by lia) (by lia))
   rw[e2]
   refine MS ?_
   exact⟨rfl,rfl,le_refl _,Nat.le_add_right _ _,hs⟩
omit inj in
theorem zm3(hp:PmK n p){m:Nat}(hm:m≤n)(k:Nat):gK κ (kas_rev p 0 m) k=if k<m then gK κ p (m-1-k) else gK κ p k:=by
 unfold gK
 rw[wu,show(kas_rev p 0 m)[k]?=_ from getElem?_mirror_all (by rw[Yx hp];exact hm) k]
 by_cases z:k<m
 ·rw[if_pos ⟨zero_le _,z⟩,if_pos z,← wu,zero_add]
 ·rw[if_neg (fun y=>z y.2),if_neg z,← wu]
omit inj in
theorem MY(hp:PmK n p)(i j:Nat):PmK n (kas_rev p i j):=(Array.perm_iff_toList_perm.mp (mirror_perm p i j ((j-i) / 2))).trans hp
omit inj in
theorem za4(hp:PmK n p){m:Nat}(hm:m≤n)(hd:Dsc κ p m):Srt κ (kas_rev p 0 m) m:=fun i j hij hj=>by
 rw[zm3 hp hm,zm3 hp hm,if_pos (by lia),if_pos hj]
 exact hd _ _ (by lia) (by lia)
theorem Mu(hp:PmK n p){m:Nat}(h1:1≤m)(hm:m≤n)(hd:Dsc κ p m):Pw (ltK κ) n (kas_tail3 m n p) fun r=>PmK n r.2∧1≤r.1∧r.1≤n∧Srt κ r.2 r.1:=by
 unfold kas_tail3
 refine Pw.bind _ (Pw.mono (fun m' z_=>?_) _ (JJ inj (MY hp 0 m) (n-m) m h1 (by lia) (za4 hp hm hd)))
 obtain⟨q1,q2,q3,q4⟩:=z_
 exact⟨MY hp 0 m,by lia,by lia,q3⟩
theorem LC(hp:PmK n p)(hn:2≤n):Pw (ltK κ) n (kas_count n p) fun r=>PmK n r.2∧1≤r.1∧r.1≤n∧Srt κ r.2 r.1:=by
 unfold kas_count
 refine Pw.bind _ (Pw.mono (fun m z_=>?_) _ (JJ inj hp (n-1) 1 (le_refl _) (by lia) fun i j hij hj=>by lia))
 obtain⟨q1,q2,q3,q4⟩:=z_
 by_cases e:m=n
 ·rw[if_pos (by simpa using e)]
  exact⟨hp,by lia,by lia,q3⟩
 ·rw[if_neg (by simpa using e)]
  have l:=q4 (by lia)
  by_cases z:m > 1
  ·rw[if_pos z]
   refine⟨uA hp (by lia) _,uA hp (by lia) _,?_⟩
   have:ltK κ (p.getD 0 0) (p.getD (m-1) 0)=true:=q3 0 (m-1) (by lia) (by lia)
   rw[this]
   refine MS ?_
   exact⟨hp,by lia,by lia,q3⟩
  ·rw[if_neg z]
   obtain rfl:m=1:=by lia
   unfold kas_descPart
   have d1:Dsc κ p 1:=fun i j hij hj=>by lia
   refine Pw.bind _ (Pw.mono (fun r z_=>?_) _ (QP inj hp (n-(1+1)) (1+1) (by lia) (by lia) (UI d1 (le_refl _) l)))
   obtain⟨r1,r2,r3,r4,r5⟩:=z_
   rw[if_neg (by lia),r1]
   exact Mu inj hp (by lia) (by lia) r5
theorem Y2(hp:PmK n p){k:Nat}(hk:k<n)(hs:Srt κ p k):∀(f l r:Nat),l≤r→r≤k→r-l≤f→(∀i,i<l→lxI (gK κ p i) (gK κ p k)=true)→(∀i,r≤i→i<k→lxI (gK κ p k) (gK κ p i)=true) →
  Pw (ltK κ) n (kas_place p k f l r) fun m=>m≤k∧(∀i,i<m→lxI (gK κ p i) (gK κ p k)=true)∧(∀i,m≤i→i<k→lxI (gK κ p k) (gK κ p i)=true):=by
 intro l_
 induction l_ with
 |zero=>
  rintro l r h1 h2 h3 h4 h5
  obtain rfl:l=r:=by lia
  exact⟨h2,h4,h5⟩
 |succ f ih_=>
  rintro l r h1 h2 h3 h4 h5
  unfold kas_place
  by_cases z:l ≥ r
  ·rw[if_pos z]
   obtain rfl:l=r:=by lia
   exact⟨h2,h4,h5⟩
  ·rw[if_neg z]
   refine⟨uA hp (by lia) _,uA hp (by lia) _,?_⟩
   cases e:ltK κ (p.getD k 0) (p.getD ((l+r) / 2) 0) with
   |true=>
    refine MS ?_
    refine ih_ l ((l+r) / 2) (by lia) (by lia) (by lia) h4 fun i hi hik=>?_
    by_cases q:i=(l+r) / 2
    ·subst q;exact e
    ·exact wR _ _ _ e (hs _ i (by lia) hik)
   |false=>
    refine zo5 ?_
    refine ih_ ((l+r) / 2+1) r (by lia) (by lia) (by lia) (fun i hi=>?_) h5
    have e2:=YB e (zt9 inj hp hk (by lia) (by lia))
    by_cases q:i=(l+r) / 2
    ·subst q;exact e2
    ·exact wR _ _ _ (hs i _ (by lia) (by lia)) e2
omit inj in
theorem zm4(hp:PmK n p){k l:Nat}(hk:k<n)(hl:l≤k)(i:Nat):gK κ (bubble p k (k-l)) i=if i=l then gK κ p k else if l<i∧i≤k then gK κ p (i-1) else gK κ p i:=by
 unfold gK
 rw[wu,getElem?_bubble (by rw[Yx hp];exact hk) (k-l) (by lia) i,show k-(k-l)=l by lia]
 split
 ·rw[← wu]
 ·split
  ·rw[← wu]
  ·rw[← wu]
theorem LN:∀(f:Nat) (p:Array Nat) (k:Nat),PmK n p→k+f=n→Srt κ p k→Pw (ltK κ) n (kas_bin f p k) fun q=>PmK n q∧Srt κ q n:=by
 intro l_
 induction l_ with
 |zero=>
  rintro p k hp e hs
  obtain rfl:k=n:=by lia
  exact⟨hp,hs⟩
 |succ f ih_=>
  rintro p k hp e hs
  unfold kas_bin
  refine Pw.bind _ (Pw.mono (fun l z_=>?_) _ (Y2 inj hp (by lia) hs k 0 k (zero_le _) (le_refl _) (by lia) (fun i hi=>by lia) (fun i hi hik=>by lia)))
  obtain⟨q1,q2,q3⟩:=z_
  refine ih_ _ (k+1) ((Array.perm_iff_toList_perm.mp (bubble_perm p k (k-l))).trans hp) (by lia) fun i j hij hj=>?_
  rw[zm4 hp (by lia) q1,zm4 hp (by lia) q1]
  by_cases a1:i=l
  ·rw[if_pos a1,if_neg (by lia),if_pos (by lia)]
   exact q3 _ (by lia) (by lia)
  ·rw[if_neg a1]
   by_cases a2:l<i∧i≤k
   ·rw[if_pos a2,if_neg (by lia),if_pos (by lia)]
    exact hs _ _ (by lia) (by lia)
   ·rw[if_neg a2]
    by_cases b1:j=l
    ·rw[if_pos b1];exact q2 _ (by lia)
    ·rw[if_neg b1]
     by_cases b2:l<j∧j≤k
     ·rw[if_pos b2]
      by_cases c:i=j-1
      ·lia
      ·exact hs _ _ (by lia) (by lia)
     ·rw[if_neg b2];exact hs _ _ hij (by lia)
theorem za7(hn:2≤n):Pw (ltK κ) n (kas_sort n) fun q=>PmK n q∧Srt κ q n:=by
 unfold kas_sort
 refine Pw.bind _ (Pw.mono (fun r z_=>?_) _ (LC inj (p:=List.toArray (List.range n)) (by show(List.toArray (List.range n)).toList.Perm _;simp) hn))
 obtain⟨q1,q2,q3,q4⟩:=z_
 by_cases z:r.1<n
 ·rw[if_pos z,Nat.max_eq_left q2]
  exact LN inj _ _ _ q1 (by lia) q4
 ·rw[if_neg z]
  obtain e:r.1=n:=by lia
  rw[e] at q4
  exact⟨q1,q4⟩
end
noncomputable def Xv{α:Type}(x:List Int×α):List (List Int×α)→List (List Int×α)
 |[]=>[x]
 |y::r=>if lxI x.1 y.1=true then x::y::r else y::Xv x r
noncomputable def we{α:Type}:List (List Int×α)→List (List Int×α)
 |[]=>[]
 |x::r=>Xv x (we r)
theorem ZO{α:Type}(x:List Int×α):∀l,(Xv x l).Perm (x::l):=by
 intro l_
 induction l_ with
 |nil=>
  exact List.Perm.refl _
 |cons y r ih_=>
  unfold Xv
  split
  ·exact List.Perm.refl _
  ·exact((ih_).cons y).trans (List.Perm.swap x y r)
theorem uf{α:Type}:∀l:List (List Int×α),(we l).Perm l:=by
 intro l_
 induction l_ with
 |nil=>
  exact List.Perm.refl _
 |cons x r ih_=>
  exact(ZO x _).trans ((ih_).cons x)
theorem Ut{α:Type}(x:List Int×α):∀l:List (List Int×α),l.Pairwise (fun a b=>lxI a.1 b.1=true)→(∀y∈l,y.1≠x.1)→(Xv x l).Pairwise fun a b=>lxI a.1 b.1=true:=by
 intro l_
 induction l_ with
 |nil=>
  rintro _ _
  unfold Xv;simp
 |cons y r ih_=>
  rintro h hd
  unfold Xv
  obtain⟨h1,h2⟩:=pairwise_cons.mp h
  split
  ·rename_i z
   refine pairwise_cons.mpr ⟨fun a ha=>?_,h⟩
   rcases mem_cons.mp ha with rfl|ha
   ·exact z
   ·exact wR _ _ _ z (h1 a ha)
  ·rename_i z
   have z':lxI y.1 x.1=true:=YB (by simpa using z) (hd y mem_cons_self).symm
   refine pairwise_cons.mpr ⟨fun a ha=>?_,ih_ h2 fun a ha=>hd a (mem_cons_of_mem _ ha)⟩
   rcases mem_cons.mp ((ZO x r).mem_iff.mp ha) with rfl|ha
   ·exact z'
   ·exact h1 a ha
theorem Wg{α:Type}:∀l:List (List Int×α),(l.map (·.1)).Nodup→(we l).Pairwise fun a b=>lxI a.1 b.1=true:=by
 intro l_
 induction l_ with
 |nil=>
  rintro _
  unfold we;exact List.Pairwise.nil
 |cons x r ih_=>
  rintro h
  unfold we
  rw[map_cons,nodup_cons] at h
  refine Ut x _ (ih_ h.2) fun y hy e=>h.1 ?_
  rw[← e]
  exact mem_map.mpr ⟨y,(uf r).mem_iff.mp hy,rfl⟩
theorem Wl{α:Type}{r:α→α→Prop}(as:∀a b,r a b→r b a→False):∀{l m:List α},l.Perm m→l.Pairwise r→m.Pairwise r→l=m
 |[],m,p,_,_=>(List.Perm.nil_eq p)
 |a::l,[],p,_,_=>by have:=p.length_eq;simp at this
 |a::l,b::m,p,h1,h2=>by
  obtain⟨x1,x2⟩:=pairwise_cons.mp h1
  obtain⟨y1,y2⟩:=pairwise_cons.mp h2
  by_cases e:a=b
  ·subst e
   rw[Wl as ((List.perm_cons a).mp p) x2 y2]
  ·have ha:a∈b::m:=p.mem_iff.mp mem_cons_self
   have hb:b∈a::l:=p.mem_iff.mpr mem_cons_self
   rcases mem_cons.mp ha with z|z
   ·exact absurd z e
   ·rcases mem_cons.mp hb with w|w
    ·exact absurd w.symm e
    ·exact(as a b (x1 b w) (y1 a z)).elim
theorem U2{α:Type}{l m:List (List Int×α)}(p:l.Perm m)(h:l.Pairwise fun a b=>lxI a.1 b.1=true)(nd:(m.map (·.1)).Nodup):l=we m:=
 Wl (fun a b x y=>by rw[GB x] at y;cases y) (p.trans (uf m).symm) h (Wg m nd)
theorem VG{α:Type}{ks:List (List Int)}{ds:List α}{q:Array Nat}{d:α}(hl:ks.length=ds.length)(nd:ks.Nodup)(hp:q.toList.Perm (List.range ds.length))(hs:Srt (fun i=>ks.getD i []) q ds.length) :
  q.toList.map (fun i=>ds.getD i d)=(we (ks.zip ds)).map (·.2):=by
 have hz:(ks.zip ds).map (·.1)=ks:=List.map_fst_zip (by lia)
 have e0:(List.range ds.length).map (fun i=>(ks.getD i [],ds.getD i d))=ks.zip ds:=by
  apply ext_getElem
  ·simp[hl]
  ·intro i h1 h2
   have a1:i<ds.length:=by simpa using h1
   have a2:i<ks.length:=by lia
   simp[a1,a2]
 have key:q.toList.map (fun i=>(ks.getD i [],ds.getD i d))=we (ks.zip ds):=by
  refine U2 (by rw[← e0];exact hp.map _) ?_ (by rw[hz];exact nd)
  rw[pairwise_map,List.pairwise_iff_getElem]
  intro i j hi hj hij
  have sz:q.size=ds.length:=Yx hp
  have:=hs i j hij (by simpa[sz] using hj)
  unfold gK at this
  rw[wu,wu] at this
  have ea:q[i]?=some q.toList[i]:=by rw[getElem_toList];exact Array.getElem?_eq_getElem _
  have eb:q[j]?=some q.toList[j]:=by rw[getElem_toList];exact Array.getElem?_eq_getElem _
  rw[ea,eb] at this
  exact this
 rw[← key,map_map]
 rfl
open PySem.W
noncomputable def KTs(h:Heap):List Value→List (List Int)→Prop
 |[],[]=>True
 |v::vs,k::ks=>(∃a o its n,v=Value.ref a∧h.get? a=some o∧o.cls=.type "tuple" ∧ o.data=.seq its n∧IntsAre its.toList k∧k≠[])∧KTs h vs ks
 |_,_=>False
theorem KTs.len{h:Heap}:∀{vs:List Value} {ks:List (List Int)},KTs h vs ks→vs.length=ks.length
 |[],[],_=>rfl
 |_::vs,_::ks,r=>by rw[length_cons,length_cons,KTs.len r.2]
 |[],_::_,r=>r.elim
 |_::_,[],r=>r.elim
theorem KTs.get{h:Heap}:∀{vs:List Value} {ks:List (List Int)} {i:Nat},KTs h vs ks→i<ks.length→∃a o its n,vs.getD i Value.none=Value.ref a∧h.get? a=some o∧o.cls=.type "tuple" ∧ o.data=.seq its n∧IntsAre its.toList (ks.getD i [])∧ks.getD i []≠[]
 |[],[],_,_,hi=>by simp at hi
 |_::vs,_::ks,0,r,_=>by simpa using r.1
 |_::vs,_::ks,i+1,r,hi=>by
  obtain⟨a,o,its,n,q⟩:=KTs.get (i:=i) r.2 (by simpa using hi)
  exact⟨a,o,its,n,by simpa using q⟩
 |[],_::_,_,r,_=>r.elim
 |_::_,[],_,r,_=>r.elim
theorem KTs.firsts{h:Heap}:∀{vs:List Value} {ks:List (List Int)},KTs h vs ks→∃fs:List Value,KatTups h vs fs∧fs.length=vs.length∧∀v∈fs,∃n t,v=Value.int n t
 |[],[],_=>⟨[],KatTups.nil,rfl,fun _ z=>nomatch z⟩
 |v::vs,k::ks,⟨⟨a,o,its,n,e1,e2,e3,e4,e5,e6⟩,r⟩=>by
  obtain⟨fs,q1,q2,q3⟩:=KTs.firsts r
  subst e1
  have:∃i t,its[0]?=some (Value.int i t):=by
   obtain⟨l⟩:=its
   cases e5 with
   |nil=>exact absurd rfl e6
   |cons i t _=>exact⟨i,t,rfl⟩
  obtain⟨i,t,h0⟩:=this
  refine⟨_,KatTups.cons e2 e3 e4 h0 q1,by simp[q2],fun v hv=>?_⟩
  rcases mem_cons.mp hv with rfl|hv
  ·exact⟨_,_,rfl⟩
  ·exact q3 v hv
 |[],_::_,r=>r.elim
 |_::_,[],r=>r.elim
section
variable{prog:Program}{w:World}{A:Around}{E:Value→Shared→Prop}{s:Shared}
theorem Wu{vs:List Value}{ks:List (List Int)}{Q:SortKind→Shared→Prop}(h:KTs s.heap vs ks)(hn:0<vs.length)(q:Q (tuples' true) s):wpAny (model prog w) A (keyKind' vs.toArray) Q E s:=by
 obtain⟨fs,q1,q2,q3⟩:=h.firsts
 refine kat_kind (T:=.type "int") q1 (by lia) (fun v hv=>?_) (by decide) q
 obtain⟨i,t,rfl⟩:=q3 v hv
 exact Looks.now
theorem Uf{Q:Bool→Shared→Prop}{fin:Bool}:∀{xs ys:List Int} {us ws:List Value} (i:Nat),IntsAre us xs→IntsAre ws ys→fin=decide (xs.length<ys.length)→Q (lxI xs ys) s→KatLex prog w A true fin Q (us.zip ws) i s
 |_,_,_,_,i,.nil,.nil,e,q=>by
  have e:fin=false:=by simpa using e
  subst e
  exact kat_nil q
 |_,_,_,_,i,.nil,.cons _ _ _,e,q=>by
  have e:fin=true:=by simpa using e
  subst e
  exact kat_nil q
 |_,_,_,_,i,.cons _ _ _,.nil,e,q=>by
  have e:fin=false:=by simpa using e
  subst e
  exact kat_nil q
 |_,_,_,_,i,.cons a t r1,.cons b u r2,e,q=>by
  rw[lxI] at q
  refine kat_cons (wpAny_eqBool_int ?_)
  by_cases z:a=b
  ·subst z
   rw[if_pos rfl] at q
   rw[beq_self_eq_true]
   exact kat_yes (Uf (i+1) r1 r2 (by rw[e];simp) q)
  ·rw[if_neg z] at q
   rw[show(a==b)=false by simpa using z]
   refine kat_no ?_
   cases hi:(true&&i==0) with
   |true=>exact oneLt_int q
   |false=>exact kat_one _ _ (PyProof.Rows.lt_int (show PySem.W.BoolBack Q (.bool (decide (a<b))) s from q))
theorem LU{vs:List Value}{ks:List (List Int)}{n:Nat}(h:KTs s.heap vs ks)(hn:ks.length=n)(i j:Nat)(C:Bool→Shared→Prop)(hi:i<n)(hj:j<n)(q:C (ltK (fun i=>ks.getD i []) i j) s):kas_ask prog w A (tuples' true) vs i j C s:=by
 obtain⟨a,o,its,m,e1,e2,e3,e4,e5,e6⟩:=h.get (i:=i) (by lia)
 obtain⟨a',o',its',m',f1,f2,f3,f4,f5,f6⟩:=h.get (i:=j) (by lia)
 unfold kas_ask
 rw[e1,f1]
 refine kat_lt e2 e4 f2 f4 (Uf 0 e5 f5 ?_ q)
 have l1:=e5.length
 have l2:=f5.length
 rw[length_toList] at l1 l2
 rw[l1,l2]
theorem VN{vs us:List Value}{ks:List (List Int)}{Q:SortSt→Shared→Prop}(h:KTs s.heap vs ks)(hl:vs.length=us.length)(h2:2≤us.length)(h64:us.length<64)(nd:ks.Nodup)
  (q:∀(p:Array Nat) (st:SortSt),PmK us.length p→Srt (fun i=>ks.getD i []) p us.length→(arrOf st).map (·.2)=List.toArray (p.toList.map fun i=>us.getD i Value.none)→failedOf st=none→Q st s) :
  wpAny (model prog w) A ((sortRuns').run (SortSt.mk' (tuples' true) (vs.toArray.zip us.toArray) #[] 7 none)) (fun r s'=>Q r.2 s') E s:=by
 have hk:ks.length=us.length:=by rw[← h.len,hl]
 refine kat_run (G:=fun p s'=>s'=s∧PmK us.length p∧Srt (fun i=>ks.getD i []) p us.length) hl h2 h64 (fun p st' s' h1 h3 h4 h5=>?_) ?_
 ·obtain⟨rfl,h5,h6⟩:=h5
  exact q p st' h5 h6 (kat_snds hl h3) h4
 ·have inj:∀i j,i<us.length→j<us.length→ks.getD i []=ks.getD j []→i=j:=fun i j hi hj e=>by
   have key:∀a b:Nat,a<b→b<us.length→ks.getD a []≠ks.getD b []:=fun a b hab hb=>by
    have:=List.pairwise_iff_getElem.mp nd a b (by lia) (by lia) hab
    have ea:ks.getD a []=ks[a]'(by lia):=by simp[show a<ks.length by lia]
    have eb:ks.getD b []=ks[b]'(by lia):=by simp[show b<ks.length by lia]
    rw[ea,eb];exact this
   rcases Nat.lt_trichotomy i j with z|z|z
   ·exact absurd e (key i j z hj)
   ·exact z
   ·exact absurd e.symm (key j i z hi)
  exact Pw.wp (fun i j C hi hj=>LU h hk i j C hi hj) (fun p hp=>⟨rfl,hp⟩) _ (za7 (κ:=fun i=>ks.getD i []) inj h2)
end
noncomputable def Xq:List D→Option (List Int)
 |[]=>some []
 |.int i::r=>(Xq r).map (i :: ·)
 |_=>none
noncomputable def zh4:D→Option (List Int)
 |.tup ds=>Xq ds
 |_=>none
theorem Uq:∀{ds:List D} {ns:List Int},Xq ds=some ns→ds=ns.map D.int
 |[],ns,h=>by cases h;rfl
 |.int i::r,ns,h=>by
  simp only[Xq] at h
  cases q:Xq r with
  |none=>rw[q] at h;cases h
  |some m=>rw[q] at h;cases h;rw[Uq q];rfl
 |.non::_,_,h=>by cases h
 |.bl _::_,_,h=>by cases h
 |.str _::_,_,h=>by cases h
 |.lst _::_,_,h=>by cases h
 |.tup _::_,_,h=>by cases h
 |.scr _::_,_,h=>by cases h
 |.raw _::_,_,h=>by cases h
 |.exc _::_,_,h=>by cases h
theorem zh3{d:D}{ns:List Int}(h:zh4 d=some ns):d=.tup (ns.map D.int):=by
 cases d <;> first|cases h|skip
 rename_i ds
 rw[Uq (ds:=ds) h]
noncomputable def Z8:List D→Option (List (List Int))
 |[]=>some []
 |d::r=>match zh4 d,Z8 r with
  |some k,some ks=>some (k::ks)
  |_,_=>none
theorem Ui:∀{ds:List D} {ks:List (List Int)},Z8 ds=some ks→ds=ks.map fun k=>D.tup (k.map D.int)
 |[],ks,h=>by cases h;rfl
 |d::r,ks,h=>by
  simp only[Z8] at h
  cases q:zh4 d with
  |none=>rw[q] at h;cases h
  |some k=>
   cases q2:Z8 r with
   |none=>rw[q,q2] at h;cases h
   |some ks'=>
    rw[q,q2] at h;cases h
    rw[zh3 q,Ui q2];rfl
section
variable[Tabs]{X:Cx}{pins:List (Addr×Obj)}{σ:St}{F H:Hp}{s:Shared}
theorem uV:∀{ns:List Int} {vs:List V} {us:List Value},Reps X.K F (ns.map D.int) vs→Vals vs us→IntsAre us ns
 |[],_,_,r,v=>by
  simp only[map_nil,Reps] at r;subst r
  cases v;exact .nil
 |n::ns,_,_,r,v=>by
  simp only[map_cons,Reps] at r
  obtain⟨x,xs,rfl,rx,rr⟩:=r
  simp only[Rep] at rx
  subst rx
  cases v with
  |cons e t=>
   rename_i u us
   obtain⟨t',e⟩:∃t',u=Value.int n t':=e
   subst e
   exact .cons _ _ (uV rr t)
theorem Jp(I:Inv X pins σ H s)(fh:Same F H):∀{ks:List (List Int)} {vs:List V} {us:List Value},Reps X.K F (ks.map fun k=>D.tup (k.map D.int)) vs→Vals vs us→(∀k∈ks,k≠[])→KTs s.heap us ks
 |[],_,_,r,v,_=>by
  simp only[map_nil,Reps] at r;subst r
  cases v;exact trivial
 |k::ks,_,_,r,v,ne=>by
  simp only[map_cons,Reps] at r
  obtain⟨x,xs,rfl,rx,rr⟩:=r
  simp only[Rep] at rx
  obtain⟨a,ws,rfl,q,t⟩:=rx
  obtain⟨its,rv,⟨o,eo,hc,n,hd⟩,hz⟩:=I.tuple (Same.seqT fh q)
  cases v with
  |cons e tl=>
   rename_i u us
   have e:u=Value.ref a:=e
   subst e
   exact⟨⟨a,o,its.toArray,n,rfl,eo,hc,hd,by simpa using uV t rv,ne k mem_cons_self⟩,Jp I fh rr tl fun k hk=>ne k (mem_cons_of_mem _ hk)⟩
theorem Reps.pick{K:Frag}{ds:List D}{vs:List V}(r:Reps K F ds vs):∀(q:List Nat),(∀i∈q,i<ds.length)→Reps K F (q.map fun i=>ds.getD i .non) (q.map fun i=>vs.getD i .non):=by
 intro l_
 induction l_ with
 |nil=>
  rintro _
  exact Reps.nil
 |cons i q ih_=>
  rintro h
  have hi:=h i mem_cons_self
  obtain⟨v,e1,e2⟩:=r.get (i:=i) (getElem?_eq_getElem hi)
  have z1:ds.getD i .non=ds[i]:=by simp[hi]
  have z2:vs.getD i .non=v:=by simp[e1]
  rw[map_cons,map_cons,z1,z2]
  exact Reps.cons e2 (ih_ fun j hj=>h j (mem_cons_of_mem _ hj))
theorem Zx{vs:List V}{us:List Value}(r:Vals vs us):∀(q:List Nat),(∀i∈q,i<vs.length)→Vals (q.map fun i=>vs.getD i .non) (q.map fun i=>us.getD i .none):=by
 intro l_
 induction l_ with
 |nil=>
  rintro _
  exact .nil
 |cons i q ih_=>
  rintro h
  have hi:=h i mem_cons_self
  obtain⟨u,e1,e2⟩:=r.get (i:=i) (getElem?_eq_getElem hi)
  have z1:vs.getD i .non=vs[i]:=by simp[hi]
  have z2:us.getD i .none=u:=by simp[e1]
  rw[map_cons,map_cons,z1,z2]
  exact .cons e2 (ih_ fun j hj=>h j (mem_cons_of_mem _ hj))
end
open PySem.W
section
variable{X:Cx}{pins:List (Addr×Obj)}{σ:St}{F H:Hp}{τ:DS}{s:Shared}{Q:VK}{E:Value→Shared→Prop}
theorem Inv.relist(I:Inv X pins σ H s){a:Addr}{xs ys:List V}{us ws:List Value}{n:Nat}{g:Array Value→Array Value}(e:H a=some (.lst xs))(o:s.heap.get? a=some (seqObj "list" us.toArray n))(hg:g us.toArray=ws.toArray)(r:Vals ys ws)(hz:ys.length≤sizeLine) :
  Inv X pins σ (upd H a (.lst ys)) { s with heap:=s.heap.update a (Obj.mapSeq g) }:=by
 have h1:=get?_update_seq o g
 rw[hg] at h1
 exact I.write (t':=s.toks) (by rw[e];exact trivial) (.inl rfl) (fun b u hb q=>by rw[Heap.get?_update_ne _ _ _ _ hb];exact q) ⟨_,h1⟩ ⟨hz,ws,_,r,h1⟩
theorem Inv.settle(I:Inv X (pins++[p]) σ H s){D:Addr}{n:Nat}{ys:List V}{ws:List Value}{g:Array Value→Array Value}(hp:p=(D,seqObj "list" #[] n))(hg:g #[]=ws.toArray)(r:Vals ys ws)(hz:ys.length≤sizeLine)
  (h0:X.s₀.heap.objs.size≤D) (hc:∀x c,X.env.cells.lookup x=some c→c≠D) (hn:∀q∈X.pn++pins,q.1≠D):Inv X pins σ (upd H D (.lst ys)) { s with heap:=s.heap.update D (Obj.mapSeq g) }:=by
 subst hp
 obtain⟨e,nD,neL,nf,_⟩:=I.pin (D,seqObj "list" #[] n) (by simp)
 have J:Inv X pins σ H s:=I.pins_of fun q hq=>I.pin q (mem_append_right _ (mem_append_left _ hq))
 have h1:=get?_update_seq e g
 rw[hg] at h1
 have kp:∀b u,b≠D→s.heap.get? b=some u→(s.heap.update D (Obj.mapSeq g)).get? b=some u:=fun b u hb q=>by rw[Heap.get?_update_ne _ _ _ _ hb];exact q
 refine J.step (g':=s.gens) (d':=s.drawn) (t':=s.toks) (ch:=[D]) (fun b hb=>?_) (fun b o _ _ hb q _=>kp b o (by simpa using hb) q) (fun b o _ _ hb q _=>⟨o.slots,kp b o (by simpa using hb) q⟩) (fun b o hb _ q=>by rw[zo (by simpa using hb)];exact q)
  (fun b o hb q=>⟨o,kp b o (by simpa using hb) q⟩) (fun b xs q=>by rw[zo (zP q nD)];exact q) (fun b o u q=>by rw[zo (zP q nD)];exact q) (fun b ps q=>⟨#[],by rw[zo (zP q nD),q];simp⟩) (fun m hm=>?_) ?_ J.bare
 ·have:b=D:=by simpa using hb
  subst this
  exact⟨.inr h0,neL,hc,hn⟩
 ·obtain⟨o,es,ep,ho,r'⟩:=hm
  exact⟨o,es,ep,kp _ o (Ne.symm neL) ho,r'⟩
 ·intro b u q
  by_cases hb:b=D
  ·subst hb
   rw[zv] at q;cases q
   exact⟨hz,ws,_,r,h1⟩
  ·rw[zo hb] at q
   refine(J.hok b u q).stay (fun c v hc' q'=>kp c v ?_ q') (fun c q'=>by rw[zo (zP q' nD)];exact q') fun c xs q'=>by rw[zo (zP q' nD)];exact q'
   rcases hc' with z|z
   ·rw[z];exact hb
   ·exact zP z nD
theorem QZ:Vals ([]:List V) []:=.nil
theorem JU{D kS:Addr}{e1:Nat}{st:SortSt}{kvs ovs:List V}{out:List Value}{P:PySem.Fin→Shared→Prop}{A:Around}(I:Inv X (pins++[(D,seqObj "list" #[] e1)]) σ H s)(hk:H kS=some (.lst kvs))(hout:(arrOf st).map (·.2)=List.toArray out)(hf:failedOf st=none)(hz:out.length<64)
  (r:Vals ovs out) (hkz:kvs.length≤sizeLine) (h0:X.s₀.heap.objs.size≤D) (hc:∀x c,X.env.cells.lookup x=some c→c≠D) (hn:∀q∈X.pn++pins,q.1≠D)
  (h:∀s',Inv X pins σ (upd (upd H kS (.lst [])) D (.lst ovs)) s'→P (.done (.ret .none)) s'):wpAny (model X.prog X.w) A (ksk_tail D false e1 (.ref kS) st) P E s:=by
 obtain⟨z1,its,n,rk,ek⟩:=I.hok kS _ hk
 have lk:its.length≤sizeLine:=by rw[← rk.length];exact hkz
 have I1:=Inv.relist (g:=fun _=>#[]) I hk ek (ws:=[]) rfl QZ (zero_le _)
 obtain⟨eD,nD,_⟩:=I1.pin (D,seqObj "list" #[] e1) (by simp)
 unfold ksk_tail
 try dsimp only
 refine wpAny_bind (listUpdate_at ek rfl ?_ (by rw[size_toArray];exact lk) (zero_le _))
 refine wpAny_bind (wpAny_letGo ?_)
 refine wpAny_bind (seqEpoch_at eD rfl ?_)
 refine wpAny_bind (listUpdate_at eD rfl ?_ (zero_le _) ?_)
 ·rw[hf]
  simp only[bne_self_eq_false,Bool.false_eq_true,if_false]
  exact wpAny_pure (h _ (Inv.settle I1 rfl (ws:=out) hout r (by rw[r.length];exact le_of_lt (yS (by lia))) h0 hc hn))
 ·simp only[Bool.false_eq_true,if_false]
  rw[hout,size_toArray]
  exact le_trans (le_of_lt (yS (by lia))) (le_succ _)
theorem YU:∀{kz:List (List Int)} {ds:List D},kz.length=ds.length→ds.length<2→(we (kz.zip ds)).map (·.2)=ds
 |[],[],_,_=>rfl
 |[a],[b],_,_=>rfl
 |[],_::_,h,_=>by simp at h
 |[_],[],h,_=>by simp at h
 |[_],_::_::_,h,_=>by simp at h
 |_::_::_,ds,h,h2=>by simp at h;lia
theorem zu2{Da kS:Addr}{e1:Nat}{kvs vs:List V}{us:List Value}{ds:List D}{kz:List (List Int)}{P:PySem.Fin→Shared→Prop}{A:Around}(I:Inv X (pins++[(Da,seqObj "list" #[] e1)]) σ H s)(hk:H kS=some (.lst kvs)){ks:List Value}{n:Nat}(ek:s.heap.get? kS=some (seqObj "list" ks.toArray n))(rk:Vals kvs ks)
  (fh:Same F H) (kr:Reps X.K F (kz.map fun k=>FD.D.tup (k.map FD.D.int)) kvs) (ne:∀k∈kz,k≠[]) (nd:kz.Nodup) (hl:kz.length=ds.length) (rs:Reps X.K F ds vs) (rv:Vals vs us) (hz:us.length<64)
  (h0:X.s₀.heap.objs.size≤Da) (hc:∀x c,X.env.cells.lookup x=some c→c≠Da) (hn:∀q∈X.pn++pins,q.1≠Da)
  (h:∀s' ovs,Inv X pins σ (upd (upd H kS (.lst [])) Da (.lst ovs)) s'→Reps X.K F ((we (kz.zip ds)).map (·.2)) ovs→P (.done (.ret .none)) s'):wpAny (model X.prog X.w) A (ksk_end Da false us.toArray e1 (.ref kS) ks.toArray) P E s:=by
 have l1:ds.length=us.length:=by rw[rs.length,rv.length]
 have l2:ks.length=us.length:=by rw[← rk.length,← kr.length,length_map,hl,l1]
 have hkz:kvs.length≤sizeLine:=by rw[rk.length,l2];exact le_of_lt (yS (by lia))
 unfold ksk_end
 try dsimp only
 simp only[Bool.false_eq_true,if_false]
 by_cases h2:us.length<2
 ·have h2':us.toArray.size<2:=by rw[size_toArray];exact h2
  rw[if_pos h2',if_pos h2']
  refine wpAny_bind (wpAny_pure ?_)
  rw[StateT.run_pure]
  refine wpAny_bind (wpAny_pure ?_)
  try dsimp only
  refine JU (out:=us) (ovs:=vs) I hk ?_ rfl hz rv hkz h0 hc hn fun s' J=>h s' vs J ?_
  ·show((ks.toArray.zip us.toArray).map (·.2))=us.toArray
   apply Array.toList_inj.mp
   rw[Array.toList_map,ksk_zip]
   exact List.map_snd_zip (by simp[l2])
  ·rw[YU hl (by lia)];exact rs
 ·have h2':¬ us.toArray.size<2:=by rw[size_toArray];exact h2
  rw[if_neg h2',if_neg h2']
  have kt:=Jp I fh kr rk ne
  refine wpAny_bind (Wu kt (by lia) ?_)
  refine wpAny_bind (VN (Q:=fun st s'=>wpAny (model X.prog X.w) A (ksk_tail Da false e1 (.ref kS) st) P E s') kt l2 (by lia) hz nd fun p st h3 h4 h5 h6=>?_)
  have hp:∀i∈p.toList,i<us.length:=fun i hi=>by simpa using h3.mem_iff.mp hi
  refine JU (ovs:=p.toList.map fun i=>vs.getD i .non) I hk h5 h6 ?_ (Zx rv _ fun i hi=>by rw[rv.length];exact hp i hi) hkz h0 hc hn fun s' J=>h s' _ J ?_
  ·rw[length_map,h3.length_eq,length_range];exact hz
  ·rw[← VG (q:=p) (d:=.non) hl nd (by rw[l1];exact h3) (by rw[l1];exact h4)]
   exact Reps.pick rs _ fun i hi=>by rw[l1];exact hp i hi
end
open PySem.W
section
variable{X:Cx}{pins:List (Addr×Obj)}{σ:St}{F H:Hp}{τ:DS}{s:Shared}{Q:VK}{E:Value→Shared→Prop}
theorem U0{l f:Addr}{ds:List D}{vs:List V}{kz:List (List Int)}(I:Inv X pins σ H s)(fh:Same F H)(hl:F l=some (.lst vs))(rs:Reps X.K F ds vs)(h64:ds.length<64)(hk:kz.length=ds.length)(nd:kz.Nodup)(ne:∀k∈kz,k≠[])
  (key:∀(i:Nat) (d:D) (k:List Int),ds[i]?=some d→kz[i]?=some k→∀(pins':List (Addr×Obj)) (s':Shared) (F' H':Hp) (v:V) (u:Value) (Q':VK),Inv X pins' σ H' s'→(∀p∈pins,p∈pins')→Ext F H F' H'→Rep X.K F' d v→RelV v u →
   (∀kv F'' H'',Ext F' H' F'' H''→Rep X.K F'' (.tup (k.map D.int)) kv→Q' kv H'')→wpAny (model X.prog X.w) X.A.in1.in1 (call (.ref f) [u]) (EP X pins' σ Q') (fun _ _=>False) s')
  (hQ:∀Da F' H',Ext F H F' H'→Rep X.K F' (.lst ((we (kz.zip ds)).map (·.2))) (.ref Da)→Q (.ref Da) H') :
  wpAny (model X.prog X.w) X.A (call (.builtin "sorted") [.ref l] [(Str.ofString "key", .ref f)]) (EP X pins σ Q) E s:=by
 obtain⟨us,rv,⟨o,nn,eo,hc,hd0,hd⟩,hz⟩:=I.list (SqL.of (K:=X.K) (fh _ _ hl))
 have hil:s.heap.IsList l us.toArray:=⟨o,eo,hc,nn,hd⟩
 have l1:ds.length=us.length:=by rw[rs.length,rv.length]
 have sz:us.length≤sizeLine:=le_of_lt (yS (by lia))
 refine call_function_entry_kw kind_sorted plain_sorted entry_sorted (ksk_s1 _ _) ?_
 unfold Builtin.«sorted»
 refine wpAny_bind (m:=checkCount "sorted" 1 1 _) (wpAny_pure ?_)
 refine wpAny_bind (collect_list hil ?_ sz)
 refine wpAny_bind (wpAny_newList ?_ sz)
 have keep1:∀b u,s.heap.get? b=some u→((s.heap.push (seqObj "list" #[] 0)).update s.heap.objs.size (Obj.mapSeq (· ++ us.toArray))).get? b=some u:=fun b u q=>by
  have hb:b<s.heap.objs.size:=Heap.lt_size q
  rw[Heap.get?_update_ne _ _ _ _ (ne_of_lt hb),Heap.get?_push_ne _ _ _ (ne_of_lt hb)]
  exact q
 have size1:s.heap.objs.size≤((s.heap.push (seqObj "list" #[] 0)).update s.heap.objs.size (Obj.mapSeq (· ++ us.toArray))).objs.size:=by rw[Heap.size_update,size_push'];lia
 generalize hh1:(s.heap.push (seqObj "list" #[] 0)).update s.heap.objs.size (Obj.mapSeq (· ++ us.toArray))=h1 at keep1 size1
 have hD:(h1.push (seqObj "list" us.toArray 0)).get? h1.objs.size=some (seqObj "list" us.toArray 0):=Heap.get?_push_size _ rfl
 have keep2:∀b u,s.heap.get? b=some u→(h1.push (seqObj "list" us.toArray 0)).get? b=some u:=fun b u q=>get?_push_of_some _ (keep1 b u q)
 generalize hDa:h1.objs.size=Da at hD size1
 have neD:∀b u,s.heap.get? b=some u→b≠Da:=fun b u q=>ne_of_lt (lt_of_lt_of_le (Heap.lt_size q) size1)
 generalize hh2:h1.push (seqObj "list" us.toArray 0)=h2 at hD keep2
 have ltD:Da<h2.objs.size:=Heap.lt_size hD
 refine wpAny_bind (wpAny_holding (wpAny_call_entry_kw (rest:=[]) slot_list_sort ⟨_,hD,rfl⟩ entry_list_sort ?_ (ksk_l1 _ _)))
 show wpAny (model X.prog X.w) X.A.in1.in1 (Builtin.«list.sort» ⟨[.ref Da],[(Str.ofString "key", .ref f)]⟩) _ _ _
 rw[ksk_t1 f Da]
 unfold ksk_tree
 refine wpAny_bind (listItems_at hD rfl ?_)
 refine wpAny_bind (listUpdate_at hD rfl ?_ (by rw[size_toArray];exact sz) (zero_le _))
 have keep3:∀b u,s.heap.get? b=some u→(h2.update Da (Obj.mapSeq fun _=>(#[]:Array Value))).get? b=some u:=fun b u q=>by
  rw[Heap.get?_update_ne _ _ _ _ (neD b u q)];exact keep2 b u q
 obtain⟨e1,hD3⟩:∃e1,(h2.update Da (Obj.mapSeq fun _=>(#[]:Array Value))).get? Da=some (seqObj "list" #[] e1):=⟨_,get?_update_seq hD fun _=>#[]⟩
 generalize h2.update Da (Obj.mapSeq fun _=>(#[]:Array Value))=h3 at keep3 hD3
 refine wpAny_bind (seqEpoch_at hD3 rfl ?_)
 refine wpAny_bind (wpAny_newTuple ?_ (by show us.length≤sizeLine;exact sz))
 refine wpAny_bind (wpAny_newList ?_ (zero_le _))
 refine wpAny_holding ?_
 have hDa0:s.heap.objs.size≤Da:=size1
 have nH:H Da=none:=I.hok.fresh hDa0
 have neL:Da≠X.env.locals:=(ne_of_lt (lt_of_lt_of_le I.lt hDa0)).symm
 have pinD:∀q∈X.pn++pins,q.1≠Da:=fun q hq=>neD _ _ (I.pin q hq).1
 have cellD:∀x c,X.env.cells.lookup x=some c→c≠Da:=fun x c e=>by
  obtain⟨v,oc,hoc,_⟩:=I.cell x c e
  exact neD _ _ hoc
 have I1:Inv X pins σ H { s with heap:=h3.push (seqObj "tuple" us.toArray 0) }:=I.kept (t':=s.toks) fun b u q=>get?_push_of_some _ (keep3 b u q)
 have I2:Inv X (pins++[(Da,seqObj "list" #[] e1)]) σ H { s with heap:=h3.push (seqObj "tuple" us.toArray 0) }:=I1.pins_of fun q hq=>by
  rcases mem_append.mp hq with hq|hq
  ·exact I1.pin q (mem_append_right _ hq)
  ·have:q=(Da,seqObj "list" #[] e1):=by simpa using hq
   subst this
   exact⟨get?_push_of_some _ hD3,nH,neL,I.nofs hDa0,fun v z=>nomatch z⟩
 have szk:s.heap.objs.size≤(h3.push (seqObj "tuple" us.toArray 0)).objs.size:=le_of_lt (Nat.lt_of_le_of_lt hDa0 (Heap.lt_size (get?_push_of_some _ hD3)))
 have hkS:H (h3.push (seqObj "tuple" us.toArray 0)).objs.size=none:=I.hok.fresh szk
 have I3:=I2.laid (t':=s.toks) (a:=(h3.push (seqObj "tuple" us.toArray 0)).objs.size) (o:=.lst []) (h':=(h3.push (seqObj "tuple" us.toArray 0)).push (seqObj "list" #[] 0)) (fun b u q=>get?_push_of_some _ q) (le_refl _) ⟨zero_le _,[],0,.nil,Heap.get?_push_size _ rfl⟩
 generalize hkk:(h3.push (seqObj "tuple" us.toArray 0)).objs.size=kS at hkS I3
 have h0D:X.s₀.heap.objs.size≤Da:=le_trans I.sz hDa0
 unfold ksk_rest
 refine wpAny_bind (wpAny_rule ?_)
 first
  | rw[List.forIn_toArray]
  | (rw[← Array.forIn_toList];simp only[List.toList_toArray])
 refine wpAny_bind (ksk_fold (fun i s'=>∃F2 Hm kvs,Ext F H F2 Hm∧Hm kS=none∧Inv X (pins++[(Da,seqObj "list" #[] e1)]) σ (upd Hm kS (.lst kvs)) s'∧Reps X.K F2 ((kz.take i).map fun k=>D.tup (k.map D.int)) kvs) us 0 _
  ⟨F,H,[],Ext.refl fh,hkS,I3,by simpa using Reps.nil⟩ ?step ?done)
 case step=>
  rintro j x s' hx ⟨F2,Hm,kvs,x2,hm,I4,rk⟩
  simp only[zero_add] at rk ⊢
  have hj:j<us.length:=(List.getElem?_eq_some_iff.mp hx).1
  obtain⟨d,hd⟩:∃d,ds[j]?=some d:=⟨_,getElem?_eq_getElem (by lia)⟩
  obtain⟨k,hkj⟩:∃k,kz[j]?=some k:=⟨_,getElem?_eq_getElem (by lia)⟩
  obtain⟨v,hv,rd⟩:=rs.get hd
  obtain⟨u,hu,ru⟩:=rv.get hv
  rw[hx] at hu;cases hu
  have xo:Ext F2 Hm F2 (upd Hm kS (.lst kvs)):=Ext.open x2.fh hm
  refine wpAny_bind (wpAny_attempt (wpAny_mono (key j d k hd hkj _ s' F2 _ v x (fun kv H''=>∃F'',Ext F2 (upd Hm kS (.lst kvs)) F'' H''∧Rep X.K F'' (.tup (k.map D.int)) kv) I4 (fun p hp=>mem_append_left _ hp) (x2.trans xo) (rd.mono x2.ff) ru (fun kv F'' H'' y r=>⟨F'',y,r⟩)) (fun kval s'' hk''=>?_) fun _ _ z=>z.elim))
  obtain⟨kv,H'',I5,rkv,F'',x5,rp⟩:=hk''
  have hkS5:H'' kS=some (.lst kvs):=x5.hh _ _ zv
  obtain⟨z1,its,n,rki,ek⟩:=I5.hok kS _ hkS5
  have lk:kvs.length=j:=by
   rw[← rk.length,length_map,length_take];lia
  have li:its.length=j:=by rw[← rki.length];exact lk
  have I6:=Inv.relist (g:=(·.push kval)) I5 hkS5 ek (ws:=its++[kval]) (by simp) (rki.append (.cons rkv .nil)) (by rw[length_append,lk];exact le_of_lt (yS (by simp;lia)))
  obtain⟨y1,y2⟩:=XE x2 hm x5
  try dsimp only
  refine wpAny_bind (listUpdate_at ek rfl ?_ (by rw[size_toArray,li];exact le_of_lt (yS (by lia))) ?_)
  ·refine wpAny_pure ⟨rfl,F'',vf H'' kS,kvs++[kv],y1,uW _ _,by rw[YN];exact I6,?_⟩
   have tk:kz.take (j+1)=kz.take j++[k]:=by
    rw[List.take_add_one,hkj];rfl
   rw[tk,map_append]
   exact(rk.mono x5.ff).append (Reps.cons rp Reps.nil)
  ·rw[Array.size_push,size_toArray,li];exact le_trans (le_of_lt (yS (by lia))) (le_succ _)
 case done=>
  rintro s' ⟨F2,Hm,kvs,x2,hm,I4,rk⟩
  simp only[zero_add] at rk
  rw[take_of_length_le (by lia)] at rk
  obtain⟨z1,ks,n,rki,ek⟩:=I4.hok kS _ zv
  refine wpAny_bind (listItems_at ek rfl ?_)
  have xo:Ext F2 Hm F2 (upd Hm kS (.lst kvs)):=Ext.open x2.fh hm
  refine zu2 I4 zv ek rki xo.fh rk ne nd hk (rs.mono x2.ff) rv (by lia) h0D cellD pinD fun s5 ovs J ro=>?_
  refine⟨_,rfl,wpAny_pure ⟨_,rfl,.ref Da,_,J,rfl,hQ Da (upd F2 Da (.lst ovs)) _ ?_ ?_⟩⟩
  ·have hmD:Hm Da=none:=by
    obtain⟨_,nD,_⟩:=I4.pin (Da,seqObj "list" #[] e1) (by simp)
    by_cases z:Da=kS
    ·rw[z];exact hm
    ·rw[zo z] at nD;exact nD
   have eq1:upd (upd (upd Hm kS (.lst kvs)) kS (.lst [])) Da (.lst ovs)=upd (upd Hm kS (.lst [])) Da (.lst ovs):=by
    congr 1;funext b;unfold upd;split <;> rfl
   rw[eq1]
   have kD:(upd Hm kS (.lst [])) Da=none:=by
    obtain⟨_,nD,_⟩:=I4.pin (Da,seqObj "list" #[] e1) (by simp)
    by_cases z:Da=kS
    ·rw[z,zv] at nD;cases nD
    ·rw[zo z];exact hmD
   exact(x2.trans (Ext.open (o:=.lst []) x2.fh hm)).trans (Ext.new ((x2.trans (Ext.open (o:=.lst []) x2.fh hm)).fh) kD)
  ·have hF:F2 Da=none:=by
    obtain⟨_,nD,_⟩:=I4.pin (Da,seqObj "list" #[] e1) (by simp)
    exact zY xo.fh nD
   simp only[Rep]
   exact⟨Da,ovs,rfl,zv,ro.mono (yi hF)⟩
end
open PySem.W
noncomputable def _root_.L2.Cx.lam(X:Cx)(scope:Scope)(N:List Str)(s:Shared)(H:Hp)(qual:Str)(f:Addr)(cd:Value):Cx:=
 { prog:=X.prog,w:=X.w,K:=X.K,mg:=X.mg,base:=X.base,A:=X.A.in1.in1.deeper (envX qual scope s.heap.objs.size f cd (y7 scope X.env)),N:=N,s₀:=s,H₀:=H,env:=envX qual scope s.heap.objs.size f cd (y7 scope X.env),outer:=X.stack,
   stack:=envX qual scope s.heap.objs.size f cd (y7 scope X.env)::X.stack,ex:=[],fn:=fun _=>false,calm:=true,pn:=[],xe:=fun _ _=>False }
section
variable{X:Cx}{scope:Scope}{N':List Str}{pins:List (Addr×Obj)}{σ σ':St}{F H:Hp}{τ:DS}{s:Shared}
theorem zg8{h1:Heap}{t:Nat}{qual p:Str}{f:Addr}{cd u:Value}{v:V}(S:xP X scope)(hd:X.A.handled=none)(I:Inv X pins σ H s)(hp:scope.names.lookup p=some .local)(hN:N'[0]?=some p)(rv:RelV v u)
  (hn:h1.Ns s.heap.objs.size fun x=>([(p,u)]:List (Str×Value)).reverse.lookup x) (hsb:∀b o,s.heap.get? b=some o→h1.get? b=some o) (hl:σ'.length=N'.length) (h0:σ'[0]?=some (some v))
  (hσ:∀(i:Nat) (v:V),i≠0→σ'[i]?=some (some v)→∃(x:Str) (j:Nat),N'[i]?=some x∧X.N[j]?=some x∧σ[j]?=some (some v)∧scope.names.lookup x=some .free) :
  Inv (X.lam scope N' s H qual f cd) [] σ' H { s with heap:=h1,toks:=t }:=by
 have hH:H s.heap.objs.size=none:=I.hok.fresh (le_refl _)
 have cl:∀{x c},(y7 scope X.env).lookup x=some c→X.env.cells.lookup x=some c:=fun h=>ZT S I.ok h
 have kept:∀{c v},s.heap.IsCell c v→h1.IsCell c v:=fun ⟨o,e,d⟩=>⟨o,hsb _ o e,d⟩
 have noA:∀b:Addr,b∉(X.lam scope N' s H qual f cd).ex:=fun b z=>absurd (show b∈([]:List Addr) from z) (by simp)
 refine⟨⟨I.ok.mod,S.kind,rfl,rfl,le_refl _,fun x y c e1 e2=>I.ok.inj x y c (cl e1) (cl e2),fun x hx=>?_,fun x c hf _=>absurd hf (by simp[Cx.lam]),fun _=>hd,Around.frames_deeper (show X.A.in1.in1.frames=some X.stack from I.ok.frames),.inr ⟨rfl,rfl⟩,fun b z=>absurd z (noA b),I.bs,le_trans I.ok.bsz I.sz,fun b _ _=>noA b,fun b z=>absurd z (noA b),I.stack,I.stkFree⟩,
  I.os.symm ▸ rfl,I.bare,Un.kept hsb,⟨_,hn,fun i x v' e1 e2 e3=>?_⟩,fun x c e=>?_,hH,fun x c e=>I.freeC x c (cl e),fun p hp=>absurd (show p∈([]:List (Addr×Obj)) from hp) (by simp),I.hok.kept hsb,hl⟩
 ·have hx:scope.names.lookup x=some .cell∨scope.names.lookup x=some .free:=hx
  rcases hx with z|z
  ·exact absurd rfl (S.nocell _ (PySem.mem_of_lookup z))
  ·exact vB (.inl ⟨_,PySem.mem_of_lookup z,rfl,rfl⟩)
 ·have e1:N'[i]?=some x:=e1
  by_cases hi:i=0
  ·subst hi
   rw[hN] at e1;cases e1
   rw[h0] at e2;cases e2
   exact⟨u,rv,.inl ⟨hp,by simp[List.lookup]⟩⟩
  ·obtain⟨x',j,e4,e5,e6,e9⟩:=hσ i v' hi e2
   have hy:=PySem.mem_of_lookup e9
   rw[e1] at e4;cases e4
   have kd:=S.free _ hy rfl
   obtain⟨m,hm,hl⟩:=I.loc
   obtain⟨u',ru,lk⟩:=hl j x v' e5 e6 (kd.elim (fun z=>.inr (.inl z)) fun z=>.inr (.inr z))
   refine⟨u',ru,?_⟩
   rcases lk with ⟨z,_⟩|⟨z,c,hc,hcell⟩
   ·rcases kd with k|k <;> rw[k] at z <;> cases z
   ·obtain⟨c',hc'⟩:=vB (env:=X.env) (names:=scope.names) (cs:=[]) (x:=x) (.inl ⟨_,hy,rfl,rfl⟩)
    have:=cl hc'
    rw[hc] at this;cases this
    exact .inr ⟨.inr e9,c,hc',kept hcell⟩
 ·obtain⟨v,z⟩:=I.cell x c (cl e)
  exact⟨v,kept z⟩
noncomputable def GM(idx:List Nat)(fb:FE)(τ:DS)(d:D):Rs D:=fb ((vH 1 idx τ).set 0 (some (.val d)))
theorem TZ{f c':Addr}{qual p:Str}{params:Arguments}{body:Expr}{pm ctv u:Value}{v:V}{d dk:D}{fr:List Str}{idx:List Nat}{fb:FE}{Q:VK}(S:xP X scope)(hr:Room 3 X.A)(hfr:FreeOk scope X.N fr idx)(hp:scope.names.lookup p=some .local)
  (hco:scope.isCoroutine=false) (hgen:scope.isGenerator=false) (hbind:∀(pm cd ct:Value) (cl:List (Str×Addr)) (u:Value),bindArgs (kla_fn "<lambda>" qual params body scope cl pm cd ct) ⟨[u],[]⟩=pure [(p,u)])
  (hb:∀s H f cd,PDE (X.lam scope (p::fr) s H qual f cd) body fb)
  (I:Inv X pins σ H s) (R:RV X.K F τ σ H) (ho:s.heap.get? f=some (kla_obj "<lambda>" qual params body scope (y7 scope X.env) pm c' ctv)) (hc:H c'=some (.ext (XO c' qual))) (rd:Rep X.K F d v) (ru:RelV v u) (hk:GM idx fb τ d=.ok dk)
  (hQ:∀kv F1 H1,Ext F H F1 H1→Rep X.K F1 dk kv→Q kv H1):wpAny (model X.prog X.w) X.A.in1.in1 (call (.ref f) [u]) (EP X pins σ Q) (fun _ _=>False) s:=by
 have hcd:s.heap.CodeRec (.ref c') qual:=(I.hok c' _ hc).1
 refine wpAny_call (kla_callFunE (args:=⟨[u],[]⟩) (hr.in1.in1).depth ho rfl hco hgen rfl hcd ?_)
 rw[hbind]
 refine wpAny_pure (wpAny_newFunctionEnv S.nocell (fun y hy=>?_) (fun h1 hns hsb=>⟨(I.mod.nolimit.keeps I.bk).fresh _ hsb,?_⟩) S.kind)
 ·have:y=(p,u):=by simpa using hy
  subst this;exact hp
 have keep3:∀b o,s.heap.get? b=some o→h1.get? b=some o:=fun b o e=>hsb.extBut b o (ne_of_lt (Heap.lt_size e)) (get?_push_of_some _ e)
 show codeAny _ _ (.expr body (envX qual scope s.heap.objs.size f (.ref c') (y7 scope X.env))) _ _
 have hlen:(vo 1 idx σ).length=(p::fr).length:=by simp[vo,hfr.len]
 have hl0:0<(vo 1 idx σ).length:=by rw[hlen];simp
 have J:Inv (X.lam scope (p::fr) s H qual f (.ref c')) [] ((vo 1 idx σ).set 0 (some v)) H { s with heap:=h1,toks:=s.toks+([(p,u)]:List (Str×Value)).length }:=
  zg8 S hr.hd I hp rfl ru hns keep3 (by rw[length_set];exact hlen) (by rw[getElem?_set_self hl0]) fun i v' hi e=>by
   rw[getElem?_set_ne (Ne.symm hi)] at e
   exact je (tn:=[p]) hfr σ i v' e
 refine kla_codeExpr (wpAny_mono (hb s H f (.ref c') [] _ _ H (fun kv H1=>∃F1,Ext F H F1 H1∧Rep X.K F1 dk kv) J ⟨F,(vH 1 idx τ).set 0 (some (.val d)),(WS 1 idx R).set rd,?_⟩) (fun w s5 h5=>?_) fun _ _ z=>z.elim)
 ·have hk:fb ((vH 1 idx τ).set 0 (some (.val d)))=.ok dk:=hk
  rw[hk]
  exact fun kv F1 H1 x r=>⟨F1,x,r⟩
 ·obtain⟨kv,H5,I5,r5,F5,x5,rk⟩:=h5
  exact⟨kv,H5,I.call' (ch:=[]) I5.os I5.base I5.hok I5.bare (fun b z=>absurd z (by simp)),r5,hQ kv F5 H5 x5 rk⟩
end
open PySem.W
noncomputable def TabsU:Prop:=∀r∈Tabs.rows,∀r'∈Tabs.rows,r.1=r'.1→r=r'
theorem Xj{α β:Type}{f:α→β}:∀{l:List α},(l.map f).Nodup→∀r∈l,∀r'∈l,f r=f r'→r=r'
 |[],_,_,h,_,_,_=>by cases h
 |a::l,nd,r,h,r',h',e=>by
  rw[map_cons,nodup_cons] at nd
  rcases mem_cons.mp h with z|z
  ·rcases mem_cons.mp h' with z' | z'
   ·rw[z,z']
   ·rw[z] at e
    exact absurd (mem_map.mpr ⟨r',z',e.symm⟩) nd.1
  ·rcases mem_cons.mp h' with z' | z'
   ·rw[z'] at e
    exact absurd (mem_map.mpr ⟨r,z,e⟩) nd.1
   ·exact Xj nd.2 r z r' z' e
theorem TabsU.of(h:(Tabs.rows.map (·.1)).Nodup):TabsU:=Xj h
section
variable{X:Cx}{scope:Scope}{pins:List (Addr×Obj)}{σ:St}{F H:Hp}{τ:DS}{s:Shared}
theorem TY{params:Arguments}{body:Expr}{lpos:Pos}{P c:Addr}{E:Value→Shared→Prop}{Q:Value→Shared→Prop}(tu:TabsU)(S:xP X scope)(bm:BM X.mg X.base)(hcode:X.env.code=.ref c)(hcd:codeHdIn X.K c P=true)(hrow:(P,lpos.line,lpos.col,X.env.qual ++ "<lambda>")∈Tabs.rows)
  (hdef:defaultsOf params X.env=([],[])) (I:Inv X pins σ H s) (fh:Same F H) (tt:TbT F H)
  (h:∀(f c':Addr) (pm ctv:Value) (H':Hp) (s':Shared),Inv X (pins++[(f,kla_obj "<lambda>" (X.env.qual ++ "<lambda>") params body scope (y7 scope X.env) pm c' ctv)]) σ H' s'→Ext F H F H'→H' c'=some (.ext (XO c' (X.env.qual ++ "<lambda>")))→Q (.ref f) s') :
  wpAny (model X.prog X.w) X.A (eval (.Lambda params body scope lpos) X.env) Q E s:=by
 obtain⟨bma,ob,b1,b2,b3,b4,b5,b6⟩:=bm
 obtain⟨b3,bH⟩:=I.bs _ _ b3
 have hgs:s.heap.Ns mainGlobals X.mg:=I.mod.glob.keeps I.bk
 have C:CodeHd s.heap c P:=codeHd_of_K (I.mod.kin.keeps I.bk) hcd
 have hcl:closureFor scope X.env=pure (y7 scope X.env):=wZ fun y hy e=>by
  obtain⟨c,hc⟩:=I.ok.has _ (S.free y hy e)
  rw[hc];rfl
 have hbG:bma≠mainGlobals:=fun q=>by
  obtain⟨o,es,ep,e,hd,_⟩:=hgs
  rw[← q,b3] at e;cases e;rw[b6] at hd;cases hd
 obtain⟨tF,tt0⟩:=tt.1 _ hrow
 have hPs:∃ps,H P=some (.tbl ps):=by
  rcases tt0 with e|⟨c',e,_⟩
  ·exact⟨_,e⟩
  ·exact⟨_,e⟩
 obtain⟨ps0,hP0⟩:=hPs
 have hbP:bma≠P:=fun q=>by rw[q,hP0] at bH;cases bH
 have B:s.heap.BuiltinsAt X.mg P:=⟨bma,ob,b1,b2,hbG,hbP,b3,b4,b5,b6⟩
 refine kla_eval hdef ?_
 rcases tt0 with e|⟨c',e,ec⟩
 ·-- the first time
  have e:H P=some (.tbl #[]):=e
  have hP:s.heap.get? P=some (tabObj #[]):=I.hok P _ e
  have hgP:mainGlobals≠P:=fun q=>by
   obtain⟨o,es,ep,e',hd,_⟩:=hgs
   rw[q,hP] at e';cases e';cases hd
  refine kla_makeFunction (mg:=X.mg) hcl I.ok.glob hgs hcode C hP trivial rfl hgP B fun c' ctv h' tk hx hge hlt hrec htb=>?_
  have hc0:H c'=none:=I.hok.fresh hge
  have hPc:P≠c':=fun z=>by rw[z,hc0] at e;cases e
  have hsz:s.heap.objs.size≤h'.objs.size:=le_trans hge (le_of_lt hlt)
  have htb:h'.get? P=some (tabObj #[rawInt lpos.line,rawInt lpos.col,.ref c']):=by simpa using htb
  let H':Hp:=upd (upd H P (.tbl #[rawInt lpos.line,rawInt lpos.col,.ref c'])) c' (.ext (XO c' (X.env.qual ++ "<lambda>")))
  have hne:∀b,b≠P→b≠c'→H' b=H b:=fun b z1 z2=>by show upd (upd H P _) c' _ b=H b;rw[zo z2,zo z1]
  have hP':H' P=some (.tbl #[rawInt lpos.line,rawInt lpos.col,.ref c']):=by show upd (upd H P _) c' _ P=_;rw[zo hPc,zv]
  have hc':H' c'=some (.ext (XO c' (X.env.qual ++ "<lambda>"))):=zv
  let fo:Obj:=kla_obj "<lambda>" (X.env.qual ++ "<lambda>") params body scope (y7 scope X.env) ((X.mg "__name__").getD .none) c' ctv
  have kp:∀b o,b≠P→s.heap.get? b=some o→(h'.push fo).get? b=some o:=fun b o z q=>get?_push_of_some _ (hx b o z q)
  have nc:∀b o,s.heap.get? b=some o→b≠c':=fun b o q=>ne_of_lt (lt_of_lt_of_le (Heap.lt_size q) hge)
  have nP:∀b,H b=none→b≠P:=fun b q z=>by rw[z,e] at q;cases q
  have J:Inv X pins σ H' { s with heap:=h'.push fo,toks:=tk }:=by
   refine I.un (t':=tk) ⟨fun b o q n _ _=>kp b o (nP b n) q,fun b o q n _ _=>⟨o.slots,kp b o (nP b n) q⟩,fun b o q n _=>by rw[hne b (nP b n) (nc b o q)];exact n,fun b o q _=>?_,fun b xs q=>?_,fun b o u q=>?_,fun b ps q=>?_⟩ fun b u q=>?_
   ·by_cases z:b=P
    ·subst z;exact⟨_,get?_push_of_some _ htb⟩
    ·exact⟨o,kp b o z q⟩
   ·rw[hne b (fun z=>by rw[z,e] at q;cases q) (fun z=>by rw[z,hc0] at q;cases q)];exact q
   ·rw[hne b (fun z=>by rw[z,e] at q;cases q) (fun z=>by rw[z,hc0] at q;cases q)];exact q
   ·by_cases z:b=P
    ·subst z
     rw[e] at q;cases q
     exact⟨#[rawInt lpos.line,rawInt lpos.col,.ref c'],by rw[hP'];simp⟩
    ·exact⟨#[],by rw[hne b z (fun z=>by rw[z,hc0] at q;cases q),q];simp⟩
   ·by_cases z2:b=c'
    ·subst z2
     rw[hc'] at q;cases q
     have hr2:(h'.push fo).CodeRec (.ref b) (X.env.qual ++ "<lambda>"):=by
      obtain⟨c2,oc,vs,t,g1,g2,g3,g4⟩:=hrec
      exact⟨c2,oc,vs,t,g1,get?_push_of_some _ g2,g3,g4⟩
     refine⟨hr2,?_,fun h1 h2 g k=>?_⟩
     ·obtain⟨c2,oc,vs,t,g1,g2,g3,g4⟩:=hr2
      cases g1
      exact⟨oc,g2⟩
     ·obtain⟨c2,oc,vs,t,g1,g2,g3,g4⟩:=g
      cases g1
      exact⟨_,oc,vs,t,rfl,k _ g2,g3,g4⟩
    ·by_cases z:b=P
     ·subst z
      rw[hP'] at q;cases q
      exact get?_push_of_some _ htb
     ·rw[hne b z z2] at q
      refine(I.hok b u q).stay (fun d v hd qd=>kp d v ?_ qd) (fun d qd=>?_) fun d xs qd=>?_
      ·rcases hd with y|y
       ·rw[y];exact z
       ·exact fun y'=>by rw[y',e] at y;cases y
      ·rw[hne d (fun y=>by rw[y,e] at qd;cases qd) (fun y=>by rw[y,hc0] at qd;cases qd)];exact qd
      ·rw[hne d (fun y=>by rw[y,e] at qd;cases qd) (fun y=>by rw[y,hc0] at qd;cases qd)];exact qd
  have hfz:s.heap.objs.size≤h'.objs.size:=hsz
  have nf:H' h'.objs.size=none:=by
   rw[hne _ (ne_of_gt (lt_of_lt_of_le (Heap.lt_size hP) hfz)) (ne_of_gt hlt)]
   exact I.hok.fresh hfz
  refine h h'.objs.size c' ((X.mg "__name__").getD .none) ctv H' _ (J.pins_of fun q hq=>?_) ⟨Same.refl F,fun b o q=>?_,fun b o q=>?_,fun _ _ q=>.inl q,fun t=>⟨fun r hr=>?_,fun d b q=>?_⟩⟩ hc'
  ·rcases mem_append.mp hq with hq|hq
   ·exact J.pin q (mem_append_right _ hq)
   ·have:q=(h'.objs.size,fo):=by simpa using hq
    subst this
    exact⟨Heap.get?_push_size _ rfl,nf,(ne_of_lt (lt_of_lt_of_le I.lt hfz)).symm,I.nofs hfz,fun v z=>nomatch z⟩
  ·by_cases z:b=P
   ·subst z;rw[e] at q;cases q;exact⟨_,hP'⟩
   ·exact .of (by rw[hne b z (fun z=>by rw[z,hc0] at q;cases q)];exact q)
  ·have q':=fh b o q
   rw[hne b (fun z=>by rw[z,show F P=none from tF] at q;cases q) (fun z=>by rw[z,hc0] at q';cases q')]
   exact q'
  ·by_cases z:r.1=P
   ·obtain rfl:=tu r hr _ hrow z
    exact⟨tF,.inr ⟨c',hP',hc'⟩⟩
   ·obtain⟨t1,t2⟩:=t.1 r hr
    refine⟨t1,?_⟩
    rcases t2 with q|⟨c2,q,q2⟩
    ·exact .inl (by rw[hne _ z (fun z=>by rw[z,hc0] at q;cases q)];exact q)
    ·exact .inr ⟨c2,by rw[hne _ z (fun z=>by rw[z,hc0] at q;cases q)];exact q,by rw[hne _ (fun z=>by rw[z,e] at q2;cases q2) (fun z=>by rw[z,hc0] at q2;cases q2)];exact q2⟩
  ·have q:H d=some (.own b):=by
    by_cases z2:d=c'
    ·rw[z2,hc'] at q;cases q
    ·by_cases z:d=P
     ·rw[z,hP'] at q;cases q
     ·rw[hne d z z2] at q;exact q
   obtain⟨C,dx,vs,q2⟩:=t.2 d b q
   exact⟨C,dx,vs,by rw[hne b (fun z=>by rw[z,e] at q2;cases q2) (fun z=>by rw[z,hc0] at q2;cases q2)];exact q2⟩
 ·-- again
  have e:H P=some (.tbl #[rawInt lpos.line,rawInt lpos.col,.ref c']):=e
  have hP:s.heap.get? P=some (tabObj #[rawInt lpos.line,rawInt lpos.col,.ref c']):=I.hok P _ e
  refine kla_makeFunctionHit (mg:=X.mg) (cv:=.ref c') hcl I.ok.glob hgs hcode C hP trivial (codeAmong_snoc (c:=.ref c') [] trivial rfl) B fun ctv h' tk hk hsz=>?_
  let fo:Obj:=kla_obj "<lambda>" (X.env.qual ++ "<lambda>") params body scope (y7 scope X.env) ((X.mg "__name__").getD .none) c' ctv
  have J:Inv X pins σ H { s with heap:=h'.push fo,toks:=tk }:=I.kept (t':=tk) fun b u q=>get?_push_of_some _ (hk b u q)
  refine h h'.objs.size c' ((X.mg "__name__").getD .none) ctv H _ (J.pins_of fun q hq=>?_) (Ext.refl fh) ec
  rcases mem_append.mp hq with hq|hq
  ·exact J.pin q (mem_append_right _ hq)
  ·have:q=(h'.objs.size,fo):=by simpa using hq
   subst this
   exact⟨Heap.get?_push_size _ rfl,I.hok.fresh hsz,(ne_of_lt (lt_of_lt_of_le I.lt hsz)).symm,I.nofs hsz,fun v z=>nomatch z⟩
noncomputable def vq(idx:List Nat)(fb:FE)(τ:DS):List D→Rs (List D)
 |[]=>.ok []
 |d::r=>match GM idx fb τ d with
  |.ok k=>match vq idx fb τ r with
   |.ok ks=>.ok (k::ks)
   |_=>.no
  |_=>.no
theorem Z7{idx:List Nat}{fb:FE}{τ:DS}:∀{ds ks:List D},vq idx fb τ ds=.ok ks→ks.length=ds.length∧∀(i:Nat) (d k:D),ds[i]?=some d→ks[i]?=some k→GM idx fb τ d=.ok k
 |[],ks,h=>by cases h;exact⟨rfl,fun i d k e=>by simp at e⟩
 |d::r,ks,h=>by
  unfold vq at h
  cases q:GM idx fb τ d with
  |no=>rw[q] at h;cases h
  |ex c=>rw[q] at h;cases h
  |ok k=>
   rw[q] at h
   simp only at h
   cases q2:vq idx fb τ r with
   |no=>rw[q2] at h;cases h
   |ex c=>rw[q2] at h;cases h
   |ok ks'=>
    rw[q2] at h;cases h
    obtain⟨l,g⟩:=Z7 q2
    refine⟨by simp[l],fun i d' k' e1 e2=>?_⟩
    cases i with
    |zero=>simp at e1 e2;subst e1;subst e2;exact q
    |succ i=>exact g i d' k' (by simpa using e1) (by simpa using e2)
noncomputable def uJ(ks ds:List D):Rs D:=match Z8 ks with
 |some kz=>if ds.length<64∧kz.Nodup∧(∀k∈kz,k≠[]) then .ok (.lst ((we (kz.zip ds)).map (·.2))) else .no
 |none=>.no
noncomputable def XI(idx:List Nat)(fe fb:FE):FE:=fun τ=>(fe τ).bind fun d=>match d with
 |.lst ds=>match vq idx fb τ ds with
  |.ok ks=>uJ ks ds
  |_=>.no
 |_=>.no
theorem Wi{X:Cx}{ks ds:List D}{P:D→Prop}(h:Ok X (uJ ks ds) P):∃kz:List (List Int),ks=kz.map (fun k=>D.tup (k.map D.int))∧ds.length<64∧kz.Nodup∧(∀k∈kz,k≠[])∧P (.lst ((we (kz.zip ds)).map (·.2))):=by
 unfold uJ at h
 cases q:Z8 ks with
 |none=>rw[q] at h;exact h.elim
 |some kz=>
  rw[q] at h
  simp only at h
  by_cases z:ds.length<64∧kz.Nodup∧(∀k∈kz,k≠[])
  ·rw[if_pos z] at h
   exact⟨kz,Ui q,z.1,z.2.1,z.2.2,h⟩
  ·rw[if_neg z] at h;exact h.elim
theorem Gn{x p:Str}{pp pos lpos kp:Pos}{e body:Expr}{params:Arguments}{fr:List Str}{idx:List Nat}{fe fb:FE}{P c:Addr}(hg:Gl X x)(hm:X.mg x=none)(hv:bootBuiltins x=some (.builtin "sorted"))(he:PDE X e fe)
  (hr:Room 3 X.A) (tu:TabsU) (bm:BM X.mg X.base) (hcode:X.env.code=.ref c) (hcd:codeHdIn X.K c P=true) (hrow:(P,lpos.line,lpos.col,X.env.qual ++ "<lambda>")∈Tabs.rows)
  (hsc:uu X.env.scope scope=true) (hfr:FreeOk scope X.N fr idx) (hp:scope.names.lookup p=some .local) (hco:scope.isCoroutine=false) (hgen:scope.isGenerator=false)
  (hbind:∀(pm cd ct:Value) (cl:List (Str×Addr)) (u:Value),bindArgs (kla_fn "<lambda>" (X.env.qual ++ "<lambda>") params body scope cl pm cd ct) ⟨[u],[]⟩=pure [(p,u)])
  (hb:∀s H f cd,PDE (X.lam scope (p::fr) s H (X.env.qual ++ "<lambda>") f cd) body fb) (hdef:defaultsOf params X.env=([],[]):=by rfl)
  (hn:x ≠ "__name__" := by decide) (hdb:(x==("__debug__" : Str))=false:=by decide) (h1:starEach [e] X.env=(false,eval e X.env)::starEach [] X.env:=by rfl) :
  PDE X (.Call (.Name x pp) [e] [⟨some "key", .Lambda params body scope lpos,kp⟩] pos) (XI idx fe fb):=by
 rintro pins s σ H Q I ⟨F,τ,R,hq⟩
 have S:xP X scope:=wJ hsc
 refine wpAny_Call_Name_kw (wS I hg hm hv ?_ hn hdb)
 refine callWith_kw ?_ (by rw[h1];rfl) (by rw[h1];rfl)
 have hqb:=hq.bind
 have ha:PDA X [e] (za fe zh):=zd he zi (by rw[h1])
 refine thn (ha pos pins s σ H (fun vs H1=>∃F1 d v,vs=[v]∧Ext F H F1 H1∧Rep X.K F1 d v∧fe τ=.ok d) I ⟨F,τ,R,?_⟩) fun us s1 hA=>?_
 ·unfold za zh
  cases z:fe τ with
  |no=>rw[z] at hqb;exact hqb.elim
  |ex cc=>rw[z] at hqb;exact hqb
  |ok d=>
   intro vs F1 H1 x1 rr
   obtain⟨v,rfl,rd⟩:=Reps.one rr
   exact⟨F1,d,v,rfl,x1,rd,rfl⟩
 obtain⟨vs,H1,I1,rvs,F1,d,v,rfl,x1,rd,ed⟩:=hA
 obtain⟨u,rfl,ru⟩:=Vals.one rvs
 rw[ed] at hqb
 have hqb:Ok X (match d with
  |.lst ds=>match vq idx fb τ ds with
   |.ok ks=>uJ ks ds
   |_=>.no
  |_=>.no) (Ev X.K F H Q):=hqb
 cases d with
 |lst ds=>
  simp only at hqb
  cases z:vq idx fb τ ds with
  |no=>rw[z] at hqb;exact hqb.elim
  |ex cc=>rw[z] at hqb;exact hqb.elim
  |ok ks=>
   rw[z] at hqb
   obtain⟨kz,ek,h64,nd,ne,hq⟩:=Wi (X:=X) hqb
   obtain⟨lk,hkeys⟩:=Z7 z
   simp only[Rep] at rd
   obtain⟨l,ws,rfl,hF1,rs⟩:=rd
   obtain rfl:u=Value.ref l:=ru
   refine kws_cons ?_
   refine TY (P:=P) (c:=c) tu S bm hcode hcd hrow hdef I1 x1.fh (x1.tt R.tt) fun f c' pm ctv H2 s2 I2 x2 hc2=>?_
   refine kws_nil ?_
   have R2:RV X.K F1 τ σ H2:=(R.ext x1).ext x2
   refine wpAny_mono (U0 (E:=X.xe) (Q:=Q) (F:=F1) (kz:=kz) I2 x2.fh hF1 rs h64 (by rw[← lk,ek,length_map]) nd ne (fun i d k hd hk pins' s' F' H' v u Q' I' hpin x' rd' ru' hQ'=>?_) fun Da F' H' x' r'=>?_) (fun w s3 ⟨v3,H3,I3,r3,q3⟩=>⟨v3,H3,I3.pins_of fun q hq=>I3.pin q (mem_append_right _ (mem_append_left _ hq)),r3,q3⟩) fun _ _ z=>z
   ·refine TZ S hr hfr hp hco hgen hbind hb I' (R2.ext x') (I'.pin _ (mem_append_right _ (hpin _ (mem_append_right _ (mem_singleton.mpr rfl))))).1 (x'.hh _ _ hc2) rd' ru' (hkeys i d _ hd ?_) hQ'
    rw[ek,getElem?_map,hk];rfl
   ·exact hq _ F' H' ((x1.trans x2).trans x') r'
 |_=>exact hqb.elim
end
section
variable{prog:Program}{w:World}{A:Around}{R:Result→Shared→Prop}{E:Value→Shared→Prop}{I S:Addr}{fp wr:List Addr}{n:Nat}{P:Nat→Value→Prop}{St:Nat→Heap→Prop}{kw:List (Str×Value)}
end
variable[Tabs]
section
variable{X:Cx}{pos pp kp:Pos}{e e2:Expr}{fe f2:FE}
end
section
variable{K:Frag}{B Z F H:Hp}{τ:DS}{σ:St}
end
section
variable{X:Cx}{pos:Pos}{e tg:Expr}{st:Stmt}{ss:List Stmt}{fe:FE}{fs:FA}{f:FS}
noncomputable def scal:D→Bool
 |.non=>true
 |.bl _=>true
 |.int _=>true
 |.str _=>true
 |_=>false
noncomputable def YQ:D→Option (D×D×D)
 |.tup [x,y,z]=>some (x,y,z)
 |_=>none
theorem Mt{d x y z:D}(h:YQ d=some (x,y,z)):d=.tup [x,y,z]:=by
 unfold YQ at h
 split at h
 ·cases h;rfl
 ·cases h
noncomputable def gTr(i j k:Nat):FG:=fun d τ=>match YQ d with
 | some (x,y,z)=>.ok (((τ.set i (some (.val x))).set j (some (.val y))).set k (some (.val z)))
 |none=>.no
theorem M7{i j l k:Nat}{x y z:Str}{px py pz:Pos}(hc:X.calm=true)(hN:X.N.Nodup)(hi:X.N[i]?=some x)(hx:Loc X.env.scope x)(hj:X.N[j]?=some y)(hy:Loc X.env.scope y)(hl:X.N[l]?=some z)(hz:Loc X.env.scope z)
  (hf:X.fn x=true∨X.env.scope.names.lookup x=some .local:=by first|exact .inl rfl|exact .inr rfl|assumption) (hf':X.fn y=true∨X.env.scope.names.lookup y=some .local:=by first|exact .inl rfl|exact .inr rfl|assumption) (hf'':X.fn z=true∨X.env.scope.names.lookup z=some .local:=by first|exact .inl rfl|exact .inr rfl|assumption) :
  PDG X (.Tuple [.Name x px,.Name y py,.Name z pz] k pos) (gTr i j l):=
 PG.imp (MZ (n:=3) hc (uO (vL hN hi hx hf) (uO (vL hN hj hy hf') (uO (vL hN hl hz hf'') Qb)))) fun v σ H Q z_=>by
  obtain⟨F,τ,d,R,r,h⟩:=z_
  unfold gTr at h
  cases q1:YQ d with
  |none=>rw[q1] at h;exact h.elim
  |some xyz=>
   obtain⟨x,y,z⟩:=xyz
   rw[q1] at h
   have e:=Mt q1
   subst e
   simp only[Rep] at r
   obtain⟨a,vs,rfl,q,t⟩:=r
   simp only[Reps] at t
   obtain⟨v1,w1,rfl,r1,v2,w2,rfl,r2,v3,w3,rfl,r3,rfl⟩:=t
   exact⟨a,_,rfl,Same.seqT R.fh q,rfl,v1,[v2,v3],rfl,v2,[v3],rfl,v3,[],rfl,rfl,h _ (((R.set r1).set r2).set r3) (fun B Z R'=>((R'.set r1).set r2).set r3) (by simp)⟩
theorem MH(i j k:Nat)(hij:i≠j)(hik:i≠k)(hjk:j≠k):Yf (gTr i j k):=⟨fun d e τ τ1 h=>by
 unfold gTr at h ⊢
 cases q:YQ e with
 |none=>rw[q] at h;cases h
 |some xyz=>
  obtain⟨x,y,z⟩:=xyz
  rw[q] at h;cases h
  cases q2:YQ d with
  |none=>rfl
  |some w=>
   obtain⟨a,b,c⟩:=w
   simp only
   congr 1
   apply List.ext_getElem?
   intro m
   simp only[getElem?_set,length_set]
   repeat' split
   all_goals first|rfl|lia,fun d τ τ1 h n=>by
 unfold gTr at h
 cases q:YQ d with
 |none=>rw[q] at h;cases h
 |some xyz=>
  obtain⟨x,y,z⟩:=xyz
  rw[q] at h;cases h
  exact vv (vv (vv n))⟩
end
open PySem.W
noncomputable def ZD(a:Addr)(e1:Nat)(st:SortSt):Sem PySem.Fin:=do
 let srt:=(arrOf st).map (·.2)
 let touched:=(← seqEpoch a) != e1
 Builtin.List.listUpdate (.ref a) (fun _=>srt)
 if let some e:=failedOf st then rule "list.sort.comparison-raised"; (throw e)
 if touched then rule "list.sort.modified"; (raiseError "ValueError" "list modified during sort")
 ret .none
section
variable{X:Cx}{pins:List (Addr×Obj)}{σ:St}{F H:Hp}{τ:DS}{s:Shared}{Q:VK}{E:Value→Shared→Prop}
theorem Q5{l:Addr}{vs:List V}{kz:List (List Int)}(I:Inv X pins σ H s)(fh:Same F H)(hl:F l=some (.lst vs))(rs:Reps X.K F (kz.map fun k=>D.tup (k.map D.int)) vs)(h64:kz.length<64)(nd:kz.Nodup)(ne:∀k∈kz,k≠[])
  (hQ:∀Da F' H',Ext F H F' H'→Rep X.K F' (.lst ((we (kz.zip (kz.map fun k=>D.tup (k.map D.int)))).map (·.2))) (.ref Da)→Q (.ref Da) H') :
  wpAny (model X.prog X.w) X.A (call (.builtin "sorted") [.ref l]) (EP X pins σ Q) E s:=by
 obtain⟨us,rv,⟨o,nn,eo,hc,hd0,hd⟩,hz⟩:=I.list (SqL.of (K:=X.K) (fh _ _ hl))
 have hil:s.heap.IsList l us.toArray:=⟨o,eo,hc,nn,hd⟩
 have l0:kz.length=us.length:=by rw[← rv.length,← rs.length,length_map]
 have l1:(kz.map fun k=>D.tup (k.map D.int)).length=us.length:=by rw[length_map];exact l0
 have sz:us.length≤sizeLine:=le_of_lt (yS (by lia))
 refine Calls.call_function_entry kind_sorted plain_sorted entry_sorted (args_sorted1 _) ?_
 unfold Builtin.«sorted»
 refine wpAny_bind (m:=checkCount "sorted" 1 1 _) (wpAny_pure ?_);refine wpAny_bind (collect_list hil ?_ sz);refine wpAny_bind (wpAny_newList ?_ sz)
 have keep1:∀b u,s.heap.get? b=some u→((s.heap.push (seqObj "list" #[] 0)).update s.heap.objs.size (Obj.mapSeq (· ++ us.toArray))).get? b=some u:=fun b u q=>by
  have hb:b<s.heap.objs.size:=Heap.lt_size q
  rw[Heap.get?_update_ne _ _ _ _ (ne_of_lt hb),Heap.get?_push_ne _ _ _ (ne_of_lt hb)];exact q
 have size1:s.heap.objs.size≤((s.heap.push (seqObj "list" #[] 0)).update s.heap.objs.size (Obj.mapSeq (· ++ us.toArray))).objs.size:=by rw[Heap.size_update,size_push'];lia
 generalize hh1:(s.heap.push (seqObj "list" #[] 0)).update s.heap.objs.size (Obj.mapSeq (· ++ us.toArray))=h1 at keep1 size1
 have hD:(h1.push (seqObj "list" us.toArray 0)).get? h1.objs.size=some (seqObj "list" us.toArray 0):=Heap.get?_push_size _ rfl
 have keep2:∀b u,s.heap.get? b=some u→(h1.push (seqObj "list" us.toArray 0)).get? b=some u:=fun b u q=>get?_push_of_some _ (keep1 b u q)
 generalize hDa:h1.objs.size=Da at hD size1
 have neD:∀b u,s.heap.get? b=some u→b≠Da:=fun b u q=>ne_of_lt (lt_of_lt_of_le (Heap.lt_size q) size1)
 generalize hh2:h1.push (seqObj "list" us.toArray 0)=h2 at hD keep2
 refine wpAny_bind (wpAny_holding (wpAny_call_entry (rest:=[]) slot_list_sort ⟨_,hD,rfl⟩ entry_list_sort ?_ (args_list_sort _)))
 rw[list_sort_plain Da]
 refine wpAny_bind (listItems_at hD rfl ?_);refine wpAny_bind (listUpdate_at hD rfl ?_ (by rw[size_toArray];exact sz) (zero_le _))
 have keep3:∀b u,s.heap.get? b=some u→(h2.update Da (Obj.mapSeq fun _=>(#[]:Array Value))).get? b=some u:=fun b u q=>by
  rw[Heap.get?_update_ne _ _ _ _ (neD b u q)];exact keep2 b u q
 obtain⟨e1,hD3⟩:∃e1,(h2.update Da (Obj.mapSeq fun _=>(#[]:Array Value))).get? Da=some (seqObj "list" #[] e1):=⟨_,get?_update_seq hD fun _=>#[]⟩
 generalize h2.update Da (Obj.mapSeq fun _=>(#[]:Array Value))=h3 at keep3 hD3
 refine wpAny_bind (seqEpoch_at hD3 rfl ?_);refine wpAny_bind (wpAny_newTuple ?_ (by show us.length≤sizeLine;exact sz));refine wpAny_bind (wpAny_newList ?_ (zero_le _))
 refine wpAny_holding ?_
 have hDa0:s.heap.objs.size≤Da:=size1
 have nH:H Da=none:=I.hok.fresh hDa0
 have neL:Da≠X.env.locals:=(ne_of_lt (lt_of_lt_of_le I.lt hDa0)).symm
 have pinD:∀q∈X.pn++pins,q.1≠Da:=fun q hq=>neD _ _ (I.pin q hq).1
 have cellD:∀x c,X.env.cells.lookup x=some c→c≠Da:=fun x c e=>by
  obtain⟨v,oc,hoc,_⟩:=I.cell x c e
  exact neD _ _ hoc
 have keep4:∀b u,h3.get? b=some u→((h3.push (seqObj "tuple" us.toArray 0)).push (seqObj "list" #[] 0)).get? b=some u:=fun b u q=>get?_push_of_some _ (get?_push_of_some _ q)
 have I1:Inv X pins σ H { s with heap:=(h3.push (seqObj "tuple" us.toArray 0)).push (seqObj "list" #[] 0) }:=I.kept (t':=s.toks) fun b u q=>keep4 _ _ (keep3 b u q)
 have I2:Inv X (pins++[(Da,seqObj "list" #[] e1)]) σ H { s with heap:=(h3.push (seqObj "tuple" us.toArray 0)).push (seqObj "list" #[] 0) }:=I1.pins_of fun q hq=>by
  rcases mem_append.mp hq with hq|hq
  ·exact I1.pin q (mem_append_right _ hq)
  ·have:q=(Da,seqObj "list" #[] e1):=by simpa using hq
   subst this
   exact⟨keep4 _ _ hD3,nH,neL,I.nofs hDa0,fun v z=>nomatch z⟩
 have h0D:X.s₀.heap.objs.size≤Da:=le_trans I.sz hDa0
 generalize (h3.push (seqObj "tuple" us.toArray 0)).push (seqObj "list" #[] 0)=h4 at I1 I2 keep4
 have eD:h4.get? Da=some (seqObj "list" #[] e1):=keep4 _ _ hD3
 try dsimp only
 have fin:∀(st:SortSt) (out:List Value) (ovs:List V),(arrOf st).map (·.2)=List.toArray out→failedOf st=none→out.length<64→Vals ovs out→Reps X.K F ((we (kz.zip (kz.map fun k=>D.tup (k.map D.int)))).map (·.2)) ovs →
   wpAny (model X.prog X.w) X.A.in1.in1 (ZD Da e1 st) (fun fin s'=>∃v,fin=.done (.ret v)∧wpAny (model X.prog X.w) X.A.in1 (ret (.ref Da)) (fun fin s'=>∃v,fin=.done (.ret v)∧EP X pins σ Q v s') E s') E { s with heap:=h4 }:=fun st out ovs hout hf hz r ro=>by
  unfold ZD
  try dsimp only
  refine wpAny_bind (seqEpoch_at eD rfl ?_)
  refine wpAny_bind (listUpdate_at eD rfl ?_ (zero_le _) (by rw[hout,size_toArray];exact le_trans (le_of_lt (yS (by lia))) (le_succ _)))
  rw[hf]
  simp only[bne_self_eq_false,Bool.false_eq_true,if_false]
  refine wpAny_pure ⟨_,rfl,wpAny_pure ⟨_,rfl,.ref Da,_,Inv.settle I2 rfl (ws:=out) hout r (by rw[r.length];exact le_of_lt (yS (by lia))) h0D cellD pinD,rfl,hQ Da (upd F Da (.lst ovs)) _ (Ext.new fh nH) ?_⟩⟩
  simp only[Rep]
  exact⟨Da,ovs,rfl,zv,ro.mono (yi (zY fh nH))⟩
 by_cases h2:us.length<2
 ·have h2':us.toArray.size<2:=by rw[size_toArray];exact h2
  rw[if_pos h2',if_pos h2']
  refine wpAny_bind (wpAny_pure ?_)
  rw[StateT.run_pure]
  refine wpAny_bind (wpAny_pure ?_)
  refine fin _ us vs ?_ rfl (by lia) rv ?_
  ·show((us.toArray.zip us.toArray).map (·.2))=us.toArray
   apply Array.toList_inj.mp
   rw[Array.toList_map,ksk_zip]
   exact List.map_snd_zip (by simp)
  ·rw[YU (by rw[length_map]) (by lia)];exact rs
 ·have h2':¬ us.toArray.size<2:=by rw[size_toArray];exact h2
  rw[if_neg h2',if_neg h2']
  have kt:=Jp I2 fh rs rv ne
  refine wpAny_bind (Wu kt (by lia) ?_)
  refine wpAny_bind (VN (Q:=fun st s'=>wpAny (model X.prog X.w) X.A.in1.in1 (ZD Da e1 st) (fun fin s'=>∃v,fin=.done (.ret v)∧wpAny (model X.prog X.w) X.A.in1 (ret (.ref Da)) (fun fin s'=>∃v,fin=.done (.ret v)∧EP X pins σ Q v s') E s') E s') kt rfl (by lia) (by lia) nd fun p st h3 h4 h5 h6=>?_)
  have hp:∀i∈p.toList,i<us.length:=fun i hi=>by simpa using h3.mem_iff.mp hi
  refine fin st _ (p.toList.map fun i=>vs.getD i .non) h5 h6 ?_ (Zx rv _ fun i hi=>by rw[rv.length];exact hp i hi) ?_
  ·rw[length_map,h3.length_eq,length_range];lia
  ·rw[← VG (q:=p) (d:=.non) (by rw[length_map]) nd (by rw[l1];exact h3) (by rw[l1];exact h4)]
   exact Reps.pick rs _ fun i hi=>by rw[l1];exact hp i hi
noncomputable def YV:List D→Rs D
 |[.lst ds]=>uJ ds ds
 |_=>.no
theorem LJ:Zw X (.builtin "sorted") YV:=⟨fun vs H Q=>∃(F:Hp) (l:Addr) (ws:List V) (kz:List (List Int)),vs=[.ref l]∧Same F H∧F l=some (.lst ws)∧Reps X.K F (kz.map fun k=>D.tup (k.map D.int)) ws∧kz.length<64∧kz.Nodup∧(∀k∈kz,k≠[]) ∧
  ∀Da F' H',Ext F H F' H'→Rep X.K F' (.lst ((we (kz.zip (kz.map fun k=>D.tup (k.map D.int)))).map (·.2))) (.ref Da)→Q (.ref Da) H',fun pins s σ H vs us Q I r ⟨F,l,ws,kz,e1,fh,hl,rs,h64,nd,ne,q⟩=>by
  subst e1
  obtain⟨u,rfl,r1⟩:=vals1 r
  cases r1
  exact Q5 I fh hl rs h64 nd ne q,fun F H vs ds Q fh r h=>by
  match ds,r,h with
  |[.lst ds],r,h=>
   obtain⟨v,rfl,r1⟩:=r.one
   obtain⟨kz,ek,h64,nd,ne,hq⟩:=Wi (X:=X) (show Ok X (uJ ds ds) _ from h)
   simp only[Rep] at r1
   obtain⟨l,ws,rfl,e1,t⟩:=r1
   subst ek
   exact⟨F,l,ws,kz,rfl,fh,e1,t,by simpa using h64,nd,ne,fun Da F' H' x rp=>hq _ F' H' x rp⟩
  |[],_,h=>exact h.elim
  |[.non],_,h=>exact h.elim
  |[.bl _],_,h=>exact h.elim
  |[.int _],_,h=>exact h.elim
  |[.str _],_,h=>exact h.elim
  |[.tup _],_,h=>exact h.elim
  |[.scr _],_,h=>exact h.elim
  |[.raw _],_,h=>exact h.elim
  |[.exc _],_,h=>exact h.elim
  |.non::_::_,_,h=>exact h.elim
  |.bl _::_::_,_,h=>exact h.elim
  |.int _::_::_,_,h=>exact h.elim
  |.str _::_::_,_,h=>exact h.elim
  |.lst _::_::_,_,h=>exact h.elim
  |.tup _::_::_,_,h=>exact h.elim
  |.scr _::_::_,_,h=>exact h.elim
  |.raw _::_::_,_,h=>exact h.elim
  |.exc _::_::_,_,h=>exact h.elim⟩
end
open PySem.W
structure JO(K:Frag)(mg:Str→Option Value)(x:Str)(st:Stmt)(f c T:Addr):Prop where
 ex:∃(oc:Value) (od:Option Addr) (kV doc pm:Value) (an:Option Addr) (ct:Value) (osl:Array (Option Value)),K.lookup f=some ⟨oc,od,.func (fnOf x x (zL st) (zC st) (zk st) .none kV doc pm an (.ref c) ct),osl⟩
 cd:codeIn K (.ref c) x=true
 kp:keepIn K (.ref f)=true
 at_:mg x=some (.ref f)
 tab:codeHdIn K c T=true
section
variable{P:Program}{w:World}{K:Frag}{mg:Str→Option Value}{base:Heap}
theorem DefOk.mkL{x:Str}{st:Stmt}{f c T:Addr}{N ps:List Str}{k n:Nat}{fb:FS}(D:JO K mg x st f c T)(S:zO N ps (zk st))(hn:ps.length=n)
  (hb:∀(kV doc pm:Value) (an:Option Addr) (cdv ct:Value) (us:List Value),us.length=ps.length→bindArgs (fnOf x x (zL st) (zC st) (zk st) .none kV doc pm an cdv ct) ⟨us,[]⟩=pure (ps.zip us))
  (hbody:∀(A:Around) (outer:List Env) (s:Shared) (H:Hp) (E:XK),Room k (A.deeper (envOfC x (zk st) s.heap.objs.size f (.ref c))) →
   ja (Ys CX0 P w K mg base N x (zk st) f (.ref c) A outer s H E).nox (zC st) fb):DefOk P w K mg base x (k+1) n ps (yC N.length fb):=by
 obtain⟨oc,od,kV,doc,pm,an,ct,osl,lk⟩:=D.ex
 refine⟨f,_,?_,.all (hb kV doc pm an (.ref c) ct),D.kp,D.at_⟩
 refine Lr lk D.cd S (fun vs H Q E h=>by rw[hn];exact h.1) fun A outer s H vs Q E hr h=>⟨_,(show PSs _ _ _ from hbody A outer s H E hr).nox,?_⟩
 obtain⟨hl,ds,Fz,fh,tt,r,h⟩:=h
 refine⟨H,Fz,Fz,zQ N.length ds,YZ fh tt r,?_⟩
 unfold yC at h
 cases q:fb (zQ N.length ds) with
 |nx τ=>rw[q] at h;exact fun σ F' H' ff RR=>h .non F' H' RR.out (by simp only[Rep])
 |rt d=>rw[q] at h;exact fun v F' H' x rr=>h v F' H' x rr
 |ro d τ=>rw[q] at h;exact fun v σ F' H' ff RR rr=>h v F' H' RR.out rr
 |rb d τ=>rw[q] at h;exact h.elim
 |bk τ=>rw[q] at h;exact h.elim
 |ct τ=>rw[q] at h;exact h.elim
 |ex c=>rw[q] at h;exact h.elim
 |no=>rw[q] at h;exact h.elim
 |rs c τ=>rw[q] at h;exact h.elim
end
section
variable{X:Cx}{pos:Pos}{e a b:Expr}{es:List Expr}{fe fa fb:FE}{fs:FA}
end
noncomputable def Xs:List D→Option (List Int)
 |[]=>some []
 |.int i::r=>(Xs r).map (i :: ·)
 |_::_=>none
omit [Tabs] in
theorem Vh:∀{ds:List D} {ns:List Int},Xs ds=some ns→ds=ns.map D.int
 |[],ns,h=>by cases h;rfl
 |.int i::r,ns,h=>by
  simp only[Xs] at h
  cases q:Xs r with
  |none=>rw[q] at h;cases h
  |some m=>rw[q] at h;cases h;rw[map_cons,← Vh q]
 |.non::r,ns,h=>by cases h
 |.bl _::r,ns,h=>by cases h
 |.str _::r,ns,h=>by cases h
 |.lst _::r,ns,h=>by cases h
 |.tup _::r,ns,h=>by cases h
 |.scr _::r,ns,h=>by cases h
 |.raw _::r,ns,h=>by cases h
 |.exc _::r,ns,h=>by cases h
omit [Tabs] in
theorem WA(ns:List Int):Xs (ns.map D.int)=some ns:=by
 induction ns with
 |nil=>rfl
 |cons n ns ih=>rw[map_cons,Xs,ih];rfl
omit [Tabs] in
theorem vals_ints:∀{vs:List Value} {ns:List Int},IntsAre vs ns→Vals (ns.map V.int) vs
 |_,_,.nil=>.nil
 |_,_,.cons n t r=>.cons ⟨t,rfl⟩ (vals_ints r)
noncomputable def TD:D→List D→Option (List Int×Int)
 |.lst xs,[.int k]=>(Xs xs).map (·,k)
 |_,_=>none
omit [Tabs] in
theorem zf7{d:D}{ds:List D}{ns:List Int}{k:Int}(h:TD d ds=some (ns,k)):d=.lst (ns.map D.int)∧ds=[.int k]:=by
 unfold TD at h
 split at h
 ·rename_i xs k'
  cases q:Xs xs with
  |none=>rw[q] at h;cases h
  |some b=>rw[q] at h;cases h;exact⟨by rw[Vh q],rfl⟩
 ·cases h
noncomputable def Jq(d:D)(ds:List D):Rs D:=match TD d ds with
 | some (ns,k)=>if k∈ns∧ns.length≤1000 then .ok (.int (ns.idxOf k:Nat)) else .no
 |none=>.no
noncomputable def Ju(a:Int):List Int→List Int
 |[]=>[a]
 |b::r=>if a≤b then a::b::r else b::Ju a r
noncomputable def ZA:List Int→List Int
 |[]=>[]
 |a::r=>Ju a (ZA r)
omit [Tabs] in
theorem ZN(a:Int):∀l,(Ju a l).Perm (a::l):=by
 intro l_
 induction l_ with
 |nil=>
  exact List.Perm.refl _
 |cons b r ih_=>
  unfold Ju
  split
  ·exact List.Perm.refl _
  ·exact((ih_).cons b).trans (List.Perm.swap a b r)
omit [Tabs] in
theorem jd:∀l,(ZA l).Perm l:=by
 intro l_
 induction l_ with
 |nil=>
  exact List.Perm.refl _
 |cons a r ih_=>
  exact(ZN a _).trans ((ih_).cons a)
omit [Tabs] in
theorem QD(a:Int):∀l:List Int,l.Pairwise (·≤·)→(Ju a l).Pairwise (·≤·):=by
 intro l_
 induction l_ with
 |nil=>
  rintro _
  simp[Ju]
 |cons b r ih_=>
  rintro h
  unfold Ju
  have h':=pairwise_cons.mp h
  split
  ·rename_i z
   refine pairwise_cons.mpr ⟨fun x hx=>?_,h⟩
   rcases mem_cons.mp hx with rfl|hx
   ·exact z
   ·exact Int.le_trans z (h'.1 x hx)
  ·rename_i z
   refine pairwise_cons.mpr ⟨fun x hx=>?_,ih_ h'.2⟩
   rcases mem_cons.mp ((ZN a r).mem_iff.mp hx) with rfl|hx
   ·lia
   ·exact h'.1 x hx
omit [Tabs] in
theorem WM:∀l:List Int,(ZA l).Pairwise (·≤·):=by
 intro l_
 induction l_ with
 |nil=>
  exact List.Pairwise.nil
 |cons a r ih_=>
  exact QD a _ (ih_)
omit [Tabs] in
theorem WK:∀{l m:List Int},l.Pairwise (·≤·)→m.Pairwise (·≤·)→l.Perm m→l=m
 |[],m,_,_,p=>by rw[List.nil_perm.mp p]
 |a::l,[],_,_,p=>by have:=p.length_eq;simp at this
 |a::l,b::m,h1,h2,p=>by
  have g1:=pairwise_cons.mp h1
  have g2:=pairwise_cons.mp h2
  have e:a=b:=by
   have ha:a∈b::m:=p.mem_iff.mp mem_cons_self
   have hb:b∈a::l:=p.mem_iff.mpr mem_cons_self
   have i1:b≤a:=by
    rcases mem_cons.mp ha with z|z
    ·exact Int.le_of_eq z.symm
    ·exact g2.1 a z
   have i2:a≤b:=by
    rcases mem_cons.mp hb with z|z
    ·exact Int.le_of_eq z.symm
    ·exact g1.1 b z
   lia
  subst e
  rw[WK g1.2 g2.2 p.cons_inv]
noncomputable def Q4:List D→Rs D
 |[.lst ds]=>match Xs ds with
  |some ns=>if ns.length<64 then .ok (.lst ((ZA ns).map D.int)) else .no
  |none=>.no
 |_=>.no
section
variable{X:Cx}{pins:List (Addr×Obj)}{σ:St}{F H:Hp}{s:Shared}{Q:VK}{E:Value→Shared→Prop}
theorem zr4:MtR X "list.index" (fun v vs H Q=>∃(l:Addr) (ws:List V) (F:Hp) (ns:List Int) (k:Int),v=.ref l∧vs=[.int k]∧H l=some (.lst ws)∧Reps X.K F (ns.map D.int) ws∧(k∈ns∧ns.length≤1000)∧Q (.int (ns.idxOf k:Nat)) H):=by
 rintro pins s σ H v vs u us Q I r rs ⟨l,ws,F,ns,k,e1,e2,e3,t,⟨hk,hz⟩,q⟩
 subst e1;subst e2
 cases r
 obtain⟨u',rfl,ru⟩:=vals1 rs
 obtain⟨tk,rfl⟩:=ru
 obtain⟨_,its,n,rv,eo⟩:=I.hok l _ e3
 have hi:IntsAre its ns:=uV t rv
 have hlen:=hi.length
 have hlt:ns.idxOf k<ns.length:=List.idxOf_lt_length_of_mem hk
 refine call_meets PySem.F.slot_list_index ⟨_,eo,rfl⟩ PySem.F.entry_list_index (PySem.F.args_list_index_2 _ _) (SeqAt.list_indexAt l its.toArray n none #[] (.int k tk) (isInt k) (ns.idxOf k) (by simpa[hlen] using hlt) (by lia) ?_ (fun m hm hlt'=>?_)) ⟨eo,fun y hy=>(eq_isInt k tk hi y (by simpa using hy)).at _ _,⟨.int _,H,I.tok _,⟨_,rfl⟩,q⟩⟩
 ·have z:ns.idxOf k<its.length:=by lia
  have:its.toArray[ns.idxOf k]'(by simpa using z)=its[ns.idxOf k]:=by simp
  rw[this,isInt_at k hi _ z hlt]
  simpa using List.getElem_idxOf hlt
 ·have z:m<its.length:=by simpa using hm
  have:its.toArray[m]'hm=its[m]:=by simp
  rw[this,isInt_at k hi m z (by lia)]
  exact ne_of_lt_idxOf hlt' _
theorem zr7:MtD X "list.index" Jq:=⟨_,zr4,fun F H v vs d ds Q fh r rs h=>by
 unfold Jq at h
 cases q:TD d ds with
 |none=>rw[q] at h;exact h.elim
 |some bk=>
  obtain⟨ns,k⟩:=bk
  rw[q] at h
  obtain⟨rfl,rfl⟩:=zf7 q
  simp only[Rep] at r
  obtain⟨l,ws,rfl,e,t⟩:=r
  obtain⟨w,rfl,e2⟩:=rs.one
  simp only[Rep] at e2;subst e2
  obtain⟨z,h⟩:=yz h
  exact⟨l,ws,F,ns,k,rfl,rfl,fh _ _ e,t,z,h _ F H (Ext.refl fh) (by simp only[Rep])⟩⟩
theorem U1{l:Addr}{vs:List V}{ns:List Int}(I:Inv X pins σ H s)(fh:Same F H)(hl:F l=some (.lst vs))(rs:Reps X.K F (ns.map D.int) vs)(h64:ns.length<64)
  (hQ:∀Da F' H',Ext F H F' H'→Rep X.K F' (.lst ((ZA ns).map D.int)) (.ref Da)→Q (.ref Da) H') :
  wpAny (model X.prog X.w) X.A (call (.builtin "sorted") [.ref l]) (EP X pins σ Q) E s:=by
 obtain⟨us,rv,⟨o,nn,eo,hc,hd0,hd⟩,hz⟩:=I.list (SqL.of (K:=X.K) (fh _ _ hl))
 have hi:IntsAre us ns:=uV rs rv
 refine sorted_ints (vs:=us) ⟨o,eo,hc,nn,hd⟩ hi (by have:=hi.length;lia) fun out ns' a1 a2 a3=>?_
 obtain⟨e,he⟩:=sortedAll_at s.heap us out
 have en:ns'=ZA ns:=WK a3 (WM ns) (a2.trans (jd ns).symm)
 subst en
 have hp:s.heap.objs.size≤s.heap.objs.size+1:=le_succ _
 have nH:H (s.heap.objs.size+1)=none:=I.hok.fresh hp
 have ll:((ZA ns).map V.int).length≤sizeLine:=by
  rw[length_map,(jd ns).length_eq]
  exact le_of_lt (yS (by lia))
 refine⟨.ref (s.heap.objs.size+1),_,I.laid (t':=s.toks) (o:=.lst ((ZA ns).map V.int)) (fun b u q=>sortedAll_old q) hp ⟨ll,out.toList,e,vals_ints a1,by rw[Array.toArray_toList];exact he⟩,rfl,hQ _ (upd F (s.heap.objs.size+1) (.lst ((ZA ns).map V.int))) _ (Ext.new fh nH) ?_⟩
 simp only[Rep]
 exact⟨_,_,rfl,zv,Reps.ints _⟩
theorem LK:Zw X (.builtin "sorted") Q4:=⟨fun vs H Q=>∃(F:Hp) (l:Addr) (ws:List V) (ns:List Int),vs=[.ref l]∧Same F H∧F l=some (.lst ws)∧Reps X.K F (ns.map D.int) ws∧ns.length<64 ∧
  ∀Da F' H',Ext F H F' H'→Rep X.K F' (.lst ((ZA ns).map D.int)) (.ref Da)→Q (.ref Da) H',fun pins s σ H vs us Q I r ⟨F,l,ws,ns,e1,fh,hl,rs,h64,q⟩=>by
  subst e1
  obtain⟨u,rfl,r1⟩:=vals1 r
  cases r1
  exact U1 I fh hl rs h64 q,fun F H vs ds Q fh r h=>by
  match ds,r,h with
  |[.lst ds],r,h=>
   obtain⟨v,rfl,r1⟩:=r.one
   simp only[Q4] at h
   cases q:Xs ds with
   |none=>rw[q] at h;exact h.elim
   |some ns=>
    rw[q] at h
    obtain⟨h64,h⟩:=yz h
    simp only[Rep] at r1
    obtain⟨l,ws,rfl,e1,t⟩:=r1
    rw[Vh q] at t
    exact⟨F,l,ws,ns,rfl,fh,e1,t,h64,fun Da F' H' x rp=>h _ F' H' x rp⟩
  |[],_,h=>exact h.elim
  |[.non],_,h=>exact h.elim
  |[.bl _],_,h=>exact h.elim
  |[.int _],_,h=>exact h.elim
  |[.str _],_,h=>exact h.elim
  |[.tup _],_,h=>exact h.elim
  |[.scr _],_,h=>exact h.elim
  |[.raw _],_,h=>exact h.elim
  |[.exc _],_,h=>exact h.elim
  |a::_::_,_,h=>cases a <;> exact h.elim⟩
end
end FD
set_option Elab.async false
set_option linter.all false
namespace STW
open PySem
noncomputable abbrev Ris(l:List Nat):Prop:=l.Pairwise (· < ·)
theorem Yu{l:List Nat}(h:Ris l){i k:Nat}(hik:i<k)(hk:k<l.length):l.getD i 0<l.getD k 0:=by
 have:=List.pairwise_iff_getElem.mp h i k (by lia) hk hik
 simpa[show i<l.length by lia,hk] using this
theorem XR(xs:Array Nat)(j:Nat):∀(fuel lo hi:Nat),lo≤hi→hi≤xs.size→hi-lo≤fuel→Ris xs.toList→(∀i,i<lo→xs.toList.getD i 0<j)→(∀i,hi≤i→i<xs.size→j≤xs.toList.getD i 0) →
  SetTable.below.go xs j fuel lo hi≤xs.size∧(∀i,i<SetTable.below.go xs j fuel lo hi→xs.toList.getD i 0<j)∧∀i,SetTable.below.go xs j fuel lo hi≤i→i<xs.size→j≤xs.toList.getD i 0:=by
 intro l_
 induction l_ with
 |zero=>
  rintro lo hi h1 h2 h3 hr ha hb
  have e:lo=hi:=by lia
  subst e
  unfold SetTable.below.go
  exact⟨h2,ha,hb⟩
 |succ fuel ih_=>
  rintro lo hi h1 h2 h3 hr ha hb
  unfold SetTable.below.go
  by_cases c:lo<hi
  ·rw[if_pos c]
   have hm:(lo+hi) / 2<xs.size:=by lia
   have em:xs.getD ((lo+hi) / 2) j=xs.toList.getD ((lo+hi) / 2) 0:=by
    simp[Array.getD,hm]
   dsimp only
   by_cases d:xs.getD ((lo+hi) / 2) j<j
   ·rw[if_pos d]
    refine ih_ _ hi (by lia) h2 (by lia) hr (fun i hi'=>?_) hb
    rw[em] at d
    by_cases z:i=(lo+hi) / 2
    ·subst z;exact d
    ·exact lt_trans (Yu hr (by lia) (by simpa using hm)) d
   ·rw[if_neg d]
    refine ih_ lo _ (by lia) (by lia) (by lia) hr ha fun i hi' hs=>?_
    rw[em] at d
    by_cases z:i=(lo+hi) / 2
    ·subst z;lia
    ·have:=Yu hr (i:=(lo+hi) / 2) (k:=i) (by lia) (by simpa using hs)
     lia
  ·rw[if_neg c]
   have e:lo=hi:=by lia
   subst e
   exact⟨h2,ha,hb⟩
theorem UO{xs:Array Nat}(hr:Ris xs.toList)(j:Nat):SetTable.below xs j≤xs.size∧(∀i,i<SetTable.below xs j→xs.toList.getD i 0<j)∧∀i,SetTable.below xs j≤i→i<xs.size→j≤xs.toList.getD i 0:=
 XR xs j xs.size 0 xs.size (zero_le _) (le_refl _) (by lia) hr (fun i h=>by lia) fun i h1 h2=>by lia
noncomputable def TT(L:Bool)(t:SetTable):Prop:=t.led=L∧t.dummies = #[]∧Ris t.place.toList
theorem U5{L:Bool}{t:SetTable}(h:TT L t)(j:Nat):t.slot j≠.dummy:=by
 unfold SetTable.slot
 have:SetTable.has t.dummies j=false:=by
  rw[h.2.1];unfold SetTable.has;simp
 dsimp only
 split
 ·simp
 ·rw[this];simp
theorem U4{t:SetTable}{j:Nat}(h:t.slot j=.empty):t.place[SetTable.below t.place j]?≠some j:=fun e=>by
 unfold SetTable.slot at h
 dsimp only at h
 rw[e] at h
 simp at h
theorem VR{L:Bool}{t:SetTable}(ht:TT L t)(hashAt:Nat→Int)(h:Int):∀(fuel:Nat) (p:SetTable.Probe) (j:Nat) (d:Option Nat),p.dummy=none→SetTable.probe.go t hashAt h fuel p=some (.empty j d)→t.slot j=.empty∧d=none:=by
 intro l_
 induction l_ with
 |zero=>
  rintro p j d _ e
  unfold SetTable.probe.go at e;cases e
 |succ fuel ih_=>
  rintro p j d hp e
  unfold SetTable.probe.go at e
  cases q:t.slot p.j with
  |empty=>
   rw[q] at e
   simp only[Option.some.injEq,SetTable.Met.empty.injEq] at e
   obtain⟨rfl,rfl⟩:=e
   exact⟨q,hp⟩
  |dummy=>exact absurd q (U5 ht p.j)
  |live i=>
   rw[q] at e
   dsimp only at e
   split at e
   ·cases e
   ·refine ih_ _ j d ?_ e
    unfold SetTable.advance
    split
    ·exact hp
    ·exact hp
theorem G2{L:Bool}{t:SetTable}(ht:TT L t){h:Int}{j:Nat}{b:Bool}(e:t.freeSlot h=some (j,b)):t.slot j=.empty:=by
 unfold SetTable.freeSlot at e
 split at e
 ·rename_i j' d q
  unfold SetTable.probe at q
  obtain⟨q1,q2⟩:=VR ht _ h _ _ j' d rfl q
  subst q2
  simp at e
  rw[← e.1];exact q1
 ·cases e
theorem Us{α:Type}(xs:Array α)(p:Nat)(x:α)(hp:p≤xs.size):(SetTable.insertAt xs p x).toList=xs.toList.take p++x::xs.toList.drop p:=by
 unfold SetTable.insertAt
 simp[Array.toList_extract,List.extract]
 exact take_of_length_le (by simp)
theorem zc0{L:Bool}{t:SetTable}(ht:TT L t){j:Nat}(hj:t.slot j=.empty):TT L (t.put j).1:=by
 obtain⟨b1,b2,b3⟩:=UO ht.2.2 j
 have hne:=U4 hj
 have hd:SetTable.has t.dummies j=false:=by rw[ht.2.1];unfold SetTable.has;simp
 refine⟨ht.1,?_,?_⟩
 ·show(if SetTable.has t.dummies j=true then _ else t.dummies) = #[]
  rw[hd];simpa using ht.2.1
 ·show Ris (SetTable.insertAt t.place (SetTable.below t.place j) j).toList
  rw[Us _ _ _ b1]
  generalize SetTable.below t.place j=p at *
  have hr:=ht.2.2
  refine List.pairwise_append.mpr ⟨hr.sublist (List.take_sublist _ _),pairwise_cons.mpr ⟨fun y hy=>?_,hr.sublist (List.drop_sublist _ _)⟩,fun a ha y hy=>?_⟩
  ·obtain⟨i,hi,rfl⟩:=List.getElem_of_mem hy
   rw[List.getElem_drop]
   rw[length_drop] at hi
   have hs:p+i<t.place.size:=by have:=length_toList (xs:=t.place);lia
   have g:=b3 (p+i) (by lia) hs
   have e:t.place.toList.getD (p+i) 0=t.place.toList[p+i]'(by simpa using hs):=by simp[hs]
   rw[e] at g
   refine Nat.lt_of_le_of_ne g fun z=>?_
   by_cases i0:i=0
   ·subst i0
    apply hne
    have:t.place[p]?=some (t.place.toList[p+0]'(by simpa using hs)):=by
     have:p<t.place.size:=by lia
     simp[this]
    rw[this,← z]
   ·have h2:=Yu hr (i:=p) (k:=p+i) (by lia) (by simpa using hs)
    have h3:=b3 p (le_refl _) (by lia)
    rw[e] at h2
    lia
  ·have ha':a<j:=by
    obtain⟨i,hi,rfl⟩:=List.getElem_of_mem ha
    rw[List.getElem_take]
    rw[length_take] at hi
    have g:=b2 i (by lia)
    have hi2:i<t.place.size:=by have:=length_toList (xs:=t.place);lia
    simpa[hi2] using g
   rcases mem_cons.mp hy with rfl|hy
   ·exact ha'
   ·obtain⟨i,hi,rfl⟩:=List.getElem_of_mem hy
    rw[List.getElem_drop]
    rw[length_drop] at hi
    have hs:p+i<t.place.size:=by have:=length_toList (xs:=t.place);lia
    have g:=b3 (p+i) (by lia) hs
    have e:t.place.toList.getD (p+i) 0=t.place.toList[p+i]'(by simpa using hs):=by simp[hs]
    rw[e] at g
    lia
theorem jc{L:Bool}{t:SetTable}(ht:TT L t)(n:Nat):TT L (t.standIn n):=⟨ht.1,rfl,by
 show Ris (Array.range n).toList
 rw[Array.toList_range];exact pairwise_lt_range⟩
theorem zq0{L:Bool}{t:SetTable}(ht:TT L t)(n:Nat):TT L (t.orStandIn n):=by
 unfold SetTable.orStandIn
 split
 ·exact ht
 ·exact jc ht n
theorem zg6{L:Bool}{t:SetTable}(ht:TT L t)(es:Array (Int×Value))(h:Int)(x:Value):TT L (layNew t es h x).2.1:=by
 unfold layNew
 split
 ·rename_i slot wd e
  exact zq0 (zc0 ht (G2 ht e)) _
 ·exact jc ht _
theorem T0{mask finger moves:Nat}{led plain:Bool}{hs:Array Int}{t:SetTable}{o:Array Nat}(e:SetTable.laid mask finger moves led plain hs=some (t,o)):TT led t:=by
 unfold SetTable.laid at e
 cases q:SetTable.layClean mask hs with
 |none=>rw[q] at e;cases e
 |some owner=>
  rw[q] at e
  simp only[Option.bind_eq_bind,Option.bind_some,Option.pure_def,Option.some.injEq,Prod.mk.injEq] at e
  obtain⟨rfl,_⟩:=e
  refine⟨rfl,rfl,?_⟩
  show Ris (((List.range (mask+1)).filterMap fun j=>(owner.getD j none).map (j,·)).map (·.1)).toArray.toList
  show(((List.range (mask+1)).filterMap fun j=>(owner.getD j none).map (j,·)).map (·.1)).Pairwise (· < ·)
  rw[pairwise_map]
  refine(List.Pairwise.filterMap (R:=(· < ·)) _ (fun a a' haa b hb b' hb'=>?_) pairwise_lt_range)
  cases z:owner.getD a none with
  |none=>rw[z] at hb;simp at hb
  |some k=>
   cases z':owner.getD a' none with
   |none=>rw[z'] at hb';simp at hb'
   |some k'=>
    rw[z] at hb;rw[z'] at hb'
    simp at hb hb'
    subst hb;subst hb'
    exact haa
theorem Ga{L:Bool}{t:SetTable}(ht:TT L t)(es:Array (Int×Value))(wanted:Nat):TT L (relayAll t es wanted).2.1:=by
 unfold relayAll
 split
 ·rename_i t' order e
  dsimp only
  split
  ·unfold SetTable.relaid at e
   have:=T0 e
   rw[ht.1] at this
   exact this
  ·exact jc ht _
 ·exact jc ht _
theorem ze3{L:Bool}{t:SetTable}(ht:TT L t):TT L { t with plain:=false }:=ht
section
variable{prog:Program}{w:World}{K:Type}[DecidableEq K]{knd:KeyKind prog w K}{A:Around}{E:Value→Shared→Prop}{s:Shared}{L:Bool}{a:Addr}{S:K→Bool}{n:Nat}{k:K}{x:Value}
noncomputable def SetT(knd:KeyKind prog w K)(L:Bool)(h:Heap)(a:Addr)(S:K→Bool)(n:Nat):Prop:=
 ∃o es ep t,h.get? a=some o∧o.ExactSet∧o.data=.set es ep t∧ElemsOf knd es.toList∧(∀k,S k=true↔∃e∈es.toList,knd.is k e.2=true)∧es.size<scanBound∧t.fits es.size=true∧es.size=n∧TT L t
theorem SetT.at{h h':Heap}(q:SetT knd L h a S n)(k:∀o,h.get? a=some o→h'.get? a=some o):SetT knd L h' a S n:=by
 obtain⟨o,es,ep,t,ho,r⟩:=q;exact⟨o,es,ep,t,k _ ho,r⟩
theorem SetT.congr{h:Heap}{S':K→Bool}{n':Nat}(q:SetT knd L h a S n)(e:∀k,S k=S' k)(en:n=n'):SetT knd L h a S' n':=by
 have:S=S':=funext e
 subst this;subst en;exact q
theorem stored{h:Heap}{o:Obj}{es:Array (Int×Value)}{ep:Nat}{t:SetTable}(ho:h.get? a=some o)(hx:o.ExactSet)(hd:o.data=.set es ep t){es':Array (Int×Value)}{t':SetTable}{S':K→Bool}(p1:ElemsOf knd es'.toList)
  (p2:∀k,S' k=true↔∃e∈es'.toList,knd.is k e.2=true) (p3:es'.size<scanBound) (p4:t'.fits es'.size=true) (p5:TT L t') :
  (h.update a (Obj.putSet es' t')).get? a=some { o with data:=.set es' (ep+1) t' }∧SetT knd L (h.update a (Obj.putSet es' t')) a S' es'.size:=by
 obtain⟨g,_⟩:=SetOf_store (knd:=knd) ho hx hd p1 p2 p3 p4
 exact⟨g,_,es',ep+1,t',g,hx,rfl,p1,p2,p3,p4,rfl,p5⟩
theorem LY{g:Bool→Sem Unit}(hg:∀(b:Bool) (s1:Shared) (Q:Unit→Shared→Prop),Q () s1→wpAny (model prog w) A (g b) Q E s1){o:Obj}{es:Array (Int×Value)}{ep:Nat}{t:SetTable}(ho:s.heap.get? a=some o)(hx:o.ExactSet)(hd:o.data=.set es ep t)
  {es1:Array (Int×Value)} {t2:SetTable} {S':K→Bool} (p1:ElemsOf knd es1.toList) (p2:∀k,S' k=true↔∃e∈es1.toList,knd.is k e.2=true) (p3:es1.size<scanBound) (p4:t2.fits es1.size=true) (p5:TT L t2) {wasDummy:Bool} {R:Option Bool→Shared→Prop}
  (q:∀h',Heap.SameBut a s.heap h'→SetT knd L h' a S' es1.size→R (some true) { s with heap:=h' }) :
  wpAny (model prog w) A (do
    storeSet a es1 t2
    if (!wasDummy&&t2.tooFull)=true then do
        g (relayAll t2 es1 (SetTable.grown es1.size)).2.2
        storeSet a (relayAll t2 es1 (SetTable.grown es1.size)).1 (relayAll t2 es1 (SetTable.grown es1.size)).2.1
        pure (some true)
     else pure (some true)) R E s:=by
 obtain⟨g1,g2⟩:=stored (knd:=knd) ho hx hd p1 p2 p3 p4 p5
 have sb:=Heap.SameBut.update s.heap a (Obj.putSet es1 t2)
 refine wpAny_bind (wpAny_storeSet_of ho hd ?_ (fits_of_scanBound p3))
 split
 ·have r1:=relayAll_perm t2 es1 (SetTable.grown es1.size);have r2:=relayAll_fits t2 es1 (SetTable.grown es1.size);have r3:=Ga p5 es1 (SetTable.grown es1.size)
  generalize relayAll t2 es1 (SetTable.grown es1.size)=Z at r1 r2 r3 ⊢
  obtain⟨es2,t3,gv⟩:=Z
  dsimp only at r1 r2 r3 ⊢
  have z:es2.size=es1.size:=by rw[← length_toList,r1.length_eq,length_toList]
  have p3':es2.size<scanBound:=by lia
  refine wpAny_bind (hg _ _ _ (wpAny_bind (wpAny_storeSet_of g1 rfl ?_ (fits_of_scanBound p3'))))
  obtain⟨_,u⟩:=stored (knd:=knd) (L:=L) g1 hx rfl (p1.perm r1) (fun k'=>(p2 k').trans ⟨fun ⟨e,he,y⟩=>⟨e,r1.mem_iff.mpr he,y⟩,fun ⟨e,he,y⟩=>⟨e,r1.mem_iff.mp he,y⟩⟩) p3' r2 r3
  rw[z] at u
  exact wpAny_pure (q _ (sb.trans (Heap.SameBut.update _ a _)) u)
 ·exact wpAny_pure (q _ sb g2)
theorem addOk{Q:Bool→Shared→Prop}(hkey:knd.is k x=true)(hsc:x.scannable=true)(hS:SetT knd L s.heap a S n)(hroom:n+1<scanBound)
  (q:∀h',Heap.SameBut a s.heap h'→SetT knd L h' a (fun k'=>S k'||decide (k'=k)) (if S k then n else n+1)→Q (!S k) { s with heap:=h' }):wpAny (model prog w) A (setAddHashed a x (knd.hash k)) Q E s:=by
 obtain⟨o,es,ep,t,ho,hx,hd,hel,hmem,hb,hf,hn,hT⟩:=hS
 have hb1:es.size+1<scanBound:=by lia
 unfold setAddHashed setAddHashedIn;refine wpAny_holding (wpAny_bind (wpAny_setState_of ho hd hf ?_))
 dsimp only;rw[byScan_of hsc hb hel];simp only[↓reduceIte];unfold setAddByScan
 refine wpAny_bind (wpAny_bind (wpAny_rule (wpAny_bind (wpAny_setScan_of hkey ho hd hf hel ?_))))
 cases hr:List.findIdx? (fun e=>knd.is k e.2) es.toList with
 |some j=>
  obtain⟨hj,hpj,_⟩:=List.findIdx?_eq_some_iff_getElem.mp hr
  have hSk:S k=true:=(hmem k).mpr ⟨es.toList[j],getElem_mem hj,hpj⟩
  have u:=q s.heap (Heap.SameBut.refl a s.heap) ⟨o,es,ep,t,ho,hx,hd,hel,fun k'=>by
   rw[Bool.or_eq_true,decide_eq_true_eq,← hmem k'];exact⟨fun z=>z.elim id (fun e=>e ▸ hSk),.inl⟩,hb,hf,by rw[hSk];exact hn,hT⟩
  rw[hSk] at u
  dsimp only
  exact wpAny_pure (wpAny_pure u)
 |none=>
  have hSk:S k=false:=by
   cases hk:S k with
   |false=>rfl
   |true=>obtain⟨e,he,hp⟩:=(hmem k).mp hk;have:=List.findIdx?_eq_none_iff.mp hr e he;rw[hp] at this;cases this
  have gw:∀(b:Bool) (s1:Shared) (Q':Unit→Shared→Prop),Q' () s1→wpAny (model prog w) A (match b with|true=>rule "set.scan.the-table-gave-way" |false=>pure ()) Q' E s1:=fun b s1 Q' hq=>by
   cases b <;> first|exact wpAny_pure hq|exact wpAny_rule hq
  have l1:=layNew_perm t es (knd.hash k) x;have l2:=layNew_fits t es (knd.hash k) x;have l3:=zg6 hT es (knd.hash k) x
  dsimp only
  generalize layNew t es (knd.hash k) x=Z at l1 l2 l3 ⊢
  obtain⟨es1,t1,wd,gv⟩:=Z
  dsimp only at l1 l2 l3 ⊢
  rw[Array.toList_push] at l1
  have p1:ElemsOf knd es1.toList:=(hel.push hkey hsc).perm l1
  have p2:∀k',(S k'||decide (k'=k))=true↔∃e∈es1.toList,knd.is k' e.2=true:=mem_push_iff hkey hmem l1
  have z1:es1.size=n+1:=by rw[← length_toList,l1.length_eq,length_append,length_toList,hn];rfl
  have p3:es1.size<scanBound:=by lia
  have fin:∀h',Heap.SameBut a s.heap h'→SetT knd L h' a (fun k'=>S k'||decide (k'=k)) es1.size→Q true { s with heap:=h' }:=fun h' sb u=>by
   have v:=q h' sb;rw[hSk] at v;rw[z1] at u;exact v u
  refine wpAny_bind (gw _ _ _ ?_)
  split
  ·refine wpAny_bind ?_
   rw[hashByValue_scannable 8 hsc]
   refine wpAny_pure (LY (L:=L) gw ho hx hd p1 p2 p3 ?_ ?_ fun h' sb u=>wpAny_pure (fin h' sb u))
   ·split
    ·exact l2
    ·exact SetTable.fits_plain_off l2
   ·split
    ·exact l3
    ·exact ze3 l3
  ·refine wpAny_bind (wpAny_pure ?_)
   simp only[↓reduceIte]
   exact LY (L:=L) gw ho hx hd p1 p2 p3 l2 l3 fun h' sb u=>wpAny_pure (fin h' sb u)
end
open PyProof.Rows
section
variable{prog:Program}{w:World}{A:Around}{R:Result→Shared→Prop}{I:Addr}{fp wr:List Addr}{G:Array GenState→Array GenState→Prop}{n:Nat}{P:Nat→Value→Prop}{St:Nat→Shared→Prop}{L:Bool}
theorem L5(W:WalksS prog w A.in1 I fp wr G n P St)(Z:Addr)(hZ:Z∉fp)(val:Nat→Int)(hval:∀i v,P i v→∃t,v=.int (val i) t)(hb:n+1<scanBound) :
  ∀(k i:Nat) (s:Shared),n-i=k→i≤n→St i s→SetT (intKind prog w) L s.heap Z (fun k'=>(firstMet val i).any (· == k')) (firstMet val i).length →
   (∀s',Moved (Z::wr) G s s'→SetT (intKind prog w) L s'.heap Z (fun k'=>(firstMet val n).any (· == k')) (firstMet val n).length→R (.ok (.ret .none)) s') →
   codeAny (model prog w) A (.builtin "set.update.loop" ⟨[.ref Z,.ref I],[]⟩) R s:=by
 have hw:Z∉wr:=fun h=>hZ (W.sub _ h)
 have up:∀b∈wr,b∈Z::wr:=fun b h=>mem_cons_of_mem _ h
 intro k
 induction k with
 |zero=>
  intro i s hk hi hst hS hR
  obtain rfl:i=n:=by lia
  refine codeAny_builtin PyProof.Rows.F.entry_set_update_loop ?_
  rw[Around.under_plainId PyProof.Rows.F.plain_set_update_loop _]
  show wpAny _ A.in1 (pyNext (.ref I) >>= _) _ _ s;refine wpAny_bind (W.done s _ _ hst fun s' hm=>?_)
  exact wpAny_pure (hR s' (hm.mono up) (hS.at fun o e=>hm.heap Z _ hw e))
 |succ k ih=>
  intro i s hk hi hst hS hR
  refine codeAny_builtin PyProof.Rows.F.entry_set_update_loop ?_
  rw[Around.under_plainId PyProof.Rows.F.plain_set_update_loop _]
  show wpAny _ A.in1 (pyNext (.ref I) >>= _) _ _ s;refine wpAny_bind (W.item i s _ _ (by lia) hst fun v s' hP hst' hm=>?_)
  obtain⟨t,rfl⟩:=hval i v hP
  have hS1:=hS.at (h':=s'.heap) fun o e=>hm.heap Z _ hw e
  show wpAny _ A.in1 (holding [Value.int (val i) t] (setAdd Z (.int (val i) t)) >>= _) _ _ s';refine wpAny_bind (wpAny_holding ?_)
  unfold setAdd
  refine wpAny_holding (wpAny_bind ((intKind prog w).pyHash (k:=val i) (intKind_is _ _ _ _) ?_))
  have room:(firstMet val i).length+1<scanBound:=by have:=firstMet_length_le val i;lia
  refine addOk (knd:=intKind prog w) (s:={ s' with toks:=s'.toks+1 }) (intKind_is _ _ _ _) rfl hS1 room fun h' sb hS2=>?_
  have hS3:=hS2.congr (S':=fun k'=>(firstMet val (i+1)).any (· == k')) (n':=(firstMet val (i+1)).length) (fun k'=>by rw[firstMet_succ,step_any]) (by rw[firstMet_succ,step_length])
  refine wpAny_pure ⟨plainId_quiet PyProof.Rows.F.plain_set_update_loop _,ih (i+1) _ (by lia) (by lia) (W.frame _ s' _ _ hst' (le_succ _) fun b hb o e=>?_) hS3 fun s'' hm'' hS''=>?_⟩
  ·rw[sb.2 b (fun h:b=Z=>hZ (by rw[← h];exact hb))];exact e
  ·refine hR s'' (Moved.trans W.gtrans ((hm.mono up).then_heap (le_succ _) fun b o hb e=>?_) hm'') hS''
   rw[sb.2 b (fun h:b=Z=>hb (by rw[h];exact mem_cons_self))];exact e
end
noncomputable def uB(w:World):Bool:=!w.params.followText "set-order"
section
variable{prog:Program}{w:World}{A:Around}{E:Value→Shared→Prop}{s:Shared}
theorem newT(a:Value){Q₁:Value→Shared→Prop}
  (h:Q₁ (.ref s.heap.objs.size) { s with heap:=s.heap.push { cls:=.type "set", dict:=none,data:=.set #[] 0 (.fresh 0 0 (uB w)) } }) :
  codeAny (model prog w) A (.call (.builtin "set.__new__") ⟨[.type "set", a],[]⟩) (wants Q₁ E) s:=by
 refine codeAny_of_tree ?_
 show wpAny _ A.in1 (do checkBuiltinCall "set.__new__" ⟨[.type "set", a],[]⟩;again (.builtin "set.__new__" ⟨[.type "set", a],[]⟩)) _ _ s
 refine wpAny_bind (wpAny_of_eq (PySem.F.newCall_set_1 a) (wpAny_pure ⟨plainId_quiet PySem.F.plain_set_new _,codeAny_builtin PySem.F.entry_set_new ?_⟩))
 rw[Around.under_plainId PySem.F.plain_set_new _];unfold Builtin.«set.__new__» Builtin.Frozenset.newClass;have hsub:=sub_set_self
 obtain⟨hp,g,d,tk,os⟩:=s;dsimp only
 wp_walk
 refine wpAny_askSetting (wpAny_pure ?_);dsimp only;simp only[newObj]
 exact wpAny_bind (wpAny_alloc (wpAny_pure (wpAny_pure h)))
end
open PyProof.Rows
section
variable{prog:Program}{w:World}{A:Around}{E:Value→Shared→Prop}{s:Shared}
noncomputable abbrev fm(ns:List Int)(n:Nat):List Int:=firstMet (fun i=>ns.getD i 0) n
noncomputable abbrev vY(b:Bool):Obj:={ cls:=.type "set", dict:=none,data:=.set #[] 0 (.fresh 0 0 b) }
noncomputable def Aft(prog:Program)(w:World)(s:Shared)(ns:List Int)(n:Nat)(r:Value)(s2:Shared):Prop:=
 r=.none∧∃h' tk,s2 = { s with heap:=h',toks:=tk }∧SetT (intKind prog w) (uB w) h' s.heap.objs.size (fun k=>(fm ns n).any (· == k)) (fm ns n).length∧∀b o,b<s.heap.objs.size→s.heap.get? b=some o→h'.get? b=some o
set_option maxRecDepth 100000 in
set_option maxHeartbeats 3200000 in
theorem callSet{l:Addr}{items:Array Value}{ns:List Int}{Q:Value→Shared→Prop}(hh:A.handled=none)(hl:s.heap.IsList l items)(hi:IntsAre items.toList ns)(hb:items.size+1<scanBound)
  (h:∀(h':Heap) (tk:Nat),SetT (intKind prog w) (uB w) h' s.heap.objs.size (fun k=>(fm ns items.size).any (· == k)) (fm ns items.size).length→(∀b o,b<s.heap.objs.size→s.heap.get? b=some o→h'.get? b=some o)→Q (.ref s.heap.objs.size) { s with heap:=h',toks:=tk }) :
  wpAny (model prog w) A (call (.type "set") [.ref l]) Q E s:=by
 obtain⟨c,tl,hmro⟩:=PySem.F.called_set.mro;have hmade:=PySem.F.called_set.made;have hsub:=PySem.F.called_set.sub
 refine wpAny_call (codeAny_of_tree ?_);show wpAny _ _ (callAny (.type "set") _) _ _ _
 refine wpAny_pure ⟨Code.quiet_builtin _ (by decide +kernel),codeAny_builtin F.entry_type_call ?_⟩;rw[Around.under_plain (weight_type_call_type "set" [.ref l] []) rfl]
 have h1:=PySem.F.called_set.notType;have h2:=PySem.F.called_set.canCreate;have hct:=PySem.F.typeCall_set_1 (.ref l)
 repeat (any_goals (first|assumption|wp_step))
 refine codeAny_mono (newT (.ref l) (E:=E) (Q₁:=fun obj s1=>obj=.ref s.heap.objs.size∧s1 = { s with heap:=s.heap.push (vY (uB w)) }) ⟨rfl,rfl⟩) fun r s1 hr=>?_
 cases r with
 |error e=>exact hr
 |ok fl=>
  cases fl with
  |ret obj=>
   obtain⟨rfl,rfl⟩:=hr
   generalize hled:uB w=led at h
   have hS:(s.heap.push (vY led)).get? s.heap.objs.size=some (vY led):=Heap.get?_push_size _ rfl
   have hT:Shared.TypeIs { s with heap:=s.heap.push (vY led) } (.ref s.heap.objs.size) "set" := ⟨_,hS,rfl⟩
   have hli:=PySem.F.called_set.init.lookup;have hbi:=PySem.F.called_set.init.bind (.ref s.heap.objs.size)
   repeat (any_goals (first|assumption|wp_step))
   refine codeAny_mono (codeAny_call_builtin (R:=wants (Aft prog w s ns items.size) E) PySem.F.called_set.init.plain PySem.F.entry_set_init (check_set_init_1 hT ?_)) fun r2 s2 hr2=>?_
   ·obtain⟨ol,hol,hcl,nl,hdl⟩:=hl
    obtain⟨ocls,odict,odata,oslots⟩:=ol
    simp only at hcl hdl;subst hcl;subst hdl
    have hol':(s.heap.push (vY led)).get? l=some { cls:=.type "list", dict:=odict,data:=.seq items nl,slots:=oslots }:=get?_push_of_some _ hol
    have hsls:=PySem.F.sub_list_set;have hslf:=PySem.F.sub_list_frozenset
    have hne:(Value.type "list" == Value.type "dict")=false:=by decide
    have hl1:(s.heap.push (vY led)).IsList l items:=⟨_,hol',rfl,nl,rfl⟩
    unfold Builtin.«set.__init__» noKeywords Builtin.Frozenset.updateFrom;generalize hPI:pyIter=PI
    wp_walk
    subst hPI
    refine wpAny_pyIter_list hl1 (wpAny_bind (wpAny_runValue ?_))
    have hlS:l<s.heap.objs.size:=Heap.lt_size hol
    have hh3:A.in1.in1.in1.handled=none:=by simp[hh]
    have es:(s.heap.push (vY led)).objs.size=s.heap.objs.size+1:=Heap.size_push _ _
    have hneI:l≠(s.heap.push (vY led)).objs.size:=by rw[es];exact ne_of_lt (lt_succ_of_lt hlS)
    have hSf:s.heap.objs.size∉[(s.heap.push (vY led)).objs.size,l]:=by
     rw[es];simp only[mem_cons,not_mem_nil,or_false,not_or];exact⟨ne_of_lt (lt_succ_self _),ne_of_gt hlS⟩
    have hval:∀(i:Nat) (v:Value),items[i]?=some v→∃t,v=.int ((fun i=>ns.getD i 0) i) t:=fun i v hv=>IntsAre.int_at hi i v (by rw[getElem?_toList];exact hv)
    refine L5 (L:=led) ((Walks.list hh3 _ l hneI items).toS) s.heap.objs.size hSf (fun i=>ns.getD i 0) hval hb (items.size-0) 0 _ (by lia) (zero_le _) ⟨⟨_,Heap.get?_push_size _ rfl,rfl,rfl⟩,(hl1.push _)⟩ ?hS0 ?hR
    case hS0=>
     refine⟨vY led,#[],0,.fresh 0 0 led,get?_push_of_some _ hS,⟨rfl,rfl,rfl⟩,rfl,fun e he=>by simp at he,fun k=>by simp[firstMet_zero],by decide,by rfl,rfl,rfl,rfl,List.Pairwise.nil⟩
    case hR=>
     intro s' hm hS'
     obtain⟨h',g',d',tk',os'⟩:=s'
     have eg:g'=s.gens:=hm.gens;have ed:d'=s.drawn:=hm.drawn;have eo:os'=s.os:=hm.os
     subst eg;subst ed;subst eo
     show wpAny _ _ _ _ _ _;refine wpAny_pure ?_;show wpAny _ _ (ret Value.none) _ _ _
     refine wpAny_pure ⟨rfl,h',tk',rfl,by rw[hled];exact hS',fun b o hb e=>hm.heap b o ?_ (get?_push_of_some _ (get?_push_of_some _ e))⟩
     rw[es];simp only[mem_cons,not_mem_nil,or_false,not_or];exact⟨ne_of_lt hb,ne_of_lt (lt_succ_of_lt hb)⟩
   ·cases r2 with
    |error e=>exact hr2
    |ok fl2=>
     cases fl2 with
     |ret r=>
      obtain⟨rfl,h',tk,rfl,hS',hk'⟩:=hr2
      rw[hled] at hS'
      repeat (any_goals (first|assumption|wp_step))
      exact h _ _ hS' hk'
     |_=>exact hr2.elim
  |_=>exact hr.elim
end
open PyProof.Rows
namespace FS
theorem slot_next:Slot "set_iterator" "__next__" "set_iterator.__next__" := .of (owner := "set_iterator") (n := "__next__") (by rw[typeLookup_type,builtinLookup_eq_fast];kernel_rfl) (by decide +kernel) (by decide +kernel) (by decide +kernel) (by first|exact .inl (by decide +kernel) | exact .inr (by decide +kernel)) (by rw[isSubtype_type];kernel_rfl)
theorem slot_self:Slot "set_iterator" "__iter__" "set_iterator.__iter__" := .of (owner := "set_iterator") (n := "__iter__") (by rw[typeLookup_type,builtinLookup_eq_fast];kernel_rfl) (by decide +kernel) (by decide +kernel) (by decide +kernel) (by first|exact .inl (by decide +kernel) | exact .inr (by decide +kernel)) (by rw[isSubtype_type];kernel_rfl)
theorem entry_next:entryFor table "set_iterator.__next__" = some Builtin.«set_iterator.__next__»:=entryFor_of_fast (by kernel_rfl)
theorem entry_self:entryFor table "set_iterator.__iter__" = some Builtin.«dict_keyiterator.__iter__»:=entryFor_alias (id' := "dict_keyiterator.__iter__") (by kernel_rfl) rfl (by decide +kernel) (by kernel_rfl)
theorem entry_iter:entryFor table "set.__iter__" = some Builtin.«frozenset.__iter__»:=entryFor_alias (id' := "frozenset.__iter__") (by kernel_rfl) rfl (by decide +kernel) (by kernel_rfl)
theorem args_next(a:Value):argsOk "set_iterator.__next__" ⟨[a],[]⟩:=by unfold argsOk;kernel_rfl
theorem args_self(a:Value):argsOk "set_iterator.__iter__" ⟨[a],[]⟩:=by unfold argsOk;kernel_rfl
end FS
section
variable{prog:Program}{w:World}{A:Around}{E:Value→Shared→Prop}{s:Shared}
structure SetAt(h:Heap)(a:Addr)(es:Array (Int×Value))(ep:Nat)(t:SetTable):Prop where
 ex:∃o,h.get? a=some o∧o.ExactSet∧o.data=.set es ep t
 fit:t.fits es.size=true
theorem SetAt.at{h h':Heap}{a:Addr}{es:Array (Int×Value)}{ep:Nat}{t:SetTable}(q:SetAt h a es ep t)(k:∀o,h.get? a=some o→h'.get? a=some o):SetAt h' a es ep t:=by
 obtain⟨⟨o,h1,h2⟩,f⟩:=q;exact⟨⟨o,k o h1,h2⟩,f⟩
end
open PySem PyProof.Rows
section
variable{prog:Program}{w:World}{A:Around}{E:Value→Shared→Prop}{s:Shared}{I a:Addr}{es:Array (Int×Value)}{ep:Nat}{t:SetTable}{Q:Option Value→Shared→Prop}
noncomputable abbrev vR(f:Value)(i:Nat)(z:Value)(n ep:Nat):Obj:={ cls:=.type "set_iterator", dict:=none,data:=.fields #[f,.int i 0,z,.int n 0,.int ep 0],slots:=#[] }
theorem Zf{f z:Value}{i n:Nat}(h:s.heap.get? I=some (vR f i z n ep)):s.TypeIs (.ref I) "set_iterator" := ⟨_,h,rfl⟩
theorem ze8{sl i nx:Nat}{x:Value}(hit:s.heap.get? I=some (vR (.int sl 0) i (.ref a) es.size ep))(hS:SetAt s.heap a es ep t)(hnx:∀(A':Around) (Q':Option (Value×Nat)→Shared→Prop) (E':Value→Shared→Prop),Q' (some (x,nx)) s→wpAny (model prog w) A' (setNext a sl i ep) Q' E' s)
  (hQ:∀h',h'.get? I=some (vR (.int nx 0) (i+1) (.ref a) es.size ep)→Heap.SameBut I s.heap h'→Q (some x) { s with heap:=h' }):wpAny (model prog w) A (pyNext (.ref I)) Q E s:=by
 obtain⟨⟨o,ho,_,hd⟩,hf⟩:=hS
 unfold pyNext
 refine wpAny_bind (wpAny_attempt (wpAny_callSpecial?_slot (name:=Str.ofString "__next__") (Zf hit) FS.slot_next (wpAny_call_entry FS.slot_next (Zf hit) FS.entry_next ?_ (FS.args_next _))))
 show wpAny _ _ (fieldsOf (.ref I) >>= _) _ _ s
 refine wpAny_bind (wpAny_fieldsOf hit rfl ?_)
 show wpAny _ _ (setEntries a >>= _) _ _ s
 refine wpAny_bind (wpAny_setEntries_of ho hd hf ?_)
 rw[if_neg (by simp)]
 show wpAny _ _ (setNext a (sl:Int).toNat (i:Int).toNat (ep:Int).toNat >>= _) _ _ s
 simp only[toNat_natCast]
 refine wpAny_bind (hnx _ _ _ ?_)
 refine wpAny_bind (wpAny_setField_rec hit (by simp) fun h1 g1 b1=>wpAny_bind (wpAny_setField_rec g1 (by simp) fun h2 g2 b2=>?_))
 exact wpAny_pure ⟨x,rfl,wpAny_pure (hQ h2 g2 (b1.trans b2))⟩
theorem zu4{sl i:Nat}(hh:A.handled=none)(hit:s.heap.get? I=some (vR (.int sl 0) i (.ref a) es.size ep))(hS:SetAt s.heap a es ep t)(hnx:∀(A':Around) (Q':Option (Value×Nat)→Shared→Prop) (E':Value→Shared→Prop),Q' none s→wpAny (model prog w) A' (setNext a sl i ep) Q' E' s)
  (hQ:∀h',(∀b o,b≠I→s.heap.get? b=some o→h'.get? b=some o)→Q none { s with heap:=h' }):wpAny (model prog w) A (pyNext (.ref I)) Q E s:=by
 obtain⟨⟨o,ho,_,hd⟩,hf⟩:=hS
 unfold pyNext
 refine wpAny_bind (wpAny_attempt (wpAny_callSpecial?_slot (name:=Str.ofString "__next__") (Zf hit) FS.slot_next (wpAny_call_entry FS.slot_next (Zf hit) FS.entry_next ?_ (FS.args_next _))))
 show wpAny _ _ (fieldsOf (.ref I) >>= _) _ _ s
 refine wpAny_bind (wpAny_fieldsOf hit rfl ?_)
 show wpAny _ _ (setEntries a >>= _) _ _ s
 refine wpAny_bind (wpAny_setEntries_of ho hd hf ?_)
 rw[if_neg (by simp)]
 show wpAny _ _ (setNext a (sl:Int).toNat (i:Int).toNat (ep:Int).toNat >>= _) _ _ s
 simp only[toNat_natCast]
 refine wpAny_bind (hnx _ _ _ (wpAny_bind (wpAny_setField_rec hit (by simp) fun h1 g1 b1=>wpAny_bind ?_)))
 simp only[newExc,newTuple];refine wpAny_bind (wpAny_newObj_type ?_ (by size_fits))
 refine wpAny_bind (m:=firstArgMember _ _) (wpAny_of_eq (a:=Value.none) (by first|rfl | (simp only[firstArgMember];rfl)) (wpAny_newObj_type ?_ (by size_fits)))
 simp only[raiseNew];refine wpAny_bind (wpAny_handled ?_)
 rw[show A.in1.handled=none from hh];refine wpAny_bind (wpAny_pure (wpAny_throw ?_))
 refine wpAny_bind (wpAny_isInstance (T := "StopIteration") (b:=true) ⟨_,Heap.get?_push_size _ rfl,rfl⟩ isSubtype_stop (wpAny_pure (hQ _ fun b o n e=>?_)))
 exact get?_push_of_some _ (get?_push_of_some _ (by rw[b1.2 b n];exact e))
theorem JP(hh:A.handled=none)(hne:a≠I)(ord:List Value)(hl:ord.length=es.size)(fst:Nat→Nat)
  (hnx:∀(i:Nat) (s':Shared) (A':Around) (Q':Option (Value×Nat)→Shared→Prop) (E':Value→Shared→Prop),i≤es.size→SetAt s'.heap a es ep t→Q' ((ord[i]?).map fun x=>(x,fst (i+1))) s'→wpAny (model prog w) A' (setNext a (fst i) i ep) Q' E' s') :
  Walks prog w A I [I,a] [I] es.size (fun i v=>ord[i]?=some v) (fun i h=>h.get? I=some (vR (.int (fst i) 0) i (.ref a) es.size ep)∧SetAt h a es ep t) where
 sub:=fun b hb=>by simp at hb;simp[hb]
 frame:=fun _ _ _ st hk=>⟨hk I (by simp) _ st.1,st.2.at fun o e=>hk a (by simp) o e⟩
 item:=fun i s Q E hi st hQ=>by
  have e:ord[i]?=some ord[i]:=by simp[hl,hi]
  refine ze8 (x:=ord[i]) (nx:=fst (i+1)) st.1 st.2 (fun A' Q' E' q=>hnx i s A' Q' E' (by lia) st.2 (by rw[e];exact q)) fun h' g b=>?_
  exact hQ _ h' s.toks e ⟨g,st.2.at fun o z=>by rw[b.2 a hne];exact z⟩ fun b' o hb z=>by rw[b.2 b' (fun y=>hb (by simp[y]))];exact z
 done:=fun s Q E st hQ=>by
  have e:ord[es.size]?=none:=by simp[hl]
  exact zu4 hh st.1 st.2 (fun A' Q' E' q=>hnx es.size s A' Q' E' (le_refl _) st.2 (by rw[e];exact q)) fun h' k=>hQ h' s.toks fun b o hb z=>k b o (fun y=>hb (by simp[y])) z
 self:=fun i s Q E st hQ=>by
  refine wpAny_pyIter_slot (Zf st.1) FS.slot_self (wpAny_call_entry FS.slot_self (Zf st.1) FS.entry_self ?_ (FS.args_self _))
  show wpAny _ _ (ret (.ref I)) _ _ s
  exact wpAny_pure ⟨_,rfl, "set_iterator", _,Zf st.1,FS.slot_next.lookup,hQ⟩
end
open PySem PyProof.Rows
theorem jJ{α:Type}:∀(l:List α) (i:Nat) (h:i<l.length),(l[i]::l.eraseIdx i).Perm l
 |[],i,h=>by simp at h
 |a::l,0,h=>by simp
 |a::l,i+1,h=>by
  have ih:=jJ l i (by simpa using h)
  rw[List.eraseIdx_cons_succ,List.getElem_cons_succ]
  exact(List.Perm.swap a _ _).trans (ih.cons a)
theorem Qa{α:Type}(next:Nat→Nat):∀(fuel k:Nat) (left:List α) (out:Array α),left.length≤fuel→(pickOrder.go next fuel k left out).toList.Perm (out.toList++left):=by
 intro l_
 induction l_ with
 |zero=>
  rintro k left out h
  have:left=[]:=List.eq_nil_of_length_eq_zero (by lia)
  subst this
  unfold pickOrder.go;simp
 |succ fuel ih_=>
  rintro k left out h
  unfold pickOrder.go
  cases q:left[next k%left.length]? with
  |none=>
   have:left=[]:=by
    cases left with
    |nil=>rfl
    |cons a l=>
     have hlt:next k%(a::l).length<(a::l).length:=Nat.mod_lt _ (by simp)
     rw[getElem?_eq_getElem hlt] at q;cases q
   subst this
   simp
  |some x=>
   have hlt:next k%left.length<left.length:=(List.getElem?_eq_some_iff.mp q).1
   refine(ih_ (k+1) _ _ (by rw[List.length_eraseIdx_of_lt hlt];lia)).trans ?_
   rw[Array.toList_push,append_assoc]
   refine List.Perm.append_left _ ?_
   have hx:left[next k%left.length]=x:=(List.getElem?_eq_some_iff.mp q).2
   show(x::left.eraseIdx (next k%left.length)).Perm left
   rw[← hx]
   exact jJ _ _ hlt
theorem Wk{α:Type}(next:Nat→Nat)(xs:Array α):(pickOrder next xs).toList.Perm xs.toList:=by
 unfold pickOrder
 have:=Qa next xs.size 0 xs.toList #[] (by simp)
 simpa using this
section
variable{prog:Program}{w:World}{A:Around}{E:Value→Shared→Prop}{s:Shared}{I a:Addr}{es:Array (Int×Value)}{ep:Nat}{t:SetTable}
theorem LG{src:Source}{n:Nat}{Q:Nat→Shared→Prop}(hn:n≠0)(h:∀i d',i<n→Q i { s with drawn:=d' }):wpAny (model prog w) A (choose src n) Q E s:=
 fun Γ p hΓ=>⟨hn,h _ _ (Nat.mod_lt _ (Nat.pos_of_ne_zero hn))⟩
theorem Ly{α:Type}:∀(n:Nat) (xs:List α) (s:Shared) (Q:List α→Shared→Prop),xs.length=n→(∀l d',l.Perm xs→Q l { s with drawn:=d' })→wpAny (model prog w) A (drawOrder n xs) Q E s
 |0,xs,s,Q,h,q=>by
  have:xs=[]:=List.eq_nil_of_length_eq_zero h
  subst this
  unfold drawOrder
  exact wpAny_pure (q [] s.drawn (List.Perm.refl _))
 |n+1,[],s,Q,h,q=>by simp at h
 |n+1,x::xs,s,Q,h,q=>by
  unfold drawOrder
  refine wpAny_bind (LG (by simp) fun i d' hi=>?_)
  have e:(x::xs)[i]?=some (x::xs)[i]:=getElem?_eq_getElem hi
  rw[e]
  refine wpAny_bind (Ly n _ _ _ (by rw[List.length_eraseIdx_of_lt hi];lia) fun l d'' hp=>?_)
  exact wpAny_pure (q _ d'' ((hp.cons _).trans (jJ _ _ hi)))
theorem zr0(hb:w.params.followText "set-order" = true)(i:Nat)(s':Shared)(A':Around)(Q':Option (Value×Nat)→Shared→Prop)(E':Value→Shared→Prop)(hS:SetAt s'.heap a es ep t)
  (q:Q' ((((pickOrder (w.params.setOrder a ep) es).toList.map (·.2))[i]?).map fun x=>(x,0)) s'):wpAny (model prog w) A' (setNext a 0 i ep) Q' E' s':=by
 obtain⟨⟨o,ho,_,hd⟩,hf⟩:=hS
 unfold setNext setsByText
 refine wpAny_bind (wpAny_setState_of ho hd hf ?_)
 refine wpAny_bind (wpAny_bind (wpAny_askSetting (wpAny_pure ?_)))
 show wpAny _ _ (if w.params.followText "set-order" = true then _ else _) _ _ _
 rw[if_pos hb,if_neg (by simp)]
 unfold setWalk setsByText
 refine wpAny_bind (wpAny_bind (wpAny_setState_of ho hd hf ?_))
 refine wpAny_bind (wpAny_bind (wpAny_askSetting (wpAny_pure ?_)))
 show wpAny _ _ (if w.params.followText "set-order" = true then _ else _) _ _ _
 rw[if_pos hb]
 refine wpAny_bind (wpAny_askSetting (wpAny_pure (wpAny_pure ?_)))
 have e:((pickOrder (w.params.setOrder a ep) es)[i]?).map (fun e=>(e.2,0))=(((pickOrder (w.params.setOrder a ep) es).toList.map (·.2))[i]?).map fun x=>(x,0):=by
  rw[getElem?_map,Option.map_map,getElem?_toList];rfl
 rw[← e] at q
 exact q
noncomputable def ub(t:SetTable)(i:Nat):Nat:=if i=0 then 0 else t.place.toList.getD (i-1) 0+1
theorem G0{L:Bool}(hT:TT L t)(i:Nat)(hi:i≤t.place.size):SetTable.below t.place (ub t i)=i:=by
 obtain⟨b1,b2,b3⟩:=UO hT.2.2 (ub t i)
 generalize SetTable.below t.place (ub t i)=p at *
 unfold ub at b2 b3
 by_cases z:i=0
 ·rw[if_pos z] at b2
  rcases Nat.eq_zero_or_pos p with y|y
  ·lia
  ·have:=b2 0 y;lia
 ·rw[if_neg z] at b2 b3
  rcases Nat.lt_trichotomy p i with y|y|y
  ·have:=b3 (i-1) (by lia) (by lia);lia
  ·exact y
  ·have h1:=b2 i y
   have h2:=Yu hT.2.2 (i:=i-1) (k:=i) (by lia) (by have:=length_toList (xs:=t.place);lia)
   lia
theorem ze5(hb:w.params.followText "set-order" = false)(hT:TT (uB w) t)(hnd:(!t.plain&&decide (es.size > 1))=false)(i:Nat)(s':Shared)(A':Around)(Q':Option (Value×Nat)→Shared→Prop)(E':Value→Shared→Prop)(hi:i≤es.size)(hS:SetAt s'.heap a es ep t)
  (q:Q' (((es.toList.map (·.2))[i]?).map fun x=>(x,ub t (i+1))) s'):wpAny (model prog w) A' (setNext a (ub t i) i ep) Q' E' s':=by
 obtain⟨⟨o,ho,_,hd⟩,hf⟩:=hS
 have hsz:t.place.size=es.size:=by
  unfold SetTable.fits at hf
  simp at hf;exact hf.1
 have hled:t.led=true:=by rw[hT.1];unfold uB;rw[hb];rfl
 unfold setNext setsByText
 refine wpAny_bind (wpAny_setState_of ho hd hf ?_)
 refine wpAny_bind (wpAny_bind (wpAny_askSetting (wpAny_pure ?_)))
 show wpAny _ _ (if w.params.followText "set-order" = true then _ else _) _ _ _
 rw[if_neg (by rw[hb];simp)]
 show wpAny _ _ (if (!t.plain&&decide (es.size > 1))=true then _ else _) _ _ _
 rw[if_neg (by rw[hnd];simp)]
 show wpAny _ _ ((if (!t.led && !es.isEmpty)=true then unsupported "set:maker-not-led" else pure ()) >>= _) _ _ _
 rw[if_neg (by rw[hled];simp)]
 refine wpAny_bind (wpAny_pure ?_)
 show wpAny _ _ (pure (match es[SetTable.below t.place (ub t i)]?,t.place[SetTable.below t.place (ub t i)]? with|some (_,x),some j=>some (x,j+1) | _,_=>none)) _ _ _
 rw[G0 hT i (by lia)]
 by_cases z:i<es.size
 ·have e1:es[i]?=some es[i]:=by simp[z]
  have e2:t.place[i]?=some (t.place.toList.getD i 0):=by
   have:i<t.place.size:=by lia
   simp[this]
  rw[e1,e2]
  have e3:((es.toList.map (·.2))[i]?).map (fun x=>(x,ub t (i+1)))=some (es[i].2,t.place.toList.getD i 0+1):=by
   rw[getElem?_map,getElem?_toList,e1]
   simp[ub]
  rw[e3] at q
  exact wpAny_pure q
 ·have e1:es[i]?=none:=by simp;lia
  rw[e1]
  have e3:((es.toList.map (·.2))[i]?).map (fun x=>(x,ub t (i+1)))=none:=by
   rw[getElem?_map,getElem?_toList,e1];rfl
  rw[e3] at q
  exact wpAny_pure q
end
open PySem PyProof.Rows
section
variable{prog:Program}{w:World}{A:Around}{E:Value→Shared→Prop}{s:Shared}{I a T:Addr}{es:Array (Int×Value)}{ep:Nat}{t:SetTable}{Q:Option Value→Shared→Prop}
noncomputable abbrev Z2(pl:List Nat):Obj:={ cls:=.type "tuple", dict:=none,data:=.seq (pl.map fun (i:Nat)=>rawInt i).toArray 0,slots:=#[] }
theorem zl6{pl:List Nat}{i:Nat}:(pl.map fun (i:Nat)=>rawInt i).toArray[i]?=(pl[i]?).map fun (p:Nat)=>rawInt p:=by
 rw[List.getElem?_toArray,getElem?_map]
theorem G7{x:Value}{p i:Nat}(hS:SetAt s.heap a es ep t)(hx:(es.toList.map (·.2))[p]?=some x){Q:Value→Shared→Prop}(q:Q x s):wpAny (model prog w) A (setNextDrawn a p ep) Q E s:=by
 obtain⟨⟨o,ho,_,hd⟩,hf⟩:=hS
 unfold setNextDrawn
 refine wpAny_bind (wpAny_setState_of ho hd hf ?_)
 dsimp only
 rw[if_neg (by simp)]
 rw[getElem?_map,getElem?_toList] at hx
 cases z:es[p]? with
 |none=>rw[z] at hx;cases hx
 |some y=>rw[z] at hx;cases hx;exact wpAny_pure q
theorem ze7{pl:List Nat}{i p:Nat}{x:Value}(hit:s.heap.get? I=some (vR (.ref T) i (.ref a) es.size ep))(hT:s.heap.get? T=some (Z2 pl))(hS:SetAt s.heap a es ep t)(hp:pl[i]?=some p)(hx:(es.toList.map (·.2))[p]?=some x)
  (hQ:∀h',h'.get? I=some (vR (.ref T) (i+1) (.ref a) es.size ep)→Heap.SameBut I s.heap h'→Q (some x) { s with heap:=h' }):wpAny (model prog w) A (pyNext (.ref I)) Q E s:=by
 obtain⟨⟨o,ho,_,hd⟩,hf⟩:=id hS
 unfold pyNext
 refine wpAny_bind (wpAny_attempt (wpAny_callSpecial?_slot (name:=Str.ofString "__next__") (Zf hit) FS.slot_next (wpAny_call_entry FS.slot_next (Zf hit) FS.entry_next ?_ (FS.args_next _))))
 show wpAny _ _ (fieldsOf (.ref I) >>= _) _ _ s
 refine wpAny_bind (wpAny_fieldsOf hit rfl ?_)
 show wpAny _ _ (setEntries a >>= _) _ _ s
 refine wpAny_bind (wpAny_setEntries_of ho hd hf ?_)
 rw[if_neg (by simp)]
 show wpAny _ _ (seqItems? (.ref T) >>= _) _ _ s
 refine wpAny_bind (wpAny_seqItems hT rfl ?_)
 show wpAny _ _ (match (pl.map fun (i:Nat)=>rawInt i).toArray[(i:Int).toNat]? with|some (.int place _)=>_|some _=>_|none=>_) _ _ s
 rw[toNat_natCast,zl6,hp]
 show wpAny _ _ (setNextDrawn a (p:Int).toNat (ep:Int).toNat >>= _) _ _ s
 rw[toNat_natCast,toNat_natCast]
 refine wpAny_bind (G7 (i:=i) hS hx (wpAny_bind (wpAny_setField_rec hit (by simp) fun h1 g1 b1=>?_)))
 exact wpAny_pure ⟨x,rfl,wpAny_pure (hQ h1 g1 b1)⟩
theorem zu3{pl:List Nat}{i:Nat}(hh:A.handled=none)(hit:s.heap.get? I=some (vR (.ref T) i (.ref a) es.size ep))(hT:s.heap.get? T=some (Z2 pl))(hS:SetAt s.heap a es ep t)(hp:pl[i]?=none)
  (hQ:∀h',(∀b o,b≠I→s.heap.get? b=some o→h'.get? b=some o)→Q none { s with heap:=h' }):wpAny (model prog w) A (pyNext (.ref I)) Q E s:=by
 obtain⟨⟨o,ho,_,hd⟩,hf⟩:=id hS
 unfold pyNext
 refine wpAny_bind (wpAny_attempt (wpAny_callSpecial?_slot (name:=Str.ofString "__next__") (Zf hit) FS.slot_next (wpAny_call_entry FS.slot_next (Zf hit) FS.entry_next ?_ (FS.args_next _))))
 show wpAny _ _ (fieldsOf (.ref I) >>= _) _ _ s
 refine wpAny_bind (wpAny_fieldsOf hit rfl ?_)
 show wpAny _ _ (setEntries a >>= _) _ _ s
 refine wpAny_bind (wpAny_setEntries_of ho hd hf ?_)
 rw[if_neg (by simp)]
 show wpAny _ _ (seqItems? (.ref T) >>= _) _ _ s
 refine wpAny_bind (wpAny_seqItems hT rfl ?_)
 show wpAny _ _ (match (pl.map fun (i:Nat)=>rawInt i).toArray[(i:Int).toNat]? with|some (.int place _)=>_|some _=>_|none=>_) _ _ s
 rw[toNat_natCast,zl6,hp]
 refine wpAny_bind (wpAny_setField_rec hit (by simp) fun h0 g0 b0=>wpAny_bind (wpAny_setField_rec g0 (by simp) fun h1 g1 b1=>wpAny_bind ?_))
 simp only[newExc,newTuple];refine wpAny_bind (wpAny_newObj_type ?_ (by size_fits))
 refine wpAny_bind (m:=firstArgMember _ _) (wpAny_of_eq (a:=Value.none) (by first|rfl | (simp only[firstArgMember];rfl)) (wpAny_newObj_type ?_ (by size_fits)))
 simp only[raiseNew];refine wpAny_bind (wpAny_handled ?_)
 rw[show A.in1.handled=none from hh];refine wpAny_bind (wpAny_pure (wpAny_throw ?_))
 refine wpAny_bind (wpAny_isInstance (T := "StopIteration") (b:=true) ⟨_,Heap.get?_push_size _ rfl,rfl⟩ isSubtype_stop (wpAny_pure (hQ _ fun b o n e=>?_)))
 exact get?_push_of_some _ (get?_push_of_some _ (by rw[b1.2 b n,b0.2 b n];exact e))
theorem L4(hh:A.handled=none)(hne:a≠I)(hne2:T≠I)(pl:List Nat)(hp:pl.Perm (List.range es.size)) :
  Walks prog w A I [I,a,T] [I] es.size (fun i v=>((pl.filterMap fun p=>(es.toList.map (·.2))[p]?))[i]?=some v) (fun i h=>h.get? I=some (vR (.ref T) i (.ref a) es.size ep)∧SetAt h a es ep t∧h.get? T=some (Z2 pl)):=by
 have hl:pl.length=es.size:=by rw[hp.length_eq,length_range]
 have hin:∀p∈pl,p<es.size:=fun p h=>by simpa using hp.mem_iff.mp h
 have ev:∀i p,pl[i]?=some p→∃x,(es.toList.map (·.2))[p]?=some x:=fun i p h=>by
  have:=hin p (mem_of_getElem? h)
  exact⟨(es.toList.map (·.2))[p]'(by simpa using this),getElem?_eq_getElem _⟩
 have fm:∀(l:List Nat),(∀p∈l,p<es.size)→l.filterMap (fun p=>(es.toList.map (·.2))[p]?)=l.map fun p=>((es.toList.map (·.2)).getD p .none):=fun l=>by
  induction l with
  |nil=>intro _;rfl
  |cons p l ih=>
   intro h
   have h1:=h p mem_cons_self
   have e:(es.toList.map (·.2))[p]?=some ((es.toList.map (·.2)).getD p .none):=by
    have:p<(es.toList.map (·.2)).length:=by simpa using h1
    simp[h1]
   rw[filterMap_cons,e,map_cons,ih fun q hq=>h q (mem_cons_of_mem _ hq)]
 refine⟨fun b hb=>by simp at hb;simp[hb],fun _ _ _ st hk=>⟨hk I (by simp) _ st.1,st.2.1.at fun o e=>hk a (by simp) o e,hk T (by simp) _ st.2.2⟩,fun i s Q E hi st hQ=>?_,fun s Q E st hQ=>?_,fun i s Q E st hQ=>?_⟩
 ·have e:pl[i]?=some pl[i]:=by simp[hl,hi]
  obtain⟨x,hx⟩:=ev i _ e
  refine ze7 (x:=x) st.1 st.2.2 st.2.1 e hx fun h' g b=>?_
  refine hQ _ h' s.toks ?_ ⟨g,st.2.1.at fun o z=>by rw[b.2 a hne];exact z,by rw[b.2 T hne2];exact st.2.2⟩ fun b' o hb z=>by rw[b.2 b' (fun y=>hb (by simp[y]))];exact z
  show(pl.filterMap fun p=>(es.toList.map (·.2))[p]?)[i]?=some x
  rw[fm pl hin,getElem?_map,e]
  have:(es.toList.map (·.2)).getD pl[i] .none=x:=by rw[getD_eq_getElem?_getD,hx];rfl
  rw[← this];rfl
 ·exact zu3 hh st.1 st.2.2 st.2.1 (by simp[hl]) fun h' k=>hQ h' s.toks fun b o hb z=>k b o (fun y=>hb (by simp[y])) z
 ·refine wpAny_pyIter_slot (Zf st.1) FS.slot_self (wpAny_call_entry FS.slot_self (Zf st.1) FS.entry_self ?_ (FS.args_self _))
  show wpAny _ _ (ret (.ref I)) _ _ s
  exact wpAny_pure ⟨_,rfl, "set_iterator", _,Zf st.1,FS.slot_next.lookup,hQ⟩
end
open PySem PyProof.Rows
section
variable{prog:Program}{w:World}{A:Around}{E:Value→Shared→Prop}{s:Shared}{a:Addr}{es:Array (Int×Value)}{ep:Nat}{t:SetTable}
theorem QJ(l:List Value):∀(ps:List Nat),(∀p∈ps,p<l.length)→ps.filterMap (fun p=>l[p]?)=ps.map fun p=>l.getD p .none:=by
 intro l_
 induction l_ with
 |nil=>
  rintro _
  exact rfl
 |cons p ps ih_=>
  rintro h
  have h1:=h p mem_cons_self
  have e:l[p]?=some (l.getD p .none):=by simp[h1]
  rw[filterMap_cons,e,map_cons,ih_ fun q hq=>h q (mem_cons_of_mem _ hq)]
noncomputable def zv6(prog:Program)(w:World)(vs:List Value)(h0:Heap)(a I:Addr)(h1:Heap):Prop:=
 ∃(fp:List Addr) (St:Nat→Heap→Prop) (ord:List Value),ord.Perm vs∧(∀A':Around,A'.handled=none→Walks prog w A' I fp [I] vs.length (fun i v=>ord[i]?=some v) St)∧St 0 h1∧(∀b∈fp,b<h1.objs.size∧(b=a∨h0.objs.size≤b))∧I∈fp∧h0.objs.size≤I∧(∀b o,h0.get? b=some o→h1.get? b=some o)∧∃o,h1.get? I=some o∧o.cls=.type "set_iterator"
theorem zh7(hS:SetAt s.heap a es ep t)(hT:TT (uB w) t)(hz:es.size<scanBound){Q:Value→Shared→Prop}(h:∀I h1 d',zv6 prog w (es.toList.map (·.2)) s.heap a I h1→Q (.ref I) { s with heap:=h1,drawn:=d' }):wpAny (model prog w) A (pyIter (.ref a)) Q E s:=by
 obtain⟨⟨o,ho,hx,hd⟩,hf⟩:=id hS
 have ty:s.TypeIs (.ref a) "set" := ⟨o,ho,hx.1⟩
 have hlt:a<s.heap.objs.size:=Heap.lt_size ho
 have hlen:(es.toList.map (·.2)).length=es.size:=by simp
 refine wpAny_pyIter_slot ty F.slot_set_iter (wpAny_call_entry F.slot_set_iter ty FS.entry_iter ?_ (F.args_set_iter_1 _))
 unfold Builtin.«frozenset.__iter__»
 refine wpAny_bind (m:=Builtin.Frozenset.slot0 "__iter__" _) (wpAny_of_eq (a:=a) rfl ?_)
 refine wpAny_bind (m:=Builtin.Frozenset.sizeOf a) ?_
 unfold Builtin.Frozenset.sizeOf
 refine wpAny_bind (wpAny_setEntries_of ho hd hf (wpAny_pure ?_))
 refine wpAny_bind (m:=setDrawn a) ?_
 unfold setDrawn setsByText
 refine wpAny_bind (wpAny_setState_of ho hd hf ?_)
 refine wpAny_bind (wpAny_bind (wpAny_askSetting (wpAny_pure (wpAny_pure ?_))))
 show wpAny _ _ (if (!w.params.followText "set-order" && (!t.plain&&decide (es.size > 1)))=true then _ else _) _ _ _
 have fin:∀(f:Value) (h1:Heap) (d':_),SetAt h1 a es ep t→(∀I h2,h2.get? I=some (vR f 0 (.ref a) es.size ep)→I=h1.objs.size→h2=h1.push (vR f 0 (.ref a) es.size ep)→Q (.ref I) { s with heap:=h2,drawn:=d' }) →
   wpAny (model prog w) A.in1 (do ret (← newFields "set_iterator" [f,rawInt 0,.ref a,rawInt es.size,rawInt (← setEpoch a)]):Sem PySem.Fin) (fun fin s'=>∃v,fin=.done (.ret v)∧∃T r,s'.TypeIs v T∧typeLookup (.type T) (Str.ofString "__next__")=pure (some r)∧Q v s') E { s with heap:=h1,drawn:=d' }:=fun f h1 d' hS1 q=>by
  obtain⟨⟨o1,ho1,_,hd1⟩,hf1⟩:=hS1
  refine wpAny_bind (wpAny_setEpoch_of ho1 hd1 hf1 (wpAny_bind (wpAny_newObj_type ?_)))
  refine wpAny_pure ⟨_,rfl, "set_iterator", _,⟨_,Heap.get?_push_size _ rfl,rfl⟩,FS.slot_next.lookup,q _ _ (Heap.get?_push_size _ rfl) rfl rfl⟩
 by_cases hb:w.params.followText "set-order" = true
 ·rw[if_neg (by rw[hb];simp)]
  refine wpAny_bind (wpAny_pure (fin (rawInt 0) s.heap s.drawn hS fun I h2 g e1 e2=>?_))
  refine h I h2 s.drawn ⟨[I,a],fun i h=>h.get? I=some (vR (.int ((0:Nat):Int) 0) i (.ref a) es.size ep)∧SetAt h a es ep t,(pickOrder (w.params.setOrder a ep) es).toList.map (·.2),(Wk _ _).map _,fun A' hh=>?_,⟨g,hS.at fun o z=>by rw[e2];exact get?_push_of_some _ z⟩,fun b hm=>?_,by simp,by rw[e1];exact le_refl _,fun b o z=>by rw[e2];exact get?_push_of_some _ z,_,g,rfl⟩
  ·rw[hlen]
   exact JP (t:=t) (ep:=ep) hh (by rw[e1];exact ne_of_lt hlt) _ (by rw[length_map,(Wk _ _).length_eq];simp) (fun _=>0) fun i s' A' Q' E' _ hS' q=>zr0 hb i s' A' Q' E' hS' q
  ·rw[e2,Heap.size_push]
   rcases mem_cons.mp hm with rfl|hm
   ·rw[e1];exact⟨lt_succ_self _,.inr (le_refl _)⟩
   ·obtain rfl:=mem_singleton.mp hm;exact⟨lt_succ_of_lt hlt,.inl rfl⟩
 ·have hb':w.params.followText "set-order" = false:=by simpa using hb
  by_cases hn:(!t.plain&&decide (es.size > 1))=true
  ·rw[if_pos (by rw[hb',hn];rfl)]
   refine wpAny_bind (Ly es.size (List.range es.size) s _ length_range fun pl d' hp=>wpAny_bind (wpAny_newObj_type ?_ ?_))
   ·have hS1:SetAt (s.heap.push (Z2 pl)) a es ep t:=hS.at fun o z=>get?_push_of_some _ z
    refine fin (.ref s.heap.objs.size) (s.heap.push (Z2 pl)) d' hS1 fun I h2 g e1 e2=>?_
    have gT:h2.get? s.heap.objs.size=some (Z2 pl):=by rw[e2];exact get?_push_of_some _ (Heap.get?_push_size _ rfl)
    have sz:(s.heap.push (Z2 pl)).objs.size=s.heap.objs.size+1:=Heap.size_push _ _
    refine h I h2 d' ⟨[I,a,s.heap.objs.size],fun i h=>h.get? I=some (vR (.ref s.heap.objs.size) i (.ref a) es.size ep)∧SetAt h a es ep t∧h.get? s.heap.objs.size=some (Z2 pl),pl.filterMap (fun p=>(es.toList.map (·.2))[p]?),?_,fun A' hh=>?_,⟨g,hS1.at fun o z=>by rw[e2];exact get?_push_of_some _ z,gT⟩,fun b hm=>?_,by simp,by rw[e1,sz];exact le_succ _,fun b o z=>by rw[e2];exact get?_push_of_some _ (get?_push_of_some _ z),_,g,rfl⟩
    ·refine(hp.filterMap _).trans ?_
     have:(List.range es.size).filterMap (fun p=>(es.toList.map (·.2))[p]?)=es.toList.map (·.2):=by
      rw[← hlen]
      generalize es.toList.map (·.2)=l
      rw[QJ l _ fun p hp=>mem_range.mp hp]
      refine ext_getElem (by simp) fun i h1 h2=>?_
      simp[h2]
     rw[this]
    ·rw[hlen]
     exact L4 (t:=t) hh (by rw[e1,sz];exact ne_of_lt (lt_succ_of_lt hlt)) (by rw[e1,sz];exact ne_of_lt (lt_succ_self _)) pl hp
    ·rw[e2,Heap.size_push,sz]
     rcases mem_cons.mp hm with rfl|hm
     ·rw[e1,sz];exact⟨lt_succ_self _,.inr (le_succ _)⟩
     ·rcases mem_cons.mp hm with rfl|hm
      ·exact⟨lt_succ_of_lt (lt_succ_of_lt hlt),.inl rfl⟩
      ·obtain rfl:=mem_singleton.mp hm;exact⟨lt_succ_of_lt (lt_succ_self _),.inr (le_refl _)⟩
   ·show(pl.map fun (i:Nat)=>rawInt i).toArray.size≤sizeLine
    rw[size_toArray,length_map,hp.length_eq,length_range]
    exact fits_of_scanBound hz
  ·have hn':(!t.plain&&decide (es.size > 1))=false:=by simpa using hn
   rw[if_neg (by rw[hn'];simp)]
   refine wpAny_bind (wpAny_pure (fin (rawInt 0) s.heap s.drawn hS fun I h2 g e1 e2=>?_))
   refine h I h2 s.drawn ⟨[I,a],fun i h=>h.get? I=some (vR (.int ((ub t i:Nat):Int) 0) i (.ref a) es.size ep)∧SetAt h a es ep t,es.toList.map (·.2),List.Perm.refl _,fun A' hh=>?_,⟨g,hS.at fun o z=>by rw[e2];exact get?_push_of_some _ z⟩,fun b hm=>?_,by simp,by rw[e1];exact le_refl _,fun b o z=>by rw[e2];exact get?_push_of_some _ z,_,g,rfl⟩
   ·rw[hlen]
    exact JP (t:=t) (ep:=ep) hh (by rw[e1];exact ne_of_lt hlt) _ hlen (ub t) fun i s' A' Q' E' hi hS' q=>ze5 hb' hT hn' i s' A' Q' E' hi hS' q
   ·rw[e2,Heap.size_push]
    rcases mem_cons.mp hm with rfl|hm
    ·rw[e1];exact⟨lt_succ_self _,.inr (le_refl _)⟩
    ·obtain rfl:=mem_singleton.mp hm;exact⟨lt_succ_of_lt hlt,.inl rfl⟩
end
open PySem PyProof.Rows
section
variable{prog:Program}{w:World}{A:Around}{E:Value→Shared→Prop}{s:Shared}{a:Addr}{es:Array (Int×Value)}{ep:Nat}{t:SetTable}
noncomputable abbrev emp:Obj:={ cls:=.type "list", data:=.seq ([]:List Value).toArray }
theorem zi0(hS:SetAt s.heap a es ep t){Q:Bool→Shared→Prop}(q:Q false s):wpAny (model prog w) A (Builtin.List.listLengthHint (.ref a)) Q E s:=by
 obtain⟨⟨o,ho,hx,hd⟩,hf⟩:=hS
 have ty:s.TypeIs (.ref a) "set" := ⟨o,ho,hx.1⟩
 unfold Builtin.List.listLengthHint
 refine wpAny_bind (wpAny_specialOf ty F.slot_set_len.lookup ?_)
 have e1:splitId "set.__len__" = some ("set", "__len__"):=by kernel_rfl
 dsimp only
 rw[e1]
 dsimp only
 refine wpAny_bind (wpAny_isInstance ty sub_set_self ?_)
 rw[if_neg (by simp),if_pos (by kernel_rfl)]
 refine wpAny_bind (wpAny_typeOf ty ?_)
 exact wpAny_pure q
end
open PySem PyProof.Rows
section
variable{prog:Program}{w:World}{A:Around}{E:Value→Shared→Prop}{s:Shared}{a:Addr}{es:Array (Int×Value)}{ep:Nat}{t:SetTable}
theorem JE(hS:SetAt s.heap a es ep t)(hT:TT (uB w) t)(hz:es.size<scanBound)(hh:A.handled=none){Q:List Value→Shared→Prop}(q:∀(ord:List Value) h' d' tk,ord.Perm (es.toList.map (·.2))→(∀b o,s.heap.get? b=some o→h'.get? b=some o)→s.heap.objs.size<h'.objs.size→Q ord { s with heap:=h',drawn:=d',toks:=tk }) :
  wpAny (model prog w) A (collect (.ref a)) Q E s:=by
 obtain⟨⟨o,ho,hx,hd⟩,hf⟩:=id hS
 have hlt:a<s.heap.objs.size:=Heap.lt_size ho
 unfold collect
 refine wpAny_bind (wpAny_runValue (codeAny_builtin F.entry_proto_collect ?_));rw[Around.under_plainId F.plain_proto_collect _]
 show wpAny _ A.in1 (newList [] >>= fun l=>again (.builtin "list.__iadd__" ⟨[l,.ref a],[]⟩)) _ _ s
 refine wpAny_bind (wpAny_newObj_type (wpAny_pure ⟨plainId_quiet F.plain_list_iadd _,codeAny_builtin F.entry_list_iadd ?_⟩));rw[Around.under_plainId F.plain_list_iadd _]
 have hS1:SetAt (s.heap.push emp) a es ep t:=hS.at fun o z=>get?_push_of_some _ z
 show wpAny _ A.in1 (Builtin.List.listExtendWith (.ref s.heap.objs.size) (.ref a) (.ref s.heap.objs.size)) _ _ _
 unfold Builtin.List.listExtendWith
 refine wpAny_bind (wpAny_typeOf (T := "set") ⟨o,get?_push_of_some _ ho,hx.1⟩ ?_)
 have c1:Builtin.List.listSameRef (.ref s.heap.objs.size) (.ref a)=false:=by
  have:s.heap.objs.size≠a:=ne_of_gt hlt
  simp[Builtin.List.listSameRef,this]
 have c2:(Value.type "set" == Value.type "list")=false:=by decide
 have c3:(Value.type "set" == Value.type "tuple")=false:=by decide
 simp only[c1,c2,c3,Bool.or_false,Bool.false_eq_true,if_false]
 refine wpAny_bind (zh7 (s:={ s with heap:=s.heap.push emp }) hS1 hT hz fun I h1 d' W=>?_)
 obtain⟨fp,St,ord,w1,w2,w3,w4,w5,w6,w7,_⟩:=W
 have sz1:(s.heap.push emp).objs.size=s.heap.objs.size+1:=Heap.size_push _ _
 have hlen:(es.toList.map (·.2)).length=es.size:=by simp
 refine wpAny_bind (wpAny_holding (zi0 (s:={ s with heap:=h1,drawn:=d' }) (hS1.at fun o z=>w7 a o z) ?_))
 rw[if_pos (by kernel_rfl)]
 refine wpAny_bind (wpAny_rule (wpAny_bind ?_))
 show wpAny _ A.in1 (updateSeq s.heap.objs.size (·.push .none) >>= fun _=>updateSeq s.heap.objs.size (·.pop)) _ _ _
 have g1:h1.get? s.heap.objs.size=some emp:=w7 _ _ (Heap.get?_push_size _ rfl)
 refine wpAny_bind (wpAny_updateSeq g1 rfl ?_)
 have g2:=Heap.get?_update_self (Obj.mapSeq (·.push Value.none)) g1 rfl
 refine wpAny_updateSeq g2 rfl ?_
 have g3:=Heap.get?_update_self (Obj.mapSeq (·.pop)) g2 rfl
 have oth:∀b o,b≠s.heap.objs.size→h1.get? b=some o→((h1.update s.heap.objs.size (Obj.mapSeq (·.push Value.none))).update s.heap.objs.size (Obj.mapSeq (·.pop))).get? b=some o:=fun b o hb e=>
  (Heap.get?_update_other _ _ (Ne.symm hb)).trans ((Heap.get?_update_other _ _ (Ne.symm hb)).trans e)
 have W':=(w2 A.in1 (by simp[hh])).toS
 have hSf:s.heap.objs.size∉fp:=fun hm=>by
  rcases (w4 _ hm).2 with e|e
  ·exact lt_irrefl _ (e ▸ hlt)
  ·have e':(s.heap.push emp).objs.size≤s.heap.objs.size:=e
   rw[sz1] at e';exact Nat.not_succ_le_self _ e'
 have st1:=W'.frame 0 { s with heap:=h1,drawn:=d' } ((h1.update s.heap.objs.size (Obj.mapSeq (·.push Value.none))).update s.heap.objs.size (Obj.mapSeq (·.pop))) s.toks w3 (by simp) fun b hb o e=>oth b o (fun h=>hSf (h ▸ hb)) e
 refine wpAny_pure ⟨plainId_quiet F.plain_extend_loop _,codeAny_extend_loopS (A:=A) W' (by rw[hlen];exact fits_of_scanBound hz) _ hSf _ _ 0 _ _ _ rfl (zero_le _) st1 g3 (ItemsOf.nil _) fun s' acc' c' hm hS' hacc=>?_⟩
 show wpAny _ A (load s.heap.objs.size >>= _) _ _ s'
 refine wpAny_bind (wpAny_load hS' (wpAny_pure ?_))
 have eq:s' = { s with heap:=s'.heap,drawn:=d',toks:=s'.toks }:=by
  obtain⟨_,g,d,o,_⟩:=hm
  cases s';simp only at g d o;subst g;subst d;subst o;rfl
 rw[eq]
 have ea:acc'.toList=ord:=by
  refine List.ext_getElem? fun i=>?_
  by_cases hi:i<acc'.size
  ·have:=hacc.2 i (acc'[i]) (by simp[hi])
   rw[this];simp[hi]
  ·have:ord.length=acc'.size:=by rw[w1.length_eq,hacc.1]
   simp[hi,this]
 rw[ea]
 refine q ord _ _ _ w1 (fun b o hb=>hm.heap b o ?_ ?_) (Heap.lt_size hS')
 ·have hb':=Heap.lt_size hb
  intro h
  rcases mem_cons.mp h with e|h
  ·exact lt_irrefl _ (e ▸ hb')
  ·have e:=mem_singleton.mp h
   have e':(s.heap.push emp).objs.size≤I:=w6
   rw[sz1] at e';subst e;exact lt_irrefl _ (lt_of_lt_of_le hb' (Nat.le_of_succ_le e'))
 ·exact oth b o (ne_of_lt (Heap.lt_size hb)) (w7 b o (get?_push_of_some _ hb))
end
open PySem PyProof.Rows
noncomputable def Xu(a:Int):List Int→List Int
 |[]=>[a]
 |b::r=>if a<b then a::b::r else if a=b then b::r else b::Xu a r
noncomputable def setZ:List Int→List Int
 |[]=>[]
 |a::r=>Xu a (setZ r)
theorem Xt(a x:Int):∀l,x∈Xu a l↔x=a∨x∈l:=by
 intro l_
 induction l_ with
 |nil=>
  simp[Xu]
 |cons b r ih_=>
  unfold Xu;split
  ·simp
  ·split
   ·rename_i h;subst h;simp
   ·rw[mem_cons,ih_,mem_cons]
    exact⟨fun h=>h.elim (fun e=>.inr (.inl e)) fun h=>h.elim .inl fun h=>.inr (.inr h),fun h=>h.elim (fun e=>.inr (.inl e)) fun h=>h.elim .inl fun h=>.inr (.inr h)⟩
theorem setZ_mem(x:Int):∀l,x∈setZ l↔x∈l:=by
 intro l_
 induction l_ with
 |nil=>
  simp[setZ]
 |cons a r ih_=>
  rw[setZ,Xt,ih_,mem_cons]
theorem QE(a:Int):∀l:List Int,l.Pairwise (· < ·)→(Xu a l).Pairwise (· < ·):=by
 intro l_
 induction l_ with
 |nil=>
  rintro _
  simp[Xu]
 |cons b r ih_=>
  rintro h
  have h':=pairwise_cons.mp h
  unfold Xu;split
  ·rename_i z
   refine pairwise_cons.mpr ⟨fun x hx=>?_,h⟩
   rcases mem_cons.mp hx with rfl|hx
   ·exact z
   ·exact Int.lt_trans z (h'.1 x hx)
  ·split
   ·exact h
   ·refine pairwise_cons.mpr ⟨fun x hx=>?_,ih_ h'.2⟩
    rcases (Xt a x r).mp hx with rfl|hx
    ·lia
    ·exact h'.1 x hx
theorem setZ_up:∀l:List Int,(setZ l).Pairwise (· < ·):=by
 intro l_
 induction l_ with
 |nil=>
  exact .nil
 |cons a r ih_=>
  exact QE a _ (ih_)
theorem up_same:∀{l m:List Int},l.Pairwise (· < ·)→m.Pairwise (· < ·)→(∀x,x∈l↔x∈m)→l=m
 |[],[],_,_,_=>rfl
 |[],b::m,_,_,h=>by have:=(h b).mpr mem_cons_self;cases this
 |a::l,[],_,_,h=>by have:=(h a).mp mem_cons_self;cases this
 |a::l,b::m,h1,h2,h=>by
  have g1:=pairwise_cons.mp h1
  have g2:=pairwise_cons.mp h2
  have e:a=b:=by
   rcases mem_cons.mp ((h a).mp mem_cons_self) with e|e
   ·exact e
   ·rcases mem_cons.mp ((h b).mpr mem_cons_self) with e' | e'
    ·exact e'.symm
    ·have:=g2.1 a e;have:=g1.1 b e';lia
  subst e
  refine congrArg _ (up_same g1.2 g2.2 fun x=>⟨fun hx=>?_,fun hx=>?_⟩)
  ·rcases mem_cons.mp ((h x).mp (mem_cons_of_mem _ hx)) with e|e
   ·subst e;exact absurd (g1.1 x hx) (Int.lt_irrefl _)
   ·exact e
  ·rcases mem_cons.mp ((h x).mpr (mem_cons_of_mem _ hx)) with e|e
   ·subst e;exact absurd (g2.1 x hx) (Int.lt_irrefl _)
   ·exact e
theorem setZ_le:∀l:List Int,(setZ l).length≤l.length:=by
 intro l_
 induction l_ with
 |nil=>
  exact le_refl _
 |cons a r ih_=>
  have:∀l:List Int,(Xu a l).length≤l.length+1:=fun l=>by
   induction l with
   |nil=>simp[Xu]
   |cons b r ih=>
    unfold Xu;split
    ·simp
    ·split
     ·simp
     ·simp only[length_cons];lia
  have h1:=this (setZ r);have h2:=ih_
  rw[setZ,length_cons];lia
theorem Qc:∀{m l:List Int},m.Nodup→(∀x,x∈m→x∈l)→l.length≤m.length→m.Perm l
 |[],l,_,_,h=>by rw[List.length_eq_zero_iff.mp (Nat.le_zero.mp h)]
 |a::m,l,hn,hs,h=>by
  have h':=nodup_cons.mp hn
  have ha:=hs a mem_cons_self
  refine((Qc (l:=l.erase a) h'.2 (fun x hx=>?_) ?_).cons a).trans (List.perm_cons_erase ha).symm
  ·exact(List.mem_erase_of_ne (fun e:x=a=>h'.1 (by rw[← e];exact hx))).mpr (hs x (mem_cons_of_mem _ hx))
  ·rw[List.length_erase_of_mem ha];simp only[length_cons] at h;lia
theorem uZ(val:Nat→Int):∀n,(firstMet val n).Nodup:=by
 intro l_
 induction l_ with
 |zero=>
  exact .nil
 |succ n ih_=>
  rw[firstMet_succ];unfold step_dedup
  split
  ·exact ih_
  ·rename_i h
   have h:val n∉firstMet val n:=fun q=>h (List.any_eq_true.mpr ⟨_,q,by simp⟩)
   first
    |exact List.nodup_append.mpr ⟨ih_,by simp,fun x hx y hy=>by have:=mem_singleton.mp hy;subst this;exact fun e=>h (e ▸ hx)⟩
    | exact nodup_cons.mpr ⟨h,ih_⟩
theorem zu0(ns:List Int)(x:Int):x∈fm ns ns.length↔x∈ns:=by
 have h:=firstMet_any (fun i=>ns.getD i 0) ns.length x
 have e:(List.range ns.length).map (fun i=>ns.getD i 0)=ns:=ext_getElem (by simp) fun i h1 h2=>by simp[h2]
 rw[e] at h
 have a:∀l:List Int,l.any (· == x)=true↔x∈l:=fun l=>by simp
 rw[← a,h,a]
theorem Vg:∀{vs:List Value},(∀v∈vs,∃k,Value.isInt k v=true)→∃ns,IntsAre vs ns
 |[],_=>⟨[],.nil⟩
 |v::vs,h=>by
  obtain⟨k,hk⟩:=h v mem_cons_self
  obtain⟨t,rfl⟩:=Value.isInt_shape hk
  obtain⟨ns,hn⟩:=Vg fun v hv=>h v (mem_cons_of_mem _ hv)
  exact⟨k::ns,.cons k t hn⟩
theorem Um:∀{vs:List Value} {ns:List Int},IntsAre vs ns→∀x,x∈ns↔∃v∈vs,Value.isInt x v=true
 |_,_,.nil,x=>by simp
 |_,_,.cons n t r,x=>by
  rw[mem_cons,Um r x]
  constructor
  ·rintro (rfl|⟨v,hv,h⟩)
   ·exact⟨_,mem_cons_self,by simp[Value.isInt]⟩
   ·exact⟨v,mem_cons_of_mem _ hv,h⟩
  ·rintro⟨v,hv,h⟩
   rcases mem_cons.mp hv with rfl|hv
   ·exact .inl (Value.isInt_inj _ _ _ h (by simp[Value.isInt]))
   ·exact .inr ⟨v,hv,h⟩
noncomputable def intOf:Value→Int
 |.int n _=>n
 |_=>0
theorem ints_map:∀{vs:List Value} {ns:List Int},IntsAre vs ns→ns=vs.map intOf
 |_,_,.nil=>rfl
 |_,_,.cons n t r=>by rw[map_cons,← ints_map r];rfl
theorem GS{vs us:List Value}{ns:List Int}(h:IntsAre vs ns)(p:us.Perm vs):∃ms,IntsAre us ms∧ms.Perm ns:=by
 obtain⟨ms,hm⟩:=Vg (vs:=us) fun v hv=>by
  have hv':=p.mem_iff.mp hv
  clear p hv
  induction h with
  |nil=>cases hv'
  |cons n t r ih=>
   rcases mem_cons.mp hv' with rfl|hv'
   ·exact⟨n,by simp[Value.isInt]⟩
   ·exact ih hv'
 refine⟨ms,hm,?_⟩
 rw[ints_map hm,ints_map h];exact p.map _
section
variable{prog:Program}{w:World}{A:Around}{E:Value→Shared→Prop}{s:Shared}{a:Addr}{ns:List Int}{n:Nat}
theorem zb1{h:Heap}(hS:SetT (intKind prog w) (uB w) h a (fun k=>(fm ns ns.length).any (· == k)) (fm ns ns.length).length) :
  ∃es ep t,SetAt h a es ep t∧TT (uB w) t∧es.size<scanBound∧∃ms,IntsAre (es.toList.map (·.2)) ms∧ms.Perm (fm ns ns.length):=by
 obtain⟨o,es,ep,t,ho,hx,hd,hel,hmem,hb,hf,hn,hT⟩:=hS
 refine⟨es,ep,t,⟨⟨o,ho,hx,hd⟩,hf⟩,hT,hb,?_⟩
 obtain⟨ms,hm⟩:=Vg (vs:=es.toList.map (·.2)) fun v hv=>by
  obtain⟨e,he,rfl⟩:=mem_map.mp hv
  obtain⟨⟨k,hk,_⟩,_⟩:=hel e he
  exact⟨k,hk⟩
 refine⟨ms,hm,(Qc (uZ _ _) (fun x hx=>(Um hm x).mpr ?_) ?_).symm⟩
 ·obtain⟨e,he,hk⟩:=(hmem x).mp (List.any_eq_true.mpr ⟨x,hx,by simp⟩)
  exact⟨e.2,List.mem_map_of_mem he,hk⟩
 ·have:=hm.length;simp only[length_map,length_toList] at this;rw[← this,hn];exact le_refl _
theorem sortSet(hh:A.handled=none)(hS:SetT (intKind prog w) (uB w) s.heap a (fun k=>(fm ns ns.length).any (· == k)) (fm ns ns.length).length)(h64:ns.length<64){Q:Value→Shared→Prop}
  (q:∀h' d' tk b (out:List Value) e,h'.get? b=some (seqObj "list" out.toArray e)→IntsAre out (setZ ns)→s.heap.objs.size≤b→(∀b o,s.heap.get? b=some o→h'.get? b=some o)→Q (.ref b) { s with heap:=h',drawn:=d',toks:=tk }) :
  wpAny (model prog w) A (call (.builtin "sorted") [.ref a]) Q E s:=by
 obtain⟨es,ep,t,hA,hT,hb,ms,hm,hp⟩:=zb1 hS
 refine Calls.call_function_entry kind_sorted plain_sorted entry_sorted (args_sorted1 _) ?_
 unfold Builtin.«sorted»
 refine wpAny_bind (m:=checkCount "sorted" 1 1 _) (wpAny_pure ?_)
 refine wpAny_bind (JE hA hT hb (by simp[hh]) fun ord h1 d' tk po hk hz=>?_)
 obtain⟨ms',hm',hp'⟩:=GS hm po
 have hl:ord.length<64:=by
  have e1:=hm'.length;have e2:=(hp'.trans hp).length_eq;have e3:=firstMet_length_le (fun i=>ns.getD i 0) ns.length
  have e2':ms'.length=(firstMet (fun i=>ns.getD i 0) ns.length).length:=e2
  lia
 refine wpAny_bind (wpAny_newList ?_ (fits_of_scanBound (by rw[po.length_eq,length_map,length_toList];exact hb)))
 have hoL:(h1.push (seqObj "list" ord.toArray 0)).get? h1.objs.size=some (seqObj "list" ord.toArray 0):=Heap.get?_push_size _ rfl
 show wpAny _ _ _ _ _ { s with heap:=h1.push (seqObj "list" ord.toArray 0),drawn:=d',toks:=tk }
 refine wpAny_bind (wpAny_holding (wpAny_call_entry slot_list_sort ⟨_,hoL,rfl⟩ entry_list_sort (list_sort_tree (s:={ s with heap:=h1.push (seqObj "list" ord.toArray 0),drawn:=d',toks:=tk }) hoL hm' hl fun out ns' a1 a2 a3=>⟨_,rfl,?_⟩) (args_list_sort _)))
 obtain⟨e,he⟩:=sortedHeap_at (out:=out) hoL
 have key:ns'=setZ ns:=by
  have nd:ns'.Nodup:=((a2.trans (hp'.trans hp)).nodup_iff).mpr (uZ _ _)
  refine up_same ?_ (setZ_up ns) fun x=>?_
  ·exact List.Pairwise.imp₂ (fun a b h1 h2=>by lia) a3 nd
  ·rw[setZ_mem,(a2.trans (hp'.trans hp)).mem_iff];exact zu0 ns x
 subst key
 refine wpAny_pure ⟨_,rfl,q _ _ _ h1.objs.size out.toList e (by rw[Array.toArray_toList];exact he) a1 (le_of_lt hz) fun b o hb=>?_⟩
 have hb1:=hk b o hb
 have hlt:=Heap.lt_size hb1
 rw[sortedHeap_old (ne_of_lt hlt) (by rw[size_push'];exact lt_succ_of_lt hlt)]
 exact get?_push_of_some _ hb1
end
end STW
set_option Elab.async false
set_option linter.all false
set_option maxRecDepth 100000
namespace FD
open PySem PySem.Spec PyProof.Rows L2
variable[Tabs]
noncomputable def Z9:List D→Option (List Int)
 |[]=>some []
 |.int i::r=>(Z9 r).map (i :: ·)
 |_::_=>none
omit [Tabs] in
theorem Up:∀{ds:List D} {ns:List Int},Z9 ds=some ns→ds=ns.map D.int
 |[],ns,h=>by cases h;rfl
 |d::r,ns,h=>by
  cases d with
  |int i=>
   simp only[Z9] at h
   cases q:Z9 r with
   |none=>rw[q] at h;cases h
   |some m=>rw[q] at h;cases h;rw[map_cons,← Up q]
  |_=>cases h
omit [Tabs] in
theorem Js(ns:List Int):Z9 (ns.map D.int)=some ns:=by
 induction ns with
 |nil=>rfl
 |cons n ns ih=>rw[map_cons,Z9,ih];rfl
omit [Tabs] in
theorem YK:∀{vs:List Value} {ns:List Int},IntsAre vs ns→Vals (ns.map V.int) vs
 |_,_,.nil=>.nil
 |_,_,.cons n t r=>.cons ⟨t,rfl⟩ (YK r)
noncomputable def VI:List D→Rs (List D)
 |[.lst ds]=>match Z9 ds with
  |some ns=>if ns.length<64 then .ok ((STW.setZ ns).map D.int) else .no
  |none=>.no
 |_=>.no
section
variable{X:Cx}{e:Expr}{pos:Pos}{fs:FA}
theorem GR{pins:List (Addr×Obj)}{σ:St}{H:Hp}{s:Shared}(d:Drawn)(I:Inv X pins σ H s):Inv X pins σ H { s with drawn:=d }:=
 ⟨I.ok,I.os,I.bare,I.base,I.loc,I.cell,I.free,I.freeC,I.pin,I.hok,I.len⟩
theorem VX{p p2 pos2:Pos}(hc:X.calm=true)(hl:Gl X "sorted")(hml:X.mg "sorted" = none)(hg:Gl X "set")(hm:X.mg "set" = none)(ha:PDA X [e] fs)(hs:starEach [e] X.env=[(false,eval e X.env)]:=by rfl)
  (he:starEach [.Call (.Name "set" p2) [e] [] pos2] X.env=(false,eval (.Call (.Name "set" p2) [e] [] pos2) X.env)::starEach [] X.env:=by rfl) (hpl:(backTo pos (starEach [] X.env)).any (·.1)=false:=by rfl) :
  PDF X (.Call (.Name "sorted" p) [.Call (.Name "set" p2) [e] [] pos2] [] pos) (fun τ=>(fs τ).bind VI):=by
 rintro pins s σ H Q I ⟨F,τ,R,h⟩
 refine wpAny_Call_Name_kw (wS I hl hml boot_sorted ?_)
 refine PyProof.Rows.callWith_builtin1 ?_ he hpl
 rw[he]
 show wpAny _ _ (spliced ((false,eval (.Call (.Name "set" p2) [e] [] pos2) X.env)::backTo pos (starEach [] X.env))) _ _ s
 refine Calls.spliced_cons ?_
 have h:=h.bind
 generalize hG:(fun ds=>Ok X (VI ds) fun ds=>∀(p:Addr) (vs:List V) (F' H':Hp),Ext F H F' H'→H' p=none→Reps X.K F' ds vs→Q (V.ref p) (upd H' p (HO.lst vs)))=G at h
 refine Call_ (wS I hg hm boot_set (PyProof.Rows.callWith_type1 (thn (ha pos2 pins s σ H (fun vs H1=>∃ds F1,G ds∧Ext F H F1 H1∧RV X.K F1 τ σ H1∧Reps X.K F1 ds vs) I (tAs.of R h fun ds vs F1 H1 g x R1 r=>⟨ds,F1,g,x,R1,r⟩)) fun us s1 z_=>?_) hs rfl))
 obtain⟨vs,H1,I1,r1,ds,F1,g,x,R1,r⟩:=z_
 subst hG
 obtain⟨ns,e1,h64,gq⟩:∃ns:List Int,ds=[.lst (ns.map D.int)]∧ns.length<64∧∀(p:Addr) (vs:List V) (F' H':Hp),Ext F H F' H'→H' p=none→Reps X.K F' ((STW.setZ ns).map D.int) vs→Q (V.ref p) (upd H' p (HO.lst vs)):=by
  unfold VI at g
  split at g
  ·rename_i ds'
   cases q:Z9 ds' with
   |none=>rw[q] at g;exact g.elim
   |some ns=>
    rw[q] at g
    obtain⟨z,g⟩:=yz g
    exact⟨ns,by rw[Up q],z,g⟩
  ·exact g.elim
 subst e1
 obtain⟨v,rfl,r2⟩:=r.one
 simp only[Rep] at r2
 obtain⟨l,ws,rfl,e1,t⟩:=r2
 cases r1 with
 |cons ra rr=>
  cases rr;cases ra
  obtain⟨its,rv,⟨o,nn,eo,hcl,hd0,hd⟩,hz⟩:=I1.list (SqL.of (K:=X.K) (R1.fh _ _ e1))
  have hi:IntsAre its ns:=uV t rv
  have hlen:=hi.length
  refine STW.callSet (I1.ok.hd hc) ⟨o,eo,hcl,nn,hd⟩ (by simpa using hi) (by rw[size_toArray,hlen];exact Nat.lt_of_le_of_lt (Nat.succ_le_of_lt h64) (by decide)) fun h' tk hS hk=>?_
  have hlen':its.toArray.size=ns.length:=by simpa using hlen
  rw[hlen'] at hS
  refine Calls.spliced_nil ?_
  refine STW.sortSet (s:={ s1 with heap:=h',toks:=tk }) (I1.ok.hd hc) hS h64 fun h2 d2 tk2 b out ep hb ho hsz hk2=>?_
  have kk:∀c u,s1.heap.get? c=some u→h2.get? c=some u:=fun c u q=>hk2 c u (hk c u (Heap.lt_size q) q)
  have hp:s1.heap.objs.size≤b:=by
   obtain⟨o2,_,_,_,ho2,_⟩:=hS
   exact le_trans (le_of_lt (Heap.lt_size ho2)) hsz
  have I2:=GR d2 I1
  have nH:H1 b=none:=I1.hok.fresh hp
  have ll:((STW.setZ ns).map V.int).length≤sizeLine:=by
   rw[length_map]
   exact le_of_lt (yS (by have:=STW.setZ_le ns;lia))
  exact⟨.ref b,_,I2.laid (t':=tk2) (o:=.lst ((STW.setZ ns).map V.int)) kk hp ⟨ll,out,ep,YK ho,hb⟩,rfl,gq b _ F1 H1 x nH (Reps.ints _)⟩
end
section
variable{X:Cx}
end
end FD
set_option Elab.async false
set_option linter.all false
namespace L2
open PySem PySem.Spec PyProof.Rows
section
variable{κ:Type}[DecidableEq κ]
noncomputable def jq(kvs:List (κ×V))(k:κ):Option V:=(kvs.find? fun kv=>decide (kv.1=k)).map (·.2)
noncomputable def ZC(kvs:List (κ×V))(k:κ)(v:V):List (κ×V):=
 if (kvs.any fun kv=>decide (kv.1=k))=true then kvs.map (fun kv=>if kv.1=k then (kv.1,v) else kv) else kvs++[(k,v)]
theorem jO{p:κ×V}{r:List (κ×V)}{k:κ}(e:p.1=k):jq (p::r) k=some p.2:=by simp[jq,find?_cons,e]
theorem uF{p:κ×V}{r:List (κ×V)}{k:κ}(e:¬ p.1=k):jq (p::r) k=jq r k:=by simp[jq,find?_cons,e]
theorem YM(k:κ):∀kvs:List (κ×V),(kvs.any fun kv=>decide (kv.1=k))=(jq kvs k).isSome:=by
 intro l_
 induction l_ with
 |nil=>
  exact rfl
 |cons p r ih_=>
  rw[any_cons]
  by_cases e:p.1=k
  ·simp only[jO e,decide_eq_true e,Bool.true_or,Option.isSome_some]
  ·rw[uF e,decide_eq_false e,Bool.false_or];exact ih_
theorem Z3(kvs:List (κ×V))(k:κ)(v:V):(ZC kvs k v).length≤kvs.length+1:=by
 unfold ZC
 split
 ·rw[length_map];lia
 ·rw[length_append,length_cons,length_nil];lia
theorem RelO.isSome_eq{o:Option V}{u:Option Value}(r:RelO o u):o.isSome=u.isSome:=by
 cases o with
 |none=>cases u with
  |none=>rfl
  |some _=>exact(show False from r).elim
 |some _=>cases u with
  |none=>exact(show False from r).elim
  |some _=>rfl
theorem KV.val{kvs:List (κ×V)}{vs:List (κ×Value)}(r:KV kvs vs)(k:κ):RelO (jq kvs k) (valueAt vs k):=by
 unfold KV at r
 induction r with
 |nil=>exact True.intro
 | @cons p q ps qs h t ih=>
  obtain⟨h1,h2⟩:=h
  by_cases e:p.1=k
  ·have e':q.1=k:=h1.symm.trans e
   have b:valueAt (q::qs) k=some q.2:=by simp[valueAt,find?_cons,e']
   rw[jO e,b];exact h2
  ·have e':¬ q.1=k:=fun z=>e (h1.trans z)
   have b:valueAt (q::qs) k=valueAt qs k:=by simp[valueAt,find?_cons,e']
   rw[uF e,b];exact ih
theorem KV.any{kvs:List (κ×V)}{vs:List (κ×Value)}(r:KV kvs vs)(k:κ):(kvs.any fun kv=>decide (kv.1=k))=vs.any fun kv=>decide (kv.1=k):=by
 unfold KV at r
 induction r with
 |nil=>rfl
 |cons h t ih=>rw[any_cons,any_cons,ih,h.1]
theorem KV.repl{kvs:List (κ×V)}{vs:List (κ×Value)}(r:KV kvs vs)(k:κ){y:V}{u:Value}(ry:RelV y u) :
  KV (kvs.map fun kv=>if kv.1=k then (kv.1,y) else kv) (vs.map fun kv=>if kv.1=k then (kv.1,u) else kv):=by
 unfold KV at r ⊢
 induction r with
 |nil=>exact .nil
 | @cons p q ps qs h t ih=>
  rw[map_cons,map_cons]
  refine .cons ?_ ih
  obtain⟨h1,h2⟩:=h
  by_cases e:p.1=k
  ·rw[if_pos e,if_pos (h1.symm.trans e)];exact⟨h1,ry⟩
  ·rw[if_neg e,if_neg (fun z=>e (h1.trans z))];exact⟨h1,h2⟩
theorem KV.put{kvs:List (κ×V)}{vs:List (κ×Value)}(r:KV kvs vs)(k:κ){y:V}{u:Value}(ry:RelV y u):KV (ZC kvs k y) (stored vs k u):=by
 unfold ZC stored
 rw[r.any k]
 by_cases e:(vs.any fun kv=>decide (kv.1=k))=true
 ·rw[if_pos e,if_pos e];exact r.repl k ry
 ·rw[if_neg e,if_neg e];exact Paired.snoc r ⟨rfl,ry⟩
theorem KV.length{kvs:List (κ×V)}{vs:List (κ×Value)}(r:KV kvs vs):kvs.length=vs.length:=Paired.length r
end
theorem Qy{P:Program}{w:World}{k:Key}{u:Value}(r:RelV (kV k) u):(xU P w).is k u=true:=by
 cases k with
 |inl i=>obtain⟨t,e⟩:=(show ∃t,u=Value.int i t from r);subst e;exact V6 P w i t
 |inr x=>obtain⟨t,e⟩:=(show ∃t,u=Value.str x t from r);subst e;exact V5 P w x t
theorem Wx{P:Program}{w:World}:∀{ks:List Key} {us:List Value},Vals (ks.map kV) us→ItemsAre (xU P w) ks us
 |[],_,r=>by rw[map_nil] at r;cases r;exact .nil
 |k::ks,_,r=>by
  rw[map_cons] at r
  cases r with
  |cons h t=>exact .cons (Qy h) (Wx t)
noncomputable abbrev KT(H:Hp):List (List Key×V)→List (List Key×Addr×Value)→Prop:=Paired fun p q=>p.1=q.1∧H q.2.1=some (.tup (p.1.map kV))∧RelV p.2 q.2.2
theorem KT.val{H:Hp}{kvs:List (List Key×V)}{xs:List (List Key×Addr×Value)}(r:KT H kvs xs)(k:List Key):RelO (jq kvs k) ((atKey xs k).map (·.2)):=by
 induction r with
 |nil=>exact True.intro
 | @cons p q ps qs h t ih=>
  obtain⟨h1,_,h2⟩:=h
  by_cases e:p.1=k
  ·have e':q.1=k:=h1.symm.trans e
   have b:atKey (q::qs) k=some q.2:=by simp[atKey,find?_cons,e']
   rw[jO e,b];exact h2
  ·have e':¬ q.1=k:=fun z=>e (h1.trans z)
   have b:atKey (q::qs) k=atKey qs k:=by simp[atKey,find?_cons,e']
   rw[uF e,b];exact ih
theorem KT.repl{H:Hp}{kvs:List (List Key×V)}{xs:List (List Key×Addr×Value)}(r:KT H kvs xs)(k:List Key){y:V}{u:Value}(ry:RelV y u) :
  KT H (kvs.map fun kv=>if kv.1=k then (kv.1,y) else kv) (xs.map (putAt k u)):=by
 induction r with
 |nil=>exact .nil
 | @cons p q ps qs h t ih=>
  rw[map_cons,map_cons]
  refine .cons ?_ ih
  obtain⟨h1,h2,h3⟩:=h
  unfold putAt
  by_cases e:p.1=k
  ·rw[if_pos e,if_pos (h1.symm.trans e)];exact⟨h1,h2,ry⟩
  ·rw[if_neg e,if_neg (fun z=>e (h1.trans z))];exact⟨h1,h2,h3⟩
theorem KT.put{H:Hp}{kvs:List (List Key×V)}{xs:List (List Key×Addr×Value)}(r:KT H kvs xs)(k:List Key){b:Addr}{y:V}{u:Value}(hb:H b=some (.tup (k.map kV)))(ry:RelV y u) :
  KT H (ZC kvs k y) (storedH xs k b u):=by
 have e:(kvs.any fun kv=>decide (kv.1=k))=(atKey xs k).isSome:=by
  rw[YM,(r.val k).isSome_eq,Option.isSome_map]
 unfold ZC storedH
 rw[e]
 by_cases q:(atKey xs k).isSome=true
 ·rw[if_pos q,if_pos q];exact r.repl k ry
 ·rw[if_neg q,if_neg q];exact Paired.snoc r ⟨rfl,hb,ry⟩
theorem KT.keeps{H H':Hp}{kvs:List (List Key×V)}{xs:List (List Key×Addr×Value)}(r:KT H kvs xs)(ht:∀b ys,H b=some (.tup ys)→H' b=some (.tup ys)):KT H' kvs xs:=
 Paired.mapP r fun _ _ z=>⟨z.1,ht _ _ z.2.1,z.2.2⟩
section
variable{P:Program}{w:World}{H:Hp}{h:Heap}{a:Addr}
theorem zl4{u:HO}(ok:HOk P w H h)(e:Rd H a u):ObjOk P w H h a u:=e.ok ok
theorem QO{kvs:List (Key×V)}(ok:HOk P w H h)(e:Rd H a (.dK kvs)):kvs.length≤sizeLine∧(a==sysModules)=false∧∃vs,KV kvs vs∧h.DictOf (xU P w) a vs:=
 show ObjOk P w H h a (.dK kvs) from zl4 ok e
theorem zm6{kvs:List (Key×V)}(ok:HOk P w H h)(e:H a=some (.dK kvs)):kvs.length≤sizeLine∧(a==sysModules)=false∧∃vs,KV kvs vs∧h.DictOf (xU P w) a vs:=QO ok (.inl e)
theorem Ve{ks:List Key}(ok:HOk P w H h)(e:H a=some (.tup (ks.map kV))):(tupleKind (xU P w)).is h ks a:=by
 obtain⟨_,its,r,o,h1,h2,n,h3⟩:=(show ObjOk P w H h a (.tup (ks.map kV)) from ok a _ e)
 exact⟨o,its.toArray,n,h1,h2,h3,by simpa using Wx r⟩
theorem QN{kvs:List (List Key×V)}(ok:HOk P w H h)(e:Rd H a (.dT kvs)):kvs.length≤sizeLine∧(a==sysModules)=false ∧
  ∃xs,KT H kvs xs∧h.DictOfH (tupleKind (xU P w)) a xs:=by
 obtain⟨z,y,xs,r,o,es,ep,h1,h2,h3,h4,h5⟩:=(show ObjOk P w H h a (.dT kvs) from zl4 ok e)
 refine⟨z,y,xs,r,o,es,ep,h1,h2,h3,h4,fun x hx=>?_,h5⟩
 have all:∀{l:List (List Key×V)} {m:List (List Key×Addr×Value)},KT H l m→∀x∈m,(tupleKind (xU P w)).is h x.1 x.2.1:=by
  intro l m q
  induction q with
  |nil=>intro x hx;exact nomatch hx
  | @cons p q ps qs hq t ih=>
   intro x hx
   rcases mem_cons.mp hx with e|hx
   ·subst e
    exact Ve ok (by rw[← hq.1];exact hq.2.1)
   ·exact ih x hx
 exact all r x hx
theorem dt_of{kvs:List (List Key×V)}(ok:HOk P w H h)(e:H a=some (.dT kvs)):kvs.length≤sizeLine∧(a==sysModules)=false ∧
  ∃xs,KT H kvs xs∧h.DictOfH (tupleKind (xU P w)) a xs:=QN ok (.inl e)
end
noncomputable def DGet(H:Hp)(a:Addr)(y:V)(r:Option V):Prop:=
 (∃kvs k,Rd H a (.dK kvs)∧y=kV k∧r=jq kvs k)∨∃kvs k b,Rd H a (.dT kvs)∧y=.ref b∧H b=some (.tup (k.map kV))∧r=jq kvs k
noncomputable def DPut(H:Hp)(a:Addr)(y v:V)(H':Hp):Prop:=
 (∃kvs k,H a=some (.dK kvs)∧y=kV k∧kvs.length<sizeLine∧H'=upd H a (.dK (ZC kvs k v))) ∨
 ∃kvs k b,H a=some (.dT kvs)∧y=.ref b∧H b=some (.tup (k.map kV))∧kvs.length<sizeLine∧H'=upd H a (.dT (ZC kvs k v))
theorem DGet.k{H:Hp}{a:Addr}{kvs:List (Key×V)}{k:Key}(e:H a=some (.dK kvs)):DGet H a (kV k) (jq kvs k):=.inl ⟨kvs,k,.inl e,rfl,rfl⟩
theorem DPut.k{H:Hp}{a:Addr}{kvs:List (Key×V)}{k:Key}{v:V}(e:H a=some (.dK kvs))(hl:kvs.length<sizeLine):DPut H a (kV k) v (upd H a (.dK (ZC kvs k v))):=.inl ⟨kvs,k,e,rfl,hl,rfl⟩
section
variable{X:Cx}{pins:List (Addr×Obj)}{σ:St}{H:Hp}{s:Shared}{a:Addr}{y v:V}{u r:Value}{o:Option V}{A:Around}{E:Value→Shared→Prop}
theorem Inv.big(I:Inv X pins σ H s):sysModules<s.heap.objs.size:=by
 have h:mainGlobals<s.heap.objs.size:=(I.mod.glob.keeps I.bk).lt
 exact lt_trans (by decide) h
theorem G9{Q:Value→Shared→Prop}(hu:A.units+1<cLine)(I:Inv X pins σ H s)(g:DGet H a y (some v))(ry:RelV y u)(h:∀w' s',Inv X pins σ H s'→RelV v w'→Q w' s') :
  wpAny (model X.prog X.w) A (getItem (.ref a) u) Q E s:=by
 rcases g with ⟨kvs,k,e,ey,l⟩|⟨kvs,k,b,e,ey,eb,l⟩
 ·subst ey
  obtain⟨z,hd,vs,rel,dd⟩:=QO I.hok e
  obtain⟨w',hw,rw'⟩:=RelO.some_of (v:=v) (o:=valueAt vs k) (by rw[l];exact rel.val k)
  exact wpAny_getItem_of (Qy ry) dd.mapOf hw (h w' _ (I.tok _) rw')
 ·subst ey
  cases (show u=Value.ref b from ry)
  obtain⟨z,hd,xs,rel,dd⟩:=QN I.hok e
  obtain⟨w',hw,rw'⟩:=RelO.some_of (v:=v) (o:=(atKey xs k).map (·.2)) (by rw[l];exact rel.val k)
  obtain⟨p,hp,hp2⟩:=Option.map_eq_some_iff.mp hw
  refine wpAny_getItem_heap (tupleKind_room_in1 hu) (Ve I.hok eb) dd hp ?_
  rw[hp2]
  exact h w' _ (I.tok _) rw'
theorem zj7{Q:Value→Shared→Prop}(hu:A.units+1<cLine)(I:Inv X pins σ H s)(g:DGet H a y o)(ry:RelV y u)(h:∀s',Inv X pins σ H s'→Q (.bool (!o.isSome)) s') :
  wpAny (model X.prog X.w) A (compareOp .NotIn u (.ref a)) Q E s:=by
 rcases g with ⟨kvs,k,e,ey,l⟩|⟨kvs,k,b,e,ey,eb,l⟩
 ·subst ey
  obtain⟨z,hd,vs,rel,dd⟩:=QO I.hok e
  refine wpAny_notIn_of (Qy ry) hd dd.mapOf ?_
  rw[← (rel.val k).isSome_eq,← l]
  exact h _ (I.tok _)
 ·subst ey
  cases (show u=Value.ref b from ry)
  obtain⟨z,hd,xs,rel,dd⟩:=QN I.hok e
  refine wpAny_notIn_heap (tupleKind_room_in1 hu) (Ve I.hok eb) hd dd ?_
  have q:=(rel.val k).isSome_eq
  rw[Option.isSome_map] at q
  rw[← q,← l]
  exact h _ (I.tok _)
theorem QT{h':Heap}{t':Nat}{ob:HO}(I:Inv X pins σ H s)(mu:Mut (H a))(hs:Heap.SameBut a s.heap h')(he:∃q,h'.get? a=some q)(new:ObjOk X.prog X.w (upd H a ob) h' a ob) :
  Inv X pins σ (upd H a ob) { s with heap:=h',toks:=t' }:=
 I.write (x:=a) (e:=a) mu (.inl rfl) (fun b q hb z=>(hs.2 b hb).trans z) he new
theorem zu6{P:Program}{w:World}{H':Hp}{h':Heap}{kvs:List (Key×V)}{vs:List (Key×Value)}(z:kvs.length≤sizeLine)(hd:(a==sysModules)=false)(rel:KV kvs vs)(dd:h'.DictOf (xU P w) a vs) :
  ObjOk P w H' h' a (.dK kvs):=⟨z,hd,vs,rel,dd⟩
theorem G8{H':Hp}{Q:Unit→Shared→Prop}(hu:A.units+1<cLine)(I:Inv X pins σ H s)(g:DPut H a y v H')(ry:RelV y u)(rv:RelV v r)(h:∀s',Inv X pins σ H' s'→Q () s') :
  wpAny (model X.prog X.w) A (setItem (.ref a) u r) Q E s:=by
 rcases g with ⟨kvs,k,e,ey,l,eH⟩|⟨kvs,k,b,e,ey,eb,l,eH⟩
 ·subst ey eH
  obtain⟨z,hd,vs,rel,dd⟩:=zm6 I.hok e
  have hz:vs.length≤sizeLine:=by rw[← rel.length];exact z
  have hl:(ZC kvs k v).length≤sizeLine:=by have:=Z3 kvs k v;lia
  refine wpAny_setItem_pairs (hsz:=hz) (Qy ry) dd fun h' dd' hs=>h _ ?_
  have he:∃q,h'.get? a=some q:=let ⟨q,_,_,hq,_⟩:=dd';⟨q,hq⟩
  exact QT I (by rw[e];exact True.intro) hs he (zu6 hl hd (rel.put k rv) dd')
 ·subst ey eH
  cases (show u=Value.ref b from ry)
  obtain⟨z,hd,xs,rel,dd⟩:=dt_of I.hok e
  have hz:xs.length≤sizeLine:=by rw[← Paired.length rel];exact z
  have hl:(ZC kvs k v).length≤sizeLine:=by have:=Z3 kvs k v;lia
  refine wpAny_setItem_heap (hsz:=hz) (tupleKind_room_in1 hu) (Ve I.hok eb) dd fun h' dd' hs=>h _ ?_
  obtain⟨q,es,ep,hq,h2,h3,h4,_,h5⟩:=dd'
  refine QT I (by rw[e];exact True.intro) hs ⟨q,hq⟩ ⟨hl,hd,_,(rel.put k eb rv).keeps fun c ys ec=>?_,q,es,ep,hq,h2,h3,h4,h5⟩
  rw[zo (ne_of ec e (fun z=>nomatch z))]
  exact ec
end
section
variable{X:Cx}{pins:List (Addr×Obj)}{σ:St}{H:Hp}{s:Shared}{a:Addr}{kvs:List (Key×V)}{k:Key}{u:Value}{A:Around}{E:Value→Shared→Prop}
end
noncomputable def zv9(i:Expr):Prop:=∀ov iv,subscripted i false ov iv=operate [ov,iv] (getItem ov iv)
theorem za3{prog:Program}{w:World}{A:Around}{E:Value→Shared→Prop}{s:Shared}{env:Env}{value slice:Expr}{pos:Pos}{T id:String}{Q:Value→Shared→Prop}
  (hl:typeLookup (.type T) "__getitem__" = pure (some (.builtin id))) (hs:zv9 slice)
  (h:wpAny (model prog w) A (eval value env) (fun o s₁=>wpAny (model prog w) A (eval slice env) (fun i s₂=>s₂.TypeIs o T∧wpAny (model prog w) A (getItem o i) Q E s₂) E s₁) E s) :
  wpAny (model prog w) A (eval (.Subscript value slice pos) env) Q E s:=by
 refine Subscript_ (wpAny_mono h (fun o s₁ h₁=>wpAny_mono h₁ (fun i s₂ h₂=>?_) fun _ _ x=>x) fun _ _ x=>x)
 obtain⟨hT,h₂⟩:=h₂
 unfold subscriptTail
 refine wpAny_bind ?_
 rw[getitemInPython_of_ne hT.not_modules]
 refine wpAny_bind (wpAny_specialOf hT hl ?_)
 have fin:wpAny (model prog w) A (subscripted slice false o i) (fun r s₃=>wpAny (model prog w) A (letTemporaryGo value o r >>= fun _=>pure r) Q E s₃) E s₂:=by
  rw[hs o i]
  exact wpAny_operating (wpAny_mono h₂ (fun r s₃ h₃=>wpAny_bind (wpAny_letTemporaryGo (wpAny_pure h₃))) fun _ _ x=>x)
 first
  | exact wpAny_pure (wpAny_bind fin)
  | exact wpAny_bind (wpAny_pure (wpAny_bind fin))
  | exact wpAny_bind fin
theorem UJ{X:Cx}{pins:List (Addr×Obj)}{σ:St}{H:Hp}{s:Shared}{a:Addr}{y:V}{o:Option V}(I:Inv X pins σ H s)(g:DGet H a y o):s.TypeIs (.ref a) "dict" := by
 rcases g with ⟨kvs,k,e,_,_⟩|⟨kvs,k,b,e,_,_,_⟩
 ·obtain⟨_,_,vs,_,dd⟩:=QO I.hok e
  exact dd.typeIs
 ·obtain⟨_,_,xs,_,dd⟩:=QN I.hok e
  exact dd.typeIs
noncomputable def VB(td ty:TE):TE:=fun σ H Q=>td σ H fun x H1=>ty σ H1 fun y H2=>∃a v,x=.ref a∧DGet H2 a y (some v)∧Q v H2
noncomputable def za1(ty td:TE):TE:=fun σ H Q=>ty σ H fun y H1=>td σ H1 fun x H2=>∃a o,x=.ref a∧DGet H2 a y o∧Q (.bl (!o.isSome)) H2
noncomputable def zl3(td ty tv:TE):TS:=fun D σ H=>tv σ H fun v H1=>td σ H1 fun x H2=>ty σ H2 fun y H3=>∃a H4,x=.ref a∧DPut H3 a y v H4∧D.nx σ H4
section
variable{X:Cx}{o i e value:Expr}{pos pos' tpos:Pos}{td ty tv:TE}
theorem Qd(hu:X.A.units+1<cLine)(ho:PE X o td)(hi:PE X i ty)(hs:zv9 i):PE X (.Subscript o i pos) (VB td ty):=by
 intro pins s σ H Q I h
 refine za3 PySem.F.slot_dict_getitem.lookup hs (thn (ho pins s σ H _ I h) fun u s1 ⟨x,H1,I1,rx,q1⟩=>thn (hi pins s1 σ H1 _ I1 q1) fun iv s2 z_=>?_)
 obtain⟨y,H2,I2,ry,a,v,ex,g,q2⟩:=z_
 subst ex
 obtain rfl:u=Value.ref a:=rx
 exact⟨UJ I2 g,G9 hu I2 g ry fun w' s3 I3 rw'=>⟨v,H2,I3,rw',q2⟩⟩
theorem Gp(hu:X.A.units+1<cLine)(hi:PE X i ty)(ho:PE X o td):PC X .NotIn i o (za1 ty td):=by
 intro pins s σ H Q I h
 refine thn (hi pins s σ H _ I h) fun iv s1 ⟨y,H1,I1,ry,q1⟩=>thn (ho pins s1 σ H1 _ I1 q1) fun u s2 z_=>?_
 obtain⟨x,H2,I2,rx,a,ov,ex,g,q2⟩:=z_
 subst ex
 obtain rfl:u=Value.ref a:=rx
 exact zj7 hu I2 g ry fun s3 I3=>⟨.bl (!ov.isSome),H2,I3,rfl,q2⟩
theorem zc4(hu:X.A.units+1<cLine)(ho:PE X o td)(hi:PE X i ty)(hv:PE X value tv)(hs:swapsWith value (some (.Subscript o i pos')) pos.line X.env=pure false) :
  PS X (.Assign [.Subscript o i pos'] value pos) (zl3 td ty tv):=by
 intro pins s σ H D I h
 refine wpAny_Assign_Subscript (thn (hv pins s σ H _ I h) fun r s1 ⟨v,H1,I1,rv,q1⟩=>thn (ho pins s1 σ H1 _ I1 q1) fun u s2 ⟨x,H2,I2,rx,q2⟩=>thn (hi pins s2 σ H2 _ I2 q2) fun iv s3 z_=>?_) hs
 obtain⟨y,H3,I3,ry,a,H4,ex,g,q3⟩:=z_
 subst ex
 obtain rfl:u=Value.ref a:=rx
 exact G8 hu I3 g ry rv fun s4 I4=>⟨σ,H4,I4,q3⟩
end
theorem Lz{P:Program}{w:World}{H:Hp}(h:Heap)(hb:sysModules<h.objs.size):ObjOk P w H (h.push { cls:=.type "dict", data:=.dict #[] }) h.objs.size (.dK []):=
 ⟨zero_le _,beq_eq_false_iff_ne.mpr (Ne.symm (ne_of_lt hb)),[],.nil,Heap.DictOf.new h⟩
noncomputable def zn4:TE:=fun _ H Q=>∀p,H p=none→Q (.ref p) (upd H p (.dK []))
section
variable{X:Cx}{pos:Pos}
theorem M4:PE X (.Dict [] [] pos) zn4:=fun pins s σ H Q I h=>
 wpAny_Dict_empty ⟨.ref s.heap.objs.size,_,I.laid (a:=s.heap.objs.size) (o:=.dK []) (t':=s.toks) (fun _ _ q=>get?_push_of_some _ q) (le_refl _) (Lz s.heap I.big),rfl,h _ (I.hok.fresh (le_refl _))⟩
end
section
variable{X:Cx}{pins:List (Addr×Obj)}{σ:St}{H:Hp}{s:Shared}{a:Addr}{y d:V}{u r:Value}{o:Option V}{A:Around}{E:Value→Shared→Prop}
end
section
variable{X:Cx}{o e f:Expr}{apos cpos:Pos}{td ty tx:TE}
end
section
variable{X:Cx}{pins:List (Addr×Obj)}{σ:St}{H:Hp}{s:Shared}{a:Addr}{kvs:List (Key×V)}{A:Around}{E:Value→Shared→Prop}
end
section
variable{X:Cx}{pins:List (Addr×Obj)}{σ:St}{H:Hp}{s:Shared}{a:Addr}{y:V}{u:Value}{A:Around}{E:Value→Shared→Prop}
end
section
variable{κ:Type}[DecidableEq κ]
end
end L2
set_option Elab.async false
set_option linter.all false
set_option maxRecDepth 100000
namespace STW
open PySem PyProof.Rows
section
variable{prog:Program}{w:World}{K:Type}[DecidableEq K]{knd:KeyKind prog w K}{A:Around}{E:Value→Shared→Prop}{s:Shared}{d:Addr}{kvs:List (K×Value)}{ep:Nat}
theorem zn5:isSubtype (.type "dict") (.type "dict")=pure true:=by first|exact isSubtype_dict_dict|exact PySem.isSubtype_dict_dict | (rw[isSubtype_type];kernel_rfl)
theorem Lc(hm:s.heap.DictAt knd d kvs ep){Q:Bool→Shared→Prop}(q:Q false s):wpAny (model prog w) A (Builtin.List.listLengthHint (.ref d)) Q E s:=by
 have ty:s.TypeIs (.ref d) "dict" := hm.dictOf.typeIs
 unfold Builtin.List.listLengthHint
 refine wpAny_bind (wpAny_specialOf ty F.slot_dict_len.lookup ?_)
 have e1:splitId "dict.__len__" = some ("dict", "__len__"):=by kernel_rfl
 dsimp only
 rw[e1]
 dsimp only
 refine wpAny_bind (wpAny_isInstance ty zn5 ?_)
 rw[if_neg (by simp),if_pos (by kernel_rfl)]
 refine wpAny_bind (wpAny_typeOf ty ?_)
 exact wpAny_pure q
theorem UM(hd:(d==sysModules)=false)(hm:s.heap.DictAt knd d kvs ep)(hz:kvs.length≤sizeLine)(hh:A.handled=none){Q:List Value→Shared→Prop}
  (q:∀(vs:List Value) h' tk,vs.length=kvs.length→(∀(i:Nat) (v:Value),vs[i]?=some v→∃k x,kvs[i]?=some (k,x)∧knd.is k v=true)→(∀b o,s.heap.get? b=some o→h'.get? b=some o)→s.heap.objs.size<h'.objs.size→Q vs { s with heap:=h',toks:=tk }) :
  wpAny (model prog w) A (collect (.ref d)) Q E s:=by
 have ty:s.TypeIs (.ref d) "dict" := hm.dictOf.typeIs
 have hlt:d<s.heap.objs.size:=hm.lt_size
 unfold collect
 refine wpAny_bind (wpAny_runValue (codeAny_builtin F.entry_proto_collect ?_));rw[Around.under_plainId F.plain_proto_collect _]
 show wpAny _ A.in1 (newList [] >>= fun l=>again (.builtin "list.__iadd__" ⟨[l,.ref d],[]⟩)) _ _ s
 refine wpAny_bind (wpAny_newObj_type (wpAny_pure ⟨plainId_quiet F.plain_list_iadd _,codeAny_builtin F.entry_list_iadd ?_⟩));rw[Around.under_plainId F.plain_list_iadd _]
 have hm1:(s.heap.push emp).DictAt knd d kvs ep:=hm.push emp
 show wpAny _ A.in1 (Builtin.List.listExtendWith (.ref s.heap.objs.size) (.ref d) (.ref s.heap.objs.size)) _ _ _
 unfold Builtin.List.listExtendWith
 have ty1:Shared.TypeIs { s with heap:=s.heap.push emp } (.ref d) "dict" := hm1.dictOf.typeIs
 refine wpAny_bind (wpAny_typeOf ty1 ?_)
 have c1:Builtin.List.listSameRef (.ref s.heap.objs.size) (.ref d)=false:=by
  have:s.heap.objs.size≠d:=ne_of_gt hlt
  simp[Builtin.List.listSameRef,this]
 have c2:(Value.type "dict" == Value.type "list")=false:=by decide
 have c3:(Value.type "dict" == Value.type "tuple")=false:=by decide
 simp only[c1,c2,c3,Bool.or_false,Bool.false_eq_true,if_false]
 have sz1:(s.heap.push emp).objs.size=s.heap.objs.size+1:=Heap.size_push _ _
 refine wpAny_bind (wpAny_pyIter_dict (s:={ s with heap:=s.heap.push emp }) hd hm1 ?_)
 generalize hh1:(s.heap.push emp).push { cls:=.type "dict_keyiterator", data:=.fields #[.ref d,.int 0 0,.int kvs.length 0,.int ep 0] }=h1
 have kp:∀b o,(s.heap.push emp).get? b=some o→h1.get? b=some o:=fun b o e=>by rw[← hh1];exact get?_push_of_some _ e
 have hm2:h1.DictAt knd d kvs ep:=hm1.keep kp
 have hI:h1.get? (s.heap.push emp).objs.size=some { cls:=.type "dict_keyiterator", data:=.fields #[.ref d,.int 0 0,.int kvs.length 0,.int ep 0] }:=by rw[← hh1];exact Heap.get?_push_size _ rfl
 have hne:d≠(s.heap.push emp).objs.size:=by rw[sz1];exact ne_of_lt (lt_succ_of_lt hlt)
 have W':=(Walks.dictKeys (knd:=knd) (prog:=prog) (w:=w) (A:=A.in1) (by simp[hh]) (s.heap.push emp).objs.size d hne kvs ep).toS
 refine wpAny_bind (wpAny_holding (Lc (s:={ s with heap:=h1 }) hm2 ?_))
 rw[if_pos (by kernel_rfl)]
 refine wpAny_bind (wpAny_rule (wpAny_bind ?_))
 show wpAny _ A.in1 (updateSeq s.heap.objs.size (·.push .none) >>= fun _=>updateSeq s.heap.objs.size (·.pop)) _ _ _
 have g1:h1.get? s.heap.objs.size=some emp:=kp _ _ (Heap.get?_push_size _ rfl)
 refine wpAny_bind (wpAny_updateSeq g1 rfl ?_)
 have g2:=Heap.get?_update_self (Obj.mapSeq (·.push Value.none)) g1 rfl
 refine wpAny_updateSeq g2 rfl ?_
 have g3:=Heap.get?_update_self (Obj.mapSeq (·.pop)) g2 rfl
 have oth:∀b o,b≠s.heap.objs.size→h1.get? b=some o→((h1.update s.heap.objs.size (Obj.mapSeq (·.push Value.none))).update s.heap.objs.size (Obj.mapSeq (·.pop))).get? b=some o:=fun b o hb e=>
  (Heap.get?_update_other _ _ (Ne.symm hb)).trans ((Heap.get?_update_other _ _ (Ne.symm hb)).trans e)
 have hSf:s.heap.objs.size∉[(s.heap.push emp).objs.size,d]:=by
  rw[sz1];simp only[mem_cons,not_mem_nil,or_false,not_or];exact⟨ne_of_lt (lt_succ_self _),ne_of_gt hlt⟩
 have st0:h1.IsKeyIter (s.heap.push emp).objs.size d 0 kvs.length ep∧h1.DictAt knd d kvs ep:=⟨⟨_,hI,rfl,rfl⟩,hm2⟩
 have st1:=W'.frame 0 { s with heap:=h1 } ((h1.update s.heap.objs.size (Obj.mapSeq (·.push Value.none))).update s.heap.objs.size (Obj.mapSeq (·.pop))) s.toks st0 (by simp) fun b hb o e=>oth b o (fun h=>hSf (h ▸ hb)) e
 refine wpAny_pure ⟨plainId_quiet F.plain_extend_loop _,codeAny_extend_loopS (A:=A) W' hz _ hSf _ _ 0 _ _ _ rfl (zero_le _) st1 g3 (ItemsOf.nil _) fun s' acc' c' hmv hS' hacc=>?_⟩
 show wpAny _ A (load s.heap.objs.size >>= _) _ _ s'
 refine wpAny_bind (wpAny_load hS' (wpAny_pure ?_))
 have eq:s' = { s with heap:=s'.heap,toks:=s'.toks }:=by
  obtain⟨_,g,dd,o,_⟩:=hmv
  cases s';simp only at g dd o;subst g;subst dd;subst o;rfl
 rw[eq]
 refine q _ _ _ (by rw[length_toList];exact hacc.1) (fun i v hv=>hacc.2 i v (by rw[← getElem?_toList];exact hv)) (fun b o hb=>hmv.heap b o ?_ ?_) (Heap.lt_size hS')
 ·have hb':=Heap.lt_size hb
  rw[sz1];simp only[mem_cons,not_mem_nil,or_false,not_or]
  exact⟨ne_of_lt hb',ne_of_lt (lt_succ_of_lt hb')⟩
 ·exact oth b o (ne_of_lt (Heap.lt_size hb)) (kp b o (get?_push_of_some _ hb))
end
section
variable{prog:Program}{w:World}{K:Type}[DecidableEq K]{knd:KeyKind prog w K}{A:Around}{E:Value→Shared→Prop}{s:Shared}{d:Addr}{kvs:List (K×Value)}{ep:Nat}{ns:List Int}{b:Bool}
theorem sortDict(hd:(d==sysModules)=false)(hm:s.heap.DictAt knd d kvs ep)(h64:kvs.length<64)(hh:A.handled=none)
  (hI:∀vs:List Value,vs.length=kvs.length→(∀(i:Nat) (v:Value),vs[i]?=some v→∃k x,kvs[i]?=some (k,x)∧knd.is k v=true)→IntsAre vs ns) {Q:Value→Shared→Prop}
  (q:∀h' tk a (out:List Value) ns' e,h'.get? a=some (seqObj "list" out.toArray e)→IntsAre out ns'→ns'.Perm ns→Ordered b ns'→s.heap.objs.size≤a→(∀c o,s.heap.get? c=some o→h'.get? c=some o)→Q (.ref a) { s with heap:=h',toks:=tk }) :
  wpAny (model prog w) A (call (.builtin "sorted") [.ref d] [(Str.ofString "reverse", .bool b)]) Q E s:=by
 have hz:kvs.length≤sizeLine:=le_trans (le_of_lt h64) (by rw[sizeLine_eq];decide)
 refine call_function_entry_kw kind_sorted plain_sorted entry_sorted (args_sorted_rev _ _) ?_
 unfold Builtin.«sorted»
 refine wpAny_bind (m:=checkCount "sorted" 1 1 _) (wpAny_pure ?_)
 refine wpAny_bind (UM hd hm hz (by simp[hh]) fun vs h1 tk hl hv hk hs=>?_)
 have hi:=hI vs hl hv
 refine wpAny_bind (wpAny_newList ?_ (by rw[hl];exact hz))
 have hoL:(h1.push (seqObj "list" vs.toArray 0)).get? h1.objs.size=some (seqObj "list" vs.toArray 0):=Heap.get?_push_size _ rfl
 show wpAny _ _ _ _ _ { s with heap:=h1.push (seqObj "list" vs.toArray 0),toks:=tk }
 refine wpAny_bind (wpAny_holding (wpAny_call_entry_kw slot_list_sort ⟨_,hoL,rfl⟩ entry_list_sort (list_sort_tree_rev (s:={ s with heap:=h1.push (seqObj "list" vs.toArray 0),toks:=tk }) hoL hi (by lia) fun out ns' a1 a2 a3=>⟨_,rfl,?_⟩) (args_list_sort_rev _ _)))
 obtain⟨e,he⟩:=sortedHeap_at (out:=out) hoL
 refine wpAny_pure ⟨_,rfl,q _ _ h1.objs.size out.toList ns' e (by rw[Array.toArray_toList];exact he) a1 a2 a3 (le_of_lt hs) fun c o hc=>?_⟩
 have hb1:=hk c o hc
 have hlt:=Heap.lt_size hb1
 rw[sortedHeap_old (ne_of_lt hlt) (by rw[size_push'];exact lt_succ_of_lt hlt)]
 exact get?_push_of_some _ hb1
end
end STW
set_option Elab.async false
set_option linter.all false
set_option maxRecDepth 100000
namespace FD
open PySem PySem.Spec PyProof.Rows L2
variable[Tabs]
omit [Tabs] in
theorem zj6{ns ns':List Int}(nd:ns.Nodup)(p:ns'.Perm ns)(h:ns'.Pairwise (· ≥ ·)):ns'=(STW.setZ ns).reverse:=by
 have e:ns'.reverse=STW.setZ ns:=by
  refine STW.up_same ?_ (STW.setZ_up ns) fun x=>?_
  ·have h1:ns'.reverse.Pairwise (·≤·):=List.pairwise_reverse.mpr h
   have h2:ns'.reverse.Nodup:=(List.reverse_perm ns').nodup_iff.mpr (p.nodup_iff.mpr nd)
   exact List.Pairwise.imp₂ (fun a b h1 h2=>by lia) h1 h2
  ·rw[STW.setZ_mem,List.mem_reverse,p.mem_iff]
 rw[← e,List.reverse_reverse]
omit [Tabs] in
theorem Uo:∀{vs:List Value} {ns:List Int},vs.length=ns.length→(∀(i:Nat) (v:Value) (n:Int),vs[i]?=some v→ns[i]?=some n→Value.isInt n v=true)→IntsAre vs ns
 |[],[],_,_=>.nil
 |[],_::_,h,_=>by simp at h
 |_::_,[],h,_=>by simp at h
 |v::vs,n::ns,h,k=>by
  obtain⟨t,rfl⟩:=Value.isInt_shape (k 0 v n rfl rfl)
  exact .cons n t (Uo (by simpa using h) fun i u m h1 h2=>k (i+1) u m (by simpa using h1) (by simpa using h2))
omit [Tabs] in
theorem zg9{kvs:List (Key×V)}{vs:List (Key×Value)}(h:KV kvs vs):vs.map (·.1)=kvs.map (·.1):=by
 induction h with
 |nil=>rfl
 |cons r _ ih=>rw[map_cons,map_cons,ih,r.1]
noncomputable def UY(i:Nat):TE:=fun σ H Q=>∃d kvs ns,σ[i]?=some (some (.ref d))∧H d=some (.dK kvs)∧kvs.map (·.1)=ns.map Sum.inl∧ns.Nodup∧ns.length<64∧∀p,H p=none→Q (.ref p) (upd H p (.lst ((STW.setZ ns).reverse.map V.int)))
section
variable{X:Cx}{pos pp kp p1 p2:Pos}{kk:Nat}
theorem M1{x y:Str}{i:Nat}(hc:X.calm=true)(hg:Gl X x)(hm:X.mg x=none)(hv:bootBuiltins x=some (.builtin "sorted"))(hy:PE X (.Name y p1) (uc i))
  (hn:x ≠ "__name__" := by decide) (hdb:(x==("__debug__" : Str))=false:=by decide) (h1:starEach [.Name y p1] X.env=(false,eval (.Name y p1) X.env)::starEach [] X.env:=by rfl) :
  PE X (.Call (.Name x pp) [.Name y p1] [⟨some "reverse", .Constant (.bool true) kk p2,kp⟩] pos) (UY i):=by
 rintro pins s σ H Q I ⟨d,kvs,ns,e1,e2,ek,nd,h64,q⟩
 refine wpAny_Call_Name_kw (wS I hg hm hv ?_ hn hdb)
 refine callWith_kw ?_ (by rw[h1];rfl) (by rw[h1];rfl)
 have ha:PA X [.Name y p1] _:=vN hy jE (by rw[h1])
 refine thn (ha pos pins s σ H (fun vs H1=>vs=[.ref d]∧H1=H) I ⟨_,e1,rfl,rfl⟩) fun us s1 hA=>?_
 obtain⟨vs,H1,I1,rvs,rfl,rfl⟩:=hA
 obtain⟨u,rfl,ru⟩:=Vals.one rvs
 cases ru
 refine kws_cons (thn (zl8 pins s1 σ H1 (fun v2 H2=>v2=.bl true∧H2=H1) I1 ⟨rfl,rfl⟩) fun u2 s2 hB=>kws_nil ?_)
 obtain⟨v2,H2,I2,ru2,rfl,rfl⟩:=hB
 cases ru2
 show wpAny _ _ (call (.builtin "sorted") [.ref d] [(Str.ofString "reverse", .bool true)]) _ _ _
 obtain⟨z,hd,ws,rel,dd⟩:=zm6 I2.hok e2
 obtain⟨ep,da⟩:=dd.dictAt
 have kk':ws.map (·.1)=ns.map Sum.inl:=by rw[zg9 rel,ek]
 have wl:ws.length=ns.length:=by have:=congrArg List.length kk';simpa using this
 refine STW.sortDict (ns:=ns) (b:=true) hd da (by lia) (I2.ok.hd hc) (fun vs hl hv=>Uo (by lia) fun i v n hi hn=>?_) fun h' tk a out ns' e he ho hp hor hsz hk=>?_
 ·obtain⟨k,x,hkx,his⟩:=hv i v hi
  have:(ws.map (·.1))[i]?=some k:=by rw[getElem?_map,hkx];rfl
  rw[kk',getElem?_map,hn] at this
  cases this
  exact his
 ·have en:=zj6 nd hp hor
  subst en
  have ll:((STW.setZ ns).reverse.map V.int).length≤sizeLine:=by
   rw[length_map,List.length_reverse]
   exact le_of_lt (yS (by have:=STW.setZ_le ns;lia))
  exact⟨.ref a,_,I2.laid (t':=tk) (o:=.lst ((STW.setZ ns).reverse.map V.int)) hk hsz ⟨ll,out,e,YK ho,he⟩,rfl,q a (I2.hok.fresh hsz)⟩
end
noncomputable def Vl(τ:DS):Prop:=∀(i:Nat) (s:Sl),τ[i]?=some (some s)→∃d,s=.val d
omit [Tabs] in
theorem Vl.noObj{τ:DS}(v:Vl τ):noObj τ:=fun i s h=>by
 cases s with
 |none=>rfl
 |some s=>obtain⟨d,rfl⟩:=v i s h;rfl
omit [Tabs] in
theorem Vl.set{τ:DS}(v:Vl τ)(i:Nat)(d:D):Vl (τ.set i (some (.val d))):=fun j s h=>by
 rw[getElem?_set] at h
 split at h
 ·split at h
  ·cases h;exact⟨d,rfl⟩
  ·cases h
 ·exact v j s h
noncomputable def Soft(o:Option HO):Prop:=o=none∨(∃vs,o=some (.lst vs))∨∃ks,o=some (.dK ks)
theorem RS.free{K:Frag}{B Z F H:Hp}{τ:DS}{σ:St}{p:Addr}{o:HO}(R:RS K B Z F τ σ H)(v:Vl τ)(hb:B p=none)(hp:F p=none)(hl:Soft (H p))(ho:∀a,o≠.own a:=by intro _ h;cases h):RS K B Z F τ σ (upd H p o):=by
 have ne:∀{a:Addr} {w:HO},H a=some w→(∀vs,w≠.lst vs)→(∀ks,w≠.dK ks)→a≠p:=fun {a w} h n1 n2 z=>by
  subst z
  rcases hl with z|⟨ws,z⟩|⟨ws,z⟩
  ·rw[z] at h;cases h
  ·rw[z] at h;cases h;exact n1 _ rfl
  ·rw[z] at h;cases h;exact n2 _ rfl
 have own:∀(i:Nat) ds,τ[i]?≠some (some (.own ds)):=fun i ds h=>by obtain⟨d,e⟩:=v i _ h;cases e
 have obj:∀(i n:Nat) c fs,τ[i]?≠some (some (.obj n c fs)):=fun i n c fs h=>by obtain⟨d,e⟩:=v i _ h;cases e
 have obr:∀(i:Nat) c fs,τ[i]?≠some (some (.obr c fs)):=fun i c fs h=>by obtain⟨d,e⟩:=v i _ h;cases e
 refine⟨⟨fun b u e=>?_,R.rv.len,R.rv.val,fun i ds h=>absurd h (own i ds),fun i j ds es a _ h=>absurd h (own i ds),⟨fun r hr=>?_,fun d a h=>?_⟩,ObsOk.none v.noObj⟩,fun a u e=>?_,R.zf,R.nb,fun i ds a h=>absurd h (own i ds),fun i n c fs a h=>absurd h (obj i n c fs),fun a0 dx _ _ i n c fs h=>absurd h (obj i _ c fs),fun i c fs a h=>absurd h (obr i c fs)⟩
 ·have:b≠p:=fun z=>by subst z;rw[hp] at e;cases e
  rw[zo this];exact R.rv.fh b u e
 ·obtain⟨t1,t2⟩:=R.rv.tt.1 r hr
  refine⟨t1,?_⟩
  rcases t2 with e|⟨c,e,e2⟩
  ·exact .inl (by rw[zo (ne e (fun _ z=>nomatch z) (fun _ z=>nomatch z))];exact e)
  ·exact .inr ⟨c,by rw[zo (ne e (fun _ z=>nomatch z) (fun _ z=>nomatch z))];exact e,by rw[zo (ne e2 (fun _ z=>nomatch z) (fun _ z=>nomatch z))];exact e2⟩
 ·by_cases z:d=p
  ·subst z;rw[zv] at h;cases h;exact absurd rfl (ho a)
  ·rw[zo z] at h
   obtain⟨C,dx,vs,e⟩:=R.rv.tt.2 d a h
   exact⟨C,dx,vs,by rw[zo (ne e (fun _ z=>nomatch z) (fun _ z=>nomatch z))];exact e⟩
 ·have:a≠p:=fun z=>by subst z;rw[hb] at e;cases e
  rw[zo this];exact R.bh a u e
noncomputable abbrev Gr:=List (Int×List Int)
noncomputable def kvG(G:Gr)(ls:List Addr):List (Key×V):=(G.zip ls).map fun p=>(Sum.inl p.1.1,V.ref p.2)
structure Dc(B F H:Hp)(σ:St)(i:Nat)(G:Gr)(d:Addr)(ls:List Addr):Prop where
 sl:σ[i]?=some (some (.ref d))
 db:B d=none
 df:F d=none
 dh:H d=some (.dK (kvG G ls))
 len:ls.length=G.length
 nl:ls.Nodup
 nd:(G.map (·.1)).Nodup
 each:∀(j:Nat) (l:Addr) (g:Int×List Int),ls[j]?=some l→G[j]?=some g→B l=none∧F l=none∧H l=some (.lst (g.2.map V.int))
theorem XD{F H F' H':Hp}{a:Addr}{o:HO}(x:Ext F H F' H')(h:H a=some o)(f:F a=none):F' a=none:=by
 cases q:F' a with
 |none=>rfl
 |some u=>
  rcases x.nw a u q with z|z
  ·rw[f] at z;cases z
  ·rw[h] at z;cases z
theorem Dc.ext{B F H F' H':Hp}{σ:St}{i:Nat}{G:Gr}{d:Addr}{ls:List Addr}(D:Dc B F H σ i G d ls)(x:Ext F H F' H'):Dc B F' H' σ i G d ls:=
 ⟨D.sl,D.db,XD x D.dh D.df,x.hh _ _ D.dh,D.len,D.nl,D.nd,fun j l g h1 h2=>by
  obtain⟨a,b,c⟩:=D.each j l g h1 h2
  exact⟨a,XD x c b,x.hh _ _ c⟩⟩
theorem Dc.set{B F H:Hp}{σ:St}{i k:Nat}{G:Gr}{d:Addr}{ls:List Addr}{v:Option V}(D:Dc B F H σ i G d ls)(h:k≠i):Dc B F H (σ.set k v) i G d ls:=
 { D with sl:=by rw[getElem?_set_ne h];exact D.sl }
omit [Tabs] in
theorem YL(k:Int):∀(G:Gr) (ls:List Addr),ls.length=G.length→k∉G.map (·.1)→jq (kvG G ls) (Sum.inl k)=none
 |[],_,_,_=>rfl
 |g::G,l::ls,hl,h=>by
  rw[map_cons,mem_cons,not_or] at h
  show jq ((Sum.inl g.1,V.ref l)::kvG G ls) _=_
  rw[uF (fun z=>h.1 (by cases z;rfl))]
  exact YL k G ls (by simpa using hl) h.2
 |_::_,[],hl,_=>by simp at hl
omit [Tabs] in
theorem jN(k:Int):∀(G:Gr) (ls:List Addr),ls.length=G.length→k∈G.map (·.1)→∃(j:Nat) (l:Addr) (g:Int×List Int),ls[j]?=some l∧G[j]?=some g∧g.1=k∧jq (kvG G ls) (Sum.inl k)=some (.ref l)
 |[],_,_,h=>by simp at h
 |g::G,l::ls,hl,h=>by
  by_cases z:g.1=k
  ·exact⟨0,l,g,rfl,rfl,z,jO (p:=(Sum.inl g.1,V.ref l)) (by rw[z])⟩
  ·rw[map_cons,mem_cons] at h
   rcases h with h|h
   ·exact absurd h.symm z
   ·obtain⟨j,l',g',h1,h2,h3,h4⟩:=jN k G ls (by simpa using hl) h
    refine⟨j+1,l',g',by simpa using h1,by simpa using h2,h3,?_⟩
    show jq ((Sum.inl g.1,V.ref l)::kvG G ls) _=_
    rw[uF (fun y=>z (by cases y;rfl))];exact h4
 |_::_,[],hl,_=>by simp at hl
noncomputable def Zv(G:Gr)(k v:Int):Gr:=G.map fun g=>if g.1=k then (g.1,g.2++[v]) else g
noncomputable def ZJ(G:Gr)(k:Int):Gr:=if k∈G.map (·.1) then G else G++[(k,[])]
omit [Tabs] in
theorem ZX(G:Gr)(k v:Int):(Zv G k v).map (·.1)=G.map (·.1):=by
 unfold Zv;rw[map_map]
 exact map_congr_left fun g _=>by simp only[Function.comp];split <;> rfl
omit [Tabs] in
theorem T1{G G':Gr}(ls:List Addr)(h:G'.map (·.1)=G.map (·.1)):kvG G' ls=kvG G ls:=by
 unfold kvG
 have:∀(G:Gr),(G.zip ls).map (fun p=>((Sum.inl p.1.1:Key),V.ref p.2))=((G.map (·.1)).zip ls).map fun p=>((Sum.inl p.1:Key),V.ref p.2):=fun G=>by
  rw[List.zip_map_left,map_map];rfl
 rw[this G',this G,h]
theorem Dc.new{B F H:Hp}{σ:St}{i:Nat}{G:Gr}{d l:Addr}{ls:List Addr}{k:Int}(D:Dc B F H σ i G d ls)(hk:k∉G.map (·.1))(hl:H l=some (.lst []))(fl:F l=none)(bl:B l=none)(nin:l∉ls) :
  Dc B F (upd H d (.dK (kvG (G++[(k,[])]) (ls++[l])))) σ i (G++[(k,[])]) d (ls++[l]):=by
 have nld:l≠d:=fun z=>by subst z;rw[D.dh] at hl;cases hl
 refine⟨D.sl,D.db,D.df,zv,by simp[D.len],?_,?_,fun j m g h1 h2=>?_⟩
 ·rw[List.nodup_append]
  exact⟨D.nl,by simp,fun a ha b hb=>by rw[mem_singleton.mp hb];exact fun z=>nin (z ▸ ha)⟩
 ·rw[map_append,List.nodup_append]
  exact⟨D.nd,by simp,fun a ha b hb=>by rw[mem_singleton.mp hb];exact fun z=>hk (by have z':a=k:=z;rw[← z'];exact ha)⟩
 ·by_cases hj:j<ls.length
  ·rw[getElem?_append_left hj] at h1
   rw[getElem?_append_left (by rw[← D.len];exact hj)] at h2
   obtain⟨a,b,c⟩:=D.each j m g h1 h2
   have m1:m≠d:=fun z=>by subst z;rw[D.dh] at c;cases c
   exact⟨a,b,by rw[zo m1];exact c⟩
  ·rw[getElem?_append_right (by lia)] at h1
   rw[getElem?_append_right (by rw[← D.len];lia)] at h2
   have e:j-ls.length=0:=by
    have:=(List.getElem?_eq_some_iff.mp h1).1
    simp at this;lia
   rw[e] at h1
   rw[← D.len,e] at h2
   cases h1;cases h2
   exact⟨bl,fl,by rw[zo nld];exact hl⟩
theorem Dc.other{B F H:Hp}{σ:St}{i:Nat}{G:Gr}{d p:Addr}{ls:List Addr}{o:HO}(D:Dc B F H σ i G d ls)(hp:H p=none):Dc B F (upd H p o) σ i G d ls:=by
 refine⟨D.sl,D.db,D.df,?_,D.len,D.nl,D.nd,fun j l g h1 h2=>?_⟩
 ·rw[zo (fun z=>by subst z;rw[D.dh] at hp;cases hp)];exact D.dh
 ·obtain⟨a,b,c⟩:=D.each j l g h1 h2
  exact⟨a,b,by rw[zo (fun z=>by subst z;rw[c] at hp;cases hp)];exact c⟩
theorem Dc.out{B F H:Hp}{σ:St}{i:Nat}{G:Gr}{d p:Addr}{ls:List Addr}(D:Dc B F H σ i G d ls)(hp:H p=none):p∉ls:=fun z=>by
 obtain⟨j,hj⟩:=getElem?_of_mem z
 have hj':j<G.length:=by rw[← D.len];exact(List.getElem?_eq_some_iff.mp hj).1
 have:=(D.each j p G[j] hj (by simp[hj'])).2.2
 rw[hp] at this;cases this
omit [Tabs] in
theorem zc1{G:Gr}{ls:List Addr}{k:Int}{l:Addr}(hl:ls.length=G.length)(hk:k∉G.map (·.1)):ZC (kvG G ls) (Sum.inl k) (.ref l)=kvG (G++[(k,[])]) (ls++[l]):=by
 unfold ZC
 rw[YM,YL k G ls hl hk,if_neg (by simp)]
 unfold kvG
 rw[List.zip_append hl.symm,map_append];rfl
theorem Dc.add{B F H:Hp}{σ:St}{i j:Nat}{G:Gr}{d l:Addr}{ls:List Addr}{k v:Int}{g:Int×List Int}(D:Dc B F H σ i G d ls)(h1:ls[j]?=some l)(h2:G[j]?=some g)(hk:g.1=k) :
  Dc B F (upd H l (.lst (g.2.map V.int++[.int v]))) σ i (Zv G k v) d ls:=by
 obtain⟨b1,b2,b3⟩:=D.each j l g h1 h2
 have nld:d≠l:=fun z=>by subst z;rw[D.dh] at b3;cases b3
 refine⟨D.sl,D.db,D.df,by rw[zo nld,D.dh,T1 ls (ZX G k v)],by rw[D.len];simp[Zv],D.nl,by rw[ZX];exact D.nd,fun j' l' g' q1 q2=>?_⟩
 unfold Zv at q2
 rw[getElem?_map] at q2
 cases e:G[j']? with
 |none=>rw[e] at q2;cases q2
 |some g0=>
  rw[e] at q2
  obtain⟨c1,c2,c3⟩:=D.each j' l' g0 q1 e
  simp only[Option.map_some,Option.some.injEq] at q2
  by_cases hj:j'=j
  ·subst hj
   rw[h1] at q1;cases q1
   rw[h2] at e;cases e
   rw[if_pos hk] at q2
   subst q2
   exact⟨b1,b2,by rw[zv];simp⟩
  ·have nk:¬ g0.1=k:=fun z=>by
    have z1:(G.map (·.1))[j']?=some k:=by rw[getElem?_map,e];simp[z]
    have z2:(G.map (·.1))[j]?=some k:=by rw[getElem?_map,h2];simp[hk]
    have y1:=(List.getElem?_eq_some_iff.mp z1).1
    exact hj ((List.getElem?_inj y1 D.nd).mp (by rw[z1,z2]))
   rw[if_neg nk] at q2
   subst q2
   have nll:l'≠l:=fun z=>by
    subst z
    have y1:=(List.getElem?_eq_some_iff.mp q1).1
    exact hj ((List.getElem?_inj y1 D.nl).mp (by rw[q1,h1]))
   exact⟨c1,c2,by rw[zo nll];exact c3⟩
section
variable{X:Cx}{i:Nat}{y:Str}{e0 e0' e0'' e1:Expr}{f0 f1:FE}{q1 q2 q3 cp sp sp2 lp ap ip atp callp xp:Pos}
noncomputable def tTB(X:Cx)(i:Nat)(f0 f1:FE):TS:=fun E σ H=>∃B Z F τ G d ls k v,RS X.K B Z F τ σ H∧Vl τ∧Dc B F H σ i G d ls∧f0 τ=.ok (.int k)∧f1 τ=.ok (.int v)∧G.length≤1000∧(∀g∈G,g.2.length≤1000) ∧
 ∀F' H' ls',Same F F'→RS X.K B Z F' τ σ H'→Dc B F' H' σ i (Zv (ZJ G k) k v) d ls'→E.nx σ H'
theorem V0{X:Cx}{α:Type}{r:Rs α}{a:α}{P:α→Prop}(h:r=.ok a)(p:P a):Ok X r P:=by rw[h];exact p
theorem Va{B H:Hp}{p:Addr}(h:Hh B H)(e:H p=none):B p=none:=by
 cases q:B p with
 |none=>rfl
 |some o=>exact absurd e (Kp.some (h p o q))
theorem Tq{F H:Hp}{p:Addr}(h:Same F H)(e:H p=none):F p=none:=by
 cases q:F p with
 |none=>rfl
 |some o=>have:=h p o q;rw[e] at this;cases this
theorem UP{B Z F H:Hp}{τ:DS}{σ:St}{G:Gr}{d:Addr}{ls:List Addr}{k v:Int}{Q:Hp→Prop}(R:RS X.K B Z F τ σ H)(vl:Vl τ)(D:Dc B F H σ i G d ls)(h0:f0 τ=.ok (.int k))(h1:f1 τ=.ok (.int v))(hk:k∈G.map (·.1))(hs:∀g∈G,g.2.length≤1000)
  (q:∀F' H',Same F F'→RS X.K B Z F' τ σ H'→Dc B F' H' σ i (Zv G k v) d ls→Q H') :
  tBM X.K "list" Yv (VB (uc i) (tE X f0)) (tAs X (za f1 zh)) σ H fun _ H1=>Q H1:=by
 refine⟨_,D.sl,?_⟩
 refine tE.at R (V0 h0 rfl) fun dd w F1 H1 g x R1 r=>?_
 subst g
 simp only[Rep] at r;subst r
 have D1:=D.ext x
 obtain⟨j,l,g,j1,j2,j3,j4⟩:=jN k G ls D.len hk
 obtain⟨c1,c2,c3⟩:=D1.each j l g j1 j2
 have gt:DGet H1 d (.int k) (some (.ref l)):=by
  have:=DGet.k (k:=Sum.inl k) D1.dh
  rw[j4] at this;exact this
 refine⟨d,.ref l,rfl,gt,.inl ⟨rfl,_,SqL.of c3⟩,?_⟩
 refine tAs.of R1.rv (V0 (show za f1 zh τ=.ok [.int v] by unfold za zh;rw[h1];rfl) rfl) fun ds vs F2 H2 g2 x2 R2 r2=>?_
 subst g2
 obtain⟨w,rfl,r3⟩:=r2.one
 simp only[Rep] at r3;subst r3
 have D2:=D1.ext x2
 obtain⟨_,b2,b3⟩:=D2.each j l g j1 j2
 refine⟨l,_,.int v,rfl,rfl,b3,?_,?_⟩
 ·rw[length_map,sizeLine_eq]
  have:g∈G:=mem_of_getElem? j2
  have:=hs g this;lia
 ·exact q F2 _ (x.ff.trans x2.ff) (RS.free (R1.ext x2) vl c1 b2 (.inr (.inl ⟨_,b3⟩))) (D2.add j1 j2 j3)
omit [Tabs] in
theorem ze9{G:Gr}{k:Int}(h:k∈G.map (·.1)):ZJ G k=G:=if_pos h
omit [Tabs] in
theorem Tu{G:Gr}{k:Int}(h:k∉G.map (·.1)):ZJ G k=G++[(k,[])]:=if_neg h
omit [Tabs] in
theorem Tv(G:Gr)(k:Int):k∈(ZJ G k).map (·.1):=by
 unfold ZJ
 split
 ·assumption
 ·simp
theorem zo9(hu:X.A.units+1<cLine)(he0:PDE X e0 f0)(he0':PDE X e0' f0)(he0'':PDE X e0'' f0)(he1:PDE X e1 f1)(hy1:PE X (.Name y q1) (uc i))(hy2:PE X (.Name y q2) (uc i))(hy3:PE X (.Name y q3) (uc i))
  (hb:behindInMarks .NotIn (.Name y q1)=false:=by rfl) (hsw:swapsWith (.List [] lp) (some (.Subscript (.Name y q2) e0' sp)) ap.line X.env=pure false:=by rfl) (hns:zv9 e0'':=by intro _ _;rfl)
  (hbase:attributeBase (.Subscript (.Name y q3) e0'' sp2) "append" X.env (eval (.Subscript (.Name y q3) e0'' sp2) X.env)=eval (.Subscript (.Name y q3) e0'' sp2) X.env:=by rfl)
  (hfew:((backTo callp (starEach [e1] X.env)).all (fun x=>!x.1)&&(backToKw callp (keywordEach [] X.env)).all (fun x=>x.1.isSome)
   && decide ([e1].length+([]:List Keyword).length+(if ([]:List Keyword).isEmpty then 0 else 1)<30))=true:=by rfl)
  (hline:(atp.endLine==callp.line)=true:=by rfl) (hs:starEach [e1] X.env=[(false,eval e1 X.env)]:=by rfl) (hplain:(backTo callp (starEach [] X.env)).any (·.1)=false:=by rfl)
  (hsx:swapsWith (.Call (.Attribute (.Subscript (.Name y q3) e0'' sp2) "append" atp) [e1] [] callp) none xp.line X.env=pure false:=by rfl) :
  PSs X [.If (.Compare e0 [.NotIn] [.Name y q1] cp) [.Assign [.Subscript (.Name y q2) e0' sp] (.List [] lp) ap] [] ip,.Expr (.Call (.Attribute (.Subscript (.Name y q3) e0'' sp2) "append" atp) [e1] [] callp) xp] (tTB X i f0 f1):=
 PSs.imp (jX (zl5 (zo8 (Gp hu he0 hy1) hb) (Yw (zc4 hu hy2 he0' (Jb jE) hsw)) J8)
  (Yw (WZ (M5 PySem.F.plainAttrs_list PySem.F.slot_list_append PySem.F.type_list_append jk (Qd hu hy3 he0'' hns) (zd he1 zi (by rw[hs];rfl)) hbase hfew hline (by rw[hs];rfl) hplain) hsx))) fun E σ H h=>by
  obtain⟨B,Z,F,τ,G,d,ls,k,v,R,vl,D,h0,h1,hz,hgs,q⟩:=h
  refine tE.at R (V0 h0 rfl) fun dd w F1 H1 g x R1 r=>?_
  subst g
  simp only[Rep] at r;subst r
  have D1:=D.ext x
  refine⟨_,D1.sl,d,jq (kvG G ls) (Sum.inl k),rfl,DGet.k (k:=Sum.inl k) D1.dh,_,rfl,?_⟩
  by_cases hk:k∈G.map (·.1)
  ·obtain⟨j,l,g,j1,j2,j3,j4⟩:=jN k G ls D.len hk
   rw[j4]
   show tBM X.K "list" Yv (VB (uc i) (tE X f0)) (tAs X (za f1 zh)) σ H1 fun _ H1=>E.nx σ H1
   refine UP R1 vl D1 h0 h1 hk hgs fun F' H' ff R' D'=>?_
   rw[ze9 hk] at q
   exact q F' H' ls (x.ff.trans ff) R' D'
  ·rw[YL k G ls D.len hk]
   show zl3 (uc i) (tE X f0) (tLst _) _ σ H1
   refine⟨by simp,fun p hp=>?_⟩
   have bp:B p=none:=Va R1.bh hp
   have fp:F1 p=none:=Tq R1.rv.fh hp
   have R2:=RS.free (o:=.lst []) R1 vl bp fp (.inl hp)
   have D2:=D1.other (o:=.lst []) hp
   refine⟨_,D2.sl,?_⟩
   refine tE.at R2 (V0 h0 rfl) fun dd w F3 H3 g x3 R3 r=>?_
   subst g
   simp only[Rep] at r;subst r
   have D3:=D2.ext x3
   have hl3:H3 p=some (.lst []):=x3.hh _ _ zv
   have fl3:F3 p=none:=XD x3 zv fp
   have pt:=DPut.k (k:=Sum.inl k) (v:=.ref p) D3.dh (by rw[sizeLine_eq];unfold kvG;rw[length_map,List.length_zip];lia)
   rw[zc1 D.len hk] at pt
   refine⟨d,_,rfl,pt,?_⟩
   have D4:=D3.new hk hl3 fl3 bp (D1.out hp)
   have R4:=RS.free (o:=.dK (kvG (G++[(k,[])]) (ls++[p]))) R3 vl D3.db D3.df (.inr (.inr ⟨_,D3.dh⟩))
   show tBM X.K "list" Yv (VB (uc i) (tE X f0)) (tAs X (za f1 zh)) σ _ fun _ H1=>E.nx σ H1
   refine UP R4 vl D4 h0 h1 (by simp) (fun g hg=>?_) fun F' H' ff R' D'=>?_
   ·rcases mem_append.mp hg with hg|hg
    ·exact hgs g hg
    ·rw[mem_singleton.mp hg];exact zero_le _
   ·rw[Tu hk] at q
    exact q F' H' (ls++[p]) ((x.ff.trans x3.ff).trans ff) R' D'
end
noncomputable def Yi(p:Int×Int):D:=.tup [.int p.1,.int p.2]
noncomputable def grp(rows:List (Int×Int)):Gr:=rows.foldl (fun G p=>Zv (ZJ G p.1) p.1 p.2) []
omit [Tabs] in
theorem Zj(rows:List (Int×Int))(p:Int×Int):grp (rows++[p])=Zv (ZJ (grp rows) p.1) p.1 p.2:=by unfold grp;rw[List.foldl_append];rfl
omit [Tabs] in
theorem ZQ(rows:List (Int×Int)):∀n,(grp (rows.take n)).length≤n∧∀g∈grp (rows.take n),g.2.length≤n:=by
 intro l_
 induction l_ with
 |zero=>
  simp[grp]
 |succ n ih_=>
  obtain⟨h1,h2⟩:=ih_
  by_cases hn:n<rows.length
  ·rw[List.take_succ_eq_append_getElem hn,Zj]
   have hl:(ZJ (grp (rows.take n)) rows[n].1).length≤n+1∧∀g∈ZJ (grp (rows.take n)) rows[n].1,g.2.length≤n:=by
    unfold ZJ
    split
    ·exact⟨by lia,h2⟩
    ·refine⟨by rw[length_append,length_singleton];lia,fun g hg=>?_⟩
     rcases mem_append.mp hg with hg|hg
     ·exact h2 g hg
     ·rw[mem_singleton.mp hg];exact zero_le _
   unfold Zv
   refine⟨by rw[length_map];exact hl.1,fun g hg=>?_⟩
   obtain⟨g0,hg0,rfl⟩:=mem_map.mp hg
   have:=hl.2 g0 hg0
   split
   ·simp;lia
   ·lia
  ·rw[take_of_length_le (by lia)]
   rw[take_of_length_le (by lia)] at h1 h2
   exact⟨by lia,fun g hg=>by have:=h2 g hg;lia⟩
section
variable{X:Cx}{i r:Nat}{x y:Str}{e0 e0' e0'' e1 iter:Expr}{fi:FA}{q1 q2 q3 cp sp sp2 lp ap ip atp callp xp tp pos:Pos}
noncomputable abbrev ix0(r:Nat):FE:=eOp ixD (zc r) (eC (.int 0))
noncomputable abbrev ix1(r:Nat):FE:=eOp ixD (zc r) (eC (.int 1))
theorem zt0{τ:DS}{r:Nat}{p:Int×Int}(h:r<τ.length):ix0 r (τ.set r (some (.val (Yi p))))=.ok (.int p.1)∧ix1 r (τ.set r (some (.val (Yi p))))=.ok (.int p.2):=by
 have e:zc r (τ.set r (some (.val (Yi p))))=.ok (Yi p):=by
  unfold zc
  rw[getElem?_set_self h]
 unfold ix0 ix1 eOp
 rw[e]
 exact⟨rfl,rfl⟩
noncomputable def tTF(X:Cx)(i r:Nat)(fi:FA):TS:=fun E σ H=>∃B Z F τ d rows,RS X.K B Z F τ σ H∧Vl τ∧Dc B F H σ i [] d []∧r<τ.length∧r≠i∧fi τ=.ok (rows.map Yi)∧rows.length≤1000 ∧
 ∀σ' F' H' τ' ls,Same F F'→RS X.K B Z F' τ' σ' H'→Vl τ'→Dc B F' H' σ' i (grp rows) d ls→E.nx σ' H'
theorem ps_tf{body:List Stmt}(hp:PassesOwn (model X.prog X.w) X.A X.env X.xe)(hc:X.calm=true)(hi:PDI X (.Name x tp) iter fi)(hN:X.N.Nodup)(hx:X.N[r]?=some x)(hlc:Loc X.env.scope x)
  (hb:PSs X body (tTB X i (ix0 r) (ix1 r))) (hf:X.fn x=true∨X.env.scope.names.lookup x=some .local:=by first|exact .inl rfl|exact .inr rfl|assumption) (hs:∀x,foldedSetIterable iter X.env x=pure x:=by intro _;rfl) :
  PS X (.For (.Name x tp) iter body [] pos) (tTF X i r fi):=
 PS.imp (MW hp hc hi (vL hN hx hlc hf) hb hs) fun E σ H h=>by
  obtain⟨B,Z,F,τ,d,rows,R,vl,D,hr,hri,hfi,hz,q⟩:=h
  refine⟨F,τ,R.rv,V0 hfi fun J F1 H1 x1 io=>?_⟩
  refine⟨fun n m σ H=>m=rows.length-n∧n≤rows.length∧∃F' τ' ls,Same F1 F'∧RS X.K B Z F' τ' σ H∧Vl τ'∧τ'.length=τ.length∧Dc B F' H σ i (grp (rows.take n)) d ls,⟨rows.length,by simp,zero_le _,F1,τ,[],Same.refl _,R.ext x1,vl,rfl,D.ext x1⟩,?_⟩
  rintro n m σ2 H2 ⟨rfl,hn,F2,τ2,ls,f2,R2,v2,t2,D2⟩
  obtain⟨i1,i2⟩:=io n F2 H2 f2 R2.rv.fh
  by_cases hlt:n<rows.length
  ·obtain⟨go,yl⟩:=i2 (Yi rows[n]) (by simp[hlt])
   refine .inr ⟨go,fun σ' H'=>∃F' τ' ls,Same F2 F'∧RS X.K B Z F' τ' σ' H'∧Vl τ'∧τ'.length=τ.length∧Dc B F' H' σ' i (grp (rows.take (n+1))) d ls,fun σ' H' ⟨F',τ',ls',a,b,c,t,e⟩=>⟨rows.length-(n+1),by lia,rfl,hlt,F',τ',ls',f2.trans a,b,c,t,e⟩,fun w H' yy=>?_⟩
   obtain⟨F3,x3,r3⟩:=yl w H' yy
   have R3:=(R2.ext x3).set (i:=r) r3
   have D3:=(D2.ext x3).set (v:=some w) (k:=r) hri
   obtain⟨z0,z1⟩:=zt0 (τ:=τ2) (r:=r) (p:=rows[n]) (by rw[t2];exact hr)
   obtain⟨g1,g2⟩:=ZQ rows n
   refine⟨B,Z,F3,_,grp (rows.take n),d,ls,rows[n].1,rows[n].2,R3,v2.set r _,D3,z0,z1,by lia,fun g hg=>by have:=g2 g hg;lia,fun F' H'' ls' ff RR DD=>?_⟩
   refine⟨F',_,ls',x3.ff.trans ff,RR,v2.set r _,by rw[length_set];exact t2,?_⟩
   rw[List.take_succ_eq_append_getElem hlt,Zj]
   exact DD
  ·have e:n=rows.length:=by lia
   subst e
   rw[List.take_length] at D2
   exact .inl ⟨i1 (by simp),q σ2 F2 H2 τ2 ls (x1.ff.trans f2) R2 v2 D2⟩
end
noncomputable def wL(G:Gr)(k:Int):List Int:=((G.find? fun g=>decide (g.1=k)).map (·.2)).getD []
noncomputable def xB(G:Gr):List Int:=(STW.setZ (G.map (·.1))).reverse
noncomputable def Q3(G:Gr):List D:=(xB G).map fun k=>.tup [.int k,.lst ((wL G k).map D.int)]
omit [Tabs] in
theorem Qu(k:Int):∀(G:Gr) (j:Nat) (g:Int×List Int),(G.map (·.1)).Nodup→G[j]?=some g→g.1=k→wL G k=g.2
 |[],_,_,_,h,_=>by simp at h
 |g0::G,0,g,_,h,hk=>by
  cases h
  unfold wL
  rw[List.find?_cons_of_pos (by simpa using hk)];rfl
 |g0::G,j+1,g,nd,h,hk=>by
  have h':G[j]?=some g:=by simpa using h
  rw[map_cons,nodup_cons] at nd
  have ne:¬ g0.1=k:=fun z=>nd.1 (by rw[z,← hk];exact List.mem_map_of_mem (mem_of_getElem? h'))
  unfold wL
  rw[List.find?_cons_of_neg (by simpa using ne)]
  exact Qu k G j g nd.2 h' hk
omit [Tabs] in
theorem zh2{G:Gr}{k:Int}(h:k∈xB G):k∈G.map (·.1):=by
 unfold xB at h
 rw[List.mem_reverse,STW.setZ_mem] at h;exact h
noncomputable def G1(F H:Hp)(nw:List Addr):Hp:=fun a=>if a∈nw then H a else F a
theorem Xw{F H:Hp}{nw:List Addr}{a:Addr}(h:a∈nw):G1 F H nw a=H a:=if_pos h
theorem YD{F H:Hp}{nw:List Addr}{a:Addr}(h:a∉nw):G1 F H nw a=F a:=if_neg h
noncomputable def Cold(o:Option HO):Prop:=(∃vs,o=some (.lst vs))∨∃vs,o=some (.tup vs)
theorem zi6{K:Frag}{B Z F H0 H:Hp}{τ:DS}{σ:St}{nw:List Addr}(R:RS K B Z F τ σ H0)(hs:Same H0 H)(hb:∀a∈nw,B a=none)(hc:∀a∈nw,Cold (H a))(ho:∀d a,H d=some (.own a)→H0 d=some (.own a)):Ext Z B (G1 F H nw) H:=by
 have fz:∀a o,Z a=some o→a∉nw→G1 F H nw a=some o:=fun a o e n=>by rw[YD n];exact R.zf a o e
 refine⟨fun a o e=>?_,R.bh.trans (.of hs),fun a o e=>?_,fun a o e=>?_,fun _=>⟨fun r hr=>?_,fun d a e=>?_⟩⟩
 ·by_cases z:a∈nw
  ·rw[Xw z];exact hs a o (R.rv.fh a o (R.zf a o e))
  ·exact fz a o e z
 ·by_cases z:a∈nw
  ·rw[Xw z] at e;exact e
  ·rw[YD z] at e;exact hs a o (R.rv.fh a o e)
 ·by_cases z:a∈nw
  ·exact .inr (hb a z)
  ·rw[YD z] at e;exact R.nb a o e
 ·obtain⟨t1,t2⟩:=R.rv.tt.1 r hr
  have nin:r.1∉nw:=fun z=>by
   have h1:=hc _ z
   rcases t2 with q|⟨c,q,_⟩
   ·rw[hs _ _ q] at h1;rcases h1 with ⟨vs,h1⟩|⟨vs,h1⟩ <;> cases h1
   ·rw[hs _ _ q] at h1;rcases h1 with ⟨vs,h1⟩|⟨vs,h1⟩ <;> cases h1
  refine⟨by rw[YD nin];exact t1,?_⟩
  rcases t2 with q|⟨c,q,q2⟩
  ·exact .inl (hs _ _ q)
  ·exact .inr ⟨c,hs _ _ q,hs _ _ q2⟩
 ·obtain⟨C,dx,vs,q⟩:=R.rv.tt.2 d a (ho d a e)
  exact⟨C,dx,vs,hs _ _ q⟩
noncomputable def teT:TE:=tTup (Mv (uc 0) (Mv (VB (uc 1) (uc 0)) tNil))
noncomputable def tTR(X:Cx)(i:Nat):TE:=fun σ H Q=>∃B Z F τ G d ls,RS X.K B Z F τ σ H∧Vl τ∧Dc B F H σ i G d ls∧G.length<64∧∀v F' H',Ext Z B F' H'→Rep X.K F' (.lst (Q3 G)) v→Q v H'
theorem zj8{X:Cx}{i:Nat}(σ:St)(H:Hp)(Q:VK)(h:tTR X i σ H Q):VC (vo 1 [i]) (zm1 X.K (UY i)) (uC 0) (fun _ H Q=>Q true H) teT σ H Q:=by
 obtain⟨B,Z,F,τ,G,d,ls,R,vl,D,h64,q⟩:=h
 have kk:(kvG G ls).map (·.1)=(G.map (·.1)).map Sum.inl:=by
  unfold kvG
  rw[map_map,map_map]
  have:∀(G:Gr) (ls:List Addr),ls.length=G.length→(G.zip ls).map (fun p=>(Sum.inl p.1.1:Key))=G.map fun g=>Sum.inl g.1:=fun G=>by
   induction G with
   |nil=>intro ls _;rfl
   |cons g G ih=>
    intro ls hl
    cases ls with
    |nil=>simp at hl
    |cons l ls=>rw[List.zip_cons_cons,map_cons,map_cons,ih ls (by simpa using hl)]
  exact this G ls D.len
 refine⟨d,kvG G ls,G.map (·.1),D.sl,D.dh,kk,D.nd,by simpa using h64,fun a ha=>?_⟩
 refine⟨a,rfl,⟨_,SqL.of zv⟩,fun acc hacc=>?_⟩
 have hs1:Same H (upd H a (.lst ((STW.setZ (G.map (·.1))).reverse.map V.int))):=yi ha
 generalize hH1:upd H a (.lst ((STW.setZ (G.map (·.1))).reverse.map V.int))=H1 at hacc hs1 ⊢
 have hla:H1 a=some (.lst ((xB G).map V.int)):=by rw[← hH1];exact zv
 have only1:∀b,b≠a→H1 b=H b:=fun b hb=>by rw[← hH1];exact zo hb
 refine⟨fun n m σ1 Hc=>m=(xB G).length-n∧n≤(xB G).length∧σ1[1]?=some (some (.ref d))∧σ1.length=2∧∃ps:List Addr,ps.length=n∧Hc acc=some (.lst (ps.map V.ref))∧(∀b,b≠acc→b∉ps→Hc b=H1 b)∧acc∉ps ∧
  ∀(j:Nat) (p:Addr) (k:Int),ps[j]?=some p→(xB G)[j]?=some k→H1 p=none∧∃l,Hc p=some (.tup [.int k,.ref l])∧l∈ls∧H l=some (.lst ((wL G k).map V.int)),⟨_,rfl,zero_le _,?_,rfl,[],rfl,zv,fun b hb _=>zo hb,by simp,fun j p k h=>by simp at h⟩,?_⟩
 ·show(List.replicate 1 none++[(σ[i]?).join])[1]?=_
  rw[D.sl];rfl
 rintro n m σ1 Hc ⟨rfl,hn,sd,s2,ps,pl,hac,ho,nap,hps⟩
 have haa:a≠acc:=fun z=>by rw[z] at hla;rw[hacc] at hla;cases hla
 have nps:∀b o,H1 b=some o→b≠acc∧b∉ps:=fun b o e=>by
  refine⟨fun z=>?_,fun z=>?_⟩
  ·rw[z,hacc] at e;cases e
  ·obtain⟨j,hj⟩:=getElem?_of_mem z
   have hj':j<(xB G).length:=by have:=(List.getElem?_eq_some_iff.mp hj).1;lia
   have:=(hps j b (xB G)[j] hj (by simp[hj'])).1
   rw[e] at this;cases this
 have kp:∀b o,H1 b=some o→Hc b=some o:=fun b o e=>by rw[ho b (nps b o e).1 (nps b o e).2];exact e
 have hla':=kp _ _ hla
 by_cases hlt:n<(xB G).length
 ·refine .inr ⟨⟨_,.int (xB G)[n],SqL.of hla',by simp[hlt]⟩,fun x H' yy=>?_⟩
  obtain⟨e',yx⟩:=yy
  rw[e']
  have ex:x=.int (xB G)[n]:=by
   have:=yx _ (SqL.of hla')
   simpa[hlt] using this.symm
  subst ex
  have hk:(xB G)[n]∈G.map (·.1):=zh2 (getElem_mem hlt)
  obtain⟨j,l,g,j1,j2,j3,j4⟩:=jN _ G ls D.len hk
  obtain⟨c1,c2,c3⟩:=D.each j l g j1 j2
  have hd':Hc d=some (.dK (kvG G ls)):=kp _ _ (hs1 _ _ D.dh)
  unfold uC
  dsimp only
  rw[if_pos rfl]
  have sd':(σ1.set 0 (some (.int (xB G)[n])))[1]?=some (some (.ref d)):=by rw[getElem?_set_ne (by lia)];exact sd
  have s0':(σ1.set 0 (some (.int (xB G)[n])))[0]?=some (some (.int (xB G)[n])):=by rw[getElem?_set_self (by lia)]
  refine⟨_,s0',_,sd',_,s0',d,.ref l,rfl,?_,?_⟩
  ·have:=DGet.k (k:=Sum.inl (xB G)[n]) hd'
   rw[j4] at this;exact this
  refine⟨by show 2≤sizeLine;rw[sizeLine_eq];decide,fun p hp=>?_⟩
  have pa:p≠acc:=fun z=>by rw[z,hac] at hp;cases hp
  have pn:p∉ps:=fun z=>by
   obtain⟨j',hj⟩:=getElem?_of_mem z
   have hj':j'<(xB G).length:=by have:=(List.getElem?_eq_some_iff.mp hj).1;lia
   obtain⟨_,l',q',_⟩:=hps j' p (xB G)[j'] hj (by simp[hj'])
   rw[hp] at q';cases q'
  have p1:H1 p=none:=by rw[← ho p pa pn];exact hp
  refine⟨ps.map V.ref,by rw[zo (Ne.symm pa)];exact hac,by rw[length_map,pl,sizeLine_eq];have:=STW.setZ_le (G.map (·.1));unfold xB at hn;rw[List.length_reverse] at hn;rw[length_map] at this;lia,(xB G).length-(n+1),by lia,rfl,hlt,sd',by rw[length_set];exact s2,ps++[p],by simp[pl],?_,fun b hb hn'=>?_,?_,fun j' p' k' e1 e2=>?_⟩
  ·rw[zv,map_append];rfl
  ·rw[mem_append,not_or] at hn'
   rw[zo hb,zo (fun z=>hn'.2 (by simp[z]))]
   exact ho b hb hn'.1
  ·rw[mem_append,not_or];exact⟨nap,by simp;exact Ne.symm pa⟩
  ·by_cases hj:j'<ps.length
   ·rw[getElem?_append_left hj] at e1
    obtain⟨z1,l',z2,z3,z4⟩:=hps j' p' k' e1 e2
    have n1:p'≠acc:=fun z=>nap (by rw[← z];exact mem_of_getElem? e1)
    have n2:p'≠p:=fun z=>pn (by rw[← z];exact mem_of_getElem? e1)
    exact⟨z1,l',by rw[zo n1,zo n2];exact z2,z3,z4⟩
   ·rw[getElem?_append_right (by lia)] at e1
    have e0:j'-ps.length=0:=by have:=(List.getElem?_eq_some_iff.mp e1).1;simp at this;lia
    rw[e0] at e1;cases e1
    have ej:j'=n:=by lia
    subst ej
    rw[getElem?_eq_getElem hlt] at e2;cases e2
    refine⟨p1,l,by rw[zo pa,zv],mem_of_getElem? j1,?_⟩
    rw[Qu _ G j g D.nd j2 j3];exact c3
 ·have en:n=(xB G).length:=by lia
  refine .inl ⟨⟨_,SqL.of hla',by simp;lia⟩,?_⟩
  have hsH:Same H Hc:=fun b o e=>kp b o (hs1 b o e)
  have cold:∀b∈acc::(ps++ls),B b=none∧Cold (Hc b):=fun b hb=>by
   rcases mem_cons.mp hb with rfl|hb
   ·refine⟨Va R.bh ?_,.inl ⟨_,hac⟩⟩
    cases z:H b with
    |none=>rfl
    |some o=>rw[hs1 _ _ z] at hacc;cases hacc
   ·rcases mem_append.mp hb with hb|hb
    ·obtain⟨j,hj⟩:=getElem?_of_mem hb
     have hj':j<(xB G).length:=by have:=(List.getElem?_eq_some_iff.mp hj).1;lia
     obtain⟨z1,l',z2,_⟩:=hps j b (xB G)[j] hj (by simp[hj'])
     refine⟨Va R.bh ?_,.inr ⟨_,z2⟩⟩
     cases z:H b with
     |none=>rfl
     |some o=>rw[hs1 _ _ z] at z1;cases z1
    ·obtain⟨j,hj⟩:=getElem?_of_mem hb
     have hj':j<G.length:=by rw[← D.len];exact(List.getElem?_eq_some_iff.mp hj).1
     obtain⟨z1,_,z3⟩:=D.each j b G[j] hj (by simp[hj'])
     exact⟨z1,.inl ⟨_,hsH _ _ z3⟩⟩
  refine q (.ref acc) (G1 F Hc (acc::(ps++ls))) Hc (zi6 R hsH (fun b hb=>(cold b hb).1) (fun b hb=>(cold b hb).2) fun dd b e=>?_) ?_
  ·by_cases z1:dd=acc
   ·rw[z1,hac] at e;cases e
   ·by_cases z2:dd∈ps
    ·have:=(cold dd (by simp[z2])).2
     rw[e] at this;rcases this with ⟨_,z⟩|⟨_,z⟩ <;> cases z
    ·rw[ho dd z1 z2] at e
     by_cases z3:dd=a
     ·rw[z3,hla] at e;cases e
     ·rw[only1 dd z3] at e;exact e
  ·simp only[Rep]
   refine⟨acc,_,rfl,by rw[Xw (by simp)];exact hac,?_⟩
   unfold Q3
   have key:∀(ks:List Int) (qs:List Addr),qs.length=ks.length→(∀(j:Nat) (p:Addr) (k:Int),qs[j]?=some p→ks[j]?=some k→p∈ps∧∃l,Hc p=some (.tup [.int k,.ref l])∧l∈ls∧H l=some (.lst ((wL G k).map V.int))) →
     Reps X.K (G1 F Hc (acc::(ps++ls))) (ks.map fun k=>.tup [.int k,.lst ((wL G k).map FD.D.int)]) (qs.map V.ref):=fun ks=>by
    induction ks with
    |nil=>intro qs hl _;rw[length_nil,List.length_eq_zero_iff] at hl;subst hl;exact Reps.nil
    |cons k ks ih=>
     intro qs hl hq
     cases qs with
     |nil=>simp at hl
     |cons p qs=>
      obtain⟨hp,l,z2,z3,z4⟩:=hq 0 p k rfl rfl
      refine Reps.cons ?_ (ih qs (by simpa using hl) fun j p' k' e1 e2=>hq (j+1) p' k' (by simpa using e1) (by simpa using e2))
      simp only[Rep]
      refine⟨p,[.int k,.ref l],rfl,SqT.of (by rw[Xw (by simp[hp])];exact z2),Reps.cons (by simp only[Rep]) (Reps.cons ?_ Reps.nil)⟩
      simp only[Rep]
      exact⟨l,_,rfl,by rw[Xw (by simp[z3])];exact hsH _ _ z4,Reps.ints _⟩
   exact key (xB G) ps (by lia) fun j p k e1 e2=>by
    obtain⟨_,l,z2,z3,z4⟩:=hps j p k e1 e2
    exact⟨mem_of_getElem? e1,l,z2,z3,z4⟩
noncomputable def vlB(τ:DS):Bool:=τ.all fun s=>match s with
 |none=>true
 | some (.val _)=>true
 |_=>false
omit [Tabs] in
theorem zn0{τ:DS}(h:vlB τ=true):Vl τ:=fun i s e=>by
 have:=all_eq_true.mp h (some s) (mem_of_getElem? e)
 cases s with
 |val d=>exact⟨d,rfl⟩
 |_=>cases this
noncomputable def Z0:List D→Option (List (Int×Int))
 |[]=>some []
 |.tup [.int k,.int v]::r=>(Z0 r).map ((k,v) :: ·)
 |_::_=>none
omit [Tabs] in
theorem MM:∀{ds:List D} {rows:List (Int×Int)},Z0 ds=some rows→ds=rows.map Yi:=fun {ds}=>by
 induction ds with
 |nil=>intro rows h;cases h;rfl
 |cons d r ih=>
  intro rows h
  unfold Z0 at h
  split at h
  ·rename_i z;cases z
  ·rename_i k v r' z
   cases z
   cases q:Z0 r with
   |none=>rw[q] at h;cases h
   |some m=>rw[q] at h;cases h;rw[map_cons,ih q];rfl
  ·cases h
omit [Tabs] in
theorem U7(rows:List (Int×Int)):Z0 (rows.map Yi)=some rows:=by
 induction rows with
 |nil=>rfl
 |cons p r ih=>rw[map_cons];show(Z0 (r.map Yi)).map _=_;rw[ih];rfl
noncomputable def Wj(i r:Nat)(fi:FA):FS:=fun τ=>if vlB τ=true∧r<τ.length∧i<τ.length∧r≠i then match fi (τ.set i none) with
 |.ok ds=>match Z0 ds with
  |some rows=>if rows.length<64 then .rt (.lst (Q3 (grp rows))) else .no
  |none=>.no
 |_=>.no
 else .no
theorem RS.drop{K:Frag}{B Z F H:Hp}{τ:DS}{σ:St}{i:Nat}{v:Option V}(R:RS K B Z F τ σ H)(vl:Vl τ):RS K B Z F (τ.set i none) (σ.set i v) H∧Vl (τ.set i none):=by
 have get:∀(j:Nat) (s:Sl),(τ.set i none)[j]?=some (some s)→i≠j∧τ[j]?=some (some s):=fun j s h=>by
  by_cases z:i=j
  ·subst z
   rw[getElem?_set] at h
   simp only[if_true] at h
   split at h <;> cases h
  ·rw[getElem?_set_ne z] at h;exact⟨z,h⟩
 have vl':Vl (τ.set i none):=fun j s h=>vl j s (get j s h).2
 have own:∀(j:Nat) ds,(τ.set i none)[j]?≠some (some (.own ds)):=fun j ds h=>by obtain⟨d,e⟩:=vl' j _ h;cases e
 have obj:∀(j n:Nat) c fs,(τ.set i none)[j]?≠some (some (.obj n c fs)):=fun j n c fs h=>by obtain⟨d,e⟩:=vl' j _ h;cases e
 have obr:∀(j:Nat) c fs,(τ.set i none)[j]?≠some (some (.obr c fs)):=fun j c fs h=>by obtain⟨d,e⟩:=vl' j _ h;cases e
 refine⟨⟨⟨R.rv.fh,by rw[length_set,length_set];exact R.rv.len,fun j d h=>?_,fun j ds h=>absurd h (own j ds),fun j k ds es a _ h=>absurd h (own j ds),R.rv.tt,ObsOk.none vl'.noObj⟩,R.bh,R.zf,R.nb,fun j ds a h=>absurd h (own j ds),fun j n c fs a h=>absurd h (obj j n c fs),fun a0 dx _ _ j n c fs h=>absurd h (obj j _ c fs),fun j c fs a h=>absurd h (obr j c fs)⟩,vl'⟩
 obtain⟨ne,e⟩:=get j _ h
 obtain⟨w,h1,h2⟩:=R.rv.val j d e
 exact⟨w,by rw[getElem?_set_ne ne];exact h1,h2⟩
section
variable{X:Cx}{i r:Nat}{x y c:Str}{iter elt:Expr}{fi:FA}{body:List Stmt}{scope:Scope}{yp tp dp a1 fp rp cpos cp sp p1 p2 kp:Pos}{kk:Nat}
theorem Gf(hN:X.N.Nodup)(hc:X.calm=true)(hp:PassesOwn (model X.prog X.w) X.A X.env X.xe)
  (hy:X.N[i]?=some y) (hly:Loc X.env.scope y) (hx:X.N[r]?=some x) (hlx:Loc X.env.scope x)
  (hi:PDI X (.Name x tp) iter fi) (hb:PSs X body (tTB X i (ix0 r) (ix1 r)))
  (hbo:uu X.env.scope scope=true) (hfr:FreeOk scope X.N [y] [i])
  (hso:PE X elt (UY i)) (hg:∀s H C fp,PG (X.comp scope ([c]++[y]) s H C fp) (.Name c cp) (uC 0)) {e2:Expr} (he:∀s H C fp,PE (X.comp scope ([c]++[y]) s H C fp) e2 teT)
  (hsw:swapsWith (.Dict [] [] dp) (some (.Name y yp)) a1.line X.env=pure false:=by rfl) (hfy:X.fn y=true∨X.env.scope.names.lookup y=some .local:=by first|exact .inl rfl|exact .inr rfl|assumption)
  (hfx:X.fn x=true∨X.env.scope.names.lookup x=some .local:=by first|exact .inl rfl|exact .inr rfl|assumption) (hs:∀x,foldedSetIterable iter X.env x=pure x:=by intro _;rfl) (hs2:∀x,foldedSetIterable elt X.env x=pure x:=by intro _;rfl) :
  ja X [.Assign [.Name y yp] (.Dict [] [] dp) a1,.For (.Name x tp) iter body [] fp,.Return (some (.ListComp e2 [⟨.Name c cp,elt,[],0⟩] scope cpos)) rp] (Wj i r fi):=
 PSs.imp (jX (Ja (i:=i) hN hy hly M4 hsw hfy) (jX (ps_tf (r:=r) hp hc hi hN hx hlx hb hfx hs)
  (Yw (WY (PE.imp (Qe (s0:=vo [c].length [i]) (wJ hbo) hc (fun σ _=>by simp[vo]) (je (tn:=[c]) hfr) (zc7 hso) hg (fun s H C fp=>J7) he hs2) zj8))))) fun E σ H h=>by
  obtain⟨B,Z,F,τ,R,h⟩:=h
  unfold Wj at h
  by_cases z:vlB τ=true∧r<τ.length∧i<τ.length∧r≠i
  ·rw[if_pos z] at h
   obtain⟨z1,z2,z3,z4⟩:=z
   have vl:=zn0 z1
   intro p hp'
   have bp:B p=none:=Va R.bh hp'
   have fp':F p=none:=Tq R.rv.fh hp'
   obtain⟨R1,v1⟩:=RS.drop (i:=i) (v:=some (.ref p)) (RS.free (o:=.dK []) R vl bp fp' (.inl hp')) vl
   cases q:fi (τ.set i none) with
   |no=>rw[q] at h;exact h.elim
   |ex c=>rw[q] at h;exact h.elim
   |ok ds=>
    rw[q] at h
    dsimp only at h
    cases q2:Z0 ds with
    |none=>rw[q2] at h;exact h.elim
    |some rows=>
     rw[q2] at h
     have ed:=MM q2
     subst ed
     by_cases z5:rows.length<64
     ·simp only[if_pos z5] at h
      have gl:=(ZQ rows rows.length).1
      rw[List.take_length] at gl
      refine⟨B,Z,F,τ.set i none,p,rows,R1,v1,⟨?_,bp,fp',zv,rfl,List.nodup_nil,List.nodup_nil,fun j l g e=>by simp at e⟩,by rw[length_set];exact z2,z4,q,by lia,fun σ' F' H' τ' ls ff R' v' D'=>?_⟩
      ·rw[getElem?_set_self (by rw[← R.rv.len];exact z3)]
      ·exact⟨B,Z,F',τ',grp rows,p,ls,R',v',D',by lia,fun v F'' H'' x' rep=>h v F'' H'' x' rep⟩
     ·simp only[if_neg z5] at h;exact h.elim
  ·rw[if_neg z] at h;exact h.elim
end
section
variable{τ:DS}{fa fb fc fe fi:FE}{fs:FA}{op:D→D→Rs D}{d x y:D}{i j k:Int}{n m:Nat}
noncomputable def getV:Option (Option Sl)→Rs D
 | some (some (.val d))=>.ok d
 |_=>.no
noncomputable def Ux:Option (Option Sl)→Rs (List D)
 | some (some (.own d))=>.ok d
 |_=>.no
@[simp] theorem zA:getV (some (some (.val d)))=.ok d:=rfl
@[simp] theorem x6{ds:List D}:Ux (some (some (.own ds)))=.ok ds:=rfl
theorem zH:zc n τ=getV τ[n]?:=rfl
theorem vy:ju τ n=Ux τ[n]?:=rfl
theorem yv:eC d τ=.ok d:=rfl
theorem yg:eOp op fa fb τ=(fa τ).bind fun x=>(fb τ).bind fun y=>op x y:=rfl
theorem zZ:zh τ=.ok []:=rfl
theorem zx:za fa fs τ=(fa τ).bind fun x=>(fs τ).bind fun r=>.ok (x::r):=rfl
theorem Zn:xt fs τ=(fs τ).bind fun ds=>if ds.length≤sizeLine then .ok (.lst ds) else .no:=rfl
theorem QL:xg fs τ=(fs τ).bind fun ds=>if ds.length≤sizeLine then .ok (.tup ds) else .no:=rfl
theorem y3{g:List D→Rs D}:zp g fs τ=(fs τ).bind fun ds=>ze6 (g ds):=rfl
theorem vS{g:List D→Rs D}:yb g fs τ=(fs τ).bind g:=rfl
theorem Vp{g:FT}:eIf g fa fb τ=(g τ).bind fun b=>if b=true then fa τ else fb τ:=rfl
theorem YH:XJ fa fb τ=(fa τ).bind fun x=>(Zy x).bind fun b=>if b=true then fb τ else .ok x:=rfl
theorem Vo:eOr fa fb τ=(fa τ).bind fun x=>(Zy x).bind fun b=>if b=true then .ok x else fb τ:=rfl
noncomputable def boolOf:D→Rs Bool
 |.bl b=>.ok b
 |_=>.no
@[simp] theorem yh{b:Bool}:boolOf (.bl b)=.ok b:=rfl
theorem wy:FD.tB fe τ=(fe τ).bind boolOf:=rfl
theorem ud:uI fe τ=(fe τ).bind Zy:=rfl
theorem jQ{f g:FT}:jR f g τ=(f τ).bind fun b=>if b=true then g τ else .ok false:=rfl
theorem ue{f g:FT}:v4 f g τ=(f τ).bind fun b=>if b=true then .ok true else g τ:=rfl
theorem JV{f:FT}:ZZ f τ=(f τ).bind fun b=>.ok (!b):=rfl
theorem QM{T:String}{g:D→List D→Rs D}:JB T g fa τ=(fa τ).bind fun d=>if ZM T d=true then g d [] else .no:=rfl
theorem zu5{T:String}{g:D→List D→Rs D}:eMt T g fa fs τ=(fa τ).bind fun d=>if ZM T d=true then (fs τ).bind fun ds=>g d ds else .no:=rfl
theorem JA{fl fh:FO}:eSl fe fl fh τ=(fe τ).bind fun d=>(fl τ).bind fun l=>(fh τ).bind fun u=>slD d l u:=rfl
noncomputable def JZ:D→Rs (Option Int)
 |.int i=>.ok (some i)
 |_=>.no
@[simp] theorem VH:JZ (.int i)=.ok (some i):=rfl
theorem V3:v7 fe τ=(fe τ).bind JZ:=rfl
noncomputable def Fl.thn(r:Fl)(g:FS):Fl:=match r with
 |.nx τ=>g τ
 |r=>r
@[simp] theorem zV{g:FS}:(Fl.nx τ).thn g=g τ:=rfl
@[simp] theorem uH{g:FS}:(Fl.rt d).thn g=.rt d:=rfl
theorem zB{f g:FS}:zt f g τ=(f τ).thn g:=rfl
theorem zF:zI n fe τ=Fl.of (fe τ) fun d=>.nx (τ.set n (some (.val d))):=rfl
theorem vw:uz n fs τ=Fl.of (fs τ) fun ds=>.nx (τ.set n (some (.own ds))):=rfl
theorem yk{g:FT}{f h:FS}:sIf g f h τ=Fl.of (g τ) fun b=>if b=true then f τ else h τ:=rfl
theorem zT:yd fe τ=Fl.of (fe τ) fun d=>.rt d:=rfl
theorem vx:uM n τ=Fl.of (ju τ n) fun ds=>.rt (.lst ds):=rfl
theorem z7:yc τ=.nx τ:=rfl
theorem x9{set:FG}{body:FS}:wk fs set body τ=Fl.of (fs τ) fun ds=>ye set body ds τ:=rfl
@[simp] theorem zJ:uD (.rt d)=.ok d:=rfl
@[simp] theorem wt:ze6 (.ok d)=.ok d:=rfl
@[simp] theorem yK:zM (.int i) (.int j)=.ok (.int (i+j)):=rfl
theorem LZ{a b:Str}(h:a.length+b.length≤sizeLine):zM (.str a) (.str b)=.ok (.str (a++b)):=if_pos h
@[simp] theorem xQ:xr (.int i) (.int j)=.ok (.int (i-j)):=rfl
theorem uq(h:(-(18446744073709551616)<i∧i<18446744073709551616)∨(-(18446744073709551616)<j∧j<18446744073709551616)):ur (.int i) (.int j)=.ok (.int (i*j)):=if_pos h
theorem Xg(h:0<j):Vc (.int i) (.int j)=.ok (.int (i%j)):=by
 show(if decide (0<j)=true then _ else _)=_
 rw[if_pos (by simpa using h)]
theorem YE(h:0<j∧j<1073741824):XC (.int i) (.int j)=.ok (.int (i / j)):=by
 show(if decide (0<j∧j<1073741824)=true then _ else _)=_
 rw[if_pos (by simpa using h)]
@[simp] theorem Uv:gtD (.int i) (.int j)=.ok (.bl (decide (j<i))):=rfl
@[simp] theorem geD_i:geD (.int i) (.int j)=.ok (.bl (decide (j≤i))):=rfl
@[simp] theorem vj:eqD (.int i) (.int j)=.ok (.bl (i==j)):=rfl
@[simp] theorem WC{a b:Str}:eqD (.str a) (.str b)=.ok (.bl (a==b)):=rfl
@[simp] theorem neD_i:neD (.int i) (.int j)=.ok (.bl (!(i==j))):=rfl
@[simp] theorem Zi{a b:Str}:inD (.str a) (.str b)=.ok (.bl (VD a b)):=rfl
theorem x8(c:Nat)(x:Str):VD ⟨#[c]⟩ x=decide (c∈x.cps.toList):=StrLaws.found_one x c
@[simp] theorem TU{ns:List Int}:yN [.scr ns]=.ok (.int ns.length):=rfl
@[simp] theorem uU{ds:List D}:yN [.lst ds]=.ok (.int ds.length):=rfl
theorem Ug{a:Str}(h:a.length≤sizeLine):yN [.str a]=.ok (.int a.length):=if_pos h
theorem zh6{ns:List Int}{a:Int}(h:atI ns k=some a):ixD (.scr ns) (.int k)=.ok (.int a):=by
 show(match atI ns k with|some d=>Rs.ok (D.int d) | none=>.no)=_
 rw[h]
theorem Vf{ds:List D}{a:D}(h:atI ds k=some a):ixD (.lst ds) (.int k)=.ok a:=by
 show(match atI ds k with|some d=>Rs.ok d|none=>.no)=_
 rw[h]
theorem Ze{a:Str}{c:Nat}(h:atI a.cps.toList k=some c)(hz:a.length≤sizeLine):ixD (.str a) (.int k)=.ok (zy c):=by
 show(match atI a.cps.toList k with|some c=>if a.length≤sizeLine then Rs.ok (D.str ⟨#[c]⟩) else .no|none=>.no)=_
 rw[h]
 exact if_pos hz
theorem ZV{α:Type}{xs:List α}{a:α}(h0:0≤k)(h:xs[k.toNat]?=some a):atI xs k=some a:=by
 have:=QY (j:=k.toNat) h
 rwa [Int.toNat_of_nonneg h0] at this
@[simp] theorem wU{b:Bool}:Zy (.bl b)=.ok b:=rfl
theorem Mq{a:Str}(h:a.length≤sizeLine):Zy (.str a)=.ok ((a.length:Int) != 0):=if_pos h
theorem zW{b:FS}{ds:List D}:yC n b ds=uD (b (zQ n ds)):=rfl
end
theorem XF(l:List PyData):PyData.eqvAll l []=l.isEmpty:=by cases l <;> simp[PyData.eqvAll]
theorem ze1(ns:List Int):okD (.scr ns)=true:=by
 have c:∀l:List Int,PyData.canLayAll0 (l.map PyData.int)=true:=fun l=>by
  induction l with
  |nil=>rfl
  |cons a r ih=>simp[PyData.canLayAll0,PyData.canLay0,ih]
 have d:∀l:List Int,PyData.depthAll (l.map PyData.int)=0:=fun l=>by
  induction l with
  |nil=>rfl
  |cons a r ih=>simp[PyData.depthAll,PyData.depth,ih]
 simp[okD,y4,yB,PyData.canLay0,PyData.depth,c,d]
theorem UE(ns:List Int):eqD (.scr ns) (.lst [])=.ok (.bl ns.isEmpty):=by
 have o2:okD (.lst [])=true:=by decide
 have:wK (.scr ns) (.lst [])=ns.isEmpty:=by
  simp only[wK,yB,toPys,PyData.eqv,XF]
  cases ns <;> rfl
 simp only[eqD,ze1,o2,this,and_self,if_true]
end FD
set_option Elab.async false
set_option linter.all false
set_option maxRecDepth 100000
namespace Law
open PySem PySem.Spec PyProof.Rows L2 FD
instance tabs:FD.Tabs:=⟨[(136,79,28,("in_order" : Str) ++ ".<locals>." ++ "<lambda>")],fun c f=>false⟩
noncomputable def Ye:FS:=(zt (sIf (tB (eOp eqD (zc 0) (xt zh))) (yd (eOp ur (eC (.int 7)) (zc 1))) yc)
  (yd (eOp zM (eOp ixD (zc 0) (eOp Vc (zc 1) (yb yN (za (zc 0) zh)))) (eOp ur (eC (.int 6553)) (eOp XC (zc 1) (yb yN (za (zc 0) zh)))))))
noncomputable def wz(ds:List D):Rs D:=yC 2 Ye ds
noncomputable def Zs:FS:=(zt (zI 3 (eOp Vc (eOp zM (eOp ur (eOp Vc (zp wz (za (zc 0) (za (zc 1) zh))) (eC (.int 2147483563))) (eC (.int 69069))) (eOp ur (eC (.int 104723)) (eOp zM (zc 1) (eC (.int 1))))) (eC (.int 2147483563))))
  (zt (zI 3 (eOp Vc (eOp zM (eOp ur (zc 3) (zc 3)) (eOp XC (zc 3) (eC (.int 3)))) (eC (.int 2147483399))))
  (yd (eOp Vc (eOp XC (eOp Vc (eOp zM (eOp ur (zc 3) (zc 3)) (eOp XC (zc 3) (eC (.int 7)))) (eC (.int 2147483647))) (eC (.int 11))) (zc 2)))))
noncomputable def zr(ds:List D):Rs D:=yC 4 Zs ds
noncomputable def Yc:FS:=(zt (zI 2 (eC (.str "")))
  (zt (wk (vJ (za (eOp zM (eC (.int 1)) (zp zr (za (zc 0) (za (zc 1) (za (eC (.int 10)) zh))))) zh)) (gNm 3) (zI 2 (eOp zM (zc 2) (eOp ixD (eC (.str "abcabABCab1_-./xyz")) (zp zr (za (zc 0) (za (eOp zM (eOp zM (zc 1) (eC (.int 1))) (zc 3)) (za (eC (.int 18)) zh))))))))
  (yd (zc 2))))
noncomputable def xw(ds:List D):Rs D:=yC 4 Yc ds
noncomputable def uw:FS:=(zt (uz 3 (yD 1 [0,1] (vJ (za (zp zr (za (zc 0) (za (zc 1) (za (eOp zM (zc 2) (eC (.int 1))) zh)))) zh)) (gNm 0) (fun _=>.ok true) (zp xw (za (zc 1) (za (eOp zM (eOp zM (zc 2) (eC (.int 1))) (eOp ur (eC (.int 12)) (zc 0))) zh)))))
  (zt (sIf (jR (tB (eOp gtD (UH 3) (eC (.int 1)))) (tB (eOp eqD (zp zr (za (zc 0) (za (eOp zM (zc 1) (eC (.int 12))) (za (eC (.int 5)) zh)))) (eC (.int 0))))) (Q9 3 (eC (.int 0)) (G6 3 (wn (eC (.int 1))))) yc)
  (uM 3)))
noncomputable def xN(ds:List D):Rs D:=yC 4 uw ds
noncomputable def Yd:FS:=(yd (eOp inD (zc 0) (eC (.str "_-./"))))
noncomputable def xz(ds:List D):Rs D:=yC 1 Yd ds
noncomputable def Zq:FS:=(zt (zI 4 (eC (.str "")))
  (zt (zI 5 (eC (.int 0)))
  (zt (wk (vJ (za (zp zr (za (zc 0) (za (zc 1) (za (eOp zM (zc 3) (eC (.int 1))) zh)))) zh)) (gNm 6) (zt (zI 5 (yb v8 (za (eOp xr (yb yN (za (zc 2) zh)) (eC (.int 1))) (za (eOp zM (zc 5) (zp zr (za (zc 0) (za (eOp zM (eOp zM (zc 1) (eC (.int 1))) (eOp ur (eC (.int 3)) (zc 6))) (za (eC (.int 3)) zh))))) zh))))
  (zt (zI 7 (JB "str" loD (eOr (eSl (zc 2) (v7 (zc 5)) (v7 (eOp zM (zc 5) (eC (.int 1))))) (eC (.str "a")))))
  (zt (zI 5 (eOp zM (zc 5) (eC (.int 1))))
  (zt (sIf (tB (eOp eqD (zp zr (za (zc 0) (za (eOp zM (eOp zM (zc 1) (eC (.int 2))) (eOp ur (eC (.int 3)) (zc 6))) (za (eC (.int 5)) zh)))) (eC (.int 0)))) (zI 7 (eOp ixD (eC (.str "abAB1c")) (zp zr (za (zc 0) (za (eOp zM (eOp zM (zc 1) (eC (.int 3))) (eOp ur (eC (.int 3)) (zc 6))) (za (eC (.int 6)) zh)))))) yc)
  (sIf (ZZ (uI (zp xz (za (zc 7) zh)))) (zI 4 (eOp zM (zc 4) (zc 7))) yc))))))
  (yd (zc 4)))))
noncomputable def xM(ds:List D):Rs D:=yC 8 Zq ds
noncomputable def vZ:FS:=(zt (zI 2 (yb YV (za (fun τ=>((yD 2 [0] (xf (zc 1)) (gPr 0 1) (fun _=>.ok true) (xg (za (eOp xr (eC (.int 0)) (zc 0)) (za (yb yN (za (eOp ixD (zc 2) (zc 1)) zh)) (za (zc 1) zh))))) τ).bind fun ds=>.ok (.lst ds)) zh)))
  (yd (fun τ=>((yD 3 [] (xf (zc 2)) (gTr 0 1 2) (fun _=>.ok true) (xg (za (eOp xr (eC (.int 0)) (zc 0)) (za (zc 2) zh)))) τ).bind fun ds=>.ok (.lst ds))))
noncomputable def xm(ds:List D):Rs D:=yC 3 vZ ds
noncomputable def Zr:FS:=(zt (zI 2 (eC (.str "abcdefghijklmnopqrstuvwxyz")))
  (yd (eOr (eOp eqD (zc 0) (zc 1)) (XJ (eOp inD (zc 0) (zc 2)) (eOp eqD (zc 1) (eOp ixD (eC (.str "ABCDEFGHIJKLMNOPQRSTUVWXYZ")) (eMt "str" Jv (zc 2) (za (zc 0) zh))))))))
noncomputable def y9(ds:List D):Rs D:=yC 3 Zr ds
noncomputable def vG:FS:=(zt (zI 2 (xt (za (xt zh) zh)))
  (zt (wk (xf (zc 0)) (gNm 3) (zt (zI 4 (xt zh))
  (zt (wk (xf (zc 2)) (gNm 5) (zt (zI 6 (eIf (tB (eOp neD (zc 5) (xt zh))) (eOp zM (eOp ixD (zc 5) (wn (eC (.int 1)))) (eC (.int 1))) (eC (.int 0))))
  (zI 4 (eOp zM (zc 4) (fun τ=>((yD 1 [5,3,1] (Lb (za (zc 6) (za (yb yN (za (zc 1) zh)) zh))) (gNm 0) (uI (zp y9 (za (zc 2) (za (eOp ixD (zc 3) (zc 0)) zh)))) (eOp zM (zc 1) (xt (za (zc 0) zh)))) τ).bind fun ds=>.ok (.lst ds))))))
  (zI 2 (zc 4)))))
  (yd (zc 2))))
noncomputable def yJ(ds:List D):Rs D:=yC 7 vG ds
noncomputable def uy:FS:=(zt (zI 3 (eOp zM (eC (.int 10)) (yb intD (za (eOp eqD (zc 0) (eOp ixD (zc 1) (zc 2))) zh))))
  (zt (sIf (tB (eOp eqD (zc 2) (eC (.int 0)))) (yd (eOp zM (zc 3) (eC (.int 8)))) yc)
  (zt (sIf (tB (eOp inD (eOp ixD (zc 1) (eOp xr (zc 2) (eC (.int 1)))) (eC (.str "_-./")))) (yd (eOp zM (zc 3) (eC (.int 6)))) yc)
  (zt (zI 4 (eOp inD (eOp ixD (zc 1) (zc 2)) (eC (.str "ABCDEFGHIJKLMNOPQRSTUVWXYZ"))))
  (yd (eOp zM (zc 3) (eOp ur (eC (.int 5)) (yb intD (za (XJ (zc 4) (eOp inD (eOp ixD (zc 1) (eOp xr (zc 2) (eC (.int 1)))) (eC (.str "abcdefghijklmnopqrstuvwxyz0123456789")))) zh)))))))))
noncomputable def xb(ds:List D):Rs D:=yC 5 uy ds
noncomputable def v0:FS:=(zt (zI 3 (eC (.int 0)))
  (zt (wk (iEn (za (zc 2) zh)) (gPr 4 5) (zt (zI 3 (eOp zM (zc 3) (zp xb (za (eOp ixD (zc 0) (zc 4)) (za (zc 1) (za (zc 5) zh))))))
  (sIf (tB (eOp eqD (zc 4) (eC (.int 0)))) (zI 3 (eOp xr (zc 3) (yb v8 (za (eC (.int 3)) (za (zc 5) zh))))) (sIf (tB (eOp eqD (eOp zM (eOp ixD (zc 2) (eOp xr (zc 4) (eC (.int 1)))) (eC (.int 1))) (zc 5))) (zI 3 (eOp zM (zc 3) (eC (.int 7)))) (zI 3 (eOp xr (zc 3) (yb v8 (za (eC (.int 5)) (za (eOp xr (eOp xr (zc 5) (eOp ixD (zc 2) (eOp xr (zc 4) (eC (.int 1))))) (eC (.int 1))) zh)))))))))
  (yd (zc 3))))
noncomputable def yR(ds:List D):Rs D:=yC 6 v0 ds
noncomputable def u9:FS:=(zt (zI 2 (eC .non))
  (zt (wk (xf (zp yJ (za (zc 0) (za (zc 1) zh)))) (gNm 3) (zt (zI 4 (zp yR (za (zc 0) (za (zc 1) (za (zc 3) zh)))))
  (sIf (v4 (tB (eOp isD (zc 2) (eC .non))) (tB (eOp gtD (zc 4) (eOp ixD (zc 2) (eC (.int 0)))))) (zI 2 (xg (za (zc 4) (za (zc 3) zh)))) yc)))
  (yd (zc 2))))
noncomputable def xA(ds:List D):Rs D:=yC 5 u9 ds
noncomputable def ux:FS:=(zt (zI 2 fun τ=>((yD 2 [1] (iEn (za (zc 0) zh)) (gPr 0 1) (fun _=>.ok true) (xg (za (zp xA (za (zc 2) (za (zc 1) zh))) (za (zc 0) zh)))) τ).bind fun ds=>.ok (.lst ds))
  (yd (zp xm (za (zc 0) (za (fun τ=>((yD 2 [] (xf (zc 2)) (gPr 0 1) (tB (eOp ww (zc 0) (eC .non))) (xg (za (eOp ixD (zc 0) (eC (.int 0))) (za (zc 1) zh)))) τ).bind fun ds=>.ok (.lst ds)) zh)))))
noncomputable def xa(ds:List D):Rs D:=yC 3 ux ds
noncomputable def jL:FS:=(yd (XI [0] (zc 1) (xg (za (wn (eOp ixD (zc 0) (eC (.int 0)))) (za (yb yN (za (eOp ixD (zc 1) (eOp ixD (zc 0) (eC (.int 1)))) zh)) (za (eOp ixD (zc 0) (eC (.int 1))) zh))))))
noncomputable def yZ(ds:List D):Rs D:=yC 2 jL ds
noncomputable def uv:FS:=(yd (eSl (zp yZ (za (zc 0) (za (zc 1) zh))) Xd (v7 (yb Xi (za (zc 2) (za (eC (.int 0)) zh))))))
noncomputable def y8(ds:List D):Rs D:=yC 3 uv ds
noncomputable def vF:FS:=(zt (sIf (tB (eOp eqD (zc 1) (eC (.int 0)))) (yd (eC (.int 8))) yc)
  (zt (zI 2 (eOp ixD (zc 0) (eOp xr (zc 1) (eC (.int 1)))))
  (zt (sIf (tB (eOp inD (zc 2) (eC (.str "_-./")))) (yd (eC (.int 6))) yc)
  (zt (sIf (jR (tB (eOp inD (eOp ixD (zc 0) (zc 1)) (eC (.str "ABCDEFGHIJKLMNOPQRSTUVWXYZ")))) (v4 (tB (eOp inD (zc 2) (eC (.str "abcdefghijklmnopqrstuvwxyz")))) (tB (eOp inD (zc 2) (eC (.str "0123456789")))))) (yd (eC (.int 5))) yc)
  (yd (eC (.int 0)))))))
noncomputable def yE(ds:List D):Rs D:=yC 3 vF ds
noncomputable def Zp:FS:=(zt (zI 3 (eIf (tB (eOp eqD (eOp ixD (zc 1) (zc 2)) (zc 0))) (eC (.int 1)) (eC (.int 0))))
  (yd (eOp zM (eOp zM (eC (.int 10)) (zp yE (za (zc 1) (za (zc 2) zh)))) (zc 3))))
noncomputable def yA(ds:List D):Rs D:=yC 4 Zp ds
noncomputable def QX:FS:=(yd (eOr (eOp eqD (zc 0) (zc 1)) (XJ (eOp inD (zc 0) (eC (.str "abcdefghijklmnopqrstuvwxyz"))) (eOp eqD (JB "str" upD (zc 0)) (zc 1)))))
noncomputable def wF(ds:List D):Rs D:=yC 2 QX ds
noncomputable def vT:FS:=(yd (fun τ=>((yD 1 [0,1] (vJ (za (yb yN (za (zc 1) zh)) zh)) (gNm 0) (uI (zp wF (za (zc 1) (za (eOp ixD (zc 2) (zc 0)) zh)))) (xg (za (zp yA (za (zc 1) (za (zc 2) (za (zc 0) zh)))) (za (xt (za (zc 0) zh)) zh)))) τ).bind fun ds=>.ok (.lst ds)))
noncomputable def ym(ds:List D):Rs D:=yC 2 vT ds
noncomputable def uE:FS:=(zt (zI 1 (eC .non))
  (zt (wk (xf (zc 0)) (gNm 2) (sIf (v4 (tB (eOp isD (zc 1) (eC .non))) (tB (eOp gtD (eOp ixD (zc 2) (eC (.int 0))) (eOp ixD (zc 1) (eC (.int 0)))))) (zI 1 (zc 2)) yc))
  (yd (zc 1))))
noncomputable def z6(ds:List D):Rs D:=yC 3 uE ds
noncomputable def jy:FS:=(zt (zI 2 (eOp xr (eOp xr (zc 1) (zc 0)) (eC (.int 1))))
  (zt (sIf (tB (eOp eqD (zc 2) (eC (.int 0)))) (yd (eC (.int 7))) yc)
  (yd (wn (yb v8 (za (zc 2) (za (eC (.int 5)) zh)))))))
noncomputable def xl(ds:List D):Rs D:=yC 3 jy ds
noncomputable def u7:FS:=(yd (fun τ=>((yD 1 [0] (xf (zc 1)) (gNm 0) (tB (eOp gtD (eOp ixD (eOp ixD (zc 0) (eC (.int 1))) (eC (.int 0))) (zc 1))) (xg (za (eOp zM (eOp ixD (zc 0) (eC (.int 0))) (zp xl (za (zc 1) (za (eOp ixD (eOp ixD (zc 0) (eC (.int 1))) (eC (.int 0))) zh)))) (za (eOp ixD (zc 0) (eC (.int 1))) zh)))) τ).bind fun ds=>.ok (.lst ds)))
noncomputable def yG(ds:List D):Rs D:=yC 2 u7 ds
noncomputable def vC:FS:=(zt (uz 3 (fun τ=>(zh τ).bind fun ds=>if ds.length≤sizeLine then .ok ds else .no))
  (zt (wk (vJ (za (yb yN (za (zc 1) zh)) zh)) (gNm 4) (sIf (uI (zp wF (za (zc 0) (za (eOp ixD (zc 1) (zc 4)) zh)))) (zt (zI 5 (zp z6 (za (zp yG (za (zc 4) (za (zc 2) zh))) zh)))
  (sIf (tB (eOp ww (zc 5) (eC .non))) (VM 3 (xg (za (eOp zM (zp yA (za (zc 0) (za (zc 1) (za (zc 4) zh)))) (eOp ixD (zc 5) (eC (.int 0)))) (za (eOp zM (xt (za (zc 4) zh)) (eOp ixD (zc 5) (eC (.int 1)))) zh)))) yc)) yc))
  (uM 3)))
noncomputable def yY(ds:List D):Rs D:=yC 6 vC ds
noncomputable def jz:FS:=(yd (wn (yb v8 (za (zc 0) (za (eC (.int 3)) zh)))))
noncomputable def yQ(ds:List D):Rs D:=yC 1 jz ds
noncomputable def JI:FS:=(zt (sIf (tB (eOp eqD (yb yN (za (zc 0) zh)) (eC (.int 0)))) (yd (xg (za (eC (.int 0)) (za (xt zh) zh)))) yc)
  (zt (zI 2 (zp ym (za (eOp ixD (zc 0) (wn (eC (.int 1)))) (za (zc 1) zh))))
  (zt (wk (GU (za (eOp xr (yb yN (za (zc 0) zh)) (eC (.int 2))) (za (wn (eC (.int 1))) (za (wn (eC (.int 1))) zh)))) (gNm 3) (zI 2 (zp yY (za (eOp ixD (zc 0) (zc 3)) (za (zc 1) (za (zc 2) zh))))))
  (yd (zp z6 (za (fun τ=>((yD 1 [] (xf (zc 2)) (gNm 0) (fun _=>.ok true) (xg (za (eOp zM (eOp ixD (zc 0) (eC (.int 0))) (zp yQ (za (eOp ixD (eOp ixD (zc 0) (eC (.int 1))) (eC (.int 0))) zh))) (za (eOp ixD (zc 0) (eC (.int 1))) zh)))) τ).bind fun ds=>.ok (.lst ds)) zh))))))
noncomputable def vW(ds:List D):Rs D:=yC 4 JI ds
noncomputable def vD:FS:=(zt (uz 3 (fun τ=>(zh τ).bind fun ds=>if ds.length≤sizeLine then .ok ds else .no))
  (zt (wk (xf (zc 2)) (gNm 4) (zt (zI 5 (zp vW (za (zc 1) (za (eOp ixD (zc 0) (zc 4)) zh))))
  (sIf (tB (eOp ww (zc 5) (eC .non))) (VM 3 (xg (za (eOp ixD (zc 5) (eC (.int 0))) (za (zc 4) zh)))) yc)))
  (uM 3)))
noncomputable def yH(ds:List D):Rs D:=yC 6 vD ds
noncomputable def jM:FS:=(yd (zp yH (za (zc 0) (za (zc 1) (za (fun τ=>((V9 (vJ (za (yb yN (za (zc 0) zh)) zh))) τ).bind fun ds=>.ok (.lst ds)) zh)))))
noncomputable def yq(ds:List D):Rs D:=yC 2 jM ds
noncomputable def Vs:FS:=(yd (zp y8 (za (zc 0) (za (zp yq (za (zc 0) (za (zc 1) zh))) (za (zc 2) zh)))))
noncomputable def wG(ds:List D):Rs D:=yC 3 Vs ds
noncomputable def vE:FS:=(sIf (v4 (tB (eOp ltI (zc 1) (eC (.int 0)))) (tB (eOp geD (zc 1) (yb yN (za (zc 0) zh))))) (U6 "NoNumber") yc)
noncomputable def y0(ds:List D):Rs D:=yC 2 vE ds
noncomputable def ZU:FS:=(zt (uk y0 (za (zc 0) (za (zc 2) zh)))
  (ZB (zt (wk (iEn (za (zp yZ (za (zc 0) (za (zp yq (za (zc 0) (za (zc 1) zh))) zh))) zh)) (gPr 3 4) (sIf (tB (eOp eqD (eOp ixD (zc 4) (eC (.int 1))) (zc 2))) (yd (zc 3)) yc))
  (yd (eC .non)))))
noncomputable def wb(ds:List D):Rs D:=yC 5 ZU ds
noncomputable def u8:FS:=(uL (jV wb (za (zc 0) (za (zc 1) (za (zc 2) zh)))) (fun c=>c == "NoNumber") 3 (zt (zI 4 (xt (za (Yr [("NoNumber", true)] (zc 3)) (za (Yr [("NoNumber", false)] (zc 3)) (za (Yr [("NoNumber", false)] (zc 3)) zh)))))
  (yd (XJ (Yr [("NoNumber", true)] (zc 3)) (eOp eqD (zc 4) (xt (za (eC (.bl true)) (za (eC (.bl false)) (za (eC (.bl false)) zh)))))))))
noncomputable def yI(ds:List D):Rs D:=yC 5 u8 ds
noncomputable def JH:FS:=(Wj 2 3 (xf (zp yq (za (zc 0) (za (zc 1) zh)))))
noncomputable def jH(ds:List D):Rs D:=yC 4 JH ds
noncomputable def LS:FS:=(zt (zI 1 (zp xN (za (zc 0) (za (eC (.int 0)) (za (eC (.int 5)) zh)))))
  (zt (zI 2 (zp xM (za (zc 0) (za (eC (.int 80)) (za (eOp ixD (eOp zM (zc 1) (xt (za (eC (.str "abc")) zh))) (zp zr (za (zc 0) (za (eC (.int 79)) (za (eOp zM (yb yN (za (zc 1) zh)) (eC (.int 1))) zh))))) (za (eC (.int 3)) zh))))))
  (zt (zI 3 (zp xa (za (zc 1) (za (zc 2) zh))))
  (zt (zI 4 (zp zr (za (zc 0) (za (eC (.int 78)) (za (eC (.int 7)) zh)))))
  (zt (zI 5 (zp wG (za (zc 1) (za (zc 2) (za (zc 4) zh)))))
  (zt (sIf (v4 (ZZ (uI (yb GP (za (zc 5) (za (eC (.raw (.ty "list"))) zh))))) (v4 (tB (eOp neD (zc 5) (eSl (zc 3) Xd (v7 (zc 4))))) (tB (eOp neD (zp wG (za (zc 1) (za (zc 2) (za (eC (.int 99)) zh)))) (zc 3))))) (yd (eC (.bl false))) yc)
  (zt (zI 6 fun τ=>((yD 1 [] (xf (zc 3)) (gNm 0) (fun _=>.ok true) (eOp ixD (zc 0) (eC (.int 1)))) τ).bind fun ds=>.ok (.lst ds))
  (zt (wk (vJ (za (yb yN (za (zc 1) zh)) zh)) (gNm 7) (zt (zI 8 (zp yI (za (zc 1) (za (zc 2) (za (zc 7) zh)))))
  (zt (sIf (v4 (uI (yb GP (za (zc 8) (za (eC (.raw (.ty "bool"))) zh)))) (jR (tB (eOp neD (zc 8) (eMt "list" Jq (eOp zM (zc 6) (xt (za (zc 7) zh))) (za (zc 7) zh)))) (tB (eOp ww (zc 8) (eC .non))))) (yd (eC (.bl false))) yc)
  (sIf (tB (eOp neD (eOp isD (zc 8) (eC .non)) (eOp Xf (zc 7) (zc 6)))) (yd (eC (.bl false))) yc))))
  (zt (zI 9 (zj4 (fun τ=>(((za (fun τ=>((yD 1 [] (xf (zc 3)) (gNm 0) (fun _=>.ok true) (eOp ixD (zc 0) (eC (.int 0)))) τ).bind fun ds=>.ok (.lst ds)) zh) τ).bind VI).bind fun ds=>.ok (.lst ds))))
  (zt (zI 10 fun τ=>((yD 1 [3] (xf (zc 9)) (gNm 0) (fun _=>.ok true) (xg (za (zc 0) (za (yb Q4 (za (fun τ=>((yD 1 [0] (xf (zc 1)) (gNm 0) (tB (eOp eqD (eOp ixD (zc 0) (eC (.int 0))) (zc 1))) (eOp ixD (zc 0) (eC (.int 1)))) τ).bind fun ds=>.ok (.lst ds)) zh)) zh)))) τ).bind fun ds=>.ok (.lst ds))
  (zt (sIf (tB (eOp neD (zp jH (za (zc 1) (za (zc 2) zh))) (zc 10))) (yd (eC (.bl false))) yc)
  (yd (eOp eqD (fun τ=>((yD 1 [1,2] (xf (xg (za (wn (eC (.int 1))) (za (yb yN (za (zc 1) zh)) (za (eOp zM (yb yN (za (zc 1) zh)) (eC (.int 3))) zh))))) (gNm 0) (tB (eOp YC (zp yI (za (zc 1) (za (zc 2) (za (zc 0) zh)))) (eC (.bl true)))) (zc 0)) τ).bind fun ds=>.ok (.lst ds)) (xt zh))))))))))))))
noncomputable def Qq(ds:List D):Rs D:=yC 11 LS ds
noncomputable def Yb(ns:List Int)(k:Int):Int:=if ns=[] then 7*k else ns.getD (k%ns.length).toNat 0+6553*(k / ns.length)
theorem sizeLine_v:sizeLine=16777216:=sizeLine_eq
theorem zj9(ns:List Int)(k:Int)(h63:ns.length≤63)(h0:0≤k):wz [.scr ns,.int k]=.ok (.int (Yb ns k)):=by
 have st:zQ 2 [D.scr ns,.int k]=[some (.val (.scr ns)),some (.val (.int k))]:=rfl
 unfold wz Ye
 rw[zW,st]
 simp only[zB,yk,wy,yg,zH,Zn,zZ,getElem?_cons_zero,zA,Rs.bind_ok,length_nil,zero_le,if_true,UE,yh,Fl.of_ok]
 cases ns with
 |nil=>
  simp only[List.isEmpty_nil,if_true,zT,yg,yv,zH,getElem?_cons_zero,getElem?_cons_succ,zA,Rs.bind_ok,uq (i:=7) (j:=k) (.inl ⟨by decide,by decide⟩),Fl.of_ok,uH,zJ,Yb]
 |cons a r=>
  have hl:(0:Int)<((a::r).length:Int):=by simp only[length_cons];lia
  have hm0:=emod_nonneg k (show((a::r).length:Int)≠0 by lia)
  have hm1:=Int.emod_lt_of_pos k hl
  have hat:atI (a::r) (k%((a::r).length:Int))=some ((a::r).getD (k%((a::r).length:Int)).toNat 0):=by
   refine ZV hm0 ?_
   have:(k%((a::r).length:Int)).toNat<(a::r).length:=by lia
   rw[getD_eq_getElem?_getD,getElem?_eq_getElem this];rfl
  have hdv:XC (.int k) (.int ((a::r).length:Int))=.ok (.int (k / ((a::r).length:Int))):=YE ⟨hl,by lia⟩
  have hmd:Vc (.int k) (.int ((a::r).length:Int))=.ok (.int (k%((a::r).length:Int))):=Xg hl
  have hml:=uq (i:=6553) (j:=k / ((a::r).length:Int)) (.inl ⟨by decide,by decide⟩)
  simp only[List.isEmpty_cons,Bool.false_eq_true,if_false,z7,zV,zT,yg,yv,zH,vS,zx,zZ,getElem?_cons_zero,getElem?_cons_succ,zA,Rs.bind_ok,TU,hmd,hdv,hml,zh6 hat,yK,Fl.of_ok,zJ]
  simp[Yb]
noncomputable def d1(ns:List Int)(k:Int):Int:=(Yb ns k%2147483563*69069+104723*(k+1))%2147483563
noncomputable def d2(ns:List Int)(k:Int):Int:=(d1 ns k*d1 ns k+d1 ns k / 3)%2147483399
noncomputable def wo(ns:List Int)(k m:Int):Int:=(d2 ns k*d2 ns k+d2 ns k / 7)%2147483647 / 11%m
theorem wX(ns:List Int)(k m:Int)(h63:ns.length≤63)(h0:0≤k)(hk:k<1000000)(hm:0<m):zr [.scr ns,.int k,.int m]=.ok (.int (wo ns k m)):=by
 have st:zQ 4 [D.scr ns,.int k,.int m]=[some (.val (.scr ns)),some (.val (.int k)),some (.val (.int m)),none]:=rfl
 have b1:0≤d1 ns k∧d1 ns k<2147483563:=⟨emod_nonneg _ (by decide),Int.emod_lt_of_pos _ (by decide)⟩
 have b2:0≤d2 ns k∧d2 ns k<2147483399:=⟨emod_nonneg _ (by decide),Int.emod_lt_of_pos _ (by decide)⟩
 have c0:=Int.emod_lt_of_pos (Yb ns k) (show(0:Int)<2147483563 by decide)
 have c1:=emod_nonneg (Yb ns k) (show(2147483563:Int)≠0 by decide)
 have q1:=uq (i:=Yb ns k%2147483563) (j:=69069) (.inr ⟨by decide,by decide⟩)
 have q2:=uq (i:=104723) (j:=k+1) (.inl ⟨by decide,by decide⟩)
 have q3:=uq (i:=d1 ns k) (j:=d1 ns k) (.inl ⟨by lia,by lia⟩)
 have q4:=uq (i:=d2 ns k) (j:=d2 ns k) (.inl ⟨by lia,by lia⟩)
 have e1:(Yb ns k%2147483563*69069+104723*(k+1))%2147483563=d1 ns k:=rfl
 have e2:(d1 ns k*d1 ns k+d1 ns k / 3)%2147483399=d2 ns k:=rfl
 have m1:=fun i=>Xg (i:=i) (j:=2147483563) (by decide)
 have m2:=fun i=>Xg (i:=i) (j:=2147483399) (by decide)
 have m3:=fun i=>Xg (i:=i) (j:=2147483647) (by decide)
 have m4:=fun i=>Xg (i:=i) (j:=m) hm
 have f3:=fun i=>YE (i:=i) (j:=3) ⟨by decide,by decide⟩
 have f7:=fun i=>YE (i:=i) (j:=7) ⟨by decide,by decide⟩
 have f11:=fun i=>YE (i:=i) (j:=11) ⟨by decide,by decide⟩
 unfold zr Zs
 rw[zW,st]
 simp only[zB,zF,zT,yg,zH,yv,y3,zx,zZ,getElem?_cons_zero,getElem?_cons_succ,zA,Rs.bind_ok,zj9 ns k h63 h0,wt,m1,q1,yK,q2,e1,Fl.of_ok,zV,set_cons_succ,set_cons_zero,q3,f3,m2,e2,q4,f7,m3,f11,m4,zJ]
 rfl
theorem wY(ns:List Int)(k:Int){m:Int}(hm:0<m):0≤wo ns k m∧wo ns k m<m:=⟨emod_nonneg _ (by lia),Int.emod_lt_of_pos _ hm⟩
end Law
set_option Elab.async false
set_option linter.all false
namespace FD
open PySem PySem.Spec PyProof.Rows L2
theorem Wo{set:FG}{body:FS}(f:Nat→D)(S:Nat→DS):∀(m j:Nat),(∀k,j≤k→k<j+m→∃τ1,set (f k) (S k)=.ok τ1∧body τ1=.nx (S (k+1)))→ye set body ((List.range' j m).map f) (S j)=.nx (S (j+m)):=by
 intro l_
 induction l_ with
 |zero=>
  rintro j _
  exact rfl
 |succ m ih_=>
  rintro j h
  obtain⟨τ1,h1,h2⟩:=h j (le_refl _) (by lia)
  rw[List.range'_succ,map_cons,ye,h1,Fl.of_ok]
  simp only[h2]
  rw[ih_ (j+1) fun k hk hk2=>h k (by lia) (by lia)]
  congr 2;lia
theorem Jo{set:FG}{body:FS}(f:Nat→D)(S:Nat→DS)(n:Nat)(h:∀k,k<n→∃τ1,set (f k) (S k)=.ok τ1∧body τ1=.nx (S (k+1))):ye set body ((List.range n).map f) (S 0)=.nx (S n):=by
 have:=Wo f S n 0 fun k _ hk=>h k (by lia)
 rw[zero_add] at this
 rwa [List.range_eq_range']
theorem U8{fs:FA}{τ:DS}{j:Int}(h:fs τ=.ok [.int j])(h1 : -(2 ^ 62)≤j)(h2:j<2 ^ 62):vJ fs τ=.ok (uN 0 j.toNat):=by
 unfold vJ
 rw[h]
 simp only[Rs.bind_ok,Jt]
 rw[if_pos ⟨h1,h2⟩]
theorem JW(a:List Nat)(c:Nat):(⟨a.toArray⟩:Str)++(⟨#[c]⟩:Str)=⟨(a++[c]).toArray⟩:=by
 show Str.mk _=_
 simp
theorem vX{n:Nat}{d:D}{τ:DS}:gNm n d τ=.ok (τ.set n (some (.val d))):=rfl
end FD
namespace Law
open PySem PySem.Spec PyProof.Rows L2 FD
noncomputable def A18:List Nat:=[97,98,99,97,98,65,66,67,97,98,49,95,45,46,47,120,121,122]
noncomputable def Wn(ns:List Int)(a:Int):Nat:=(1+wo ns a 10).toNat
noncomputable def TC(ns:List Int)(a:Int)(k:Nat):Nat:=A18.getD (wo ns (a+1+k) 18).toNat 0
noncomputable def vP(ns:List Int)(a:Int)(n:Nat):List Nat:=(List.range n).map (TC ns a)
theorem a18:("abcabABCab1_-./xyz" : Str).cps.toList=A18:=by decide +kernel
theorem zf3(ns:List Int)(a:Int)(h63:ns.length≤63)(h0:0≤a)(ha:a<900000):xw [.scr ns,.int a]=.ok (.str ⟨(vP ns a (Wn ns a)).toArray⟩):=by
 have st:zQ 4 [D.scr ns,.int a]=[some (.val (.scr ns)),some (.val (.int a)),none,none]:=rfl
 have dl:=wY ns a (m:=10) (by decide)
 unfold xw Yc
 rw[zW,st,zB,zF,yv,Fl.of_ok,zV,zB,x9]
 have r1:=U8 (fs:=za (eOp zM (eC (.int 1)) (zp zr (za (zc 0) (za (zc 1) (za (eC (.int 10)) zh))))) zh) (τ:=[some (.val (.scr ns)),some (.val (.int a)),some (.val (.str "")),none]) (j:=1+wo ns a 10)
  (by simp only[zx,zZ,yg,yv,y3,zH,getElem?_cons_zero,getElem?_cons_succ,zA,Rs.bind_ok,wX ns a 10 h63 h0 (by lia) (by decide),wt,yK]) (by lia) (by lia)
 simp only[set_cons_succ,set_cons_zero]
 rw[r1,Fl.of_ok]
 let S:Nat→DS:=fun k=>[some (.val (.scr ns)),some (.val (.int a)),some (.val (.str ⟨(vP ns a k).toArray⟩)),if k=0 then none else some (.val (.int ((k:Int)-1)))]
 have s0:S 0=[some (.val (.scr ns)),some (.val (.int a)),some (.val (.str "")),none]:=by
  simp only[S,vP,List.range_zero,map_nil,if_true]
  rfl
 rw[← s0]
 have lp:=Jo (set:=gNm 3) (body:=(zI 2 (eOp zM (zc 2) (eOp ixD (eC (.str "abcabABCab1_-./xyz")) (zp zr (za (zc 0) (za (eOp zM (eOp zM (zc 1) (eC (.int 1))) (zc 3)) (za (eC (.int 18)) zh)))))))) (fun (k:Nat)=>D.int (0+k)) S (1+wo ns a 10).toNat fun k hk=>by
  refine⟨_,vX,?_⟩
  have hk':(k:Int)<20:=by lia
  have dk:=wY ns (a+1+(0+(k:Int))) (m:=18) (by decide)
  have hd:=wX ns (a+1+(0+(k:Int))) 18 h63 (by lia) (by lia) (by decide)
  have hix:=Ze (a := "abcabABCab1_-./xyz") (k:=wo ns (a+1+(0+(k:Int))) 18) (c:=A18.getD (wo ns (a+1+(0+(k:Int))) 18).toNat 0) (ZV dk.1 (by
   rw[a18]
   have:(wo ns (a+1+(0+(k:Int))) 18).toNat<A18.length:=by
    have:A18.length=18:=rfl
    lia
   rw[getD_eq_getElem?_getD,getElem?_eq_getElem this];rfl)) (by decide +kernel)
  have hadd:=LZ (a:=⟨(vP ns a k).toArray⟩) (b:=⟨#[A18.getD (wo ns (a+1+(0+(k:Int))) 18).toNat 0]⟩) (by
   show(vP ns a k).toArray.size+1≤sizeLine
   rw[sizeLine_v,size_toArray]
   simp only[vP,length_map,length_range];lia)
  simp only[S,set_cons_succ,set_cons_zero,zF,yg,yv,y3,zx,zZ,zH,getElem?_cons_zero,getElem?_cons_succ,zA,Rs.bind_ok,yK,hd,wt,hix,zy,hadd,Fl.of_ok,JW]
  have e1:vP ns a k++[A18.getD (wo ns (a+1+(0+(k:Int))) 18).toNat 0]=vP ns a (k+1):=by
   simp only[vP,List.range_succ,map_append,map_cons,map_nil,TC,Int.zero_add]
  rw[e1]
  simp
 unfold uN
 rw[lp,zV]
 simp only[S,zT,zH,getElem?_cons_zero,getElem?_cons_succ,zA,Fl.of_ok,zJ]
 rfl
end Law
set_option Elab.async false
set_option linter.all false
namespace FD
open PySem PySem.Spec PyProof.Rows L2
theorem Uc{set:FG}{body:FS}(f:Nat→D)(I:Nat→DS→Prop):∀(m j:Nat) (τ:DS),I j τ→(∀k τ,j≤k→k<j+m→I k τ→∃τ1 τ2,set (f k) τ=.ok τ1∧body τ1=.nx τ2∧I (k+1) τ2)→∃τ',ye set body ((List.range' j m).map f) τ=.nx τ'∧I (j+m) τ':=by
 intro l_
 induction l_ with
 |zero=>
  rintro j τ h _
  exact⟨τ,rfl,h⟩
 |succ m ih_=>
  rintro j τ h hs
  obtain⟨τ1,τ2,h1,h2,h3⟩:=hs j τ (le_refl _) (by lia) h
  obtain⟨τ',h4,h5⟩:=ih_ (j+1) τ2 h3 fun k τ hk hk2=>hs k τ (by lia) (by lia)
  refine⟨τ',?_,by rw[show j+(m+1)=j+1+m by lia];exact h5⟩
  rw[List.range'_succ,map_cons,ye,h1,Fl.of_ok]
  simp only[h2,h4]
theorem ZK{set:FG}{body:FS}(f:Nat→D)(I:Nat→DS→Prop)(n:Nat)(τ:DS)(h0:I 0 τ)(h:∀k τ,k<n→I k τ→∃τ1 τ2,set (f k) τ=.ok τ1∧body τ1=.nx τ2∧I (k+1) τ2):∃τ',ye set body ((List.range n).map f) τ=.nx τ'∧I n τ':=by
 obtain⟨τ',h1,h2⟩:=Uc f I n 0 τ h0 fun k τ _ hk hi=>h k τ (by lia) hi
 rw[zero_add] at h2
 exact⟨τ',by rw[List.range_eq_range'];exact h1,h2⟩
end FD
namespace Law
open PySem PySem.Spec PyProof.Rows L2 FD
noncomputable def QS:List Nat:=[97,98,99,120,121,122,65,66,49]
noncomputable def MK:List Nat:=[95,45,46,47]
theorem Jk:("_-./" : Str).cps.toList=MK:=by decide +kernel
theorem zf4(c:Nat):xz [zy c]=.ok (.bl (decide (c∈MK))):=by
 have st:zQ 1 [zy c]=[some (.val (zy c))]:=rfl
 unfold xz Yd
 rw[zW,st]
 simp only[zT,yg,zH,yv,getElem?_cons_zero,zA,Rs.bind_ok,zy,Zi,x8,Jk,Fl.of_ok,zJ]
theorem ME(x:List Nat){i j:Int}(h0:0≤i)(h1:i≤j)(h2:j≤x.length):Txt.slice (⟨x.toArray⟩:Str) (some i) (some j)=⟨((x.drop i.toNat).take (j-i).toNat).toArray⟩:=by
 have:=slice_closesL (x:=⟨x.toArray⟩) (i:=i) (j:=j) h0 h1 (by show j≤((x.toArray.size:Nat):Int);simpa using h2)
 exact eq_of_beq this
theorem Q6(x:List Nat)(p:Nat)(hp:p<x.length):Txt.slice (⟨x.toArray⟩:Str) (some (p:Int)) (some ((p:Int)+1))=⟨#[x[p]]⟩:=by
 rw[ME x (by lia) (by lia) (by lia)]
 have e1:((p:Int)+1-(p:Int)).toNat=1:=by lia
 have e2:((p:Int)).toNat=p:=by lia
 rw[e1,e2,List.drop_eq_getElem_cons hp]
 rfl
theorem GD(c:Nat)(h:c<128):Txt.lower (⟨#[c]⟩:Str)=⟨#[lo1 c]⟩:=by
 rw[lower_ascii (x:=⟨#[c]⟩) (by intro d hd;have e:d=c:=(by simpa using hd);lia)]
 simp
noncomputable def NS:List Nat:=[97,98,99,65,66,67,49,95,45,46,47,120,121,122]
theorem GA(ns:List Int)(a:Int)(k:Nat)(h:0≤a+1+k):TC ns a k∈NS:=by
 have d:=wY ns (a+1+k) (m:=18) (by decide)
 have hall:∀n,n<18→A18.getD n 0∈NS:=by decide
 exact hall _ (by lia)
noncomputable def S6:List Nat:=[97,98,65,66,49,99]
theorem s6_l:("abAB1c" : Str).cps.toList=S6:=by decide +kernel
theorem Qv:∀c∈NS,c<128∧(lo1 c∈QS∨lo1 c∈MK):=by decide
theorem zb2:∀n,n<6→S6.getD n 0∈QS:=by decide
set_option maxHeartbeats 1000000
noncomputable def VQ:FS:=(zt (zI 5 (yb v8 (za (eOp xr (yb yN (za (zc 2) zh)) (eC (.int 1))) (za (eOp zM (zc 5) (zp zr (za (zc 0) (za (eOp zM (eOp zM (zc 1) (eC (.int 1))) (eOp ur (eC (.int 3)) (zc 6))) (za (eC (.int 3)) zh))))) zh))))
  (zt (zI 7 (JB "str" loD (eOr (eSl (zc 2) (v7 (zc 5)) (v7 (eOp zM (zc 5) (eC (.int 1))))) (eC (.str "a")))))
  (zt (zI 5 (eOp zM (zc 5) (eC (.int 1))))
  (zt (sIf (FD.tB (eOp eqD (zp zr (za (zc 0) (za (eOp zM (eOp zM (zc 1) (eC (.int 2))) (eOp ur (eC (.int 3)) (zc 6))) (za (eC (.int 5)) zh)))) (eC (.int 0)))) (zI 7 (eOp ixD (eC (.str "abAB1c")) (zp zr (za (zc 0) (za (eOp zM (eOp zM (zc 1) (eC (.int 3))) (eOp ur (eC (.int 3)) (zc 6))) (za (eC (.int 6)) zh)))))) yc)
  (sIf (ZZ (uI (zp xz (za (zc 7) zh)))) (zI 4 (eOp zM (zc 4) (zc 7))) yc)))))
noncomputable def qSt(ns:List Int)(a:Int)(x:List Nat)(most:Int)(q:List Nat)(p:Int)(s1 s2:Option Sl):DS:=
 [some (.val (.scr ns)),some (.val (.int a)),some (.val (.str ⟨x.toArray⟩)),some (.val (.int most)),some (.val (.str ⟨q.toArray⟩)),some (.val (.int p)),s1,s2]
theorem U9(ns:List Int)(a:Int)(x:List Nat)(most:Int)(q:List Nat)(p:Int)(k:Nat)(s2:Option Sl)(h63:ns.length≤63)(h0:0≤a)(ha:a<900000)(hk:k<100)(hx0:0<x.length)(hx1:x.length≤100)(hx:∀c∈x,c∈NS)(hq:q.length≤100)(hqs:∀c∈q,c∈QS)(hp:0≤p) :
  ∃q' p' s',VQ (qSt ns a x most q p (some (.val (.int (0+k)))) s2)=.nx (qSt ns a x most q' p' (some (.val (.int (0+k)))) s')∧q'.length≤q.length+1∧(∀c∈q',c∈QS)∧0≤p':=by
 have hl:((⟨x.toArray⟩:Str).length:Int)=x.length:=by show((x.toArray.size:Nat):Int)=_;simp
 have hsz:(⟨x.toArray⟩:Str).length≤sizeLine:=by rw[sizeLine_v];show x.toArray.size≤_;simp;lia
 have m3:=uq (i:=3) (j:=0+(k:Int)) (.inl ⟨by decide,by decide⟩)
 have g1:=wX ns (a+1+3*(0+(k:Int))) 3 h63 (by lia) (by lia) (by decide)
 have g2:=wX ns (a+2+3*(0+(k:Int))) 5 h63 (by lia) (by lia) (by decide)
 have g3:=wX ns (a+3+3*(0+(k:Int))) 6 h63 (by lia) (by lia) (by decide)
 have b1:=wY ns (a+1+3*(0+(k:Int))) (m:=3) (by decide)
 have b3:=wY ns (a+3+3*(0+(k:Int))) (m:=6) (by decide)
 generalize wo ns (a+1+3*(0+(k:Int))) 3=e1 at *
 generalize wo ns (a+2+3*(0+(k:Int))) 5=e2 at *
 generalize wo ns (a+3+3*(0+(k:Int))) 6=e3 at *
 obtain⟨n,hn,hmin⟩:∃n:Nat,n<x.length∧(if p+e1<(x.length:Int)-1 then p+e1 else (x.length:Int)-1)=(n:Int):=by
  by_cases h:p+e1<(x.length:Int)-1
  ·exact⟨(p+e1).toNat,by lia,by rw[if_pos h];lia⟩
  ·exact⟨x.length-1,by lia,by rw[if_neg h];lia⟩
 have hmn:v8 [.int ((x.length:Int)-1),.int (p+e1)]=.ok (.int n):=by
  simp only[v8,X6];rw[hmin]
 have hsl:slD (.str ⟨x.toArray⟩) (some (n:Int)) (some ((n:Int)+1))=.ok (.str ⟨#[x[n]]⟩):=by
  simp only[slD]
  rw[if_pos hsz,Q6 x n hn]
 have hxn:=hx x[n] (getElem_mem hn)
 have hlo:loD (.str ⟨#[x[n]]⟩) []=.ok (.str ⟨#[lo1 x[n]]⟩):=by
  simp only[loD]
  rw[if_pos (by show 1≤5000000;decide),GD _ (Qv _ hxn).1]
 have htr:Zy (.str ⟨#[x[n]]⟩)=.ok true:=by
  rw[Mq (by rw[sizeLine_v];show 1≤_;decide)];rfl
 have hix:ixD (.str "abAB1c") (.int e3)=.ok (zy (S6.getD e3.toNat 0)):=Ze (ZV b3.1 (by
   rw[s6_l]
   have:e3.toNat<S6.length:=by show e3.toNat<6;lia
   rw[getD_eq_getElem?_getD,getElem?_eq_getElem this];rfl)) (by decide +kernel)
 have key:∀c:Nat,(c∈QS∨c∈MK)→∃q' s',(sIf (ZZ (uI (zp xz (za (zc 7) zh)))) (zI 4 (eOp zM (zc 4) (zc 7))) yc) (qSt ns a x most q ((n:Int)+1) (some (.val (.int (0+k)))) (some (.val (zy c))))=.nx (qSt ns a x most q' ((n:Int)+1) (some (.val (.int (0+k)))) s')∧q'.length≤q.length+1∧∀c∈q',c∈QS:=fun c hc=>by
  have hadd:=LZ (a:=⟨q.toArray⟩) (b:=⟨#[c]⟩) (by
   show q.toArray.size+1≤sizeLine
   rw[sizeLine_v,size_toArray];lia)
  simp only[qSt,yk,JV,ud,y3,zx,zZ,zH,getElem?_cons_zero,getElem?_cons_succ,zA,Rs.bind_ok,zf4,wt,wU,Fl.of_ok]
  by_cases hm:c∈MK
  ·exact⟨q,some (.val (zy c)),by simp only[hm,decide_true,Bool.not_true,Bool.false_eq_true,if_false,z7],by lia,hqs⟩
  ·refine⟨q++[c],some (.val (zy c)),by simp only[hm,decide_false,Bool.not_false,if_true,zF,yg,zH,getElem?_cons_zero,getElem?_cons_succ,zA,Rs.bind_ok,zy,hadd,Fl.of_ok,set_cons_succ,set_cons_zero,JW],by simp,fun d hd=>?_⟩
   rcases mem_append.mp hd with h|h
   ·exact hqs d h
   ·have:d=c:=by simpa using h
    subst this
    exact hc.resolve_right hm
 unfold VQ
 simp only[qSt,zB,zF,vS,zx,zZ,yg,zH,yv,y3,getElem?_cons_zero,getElem?_cons_succ,zA,Rs.bind_ok,Ug hsz,hl,xQ,yK,m3,g1,wt,hmn,Fl.of_ok,set_cons_succ,set_cons_zero,zV,
  QM,Vo,JA,V3,VH,hsl,htr,if_true,ZM,decide_true,hlo,yk,wy,g2,vj,yh]
 by_cases hz:e2=0
 ·subst hz
  obtain⟨q',s',h1,h2,h3⟩:=key (S6.getD e3.toNat 0) (.inl (zb2 _ (by lia)))
  simp only[qSt] at h1
  refine⟨q',(n:Int)+1,s',?_,h2,h3,by lia⟩
  simp only[beq_self_eq_true,if_true,g3,wt,Rs.bind_ok,hix,Fl.of_ok,zV]
  exact h1
 ·obtain⟨q',s',h1,h2,h3⟩:=key (lo1 x[n]) (Qv _ hxn).2
  simp only[qSt] at h1
  refine⟨q',(n:Int)+1,s',?_,h2,h3,by lia⟩
  have hb:(e2==0)=false:=by simpa using hz
  simp only[hb,Bool.false_eq_true,if_false,z7,zV]
  exact h1
theorem MR(ns:List Int)(a:Int)(x:List Nat)(most:Int)(h63:ns.length≤63)(h0:0≤a)(ha:a<900000)(hm0:0≤most)(hm1:most<50)(hx0:0<x.length)(hx1:x.length≤100)(hx:∀c∈x,c∈NS) :
  ∃q:List Nat,(q.length:Int)≤most∧(∀c∈q,c∈QS)∧xM [.scr ns,.int a,.str ⟨x.toArray⟩,.int most]=.ok (.str ⟨q.toArray⟩):=by
 have st:zQ 8 [D.scr ns,.int a,.str ⟨x.toArray⟩,.int most]=[some (.val (.scr ns)),some (.val (.int a)),some (.val (.str ⟨x.toArray⟩)),some (.val (.int most)),none,none,none,none]:=rfl
 have dl:=wY ns a (m:=most+1) (by lia)
 have dk:=wX ns a (most+1) h63 h0 (by lia) (by lia)
 generalize hN:wo ns a (most+1)=N at *
 have r1:=U8 (fs:=za (zp zr (za (zc 0) (za (zc 1) (za (eOp zM (zc 3) (eC (.int 1))) zh)))) zh) (τ:=qSt ns a x most [] 0 none none) (j:=N)
  (by simp only[qSt,zx,zZ,yg,yv,y3,zH,getElem?_cons_zero,getElem?_cons_succ,zA,Rs.bind_ok,yK,dk,wt]) (by lia) (by lia)
 obtain⟨τ',l1,q,p,s1,s2,rfl,l2,l3,l4⟩:=ZK (set:=gNm 6) (body:=VQ) (fun (k:Nat)=>D.int (0+k)) (fun k τ=>∃q p s1 s2,τ=qSt ns a x most q p s1 s2∧q.length≤k∧(∀c∈q,c∈QS)∧0≤p) N.toNat (qSt ns a x most [] 0 none none)
  ⟨[],0,none,none,rfl,le_refl _,(fun _ h=>nomatch h),Int.le_refl _⟩ fun k τ hk z_=>by
   obtain⟨q,p,s1,s2,e,h1,h2,h3⟩:=z_
   subst e
   obtain⟨q',p',s',g1,g2,g3,g4⟩:=U9 ns a x most q p k s2 h63 h0 ha (by lia) hx0 hx1 hx (by lia) h2 h3
   exact⟨_,_,vX,g1,q',p',_,s',rfl,by lia,g3,g4⟩
 refine⟨q,by lia,l3,?_⟩
 have s0:qSt ns a x most [] 0 none none=[some (.val (.scr ns)),some (.val (.int a)),some (.val (.str ⟨x.toArray⟩)),some (.val (.int most)),some (.val (.str "")),some (.val (.int 0)),none,none]:=rfl
 unfold xM Zq
 rw[zW,st,zB,zF,yv,Fl.of_ok,zV,zB,zF,yv,Fl.of_ok,zV,zB,x9]
 simp only[set_cons_succ,set_cons_zero]
 rw[← s0,r1,Fl.of_ok]
 unfold uN
 have l1':ye (gNm 6) VQ ((List.range N.toNat).map fun (k:Nat)=>D.int (0+k)) (qSt ns a x most [] 0 none none)=.nx (qSt ns a x most q p s1 s2):=l1
 unfold VQ at l1'
 rw[l1',zV]
 simp only[qSt,zT,zH,getElem?_cons_zero,getElem?_cons_succ,zA,Fl.of_ok,zJ]
noncomputable def yF(c d:Nat):Bool:=c==d||(decide (97≤c∧c≤122)&&up1 c==d)
theorem za8:("abcdefghijklmnopqrstuvwxyz" : Str).cps.toList=(List.range 26).map (· + 97):=by decide +kernel
theorem v5(c:Nat):decide (c∈("abcdefghijklmnopqrstuvwxyz" : Str).cps.toList)=decide (97≤c∧c≤122):=by
 rw[za8]
 apply decide_eq_decide.mpr
 rw[mem_map]
 constructor
 ·rintro⟨i,hi,rfl⟩
  have:=mem_range.mp hi
  lia
 ·intro h
  exact⟨c-97,mem_range.mpr (by lia),by lia⟩
theorem Q0(c:Nat)(h:c<128):Txt.upper (⟨#[c]⟩:Str)=⟨#[up1 c]⟩:=by
 rw[upper_ascii (x:=⟨#[c]⟩) (by intro d hd;have e:d=c:=(by simpa using hd);lia)]
 simp
theorem Y8(c d:Nat):((⟨#[c]⟩:Str)==⟨#[d]⟩)=(c==d):=by
 rw[Bool.eq_iff_iff]
 simp
theorem V8(c d:Nat)(hc:c<128):wF [zy c,zy d]=.ok (.bl (yF c d)):=by
 have st:zQ 2 [zy c,zy d]=[some (.val (zy c)),some (.val (zy d))]:=rfl
 have hup:upD (.str ⟨#[c]⟩) []=.ok (.str ⟨#[up1 c]⟩):=by
  simp only[upD]
  rw[if_pos (by show 1≤5000000;decide),Q0 _ hc]
 unfold wF QX
 rw[zW,st]
 simp only[zT,Vo,YH,yg,zH,yv,QM,getElem?_cons_zero,getElem?_cons_succ,zA,Rs.bind_ok,zy,WC,Y8,wU,Zi,x8,v5,ZM,decide_true,if_true,hup]
 unfold yF
 by_cases h:c=d
 ·subst h;simp
 ·have hb:(c==d)=false:=by simpa using h
  simp only[hb,Bool.false_eq_true,if_false,Bool.false_or]
  by_cases h2:97≤c∧c≤122
  ·simp[h2]
  ·simp[h2]
end Law
set_option Elab.async false
set_option linter.all false
set_option maxHeartbeats 1000000
namespace FD
open PySem PySem.Spec PyProof.Rows L2
section
variable{τ:DS}{fa fb fe fi:FE}{fs:FA}{n:Nat}{i:Int}
theorem Lx:UH n τ=(Ux τ[n]?).bind fun ds=>.ok (.int ds.length):=rfl
theorem jW:VM n fe τ=Fl.of (Ux τ[n]?) fun ds=>Fl.of (fe τ) fun d=>if ds.length<sizeLine then .nx (τ.set n (some (.own (ds++[d])))) else .no:=rfl
theorem jm:xf fe τ=(fe τ).bind Uk:=rfl
@[simp] theorem T3{x:Str}:Uk (.str x)=.ok (uK x):=rfl
@[simp] theorem T4{ds:List D}:Uk (.lst ds)=.ok ds:=rfl
noncomputable def putAt(n:Nat)(ds:List D)(d:D)(τ:DS):D→Fl
 |.int k=>match ixN ds.length k with
  |some j=>.nx (τ.set n (some (.own (ds.set j d))))
  |none=>.no
 |_=>.no
theorem WR:Q9 n fi fe τ=Fl.of (fe τ) fun d=>Fl.of (Ux τ[n]?) fun ds=>Fl.of (fi τ) (putAt n ds d τ):=by
 unfold Q9 ju
 cases fe τ <;> rfl
theorem MT{ds:List D}{d:D}{j:Nat}(h:j<ds.length):putAt n ds d τ (.int j)=.nx (τ.set n (some (.own (ds.set j d)))):=by
 have:ixN ds.length (j:Int)=some j:=by
  unfold ixN
  rw[if_pos (by lia),if_pos (by lia)]
  simp
 simp only[putAt,this]
noncomputable def ixO(ds:List D):D→Rs D
 |.int k=>match atI ds k with
  |some d=>.ok d
  |none=>.no
 |_=>.no
theorem zj5:G6 n fi τ=(Ux τ[n]?).bind fun ds=>(fi τ).bind (ixO ds):=by
 unfold G6
 show(Ux τ[n]?).bind _=_
 cases Ux τ[n]? <;> rfl
end
end FD
namespace Law
open PySem PySem.Spec PyProof.Rows L2 FD
noncomputable abbrev tx(x:List Nat):D:=.str ⟨x.toArray⟩
noncomputable abbrev nts(x:List Nat):D:=.lst (x.map fun (k:Nat)=>D.int k)
theorem uG(x:List Nat)(h:x.length≤1000):yN [tx x]=.ok (.int x.length):=by
 rw[Ug (by rw[sizeLine_v];show x.toArray.size≤_;simp;lia)]
 show Rs.ok (D.int ((x.toArray.size:Nat):Int))=_
 simp
theorem tx_ix(x:List Nat)(j:Nat)(c:Nat)(h:x[j]?=some c)(hl:x.length≤1000):ixD (tx x) (.int j)=.ok (zy c):=by
 refine Ze (ZV (by lia) (by simpa using h)) (by rw[sizeLine_v];show x.toArray.size≤_;simp;lia)
theorem Mo(x:List Nat):uK ⟨x.toArray⟩=x.map zy:=by simp[uK]
noncomputable def epR:List Nat→List Nat→Nat→List Nat
 |[],_,_=>[]
 |_::_,[],_=>[]
 |a::q,c::x,k=>if yF a c=true then k::epR q x (k+1) else epR (a::q) x (k+1)
noncomputable def jS:List Nat→List Nat→Bool
 |[],_=>true
 |_::_,[]=>false
 |a::q,c::x=>if yF a c=true then jS q x else jS (a::q) x
theorem XG:∀(q x:List Nat) (k:Nat),((epR q x k).length=q.length)↔jS q x=true
 |[],x,k=>by simp[epR,jS]
 |a::q,[],k=>by simp[epR,jS]
 |a::q,c::x,k=>by
  simp only[epR,jS]
  split
  ·simpa using XG q x (k+1)
  ·exact XG (a::q) x (k+1)
noncomputable abbrev its(x:List Int):D:=.lst (x.map D.int)
noncomputable def WU(n:Int):Int→List Int→Bool
 |_,[]=>true
 |a,t::r=>if t<a∨n≤t then false else WU n (t+1) r
noncomputable def mt2(x:List Nat):List Nat→List Int→List Bool
 |a::q,t::l=>yF a (x.getD t.toNat 0)::mt2 x q l
 |_,_=>[]
noncomputable def zs1(q x:List Nat)(l:List Int):Bool:=(l.length==q.length)&&(WU x.length 0 l&&(mt2 x q l).all id)
theorem wH{set:FG}{fe:FE}{τ:DS}{α β:Type}(f:α→D)(g:β→D)(h:α→β):∀(xs:List α),(∀a∈xs,∃τ1,set (f a) τ=.ok τ1∧fe τ1=.ok (g (h a)))→vk set (fun _=>.ok true) fe τ (xs.map f)=.ok ((xs.map h).map g):=by
 intro l_
 induction l_ with
 |nil=>
  rintro _
  exact rfl
 |cons a xs ih_=>
  rintro hs
  obtain⟨τ1,h1,h2⟩:=hs a (mem_cons_self ..)
  rw[map_cons,vk,h1]
  simp only[h2,ih_ fun b hb=>hs b (mem_cons_of_mem _ hb),Rs.bind_ok,map_cons]
end Law
set_option Elab.async false
set_option linter.all false
set_option maxHeartbeats 1000000
namespace FD
open PySem PySem.Spec PyProof.Rows L2
theorem zr6(x:List Nat):(⟨x.toArray⟩:Str).length=x.length:=by show x.toArray.size=_;simp
theorem wA{set:FG}{ft:FT}{fe:FE}{τ:DS}{α:Type}(f g:α→D)(p:α→Bool):∀(xs:List α),(∀a∈xs,∃τ1,set (f a) τ=.ok τ1∧ft τ1=.ok (p a)∧fe τ1=.ok (g a))→vk set ft fe τ (xs.map f)=.ok ((xs.filter p).map g):=by
 intro l_
 induction l_ with
 |nil=>
  rintro _
  exact rfl
 |cons a xs ih_=>
  rintro hs
  obtain⟨τ1,h1,h2,h3⟩:=hs a (mem_cons_self ..)
  have ih:=ih_ fun b hb=>hs b (mem_cons_of_mem _ hb)
  rw[map_cons,vk,h1]
  cases hp:p a
  ·rw[hp] at h2
   simp only[h2,ih,List.filter_cons,hp,Bool.false_eq_true,if_false]
  ·rw[hp] at h2
   simp only[h2,h3,ih,List.filter_cons,hp,if_true,Rs.bind_ok,map_cons]
end FD
namespace Law
open PySem PySem.Spec PyProof.Rows L2 FD
theorem f1:∀a∈QS,∀c∈NS,yF (lo1 a) c=yF (lo1 a) (lo1 c):=by decide
theorem f2:∀a∈QS,∀c∈NS,yF a c=true→yF (lo1 a) c=true:=by decide
theorem f3:∀a∈QS,∀c∈NS,yF a c=true→lo1 c=lo1 a:=by decide
theorem f5:∀c∈NS,c<128∧lo1 c<128:=by decide
theorem f6:∀c∈QS,c<128∧lo1 c<128:=by decide
theorem Jy(n:Int):∀(q x:List Nat) (k:Nat) (a:Int),a≤k→(k:Int)+x.length≤n→WU n a ((epR q x k).map fun (t:Nat)=>(t:Int))=true
 |[],x,k,a,_,_=>by simp[epR,WU]
 |_::_,[],k,a,_,_=>by simp[epR,WU]
 |b::q,c::x,k,a,h1,h2=>by
  simp only[length_cons] at h2
  simp only[epR]
  split
  ·simp only[map_cons,WU]
   rw[if_neg (by lia)]
   exact Jy n q x (k+1) _ (by lia) (by lia)
  ·exact Jy n (b::q) x (k+1) a (by lia) (by lia)
theorem WE{x0 x:List Nat}{c k:Nat}(h:x0.drop k=c::x):x0.drop (k+1)=x∧x0.getD k 0=c:=by
 have h1:x0[k]?=some c:=by
  have:=congrArg (fun l=>l[0]?) h
  simpa using this
 constructor
 ·rw[← List.drop_drop,h];rfl
 ·rw[getD_eq_getElem?_getD,h1];rfl
theorem Lw(x0:List Nat)(f:Nat→Nat):∀(q x:List Nat) (k:Nat),x0.drop k=x→(∀a∈q,∀c∈x,yF a c=true→yF (f a) c=true)→(mt2 x0 (q.map f) ((epR q x k).map fun (t:Nat)=>(t:Int))).all id=true
 |[],x,k,_,_=>by simp[epR,mt2]
 |_::_,[],k,_,_=>by simp[epR,mt2]
 |b::q,c::x,k,h1,h2=>by
  obtain⟨h3,h4⟩:=WE h1
  simp only[epR]
  split
  ·rename_i hm
   simp only[map_cons,mt2,toNat_natCast,h4,h2 b (mem_cons_self ..) c (mem_cons_self ..) hm,List.all_cons,id,Bool.true_and]
   exact Lw x0 f q x (k+1) h3 fun a ha d hd=>h2 a (mem_cons_of_mem _ ha) d (mem_cons_of_mem _ hd)
  ·exact Lw x0 f (b::q) x (k+1) h3 fun a ha d hd=>h2 a ha d (mem_cons_of_mem _ hd)
structure Lay(q x l:List Nat):Prop where
 len:l.length=q.length
 ris:∀j,j+1<l.length→l.getD j 0<l.getD (j+1) 0
 inn:∀j,j<l.length→l.getD j 0<x.length
 met:∀j,j<l.length→yF (q.getD j 0) (x.getD (l.getD j 0) 0)=true
noncomputable abbrev toI(l:List Nat):List Int:=l.map fun (t:Nat)=>(t:Int)
theorem WT(n:Nat):∀(l:List Nat) (a:Nat),WU n a (toI l)=true↔((∀j,j+1<l.length→l.getD j 0<l.getD (j+1) 0)∧(∀j,j<l.length→l.getD j 0<n)∧(0<l.length→a≤l.getD 0 0)):=by
 intro l_
 induction l_ with
 |nil=>
  rintro a
  simp[WU]
 |cons t r ih_=>
  rintro a
  have ih:=ih_ (t+1)
  simp only[map_cons,WU]
  constructor
  ·intro h
   split at h
   ·cases h
   ·rename_i g
    have e:((t:Int)+1)=((t+1:Nat):Int):=by lia
    rw[e] at h
    obtain⟨h1,h2,h3⟩:=ih.mp h
    refine⟨fun j hj=>?_,fun j hj=>?_,fun _=>?_⟩
    ·cases j with
     |zero=>have:=h3 (by simpa using hj);exact Nat.lt_of_succ_le (by simpa using this)
     |succ j=>simpa using h1 j (by simpa using hj)
    ·cases j with
     |zero=>simp;lia
     |succ j=>simpa using h2 j (by simpa using hj)
    ·simp;lia
  ·rintro⟨h1,h2,h3⟩
   have a1:=h2 0 (by simp)
   have a2:=h3 (by simp)
   simp only[getD_cons_zero] at a1 a2
   rw[if_neg (by lia)]
   have e:((t:Int)+1)=((t+1:Nat):Int):=by lia
   rw[e]
   refine ih.mpr ⟨fun j hj=>?_,fun j hj=>?_,fun h0=>?_⟩
   ·simpa using h1 (j+1) (by simpa using hj)
   ·simpa using h2 (j+1) (by simpa using hj)
   ·exact Nat.succ_le_of_lt (by simpa using h1 0 (by simpa using h0))
theorem Vb(x:List Nat):∀(q l:List Nat),l.length=q.length→((mt2 x q (toI l)).all id=true↔∀j,j<l.length→yF (q.getD j 0) (x.getD (l.getD j 0) 0)=true)
 |[],[],_=>by simp[mt2]
 |[],_::_,h=>by simp at h
 |_::_,[],h=>by simp at h
 |a::q,t::l,h=>by
  have ih:=Vb x q l (by simpa using h)
  simp only[map_cons,mt2,List.all_cons,id,Bool.and_eq_true,toNat_natCast]
  rw[ih]
  constructor
  ·rintro⟨h1,h2⟩ j hj
   cases j with
   |zero=>simpa using h1
   |succ j=>simpa using h2 j (by simpa using hj)
  ·intro h1
   exact⟨by simpa using h1 0 (by simp),fun j hj=>by simpa using h1 (j+1) (by simpa using hj)⟩
theorem zg7(q x l:List Nat):zs1 q x (toI l)=true↔Lay q x l:=by
 unfold zs1
 simp only[Bool.and_eq_true,beq_iff_eq,length_map]
 constructor
 ·rintro⟨h1,h2,h3⟩
  obtain⟨a,b,_⟩:=(WT x.length l 0).mp h2
  exact⟨h1,a,b,(Vb x q l h1).mp h3⟩
 ·intro h
  exact⟨h.len,(WT x.length l 0).mpr ⟨h.ris,h.inn,fun _=>zero_le _⟩,(Vb x q l h.len).mpr h.met⟩
noncomputable def LR(x:List Nat)(p:Nat):Int:=if p=0 then 8 else if x.getD (p-1) 0∈MK then 6 else if (65≤x.getD p 0∧x.getD p 0≤90)∧((97≤x.getD (p-1) 0∧x.getD (p-1) 0≤122)∨(48≤x.getD (p-1) 0∧x.getD (p-1) 0≤57)) then 5 else 0
noncomputable def wB(a:Nat)(x:List Nat)(p:Nat):Int:=10+LR x p+(if x.getD p 0=a then 1 else 0)
noncomputable def Xn(p:Nat):Int:=-(if (p:Int)<3 then (p:Int) else 3)
noncomputable def vQ(r p:Nat):Int:=if (p:Int)-r-1=0 then 7 else -(if (p:Int)-r-1<5 then (p:Int)-r-1 else 5)
noncomputable def trm(q x l:List Nat)(j:Nat):Int:=wB (q.getD j 0) x (l.getD j 0)+(if j=0 then Xn (l.getD 0 0) else vQ (l.getD (j-1) 0) (l.getD j 0))
noncomputable def pts(q x l:List Nat):Nat→Int
 |0=>0
 |n+1=>pts q x l n+trm q x l n
noncomputable abbrev Tl:=Int×List Nat
noncomputable def xq:List Tl→Option Tl→Option Tl
 |[],c=>c
 |t::r,none=>xq r (some t)
 |t::r,some c=>xq r (some (if c.1<t.1 then t else c))
noncomputable def jw(a:Nat)(x:List Nat):List Tl:=((List.range x.length).filter fun p=>yF a (x.getD p 0)).map fun p=>(wB a x p,[p])
noncomputable def wM(p:Nat)(ts:List Tl):List Tl:=(ts.filter fun t=>decide (p<t.2.getD 0 0)).map fun t=>(t.1+vQ p (t.2.getD 0 0),t.2)
noncomputable def uT(a:Nat)(x:List Nat)(ts:List Tl)(p:Nat):Option Tl:=if yF a (x.getD p 0)=true then (xq (wM p ts) none).map fun t=>(wB a x p+t.1,p::t.2) else none
noncomputable def Za(a:Nat)(x:List Nat)(ts:List Tl):List Tl:=(List.range x.length).filterMap (uT a x ts)
noncomputable def z9:List Nat→List Nat→List Tl
 |[],_=>[]
 |[a],x=>jw a x
 |a::b::q,x=>Za a x (z9 (b::q) x)
noncomputable def Z4(t:Tl):Tl:=(t.1+Xn (t.2.getD 0 0),t.2)
noncomputable def jx(q x:List Nat):Option Tl:=xq ((z9 q x).map Z4) none
theorem wT:∀(ts:List Tl) (c:Option Tl) (t:Tl),xq ts c=some t→t∈ts∨c=some t
 |[],c,t,h=>.inr h
 |u::r,none,t,h=>by
  rcases wT r (some u) t h with h|h
  ·exact .inl (mem_cons_of_mem _ h)
  ·cases h;exact .inl (mem_cons_self ..)
 |u::r,some c,t,h=>by
  rcases wT r _ t h with h|h
  ·exact .inl (mem_cons_of_mem _ h)
  ·by_cases g:c.1<u.1
   ·rw[if_pos g] at h;cases h;exact .inl (mem_cons_self ..)
   ·rw[if_neg g] at h;exact .inr h
theorem Xx:∀(ts:List Tl) (c:Tl),∃t,xq ts (some c)=some t:=by
 intro l_
 induction l_ with
 |nil=>
  rintro c
  exact⟨c,rfl⟩
 |cons u r ih_=>
  rintro c
  exact ih_ _
theorem Xy(ts:List Tl)(h:ts≠[]):∃t,xq ts none=some t∧t∈ts:=by
 cases ts with
 |nil=>exact absurd rfl h
 |cons u r=>
  obtain⟨t,e⟩:=Xx r u
  refine⟨t,e,?_⟩
  rcases wT (u::r) none t e with g|g
  ·exact g
  ·cases g
noncomputable def sm(f:Nat→Int):Nat→Int
 |0=>0
 |n+1=>sm f n+f n
theorem WN(f:Nat→Int):∀n,sm f (n+1)=f 0+sm (fun j=>f (j+1)) n:=by
 intro l_
 induction l_ with
 |zero=>
  simp[sm]
 |succ n ih_=>
  rw[sm,ih_,sm];lia
theorem MU(q x l:List Nat):∀n,pts q x l n=sm (trm q x l) n:=by
 intro l_
 induction l_ with
 |zero=>
  exact rfl
 |succ n ih_=>
  rw[pts,sm,ih_]
noncomputable def trk(x:List Nat)(r:Nat)(q l:List Nat)(j:Nat):Int:=wB (q.getD j 0) x (l.getD j 0)+vQ (if j=0 then r else l.getD (j-1) 0) (l.getD j 0)
theorem Mr(a p:Nat)(q x l:List Nat)(j:Nat):trm (a::q) x (p::l) (j+1)=trk x p q l j:=by
 simp only[trm,trk,getD_cons_succ,Nat.succ_ne_zero,if_false,Nat.add_sub_cancel]
 cases j with
 |zero=>rw[if_pos rfl,getD_cons_zero]
 |succ j=>rw[if_neg (Nat.succ_ne_zero j),getD_cons_succ,Nat.add_sub_cancel]
theorem Ms(a p r:Nat)(q x l:List Nat)(j:Nat):trk x r (a::q) (p::l) (j+1)=trk x p q l j:=by
 simp only[trk,getD_cons_succ,Nat.succ_ne_zero,if_false,Nat.add_sub_cancel]
 cases j with
 |zero=>rw[if_pos rfl,getD_cons_zero]
 |succ j=>rw[if_neg (Nat.succ_ne_zero j),getD_cons_succ,Nat.add_sub_cancel]
noncomputable def vg(x:List Nat):List Nat→List Nat→Int
 |a::q,p::l=>wB a x p+sm (trk x p q l) l.length
 |_,_=>0
theorem VA(a p:Nat)(q x l:List Nat):vg x (a::q) (p::l)+Xn p=pts (a::q) x (p::l) (l.length+1):=by
 rw[MU,WN,funext (Mr a p q x l)]
 simp only[vg,trm,if_true,getD_cons_zero]
 lia
theorem We(a b p r:Nat)(q x l:List Nat):vg x (a::b::q) (p::r::l)=wB a x p+vQ p r+vg x (b::q) (r::l):=by
 simp only[vg,length_cons]
 rw[WN,funext (Ms b r p q x l)]
 simp only[trk,if_true,getD_cons_zero]
 lia
theorem Lay.one{a p:Nat}{x:List Nat}(h1:p<x.length)(h2:yF a (x.getD p 0)=true):Lay [a] x [p]:=by
 have z:∀j,j<[p].length→j=0:=fun j hj=>by simpa using hj
 exact⟨rfl,fun j hj=>by simp at hj,fun j hj=>by rw[z j hj];exact h1,fun j hj=>by rw[z j hj];exact h2⟩
theorem Lay.cons{a p:Nat}{q x l:List Nat}(h:Lay q x l)(h1:p<x.length)(h2:yF a (x.getD p 0)=true)(h3:0<l.length→p<l.getD 0 0):Lay (a::q) x (p::l):=by
 refine⟨by simp[h.len],fun j hj=>?_,fun j hj=>?_,fun j hj=>?_⟩
 ·cases j with
  |zero=>simpa using h3 (by simpa using hj)
  |succ j=>simpa using h.ris j (by simpa using hj)
 ·cases j with
  |zero=>simpa using h1
  |succ j=>simpa using h.inn j (by simpa using hj)
 ·cases j with
  |zero=>exact h2
  |succ j=>simpa using h.met j (by simpa using hj)
theorem Lay.tail{a p:Nat}{q x l:List Nat}(h:Lay (a::q) x (p::l)):Lay q x l∧p<x.length∧yF a (x.getD p 0)=true∧(0<l.length→p<l.getD 0 0):=by
 refine⟨⟨by simpa using h.len,fun j hj=>?_,fun j hj=>?_,fun j hj=>?_⟩,by simpa using h.inn 0 (by simp),by simpa using h.met 0 (by simp),fun h0=>by simpa using h.ris 0 (by simpa using h0)⟩
 ·simpa using h.ris (j+1) (by simpa using hj)
 ·simpa using h.inn (j+1) (by simpa using hj)
 ·simpa using h.met (j+1) (by simpa using hj)
theorem vK(x:List Nat):∀(q:List Nat) (t:Tl),t∈z9 q x→Lay q x t.2∧t.1=vg x q t.2
 |[],t,h=>by simp[z9] at h
 |[a],t,h=>by
  simp only[z9,jw,mem_map,mem_filter,mem_range] at h
  obtain⟨p,⟨h1,h2⟩,rfl⟩:=h
  exact⟨Lay.one h1 h2,by simp[vg,sm]⟩
 |a::b::q,t,h=>by
  simp only[z9,Za,mem_filterMap,mem_range] at h
  obtain⟨p,h1,h2⟩:=h
  unfold uT at h2
  split at h2
  ·rename_i hm
   cases e:xq (wM p (z9 (b::q) x)) none with
   |none=>rw[e] at h2;cases h2
   |some u=>
    rw[e] at h2
    have h2:some (wB a x p+u.1,p::u.2)=some t:=h2
    cases h2
    rcases wT _ _ _ e with g|g
    ·simp only[wM,mem_map,mem_filter,decide_eq_true_eq] at g
     obtain⟨v,⟨g1,g2⟩,rfl⟩:=g
     obtain⟨k1,k2⟩:=vK x (b::q) v g1
     refine⟨k1.cons h1 hm fun _=>g2,?_⟩
     have hl:=k1.len
     cases e2:v.2 with
     |nil=>rw[e2] at hl;simp at hl
     |cons r l=>
      rw[e2] at k2
      simp only[getD_cons_zero]
      rw[We,k2]
      lia
    ·cases g
  ·cases h2
theorem jb(x:List Nat):∀(q l:List Nat),q≠[]→Lay q x l→∃t∈z9 q x,t.2.getD 0 0=l.getD 0 0
 |[],_,h,_=>absurd rfl h
 |[a],l,_,h=>by
  cases l with
  |nil=>have:=h.len;simp at this
  |cons p l=>
   obtain⟨_,h1,h2,_⟩:=h.tail
   refine⟨(wB a x p,[p]),?_,rfl⟩
   simp only[z9,jw,mem_map,mem_filter,mem_range]
   exact⟨p,⟨h1,h2⟩,rfl⟩
 |a::b::q,l,_,h=>by
  cases l with
  |nil=>have:=h.len;simp at this
  |cons p l=>
   obtain⟨h0,h1,h2,h3⟩:=h.tail
   obtain⟨u,u1,u2⟩:=jb x (b::q) l (by simp) h0
   have hl:0<l.length:=by rw[h0.len];simp
   have mem:(u.1+vQ p (u.2.getD 0 0),u.2)∈wM p (z9 (b::q) x):=by
    simp only[wM,mem_map,mem_filter,decide_eq_true_eq]
    exact⟨u,⟨u1,by rw[u2];exact h3 hl⟩,rfl⟩
   obtain⟨t,e,_⟩:=Xy _ (List.ne_nil_of_mem mem)
   refine⟨(wB a x p+t.1,p::t.2),?_,rfl⟩
   simp only[z9,Za,mem_filterMap,mem_range]
   refine⟨p,h1,?_⟩
   unfold uT
   rw[if_pos h2,e]
   rfl
theorem jK(q x:List Nat)(hq:q≠[])(v:Int)(l:List Nat)(h:jx q x=some (v,l)):Lay q x l∧v=pts q x l q.length:=by
 unfold jx at h
 rcases wT _ _ _ h with g|g
 ·obtain⟨t,g1,g2⟩:=mem_map.mp g
  obtain⟨k1,k2⟩:=vK x q t g1
  simp only[Z4,Prod.mk.injEq] at g2
  obtain⟨rfl,rfl⟩:=g2
  refine⟨k1,?_⟩
  cases q with
  |nil=>exact absurd rfl hq
  |cons a q=>
   have hl:=k1.len
   cases e2:t.2 with
   |nil=>rw[e2] at hl;simp at hl
   |cons p l=>
    rw[e2] at k2 hl
    simp only[length_cons] at hl ⊢
    have:q.length=l.length:=by lia
    rw[this,← VA,k2,getD_cons_zero]
 ·cases g
theorem Mg(q x l:List Nat)(hq:q≠[])(h:Lay q x l):∃v l',jx q x=some (v,l')∧Lay q x l'∧v=pts q x l' q.length:=by
 obtain⟨t,t1,_⟩:=jb x q l hq h
 obtain⟨⟨v,l'⟩,e,_⟩:=Xy ((z9 q x).map Z4) (List.ne_nil_of_mem (List.mem_map_of_mem t1))
 exact⟨v,l',e,jK q x hq v l' e⟩
theorem GK(q x:List Nat)(h:jS q x=true):Lay q x (epR q x 0):=by
 have h1:=(XG q x 0).mpr h
 have h2:=Jy x.length q x 0 0 (Int.le_refl _) (by lia)
 have h3:=Lw x id q x 0 rfl fun a _ c _ hm=>hm
 rw[map_id] at h3
 refine(zg7 q x _).mp ?_
 unfold zs1
 rw[h2,h3]
 simp[h1]
theorem jn(l:List Nat)(j:Nat)(h:j<l.length):(l.map (· - 1)).getD j 0=l.getD j 0-1:=by
 simp[getD_eq_getElem?_getD,getElem?_map,getElem?_eq_getElem h]
theorem Lay.back{q x l:List Nat}{c:Nat}(h:Lay q (c::x) l)(h0:∀j,j<l.length→0<l.getD j 0):Lay q x (l.map (· - 1)):=by
 refine⟨by simp[h.len],fun j hj=>?_,fun j hj=>?_,fun j hj=>?_⟩ <;> rw[length_map] at hj
 ·rw[jn _ _ (by lia),jn _ _ hj]
  have:=h.ris j hj;have:=h0 j (by lia);lia
 ·rw[jn _ _ hj]
  have:=h.inn j hj;have:=h0 j hj;simp only[length_cons] at *;lia
 ·rw[jn _ _ hj]
  have a:=h.met j hj;have b:=h0 j hj
  obtain⟨k,hk⟩:∃k,l.getD j 0=k+1:=⟨l.getD j 0-1,by lia⟩
  rw[hk,getD_cons_succ] at a
  rw[hk];exact a
theorem Lay.low{q x l:List Nat}(h:Lay q x l)(h0:0<l.getD 0 0):∀j,j<l.length→0<l.getD j 0:=fun j=>by
 induction j with
 |zero=>exact fun _=>h0
 |succ j ih=>intro hj;have:=h.ris j hj;lia
theorem Zc:∀(x q l:List Nat),Lay q x l→jS q x=true:=by
 intro l_
 induction l_ with
 |nil=>
  rintro q l h
  cases q with
  |nil=>rfl
  |cons a q=>
   have:=h.inn 0 (by rw[h.len];simp)
   simp at this
 |cons c x ih_=>
  rintro q l h
  cases q with
  |nil=>rfl
  |cons a q=>
   cases l with
   |nil=>have:=h.len;simp at this
   |cons p l=>
    simp only[jS]
    split
    ·obtain⟨h1,_,_,h3⟩:=h.tail
     refine ih_ q (l.map (· - 1)) (h1.back fun j hj=>?_)
     have h4:=h3 (by lia)
     exact h1.low (by lia) j hj
    ·rename_i hm
     refine ih_ (a::q) ((p::l).map (· - 1)) (h.back (h.low ?_))
     rcases Nat.eq_zero_or_pos p with z|z
     ·subst z
      have:=h.met 0 (by simp)
      simp only[getD_cons_zero] at this
      exact absurd this hm
     ·simpa using z
end Law
set_option Elab.async false
set_option linter.all false
set_option maxHeartbeats 1000000
namespace FD
open PySem PySem.Spec PyProof.Rows L2
noncomputable def negI:D→Rs D
 |.int i=>.ok (.int (-i))
 |_=>.no
@[simp] theorem Tx{i:Int}:negI (.int i)=.ok (.int (-i)):=rfl
theorem YG{fa:FE}{τ:DS}:wn fa τ=(fa τ).bind negI:=by
 unfold wn
 show(fa τ).bind _=_
 cases fa τ with
 |ok d=>cases d <;> rfl
 |_=>rfl
theorem Vd(i j:Int):v8 [.int i,.int j]=.ok (.int (if j<i then j else i)):=rfl
theorem zj3{fe:FE}{τ:DS}:zj4 fe τ=(fe τ).bind MO:=rfl
end FD
namespace Law
open PySem PySem.Spec PyProof.Rows L2 FD
noncomputable abbrev tlD(t:Tl):D:=.tup [.int t.1,nts t.2]
noncomputable def vc:Option Tl→D
 |none=>.non
 |some t=>tlD t
theorem Vy(t:Tl):ixD (tlD t) (.int 0)=.ok (.int t.1):=rfl
theorem Q2(t:Tl):ixD (tlD t) (.int 1)=.ok (nts t.2):=rfl
theorem To(l:List Nat)(j:Nat)(h:j<l.length):ixD (nts l) (.int (j:Int))=.ok (.int (l.getD j 0:Nat)):=by
 refine Vf (ZV (by lia) ?_)
 simp[getD_eq_getElem?_getD,getElem?_eq_getElem h]
theorem W9(l:List Nat)(h:0<l.length):ixD (nts l) (.int 0)=.ok (.int (l.getD 0 0:Nat)):=To l 0 h
theorem uX(x:List Nat)(j:Nat)(h:j<x.length):x[j]?=some (x.getD j 0):=by
 rw[getD_eq_getElem?_getD,getElem?_eq_getElem h];rfl
theorem jt(x:List Nat)(j:Nat)(h:j<x.length)(hx:x.length≤1000):ixD (tx x) (.int (j:Int))=.ok (zy (x.getD j 0)):=tx_ix x j _ (uX x j h) hx
theorem zi2:("ABCDEFGHIJKLMNOPQRSTUVWXYZ" : Str).cps.toList=(List.range 26).map (· + 65):=by decide +kernel
theorem zu1:("0123456789" : Str).cps.toList=(List.range 10).map (· + 48):=by decide +kernel
theorem Yt(c n a:Nat):decide (c∈(List.range (n+1)).map (· + a))=decide (a≤c∧c≤n+a):=by
 apply decide_eq_decide.mpr
 rw[mem_map]
 constructor
 ·rintro⟨i,hi,rfl⟩
  have:=mem_range.mp hi
  lia
 ·intro h
  exact⟨c-a,mem_range.mpr (by lia),by lia⟩
theorem ua(c:Nat):decide (c∈("ABCDEFGHIJKLMNOPQRSTUVWXYZ" : Str).cps.toList)=decide (65≤c∧c≤90):=by
 rw[zi2];exact Yt c 25 65
theorem XB(c:Nat):decide (c∈("0123456789" : Str).cps.toList)=decide (48≤c∧c≤57):=by
 rw[zu1];exact Yt c 9 48
theorem zv3(x:List Nat)(p:Nat)(hx:x.length≤1000)(hp:p<x.length):yE [tx x,.int (p:Int)]=.ok (.int (LR x p)):=by
 have st:zQ 3 [tx x,.int (p:Int)]=[some (.val (tx x)),some (.val (.int (p:Int))),none]:=rfl
 unfold yE vF
 rw[zW,st]
 cases p with
 |zero=>
  simp only[zB,yk,zT,z7,wy,yg,zH,yv,getElem?_cons_zero,getElem?_cons_succ,zA,Rs.bind_ok,Fl.of_ok,uH,zJ,yh,vj,if_true,show((((0:Nat):Int))==0)=true from rfl]
  rfl
 |succ k=>
  have e0:(((k+1:Nat):Int)==0)=false:=by simp;lia
  have e1:((k+1:Nat):Int)-1=(k:Int):=by lia
  have hk:=jt x k (by lia) hx
  have hk1:=jt x (k+1) hp hx
  have hb:LR x (k+1)=if x.getD k 0∈MK then 6 else if (65≤x.getD (k+1) 0∧x.getD (k+1) 0≤90)∧((97≤x.getD k 0∧x.getD k 0≤122)∨(48≤x.getD k 0∧x.getD k 0≤57)) then 5 else 0:=by
   unfold LR;rw[if_neg (Nat.succ_ne_zero k)];rfl
  rw[hb]
  generalize x.getD k 0=c at *
  generalize x.getD (k+1) 0=d at *
  simp only[zy] at hk hk1
  by_cases h1:c∈MK
  ·simp only[zB,zF,yk,zT,z7,wy,yg,zH,yv,getElem?_cons_zero,getElem?_cons_succ,set_cons_succ,set_cons_zero,zA,Rs.bind_ok,Fl.of_ok,zV,uH,zJ,yh,xQ,vj,if_true,Bool.false_eq_true,if_false,e0,e1,hk,Zi,x8,Jk,h1,decide_true]
  ·by_cases h2:65≤d∧d≤90
   ·by_cases h3:97≤c∧c≤122
    ·have h4:(65≤d∧d≤90)∧((97≤c∧c≤122)∨(48≤c∧c≤57)):=⟨h2,.inl h3⟩
     rw[if_neg h1,if_pos h4]
     simp only[zB,zF,yk,zT,z7,wy,jQ,ue,yg,zH,yv,getElem?_cons_zero,getElem?_cons_succ,set_cons_succ,set_cons_zero,zA,Rs.bind_ok,Fl.of_ok,zV,uH,zJ,yh,xQ,vj,if_true,Bool.false_eq_true,if_false,e0,e1,hk,hk1,Zi,x8,Jk,h1,decide_false,ua,v5,XB,h2,h3,and_self,decide_true]
    ·by_cases h5:48≤c∧c≤57
     ·have h4:(65≤d∧d≤90)∧((97≤c∧c≤122)∨(48≤c∧c≤57)):=⟨h2,.inr h5⟩
      rw[if_neg h1,if_pos h4]
      simp only[zB,zF,yk,zT,z7,wy,jQ,ue,yg,zH,yv,getElem?_cons_zero,getElem?_cons_succ,set_cons_succ,set_cons_zero,zA,Rs.bind_ok,Fl.of_ok,zV,uH,zJ,yh,xQ,vj,if_true,Bool.false_eq_true,if_false,e0,e1,hk,hk1,Zi,x8,Jk,h1,decide_false,ua,v5,XB,decide_eq_true h2,decide_eq_false h3,decide_eq_true h5]
     ·have h4:¬ ((65≤d∧d≤90)∧((97≤c∧c≤122)∨(48≤c∧c≤57))):=fun h=>by rcases h.2 with h|h;exact h3 h;exact h5 h
      rw[if_neg h1,if_neg h4]
      simp only[zB,zF,yk,zT,z7,wy,jQ,ue,yg,zH,yv,getElem?_cons_zero,getElem?_cons_succ,set_cons_succ,set_cons_zero,zA,Rs.bind_ok,Fl.of_ok,zV,zJ,yh,xQ,vj,if_true,Bool.false_eq_true,if_false,e0,e1,hk,hk1,Zi,x8,Jk,h1,decide_false,ua,v5,XB,decide_eq_true h2,decide_eq_false h3,decide_eq_false h5]
   ·have h4:¬ ((65≤d∧d≤90)∧((97≤c∧c≤122)∨(48≤c∧c≤57))):=fun h=>h2 h.1
    rw[if_neg h1,if_neg h4]
    simp only[zB,zF,yk,zT,z7,wy,jQ,ue,yg,zH,yv,getElem?_cons_zero,getElem?_cons_succ,set_cons_succ,set_cons_zero,zA,Rs.bind_ok,Fl.of_ok,zV,zJ,yh,xQ,vj,Bool.false_eq_true,if_false,e0,e1,hk,hk1,Zi,x8,Jk,h1,decide_false,ua,decide_eq_false h2]
theorem Tf(a:Nat)(x:List Nat)(p:Nat)(hx:x.length≤1000)(hp:p<x.length):yA [zy a,tx x,.int (p:Int)]=.ok (.int (wB a x p)):=by
 have st:zQ 4 [zy a,tx x,.int (p:Int)]=[some (.val (zy a)),some (.val (tx x)),some (.val (.int (p:Int))),none]:=rfl
 have hk:=jt x p hp hx
 have hb:=zv3 x p hx hp
 unfold yA Zp wB
 rw[zW,st]
 simp only[zy] at hk ⊢
 by_cases h:x.getD p 0=a
 ·have h':(x.getD p 0==a)=true:=by simpa using h
  rw[if_pos h]
  simp only[zB,zF,zT,wy,yg,zH,yv,zZ,zx,y3,Vp,getElem?_cons_zero,getElem?_cons_succ,set_cons_succ,set_cons_zero,zA,Rs.bind_ok,Fl.of_ok,zV,zJ,wt,yh,yK,WC,if_true,hk,Y8,h',hb]
 ·have h':(x.getD p 0==a)=false:=by simpa using h
  rw[if_neg h]
  simp only[zB,zF,zT,wy,yg,zH,yv,zZ,zx,y3,Vp,getElem?_cons_zero,getElem?_cons_succ,set_cons_succ,set_cons_zero,zA,Rs.bind_ok,Fl.of_ok,zV,zJ,wt,yh,yK,WC,Bool.false_eq_true,if_false,hk,Y8,h',hb]
theorem zg3(p:Nat):yQ [.int (p:Int)]=.ok (.int (Xn p)):=by
 have st:zQ 1 [.int (p:Int)]=[some (.val (.int (p:Int)))]:=rfl
 unfold yQ jz Xn
 rw[zW,st]
 simp only[zT,zH,yv,zZ,zx,vS,getElem?_cons_zero,zA,Rs.bind_ok,Fl.of_ok,zJ,Vd,YG,Tx]
 congr 3
 split <;> split <;> lia
theorem zf9(r p:Nat):xl [.int (r:Int),.int (p:Int)]=.ok (.int (vQ r p)):=by
 have st:zQ 3 [.int (r:Int),.int (p:Int)]=[some (.val (.int (r:Int))),some (.val (.int (p:Int))),none]:=rfl
 unfold xl jy vQ
 rw[zW,st]
 by_cases h:(p:Int)-r-1=0
 ·have h':((p:Int)-r-1==0)=true:=by simpa using h
  rw[if_pos h]
  simp only[zB,zF,yk,zT,z7,wy,yg,zH,yv,getElem?_cons_zero,getElem?_cons_succ,set_cons_succ,set_cons_zero,zA,Rs.bind_ok,Fl.of_ok,zV,uH,zJ,yh,xQ,vj,if_true,h']
 ·have h':((p:Int)-r-1==0)=false:=by simpa using h
  rw[if_neg h]
  simp only[zB,zF,yk,zT,z7,wy,yg,zH,yv,zZ,zx,vS,getElem?_cons_zero,getElem?_cons_succ,set_cons_succ,set_cons_zero,zA,Rs.bind_ok,Fl.of_ok,zV,zJ,yh,xQ,vj,Bool.false_eq_true,if_false,h',Vd,YG,Tx]
  congr 3
  split <;> split <;> lia
end Law
set_option Elab.async false
set_option linter.all false
set_option maxHeartbeats 1000000
namespace FD
open PySem PySem.Spec PyProof.Rows L2
theorem zo1{fs:FA}{τ:DS}{i j:Int}(h:fs τ=.ok [.int i,.int j,.int (-1)])(h1 : -(2 ^ 62)≤i)(h2:i<2 ^ 62)(h3 : -(2 ^ 62)≤j)(h4:j<2 ^ 62):GU fs τ=.ok (Z1 i (i-j).toNat):=by
 unfold GU
 rw[h]
 simp only[Rs.bind_ok,Ur]
 rw[if_pos ⟨⟨h1,h2⟩,h3,h4⟩]
end FD
namespace Law
open PySem PySem.Spec PyProof.Rows L2 FD
noncomputable def ZR:FS:=(sIf (v4 (FD.tB (eOp isD (zc 1) (eC .non))) (FD.tB (eOp gtD (eOp ixD (zc 2) (eC (.int 0))) (eOp ixD (zc 1) (eC (.int 0)))))) (zI 1 (zc 2)) yc)
theorem T7:isD .non .non=.ok (.bl true):=rfl
theorem T6(t:Tl):isD (tlD t) .non=.ok (.bl false):=rfl
theorem Wy:ww .non .non=.ok (.bl false):=rfl
theorem Ul(t:Tl):ww (tlD t) .non=.ok (.bl true):=rfl
theorem Vm(z:D):∀(ts:List Tl) (c:Option Tl) (s:Option Sl),∃s',ye (gNm 2) ZR (ts.map tlD) [some (.val z),some (.val (vc c)),s]=.nx [some (.val z),some (.val (vc (xq ts c))),s']
 |[],c,s=>⟨s,rfl⟩
 |t::ts,none,s=>by
  obtain⟨s',ih⟩:=Vm z ts (some t) (some (.val (tlD t)))
  refine⟨s',?_⟩
  have:ZR [some (.val z),some (.val (vc none)),some (.val (tlD t))]=.nx [some (.val z),some (.val (vc (some t))),some (.val (tlD t))]:=by
   unfold ZR vc
   simp only[zF,yk,z7,wy,ue,yg,zH,yv,getElem?_cons_zero,getElem?_cons_succ,set_cons_succ,set_cons_zero,zA,Rs.bind_ok,Fl.of_ok,yh,if_true,T7]
  rw[map_cons,ye,vX,Fl.of_ok]
  simp only[set_cons_succ,set_cons_zero,this]
  rw[ih]
  rfl
 |t::ts,some c,s=>by
  obtain⟨s',ih⟩:=Vm z ts (some (if c.1<t.1 then t else c)) (some (.val (tlD t)))
  refine⟨s',?_⟩
  have:ZR [some (.val z),some (.val (vc (some c))),some (.val (tlD t))]=.nx [some (.val z),some (.val (vc (some (if c.1<t.1 then t else c)))),some (.val (tlD t))]:=by
   unfold ZR vc
   by_cases h:c.1<t.1
   ·rw[if_pos h]
    simp only[zF,yk,z7,wy,ue,yg,zH,yv,getElem?_cons_zero,getElem?_cons_succ,set_cons_succ,set_cons_zero,zA,Rs.bind_ok,Fl.of_ok,yh,Uv,if_true,Bool.false_eq_true,if_false,T6,Vy,h,decide_true]
   ·rw[if_neg h]
    simp only[zF,yk,z7,wy,ue,yg,zH,yv,getElem?_cons_zero,getElem?_cons_succ,set_cons_succ,set_cons_zero,zA,Rs.bind_ok,Fl.of_ok,yh,Uv,Bool.false_eq_true,if_false,T6,Vy,h,decide_false]
  rw[map_cons,ye,vX,Fl.of_ok]
  simp only[set_cons_succ,set_cons_zero,this]
  rw[ih]
  rfl
theorem zm5(ts:List Tl):z6 [.lst (ts.map tlD)]=.ok (vc (xq ts none)):=by
 have st:zQ 3 [.lst (ts.map tlD)]=[some (.val (.lst (ts.map tlD))),none,none]:=rfl
 obtain⟨s',h⟩:=Vm (.lst (ts.map tlD)) ts none none
 unfold ZR at h
 unfold z6 uE
 rw[zW,st]
 simp only[vc] at h
 simp only[zB,zF,zT,x9,jm,T4,zH,yv,getElem?_cons_zero,getElem?_cons_succ,set_cons_succ,set_cons_zero,zA,Rs.bind_ok,Fl.of_ok,zV,zJ,h]
 rfl
theorem size2:∀a b:D,([a,b]:List D).length≤sizeLine:=fun a b=>by rw[sizeLine_v];exact Nat.le_of_ble_eq_true rfl
theorem size1:∀a:D,([a]:List D).length≤sizeLine:=fun a=>by rw[sizeLine_v];exact Nat.le_of_ble_eq_true rfl
theorem YO{fa fb:FE}{τ:DS}{a b:D}(h1:fa τ=.ok a)(h2:fb τ=.ok b):xg (za fa (za fb zh)) τ=.ok (.tup [a,b]):=by
 rw[QL,zx,h1,Rs.bind_ok,zx,h2,Rs.bind_ok,zZ,Rs.bind_ok,Rs.bind_ok,Rs.bind_ok]
 exact if_pos (size2 a b)
theorem Ua{fa:FE}{τ:DS}{a:D}(h1:fa τ=.ok a):xt (za fa zh) τ=.ok (.lst [a]):=by
 rw[Zn,zx,h1,Rs.bind_ok,zZ,Rs.bind_ok,Rs.bind_ok]
 exact if_pos (size1 a)
theorem zm7{f:List D→Rs D}{fa:FE}{τ:DS}{a d:D}(h1:fa τ=.ok a)(h:f [a]=.ok d):zp f (za fa zh) τ=.ok d:=by
 rw[y3,zx,h1,Rs.bind_ok,zZ,Rs.bind_ok,Rs.bind_ok,h];rfl
theorem vn{f:List D→Rs D}{fa fb:FE}{τ:DS}{a b d:D}(h1:fa τ=.ok a)(h2:fb τ=.ok b)(h:f [a,b]=.ok d):zp f (za fa (za fb zh)) τ=.ok d:=by
 rw[y3,zx,h1,Rs.bind_ok,zx,h2,Rs.bind_ok,zZ,Rs.bind_ok,Rs.bind_ok,Rs.bind_ok,h];rfl
theorem vm{f:List D→Rs D}{fa fb fc:FE}{τ:DS}{a b c d:D}(h1:fa τ=.ok a)(h2:fb τ=.ok b)(h3:fc τ=.ok c)(h:f [a,b,c]=.ok d):zp f (za fa (za fb (za fc zh))) τ=.ok d:=by
 rw[y3,zx,h1,Rs.bind_ok,zx,h2,Rs.bind_ok,zx,h3,Rs.bind_ok,zZ,Rs.bind_ok,Rs.bind_ok,Rs.bind_ok,Rs.bind_ok,h];rfl
theorem op2{op:D→D→Rs D}{fa fb:FE}{τ:DS}{a b:D}{r:Rs D}(h1:fa τ=.ok a)(h2:fb τ=.ok b)(h:op a b=r):eOp op fa fb τ=r:=by
 rw[yg,h1,Rs.bind_ok,h2,Rs.bind_ok,h]
theorem zg{n:Nat}{τ:DS}{d:D}(h:τ[n]?=some (some (.val d))):zc n τ=.ok d:=by rw[zH,h];rfl
theorem wc{k:Nat}{idx:List Nat}{fi:FA}{set:FG}{ft:FT}{fe:FE}{τ:DS}{ds xs:List D}(h1:fi τ=.ok ds)(h2:vk set ft fe (vH k idx τ) ds=.ok xs)(h3:xs.length≤1000):yD k idx fi set ft fe τ=.ok xs:=by
 unfold yD
 rw[h1,Rs.bind_ok,h2]
 exact if_pos (by rw[sizeLine_v];lia)
theorem tru_ok{fe:FE}{τ:DS}{b:Bool}(h:fe τ=.ok (.bl b)):uI fe τ=.ok b:=by rw[ud,h];rfl
theorem xu{fe:FE}{τ:DS}{b:Bool}(h:fe τ=.ok (.bl b)):FD.tB fe τ=.ok b:=by rw[wy,h];rfl
theorem Y1{fa:FE}{τ:DS}{n:Nat}(h:fa τ=.ok (.int (n:Int)))(hn:n≤1000):vJ (za fa zh) τ=.ok ((List.range n).map fun (k:Nat)=>D.int (0+k)):=by
 rw[U8 (j:=(n:Int)) (by rw[zx,h,Rs.bind_ok,zZ,Rs.bind_ok]) (by lia) (by lia),toNat_natCast];rfl
theorem u6{g:List D→Rs D}{fa:FE}{τ:DS}{a d:D}(h1:fa τ=.ok a)(h:g [a]=.ok d):yb g (za fa zh) τ=.ok d:=by
 rw[vS,zx,h1,Rs.bind_ok,zZ,Rs.bind_ok,Rs.bind_ok,h]
theorem X5(a:Nat)(x:List Nat)(ha:a<128)(hx:x.length≤1000):ym [zy a,tx x]=.ok (.lst ((jw a x).map tlD)):=by
 have st:zQ 2 [zy a,tx x]=[some (.val (zy a)),some (.val (tx x))]:=rfl
 have cf:=wA (set:=gNm 0) (ft:=(uI (zp wF (za (zc 1) (za (eOp ixD (zc 2) (zc 0)) zh))))) (fe:=(xg (za (zp yA (za (zc 1) (za (zc 2) (za (zc 0) zh)))) (za (xt (za (zc 0) zh)) zh)))) (τ:=[none,some (.val (zy a)),some (.val (tx x))])
  (fun (k:Nat)=>D.int (0+k)) (fun (p:Nat)=>tlD (wB a x p,[p])) (fun p=>yF a (x.getD p 0)) (List.range x.length) fun p hp=>by
   have hp:=mem_range.mp hp
   refine⟨[some (.val (.int (p:Int))),some (.val (zy a)),some (.val (tx x))],by rw[Int.zero_add];rfl,?_,?_⟩
   ·exact tru_ok (vn (zg rfl) (op2 (zg rfl) (zg rfl) (jt x p hp hx)) (V8 a _ ha))
   ·exact YO (vm (zg rfl) (zg rfl) (zg rfl) (Tf a x p hx hp)) (Ua (zg rfl))
 have hlen:(((List.range x.length).filter fun p=>yF a (x.getD p 0)).map fun (p:Nat)=>tlD (wB a x p,[p])).length≤1000:=by
  rw[length_map]
  have:=length_filter_le (fun p=>yF a (x.getD p 0)) (List.range x.length)
  rw[length_range] at this;lia
 have ec:=wc (k:=1) (idx:=[0,1]) (fi:=vJ (za (yb yN (za (zc 1) zh)) zh)) (τ:=[some (.val (zy a)),some (.val (tx x))]) (Y1 (u6 (zg rfl) (uG x hx)) hx) cf hlen
 unfold ym vT
 rw[zW,st,zT]
 simp only[ec,Rs.bind_ok,Fl.of_ok,zJ]
 unfold jw
 rw[map_map]
 rfl
theorem GI(p:Nat)(ts:List Tl)(hs:ts.length≤1000)(hn:∀t∈ts,0<t.2.length):yG [.int (p:Int),.lst (ts.map tlD)]=.ok (.lst ((wM p ts).map tlD)):=by
 have st:zQ 2 [.int (p:Int),.lst (ts.map tlD)]=[some (.val (.int (p:Int))),some (.val (.lst (ts.map tlD)))]:=rfl
 have cf:=wA (set:=gNm 0) (ft:=(FD.tB (eOp gtD (eOp ixD (eOp ixD (zc 0) (eC (.int 1))) (eC (.int 0))) (zc 1)))) (fe:=(xg (za (eOp zM (eOp ixD (zc 0) (eC (.int 0))) (zp xl (za (zc 1) (za (eOp ixD (eOp ixD (zc 0) (eC (.int 1))) (eC (.int 0))) zh)))) (za (eOp ixD (zc 0) (eC (.int 1))) zh)))) (τ:=[none,some (.val (.int (p:Int)))])
  tlD (fun t=>tlD (t.1+vQ p (t.2.getD 0 0),t.2)) (fun t=>decide (p<t.2.getD 0 0)) ts fun t ht=>by
   refine⟨[some (.val (tlD t)),some (.val (.int (p:Int)))],rfl,?_,?_⟩
   ·have:=W9 t.2 (hn t ht)
    refine xu (op2 (op2 (op2 (zg rfl) rfl (Q2 t)) rfl this) (zg rfl) ?_)
    rw[Uv]
    congr 2
    exact decide_eq_decide.mpr (by lia)
   ·have:=W9 t.2 (hn t ht)
    exact YO (op2 (op2 (zg rfl) rfl (Vy t)) (vn (zg rfl) (op2 (op2 (zg rfl) rfl (Q2 t)) rfl this) (zf9 p _)) (yK)) (op2 (zg rfl) rfl (Q2 t))
 have hlen:((ts.filter fun t=>decide (p<t.2.getD 0 0)).map fun t=>tlD (t.1+vQ p (t.2.getD 0 0),t.2)).length≤1000:=by
  rw[length_map]
  have:=length_filter_le (fun t:Tl=>decide (p<t.2.getD 0 0)) ts
  lia
 have it:xf (zc 1) [some (.val (.int (p:Int))),some (.val (.lst (ts.map tlD)))]=.ok (ts.map tlD):=rfl
 have ec:=wc (k:=1) (idx:=[0]) (τ:=[some (.val (.int (p:Int))),some (.val (.lst (ts.map tlD)))]) it cf hlen
 unfold yG u7
 rw[zW,st,zT]
 simp only[ec,Rs.bind_ok,Fl.of_ok,zJ]
 unfold wM
 rw[map_map]
 rfl
noncomputable def ZL:FS:=(sIf (uI (zp wF (za (zc 0) (za (eOp ixD (zc 1) (zc 4)) zh)))) (zt (zI 5 (zp z6 (za (zp yG (za (zc 4) (za (zc 2) zh))) zh)))
  (sIf (FD.tB (eOp ww (zc 5) (eC .non))) (VM 3 (xg (za (eOp zM (zp yA (za (zc 0) (za (zc 1) (za (zc 4) zh)))) (eOp ixD (zc 5) (eC (.int 0)))) (za (eOp zM (xt (za (zc 4) zh)) (eOp ixD (zc 5) (eC (.int 1)))) zh)))) yc)) yc)
theorem Mc(p:Nat)(l:List Nat)(h:l.length≤1000):zM (.lst [.int (p:Int)]) (nts l)=.ok (nts (p::l)):=by
 show(if _ then Rs.ok (D.lst _) else Rs.no)=_
 rw[if_pos (by rw[sizeLine_v,length_map,length_singleton];lia)]
 rfl
theorem TQ(p:Nat)(ts:List Tl):∀t,xq (wM p ts) none=some t→∃u∈ts,t.2=u.2:=fun t h=>by
 rcases wT _ _ _ h with g|g
 ·simp only[wM,mem_map,mem_filter] at g
  obtain⟨u,⟨g1,_⟩,rfl⟩:=g
  exact⟨u,g1,rfl⟩
 ·cases g
theorem zg0(a:Nat)(x:List Nat)(ts acc:List Tl)(p:Nat)(s5:Option Sl)(ha:a<128)(hx:x.length≤1000)(hs:ts.length≤1000)(hn:∀t∈ts,0<t.2.length∧t.2.length≤1000)(hp:p<x.length)(hc:acc.length≤1000) :
  ∃s',ZL [some (.val (zy a)),some (.val (tx x)),some (.val (.lst (ts.map tlD))),some (.own (acc.map tlD)),some (.val (.int (p:Int))),s5]=.nx [some (.val (zy a)),some (.val (tx x)),some (.val (.lst (ts.map tlD))),some (.own ((acc++(uT a x ts p).toList).map tlD)),some (.val (.int (p:Int))),s']:=by
 have hm:=V8 a (x.getD p 0) ha
 have hlk:=GI p ts hs fun t ht=>(hn t ht).1
 have hfm:=zm5 (wM p ts)
 have how:=Tf a x p hx hp
 have hix:=jt x p hp hx
 have hsz:(acc.map tlD).length<sizeLine:=by rw[sizeLine_v,length_map];lia
 unfold ZL uT
 generalize wF=fa at hm ⊢
 generalize yG=fb at hlk ⊢
 generalize z6=fc at hfm ⊢
 generalize yA=fd at how ⊢
 by_cases h:yF a (x.getD p 0)=true
 ·rw[if_pos h]
  rw[h] at hm
  cases e:xq (wM p ts) none with
  |none=>
   rw[e] at hfm
   refine⟨some (.val .non),?_⟩
   simp only[zB,zF,yk,z7,jW,wy,ud,yg,zH,yv,zZ,zx,y3,getElem?_cons_zero,getElem?_cons_succ,set_cons_succ,set_cons_zero,zA,x6,Rs.bind_ok,Fl.of_ok,zV,wt,yh,wU,if_true,Bool.false_eq_true,if_false,hix,hm,hlk,hfm,vc,Wy,Option.map_none,Option.toList_none,append_nil]
  |some t=>
   rw[e] at hfm
   obtain⟨u,u1,u2⟩:=TQ p ts t e
   have hct:=Mc p t.2 (by rw[u2];exact(hn u u1).2)
   refine⟨some (.val (tlD t)),?_⟩
   have tp:xg (za (eOp zM (zp fd (za (zc 0) (za (zc 1) (za (zc 4) zh)))) (eOp ixD (zc 5) (eC (.int 0)))) (za (eOp zM (xt (za (zc 4) zh)) (eOp ixD (zc 5) (eC (.int 1)))) zh)) [some (.val (zy a)),some (.val (tx x)),some (.val (.lst (ts.map tlD))),some (.own (acc.map tlD)),some (.val (.int (p:Int))),some (.val (tlD t))]=.ok (tlD (wB a x p+t.1,p::t.2)):=
    YO (op2 (vm (zg rfl) (zg rfl) (zg rfl) how) (op2 (zg rfl) rfl (Vy t)) yK) (op2 (Ua (zg rfl)) (op2 (zg rfl) rfl (Q2 t)) hct)
   simp only[zB,zF,yk,z7,jW,wy,ud,yg,zH,yv,zZ,zx,y3,getElem?_cons_zero,getElem?_cons_succ,set_cons_succ,set_cons_zero,zA,x6,Rs.bind_ok,Fl.of_ok,zV,wt,yh,wU,if_true,hix,hm,hlk,hfm,vc,Ul,tp,hsz,Option.map_some,Option.toList_some,map_append,map_cons,map_nil]
 ·have h':yF a (x.getD p 0)=false:=by simpa using h
  rw[h'] at hm
  rw[if_neg h]
  refine⟨s5,?_⟩
  simp only[zB,zF,yk,z7,ud,yg,zH,zZ,zx,y3,getElem?_cons_zero,getElem?_cons_succ,set_cons_succ,set_cons_zero,zA,Rs.bind_ok,Fl.of_ok,wt,wU,Bool.false_eq_true,if_false,hix,hm,Option.toList_none,append_nil]
theorem Xz(f:Nat→Option Tl)(k:Nat):(List.range (k+1)).filterMap f=(List.range k).filterMap f++(f k).toList:=by
 rw[List.range_succ,List.filterMap_append]
 simp only[filterMap_cons,List.filterMap_nil]
 cases h:f k <;> rfl
theorem Wp(f:Nat→Option Tl)(k:Nat):((List.range k).filterMap f).length≤k:=by
 have:=List.length_filterMap_le f (List.range k)
 rwa [length_range] at this
theorem zg1(a:Nat)(x:List Nat)(ts:List Tl)(ha:a<128)(hx:x.length≤1000)(hs:ts.length≤1000)(hn:∀t∈ts,0<t.2.length∧t.2.length≤1000) :
  ∃s4 s5,ye (gNm 4) ZL ((List.range x.length).map fun (k:Nat)=>D.int (0+k)) [some (.val (zy a)),some (.val (tx x)),some (.val (.lst (ts.map tlD))),some (.own []),none,none]=.nx [some (.val (zy a)),some (.val (tx x)),some (.val (.lst (ts.map tlD))),some (.own ((Za a x ts).map tlD)),s4,s5]:=by
 obtain⟨τ',h1,s4,s5,h2⟩:=ZK (set:=gNm 4) (body:=ZL) (fun (k:Nat)=>D.int (0+k)) (fun k τ=>∃s4 s5,τ=[some (.val (zy a)),some (.val (tx x)),some (.val (.lst (ts.map tlD))),some (.own (((List.range k).filterMap (uT a x ts)).map tlD)),s4,s5]) x.length
  [some (.val (zy a)),some (.val (tx x)),some (.val (.lst (ts.map tlD))),some (.own []),none,none] ⟨_,_,rfl⟩ fun k τ hk z_=>by
   obtain⟨s4,s5,e⟩:=z_
   subst e
   obtain⟨s',g⟩:=zg0 a x ts ((List.range k).filterMap (uT a x ts)) k s5 ha hx hs hn hk (by have:=Wp (uT a x ts) k;lia)
   have e0:(0:Int)+(k:Int)=(k:Int):=by lia
   rw[Xz]
   exact⟨_,_,by rw[e0];exact vX,g,_,_,rfl⟩
 subst h2
 exact⟨s4,s5,h1⟩
theorem zt6(bd:FS)(ri:FA)(A B C:D)(n:Nat)(P:List D)(s4 s5:Option Sl)(r1:ri [some (.val A),some (.val B),some (.val C),some (.own []),none,none]=.ok ((List.range n).map fun (k:Nat)=>D.int (0+k)))
  (h1:ye (gNm 4) bd ((List.range n).map fun (k:Nat)=>D.int (0+k)) [some (.val A),some (.val B),some (.val C),some (.own []),none,none]=.nx [some (.val A),some (.val B),some (.val C),some (.own P),s4,s5]) :
  yC 6 (zt (uz 3 (fun τ=>(zh τ).bind fun ds=>if ds.length≤sizeLine then .ok ds else .no)) (zt (wk ri (gNm 4) bd) (uM 3))) [A,B,C]=.ok (.lst P):=by
 have st:zQ 6 [A,B,C]=[some (.val A),some (.val B),some (.val C),none,none,none]:=rfl
 rw[zW,st]
 simp only[zB,vw,vx,vy,x9,zZ,getElem?_cons_zero,getElem?_cons_succ,set_cons_succ,set_cons_zero,x6,Rs.bind_ok,Fl.of_ok,zV,zJ,if_true,length_nil,zero_le,r1,h1]
theorem TM:vC=(zt (uz 3 (fun τ=>(zh τ).bind fun ds=>if ds.length≤sizeLine then .ok ds else .no)) (zt (wk (vJ (za (yb yN (za (zc 1) zh)) zh)) (gNm 4) ZL) (uM 3))):=by unfold vC ZL;rfl
theorem GG(a:Nat)(x:List Nat)(ts:List Tl)(ha:a<128)(hx:x.length≤1000)(hs:ts.length≤1000)(hn:∀t∈ts,0<t.2.length∧t.2.length≤1000):yY [zy a,tx x,.lst (ts.map tlD)]=.ok (.lst ((Za a x ts).map tlD)):=by
 obtain⟨s4,s5,h1⟩:=zg1 a x ts ha hx hs hn
 unfold yY
 rw[TM]
 exact zt6 _ _ _ _ _ x.length _ _ _ (Y1 (u6 (zg rfl) (uG x hx)) hx) h1
theorem Wd(x:List Nat):∀q:List Nat,(z9 q x).length≤x.length
 |[]=>by simp[z9]
 |[a]=>by
  simp only[z9,jw,length_map]
  have:=length_filter_le (fun p=>yF a (x.getD p 0)) (List.range x.length)
  rwa [length_range] at this
 |a::b::q=>by simp only[z9,Za];exact Wp _ _
theorem Vz(q x:List Nat)(hq:q≠[])(hl:q.length≤1000):∀t∈z9 q x,0<t.2.length∧t.2.length≤1000:=fun t ht=>by
 have:=(vK x q t ht).1.len
 have:0<q.length:=length_pos_iff.mpr hq
 lia
noncomputable def XQ:FS:=(zI 2 (zp yY (za (eOp ixD (zc 0) (zc 3)) (za (zc 1) (za (zc 2) zh)))))
theorem zk3(q x:List Nat)(m:Nat)(hm:q.length=m+1)(hq:q.length≤1000)(hx:x.length≤1000)(ha:∀c∈q,c<128) :
  ∃s,ye (gNm 3) XQ (Z1 ((m:Int)-1) m) [some (.val (tx q)),some (.val (tx x)),some (.val (.lst ((z9 (q.drop m) x).map tlD))),none]=.nx [some (.val (tx q)),some (.val (tx x)),some (.val (.lst ((z9 q x).map tlD))),s]:=by
 obtain⟨τ',h1,s,h2⟩:=ZK (set:=gNm 3) (body:=XQ) (fun (k:Nat)=>D.int ((m:Int)-1-k)) (fun k τ=>∃s,τ=[some (.val (tx q)),some (.val (tx x)),some (.val (.lst ((z9 (q.drop (m-k)) x).map tlD))),s]) m
  [some (.val (tx q)),some (.val (tx x)),some (.val (.lst ((z9 (q.drop m) x).map tlD))),none] ⟨_,rfl⟩ fun k τ hk z_=>by
   obtain⟨s,e⟩:=z_
   subst e
   obtain⟨j,hj⟩:∃j,m=j+1+k:=⟨m-1-k,by lia⟩
   have e0:(m:Int)-1-(k:Int)=(j:Int):=by lia
   have d1:q.drop (m-k)=q.drop (j+1):=by congr 1;lia
   have d2:q.drop (m-(k+1))=q.drop j:=by congr 1;lia
   have hjq:j<q.length:=by lia
   have hne:q.drop (j+1)≠[]:=fun h=>by
    have:=congrArg List.length h
    rw[length_drop] at this;simp at this;lia
   have hlg:=GG (q.getD j 0) x (z9 (q.drop (j+1)) x) (ha _ (mem_of_getElem? (uX q j hjq))) hx (by have:=Wd x (q.drop (j+1));lia) (Vz _ x hne (by rw[length_drop];lia))
   have ht:Za (q.getD j 0) x (z9 (q.drop (j+1)) x)=z9 (q.drop j) x:=by
    have e1:q.drop j=q.getD j 0::q.drop (j+1):=by
     rw[List.drop_eq_getElem_cons hjq,getD_eq_getElem?_getD,getElem?_eq_getElem hjq];rfl
    rw[e1]
    cases e2:q.drop (j+1) with
    |nil=>exact absurd e2 hne
    |cons b r=>rfl
   rw[ht] at hlg
   rw[d1,d2]
   refine⟨[some (.val (tx q)),some (.val (tx x)),some (.val (.lst ((z9 (q.drop (j+1)) x).map tlD))),some (.val (.int (j:Int)))],[some (.val (tx q)),some (.val (tx x)),some (.val (.lst ((z9 (q.drop j) x).map tlD))),some (.val (.int (j:Int)))],by rw[e0];rfl,?_,_,rfl⟩
   unfold XQ
   rw[zF,vm (op2 (zg rfl) (zg rfl) (jt q j hjq hq)) (zg rfl) (zg rfl) hlg,Fl.of_ok]
   rfl
 subst h2
 refine⟨s,?_⟩
 rw[Nat.sub_self,List.drop_zero] at h1
 exact h1
noncomputable def ldE:FE:=(fun τ=>((yD 1 [] (xf (zc 2)) (gNm 0) (fun _=>.ok true) (xg (za (eOp zM (eOp ixD (zc 0) (eC (.int 0))) (zp yQ (za (eOp ixD (eOp ixD (zc 0) (eC (.int 1))) (eC (.int 0))) zh))) (za (eOp ixD (zc 0) (eC (.int 1))) zh)))) τ).bind fun ds=>.ok (.lst ds))
theorem ld_ok(A B:D)(ts:List Tl)(s:Option Sl)(hs:ts.length≤1000)(hn:∀t∈ts,0<t.2.length):ldE [some (.val A),some (.val B),some (.val (.lst (ts.map tlD))),s]=.ok (.lst ((ts.map Z4).map tlD)):=by
 have cf:=wH (set:=gNm 0) (fe:=(xg (za (eOp zM (eOp ixD (zc 0) (eC (.int 0))) (zp yQ (za (eOp ixD (eOp ixD (zc 0) (eC (.int 1))) (eC (.int 0))) zh))) (za (eOp ixD (zc 0) (eC (.int 1))) zh)))) (τ:=[none]) tlD tlD Z4 ts fun t ht=>by
   refine⟨[some (.val (tlD t))],rfl,?_⟩
   have:=W9 t.2 (hn t ht)
   exact YO (op2 (op2 (zg rfl) rfl (Vy t)) (zm7 (op2 (op2 (zg rfl) rfl (Q2 t)) rfl this) (zg3 _)) yK) (op2 (zg rfl) rfl (Q2 t))
 have it:xf (zc 2) [some (.val A),some (.val B),some (.val (.lst (ts.map tlD))),s]=.ok (ts.map tlD):=rfl
 have ec:=wc (k:=1) (idx:=[]) (τ:=[some (.val A),some (.val B),some (.val (.lst (ts.map tlD))),s]) it cf (by simpa using hs)
 unfold ldE
 simp only[ec,Rs.bind_ok]
theorem LP:JI=(zt (sIf (FD.tB (eOp eqD (yb yN (za (zc 0) zh)) (eC (.int 0)))) (yd (xg (za (eC (.int 0)) (za (xt zh) zh)))) yc)
  (zt (zI 2 (zp ym (za (eOp ixD (zc 0) (wn (eC (.int 1)))) (za (zc 1) zh))))
  (zt (wk (GU (za (eOp xr (yb yN (za (zc 0) zh)) (eC (.int 2))) (za (wn (eC (.int 1))) (za (wn (eC (.int 1))) zh)))) (gNm 3) XQ)
  (yd (zp z6 (za ldE zh)))))):=by unfold JI XQ ldE;rfl
theorem zr1(q:List Nat)(m:Nat)(hm:q.length=m+1)(hq:q.length≤1000):ixD (tx q) (.int (-1))=.ok (zy (q.getD m 0)):=by
 refine Ze ?_ (by rw[zr6,sizeLine_v];lia)
 have e:ixN q.length (-1)=some m:=by
  unfold ixN
  rw[if_neg (by lia),if_pos (by lia)]
  congr 1;lia
 unfold atI
 show(ixN q.length (-1)).bind _=_
 rw[e]
 exact uX q m (by lia)
theorem bs_r3(q x:List Nat)(T:D)(m:Nat)(hm:q.length=m+1)(hq:q.length≤1000):GU (za (eOp xr (yb yN (za (zc 0) zh)) (eC (.int 2))) (za (wn (eC (.int 1))) (za (wn (eC (.int 1))) zh))) [some (.val (tx q)),some (.val (tx x)),some (.val T),none]=.ok (Z1 ((m:Int)-1) m):=by
 have a1:eOp xr (yb yN (za (zc 0) zh)) (eC (.int 2)) [some (.val (tx q)),some (.val (tx x)),some (.val T),none]=.ok (.int ((m:Int)-1)):=by
  refine op2 (u6 (zg rfl) (uG q hq)) rfl ?_
  rw[xQ];congr 2;lia
 have a2:∀τ,wn (eC (.int 1)) τ=.ok (.int (-1)):=fun τ=>rfl
 have r3:=zo1 (fs:=za (eOp xr (yb yN (za (zc 0) zh)) (eC (.int 2))) (za (wn (eC (.int 1))) (za (wn (eC (.int 1))) zh))) (τ:=[some (.val (tx q)),some (.val (tx x)),some (.val T),none]) (i:=(m:Int)-1) (j:=-1)
  (by rw[zx,a1,Rs.bind_ok,zx,a2,Rs.bind_ok,zx,a2,Rs.bind_ok,zZ,Rs.bind_ok,Rs.bind_ok,Rs.bind_ok]) (by lia) (by lia) (by lia) (by lia)
 rw[r3]
 congr 2
 lia
theorem zt8(g1:FT)(g2:FS)(e1 e2:FE)(r3:FA)(bd:FS)(A B T T' R:D)(L:List D)(s:Option Sl)(h0:g1 [some (.val A),some (.val B),none,none]=.ok false)(h1:e1 [some (.val A),some (.val B),none,none]=.ok T)(h2:r3 [some (.val A),some (.val B),some (.val T),none]=.ok L)(h3:ye (gNm 3) bd L [some (.val A),some (.val B),some (.val T),none]=.nx [some (.val A),some (.val B),some (.val T'),s])(h4:e2 [some (.val A),some (.val B),some (.val T'),s]=.ok R) :
  yC 4 (zt (sIf g1 g2 yc) (zt (zI 2 e1) (zt (wk r3 (gNm 3) bd) (yd e2)))) [A,B]=.ok R:=by
 have st:zQ 4 [A,B]=[some (.val A),some (.val B),none,none]:=rfl
 rw[zW,st]
 simp only[zB,zF,yk,zT,z7,x9,set_cons_succ,set_cons_zero,Fl.of_ok,zV,zJ,Bool.false_eq_true,if_false,h0,h1,h2,h3,h4]
theorem zk5(q x:List Nat)(hne:q≠[])(hq:q.length≤1000)(hx:x.length≤1000)(ha:∀c∈q,c<128):vW [tx q,tx x]=.ok (vc (jx q x)):=by
 have hpos:0<q.length:=length_pos_iff.mpr hne
 obtain⟨m,hm⟩:∃m,q.length=m+1:=⟨q.length-1,by lia⟩
 obtain⟨s,hl⟩:=zk3 q x m hm hq hx ha
 have hmem:q.getD m 0∈q:=mem_of_getElem? (uX q m (by lia))
 have d:z9 (q.drop m) x=jw (q.getD m 0) x:=by
  have e1:q.drop m=[q.getD m 0]:=by
   rw[List.drop_eq_getElem_cons (by lia),getD_eq_getElem?_getD,getElem?_eq_getElem (by lia:m<q.length),List.drop_eq_nil_of_le (by lia)];rfl
  rw[e1];rfl
 rw[d] at hl
 have h0:FD.tB (eOp eqD (yb yN (za (zc 0) zh)) (eC (.int 0))) [some (.val (tx q)),some (.val (tx x)),none,none]=.ok false:=by
  refine xu (op2 (u6 (zg rfl) (uG q hq)) rfl ?_)
  rw[vj]
  congr 2
  simp;exact hne
 have h1:zp ym (za (eOp ixD (zc 0) (wn (eC (.int 1)))) (za (zc 1) zh)) [some (.val (tx q)),some (.val (tx x)),none,none]=.ok (.lst ((jw (q.getD m 0) x).map tlD)):=
  vn (op2 (zg rfl) rfl (zr1 q m hm hq)) (zg rfl) (X5 _ x (ha _ hmem) hx)
 have h4:zp z6 (za ldE zh) [some (.val (tx q)),some (.val (tx x)),some (.val (.lst ((z9 q x).map tlD))),s]=.ok (vc (jx q x)):=
  zm7 (ld_ok _ _ _ _ (by have:=Wd x q;lia) fun t ht=>(Vz q x hne hq t ht).1) (zm5 _)
 unfold vW
 rw[LP]
 exact zt8 _ _ _ _ _ _ _ _ _ _ _ _ _ h0 h1 (bs_r3 q x _ m hm hq) hl h4
noncomputable def ut:List Nat→List Nat→Bool
 |[],[]=>false
 |[],_::_=>true
 |_::_,[]=>false
 |x::xs,y::ys=>if x=y then ut xs ys else decide (x<y)
theorem Wr:∀l:List Nat,ut l l=false:=by
 intro l_
 induction l_ with
 |nil=>
  exact rfl
 |cons x xs ih_=>
  simp[ut,ih_]
theorem Wt(l m:List Nat)(hl:0<l.length)(hm:0<m.length)(h:m.getD 0 0<l.getD 0 0):ut l m=false:=by
 cases l with
 |nil=>simp at hl
 |cons x xs=>
  cases m with
  |nil=>simp at hm
  |cons y ys=>
   simp only[getD_cons_zero] at h
   simp only[ut]
   rw[if_neg (by lia)]
   exact decide_eq_false (by lia)
theorem uY:∀(ts:List Tl) (c t:Tl),xq ts (some c)=some t→(t=c∧∀u∈ts,u.1≤c.1)∨(∃pre post,ts=pre++t::post∧c.1<t.1∧(∀u∈pre,u.1<t.1)∧∀u∈post,u.1≤t.1):=by
 intro l_
 induction l_ with
 |nil=>
  rintro c t h
  have:some c=some t:=h
  cases this
  exact .inl ⟨rfl,fun u hu=>nomatch hu⟩
 |cons u r ih_=>
  rintro c t h
  have h:xq r (some (if c.1<u.1 then u else c))=some t:=h
  by_cases g:c.1<u.1
  ·rw[if_pos g] at h
   rcases ih_ u t h with ⟨e,h2⟩|⟨pre,post,e,h1,h2,h3⟩
   ·subst e
    exact .inr ⟨[],r,rfl,g,(fun v hv=>nomatch hv),h2⟩
   ·refine .inr ⟨u::pre,post,by rw[e];rfl,by lia,fun v hv=>?_,h3⟩
    rcases mem_cons.mp hv with e|e
    ·subst e;exact h1
    ·exact h2 v e
  ·rw[if_neg g] at h
   rcases ih_ c t h with ⟨e,h2⟩|⟨pre,post,e,h1,h2,h3⟩
   ·refine .inl ⟨e,fun v hv=>?_⟩
    rcases mem_cons.mp hv with e|e
    ·subst e;lia
    ·exact h2 v e
   ·refine .inr ⟨u::pre,post,by rw[e];rfl,h1,fun v hv=>?_,h3⟩
    rcases mem_cons.mp hv with e|e
    ·subst e;lia
    ·exact h2 v e
theorem Ya(ts:List Tl)(t:Tl)(h:xq ts none=some t):∃pre post,ts=pre++t::post∧(∀u∈pre,u.1<t.1)∧∀u∈post,u.1≤t.1:=by
 cases ts with
 |nil=>cases h
 |cons c r=>
  rcases uY r c t h with ⟨e,h2⟩|⟨pre,post,e,h1,h2,h3⟩
  ·subst e
   exact⟨[],r,rfl,(fun v hv=>nomatch hv),h2⟩
  ·refine⟨c::pre,post,by rw[e];rfl,fun v hv=>?_,h3⟩
   rcases mem_cons.mp hv with e|e
   ·subst e;exact h1
   ·exact h2 v e
noncomputable abbrev hd0(t:Tl):Nat:=t.2.getD 0 0
noncomputable def Srt(ts:List Tl):Prop:=ts.Pairwise fun a b=>hd0 a<hd0 b
theorem VS(ts:List Tl)(w:Tl)(hs:Srt ts)(h:xq ts none=some w):∀u∈ts,u.1≤w.1∧(u.1=w.1→u=w∨hd0 w<hd0 u):=fun u hu=>by
 obtain⟨pre,post,e,h1,h2⟩:=Ya ts w h
 rw[e] at hu
 rcases mem_append.mp hu with g|g
 ·have:=h1 u g
  exact⟨by lia,fun z=>by lia⟩
 ·rcases mem_cons.mp g with g|g
  ·subst g;exact⟨Int.le_refl _,fun _=>.inl rfl⟩
  ·refine⟨h2 u g,fun _=>.inr ?_⟩
   unfold Srt at hs
   rw[e] at hs
   have:=(List.pairwise_append.mp hs).2.1
   exact(pairwise_cons.mp this).1 u g
theorem MA(p:Nat)(ts:List Tl)(h:Srt ts):Srt (wM p ts):=by
 unfold Srt wM
 rw[pairwise_map]
 exact List.Pairwise.filter _ h
theorem MB(ts:List Tl)(h:Srt ts):Srt (ts.map Z4):=by
 unfold Srt
 rw[pairwise_map]
 exact h
theorem Wf(x:List Nat):∀q:List Nat,Srt (z9 q x)
 |[]=>List.Pairwise.nil
 |[a]=>by
  unfold Srt z9 jw
  rw[pairwise_map]
  exact List.Pairwise.filter _ pairwise_lt_range
 |a::b::q=>by
  unfold Srt z9 Za
  rw[List.pairwise_filterMap]
  refine List.Pairwise.imp (fun {p r} hpr t ht u hu=>?_) pairwise_lt_range
  have key:∀(p:Nat) (t:Tl),uT a x (z9 (b::q) x) p=some t→hd0 t=p:=fun p t ht=>by
   unfold uT at ht
   split at ht
   ·cases e:xq (wM p (z9 (b::q) x)) none with
    |none=>rw[e] at ht;cases ht
    |some w=>rw[e] at ht;cases ht;rfl
   ·cases ht
  rw[key p t ht,key r u hu]
  exact hpr
theorem Wc(x:List Nat):∀(q:List Nat) (t:Tl),t∈z9 q x→∀l,Lay q x l→l.getD 0 0=hd0 t→vg x q l≤t.1∧(vg x q l=t.1→ut l t.2=false)
 |[],t,h,_,_,_=>by simp[z9] at h
 |[a],t,h,l,hl,he=>by
  simp only[z9,jw,mem_map,mem_filter,mem_range] at h
  obtain⟨p,⟨h1,h2⟩,rfl⟩:=h
  have hlen:=hl.len
  cases l with
  |nil=>simp at hlen
  |cons r l=>
   cases l with
   |cons _ _=>simp at hlen
   |nil=>
    simp only[hd0,getD_cons_zero] at he
    subst he
    exact⟨by simp[vg,sm],fun _=>Wr _⟩
 |a::b::q,t,h,l,hl,he=>by
  simp only[z9,Za,mem_filterMap,mem_range] at h
  obtain⟨p,h1,h2⟩:=h
  unfold uT at h2
  split at h2
  ·cases e:xq (wM p (z9 (b::q) x)) none with
   |none=>rw[e] at h2;cases h2
   |some w=>
    rw[e] at h2
    cases h2
    cases l with
    |nil=>have:=hl.len;simp at this
    |cons p' m=>
     simp only[hd0,getD_cons_zero] at he
     subst he
     obtain⟨k0,k1,k2,k3⟩:=hl.tail
     have hml:0<m.length:=by rw[k0.len];simp
     obtain⟨u,u1,u2⟩:=jb x (b::q) m (by simp) k0
     obtain⟨o1,o2⟩:=Wc x (b::q) u u1 m k0 u2.symm
     have hin:(u.1+vQ p' (u.2.getD 0 0),u.2)∈wM p' (z9 (b::q) x):=by
      simp only[wM,mem_map,mem_filter,decide_eq_true_eq]
      exact⟨u,⟨u1,by rw[u2];exact k3 hml⟩,rfl⟩
     obtain⟨c1,c2⟩:=VS _ w (MA p' _ (Wf x (b::q))) e _ hin
     have tl:vg x (a::b::q) (p'::m)=wB a x p'+vQ p' (m.getD 0 0)+vg x (b::q) m:=by
      cases m with
      |nil=>simp at hml
      |cons r m=>rw[We];rfl
     rw[tl]
     simp only at c1 c2
     rw[u2] at c1 c2
     refine⟨by show _≤wB a x p'+w.1;lia,fun z=>?_⟩
     have z:wB a x p'+vQ p' (m.getD 0 0)+vg x (b::q) m=wB a x p'+w.1:=z
     have z1:vg x (b::q) m=u.1:=by lia
     have z2:u.1+vQ p' (m.getD 0 0)=w.1:=by lia
     show ut (p'::m) (p'::w.2)=false
     simp only[ut,if_true]
     rcases c2 z2 with g|g
     ·rw[← g];exact o2 z1
     ·have hwl:0<w.2.length:=by
       rcases wT _ _ _ e with y|y
       ·simp only[wM,mem_map,mem_filter] at y
        obtain⟨v,⟨y1,_⟩,rfl⟩:=y
        have:=(vK x (b::q) v y1).1.len
        simp at this ⊢;lia
       ·cases y
      refine Wt m w.2 hml hwl ?_
      have g:hd0 w<u.2.getD 0 0:=g
      rw[u2] at g
      exact g
  ·cases h2
theorem LO(q x:List Nat)(hq:q≠[])(v:Int)(l:List Nat)(h:jx q x=some (v,l))(m:List Nat)(hm:Lay q x m):pts q x m q.length≤v∧(pts q x m q.length=v→ut m l=false):=by
 have hs:=(jK q x hq v l h).1
 unfold jx at h
 obtain⟨u,u1,u2⟩:=jb x q m hq hm
 obtain⟨o1,o2⟩:=Wc x q u u1 m hm u2.symm
 obtain⟨c1,c2⟩:=VS _ _ (MB _ (Wf x q)) h (Z4 u) (List.mem_map_of_mem u1)
 have hpos:0<q.length:=length_pos_iff.mpr hq
 have hml:0<m.length:=by rw[hm.len];exact hpos
 have hll:0<l.length:=by rw[hs.len];exact hpos
 have tp:pts q x m q.length=vg x q m+Xn (m.getD 0 0):=by
  cases q with
  |nil=>simp at hpos
  |cons a q=>
   have e:=hm.len
   cases m with
   |nil=>simp at hml
   |cons p m=>
    simp only[length_cons] at e ⊢
    have:q.length=m.length:=by lia
    rw[this,← VA];rfl
 simp only[Z4] at c1 c2
 rw[u2] at c1 c2
 rw[tp]
 refine⟨by lia,fun z=>?_⟩
 have z1:vg x q m=u.1:=by lia
 rcases c2 (by lia) with g|g
 ·have:u.2=l:=congrArg Prod.snd g
  rw[← this];exact o2 z1
 ·refine Wt m l hml hll ?_
  have g:l.getD 0 0<u.2.getD 0 0:=g
  rw[u2] at g
  exact g
theorem Mf(q x:List Nat)(hq:q≠[])(h:jS q x=false):jx q x=none:=by
 cases e:jx q x with
 |none=>rfl
 |some t=>
  have:=Zc x q t.2 (jK q x hq t.1 t.2 e).1
  rw[h] at this;cases this
noncomputable def vd(q x:List Nat):Option Tl:=if q=[] then some (0,[]) else jx q x
structure zw0(q x:List Nat)(v:Int)(l:List Nat):Prop where
 lay:Lay q x l
 pnt:v=pts q x l q.length
 opt:∀m,Lay q x m→pts q x m q.length≤v∧(pts q x m q.length=v→ut m l=false)
theorem Qx(x l:List Nat)(h:Lay [] x l):l=[]:=List.eq_nil_of_length_eq_zero h.len
theorem Zd(x:List Nat):Lay [] x []:=⟨rfl,fun j hj=>by simp at hj,fun j hj=>by simp at hj,fun j hj=>by simp at hj⟩
theorem JF(q x l:List Nat)(h:Lay q x l):∃v l',vd q x=some (v,l')∧zw0 q x v l':=by
 unfold vd
 by_cases hq:q=[]
 ·subst hq
  rw[if_pos rfl]
  refine⟨0,[],rfl,Zd x,rfl,fun m hm=>?_⟩
  rw[Qx x m hm]
  exact⟨Int.le_refl _,fun _=>rfl⟩
 ·rw[if_neg hq]
  obtain⟨v,l',e,h1,h2⟩:=Mg q x l hq h
  exact⟨v,l',e,h1,h2,LO q x hq v l' e⟩
theorem JG(q x:List Nat)(h:jS q x=false):vd q x=none:=by
 unfold vd
 by_cases hq:q=[]
 ·subst hq;cases x <;> simp[jS] at h
 ·rw[if_neg hq];exact Mf q x hq h
end Law
set_option Elab.async false
set_option linter.all false
set_option maxHeartbeats 1000000
namespace FD
open PySem PySem.Spec PyProof.Rows L2
theorem tn_ok{g:FT}{τ:DS}{b:Bool}(h:g τ=.ok b):ZZ g τ=.ok (!b):=by rw[JV,h];rfl
theorem sl_ok{fe:FE}{fl fh:FO}{τ:DS}{d r:D}{l u:Option Int}(h1:fe τ=.ok d)(h2:fl τ=.ok l)(h3:fh τ=.ok u)(h:slD d l u=.ok r):eSl fe fl fh τ=.ok r:=by
 rw[JA,h1,Rs.bind_ok,h2,Rs.bind_ok,h3,Rs.bind_ok,h]
theorem JK{fa fb:FE}{τ:DS}{d:D}(h1:fa τ=.ok (.bl true))(h2:fb τ=.ok d):XJ fa fb τ=.ok d:=by
 rw[YH,h1,Rs.bind_ok,wU,Rs.bind_ok,if_pos rfl,h2]
theorem or_l{fa fb:FE}{τ:DS}(h1:fa τ=.ok (.bl true)):eOr fa fb τ=.ok (.bl true):=by
 rw[Vo,h1,Rs.bind_ok,wU,Rs.bind_ok,if_pos rfl]
theorem or_r{fa fb:FE}{τ:DS}{d:D}(h1:fa τ=.ok (.bl false))(h2:fb τ=.ok d):eOr fa fb τ=.ok d:=by
 rw[Vo,h1,Rs.bind_ok,wU,Rs.bind_ok,if_neg (by simp),h2]
theorem zl9{f g:FT}{τ:DS}(h1:f τ=.ok true):v4 f g τ=.ok true:=by rw[ue,h1,Rs.bind_ok,if_pos rfl]
theorem VZ{f g:FT}{τ:DS}{b:Bool}(h1:f τ=.ok false)(h2:g τ=.ok b):v4 f g τ=.ok b:=by rw[ue,h1,Rs.bind_ok,if_neg (by simp),h2]
theorem ne_bl(a b:Bool):neD (.bl a) (.bl b)=.ok (.bl (!(a==b))):=by
 cases a <;> cases b <;> rfl
end FD
namespace Law
open PySem PySem.Spec PyProof.Rows L2 FD
end Law
set_option Elab.async false
set_option linter.all false
set_option maxHeartbeats 1000000
namespace FD
open PySem PySem.Spec PyProof.Rows L2
theorem LD{k:Nat}{idx:List Nat}{fi:FA}{set:FG}{ft:FT}{fe:FE}{τ:DS}{ds xs:List D}(h1:fi τ=.ok ds)(h2:vk set ft fe (vH k idx τ) ds=.ok xs)(h3:xs.length≤1000000):yD k idx fi set ft fe τ=.ok xs:=by
 unfold yD
 rw[h1,Rs.bind_ok,h2]
 exact if_pos (by rw[Law.sizeLine_v];lia)
theorem zo2{fa fb:FE}{τ:DS}{i n:Nat}(h1:fa τ=.ok (.int (i:Int)))(h2:fb τ=.ok (.int (n:Int)))(hi:i≤100000)(hn:n≤100000):Lb (za fa (za fb zh)) τ=.ok ((List.range (n-i)).map fun (k:Nat)=>D.int ((i:Int)+k)):=by
 unfold Lb
 rw[zx,h1,Rs.bind_ok,zx,h2,Rs.bind_ok,zZ,Rs.bind_ok,Rs.bind_ok,Rs.bind_ok]
 simp only[X6]
 rw[if_pos ⟨⟨by lia,by lia⟩,by lia,by lia⟩]
 unfold uN
 have:((n:Int)-(i:Int)).toNat=n-i:=by lia
 rw[this]
theorem addL{a b:List D}(h:a.length+b.length≤1000000):zM (.lst a) (.lst b)=.ok (.lst (a++b)):=by
 show(if _ then Rs.ok (D.lst _) else Rs.no)=_
 exact if_pos (by rw[Law.sizeLine_v];lia)
theorem Gz{τ:DS}:xt zh τ=.ok (.lst []):=by
 rw[Zn,zZ,Rs.bind_ok];exact if_pos (zero_le _)
end FD
namespace Law
open PySem PySem.Spec PyProof.Rows L2 FD
theorem Gx:∀i,i<26→Builtin.Str.occurrences ("abcdefghijklmnopqrstuvwxyz" : Str) ⟨#[i+97]⟩ 0 ("abcdefghijklmnopqrstuvwxyz" : Str).length 1=[i]:=by decide +kernel
theorem Lg:∀i,i<26→("ABCDEFGHIJKLMNOPQRSTUVWXYZ" : Str).cps.toList[i]?=some (i+65):=by decide +kernel
theorem GH(a c:Nat):y9 [zy a,zy c]=.ok (.bl (yF a c)):=by
 have st:zQ 3 [zy a,zy c]=[some (.val (zy a)),some (.val (zy c)),none]:=rfl
 unfold y9 Zr
 rw[zW,st,zB,zF,yv,Fl.of_ok,zV,zT]
 simp only[set_cons_succ,set_cons_zero]
 have h0:eOp eqD (zc 0) (zc 1) [some (.val (zy a)),some (.val (zy c)),some (.val (.str "abcdefghijklmnopqrstuvwxyz"))]=.ok (.bl (a==c)):=op2 (zg rfl) (zg rfl) (by simp only[zy];rw[WC,Y8])
 have h1:eOp inD (zc 0) (zc 2) [some (.val (zy a)),some (.val (zy c)),some (.val (.str "abcdefghijklmnopqrstuvwxyz"))]=.ok (.bl (decide (97≤a∧a≤122))):=op2 (zg rfl) (zg rfl) (by simp only[zy];rw[Zi,x8,v5])
 by_cases e:a=c
 ·have e':(a==c)=true:=by simpa using e
  rw[e'] at h0
  rw[or_l h0]
  simp[yF,e]
 ·have e':(a==c)=false:=by simpa using e
  rw[e'] at h0
  by_cases s:97≤a∧a≤122
  ·rw[decide_eq_true s] at h1
   obtain⟨i,hi,rfl⟩:∃i,i<26∧a=i+97:=⟨a-97,by lia,by lia⟩
   have hidx:eMt "str" Jv (zc 2) (za (zc 0) zh) [some (.val (zy (i+97))),some (.val (zy c)),some (.val (.str "abcdefghijklmnopqrstuvwxyz"))]=.ok (.int (i:Nat)):=by
    have hty:ZM "str" (.str "abcdefghijklmnopqrstuvwxyz")=true:=rfl
    rw[zu5,zg (d:=.str "abcdefghijklmnopqrstuvwxyz") rfl,Rs.bind_ok,hty,if_pos rfl,zx,zg (d:=zy (i+97)) rfl,Rs.bind_ok,zZ,Rs.bind_ok,Rs.bind_ok]
    simp only[Jv,zy,VF]
    rw[Gx i hi]
   have hix:ixD (.str "ABCDEFGHIJKLMNOPQRSTUVWXYZ") (.int (i:Nat))=.ok (zy (i+65)):=Ze (ZV (by lia) (by rw[toNat_natCast];exact Lg i hi)) (by decide +kernel)
   have h2:eOp eqD (zc 1) (eOp ixD (eC (.str "ABCDEFGHIJKLMNOPQRSTUVWXYZ")) (eMt "str" Jv (zc 2) (za (zc 0) zh))) [some (.val (zy (i+97))),some (.val (zy c)),some (.val (.str "abcdefghijklmnopqrstuvwxyz"))]=.ok (.bl (c==i+65)):=
    op2 (zg rfl) (op2 rfl hidx hix) (by simp only[zy];rw[WC,Y8])
   rw[or_r h0 (JK h1 h2)]
   have hup:up1 (i+97)=i+65:=by unfold up1;rw[if_pos s];lia
   simp only[Fl.of_ok,zJ,yF,e',Bool.false_or,decide_eq_true s,Bool.true_and,hup]
   congr 2
   rw[Bool.eq_iff_iff];simp;lia
  ·rw[decide_eq_false s] at h1
   have h2:XJ (eOp inD (zc 0) (zc 2)) (eOp eqD (zc 1) (eOp ixD (eC (.str "ABCDEFGHIJKLMNOPQRSTUVWXYZ")) (eMt "str" Jv (zc 2) (za (zc 0) zh)))) [some (.val (zy a)),some (.val (zy c)),some (.val (.str "abcdefghijklmnopqrstuvwxyz"))]=.ok (.bl false):=by
    rw[YH,h1,Rs.bind_ok,wU,Rs.bind_ok,if_neg (by simp)]
   rw[or_r h0 h2]
   simp only[Fl.of_ok,zJ,yF,e',Bool.false_or,decide_eq_false s,Bool.false_and]
noncomputable def stt(l:List Nat):Nat:=match l.getLast? with
 |some p=>p+1
 |none=>0
noncomputable def ext(a:Nat)(x l:List Nat):List (List Nat):=(((List.range (x.length-stt l)).map (stt l + ·)).filter fun k=>yF a (x.getD k 0)).map fun k=>l++[k]
noncomputable def Z5(q x:List Nat):List (List Nat):=q.foldl (fun found a=>found.flatMap (ext a x)) [[]]
theorem yt(l:List Nat)(p j:Nat):(l++[p]).getD j 0=if j<l.length then l.getD j 0 else if j=l.length then p else 0:=by
 by_cases h:j<l.length
 ·rw[if_pos h];simp[getD_eq_getElem?_getD,getElem?_append_left h]
 ·rw[if_neg h]
  by_cases e:j=l.length
  ·subst e;simp[getD_eq_getElem?_getD]
  ·rw[if_neg e,getD_eq_getElem?_getD,List.getElem?_eq_none (by simp;lia)];rfl
theorem WL(l:List Nat):stt l=if l=[] then 0 else l.getD (l.length-1) 0+1:=by
 unfold stt
 cases l with
 |nil=>rfl
 |cons a r=>
  rw[List.getLast?_eq_getElem?,if_neg (by simp),getD_eq_getElem?_getD,getElem?_eq_getElem (by simp:(a::r).length-1<(a::r).length)]
  rfl
theorem Uh(q x l:List Nat)(a p:Nat):Lay (q++[a]) x (l++[p])↔Lay q x l∧stt l≤p∧p<x.length∧yF a (x.getD p 0)=true:=by
 constructor
 ·intro h
  have hl:l.length=q.length:=by have:=h.len;simp at this;exact this
  refine⟨⟨hl,fun j hj=>?_,fun j hj=>?_,fun j hj=>?_⟩,?_,?_,?_⟩
  ·have:=h.ris j (by simp;lia)
   rwa [yt,yt,if_pos (by lia),if_pos hj] at this
  ·have:=h.inn j (by simp;lia)
   rwa [yt,if_pos hj] at this
  ·have:=h.met j (by simp;lia)
   rwa [yt,yt,if_pos (by lia),if_pos hj] at this
  ·rw[WL]
   by_cases e:l=[]
   ·rw[if_pos e];lia
   ·rw[if_neg e]
    have hp:0<l.length:=length_pos_iff.mpr e
    have:=h.ris (l.length-1) (by simp;lia)
    rw[yt,yt,if_pos (by lia),if_neg (by lia),if_pos (by lia)] at this
    lia
  ·have:=h.inn l.length (by simp)
   rwa [yt,if_neg (by lia),if_pos rfl] at this
  ·have:=h.met l.length (by simp)
   rwa [yt,yt,if_neg (by lia),if_pos (by lia),if_neg (by lia),if_pos rfl] at this
 ·rintro⟨h,h1,h2,h3⟩
  have hl:=h.len
  refine⟨by simp[hl],fun j hj=>?_,fun j hj=>?_,fun j hj=>?_⟩
  ·simp at hj
   rw[yt,yt,if_pos (by lia)]
   by_cases e:j+1<l.length
   ·rw[if_pos e];exact h.ris j e
   ·rw[if_neg e,if_pos (by lia)]
    rw[WL,if_neg (by intro z;subst z;simp at hj)] at h1
    have:l.length-1=j:=by lia
    rw[this] at h1;lia
  ·simp at hj
   rw[yt]
   by_cases e:j<l.length
   ·rw[if_pos e];exact h.inn j e
   ·rw[if_neg e,if_pos (by lia)];exact h2
  ·simp at hj
   by_cases e:j<l.length
   ·rw[yt,yt,if_pos e,if_pos (by lia)];exact h.met j e
   ·have e1:(q++[a]).getD j 0=a:=by rw[yt,if_neg (by lia),if_pos (by lia)]
    have e2:(l++[p]).getD j 0=p:=by rw[yt,if_neg (by lia),if_pos (by lia)]
    rw[e1,e2];exact h3
theorem YA(a:Nat)(x l0 l:List Nat):l∈ext a x l0↔∃p,l=l0++[p]∧stt l0≤p∧p<x.length∧yF a (x.getD p 0)=true:=by
 unfold ext
 simp only[mem_map,mem_filter,mem_range]
 constructor
 ·rintro⟨p,⟨⟨k,hk,rfl⟩,hm⟩,rfl⟩
  exact⟨_,rfl,by lia,by lia,hm⟩
 ·rintro⟨p,rfl,h1,h2,h3⟩
  exact⟨p,⟨⟨p-stt l0,by lia,by lia⟩,h3⟩,rfl⟩
theorem Xh(a:Nat)(x p:List Nat)(found:List (List Nat))(h:∀l,l∈found↔Lay p x l)(l:List Nat):l∈found.flatMap (ext a x)↔Lay (p++[a]) x l:=by
 rw[List.mem_flatMap]
 constructor
 ·rintro⟨l0,h0,h1⟩
  obtain⟨k,rfl,h2⟩:=(YA a x l0 l).mp h1
  exact(Uh p x l0 a k).mpr ⟨(h l0).mp h0,h2⟩
 ·intro hl
  have hne:l≠[]:=fun z=>by subst z;have:=hl.len;simp at this
  have e:l=l.dropLast++[l.getLast hne]:=(List.dropLast_concat_getLast hne).symm
  rw[e] at hl
  obtain⟨h1,h2⟩:=(Uh p x _ a _).mp hl
  exact⟨l.dropLast,(h _).mpr h1,(YA a x _ l).mpr ⟨_,e,h2⟩⟩
theorem V7(x:List Nat):∀(q p:List Nat) (found:List (List Nat)),(∀l,l∈found↔Lay p x l)→∀l,l∈q.foldl (fun found a=>found.flatMap (ext a x)) found↔Lay (p++q) x l:=by
 intro l_
 induction l_ with
 |nil=>
  rintro p found h l
  rw[append_nil];exact h l
 |cons a q ih_=>
  rintro p found h l
  have:=ih_ (p++[a]) _ (Xh a x p found h) l
  rw[append_assoc] at this
  exact this
theorem uS(q x l:List Nat):l∈Z5 q x↔Lay q x l:=by
 refine V7 x q [] [[]] (fun l=>?_) l
 constructor
 ·intro h
  have:l=[]:=by simpa using h
  subst this;exact Zd x
 ·intro h
  have:l=[]:=List.eq_nil_of_length_eq_zero h.len
  subst this;simp
theorem YF(a:Nat)(x l:List Nat):(ext a x l).length≤x.length:=by
 unfold ext
 rw[length_map]
 have:=length_filter_le (fun k=>yF a (x.getD k 0)) ((List.range (x.length-stt l)).map (stt l + ·))
 rw[length_map,length_range] at this
 lia
theorem Uz(a:Nat)(x:List Nat)(hx:x.length≤10):∀found:List (List Nat),(found.flatMap (ext a x)).length≤10*found.length:=by
 intro l_
 induction l_ with
 |nil=>
  simp
 |cons l r ih_=>
  have:=ih_
  have h1:=YF a x l
  simp only[flatMap_cons,length_append,length_cons]
  lia
end Law
set_option Elab.async false
set_option linter.all false
set_option maxHeartbeats 1000000
namespace FD
open PySem PySem.Spec PyProof.Rows L2
theorem Tk(l:List Nat):okD (.lst (l.map fun (k:Nat)=>D.int k))=true:=by
 have a:∀l:List Nat,plainDs (l.map fun (k:Nat)=>D.int k)=true:=fun l=>by
  induction l with
  |nil=>rfl
  |cons a r ih=>simp[plainDs,y4,ih]
 have b:∀l:List Nat,PyData.canLayAll0 (toPys (l.map fun (k:Nat)=>D.int k))=true:=fun l=>by
  induction l with
  |nil=>rfl
  |cons a r ih=>simp[toPys,yB,PyData.canLayAll0,PyData.canLay0,ih]
 have c:∀l:List Nat,PyData.depthAll (toPys (l.map fun (k:Nat)=>D.int k))=0:=fun l=>by
  induction l with
  |nil=>rfl
  |cons a r ih=>simp[toPys,yB,PyData.depthAll,PyData.depth,ih]
 simp[okD,y4,yB,PyData.canLay0,PyData.depth,a,b l,c]
theorem ze2:okD (.lst [])=true:=by decide
theorem zj1(ds:List D):wK (.lst ds) (.lst [])=ds.isEmpty:=by
 simp only[wK,yB,toPys,PyData.eqv,XF]
 cases ds <;> rfl
theorem zr2(ds:List D)(h:okD (.lst ds)=true):neD (.lst ds) (.lst [])=.ok (.bl (!ds.isEmpty)):=by
 simp only[neD,h,ze2,and_self,if_true,zj1]
theorem if_t{g:FT}{fa fb:FE}{τ:DS}{r:Rs D}(h1:g τ=.ok true)(h2:fa τ=r):eIf g fa fb τ=r:=by rw[Vp,h1,Rs.bind_ok,if_pos rfl,h2]
theorem if_f{g:FT}{fa fb:FE}{τ:DS}{r:Rs D}(h1:g τ=.ok false)(h2:fb τ=r):eIf g fa fb τ=r:=by rw[Vp,h1,Rs.bind_ok,if_neg (by simp),h2]
end FD
namespace Law
open PySem PySem.Spec PyProof.Rows L2 FD
noncomputable def stE:FE:=(eIf (FD.tB (eOp neD (zc 5) (xt zh))) (eOp zM (eOp ixD (zc 5) (wn (eC (.int 1)))) (eC (.int 1))) (eC (.int 0)))
noncomputable def cmE:FA:=(yD 1 [5,3,1] (Lb (za (zc 6) (za (yb yN (za (zc 1) zh)) zh))) (gNm 0) (uI (zp y9 (za (zc 2) (za (eOp ixD (zc 3) (zc 0)) zh)))) (eOp zM (zc 1) (xt (za (zc 0) zh))))
noncomputable def cmV:FE:=fun τ=>(cmE τ).bind fun ds=>.ok (.lst ds)
noncomputable def ib:FS:=(zt (zI 6 stE) (zI 4 (eOp zM (zc 4) cmV)))
noncomputable def ob:FS:=(zt (zI 4 (xt zh)) (zt (wk (xf (zc 2)) (gNm 5) ib) (zI 2 (zc 4))))
theorem zs0:vG=zt (zI 2 (xt (za (xt zh) zh))) (zt (wk (xf (zc 0)) (gNm 3) ob) (yd (zc 2))):=by
 unfold vG ob ib cmV cmE stE;rfl
noncomputable abbrev S7(q x:List Nat)(a2 a3 a4 a5 a6:Option Sl):DS:=[some (.val (tx q)),some (.val (tx x)),a2,a3,a4,a5,a6]
theorem zf0(l:List Nat)(h:l≠[]):ixD (nts l) (.int (-1))=.ok (.int (l.getD (l.length-1) 0:Nat)):=by
 have hp:0<l.length:=length_pos_iff.mpr h
 refine Vf ?_
 have e:ixN (l.map fun (k:Nat)=>D.int k).length (-1)=some (l.length-1):=by
  unfold ixN
  rw[length_map,if_neg (by lia),if_pos (by lia)]
  congr 1;lia
 unfold atI
 rw[e]
 show(l.map fun (k:Nat)=>D.int k)[l.length-1]?=_
 rw[getElem?_map,uX l (l.length-1) (by lia)];rfl
theorem zn6(q x l:List Nat)(a2 a3 a4 a6:Option Sl):stE (S7 q x a2 a3 a4 (some (.val (nts l))) a6)=.ok (.int (stt l:Nat)):=by
 unfold stE
 have hn:=zr2 _ (Tk l)
 rw[WL]
 cases l with
 |nil=>exact if_f (xu (op2 (zg rfl) Gz hn)) rfl
 |cons a r=>
  rw[if_neg (by simp)]
  refine if_t (xu (op2 (zg rfl) Gz hn)) ?_
  rw[op2 (op2 (zg rfl) (rfl:wn (eC (.int 1)) _=.ok (.int (-1))) (zf0 (a::r) (by simp))) rfl yK]
  congr 2
theorem zu7(q x l:List Nat)(a:Nat)(a2 a4:Option Sl)(hx:x.length≤10)(hl:l.length≤10)(hs:stt l≤1000):cmV (S7 q x a2 (some (.val (zy a))) a4 (some (.val (nts l))) (some (.val (.int (stt l:Nat)))))=.ok (.lst ((ext a x l).map nts)):=by
 have r2:=zo2 (fa:=zc 6) (fb:=yb yN (za (zc 1) zh)) (τ:=S7 q x a2 (some (.val (zy a))) a4 (some (.val (nts l))) (some (.val (.int (stt l:Nat))))) (i:=stt l) (n:=x.length) (zg rfl) (u6 (zg rfl) (uG x (by lia))) (by lia) (by lia)
 have e1:((List.range (x.length-stt l)).map fun (k:Nat)=>D.int (((stt l:Nat):Int)+k))=((List.range (x.length-stt l)).map (stt l + ·)).map fun (k:Nat)=>D.int k:=by
  rw[map_map]
  apply map_congr_left
  intro k _
  show D.int (((stt l:Nat):Int)+(k:Int))=D.int ((stt l+k:Nat):Int)
  congr 1
 rw[e1] at r2
 have cf:=wA (set:=gNm 0) (ft:=(uI (zp y9 (za (zc 2) (za (eOp ixD (zc 3) (zc 0)) zh))))) (fe:=(eOp zM (zc 1) (xt (za (zc 0) zh)))) (τ:=[none,some (.val (nts l)),some (.val (zy a)),some (.val (tx x))])
  (fun (k:Nat)=>D.int k) (fun k=>nts (l++[k])) (fun k=>yF a (x.getD k 0)) ((List.range (x.length-stt l)).map (stt l + ·)) fun p hp=>by
   obtain⟨k,hk,rfl⟩:=mem_map.mp hp
   have hk:=mem_range.mp hk
   refine⟨[some (.val (.int ((stt l+k:Nat):Int))),some (.val (nts l)),some (.val (zy a)),some (.val (tx x))],rfl,tru_ok (vn (zg rfl) (op2 (zg rfl) (zg rfl) (jt x (stt l+k) (by lia) (by lia))) (GH a _)),op2 (zg rfl) (Ua (zg rfl)) ?_⟩
   rw[addL (by simp;lia)]
   simp
 have hlen:((((List.range (x.length-stt l)).map (stt l + ·)).filter fun k=>yF a (x.getD k 0)).map fun k=>nts (l++[k])).length≤1000000:=by
  have:=YF a x l
  unfold ext at this
  rw[length_map] at this ⊢
  lia
 have ec:=LD (k:=1) (idx:=[5,3,1]) (τ:=S7 q x a2 (some (.val (zy a))) a4 (some (.val (nts l))) (some (.val (.int (stt l:Nat))))) r2 cf hlen
 unfold cmV cmE
 rw[ec]
 unfold ext
 rw[map_map]
 rfl
theorem zt7(e1 e2:FE)(S L M R:D)(a0 a1 a2 a3 a5 a6:Option Sl)(h1:e1 [a0,a1,a2,a3,some (.val L),a5,a6]=.ok S)(h2:e2 [a0,a1,a2,a3,some (.val L),a5,some (.val S)]=.ok M)(h3:zM L M=.ok R) :
  zt (zI 6 e1) (zI 4 (eOp zM (zc 4) e2)) [a0,a1,a2,a3,some (.val L),a5,a6]=.nx [a0,a1,a2,a3,some (.val R),a5,some (.val S)]:=by
 simp only[zB,zF,yg,zH,getElem?_cons_zero,getElem?_cons_succ,set_cons_succ,set_cons_zero,zA,Rs.bind_ok,Fl.of_ok,zV,h1,h2,h3]
theorem ib_ok(q x l:List Nat)(a:Nat)(acc:List (List Nat))(a2 a6:Option Sl)(hx:x.length≤10)(hl:l.length≤10)(hs:stt l≤1000)(hc:acc.length≤900000) :
  ∃b6,ib (S7 q x a2 (some (.val (zy a))) (some (.val (.lst (acc.map nts)))) (some (.val (nts l))) a6)=.nx (S7 q x a2 (some (.val (zy a))) (some (.val (.lst ((acc++ext a x l).map nts)))) (some (.val (nts l))) b6):=by
 have h3:zM (.lst (acc.map nts)) (.lst ((ext a x l).map nts))=.ok (.lst ((acc++ext a x l).map nts)):=by
  have:=YF a x l
  rw[addL (by rw[length_map,length_map];lia),map_append]
 unfold ib
 exact⟨_,zt7 stE cmV _ _ _ _ _ _ _ _ _ _ (zn6 q x l _ _ _ _) (zu7 q x l a _ _ hx hl hs) h3⟩
theorem QF(q x:List Nat)(a:Nat)(a2:Option Sl)(hx:x.length≤10):∀(ls acc:List (List Nat)) (a5 a6:Option Sl),(∀l∈ls,l.length≤10∧stt l≤1000)→acc.length+10*ls.length≤900000 →
  ∃b5 b6,ye (gNm 5) ib (ls.map nts) (S7 q x a2 (some (.val (zy a))) (some (.val (.lst (acc.map nts)))) a5 a6)=.nx (S7 q x a2 (some (.val (zy a))) (some (.val (.lst ((acc++ls.flatMap (ext a x)).map nts)))) b5 b6):=by
 intro l_
 induction l_ with
 |nil=>
  rintro acc a5 a6 _ _
  exact⟨a5,a6,by rw[List.flatMap_nil,append_nil];rfl⟩
 |cons l ls ih_=>
  rintro acc a5 a6 h hc
  simp only[length_cons] at hc
  obtain⟨b6,h1⟩:=ib_ok q x l a acc a2 a6 hx (h l (mem_cons_self ..)).1 (h l (mem_cons_self ..)).2 (by lia)
  have:=YF a x l
  obtain⟨c5,c6,h2⟩:=ih_ (acc++ext a x l) (some (.val (nts l))) b6 (fun m hm=>h m (mem_cons_of_mem _ hm)) (by rw[length_append];lia)
  refine⟨c5,c6,?_⟩
  rw[map_cons,ye,vX,Fl.of_ok]
  have h1':ib ((S7 q x a2 (some (.val (zy a))) (some (.val (.lst (acc.map nts)))) a5 a6).set 5 (some (.val (nts l))))=.nx (S7 q x a2 (some (.val (zy a))) (some (.val (.lst ((acc++ext a x l).map nts)))) (some (.val (nts l))) b6):=h1
  rw[h1']
  rw[flatMap_cons,← append_assoc]
  exact h2
theorem zt4(it:FA)(b:FS)(L:List D)(R:D)(a0 a1 a2 a3 a4 a5 a6 b5 b6:Option Sl)(h1:it [a0,a1,a2,a3,some (.val (.lst [])),a5,a6]=.ok L)(h2:ye (gNm 5) b L [a0,a1,a2,a3,some (.val (.lst [])),a5,a6]=.nx [a0,a1,a2,a3,some (.val R),b5,b6]) :
  zt (zI 4 (xt zh)) (zt (wk it (gNm 5) b) (zI 2 (zc 4))) [a0,a1,a2,a3,a4,a5,a6]=.nx [a0,a1,some (.val R),a3,some (.val R),b5,b6]:=by
 have h0:=Gz (τ:=[a0,a1,a2,a3,a4,a5,a6])
 simp only[zB,zF,x9,zH,getElem?_cons_zero,getElem?_cons_succ,set_cons_succ,set_cons_zero,zA,Fl.of_ok,zV,h0,h1,h2]
theorem Qn(q x:List Nat)(hx:x.length≤10):∀(r p:List Nat) (found:List (List Nat)) (a3 a4 a5 a6:Option Sl),(∀l,l∈found↔Lay p x l)→p.length+r.length≤5→found.length≤10 ^ p.length →
  ∃b3 b4 b5 b6,ye (gNm 3) ob (r.map zy) (S7 q x (some (.val (.lst (found.map nts)))) a3 a4 a5 a6)=.nx (S7 q x (some (.val (.lst ((r.foldl (fun found a=>found.flatMap (ext a x)) found).map nts)))) b3 b4 b5 b6):=by
 intro l_
 induction l_ with
 |nil=>
  rintro p found a3 a4 a5 a6 _ _ _
  exact⟨a3,a4,a5,a6,rfl⟩
 |cons a r ih_=>
  rintro p found a3 a4 a5 a6 h hp hf
  simp only[length_cons] at hp
  have hf4:found.length≤10000:=le_trans hf (Nat.pow_le_pow_right (by decide:0<10) (by lia:p.length≤4))
  have hls:∀l∈found,l.length≤10∧stt l≤1000:=fun l hl=>by
   have L:=(h l).mp hl
   refine⟨by rw[L.len];lia,?_⟩
   rw[WL]
   split
   ·lia
   ·rename_i hne
    have:=L.inn (l.length-1) (by have:=length_pos_iff.mpr hne;lia)
    lia
  obtain⟨b5,b6,h1⟩:=QF q x a (some (.val (.lst (found.map nts)))) hx found [] a5 a6 hls (by simp;lia)
  have hb:ob (S7 q x (some (.val (.lst (found.map nts)))) (some (.val (zy a))) a4 a5 a6)=.nx (S7 q x (some (.val (.lst ((found.flatMap (ext a x)).map nts)))) (some (.val (zy a))) (some (.val (.lst ((found.flatMap (ext a x)).map nts)))) b5 b6):=by
   unfold ob
   exact zt4 _ _ _ _ _ _ _ _ _ _ _ _ _ rfl h1
  have hfl:=Uz a x hx found
  obtain⟨c3,c4,c5,c6,h2⟩:=ih_ (p++[a]) (found.flatMap (ext a x)) (some (.val (zy a))) (some (.val (.lst ((found.flatMap (ext a x)).map nts)))) b5 b6 (Xh a x p found h) (by simp;lia) (by
   rw[length_append,length_singleton,Nat.pow_succ];lia)
  refine⟨c3,c4,c5,c6,?_⟩
  rw[map_cons,ye,vX,Fl.of_ok]
  have hb':ob ((S7 q x (some (.val (.lst (found.map nts)))) a3 a4 a5 a6).set 3 (some (.val (zy a))))=.nx (S7 q x (some (.val (.lst ((found.flatMap (ext a x)).map nts)))) (some (.val (zy a))) (some (.val (.lst ((found.flatMap (ext a x)).map nts)))) b5 b6):=hb
  rw[hb']
  exact h2
theorem Ll(it:FA)(b:FS)(L:List D)(A B R:D)(c3 c4 c5 c6:Option Sl)(h1:it [some (.val A),some (.val B),some (.val (.lst [.lst []])),none,none,none,none]=.ok L)(h2:ye (gNm 3) b L [some (.val A),some (.val B),some (.val (.lst [.lst []])),none,none,none,none]=.nx [some (.val A),some (.val B),some (.val R),c3,c4,c5,c6]) :
  yC 7 (zt (zI 2 (xt (za (xt zh) zh))) (zt (wk it (gNm 3) b) (yd (zc 2)))) [A,B]=.ok R:=by
 have st:zQ 7 [A,B]=[some (.val A),some (.val B),none,none,none,none,none]:=rfl
 have h0:=Ua (Gz (τ:=[some (.val A),some (.val B),none,none,none,none,none]))
 rw[zW,st]
 simp only[zB,zF,zT,x9,zH,getElem?_cons_zero,getElem?_cons_succ,set_cons_succ,set_cons_zero,zA,Fl.of_ok,zV,zJ,h0,h1,h2]
theorem zg5(q x:List Nat)(hq:q.length≤5)(hx:x.length≤10):yJ [tx q,tx x]=.ok (.lst ((Z5 q x).map nts)):=by
 obtain⟨b3,b4,b5,b6,h⟩:=Qn q x hx q [] [[]] none none none none (fun l=>by
  constructor
  ·intro h
   have:l=[]:=by simpa using h
   subst this;exact Zd x
  ·intro h
   have:l=[]:=List.eq_nil_of_length_eq_zero h.len
   subst this;simp) (by simpa using hq) (by simp)
 unfold yJ
 rw[zs0]
 have it:xf (zc 0) [some (.val (tx q)),some (.val (tx x)),some (.val (.lst [.lst []])),none,none,none,none]=.ok (q.map zy):=by
  rw[jm,zg (d:=tx q) rfl,Rs.bind_ok,T3,Mo]
 exact Ll _ _ _ _ _ _ _ _ _ _ it h
theorem Wq:∀(l m:List Nat) (a b:Nat),l.length=m.length→ut l m=true→ut (l++[a]) (m++[b])=true
 |[],[],_,_,_,h=>by cases h
 |[],_::_,_,_,h,_=>by simp at h
 |_::_,[],_,_,h,_=>by simp at h
 |x::xs,y::ys,a,b,hl,h=>by
  simp only[ut] at h
  simp only[cons_append,ut]
  by_cases e:x=y
  ·rw[if_pos e] at h ⊢
   exact Wq xs ys a b (by simpa using hl) h
  ·rw[if_neg e] at h ⊢;exact h
theorem Ws:∀(l:List Nat) (a b:Nat),a<b→ut (l++[a]) (l++[b])=true:=by
 intro l_
 induction l_ with
 |nil=>
  rintro a b h
  simp only[List.nil_append,ut]
  rw[if_neg (by lia)]
  exact decide_eq_true h
 |cons x xs ih_=>
  rintro a b h
  simp only[cons_append,ut,if_true]
  exact ih_ a b h
noncomputable def Vu(ls:List (List Nat)):Prop:=ls.Pairwise fun l m=>ut l m=true
theorem zj0(a:Nat)(x l:List Nat):Vu (ext a x l):=by
 unfold Vu ext
 rw[pairwise_map]
 refine List.Pairwise.filter _ ?_
 rw[pairwise_map]
 refine List.Pairwise.imp (fun {i j} h=>?_) (pairwise_lt_range)
 exact Ws l _ _ (by lia)
theorem My(a:Nat)(x:List Nat)(n:Nat)(found:List (List Nat))(hn:∀l∈found,l.length=n)(h:Vu found):Vu (found.flatMap (ext a x)):=by
 unfold Vu
 rw[List.pairwise_flatMap]
 refine⟨fun l _=>zj0 a x l,?_⟩
 refine List.Pairwise.imp_of_mem (fun {l m} hl hm hlm u hu v hv=>?_) h
 obtain⟨p,rfl,_⟩:=(YA a x l u).mp hu
 obtain⟨p',rfl,_⟩:=(YA a x m v).mp hv
 exact Wq l m p p' (by rw[hn l hl,hn m hm]) hlm
theorem Uy(x:List Nat):∀(q p:List Nat) (found:List (List Nat)),(∀l,l∈found↔Lay p x l)→Vu found→Vu (q.foldl (fun found a=>found.flatMap (ext a x)) found):=by
 intro l_
 induction l_ with
 |nil=>
  rintro p found _ h
  exact h
 |cons a q ih_=>
  rintro p found hm h
  exact ih_ (p++[a]) (found.flatMap (ext a x)) (Xh a x p found hm) (My a x p.length found (fun l hl=>((hm l).mp hl).len) h)
theorem TX(q x:List Nat):Vu (Z5 q x):=by
 refine Uy x q [] [[]] (fun l=>?_) (by simp[Vu])
 constructor
 ·intro h
  have:l=[]:=by simpa using h
  subst this;exact Zd x
 ·intro h
  have:l=[]:=Qx x l h
  subst this;simp
noncomputable def UQ(q x:List Nat):List Tl:=(Z5 q x).map fun l=>(pts q x l q.length,l)
theorem LQ(q x:List Nat):xq (UQ q x) none=vd q x:=by
 by_cases hs:jS q x=true
 ·have hl:=GK q x hs
  obtain⟨v,l',e,hb⟩:=JF q x _ hl
  rw[e]
  have hne:UQ q x≠[]:=by
   intro z
   unfold UQ at z
   rw[List.map_eq_nil_iff] at z
   have:=(uS q x _).mpr hl
   rw[z] at this;simp at this
  obtain⟨t,ht,htm⟩:=Xy _ hne
  rw[ht]
  obtain⟨pre,post,es,h1,h2⟩:=Ya _ t ht
  obtain⟨l,hlm,rfl⟩:=mem_map.mp htm
  have hlL:=(uS q x l).mp hlm
  have hl'm:(pts q x l' q.length,l')∈UQ q x:=mem_map.mpr ⟨l',(uS q x l').mpr hb.lay,rfl⟩
  have o1:=hb.opt l hlL
  have hv:v=pts q x l' q.length:=hb.pnt
  have hle:∀u∈UQ q x,u.1≤pts q x l q.length:=fun u hu=>by
   rw[es] at hu
   rcases mem_append.mp hu with z|z
   ·exact Int.le_of_lt (h1 u z)
   ·rcases mem_cons.mp z with z|z
    ·rw[z];exact Int.le_refl _
    ·exact h2 u z
  have o2:=hle _ hl'm
  have hev:pts q x l q.length=v:=by
   have:=o1.1
   simp only at o2
   lia
  have hll:l=l':=by
   rw[es] at hl'm
   rcases mem_append.mp hl'm with z|z
   ·have:=h1 _ z
    simp only at this;lia
   ·rcases mem_cons.mp z with z|z
    ·have:=congrArg Prod.snd z
     exact this.symm
    ·exfalso
     have hp:(UQ q x).Pairwise fun a b=>ut a.2 b.2=true:=by
      unfold UQ
      rw[pairwise_map]
      exact TX q x
     rw[es] at hp
     have hp2:=(List.pairwise_append.mp hp).2.1
     have:=(pairwise_cons.mp hp2).1 _ z
     simp only at this
     rw[o1.2 hev] at this
     cases this
  rw[hev,hll]
 ·have hs:jS q x=false:=by simpa using hs
  rw[JG q x hs]
  have:Z5 q x=[]:=by
   cases z:Z5 q x with
   |nil=>rfl
   |cons l r=>
    have:=(uS q x l).mp (by rw[z];simp)
    have:=Zc x q l this
    rw[hs] at this;cases this
  unfold UQ
  rw[this];rfl
theorem sf_l:("abcdefghijklmnopqrstuvwxyz0123456789" : Str).cps.toList=(List.range 26).map (· + 97)++(List.range 10).map (· + 48):=by decide +kernel
theorem zn7(c:Nat):decide (c∈("abcdefghijklmnopqrstuvwxyz0123456789" : Str).cps.toList)=decide ((97≤c∧c≤122)∨(48≤c∧c≤57)):=by
 rw[sf_l]
 have h1:=Yt c 25 97
 have h2:=Yt c 9 48
 simp only[decide_eq_decide] at h1 h2
 rw[decide_eq_decide,mem_append]
 exact⟨fun h=>h.elim (fun h=>.inl (h1.mp h)) (fun h=>.inr (h2.mp h)),fun h=>h.elim (fun h=>.inl (h1.mpr h)) (fun h=>.inr (h2.mpr h))⟩
theorem T9(b:Bool):intD [.bl b]=.ok (.int (if b then 1 else 0)):=rfl
theorem zb0(a c:Nat):eqD (zy a) (zy c)=.ok (.bl (decide (c=a))):=by
 have:=WC (a:=(⟨#[a]⟩:Str)) (b:=⟨#[c]⟩)
 show eqD (.str ⟨#[a]⟩) (.str ⟨#[c]⟩)=_
 rw[this]
 congr 2
 rw[Bool.eq_iff_iff,beq_iff_eq,decide_eq_true_iff]
 constructor
 ·intro h
  have:=congrArg (fun s:Str=>s.cps.toList) h
  simp at this
  exact this.symm
 ·intro h;rw[h]
theorem T2(x:List Nat)(p:Nat)(hp:p<x.length)(h0:p≠0)(hx:x.length≤1000):ixD (tx x) (.int ((p:Int)-1))=.ok (zy (x.getD (p-1) 0)):=by
 have e:((p:Int)-1)=((p-1:Nat):Int):=by lia
 rw[e]
 exact jt x (p-1) (by lia) hx
theorem GZ(e3:FE)(g1 g2:FT)(e4 e5:FE)(A B P:D)(w:Int)(b1 b2 bg:Bool)(r:D)(h3:e3 [some (.val A),some (.val B),some (.val P),none,none]=.ok (.int w))
  (h1:g1 [some (.val A),some (.val B),some (.val P),some (.val (.int w)),none]=.ok b1) (h2:b1=false→g2 [some (.val A),some (.val B),some (.val P),some (.val (.int w)),none]=.ok b2)
  (h4:b1=false→b2=false→e4 [some (.val A),some (.val B),some (.val P),some (.val (.int w)),none]=.ok (.bl bg)) (h5:b1=false→b2=false→e5 [some (.val A),some (.val B),some (.val P),some (.val (.int w)),some (.val (.bl bg))]=.ok r) :
  yC 5 (zt (zI 3 e3) (zt (sIf g1 (yd (eOp zM (zc 3) (eC (.int 8)))) yc) (zt (sIf g2 (yd (eOp zM (zc 3) (eC (.int 6)))) yc) (zt (zI 4 e4) (yd e5))))) [A,B,P]=if b1=true then .ok (.int (w+8)) else if b2=true then .ok (.int (w+6)) else .ok r:=by
 have st:zQ 5 [A,B,P]=[some (.val A),some (.val B),some (.val P),none,none]:=rfl
 rw[zW,st]
 cases b1 with
 |true=>simp only[zB,zF,yk,zT,z7,yg,zH,yv,getElem?_cons_zero,getElem?_cons_succ,set_cons_succ,set_cons_zero,zA,Rs.bind_ok,Fl.of_ok,zV,uH,zJ,yK,if_true,h3,h1]
 |false=>
  have h2:=h2 rfl
  cases b2 with
  |true=>simp only[zB,zF,yk,zT,z7,yg,zH,yv,getElem?_cons_zero,getElem?_cons_succ,set_cons_succ,set_cons_zero,zA,Rs.bind_ok,Fl.of_ok,zV,uH,zJ,yK,if_true,Bool.false_eq_true,if_false,h3,h1,h2]
  |false=>
   have h4:=h4 rfl rfl
   have h5:=h5 rfl rfl
   simp only[zB,zF,yk,zT,z7,yg,zH,yv,getElem?_cons_zero,getElem?_cons_succ,set_cons_succ,set_cons_zero,zA,Rs.bind_ok,Fl.of_ok,zV,zJ,yK,Bool.false_eq_true,if_false,h3,h1,h2,h4,h5]
theorem zk7:uy=(zt (zI 3 (eOp zM (eC (.int 10)) (yb intD (za (eOp eqD (zc 0) (eOp ixD (zc 1) (zc 2))) zh))))
  (zt (sIf (FD.tB (eOp eqD (zc 2) (eC (.int 0)))) (yd (eOp zM (zc 3) (eC (.int 8)))) yc)
  (zt (sIf (FD.tB (eOp inD (eOp ixD (zc 1) (eOp xr (zc 2) (eC (.int 1)))) (eC (.str "_-./")))) (yd (eOp zM (zc 3) (eC (.int 6)))) yc)
  (zt (zI 4 (eOp inD (eOp ixD (zc 1) (zc 2)) (eC (.str "ABCDEFGHIJKLMNOPQRSTUVWXYZ"))))
  (yd (eOp zM (zc 3) (eOp ur (eC (.int 5)) (yb intD (za (XJ (zc 4) (eOp inD (eOp ixD (zc 1) (eOp xr (zc 2) (eC (.int 1)))) (eC (.str "abcdefghijklmnopqrstuvwxyz0123456789")))) zh))))))))):=by unfold uy;rfl
theorem LW(a:Nat)(x:List Nat)(p:Nat)(hx:x.length≤1000)(hp:p<x.length):xb [zy a,tx x,.int (p:Int)]=.ok (.int (wB a x p)):=by
 have hix:=jt x p hp hx
 have w:Int:=10+(if x.getD p 0=a then 1 else 0)
 have h3:eOp zM (eC (.int 10)) (yb intD (za (eOp eqD (zc 0) (eOp ixD (zc 1) (zc 2))) zh)) [some (.val (zy a)),some (.val (tx x)),some (.val (.int (p:Int))),none,none]=.ok (.int (10+(if decide (x.getD p 0=a) then 1 else 0))):=
  op2 rfl (u6 (op2 (zg rfl) (op2 (zg rfl) (zg rfl) hix) (zb0 a _)) (T9 _)) yK
 have h1:FD.tB (eOp eqD (zc 2) (eC (.int 0))) [some (.val (zy a)),some (.val (tx x)),some (.val (.int (p:Int))),some (.val (.int (10+(if decide (x.getD p 0=a) then 1 else 0)))),none]=.ok (decide (p=0)):=by
  refine xu (op2 (zg rfl) rfl ?_)
  rw[vj]
  congr 2
  rw[Bool.eq_iff_iff,beq_iff_eq,decide_eq_true_iff];lia
 have inn:∀(c:Nat) (y:Str),inD (zy c) (.str y)=.ok (.bl (decide (c∈y.cps.toList))):=fun c y=>by simp only[zy];rw[Zi,x8]
 unfold xb
 rw[zk7]
 rw[GZ _ _ _ _ _ _ _ _ (10+(if decide (x.getD p 0=a) then 1 else 0)) (decide (p=0)) (decide (x.getD (p-1) 0∈MK)) (decide (65≤x.getD p 0∧x.getD p 0≤90))
  (.int (10+(if decide (x.getD p 0=a) then 1 else 0)+5*(if (decide (65≤x.getD p 0∧x.getD p 0≤90)&&decide ((97≤x.getD (p-1) 0∧x.getD (p-1) 0≤122)∨(48≤x.getD (p-1) 0∧x.getD (p-1) 0≤57))) then 1 else 0))) h3 h1 (fun hz=>?_) (fun hz _=>?_) (fun hz _=>?_)]
 ·unfold wB LR
  by_cases z:p=0
  ·simp only[z,decide_true,if_true]
   simp only[decide_eq_true_eq]
   congr 2;lia
  ·simp only[z,decide_false,Bool.false_eq_true,if_false,decide_eq_true_eq,Bool.and_eq_true]
   by_cases z2:x.getD (p-1) 0∈MK
   ·simp only[z2,if_true];congr 2;lia
   ·simp only[z2,if_false]
    split <;> split <;> first | (congr 2;lia;done) | (simp_all;done) | (simp_all;lia)
 ·have z:p≠0:=by simpa using hz
  have:=T2 x p hp z hx
  have h:=inn (x.getD (p-1) 0) "_-./"
  rw[Jk] at h
  exact xu (op2 (op2 (zg rfl) (op2 (zg rfl) rfl xQ) this) rfl h)
 ·have h:=inn (x.getD p 0) "ABCDEFGHIJKLMNOPQRSTUVWXYZ"
  rw[ua] at h
  exact op2 (op2 (zg rfl) (zg rfl) hix) rfl h
 ·have z:p≠0:=by simpa using hz
  have hs:=T2 x p hp z hx
  have h:=inn (x.getD (p-1) 0) "abcdefghijklmnopqrstuvwxyz0123456789"
  rw[zn7] at h
  have ha:∀τ:DS,τ=[some (.val (zy a)),some (.val (tx x)),some (.val (.int (p:Int))),some (.val (.int (10+(if decide (x.getD p 0=a) then 1 else 0)))),some (.val (.bl (decide (65≤x.getD p 0∧x.getD p 0≤90))))] →
    XJ (zc 4) (eOp inD (eOp ixD (zc 1) (eOp xr (zc 2) (eC (.int 1)))) (eC (.str "abcdefghijklmnopqrstuvwxyz0123456789"))) τ=.ok (.bl (decide (65≤x.getD p 0∧x.getD p 0≤90)&&decide ((97≤x.getD (p-1) 0∧x.getD (p-1) 0≤122)∨(48≤x.getD (p-1) 0∧x.getD (p-1) 0≤57)))):=fun τ e=>by
   subst e
   cases k:decide (65≤x.getD p 0∧x.getD p 0≤90) with
   |true=>rw[Bool.true_and];exact JK (zg rfl) (op2 (op2 (zg rfl) (op2 (zg rfl) rfl xQ) hs) rfl h)
   |false=>rw[YH,zg (d:=.bl false) rfl,Rs.bind_ok,wU,Rs.bind_ok,if_neg (by simp)];rfl
  exact op2 (zg rfl) (op2 rfl (u6 (ha _ rfl) (T9 _)) (uq (.inl ⟨by decide,by decide⟩))) yK
noncomputable def Xl:FS:=(zt (zI 3 (eOp zM (zc 3) (zp xb (za (eOp ixD (zc 0) (zc 4)) (za (zc 1) (za (zc 5) zh))))))
  (sIf (FD.tB (eOp eqD (zc 4) (eC (.int 0)))) (zI 3 (eOp xr (zc 3) (yb v8 (za (eC (.int 3)) (za (zc 5) zh))))) (sIf (FD.tB (eOp eqD (eOp zM (eOp ixD (zc 2) (eOp xr (zc 4) (eC (.int 1)))) (eC (.int 1))) (zc 5))) (zI 3 (eOp zM (zc 3) (eC (.int 7)))) (zI 3 (eOp xr (zc 3) (yb v8 (za (eC (.int 5)) (za (eOp xr (eOp xr (zc 5) (eOp ixD (zc 2) (eOp xr (zc 4) (eC (.int 1))))) (eC (.int 1))) zh))))))))
noncomputable def SP6(q x l:List Nat)(v:Int)(s4 s5:Option Sl):DS:=[some (.val (tx q)),some (.val (tx x)),some (.val (nts l)),some (.val (.int v)),s4,s5]
theorem zt5(e1 e2 e3 e4:FE)(g1 g2:FT)(a0 a1 a2 a4 a5:Option Sl)(v w r2 r3 r4:D)(b1 b2:Bool)(h1:e1 [a0,a1,a2,some (.val v),a4,a5]=.ok w)(k1:g1 [a0,a1,a2,some (.val w),a4,a5]=.ok b1)(k2:b1=false→g2 [a0,a1,a2,some (.val w),a4,a5]=.ok b2)
  (h2:b1=true→e2 [a0,a1,a2,some (.val w),a4,a5]=.ok r2) (h3:b1=false→b2=true→e3 [a0,a1,a2,some (.val w),a4,a5]=.ok r3) (h4:b1=false→b2=false→e4 [a0,a1,a2,some (.val w),a4,a5]=.ok r4) :
  zt (zI 3 e1) (sIf g1 (zI 3 e2) (sIf g2 (zI 3 e3) (zI 3 e4))) [a0,a1,a2,some (.val v),a4,a5]=.nx [a0,a1,a2,some (.val (if b1=true then r2 else if b2=true then r3 else r4)),a4,a5]:=by
 cases b1 with
 |true=>have h2:=h2 rfl;simp only[zB,zF,yk,set_cons_succ,set_cons_zero,Fl.of_ok,zV,if_true,h1,k1,h2]
 |false=>
  have k2:=k2 rfl
  cases b2 with
  |true=>have h3:=h3 rfl rfl;simp only[zB,zF,yk,set_cons_succ,set_cons_zero,Fl.of_ok,zV,if_true,Bool.false_eq_true,if_false,h1,k1,k2,h3]
  |false=>have h4:=h4 rfl rfl;simp only[zB,zF,yk,set_cons_succ,set_cons_zero,Fl.of_ok,zV,Bool.false_eq_true,if_false,h1,k1,k2,h4]
theorem zf8(q x l:List Nat)(k:Nat)(hq:q.length≤1000)(hx:x.length≤1000)(h:Lay q x l)(hk:k<l.length) :
  Xl (SP6 q x l (pts q x l k) (some (.val (.int (k:Int)))) (some (.val (.int (l.getD k 0:Nat)))))=.nx (SP6 q x l (pts q x l (k+1)) (some (.val (.int (k:Int)))) (some (.val (.int (l.getD k 0:Nat))))):=by
 have hkq:k<q.length:=by rw[← h.len];exact hk
 have hin:=h.inn k hk
 have hqi:=jt q k hkq hq
 have hal:=LW (q.getD k 0) x (l.getD k 0) hx hin
 unfold Xl SP6
 have e1:eOp zM (zc 3) (zp xb (za (eOp ixD (zc 0) (zc 4)) (za (zc 1) (za (zc 5) zh)))) [some (.val (tx q)),some (.val (tx x)),some (.val (nts l)),some (.val (.int (pts q x l k))),some (.val (.int (k:Int))),some (.val (.int (l.getD k 0:Nat)))]=.ok (.int (pts q x l k+wB (q.getD k 0) x (l.getD k 0))):=
  op2 (zg rfl) (vm (op2 (zg rfl) (zg rfl) hqi) (zg rfl) (zg rfl) hal) yK
 have k1:FD.tB (eOp eqD (zc 4) (eC (.int 0))) [some (.val (tx q)),some (.val (tx x)),some (.val (nts l)),some (.val (.int (pts q x l k+wB (q.getD k 0) x (l.getD k 0)))),some (.val (.int (k:Int))),some (.val (.int (l.getD k 0:Nat)))]=.ok (decide (k=0)):=by
  refine xu (op2 (zg rfl) rfl ?_)
  rw[vj]
  congr 2
  rw[Bool.eq_iff_iff,beq_iff_eq,decide_eq_true_iff];lia
 have prev:k≠0→∀τ:DS,τ[2]?=some (some (.val (nts l)))→τ[4]?=some (some (.val (.int (k:Int))))→eOp ixD (zc 2) (eOp xr (zc 4) (eC (.int 1))) τ=.ok (.int (l.getD (k-1) 0:Nat)):=fun hz τ t2 t4=>by
  have e:((k:Int)-1)=((k-1:Nat):Int):=by lia
  refine op2 (zg t2) (op2 (zg t4) rfl xQ) ?_
  rw[e];exact To l (k-1) (by lia)
 refine(zt5 _ _ _ _ _ _ _ _ _ _ _ _ _ (.int (pts q x l k+wB (q.getD k 0) x (l.getD k 0)-(if ((l.getD k 0:Nat):Int)<3 then ((l.getD k 0:Nat):Int) else 3))) (.int (pts q x l k+wB (q.getD k 0) x (l.getD k 0)+7))
  (.int (pts q x l k+wB (q.getD k 0) x (l.getD k 0)-(if ((l.getD k 0:Nat):Int)-(l.getD (k-1) 0:Nat)-1<5 then ((l.getD k 0:Nat):Int)-(l.getD (k-1) 0:Nat)-1 else 5))) (decide (k=0)) (decide (l.getD (k-1) 0+1=l.getD k 0)) e1 k1 (fun hz=>?_) (fun hz=>?_) (fun hz _=>?_) (fun hz _=>?_)).trans ?_
 ·have z:k≠0:=by simpa using hz
  refine xu (op2 (op2 (prev z _ rfl rfl) rfl yK) (zg rfl) ?_)
  rw[vj]
  congr 2
  rw[Bool.eq_iff_iff,beq_iff_eq,decide_eq_true_iff];lia
 ·refine op2 (zg rfl) ?_ xQ
  rw[vS,zx];exact Vd _ _
 ·exact op2 (zg rfl) rfl yK
 ·have z:k≠0:=by simpa using hz
  have hp:=prev z [some (.val (tx q)),some (.val (tx x)),some (.val (nts l)),some (.val (.int (pts q x l k+wB (q.getD k 0) x (l.getD k 0)))),some (.val (.int (k:Int))),some (.val (.int (l.getD k 0:Nat)))] rfl rfl
  refine op2 (zg rfl) ?_ xQ
  have h2:eOp xr (eOp xr (zc 5) (eOp ixD (zc 2) (eOp xr (zc 4) (eC (.int 1))))) (eC (.int 1)) [some (.val (tx q)),some (.val (tx x)),some (.val (nts l)),some (.val (.int (pts q x l k+wB (q.getD k 0) x (l.getD k 0)))),some (.val (.int (k:Int))),some (.val (.int (l.getD k 0:Nat)))]=.ok (.int (((l.getD k 0:Nat):Int)-(l.getD (k-1) 0:Nat)-1)):=op2 (op2 (zg rfl) hp xQ) rfl xQ
  rw[vS,zx,yv,Rs.bind_ok,zx,h2,Rs.bind_ok,zZ,Rs.bind_ok,Rs.bind_ok,Rs.bind_ok]
  exact Vd _ _
 ·have:(if decide (k=0)=true then D.int (pts q x l k+wB (q.getD k 0) x (l.getD k 0)-(if ((l.getD k 0:Nat):Int)<3 then ((l.getD k 0:Nat):Int) else 3)) else if decide (l.getD (k-1) 0+1=l.getD k 0)=true then D.int (pts q x l k+wB (q.getD k 0) x (l.getD k 0)+7) else D.int (pts q x l k+wB (q.getD k 0) x (l.getD k 0)-(if ((l.getD k 0:Nat):Int)-(l.getD (k-1) 0:Nat)-1<5 then ((l.getD k 0:Nat):Int)-(l.getD (k-1) 0:Nat)-1 else 5)))=D.int (pts q x l (k+1)):=by
   show _=D.int (pts q x l k+trm q x l k)
   unfold trm
   by_cases z:k=0
   ·subst z
    simp only[decide_true,if_true,Xn]
    congr 1;lia
   ·simp only[z,decide_false,Bool.false_eq_true,if_false,vQ]
    by_cases z2:l.getD (k-1) 0+1=l.getD k 0
    ·simp only[z2,decide_true,if_true]
     rw[if_pos (by lia)]
     congr 1;lia
    ·simp only[z2,decide_false,Bool.false_eq_true,if_false]
     rw[if_neg (show ¬ ((l.getD k 0:Nat):Int)-(l.getD (k-1) 0:Nat)-1=0 by lia)]
     congr 1;lia
  rw[this]
theorem Qt(q x l:List Nat)(hq:q.length≤1000)(hx:x.length≤1000)(h:Lay q x l):∀(r:List Nat) (k:Nat) (s4 s5:Option Sl),l.drop k=r→k≤l.length→∃t4 t5,ye (gPr 4 5) Xl (yu k (r.map fun (t:Nat)=>D.int t)) (SP6 q x l (pts q x l k) s4 s5)=.nx (SP6 q x l (pts q x l l.length) t4 t5):=by
 intro l_
 induction l_ with
 |nil=>
  rintro k s4 s5 hd hk
  have:k=l.length:=by have:=congrArg List.length hd;simp at this;lia
  subst this
  exact⟨s4,s5,rfl⟩
 |cons p r ih_=>
  rintro k s4 s5 hd hk
  obtain⟨d1,d2⟩:=WE hd
  have hlt:k<l.length:=by have:=congrArg List.length hd;simp at this;lia
  obtain⟨t4,t5,ih⟩:=ih_ (k+1) (some (.val (.int (k:Int)))) (some (.val (.int (p:Int)))) d1 hlt
  refine⟨t4,t5,?_⟩
  have hs:=zf8 q x l k hq hx h hlt
  rw[d2] at hs
  have hset:gPr 4 5 (.tup [.int (k:Int),.int (p:Int)]) (SP6 q x l (pts q x l k) s4 s5)=.ok (SP6 q x l (pts q x l k) (some (.val (.int (k:Int)))) (some (.val (.int (p:Int))))):=rfl
  rw[map_cons,yu,ye,hset,Fl.of_ok]
  simp only[hs]
  exact ih
theorem lp_b:v0=(zt (zI 3 (eC (.int 0))) (zt (wk (iEn (za (zc 2) zh)) (gPr 4 5) Xl) (yd (zc 3)))):=by unfold v0 Xl;rfl
theorem zi4(it:FA)(b:FS)(A B C:D)(L:List D)(P:D)(t4 t5:Option Sl)(h1:it [some (.val A),some (.val B),some (.val C),some (.val (.int 0)),none,none]=.ok L)(h2:ye (gPr 4 5) b L [some (.val A),some (.val B),some (.val C),some (.val (.int 0)),none,none]=.nx [some (.val A),some (.val B),some (.val C),some (.val P),t4,t5]) :
  yC 6 (zt (zI 3 (eC (.int 0))) (zt (wk it (gPr 4 5) b) (yd (zc 3)))) [A,B,C]=.ok P:=by
 have st:zQ 6 [A,B,C]=[some (.val A),some (.val B),some (.val C),none,none,none]:=rfl
 rw[zW,st]
 simp only[zB,zF,zT,x9,zH,yv,getElem?_cons_zero,getElem?_cons_succ,set_cons_succ,set_cons_zero,zA,Fl.of_ok,zV,zJ,h1,h2]
theorem Jn(q x l:List Nat)(hq:q.length≤1000)(hx:x.length≤1000)(h:Lay q x l):yR [tx q,tx x,nts l]=.ok (.int (pts q x l q.length)):=by
 obtain⟨t4,t5,h1⟩:=Qt q x l hq hx h l 0 none none (List.drop_zero ..) (zero_le _)
 have it:iEn (za (zc 2) zh) [some (.val (tx q)),some (.val (tx x)),some (.val (nts l)),some (.val (.int 0)),none,none]=.ok (yu 0 (l.map fun (t:Nat)=>D.int t)):=rfl
 unfold yR
 rw[lp_b,← h.len]
 exact zi4 _ _ _ _ _ _ _ _ _ it h1
noncomputable def Xo:FS:=(zt (zI 4 (zp yR (za (zc 0) (za (zc 1) (za (zc 3) zh)))))
  (sIf (v4 (FD.tB (eOp isD (zc 2) (eC .non))) (FD.tB (eOp gtD (zc 4) (eOp ixD (zc 2) (eC (.int 0)))))) (zI 2 (xg (za (zc 4) (za (zc 3) zh)))) yc))
theorem Lk(e1 e2:FE)(g:FT)(a0 a1 a3 a4:Option Sl)(C W T:D)(b:Bool)(h1:e1 [a0,a1,some (.val C),a3,a4]=.ok W)(h2:g [a0,a1,some (.val C),a3,some (.val W)]=.ok b)(h3:b=true→e2 [a0,a1,some (.val C),a3,some (.val W)]=.ok T) :
  zt (zI 4 e1) (sIf g (zI 2 e2) yc) [a0,a1,some (.val C),a3,a4]=.nx [a0,a1,some (.val (if b=true then T else C)),a3,some (.val W)]:=by
 cases b with
 |true=>have h3:=h3 rfl;simp only[zB,zF,yk,z7,set_cons_succ,set_cons_zero,Fl.of_ok,zV,if_true,h1,h2,h3]
 |false=>simp only[zB,zF,yk,z7,set_cons_succ,set_cons_zero,Fl.of_ok,zV,Bool.false_eq_true,if_false,h1,h2]
theorem zg4(q x l:List Nat)(c:Option Tl)(s4:Option Sl)(hq:q.length≤1000)(hx:x.length≤1000)(h:Lay q x l) :
  ∃t4,Xo [some (.val (tx q)),some (.val (tx x)),some (.val (vc c)),some (.val (nts l)),s4]=.nx [some (.val (tx q)),some (.val (tx x)),some (.val (vc (xq [(pts q x l q.length,l)] c))),some (.val (nts l)),t4]:=by
 have hp:=Jn q x l hq hx h
 have e1:zp yR (za (zc 0) (za (zc 1) (za (zc 3) zh))) [some (.val (tx q)),some (.val (tx x)),some (.val (vc c)),some (.val (nts l)),s4]=.ok (.int (pts q x l q.length)):=vm (zg rfl) (zg rfl) (zg rfl) hp
 have e2:∀C:D,xg (za (zc 4) (za (zc 3) zh)) [some (.val (tx q)),some (.val (tx x)),some (.val C),some (.val (nts l)),some (.val (.int (pts q x l q.length)))]=.ok (tlD (pts q x l q.length,l)):=fun C=>YO (zg rfl) (zg rfl)
 unfold Xo
 cases c with
 |none=>
  refine⟨some (.val (.int (pts q x l q.length))),(Lk _ _ _ _ _ _ _ _ _ _ true e1 (zl9 (xu (op2 (zg rfl) rfl T7))) fun _=>e2 _).trans ?_⟩
  rfl
 |some t=>
  have g:v4 (FD.tB (eOp isD (zc 2) (eC .non))) (FD.tB (eOp gtD (zc 4) (eOp ixD (zc 2) (eC (.int 0))))) [some (.val (tx q)),some (.val (tx x)),some (.val (vc (some t))),some (.val (nts l)),some (.val (.int (pts q x l q.length)))]=.ok (decide (t.1<pts q x l q.length)):=
   VZ (xu (op2 (zg rfl) rfl (T6 t))) (xu (op2 (zg rfl) (op2 (zg rfl) rfl (Vy t)) Uv))
  refine⟨some (.val (.int (pts q x l q.length))),(Lk _ _ _ _ _ _ _ _ _ _ _ e1 g fun _=>e2 _).trans ?_⟩
  by_cases z:t.1<pts q x l q.length
  ·simp only[z,decide_true,if_true,xq];rfl
  ·simp only[z,decide_false,Bool.false_eq_true,if_false,xq]
theorem Jx(t:Tl)(ts:List Tl)(c:Option Tl):xq (t::ts) c=xq ts (xq [t] c):=by
 cases c <;> rfl
theorem Qw(q x:List Nat)(hq:q.length≤1000)(hx:x.length≤1000):∀(ls:List (List Nat)) (c:Option Tl) (s3 s4:Option Sl),(∀l∈ls,Lay q x l)→∃t3 t4,ye (gNm 3) Xo (ls.map nts) [some (.val (tx q)),some (.val (tx x)),some (.val (vc c)),s3,s4]=.nx [some (.val (tx q)),some (.val (tx x)),some (.val (vc (xq (ls.map fun l=>(pts q x l q.length,l)) c))),t3,t4]:=by
 intro l_
 induction l_ with
 |nil=>
  rintro c s3 s4 _
  exact⟨s3,s4,rfl⟩
 |cons l ls ih_=>
  rintro c s3 s4 h
  obtain⟨t4,e⟩:=zg4 q x l c s4 hq hx (h l (mem_cons_self ..))
  obtain⟨u3,u4,ih⟩:=ih_ (xq [(pts q x l q.length,l)] c) (some (.val (nts l))) t4 fun m hm=>h m (mem_cons_of_mem _ hm)
  refine⟨u3,u4,?_⟩
  rw[map_cons,ye,vX,Fl.of_ok]
  simp only[set_cons_succ,set_cons_zero,e]
  rw[ih,map_cons,Jx (pts q x l q.length,l) (ls.map _) c]
theorem lb_b:u9=(zt (zI 2 (eC .non)) (zt (wk (xf (zp yJ (za (zc 0) (za (zc 1) zh)))) (gNm 3) Xo) (yd (zc 2)))):=by unfold u9 Xo;rfl
theorem zi5(it:FA)(b:FS)(A B R:D)(L:List D)(t3 t4:Option Sl)(h1:it [some (.val A),some (.val B),some (.val .non),none,none]=.ok L)(h2:ye (gNm 3) b L [some (.val A),some (.val B),some (.val .non),none,none]=.nx [some (.val A),some (.val B),some (.val R),t3,t4]) :
  yC 5 (zt (zI 2 (eC .non)) (zt (wk it (gNm 3) b) (yd (zc 2)))) [A,B]=.ok R:=by
 have st:zQ 5 [A,B]=[some (.val A),some (.val B),none,none,none]:=rfl
 rw[zW,st]
 simp only[zB,zF,zT,x9,zH,yv,getElem?_cons_zero,getElem?_cons_succ,set_cons_succ,set_cons_zero,zA,Fl.of_ok,zV,zJ,h1,h2]
theorem TW(q x:List Nat)(hq:q.length≤5)(hx:x.length≤10):xA [tx q,tx x]=.ok (vc (vd q x)):=by
 obtain⟨t3,t4,h⟩:=Qw q x (by lia) (by lia) (Z5 q x) none none none fun l hl=>(uS q x l).mp hl
 have it:xf (zp yJ (za (zc 0) (za (zc 1) zh))) [some (.val (tx q)),some (.val (tx x)),some (.val .non),none,none]=.ok ((Z5 q x).map nts):=by
  rw[jm,vn (zg rfl) (zg rfl) (zg5 q x hq hx)];rfl
 unfold xA
 rw[lb_b,← LQ]
 exact zi5 _ _ _ _ _ _ _ _ it h
theorem L0(q x:List Nat)(hq:q.length≤1000)(hx:x.length≤1000)(ha:∀c∈q,c<128):vW [tx q,tx x]=.ok (vc (vd q x)):=by
 by_cases z:q=[]
 ·subst z
  have st:zQ 4 [tx [],tx x]=[some (.val (tx [])),some (.val (tx x)),none,none]:=rfl
  have hl:=uG [] (by simp)
  have hg:FD.tB (eOp eqD (yb yN (za (zc 0) zh)) (eC (.int 0))) [some (.val (tx [])),some (.val (tx x)),none,none]=.ok true:=xu (op2 (u6 (zg rfl) hl) rfl rfl)
  have he:xg (za (eC (.int 0)) (za (xt zh) zh)) [some (.val (tx [])),some (.val (tx x)),none,none]=.ok (.tup [.int 0,.lst []]):=YO rfl Gz
  unfold vW
  rw[LP,zW,st,zB,yk,hg,Fl.of_ok,if_pos rfl,zT,he]
  rfl
 ·have:=zk5 q x z hq hx ha
  rw[this]
  unfold vd
  rw[if_neg z]
theorem GY(fc:FA)(g:FT)(fx:FE)(A B C:D)(L:List D)(b:Bool)(d:D)(h1:fc [some (.val A),some (.val B),some (.val C),none]=.ok L)(h2:g [some (.val A),some (.val B),some (.val C),some (.own L)]=.ok b)
  (h3:b=true→fx [some (.val A),some (.val B),some (.val C),some (.own L)]=.ok d∧0<L.length) :
  yC 4 (zt (uz 3 fc) (zt (sIf g (Q9 3 (eC (.int 0)) fx) yc) (uM 3))) [A,B,C]=.ok (.lst (if b=true then L.set 0 d else L)):=by
 have st:zQ 4 [A,B,C]=[some (.val A),some (.val B),some (.val C),none]:=rfl
 rw[zW,st]
 cases b with
 |false=>simp only[zB,vw,yk,vx,vy,z7,WR,yv,getElem?_cons_zero,getElem?_cons_succ,set_cons_succ,set_cons_zero,x6,Fl.of_ok,zV,zJ,Bool.false_eq_true,if_false,h1,h2,vw,vx,vy,x6,Bool.false_eq_true,if_false]
 |true=>
  obtain⟨h3,h4⟩:=h3 rfl
  have hp:=MT (n:=3) (τ:=[some (.val A),some (.val B),some (.val C),some (.own L)]) (d:=d) (j:=0) h4
  have e0:(((0:Nat):Int))=0:=rfl
  rw[e0] at hp
  simp only[zB,vw,yk,vx,vy,z7,WR,yv,getElem?_cons_zero,getElem?_cons_succ,set_cons_succ,set_cons_zero,x6,Fl.of_ok,zV,zJ,if_true,h1,h2,h3,vw,vx,vy,x6,WR,hp]
theorem zr3:uw=(zt (uz 3 (yD 1 [0,1] (vJ (za (zp zr (za (zc 0) (za (zc 1) (za (eOp zM (zc 2) (eC (.int 1))) zh)))) zh)) (gNm 0) (fun _=>.ok true) (zp xw (za (zc 1) (za (eOp zM (eOp zM (zc 2) (eC (.int 1))) (eOp ur (eC (.int 12)) (zc 0))) zh)))))
  (zt (sIf (jR (FD.tB (eOp gtD (UH 3) (eC (.int 1)))) (FD.tB (eOp eqD (zp zr (za (zc 0) (za (eOp zM (zc 1) (eC (.int 12))) (za (eC (.int 5)) zh)))) (eC (.int 0))))) (Q9 3 (eC (.int 0)) (G6 3 (wn (eC (.int 1))))) yc)
  (uM 3))):=by unfold uw;rfl
noncomputable def Mi(x:List Nat):Prop:=0<x.length∧x.length≤10∧∀c∈x,c∈NS
theorem TB(ns:List Int)(a:Int)(h0:0≤a):Mi (vP ns a (Wn ns a)):=by
 have d:=wY ns a (m:=10) (by decide)
 have hl:(vP ns a (Wn ns a)).length=(1+wo ns a 10).toNat:=by simp[vP,Wn]
 refine⟨by rw[hl];lia,by rw[hl];lia,fun c hc=>?_⟩
 obtain⟨k,_,rfl⟩:=mem_map.mp hc
 exact GA ns a k (by lia)
theorem zm8{f g:FT}{τ:DS}{b c:Bool}(h1:f τ=.ok b)(h2:b=true→g τ=.ok c):jR f g τ=.ok (b&&c):=by
 rw[jQ,h1,Rs.bind_ok]
 cases b with
 |false=>rfl
 |true=>rw[if_pos rfl,h2 rfl];rfl
theorem Tz(ns:List Int)(a most:Int)(h63:ns.length≤63)(h0:0≤a)(ha:a<800000)(hm0:0≤most)(hm1:most<50) :
  ∃X:List (List Nat),xN [.scr ns,.int a,.int most]=.ok (.lst (X.map tx))∧(X.length:Int)≤most∧∀x∈X,Mi x:=by
 have dl:=wY ns a (m:=most+1) (by lia)
 have dk:=wX ns a (most+1) h63 h0 (by lia) (by lia)
 have dk2:=wX ns (a+12) 5 h63 (by lia) (by lia) (by decide)
 generalize hN:wo ns a (most+1)=N at *
 generalize wo ns (a+12) 5=M at *
 have cf:=wH (set:=gNm 0) (fe:=(zp xw (za (zc 1) (za (eOp zM (eOp zM (zc 2) (eC (.int 1))) (eOp ur (eC (.int 12)) (zc 0))) zh)))) (τ:=[none,some (.val (.scr ns)),some (.val (.int a))]) (fun (k:Nat)=>D.int (0+k)) tx
  (fun k=>vP ns (a+1+12*(k:Int)) (Wn ns (a+1+12*(k:Int)))) (List.range N.toNat) fun k hk=>by
   have hk:=mem_range.mp hk
   refine⟨[some (.val (.int (k:Int))),some (.val (.scr ns)),some (.val (.int a))],by rw[Int.zero_add];rfl,?_⟩
   exact vn (zg rfl) (op2 (op2 (zg rfl) rfl yK) (op2 rfl (zg rfl) (uq (by lia))) yK) (zf3 ns _ h63 (by lia) (by lia))
 have it:vJ (za (zp zr (za (zc 0) (za (zc 1) (za (eOp zM (zc 2) (eC (.int 1))) zh)))) zh) [some (.val (.scr ns)),some (.val (.int a)),some (.val (.int most)),none]=.ok ((List.range N.toNat).map fun (k:Nat)=>D.int (0+k)):=
  Y1 (n:=N.toNat) (by rw[Int.toNat_of_nonneg dl.1];exact vm (zg rfl) (zg rfl) (op2 (zg rfl) rfl yK) dk) (by lia)
 have ec:=wc (k:=1) (idx:=[0,1]) it cf (by simp;lia)
 generalize hX0:(List.range N.toNat).map (fun (k:Nat)=>vP ns (a+1+12*(k:Int)) (Wn ns (a+1+12*(k:Int))))=X0 at ec cf
 have l0:X0.length=N.toNat:=by rw[← hX0];simp
 have ok0:∀x∈X0,Mi x:=fun x hx=>by
  rw[← hX0] at hx
  obtain⟨k,_,rfl⟩:=mem_map.mp hx
  exact TB ns _ (by lia)
 have hg:jR (FD.tB (eOp gtD (UH 3) (eC (.int 1)))) (FD.tB (eOp eqD (zp zr (za (zc 0) (za (eOp zM (zc 1) (eC (.int 12))) (za (eC (.int 5)) zh)))) (eC (.int 0)))) [some (.val (.scr ns)),some (.val (.int a)),some (.val (.int most)),some (.own (X0.map tx))]=.ok (decide (1<(X0.length:Int))&&(M==0)):=
  zm8 (xu (op2 (a:=.int (X0.length:Int)) (by rw[Lx];show Rs.ok (D.int ((X0.map tx).length:Int))=_;rw[length_map]) rfl Uv)) fun _=>xu (op2 (vm (zg rfl) (op2 (zg rfl) rfl yK) rfl dk2) rfl vj)
 have hne:(decide (1<(X0.length:Int))&&(M==0))=true→0<X0.length:=fun h=>by
  rw[Bool.and_eq_true,decide_eq_true_eq] at h;lia
 have e:=GY _ _ (G6 3 (wn (eC (.int 1)))) (.scr ns) (.int a) (.int most) (X0.map tx) _ (tx (X0.getD (X0.length-1) [])) ec hg fun h=>by
  have hp:=hne h
  refine⟨?_,by rw[length_map];exact hp⟩
  rw[zj5]
  show(Rs.ok (X0.map tx)).bind (fun ds=>(wn (eC (.int 1)) _).bind (ixO ds))=_
  rw[Rs.bind_ok,YG,yv,Rs.bind_ok]
  show(Rs.ok (D.int (-1))).bind _=_
  rw[Rs.bind_ok]
  unfold ixO
  have:atI (X0.map tx) (-1)=some (tx (X0.getD (X0.length-1) [])):=by
   have e:ixN (X0.map tx).length (-1)=some (X0.length-1):=by
    unfold ixN
    rw[length_map,if_neg (by lia),if_pos (by lia)]
    congr 1;lia
   unfold atI
   rw[e]
   show(X0.map tx)[X0.length-1]?=_
   rw[getElem?_map,getElem?_eq_getElem (by lia)]
   simp[show X0.length-1<X0.length by lia]
  simp only[this]
 unfold xN
 rw[zr3,e]
 cases hb:(decide (1<(X0.length:Int))&&(M==0)) with
 |false=>exact⟨X0,by rw[if_neg (by simp)],by lia,ok0⟩
 |true=>
  have hp:=hne hb
  refine⟨X0.set 0 (X0.getD (X0.length-1) []),by rw[if_pos rfl,List.map_set],by rw[length_set];lia,fun x hx=>?_⟩
  rcases List.mem_or_eq_of_mem_set hx with h|h
  ·exact ok0 x h
  ·rw[h]
   have:X0.getD (X0.length-1) []=X0[X0.length-1]'(by lia):=by simp[show X0.length-1<X0.length by lia]
   rw[this]
   exact ok0 _ (getElem_mem _)
theorem Uu{α β:Type}(f:α→β)(x:List Int×α):∀l:List (List Int×α),Xv (x.1,f x.2) (l.map fun p=>(p.1,f p.2))=(Xv x l).map fun p=>(p.1,f p.2):=by
 intro l_
 induction l_ with
 |nil=>
  exact rfl
 |cons y r ih_=>
  rw[map_cons,Xv,Xv]
  split
  ·rfl
  ·rw[ih_];rfl
theorem Wh{α β:Type}(f:α→β):∀l:List (List Int×α),we (l.map fun p=>(p.1,f p.2))=(we l).map fun p=>(p.1,f p.2):=by
 intro l_
 induction l_ with
 |nil=>
  exact rfl
 |cons x r ih_=>
  rw[map_cons,we,we,ih_,Uu]
noncomputable def vh{α:Type}(key:α→List Int)(rs:List α):List α:=(we (rs.map fun r=>(key r,r))).map (·.2)
theorem za6{α:Type}(key:α→List Int)(f:α→D)(rs:List α):(we ((rs.map key).zip (rs.map f))).map (·.2)=(vh key rs).map f:=by
 have e:(rs.map key).zip (rs.map f)=(rs.map fun r=>(key r,r)).map fun p=>(p.1,f p.2):=by
  induction rs with
  |nil=>rfl
  |cons r rs ih=>simp only[map_cons,List.zip_cons_cons,ih]
 rw[e,Wh]
 unfold vh
 rw[map_map,map_map];rfl
theorem YS{α:Type}(key:α→List Int)(rs:List α):(vh key rs).Perm rs:=by
 have:=(uf (rs.map fun r=>(key r,r))).map (·.2)
 rw[map_map] at this
 have e:rs.map ((fun p:List Int×α=>p.2) ∘ fun r=>(key r,r))=rs:=by
  rw[show((fun p:List Int×α=>p.2) ∘ fun r=>(key r,r))=id from rfl,map_id]
 rw[e] at this
 exact this
noncomputable def kD(k:List Int):D:=.tup (k.map D.int)
theorem Wz:∀k:List Int,Xq (k.map D.int)=some k:=by
 intro l_
 induction l_ with
 |nil=>
  exact rfl
 |cons i k ih_=>
  show(Xq (k.map D.int)).map (i :: ·)=_
  rw[ih_];rfl
theorem zs7(k:List Int):zh4 (kD k)=some k:=Wz k
theorem Wv{α:Type}(key:α→List Int):∀rs:List α,Z8 (rs.map fun r=>kD (key r))=some (rs.map key):=by
 intro l_
 induction l_ with
 |nil=>
  exact rfl
 |cons r rs ih_=>
  rw[map_cons,Z8,zs7,ih_];rfl
theorem YW{α:Type}(key:α→List Int)(f:α→D)(rs:List α)(h64:rs.length<64)(nd:(rs.map key).Nodup)(ne:∀r,key r≠[]):uJ (rs.map fun r=>kD (key r)) (rs.map f)=.ok (.lst ((vh key rs).map f)):=by
 unfold uJ
 rw[Wv]
 simp only
 rw[if_pos ⟨by simpa using h64,nd,fun k hk=>by obtain⟨r,_,rfl⟩:=mem_map.mp hk;exact ne r⟩,za6]
theorem Z6{α:Type}{idx:List Nat}{fb:FE}{τ:DS}(key:α→List Int)(f:α→D):∀rs:List α,(∀r∈rs,GM idx fb τ (f r)=.ok (kD (key r)))→vq idx fb τ (rs.map f)=.ok (rs.map fun r=>kD (key r)):=by
 intro l_
 induction l_ with
 |nil=>
  rintro _
  exact rfl
 |cons r rs ih_=>
  rintro h
  rw[map_cons,vq,h r mem_cons_self]
  simp only[ih_ fun s hs=>h s (mem_cons_of_mem _ hs),map_cons]
theorem Jz{α:Type}{idx:List Nat}{fe fb:FE}{τ:DS}(key:α→List Int)(f:α→D)(rs:List α)(h:fe τ=.ok (.lst (rs.map f)))(hk:∀r∈rs,GM idx fb τ (f r)=.ok (kD (key r)))(h64:rs.length<64)(nd:(rs.map key).Nodup)(ne:∀r,key r≠[]) :
  XI idx fe fb τ=.ok (.lst ((vh key rs).map f)):=by
 unfold XI
 rw[h,Rs.bind_ok]
 simp only[Z6 key f rs hk]
 exact YW key f rs h64 nd ne
theorem U3{α:Type}(key:α→List Int)(rs:List α)(h64:rs.length<64)(nd:(rs.map key).Nodup)(ne:∀r,key r≠[]):YV [.lst (rs.map fun r=>kD (key r))]=.ok (.lst ((vh key rs).map fun r=>kD (key r))):=
 YW key (fun r=>kD (key r)) rs h64 nd ne
noncomputable abbrev Rw:=Int×Nat
noncomputable def zS(r:Rw):D:=.tup [.int r.1,.int (r.2:Int)]
theorem MN(r:Rw):ixD (zS r) (.int 0)=.ok (.int r.1):=rfl
theorem VO(r:Rw):ixD (zS r) (.int 1)=.ok (.int (r.2:Int)):=rfl
theorem ZH{key:Rw→List Int}(hk:∀r s,key r=key s→r.2=s.2):∀rs:List Rw,(rs.map (·.2)).Nodup→(rs.map key).Nodup:=by
 intro l_
 induction l_ with
 |nil=>
  rintro _
  exact List.nodup_nil
 |cons r rs ih_=>
  rintro h
  rw[map_cons,nodup_cons] at h ⊢
  refine⟨fun hm=>h.1 ?_,ih_ h.2⟩
  obtain⟨s,hs,e⟩:=mem_map.mp hm
  exact mem_map.mpr ⟨s,hs,hk s r e⟩
noncomputable def vI(X:List (List Nat))(r:Rw):List Int:=[-r.1,((X.getD r.2 []).length:Int),(r.2:Int)]
theorem Uj(X:List (List Nat))(r s:Rw)(h:vI X r=vI X s):r.2=s.2:=by
 unfold vI at h
 injection h with h1 h2
 injection h2 with h2 h3
 injection h3 with h3 _
 lia
theorem UF{α:Type}(f:α→D):∀(X:List α) (k:Nat),yu k (X.map f)=(X.zipIdx k).map fun p=>D.tup [.int (p.2:Int),f p.1]:=by
 intro l_
 induction l_ with
 |nil=>
  rintro _
  exact rfl
 |cons x X ih_=>
  rintro k
  rw[map_cons,yu,List.zipIdx_cons,map_cons,ih_ (k+1)]
theorem size3:∀a b c:D,([a,b,c]:List D).length≤sizeLine:=fun a b c=>by rw[sizeLine_v];exact Nat.le_of_ble_eq_true rfl
theorem zn2{fa fb fc:FE}{τ:DS}{a b c:D}(h1:fa τ=.ok a)(h2:fb τ=.ok b)(h3:fc τ=.ok c):xg (za fa (za fb (za fc zh))) τ=.ok (.tup [a,b,c]):=by
 rw[QL,zx,h1,Rs.bind_ok,zx,h2,Rs.bind_ok,zx,h3,Rs.bind_ok,zZ,Rs.bind_ok,Rs.bind_ok,Rs.bind_ok,Rs.bind_ok]
 exact if_pos (size3 a b c)
theorem Tw{fa:FE}{τ:DS}{i:Int}(h:fa τ=.ok (.int i)):wn fa τ=.ok (.int (-i)):=by rw[YG,h];rfl
theorem j8(X:List (List Nat))(i:Nat)(h:i<X.length):ixD (.lst (X.map tx)) (.int (i:Int))=.ok (tx (X.getD i [])):=by
 refine Vf (QY ?_)
 rw[getElem?_map,getElem?_eq_getElem h]
 simp[h]
theorem JR(ds:List D)(n:Nat):slD (.lst ds) none (some (n:Int))=.ok (.lst (ds.take n)):=by
 have:FD.cutD ds none (some (n:Int))=ds.take n:=by
  have e0:HT.sIx ds.length 0 none=0:=rfl
  have e1:HT.sIx ds.length ds.length (some (n:Int))=min n ds.length:=by
   unfold HT.sIx
   have:¬ ((n:Int)<0):=by lia
   simp[this]
  unfold FD.cutD
  rw[e0,e1,List.drop_zero,Nat.sub_zero]
  rcases Nat.le_total n ds.length with z|z
  ·rw[Nat.min_eq_left z]
  ·rw[Nat.min_eq_right z,List.take_length,take_of_length_le z]
 show Rs.ok (D.lst (FD.cutD ds none (some (n:Int))))=_
 rw[this]
theorem zd5:jL=(yd (XI [0] (zc 1) (xg (za (wn (eOp ixD (zc 0) (eC (.int 0)))) (za (yb yN (za (eOp ixD (zc 1) (eOp ixD (zc 0) (eC (.int 1)))) zh)) (za (eOp ixD (zc 0) (eC (.int 1))) zh)))))):=by unfold jL;rfl
structure zk9(X:List (List Nat))(rs:List Rw):Prop where
 few:rs.length<64
 nd:(rs.map (·.2)).Nodup
 lt:∀r∈rs,r.2<X.length
 sz:∀x∈X,x.length≤1000
theorem getD_mem{X:List (List Nat)}{i:Nat}(h:i<X.length):X.getD i []∈X:=by
 have:X.getD i []=X[i]:=by simp[h]
 rw[this];exact getElem_mem _
theorem VY(X:List (List Nat))(rs:List Rw)(h:zk9 X rs):yZ [.lst (X.map tx),.lst (rs.map zS)]=.ok (.lst ((vh (vI X) rs).map zS)):=by
 have st:zQ 2 [.lst (X.map tx),.lst (rs.map zS)]=[some (.val (.lst (X.map tx))),some (.val (.lst (rs.map zS)))]:=rfl
 unfold yZ
 rw[zd5,zW,st,zT,Jz (vI X) zS rs (zg rfl) (fun r hr=>?_) h.few (ZH (Uj X) rs h.nd) (fun r z=>nomatch z)]
 ·rfl
 ·have hlt:=h.lt r hr
  have hsz:=h.sz _ (getD_mem hlt)
  have:xg (za (wn (eOp ixD (zc 0) (eC (.int 0)))) (za (yb yN (za (eOp ixD (zc 1) (eOp ixD (zc 0) (eC (.int 1)))) zh)) (za (eOp ixD (zc 0) (eC (.int 1))) zh))) [some (.val (zS r)),some (.val (.lst (X.map tx)))]=.ok (kD (vI X r)):=zn2 (Tw (op2 (zg rfl) rfl (MN r))) (u6 (op2 (zg rfl) (op2 (zg rfl) rfl (VO r)) (j8 X r.2 hlt)) (uG _ hsz)) (op2 (zg rfl) rfl (VO r))
  exact this
theorem zr9(i j:Int):Xi [.int i,.int j]=.ok (.int (if i<j then j else i)):=rfl
theorem zi8:uv=(yd (eSl (zp yZ (za (zc 0) (za (zc 1) zh))) Xd (v7 (yb Xi (za (zc 2) (za (eC (.int 0)) zh)))))):=by unfold uv;rfl
theorem zu9{g:List D→Rs D}{fa fb:FE}{τ:DS}{a b d:D}(h1:fa τ=.ok a)(h2:fb τ=.ok b)(h:g [a,b]=.ok d):yb g (za fa (za fb zh)) τ=.ok d:=by
 rw[vS,zx,h1,Rs.bind_ok,zx,h2,Rs.bind_ok,zZ,Rs.bind_ok,Rs.bind_ok,Rs.bind_ok,h]
theorem Tg{fa:FE}{τ:DS}{i:Int}(h:fa τ=.ok (.int i)):v7 fa τ=.ok (some i):=by rw[V3,h];rfl
theorem Lv(X:List (List Nat))(rs:List Rw)(many:Nat)(h:zk9 X rs):y8 [.lst (X.map tx),.lst (rs.map zS),.int (many:Int)]=.ok (.lst (((vh (vI X) rs).take many).map zS)):=by
 have st:zQ 3 [.lst (X.map tx),.lst (rs.map zS),.int (many:Int)]=[some (.val (.lst (X.map tx))),some (.val (.lst (rs.map zS))),some (.val (.int (many:Int)))]:=rfl
 have hm:Xi [.int (many:Int),.int 0]=.ok (.int (many:Int)):=by
  rw[zr9];rw[if_neg (by lia)]
 have e:eSl (zp yZ (za (zc 0) (za (zc 1) zh))) Xd (v7 (yb Xi (za (zc 2) (za (eC (.int 0)) zh)))) [some (.val (.lst (X.map tx))),some (.val (.lst (rs.map zS))),some (.val (.int (many:Int)))]=.ok (.lst (((vh (vI X) rs).take many).map zS)):=
  sl_ok (vn (zg rfl) (zg rfl) (VY X rs h)) rfl (Tg (zu9 (zg rfl) rfl hm)) (by rw[JR,List.map_take])
 unfold y8
 rw[zi8,zW,st,zT,e];rfl
theorem zi3(e1 e2:FE)(A B C R:D)(h1:e1 [some (.val A),some (.val B),none]=.ok C)(h2:e2 [some (.val A),some (.val B),some (.val C)]=.ok R):yC 3 (zt (zI 2 e1) (yd e2)) [A,B]=.ok R:=by
 have st:zQ 3 [A,B]=[some (.val A),some (.val B),none]:=rfl
 rw[zW,st]
 simp only[zB,zF,zT,set_cons_succ,set_cons_zero,Fl.of_ok,zV,zJ,h1,h2]
noncomputable def fr1(X:List (List Nat))(q:List Nat)(i:Nat):Option Rw:=(vd q (X.getD i [])).map fun t=>(t.1,i)
noncomputable def Zk:FS:=(zt (zI 5 (zp vW (za (zc 1) (za (eOp ixD (zc 0) (zc 4)) zh))))
  (sIf (FD.tB (eOp ww (zc 5) (eC .non))) (VM 3 (xg (za (eOp ixD (zc 5) (eC (.int 0))) (za (zc 4) zh)))) yc))
theorem fit_b:vD=(zt (uz 3 (fun τ=>(zh τ).bind fun ds=>if ds.length≤sizeLine then .ok ds else .no)) (zt (wk (xf (zc 2)) (gNm 4) Zk) (uM 3))):=by unfold vD Zk;rfl
theorem Lo(e e2:FE)(a0 a1 a2 a3 a4 a5:Option Sl)(h:e [a0,a1,a2,a3,a4,a5]=.ok .non) :
  (zt (zI 5 e) (sIf (FD.tB (eOp ww (zc 5) (eC .non))) (VM 3 e2) yc)) [a0,a1,a2,a3,a4,a5]=.nx [a0,a1,a2,a3,a4,some (.val .non)]:=by
 simp only[zB,zF,yk,z7,jW,wy,yg,zH,yv,getElem?_cons_zero,getElem?_cons_succ,set_cons_succ,set_cons_zero,zA,Rs.bind_ok,Fl.of_ok,zV,yh,Bool.false_eq_true,if_false,h,Wy]
theorem Ln(e e2:FE)(a0 a1 a2 a4 a5:Option Sl)(L:List D)(t:Tl)(R:D)(h:e [a0,a1,a2,some (.own L),a4,a5]=.ok (tlD t))(h2:e2 [a0,a1,a2,some (.own L),a4,some (.val (tlD t))]=.ok R)(hl:L.length<sizeLine) :
  (zt (zI 5 e) (sIf (FD.tB (eOp ww (zc 5) (eC .non))) (VM 3 e2) yc)) [a0,a1,a2,some (.own L),a4,a5]=.nx [a0,a1,a2,some (.own (L++[R])),a4,some (.val (tlD t))]:=by
 simp only[zB,zF,yk,z7,jW,wy,yg,zH,yv,getElem?_cons_zero,getElem?_cons_succ,set_cons_succ,set_cons_zero,zA,x6,Rs.bind_ok,Fl.of_ok,zV,yh,if_true,h,Ul,h2,jW,x6]
 rw[if_pos hl]
theorem Lu(X:List (List Nat))(q:List Nat)(i:Nat)(a2 a5:Option Sl)(acc:List Rw)(hi:i<X.length)(hq:q.length≤1000)(hX:∀x∈X,x.length≤1000)(ha:∀c∈q,c<128)(hc:acc.length≤1000) :
  ∃t5,Zk [some (.val (.lst (X.map tx))),some (.val (tx q)),a2,some (.own (acc.map zS)),some (.val (.int (i:Int))),a5]=.nx [some (.val (.lst (X.map tx))),some (.val (tx q)),a2,some (.own ((acc++(fr1 X q i).toList).map zS)),some (.val (.int (i:Int))),t5]:=by
 have hb:=L0 q (X.getD i []) hq (hX _ (getD_mem hi)) ha
 have he:zp vW (za (zc 1) (za (eOp ixD (zc 0) (zc 4)) zh)) [some (.val (.lst (X.map tx))),some (.val (tx q)),a2,some (.own (acc.map zS)),some (.val (.int (i:Int))),a5]=.ok (vc (vd q (X.getD i []))):=
  vn (zg rfl) (op2 (zg rfl) (zg rfl) (j8 X i hi)) hb
 unfold Zk fr1
 cases z:vd q (X.getD i []) with
 |none=>
  rw[z] at he
  exact⟨some (.val .non),(Lo _ _ _ _ _ _ _ _ he).trans (by simp)⟩
 |some t=>
  rw[z] at he
  have h2:xg (za (eOp ixD (zc 5) (eC (.int 0))) (za (zc 4) zh)) [some (.val (.lst (X.map tx))),some (.val (tx q)),a2,some (.own (acc.map zS)),some (.val (.int (i:Int))),some (.val (tlD t))]=.ok (zS (t.1,i)):=YO (op2 (zg rfl) rfl (Vy t)) (zg rfl)
  exact⟨some (.val (tlD t)),(Ln _ _ _ _ _ _ _ _ t _ he h2 (by rw[sizeLine_v,length_map];lia)).trans (by simp)⟩
noncomputable def Vn(X:List (List Nat))(q:List Nat)(is:List Nat):List Rw:=is.flatMap fun i=>(fr1 X q i).toList
theorem UA(X:List (List Nat))(q:List Nat)(a2:Option Sl)(hq:q.length≤1000)(hX:∀x∈X,x.length≤1000)(ha:∀c∈q,c<128):∀(is:List Nat) (acc:List Rw) (a4 a5:Option Sl),(∀i∈is,i<X.length)→acc.length+is.length≤1000 →
  ∃t4 t5,ye (gNm 4) Zk (is.map fun (i:Nat)=>D.int i) [some (.val (.lst (X.map tx))),some (.val (tx q)),a2,some (.own (acc.map zS)),a4,a5]=.nx [some (.val (.lst (X.map tx))),some (.val (tx q)),a2,some (.own ((acc++Vn X q is).map zS)),t4,t5]:=by
 intro l_
 induction l_ with
 |nil=>
  rintro acc a4 a5 _ _
  exact⟨a4,a5,by unfold Vn;simp[ye]⟩
 |cons i is ih_=>
  rintro acc a4 a5 hi hc
  rw[length_cons] at hc
  obtain⟨t5,e⟩:=Lu X q i a2 a5 acc (hi i mem_cons_self) hq hX ha (by lia)
  have hl:(acc++(fr1 X q i).toList).length+is.length≤1000:=by
   rw[length_append]
   have:(fr1 X q i).toList.length≤1:=by cases fr1 X q i <;> simp
   lia
  obtain⟨u4,u5,ih⟩:=ih_ (acc++(fr1 X q i).toList) (some (.val (.int (i:Int)))) t5 (fun j hj=>hi j (mem_cons_of_mem _ hj)) hl
  refine⟨u4,u5,?_⟩
  rw[map_cons,ye,vX,Fl.of_ok]
  simp only[set_cons_succ,set_cons_zero,e]
  rw[ih]
  unfold Vn
  rw[flatMap_cons,append_assoc]
theorem nilO(τ:DS):(fun τ=>(zh τ).bind fun ds=>if ds.length≤sizeLine then Rs.ok ds else Rs.no) τ=.ok []:=by
 show(if ([]:List D).length≤sizeLine then Rs.ok [] else Rs.no)=_
 exact if_pos (zero_le sizeLine)
theorem Lm(e:FA)(b:FS)(A B C:D)(L R:List D)(t4 t5:Option Sl)(h0:e [some (.val A),some (.val B),some (.val C),none,none,none]=.ok [])(hi:Uk C=.ok L)
  (h1:ye (gNm 4) b L [some (.val A),some (.val B),some (.val C),some (.own []),none,none]=.nx [some (.val A),some (.val B),some (.val C),some (.own R),t4,t5]) :
  yC 6 (zt (uz 3 e) (zt (wk (xf (zc 2)) (gNm 4) b) (uM 3))) [A,B,C]=.ok (.lst R):=by
 have st:zQ 6 [A,B,C]=[some (.val A),some (.val B),some (.val C),none,none,none]:=rfl
 rw[zW,st]
 simp only[zB,vw,vx,vy,x9,jm,zH,getElem?_cons_zero,getElem?_cons_succ,set_cons_succ,set_cons_zero,zA,x6,Rs.bind_ok,Fl.of_ok,zV,zJ,h0,hi,h1,vw,vx,vy,x6]
theorem zi7(X:List (List Nat))(q:List Nat)(is:List Nat)(hq:q.length≤1000)(hX:∀x∈X,x.length≤1000)(ha:∀c∈q,c<128)(hi:∀i∈is,i<X.length)(hl:is.length≤1000) :
  yH [.lst (X.map tx),tx q,.lst (is.map fun (i:Nat)=>D.int i)]=.ok (.lst ((Vn X q is).map zS)):=by
 obtain⟨t4,t5,h⟩:=UA X q (some (.val (.lst (is.map fun (i:Nat)=>D.int i)))) hq hX ha is [] none none hi (by simpa using hl)
 unfold yH
 rw[fit_b]
 exact Lm _ _ _ _ _ _ _ _ _ (nilO _) rfl (by simpa using h)
theorem or_b{f g:FT}{τ:DS}{b c:Bool}(h1:f τ=.ok b)(h2:b=false→g τ=.ok c):v4 f g τ=.ok (b||c):=by
 cases b with
 |true=>exact zl9 h1
 |false=>exact VZ h1 (h2 rfl)
theorem WD:∀rs:List Rw,plainDs (rs.map zS)=true∧PyData.canLayAll0 (toPys (rs.map zS))=true∧PyData.depthAll (toPys (rs.map zS))≤1:=by
 intro l_
 induction l_ with
 |nil=>
  exact⟨rfl,rfl,zero_le _⟩
 |cons r rs ih_=>
  obtain⟨h1,h2,h3⟩:=ih_
  refine⟨by simp[plainDs,y4,zS,h1],by simp[toPys,yB,zS,PyData.canLayAll0,PyData.canLay0,h2],?_⟩
  simp only[map_cons,toPys,yB,zS,PyData.depthAll,PyData.depth]
  lia
theorem UD:∀rs:List Rw,PyData.eqvAll (toPys (rs.map zS)) (toPys (rs.map zS))=true:=by
 intro l_
 induction l_ with
 |nil=>
  rfl
 |cons r rs ih_=>
  have:=ih_
  simp[toPys,yB,zS,PyData.eqvAll,PyData.eqv,this]
noncomputable def abcN:List Nat:=[97,98,99]
theorem abc_s:("abc" : Str)=⟨abcN.toArray⟩:=by decide +kernel
theorem zv5:Mi abcN:=⟨by decide,by decide,by decide⟩
theorem zk2(X:List (List Nat))(h:X.length≤1000):zM (.lst (X.map tx)) (.lst [.str "abc"])=.ok (.lst ((X++[abcN]).map tx)):=by
 show(if _ then Rs.ok (D.lst _) else Rs.no)=_
 rw[if_pos (by rw[sizeLine_v,length_map,length_singleton];lia),map_append,abc_s]
 rfl
noncomputable def qE(a b m:Int):FE:=(zp xM (za (zc 0) (za (eC (.int a)) (za (eOp ixD (eOp zM (zc 1) (xt (za (eC (.str "abc")) zh))) (zp zr (za (zc 0) (za (eC (.int b)) (za (eOp zM (yb yN (za (zc 1) zh)) (eC (.int 1))) zh))))) (za (eC (.int m)) zh)))))
theorem zu8{f:List D→Rs D}{fa fb fc fd:FE}{τ:DS}{a b c d r:D}(h1:fa τ=.ok a)(h2:fb τ=.ok b)(h3:fc τ=.ok c)(h4:fd τ=.ok d)(h:f [a,b,c,d]=.ok r):zp f (za fa (za fb (za fc (za fd zh)))) τ=.ok r:=by
 rw[y3,zx,h1,Rs.bind_ok,zx,h2,Rs.bind_ok,zx,h3,Rs.bind_ok,zx,h4,Rs.bind_ok,zZ,Rs.bind_ok,Rs.bind_ok,Rs.bind_ok,Rs.bind_ok,Rs.bind_ok,h];rfl
theorem qE_ok(ns:List Int)(X:List (List Nat))(a b m:Int)(h63:ns.length≤63)(ha0:0≤a)(ha:a<900000)(hb0:0≤b)(hb:b<900000)(hm0:0≤m)(hm:m<50)(hX:∀x∈X,Mi x)(hl:X.length≤1000)(r:DS) :
  ∃q:List Nat,(q.length:Int)≤m∧(∀c∈q,c∈QS)∧qE a b m (some (.val (.scr ns))::some (.val (.lst (X.map tx)))::r)=.ok (tx q):=by
 have dl:=wY ns b (m:=(X.length:Int)+1) (by lia)
 have dk:=wX ns b ((X.length:Int)+1) h63 hb0 (by lia) (by lia)
 generalize wo ns b ((X.length:Int)+1)=M at dl dk
 have hi:M.toNat<(X++[abcN]).length:=by rw[length_append,length_singleton];lia
 have hm':(X++[abcN]).getD M.toNat []∈X++[abcN]:=getD_mem hi
 have hn:Mi ((X++[abcN]).getD M.toNat []):=by
  rcases mem_append.mp hm' with z|z
  ·exact hX _ z
  ·have:(X++[abcN]).getD M.toNat []=abcN:=by simpa using z
   rw[this];exact zv5
 obtain⟨q,q1,q2,q3⟩:=MR ns a ((X++[abcN]).getD M.toNat []) m h63 ha0 ha hm0 hm hn.1 (le_trans hn.2.1 (by decide)) hn.2.2
 refine⟨q,q1,q2,?_⟩
 have ix:=j8 (X++[abcN]) M.toNat hi
 rw[Int.toNat_of_nonneg dl.1] at ix
 unfold qE
 exact zu8 (zg rfl) rfl (op2 (op2 (zg rfl) (Ua rfl) (zk2 X hl)) (vm (zg rfl) rfl (op2 (u6 (zg rfl) uU) rfl (by rw[length_map];exact yK)) dk) ix) rfl q3
noncomputable def vt(X:List (List Nat))(q:List Nat):List Rw:=Vn X q (List.range X.length)
theorem Zt(X:List (List Nat))(q:List Nat):∀is:List Nat,((Vn X q is).map (·.2)).Sublist is:=by
 intro l_
 induction l_ with
 |nil=>
  exact List.Sublist.refl _
 |cons i is ih_=>
  have ih:=ih_
  unfold Vn at ih ⊢
  rw[flatMap_cons,map_append]
  unfold fr1 at ih ⊢
  cases z:vd q (X.getD i []) with
  |none=>simp;exact List.Sublist.cons _ (by simpa using ih)
  |some t=>simp;exact(by simpa using ih)
theorem Zu(X:List (List Nat))(q:List Nat)(hX:∀x∈X,x.length≤1000)(hl:X.length<64):zk9 X (vt X q):=by
 have s:=Zt X q (List.range X.length)
 refine⟨?_,s.nodup List.nodup_range,fun r hr=>?_,hX⟩
 ·have:=s.length_le
  rw[length_map,length_range] at this
  unfold vt;lia
 ·have:=s.mem (mem_map.mpr ⟨r,hr,rfl⟩)
  simpa using this
theorem J0(n:Nat):((List.range n).map fun (k:Nat)=>D.int (0+k))=(List.range n).map fun (i:Nat)=>D.int i:=map_congr_left fun k _=>by rw[Int.zero_add]
theorem all_b:jM=(yd (zp yH (za (zc 0) (za (zc 1) (za (fun τ=>((V9 (vJ (za (yb yN (za (zc 0) zh)) zh))) τ).bind fun ds=>.ok (.lst ds)) zh))))):=by unfold jM;rfl
theorem JL(X:List (List Nat))(q:List Nat)(hq:q.length≤1000)(hX:∀x∈X,x.length≤1000)(ha:∀c∈q,c<128)(hl:X.length<64):yq [.lst (X.map tx),tx q]=.ok (.lst ((vt X q).map zS)):=by
 have st:zQ 2 [.lst (X.map tx),tx q]=[some (.val (.lst (X.map tx))),some (.val (tx q))]:=rfl
 have r1:vJ (za (yb yN (za (zc 0) zh)) zh) [some (.val (.lst (X.map tx))),some (.val (tx q))]=.ok ((List.range X.length).map fun (i:Nat)=>D.int i):=by
  rw[← J0]
  exact Y1 (u6 (zg rfl) (by rw[uU,length_map])) (by lia)
 have e:zp yH (za (zc 0) (za (zc 1) (za (fun τ=>((V9 (vJ (za (yb yN (za (zc 0) zh)) zh))) τ).bind fun ds=>.ok (.lst ds)) zh))) [some (.val (.lst (X.map tx))),some (.val (tx q))]=.ok (.lst ((vt X q).map zS)):=by
  refine vm (zg rfl) (zg rfl) ?_ (zi7 X q (List.range X.length) hq hX ha (fun i hi=>mem_range.mp hi) (by rw[length_range];lia))
  unfold V9
  rw[r1,Rs.bind_ok,if_pos (by rw[length_map,length_range];lia)];rfl
 unfold yq
 rw[all_b,zW,st,zT,e];rfl
theorem zi9:Vs=(yd (zp y8 (za (zc 0) (za (zp yq (za (zc 0) (za (zc 1) zh))) (za (zc 2) zh))))):=by unfold Vs;rfl
theorem UB(X:List (List Nat))(q:List Nat)(many:Nat)(hq:q.length≤1000)(hX:∀x∈X,x.length≤1000)(ha:∀c∈q,c<128)(hl:X.length<64):wG [.lst (X.map tx),tx q,.int (many:Int)]=.ok (.lst (((vh (vI X) (vt X q)).take many).map zS)):=by
 have st:zQ 3 [.lst (X.map tx),tx q,.int (many:Int)]=[some (.val (.lst (X.map tx))),some (.val (tx q)),some (.val (.int (many:Int)))]:=rfl
 have e:zp y8 (za (zc 0) (za (zp yq (za (zc 0) (za (zc 1) zh))) (za (zc 2) zh))) [some (.val (.lst (X.map tx))),some (.val (tx q)),some (.val (.int (many:Int)))]=.ok (.lst (((vh (vI X) (vt X q)).take many).map zS)):=
  vm (zg rfl) (vn (zg rfl) (zg rfl) (JL X q hq hX ha hl)) (zg rfl) (Lv X _ many (Zu X q hX hl))
 unfold wG
 rw[zi9,zW,st,zT,e];rfl
theorem Qp(rs:List Rw):neD (.lst (rs.map zS)) (.lst (rs.map zS))=.ok (.bl false):=by
 obtain⟨a,b,c⟩:=WD rs
 have ok:okD (.lst (rs.map zS))=true:=by
  simp[okD,y4,yB,PyData.canLay0,PyData.depth,a,b]
  lia
 have ev:wK (.lst (rs.map zS)) (.lst (rs.map zS))=true:=by
  simp[wK,yB,PyData.eqv,UD]
 unfold neD
 simp only[ok,and_self,if_true,ev,Bool.not_true]
theorem wf{f g:FS}{τ τ':DS}(h:f τ=.nx τ'):zt f g τ=g τ':=by rw[zB,h,zV]
theorem if_f{g:FT}{a b:FS}{τ:DS}(h:g τ=.ok false):sIf g a b τ=b τ:=by rw[yk,h,Fl.of_ok,if_neg (by simp)]
theorem if_t{g:FT}{a b:FS}{τ:DS}(h:g τ=.ok true):sIf g a b τ=a τ:=by rw[yk,h,Fl.of_ok,if_pos rfl]
theorem GT{g:FT}{a:FS}{τ:DS}(h:g τ=.ok false):sIf g a yc τ=.nx τ:=if_f h
theorem vU{i:Nat}{fe:FE}{τ:DS}{d:D}(h:fe τ=.ok d):zI i fe τ=.nx (τ.set i (some (.val d))):=by rw[zF,h,Fl.of_ok]
theorem WV{fe:FE}{τ:DS}{d:D}(h:fe τ=.ok d):yd fe τ=.rt d:=by rw[zT,h,Fl.of_ok]
theorem LV{fa:FE}{τ:DS}{a:D}(h:fa τ=.ok a):za fa zh τ=.ok [a]:=by rw[zx,h,Rs.bind_ok,zZ,Rs.bind_ok]
theorem arg2{fa fb:FE}{τ:DS}{a b:D}(h:fa τ=.ok a)(h2:fb τ=.ok b):za fa (za fb zh) τ=.ok [a,b]:=by rw[zx,h,Rs.bind_ok,LV h2,Rs.bind_ok]
noncomputable def gd:Nat→D→Prop
 |_,.str x=>PyData.strOk x=true
 |_,.int _=>True
 |_,.bl _=>True
 |_,.non=>True
 |n+1,.lst ds=>∀d∈ds,gd n d
 |n+1,.tup ds=>∀d∈ds,gd n d
 |_,_=>False
theorem Jw{n:Nat}(ih:∀d,gd n d→y4 d=true∧(yB d).canLay0=true∧(yB d).depth≤n∧PyData.eqv (yB d) (yB d)=true):∀ds:List D,(∀d∈ds,gd n d)→plainDs ds=true∧PyData.canLayAll0 (toPys ds)=true∧PyData.depthAll (toPys ds)≤n∧PyData.eqvAll (toPys ds) (toPys ds)=true:=by
 intro l_
 induction l_ with
 |nil=>
  rintro _
  exact⟨rfl,rfl,zero_le _,by simp[toPys,PyData.eqvAll]⟩
 |cons d ds ih_=>
  rintro h
  obtain⟨a1,a2,a3,a4⟩:=ih d (h d mem_cons_self)
  obtain⟨b1,b2,b3,b4⟩:=ih_ fun e he=>h e (mem_cons_of_mem _ he)
  refine⟨by simp[plainDs,a1,b1],by simp[toPys,PyData.canLayAll0,a2,b2],?_,by simp[toPys,PyData.eqvAll,a4,b4]⟩
  simp only[toPys,PyData.depthAll]
  lia
theorem Lp:∀(n:Nat) (d:D),gd n d→y4 d=true∧(yB d).canLay0=true∧(yB d).depth≤n∧PyData.eqv (yB d) (yB d)=true
 |n,.str x,h=>⟨by simp[y4],by simpa[yB,PyData.canLay0,gd] using h,by simp[yB,PyData.depth],by simp[yB,PyData.eqv]⟩
 |n,.int _,h=>⟨by simp[y4],by simp[yB,PyData.canLay0],by simp[yB,PyData.depth],by simp[yB,PyData.eqv]⟩
 |n,.bl _,h=>⟨by simp[y4],by simp[yB,PyData.canLay0],by simp[yB,PyData.depth],by simp[yB,PyData.eqv]⟩
 |n,.non,h=>⟨by simp[y4],by simp[yB,PyData.canLay0],by simp[yB,PyData.depth],by simp[yB,PyData.eqv]⟩
 |n+1,.lst ds,h=>by
  obtain⟨b1,b2,b3,b4⟩:=Jw (Lp n) ds (by simpa[gd] using h)
  exact⟨by simpa[y4] using b1,by simpa[yB,PyData.canLay0] using b2,by simpa[yB,PyData.depth] using b3,by simpa[yB,PyData.eqv] using b4⟩
 |n+1,.tup ds,h=>by
  obtain⟨b1,b2,b3,b4⟩:=Jw (Lp n) ds (by simpa[gd] using h)
  exact⟨by simpa[y4] using b1,by simpa[yB,PyData.canLay0] using b2,by simpa[yB,PyData.depth] using b3,by simpa[yB,PyData.eqv] using b4⟩
 |0,.lst ds,h=>by simp[gd] at h
 |0,.tup ds,h=>by simp[gd] at h
 |0,.scr ds,h=>by simp[gd] at h
 |0,.raw ds,h=>by simp[gd] at h
 |0,.exc ds,h=>by simp[gd] at h
 |n+1,.scr ds,h=>by simp[gd] at h
 |n+1,.raw ds,h=>by simp[gd] at h
 |n+1,.exc ds,h=>by simp[gd] at h
theorem Vj{n:Nat}{d:D}(h:gd n d)(hn:n≤60):okD d=true∧wK d d=true:=by
 obtain⟨a,b,c,e⟩:=Lp n d h
 refine⟨?_,e⟩
 have:(yB d).depth≤60:=by lia
 simp[okD,a,b,this]
theorem frE{ff:FA}{τ:DS}{ds:List D}(h:ff τ=.ok ds):(fun τ=>(ff τ).bind fun ds=>Rs.ok (D.lst ds)) τ=.ok (.lst ds):=by show(ff τ).bind _=_;rw[h];rfl
theorem ZW{fe:FE}{τ:DS}{ds:List D}(h:fe τ=.ok (.lst ds)):xf fe τ=.ok ds:=by rw[jm,h];rfl
theorem QH(l:List Int):gd 1 (its l):=fun d hd=>by
 obtain⟨r,_,rfl⟩:=mem_map.mp hd
 trivial
theorem zf2{n:Nat}{ds:List D}(h:gd n (.lst ds))(hn:n≤60):neD (.lst ds) (.lst ds)=.ok (.bl false):=by
 obtain⟨a,b⟩:=Vj h hn
 unfold neD
 simp only[a,and_self,if_true,b,Bool.not_true]
theorem zj2{n:Nat}{ds:List D}(h:gd n (.lst ds))(hn:n≤60):eqD (.lst ds) (.lst ds)=.ok (.bl true):=by
 obtain⟨a,b⟩:=Vj h hn
 unfold eqD
 simp only[a,and_self,if_true,b]
theorem GC:vZ=(zt (zI 2 (yb YV (za (fun τ=>((yD 2 [0] (xf (zc 1)) (gPr 0 1) (fun _=>.ok true) (xg (za (eOp xr (eC (.int 0)) (zc 0)) (za (yb yN (za (eOp ixD (zc 2) (zc 1)) zh)) (za (zc 1) zh))))) τ).bind fun ds=>.ok (.lst ds)) zh)))
  (yd (fun τ=>((yD 3 [] (xf (zc 2)) (gTr 0 1 2) (fun _=>.ok true) (xg (za (eOp xr (eC (.int 0)) (zc 0)) (za (zc 2) zh)))) τ).bind fun ds=>.ok (.lst ds)))):=by unfold vZ;rfl
theorem Jm(X:List (List Nat))(rs:List Rw)(h:zk9 X rs):xm [.lst (X.map tx),.lst (rs.map zS)]=.ok (.lst ((vh (vI X) rs).map zS)):=by
 have c1:=wH (set:=gPr 0 1) (fe:=(xg (za (eOp xr (eC (.int 0)) (zc 0)) (za (yb yN (za (eOp ixD (zc 2) (zc 1)) zh)) (za (zc 1) zh))))) (τ:=[none,none,some (.val (.lst (X.map tx)))]) zS (fun r=>kD (vI X r)) id rs fun r hr=>by
  have hlt:=h.lt r hr
  have hsz:=h.sz _ (getD_mem hlt)
  refine⟨[some (.val (.int r.1)),some (.val (.int (r.2:Int))),some (.val (.lst (X.map tx)))],rfl,?_⟩
  refine(zn2 (op2 rfl (zg rfl) xQ) (u6 (op2 (zg rfl) (zg rfl) (j8 X r.2 hlt)) (uG _ hsz)) (zg rfl)).trans ?_
  unfold kD vI
  rw[Int.zero_sub];rfl
 rw[map_id] at c1
 have p:=YS (vI X) rs
 have e1:=wc (k:=2) (idx:=[0]) (fi:=xf (zc 1)) (τ:=[some (.val (.lst (X.map tx))),some (.val (.lst (rs.map zS))),none]) rfl c1 (by rw[length_map];have:=h.few;lia)
 have s1:yb YV (za (fun τ=>((yD 2 [0] (xf (zc 1)) (gPr 0 1) (fun _=>.ok true) (xg (za (eOp xr (eC (.int 0)) (zc 0)) (za (yb yN (za (eOp ixD (zc 2) (zc 1)) zh)) (za (zc 1) zh))))) τ).bind fun ds=>.ok (.lst ds)) zh) [some (.val (.lst (X.map tx))),some (.val (.lst (rs.map zS))),none]=.ok (.lst ((vh (vI X) rs).map fun r=>kD (vI X r))):=
  u6 (by rw[e1];rfl) (U3 (vI X) rs h.few (ZH (Uj X) rs h.nd) fun r z=>nomatch z)
 have c2:=wH (set:=gTr 0 1 2) (fe:=(xg (za (eOp xr (eC (.int 0)) (zc 0)) (za (zc 2) zh)))) (τ:=[none,none,none]) (fun r=>kD (vI X r)) zS id (vh (vI X) rs) fun r hr=>by
  refine⟨[some (.val (.int (-r.1))),some (.val (.int ((X.getD r.2 []).length:Int))),some (.val (.int (r.2:Int)))],rfl,?_⟩
  refine(YO (op2 rfl (zg rfl) xQ) (zg rfl)).trans ?_
  unfold zS id
  rw[Int.zero_sub,Int.neg_neg]
 rw[map_id] at c2
 have e2:=wc (k:=3) (idx:=[]) (fi:=xf (zc 2)) (τ:=[some (.val (.lst (X.map tx))),some (.val (.lst (rs.map zS))),some (.val (.lst ((vh (vI X) rs).map fun r=>kD (vI X r))))]) rfl c2 (by rw[length_map,p.length_eq];have:=h.few;lia)
 unfold xm
 rw[GC]
 exact zi3 _ _ _ _ _ _ s1 (by rw[e2];rfl)
theorem Ue(G:Gr)(k j:Int):wL (ZJ G k) j=wL G j:=by
 unfold ZJ
 split
 ·rfl
 ·unfold wL
  rw[List.find?_append]
  cases e:G.find? fun g=>decide (g.1=j) with
  |some g=>rfl
  |none=>
   by_cases z:k=j
   ·rw[List.find?_cons_of_pos (by simpa using z)];rfl
   ·rw[List.find?_cons_of_neg (by simpa using z)];rfl
theorem jl(g:Int×List Int)(G:Gr)(j:Int):wL (g::G) j=if g.1=j then g.2 else wL G j:=by
 unfold wL
 by_cases z:g.1=j
 ·rw[List.find?_cons_of_pos (by simpa using z),if_pos z];rfl
 ·rw[List.find?_cons_of_neg (by simpa using z),if_neg z]
theorem UR(g:Int×List Int)(G:Gr)(k v:Int):Zv (g::G) k v=(if g.1=k then (g.1,g.2++[v]) else g)::Zv G k v:=rfl
theorem TL(k v j:Int)(h:j≠k)(G:Gr):wL (Zv G k v) j=wL G j:=by
 induction G with
 |nil=>rfl
 |cons g G ih=>
  rw[UR,jl,jl,ih]
  by_cases z:g.1=k
  ·rw[if_pos z]
   have:¬ g.1=j:=fun y=>h (by rw[← y,z])
   simp only[if_neg this]
  ·rw[if_neg z]
theorem GF(k v:Int)(G:Gr)(h:k∈G.map (·.1)):wL (Zv G k v) k=wL G k++[v]:=by
 induction G with
 |nil=>cases h
 |cons g G ih=>
  rw[UR,jl,jl]
  by_cases z:g.1=k
  ·simp only[if_pos z]
  ·simp only[if_neg z]
   refine ih ?_
   rw[map_cons,mem_cons] at h
   exact h.resolve_left fun y=>z y.symm
theorem Le(k:Int):∀(n:Nat) (rows:List (Int×Int)),rows.length=n→wL (grp rows) k=(rows.filter fun p=>decide (p.1=k)).map (·.2):=fun n=>by
 induction n with
 |zero=>intro rows h;rw[List.length_eq_zero_iff.mp h];rfl
 |succ n ih=>
  intro rows h
  rcases List.eq_nil_or_concat rows with z|⟨r,p,rfl⟩
  ·rw[z] at h;cases h
  ·rw[List.concat_eq_append] at h ⊢
   have hl:r.length=n:=by simpa using h
   rw[Zj,List.filter_append,map_append,← ih r hl]
   by_cases z:p.1=k
   ·rw[← z,GF _ _ _ (Tv _ _),Ue,List.filter_cons_of_pos (by simp)];rfl
   ·rw[TL _ _ _ (fun y=>z y.symm),Ue,List.filter_cons_of_neg (by simpa using z)];simp
theorem Lf(k:Int):∀(n:Nat) (rows:List (Int×Int)),rows.length=n→(k∈(grp rows).map (·.1)↔k∈rows.map (·.1)):=fun n=>by
 induction n with
 |zero=>intro rows h;rw[List.length_eq_zero_iff.mp h];exact Iff.rfl
 |succ n ih=>
  intro rows h
  rcases List.eq_nil_or_concat rows with z|⟨r,p,rfl⟩
  ·rw[z] at h;cases h
  ·rw[List.concat_eq_append] at h ⊢
   have hl:r.length=n:=by simpa using h
   rw[Zj,ZX,map_append,mem_append,← ih r hl]
   unfold ZJ
   split
   ·rename_i y
    constructor
    ·exact .inl
    ·rintro (z|z)
     ·exact z
     ·have:k=p.1:=by simpa using z
      rw[this];exact y
   ·rw[map_append,mem_append];rfl
noncomputable def tiL(rows:List (Int×Int)):List D:=(STW.setZ (rows.map (·.1))).reverse.map fun k=>.tup [.int k,.lst (((rows.filter fun p=>decide (p.1=k)).map (·.2)).map D.int)]
theorem L8(rows:List (Int×Int)):Q3 (grp rows)=tiL rows:=by
 unfold Q3 tiL xB
 rw[STW.up_same (STW.setZ_up _) (STW.setZ_up (rows.map (·.1))) fun x=>by rw[STW.setZ_mem,STW.setZ_mem];exact Lf x _ rows rfl]
 exact map_congr_left fun k _=>by rw[Le k _ rows rfl]
noncomputable def wI(r:Rw):Int×Int:=(r.1,(r.2:Int))
theorem zn9(rs:List Rw):rs.map zS=(rs.map wI).map Yi:=by rw[map_map];rfl
noncomputable def tiR(rs:List Rw):List D:=(STW.setZ (rs.map (·.1))).reverse.map fun k=>.tup [.int k,its ((rs.filter fun r=>decide (r.1=k)).map fun r=>(r.2:Int))]
theorem tiL_R(rs:List Rw):tiL (rs.map wI)=tiR rs:=by
 unfold tiL tiR
 have e:(rs.map wI).map (·.1)=rs.map (·.1):=by rw[map_map];rfl
 rw[e]
 refine map_congr_left fun k _=>?_
 unfold its
 rw[List.filter_map,map_map,map_map,map_map];rfl
theorem zn3:JH=(Wj 2 3 (xf (zp yq (za (zc 0) (za (zc 1) zh))))):=by unfold JH;rfl
theorem Li(it:FA)(A B:D)(rows:List (Int×Int))(h:it [some (.val A),some (.val B),none,none]=.ok (rows.map Yi))(hl:rows.length<64):yC 4 (Wj 2 3 it) [A,B]=.ok (.lst (Q3 (grp rows))):=by
 have st:zQ 4 [A,B]=[some (.val A),some (.val B),none,none]:=rfl
 have v:vlB [some (.val A),some (.val B),none,none]=true:=rfl
 rw[zW,st]
 unfold Wj
 rw[if_pos ⟨v,by simp,by simp,by decide⟩]
 have e:([some (.val A),some (.val B),none,none]:DS).set 2 none=[some (.val A),some (.val B),none,none]:=rfl
 rw[e,h]
 simp only[U7,hl,if_true,zJ]
theorem L7(X:List (List Nat))(q:List Nat)(hq:q.length≤1000)(hX:∀x∈X,x.length≤1000)(ha:∀c∈q,c<128)(hl:X.length<64):jH [.lst (X.map tx),tx q]=.ok (.lst (tiR (vt X q))):=by
 have e:xf (zp yq (za (zc 0) (za (zc 1) zh))) [some (.val (.lst (X.map tx))),some (.val (tx q)),none,none]=.ok (((vt X q).map wI).map Yi):=by
  rw[← zn9]
  exact ZW (vn (zg rfl) (zg rfl) (JL X q hq hX ha hl))
 have hz:=(Zu X q hX hl).few
 unfold jH
 rw[zn3,Li _ _ _ _ e (by rw[length_map];exact hz),L8,tiL_R]
theorem zv4(X:List (List Nat))(q:List Nat):((vt X q).map fun r=>(r.2:Int)).Pairwise (·≤·):=by
 have h:=List.Pairwise.sublist (Zt X q (List.range X.length)) (pairwise_lt_range)
 have e:(vt X q).map (fun r=>(r.2:Int))=((Vn X q (List.range X.length)).map (·.2)).map fun (n:Nat)=>(n:Int):=by rw[map_map];rfl
 rw[e,pairwise_map]
 exact h.imp fun z=>by lia
theorem za5{l m:List Int}(p:l.Perm m)(h:m.Pairwise (·≤·)):ZA l=m:=WK (WM l) h ((jd l).trans p)
theorem zi1(X:List (List Nat))(q:List Nat)(rs:List Rw)(p:rs.Perm (vt X q))(k:Int):ZA ((rs.filter fun r=>decide (r.1=k)).map fun r=>(r.2:Int))=((vt X q).filter fun r=>decide (r.1=k)).map fun r=>(r.2:Int):=by
 refine za5 ((p.filter _).map _) ?_
 exact List.Pairwise.sublist ((List.filter_sublist).map _) (zv4 X q)
theorem MF{l m:List Int}(h:∀x,x∈l↔x∈m):STW.setZ l=STW.setZ m:=STW.up_same (STW.setZ_up _) (STW.setZ_up _) fun x=>by rw[STW.setZ_mem,STW.setZ_mem];exact h x
noncomputable def SR(X:List (List Nat))(q:List Nat):List Rw:=vh (vI X) (vt X q)
theorem JX(X:List (List Nat))(q:List Nat):(SR X q).Perm (vt X q):=YS _ _
theorem YT(X:List (List Nat))(q:List Nat):(SR X q).length≤X.length:=by
 have:=(Zt X q (List.range X.length)).length_le
 rw[length_map,length_range] at this
 rw[(JX X q).length_eq];exact this
theorem G3(X:List (List Nat))(q:List Nat)(many:Nat)(hm:X.length≤many)(hq:q.length≤1000)(hX:∀x∈X,x.length≤1000)(ha:∀c∈q,c<128)(hl:X.length<64):wG [.lst (X.map tx),tx q,.int (many:Int)]=.ok (.lst ((SR X q).map zS)):=by
 rw[UB X q many hq hX ha hl,take_of_length_le (by have:=YT X q;unfold SR at this;lia)];rfl
noncomputable def brw(q:List Nat)(p:List Nat×Nat):D:=.tup [vc (vd q p.1),.int (p.2:Int)]
noncomputable def orw(q:List Nat)(p:List Nat×Nat):Option Rw:=(vd q p.1).map fun t=>(t.1,p.2)
noncomputable def lf1:FE:=fun τ=>((yD 2 [1] (iEn (za (zc 0) zh)) (gPr 0 1) (fun _=>.ok true) (xg (za (zp xA (za (zc 2) (za (zc 1) zh))) (za (zc 0) zh)))) τ).bind fun ds=>.ok (.lst ds)
noncomputable def lf2:FE:=fun τ=>((yD 2 [] (xf (zc 2)) (gPr 0 1) (FD.tB (eOp ww (zc 0) (eC .non))) (xg (za (eOp ixD (zc 0) (eC (.int 0))) (za (zc 1) zh)))) τ).bind fun ds=>.ok (.lst ds)
theorem TR:ux=(zt (zI 2 lf1) (yd (zp xm (za (zc 0) (za lf2 zh))))):=by unfold ux lf1 lf2;rfl
theorem L3(X:List (List Nat)):X.zipIdx=(List.range X.length).map fun i=>(X.getD i [],i):=by
 refine ext_getElem (by simp) fun i h1 h2=>?_
 have h:i<X.length:=by simpa using h1
 simp[h]
theorem Qk(X:List (List Nat))(q:List Nat):X.zipIdx.filterMap (orw q)=vt X q:=by
 rw[L3,List.filterMap_map]
 unfold vt Vn
 induction List.range X.length with
 |nil=>rfl
 |cons i is ih=>
  rw[flatMap_cons,← ih]
  show List.filterMap (fun i=>orw q (X.getD i [],i)) (i::is)=(fr1 X q i).toList++List.filterMap (fun i=>orw q (X.getD i [],i)) is
  have e:orw q (X.getD i [],i)=fr1 X q i:=rfl
  cases z:fr1 X q i with
  |none=>rw[List.filterMap_cons_none (by rw[e,z])];rfl
  |some r=>rw[List.filterMap_cons_some (b:=r) (by rw[e,z])];rfl
theorem zd6(o:Option Tl):ww (vc o) .non=.ok (.bl o.isSome):=by
 cases o with
 |none=>rfl
 |some t=>rfl
theorem QU{set:FG}{ft:FT}{fe:FE}{τ:DS}{α β:Type}(f:α→D)(g:β→D)(h:α→Option β):∀(xs:List α),(∀a∈xs,∃τ1,set (f a) τ=.ok τ1∧ft τ1=.ok (h a).isSome∧∀b,h a=some b→fe τ1=.ok (g b))→vk set ft fe τ (xs.map f)=.ok ((xs.filterMap h).map g):=by
 intro l_
 induction l_ with
 |nil=>
  rintro _
  exact rfl
 |cons a xs ih_=>
  rintro H
  obtain⟨τ1,h1,h2,h3⟩:=H a mem_cons_self
  have ih:=ih_ fun b hb=>H b (mem_cons_of_mem _ hb)
  rw[map_cons,vk]
  simp only[h1]
  cases z:h a with
  |none=>
   rw[z] at h2
   rw[List.filterMap_cons_none z]
   simp only[h2,Option.isSome_none]
   exact ih
  |some b=>
   rw[z] at h2
   rw[List.filterMap_cons_some z]
   simp only[h2,Option.isSome_some,h3 b z]
   rw[ih];rfl
theorem GJ(X:List (List Nat))(q:List Nat)(hq:q.length≤5)(hX:∀x∈X,x.length≤10)(hl:X.length<64):xa [.lst (X.map tx),tx q]=.ok (.lst ((SR X q).map zS)):=by
 have hX':∀x∈X,x.length≤1000:=fun x hx=>le_trans (hX x hx) (by decide)
 have st:zQ 3 [.lst (X.map tx),tx q]=[some (.val (.lst (X.map tx))),some (.val (tx q)),none]:=rfl
 have e1:lf1 [some (.val (.lst (X.map tx))),some (.val (tx q)),none]=.ok (.lst (X.zipIdx.map (brw q))):=by
  unfold lf1
  have c:=wH (set:=gPr 0 1) (fe:=(xg (za (zp xA (za (zc 2) (za (zc 1) zh))) (za (zc 0) zh)))) (τ:=[none,none,some (.val (tx q))]) (fun p:List Nat×Nat=>D.tup [.int (p.2:Int),tx p.1]) (brw q) id X.zipIdx fun p hp=>by
   refine⟨[some (.val (.int (p.2:Int))),some (.val (tx p.1)),some (.val (tx q))],rfl,?_⟩
   exact YO (vn (zg rfl) (zg rfl) (TW q p.1 hq (hX _ (List.fst_mem_of_mem_zipIdx hp)))) (zg rfl)
  rw[map_id] at c
  refine frE (wc (ds:=X.zipIdx.map fun p:List Nat×Nat=>D.tup [.int (p.2:Int),tx p.1]) ?_ c ?_)
  ·unfold iEn
   rw[LV (zg (d:=.lst (X.map tx)) rfl),Rs.bind_ok]
   show Rs.ok (yu 0 (X.map tx))=_
   rw[UF tx X 0]
  ·simp only[length_map,List.length_zipIdx];lia
 have e2:lf2 [some (.val (.lst (X.map tx))),some (.val (tx q)),some (.val (.lst (X.zipIdx.map (brw q))))]=.ok (.lst ((vt X q).map zS)):=by
  unfold lf2
  rw[← Qk]
  refine frE (wc (ZW (zg rfl)) (QU (brw q) zS (orw q) X.zipIdx fun p hp=>⟨[some (.val (vc (vd q p.1))),some (.val (.int (p.2:Int)))],rfl,?_,fun b hb=>?_⟩) ?_)
  ·refine xu (op2 (zg rfl) rfl ?_)
   rw[zd6];unfold orw;cases vd q p.1 <;> rfl
  ·unfold orw at hb
   cases z:vd q p.1 with
   |none=>rw[z] at hb;cases hb
   |some t=>
    rw[z] at hb;cases hb
    exact YO (op2 (zg rfl) rfl (Vy t)) (zg rfl)
  ·rw[Qk,length_map];have:=(Zu X q hX' hl).few;lia
 unfold xa
 rw[TR,zW,st,wf (vU e1)]
 exact congrArg uD (WV (vn (zg rfl) e2 (Jm X _ (Zu X q hX' hl))))
noncomputable def rkD:Option Nat→D
 |none=>.non
 |some k=>.int (k:Int)
noncomputable def rk(rs:List Rw)(i:Nat):Option Nat:=rs.findIdx? fun r=>r.2==i
noncomputable def rkB:FS:=(sIf (FD.tB (eOp eqD (eOp ixD (zc 4) (eC (.int 1))) (zc 2))) (yd (zc 3)) yc)
noncomputable def rkI:FA:=(iEn (za (zp yZ (za (zc 0) (za (zp yq (za (zc 0) (za (zc 1) zh))) zh))) zh))
theorem chk_b:vE=(sIf (v4 (FD.tB (eOp ltI (zc 1) (eC (.int 0)))) (FD.tB (eOp geD (zc 1) (yb yN (za (zc 0) zh))))) (U6 "NoNumber") yc):=by unfold vE;rfl
theorem LH(X:List (List Nat))(i:Int):y0 [.lst (X.map tx),.int i]=if i<0∨(X.length:Int)≤i then .ex "NoNumber" else .ok .non:=by
 have st:zQ 2 [.lst (X.map tx),.int i]=[some (.val (.lst (X.map tx))),some (.val (.int i))]:=rfl
 have h:v4 (FD.tB (eOp ltI (zc 1) (eC (.int 0)))) (FD.tB (eOp geD (zc 1) (yb yN (za (zc 0) zh)))) [some (.val (.lst (X.map tx))),some (.val (.int i))]=.ok (decide (i<0)||decide ((X.length:Int)≤i)):=
  or_b (xu (op2 (zg rfl) rfl rfl)) fun _=>xu (op2 (zg rfl) (u6 (zg rfl) uU) (by rw[geD_i,length_map]))
 unfold y0
 rw[chk_b,zW,st]
 by_cases z:i<0∨(X.length:Int)≤i
 ·rw[if_pos z,if_t (by rw[h];congr 1;simpa using z)];rfl
 ·rw[if_neg z,GT (by rw[h];congr 1;simpa using z)];rfl
theorem MQ:ZU=(zt (uk y0 (za (zc 0) (za (zc 2) zh))) (ZB (zt (wk rkI (gPr 3 4) rkB) (yd (eC .non))))):=by unfold ZU rkB rkI;rfl
theorem J5(a0 a1:Option Sl)(i:Nat):∀(rs:List Rw) (k:Nat) (s3 s4:Option Sl),
  (∃t3 t4,ye (gPr 3 4) rkB (yu k (rs.map zS)) [a0,a1,some (.val (.int (i:Int))),s3,s4]=.nx [a0,a1,some (.val (.int (i:Int))),t3,t4]∧rk rs i=none) ∨
  ∃j,ye (gPr 3 4) rkB (yu k (rs.map zS)) [a0,a1,some (.val (.int (i:Int))),s3,s4]=.rt (.int ((k+j:Nat):Int))∧rk rs i=some j:=by
 intro l_
 induction l_ with
 |nil=>
  rintro k s3 s4
  exact .inl ⟨s3,s4,rfl,rfl⟩
 |cons r rs ih_=>
  rintro k s3 s4
  have g:gPr 3 4 (D.tup [.int (k:Int),zS r]) [a0,a1,some (.val (.int (i:Int))),s3,s4]=.ok [a0,a1,some (.val (.int (i:Int))),some (.val (.int (k:Int))),some (.val (zS r))]:=rfl
  have t:FD.tB (eOp eqD (eOp ixD (zc 4) (eC (.int 1))) (zc 2)) [a0,a1,some (.val (.int (i:Int))),some (.val (.int (k:Int))),some (.val (zS r))]=.ok ((r.2:Int)==(i:Int)):=
   xu (op2 (op2 (zg rfl) rfl (VO r)) (zg rfl) vj)
  show(∃t3 t4,ye (gPr 3 4) rkB (D.tup [.int (k:Int),zS r]::yu (k+1) (rs.map zS)) _=_∧_)∨∃j,ye (gPr 3 4) rkB (D.tup [.int (k:Int),zS r]::yu (k+1) (rs.map zS)) _=_∧_
  rw[ye,g,Fl.of_ok]
  unfold rk
  rw[List.findIdx?_cons]
  by_cases z:r.2=i
  ·right
   refine⟨0,?_,by simp[z]⟩
   unfold rkB
   rw[if_t (by rw[t];simp[z]),WV (d:=.int (k:Int)) (zg rfl)];rfl
  ·have n:¬ ((r.2:Int)=(i:Int)):=by lia
   have b:rkB [a0,a1,some (.val (.int (i:Int))),some (.val (.int (k:Int))),some (.val (zS r))]=.nx [a0,a1,some (.val (.int (i:Int))),some (.val (.int (k:Int))),some (.val (zS r))]:=by
    unfold rkB;exact GT (by rw[t];simp[n])
   rw[b]
   rcases ih_ (k+1) (some (.val (.int (k:Int)))) (some (.val (zS r))) with ⟨t3,t4,h1,h2⟩|⟨j,h1,h2⟩
   ·left
    refine⟨t3,t4,h1,?_⟩
    unfold rk at h2
    simp[z,h2]
   ·right
    refine⟨j+1,?_,?_⟩
    ·show ye _ _ _ _=_
     rw[h1];congr 3;lia
    ·unfold rk at h2
     simp[z,h2]
theorem Lj(g:List D→Rs D)(fs it:FA)(bd:FS)(A B C d R:D)(as L:List D)(h1:fs [some (.val A),some (.val B),some (.val C),none,none]=.ok as)(h2:g as=.ok d)(h3:it [some (.val A),some (.val B),some (.val C),none,none]=.ok L)
  (h4:(∃t3 t4,ye (gPr 3 4) bd L [some (.val A),some (.val B),some (.val C),none,none]=.nx [some (.val A),some (.val B),some (.val C),t3,t4]∧R=.non)∨ye (gPr 3 4) bd L [some (.val A),some (.val B),some (.val C),none,none]=.rt R) :
  yC 5 (zt (uk g fs) (ZB (zt (wk it (gPr 3 4) bd) (yd (eC .non))))) [A,B,C]=.ok R:=by
 have st:zQ 5 [A,B,C]=[some (.val A),some (.val B),some (.val C),none,none]:=rfl
 have e1:uk g fs [some (.val A),some (.val B),some (.val C),none,none]=.nx [some (.val A),some (.val B),some (.val C),none,none]:=by
  unfold uk
  rw[h1,Fl.of_ok,h2]
 have e3:(zt (wk it (gPr 3 4) bd) (yd (eC .non))) [some (.val A),some (.val B),some (.val C),none,none]=.rt R:=by
  rcases h4 with ⟨t3,t4,h,rfl⟩|h
  ·rw[wf (τ':=[some (.val A),some (.val B),some (.val C),t3,t4]) (by rw[x9,h3,Fl.of_ok,h]),WV (d:=.non) rfl]
  ·rw[zB,x9,h3,Fl.of_ok,h];rfl
 rw[zW,st,wf e1]
 unfold ZB
 rw[e3];rfl
theorem GX(g:List D→Rs D)(fs:FA)(f:FS)(A B C:D)(as:List D)(c:Str)(h1:fs [some (.val A),some (.val B),some (.val C),none,none]=.ok as)(h2:g as=.ex c):yC 5 (zt (uk g fs) f) [A,B,C]=.ex c:=by
 have st:zQ 5 [A,B,C]=[some (.val A),some (.val B),some (.val C),none,none]:=rfl
 have e1:uk g fs [some (.val A),some (.val B),some (.val C),none,none]=.rs c [some (.val A),some (.val B),some (.val C),none,none]:=by
  unfold uk
  rw[h1,Fl.of_ok,h2]
 rw[zW,st,zB,e1];rfl
theorem zb7(X:List (List Nat))(q:List Nat)(i:Nat)(hi:i<X.length)(hq:q.length≤1000)(hX:∀x∈X,x.length≤1000)(ha:∀c∈q,c<128)(hl:X.length<64):wb [.lst (X.map tx),tx q,.int (i:Int)]=.ok (rkD (rk (SR X q) i)):=by
 have e2:rkI [some (.val (.lst (X.map tx))),some (.val (tx q)),some (.val (.int (i:Int))),none,none]=.ok (yu 0 ((SR X q).map zS)):=by
  unfold rkI iEn
  rw[LV (vn (zg rfl) (vn (zg rfl) (zg rfl) (JL X q hq hX ha hl)) (VY X _ (Zu X q hX hl))),Rs.bind_ok];rfl
 unfold wb
 rw[MQ]
 refine Lj _ _ _ _ _ _ _ .non _ [.lst (X.map tx),.int (i:Int)] _ (arg2 (zg rfl) (zg rfl)) (by rw[LH,if_neg (by lia)]) e2 ?_
 rcases J5 (some (.val (.lst (X.map tx)))) (some (.val (tx q))) i (SR X q) 0 none none with ⟨t3,t4,h1,h2⟩|⟨j,h1,h2⟩
 ·exact .inl ⟨t3,t4,h1,by rw[h2];rfl⟩
 ·refine .inr ?_
  rw[h1,h2,zero_add];rfl
theorem zb8(X:List (List Nat))(q:List Nat)(i:Int)(hi:i<0∨(X.length:Int)≤i):wb [.lst (X.map tx),tx q,.int i]=.ex "NoNumber" := by
 unfold wb
 rw[MQ]
 exact GX _ _ _ _ _ _ [.lst (X.map tx),.int i] _ (arg2 (zg rfl) (zg rfl)) (by rw[LH,if_pos hi])
noncomputable def exS:FS:=(zt (zI 4 (xt (za (Yr [("NoNumber", true)] (zc 3)) (za (Yr [("NoNumber", false)] (zc 3)) (za (Yr [("NoNumber", false)] (zc 3)) zh)))))
  (yd (XJ (Yr [("NoNumber", true)] (zc 3)) (eOp eqD (zc 4) (xt (za (eC (.bl true)) (za (eC (.bl false)) (za (eC (.bl false)) zh))))))))
theorem Qs:u8=(uL (jV wb (za (zc 0) (za (zc 1) (za (zc 2) zh)))) (fun c=>c == "NoNumber") 3 exS):=by unfold u8 exS;rfl
theorem Lh(g:List D→Rs D)(ok:Str→Bool)(fe:FS)(A B C d:D)(h:g [A,B,C]=.ok d):yC 5 (uL (jV g (za (zc 0) (za (zc 1) (za (zc 2) zh)))) ok 3 fe) [A,B,C]=.ok d:=by
 have st:zQ 5 [A,B,C]=[some (.val A),some (.val B),some (.val C),none,none]:=rfl
 have hb:jV g (za (zc 0) (za (zc 1) (za (zc 2) zh))) [some (.val A),some (.val B),some (.val C),none,none]=.rt d:=by
  unfold jV
  have:za (zc 0) (za (zc 1) (za (zc 2) zh)) [some (.val A),some (.val B),some (.val C),none,none]=.ok [A,B,C]:=rfl
  rw[this,Fl.of_ok]
  simp only[h]
 rw[zW,st]
 unfold uL
 rw[if_pos (by rfl),hb];rfl
theorem GW(g:List D→Rs D)(ok:Str→Bool)(fe:FS)(c:Str)(A B C d:D)(h:g [A,B,C]=.ex c)(hc:ok c=true)(he:fe [some (.val A),some (.val B),some (.val C),some (.val (.exc c)),none]=.rt d):yC 5 (uL (jV g (za (zc 0) (za (zc 1) (za (zc 2) zh)))) ok 3 fe) [A,B,C]=.ok d:=by
 have st:zQ 5 [A,B,C]=[some (.val A),some (.val B),some (.val C),none,none]:=rfl
 have hb:jV g (za (zc 0) (za (zc 1) (za (zc 2) zh))) [some (.val A),some (.val B),some (.val C),none,none]=.rs c [some (.val A),some (.val B),some (.val C),none,none]:=by
  unfold jV
  have:za (zc 0) (za (zc 1) (za (zc 2) zh)) [some (.val A),some (.val B),some (.val C),none,none]=.ok [A,B,C]:=rfl
  rw[this,Fl.of_ok]
  simp only[h]
 rw[zW,st]
 unfold uL
 rw[if_pos (by rfl),hb]
 simp only[hc,if_true,set_cons_succ,set_cons_zero,he,zJ]
theorem isx(b:Bool):QK [("NoNumber", b)] (.exc "NoNumber")=.ok (.bl b):=by simp[QK,List.lookup]
theorem Ls:eqD (.lst [.bl true,.bl false,.bl false]) (.lst [.bl true,.bl false,.bl false])=.ok (.bl true):=by
 have o:okD (.lst [.bl true,.bl false,.bl false])=true:=by decide
 have e:wK (.lst [.bl true,.bl false,.bl false]) (.lst [.bl true,.bl false,.bl false])=true:=by decide
 simp only[eqD,o,e,and_self,if_true]
theorem lst3{fa fb fc:FE}{τ:DS}{a b c:D}(h1:fa τ=.ok a)(h2:fb τ=.ok b)(h3:fc τ=.ok c):xt (za fa (za fb (za fc zh))) τ=.ok (.lst [a,b,c]):=by
 rw[Zn,zx,h1,Rs.bind_ok,zx,h2,Rs.bind_ok,zx,h3,Rs.bind_ok,zZ,Rs.bind_ok,Rs.bind_ok,Rs.bind_ok,Rs.bind_ok]
 exact if_pos (by rw[sizeLine_v];show 3≤_;lia)
theorem Mw(A B C:D):exS [some (.val A),some (.val B),some (.val C),some (.val (.exc "NoNumber")),none]=.rt (.bl true):=by
 have ix:∀(b:Bool) (τ:DS),τ[3]?=some (some (.val (.exc "NoNumber")))→Yr [("NoNumber", b)] (zc 3) τ=.ok (.bl b):=fun b τ h=>by
  unfold Yr
  rw[zg h,Rs.bind_ok];exact isx b
 have h1:=lst3 (τ:=[some (.val A),some (.val B),some (.val C),some (.val (.exc "NoNumber")),none]) (ix true _ rfl) (ix false _ rfl) (ix false _ rfl)
 unfold exS
 rw[zB,zF,h1,Fl.of_ok,zV]
 simp only[set_cons_succ,set_cons_zero]
 rw[zT,JK (ix true _ rfl) (op2 (zg rfl) (lst3 rfl rfl rfl) Ls)];rfl
theorem TF(X:List (List Nat))(q:List Nat)(i:Nat)(hi:i<X.length)(hq:q.length≤1000)(hX:∀x∈X,x.length≤1000)(ha:∀c∈q,c<128)(hl:X.length<64):yI [.lst (X.map tx),tx q,.int (i:Int)]=.ok (rkD (rk (SR X q) i)):=by
 unfold yI
 rw[Qs]
 exact Lh _ _ _ _ _ _ _ (zb7 X q i hi hq hX ha hl)
theorem TJ(X:List (List Nat))(q:List Nat)(i:Int)(hi:i<0∨(X.length:Int)≤i):yI [.lst (X.map tx),tx q,.int i]=.ok (.bl true):=by
 unfold yI
 rw[Qs]
 exact GW _ _ _ "NoNumber" _ _ _ _ (zb8 X q i hi) (by decide +kernel) (Mw _ _ _)
noncomputable def flS:FS:=yd (eC (.bl false))
noncomputable def nmE:FE:=(zp xN (za (zc 0) (za (eC (.int 0)) (za (eC (.int 5)) zh))))
noncomputable def g1T:FT:=(v4 (ZZ (uI (yb GP (za (zc 5) (za (eC (.raw (.ty "list"))) zh))))) (v4 (FD.tB (eOp neD (zc 5) (eSl (zc 3) Xd (v7 (zc 4))))) (FD.tB (eOp neD (zp wG (za (zc 1) (za (zc 2) (za (eC (.int 99)) zh)))) (zc 3)))))
noncomputable def nuE:FE:=fun τ=>((yD 1 [] (xf (zc 3)) (gNm 0) (fun _=>.ok true) (eOp ixD (zc 0) (eC (.int 1)))) τ).bind fun ds=>.ok (.lst ds)
noncomputable def rkE:FE:=(zp yI (za (zc 1) (za (zc 2) (za (zc 7) zh))))
noncomputable def g2T:FT:=(v4 (uI (yb GP (za (zc 8) (za (eC (.raw (.ty "bool"))) zh)))) (jR (FD.tB (eOp neD (zc 8) (eMt "list" Jq (eOp zM (zc 6) (xt (za (zc 7) zh))) (za (zc 7) zh)))) (FD.tB (eOp ww (zc 8) (eC .non)))))
noncomputable def g3T:FT:=(FD.tB (eOp neD (eOp isD (zc 8) (eC .non)) (eOp Xf (zc 7) (zc 6))))
noncomputable def lpS:FS:=(zt (zI 8 rkE) (zt (sIf g2T flS yc) (sIf g3T flS yc)))
noncomputable def cnE:FE:=(zj4 (fun τ=>(((za (fun τ=>((yD 1 [] (xf (zc 3)) (gNm 0) (fun _=>.ok true) (eOp ixD (zc 0) (eC (.int 0)))) τ).bind fun ds=>.ok (.lst ds)) zh) τ).bind VI).bind fun ds=>.ok (.lst ds)))
noncomputable def gpI:FE:=(yb Q4 (za (fun τ=>((yD 1 [0] (xf (zc 1)) (gNm 0) (FD.tB (eOp eqD (eOp ixD (zc 0) (eC (.int 0))) (zc 1))) (eOp ixD (zc 0) (eC (.int 1)))) τ).bind fun ds=>.ok (.lst ds)) zh))
noncomputable def gpE:FE:=fun τ=>((yD 1 [3] (xf (zc 9)) (gNm 0) (fun _=>.ok true) (xg (za (zc 0) (za gpI zh)))) τ).bind fun ds=>.ok (.lst ds)
noncomputable def g4T:FT:=(FD.tB (eOp neD (zp jH (za (zc 1) (za (zc 2) zh))) (zc 10)))
noncomputable def laE:FE:=(eOp eqD (fun τ=>((yD 1 [1,2] (xf (xg (za (wn (eC (.int 1))) (za (yb yN (za (zc 1) zh)) (za (eOp zM (yb yN (za (zc 1) zh)) (eC (.int 3))) zh))))) (gNm 0) (FD.tB (eOp YC (zp yI (za (zc 1) (za (zc 2) (za (zc 0) zh)))) (eC (.bl true)))) (zc 0)) τ).bind fun ds=>.ok (.lst ds)) (xt zh))
theorem law_b:LS=(zt (zI 1 nmE) (zt (zI 2 (qE 80 79 3)) (zt (zI 3 (zp xa (za (zc 1) (za (zc 2) zh)))) (zt (zI 4 (zp zr (za (zc 0) (za (eC (.int 78)) (za (eC (.int 7)) zh))))) (zt (zI 5 (zp wG (za (zc 1) (za (zc 2) (za (zc 4) zh)))))
 (zt (sIf g1T flS yc) (zt (zI 6 nuE) (zt (wk (vJ (za (yb yN (za (zc 1) zh)) zh)) (gNm 7) lpS) (zt (zI 9 cnE) (zt (zI 10 gpE) (zt (sIf g4T flS yc) (yd laE)))))))))))):=by
 unfold LS nmE qE g1T nuE lpS rkE g2T g3T cnE gpE gpI g4T laE flS;rfl
noncomputable abbrev nmI(rs:List Rw):List Int:=rs.map fun r=>(r.2:Int)
theorem ne_rk(o:Option Nat)(k:Int)(h:∀j,o=some j→k=(j:Int)):neD (rkD o) (.int k)=.ok (.bl (o.isNone)):=by
 cases o with
 |none=>rfl
 |some j=>rw[h j rfl];show neD (.int _) (.int _)=_;rw[neD_i];simp
theorem zo0(rs:List Rw)(i j:Nat)(h:rk rs i=some j):(nmI rs++[(i:Int)]).idxOf (i:Int)=j:=by
 induction rs generalizing j with
 |nil=>cases h
 |cons r rs ih=>
  unfold rk at h
  rw[List.findIdx?_cons] at h
  show((r.2:Int)::(nmI rs++[(i:Int)])).idxOf (i:Int)=j
  by_cases z:r.2=i
  ·simp[z] at h
   subst h
   rw[z,List.idxOf_cons_self]
  ·have n:¬ ((r.2:Int)=(i:Int)):=by lia
   simp[z] at h
   obtain⟨k,h1,h2⟩:=h
   rw[List.idxOf_cons,ih k h1,beq_eq_false_iff_ne.mpr n,← h2];rfl
theorem zb4(rs:List Rw)(i:Nat):(rk rs i).isNone = !decide ((i:Int)∈nmI rs):=by
 induction rs with
 |nil=>rfl
 |cons r rs ih=>
  unfold rk at ih ⊢
  rw[List.findIdx?_cons]
  by_cases z:r.2=i
  ·simp[z]
  ·have n:¬ ((i:Int)=(r.2:Int)):=by lia
   simp only[z,beq_iff_eq,if_false,Option.isNone_map,ih]
   congr 1
   simp[n]
theorem zk1(a b:List Int)(h:a.length+b.length≤1000):zM (its a) (its b)=.ok (its (a++b)):=by
 show(if _ then Rs.ok (D.lst _) else Rs.no)=_
 rw[if_pos (by rw[sizeLine_v,length_map,length_map];lia),← map_append]
theorem zh5(l:List Int)(k:Int)(h:k∈l)(hl:l.length≤1000):Jq (its l) [.int k]=.ok (.int (l.idxOf k:Nat)):=by
 unfold Jq
 have:TD (its l) [.int k]=some (l,k):=by
  show(Xs (l.map D.int)).map (·,k)=_
  rw[WA];rfl
 rw[this]
 exact if_pos ⟨h,hl⟩
theorem lst1{fa:FE}{τ:DS}{a:D}(h1:fa τ=.ok a):xt (za fa zh) τ=.ok (.lst [a]):=by
 rw[Zn,LV h1,Rs.bind_ok]
 exact if_pos (size1 a)
theorem Gy(l:List Int)(k:Int):Xf (.int k) (its l)=.ok (.bl (!decide (k∈l))):=by
 have h1:okD (.int k)=true:=by simp[okD,y4,yB,PyData.canLay0,PyData.depth]
 have h2:=(Vj (QH l) (by decide)).1
 unfold Xf inD
 simp only[h1,h2,and_self,if_true,Rs.bind_ok]
 unfold zf1
 have:((l.map D.int).any fun y=>wK y (.int k))=decide (k∈l):=by
  rw[List.any_map]
  induction l with
  |nil=>rfl
  |cons a l ih=>
   rw[any_cons,ih (Vj (QH l) (by decide)).1]
   have:((fun y=>wK y (.int k)) ∘ D.int) a=decide (a=k):=by simp[wK,yB,PyData.eqv,BEq.beq]
   rw[this]
   simp[eq_comm]
 rw[this]
section
variable{ns:List Int}{X:List (List Nat)}{q:List Nat}
noncomputable abbrev S(ns:List Int)(X:List (List Nat))(q:List Nat)(m:Nat)(s5 s7 s8 s9 s10:Option Sl):DS:=[some (.val (.scr ns)),some (.val (.lst (X.map tx))),some (.val (tx q)),some (.val (.lst ((SR X q).map zS))),some (.val (.int (m:Int))),s5,some (.val (its (nmI (SR X q)))),s7,s8,s9,s10]
theorem lp_ok(m i:Nat)(hi:i<X.length)(hq:q.length≤1000)(hX:∀x∈X,x.length≤1000)(ha:∀c∈q,c<128)(hl:X.length<64)(s5 s8 s9 s10:Option Sl) :
  lpS (S ns X q m s5 (some (.val (.int (i:Int)))) s8 s9 s10)=.nx (S ns X q m s5 (some (.val (.int (i:Int)))) (some (.val (rkD (rk (SR X q) i)))) s9 s10):=by
 have hs:=YT X q
 have e1:rkE (S ns X q m s5 (some (.val (.int (i:Int)))) s8 s9 s10)=.ok (rkD (rk (SR X q) i)):=vm (zg rfl) (zg rfl) (zg rfl) (TF X q i hi hq hX ha hl)
 have e2:g2T (S ns X q m s5 (some (.val (.int (i:Int)))) (some (.val (rkD (rk (SR X q) i)))) s9 s10)=.ok false:=by
  unfold g2T
  refine VZ ?_ ?_
  ·rw[ud,zu9 (zg rfl) rfl (d:=.bl false) ?_]
   ·rfl
   ·cases rk (SR X q) i <;> rfl
  ·have h1:eMt "list" Jq (eOp zM (zc 6) (xt (za (zc 7) zh))) (za (zc 7) zh) (S ns X q m s5 (some (.val (.int (i:Int)))) (some (.val (rkD (rk (SR X q) i)))) s9 s10)=.ok (.int ((nmI (SR X q)++[(i:Int)]).idxOf (i:Int):Nat)):=by
    unfold eMt
    rw[op2 (zg rfl) (lst1 (zg rfl)) (zk1 (nmI (SR X q)) [(i:Int)] (by simp only[length_map,length_singleton];lia)),Rs.bind_ok]
    refine Eq.trans ?_ (zh5 (nmI (SR X q)++[(i:Int)]) (i:Int) (by simp) (by simp only[length_append,length_map,length_singleton];lia))
    rfl
   have h2:=ne_rk (rk (SR X q) i) _ fun j hj=>congrArg (fun (n:Nat)=>(n:Int)) (zo0 (SR X q) i j hj)
   have h3:ww (rkD (rk (SR X q) i)) .non=.ok (.bl (rk (SR X q) i).isSome):=by cases rk (SR X q) i <;> rfl
   rw[zm8 (xu (op2 (zg rfl) h1 h2)) fun _=>xu (op2 (zg rfl) rfl h3)]
   cases rk (SR X q) i <;> rfl
 have e3:g3T (S ns X q m s5 (some (.val (.int (i:Int)))) (some (.val (rkD (rk (SR X q) i)))) s9 s10)=.ok false:=by
  unfold g3T
  have h3:isD (rkD (rk (SR X q) i)) .non=.ok (.bl (rk (SR X q) i).isNone):=by cases rk (SR X q) i <;> rfl
  refine xu (op2 (op2 (zg rfl) rfl h3) (op2 (zg rfl) (zg rfl) (Gy _ _)) ?_)
  rw[ne_bl,zb4];simp
 unfold lpS
 rw[wf (vU e1)]
 show zt _ _ (S ns X q m s5 (some (.val (.int (i:Int)))) (some (.val (rkD (rk (SR X q) i)))) s9 s10)=_
 rw[wf (GT e2),GT e3]
theorem Ub(m:Nat)(hq:q.length≤1000)(hX:∀x∈X,x.length≤1000)(ha:∀c∈q,c<128)(hl:X.length<64)(s5 s9 s10:Option Sl):∀(is:List Nat) (s7 s8:Option Sl),(∀i∈is,i<X.length) →
  ∃t7 t8,ye (gNm 7) lpS (is.map fun (i:Nat)=>D.int i) (S ns X q m s5 s7 s8 s9 s10)=.nx (S ns X q m s5 t7 t8 s9 s10):=by
 intro l_
 induction l_ with
 |nil=>
  rintro s7 s8 _
  exact⟨s7,s8,rfl⟩
 |cons i is ih_=>
  rintro s7 s8 h
  obtain⟨t7,t8,ih⟩:=ih_ (some (.val (.int (i:Int)))) (some (.val (rkD (rk (SR X q) i)))) fun j hj=>h j (mem_cons_of_mem _ hj)
  refine⟨t7,t8,?_⟩
  rw[map_cons,ye,vX,Fl.of_ok]
  have:=lp_ok (ns:=ns) m i (h i mem_cons_self) hq hX ha hl s5 s8 s9 s10
  show(match lpS (S ns X q m s5 (some (.val (.int (i:Int)))) s8 s9 s10) with | .nx τ'=>_ | .ct τ'=>_ | .bk τ'=>_ | .rt d=>_ | .ro d τ'=>_ | .rb d τ'=>_ | .ex c=>_ | .no=>_ | .rs c τ'=>_)=_
  rw[this]
  exact ih
theorem MI(l:List Int)(h:l.length<64):VI [its l]=.ok ((STW.setZ l).map D.int):=by
 unfold VI its
 simp only[Js]
 exact if_pos h
theorem zb6(l:List Int):MO (its l)=.ok (its l.reverse):=by
 show Rs.ok (D.lst _)=_
 rw[← List.map_reverse]
theorem cn_ok(m:Nat)(hl:X.length<64)(s5 s7 s8 s9 s10:Option Sl):cnE (S ns X q m s5 s7 s8 s9 s10)=.ok (its (STW.setZ ((SR X q).map (·.1))).reverse):=by
 have hs:=YT X q
 unfold cnE
 have c:(fun τ=>((yD 1 [] (xf (zc 3)) (gNm 0) (fun _=>.ok true) (eOp ixD (zc 0) (eC (.int 0)))) τ).bind fun ds=>Rs.ok (D.lst ds)) (S ns X q m s5 s7 s8 s9 s10)=.ok (its ((SR X q).map (·.1))):=
  frE (wc (ZW (zg rfl)) (wH zS D.int (fun r=>r.1) (SR X q) fun r hr=>⟨_,rfl,op2 (zg rfl) rfl (MN r)⟩) (by rw[length_map,length_map];lia))
 rw[zj3]
 show((((za _ zh) _).bind VI).bind fun ds=>Rs.ok (D.lst ds)).bind MO=_
 rw[LV c,Rs.bind_ok,MI _ (by rw[length_map];lia),Rs.bind_ok,Rs.bind_ok]
 exact zb6 _
theorem MC(l:List Int)(h:l.length<64):Q4 [its l]=.ok (its (ZA l)):=by
 unfold Q4 its
 simp only[WA]
 exact if_pos h
theorem gp_ok(m:Nat)(hl:X.length<64)(s5 s7 s8 s10:Option Sl):gpE (S ns X q m s5 s7 s8 (some (.val (its (STW.setZ ((SR X q).map (·.1))).reverse))) s10)=.ok (.lst (tiR (vt X q))):=by
 have hs:=YT X q
 have p:=JX X q
 have e:STW.setZ ((SR X q).map (·.1))=STW.setZ ((vt X q).map (·.1)):=MF fun x=>(p.map (·.1)).mem_iff
 rw[e]
 unfold gpE tiR
 have hz:=STW.setZ_le ((vt X q).map (·.1))
 rw[length_map,← p.length_eq] at hz
 refine frE (wc (ZW (zg rfl)) ?_ (by rw[length_map,List.length_reverse];lia))
 have c:=wH (set:=gNm 0) (fe:=(xg (za (zc 0) (za gpI zh)))) (τ:=[none,some (.val (.lst ((SR X q).map zS)))]) D.int (fun k=>D.tup [.int k,its (((vt X q).filter fun r=>decide (r.1=k)).map fun r=>(r.2:Int))]) id (STW.setZ ((vt X q).map (·.1))).reverse fun k hk=>by
  refine⟨[some (.val (.int k)),some (.val (.lst ((SR X q).map zS)))],rfl,YO (zg rfl) ?_⟩
  unfold gpI
  have hf:=length_filter_le (fun r:Rw=>decide (r.1=k)) (SR X q)
  refine u6 (frE (wc (ZW (zg rfl)) (wA zS (fun r=>D.int (r.2:Int)) (fun r=>decide (r.1=k)) (SR X q) fun r hr=>⟨[some (.val (zS r)),some (.val (.int k))],rfl,?_,op2 (zg rfl) rfl (VO r)⟩) (by rw[length_map];lia))) ?_
  ·exact xu (op2 (op2 (zg rfl) rfl (MN r)) (zg rfl) (by rw[vj];rfl))
  ·have w:((SR X q).filter fun r=>decide (r.1=k)).map (fun r=>D.int (r.2:Int))=(((SR X q).filter fun r=>decide (r.1=k)).map fun r=>(r.2:Int)).map D.int:=by rw[map_map];rfl
   rw[w]
   exact(MC _ (by rw[length_map];lia)).trans (by rw[zi1 X q _ p k];rfl)
 rw[map_id] at c
 exact c
theorem gd_ti(rs:List Rw):gd 3 (.lst (tiR rs)):=fun d hd=>by
 obtain⟨k,_,rfl⟩:=mem_map.mp hd
 intro e he
 rcases mem_cons.mp he with rfl|he
 ·trivial
 ·rw[mem_singleton.mp he]
  intro d hd
  obtain⟨i,_,rfl⟩:=mem_map.mp hd
  trivial
theorem la_ok(m:Nat)(s5 s7 s8 s9 s10:Option Sl):laE (S ns X q m s5 s7 s8 s9 s10)=.ok (.bl true):=by
 unfold laE
 have hn:yb yN (za (zc 1) zh) (S ns X q m s5 s7 s8 s9 s10)=.ok (.int (X.length:Int)):=u6 (zg rfl) (by rw[uU,length_map])
 have ht:xf (xg (za (wn (eC (.int 1))) (za (yb yN (za (zc 1) zh)) (za (eOp zM (yb yN (za (zc 1) zh)) (eC (.int 3))) zh)))) (S ns X q m s5 s7 s8 s9 s10)=.ok (([-1,(X.length:Int),(X.length:Int)+3]:List Int).map D.int):=by
  rw[jm,zn2 (Tw rfl) hn (op2 hn rfl yK)];rfl
 refine op2 (frE (wc ht (wA D.int D.int (fun _=>false) _ fun i hi=>⟨[some (.val (.int i)),some (.val (.lst (X.map tx))),some (.val (tx q))],rfl,?_,zg rfl⟩) (by simp))) Gz ?_
 ·refine xu (op2 (vm (zg rfl) (zg rfl) (zg rfl) (TJ X q i ?_)) rfl rfl)
  simp at hi
  lia
 ·have:List.filter (fun _=>false) ([-1,(X.length:Int),(X.length:Int)+3]:List Int)=[]:=by simp
  rw[this]
  exact zj2 (n:=1) (fun d hd=>by cases hd) (by decide)
end
theorem main:∀ns:List Int,ns.length≤63→Qq [.scr ns]=.ok (.bl true):=fun ns h63=>by
 obtain⟨X,en,hl,hX⟩:=Tz ns 0 5 h63 (by decide) (by decide) (by decide) (by decide)
 obtain⟨q,q1,q2,eq⟩:=qE_ok ns X 80 79 3 h63 (by decide) (by decide) (by decide) (by decide) (by decide) (by decide) hX (by lia) [none,none,none,none,none,none,none,none,none]
 have dl:=wY ns 78 (m:=7) (by lia)
 have dk:=wX ns 78 7 h63 (by decide) (by decide) (by decide)
 obtain⟨m,em⟩:∃m:Nat,wo ns 78 7=(m:Int):=⟨_,(Int.toNat_of_nonneg dl.1).symm⟩
 rw[em] at dk
 have hq5:q.length≤5:=by lia
 have hq:q.length≤1000:=by lia
 have hX10:∀x∈X,x.length≤10:=fun x hx=>(hX x hx).2.1
 have hX':∀x∈X,x.length≤1000:=fun x hx=>le_trans (hX10 x hx) (by decide)
 have ha:∀c∈q,c<128:=fun c hc=>(f6 c (q2 c hc)).1
 have hl':X.length<64:=by lia
 have hs:=YT X q
 have st:zQ 11 [.scr ns]=[some (.val (.scr ns)),none,none,none,none,none,none,none,none,none,none]:=rfl
 have e1:nmE [some (.val (.scr ns)),none,none,none,none,none,none,none,none,none,none]=.ok (.lst (X.map tx)):=vm (zg rfl) rfl rfl en
 have e3:zp xa (za (zc 1) (za (zc 2) zh)) [some (.val (.scr ns)),some (.val (.lst (X.map tx))),some (.val (tx q)),none,none,none,none,none,none,none,none]=.ok (.lst ((SR X q).map zS)):=vn (zg rfl) (zg rfl) (GJ X q hq5 hX10 hl')
 have e4:zp zr (za (zc 0) (za (eC (.int 78)) (za (eC (.int 7)) zh))) [some (.val (.scr ns)),some (.val (.lst (X.map tx))),some (.val (tx q)),some (.val (.lst ((SR X q).map zS))),none,none,none,none,none,none,none]=.ok (.int (m:Int)):=vm (zg rfl) rfl rfl dk
 have e5:zp wG (za (zc 1) (za (zc 2) (za (zc 4) zh))) [some (.val (.scr ns)),some (.val (.lst (X.map tx))),some (.val (tx q)),some (.val (.lst ((SR X q).map zS))),some (.val (.int (m:Int))),none,none,none,none,none,none]=.ok (.lst (((SR X q).take m).map zS)):=vm (zg rfl) (zg rfl) (zg rfl) (UB X q m hq hX' ha hl')
 have e6:g1T [some (.val (.scr ns)),some (.val (.lst (X.map tx))),some (.val (tx q)),some (.val (.lst ((SR X q).map zS))),some (.val (.int (m:Int))),some (.val (.lst (((SR X q).take m).map zS))),none,none,none,none,none]=.ok false:=by
  unfold g1T
  refine VZ (tn_ok (b:=true) ?_) (VZ (xu ?_) (xu ?_))
  ·rw[ud,zu9 (zg rfl) rfl (d:=.bl true) rfl];rfl
  ·refine op2 (zg rfl) (b:=.lst (((SR X q).take m).map zS)) ?_ (Qp _)
   rw[JA,zg (d:=.lst ((SR X q).map zS)) rfl,Rs.bind_ok]
   show((Xd _).bind fun a=>(v7 (zc 4) _).bind fun b=>slD _ a b)=_
   rw[Tg (i:=(m:Int)) (zg rfl)]
   exact(JR _ m).trans (by rw[List.map_take])
  ·exact op2 (vm (zg rfl) (zg rfl) rfl (G3 X q 99 (by lia) hq hX' ha hl')) (zg rfl) (Qp _)
 have e7:nuE [some (.val (.scr ns)),some (.val (.lst (X.map tx))),some (.val (tx q)),some (.val (.lst ((SR X q).map zS))),some (.val (.int (m:Int))),some (.val (.lst (((SR X q).take m).map zS))),none,none,none,none,none]=.ok (its (nmI (SR X q))):=
  frE (wc (ZW (zg rfl)) (wH zS D.int (fun r=>(r.2:Int)) (SR X q) fun r hr=>⟨_,rfl,op2 (zg rfl) rfl (VO r)⟩) (by rw[length_map,length_map];lia))
 obtain⟨t7,t8,e8⟩:=Ub (ns:=ns) m hq hX' ha hl' (some (.val (.lst (((SR X q).take m).map zS)))) none none (List.range X.length) none none fun i hi=>mem_range.mp hi
 have e9:=cn_ok (ns:=ns) (q:=q) m hl' (some (.val (.lst (((SR X q).take m).map zS)))) t7 t8 none none
 have e10:=gp_ok (ns:=ns) (q:=q) m hl' (some (.val (.lst (((SR X q).take m).map zS)))) t7 t8 none
 have e11:g4T (S ns X q m (some (.val (.lst (((SR X q).take m).map zS)))) t7 t8 (some (.val (its (STW.setZ ((SR X q).map (·.1))).reverse))) (some (.val (.lst (tiR (vt X q))))))=.ok false:=
  xu (op2 (vn (zg rfl) (zg rfl) (L7 X q hq hX' ha hl')) (zg rfl) (zf2 (gd_ti _) (by decide)))
 unfold Qq
 rw[law_b,zW,st,wf (vU e1)]
 show uD (zt _ _ [some (.val (.scr ns)),some (.val (.lst (X.map tx))),none,none,none,none,none,none,none,none,none])=_
 rw[wf (vU eq)]
 show uD (zt _ _ [some (.val (.scr ns)),some (.val (.lst (X.map tx))),some (.val (tx q)),none,none,none,none,none,none,none,none])=_
 rw[wf (vU e3)]
 show uD (zt _ _ [some (.val (.scr ns)),some (.val (.lst (X.map tx))),some (.val (tx q)),some (.val (.lst ((SR X q).map zS))),none,none,none,none,none,none,none])=_
 rw[wf (vU e4)]
 show uD (zt _ _ [some (.val (.scr ns)),some (.val (.lst (X.map tx))),some (.val (tx q)),some (.val (.lst ((SR X q).map zS))),some (.val (.int (m:Int))),none,none,none,none,none,none])=_
 rw[wf (vU e5)]
 show uD (zt _ _ [some (.val (.scr ns)),some (.val (.lst (X.map tx))),some (.val (tx q)),some (.val (.lst ((SR X q).map zS))),some (.val (.int (m:Int))),some (.val (.lst (((SR X q).take m).map zS))),none,none,none,none,none])=_
 rw[wf (GT e6),wf (vU e7)]
 show uD (zt _ _ (S ns X q m (some (.val (.lst (((SR X q).take m).map zS)))) none none none none))=_
 have er:vJ (za (yb yN (za (zc 1) zh)) zh) (S ns X q m (some (.val (.lst (((SR X q).take m).map zS)))) none none none none)=.ok ((List.range X.length).map fun (i:Nat)=>D.int i):=by
  rw[← J0]
  exact Y1 (u6 (zg rfl) (by rw[uU,length_map])) (by lia)
 rw[wf (τ':=S ns X q m (some (.val (.lst (((SR X q).take m).map zS)))) t7 t8 none none) (by rw[x9,er,Fl.of_ok,e8]),wf (vU e9)]
 show uD (zt _ _ (S ns X q m (some (.val (.lst (((SR X q).take m).map zS)))) t7 t8 (some (.val (its (STW.setZ ((SR X q).map (·.1))).reverse))) none))=_
 rw[wf (vU e10)]
 show uD (zt _ _ (S ns X q m (some (.val (.lst (((SR X q).take m).map zS)))) t7 t8 (some (.val (its (STW.setZ ((SR X q).map (·.1))).reverse))) (some (.val (.lst (tiR (vt X q)))))))=_
 rw[wf (GT e11),WV (la_ok (ns:=ns) m _ _ _ _ _)];rfl
set_option maxHeartbeats 4000000
noncomputable def top(i:Nat):Stmt:=PySem.Challenge.pw_fewfind_k20_found.main.body.getD i (.Pass ⟨0,0,0,0⟩)
section
variable{P:Program}{w:World}{K:Frag}{mg:Str→Option Value}{base:Heap}
noncomputable abbrev xY:Stmt:=top 39
theorem WQ:zO ["_law_script", "_law_k"] ["_law_script", "_law_k"] (zk xY):=⟨rfl,rfl,rfl,by decide +kernel,rfl,by decide +kernel,by decide +kernel⟩
theorem W7{f:Addr}{fd:FuncData}(A_:zR K mg "_law_cell" xY f fd)(z_len:mg "len" = none):DefOk P w K mg base "_law_cell" 1 2 ["_law_script", "_law_k"] wz:=by
 refine DefOk.mk (k:=0) A_ WQ rfl (fun _ _ _ _ _ _ us hl=>by obtain⟨_,_,rfl⟩:=lnz2 hl;rfl) (fun cdv A outer s H E hr=>?_) fun _ _ _ h=>h
 exact(zm (yP (zX (xL hr.units) (zb (pv 0)) (xS zi) (ya _)) (zn (zN (zq wE zj (zb (pv 1))))) yj) (zn (zN (zq zG (zK z8 (zb (pv 0)) (zq ji (zb (pv 1)) (zU wg rfl z_len PySem.boot_len (zd (zb (pv 0)) zi)))) (zq wE zj (zq j7 (zb (pv 1)) (zU wg rfl z_len PySem.boot_len (zd (zb (pv 0)) zi))))))))
noncomputable abbrev xI:Stmt:=top 40
theorem sc__law_drawn:zO ["_law_script", "_law_k", "_law_many", "_law_cell_here"] ["_law_script", "_law_k", "_law_many"] (zk xI):=⟨rfl,rfl,rfl,by decide +kernel,rfl,by decide +kernel,by decide +kernel⟩
theorem X3{f:Addr}{fd:FuncData}(A_:zR K mg "_law_drawn" xI f fd)(h__law_cell:DefOk P w K mg base "_law_cell" 1 2 ["_law_script", "_law_k"] wz):DefOk P w K mg base "_law_drawn" 2 3 ["_law_script", "_law_k", "_law_many"] zr:=by
 refine DefOk.mk (k:=1) A_ sc__law_drawn rfl (fun _ _ _ _ _ _ us hl=>by obtain⟨_,_,_,rfl⟩:=lnz3 hl;rfl) (fun cdv A outer s H E hr=>?_) fun _ _ _ h=>h
 exact(zm (zE (i:=3) sc__law_drawn.nd rfl (Or.inl rfl) (zq ji (zq zG (zq wE (zq ji (zD h__law_cell (hr.mono (by decide)) (zd (zb (pv 0)) (zd (zb (pv 1)) zi)) (ze (ze zu))) zj) zj) (zq wE zj (zq zG (zb (pv 1)) zj))) zj)) (zm (zE (i:=3) sc__law_drawn.nd rfl (Or.inl rfl) (zq ji (zq zG (zq wE (zb (pv 3)) (zb (pv 3))) (zq j7 (zb (pv 3)) zj)) zj)) (zn (zN (zq ji (zq j7 (zq ji (zq zG (zq wE (zb (pv 3)) (zb (pv 3))) (zq j7 (zb (pv 3)) zj)) zj) zj) (zb (pv 2)))))))
noncomputable abbrev xW:Stmt:=top 41
theorem sc__law_name:zO ["_law_script", "_law_at", "_law_found_here", "_law_k"] ["_law_script", "_law_at"] (zk xW):=⟨rfl,rfl,rfl,by decide +kernel,rfl,by decide +kernel,by decide +kernel⟩
theorem W5{f:Addr}{fd:FuncData}(A_:zR K mg "_law_name" xW f fd)(h__law_drawn:DefOk P w K mg base "_law_drawn" 2 3 ["_law_script", "_law_k", "_law_many"] zr)(z_range:mg "range" = none):DefOk P w K mg base "_law_name" 3 2 ["_law_script", "_law_at"] xw:=by
 refine DefOk.mk (k:=2) A_ sc__law_name rfl (fun _ _ _ _ _ _ us hl=>by obtain⟨_,_,rfl⟩:=lnz2 hl;rfl) (fun cdv A outer s H E hr=>?_) fun _ _ _ h=>h
 exact(zm (zE (i:=2) sc__law_name.nd rfl (Or.inl rfl) wa) (zm (wq PassesOwn.never rfl (wP rfl z_range (zd (zq zG zj (zD h__law_drawn (hr.mono (by decide)) (zd (zb (pv 0)) (zd (zb (pv 1)) (zd zj zi))) (ze (ze (ze zu))))) zi)) (yr sc__law_name.nd rfl (Or.inl rfl)) (zn (zE (i:=2) sc__law_name.nd rfl (Or.inl rfl) (zq zG (zb (pv 2)) (zK z8 wa (zD h__law_drawn (hr.mono (by decide)) (zd (zb (pv 0)) (zd (zq zG (zq zG (zb (pv 1)) zj) (zb (pv 3))) (zd zj zi))) (ze (ze (ze zu))))))))) (zn (zN (zb (pv 2))))))
noncomputable abbrev xF:Stmt:=top 43
theorem sc__law_names:zO ["_law_script", "_law_at", "_law_most", "_law_found_here"] ["_law_script", "_law_at", "_law_most"] (zk xF):=⟨rfl,rfl,rfl,by decide +kernel,rfl,by decide +kernel,by decide +kernel⟩
theorem XZ{f:Addr}{fd:FuncData}(A_:zR K mg "_law_names" xF f fd)(h__law_drawn:DefOk P w K mg base "_law_drawn" 2 3 ["_law_script", "_law_k", "_law_many"] zr)(h__law_name:DefOk P w K mg base "_law_name" 3 2 ["_law_script", "_law_at"] xw)(z_len:mg "len" = none)(z_range:mg "range" = none):DefOk P w K mg base "_law_names" 4 3 ["_law_script", "_law_at", "_law_most"] xN:=by
 refine DefOk.mk (k:=3) A_ sc__law_names rfl (fun _ _ _ _ _ _ us hl=>by obtain⟨_,_,_,rfl⟩:=lnz3 hl;rfl) (fun cdv A outer s H E hr=>?_) fun _ _ _ h=>h
 exact(zm (Gj (i:=3) sc__law_names.nd rfl rfl rfl (tn:=["_law_k"]) (fr:=["_law_script", "_law_at"]) (idx:=[0,1]) rfl rfl ⟨rfl,rfl,⟨rfl,rfl,trivial⟩⟩ (wj 0) (wP rfl z_range (zd (zD h__law_drawn (hr.mono (by decide)) (zd (zb (pv 0)) (zd (zb (pv 1)) (zd (zq zG (zb (pv 2)) zj) zi))) (ze (ze (ze zu)))) zi)) (fun s H C fp=>(yr (show List.Nodup (["_law_k", "_law_script", "_law_at"]:List Str) by decide +kernel) rfl (Or.inl rfl))) (fun s H C fp=>vb) (fun s H C fp=>(zD h__law_name (hr.mono (by decide)) (zd (zb (pv 1)) (zd (zq zG (zq zG (zb (pv 2)) zj) (zq wE zj (zb (pv 0)))) zi)) (ze (ze zu))))) (zm (yP (jY (W0 (zX W2 (Ta (pv 3) rfl z_len) zj (ya _)) (Y3 (zX (xL hr.units) (zD h__law_drawn (hr.mono (by decide)) (zd (zb (pv 0)) (zd (zq zG (zb (pv 1)) zj) (zd zj zi))) (ze (ze (ze zu)))) zj (ya _))))) (zn (zd1 (pv 3) zj (zd3 (pv 3) (wW zj)))) yj) (zn (Y4 (pv 3)))))
noncomputable abbrev xX:Stmt:=top 42
theorem WP:zO ["_law_sign"] ["_law_sign"] (zk xX):=⟨rfl,rfl,rfl,by decide +kernel,rfl,by decide +kernel,by decide +kernel⟩
theorem W6{f:Addr}{fd:FuncData}(A_:zR K mg "_law_mark" xX f fd):DefOk P w K mg base "_law_mark" 1 1 ["_law_sign"] xz:=by
 refine DefOk.mk (k:=0) A_ WP rfl (fun _ _ _ _ _ _ us hl=>by obtain⟨_,rfl⟩:=lnz1 hl;rfl) (fun cdv A outer s H E hr=>?_) fun _ _ _ h=>h
 exact(zn (zN (xT (vV (wC hr)) (zb (pv 0)) wa (by with_unfolding_all rfl))))
noncomputable abbrev xE:Stmt:=top 44
theorem sc__law_query:zO ["_law_script", "_law_at", "_law_name_here", "_law_most", "_law_found_here", "_law_place", "_law_k", "_law_sign"] ["_law_script", "_law_at", "_law_name_here", "_law_most"] (zk xE):=⟨rfl,rfl,rfl,by decide +kernel,rfl,by decide +kernel,by decide +kernel⟩
theorem XY{f:Addr}{fd:FuncData}(A_:zR K mg "_law_query" xE f fd)(h__law_drawn:DefOk P w K mg base "_law_drawn" 2 3 ["_law_script", "_law_k", "_law_many"] zr)(h__law_mark:DefOk P w K mg base "_law_mark" 1 1 ["_law_sign"] xz)(z_range:mg "range" = none)(z_len:mg "len" = none)(z_min:mg "min" = none):DefOk P w K mg base "_law_query" 3 4 ["_law_script", "_law_at", "_law_name_here", "_law_most"] xM:=by
 refine DefOk.mk (k:=2) A_ sc__law_query rfl (fun _ _ _ _ _ _ us hl=>by obtain⟨_,_,_,_,rfl⟩:=lnz4 hl;rfl) (fun cdv A outer s H E hr=>?_) fun _ _ _ h=>h
 exact(zm (zE (i:=4) sc__law_query.nd rfl (Or.inl rfl) wa) (zm (zE (i:=5) sc__law_query.nd rfl (Or.inl rfl) zj) (zm (wq PassesOwn.never rfl (wP rfl z_range (zd (zD h__law_drawn (hr.mono (by decide)) (zd (zb (pv 0)) (zd (zb (pv 1)) (zd (zq zG (zb (pv 3)) zj) zi))) (ze (ze (ze zu)))) zi)) (yr sc__law_query.nd rfl (Or.inl rfl)) (zm (zE (i:=5) sc__law_query.nd rfl (Or.inl rfl) (zU (Zo rfl) rfl z_min boot_min (zd (zq xK (zU wg rfl z_len PySem.boot_len (zd (zb (pv 2)) zi)) zj) (zd (zq zG (zb (pv 5)) (zD h__law_drawn (hr.mono (by decide)) (zd (zb (pv 0)) (zd (zq zG (zq zG (zb (pv 1)) zj) (zq wE zj (zb (pv 6)))) (zd zj zi))) (ze (ze (ze zu))))) zi)))) (zm (zE (i:=7) sc__law_query.nd rfl (Or.inl rfl) (Go (Jg (Jf (zb (pv 2)) (jZ (zb (pv 5))) (jZ (zq zG (zb (pv 5)) zj))) (ul wa)))) (zm (zE (i:=5) sc__law_query.nd rfl (Or.inl rfl) (zq zG (zb (pv 5)) zj)) (zm (yP (zX (xL hr.units) (zD h__law_drawn (hr.mono (by decide)) (zd (zb (pv 0)) (zd (zq zG (zq zG (zb (pv 1)) zj) (zq wE zj (zb (pv 6)))) (zd zj zi))) (ze (ze (ze zu)))) zj (ya _)) (zn (zE (i:=7) sc__law_query.nd rfl (Or.inl rfl) (zK z8 wa (zD h__law_drawn (hr.mono (by decide)) (zd (zb (pv 0)) (zd (zq zG (zq zG (zb (pv 1)) zj) (zq wE zj (zb (pv 6)))) (zd zj zi))) (ze (ze (ze zu))))))) yj) (zn (yP (Qg (jh (zD h__law_mark (hr.mono (by decide)) (zd (zb (pv 7)) zi) (ze zu)))) (zn (zE (i:=4) sc__law_query.nd rfl (Or.inl rfl) (zq zG (zb (pv 4)) (zb (pv 7))))) yj))))))) (zn (zN (zb (pv 4)))))))
noncomputable abbrev xj:Stmt:=top 50
theorem sc__law_sorted:zO ["_law_names_here", "_law_rows", "_law_keyed"] ["_law_names_here", "_law_rows"] (zk xj):=⟨rfl,rfl,rfl,by decide +kernel,rfl,by decide +kernel,by decide +kernel⟩
theorem Xb{f:Addr}{fd:FuncData}(A_:zR K mg "_law_sorted" xj f fd)(z_len:mg "len" = none)(z_sorted:mg "sorted" = none):DefOk P w K mg base "_law_sorted" 1 2 ["_law_names_here", "_law_rows"] xm:=by
 refine DefOk.mk (k:=0) A_ sc__law_sorted rfl (fun _ _ _ _ _ _ us hl=>by obtain⟨_,_,rfl⟩:=lnz2 hl;rfl) (fun cdv A outer s H E hr=>?_) fun _ _ _ h=>h
 exact(zm (zE (i:=2) sc__law_sorted.nd rfl (Or.inl rfl) (zU LJ rfl z_sorted boot_sorted (zd (ve (wm (tn:=["_law_count", "_law_number"]) (fr:=["_law_names_here"]) (idx:=[0]) rfl rfl ⟨rfl,rfl,trivial⟩ (YX 0 1) (xn (zb (pv 1))) (fun s H C fp=>(uP rfl (show List.Nodup (["_law_count", "_law_number", "_law_names_here"]:List Str) by decide +kernel) rfl (Or.inl rfl) rfl (Or.inl rfl))) (fun s H C fp=>vb) (fun s H C fp=>(xR (zd (zq xK zj (zb (pv 0))) (zd (zU wg rfl z_len PySem.boot_len (zd (zK z8 (zb (pv 2)) (zb (pv 1))) zi)) (zd (zb (pv 1)) zi))))))) zi))) (zn (zN (ve (wm (tn:=["_law_less", "_law_many", "_law_number"]) (fr:=[]) (idx:=[]) rfl rfl trivial (MH 0 1 2 (by decide) (by decide) (by decide)) (xn (zb (pv 2))) (fun s H C fp=>(M7 rfl (show List.Nodup (["_law_less", "_law_many", "_law_number"]:List Str) by decide +kernel) rfl (Or.inl rfl) rfl (Or.inl rfl) rfl (Or.inl rfl))) (fun s H C fp=>vb) (fun s H C fp=>(xR (zd (zq xK zj (zb (pv 0))) (zd (zb (pv 2)) zi)))))))))
noncomputable abbrev xG:Stmt:=top 45
theorem sc__law_meets:zO ["_law_typed", "_law_sign", "_law_smalls"] ["_law_typed", "_law_sign"] (zk xG):=⟨rfl,rfl,rfl,by decide +kernel,rfl,by decide +kernel,by decide +kernel⟩
theorem X1{f:Addr}{fd:FuncData}(A_:zR K mg "_law_meets" xG f fd):DefOk P w K mg base "_law_meets" 1 2 ["_law_typed", "_law_sign"] y9:=by
 refine DefOk.mk (k:=0) A_ sc__law_meets rfl (fun _ _ _ _ _ _ us hl=>by obtain⟨_,_,rfl⟩:=lnz2 hl;rfl) (fun cdv A outer s H E hr=>?_) fun _ _ _ h=>h
 exact(zm (zE (i:=2) sc__law_meets.nd rfl (Or.inl rfl) wa) (zn (zN (Jg (xT (xL hr.units) (zb (pv 0)) (zb (pv 1)) (ya _)) (ul (Yz (xT (vV (wC hr)) (zb (pv 0)) (zb (pv 2)) (by with_unfolding_all rfl)) (ul (xT (xL hr.units) (zb (pv 1)) (zK z8 wa (M9 F.plainAttrs_str F.slot_str_index F.type_str_index zr8 (zb (pv 2)) (zd (zb (pv 0)) zi))) (ya _)))))))))
noncomputable abbrev yX:Stmt:=top 46
theorem sc__law_layings:zO ["_law_query_here", "_law_name_here", "_law_found_here", "_law_typed", "_law_longer", "_law_laying", "_law_start"] ["_law_query_here", "_law_name_here"] (zk yX):=⟨rfl,rfl,rfl,by decide +kernel,rfl,by decide +kernel,by decide +kernel⟩
theorem Yp{f:Addr}{fd:FuncData}(A_:zR K mg "_law_layings" yX f fd)(h__law_meets:DefOk P w K mg base "_law_meets" 1 2 ["_law_typed", "_law_sign"] y9)(z_len:mg "len" = none)(z_range:mg "range" = none):DefOk P w K mg base "_law_layings" 2 2 ["_law_query_here", "_law_name_here"] yJ:=by
 refine DefOk.mk (k:=1) A_ sc__law_layings rfl (fun _ _ _ _ _ _ us hl=>by obtain⟨_,_,rfl⟩:=lnz2 hl;rfl) (fun cdv A outer s H E hr=>?_) fun _ _ _ h=>h
 exact(zm (zE (i:=2) sc__law_layings.nd rfl (Or.inl rfl) (xS (zd (xS zi) zi))) (zm (wq PassesOwn.never rfl (xn (zb (pv 0))) (yr sc__law_layings.nd rfl (Or.inr rfl)) (zm (zE (i:=4) sc__law_layings.nd rfl (Or.inl rfl) (xS zi)) (zm (wq PassesOwn.never rfl (xn (zb (pv 2))) (yr sc__law_layings.nd rfl (Or.inr rfl)) (zm (zE (i:=6) sc__law_layings.nd rfl (Or.inl rfl) (Tb (zX (ZF hr.units) (zb (pv 5)) (xS zi) (ya _)) (zq zG (zK z8 (zb (pv 5)) (wW zj)) zj) zj)) (zn (zE (i:=4) sc__law_layings.nd rfl (Or.inl rfl) (zq zG (zb (pv 4)) (ve (wm (tn:=["_law_k"]) (fr:=["_law_laying", "_law_typed", "_law_name_here"]) (idx:=[5,3,1]) rfl rfl ⟨rfl,rfl,⟨rfl,rfl,⟨rfl,rfl,trivial⟩⟩⟩ (wj 0) (Je rfl z_range (zd (zb (pv 6)) (zd (zU wg rfl z_len PySem.boot_len (zd (zb (pv 1)) zi)) zi))) (fun s H C fp=>(yr (show List.Nodup (["_law_k", "_law_laying", "_law_typed", "_law_name_here"]:List Str) by decide +kernel) rfl (Or.inl rfl))) (fun s H C fp=>(v6 (jh (zD h__law_meets (hr.mono (by decide)) (zd (zb (pv 2)) (zd (zK z8 (zb (pv 3)) (zb (pv 0))) zi)) (ze (ze zu)))))) (fun s H C fp=>(zq zG (zb (pv 1)) (xS (zd (zb (pv 0)) zi))))))))))) (zn (zE (i:=2) sc__law_layings.nd rfl (Or.inl rfl) (zb (pv 4))))))) (zn (zN (zb (pv 2))))))
noncomputable abbrev xJ:Stmt:=top 47
theorem sc__law_alone:zO ["_law_typed", "_law_name_here", "_law_place", "_law_whole", "_law_is_great"] ["_law_typed", "_law_name_here", "_law_place"] (zk xJ):=⟨rfl,rfl,rfl,by decide +kernel,rfl,by decide +kernel,by decide +kernel⟩
theorem X4{f:Addr}{fd:FuncData}(A_:zR K mg "_law_alone" xJ f fd)(z_int:mg "int" = none):DefOk P w K mg base "_law_alone" 1 3 ["_law_typed", "_law_name_here", "_law_place"] xb:=by
 refine DefOk.mk (k:=0) A_ sc__law_alone rfl (fun _ _ _ _ _ _ us hl=>by obtain⟨_,_,_,rfl⟩:=lnz3 hl;rfl) (fun cdv A outer s H E hr=>?_) fun _ _ _ h=>h
 exact(zm (zE (i:=3) sc__law_alone.nd rfl (Or.inl rfl) (zq zG zj (Y6 QW rfl z_int boot_int (zd (xT (xL hr.units) (zb (pv 0)) (zK z8 (zb (pv 1)) (zb (pv 2))) (ya _)) zi)))) (zm (yP (zX (xL hr.units) (zb (pv 2)) zj (ya _)) (zn (zN (zq zG (zb (pv 3)) zj))) yj) (zm (yP (zX (vV (wC hr)) (zK z8 (zb (pv 1)) (zq xK (zb (pv 2)) zj)) wa (by with_unfolding_all rfl)) (zn (zN (zq zG (zb (pv 3)) zj))) yj) (zm (zE (i:=4) sc__law_alone.nd rfl (Or.inl rfl) (xT (vV (wC hr)) (zK z8 (zb (pv 1)) (zb (pv 2))) wa (by with_unfolding_all rfl))) (zn (zN (zq zG (zb (pv 3)) (zq wE zj (Y6 QW rfl z_int boot_int (zd (Yz (zb (pv 4)) (ul (xT (vV (wC hr)) (zK z8 (zb (pv 1)) (zq xK (zb (pv 2)) zj)) wa (by with_unfolding_all rfl)))) zi))))))))))
noncomputable abbrev xk:Stmt:=top 48
theorem sc__law_points:zO ["_law_query_here", "_law_name_here", "_law_laying", "_law_whole", "_law_at", "_law_place"] ["_law_query_here", "_law_name_here", "_law_laying"] (zk xk):=⟨rfl,rfl,rfl,by decide +kernel,rfl,by decide +kernel,by decide +kernel⟩
theorem Xc{f:Addr}{fd:FuncData}(A_:zR K mg "_law_points" xk f fd)(h__law_alone:DefOk P w K mg base "_law_alone" 1 3 ["_law_typed", "_law_name_here", "_law_place"] xb)(z_enumerate:mg "enumerate" = none)(z_min:mg "min" = none):DefOk P w K mg base "_law_points" 2 3 ["_law_query_here", "_law_name_here", "_law_laying"] yR:=by
 refine DefOk.mk (k:=1) A_ sc__law_points rfl (fun _ _ _ _ _ _ us hl=>by obtain⟨_,_,_,rfl⟩:=lnz3 hl;rfl) (fun cdv A outer s H E hr=>?_) fun _ _ _ h=>h
 exact(zm (zE (i:=3) sc__law_points.nd rfl (Or.inl rfl) zj) (zm (wq PassesOwn.never rfl (Y5 rfl z_enumerate (zd (zb (pv 2)) zi)) (uP rfl sc__law_points.nd rfl (Or.inl rfl) rfl (Or.inl rfl)) (zm (zE (i:=3) sc__law_points.nd rfl (Or.inl rfl) (zq zG (zb (pv 3)) (zD h__law_alone (hr.mono (by decide)) (zd (zK z8 (zb (pv 0)) (zb (pv 4))) (zd (zb (pv 1)) (zd (zb (pv 5)) zi))) (ze (ze (ze zu)))))) (zn (yP (zX (xL hr.units) (zb (pv 4)) zj (ya _)) (zn (zE (i:=3) sc__law_points.nd rfl (Or.inl rfl) (zq xK (zb (pv 3)) (zU (Zo rfl) rfl z_min boot_min (zd zj (zd (zb (pv 5)) zi)))))) (zn (yP (zX (xL hr.units) (zq zG (zK z8 (zb (pv 2)) (zq xK (zb (pv 4)) zj)) zj) (zb (pv 5)) (ya _)) (zn (zE (i:=3) sc__law_points.nd rfl (Or.inl rfl) (zq zG (zb (pv 3)) zj))) (zn (zE (i:=3) sc__law_points.nd rfl (Or.inl rfl) (zq xK (zb (pv 3)) (zU (Zo rfl) rfl z_min boot_min (zd zj (zd (zq xK (zq xK (zb (pv 5)) (zK z8 (zb (pv 2)) (zq xK (zb (pv 4)) zj))) zj) zi)))))))))))) (zn (zN (zb (pv 3))))))
noncomputable abbrev xZ:Stmt:=top 49
theorem sc__law_best:zO ["_law_query_here", "_law_name_here", "_law_best_row", "_law_laying", "_law_count"] ["_law_query_here", "_law_name_here"] (zk xZ):=⟨rfl,rfl,rfl,by decide +kernel,rfl,by decide +kernel,by decide +kernel⟩
theorem W8{f:Addr}{fd:FuncData}(A_:zR K mg "_law_best" xZ f fd)(h__law_layings:DefOk P w K mg base "_law_layings" 2 2 ["_law_query_here", "_law_name_here"] yJ)(h__law_points:DefOk P w K mg base "_law_points" 2 3 ["_law_query_here", "_law_name_here", "_law_laying"] yR):DefOk P w K mg base "_law_best" 3 2 ["_law_query_here", "_law_name_here"] xA:=by
 refine DefOk.mk (k:=2) A_ sc__law_best rfl (fun _ _ _ _ _ _ us hl=>by obtain⟨_,_,rfl⟩:=lnz2 hl;rfl) (fun cdv A outer s H E hr=>?_) fun _ _ _ h=>h
 exact(zm (zE (i:=2) sc__law_best.nd rfl (Or.inl rfl) wV) (zm (wq PassesOwn.never rfl (xn (zD h__law_layings (hr.mono (by decide)) (zd (zb (pv 0)) (zd (zb (pv 1)) zi)) (ze (ze zu)))) (yr sc__law_best.nd rfl (Or.inl rfl)) (zm (zE (i:=4) sc__law_best.nd rfl (Or.inl rfl) (zD h__law_points (hr.mono (by decide)) (zd (zb (pv 0)) (zd (zb (pv 1)) (zd (zb (pv 3)) zi))) (ze (ze (ze zu))))) (zn (yP (jY (jD (zX Ji (zb (pv 2)) wV (ya _)) (jg (zX W2 (zb (pv 4)) (zK z8 (zb (pv 2)) zj) (ya _))))) (zn (zE (i:=2) sc__law_best.nd rfl (Or.inl rfl) (xR (zd (zb (pv 4)) (zd (zb (pv 3)) zi))))) yj)))) (zn (zN (zb (pv 2))))))
noncomputable abbrev xH:Stmt:=top 51
theorem sc__law_found:zO ["_law_names_here", "_law_query_here", "_law_rows"] ["_law_names_here", "_law_query_here"] (zk xH):=⟨rfl,rfl,rfl,by decide +kernel,rfl,by decide +kernel,by decide +kernel⟩
theorem X2{f:Addr}{fd:FuncData}(A_:zR K mg "_law_found" xH f fd)(h__law_sorted:DefOk P w K mg base "_law_sorted" 1 2 ["_law_names_here", "_law_rows"] xm)(h__law_best:DefOk P w K mg base "_law_best" 3 2 ["_law_query_here", "_law_name_here"] xA)(z_enumerate:mg "enumerate" = none):DefOk P w K mg base "_law_found" 4 2 ["_law_names_here", "_law_query_here"] xa:=by
 refine DefOk.mk (k:=3) A_ sc__law_found rfl (fun _ _ _ _ _ _ us hl=>by obtain⟨_,_,rfl⟩:=lnz2 hl;rfl) (fun cdv A outer s H E hr=>?_) fun _ _ _ h=>h
 exact(zm (VV (i:=2) sc__law_found.nd rfl rfl rfl (tn:=["_law_number", "_law_name_here"]) (fr:=["_law_query_here"]) (idx:=[1]) rfl rfl ⟨rfl,rfl,trivial⟩ (YX 0 1) (Y5 rfl z_enumerate (zd (zb (pv 0)) zi)) (fun s H C fp=>(uP rfl (show List.Nodup (["_law_number", "_law_name_here", "_law_query_here"]:List Str) by decide +kernel) rfl (Or.inl rfl) rfl (Or.inl rfl))) (fun s H C fp=>vb) (fun s H C fp=>(xR (zd (zD h__law_best (hr.mono (by decide)) (zd (zb (pv 2)) (zd (zb (pv 1)) zi)) (ze (ze zu))) (zd (zb (pv 0)) zi))))) (zn (zN (zD h__law_sorted (hr.mono (by decide)) (zd (zb (pv 0)) (zd (ve (wm (tn:=["_law_row", "_law_number"]) (fr:=[]) (idx:=[]) rfl rfl trivial (YX 0 1) (xn (zb (pv 2))) (fun s H C fp=>(uP rfl (show List.Nodup (["_law_row", "_law_number"]:List Str) by decide +kernel) rfl (Or.inl rfl) rfl (Or.inl rfl))) (fun s H C fp=>(v6 (zX jj (zb (pv 0)) wV (ya _)))) (fun s H C fp=>(xR (zd (zK z8 (zb (pv 0)) zj) (zd (zb (pv 1)) zi)))))) zi)) (ze (ze zu))))))
noncomputable abbrev wO:Stmt:=top 31
theorem VJ:zO ["names", "rows"] ["names", "rows"] (zk wO):=⟨rfl,rfl,rfl,by decide +kernel,rfl,by decide +kernel,by decide +kernel⟩
theorem V1{f c:Addr}(A_:JO K mg "in_order" wO f c 136)(bm:BM mg base)(z_len:mg "len" = none)(z_sorted:mg "sorted" = none):DefOk P w K mg base "in_order" 4 2 ["names", "rows"] yZ:=by
 refine DefOk.mkL (k:=3) A_ VJ rfl (fun _ _ _ _ _ _ us hl=>by obtain⟨_,_,rfl⟩:=lnz2 hl;rfl) (fun A outer s H E hr=>?_)
 exact(zn (zN (Gn (P:=136) (p := "row") (fr:=["names"]) (idx:=[0]) rfl z_sorted boot_sorted (zb (pv 1)) (hr.mono (by decide)) (TabsU.of (by decide)) bm rfl A_.tab (.head _) rfl ⟨rfl,rfl,trivial⟩ rfl rfl rfl (fun _ _ _ _ _=>rfl) (fun s H f cd=>(xR (zd (wW (zK z8 (zb (pv 0)) zj)) (zd (zU wg rfl z_len PySem.boot_len (zd (zK z8 (zb (pv 1)) (zK z8 (zb (pv 0)) zj)) zi)) (zd (zK z8 (zb (pv 0)) zj) zi))))))))
noncomputable abbrev xD:Stmt:=top 32
theorem XU:zO ["names", "rows", "many"] ["names", "rows", "many"] (zk xD):=⟨rfl,rfl,rfl,by decide +kernel,rfl,by decide +kernel,by decide +kernel⟩
theorem XX{f:Addr}{fd:FuncData}(A_:zR K mg "first_rows" xD f fd)(h_in_order:DefOk P w K mg base "in_order" 4 2 ["names", "rows"] yZ)(z_max:mg "max" = none):DefOk P w K mg base "first_rows" 5 3 ["names", "rows", "many"] y8:=by
 refine DefOk.mk (k:=4) A_ XU rfl (fun _ _ _ _ _ _ us hl=>by obtain⟨_,_,_,rfl⟩:=lnz3 hl;rfl) (fun cdv A outer s H E hr=>?_) fun _ _ _ h=>h
 exact(zn (zN (Jf (zD h_in_order (hr.mono (by decide)) (zd (zb (pv 0)) (zd (zb (pv 1)) zi)) (ze (ze zu))) VW (jZ (zU (zk0 rfl) rfl z_max boot_max (zd (zb (pv 2)) (zd zj zi)))))))
noncomputable abbrev yo:Stmt:=top 20
theorem sc_beginning_points:zO ["name", "place", "ahead"] ["name", "place"] (zk yo):=⟨rfl,rfl,rfl,by decide +kernel,rfl,by decide +kernel,by decide +kernel⟩
theorem jr{f:Addr}{fd:FuncData}(A_:zR K mg "beginning_points" yo f fd){t_FIGURES:Tok}(g_FIGURES:mg "FIGURES" = some (.str "0123456789" t_FIGURES)){t_SMALL:Tok}(g_SMALL:mg "SMALL" = some (.str "abcdefghijklmnopqrstuvwxyz" t_SMALL)){t_GREAT:Tok}(g_GREAT:mg "GREAT" = some (.str "ABCDEFGHIJKLMNOPQRSTUVWXYZ" t_GREAT)){t_AT_GREAT:Tok}(g_AT_GREAT:mg "AT_GREAT" = some (.int 5 t_AT_GREAT)){t_MARKS:Tok}(g_MARKS:mg "MARKS" = some (.str "_-./" t_MARKS)){t_BEHIND_MARK:Tok}(g_BEHIND_MARK:mg "BEHIND_MARK" = some (.int 6 t_BEHIND_MARK)){t_AT_BEGINNING:Tok}(g_AT_BEGINNING:mg "AT_BEGINNING" = some (.int 8 t_AT_BEGINNING)):DefOk P w K mg base "beginning_points" 1 2 ["name", "place"] yE:=by
 refine DefOk.mk (k:=0) A_ sc_beginning_points rfl (fun _ _ _ _ _ _ us hl=>by obtain⟨_,_,rfl⟩:=lnz2 hl;rfl) (fun cdv A outer s H E hr=>?_) fun _ _ _ h=>h
 exact(zm (yP (zX (xL hr.units) (zb (pv 1)) zj (ya _)) (zn (zN (vM rfl g_AT_BEGINNING))) yj) (zm (zE (i:=2) sc_beginning_points.nd rfl (Or.inl rfl) (zK z8 (zb (pv 0)) (zq xK (zb (pv 1)) zj))) (zm (yP (zX (vV (wC hr)) (zb (pv 2)) (j5 rfl g_MARKS) (by with_unfolding_all rfl)) (zn (zN (vM rfl g_BEHIND_MARK))) yj) (zm (yP (jY (W0 (zX (vV (wC hr)) (zK z8 (zb (pv 0)) (zb (pv 1))) (j5 rfl g_GREAT) (by with_unfolding_all rfl)) (Y3 (jY (jD (zX (vV (wC hr)) (zb (pv 2)) (j5 rfl g_SMALL) (by with_unfolding_all rfl)) (jg (zX (vV (wC hr)) (zb (pv 2)) (j5 rfl g_FIGURES) (by with_unfolding_all rfl)))))))) (zn (zN (vM rfl g_AT_GREAT))) yj) (zn (zN zj))))))
noncomputable abbrev xC:Stmt:=top 21
theorem sc_own_points:zO ["sign", "name", "place", "same"] ["sign", "name", "place"] (zk xC):=⟨rfl,rfl,rfl,by decide +kernel,rfl,by decide +kernel,by decide +kernel⟩
theorem XW{f:Addr}{fd:FuncData}(A_:zR K mg "own_points" xC f fd)(h_beginning_points:DefOk P w K mg base "beginning_points" 1 2 ["name", "place"] yE){t_EACH_PLACE:Tok}(g_EACH_PLACE:mg "EACH_PLACE" = some (.int 10 t_EACH_PLACE)){t_SAME_SIGN:Tok}(g_SAME_SIGN:mg "SAME_SIGN" = some (.int 1 t_SAME_SIGN)):DefOk P w K mg base "own_points" 2 3 ["sign", "name", "place"] yA:=by
 refine DefOk.mk (k:=1) A_ sc_own_points rfl (fun _ _ _ _ _ _ us hl=>by obtain⟨_,_,_,rfl⟩:=lnz3 hl;rfl) (fun cdv A outer s H E hr=>?_) fun _ _ _ h=>h
 exact(zm (zE (i:=3) sc_own_points.nd rfl (Or.inl rfl) (Tb (zX (xL hr.units) (zK z8 (zb (pv 1)) (zb (pv 2))) (zb (pv 0)) (ya _)) (vM rfl g_SAME_SIGN) zj)) (zn (zN (zq zG (zq zG (vM rfl g_EACH_PLACE) (zD h_beginning_points (hr.mono (by decide)) (zd (zb (pv 1)) (zd (zb (pv 2)) zi)) (ze (ze zu)))) (zb (pv 3))))))
noncomputable abbrev ug:Stmt:=top 10
theorem MJ:zO ["sign", "other"] ["sign", "other"] (zk ug):=⟨rfl,rfl,rfl,by decide +kernel,rfl,by decide +kernel,by decide +kernel⟩
theorem Ti{f:Addr}{fd:FuncData}(A_:zR K mg "meets" ug f fd){t_SMALL:Tok}(g_SMALL:mg "SMALL" = some (.str "abcdefghijklmnopqrstuvwxyz" t_SMALL)):DefOk P w K mg base "meets" 1 2 ["sign", "other"] wF:=by
 refine DefOk.mk (k:=0) A_ MJ rfl (fun _ _ _ _ _ _ us hl=>by obtain⟨_,_,rfl⟩:=lnz2 hl;rfl) (fun cdv A outer s H E hr=>?_) fun _ _ _ h=>h
 exact(zn (zN (Jg (xT (xL hr.units) (zb (pv 0)) (zb (pv 1)) (ya _)) (ul (Yz (xT (vV (wC hr)) (zb (pv 0)) (j5 rfl g_SMALL) (by with_unfolding_all rfl)) (ul (xT (xL hr.units) (Gm (zb (pv 0))) (zb (pv 1)) (ya _))))))))
noncomputable abbrev yw:Stmt:=top 25
theorem jA:zO ["sign", "name"] ["sign", "name"] (zk yw):=⟨rfl,rfl,rfl,by decide +kernel,rfl,by decide +kernel,by decide +kernel⟩
theorem jF{f:Addr}{fd:FuncData}(A_:zR K mg "last_sign_tails" yw f fd)(h_meets:DefOk P w K mg base "meets" 1 2 ["sign", "other"] wF)(h_own_points:DefOk P w K mg base "own_points" 2 3 ["sign", "name", "place"] yA)(z_len:mg "len" = none)(z_range:mg "range" = none):DefOk P w K mg base "last_sign_tails" 3 2 ["sign", "name"] ym:=by
 refine DefOk.mk (k:=2) A_ jA rfl (fun _ _ _ _ _ _ us hl=>by obtain⟨_,_,rfl⟩:=lnz2 hl;rfl) (fun cdv A outer s H E hr=>?_) fun _ _ _ h=>h
 exact(zn (zN (ve (wm (tn:=["place"]) (fr:=["sign", "name"]) (idx:=[0,1]) rfl rfl ⟨rfl,rfl,⟨rfl,rfl,trivial⟩⟩ (wj 0) (wP rfl z_range (zd (zU wg rfl z_len PySem.boot_len (zd (zb (pv 1)) zi)) zi)) (fun s H C fp=>(yr (show List.Nodup (["place", "sign", "name"]:List Str) by decide +kernel) rfl (Or.inl rfl))) (fun s H C fp=>(v6 (jh (zD h_meets (hr.mono (by decide)) (zd (zb (pv 1)) (zd (zK z8 (zb (pv 2)) (zb (pv 0))) zi)) (ze (ze zu)))))) (fun s H C fp=>(xR (zd (zD h_own_points (hr.mono (by decide)) (zd (zb (pv 1)) (zd (zb (pv 2)) (zd (zb (pv 0)) zi))) (ze (ze (ze zu)))) (zd (xS (zd (zb (pv 0)) zi)) zi))))))))
noncomputable abbrev yM:Stmt:=top 24
theorem sc_first_of_most:zO ["tails", "chosen", "tail"] ["tails"] (zk yM):=⟨rfl,rfl,rfl,by decide +kernel,rfl,by decide +kernel,by decide +kernel⟩
theorem ZG{f:Addr}{fd:FuncData}(A_:zR K mg "first_of_most" yM f fd):DefOk P w K mg base "first_of_most" 1 1 ["tails"] z6:=by
 refine DefOk.mk (k:=0) A_ sc_first_of_most rfl (fun _ _ _ _ _ _ us hl=>by obtain⟨_,rfl⟩:=lnz1 hl;rfl) (fun cdv A outer s H E hr=>?_) fun _ _ _ h=>h
 exact(zm (zE (i:=1) sc_first_of_most.nd rfl (Or.inl rfl) wV) (zm (wq PassesOwn.never rfl (xn (zb (pv 0))) (yr sc_first_of_most.nd rfl (Or.inl rfl)) (zn (yP (jY (jD (zX Ji (zb (pv 1)) wV (ya _)) (jg (zX W2 (zK z8 (zb (pv 2)) zj) (zK z8 (zb (pv 1)) zj) (ya _))))) (zn (zE (i:=1) sc_first_of_most.nd rfl (Or.inl rfl) (zb (pv 2)))) yj))) (zn (zN (zb (pv 1))))))
noncomputable abbrev xh:Stmt:=top 23
theorem sc_link_points:zO ["ahead", "place", "between"] ["ahead", "place"] (zk xh):=⟨rfl,rfl,rfl,by decide +kernel,rfl,by decide +kernel,by decide +kernel⟩
theorem Y9{f:Addr}{fd:FuncData}(A_:zR K mg "link_points" xh f fd){t_MOST_BETWEEN:Tok}(g_MOST_BETWEEN:mg "MOST_BETWEEN" = some (.int 5 t_MOST_BETWEEN)){t_BESIDE:Tok}(g_BESIDE:mg "BESIDE" = some (.int 7 t_BESIDE))(z_min:mg "min" = none):DefOk P w K mg base "link_points" 1 2 ["ahead", "place"] xl:=by
 refine DefOk.mk (k:=0) A_ sc_link_points rfl (fun _ _ _ _ _ _ us hl=>by obtain⟨_,_,rfl⟩:=lnz2 hl;rfl) (fun cdv A outer s H E hr=>?_) fun _ _ _ h=>h
 exact(zm (zE (i:=2) sc_link_points.nd rfl (Or.inl rfl) (zq xK (zq xK (zb (pv 1)) (zb (pv 0))) zj)) (zm (yP (zX (xL hr.units) (zb (pv 2)) zj (ya _)) (zn (zN (vM rfl g_BESIDE))) yj) (zn (zN (wW (zU (Zo rfl) rfl z_min boot_min (zd (zb (pv 2)) (zd (vM rfl g_MOST_BETWEEN) zi))))))))
noncomputable abbrev yU:Stmt:=top 26
theorem Yg:zO ["place", "tails"] ["place", "tails"] (zk yU):=⟨rfl,rfl,rfl,by decide +kernel,rfl,by decide +kernel,by decide +kernel⟩
theorem Ym{f:Addr}{fd:FuncData}(A_:zR K mg "linked_tails" yU f fd)(h_link_points:DefOk P w K mg base "link_points" 1 2 ["ahead", "place"] xl):DefOk P w K mg base "linked_tails" 2 2 ["place", "tails"] yG:=by
 refine DefOk.mk (k:=1) A_ Yg rfl (fun _ _ _ _ _ _ us hl=>by obtain⟨_,_,rfl⟩:=lnz2 hl;rfl) (fun cdv A outer s H E hr=>?_) fun _ _ _ h=>h
 exact(zn (zN (ve (wm (tn:=["tail"]) (fr:=["place"]) (idx:=[0]) rfl rfl ⟨rfl,rfl,trivial⟩ (wj 0) (xn (zb (pv 1))) (fun s H C fp=>(yr (show List.Nodup (["tail", "place"]:List Str) by decide +kernel) rfl (Or.inl rfl))) (fun s H C fp=>(v6 (zX W2 (zK z8 (zK z8 (zb (pv 0)) zj) zj) (zb (pv 1)) (ya _)))) (fun s H C fp=>(xR (zd (zq zG (zK z8 (zb (pv 0)) zj) (zD h_link_points (hr.mono (by decide)) (zd (zb (pv 1)) (zd (zK z8 (zK z8 (zb (pv 0)) zj) zj) zi)) (ze (ze zu)))) (zd (zK z8 (zb (pv 0)) zj) zi))))))))
noncomputable abbrev yT:Stmt:=top 27
theorem sc_longer_tails:zO ["sign", "name", "tails", "longer", "place", "chosen"] ["sign", "name", "tails"] (zk yT):=⟨rfl,rfl,rfl,by decide +kernel,rfl,by decide +kernel,by decide +kernel⟩
theorem Yl{f:Addr}{fd:FuncData}(A_:zR K mg "longer_tails" yT f fd)(h_meets:DefOk P w K mg base "meets" 1 2 ["sign", "other"] wF)(h_own_points:DefOk P w K mg base "own_points" 2 3 ["sign", "name", "place"] yA)(h_linked_tails:DefOk P w K mg base "linked_tails" 2 2 ["place", "tails"] yG)(h_first_of_most:DefOk P w K mg base "first_of_most" 1 1 ["tails"] z6)(z_len:mg "len" = none)(z_range:mg "range" = none):DefOk P w K mg base "longer_tails" 3 3 ["sign", "name", "tails"] yY:=by
 refine DefOk.mk (k:=2) A_ sc_longer_tails rfl (fun _ _ _ _ _ _ us hl=>by obtain⟨_,_,_,rfl⟩:=lnz3 hl;rfl) (fun cdv A outer s H E hr=>?_) fun _ _ _ h=>h
 exact(zm (VU (i:=3) sc_longer_tails.nd rfl (Or.inl rfl) (Qi zi)) (zm (wq PassesOwn.never rfl (wP rfl z_range (zd (zU wg rfl z_len PySem.boot_len (zd (zb (pv 1)) zi)) zi)) (yr sc_longer_tails.nd rfl (Or.inl rfl)) (zn (yP (jh (zD h_meets (hr.mono (by decide)) (zd (zb (pv 0)) (zd (zK z8 (zb (pv 1)) (zb (pv 4))) zi)) (ze (ze zu)))) (zm (zE (i:=5) sc_longer_tails.nd rfl (Or.inl rfl) (zD h_first_of_most (hr.mono (by decide)) (zd (zD h_linked_tails (hr.mono (by decide)) (zd (zb (pv 4)) (zd (zb (pv 2)) zi)) (ze (ze zu))) zi) (ze zu))) (zn (yP (zX jj (zb (pv 5)) wV (ya _)) (zn (Qh (pv 3) (xR (zd (zq zG (zD h_own_points (hr.mono (by decide)) (zd (zb (pv 0)) (zd (zb (pv 1)) (zd (zb (pv 4)) zi))) (ze (ze (ze zu)))) (zK z8 (zb (pv 5)) zj)) (zd (zq zG (xS (zd (zb (pv 4)) zi)) (zK z8 (zb (pv 5)) zj)) zi))))) yj))) yj))) (zn (Y4 (pv 3)))))
noncomputable abbrev xi:Stmt:=top 22
theorem YY:zO ["place"] ["place"] (zk xi):=⟨rfl,rfl,rfl,by decide +kernel,rfl,by decide +kernel,by decide +kernel⟩
theorem Xa{f:Addr}{fd:FuncData}(A_:zR K mg "lead_points" xi f fd){t_MOST_AHEAD:Tok}(g_MOST_AHEAD:mg "MOST_AHEAD" = some (.int 3 t_MOST_AHEAD))(z_min:mg "min" = none):DefOk P w K mg base "lead_points" 1 1 ["place"] yQ:=by
 refine DefOk.mk (k:=0) A_ YY rfl (fun _ _ _ _ _ _ us hl=>by obtain⟨_,rfl⟩:=lnz1 hl;rfl) (fun cdv A outer s H E hr=>?_) fun _ _ _ h=>h
 exact(zn (zN (wW (zU (Zo rfl) rfl z_min boot_min (zd (zb (pv 0)) (zd (vM rfl g_MOST_AHEAD) zi))))))
noncomputable abbrev jC:Stmt:=top 28
theorem sc_best:zO ["query", "name", "tails", "number"] ["query", "name"] (zk jC):=⟨rfl,rfl,rfl,by decide +kernel,rfl,by decide +kernel,by decide +kernel⟩
theorem ze0{f:Addr}{fd:FuncData}(A_:zR K mg "best" jC f fd)(h_lead_points:DefOk P w K mg base "lead_points" 1 1 ["place"] yQ)(h_first_of_most:DefOk P w K mg base "first_of_most" 1 1 ["tails"] z6)(h_longer_tails:DefOk P w K mg base "longer_tails" 3 3 ["sign", "name", "tails"] yY)(h_last_sign_tails:DefOk P w K mg base "last_sign_tails" 3 2 ["sign", "name"] ym)(z_len:mg "len" = none)(z_range:mg "range" = none):DefOk P w K mg base "best" 4 2 ["query", "name"] vW:=by
 refine DefOk.mk (k:=3) A_ sc_best rfl (fun _ _ _ _ _ _ us hl=>by obtain⟨_,_,rfl⟩:=lnz2 hl;rfl) (fun cdv A outer s H E hr=>?_) fun _ _ _ h=>h
 exact(zm (yP (zX (xL hr.units) (zU wg rfl z_len PySem.boot_len (zd (zb (pv 0)) zi)) zj (ya _)) (zn (zN (xR (zd zj (zd (xS zi) zi))))) yj) (zm (zE (i:=2) sc_best.nd rfl (Or.inl rfl) (zD h_last_sign_tails (hr.mono (by decide)) (zd (zK z8 (zb (pv 0)) (wW zj)) (zd (zb (pv 1)) zi)) (ze (ze zu)))) (zm (wq PassesOwn.never rfl (Jd rfl z_range (zd (zq xK (zU wg rfl z_len PySem.boot_len (zd (zb (pv 0)) zi)) zj) (zd (wW zj) (zd (wW zj) zi)))) (yr sc_best.nd rfl (Or.inl rfl)) (zn (zE (i:=2) sc_best.nd rfl (Or.inl rfl) (zD h_longer_tails (hr.mono (by decide)) (zd (zK z8 (zb (pv 0)) (zb (pv 3))) (zd (zb (pv 1)) (zd (zb (pv 2)) zi))) (ze (ze (ze zu))))))) (zn (zN (zD h_first_of_most (hr.mono (by decide)) (zd (ve (wm (tn:=["tail"]) (fr:=[]) (idx:=[]) rfl rfl trivial (wj 0) (xn (zb (pv 2))) (fun s H C fp=>(yr (show List.Nodup (["tail"]:List Str) by decide +kernel) rfl (Or.inl rfl))) (fun s H C fp=>vb) (fun s H C fp=>(xR (zd (zq zG (zK z8 (zb (pv 0)) zj) (zD h_lead_points (hr.mono (by decide)) (zd (zK z8 (zK z8 (zb (pv 0)) zj) zj) zi) (ze zu))) (zd (zK z8 (zb (pv 0)) zj) zi)))))) zi) (ze zu)))))))
noncomputable abbrev yV:Stmt:=top 30
theorem sc_fitting_rows:zO ["names", "query", "numbers", "rows", "number", "laid"] ["names", "query", "numbers"] (zk yV):=⟨rfl,rfl,rfl,by decide +kernel,rfl,by decide +kernel,by decide +kernel⟩
theorem Yn{f:Addr}{fd:FuncData}(A_:zR K mg "fitting_rows" yV f fd)(h_best:DefOk P w K mg base "best" 4 2 ["query", "name"] vW):DefOk P w K mg base "fitting_rows" 5 3 ["names", "query", "numbers"] yH:=by
 refine DefOk.mk (k:=4) A_ sc_fitting_rows rfl (fun _ _ _ _ _ _ us hl=>by obtain⟨_,_,_,rfl⟩:=lnz3 hl;rfl) (fun cdv A outer s H E hr=>?_) fun _ _ _ h=>h
 exact(zm (VU (i:=3) sc_fitting_rows.nd rfl (Or.inl rfl) (Qi zi)) (zm (wq PassesOwn.never rfl (xn (zb (pv 2))) (yr sc_fitting_rows.nd rfl (Or.inl rfl)) (zm (zE (i:=5) sc_fitting_rows.nd rfl (Or.inl rfl) (zD h_best (hr.mono (by decide)) (zd (zb (pv 1)) (zd (zK z8 (zb (pv 0)) (zb (pv 4))) zi)) (ze (ze zu)))) (zn (yP (zX jj (zb (pv 5)) wV (ya _)) (zn (Qh (pv 3) (xR (zd (zK z8 (zb (pv 5)) zj) (zd (zb (pv 4)) zi))))) yj)))) (zn (Y4 (pv 3)))))
noncomputable abbrev wv:Stmt:=top 33
theorem VL:zO ["names", "query"] ["names", "query"] (zk wv):=⟨rfl,rfl,rfl,by decide +kernel,rfl,by decide +kernel,by decide +kernel⟩
theorem V2{f:Addr}{fd:FuncData}(A_:zR K mg "all_rows" wv f fd)(h_fitting_rows:DefOk P w K mg base "fitting_rows" 5 3 ["names", "query", "numbers"] yH)(z_len:mg "len" = none)(z_list:mg "list" = none)(z_range:mg "range" = none):DefOk P w K mg base "all_rows" 6 2 ["names", "query"] yq:=by
 refine DefOk.mk (k:=5) A_ VL rfl (fun _ _ _ _ _ _ us hl=>by obtain⟨_,_,rfl⟩:=lnz2 hl;rfl) (fun cdv A outer s H E hr=>?_) fun _ _ _ h=>h
 exact(zn (zN (zD h_fitting_rows (hr.mono (by decide)) (zd (zb (pv 0)) (zd (zb (pv 1)) (zd (ve (Yj rfl rfl z_list rfl z_range (zd (zU wg rfl z_len PySem.boot_len (zd (zb (pv 0)) zi)) zi))) zi))) (ze (ze (ze zu))))))
noncomputable abbrev uh:Stmt:=top 34
theorem ML:zO ["names", "query", "many"] ["names", "query", "many"] (zk uh):=⟨rfl,rfl,rfl,by decide +kernel,rfl,by decide +kernel,by decide +kernel⟩
theorem Tj{f:Addr}{fd:FuncData}(A_:zR K mg "finds" uh f fd)(h_all_rows:DefOk P w K mg base "all_rows" 6 2 ["names", "query"] yq)(h_first_rows:DefOk P w K mg base "first_rows" 5 3 ["names", "rows", "many"] y8):DefOk P w K mg base "finds" 7 3 ["names", "query", "many"] wG:=by
 refine DefOk.mk (k:=6) A_ ML rfl (fun _ _ _ _ _ _ us hl=>by obtain⟨_,_,_,rfl⟩:=lnz3 hl;rfl) (fun cdv A outer s H E hr=>?_) fun _ _ _ h=>h
 exact(zn (zN (zD h_first_rows (hr.mono (by decide)) (zd (zb (pv 0)) (zd (zD h_all_rows (hr.mono (by decide)) (zd (zb (pv 0)) (zd (zb (pv 1)) zi)) (ze (ze zu))) (zd (zb (pv 2)) zi))) (ze (ze (ze zu))))))
noncomputable abbrev yW:Stmt:=top 35
theorem Yh:zO ["names", "number"] ["names", "number"] (zk yW):=⟨rfl,rfl,rfl,by decide +kernel,rfl,by decide +kernel,by decide +kernel⟩
theorem Yo{f:Addr}{fd:FuncData}(A_:zR K mg "check_number" yW f fd){C_NoNumber:Addr}(t_NoNumber:EC K mg "NoNumber" C_NoNumber)(z_len:mg "len" = none):DefX P w K mg base "check_number" 1 2 ["names", "number"] y0:=by
 refine DefX.mk (k:=0) A_ Yh rfl (fun _ _ _ _ _ _ us hl=>by obtain⟨_,_,rfl⟩:=lnz2 hl;rfl) (fun cdv A outer s H E hr=>?_)
 exact(zn (yP (jY (jD (zX zq1 (zb (pv 1)) zj (ya _)) (jg (zX zq2 (zb (pv 1)) (zU wg rfl z_len PySem.boot_len (zd (zb (pv 0)) zi)) (ya _))))) (zn (Gh t_NoNumber rfl hr.hd wa)) yj))
noncomputable abbrev wN:Stmt:=top 36
theorem sc_rank_of:zO ["names", "query", "number", "rank", "row"] ["names", "query", "number"] (zk wN):=⟨rfl,rfl,rfl,by decide +kernel,rfl,by decide +kernel,by decide +kernel⟩
theorem Jj{f:Addr}{fd:FuncData}(A_:zR K mg "rank_of" wN f fd)(h_check_number:DefX P w K mg base "check_number" 1 2 ["names", "number"] y0)(h_all_rows:DefOk P w K mg base "all_rows" 6 2 ["names", "query"] yq)(h_in_order:DefOk P w K mg base "in_order" 4 2 ["names", "rows"] yZ)(z_enumerate:mg "enumerate" = none):DefX P w K mg base "rank_of" 7 3 ["names", "query", "number"] wb:=by
 refine DefX.mk (k:=6) A_ sc_rank_of rfl (fun _ _ _ _ _ _ us hl=>by obtain⟨_,_,_,rfl⟩:=lnz3 hl;rfl) (fun cdv A outer s H E hr=>?_)
 exact(zm (Gi (VT h_check_number rfl (hr.mono (by decide)) (zd (zb (pv 0)) (zd (zb (pv 2)) zi)) (ze (ze zu)))) (Jc (zm (wq PassesOwn.never rfl (Y5 rfl z_enumerate (zd (zD h_in_order (hr.mono (by decide)) (zd (zb (pv 0)) (zd (zD h_all_rows (hr.mono (by decide)) (zd (zb (pv 0)) (zd (zb (pv 1)) zi)) (ze (ze zu))) zi)) (ze (ze zu))) zi)) (uP rfl sc_rank_of.nd rfl (Or.inl rfl) rfl (Or.inl rfl)) (zn (yP (zX (xL hr.units) (zK z8 (zb (pv 4)) zj) (zb (pv 2)) (ya _)) (zn (zN (zb (pv 3)))) yj))) (zn (zN wV)))))
noncomputable abbrev xV:Stmt:=top 52
theorem sc__law_rank:zO ["_law_names_here", "_law_query_here", "_law_number", "e", "_law_flags"] ["_law_names_here", "_law_query_here", "_law_number"] (zk xV):=⟨rfl,rfl,rfl,by decide +kernel,rfl,by decide +kernel,by decide +kernel⟩
theorem W4{f:Addr}{fd:FuncData}(A_:zR K mg "_law_rank" xV f fd){C_NoNumber:Addr}(t_NoNumber:EC K mg "NoNumber" C_NoNumber)(q_NoNumber_ValueError:kitOne K (.ref C_NoNumber) (.type "ValueError")=some true)(k_NoNumber:ECK K C_NoNumber){C_NoText:Addr}(t_NoText:EC K mg "NoText" C_NoText)(q_NoNumber_NoText:kitOne K (.ref C_NoNumber) (.ref C_NoText)=some false){C_NoFit:Addr}(t_NoFit:EC K mg "NoFit" C_NoFit)(q_NoNumber_NoFit:kitOne K (.ref C_NoNumber) (.ref C_NoFit)=some false)(q_NoNumber_NoNumber:kitOne K (.ref C_NoNumber) (.ref C_NoNumber)=some true){C_FindError:Addr}(t_FindError:EC K mg "FindError" C_FindError)(x_NoNumber_FindError:exmOne K (.ref C_NoNumber) (.ref C_FindError)=some true)(h_rank_of:DefX P w K mg base "rank_of" 7 3 ["names", "query", "number"] wb)(z_isinstance:mg "isinstance" = none)(z_ValueError:mg "ValueError" = none):DefOk P w K mg base "_law_rank" 8 3 ["_law_names_here", "_law_query_here", "_law_number"] yI:=by
 refine DefOk.mk (k:=7) A_ sc__law_rank rfl (fun _ _ _ _ _ _ us hl=>by obtain⟨_,_,_,rfl⟩:=lnz3 hl;rfl) (fun cdv A outer s H E hr=>?_) fun _ _ _ h=>h
 exact(zn (Gg ⟨rfl,rfl,rfl⟩ t_FindError sc__law_rank.nd rfl rfl (fun pins E=>(zn (M6 (VT h_rank_of rfl (hr.mono (by decide)) (zd (zb (pv 0)) (zd (zb (pv 1)) (zd (zb (pv 2)) zi))) (ze (ze (ze zu))))))) (fun a=>(zm (zE (i:=4) sc__law_rank.nd rfl (Or.inl rfl) (xS (zd (j0 t_NoNumber k_NoNumber (zb (pv 3)) (Yy rfl t_NoNumber.mgl (show RelV (V.ref C_NoNumber) (Value.ref C_NoNumber) from rfl)) WW q_NoNumber_NoNumber z_isinstance) (zd (j0 t_NoNumber k_NoNumber (zb (pv 3)) (Yy rfl t_NoFit.mgl (show RelV (V.ref C_NoFit) (Value.ref C_NoFit) from rfl)) WW q_NoNumber_NoFit z_isinstance) (zd (j0 t_NoNumber k_NoNumber (zb (pv 3)) (Yy rfl t_NoText.mgl (show RelV (V.ref C_NoText) (Value.ref C_NoText) from rfl)) WW q_NoNumber_NoText z_isinstance) zi))))) (zn (zN (Yz (j0 t_NoNumber k_NoNumber (zb (pv 3)) (Qf rfl z_ValueError zk4 (show RelV (V.ty "ValueError") (Value.type "ValueError") from rfl)) zo3 q_NoNumber_ValueError z_isinstance) (ul (xT (xL hr.units) (zb (pv 4)) (xS (zd uQ (zd uQ (zd uQ zi)))) (ya _)))))))) (ok1 t_NoNumber x_NoNumber_FindError)))
noncomputable abbrev jB:Stmt:=top 37
theorem sc_ties:zO ["names", "query", "numbers", "row"] ["names", "query"] (zk jB):=⟨rfl,rfl,rfl,by decide +kernel,rfl,by decide +kernel,by decide +kernel⟩
theorem zd9{f:Addr}{fd:FuncData}(A_:zR K mg "ties" jB f fd)(h_all_rows:DefOk P w K mg base "all_rows" 6 2 ["names", "query"] yq)(z_sorted:mg "sorted" = none):DefOk P w K mg base "ties" 7 2 ["names", "query"] jH:=by
 refine DefOk.mk (k:=6) A_ sc_ties rfl (fun _ _ _ _ _ _ us hl=>by obtain⟨_,_,rfl⟩:=lnz2 hl;rfl) (fun cdv A outer s H E hr=>?_) fun _ _ _ h=>h
 exact(Gf (i:=2) (r:=3) sc_ties.nd rfl PassesOwn.never rfl (Or.inr rfl) rfl (Or.inl rfl) (xn (zD h_all_rows (hr.mono (by decide)) (zd (zb (pv 0)) (zd (zb (pv 1)) zi)) (ze (ze zu)))) (by exact zo9 (zm2 hr) (zK z8 (zb (pv 3)) zj) (zK z8 (zb (pv 3)) zj) (zK z8 (zb (pv 3)) zj) (zK z8 (zb (pv 3)) zj) (pv 2) (pv 2) (pv 2)) rfl ⟨rfl,rfl,trivial⟩ (by exact M1 rfl rfl z_sorted boot_sorted (pv 2)) (by exact fun s H C fp=>vL (show List.Nodup (["count", "numbers"]:List Str) by decide +kernel) rfl (Or.inl rfl)) (by exact fun s H C fp=>M0 (vN (pv 0) (vN (Qd (zm2 hr) (pv 1) (pv 0) (fun _ _=>rfl)) jE))))
noncomputable abbrev jU:Stmt:=top 53
theorem sc_law:zO ["_law_script", "_law_names_here", "_law_query_here", "_law_due", "_law_many", "_law_told", "_law_numbers", "_law_number", "_law_place", "_law_counts", "_law_groups"] ["_law_script"] (zk jU):=⟨rfl,rfl,rfl,by decide +kernel,rfl,by decide +kernel,by decide +kernel⟩
theorem zq9{f:Addr}{fd:FuncData}(A_:Fun K "law" "law" jU f fd)(h__law_rank:DefOk P w K mg base "_law_rank" 8 3 ["_law_names_here", "_law_query_here", "_law_number"] yI)(h_ties:DefOk P w K mg base "ties" 7 2 ["names", "query"] jH)(h_finds:DefOk P w K mg base "finds" 7 3 ["names", "query", "many"] wG)(h__law_drawn:DefOk P w K mg base "_law_drawn" 2 3 ["_law_script", "_law_k", "_law_many"] zr)(h__law_found:DefOk P w K mg base "_law_found" 4 2 ["_law_names_here", "_law_query_here"] xa)(h__law_query:DefOk P w K mg base "_law_query" 3 4 ["_law_script", "_law_at", "_law_name_here", "_law_most"] xM)(h__law_names:DefOk P w K mg base "_law_names" 4 3 ["_law_script", "_law_at", "_law_most"] xN)(z_len:mg "len" = none)(z_sorted:mg "sorted" = none)(z_set:mg "set" = none)(z_range:mg "range" = none)(z_bool:mg "bool" = none)(z_isinstance:mg "isinstance" = none)(z_list:mg "list" = none):FnOk P w K mg base CX0 9 f fd ["_law_script"] (spD K 1 Qq):=by
 refine fnD (k:=8) A_ sc_law rfl fun cdv A outer s H E hr=>?_
 exact(zm (zE (i:=1) sc_law.nd rfl (Or.inr rfl) (zD h__law_names (hr.mono (by decide)) (zd (zb (pv 0)) (zd zj (zd zj zi))) (ze (ze (ze zu))))) (zm (zE (i:=2) sc_law.nd rfl (Or.inr rfl) (zD h__law_query (hr.mono (by decide)) (zd (zb (pv 0)) (zd zj (zd (zK z8 (zq zG (zb (pv 1)) (xS (zd wa zi))) (zD h__law_drawn (hr.mono (by decide)) (zd (zb (pv 0)) (zd zj (zd (zq zG (zU wg rfl z_len PySem.boot_len (zd (zb (pv 1)) zi)) zj) zi))) (ze (ze (ze zu))))) (zd zj zi)))) (ze (ze (ze (ze zu)))))) (zm (zE (i:=3) sc_law.nd rfl (Or.inr rfl) (zD h__law_found (hr.mono (by decide)) (zd (zb (pv 1)) (zd (zb (pv 2)) zi)) (ze (ze zu)))) (zm (zE (i:=4) sc_law.nd rfl (Or.inl rfl) (zD h__law_drawn (hr.mono (by decide)) (zd (zb (pv 0)) (zd zj (zd zj zi))) (ze (ze (ze zu))))) (zm (zE (i:=5) sc_law.nd rfl (Or.inl rfl) (zD h_finds (hr.mono (by decide)) (zd (zb (pv 1)) (zd (zb (pv 2)) (zd (zb (pv 4)) zi))) (ze (ze (ze zu))))) (zm (yP (jY (jD (Qg (jh (zU LL rfl z_isinstance boot_isinstance (zd (zb (pv 5)) (zd (M8 rfl z_list boot_list) zi))))) (jD (zX (ZF hr.units) (zb (pv 5)) (Jf (zb (pv 3)) VW (jZ (zb (pv 4)))) (ya _)) (jg (zX (ZF hr.units) (zD h_finds (hr.mono (by decide)) (zd (zb (pv 1)) (zd (zb (pv 2)) (zd zj zi))) (ze (ze (ze zu)))) (zb (pv 3)) (ya _)))))) (zn (zN uQ)) yj) (zm (VV (i:=6) sc_law.nd rfl rfl rfl (tn:=["_law_row"]) (fr:=[]) (idx:=[]) rfl rfl trivial (wj 0) (xn (zb (pv 3))) (fun s H C fp=>(yr (show List.Nodup (["_law_row"]:List Str) by decide +kernel) rfl (Or.inl rfl))) (fun s H C fp=>vb) (fun s H C fp=>(zK z8 (zb (pv 0)) zj))) (zm (wq PassesOwn.never rfl (wP rfl z_range (zd (zU wg rfl z_len PySem.boot_len (zd (zb (pv 1)) zi)) zi)) (yr sc_law.nd rfl (Or.inl rfl)) (zm (zE (i:=8) sc_law.nd rfl (Or.inl rfl) (zD h__law_rank (hr.mono (by decide)) (zd (zb (pv 1)) (zd (zb (pv 2)) (zd (zb (pv 7)) zi))) (ze (ze (ze zu))))) (zm (yP (jY (jD (jh (zU LL rfl z_isinstance boot_isinstance (zd (zb (pv 8)) (zd (M8 rfl z_bool PyProof.Rows.boot_bool) zi)))) (jg (jY (W0 (zX (ZF hr.units) (zb (pv 8)) (M9 F.plainAttrs_list F.slot_list_index F.type_list_index zr7 (zq zG (zb (pv 6)) (xS (zd (zb (pv 7)) zi))) (zd (zb (pv 7)) zi)) (ya _)) (Y3 (zX jj (zb (pv 8)) wV (ya _)))))))) (zn (zN uQ)) yj) (zn (yP (zX (ZF hr.units) (xT Ji (zb (pv 8)) wV (ya _)) (xT (Gq (wC hr)) (zb (pv 7)) (zb (pv 6)) (by with_unfolding_all rfl)) (ya _)) (zn (zN uQ)) yj))))) (zm (zE (i:=9) sc_law.nd rfl (Or.inl rfl) (zd2 (ve (VX rfl rfl z_sorted rfl z_set (zd (ve (wm (tn:=["_law_row"]) (fr:=[]) (idx:=[]) rfl rfl trivial (wj 0) (xn (zb (pv 3))) (fun s H C fp=>(yr (show List.Nodup (["_law_row"]:List Str) by decide +kernel) rfl (Or.inl rfl))) (fun s H C fp=>vb) (fun s H C fp=>(zK z8 (zb (pv 0)) zj)))) zi))) (wW zj))) (zm (Gk (i:=10) sc_law.nd rfl rfl rfl (tn:=["_law_count"]) (fr:=["_law_due"]) (idx:=[3]) rfl rfl ⟨rfl,rfl,trivial⟩ (wj 0) (xn (zb (pv 9))) (fun s H C fp=>(yr (show List.Nodup (["_law_count", "_law_due"]:List Str) by decide +kernel) rfl (Or.inr rfl))) (fun s H C fp=>vb) (fun s H C fp=>(xR (zd (zb (pv 0)) (zd (zU LK rfl z_sorted boot_sorted (zd (ve (wm (tn:=["_law_row"]) (fr:=["_law_count"]) (idx:=[0]) rfl rfl ⟨rfl,rfl,trivial⟩ (wj 0) (xn (zb (pv 1))) (fun s H C fp=>(yr (show List.Nodup (["_law_row", "_law_count"]:List Str) by decide +kernel) rfl (Or.inl rfl))) (fun s H C fp=>(v6 (zX (xL hr.units) (zK z8 (zb (pv 0)) zj) (zb (pv 1)) (ya _)))) (fun s H C fp=>(zK z8 (zb (pv 0)) zj)))) zi)) zi))))) (zm (yP (zX (ZF hr.units) (zD h_ties (hr.mono (by decide)) (zd (zb (pv 1)) (zd (zb (pv 2)) zi)) (ze (ze zu))) (zb (pv 10)) (ya _)) (zn (zN uQ)) yj) (zn (zN (xT (xL hr.units) (ve (wm (tn:=["_law_k"]) (fr:=["_law_names_here", "_law_query_here"]) (idx:=[1,2]) rfl rfl ⟨rfl,rfl,⟨rfl,rfl,trivial⟩⟩ (wj 0) (xn (xR (zd (wW zj) (zd (zU wg rfl z_len PySem.boot_len (zd (zb (pv 1)) zi)) (zd (zq zG (zU wg rfl z_len PySem.boot_len (zd (zb (pv 1)) zi)) zj) zi))))) (fun s H C fp=>(yr (show List.Nodup (["_law_k", "_law_names_here", "_law_query_here"]:List Str) by decide +kernel) rfl (Or.inl rfl))) (fun s H C fp=>(v6 (zX Jh (zD h__law_rank (hr.mono (by decide)) (zd (zb (pv 1)) (zd (zb (pv 2)) (zd (zb (pv 0)) zi))) (ze (ze (ze zu)))) uQ (ya _)))) (fun s H C fp=>(zb (pv 0))))) (xS zi) (ya _)))))))))))))))
end
theorem all_mk{l:PySem.W.OpenLaw}{w:World}{K:Frag}{h:Heap}{mg:Str→Option Value}{fa:Addr}(X:K.In h)(G:h.Ns mainGlobals mg)(hfa:mg "law" = some (.ref fa))(hl:∀ns:List Int,ns.length≤63→Qq [.scr ns]=.ok (.bl true))
  {f0 f1 f2 f3 f4 f5 f6 f7 f8 f9 f10 f11 f12 f13 f14 f15 f16 f17 f18 f19 f20 f21 f22 f23 f24 f25 f26 f27 f28 f29 f30 f31 f32:Addr} {od0 an0 od1 an1 od2 an2 od3 an3 od4 an4 od5 an5 od6 an6 od7 an7 od8 an8 od9 an9 od10 an10 od11 an11 od12 an12 od13 an13 od14 an14 od15 an15 od16 an16 od17 an17 od18 an18 od19 an19 od20 an20 od21 an21 od22 an22 od23 an23 od24 an24 od25 an25 od26 an26 od27 an27 od28 an28 od29 an29 od30 an30 od31 an31 od32 an32:Option Addr} {sl0 sl1 sl2 sl3 sl4 sl5 sl6 sl7 sl8 sl9 sl10 sl11 sl12 sl13 sl14 sl15 sl16 sl17 sl18 sl19 sl20 sl21 sl22 sl23 sl24 sl25 sl26 sl27 sl28 sl29 sl30 sl31 sl32:Array (Option Value)} {oc0 kV0 dc0 pm0 ct0 cd0 oc1 kV1 dc1 pm1 ct1 cd1 oc2 kV2 dc2 pm2 ct2 cd2 oc3 kV3 dc3 pm3 ct3 cd3 oc4 kV4 dc4 pm4 ct4 cd4 oc5 kV5 dc5 pm5 ct5 cd5 oc6 kV6 dc6 pm6 ct6 cd6 oc7 kV7 dc7 pm7 ct7 cd7 oc8 kV8 dc8 pm8 ct8 cd8 oc9 kV9 dc9 pm9 ct9 cd9 oc10 kV10 dc10 pm10 ct10 cd10 oc11 kV11 dc11 pm11 ct11 cd11 oc12 kV12 dc12 pm12 ct12 cd12 oc13 kV13 dc13 pm13 ct13 oc14 kV14 dc14 pm14 ct14 cd14 oc15 kV15 dc15 pm15 ct15 cd15 oc16 kV16 dc16 pm16 ct16 cd16 oc17 kV17 dc17 pm17 ct17 cd17 oc18 kV18 dc18 pm18 ct18 cd18 oc19 kV19 dc19 pm19 ct19 cd19 oc20 kV20 dc20 pm20 ct20 cd20 oc21 kV21 dc21 pm21 ct21 cd21 oc22 kV22 dc22 pm22 ct22 cd22 oc23 kV23 dc23 pm23 ct23 cd23 oc24 kV24 dc24 pm24 ct24 cd24 oc25 kV25 dc25 pm25 ct25 cd25 oc26 kV26 dc26 pm26 ct26 cd26 oc27 kV27 dc27 pm27 ct27 cd27 oc28 kV28 dc28 pm28 ct28 cd28 oc29 kV29 dc29 pm29 ct29 cd29 oc30 kV30 dc30 pm30 ct30 cd30 oc31 kV31 dc31 pm31 ct31 cd31 oc32 kV32 dc32 pm32 ct32 cd32:Value} {t_FIGURES t_SMALL t_GREAT t_AT_GREAT t_MARKS t_BEHIND_MARK t_AT_BEGINNING t_EACH_PLACE t_SAME_SIGN t_MOST_BETWEEN t_BESIDE t_MOST_AHEAD:Tok}
  {cc13:Addr}
  (a0:nsIn K mainGlobals "_law_cell" = some (some (.ref f0))) (l0:K.lookup f0=some ⟨oc0,od0,.func (fnOf "_law_cell" "_law_cell" (zL xY) (zC xY) (zk xY) .none kV0 dc0 pm0 an0 cd0 ct0),sl0⟩) (c0:codeIn K cd0 "_law_cell" = true) (k0:keepIn K (.ref f0)=true)
  (a1:nsIn K mainGlobals "_law_drawn" = some (some (.ref f1))) (l1:K.lookup f1=some ⟨oc1,od1,.func (fnOf "_law_drawn" "_law_drawn" (zL xI) (zC xI) (zk xI) .none kV1 dc1 pm1 an1 cd1 ct1),sl1⟩) (c1:codeIn K cd1 "_law_drawn" = true) (k1:keepIn K (.ref f1)=true)
  (a2:nsIn K mainGlobals "_law_name" = some (some (.ref f2))) (l2:K.lookup f2=some ⟨oc2,od2,.func (fnOf "_law_name" "_law_name" (zL xW) (zC xW) (zk xW) .none kV2 dc2 pm2 an2 cd2 ct2),sl2⟩) (c2:codeIn K cd2 "_law_name" = true) (k2:keepIn K (.ref f2)=true)
  (a3:nsIn K mainGlobals "_law_names" = some (some (.ref f3))) (l3:K.lookup f3=some ⟨oc3,od3,.func (fnOf "_law_names" "_law_names" (zL xF) (zC xF) (zk xF) .none kV3 dc3 pm3 an3 cd3 ct3),sl3⟩) (c3:codeIn K cd3 "_law_names" = true) (k3:keepIn K (.ref f3)=true)
  (a4:nsIn K mainGlobals "_law_mark" = some (some (.ref f4))) (l4:K.lookup f4=some ⟨oc4,od4,.func (fnOf "_law_mark" "_law_mark" (zL xX) (zC xX) (zk xX) .none kV4 dc4 pm4 an4 cd4 ct4),sl4⟩) (c4:codeIn K cd4 "_law_mark" = true) (k4:keepIn K (.ref f4)=true)
  (a5:nsIn K mainGlobals "_law_query" = some (some (.ref f5))) (l5:K.lookup f5=some ⟨oc5,od5,.func (fnOf "_law_query" "_law_query" (zL xE) (zC xE) (zk xE) .none kV5 dc5 pm5 an5 cd5 ct5),sl5⟩) (c5:codeIn K cd5 "_law_query" = true) (k5:keepIn K (.ref f5)=true)
  (a6:nsIn K mainGlobals "_law_sorted" = some (some (.ref f6))) (l6:K.lookup f6=some ⟨oc6,od6,.func (fnOf "_law_sorted" "_law_sorted" (zL xj) (zC xj) (zk xj) .none kV6 dc6 pm6 an6 cd6 ct6),sl6⟩) (c6:codeIn K cd6 "_law_sorted" = true) (k6:keepIn K (.ref f6)=true)
  (a7:nsIn K mainGlobals "_law_meets" = some (some (.ref f7))) (l7:K.lookup f7=some ⟨oc7,od7,.func (fnOf "_law_meets" "_law_meets" (zL xG) (zC xG) (zk xG) .none kV7 dc7 pm7 an7 cd7 ct7),sl7⟩) (c7:codeIn K cd7 "_law_meets" = true) (k7:keepIn K (.ref f7)=true)
  (a8:nsIn K mainGlobals "_law_layings" = some (some (.ref f8))) (l8:K.lookup f8=some ⟨oc8,od8,.func (fnOf "_law_layings" "_law_layings" (zL yX) (zC yX) (zk yX) .none kV8 dc8 pm8 an8 cd8 ct8),sl8⟩) (c8:codeIn K cd8 "_law_layings" = true) (k8:keepIn K (.ref f8)=true)
  (a9:nsIn K mainGlobals "_law_alone" = some (some (.ref f9))) (l9:K.lookup f9=some ⟨oc9,od9,.func (fnOf "_law_alone" "_law_alone" (zL xJ) (zC xJ) (zk xJ) .none kV9 dc9 pm9 an9 cd9 ct9),sl9⟩) (c9:codeIn K cd9 "_law_alone" = true) (k9:keepIn K (.ref f9)=true)
  (a10:nsIn K mainGlobals "_law_points" = some (some (.ref f10))) (l10:K.lookup f10=some ⟨oc10,od10,.func (fnOf "_law_points" "_law_points" (zL xk) (zC xk) (zk xk) .none kV10 dc10 pm10 an10 cd10 ct10),sl10⟩) (c10:codeIn K cd10 "_law_points" = true) (k10:keepIn K (.ref f10)=true)
  (a11:nsIn K mainGlobals "_law_best" = some (some (.ref f11))) (l11:K.lookup f11=some ⟨oc11,od11,.func (fnOf "_law_best" "_law_best" (zL xZ) (zC xZ) (zk xZ) .none kV11 dc11 pm11 an11 cd11 ct11),sl11⟩) (c11:codeIn K cd11 "_law_best" = true) (k11:keepIn K (.ref f11)=true)
  (a12:nsIn K mainGlobals "_law_found" = some (some (.ref f12))) (l12:K.lookup f12=some ⟨oc12,od12,.func (fnOf "_law_found" "_law_found" (zL xH) (zC xH) (zk xH) .none kV12 dc12 pm12 an12 cd12 ct12),sl12⟩) (c12:codeIn K cd12 "_law_found" = true) (k12:keepIn K (.ref f12)=true)
  (a13:nsIn K mainGlobals "in_order" = some (some (.ref f13))) (l13:K.lookup f13=some ⟨oc13,od13,.func (fnOf "in_order" "in_order" (zL wO) (zC wO) (zk wO) .none kV13 dc13 pm13 an13 (.ref cc13) ct13),sl13⟩) (c13:codeIn K (.ref cc13) "in_order" = true) (k13:keepIn K (.ref f13)=true) (tb13:PySem.W.codeHdIn K cc13 136=true)
  (a14:nsIn K mainGlobals "first_rows" = some (some (.ref f14))) (l14:K.lookup f14=some ⟨oc14,od14,.func (fnOf "first_rows" "first_rows" (zL xD) (zC xD) (zk xD) .none kV14 dc14 pm14 an14 cd14 ct14),sl14⟩) (c14:codeIn K cd14 "first_rows" = true) (k14:keepIn K (.ref f14)=true)
  (a15:nsIn K mainGlobals "beginning_points" = some (some (.ref f15))) (l15:K.lookup f15=some ⟨oc15,od15,.func (fnOf "beginning_points" "beginning_points" (zL yo) (zC yo) (zk yo) .none kV15 dc15 pm15 an15 cd15 ct15),sl15⟩) (c15:codeIn K cd15 "beginning_points" = true) (k15:keepIn K (.ref f15)=true)
  (a16:nsIn K mainGlobals "own_points" = some (some (.ref f16))) (l16:K.lookup f16=some ⟨oc16,od16,.func (fnOf "own_points" "own_points" (zL xC) (zC xC) (zk xC) .none kV16 dc16 pm16 an16 cd16 ct16),sl16⟩) (c16:codeIn K cd16 "own_points" = true) (k16:keepIn K (.ref f16)=true)
  (a17:nsIn K mainGlobals "meets" = some (some (.ref f17))) (l17:K.lookup f17=some ⟨oc17,od17,.func (fnOf "meets" "meets" (zL ug) (zC ug) (zk ug) .none kV17 dc17 pm17 an17 cd17 ct17),sl17⟩) (c17:codeIn K cd17 "meets" = true) (k17:keepIn K (.ref f17)=true)
  (a18:nsIn K mainGlobals "last_sign_tails" = some (some (.ref f18))) (l18:K.lookup f18=some ⟨oc18,od18,.func (fnOf "last_sign_tails" "last_sign_tails" (zL yw) (zC yw) (zk yw) .none kV18 dc18 pm18 an18 cd18 ct18),sl18⟩) (c18:codeIn K cd18 "last_sign_tails" = true) (k18:keepIn K (.ref f18)=true)
  (a19:nsIn K mainGlobals "first_of_most" = some (some (.ref f19))) (l19:K.lookup f19=some ⟨oc19,od19,.func (fnOf "first_of_most" "first_of_most" (zL yM) (zC yM) (zk yM) .none kV19 dc19 pm19 an19 cd19 ct19),sl19⟩) (c19:codeIn K cd19 "first_of_most" = true) (k19:keepIn K (.ref f19)=true)
  (a20:nsIn K mainGlobals "link_points" = some (some (.ref f20))) (l20:K.lookup f20=some ⟨oc20,od20,.func (fnOf "link_points" "link_points" (zL xh) (zC xh) (zk xh) .none kV20 dc20 pm20 an20 cd20 ct20),sl20⟩) (c20:codeIn K cd20 "link_points" = true) (k20:keepIn K (.ref f20)=true)
  (a21:nsIn K mainGlobals "linked_tails" = some (some (.ref f21))) (l21:K.lookup f21=some ⟨oc21,od21,.func (fnOf "linked_tails" "linked_tails" (zL yU) (zC yU) (zk yU) .none kV21 dc21 pm21 an21 cd21 ct21),sl21⟩) (c21:codeIn K cd21 "linked_tails" = true) (k21:keepIn K (.ref f21)=true)
  (a22:nsIn K mainGlobals "longer_tails" = some (some (.ref f22))) (l22:K.lookup f22=some ⟨oc22,od22,.func (fnOf "longer_tails" "longer_tails" (zL yT) (zC yT) (zk yT) .none kV22 dc22 pm22 an22 cd22 ct22),sl22⟩) (c22:codeIn K cd22 "longer_tails" = true) (k22:keepIn K (.ref f22)=true)
  (a23:nsIn K mainGlobals "lead_points" = some (some (.ref f23))) (l23:K.lookup f23=some ⟨oc23,od23,.func (fnOf "lead_points" "lead_points" (zL xi) (zC xi) (zk xi) .none kV23 dc23 pm23 an23 cd23 ct23),sl23⟩) (c23:codeIn K cd23 "lead_points" = true) (k23:keepIn K (.ref f23)=true)
  (a24:nsIn K mainGlobals "best" = some (some (.ref f24))) (l24:K.lookup f24=some ⟨oc24,od24,.func (fnOf "best" "best" (zL jC) (zC jC) (zk jC) .none kV24 dc24 pm24 an24 cd24 ct24),sl24⟩) (c24:codeIn K cd24 "best" = true) (k24:keepIn K (.ref f24)=true)
  (a25:nsIn K mainGlobals "fitting_rows" = some (some (.ref f25))) (l25:K.lookup f25=some ⟨oc25,od25,.func (fnOf "fitting_rows" "fitting_rows" (zL yV) (zC yV) (zk yV) .none kV25 dc25 pm25 an25 cd25 ct25),sl25⟩) (c25:codeIn K cd25 "fitting_rows" = true) (k25:keepIn K (.ref f25)=true)
  (a26:nsIn K mainGlobals "all_rows" = some (some (.ref f26))) (l26:K.lookup f26=some ⟨oc26,od26,.func (fnOf "all_rows" "all_rows" (zL wv) (zC wv) (zk wv) .none kV26 dc26 pm26 an26 cd26 ct26),sl26⟩) (c26:codeIn K cd26 "all_rows" = true) (k26:keepIn K (.ref f26)=true)
  (a27:nsIn K mainGlobals "finds" = some (some (.ref f27))) (l27:K.lookup f27=some ⟨oc27,od27,.func (fnOf "finds" "finds" (zL uh) (zC uh) (zk uh) .none kV27 dc27 pm27 an27 cd27 ct27),sl27⟩) (c27:codeIn K cd27 "finds" = true) (k27:keepIn K (.ref f27)=true)
  (a28:nsIn K mainGlobals "check_number" = some (some (.ref f28))) (l28:K.lookup f28=some ⟨oc28,od28,.func (fnOf "check_number" "check_number" (zL yW) (zC yW) (zk yW) .none kV28 dc28 pm28 an28 cd28 ct28),sl28⟩) (c28:codeIn K cd28 "check_number" = true) (k28:keepIn K (.ref f28)=true)
  (a29:nsIn K mainGlobals "rank_of" = some (some (.ref f29))) (l29:K.lookup f29=some ⟨oc29,od29,.func (fnOf "rank_of" "rank_of" (zL wN) (zC wN) (zk wN) .none kV29 dc29 pm29 an29 cd29 ct29),sl29⟩) (c29:codeIn K cd29 "rank_of" = true) (k29:keepIn K (.ref f29)=true)
  (a30:nsIn K mainGlobals "_law_rank" = some (some (.ref f30))) (l30:K.lookup f30=some ⟨oc30,od30,.func (fnOf "_law_rank" "_law_rank" (zL xV) (zC xV) (zk xV) .none kV30 dc30 pm30 an30 cd30 ct30),sl30⟩) (c30:codeIn K cd30 "_law_rank" = true) (k30:keepIn K (.ref f30)=true)
  (a31:nsIn K mainGlobals "ties" = some (some (.ref f31))) (l31:K.lookup f31=some ⟨oc31,od31,.func (fnOf "ties" "ties" (zL jB) (zC jB) (zk jB) .none kV31 dc31 pm31 an31 cd31 ct31),sl31⟩) (c31:codeIn K cd31 "ties" = true) (k31:keepIn K (.ref f31)=true)
  (a32:nsIn K mainGlobals "law" = some (some (.ref f32))) (l32:K.lookup f32=some ⟨oc32,od32,.func (fnOf "law" "law" (zL jU) (zC jU) (zk jU) .none kV32 dc32 pm32 an32 cd32 ct32),sl32⟩) (c32:codeIn K cd32 "law" = true) (k32:keepIn K (.ref f32)=true)
  {C_NoNumber:Addr}
  {C_NoText:Addr}
  {C_NoFit:Addr}
  {C_FindError:Addr}
  (c_NoNumber:nsIn K mainGlobals "NoNumber" = some (some (.ref C_NoNumber)))
  (e_NoNumber:excIn K C_NoNumber VE "ValueError.__new__" = true)
  (c_NoText:nsIn K mainGlobals "NoText" = some (some (.ref C_NoText)))
  (e_NoText:excIn K C_NoText VE "ValueError.__new__" = true)
  (c_NoFit:nsIn K mainGlobals "NoFit" = some (some (.ref C_NoFit)))
  (e_NoFit:excIn K C_NoFit VE "ValueError.__new__" = true)
  (c_FindError:nsIn K mainGlobals "FindError" = some (some (.ref C_FindError)))
  (e_FindError:excIn K C_FindError VE "ValueError.__new__" = true)
  (ka_NoNumber:findIn K (.ref C_NoNumber) "__getattribute__" = some (some (.builtin "BaseException.__getattribute__")))
  (kb_NoNumber:findIn K (.ref C_NoNumber) "__getattr__" = some none)
  (kc_NoNumber:findObj K C_NoNumber none "__class__" = some (Builtin.ObjectAttr.Found.bind (.builtin "getset_descriptor.__get__") (.builtin "object.__class__")))
  (kd_NoNumber:mroIn K C_NoNumber (.type "object")=some true)
  (ke_NoNumber:mroIn K C_NoNumber (.type "BaseException")=some true)
  (kf_NoNumber:typeIn K (.ref C_NoNumber)=some (.type "type"))
  (kg_NoNumber:kitCls K (.ref C_NoNumber) (.ref C_NoNumber)=some true)
  (q_NoNumber_ValueError:kitOne K (.ref C_NoNumber) (.type "ValueError")=some true)
  (q_NoNumber_NoText:kitOne K (.ref C_NoNumber) (.ref C_NoText)=some false)
  (q_NoNumber_NoFit:kitOne K (.ref C_NoNumber) (.ref C_NoFit)=some false)
  (q_NoNumber_NoNumber:kitOne K (.ref C_NoNumber) (.ref C_NoNumber)=some true)
  (x_NoNumber_FindError:exmOne K (.ref C_NoNumber) (.ref C_FindError)=some true)
  (g_FIGURES:nsIn K mainGlobals "FIGURES" = some (some (.str "0123456789" t_FIGURES)))
  (g_SMALL:nsIn K mainGlobals "SMALL" = some (some (.str "abcdefghijklmnopqrstuvwxyz" t_SMALL)))
  (g_GREAT:nsIn K mainGlobals "GREAT" = some (some (.str "ABCDEFGHIJKLMNOPQRSTUVWXYZ" t_GREAT)))
  (g_AT_GREAT:nsIn K mainGlobals "AT_GREAT" = some (some (.int 5 t_AT_GREAT)))
  (g_MARKS:nsIn K mainGlobals "MARKS" = some (some (.str "_-./" t_MARKS)))
  (g_BEHIND_MARK:nsIn K mainGlobals "BEHIND_MARK" = some (some (.int 6 t_BEHIND_MARK)))
  (g_AT_BEGINNING:nsIn K mainGlobals "AT_BEGINNING" = some (some (.int 8 t_AT_BEGINNING)))
  (g_EACH_PLACE:nsIn K mainGlobals "EACH_PLACE" = some (some (.int 10 t_EACH_PLACE)))
  (g_SAME_SIGN:nsIn K mainGlobals "SAME_SIGN" = some (some (.int 1 t_SAME_SIGN)))
  (g_MOST_BETWEEN:nsIn K mainGlobals "MOST_BETWEEN" = some (some (.int 5 t_MOST_BETWEEN)))
  (g_BESIDE:nsIn K mainGlobals "BESIDE" = some (some (.int 7 t_BESIDE)))
  (g_MOST_AHEAD:nsIn K mainGlobals "MOST_AHEAD" = some (some (.int 3 t_MOST_AHEAD)))
  (z_len:nsIn K mainGlobals "len" = some none)
  (z_range:nsIn K mainGlobals "range" = some none)
  (z_min:nsIn K mainGlobals "min" = some none)
  (z_sorted:nsIn K mainGlobals "sorted" = some none)
  (z_int:nsIn K mainGlobals "int" = some none)
  (z_enumerate:nsIn K mainGlobals "enumerate" = some none)
  (z_max:nsIn K mainGlobals "max" = some none)
  (z_list:nsIn K mainGlobals "list" = some none)
  (z_isinstance:nsIn K mainGlobals "isinstance" = some none)
  (z_ValueError:nsIn K mainGlobals "ValueError" = some none)
  (z_set:nsIn K mainGlobals "set" = some none)
  (z_bool:nsIn K mainGlobals "bool" = some none)
  : L1 K∧∃fd:FuncData,(∀(s:Shared) (v:Value),BindsTo s fd ⟨[v],[]⟩ [("_law_script", v)])∧∀base:Heap,K.In base→base.Ns mainGlobals mg→BM mg base→FnOk l.prog w K mg base CX0 9 fa fd ["_law_script"] (JY K):=by
 have e:=hfa.symm.trans (mg_of X G a32)
 cases e
 refine⟨fun r hr=>?_,?_⟩
 ·rcases hr with _|⟨_,hr⟩
  ·exact⟨_,tb13⟩
  ·cases hr
 have D0:zR K mg "_law_cell" xY f0 _:=⟨yn (st:=xY) l0 c0 k0,mg_of X G a0⟩
 have D1:zR K mg "_law_drawn" xI f1 _:=⟨yn (st:=xI) l1 c1 k1,mg_of X G a1⟩
 have D2:zR K mg "_law_name" xW f2 _:=⟨yn (st:=xW) l2 c2 k2,mg_of X G a2⟩
 have D3:zR K mg "_law_names" xF f3 _:=⟨yn (st:=xF) l3 c3 k3,mg_of X G a3⟩
 have D4:zR K mg "_law_mark" xX f4 _:=⟨yn (st:=xX) l4 c4 k4,mg_of X G a4⟩
 have D5:zR K mg "_law_query" xE f5 _:=⟨yn (st:=xE) l5 c5 k5,mg_of X G a5⟩
 have D6:zR K mg "_law_sorted" xj f6 _:=⟨yn (st:=xj) l6 c6 k6,mg_of X G a6⟩
 have D7:zR K mg "_law_meets" xG f7 _:=⟨yn (st:=xG) l7 c7 k7,mg_of X G a7⟩
 have D8:zR K mg "_law_layings" yX f8 _:=⟨yn (st:=yX) l8 c8 k8,mg_of X G a8⟩
 have D9:zR K mg "_law_alone" xJ f9 _:=⟨yn (st:=xJ) l9 c9 k9,mg_of X G a9⟩
 have D10:zR K mg "_law_points" xk f10 _:=⟨yn (st:=xk) l10 c10 k10,mg_of X G a10⟩
 have D11:zR K mg "_law_best" xZ f11 _:=⟨yn (st:=xZ) l11 c11 k11,mg_of X G a11⟩
 have D12:zR K mg "_law_found" xH f12 _:=⟨yn (st:=xH) l12 c12 k12,mg_of X G a12⟩
 have D13:JO K mg "in_order" wO f13 cc13 136:=⟨⟨_,_,_,_,_,_,_,_,l13⟩,c13,k13,mg_of X G a13,tb13⟩
 have D14:zR K mg "first_rows" xD f14 _:=⟨yn (st:=xD) l14 c14 k14,mg_of X G a14⟩
 have D15:zR K mg "beginning_points" yo f15 _:=⟨yn (st:=yo) l15 c15 k15,mg_of X G a15⟩
 have D16:zR K mg "own_points" xC f16 _:=⟨yn (st:=xC) l16 c16 k16,mg_of X G a16⟩
 have D17:zR K mg "meets" ug f17 _:=⟨yn (st:=ug) l17 c17 k17,mg_of X G a17⟩
 have D18:zR K mg "last_sign_tails" yw f18 _:=⟨yn (st:=yw) l18 c18 k18,mg_of X G a18⟩
 have D19:zR K mg "first_of_most" yM f19 _:=⟨yn (st:=yM) l19 c19 k19,mg_of X G a19⟩
 have D20:zR K mg "link_points" xh f20 _:=⟨yn (st:=xh) l20 c20 k20,mg_of X G a20⟩
 have D21:zR K mg "linked_tails" yU f21 _:=⟨yn (st:=yU) l21 c21 k21,mg_of X G a21⟩
 have D22:zR K mg "longer_tails" yT f22 _:=⟨yn (st:=yT) l22 c22 k22,mg_of X G a22⟩
 have D23:zR K mg "lead_points" xi f23 _:=⟨yn (st:=xi) l23 c23 k23,mg_of X G a23⟩
 have D24:zR K mg "best" jC f24 _:=⟨yn (st:=jC) l24 c24 k24,mg_of X G a24⟩
 have D25:zR K mg "fitting_rows" yV f25 _:=⟨yn (st:=yV) l25 c25 k25,mg_of X G a25⟩
 have D26:zR K mg "all_rows" wv f26 _:=⟨yn (st:=wv) l26 c26 k26,mg_of X G a26⟩
 have D27:zR K mg "finds" uh f27 _:=⟨yn (st:=uh) l27 c27 k27,mg_of X G a27⟩
 have D28:zR K mg "check_number" yW f28 _:=⟨yn (st:=yW) l28 c28 k28,mg_of X G a28⟩
 have D29:zR K mg "rank_of" wN f29 _:=⟨yn (st:=wN) l29 c29 k29,mg_of X G a29⟩
 have D30:zR K mg "_law_rank" xV f30 _:=⟨yn (st:=xV) l30 c30 k30,mg_of X G a30⟩
 have D31:zR K mg "ties" jB f31 _:=⟨yn (st:=jB) l31 c31 k31,mg_of X G a31⟩
 refine⟨fnOf "law" "law" (zL jU) (zC jU) (zk jU) .none kV32 dc32 pm32 an32 cd32 ct32,fun s v=>.of_eq rfl,fun base _ _ bm=>?_⟩
 have t_NoNumber:EC K mg "NoNumber" C_NoNumber:=⟨c_NoNumber,mg_of X G c_NoNumber,e_NoNumber⟩
 have t_NoText:EC K mg "NoText" C_NoText:=⟨c_NoText,mg_of X G c_NoText,e_NoText⟩
 have t_NoFit:EC K mg "NoFit" C_NoFit:=⟨c_NoFit,mg_of X G c_NoFit,e_NoFit⟩
 have t_FindError:EC K mg "FindError" C_FindError:=⟨c_FindError,mg_of X G c_FindError,e_FindError⟩
 have k_NoNumber:ECK K C_NoNumber:=⟨ka_NoNumber,kb_NoNumber,kc_NoNumber,kd_NoNumber,ke_NoNumber,kf_NoNumber,kg_NoNumber⟩
 have h__law_cell:DefOk l.prog w K mg base "_law_cell" 1 2 ["_law_script", "_law_k"] wz:=W7 D0 (mg_none_of X G z_len)
 have h__law_drawn:DefOk l.prog w K mg base "_law_drawn" 2 3 ["_law_script", "_law_k", "_law_many"] zr:=X3 D1 h__law_cell
 have h__law_name:DefOk l.prog w K mg base "_law_name" 3 2 ["_law_script", "_law_at"] xw:=W5 D2 h__law_drawn (mg_none_of X G z_range)
 have h__law_names:DefOk l.prog w K mg base "_law_names" 4 3 ["_law_script", "_law_at", "_law_most"] xN:=XZ D3 h__law_drawn h__law_name (mg_none_of X G z_len) (mg_none_of X G z_range)
 have h__law_mark:DefOk l.prog w K mg base "_law_mark" 1 1 ["_law_sign"] xz:=W6 D4
 have h__law_query:DefOk l.prog w K mg base "_law_query" 3 4 ["_law_script", "_law_at", "_law_name_here", "_law_most"] xM:=XY D5 h__law_drawn h__law_mark (mg_none_of X G z_range) (mg_none_of X G z_len) (mg_none_of X G z_min)
 have h__law_sorted:DefOk l.prog w K mg base "_law_sorted" 1 2 ["_law_names_here", "_law_rows"] xm:=Xb D6 (mg_none_of X G z_len) (mg_none_of X G z_sorted)
 have h__law_meets:DefOk l.prog w K mg base "_law_meets" 1 2 ["_law_typed", "_law_sign"] y9:=X1 D7
 have h__law_layings:DefOk l.prog w K mg base "_law_layings" 2 2 ["_law_query_here", "_law_name_here"] yJ:=Yp D8 h__law_meets (mg_none_of X G z_len) (mg_none_of X G z_range)
 have h__law_alone:DefOk l.prog w K mg base "_law_alone" 1 3 ["_law_typed", "_law_name_here", "_law_place"] xb:=X4 D9 (mg_none_of X G z_int)
 have h__law_points:DefOk l.prog w K mg base "_law_points" 2 3 ["_law_query_here", "_law_name_here", "_law_laying"] yR:=Xc D10 h__law_alone (mg_none_of X G z_enumerate) (mg_none_of X G z_min)
 have h__law_best:DefOk l.prog w K mg base "_law_best" 3 2 ["_law_query_here", "_law_name_here"] xA:=W8 D11 h__law_layings h__law_points
 have h__law_found:DefOk l.prog w K mg base "_law_found" 4 2 ["_law_names_here", "_law_query_here"] xa:=X2 D12 h__law_sorted h__law_best (mg_none_of X G z_enumerate)
 have h_in_order:DefOk l.prog w K mg base "in_order" 4 2 ["names", "rows"] yZ:=V1 D13 bm (mg_none_of X G z_len) (mg_none_of X G z_sorted)
 have h_first_rows:DefOk l.prog w K mg base "first_rows" 5 3 ["names", "rows", "many"] y8:=XX D14 h_in_order (mg_none_of X G z_max)
 have h_beginning_points:DefOk l.prog w K mg base "beginning_points" 1 2 ["name", "place"] yE:=jr D15 (mg_of X G g_FIGURES) (mg_of X G g_SMALL) (mg_of X G g_GREAT) (mg_of X G g_AT_GREAT) (mg_of X G g_MARKS) (mg_of X G g_BEHIND_MARK) (mg_of X G g_AT_BEGINNING)
 have h_own_points:DefOk l.prog w K mg base "own_points" 2 3 ["sign", "name", "place"] yA:=XW D16 h_beginning_points (mg_of X G g_EACH_PLACE) (mg_of X G g_SAME_SIGN)
 have h_meets:DefOk l.prog w K mg base "meets" 1 2 ["sign", "other"] wF:=Ti D17 (mg_of X G g_SMALL)
 have h_last_sign_tails:DefOk l.prog w K mg base "last_sign_tails" 3 2 ["sign", "name"] ym:=jF D18 h_meets h_own_points (mg_none_of X G z_len) (mg_none_of X G z_range)
 have h_first_of_most:DefOk l.prog w K mg base "first_of_most" 1 1 ["tails"] z6:=ZG D19
 have h_link_points:DefOk l.prog w K mg base "link_points" 1 2 ["ahead", "place"] xl:=Y9 D20 (mg_of X G g_MOST_BETWEEN) (mg_of X G g_BESIDE) (mg_none_of X G z_min)
 have h_linked_tails:DefOk l.prog w K mg base "linked_tails" 2 2 ["place", "tails"] yG:=Ym D21 h_link_points
 have h_longer_tails:DefOk l.prog w K mg base "longer_tails" 3 3 ["sign", "name", "tails"] yY:=Yl D22 h_meets h_own_points h_linked_tails h_first_of_most (mg_none_of X G z_len) (mg_none_of X G z_range)
 have h_lead_points:DefOk l.prog w K mg base "lead_points" 1 1 ["place"] yQ:=Xa D23 (mg_of X G g_MOST_AHEAD) (mg_none_of X G z_min)
 have h_best:DefOk l.prog w K mg base "best" 4 2 ["query", "name"] vW:=ze0 D24 h_lead_points h_first_of_most h_longer_tails h_last_sign_tails (mg_none_of X G z_len) (mg_none_of X G z_range)
 have h_fitting_rows:DefOk l.prog w K mg base "fitting_rows" 5 3 ["names", "query", "numbers"] yH:=Yn D25 h_best
 have h_all_rows:DefOk l.prog w K mg base "all_rows" 6 2 ["names", "query"] yq:=V2 D26 h_fitting_rows (mg_none_of X G z_len) (mg_none_of X G z_list) (mg_none_of X G z_range)
 have h_finds:DefOk l.prog w K mg base "finds" 7 3 ["names", "query", "many"] wG:=Tj D27 h_all_rows h_first_rows
 have h_check_number:DefX l.prog w K mg base "check_number" 1 2 ["names", "number"] y0:=Yo D28 t_NoNumber (mg_none_of X G z_len)
 have h_rank_of:DefX l.prog w K mg base "rank_of" 7 3 ["names", "query", "number"] wb:=Jj D29 h_check_number h_all_rows h_in_order (mg_none_of X G z_enumerate)
 have h__law_rank:DefOk l.prog w K mg base "_law_rank" 8 3 ["_law_names_here", "_law_query_here", "_law_number"] yI:=W4 D30 t_NoNumber q_NoNumber_ValueError k_NoNumber t_NoText q_NoNumber_NoText t_NoFit q_NoNumber_NoFit q_NoNumber_NoNumber t_FindError x_NoNumber_FindError h_rank_of (mg_none_of X G z_isinstance) (mg_none_of X G z_ValueError)
 have h_ties:DefOk l.prog w K mg base "ties" 7 2 ["names", "query"] jH:=zd9 D31 h_all_rows (mg_none_of X G z_sorted)
 exact zs2 (zq9 (yn (st:=jU) l32 c32 k32) h__law_rank h_ties h_finds h__law_drawn h__law_found h__law_query h__law_names (mg_none_of X G z_len) (mg_none_of X G z_sorted) (mg_none_of X G z_set) (mg_none_of X G z_range) (mg_none_of X G z_bool) (mg_none_of X G z_isinstance) (mg_none_of X G z_list)) hl
end Law
open PySem PySem.W PyProof.Rows
theorem PySem.W.Fast.te5161997894045924427:True:=trivial
set_option maxRecDepth 100000 in
set_option maxHeartbeats 0 in
theorem PySem.Challenge.cw_fewfind_k20_found_holds : PySem.Challenge.rw_fewfind_k20_found.Holds := by
 w_on;o_law;k_head;(case hw=>w_witness2)
 k_fill
 refine FD.walkM (l:=PySem.Challenge.rw_fewfind_k20_found) (k:=9) (p := "_law_script") rfl rfl ⟨rfl,by decide,by decide⟩ ?T ?F
 case F=>
  intro w mg fa h KX G hmg
  refine' Law.all_mk KX G hmg Law.main ..
  any_goals first|k_is|k_exc|with_unfolding_all rfl
 case T=>decide
