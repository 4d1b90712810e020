import PyProof.Rows.All
import Wide.All
import OpenK.AllK
import Wide.FinOn
import Lean
import PyProof.EqAt
import PyProof.EqKinds
import PyProof.TupleCall
import PyProof.NeKinds
import PyProof.NeData
import PyProof.P3In
import PyProof.ZipIter
import PyProof.Draws
import PyProof.StrWalks
import PyProof.IsiPairs
import PyProof.IsiSeqPairs
import PyProof.ConsumeWalk
import PyProof.ListStr
import PyProof.IsiHeapPairs
import PyProof.Rows.Range3
import PyProof.IsiNone
import KE.KRevIter
import KE.KRevSl
import PyProof.Conv_int_bool
import PyProof.ListRange
import PyProof.TupleOfSeq
import PyProof.MinMaxWalk
import PyProof.WalkInts
import PyProof.SeqI3
import PyProof.SetKind
import PyProof.Rows.SetFrom
import PyProof.CollectWalk
import PyProof.FactsAll.set
import PyProof.Rows.SortWalk
import PyProof.Rows.SortShell
import PyProof.Rows.SumAny
import PyProof.DictWalks
import PyProof.Rows.SortRev
import PySem.Challenge.RW_fewfind_k21_whole_found
set_option Elab.async false
set_option linter.all false
set_option maxRecDepth 100000
open PySem.W (methodObj keepIn fnOf codeIn nsIn mg_of mg_none_of)
open PyProof.Rows (boot_sorted)
open List (mem_filter mem_range filterMap_cons mem_cons_self mem_cons_of_mem mem_cons mem_append mem_append_left getElem?_set_self getElem?_set_ne mem_filterMap mem_append_right size_toArray append_nil nodup_cons length_take getElem?_append_right getElem?_replicate getElem?_append_left getElem?_map mem_of_getElem? length_append length_map length_drop length_set replicate_succ flatten_cons append_assoc foldl_cons length_singleton nil_append map_nil map_cons getElem?_set drop_eq_getElem_cons lookup_cons set_set length_cons ext_getElem length_reverse range'_succ length_range mem_map pairwise_cons pairwise_map map_map getElem?_eq_getElem map_append take_of_length_le mem_singleton getElem_mem not_mem_nil getD_eq_getElem?_getD mem_map_of_mem find?_cons any_cons length_nil map_congr_left getElem?_of_mem getElem?_cons_zero getElem?_cons_succ set_cons_succ set_cons_zero getD_cons_zero getD_cons_succ map_id length_filter_le flatMap_cons)
open Nat (lt_of_lt_of_le lt_irrefl ne_of_lt le_trans le_of_lt ne_of_gt le_refl lt_or_ge zero_le lt_succ_self zero_add le_succ lt_succ_of_lt)
open Int (toNat_natCast emod_nonneg)
open Array (length_toList getElem_toList getElem?_toList)
namespace L2
open PySem PySem.Spec PyProof.Rows
abbrev Key:=Sum Int Str
def Xv:Key→Value→Bool
 |.inl k,v=>Value.isInt k v
 |.inr x,v=>Value.isStrOf x v
def keyH(w:World):Key→Int
 |.inl k=>hashInt k
 |.inr x=>hashStr w x
theorem y9:∀{k:Key} {v:Value},Xv k v=true→(∃i t,k=Sum.inl i∧v=Value.int i t)∨(∃x t,k=Sum.inr x∧v=Value.str x t)
 |.inl i,v,h=>by
  obtain⟨t,e⟩:=Value.isInt_shape (k:=i) (v:=v) h
  exact .inl ⟨i,t,rfl,e⟩
 |.inr x,v,h=>by
  obtain⟨t,e⟩:=Value.isStrOf_shape (x:=x) (v:=v) h
  exact .inr ⟨x,t,rfl,e⟩
theorem J0(i:Int)(t:Tok):Xv (.inl i) (.int i t)=true:=by simp[Xv,Value.isInt]
theorem JZ(x:Str)(t:Tok):Xv (.inr x) (.str x t)=true:=by simp[Xv,Value.isStrOf]
theorem zb2(a b:Int):decide ((Sum.inl a:Key)=Sum.inl b)=(a==b):=by
 by_cases e:a=b
 ·subst e;simp
 ·have h:¬ (Sum.inl a:Key)=Sum.inl b:=fun q=>e (Sum.inl.inj q)
  rw[decide_eq_false h]
  exact(beq_eq_false_iff_ne.mpr e).symm
theorem za9(a b:Str):decide ((Sum.inr a:Key)=Sum.inr b)=decide (a=b):=by
 by_cases e:a=b
 ·subst e;simp
 ·have h:¬ (Sum.inr a:Key)=Sum.inr b:=fun q=>e (Sum.inr.inj q)
  rw[decide_eq_false h,decide_eq_false e]
theorem zb1(a:Int)(b:Str):decide ((Sum.inl a:Key)=Sum.inr b)=false:=decide_eq_false (fun q=>nomatch q)
theorem zb0(a:Str)(b:Int):decide ((Sum.inr a:Key)=Sum.inl b)=false:=decide_eq_false (fun q=>nomatch q)
def xC(prog:Program)(w:World):PySem.KeyKind prog w Key where
 is:=Xv
 hash:=keyH w
 inj:=fun v a b ha hb=>by
  rcases y9 ha with ⟨i,t,rfl,rfl⟩|⟨x,t,rfl,rfl⟩
  ·rcases y9 hb with ⟨j,u,rfl,e⟩|⟨y,u,rfl,e⟩
   ·injection e with e1 _;rw[e1]
   ·exact nomatch e
  ·rcases y9 hb with ⟨j,u,rfl,e⟩|⟨y,u,rfl,e⟩
   ·exact nomatch e
   ·injection e with e1 _;rw[e1]
 byValue:=fun k v h=>by
  rcases y9 h with ⟨i,t,rfl,rfl⟩|⟨x,t,rfl,rfl⟩ <;> rfl
 pyHash:=fun hv h=>by
  rcases y9 hv with ⟨i,t,rfl,rfl⟩|⟨x,t,rfl,rfl⟩
  ·exact wpAny_pyHash_int h
  ·exact wpAny_pyHash_str h
 eqBool:=fun hu hv h=>by
  rcases y9 hu with ⟨i,t,rfl,rfl⟩|⟨x,t,rfl,rfl⟩
  ·rcases y9 hv with ⟨j,u,rfl,rfl⟩|⟨y,u,rfl,rfl⟩
   ·rw[zb2] at h;exact wpAny_eqBool_int h
   ·rw[zb1] at h;exact SeqAt.EqAt.int_str i t y u _ _ _ _ h
  ·rcases y9 hv with ⟨j,u,rfl,rfl⟩|⟨y,u,rfl,rfl⟩
   ·rw[zb0] at h;exact SeqAt.EqAt.str_int x t j u _ _ _ _ h
   ·rw[za9] at h;exact wpAny_eqBool_str h
 «strs»:=fun k x t v h=>by
  rcases y9 h with ⟨i,u,rfl,e⟩|⟨y,u,rfl,e⟩
  ·exact nomatch e
  ·injection e with e1 _
   subst e1
   cases v <;> rfl
theorem WZ(prog:Program)(w:World)(i:Int)(t:Tok):(xC prog w).is (.inl i) (.int i t)=true:=J0 i t
theorem WY(prog:Program)(w:World)(x:Str)(t:Tok):(xC prog w).is (.inr x) (.str x t)=true:=JZ x t
inductive V where
 | non|bl (b:Bool) | int (i:Int) | str (x:Str) | byt (b:Array UInt8) | flt (b:UInt64) | ref (a:Addr) | ty (n:String)
 deriving DecidableEq
def RelV:V→Value→Prop
 |.non,u=>u=Value.none
 |.bl b,u=>u=Value.bool b
 |.int i,u=>∃t,u=Value.int i t
 |.str x,u=>∃t,u=Value.str x t
 |.byt b,u=>∃t,u=Value.bytes b t
 |.flt b,u=>∃t,u=Value.float b t
 |.ref a,u=>u=Value.ref a
 |.ty n,u=>u=Value.type n
abbrev Vals:List V→List Value→Prop:=Paired RelV
theorem Vals.length{xs:List V}{us:List Value}(r:Vals xs us):xs.length=us.length:=Paired.length r
theorem Vals.get:∀{xs:List V} {us:List Value} {i:Nat} {x:V},Vals xs us→xs[i]?=some x→∃u,us[i]?=some u∧RelV x u
 |_,_,_,_,.nil,e=>by simp at e
 |_,_,0,_,.cons r _,e=>by simp at e;subst e;exact⟨_,rfl,r⟩
 |_,_,i+1,x,.cons _ t,e=>by
  obtain⟨u,h1,h2⟩:=Vals.get (i:=i) (x:=x) t (by simpa using e)
  exact⟨u,by simpa using h1,h2⟩
theorem Vals.set{x:V}{u:Value}(r:RelV x u):∀{xs:List V} {us:List Value} (i:Nat),Vals xs us→Vals (xs.set i x) (us.set i u)
 |_,_,_,.nil=>.nil
 |_,_,0,.cons _ t=>.cons r t
 |_,_,i+1,.cons q t=>.cons q (Vals.set r i t)
theorem Vals.append:∀{xs ys:List V} {us ws:List Value},Vals xs us→Vals ys ws→Vals (xs++ys) (us++ws)
 |_,_,_,_,.nil,s=>s
 |_,_,_,_,.cons r t,s=>.cons r (Vals.append t s)
theorem Vals.take:∀{xs:List V} {us:List Value} (n:Nat),Vals xs us→Vals (xs.take n) (us.take n)
 |_,_,0,_=>.nil
 |_,_,_+1,.nil=>.nil
 |_,_,n+1,.cons r t=>.cons r (Vals.take n t)
theorem Vals.drop:∀{xs:List V} {us:List Value} (n:Nat),Vals xs us→Vals (xs.drop n) (us.drop n)
 |_,_,0,r=>r
 |_,_,_+1,.nil=>.nil
 |_,_,n+1,.cons _ t=>Vals.drop n t
def RelO:Option V→Option Value→Prop
 |some v,some u=>RelV v u
 |none,none=>True
 |_,_=>False
def KV{κ:Type}:List (κ×V)→List (κ×Value)→Prop:=Paired fun (p:κ×V) (q:κ×Value)=>p.1=q.1∧RelV p.2 q.2
def kV:Key→V
 |.inl i=>.int i
 |.inr x=>.str x
inductive HO where
 | lst (xs:List V)
 | tup (xs:List V)
 | dK (kvs:List (Key×V)) | dT (kvs:List (List Key×V))
 | set (S:Int→Bool) (n:Nat)
 | ins (C dx:Addr) (fs:List (Str×V))
 | own (x:Addr)
 | xd (fs:List (Str×V))
 | met (f x:Addr)
 | rng (lo hi:Int)
 | frz (o:Obj) (u:HO)
 | tbl (ps:Array Value)
 | ext (φ:Heap→Prop)
abbrev Hp:=Addr→Option HO
def upd(H:Hp)(a:Addr)(o:HO):Hp:=fun b=>if b=a then some o else H b
theorem zt{H:Hp}{a:Addr}{o:HO}:upd H a o a=some o:=by unfold upd;rw[if_pos rfl]
theorem zp{H:Hp}{a b:Addr}{o:HO}(h:b≠a):upd H a o b=H b:=by unfold upd;rw[if_neg h]
theorem ne_of{H:Hp}{a b:Addr}{o u:HO}(h:H a=some o)(h':H b=some u)(d:o≠u):a≠b:=by
 intro e;subst e;rw[h] at h';exact d (Option.some.inj h')
theorem zP{H:Hp}{a b:Addr}{o:HO}(h:H a=some o)(h':H b=none):a≠b:=by
 intro e;subst e;rw[h] at h';cases h'
section
variable(P:Program)(w:World)
def ObjOk(H:Hp)(h:Heap)(a:Addr):HO→Prop
 |.lst xs=>xs.length≤sizeLine∧∃(its:List Value) (n:Nat),Vals xs its∧h.get? a=some { cls:=.type "list", data:=.seq its.toArray n }
 |.tup xs=>xs.length≤sizeLine∧∃its:List Value,Vals xs its∧IsTup h a its.toArray
 |.dK kvs=>kvs.length≤sizeLine∧(a==sysModules)=false∧∃vs,KV kvs vs∧h.DictOf (xC P w) a vs
 |.dT kvs=>kvs.length≤sizeLine∧(a==sysModules)=false∧∃xs:List (List Key×Addr×Value),
   Paired (fun (p:List Key×V) (q:List Key×Addr×Value)=>p.1=q.1∧H q.2.1=some (.tup (p.1.map kV))∧RelV p.2 q.2.2) kvs xs ∧
   ∃o es ep,h.get? a=some o∧o.ExactDict∧o.data=.dict es ep∧es.toList=xs.map (entryOfKey (tupleKind (xC P w)))∧(xs.map (·.1)).Nodup
 |.set S n=>h.SetOf (intKind P w) a S n
 |.ins C dx fs=>H dx=some (.own a)∧fs.length≤1000∧dx≠a∧h.get? a=some (PySem.W.instObj C dx) ∧
   ∃mA,h.Ns1 dx mA∧(∀f,RelO (fs.lookup f) (mA f))∧PySem.Within mA (fs.map (·.1))
 |.own _=>∃o,h.get? a=some o
 |.xd fs=>∃mA,h.Ns1 a mA∧∀f,RelO (fs.lookup f) (mA f)
 |.rng lo hi=>∃t u v,h.get? a=some { cls:=.type "range", data:=.fields #[.int lo t,.int hi u,.int 1 v] }
 |.frz o u=>h.get? a=some o∧ObjOk H h a u
 |.tbl ps=>h.get? a=some { cls:=.none,data:=.fields ps }
 |.met f x=>h.get? a=some (methodObj (.ref f) (.ref x))
 |.ext φ=>φ h∧(∃o,h.get? a=some o)∧∀h1 h2:Heap,φ h1→(∀o,h1.get? a=some o→h2.get? a=some o)→φ h2
def HOk(H:Hp)(h:Heap):Prop:=∀a o,H a=some o→ObjOk P w H h a o
end
section
variable{P:Program}{w:World}{H H':Hp}{h h':Heap}{a:Addr}{o:HO}
theorem ObjOk.lt(x:ObjOk P w H h a o):a<h.objs.size:=by
 cases o with
 |lst xs=>obtain⟨_,_,_,_,e⟩:=x;exact Heap.lt_size e
 |tup xs=>obtain⟨_,_,_,p⟩:=x;exact p.lt
 |dK kvs=>obtain⟨_,_,_,_,o,_,_,e,_⟩:=x;exact Heap.lt_size e
 |dT kvs=>obtain⟨_,_,_,_,o,_,_,e,_⟩:=x;exact Heap.lt_size e
 |set S n=>obtain⟨o,_,_,_,e,_⟩:=x;exact Heap.lt_size e
 |ins C dx fs=>obtain⟨_,_,_,e,_⟩:=x;exact Heap.lt_size e
 |own y=>obtain⟨_,e⟩:=x;exact Heap.lt_size e
 |xd fs=>obtain⟨_,⟨_,_,_,e,_⟩,_⟩:=x;exact Heap.lt_size e
 |rng lo hi=>obtain⟨_,_,_,e⟩:=x;exact Heap.lt_size e
 |frz ob u=>obtain⟨e,_⟩:=x;exact Heap.lt_size e
 |tbl ps=>exact Heap.lt_size (show h.get? a=some _ from x)
 |met f y=>exact Heap.lt_size (show h.get? a=some _ from x)
 |ext φ=>obtain⟨_,⟨_,e⟩,_⟩:=x;exact Heap.lt_size e
theorem Paired.mapP{α β:Type}{F G:α→β→Prop}:∀{l₁:List α} {l₂:List β},Paired F l₁ l₂→(∀a b,F a b→G a b)→Paired G l₁ l₂
 |_,_,.nil,_=>.nil
 |_,_,.cons r t,f=>.cons (f _ _ r) (Paired.mapP t f)
theorem ObjOk.stay(x:ObjOk P w H h a o)(k:∀b u,(b=a∨H b=some (.own a))→h.get? b=some u→h'.get? b=some u)
  (ho:∀b,H b=some (.own a)→H' b=some (.own a)) (ht:∀b xs,H b=some (.tup xs)→H' b=some (.tup xs)):ObjOk P w H' h' a o:=by
 induction o with
 |lst xs=>obtain⟨z,its,n,r,e⟩:=x;exact⟨z,its,n,r,k _ _ (.inl rfl) e⟩
 |tup xs=>obtain⟨z,its,r,ob,e,c⟩:=x;exact⟨z,its,r,ob,k _ _ (.inl rfl) e,c⟩
 |dK kvs=>obtain⟨z,y,vs,r,ob,es,ep,e,c⟩:=x;exact⟨z,y,vs,r,ob,es,ep,k _ _ (.inl rfl) e,c⟩
 |dT kvs=>
  obtain⟨z,y,xs,r,ob,es,ep,e,c⟩:=x
  exact⟨z,y,xs,Paired.mapP r fun p q z=>⟨z.1,ht _ _ z.2.1,z.2.2⟩,ob,es,ep,k _ _ (.inl rfl) e,c⟩
 |set S n=>obtain⟨ob,es,ep,t,e,c⟩:=x;exact⟨ob,es,ep,t,k _ _ (.inl rfl) e,c⟩
 |ins C dx fs=>
  obtain⟨d,z,ne,e,mA,⟨od,es,ep,e2,c⟩,r⟩:=x
  exact⟨ho _ d,z,ne,k _ _ (.inl rfl) e,mA,⟨od,es,ep,k _ _ (.inr d) e2,c⟩,r⟩
 |own y=>obtain⟨ob,e⟩:=x;exact⟨ob,k _ _ (.inl rfl) e⟩
 |xd fs=>obtain⟨mA,⟨od,es,ep,e,c⟩,r⟩:=x;exact⟨mA,⟨od,es,ep,k _ _ (.inl rfl) e,c⟩,r⟩
 |rng lo hi=>obtain⟨t,u,v,e⟩:=x;exact⟨t,u,v,k _ _ (.inl rfl) e⟩
 |frz ob u ih=>obtain⟨e,q⟩:=x;exact⟨k _ _ (.inl rfl) e,ih q⟩
 |tbl ps=>
  have e:h.get? a=some { cls:=.none,data:=.fields ps }:=x
  show h'.get? a=some { cls:=.none,data:=.fields ps }
  exact k a _ (.inl rfl) e
 |met f y=>
  have e:h.get? a=some (methodObj (.ref f) (.ref y)):=x
  show h'.get? a=some (methodObj (.ref f) (.ref y))
  exact k a _ (.inl rfl) e
 |ext φ=>obtain⟨p,⟨o,e⟩,st⟩:=x;exact⟨st _ _ p fun o q=>k _ _ (.inl rfl) q,⟨o,k _ _ (.inl rfl) e⟩,st⟩
theorem HOk.lt(x:HOk P w H h)(e:H a=some o):a<h.objs.size:=(x a o e).lt
theorem HOk.fresh(x:HOk P w H h)(e:h.objs.size≤a):H a=none:=by
 cases q:H a with
 |none=>rfl
 |some u=>exact absurd (lt_of_lt_of_le (x.lt q) e) (lt_irrefl _)
theorem HOk.kept(x:HOk P w H h)(k:∀b u,h.get? b=some u→h'.get? b=some u):HOk P w H h':=fun a o e=>
 (x a o e).stay (fun b u _ q=>k b u q) (fun _ q=>q) fun _ _ q=>q
theorem HOk.laid(x:HOk P w H h)(k:∀b u,h.get? b=some u→h'.get? b=some u)(hp:h.objs.size≤a)(new:ObjOk P w (upd H a o) h' a o):HOk P w (upd H a o) h':=fun b u e=>by
 have hn:=x.fresh hp
 by_cases hb:b=a
 ·subst hb;rw[zt] at e;cases e;exact new
 ·rw[zp hb] at e
  exact(x b u e).stay (fun c v _ q=>k c v q) (fun c q=>by rw[zp (zP q hn)];exact q) fun c xs q=>by rw[zp (zP q hn)];exact q
end
def Rd(H:Hp)(a:Addr)(u:HO):Prop:=H a=some u∨∃o,H a=some (.frz o u)
theorem Rd.ok{P:Program}{w:World}{H:Hp}{h:Heap}{a:Addr}{u:HO}(r:Rd H a u)(x:HOk P w H h):ObjOk P w H h a u:=by
 rcases r with r|⟨o,r⟩
 ·exact x a u r
 ·obtain⟨_,q⟩:=x a _ r
  exact q
def Mut:Option HO→Prop
 | some (.lst _)=>True
 | some (.dK _)=>True
 | some (.dT _)=>True
 | some (.set _ _)=>True
 | some (.ins _ _ _)=>True
 | some (.ext _)=>True
 |_=>False
section
variable{P:Program}{w:World}{H:Hp}{h h':Heap}{x e:Addr}{o':HO}
theorem HOk.write(ok:HOk P w H h)(mu:Mut (H x))(he:e=x∨H e=some (.own x))(k:∀b u,b≠e→h.get? b=some u→h'.get? b=some u)(heo:∃u,h'.get? e=some u)
  (new:ObjOk P w (upd H x o') h' x o'):HOk P w (upd H x o') h':=fun b u q=>by
 have nown:∀c y,H c=some (.own y)→c≠x:=fun c y r z=>by subst z;rw[r] at mu;exact mu
 have ntup:∀c xs,H c=some (.tup xs)→c≠x:=fun c xs r z=>by subst z;rw[r] at mu;exact mu
 by_cases hb:b=x
 ·subst hb;rw[zt] at q;cases q;exact new
 ·rw[zp hb] at q
  by_cases hbe:b=e
  ·have q':H b=some (.own x):=by
    rcases he with z|z
    ·exact absurd (hbe.trans z) hb
    ·rw[hbe];exact z
   rw[q] at q';cases q'
   obtain⟨v,hv⟩:=heo
   exact⟨v,by rw[hbe];exact hv⟩
  ·refine(ok b u q).stay (fun c v hc r=>k c v ?_ r) (fun c r=>by rw[zp (nown c b r)];exact r) fun c xs r=>by rw[zp (ntup c xs r)];exact r
   rcases hc with rfl|hc
   ·exact hbe
   ·rintro rfl
    rcases he with z|z
    ·exact nown c b hc z
    ·rw[hc] at z;cases z;exact hb rfl
end
structure Un(fs ex:List Addr)(H H':Hp)(h h':Heap):Prop where
 keep:∀b o,h.get? b=some o→H b=none→b∉fs→b∉ex→h'.get? b=some o
 slot:∀b o,h.get? b=some o→H b=none→b∈fs→b∉ex→∃sl,h'.get? b=some { o with slots:=sl }
 free:∀b o,h.get? b=some o→H b=none→b∉ex→H' b=none
 there:∀b o,h.get? b=some o→b∉ex→∃o',h'.get? b=some o'
 tups:∀b xs,H b=some (.tup xs)→H' b=some (.tup xs)
 frzs:∀b o u,H b=some (.frz o u)→H' b=some (.frz o u)
 tbls:∀b ps,H b=some (.tbl ps)→∃more,H' b=some (.tbl (ps++more))
section
variable{fs fs' ex ex':List Addr}{H H1 H2:Hp}{h h1 h2 h':Heap}{a x e:Addr}{o:HO}
theorem Un.any(u:Un fs ex H H1 h h1){b:Addr}{ob:Obj}(q:h.get? b=some ob)(n:H b=none)(hx:b∉ex):∃sl,h1.get? b=some { ob with slots:=sl }:=by
 by_cases hb:b∈fs
 ·exact u.slot b ob q n hb hx
 ·exact⟨ob.slots,u.keep b ob q n hb hx⟩
theorem Un.kept(k:∀b u,h.get? b=some u→h'.get? b=some u):Un fs ex H H h h':=
 ⟨fun b ob q _ _ _=>k b ob q,fun b ob q _ _ _=>⟨ob.slots,k b ob q⟩,fun _ _ _ n _=>n,fun b ob q _=>⟨ob,k b ob q⟩,fun _ _ q=>q,fun _ _ _ q=>q,fun _ ps q=>⟨#[],by rw[q];simp⟩⟩
theorem Un.refl:Un fs ex H H h h:=Un.kept fun _ _ q=>q
theorem Un.laid(k:∀b u,h.get? b=some u→h'.get? b=some u)(hp:h.objs.size≤a)(hn:H a=none):Un fs ex H (upd H a o) h h' where
 keep:=fun b u q _ _ _=>k b u q
 slot:=fun b u q _ _ _=>⟨u.slots,k b u q⟩
 free:=fun b u q n _=>by rw[zp (ne_of_lt (lt_of_lt_of_le (Heap.lt_size q) hp))];exact n
 there:=fun b u q _=>⟨u,k b u q⟩
 tups:=fun b xs q=>by rw[zp (zP q hn)];exact q
 frzs:=fun b u xs q=>by rw[zp (zP q hn)];exact q
 tbls:=fun b ps q=>⟨#[],by rw[zp (zP q hn),q];simp⟩
theorem Un.write(mu:Mut (H x))(he:e=x∨H e=some (.own x))(k:∀b u,b≠e→h.get? b=some u→h'.get? b=some u)(heo:∃u,h'.get? e=some u):Un fs ex H (upd H x o) h h':=by
 have hx:∀b,H b=none→b≠x:=fun b n z=>by subst z;rw[n] at mu;exact mu
 have hb:∀b,H b=none→b≠e:=fun b n z=>by
  subst z
  rcases he with r|r
  ·exact hx b n r
  ·rw[n] at r;cases r
 have hm:∀b u,H b=some u→¬ Mut (some u)→b≠x:=fun b u q nm z=>by subst z;rw[q] at mu;exact nm mu
 refine⟨fun b u q n _ _=>k b u (hb b n) q,fun b u q n _ _=>⟨u.slots,k b u (hb b n) q⟩,fun b u q n _=>by rw[zp (hx b n)];exact n,fun b u q _=>?_,
  fun b xs q=>by rw[zp (hm b _ q fun z=>z)];exact q,fun b u xs q=>by rw[zp (hm b _ q fun z=>z)];exact q,fun b ps q=>⟨#[],by rw[zp (hm b _ q fun z=>z),q];simp⟩⟩
 by_cases hbe:b=e
 ·subst hbe;exact heo
 ·exact⟨u,k b u hbe q⟩
end
def trk(h:Heap)(H:Hp):List Addr:=(List.range h.objs.size).filter fun a=>(H a).isSome
def u7(h:Heap)(H:Hp):Heap:=PySem.W.hideAll h (trk h H)
theorem Xz(h:Heap)(H:Hp):(u7 h H).objs.size=h.objs.size:=PySem.W.hideAll_size _ _
theorem Vh{h:Heap}{H:Hp}{b:Addr}{o:Obj}(e:h.get? b=some o)(n:H b=none):(u7 h H).get? b=some o:=
 PySem.W.hideAll_get _ e fun hm=>by
  have q:(H b).isSome=true:=(mem_filter.mp hm).2
  rw[n] at q;simp at q
theorem UQ{h:Heap}{H:Hp}{b:Addr}{o:Obj}(e:(u7 h H).get? b=some o):h.get? b=some o∧H b=none:=by
 have e':h.get? b=some o:=PySem.W.of_hideAll (trk h H) e
 refine⟨e',?_⟩
 cases q:H b with
 |none=>rfl
 |some x=>
  have hm:b∈trk h H:=mem_filter.mpr ⟨mem_range.mpr (Heap.lt_size e'),by simp[q]⟩
  have z:(u7 h H).get? b=none:=PySem.W.hideAll_none (trk h H) hm
  rw[z] at e;cases e
def T6(g h:Heap)(L:Addr):List (Addr×Obj):=(List.range h.objs.size).filterMap fun a=>if a=L∨(g.get? a).isSome=true then none else (h.get? a).map fun o=>(a,o)
def rest(g h:Heap)(L d:Addr):List (Addr×Obj):=(T6 g h L).filter fun p=>decide (p.1≠d)
structure Mod(K:PySem.W.Frag)(mg:Str→Option Value)(base:Heap):Prop where
 kin:K.In base
 glob:base.Ns mainGlobals mg
 blt:∃mb,base.Ns builtinsNs mb∧∀x:Str,x ≠ "__name__" → mb x=bootBuiltins x
 nolimit:base.NoLimit
structure Cx where
 prog:Program
 w:World
 K:PySem.W.Frag
 mg:Str→Option Value
 base:Heap
 A:Around
 N:List Str
 s₀:Shared
 H₀:Hp
 env:Env
 outer:List Env
 stack:List Env
 ex:List Addr
 fn:Str→Bool
 calm:Bool
 pn:List (Addr×Obj)
 xe:Value→Shared→Prop
def frs(l:List Env):List Addr:=l.filterMap (·.frame)
abbrev Cx.fs(X:Cx):List Addr:=frs X.outer
def Vis(sc:Scope)(x:Str):Prop:=sc.names.lookup x=some .local∨sc.names.lookup x=some .cell∨sc.names.lookup x=some .free
def Loc(sc:Scope)(x:Str):Prop:=sc.names.lookup x=some .local∨sc.names.lookup x=some .cell
def Look(env:Env)(h:Heap)(m:Str→Option Value)(x:Str)(u:Value):Prop:=
 (env.kindOf x=some .local∧m x=some u)∨((env.kindOf x=some .cell∨env.kindOf x=some .free)∧∃c,env.cells.lookup x=some c∧h.IsCell c (some u))
structure Cx.Ok(X:Cx):Prop where
 mod:Mod X.K X.mg X.base
 kind:X.env.scope.kind=.function
 glob:X.env.globals=mainGlobals
 blt:X.env.builtins=builtinsNs
 above:X.s₀.heap.objs.size≤X.env.locals
 inj:∀x y c,X.env.cells.lookup x=some c→X.env.cells.lookup y=some c→x=y
 has:∀x,(X.env.kindOf x=some .cell∨X.env.kindOf x=some .free)→∃c,X.env.cells.lookup x=some c
 cab:∀x c,X.fn x=true→X.env.cells.lookup x=some c→X.s₀.heap.objs.size≤c
 hd:X.calm=true→X.A.handled=none
 frames:X.A.frames=some X.stack
 stk:X.stack=X.outer∨(X.stack=X.env::X.outer∧X.env.frame=some X.env.locals)
 exf:∀b∈X.ex,b≠X.env.locals∧∀x c,X.env.cells.lookup x=some c→c≠b
 bs:∀b o,X.base.get? b=some o→X.s₀.heap.get? b=some o∧X.H₀ b=none
 bsz:X.base.objs.size≤X.s₀.heap.objs.size
 noex:∀b o,X.base.get? b=some o→b∉X.ex
 exfs:∀b∈X.ex,b∉X.fs
 funs:X.s₀.heap.FunFrames X.base X.outer
 frf:∀b∈X.fs,X.H₀ b=none
structure Inv(X:Cx)(pins:List (Addr×Obj))(σ:List (Option V))(H:Hp)(s:Shared):Prop where
 ok:X.Ok
 os:s.os=X.s₀.os
 bare:AllBare s.gens
 base:Un X.fs X.ex X.H₀ H X.s₀.heap s.heap
 loc:∃m,s.heap.Ns X.env.locals m∧∀(i:Nat) (x:Str) (v:V),X.N[i]?=some x→σ[i]?=some (some v)→Vis X.env.scope x→∃u,RelV v u∧Look X.env s.heap m x u
 cell:∀x c,X.env.cells.lookup x=some c→∃v,s.heap.IsCell c v
 free:H X.env.locals=none
 freeC:∀x c,X.env.cells.lookup x=some c→H c=none
 pin:∀p∈X.pn++pins,s.heap.get? p.1=some p.2∧H p.1=none∧p.1≠X.env.locals∧p.1∉X.fs∧∀v,p.2.data≠.cell v
 hok:HOk X.prog X.w H s.heap
 len:σ.length=X.N.length
section
variable{X:Cx}{pins:List (Addr×Obj)}{σ:List (Option V)}{H H':Hp}{s:Shared}{h':Heap}
theorem Cx.Ok.nofr(ok:X.Ok){b:Addr}{o:Obj}(e:X.base.get? b=some o):b∉X.fs:=fun hb=>by
 have:=(ok.funs.mem hb).1
 rw[e] at this;cases this
theorem Inv.bs(I:Inv X pins σ H s):∀b o,X.base.get? b=some o→s.heap.get? b=some o∧H b=none:=fun b o e=>
 ⟨I.base.keep b o (I.ok.bs b o e).1 (I.ok.bs b o e).2 (I.ok.nofr e) (I.ok.noex b o e),I.base.free b o (I.ok.bs b o e).1 (I.ok.bs b o e).2 (I.ok.noex b o e)⟩
theorem Inv.bk(I:Inv X pins σ H s):∀b o,X.base.get? b=some o→s.heap.get? b=some o:=fun b o e=>(I.bs b o e).1
theorem Inv.mod(I:Inv X pins σ H s):Mod X.K X.mg X.base:=I.ok.mod
theorem Inv.kIn(I:Inv X pins σ H s):X.K.In s.heap:=I.ok.mod.kin.keeps I.bk
theorem Inv.lt(I:Inv X pins σ H s):X.env.locals<s.heap.objs.size:=let ⟨_,hn,_⟩:=I.loc;hn.lt
theorem Inv.sz(I:Inv X pins σ H s):X.s₀.heap.objs.size≤s.heap.objs.size:=le_trans I.ok.above (le_of_lt I.lt)
theorem Inv.nofs(I:Inv X pins σ H s){a:Addr}(h:s.heap.objs.size≤a):a∉X.fs:=fun hb=>by
 obtain⟨_,o,ho,_⟩:=I.ok.funs.mem hb
 exact absurd (lt_of_lt_of_le (Heap.lt_size ho) (le_trans I.sz h)) (lt_irrefl _)
theorem Inv.cne(I:Inv X pins σ H s):∀x c,X.env.cells.lookup x=some c→c≠X.env.locals:=fun x c e z=>by
 obtain⟨v,o,ho,hd⟩:=I.cell x c e
 obtain⟨m,⟨o',es,ep,ho',hd',_⟩,_⟩:=I.loc
 rw[z,ho'] at ho;cases ho;rw[hd'] at hd;cases hd
theorem Inv.funs(I:Inv X pins σ H s):s.heap.FunFrames X.base X.outer:=by
 have all:∀(l:List Env),(∀b∈frs l,b∈X.fs)→X.s₀.heap.FunFrames X.base l→s.heap.FunFrames X.base l:=by
  intro l
  induction l with
  |nil=>intro _ _;trivial
  |cons env r ih=>
   intro hs hl
   obtain⟨hk,⟨L,o,hf,hn,ho,hd⟩,hr⟩:=hl
   have hL:L∈X.fs:=hs L (by unfold frs;rw[filterMap_cons,hf];exact mem_cons_self)
   obtain⟨sl,e⟩:=I.base.slot L o ho (I.ok.frf L hL) hL fun z=>I.ok.exfs L z hL
   exact⟨hk,⟨L,_,hf,hn,e,hd⟩,ih (fun b hb=>hs b (by unfold frs;rw[filterMap_cons,hf];exact mem_cons_of_mem _ hb)) hr⟩
 exact all X.outer (fun _ hb=>hb) I.ok.funs
theorem Inv.stack(I:Inv X pins σ H s):s.heap.FunFrames X.base X.stack:=by
 rcases I.ok.stk with e|⟨e,hf⟩
 ·rw[e];exact I.funs
 ·rw[e]
  obtain⟨m,hn,_⟩:=I.loc
  refine .cons (by rw[I.ok.kind];decide) hf hn ?_ I.funs
  exact Heap.get?_none_of_le (le_trans I.ok.bsz I.ok.above)
theorem Inv.stkSub(I:Inv X pins σ H s):∀b∈frs X.stack,b∈X.env.locals::X.fs:=fun b hb=>by
 rcases I.ok.stk with e|⟨e,hf⟩
 ·rw[e] at hb;exact mem_cons_of_mem _ hb
 ·rw[e] at hb
  unfold frs at hb
  rw[filterMap_cons,hf] at hb
  exact hb
theorem Inv.stkFree(I:Inv X pins σ H s):∀b∈frs X.stack,H b=none:=fun b hb=>by
 rcases mem_cons.mp (I.stkSub b hb) with e|hb
 ·rw[e];exact I.free
 ·obtain⟨_,o,ho,_⟩:=I.ok.funs.mem hb
  exact I.base.free b o ho (I.ok.frf b hb) fun z=>I.ok.exfs b z hb
theorem Inv.step{g':Array GenState}{t':Nat}{d':Drawn}{ch:List Addr}(I:Inv X pins σ H s)
  (hch:∀b∈ch,(b∈X.ex∨X.s₀.heap.objs.size≤b)∧b≠X.env.locals∧(∀x c,X.env.cells.lookup x=some c→c≠b)∧∀p∈X.pn++pins,p.1≠b)
  (keep:∀b o,b≠X.env.locals→b∉X.fs→b∉ch→s.heap.get? b=some o→H b=none→h'.get? b=some o)
  (slot:∀b o,b≠X.env.locals→b∈X.fs→b∉ch→s.heap.get? b=some o→H b=none→∃sl,h'.get? b=some { o with slots:=sl }) (free:∀b o,b∉ch→s.heap.get? b=some o→H b=none→H' b=none)
  (there:∀b o,b∉ch→s.heap.get? b=some o→∃o',h'.get? b=some o')
  (tups:∀b xs,H b=some (.tup xs)→H' b=some (.tup xs)) (frzs:∀b o u,H b=some (.frz o u)→H' b=some (.frz o u)) (tbls:∀b ps,H b=some (.tbl ps)→∃more,H' b=some (.tbl (ps++more)))
  (ns:∀m,s.heap.Ns X.env.locals m→h'.Ns X.env.locals m) (hok:HOk X.prog X.w H' h') (hg:AllBare g') :
  Inv X pins σ H' { s with heap:=h',gens:=g',drawn:=d',toks:=t' }:=by
 have neL:∀b o,X.s₀.heap.get? b=some o→b≠X.env.locals:=fun b o e=>ne_of_lt (lt_of_lt_of_le (Heap.lt_size e) I.ok.above)
 have neC:∀b o,X.s₀.heap.get? b=some o→b∉X.ex→b∉ch:=fun b o e hx hb=>by
  rcases (hch b hb).1 with z|z
  ·exact hx z
  ·exact absurd (lt_of_lt_of_le (Heap.lt_size e) z) (lt_irrefl _)
 have cellK:∀x c,X.env.cells.lookup x=some c→∀v,s.heap.IsCell c v→h'.IsCell c v:=fun x c e v ⟨o,ho,hd⟩=>by
  have nch:c∉ch:=fun z=>(hch c z).2.2.1 x c e rfl
  by_cases hc:c∈X.fs
  ·obtain⟨sl,q⟩:=slot c o (I.cne x c e) hc nch ho (I.freeC x c e)
   exact⟨_,q,hd⟩
  ·exact⟨o,keep c o (I.cne x c e) hc nch ho (I.freeC x c e),hd⟩
 refine⟨I.ok,I.os,hg,⟨fun b o e n hb hx=>?_,fun b o e n hb hx=>?_,fun b o e n hx=>?_,fun b o e hx=>?_,fun b xs e=>tups b xs (I.base.tups b xs e),fun b o xs e=>frzs b o xs (I.base.frzs b o xs e),fun b ps e=>?_⟩,?_,fun x c e=>?_,?_,fun x c e=>?_,fun p hp=>?_,hok,I.len⟩
 ·exact keep b o (neL b o e) hb (neC b o e hx) (I.base.keep b o e n hb hx) (I.base.free b o e n hx)
 ·obtain⟨sl,e1⟩:=I.base.slot b o e n hb hx
  obtain⟨sl',e2⟩:=slot b _ (neL b o e) hb (neC b o e hx) e1 (I.base.free b o e n hx)
  exact⟨sl',e2⟩
 ·obtain⟨o',e1⟩:=I.base.there b o e hx
  exact free b o' (neC b o e hx) e1 (I.base.free b o e n hx)
 ·obtain⟨o',e1⟩:=I.base.there b o e hx
  exact there b o' (neC b o e hx) e1
 ·obtain⟨m1,e1⟩:=I.base.tbls b ps e
  obtain⟨m2,e2⟩:=tbls b _ e1
  exact⟨m1++m2,by rw[e2,Array.append_assoc]⟩
 ·obtain⟨m,hn,hl⟩:=I.loc
  refine⟨m,ns m hn,fun i x v e1 e2 e3=>?_⟩
  obtain⟨u,r,l⟩:=hl i x v e1 e2 e3
  refine⟨u,r,?_⟩
  rcases l with l|⟨k,c,e,z⟩
  ·exact .inl l
  ·exact .inr ⟨k,c,e,cellK x c e _ z⟩
 ·obtain⟨v,z⟩:=I.cell x c e
  exact⟨v,cellK x c e v z⟩
 ·obtain⟨m,⟨o,_,_,ho,_⟩,_⟩:=I.loc
  exact free _ o (fun z=>(hch _ z).2.1 rfl) ho I.free
 ·obtain⟨v,o,ho,hd⟩:=I.cell x c e
  exact free c o (fun z=>(hch c z).2.2.1 x c e rfl) ho (I.freeC x c e)
 ·obtain⟨e,n,ne,nf,d⟩:=I.pin p hp
  have nch:p.1∉ch:=fun z=>(hch p.1 z).2.2.2 p hp rfl
  exact⟨keep p.1 p.2 ne nf nch e n,free p.1 p.2 nch e n,ne,nf,d⟩
theorem Inv.un{t':Nat}(I:Inv X pins σ H s)(u:Un X.fs [] H H' s.heap h')(hok:HOk X.prog X.w H' h'):Inv X pins σ H' { s with heap:=h',toks:=t' }:=by
 obtain⟨m,⟨o,es,ep,ho,r⟩,_⟩:=id I.loc
 obtain⟨sl,hL⟩:=u.any ho I.free (by simp)
 exact I.step (g':=s.gens) (d':=s.drawn) (ch:=[]) (fun _ z=>nomatch z) (fun b o _ hb _ e n=>u.keep b o e n hb (by simp)) (fun b o _ hb _ e n=>u.slot b o e n hb (by simp)) (fun b o _ e n=>u.free b o e n (by simp)) (fun b o _ e=>u.there b o e (by simp)) u.tups u.frzs u.tbls (fun m' hm=>by
  obtain⟨o',es',ep',ho',r'⟩:=hm
  rw[ho] at ho';cases ho'
  exact⟨_,es',ep',hL,r'⟩) hok I.bare
theorem Inv.call{g':Array GenState}{t':Nat}{d':Drawn}{ch:List Addr}(I:Inv X pins σ H s)(u:Un (frs X.stack) ch H H' s.heap h')(hok:HOk X.prog X.w H' h')(hg:AllBare g')
  (hch:∀b∈ch,(b∈X.ex∨X.s₀.heap.objs.size≤b)∧b≠X.env.locals∧(∀x c,X.env.cells.lookup x=some c→c≠b)∧∀p∈X.pn++pins,p.1≠b) :
  Inv X pins σ H' { s with heap:=h',gens:=g',drawn:=d',toks:=t' }:=by
 obtain⟨m,⟨o,es,ep,ho,r⟩,_⟩:=id I.loc
 obtain⟨sl,hL⟩:=u.any ho I.free fun z=>(hch _ z).2.1 rfl
 exact I.step (ch:=ch) hch (fun b o hL hb hc e n=>u.keep b o e n (fun z=>(mem_cons.mp (I.stkSub b z)).elim hL hb) hc) (fun b o _ _ hc e n=>u.any e n hc) (fun b o hc e n=>u.free b o e n hc) (fun b o hc e=>u.there b o e hc) u.tups u.frzs u.tbls (fun m' hm=>by
  obtain⟨o',es',ep',ho',r'⟩:=hm
  rw[ho] at ho';cases ho'
  exact⟨_,es',ep',hL,r'⟩) hok hg
theorem Inv.turned{t':Nat}{it:Addr}(I:Inv X pins σ H s)(k:∀b o,b≠it→s.heap.get? b=some o→h'.get? b=some o)(hn:H it=none)(hL:it≠X.env.locals)
  (h1:it∈X.ex∨X.s₀.heap.objs.size≤it) (h2:∀x c,X.env.cells.lookup x=some c→c≠it) (h3:∀p∈X.pn++pins,p.1≠it):Inv X pins σ H { s with heap:=h',toks:=t' }:=by
 have nit:∀b u,H b=some u→b≠it:=fun b u e z=>by rw[z,hn] at e;cases e
 refine I.step (g':=s.gens) (d':=s.drawn) (ch:=[it]) (fun b hb=>?_) (fun b o _ _ hc e _=>k b o (fun z=>hc (by simp[z])) e) (fun b o _ _ hc e _=>⟨o.slots,k b o (fun z=>hc (by simp[z])) e⟩) (fun _ _ _ _ n=>n)
  (fun b o hc e=>⟨o,k b o (fun z=>hc (by simp[z])) e⟩) (fun _ _ e=>e) (fun _ _ _ e=>e) (fun b ps e=>⟨#[],by rw[e];simp⟩) (fun m hm=>?_) (fun b u e=>?_) I.bare
 ·have e:b=it:=by simpa using hb
  subst e
  exact⟨h1,hL,h2,h3⟩
 ·obtain⟨o,es,ep,ho,r⟩:=hm
  exact⟨o,es,ep,k _ o (Ne.symm hL) ho,r⟩
 ·refine(I.hok b u e).stay (fun c v hc q=>k c v ?_ q) (fun _ q=>q) fun _ _ q=>q
  rcases hc with z|z
  ·rw[z];exact nit b u e
  ·exact nit c _ z
theorem Inv.tok(I:Inv X pins σ H s)(t:Nat):Inv X pins σ H { s with toks:=t }:=I.un (h':=s.heap) (t':=t) Un.refl I.hok
theorem Inv.kept{t':Nat}(I:Inv X pins σ H s)(k:∀b u,s.heap.get? b=some u→h'.get? b=some u):Inv X pins σ H { s with heap:=h',toks:=t' }:=I.un (Un.kept k) (I.hok.kept k)
theorem Inv.laid{a:Addr}{o:HO}{t':Nat}(I:Inv X pins σ H s)(k:∀b u,s.heap.get? b=some u→h'.get? b=some u)(hp:s.heap.objs.size≤a)(new:ObjOk X.prog X.w (upd H a o) h' a o) :
  Inv X pins σ (upd H a o) { s with heap:=h',toks:=t' }:=I.un (Un.laid k hp (I.hok.fresh hp)) (I.hok.laid k hp new)
theorem Inv.write{x e:Addr}{o:HO}{t':Nat}(I:Inv X pins σ H s)(mu:Mut (H x))(he:e=x∨H e=some (.own x))(k:∀b u,b≠e→s.heap.get? b=some u→h'.get? b=some u)(heo:∃u,h'.get? e=some u)
  (new:ObjOk X.prog X.w (upd H x o) h' x o):Inv X pins σ (upd H x o) { s with heap:=h',toks:=t' }:=I.un (Un.write mu he k heo) (I.hok.write mu he k heo new)
theorem Inv.pins_of{pins':List (Addr×Obj)}(I:Inv X pins σ H s)(h:∀p∈pins',s.heap.get? p.1=some p.2∧H p.1=none∧p.1≠X.env.locals∧p.1∉X.fs∧∀v,p.2.data≠.cell v):Inv X pins' σ H s:=
 ⟨I.ok,I.os,I.bare,I.base,I.loc,I.cell,I.free,I.freeC,fun p hp=>(mem_append.mp hp).elim (fun z=>I.pin p (mem_append_left _ z)) (h p),I.hok,I.len⟩
theorem WW{N:List Str}(hN:N.Nodup){i j:Nat}{x:Str}(a:N[i]?=some x)(b:N[j]?=some x):i=j:=by
 obtain⟨h1,e1⟩:=List.getElem?_eq_some_iff.mp a
 obtain⟨h2,e2⟩:=List.getElem?_eq_some_iff.mp b
 exact(List.getElem_inj hN).mp (e1.trans e2.symm)
theorem Xd{M:Model}{A:Around}{E:Value→Shared→Prop}{i:Nat}{x:Str}{v:V}{u:Value}{Q:Unit→Shared→Prop}(I:Inv X pins σ H s)(hN:X.N.Nodup)(hi:X.N[i]?=some x)(hx:Loc X.env.scope x)(r:RelV v u)
  (h:∀s',Inv X pins (σ.set i (some v)) H s'→(∃a,Heap.SameBut a s.heap s'.heap∧(a=X.env.locals∨X.env.cells.lookup x=some a))→Q () s') (hf:X.fn x=true∨X.env.scope.names.lookup x=some .local:=by first|exact .inl rfl|exact .inr rfl|assumption):wpAny M A (storeName X.env x u) Q E s:=by
 obtain⟨m,hn,hl⟩:=id I.loc
 have hcls:(X.env.scope.kind == .class||(X.env.scope.kind == .module&&X.env.locals != X.env.globals))=false:=by rw[I.ok.kind];rfl
 have hiσ:i<σ.length:=by rw[I.len];exact(List.getElem?_eq_some_iff.mp hi).1
 have cne:=I.cne
 have tracked:∀{a:Addr} {h':Heap},(∃o,s.heap.get? a=some o∧H a=none)→Heap.SameBut a s.heap h'→HOk X.prog X.w H h':=fun {a h'} ha hs b ob e=>by
  obtain⟨_,_,hfree⟩:=ha
  refine(I.hok b ob e).stay (fun c w' hc q=>(hs.2 c ?_).trans q) (fun _ q=>q) fun _ _ q=>q
  rintro rfl
  rcases hc with rfl|hc
  ·rw[hfree] at e;cases e
  ·rw[hfree] at hc;cases hc
 rcases hx with hk|hk
 ·refine wpAny_storeName_local hk hn (fun h' hn' hs=>?_) hcls
  obtain⟨oL,_,_,hoL,_⟩:=id hn
  refine h _ ⟨I.ok,I.os,I.bare,⟨fun b o e n hb hx=>?_,fun b o e n hb hx=>?_,I.base.free,fun b o e hx=>?_,I.base.tups,I.base.frzs,I.base.tbls⟩,⟨_,hn',fun j y v' e1 e2 e3=>?_⟩,fun y c e=>?_,I.free,I.freeC,fun p hp=>?_,tracked ⟨oL,hoL,I.free⟩ hs,by simpa using I.len⟩ ⟨_,hs,.inl rfl⟩
  ·exact(hs.2 b (ne_of_lt (lt_of_lt_of_le (Heap.lt_size e) I.ok.above))).trans (I.base.keep b o e n hb hx)
  ·obtain⟨sl,e1⟩:=I.base.slot b o e n hb hx
   exact⟨sl,(hs.2 b (ne_of_lt (lt_of_lt_of_le (Heap.lt_size e) I.ok.above))).trans e1⟩
  ·obtain⟨o',e1⟩:=I.base.there b o e hx
   exact⟨o',(hs.2 b (ne_of_lt (lt_of_lt_of_le (Heap.lt_size e) I.ok.above))).trans e1⟩
  ·by_cases hj:j=i
   ·subst hj
    rw[hi] at e1;cases e1
    rw[getElem?_set_self hiσ] at e2
    cases e2
    exact⟨u,r,.inl ⟨hk,by simp⟩⟩
   ·rw[getElem?_set_ne (Ne.symm hj)] at e2
    obtain⟨u',r',q⟩:=hl j y v' e1 e2 e3
    refine⟨u',r',?_⟩
    rcases q with ⟨k,e⟩|⟨k,c,e,z⟩
    ·refine .inl ⟨k,?_⟩
     have:y≠x:=fun e=>hj (WW hN e1 (e ▸ hi))
     simp[this,e]
    ·exact .inr ⟨k,c,e,z.sameBut hs (cne y c e)⟩
  ·obtain⟨w',z⟩:=I.cell y c e
   exact⟨w',z.sameBut hs (cne y c e)⟩
  ·obtain⟨e,n,ne,nf,d⟩:=I.pin p hp
   exact⟨(hs.2 p.1 ne).trans e,n,ne,nf,d⟩
 ·have hfn:X.fn x=true:=by
   rcases hf with z|z
   ·exact z
   ·rw[z] at hk;cases hk
  obtain⟨c,hc⟩:=I.ok.has x (.inl hk)
  obtain⟨w',z⟩:=I.cell x c hc
  refine wpAny_storeName_cell I.ok.kind hk hc z (fun h' hc' hs=>?_)
  obtain⟨oc,hoc,hocd⟩:=id z
  refine h { s with heap:=h' } ⟨I.ok,I.os,I.bare,⟨fun b o e n hb hx=>?_,fun b o e n hb hx=>?_,I.base.free,fun b o e hx=>?_,I.base.tups,I.base.frzs,I.base.tbls⟩,⟨m,hn.sameBut hs (Ne.symm (cne x c hc)),fun j y v' e1 e2 e3=>?_⟩,fun y c' e=>?_,I.free,I.freeC,fun p hp=>?_,tracked ⟨oc,hoc,I.freeC x c hc⟩ hs,by simpa using I.len⟩ ⟨c,hs,.inr hc⟩
  ·exact(hs.2 b (ne_of_lt (lt_of_lt_of_le (Heap.lt_size e) (I.ok.cab x c hfn hc)))).trans (I.base.keep b o e n hb hx)
  ·obtain⟨sl,e1⟩:=I.base.slot b o e n hb hx
   exact⟨sl,(hs.2 b (ne_of_lt (lt_of_lt_of_le (Heap.lt_size e) (I.ok.cab x c hfn hc)))).trans e1⟩
  ·obtain⟨o',e1⟩:=I.base.there b o e hx
   exact⟨o',(hs.2 b (ne_of_lt (lt_of_lt_of_le (Heap.lt_size e) (I.ok.cab x c hfn hc)))).trans e1⟩
  ·by_cases hj:j=i
   ·subst hj
    rw[hi] at e1;cases e1
    rw[getElem?_set_self hiσ] at e2
    cases e2
    exact⟨u,r,.inr ⟨.inl hk,c,hc,hc'⟩⟩
   ·rw[getElem?_set_ne (Ne.symm hj)] at e2
    obtain⟨u',r',q⟩:=hl j y v' e1 e2 e3
    refine⟨u',r',?_⟩
    rcases q with q|⟨k,c',e,z'⟩
    ·exact .inl q
    ·refine .inr ⟨k,c',e,z'.sameBut hs ?_⟩
     rintro rfl
     exact hj (WW hN e1 (I.ok.inj _ _ _ e hc ▸ hi))
  ·by_cases hcc:c'=c
   ·subst hcc;exact⟨_,hc'⟩
   ·obtain⟨w2,z2⟩:=I.cell y c' e
    exact⟨w2,z2.sameBut hs hcc⟩
  ·obtain⟨e,n,ne,nf,d⟩:=I.pin p hp
   refine⟨(hs.2 p.1 ?_).trans e,n,ne,nf,d⟩
   intro q
   rw[q,hoc] at e
   have q':oc=p.2:=Option.some.inj e
   exact d w' (by rw[← q'];exact hocd)
theorem WA{M:Model}{A:Around}{E:Value→Shared→Prop}{i:Nat}{x:Str}{v:V}{u:Value}{Q:Unit→Shared→Prop}(I:Inv X pins σ H s)(hN:X.N.Nodup)(hi:X.N[i]?=some x)(hx:Loc X.env.scope x)(r:RelV v u)
  (h:∀s',Inv X pins (σ.set i (some v)) H s'→Q () s') (hf:X.fn x=true∨X.env.scope.names.lookup x=some .local:=by first|exact .inl rfl|exact .inr rfl|assumption):wpAny M A (storeName X.env x u) Q E s:=
 Xd I hN hi hx r (fun s' I' _=>h s' I') hf
theorem Inv.call'{s':Shared}{ch:List Addr}(I:Inv X pins σ H s)(ho:s'.os=s.os)(u:Un (frs X.stack) ch H H' s.heap s'.heap)(hok:HOk X.prog X.w H' s'.heap)(hg:AllBare s'.gens)
  (hch:∀b∈ch,(b∈X.ex∨X.s₀.heap.objs.size≤b)∧b≠X.env.locals∧(∀x c,X.env.cells.lookup x=some c→c≠b)∧∀p∈X.pn++pins,p.1≠b):Inv X pins σ H' s':=by
 obtain⟨h',g',d',t',o'⟩:=s'
 have e:o'=s.os:=ho
 subst e
 exact I.call (g':=g') (t':=t') (d':=d') u hok hg hch
end
abbrev XK:=Value→Option Addr→Hp→Prop
abbrev St:=List (Option V)
abbrev VK:=V→Hp→Prop
abbrev TE:=St→Hp→VK→Prop
abbrev TT:=St→Hp→(Bool→Hp→Prop)→Prop
abbrev TA:=St→Hp→(List V→Hp→Prop)→Prop
structure VD where
 nx:St→Hp→Prop
 rt:VK
 bk:St→Hp→Prop:=fun _ _=>False
 ct:St→Hp→Prop:=fun _ _=>False
abbrev TS:=VD→St→Hp→Prop
def EP(X:Cx)(pins:List (Addr×Obj))(σ:St)(Q:VK)(u:Value)(s':Shared):Prop:=∃v H',Inv X pins σ H' s'∧RelV v u∧Q v H'
def TP(X:Cx)(pins:List (Addr×Obj))(σ:St)(Q:Bool→Hp→Prop)(b:Bool)(s':Shared):Prop:=∃H',Inv X pins σ H' s'∧Q b H'
def AP(X:Cx)(pins:List (Addr×Obj))(σ:St)(Q:List V→Hp→Prop)(us:List Value)(s':Shared):Prop:=∃vs H',Inv X pins σ H' s'∧Vals vs us∧Q vs H'
def SP(X:Cx)(pins:List (Addr×Obj))(D:VD)(f:Flow)(s':Shared):Prop:=
 match f with
 |.next=>∃σ' H',Inv X pins σ' H' s'∧D.nx σ' H'
 |.brk=>∃σ' H',Inv X pins σ' H' s'∧D.bk σ' H'
 |.cont=>∃σ' H',Inv X pins σ' H' s'∧D.ct σ' H'
 |.ret u=>∃v σ' H',Inv X pins σ' H' s'∧RelV v u∧D.rt v H'
def PE(X:Cx)(e:Expr)(t:TE):Prop:=
 ∀(pins:List (Addr×Obj)) (s:Shared) (σ:St) (H:Hp) (Q:VK),Inv X pins σ H s→t σ H Q→wpAny (model X.prog X.w) X.A (eval e X.env) (EP X pins σ Q) X.xe s
def PT(X:Cx)(e:Expr)(t:TT):Prop:=
 ∀(pins:List (Addr×Obj)) (s:Shared) (σ:St) (H:Hp) (Q:Bool→Hp→Prop),Inv X pins σ H s→t σ H Q→wpAny (model X.prog X.w) X.A (isTrue e X.env (eval e X.env)) (TP X pins σ Q) X.xe s
def PW(X:Cx)(e:Expr)(t:TT):Prop:=
 ∀(whole:Sem Value) (pins:List (Addr×Obj)) (s:Shared) (σ:St) (H:Hp) (Q:Bool→Hp→Prop),Inv X pins σ H s→t σ H Q→wpAny (model X.prog X.w) X.A (isTrue e X.env whole) (TP X pins σ Q) X.xe s
theorem PW.pt{X:Cx}{e:Expr}{t:TT}(h:PW X e t):PT X e t:=h _
def PA(X:Cx)(es:List Expr)(t:TA):Prop:=
 ∀(pos:Pos) (pins:List (Addr×Obj)) (s:Shared) (σ:St) (H:Hp) (Q:List V→Hp→Prop),Inv X pins σ H s→t σ H Q→wpAny (model X.prog X.w) X.A (spliced (backTo pos (starEach es X.env))) (AP X pins σ Q) X.xe s
def PS(X:Cx)(st:Stmt)(t:TS):Prop:=
 ∀(pins:List (Addr×Obj)) (s:Shared) (σ:St) (H:Hp) (D:VD),Inv X pins σ H s→t D σ H→wpAny (model X.prog X.w) X.A (exec st X.env) (SP X pins D) X.xe s
def PSs(X:Cx)(st:List Stmt)(t:TS):Prop:=
 ∀(pins:List (Addr×Obj)) (s:Shared) (σ:St) (H:Hp) (D:VD),Inv X pins σ H s→t D σ H→wpAny (model X.prog X.w) X.A (execs st X.env) (SP X pins D) X.xe s
theorem thn{α:Type}{t:Sem α}{Q Q':α→Shared→Prop}{M:Model}{A:Around}{E:Value→Shared→Prop}{s:Shared}(h:wpAny M A t Q E s)(hQ:∀a s,Q a s→Q' a s):wpAny M A t Q' E s:=wpAny_mono h hQ fun _ _ x=>x
section
variable{X:Cx}
def vH(i:Nat):TE:=fun σ H Q=>∃v,σ[i]?=some (some v)∧Q v H
def tC(v:V):TE:=fun _ H Q=>Q v H
theorem LS{i:Nat}{x:Str}{pos:Pos}(hN:X.N[i]?=some x)(hv:Vis X.env.scope x)(hd:(x==("__debug__" : Str))=false:=by decide)(hcd:(x==("__classdict__" : Str))=false:=by decide):PE X (.Name x pos) (vH i):=by
 intro pins s σ H Q I h
 obtain⟨v,e,h⟩:=h
 obtain⟨m,hn,hl⟩:=I.loc
 obtain⟨u,r,l⟩:=hl i x v hN e hv
 have fin:EP X pins σ Q u s:=⟨v,H,I,r,h⟩
 rcases l with ⟨hk,hm⟩|⟨hk,c,hc,hcell⟩
 ·exact wpAny_Name (wpAny_loadName_local I.ok.kind hk hn hm fin) hd
 ·rcases hk with hk|hk
  ·exact wpAny_Name (wpAny_loadName_cell I.ok.kind hk hc hcell fin) hd
  ·exact wpAny_Name (wpAny_loadName_free I.ok.kind hk hc hcell fin hcd) hd
theorem LW{i j pos}:PE X (.Constant (.int i) j pos) (tC (.int i)):=fun _ _ _ H _ I h=>wpAny_Constant_int ⟨.int i,H,I.tok _,⟨_,rfl⟩,h⟩
theorem Le{b j pos}:PE X (.Constant (.bool b) j pos) (tC (.bl b)):=fun _ _ _ H _ I h=>Constant_bool ⟨.bl b,H,I,rfl,h⟩
theorem LV{j pos}:PE X (.Constant .none j pos) (tC .non):=fun _ _ _ H _ I h=>Constant_none ⟨.non,H,I,rfl,h⟩
theorem LT{x j pos}:PE X (.Constant (.str x) j pos) (tC (.str x)):=fun _ _ _ H _ I h=>Calls.Constant_str ⟨.str x,H,I.tok _,⟨_,rfl⟩,h⟩
def Gl(X:Cx)(x:Str):Prop:=X.env.kindOf x=some .globalImplicit
theorem UY{E:Value→Shared→Prop}{pins:List (Addr×Obj)}{s:Shared}{σ:St}{H:Hp}{x:Str}{u:Value}{pos:Pos}{Q:Value→Shared→Prop}(I:Inv X pins σ H s)(hg:Gl X x)(hm:X.mg x=some u)(h:Q u s)
  (hd:(x==("__debug__" : Str))=false:=by decide):wpAny (model X.prog X.w) X.A (eval (.Name x pos) X.env) Q E s:=
 Calls.Name_function_global I.ok.kind hg (Calls.loadGlobal_global (by rw[I.ok.glob];exact I.mod.glob.keeps I.bk) hm h) hd
theorem vt{E:Value→Shared→Prop}{pins:List (Addr×Obj)}{s:Shared}{σ:St}{H:Hp}{x:Str}{u:Value}{pos:Pos}{Q:Value→Shared→Prop}(I:Inv X pins σ H s)(hg:Gl X x)(hm:X.mg x=none)(hv:bootBuiltins x=some u)(h:Q u s)
  (hn:x ≠ "__name__" := by decide) (hd:(x==("__debug__" : Str))=false:=by decide):wpAny (model X.prog X.w) X.A (eval (.Name x pos) X.env) Q E s:=by
 obtain⟨mb,h1,h2⟩:=I.mod.blt
 exact Calls.Name_function_global I.ok.kind hg (Calls.loadGlobal_builtin (by rw[I.ok.glob];exact I.mod.glob.keeps I.bk) hm (by rw[I.ok.blt];exact h1.keeps I.bk) ((h2 x hn).trans hv) h) hd
theorem MV{x:Str}{v:V}{u:Value}{pos:Pos}(hg:Gl X x)(hm:X.mg x=some u)(r:RelV v u)(hd:(x==("__debug__" : Str))=false:=by decide):PE X (.Name x pos) (tC v):=
 fun _ _ _ H _ I h=>UY I hg hm ⟨v,H,I,r,h⟩ hd
variable{a b:Expr}{ta tb:TE}{pos:Pos}
def PC(X:Cx)(op:CmpOp)(a b:Expr)(t:TE):Prop:=
 ∀(pins:List (Addr×Obj)) (s:Shared) (σ:St) (H:Hp) (Q:VK),Inv X pins σ H s→t σ H Q →
  wpAny (model X.prog X.w) X.A (eval a X.env) (fun v s₁=>wpAny (model X.prog X.w) X.A (eval b X.env) (fun u s₂=>wpAny (model X.prog X.w) X.A (compareOp op v u) (EP X pins σ Q) X.xe s₂) X.xe s₁) X.xe s
theorem Ge(b:Expr){op:CmpOp}(h:op≠.In)(h2:op≠.NotIn):behindInMarks op b=false:=by
 have e1:(op==CmpOp.In)=false:=by cases op <;> first|rfl|exact absurd rfl h
 have e2:(op==CmpOp.NotIn)=false:=by cases op <;> first|rfl|exact absurd rfl h2
 cases b <;> simp[behindInMarks,e1,e2]
def tB(t:TE):TT:=fun σ H Q=>t σ H fun x H1=>∃c,x=.bl c∧Q c H1
theorem LL{op:CmpOp}{t:TE}(h:PC X op a b t)(h1:behindInMarks op b=false:=by first|exact Ge _ (by decide) (by decide) | rfl):PT X (.Compare a [op] [b] pos) (tB t):=by
 intro pins s σ H Q I hw
 refine wpAny_isTrue_Compare1 (thn (h pins s σ H _ I hw) fun v s1 h1=>thn h1 fun u s2 h2=>thn h2 fun c s3 ⟨x,H1,I1,r1,q1⟩=>?_) h1
 obtain⟨d,rfl,q⟩:=q1
 cases r1
 exact wpAny_truthy_bool ⟨H1,I1,q⟩
variable{tA tB':TT}{rest:List Expr}
def tAnd(t u:TT):TT:=fun σ H Q=>t σ H fun c H1=>if c=true then u σ H1 Q else Q false H1
def tOr(t u:TT):TT:=fun σ H Q=>t σ H fun c H1=>if c=true then Q true H1 else u σ H1 Q
def tNot(t:TT):TT:=fun σ H Q=>t σ H fun c H1=>Q (!c) H1
theorem MJ(ha:PT X a tA):PW X (.BoolOp .And [a] pos) tA:=by
 intro wh pins s σ H Q I h
 refine isTrue_and (thn (ha pins s σ H Q I h) fun c s1 e=>?_)
 cases c with
 |true=>exact isTrue_and_nil e
 |false=>exact e
theorem LH(ha:PT X a tA):PW X (.BoolOp .Or [a] pos) tA:=by
 intro wh pins s σ H Q I h
 refine isTrue_or (thn (ha pins s σ H Q I h) fun c s1 e=>?_)
 cases c with
 |false=>exact isTrue_or_nil e
 |true=>exact e
theorem LJ(ha:PT X a tA)(hb:PW X (.BoolOp .And (b::rest) pos) tB'):PW X (.BoolOp .And (a::b::rest) pos) (tAnd tA tB'):=by
 intro wh pins s σ H Q I h
 refine isTrue_and (thn (ha pins s σ H _ I h) fun c s1 ⟨H1,I1,q1⟩=>?_)
 cases c with
 |true=>exact hb wh pins s1 σ H1 Q I1 q1
 |false=>exact⟨H1,I1,q1⟩
theorem pw_or(ha:PT X a tA)(hb:PW X (.BoolOp .Or (b::rest) pos) tB'):PW X (.BoolOp .Or (a::b::rest) pos) (tOr tA tB'):=by
 intro wh pins s σ H Q I h
 refine isTrue_or (thn (ha pins s σ H _ I h) fun c s1 ⟨H1,I1,q1⟩=>?_)
 cases c with
 |true=>exact⟨H1,I1,q1⟩
 |false=>exact hb wh pins s1 σ H1 Q I1 q1
theorem LK(ha:PT X a tA):PT X (.UnaryOp .Not a pos) (tNot tA):=by
 intro pins s σ H Q I h
 exact isTrue_not (ha pins s σ H (fun c H1=>Q (!c) H1) I h)
theorem LU{op}{t:TE}(h:PE X a t):PE X (.BoolOp op [a] pos) t:=fun pins s σ H Q I hw=>BoolOp_one (h pins s σ H Q I hw)
def tIf(t:TT)(ta tb:TE):TE:=fun σ H Q=>t σ H fun c H1=>if c=true then ta σ H1 Q else tb σ H1 Q
theorem QZ{c:Expr}(hc:PT X c tA)(ha:PE X a ta)(hb:PE X b tb):PE X (.IfExp c a b pos) (tIf tA ta tb):=by
 intro pins s σ H Q I h
 refine wpAny_IfExp (thn (hc pins s σ H _ I h) fun d s1 ⟨H1,I1,q1⟩=>?_)
 cases d with
 |true=>exact ha pins s1 σ H1 Q I1 q1
 |false=>exact hb pins s1 σ H1 Q I1 q1
end
def SqL(K:PySem.W.Frag)(H:Hp)(a:Addr)(xs:List V):Prop:=
 Rd H a (.lst xs) ∨
  ∃(o:Obj) (its:Array Value) (n:Nat),K.lookup a=some o∧o.cls=.type "list" ∧ o.dict=none∧o.data=.seq its n∧its.size≤sizeLine∧Vals xs its.toList
def SqT(K:PySem.W.Frag)(H:Hp)(a:Addr)(xs:List V):Prop:=
 Rd H a (.tup xs) ∨
  ∃(o:Obj) (its:Array Value) (n:Nat),K.lookup a=some o∧o.cls=.type "tuple" ∧ o.data=.seq its n∧its.size≤sizeLine∧Vals xs its.toList
def absV:Value→Option V
 |.none=>some .non
 |.bool b=>some (.bl b)
 |.int i _=>some (.int i)
 |.str x _=>some (.str x)
 |.bytes b _=>some (.byt b)
 |.float b _=>some (.flt b)
 |.ref a=>some (.ref a)
 |.type n=>some (.ty n)
 |_=>none
theorem RelV.abs{x:V}{u:Value}(r:RelV x u):absV u=some x:=by
 cases x with
 |non=>cases r;rfl
 |bl _=>cases r;rfl
 |int _=>obtain⟨t,rfl⟩:=r;rfl
 |str _=>obtain⟨t,rfl⟩:=r;rfl
 |byt _=>obtain⟨t,rfl⟩:=r;rfl
 |flt _=>obtain⟨t,rfl⟩:=r;rfl
 |ref _=>cases r;rfl
 |ty _=>cases r;rfl
theorem RelV.inj{x y:V}{u:Value}(r:RelV x u)(q:RelV y u):x=y:=Option.some.inj (r.abs.symm.trans q.abs)
theorem Vals.inj:∀{xs ys:List V} {us:List Value},Vals xs us→Vals ys us→xs=ys
 |_,_,_,.nil,.nil=>rfl
 |_,_,_,.cons r t,.cons r' t'=>by rw[r.inj r',Vals.inj t t']
section
variable{X:Cx}{pins:List (Addr×Obj)}{σ:St}{H:Hp}{s:Shared}{a:Addr}{xs ys:List V}
theorem SqL.of{K:PySem.W.Frag}(h:H a=some (.lst xs)):SqL K H a xs:=.inl (.inl h)
theorem SqT.of{K:PySem.W.Frag}(h:H a=some (.tup xs)):SqT K H a xs:=.inl (.inl h)
theorem Inv.list(I:Inv X pins σ H s)(h:SqL X.K H a xs):∃its:List Value,Vals xs its∧PlainL s.heap a its.toArray∧xs.length≤sizeLine:=by
 rcases h with h|⟨o,its,n,hk,hc,hd,hs,hz,r⟩
 ·obtain⟨z,its,n,r,e⟩:=h.ok I.hok
  exact⟨its,r,⟨_,n,e,rfl,rfl,rfl⟩,z⟩
 ·refine⟨its.toList,r,⟨o,n,I.kIn a o hk,hc,hd,by simpa using hs⟩,?_⟩
  have e:=r.length
  simp only[length_toList] at e
  omega
theorem Inv.tuple(I:Inv X pins σ H s)(h:SqT X.K H a xs):∃its:List Value,Vals xs its∧IsTup s.heap a its.toArray∧xs.length≤sizeLine:=by
 rcases h with h|⟨o,its,n,hk,hc,hs,hz,r⟩
 ·obtain⟨z,its,r,p⟩:=h.ok I.hok
  exact⟨its,r,p,z⟩
 ·refine⟨its.toList,r,⟨o,I.kIn a o hk,hc,n,by simpa using hs⟩,?_⟩
  have e:=r.length
  simp only[length_toList] at e
  omega
theorem Inv.list_inj(I:Inv X pins σ H s)(h:SqL X.K H a xs)(h':SqL X.K H a ys):xs=ys:=by
 obtain⟨its,r,⟨o,n,e,_,_,d⟩,_⟩:=I.list h
 obtain⟨its',r',⟨o',n',e',_,_,d'⟩,_⟩:=I.list h'
 rw[e] at e';cases e'
 rw[d] at d'
 injection d' with d1 _
 have:its=its':=by simpa using congrArg Array.toList d1
 subst this
 exact r.inj r'
theorem Inv.tuple_inj(I:Inv X pins σ H s)(h:SqT X.K H a xs)(h':SqT X.K H a ys):xs=ys:=by
 obtain⟨its,r,⟨o,e,_,n,d⟩,_⟩:=I.tuple h
 obtain⟨its',r',⟨o',e',_,n',d'⟩,_⟩:=I.tuple h'
 rw[e] at e';cases e'
 rw[d] at d'
 injection d' with d1 _
 have:its=its':=by simpa using congrArg Array.toList d1
 subst this
 exact r.inj r'
end
abbrev Cx.wish(X:Cx)(E:Value→Shared→Prop):Cx:={ X with xe:=E }
abbrev Cx.nox(X:Cx):Cx:=X.wish fun _ _=>False
theorem Cx.Ok.wish{X:Cx}(ok:X.Ok)(E:Value→Shared→Prop):(X.wish E).Ok:=
 ⟨ok.mod,ok.kind,ok.glob,ok.blt,ok.above,ok.inj,ok.has,ok.cab,ok.hd,ok.frames,ok.stk,ok.exf,ok.bs,ok.bsz,ok.noex,ok.exfs,ok.funs,ok.frf⟩
theorem Cx.Ok.unwish{X:Cx}{E:Value→Shared→Prop}(ok:(X.wish E).Ok):X.Ok:=
 ⟨ok.mod,ok.kind,ok.glob,ok.blt,ok.above,ok.inj,ok.has,ok.cab,ok.hd,ok.frames,ok.stk,ok.exf,ok.bs,ok.bsz,ok.noex,ok.exfs,ok.funs,ok.frf⟩
section
variable{X:Cx}{pins:List (Addr×Obj)}{σ:St}{H:Hp}{s:Shared}{E:Value→Shared→Prop}
theorem Inv.wish(I:Inv X pins σ H s)(E:Value→Shared→Prop):Inv (X.wish E) pins σ H s:=⟨I.ok.wish E,I.os,I.bare,I.base,I.loc,I.cell,I.free,I.freeC,I.pin,I.hok,I.len⟩
theorem Inv.unwish(I:Inv (X.wish E) pins σ H s):Inv X pins σ H s:=⟨I.ok.unwish,I.os,I.bare,I.base,I.loc,I.cell,I.free,I.freeC,I.pin,I.hok,I.len⟩
theorem SP.unwish{D:VD}{f:Flow}{s':Shared}(h:SP (X.wish E) pins D f s'):SP X pins D f s':=by
 cases f with
 |next=>obtain⟨σ',H',I,q⟩:=h;exact⟨σ',H',I.unwish,q⟩
 |brk=>obtain⟨σ',H',I,q⟩:=h;exact⟨σ',H',I.unwish,q⟩
 |cont=>obtain⟨σ',H',I,q⟩:=h;exact⟨σ',H',I.unwish,q⟩
 |ret u=>obtain⟨v,σ',H',I,r,q⟩:=h;exact⟨v,σ',H',I.unwish,r,q⟩
theorem PSs.nox{st:List Stmt}{t:TS}(h:PSs X.nox st t):PSs X st t:=fun pins s σ H D I hw=>
 wpAny_mono (h pins s σ H D (I.wish _) hw) (fun _ _ q=>q.unwish) fun _ _ z=>False.elim z
end
section
variable{X:Cx}{st:Stmt}{rest:List Stmt}{t u:TS}{e:Expr}{te:TE}{pos:Pos}
def tNext:TS:=fun D σ H=>D.nx σ H
def tSeq(t u:TS):TS:=fun D σ H=>t { D with nx:=u D } σ H
theorem UG:PSs X [] tNext:=fun _ _ σ H _ I h=>wpAny_execs_nil ⟨σ,H,I,h⟩
theorem jm(h1:PS X st t)(h2:PSs X rest u):PSs X (st::rest) (tSeq t u):=by
 intro pins s σ H D I h
 refine wpAny_execs_cons (thn (h1 pins s σ H { D with nx:=u D } I h) fun f s1 q=>?_)
 cases f with
 |next=>
  obtain⟨σ',H',I',q⟩:=q
  exact h2 pins s1 σ' H' D I' q
 |ret v=>exact q
 |brk=>exact q
 |cont=>exact q
theorem ZP(h1:PS X st t):PSs X [st] t:=by
 intro pins s σ H D I h
 refine wpAny_execs_cons (thn (h1 pins s σ H D I h) fun f s1 q=>?_)
 cases f with
 |next=>exact wpAny_execs_nil q
 |ret v=>exact q
 |brk=>exact q
 |cont=>exact q
theorem Inv.quiet{pins:List (Addr×Obj)}{σ:St}{H:Hp}{s:Shared}(I:Inv X pins σ H s):interactive X.env=false:=by simp[interactive,I.ok.kind]
def tDrop(te:TE):TS:=fun D σ H=>te σ H fun _ H1=>D.nx σ H1
theorem XX(he:PE X e te)(hs:swapsWith e none pos.line X.env=pure false:=by rfl):PS X (.Expr e pos) (tDrop te):=by
 intro pins s σ H D I h
 exact wpAny_Expr_any (thn (he pins s σ H _ I h) fun v s1 ⟨x,H1,I1,r1,q1⟩=>⟨σ,H1,I1,q1⟩) I.quiet hs
def tRet(te:TE):TS:=fun D σ H=>te σ H D.rt
theorem VS(he:PE X e te):PS X (.Return (some e) pos) (tRet te):=by
 intro pins s σ H D I h
 exact wpAny_Return_some (thn (he pins s σ H _ I h) fun v s1 ⟨x,H1,I1,r1,q1⟩=>⟨x,σ,H1,I1,r1,q1⟩)
def tIfS(c:TT)(t u:TS):TS:=fun D σ H=>c σ H fun b H1=>if b=true then t D σ H1 else u D σ H1
theorem La{c:Expr}{a b:List Stmt}{tc:TT}(hc:PT X c tc)(ha:PSs X a t)(hb:PSs X b u):PS X (.If c a b pos) (tIfS tc t u):=by
 intro pins s σ H D I h
 refine wpAny_If (thn (hc pins s σ H _ I h) fun d s1 ⟨H1,I1,q1⟩=>?_)
 cases d with
 |true=>exact ha pins s1 σ H1 D I1 q1
 |false=>exact hb pins s1 σ H1 D I1 q1
def Lz:TS:=fun _ _ _=>False
theorem QT:PS X st Lz:=fun _ _ _ _ _ _ h=>h.elim
end
abbrev TG:=V→St→Hp→(St→Hp→Prop)→Prop
abbrev TGs:=List V→St→Hp→(St→Hp→Prop)→Prop
def PG(X:Cx)(target:Expr)(t:TG):Prop:=
 ∀(pins:List (Addr×Obj)) (s:Shared) (σ:St) (H:Hp) (v:V) (u:Value) (Q:St→Hp→Prop),Inv X pins σ H s→RelV v u→t v σ H Q →
  wpAny (model X.prog X.w) X.A (assign target X.env u) (fun _ s'=>∃σ' H',Inv X pins σ' H' s'∧Q σ' H') X.xe s
def PGs(X:Cx)(ts:List Expr)(t:TGs):Prop:=
 ∀(pins:List (Addr×Obj)) (s:Shared) (σ:St) (H:Hp) (vs:List V) (us:List Value) (Q:St→Hp→Prop),Inv X pins σ H s→Vals vs us→t vs σ H Q →
  wpAny (model X.prog X.w) X.A (assignInOrder ((assignEach ts X.env).map (·.2)) us) (fun _ s'=>∃σ' H',Inv X pins σ' H' s'∧Q σ' H') X.xe s
abbrev ze3:=V→V→V→Hp→(Hp→Prop)→Prop
def PSet(X:Cx)(t:ze3):Prop:=
 ∀(pins:List (Addr×Obj)) (s:Shared) (σ:St) (H:Hp) (o i v:V) (ov iv u:Value) (Q:Hp→Prop),Inv X pins σ H s→RelV o ov→RelV i iv→RelV v u→t o i v H Q →
  wpAny (model X.prog X.w) X.A (setItem ov iv u) (fun _ s'=>∃H',Inv X pins σ H' s'∧Q H') X.xe s
section
variable{X:Cx}{pos:Pos}
def jG(i:Nat):TG:=fun v σ H Q=>Q (σ.set i (some v)) H
theorem jn{i:Nat}{x:Str}(hN:X.N.Nodup)(hi:X.N[i]?=some x)(hx:Loc X.env.scope x)(hf:X.fn x=true∨X.env.scope.names.lookup x=some .local:=by first|exact .inl rfl|exact .inr rfl|assumption):PG X (.Name x pos) (jG i):=by
 intro pins s σ H v u Q I r h
 exact wpAny_assign_Name (WA I hN hi hx r (fun s' I'=>⟨_,H,I',h⟩) hf)
def gNil:TGs:=fun vs σ H Q=>vs=[]∧Q σ H
def gCons(t:TG)(u:TGs):TGs:=fun vs σ H Q=>∃v r,vs=v::r∧t v σ H fun σ' H'=>u r σ' H' Q
theorem MU:PGs X [] gNil:=by
 intro pins s σ H vs us Q I r h
 obtain⟨e,h⟩:=h
 subst e
 cases r
 exact assignInOrder_nil ⟨σ,H,I,h⟩
theorem WM{e:Expr}{es:List Expr}{t:TG}{u:TGs}(h1:PG X e t)(h2:PGs X es u)
  (hs:(assignEach (e::es) X.env).map (·.2)=assign e X.env::(assignEach es X.env).map (·.2):=by rfl):PGs X (e::es) (gCons t u):=by
 intro pins s σ H vs us Q I r h
 obtain⟨v,vr,e1,h⟩:=h
 subst e1
 cases r with
 |cons r rr=>
  rw[hs]
  refine assignInOrder_cons (thn (h1 pins s σ H _ _ _ I r h) fun _ s1 ⟨σ1,H1,I1,q1⟩=>?_)
  exact h2 pins s1 σ1 H1 _ _ Q I1 rr q1
def gTup(K:PySem.W.Frag)(n:Nat)(t:TGs):TG:=fun v σ H Q=>∃a xs,v=.ref a∧SqT K H a xs∧xs.length=n∧t xs σ H Q
theorem LQ{es:List Expr}{k:Nat}{t:TGs}{n:Nat}(hc:X.calm=true)(h:PGs X es t)
  (hn:(assignEach es X.env).length=n:=by rfl) (hst:(assignEach es X.env).findIdx? (·.1)=none:=by rfl):PG X (.Tuple es k pos) (gTup X.K n t):=by
 intro pins s σ H v u Q I r hw
 obtain⟨a,xs,e1,hq,hl,hw⟩:=hw
 subst e1
 cases r
 obtain⟨its,rv,ht,hz⟩:=I.tuple hq
 refine assign_Tuple_tuple (I.ok.hd hc) ht (by simp[hn,← hl,rv.length]) hst fun h' hx=>?_
 have I1:Inv X pins σ H { s with heap:=h' }:=I.kept (t':=s.toks) fun b o e=>hx b o (ne_of_lt (Heap.lt_size e)) e
 exact h pins _ σ H xs _ Q I1 (by simpa using rv) hw
def gSub(to ti:TE)(t:ze3):TG:=fun v σ H Q=>to σ H fun o H1=>ti σ H1 fun i H2=>t o i v H2 fun H3=>Q σ H3
theorem LR{o i:Expr}{to ti:TE}{t:ze3}(ho:PE X o to)(hi:PE X i ti)(hs:PSet X t)
  (ha:∀v,assign (.Subscript o i pos) X.env v=(do
   let ov ← holding [v] (eval o X.env)
   let iv ← holding [v,ov] (eval i X.env)
   standAt pos
   holding [v,ov,iv] (setItem ov iv v)
   release [v,ov,iv] []):=by intro _;rfl):PG X (.Subscript o i pos) (gSub to ti t):=by
 intro pins s σ H v u Q I r h
 rw[ha]
 refine wpAny_bind (wpAny_holding (thn (ho pins s σ H _ I h) fun ov s1 ⟨x,H1,I1,r1,q1⟩=>?_))
 refine wpAny_bind (wpAny_holding (thn (hi pins s1 σ H1 _ I1 q1) fun iv s2 ⟨y,H2,I2,r2,q2⟩=>?_))
 refine wpAny_bind (wpAny_standAt (wpAny_bind (wpAny_holding (thn (hs pins s2 σ H2 x y v ov iv u _ I2 r1 r2 r q2) fun _ s3 ⟨H3,I3,q3⟩=>?_))))
 exact wpAny_release ⟨σ,H3,I3,q3⟩
def LB(te:TE)(g:TG):TS:=fun D σ H=>te σ H fun x H1=>g x σ H1 D.nx
theorem LN{tg e:Expr}{te:TE}{g:TG}(he:PE X e te)(hg:PG X tg g)(hs:swapsWithSole [tg] e pos.line X.env=pure false:=by rfl)(hw:swappedStores [tg] e X.env=pure none:=by rfl)
  (h1:(assignEach [tg] X.env).map (·.2)=[assign tg X.env]:=by rfl):PS X (.Assign [tg] e pos) (LB te g):=by
 intro pins s σ H D I h
 refine wpAny_Assign_stores (thn (he pins s σ H _ I h) fun v s1 ⟨x,H1,I1,r1,q1⟩=>?_) hs hw
 rw[h1]
 exact thn (hg pins s1 σ H1 x v _ I1 r1 q1) fun _ s2 q=>q
theorem VR{i:Nat}{x:Str}{e:Expr}{te:TE}{pos':Pos}(hN:X.N.Nodup)(hi:X.N[i]?=some x)(hx:Loc X.env.scope x)(he:PE X e te)(hs:swapsWith e (some (.Name x pos')) pos.line X.env=pure false:=by rfl)(hf:X.fn x=true∨X.env.scope.names.lookup x=some .local:=by first|exact .inl rfl|exact .inr rfl|assumption) :
  PS X (.Assign [.Name x pos'] e pos) (LB te (jG i)):=by
 intro pins s σ H D I h
 refine wpAny_Assign_Name (thn (he pins s σ H _ I h) fun v s1 ⟨y,H1,I1,r1,q1⟩=>?_) hs
 exact WA I1 hN hi hx r1 (fun s2 I2=>⟨_,H1,I2,q1⟩) hf
end
section
variable{X:Cx}{pos:Pos}
end
structure It where
 go:Nat→Hp→Prop
 yld:Nat→Hp→V→Hp→Prop
 stop:Nat→Hp→Prop
def Y6(X:Cx)(pins:List (Addr×Obj))(H:Hp)(b:Addr):Prop:=
 H b=none∧b≠X.env.locals∧b∉X.fs∧(b∈X.ex∨X.s₀.heap.objs.size≤b)∧(∀x c,X.env.cells.lookup x=some c→c≠b)∧∀p∈X.pn++pins,p.1≠b
theorem Inv.fpOk{X:Cx}{pins:List (Addr×Obj)}{σ:St}{H H':Hp}{s:Shared}{b:Addr}(I:Inv X pins σ H s)(hb:s.heap.objs.size≤b)(hn:H' b=none):Y6 X pins H' b:=by
 refine⟨hn,ne_of_gt (lt_of_lt_of_le I.lt hb),I.nofs hb,.inr (le_trans I.sz hb),fun x c e z=>?_,fun p hp z=>?_⟩
 ·obtain⟨v,q⟩:=I.cell x c e
  exact absurd (lt_of_lt_of_le q.lt (by rw[z];exact hb)) (lt_irrefl _)
 ·exact absurd (lt_of_lt_of_le (Heap.lt_size (I.pin p hp).1) (by rw[z];exact hb)) (lt_irrefl _)
structure Ws(P:Program)(w:World)(K:PySem.W.Frag)(tg:Expr)(J:It)(fp:List Addr)(it:Addr)(tn:Nat→Heap→Prop):Prop where
 mem:it∈fp
 obj:∀i h,tn i h→∀b∈fp,∃o,h.get? b=some o∧∀v,o.data≠.cell v
 keep:∀i h h',tn i h→(∀b∈fp,∀o,h.get? b=some o→h'.get? b=some o)→tn i h'
 item:∀(X:Cx),X.prog=P→X.w=w→X.K=K→X.calm=true→∀(i:Nat) (pins:List (Addr×Obj)) (s:Shared) (σ:St) (H:Hp) (E:Value→Shared→Prop),Inv X pins σ H s→(∀b∈fp,Y6 X pins H b)→tn i s.heap→J.go i H →
  wpAny (model P w) X.A (pyNext (.ref it)) (fun r s1=>∃u,r=some u ∧
   wpAny (model P w) X.A (letOwnedTupleGo tg (.ref it) u) (fun _ s2=>∃x H',Inv X pins σ H' s2∧RelV x u∧J.yld i H x H'∧tn (i+1) s2.heap∧∀b∈fp,H' b=none) E s1) E s
 done:∀(X:Cx),X.prog=P→X.w=w→X.K=K→X.calm=true→∀(i:Nat) (pins:List (Addr×Obj)) (s:Shared) (σ:St) (H:Hp) (E:Value→Shared→Prop),Inv X pins σ H s→(∀b∈fp,Y6 X pins H b)→tn i s.heap→J.stop i H →
  wpAny (model P w) X.A (pyNext (.ref it)) (fun r s1=>r=none∧Inv X pins σ H s1) E s
 self:∀(A:Around) (i:Nat) (s:Shared) (Q:Value→Shared→Prop) (E:Value→Shared→Prop),tn i s.heap→Q (.ref it) s→wpAny (model P w) A (pyIter (.ref it)) Q E s
abbrev TI:=St→Hp→(It→Hp→Prop)→Prop
def PIE(X:Cx)(pins:List (Addr×Obj))(σ:St)(tg:Expr)(R:It→Hp→Prop)(itv:Value)(s2:Shared):Prop:=
 ∃(it:Addr) (fp:List Addr) (tn:Nat→Heap→Prop) (J:It) (H':Hp),itv=.ref it∧Inv X pins σ H' s2∧Ws X.prog X.w X.K tg J fp it tn∧tn 0 s2.heap∧(∀b∈fp,Y6 X pins H' b)∧R J H'
def PI(X:Cx)(tg iter:Expr)(wi:TI):Prop:=
 ∀(pins:List (Addr×Obj)) (s:Shared) (σ:St) (H:Hp) (R:It→Hp→Prop),Inv X pins σ H s→wi σ H R →
  wpAny (model X.prog X.w) X.A (eval iter X.env) (fun v s1=>wpAny (model X.prog X.w) X.A (pyIter v) (PIE X pins σ tg R) X.xe s1) X.xe s
theorem Vi{M:Model}{A:Around}{E:Value→Shared→Prop}{s:Shared}{tg:Expr}{it:Addr}{u:Value}{o:Obj}{n:String}{vs:Array Value}{Q:Unit→Shared→Prop}(ho:s.heap.get? it=some o)(hc:o.cls=.type n)(hd:o.data=.fields vs)
  (hn:["enumerate", "zip", "dict_itemiterator", "dict_reverseitemiterator", "odict_iterator", "itertools.zip_longest", "itertools.pairwise"].contains n=false) (hQ:Q () s):wpAny M A (letOwnedTupleGo tg (.ref it) u) Q E s:=by
 unfold letOwnedTupleGo
 cases tg <;> first
  | exact wpAny_pure hQ
  | (cases u <;> first
    | exact wpAny_pure hQ
    | (refine wpAny_bind (wpAny_load ho ?_)
       rw[hc,hd]
       show wpAny M A (if (["enumerate", "zip", "dict_itemiterator", "dict_reverseitemiterator", "odict_iterator", "itertools.zip_longest", "itertools.pairwise"].contains n&&vs[0]?==some (rawInt _))=true then _ else _) Q E s
       rw[if_neg (by intro h;rw[hn,Bool.false_and] at h;cases h)]
       exact wpAny_pure hQ))
def Itl(K:PySem.W.Frag)(a:Addr):It:=
 ⟨fun i H=>∃xs x,SqL K H a xs∧xs[i]?=some x,fun i H x H'=>H'=H∧∀xs,SqL K H a xs→xs[i]?=some x,fun i H=>∃xs,SqL K H a xs∧xs.length≤i⟩
def Itt(K:PySem.W.Frag)(a:Addr):It:=
 ⟨fun i H=>∃xs x,SqT K H a xs∧xs[i]?=some x,fun i H x H'=>H'=H∧∀xs,SqT K H a xs→xs[i]?=some x,fun i H=>∃xs,SqT K H a xs∧xs.length≤i⟩
def Itr(lo:Int)(n:Nat):It:=⟨fun i _=>i<n,fun i H x H'=>H'=H∧x=.int (lo+i),fun i _=>n≤i⟩
theorem Y8{P:Program}{w:World}{K:PySem.W.Frag}{tg:Expr}(a it:Addr):Ws P w K tg (Itl K a) [it] it (fun i h=>h.IsListIter it a i) where
 mem:=by simp
 obj:=fun i h st b hb=>by
  have e:b=it:=by simpa using hb
  subst e
  obtain⟨o,e,c,d⟩:=st
  exact⟨o,e,fun v z=>by rw[d] at z;cases z⟩
 keep:=fun i h h' st k=>st.at fun o e=>k it (by simp) o e
 item:=by
  intro X hP hw hK hc i pins s σ H E I hf st hg
  subst hP hw hK
  obtain⟨xs,x,hq,hx⟩:=hg
  obtain⟨its,rv,p,hz⟩:=I.list hq
  obtain⟨u,hu,ru⟩:=rv.get hx
  obtain⟨f0,f1,f2,f3,f4,f5⟩:=hf it (by simp)
  refine wpAny_pyNext_list_item st p.isList (x:=u) (by simpa using hu) fun h' st' sb=>?_
  have I1:Inv X pins σ H { s with heap:=h' }:=I.turned (t':=s.toks) (fun b o hb e=>(sb.2 b hb).trans e) f0 f1 f3 f4 f5
  obtain⟨o,e,c,d⟩:=id st'
  exact⟨u,rfl,Vi (s:={ s with heap:=h' }) e c d (by decide) ⟨x,H,I1,ru,⟨rfl,fun ys hy=>by rw[I.list_inj hy hq];exact hx⟩,st',fun b hb=>(hf b hb).1⟩⟩
 done:=by
  intro X hP hw hK hc i pins s σ H E I hf st hg
  subst hP hw hK
  obtain⟨xs,hq,hx⟩:=hg
  obtain⟨its,rv,p,hz⟩:=I.list hq
  obtain⟨f0,f1,f2,f3,f4,f5⟩:=hf it (by simp)
  have hl:=rv.length
  exact wpAny_pyNext_list_end (I.ok.hd hc) st p.isList (by simp;omega) fun h' eb=>⟨rfl,I.turned (t':=s.toks) (fun b o hb e=>eb b o hb e) f0 f1 f3 f4 f5⟩
 self:=fun _ _ _ _ _ st h=>wpAny_pyIter_listiter st h
theorem VE{P:Program}{w:World}{K:PySem.W.Frag}{tg:Expr}(a it:Addr):Ws P w K tg (Itt K a) [it] it (fun i h=>h.IsTupleIter it a i) where
 mem:=by simp
 obj:=fun i h st b hb=>by
  have e:b=it:=by simpa using hb
  subst e
  obtain⟨o,e,c,d⟩:=st
  exact⟨o,e,fun v z=>by rw[d] at z;cases z⟩
 keep:=fun i h h' st k=>st.at fun o e=>k it (by simp) o e
 item:=by
  intro X hP hw hK hc i pins s σ H E I hf st hg
  subst hP hw hK
  obtain⟨xs,x,hq,hx⟩:=hg
  obtain⟨its,rv,p,hz⟩:=I.tuple hq
  obtain⟨u,hu,ru⟩:=rv.get hx
  obtain⟨f0,f1,f2,f3,f4,f5⟩:=hf it (by simp)
  refine wpAny_pyNext_tuple_item st (show s.heap.IsTuple a its.toArray from p) (x:=u) (by simpa using hu) fun h' st' sb=>?_
  have I1:Inv X pins σ H { s with heap:=h' }:=I.turned (t':=s.toks) (fun b o hb e=>(sb.2 b hb).trans e) f0 f1 f3 f4 f5
  obtain⟨o,e,c,d⟩:=id st'
  exact⟨u,rfl,Vi (s:={ s with heap:=h' }) e c d (by decide) ⟨x,H,I1,ru,⟨rfl,fun ys hy=>by rw[I.tuple_inj hy hq];exact hx⟩,st',fun b hb=>(hf b hb).1⟩⟩
 done:=by
  intro X hP hw hK hc i pins s σ H E I hf st hg
  subst hP hw hK
  obtain⟨xs,hq,hx⟩:=hg
  obtain⟨its,rv,p,hz⟩:=I.tuple hq
  obtain⟨f0,f1,f2,f3,f4,f5⟩:=hf it (by simp)
  have hl:=rv.length
  exact wpAny_pyNext_tuple_end (I.ok.hd hc) st (show s.heap.IsTuple a its.toArray from p) (by simp;omega) fun h' eb=>⟨rfl,I.turned (t':=s.toks) (fun b o hb e=>eb b o hb e) f0 f1 f3 f4 f5⟩
 self:=fun _ _ _ _ _ st h=>wpAny_pyIter_tupleiter st h
theorem VF{P:Program}{w:World}{K:PySem.W.Frag}{tg:Expr}(it:Addr)(lo:Int)(n:Nat):Ws P w K tg (Itr lo n) [it] it (fun i h=>IsRangeIter h it (lo+(i:Nat)*1) ((n:Int)-(i:Nat)) 1) where
 mem:=by simp
 obj:=fun i h st b hb=>by
  have e:b=it:=by simpa using hb
  subst e
  exact⟨_,st,fun v z=>by
   have z':Data.fields _=Data.cell v:=z
   cases z'⟩
 keep:=fun i h h' st k=>k it (by simp) _ st
 item:=by
  intro X hP hw hK hc i pins s σ H E I hf st hg
  subst hP hw hK
  obtain⟨f0,f1,f2,f3,f4,f5⟩:=hf it (by simp)
  have W:=Walks.range (prog:=X.prog) (w:=X.w) (I.ok.hd hc) it lo 1 n
  refine W.item i s _ _ hg st fun v h' tk hv st' kk=>?_
  obtain⟨t,rfl⟩:=hv
  have I1:Inv X pins σ H { s with heap:=h',toks:=tk }:=I.turned (fun b o hb e=>kk b o (by simpa using hb) e) f0 f1 f3 f4 f5
  refine⟨_,rfl,Vi (s:={ s with heap:=h',toks:=tk }) (n := "range_iterator") st' rfl rfl (by decide) ⟨.int (lo+i),H,I1,⟨t,?_⟩,⟨rfl,rfl⟩,st',fun b hb=>(hf b hb).1⟩⟩
  rw[Int.mul_one]
 done:=by
  intro X hP hw hK hc i pins s σ H E I hf st hg
  subst hP hw hK
  obtain⟨f0,f1,f2,f3,f4,f5⟩:=hf it (by simp)
  exact wpAny_pyNext_range_end (I.ok.hd hc) st (by have:n≤i:=hg;omega) fun h' eb=>⟨rfl,I.turned (t':=s.toks) (fun b o hb e=>eb b o hb e) f0 f1 f3 f4 f5⟩
 self:=fun _ _ _ _ _ st h=>wpAny_pyIter_rangeiter st h
section
variable{X:Cx}{tg:Expr}
def Lj(K:PySem.W.Frag)(tl:TE):TI:=fun σ H R=>tl σ H fun x H1=>∃a,x=.ref a∧(∃xs,SqL K H1 a xs)∧R (Itl K a) H1
theorem MS{l:Expr}{tl:TE}(hl:PE X l tl):PI X tg l (Lj X.K tl):=by
 intro pins s σ H R I h
 refine thn (hl pins s σ H _ I h) fun v s1 ⟨x,H1,I1,r1,q1⟩=>?_
 obtain⟨a,e,⟨xs,hq⟩,q⟩:=q1
 subst e
 cases r1
 obtain⟨its,rv,p,hz⟩:=I1.list hq
 refine wpAny_pyIter_list p.isList ?_
 refine⟨s1.heap.objs.size,[s1.heap.objs.size],_,_,H1,rfl,I1.kept (t':=s1.toks) fun b o e=>Heap.get?_push_of_some _ e,Y8 a _,⟨_,Heap.get?_push_size _ rfl,rfl,rfl⟩,fun b hb=>?_,q⟩
 have e:b=s1.heap.objs.size:=by simpa using hb
 subst e
 exact I1.fpOk (le_refl _) (I1.hok.fresh (le_refl _))
theorem QL{pins:List (Addr×Obj)}{σ:St}{H:Hp}{s:Shared}{R:It→Hp→Prop}{E:Value→Shared→Prop}{lo hi:Int}{t u v:Tok}{tk:Nat}(I:Inv X pins σ H s)(h1 : -(2 ^ 62)≤lo)(h2:lo<2 ^ 62)(h3 : -(2 ^ 62)≤hi)(h4:hi<2 ^ 62)
  (q:R (Itr lo (hi-lo).toNat) H):wpAny (model X.prog X.w) X.A (pyIter (.ref s.heap.objs.size)) (PIE X pins σ tg R) E { s with heap:=s.heap.push { cls:=.type "range", data:=.fields #[.int lo t,.int hi u,.int 1 v] },toks:=tk }:=by
 refine wpAny_pyIter_range (IsRange.new ..) (small_one h1 h2 h3 h4) ?_
 have I1:Inv X pins σ H { s with heap:=s.heap.push { cls:=.type "range", data:=.fields #[.int lo t,.int hi u,.int 1 v] },toks:=tk }:=I.kept fun b o e=>Heap.get?_push_of_some _ e
 refine⟨(s.heap.push { cls:=.type "range", data:=.fields #[.int lo t,.int hi u,.int 1 v] }).objs.size,[(s.heap.push { cls:=.type "range", data:=.fields #[.int lo t,.int hi u,.int 1 v] }).objs.size],_,_,H,rfl,
  I1.kept (t':=tk) fun b o e=>Heap.get?_push_of_some _ e,VF _ lo (hi-lo).toNat,?_,fun b hb=>?_,q⟩
 ·have e1:lo+((0:Nat):Int)*1=lo:=by simp
  have e2:(((hi-lo).toNat:Nat):Int)-((0:Nat):Int)=Builtin.Range.rangeSize lo hi 1:=by rw[rangeSize_one];split <;> omega
  show IsRangeIter _ _ (lo+((0:Nat):Int)*1) ((((hi-lo).toNat:Nat):Int)-((0:Nat):Int)) 1
  rw[e1,e2]
  exact Heap.get?_push_size _ rfl
 ·have e:b=(s.heap.push { cls:=.type "range", data:=.fields #[.int lo t,.int hi u,.int 1 v] }).objs.size:=by simpa using hb
  subst e
  exact I1.fpOk (le_refl _) (I1.hok.fresh (le_refl _))
def iRng1(ta:TA):TI:=fun σ H R=>ta σ H fun vs H1=>∃j:Int,vs=[.int j]∧-(2 ^ 62)≤j∧j<2 ^ 62∧R (Itr 0 j.toNat) H1
theorem JA{a:Expr}{ta:TA}{p pos:Pos}(hg:Gl X "range")(hm:X.mg "range" = none)(ha:PA X [a] ta)(hs:starEach [a] X.env=[(false,eval a X.env)]:=by rfl):PI X tg (.Call (.Name "range" p) [a] [] pos) (iRng1 ta):=by
 intro pins s σ H R I h
 refine Call_ (vt I hg hm boot_range (PyProof.Rows.callWith_type1 (thn (ha pos pins s σ H _ I h) fun us s1 ⟨vs,H1,I1,r1,q1⟩=>?_) hs rfl))
 obtain⟨j,e,q1,q2,q⟩:=q1
 subst e
 cases r1 with
 |cons r rr=>
  cases rr
  obtain⟨t,rfl⟩:=r
  exact call_range_1 (QL I1 (by omega) (by omega) q1 q2 (by simpa using q))
def tFor(wi:TI)(g:TG)(tb:TS):TS:=fun D σ H=>wi σ H fun J H1=>∃W:Nat→Nat→St→Hp→Prop,(∃m,W 0 m σ H1)∧∀i m σ H,W i m σ H →
 (J.stop i H∧D.nx σ H)∨(J.go i H∧∃N:St→Hp→Prop,(∀σ' H',N σ' H'→∃m',m'<m∧W (i+1) m' σ' H')∧∀x H',J.yld i H x H'→g x σ H' fun σ2 H2=>tb { D with nx:=N,ct:=N,bk:=D.nx } σ2 H2)
def Ye(fp:List Addr)(h:Heap):List (Addr×Obj):=fp.filterMap fun b=>(h.get? b).map fun o=>(b,o)
theorem vQ{fp:List Addr}{h:Heap}{b:Addr}{o:Obj}(hb:b∈fp)(e:h.get? b=some o):(b,o)∈Ye fp h:=mem_filterMap.mpr ⟨b,hb,by rw[e];rfl⟩
theorem JM{fp:List Addr}{h:Heap}{p:Addr×Obj}(hp:p∈Ye fp h):p.1∈fp∧h.get? p.1=some p.2:=by
 obtain⟨b,hb,e⟩:=mem_filterMap.mp hp
 cases q:h.get? b with
 |none=>rw[q] at e;cases e
 |some o=>
  rw[q] at e
  have e':(b,o)=p:=Option.some.inj e
  subst e'
  exact⟨hb,q⟩
theorem Inv.pinned{pins:List (Addr×Obj)}{σ:St}{H:Hp}{s:Shared}{fp:List Addr}(I:Inv X pins σ H s)(hf:∀b∈fp,Y6 X pins H b)(ho:∀b∈fp,∃o,s.heap.get? b=some o∧∀v,o.data≠.cell v):Inv X (pins++Ye fp s.heap) σ H s:=
 I.pins_of fun p hp=>(mem_append.mp hp).elim (fun z=>I.pin p (mem_append_right _ z)) fun z=>by
  obtain⟨hb,e⟩:=JM z
  obtain⟨f0,f1,f2,_⟩:=hf p.1 hb
  obtain⟨o,e',d⟩:=ho p.1 hb
  rw[e] at e';cases e'
  exact⟨e,f0,f1,f2,d⟩
theorem Inv.unpinned{pins pl:List (Addr×Obj)}{σ:St}{H:Hp}{s:Shared}(I:Inv X (pins++pl) σ H s):Inv X pins σ H s:=I.pins_of fun p hp=>I.pin p (mem_append_right _ (mem_append_left _ hp))
theorem QU{iter:Expr}{body:List Stmt}{wi:TI}{g:TG}{tb:TS}{pos:Pos}(hp:PassesOwn (model X.prog X.w) X.A X.env X.xe)(hc:X.calm=true)(hi:PI X tg iter wi)(hg:PG X tg g)(hb:PSs X body tb)
  (hs:∀x,foldedSetIterable iter X.env x=pure x:=by intro _;rfl):PS X (.For tg iter body [] pos) (tFor wi g tb):=by
 intro pins s σ H D I h
 refine wpAny_For (thn (hi pins s σ H _ I h) fun v s1 h1=>thn h1 fun itv s2 h2=>?_) hs
 obtain⟨it,fp,tn,J,H2,e,I2,T,st2,f2,W,⟨m0,w0⟩,turn⟩:=h2
 subst e
 have stat:∀{H':Hp},(∀b∈fp,H' b=none)→∀b∈fp,Y6 X pins H' b:=fun hn b hb=>⟨hn b hb,(f2 b hb).2⟩
 refine codeAny_forLoop_any (fun n s'=>∃i σ' H',Inv X pins σ' H' s'∧tn i s'.heap∧(∀b∈fp,H' b=none)∧W i n σ' H') ?_ m0 ⟨0,σ,H2,I2,st2,fun b hb=>(f2 b hb).1,w0⟩
 rintro n s3 ⟨i,σ3,H3,I3,st3,fr3,w3⟩
 rcases turn i n σ3 H3 w3 with ⟨stop,qn⟩|⟨go,N,hN,step⟩
 ·refine wpAny_passesOwn hp (thn (T.done X rfl rfl rfl hc i pins s3 σ3 H3 X.xe I3 (stat fr3) st3 stop) fun r s4 ⟨hr,I4⟩=>?_)
  subst hr
  exact wpAny_execs_nil ⟨σ3,H3,I4,qn⟩
 ·refine wpAny_passesOwn hp (thn (T.item X rfl rfl rfl hc i pins s3 σ3 H3 X.xe I3 (stat fr3) st3 go) fun r s4 ⟨u,hr,h4⟩=>?_)
  subst hr
  refine wpAny_passesOwn hp (thn h4 fun _ s5 ⟨x,H5,I5,r5,y5,st5,fr5⟩=>?_)
  have I5':=I5.pinned (stat fr5) (T.obj _ _ st5)
  refine wpAny_passesOwn hp (thn (hg _ s5 σ3 H5 x u _ I5' r5 (step x H5 y5)) fun _ s6 ⟨σ6,H6,I6,q6⟩=>?_)
  refine wpAny_passesOwn hp (thn (hb _ s6 σ6 H6 _ I6 q6) fun f s7 q7=>?_)
  have again:∀{σ7:St} {H7:Hp},Inv X (pins++Ye fp s5.heap) σ7 H7 s7→N σ7 H7→∃m,m<n∧∃i σ' H',Inv X pins σ' H' s7∧tn i s7.heap∧(∀b∈fp,H' b=none)∧W i m σ' H':=fun {σ7 H7} I7 n7=>by
   obtain⟨m',hm,w7⟩:=hN σ7 H7 n7
   refine⟨m',hm,i+1,σ7,H7,I7.unpinned,T.keep _ _ _ st5 fun b hb o e=>(I7.pin (b,o) (mem_append_right _ (mem_append_right _ (vQ hb e)))).1,fun b hb=>?_,w7⟩
   obtain⟨o,e,d⟩:=T.obj _ _ st5 b hb
   exact(I7.pin (b,o) (mem_append_right _ (mem_append_right _ (vQ hb e)))).2.1
  cases f with
  |next=>obtain⟨σ7,H7,I7,n7⟩:=q7;exact again I7 n7
  |cont=>obtain⟨σ7,H7,I7,n7⟩:=q7;exact again I7 n7
  |brk=>obtain⟨σ7,H7,I7,q7⟩:=q7;exact⟨σ7,H7,I7.unpinned,q7⟩
  |ret v=>obtain⟨x7,σ7,H7,I7,r7,q7⟩:=q7;exact⟨x7,σ7,H7,I7.unpinned,r7,q7⟩
end
abbrev R2:=V→V→Hp→VK→Prop
def OpR(X:Cx)(f:Value→Value→Sem Value)(r:R2):Prop:=
 ∀(pins:List (Addr×Obj)) (s:Shared) (σ:St) (H:Hp) (x y:V) (v u:Value) (Q:VK),Inv X pins σ H s→RelV x v→RelV y u→r x y H Q →
  wpAny (model X.prog X.w) X.A (f v u) (EP X pins σ Q) X.xe s
def UnR(X:Cx)(f:Value→Sem Value)(r:V→Hp→VK→Prop):Prop:=
 ∀(pins:List (Addr×Obj)) (s:Shared) (σ:St) (H:Hp) (x:V) (v:Value) (Q:VK),Inv X pins σ H s→RelV x v→r x H Q →
  wpAny (model X.prog X.w) X.A (f v) (EP X pins σ Q) X.xe s
def CallR(X:Cx)(f:Value)(r:List V→Hp→VK→Prop):Prop:=
 ∀(pins:List (Addr×Obj)) (s:Shared) (σ:St) (H:Hp) (xs:List V) (us:List Value) (Q:VK),Inv X pins σ H s→Vals xs us→r xs H Q →
  wpAny (model X.prog X.w) X.A (call f us) (EP X pins σ Q) X.xe s
def TruR(X:Cx)(r:V→Hp→(Bool→Hp→Prop)→Prop):Prop:=
 ∀(pins:List (Addr×Obj)) (s:Shared) (σ:St) (H:Hp) (x:V) (v:Value) (Q:Bool→Hp→Prop),Inv X pins σ H s→RelV x v→r x H Q →
  wpAny (model X.prog X.w) X.A (truthy v) (TP X pins σ Q) X.xe s
def tOp(r:R2)(ta tb:TE):TE:=fun σ H Q=>ta σ H fun x H1=>tb σ H1 fun y H2=>r x y H2 Q
def tUn(r:V→Hp→VK→Prop)(ta:TE):TE:=fun σ H Q=>ta σ H fun x H1=>r x H1 Q
def rI(C:Int→Int→Prop)(g:Int→Int→V):R2:=fun x y H Q=>∃i j,x=.int i∧y=.int j∧C i j∧Q (g i j) H
def rI0(g:Int→Int→V):R2:=fun x y H Q=>∃i j,x=.int i∧y=.int j∧Q (g i j) H
def rU(g:Int→V):V→Hp→VK→Prop:=fun x H Q=>∃i,x=.int i∧Q (g i) H
section
variable{X:Cx}{a b c:Expr}{ta tb tc:TE}{pos:Pos}
theorem zd6(ha:PE X a ta)(hb:PE X b tb){pins:List (Addr×Obj)}{s:Shared}{σ:St}{H:Hp}{R:V→V→Hp→Prop}(I:Inv X pins σ H s)
  (h:ta σ H fun x H1=>tb σ H1 fun y H2=>R x y H2) {Q:Value→Shared→Prop} {f:Value→Value→Sem Value}
  (hf:∀v u s2 x y H2,Inv X pins σ H2 s2→RelV x v→RelV y u→R x y H2→wpAny (model X.prog X.w) X.A (f v u) Q X.xe s2) :
  wpAny (model X.prog X.w) X.A (eval a X.env) (fun v s₁=>wpAny (model X.prog X.w) X.A (eval b X.env) (fun u s₂=>wpAny (model X.prog X.w) X.A (f v u) Q X.xe s₂) X.xe s₁) X.xe s:=by
 refine thn (ha pins s σ H _ I h) fun v s1 ⟨x,H1,I1,r1,q1⟩=>?_
 refine thn (hb pins s1 σ H1 _ I1 q1) fun u s2 ⟨y,H2,I2,r2,q2⟩=>?_
 exact hf v u s2 x y H2 I2 r1 r2 q2
theorem pe_op{op:Operator}{r:R2}(ho:OpR X (binaryOp op) r)(ha:PE X a ta)(hb:PE X b tb):PE X (.BinOp a op b pos) (tOp r ta tb):=by
 intro pins s σ H Q I h
 exact wpAny_BinOp (zd6 ha hb I h fun v u s2 x y H2 I2 rx ry q=>ho pins s2 σ H2 x y v u Q I2 rx ry q)
theorem pe_un{op:UnaryOp}{r:V→Hp→VK→Prop}(ho:UnR X (unaryOp op) r)(ha:PE X a ta):PE X (.UnaryOp op a pos) (tUn r ta):=by
 intro pins s σ H Q I h
 exact UnaryOp_ (thn (ha pins s σ H _ I h) fun v s1 ⟨x,H1,I1,r1,q1⟩=>ho pins s1 σ H1 x v Q I1 r1 q1)
theorem opI{f:Value→Value→Sem Value}{C:Int→Int→Prop}{g:Int→Int→Int}
  (rule:∀(i j:Int) (t u:Tok) (s:Shared) (Q:Value→Shared→Prop) (E:Value→Shared→Prop),C i j→Q (.int (g i j) s.toks) { s with toks:=s.toks+1 }→wpAny (model X.prog X.w) X.A (f (.int i t) (.int j u)) Q E s) :
  OpR X f (rI C fun i j=>.int (g i j)):=by
 intro pins s σ H x y v u Q I rx ry h
 obtain⟨i,j,rfl,rfl,hc,q⟩:=h
 obtain⟨t,rfl⟩:=rx
 obtain⟨t',rfl⟩:=ry
 exact rule i j t t' s _ _ hc ⟨.int (g i j),H,I.tok _,⟨_,rfl⟩,q⟩
theorem opI0{f:Value→Value→Sem Value}{g:Int→Int→Int}
  (rule:∀(i j:Int) (t u:Tok) (s:Shared) (Q:Value→Shared→Prop) (E:Value→Shared→Prop),Q (.int (g i j) s.toks) { s with toks:=s.toks+1 }→wpAny (model X.prog X.w) X.A (f (.int i t) (.int j u)) Q E s) :
  OpR X f (rI0 fun i j=>.int (g i j)):=by
 intro pins s σ H x y v u Q I rx ry h
 obtain⟨i,j,rfl,rfl,q⟩:=h
 obtain⟨t,rfl⟩:=rx
 obtain⟨t',rfl⟩:=ry
 exact rule i j t t' s _ _ ⟨.int (g i j),H,I.tok _,⟨_,rfl⟩,q⟩
theorem L8{f:Value→Value→Sem Value}{g:Int→Int→Bool}
  (rule:∀(i j:Int) (t u:Tok) (s:Shared) (Q:Value→Shared→Prop) (E:Value→Shared→Prop),Q (.bool (g i j)) s→wpAny (model X.prog X.w) X.A (f (.int i t) (.int j u)) Q E s) :
  OpR X f (rI0 fun i j=>.bl (g i j)):=by
 intro pins s σ H x y v u Q I rx ry h
 obtain⟨i,j,rfl,rfl,q⟩:=h
 obtain⟨t,rfl⟩:=rx
 obtain⟨t',rfl⟩:=ry
 exact rule i j t t' s _ _ ⟨.bl (g i j),H,I,rfl,q⟩
def CDiv(i j:Int):Prop:=0<j∧j<1073741824
def CMul(i j:Int):Prop:=(-(2 ^ 64)<i∧i<2 ^ 64)∨(-(2 ^ 64)<j∧j<2 ^ 64)
theorem CMul.ok{i j:Int}(h:CMul i j):IntMulOk i j:=by
 rcases h with ⟨h1,h2⟩|⟨h1,h2⟩
 ·exact .of_left (intBits_le_64 h1 h2)
 ·exact .of_right (intBits_le_64 h1 h2)
theorem op_add:OpR X (binaryOp .Add) (rI0 fun i j=>.int (i+j)):=opI0 fun _ _ _ _ _ _ _ q=>add_int q
theorem L3:OpR X (binaryOp .Sub) (rI0 fun i j=>.int (i-j)):=opI0 fun _ _ _ _ _ _ _ q=>sub_int q
theorem op_mul:OpR X (binaryOp .Mult) (rI CMul fun i j=>.int (i*j)):=opI fun _ _ _ _ _ _ _ hc q=>mul_int q hc.ok
theorem M4:OpR X (binaryOp .FloorDiv) (rI CDiv fun i j=>.int (i / j)):=opI fun i j _ _ _ _ _ hc q=>by
 have h1:(0:Int)<j:=hc.1
 have h2:j<1073741824:=hc.2
 exact floordiv_int (by omega) (by rw[Int.fdiv_eq_ediv_of_nonneg i (by omega)];exact q) (.inl (PyProof.noPylong_small (by omega)))
theorem L5:OpR X (binaryOp .Mod) (rI (fun _ j=>0<j) fun i j=>.int (i%j)):=opI fun i j _ _ _ _ _ hc q=>by
 have h1:(0:Int)<j:=hc
 exact mod_int' (by omega) (by rw[Int.fmod_eq_emod_of_nonneg i (by omega)];exact q)
theorem unI{f:Value→Sem Value}{g:Int→Int}
  (rule:∀(i:Int) (t:Tok) (s:Shared) (Q:Value→Shared→Prop) (E:Value→Shared→Prop),Q (.int (g i) s.toks) { s with toks:=s.toks+1 }→wpAny (model X.prog X.w) X.A (f (.int i t)) Q E s) :
  UnR X f (rU fun i=>.int (g i)):=by
 intro pins s σ H x v Q I rx h
 obtain⟨i,rfl,q⟩:=h
 obtain⟨t,rfl⟩:=rx
 exact rule i t s _ _ ⟨.int (g i),H,I.tok _,⟨_,rfl⟩,q⟩
theorem Lv:UnR X (unaryOp .USub) (rU fun i=>.int (-i)):=unI fun _ _ _ _ _ q=>neg_int q
end
def scal:V→V→Bool
 |.non,.non=>true | .non,.int _=>true | .int _,.non=>true | .non,.bl _=>true | .bl _,.non=>true | .non,.str _=>true | .str _,.non=>true
 |.int _,.int _=>true | .bl _,.bl _=>true | .str _,.str _=>true | .byt _,.byt _=>true
 |.int _,.str _=>true | .str _,.int _=>true | .bl _,.str _=>true | .str _,.bl _=>true
 |_,_=>false
def rEq:R2:=fun x y H Q=>scal x y=true∧Q (.bl (decide (x=y))) H
def rNe:R2:=fun x y H Q=>scal x y=true∧Q (.bl (!decide (x=y))) H
theorem ZZ{i j:Int}:decide (V.int i=V.int j)=(i==j):=by
 rw[Bool.eq_iff_iff]
 simp
theorem GZ{i j:Bool}:decide (V.bl i=V.bl j)=(i==j):=by
 rw[Bool.eq_iff_iff]
 simp
theorem ZY{i j:Str}:decide (V.str i=V.str j)=(i==j):=by
 rw[Bool.eq_iff_iff]
 simp
theorem Ji{i j:Array UInt8}:decide (V.byt i=V.byt j)=(i.toList==j.toList):=by
 rw[Bool.eq_iff_iff]
 cases i
 cases j
 simp
section
variable{X:Cx}{a b c:Expr}{ta tb tc:TE}{pos:Pos}
theorem yd{pins:List (Addr×Obj)}{σ:St}{H:Hp}{s:Shared}{Q:VK}{k k':Bool}(I:Inv X pins σ H s)(q:Q (.bl k) H)(e:k=k'):EP X pins σ Q (.bool k') s:=by
 subst e
 exact⟨.bl k,H,I,rfl,q⟩
theorem op_eq:OpR X (compareOp .Eq) rEq:=by
 intro pins s σ H x y v u Q I rx ry h
 obtain⟨hs,q⟩:=h
 cases x with
 |non=>
  cases rx
  cases y with
  |non=>cases ry;exact PySem.EqNone.eq_none_none (yd I q (by simp))
  |bl j=>cases ry;exact PySem.EqNone.eq_none_bool (yd I q (by simp))
  |int j=>obtain⟨t',rfl⟩:=ry;exact PySem.EqNone.eq_none_int (yd I q (by simp))
  |str j=>obtain⟨t',rfl⟩:=ry;exact PySem.EqNone.eq_none_str (yd I q (by simp))
  |_=>exact absurd (show false=true from hs) Bool.false_ne_true
 |bl i=>
  cases rx
  cases y with
  |non=>cases ry;exact PySem.EqNone.eq_bool_none (yd I q (by simp))
  |bl j=>cases ry;exact eq_bool (yd I q GZ)
  |str j=>obtain⟨t',rfl⟩:=ry;exact PySem.EqMixed.eq_bool_str (yd I q (by simp))
  |_=>exact absurd (show false=true from hs) Bool.false_ne_true
 |int i=>
  obtain⟨t,rfl⟩:=rx
  cases y with
  |non=>cases ry;exact PySem.EqNone.eq_int_none (yd I q (by simp))
  |int j=>obtain⟨t',rfl⟩:=ry;exact eq_int (yd I q ZZ)
  |str j=>obtain⟨t',rfl⟩:=ry;exact PySem.EqMixed.eq_int_str (yd I q (by simp))
  |_=>exact absurd (show false=true from hs) Bool.false_ne_true
 |str i=>
  obtain⟨t,rfl⟩:=rx
  cases y with
  |non=>cases ry;exact PySem.EqNone.eq_str_none (yd I q (by simp))
  |bl j=>cases ry;exact PySem.EqMixed.eq_str_bool (yd I q (by simp))
  |int j=>obtain⟨t',rfl⟩:=ry;exact PySem.EqMixed.eq_str_int (yd I q (by simp))
  |str j=>obtain⟨t',rfl⟩:=ry;exact eq_str (yd I q ZY)
  |_=>exact absurd (show false=true from hs) Bool.false_ne_true
 |byt i=>
  obtain⟨t,rfl⟩:=rx
  cases y with
  |byt j=>obtain⟨t',rfl⟩:=ry;exact PySem.W.eq_bytes (yd I q Ji)
  |_=>exact absurd (show false=true from hs) Bool.false_ne_true
 |_=>cases y <;> exact absurd (show false=true from hs) Bool.false_ne_true
theorem op_ne:OpR X (compareOp .NotEq) rNe:=by
 intro pins s σ H x y v u Q I rx ry h
 obtain⟨hs,q⟩:=h
 cases x with
 |non=>
  cases rx
  cases y with
  |non=>cases ry;exact PySem.EqNone.ne_none_none (yd I q (by simp))
  |bl j=>cases ry;exact PySem.EqNone.ne_none_bool (yd I q (by simp))
  |int j=>obtain⟨t',rfl⟩:=ry;exact PySem.EqNone.ne_none_int (yd I q (by simp))
  |str j=>obtain⟨t',rfl⟩:=ry;exact PySem.EqNone.ne_none_str (yd I q (by simp))
  |_=>exact absurd (show false=true from hs) Bool.false_ne_true
 |bl i=>
  cases rx
  cases y with
  |non=>cases ry;exact PySem.EqNone.ne_bool_none (yd I q (by simp))
  |bl j=>cases ry;exact ne_bool (yd I q (congrArg not GZ))
  |str j=>obtain⟨t',rfl⟩:=ry;exact PySem.EqMixed.ne_bool_str (yd I q (by simp))
  |_=>exact absurd (show false=true from hs) Bool.false_ne_true
 |int i=>
  obtain⟨t,rfl⟩:=rx
  cases y with
  |non=>cases ry;exact PySem.EqNone.ne_int_none (yd I q (by simp))
  |int j=>obtain⟨t',rfl⟩:=ry;exact ne_int (yd I q (congrArg not ZZ))
  |str j=>obtain⟨t',rfl⟩:=ry;exact PySem.EqMixed.ne_int_str (yd I q (by simp))
  |_=>exact absurd (show false=true from hs) Bool.false_ne_true
 |str i=>
  obtain⟨t,rfl⟩:=rx
  cases y with
  |non=>cases ry;exact PySem.EqNone.ne_str_none (yd I q (by simp))
  |bl j=>cases ry;exact PySem.EqMixed.ne_str_bool (yd I q (by simp))
  |int j=>obtain⟨t',rfl⟩:=ry;exact PySem.EqMixed.ne_str_int (yd I q (by simp))
  |str j=>obtain⟨t',rfl⟩:=ry;exact ne_str (yd I q (congrArg not ZY))
  |_=>exact absurd (show false=true from hs) Bool.false_ne_true
 |byt i=>
  obtain⟨t,rfl⟩:=rx
  cases y with
  |byt j=>obtain⟨t',rfl⟩:=ry;exact PySem.W.ne_bytes (yd I q (congrArg not Ji))
  |_=>exact absurd (show false=true from hs) Bool.false_ne_true
 |_=>cases y <;> exact absurd (show false=true from hs) Bool.false_ne_true
theorem op_lt:OpR X (compareOp .Lt) (rI0 fun i j=>.bl (decide (i<j))):=L8 fun _ _ _ _ _ _ _ q=>lt_int q
theorem op_gt:OpR X (compareOp .Gt) (rI0 fun i j=>.bl (decide (j<i))):=L8 fun _ _ _ _ _ _ _ q=>gt_int q
theorem op_ge:OpR X (compareOp .GtE) (rI0 fun i j=>.bl (decide (j≤i))):=L8 fun _ _ _ _ _ _ _ q=>ge_int q
theorem op_in_str:OpR X (compareOp .In) (fun x y H Q=>∃i j,x=.str i∧y=.str j∧Q (.bl (!(Builtin.Str.occurrences j i 0 j.length 1).isEmpty)) H):=by
 intro pins s σ H x y v u Q I rx ry h
 obtain⟨i,j,rfl,rfl,q⟩:=h
 obtain⟨t,rfl⟩:=rx
 obtain⟨t',rfl⟩:=ry
 exact in_str (yd I q rfl)
theorem L6:OpR X (compareOp .Is) (fun x y H Q=>y=.non∧Q (.bl (decide (x=.non))) H):=by
 intro pins s σ H x y v u Q I rx ry h
 obtain⟨rfl,q⟩:=h
 cases ry
 refine is_none_gen (yd I q ?_)
 cases x <;> first
  | (cases rx;rfl)
  | (obtain⟨t,rfl⟩:=rx;rfl)
theorem M3:OpR X (compareOp .IsNot) (fun x y H Q=>y=.non∧Q (.bl (!decide (x=.non))) H):=by
 intro pins s σ H x y v u Q I rx ry h
 obtain⟨rfl,q⟩:=h
 cases ry
 refine isnot_none_gen (yd I q ?_)
 cases x <;> first
  | (cases rx;rfl)
  | (obtain⟨t,rfl⟩:=rx;rfl)
theorem op_notin_str:OpR X (compareOp .NotIn) (fun x y H Q=>∃i j,x=.str i∧y=.str j∧Q (.bl (!(!(Builtin.Str.occurrences j i 0 j.length 1).isEmpty))) H):=by
 intro pins s σ H x y v u Q I rx ry h
 obtain⟨i,j,rfl,rfl,q⟩:=h
 obtain⟨t,rfl⟩:=rx
 obtain⟨t',rfl⟩:=ry
 exact notIn_str (yd I q rfl)
theorem OpR.or{f:Value→Value→Sem Value}{r r':R2}(h:OpR X f r)(h':OpR X f r'):OpR X f (fun x y H Q=>r x y H Q∨r' x y H Q):=by
 intro pins s σ H x y v u Q I rx ry q
 rcases q with q|q
 ·exact h pins s σ H x y v u Q I rx ry q
 ·exact h' pins s σ H x y v u Q I rx ry q
theorem yc(b:Expr){op:CmpOp}(h:op≠.In:=by decide)(h2:op≠.NotIn:=by decide):behindInMarks op b=false:=by
 have e1:(op==CmpOp.In)=false:=by cases op <;> first|rfl|exact absurd rfl h
 have e2:(op==CmpOp.NotIn)=false:=by cases op <;> first|rfl|exact absurd rfl h2
 cases b <;> simp[behindInMarks,e1,e2]
theorem MW{op:CmpOp}{r:R2}(ho:OpR X (compareOp op) r)(ha:PE X a ta)(hb:PE X b tb)(hm:behindInMarks op b=false):PE X (.Compare a [op] [b] pos) (tOp r ta tb):=by
 intro pins s σ H Q I h
 exact wpAny_Compare1 (zd6 ha hb I h fun v u s2 x y H2 I2 rx ry q=>ho pins s2 σ H2 x y v u Q I2 rx ry q) hm
def T7(t:TE):TT:=fun σ H Q=>t σ H fun x H'=>∃k,x=.bl k∧Q k H'
theorem MO{op:CmpOp}{r:R2}(ho:OpR X (compareOp op) r)(ha:PE X a ta)(hb:PE X b tb)(hm:behindInMarks op b=false):PT X (.Compare a [op] [b] pos) (T7 (tOp r ta tb)):=by
 intro pins s σ H Q I h
 refine wpAny_isTrue_Compare1 (thn (ha pins s σ H _ I h) fun v s1 ⟨x,H1,I1,r1,q1⟩=>thn (hb pins s1 σ H1 _ I1 q1) fun u s2 ⟨y,H2,I2,r2,q2⟩=>
  thn (ho pins s2 σ H2 x y v u _ I2 r1 r2 q2) fun c s3 ⟨z,H3,I3,r3,k,e,q3⟩=>?_) hm
 subst e
 cases r3
 exact wpAny_truthy_bool ⟨H3,I3,q3⟩
def ze2(K:PySem.W.Frag)(x:V)(H:Hp)(k:Bool):Prop:=
 match x with
 |.non=>k=false
 |.bl b=>k=b
 |.int i=>k=(i != 0)
 |.str y=>y.length≤sizeLine∧k=((y.length:Int) != 0)
 |.byt y=>y.size≤sizeLine∧k=((y.size:Int) != 0)
 |.ref p=>(∃xs,SqL K H p xs∧k = !xs.isEmpty)∨(∃xs,SqT K H p xs∧k = !xs.isEmpty)∨∃kvs,H p=some (.dK kvs)∧k = !kvs.isEmpty
 |_=>False
theorem V4{κ:Type}{kvs:List (κ×V)}{vs:List (κ×Value)}(r:KV kvs vs):(!vs.isEmpty) = !kvs.isEmpty:=by
 cases r <;> rfl
theorem Yu{xs:List V}{its:List Value}(r:Vals xs its):(!its.toArray.isEmpty) = !xs.isEmpty:=by
 cases r <;> simp
theorem u3:(sizeLine:Nat)<2 ^ 63:=by rw[sizeLine_eq];decide
theorem tru_ok:TruR X (fun x H Q=>∃k,ze2 X.K x H k∧Q k H):=by
 intro pins s σ H x v Q I rx h
 obtain⟨k,e,q⟩:=h
 have hl:=u3
 have hs:sizeLine=16777216:=sizeLine_eq
 cases x with
 |non=>
  cases rx
  have e':k=false:=e
  subst e'
  exact truthy_none ⟨H,I,q⟩
 |bl b=>
  cases rx
  have e':k=b:=e
  subst e'
  exact wpAny_truthy_bool ⟨H,I,q⟩
 |int i=>
  obtain⟨t,rfl⟩:=rx
  have e':k=(i != 0):=e
  subst e'
  exact PySem.P.truthy_int ⟨H,I,q⟩
 |str y=>
  obtain⟨t,rfl⟩:=rx
  obtain⟨hy,e'⟩:y.length≤sizeLine∧k=((y.length:Int) != 0):=e
  subst e'
  exact PySem.P.truthy_str (by omega) ⟨H,I.tok _,q⟩
 |byt y=>
  obtain⟨t,rfl⟩:=rx
  obtain⟨hy,e'⟩:y.size≤sizeLine∧k=((y.size:Int) != 0):=e
  subst e'
  exact PySem.W.truthy_bytes (by omega) ⟨H,I.tok _,q⟩
 |ref p=>
  cases rx
  have e':(∃xs,SqL X.K H p xs∧k = !xs.isEmpty)∨(∃xs,SqT X.K H p xs∧k = !xs.isEmpty)∨∃kvs,H p=some (.dK kvs)∧k = !kvs.isEmpty:=e
  rcases e' with ⟨xs,hx,e'⟩|⟨xs,hx,e'⟩|⟨kvs,hx,e'⟩
  ·subst e'
   obtain⟨its,r,pl,hz⟩:=I.list hx
   have hlen:=r.length
   exact wpAny_truthy_list pl.isList (by simp only[size_toArray];omega) ⟨H,I.tok _,by rw[Yu r];exact q⟩
  ·subst e'
   obtain⟨its,r,pl,hz⟩:=I.tuple hx
   have hlen:=r.length
   exact truthy_tuple pl (by simp only[size_toArray];omega) ⟨H,I.tok _,by rw[Yu r];exact q⟩
  ·subst e'
   obtain⟨hz,hS,vs,r,m⟩:kvs.length≤sizeLine∧(p==sysModules)=false∧∃vs,KV kvs vs∧s.heap.DictOf (xC X.prog X.w) p vs:=I.hok p _ hx
   have hlen:kvs.length=vs.length:=Paired.length r
   exact wpAny_truthy_dict hS m (by omega) ⟨H,I.tok _,by rw[V4 r];exact q⟩
 |_=>exact(show False from e).elim
theorem QR(ha:PE X a ta)(he:∀whole,isTrue a X.env whole=(do let v ← whole;standAt a.pos;holding [v] (truthy v))) :
  PT X a (fun σ H Q=>ta σ H fun x H'=>∃k,ze2 X.K x H' k∧Q k H'):=by
 intro pins s σ H Q I h
 exact isTrue_plain (thn (ha pins s σ H _ I h) fun v s1 ⟨x,H1,I1,r1,q1⟩=>tru_ok pins s1 σ H1 x v Q I1 r1 q1) (he _)
theorem op_add_str:OpR X (binaryOp .Add) (fun x y H Q=>∃i j,x=.str i∧y=.str j∧i.length+j.length≤sizeLine∧Q (.str (i++j)) H):=by
 intro pins s σ H x y v u Q I rx ry h
 obtain⟨i,j,rfl,rfl,hz,q⟩:=h
 obtain⟨t,rfl⟩:=rx
 obtain⟨t',rfl⟩:=ry
 exact add_str (fun t' tk=>⟨.str (i++j),H,I.tok _,⟨_,rfl⟩,q⟩) hz
theorem vals1{x:V}{us:List Value}(r:Vals [x] us):∃u,us=[u]∧RelV x u:=by
 cases r with
 |cons r1 r2=>cases r2;exact⟨_,rfl,r1⟩
theorem vals2{x y:V}{us:List Value}(r:Vals [x,y] us):∃u w',us=[u,w']∧RelV x u∧RelV y w':=by
 cases r with
 |cons r1 r2=>
  cases r2 with
  |cons r3 r4=>cases r4;exact⟨_,_,rfl,r1,r3⟩
theorem Qj(hc:X.calm=true):CallR X (.builtin "max") (fun xs H Q=>∃i j,xs=[.int i,.int j]∧Q (.int (if j > i then j else i)) H):=by
 intro pins s σ H xs us Q I r h
 obtain⟨i,j,rfl,q⟩:=h
 obtain⟨u,w',rfl,⟨t,rfl⟩,⟨t',rfl⟩⟩:=vals2 r
 refine max_two_ints (I.ok.hd hc) fun h' tk k=>⟨_,H,I.kept k,?_,q⟩
 by_cases hj:j > i
 ·rw[if_pos hj,if_pos hj];exact⟨_,rfl⟩
 ·rw[if_neg hj,if_neg hj];exact⟨_,rfl⟩
theorem Qi(hc:X.calm=true):CallR X (.builtin "min") (fun xs H Q=>∃i j,xs=[.int i,.int j]∧Q (.int (if j<i then j else i)) H):=by
 intro pins s σ H xs us Q I r h
 obtain⟨i,j,rfl,q⟩:=h
 obtain⟨u,w',rfl,⟨t,rfl⟩,⟨t',rfl⟩⟩:=vals2 r
 refine min_two_ints (I.ok.hd hc) fun h' tk k=>⟨_,H,I.kept k,?_,q⟩
 by_cases hj:j<i
 ·rw[if_pos hj,if_pos hj];exact⟨_,rfl⟩
 ·rw[if_neg hj,if_neg hj];exact⟨_,rfl⟩
end
section
variable{prog:Program}{w:World}{A:Around}{E:Value→Shared→Prop}{s:Shared}{K:PySem.W.Frag}{x dx C f:Addr}{mA:Str→Option Value}{name:Str}{v:Value}
end
theorem RelO.some_of{v:V}{o:Option Value}(r:RelO (some v) o):∃u,o=some u∧RelV v u:=by
 cases o with
 |none=>exact(show False from r).elim
 |some u=>exact⟨u,rfl,r⟩
section
variable{P:Program}{w:World}{H H':Hp}{h h':Heap}{a C dx:Addr}{fs fs':List (Str×V)}
end
section
variable{X:Cx}{pins:List (Addr×Obj)}{σ:St}{H:Hp}{s:Shared}{a C dx:Addr}{fs:List (Str×V)}{f:Str}{v:V}{A:Around}{E:Value→Shared→Prop}
end
section
variable{X:Cx}{o e value:Expr}{f:Str}{pos pos' tpos:Pos}{ta tv:TE}
end
section
variable{X:Cx}{pins:List (Addr×Obj)}{σ:St}{H:Hp}{s:Shared}{A:Around}{E:Value→Shared→Prop}{Q:Value→Shared→Prop}{c:Value}{b:Bool}
end
structure Room(k:Nat)(A:Around):Prop where
 hd:A.handled=none
 dp:A.depth+3*k+5<recursionLimit
 un:A.units+16*k+200<cLine
theorem Room.mono{j k:Nat}{A:Around}(r:Room k A)(h:j≤k):Room j A:=⟨r.hd,by have:=r.dp;omega,by have:=r.un;omega⟩
theorem Room.deeper{k:Nat}{A:Around}(r:Room (k+1) A)(env:Env):Room k (A.deeper env):=
 ⟨r.hd,by have:=r.dp;show A.depth+1+3*k+5<_;omega,by have:=r.un;show A.units+3+16*k+200<_;omega⟩
theorem Room.in1{k:Nat}{A:Around}(r:Room (k+1) A):Room k A.in1:=
 ⟨r.hd,by have:=r.dp;show A.depth+3*k+5<_;omega,by have:=r.un;show A.units+1+16*k+200<_;omega⟩
theorem Room.depth{k:Nat}{A:Around}(r:Room k A):A.depth<recursionLimit:=by have:=r.dp;omega
theorem Room.units{k:Nat}{A:Around}(r:Room k A):A.units+64<cLine:=by have:=r.un;omega
def tNil:TA:=fun _ H Q=>Q [] H
def Qu(ta:TE)(tr:TA):TA:=fun σ H Q=>ta σ H fun x H1=>tr σ H1 fun xs H2=>Q (x::xs) H2
section
variable{X:Cx}{e:Expr}{es:List Expr}{te:TE}{t:TA}{pos:Pos}
theorem j5:PA X [] tNil:=fun _ _ _ _ H Q I h=>Calls.spliced_nil ⟨[],H,I,.nil,h⟩
theorem uw(ha:PE X e te)(hr:PA X es t)(hs:starEach (e::es) X.env=(false,eval e X.env)::starEach es X.env:=by rfl):PA X (e::es) (Qu te t):=by
 intro pos pins s σ H Q I h
 rw[hs]
 show wpAny _ _ (spliced ((false,eval e X.env)::backTo pos (starEach es X.env))) _ _ s
 refine Calls.spliced_cons (thn (ha pins s σ H _ I h) fun u s1 ⟨x,H1,I1,r1,q1⟩=>?_)
 exact thn (hr pos pins s1 σ H1 _ I1 q1) fun us s2 ⟨xs,H2,I2,r2,q2⟩=>⟨x::xs,H2,I2,.cons r1 r2,q2⟩
def tTup(t:TA):TE:=fun σ H Q=>t σ H fun xs H1=>xs.length≤sizeLine∧∀p,H1 p=none→Q (.ref p) (upd H1 p (.tup xs))
def tLst(t:TA):TE:=fun σ H Q=>t σ H fun xs H1=>xs.length≤sizeLine∧∀p,H1 p=none→Q (.ref p) (upd H1 p (.lst xs))
theorem QW{x1}(h:PA X es t):PE X (.Tuple es x1 pos) (tTup t):=by
 intro pins s σ H Q I hq
 refine wpAny_Tuple_spliced (thn (h pos pins s σ H _ I hq) fun us s1 ⟨xs,H1,I1,r,z,q⟩=>⟨by rw[← r.length];exact z,?_⟩)
 have hf:H1 s1.heap.objs.size=none:=I1.hok.fresh (le_refl _)
 refine⟨.ref s1.heap.objs.size,upd H1 s1.heap.objs.size (.tup xs),I1.laid (t':=s1.toks) (fun b u e=>Heap.get?_push_of_some _ e) (le_refl _) ?_,rfl,q _ hf⟩
 exact⟨z,us,r,⟨_,Heap.get?_push_size _ rfl,rfl,_,rfl⟩⟩
theorem VT(h:PA X es t):PE X (.List es pos) (tLst t):=by
 intro pins s σ H Q I hq
 refine wpAny_List_spliced (thn (h pos pins s σ H _ I hq) fun us s1 ⟨xs,H1,I1,r,z,q⟩=>⟨by rw[← r.length];exact z,?_⟩)
 have hf:H1 s1.heap.objs.size=none:=I1.hok.fresh (le_refl _)
 refine⟨.ref s1.heap.objs.size,upd H1 s1.heap.objs.size (.lst xs),I1.laid (t':=s1.toks) (fun b u e=>Heap.get?_push_of_some _ e) (le_refl _) ?_,rfl,q _ hf⟩
 exact⟨z,us,0,r,Heap.get?_push_size _ rfl⟩
end
abbrev Sp:=List V→Hp→VK→XK→Prop
abbrev CXT:=List Env→Hp→Shared→XK→Value→Shared→Prop
structure Mf(P:Program)(w:World)(K:PySem.W.Frag)(mg:Str→Option Value)(base:Heap)(A:Around)(outer:List Env)(s:Shared)(H:Hp):Prop where
 frames:A.frames=some outer
 mod:Mod K mg base
 bs:∀b o,base.get? b=some o→s.heap.get? b=some o∧H b=none
 bsz:base.objs.size≤s.heap.objs.size
 funs:s.heap.FunFrames base outer
 frf:∀b∈frs outer,H b=none
 hok:HOk P w H s.heap
 bare:AllBare s.gens
def CE(outer:List Env)(P:Program)(w:World)(H:Hp)(s:Shared)(Q:VK)(u:Value)(s':Shared):Prop:=
 ∃v H',s'.os=s.os∧AllBare s'.gens∧Un (frs outer) [] H H' s.heap s'.heap∧HOk P w H' s'.heap∧RelV v u∧Q v H'
def CR(CX:CXT)(outer:List Env)(P:Program)(w:World)(H:Hp)(s:Shared)(Q:VK)(E:XK)(r:Result)(s':Shared):Prop:=
 match r with
 | .ok (.ret u)=>CE outer P w H s Q u s'
 |.ok _=>False
 |.error e=>CX outer H s E e s'
structure FnOk(P:Program)(w:World)(K:PySem.W.Frag)(mg:Str→Option Value)(base:Heap)(CX:CXT)(k:Nat)(f:Addr)(fd:FuncData)(ps:List Str)(sp:Sp):Prop where
 len:∀vs H Q E,sp vs H Q E→vs.length=ps.length
 run:∀(A:Around) (outer:List Env) (s:Shared) (H:Hp) (args:Args) (us:List Value) (vs:List V) (Q:VK) (E:XK),Room k A→Mf P w K mg base A outer s H→BindsTo s fd args (ps.zip us)→Vals vs us→sp vs H Q E →
  codeAny (model P w) A (.call (.ref f) args) (CR CX outer P w H s Q E) s
theorem FnOk.imp{P:Program}{w:World}{K:PySem.W.Frag}{mg:Str→Option Value}{base:Heap}{CX:CXT}{k:Nat}{f:Addr}{fd:FuncData}{ps:List Str}{sp sp':Sp}(F:FnOk P w K mg base CX k f fd ps sp)
  (h:∀vs H Q E,sp' vs H Q E→sp vs H Q E):FnOk P w K mg base CX k f fd ps sp':=
 ⟨fun vs H Q E q=>F.len vs H Q E (h _ _ _ _ q),fun A outer s H args us vs Q E hr he hb hv hs=>F.run A outer s H args us vs Q E hr he hb hv (h _ _ _ _ hs)⟩
section
variable{X:Cx}{pins:List (Addr×Obj)}{σ:St}{H:Hp}{s s':Shared}
theorem Inv.env0(I:Inv X pins σ H s):Mf X.prog X.w X.K X.mg X.base X.A X.stack s H:=
 ⟨I.ok.frames,I.ok.mod,I.bs,le_trans I.ok.bsz I.sz,I.stack,I.stkFree,I.hok,I.bare⟩
theorem Inv.after{Q:VK}{u:Value}(I:Inv X pins σ H s)(h:CE X.stack X.prog X.w H s Q u s'):EP X pins σ Q u s':=by
 obtain⟨v,H',os,bare,un,hok,r,q⟩:=h
 obtain⟨hh,g,d,t,os'⟩:=s'
 obtain rfl:os'=s.os:=os
 exact⟨v,H',I.call (h':=hh) (g':=g) (d':=d) (t':=t) (ch:=[]) un hok bare (fun b z=>absurd z (by simp)),r,q⟩
end
def tCall(sp:Sp)(dvs:List V)(E:XK)(t:TA):TE:=fun σ H Q=>t σ H fun vs H1=>sp (vs++dvs) H1 Q E
def Binds(K:PySem.W.Frag)(fd:FuncData)(ps:List Str)(ds:List Value):Prop:=
 ∀(s:Shared) (us:List Value),K.In s.heap→(us++ds).length=ps.length→BindsTo s fd ⟨us,[]⟩ (ps.zip (us++ds))
theorem Binds.all{K:PySem.W.Frag}{fd:FuncData}{ps:List Str}(h:∀us:List Value,us.length=ps.length→bindArgs fd ⟨us,[]⟩=pure (ps.zip us)):Binds K fd ps []:=fun s us _ hl=>by
 rw[append_nil] at hl ⊢
 exact .of_eq (h us hl)
def Up(CX:CXT)(X:Cx)(E:XK):Prop:=∀(pins:List (Addr×Obj)) (σ:St) (H:Hp) (s:Shared) (e:Value) (s':Shared),Inv X pins σ H s→CX X.stack H s E e s'→X.xe e s'
section
variable{X:Cx}{CX:CXT}{k:Nat}{f C:Addr}{fd:FuncData}{ps:List Str}{sp:Sp}{dvs:List V}{ds:List Value}{E:XK}{x m:Str}{p pos apos:Pos}{e o:Expr}{es:List Expr}{ta:TE}{t:TA}
theorem LD{pins:List (Addr×Obj)}{σ:St}{H:Hp}{s:Shared}{Q:VK}{us:List Value}{vs:List V}(F:FnOk X.prog X.w X.K X.mg X.base CX k f fd ps sp)(hr:Room k X.A)(hb:Binds X.K fd ps ds)(hd:Vals dvs ds)(hx:Up CX X E)
  (I:Inv X pins σ H s) (r:Vals vs us) (h:sp (vs++dvs) H Q E):wpAny (model X.prog X.w) X.A (call (.ref f) us) (EP X pins σ Q) X.xe s:=by
 have r2:Vals (vs++dvs) (us++ds):=r.append hd
 have hl:(us++ds).length=ps.length:=by rw[← r2.length];exact F.len _ _ _ _ h
 refine wpAny_call (codeAny_mono (F.run X.A X.stack s H ⟨us,[]⟩ (us++ds) (vs++dvs) Q E hr I.env0 (hb s us I.kIn hl) r2 h) fun r s' hq=>?_)
 cases r with
 |error e=>exact hx pins σ H s e s' I hq
 |ok fl=>
  cases fl with
  |ret u=>exact I.after hq
  |next=>exact False.elim hq
  |brk=>exact False.elim hq
  |cont=>exact False.elim hq
theorem MX(F:FnOk X.prog X.w X.K X.mg X.base CX k f fd ps sp)(hr:Room k X.A)(hg:Gl X x)(hm:X.mg x=some (.ref f))(hk:keepIn X.K (.ref f)=true)(hb:Binds X.K fd ps ds)(hd:Vals dvs ds)(hx:Up CX X E)
  (ha:PA X (e::es) t) (hdb:(x==("__debug__" : Str))=false:=by decide) (he:starEach (e::es) X.env=(false,eval e X.env)::starEach es X.env:=by rfl) (hpl:(backTo pos (starEach es X.env)).any (·.1)=false:=by rfl) :
  PE X (.Call (.Name x p) (e::es) [] pos) (tCall sp dvs E t):=by
 intro pins s σ H Q I h
 refine wpAny_Call_Name_kw (UY I hg hm ?_ hdb)
 refine PySem.W.callWith_K (h₀:=X.base) I.ok.mod.kin hk (thn (ha pos pins s σ H _ I h) fun us s1 ⟨vs,H1,I1,r,q⟩=>⟨I1.kIn,?_⟩) he hpl
 exact LD F hr hb hd hx I1 r q
end
section
variable{X:Cx}{CX:CXT}{k:Nat}{f C:Addr}{fd:FuncData}{ps ks:List Str}{sp:Sp}{E:XK}{x m:Str}{p pos apos kpos:Pos}{e o:Expr}{es:List Expr}{kws:List Keyword}{te ta:TE}{t tk:TA}{nm:Option Str}
variable{g:List Value→List Value→List Value}{gV:List V→List V→List V}
end
structure zN(N P:List Str)(sc:Scope):Prop where
 kind:sc.kind=.function
 co:sc.isCoroutine=false
 gen:sc.isGenerator=false
 nd:N.Nodup
 pre:N.take P.length=P
 par:∀x∈P,sc.names.lookup x=some .local∨sc.names.lookup x=some .cell
 nofree:∀y∈sc.names,y.2≠.free
theorem XC{kindOf:Str→Option NameKind}{x:Str}:∀{binds:List (Str×Value)} {m:Str→Option Value},(∀v,(x,v)∉binds)→bindL kindOf binds m x=m x
 |[],_,_=>rfl
 | (n,v)::r,m,h=>by
  unfold bindL
  rw[XC fun w hw=>h w (mem_cons_of_mem _ hw)]
  split
  ·have:x≠n:=by rintro rfl;exact h v mem_cons_self
   simp[this]
  ·rfl
theorem XE{kindOf:Str→Option NameKind}{x:Str}:∀{binds:List (Str×Value)} {m:Str→Option Value},(∀v,(x,v)∉binds)→bindC kindOf binds m x=m x
 |[],_,_=>rfl
 | (n,v)::r,m,h=>by
  unfold bindC
  rw[XE fun w hw=>h w (mem_cons_of_mem _ hw)]
  split
  ·rfl
  ·have:x≠n:=by rintro rfl;exact h v mem_cons_self
   simp[this]
theorem XD{kindOf:Str→Option NameKind}{x:Str}{v:Value}:∀{P:List Str} {vs:List Value} {i:Nat} {m:Str→Option Value},P.Nodup→P[i]?=some x→vs[i]?=some v→kindOf x=some .local →
  bindL kindOf (P.zip vs) m x=some v
 |[],_,_,_,_,h,_,_=>by simp at h
 |_::_,[],_,_,_,_,h,_=>by simp at h
 |p::P,w::vs,0,m,nd,h1,h2,hk=>by
  simp at h1 h2;subst h1;subst h2
  show bindL kindOf ((p,w)::P.zip vs) m p=_
  unfold bindL
  rw[XC fun v hv=>(nodup_cons.mp nd).1 (List.of_mem_zip hv).1,if_pos hk]
  simp
 |p::P,w::vs,i+1,m,nd,h1,h2,hk=>by
  show bindL kindOf ((p,w)::P.zip vs) m x=_
  unfold bindL
  exact XD (i:=i) (nodup_cons.mp nd).2 (by simpa using h1) (by simpa using h2) hk
theorem XF{kindOf:Str→Option NameKind}{x:Str}{v:Value}:∀{P:List Str} {vs:List Value} {i:Nat} {m:Str→Option Value},P.Nodup→P[i]?=some x→vs[i]?=some v→kindOf x≠some .local →
  bindC kindOf (P.zip vs) m x=some v
 |[],_,_,_,_,h,_,_=>by simp at h
 |_::_,[],_,_,_,_,h,_=>by simp at h
 |p::P,w::vs,0,m,nd,h1,h2,hk=>by
  simp at h1 h2;subst h1;subst h2
  show bindC kindOf ((p,w)::P.zip vs) m p=_
  unfold bindC
  rw[XE fun v hv=>(nodup_cons.mp nd).1 (List.of_mem_zip hv).1,if_neg hk]
  simp
 |p::P,w::vs,i+1,m,nd,h1,h2,hk=>by
  show bindC kindOf ((p,w)::P.zip vs) m x=_
  unfold bindC
  exact XF (i:=i) (nodup_cons.mp nd).2 (by simpa using h1) (by simpa using h2) hk
def start(N:List Str)(vs:List V):St:=vs.map some++List.replicate (N.length-vs.length) none
def Wk(CX:CXT)(P:Program)(w:World)(K:PySem.W.Frag)(mg:Str→Option Value)(base:Heap)(N:List Str)(qual:Str)(scope:Scope)(f:Addr)(cd:Value)(A:Around)(outer:List Env)(s:Shared)(H:Hp)(E:XK):Cx where
 prog:=P
 w:=w
 K:=K
 mg:=mg
 base:=base
 A:=A.deeper (envOfC qual scope s.heap.objs.size f cd)
 N:=N
 s₀:=s
 H₀:=H
 env:=envOfC qual scope s.heap.objs.size f cd
 outer:=outer
 stack:=envOfC qual scope s.heap.objs.size f cd::outer
 ex:=[]
 calm:=true
 fn:=fun _=>true
 pn:=[]
 xe:=fun e s'=>wpAny (model P w) (A.deeper (envOfC qual scope s.heap.objs.size f cd)) (leaving (envOfC qual scope s.heap.objs.size f cd) e) (fun _ s''=>CX outer H s E e s'') (fun e' s''=>CX outer H s E e' s'') s'
theorem Vx{sc:Scope}{n:Nat}{x:Str}(h:sc.names.lookup x=some .cell):∃c,(cellsFrom n sc.names []).lookup x=some c:=by
 have q:=PySem.W.cellsFrom_some sc.names n [] (.inl h)
 exact Option.isSome_iff_exists.mp q
theorem J1{CX:CXT}{P:Program}{w:World}{K:PySem.W.Frag}{mg:Str→Option Value}{base:Heap}{N ps:List Str}{qual:Str}{scope:Scope}{f:Addr}{cd:Value}{A:Around}{outer:List Env}{s s1:Shared}{H:Hp}{E:XK}{us:List Value}{vs:List V}
  (S:zN N ps scope) (hd:A.handled=none) (e0:Mf P w K mg base A outer s H) (hl:vs.length=ps.length) (r:Vals vs us)
  (x:InCallC s s.heap.objs.size (bindL (envOfC qual scope s.heap.objs.size f cd).kindOf (ps.zip us) fun _=>none) (cellsFrom (s.heap.objs.size+1) scope.names []) (bindC (envOfC qual scope s.heap.objs.size f cd).kindOf (ps.zip us) fun _=>none) s1) :
  Inv (Wk CX P w K mg base N qual scope f cd A outer s H E) [] (start N vs) H s1:=by
 have hpl:ps.length≤N.length:=by have:=congrArg List.length S.pre;rw[length_take] at this;omega
 obtain⟨h1,tk,rfl,hk⟩:=x.done
 have noA:∀b:Addr,b∉(Wk CX P w K mg base N qual scope f cd A outer s H E).ex:=fun b z=>absurd (show b∈([]:List Addr) from z) (by simp)
 refine⟨⟨e0.mod,S.kind,rfl,rfl,le_refl _,fun y z c h1 h2=>?_,fun y hy=>?_,fun y c _ h=>?_,fun _=>hd,Around.frames_deeper e0.frames,.inr ⟨rfl,rfl⟩,fun b z=>absurd z (noA b),e0.bs,e0.bsz,fun b _ _=>noA b,fun b z=>absurd z (noA b),e0.funs,e0.frf⟩,
  rfl,e0.bare,Un.kept hk,⟨_,x.toInCall.ns,fun i y v h1 h2 h3=>?_⟩,fun y c h=>⟨_,x.cell y c h⟩,e0.hok.fresh (le_refl _),fun y c h=>?_,fun p hp=>absurd (show p∈([]:List (Addr×Obj)) from hp) (by simp),e0.hok.kept hk,?_⟩
 ·exact name_of_addr x.apart (PySem.mem_of_lookup h1) (PySem.mem_of_lookup h2)
 ·have hy:scope.names.lookup y=some .cell∨scope.names.lookup y=some .free:=hy
  rcases hy with hy|hy
  ·exact Vx hy
  ·exact absurd rfl (S.nofree _ (PySem.mem_of_lookup hy))
 ·exact le_of_lt (x.above y c (PySem.mem_of_lookup h))
 ·have hi:i<vs.length:=by
   unfold start at h2
   by_cases hi:i<vs.length
   ·exact hi
   ·rw[getElem?_append_right (by simpa using hi)] at h2
    rw[getElem?_replicate] at h2
    split at h2 <;> cases h2
  have ha:vs[i]?=some v:=by
   unfold start at h2
   rw[getElem?_append_left (by simpa using hi),getElem?_map] at h2
   cases e:vs[i]? with
   |none=>rw[e] at h2;cases h2
   |some a=>rw[e] at h2;cases h2;rfl
  obtain⟨u,hu,rv⟩:=r.get ha
  have hp:ps[i]?=some y:=by
   rw[← S.pre,List.getElem?_take_of_lt (by omega)];exact h1
  have ndP:ps.Nodup:=by rw[← S.pre];exact S.nd.sublist (List.take_sublist _ _)
  refine⟨u,rv,?_⟩
  rcases S.par y (mem_of_getElem? hp) with k|k
  ·exact .inl ⟨k,XD ndP hp hu k⟩
  ·obtain⟨c,e⟩:=Vx (n:=s.heap.objs.size+1) k
   refine .inr ⟨.inl k,c,e,?_⟩
   have q:=x.cell y c e
   rw[XF ndP hp hu (by show scope.names.lookup y≠_;rw[k];decide)] at q
   exact q
 ·exact e0.hok.fresh (le_of_lt (x.above y c (PySem.mem_of_lookup h)))
 ·unfold start
  show _=N.length
  rw[length_append,length_map,List.length_replicate]
  omega
theorem Lo{CX:CXT}{P:Program}{w:World}{K:PySem.W.Frag}{mg:Str→Option Value}{base:Heap}{k:Nat}{f:Addr}{name qual:Str}{params:Arguments}{body:List Stmt}{scope:Scope}{dV kV doc pm cdv ct oc:Value}{an od:Option Addr}
  {osl:Array (Option Value)} {N ps:List Str} {sp:Sp} (lk:K.lookup f=some ⟨oc,od,.func (fnOf name qual params body scope dV kV doc pm an cdv ct),osl⟩) (hcd:codeIn K cdv qual=true) (S:zN N ps scope)
  (len:∀vs H Q E,sp vs H Q E→vs.length=ps.length)
  (hbody:∀(A:Around) (outer:List Env) (s:Shared) (H:Hp) (vs:List V) (Q:VK) (E:XK),Room k (A.deeper (envOfC qual scope s.heap.objs.size f cdv))→sp vs H Q E →
   ∃t,PSs (Wk CX P w K mg base N qual scope f cdv A outer s H E) body t∧t { nx:=fun _ H'=>Q .non H',rt:=Q } (start N vs) H) :
  FnOk P w K mg base CX (k+1) f (fnOf name qual params body scope dV kV doc pm an cdv ct) ps sp:=by
 refine⟨len,fun A outer s H args us vs Q E hr e0 hb r hsp=>?_⟩
 have hl:=len _ _ _ _ hsp
 have KX:K.In s.heap:=e0.mod.kin.keeps fun b o e=>(e0.bs b o e).1
 have lim:s.heap.NoLimit:=e0.mod.nolimit.keeps fun b o e=>(e0.bs b o e).1
 have hkind:∀y∈ps.zip us,scope.names.lookup y.1=some .local∨(scope.names.lookup y.1=some .cell∧((cellsFrom (s.heap.objs.size+1) scope.names []).lookup y.1).isSome=true):=fun ⟨n,v⟩ hy=>by
  rcases S.par n (List.of_mem_zip hy).1 with q|q
  ·exact .inl q
  ·exact .inr ⟨q,PySem.W.cellsFrom_some _ _ _ (.inl q)⟩
 refine codeAny_call_function hr.depth (KX _ _ lk) rfl S.co S.gen rfl (PySem.W.codeRec_of KX hcd) (hb _ _ _ _ ?_)
 refine wpAny_newFunctionEnv_cells S.kind hkind fun env he s1 x=>?_
 subst he
 refine⟨lim.keeps x.toInCall.keep,codeAny_func ?_⟩
 obtain⟨t,ht,hq⟩:=hbody A outer s H vs Q E (hr.deeper _) hsp
 have I:Inv (Wk CX P w K mg base N qual scope f cdv A outer s H E) [] (start N vs) H s1:=J1 S hr.hd e0 hl r x
 refine wpAny_mono (ht [] s1 (start N vs) H _ I hq) (fun fl s' hs=>?_) fun e s' hs=>hs
 have fin:∀{σ':St} {H':Hp} {v:V} {u:Value},Inv (Wk CX P w K mg base N qual scope f cdv A outer s H E) [] σ' H' s'→RelV v u→Q v H'→CE outer P w H s Q u s':=
  fun {σ' H' v u} J rv q=>⟨v,H',J.os,J.bare,J.base,J.hok,rv,q⟩
 cases fl with
 |ret u=>
  obtain⟨v,σ',H',J,rv,q⟩:=hs
  exact fin J rv q
 |next=>
  obtain⟨σ',H',J,q⟩:=hs
  exact fin (v:=V.non) (u:=Value.none) J rfl q
 |brk=>
  obtain⟨_,_,_,q⟩:=hs
  exact False.elim q
 |cont=>
  obtain⟨_,_,_,q⟩:=hs
  exact False.elim q
section
variable{X:Cx}{x:Str}{p pos:Pos}{e:Expr}{es:List Expr}{t:TA}{id T:String}{r:List V→Hp→VK→Prop}
def tCB(r:List V→Hp→VK→Prop)(t:TA):TE:=fun σ H Q=>t σ H fun vs H1=>r vs H1 Q
theorem pe_callB(hc:CallR X (.builtin id) r)(hg:Gl X x)(hm:X.mg x=none)(hv:bootBuiltins x=some (.builtin id))(ha:PA X (e::es) t)(hn:x ≠ "__name__" := by decide)(hdb:(x==("__debug__" : Str))=false:=by decide)
  (he:starEach (e::es) X.env=(false,eval e X.env)::starEach es X.env:=by rfl) (hpl:(backTo pos (starEach es X.env)).any (·.1)=false:=by rfl):PE X (.Call (.Name x p) (e::es) [] pos) (tCB r t):=by
 intro pins s σ H Q I h
 refine wpAny_Call_Name_kw (vt I hg hm hv ?_ hn hdb)
 exact PyProof.Rows.callWith_builtin1 (thn (ha pos pins s σ H _ I h) fun us s1 ⟨vs,H1,I1,r1,q1⟩=>hc pins s1 σ H1 vs us Q I1 r1 q1) he hpl
end
end L2
namespace HT
open PySem PyProof.Rows
section
open PySem.SeqAt
open PySem.AutoSeq1 (wpAny_loadPart')
open PySem.MeetsSeq PySem.MeetsSeq2 PySem.MeetsSeq3
end
section
variable{prog:Program}{w:World}{A:Around}{E:Value→Shared→Prop}{s:Shared}
def sIx(n d:Nat):Option Int→Nat
 |none=>d
 |some v=>if v<0 then (v+(n:Int)).toNat else min v.toNat n
end
end HT
namespace L2
open PySem PySem.Spec PyProof.Rows
abbrev TO:=St→Hp→(Option Int→Hp→Prop)→Prop
def PO(X:Cx)(e:Option Expr)(t:TO):Prop:=
 ∀(pins:List (Addr×Obj)) (s:Shared) (σ:St) (H:Hp) (Q:Option Int→Hp→Prop),Inv X pins σ H s→t σ H Q →
  wpAny (model X.prog X.w) X.A (evalPart e X.env) (fun u s'=>∃o H',Inv X pins σ H' s'∧IsPart u o∧Q o H') X.xe s
def Mo:TO:=fun _ H Q=>Q none H
def tPart(t:TE):TO:=fun σ H Q=>t σ H fun x H1=>∃i,x=.int i∧Q (some i) H1
section
variable{X:Cx}{e:Expr}{te:TE}{lo hi:Option Expr}{tl th:TO}{pos p2:Pos}
theorem MR:PO X none Mo:=by
 intro pins s σ H Q I h
 rw[evalPart_none]
 exact wpAny_pure ⟨none,H,I,.none,h⟩
theorem MQ(h:PE X e te):PO X (some e) (tPart te):=by
 intro pins s σ H Q I hw
 rw[evalPart_some]
 refine thn (h pins s σ H _ I hw) fun u s1 ⟨x,H1,I1,r1,q1⟩=>?_
 obtain⟨i,rfl,q⟩:=q1
 obtain⟨t,rfl⟩:=r1
 exact⟨some i,H1,I1,.int i t,q⟩
def SlR(X:Cx)(r:V→Option Int→Option Int→Hp→VK→Prop):Prop:=
 ∀(pins:List (Addr×Obj)) (s:Shared) (σ:St) (H:Hp) (x:V) (v vl vu:Value) (lo hi:Option Int) (sl:Addr) (Q:VK),Inv X pins σ H s→RelV x v→s.heap.IsSliceOf sl vl vu .none→IsPart vl lo→IsPart vu hi→r x lo hi H Q →
  ∃T id,typeLookup (.type T) "__getitem__" = pure (some (.builtin id))∧s.TypeIs v T∧wpAny (model X.prog X.w) X.A (getItem v (.ref sl)) (EP X pins σ Q) X.xe s
theorem SlR.or{r r':V→Option Int→Option Int→Hp→VK→Prop}(h:SlR X r)(h':SlR X r'):SlR X (fun x lo hi H Q=>r x lo hi H Q∨r' x lo hi H Q):=by
 intro pins s σ H x v vl vu lo hi sl Q I rx hs pl pu q
 rcases q with q|q
 ·exact h pins s σ H x v vl vu lo hi sl Q I rx hs pl pu q
 ·exact h' pins s σ H x v vl vu lo hi sl Q I rx hs pl pu q
def tSl(r:V→Option Int→Option Int→Hp→VK→Prop)(te:TE)(tl th:TO):TE:=fun σ H Q=>te σ H fun x H1=>tl σ H1 fun l H2=>th σ H2 fun u H3=>r x l u H3 Q
theorem QY{r:V→Option Int→Option Int→Hp→VK→Prop}(hr:SlR X r)(he:PE X e te)(hl:PO X lo tl)(hu:PO X hi th):PE X (.Subscript e (.Slice lo hi none p2) pos) (tSl r te tl th):=by
 intro pins s σ H Q I h
 refine Subscript_ (thn (he pins s σ H _ I h) fun v s1 ⟨x,H1,I1,r1,q1⟩=>?_)
 refine wpAny_Slice (thn (hl pins s1 σ H1 _ I1 q1) fun vl s2 ⟨l,H2,I2,pl,q2⟩=>thn (hu pins s2 σ H2 _ I2 q2) fun vu s3 ⟨u,H3,I3,pu,q3⟩=>?_)
 rw[evalPart_none]
 refine wpAny_pure ?_
 have I4:Inv X pins σ H3 { s3 with heap:=s3.heap.push { cls:=.type "slice", data:=.fields #[vl,vu,.none] } }:=I3.kept (t':=s3.toks) fun b ob q=>Heap.get?_push_of_some _ q
 obtain⟨T,id,hT,ht,hg⟩:=hr pins { s3 with heap:=s3.heap.push { cls:=.type "slice", data:=.fields #[vl,vu,.none] } } σ H3 x v vl vu l u s3.heap.objs.size Q I4 r1 (Heap.IsSliceOf.new ..) pl pu q3
 show wpAny (model X.prog X.w) X.A (subscriptTail e (.Slice lo hi none p2) v (.ref s3.heap.objs.size)) (EP X pins σ Q) X.xe { s3 with heap:=s3.heap.push { cls:=.type "slice", data:=.fields #[vl,vu,.none] } }
 exact tail_any (ops:=[.ref s3.heap.objs.size,v]) ht hT hg (by with_unfolding_all rfl)
def Qf(xs:List V)(lo hi:Option Int):List V:=(xs.drop (HT.sIx xs.length 0 lo)).take (HT.sIx xs.length xs.length hi-HT.sIx xs.length 0 lo)
theorem Vv(xs:List V)(lo hi:Option Int):(Qf xs lo hi).length≤xs.length:=by
 unfold Qf
 rw[length_take,length_drop]
 omega
end
def ixN(n:Nat)(i:Int):Option Nat:=if 0≤i then (if i<n then some i.toNat else none) else if -(n:Int)≤i then some (i+n).toNat else none
def atI{α:Type}(xs:List α)(i:Int):Option α:=(ixN xs.length i).bind fun j=>xs[j]?
theorem U0{n:Nat}{i:Int}{j:Nat}(h:ixN n i=some j):seqIndex? i n=some j∧j<n∧-(n:Int)≤i∧i<n:=by
 unfold ixN at h
 by_cases h0:0≤i
 ·rw[if_pos h0] at h
  by_cases h1:i<n
  ·rw[if_pos h1] at h
   have e:i.toNat=j:=Option.some.inj h
   exact⟨by rw[seqIndex_of h0 h1,e],by omega,by omega,h1⟩
  ·rw[if_neg h1] at h;cases h
 ·rw[if_neg h0] at h
  by_cases h1 : -(n:Int)≤i
  ·rw[if_pos h1] at h
   have e:(i+n).toNat=j:=Option.some.inj h
   exact⟨by rw[seqIndex_neg (by omega) h1,e],by omega,h1,by omega⟩
  ·rw[if_neg h1] at h;cases h
theorem Wp{α:Type}{xs:List α}{i:Int}{v:α}(h:atI xs i=some v):∃j,seqIndex? i xs.length=some j∧xs[j]?=some v∧j<xs.length∧-(xs.length:Int)≤i∧i<xs.length:=by
 unfold atI at h
 cases e:ixN xs.length i with
 |none=>rw[e] at h;cases h
 |some j=>
  rw[e] at h
  obtain⟨h1,h2,h3,h4⟩:=U0 e
  exact⟨j,h1,h,h2,h3,h4⟩
theorem Wo{α:Type}{xs:List α}{j:Nat}{v:α}(h:xs[j]?=some v):atI xs (j:Int)=some v:=by
 have hj:j<xs.length:=(List.getElem?_eq_some_iff.mp h).1
 have e:ixN xs.length (j:Int)=some j:=by
  unfold ixN
  rw[if_pos (by omega),if_pos (by omega)];simp
 unfold atI;rw[e];exact h
def Wt(b:Expr):Prop:=∀o i,subscripted b false o i=operate [o,i] (getItem o i)
def IxR(X:Cx)(r:R2):Prop:=
 ∀(value slice:Expr) (pins:List (Addr×Obj)) (s:Shared) (σ:St) (H:Hp) (x y:V) (v u:Value) (Q:VK),Inv X pins σ H s→RelV x v→RelV y u→r x y H Q →
  subscripted slice false v u=operate [v,u] (getItem v u)→wpAny (model X.prog X.w) X.A (subscriptTail value slice v u) (EP X pins σ Q) X.xe s
def MtR(X:Cx)(id:String)(r:V→List V→Hp→VK→Prop):Prop:=
 ∀(pins:List (Addr×Obj)) (s:Shared) (σ:St) (H:Hp) (x:V) (xs:List V) (v:Value) (us:List Value) (Q:VK),Inv X pins σ H s→RelV x v→Vals xs us→r x xs H Q →
  wpAny (model X.prog X.w) X.A (call (.builtin id) (v::us)) (EP X pins σ Q) X.xe s
section
variable{X:Cx}{a b:Expr}{ta tb:TE}{pos:Pos}
theorem IxR.or{r r':R2}(h:IxR X r)(h':IxR X r'):IxR X (fun x y H Q=>r x y H Q∨r' x y H Q):=by
 intro value slice pins s σ H x y v u Q I rx ry q hs
 rcases q with q|q
 ·exact h value slice pins s σ H x y v u Q I rx ry q hs
 ·exact h' value slice pins s σ H x y v u Q I rx ry q hs
theorem Lc{r:R2}(hr:IxR X r)(ha:PE X a ta)(hb:PE X b tb)(hs:Wt b):PE X (.Subscript a b pos) (tOp r ta tb):=by
 intro pins s σ H Q I h
 exact Subscript_ (zd6 ha hb I h fun v u s2 x y H2 I2 rx ry q=>hr a b pins s2 σ H2 x y v u Q I2 rx ry q (hs _ _))
def rIxL(K:PySem.W.Frag):R2:=fun x y H Q=>∃p xs i v,x=.ref p∧y=.int i∧SqL K H p xs∧atI xs i=some v∧Q v H
def rIxT(K:PySem.W.Frag):R2:=fun x y H Q=>∃p xs i v,x=.ref p∧y=.int i∧SqT K H p xs∧atI xs i=some v∧Q v H
def rIxS:R2:=fun x y H Q=>∃z i c,x=.str z∧y=.int i∧z.length≤sizeLine∧atI z.cps.toList i=some c∧Q (.str ⟨#[c]⟩) H
theorem ix_list:IxR X (rIxL X.K):=by
 intro value slice pins s σ H x y v u Q I rx ry h hs
 obtain⟨p,xs,i,z,rfl,rfl,hq,he,q⟩:=h
 cases rx
 obtain⟨t,rfl⟩:=ry
 obtain⟨its,r,pl,hz⟩:=I.list hq
 obtain⟨j,h1,h2,h3,h4,h5⟩:=Wp he
 obtain⟨w,ew,rw'⟩:=r.get h2
 have hl:=r.length
 have hn:=u3
 have fin:EP X pins σ Q w s:=⟨z,H,I,rw',q⟩
 by_cases h0:0≤i
 ·have hj:i.toNat=j:=by
   rw[seqIndex_of h0 h5] at h1
   exact Option.some.inj h1
  exact item_listR pl.isList h0 (by omega) (by rw[hj];simpa using ew) fin hs
 ·have hj:(i+(its.toArray.size:Int)).toNat=j:=by
   rw[seqIndex_neg (by omega) h4] at h1
   rw[size_toArray,← hl]
   exact Option.some.inj h1
  exact subscriptTail_builtinR (x:=w) pl.isList.typeIs slot_list_getitem.lookup
   (wpAny_getItem_list_neg (Q:=fun r s'=>r=w∧EP X pins σ Q r s') pl.isList (by omega) (by rw[size_toArray] <;> omega) (by omega) (by rw[hj];simpa using ew) ⟨rfl,fin⟩) hs
theorem ix_tup:IxR X (rIxT X.K):=by
 intro value slice pins s σ H x y v u Q I rx ry h hs
 obtain⟨p,xs,i,z,rfl,rfl,hq,he,q⟩:=h
 cases rx
 obtain⟨t,rfl⟩:=ry
 obtain⟨its,r,pl,hz⟩:=I.tuple hq
 obtain⟨j,h1,h2,h3,h4,h5⟩:=Wp he
 obtain⟨w,ew,rw'⟩:=r.get h2
 have hl:=r.length
 have hn:=u3
 have fin:EP X pins σ Q w s:=⟨z,H,I,rw',q⟩
 exact subscriptTail_builtinR (x:=w) pl.typeIs slot_tuple_getitem.lookup
  (getItem_tuple (j:=j) (Q:=fun r s'=>r=w∧EP X pins σ Q r s') pl (by omega) (by omega) (by rw[size_toArray,← hl];exact h1) (by simpa using ew) ⟨rfl,fin⟩) hs
theorem zb4:IxR X rIxS:=by
 intro value slice pins s σ H x y v u Q I rx ry h hs
 obtain⟨z,i,c,rfl,rfl,hz,he,q⟩:=h
 obtain⟨t,rfl⟩:=rx
 obtain⟨t',rfl⟩:=ry
 obtain⟨j,h1,h2,h3,h4,h5⟩:=Wp he
 have hl:z.cps.toList.length=z.length:=by simp[Str.length]
 rw[hl] at h1 h4 h5
 have hn:=u3
 exact tail_any (typeIs_str s z t) slot_str_getitem.lookup (getItem_str (c:=c) (by
  have e1:decide (i < -(2 ^ 63:Int))=false:=decide_eq_false (by omega)
  have e2:decide (i ≥ 2 ^ 63)=false:=decide_eq_false (by omega)
  rw[e1,e2,Bool.or_false]) (by rw[h1];simpa using h2) ⟨.str ⟨#[c]⟩,H,I.tok _,⟨_,rfl⟩,q⟩) hs
def rIx(K:PySem.W.Frag):R2:=fun x y H Q=>rIxL K x y H Q∨rIxT K x y H Q∨rIxS x y H Q
theorem zb5:IxR X (rIx X.K):=ix_list.or (ix_tup.or zb4)
theorem V1(its:List Value)(n j:Nat)(u:Value):Obj.mapSeq (·.setIfInBounds j u) { cls:=.type "list", data:=.seq its.toArray n } = { cls:=.type "list", data:=.seq (its.set j u).toArray n }:=by
 simp[Obj.mapSeq]
theorem Inv.lst{pins:List (Addr×Obj)}{σ:St}{H:Hp}{s:Shared}{p:Addr}{xs:List V}(I:Inv X pins σ H s)(h:H p=some (.lst xs)) :
  ∃(its:List Value) (n:Nat),Vals xs its∧s.heap.get? p=some { cls:=.type "list", data:=.seq its.toArray n }∧xs.length≤sizeLine:=by
 obtain⟨z,its,n,r,e⟩:=I.hok p _ h
 exact⟨its,n,r,e,z⟩
theorem Inv.lstUpd{pins:List (Addr×Obj)}{σ:St}{H:Hp}{s:Shared}{p:Addr}{xs ys:List V}{its its':List Value}{n n':Nat}{f:Obj→Obj}(I:Inv X pins σ H s)(h:H p=some (.lst xs))
  (ho:s.heap.get? p=some { cls:=.type "list", data:=.seq its.toArray n }) (hf:f { cls:=.type "list", data:=.seq its.toArray n } = { cls:=.type "list", data:=.seq its'.toArray n' }) (r:Vals ys its') (hz:ys.length≤sizeLine) (t:Nat) :
  Inv X pins σ (upd H p (.lst ys)) { s with heap:=s.heap.update p f,toks:=t }:=by
 have e:(s.heap.update p f).get? p=some { cls:=.type "list", data:=.seq its'.toArray n' }:=by
  rw[Heap.get?_update_self f ho (by rw[hf] <;> rfl),hf]
 refine I.write (x:=p) (e:=p) (by rw[h];trivial) (.inl rfl) (fun b u hb q=>(Heap.get?_update_other _ _ (Ne.symm hb)).trans q) ⟨_,e⟩ ?_
 exact⟨hz,its',n',r,e⟩
def rSetL:V→V→V→Hp→(Hp→Prop)→Prop:=fun o i v H Q=>∃p xs k j,o=.ref p∧i=.int k∧H p=some (.lst xs)∧ixN xs.length k=some j∧Q (upd H p (.lst (xs.set j v)))
theorem QD:PSet X rSetL:=by
 intro pins s σ H o i v ov iv u Q I ro ri rv h
 obtain⟨p,xs,k,j,rfl,rfl,hp,hj,q⟩:=h
 cases ro
 obtain⟨t,rfl⟩:=ri
 obtain⟨its,n,r,ho,hz⟩:=I.lst hp
 obtain⟨h1,h2,h3,h4⟩:=U0 hj
 have hl:=r.length
 have hn:=u3
 have I':Inv X pins σ (upd H p (.lst (xs.set j v))) { s with heap:=s.heap.update p (Obj.mapSeq (·.setIfInBounds j u)) }:=
  I.lstUpd hp ho (V1 its n j u) (r.set rv j) (by rw[length_set];exact hz) s.toks
 by_cases h0:0≤k
 ·have hk:k.toNat=j:=by
   rw[seqIndex_of h0 h4] at h1
   exact Option.some.inj h1
  exact PySem.W.ki_setAt ho h0 (by omega) (by rw[size_toArray,← hl];exact h4) (by rw[hk];exact⟨_,I',q⟩)
 ·have hk:(k+(its.toArray.size:Int)).toNat=j:=by
   rw[seqIndex_neg (by omega) h3] at h1
   rw[size_toArray,← hl]
   exact Option.some.inj h1
  exact PySem.W.ki_setBack ho (by omega) (by rw[size_toArray,← hl];exact h3) (by omega) (by rw[hk];exact⟨_,I',q⟩)
theorem XO(lo hi:Option Int)(n:Nat):(sliceBounds lo hi none n).1=((HT.sIx n 0 lo:Nat):Int)∧(sliceBounds lo hi none n).2.1=((HT.sIx n n hi:Nat):Int)∧(sliceBounds lo hi none n).2.2=1:=by
 refine⟨?_,?_,rfl⟩
 ·cases lo with
  |none=>simp[sliceBounds,HT.sIx]
  |some i=>
   simp only[sliceBounds,HT.sIx,Option.getD_none,show(1:Int) > 0 by decide,if_true]
   by_cases h:i<0
   ·simp only[h,if_true] <;> omega
   ·simp only[h,if_false] <;> omega
 ·cases hi with
  |none=>simp[sliceBounds,HT.sIx]
  |some i=>
   simp only[sliceBounds,HT.sIx,Option.getD_none,show(1:Int) > 0 by decide,if_true]
   by_cases h:i<0
   ·simp only[h,if_true] <;> omega
   ·simp only[h,if_false] <;> omega
theorem YU(its:List Value)(lo hi:Option Int):slicePick its.toArray lo hi none=((its.drop (HT.sIx its.length 0 lo)).take (HT.sIx its.length its.length hi-HT.sIx its.length 0 lo)).toArray:=by
 obtain⟨h1,h2,h3⟩:=XO lo hi its.toArray.size
 unfold slicePick
 rw[h1,h2,h3]
 simp only[sliceRange_one,pick_run,size_toArray] <;> rfl
def rSlL(K:PySem.W.Frag):V→Option Int→Option Int→Hp→VK→Prop:=fun x lo hi H Q=>∃a xs,x=.ref a∧SqL K H a xs∧∀p,H p=none→Q (.ref p) (upd H p (.lst (Qf xs lo hi)))
theorem Mz:SlR X (rSlL X.K):=by
 intro pins s σ H x v vl vu lo hi sl Q I rx hs pl pu h
 obtain⟨a,xs,rfl,hx,q⟩:=h
 cases rx
 obtain⟨its,r,ht,hz⟩:=I.list hx
 have hlen:=r.length
 refine⟨"list", _,slot_list_getitem.lookup,ht.isList.typeIs,?_⟩
 refine wpAny_getItem_list_slice ht.isList hs pl pu .none (by simp) ?_ (by rw[size_toArray] <;> omega)
 rw[YU,← hlen]
 refine⟨.ref s.heap.objs.size,_,I.laid (t':=s.toks) (o:=.lst (Qf xs lo hi)) (fun b ob q=>Heap.get?_push_of_some _ q) (le_refl _) ?_,rfl,q _ (I.hok.fresh (le_refl _))⟩
 exact⟨le_trans (Vv xs lo hi) hz,_,0,(r.drop (HT.sIx xs.length 0 lo)).take (HT.sIx xs.length xs.length hi-HT.sIx xs.length 0 lo),Heap.get?_push_size _ rfl⟩
theorem call_len_seq:CallR X (.builtin "len") (fun xs H Q=>∃p ys,xs=[.ref p]∧(SqL X.K H p ys∨SqT X.K H p ys)∧Q (.int ys.length) H):=by
 intro pins s σ H xs us Q I r h
 obtain⟨p,ys,rfl,hq,q⟩:=h
 obtain⟨u,rfl,rx⟩:=vals1 r
 cases rx
 have hn:=u3
 rcases hq with hq|hq
 ·obtain⟨its,r',pl,hz⟩:=I.list hq
  have hlen:=r'.length
  exact Calls.call_len_list pl.isList (by simp only[size_toArray] <;> omega) ⟨.int ys.length,H,I.tok _,⟨s.toks+1,by rw[size_toArray,hlen]⟩,q⟩
 ·obtain⟨its,r',pl,hz⟩:=I.tuple hq
  have hlen:=r'.length
  exact len_tuple pl (by simp only[size_toArray] <;> omega) ⟨.int ys.length,H,I.tok _,⟨s.toks+1,by rw[size_toArray,hlen]⟩,q⟩
theorem Wm:CallR X (.builtin "len") (fun xs H Q=>∃z,xs=[.str z]∧z.length≤sizeLine∧Q (.int z.length) H):=by
 intro pins s σ H xs us Q I r h
 obtain⟨z,rfl,hz,q⟩:=h
 obtain⟨u,rfl,t,rfl⟩:=vals1 r
 have hn:=u3
 exact len_str (by omega) ⟨.int z.length,H,I.tok _,⟨_,rfl⟩,q⟩
theorem CallR.or{f:Value}{r r':List V→Hp→VK→Prop}(h:CallR X f r)(h':CallR X f r'):CallR X f (fun xs H Q=>r xs H Q∨r' xs H Q):=by
 intro pins s σ H xs us Q I rs q
 rcases q with q|q
 ·exact h pins s σ H xs us Q I rs q
 ·exact h' pins s σ H xs us Q I rs q
def tyV(K:PySem.W.Frag)(T:String)(x:V)(H:Hp):Prop:=match x with
 |.str _=>T = "str"
 |.int _=>T = "int"
 |.ref p=>(T = "list" ∧ ∃xs,SqL K H p xs)∨(T = "tuple" ∧ ∃o,K.lookup p=some o∧o.cls=.type "tuple" ∧ o.dict=none) ∨
   (T = "dict" ∧ ((∃kvs,H p=some (.dK kvs))∨∃kvs,H p=some (.dT kvs)))∨(T = "set" ∧ ∃S n,H p=some (.set S n))
 |_=>False
theorem Qo{pins:List (Addr×Obj)}{σ:St}{H:Hp}{s:Shared}{T:String}{x:V}{v:Value}(I:Inv X pins σ H s)(r:RelV x v)(ty:tyV X.K T x H) :
  s.TypeIs v T∧∀a,v=.ref a→∃ob,s.heap.get? a=some ob∧ob.dict=none:=by
 cases x with
 |str z=>
  obtain⟨t,rfl⟩:=r
  cases (show T = "str" from ty)
  exact⟨typeIs_str s z t,fun _ e=>nomatch e⟩
 |int i=>
  obtain⟨t,rfl⟩:=r
  cases (show T = "int" from ty)
  exact⟨typeIs_int s i t,fun _ e=>nomatch e⟩
 |ref p=>
  cases r
  rcases ty with ⟨rfl,xs,hq⟩|⟨rfl,o,hk,hc,hd⟩|⟨rfl,hk⟩|⟨rfl,S,n,hk⟩
  ·obtain⟨its,_,pl,_⟩:=I.list hq
   refine⟨pl.isList.typeIs,fun a e=>?_⟩
   cases e
   obtain⟨o,n,e,c,hd,_⟩:=pl
   exact⟨o,e,hd⟩
  ·refine⟨⟨o,I.kIn p o hk,hc⟩,fun a e=>?_⟩
   cases e
   exact⟨o,I.kIn _ o hk,hd⟩
  ·have z:∃o,s.heap.get? p=some o∧o.ExactDict:=by
    rcases hk with ⟨kvs,hk⟩|⟨kvs,hk⟩
    ·obtain⟨_,_,_,_,o,_,_,e,ex,_⟩:=I.hok p _ hk
     exact⟨o,e,ex⟩
    ·obtain⟨_,_,_,_,o,_,_,e,ex,_⟩:=I.hok p _ hk
     exact⟨o,e,ex⟩
   obtain⟨o,e,ex⟩:=z
   refine⟨⟨o,e,ex.1⟩,fun a e2=>?_⟩
   cases e2
   exact⟨o,e,ex.2.1⟩
  ·obtain⟨o,_,_,_,e,ex,_⟩:=I.hok p _ hk
   refine⟨⟨o,e,ex.1⟩,fun a e2=>?_⟩
   cases e2
   exact⟨o,e,ex.2.1⟩
 |_=>exact False.elim ty
def tBM0(K:PySem.W.Frag)(T:String)(r:V→List V→Hp→VK→Prop)(to:TE):TE:=fun σ H Q=>to σ H fun x H1=>tyV K T x H1∧r x [] H1 Q
def tBM(K:PySem.W.Frag)(T:String)(r:V→List V→Hp→VK→Prop)(to:TE)(t:TA):TE:=fun σ H Q=>to σ H fun x H1=>tyV K T x H1∧t σ H1 fun xs H2=>r x xs H2 Q
variable{o e:Expr}{es:List Expr}{to:TE}{t:TA}{name:Str}{apos cpos:Pos}{T id:String}{r:V→List V→Hp→VK→Prop}
theorem LX(pa:PlainAttrs T)(slot:Slot T name id)(hty:typeOf (.builtin id)=pure (.type "method_descriptor"))(hm:MtR X id r)(ho:PE X o to)
  (hbase:attributeBase o name X.env (eval o X.env)=eval o X.env:=by rfl) (hline:(apos.endLine==cpos.line)=true:=by rfl):PE X (.Call (.Attribute o name apos) [] [] cpos) (tBM0 X.K T r to):=by
 intro pins s σ H Q I h
 refine wpAny_Call_method0_late hbase hline (thn (ho pins s σ H _ I h) fun v s1 ⟨x,H1,I1,r1,ty,q1⟩=>?_)
 obtain⟨h1,h2⟩:=Qo I1 r1 ty
 exact⟨T,id,pa,slot,hty,h1,h2,Calls.callWith_builtin rfl (PySem.evalArgs_none (hm pins s1 σ H1 x [] v [] Q I1 r1 .nil q1))⟩
theorem Ld(pa:PlainAttrs T)(slot:Slot T name id)(hty:typeOf (.builtin id)=pure (.type "method_descriptor"))(hm:MtR X id r)(ho:PE X o to)(ha:PA X (e::es) t)
  (hbase:attributeBase o name X.env (eval o X.env)=eval o X.env:=by rfl)
  (hfew:((backTo cpos (starEach (e::es) X.env)).all (fun x=>!x.1)&&(backToKw cpos (keywordEach [] X.env)).all (fun x=>x.1.isSome)
   && decide ((e::es).length+([]:List Keyword).length+(if ([]:List Keyword).isEmpty then 0 else 1)<30))=true:=by rfl)
  (hline:(apos.endLine==cpos.line)=true:=by rfl) (hs:starEach (e::es) X.env=(false,eval e X.env)::starEach es X.env:=by rfl) (hplain:(backTo cpos (starEach es X.env)).any (·.1)=false:=by rfl) :
  PE X (.Call (.Attribute o name apos) (e::es) [] cpos) (tBM X.K T r to t):=by
 intro pins s σ H Q I h
 refine wpAny_Call_method_late hbase hfew hline rfl (thn (ho pins s σ H _ I h) fun v s1 ⟨x,H1,I1,r1,ty,q1⟩=>?_)
 obtain⟨h1,h2⟩:=Qo I1 r1 ty
 refine⟨T,id,pa,slot,hty,h1,h2,?_⟩
 have hA:=ha cpos pins s1 σ H1 _ I1 q1
 rw[hs] at hA ⊢
 refine Calls.callWith_builtin (by show(false||(backTo cpos (starEach es X.env)).any (·.1))=false;rw[hplain] <;> rfl) (Calls.evalArgs_plain ?_)
 exact thn hA fun us s2 ⟨vs,H2,I2,r2,q2⟩=>hm pins s2 σ H2 x vs v us Q I2 r1 r2 q2
end
def MtM(X:Cx)(id:String)(r:V→List V→Hp→VK→Prop):Prop:=
 ∀(pins:List (Addr×Obj)) (s:Shared) (σ:St) (H:Hp) (x:V) (xs:List V) (v:Value) (us:List Value) (Q:VK),Inv X pins σ H s→RelV x v→Vals xs us→r x xs H Q →
  wpAny (model X.prog X.w) X.A (call (.builtin id) (v::us)) (EP X pins σ Q) X.xe s
theorem Vals.one:∀{x:V} {us:List Value},Vals [x] us→∃u,us=[u]∧RelV x u
 |_,_,.cons r .nil=>⟨_,rfl,r⟩
theorem Vals.reverse{xs:List V}{us:List Value}(h:Vals xs us):Vals xs.reverse us.reverse:=by
 induction h with
 |nil=>exact .nil
 |cons r t ih=>rw[List.reverse_cons,List.reverse_cons];exact Vals.append ih (.cons r .nil)
theorem Vals.rep{xs:List V}{us:List Value}(h:Vals xs us):∀k:Nat,Vals (List.replicate k xs).flatten (List.replicate k us).flatten
 |0=>.nil
 |k+1=>by
  rw[replicate_succ,replicate_succ,flatten_cons,flatten_cons]
  exact Vals.append h (Vals.rep h k)
theorem foldl_rep(its:List Value):∀(k:Nat) (acc:List Value),
  List.foldl (fun x1 x2=>x1++x2) acc.toArray (List.replicate k its.toArray)=(acc++(List.replicate k its).flatten).toArray
 |0,acc=>by simp
 |k+1,acc=>by
  have e:acc.toArray++its.toArray=(acc++its).toArray:=by simp
  have e2:(acc++its)++(List.replicate k its).flatten=acc++(List.replicate (k+1) its).flatten:=by
   rw[replicate_succ,flatten_cons,append_assoc]
  rw[← e2,← foldl_rep its k (acc++its),← e,replicate_succ,foldl_cons]
section
variable{X:Cx}{pins:List (Addr×Obj)}{σ:St}{H:Hp}{s:Shared}{l b:Addr}{xs ys zs:List V}
theorem Inv.lset{its its':List Value}{n:Nat}{f:Array Value→Array Value}{t':Nat}(I:Inv X pins σ H s)(hH:H l=some (.lst xs))
  (e:s.heap.get? l=some { cls:=.type "list", data:=.seq its.toArray n }) (hf:f its.toArray=its'.toArray) (hv:Vals ys its') (hz:ys.length≤sizeLine) :
  Inv X pins σ (upd H l (.lst ys)) { s with heap:=s.heap.update l (Obj.mapSeq f),toks:=t' }:=by
 have q:=PySem.IsL.update e f
 rw[hf] at q
 refine I.write (x:=l) (e:=l) (by rw[hH];exact trivial) (.inl rfl) (fun b' u hb hu=>(Heap.get?_update_other s.heap (Obj.mapSeq f) (Ne.symm hb)).trans hu) ⟨_,q⟩ ?_
 exact⟨hz,its',_,hv,q⟩
theorem Inv.lnew{its:List Value}{t':Nat}(I:Inv X pins σ H s)(hv:Vals ys its)(hz:ys.length≤sizeLine) :
  Inv X pins σ (upd H s.heap.objs.size (.lst ys)) { s with heap:=s.heap.push { cls:=.type "list", data:=.seq its.toArray },toks:=t' }:=
 I.laid (fun _ _ q=>Heap.get?_push_of_some _ q) (le_refl _) ⟨hz,its,0,hv,Heap.get?_push_size _ rfl⟩
theorem Inv.fresh(I:Inv X pins σ H s):H s.heap.objs.size=none:=I.hok.fresh (le_refl _)
theorem Inv.lstM(I:Inv X pins σ H s)(hH:H l=some (.lst xs)):xs.length≤sizeLine∧∃(its:List Value) (n:Nat),Vals xs its∧xs.length=its.length∧s.heap.get? l=some { cls:=.type "list", data:=.seq its.toArray n }:=by
 obtain⟨z,its,n,r,e⟩:=I.hok l _ hH
 exact⟨z,its,n,r,r.length,e⟩
theorem Gc{n:Nat}(h:n≤sizeLine):Builtin.List.listTooLong n=false:=by
 unfold Builtin.List.listTooLong
 exact decide_eq_false (by omega)
end
section
variable{X:Cx}
def ZO:V→List V→Hp→VK→Prop:=fun x vs H Q=>∃l xs y,x=.ref l∧vs=[y]∧H l=some (.lst xs)∧xs.length<sizeLine∧Q .non (upd H l (.lst (xs++[y])))
theorem Zc:MtM X "list.append" ZO:=by
 intro pins s σ H x vs v us Q I rx rv h
 obtain⟨l,xs,y,rfl,rfl,hH,hz,q⟩:=h
 cases rx
 obtain⟨u,rfl,ru⟩:=rv.one
 obtain⟨z,its,n,r,hl,e⟩:=I.lstM hH
 refine call_meets F.slot_list_append ⟨_,e,rfl⟩ F.entry_list_append (F.args_list_append_2 _ _) (PySem.list_append l its.toArray n u (by rw[size_toArray];omega)) ⟨e,?_⟩
 refine⟨.non,_,I.lset (its':=its++[u]) hH e (by simp) (r.append (.cons ru .nil)) ?_,rfl,q⟩
 rw[length_append,length_singleton]
 omega
def rCat:R2:=fun x y H Q=>∃l b xs zs,x=.ref l∧y=.ref b∧H l=some (.lst xs)∧H b=some (.lst zs)∧xs.length+zs.length≤sizeLine∧∀p,H p=none→Q (.ref p) (upd H p (.lst (xs++zs)))
theorem L7:OpR X (binaryOp .Add) rCat:=by
 intro pins s σ H x y v u Q I rx ry h
 obtain⟨l,b,xs,zs,rfl,rfl,hH,hB,hz,q⟩:=h
 cases rx
 cases ry
 obtain⟨z,its,n,r,hl,e⟩:=I.lstM hH
 obtain⟨z2,its2,n2,r2,hl2,e2⟩:=I.lstM hB
 refine PySem.P.add_list e e2 ?_ (by rw[size_toArray,size_toArray];omega)
 have ea:its.toArray++its2.toArray=(its++its2).toArray:=by simp
 rw[ea]
 exact⟨.ref _,_,I.lnew (t':=s.toks) (r.append r2) (by rw[length_append];omega),rfl,q _ I.fresh⟩
def rRep:R2:=fun x y H Q=>∃l k xs,x=.ref l∧y=.int k∧H l=some (.lst xs)∧-(2 ^ 63)≤k∧k<2 ^ 63∧xs.length*k.toNat≤sizeLine ∧
 ∀p,H p=none→Q (.ref p) (upd H p (.lst (List.replicate k.toNat xs).flatten))
theorem Tn{α:Type}(xs:List α)(k:Nat):(List.replicate k xs).flatten.length=k*xs.length:=by
 induction k with
 |zero=>simp
 |succ k ih=>rw[replicate_succ,flatten_cons,length_append,ih,Nat.succ_mul,Nat.add_comm]
theorem L4:OpR X (binaryOp .Mult) rRep:=by
 intro pins s σ H x y v u Q I rx ry h
 obtain⟨l,k,xs,rfl,rfl,hH,h1,h2,hz,q⟩:=h
 cases rx
 obtain⟨t,rfl⟩:=ry
 obtain⟨z,its,n,r,hl,e⟩:=I.lstM hH
 have hlen:its.toArray.size*k.toNat≤sizeLine:=by rw[size_toArray,← hl];exact hz
 have hcap:¬ its.toArray.size*k.toNat > (2 ^ 63-1) / 8:=by
  have:(sizeLine:Nat)≤(2 ^ 63-1) / 8:=by decide
  omega
 have hfit:¬ (!Builtin.List.listFitsIndex k)=true:=by
  rw[fitsIndex_both h1 h2]
  exact Bool.false_ne_true
 have hlong:¬ Builtin.List.listTooLong (its.toArray.size*k.toNat)=true:=by
  rw[Gc hlen]
  exact Bool.false_ne_true
 have hnew:List.foldl (fun x1 x2=>x1++x2) #[] (List.replicate (if its.toArray.isEmpty=true then 0 else k.toNat) its.toArray)=(List.replicate k.toNat its).flatten.toArray:=by
  have f0:∀m:Nat,List.foldl (fun x1 x2=>x1++x2) #[] (List.replicate m its.toArray)=(List.replicate m its).flatten.toArray:=fun m=>by
   have:=foldl_rep its m []
   rw[nil_append] at this
   exact this
  rw[f0]
  cases its with
  |nil=>simp
  |cons a r'=>rw[if_neg (by simp)]
 refine wpAny_binaryOp_repeat_ref (T := "list") (U := "int") (by decide) ⟨_,e,rfl⟩ (fun s'=>typeIs_int s' k t) noFill_list_mul F.fills_int_mul F.slot_int_rmul repeat_list F.slot_int_index.lookup
  (call_meets F.slot_int_rmul (typeIs_int s k t) F.entry_int_rmul (F.args_int_rmul_2 _ _) (int___rmul___int_list k t l its.toArray n)
   ⟨e,rfl,⟨_,e,rfl⟩,call_meets F.slot_list_mul ⟨_,e,rfl⟩ F.entry_list_mul (F.args_list_mul_2 _ _) (AutoListH.list___mul___list_int_3 l its.toArray n k t hfit hcap hlong) ⟨e,?_⟩⟩)
 rw[hnew]
 exact⟨.ref _,_,I.lnew (t':=s.toks) (r.rep k.toNat) (by rw[Tn,Nat.mul_comm];exact hz),rfl,q _ I.fresh⟩
end
section
variable{prog:Program}{w:World}{A:Around}{E:Value→Shared→Prop}{s:Shared}
end
section
variable{X:Cx}
end
end L2
namespace Att
open PySem PySem.W PySem.Calls PyProof.Rows
theorem ZM{P:Params}{h:Heap}:∀(ns:List Int) (vs:List Value),WellAll P h vs (ns.map WData.int)→IntsAre vs ns:=by
 intro ns
 induction ns with
 |nil=>
  intro vs w
  rw[map_nil] at w
  cases w
  exact .nil
 |cons n ns ih=>
  intro vs w
  rw[map_cons] at w
  cases w with
  |cons a b=>
   cases a
   exact .cons _ _ (ih _ b)
theorem Ju{l:OpenLaw}{n:Nat}(hn:l.most=some n){P:Params}{h:Heap}{args:List WData}{vals:List Value}
  (hpre:l.row.toRowW.claim.pre args=true) (hwl:WellAll P h vals args) :
  ∃a vs ns,vals=[Value.ref a]∧args=[WData.list (ns.map WData.int)]∧h.get? a=some { cls:=.type "list", data:=.seq vs.toArray }∧IntsAre vs ns∧ns.length≤n:=by
 have hsh:WShape.hasAll [] args [.list .int]=true:=(pre_splitW hpre).1
 have hc:l.pre.holds [] { args:=args }=true:=(pre_splitW hpre).2
 obtain⟨d,r,rfl,h1,h2⟩:=hasAllW_cons hsh
 obtain rfl:=hasAllW_nil h2
 obtain⟨xs,rfl,h3⟩:=hasW_list h1
 obtain⟨ns,rfl⟩:=items_int h3
 have hlen:ns.length≤n:=by
  unfold OpenLaw.pre at hc
  have h4:(WTm.not (.lt (.lit (.int (n:Int))) (.len (.arg 0)))).holds [] { args:=[.list (ns.map .int)] }=true:=by
   have h4:=(holds_andW hc).1
   rw[hn] at h4
   exact h4
  have h5:=condW_of h4 (w_not (w_lt w_lit (w_len_list (w_arg rfl))))
  rw[length_map] at h5
  refine Nat.le_of_not_lt fun q=>?_
  have q':(n:Int)<((ns.length:Nat):Int):=by omega
  first
   | (rw[decide_eq_true q'] at h5;exact absurd h5 (by decide))
   | (simp at h5;omega)
 cases hwl with
 |cons w1 w2=>
  cases w2
  cases w1 with
  |list ho hall=>exact⟨_,_,ns,rfl,rfl,ho,ZM ns _ hall,hlen⟩
theorem Jy(l:OpenLaw)(args:List WData):l.row.toRowW.claim.post args (.bool true) args=true:=
 postW_of (r:=l.row.toRowW) (X:=(true==true))
  (show WShape.has [] (.bool true) .bool=true by first|rfl|decide|simp[WShape.has,WShape.arms,WShape.armsAll])
  (show(WTm.eq .res (.lit (.bool true))).value [] { args:=args,res:=some (.bool true),after:=args }=some (.bool (true==true)) from w_eq_bool (w_res rfl) w_lit) rfl
theorem attach_call{l:OpenLaw}{n:Nat}{q:Program}{loose:List Str}{XP:(Str→Option Value)→Heap→Prop}{YP:World→Heap→Prop}{d:DefRec}
  (hn:l.most=some n) (hdf:d.params.defaults=[])
  (call:∀(w:World) (s₀ s₁:Shared) (mg mb:Str→Option Value) (fa:Addr) (o:Obj) (pm cd doc:Value) (a:Addr) (vs:List Value) (ns:List Int),
   Ground q loose [] XP w s₀ mg mb s₁.heap→YP w s₁.heap →
   s₁.heap.get? fa=some o→o.data=.func (docDef d.name d.params d.body d.scope pm cd doc)→s₁.heap.CodeRec cd d.name→mg d.name=some (.ref fa) →
   s₁.heap.get? a=some { cls:=.type "list", data:=.seq vs.toArray }→IntsAre vs ns→ns.length≤n→s₁.gens = #[] →
   codeAny (model l.prog w) callerA (.call (.ref fa) ⟨[.ref a],[]⟩) (fun r s'=>r=.ok (.ret (.bool true))∧OldK s₁.heap s'.heap∧s'.os=s₁.os∧AllBare s'.gens) s₁) :
  WalkO q loose XP YP l.row.toRowW d [] (fun f vs=>PySem.call f vs):=by
 intro w s₀ s₁ mg mb G Y fa o pm cd doc dV kV ho hd hcd hD hmg hg args vals as hpre hlay hrd hwl hlo
 obtain rfl:dV=.none:=Dflts.none hD hdf
 obtain rfl:kV=.none:=Dflts.noKw hD
 obtain⟨a,vs,ns,rfl,rfl,hobj,hints,hlen⟩:=Ju hn hpre hwl
 refine enter_call (codeAny_mono (call w s₀ s₁ mg mb fa o pm cd doc a vs ns G Y ho (fd_plain hd) hcd hmg hobj hints hlen hg) fun r s' hq=>?_)
 obtain⟨rfl,h2,h3,h4⟩:=hq
 exact⟨.inl ⟨.bool true,.bool true,[],rfl,fun _=>rfl,.bool true,Jy l _,fun _=>⟨List.Pairwise.nil,fun _ hm=>(nomatch hm)⟩⟩,h2,h3,h4⟩
section
variable{prog:Program}{w:World}{A:Around}{E:Value→Shared→Prop}{s:Shared}{K:Frag}
def ledger(h:Heap)(L d:Addr):List (Addr×Obj):=(List.range h.objs.size).filterMap fun a=>if a=L∨a=d then none else (h.get? a).map fun o=>(a,o)
end
end Att
namespace L2
open PySem PySem.Spec PyProof.Rows
theorem vals_ints:∀{vs:List Value} {ns:List Int},IntsAre vs ns→Vals (ns.map V.int) vs
 |_,_,.nil=>.nil
 |_,_,.cons n t h=>.cons ⟨t,rfl⟩ (vals_ints h)
def ze5(H:Hp):Prop:=∀b,H b=none∨∃o xs,H b=some (.frz o (.lst xs))
theorem Gw{P:Program}{w:World}{K:PySem.W.Frag}{mg mb:Str→Option Value}{CX:CXT}{k:Nat}{fa a:Addr}{fd:FuncData}{x:Str}{sp:Sp}{s₁:Shared}{vs:List Value}{ns:List Int}
  (KX:K.In s₁.heap) (hns:s₁.heap.Ns mainGlobals mg) (hb:s₁.heap.Ns builtinsNs mb) (hbb:∀x:Str,x ≠ "__name__" → mb x=bootBuiltins x) (hlim:s₁.heap.NoLimit) (hg:s₁.gens = #[])
  (ha:s₁.heap.get? a=some { cls:=.type "list", data:=.seq vs.toArray }) (hi:IntsAre vs ns) (hl:ns.length≤sizeLine) (hr:Room k callerA)
  (F:∀base:Heap,K.In base→base.Ns mainGlobals mg→FnOk P w K mg base CX k fa fd [x] sp) (hbind:∀(s:Shared) (u:Value),BindsTo s fd ⟨[u],[]⟩ [(x,u)])
  (hsp:∀H:Hp,ze5 H→SqL K H a (ns.map V.int)→sp [.ref a] H (fun v _=>v=.bl true) fun _ _ _=>False)
  (hCX:∀H e s',CX [] H s₁ (fun _ _ _=>False) e s'→False) :
  codeAny (model P w) callerA (.call (.ref fa) ⟨[.ref a],[]⟩) (fun r s'=>r=.ok (.ret (.bool true))∧OldK s₁.heap s'.heap∧s'.os=s₁.os∧AllBare s'.gens) s₁:=by
 have rv:=vals_ints hi
 have lenV:=hi.length
 have core:∀H:Hp,ze5 H→SqL K H a (ns.map V.int)→HOk P w H s₁.heap→(∀b,H b≠none→b=a)→(H a≠none→K.lookup a=none) →
   codeAny (model P w) callerA (.call (.ref fa) ⟨[.ref a],[]⟩) (fun r s'=>r=.ok (.ret (.bool true))∧OldK s₁.heap s'.heap∧s'.os=s₁.os∧AllBare s'.gens) s₁:=by
  intro H hO hS hok hA hK
  have base_of:∀{b:Addr} {o:Obj},s₁.heap.get? b=some o→H b=none→(u7 s₁.heap H).get? b=some o:=fun e n=>Vh e n
  have noA:∀{b:Addr} {o:Obj} {es:Array DictEntry} {ep:Nat},s₁.heap.get? b=some o→o.data=.dict es ep→H b=none:=fun {b o es ep} e d=>by
   cases q:H b with
   |none=>rfl
   |some u=>
    have e':b=a:=hA b (by rw[q];simp)
    subst e'
    rw[ha] at e;cases e
    have d':Data.seq vs.toArray _=Data.dict es ep:=d
    cases d'
  have nsK:∀{b:Addr} {m:Str→Option Value},s₁.heap.Ns b m→(u7 s₁.heap H).Ns b m:=fun {b m} ⟨o,es,ep,e,d,r⟩=>⟨o,es,ep,base_of e (noA e d),d,r⟩
  have hKb:K.In (u7 s₁.heap H):=fun b o e=>base_of (KX b o e) (by
   cases q:H b with
   |none=>rfl
   |some u=>
    have e':b=a:=hA b (by rw[q];simp)
    subst e'
    rw[hK (by rw[q];simp)] at e;cases e)
  have hM:Mod K mg (u7 s₁.heap H):=⟨hKb,nsK hns,⟨mb,nsK hb,hbb⟩,let ⟨mc,h1,h2⟩:=hlim;⟨mc,nsK h1,h2⟩⟩
  have e0:Mf P w K mg (u7 s₁.heap H) callerA [] s₁ H:=⟨rfl,hM,fun b o e=>UQ e,Nat.le_of_eq (Xz _ _),trivial,fun b hb=>absurd (show b∈([]:List Addr) from hb) (by simp),hok,.of_eq hg⟩
  refine codeAny_mono ((F _ hKb (nsK hns)).run callerA [] s₁ H ⟨[.ref a],[]⟩ [.ref a] [.ref a] _ _ hr e0 (hbind s₁ (.ref a)) (.cons rfl .nil) (hsp H hO hS)) fun r s' h=>?_
  cases r with
  |error e=>exact(hCX H e s' h).elim
  |ok fl=>
   cases fl with
   |next=>exact False.elim h
   |brk=>exact False.elim h
   |cont=>exact False.elim h
   |ret u=>
    obtain⟨v,H',os,bare,un,hok',r',q⟩:=h
    have q':v=.bl true:=q
    subst q'
    obtain rfl:u=Value.bool true:=r'
    refine⟨rfl,OldK.of_keep fun b o e=>?_,os,bare⟩
    cases q:H b with
    |none=>exact un.keep b o e q (by intro z;exact absurd (show b∈([]:List Addr) from z) (by simp)) (by simp)
    |some u=>
     rcases hO b with z|⟨ob,xs,z⟩
     ·rw[q] at z;cases z
     ·have z2:=un.frzs b ob _ z
      obtain⟨e1,_⟩:=hok b _ z
      obtain⟨e2,_⟩:=hok' b _ z2
      rw[e] at e1;cases e1
      exact e2
 cases hk:K.lookup a with
 |some o=>
  have e:=KX a o hk
  rw[ha] at e
  cases e
  refine core (fun _=>none) (fun _=>.inl rfl) (.inr ⟨_,vs.toArray,_,hk,rfl,rfl,rfl,by rw[size_toArray,lenV];exact hl,by simpa using rv⟩) (fun b u z=>by have z':(none:Option HO)=some u:=z;cases z') (fun b z=>absurd rfl z) fun z=>absurd rfl z
 |none=>
  refine core (fun b=>if b=a then some (.frz { cls:=.type "list", data:=.seq vs.toArray } (.lst (ns.map V.int))) else none) (fun b=>?_) (.inl (.inr ⟨{ cls:=.type "list", data:=.seq vs.toArray },if_pos rfl⟩)) (fun b u z=>?_) (fun b z=>?_) fun _=>hk
  ·by_cases hb:b=a
   ·exact .inr ⟨_,_,if_pos hb⟩
   ·exact .inl (if_neg hb)
  ·by_cases hb:b=a
   ·have z':=(if_pos hb).symm.trans z
    cases z'
    subst hb
    exact⟨ha,by rw[length_map];exact hl,vs,_,rv,ha⟩
   ·have z':=(if_neg hb).symm.trans z
    cases z'
  ·by_cases hb:b=a
   ·exact hb
   ·exact absurd (if_neg hb) z
abbrev KOf{K:PySem.W.Frag}{h:Heap}(_:K.In h):PySem.W.Frag:=K
theorem walk_of{l:PySem.W.OpenLaw}{n k:Nat}{q:Program}{loose:List Str}{XP:(Str→Option Value)→Heap→Prop}{YP:World→Heap→Prop}{d:DefRec}{K:Params→PySem.W.Frag}{CX:World→CXT}{sp:World→Sp}{x:Str}
  (hn:l.most=some n) (hn2:n≤sizeLine) (hdf:d.params.defaults=[]) (hr:Room k callerA)
  (hY:∀(w:World) (h:Heap),YP w h→(K w.params).In h)
  (F:∀(w:World) (mg:Str→Option Value) (fa:Addr) (h:Heap),(K w.params).In h→h.Ns mainGlobals mg→mg d.name=some (.ref fa) →
   ∃fd:FuncData,(∀(s:Shared) (u:Value),BindsTo s fd ⟨[u],[]⟩ [(x,u)]) ∧
    ∀base:Heap,(K w.params).In base→base.Ns mainGlobals mg→FnOk l.prog w (K w.params) mg base (CX w) k fa fd [x] (sp w))
  (hsp:∀(w:World) (H:Hp) (a:Addr) (ns:List Int),ns.length≤n→ze5 H→SqL (K w.params) H a (ns.map V.int)→sp w [.ref a] H (fun v _=>v=.bl true) fun _ _ _=>False)
  (hCX:∀(w:World) (H:Hp) (s:Shared) (e:Value) (s':Shared),CX w [] H s (fun _ _ _=>False) e s'→False) :
  PySem.W.WalkO q loose XP YP l.row.toRowW d [] (fun f vs=>PySem.call f vs):=by
 refine Att.attach_call hn hdf fun w s₀ s₁ mg mb fa o pm cd doc a vs ns G Y ho hd hcd hmg hobj hints hlen hg=>?_
 have KX:=hY w _ Y
 obtain⟨fd,hb,hF⟩:=F w mg fa _ KX G.T.g hmg
 exact Gw KX G.T.g G.T.b G.T.builtins G.T.nolimit hg hobj hints (le_trans hlen hn2) hr hF hb (fun H hO hS=>hsp w H a ns hlen hO hS) fun H e s'=>hCX w H s₁ e s'
def zI(s:Stmt):Arguments:=match s with
 |.FunctionDef _ a _ _ _ _ _ _ _ _=>a
 |_=>{ posonlyargs:=[],args:=[],vararg:=none,kwonlyargs:=[],kw_defaults:=[],kwarg:=none,defaults:=[] }
def zD(s:Stmt):List Stmt:=match s with
 |.FunctionDef _ _ b _ _ _ _ _ _ _=>b
 |_=>[]
def zk(s:Stmt):Scope:=match s with
 |.FunctionDef _ _ _ _ _ _ sc _ _ _=>sc
 |_=>{ kind:=.function,names:=[],isGenerator:=false,isCoroutine:=false }
abbrev CX0:CXT:=fun _ _ _ _ _ _=>False
abbrev E0:XK:=fun _ _ _=>False
theorem pass0{X:Cx}:Up CX0 X E0:=fun _ _ _ _ _ _ _ h=>h.elim
structure Fun(K:PySem.W.Frag)(x qual:Str)(st:Stmt)(f:Addr)(fd:FuncData):Prop where
 ex:∃(oc:Value) (od:Option Addr) (kV doc pm:Value) (an:Option Addr) (cdv ct:Value) (osl:Array (Option Value)),
  fd=fnOf x qual (zI st) (zD st) (zk st) .none kV doc pm an cdv ct∧K.lookup f=some ⟨oc,od,.func fd,osl⟩∧codeIn K cdv qual=true
 kp:keepIn K (.ref f)=true
section
variable{P:Program}{w:World}{K:PySem.W.Frag}{mg:Str→Option Value}{base:Heap}
theorem Fun.ok{x qual:Str}{st:Stmt}{f:Addr}{fd:FuncData}{N ps:List Str}{k:Nat}{sp:Sp}(F:Fun K x qual st f fd)(S:zN N ps (zk st))(len:∀vs H Q E,sp vs H Q E→vs.length=ps.length)
  (hbody:∀(cdv:Value) (A:Around) (outer:List Env) (s:Shared) (H:Hp) (vs:List V) (Q:VK) (E:XK),Room k (A.deeper (envOfC qual (zk st) s.heap.objs.size f cdv))→sp vs H Q E →
   ∃t,PSs (Wk CX0 P w K mg base N qual (zk st) f cdv A outer s H E).nox (zD st) t∧t { nx:=fun _ H'=>Q .non H',rt:=Q } (start N vs) H):FnOk P w K mg base CX0 (k+1) f fd ps sp:=by
 obtain⟨oc,od,kV,doc,pm,an,cdv,ct,osl,rfl,lk,hcd⟩:=F.ex
 refine Lo lk hcd S len fun A outer s H vs Q E hr hsp=>?_
 obtain⟨t,h,q⟩:=hbody cdv A outer s H vs Q E hr hsp
 exact⟨t,h.nox,q⟩
theorem Fun.binds{x qual:Str}{st:Stmt}{f:Addr}{fd:FuncData}{ps:List Str}(F:Fun K x qual st f fd)
  (h:∀(kV doc pm:Value) (an:Option Addr) (cdv ct:Value) (us:List Value),us.length=ps.length→bindArgs (fnOf x qual (zI st) (zD st) (zk st) .none kV doc pm an cdv ct) ⟨us,[]⟩=pure (ps.zip us)):Binds K fd ps []:=by
 obtain⟨oc,od,kV,doc,pm,an,cdv,ct,osl,rfl,lk,hcd⟩:=F.ex
 exact .all (h kV doc pm an cdv ct)
theorem yF{x qual:Str}{st:Stmt}{f:Addr}{oc:Value}{od an:Option Addr}{osl:Array (Option Value)}{kV doc pm cdv ct:Value}(l:K.lookup f=some ⟨oc,od,.func (fnOf x qual (zI st) (zD st) (zk st) .none kV doc pm an cdv ct),osl⟩)
  (c:codeIn K cdv qual=true) (k:keepIn K (.ref f)=true):Fun K x qual st f (fnOf x qual (zI st) (zD st) (zk st) .none kV doc pm an cdv ct):=⟨⟨oc,od,kV,doc,pm,an,cdv,ct,osl,rfl,l,c⟩,k⟩
end
theorem Lk{A:Around}{k:Nat}(hr:Room k A):A.units+1<cLine:=Nat.lt_of_le_of_lt (Nat.add_le_add_left (by decide:1≤64) _) hr.units
theorem yS{n:Nat}(h:n≤1000):n<sizeLine:=Nat.lt_of_le_of_lt h (by decide)
section
variable{X:Cx}
theorem pv(i:Nat){x:Str}{pos:Pos}(hN:X.N[i]?=some x:=by rfl)(hv:Vis X.env.scope x:=by first|exact Or.inl rfl|exact Or.inr (Or.inl rfl) | exact Or.inr (Or.inr rfl))(hd:(x==("__debug__" : Str))=false:=by decide)
  (hcd:(x==("__classdict__" : Str))=false:=by decide):PE X (.Name x pos) (vH i):=LS hN hv hd hcd
end
def Same(H H':Hp):Prop:=∀b o,H b=some o→H' b=some o
theorem Same.refl(H:Hp):Same H H:=fun _ _ h=>h
theorem Same.trans{H H1 H2:Hp}(a:Same H H1)(b:Same H1 H2):Same H H2:=fun c o h=>b c o (a c o h)
theorem Same.seq{K:PySem.W.Frag}{H H':Hp}{a:Addr}{xs:List V}(e:Same H H')(h:SqL K H a xs):SqL K H' a xs:=by
 rcases h with (h|⟨o,h⟩) | h
 ·exact .inl (.inl (e _ _ h))
 ·exact .inl (.inr ⟨o,e _ _ h⟩)
 ·exact .inr h
end L2
namespace FD
open PySem PySem.Spec PyProof.Rows L2
abbrev St:=L2.St
inductive D where
 | non|bl (b:Bool) | int (i:Int) | str (x:Str) | lst (xs:List D) | tup (xs:List D) | scr (ns:List Int) | raw (v:V) | exc (c:Str)
inductive Rs (α:Type) where
 | ok (a:α) | ex (c:Str) | no
def Rs.bind{α β:Type}(r:Rs α)(k:α→Rs β):Rs β:=match r with
 |.ok a=>k a
 |.ex c=>.ex c
 |.no=>.no
@[simp] theorem Rs.bind_ok{α β:Type}(a:α)(k:α→Rs β):(Rs.ok a).bind k=k a:=rfl
def excIs(K:PySem.W.Frag)(a:Addr)(c:Str):Heap→Prop:=fun h=>∃oe cls vs,h.get? a=some oe∧oe.cls=cls∧oe.dict=none∧oe.data=.fields vs∧nsIn K mainGlobals c=some (some cls)
section
variable(K:PySem.W.Frag)
mutual
def Rep(F:Hp):D→V→Prop
 |.non,v=>v=.non
 |.bl b,v=>v=.bl b
 |.int i,v=>v=.int i
 |.str x,v=>v=.str x
 |.lst ds,v=>∃a vs,v=.ref a∧F a=some (.lst vs)∧Reps F ds vs
 |.scr ns,v=>∃a,v=.ref a∧SqL K F a (ns.map V.int)
 |.tup ds,v=>∃a vs,v=.ref a∧SqT K F a vs∧Reps F ds vs
 |.raw u,v=>v=u
 |.exc c,v=>∃a,v=.ref a∧F a=some (.ext (excIs K a c))
def Reps(F:Hp):List D→List V→Prop
 |[],vs=>vs=[]
 |d::ds,vs=>∃v r,vs=v::r∧Rep F d v∧Reps F ds r
end
end
theorem Same.refl(H:Hp):Same H H:=fun _ _ h=>h
theorem Same.seqT{K:PySem.W.Frag}{H H':Hp}{a:Addr}{xs:List V}(e:Same H H')(h:SqT K H a xs):SqT K H' a xs:=by
 rcases h with (h|⟨o,h⟩) | h
 ·exact .inl (.inl (e _ _ h))
 ·exact .inl (.inr ⟨o,e _ _ h⟩)
 ·exact .inr h
section
variable{K:PySem.W.Frag}{F F':Hp}
mutual
theorem Rep.mono(h:Same F F'):∀{d:D} {v:V},Rep K F d v→Rep K F' d v
 |.non,_,r=>by simpa only[Rep] using r
 |.bl _,_,r=>by simpa only[Rep] using r
 |.int _,_,r=>by simpa only[Rep] using r
 |.str _,_,r=>by simpa only[Rep] using r
 |.raw _,_,r=>by simpa only[Rep] using r
 |.exc c,v,r=>by
  simp only[Rep] at r ⊢
  obtain⟨a,e,q⟩:=r
  exact⟨a,e,h _ _ q⟩
 |.lst ds,v,r=>by
  simp only[Rep] at r ⊢
  obtain⟨a,vs,e,q,t⟩:=r
  exact⟨a,vs,e,h _ _ q,Reps.mono h t⟩
 |.scr ns,v,r=>by
  simp only[Rep] at r ⊢
  obtain⟨a,e,q⟩:=r
  exact⟨a,e,h.seq q⟩
 |.tup ds,v,r=>by
  simp only[Rep] at r ⊢
  obtain⟨a,vs,e,q,t⟩:=r
  exact⟨a,vs,e,Same.seqT h q,Reps.mono h t⟩
theorem Reps.mono(h:Same F F'):∀{ds:List D} {vs:List V},Reps K F ds vs→Reps K F' ds vs
 |[],_,r=>by simpa only[Reps] using r
 |d::ds,vs,r=>by
  simp only[Reps] at r ⊢
  obtain⟨v,r',e,q,t⟩:=r
  exact⟨v,r',e,Rep.mono h q,Reps.mono h t⟩
end
theorem Reps.length:∀{ds:List D} {vs:List V},Reps K F ds vs→ds.length=vs.length
 |[],_,r=>by simp only[Reps] at r;subst r;rfl
 |d::ds,_,r=>by
  simp only[Reps] at r
  obtain⟨v,r',rfl,_,t⟩:=r
  simp[Reps.length t]
theorem Reps.get:∀{ds:List D} {vs:List V} {i:Nat} {d:D},Reps K F ds vs→ds[i]?=some d→∃v,vs[i]?=some v∧Rep K F d v
 |[],_,_,_,_,e=>by simp at e
 |d::ds,_,0,_,r,e=>by
  simp only[Reps] at r
  obtain⟨v,r',rfl,q,t⟩:=r
  simp at e;subst e
  exact⟨v,rfl,q⟩
 |d::ds,_,i+1,_,r,e=>by
  simp only[Reps] at r
  obtain⟨v,r',rfl,q,t⟩:=r
  obtain⟨w,h1,h2⟩:=Reps.get (i:=i) t (by simpa using e)
  exact⟨w,by simpa using h1,h2⟩
theorem Reps.nil:Reps K F [] []:=by simp only[Reps]
theorem Reps.cons{d:D}{v:V}{ds:List D}{vs:List V}(h:Rep K F d v)(t:Reps K F ds vs):Reps K F (d::ds) (v::vs):=by
 simp only[Reps];exact⟨v,vs,rfl,h,t⟩
theorem Reps.append:∀{ds es:List D} {vs ws:List V},Reps K F ds vs→Reps K F es ws→Reps K F (ds++es) (vs++ws)
 |[],_,_,_,r,t=>by simp only[Reps] at r;subst r;exact t
 |d::ds,es,_,ws,r,t=>by
  simp only[Reps] at r
  obtain⟨v,r',rfl,q,u⟩:=r
  exact Reps.cons q (Reps.append u t)
theorem Reps.take:∀{ds:List D} {vs:List V} (n:Nat),Reps K F ds vs→Reps K F (ds.take n) (vs.take n)
 |_,_,0,_=>by simp only[List.take_zero];exact Reps.nil
 |[],_,n+1,r=>by simp only[Reps] at r;subst r;simp only[List.take_nil];exact Reps.nil
 |d::ds,_,n+1,r=>by
  simp only[Reps] at r
  obtain⟨v,r',rfl,q,u⟩:=r
  exact Reps.cons q (Reps.take n u)
theorem Reps.drop:∀{ds:List D} {vs:List V} (n:Nat),Reps K F ds vs→Reps K F (ds.drop n) (vs.drop n)
 |_,_,0,r=>r
 |[],_,n+1,r=>by simp only[Reps] at r;subst r;simp only[List.drop_nil];exact Reps.nil
 |d::ds,_,n+1,r=>by
  simp only[Reps] at r
  obtain⟨v,r',rfl,q,u⟩:=r
  exact Reps.drop n u
theorem Reps.reverse:∀{ds:List D} {vs:List V},Reps K F ds vs→Reps K F ds.reverse vs.reverse
 |[],_,r=>by simp only[Reps] at r;subst r;exact Reps.nil
 |d::ds,_,r=>by
  simp only[Reps] at r
  obtain⟨v,r',rfl,q,u⟩:=r
  rw[List.reverse_cons,List.reverse_cons]
  exact Reps.append (Reps.reverse u) (Reps.cons q Reps.nil)
theorem Reps.set{d:D}{v:V}(h:Rep K F d v):∀{ds:List D} {vs:List V} (i:Nat),Reps K F ds vs→Reps K F (ds.set i d) (vs.set i v)
 |[],_,_,r=>by simp only[Reps] at r;subst r;exact Reps.nil
 |e::ds,_,0,r=>by
  simp only[Reps] at r
  obtain⟨w,r',rfl,q,u⟩:=r
  exact Reps.cons h u
 |e::ds,_,i+1,r=>by
  simp only[Reps] at r
  obtain⟨w,r',rfl,q,u⟩:=r
  exact Reps.cons q (Reps.set h i u)
theorem Reps.one{d:D}{vs:List V}(h:Reps K F [d] vs):∃v,vs=[v]∧Rep K F d v:=by
 simp only[Reps] at h
 obtain⟨v,r,e,q,e2⟩:=h
 subst e2;exact⟨v,e,q⟩
theorem Reps.two{d e:D}{vs:List V}(h:Reps K F [d,e] vs):∃v w,vs=[v,w]∧Rep K F d v∧Rep K F e w:=by
 simp only[Reps] at h
 obtain⟨v,r,e1,q,w,r2,e2,q2,e3⟩:=h
 subst e3;subst e2;exact⟨v,w,e1,q,q2⟩
theorem Reps.rep{ds:List D}{vs:List V}(h:Reps K F ds vs):∀k:Nat,Reps K F (List.replicate k ds).flatten (List.replicate k vs).flatten
 |0=>Reps.nil
 |k+1=>by
  rw[replicate_succ,replicate_succ,flatten_cons,flatten_cons]
  exact Reps.append h (Reps.rep h k)
theorem Reps.ints:∀(ns:List Int),Reps K F (ns.map D.int) (ns.map V.int)
 |[]=>Reps.nil
 |n::r=>Reps.cons (by simp only[Rep]) (Reps.ints r)
end
class Tabs where
 rows:List (Addr×Nat×Nat×Str)
 own:Str→Str→Bool
def YL(c:Addr)(q:Str):Heap→Prop:=fun h=>h.CodeRec (.ref c) q
def TOk(F H:Hp)(r:Addr×Nat×Nat×Str):Prop:=F r.1=none∧(H r.1=some (.tbl #[])∨∃c,H r.1=some (.tbl #[rawInt r.2.1,rawInt r.2.2.1,.ref c])∧H c=some (.ext (YL c r.2.2.2)))
variable[Tabs]
def OwnOk(H:Hp):Prop:=∀d a,H d=some (.own a)→∃C dx vs,H a=some (.ins C dx vs)
def TbT(F H:Hp):Prop:=(∀r∈Tabs.rows,TOk F H r)∧OwnOk H
omit [Tabs] in
theorem TOk.step{F H F' H':Hp}{r:Addr×Nat×Nat×Str}(t:TOk F H r)(nw:∀a o,F' a=some o→F a=some o∨H a=none)(k:∀a o,H a=some o→(∀vs,o≠.lst vs)→H' a=some o):TOk F' H' r:=by
 have hn:∀ps,H r.1=some (.tbl ps)→F' r.1=none:=fun ps e=>by
  cases q:F' r.1 with
  |none=>rfl
  |some o=>
   rcases nw _ _ q with z|z
   ·rw[t.1] at z;cases z
   ·rw[e] at z;cases z
 rcases t.2 with e|⟨c,e,e2⟩
 ·exact⟨hn _ e,.inl (k _ _ e fun _ z=>nomatch z)⟩
 ·exact⟨hn _ e,.inr ⟨c,k _ _ e (fun _ z=>nomatch z),k _ _ e2 fun _ z=>nomatch z⟩⟩
theorem TbT.step{F H F' H':Hp}(t:TbT F H)(nw:∀a o,F' a=some o→F a=some o∨H a=none)(k:∀a o,H a=some o→(∀vs,o≠.lst vs)→H' a=some o)(no:∀d a,H' d=some (.own a)→H d=some (.own a)):TbT F' H':=⟨fun r hr=>(t.1 r hr).step nw k,fun d a e=>by
 obtain⟨C,dx,vs,h⟩:=t.2 d a (no d a e)
 exact⟨C,dx,vs,k _ _ h fun _ z=>nomatch z⟩⟩
theorem TbT.freeze{F H:Hp}{a:Addr}{vs:List V}{o:HO}(t:TbT F H)(e:H a=some (.lst vs)):TbT (upd F a o) H:=⟨fun r hr=>by
 obtain⟨t1,t2⟩:=t.1 r hr
 have:r.1≠a:=fun z=>by
  rw[z,e] at t2
  rcases t2 with q|⟨c,q,_⟩ <;> cases q
 exact⟨by rw[zp this];exact t1,t2⟩,t.2⟩
def Kp:HO→Option HO→Prop
 |.tbl _,r=>∃ps,r=some (.tbl ps)
 |o,r=>r=some o
def Hh(H H':Hp):Prop:=∀b o,H b=some o→Kp o (H' b)
omit [Tabs] in
theorem Kp.of{o:HO}{r:Option HO}(h:r=some o):Kp o r:=by cases o <;> first|exact h|exact⟨_,h⟩
omit [Tabs] in
theorem Kp.some{o:HO}{r:Option HO}(h:Kp o r):r≠none:=by
 cases o <;> first | (obtain⟨_,h⟩:=h;rw[h];simp) | (have h:r=_:=h;rw[h];simp)
omit [Tabs] in
theorem Hh.of{H H':Hp}(h:Same H H'):Hh H H':=fun b o e=>.of (h b o e)
omit [Tabs] in
theorem Hh.refl(H:Hp):Hh H H:=.of (Same.refl H)
omit [Tabs] in
theorem Hh.trans{H H1 H2:Hp}(a:Hh H H1)(b:Hh H1 H2):Hh H H2:=fun c o e=>by
 have k:=a c o e
 cases o <;> first|exact b c _ k | (obtain⟨ps,q⟩:=k;show ∃ps,H2 c=some (.tbl ps);exact b c _ q)
omit [Tabs] in
theorem wU{F H:Hp}(h:Hh F H){a:Addr}(e:H a=none):F a=none:=by
 cases q:F a with
 |none=>rfl
 |some o=>exact absurd e (h a o q).some
structure Ext(F H F' H':Hp):Prop where
 ff:Same F F'
 hh:Hh H H'
 fh:Same F' H'
 nw:∀a o,F' a=some o→F a=some o∨H a=none
 tt:TbT F H→TbT F' H'
theorem Ext.refl{F H:Hp}(h:Same F H):Ext F H F H:=⟨Same.refl F,Hh.refl H,h,fun _ _ e=>.inl e,id⟩
theorem Ext.trans{F H F1 H1 F2 H2:Hp}(a:Ext F H F1 H1)(b:Ext F1 H1 F2 H2):Ext F H F2 H2:=
 ⟨a.ff.trans b.ff,a.hh.trans b.hh,b.fh,fun c o e=>by
  rcases b.nw c o e with q|q
  ·exact a.nw c o q
  ·exact .inr (wU a.hh q),fun t=>b.tt (a.tt t)⟩
omit [Tabs] in
theorem zU{F H:Hp}(h:Same F H){a:Addr}(e:H a=none):F a=none:=by
 cases q:F a with
 |none=>rfl
 |some o=>rw[h a o q] at e;cases e
omit [Tabs] in
theorem yj{H:Hp}{p:Addr}{o:HO}(h:H p=none):Same H (upd H p o):=fun b u q=>by rw[zp (zP q h)];exact q
omit [Tabs] in
theorem Jv{F H:Hp}{p:Addr}{o:HO}(h:Same F H)(hp:H p=none):Same (upd F p o) (upd H p o):=fun b u q=>by
 by_cases hb:b=p
 ·subst hb;rw[zt] at q ⊢;exact q
 ·rw[zp hb] at q ⊢;exact h b u q
theorem Ext.same{F H F' H':Hp}(ff:Same F F')(hh:Same H H')(fh:Same F' H')(nw:∀a o,F' a=some o→F a=some o∨H a=none)(no:∀d a,H' d=some (.own a)→H d=some (.own a)):Ext F H F' H':=⟨ff,.of hh,fh,nw,fun t=>t.step nw (fun a o e _=>hh a o e) no⟩
omit [Tabs] in
theorem j9{H:Hp}{p:Addr}{o:HO}(ho:∀a,o≠.own a):∀d a,upd H p o d=some (.own a)→H d=some (.own a):=fun d a e=>by
 by_cases h:d=p
 ·subst h;rw[zt] at e;cases e;exact absurd rfl (ho a)
 ·rw[zp h] at e;exact e
theorem Ext.new{F H:Hp}{p:Addr}{o:HO}(h:Same F H)(hp:H p=none)(ho:∀a,o≠.own a:=by intro _ h;cases h):Ext F H (upd F p o) (upd H p o):=
 .same (yj (zU h hp)) (yj hp) (Jv h hp) (fun a u e=>by
  by_cases hb:a=p
  ·subst hb;exact .inr hp
  ·rw[zp hb] at e;exact .inl e) (j9 ho)
theorem Ext.open{F H:Hp}{p:Addr}{o:HO}(h:Same F H)(hp:H p=none)(ho:∀a,o≠.own a:=by intro _ h;cases h):Ext F H F (upd H p o):=
 .same (Same.refl F) (yj hp) (h.trans (yj hp)) (fun a u e=>.inl e) (j9 ho)
inductive Sl where
 | val (d:D)
 | own (ds:List D)
 | obj (n:Nat) (c:Str) (fs:List (Str×D))
 | obr (c:Str) (fs:List (Str×D))
abbrev DS:=List (Option Sl)
def OwnF(K:PySem.W.Frag)(F H:Hp)(d:D)(v:V):Prop:=∃ds l ws,d=.lst ds∧v=.ref l∧H l=some (.lst ws)∧F l=none∧Reps K F ds ws
def ze8(K:PySem.W.Frag)(F H:Hp)(c f:Str)(d:D)(v:V):Prop:=if Tabs.own c f=true then OwnF K F H d v else Rep K F d v
def Flds(K:PySem.W.Frag)(F H:Hp)(c:Str):List (Str×D)→List (Str×V)→Prop
 |[],[]=>True
 | (f,d)::r,(g,v)::s=>f=g∧ze8 K F H c f d v∧Flds K F H c r s
 |_,_=>False
def ZH(c:Str):List (Str×V)→List Addr
 |[]=>[]
 | (f,v)::r=>if Tabs.own c f=true then (match v with
  |.ref l=>l::ZH c r
  |_=>ZH c r) else ZH c r
def Lof(H:Hp)(c:Str)(a:Addr):List Addr:=match H a with
 | some (.ins _ _ vs)=>ZH c vs
 |_=>[]
theorem Lof.ins{H:Hp}{c:Str}{a C dx:Addr}{vs:List (Str×V)}(h:H a=some (.ins C dx vs)):Lof H c a=ZH c vs:=by unfold Lof;rw[h]
theorem Flds.own{K:PySem.W.Frag}{F H:Hp}{c:Str}{l:Addr}:∀{fs:List (Str×D)} {vs:List (Str×V)},Flds K F H c fs vs→l∈ZH c vs→F l=none∧∃ws,H l=some (.lst ws)
 |[],[],_,h=>by cases h
 | (f,d)::r,(g,v)::s,q,h=>by
  obtain⟨rfl,q2,q3⟩:=q
  unfold ZH at h
  unfold ze8 at q2
  by_cases z:Tabs.own c f=true
  ·rw[if_pos z] at h q2
   obtain⟨ds,l',ws,e1,rfl,e3,e4,e5⟩:=q2
   rcases mem_cons.mp h with rfl|h
   ·exact⟨e4,ws,e3⟩
   ·exact Flds.own q3 h
  ·rw[if_neg z] at h
   exact Flds.own q3 h
 |[],_::_,q,_=>q.elim
 |_::_,[],q,_=>q.elim
theorem Flds.keep{K:PySem.W.Frag}{F H F' H':Hp}{c:Str}(hf:Same F F'):∀{fs:List (Str×D)} {vs:List (Str×V)},Flds K F H c fs vs→(∀l ws,l∈ZH c vs→H l=some (.lst ws)→F l=none→H' l=some (.lst ws)∧F' l=none)→Flds K F' H' c fs vs
 |[],[],_,_=>trivial
 | (f,d)::r,(g,v)::s,q,k=>by
  obtain⟨rfl,q2,q3⟩:=q
  refine⟨rfl,?_,Flds.keep hf q3 fun l ws hl=>k l ws ?_⟩
  ·unfold ze8 at q2 ⊢
   by_cases z:Tabs.own c f=true
   ·rw[if_pos z] at q2 ⊢
    obtain⟨ds,l,ws,e1,rfl,e3,e4,e5⟩:=q2
    obtain⟨k1,k2⟩:=k l ws (by unfold ZH;rw[if_pos z];exact mem_cons_self) e3 e4
    exact⟨ds,l,ws,e1,rfl,k1,k2,e5.mono hf⟩
   ·rw[if_neg z] at q2 ⊢;exact q2.mono hf
  ·unfold ZH
   by_cases z:Tabs.own c f=true
   ·rw[if_pos z]
    cases v with
    |ref l'=>exact mem_cons_of_mem _ hl
    |_=>exact hl
   ·rw[if_neg z];exact hl
 |[],_::_,q,_=>q.elim
 |_::_,[],q,_=>q.elim
def ObAt(K:PySem.W.Frag)(F H:Hp)(c:Str)(fs:List (Str×D))(a:Addr):Prop:=∃C dx vs,H a=some (.ins C dx vs)∧F a=none∧nsIn K mainGlobals c=some (some (.ref C))∧Flds K F H c fs vs∧H dx=some (.own a)∧(ZH c vs).Nodup
def ObS(s:Option (Option Sl))(c:Str):Prop:=(∃n fs,s=some (some (.obj n c fs)))∨∃fs,s=some (some (.obr c fs))
structure ObsOk(K:PySem.W.Frag)(F:Hp)(τ:DS)(σ:St)(H:Hp):Prop where
 at_:∀(i n:Nat) (c:Str) (fs:List (Str×D)),τ[i]?=some (some (.obj n c fs))→∃a,σ[i]?=some (some (.ref a))∧ObAt K F H c fs a
 dis:∀(i j n:Nat) (c c':Str) (fs:List (Str×D)) (a:Addr),i≠j→τ[i]?=some (some (.obj n c fs))→ObS τ[j]? c'→σ[i]?=some (some (.ref a))→σ[j]?=some (some (.ref a))→False
 rd:∀(i:Nat) (c:Str) (fs:List (Str×D)),τ[i]?=some (some (.obr c fs))→∃a C dx vs,σ[i]?=some (some (.ref a))∧H a=some (.ins C dx vs)∧nsIn K mainGlobals c=some (some (.ref C))∧Flds K F H c fs vs
 ll:∀(i j n:Nat) (c c':Str) (fs:List (Str×D)) (a a' l:Addr),i≠j→τ[i]?=some (some (.obj n c fs))→ObS τ[j]? c'→σ[i]?=some (some (.ref a))→σ[j]?=some (some (.ref a'))→l∈Lof H c a→l∈Lof H c' a'→False
 lo:∀(i j:Nat) (c:Str) (ds:List D) (a l:Addr),ObS τ[i]? c→τ[j]?=some (some (.own ds))→σ[i]?=some (some (.ref a))→σ[j]?=some (some (.ref l))→l∈Lof H c a→False
def GD:Option Sl→Bool
 | some (.obj _ _ _)=>true
 | some (.obr _ _)=>true
 |_=>false
def noObj(τ:DS):Prop:=∀(i:Nat) s,τ[i]?=some s→GD s=false
omit [Tabs] in
theorem noObj.obs{τ:DS}(n:noObj τ){i:Nat}{c:Str}(h:ObS τ[i]? c):False:=by
 rcases h with ⟨m,fs,h⟩|⟨fs,h⟩
 ·have:=n i _ h;cases this
 ·have:=n i _ h;cases this
theorem ObsOk.none{K:PySem.W.Frag}{F H:Hp}{τ:DS}{σ:St}(n:noObj τ):ObsOk K F τ σ H:=
 ⟨fun i m c fs h=>(by have:=n i _ h;cases this),fun i j m c c' fs a _ h=>(by have:=n i _ h;cases this),fun i c fs h=>(by have:=n i _ h;cases this),fun i j m c c' fs a a' l _ h=>(by have:=n i _ h;cases this),fun i j c ds a l h=>(n.obs h).elim⟩
theorem ObsOk.get{K:PySem.W.Frag}{F H:Hp}{τ:DS}{σ:St}{i:Nat}{c:Str}(o:ObsOk K F τ σ H)(h:ObS τ[i]? c):∃a C dx vs fs,σ[i]?=some (some (.ref a))∧H a=some (.ins C dx vs)∧Flds K F H c fs vs:=by
 rcases h with ⟨m,fs,h⟩|⟨fs,h⟩
 ·obtain⟨a,h1,C,dx,vs,h2,_,_,h5,_⟩:=o.at_ i m c fs h
  exact⟨a,C,dx,vs,fs,h1,h2,h5⟩
 ·obtain⟨a,C,dx,vs,h1,h2,_,h5⟩:=o.rd i c fs h
  exact⟨a,C,dx,vs,fs,h1,h2,h5⟩
theorem ObsOk.keep{K:PySem.W.Frag}{F H F' H':Hp}{τ:DS}{σ:St}(o:ObsOk K F τ σ H)(hf:Same F F')(hi:∀a C dx vs,H a=some (.ins C dx vs)→H' a=some (.ins C dx vs))(hn:∀a C dx vs,H a=some (.ins C dx vs)→F a=Option.none→F' a=Option.none)(hd:∀d a,H d=some (.own a)→H' d=some (.own a))
  (hl:∀(i:Nat) (c:Str) (a l:Addr) (ws:List V),ObS τ[i]? c→σ[i]?=some (some (.ref a))→l∈Lof H c a→H l=some (.lst ws)→F l=Option.none→H' l=some (.lst ws)∧F' l=Option.none):ObsOk K F' τ σ H':=by
 have lof:∀{i:Nat} {c:Str} {a:Addr},ObS τ[i]? c→σ[i]?=some (some (.ref a))→Lof H' c a=Lof H c a:=fun {i c a} h e=>by
  obtain⟨a',C,dx,vs,fs,h1,h2,_⟩:=o.get h
  rw[e] at h1;cases h1
  rw[Lof.ins h2,Lof.ins (hi _ _ _ _ h2)]
 refine⟨fun i m c fs h=>?_,o.dis,fun i c fs h=>?_,fun i j m c c' fs a a' l hij h1 h2 h3 h4 h5 h6=>?_,fun i j c ds a l h1 h2 h3 h4 h5=>?_⟩
 ·obtain⟨a,h1,C,dx,vs,h2,h3,h4,h5,h6,h7⟩:=o.at_ i m c fs h
  exact⟨a,h1,C,dx,vs,hi _ _ _ _ h2,hn _ _ _ _ h2 h3,h4,h5.keep hf fun l ws q=>hl i c a l ws (.inl ⟨m,fs,h⟩) h1 (by rw[Lof.ins h2];exact q),hd _ _ h6,h7⟩
 ·obtain⟨a,C,dx,vs,h1,h2,h4,h5⟩:=o.rd i c fs h
  exact⟨a,C,dx,vs,h1,hi _ _ _ _ h2,h4,h5.keep hf fun l ws q=>hl i c a l ws (.inr ⟨fs,h⟩) h1 (by rw[Lof.ins h2];exact q)⟩
 ·rw[lof (.inl ⟨m,fs,h1⟩) h3] at h5
  rw[lof h2 h4] at h6
  exact o.ll i j m c c' fs a a' l hij h1 h2 h3 h4 h5 h6
 ·rw[lof h1 h3] at h5
  exact o.lo i j c ds a l h1 h2 h3 h4 h5
theorem ObsOk.ext{K:PySem.W.Frag}{F H F' H':Hp}{τ:DS}{σ:St}(o:ObsOk K F τ σ H)(x:Ext F H F' H'):ObsOk K F' τ σ H':=by
 have nF:∀{a:Addr} {u:HO},H a=some u→F a=Option.none→F' a=Option.none:=fun {a u} h h3=>by
  cases q:F' a with
  |none=>rfl
  |some w=>
   rcases x.nw a w q with z|z
   ·rw[h3] at z;cases z
   ·rw[h] at z;cases z
 exact o.keep x.ff (fun a C dx vs h=>x.hh _ _ h) (fun a C dx vs h=>nF h) (fun d a h=>x.hh _ _ h) fun i c a l ws _ _ _ h h3=>⟨x.hh _ _ h,nF h h3⟩
theorem ObsOk.updL{K:PySem.W.Frag}{F H:Hp}{τ:DS}{σ:St}{p:Addr}{u:HO}(o:ObsOk K F τ σ H)(hl:H p=.none∨∃vs,H p=some (.lst vs))(hp:∀(i:Nat) (c:Str) (a:Addr),ObS τ[i]? c→σ[i]?=some (some (.ref a))→p∉Lof H c a):ObsOk K F τ σ (upd H p u):=by
 have ne:∀{a:Addr} {w:HO},H a=some w→(∀vs,w≠.lst vs)→a≠p:=fun {a w} h n z=>by
  subst z
  rcases hl with z|⟨ws,z⟩
  ·rw[z] at h;cases h
  ·rw[z] at h;cases h;exact n _ rfl
 refine o.keep (Same.refl F) (fun a C dx vs h=>?_) (fun a C dx vs _ h=>h) (fun d a h=>?_) fun i c a l ws h1 h2 h3 h4 h5=>⟨?_,h5⟩
 ·rw[zp (ne h fun _ z=>nomatch z)];exact h
 ·rw[zp (ne h fun _ z=>nomatch z)];exact h
 ·have:l≠p:=fun z=>by subst z;exact hp i c a h1 h2 h3
  rw[zp this];exact h4
omit [Tabs] in
theorem yI{τ:DS}{i j:Nat}{s u:Option Sl}(hs:GD s=false)(hu:GD u=true)(h:(τ.set i s)[j]?=some u):i≠j∧τ[j]?=some u:=by
 by_cases hij:i=j
 ·subst hij
  rw[getElem?_set] at h
  simp only[if_true] at h
  split at h
  ·cases h;rw[hs] at hu;cases hu
  ·cases h
 ·rw[getElem?_set_ne hij] at h;exact⟨hij,h⟩
omit [Tabs] in
theorem uu{τ:DS}{i j:Nat}{s:Option Sl}{c:Str}(hs:GD s=false)(h:ObS (τ.set i s)[j]? c):i≠j∧ObS τ[j]? c:=by
 rcases h with ⟨n,fs,h⟩|⟨fs,h⟩
 ·obtain⟨a,b⟩:=yI hs rfl h;exact⟨a,.inl ⟨n,fs,b⟩⟩
 ·obtain⟨a,b⟩:=yI hs rfl h;exact⟨a,.inr ⟨fs,b⟩⟩
theorem ObsOk.put{K:PySem.W.Frag}{F H:Hp}{τ:DS}{σ:St}{i:Nat}{s:Option Sl}{v:Option V}(o:ObsOk K F τ σ H)(hs:GD s=false)(hw:∀ds l,s=some (.own ds)→v=some (.ref l)→∀(j:Nat) (c:Str) (a:Addr),ObS τ[j]? c→σ[j]?=some (some (.ref a))→l∉Lof H c a):ObsOk K F (τ.set i s) (σ.set i v) H:=
 ⟨fun j m c fs h=>by
  obtain⟨n,h⟩:=yI hs rfl h
  rw[getElem?_set_ne n];exact o.at_ j m c fs h,
  fun j k m c c' fs a hjk h1 h2 h3 h4=>by
   obtain⟨n1,h1⟩:=yI hs rfl h1
   obtain⟨n2,h2⟩:=uu hs h2
   rw[getElem?_set_ne n1] at h3
   rw[getElem?_set_ne n2] at h4
   exact o.dis j k m c c' fs a hjk h1 h2 h3 h4,
  fun j c fs h=>by
   obtain⟨n,h⟩:=yI hs rfl h
   rw[getElem?_set_ne n];exact o.rd j c fs h,
  fun j k m c c' fs a a' l hjk h1 h2 h3 h4=>by
   obtain⟨n1,h1⟩:=yI hs rfl h1
   obtain⟨n2,h2⟩:=uu hs h2
   rw[getElem?_set_ne n1] at h3
   rw[getElem?_set_ne n2] at h4
   exact o.ll j k m c c' fs a a' l hjk h1 h2 h3 h4,
  fun j k c ds a l h1 h2 h3 h4 h5=>by
   obtain⟨n1,g1⟩:=uu hs h1
   rw[getElem?_set_ne n1] at h3
   by_cases e:i=k
   ·subst e
    rw[getElem?_set] at h2 h4
    simp only[if_true] at h2 h4
    split at h2
    ·split at h4
     ·exact hw ds l (by simpa using h2) (by simpa using h4) j c a g1 h3 h5
     ·cases h4
    ·cases h2
   ·rw[getElem?_set_ne e] at h2 h4
    exact o.lo j k c ds a l g1 h2 h3 h4 h5⟩
theorem ObsOk.putS{K:PySem.W.Frag}{F H:Hp}{τ:DS}{σ:St}{i:Nat}{ds es:List D}(o:ObsOk K F τ σ H)(hi:τ[i]?=some (some (.own ds))):ObsOk K F (τ.set i (some (.own es))) σ H:=
 ⟨fun j m c fs h=>o.at_ j m c fs (yI (s:=some (.own es)) rfl rfl h).2,fun j k m c c' fs a hjk h1 h2=>o.dis j k m c c' fs a hjk (yI (s:=some (.own es)) rfl rfl h1).2 (uu (s:=some (.own es)) rfl h2).2,fun j c fs h=>o.rd j c fs (yI (s:=some (.own es)) rfl rfl h).2,
  fun j k m c c' fs a a' l hjk h1 h2=>o.ll j k m c c' fs a a' l hjk (yI (s:=some (.own es)) rfl rfl h1).2 (uu (s:=some (.own es)) rfl h2).2,fun j k c ds' a l h1 h2 h3 h4 h5=>by
   have h1:=(uu (s:=some (.own es)) rfl h1).2
   by_cases e:i=k
   ·subst e;exact o.lo j i c ds a l h1 hi h3 h4 h5
   ·rw[getElem?_set_ne e] at h2;exact o.lo j k c ds' a l h1 h2 h3 h4 h5⟩
theorem ObsOk.fresh{K:PySem.W.Frag}{F H:Hp}{τ:DS}{σ:St}{p:Addr}(o:ObsOk K F τ σ H)(hp:H p=.none):∀(i:Nat) (c:Str) (a:Addr),ObS τ[i]? c→σ[i]?=some (some (.ref a))→p∉Lof H c a:=fun i c a h e hl=>by
 obtain⟨a',C,dx,vs,fs,h1,h2,h3⟩:=o.get h
 rw[e] at h1;cases h1
 rw[Lof.ins h2] at hl
 obtain⟨_,ws,q⟩:=h3.own hl
 rw[hp] at q;cases q
theorem ObsOk.lof{K:PySem.W.Frag}{F H:Hp}{τ:DS}{σ:St}{i:Nat}{c:Str}{a p:Addr}{u:HO}(o:ObsOk K F τ σ H)(h1:ObS τ[i]? c)(h2:σ[i]?=some (some (.ref a)))(hl:H p=.none∨∃vs,H p=some (.lst vs)):Lof (upd H p u) c a=Lof H c a:=by
 obtain⟨a',C,dx,vs,fs,h3,h4,_⟩:=o.get h1
 rw[h2] at h3;cases h3
 have:a≠p:=fun z=>by
  subst z
  rcases hl with z|⟨ws,z⟩
  ·rw[z] at h4;cases h4
  ·rw[z] at h4;cases h4
 rw[Lof.ins h4,Lof.ins (show upd H p u a=some (.ins C dx vs) by rw[zp this];exact h4)]
structure RV(K:PySem.W.Frag)(F:Hp)(τ:DS)(σ:St)(H:Hp):Prop where
 fh:Same F H
 len:τ.length=σ.length
 val:∀(i:Nat) (d:D),τ[i]?=some (some (.val d))→∃v,σ[i]?=some (some v)∧Rep K F d v
 own:∀(i:Nat) (ds:List D),τ[i]?=some (some (.own ds))→∃a vs,σ[i]?=some (some (.ref a))∧H a=some (.lst vs)∧F a=none∧Reps K F ds vs
 dis:∀(i j:Nat) (ds es:List D) (a:Addr),i≠j→τ[i]?=some (some (.own ds))→τ[j]?=some (some (.own es))→σ[i]?=some (some (.ref a))→σ[j]?=some (some (.ref a))→False
 tt:TbT F H
 ob:ObsOk K F τ σ H
theorem RV.ext{K:PySem.W.Frag}{F H F' H':Hp}{τ:DS}{σ:St}(R:RV K F τ σ H)(x:Ext F H F' H'):RV K F' τ σ H':=
 ⟨x.fh,R.len,fun i d e=>by
  obtain⟨v,h1,h2⟩:=R.val i d e
  exact⟨v,h1,h2.mono x.ff⟩,
  fun i ds e=>by
   obtain⟨a,vs,h1,h2,h3,h4⟩:=R.own i ds e
   refine⟨a,vs,h1,x.hh _ _ h2,?_,h4.mono x.ff⟩
   cases q:F' a with
   |none=>rfl
   |some o=>
    rcases x.nw a o q with z|z
    ·rw[h3] at z;cases z
    ·rw[h2] at z;exact absurd z (by simp),
  R.dis,x.tt R.tt,R.ob.ext x⟩
structure RS(K:PySem.W.Frag)(B Z F:Hp)(τ:DS)(σ:St)(H:Hp):Prop where
 rv:RV K F τ σ H
 bh:Hh B H
 zf:Same Z F
 nb:∀a o,F a=some o→Z a=some o∨B a=none
 ob:∀(i:Nat) (ds:List D) (a:Addr),τ[i]?=some (some (.own ds))→σ[i]?=some (some (.ref a))→B a=none
 oo:∀(i n:Nat) (c:Str) (fs:List (Str×D)) (a:Addr),τ[i]?=some (some (.obj n c fs))→σ[i]?=some (some (.ref a))→B a=none∧∀l∈Lof H c a,B l=none
 sf:∀(a0 dx:Addr),B dx=some (.own a0)→B a0=none→∀(i n:Nat) (c:Str) (fs:List (Str×D)),τ[i]?=some (some (.obj (n+1) c fs))→σ[i]?=some (some (.ref a0))
 ro:∀(i:Nat) (c:Str) (fs:List (Str×D)) (a:Addr),τ[i]?=some (some (.obr c fs))→σ[i]?=some (some (.ref a))→∃C dx vs,B a=some (.ins C dx vs)∧∀l∈ZH c vs,∃ws,B l=some (.lst ws)
theorem RS.ext{K:PySem.W.Frag}{B Z F H F' H':Hp}{τ:DS}{σ:St}(R:RS K B Z F τ σ H)(x:Ext F H F' H'):RS K B Z F' τ σ H':=
 ⟨R.rv.ext x,R.bh.trans x.hh,R.zf.trans x.ff,fun a o e=>by
  rcases x.nw a o e with q|q
  ·exact R.nb a o q
  ·exact .inr (wU R.bh q),R.ob,fun i n c fs a h1 h2=>by
  obtain⟨q1,q2⟩:=R.oo i n c fs a h1 h2
  refine⟨q1,fun l hl=>q2 l ?_⟩
  obtain⟨a',h3,C,dx,vs,h4,_⟩:=R.rv.ob.at_ i n c fs h1
  rw[h2] at h3;cases h3
  rw[Lof.ins h4]
  rw[Lof.ins (x.hh _ _ h4:H' a=some (.ins C dx vs))] at hl
  exact hl,R.sf,R.ro⟩
theorem RS.out{K:PySem.W.Frag}{B Z F H:Hp}{τ:DS}{σ:St}(R:RS K B Z F τ σ H):Ext Z B F H:=⟨R.zf,R.bh,R.rv.fh,R.nb,fun _=>R.rv.tt⟩
def Xob(X:Cx)(c:Str):Prop:=∀e s',X.xe e s'
def Ok(X:Cx){α:Type}(r:Rs α)(P:α→Prop):Prop:=match r with
 |.ok a=>P a
 |.ex c=>Xob X c
 |.no=>False
theorem Ok.bind{X:Cx}{α β:Type}{r:Rs α}{k:α→Rs β}{P:β→Prop}(h:Ok X (r.bind k) P):Ok X r fun a=>Ok X (k a) P:=by
 cases r <;> exact h
theorem Ok.imp{X:Cx}{α:Type}{r:Rs α}{P Q:α→Prop}(h:Ok X r P)(f:∀a,P a→Q a):Ok X r Q:=by
 cases r with
 |ok a=>exact f a h
 |ex c=>exact h
 |no=>exact h
abbrev FE:=DS→Rs D
abbrev FA:=DS→Rs (List D)
abbrev FT:=DS→Rs Bool
def Ev(K:PySem.W.Frag)(F H:Hp)(Q:VK)(d:D):Prop:=∀v F' H',Ext F H F' H'→Rep K F' d v→Q v H'
def Evs(K:PySem.W.Frag)(F H:Hp)(Q:List V→Hp→Prop)(ds:List D):Prop:=∀vs F' H',Ext F H F' H'→Reps K F' ds vs→Q vs H'
def Evb(F H:Hp)(Q:Bool→Hp→Prop)(b:Bool):Prop:=∀F' H',Ext F H F' H'→Q b H'
theorem Ev.ext{K:PySem.W.Frag}{F H F1 H1:Hp}{Q:VK}{d:D}(h:Ev K F H Q d)(x:Ext F H F1 H1):Ev K F1 H1 Q d:=fun v F' H' y r=>h v F' H' (x.trans y) r
theorem Evb.ext{F H F1 H1:Hp}{Q:Bool→Hp→Prop}{d:Bool}(h:Evb F H Q d)(x:Ext F H F1 H1):Evb F1 H1 Q d:=fun F' H' y=>h F' H' (x.trans y)
def tE(X:Cx)(f:FE):TE:=fun σ H Q=>∃F τ,RV X.K F τ σ H∧Ok X (f τ) (Ev X.K F H Q)
def tAs(X:Cx)(f:FA):TA:=fun σ H Q=>∃F τ,RV X.K F τ σ H∧Ok X (f τ) (Evs X.K F H Q)
def tTs(X:Cx)(f:FT):TT:=fun σ H Q=>∃F τ,RV X.K F τ σ H∧Ok X (f τ) (Evb F H Q)
def PDE(X:Cx)(e:Expr)(f:FE):Prop:=PE X e (tE X f)
def PDA(X:Cx)(e:List Expr)(f:FA):Prop:=PA X e (tAs X f)
def PDT(X:Cx)(e:Expr)(f:FT):Prop:=PT X e (tTs X f)
def PDW(X:Cx)(e:Expr)(f:FT):Prop:=PW X e (tTs X f)
theorem _root_.L2.PE.imp{X:Cx}{e:Expr}{t t':TE}(h:PE X e t)(f:∀σ H Q,t' σ H Q→t σ H Q):PE X e t':=fun pins s σ H Q I q=>h pins s σ H Q I (f _ _ _ q)
theorem _root_.L2.PT.imp{X:Cx}{e:Expr}{t t':TT}(h:PT X e t)(f:∀σ H Q,t' σ H Q→t σ H Q):PT X e t':=fun pins s σ H Q I q=>h pins s σ H Q I (f _ _ _ q)
theorem _root_.L2.PW.imp{X:Cx}{e:Expr}{t t':TT}(h:PW X e t)(f:∀σ H Q,t' σ H Q→t σ H Q):PW X e t':=fun w pins s σ H Q I q=>h w pins s σ H Q I (f _ _ _ q)
theorem _root_.L2.PA.imp{X:Cx}{e:List Expr}{t t':TA}(h:PA X e t)(f:∀σ H Q,t' σ H Q→t σ H Q):PA X e t':=fun p pins s σ H Q I q=>h p pins s σ H Q I (f _ _ _ q)
theorem _root_.L2.PS.imp{X:Cx}{e:Stmt}{t t':TS}(h:PS X e t)(f:∀E σ H,t' E σ H→t E σ H):PS X e t':=fun pins s σ H Q I q=>h pins s σ H Q I (f _ _ _ q)
theorem _root_.L2.PSs.imp{X:Cx}{e:List Stmt}{t t':TS}(h:PSs X e t)(f:∀E σ H,t' E σ H→t E σ H):PSs X e t':=fun pins s σ H Q I q=>h pins s σ H Q I (f _ _ _ q)
theorem tE.of{X:Cx}{f:FE}{F H:Hp}{τ:DS}{σ:St}{Q:VK}{G:D→Prop}(R:RV X.K F τ σ H)(h:Ok X (f τ) G)
  (k:∀d v F1 H1,G d→Ext F H F1 H1→RV X.K F1 τ σ H1→Rep X.K F1 d v→Q v H1):tE X f σ H Q:=
 ⟨F,τ,R,h.imp fun d g v F1 H1 x r=>k d v F1 H1 g x (R.ext x) r⟩
theorem tAs.of{X:Cx}{f:FA}{F H:Hp}{τ:DS}{σ:St}{Q:List V→Hp→Prop}{G:List D→Prop}(R:RV X.K F τ σ H)(h:Ok X (f τ) G)
  (k:∀d v F1 H1,G d→Ext F H F1 H1→RV X.K F1 τ σ H1→Reps X.K F1 d v→Q v H1):tAs X f σ H Q:=
 ⟨F,τ,R,h.imp fun d g v F1 H1 x r=>k d v F1 H1 g x (R.ext x) r⟩
theorem tTs.of{X:Cx}{f:FT}{F H:Hp}{τ:DS}{σ:St}{Q:Bool→Hp→Prop}{G:Bool→Prop}(R:RV X.K F τ σ H)(h:Ok X (f τ) G)
  (k:∀b F1 H1,G b→Ext F H F1 H1→RV X.K F1 τ σ H1→Q b H1):tTs X f σ H Q:=
 ⟨F,τ,R,h.imp fun d g F1 H1 x=>k d F1 H1 g x (R.ext x)⟩
def zd(i:Nat):FE:=fun τ=>match τ[i]? with
 | some (some (.val d))=>.ok d
 |_=>.no
section
variable{X:Cx}{pos:Pos}
theorem zb{i:Nat}{x:Str}(h:PE X (.Name x pos) (vH i)):PDE X (.Name x pos) (zd i):=h.imp fun σ H Q ⟨F,τ,R,q⟩=>by
 unfold zd at q
 cases e:τ[i]? with
 |none=>rw[e] at q;exact q.elim
 |some o=>
  cases o with
  |none=>rw[e] at q;exact q.elim
  |some sl=>
   cases sl with
   |own ds=>rw[e] at q;exact q.elim
   |obj n c fs=>rw[e] at q;exact q.elim
   |obr c fs=>rw[e] at q;exact q.elim
   |val d=>
    rw[e] at q
    obtain⟨v,h1,h2⟩:=R.val i d e
    exact⟨v,h1,q v F H (Ext.refl R.fh) h2⟩
def eC(d:D):FE:=fun _=>.ok d
theorem WQ{e:Expr}{v:V}{d:D}(h:PE X e (tC v))(r:∀F,Rep X.K F d v):PDE X e (eC d):=h.imp fun σ H Q ⟨F,τ,R,q⟩=>q v F H (Ext.refl R.fh) (r F)
theorem zj{i j}:PDE X (.Constant (.int i) j pos) (eC (.int i)):=WQ LW fun _=>by simp only[Rep]
theorem v6{i j}:PDE X (.Constant (.bool i) j pos) (eC (.bl i)):=WQ Le fun _=>by simp only[Rep]
theorem jr{j}:PDE X (.Constant .none j pos) (eC .non):=WQ LV fun _=>by simp only[Rep]
theorem vi{i j}:PDE X (.Constant (.str i) j pos) (eC (.str i)):=WQ LT fun _=>by simp only[Rep]
end
def OpD(X:Cx)(g:Value→Value→Sem Value)(op:D→D→Rs D):Prop:=∃r:R2,OpR X g r ∧
 ∀F H x y dx dy Q,Same F H→Rep X.K F dx x→Rep X.K F dy y→Ok X (op dx dy) (Ev X.K F H Q)→r x y H Q
def eOp(op:D→D→Rs D)(fa fb:FE):FE:=fun τ=>(fa τ).bind fun x=>(fb τ).bind fun y=>op x y
section
variable{X:Cx}{pos:Pos}{a b c:Expr}{fa fb fc:FE}
theorem UP{r:R2}{op:D→D→Rs D}(hl:∀F H x y dx dy Q,Same F H→Rep X.K F dx x→Rep X.K F dy y→Ok X (op dx dy) (Ev X.K F H Q)→r x y H Q)
  (σ:St) (H:Hp) (Q:VK) (h:tE X (eOp op fa fb) σ H Q):tOp r (tE X fa) (tE X fb) σ H Q:=by
 obtain⟨F,τ,R,h⟩:=h
 refine tE.of R h.bind fun x u F1 H1 g x1 R1 r1=>?_
 refine tE.of R1 g.bind fun y v F2 H2 g2 x2 R2 r2=>?_
 exact hl F2 H2 u v x y Q R2.fh (r1.mono x2.ff) r2 (g2.imp fun d e=>e.ext (x1.trans x2))
theorem zv{o:Operator}{op:D→D→Rs D}(ho:OpD X (binaryOp o) op)(ha:PDE X a fa)(hb:PDE X b fb):PDE X (.BinOp a o b pos) (eOp op fa fb):=by
 obtain⟨r,h1,h2⟩:=ho
 exact(pe_op h1 ha hb).imp (UP h2)
theorem uv{o:CmpOp}{op:D→D→Rs D}(ho:OpD X (compareOp o) op)(ha:PDE X a fa)(hb:PDE X b fb)(hm:behindInMarks o b=false):PDE X (.Compare a [o] [b] pos) (eOp op fa fb):=by
 obtain⟨r,h1,h2⟩:=ho
 exact(MW h1 ha hb hm).imp (UP h2)
def tB(f:FE):FT:=fun τ=>(f τ).bind fun d=>match d with
 |.bl b=>.ok b
 |_=>.no
theorem Mm{t:FE}{u:TE}(hi:∀σ H Q,tE X t σ H Q→u σ H Q)(σ:St)(H:Hp)(Q:Bool→Hp→Prop)(h:tTs X (tB t) σ H Q):T7 u σ H Q:=by
 obtain⟨F,τ,R,h⟩:=h
 refine hi σ H _ (tE.of R h.bind fun d v F1 H1 g x R1 r=>?_)
 cases d with
 |bl k=>simp only[Rep] at r;exact⟨k,r,g F1 H1 x⟩
 |_=>exact g.elim
theorem zG{o:CmpOp}{op:D→D→Rs D}(ho:OpD X (compareOp o) op)(ha:PDE X a fa)(hb:PDE X b fb)(hm:behindInMarks o b=false):PDT X (.Compare a [o] [b] pos) (tB (eOp op fa fb)):=by
 obtain⟨r,h1,h2⟩:=ho
 exact(MO h1 ha hb hm).imp (Mm (UP h2))
def jT:D→Rs Bool
 |.non=>.ok false
 |.bl b=>.ok b
 |.int i=>.ok (i != 0)
 |.str x=>if x.length≤sizeLine then .ok ((x.length:Int) != 0) else .no
 |.lst ds=>.ok (!ds.isEmpty)
 |.tup ds=>.ok (!ds.isEmpty)
 |.scr ns=>.ok (!ns.isEmpty)
 |.raw _=>.no
 |.exc _=>.no
theorem jC{K:PySem.W.Frag}{F:Hp}{ds:List D}{vs:List V}(h:Reps K F ds vs):ds.isEmpty=vs.isEmpty:=by
 have:=h.length
 cases ds <;> cases vs <;> simp_all
theorem VH{F H:Hp}{d:D}{v:V}{Q:Bool→Hp→Prop}(fh:Same F H)(r:Rep X.K F d v)(h:Ok X (jT d) (fun b=>Q b H)):∃k,ze2 X.K v H k∧Q k H:=by
 cases d with
 |non=>simp only[Rep] at r;subst r;exact⟨_,rfl,h⟩
 |bl b=>simp only[Rep] at r;subst r;exact⟨_,rfl,h⟩
 |int i=>simp only[Rep] at r;subst r;exact⟨_,rfl,h⟩
 |str x=>
  simp only[Rep] at r;subst r
  simp only[jT] at h
  by_cases z:x.length≤sizeLine
  ·rw[if_pos z] at h;exact⟨_,⟨z,rfl⟩,h⟩
  ·rw[if_neg z] at h;exact h.elim
 |lst ds=>
  simp only[Rep] at r;obtain⟨a,vs,rfl,e,q⟩:=r
  refine⟨!vs.isEmpty,.inl ⟨vs,SqL.of (fh _ _ e),rfl⟩,?_⟩
  rw[← jC q];exact h
 |tup ds=>
  simp only[Rep] at r;obtain⟨a,vs,rfl,e,q⟩:=r
  refine⟨!vs.isEmpty,.inr (.inl ⟨vs,Same.seqT fh e,rfl⟩),?_⟩
  rw[← jC q];exact h
 |scr ns=>
  simp only[Rep] at r;obtain⟨a,rfl,e⟩:=r
  refine⟨!(ns.map V.int).isEmpty,.inl ⟨_,fh.seq e,rfl⟩,?_⟩
  have e2:(ns.map V.int).isEmpty=ns.isEmpty:=by cases ns <;> rfl
  rw[e2];exact h
 |raw u=>exact h.elim
 |exc c=>exact h.elim
def jh(f:FE):FT:=fun τ=>(f τ).bind jT
theorem jo(ha:PDE X a fa)(he:∀whole,isTrue a X.env whole=(do let v ← whole;standAt a.pos;holding [v] (truthy v)):=by intro _;rfl):PDT X a (jh fa):=
 (QR ha he).imp fun σ H Q ⟨F,τ,R,h⟩=>tE.of R h.bind fun d v F1 H1 g x R1 r=>VH R1.fh r (g.imp fun b e=>e F1 H1 x)
def ji(f g:FT):FT:=fun τ=>(f τ).bind fun b=>if b=true then g τ else .ok false
def jV(f g:FT):FT:=fun τ=>(f τ).bind fun b=>if b=true then .ok true else g τ
def Wx(f:FT):FT:=fun τ=>(f τ).bind fun b=>.ok (!b)
variable{ga gb:FT}{rest:List Expr}
theorem Yf(ha:PDT X a ga):PDW X (.BoolOp .And [a] pos) ga:=MJ ha
theorem ZR(ha:PDT X a ga):PDW X (.BoolOp .Or [a] pos) ga:=LH ha
theorem XZ(ha:PDT X a ga)(hb:PDW X (.BoolOp .And (b::rest) pos) gb):PDW X (.BoolOp .And (a::b::rest) pos) (ji ga gb):=
 PW.imp (LJ ha hb) fun σ H Q ⟨F,τ,R,h⟩=>tTs.of R h.bind fun k F1 H1 g x R1=>by
  cases k with
  |true=>rw[if_pos rfl];rw[if_pos rfl] at g;exact⟨F1,τ,R1,g.imp fun d e=>e.ext x⟩
  |false=>rw[if_neg (by simp)];rw[if_neg (by simp)] at g;exact g F1 H1 x
theorem XY(ha:PDT X a ga)(hb:PDW X (.BoolOp .Or (b::rest) pos) gb):PDW X (.BoolOp .Or (a::b::rest) pos) (jV ga gb):=
 PW.imp (pw_or ha hb) fun σ H Q ⟨F,τ,R,h⟩=>tTs.of R h.bind fun k F1 H1 g x R1=>by
  cases k with
  |false=>rw[if_neg (by simp)];rw[if_neg (by simp)] at g;exact⟨F1,τ,R1,g.imp fun d e=>e.ext x⟩
  |true=>rw[if_pos rfl];rw[if_pos rfl] at g;exact g F1 H1 x
theorem Yg{e:Expr}(h:PDW X e ga):PDT X e ga:=PW.pt h
theorem MY(ha:PDT X a ga):PDT X (.UnaryOp .Not a pos) (Wx ga):=
 PT.imp (LK ha) fun σ H Q ⟨F,τ,R,h⟩=>tTs.of R h.bind fun k F1 H1 g x R1=>g F1 H1 x
def eIf(g:FT)(fa fb:FE):FE:=fun τ=>(g τ).bind fun b=>if b=true then fa τ else fb τ
theorem LY(hc:PDT X c ga)(ha:PDE X a fa)(hb:PDE X b fb):PDE X (.IfExp c a b pos) (eIf ga fa fb):=
 PE.imp (QZ hc ha hb) fun σ H Q ⟨F,τ,R,h⟩=>tTs.of R h.bind fun k F1 H1 g x R1=>by
  cases k with
  |true=>rw[if_pos rfl];rw[if_pos rfl] at g;exact⟨F1,τ,R1,g.imp fun d e=>e.ext x⟩
  |false=>rw[if_neg (by simp)];rw[if_neg (by simp)] at g;exact⟨F1,τ,R1,g.imp fun d e=>e.ext x⟩
def zd2(fa fb:FE):FE:=fun τ=>(fa τ).bind fun x=>(jT x).bind fun b=>if b=true then fb τ else .ok x
def eOr(fa fb:FE):FE:=fun τ=>(fa τ).bind fun x=>(jT x).bind fun b=>if b=true then .ok x else fb τ
theorem X3{op}(h:PDE X a fa):PDE X (.BoolOp op [a] pos) fa:=LU h
theorem M1(ha:PDE X a fa)(hb:PDE X (.BoolOp .And (b::rest) pos) fb):PDE X (.BoolOp .And (a::b::rest) pos) (zd2 fa fb):=by
 intro pins s σ H Q I ⟨F,τ,R,h⟩
 refine BoolOp_and (thn (ha pins s σ H _ I (tE.of R h.bind fun d v F1 H1 g x R1 r=>(⟨d,F1,g,x,R1,r⟩:∃d F1,Ok X ((jT d).bind fun b=>if b=true then fb τ else .ok d) (Ev X.K F H Q)∧Ext F H F1 H1∧RV X.K F1 τ σ H1∧Rep X.K F1 d v))) fun v s1 ⟨x,H1,I1,r1,d,F1,g,x1,R1,r⟩=>?_)
 refine thn (tru_ok pins s1 σ H1 x v (fun b H2=>H2=H1∧Ok X (if b=true then fb τ else .ok d) (Ev X.K F H Q)) I1 r1 (VH (Q:=fun b H2=>H2=H1∧Ok X (if b=true then fb τ else .ok d) (Ev X.K F H Q)) R1.fh r (g.bind.imp fun b e=>⟨rfl,e⟩))) fun k s2 ⟨H2,I2,e2,q⟩=>?_
 subst e2
 cases k with
 |true=>rw[if_pos rfl] at q ⊢;exact hb pins s2 σ _ Q I2 ⟨F1,τ,R1,q.imp fun d e=>e.ext x1⟩
 |false=>rw[if_neg (by simp)] at q ⊢;exact⟨x,_,I2,r1,q x F1 _ x1 r⟩
theorem Q2(ha:PDE X a fa)(hb:PDE X (.BoolOp .Or (b::rest) pos) fb):PDE X (.BoolOp .Or (a::b::rest) pos) (eOr fa fb):=by
 intro pins s σ H Q I ⟨F,τ,R,h⟩
 refine BoolOp_or (thn (ha pins s σ H _ I (tE.of R h.bind fun d v F1 H1 g x R1 r=>(⟨d,F1,g,x,R1,r⟩:∃d F1,Ok X ((jT d).bind fun b=>if b=true then .ok d else fb τ) (Ev X.K F H Q)∧Ext F H F1 H1∧RV X.K F1 τ σ H1∧Rep X.K F1 d v))) fun v s1 ⟨x,H1,I1,r1,d,F1,g,x1,R1,r⟩=>?_)
 refine thn (tru_ok pins s1 σ H1 x v (fun b H2=>H2=H1∧Ok X (if b=true then .ok d else fb τ) (Ev X.K F H Q)) I1 r1 (VH (Q:=fun b H2=>H2=H1∧Ok X (if b=true then .ok d else fb τ) (Ev X.K F H Q)) R1.fh r (g.bind.imp fun b e=>⟨rfl,e⟩))) fun k s2 ⟨H2,I2,e2,q⟩=>?_
 subst e2
 cases k with
 |false=>rw[if_neg (by simp)] at q ⊢;exact hb pins s2 σ _ Q I2 ⟨F1,τ,R1,q.imp fun d e=>e.ext x1⟩
 |true=>rw[if_pos rfl] at q ⊢;exact⟨x,_,I2,r1,q x F1 _ x1 r⟩
end
section
variable{X:Cx}{pos:Pos}{e:Expr}{es:List Expr}{fe:FE}{fs:FA}
def zh:FA:=fun _=>.ok []
def za(f:FE)(g:FA):FA:=fun τ=>(f τ).bind fun x=>(g τ).bind fun r=>.ok (x::r)
theorem zi:PDA X [] zh:=PA.imp j5 fun σ H Q ⟨F,τ,R,h⟩=>h [] F H (Ext.refl R.fh) Reps.nil
theorem zc(ha:PDE X e fe)(hr:PDA X es fs)(hs:starEach (e::es) X.env=(false,eval e X.env)::starEach es X.env:=by rfl):PDA X (e::es) (za fe fs):=
 PA.imp (uw ha hr hs) fun σ H Q ⟨F,τ,R,h⟩=>tE.of R h.bind fun x v F1 H1 g x1 R1 r1=>tAs.of R1 g.bind fun ys vs F2 H2 g2 x2 R2 r2=>
  g2 (v::vs) F2 H2 (x1.trans x2) (Reps.cons (r1.mono x2.ff) r2)
def wa(f:FA):FE:=fun τ=>(f τ).bind fun ds=>if ds.length≤sizeLine then .ok (.tup ds) else .no
def xP(f:FA):FE:=fun τ=>(f τ).bind fun ds=>if ds.length≤sizeLine then .ok (.lst ds) else .no
theorem yz{X:Cx}{α:Type}{c:Prop}[Decidable c]{a:α}{P:α→Prop}(h:Ok X (if c then .ok a else .no) P):c∧P a:=by
 by_cases z:c
 ·rw[if_pos z] at h;exact⟨z,h⟩
 ·rw[if_neg z] at h;exact h.elim
theorem wN{x1}(h:PDA X es fs):PDE X (.Tuple es x1 pos) (wa fs):=
 PE.imp (QW h) fun σ H Q ⟨F,τ,R,hq⟩=>tAs.of R hq.bind fun ds vs F1 H1 g x R1 r=>by
  obtain⟨z,g⟩:=yz g
  refine⟨by rw[← r.length];exact z,fun p hp=>g (.ref p) _ _ (x.trans (Ext.new R1.fh hp)) ?_⟩
  simp only[Rep]
  exact⟨p,vs,rfl,SqT.of zt,r.mono (yj (zU R1.fh hp))⟩
theorem x6(h:PDA X es fs):PDE X (.List es pos) (xP fs):=
 PE.imp (VT h) fun σ H Q ⟨F,τ,R,hq⟩=>tAs.of R hq.bind fun ds vs F1 H1 g x R1 r=>by
  obtain⟨z,g⟩:=yz g
  refine⟨by rw[← r.length];exact z,fun p hp=>g (.ref p) _ _ (x.trans (Ext.new R1.fh hp)) ?_⟩
  simp only[Rep]
  exact⟨p,vs,rfl,zt,r.mono (yj (zU R1.fh hp))⟩
end
inductive Fl where
 | nx (τ:DS) | rt (d:D) | bk (τ:DS) | ct (τ:DS) | ex (c:Str) | no
 | rs (c:Str) (τ:DS)
 | ro (d:D) (τ:DS)
 | rb (i:Nat) (τ:DS)
def Nw(X:Cx)(H:Hp)(b:Addr):Prop:=H b=none∧X.s₀.heap.get? b=none∧∀p∈X.pn,p.1≠b
def ExcAt(X:Cx)(H:Hp)(h:Heap)(a:Addr)(cls:Value):Prop:=Nw X H a∧∃oe vs,h.get? a=some oe∧oe.cls=cls∧oe.dict=none∧oe.data=.fields vs ∧
 (vs[1]?=some .none∨∃T oT ts,vs[1]?=some (.ref T)∧Nw X H T∧T≠a∧h.get? T=some oT∧oT.data=.fields ts∧ts[3]?=some .none)∧vs[2]?=some .none
def XA(X:Cx)(c:Str)(σ:St)(H:Hp):Prop:=∀s a cls,nsIn X.K mainGlobals c=some (some cls)→Inv X [] σ H s→ExcAt X H s.heap a cls→X.xe (.ref a) s
abbrev FS:=DS→Fl
def Post(X:Cx)(B Z F:Hp)(E:VD):Fl→Prop
 |.nx τ=>∀σ F' H',Same F F'→RS X.K B Z F' τ σ H'→E.nx σ H'
 |.bk τ=>∀σ F' H',Same F F'→RS X.K B Z F' τ σ H'→E.bk σ H'
 |.ct τ=>∀σ F' H',Same F F'→RS X.K B Z F' τ σ H'→E.ct σ H'
 |.rt d=>∀v F' H',Ext Z B F' H'→Rep X.K F' d v→E.rt v H'
 |.ex c=>Xob X c
 |.no=>False
 |.rs c τ=>∀σ F' H',Same F F'→RS X.K B Z F' τ σ H'→XA X c σ H'
 |.ro d τ=>∀v σ F' H',Same F F'→RS X.K B Z F' τ σ H'→Rep X.K F' d v→E.rt v H'
 |.rb i τ=>∀v σ F' H',Same F F'→RS X.K B Z F' τ σ H'→σ[i]?=some (some v)→E.rt v H'
theorem Post.same{X:Cx}{B Z F F1:Hp}{E:VD}{r:Fl}(h:Post X B Z F E r)(f:Same F F1):Post X B Z F1 E r:=by
 cases r with
 |nx τ=>exact fun σ F' H' g R=>h σ F' H' (f.trans g) R
 |bk τ=>exact fun σ F' H' g R=>h σ F' H' (f.trans g) R
 |ct τ=>exact fun σ F' H' g R=>h σ F' H' (f.trans g) R
 |rt d=>exact h
 |ex c=>exact h
 |no=>exact h
 |rs c τ=>exact fun σ F' H' g R=>h σ F' H' (f.trans g) R
 |ro d τ=>exact fun v σ F' H' g R r=>h v σ F' H' (f.trans g) R r
 |rb i τ=>exact fun v σ F' H' g R r=>h v σ F' H' (f.trans g) R r
def tS(X:Cx)(f:FS):TS:=fun E σ H=>∃B Z F τ,RS X.K B Z F τ σ H∧Post X B Z F E (f τ)
def PDS(X:Cx)(st:Stmt)(f:FS):Prop:=PS X st (tS X f)
def YS(X:Cx)(st:List Stmt)(f:FS):Prop:=PSs X st (tS X f)
def Fl.of{α:Type}(r:Rs α)(k:α→Fl):Fl:=match r with
 |.ok a=>k a
 |.ex c=>.ex c
 |.no=>.no
@[simp] theorem Fl.of_ok{α:Type}(a:α)(k:α→Fl):Fl.of (.ok a) k=k a:=rfl
theorem Post.of{X:Cx}{B Z F:Hp}{E:VD}{α:Type}{r:Rs α}{k:α→Fl}(h:Post X B Z F E (Fl.of r k)):Ok X r fun a=>Post X B Z F E (k a):=by
 cases r <;> exact h
section
variable{X:Cx}{pos:Pos}{e:Expr}{es:List Expr}{fe:FE}{fs:FA}{st:Stmt}{rest:List Stmt}{f g:FS}{c:Expr}{gc:FT}
def yg:FS:=fun τ=>.nx τ
def zA(f g:FS):FS:=fun τ=>match f τ with
 |.nx τ'=>g τ'
 |r=>r
theorem z7:YS X [] yg:=PSs.imp UG fun E σ H ⟨B,Z,F,τ,R,h⟩=>h σ F H (Same.refl F) R
theorem zn(h:PDS X st f):YS X [st] f:=ZP h
theorem zm(h1:PDS X st f)(h2:YS X rest g):YS X (st::rest) (zA f g):=
 PSs.imp (jm h1 h2) fun E σ H ⟨B,Z,F,τ,R,h⟩=>by
  refine⟨B,Z,F,τ,R,?_⟩
  unfold zA at h
  cases q:f τ with
  |nx τ'=>rw[q] at h;exact fun σ' F' H' ff R'=>⟨B,Z,F',τ',R',Post.same h ff⟩
  |rt d=>rw[q] at h;exact h
  |bk d=>rw[q] at h;exact h
  |ct d=>rw[q] at h;exact h
  |ex d=>rw[q] at h;exact h
  |no=>rw[q] at h;exact h
  |rs c d=>rw[q] at h;exact h
  |ro c d=>rw[q] at h;exact h
  |rb c d=>rw[q] at h;exact h
def sNo:FS:=fun _=>.no
theorem JC:PDS X st sNo:=PS.imp QT fun E σ H ⟨B,Z,F,τ,R,h⟩=>h
def yG(fe:FE):FS:=fun τ=>Fl.of (fe τ) fun d=>.rt d
theorem tE.at{B Z F H:Hp}{τ:DS}{σ:St}{Q:VK}{G:D→Prop}(R:RS X.K B Z F τ σ H)(h:Ok X (fe τ) G)
  (k:∀d v F1 H1,G d→Ext F H F1 H1→RS X.K B Z F1 τ σ H1→Rep X.K F1 d v→Q v H1):tE X fe σ H Q:=
 tE.of R.rv h fun d v F1 H1 g x _ r=>k d v F1 H1 g x (R.ext x) r
theorem zF(he:PDE X e fe):PDS X (.Return (some e) pos) (yG fe):=
 PS.imp (VS he) fun E σ H ⟨B,Z,F,τ,R,h⟩=>tE.at R h.of fun d v F1 H1 g x R1 r=>g v F1 H1 R1.out r
def Xj(fe:FE):FS:=fun τ=>Fl.of (fe τ) fun _=>.nx τ
theorem Q1(he:PDE X e fe)(hs:swapsWith e none pos.line X.env=pure false:=by rfl):PDS X (.Expr e pos) (Xj fe):=
 PS.imp (XX he hs) fun E σ H ⟨B,Z,F,τ,R,h⟩=>tE.at R h.of fun d v F1 H1 g x R1 r=>g σ F1 H1 x.ff R1
def sIf(gc:FT)(f g:FS):FS:=fun τ=>Fl.of (gc τ) fun b=>if b=true then f τ else g τ
theorem yP{a b:List Stmt}(hc:PDT X c gc)(ha:YS X a f)(hb:YS X b g):PDS X (.If c a b pos) (sIf gc f g):=
 PS.imp (La hc ha hb) fun E σ H ⟨B,Z,F,τ,R,h⟩=>tTs.of R.rv h.of fun k F1 H1 q x _=>by
  cases k with
  |true=>rw[if_pos rfl] at q ⊢;exact⟨B,Z,F1,τ,R.ext x,q.same x.ff⟩
  |false=>rw[if_neg (by simp)] at q ⊢;exact⟨B,Z,F1,τ,R.ext x,q.same x.ff⟩
theorem RV.set{K:PySem.W.Frag}{F H:Hp}{τ:DS}{σ:St}{i:Nat}{d:D}{v:V}(R:RV K F τ σ H)(r:Rep K F d v):RV K F (τ.set i (some (.val d))) (σ.set i (some v)) H:=by
 refine⟨R.fh,by simp[R.len],fun j e h=>?_,fun j es h=>?_,fun j k ds es a hjk h1 h2 h3 h4=>?_,?_,?_⟩
 ·by_cases hij:i=j
  ·subst hij
   have hlt:i<τ.length:=by
    rcases lt_or_ge i τ.length with z|z
    ·exact z
    ·rw[List.getElem?_eq_none_iff.mpr (by simpa using z)] at h;cases h
   rw[getElem?_set_self hlt] at h
   cases h
   exact⟨v,by rw[getElem?_set_self (by rw[← R.len];exact hlt)],r⟩
  ·rw[getElem?_set_ne hij] at h ⊢
   exact R.val j e h
 ·by_cases hij:i=j
  ·subst hij
   rw[getElem?_set] at h
   simp only[if_true] at h
   split at h <;> cases h
  ·rw[getElem?_set_ne hij] at h ⊢
   exact R.own j es h
 ·have n1:i≠j:=fun z=>by
   subst z
   rw[getElem?_set] at h1
   simp only[if_true] at h1
   split at h1 <;> cases h1
  have n2:i≠k:=fun z=>by
   subst z
   rw[getElem?_set] at h2
   simp only[if_true] at h2
   split at h2 <;> cases h2
  rw[getElem?_set_ne n1] at h1 h3
  rw[getElem?_set_ne n2] at h2 h4
  exact R.dis j k ds es a hjk h1 h2 h3 h4
 ·exact R.tt
 ·exact R.ob.put rfl fun _ _ z=>by cases z
theorem RS.set{K:PySem.W.Frag}{B Z F H:Hp}{τ:DS}{σ:St}{i:Nat}{d:D}{v:V}(R:RS K B Z F τ σ H)(r:Rep K F d v):RS K B Z F (τ.set i (some (.val d))) (σ.set i (some v)) H:=
 ⟨R.rv.set r,R.bh,R.zf,R.nb,fun j ds a h1 h2=>by
  have n1:i≠j:=fun z=>by
   subst z
   rw[getElem?_set] at h1
   simp only[if_true] at h1
   split at h1 <;> cases h1
  rw[getElem?_set_ne n1] at h1 h2
  exact R.ob j ds a h1 h2,fun j m c fs a h1 h2=>by
  obtain⟨n,h1⟩:=yI (s:=some (.val d)) rfl rfl h1
  rw[getElem?_set_ne n] at h2
  exact R.oo j m c fs a h1 h2,fun a0 dx b1 b2 j m c fs h=>by
  obtain⟨n,h⟩:=yI (s:=some (.val d)) rfl rfl h
  rw[getElem?_set_ne n]
  exact R.sf a0 dx b1 b2 j m c fs h,fun j c fs a h1 h2=>by
  obtain⟨n,h1⟩:=yI (s:=some (.val d)) rfl rfl h1
  rw[getElem?_set_ne n] at h2
  exact R.ro j c fs a h1 h2⟩
def yo(i:Nat)(fe:FE):FS:=fun τ=>Fl.of (fe τ) fun d=>.nx (τ.set i (some (.val d)))
theorem ya{i:Nat}{x:Str}{pos':Pos}(hN:X.N.Nodup)(hi:X.N[i]?=some x)(hx:Loc X.env.scope x)(he:PDE X e fe)(hs:swapsWith e (some (.Name x pos')) pos.line X.env=pure false:=by rfl)(hf:X.fn x=true∨X.env.scope.names.lookup x=some .local:=by first|exact .inl rfl|exact .inr rfl|assumption) :
  PDS X (.Assign [.Name x pos'] e pos) (yo i fe):=
 PS.imp (VR hN hi hx he hs hf) fun E σ H ⟨B,Z,F,τ,R,h⟩=>tE.at R h.of fun d v F1 H1 g x R1 r=>g _ F1 H1 x.ff (R1.set r)
def tFr(X:Cx)(f:FA):TE:=fun σ H Q=>∃F τ,RV X.K F τ σ H∧Ok X (f τ) fun ds=>∀p vs F' H',Ext F H F' H'→H' p=none→Reps X.K F' ds vs→Q (.ref p) (upd H' p (.lst vs))
def PDF(X:Cx)(e:Expr)(f:FA):Prop:=PE X e (tFr X f)
theorem X2(h:PDA X es fs):PDF X (.List es pos) (fun τ=>(fs τ).bind fun ds=>if ds.length≤sizeLine then .ok ds else .no):=
 PE.imp (VT h) fun σ H Q ⟨F,τ,R,hq⟩=>tAs.of R hq.bind fun ds vs F1 H1 g x R1 r=>by
  obtain⟨z,g⟩:=yz g
  exact⟨by rw[← r.length];exact z,fun p hp=>g p vs F1 H1 x hp r⟩
theorem xK{ff:FA}(h:PDF X e ff):PDE X e (fun τ=>(ff τ).bind fun ds=>.ok (.lst ds)):=
 PE.imp h fun σ H Q ⟨F,τ,R,hq⟩=>⟨F,τ,R,hq.bind.imp fun ds g p vs F1 H1 x hp r=>by
  refine g (.ref p) _ _ (x.trans (Ext.new x.fh hp)) ?_
  simp only[Rep]
  exact⟨p,vs,rfl,zt,r.mono (yj (zU x.fh hp))⟩⟩
def vy(i:Nat)(ff:FA):FS:=fun τ=>Fl.of (ff τ) fun ds=>.nx (τ.set i (some (.own ds)))
theorem RV.setO{K:PySem.W.Frag}{F H:Hp}{τ:DS}{σ:St}{i:Nat}{p:Addr}{ds:List D}{vs:List V}(R:RV K F τ σ H)(hp:H p=none)(r:Reps K F ds vs):RV K F (τ.set i (some (.own ds))) (σ.set i (some (.ref p))) (upd H p (.lst vs)):=by
 have nofr:=zU R.fh hp
 have hlt:∀{o:Sl},(τ.set i (some (.own ds)))[i]?=some (some o)→i<τ.length:=fun {o} h=>by
  rcases lt_or_ge i τ.length with z|z
  ·exact z
  ·rw[List.getElem?_eq_none_iff.mpr (by simpa using z)] at h;cases h
 refine⟨R.fh.trans (yj hp),by simp[R.len],fun j e h=>?_,fun j es h=>?_,fun j k es es' a hjk h1 h2 h3 h4=>?_,?_,?_⟩
 ·by_cases hij:i=j
  ·subst hij
   rw[getElem?_set_self (hlt h)] at h;cases h
  ·rw[getElem?_set_ne hij] at h ⊢
   exact R.val j e h
 ·by_cases hij:i=j
  ·subst hij
   have l:=hlt h
   rw[getElem?_set_self l] at h
   cases h
   exact⟨p,vs,by rw[getElem?_set_self (by rw[← R.len];exact l)],zt,nofr,r⟩
  ·rw[getElem?_set_ne hij] at h ⊢
   obtain⟨a,ws,q1,q2,q3,q4⟩:=R.own j es h
   exact⟨a,ws,q1,by rw[zp (zP q2 hp)];exact q2,q3,q4⟩
 ·by_cases n1:i=j
  ·subst n1
   rw[getElem?_set_ne hjk] at h2 h4
   obtain⟨a',ws,q1,q2,q3,q4⟩:=R.own k es' h2
   rw[q1] at h4;cases h4
   have l:=hlt h1
   rw[getElem?_set_self (by rw[← R.len];exact l)] at h3
   cases h3
   rw[hp] at q2;cases q2
  ·by_cases n2:i=k
   ·subst n2
    rw[getElem?_set_ne (Ne.symm hjk)] at h1 h3
    obtain⟨a',ws,q1,q2,q3,q4⟩:=R.own j es h1
    rw[q1] at h3;cases h3
    have l:=hlt h2
    rw[getElem?_set_self (by rw[← R.len];exact l)] at h4
    cases h4
    rw[hp] at q2;cases q2
   ·rw[getElem?_set_ne n1] at h1 h3
    rw[getElem?_set_ne n2] at h2 h4
    exact R.dis j k es es' a hjk h1 h2 h3 h4
 ·exact R.tt.step (fun _ _ e=>.inl e) (fun b o e _=>by rw[zp (zP e hp)];exact e) (j9 fun _ z=>nomatch z)
 ·have o1:ObsOk K F (τ.set i (some (.own ds))) (σ.set i (some (.ref p))) H:=R.ob.put rfl fun _ l _ z=>by
   cases z;exact R.ob.fresh hp
  exact o1.updL (.inl hp) (o1.fresh hp)
theorem RS.setO{K:PySem.W.Frag}{B Z F H:Hp}{τ:DS}{σ:St}{i:Nat}{p:Addr}{ds:List D}{vs:List V}(R:RS K B Z F τ σ H)(hp:H p=none)(r:Reps K F ds vs):RS K B Z F (τ.set i (some (.own ds))) (σ.set i (some (.ref p))) (upd H p (.lst vs)):=
 ⟨R.rv.setO hp r,R.bh.trans (.of (yj hp)),R.zf,R.nb,fun j es a h1 h2=>by
  by_cases n1:i=j
  ·subst n1
   have l:i<τ.length:=by
    rcases lt_or_ge i τ.length with z|z
    ·exact z
    ·rw[List.getElem?_eq_none_iff.mpr (by simpa using z)] at h1;cases h1
   rw[getElem?_set_self (by rw[← R.rv.len];exact l)] at h2
   cases h2
   exact wU R.bh hp
  ·rw[getElem?_set_ne n1] at h1 h2
   exact R.ob j es a h1 h2,fun j m c fs a h1 h2=>by
  obtain⟨n,h1⟩:=yI (s:=some (.own ds)) rfl rfl h1
  rw[getElem?_set_ne n] at h2
  rw[R.rv.ob.lof (.inl ⟨m,fs,h1⟩) h2 (.inl hp)]
  exact R.oo j m c fs a h1 h2,fun a0 dx b1 b2 j m c fs h=>by
  obtain⟨n,h⟩:=yI (s:=some (.own ds)) rfl rfl h
  rw[getElem?_set_ne n]
  exact R.sf a0 dx b1 b2 j m c fs h,fun j c fs a h1 h2=>by
  obtain⟨n,h1⟩:=yI (s:=some (.own ds)) rfl rfl h1
  rw[getElem?_set_ne n] at h2
  exact R.ro j c fs a h1 h2⟩
theorem Yh{i:Nat}{x:Str}{pos':Pos}{ff:FA}(hN:X.N.Nodup)(hi:X.N[i]?=some x)(hx:Loc X.env.scope x)(he:PDF X e ff)(hs:swapsWith e (some (.Name x pos')) pos.line X.env=pure false:=by rfl)(hf:X.fn x=true∨X.env.scope.names.lookup x=some .local:=by first|exact .inl rfl|exact .inr rfl|assumption) :
  PDS X (.Assign [.Name x pos'] e pos) (vy i ff):=
 PS.imp (VR hN hi hx he hs hf) fun E σ H ⟨B,Z,F,τ,R,h⟩=>⟨F,τ,R.rv,h.of.imp fun ds g p vs F1 H1 x hp r=>g _ F1 _ x.ff ((R.ext x).setO hp r)⟩
theorem RV.own_upd{K:PySem.W.Frag}{F H:Hp}{τ:DS}{σ:St}{i:Nat}{p:Addr}{ds es:List D}{ws:List V}(R:RV K F τ σ H)(h:τ[i]?=some (some (.own ds)))(hp:σ[i]?=some (some (.ref p)))(r:Reps K F es ws) :
  RV K F (τ.set i (some (.own es))) σ (upd H p (.lst ws)):=by
 obtain⟨a,vs,q1,q2,q3,q4⟩:=R.own i ds h
 rw[q1] at hp;cases hp
 have l:i<τ.length:=(List.getElem?_eq_some_iff.mp h).1
 refine⟨fun b o e=>?_,by simp[R.len],fun j e h'=>?_,fun j es' h'=>?_,fun j k e1 e2 b hjk h1 h2 h3 h4=>?_,?_,?_⟩
 ·have n:b≠p:=fun z=>by subst z;rw[q3] at e;cases e
  rw[zp n];exact R.fh b o e
 ·by_cases hij:i=j
  ·subst hij;rw[getElem?_set_self l] at h';cases h'
  ·rw[getElem?_set_ne hij] at h';exact R.val j e h'
 ·by_cases hij:i=j
  ·subst hij
   rw[getElem?_set_self l] at h';cases h'
   exact⟨p,ws,q1,zt,q3,r⟩
  ·rw[getElem?_set_ne hij] at h'
   obtain⟨a',vs',z1,z2,z3,z4⟩:=R.own j es' h'
   have n:a'≠p:=fun z=>by subst z;exact R.dis i j ds es' a' hij h h' q1 z1
   exact⟨a',vs',z1,by rw[zp n];exact z2,z3,z4⟩
 ·have:∀{m:Nat} {e:List D},(τ.set i (some (.own es)))[m]?=some (some (.own e))→∃e',τ[m]?=some (some (.own e')):=fun {m e} z=>by
   by_cases him:i=m
   ·subst him;exact⟨ds,h⟩
   ·rw[getElem?_set_ne him] at z;exact⟨e,z⟩
  obtain⟨x1,y1⟩:=this h1
  obtain⟨x2,y2⟩:=this h2
  exact R.dis j k x1 x2 b hjk y1 y2 h3 h4
 ·exact R.tt.step (fun _ _ e=>.inl e) (fun b o e n=>by
   have:b≠p:=fun z=>by subst z;rw[q2] at e;cases e;exact n _ rfl
   rw[zp this];exact e) (j9 fun _ z=>nomatch z)
 ·exact(R.ob.updL (.inr ⟨vs,q2⟩) fun j c a g1 g2 hl=>R.ob.lo j i c ds a p g1 h g2 q1 hl).putS h
theorem RS.own_upd{K:PySem.W.Frag}{B Z F H:Hp}{τ:DS}{σ:St}{i:Nat}{p:Addr}{ds es:List D}{ws:List V}(R:RS K B Z F τ σ H)(h:τ[i]?=some (some (.own ds)))(hp:σ[i]?=some (some (.ref p)))(r:Reps K F es ws) :
  RS K B Z F (τ.set i (some (.own es))) σ (upd H p (.lst ws)):=by
 have hb:=R.ob i ds p h hp
 refine⟨R.rv.own_upd h hp r,fun b o e=>?_,R.zf,R.nb,fun j e a h1 h2=>?_,fun j m c fs a h1 h2=>?_,fun a0 dx b1 b2 j m c fs h=>R.sf a0 dx b1 b2 j m c fs (yI (s:=some (.own es)) rfl rfl h).2,fun j c fs a h1 h2=>R.ro j c fs a (yI (s:=some (.own es)) rfl rfl h1).2 h2⟩
 ·have n:b≠p:=fun z=>by subst z;rw[hb] at e;cases e
  rw[zp n];exact R.bh b o e
 ·by_cases him:i=j
  ·subst him;exact R.ob i ds a h h2
  ·rw[getElem?_set_ne him] at h1;exact R.ob j e a h1 h2
 ·have h1:=(yI (s:=some (.own es)) rfl rfl h1).2
  obtain⟨p',vs,q1,q2,_⟩:=R.rv.own i ds h
  rw[q1] at hp;cases hp
  rw[R.rv.ob.lof (.inl ⟨m,fs,h1⟩) h2 (.inr ⟨vs,q2⟩)]
  exact R.oo j m c fs a h1 h2
def uJ(τ:DS)(i:Nat):Rs (List D):=match τ[i]? with
 | some (some (.own ds))=>.ok ds
 |_=>.no
theorem v7{τ:DS}{i:Nat}{P:List D→Prop}(h:Ok X (uJ τ i) P):∃ds,τ[i]?=some (some (.own ds))∧P ds:=by
 unfold uJ at h
 cases q:τ[i]? with
 |none=>rw[q] at h;exact h.elim
 |some o=>
  cases o with
  |none=>rw[q] at h;exact h.elim
  |some sl=>
   cases sl with
   |val d=>rw[q] at h;exact h.elim
   |obj n c fs=>rw[q] at h;exact h.elim
   |obr c fs=>rw[q] at h;exact h.elim
   |own ds=>rw[q] at h;exact⟨ds,rfl,h⟩
def YW(i:Nat)(fe:FE):FS:=fun τ=>Fl.of (uJ τ i) fun ds=>Fl.of (fe τ) fun d=>if ds.length<sizeLine then .nx (τ.set i (some (.own (ds++[d])))) else .no
theorem X1{i:Nat}{x:Str}{p1 apos cpos:Pos}(hx:PE X (.Name x p1) (vH i))(he:PDE X e fe)
  (hfew:((backTo cpos (starEach [e] X.env)).all (fun x=>!x.1)&&(backToKw cpos (keywordEach [] X.env)).all (fun x=>x.1.isSome)
   && decide ([e].length+([]:List Keyword).length+(if ([]:List Keyword).isEmpty then 0 else 1)<30))=true:=by rfl)
  (hline:(apos.endLine==cpos.line)=true:=by rfl) (hs:starEach [e] X.env=[(false,eval e X.env)]:=by rfl) (hplain:(backTo cpos (starEach [] X.env)).any (·.1)=false:=by rfl)
  (hbase:attributeBase (.Name x p1) "append" X.env (eval (.Name x p1) X.env)=eval (.Name x p1) X.env:=by rfl)
  (hsw:swapsWith (.Call (.Attribute (.Name x p1) "append" apos) [e] [] cpos) none pos.line X.env=pure false:=by rfl) :
  PDS X (.Expr (.Call (.Attribute (.Name x p1) "append" apos) [e] [] cpos) pos) (YW i fe):=
 PS.imp (XX (Ld PySem.F.plainAttrs_list PySem.F.slot_list_append PySem.F.type_list_append Zc hx (uw he j5 (by rw[hs];rfl)) hbase hfew hline (by rw[hs];rfl) hplain) hsw) fun E σ H ⟨B,Z,F,τ,R,h⟩=>by
  obtain⟨ds,h1,h2⟩:=v7 (X:=X) (Post.of h)
  obtain⟨a,vs,q1,q2,q3,q4⟩:=R.rv.own i ds h1
  refine⟨_,q1,.inl ⟨rfl,vs,SqL.of q2⟩,?_⟩
  refine tE.at R h2.of fun d v F1 H1 g x R1 r=>?_
  by_cases z:ds.length<sizeLine
  ·rw[if_pos z] at g
   refine⟨a,vs,v,rfl,rfl,x.hh _ _ q2,by rw[← q4.length];exact z,?_⟩
   exact g _ F1 _ x.ff (R1.own_upd h1 q1 ((q4.mono x.ff).append (Reps.cons r Reps.nil)))
  ·rw[if_neg z] at g;exact g.elim
def Jw(i:Nat)(fi fe:FE):FS:=fun τ=>Fl.of (fe τ) fun d=>Fl.of (uJ τ i) fun ds=>Fl.of (fi τ) fun k=>match k with
 |.int k=>match ixN ds.length k with
  |some j=>.nx (τ.set i (some (.own (ds.set j d))))
  |none=>.no
 |_=>.no
theorem MZ{i:Nat}{x:Str}{p1 spos:Pos}{ix:Expr}{fi:FE}(hx:PE X (.Name x p1) (vH i))(hi:PDE X ix fi)(he:PDE X e fe)
  (ha:∀v,assign (.Subscript (.Name x p1) ix spos) X.env v=(do
   let ov ← holding [v] (eval (.Name x p1) X.env)
   let iv ← holding [v,ov] (eval ix X.env)
   standAt spos
   holding [v,ov,iv] (setItem ov iv v)
   release [v,ov,iv] []):=by intro _;rfl)
  (hs:swapsWithSole [.Subscript (.Name x p1) ix spos] e pos.line X.env=pure false:=by rfl) (hw:swappedStores [.Subscript (.Name x p1) ix spos] e X.env=pure none:=by rfl)
  (h1:(assignEach [.Subscript (.Name x p1) ix spos] X.env).map (·.2)=[assign (.Subscript (.Name x p1) ix spos) X.env]:=by rfl) :
  PDS X (.Assign [.Subscript (.Name x p1) ix spos] e pos) (Jw i fi fe):=
 PS.imp (LN he (LR hx hi QD ha) hs hw h1) fun E σ H ⟨B,Z,F,τ,R,h⟩=>by
  refine tE.at R h.of fun d v F1 H1 g x R1 r=>?_
  obtain⟨ds,h1,h2⟩:=v7 (X:=X) (Post.of g)
  obtain⟨a,vs,q1,q2,q3,q4⟩:=R1.rv.own i ds h1
  refine⟨_,q1,?_⟩
  refine tE.at R1 h2.of fun k w F2 H2 g2 x2 R2 r2=>?_
  cases k with
  |int k=>
   simp only[Rep] at r2
   simp only at g2
   cases q:ixN ds.length k with
   |none=>rw[q] at g2;exact g2.elim
   |some j=>
    rw[q] at g2
    refine⟨a,vs,k,j,rfl,r2,x2.hh _ _ q2,by rw[← q4.length];exact q,?_⟩
    exact g2 _ F2 _ (x.ff.trans x2.ff) (R2.own_upd h1 q1 (Reps.set (r.mono x2.ff) j (q4.mono x2.ff)))
  |_=>exact g2.elim
def vV(i:Nat):FS:=fun τ=>Fl.of (uJ τ i) fun ds=>.rt (.lst ds)
theorem jp{i:Nat}{x:Str}{p1:Pos}(hx:PE X (.Name x p1) (vH i)):PDS X (.Return (some (.Name x p1)) pos) (vV i):=
 PS.imp (VS hx) fun E σ H ⟨B,Z,F,τ,R,h⟩=>by
  obtain⟨ds,h1,h2⟩:=v7 (X:=X) (Post.of h)
  obtain⟨a,vs,q1,q2,q3,q4⟩:=R.rv.own i ds h1
  have hb:=R.ob i ds a h1 q1
  refine⟨_,q1,h2 (.ref a) (upd F a (.lst vs)) H ⟨?_,R.bh,fun b o e=>?_,fun b o e=>?_,fun _=>R.rv.tt.freeze q2⟩ ?_⟩
  ·exact R.zf.trans (yj q3)
  ·by_cases z:b=a
   ·subst z;rw[zt] at e;cases e;exact q2
   ·rw[zp z] at e;exact R.rv.fh b o e
  ·by_cases z:b=a
   ·subst z;exact .inr hb
   ·rw[zp z] at e;exact R.nb b o e
  ·simp only[Rep]
   exact⟨a,vs,rfl,zt,q4.mono (yj q3)⟩
def Qa(i:Nat)(fi:FE):FE:=fun τ=>(uJ τ i).bind fun ds=>(fi τ).bind fun k=>match k with
 |.int k=>match atI ds k with
  |some d=>.ok d
  |none=>.no
 |_=>.no
theorem YQ{K:PySem.W.Frag}{F:Hp}{ds:List D}{vs:List V}{k:Int}{d:D}(r:Reps K F ds vs)(h:atI ds k=some d):∃v,atI vs k=some v∧Rep K F d v:=by
 unfold atI at h ⊢
 rw[← r.length]
 cases q:ixN ds.length k with
 |none=>rw[q] at h;cases h
 |some j=>
  rw[q] at h
  exact r.get h
theorem M0{i:Nat}{x:Str}{p1:Pos}{ix:Expr}{fi:FE}(hx:PE X (.Name x p1) (vH i))(hi:PDE X ix fi)(hs:Wt ix:=by intro _ _;rfl):PDE X (.Subscript (.Name x p1) ix pos) (Qa i fi):=
 PE.imp (Lc ix_list hx hi hs) fun σ H Q ⟨F,τ,R,h⟩=>by
  obtain⟨ds,h1,h2⟩:=v7 (X:=X) (Ok.bind h)
  obtain⟨a,vs,q1,q2,q3,q4⟩:=R.own i ds h1
  refine⟨_,q1,?_⟩
  refine tE.of R h2.bind fun k w F2 H2 g2 x2 R2 r2=>?_
  cases k with
  |int k=>
   simp only[Rep] at r2
   simp only at g2
   cases q:atI ds k with
   |none=>rw[q] at g2;exact g2.elim
   |some d=>
    rw[q] at g2
    obtain⟨v,z1,z2⟩:=YQ q4 q
    exact⟨a,vs,k,v,rfl,r2,SqL.of (x2.hh _ _ q2),z1,g2 v F2 H2 x2 (z2.mono x2.ff)⟩
  |_=>exact g2.elim
def jM(i:Nat):FE:=fun τ=>(uJ τ i).bind fun ds=>.ok (.int ds.length)
theorem Yj{i:Nat}{x:Str}{p1 p:Pos}(hx:PE X (.Name x p1) (vH i))(hg:Gl X "len")(hm:X.mg "len" = none)
  (he:starEach [.Name x p1] X.env=[(false,eval (.Name x p1) X.env)]:=by rfl) (hpl:(backTo pos (starEach [] X.env)).any (·.1)=false:=by rfl):PDE X (.Call (.Name "len" p) [.Name x p1] [] pos) (jM i):=
 PE.imp (pe_callB call_len_seq hg hm PySem.boot_len (uw hx j5 (by rw[he];rfl)) (he:=by rw[he];rfl) (hpl:=hpl)) fun σ H Q ⟨F,τ,R,h⟩=>by
  obtain⟨ds,h1,h2⟩:=v7 (X:=X) (Ok.bind h)
  obtain⟨a,vs,q1,q2,q3,q4⟩:=R.own i ds h1
  refine⟨_,q1,a,vs,rfl,.inl (SqL.of q2),?_⟩
  rw[← q4.length]
  exact h2 (.int ds.length) F H (Ext.refl R.fh) (by simp only[Rep])
end
def Uq(K:PySem.W.Frag)(J:It)(F1:Hp)(ds:List D):Prop:=∀(i:Nat) (F H:Hp),Same F1 F→Same F H →
 (ds.length≤i→J.stop i H)∧∀d,ds[i]?=some d→J.go i H∧∀x H',J.yld i H x H'→∃F',Ext F H F' H'∧Rep K F' d x
def tI(X:Cx)(f:FA):TI:=fun σ H R=>∃F τ,RV X.K F τ σ H∧Ok X (f τ) fun ds=>∀J F1 H1,Ext F H F1 H1→Uq X.K J F1 ds→R J H1
def PDI(X:Cx)(tg iter:Expr)(f:FA):Prop:=PI X tg iter (tI X f)
theorem _root_.L2.PI.imp{X:Cx}{tg e:Expr}{t t':TI}(h:PI X tg e t)(f:∀σ H Q,t' σ H Q→t σ H Q):PI X tg e t':=fun pins s σ H Q I q=>h pins s σ H Q I (f _ _ _ q)
section
variable{X:Cx}{pos:Pos}{e tg:Expr}{es:List Expr}{fe:FE}{fs:FA}
theorem U2{K:PySem.W.Frag}{a:Addr}{F1:Hp}{ds:List D}{vs:List V}(e:SqL K F1 a vs)(r:Reps K F1 ds vs):Uq K (Itl K a) F1 ds:=fun i F H f1 f2=>by
 have q:SqL K H a vs:=(f1.trans f2).seq e
 refine⟨fun h=>⟨vs,q,by rw[← r.length];exact h⟩,fun d hd=>?_⟩
 obtain⟨v,h1,h2⟩:=r.get hd
 refine⟨⟨vs,v,q,h1⟩,fun x H' y=>?_⟩
 obtain⟨e1,y⟩:=y
 subst e1
 have h3:=y vs q
 rw[h1] at h3;cases h3
 exact⟨F,Ext.refl f2,h2.mono f1⟩
theorem zb8{K:PySem.W.Frag}{a:Addr}{F1:Hp}{ds:List D}{vs:List V}(e:SqT K F1 a vs)(r:Reps K F1 ds vs):Uq K (Itt K a) F1 ds:=fun i F H f1 f2=>by
 have q:SqT K H a vs:=Same.seqT (f1.trans f2) e
 refine⟨fun h=>⟨vs,q,by rw[← r.length];exact h⟩,fun d hd=>?_⟩
 obtain⟨v,h1,h2⟩:=r.get hd
 refine⟨⟨vs,v,q,h1⟩,fun x H' y=>?_⟩
 obtain⟨e1,y⟩:=y
 subst e1
 have h3:=y vs q
 rw[h1] at h3;cases h3
 exact⟨F,Ext.refl f2,h2.mono f1⟩
def uF(lo:Int)(n:Nat):List D:=(List.range n).map fun (k:Nat)=>D.int (lo+k)
theorem zc0{K:PySem.W.Frag}{F1:Hp}{lo:Int}{n:Nat}:Uq K (Itr lo n) F1 (uF lo n):=fun i F H f1 f2=>by
 have hl:(uF lo n).length=n:=by simp[uF]
 refine⟨fun h=>by rw[hl] at h;exact h,fun d hd=>?_⟩
 have hi:i<n:=by have:=(List.getElem?_eq_some_iff.mp hd).1;rw[hl] at this;exact this
 refine⟨hi,fun x H' y=>?_⟩
 obtain⟨e1,y⟩:=y
 subst e1
 refine⟨F,Ext.refl f2,?_⟩
 simp[uF,hi] at hd
 subst hd
 simp only[Rep];exact y
def V7:List D→Option Int
 |[.int j]=>some j
 |_=>none
def V6:List D→Option (Int×Int)
 |[.int i,.int j]=>some (i,j)
 |_=>none
def Yk:D→Option (D×D)
 |.tup [x,y]=>some (x,y)
 |_=>none
theorem U6{ds:List D}{j:Int}(h:V7 ds=some j):ds=[.int j]:=by
 unfold V7 at h;split at h <;> cases h;rfl
theorem U5{ds:List D}{i j:Int}(h:V6 ds=some (i,j)):ds=[.int i,.int j]:=by
 unfold V6 at h;split at h <;> cases h;rfl
theorem Q5{d x y:D}(h:Yk d=some (x,y)):d=.tup [x,y]:=by
 unfold Yk at h;split at h <;> cases h;rfl
def ve(fs:FA):FA:=fun τ=>(fs τ).bind fun ds=>match V7 ds with
 |some j=>if -(2 ^ 62)≤j∧j<2 ^ 62 then .ok (uF 0 j.toNat) else .no
 |none=>.no
theorem xV{a:Expr}{p:Pos}(hg:Gl X "range")(hm:X.mg "range" = none)(ha:PDA X [a] fs)(hs:starEach [a] X.env=[(false,eval a X.env)]:=by rfl):PDI X tg (.Call (.Name "range" p) [a] [] pos) (ve fs):=
 PI.imp (JA hg hm ha hs) fun σ H R ⟨F,τ,Rv,h⟩=>tAs.of Rv h.bind fun ds vs F1 H1 g x R1 r=>by
  cases q1:V7 ds with
  |none=>rw[q1] at g;exact g.elim
  |some j=>
   rw[q1] at g
   have e:=U6 q1
   subst e
   obtain⟨v,rfl,q⟩:=r.one
   simp only[Rep] at q;subst q
   obtain⟨z,g⟩:=yz g
   exact⟨j,rfl,z.1,z.2,g _ F1 H1 x zc0⟩
abbrev FG:=D→DS→Rs DS
def tG(X:Cx)(set:FG):TG:=fun v σ H Q=>∃F τ d,RV X.K F τ σ H∧Rep X.K F d v∧Ok X (set d τ) fun τ'=>∀σ',RV X.K F τ' σ' H→(∀B Z,RS X.K B Z F τ σ H→RS X.K B Z F τ' σ' H)→σ'.length=σ.length→Q σ' H
def PDG(X:Cx)(tg:Expr)(set:FG):Prop:=PG X tg (tG X set)
theorem _root_.L2.PG.imp{X:Cx}{e:Expr}{t t':TG}(h:PG X e t)(f:∀v σ H Q,t' v σ H Q→t v σ H Q):PG X e t':=fun pins s σ H v u Q I r q=>h pins s σ H v u Q I r (f _ _ _ _ q)
def gNm(i:Nat):FG:=fun d τ=>.ok (τ.set i (some (.val d)))
theorem yb{i:Nat}{x:Str}(hN:X.N.Nodup)(hi:X.N[i]?=some x)(hx:Loc X.env.scope x)(hf:X.fn x=true∨X.env.scope.names.lookup x=some .local:=by first|exact .inl rfl|exact .inr rfl|assumption):PDG X (.Name x pos) (gNm i):=
 PG.imp (jn hN hi hx hf) fun v σ H Q ⟨F,τ,d,R,r,h⟩=>h _ (R.set r) (fun B Z R'=>R'.set r) (by simp)
def gPr(i j:Nat):FG:=fun d τ=>match Yk d with
 | some (x,y)=>.ok ((τ.set i (some (.val x))).set j (some (.val y)))
 |none=>.no
theorem v5{i j k:Nat}{x y:Str}{px py:Pos}(hc:X.calm=true)(hN:X.N.Nodup)(hi:X.N[i]?=some x)(hx:Loc X.env.scope x)(hj:X.N[j]?=some y)(hy:Loc X.env.scope y)
  (hf:X.fn x=true∨X.env.scope.names.lookup x=some .local:=by first|exact .inl rfl|exact .inr rfl|assumption) (hf':X.fn y=true∨X.env.scope.names.lookup y=some .local:=by first|exact .inl rfl|exact .inr rfl|assumption) :
  PDG X (.Tuple [.Name x px,.Name y py] k pos) (gPr i j):=
 PG.imp (LQ (n:=2) hc (WM (jn hN hi hx hf) (WM (jn hN hj hy hf') MU))) fun v σ H Q ⟨F,τ,d,R,r,h⟩=>by
  unfold gPr at h
  cases q1:Yk d with
  |none=>rw[q1] at h;exact h.elim
  |some xy=>
   obtain⟨x,y⟩:=xy
   rw[q1] at h
   have e:=Q5 q1
   subst e
   simp only[Rep] at r
   obtain⟨a,vs,rfl,q,t⟩:=r
   obtain⟨v1,v2,rfl,r1,r2⟩:=t.two
   exact⟨a,_,rfl,Same.seqT R.fh q,rfl,v1,[v2],rfl,v2,[],rfl,rfl,h _ ((R.set r1).set r2) (fun B Z R'=>(R'.set r1).set r2) (by simp)⟩
def yK(set:FG)(body:FS):List D→DS→Fl
 |[],τ=>.nx τ
 |d::r,τ=>Fl.of (set d τ) fun τ1=>match body τ1 with
  |.nx τ'=>yK set body r τ'
  |.ct τ'=>yK set body r τ'
  |.bk τ'=>.nx τ'
  |.rt d=>.rt d
  |.ro d τ'=>.ro d τ'
  |.rb d τ'=>.rb d τ'
  |.ex c=>.ex c
  |.no=>.no
  |.rs c τ'=>.rs c τ'
def vz(fi:FA)(set:FG)(body:FS):FS:=fun τ=>Fl.of (fi τ) fun ds=>yK set body ds τ
theorem wM{iter:Expr}{body:List Stmt}{fi:FA}{set:FG}{fb:FS}(hp:PassesOwn (model X.prog X.w) X.A X.env X.xe)(hc:X.calm=true)(hi:PDI X tg iter fi)(hg:PDG X tg set)(hb:YS X body fb)
  (hs:∀x,foldedSetIterable iter X.env x=pure x:=by intro _;rfl):PDS X (.For tg iter body [] pos) (vz fi set fb):=
 PS.imp (QU hp hc hi hg hb hs) fun E σ H ⟨B,Z,F,τ,R,h⟩=>by
  refine⟨F,τ,R.rv,h.of.imp fun ds g J F1 H1 x io=>?_⟩
  refine⟨fun i m σ H=>m=ds.length-i∧i≤ds.length∧∃F' τ',Same F1 F'∧RS X.K B Z F' τ' σ H∧Post X B Z F' E (yK set fb (ds.drop i) τ'),⟨ds.length,by simp,zero_le _,F1,τ,Same.refl _,R.ext x,g.same x.ff⟩,?_⟩
  rintro i m σ2 H2 ⟨rfl,hi,F2,τ2,f2,R2,p2⟩
  obtain⟨i1,i2⟩:=io i F2 H2 f2 R2.rv.fh
  by_cases hlt:i<ds.length
  ·have hd:ds.drop i=ds[i]::ds.drop (i+1):=drop_eq_getElem_cons hlt
   rw[hd] at p2
   obtain⟨go,yl⟩:=i2 ds[i] (by simp[hlt])
   refine .inr ⟨go,fun σ' H'=>∃F' τ',Same F2 F'∧RS X.K B Z F' τ' σ' H'∧Post X B Z F' E (yK set fb (ds.drop (i+1)) τ'),fun σ' H' ⟨F',τ',a,b,c⟩=>⟨ds.length-(i+1),by omega,rfl,hlt,F',τ',f2.trans a,b,c⟩,fun y H' yy=>?_⟩
   obtain⟨F3,x3,r3⟩:=yl y H' yy
   have R3:=R2.ext x3
   refine⟨F3,τ2,ds[i],R3.rv,r3,(Post.of p2).imp fun τ4 p4 σ4 _ R4 _=>⟨B,Z,F3,τ4,R4 B Z R3,?_⟩⟩
   cases q:fb τ4 with
   |nx τ5=>rw[q] at p4;exact fun σ' F' H' ff RR=>⟨F',τ5,x3.ff.trans ff,RR,Post.same p4 (x3.ff.trans ff)⟩
   |ct τ5=>rw[q] at p4;exact fun σ' F' H' ff RR=>⟨F',τ5,x3.ff.trans ff,RR,Post.same p4 (x3.ff.trans ff)⟩
   |bk τ5=>rw[q] at p4;exact fun σ' F' H' ff RR=>p4 σ' F' H' (x3.ff.trans ff) RR
   |rt d=>rw[q] at p4;exact p4
   |ro d τ'=>rw[q] at p4;exact fun v σ' F' H' ff RR rr=>p4 v σ' F' H' (x3.ff.trans ff) RR rr
   |rb d τ'=>rw[q] at p4;exact fun v σ' F' H' ff RR rr=>p4 v σ' F' H' (x3.ff.trans ff) RR rr
   |ex c=>rw[q] at p4;exact p4
   |no=>rw[q] at p4;exact p4
   |rs c τ5=>rw[q] at p4;exact fun σ' F' H' ff RR=>p4 σ' F' H' (x3.ff.trans ff) RR
  ·have e:i=ds.length:=by omega
   subst e
   rw[List.drop_length] at p2
   exact .inl ⟨i1 (le_refl _),p2 σ2 F2 H2 (Same.refl _) R2⟩
end
def Tb(r:Rs D):Rs D:=match r with
 |.ok d=>.ok d
 |_=>.no
def spD(K:PySem.W.Frag)(n:Nat)(g:List D→Rs D):Sp:=fun vs H Q E=>vs.length=n∧∃ds F,Same F H∧TbT F H∧Reps K F ds vs∧match g ds with
 |.ok d=>Ev K F H Q d
 |_=>False
def zV(N:Nat)(ds:List D):DS:=ds.map (fun d=>some (.val d))++List.replicate (N-ds.length) none
def YD:Fl→Rs D
 |.rt d=>.ok d
 |.ro d _=>.ok d
 |.nx _=>.ok .non
 |.rs c _=>.ex c
 |_=>.no
def xw(N:Nat)(fb:FS)(ds:List D):Rs D:=YD (fb (zV N ds))
theorem WH{K:PySem.W.Frag}{F H:Hp}{N:List Str}{ds:List D}{vs:List V}(fh:Same F H)(tt:TbT F H)(r:Reps K F ds vs):RS K H F F (zV N.length ds) (L2.start N vs) H:=by
 have hl:=r.length
 have hval:∀(i:Nat) (o:Sl),(zV N.length ds)[i]?=some (some o)→∃d,ds[i]?=some d∧o=.val d:=fun i o h=>by
  unfold zV at h
  by_cases hi:i<ds.length
  ·rw[getElem?_append_left (by simpa using hi),getElem?_map] at h
   cases e:ds[i]? with
   |none=>rw[e] at h;cases h
   |some d=>rw[e] at h;cases h;exact⟨d,rfl,rfl⟩
  ·rw[getElem?_append_right (by simpa using hi),getElem?_replicate] at h
   split at h <;> cases h
 refine⟨⟨fh,?_,fun i d h=>?_,fun i es h=>?_,fun i j es es' a _ h1 _ _ _=>?_,tt,ObsOk.none fun i s h=>?_⟩,Hh.refl H,Same.refl F,fun a o e=>.inl e,fun i es a h1 _=>?_,fun i m c fs a h1 _=>?_,fun a0 dx _ _ j m c fs h1=>?_,fun j c fs a h1 _=>?_⟩
 ·simp[zV,L2.start,hl]
 ·obtain⟨d',h1,h2⟩:=hval i _ h
  cases h2
  obtain⟨v,q1,q2⟩:=r.get h1
  refine⟨v,?_,q2⟩
  have hi:i<vs.length:=(List.getElem?_eq_some_iff.mp q1).1
  unfold L2.start
  rw[getElem?_append_left (by simpa using hi),getElem?_map,q1];rfl
 ·obtain⟨_,_,h2⟩:=hval i _ h;cases h2
 ·obtain⟨_,_,h2⟩:=hval i _ h1;cases h2
 ·cases s with
  |none=>rfl
  |some o=>obtain⟨_,_,h2⟩:=hval i _ h;rw[h2];rfl
 ·obtain⟨_,_,h2⟩:=hval i _ h1;cases h2
 ·obtain⟨_,_,h2⟩:=hval i _ h1;cases h2
 ·obtain⟨_,_,h2⟩:=hval j _ h1;cases h2
 ·obtain⟨_,_,h2⟩:=hval j _ h1;cases h2
section
variable{P:Program}{w:World}{K:PySem.W.Frag}{mg:Str→Option Value}{base:Heap}
theorem fnD{x qual:Str}{st:Stmt}{f:Addr}{fd:FuncData}{N ps:List Str}{k n:Nat}{fb:FS}(F:Fun K x qual st f fd)(S:zN N ps (zk st))(hn:ps.length=n)
  (hbody:∀(cdv:Value) (A:Around) (outer:List Env) (s:Shared) (H:Hp) (E:XK),Room k (A.deeper (envOfC qual (zk st) s.heap.objs.size f cdv)) →
   YS (Wk CX0 P w K mg base N qual (zk st) f cdv A outer s H E).nox (zD st) fb):FnOk P w K mg base CX0 (k+1) f fd ps (spD K n (xw N.length fb)):=by
 refine F.ok S (fun vs H Q E h=>by rw[hn];exact h.1) fun cdv A outer s H vs Q E hr h=>⟨_,hbody cdv A outer s H E hr,?_⟩
 obtain⟨hl,ds,Fz,fh,tt,r,h⟩:=h
 refine⟨H,Fz,Fz,zV N.length ds,WH fh tt r,?_⟩
 unfold xw at h
 cases q:fb (zV N.length ds) with
 |nx τ=>rw[q] at h;exact fun σ F' H' ff RR=>h .non F' H' RR.out (by simp only[Rep])
 |rt d=>rw[q] at h;exact fun v F' H' x rr=>h v F' H' x rr
 |ro d τ=>rw[q] at h;exact fun v σ F' H' ff RR rr=>h v F' H' RR.out rr
 |rb d τ=>rw[q] at h;exact h.elim
 |bk τ=>rw[q] at h;exact h.elim
 |ct τ=>rw[q] at h;exact h.elim
 |ex c=>rw[q] at h;exact h.elim
 |no=>rw[q] at h;exact h.elim
 |rs c τ=>rw[q] at h;exact h.elim
theorem FnD.to{CX:CXT}{f:Addr}{fd:FuncData}{ps:List Str}{k n:Nat}{g g':List D→Rs D}(F:FnOk P w K mg base CX k f fd ps (spD K n g))(h:∀ds d,ds.length=n→g' ds=.ok d→g ds=.ok d):FnOk P w K mg base CX k f fd ps (spD K n g'):=
 F.imp fun vs H Q E ⟨hl,ds,Fz,fh,tt,r,q⟩=>⟨hl,ds,Fz,fh,tt,r,by
  cases e:g' ds with
  |ok d=>rw[e] at q;rw[h ds d (by rw[r.length];exact hl) e];exact q
  |ex c=>rw[e] at q;exact q.elim
  |no=>rw[e] at q;exact q.elim⟩
end
section
variable{X:Cx}{pos:Pos}{e tg:Expr}{es:List Expr}{fe:FE}{fs:FA}
def zo(g:List D→Rs D)(fs:FA):FE:=fun τ=>(fs τ).bind fun ds=>Tb (g ds)
theorem Q4{k n:Nat}{f:Addr}{fd:FuncData}{ps:List Str}{g:List D→Rs D}{x:Str}{p:Pos}(F:FnOk X.prog X.w X.K X.mg X.base CX0 k f fd ps (spD X.K n g))(hr:Room k X.A)(hg:Gl X x)(hm:X.mg x=some (.ref f))(hk:keepIn X.K (.ref f)=true)(hb:Binds X.K fd ps [])
  (ha:PDA X (e::es) fs) (hn:(e::es).length=n) (hfs:∀τ ds,fs τ=.ok ds→ds.length=(e::es).length) (hdb:(x==("__debug__" : Str))=false:=by decide) (he:starEach (e::es) X.env=(false,eval e X.env)::starEach es X.env:=by rfl) (hpl:(backTo pos (starEach es X.env)).any (·.1)=false:=by rfl) :
  PDE X (.Call (.Name x p) (e::es) [] pos) (zo g fs):=
 PE.imp (MX F hr hg hm hk hb .nil (E:=E0) pass0 ha hdb he hpl) fun σ H Q ⟨Fz,τ,R,h⟩=>by
  have hb:=h.bind
  refine⟨Fz,τ,R,?_⟩
  cases q:fs τ with
  |no=>rw[q] at hb;exact hb
  |ex c=>rw[q] at hb;exact hb
  |ok ds=>
   rw[q] at hb
   intro vs F1 H1 x r
   rw[append_nil]
   refine⟨by rw[← r.length,hfs τ ds q,hn],ds,F1,x.fh,x.tt R.tt,r,?_⟩
   have hb:Ok X (Tb (g ds)) (Ev X.K Fz H Q):=hb
   cases z:g ds with
   |ok d=>rw[z] at hb;exact Ev.ext hb x
   |ex c=>rw[z] at hb;exact hb.elim
   |no=>rw[z] at hb;exact hb.elim
theorem zr(τ:DS)(ds:List D)(h:zh τ=.ok ds):ds.length=0:=by cases h;rfl
theorem ze{f:FE}{g:FA}{n:Nat}(hg:∀τ ds,g τ=.ok ds→ds.length=n)(τ:DS)(ds:List D)(h:za f g τ=.ok ds):ds.length=n+1:=by
 unfold za at h
 cases q:f τ with
 |no=>rw[q] at h;cases h
 |ex c=>rw[q] at h;cases h
 |ok d=>
  rw[q] at h
  cases q2:g τ with
  |no=>rw[q2] at h;cases h
  |ex c=>rw[q2] at h;cases h
  |ok r=>rw[q2] at h;cases h;simp[hg τ r q2]
def XI(X:Cx)(f:Value)(g:List D→Rs D):Prop:=∃r,CallR X f r∧∀F H vs ds Q,Same F H→Reps X.K F ds vs→Ok X (g ds) (Ev X.K F H Q)→r vs H Q
def yk(g:List D→Rs D)(fs:FA):FE:=fun τ=>(fs τ).bind g
theorem zE{id:String}{x:Str}{p:Pos}{g:List D→Rs D}(hc:XI X (.builtin id) g)(hg:Gl X x)(hm:X.mg x=none)(hv:bootBuiltins x=some (.builtin id))(ha:PDA X (e::es) fs)(hn:x ≠ "__name__" := by decide)(hdb:(x==("__debug__" : Str))=false:=by decide)
  (he:starEach (e::es) X.env=(false,eval e X.env)::starEach es X.env:=by rfl) (hpl:(backTo pos (starEach es X.env)).any (·.1)=false:=by rfl):PDE X (.Call (.Name x p) (e::es) [] pos) (yk g fs):=by
 obtain⟨r,h1,h2⟩:=hc
 exact PE.imp (L2.pe_callB h1 hg hm hv ha hn hdb he hpl) fun σ H Q ⟨Fz,τ,R,h⟩=>tAs.of R h.bind fun ds vs F1 H1 q x R1 rr=>h2 F1 H1 vs ds Q R1.fh rr (q.imp fun d e=>e.ext x)
def IxD(X:Cx)(op:D→D→Rs D):Prop:=∃r:R2,IxR X r∧∀F H x y dx dy Q,Same F H→Rep X.K F dx x→Rep X.K F dy y→Ok X (op dx dy) (Ev X.K F H Q)→r x y H Q
theorem zC{a b:Expr}{fa fb:FE}{op:D→D→Rs D}(hr:IxD X op)(ha:PDE X a fa)(hb:PDE X b fb)(hs:Wt b:=by intro _ _;rfl):PDE X (.Subscript a b pos) (eOp op fa fb):=by
 obtain⟨r,h1,h2⟩:=hr
 exact PE.imp (Lc h1 ha hb hs) (UP h2)
def ixD:D→D→Rs D
 |.lst ds,.int k=>match atI ds k with
  |some d=>.ok d
  |none=>.no
 |.tup ds,.int k=>match atI ds k with
  |some d=>.ok d
  |none=>.no
 |.scr ns,.int k=>match atI ns k with
  |some d=>.ok (.int d)
  |none=>.no
 |.str x,.int k=>match atI x.cps.toList k with
  |some c=>if x.length≤sizeLine then .ok (.str ⟨#[c]⟩) else .no
  |none=>.no
 |_,_=>.no
theorem T4{α β:Type}{f:α→β}{xs:List α}{k:Int}{a:α}(h:atI xs k=some a):atI (xs.map f) k=some (f a):=by
 unfold atI at h ⊢
 rw[length_map]
 cases q:ixN xs.length k with
 |none=>rw[q] at h;cases h
 |some j=>
  rw[q] at h
  have h:xs[j]?=some a:=h
  show(xs.map f)[j]?=_
  rw[getElem?_map,h];rfl
theorem zX:IxD X ixD:=⟨_,zb5,fun F H x y dx dy Q fh r1 r2 h=>by
 cases dx with
 |lst ds=>
  cases dy with
  |int k=>
   simp only[Rep] at r1 r2;obtain⟨a,vs,rfl,q,t⟩:=r1;subst r2
   simp only[ixD] at h
   cases z:atI ds k with
   |none=>rw[z] at h;exact h.elim
   |some d=>
    rw[z] at h
    obtain⟨v,z1,z2⟩:=YQ t z
    exact .inl ⟨a,vs,k,v,rfl,rfl,SqL.of (fh _ _ q),z1,h v F H (Ext.refl fh) z2⟩
  |_=>exact h.elim
 |tup ds=>
  cases dy with
  |int k=>
   simp only[Rep] at r1 r2;obtain⟨a,vs,rfl,q,t⟩:=r1;subst r2
   simp only[ixD] at h
   cases z:atI ds k with
   |none=>rw[z] at h;exact h.elim
   |some d=>
    rw[z] at h
    obtain⟨v,z1,z2⟩:=YQ t z
    exact .inr (.inl ⟨a,vs,k,v,rfl,rfl,Same.seqT fh q,z1,h v F H (Ext.refl fh) z2⟩)
  |_=>exact h.elim
 |scr ns=>
  cases dy with
  |int k=>
   simp only[Rep] at r1 r2;obtain⟨a,rfl,q⟩:=r1;subst r2
   simp only[ixD] at h
   cases z:atI ns k with
   |none=>rw[z] at h;exact h.elim
   |some d=>
    rw[z] at h
    exact .inl ⟨a,_,k,.int d,rfl,rfl,fh.seq q,T4 z,h (.int d) F H (Ext.refl fh) (by simp only[Rep])⟩
  |_=>exact h.elim
 |str x=>
  cases dy with
  |int k=>
   simp only[Rep] at r1 r2;subst r1;subst r2
   simp only[ixD] at h
   cases z:atI x.cps.toList k with
   |none=>rw[z] at h;exact h.elim
   |some c=>
    rw[z] at h
    obtain⟨z2,h⟩:=yz h
    exact .inr (.inr ⟨x,k,c,rfl,rfl,z2,z,h _ F H (Ext.refl fh) (by simp only[Rep])⟩)
  |_=>exact h.elim
 |_=>cases dy <;> exact h.elim⟩
end
mutual
def yB:D→PyData
 |.non=>.none
 |.bl b=>.bool b
 |.int i=>.int i
 |.str x=>.str x
 |.lst ds=>.list (toPys ds)
 |.tup ds=>.tuple (toPys ds)
 |.scr ns=>.list (ns.map .int)
 |.raw _=>.none
 |.exc _=>.none
def toPys:List D→List PyData
 |[]=>[]
 |d::r=>yB d::toPys r
end
mutual
def xj:D→Bool
 |.lst ds=>plainDs ds
 |.tup ds=>plainDs ds
 |.raw _=>false
 |.exc _=>false
 |_=>true
def plainDs:List D→Bool
 |[]=>true
 |d::r=>xj d&&plainDs r
end
theorem readsAll_ints{h:Heap}:∀{ns:List Int} {us:List Value},Vals (ns.map V.int) us→ReadsAll h us (ns.map .int) []
 |[],_,.nil=>.nil
 |n::ns,_,.cons r t=>by
  obtain⟨tk,rfl⟩:=r
  exact .cons (as:=[]) (bs:=[]) (.int n tk) (readsAll_ints t)
section
variable{X:Cx}{pins:List (Addr×Obj)}{σ:St}{F H:Hp}{s:Shared}
mutual
theorem xZ(I:Inv X pins σ H s)(fh:Same F H):∀(d:D) {v:V} {u:Value},Rep X.K F d v→RelV v u→xj d=true→∃as,Reads s.heap u (yB d) as
 |.non,v,u,r,rv,_=>by simp only[Rep] at r;subst r;cases rv;exact⟨[],.none⟩
 |.bl b,v,u,r,rv,_=>by simp only[Rep] at r;subst r;cases rv;exact⟨[],.bool b⟩
 |.int i,v,u,r,rv,_=>by simp only[Rep] at r;subst r;obtain⟨t,rfl⟩:=rv;exact⟨[],.int i t⟩
 |.str x,v,u,r,rv,_=>by simp only[Rep] at r;subst r;obtain⟨t,rfl⟩:=rv;exact⟨[],.str x t⟩
 |.lst ds,v,u,r,rv,hp=>by
  simp only[Rep] at r;obtain⟨a,vs,rfl,q,t⟩:=r
  cases rv
  obtain⟨its,rr,⟨o,n,e,c,_,dd⟩,_⟩:=I.list (SqL.of (K:=X.K) (fh _ _ q))
  obtain⟨as,ra⟩:=readss_of I fh ds t rr (by simpa only[xj] using hp)
  exact⟨a::as,by rw[yB];exact .list e c dd (by simpa using ra)⟩
 |.tup ds,v,u,r,rv,hp=>by
  simp only[Rep] at r;obtain⟨a,vs,rfl,q,t⟩:=r
  cases rv
  obtain⟨its,rr,⟨o,e,c,n,dd⟩,_⟩:=I.tuple (Same.seqT fh q)
  obtain⟨as,ra⟩:=readss_of I fh ds t rr (by simpa only[xj] using hp)
  exact⟨as,by rw[yB];exact .tuple e c dd (by simpa using ra)⟩
 |.scr ns,v,u,r,rv,hp=>by
  simp only[Rep] at r;obtain⟨a,rfl,q⟩:=r
  cases rv
  obtain⟨its,rr,⟨o,n,e,c,_,dd⟩,_⟩:=I.list (fh.seq q)
  exact⟨[a],by rw[yB];exact .list e c dd (by simpa using readsAll_ints rr)⟩
 |.raw w,v,u,r,rv,hp=>by simp[xj] at hp
 |.exc w,v,u,r,rv,hp=>by simp[xj] at hp
theorem readss_of(I:Inv X pins σ H s)(fh:Same F H):∀(ds:List D) {vs:List V} {us:List Value},Reps X.K F ds vs→Vals vs us→plainDs ds=true→∃as,ReadsAll s.heap us (toPys ds) as
 |[],vs,us,r,rv,_=>by simp only[Reps] at r;subst r;cases rv;exact⟨[],by rw[toPys];exact .nil⟩
 |d::ds,vs,us,r,rv,hp=>by
  simp only[Reps] at r
  obtain⟨v,r',rfl,q,t⟩:=r
  simp only[plainDs,Bool.and_eq_true] at hp
  cases rv with
  |cons r1 r2=>
   obtain⟨as,h1⟩:=xZ I fh d q r1 hp.1
   obtain⟨bs,h2⟩:=readss_of I fh ds t r2 hp.2
   exact⟨as++bs,by rw[toPys];exact .cons h1 h2⟩
end
end
def okD(d:D):Bool:=xj d&&(yB d).canLay0&&decide ((yB d).depth≤60)
theorem vk{d:D}(h:okD d=true):xj d=true∧(yB d).canLay0=true∧(yB d).depth≤60:=by
 simpa[okD,and_assoc] using h
def wF(d e:D):Bool:=PyData.eqv (yB d) (yB e)
def eqD:D→D→Rs D
 |.str x,.str y=>.ok (.bl (x==y))
 |.int x,.int y=>.ok (.bl (x==y))
 |d,e=>if okD d=true∧okD e=true then .ok (.bl (wF d e)) else .no
def neD:D→D→Rs D
 |.str x,.str y=>.ok (.bl (!(x==y)))
 |.int x,.int y=>.ok (.bl (!(x==y)))
 |d,e=>if okD d=true∧okD e=true then .ok (.bl (!wF d e)) else .no
section
variable{X:Cx}
def UE(K:PySem.W.Frag)(b:D→D→Bool):R2:=fun x y H Q=>∃F d e,Same F H∧Rep K F d x∧Rep K F e y∧okD d=true∧okD e=true∧Q (.bl (b d e)) H
theorem JL(hu:X.A.units+64<cLine):OpR X (compareOp .Eq) (UE X.K wF):=by
 intro pins s σ H x y v u Q I rx ry h
 obtain⟨F,d,e,fh,r1,r2,o1,o2,q⟩:=h
 obtain⟨p1,c1,e1⟩:=vk o1
 obtain⟨p2,c2,e2⟩:=vk o2
 obtain⟨as,h1⟩:=xZ I fh d r1 rx p1
 obtain⟨bs,h2⟩:=xZ I fh e r2 ry p2
 exact SeqAt.compareEq_reads h1 h2 c1 c2 (by omega) ⟨.bl _,H,I,rfl,q⟩
theorem JJ(hu:X.A.units+64<cLine):OpR X (compareOp .NotEq) (UE X.K fun d e=>!wF d e):=by
 intro pins s σ H x y v u Q I rx ry h
 obtain⟨F,d,e,fh,r1,r2,o1,o2,q⟩:=h
 obtain⟨p1,c1,e1⟩:=vk o1
 obtain⟨p2,c2,e2⟩:=vk o2
 obtain⟨as,h1⟩:=xZ I fh d r1 rx p1
 obtain⟨bs,h2⟩:=xZ I fh e r2 ry p2
 exact SeqAt.compareNe_reads h1 h2 c1 c2 (by omega) ⟨.bl _,H,I,rfl,q⟩
theorem wD(hu:X.A.units+64<cLine):OpD X (compareOp .Eq) eqD:=⟨_,op_eq.or (JL hu),fun F H x y dx dy Q fh r1 r2 h=>by
 have gen:(Ok X (if okD dx=true∧okD dy=true then .ok (.bl (wF dx dy)) else .no) (Ev X.K F H Q))→rEq x y H Q∨UE X.K wF x y H Q:=fun h=>by
  obtain⟨z,h⟩:=yz h
  exact .inr ⟨F,dx,dy,fh,r1,r2,z.1,z.2,h _ F H (Ext.refl fh) (by simp only[Rep])⟩
 cases dx with
 |str a=>
  cases dy with
  |str b=>
   simp only[Rep] at r1 r2;subst r1;subst r2
   exact .inl ⟨rfl,by rw[ZY];exact h _ F H (Ext.refl fh) (by simp only[Rep])⟩
  |_=>exact gen h
 |int a=>
  cases dy with
  |int b=>
   simp only[Rep] at r1 r2;subst r1;subst r2
   exact .inl ⟨rfl,by rw[ZZ];exact h _ F H (Ext.refl fh) (by simp only[Rep])⟩
  |_=>exact gen h
 |_=>exact gen h⟩
theorem wC(hu:X.A.units+64<cLine):OpD X (compareOp .NotEq) neD:=⟨_,op_ne.or (JJ hu),fun F H x y dx dy Q fh r1 r2 h=>by
 have gen:(Ok X (if okD dx=true∧okD dy=true then .ok (.bl (!wF dx dy)) else .no) (Ev X.K F H Q))→rNe x y H Q∨UE X.K (fun d e=>!wF d e) x y H Q:=fun h=>by
  obtain⟨z,h⟩:=yz h
  exact .inr ⟨F,dx,dy,fh,r1,r2,z.1,z.2,h _ F H (Ext.refl fh) (by simp only[Rep])⟩
 cases dx with
 |str a=>
  cases dy with
  |str b=>
   simp only[Rep] at r1 r2;subst r1;subst r2
   exact .inl ⟨rfl,by rw[ZY];exact h _ F H (Ext.refl fh) (by simp only[Rep])⟩
  |_=>exact gen h
 |int a=>
  cases dy with
  |int b=>
   simp only[Rep] at r1 r2;subst r1;subst r2
   exact .inl ⟨rfl,by rw[ZZ];exact h _ F H (Ext.refl fh) (by simp only[Rep])⟩
  |_=>exact gen h
 |_=>exact gen h⟩
def intOp(C:Int→Int→Bool)(g:Int→Int→D):D→D→Rs D
 |.int i,.int j=>if C i j=true then .ok (g i j) else .no
 |_,_=>.no
theorem UO{f:Value→Value→Sem Value}{C':Int→Int→Prop}{C:Int→Int→Bool}{gv:Int→Int→V}{g:Int→Int→D}(h:OpR X f (rI C' gv))(hc:∀i j,C i j=true→C' i j)(hg:∀F i j,Rep X.K F (g i j) (gv i j)):OpD X f (intOp C g):=
 ⟨_,h,fun F H x y dx dy Q fh r1 r2 q=>by
  cases dx with
  |int i=>
   cases dy with
   |int j=>
    simp only[Rep] at r1 r2;subst r1;subst r2
    obtain⟨z,q⟩:=yz q
    exact⟨i,j,rfl,rfl,hc i j z,q _ F H (Ext.refl fh) (hg F i j)⟩
   |_=>exact q.elim
  |_=>cases dy <;> exact q.elim⟩
def Yw(g:Int→Int→D):D→D→Rs D
 |.int i,.int j=>.ok (g i j)
 |_,_=>.no
theorem ju{f:Value→Value→Sem Value}{gv:Int→Int→V}{g:Int→Int→D}(h:OpR X f (rI0 gv))(hg:∀F i j,Rep X.K F (g i j) (gv i j)):OpD X f (Yw g):=
 ⟨_,h,fun F H x y dx dy Q fh r1 r2 q=>by
  cases dx with
  |int i=>
   cases dy with
   |int j=>
    simp only[Rep] at r1 r2;subst r1;subst r2
    exact⟨i,j,rfl,rfl,q _ F H (Ext.refl fh) (hg F i j)⟩
   |_=>exact q.elim
  |_=>cases dy <;> exact q.elim⟩
def uP:=Yw fun i j=>.int (i-j)
theorem ux:OpD X (binaryOp .Sub) uP:=ju L3 fun _ _ _=>by simp only[Rep]
def Wc:=intOp (fun _ j=>decide (0<j)) fun i j=>.int (i%j)
theorem uy:OpD X (binaryOp .Mod) Wc:=UO L5 (fun i j h=>by simpa using h) fun _ _ _=>by simp only[Rep]
def YG:=intOp (fun _ j=>decide (0<j∧j<1073741824)) fun i j=>.int (i / j)
theorem jv:OpD X (binaryOp .FloorDiv) YG:=UO M4 (fun i j h=>by have h':0<j∧j<1073741824:=of_decide_eq_true h;exact h') fun _ _ _=>by simp only[Rep]
def ltI:=Yw fun i j=>.bl (decide (i<j))
def gtD:=Yw fun i j=>.bl (decide (j<i))
def geD:=Yw fun i j=>.bl (decide (j≤i))
theorem VW:OpD X (compareOp .Lt) ltI:=ju op_lt fun _ _ _=>by simp only[Rep]
theorem VX:OpD X (compareOp .Gt) gtD:=ju op_gt fun _ _ _=>by simp only[Rep]
theorem L1:OpD X (compareOp .GtE) geD:=ju op_ge fun _ _ _=>by simp only[Rep]
def zQ:D→D→Rs D
 |.int i,.int j=>.ok (.int (i+j))
 |.str i,.str j=>if i.length+j.length≤sizeLine then .ok (.str (i++j)) else .no
 |.lst i,.lst j=>if i.length+j.length≤sizeLine then .ok (.lst (i++j)) else .no
 |_,_=>.no
theorem zH:OpD X (binaryOp .Add) zQ:=⟨_,op_add.or (op_add_str.or L7),fun F H x y dx dy Q fh r1 r2 q=>by
 cases dx with
 |int i=>
  cases dy with
  |int j=>
   simp only[Rep] at r1 r2;subst r1;subst r2
   exact .inl ⟨i,j,rfl,rfl,q _ F H (Ext.refl fh) (by simp only[Rep])⟩
  |_=>exact q.elim
 |str i=>
  cases dy with
  |str j=>
   simp only[Rep] at r1 r2;subst r1;subst r2
   obtain⟨z,q⟩:=yz q
   exact .inr (.inl ⟨i,j,rfl,rfl,z,q _ F H (Ext.refl fh) (by simp only[Rep])⟩)
  |_=>exact q.elim
 |lst i=>
  cases dy with
  |lst j=>
   simp only[Rep] at r1 r2
   obtain⟨a,vs,rfl,e1,t1⟩:=r1
   obtain⟨b,ws,rfl,e2,t2⟩:=r2
   obtain⟨z,q⟩:=yz q
   refine .inr (.inr ⟨a,b,vs,ws,rfl,rfl,fh _ _ e1,fh _ _ e2,by rw[← t1.length,← t2.length];exact z,fun p hp=>q _ _ _ (Ext.new fh hp) ?_⟩)
   simp only[Rep]
   exact⟨p,vs++ws,rfl,zt,(t1.append t2).mono (yj (zU fh hp))⟩
  |_=>exact q.elim
 |_=>cases dy <;> exact q.elim⟩
def ua:D→D→Rs D
 |.int i,.int j=>if (-(18446744073709551616)<i∧i<18446744073709551616)∨(-(18446744073709551616)<j∧j<18446744073709551616) then .ok (.int (i*j)) else .no
 |.lst i,.int k=>if k<16777216∧-16777216<k∧i.length*k.toNat≤sizeLine then .ok (.lst (List.replicate k.toNat i).flatten) else .no
 |_,_=>.no
theorem wt:OpD X (binaryOp .Mult) ua:=⟨_,op_mul.or L4,fun F H x y dx dy Q fh r1 r2 q=>by
 cases dx with
 |int i=>
  cases dy with
  |int j=>
   simp only[Rep] at r1 r2;subst r1;subst r2
   obtain⟨z,q⟩:=yz q
   refine .inl ⟨i,j,rfl,rfl,?_,q _ F H (Ext.refl fh) (by simp only[Rep])⟩
   unfold CMul
   rcases z with z|z
   ·exact .inl (by omega)
   ·exact .inr (by omega)
  |_=>exact q.elim
 |lst i=>
  cases dy with
  |int k=>
   simp only[Rep] at r1 r2
   obtain⟨a,vs,rfl,e1,t1⟩:=r1
   subst r2
   obtain⟨z,q⟩:=yz q
   refine .inr ⟨a,k,vs,rfl,rfl,fh _ _ e1,by omega,by omega,by rw[← t1.length];exact z.2.2,fun p hp=>q _ _ _ (Ext.new fh hp) ?_⟩
   simp only[Rep]
   exact⟨p,_,rfl,zt,(t1.rep k.toNat).mono (yj (zU fh hp))⟩
  |_=>exact q.elim
 |_=>cases dy <;> exact q.elim⟩
def Wz(i j:Str):Bool:=!(Builtin.Str.occurrences j i 0 j.length 1).isEmpty
def inD:D→D→Rs D
 |.str i,.str j=>.ok (.bl (Wz i j))
 |d,.lst xs=>if okD d=true∧okD (.lst xs)=true then .ok (.bl (xs.any fun y=>wF y d)) else .no
 |d,.tup xs=>if okD d=true∧okD (.tup xs)=true then .ok (.bl (xs.any fun y=>wF y d)) else .no
 |_,_=>.no
def Tf(r:D):Rs D:=match r with
 |.bl b=>.ok (.bl (!b))
 |_=>.no
def j8(d e:D):Rs D:=(inD d e).bind Tf
theorem Y9:∀xs:List D,toPys xs=xs.map yB
 |[]=>rfl
 |d::r=>by rw[toPys,Y9 r,map_cons]
theorem uD(xs:List D)(d:D):((toPys xs).any fun y=>PyData.eqv y (yB d))=xs.any fun y=>wF y d:=by
 rw[Y9,List.any_map];rfl
def rInD(K:PySem.W.Frag)(neg:Bool):R2:=fun x y H Q=>∃F d e xs,Same F H∧Rep K F d x∧Rep K F e y∧okD d=true∧okD e=true∧(e=.lst xs∨e=.tup xs)∧Q (.bl (if neg then !(xs.any fun y=>wF y d) else xs.any fun y=>wF y d)) H
theorem JK(hu:X.A.units+128<cLine):OpR X (compareOp .In) (rInD X.K false):=by
 intro pins s σ H x y v u Q I rx ry h
 obtain⟨F,d,e,xs,fh,r1,r2,o1,o2,he,q⟩:=h
 obtain⟨p1,c1,e1⟩:=vk o1
 obtain⟨p2,c2,e2⟩:=vk o2
 obtain⟨as,h1⟩:=xZ I fh d r1 rx p1
 obtain⟨bs,h2⟩:=xZ I fh e r2 ry p2
 rcases he with rfl|rfl
 ·rw[yB] at h2 c2 e2
  refine SeqAt.in_list_reads h2 h1 (by simpa only[PyData.canLay0] using c2) c1 (by omega) ⟨.bl _,H,I,rfl,?_⟩
  rw[uD];exact q
 ·rw[yB] at h2 c2 e2
  refine SeqAt.in_tuple_reads h2 h1 (by simpa only[PyData.canLay0] using c2) c1 (by omega) ⟨.bl _,H,I,rfl,?_⟩
  rw[uD];exact q
theorem X4(hu:X.A.units+128<cLine):OpR X (compareOp .NotIn) (rInD X.K true):=by
 intro pins s σ H x y v u Q I rx ry h
 obtain⟨F,d,e,xs,fh,r1,r2,o1,o2,he,q⟩:=h
 obtain⟨p1,c1,e1⟩:=vk o1
 obtain⟨p2,c2,e2⟩:=vk o2
 obtain⟨as,h1⟩:=xZ I fh d r1 rx p1
 obtain⟨bs,h2⟩:=xZ I fh e r2 ry p2
 rcases he with rfl|rfl
 ·rw[yB] at h2 c2 e2
  refine SeqAt.notIn_list_reads h2 h1 (by simpa only[PyData.canLay0] using c2) c1 (by omega) ⟨.bl _,H,I,rfl,?_⟩
  rw[uD];exact q
 ·rw[yB] at h2 c2 e2
  refine SeqAt.notIn_tuple_reads h2 h1 (by simpa only[PyData.canLay0] using c2) c1 (by omega) ⟨.bl _,H,I,rfl,?_⟩
  rw[uD];exact q
theorem j6(hu:X.A.units+128<cLine):OpD X (compareOp .In) inD:=⟨_,op_in_str.or (JK hu),fun F H x y dx dy Q fh r1 r2 q=>by
 cases dy with
 |lst xs=>
  have q':Ok X (if okD dx=true∧okD (.lst xs)=true then .ok (.bl (xs.any fun y=>wF y dx)) else .no) (Ev X.K F H Q):=by cases dx <;> exact q
  obtain⟨z,q⟩:=yz q'
  exact .inr ⟨F,dx,_,xs,fh,r1,r2,z.1,z.2,.inl rfl,q _ F H (Ext.refl fh) (by simp only[Rep];rfl)⟩
 |tup xs=>
  have q':Ok X (if okD dx=true∧okD (.tup xs)=true then .ok (.bl (xs.any fun y=>wF y dx)) else .no) (Ev X.K F H Q):=by cases dx <;> exact q
  obtain⟨z,q⟩:=yz q'
  exact .inr ⟨F,dx,_,xs,fh,r1,r2,z.1,z.2,.inr rfl,q _ F H (Ext.refl fh) (by simp only[Rep];rfl)⟩
 |str j=>
  cases dx with
  |str i=>
   simp only[Rep] at r1 r2;subst r1;subst r2
   exact .inl ⟨i,j,rfl,rfl,q _ F H (Ext.refl fh) (by simp only[Rep,Wz])⟩
  |_=>exact q.elim
 |_=>cases dx <;> exact q.elim⟩
theorem JI(hu:X.A.units+128<cLine):OpD X (compareOp .NotIn) j8:=⟨_,op_notin_str.or (X4 hu),fun F H x y dx dy Q fh r1 r2 q=>by
 have q:=Ok.bind q
 cases dy with
 |lst xs=>
  have q':Ok X (if okD dx=true∧okD (.lst xs)=true then .ok (.bl (xs.any fun y=>wF y dx)) else .no) (fun r=>Ok X (Tf r) (Ev X.K F H Q)):=by cases dx <;> exact q
  obtain⟨z,q⟩:=yz q'
  exact .inr ⟨F,dx,_,xs,fh,r1,r2,z.1,z.2,.inl rfl,q _ F H (Ext.refl fh) (by simp only[Rep];rfl)⟩
 |tup xs=>
  have q':Ok X (if okD dx=true∧okD (.tup xs)=true then .ok (.bl (xs.any fun y=>wF y dx)) else .no) (fun r=>Ok X (Tf r) (Ev X.K F H Q)):=by cases dx <;> exact q
  obtain⟨z,q⟩:=yz q'
  exact .inr ⟨F,dx,_,xs,fh,r1,r2,z.1,z.2,.inr rfl,q _ F H (Ext.refl fh) (by simp only[Rep];rfl)⟩
 |str j=>
  cases dx with
  |str i=>
   simp only[Rep] at r1 r2;subst r1;subst r2
   exact .inl ⟨i,j,rfl,rfl,q _ F H (Ext.refl fh) (by simp only[Rep,Wz])⟩
  |_=>exact q.elim
 |_=>cases dx <;> exact q.elim⟩
def isN:D→Rs Bool
 |.non=>.ok true
 |.raw _=>.no
 |.exc _=>.no
 |_=>.ok false
def isD(d e:D):Rs D:=match e with
 |.non=>(isN d).bind fun b=>.ok (.bl b)
 |_=>.no
def vR(d e:D):Rs D:=match e with
 |.non=>(isN d).bind fun b=>.ok (.bl (!b))
 |_=>.no
theorem U3{F:Hp}{d:D}{v:V}{P:Bool→Prop}(r:Rep X.K F d v)(h:Ok X (isN d) P):P (decide (v=.non)):=by
 cases d with
 |non=>simp only[Rep] at r;subst r;exact h
 |bl b=>simp only[Rep] at r;subst r;exact h
 |int b=>simp only[Rep] at r;subst r;exact h
 |str b=>simp only[Rep] at r;subst r;exact h
 |lst b=>simp only[Rep] at r;obtain⟨a,vs,rfl,_⟩:=r;exact h
 |tup b=>simp only[Rep] at r;obtain⟨a,vs,rfl,_⟩:=r;exact h
 |scr b=>simp only[Rep] at r;obtain⟨a,rfl,_⟩:=r;exact h
 |raw b=>exact h.elim
 |exc b=>exact h.elim
theorem L0:OpD X (compareOp .Is) isD:=⟨_,L6,fun F H x y dx dy Q fh r1 r2 q=>by
 cases dy with
 |non=>simp only[Rep] at r2;exact⟨r2,U3 r1 (Ok.bind q) _ F H (Ext.refl fh) (by simp only[Rep])⟩
 |_=>exact q.elim⟩
theorem Xl:OpD X (compareOp .IsNot) vR:=⟨_,M3,fun F H x y dx dy Q fh r1 r2 q=>by
 cases dy with
 |non=>simp only[Rep] at r2;have q':Ok X ((isN dx).bind fun b=>Rs.ok (D.bl (!b))) (Ev X.K F H Q):=q;have q2:=U3 (P:=fun b=>Ok X (Rs.ok (D.bl (!b))) (Ev X.K F H Q)) r1 (Ok.bind q');exact⟨r2,q2 _ F H (Ext.refl fh) (by simp only[Rep])⟩
 |_=>exact q.elim⟩
def wA(fa:FE):FE:=fun τ=>(fa τ).bind fun d=>match d with
 |.int i=>.ok (.int (-i))
 |_=>.no
theorem wO{a:Expr}{pos:Pos}{fa:FE}(ha:PDE X a fa):PDE X (.UnaryOp .USub a pos) (wA fa):=
 PE.imp (pe_un Lv ha) fun σ H Q ⟨F,τ,R,h⟩=>tE.of R h.bind fun d v F1 H1 g x R1 r=>by
  cases d with
  |int i=>simp only[Rep] at r;exact⟨i,r,g _ F1 H1 x (by simp only[Rep])⟩
  |_=>exact g.elim
end
def yO(env:Env)(cs:List (Str×Addr))(y:Str×NameKind):List (Str×Addr):=if y.2==NameKind.free then (y.1,(env.cells.lookup y.1).getD 0)::cs else cs
def xN(scope:Scope)(env:Env):List (Str×Addr):=scope.names.foldl (yO env) []
theorem vx{scope:Scope}{env:Env}(h:∀y∈scope.names,y.2=.free→(env.cells.lookup y.1).isSome=true):closureFor scope env=pure (xN scope env):=by
 unfold closureFor xN
 generalize scope.names=names at h
 have gen:∀(cs:List (Str×Addr)),(forIn names cs fun x r=>(do
   if (x.2==NameKind.free)=true then do
    let c ← cellOf env x.1
    pure PUnit.unit
    pure (ForInStep.yield ((x.1,c)::r))
   else do
    pure PUnit.unit
    pure (ForInStep.yield r)):Sem (List (Str×Addr)))=pure (names.foldl (yO env) cs):=by
  induction names with
  |nil=>intro cs;rfl
  |cons y r ih=>
   intro cs
   rw[List.forIn_cons,foldl_cons]
   by_cases hk:y.2=.free
   ·obtain⟨c,hc⟩:=Option.isSome_iff_exists.mp (h y mem_cons_self hk)
    have e:yO env cs y=(y.1,c)::cs:=by simp[yO,hk,hc]
    rw[e,← ih (fun z hz=>h z (mem_cons_of_mem _ hz))]
    simp only[hk,beq_self_eq_true,if_true,cellOf,hc]
    rfl
   ·have hb:(y.2==NameKind.free)=false:=by simpa using hk
    have e:yO env cs y=cs:=by simp[yO,hb]
    rw[e,← ih (fun z hz=>h z (mem_cons_of_mem _ hz))]
    simp only[hb,Bool.false_eq_true,if_false]
    rfl
 show((forIn names ([]:List (Str×Addr)) fun x r=>(do
   if (x.2==NameKind.free)=true then do
    let c ← cellOf env x.1
    pure PUnit.unit
    pure (ForInStep.yield ((x.1,c)::r))
   else do
    pure PUnit.unit
    pure (ForInStep.yield r)):Sem (List (Str×Addr))) >>= fun s=>pure s)=_
 rw[gen []]
 rfl
theorem Zy{env:Env}{x:Str}:∀{names:List (Str×NameKind)} {cs:List (Str×Addr)} {c:Addr},(names.foldl (yO env) cs).lookup x=some c→cs.lookup x=some c∨(∃y∈names,y.1=x∧y.2=.free∧c=(env.cells.lookup x).getD 0)
 |[],cs,c,h=>.inl h
 |y::r,cs,c,h=>by
  rw[foldl_cons] at h
  rcases Zy h with q|⟨z,hz,e⟩
  ·by_cases hk:y.2=.free
   ·have e:yO env cs y=(y.1,(env.cells.lookup y.1).getD 0)::cs:=by simp[yO,hk]
    rw[e,lookup_cons] at q
    by_cases hx:x=y.1
    ·subst hx
     simp at q
     exact .inr ⟨y,mem_cons_self,rfl,hk,q.symm⟩
    ·have hb:(x==y.1)=false:=by simpa using hx
     rw[hb] at q
     exact .inl q
   ·have hb:(y.2==NameKind.free)=false:=by simpa using hk
    have e:yO env cs y=cs:=by simp[yO,hb]
    rw[e] at q
    exact .inl q
  ·exact .inr ⟨z,mem_cons_of_mem _ hz,e⟩
theorem ul{env:Env}{x:Str}:∀{names:List (Str×NameKind)} {cs:List (Str×Addr)},((∃y∈names,y.1=x∧y.2=.free)∨∃c,cs.lookup x=some c)→∃c,(names.foldl (yO env) cs).lookup x=some c
 |[],cs,h=>by
  rcases h with ⟨y,hy,_⟩|h
  ·cases hy
  ·exact h
 |y::r,cs,h=>by
  rw[foldl_cons]
  refine ul ?_
  by_cases hk:y.2=.free
  ·have e:yO env cs y=(y.1,(env.cells.lookup y.1).getD 0)::cs:=by simp[yO,hk]
   rw[e]
   by_cases hx:x=y.1
   ·subst hx;exact .inr ⟨(env.cells.lookup y.1).getD 0,by rw[lookup_cons];simp⟩
   ·have hb:(x==y.1)=false:=by simpa using hx
    rcases h with ⟨z,hz,e1,e2⟩|⟨c,hc⟩
    ·rcases mem_cons.mp hz with rfl|hz
     ·exact absurd e1.symm hx
     ·exact .inl ⟨z,hz,e1,e2⟩
    ·exact .inr ⟨c,by rw[lookup_cons,hb];exact hc⟩
  ·have hb:(y.2==NameKind.free)=false:=by simpa using hk
   have e:yO env cs y=cs:=by simp[yO,hb]
   rw[e]
   rcases h with ⟨z,hz,e1,e2⟩|h
   ·rcases mem_cons.mp hz with rfl|hz
    ·exact absurd e2 hk
    ·exact .inl ⟨z,hz,e1,e2⟩
   ·exact .inr h
def _root_.L2.Cx.comp(X:Cx)(scope:Scope)(N:List Str)(s:Shared)(H:Hp)(C:Addr)(fp:List Addr):Cx:=
 { prog:=X.prog,w:=X.w,K:=X.K,mg:=X.mg,base:=X.base,A:=X.A,N:=N,s₀:=s,H₀:=H,env:=compEnvC scope (xN scope X.env) C X.env,outer:=X.stack,stack:=X.stack,ex:=fp,fn:=fun _=>false,calm:=X.calm,pn:=[],xe:=fun _ _=>False }
structure xB(X:Cx)(scope:Scope):Prop where
 kind:scope.kind=.function
 nocell:∀y∈scope.names,y.2≠.cell
 locs:∀y∈scope.names,y.2=.local→scope.names.lookup y.1=some .local
 free:∀y∈scope.names,y.2=.free→X.env.kindOf y.1=some .cell∨X.env.kindOf y.1=some .free
theorem wJ{env:Env}:∀{names:List (Str×NameKind)} {x:Str},((names.map fun (n,k)=>if (k==NameKind.free&&env.scope.kind == .function&&env.kindOf n==some .cell) then (n,NameKind.cell) else (n,k)).lookup x=some .cell ∨
  (names.map fun (n,k)=>if (k==NameKind.free&&env.scope.kind == .function&&env.kindOf n==some .cell) then (n,NameKind.cell) else (n,k)).lookup x=some .free)→(∀y∈names,y.2≠.cell)→∃y∈names,y.1=x∧y.2=.free
 |[],_,h,_=>by rcases h with h|h <;> simp at h
 | (n,k)::r,x,h,hc=>by
  have hr:∀y∈r,y.2≠.cell:=fun y hy=>hc y (mem_cons_of_mem _ hy)
  rw[map_cons] at h
  by_cases hx:x=n
  ·subst hx
   by_cases hk:k=.free
   ·exact⟨_,mem_cons_self,rfl,hk⟩
   ·have hb:(k==NameKind.free)=false:=by simpa using hk
    have hck:k≠.cell:=hc (x,k) mem_cons_self
    simp only[hb,Bool.false_and,Bool.false_eq_true,if_false,lookup_cons,beq_self_eq_true] at h
    rcases h with h|h
    ·exact absurd (Option.some.inj h) hck
    ·exact absurd (Option.some.inj h) hk
  ·have hb:(x==n)=false:=by simpa using hx
   have step:∀q:Str×NameKind,q.1=n→((q::(r.map fun (n,k)=>if (k==NameKind.free&&env.scope.kind == .function&&env.kindOf n==some .cell) then (n,NameKind.cell) else (n,k))).lookup x)=((r.map fun (n,k)=>if (k==NameKind.free&&env.scope.kind == .function&&env.kindOf n==some .cell) then (n,NameKind.cell) else (n,k)).lookup x):=fun q hq=>by
    obtain⟨q1,q2⟩:=q
    simp only at hq
    subst hq
    rw[lookup_cons,hb]
   have h':((r.map fun (n,k)=>if (k==NameKind.free&&env.scope.kind == .function&&env.kindOf n==some .cell) then (n,NameKind.cell) else (n,k)).lookup x=some .cell∨(r.map fun (n,k)=>if (k==NameKind.free&&env.scope.kind == .function&&env.kindOf n==some .cell) then (n,NameKind.cell) else (n,k)).lookup x=some .free):=by
    rcases h with h|h
    ·left;exact(step _ (by show(if (k==NameKind.free&&env.scope.kind == .function&&env.kindOf n==some .cell)=true then (n,NameKind.cell) else (n,k)).1=n;split <;> rfl)).symm.trans h
    ·right;exact(step _ (by show(if (k==NameKind.free&&env.scope.kind == .function&&env.kindOf n==some .cell)=true then (n,NameKind.cell) else (n,k)).1=n;split <;> rfl)).symm.trans h
   obtain⟨y,hy,e⟩:=wJ h' hr
   exact⟨y,mem_cons_of_mem _ hy,e⟩
theorem vN{env:Env}:∀{names:List (Str×NameKind)} {x:Str},names.lookup x=some .free→¬ (names.map fun (n,k)=>if (k==NameKind.free&&env.scope.kind == .function&&env.kindOf n==some .cell) then (n,NameKind.cell) else (n,k)).lookup x=some .local
 |[],_,h=>by simp at h
 | (n,k)::r,x,h=>by
  rw[map_cons]
  show ¬ List.lookup x ((if (k==NameKind.free&&env.scope.kind == .function&&env.kindOf n==some .cell)=true then (n,NameKind.cell) else (n,k))::_)=_
  rw[lookup_cons] at h
  by_cases hx:x=n
  ·subst hx
   simp only[beq_self_eq_true] at h
   have hk:k=.free:=Option.some.inj h
   subst hk
   split <;> simp[lookup_cons]
  ·have hb:(x==n)=false:=by simpa using hx
   rw[hb] at h
   split
   ·rw[lookup_cons,hb];exact vN h
   ·rw[lookup_cons,hb];exact vN h
section
variable{X:Cx}{scope:Scope}{N':List Str}
theorem Zm(S:xB X scope)(ok:X.Ok){x:Str}{c:Addr}(h:(xN scope X.env).lookup x=some c):X.env.cells.lookup x=some c:=by
 rcases Zy h with q|⟨y,hy,e1,e2,e3⟩
 ·simp at q
 ·subst e1
  obtain⟨c',hc'⟩:=ok.has y.1 (S.free y hy e2)
  rw[hc'] at e3 ⊢
  rw[e3];rfl
theorem G1{pins:List (Addr×Obj)}{σ σ':St}{H:Hp}{s:Shared}{h1:Heap}{fp:List Addr}{t:Nat}(S:xB X scope)(I:Inv X pins σ H s)(hfp:∀b∈fp,Y6 X pins H b)(hlt:∀b∈fp,b<s.heap.objs.size)
  (hn:h1.Ns s.heap.objs.size fun _=>none) (hsb:∀b o,s.heap.get? b=some o→h1.get? b=some o) (hl:σ'.length=N'.length)
  (hσ:∀(i:Nat) (v:V),σ'[i]?=some (some v)→∃(x:Str) (j:Nat),N'[i]?=some x∧X.N[j]?=some x∧σ[j]?=some (some v)∧scope.names.lookup x=some .free) :
  Inv (X.comp scope N' s H s.heap.objs.size fp) [] σ' H { s with heap:=h1,toks:=t }:=by
 have hH:H s.heap.objs.size=none:=I.hok.fresh (le_refl _)
 have cl:∀{x c},(xN scope X.env).lookup x=some c→X.env.cells.lookup x=some c:=fun h=>Zm S I.ok h
 have kept:∀{c v},s.heap.IsCell c v→h1.IsCell c v:=fun ⟨o,e,d⟩=>⟨o,hsb _ o e,d⟩
 refine⟨⟨I.ok.mod,S.kind,I.ok.glob,I.ok.blt,le_refl _,fun x y c e1 e2=>I.ok.inj x y c (cl e1) (cl e2),fun x hx=>?_,fun x c hf _=>absurd hf (by simp[Cx.comp]),I.ok.hd,I.ok.frames,.inl rfl,fun b hb=>?_,I.bs,le_trans I.ok.bsz I.sz,fun b o e hb=>?_,fun b hb hs=>?_,I.stack,I.stkFree⟩,
  I.os.symm ▸ rfl,I.bare,Un.kept hsb,⟨_,hn,fun i x v e1 e2 e3=>?_⟩,fun x c e=>?_,hH,fun x c e=>I.freeC x c (cl e),fun p hp=>absurd (show p∈([]:List (Addr×Obj)) from hp) (by simp),I.hok.kept hsb,hl⟩
 ·have hx:(relabel scope X.env).names.lookup x=some .cell∨(relabel scope X.env).names.lookup x=some .free:=hx
  exact ul (.inl (wJ hx S.nocell))
 ·have hb:b∈fp:=hb
  refine⟨ne_of_lt (hlt b hb),fun x c e=>(hfp b hb).2.2.2.2.1 x c (cl e)⟩
 ·have hb:b∈fp:=hb
  rcases (hfp b hb).2.2.2.1 with z|z
  ·exact I.ok.noex b o e z
  ·exact absurd (lt_of_lt_of_le (Heap.lt_size e) (le_trans I.ok.bsz z)) (lt_irrefl _)
 ·have hb:b∈fp:=hb
  obtain⟨_,f1,f2,_⟩:=hfp b hb
  rcases mem_cons.mp (I.stkSub b hs) with z|z
  ·exact f1 z
  ·exact f2 z
 ·obtain⟨x',j,e4,e5,e6,e9⟩:=hσ i v e2
  have hy:=PySem.mem_of_lookup e9
  have e1':N'[i]?=some x:=e1
  rw[e1'] at e4;cases e4
  have kd:=S.free _ hy rfl
  obtain⟨m,hm,hl⟩:=I.loc
  obtain⟨u,ru,lk⟩:=hl j x v e5 e6 (kd.elim (fun z=>.inr (.inl z)) fun z=>.inr (.inr z))
  refine⟨u,ru,?_⟩
  rcases lk with ⟨z,_⟩|⟨z,c,hc,hcell⟩
  ·rcases kd with k|k <;> rw[k] at z <;> cases z
  ·obtain⟨c',hc'⟩:=ul (env:=X.env) (names:=scope.names) (cs:=[]) (x:=x) (.inl ⟨_,hy,rfl,rfl⟩)
   have:=cl hc'
   rw[hc] at this;cases this
   have e3':(relabel scope X.env).names.lookup x=some .local∨(relabel scope X.env).names.lookup x=some .cell∨(relabel scope X.env).names.lookup x=some .free:=e3
   rcases e3' with q|q|q
   ·exact absurd q (vN e9)
   ·exact .inr ⟨.inl q,c,hc',kept hcell⟩
   ·exact .inr ⟨.inr q,c,hc',kept hcell⟩
 ·obtain⟨v,z⟩:=I.cell x c (cl e)
  exact⟨v,kept z⟩
end
theorem Qg{prog:Program}{w:World}{A:Around}{R:Result→Shared→Prop}{s:Shared}{elt target iter:Expr}{ifs:List Expr}{scope:Scope}{pos:Pos}{it acc:Value}{env:Env}(I:Nat→Shared→Prop)
  (turn:∀n s,I n s→wpAny (model prog w) A (pyNext it) (fun r s₁=>match r with
   |none=>R (.ok .next) s₁
   |some v=>wpAny (model prog w) A (letOwnedTupleGo target it v) (fun _ s0=>wpAny (model prog w) A (assign target env v) (fun _ s₂=>
     wpAny (model prog w) A (forIn ifs true fun c r=>if r=true then do let ok ← isTrue c env (eval c env);pure (ForInStep.yield ok) else pure (ForInStep.yield r)) (fun ok s₃=>
      if ok=true then wpAny (model prog w) A (eval elt env) (fun x s₄=>
       wpAny (model prog w) A (call (.builtin "list.append") [acc,x]) (fun _ s₅=>∃m,m<n∧I m s₅) (fun _ _=>False) s₄) (fun _ _=>False) s₃
      else ∃m,m<n∧I m s₃) (fun _ _=>False) s₂) (fun _ _=>False) s0) (fun _ _=>False) s₁) (fun _ _=>False) s)
  (n:Nat) (h:I n s) :
  codeAny (model prog w) A (.compLoop (.ListComp elt [⟨target,iter,ifs,0⟩] scope pos) 0 it acc env) R s:=by
 refine codeAny_loop rfl I (fun n s hI=>?_) n h
 show wpAny _ A ((compTurn (.ListComp elt [⟨target,iter,ifs,0⟩] scope pos) 0 it acc env).onRaise (fun x=>do noteFrame x env;theTreesLotGoes x)) _ _ s
 refine wpAny_noted ?_
 rw[compTurn_list]
 refine wpAny_bind (wpAny_standAt (wpAny_bind (wpAny_mono (turn n s hI) (fun r s₁ h₁=>?_) fun _ _ h'=>h'.elim)))
 cases r with
 |none=>exact wpAny_pure h₁
 |some v=>
  refine wpAny_bind (wpAny_mono h₁ (fun _ s0 h0=>?_) fun _ _ h'=>h'.elim)
  refine wpAny_bind (wpAny_mono h0 (fun _ s₂ h₂=>wpAny_bind (wpAny_mono h₂ (fun ok s₃ h₃=>?_) fun _ _ h'=>h'.elim)) fun _ _ h'=>h'.elim)
  cases ok with
  |false=>exact wpAny_pure ⟨rfl,h₃⟩
  |true=>
   exact wpAny_bind (wpAny_bind (wpAny_mono h₃ (fun x s₄ h₄=>wpAny_bind (wpAny_mono h₄ (fun _ s₅ h₅=>wpAny_pure (wpAny_pure ⟨rfl,h₅⟩)) fun _ _ h'=>h'.elim)) fun _ _ h'=>h'.elim))
theorem Gf{M:Model}{A:Around}{env:Env}{Q:Bool→Shared→Prop}{E:Value→Shared→Prop}{s:Shared}(h:Q true s) :
  wpAny M A (forIn ([]:List Expr) true fun c r=>if r=true then do let ok ← isTrue c env (eval c env);pure (ForInStep.yield ok) else pure (ForInStep.yield r)) Q E s:=wpAny_pure h
theorem Q8{M:Model}{A:Around}{env:Env}{Q:Bool→Shared→Prop}{E:Value→Shared→Prop}{s:Shared}{c:Expr}(h:wpAny M A (isTrue c env (eval c env)) Q E s) :
  wpAny M A (forIn [c] true fun c r=>if r=true then do let ok ← isTrue c env (eval c env);pure (ForInStep.yield ok) else pure (ForInStep.yield r)) Q E s:=by
 rw[List.forIn_cons]
 simp only[if_true]
 refine wpAny_bind (wpAny_bind (wpAny_mono h (fun b s' q=>wpAny_pure ?_) fun _ _ e=>e))
 exact wpAny_pure q
def PTs(Y:Cx)(ifs:List Expr)(t:TT):Prop:=∀(pins:List (Addr×Obj)) (s:Shared) (σ:St) (H:Hp) (Q:Bool→Hp→Prop),Inv Y pins σ H s→t σ H Q →
 wpAny (model Y.prog Y.w) Y.A (forIn ifs true fun c r=>if r=true then do let ok ← isTrue c Y.env (eval c Y.env);pure (ForInStep.yield ok) else pure (ForInStep.yield r)) (TP Y pins σ Q) Y.xe s
theorem UF{Y:Cx}:PTs Y [] (fun _ H Q=>Q true H):=fun pins s σ H Q I h=>Gf ⟨H,I,h⟩
theorem MN{Y:Cx}{c:Expr}{t:TT}(h:PT Y c t):PTs Y [c] t:=fun pins s σ H Q I q=>Q8 (h pins s σ H Q I q)
def Uw(s0:St→St)(wi:TI)(g:TG)(ti:TT)(te:TE):TE:=fun σ H Q=>wi σ H fun J H1=>∀acc,H1 acc=none→∃W:Nat→Nat→St→Hp→Prop,(∃m,W 0 m (s0 σ) (upd H1 acc (.lst [])))∧∀i m σ1 H,W i m σ1 H →
 (J.stop i H∧Q (.ref acc) H)∨(J.go i H∧∀x H',J.yld i H x H'→g x σ1 H' fun σ2 H2=>ti σ2 H2 fun b H3=>
  if b=true then te σ2 H3 fun y H4=>∃ys,H4 acc=some (.lst ys)∧ys.length<sizeLine∧∃m',m'<m∧W (i+1) m' σ2 (upd H4 acc (.lst (ys++[y]))) else ∃m',m'<m∧W (i+1) m' σ2 H3)
section
variable{X:Cx}{scope:Scope}{N':List Str}{tg iter elt:Expr}{ifs:List Expr}{pos:Pos}{wi:TI}{g:TG}{ti:TT}{te:TE}{s0:St→St}
theorem TF{P:Program}{w:World}{H:Hp}{h h':Heap}{C:Addr}(ok:HOk P w H h)(hC:H C=none)(k:∀b o,b≠C→h.get? b=some o→h'.get? b=some o):HOk P w H h':=fun b u e=>by
 refine(ok b u e).stay (fun c v hc q=>k c v ?_ q) (fun _ q=>q) fun _ _ q=>q
 rintro rfl
 rcases hc with z|z
 ·subst z;rw[hC] at e;cases e
 ·rw[hC] at z;cases z
theorem YK{pins:List (Addr×Obj)}{σ:St}{H:Hp}{s:Shared}{QQ:V→Hp→Prop}{J:It}{fp:List Addr}{it acc:Addr}{tn:Nat→Heap→Prop}{RR:Addr→Result→Shared→Prop}{E:Value→Shared→Prop}{W:Nat→Nat→St→Hp→Prop}{m0:Nat}
  (S:xB X scope) (hc:X.calm=true) (hl:(s0 σ).length=N'.length)
  (hσ:∀(i:Nat) (v:V),(s0 σ)[i]?=some (some v)→∃(x:Str) (j:Nat),N'[i]?=some x∧X.N[j]?=some x∧σ[j]?=some (some v)∧scope.names.lookup x=some .free)
  (hg:∀s H C fp,PG (X.comp scope N' s H C fp) tg g) (ht:∀s H C fp,PTs (X.comp scope N' s H C fp) ifs ti) (he:∀s H C fp,PE (X.comp scope N' s H C fp) elt te)
  (I:Inv X pins σ H s) (T:Ws X.prog X.w X.K tg J fp it tn) (st:tn 0 s.heap) (hfp:∀b∈fp,Y6 X pins H b) (hlt:∀b∈fp,b<s.heap.objs.size) (hacc:acc<s.heap.objs.size)
  (w0:W 0 m0 (s0 σ) H) (turn:∀i m σ1 H,W i m σ1 H→(J.stop i H∧QQ (.ref acc) H)∨(J.go i H∧∀x H',J.yld i H x H'→g x σ1 H' fun σ2 H2=>ti σ2 H2 fun b H3=>
    if b=true then te σ2 H3 fun y H4=>∃ys,H4 acc=some (.lst ys)∧ys.length<sizeLine∧∃m',m'<m∧W (i+1) m' σ2 (upd H4 acc (.lst (ys++[y]))) else ∃m',m'<m∧W (i+1) m' σ2 H3))
  (hRR:∀s',(∃m,s'.heap.Ns s.heap.objs.size m)→(∀h',Heap.SameBut s.heap.objs.size s'.heap h'→EP X pins σ (fun v H'=>QQ v H'∧H' s.heap.objs.size=none) (.ref acc) { s' with heap:=h' })→RR s.heap.objs.size (.ok .next) s') :
  wpAny (model X.prog X.w) X.A (newFunctionEnv scope X.env.globals (xN scope X.env) [] X.env.qual none .none (some X.env)) (fun cenv s₄=>
   codeAny (model X.prog X.w) X.A (.compStart (.ListComp elt [⟨tg,iter,ifs,0⟩] scope pos) 0 (.ref it) (.ref acc) { cenv with scope:=relabel scope X.env }) (RR cenv.locals) s₄) E s:=by
 refine wpAny_newFunctionEnv S.nocell (by intro y hy;simp at hy) (fun h1 hns hsb=>?_) S.kind
 have keep3:∀b o,s.heap.get? b=some o→h1.get? b=some o:=fun b o e=>hsb.extBut b o (ne_of_lt (Heap.lt_size e)) (Heap.get?_push_of_some _ e)
 have Y0:Inv (X.comp scope N' s H s.heap.objs.size fp) [] (s0 σ) H { s with heap:=h1,toks:=s.toks+([]:List (Str×Value)).length }:=G1 S I hfp hlt hns keep3 hl hσ
 have fpY:∀{H':Hp},(∀b∈fp,H' b=none)→∀b∈fp,Y6 (X.comp scope N' s H s.heap.objs.size fp) [] H' b:=fun {H'} hn b hb=>by
  obtain⟨f0,f1,f2,f3,f4,f5⟩:=hfp b hb
  refine⟨hn b hb,ne_of_lt (hlt b hb),fun z=>?_,.inl hb,fun x c e=>f4 x c (Zm S I.ok e),fun p hp=>absurd (show p∈([]:List (Addr×Obj)) from hp) (by simp)⟩
  rcases mem_cons.mp (I.stkSub b z) with q|q
  ·exact f1 q
  ·exact f2 q
 have st1:tn 0 h1:=T.keep _ _ _ st fun b hb o e=>keep3 b o e
 have loop:∀s3:Shared,s3 = { s with heap:=h1,toks:=s.toks+([]:List (Str×Value)).length } →
   codeAny (model X.prog X.w) X.A (.compLoop (.ListComp elt [⟨tg,iter,ifs,0⟩] scope pos) 0 (.ref it) (.ref acc) (X.comp scope N' s H s.heap.objs.size fp).env) (RR s.heap.objs.size) s3:=by
  rintro s3 rfl
  refine Qg (fun n s'=>∃i σ' H',Inv (X.comp scope N' s H s.heap.objs.size fp) [] σ' H' s'∧tn i s'.heap∧(∀b∈fp,H' b=none)∧W i n σ' H') ?_ m0 ⟨0,s0 σ,H,Y0,st1,fun b hb=>(hfp b hb).1,w0⟩
  rintro n s4 ⟨i,σ4,H4,I4,st4,fr4,w4⟩
  rcases turn i n σ4 H4 w4 with ⟨stop,qn⟩|⟨go,step⟩
  ·refine thn (T.done (X.comp scope N' s H s.heap.objs.size fp) rfl rfl rfl hc i [] s4 σ4 H4 _ I4 (fpY fr4) st4 stop) fun r s5 ⟨hr,I5⟩=>?_
   subst hr
   obtain⟨m5,n5,_⟩:=id I5.loc
   have hC:H4 s.heap.objs.size=none:=I5.free
   refine hRR s5 ⟨m5,n5⟩ fun h' sb=>⟨.ref acc,H4,?_,rfl,qn,hC⟩
   refine I.call' (s':={ s5 with heap:=h' }) (ch:=fp) I5.os ⟨fun b o e n hb hx=>?_,fun b o e n hb hx=>?_,fun b o e n hx=>I5.base.free b o e n hx,fun b o e hx=>?_,I5.base.tups,I5.base.frzs,I5.base.tbls⟩ (TF I5.hok hC fun b o hb e=>(sb.2 b hb).trans e) I5.bare fun b hb=>?_
   ·exact(sb.2 b (ne_of_lt (Heap.lt_size e))).trans (I5.base.keep b o e n hb hx)
   ·obtain⟨sl,q⟩:=I5.base.slot b o e n hb hx
    exact⟨sl,(sb.2 b (ne_of_lt (Heap.lt_size e))).trans q⟩
   ·obtain⟨o',q⟩:=I5.base.there b o e hx
    exact⟨o',(sb.2 b (ne_of_lt (Heap.lt_size e))).trans q⟩
   ·obtain⟨f0,f1,f2,f3,f4,f5⟩:=hfp b hb
    exact⟨f3,f1,f4,f5⟩
  ·refine thn (T.item (X.comp scope N' s H s.heap.objs.size fp) rfl rfl rfl hc i [] s4 σ4 H4 _ I4 (fpY fr4) st4 go) fun r s5 ⟨u,hr,h5⟩=>?_
   subst hr
   refine thn h5 fun _ s6 ⟨x,H6,I6,r6,y6,st6,fr6⟩=>?_
   have I6':=I6.pinned (fpY fr6) (T.obj _ _ st6)
   refine thn (hg _ _ _ _ _ s6 σ4 H6 x u _ I6' r6 (step x H6 y6)) fun _ s7 ⟨σ7,H7,I7,q7⟩=>?_
   refine thn (ht _ _ _ _ _ s7 σ7 H7 _ I7 q7) fun ok s8 ⟨H8,I8,q8⟩=>?_
   have again:∀{s9:Shared} {H9:Hp} {m':Nat},Inv (X.comp scope N' s H s.heap.objs.size fp) ([]++Ye fp s6.heap) σ7 H9 s9→m'<n→W (i+1) m' σ7 H9→∃m,m<n∧∃i σ' H',Inv (X.comp scope N' s H s.heap.objs.size fp) [] σ' H' s9∧tn i s9.heap∧(∀b∈fp,H' b=none)∧W i m σ' H':=fun {s9 H9 m'} I9 hm w9=>by
    refine⟨m',hm,i+1,σ7,H9,I9.unpinned,T.keep _ _ _ st6 fun b hb o e=>(I9.pin (b,o) (mem_append_right _ (mem_append_right _ (vQ hb e)))).1,fun b hb=>?_,w9⟩
    obtain⟨o,e,d⟩:=T.obj _ _ st6 b hb
    exact(I9.pin (b,o) (mem_append_right _ (mem_append_right _ (vQ hb e)))).2.1
   cases ok with
   |false=>
    rw[if_neg (by simp)] at q8
    obtain⟨m',hm,w8⟩:=q8
    exact again I8 hm w8
   |true=>
    rw[if_pos rfl] at q8
    refine thn (he _ _ _ _ _ s8 σ7 H8 _ I8 q8) fun y s9 ⟨z,H9,I9,r9,ys,e9,l9,m',hm,w9⟩=>?_
    refine thn (Zc _ s9 σ7 H9 (.ref acc) [z] (.ref acc) [y] (fun _ H'=>H'=upd H9 acc (.lst (ys++[z]))) I9 rfl (.cons r9 .nil) ⟨acc,ys,z,rfl,rfl,e9,l9,rfl⟩) fun _ s10 ⟨_,H10,I10,_,e10⟩=>?_
    subst e10
    exact again I10 hm w9
 exact codeAny_compStart_list (loop _ rfl) (T.self _ 0 _ _ _ st1 (loop _ rfl))
end
section
variable{X:Cx}{scope:Scope}{N':List Str}{tg iter elt:Expr}{ifs:List Expr}{pos:Pos}{wi:TI}{g:TG}{ti:TT}{te:TE}{s0:St→St}
theorem Ln{pins:List (Addr×Obj)}{σ:St}{H:Hp}{s:Shared}{J:It}{fp:List Addr}{it:Addr}{tn:Nat→Heap→Prop}(T:Ws X.prog X.w X.K tg J fp it tn)(st:tn 0 s.heap):∀b∈fp,b<s.heap.objs.size:=fun b hb=>by
 obtain⟨o,e,_⟩:=T.obj 0 _ st b hb
 exact Heap.lt_size e
theorem UL(S:xB X scope)(hc:X.calm=true)(hl:∀σ:St,σ.length=X.N.length→(s0 σ).length=N'.length)
  (hσ:∀(σ:St) (i:Nat) (v:V),(s0 σ)[i]?=some (some v)→∃(x:Str) (j:Nat),N'[i]?=some x∧X.N[j]?=some x∧σ[j]?=some (some v)∧scope.names.lookup x=some .free)
  (hi:PI X tg iter wi) (hg:∀s H C fp,PG (X.comp scope N' s H C fp) tg g) (ht:∀s H C fp,PTs (X.comp scope N' s H C fp) ifs ti) (he:∀s H C fp,PE (X.comp scope N' s H C fp) elt te)
  (hs:∀x,foldedSetIterable iter X.env x=pure x:=by intro _;rfl):PE X (.ListComp elt [⟨tg,iter,ifs,0⟩] scope pos) (Uw s0 wi g ti te):=by
 intro pins s σ H Q I h
 rw[eval_ListComp]
 have hclos:=vx (scope:=scope) (env:=X.env) fun y hy hk=>Option.isSome_iff_exists.mpr (I.ok.has y.1 (S.free y hy hk))
 refine wpAny_comprehension_free (use:=none) rfl hs hclos S.kind S.locs (thn (hi pins s σ H _ I h) fun x s1 h1=>thn h1 fun itv s2 h2=>?_)
 obtain⟨it,fp,tn,J,H2,e,I2,T,st2,f2,hw⟩:=h2
 subst e
 have hf:H2 s2.heap.objs.size=none:=I2.hok.fresh (le_refl _)
 obtain⟨W,⟨m0,w0⟩,turn⟩:=hw _ hf
 have hlt:=Ln (pins:=pins) (σ:=σ) (H:=H2) T st2
 refine wpAny_newObj_type ?_
 have I3:Inv X pins σ (upd H2 s2.heap.objs.size (.lst [])) { s2 with heap:=s2.heap.push { cls:=.type "list", dict:=none,data:=.seq ([]:List Value).toArray } }:=
  I2.laid (t':=s2.toks) (o:=.lst []) (fun b u e=>Heap.get?_push_of_some _ e) (le_refl _) ⟨zero_le _,[],0,.nil,Heap.get?_push_size _ rfl⟩
 have hsz:s2.heap.objs.size<(s2.heap.push { cls:=.type "list", dict:=none,data:=.seq ([]:List Value).toArray }).objs.size:=by rw[Heap.size_push];exact lt_succ_self _
 refine YK (s0:=s0) (QQ:=Q) (W:=W) (m0:=m0) S hc (hl σ I2.len) (hσ σ) hg ht he I3 T (T.keep _ _ _ st2 fun b hb o e=>Heap.get?_push_of_some _ e) (fun b hb=>?_) (fun b hb=>Nat.lt_trans (hlt b hb) hsz) hsz w0 turn fun s' ⟨m,hn⟩ hq=>⟨m,hn,fun h' sb=>let ⟨v,H',I',r',q',_⟩:=hq h' sb;⟨v,H',I',r',q'⟩⟩
 obtain⟨f0,f1,f2,f3⟩:=f2 b hb
 exact⟨by rw[zp (ne_of_lt (hlt b hb))];exact f0,f1,f2,f3⟩
theorem UH{i:Nat}{y:Str}{py spos:Pos}(hN:X.N.Nodup)(hiN:X.N[i]?=some y)(hy:X.env.scope.names.lookup y=some .local)
  (hsw:swapsWith (.ListComp elt [⟨tg,iter,ifs,0⟩] scope pos) (some (.Name y py)) spos.line X.env=pure true)
  (S:xB X scope) (hc:X.calm=true) (hl:∀σ:St,σ.length=X.N.length→(s0 σ).length=N'.length)
  (hσ:∀(σ:St) (i:Nat) (v:V),(s0 σ)[i]?=some (some v)→∃(x:Str) (j:Nat),N'[i]?=some x∧X.N[j]?=some x∧σ[j]?=some (some v)∧scope.names.lookup x=some .free)
  (hi:PI X tg iter wi) (hg:∀s H C fp,PG (X.comp scope N' s H C fp) tg g) (ht:∀s H C fp,PTs (X.comp scope N' s H C fp) ifs ti) (he:∀s H C fp,PE (X.comp scope N' s H C fp) elt te)
  (hs:∀x,foldedSetIterable iter X.env x=pure x:=by intro _;rfl):PS X (.Assign [.Name y py] (.ListComp elt [⟨tg,iter,ifs,0⟩] scope pos) spos) (LB (Uw s0 wi g ti te) (jG i)):=by
 intro pins s σ H D I h
 rw[exec_Assign_Name_used _ _ _ _ hsw]
 refine wpAny_bind (wpAny_standAt (wpAny_bind ?_))
 show wpAny _ X.A (do let _ ← comprehension (.ListComp elt [⟨tg,iter,ifs,0⟩] scope pos) scope X.env _ (newList []) false (eval iter X.env) (some (assign (.Name y py) X.env))) _ _ s
 have hclos:=vx (scope:=scope) (env:=X.env) fun y hy hk=>Option.isSome_iff_exists.mpr (I.ok.has y.1 (S.free y hy hk))
 refine wpAny_bind (wpAny_mono (wpAny_comprehension_free (use:=some (assign (.Name y py) X.env)) (Q:=fun _ s'=>SP X pins D .next s') rfl hs hclos S.kind S.locs
  (thn (hi pins s σ H _ I h) fun x s1 h1=>thn h1 fun itv s2 h2=>?_)) (fun _ s' hq=>wpAny_pure (wpAny_pure hq)) fun _ _ e=>e)
 obtain⟨it,fp,tn,J,H2,e,I2,T,st2,f2,hw⟩:=h2
 subst e
 have hf:H2 s2.heap.objs.size=none:=I2.hok.fresh (le_refl _)
 obtain⟨W,⟨m0,w0⟩,turn⟩:=hw _ hf
 have hlt:=Ln (pins:=pins) (σ:=σ) (H:=H2) T st2
 refine wpAny_newObj_type ?_
 have I3:Inv X pins σ (upd H2 s2.heap.objs.size (.lst [])) { s2 with heap:=s2.heap.push { cls:=.type "list", dict:=none,data:=.seq ([]:List Value).toArray } }:=
  I2.laid (t':=s2.toks) (o:=.lst []) (fun b u e=>Heap.get?_push_of_some _ e) (le_refl _) ⟨zero_le _,[],0,.nil,Heap.get?_push_size _ rfl⟩
 have hsz:s2.heap.objs.size<(s2.heap.push { cls:=.type "list", dict:=none,data:=.seq ([]:List Value).toArray }).objs.size:=by rw[Heap.size_push];exact lt_succ_self _
 refine YK (s0:=s0) (QQ:=fun x H1=>jG i x σ H1 D.nx) (W:=W) (m0:=m0) S hc (hl σ I2.len) (hσ σ) hg ht he I3 T (T.keep _ _ _ st2 fun b hb o e=>Heap.get?_push_of_some _ e) (fun b hb=>?_) (fun b hb=>Nat.lt_trans (hlt b hb) hsz) hsz w0 turn fun s' ⟨m,hn⟩ hq=>?_
 ·obtain⟨f0,f1,f2,f3⟩:=f2 b hb
  exact⟨by rw[zp (ne_of_lt (hlt b hb))];exact f0,f1,f2,f3⟩
 ·obtain⟨v,H5,I5,r5,q5,hC⟩:=hq s'.heap (.refl ..)
  have I5:Inv X pins σ H5 s':=I5
  show wpAny _ X.A (assign (.Name y py) X.env _) _ _ s'
  refine wpAny_assign_Name (Xd I5 hN hiN (.inl hy) r5 (fun s6 I6 ⟨a,sb,ha⟩=>?_) (.inr hy))
  have lt3:=I3.lt
  have ca:∀x c,X.env.cells.lookup x=some c→c<(s2.heap.push { cls:=.type "list", dict:=none,data:=.seq ([]:List Value).toArray }).objs.size:=fun x c e=>by
   obtain⟨v,z⟩:=I3.cell x c e
   exact z.lt
  have hne:(s2.heap.push { cls:=.type "list", dict:=none,data:=.seq ([]:List Value).toArray }).objs.size≠a:=by
   rcases ha with rfl|ha
   ·exact ne_of_gt lt3
   ·exact ne_of_gt (ca _ _ ha)
  refine⟨m,hn.sameBut sb hne,fun h' sb'=>⟨_,H5,?_,q5⟩⟩
  refine I6.turned (t':=s6.toks) (it:=(s2.heap.push { cls:=.type "list", dict:=none,data:=.seq ([]:List Value).toArray }).objs.size) (fun b o hb e=>(sb'.2 b hb).trans e) hC (ne_of_gt lt3) (.inr I3.sz) (fun x c e=>ne_of_lt (ca x c e)) fun p hp=>?_
  exact ne_of_lt (Heap.lt_size (I3.pin p hp).1)
end
def vE(set:FG)(ft:FT)(fe:FE)(τ:DS):List D→Rs (List D)
 |[]=>.ok []
 |d::r=>match set d τ with
  |.ok τ1=>match ft τ1 with
   |.ok true=>match fe τ1 with
    |.ok x=>(vE set ft fe τ r).bind fun xs=>.ok (x::xs)
    |_=>.no
   |.ok false=>vE set ft fe τ r
   |_=>.no
  |_=>.no
def jg:Option (Option Sl)→Option Sl
 | some (some (.val d))=>some (.val d)
 | some (some (.obr c fs))=>some (.obr c fs)
 | some (some (.obj _ c fs))=>some (.obr c fs)
 |_=>none
def vc(k:Nat)(idx:List Nat)(τ:DS):DS:=List.replicate k none++idx.map fun j=>jg τ[j]?
def vd(k:Nat)(idx:List Nat)(σ:St):St:=List.replicate k none++idx.map fun j=>(σ[j]?).join
def yu(k:Nat)(idx:List Nat)(fi:FA)(set:FG)(ft:FT)(fe:FE):FA:=fun τ=>(fi τ).bind fun ds=>match vE set ft fe (vc k idx τ) ds with
 |.ok xs=>if xs.length≤sizeLine then .ok xs else .no
 |_=>.no
def uK(τ:DS):Prop:=(∀(i:Nat) es,τ[i]?≠some (some (.own es)))∧∀(i n:Nat) c fs,τ[i]?≠some (some (.obj n c fs))
structure XH(set:FG):Prop where
 ov:∀d e τ τ1,set e τ=.ok τ1→set d τ1=set d τ
 no:∀d τ τ1,set d τ=.ok τ1→uK τ→uK τ1
theorem Za{τ:DS}{i:Nat}{d:D}(h:uK τ):uK (τ.set i (some (.val d))):=⟨fun j es e=>by
 by_cases hij:i=j
 ·subst hij
  rw[getElem?_set] at e
  simp only[if_true] at e
  split at e <;> cases e
 ·rw[getElem?_set_ne hij] at e;exact h.1 j es e,fun j n c fs e=>h.2 j n c fs (yI (s:=some (.val d)) rfl rfl e).2⟩
theorem yN(i:Nat):XH (gNm i):=⟨fun d e τ τ1 h=>by
 unfold gNm at h ⊢;cases h;rw[set_set],fun d τ τ1 h n=>by unfold gNm at h;cases h;exact Za n⟩
theorem Z9(i j:Nat):XH (gPr i j):=⟨fun d e τ τ1 h=>by
 unfold gPr at h ⊢
 cases q:Yk e with
 |none=>rw[q] at h;cases h
 |some xy=>
  obtain⟨x,y⟩:=xy
  rw[q] at h;cases h
  cases q2:Yk d with
  |none=>rfl
  |some zw=>
   obtain⟨z,w⟩:=zw
   by_cases hij:i=j
   ·subst hij;simp[set_set]
   ·have e1:((τ.set i (some (.val x))).set j (some (.val y))).set i (some (.val z))=(τ.set i (some (.val z))).set j (some (.val y)):=by
     rw[List.set_comm _ _ (Ne.symm hij),set_set]
    simp only
    rw[e1,set_set]
    , fun d τ τ1 h n=>by
 unfold gPr at h
 cases q:Yk d with
 |none=>rw[q] at h;cases h
 |some xy=>
  obtain⟨x,y⟩:=xy
  rw[q] at h;cases h
  exact Za (Za n)⟩
theorem vO(k:Nat)(idx:List Nat)(τ:DS):∀(i:Nat) es,(vc k idx τ)[i]?≠some (some (.own es)):=fun i es e=>by
 unfold vc at e
 by_cases hi:i<k
 ·rw[getElem?_append_left (by simpa using hi),getElem?_replicate] at e
  simp[hi] at e
 ·rw[getElem?_append_right (by simpa using hi),getElem?_map] at e
  cases q:idx[i-(List.replicate k (none:Option Sl)).length]? with
  |none=>rw[q] at e;cases e
  |some j=>
   rw[q] at e
   simp only[Option.map_some,Option.some.injEq] at e
   unfold jg at e
   split at e <;> cases e
theorem uZ(k:Nat)(idx:List Nat)(τ:DS):∀(i n:Nat) c fs,(vc k idx τ)[i]?≠some (some (.obj n c fs)):=fun i n c fs e=>by
 unfold vc at e
 by_cases hi:i<k
 ·rw[getElem?_append_left (by simpa using hi),getElem?_replicate] at e
  simp[hi] at e
 ·rw[getElem?_append_right (by simpa using hi),getElem?_map] at e
  cases q:idx[i-(List.replicate k (none:Option Sl)).length]? with
  |none=>rw[q] at e;cases e
  |some j=>
   rw[q] at e
   simp only[Option.map_some,Option.some.injEq] at e
   unfold jg at e
   split at e <;> cases e
theorem vP(k:Nat)(idx:List Nat)(τ:DS):uK (vc k idx τ):=⟨vO k idx τ,uZ k idx τ⟩
theorem Gb{k:Nat}{idx:List Nat}{τ:DS}{i:Nat}{c:Str}{fs:List (Str×D)}(e:(vc k idx τ)[i]?=some (some (.obr c fs))):∃j,k≤i∧idx[i-k]?=some j∧((∃n,τ[j]?=some (some (.obj n c fs)))∨τ[j]?=some (some (.obr c fs))):=by
 unfold vc at e
 by_cases hi:i<k
 ·rw[getElem?_append_left (by simpa using hi),getElem?_replicate] at e
  simp[hi] at e
 ·rw[getElem?_append_right (by simpa using hi),getElem?_map] at e
  simp only[List.length_replicate] at e
  cases q:idx[i-k]? with
  |none=>rw[q] at e;cases e
  |some j=>
   rw[q] at e
   simp only[Option.map_some,Option.some.injEq] at e
   unfold jg at e
   split at e <;> cases e
   ·exact⟨j,by omega,rfl,.inr (by assumption)⟩
   ·exact⟨j,by omega,rfl,.inl ⟨_,by assumption⟩⟩
theorem ObsOk.read{K:PySem.W.Frag}{F H:Hp}{τ:DS}{σ:St}(n:uK τ)(h:∀(i:Nat) (c:Str) (fs:List (Str×D)),τ[i]?=some (some (.obr c fs))→∃a C dx vs,σ[i]?=some (some (.ref a))∧H a=some (.ins C dx vs)∧nsIn K mainGlobals c=some (some (.ref C))∧Flds K F H c fs vs):ObsOk K F τ σ H:=
 ⟨fun i m c fs h=>absurd h (n.2 i m c fs),fun i j m c c' fs a _ h=>absurd h (n.2 i m c fs),h,fun i j m c c' fs a a' l _ h=>absurd h (n.2 i m c fs),fun i j c ds a l _ h=>absurd h (n.1 j ds)⟩
theorem RV.free_upd{K:PySem.W.Frag}{F H:Hp}{τ:DS}{σ:St}{p:Addr}{o:HO}(R:RV K F τ σ H)(n:uK τ)(hp:F p=none)(hl:H p=none∨∃vs,H p=some (.lst vs))(hq:∀(i:Nat) (c:Str) (a:Addr),ObS τ[i]? c→σ[i]?=some (some (.ref a))→p∉Lof H c a)(ho:∀a,o≠.own a:=by intro _ h;cases h):RV K F τ σ (upd H p o):=
 ⟨fun b u e=>by
  have:b≠p:=fun z=>by subst z;rw[hp] at e;cases e
  rw[zp this];exact R.fh b u e,R.len,R.val,fun i es e=>absurd e (n.1 i es),fun i j ds es a _ h=>absurd h (n.1 i ds),R.tt.step (fun _ _ e=>.inl e) (fun b o e n=>by
  have:b≠p:=fun z=>by
   subst z
   rcases hl with z|⟨vs,z⟩
   ·rw[z] at e;cases e
   ·rw[z] at e;cases e;exact n _ rfl
  rw[zp this];exact e) (j9 ho),R.ob.updL hl hq⟩
theorem RS.apart{K:PySem.W.Frag}{B Z F H:Hp}{τ:DS}{σ:St}{p:Addr}(R:RS K B Z F τ σ H)(n:uK τ)(hp:B p=none):∀(i:Nat) (c:Str) (a:Addr),ObS τ[i]? c→σ[i]?=some (some (.ref a))→p∉Lof H c a:=fun i c a h e hm=>by
 rcases h with ⟨m,fs,h⟩|⟨fs,h⟩
 ·exact n.2 i m c fs h
 ·obtain⟨C,dx,vs,h1,h2⟩:=R.ro i c fs a h e
  rw[Lof.ins (R.bh _ _ h1)] at hm
  obtain⟨ws,h3⟩:=h2 p hm
  rw[hp] at h3;cases h3
theorem RS.free_upd{K:PySem.W.Frag}{B Z F H:Hp}{τ:DS}{σ:St}{p:Addr}{vs:List V}(R:RS K B Z F τ σ H)(n:uK τ)(hb:B p=none)(hp:F p=none)(hl:H p=none∨∃vs,H p=some (.lst vs)):RS K B Z F τ σ (upd H p (.lst vs)):=
 ⟨R.rv.free_upd n hp hl (R.apart n hb),fun a o e=>by
  have:a≠p:=fun z=>by subst z;rw[hb] at e;cases e
  rw[zp this];exact R.bh a o e,R.zf,R.nb,fun i ds a h=>absurd h (n.1 i ds),fun i m c fs a h=>absurd h (n.2 i m c fs),fun a0 dx h1 h2 i m c fs h=>absurd h (n.2 i (m+1) c fs),R.ro⟩
theorem XT{K:PySem.W.Frag}{F H:Hp}{τ:DS}{σ:St}(k:Nat)(idx:List Nat)(R:RV K F τ σ H):RV K F (vc k idx τ) (vd k idx σ) H:=by
 refine⟨R.fh,by simp[vc,vd],fun i d e=>?_,fun i es e=>absurd e (vO k idx τ i es),fun i j ds es a _ h=>absurd h (vO k idx τ i ds),R.tt,ObsOk.read (vP k idx τ) fun i c fs e=>?_⟩
 rotate_left
 ·obtain⟨j,hk,hj,h⟩:=Gb e
  have es:∀v,σ[j]?=some (some v)→(vd k idx σ)[i]?=some (some v):=fun v h=>by
   unfold vd
   rw[getElem?_append_right (by simpa using hk),getElem?_map]
   simp[hj,h]
  rcases h with ⟨n,h⟩|h
  ·obtain⟨a,h1,C,dx,vs,h2,_,h4,h5,_⟩:=R.ob.at_ j n c fs h
   exact⟨a,C,dx,vs,es _ h1,h2,h4,h5⟩
  ·obtain⟨a,C,dx,vs,h1,h2,h4,h5⟩:=R.ob.rd j c fs h
   exact⟨a,C,dx,vs,es _ h1,h2,h4,h5⟩
 unfold vc at e
 unfold vd
 by_cases hi:i<k
 ·rw[getElem?_append_left (by simpa using hi),getElem?_replicate] at e
  simp[hi] at e
 ·rw[getElem?_append_right (by simpa using hi),getElem?_map] at e
  rw[getElem?_append_right (by simpa using hi),getElem?_map]
  simp only[List.length_replicate] at e ⊢
  cases q:idx[i-k]? with
  |none=>rw[q] at e;cases e
  |some j=>
   rw[q] at e
   simp only[Option.map_some,Option.some.injEq] at e
   have:τ[j]?=some (some (.val d)):=by
    unfold jg at e
    split at e <;> cases e
    assumption
   obtain⟨v,h1,h2⟩:=R.val j d this
   exact⟨v,by simp[h1],h2⟩
theorem MD{K:PySem.W.Frag}{F H:Hp}{τ:DS}{σ:St}(k:Nat)(idx:List Nat)(R:RV K F τ σ H):RS K H F F (vc k idx τ) (vd k idx σ) H:=
 ⟨XT k idx R,Hh.refl H,Same.refl F,fun a o e=>.inl e,fun i ds a h=>absurd h (vO k idx τ i ds),fun i m c fs a h=>absurd h (uZ k idx τ i m c fs),fun a0 dx h1 h2 i m c fs h=>absurd h (uZ k idx τ i (m+1) c fs),fun i c fs a h e=>by
  obtain⟨a',C,dx,vs,h1,h2,_,h5⟩:=(XT k idx R).ob.rd i c fs h
  rw[e] at h1;cases h1
  exact⟨C,dx,vs,h2,fun l hl=>(h5.own hl).2⟩⟩
def wE(H:Hp)(p:Addr):Hp:=fun b=>if b=p then none else H b
theorem uf(H:Hp)(p:Addr):wE H p p=none:=by unfold wE;rw[if_pos rfl]
theorem Zh{H:Hp}{p b:Addr}(h:b≠p):wE H p b=H b:=by unfold wE;rw[if_neg h]
theorem Z3(H:Hp)(p:Addr)(o:HO):upd (wE H p) p o=upd H p o:=by
 funext b;unfold upd wE;split <;> rfl
theorem YI{F1 H1 F2 Hm F5 H5:Hp}{acc:Addr}{ls:List V}(a:Ext F1 H1 F2 Hm)(hm:Hm acc=none)(b:Ext F2 (upd Hm acc (.lst ls)) F5 H5):Ext F1 H1 F5 (wE H5 acc)∧F5 acc=none:=by
 have hf5:F5 acc=none:=by
  cases q:F5 acc with
  |none=>rfl
  |some o=>
   rcases b.nw acc o q with z|z
   ·rw[zU a.fh hm] at z;cases z
   ·rw[zt] at z;cases z
 have h1:H1 acc=none:=wU a.hh hm
 have ha:H5 acc=some (.lst ls):=b.hh acc _ zt
 refine⟨⟨a.ff.trans b.ff,fun c o e=>?_,fun c o e=>?_,fun c o e=>?_,fun t=>?_⟩,hf5⟩
 ·have n:c≠acc:=fun z=>by subst z;rw[h1] at e;cases e
  rw[Zh n]
  exact((a.hh.trans (.of (yj hm))).trans b.hh) c o e
 ·have n:c≠acc:=fun z=>by subst z;rw[hf5] at e;cases e
  rw[Zh n];exact b.fh c o e
 ·rcases b.nw c o e with z|z
  ·exact a.nw c o z
  ·have n:c≠acc:=fun z'=>by subst z';rw[zt] at z;cases z
   rw[zp n] at z
   exact .inr (wU a.hh z)
 ·have t2:=b.tt ((a.tt t).step (F':=F2) (H':=upd Hm acc (.lst ls)) (fun _ _ e=>.inl e) (fun c o e _=>by rw[zp (zP e hm)];exact e) (j9 fun _ z=>nomatch z))
  exact t2.step (fun _ _ e=>.inl e) (fun c o e n=>by
   have:c≠acc:=fun z=>by subst z;rw[ha] at e;cases e;exact n _ rfl
   rw[Zh this];exact e) fun d a e=>by
   unfold wE at e
   split at e
   ·cases e
   ·exact e
def FreeOk(scope:Scope)(N:List Str):List Str→List Nat→Prop
 |[],[]=>True
 |x::xs,j::js=>N[j]?=some x∧scope.names.lookup x=some .free∧FreeOk scope N xs js
 |_,_=>False
theorem FreeOk.len{scope:Scope}{N:List Str}:∀{xs:List Str} {js:List Nat},FreeOk scope N xs js→xs.length=js.length
 |[],[],_=>rfl
 |_::xs,_::js,h=>by rw[length_cons,length_cons,FreeOk.len h.2.2]
theorem FreeOk.get{scope:Scope}{N:List Str}:∀{xs:List Str} {js:List Nat} {p j:Nat},FreeOk scope N xs js→js[p]?=some j→∃x,xs[p]?=some x∧N[j]?=some x∧scope.names.lookup x=some .free
 |[],[],_,_,_,e=>by simp at e
 |x::xs,i::js,0,j,h,e=>by simp at e;subst e;exact⟨x,rfl,h.1,h.2.1⟩
 |x::xs,i::js,p+1,j,h,e=>by
  obtain⟨y,h1,h2⟩:=FreeOk.get (p:=p) h.2.2 (by simpa using e)
  exact⟨y,by simpa using h1,h2⟩
def vS(osc scope:Scope):Bool:=(match scope.kind with | .function=>true|_=>false)&&scope.names.all (fun y=>match y.2 with
 |.cell=>false
 |.local=>(match scope.names.lookup y.1 with|some .local=>true|_=>false)
 |.free=>(match osc.names.lookup y.1 with|some .cell=>true|some .free=>true|_=>false)
 |_=>true)
theorem wc{X:Cx}{scope:Scope}(h:vS X.env.scope scope=true):xB X scope:=by
 unfold vS at h
 rw[Bool.and_eq_true,List.all_eq_true] at h
 obtain⟨h1,h2⟩:=h
 refine⟨?_,fun y hy z=>?_,fun y hy z=>?_,fun y hy z=>?_⟩
 ·split at h1
  ·assumption
  ·cases h1
 ·have:=h2 y hy;rw[z] at this;cases this
 ·have:=h2 y hy;rw[z] at this
  simp only at this
  split at this
  ·assumption
  ·cases this
 ·have:=h2 y hy;rw[z] at this
  simp only at this
  split at this
  ·left;assumption
  ·right;assumption
  ·cases this
def Me(Y:Cx)(ifs:List Expr)(f:FT):Prop:=PTs Y ifs (tTs Y f)
theorem xJ{Y:Cx}:Me Y [] (fun _=>.ok true):=fun pins s σ H Q I ⟨F,τ,R,h⟩=>UF pins s σ H Q I (h F H (Ext.refl R.fh))
theorem wy{Y:Cx}{c:Expr}{f:FT}(h:PDT Y c f):Me Y [c] f:=MN h
section
variable{X:Cx}{scope:Scope}{tn fr:List Str}{idx:List Nat}{tg iter elt:Expr}{ifs:List Expr}{pos:Pos}{fi:FA}{set:FG}{ft:FT}{fe:FE}
theorem Zl(so:XH set){Y:Cx}(hK:Y.K=X.K)(σ:St)(H:Hp)(Q:VK)(h:tFr X (yu tn.length idx fi set ft fe) σ H Q):Uw (vd tn.length idx) (tI X fi) (tG Y set) (tTs Y ft) (tE Y fe) σ H Q:=by
 obtain⟨F,τ,R,h⟩:=h
 refine⟨F,τ,R,h.bind.imp fun ds gds J F1 H1 x io=>fun acc hacc=>?_⟩
 cases q:vE set ft fe (vc tn.length idx τ) ds with
 |no=>rw[q] at gds;exact gds.elim
 |ex c=>rw[q] at gds;exact gds.elim
 |ok xs=>
  rw[q] at gds
  obtain⟨hz,k⟩:=yz gds
  have R1:=R.ext x
  have hF1:F1 acc=none:=zU x.fh hacc
  refine⟨fun i m σ1 Hc=>m=ds.length-i∧i≤ds.length∧∃F2 Hm τ1 dn rs vs,Ext F1 H1 F2 Hm∧Hm acc=none∧Hc=upd Hm acc (.lst vs)∧Reps X.K F2 dn vs∧RS X.K H1 F1 F2 τ1 σ1 Hc∧uK τ1∧(∀d,set d τ1=set d (vc tn.length idx τ)) ∧
   vE set ft fe (vc tn.length idx τ) (ds.drop i)=.ok rs∧xs=dn++rs,⟨ds.length,by simp,zero_le _,F1,H1,_,[],xs,[],Ext.refl x.fh,hacc,rfl,Reps.nil,?_,vP _ _ _,fun _=>rfl,q,rfl⟩,?_⟩
  ·exact(MD tn.length idx R1).free_upd (vP _ _ _) hacc hF1 (.inl hacc)
  rintro i m σ1 Hc ⟨rfl,hi,F2,Hm,τ1,dn,rs,vs,x2,hm,rfl,r2,R2,n2,so2,cl,ex⟩
  obtain⟨i1,i2⟩:=io i F2 _ x2.ff R2.rv.fh
  by_cases hlt:i<ds.length
  ·have hd:ds.drop i=ds[i]::ds.drop (i+1):=drop_eq_getElem_cons hlt
   rw[hd,vE] at cl
   obtain⟨go,yl⟩:=i2 ds[i] (by simp[hlt])
   refine .inr ⟨go,fun y H' yy=>?_⟩
   obtain⟨F3,x3,r3⟩:=yl y H' yy
   refine⟨F3,τ1,ds[i],by rw[hK];exact(R2.ext x3).rv,by rw[hK];exact r3,?_⟩
   rw[so2]
   cases e1:set ds[i] (vc tn.length idx τ) with
   |no=>rw[e1] at cl;cases cl
   |ex c=>rw[e1] at cl;cases cl
   |ok τ2=>
    rw[e1] at cl
    simp only at cl
    intro σ2 _ RR _
    rw[hK] at RR
    have RR:=RR _ _ (R2.ext x3)
    have n3:=so.no _ _ _ e1 (vP _ _ _)
    have so3:∀d,set d τ2=set d (vc tn.length idx τ):=fun d=>so.ov d _ _ _ e1
    cases e2:ft τ2 with
    |no=>rw[e2] at cl;cases cl
    |ex c=>rw[e2] at cl;cases cl
    |ok b=>
     rw[e2] at cl
     refine⟨F3,τ2,by rw[hK];exact RR.rv,?_⟩
     rw[e2]
     intro F4 H4 x4
     have x34:=x3.trans x4
     cases b with
     |false=>
      simp only at cl
      rw[if_neg (by simp)]
      obtain⟨y1,y2⟩:=YI x2 hm x34
      have ha:H4 acc=some (.lst vs):=x34.hh acc _ zt
      have eH:H4=upd (wE H4 acc) acc (.lst vs):=by
       rw[Z3];funext b;unfold upd;split
       ·rename_i z;subst z;exact ha
       ·rfl
      refine⟨ds.length-(i+1),by omega,rfl,hlt,F4,wE H4 acc,τ2,dn,rs,vs,y1,uf _ _,eH,r2.mono x34.ff,RR.ext x4,n3,so3,cl,ex⟩
     |true=>
      simp only at cl
      rw[if_pos rfl]
      cases e3:fe τ2 with
      |no=>rw[e3] at cl;cases cl
      |ex c=>rw[e3] at cl;cases cl
      |ok z=>
       rw[e3] at cl
       simp only at cl
       cases e4:vE set ft fe (vc tn.length idx τ) (ds.drop (i+1)) with
       |no=>rw[e4] at cl;cases cl
       |ex c=>rw[e4] at cl;cases cl
       |ok rs'=>
        rw[e4] at cl
        have ers:z::rs'=rs:=by simpa using cl
        refine⟨F4,τ2,by rw[hK];exact(RR.ext x4).rv,?_⟩
        rw[e3]
        intro v F5 H5 x5 r5
        rw[hK] at r5
        have x35:=x34.trans x5
        obtain⟨y1,y2⟩:=YI x2 hm x35
        refine⟨vs,x35.hh acc _ zt,?_,ds.length-(i+1),by omega,rfl,hlt,F5,wE H5 acc,τ2,dn++[z],rs',vs++[v],y1,uf _ _,by rw[Z3],(r2.mono x35.ff).append (Reps.cons r5 Reps.nil),?_,n3,so3,e4,?_⟩
        ·have:=congrArg List.length ex
         rw[← ers,length_append,length_cons,r2.length] at this
         omega
        ·exact((RR.ext x4).ext x5).free_upd n3 hacc y2 (.inr ⟨_,x35.hh acc _ zt⟩)
        ·rw[ex,← ers,append_assoc];rfl
  ·have e:i=ds.length:=by omega
   subst e
   rw[List.drop_length,vE] at cl
   cases cl
   rw[append_nil] at ex
   subst ex
   exact .inl ⟨i1 (le_refl _),k acc vs F2 Hm (x.trans x2) hm r2⟩
theorem jk(hfr:FreeOk scope X.N fr idx)(σ:St)(i:Nat)(v:V)(h:(vd tn.length idx σ)[i]?=some (some v)):∃(x:Str) (j:Nat),(tn++fr)[i]?=some x∧X.N[j]?=some x∧σ[j]?=some (some v)∧scope.names.lookup x=some .free:=by
 unfold vd at h
 by_cases hi:i<tn.length
 ·rw[getElem?_append_left (by simpa using hi),getElem?_replicate] at h
  simp[hi] at h
 ·rw[getElem?_append_right (by simpa using hi),getElem?_map] at h
  simp only[List.length_replicate] at h
  cases q:idx[i-tn.length]? with
  |none=>rw[q] at h;cases h
  |some j=>
   rw[q] at h
   simp only[Option.map_some,Option.some.injEq] at h
   obtain⟨x,h1,h2,h3⟩:=hfr.get q
   refine⟨x,j,by rw[getElem?_append_right (by omega)];exact h1,h2,?_,h3⟩
   cases z:σ[j]? with
   |none=>rw[z] at h;cases h
   |some o=>rw[z] at h;simp at h;rw[h]
theorem yX(hb:vS X.env.scope scope=true)(hc:X.calm=true)(hfr:FreeOk scope X.N fr idx)(so:XH set)(hi:PDI X tg iter fi)
  (hg:∀s H C fp,PDG (X.comp scope (tn++fr) s H C fp) tg set) (ht:∀s H C fp,Me (X.comp scope (tn++fr) s H C fp) ifs ft) (he:∀s H C fp,PDE (X.comp scope (tn++fr) s H C fp) elt fe)
  (hs:∀x,foldedSetIterable iter X.env x=pure x:=by intro _;rfl):PDF X (.ListComp elt [⟨tg,iter,ifs,0⟩] scope pos) (yu tn.length idx fi set ft fe):=
 PE.imp (UL (s0:=vd tn.length idx) (g:=tG (X.comp scope (tn++fr) X.s₀ X.H₀ 0 []) set) (ti:=tTs (X.comp scope (tn++fr) X.s₀ X.H₀ 0 []) ft) (te:=tE (X.comp scope (tn++fr) X.s₀ X.H₀ 0 []) fe)
  (wc hb) hc (fun σ _=>by simp[vd,hfr.len]) (jk hfr) hi hg ht he hs) (Zl so rfl)
theorem Yi{i:Nat}{y:Str}{py spos:Pos}(hN:X.N.Nodup)(hiN:X.N[i]?=some y)(hy:X.env.scope.names.lookup y=some .local)
  (hsw:swapsWith (.ListComp elt [⟨tg,iter,ifs,0⟩] scope pos) (some (.Name y py)) spos.line X.env=pure true)
  (hb:vS X.env.scope scope=true) (hc:X.calm=true) (hfr:FreeOk scope X.N fr idx) (so:XH set) (hi:PDI X tg iter fi)
  (hg:∀s H C fp,PDG (X.comp scope (tn++fr) s H C fp) tg set) (ht:∀s H C fp,Me (X.comp scope (tn++fr) s H C fp) ifs ft) (he:∀s H C fp,PDE (X.comp scope (tn++fr) s H C fp) elt fe)
  (hs:∀x,foldedSetIterable iter X.env x=pure x:=by intro _;rfl):PDS X (.Assign [.Name y py] (.ListComp elt [⟨tg,iter,ifs,0⟩] scope pos) spos) (yo i fun τ=>(yu tn.length idx fi set ft fe τ).bind fun ds=>.ok (.lst ds)):=
 PS.imp (UH (s0:=vd tn.length idx) (g:=tG (X.comp scope (tn++fr) X.s₀ X.H₀ 0 []) set) (ti:=tTs (X.comp scope (tn++fr) X.s₀ X.H₀ 0 []) ft) (te:=tE (X.comp scope (tn++fr) X.s₀ X.H₀ 0 []) fe) hN hiN hy hsw
  (wc hb) hc (fun σ _=>by simp[vd,hfr.len]) (jk hfr) hi hg ht he hs) fun E σ H ⟨B,Z,F,τ,R,h⟩=>by
  refine Zl (X:=X) (tn:=tn) (idx:=idx) (fi:=fi) (ft:=ft) (fe:=fe) so (Y:=X.comp scope (tn++fr) X.s₀ X.H₀ 0 []) rfl σ H (fun x H1=>jG i x σ H1 E.nx) ⟨F,τ,R.rv,?_⟩
  have h':=h.of.bind
  refine h'.imp fun ds g p vs F1 H1 x hp r=>?_
  have x2:=x.trans (Ext.new (o:=.lst vs) x.fh hp)
  refine g _ _ _ x2.ff ((R.ext x2).set ?_)
  simp only[Rep]
  exact⟨p,vs,rfl,zt,r.mono (yj (zU x.fh hp))⟩
theorem JD{i:Nat}{y:Str}{py spos:Pos}(hN:X.N.Nodup)(hiN:X.N[i]?=some y)(hy:X.env.scope.names.lookup y=some .local)
  (hsw:swapsWith (.ListComp elt [⟨tg,iter,ifs,0⟩] scope pos) (some (.Name y py)) spos.line X.env=pure true)
  (hb:vS X.env.scope scope=true) (hc:X.calm=true) (hfr:FreeOk scope X.N fr idx) (so:XH set) (hi:PDI X tg iter fi)
  (hg:∀s H C fp,PDG (X.comp scope (tn++fr) s H C fp) tg set) (ht:∀s H C fp,Me (X.comp scope (tn++fr) s H C fp) ifs ft) (he:∀s H C fp,PDE (X.comp scope (tn++fr) s H C fp) elt fe)
  (hs:∀x,foldedSetIterable iter X.env x=pure x:=by intro _;rfl):PDS X (.Assign [.Name y py] (.ListComp elt [⟨tg,iter,ifs,0⟩] scope pos) spos) (vy i (yu tn.length idx fi set ft fe)):=
 PS.imp (UH (s0:=vd tn.length idx) (g:=tG (X.comp scope (tn++fr) X.s₀ X.H₀ 0 []) set) (ti:=tTs (X.comp scope (tn++fr) X.s₀ X.H₀ 0 []) ft) (te:=tE (X.comp scope (tn++fr) X.s₀ X.H₀ 0 []) fe) hN hiN hy hsw
  (wc hb) hc (fun σ _=>by simp[vd,hfr.len]) (jk hfr) hi hg ht he hs) fun E σ H ⟨B,Z,F,τ,R,h⟩=>by
  refine Zl (X:=X) (tn:=tn) (idx:=idx) (fi:=fi) (ft:=ft) (fe:=fe) so (Y:=X.comp scope (tn++fr) X.s₀ X.H₀ 0 []) rfl σ H (fun x H1=>jG i x σ H1 E.nx) ⟨F,τ,R.rv,?_⟩
  exact h.of.imp fun ds g p vs F1 H1 x hp r=>g _ F1 _ x.ff ((R.ext x).setO hp r)
end
section
variable{prog:Program}{w:World}{A:Around}{E:Value→Shared→Prop}{s:Shared}{z TI TO i1 i2:Addr}{n1 n2:Nat}{P1 P2:Nat→Value→Prop}{st1 st2:Nat→Heap→Prop}{rd1 rd2:Heap→Prop}
end
theorem Mj{X:Cx}{pins:List (Addr×Obj)}{σ:St}{H:Hp}{s:Shared}{h':Heap}{t':Nat}{ch:List Addr}{p:Addr}{xs:List V}{its:List Value}(I:Inv X pins σ H s)(k:∀b o,b∉ch→s.heap.get? b=some o→h'.get? b=some o)(hf:∀b∈ch,Y6 X pins H b)
  (hp:s.heap.objs.size≤p) (ht:IsTup h' p its.toArray) (hv:Vals xs its) (hz:xs.length≤sizeLine) :
  Inv X pins σ (upd H p (.tup xs)) { s with heap:=h',toks:=t' }:=by
 have hn:H p=none:=I.hok.fresh hp
 have lt:∀{b:Addr} {o:Obj},s.heap.get? b=some o→b≠p:=fun e=>ne_of_lt (lt_of_lt_of_le (Heap.lt_size e) hp)
 refine I.step (g':=s.gens) (d':=s.drawn) (ch:=ch) (fun b hb=>?_) (fun b o _ _ hc e _=>k b o hc e) (fun b o _ _ hc e _=>⟨o.slots,k b o hc e⟩) (fun b o _ e n=>by rw[zp (lt e)];exact n)
  (fun b o hc e=>⟨o,k b o hc e⟩) (fun b ys e=>by rw[zp (zP e hn)];exact e) (fun b o u e=>by rw[zp (zP e hn)];exact e) (fun b ps e=>⟨#[],by rw[zp (zP e hn),e];simp⟩) (fun m hm=>?_) (fun b u e=>?_) I.bare
 ·obtain⟨f0,f1,f2,f3,f4,f5⟩:=hf b hb
  exact⟨f3,f1,f4,f5⟩
 ·obtain⟨o,es,ep,ho,r⟩:=hm
  exact⟨o,es,ep,k _ o (fun z=>(hf _ z).2.1 rfl) ho,r⟩
 ·by_cases hb:b=p
  ·subst hb;rw[zt] at e;cases e
   exact⟨hz,its,hv,ht⟩
  ·rw[zp hb] at e
   refine(I.hok b u e).stay (fun c v hc q=>k c v ?_ q) (fun c q=>by rw[zp (zP q hn)];exact q) fun c ys q=>by rw[zp (zP q hn)];exact q
   intro z
   rcases hc with q|q
   ·subst q;rw[(hf c z).1] at e;cases e
   ·rw[(hf c z).1] at q;cases q
def yf(c:Nat):D:=.str ⟨#[c]⟩
def Z8(x:Str):List D:=x.cps.toList.map yf
def Its(x:Str):It:=⟨fun i _=>i<x.cps.size,fun i H y H'=>H'=H∧∃c,x.cps[i]?=some c∧y=.str ⟨#[c]⟩,fun i _=>x.cps.size≤i⟩
theorem Qp{P:Program}{w:World}{K:PySem.W.Frag}{tg:Expr}{it:Addr}{x:Str}{t:Tok}{ty:String}(hty:ty = "str_ascii_iterator" ∨ ty = "str_iterator"):Ws P w K tg (Its x) [it] it (fun k h=>h.IsStrIter it ty x t k) where
 mem:=by simp
 obj:=fun i h ⟨o,e,c,d⟩ b hb=>by
  have z:b=it:=by simpa using hb
  subst z
  exact⟨o,e,fun v z=>by rw[d] at z;cases z⟩
 keep:=fun i h h' ⟨o,e,r⟩ k=>⟨o,k it (by simp) o e,r⟩
 item:=by
  intro X hP hw hK hc i pins s σ H E I hf st hg
  subst hP hw hK
  obtain⟨f0,f1,f2,f3,f4,f5⟩:=hf it (by simp)
  have hh:X.A.handled=none:=I.ok.hd hc
  have W:Walks X.prog X.w X.A it [it] [it] x.cps.size (SignAt x) (fun i h=>h.IsStrIter it ty x t i):=by
   rcases hty with rfl|rfl
   ·exact Walks.strAscii hh it x t
   ·exact Walks.strWide hh it x t
  refine W.item i s _ _ hg st fun v h' tk hv st' kk=>?_
  obtain⟨c,u,ec,rfl⟩:=hv
  have I1:Inv X pins σ H { s with heap:=h',toks:=tk }:=I.turned (fun b o hb e=>kk b o (by simpa using hb) e) f0 f1 f3 f4 f5
  obtain⟨o,e,cc,d⟩:=id st'
  exact⟨_,rfl,Vi (s:={ s with heap:=h',toks:=tk }) e cc d (by rcases hty with rfl|rfl <;> decide) ⟨.str ⟨#[c]⟩,H,I1,⟨u,rfl⟩,⟨rfl,c,ec,rfl⟩,st',fun b hb=>(hf b hb).1⟩⟩
 done:=by
  intro X hP hw hK hc i pins s σ H E I hf st hg
  subst hP hw hK
  obtain⟨f0,f1,f2,f3,f4,f5⟩:=hf it (by simp)
  have hh:X.A.handled=none:=I.ok.hd hc
  have hx:x.cps[i]?=none:=by have:x.cps.size≤i:=hg;simp;omega
  rcases hty with rfl|rfl
  ·exact wpAny_pyNext_ascii_end hh st hx fun h' eb=>⟨rfl,I.turned (t':=s.toks) (fun b o hb e=>eb b o hb e) f0 f1 f3 f4 f5⟩
  ·exact wpAny_pyNext_wide_end hh st hx fun h' eb=>⟨rfl,I.turned (t':=s.toks) (fun b o hb e=>eb b o hb e) f0 f1 f3 f4 f5⟩
 self:=fun _ _ _ _ _ st h=>by
  rcases hty with rfl|rfl
  ·exact wpAny_pyIter_striter_ascii st h
  ·exact wpAny_pyIter_striter_wide st h
section
variable{X:Cx}{pos:Pos}{e tg:Expr}{es:List Expr}{fe:FE}{fs:FA}
theorem zb9{K:PySem.W.Frag}{F1:Hp}{x:Str}:Uq K (Its x) F1 (Z8 x):=fun i F H f1 f2=>by
 have hl:(Z8 x).length=x.cps.size:=by simp[Z8]
 refine⟨fun h=>by rw[hl] at h;exact h,fun d hd=>?_⟩
 have hi:i<x.cps.size:=by have:=(List.getElem?_eq_some_iff.mp hd).1;rw[hl] at this;exact this
 refine⟨hi,fun y H' yy=>?_⟩
 obtain⟨e1,c,ec,rfl⟩:=yy
 subst e1
 refine⟨F,Ext.refl f2,?_⟩
 have:d=yf c:=by
  simp only[Z8,getElem?_map] at hd
  have e2:x.cps.toList[i]?=some c:=by simpa using ec
  rw[e2] at hd
  exact(Option.some.inj hd).symm
 subst this
 simp only[yf,Rep]
def Itd(hi:Int)(n:Nat):It:=⟨fun i _=>i<n,fun i H x H'=>H'=H∧x=.int (hi-i),fun i _=>n≤i⟩
theorem Wu{P:Program}{w:World}{K:PySem.W.Frag}{tg:Expr}(it:Addr)(hi:Int)(n:Nat):Ws P w K tg (Itd hi n) [it] it (fun i h=>IsRangeIter h it (hi+(i:Nat)*(-1)) ((n:Int)-(i:Nat)) (-1)) where
 mem:=by simp
 obj:=fun i h st b hb=>by
  have e:b=it:=by simpa using hb
  subst e
  exact⟨_,st,fun v z=>by
   have z':Data.fields _=Data.cell v:=z
   cases z'⟩
 keep:=fun i h h' st k=>k it (by simp) _ st
 item:=by
  intro X hP hw hK hc i pins s σ H E I hf st hg
  subst hP hw hK
  obtain⟨f0,f1,f2,f3,f4,f5⟩:=hf it (by simp)
  have W:=Walks.range (prog:=X.prog) (w:=X.w) (I.ok.hd hc) it hi (-1) n
  refine W.item i s _ _ hg st fun v h' tk hv st' kk=>?_
  obtain⟨t,rfl⟩:=hv
  have I1:Inv X pins σ H { s with heap:=h',toks:=tk }:=I.turned (fun b o hb e=>kk b o (by simpa using hb) e) f0 f1 f3 f4 f5
  refine⟨_,rfl,Vi (s:={ s with heap:=h',toks:=tk }) (n := "range_iterator") st' rfl rfl (by decide) ⟨.int (hi-i),H,I1,⟨t,?_⟩,⟨rfl,rfl⟩,st',fun b hb=>(hf b hb).1⟩⟩
  congr 1
  omega
 done:=by
  intro X hP hw hK hc i pins s σ H E I hf st hg
  subst hP hw hK
  obtain⟨f0,f1,f2,f3,f4,f5⟩:=hf it (by simp)
  exact wpAny_pyNext_range_end (I.ok.hd hc) st (by have:n≤i:=hg;omega) fun h' eb=>⟨rfl,I.turned (t':=s.toks) (fun b o hb e=>eb b o hb e) f0 f1 f3 f4 f5⟩
 self:=fun _ _ _ _ _ st h=>wpAny_pyIter_rangeiter st h
end
section
variable{X:Cx}{pos:Pos}{e tg:Expr}{es:List Expr}{fe:FE}{fs:FA}
def len1:D→Rs D
 |.lst ds=>.ok (.int ds.length)
 |.tup ds=>.ok (.int ds.length)
 |.scr ns=>.ok (.int ns.length)
 |.str x=>if x.length≤sizeLine then .ok (.int x.length) else .no
 |_=>.no
def y7:List D→Rs D
 |[d]=>len1 d
 |_=>.no
theorem xL:XI X (.builtin "len") y7:=⟨_,call_len_seq.or Wm,fun F H vs ds Q fh r h=>by
 match ds,r,h with
 |[d],r,h=>
  obtain⟨v,rfl,q⟩:=r.one
  cases d with
  |lst ds=>
   simp only[Rep] at q;obtain⟨a,ws,rfl,e1,t⟩:=q
   refine .inl ⟨a,ws,rfl,.inl (SqL.of (fh _ _ e1)),?_⟩
   rw[← t.length];exact h _ F H (Ext.refl fh) (by simp only[Rep])
  |tup ds=>
   simp only[Rep] at q;obtain⟨a,ws,rfl,e1,t⟩:=q
   refine .inl ⟨a,ws,rfl,.inr (Same.seqT fh e1),?_⟩
   rw[← t.length];exact h _ F H (Ext.refl fh) (by simp only[Rep])
  |scr ns=>
   simp only[Rep] at q;obtain⟨a,rfl,e1⟩:=q
   refine .inl ⟨a,_,rfl,.inl (fh.seq e1),?_⟩
   rw[length_map];exact h _ F H (Ext.refl fh) (by simp only[Rep])
  |str x=>
   simp only[Rep] at q;subst q
   obtain⟨z,h⟩:=yz h
   exact .inr ⟨x,rfl,z,h _ F H (Ext.refl fh) (by simp only[Rep])⟩
  |_=>exact h.elim
 |[],_,h=>exact h.elim
 |_::_::_,_,h=>exact(show False from h).elim⟩
def jy(ds:List D):Rs D:=match V6 ds with
 | some (i,j)=>.ok (.int (if j<i then j else i))
 |none=>.no
def Yq(ds:List D):Rs D:=match V6 ds with
 | some (i,j)=>.ok (.int (if j > i then j else i))
 |none=>.no
theorem Wl(hc:X.calm=true):XI X (.builtin "min") jy:=⟨_,Qi hc,fun F H vs ds Q fh r h=>by
 unfold jy at h
 cases q:V6 ds with
 |none=>rw[q] at h;exact h.elim
 |some ij=>
  obtain⟨i,j⟩:=ij
  rw[q] at h
  have e:=U5 q
  subst e
  obtain⟨v,w,rfl,r1,r2⟩:=r.two
  simp only[Rep] at r1 r2;subst r1;subst r2
  exact⟨i,j,rfl,h _ F H (Ext.refl fh) (by simp only[Rep])⟩⟩
theorem TZ(hc:X.calm=true):XI X (.builtin "max") Yq:=⟨_,Qj hc,fun F H vs ds Q fh r h=>by
 unfold Yq at h
 cases q:V6 ds with
 |none=>rw[q] at h;exact h.elim
 |some ij=>
  obtain⟨i,j⟩:=ij
  rw[q] at h
  have e:=U5 q
  subst e
  obtain⟨v,w,rfl,r1,r2⟩:=r.two
  simp only[Rep] at r1 r2;subst r1;subst r2
  exact⟨i,j,rfl,h _ F H (Ext.refl fh) (by simp only[Rep])⟩⟩
theorem rangeSize_down(a b:Int):Builtin.Range.rangeSize a b (-1)=((a-b).toNat:Int):=by
 unfold Builtin.Range.rangeSize
 rw[if_neg (by decide)]
 by_cases h:a > b
 ·rw[if_pos h,show(- -1:Int)=1 from rfl,Int.ediv_one];omega
 ·rw[if_neg h];omega
theorem small_down{a b:Int}(ha : -(2 ^ 62)≤a)(ha':a<2 ^ 62)(hb : -(2 ^ 62)≤b)(hb':b<2 ^ 62):Builtin.Range.small a b (-1)=true:=by
 unfold Builtin.Range.small
 rw[rangeSize_down]
 simp only[Builtin.Range.rangeFitsLong,Bool.and_eq_true,Bool.or_eq_true,decide_eq_true_eq,beq_iff_eq,show ¬ (-1:Int) > 0 by decide,if_false]
 omega
def iRngD(ta:TA):TI:=fun σ H R=>ta σ H fun vs H1=>∃i j:Int,vs=[.int i,.int j,.int (-1)]∧(-(2 ^ 62)≤i∧i<2 ^ 62∧-(2 ^ 62)≤j∧j<2 ^ 62)∧R (Itd i (i-j).toNat) H1
theorem Jz{a b c:Expr}{ta:TA}{p pos:Pos}(hg:Gl X "range")(hm:X.mg "range" = none)(ha:PA X [a,b,c] ta)(hs:starEach [a,b,c] X.env=[(false,eval a X.env),(false,eval b X.env),(false,eval c X.env)]:=by rfl)(hs2:starEach [b,c] X.env=[(false,eval b X.env),(false,eval c X.env)]:=by rfl) :
  PI X tg (.Call (.Name "range" p) [a,b,c] [] pos) (iRngD ta):=by
 intro pins s σ H R I h
 refine Call_ (vt I hg hm boot_range (PyProof.Rows.callWith_type1 (thn (ha pos pins s σ H _ I h) fun us s1 ⟨vs,H1,I1,r1,q1⟩=>?_) (by rw[hs,hs2]) (by rw[hs2];rfl)))
 obtain⟨i,j,e,⟨q1,q2,q3,q4⟩,q⟩:=q1
 subst e
 cases r1 with
 |cons r rr=>
  cases rr with
  |cons r' rr=>
   cases rr with
   |cons r'' rr=>
    cases rr
    obtain⟨t,rfl⟩:=r
    obtain⟨t',rfl⟩:=r'
    obtain⟨t'',rfl⟩:=r''
    refine call_range_3 (by decide) ?_ (.inl (PyProof.noPylong_small (by decide)))
    have I2:Inv X pins σ H1 { s1 with heap:=s1.heap.push { cls:=.type "range", data:=.fields #[.int i t,.int j t',.int (-1) t''] },toks:=s1.toks }:=I1.kept fun b o e=>Heap.get?_push_of_some _ e
    refine wpAny_pyIter_range (IsRange.new ..) (small_down q1 q2 q3 q4) ?_
    refine⟨(s1.heap.push { cls:=.type "range", data:=.fields #[.int i t,.int j t',.int (-1) t''] }).objs.size,[(s1.heap.push { cls:=.type "range", data:=.fields #[.int i t,.int j t',.int (-1) t''] }).objs.size],_,_,H1,rfl,
     I2.kept (t':=s1.toks) fun b o e=>Heap.get?_push_of_some _ e,Wu _ i (i-j).toNat,?_,fun b hb=>?_,q⟩
    ·have e1:i+((0:Nat):Int)*(-1)=i:=by simp
     have e2:(((i-j).toNat:Nat):Int)-((0:Nat):Int)=Builtin.Range.rangeSize i j (-1):=by rw[rangeSize_down];omega
     show IsRangeIter _ _ (i+((0:Nat):Int)*(-1)) ((((i-j).toNat:Nat):Int)-((0:Nat):Int)) (-1)
     rw[e1,e2]
     exact Heap.get?_push_size _ rfl
    ·have e:b=(s1.heap.push { cls:=.type "range", data:=.fields #[.int i t,.int j t',.int (-1) t''] }).objs.size:=by simpa using hb
     subst e
     exact I2.fpOk (le_refl _) (I2.hok.fresh (le_refl _))
def Zq(hi:Int)(n:Nat):List D:=(List.range n).map fun (k:Nat)=>D.int (hi-k)
theorem TB{K:PySem.W.Frag}{F1:Hp}{lo:Int}{n:Nat}:Uq K (Itd lo n) F1 (Zq lo n):=fun i F H f1 f2=>by
 have hl:(Zq lo n).length=n:=by simp[Zq]
 refine⟨fun h=>by rw[hl] at h;exact h,fun d hd=>?_⟩
 have hi:i<n:=by have:=(List.getElem?_eq_some_iff.mp hd).1;rw[hl] at this;exact this
 refine⟨hi,fun x H' y=>?_⟩
 obtain⟨e1,y⟩:=y
 subst e1
 refine⟨F,Ext.refl f2,?_⟩
 simp[Zq,hi] at hd
 subst hd
 simp only[Rep];exact y
def Vd:List D→Option (Int×Int)
 | [.int i,.int j,.int (-1)]=>some (i,j)
 |_=>none
theorem GE{ds:List D}{i j:Int}(h:Vd ds=some (i,j)):ds=[.int i,.int j,.int (-1)]:=by
 unfold Vd at h;split at h <;> cases h;rfl
def J5(fs:FA):FA:=fun τ=>(fs τ).bind fun ds=>match Vd ds with
 | some (i,j)=>if (-(2 ^ 62)≤i∧i<2 ^ 62)∧-(2 ^ 62)≤j∧j<2 ^ 62 then .ok (Zq i (i-j).toNat) else .no
 |none=>.no
theorem VU{a b c:Expr}{p:Pos}(hg:Gl X "range")(hm:X.mg "range" = none)(ha:PDA X [a,b,c] fs)(hs:starEach [a,b,c] X.env=[(false,eval a X.env),(false,eval b X.env),(false,eval c X.env)]:=by rfl)(hs2:starEach [b,c] X.env=[(false,eval b X.env),(false,eval c X.env)]:=by rfl) :
  PDI X tg (.Call (.Name "range" p) [a,b,c] [] pos) (J5 fs):=
 PI.imp (Jz hg hm ha hs hs2) fun σ H R ⟨F,τ,Rv,h⟩=>tAs.of Rv h.bind fun ds vs F1 H1 g x R1 r=>by
  cases q1:Vd ds with
  |none=>rw[q1] at g;exact g.elim
  |some ij=>
   obtain⟨i,j⟩:=ij
   rw[q1] at g
   have e:=GE q1
   subst e
   simp only[Reps] at r
   obtain⟨v,r1,e1,q,w,r2,e2,q',u,r3,e3,q'',e4⟩:=r
   simp only[Rep] at q q' q'';subst q q' q'' e4 e3 e2 e1
   obtain⟨z,g⟩:=yz g
   exact⟨i,j,rfl,⟨z.1.1,z.1.2,z.2.1,z.2.2⟩,g _ F1 H1 x TB⟩
def MtD(X:Cx)(id:String)(g:D→List D→Rs D):Prop:=∃r,MtR X id r∧∀F H v vs d ds Q,Same F H→Rep X.K F d v→Reps X.K F ds vs→Ok X (g d ds) (Ev X.K F H Q)→r v vs H Q
def Y5(T:String):D→Bool
 |.str _=>T = "str"
 |.int _=>T = "int"
 |.lst _=>T = "list"
 |.scr _=>T = "list"
 |_=>false
def Uf(T:String)(g:D→List D→Rs D)(fo:FE):FE:=fun τ=>(fo τ).bind fun d=>if Y5 T d=true then g d [] else .no
theorem Lw{F H:Hp}{d:D}{v:V}{T:String}(fh:Same F H)(r:Rep X.K F d v)(h:Y5 T d=true):tyV X.K T v H:=by
 cases d with
 |str x=>simp only[Rep] at r;subst r;show T = "str"; simpa[Y5] using h
 |int x=>simp only[Rep] at r;subst r;show T = "int"; simpa[Y5] using h
 |lst ds=>simp only[Rep] at r;obtain⟨a,vs,rfl,e,t⟩:=r;exact .inl ⟨by simpa[Y5] using h,vs,SqL.of (fh _ _ e)⟩
 |scr ds=>simp only[Rep] at r;obtain⟨a,rfl,e⟩:=r;exact .inl ⟨by simpa[Y5] using h,_,fh.seq e⟩
 |_=>simp[Y5] at h
theorem ok_if{X:Cx}{α:Type}{c:Prop}[Decidable c]{r:Rs α}{P:α→Prop}(h:Ok X (if c then r else .no) P):c∧Ok X r P:=by
 by_cases z:c
 ·rw[if_pos z] at h;exact⟨z,h⟩
 ·rw[if_neg z] at h;exact h.elim
theorem UN{T id:String}{name:Str}{o:Expr}{apos cpos:Pos}{fo:FE}{g:D→List D→Rs D}(pa:PlainAttrs T)(slot:Slot T name id)(hty:typeOf (.builtin id)=pure (.type "method_descriptor"))(hm:MtD X id g)(ho:PDE X o fo)
  (hbase:attributeBase o name X.env (eval o X.env)=eval o X.env:=by rfl) (hline:(apos.endLine==cpos.line)=true:=by rfl):PDE X (.Call (.Attribute o name apos) [] [] cpos) (Uf T g fo):=by
 obtain⟨r,h1,h2⟩:=hm
 exact PE.imp (LX pa slot hty h1 ho hbase hline) fun σ H Q ⟨Fz,τ,R,h⟩=>tE.of R h.bind fun d v F1 H1 q x R1 rr=>by
  obtain⟨z,q⟩:=ok_if q
  exact⟨Lw R1.fh rr z,h2 F1 H1 v [] d [] Q R1.fh rr Reps.nil (q.imp fun d e=>e.ext x)⟩
def upD:D→List D→Rs D
 |.str x,[]=>if x.length≤5000000 then .ok (.str (Txt.upper x)) else .no
 |_,_=>.no
def loD:D→List D→Rs D
 |.str x,[]=>if x.length≤5000000 then .ok (.str (Txt.lower x)) else .no
 |_,_=>.no
theorem mt_up:MtR X "str.upper" (fun v vs H Q=>∃x,v=.str x∧vs=[]∧x.length≤5000000∧Q (.str (Txt.upper x)) H):=by
 intro pins s σ H v vs u us Q I r rs h
 obtain⟨x,rfl,rfl,hx,q⟩:=h
 obtain⟨t,rfl⟩:=r
 cases rs
 exact SC.upper (fit_upper (by omega)) ⟨.str (Txt.upper x),H,I.tok _,⟨_,rfl⟩,q⟩
theorem mt_lo:MtR X "str.lower" (fun v vs H Q=>∃x,v=.str x∧vs=[]∧x.length≤5000000∧Q (.str (Txt.lower x)) H):=by
 intro pins s σ H v vs u us Q I r rs h
 obtain⟨x,rfl,rfl,hx,q⟩:=h
 obtain⟨t,rfl⟩:=r
 cases rs
 exact SC.lower (fit_lower (by omega)) ⟨.str (Txt.lower x),H,I.tok _,⟨_,rfl⟩,q⟩
theorem md_up:MtD X "str.upper" upD:=⟨_,mt_up,fun F H v vs d ds Q fh r rs h=>by
 cases d with
 |str x=>
  cases ds with
  |nil=>
   simp only[Rep] at r;subst r
   simp only[Reps] at rs;subst rs
   obtain⟨z,h⟩:=yz h
   exact⟨x,rfl,rfl,z,h _ F H (Ext.refl fh) (by simp only[Rep])⟩
  |cons a b=>exact h.elim
 |_=>cases ds <;> exact h.elim⟩
theorem md_lo:MtD X "str.lower" loD:=⟨_,mt_lo,fun F H v vs d ds Q fh r rs h=>by
 cases d with
 |str x=>
  cases ds with
  |nil=>
   simp only[Rep] at r;subst r
   simp only[Reps] at rs;subst rs
   obtain⟨z,h⟩:=yz h
   exact⟨x,rfl,rfl,z,h _ F H (Ext.refl fh) (by simp only[Rep])⟩
  |cons a b=>exact h.elim
 |_=>cases ds <;> exact h.elim⟩
theorem JE{o:Expr}{apos cpos:Pos}{fo:FE}(ho:PDE X o fo)(hbase:attributeBase o "upper" X.env (eval o X.env)=eval o X.env:=by rfl)(hline:(apos.endLine==cpos.line)=true:=by rfl):PDE X (.Call (.Attribute o "upper" apos) [] [] cpos) (Uf "str" upD fo):=
 UN F.plainAttrs_str F.slot_str_upper F.type_str_upper md_up ho hbase hline
theorem JG{o:Expr}{apos cpos:Pos}{fo:FE}(ho:PDE X o fo)(hbase:attributeBase o "lower" X.env (eval o X.env)=eval o X.env:=by rfl)(hline:(apos.endLine==cpos.line)=true:=by rfl):PDE X (.Call (.Attribute o "lower" apos) [] [] cpos) (Uf "str" loD fo):=
 UN F.plainAttrs_str F.slot_str_lower F.type_str_lower md_lo ho hbase hline
end
section
variable{X:Cx}{pos:Pos}{e tg:Expr}{es:List Expr}{fe:FE}{fs:FA}
end
section
variable{X:Cx}{pos:Pos}{e tg:Expr}{es:List Expr}{fe:FE}{fs:FA}
def rSlS:V→Option Int→Option Int→Hp→VK→Prop:=fun x lo hi H Q=>∃z,x=.str z∧z.length≤sizeLine∧Q (.str (Txt.slice z lo hi)) H
theorem sl_str:SlR X rSlS:=by
 intro pins s σ H x v vl vu lo hi sl Q I rx hs pl pu h
 obtain⟨z,rfl,hz,q⟩:=h
 obtain⟨t,rfl⟩:=rx
 refine⟨"str", _,F.slot_str_getitem.lookup,typeIs_str _ _ _,?_⟩
 obtain⟨o,e,c,d⟩:=hs
 have fin:∀t' k,EP X pins σ Q (.str (Txt.slice z lo hi) t') { s with toks:=k }:=fun t' k=>⟨.str _,H,I.tok _,⟨_,rfl⟩,q⟩
 have hl:=le_trans (Txt.slice_le z lo hi) hz
 cases pl with
 |none=>
  cases pu with
  |none=>exact wpAny_getItem_str_slice (l:=none) (u:=none) (st:=none) ⟨o,e,c,d⟩ rfl (post_val_or_str ⟨hl,fin⟩)
  |int j uj=>exact wpAny_getItem_str_slice (l:=none) (u:=some (j,uj)) (st:=none) ⟨o,e,c,d⟩ rfl (post_val_or_str ⟨hl,fin⟩)
 |int i ui=>
  cases pu with
  |none=>exact wpAny_getItem_str_slice (l:=some (i,ui)) (u:=none) (st:=none) ⟨o,e,c,d⟩ rfl (post_val_or_str ⟨hl,fin⟩)
  |int j uj=>exact wpAny_getItem_str_slice (l:=some (i,ui)) (u:=some (j,uj)) (st:=none) ⟨o,e,c,d⟩ rfl (post_val_or_str ⟨hl,fin⟩)
def cutD(xs:List D)(lo hi:Option Int):List D:=(xs.drop (HT.sIx xs.length 0 lo)).take (HT.sIx xs.length xs.length hi-HT.sIx xs.length 0 lo)
def slD(d:D)(lo hi:Option Int):Rs D:=match d with
 |.str x=>if x.length≤sizeLine then .ok (.str (Txt.slice x lo hi)) else .no
 |.lst ds=>.ok (.lst (cutD ds lo hi))
 |_=>.no
abbrev FO:=DS→Rs (Option Int)
def jw:FO:=fun _=>.ok none
def wT(fe:FE):FO:=fun τ=>(fe τ).bind fun d=>match d with
 |.int i=>.ok (some i)
 |_=>.no
def tOs(X:Cx)(f:FO):TO:=fun σ H Q=>∃F τ,RV X.K F τ σ H∧Ok X (f τ) fun o=>∀F' H',Ext F H F' H'→Q o H'
def PDO(X:Cx)(e:Option Expr)(f:FO):Prop:=PO X e (tOs X f)
theorem PO.imp{e:Option Expr}{t t':TO}(h:PO X e t)(f:∀σ H Q,t' σ H Q→t σ H Q):PO X e t':=fun pins s σ H Q I q=>h pins s σ H Q I (f _ _ _ q)
theorem WN:PDO X none jw:=PO.imp MR fun σ H Q ⟨F,τ,R,h⟩=>h F H (Ext.refl R.fh)
theorem jq(h:PDE X e fe):PDO X (some e) (wT fe):=PO.imp (MQ h) fun σ H Q ⟨F,τ,R,h⟩=>tE.of R h.bind fun d v F1 H1 g x R1 r=>by
 cases d with
 |int i=>simp only[Rep] at r;exact⟨i,r,g F1 H1 x⟩
 |_=>exact g.elim
def eSl(fe:FE)(fl fh:FO):FE:=fun τ=>(fe τ).bind fun d=>(fl τ).bind fun l=>(fh τ).bind fun u=>slD d l u
theorem VV{lo hi:Option Expr}{fl fh:FO}{p2:Pos}(he:PDE X e fe)(hl:PDO X lo fl)(hu:PDO X hi fh):PDE X (.Subscript e (.Slice lo hi none p2) pos) (eSl fe fl fh):=
 PE.imp (QY (sl_str.or Mz) he hl hu) fun σ H Q ⟨F,τ,R,h⟩=>tE.of R h.bind fun d v F1 H1 g x R1 r=>by
  refine⟨F1,τ,R1,g.bind.imp fun l gl F2 H2 x2=>⟨F2,τ,R1.ext x2,gl.bind.imp fun u gu F3 H3 x3=>?_⟩⟩
  have f3:=x3.fh
  have x13:=x.trans (x2.trans x3)
  cases d with
  |str z=>
   simp only[Rep] at r
   obtain⟨zz,gu⟩:=yz gu
   exact .inl ⟨z,r,zz,gu _ F3 H3 x13 (by simp only[Rep])⟩
  |lst ds=>
   simp only[Rep] at r;obtain⟨a,vs,rfl,e1,t⟩:=r
   have gu:Ev X.K F H Q (.lst (cutD ds l u)):=gu
   refine .inr ⟨a,vs,rfl,SqL.of (f3 _ _ (x3.ff _ _ (x2.ff _ _ e1))),fun p hp=>gu _ _ _ (x13.trans (Ext.new f3 hp)) ?_⟩
   simp only[Rep]
   refine⟨p,_,rfl,zt,?_⟩
   have t3:Reps X.K F3 (cutD ds l u) (Qf vs l u):=by
    unfold cutD Qf
    rw[← t.length]
    exact((t.mono (x2.ff.trans x3.ff)).drop _).take _
   exact t3.mono (yj (zU f3 hp))
  |_=>exact gu.elim
theorem Q3{x:Str}{v:V}{u:Value}{d:D}(hg:Gl X x)(hm:X.mg x=some u)(r:RelV v u)(rd:∀F,Rep X.K F d v)(hd:(x==("__debug__" : Str))=false:=by decide):PDE X (.Name x pos) (eC d):=WQ (MV hg hm r hd) rd
theorem jt{x:Str}{y:Str}{t:Tok}(hg:Gl X x)(hm:X.mg x=some (.str y t))(hd:(x==("__debug__" : Str))=false:=by decide):PDE X (.Name x pos) (eC (.str y)):=Q3 (v:=.str y) hg hm ⟨t,rfl⟩ (fun _=>by simp only[Rep]) hd
theorem vj{x:Str}{y:Int}{t:Tok}(hg:Gl X x)(hm:X.mg x=some (.int y t))(hd:(x==("__debug__" : Str))=false:=by decide):PDE X (.Name x pos) (eC (.int y)):=Q3 (v:=.int y) hg hm ⟨t,rfl⟩ (fun _=>by simp only[Rep]) hd
end
section
variable{X:Cx}{pos:Pos}{e tg:Expr}{es:List Expr}{fe:FE}{fs:FA}
def iAnyT(K:PySem.W.Frag)(tl:TE):TI:=fun σ H R=>tl σ H fun x H1=>(∃a,x=.ref a∧(∃xs,SqL K H1 a xs)∧R (Itl K a) H1)∨(∃a,x=.ref a∧(∃xs,SqT K H1 a xs)∧R (Itt K a) H1)∨∃z,x=.str z∧R (Its z) H1
theorem LP{l:Expr}{tl:TE}(hl:PE X l tl):PI X tg l (iAnyT X.K tl):=by
 intro pins s σ H R I h
 refine thn (hl pins s σ H _ I h) fun v s1 ⟨x,H1,I1,r1,q1⟩=>?_
 rcases q1 with ⟨a,e,⟨xs,hq⟩,q⟩|⟨a,e,⟨xs,hq⟩,q⟩|⟨z,e,q⟩
 ·subst e
  cases r1
  obtain⟨its,rv,p,hz⟩:=I1.list hq
  refine wpAny_pyIter_list p.isList ?_
  refine⟨s1.heap.objs.size,[s1.heap.objs.size],_,_,H1,rfl,I1.kept (t':=s1.toks) fun b o e=>Heap.get?_push_of_some _ e,Y8 a _,⟨_,Heap.get?_push_size _ rfl,rfl,rfl⟩,fun b hb=>?_,q⟩
  have e:b=s1.heap.objs.size:=by simpa using hb
  subst e
  exact I1.fpOk (le_refl _) (I1.hok.fresh (le_refl _))
 ·subst e
  cases r1
  obtain⟨its,rv,p,hz⟩:=I1.tuple hq
  refine wpAny_pyIter_tuple (show s1.heap.IsTuple a its.toArray from p) ?_
  refine⟨s1.heap.objs.size,[s1.heap.objs.size],_,_,H1,rfl,I1.kept (t':=s1.toks) fun b o e=>Heap.get?_push_of_some _ e,VE a _,⟨_,Heap.get?_push_size _ rfl,rfl,rfl⟩,fun b hb=>?_,q⟩
  have e:b=s1.heap.objs.size:=by simpa using hb
  subst e
  exact I1.fpOk (le_refl _) (I1.hok.fresh (le_refl _))
 ·subst e
  obtain⟨t,rfl⟩:=r1
  have fin:∀(ty:String),(ty = "str_ascii_iterator" ∨ ty = "str_iterator")→PIE X pins σ tg R (.ref s1.heap.objs.size) { s1 with heap:=s1.heap.push { cls:=.type ty,data:=.fields #[.str z t,.int 0 0] } }:=fun ty hty=>by
   refine⟨s1.heap.objs.size,[s1.heap.objs.size],_,_,H1,rfl,I1.kept (t':=s1.toks) fun b o e=>Heap.get?_push_of_some _ e,Qp hty,⟨_,Heap.get?_push_size _ rfl,rfl,rfl⟩,fun b hb=>?_,q⟩
   have e:b=s1.heap.objs.size:=by simpa using hb
   subst e
   exact I1.fpOk (le_refl _) (I1.hok.fresh (le_refl _))
  cases ha:z.cps.all (· < 128)
  ·exact wpAny_pyIter_wide ha (fin _ (.inr rfl))
  ·exact wpAny_pyIter_ascii ha (fin _ (.inl rfl))
def U1:D→Rs (List D)
 |.lst ds=>.ok ds
 |.scr ns=>.ok (ns.map .int)
 |.tup ds=>.ok ds
 |.str x=>.ok (Z8 x)
 |_=>.no
def xl(fe:FE):FA:=fun τ=>(fe τ).bind U1
theorem yQ(he:PDE X e fe):PDI X tg e (xl fe):=
 PI.imp (LP he) fun σ H R ⟨F,τ,Rv,h⟩=>tE.of Rv h.bind fun d v F1 H1 g x R1 r=>by
  cases d with
  |lst ds=>
   simp only[Rep] at r;obtain⟨a,vs,rfl,q,t⟩:=r
   exact .inl ⟨a,rfl,⟨vs,SqL.of (R1.fh _ _ q)⟩,g _ F1 H1 x (U2 (SqL.of q) t)⟩
  |scr ns=>
   simp only[Rep] at r;obtain⟨a,rfl,q⟩:=r
   exact .inl ⟨a,rfl,⟨_,R1.fh.seq q⟩,g _ F1 H1 x (U2 q (Reps.ints ns))⟩
  |tup ds=>
   simp only[Rep] at r;obtain⟨a,vs,rfl,q,t⟩:=r
   exact .inr (.inl ⟨a,rfl,⟨vs,Same.seqT R1.fh q⟩,g _ F1 H1 x (zb8 q t)⟩)
  |str z=>simp only[Rep] at r;exact .inr (.inr ⟨z,r,g _ F1 H1 x zb9⟩)
  |_=>exact g.elim
end
def DefOk(P:Program)(w:World)(K:PySem.W.Frag)(mg:Str→Option Value)(base:Heap)(x:Str)(k n:Nat)(ps:List Str)(g:List D→Rs D):Prop:=
 ∃f fd,FnOk P w K mg base CX0 k f fd ps (spD K n g)∧Binds K fd ps []∧keepIn K (.ref f)=true∧mg x=some (.ref f)
structure zY(K:PySem.W.Frag)(mg:Str→Option Value)(x:Str)(st:Stmt)(f:Addr)(fd:FuncData):Prop where
 fn:Fun K x x st f fd
 at_:mg x=some (.ref f)
section
variable{P:Program}{w:World}{K:PySem.W.Frag}{mg:Str→Option Value}{base:Heap}
theorem DefOk.mk{x:Str}{st:Stmt}{f:Addr}{fd:FuncData}{N ps:List Str}{k n:Nat}{fb:FS}{g:List D→Rs D}(D:zY K mg x st f fd)(S:zN N ps (zk st))(hn:ps.length=n)
  (hb:∀(kV doc pm:Value) (an:Option Addr) (cdv ct:Value) (us:List Value),us.length=ps.length→bindArgs (fnOf x x (zI st) (zD st) (zk st) .none kV doc pm an cdv ct) ⟨us,[]⟩=pure (ps.zip us))
  (hbody:∀(cdv:Value) (A:Around) (outer:List Env) (s:Shared) (H:Hp) (E:XK),Room k (A.deeper (envOfC x (zk st) s.heap.objs.size f cdv)) →
   YS (Wk CX0 P w K mg base N x (zk st) f cdv A outer s H E).nox (zD st) fb)
  (hg:∀ds d,ds.length=n→g ds=.ok d→xw N.length fb ds=.ok d):DefOk P w K mg base x (k+1) n ps g:=
 ⟨f,fd,FnD.to (fnD D.fn S hn hbody) hg,D.fn.binds hb,D.fn.kp,D.at_⟩
end
section
variable{X:Cx}{pos:Pos}{e tg:Expr}{es:List Expr}{fe:FE}{fs:FA}
theorem zy{k n:Nat}{ps:List Str}{g:List D→Rs D}{x:Str}{p:Pos}(D:DefOk X.prog X.w X.K X.mg X.base x k n ps g)(hr:Room k X.A)(ha:PDA X (e::es) fs)(hfs:∀τ ds,fs τ=.ok ds→ds.length=(e::es).length)(hn:(e::es).length=n:=by rfl)(hg:Gl X x:=by rfl)(hdb:(x==("__debug__" : Str))=false:=by decide)
  (he:starEach (e::es) X.env=(false,eval e X.env)::starEach es X.env:=by rfl) (hpl:(backTo pos (starEach es X.env)).any (·.1)=false:=by rfl):PDE X (.Call (.Name x p) (e::es) [] pos) (zo g fs):=by
 obtain⟨f,fd,F,hb,hk,hm⟩:=D
 exact Q4 F hr hg hm hk hb ha hn hfs hdb he hpl
end
theorem vM{k:Nat}{A:Around}(r:Room k A):A.units+128<cLine:=by have:=r.un;omega
section
variable{X:Cx}{pos:Pos}{e a b:Expr}{fe fa fb:FE}
end
def Xf(K:PySem.W.Frag):Sp:=fun vs H Q _=>∃(a:Addr) (ns:List Int) (F:Hp),vs=[.ref a]∧Same F H∧TbT F H∧SqL K F a (ns.map V.int)∧ns.length≤63∧∀H',Q (.bl true) H'
theorem za8{P:Program}{w:World}{K:PySem.W.Frag}{mg:Str→Option Value}{base:Heap}{k:Nat}{g:List D→Rs D}{p:Str}{f:Addr}{fd:FuncData}(F:FnOk P w K mg base CX0 k f fd [p] (spD K 1 g))(h:∀ns:List Int,ns.length≤63→g [.scr ns]=.ok (.bl true)) :
  FnOk P w K mg base CX0 k f fd [p] (Xf K):=by
 refine F.imp fun vs H Q E ⟨a,ns,Fz,e,fh,tt,hS,h63,q⟩=>?_
 subst e
 refine⟨rfl,[.scr ns],Fz,fh,tt,Reps.cons (by simp only[Rep];exact⟨a,rfl,hS⟩) Reps.nil,?_⟩
 rw[h ns h63]
 intro v F' H' _ r
 simp only[Rep] at r
 subst r
 exact q H'
theorem walk{l:PySem.W.OpenLaw}{q:Program}{loose:List Str}{XP:(Str→Option Value)→Heap→Prop}{YP:World→Heap→Prop}{d:DefRec}{K:Params→PySem.W.Frag}{k:Nat}{p:Str}(hn:l.most=some 63)(hdf:d.params.defaults=[])(hk:Room k callerA)
  (hY:∀(w:World) (h:Heap),YP w h→(K w.params).In h)
  (F:∀(w:World) (mg:Str→Option Value) (fa:Addr) (h:Heap),(K w.params).In h→h.Ns mainGlobals mg→mg d.name=some (.ref fa) →
   ∃fd:FuncData,(∀(s:Shared) (u:Value),BindsTo s fd ⟨[u],[]⟩ [(p,u)])∧∀base:Heap,(K w.params).In base→base.Ns mainGlobals mg→FnOk l.prog w (K w.params) mg base CX0 k fa fd [p] (Xf (K w.params)))
  (ht:Tabs.rows=[]:=by rfl) :
  PySem.W.WalkO q loose XP YP l.row.toRowW d [] (fun f vs=>PySem.call f vs):=
 L2.walk_of (n:=63) (k:=k) (x:=p) (CX:=fun _=>CX0) (sp:=fun w=>Xf (K w.params)) hn (by decide) hdf hk hY F (fun _ H a ns hl hO hS=>⟨a,ns,H,rfl,Same.refl H,⟨(fun r hr=>by rw[ht] at hr;cases hr),fun d b e=>by rcases hO d with z|⟨_,_,z⟩ <;> (rw[z] at e;cases e)⟩,hS,hl,fun _=>rfl⟩) fun _ _ _ _ _ z=>z
section
variable{X:Cx}{pos:Pos}{e tg:Expr}{es:List Expr}{fe:FE}{fs:FA}
def lst1:List D→Option (List D)
 |[.lst ds]=>some ds
 |_=>none
theorem MF(x:Str)(u:Tok):Txt.sliceBy x none none (-1,u)=⟨x.cps.toList.reverse.toArray⟩:=by
 have h:=step_rev_list x u
 have e:((List.range x.length).map fun k=>x.cps.getD (x.length-1-k) 0)=x.cps.toList.reverse:=by
  have hl:x.length=x.cps.toList.length:=by simp[Str.length]
  apply ext_getElem
  ·simp[hl]
  ·intro i h1 h2
   have hi:i<x.cps.size:=by simpa[Str.length] using h1
   simp only[List.getElem_map,List.getElem_range,List.getElem_reverse]
   rw[hl]
   simp only[length_toList,getElem_toList,Array.getD]
   rw[dif_pos (by omega)]
   rfl
 rw[e] at h
 generalize Txt.sliceBy x none none (-1,u)=y at h
 obtain⟨c⟩:=y
 congr 1
 rw[← h]
def MG:D→Rs D
 |.str x=>if x.length≤sizeLine then .ok (.str ⟨x.cps.toList.reverse.toArray⟩) else .no
 |.lst ds=>.ok (.lst ds.reverse)
 |_=>.no
def Ue(fe:FE):FE:=fun τ=>(fe τ).bind MG
theorem UM{st:Expr}{p2:Pos}(he:PDE X e fe)(hs:PDE X st (wA (eC (.int 1)))):PDE X (.Subscript e (.Slice none none (some st) p2) pos) (Ue fe):=by
 intro pins s σ H Q I ⟨F,τ,R,h⟩
 refine Subscript_ (thn (he pins s σ H _ I (tE.of R h.bind fun d v F1 H1 g x R1 r=>(⟨d,F1,g,x,R1,r⟩:∃d F1,Ok X (MG d) (Ev X.K F H Q)∧Ext F H F1 H1∧RV X.K F1 τ σ H1∧Rep X.K F1 d v))) fun v s1 ⟨x,H1,I1,r1,d,F1,g,x1,R1,r⟩=>?_)
 refine wpAny_Slice ?_
 rw[evalPart_none]
 refine wpAny_pure (wpAny_pure ?_)
 rw[evalPart_some]
 refine thn (hs pins s1 σ H1 (fun w H2=>w=.int (-1)∧∃F2,Ext F1 H1 F2 H2) I1 ⟨F1,τ,R1,fun w F2 H2 x2 r2=>⟨by simpa only[Rep] using r2,F2,x2⟩⟩) fun u s2 ⟨y,H2,I2,r2,ey,F2,x2⟩=>?_
 subst ey
 obtain⟨tk,rfl⟩:=r2
 have I4:Inv X pins σ H2 { s2 with heap:=s2.heap.push { cls:=.type "slice", data:=.fields #[.none,.none,.int (-1) tk] } }:=I2.kept (t':=s2.toks) fun b ob q=>Heap.get?_push_of_some _ q
 have x12:=x1.trans x2
 have r:=r.mono x2.ff
 show wpAny (model X.prog X.w) X.A (subscriptTail e (.Slice none none (some st) p2) v (.ref s2.heap.objs.size)) (EP X pins σ Q) X.xe { s2 with heap:=s2.heap.push { cls:=.type "slice", data:=.fields #[.none,.none,.int (-1) tk] } }
 cases d with
 |str z=>
  simp only[Rep] at r;subst r
  obtain⟨t,rfl⟩:=r1
  obtain⟨hz,g⟩:=yz g
  refine tail_any (ops:=[.str z t,.ref s2.heap.objs.size]) (typeIs_str _ _ _) PySem.F.slot_str_getitem.lookup (wpAny_getItem_str_slice (l:=none) (u:=none) (st:=some (-1,tk)) ⟨_,Heap.get?_push_size _ rfl,rfl,rfl⟩ rfl (post_val_or_str ⟨le_trans (Txt.sliceBy_le z none none (-1,tk) (by show(-1:Int)≠0;decide)) hz,fun t' k=>⟨.str (Txt.sliceBy z none none (-1,tk)),H2,I4.tok _,⟨_,rfl⟩,?_⟩⟩)) (by with_unfolding_all rfl)
  rw[MF]
  exact g _ F2 H2 x12 (by simp only[Rep])
 |lst ds=>
  simp only[Rep] at r;obtain⟨a,vs,rfl,e1,t⟩:=r
  cases r1
  obtain⟨its,rr,ht,hz⟩:=I4.list (SqL.of (K:=X.K) (x2.fh _ _ e1))
  have g:Ev X.K F H Q (.lst ds.reverse):=g
  refine tail_any (ops:=[.ref a,.ref s2.heap.objs.size]) ht.isList.typeIs slot_list_getitem.lookup (wpAny_getItem_list_slice ht.isList (Heap.IsSliceOf.new ..) .none .none (.int (-1) tk) (by simp) ?_ (by rw[size_toArray,← rr.length];exact hz)) (by with_unfolding_all rfl)
  rw[PySem.W.krv_pick]
  refine⟨.ref _,_,I4.laid (t':=s2.toks) (o:=.lst vs.reverse) (fun b ob q=>Heap.get?_push_of_some _ q) (le_refl _) ?_,rfl,g _ _ _ (x12.trans (Ext.new x2.fh (I4.hok.fresh (le_refl _)))) ?_⟩
  ·exact⟨by rw[length_reverse];exact hz,its.reverse,0,rr.reverse,Heap.get?_push_size _ rfl⟩
  ·simp only[Rep]
   exact⟨_,_,rfl,zt,(t.reverse).mono (yj (zU x2.fh (I4.hok.fresh (le_refl _))))⟩
 |_=>exact g.elim
theorem QK{K:PySem.W.Frag}{F:Hp}(lo:Int)(n:Nat):Reps K F (uF lo n) ((List.range n).map fun (k:Nat)=>V.int (lo+k)):=by
 unfold uF
 generalize List.range n=l
 induction l with
 |nil=>exact Reps.nil
 |cons a r ih=>exact Reps.cons (by simp only[Rep]) ih
theorem Qn{lo:Int}{acc:Array Value}{n:Nat}(h:ItemsOf (fun i v=>∃t,v=Value.int (lo+i*1) t) acc n):Vals ((List.range n).map fun (k:Nat)=>V.int (lo+k)) acc.toList:=by
 obtain⟨hn,hi⟩:=h
 have key:∀(l:List Value) (j:Nat),(∀k v,l[k]?=some v→∃t,v=Value.int (lo+((j+k:Nat):Int)) t)→Vals ((List.range' j l.length).map fun (k:Nat)=>V.int (lo+k)) l:=fun l=>by
  induction l with
  |nil=>intro j _;exact .nil
  |cons a r ih=>
   intro j hj
   rw[length_cons,range'_succ,map_cons]
   refine .cons ?_ (ih (j+1) fun k v hv=>?_)
   ·obtain⟨t,rfl⟩:=hj 0 a rfl
    exact⟨t,by simp⟩
   ·obtain⟨t,e⟩:=hj (k+1) v (by simpa using hv)
    exact⟨t,by rw[e];congr 2;omega⟩
 have:=key acc.toList 0 fun k v hv=>by
  obtain⟨t,e⟩:=hi k v (by simpa using hv)
  exact⟨t,by rw[e];simp⟩
 rw[length_toList,hn,← List.range_eq_range'] at this
 exact this
def W0(fi:FA):FA:=fun τ=>(fi τ).bind fun ds=>if ds.length≤16777216 then .ok ds else .no
theorem Gq{pins:List (Addr×Obj)}{σ:St}{F H F1 H1:Hp}{s1:Shared}{Q:VK}{lo hi:Int}{t u v:Tok}{tk:Nat}(hc:X.calm=true)(I1:Inv X pins σ H1 s1)(h1 : -(2 ^ 62)≤lo)(h2:lo<2 ^ 62)(h3 : -(2 ^ 62)≤hi)(h4:hi<2 ^ 62)(hz:(uF lo (hi-lo).toNat).length≤16777216)
  (x:Ext F H F1 H1) (q:∀p vs F' H',Ext F H F' H'→H' p=none→Reps X.K F' (uF lo (hi-lo).toNat) vs→Q (.ref p) (upd H' p (.lst vs))) :
  wpAny (model X.prog X.w) X.A (call (.type "list") [.ref s1.heap.objs.size]) (EP X pins σ Q) X.xe { s1 with heap:=s1.heap.push { cls:=.type "range", data:=.fields #[.int lo t,.int hi u,.int 1 v] },toks:=tk }:=by
 have I2:Inv X pins σ H1 { s1 with heap:=s1.heap.push { cls:=.type "range", data:=.fields #[.int lo t,.int hi u,.int 1 v] },toks:=tk }:=I1.kept fun b o e=>Heap.get?_push_of_some _ e
 have hl:(uF lo (hi-lo).toNat).length=(hi-lo).toNat:=by simp[uF]
 rw[hl] at hz
 refine call_list_range (n:=(hi-lo).toNat) (I2.ok.hd hc) (IsRange.new ..) (small_one h1 h2 h3 h4) (by rw[rangeSize_one];split <;> omega) (by omega) fun h' tk' acc' c' hk hS' hacc=>?_
 have rel:=Qn hacc
 refine⟨.ref _,_,I2.laid (t':=tk') hk (le_refl _) (o:=.lst ((List.range (hi-lo).toNat).map fun (k:Nat)=>V.int (lo+k))) ⟨by rw[length_map,length_range,sizeLine_eq];exact hz,acc'.toList,c',rel,by simpa using hS'⟩,rfl,q _ _ _ _ x (I2.hok.fresh (le_refl _)) (QK _ _)⟩
theorem ZG{a:Expr}{p p2 pos2:Pos}(hc:X.calm=true)(hl:Gl X "list")(hml:X.mg "list" = none)(hg:Gl X "range")(hm:X.mg "range" = none)(ha:PDA X [a] fs)(hs:starEach [a] X.env=[(false,eval a X.env)]:=by rfl)
  (he:starEach [.Call (.Name "range" p2) [a] [] pos2] X.env=(false,eval (.Call (.Name "range" p2) [a] [] pos2) X.env)::starEach [] X.env:=by rfl) (hpl:(backTo pos (starEach [] X.env)).any (·.1)=false:=by rfl) :
  PDF X (.Call (.Name "list" p) [.Call (.Name "range" p2) [a] [] pos2] [] pos) (W0 (ve fs)):=by
 intro pins s σ H Q I ⟨F,τ,R,h⟩
 refine wpAny_Call_Name_kw (vt I hl hml PyProof.Rows.boot_list ?_)
 refine PyProof.Rows.callWith_type1 ?_ he hpl
 rw[he]
 show wpAny _ _ (spliced ((false,eval (.Call (.Name "range" p2) [a] [] pos2) X.env)::backTo pos (starEach [] X.env))) _ _ s
 refine Calls.spliced_cons ?_
 have h:=h.bind
 unfold ve at h
 have h:=h.bind
 generalize hG:(fun ds=>Ok X (match V7 ds with|some j=>if -(2 ^ 62)≤j∧j<2 ^ 62 then Rs.ok (uF 0 j.toNat) else Rs.no|none=>Rs.no) fun a=>Ok X (if a.length≤16777216 then Rs.ok a else Rs.no) fun ds=>∀(p:Addr) (vs:List V) (F' H':Hp),Ext F H F' H'→H' p=none→Reps X.K F' ds vs→Q (V.ref p) (upd H' p (HO.lst vs)))=G at h
 refine Call_ (vt I hg hm boot_range (PyProof.Rows.callWith_type1 (thn (ha pos2 pins s σ H (fun vs H1=>∃ds F1,G ds∧Ext F H F1 H1∧RV X.K F1 τ σ H1∧Reps X.K F1 ds vs) I (tAs.of R h fun ds vs F1 H1 g x R1 r=>⟨ds,F1,g,x,R1,r⟩)) fun us s1 ⟨vs,H1,I1,r1,ds,F1,g,x,R1,r⟩=>?_) hs rfl))
 subst hG
 cases q1:V7 ds with
 |none=>simp only[q1] at g;exact g.elim
 |some j=>
  simp only[q1] at g
  have e:=U6 q1
  subst e
  obtain⟨v,rfl,q⟩:=r.one
  simp only[Rep] at q;subst q
  obtain⟨z,g⟩:=yz g
  obtain⟨zl,g⟩:=yz g
  cases r1 with
  |cons ra rr=>
   cases rr
   obtain⟨t,rfl⟩:=ra
   refine call_range_1 ?_
   refine Calls.spliced_nil ?_
   exact Gq hc I1 (by decide) (by decide) z.1 z.2 (by rw[Int.sub_zero];exact zl) x (by rw[Int.sub_zero];exact g)
end
section
open PySem.SeqAt
open PySem.AutoSeq1 (wpAny_loadPart')
open PySem.MeetsSeq PySem.MeetsSeq2 PySem.MeetsSeq3
end
section
variable{X:Cx}
end
section
variable{X:Cx}
end
section
variable{rest:List Expr}{env:Env}
end
def Itn(K:PySem.W.Frag)(l:Addr):It:=
 ⟨fun k H=>∃vs,SqL K H l vs∧k<vs.length,
  fun k H y H'=>∃p v,H p=none∧(∀vs,SqL K H l vs→vs[k]?=some v)∧y=.ref p∧H'=upd H p (.tup [.int k,v]),
  fun k H=>∃vs,SqL K H l vs∧vs.length≤k⟩
theorem Jn{P:Program}{w:World}{K:PySem.W.Frag}{elts:List Expr}{x1}{pos:Pos}{e it l:Addr}(D:e≠it) :
  Ws P w K (.Tuple elts x1 pos) (Itn K l) [e,it] e (fun k h=>(∃old,IsEnum h e it (k:Nat) old)∧h.IsListIter it l k) where
 mem:=by simp
 obj:=fun k h ⟨⟨old,h1⟩,⟨o5,e5,c5,d5⟩⟩ b hb=>by
  simp at hb
  rcases hb with rfl|rfl
  ·exact⟨_,h1,fun v z=>by cases z⟩
  ·exact⟨_,e5,fun v z=>by rw[d5] at z;cases z⟩
 keep:=fun k h h' ⟨⟨old,h1⟩,h5⟩ hk=>⟨⟨old,hk e (by simp) _ h1⟩,h5.at fun o q=>hk it (by simp) o q⟩
 item:=by
  intro X hP hw hK hc k pins s σ H E I hf ⟨⟨old,h1⟩,h5⟩ hg
  subst hP hw hK
  obtain⟨vs,hq,l2⟩:=hg
  obtain⟨its,rv,p,hz⟩:=I.list hq
  have hlen:=rv.length
  have hvk:vs[k]?=some vs[k]:=by simp[l2]
  obtain⟨u2,eu,ru⟩:=rv.get hvk
  refine wpAny_pyNext_enum_item (x:=u2) h1 h5 p.isList (by simpa using eu) D fun h' q1 q2 q3 q4 q5=>?_
  have np:s.heap.objs.size≠e:=ne_of_gt (Heap.lt_size h1)
  refine⟨_,rfl,wpAny_letOwnedTupleGo_enum (s:={ s with heap:=h',toks:=s.toks+1 }) q1 fun h'' z1 sb=>?_⟩
  refine⟨.ref s.heap.objs.size,upd H s.heap.objs.size (.tup [.int k,vs[k]]),?_,rfl,⟨_,vs[k],I.hok.fresh (le_refl _),fun ws hw=>by rw[I.list_inj hw hq];exact hvk,rfl,rfl⟩,⟨⟨_,by simpa using z1⟩,?_⟩,fun b hb=>?_⟩
  ·refine(Mj (s:=s) (h':=h'') (t':=s.toks+1) (xs:=[.int k,vs[k]]) (ch:=[e,it]) I (fun b o hb q=>?_) hf (le_refl _) ⟨_,sb.extBut _ _ np q3,rfl,_,rfl⟩ (.cons ⟨_,rfl⟩ (.cons ru .nil)) (by show 2≤sizeLine;decide):Inv X pins σ _ { s with heap:=h'',toks:=s.toks+1 })
   simp at hb
   exact sb.extBut _ _ hb.1 (q5 b o hb.1 hb.2 q)
  ·obtain⟨o,q,r⟩:=q2
   exact⟨o,sb.extBut _ _ (Ne.symm D) q,r⟩
  ·have lt:b<s.heap.objs.size:=by
    simp at hb
    rcases hb with rfl|rfl
    ·exact Heap.lt_size h1
    ·obtain⟨o,q,r⟩:=h5
     exact Heap.lt_size q
   rw[zp (ne_of_lt lt)]
   exact(hf b hb).1
 done:=by
  intro X hP hw hK hc k pins s σ H E I hf ⟨⟨old,h1⟩,h5⟩ hg
  subst hP hw hK
  obtain⟨vs,hq,hend⟩:=hg
  obtain⟨its,rv,p,hz⟩:=I.list hq
  have hlen:=rv.length
  obtain⟨f0,f1,f2,f3,f4,f5⟩:=hf it (by simp)
  exact wpAny_pyNext_enum_end (I.ok.hd hc) h1 h5 p.isList (by simp;omega) fun h' eb=>⟨rfl,I.turned (t':=s.toks) (fun b o hb q=>eb b o hb q) f0 f1 f3 f4 f5⟩
 self:=fun _ _ _ _ _ ⟨⟨_,h1⟩,_⟩ h=>wpAny_pyIter_enum h1 h
section
variable{X:Cx}{pos:Pos}{e a b:Expr}{es:List Expr}{fe fa fb:FE}{fs:FA}
def zc2(K:PySem.W.Frag)(ta:TA):TI:=fun σ H R=>ta σ H fun vs H1=>∃l ws,vs=[.ref l]∧SqL K H1 l ws∧R (Itn K l) H1
theorem MT{ta:TA}{p:Pos}{elts:List Expr}{x1}{tpos:Pos}(hg:Gl X "enumerate")(hm:X.mg "enumerate" = none)(ha:PA X [a] ta)(hs:starEach [a] X.env=[(false,eval a X.env)]:=by rfl) :
  PI X (.Tuple elts x1 tpos) (.Call (.Name "enumerate" p) [a] [] pos) (zc2 X.K ta):=by
 intro pins s σ H R I h
 refine Call_ (vt I hg hm boot_enumerate (PyProof.Rows.callWith_type1 (thn (ha pos pins s σ H _ I h) fun us s1 ⟨vs,H1,I1,r1,q1⟩=>?_) (by rw[hs];rfl) rfl))
 obtain⟨l,ws,e,hq,q⟩:=q1
 subst e
 obtain⟨u1,rfl,ru⟩:=vals1 r1
 cases ru
 obtain⟨its,rr,pp,hz⟩:=I1.list hq
 refine call_enumerate_list pp.isList fun h' g1 g2 g3 g4=>?_
 have I5:Inv X pins σ H1 { s1 with heap:=h' }:=I1.kept (t':=s1.toks) g4
 refine wpAny_pyIter_enum (s:={ s1 with heap:=h' }) g1 ?_
 refine⟨s1.heap.objs.size+1,[s1.heap.objs.size+1,s1.heap.objs.size],_,_,H1,rfl,I5,Jn (l:=l) (by show(_:Nat)≠_;omega),⟨⟨_,g1⟩,g2⟩,fun b hb=>?_,q⟩
 have hb':s1.heap.objs.size≤b:=by
  simp at hb
  rcases hb with rfl|rfl <;> (show s1.heap.objs.size≤(_:Nat);omega)
 obtain⟨f0,f1,f2,f3,f4,f5⟩:=I1.fpOk (H':=H1) hb' (I1.hok.fresh hb')
 exact⟨f0,f1,f2,f3,f4,f5⟩
def y4(n:Nat):List D→List D
 |[]=>[]
 |d::r=>.tup [.int n,d]::y4 (n+1) r
theorem jJ:∀(ds:List D) (n:Nat),(y4 n ds).length=ds.length
 |[],_=>rfl
 |_::r,n=>by simp[y4,jJ r]
theorem jK:∀{ds:List D} {n i:Nat} {p:D},(y4 n ds)[i]?=some p→∃d,ds[i]?=some d∧p=.tup [.int ((n+i:Nat):Int),d]
 |[],_,_,_,h=>by simp[y4] at h
 |d::ds,n,0,p,h=>by simp[y4] at h;exact⟨d,rfl,by simpa using h.symm⟩
 |d::ds,n,i+1,p,h=>by
  obtain⟨d',h2,h3⟩:=jK (n:=n+1) (i:=i) (by simpa[y4] using h)
  exact⟨d',by simpa using h2,by rw[h3];congr 3;show((n+1+i:Nat):Int)=_;congr 1;omega⟩
theorem TC{K:PySem.W.Frag}{F1:Hp}{l:Addr}{ds:List D}{vs:List V}(e:SqL K F1 l vs)(r:Reps K F1 ds vs):Uq K (Itn K l) F1 (y4 0 ds):=fun i F H f1 f2=>by
 have q:SqL K H l vs:=(f1.trans f2).seq e
 have hl:=jJ ds 0
 have hr:=r.length
 refine⟨fun h=>⟨vs,q,by omega⟩,fun p hp=>?_⟩
 obtain⟨d,h2,rfl⟩:=jK hp
 have l2:i<vs.length:=by have:=(List.getElem?_eq_some_iff.mp h2).1;omega
 refine⟨⟨vs,q,l2⟩,fun y H' yy=>?_⟩
 obtain⟨pa,v,hp,q',rfl,rfl⟩:=yy
 refine⟨upd F pa (.tup [.int i,v]),Ext.new f2 hp,?_⟩
 simp only[Rep]
 refine⟨pa,_,rfl,SqT.of zt,Reps.cons (by simp only[Rep,zero_add]) (Reps.cons ?_ Reps.nil)⟩
 obtain⟨v',hv',rv'⟩:=r.get h2
 have e3:=q' vs q
 rw[hv'] at e3;cases e3
 exact(rv'.mono f1).mono (yj (zU f2 hp))
def Ti:List D→Option (List D)
 |[.lst ds]=>some ds
 |_=>none
theorem Th{ds xs:List D}(h:Ti ds=some xs):ds=[.lst xs]:=by
 unfold Ti at h;split at h <;> cases h;rfl
def iEn(fs:FA):FA:=fun τ=>(fs τ).bind fun ds=>match Ti ds with
 |some xs=>.ok (y4 0 xs)
 |none=>.no
theorem WO{p:Pos}{elts:List Expr}{x1}{tpos:Pos}(hg:Gl X "enumerate")(hm:X.mg "enumerate" = none)(ha:PDA X [a] fs)(hs:starEach [a] X.env=[(false,eval a X.env)]:=by rfl) :
  PDI X (.Tuple elts x1 tpos) (.Call (.Name "enumerate" p) [a] [] pos) (iEn fs):=
 PI.imp (MT hg hm ha hs) fun σ H R ⟨F,τ,Rv,h⟩=>tAs.of Rv h.bind fun ds vs F1 H1 g x R1 r=>by
  cases q1:Ti ds with
  |none=>rw[q1] at g;exact g.elim
  |some xs=>
   rw[q1] at g
   have e:=Th q1
   subst e
   obtain⟨v,rfl,r1⟩:=r.one
   simp only[Rep] at r1
   obtain⟨l,ws,rfl,e1,t⟩:=r1
   exact⟨l,ws,rfl,SqL.of (R1.fh _ _ e1),g _ F1 H1 x (TC (SqL.of e1) t)⟩
end
section
variable{X:Cx}{pins:List (Addr×Obj)}{σ:St}{H:Hp}{s:Shared}{h':Heap}
end
section
variable{X:Cx}{pins:List (Addr×Obj)}{σ:St}{H:Hp}{s:Shared}{h':Heap}{a:Addr}{cls:Value}
variable{M:Model}{A:Around}{E:Value→Shared→Prop}{Q:Unit→Shared→Prop}
theorem np(b:Addr):∀p∈([]:List (Addr×Obj)),p.1≠b:=fun p hp=>nomatch hp
end
section
variable{P:Program}{w:World}{K:PySem.W.Frag}{mg:Str→Option Value}{base:Heap}
end
section
variable{X:Cx}{pos:Pos}{e:Expr}{es:List Expr}{fe:FE}{fs:FA}{st:Stmt}
end
section
variable{P:Program}{w:World}{K:PySem.W.Frag}{mg:Str→Option Value}{base:Heap}
end
section
variable{X:Cx}{pins:List (Addr×Obj)}{σ:St}{H:Hp}{s:Shared}{a:Addr}{cls:Value}
theorem goes{h':Heap}{m':Str→Option Value}{t':Nat}(I:Inv X pins σ H s)(hn:h'.Ns X.env.locals m')(sb:Heap.SameBut X.env.locals s.heap h'):Inv X pins (List.replicate X.N.length none) H { s with heap:=h',toks:=t' }:=by
 have nL:∀b o,X.s₀.heap.get? b=some o→b≠X.env.locals:=fun b o e=>ne_of_lt (lt_of_lt_of_le (Heap.lt_size e) I.ok.above)
 refine⟨I.ok,I.os,I.bare,⟨fun b o e n hb hx=>(sb.2 b (nL b o e)).trans (I.base.keep b o e n hb hx),fun b o e n hb hx=>?_,I.base.free,fun b o e hx=>?_,I.base.tups,I.base.frzs,I.base.tbls⟩,⟨m',hn,fun j y v e1 e2 e3=>?_⟩,fun y c e=>?_,I.free,I.freeC,fun p hp=>?_,fun b u e=>?_,by simp⟩
 ·obtain⟨sl,q⟩:=I.base.slot b o e n hb hx
  exact⟨sl,(sb.2 b (nL b o e)).trans q⟩
 ·obtain⟨o',q⟩:=I.base.there b o e hx
  exact⟨o',(sb.2 b (nL b o e)).trans q⟩
 ·rw[getElem?_replicate] at e2
  split at e2 <;> cases e2
 ·obtain⟨v,o,ho,hd⟩:=I.cell y c e
  exact⟨v,o,(sb.2 c (I.cne y c e)).trans ho,hd⟩
 ·obtain⟨q1,q2,q3,q4⟩:=I.pin p hp
  exact⟨(sb.2 p.1 q3).trans q1,q2,q3,q4⟩
 ·refine(I.hok b u e).stay (fun c w' hc q=>(sb.2 c ?_).trans q) (fun _ q=>q) fun _ _ q=>q
  rintro rfl
  rcases hc with rfl|hc
  ·rw[I.free] at e;cases e
  ·rw[I.free] at hc;cases hc
end
section
variable{prog:Program}{w:World}{A:Around}{E:Value→Shared→Prop}{K:PySem.W.Frag}{x C:Addr}
end
section
variable{X:Cx}{pos:Pos}{a b:Expr}{fa:FE}
end
section
variable{X:Cx}{pos:Pos}{e:Expr}{es:List Expr}{fs:FA}{st:Stmt}
end
section
variable{X:Cx}{pos:Pos}{e a b:Expr}{es:List Expr}{fe fa fb:FE}{fs:FA}
end
section
variable{X:Cx}{pos:Pos}{e a b:Expr}{es:List Expr}{fe fa fb:FE}{fs:FA}
end
section
variable{P:Program}{w:World}{K:PySem.W.Frag}{mg:Str→Option Value}{base:Heap}
end
section
variable{X:Cx}{pos:Pos}{e:Expr}{es:List Expr}{fe:FE}{fs:FA}
end
section
variable{X:Cx}{scope:Scope}{N':List Str}
end
section
variable{X:Cx}{scope:Scope}{N':List Str}{tg iter elt:Expr}{ifs:List Expr}{pos:Pos}{wi:TI}{g:TG}{ti:TT}{te:TE}{s0:St→St}
end
section
variable{X:Cx}{scope:Scope}{tn fr:List Str}{idx:List Nat}{tg iter elt:Expr}{ifs:List Expr}{pos:Pos}{fi:FA}{set:FG}{ft:FT}{fe:FE}
end
section
variable{X:Cx}{tg:Expr}
end
section
variable{X:Cx}{pos:Pos}{e tg:Expr}{es:List Expr}{fe:FE}{fs:FA}
end
section
variable{P:Program}{w:World}{K:PySem.W.Frag}{mg:Str→Option Value}{base:Heap}
end
section
variable{X:Cx}{pos:Pos}{e:Expr}{es:List Expr}{fe:FE}{fs:FA}
end
section
variable{X:Cx}{pins:List (Addr×Obj)}{σ:St}{H:Hp}{s:Shared}{a:Addr}{cls:Value}
end
section
variable{X:Cx}{pos:Pos}{e a b:Expr}{es:List Expr}{fe fa fb:FE}{fs:FA}
end
section
variable{X:Cx}{tg:Expr}
end
section
variable{X:Cx}{pos:Pos}{e tg:Expr}{es:List Expr}{fe:FE}{fs:FA}
end
section
variable{X:Cx}{pos:Pos}{e a b:Expr}{es:List Expr}{fe fa fb:FE}{fs:FA}
end
def BM(mg:Str→Option Value)(base:Heap):Prop:=∃bm o,mg "__builtins__" = some (.ref bm)∧bm≠builtinsNs∧base.get? bm=some o∧o.cls=.type "module" ∧ o.dict=some builtinsNs∧o.data=.plain
def Ls(ts:List Addr)(H:Hp):Prop:=∀b,H b=none∨(∃o xs,H b=some (.frz o (.lst xs)))∨(b∈ts∧H b=some (.tbl #[]))
theorem JW{P:Program}{w:World}{K:PySem.W.Frag}{mg mb:Str→Option Value}{CX:CXT}{k:Nat}{fa a:Addr}{fd:FuncData}{x:Str}{sp:Sp}{s₁:Shared}{vs:List Value}{ns:List Int}{ts:List Addr}
  (KX:K.In s₁.heap) (hns:s₁.heap.Ns mainGlobals mg) (hb:s₁.heap.Ns builtinsNs mb) (hbb:∀x:Str,x ≠ "__name__" → mb x=bootBuiltins x) (hlim:s₁.heap.NoLimit) (hg:s₁.gens = #[])
  (ha:s₁.heap.get? a=some { cls:=.type "list", data:=.seq vs.toArray }) (hi:IntsAre vs ns) (hl:ns.length≤sizeLine) (hr:Room k callerA)
  (tb:∀p∈ts,K.lookup p=none∧s₁.heap.get? p=some (PySem.W.tabObj #[])∧isCodeTable s₁.heap p)
  (hbm:BM mg s₁.heap) (F:∀base:Heap,K.In base→base.Ns mainGlobals mg→BM mg base→FnOk P w K mg base CX k fa fd [x] sp) (hbind:∀(s:Shared) (u:Value),BindsTo s fd ⟨[u],[]⟩ [(x,u)])
  (hsp:∀H F:Hp,Ls ts H→Same F H→(∀p∈ts,F p=none∧H p=some (.tbl #[]))→SqL K F a (ns.map V.int)→sp [.ref a] H (fun v H'=>v=.bl true) fun _ _ _=>False)
  (hCX:∀H e s',CX [] H s₁ (fun _ _ _=>False) e s'→False) :
  codeAny (model P w) callerA (.call (.ref fa) ⟨[.ref a],[]⟩) (fun r s'=>r=.ok (.ret (.bool true))∧OldK s₁.heap s'.heap∧s'.os=s₁.os∧AllBare s'.gens) s₁:=by
 have rv:=vals_ints hi
 have lenV:=hi.length
 have nat:a∉ts:=fun z=>by
  obtain⟨_,e,_⟩:=tb a z
  rw[ha] at e;cases e
 have core:∀H F:Hp,Ls ts H→Same F H→(∀p∈ts,F p=none∧H p=some (.tbl #[]))→SqL K F a (ns.map V.int)→HOk P w H s₁.heap→(∀b,H b≠none→b=a∨b∈ts)→(H a≠none→K.lookup a=none) →
   codeAny (model P w) callerA (.call (.ref fa) ⟨[.ref a],[]⟩) (fun r s'=>r=.ok (.ret (.bool true))∧OldK s₁.heap s'.heap∧s'.os=s₁.os∧AllBare s'.gens) s₁:=by
  intro H Fz hO fh hT hS hok hA hK
  have base_of:∀{b:Addr} {o:Obj},s₁.heap.get? b=some o→H b=none→(u7 s₁.heap H).get? b=some o:=fun e n=>Vh e n
  have noA:∀{b:Addr} {o:Obj} {es:Array DictEntry} {ep:Nat},s₁.heap.get? b=some o→o.data=.dict es ep→H b=none:=fun {b o es ep} e d=>by
   cases q:H b with
   |none=>rfl
   |some u=>
    rcases hA b (by rw[q];simp) with e' | e'
    ·subst e'
     rw[ha] at e;cases e
     have d':Data.seq vs.toArray _=Data.dict es ep:=d
     cases d'
    ·obtain⟨_,e2,_⟩:=tb b e'
     rw[e] at e2;cases e2
     cases d
  have nsK:∀{b:Addr} {m:Str→Option Value},s₁.heap.Ns b m→(u7 s₁.heap H).Ns b m:=fun {b m} ⟨o,es,ep,e,d,r⟩=>⟨o,es,ep,base_of e (noA e d),d,r⟩
  have hKb:K.In (u7 s₁.heap H):=fun b o e=>base_of (KX b o e) (by
   cases q:H b with
   |none=>rfl
   |some u=>
    rcases hA b (by rw[q];simp) with e' | e'
    ·subst e'
     rw[hK (by rw[q];simp)] at e;cases e
    ·rw[(tb b e').1] at e;cases e)
  have hM:Mod K mg (u7 s₁.heap H):=⟨hKb,nsK hns,⟨mb,nsK hb,hbb⟩,let ⟨mc,h1,h2⟩:=hlim;⟨mc,nsK h1,h2⟩⟩
  have e0:Mf P w K mg (u7 s₁.heap H) callerA [] s₁ H:=⟨rfl,hM,fun b o e=>UQ e,Nat.le_of_eq (Xz _ _),trivial,fun b hb=>absurd (show b∈([]:List Addr) from hb) (by simp),hok,.of_eq hg⟩
  have hbb:BM mg (u7 s₁.heap H):=by
   obtain⟨bm,o,b1,b2,b3,b4,b5,b6⟩:=hbm
   refine⟨bm,o,b1,b2,base_of b3 ?_,b4,b5,b6⟩
   cases q:H bm with
   |none=>rfl
   |some u=>
    rcases hA bm (by rw[q];simp) with e' | e'
    ·subst e'
     rw[ha] at b3;cases b3;cases b6
    ·obtain⟨_,e2,_⟩:=tb bm e'
     rw[b3] at e2;cases e2;cases b6
  refine codeAny_mono ((F _ hKb (nsK hns) hbb).run callerA [] s₁ H ⟨[.ref a],[]⟩ [.ref a] [.ref a] _ _ hr e0 (hbind s₁ (.ref a)) (.cons rfl .nil) (hsp H Fz hO fh hT hS)) fun r s' h=>?_
  cases r with
  |error e=>exact(hCX H e s' h).elim
  |ok fl=>
   cases fl with
   |next=>exact False.elim h
   |brk=>exact False.elim h
   |cont=>exact False.elim h
   |ret u=>
    obtain⟨v,H',os,bare,un,hok',r',q'⟩:=h
    subst q'
    obtain rfl:u=Value.bool true:=r'
    have was:∀b o,s₁.heap.get? b=some o→asItWas s₁.heap s'.heap b o:=fun b o e=>by
     cases q:H b with
     |none=>exact .inl (un.keep b o e q (by intro z;exact absurd (show b∈([]:List Addr) from z) (by simp)) (by simp))
     |some u=>
      rcases hO b with z|⟨ob,xs,z⟩|⟨hb,z⟩
      ·rw[q] at z;cases z
      ·have z2:=un.frzs b ob _ z
       obtain⟨e1,_⟩:=hok b _ z
       obtain⟨e2,_⟩:=hok' b _ z2
       rw[e] at e1;cases e1
       exact .inl e2
      ·obtain⟨more,z2⟩:=un.tbls b _ z
       have e2:s'.heap.get? b=some { cls:=.none,data:=.fields (#[]++more) }:=hok' b _ z2
       obtain⟨_,e3,e4⟩:=tb b hb
       rw[e] at e3;cases e3
       exact .inr (.inl ⟨e4,rfl,#[],more,rfl,e2⟩)
    refine⟨rfl,⟨was,fun b o e=>?_⟩,os,bare⟩
    obtain⟨o',e'⟩:=un.there b o e (by simp)
    exact⟨o',e'⟩
 cases hk:K.lookup a with
 |some o=>
  have e:=KX a o hk
  rw[ha] at e
  cases e
  refine core (fun b=>if b∈ts then some (.tbl #[]) else none) (fun _=>none) (fun b=>?_) (fun _ _ z=>nomatch z) (fun p hp=>⟨rfl,if_pos hp⟩) (.inr ⟨_,vs.toArray,_,hk,rfl,rfl,rfl,by rw[size_toArray,lenV];exact hl,by simpa using rv⟩) (fun b u z=>?_) (fun b z=>?_) fun z=>absurd (if_neg nat) z
  ·by_cases h:b∈ts
   ·exact .inr (.inr ⟨h,if_pos h⟩)
   ·exact .inl (if_neg h)
  ·by_cases h:b∈ts
   ·have z':=(if_pos h).symm.trans z
    cases z'
    exact(tb b h).2.1
   ·have z':=(if_neg h).symm.trans z
    cases z'
  ·by_cases h:b∈ts
   ·exact .inr h
   ·exact absurd (if_neg h) z
 |none=>
  refine core (fun b=>if b∈ts then some (.tbl #[]) else if b=a then some (.frz { cls:=.type "list", data:=.seq vs.toArray } (.lst (ns.map V.int))) else none) (fun b=>if b=a then some (.frz { cls:=.type "list", data:=.seq vs.toArray } (.lst (ns.map V.int))) else none) (fun b=>?_) (fun b o z=>?_) (fun p hp=>⟨if_neg (fun z:p=a=>nat (z ▸ hp)),if_pos hp⟩) (.inl (.inr ⟨{ cls:=.type "list", data:=.seq vs.toArray },if_pos rfl⟩)) (fun b u z=>?_) (fun b z=>?_) fun _=>hk
  ·by_cases h:b∈ts
   ·exact .inr (.inr ⟨h,if_pos h⟩)
   ·by_cases hb:b=a
    ·exact .inr (.inl ⟨_,_,(if_neg h).trans (if_pos hb)⟩)
    ·exact .inl ((if_neg h).trans (if_neg hb))
  ·by_cases hb:b=a
   ·have z':=(if_pos hb).symm.trans z
    cases z'
    subst hb
    exact(if_neg nat).trans (if_pos rfl)
   ·have z':=(if_neg hb).symm.trans z
    cases z'
  ·by_cases h:b∈ts
   ·have z':=(if_pos h).symm.trans z
    cases z'
    exact(tb b h).2.1
   ·have z1:=(if_neg h).symm.trans z
    by_cases hb:b=a
    ·have z':=(if_pos hb).symm.trans z1
     cases z'
     subst hb
     exact⟨ha,by rw[length_map];exact hl,vs,_,rv,ha⟩
    ·have z':=(if_neg hb).symm.trans z1
     cases z'
  ·by_cases h:b∈ts
   ·exact .inr h
   ·by_cases hb:b=a
    ·exact .inl hb
    ·exact absurd ((if_neg h).trans (if_neg hb)) z
theorem W2{K:PySem.W.Frag}{p:Addr}(h:p∉K.map (·.1)):K.lookup p=none:=by
 rw[show K.lookup p=List.lookup p K from rfl,List.lookup_eq_none_iff]
 intro q hq
 simp only[bne_iff_ne,ne_eq,beq_eq_false_iff_ne]
 intro z
 exact h (mem_map.mpr ⟨q,hq,z.symm⟩)
def Md(K:PySem.W.Frag):Prop:=∀r∈Tabs.rows,∃c,PySem.W.codeHdIn K c r.1=true
theorem walkM{l:PySem.W.OpenLaw}{q:Program}{loose:List Str}{XP:(Str→Option Value)→Heap→Prop}{d:DefRec}{K:Params→PySem.W.Frag}{k:Nat}{p:Str}{as ts:List Addr}{has:∀P,as=(K P).map (·.1)}(hn:l.most=some 63)(hdf:d.params.defaults=[])(hk:Room k callerA)
  (hts:(Tabs.rows.all fun r=>ts.contains r.1 && !as.contains r.1)=true)
  (F:∀(w:World) (mg:Str→Option Value) (fa:Addr) (h:Heap),(K w.params).In h→h.Ns mainGlobals mg→mg d.name=some (.ref fa)→Md (K w.params) ∧
   ∃fd:FuncData,(∀(s:Shared) (u:Value),BindsTo s fd ⟨[u],[]⟩ [(p,u)])∧∀base:Heap,(K w.params).In base→base.Ns mainGlobals mg→BM mg base→FnOk l.prog w (K w.params) mg base CX0 k fa fd [p] (Xf (K w.params))) :
  PySem.W.WalkO q loose XP (PySem.W.kmHook K as has ts).says l.row.toRowW d [] (fun f vs=>PySem.call f vs):=by
 refine Att.attach_call hn hdf fun w s₀ s₁ mg mb fa o pm cd doc a vs ns G Y ho hd hcd hmg hobj hints hlen hg=>?_
 have KX:=PySem.W.km_in_of Y
 have hT:=PySem.W.km_tabs_of Y
 obtain⟨tin,fd,hb,hF⟩:=F w mg fa _ KX G.T.g hmg
 refine JW (ts:=Tabs.rows.map (·.1)) (CX:=CX0) (sp:=Xf (K w.params)) KX G.T.g G.T.b G.T.builtins G.T.nolimit hg hobj hints (le_trans hlen (by decide)) hk (fun p hp=>?_) ?_ hF hb (fun H Fz hO fh hT hS=>⟨a,ns,Fz,rfl,fh,⟨fun r hr=>?_,fun d b e=>(by rcases hO d with z|⟨_,_,z⟩|⟨_,z⟩ <;> (rw[z] at e;cases e))⟩,hS,hlen,fun _=>rfl⟩) fun H e s' z=>z
 ·obtain⟨r,hr,rfl⟩:=mem_map.mp hp
  have z:=List.all_eq_true.mp hts r hr
  rw[Bool.and_eq_true] at z
  have hp':=hT r.1 (by simpa using z.1)
  obtain⟨c,hc⟩:=tin r hr
  refine⟨W2 (by rw[← has];simpa using z.2),hp',?_⟩
  exact((PySem.W.codeHd_of_K KX hc).tab hp').isCodeTable
 ·obtain⟨bm,ob,b1,b2,b3,b4,b5,b6⟩:=G.T.bmain
  exact⟨bm,ob,b1,b2,b3,b4,b5,b6⟩
 ·obtain⟨h1,h2⟩:=hT r.1 (mem_map.mpr ⟨r,hr,rfl⟩)
  exact⟨h1,.inl h2⟩
open PySem.W
def lxI:List Int→List Int→Bool
 |[],[]=>false
 |[],_::_=>true
 |_::_,[]=>false
 |a::x,b::y=>if a=b then lxI x y else decide (a<b)
theorem Ys:∀x:List Int,lxI x x=false
 |[]=>rfl
 |a::x=>by rw[lxI,if_pos rfl];exact Ys x
theorem UU:∀x y:List Int,lxI x y=false→lxI y x=false→x=y
 |[],[],_,_=>rfl
 |[],_::_,h,_=>by simp[lxI] at h
 |_::_,[],_,h=>by simp[lxI] at h
 |a::x,b::y,h1,h2=>by
  rw[lxI] at h1 h2
  by_cases e:a=b
  ·subst e
   rw[if_pos rfl] at h1 h2
   rw[UU x y h1 h2]
  ·rw[if_neg e] at h1
   rw[if_neg (Ne.symm e)] at h2
   simp only[decide_eq_false_iff_not] at h1 h2
   omega
theorem wn:∀x y z:List Int,lxI x y=true→lxI y z=true→lxI x z=true
 |[],[],_,h,_=>by simp[lxI] at h
 |_::_,[],_,h,_=>by simp[lxI] at h
 |_,_::_,[],_,h=>by simp[lxI] at h
 |[],_::_,_::_,_,_=>rfl
 |a::x,b::y,c::z,h1,h2=>by
  rw[lxI] at h1 h2 ⊢
  by_cases e:a=b
  ·subst e
   rw[if_pos rfl] at h1
   by_cases e2:a=c
   ·subst e2;rw[if_pos rfl] at h2 ⊢;exact wn x y z h1 h2
   ·rw[if_neg e2] at h2 ⊢;exact h2
  ·rw[if_neg e] at h1
   simp only[decide_eq_true_eq] at h1
   by_cases e2:b=c
   ·subst e2;rw[if_neg e];simpa using h1
   ·rw[if_neg e2] at h2
    simp only[decide_eq_true_eq] at h2
    rw[if_neg (by omega)];simp only[decide_eq_true_eq];omega
theorem Xm{x y:List Int}(h:lxI x y=true):lxI y x=false:=by
 cases q:lxI y x with
 |false=>rfl
 |true=>have:=wn x y x h q;rw[Ys] at this;cases this
theorem ZS{x y:List Int}(h:lxI x y=false)(n:x≠y):lxI y x=true:=by
 cases q:lxI y x with
 |true=>rfl
 |false=>exact absurd (UU x y h q) n
def Pw{α:Type}(lt:Nat→Nat→Bool)(n:Nat):KasT α→(α→Prop)→Prop
 |.ret a,G=>G a
 |.ask i j k,G=>i<n∧j<n∧Pw lt n (k (lt i j)) G
section
variable{lt:Nat→Nat→Bool}{n:Nat}
theorem QN{α:Type}{t u:KasT α}{G:α→Prop}(h:Pw lt n t G):Pw lt n (if true=true then t else u) G:=by rw[if_pos rfl];exact h
theorem LI{α:Type}{t u:KasT α}{G:α→Prop}(h:Pw lt n u G):Pw lt n (if false=true then t else u) G:=by rw[if_neg (by simp)];exact h
theorem Pw.bind{α β:Type}{f:α→KasT β}{G:β→Prop}:∀(t:KasT α),Pw lt n t (fun a=>Pw lt n (f a) G)→Pw lt n (t.bind f) G
 |.ret _,h=>h
 |.ask i j k,h=>⟨h.1,h.2.1,Pw.bind (k (lt i j)) h.2.2⟩
theorem Pw.mono{α:Type}{G G':α→Prop}(hg:∀a,G a→G' a):∀(t:KasT α),Pw lt n t G→Pw lt n t G'
 |.ret a,h=>hg a h
 |.ask i j k,h=>⟨h.1,h.2.1,Pw.mono hg (k (lt i j)) h.2.2⟩
theorem Pw.wp{α:Type}{cmp:Nat→Nat→(Bool→Shared→Prop)→Shared→Prop}{s:Shared}(hc:∀(i j:Nat) (C:Bool→Shared→Prop),i<n→j<n→C (lt i j) s→cmp i j C s){G:α→Prop}{Q:α→Shared→Prop}(hq:∀a,G a→Q a s) :
  ∀(t:KasT α),Pw lt n t G→t.kasWp cmp Q s
 |.ret a,h=>hq a h
 |.ask i j k,h=>hc i j _ h.1 h.2.1 (Pw.wp hc hq (k (lt i j)) h.2.2)
end
section
variable{n:Nat}{κ:Nat→List Int}{p:Array Nat}
abbrev ltK(κ:Nat→List Int)(i j:Nat):Bool:=lxI (κ i) (κ j)
abbrev gK(κ:Nat→List Int)(p:Array Nat)(k:Nat):List Int:=κ (p.getD k 0)
abbrev PmK(n:Nat)(p:Array Nat):Prop:=p.toList.Perm (List.range n)
theorem xT{p:Array Nat}(k:Nat):p.getD k 0=(p[k]?).getD 0:=by simp
theorem ZQ(h:PmK n p):p.size=n:=by have:=h.length_eq;simpa using this
theorem vW(h:PmK n p)(hn:0<n)(k:Nat):p.getD k 0<n:=by
 rw[xT]
 cases q:p[k]? with
 |none=>exact hn
 |some v=>
  have hv:v∈p.toList:=by
   have q':p.toList[k]?=some v:=by rw[← q];simp
   exact mem_of_getElem? q'
  have:=h.mem_iff.mp hv
  simpa using this
theorem LO(h:PmK n p){i j:Nat}(hi:i<n)(hj:j<n)(hij:i≠j):p.getD i 0≠p.getD j 0:=by
 have nd:p.toList.Nodup:=h.symm.nodup List.nodup_range
 have sz:=ZQ h
 have key:∀a b:Nat,a<b→b<n→p.getD a 0≠p.getD b 0:=fun a b hab hb=>by
  have ha':a<p.toList.length:=by simp[sz];omega
  have hb':b<p.toList.length:=by simp[sz];omega
  have:=List.pairwise_iff_getElem.mp nd a b ha' hb' hab
  rw[xT,xT]
  have ea:p[a]?=some p.toList[a]:=by rw[getElem_toList];exact Array.getElem?_eq_getElem _
  have eb:p[b]?=some p.toList[b]:=by rw[getElem_toList];exact Array.getElem?_eq_getElem _
  rw[ea,eb]
  exact this
 rcases lt_or_ge i j with z|z
 ·exact key i j z hj
 ·exact(key j i (by omega) hi).symm
def Srt(κ:Nat→List Int)(p:Array Nat)(a:Nat):Prop:=∀i j,i<j→j<a→lxI (gK κ p i) (gK κ p j)=true
def Dsc(κ:Nat→List Int)(p:Array Nat)(a:Nat):Prop:=∀i j,i<j→j<a→lxI (gK κ p j) (gK κ p i)=true
variable(inj:∀i j,i<n→j<n→κ i=κ j→i=j)
include inj
theorem zc6(h:PmK n p){i j:Nat}(hi:i<n)(hj:j<n)(hij:i≠j):gK κ p i≠gK κ p j:=fun e=>
 LO h hi hj hij (inj _ _ (vW h (by omega) i) (vW h (by omega) j) e)
theorem Qv(h:PmK n p){a:Nat}(hs:Srt κ p a)(h1:1≤a)(ha:a<n)(e:lxI (gK κ p a) (gK κ p (a-1))=false):Srt κ p (a+1):=fun i j hij hj=>by
 rcases lt_or_ge j a with z|z
 ·exact hs i j hij z
 ·obtain rfl:j=a:=by omega
  have l:=ZS e (zc6 inj h ha (by omega) (by omega))
  by_cases hi:i=j-1
  ·subst hi;exact l
  ·exact wn _ _ _ (hs i (j-1) (by omega) (by omega)) l
omit inj in
theorem Vt{a:Nat}(hs:Dsc κ p a)(h1:1≤a)(e:lxI (gK κ p a) (gK κ p (a-1))=true):Dsc κ p (a+1):=fun i j hij hj=>by
 rcases lt_or_ge j a with z|z
 ·exact hs i j hij z
 ·obtain rfl:j=a:=by omega
  by_cases hi:i=j-1
  ·subst hi;exact e
  ·exact wn _ _ _ e (hs i (j-1) (by omega) (by omega))
theorem Ul(hp:PmK n p):∀(f a:Nat),1≤a→a+f≤n→Srt κ p a →
  Pw (ltK κ) n (kas_asc p f a) fun m=>a≤m∧m≤a+f∧Srt κ p m∧(m<a+f→lxI (gK κ p m) (gK κ p (m-1))=true)
 |0,a,h1,h2,hs=>⟨le_refl _,le_refl _,hs,fun z=>absurd z (lt_irrefl _)⟩
 |f+1,a,h1,h2,hs=>by
  unfold kas_asc
  refine⟨vW hp (by omega) _,vW hp (by omega) _,?_⟩
  cases e:ltK κ (p.getD a 0) (p.getD (a-1) 0) with
  |true=>
   refine QN ?_
   exact⟨le_refl _,by omega,hs,fun _=>e⟩
  |false=>
   refine LI ?_
   refine Pw.mono (fun m ⟨q1,q2,q3,q4⟩=>⟨by omega,by omega,q3,fun z=>q4 (by omega)⟩) _ (Ul hp f (a+1) (by omega) (by omega) (Qv inj hp hs h1 (by omega) e))
theorem Jh(hp:PmK n p):∀(f a:Nat),1≤a→a+f≤n→Dsc κ p a →
  Pw (ltK κ) n (kas_desc f p a 0) fun r=>r.1=p∧r.2.2=0∧a≤r.2.1∧r.2.1≤a+f∧Dsc κ p r.2.1
 |0,a,h1,h2,hs=>⟨rfl,rfl,le_refl _,le_refl _,hs⟩
 |f+1,a,h1,h2,hs=>by
  unfold kas_desc
  refine⟨vW hp (by omega) _,vW hp (by omega) _,?_⟩
  cases e:ltK κ (p.getD a 0) (p.getD (a-1) 0) with
  |true=>
   refine QN ?_
   rw[if_neg (by omega)]
   refine Pw.mono (fun m ⟨q1,q2,q3,q4,q5⟩=>⟨q1,q2,by omega,by omega,q5⟩) _ (Jh hp f (a+1) (by omega) (by omega) (Vt hs h1 e))
  |false=>
   refine LI ?_
   refine⟨vW hp (by omega) _,vW hp (by omega) _,?_⟩
   have e2:ltK κ (p.getD (a-1) 0) (p.getD a 0)=true:=ZS e (zc6 inj hp (by omega) (by omega) (by omega))
   rw[e2]
   refine QN ?_
   exact⟨rfl,rfl,le_refl _,Nat.le_add_right _ _,hs⟩
omit inj in
theorem Ll(hp:PmK n p){m:Nat}(hm:m≤n)(k:Nat):gK κ (kas_rev p 0 m) k=if k<m then gK κ p (m-1-k) else gK κ p k:=by
 unfold gK
 rw[xT,show(kas_rev p 0 m)[k]?=_ from getElem?_mirror_all (by rw[ZQ hp];exact hm) k]
 by_cases z:k<m
 ·rw[if_pos ⟨zero_le _,z⟩,if_pos z,← xT,zero_add]
 ·rw[if_neg (fun y=>z y.2),if_neg z,← xT]
omit inj in
theorem QV(hp:PmK n p)(i j:Nat):PmK n (kas_rev p i j):=(Array.perm_iff_toList_perm.mp (mirror_perm p i j ((j-i) / 2))).trans hp
omit inj in
theorem Ms(hp:PmK n p){m:Nat}(hm:m≤n)(hd:Dsc κ p m):Srt κ (kas_rev p 0 m) m:=fun i j hij hj=>by
 rw[Ll hp hm,Ll hp hm,if_pos (by omega),if_pos hj]
 exact hd _ _ (by omega) (by omega)
theorem Qt(hp:PmK n p){m:Nat}(h1:1≤m)(hm:m≤n)(hd:Dsc κ p m):Pw (ltK κ) n (kas_tail3 m n p) fun r=>PmK n r.2∧1≤r.1∧r.1≤n∧Srt κ r.2 r.1:=by
 unfold kas_tail3
 refine Pw.bind _ (Pw.mono (fun m' ⟨q1,q2,q3,q4⟩=>?_) _ (Ul inj (QV hp 0 m) (n-m) m h1 (by omega) (Ms hp hm hd)))
 exact⟨QV hp 0 m,by omega,by omega,q3⟩
theorem G0(hp:PmK n p)(hn:2≤n):Pw (ltK κ) n (kas_count n p) fun r=>PmK n r.2∧1≤r.1∧r.1≤n∧Srt κ r.2 r.1:=by
 unfold kas_count
 refine Pw.bind _ (Pw.mono (fun m ⟨q1,q2,q3,q4⟩=>?_) _ (Ul inj hp (n-1) 1 (le_refl _) (by omega) fun i j hij hj=>by omega))
 by_cases e:m=n
 ·rw[if_pos (by simpa using e)]
  exact⟨hp,by omega,by omega,q3⟩
 ·rw[if_neg (by simpa using e)]
  have l:=q4 (by omega)
  by_cases z:m > 1
  ·rw[if_pos z]
   refine⟨vW hp (by omega) _,vW hp (by omega) _,?_⟩
   have:ltK κ (p.getD 0 0) (p.getD (m-1) 0)=true:=q3 0 (m-1) (by omega) (by omega)
   rw[this]
   refine QN ?_
   exact⟨hp,by omega,by omega,q3⟩
  ·rw[if_neg z]
   obtain rfl:m=1:=by omega
   unfold kas_descPart
   have d1:Dsc κ p 1:=fun i j hij hj=>by omega
   refine Pw.bind _ (Pw.mono (fun r ⟨r1,r2,r3,r4,r5⟩=>?_) _ (Jh inj hp (n-(1+1)) (1+1) (by omega) (by omega) (Vt d1 (le_refl _) l)))
   rw[if_neg (by omega),r1]
   exact Qt inj hp (by omega) (by omega) r5
theorem Yd(hp:PmK n p){k:Nat}(hk:k<n)(hs:Srt κ p k):∀(f l r:Nat),l≤r→r≤k→r-l≤f→(∀i,i<l→lxI (gK κ p i) (gK κ p k)=true)→(∀i,r≤i→i<k→lxI (gK κ p k) (gK κ p i)=true) →
  Pw (ltK κ) n (kas_place p k f l r) fun m=>m≤k∧(∀i,i<m→lxI (gK κ p i) (gK κ p k)=true)∧(∀i,m≤i→i<k→lxI (gK κ p k) (gK κ p i)=true)
 |0,l,r,h1,h2,h3,h4,h5=>by
  obtain rfl:l=r:=by omega
  exact⟨h2,h4,h5⟩
 |f+1,l,r,h1,h2,h3,h4,h5=>by
  unfold kas_place
  by_cases z:l ≥ r
  ·rw[if_pos z]
   obtain rfl:l=r:=by omega
   exact⟨h2,h4,h5⟩
  ·rw[if_neg z]
   refine⟨vW hp (by omega) _,vW hp (by omega) _,?_⟩
   cases e:ltK κ (p.getD k 0) (p.getD ((l+r) / 2) 0) with
   |true=>
    refine QN ?_
    refine Yd hp hk hs f l ((l+r) / 2) (by omega) (by omega) (by omega) h4 fun i hi hik=>?_
    by_cases q:i=(l+r) / 2
    ·subst q;exact e
    ·exact wn _ _ _ e (hs _ i (by omega) hik)
   |false=>
    refine LI ?_
    refine Yd hp hk hs f ((l+r) / 2+1) r (by omega) (by omega) (by omega) (fun i hi=>?_) h5
    have e2:=ZS e (zc6 inj hp hk (by omega) (by omega))
    by_cases q:i=(l+r) / 2
    ·subst q;exact e2
    ·exact wn _ _ _ (hs i _ (by omega) (by omega)) e2
omit inj in
theorem Lm(hp:PmK n p){k l:Nat}(hk:k<n)(hl:l≤k)(i:Nat):gK κ (bubble p k (k-l)) i=if i=l then gK κ p k else if l<i∧i≤k then gK κ p (i-1) else gK κ p i:=by
 unfold gK
 rw[xT,getElem?_bubble (by rw[ZQ hp];exact hk) (k-l) (by omega) i,show k-(k-l)=l by omega]
 split
 ·rw[← xT]
 ·split
  ·rw[← xT]
  ·rw[← xT]
theorem G4:∀(f:Nat) (p:Array Nat) (k:Nat),PmK n p→k+f=n→Srt κ p k→Pw (ltK κ) n (kas_bin f p k) fun q=>PmK n q∧Srt κ q n
 |0,p,k,hp,e,hs=>by
  obtain rfl:k=n:=by omega
  exact⟨hp,hs⟩
 |f+1,p,k,hp,e,hs=>by
  unfold kas_bin
  refine Pw.bind _ (Pw.mono (fun l ⟨q1,q2,q3⟩=>?_) _ (Yd inj hp (by omega) hs k 0 k (zero_le _) (le_refl _) (by omega) (fun i hi=>by omega) (fun i hi hik=>by omega)))
  refine G4 f _ (k+1) ((Array.perm_iff_toList_perm.mp (bubble_perm p k (k-l))).trans hp) (by omega) fun i j hij hj=>?_
  rw[Lm hp (by omega) q1,Lm hp (by omega) q1]
  by_cases a1:i=l
  ·rw[if_pos a1,if_neg (by omega),if_pos (by omega)]
   exact q3 _ (by omega) (by omega)
  ·rw[if_neg a1]
   by_cases a2:l<i∧i≤k
   ·rw[if_pos a2,if_neg (by omega),if_pos (by omega)]
    exact hs _ _ (by omega) (by omega)
   ·rw[if_neg a2]
    by_cases b1:j=l
    ·rw[if_pos b1];exact q2 _ (by omega)
    ·rw[if_neg b1]
     by_cases b2:l<j∧j≤k
     ·rw[if_pos b2]
      by_cases c:i=j-1
      ·omega
      ·exact hs _ _ (by omega) (by omega)
     ·rw[if_neg b2];exact hs _ _ hij (by omega)
theorem Mx(hn:2≤n):Pw (ltK κ) n (kas_sort n) fun q=>PmK n q∧Srt κ q n:=by
 unfold kas_sort
 refine Pw.bind _ (Pw.mono (fun r ⟨q1,q2,q3,q4⟩=>?_) _ (G0 inj (p:=List.toArray (List.range n)) (by show(List.toArray (List.range n)).toList.Perm _;simp) hn))
 by_cases z:r.1<n
 ·rw[if_pos z,Nat.max_eq_left q2]
  exact G4 inj _ _ _ q1 (by omega) q4
 ·rw[if_neg z]
  obtain e:r.1=n:=by omega
  rw[e] at q4
  exact⟨q1,q4⟩
end
def Yz{α:Type}(x:List Int×α):List (List Int×α)→List (List Int×α)
 |[]=>[x]
 |y::r=>if lxI x.1 y.1=true then x::y::r else y::Yz x r
def xF{α:Type}:List (List Int×α)→List (List Int×α)
 |[]=>[]
 |x::r=>Yz x (xF r)
theorem Zg{α:Type}(x:List Int×α):∀l,(Yz x l).Perm (x::l)
 |[]=>List.Perm.refl _
 |y::r=>by
  unfold Yz
  split
  ·exact List.Perm.refl _
  ·exact((Zg x r).cons y).trans (List.Perm.swap x y r)
theorem wR{α:Type}:∀l:List (List Int×α),(xF l).Perm l
 |[]=>List.Perm.refl _
 |x::r=>(Zg x _).trans ((wR r).cons x)
theorem Vf{α:Type}(x:List Int×α):∀l:List (List Int×α),l.Pairwise (fun a b=>lxI a.1 b.1=true)→(∀y∈l,y.1≠x.1)→(Yz x l).Pairwise fun a b=>lxI a.1 b.1=true
 |[],_,_=>by unfold Yz;simp
 |y::r,h,hd=>by
  unfold Yz
  obtain⟨h1,h2⟩:=pairwise_cons.mp h
  split
  ·rename_i z
   refine pairwise_cons.mpr ⟨fun a ha=>?_,h⟩
   rcases mem_cons.mp ha with rfl|ha
   ·exact z
   ·exact wn _ _ _ z (h1 a ha)
  ·rename_i z
   have z':lxI y.1 x.1=true:=ZS (by simpa using z) (hd y mem_cons_self).symm
   refine pairwise_cons.mpr ⟨fun a ha=>?_,Vf x r h2 fun a ha=>hd a (mem_cons_of_mem _ ha)⟩
   rcases mem_cons.mp ((Zg x r).mem_iff.mp ha) with rfl|ha
   ·exact z'
   ·exact h1 a ha
theorem jX{α:Type}:∀l:List (List Int×α),(l.map (·.1)).Nodup→(xF l).Pairwise fun a b=>lxI a.1 b.1=true
 |[],_=>by unfold xF;exact List.Pairwise.nil
 |x::r,h=>by
  unfold xF
  rw[map_cons,nodup_cons] at h
  refine Vf x _ (jX r h.2) fun y hy e=>h.1 ?_
  rw[← e]
  exact mem_map.mpr ⟨y,(wR r).mem_iff.mp hy,rfl⟩
theorem j0{α:Type}{r:α→α→Prop}(as:∀a b,r a b→r b a→False):∀{l m:List α},l.Perm m→l.Pairwise r→m.Pairwise r→l=m
 |[],m,p,_,_=>(List.Perm.nil_eq p)
 |a::l,[],p,_,_=>by have:=p.length_eq;simp at this
 |a::l,b::m,p,h1,h2=>by
  obtain⟨x1,x2⟩:=pairwise_cons.mp h1
  obtain⟨y1,y2⟩:=pairwise_cons.mp h2
  by_cases e:a=b
  ·subst e
   rw[j0 as ((List.perm_cons a).mp p) x2 y2]
  ·have ha:a∈b::m:=p.mem_iff.mp mem_cons_self
   have hb:b∈a::l:=p.mem_iff.mpr mem_cons_self
   rcases mem_cons.mp ha with z|z
   ·exact absurd z e
   ·rcases mem_cons.mp hb with w|w
    ·exact absurd w.symm e
    ·exact(as a b (x1 b w) (y1 a z)).elim
theorem VM{α:Type}{l m:List (List Int×α)}(p:l.Perm m)(h:l.Pairwise fun a b=>lxI a.1 b.1=true)(nd:(m.map (·.1)).Nodup):l=xF m:=
 j0 (fun a b x y=>by rw[Xm x] at y;cases y) (p.trans (wR m).symm) h (jX m nd)
theorem WC{α:Type}{ks:List (List Int)}{ds:List α}{q:Array Nat}{d:α}(hl:ks.length=ds.length)(nd:ks.Nodup)(hp:q.toList.Perm (List.range ds.length))(hs:Srt (fun i=>ks.getD i []) q ds.length) :
  q.toList.map (fun i=>ds.getD i d)=(xF (ks.zip ds)).map (·.2):=by
 have hz:(ks.zip ds).map (·.1)=ks:=List.map_fst_zip (by omega)
 have e0:(List.range ds.length).map (fun i=>(ks.getD i [],ds.getD i d))=ks.zip ds:=by
  apply ext_getElem
  ·simp[hl]
  ·intro i h1 h2
   have a1:i<ds.length:=by simpa using h1
   have a2:i<ks.length:=by omega
   simp[a1,a2]
 have key:q.toList.map (fun i=>(ks.getD i [],ds.getD i d))=xF (ks.zip ds):=by
  refine VM (by rw[← e0];exact hp.map _) ?_ (by rw[hz];exact nd)
  rw[pairwise_map,List.pairwise_iff_getElem]
  intro i j hi hj hij
  have sz:q.size=ds.length:=ZQ hp
  have:=hs i j hij (by simpa[sz] using hj)
  unfold gK at this
  rw[xT,xT] at this
  have ea:q[i]?=some q.toList[i]:=by rw[getElem_toList];exact Array.getElem?_eq_getElem _
  have eb:q[j]?=some q.toList[j]:=by rw[getElem_toList];exact Array.getElem?_eq_getElem _
  rw[ea,eb] at this
  exact this
 rw[← key,map_map]
 rfl
open PySem.W
def KTs(h:Heap):List Value→List (List Int)→Prop
 |[],[]=>True
 |v::vs,k::ks=>(∃a o its n,v=Value.ref a∧h.get? a=some o∧o.cls=.type "tuple" ∧ o.data=.seq its n∧IntsAre its.toList k∧k≠[])∧KTs h vs ks
 |_,_=>False
theorem KTs.len{h:Heap}:∀{vs:List Value} {ks:List (List Int)},KTs h vs ks→vs.length=ks.length
 |[],[],_=>rfl
 |_::vs,_::ks,r=>by rw[length_cons,length_cons,KTs.len r.2]
 |[],_::_,r=>r.elim
 |_::_,[],r=>r.elim
theorem KTs.get{h:Heap}:∀{vs:List Value} {ks:List (List Int)} {i:Nat},KTs h vs ks→i<ks.length→∃a o its n,vs.getD i Value.none=Value.ref a∧h.get? a=some o∧o.cls=.type "tuple" ∧ o.data=.seq its n∧IntsAre its.toList (ks.getD i [])∧ks.getD i []≠[]
 |[],[],_,_,hi=>by simp at hi
 |_::vs,_::ks,0,r,_=>by simpa using r.1
 |_::vs,_::ks,i+1,r,hi=>by
  obtain⟨a,o,its,n,q⟩:=KTs.get (i:=i) r.2 (by simpa using hi)
  exact⟨a,o,its,n,by simpa using q⟩
 |[],_::_,_,r,_=>r.elim
 |_::_,[],_,r,_=>r.elim
theorem KTs.firsts{h:Heap}:∀{vs:List Value} {ks:List (List Int)},KTs h vs ks→∃fs:List Value,KatTups h vs fs∧fs.length=vs.length∧∀v∈fs,∃n t,v=Value.int n t
 |[],[],_=>⟨[],KatTups.nil,rfl,fun _ z=>nomatch z⟩
 |v::vs,k::ks,⟨⟨a,o,its,n,e1,e2,e3,e4,e5,e6⟩,r⟩=>by
  obtain⟨fs,q1,q2,q3⟩:=KTs.firsts r
  subst e1
  have:∃i t,its[0]?=some (Value.int i t):=by
   obtain⟨l⟩:=its
   cases e5 with
   |nil=>exact absurd rfl e6
   |cons i t _=>exact⟨i,t,rfl⟩
  obtain⟨i,t,h0⟩:=this
  refine⟨_,KatTups.cons e2 e3 e4 h0 q1,by simp[q2],fun v hv=>?_⟩
  rcases mem_cons.mp hv with rfl|hv
  ·exact⟨_,_,rfl⟩
  ·exact q3 v hv
 |[],_::_,r=>r.elim
 |_::_,[],r=>r.elim
section
variable{prog:Program}{w:World}{A:Around}{E:Value→Shared→Prop}{s:Shared}
theorem Xt{vs:List Value}{ks:List (List Int)}{Q:SortKind→Shared→Prop}(h:KTs s.heap vs ks)(hn:0<vs.length)(q:Q (tuples' true) s):wpAny (model prog w) A (keyKind' vs.toArray) Q E s:=by
 obtain⟨fs,q1,q2,q3⟩:=h.firsts
 refine kat_kind (T:=.type "int") q1 (by omega) (fun v hv=>?_) (by decide) q
 obtain⟨i,t,rfl⟩:=q3 v hv
 exact Looks.now
theorem W4{Q:Bool→Shared→Prop}{fin:Bool}:∀{xs ys:List Int} {us ws:List Value} (i:Nat),IntsAre us xs→IntsAre ws ys→fin=decide (xs.length<ys.length)→Q (lxI xs ys) s→KatLex prog w A true fin Q (us.zip ws) i s
 |_,_,_,_,i,.nil,.nil,e,q=>by
  have e:fin=false:=by simpa using e
  subst e
  exact kat_nil q
 |_,_,_,_,i,.nil,.cons _ _ _,e,q=>by
  have e:fin=true:=by simpa using e
  subst e
  exact kat_nil q
 |_,_,_,_,i,.cons _ _ _,.nil,e,q=>by
  have e:fin=false:=by simpa using e
  subst e
  exact kat_nil q
 |_,_,_,_,i,.cons a t r1,.cons b u r2,e,q=>by
  rw[lxI] at q
  refine kat_cons (wpAny_eqBool_int ?_)
  by_cases z:a=b
  ·subst z
   rw[if_pos rfl] at q
   rw[beq_self_eq_true]
   exact kat_yes (W4 (i+1) r1 r2 (by rw[e];simp) q)
  ·rw[if_neg z] at q
   rw[show(a==b)=false by simpa using z]
   refine kat_no ?_
   cases hi:(true&&i==0) with
   |true=>exact oneLt_int q
   |false=>exact kat_one _ _ (PyProof.Rows.lt_int (show PySem.W.BoolBack Q (.bool (decide (a<b))) s from q))
theorem G9{vs:List Value}{ks:List (List Int)}{n:Nat}(h:KTs s.heap vs ks)(hn:ks.length=n)(i j:Nat)(C:Bool→Shared→Prop)(hi:i<n)(hj:j<n)(q:C (ltK (fun i=>ks.getD i []) i j) s):kas_ask prog w A (tuples' true) vs i j C s:=by
 obtain⟨a,o,its,m,e1,e2,e3,e4,e5,e6⟩:=h.get (i:=i) (by omega)
 obtain⟨a',o',its',m',f1,f2,f3,f4,f5,f6⟩:=h.get (i:=j) (by omega)
 unfold kas_ask
 rw[e1,f1]
 refine kat_lt e2 e4 f2 f4 (W4 0 e5 f5 ?_ q)
 have l1:=e5.length
 have l2:=f5.length
 rw[length_toList] at l1 l2
 rw[l1,l2]
theorem WI{vs us:List Value}{ks:List (List Int)}{Q:SortSt→Shared→Prop}(h:KTs s.heap vs ks)(hl:vs.length=us.length)(h2:2≤us.length)(h64:us.length<64)(nd:ks.Nodup)
  (q:∀(p:Array Nat) (st:SortSt),PmK us.length p→Srt (fun i=>ks.getD i []) p us.length→(arrOf st).map (·.2)=List.toArray (p.toList.map fun i=>us.getD i Value.none)→failedOf st=none→Q st s) :
  wpAny (model prog w) A ((sortRuns').run (SortSt.mk' (tuples' true) (vs.toArray.zip us.toArray) #[] 7 none)) (fun r s'=>Q r.2 s') E s:=by
 have hk:ks.length=us.length:=by rw[← h.len,hl]
 refine kat_run (G:=fun p s'=>s'=s∧PmK us.length p∧Srt (fun i=>ks.getD i []) p us.length) hl h2 h64 (fun p st' s' h1 h3 h4 h5=>?_) ?_
 ·obtain⟨rfl,h5,h6⟩:=h5
  exact q p st' h5 h6 (kat_snds hl h3) h4
 ·have inj:∀i j,i<us.length→j<us.length→ks.getD i []=ks.getD j []→i=j:=fun i j hi hj e=>by
   have key:∀a b:Nat,a<b→b<us.length→ks.getD a []≠ks.getD b []:=fun a b hab hb=>by
    have:=List.pairwise_iff_getElem.mp nd a b (by omega) (by omega) hab
    have ea:ks.getD a []=ks[a]'(by omega):=by simp[show a<ks.length by omega]
    have eb:ks.getD b []=ks[b]'(by omega):=by simp[show b<ks.length by omega]
    rw[ea,eb];exact this
   rcases Nat.lt_trichotomy i j with z|z|z
   ·exact absurd e (key i j z hj)
   ·exact z
   ·exact absurd e.symm (key j i z hi)
  exact Pw.wp (fun i j C hi hj=>G9 h hk i j C hi hj) (fun p hp=>⟨rfl,hp⟩) _ (Mx (κ:=fun i=>ks.getD i []) inj h2)
end
def Yv:List D→Option (List Int)
 |[]=>some []
 |.int i::r=>(Yv r).map (i :: ·)
 |_=>none
def Tx:D→Option (List Int)
 |.tup ds=>Yv ds
 |_=>none
theorem Vb:∀{ds:List D} {ns:List Int},Yv ds=some ns→ds=ns.map D.int
 |[],ns,h=>by cases h;rfl
 |.int i::r,ns,h=>by
  simp only[Yv] at h
  cases q:Yv r with
  |none=>rw[q] at h;cases h
  |some m=>rw[q] at h;cases h;rw[Vb q];rfl
 |.non::_,_,h=>by cases h
 |.bl _::_,_,h=>by cases h
 |.str _::_,_,h=>by cases h
 |.lst _::_,_,h=>by cases h
 |.tup _::_,_,h=>by cases h
 |.scr _::_,_,h=>by cases h
 |.raw _::_,_,h=>by cases h
 |.exc _::_,_,h=>by cases h
theorem Tw{d:D}{ns:List Int}(h:Tx d=some ns):d=.tup (ns.map D.int):=by
 cases d <;> first|cases h|skip
 rename_i ds
 rw[Vb (ds:=ds) h]
def Zw:List D→Option (List (List Int))
 |[]=>some []
 |d::r=>match Tx d,Zw r with
  |some k,some ks=>some (k::ks)
  |_,_=>none
theorem W6:∀{ds:List D} {ks:List (List Int)},Zw ds=some ks→ds=ks.map fun k=>D.tup (k.map D.int)
 |[],ks,h=>by cases h;rfl
 |d::r,ks,h=>by
  simp only[Zw] at h
  cases q:Tx d with
  |none=>rw[q] at h;cases h
  |some k=>
   cases q2:Zw r with
   |none=>rw[q,q2] at h;cases h
   |some ks'=>
    rw[q,q2] at h;cases h
    rw[Tw q,W6 q2];rfl
section
variable[Tabs]{X:Cx}{pins:List (Addr×Obj)}{σ:St}{F H:Hp}{s:Shared}
theorem jD:∀{ns:List Int} {vs:List V} {us:List Value},Reps X.K F (ns.map D.int) vs→Vals vs us→IntsAre us ns
 |[],_,_,r,v=>by
  simp only[map_nil,Reps] at r;subst r
  cases v;exact .nil
 |n::ns,_,_,r,v=>by
  simp only[map_cons,Reps] at r
  obtain⟨x,xs,rfl,rx,rr⟩:=r
  simp only[Rep] at rx
  subst rx
  cases v with
  |cons e t=>
   rename_i u us
   obtain⟨t',e⟩:∃t',u=Value.int n t':=e
   subst e
   exact .cons _ _ (jD rr t)
theorem V3(I:Inv X pins σ H s)(fh:Same F H):∀{ks:List (List Int)} {vs:List V} {us:List Value},Reps X.K F (ks.map fun k=>D.tup (k.map D.int)) vs→Vals vs us→(∀k∈ks,k≠[])→KTs s.heap us ks
 |[],_,_,r,v,_=>by
  simp only[map_nil,Reps] at r;subst r
  cases v;exact trivial
 |k::ks,_,_,r,v,ne=>by
  simp only[map_cons,Reps] at r
  obtain⟨x,xs,rfl,rx,rr⟩:=r
  simp only[Rep] at rx
  obtain⟨a,ws,rfl,q,t⟩:=rx
  obtain⟨its,rv,⟨o,eo,hc,n,hd⟩,hz⟩:=I.tuple (Same.seqT fh q)
  cases v with
  |cons e tl=>
   rename_i u us
   have e:u=Value.ref a:=e
   subst e
   exact⟨⟨a,o,its.toArray,n,rfl,eo,hc,hd,by simpa using jD t rv,ne k mem_cons_self⟩,V3 I fh rr tl fun k hk=>ne k (mem_cons_of_mem _ hk)⟩
theorem Reps.pick{K:PySem.W.Frag}{ds:List D}{vs:List V}(r:Reps K F ds vs):∀(q:List Nat),(∀i∈q,i<ds.length)→Reps K F (q.map fun i=>ds.getD i .non) (q.map fun i=>vs.getD i .non)
 |[],_=>Reps.nil
 |i::q,h=>by
  have hi:=h i mem_cons_self
  obtain⟨v,e1,e2⟩:=r.get (i:=i) (getElem?_eq_getElem hi)
  have z1:ds.getD i .non=ds[i]:=by simp[hi]
  have z2:vs.getD i .non=v:=by simp[e1]
  rw[map_cons,map_cons,z1,z2]
  exact Reps.cons e2 (Reps.pick r q fun j hj=>h j (mem_cons_of_mem _ hj))
theorem jS{vs:List V}{us:List Value}(r:Vals vs us):∀(q:List Nat),(∀i∈q,i<vs.length)→Vals (q.map fun i=>vs.getD i .non) (q.map fun i=>us.getD i .none)
 |[],_=>.nil
 |i::q,h=>by
  have hi:=h i mem_cons_self
  obtain⟨u,e1,e2⟩:=r.get (i:=i) (getElem?_eq_getElem hi)
  have z1:vs.getD i .non=vs[i]:=by simp[hi]
  have z2:us.getD i .none=u:=by simp[e1]
  rw[map_cons,map_cons,z1,z2]
  exact .cons e2 (jS r q fun j hj=>h j (mem_cons_of_mem _ hj))
end
open PySem.W
section
variable{X:Cx}{pins:List (Addr×Obj)}{σ:St}{F H:Hp}{τ:DS}{s:Shared}{Q:VK}{E:Value→Shared→Prop}
theorem Inv.relist(I:Inv X pins σ H s){a:Addr}{xs ys:List V}{us ws:List Value}{n:Nat}{g:Array Value→Array Value}(e:H a=some (.lst xs))(o:s.heap.get? a=some (seqObj "list" us.toArray n))(hg:g us.toArray=ws.toArray)(r:Vals ys ws)(hz:ys.length≤sizeLine) :
  Inv X pins σ (upd H a (.lst ys)) { s with heap:=s.heap.update a (Obj.mapSeq g) }:=by
 have h1:=get?_update_seq o g
 rw[hg] at h1
 exact I.write (t':=s.toks) (by rw[e];exact trivial) (.inl rfl) (fun b u hb q=>by rw[Heap.get?_update_ne _ _ _ _ hb];exact q) ⟨_,h1⟩ ⟨hz,ws,_,r,h1⟩
theorem Inv.settle(I:Inv X (pins++[p]) σ H s){D:Addr}{n:Nat}{ys:List V}{ws:List Value}{g:Array Value→Array Value}(hp:p=(D,seqObj "list" #[] n))(hg:g #[]=ws.toArray)(r:Vals ys ws)(hz:ys.length≤sizeLine)
  (h0:X.s₀.heap.objs.size≤D) (hc:∀x c,X.env.cells.lookup x=some c→c≠D) (hn:∀q∈X.pn++pins,q.1≠D):Inv X pins σ (upd H D (.lst ys)) { s with heap:=s.heap.update D (Obj.mapSeq g) }:=by
 subst hp
 obtain⟨e,nD,neL,nf,_⟩:=I.pin (D,seqObj "list" #[] n) (by simp)
 have J:Inv X pins σ H s:=I.pins_of fun q hq=>I.pin q (mem_append_right _ (mem_append_left _ hq))
 have h1:=get?_update_seq e g
 rw[hg] at h1
 have kp:∀b u,b≠D→s.heap.get? b=some u→(s.heap.update D (Obj.mapSeq g)).get? b=some u:=fun b u hb q=>by rw[Heap.get?_update_ne _ _ _ _ hb];exact q
 refine J.step (g':=s.gens) (d':=s.drawn) (t':=s.toks) (ch:=[D]) (fun b hb=>?_) (fun b o _ _ hb q _=>kp b o (by simpa using hb) q) (fun b o _ _ hb q _=>⟨o.slots,kp b o (by simpa using hb) q⟩) (fun b o hb _ q=>by rw[zp (by simpa using hb)];exact q)
  (fun b o hb q=>⟨o,kp b o (by simpa using hb) q⟩) (fun b xs q=>by rw[zp (zP q nD)];exact q) (fun b o u q=>by rw[zp (zP q nD)];exact q) (fun b ps q=>⟨#[],by rw[zp (zP q nD),q];simp⟩) (fun m hm=>?_) ?_ J.bare
 ·have:b=D:=by simpa using hb
  subst this
  exact⟨.inr h0,neL,hc,hn⟩
 ·obtain⟨o,es,ep,ho,r'⟩:=hm
  exact⟨o,es,ep,kp _ o (Ne.symm neL) ho,r'⟩
 ·intro b u q
  by_cases hb:b=D
  ·subst hb
   rw[zt] at q;cases q
   exact⟨hz,ws,_,r,h1⟩
  ·rw[zp hb] at q
   refine(J.hok b u q).stay (fun c v hc' q'=>kp c v ?_ q') (fun c q'=>by rw[zp (zP q' nD)];exact q') fun c xs q'=>by rw[zp (zP q' nD)];exact q'
   rcases hc' with z|z
   ·rw[z];exact hb
   ·exact zP z nD
theorem Jl:Vals ([]:List V) []:=.nil
theorem Uv{D kS:Addr}{e1:Nat}{st:SortSt}{kvs ovs:List V}{out:List Value}{P:PySem.Fin→Shared→Prop}{A:Around}(I:Inv X (pins++[(D,seqObj "list" #[] e1)]) σ H s)(hk:H kS=some (.lst kvs))(hout:(arrOf st).map (·.2)=List.toArray out)(hf:failedOf st=none)(hz:out.length<64)
  (r:Vals ovs out) (hkz:kvs.length≤sizeLine) (h0:X.s₀.heap.objs.size≤D) (hc:∀x c,X.env.cells.lookup x=some c→c≠D) (hn:∀q∈X.pn++pins,q.1≠D)
  (h:∀s',Inv X pins σ (upd (upd H kS (.lst [])) D (.lst ovs)) s'→P (.done (.ret .none)) s'):wpAny (model X.prog X.w) A (ksk_tail D false e1 (.ref kS) st) P E s:=by
 obtain⟨z1,its,n,rk,ek⟩:=I.hok kS _ hk
 have lk:its.length≤sizeLine:=by rw[← rk.length];exact hkz
 have I1:=Inv.relist (g:=fun _=>#[]) I hk ek (ws:=[]) rfl Jl (zero_le _)
 obtain⟨eD,nD,_⟩:=I1.pin (D,seqObj "list" #[] e1) (by simp)
 unfold ksk_tail
 try dsimp only
 refine wpAny_bind (listUpdate_at ek rfl ?_ (by rw[size_toArray];exact lk) (zero_le _))
 refine wpAny_bind (wpAny_letGo ?_)
 refine wpAny_bind (seqEpoch_at eD rfl ?_)
 refine wpAny_bind (listUpdate_at eD rfl ?_ (zero_le _) ?_)
 ·rw[hf]
  simp only[bne_self_eq_false,Bool.false_eq_true,if_false]
  exact wpAny_pure (h _ (Inv.settle I1 rfl (ws:=out) hout r (by rw[r.length];exact le_of_lt (yS (by omega))) h0 hc hn))
 ·simp only[Bool.false_eq_true,if_false]
  rw[hout,size_toArray]
  exact le_trans (le_of_lt (yS (by omega))) (le_succ _)
theorem Z4:∀{kz:List (List Int)} {ds:List D},kz.length=ds.length→ds.length<2→(xF (kz.zip ds)).map (·.2)=ds
 |[],[],_,_=>rfl
 |[a],[b],_,_=>rfl
 |[],_::_,h,_=>by simp at h
 |[_],[],h,_=>by simp at h
 |[_],_::_::_,h,_=>by simp at h
 |_::_::_,ds,h,h2=>by simp at h;omega
theorem zc9{Da kS:Addr}{e1:Nat}{kvs vs:List V}{us:List Value}{ds:List D}{kz:List (List Int)}{P:PySem.Fin→Shared→Prop}{A:Around}(I:Inv X (pins++[(Da,seqObj "list" #[] e1)]) σ H s)(hk:H kS=some (.lst kvs)){ks:List Value}{n:Nat}(ek:s.heap.get? kS=some (seqObj "list" ks.toArray n))(rk:Vals kvs ks)
  (fh:Same F H) (kr:Reps X.K F (kz.map fun k=>FD.D.tup (k.map FD.D.int)) kvs) (ne:∀k∈kz,k≠[]) (nd:kz.Nodup) (hl:kz.length=ds.length) (rs:Reps X.K F ds vs) (rv:Vals vs us) (hz:us.length<64)
  (h0:X.s₀.heap.objs.size≤Da) (hc:∀x c,X.env.cells.lookup x=some c→c≠Da) (hn:∀q∈X.pn++pins,q.1≠Da)
  (h:∀s' ovs,Inv X pins σ (upd (upd H kS (.lst [])) Da (.lst ovs)) s'→Reps X.K F ((xF (kz.zip ds)).map (·.2)) ovs→P (.done (.ret .none)) s'):wpAny (model X.prog X.w) A (ksk_end Da false us.toArray e1 (.ref kS) ks.toArray) P E s:=by
 have l1:ds.length=us.length:=by rw[rs.length,rv.length]
 have l2:ks.length=us.length:=by rw[← rk.length,← kr.length,length_map,hl,l1]
 have hkz:kvs.length≤sizeLine:=by rw[rk.length,l2];exact le_of_lt (yS (by omega))
 unfold ksk_end
 try dsimp only
 simp only[Bool.false_eq_true,if_false]
 by_cases h2:us.length<2
 ·have h2':us.toArray.size<2:=by rw[size_toArray];exact h2
  rw[if_pos h2',if_pos h2']
  refine wpAny_bind (wpAny_pure ?_)
  rw[StateT.run_pure]
  refine wpAny_bind (wpAny_pure ?_)
  try dsimp only
  refine Uv (out:=us) (ovs:=vs) I hk ?_ rfl hz rv hkz h0 hc hn fun s' J=>h s' vs J ?_
  ·show((ks.toArray.zip us.toArray).map (·.2))=us.toArray
   apply Array.toList_inj.mp
   rw[Array.toList_map,ksk_zip]
   exact List.map_snd_zip (by simp[l2])
  ·rw[Z4 hl (by omega)];exact rs
 ·have h2':¬ us.toArray.size<2:=by rw[size_toArray];exact h2
  rw[if_neg h2',if_neg h2']
  have kt:=V3 I fh kr rk ne
  refine wpAny_bind (Xt kt (by omega) ?_)
  refine wpAny_bind (WI (Q:=fun st s'=>wpAny (model X.prog X.w) A (ksk_tail Da false e1 (.ref kS) st) P E s') kt l2 (by omega) hz nd fun p st h3 h4 h5 h6=>?_)
  have hp:∀i∈p.toList,i<us.length:=fun i hi=>by simpa using h3.mem_iff.mp hi
  refine Uv (ovs:=p.toList.map fun i=>vs.getD i .non) I hk h5 h6 ?_ (jS rv _ fun i hi=>by rw[rv.length];exact hp i hi) hkz h0 hc hn fun s' J=>h s' _ J ?_
  ·rw[length_map,h3.length_eq,length_range];exact hz
  ·rw[← WC (q:=p) (d:=.non) hl nd (by rw[l1];exact h3) (by rw[l1];exact h4)]
   exact Reps.pick rs _ fun i hi=>by rw[l1];exact hp i hi
end
open PySem.W
section
variable{X:Cx}{pins:List (Addr×Obj)}{σ:St}{F H:Hp}{τ:DS}{s:Shared}{Q:VK}{E:Value→Shared→Prop}
theorem VJ{l f:Addr}{ds:List D}{vs:List V}{kz:List (List Int)}(I:Inv X pins σ H s)(fh:Same F H)(hl:F l=some (.lst vs))(rs:Reps X.K F ds vs)(h64:ds.length<64)(hk:kz.length=ds.length)(nd:kz.Nodup)(ne:∀k∈kz,k≠[])
  (key:∀(i:Nat) (d:D) (k:List Int),ds[i]?=some d→kz[i]?=some k→∀(pins':List (Addr×Obj)) (s':Shared) (F' H':Hp) (v:V) (u:Value) (Q':VK),Inv X pins' σ H' s'→(∀p∈pins,p∈pins')→Ext F H F' H'→Rep X.K F' d v→RelV v u →
   (∀kv F'' H'',Ext F' H' F'' H''→Rep X.K F'' (.tup (k.map D.int)) kv→Q' kv H'')→wpAny (model X.prog X.w) X.A.in1.in1 (call (.ref f) [u]) (EP X pins' σ Q') (fun _ _=>False) s')
  (hQ:∀Da F' H',Ext F H F' H'→Rep X.K F' (.lst ((xF (kz.zip ds)).map (·.2))) (.ref Da)→Q (.ref Da) H') :
  wpAny (model X.prog X.w) X.A (call (.builtin "sorted") [.ref l] [(Str.ofString "key", .ref f)]) (EP X pins σ Q) E s:=by
 obtain⟨us,rv,⟨o,nn,eo,hc,hd0,hd⟩,hz⟩:=I.list (SqL.of (K:=X.K) (fh _ _ hl))
 have hil:s.heap.IsList l us.toArray:=⟨o,eo,hc,nn,hd⟩
 have l1:ds.length=us.length:=by rw[rs.length,rv.length]
 have sz:us.length≤sizeLine:=le_of_lt (yS (by omega))
 refine call_function_entry_kw kind_sorted plain_sorted entry_sorted (ksk_s1 _ _) ?_
 unfold Builtin.«sorted»
 refine wpAny_bind (m:=checkCount "sorted" 1 1 _) (wpAny_pure ?_)
 refine wpAny_bind (collect_list hil ?_ sz)
 refine wpAny_bind (wpAny_newList ?_ sz)
 have keep1:∀b u,s.heap.get? b=some u→((s.heap.push (seqObj "list" #[] 0)).update s.heap.objs.size (Obj.mapSeq (· ++ us.toArray))).get? b=some u:=fun b u q=>by
  have hb:b<s.heap.objs.size:=Heap.lt_size q
  rw[Heap.get?_update_ne _ _ _ _ (ne_of_lt hb),Heap.get?_push_ne _ _ _ (ne_of_lt hb)]
  exact q
 have size1:s.heap.objs.size≤((s.heap.push (seqObj "list" #[] 0)).update s.heap.objs.size (Obj.mapSeq (· ++ us.toArray))).objs.size:=by rw[Heap.size_update,size_push'];omega
 generalize hh1:(s.heap.push (seqObj "list" #[] 0)).update s.heap.objs.size (Obj.mapSeq (· ++ us.toArray))=h1 at keep1 size1
 have hD:(h1.push (seqObj "list" us.toArray 0)).get? h1.objs.size=some (seqObj "list" us.toArray 0):=Heap.get?_push_size _ rfl
 have keep2:∀b u,s.heap.get? b=some u→(h1.push (seqObj "list" us.toArray 0)).get? b=some u:=fun b u q=>Heap.get?_push_of_some _ (keep1 b u q)
 generalize hDa:h1.objs.size=Da at hD size1
 have neD:∀b u,s.heap.get? b=some u→b≠Da:=fun b u q=>ne_of_lt (lt_of_lt_of_le (Heap.lt_size q) size1)
 generalize hh2:h1.push (seqObj "list" us.toArray 0)=h2 at hD keep2
 have ltD:Da<h2.objs.size:=Heap.lt_size hD
 refine wpAny_bind (wpAny_holding (wpAny_call_entry_kw (rest:=[]) slot_list_sort ⟨_,hD,rfl⟩ entry_list_sort ?_ (ksk_l1 _ _)))
 show wpAny (model X.prog X.w) X.A.in1.in1 (Builtin.«list.sort» ⟨[.ref Da],[(Str.ofString "key", .ref f)]⟩) _ _ _
 rw[ksk_t1 f Da]
 unfold ksk_tree
 refine wpAny_bind (listItems_at hD rfl ?_)
 refine wpAny_bind (listUpdate_at hD rfl ?_ (by rw[size_toArray];exact sz) (zero_le _))
 have keep3:∀b u,s.heap.get? b=some u→(h2.update Da (Obj.mapSeq fun _=>(#[]:Array Value))).get? b=some u:=fun b u q=>by
  rw[Heap.get?_update_ne _ _ _ _ (neD b u q)];exact keep2 b u q
 obtain⟨e1,hD3⟩:∃e1,(h2.update Da (Obj.mapSeq fun _=>(#[]:Array Value))).get? Da=some (seqObj "list" #[] e1):=⟨_,get?_update_seq hD fun _=>#[]⟩
 generalize h2.update Da (Obj.mapSeq fun _=>(#[]:Array Value))=h3 at keep3 hD3
 refine wpAny_bind (seqEpoch_at hD3 rfl ?_)
 refine wpAny_bind (wpAny_newTuple ?_ (by show us.length≤sizeLine;exact sz))
 refine wpAny_bind (wpAny_newList ?_ (zero_le _))
 refine wpAny_holding ?_
 have hDa0:s.heap.objs.size≤Da:=size1
 have nH:H Da=none:=I.hok.fresh hDa0
 have neL:Da≠X.env.locals:=(ne_of_lt (lt_of_lt_of_le I.lt hDa0)).symm
 have pinD:∀q∈X.pn++pins,q.1≠Da:=fun q hq=>neD _ _ (I.pin q hq).1
 have cellD:∀x c,X.env.cells.lookup x=some c→c≠Da:=fun x c e=>by
  obtain⟨v,oc,hoc,_⟩:=I.cell x c e
  exact neD _ _ hoc
 have I1:Inv X pins σ H { s with heap:=h3.push (seqObj "tuple" us.toArray 0) }:=I.kept (t':=s.toks) fun b u q=>Heap.get?_push_of_some _ (keep3 b u q)
 have I2:Inv X (pins++[(Da,seqObj "list" #[] e1)]) σ H { s with heap:=h3.push (seqObj "tuple" us.toArray 0) }:=I1.pins_of fun q hq=>by
  rcases mem_append.mp hq with hq|hq
  ·exact I1.pin q (mem_append_right _ hq)
  ·have:q=(Da,seqObj "list" #[] e1):=by simpa using hq
   subst this
   exact⟨Heap.get?_push_of_some _ hD3,nH,neL,I.nofs hDa0,fun v z=>nomatch z⟩
 have szk:s.heap.objs.size≤(h3.push (seqObj "tuple" us.toArray 0)).objs.size:=le_of_lt (Nat.lt_of_le_of_lt hDa0 (Heap.lt_size (Heap.get?_push_of_some _ hD3)))
 have hkS:H (h3.push (seqObj "tuple" us.toArray 0)).objs.size=none:=I.hok.fresh szk
 have I3:=I2.laid (t':=s.toks) (a:=(h3.push (seqObj "tuple" us.toArray 0)).objs.size) (o:=.lst []) (h':=(h3.push (seqObj "tuple" us.toArray 0)).push (seqObj "list" #[] 0)) (fun b u q=>Heap.get?_push_of_some _ q) (le_refl _) ⟨zero_le _,[],0,.nil,Heap.get?_push_size _ rfl⟩
 generalize hkk:(h3.push (seqObj "tuple" us.toArray 0)).objs.size=kS at hkS I3
 have h0D:X.s₀.heap.objs.size≤Da:=le_trans I.sz hDa0
 unfold ksk_rest
 refine wpAny_bind (wpAny_rule ?_)
 first
  | rw[List.forIn_toArray]
  | (rw[← Array.forIn_toList];simp only[List.toList_toArray])
 refine wpAny_bind (ksk_fold (fun i s'=>∃F2 Hm kvs,Ext F H F2 Hm∧Hm kS=none∧Inv X (pins++[(Da,seqObj "list" #[] e1)]) σ (upd Hm kS (.lst kvs)) s'∧Reps X.K F2 ((kz.take i).map fun k=>D.tup (k.map D.int)) kvs) us 0 _
  ⟨F,H,[],Ext.refl fh,hkS,I3,by simpa using Reps.nil⟩ ?step ?done)
 case step=>
  rintro j x s' hx ⟨F2,Hm,kvs,x2,hm,I4,rk⟩
  simp only[zero_add] at rk ⊢
  have hj:j<us.length:=(List.getElem?_eq_some_iff.mp hx).1
  obtain⟨d,hd⟩:∃d,ds[j]?=some d:=⟨_,getElem?_eq_getElem (by omega)⟩
  obtain⟨k,hkj⟩:∃k,kz[j]?=some k:=⟨_,getElem?_eq_getElem (by omega)⟩
  obtain⟨v,hv,rd⟩:=rs.get hd
  obtain⟨u,hu,ru⟩:=rv.get hv
  rw[hx] at hu;cases hu
  have xo:Ext F2 Hm F2 (upd Hm kS (.lst kvs)):=Ext.open x2.fh hm
  refine wpAny_bind (wpAny_attempt (wpAny_mono (key j d k hd hkj _ s' F2 _ v x (fun kv H''=>∃F'',Ext F2 (upd Hm kS (.lst kvs)) F'' H''∧Rep X.K F'' (.tup (k.map D.int)) kv) I4 (fun p hp=>mem_append_left _ hp) (x2.trans xo) (rd.mono x2.ff) ru (fun kv F'' H'' y r=>⟨F'',y,r⟩)) (fun kval s'' hk''=>?_) fun _ _ z=>z.elim))
  obtain⟨kv,H'',I5,rkv,F'',x5,rp⟩:=hk''
  have hkS5:H'' kS=some (.lst kvs):=x5.hh _ _ zt
  obtain⟨z1,its,n,rki,ek⟩:=I5.hok kS _ hkS5
  have lk:kvs.length=j:=by
   rw[← rk.length,length_map,length_take];omega
  have li:its.length=j:=by rw[← rki.length];exact lk
  have I6:=Inv.relist (g:=(·.push kval)) I5 hkS5 ek (ws:=its++[kval]) (by simp) (rki.append (.cons rkv .nil)) (by rw[length_append,lk];exact le_of_lt (yS (by simp;omega)))
  obtain⟨y1,y2⟩:=YI x2 hm x5
  try dsimp only
  refine wpAny_bind (listUpdate_at ek rfl ?_ (by rw[size_toArray,li];exact le_of_lt (yS (by omega))) ?_)
  ·refine wpAny_pure ⟨rfl,F'',wE H'' kS,kvs++[kv],y1,uf _ _,by rw[Z3];exact I6,?_⟩
   have tk:kz.take (j+1)=kz.take j++[k]:=by
    rw[List.take_add_one,hkj];rfl
   rw[tk,map_append]
   exact(rk.mono x5.ff).append (Reps.cons rp Reps.nil)
  ·rw[Array.size_push,size_toArray,li];exact le_trans (le_of_lt (yS (by omega))) (le_succ _)
 case done=>
  rintro s' ⟨F2,Hm,kvs,x2,hm,I4,rk⟩
  simp only[zero_add] at rk
  rw[take_of_length_le (by omega)] at rk
  obtain⟨z1,ks,n,rki,ek⟩:=I4.hok kS _ zt
  refine wpAny_bind (listItems_at ek rfl ?_)
  have xo:Ext F2 Hm F2 (upd Hm kS (.lst kvs)):=Ext.open x2.fh hm
  refine zc9 I4 zt ek rki xo.fh rk ne nd hk (rs.mono x2.ff) rv (by omega) h0D cellD pinD fun s5 ovs J ro=>?_
  refine⟨_,rfl,wpAny_pure ⟨_,rfl,.ref Da,_,J,rfl,hQ Da (upd F2 Da (.lst ovs)) _ ?_ ?_⟩⟩
  ·have hmD:Hm Da=none:=by
    obtain⟨_,nD,_⟩:=I4.pin (Da,seqObj "list" #[] e1) (by simp)
    by_cases z:Da=kS
    ·rw[z];exact hm
    ·rw[zp z] at nD;exact nD
   have eq1:upd (upd (upd Hm kS (.lst kvs)) kS (.lst [])) Da (.lst ovs)=upd (upd Hm kS (.lst [])) Da (.lst ovs):=by
    congr 1;funext b;unfold upd;split <;> rfl
   rw[eq1]
   have kD:(upd Hm kS (.lst [])) Da=none:=by
    obtain⟨_,nD,_⟩:=I4.pin (Da,seqObj "list" #[] e1) (by simp)
    by_cases z:Da=kS
    ·rw[z,zt] at nD;cases nD
    ·rw[zp z];exact hmD
   exact(x2.trans (Ext.open (o:=.lst []) x2.fh hm)).trans (Ext.new ((x2.trans (Ext.open (o:=.lst []) x2.fh hm)).fh) kD)
  ·have hF:F2 Da=none:=by
    obtain⟨_,nD,_⟩:=I4.pin (Da,seqObj "list" #[] e1) (by simp)
    exact zU xo.fh nD
   simp only[Rep]
   exact⟨Da,ovs,rfl,zt,ro.mono (yj hF)⟩
end
open PySem.W
def _root_.L2.Cx.lam(X:Cx)(scope:Scope)(N:List Str)(s:Shared)(H:Hp)(qual:Str)(f:Addr)(cd:Value):Cx:=
 { prog:=X.prog,w:=X.w,K:=X.K,mg:=X.mg,base:=X.base,A:=X.A.in1.in1.deeper (envX qual scope s.heap.objs.size f cd (xN scope X.env)),N:=N,s₀:=s,H₀:=H,env:=envX qual scope s.heap.objs.size f cd (xN scope X.env),outer:=X.stack,
   stack:=envX qual scope s.heap.objs.size f cd (xN scope X.env)::X.stack,ex:=[],fn:=fun _=>false,calm:=true,pn:=[],xe:=fun _ _=>False }
section
variable{X:Cx}{scope:Scope}{N':List Str}{pins:List (Addr×Obj)}{σ σ':St}{F H:Hp}{τ:DS}{s:Shared}
theorem Ts{h1:Heap}{t:Nat}{qual p:Str}{f:Addr}{cd u:Value}{v:V}(S:xB X scope)(hd:X.A.handled=none)(I:Inv X pins σ H s)(hp:scope.names.lookup p=some .local)(hN:N'[0]?=some p)(rv:RelV v u)
  (hn:h1.Ns s.heap.objs.size fun x=>([(p,u)]:List (Str×Value)).reverse.lookup x) (hsb:∀b o,s.heap.get? b=some o→h1.get? b=some o) (hl:σ'.length=N'.length) (h0:σ'[0]?=some (some v))
  (hσ:∀(i:Nat) (v:V),i≠0→σ'[i]?=some (some v)→∃(x:Str) (j:Nat),N'[i]?=some x∧X.N[j]?=some x∧σ[j]?=some (some v)∧scope.names.lookup x=some .free) :
  Inv (X.lam scope N' s H qual f cd) [] σ' H { s with heap:=h1,toks:=t }:=by
 have hH:H s.heap.objs.size=none:=I.hok.fresh (le_refl _)
 have cl:∀{x c},(xN scope X.env).lookup x=some c→X.env.cells.lookup x=some c:=fun h=>Zm S I.ok h
 have kept:∀{c v},s.heap.IsCell c v→h1.IsCell c v:=fun ⟨o,e,d⟩=>⟨o,hsb _ o e,d⟩
 have noA:∀b:Addr,b∉(X.lam scope N' s H qual f cd).ex:=fun b z=>absurd (show b∈([]:List Addr) from z) (by simp)
 refine⟨⟨I.ok.mod,S.kind,rfl,rfl,le_refl _,fun x y c e1 e2=>I.ok.inj x y c (cl e1) (cl e2),fun x hx=>?_,fun x c hf _=>absurd hf (by simp[Cx.lam]),fun _=>hd,Around.frames_deeper (show X.A.in1.in1.frames=some X.stack from I.ok.frames),.inr ⟨rfl,rfl⟩,fun b z=>absurd z (noA b),I.bs,le_trans I.ok.bsz I.sz,fun b _ _=>noA b,fun b z=>absurd z (noA b),I.stack,I.stkFree⟩,
  I.os.symm ▸ rfl,I.bare,Un.kept hsb,⟨_,hn,fun i x v' e1 e2 e3=>?_⟩,fun x c e=>?_,hH,fun x c e=>I.freeC x c (cl e),fun p hp=>absurd (show p∈([]:List (Addr×Obj)) from hp) (by simp),I.hok.kept hsb,hl⟩
 ·have hx:scope.names.lookup x=some .cell∨scope.names.lookup x=some .free:=hx
  rcases hx with z|z
  ·exact absurd rfl (S.nocell _ (PySem.mem_of_lookup z))
  ·exact ul (.inl ⟨_,PySem.mem_of_lookup z,rfl,rfl⟩)
 ·have e1:N'[i]?=some x:=e1
  by_cases hi:i=0
  ·subst hi
   rw[hN] at e1;cases e1
   rw[h0] at e2;cases e2
   exact⟨u,rv,.inl ⟨hp,by simp[List.lookup]⟩⟩
  ·obtain⟨x',j,e4,e5,e6,e9⟩:=hσ i v' hi e2
   have hy:=PySem.mem_of_lookup e9
   rw[e1] at e4;cases e4
   have kd:=S.free _ hy rfl
   obtain⟨m,hm,hl⟩:=I.loc
   obtain⟨u',ru,lk⟩:=hl j x v' e5 e6 (kd.elim (fun z=>.inr (.inl z)) fun z=>.inr (.inr z))
   refine⟨u',ru,?_⟩
   rcases lk with ⟨z,_⟩|⟨z,c,hc,hcell⟩
   ·rcases kd with k|k <;> rw[k] at z <;> cases z
   ·obtain⟨c',hc'⟩:=ul (env:=X.env) (names:=scope.names) (cs:=[]) (x:=x) (.inl ⟨_,hy,rfl,rfl⟩)
    have:=cl hc'
    rw[hc] at this;cases this
    exact .inr ⟨.inr e9,c,hc',kept hcell⟩
 ·obtain⟨v,z⟩:=I.cell x c (cl e)
  exact⟨v,kept z⟩
def JX(idx:List Nat)(fb:FE)(τ:DS)(d:D):Rs D:=fb ((vc 1 idx τ).set 0 (some (.val d)))
theorem Gz{f c':Addr}{qual p:Str}{params:Arguments}{body:Expr}{pm ctv u:Value}{v:V}{d dk:D}{fr:List Str}{idx:List Nat}{fb:FE}{Q:VK}(S:xB X scope)(hr:Room 3 X.A)(hfr:FreeOk scope X.N fr idx)(hp:scope.names.lookup p=some .local)
  (hco:scope.isCoroutine=false) (hgen:scope.isGenerator=false) (hbind:∀(pm cd ct:Value) (cl:List (Str×Addr)) (u:Value),bindArgs (kla_fn "<lambda>" qual params body scope cl pm cd ct) ⟨[u],[]⟩=pure [(p,u)])
  (hb:∀s H f cd,PDE (X.lam scope (p::fr) s H qual f cd) body fb)
  (I:Inv X pins σ H s) (R:RV X.K F τ σ H) (ho:s.heap.get? f=some (kla_obj "<lambda>" qual params body scope (xN scope X.env) pm c' ctv)) (hc:H c'=some (.ext (YL c' qual))) (rd:Rep X.K F d v) (ru:RelV v u) (hk:JX idx fb τ d=.ok dk)
  (hQ:∀kv F1 H1,Ext F H F1 H1→Rep X.K F1 dk kv→Q kv H1):wpAny (model X.prog X.w) X.A.in1.in1 (call (.ref f) [u]) (EP X pins σ Q) (fun _ _=>False) s:=by
 have hcd:s.heap.CodeRec (.ref c') qual:=(I.hok c' _ hc).1
 refine wpAny_call (kla_callFunE (args:=⟨[u],[]⟩) (hr.in1.in1).depth ho rfl hco hgen rfl hcd ?_)
 rw[hbind]
 refine wpAny_pure (wpAny_newFunctionEnv S.nocell (fun y hy=>?_) (fun h1 hns hsb=>⟨(I.mod.nolimit.keeps I.bk).fresh _ hsb,?_⟩) S.kind)
 ·have:y=(p,u):=by simpa using hy
  subst this;exact hp
 have keep3:∀b o,s.heap.get? b=some o→h1.get? b=some o:=fun b o e=>hsb.extBut b o (ne_of_lt (Heap.lt_size e)) (Heap.get?_push_of_some _ e)
 show codeAny _ _ (.expr body (envX qual scope s.heap.objs.size f (.ref c') (xN scope X.env))) _ _
 have hlen:(vd 1 idx σ).length=(p::fr).length:=by simp[vd,hfr.len]
 have hl0:0<(vd 1 idx σ).length:=by rw[hlen];simp
 have J:Inv (X.lam scope (p::fr) s H qual f (.ref c')) [] ((vd 1 idx σ).set 0 (some v)) H { s with heap:=h1,toks:=s.toks+([(p,u)]:List (Str×Value)).length }:=
  Ts S hr.hd I hp rfl ru hns keep3 (by rw[length_set];exact hlen) (by rw[getElem?_set_self hl0]) fun i v' hi e=>by
   rw[getElem?_set_ne (Ne.symm hi)] at e
   exact jk (tn:=[p]) hfr σ i v' e
 refine kla_codeExpr (wpAny_mono (hb s H f (.ref c') [] _ _ H (fun kv H1=>∃F1,Ext F H F1 H1∧Rep X.K F1 dk kv) J ⟨F,(vc 1 idx τ).set 0 (some (.val d)),(XT 1 idx R).set rd,?_⟩) (fun w s5 h5=>?_) fun _ _ z=>z.elim)
 ·have hk:fb ((vc 1 idx τ).set 0 (some (.val d)))=.ok dk:=hk
  rw[hk]
  exact fun kv F1 H1 x r=>⟨F1,x,r⟩
 ·obtain⟨kv,H5,I5,r5,F5,x5,rk⟩:=h5
  exact⟨kv,H5,I.call' (ch:=[]) I5.os I5.base I5.hok I5.bare (fun b z=>absurd z (by simp)),r5,hQ kv F5 H5 x5 rk⟩
end
open PySem.W
def TabsU:Prop:=∀r∈Tabs.rows,∀r'∈Tabs.rows,r.1=r'.1→r=r'
theorem Yr{α β:Type}{f:α→β}:∀{l:List α},(l.map f).Nodup→∀r∈l,∀r'∈l,f r=f r'→r=r'
 |[],_,_,h,_,_,_=>by cases h
 |a::l,nd,r,h,r',h',e=>by
  rw[map_cons,nodup_cons] at nd
  rcases mem_cons.mp h with z|z
  ·rcases mem_cons.mp h' with z' | z'
   ·rw[z,z']
   ·rw[z] at e
    exact absurd (mem_map.mpr ⟨r',z',e.symm⟩) nd.1
  ·rcases mem_cons.mp h' with z' | z'
   ·rw[z'] at e
    exact absurd (mem_map.mpr ⟨r,z,e⟩) nd.1
   ·exact Yr nd.2 r z r' z' e
theorem TabsU.of(h:(Tabs.rows.map (·.1)).Nodup):TabsU:=Yr h
section
variable{X:Cx}{scope:Scope}{pins:List (Addr×Obj)}{σ:St}{F H:Hp}{τ:DS}{s:Shared}
theorem Gy{params:Arguments}{body:Expr}{lpos:Pos}{P c:Addr}{E:Value→Shared→Prop}{Q:Value→Shared→Prop}(tu:TabsU)(S:xB X scope)(bm:BM X.mg X.base)(hcode:X.env.code=.ref c)(hcd:codeHdIn X.K c P=true)(hrow:(P,lpos.line,lpos.col,X.env.qual ++ "<lambda>")∈Tabs.rows)
  (hdef:defaultsOf params X.env=([],[])) (I:Inv X pins σ H s) (fh:Same F H) (tt:TbT F H)
  (h:∀(f c':Addr) (pm ctv:Value) (H':Hp) (s':Shared),Inv X (pins++[(f,kla_obj "<lambda>" (X.env.qual ++ "<lambda>") params body scope (xN scope X.env) pm c' ctv)]) σ H' s'→Ext F H F H'→H' c'=some (.ext (YL c' (X.env.qual ++ "<lambda>")))→Q (.ref f) s') :
  wpAny (model X.prog X.w) X.A (eval (.Lambda params body scope lpos) X.env) Q E s:=by
 obtain⟨bma,ob,b1,b2,b3,b4,b5,b6⟩:=bm
 obtain⟨b3,bH⟩:=I.bs _ _ b3
 have hgs:s.heap.Ns mainGlobals X.mg:=I.mod.glob.keeps I.bk
 have C:CodeHd s.heap c P:=codeHd_of_K (I.mod.kin.keeps I.bk) hcd
 have hcl:closureFor scope X.env=pure (xN scope X.env):=vx fun y hy e=>by
  obtain⟨c,hc⟩:=I.ok.has _ (S.free y hy e)
  rw[hc];rfl
 have hbG:bma≠mainGlobals:=fun q=>by
  obtain⟨o,es,ep,e,hd,_⟩:=hgs
  rw[← q,b3] at e;cases e;rw[b6] at hd;cases hd
 obtain⟨tF,tt0⟩:=tt.1 _ hrow
 have hPs:∃ps,H P=some (.tbl ps):=by
  rcases tt0 with e|⟨c',e,_⟩
  ·exact⟨_,e⟩
  ·exact⟨_,e⟩
 obtain⟨ps0,hP0⟩:=hPs
 have hbP:bma≠P:=fun q=>by rw[q,hP0] at bH;cases bH
 have B:s.heap.BuiltinsAt X.mg P:=⟨bma,ob,b1,b2,hbG,hbP,b3,b4,b5,b6⟩
 refine kla_eval hdef ?_
 rcases tt0 with e|⟨c',e,ec⟩
 ·-- the first time
  have e:H P=some (.tbl #[]):=e
  have hP:s.heap.get? P=some (tabObj #[]):=I.hok P _ e
  have hgP:mainGlobals≠P:=fun q=>by
   obtain⟨o,es,ep,e',hd,_⟩:=hgs
   rw[q,hP] at e';cases e';cases hd
  refine kla_makeFunction (mg:=X.mg) hcl I.ok.glob hgs hcode C hP trivial rfl hgP B fun c' ctv h' tk hx hge hlt hrec htb=>?_
  have hc0:H c'=none:=I.hok.fresh hge
  have hPc:P≠c':=fun z=>by rw[z,hc0] at e;cases e
  have hsz:s.heap.objs.size≤h'.objs.size:=le_trans hge (le_of_lt hlt)
  have htb:h'.get? P=some (tabObj #[rawInt lpos.line,rawInt lpos.col,.ref c']):=by simpa using htb
  let H':Hp:=upd (upd H P (.tbl #[rawInt lpos.line,rawInt lpos.col,.ref c'])) c' (.ext (YL c' (X.env.qual ++ "<lambda>")))
  have hne:∀b,b≠P→b≠c'→H' b=H b:=fun b z1 z2=>by show upd (upd H P _) c' _ b=H b;rw[zp z2,zp z1]
  have hP':H' P=some (.tbl #[rawInt lpos.line,rawInt lpos.col,.ref c']):=by show upd (upd H P _) c' _ P=_;rw[zp hPc,zt]
  have hc':H' c'=some (.ext (YL c' (X.env.qual ++ "<lambda>"))):=zt
  let fo:Obj:=kla_obj "<lambda>" (X.env.qual ++ "<lambda>") params body scope (xN scope X.env) ((X.mg "__name__").getD .none) c' ctv
  have kp:∀b o,b≠P→s.heap.get? b=some o→(h'.push fo).get? b=some o:=fun b o z q=>Heap.get?_push_of_some _ (hx b o z q)
  have nc:∀b o,s.heap.get? b=some o→b≠c':=fun b o q=>ne_of_lt (lt_of_lt_of_le (Heap.lt_size q) hge)
  have nP:∀b,H b=none→b≠P:=fun b q z=>by rw[z,e] at q;cases q
  have J:Inv X pins σ H' { s with heap:=h'.push fo,toks:=tk }:=by
   refine I.un (t':=tk) ⟨fun b o q n _ _=>kp b o (nP b n) q,fun b o q n _ _=>⟨o.slots,kp b o (nP b n) q⟩,fun b o q n _=>by rw[hne b (nP b n) (nc b o q)];exact n,fun b o q _=>?_,fun b xs q=>?_,fun b o u q=>?_,fun b ps q=>?_⟩ fun b u q=>?_
   ·by_cases z:b=P
    ·subst z;exact⟨_,Heap.get?_push_of_some _ htb⟩
    ·exact⟨o,kp b o z q⟩
   ·rw[hne b (fun z=>by rw[z,e] at q;cases q) (fun z=>by rw[z,hc0] at q;cases q)];exact q
   ·rw[hne b (fun z=>by rw[z,e] at q;cases q) (fun z=>by rw[z,hc0] at q;cases q)];exact q
   ·by_cases z:b=P
    ·subst z
     rw[e] at q;cases q
     exact⟨#[rawInt lpos.line,rawInt lpos.col,.ref c'],by rw[hP'];simp⟩
    ·exact⟨#[],by rw[hne b z (fun z=>by rw[z,hc0] at q;cases q),q];simp⟩
   ·by_cases z2:b=c'
    ·subst z2
     rw[hc'] at q;cases q
     have hr2:(h'.push fo).CodeRec (.ref b) (X.env.qual ++ "<lambda>"):=by
      obtain⟨c2,oc,vs,t,g1,g2,g3,g4⟩:=hrec
      exact⟨c2,oc,vs,t,g1,Heap.get?_push_of_some _ g2,g3,g4⟩
     refine⟨hr2,?_,fun h1 h2 g k=>?_⟩
     ·obtain⟨c2,oc,vs,t,g1,g2,g3,g4⟩:=hr2
      cases g1
      exact⟨oc,g2⟩
     ·obtain⟨c2,oc,vs,t,g1,g2,g3,g4⟩:=g
      cases g1
      exact⟨_,oc,vs,t,rfl,k _ g2,g3,g4⟩
    ·by_cases z:b=P
     ·subst z
      rw[hP'] at q;cases q
      exact Heap.get?_push_of_some _ htb
     ·rw[hne b z z2] at q
      refine(I.hok b u q).stay (fun d v hd qd=>kp d v ?_ qd) (fun d qd=>?_) fun d xs qd=>?_
      ·rcases hd with y|y
       ·rw[y];exact z
       ·exact fun y'=>by rw[y',e] at y;cases y
      ·rw[hne d (fun y=>by rw[y,e] at qd;cases qd) (fun y=>by rw[y,hc0] at qd;cases qd)];exact qd
      ·rw[hne d (fun y=>by rw[y,e] at qd;cases qd) (fun y=>by rw[y,hc0] at qd;cases qd)];exact qd
  have hfz:s.heap.objs.size≤h'.objs.size:=hsz
  have nf:H' h'.objs.size=none:=by
   rw[hne _ (ne_of_gt (lt_of_lt_of_le (Heap.lt_size hP) hfz)) (ne_of_gt hlt)]
   exact I.hok.fresh hfz
  refine h h'.objs.size c' ((X.mg "__name__").getD .none) ctv H' _ (J.pins_of fun q hq=>?_) ⟨Same.refl F,fun b o q=>?_,fun b o q=>?_,fun _ _ q=>.inl q,fun t=>⟨fun r hr=>?_,fun d b q=>?_⟩⟩ hc'
  ·rcases mem_append.mp hq with hq|hq
   ·exact J.pin q (mem_append_right _ hq)
   ·have:q=(h'.objs.size,fo):=by simpa using hq
    subst this
    exact⟨Heap.get?_push_size _ rfl,nf,(ne_of_lt (lt_of_lt_of_le I.lt hfz)).symm,I.nofs hfz,fun v z=>nomatch z⟩
  ·by_cases z:b=P
   ·subst z;rw[e] at q;cases q;exact⟨_,hP'⟩
   ·exact .of (by rw[hne b z (fun z=>by rw[z,hc0] at q;cases q)];exact q)
  ·have q':=fh b o q
   rw[hne b (fun z=>by rw[z,show F P=none from tF] at q;cases q) (fun z=>by rw[z,hc0] at q';cases q')]
   exact q'
  ·by_cases z:r.1=P
   ·obtain rfl:=tu r hr _ hrow z
    exact⟨tF,.inr ⟨c',hP',hc'⟩⟩
   ·obtain⟨t1,t2⟩:=t.1 r hr
    refine⟨t1,?_⟩
    rcases t2 with q|⟨c2,q,q2⟩
    ·exact .inl (by rw[hne _ z (fun z=>by rw[z,hc0] at q;cases q)];exact q)
    ·exact .inr ⟨c2,by rw[hne _ z (fun z=>by rw[z,hc0] at q;cases q)];exact q,by rw[hne _ (fun z=>by rw[z,e] at q2;cases q2) (fun z=>by rw[z,hc0] at q2;cases q2)];exact q2⟩
  ·have q:H d=some (.own b):=by
    by_cases z2:d=c'
    ·rw[z2,hc'] at q;cases q
    ·by_cases z:d=P
     ·rw[z,hP'] at q;cases q
     ·rw[hne d z z2] at q;exact q
   obtain⟨C,dx,vs,q2⟩:=t.2 d b q
   exact⟨C,dx,vs,by rw[hne b (fun z=>by rw[z,e] at q2;cases q2) (fun z=>by rw[z,hc0] at q2;cases q2)];exact q2⟩
 ·-- again
  have e:H P=some (.tbl #[rawInt lpos.line,rawInt lpos.col,.ref c']):=e
  have hP:s.heap.get? P=some (tabObj #[rawInt lpos.line,rawInt lpos.col,.ref c']):=I.hok P _ e
  refine kla_makeFunctionHit (mg:=X.mg) (cv:=.ref c') hcl I.ok.glob hgs hcode C hP trivial (codeAmong_snoc (c:=.ref c') [] trivial rfl) B fun ctv h' tk hk hsz=>?_
  let fo:Obj:=kla_obj "<lambda>" (X.env.qual ++ "<lambda>") params body scope (xN scope X.env) ((X.mg "__name__").getD .none) c' ctv
  have J:Inv X pins σ H { s with heap:=h'.push fo,toks:=tk }:=I.kept (t':=tk) fun b u q=>Heap.get?_push_of_some _ (hk b u q)
  refine h h'.objs.size c' ((X.mg "__name__").getD .none) ctv H _ (J.pins_of fun q hq=>?_) (Ext.refl fh) ec
  rcases mem_append.mp hq with hq|hq
  ·exact J.pin q (mem_append_right _ hq)
  ·have:q=(h'.objs.size,fo):=by simpa using hq
   subst this
   exact⟨Heap.get?_push_size _ rfl,I.hok.fresh hsz,(ne_of_lt (lt_of_lt_of_le I.lt hsz)).symm,I.nofs hsz,fun v z=>nomatch z⟩
def wP(idx:List Nat)(fb:FE)(τ:DS):List D→Rs (List D)
 |[]=>.ok []
 |d::r=>match JX idx fb τ d with
  |.ok k=>match wP idx fb τ r with
   |.ok ks=>.ok (k::ks)
   |_=>.no
  |_=>.no
theorem Zv{idx:List Nat}{fb:FE}{τ:DS}:∀{ds ks:List D},wP idx fb τ ds=.ok ks→ks.length=ds.length∧∀(i:Nat) (d k:D),ds[i]?=some d→ks[i]?=some k→JX idx fb τ d=.ok k
 |[],ks,h=>by cases h;exact⟨rfl,fun i d k e=>by simp at e⟩
 |d::r,ks,h=>by
  unfold wP at h
  cases q:JX idx fb τ d with
  |no=>rw[q] at h;cases h
  |ex c=>rw[q] at h;cases h
  |ok k=>
   rw[q] at h
   simp only at h
   cases q2:wP idx fb τ r with
   |no=>rw[q2] at h;cases h
   |ex c=>rw[q2] at h;cases h
   |ok ks'=>
    rw[q2] at h;cases h
    obtain⟨l,g⟩:=Zv q2
    refine⟨by simp[l],fun i d' k' e1 e2=>?_⟩
    cases i with
    |zero=>simp at e1 e2;subst e1;subst e2;exact q
    |succ i=>exact g i d' k' (by simpa using e1) (by simpa using e2)
def v4(ks ds:List D):Rs D:=match Zw ks with
 |some kz=>if ds.length<64∧kz.Nodup∧(∀k∈kz,k≠[]) then .ok (.lst ((xF (kz.zip ds)).map (·.2))) else .no
 |none=>.no
def YJ(idx:List Nat)(fe fb:FE):FE:=fun τ=>(fe τ).bind fun d=>match d with
 |.lst ds=>match wP idx fb τ ds with
  |.ok ks=>v4 ks ds
  |_=>.no
 |_=>.no
theorem Xh{X:Cx}{ks ds:List D}{P:D→Prop}(h:Ok X (v4 ks ds) P):∃kz:List (List Int),ks=kz.map (fun k=>D.tup (k.map D.int))∧ds.length<64∧kz.Nodup∧(∀k∈kz,k≠[])∧P (.lst ((xF (kz.zip ds)).map (·.2))):=by
 unfold v4 at h
 cases q:Zw ks with
 |none=>rw[q] at h;exact h.elim
 |some kz=>
  rw[q] at h
  simp only at h
  by_cases z:ds.length<64∧kz.Nodup∧(∀k∈kz,k≠[])
  ·rw[if_pos z] at h
   exact⟨kz,W6 q,z.1,z.2.1,z.2.2,h⟩
  ·rw[if_neg z] at h;exact h.elim
theorem JF{x p:Str}{pp pos lpos kp:Pos}{e body:Expr}{params:Arguments}{fr:List Str}{idx:List Nat}{fe fb:FE}{P c:Addr}(hg:Gl X x)(hm:X.mg x=none)(hv:bootBuiltins x=some (.builtin "sorted"))(he:PDE X e fe)
  (hr:Room 3 X.A) (tu:TabsU) (bm:BM X.mg X.base) (hcode:X.env.code=.ref c) (hcd:codeHdIn X.K c P=true) (hrow:(P,lpos.line,lpos.col,X.env.qual ++ "<lambda>")∈Tabs.rows)
  (hsc:vS X.env.scope scope=true) (hfr:FreeOk scope X.N fr idx) (hp:scope.names.lookup p=some .local) (hco:scope.isCoroutine=false) (hgen:scope.isGenerator=false)
  (hbind:∀(pm cd ct:Value) (cl:List (Str×Addr)) (u:Value),bindArgs (kla_fn "<lambda>" (X.env.qual ++ "<lambda>") params body scope cl pm cd ct) ⟨[u],[]⟩=pure [(p,u)])
  (hb:∀s H f cd,PDE (X.lam scope (p::fr) s H (X.env.qual ++ "<lambda>") f cd) body fb) (hdef:defaultsOf params X.env=([],[]):=by rfl)
  (hn:x ≠ "__name__" := by decide) (hdb:(x==("__debug__" : Str))=false:=by decide) (h1:starEach [e] X.env=(false,eval e X.env)::starEach [] X.env:=by rfl) :
  PDE X (.Call (.Name x pp) [e] [⟨some "key", .Lambda params body scope lpos,kp⟩] pos) (YJ idx fe fb):=by
 intro pins s σ H Q I ⟨F,τ,R,hq⟩
 have S:xB X scope:=wc hsc
 refine wpAny_Call_Name_kw (vt I hg hm hv ?_ hn hdb)
 refine callWith_kw ?_ (by rw[h1];rfl) (by rw[h1];rfl)
 have hqb:=hq.bind
 have ha:PDA X [e] (za fe zh):=zc he zi (by rw[h1])
 refine thn (ha pos pins s σ H (fun vs H1=>∃F1 d v,vs=[v]∧Ext F H F1 H1∧Rep X.K F1 d v∧fe τ=.ok d) I ⟨F,τ,R,?_⟩) fun us s1 hA=>?_
 ·unfold za zh
  cases z:fe τ with
  |no=>rw[z] at hqb;exact hqb.elim
  |ex cc=>rw[z] at hqb;exact hqb
  |ok d=>
   intro vs F1 H1 x1 rr
   obtain⟨v,rfl,rd⟩:=Reps.one rr
   exact⟨F1,d,v,rfl,x1,rd,rfl⟩
 obtain⟨vs,H1,I1,rvs,F1,d,v,rfl,x1,rd,ed⟩:=hA
 obtain⟨u,rfl,ru⟩:=Vals.one rvs
 rw[ed] at hqb
 have hqb:Ok X (match d with
  |.lst ds=>match wP idx fb τ ds with
   |.ok ks=>v4 ks ds
   |_=>.no
  |_=>.no) (Ev X.K F H Q):=hqb
 cases d with
 |lst ds=>
  simp only at hqb
  cases z:wP idx fb τ ds with
  |no=>rw[z] at hqb;exact hqb.elim
  |ex cc=>rw[z] at hqb;exact hqb.elim
  |ok ks=>
   rw[z] at hqb
   obtain⟨kz,ek,h64,nd,ne,hq⟩:=Xh (X:=X) hqb
   obtain⟨lk,hkeys⟩:=Zv z
   simp only[Rep] at rd
   obtain⟨l,ws,rfl,hF1,rs⟩:=rd
   obtain rfl:u=Value.ref l:=ru
   refine kws_cons ?_
   refine Gy (P:=P) (c:=c) tu S bm hcode hcd hrow hdef I1 x1.fh (x1.tt R.tt) fun f c' pm ctv H2 s2 I2 x2 hc2=>?_
   refine kws_nil ?_
   have R2:RV X.K F1 τ σ H2:=(R.ext x1).ext x2
   refine wpAny_mono (VJ (E:=X.xe) (Q:=Q) (F:=F1) (kz:=kz) I2 x2.fh hF1 rs h64 (by rw[← lk,ek,length_map]) nd ne (fun i d k hd hk pins' s' F' H' v u Q' I' hpin x' rd' ru' hQ'=>?_) fun Da F' H' x' r'=>?_) (fun w s3 ⟨v3,H3,I3,r3,q3⟩=>⟨v3,H3,I3.pins_of fun q hq=>I3.pin q (mem_append_right _ (mem_append_left _ hq)),r3,q3⟩) fun _ _ z=>z
   ·refine Gz S hr hfr hp hco hgen hbind hb I' (R2.ext x') (I'.pin _ (mem_append_right _ (hpin _ (mem_append_right _ (mem_singleton.mpr rfl))))).1 (x'.hh _ _ hc2) rd' ru' (hkeys i d _ hd ?_) hQ'
    rw[ek,getElem?_map,hk];rfl
   ·exact hq _ F' H' ((x1.trans x2).trans x') r'
 |_=>exact hqb.elim
end
section
variable{prog:Program}{w:World}{A:Around}{R:Result→Shared→Prop}{E:Value→Shared→Prop}{I S:Addr}{fp wr:List Addr}{n:Nat}{P:Nat→Value→Prop}{St:Nat→Heap→Prop}{kw:List (Str×Value)}
end
variable[Tabs]
section
variable{X:Cx}{pos pp kp:Pos}{e e2:Expr}{fe f2:FE}
end
section
variable{K:PySem.W.Frag}{B Z F H:Hp}{τ:DS}{σ:St}
end
section
variable{X:Cx}{pos:Pos}{e tg:Expr}{st:Stmt}{ss:List Stmt}{fe:FE}{fs:FA}{f:FS}
def scal:D→Bool
 |.non=>true
 |.bl _=>true
 |.int _=>true
 |.str _=>true
 |_=>false
end
open PySem.W
def jZ(a:Addr)(e1:Nat)(st:SortSt):Sem PySem.Fin:=do
 let srt:=(arrOf st).map (·.2)
 let touched:=(← seqEpoch a) != e1
 Builtin.List.listUpdate (.ref a) (fun _=>srt)
 if let some e:=failedOf st then rule "list.sort.comparison-raised"; (throw e)
 if touched then rule "list.sort.modified"; (raiseError "ValueError" "list modified during sort")
 ret .none
section
variable{X:Cx}{pins:List (Addr×Obj)}{σ:St}{F H:Hp}{τ:DS}{s:Shared}{Q:VK}{E:Value→Shared→Prop}
theorem Js{l:Addr}{vs:List V}{kz:List (List Int)}(I:Inv X pins σ H s)(fh:Same F H)(hl:F l=some (.lst vs))(rs:Reps X.K F (kz.map fun k=>D.tup (k.map D.int)) vs)(h64:kz.length<64)(nd:kz.Nodup)(ne:∀k∈kz,k≠[])
  (hQ:∀Da F' H',Ext F H F' H'→Rep X.K F' (.lst ((xF (kz.zip (kz.map fun k=>D.tup (k.map D.int)))).map (·.2))) (.ref Da)→Q (.ref Da) H') :
  wpAny (model X.prog X.w) X.A (call (.builtin "sorted") [.ref l]) (EP X pins σ Q) E s:=by
 obtain⟨us,rv,⟨o,nn,eo,hc,hd0,hd⟩,hz⟩:=I.list (SqL.of (K:=X.K) (fh _ _ hl))
 have hil:s.heap.IsList l us.toArray:=⟨o,eo,hc,nn,hd⟩
 have l0:kz.length=us.length:=by rw[← rv.length,← rs.length,length_map]
 have l1:(kz.map fun k=>D.tup (k.map D.int)).length=us.length:=by rw[length_map];exact l0
 have sz:us.length≤sizeLine:=le_of_lt (yS (by omega))
 refine Calls.call_function_entry kind_sorted plain_sorted entry_sorted (args_sorted1 _) ?_
 unfold Builtin.«sorted»
 refine wpAny_bind (m:=checkCount "sorted" 1 1 _) (wpAny_pure ?_);refine wpAny_bind (collect_list hil ?_ sz);refine wpAny_bind (wpAny_newList ?_ sz)
 have keep1:∀b u,s.heap.get? b=some u→((s.heap.push (seqObj "list" #[] 0)).update s.heap.objs.size (Obj.mapSeq (· ++ us.toArray))).get? b=some u:=fun b u q=>by
  have hb:b<s.heap.objs.size:=Heap.lt_size q
  rw[Heap.get?_update_ne _ _ _ _ (ne_of_lt hb),Heap.get?_push_ne _ _ _ (ne_of_lt hb)];exact q
 have size1:s.heap.objs.size≤((s.heap.push (seqObj "list" #[] 0)).update s.heap.objs.size (Obj.mapSeq (· ++ us.toArray))).objs.size:=by rw[Heap.size_update,size_push'];omega
 generalize hh1:(s.heap.push (seqObj "list" #[] 0)).update s.heap.objs.size (Obj.mapSeq (· ++ us.toArray))=h1 at keep1 size1
 have hD:(h1.push (seqObj "list" us.toArray 0)).get? h1.objs.size=some (seqObj "list" us.toArray 0):=Heap.get?_push_size _ rfl
 have keep2:∀b u,s.heap.get? b=some u→(h1.push (seqObj "list" us.toArray 0)).get? b=some u:=fun b u q=>Heap.get?_push_of_some _ (keep1 b u q)
 generalize hDa:h1.objs.size=Da at hD size1
 have neD:∀b u,s.heap.get? b=some u→b≠Da:=fun b u q=>ne_of_lt (lt_of_lt_of_le (Heap.lt_size q) size1)
 generalize hh2:h1.push (seqObj "list" us.toArray 0)=h2 at hD keep2
 refine wpAny_bind (wpAny_holding (wpAny_call_entry (rest:=[]) slot_list_sort ⟨_,hD,rfl⟩ entry_list_sort ?_ (args_list_sort _)))
 rw[list_sort_plain Da]
 refine wpAny_bind (listItems_at hD rfl ?_);refine wpAny_bind (listUpdate_at hD rfl ?_ (by rw[size_toArray];exact sz) (zero_le _))
 have keep3:∀b u,s.heap.get? b=some u→(h2.update Da (Obj.mapSeq fun _=>(#[]:Array Value))).get? b=some u:=fun b u q=>by
  rw[Heap.get?_update_ne _ _ _ _ (neD b u q)];exact keep2 b u q
 obtain⟨e1,hD3⟩:∃e1,(h2.update Da (Obj.mapSeq fun _=>(#[]:Array Value))).get? Da=some (seqObj "list" #[] e1):=⟨_,get?_update_seq hD fun _=>#[]⟩
 generalize h2.update Da (Obj.mapSeq fun _=>(#[]:Array Value))=h3 at keep3 hD3
 refine wpAny_bind (seqEpoch_at hD3 rfl ?_);refine wpAny_bind (wpAny_newTuple ?_ (by show us.length≤sizeLine;exact sz));refine wpAny_bind (wpAny_newList ?_ (zero_le _))
 refine wpAny_holding ?_
 have hDa0:s.heap.objs.size≤Da:=size1
 have nH:H Da=none:=I.hok.fresh hDa0
 have neL:Da≠X.env.locals:=(ne_of_lt (lt_of_lt_of_le I.lt hDa0)).symm
 have pinD:∀q∈X.pn++pins,q.1≠Da:=fun q hq=>neD _ _ (I.pin q hq).1
 have cellD:∀x c,X.env.cells.lookup x=some c→c≠Da:=fun x c e=>by
  obtain⟨v,oc,hoc,_⟩:=I.cell x c e
  exact neD _ _ hoc
 have keep4:∀b u,h3.get? b=some u→((h3.push (seqObj "tuple" us.toArray 0)).push (seqObj "list" #[] 0)).get? b=some u:=fun b u q=>Heap.get?_push_of_some _ (Heap.get?_push_of_some _ q)
 have I1:Inv X pins σ H { s with heap:=(h3.push (seqObj "tuple" us.toArray 0)).push (seqObj "list" #[] 0) }:=I.kept (t':=s.toks) fun b u q=>keep4 _ _ (keep3 b u q)
 have I2:Inv X (pins++[(Da,seqObj "list" #[] e1)]) σ H { s with heap:=(h3.push (seqObj "tuple" us.toArray 0)).push (seqObj "list" #[] 0) }:=I1.pins_of fun q hq=>by
  rcases mem_append.mp hq with hq|hq
  ·exact I1.pin q (mem_append_right _ hq)
  ·have:q=(Da,seqObj "list" #[] e1):=by simpa using hq
   subst this
   exact⟨keep4 _ _ hD3,nH,neL,I.nofs hDa0,fun v z=>nomatch z⟩
 have h0D:X.s₀.heap.objs.size≤Da:=le_trans I.sz hDa0
 generalize (h3.push (seqObj "tuple" us.toArray 0)).push (seqObj "list" #[] 0)=h4 at I1 I2 keep4
 have eD:h4.get? Da=some (seqObj "list" #[] e1):=keep4 _ _ hD3
 try dsimp only
 have fin:∀(st:SortSt) (out:List Value) (ovs:List V),(arrOf st).map (·.2)=List.toArray out→failedOf st=none→out.length<64→Vals ovs out→Reps X.K F ((xF (kz.zip (kz.map fun k=>D.tup (k.map D.int)))).map (·.2)) ovs →
   wpAny (model X.prog X.w) X.A.in1.in1 (jZ Da e1 st) (fun fin s'=>∃v,fin=.done (.ret v)∧wpAny (model X.prog X.w) X.A.in1 (ret (.ref Da)) (fun fin s'=>∃v,fin=.done (.ret v)∧EP X pins σ Q v s') E s') E { s with heap:=h4 }:=fun st out ovs hout hf hz r ro=>by
  unfold jZ
  try dsimp only
  refine wpAny_bind (seqEpoch_at eD rfl ?_)
  refine wpAny_bind (listUpdate_at eD rfl ?_ (zero_le _) (by rw[hout,size_toArray];exact le_trans (le_of_lt (yS (by omega))) (le_succ _)))
  rw[hf]
  simp only[bne_self_eq_false,Bool.false_eq_true,if_false]
  refine wpAny_pure ⟨_,rfl,wpAny_pure ⟨_,rfl,.ref Da,_,Inv.settle I2 rfl (ws:=out) hout r (by rw[r.length];exact le_of_lt (yS (by omega))) h0D cellD pinD,rfl,hQ Da (upd F Da (.lst ovs)) _ (Ext.new fh nH) ?_⟩⟩
  simp only[Rep]
  exact⟨Da,ovs,rfl,zt,ro.mono (yj (zU fh nH))⟩
 by_cases h2:us.length<2
 ·have h2':us.toArray.size<2:=by rw[size_toArray];exact h2
  rw[if_pos h2',if_pos h2']
  refine wpAny_bind (wpAny_pure ?_)
  rw[StateT.run_pure]
  refine wpAny_bind (wpAny_pure ?_)
  refine fin _ us vs ?_ rfl (by omega) rv ?_
  ·show((us.toArray.zip us.toArray).map (·.2))=us.toArray
   apply Array.toList_inj.mp
   rw[Array.toList_map,ksk_zip]
   exact List.map_snd_zip (by simp)
  ·rw[Z4 (by rw[length_map]) (by omega)];exact rs
 ·have h2':¬ us.toArray.size<2:=by rw[size_toArray];exact h2
  rw[if_neg h2',if_neg h2']
  have kt:=V3 I2 fh rs rv ne
  refine wpAny_bind (Xt kt (by omega) ?_)
  refine wpAny_bind (WI (Q:=fun st s'=>wpAny (model X.prog X.w) X.A.in1.in1 (jZ Da e1 st) (fun fin s'=>∃v,fin=.done (.ret v)∧wpAny (model X.prog X.w) X.A.in1 (ret (.ref Da)) (fun fin s'=>∃v,fin=.done (.ret v)∧EP X pins σ Q v s') E s') E s') kt rfl (by omega) (by omega) nd fun p st h3 h4 h5 h6=>?_)
  have hp:∀i∈p.toList,i<us.length:=fun i hi=>by simpa using h3.mem_iff.mp hi
  refine fin st _ (p.toList.map fun i=>vs.getD i .non) h5 h6 ?_ (jS rv _ fun i hi=>by rw[rv.length];exact hp i hi) ?_
  ·rw[length_map,h3.length_eq,length_range];omega
  ·rw[← WC (q:=p) (d:=.non) (by rw[length_map]) nd (by rw[l1];exact h3) (by rw[l1];exact h4)]
   exact Reps.pick rs _ fun i hi=>by rw[l1];exact hp i hi
def vJ:List D→Rs D
 |[.lst ds]=>v4 ds ds
 |_=>.no
theorem YM:XI X (.builtin "sorted") vJ:=⟨fun vs H Q=>∃(F:Hp) (l:Addr) (ws:List V) (kz:List (List Int)),vs=[.ref l]∧Same F H∧F l=some (.lst ws)∧Reps X.K F (kz.map fun k=>D.tup (k.map D.int)) ws∧kz.length<64∧kz.Nodup∧(∀k∈kz,k≠[]) ∧
  ∀Da F' H',Ext F H F' H'→Rep X.K F' (.lst ((xF (kz.zip (kz.map fun k=>D.tup (k.map D.int)))).map (·.2))) (.ref Da)→Q (.ref Da) H',fun pins s σ H vs us Q I r ⟨F,l,ws,kz,e1,fh,hl,rs,h64,nd,ne,q⟩=>by
  subst e1
  obtain⟨u,rfl,r1⟩:=vals1 r
  cases r1
  exact Js I fh hl rs h64 nd ne q,fun F H vs ds Q fh r h=>by
  match ds,r,h with
  |[.lst ds],r,h=>
   obtain⟨v,rfl,r1⟩:=r.one
   obtain⟨kz,ek,h64,nd,ne,hq⟩:=Xh (X:=X) (show Ok X (v4 ds ds) _ from h)
   simp only[Rep] at r1
   obtain⟨l,ws,rfl,e1,t⟩:=r1
   subst ek
   exact⟨F,l,ws,kz,rfl,fh,e1,t,by simpa using h64,nd,ne,fun Da F' H' x rp=>hq _ F' H' x rp⟩
  |[],_,h=>exact h.elim
  |[.non],_,h=>exact h.elim
  |[.bl _],_,h=>exact h.elim
  |[.int _],_,h=>exact h.elim
  |[.str _],_,h=>exact h.elim
  |[.tup _],_,h=>exact h.elim
  |[.scr _],_,h=>exact h.elim
  |[.raw _],_,h=>exact h.elim
  |[.exc _],_,h=>exact h.elim
  |.non::_::_,_,h=>exact h.elim
  |.bl _::_::_,_,h=>exact h.elim
  |.int _::_::_,_,h=>exact h.elim
  |.str _::_::_,_,h=>exact h.elim
  |.lst _::_::_,_,h=>exact h.elim
  |.tup _::_::_,_,h=>exact h.elim
  |.scr _::_::_,_,h=>exact h.elim
  |.raw _::_::_,_,h=>exact h.elim
  |.exc _::_::_,_,h=>exact h.elim⟩
end
open PySem.W
structure Ur(K:PySem.W.Frag)(mg:Str→Option Value)(x:Str)(st:Stmt)(f c T:Addr):Prop where
 ex:∃(oc:Value) (od:Option Addr) (kV doc pm:Value) (an:Option Addr) (ct:Value) (osl:Array (Option Value)),K.lookup f=some ⟨oc,od,.func (fnOf x x (zI st) (zD st) (zk st) .none kV doc pm an (.ref c) ct),osl⟩
 cd:codeIn K (.ref c) x=true
 kp:keepIn K (.ref f)=true
 at_:mg x=some (.ref f)
 tab:codeHdIn K c T=true
section
variable{P:Program}{w:World}{K:PySem.W.Frag}{mg:Str→Option Value}{base:Heap}
theorem DefOk.mkL{x:Str}{st:Stmt}{f c T:Addr}{N ps:List Str}{k n:Nat}{fb:FS}(D:Ur K mg x st f c T)(S:zN N ps (zk st))(hn:ps.length=n)
  (hb:∀(kV doc pm:Value) (an:Option Addr) (cdv ct:Value) (us:List Value),us.length=ps.length→bindArgs (fnOf x x (zI st) (zD st) (zk st) .none kV doc pm an cdv ct) ⟨us,[]⟩=pure (ps.zip us))
  (hbody:∀(A:Around) (outer:List Env) (s:Shared) (H:Hp) (E:XK),Room k (A.deeper (envOfC x (zk st) s.heap.objs.size f (.ref c))) →
   YS (Wk CX0 P w K mg base N x (zk st) f (.ref c) A outer s H E).nox (zD st) fb):DefOk P w K mg base x (k+1) n ps (xw N.length fb):=by
 obtain⟨oc,od,kV,doc,pm,an,ct,osl,lk⟩:=D.ex
 refine⟨f,_,?_,.all (hb kV doc pm an (.ref c) ct),D.kp,D.at_⟩
 refine Lo lk D.cd S (fun vs H Q E h=>by rw[hn];exact h.1) fun A outer s H vs Q E hr h=>⟨_,(show PSs _ _ _ from hbody A outer s H E hr).nox,?_⟩
 obtain⟨hl,ds,Fz,fh,tt,r,h⟩:=h
 refine⟨H,Fz,Fz,zV N.length ds,WH fh tt r,?_⟩
 unfold xw at h
 cases q:fb (zV N.length ds) with
 |nx τ=>rw[q] at h;exact fun σ F' H' ff RR=>h .non F' H' RR.out (by simp only[Rep])
 |rt d=>rw[q] at h;exact fun v F' H' x rr=>h v F' H' x rr
 |ro d τ=>rw[q] at h;exact fun v σ F' H' ff RR rr=>h v F' H' RR.out rr
 |rb d τ=>rw[q] at h;exact h.elim
 |bk τ=>rw[q] at h;exact h.elim
 |ct τ=>rw[q] at h;exact h.elim
 |ex c=>rw[q] at h;exact h.elim
 |no=>rw[q] at h;exact h.elim
 |rs c τ=>rw[q] at h;exact h.elim
end
section
variable{X:Cx}{pos:Pos}{e a b:Expr}{es:List Expr}{fe fa fb:FE}{fs:FA}
end
def Vc:List D→Option (List Int)
 |[]=>some []
 |.int i::r=>(Vc r).map (i :: ·)
 |_::_=>none
omit [Tabs] in
theorem U4:∀{ds:List D} {ns:List Int},Vc ds=some ns→ds=ns.map D.int
 |[],ns,h=>by cases h;rfl
 |.int i::r,ns,h=>by
  simp only[Vc] at h
  cases q:Vc r with
  |none=>rw[q] at h;cases h
  |some m=>rw[q] at h;cases h;rw[map_cons,← U4 q]
 |.non::r,ns,h=>by cases h
 |.bl _::r,ns,h=>by cases h
 |.str _::r,ns,h=>by cases h
 |.lst _::r,ns,h=>by cases h
 |.tup _::r,ns,h=>by cases h
 |.scr _::r,ns,h=>by cases h
 |.raw _::r,ns,h=>by cases h
 |.exc _::r,ns,h=>by cases h
omit [Tabs] in
theorem J4(ns:List Int):Vc (ns.map D.int)=some ns:=by
 induction ns with
 |nil=>rfl
 |cons n ns ih=>rw[map_cons,Vc,ih];rfl
omit [Tabs] in
theorem vals_ints:∀{vs:List Value} {ns:List Int},IntsAre vs ns→Vals (ns.map V.int) vs
 |_,_,.nil=>.nil
 |_,_,.cons n t r=>.cons ⟨t,rfl⟩ (vals_ints r)
def V8(a:Int):List Int→List Int
 |[]=>[a]
 |b::r=>if a≤b then a::b::r else b::V8 a r
def jj:List Int→List Int
 |[]=>[]
 |a::r=>V8 a (jj r)
omit [Tabs] in
theorem Zf(a:Int):∀l,(V8 a l).Perm (a::l)
 |[]=>List.Perm.refl _
 |b::r=>by
  unfold V8
  split
  ·exact List.Perm.refl _
  ·exact((Zf a r).cons b).trans (List.Perm.swap a b r)
omit [Tabs] in
theorem ur:∀l,(jj l).Perm l
 |[]=>List.Perm.refl _
 |a::r=>(Zf a _).trans ((ur r).cons a)
omit [Tabs] in
theorem U7(a:Int):∀l:List Int,l.Pairwise (·≤·)→(V8 a l).Pairwise (·≤·)
 |[],_=>by simp[V8]
 |b::r,h=>by
  unfold V8
  have h':=pairwise_cons.mp h
  split
  ·rename_i z
   refine pairwise_cons.mpr ⟨fun x hx=>?_,h⟩
   rcases mem_cons.mp hx with rfl|hx
   ·exact z
   ·exact Int.le_trans z (h'.1 x hx)
  ·rename_i z
   refine pairwise_cons.mpr ⟨fun x hx=>?_,U7 a r h'.2⟩
   rcases mem_cons.mp ((Zf a r).mem_iff.mp hx) with rfl|hx
   ·omega
   ·exact h'.1 x hx
omit [Tabs] in
theorem XL:∀l:List Int,(jj l).Pairwise (·≤·)
 |[]=>List.Pairwise.nil
 |a::r=>U7 a _ (XL r)
omit [Tabs] in
theorem XJ:∀{l m:List Int},l.Pairwise (·≤·)→m.Pairwise (·≤·)→l.Perm m→l=m
 |[],m,_,_,p=>by rw[List.nil_perm.mp p]
 |a::l,[],_,_,p=>by have:=p.length_eq;simp at this
 |a::l,b::m,h1,h2,p=>by
  have g1:=pairwise_cons.mp h1
  have g2:=pairwise_cons.mp h2
  have e:a=b:=by
   have ha:a∈b::m:=p.mem_iff.mp mem_cons_self
   have hb:b∈a::l:=p.mem_iff.mpr mem_cons_self
   have i1:b≤a:=by
    rcases mem_cons.mp ha with z|z
    ·exact Int.le_of_eq z.symm
    ·exact g2.1 a z
   have i2:a≤b:=by
    rcases mem_cons.mp hb with z|z
    ·exact Int.le_of_eq z.symm
    ·exact g1.1 b z
   omega
  subst e
  rw[XJ g1.2 g2.2 p.cons_inv]
def YT:List D→Rs D
 |[.lst ds]=>match Vc ds with
  |some ns=>if ns.length<64 then .ok (.lst ((jj ns).map D.int)) else .no
  |none=>.no
 |_=>.no
section
variable{X:Cx}{pins:List (Addr×Obj)}{σ:St}{F H:Hp}{s:Shared}{Q:VK}{E:Value→Shared→Prop}
theorem VL{l:Addr}{vs:List V}{ns:List Int}(I:Inv X pins σ H s)(fh:Same F H)(hl:F l=some (.lst vs))(rs:Reps X.K F (ns.map D.int) vs)(h64:ns.length<64)
  (hQ:∀Da F' H',Ext F H F' H'→Rep X.K F' (.lst ((jj ns).map D.int)) (.ref Da)→Q (.ref Da) H') :
  wpAny (model X.prog X.w) X.A (call (.builtin "sorted") [.ref l]) (EP X pins σ Q) E s:=by
 obtain⟨us,rv,⟨o,nn,eo,hc,hd0,hd⟩,hz⟩:=I.list (SqL.of (K:=X.K) (fh _ _ hl))
 have hi:IntsAre us ns:=jD rs rv
 refine sorted_ints (vs:=us) ⟨o,eo,hc,nn,hd⟩ hi (by have:=hi.length;omega) fun out ns' a1 a2 a3=>?_
 obtain⟨e,he⟩:=sortedAll_at s.heap us out
 have en:ns'=jj ns:=XJ a3 (XL ns) (a2.trans (ur ns).symm)
 subst en
 have hp:s.heap.objs.size≤s.heap.objs.size+1:=le_succ _
 have nH:H (s.heap.objs.size+1)=none:=I.hok.fresh hp
 have ll:((jj ns).map V.int).length≤sizeLine:=by
  rw[length_map,(ur ns).length_eq]
  exact le_of_lt (yS (by omega))
 refine⟨.ref (s.heap.objs.size+1),_,I.laid (t':=s.toks) (o:=.lst ((jj ns).map V.int)) (fun b u q=>sortedAll_old q) hp ⟨ll,out.toList,e,vals_ints a1,by rw[Array.toArray_toList];exact he⟩,rfl,hQ _ (upd F (s.heap.objs.size+1) (.lst ((jj ns).map V.int))) _ (Ext.new fh nH) ?_⟩
 simp only[Rep]
 exact⟨_,_,rfl,zt,Reps.ints _⟩
theorem Vy:XI X (.builtin "sorted") YT:=⟨fun vs H Q=>∃(F:Hp) (l:Addr) (ws:List V) (ns:List Int),vs=[.ref l]∧Same F H∧F l=some (.lst ws)∧Reps X.K F (ns.map D.int) ws∧ns.length<64 ∧
  ∀Da F' H',Ext F H F' H'→Rep X.K F' (.lst ((jj ns).map D.int)) (.ref Da)→Q (.ref Da) H',fun pins s σ H vs us Q I r ⟨F,l,ws,ns,e1,fh,hl,rs,h64,q⟩=>by
  subst e1
  obtain⟨u,rfl,r1⟩:=vals1 r
  cases r1
  exact VL I fh hl rs h64 q,fun F H vs ds Q fh r h=>by
  match ds,r,h with
  |[.lst ds],r,h=>
   obtain⟨v,rfl,r1⟩:=r.one
   simp only[YT] at h
   cases q:Vc ds with
   |none=>rw[q] at h;exact h.elim
   |some ns=>
    rw[q] at h
    obtain⟨h64,h⟩:=yz h
    simp only[Rep] at r1
    obtain⟨l,ws,rfl,e1,t⟩:=r1
    rw[U4 q] at t
    exact⟨F,l,ws,ns,rfl,fh,e1,t,h64,fun Da F' H' x rp=>h _ F' H' x rp⟩
  |[],_,h=>exact h.elim
  |[.non],_,h=>exact h.elim
  |[.bl _],_,h=>exact h.elim
  |[.int _],_,h=>exact h.elim
  |[.str _],_,h=>exact h.elim
  |[.tup _],_,h=>exact h.elim
  |[.scr _],_,h=>exact h.elim
  |[.raw _],_,h=>exact h.elim
  |[.exc _],_,h=>exact h.elim
  |a::_::_,_,h=>cases a <;> exact h.elim⟩
end
end FD
set_option Elab.async false
set_option linter.all false
namespace STW
open PySem
abbrev Ris(l:List Nat):Prop:=l.Pairwise (· < ·)
theorem ZN{l:List Nat}(h:Ris l){i k:Nat}(hik:i<k)(hk:k<l.length):l.getD i 0<l.getD k 0:=by
 have:=List.pairwise_iff_getElem.mp h i k (by omega) hk hik
 simpa[show i<l.length by omega,hk] using this
theorem YO(xs:Array Nat)(j:Nat):∀(fuel lo hi:Nat),lo≤hi→hi≤xs.size→hi-lo≤fuel→Ris xs.toList→(∀i,i<lo→xs.toList.getD i 0<j)→(∀i,hi≤i→i<xs.size→j≤xs.toList.getD i 0) →
  SetTable.below.go xs j fuel lo hi≤xs.size∧(∀i,i<SetTable.below.go xs j fuel lo hi→xs.toList.getD i 0<j)∧∀i,SetTable.below.go xs j fuel lo hi≤i→i<xs.size→j≤xs.toList.getD i 0
 |0,lo,hi,h1,h2,h3,hr,ha,hb=>by
  have e:lo=hi:=by omega
  subst e
  unfold SetTable.below.go
  exact⟨h2,ha,hb⟩
 |fuel+1,lo,hi,h1,h2,h3,hr,ha,hb=>by
  unfold SetTable.below.go
  by_cases c:lo<hi
  ·rw[if_pos c]
   have hm:(lo+hi) / 2<xs.size:=by omega
   have em:xs.getD ((lo+hi) / 2) j=xs.toList.getD ((lo+hi) / 2) 0:=by
    simp[Array.getD,hm]
   dsimp only
   by_cases d:xs.getD ((lo+hi) / 2) j<j
   ·rw[if_pos d]
    refine YO xs j fuel _ hi (by omega) h2 (by omega) hr (fun i hi'=>?_) hb
    rw[em] at d
    by_cases z:i=(lo+hi) / 2
    ·subst z;exact d
    ·exact Nat.lt_trans (ZN hr (by omega) (by simpa using hm)) d
   ·rw[if_neg d]
    refine YO xs j fuel lo _ (by omega) (by omega) (by omega) hr ha fun i hi' hs=>?_
    rw[em] at d
    by_cases z:i=(lo+hi) / 2
    ·subst z;omega
    ·have:=ZN hr (i:=(lo+hi) / 2) (k:=i) (by omega) (by simpa using hs)
     omega
  ·rw[if_neg c]
   have e:lo=hi:=by omega
   subst e
   exact⟨h2,ha,hb⟩
theorem Vz{xs:Array Nat}(hr:Ris xs.toList)(j:Nat):SetTable.below xs j≤xs.size∧(∀i,i<SetTable.below xs j→xs.toList.getD i 0<j)∧∀i,SetTable.below xs j≤i→i<xs.size→j≤xs.toList.getD i 0:=
 YO xs j xs.size 0 xs.size (zero_le _) (le_refl _) (by omega) hr (fun i h=>by omega) fun i h1 h2=>by omega
def TT(L:Bool)(t:SetTable):Prop:=t.led=L∧t.dummies = #[]∧Ris t.place.toList
theorem VO{L:Bool}{t:SetTable}(h:TT L t)(j:Nat):t.slot j≠.dummy:=by
 unfold SetTable.slot
 have:SetTable.has t.dummies j=false:=by
  rw[h.2.1];unfold SetTable.has;simp
 dsimp only
 split
 ·simp
 ·rw[this];simp
theorem VN{t:SetTable}{j:Nat}(h:t.slot j=.empty):t.place[SetTable.below t.place j]?≠some j:=fun e=>by
 unfold SetTable.slot at h
 dsimp only at h
 rw[e] at h
 simp at h
theorem WK{L:Bool}{t:SetTable}(ht:TT L t)(hashAt:Nat→Int)(h:Int):∀(fuel:Nat) (p:SetTable.Probe) (j:Nat) (d:Option Nat),p.dummy=none→SetTable.probe.go t hashAt h fuel p=some (.empty j d)→t.slot j=.empty∧d=none
 |0,p,j,d,_,e=>by unfold SetTable.probe.go at e;cases e
 |fuel+1,p,j,d,hp,e=>by
  unfold SetTable.probe.go at e
  cases q:t.slot p.j with
  |empty=>
   rw[q] at e
   simp only[Option.some.injEq,SetTable.Met.empty.injEq] at e
   obtain⟨rfl,rfl⟩:=e
   exact⟨q,hp⟩
  |dummy=>exact absurd q (VO ht p.j)
  |live i=>
   rw[q] at e
   dsimp only at e
   split at e
   ·cases e
   ·refine WK ht hashAt h fuel _ j d ?_ e
    unfold SetTable.advance
    split
    ·exact hp
    ·exact hp
theorem J9{L:Bool}{t:SetTable}(ht:TT L t){h:Int}{j:Nat}{b:Bool}(e:t.freeSlot h=some (j,b)):t.slot j=.empty:=by
 unfold SetTable.freeSlot at e
 split at e
 ·rename_i j' d q
  unfold SetTable.probe at q
  obtain⟨q1,q2⟩:=WK ht _ h _ _ j' d rfl q
  subst q2
  simp at e
  rw[← e.1];exact q1
 ·cases e
theorem Ve{α:Type}(xs:Array α)(p:Nat)(x:α)(hp:p≤xs.size):(SetTable.insertAt xs p x).toList=xs.toList.take p++x::xs.toList.drop p:=by
 unfold SetTable.insertAt
 simp[Array.toList_extract,List.extract]
 exact take_of_length_le (by simp)
theorem ML{L:Bool}{t:SetTable}(ht:TT L t){j:Nat}(hj:t.slot j=.empty):TT L (t.put j).1:=by
 obtain⟨b1,b2,b3⟩:=Vz ht.2.2 j
 have hne:=VN hj
 have hd:SetTable.has t.dummies j=false:=by rw[ht.2.1];unfold SetTable.has;simp
 refine⟨ht.1,?_,?_⟩
 ·show(if SetTable.has t.dummies j=true then _ else t.dummies) = #[]
  rw[hd];simpa using ht.2.1
 ·show Ris (SetTable.insertAt t.place (SetTable.below t.place j) j).toList
  rw[Ve _ _ _ b1]
  generalize SetTable.below t.place j=p at *
  have hr:=ht.2.2
  refine List.pairwise_append.mpr ⟨hr.sublist (List.take_sublist _ _),pairwise_cons.mpr ⟨fun y hy=>?_,hr.sublist (List.drop_sublist _ _)⟩,fun a ha y hy=>?_⟩
  ·obtain⟨i,hi,rfl⟩:=List.getElem_of_mem hy
   rw[List.getElem_drop]
   rw[length_drop] at hi
   have hs:p+i<t.place.size:=by have:=length_toList (xs:=t.place);omega
   have g:=b3 (p+i) (by omega) hs
   have e:t.place.toList.getD (p+i) 0=t.place.toList[p+i]'(by simpa using hs):=by simp[hs]
   rw[e] at g
   refine Nat.lt_of_le_of_ne g fun z=>?_
   by_cases i0:i=0
   ·subst i0
    apply hne
    have:t.place[p]?=some (t.place.toList[p+0]'(by simpa using hs)):=by
     have:p<t.place.size:=by omega
     simp[this]
    rw[this,← z]
   ·have h2:=ZN hr (i:=p) (k:=p+i) (by omega) (by simpa using hs)
    have h3:=b3 p (le_refl _) (by omega)
    rw[e] at h2
    omega
  ·have ha':a<j:=by
    obtain⟨i,hi,rfl⟩:=List.getElem_of_mem ha
    rw[List.getElem_take]
    rw[length_take] at hi
    have g:=b2 i (by omega)
    have hi2:i<t.place.size:=by have:=length_toList (xs:=t.place);omega
    simpa[hi2] using g
   rcases mem_cons.mp hy with rfl|hy
   ·exact ha'
   ·obtain⟨i,hi,rfl⟩:=List.getElem_of_mem hy
    rw[List.getElem_drop]
    rw[length_drop] at hi
    have hs:p+i<t.place.size:=by have:=length_toList (xs:=t.place);omega
    have g:=b3 (p+i) (by omega) hs
    have e:t.place.toList.getD (p+i) 0=t.place.toList[p+i]'(by simpa using hs):=by simp[hs]
    rw[e] at g
    omega
theorem uq{L:Bool}{t:SetTable}(ht:TT L t)(n:Nat):TT L (t.standIn n):=⟨ht.1,rfl,by
 show Ris (Array.range n).toList
 rw[Array.toList_range];exact List.pairwise_lt_range⟩
theorem LZ{L:Bool}{t:SetTable}(ht:TT L t)(n:Nat):TT L (t.orStandIn n):=by
 unfold SetTable.orStandIn
 split
 ·exact ht
 ·exact uq ht n
theorem Tp{L:Bool}{t:SetTable}(ht:TT L t)(es:Array (Int×Value))(h:Int)(x:Value):TT L (layNew t es h x).2.1:=by
 unfold layNew
 split
 ·rename_i slot wd e
  exact LZ (ML ht (J9 ht e)) _
 ·exact uq ht _
theorem GA{mask finger moves:Nat}{led plain:Bool}{hs:Array Int}{t:SetTable}{o:Array Nat}(e:SetTable.laid mask finger moves led plain hs=some (t,o)):TT led t:=by
 unfold SetTable.laid at e
 cases q:SetTable.layClean mask hs with
 |none=>rw[q] at e;cases e
 |some owner=>
  rw[q] at e
  simp only[Option.bind_eq_bind,Option.bind_some,Option.pure_def,Option.some.injEq,Prod.mk.injEq] at e
  obtain⟨rfl,_⟩:=e
  refine⟨rfl,rfl,?_⟩
  show Ris (((List.range (mask+1)).filterMap fun j=>(owner.getD j none).map (j,·)).map (·.1)).toArray.toList
  show(((List.range (mask+1)).filterMap fun j=>(owner.getD j none).map (j,·)).map (·.1)).Pairwise (· < ·)
  rw[pairwise_map]
  refine(List.Pairwise.filterMap (R:=(· < ·)) _ (fun a a' haa b hb b' hb'=>?_) List.pairwise_lt_range)
  cases z:owner.getD a none with
  |none=>rw[z] at hb;simp at hb
  |some k=>
   cases z':owner.getD a' none with
   |none=>rw[z'] at hb';simp at hb'
   |some k'=>
    rw[z] at hb;rw[z'] at hb'
    simp at hb hb'
    subst hb;subst hb'
    exact haa
theorem Jx{L:Bool}{t:SetTable}(ht:TT L t)(es:Array (Int×Value))(wanted:Nat):TT L (relayAll t es wanted).2.1:=by
 unfold relayAll
 split
 ·rename_i t' order e
  dsimp only
  split
  ·unfold SetTable.relaid at e
   have:=GA e
   rw[ht.1] at this
   exact this
  ·exact uq ht _
 ·exact uq ht _
theorem M9{L:Bool}{t:SetTable}(ht:TT L t):TT L { t with plain:=false }:=ht
section
variable{prog:Program}{w:World}{K:Type}[DecidableEq K]{knd:KeyKind prog w K}{A:Around}{E:Value→Shared→Prop}{s:Shared}{L:Bool}{a:Addr}{S:K→Bool}{n:Nat}{k:K}{x:Value}
def SetT(knd:KeyKind prog w K)(L:Bool)(h:Heap)(a:Addr)(S:K→Bool)(n:Nat):Prop:=
 ∃o es ep t,h.get? a=some o∧o.ExactSet∧o.data=.set es ep t∧ElemsOf knd es.toList∧(∀k,S k=true↔∃e∈es.toList,knd.is k e.2=true)∧es.size<scanBound∧t.fits es.size=true∧es.size=n∧TT L t
theorem SetT.at{h h':Heap}(q:SetT knd L h a S n)(k:∀o,h.get? a=some o→h'.get? a=some o):SetT knd L h' a S n:=by
 obtain⟨o,es,ep,t,ho,r⟩:=q;exact⟨o,es,ep,t,k _ ho,r⟩
theorem SetT.congr{h:Heap}{S':K→Bool}{n':Nat}(q:SetT knd L h a S n)(e:∀k,S k=S' k)(en:n=n'):SetT knd L h a S' n':=by
 have:S=S':=funext e
 subst this;subst en;exact q
theorem stored{h:Heap}{o:Obj}{es:Array (Int×Value)}{ep:Nat}{t:SetTable}(ho:h.get? a=some o)(hx:o.ExactSet)(hd:o.data=.set es ep t){es':Array (Int×Value)}{t':SetTable}{S':K→Bool}(p1:ElemsOf knd es'.toList)
  (p2:∀k,S' k=true↔∃e∈es'.toList,knd.is k e.2=true) (p3:es'.size<scanBound) (p4:t'.fits es'.size=true) (p5:TT L t') :
  (h.update a (Obj.putSet es' t')).get? a=some { o with data:=.set es' (ep+1) t' }∧SetT knd L (h.update a (Obj.putSet es' t')) a S' es'.size:=by
 obtain⟨g,_⟩:=SetOf_store (knd:=knd) ho hx hd p1 p2 p3 p4
 exact⟨g,_,es',ep+1,t',g,hx,rfl,p1,p2,p3,p4,rfl,p5⟩
theorem Mc{g:Bool→Sem Unit}(hg:∀(b:Bool) (s1:Shared) (Q:Unit→Shared→Prop),Q () s1→wpAny (model prog w) A (g b) Q E s1){o:Obj}{es:Array (Int×Value)}{ep:Nat}{t:SetTable}(ho:s.heap.get? a=some o)(hx:o.ExactSet)(hd:o.data=.set es ep t)
  {es1:Array (Int×Value)} {t2:SetTable} {S':K→Bool} (p1:ElemsOf knd es1.toList) (p2:∀k,S' k=true↔∃e∈es1.toList,knd.is k e.2=true) (p3:es1.size<scanBound) (p4:t2.fits es1.size=true) (p5:TT L t2) {wasDummy:Bool} {R:Option Bool→Shared→Prop}
  (q:∀h',Heap.SameBut a s.heap h'→SetT knd L h' a S' es1.size→R (some true) { s with heap:=h' }) :
  wpAny (model prog w) A (do
    storeSet a es1 t2
    if (!wasDummy&&t2.tooFull)=true then do
        g (relayAll t2 es1 (SetTable.grown es1.size)).2.2
        storeSet a (relayAll t2 es1 (SetTable.grown es1.size)).1 (relayAll t2 es1 (SetTable.grown es1.size)).2.1
        pure (some true)
     else pure (some true)) R E s:=by
 obtain⟨g1,g2⟩:=stored (knd:=knd) ho hx hd p1 p2 p3 p4 p5
 have sb:=Heap.SameBut.update s.heap a (Obj.putSet es1 t2)
 refine wpAny_bind (wpAny_storeSet_of ho hd ?_ (fits_of_scanBound p3))
 split
 ·have r1:=relayAll_perm t2 es1 (SetTable.grown es1.size);have r2:=relayAll_fits t2 es1 (SetTable.grown es1.size);have r3:=Jx p5 es1 (SetTable.grown es1.size)
  generalize relayAll t2 es1 (SetTable.grown es1.size)=Z at r1 r2 r3 ⊢
  obtain⟨es2,t3,gv⟩:=Z
  dsimp only at r1 r2 r3 ⊢
  have z:es2.size=es1.size:=by rw[← length_toList,r1.length_eq,length_toList]
  have p3':es2.size<scanBound:=by omega
  refine wpAny_bind (hg _ _ _ (wpAny_bind (wpAny_storeSet_of g1 rfl ?_ (fits_of_scanBound p3'))))
  obtain⟨_,u⟩:=stored (knd:=knd) (L:=L) g1 hx rfl (p1.perm r1) (fun k'=>(p2 k').trans ⟨fun ⟨e,he,y⟩=>⟨e,r1.mem_iff.mpr he,y⟩,fun ⟨e,he,y⟩=>⟨e,r1.mem_iff.mp he,y⟩⟩) p3' r2 r3
  rw[z] at u
  exact wpAny_pure (q _ (sb.trans (Heap.SameBut.update _ a _)) u)
 ·exact wpAny_pure (q _ sb g2)
theorem addOk{Q:Bool→Shared→Prop}(hkey:knd.is k x=true)(hsc:x.scannable=true)(hS:SetT knd L s.heap a S n)(hroom:n+1<scanBound)
  (q:∀h',Heap.SameBut a s.heap h'→SetT knd L h' a (fun k'=>S k'||decide (k'=k)) (if S k then n else n+1)→Q (!S k) { s with heap:=h' }):wpAny (model prog w) A (setAddHashed a x (knd.hash k)) Q E s:=by
 obtain⟨o,es,ep,t,ho,hx,hd,hel,hmem,hb,hf,hn,hT⟩:=hS
 have hb1:es.size+1<scanBound:=by omega
 unfold setAddHashed setAddHashedIn;refine wpAny_holding (wpAny_bind (wpAny_setState_of ho hd hf ?_))
 dsimp only;rw[byScan_of hsc hb hel];simp only[↓reduceIte];unfold setAddByScan
 refine wpAny_bind (wpAny_bind (wpAny_rule (wpAny_bind (wpAny_setScan_of hkey ho hd hf hel ?_))))
 cases hr:List.findIdx? (fun e=>knd.is k e.2) es.toList with
 |some j=>
  obtain⟨hj,hpj,_⟩:=List.findIdx?_eq_some_iff_getElem.mp hr
  have hSk:S k=true:=(hmem k).mpr ⟨es.toList[j],getElem_mem hj,hpj⟩
  have u:=q s.heap (Heap.SameBut.refl a s.heap) ⟨o,es,ep,t,ho,hx,hd,hel,fun k'=>by
   rw[Bool.or_eq_true,decide_eq_true_eq,← hmem k'];exact⟨fun z=>z.elim id (fun e=>e ▸ hSk),.inl⟩,hb,hf,by rw[hSk];exact hn,hT⟩
  rw[hSk] at u
  dsimp only
  exact wpAny_pure (wpAny_pure u)
 |none=>
  have hSk:S k=false:=by
   cases hk:S k with
   |false=>rfl
   |true=>obtain⟨e,he,hp⟩:=(hmem k).mp hk;have:=List.findIdx?_eq_none_iff.mp hr e he;rw[hp] at this;cases this
  have gw:∀(b:Bool) (s1:Shared) (Q':Unit→Shared→Prop),Q' () s1→wpAny (model prog w) A (match b with|true=>rule "set.scan.the-table-gave-way" |false=>pure ()) Q' E s1:=fun b s1 Q' hq=>by
   cases b <;> first|exact wpAny_pure hq|exact wpAny_rule hq
  have l1:=layNew_perm t es (knd.hash k) x;have l2:=layNew_fits t es (knd.hash k) x;have l3:=Tp hT es (knd.hash k) x
  dsimp only
  generalize layNew t es (knd.hash k) x=Z at l1 l2 l3 ⊢
  obtain⟨es1,t1,wd,gv⟩:=Z
  dsimp only at l1 l2 l3 ⊢
  rw[Array.toList_push] at l1
  have p1:ElemsOf knd es1.toList:=(hel.push hkey hsc).perm l1
  have p2:∀k',(S k'||decide (k'=k))=true↔∃e∈es1.toList,knd.is k' e.2=true:=mem_push_iff hkey hmem l1
  have z1:es1.size=n+1:=by rw[← length_toList,l1.length_eq,length_append,length_toList,hn];rfl
  have p3:es1.size<scanBound:=by omega
  have fin:∀h',Heap.SameBut a s.heap h'→SetT knd L h' a (fun k'=>S k'||decide (k'=k)) es1.size→Q true { s with heap:=h' }:=fun h' sb u=>by
   have v:=q h' sb;rw[hSk] at v;rw[z1] at u;exact v u
  refine wpAny_bind (gw _ _ _ ?_)
  split
  ·refine wpAny_bind ?_
   rw[hashByValue_scannable 8 hsc]
   refine wpAny_pure (Mc (L:=L) gw ho hx hd p1 p2 p3 ?_ ?_ fun h' sb u=>wpAny_pure (fin h' sb u))
   ·split
    ·exact l2
    ·exact SetTable.fits_plain_off l2
   ·split
    ·exact l3
    ·exact M9 l3
  ·refine wpAny_bind (wpAny_pure ?_)
   simp only[↓reduceIte]
   exact Mc (L:=L) gw ho hx hd p1 p2 p3 l2 l3 fun h' sb u=>wpAny_pure (fin h' sb u)
end
open PyProof.Rows
section
variable{prog:Program}{w:World}{A:Around}{R:Result→Shared→Prop}{I:Addr}{fp wr:List Addr}{G:Array GenState→Array GenState→Prop}{n:Nat}{P:Nat→Value→Prop}{St:Nat→Shared→Prop}{L:Bool}
theorem Mi(W:WalksS prog w A.in1 I fp wr G n P St)(Z:Addr)(hZ:Z∉fp)(val:Nat→Int)(hval:∀i v,P i v→∃t,v=.int (val i) t)(hb:n+1<scanBound) :
  ∀(k i:Nat) (s:Shared),n-i=k→i≤n→St i s→SetT (intKind prog w) L s.heap Z (fun k'=>(firstMet val i).any (· == k')) (firstMet val i).length →
   (∀s',Moved (Z::wr) G s s'→SetT (intKind prog w) L s'.heap Z (fun k'=>(firstMet val n).any (· == k')) (firstMet val n).length→R (.ok (.ret .none)) s') →
   codeAny (model prog w) A (.builtin "set.update.loop" ⟨[.ref Z,.ref I],[]⟩) R s:=by
 have hw:Z∉wr:=fun h=>hZ (W.sub _ h)
 have up:∀b∈wr,b∈Z::wr:=fun b h=>mem_cons_of_mem _ h
 intro k
 induction k with
 |zero=>
  intro i s hk hi hst hS hR
  obtain rfl:i=n:=by omega
  refine codeAny_builtin PyProof.Rows.F.entry_set_update_loop ?_
  rw[Around.under_plainId PyProof.Rows.F.plain_set_update_loop _]
  show wpAny _ A.in1 (pyNext (.ref I) >>= _) _ _ s;refine wpAny_bind (W.done s _ _ hst fun s' hm=>?_)
  exact wpAny_pure (hR s' (hm.mono up) (hS.at fun o e=>hm.heap Z _ hw e))
 |succ k ih=>
  intro i s hk hi hst hS hR
  refine codeAny_builtin PyProof.Rows.F.entry_set_update_loop ?_
  rw[Around.under_plainId PyProof.Rows.F.plain_set_update_loop _]
  show wpAny _ A.in1 (pyNext (.ref I) >>= _) _ _ s;refine wpAny_bind (W.item i s _ _ (by omega) hst fun v s' hP hst' hm=>?_)
  obtain⟨t,rfl⟩:=hval i v hP
  have hS1:=hS.at (h':=s'.heap) fun o e=>hm.heap Z _ hw e
  show wpAny _ A.in1 (holding [Value.int (val i) t] (setAdd Z (.int (val i) t)) >>= _) _ _ s';refine wpAny_bind (wpAny_holding ?_)
  unfold setAdd
  refine wpAny_holding (wpAny_bind ((intKind prog w).pyHash (k:=val i) (intKind_is _ _ _ _) ?_))
  have room:(firstMet val i).length+1<scanBound:=by have:=firstMet_length_le val i;omega
  refine addOk (knd:=intKind prog w) (s:={ s' with toks:=s'.toks+1 }) (intKind_is _ _ _ _) rfl hS1 room fun h' sb hS2=>?_
  have hS3:=hS2.congr (S':=fun k'=>(firstMet val (i+1)).any (· == k')) (n':=(firstMet val (i+1)).length) (fun k'=>by rw[firstMet_succ,step_any]) (by rw[firstMet_succ,step_length])
  refine wpAny_pure ⟨plainId_quiet PyProof.Rows.F.plain_set_update_loop _,ih (i+1) _ (by omega) (by omega) (W.frame _ s' _ _ hst' (le_succ _) fun b hb o e=>?_) hS3 fun s'' hm'' hS''=>?_⟩
  ·rw[sb.2 b (fun h:b=Z=>hZ (by rw[← h];exact hb))];exact e
  ·refine hR s'' (Moved.trans W.gtrans ((hm.mono up).then_heap (le_succ _) fun b o hb e=>?_) hm'') hS''
   rw[sb.2 b (fun h:b=Z=>hb (by rw[h];exact mem_cons_self))];exact e
end
def vX(w:World):Bool:=!w.params.followText "set-order"
section
variable{prog:Program}{w:World}{A:Around}{E:Value→Shared→Prop}{s:Shared}
theorem newT(a:Value){Q₁:Value→Shared→Prop}
  (h:Q₁ (.ref s.heap.objs.size) { s with heap:=s.heap.push { cls:=.type "set", dict:=none,data:=.set #[] 0 (.fresh 0 0 (vX w)) } }) :
  codeAny (model prog w) A (.call (.builtin "set.__new__") ⟨[.type "set", a],[]⟩) (wants Q₁ E) s:=by
 refine codeAny_of_tree ?_
 show wpAny _ A.in1 (do checkBuiltinCall "set.__new__" ⟨[.type "set", a],[]⟩;again (.builtin "set.__new__" ⟨[.type "set", a],[]⟩)) _ _ s
 refine wpAny_bind (wpAny_of_eq (PySem.F.newCall_set_1 a) (wpAny_pure ⟨plainId_quiet PySem.F.plain_set_new _,codeAny_builtin PySem.F.entry_set_new ?_⟩))
 rw[Around.under_plainId PySem.F.plain_set_new _];unfold Builtin.«set.__new__» Builtin.Frozenset.newClass;have hsub:=sub_set_self
 obtain⟨hp,g,d,tk,os⟩:=s;dsimp only
 wp_walk
 refine wpAny_askSetting (wpAny_pure ?_);dsimp only;simp only[newObj]
 exact wpAny_bind (wpAny_alloc (wpAny_pure (wpAny_pure h)))
end
open PyProof.Rows
section
variable{prog:Program}{w:World}{A:Around}{E:Value→Shared→Prop}{s:Shared}
abbrev fm(ns:List Int)(n:Nat):List Int:=firstMet (fun i=>ns.getD i 0) n
abbrev vv(b:Bool):Obj:={ cls:=.type "set", dict:=none,data:=.set #[] 0 (.fresh 0 0 b) }
def Aft(prog:Program)(w:World)(s:Shared)(ns:List Int)(n:Nat)(r:Value)(s2:Shared):Prop:=
 r=.none∧∃h' tk,s2 = { s with heap:=h',toks:=tk }∧SetT (intKind prog w) (vX w) h' s.heap.objs.size (fun k=>(fm ns n).any (· == k)) (fm ns n).length∧∀b o,b<s.heap.objs.size→s.heap.get? b=some o→h'.get? b=some o
set_option maxRecDepth 100000 in
set_option maxHeartbeats 3200000 in
theorem callSet{l:Addr}{items:Array Value}{ns:List Int}{Q:Value→Shared→Prop}(hh:A.handled=none)(hl:s.heap.IsList l items)(hi:IntsAre items.toList ns)(hb:items.size+1<scanBound)
  (h:∀(h':Heap) (tk:Nat),SetT (intKind prog w) (vX w) h' s.heap.objs.size (fun k=>(fm ns items.size).any (· == k)) (fm ns items.size).length→(∀b o,b<s.heap.objs.size→s.heap.get? b=some o→h'.get? b=some o)→Q (.ref s.heap.objs.size) { s with heap:=h',toks:=tk }) :
  wpAny (model prog w) A (call (.type "set") [.ref l]) Q E s:=by
 obtain⟨c,tl,hmro⟩:=PySem.F.called_set.mro;have hmade:=PySem.F.called_set.made;have hsub:=PySem.F.called_set.sub
 refine wpAny_call (codeAny_of_tree ?_);show wpAny _ _ (callAny (.type "set") _) _ _ _
 refine wpAny_pure ⟨Code.quiet_builtin _ (by decide +kernel),codeAny_builtin F.entry_type_call ?_⟩;rw[Around.under_plain (weight_type_call_type "set" [.ref l] []) rfl]
 have h1:=PySem.F.called_set.notType;have h2:=PySem.F.called_set.canCreate;have hct:=PySem.F.typeCall_set_1 (.ref l)
 repeat (any_goals (first|assumption|wp_step))
 refine codeAny_mono (newT (.ref l) (E:=E) (Q₁:=fun obj s1=>obj=.ref s.heap.objs.size∧s1 = { s with heap:=s.heap.push (vv (vX w)) }) ⟨rfl,rfl⟩) fun r s1 hr=>?_
 cases r with
 |error e=>exact hr
 |ok fl=>
  cases fl with
  |ret obj=>
   obtain⟨rfl,rfl⟩:=hr
   generalize hled:vX w=led at h
   have hS:(s.heap.push (vv led)).get? s.heap.objs.size=some (vv led):=Heap.get?_push_size _ rfl
   have hT:Shared.TypeIs { s with heap:=s.heap.push (vv led) } (.ref s.heap.objs.size) "set" := ⟨_,hS,rfl⟩
   have hli:=PySem.F.called_set.init.lookup;have hbi:=PySem.F.called_set.init.bind (.ref s.heap.objs.size)
   repeat (any_goals (first|assumption|wp_step))
   refine codeAny_mono (codeAny_call_builtin (R:=wants (Aft prog w s ns items.size) E) PySem.F.called_set.init.plain PySem.F.entry_set_init (check_set_init_1 hT ?_)) fun r2 s2 hr2=>?_
   ·obtain⟨ol,hol,hcl,nl,hdl⟩:=hl
    obtain⟨ocls,odict,odata,oslots⟩:=ol
    simp only at hcl hdl;subst hcl;subst hdl
    have hol':(s.heap.push (vv led)).get? l=some { cls:=.type "list", dict:=odict,data:=.seq items nl,slots:=oslots }:=Heap.get?_push_of_some _ hol
    have hsls:=PySem.F.sub_list_set;have hslf:=PySem.F.sub_list_frozenset
    have hne:(Value.type "list" == Value.type "dict")=false:=by decide
    have hl1:(s.heap.push (vv led)).IsList l items:=⟨_,hol',rfl,nl,rfl⟩
    unfold Builtin.«set.__init__» noKeywords Builtin.Frozenset.updateFrom;generalize hPI:pyIter=PI
    wp_walk
    subst hPI
    refine wpAny_pyIter_list hl1 (wpAny_bind (wpAny_runValue ?_))
    have hlS:l<s.heap.objs.size:=Heap.lt_size hol
    have hh3:A.in1.in1.in1.handled=none:=by simp[hh]
    have es:(s.heap.push (vv led)).objs.size=s.heap.objs.size+1:=Heap.size_push _ _
    have hneI:l≠(s.heap.push (vv led)).objs.size:=by rw[es];exact ne_of_lt (lt_succ_of_lt hlS)
    have hSf:s.heap.objs.size∉[(s.heap.push (vv led)).objs.size,l]:=by
     rw[es];simp only[mem_cons,not_mem_nil,or_false,not_or];exact⟨ne_of_lt (lt_succ_self _),ne_of_gt hlS⟩
    have hval:∀(i:Nat) (v:Value),items[i]?=some v→∃t,v=.int ((fun i=>ns.getD i 0) i) t:=fun i v hv=>IntsAre.int_at hi i v (by rw[getElem?_toList];exact hv)
    refine Mi (L:=led) ((Walks.list hh3 _ l hneI items).toS) s.heap.objs.size hSf (fun i=>ns.getD i 0) hval hb (items.size-0) 0 _ (by omega) (zero_le _) ⟨⟨_,Heap.get?_push_size _ rfl,rfl,rfl⟩,(hl1.push _)⟩ ?hS0 ?hR
    case hS0=>
     refine⟨vv led,#[],0,.fresh 0 0 led,Heap.get?_push_of_some _ hS,⟨rfl,rfl,rfl⟩,rfl,fun e he=>by simp at he,fun k=>by simp[firstMet_zero],by decide,by rfl,rfl,rfl,rfl,List.Pairwise.nil⟩
    case hR=>
     intro s' hm hS'
     obtain⟨h',g',d',tk',os'⟩:=s'
     have eg:g'=s.gens:=hm.gens;have ed:d'=s.drawn:=hm.drawn;have eo:os'=s.os:=hm.os
     subst eg;subst ed;subst eo
     show wpAny _ _ _ _ _ _;refine wpAny_pure ?_;show wpAny _ _ (ret Value.none) _ _ _
     refine wpAny_pure ⟨rfl,h',tk',rfl,by rw[hled];exact hS',fun b o hb e=>hm.heap b o ?_ (Heap.get?_push_of_some _ (Heap.get?_push_of_some _ e))⟩
     rw[es];simp only[mem_cons,not_mem_nil,or_false,not_or];exact⟨ne_of_lt hb,ne_of_lt (lt_succ_of_lt hb)⟩
   ·cases r2 with
    |error e=>exact hr2
    |ok fl2=>
     cases fl2 with
     |ret r=>
      obtain⟨rfl,h',tk,rfl,hS',hk'⟩:=hr2
      rw[hled] at hS'
      repeat (any_goals (first|assumption|wp_step))
      exact h _ _ hS' hk'
     |_=>exact hr2.elim
  |_=>exact hr.elim
end
open PyProof.Rows
namespace FS
theorem slot_next:Slot "set_iterator" "__next__" "set_iterator.__next__" := .of (owner := "set_iterator") (n := "__next__") (by rw[typeLookup_type,builtinLookup_eq_fast];kernel_rfl) (by decide +kernel) (by decide +kernel) (by decide +kernel) (by first|exact .inl (by decide +kernel) | exact .inr (by decide +kernel)) (by rw[isSubtype_type];kernel_rfl)
theorem slot_self:Slot "set_iterator" "__iter__" "set_iterator.__iter__" := .of (owner := "set_iterator") (n := "__iter__") (by rw[typeLookup_type,builtinLookup_eq_fast];kernel_rfl) (by decide +kernel) (by decide +kernel) (by decide +kernel) (by first|exact .inl (by decide +kernel) | exact .inr (by decide +kernel)) (by rw[isSubtype_type];kernel_rfl)
theorem entry_next:entryFor table "set_iterator.__next__" = some Builtin.«set_iterator.__next__»:=entryFor_of_fast (by kernel_rfl)
theorem entry_self:entryFor table "set_iterator.__iter__" = some Builtin.«dict_keyiterator.__iter__»:=entryFor_alias (id' := "dict_keyiterator.__iter__") (by kernel_rfl) rfl (by decide +kernel) (by kernel_rfl)
theorem entry_iter:entryFor table "set.__iter__" = some Builtin.«frozenset.__iter__»:=entryFor_alias (id' := "frozenset.__iter__") (by kernel_rfl) rfl (by decide +kernel) (by kernel_rfl)
theorem args_next(a:Value):argsOk "set_iterator.__next__" ⟨[a],[]⟩:=by unfold argsOk;kernel_rfl
theorem args_self(a:Value):argsOk "set_iterator.__iter__" ⟨[a],[]⟩:=by unfold argsOk;kernel_rfl
end FS
section
variable{prog:Program}{w:World}{A:Around}{E:Value→Shared→Prop}{s:Shared}
structure SetAt(h:Heap)(a:Addr)(es:Array (Int×Value))(ep:Nat)(t:SetTable):Prop where
 ex:∃o,h.get? a=some o∧o.ExactSet∧o.data=.set es ep t
 fit:t.fits es.size=true
theorem SetAt.at{h h':Heap}{a:Addr}{es:Array (Int×Value)}{ep:Nat}{t:SetTable}(q:SetAt h a es ep t)(k:∀o,h.get? a=some o→h'.get? a=some o):SetAt h' a es ep t:=by
 obtain⟨⟨o,h1,h2⟩,f⟩:=q;exact⟨⟨o,k o h1,h2⟩,f⟩
end
open PySem PyProof.Rows
section
variable{prog:Program}{w:World}{A:Around}{E:Value→Shared→Prop}{s:Shared}{I a:Addr}{es:Array (Int×Value)}{ep:Nat}{t:SetTable}{Q:Option Value→Shared→Prop}
abbrev vm(f:Value)(i:Nat)(z:Value)(n ep:Nat):Obj:={ cls:=.type "set_iterator", dict:=none,data:=.fields #[f,.int i 0,z,.int n 0,.int ep 0],slots:=#[] }
theorem jB{f z:Value}{i n:Nat}(h:s.heap.get? I=some (vm f i z n ep)):s.TypeIs (.ref I) "set_iterator" := ⟨_,h,rfl⟩
theorem Td{sl i nx:Nat}{x:Value}(hit:s.heap.get? I=some (vm (.int sl 0) i (.ref a) es.size ep))(hS:SetAt s.heap a es ep t)(hnx:∀(A':Around) (Q':Option (Value×Nat)→Shared→Prop) (E':Value→Shared→Prop),Q' (some (x,nx)) s→wpAny (model prog w) A' (setNext a sl i ep) Q' E' s)
  (hQ:∀h',h'.get? I=some (vm (.int nx 0) (i+1) (.ref a) es.size ep)→Heap.SameBut I s.heap h'→Q (some x) { s with heap:=h' }):wpAny (model prog w) A (pyNext (.ref I)) Q E s:=by
 obtain⟨⟨o,ho,_,hd⟩,hf⟩:=hS
 unfold pyNext
 refine wpAny_bind (wpAny_attempt (wpAny_callSpecial?_slot (name:=Str.ofString "__next__") (jB hit) FS.slot_next (wpAny_call_entry FS.slot_next (jB hit) FS.entry_next ?_ (FS.args_next _))))
 show wpAny _ _ (fieldsOf (.ref I) >>= _) _ _ s
 refine wpAny_bind (wpAny_fieldsOf hit rfl ?_)
 show wpAny _ _ (setEntries a >>= _) _ _ s
 refine wpAny_bind (wpAny_setEntries_of ho hd hf ?_)
 rw[if_neg (by simp)]
 show wpAny _ _ (setNext a (sl:Int).toNat (i:Int).toNat (ep:Int).toNat >>= _) _ _ s
 simp only[toNat_natCast]
 refine wpAny_bind (hnx _ _ _ ?_)
 refine wpAny_bind (wpAny_setField_rec hit (by simp) fun h1 g1 b1=>wpAny_bind (wpAny_setField_rec g1 (by simp) fun h2 g2 b2=>?_))
 exact wpAny_pure ⟨x,rfl,wpAny_pure (hQ h2 g2 (b1.trans b2))⟩
theorem zd1{sl i:Nat}(hh:A.handled=none)(hit:s.heap.get? I=some (vm (.int sl 0) i (.ref a) es.size ep))(hS:SetAt s.heap a es ep t)(hnx:∀(A':Around) (Q':Option (Value×Nat)→Shared→Prop) (E':Value→Shared→Prop),Q' none s→wpAny (model prog w) A' (setNext a sl i ep) Q' E' s)
  (hQ:∀h',(∀b o,b≠I→s.heap.get? b=some o→h'.get? b=some o)→Q none { s with heap:=h' }):wpAny (model prog w) A (pyNext (.ref I)) Q E s:=by
 obtain⟨⟨o,ho,_,hd⟩,hf⟩:=hS
 unfold pyNext
 refine wpAny_bind (wpAny_attempt (wpAny_callSpecial?_slot (name:=Str.ofString "__next__") (jB hit) FS.slot_next (wpAny_call_entry FS.slot_next (jB hit) FS.entry_next ?_ (FS.args_next _))))
 show wpAny _ _ (fieldsOf (.ref I) >>= _) _ _ s
 refine wpAny_bind (wpAny_fieldsOf hit rfl ?_)
 show wpAny _ _ (setEntries a >>= _) _ _ s
 refine wpAny_bind (wpAny_setEntries_of ho hd hf ?_)
 rw[if_neg (by simp)]
 show wpAny _ _ (setNext a (sl:Int).toNat (i:Int).toNat (ep:Int).toNat >>= _) _ _ s
 simp only[toNat_natCast]
 refine wpAny_bind (hnx _ _ _ (wpAny_bind (wpAny_setField_rec hit (by simp) fun h1 g1 b1=>wpAny_bind ?_)))
 simp only[newExc,newTuple];refine wpAny_bind (wpAny_newObj_type ?_ (by size_fits))
 refine wpAny_bind (m:=firstArgMember _ _) (wpAny_of_eq (a:=Value.none) (by first|rfl | (simp only[firstArgMember];rfl)) (wpAny_newObj_type ?_ (by size_fits)))
 simp only[raiseNew];refine wpAny_bind (wpAny_handled ?_)
 rw[show A.in1.handled=none from hh];refine wpAny_bind (wpAny_pure (wpAny_throw ?_))
 refine wpAny_bind (wpAny_isInstance (T := "StopIteration") (b:=true) ⟨_,Heap.get?_push_size _ rfl,rfl⟩ isSubtype_stop (wpAny_pure (hQ _ fun b o n e=>?_)))
 exact Heap.get?_push_of_some _ (Heap.get?_push_of_some _ (by rw[b1.2 b n];exact e))
theorem Us(hh:A.handled=none)(hne:a≠I)(ord:List Value)(hl:ord.length=es.size)(fst:Nat→Nat)
  (hnx:∀(i:Nat) (s':Shared) (A':Around) (Q':Option (Value×Nat)→Shared→Prop) (E':Value→Shared→Prop),i≤es.size→SetAt s'.heap a es ep t→Q' ((ord[i]?).map fun x=>(x,fst (i+1))) s'→wpAny (model prog w) A' (setNext a (fst i) i ep) Q' E' s') :
  Walks prog w A I [I,a] [I] es.size (fun i v=>ord[i]?=some v) (fun i h=>h.get? I=some (vm (.int (fst i) 0) i (.ref a) es.size ep)∧SetAt h a es ep t) where
 sub:=fun b hb=>by simp at hb;simp[hb]
 frame:=fun _ _ _ st hk=>⟨hk I (by simp) _ st.1,st.2.at fun o e=>hk a (by simp) o e⟩
 item:=fun i s Q E hi st hQ=>by
  have e:ord[i]?=some ord[i]:=by simp[hl,hi]
  refine Td (x:=ord[i]) (nx:=fst (i+1)) st.1 st.2 (fun A' Q' E' q=>hnx i s A' Q' E' (by omega) st.2 (by rw[e];exact q)) fun h' g b=>?_
  exact hQ _ h' s.toks e ⟨g,st.2.at fun o z=>by rw[b.2 a hne];exact z⟩ fun b' o hb z=>by rw[b.2 b' (fun y=>hb (by simp[y]))];exact z
 done:=fun s Q E st hQ=>by
  have e:ord[es.size]?=none:=by simp[hl]
  exact zd1 hh st.1 st.2 (fun A' Q' E' q=>hnx es.size s A' Q' E' (le_refl _) st.2 (by rw[e];exact q)) fun h' k=>hQ h' s.toks fun b o hb z=>k b o (fun y=>hb (by simp[y])) z
 self:=fun i s Q E st hQ=>by
  refine wpAny_pyIter_slot (jB st.1) FS.slot_self (wpAny_call_entry FS.slot_self (jB st.1) FS.entry_self ?_ (FS.args_self _))
  show wpAny _ _ (ret (.ref I)) _ _ s
  exact wpAny_pure ⟨_,rfl, "set_iterator", _,jB st.1,FS.slot_next.lookup,hQ⟩
end
open PySem PyProof.Rows
theorem ja{α:Type}:∀(l:List α) (i:Nat) (h:i<l.length),(l[i]::l.eraseIdx i).Perm l
 |[],i,h=>by simp at h
 |a::l,0,h=>by simp
 |a::l,i+1,h=>by
  have ih:=ja l i (by simpa using h)
  rw[List.eraseIdx_cons_succ,List.getElem_cons_succ]
  exact(List.Perm.swap a _ _).trans (ih.cons a)
theorem UI{α:Type}(next:Nat→Nat):∀(fuel k:Nat) (left:List α) (out:Array α),left.length≤fuel→(pickOrder.go next fuel k left out).toList.Perm (out.toList++left)
 |0,k,left,out,h=>by
  have:left=[]:=List.eq_nil_of_length_eq_zero (by omega)
  subst this
  unfold pickOrder.go;simp
 |fuel+1,k,left,out,h=>by
  unfold pickOrder.go
  cases q:left[next k%left.length]? with
  |none=>
   have:left=[]:=by
    cases left with
    |nil=>rfl
    |cons a l=>
     have hlt:next k%(a::l).length<(a::l).length:=Nat.mod_lt _ (by simp)
     rw[getElem?_eq_getElem hlt] at q;cases q
   subst this
   simp
  |some x=>
   have hlt:next k%left.length<left.length:=(List.getElem?_eq_some_iff.mp q).1
   refine(UI next fuel (k+1) _ _ (by rw[List.length_eraseIdx_of_lt hlt];omega)).trans ?_
   rw[Array.toList_push,append_assoc]
   refine List.Perm.append_left _ ?_
   have hx:left[next k%left.length]=x:=(List.getElem?_eq_some_iff.mp q).2
   show(x::left.eraseIdx (next k%left.length)).Perm left
   rw[← hx]
   exact ja _ _ hlt
theorem Xk{α:Type}(next:Nat→Nat)(xs:Array α):(pickOrder next xs).toList.Perm xs.toList:=by
 unfold pickOrder
 have:=UI next xs.size 0 xs.toList #[] (by simp)
 simpa using this
section
variable{prog:Program}{w:World}{A:Around}{E:Value→Shared→Prop}{s:Shared}{I a:Addr}{es:Array (Int×Value)}{ep:Nat}{t:SetTable}
theorem G2{src:Source}{n:Nat}{Q:Nat→Shared→Prop}(hn:n≠0)(h:∀i d',i<n→Q i { s with drawn:=d' }):wpAny (model prog w) A (choose src n) Q E s:=
 fun Γ p hΓ=>⟨hn,h _ _ (Nat.mod_lt _ (Nat.pos_of_ne_zero hn))⟩
theorem GX{α:Type}:∀(n:Nat) (xs:List α) (s:Shared) (Q:List α→Shared→Prop),xs.length=n→(∀l d',l.Perm xs→Q l { s with drawn:=d' })→wpAny (model prog w) A (drawOrder n xs) Q E s
 |0,xs,s,Q,h,q=>by
  have:xs=[]:=List.eq_nil_of_length_eq_zero h
  subst this
  unfold drawOrder
  exact wpAny_pure (q [] s.drawn (List.Perm.refl _))
 |n+1,[],s,Q,h,q=>by simp at h
 |n+1,x::xs,s,Q,h,q=>by
  unfold drawOrder
  refine wpAny_bind (G2 (by simp) fun i d' hi=>?_)
  have e:(x::xs)[i]?=some (x::xs)[i]:=getElem?_eq_getElem hi
  rw[e]
  refine wpAny_bind (GX n _ _ _ (by rw[List.length_eraseIdx_of_lt hi];omega) fun l d'' hp=>?_)
  exact wpAny_pure (q _ d'' ((hp.cons _).trans (ja _ _ hi)))
theorem za0(hb:w.params.followText "set-order" = true)(i:Nat)(s':Shared)(A':Around)(Q':Option (Value×Nat)→Shared→Prop)(E':Value→Shared→Prop)(hS:SetAt s'.heap a es ep t)
  (q:Q' ((((pickOrder (w.params.setOrder a ep) es).toList.map (·.2))[i]?).map fun x=>(x,0)) s'):wpAny (model prog w) A' (setNext a 0 i ep) Q' E' s':=by
 obtain⟨⟨o,ho,_,hd⟩,hf⟩:=hS
 unfold setNext setsByText
 refine wpAny_bind (wpAny_setState_of ho hd hf ?_)
 refine wpAny_bind (wpAny_bind (wpAny_askSetting (wpAny_pure ?_)))
 show wpAny _ _ (if w.params.followText "set-order" = true then _ else _) _ _ _
 rw[if_pos hb,if_neg (by simp)]
 unfold setWalk setsByText
 refine wpAny_bind (wpAny_bind (wpAny_setState_of ho hd hf ?_))
 refine wpAny_bind (wpAny_bind (wpAny_askSetting (wpAny_pure ?_)))
 show wpAny _ _ (if w.params.followText "set-order" = true then _ else _) _ _ _
 rw[if_pos hb]
 refine wpAny_bind (wpAny_askSetting (wpAny_pure (wpAny_pure ?_)))
 have e:((pickOrder (w.params.setOrder a ep) es)[i]?).map (fun e=>(e.2,0))=(((pickOrder (w.params.setOrder a ep) es).toList.map (·.2))[i]?).map fun x=>(x,0):=by
  rw[getElem?_map,Option.map_map,getElem?_toList];rfl
 rw[← e] at q
 exact q
def vC(t:SetTable)(i:Nat):Nat:=if i=0 then 0 else t.place.toList.getD (i-1) 0+1
theorem J7{L:Bool}(hT:TT L t)(i:Nat)(hi:i≤t.place.size):SetTable.below t.place (vC t i)=i:=by
 obtain⟨b1,b2,b3⟩:=Vz hT.2.2 (vC t i)
 generalize SetTable.below t.place (vC t i)=p at *
 unfold vC at b2 b3
 by_cases z:i=0
 ·rw[if_pos z] at b2
  rcases Nat.eq_zero_or_pos p with y|y
  ·omega
  ·have:=b2 0 y;omega
 ·rw[if_neg z] at b2 b3
  rcases Nat.lt_trichotomy p i with y|y|y
  ·have:=b3 (i-1) (by omega) (by omega);omega
  ·exact y
  ·have h1:=b2 i y
   have h2:=ZN hT.2.2 (i:=i-1) (k:=i) (by omega) (by have:=length_toList (xs:=t.place);omega)
   omega
theorem Ta(hb:w.params.followText "set-order" = false)(hT:TT (vX w) t)(hnd:(!t.plain&&decide (es.size > 1))=false)(i:Nat)(s':Shared)(A':Around)(Q':Option (Value×Nat)→Shared→Prop)(E':Value→Shared→Prop)(hi:i≤es.size)(hS:SetAt s'.heap a es ep t)
  (q:Q' (((es.toList.map (·.2))[i]?).map fun x=>(x,vC t (i+1))) s'):wpAny (model prog w) A' (setNext a (vC t i) i ep) Q' E' s':=by
 obtain⟨⟨o,ho,_,hd⟩,hf⟩:=hS
 have hsz:t.place.size=es.size:=by
  unfold SetTable.fits at hf
  simp at hf;exact hf.1
 have hled:t.led=true:=by rw[hT.1];unfold vX;rw[hb];rfl
 unfold setNext setsByText
 refine wpAny_bind (wpAny_setState_of ho hd hf ?_)
 refine wpAny_bind (wpAny_bind (wpAny_askSetting (wpAny_pure ?_)))
 show wpAny _ _ (if w.params.followText "set-order" = true then _ else _) _ _ _
 rw[if_neg (by rw[hb];simp)]
 show wpAny _ _ (if (!t.plain&&decide (es.size > 1))=true then _ else _) _ _ _
 rw[if_neg (by rw[hnd];simp)]
 show wpAny _ _ ((if (!t.led && !es.isEmpty)=true then unsupported "set:maker-not-led" else pure ()) >>= _) _ _ _
 rw[if_neg (by rw[hled];simp)]
 refine wpAny_bind (wpAny_pure ?_)
 show wpAny _ _ (pure (match es[SetTable.below t.place (vC t i)]?,t.place[SetTable.below t.place (vC t i)]? with|some (_,x),some j=>some (x,j+1) | _,_=>none)) _ _ _
 rw[J7 hT i (by omega)]
 by_cases z:i<es.size
 ·have e1:es[i]?=some es[i]:=by simp[z]
  have e2:t.place[i]?=some (t.place.toList.getD i 0):=by
   have:i<t.place.size:=by omega
   simp[this]
  rw[e1,e2]
  have e3:((es.toList.map (·.2))[i]?).map (fun x=>(x,vC t (i+1)))=some (es[i].2,t.place.toList.getD i 0+1):=by
   rw[getElem?_map,getElem?_toList,e1]
   simp[vC]
  rw[e3] at q
  exact wpAny_pure q
 ·have e1:es[i]?=none:=by simp;omega
  rw[e1]
  have e3:((es.toList.map (·.2))[i]?).map (fun x=>(x,vC t (i+1)))=none:=by
   rw[getElem?_map,getElem?_toList,e1];rfl
  rw[e3] at q
  exact wpAny_pure q
end
open PySem PyProof.Rows
section
variable{prog:Program}{w:World}{A:Around}{E:Value→Shared→Prop}{s:Shared}{I a T:Addr}{es:Array (Int×Value)}{ep:Nat}{t:SetTable}{Q:Option Value→Shared→Prop}
abbrev Zr(pl:List Nat):Obj:={ cls:=.type "tuple", dict:=none,data:=.seq (pl.map fun (i:Nat)=>rawInt i).toArray 0,slots:=#[] }
theorem Lb{pl:List Nat}{i:Nat}:(pl.map fun (i:Nat)=>rawInt i).toArray[i]?=(pl[i]?).map fun (p:Nat)=>rawInt p:=by
 rw[List.getElem?_toArray,getElem?_map]
theorem Qc{x:Value}{p i:Nat}(hS:SetAt s.heap a es ep t)(hx:(es.toList.map (·.2))[p]?=some x){Q:Value→Shared→Prop}(q:Q x s):wpAny (model prog w) A (setNextDrawn a p ep) Q E s:=by
 obtain⟨⟨o,ho,_,hd⟩,hf⟩:=hS
 unfold setNextDrawn
 refine wpAny_bind (wpAny_setState_of ho hd hf ?_)
 dsimp only
 rw[if_neg (by simp)]
 rw[getElem?_map,getElem?_toList] at hx
 cases z:es[p]? with
 |none=>rw[z] at hx;cases hx
 |some y=>rw[z] at hx;cases hx;exact wpAny_pure q
theorem Tc{pl:List Nat}{i p:Nat}{x:Value}(hit:s.heap.get? I=some (vm (.ref T) i (.ref a) es.size ep))(hT:s.heap.get? T=some (Zr pl))(hS:SetAt s.heap a es ep t)(hp:pl[i]?=some p)(hx:(es.toList.map (·.2))[p]?=some x)
  (hQ:∀h',h'.get? I=some (vm (.ref T) (i+1) (.ref a) es.size ep)→Heap.SameBut I s.heap h'→Q (some x) { s with heap:=h' }):wpAny (model prog w) A (pyNext (.ref I)) Q E s:=by
 obtain⟨⟨o,ho,_,hd⟩,hf⟩:=id hS
 unfold pyNext
 refine wpAny_bind (wpAny_attempt (wpAny_callSpecial?_slot (name:=Str.ofString "__next__") (jB hit) FS.slot_next (wpAny_call_entry FS.slot_next (jB hit) FS.entry_next ?_ (FS.args_next _))))
 show wpAny _ _ (fieldsOf (.ref I) >>= _) _ _ s
 refine wpAny_bind (wpAny_fieldsOf hit rfl ?_)
 show wpAny _ _ (setEntries a >>= _) _ _ s
 refine wpAny_bind (wpAny_setEntries_of ho hd hf ?_)
 rw[if_neg (by simp)]
 show wpAny _ _ (seqItems? (.ref T) >>= _) _ _ s
 refine wpAny_bind (wpAny_seqItems hT rfl ?_)
 show wpAny _ _ (match (pl.map fun (i:Nat)=>rawInt i).toArray[(i:Int).toNat]? with|some (.int place _)=>_|some _=>_|none=>_) _ _ s
 rw[toNat_natCast,Lb,hp]
 show wpAny _ _ (setNextDrawn a (p:Int).toNat (ep:Int).toNat >>= _) _ _ s
 rw[toNat_natCast,toNat_natCast]
 refine wpAny_bind (Qc (i:=i) hS hx (wpAny_bind (wpAny_setField_rec hit (by simp) fun h1 g1 b1=>?_)))
 exact wpAny_pure ⟨x,rfl,wpAny_pure (hQ h1 g1 b1)⟩
theorem zd0{pl:List Nat}{i:Nat}(hh:A.handled=none)(hit:s.heap.get? I=some (vm (.ref T) i (.ref a) es.size ep))(hT:s.heap.get? T=some (Zr pl))(hS:SetAt s.heap a es ep t)(hp:pl[i]?=none)
  (hQ:∀h',(∀b o,b≠I→s.heap.get? b=some o→h'.get? b=some o)→Q none { s with heap:=h' }):wpAny (model prog w) A (pyNext (.ref I)) Q E s:=by
 obtain⟨⟨o,ho,_,hd⟩,hf⟩:=id hS
 unfold pyNext
 refine wpAny_bind (wpAny_attempt (wpAny_callSpecial?_slot (name:=Str.ofString "__next__") (jB hit) FS.slot_next (wpAny_call_entry FS.slot_next (jB hit) FS.entry_next ?_ (FS.args_next _))))
 show wpAny _ _ (fieldsOf (.ref I) >>= _) _ _ s
 refine wpAny_bind (wpAny_fieldsOf hit rfl ?_)
 show wpAny _ _ (setEntries a >>= _) _ _ s
 refine wpAny_bind (wpAny_setEntries_of ho hd hf ?_)
 rw[if_neg (by simp)]
 show wpAny _ _ (seqItems? (.ref T) >>= _) _ _ s
 refine wpAny_bind (wpAny_seqItems hT rfl ?_)
 show wpAny _ _ (match (pl.map fun (i:Nat)=>rawInt i).toArray[(i:Int).toNat]? with|some (.int place _)=>_|some _=>_|none=>_) _ _ s
 rw[toNat_natCast,Lb,hp]
 refine wpAny_bind (wpAny_setField_rec hit (by simp) fun h0 g0 b0=>wpAny_bind (wpAny_setField_rec g0 (by simp) fun h1 g1 b1=>wpAny_bind ?_))
 simp only[newExc,newTuple];refine wpAny_bind (wpAny_newObj_type ?_ (by size_fits))
 refine wpAny_bind (m:=firstArgMember _ _) (wpAny_of_eq (a:=Value.none) (by first|rfl | (simp only[firstArgMember];rfl)) (wpAny_newObj_type ?_ (by size_fits)))
 simp only[raiseNew];refine wpAny_bind (wpAny_handled ?_)
 rw[show A.in1.handled=none from hh];refine wpAny_bind (wpAny_pure (wpAny_throw ?_))
 refine wpAny_bind (wpAny_isInstance (T := "StopIteration") (b:=true) ⟨_,Heap.get?_push_size _ rfl,rfl⟩ isSubtype_stop (wpAny_pure (hQ _ fun b o n e=>?_)))
 exact Heap.get?_push_of_some _ (Heap.get?_push_of_some _ (by rw[b1.2 b n,b0.2 b n];exact e))
theorem Mh(hh:A.handled=none)(hne:a≠I)(hne2:T≠I)(pl:List Nat)(hp:pl.Perm (List.range es.size)) :
  Walks prog w A I [I,a,T] [I] es.size (fun i v=>((pl.filterMap fun p=>(es.toList.map (·.2))[p]?))[i]?=some v) (fun i h=>h.get? I=some (vm (.ref T) i (.ref a) es.size ep)∧SetAt h a es ep t∧h.get? T=some (Zr pl)):=by
 have hl:pl.length=es.size:=by rw[hp.length_eq,length_range]
 have hin:∀p∈pl,p<es.size:=fun p h=>by simpa using hp.mem_iff.mp h
 have ev:∀i p,pl[i]?=some p→∃x,(es.toList.map (·.2))[p]?=some x:=fun i p h=>by
  have:=hin p (mem_of_getElem? h)
  exact⟨(es.toList.map (·.2))[p]'(by simpa using this),getElem?_eq_getElem _⟩
 have fm:∀(l:List Nat),(∀p∈l,p<es.size)→l.filterMap (fun p=>(es.toList.map (·.2))[p]?)=l.map fun p=>((es.toList.map (·.2)).getD p .none):=fun l=>by
  induction l with
  |nil=>intro _;rfl
  |cons p l ih=>
   intro h
   have h1:=h p mem_cons_self
   have e:(es.toList.map (·.2))[p]?=some ((es.toList.map (·.2)).getD p .none):=by
    have:p<(es.toList.map (·.2)).length:=by simpa using h1
    simp[h1]
   rw[filterMap_cons,e,map_cons,ih fun q hq=>h q (mem_cons_of_mem _ hq)]
 refine⟨fun b hb=>by simp at hb;simp[hb],fun _ _ _ st hk=>⟨hk I (by simp) _ st.1,st.2.1.at fun o e=>hk a (by simp) o e,hk T (by simp) _ st.2.2⟩,fun i s Q E hi st hQ=>?_,fun s Q E st hQ=>?_,fun i s Q E st hQ=>?_⟩
 ·have e:pl[i]?=some pl[i]:=by simp[hl,hi]
  obtain⟨x,hx⟩:=ev i _ e
  refine Tc (x:=x) st.1 st.2.2 st.2.1 e hx fun h' g b=>?_
  refine hQ _ h' s.toks ?_ ⟨g,st.2.1.at fun o z=>by rw[b.2 a hne];exact z,by rw[b.2 T hne2];exact st.2.2⟩ fun b' o hb z=>by rw[b.2 b' (fun y=>hb (by simp[y]))];exact z
  show(pl.filterMap fun p=>(es.toList.map (·.2))[p]?)[i]?=some x
  rw[fm pl hin,getElem?_map,e]
  have:(es.toList.map (·.2)).getD pl[i] .none=x:=by rw[getD_eq_getElem?_getD,hx];rfl
  rw[← this];rfl
 ·exact zd0 hh st.1 st.2.2 st.2.1 (by simp[hl]) fun h' k=>hQ h' s.toks fun b o hb z=>k b o (fun y=>hb (by simp[y])) z
 ·refine wpAny_pyIter_slot (jB st.1) FS.slot_self (wpAny_call_entry FS.slot_self (jB st.1) FS.entry_self ?_ (FS.args_self _))
  show wpAny _ _ (ret (.ref I)) _ _ s
  exact wpAny_pure ⟨_,rfl, "set_iterator", _,jB st.1,FS.slot_next.lookup,hQ⟩
end
open PySem PyProof.Rows
section
variable{prog:Program}{w:World}{A:Around}{E:Value→Shared→Prop}{s:Shared}{a:Addr}{es:Array (Int×Value)}{ep:Nat}{t:SetTable}
theorem Ja(l:List Value):∀(ps:List Nat),(∀p∈ps,p<l.length)→ps.filterMap (fun p=>l[p]?)=ps.map fun p=>l.getD p .none
 |[],_=>rfl
 |p::ps,h=>by
  have h1:=h p mem_cons_self
  have e:l[p]?=some (l.getD p .none):=by simp[h1]
  rw[filterMap_cons,e,map_cons,Ja l ps fun q hq=>h q (mem_cons_of_mem _ hq)]
def ze1(prog:Program)(w:World)(vs:List Value)(h0:Heap)(a I:Addr)(h1:Heap):Prop:=
 ∃(fp:List Addr) (St:Nat→Heap→Prop) (ord:List Value),ord.Perm vs∧(∀A':Around,A'.handled=none→Walks prog w A' I fp [I] vs.length (fun i v=>ord[i]?=some v) St)∧St 0 h1∧(∀b∈fp,b<h1.objs.size∧(b=a∨h0.objs.size≤b))∧I∈fp∧h0.objs.size≤I∧(∀b o,h0.get? b=some o→h1.get? b=some o)∧∃o,h1.get? I=some o∧o.cls=.type "set_iterator"
theorem Tz(hS:SetAt s.heap a es ep t)(hT:TT (vX w) t)(hz:es.size<scanBound){Q:Value→Shared→Prop}(h:∀I h1 d',ze1 prog w (es.toList.map (·.2)) s.heap a I h1→Q (.ref I) { s with heap:=h1,drawn:=d' }):wpAny (model prog w) A (pyIter (.ref a)) Q E s:=by
 obtain⟨⟨o,ho,hx,hd⟩,hf⟩:=id hS
 have ty:s.TypeIs (.ref a) "set" := ⟨o,ho,hx.1⟩
 have hlt:a<s.heap.objs.size:=Heap.lt_size ho
 have hlen:(es.toList.map (·.2)).length=es.size:=by simp
 refine wpAny_pyIter_slot ty F.slot_set_iter (wpAny_call_entry F.slot_set_iter ty FS.entry_iter ?_ (F.args_set_iter_1 _))
 unfold Builtin.«frozenset.__iter__»
 refine wpAny_bind (m:=Builtin.Frozenset.slot0 "__iter__" _) (wpAny_of_eq (a:=a) rfl ?_)
 refine wpAny_bind (m:=Builtin.Frozenset.sizeOf a) ?_
 unfold Builtin.Frozenset.sizeOf
 refine wpAny_bind (wpAny_setEntries_of ho hd hf (wpAny_pure ?_))
 refine wpAny_bind (m:=setDrawn a) ?_
 unfold setDrawn setsByText
 refine wpAny_bind (wpAny_setState_of ho hd hf ?_)
 refine wpAny_bind (wpAny_bind (wpAny_askSetting (wpAny_pure (wpAny_pure ?_))))
 show wpAny _ _ (if (!w.params.followText "set-order" && (!t.plain&&decide (es.size > 1)))=true then _ else _) _ _ _
 have fin:∀(f:Value) (h1:Heap) (d':_),SetAt h1 a es ep t→(∀I h2,h2.get? I=some (vm f 0 (.ref a) es.size ep)→I=h1.objs.size→h2=h1.push (vm f 0 (.ref a) es.size ep)→Q (.ref I) { s with heap:=h2,drawn:=d' }) →
   wpAny (model prog w) A.in1 (do ret (← newFields "set_iterator" [f,rawInt 0,.ref a,rawInt es.size,rawInt (← setEpoch a)]):Sem PySem.Fin) (fun fin s'=>∃v,fin=.done (.ret v)∧∃T r,s'.TypeIs v T∧typeLookup (.type T) (Str.ofString "__next__")=pure (some r)∧Q v s') E { s with heap:=h1,drawn:=d' }:=fun f h1 d' hS1 q=>by
  obtain⟨⟨o1,ho1,_,hd1⟩,hf1⟩:=hS1
  refine wpAny_bind (wpAny_setEpoch_of ho1 hd1 hf1 (wpAny_bind (wpAny_newObj_type ?_)))
  refine wpAny_pure ⟨_,rfl, "set_iterator", _,⟨_,Heap.get?_push_size _ rfl,rfl⟩,FS.slot_next.lookup,q _ _ (Heap.get?_push_size _ rfl) rfl rfl⟩
 by_cases hb:w.params.followText "set-order" = true
 ·rw[if_neg (by rw[hb];simp)]
  refine wpAny_bind (wpAny_pure (fin (rawInt 0) s.heap s.drawn hS fun I h2 g e1 e2=>?_))
  refine h I h2 s.drawn ⟨[I,a],fun i h=>h.get? I=some (vm (.int ((0:Nat):Int) 0) i (.ref a) es.size ep)∧SetAt h a es ep t,(pickOrder (w.params.setOrder a ep) es).toList.map (·.2),(Xk _ _).map _,fun A' hh=>?_,⟨g,hS.at fun o z=>by rw[e2];exact Heap.get?_push_of_some _ z⟩,fun b hm=>?_,by simp,by rw[e1];exact le_refl _,fun b o z=>by rw[e2];exact Heap.get?_push_of_some _ z,_,g,rfl⟩
  ·rw[hlen]
   exact Us (t:=t) (ep:=ep) hh (by rw[e1];exact ne_of_lt hlt) _ (by rw[length_map,(Xk _ _).length_eq];simp) (fun _=>0) fun i s' A' Q' E' _ hS' q=>za0 hb i s' A' Q' E' hS' q
  ·rw[e2,Heap.size_push]
   rcases mem_cons.mp hm with rfl|hm
   ·rw[e1];exact⟨lt_succ_self _,.inr (le_refl _)⟩
   ·obtain rfl:=mem_singleton.mp hm;exact⟨lt_succ_of_lt hlt,.inl rfl⟩
 ·have hb':w.params.followText "set-order" = false:=by simpa using hb
  by_cases hn:(!t.plain&&decide (es.size > 1))=true
  ·rw[if_pos (by rw[hb',hn];rfl)]
   refine wpAny_bind (GX es.size (List.range es.size) s _ length_range fun pl d' hp=>wpAny_bind (wpAny_newObj_type ?_ ?_))
   ·have hS1:SetAt (s.heap.push (Zr pl)) a es ep t:=hS.at fun o z=>Heap.get?_push_of_some _ z
    refine fin (.ref s.heap.objs.size) (s.heap.push (Zr pl)) d' hS1 fun I h2 g e1 e2=>?_
    have gT:h2.get? s.heap.objs.size=some (Zr pl):=by rw[e2];exact Heap.get?_push_of_some _ (Heap.get?_push_size _ rfl)
    have sz:(s.heap.push (Zr pl)).objs.size=s.heap.objs.size+1:=Heap.size_push _ _
    refine h I h2 d' ⟨[I,a,s.heap.objs.size],fun i h=>h.get? I=some (vm (.ref s.heap.objs.size) i (.ref a) es.size ep)∧SetAt h a es ep t∧h.get? s.heap.objs.size=some (Zr pl),pl.filterMap (fun p=>(es.toList.map (·.2))[p]?),?_,fun A' hh=>?_,⟨g,hS1.at fun o z=>by rw[e2];exact Heap.get?_push_of_some _ z,gT⟩,fun b hm=>?_,by simp,by rw[e1,sz];exact le_succ _,fun b o z=>by rw[e2];exact Heap.get?_push_of_some _ (Heap.get?_push_of_some _ z),_,g,rfl⟩
    ·refine(hp.filterMap _).trans ?_
     have:(List.range es.size).filterMap (fun p=>(es.toList.map (·.2))[p]?)=es.toList.map (·.2):=by
      rw[← hlen]
      generalize es.toList.map (·.2)=l
      rw[Ja l _ fun p hp=>mem_range.mp hp]
      refine ext_getElem (by simp) fun i h1 h2=>?_
      simp[h2]
     rw[this]
    ·rw[hlen]
     exact Mh (t:=t) hh (by rw[e1,sz];exact ne_of_lt (lt_succ_of_lt hlt)) (by rw[e1,sz];exact ne_of_lt (lt_succ_self _)) pl hp
    ·rw[e2,Heap.size_push,sz]
     rcases mem_cons.mp hm with rfl|hm
     ·rw[e1,sz];exact⟨lt_succ_self _,.inr (le_succ _)⟩
     ·rcases mem_cons.mp hm with rfl|hm
      ·exact⟨lt_succ_of_lt (lt_succ_of_lt hlt),.inl rfl⟩
      ·obtain rfl:=mem_singleton.mp hm;exact⟨lt_succ_of_lt (lt_succ_self _),.inr (le_refl _)⟩
   ·show(pl.map fun (i:Nat)=>rawInt i).toArray.size≤sizeLine
    rw[size_toArray,length_map,hp.length_eq,length_range]
    exact fits_of_scanBound hz
  ·have hn':(!t.plain&&decide (es.size > 1))=false:=by simpa using hn
   rw[if_neg (by rw[hn'];simp)]
   refine wpAny_bind (wpAny_pure (fin (rawInt 0) s.heap s.drawn hS fun I h2 g e1 e2=>?_))
   refine h I h2 s.drawn ⟨[I,a],fun i h=>h.get? I=some (vm (.int ((vC t i:Nat):Int) 0) i (.ref a) es.size ep)∧SetAt h a es ep t,es.toList.map (·.2),List.Perm.refl _,fun A' hh=>?_,⟨g,hS.at fun o z=>by rw[e2];exact Heap.get?_push_of_some _ z⟩,fun b hm=>?_,by simp,by rw[e1];exact le_refl _,fun b o z=>by rw[e2];exact Heap.get?_push_of_some _ z,_,g,rfl⟩
   ·rw[hlen]
    exact Us (t:=t) (ep:=ep) hh (by rw[e1];exact ne_of_lt hlt) _ hlen (vC t) fun i s' A' Q' E' hi hS' q=>Ta hb' hT hn' i s' A' Q' E' hi hS' q
   ·rw[e2,Heap.size_push]
    rcases mem_cons.mp hm with rfl|hm
    ·rw[e1];exact⟨lt_succ_self _,.inr (le_refl _)⟩
    ·obtain rfl:=mem_singleton.mp hm;exact⟨lt_succ_of_lt hlt,.inl rfl⟩
end
open PySem PyProof.Rows
section
variable{prog:Program}{w:World}{A:Around}{E:Value→Shared→Prop}{s:Shared}{a:Addr}{es:Array (Int×Value)}{ep:Nat}{t:SetTable}
abbrev emp:Obj:={ cls:=.type "list", data:=.seq ([]:List Value).toArray }
theorem TH(hS:SetAt s.heap a es ep t){Q:Bool→Shared→Prop}(q:Q false s):wpAny (model prog w) A (Builtin.List.listLengthHint (.ref a)) Q E s:=by
 obtain⟨⟨o,ho,hx,hd⟩,hf⟩:=hS
 have ty:s.TypeIs (.ref a) "set" := ⟨o,ho,hx.1⟩
 unfold Builtin.List.listLengthHint
 refine wpAny_bind (wpAny_specialOf ty F.slot_set_len.lookup ?_)
 have e1:splitId "set.__len__" = some ("set", "__len__"):=by kernel_rfl
 dsimp only
 rw[e1]
 dsimp only
 refine wpAny_bind (wpAny_isInstance ty sub_set_self ?_)
 rw[if_neg (by simp),if_pos (by kernel_rfl)]
 refine wpAny_bind (wpAny_typeOf ty ?_)
 exact wpAny_pure q
end
open PySem PyProof.Rows
section
variable{prog:Program}{w:World}{A:Around}{E:Value→Shared→Prop}{s:Shared}{a:Addr}{es:Array (Int×Value)}{ep:Nat}{t:SetTable}
theorem Ug(hS:SetAt s.heap a es ep t)(hT:TT (vX w) t)(hz:es.size<scanBound)(hh:A.handled=none){Q:List Value→Shared→Prop}(q:∀(ord:List Value) h' d' tk,ord.Perm (es.toList.map (·.2))→(∀b o,s.heap.get? b=some o→h'.get? b=some o)→s.heap.objs.size<h'.objs.size→Q ord { s with heap:=h',drawn:=d',toks:=tk }) :
  wpAny (model prog w) A (collect (.ref a)) Q E s:=by
 obtain⟨⟨o,ho,hx,hd⟩,hf⟩:=id hS
 have hlt:a<s.heap.objs.size:=Heap.lt_size ho
 unfold collect
 refine wpAny_bind (wpAny_runValue (codeAny_builtin F.entry_proto_collect ?_));rw[Around.under_plainId F.plain_proto_collect _]
 show wpAny _ A.in1 (newList [] >>= fun l=>again (.builtin "list.__iadd__" ⟨[l,.ref a],[]⟩)) _ _ s
 refine wpAny_bind (wpAny_newObj_type (wpAny_pure ⟨plainId_quiet F.plain_list_iadd _,codeAny_builtin F.entry_list_iadd ?_⟩));rw[Around.under_plainId F.plain_list_iadd _]
 have hS1:SetAt (s.heap.push emp) a es ep t:=hS.at fun o z=>Heap.get?_push_of_some _ z
 show wpAny _ A.in1 (Builtin.List.listExtendWith (.ref s.heap.objs.size) (.ref a) (.ref s.heap.objs.size)) _ _ _
 unfold Builtin.List.listExtendWith
 refine wpAny_bind (wpAny_typeOf (T := "set") ⟨o,Heap.get?_push_of_some _ ho,hx.1⟩ ?_)
 have c1:Builtin.List.listSameRef (.ref s.heap.objs.size) (.ref a)=false:=by
  have:s.heap.objs.size≠a:=ne_of_gt hlt
  simp[Builtin.List.listSameRef,this]
 have c2:(Value.type "set" == Value.type "list")=false:=by decide
 have c3:(Value.type "set" == Value.type "tuple")=false:=by decide
 simp only[c1,c2,c3,Bool.or_false,Bool.false_eq_true,if_false]
 refine wpAny_bind (Tz (s:={ s with heap:=s.heap.push emp }) hS1 hT hz fun I h1 d' W=>?_)
 obtain⟨fp,St,ord,w1,w2,w3,w4,w5,w6,w7,_⟩:=W
 have sz1:(s.heap.push emp).objs.size=s.heap.objs.size+1:=Heap.size_push _ _
 have hlen:(es.toList.map (·.2)).length=es.size:=by simp
 refine wpAny_bind (wpAny_holding (TH (s:={ s with heap:=h1,drawn:=d' }) (hS1.at fun o z=>w7 a o z) ?_))
 rw[if_pos (by kernel_rfl)]
 refine wpAny_bind (wpAny_rule (wpAny_bind ?_))
 show wpAny _ A.in1 (updateSeq s.heap.objs.size (·.push .none) >>= fun _=>updateSeq s.heap.objs.size (·.pop)) _ _ _
 have g1:h1.get? s.heap.objs.size=some emp:=w7 _ _ (Heap.get?_push_size _ rfl)
 refine wpAny_bind (wpAny_updateSeq g1 rfl ?_)
 have g2:=Heap.get?_update_self (Obj.mapSeq (·.push Value.none)) g1 rfl
 refine wpAny_updateSeq g2 rfl ?_
 have g3:=Heap.get?_update_self (Obj.mapSeq (·.pop)) g2 rfl
 have oth:∀b o,b≠s.heap.objs.size→h1.get? b=some o→((h1.update s.heap.objs.size (Obj.mapSeq (·.push Value.none))).update s.heap.objs.size (Obj.mapSeq (·.pop))).get? b=some o:=fun b o hb e=>
  (Heap.get?_update_other _ _ (Ne.symm hb)).trans ((Heap.get?_update_other _ _ (Ne.symm hb)).trans e)
 have W':=(w2 A.in1 (by simp[hh])).toS
 have hSf:s.heap.objs.size∉fp:=fun hm=>by
  rcases (w4 _ hm).2 with e|e
  ·exact lt_irrefl _ (e ▸ hlt)
  ·have e':(s.heap.push emp).objs.size≤s.heap.objs.size:=e
   rw[sz1] at e';exact Nat.not_succ_le_self _ e'
 have st1:=W'.frame 0 { s with heap:=h1,drawn:=d' } ((h1.update s.heap.objs.size (Obj.mapSeq (·.push Value.none))).update s.heap.objs.size (Obj.mapSeq (·.pop))) s.toks w3 (by simp) fun b hb o e=>oth b o (fun h=>hSf (h ▸ hb)) e
 refine wpAny_pure ⟨plainId_quiet F.plain_extend_loop _,codeAny_extend_loopS (A:=A) W' (by rw[hlen];exact fits_of_scanBound hz) _ hSf _ _ 0 _ _ _ rfl (zero_le _) st1 g3 (ItemsOf.nil _) fun s' acc' c' hm hS' hacc=>?_⟩
 show wpAny _ A (load s.heap.objs.size >>= _) _ _ s'
 refine wpAny_bind (wpAny_load hS' (wpAny_pure ?_))
 have eq:s' = { s with heap:=s'.heap,drawn:=d',toks:=s'.toks }:=by
  obtain⟨_,g,d,o,_⟩:=hm
  cases s';simp only at g d o;subst g;subst d;subst o;rfl
 rw[eq]
 have ea:acc'.toList=ord:=by
  refine List.ext_getElem? fun i=>?_
  by_cases hi:i<acc'.size
  ·have:=hacc.2 i (acc'[i]) (by simp[hi])
   rw[this];simp[hi]
  ·have:ord.length=acc'.size:=by rw[w1.length_eq,hacc.1]
   simp[hi,this]
 rw[ea]
 refine q ord _ _ _ w1 (fun b o hb=>hm.heap b o ?_ ?_) (Heap.lt_size hS')
 ·have hb':=Heap.lt_size hb
  intro h
  rcases mem_cons.mp h with e|h
  ·exact lt_irrefl _ (e ▸ hb')
  ·have e:=mem_singleton.mp h
   have e':(s.heap.push emp).objs.size≤I:=w6
   rw[sz1] at e';subst e;exact lt_irrefl _ (lt_of_lt_of_le hb' (Nat.le_of_succ_le e'))
 ·exact oth b o (ne_of_lt (Heap.lt_size hb)) (w7 b o (Heap.get?_push_of_some _ hb))
end
open PySem PyProof.Rows
def Yy(a:Int):List Int→List Int
 |[]=>[a]
 |b::r=>if a<b then a::b::r else if a=b then b::r else b::Yy a r
def setZ:List Int→List Int
 |[]=>[]
 |a::r=>Yy a (setZ r)
theorem Yx(a x:Int):∀l,x∈Yy a l↔x=a∨x∈l
 |[]=>by simp[Yy]
 |b::r=>by
  unfold Yy;split
  ·simp
  ·split
   ·rename_i h;subst h;simp
   ·rw[mem_cons,Yx a x r,mem_cons]
    exact⟨fun h=>h.elim (fun e=>.inr (.inl e)) fun h=>h.elim .inl fun h=>.inr (.inr h),fun h=>h.elim (fun e=>.inr (.inl e)) fun h=>h.elim .inl fun h=>.inr (.inr h)⟩
theorem setZ_mem(x:Int):∀l,x∈setZ l↔x∈l
 |[]=>by simp[setZ]
 |a::r=>by rw[setZ,Yx,setZ_mem x r,mem_cons]
theorem U8(a:Int):∀l:List Int,l.Pairwise (· < ·)→(Yy a l).Pairwise (· < ·)
 |[],_=>by simp[Yy]
 |b::r,h=>by
  have h':=pairwise_cons.mp h
  unfold Yy;split
  ·rename_i z
   refine pairwise_cons.mpr ⟨fun x hx=>?_,h⟩
   rcases mem_cons.mp hx with rfl|hx
   ·exact z
   ·exact Int.lt_trans z (h'.1 x hx)
  ·split
   ·exact h
   ·refine pairwise_cons.mpr ⟨fun x hx=>?_,U8 a r h'.2⟩
    rcases (Yx a x r).mp hx with rfl|hx
    ·omega
    ·exact h'.1 x hx
theorem setZ_up:∀l:List Int,(setZ l).Pairwise (· < ·)
 |[]=>.nil
 |a::r=>U8 a _ (setZ_up r)
theorem up_same:∀{l m:List Int},l.Pairwise (· < ·)→m.Pairwise (· < ·)→(∀x,x∈l↔x∈m)→l=m
 |[],[],_,_,_=>rfl
 |[],b::m,_,_,h=>by have:=(h b).mpr mem_cons_self;cases this
 |a::l,[],_,_,h=>by have:=(h a).mp mem_cons_self;cases this
 |a::l,b::m,h1,h2,h=>by
  have g1:=pairwise_cons.mp h1
  have g2:=pairwise_cons.mp h2
  have e:a=b:=by
   rcases mem_cons.mp ((h a).mp mem_cons_self) with e|e
   ·exact e
   ·rcases mem_cons.mp ((h b).mpr mem_cons_self) with e' | e'
    ·exact e'.symm
    ·have:=g2.1 a e;have:=g1.1 b e';omega
  subst e
  refine congrArg _ (up_same g1.2 g2.2 fun x=>⟨fun hx=>?_,fun hx=>?_⟩)
  ·rcases mem_cons.mp ((h x).mp (mem_cons_of_mem _ hx)) with e|e
   ·subst e;exact absurd (g1.1 x hx) (Int.lt_irrefl _)
   ·exact e
  ·rcases mem_cons.mp ((h x).mpr (mem_cons_of_mem _ hx)) with e|e
   ·subst e;exact absurd (g2.1 x hx) (Int.lt_irrefl _)
   ·exact e
theorem setZ_le:∀l:List Int,(setZ l).length≤l.length
 |[]=>le_refl _
 |a::r=>by
  have:∀l:List Int,(Yy a l).length≤l.length+1:=fun l=>by
   induction l with
   |nil=>simp[Yy]
   |cons b r ih=>
    unfold Yy;split
    ·simp
    ·split
     ·simp
     ·simp only[length_cons];omega
  have h1:=this (setZ r);have h2:=setZ_le r
  rw[setZ,length_cons];omega
theorem UJ:∀{m l:List Int},m.Nodup→(∀x,x∈m→x∈l)→l.length≤m.length→m.Perm l
 |[],l,_,_,h=>by rw[List.length_eq_zero_iff.mp (Nat.le_zero.mp h)]
 |a::m,l,hn,hs,h=>by
  have h':=nodup_cons.mp hn
  have ha:=hs a mem_cons_self
  refine((UJ (l:=l.erase a) h'.2 (fun x hx=>?_) ?_).cons a).trans (List.perm_cons_erase ha).symm
  ·exact(List.mem_erase_of_ne (fun e:x=a=>h'.1 (by rw[← e];exact hx))).mpr (hs x (mem_cons_of_mem _ hx))
  ·rw[List.length_erase_of_mem ha];simp only[length_cons] at h;omega
theorem uh(val:Nat→Int):∀n,(firstMet val n).Nodup
 |0=>.nil
 |n+1=>by
  rw[firstMet_succ];unfold step_dedup
  split
  ·exact uh val n
  ·rename_i h
   have h:val n∉firstMet val n:=fun q=>h (List.any_eq_true.mpr ⟨_,q,by simp⟩)
   first
    |exact List.nodup_append.mpr ⟨uh val n,by simp,fun x hx y hy=>by have:=mem_singleton.mp hy;subst this;exact fun e=>h (e ▸ hx)⟩
    | exact nodup_cons.mpr ⟨h,uh val n⟩
theorem zc7(ns:List Int)(x:Int):x∈fm ns ns.length↔x∈ns:=by
 have h:=firstMet_any (fun i=>ns.getD i 0) ns.length x
 have e:(List.range ns.length).map (fun i=>ns.getD i 0)=ns:=ext_getElem (by simp) fun i h1 h2=>by simp[h2]
 rw[e] at h
 have a:∀l:List Int,l.any (· == x)=true↔x∈l:=fun l=>by simp
 rw[← a,h,a]
theorem Wg:∀{vs:List Value},(∀v∈vs,∃k,Value.isInt k v=true)→∃ns,IntsAre vs ns
 |[],_=>⟨[],.nil⟩
 |v::vs,h=>by
  obtain⟨k,hk⟩:=h v mem_cons_self
  obtain⟨t,rfl⟩:=Value.isInt_shape hk
  obtain⟨ns,hn⟩:=Wg fun v hv=>h v (mem_cons_of_mem _ hv)
  exact⟨k::ns,.cons k t hn⟩
theorem W8:∀{vs:List Value} {ns:List Int},IntsAre vs ns→∀x,x∈ns↔∃v∈vs,Value.isInt x v=true
 |_,_,.nil,x=>by simp
 |_,_,.cons n t r,x=>by
  rw[mem_cons,W8 r x]
  constructor
  ·rintro (rfl|⟨v,hv,h⟩)
   ·exact⟨_,mem_cons_self,by simp[Value.isInt]⟩
   ·exact⟨v,mem_cons_of_mem _ hv,h⟩
  ·rintro⟨v,hv,h⟩
   rcases mem_cons.mp hv with rfl|hv
   ·exact .inl (Value.isInt_inj _ _ _ h (by simp[Value.isInt]))
   ·exact .inr ⟨v,hv,h⟩
def intOf:Value→Int
 |.int n _=>n
 |_=>0
theorem ints_map:∀{vs:List Value} {ns:List Int},IntsAre vs ns→ns=vs.map intOf
 |_,_,.nil=>rfl
 |_,_,.cons n t r=>by rw[map_cons,← ints_map r];rfl
theorem J3{vs us:List Value}{ns:List Int}(h:IntsAre vs ns)(p:us.Perm vs):∃ms,IntsAre us ms∧ms.Perm ns:=by
 obtain⟨ms,hm⟩:=Wg (vs:=us) fun v hv=>by
  have hv':=p.mem_iff.mp hv
  clear p hv
  induction h with
  |nil=>cases hv'
  |cons n t r ih=>
   rcases mem_cons.mp hv' with rfl|hv'
   ·exact⟨n,by simp[Value.isInt]⟩
   ·exact ih hv'
 refine⟨ms,hm,?_⟩
 rw[ints_map hm,ints_map h];exact p.map _
section
variable{prog:Program}{w:World}{A:Around}{E:Value→Shared→Prop}{s:Shared}{a:Addr}{ns:List Int}{n:Nat}
theorem MA{h:Heap}(hS:SetT (intKind prog w) (vX w) h a (fun k=>(fm ns ns.length).any (· == k)) (fm ns ns.length).length) :
  ∃es ep t,SetAt h a es ep t∧TT (vX w) t∧es.size<scanBound∧∃ms,IntsAre (es.toList.map (·.2)) ms∧ms.Perm (fm ns ns.length):=by
 obtain⟨o,es,ep,t,ho,hx,hd,hel,hmem,hb,hf,hn,hT⟩:=hS
 refine⟨es,ep,t,⟨⟨o,ho,hx,hd⟩,hf⟩,hT,hb,?_⟩
 obtain⟨ms,hm⟩:=Wg (vs:=es.toList.map (·.2)) fun v hv=>by
  obtain⟨e,he,rfl⟩:=mem_map.mp hv
  obtain⟨⟨k,hk,_⟩,_⟩:=hel e he
  exact⟨k,hk⟩
 refine⟨ms,hm,(UJ (uh _ _) (fun x hx=>(W8 hm x).mpr ?_) ?_).symm⟩
 ·obtain⟨e,he,hk⟩:=(hmem x).mp (List.any_eq_true.mpr ⟨x,hx,by simp⟩)
  exact⟨e.2,mem_map_of_mem he,hk⟩
 ·have:=hm.length;simp only[length_map,length_toList] at this;rw[← this,hn];exact le_refl _
theorem sortSet(hh:A.handled=none)(hS:SetT (intKind prog w) (vX w) s.heap a (fun k=>(fm ns ns.length).any (· == k)) (fm ns ns.length).length)(h64:ns.length<64){Q:Value→Shared→Prop}
  (q:∀h' d' tk b (out:List Value) e,h'.get? b=some (seqObj "list" out.toArray e)→IntsAre out (setZ ns)→s.heap.objs.size≤b→(∀b o,s.heap.get? b=some o→h'.get? b=some o)→Q (.ref b) { s with heap:=h',drawn:=d',toks:=tk }) :
  wpAny (model prog w) A (call (.builtin "sorted") [.ref a]) Q E s:=by
 obtain⟨es,ep,t,hA,hT,hb,ms,hm,hp⟩:=MA hS
 refine Calls.call_function_entry kind_sorted plain_sorted entry_sorted (args_sorted1 _) ?_
 unfold Builtin.«sorted»
 refine wpAny_bind (m:=checkCount "sorted" 1 1 _) (wpAny_pure ?_)
 refine wpAny_bind (Ug hA hT hb (by simp[hh]) fun ord h1 d' tk po hk hz=>?_)
 obtain⟨ms',hm',hp'⟩:=J3 hm po
 have hl:ord.length<64:=by
  have e1:=hm'.length;have e2:=(hp'.trans hp).length_eq;have e3:=firstMet_length_le (fun i=>ns.getD i 0) ns.length
  have e2':ms'.length=(firstMet (fun i=>ns.getD i 0) ns.length).length:=e2
  omega
 refine wpAny_bind (wpAny_newList ?_ (fits_of_scanBound (by rw[po.length_eq,length_map,length_toList];exact hb)))
 have hoL:(h1.push (seqObj "list" ord.toArray 0)).get? h1.objs.size=some (seqObj "list" ord.toArray 0):=Heap.get?_push_size _ rfl
 show wpAny _ _ _ _ _ { s with heap:=h1.push (seqObj "list" ord.toArray 0),drawn:=d',toks:=tk }
 refine wpAny_bind (wpAny_holding (wpAny_call_entry slot_list_sort ⟨_,hoL,rfl⟩ entry_list_sort (list_sort_tree (s:={ s with heap:=h1.push (seqObj "list" ord.toArray 0),drawn:=d',toks:=tk }) hoL hm' hl fun out ns' a1 a2 a3=>⟨_,rfl,?_⟩) (args_list_sort _)))
 obtain⟨e,he⟩:=sortedHeap_at (out:=out) hoL
 have key:ns'=setZ ns:=by
  have nd:ns'.Nodup:=((a2.trans (hp'.trans hp)).nodup_iff).mpr (uh _ _)
  refine up_same ?_ (setZ_up ns) fun x=>?_
  ·exact List.Pairwise.imp₂ (fun a b h1 h2=>by omega) a3 nd
  ·rw[setZ_mem,(a2.trans (hp'.trans hp)).mem_iff];exact zc7 ns x
 subst key
 refine wpAny_pure ⟨_,rfl,q _ _ _ h1.objs.size out.toList e (by rw[Array.toArray_toList];exact he) a1 (le_of_lt hz) fun b o hb=>?_⟩
 have hb1:=hk b o hb
 have hlt:=Heap.lt_size hb1
 rw[sortedHeap_old (ne_of_lt hlt) (by rw[size_push'];exact lt_succ_of_lt hlt)]
 exact Heap.get?_push_of_some _ hb1
end
end STW
set_option Elab.async false
set_option linter.all false
set_option maxRecDepth 100000
namespace FD
open PySem PySem.Spec PyProof.Rows L2
variable[Tabs]
def Zx:List D→Option (List Int)
 |[]=>some []
 |.int i::r=>(Zx r).map (i :: ·)
 |_::_=>none
omit [Tabs] in
theorem Va:∀{ds:List D} {ns:List Int},Zx ds=some ns→ds=ns.map D.int
 |[],ns,h=>by cases h;rfl
 |d::r,ns,h=>by
  cases d with
  |int i=>
   simp only[Zx] at h
   cases q:Zx r with
   |none=>rw[q] at h;cases h
   |some m=>rw[q] at h;cases h;rw[map_cons,← Va q]
  |_=>cases h
omit [Tabs] in
theorem V5(ns:List Int):Zx (ns.map D.int)=some ns:=by
 induction ns with
 |nil=>rfl
 |cons n ns ih=>rw[map_cons,Zx,ih];rfl
omit [Tabs] in
theorem Z0:∀{vs:List Value} {ns:List Int},IntsAre vs ns→Vals (ns.map V.int) vs
 |_,_,.nil=>.nil
 |_,_,.cons n t r=>.cons ⟨t,rfl⟩ (Z0 r)
def WE:List D→Rs (List D)
 |[.lst ds]=>match Zx ds with
  |some ns=>if ns.length<64 then .ok ((STW.setZ ns).map D.int) else .no
  |none=>.no
 |_=>.no
section
variable{X:Cx}{e:Expr}{pos:Pos}{fs:FA}
theorem J2{pins:List (Addr×Obj)}{σ:St}{H:Hp}{s:Shared}(d:Drawn)(I:Inv X pins σ H s):Inv X pins σ H { s with drawn:=d }:=
 ⟨I.ok,I.os,I.bare,I.base,I.loc,I.cell,I.free,I.freeC,I.pin,I.hok,I.len⟩
theorem WP{p p2 pos2:Pos}(hc:X.calm=true)(hl:Gl X "sorted")(hml:X.mg "sorted" = none)(hg:Gl X "set")(hm:X.mg "set" = none)(ha:PDA X [e] fs)(hs:starEach [e] X.env=[(false,eval e X.env)]:=by rfl)
  (he:starEach [.Call (.Name "set" p2) [e] [] pos2] X.env=(false,eval (.Call (.Name "set" p2) [e] [] pos2) X.env)::starEach [] X.env:=by rfl) (hpl:(backTo pos (starEach [] X.env)).any (·.1)=false:=by rfl) :
  PDF X (.Call (.Name "sorted" p) [.Call (.Name "set" p2) [e] [] pos2] [] pos) (fun τ=>(fs τ).bind WE):=by
 intro pins s σ H Q I ⟨F,τ,R,h⟩
 refine wpAny_Call_Name_kw (vt I hl hml boot_sorted ?_)
 refine PyProof.Rows.callWith_builtin1 ?_ he hpl
 rw[he]
 show wpAny _ _ (spliced ((false,eval (.Call (.Name "set" p2) [e] [] pos2) X.env)::backTo pos (starEach [] X.env))) _ _ s
 refine Calls.spliced_cons ?_
 have h:=h.bind
 generalize hG:(fun ds=>Ok X (WE ds) fun ds=>∀(p:Addr) (vs:List V) (F' H':Hp),Ext F H F' H'→H' p=none→Reps X.K F' ds vs→Q (V.ref p) (upd H' p (HO.lst vs)))=G at h
 refine Call_ (vt I hg hm boot_set (PyProof.Rows.callWith_type1 (thn (ha pos2 pins s σ H (fun vs H1=>∃ds F1,G ds∧Ext F H F1 H1∧RV X.K F1 τ σ H1∧Reps X.K F1 ds vs) I (tAs.of R h fun ds vs F1 H1 g x R1 r=>⟨ds,F1,g,x,R1,r⟩)) fun us s1 ⟨vs,H1,I1,r1,ds,F1,g,x,R1,r⟩=>?_) hs rfl))
 subst hG
 obtain⟨ns,e1,h64,gq⟩:∃ns:List Int,ds=[.lst (ns.map D.int)]∧ns.length<64∧∀(p:Addr) (vs:List V) (F' H':Hp),Ext F H F' H'→H' p=none→Reps X.K F' ((STW.setZ ns).map D.int) vs→Q (V.ref p) (upd H' p (HO.lst vs)):=by
  unfold WE at g
  split at g
  ·rename_i ds'
   cases q:Zx ds' with
   |none=>rw[q] at g;exact g.elim
   |some ns=>
    rw[q] at g
    obtain⟨z,g⟩:=yz g
    exact⟨ns,by rw[Va q],z,g⟩
  ·exact g.elim
 subst e1
 obtain⟨v,rfl,r2⟩:=r.one
 simp only[Rep] at r2
 obtain⟨l,ws,rfl,e1,t⟩:=r2
 cases r1 with
 |cons ra rr=>
  cases rr;cases ra
  obtain⟨its,rv,⟨o,nn,eo,hcl,hd0,hd⟩,hz⟩:=I1.list (SqL.of (K:=X.K) (R1.fh _ _ e1))
  have hi:IntsAre its ns:=jD t rv
  have hlen:=hi.length
  refine STW.callSet (I1.ok.hd hc) ⟨o,eo,hcl,nn,hd⟩ (by simpa using hi) (by rw[size_toArray,hlen];exact Nat.lt_of_le_of_lt (Nat.succ_le_of_lt h64) (by decide)) fun h' tk hS hk=>?_
  have hlen':its.toArray.size=ns.length:=by simpa using hlen
  rw[hlen'] at hS
  refine Calls.spliced_nil ?_
  refine STW.sortSet (s:={ s1 with heap:=h',toks:=tk }) (I1.ok.hd hc) hS h64 fun h2 d2 tk2 b out ep hb ho hsz hk2=>?_
  have kk:∀c u,s1.heap.get? c=some u→h2.get? c=some u:=fun c u q=>hk2 c u (hk c u (Heap.lt_size q) q)
  have hp:s1.heap.objs.size≤b:=by
   obtain⟨o2,_,_,_,ho2,_⟩:=hS
   exact le_trans (le_of_lt (Heap.lt_size ho2)) hsz
  have I2:=J2 d2 I1
  have nH:H1 b=none:=I1.hok.fresh hp
  have ll:((STW.setZ ns).map V.int).length≤sizeLine:=by
   rw[length_map]
   exact le_of_lt (yS (by have:=STW.setZ_le ns;omega))
  exact⟨.ref b,_,I2.laid (t':=tk2) (o:=.lst ((STW.setZ ns).map V.int)) kk hp ⟨ll,out,ep,Z0 ho,hb⟩,rfl,gq b _ F1 H1 x nH (Reps.ints _)⟩
end
section
variable{X:Cx}
end
end FD
set_option Elab.async false
set_option linter.all false
namespace L2
open PySem PySem.Spec PyProof.Rows
section
variable{κ:Type}[DecidableEq κ]
def uE(kvs:List (κ×V))(k:κ):Option V:=(kvs.find? fun kv=>decide (kv.1=k)).map (·.2)
def jY(kvs:List (κ×V))(k:κ)(v:V):List (κ×V):=
 if (kvs.any fun kv=>decide (kv.1=k))=true then kvs.map (fun kv=>if kv.1=k then (kv.1,v) else kv) else kvs++[(k,v)]
theorem jf{p:κ×V}{r:List (κ×V)}{k:κ}(e:p.1=k):uE (p::r) k=some p.2:=by simp[uE,find?_cons,e]
theorem v0{p:κ×V}{r:List (κ×V)}{k:κ}(e:¬ p.1=k):uE (p::r) k=uE r k:=by simp[uE,find?_cons,e]
theorem Z2(k:κ):∀kvs:List (κ×V),(kvs.any fun kv=>decide (kv.1=k))=(uE kvs k).isSome
 |[]=>rfl
 |p::r=>by
  rw[any_cons]
  by_cases e:p.1=k
  ·simp only[jf e,decide_eq_true e,Bool.true_or,Option.isSome_some]
  ·rw[v0 e,decide_eq_false e,Bool.false_or];exact Z2 k r
theorem Zs(kvs:List (κ×V))(k:κ)(v:V):(jY kvs k v).length≤kvs.length+1:=by
 unfold jY
 split
 ·rw[length_map];omega
 ·rw[length_append,length_cons,length_nil];omega
theorem RelO.isSome_eq{o:Option V}{u:Option Value}(r:RelO o u):o.isSome=u.isSome:=by
 cases o with
 |none=>cases u with
  |none=>rfl
  |some _=>exact(show False from r).elim
 |some _=>cases u with
  |none=>exact(show False from r).elim
  |some _=>rfl
theorem KV.val{kvs:List (κ×V)}{vs:List (κ×Value)}(r:KV kvs vs)(k:κ):RelO (uE kvs k) (valueAt vs k):=by
 unfold KV at r
 induction r with
 |nil=>exact True.intro
 | @cons p q ps qs h t ih=>
  obtain⟨h1,h2⟩:=h
  by_cases e:p.1=k
  ·have e':q.1=k:=h1.symm.trans e
   have b:valueAt (q::qs) k=some q.2:=by simp[valueAt,find?_cons,e']
   rw[jf e,b];exact h2
  ·have e':¬ q.1=k:=fun z=>e (h1.trans z)
   have b:valueAt (q::qs) k=valueAt qs k:=by simp[valueAt,find?_cons,e']
   rw[v0 e,b];exact ih
theorem KV.any{kvs:List (κ×V)}{vs:List (κ×Value)}(r:KV kvs vs)(k:κ):(kvs.any fun kv=>decide (kv.1=k))=vs.any fun kv=>decide (kv.1=k):=by
 unfold KV at r
 induction r with
 |nil=>rfl
 |cons h t ih=>rw[any_cons,any_cons,ih,h.1]
theorem KV.repl{kvs:List (κ×V)}{vs:List (κ×Value)}(r:KV kvs vs)(k:κ){y:V}{u:Value}(ry:RelV y u) :
  KV (kvs.map fun kv=>if kv.1=k then (kv.1,y) else kv) (vs.map fun kv=>if kv.1=k then (kv.1,u) else kv):=by
 unfold KV at r ⊢
 induction r with
 |nil=>exact .nil
 | @cons p q ps qs h t ih=>
  rw[map_cons,map_cons]
  refine .cons ?_ ih
  obtain⟨h1,h2⟩:=h
  by_cases e:p.1=k
  ·rw[if_pos e,if_pos (h1.symm.trans e)];exact⟨h1,ry⟩
  ·rw[if_neg e,if_neg (fun z=>e (h1.trans z))];exact⟨h1,h2⟩
theorem KV.put{kvs:List (κ×V)}{vs:List (κ×Value)}(r:KV kvs vs)(k:κ){y:V}{u:Value}(ry:RelV y u):KV (jY kvs k y) (stored vs k u):=by
 unfold jY stored
 rw[r.any k]
 by_cases e:(vs.any fun kv=>decide (kv.1=k))=true
 ·rw[if_pos e,if_pos e];exact r.repl k ry
 ·rw[if_neg e,if_neg e];exact Paired.snoc r ⟨rfl,ry⟩
theorem KV.length{kvs:List (κ×V)}{vs:List (κ×Value)}(r:KV kvs vs):kvs.length=vs.length:=Paired.length r
end
theorem UZ{P:Program}{w:World}{k:Key}{u:Value}(r:RelV (kV k) u):(xC P w).is k u=true:=by
 cases k with
 |inl i=>obtain⟨t,e⟩:=(show ∃t,u=Value.int i t from r);subst e;exact WZ P w i t
 |inr x=>obtain⟨t,e⟩:=(show ∃t,u=Value.str x t from r);subst e;exact WY P w x t
theorem Xw{P:Program}{w:World}:∀{ks:List Key} {us:List Value},Vals (ks.map kV) us→ItemsAre (xC P w) ks us
 |[],_,r=>by rw[map_nil] at r;cases r;exact .nil
 |k::ks,_,r=>by
  rw[map_cons] at r
  cases r with
  |cons h t=>exact .cons (UZ h) (Xw t)
abbrev KT(H:Hp):List (List Key×V)→List (List Key×Addr×Value)→Prop:=Paired fun p q=>p.1=q.1∧H q.2.1=some (.tup (p.1.map kV))∧RelV p.2 q.2.2
theorem KT.val{H:Hp}{kvs:List (List Key×V)}{xs:List (List Key×Addr×Value)}(r:KT H kvs xs)(k:List Key):RelO (uE kvs k) ((atKey xs k).map (·.2)):=by
 induction r with
 |nil=>exact True.intro
 | @cons p q ps qs h t ih=>
  obtain⟨h1,_,h2⟩:=h
  by_cases e:p.1=k
  ·have e':q.1=k:=h1.symm.trans e
   have b:atKey (q::qs) k=some q.2:=by simp[atKey,find?_cons,e']
   rw[jf e,b];exact h2
  ·have e':¬ q.1=k:=fun z=>e (h1.trans z)
   have b:atKey (q::qs) k=atKey qs k:=by simp[atKey,find?_cons,e']
   rw[v0 e,b];exact ih
theorem KT.repl{H:Hp}{kvs:List (List Key×V)}{xs:List (List Key×Addr×Value)}(r:KT H kvs xs)(k:List Key){y:V}{u:Value}(ry:RelV y u) :
  KT H (kvs.map fun kv=>if kv.1=k then (kv.1,y) else kv) (xs.map (putAt k u)):=by
 induction r with
 |nil=>exact .nil
 | @cons p q ps qs h t ih=>
  rw[map_cons,map_cons]
  refine .cons ?_ ih
  obtain⟨h1,h2,h3⟩:=h
  unfold putAt
  by_cases e:p.1=k
  ·rw[if_pos e,if_pos (h1.symm.trans e)];exact⟨h1,h2,ry⟩
  ·rw[if_neg e,if_neg (fun z=>e (h1.trans z))];exact⟨h1,h2,h3⟩
theorem KT.put{H:Hp}{kvs:List (List Key×V)}{xs:List (List Key×Addr×Value)}(r:KT H kvs xs)(k:List Key){b:Addr}{y:V}{u:Value}(hb:H b=some (.tup (k.map kV)))(ry:RelV y u) :
  KT H (jY kvs k y) (storedH xs k b u):=by
 have e:(kvs.any fun kv=>decide (kv.1=k))=(atKey xs k).isSome:=by
  rw[Z2,(r.val k).isSome_eq,Option.isSome_map]
 unfold jY storedH
 rw[e]
 by_cases q:(atKey xs k).isSome=true
 ·rw[if_pos q,if_pos q];exact r.repl k ry
 ·rw[if_neg q,if_neg q];exact Paired.snoc r ⟨rfl,hb,ry⟩
theorem KT.keeps{H H':Hp}{kvs:List (List Key×V)}{xs:List (List Key×Addr×Value)}(r:KT H kvs xs)(ht:∀b ys,H b=some (.tup ys)→H' b=some (.tup ys)):KT H' kvs xs:=
 Paired.mapP r fun _ _ z=>⟨z.1,ht _ _ z.2.1,z.2.2⟩
section
variable{P:Program}{w:World}{H:Hp}{h:Heap}{a:Addr}
theorem T9{u:HO}(ok:HOk P w H h)(e:Rd H a u):ObjOk P w H h a u:=e.ok ok
theorem Jg{kvs:List (Key×V)}(ok:HOk P w H h)(e:Rd H a (.dK kvs)):kvs.length≤sizeLine∧(a==sysModules)=false∧∃vs,KV kvs vs∧h.DictOf (xC P w) a vs:=
 show ObjOk P w H h a (.dK kvs) from T9 ok e
theorem Lq{kvs:List (Key×V)}(ok:HOk P w H h)(e:H a=some (.dK kvs)):kvs.length≤sizeLine∧(a==sysModules)=false∧∃vs,KV kvs vs∧h.DictOf (xC P w) a vs:=Jg ok (.inl e)
theorem Wd{ks:List Key}(ok:HOk P w H h)(e:H a=some (.tup (ks.map kV))):(tupleKind (xC P w)).is h ks a:=by
 obtain⟨_,its,r,o,h1,h2,n,h3⟩:=(show ObjOk P w H h a (.tup (ks.map kV)) from ok a _ e)
 exact⟨o,its.toArray,n,h1,h2,h3,by simpa using Xw r⟩
theorem Jf{kvs:List (List Key×V)}(ok:HOk P w H h)(e:Rd H a (.dT kvs)):kvs.length≤sizeLine∧(a==sysModules)=false ∧
  ∃xs,KT H kvs xs∧h.DictOfH (tupleKind (xC P w)) a xs:=by
 obtain⟨z,y,xs,r,o,es,ep,h1,h2,h3,h4,h5⟩:=(show ObjOk P w H h a (.dT kvs) from T9 ok e)
 refine⟨z,y,xs,r,o,es,ep,h1,h2,h3,h4,fun x hx=>?_,h5⟩
 have all:∀{l:List (List Key×V)} {m:List (List Key×Addr×Value)},KT H l m→∀x∈m,(tupleKind (xC P w)).is h x.1 x.2.1:=by
  intro l m q
  induction q with
  |nil=>intro x hx;exact nomatch hx
  | @cons p q ps qs hq t ih=>
   intro x hx
   rcases mem_cons.mp hx with e|hx
   ·subst e
    exact Wd ok (by rw[← hq.1];exact hq.2.1)
   ·exact ih x hx
 exact all r x hx
theorem dt_of{kvs:List (List Key×V)}(ok:HOk P w H h)(e:H a=some (.dT kvs)):kvs.length≤sizeLine∧(a==sysModules)=false ∧
  ∃xs,KT H kvs xs∧h.DictOfH (tupleKind (xC P w)) a xs:=Jf ok (.inl e)
end
def DGet(H:Hp)(a:Addr)(y:V)(r:Option V):Prop:=
 (∃kvs k,Rd H a (.dK kvs)∧y=kV k∧r=uE kvs k)∨∃kvs k b,Rd H a (.dT kvs)∧y=.ref b∧H b=some (.tup (k.map kV))∧r=uE kvs k
def DPut(H:Hp)(a:Addr)(y v:V)(H':Hp):Prop:=
 (∃kvs k,H a=some (.dK kvs)∧y=kV k∧kvs.length<sizeLine∧H'=upd H a (.dK (jY kvs k v))) ∨
 ∃kvs k b,H a=some (.dT kvs)∧y=.ref b∧H b=some (.tup (k.map kV))∧kvs.length<sizeLine∧H'=upd H a (.dT (jY kvs k v))
theorem DGet.k{H:Hp}{a:Addr}{kvs:List (Key×V)}{k:Key}(e:H a=some (.dK kvs)):DGet H a (kV k) (uE kvs k):=.inl ⟨kvs,k,.inl e,rfl,rfl⟩
theorem DPut.k{H:Hp}{a:Addr}{kvs:List (Key×V)}{k:Key}{v:V}(e:H a=some (.dK kvs))(hl:kvs.length<sizeLine):DPut H a (kV k) v (upd H a (.dK (jY kvs k v))):=.inl ⟨kvs,k,e,rfl,hl,rfl⟩
section
variable{X:Cx}{pins:List (Addr×Obj)}{σ:St}{H:Hp}{s:Shared}{a:Addr}{y v:V}{u r:Value}{o:Option V}{A:Around}{E:Value→Shared→Prop}
theorem Inv.big(I:Inv X pins σ H s):sysModules<s.heap.objs.size:=by
 have h:mainGlobals<s.heap.objs.size:=(I.mod.glob.keeps I.bk).lt
 exact Nat.lt_trans (by decide) h
theorem Qe{Q:Value→Shared→Prop}(hu:A.units+1<cLine)(I:Inv X pins σ H s)(g:DGet H a y (some v))(ry:RelV y u)(h:∀w' s',Inv X pins σ H s'→RelV v w'→Q w' s') :
  wpAny (model X.prog X.w) A (getItem (.ref a) u) Q E s:=by
 rcases g with ⟨kvs,k,e,ey,l⟩|⟨kvs,k,b,e,ey,eb,l⟩
 ·subst ey
  obtain⟨z,hd,vs,rel,dd⟩:=Jg I.hok e
  obtain⟨w',hw,rw'⟩:=RelO.some_of (v:=v) (o:=valueAt vs k) (by rw[l];exact rel.val k)
  exact wpAny_getItem_of (UZ ry) dd.mapOf hw (h w' _ (I.tok _) rw')
 ·subst ey
  cases (show u=Value.ref b from ry)
  obtain⟨z,hd,xs,rel,dd⟩:=Jf I.hok e
  obtain⟨w',hw,rw'⟩:=RelO.some_of (v:=v) (o:=(atKey xs k).map (·.2)) (by rw[l];exact rel.val k)
  obtain⟨p,hp,hp2⟩:=Option.map_eq_some_iff.mp hw
  refine wpAny_getItem_heap (tupleKind_room_in1 hu) (Wd I.hok eb) dd hp ?_
  rw[hp2]
  exact h w' _ (I.tok _) rw'
theorem TW{Q:Value→Shared→Prop}(hu:A.units+1<cLine)(I:Inv X pins σ H s)(g:DGet H a y o)(ry:RelV y u)(h:∀s',Inv X pins σ H s'→Q (.bool (!o.isSome)) s') :
  wpAny (model X.prog X.w) A (compareOp .NotIn u (.ref a)) Q E s:=by
 rcases g with ⟨kvs,k,e,ey,l⟩|⟨kvs,k,b,e,ey,eb,l⟩
 ·subst ey
  obtain⟨z,hd,vs,rel,dd⟩:=Jg I.hok e
  refine wpAny_notIn_of (UZ ry) hd dd.mapOf ?_
  rw[← (rel.val k).isSome_eq,← l]
  exact h _ (I.tok _)
 ·subst ey
  cases (show u=Value.ref b from ry)
  obtain⟨z,hd,xs,rel,dd⟩:=Jf I.hok e
  refine wpAny_notIn_heap (tupleKind_room_in1 hu) (Wd I.hok eb) hd dd ?_
  have q:=(rel.val k).isSome_eq
  rw[Option.isSome_map] at q
  rw[← q,← l]
  exact h _ (I.tok _)
theorem Jj{h':Heap}{t':Nat}{ob:HO}(I:Inv X pins σ H s)(mu:Mut (H a))(hs:Heap.SameBut a s.heap h')(he:∃q,h'.get? a=some q)(new:ObjOk X.prog X.w (upd H a ob) h' a ob) :
  Inv X pins σ (upd H a ob) { s with heap:=h',toks:=t' }:=
 I.write (x:=a) (e:=a) mu (.inl rfl) (fun b q hb z=>(hs.2 b hb).trans z) he new
theorem zd3{P:Program}{w:World}{H':Hp}{h':Heap}{kvs:List (Key×V)}{vs:List (Key×Value)}(z:kvs.length≤sizeLine)(hd:(a==sysModules)=false)(rel:KV kvs vs)(dd:h'.DictOf (xC P w) a vs) :
  ObjOk P w H' h' a (.dK kvs):=⟨z,hd,vs,rel,dd⟩
theorem Qd{H':Hp}{Q:Unit→Shared→Prop}(hu:A.units+1<cLine)(I:Inv X pins σ H s)(g:DPut H a y v H')(ry:RelV y u)(rv:RelV v r)(h:∀s',Inv X pins σ H' s'→Q () s') :
  wpAny (model X.prog X.w) A (setItem (.ref a) u r) Q E s:=by
 rcases g with ⟨kvs,k,e,ey,l,eH⟩|⟨kvs,k,b,e,ey,eb,l,eH⟩
 ·subst ey eH
  obtain⟨z,hd,vs,rel,dd⟩:=Lq I.hok e
  have hz:vs.length≤sizeLine:=by rw[← rel.length];exact z
  have hl:(jY kvs k v).length≤sizeLine:=by have:=Zs kvs k v;omega
  refine wpAny_setItem_pairs (hsz:=hz) (UZ ry) dd fun h' dd' hs=>h _ ?_
  have he:∃q,h'.get? a=some q:=let ⟨q,_,_,hq,_⟩:=dd';⟨q,hq⟩
  exact Jj I (by rw[e];exact True.intro) hs he (zd3 hl hd (rel.put k rv) dd')
 ·subst ey eH
  cases (show u=Value.ref b from ry)
  obtain⟨z,hd,xs,rel,dd⟩:=dt_of I.hok e
  have hz:xs.length≤sizeLine:=by rw[← Paired.length rel];exact z
  have hl:(jY kvs k v).length≤sizeLine:=by have:=Zs kvs k v;omega
  refine wpAny_setItem_heap (hsz:=hz) (tupleKind_room_in1 hu) (Wd I.hok eb) dd fun h' dd' hs=>h _ ?_
  obtain⟨q,es,ep,hq,h2,h3,h4,_,h5⟩:=dd'
  refine Jj I (by rw[e];exact True.intro) hs ⟨q,hq⟩ ⟨hl,hd,_,(rel.put k eb rv).keeps fun c ys ec=>?_,q,es,ep,hq,h2,h3,h4,h5⟩
  rw[zp (ne_of ec e (fun z=>nomatch z))]
  exact ec
end
section
variable{X:Cx}{pins:List (Addr×Obj)}{σ:St}{H:Hp}{s:Shared}{a:Addr}{kvs:List (Key×V)}{k:Key}{u:Value}{A:Around}{E:Value→Shared→Prop}
end
def ze6(i:Expr):Prop:=∀ov iv,subscripted i false ov iv=operate [ov,iv] (getItem ov iv)
theorem Mq{prog:Program}{w:World}{A:Around}{E:Value→Shared→Prop}{s:Shared}{env:Env}{value slice:Expr}{pos:Pos}{T id:String}{Q:Value→Shared→Prop}
  (hl:typeLookup (.type T) "__getitem__" = pure (some (.builtin id))) (hs:ze6 slice)
  (h:wpAny (model prog w) A (eval value env) (fun o s₁=>wpAny (model prog w) A (eval slice env) (fun i s₂=>s₂.TypeIs o T∧wpAny (model prog w) A (getItem o i) Q E s₂) E s₁) E s) :
  wpAny (model prog w) A (eval (.Subscript value slice pos) env) Q E s:=by
 refine Subscript_ (wpAny_mono h (fun o s₁ h₁=>wpAny_mono h₁ (fun i s₂ h₂=>?_) fun _ _ x=>x) fun _ _ x=>x)
 obtain⟨hT,h₂⟩:=h₂
 unfold subscriptTail
 refine wpAny_bind ?_
 rw[getitemInPython_of_ne hT.not_modules]
 refine wpAny_bind (wpAny_specialOf hT hl ?_)
 have fin:wpAny (model prog w) A (subscripted slice false o i) (fun r s₃=>wpAny (model prog w) A (letTemporaryGo value o r >>= fun _=>pure r) Q E s₃) E s₂:=by
  rw[hs o i]
  exact wpAny_operating (wpAny_mono h₂ (fun r s₃ h₃=>wpAny_bind (wpAny_letTemporaryGo (wpAny_pure h₃))) fun _ _ x=>x)
 first
  | exact wpAny_pure (wpAny_bind fin)
  | exact wpAny_bind (wpAny_pure (wpAny_bind fin))
  | exact wpAny_bind fin
theorem Vu{X:Cx}{pins:List (Addr×Obj)}{σ:St}{H:Hp}{s:Shared}{a:Addr}{y:V}{o:Option V}(I:Inv X pins σ H s)(g:DGet H a y o):s.TypeIs (.ref a) "dict" := by
 rcases g with ⟨kvs,k,e,_,_⟩|⟨kvs,k,b,e,_,_,_⟩
 ·obtain⟨_,_,vs,_,dd⟩:=Jg I.hok e
  exact dd.typeIs
 ·obtain⟨_,_,xs,_,dd⟩:=Jf I.hok e
  exact dd.typeIs
def Wy(td ty:TE):TE:=fun σ H Q=>td σ H fun x H1=>ty σ H1 fun y H2=>∃a v,x=.ref a∧DGet H2 a y (some v)∧Q v H2
def Mp(ty td:TE):TE:=fun σ H Q=>ty σ H fun y H1=>td σ H1 fun x H2=>∃a o,x=.ref a∧DGet H2 a y o∧Q (.bl (!o.isSome)) H2
def T8(td ty tv:TE):TS:=fun D σ H=>tv σ H fun v H1=>td σ H1 fun x H2=>ty σ H2 fun y H3=>∃a H4,x=.ref a∧DPut H3 a y v H4∧D.nx σ H4
section
variable{X:Cx}{o i e value:Expr}{pos pos' tpos:Pos}{td ty tv:TE}
theorem UK(hu:X.A.units+1<cLine)(ho:PE X o td)(hi:PE X i ty)(hs:ze6 i):PE X (.Subscript o i pos) (Wy td ty):=by
 intro pins s σ H Q I h
 refine Mq PySem.F.slot_dict_getitem.lookup hs (thn (ho pins s σ H _ I h) fun u s1 ⟨x,H1,I1,rx,q1⟩=>thn (hi pins s1 σ H1 _ I1 q1) fun iv s2 ⟨y,H2,I2,ry,a,v,ex,g,q2⟩=>?_)
 subst ex
 obtain rfl:u=Value.ref a:=rx
 exact⟨Vu I2 g,Qe hu I2 g ry fun w' s3 I3 rw'=>⟨v,H2,I3,rw',q2⟩⟩
theorem JH(hu:X.A.units+1<cLine)(hi:PE X i ty)(ho:PE X o td):PC X .NotIn i o (Mp ty td):=by
 intro pins s σ H Q I h
 refine thn (hi pins s σ H _ I h) fun iv s1 ⟨y,H1,I1,ry,q1⟩=>thn (ho pins s1 σ H1 _ I1 q1) fun u s2 ⟨x,H2,I2,rx,a,ov,ex,g,q2⟩=>?_
 subst ex
 obtain rfl:u=Value.ref a:=rx
 exact TW hu I2 g ry fun s3 I3=>⟨.bl (!ov.isSome),H2,I3,rfl,q2⟩
theorem MP(hu:X.A.units+1<cLine)(ho:PE X o td)(hi:PE X i ty)(hv:PE X value tv)(hs:swapsWith value (some (.Subscript o i pos')) pos.line X.env=pure false) :
  PS X (.Assign [.Subscript o i pos'] value pos) (T8 td ty tv):=by
 intro pins s σ H D I h
 refine wpAny_Assign_Subscript (thn (hv pins s σ H _ I h) fun r s1 ⟨v,H1,I1,rv,q1⟩=>thn (ho pins s1 σ H1 _ I1 q1) fun u s2 ⟨x,H2,I2,rx,q2⟩=>thn (hi pins s2 σ H2 _ I2 q2) fun iv s3 ⟨y,H3,I3,ry,a,H4,ex,g,q3⟩=>?_) hs
 subst ex
 obtain rfl:u=Value.ref a:=rx
 exact Qd hu I3 g ry rv fun s4 I4=>⟨σ,H4,I4,q3⟩
end
theorem GY{P:Program}{w:World}{H:Hp}(h:Heap)(hb:sysModules<h.objs.size):ObjOk P w H (h.push { cls:=.type "dict", data:=.dict #[] }) h.objs.size (.dK []):=
 ⟨zero_le _,beq_eq_false_iff_ne.mpr (Ne.symm (ne_of_lt hb)),[],.nil,Heap.DictOf.new h⟩
def LA:TE:=fun _ H Q=>∀p,H p=none→Q (.ref p) (upd H p (.dK []))
section
variable{X:Cx}{pos:Pos}
theorem Q0:PE X (.Dict [] [] pos) LA:=fun pins s σ H Q I h=>
 wpAny_Dict_empty ⟨.ref s.heap.objs.size,_,I.laid (a:=s.heap.objs.size) (o:=.dK []) (t':=s.toks) (fun _ _ q=>Heap.get?_push_of_some _ q) (le_refl _) (GY s.heap I.big),rfl,h _ (I.hok.fresh (le_refl _))⟩
end
section
variable{X:Cx}{pins:List (Addr×Obj)}{σ:St}{H:Hp}{s:Shared}{a:Addr}{y d:V}{u r:Value}{o:Option V}{A:Around}{E:Value→Shared→Prop}
end
section
variable{X:Cx}{o e f:Expr}{apos cpos:Pos}{td ty tx:TE}
end
section
variable{X:Cx}{pins:List (Addr×Obj)}{σ:St}{H:Hp}{s:Shared}{a:Addr}{kvs:List (Key×V)}{A:Around}{E:Value→Shared→Prop}
end
section
variable{X:Cx}{pins:List (Addr×Obj)}{σ:St}{H:Hp}{s:Shared}{a:Addr}{y:V}{u:Value}{A:Around}{E:Value→Shared→Prop}
end
section
variable{κ:Type}[DecidableEq κ]
end
end L2
set_option Elab.async false
set_option linter.all false
set_option maxRecDepth 100000
namespace STW
open PySem PyProof.Rows
section
variable{prog:Program}{w:World}{K:Type}[DecidableEq K]{knd:KeyKind prog w K}{A:Around}{E:Value→Shared→Prop}{s:Shared}{d:Addr}{kvs:List (K×Value)}{ep:Nat}
theorem LC:isSubtype (.type "dict") (.type "dict")=pure true:=by first|exact isSubtype_dict_dict|exact PySem.isSubtype_dict_dict | (rw[isSubtype_type];kernel_rfl)
theorem GF(hm:s.heap.DictAt knd d kvs ep){Q:Bool→Shared→Prop}(q:Q false s):wpAny (model prog w) A (Builtin.List.listLengthHint (.ref d)) Q E s:=by
 have ty:s.TypeIs (.ref d) "dict" := hm.dictOf.typeIs
 unfold Builtin.List.listLengthHint
 refine wpAny_bind (wpAny_specialOf ty F.slot_dict_len.lookup ?_)
 have e1:splitId "dict.__len__" = some ("dict", "__len__"):=by kernel_rfl
 dsimp only
 rw[e1]
 dsimp only
 refine wpAny_bind (wpAny_isInstance ty LC ?_)
 rw[if_neg (by simp),if_pos (by kernel_rfl)]
 refine wpAny_bind (wpAny_typeOf ty ?_)
 exact wpAny_pure q
theorem Vw(hd:(d==sysModules)=false)(hm:s.heap.DictAt knd d kvs ep)(hz:kvs.length≤sizeLine)(hh:A.handled=none){Q:List Value→Shared→Prop}
  (q:∀(vs:List Value) h' tk,vs.length=kvs.length→(∀(i:Nat) (v:Value),vs[i]?=some v→∃k x,kvs[i]?=some (k,x)∧knd.is k v=true)→(∀b o,s.heap.get? b=some o→h'.get? b=some o)→s.heap.objs.size<h'.objs.size→Q vs { s with heap:=h',toks:=tk }) :
  wpAny (model prog w) A (collect (.ref d)) Q E s:=by
 have ty:s.TypeIs (.ref d) "dict" := hm.dictOf.typeIs
 have hlt:d<s.heap.objs.size:=hm.lt_size
 unfold collect
 refine wpAny_bind (wpAny_runValue (codeAny_builtin F.entry_proto_collect ?_));rw[Around.under_plainId F.plain_proto_collect _]
 show wpAny _ A.in1 (newList [] >>= fun l=>again (.builtin "list.__iadd__" ⟨[l,.ref d],[]⟩)) _ _ s
 refine wpAny_bind (wpAny_newObj_type (wpAny_pure ⟨plainId_quiet F.plain_list_iadd _,codeAny_builtin F.entry_list_iadd ?_⟩));rw[Around.under_plainId F.plain_list_iadd _]
 have hm1:(s.heap.push emp).DictAt knd d kvs ep:=hm.push emp
 show wpAny _ A.in1 (Builtin.List.listExtendWith (.ref s.heap.objs.size) (.ref d) (.ref s.heap.objs.size)) _ _ _
 unfold Builtin.List.listExtendWith
 have ty1:Shared.TypeIs { s with heap:=s.heap.push emp } (.ref d) "dict" := hm1.dictOf.typeIs
 refine wpAny_bind (wpAny_typeOf ty1 ?_)
 have c1:Builtin.List.listSameRef (.ref s.heap.objs.size) (.ref d)=false:=by
  have:s.heap.objs.size≠d:=ne_of_gt hlt
  simp[Builtin.List.listSameRef,this]
 have c2:(Value.type "dict" == Value.type "list")=false:=by decide
 have c3:(Value.type "dict" == Value.type "tuple")=false:=by decide
 simp only[c1,c2,c3,Bool.or_false,Bool.false_eq_true,if_false]
 have sz1:(s.heap.push emp).objs.size=s.heap.objs.size+1:=Heap.size_push _ _
 refine wpAny_bind (wpAny_pyIter_dict (s:={ s with heap:=s.heap.push emp }) hd hm1 ?_)
 generalize hh1:(s.heap.push emp).push { cls:=.type "dict_keyiterator", data:=.fields #[.ref d,.int 0 0,.int kvs.length 0,.int ep 0] }=h1
 have kp:∀b o,(s.heap.push emp).get? b=some o→h1.get? b=some o:=fun b o e=>by rw[← hh1];exact Heap.get?_push_of_some _ e
 have hm2:h1.DictAt knd d kvs ep:=hm1.keep kp
 have hI:h1.get? (s.heap.push emp).objs.size=some { cls:=.type "dict_keyiterator", data:=.fields #[.ref d,.int 0 0,.int kvs.length 0,.int ep 0] }:=by rw[← hh1];exact Heap.get?_push_size _ rfl
 have hne:d≠(s.heap.push emp).objs.size:=by rw[sz1];exact ne_of_lt (lt_succ_of_lt hlt)
 have W':=(Walks.dictKeys (knd:=knd) (prog:=prog) (w:=w) (A:=A.in1) (by simp[hh]) (s.heap.push emp).objs.size d hne kvs ep).toS
 refine wpAny_bind (wpAny_holding (GF (s:={ s with heap:=h1 }) hm2 ?_))
 rw[if_pos (by kernel_rfl)]
 refine wpAny_bind (wpAny_rule (wpAny_bind ?_))
 show wpAny _ A.in1 (updateSeq s.heap.objs.size (·.push .none) >>= fun _=>updateSeq s.heap.objs.size (·.pop)) _ _ _
 have g1:h1.get? s.heap.objs.size=some emp:=kp _ _ (Heap.get?_push_size _ rfl)
 refine wpAny_bind (wpAny_updateSeq g1 rfl ?_)
 have g2:=Heap.get?_update_self (Obj.mapSeq (·.push Value.none)) g1 rfl
 refine wpAny_updateSeq g2 rfl ?_
 have g3:=Heap.get?_update_self (Obj.mapSeq (·.pop)) g2 rfl
 have oth:∀b o,b≠s.heap.objs.size→h1.get? b=some o→((h1.update s.heap.objs.size (Obj.mapSeq (·.push Value.none))).update s.heap.objs.size (Obj.mapSeq (·.pop))).get? b=some o:=fun b o hb e=>
  (Heap.get?_update_other _ _ (Ne.symm hb)).trans ((Heap.get?_update_other _ _ (Ne.symm hb)).trans e)
 have hSf:s.heap.objs.size∉[(s.heap.push emp).objs.size,d]:=by
  rw[sz1];simp only[mem_cons,not_mem_nil,or_false,not_or];exact⟨ne_of_lt (lt_succ_self _),ne_of_gt hlt⟩
 have st0:h1.IsKeyIter (s.heap.push emp).objs.size d 0 kvs.length ep∧h1.DictAt knd d kvs ep:=⟨⟨_,hI,rfl,rfl⟩,hm2⟩
 have st1:=W'.frame 0 { s with heap:=h1 } ((h1.update s.heap.objs.size (Obj.mapSeq (·.push Value.none))).update s.heap.objs.size (Obj.mapSeq (·.pop))) s.toks st0 (by simp) fun b hb o e=>oth b o (fun h=>hSf (h ▸ hb)) e
 refine wpAny_pure ⟨plainId_quiet F.plain_extend_loop _,codeAny_extend_loopS (A:=A) W' hz _ hSf _ _ 0 _ _ _ rfl (zero_le _) st1 g3 (ItemsOf.nil _) fun s' acc' c' hmv hS' hacc=>?_⟩
 show wpAny _ A (load s.heap.objs.size >>= _) _ _ s'
 refine wpAny_bind (wpAny_load hS' (wpAny_pure ?_))
 have eq:s' = { s with heap:=s'.heap,toks:=s'.toks }:=by
  obtain⟨_,g,dd,o,_⟩:=hmv
  cases s';simp only at g dd o;subst g;subst dd;subst o;rfl
 rw[eq]
 refine q _ _ _ (by rw[length_toList];exact hacc.1) (fun i v hv=>hacc.2 i v (by rw[← getElem?_toList];exact hv)) (fun b o hb=>hmv.heap b o ?_ ?_) (Heap.lt_size hS')
 ·have hb':=Heap.lt_size hb
  rw[sz1];simp only[mem_cons,not_mem_nil,or_false,not_or]
  exact⟨ne_of_lt hb',ne_of_lt (lt_succ_of_lt hb')⟩
 ·exact oth b o (ne_of_lt (Heap.lt_size hb)) (kp b o (Heap.get?_push_of_some _ hb))
end
section
variable{prog:Program}{w:World}{K:Type}[DecidableEq K]{knd:KeyKind prog w K}{A:Around}{E:Value→Shared→Prop}{s:Shared}{d:Addr}{kvs:List (K×Value)}{ep:Nat}{ns:List Int}{b:Bool}
theorem sortDict(hd:(d==sysModules)=false)(hm:s.heap.DictAt knd d kvs ep)(h64:kvs.length<64)(hh:A.handled=none)
  (hI:∀vs:List Value,vs.length=kvs.length→(∀(i:Nat) (v:Value),vs[i]?=some v→∃k x,kvs[i]?=some (k,x)∧knd.is k v=true)→IntsAre vs ns) {Q:Value→Shared→Prop}
  (q:∀h' tk a (out:List Value) ns' e,h'.get? a=some (seqObj "list" out.toArray e)→IntsAre out ns'→ns'.Perm ns→Ordered b ns'→s.heap.objs.size≤a→(∀c o,s.heap.get? c=some o→h'.get? c=some o)→Q (.ref a) { s with heap:=h',toks:=tk }) :
  wpAny (model prog w) A (call (.builtin "sorted") [.ref d] [(Str.ofString "reverse", .bool b)]) Q E s:=by
 have hz:kvs.length≤sizeLine:=le_trans (le_of_lt h64) (by rw[sizeLine_eq];decide)
 refine call_function_entry_kw kind_sorted plain_sorted entry_sorted (args_sorted_rev _ _) ?_
 unfold Builtin.«sorted»
 refine wpAny_bind (m:=checkCount "sorted" 1 1 _) (wpAny_pure ?_)
 refine wpAny_bind (Vw hd hm hz (by simp[hh]) fun vs h1 tk hl hv hk hs=>?_)
 have hi:=hI vs hl hv
 refine wpAny_bind (wpAny_newList ?_ (by rw[hl];exact hz))
 have hoL:(h1.push (seqObj "list" vs.toArray 0)).get? h1.objs.size=some (seqObj "list" vs.toArray 0):=Heap.get?_push_size _ rfl
 show wpAny _ _ _ _ _ { s with heap:=h1.push (seqObj "list" vs.toArray 0),toks:=tk }
 refine wpAny_bind (wpAny_holding (wpAny_call_entry_kw slot_list_sort ⟨_,hoL,rfl⟩ entry_list_sort (list_sort_tree_rev (s:={ s with heap:=h1.push (seqObj "list" vs.toArray 0),toks:=tk }) hoL hi (by omega) fun out ns' a1 a2 a3=>⟨_,rfl,?_⟩) (args_list_sort_rev _ _)))
 obtain⟨e,he⟩:=sortedHeap_at (out:=out) hoL
 refine wpAny_pure ⟨_,rfl,q _ _ h1.objs.size out.toList ns' e (by rw[Array.toArray_toList];exact he) a1 a2 a3 (le_of_lt hs) fun c o hc=>?_⟩
 have hb1:=hk c o hc
 have hlt:=Heap.lt_size hb1
 rw[sortedHeap_old (ne_of_lt hlt) (by rw[size_push'];exact lt_succ_of_lt hlt)]
 exact Heap.get?_push_of_some _ hb1
end
end STW
set_option Elab.async false
set_option linter.all false
set_option maxRecDepth 100000
namespace FD
open PySem PySem.Spec PyProof.Rows L2
variable[Tabs]
omit [Tabs] in
theorem TV{ns ns':List Int}(nd:ns.Nodup)(p:ns'.Perm ns)(h:ns'.Pairwise (· ≥ ·)):ns'=(STW.setZ ns).reverse:=by
 have e:ns'.reverse=STW.setZ ns:=by
  refine STW.up_same ?_ (STW.setZ_up ns) fun x=>?_
  ·have h1:ns'.reverse.Pairwise (·≤·):=List.pairwise_reverse.mpr h
   have h2:ns'.reverse.Nodup:=(List.reverse_perm ns').nodup_iff.mpr (p.nodup_iff.mpr nd)
   exact List.Pairwise.imp₂ (fun a b h1 h2=>by omega) h1 h2
  ·rw[STW.setZ_mem,List.mem_reverse,p.mem_iff]
 rw[← e,List.reverse_reverse]
omit [Tabs] in
theorem W9:∀{vs:List Value} {ns:List Int},vs.length=ns.length→(∀(i:Nat) (v:Value) (n:Int),vs[i]?=some v→ns[i]?=some n→Value.isInt n v=true)→IntsAre vs ns
 |[],[],_,_=>.nil
 |[],_::_,h,_=>by simp at h
 |_::_,[],h,_=>by simp at h
 |v::vs,n::ns,h,k=>by
  obtain⟨t,rfl⟩:=Value.isInt_shape (k 0 v n rfl rfl)
  exact .cons n t (W9 (by simpa using h) fun i u m h1 h2=>k (i+1) u m (by simpa using h1) (by simpa using h2))
omit [Tabs] in
theorem Tt{kvs:List (Key×V)}{vs:List (Key×Value)}(h:KV kvs vs):vs.map (·.1)=kvs.map (·.1):=by
 induction h with
 |nil=>rfl
 |cons r _ ih=>rw[map_cons,map_cons,ih,r.1]
def VI(i:Nat):TE:=fun σ H Q=>∃d kvs ns,σ[i]?=some (some (.ref d))∧H d=some (.dK kvs)∧kvs.map (·.1)=ns.map Sum.inl∧ns.Nodup∧ns.length<64∧∀p,H p=none→Q (.ref p) (upd H p (.lst ((STW.setZ ns).reverse.map V.int)))
section
variable{X:Cx}{pos pp kp p1 p2:Pos}{kk:Nat}
theorem QX{x y:Str}{i:Nat}(hc:X.calm=true)(hg:Gl X x)(hm:X.mg x=none)(hv:bootBuiltins x=some (.builtin "sorted"))(hy:PE X (.Name y p1) (vH i))
  (hn:x ≠ "__name__" := by decide) (hdb:(x==("__debug__" : Str))=false:=by decide) (h1:starEach [.Name y p1] X.env=(false,eval (.Name y p1) X.env)::starEach [] X.env:=by rfl) :
  PE X (.Call (.Name x pp) [.Name y p1] [⟨some "reverse", .Constant (.bool true) kk p2,kp⟩] pos) (VI i):=by
 intro pins s σ H Q I ⟨d,kvs,ns,e1,e2,ek,nd,h64,q⟩
 refine wpAny_Call_Name_kw (vt I hg hm hv ?_ hn hdb)
 refine callWith_kw ?_ (by rw[h1];rfl) (by rw[h1];rfl)
 have ha:PA X [.Name y p1] _:=uw hy j5 (by rw[h1])
 refine thn (ha pos pins s σ H (fun vs H1=>vs=[.ref d]∧H1=H) I ⟨_,e1,rfl,rfl⟩) fun us s1 hA=>?_
 obtain⟨vs,H1,I1,rvs,rfl,rfl⟩:=hA
 obtain⟨u,rfl,ru⟩:=Vals.one rvs
 cases ru
 refine kws_cons (thn (Le pins s1 σ H1 (fun v2 H2=>v2=.bl true∧H2=H1) I1 ⟨rfl,rfl⟩) fun u2 s2 hB=>kws_nil ?_)
 obtain⟨v2,H2,I2,ru2,rfl,rfl⟩:=hB
 cases ru2
 show wpAny _ _ (call (.builtin "sorted") [.ref d] [(Str.ofString "reverse", .bool true)]) _ _ _
 obtain⟨z,hd,ws,rel,dd⟩:=Lq I2.hok e2
 obtain⟨ep,da⟩:=dd.dictAt
 have kk':ws.map (·.1)=ns.map Sum.inl:=by rw[Tt rel,ek]
 have wl:ws.length=ns.length:=by have:=congrArg List.length kk';simpa using this
 refine STW.sortDict (ns:=ns) (b:=true) hd da (by omega) (I2.ok.hd hc) (fun vs hl hv=>W9 (by omega) fun i v n hi hn=>?_) fun h' tk a out ns' e he ho hp hor hsz hk=>?_
 ·obtain⟨k,x,hkx,his⟩:=hv i v hi
  have:(ws.map (·.1))[i]?=some k:=by rw[getElem?_map,hkx];rfl
  rw[kk',getElem?_map,hn] at this
  cases this
  exact his
 ·have en:=TV nd hp hor
  subst en
  have ll:((STW.setZ ns).reverse.map V.int).length≤sizeLine:=by
   rw[length_map,length_reverse]
   exact le_of_lt (yS (by have:=STW.setZ_le ns;omega))
  exact⟨.ref a,_,I2.laid (t':=tk) (o:=.lst ((STW.setZ ns).reverse.map V.int)) hk hsz ⟨ll,out,e,Z0 ho,he⟩,rfl,q a (I2.hok.fresh hsz)⟩
end
def Vl(τ:DS):Prop:=∀(i:Nat) (s:Sl),τ[i]?=some (some s)→∃d,s=.val d
omit [Tabs] in
theorem Vl.noObj{τ:DS}(v:Vl τ):noObj τ:=fun i s h=>by
 cases s with
 |none=>rfl
 |some s=>obtain⟨d,rfl⟩:=v i s h;rfl
omit [Tabs] in
theorem Vl.set{τ:DS}(v:Vl τ)(i:Nat)(d:D):Vl (τ.set i (some (.val d))):=fun j s h=>by
 rw[getElem?_set] at h
 split at h
 ·split at h
  ·cases h;exact⟨d,rfl⟩
  ·cases h
 ·exact v j s h
def Soft(o:Option HO):Prop:=o=none∨(∃vs,o=some (.lst vs))∨∃ks,o=some (.dK ks)
theorem RS.free{K:PySem.W.Frag}{B Z F H:Hp}{τ:DS}{σ:St}{p:Addr}{o:HO}(R:RS K B Z F τ σ H)(v:Vl τ)(hb:B p=none)(hp:F p=none)(hl:Soft (H p))(ho:∀a,o≠.own a:=by intro _ h;cases h):RS K B Z F τ σ (upd H p o):=by
 have ne:∀{a:Addr} {w:HO},H a=some w→(∀vs,w≠.lst vs)→(∀ks,w≠.dK ks)→a≠p:=fun {a w} h n1 n2 z=>by
  subst z
  rcases hl with z|⟨ws,z⟩|⟨ws,z⟩
  ·rw[z] at h;cases h
  ·rw[z] at h;cases h;exact n1 _ rfl
  ·rw[z] at h;cases h;exact n2 _ rfl
 have own:∀(i:Nat) ds,τ[i]?≠some (some (.own ds)):=fun i ds h=>by obtain⟨d,e⟩:=v i _ h;cases e
 have obj:∀(i n:Nat) c fs,τ[i]?≠some (some (.obj n c fs)):=fun i n c fs h=>by obtain⟨d,e⟩:=v i _ h;cases e
 have obr:∀(i:Nat) c fs,τ[i]?≠some (some (.obr c fs)):=fun i c fs h=>by obtain⟨d,e⟩:=v i _ h;cases e
 refine⟨⟨fun b u e=>?_,R.rv.len,R.rv.val,fun i ds h=>absurd h (own i ds),fun i j ds es a _ h=>absurd h (own i ds),⟨fun r hr=>?_,fun d a h=>?_⟩,ObsOk.none v.noObj⟩,fun a u e=>?_,R.zf,R.nb,fun i ds a h=>absurd h (own i ds),fun i n c fs a h=>absurd h (obj i n c fs),fun a0 dx _ _ i n c fs h=>absurd h (obj i _ c fs),fun i c fs a h=>absurd h (obr i c fs)⟩
 ·have:b≠p:=fun z=>by subst z;rw[hp] at e;cases e
  rw[zp this];exact R.rv.fh b u e
 ·obtain⟨t1,t2⟩:=R.rv.tt.1 r hr
  refine⟨t1,?_⟩
  rcases t2 with e|⟨c,e,e2⟩
  ·exact .inl (by rw[zp (ne e (fun _ z=>nomatch z) (fun _ z=>nomatch z))];exact e)
  ·exact .inr ⟨c,by rw[zp (ne e (fun _ z=>nomatch z) (fun _ z=>nomatch z))];exact e,by rw[zp (ne e2 (fun _ z=>nomatch z) (fun _ z=>nomatch z))];exact e2⟩
 ·by_cases z:d=p
  ·subst z;rw[zt] at h;cases h;exact absurd rfl (ho a)
  ·rw[zp z] at h
   obtain⟨C,dx,vs,e⟩:=R.rv.tt.2 d a h
   exact⟨C,dx,vs,by rw[zp (ne e (fun _ z=>nomatch z) (fun _ z=>nomatch z))];exact e⟩
 ·have:a≠p:=fun z=>by subst z;rw[hb] at e;cases e
  rw[zp this];exact R.bh a u e
abbrev Gr:=List (Int×List Int)
def kvG(G:Gr)(ls:List Addr):List (Key×V):=(G.zip ls).map fun p=>(Sum.inl p.1.1,V.ref p.2)
structure Dc(B F H:Hp)(σ:St)(i:Nat)(G:Gr)(d:Addr)(ls:List Addr):Prop where
 sl:σ[i]?=some (some (.ref d))
 db:B d=none
 df:F d=none
 dh:H d=some (.dK (kvG G ls))
 len:ls.length=G.length
 nl:ls.Nodup
 nd:(G.map (·.1)).Nodup
 each:∀(j:Nat) (l:Addr) (g:Int×List Int),ls[j]?=some l→G[j]?=some g→B l=none∧F l=none∧H l=some (.lst (g.2.map V.int))
theorem YH{F H F' H':Hp}{a:Addr}{o:HO}(x:Ext F H F' H')(h:H a=some o)(f:F a=none):F' a=none:=by
 cases q:F' a with
 |none=>rfl
 |some u=>
  rcases x.nw a u q with z|z
  ·rw[f] at z;cases z
  ·rw[h] at z;cases z
theorem Dc.ext{B F H F' H':Hp}{σ:St}{i:Nat}{G:Gr}{d:Addr}{ls:List Addr}(D:Dc B F H σ i G d ls)(x:Ext F H F' H'):Dc B F' H' σ i G d ls:=
 ⟨D.sl,D.db,YH x D.dh D.df,x.hh _ _ D.dh,D.len,D.nl,D.nd,fun j l g h1 h2=>by
  obtain⟨a,b,c⟩:=D.each j l g h1 h2
  exact⟨a,YH x c b,x.hh _ _ c⟩⟩
theorem Dc.set{B F H:Hp}{σ:St}{i k:Nat}{G:Gr}{d:Addr}{ls:List Addr}{v:Option V}(D:Dc B F H σ i G d ls)(h:k≠i):Dc B F H (σ.set k v) i G d ls:=
 { D with sl:=by rw[getElem?_set_ne h];exact D.sl }
omit [Tabs] in
theorem Z1(k:Int):∀(G:Gr) (ls:List Addr),ls.length=G.length→k∉G.map (·.1)→uE (kvG G ls) (Sum.inl k)=none
 |[],_,_,_=>rfl
 |g::G,l::ls,hl,h=>by
  rw[map_cons,mem_cons,not_or] at h
  show uE ((Sum.inl g.1,V.ref l)::kvG G ls) _=_
  rw[v0 (fun z=>h.1 (by cases z;rfl))]
  exact Z1 k G ls (by simpa using hl) h.2
 |_::_,[],hl,_=>by simp at hl
omit [Tabs] in
theorem je(k:Int):∀(G:Gr) (ls:List Addr),ls.length=G.length→k∈G.map (·.1)→∃(j:Nat) (l:Addr) (g:Int×List Int),ls[j]?=some l∧G[j]?=some g∧g.1=k∧uE (kvG G ls) (Sum.inl k)=some (.ref l)
 |[],_,_,h=>by simp at h
 |g::G,l::ls,hl,h=>by
  by_cases z:g.1=k
  ·exact⟨0,l,g,rfl,rfl,z,jf (p:=(Sum.inl g.1,V.ref l)) (by rw[z])⟩
  ·rw[map_cons,mem_cons] at h
   rcases h with h|h
   ·exact absurd h.symm z
   ·obtain⟨j,l',g',h1,h2,h3,h4⟩:=je k G ls (by simpa using hl) h
    refine⟨j+1,l',g',by simpa using h1,by simpa using h2,h3,?_⟩
    show uE ((Sum.inl g.1,V.ref l)::kvG G ls) _=_
    rw[v0 (fun y=>z (by cases y;rfl))];exact h4
 |_::_,[],hl,_=>by simp at hl
def jR(G:Gr)(k v:Int):Gr:=G.map fun g=>if g.1=k then (g.1,g.2++[v]) else g
def Zb(G:Gr)(k:Int):Gr:=if k∈G.map (·.1) then G else G++[(k,[])]
omit [Tabs] in
theorem Zo(G:Gr)(k v:Int):(jR G k v).map (·.1)=G.map (·.1):=by
 unfold jR;rw[map_map]
 exact map_congr_left fun g _=>by simp only[Function.comp];split <;> rfl
omit [Tabs] in
theorem GB{G G':Gr}(ls:List Addr)(h:G'.map (·.1)=G.map (·.1)):kvG G' ls=kvG G ls:=by
 unfold kvG
 have:∀(G:Gr),(G.zip ls).map (fun p=>((Sum.inl p.1.1:Key),V.ref p.2))=((G.map (·.1)).zip ls).map fun p=>((Sum.inl p.1:Key),V.ref p.2):=fun G=>by
  rw[List.zip_map_left,map_map];rfl
 rw[this G',this G,h]
theorem Dc.new{B F H:Hp}{σ:St}{i:Nat}{G:Gr}{d l:Addr}{ls:List Addr}{k:Int}(D:Dc B F H σ i G d ls)(hk:k∉G.map (·.1))(hl:H l=some (.lst []))(fl:F l=none)(bl:B l=none)(nin:l∉ls) :
  Dc B F (upd H d (.dK (kvG (G++[(k,[])]) (ls++[l])))) σ i (G++[(k,[])]) d (ls++[l]):=by
 have nld:l≠d:=fun z=>by subst z;rw[D.dh] at hl;cases hl
 refine⟨D.sl,D.db,D.df,zt,by simp[D.len],?_,?_,fun j m g h1 h2=>?_⟩
 ·rw[List.nodup_append]
  exact⟨D.nl,by simp,fun a ha b hb=>by rw[mem_singleton.mp hb];exact fun z=>nin (z ▸ ha)⟩
 ·rw[map_append,List.nodup_append]
  exact⟨D.nd,by simp,fun a ha b hb=>by rw[mem_singleton.mp hb];exact fun z=>hk (by have z':a=k:=z;rw[← z'];exact ha)⟩
 ·by_cases hj:j<ls.length
  ·rw[getElem?_append_left hj] at h1
   rw[getElem?_append_left (by rw[← D.len];exact hj)] at h2
   obtain⟨a,b,c⟩:=D.each j m g h1 h2
   have m1:m≠d:=fun z=>by subst z;rw[D.dh] at c;cases c
   exact⟨a,b,by rw[zp m1];exact c⟩
  ·rw[getElem?_append_right (by omega)] at h1
   rw[getElem?_append_right (by rw[← D.len];omega)] at h2
   have e:j-ls.length=0:=by
    have:=(List.getElem?_eq_some_iff.mp h1).1
    simp at this;omega
   rw[e] at h1
   rw[← D.len,e] at h2
   cases h1;cases h2
   exact⟨bl,fl,by rw[zp nld];exact hl⟩
theorem Dc.other{B F H:Hp}{σ:St}{i:Nat}{G:Gr}{d p:Addr}{ls:List Addr}{o:HO}(D:Dc B F H σ i G d ls)(hp:H p=none):Dc B F (upd H p o) σ i G d ls:=by
 refine⟨D.sl,D.db,D.df,?_,D.len,D.nl,D.nd,fun j l g h1 h2=>?_⟩
 ·rw[zp (fun z=>by subst z;rw[D.dh] at hp;cases hp)];exact D.dh
 ·obtain⟨a,b,c⟩:=D.each j l g h1 h2
  exact⟨a,b,by rw[zp (fun z=>by subst z;rw[c] at hp;cases hp)];exact c⟩
theorem Dc.out{B F H:Hp}{σ:St}{i:Nat}{G:Gr}{d p:Addr}{ls:List Addr}(D:Dc B F H σ i G d ls)(hp:H p=none):p∉ls:=fun z=>by
 obtain⟨j,hj⟩:=getElem?_of_mem z
 have hj':j<G.length:=by rw[← D.len];exact(List.getElem?_eq_some_iff.mp hj).1
 have:=(D.each j p G[j] hj (by simp[hj'])).2.2
 rw[hp] at this;cases this
omit [Tabs] in
theorem MM{G:Gr}{ls:List Addr}{k:Int}{l:Addr}(hl:ls.length=G.length)(hk:k∉G.map (·.1)):jY (kvG G ls) (Sum.inl k) (.ref l)=kvG (G++[(k,[])]) (ls++[l]):=by
 unfold jY
 rw[Z2,Z1 k G ls hl hk,if_neg (by simp)]
 unfold kvG
 rw[List.zip_append hl.symm,map_append];rfl
theorem Dc.add{B F H:Hp}{σ:St}{i j:Nat}{G:Gr}{d l:Addr}{ls:List Addr}{k v:Int}{g:Int×List Int}(D:Dc B F H σ i G d ls)(h1:ls[j]?=some l)(h2:G[j]?=some g)(hk:g.1=k) :
  Dc B F (upd H l (.lst (g.2.map V.int++[.int v]))) σ i (jR G k v) d ls:=by
 obtain⟨b1,b2,b3⟩:=D.each j l g h1 h2
 have nld:d≠l:=fun z=>by subst z;rw[D.dh] at b3;cases b3
 refine⟨D.sl,D.db,D.df,by rw[zp nld,D.dh,GB ls (Zo G k v)],by rw[D.len];simp[jR],D.nl,by rw[Zo];exact D.nd,fun j' l' g' q1 q2=>?_⟩
 unfold jR at q2
 rw[getElem?_map] at q2
 cases e:G[j']? with
 |none=>rw[e] at q2;cases q2
 |some g0=>
  rw[e] at q2
  obtain⟨c1,c2,c3⟩:=D.each j' l' g0 q1 e
  simp only[Option.map_some,Option.some.injEq] at q2
  by_cases hj:j'=j
  ·subst hj
   rw[h1] at q1;cases q1
   rw[h2] at e;cases e
   rw[if_pos hk] at q2
   subst q2
   exact⟨b1,b2,by rw[zt];simp⟩
  ·have nk:¬ g0.1=k:=fun z=>by
    have z1:(G.map (·.1))[j']?=some k:=by rw[getElem?_map,e];simp[z]
    have z2:(G.map (·.1))[j]?=some k:=by rw[getElem?_map,h2];simp[hk]
    have y1:=(List.getElem?_eq_some_iff.mp z1).1
    exact hj ((List.getElem?_inj y1 D.nd).mp (by rw[z1,z2]))
   rw[if_neg nk] at q2
   subst q2
   have nll:l'≠l:=fun z=>by
    subst z
    have y1:=(List.getElem?_eq_some_iff.mp q1).1
    exact hj ((List.getElem?_inj y1 D.nl).mp (by rw[q1,h1]))
   exact⟨c1,c2,by rw[zp nll];exact c3⟩
section
variable{X:Cx}{i:Nat}{y:Str}{e0 e0' e0'' e1:Expr}{f0 f1:FE}{q1 q2 q3 cp sp sp2 lp ap ip atp callp xp:Pos}
def tTB(X:Cx)(i:Nat)(f0 f1:FE):TS:=fun E σ H=>∃B Z F τ G d ls k v,RS X.K B Z F τ σ H∧Vl τ∧Dc B F H σ i G d ls∧f0 τ=.ok (.int k)∧f1 τ=.ok (.int v)∧G.length≤1000∧(∀g∈G,g.2.length≤1000) ∧
 ∀F' H' ls',Same F F'→RS X.K B Z F' τ σ H'→Dc B F' H' σ i (jR (Zb G k) k v) d ls'→E.nx σ H'
theorem WS{X:Cx}{α:Type}{r:Rs α}{a:α}{P:α→Prop}(h:r=.ok a)(p:P a):Ok X r P:=by rw[h];exact p
theorem X9{B H:Hp}{p:Addr}(h:Hh B H)(e:H p=none):B p=none:=by
 cases q:B p with
 |none=>rfl
 |some o=>exact absurd e (Kp.some (h p o q))
theorem Gd{F H:Hp}{p:Addr}(h:Same F H)(e:H p=none):F p=none:=by
 cases q:F p with
 |none=>rfl
 |some o=>have:=h p o q;rw[e] at this;cases this
theorem VA{B Z F H:Hp}{τ:DS}{σ:St}{G:Gr}{d:Addr}{ls:List Addr}{k v:Int}{Q:Hp→Prop}(R:RS X.K B Z F τ σ H)(vl:Vl τ)(D:Dc B F H σ i G d ls)(h0:f0 τ=.ok (.int k))(h1:f1 τ=.ok (.int v))(hk:k∈G.map (·.1))(hs:∀g∈G,g.2.length≤1000)
  (q:∀F' H',Same F F'→RS X.K B Z F' τ σ H'→Dc B F' H' σ i (jR G k v) d ls→Q H') :
  tBM X.K "list" ZO (Wy (vH i) (tE X f0)) (tAs X (za f1 zh)) σ H fun _ H1=>Q H1:=by
 refine⟨_,D.sl,?_⟩
 refine tE.at R (WS h0 rfl) fun dd w F1 H1 g x R1 r=>?_
 subst g
 simp only[Rep] at r;subst r
 have D1:=D.ext x
 obtain⟨j,l,g,j1,j2,j3,j4⟩:=je k G ls D.len hk
 obtain⟨c1,c2,c3⟩:=D1.each j l g j1 j2
 have gt:DGet H1 d (.int k) (some (.ref l)):=by
  have:=DGet.k (k:=Sum.inl k) D1.dh
  rw[j4] at this;exact this
 refine⟨d,.ref l,rfl,gt,.inl ⟨rfl,_,SqL.of c3⟩,?_⟩
 refine tAs.of R1.rv (WS (show za f1 zh τ=.ok [.int v] by unfold za zh;rw[h1];rfl) rfl) fun ds vs F2 H2 g2 x2 R2 r2=>?_
 subst g2
 obtain⟨w,rfl,r3⟩:=r2.one
 simp only[Rep] at r3;subst r3
 have D2:=D1.ext x2
 obtain⟨_,b2,b3⟩:=D2.each j l g j1 j2
 refine⟨l,_,.int v,rfl,rfl,b3,?_,?_⟩
 ·rw[length_map,sizeLine_eq]
  have:g∈G:=mem_of_getElem? j2
  have:=hs g this;omega
 ·exact q F2 _ (x.ff.trans x2.ff) (RS.free (R1.ext x2) vl c1 b2 (.inr (.inl ⟨_,b3⟩))) (D2.add j1 j2 j3)
omit [Tabs] in
theorem Te{G:Gr}{k:Int}(h:k∈G.map (·.1)):Zb G k=G:=if_pos h
omit [Tabs] in
theorem Gg{G:Gr}{k:Int}(h:k∉G.map (·.1)):Zb G k=G++[(k,[])]:=if_neg h
omit [Tabs] in
theorem Gh(G:Gr)(k:Int):k∈(Zb G k).map (·.1):=by
 unfold Zb
 split
 ·assumption
 ·simp
theorem LM(hu:X.A.units+1<cLine)(he0:PDE X e0 f0)(he0':PDE X e0' f0)(he0'':PDE X e0'' f0)(he1:PDE X e1 f1)(hy1:PE X (.Name y q1) (vH i))(hy2:PE X (.Name y q2) (vH i))(hy3:PE X (.Name y q3) (vH i))
  (hb:behindInMarks .NotIn (.Name y q1)=false:=by rfl) (hsw:swapsWith (.List [] lp) (some (.Subscript (.Name y q2) e0' sp)) ap.line X.env=pure false:=by rfl) (hns:ze6 e0'':=by intro _ _;rfl)
  (hbase:attributeBase (.Subscript (.Name y q3) e0'' sp2) "append" X.env (eval (.Subscript (.Name y q3) e0'' sp2) X.env)=eval (.Subscript (.Name y q3) e0'' sp2) X.env:=by rfl)
  (hfew:((backTo callp (starEach [e1] X.env)).all (fun x=>!x.1)&&(backToKw callp (keywordEach [] X.env)).all (fun x=>x.1.isSome)
   && decide ([e1].length+([]:List Keyword).length+(if ([]:List Keyword).isEmpty then 0 else 1)<30))=true:=by rfl)
  (hline:(atp.endLine==callp.line)=true:=by rfl) (hs:starEach [e1] X.env=[(false,eval e1 X.env)]:=by rfl) (hplain:(backTo callp (starEach [] X.env)).any (·.1)=false:=by rfl)
  (hsx:swapsWith (.Call (.Attribute (.Subscript (.Name y q3) e0'' sp2) "append" atp) [e1] [] callp) none xp.line X.env=pure false:=by rfl) :
  PSs X [.If (.Compare e0 [.NotIn] [.Name y q1] cp) [.Assign [.Subscript (.Name y q2) e0' sp] (.List [] lp) ap] [] ip,.Expr (.Call (.Attribute (.Subscript (.Name y q3) e0'' sp2) "append" atp) [e1] [] callp) xp] (tTB X i f0 f1):=
 PSs.imp (jm (La (LL (JH hu he0 hy1) hb) (ZP (MP hu hy2 he0' (VT j5) hsw)) UG)
  (ZP (XX (Ld PySem.F.plainAttrs_list PySem.F.slot_list_append PySem.F.type_list_append Zc (UK hu hy3 he0'' hns) (zc he1 zi (by rw[hs];rfl)) hbase hfew hline (by rw[hs];rfl) hplain) hsx))) fun E σ H h=>by
  obtain⟨B,Z,F,τ,G,d,ls,k,v,R,vl,D,h0,h1,hz,hgs,q⟩:=h
  refine tE.at R (WS h0 rfl) fun dd w F1 H1 g x R1 r=>?_
  subst g
  simp only[Rep] at r;subst r
  have D1:=D.ext x
  refine⟨_,D1.sl,d,uE (kvG G ls) (Sum.inl k),rfl,DGet.k (k:=Sum.inl k) D1.dh,_,rfl,?_⟩
  by_cases hk:k∈G.map (·.1)
  ·obtain⟨j,l,g,j1,j2,j3,j4⟩:=je k G ls D.len hk
   rw[j4]
   show tBM X.K "list" ZO (Wy (vH i) (tE X f0)) (tAs X (za f1 zh)) σ H1 fun _ H1=>E.nx σ H1
   refine VA R1 vl D1 h0 h1 hk hgs fun F' H' ff R' D'=>?_
   rw[Te hk] at q
   exact q F' H' ls (x.ff.trans ff) R' D'
  ·rw[Z1 k G ls D.len hk]
   show T8 (vH i) (tE X f0) (tLst _) _ σ H1
   refine⟨by simp,fun p hp=>?_⟩
   have bp:B p=none:=X9 R1.bh hp
   have fp:F1 p=none:=Gd R1.rv.fh hp
   have R2:=RS.free (o:=.lst []) R1 vl bp fp (.inl hp)
   have D2:=D1.other (o:=.lst []) hp
   refine⟨_,D2.sl,?_⟩
   refine tE.at R2 (WS h0 rfl) fun dd w F3 H3 g x3 R3 r=>?_
   subst g
   simp only[Rep] at r;subst r
   have D3:=D2.ext x3
   have hl3:H3 p=some (.lst []):=x3.hh _ _ zt
   have fl3:F3 p=none:=YH x3 zt fp
   have pt:=DPut.k (k:=Sum.inl k) (v:=.ref p) D3.dh (by rw[sizeLine_eq];unfold kvG;rw[length_map,List.length_zip];omega)
   rw[MM D.len hk] at pt
   refine⟨d,_,rfl,pt,?_⟩
   have D4:=D3.new hk hl3 fl3 bp (D1.out hp)
   have R4:=RS.free (o:=.dK (kvG (G++[(k,[])]) (ls++[p]))) R3 vl D3.db D3.df (.inr (.inr ⟨_,D3.dh⟩))
   show tBM X.K "list" ZO (Wy (vH i) (tE X f0)) (tAs X (za f1 zh)) σ _ fun _ H1=>E.nx σ H1
   refine VA R4 vl D4 h0 h1 (by simp) (fun g hg=>?_) fun F' H' ff R' D'=>?_
   ·rcases mem_append.mp hg with hg|hg
    ·exact hgs g hg
    ·rw[mem_singleton.mp hg];exact zero_le _
   ·rw[Gg hk] at q
    exact q F' H' (ls++[p]) ((x.ff.trans x3.ff).trans ff) R' D'
end
def ZF(p:Int×Int):D:=.tup [.int p.1,.int p.2]
def grp(rows:List (Int×Int)):Gr:=rows.foldl (fun G p=>jR (Zb G p.1) p.1 p.2) []
omit [Tabs] in
theorem jE(rows:List (Int×Int))(p:Int×Int):grp (rows++[p])=jR (Zb (grp rows) p.1) p.1 p.2:=by unfold grp;rw[List.foldl_append];rfl
omit [Tabs] in
theorem Zi(rows:List (Int×Int)):∀n,(grp (rows.take n)).length≤n∧∀g∈grp (rows.take n),g.2.length≤n
 |0=>by simp[grp]
 |n+1=>by
  obtain⟨h1,h2⟩:=Zi rows n
  by_cases hn:n<rows.length
  ·rw[List.take_succ_eq_append_getElem hn,jE]
   have hl:(Zb (grp (rows.take n)) rows[n].1).length≤n+1∧∀g∈Zb (grp (rows.take n)) rows[n].1,g.2.length≤n:=by
    unfold Zb
    split
    ·exact⟨by omega,h2⟩
    ·refine⟨by rw[length_append,length_singleton];omega,fun g hg=>?_⟩
     rcases mem_append.mp hg with hg|hg
     ·exact h2 g hg
     ·rw[mem_singleton.mp hg];exact zero_le _
   unfold jR
   refine⟨by rw[length_map];exact hl.1,fun g hg=>?_⟩
   obtain⟨g0,hg0,rfl⟩:=mem_map.mp hg
   have:=hl.2 g0 hg0
   split
   ·simp;omega
   ·omega
  ·rw[take_of_length_le (by omega)]
   rw[take_of_length_le (by omega)] at h1 h2
   exact⟨by omega,fun g hg=>by have:=h2 g hg;omega⟩
section
variable{X:Cx}{i r:Nat}{x y:Str}{e0 e0' e0'' e1 iter:Expr}{fi:FA}{q1 q2 q3 cp sp sp2 lp ap ip atp callp xp tp pos:Pos}
abbrev ix0(r:Nat):FE:=eOp ixD (zd r) (eC (.int 0))
abbrev ix1(r:Nat):FE:=eOp ixD (zd r) (eC (.int 1))
theorem zb6{τ:DS}{r:Nat}{p:Int×Int}(h:r<τ.length):ix0 r (τ.set r (some (.val (ZF p))))=.ok (.int p.1)∧ix1 r (τ.set r (some (.val (ZF p))))=.ok (.int p.2):=by
 have e:zd r (τ.set r (some (.val (ZF p))))=.ok (ZF p):=by
  unfold zd
  rw[getElem?_set_self h]
 unfold ix0 ix1 eOp
 rw[e]
 exact⟨rfl,rfl⟩
def tTF(X:Cx)(i r:Nat)(fi:FA):TS:=fun E σ H=>∃B Z F τ d rows,RS X.K B Z F τ σ H∧Vl τ∧Dc B F H σ i [] d []∧r<τ.length∧r≠i∧fi τ=.ok (rows.map ZF)∧rows.length≤1000 ∧
 ∀σ' F' H' τ' ls,Same F F'→RS X.K B Z F' τ' σ' H'→Vl τ'→Dc B F' H' σ' i (grp rows) d ls→E.nx σ' H'
theorem ps_tf{body:List Stmt}(hp:PassesOwn (model X.prog X.w) X.A X.env X.xe)(hc:X.calm=true)(hi:PDI X (.Name x tp) iter fi)(hN:X.N.Nodup)(hx:X.N[r]?=some x)(hlc:Loc X.env.scope x)
  (hb:PSs X body (tTB X i (ix0 r) (ix1 r))) (hf:X.fn x=true∨X.env.scope.names.lookup x=some .local:=by first|exact .inl rfl|exact .inr rfl|assumption) (hs:∀x,foldedSetIterable iter X.env x=pure x:=by intro _;rfl) :
  PS X (.For (.Name x tp) iter body [] pos) (tTF X i r fi):=
 PS.imp (QU hp hc hi (jn hN hx hlc hf) hb hs) fun E σ H h=>by
  obtain⟨B,Z,F,τ,d,rows,R,vl,D,hr,hri,hfi,hz,q⟩:=h
  refine⟨F,τ,R.rv,WS hfi fun J F1 H1 x1 io=>?_⟩
  refine⟨fun n m σ H=>m=rows.length-n∧n≤rows.length∧∃F' τ' ls,Same F1 F'∧RS X.K B Z F' τ' σ H∧Vl τ'∧τ'.length=τ.length∧Dc B F' H σ i (grp (rows.take n)) d ls,⟨rows.length,by simp,zero_le _,F1,τ,[],Same.refl _,R.ext x1,vl,rfl,D.ext x1⟩,?_⟩
  rintro n m σ2 H2 ⟨rfl,hn,F2,τ2,ls,f2,R2,v2,t2,D2⟩
  obtain⟨i1,i2⟩:=io n F2 H2 f2 R2.rv.fh
  by_cases hlt:n<rows.length
  ·obtain⟨go,yl⟩:=i2 (ZF rows[n]) (by simp[hlt])
   refine .inr ⟨go,fun σ' H'=>∃F' τ' ls,Same F2 F'∧RS X.K B Z F' τ' σ' H'∧Vl τ'∧τ'.length=τ.length∧Dc B F' H' σ' i (grp (rows.take (n+1))) d ls,fun σ' H' ⟨F',τ',ls',a,b,c,t,e⟩=>⟨rows.length-(n+1),by omega,rfl,hlt,F',τ',ls',f2.trans a,b,c,t,e⟩,fun w H' yy=>?_⟩
   obtain⟨F3,x3,r3⟩:=yl w H' yy
   have R3:=(R2.ext x3).set (i:=r) r3
   have D3:=(D2.ext x3).set (v:=some w) (k:=r) hri
   obtain⟨z0,z1⟩:=zb6 (τ:=τ2) (r:=r) (p:=rows[n]) (by rw[t2];exact hr)
   obtain⟨g1,g2⟩:=Zi rows n
   refine⟨B,Z,F3,_,grp (rows.take n),d,ls,rows[n].1,rows[n].2,R3,v2.set r _,D3,z0,z1,by omega,fun g hg=>by have:=g2 g hg;omega,fun F' H'' ls' ff RR DD=>?_⟩
   refine⟨F',_,ls',x3.ff.trans ff,RR,v2.set r _,by rw[length_set];exact t2,?_⟩
   rw[List.take_succ_eq_append_getElem hlt,jE]
   exact DD
  ·have e:n=rows.length:=by omega
   subst e
   rw[List.take_length] at D2
   exact .inl ⟨i1 (by simp),q σ2 F2 H2 τ2 ls (x1.ff.trans f2) R2 v2 D2⟩
end
def we(G:Gr)(k:Int):List Int:=((G.find? fun g=>decide (g.1=k)).map (·.2)).getD []
def xn(G:Gr):List Int:=(STW.setZ (G.map (·.1))).reverse
def Jq(G:Gr):List D:=(xn G).map fun k=>.tup [.int k,.lst ((we G k).map D.int)]
omit [Tabs] in
theorem UW(k:Int):∀(G:Gr) (j:Nat) (g:Int×List Int),(G.map (·.1)).Nodup→G[j]?=some g→g.1=k→we G k=g.2
 |[],_,_,_,h,_=>by simp at h
 |g0::G,0,g,_,h,hk=>by
  cases h
  unfold we
  rw[List.find?_cons_of_pos (by simpa using hk)];rfl
 |g0::G,j+1,g,nd,h,hk=>by
  have h':G[j]?=some g:=by simpa using h
  rw[map_cons,nodup_cons] at nd
  have ne:¬ g0.1=k:=fun z=>nd.1 (by rw[z,← hk];exact mem_map_of_mem (mem_of_getElem? h'))
  unfold we
  rw[List.find?_cons_of_neg (by simpa using ne)]
  exact UW k G j g nd.2 h' hk
omit [Tabs] in
theorem Tu{G:Gr}{k:Int}(h:k∈xn G):k∈G.map (·.1):=by
 unfold xn at h
 rw[List.mem_reverse,STW.setZ_mem] at h;exact h
def J8(F H:Hp)(nw:List Addr):Hp:=fun a=>if a∈nw then H a else F a
theorem YB{F H:Hp}{nw:List Addr}{a:Addr}(h:a∈nw):J8 F H nw a=H a:=if_pos h
theorem ZU{F H:Hp}{nw:List Addr}{a:Addr}(h:a∉nw):J8 F H nw a=F a:=if_neg h
def Cold(o:Option HO):Prop:=(∃vs,o=some (.lst vs))∨∃vs,o=some (.tup vs)
theorem TK{K:PySem.W.Frag}{B Z F H0 H:Hp}{τ:DS}{σ:St}{nw:List Addr}(R:RS K B Z F τ σ H0)(hs:Same H0 H)(hb:∀a∈nw,B a=none)(hc:∀a∈nw,Cold (H a))(ho:∀d a,H d=some (.own a)→H0 d=some (.own a)):Ext Z B (J8 F H nw) H:=by
 have fz:∀a o,Z a=some o→a∉nw→J8 F H nw a=some o:=fun a o e n=>by rw[ZU n];exact R.zf a o e
 refine⟨fun a o e=>?_,R.bh.trans (.of hs),fun a o e=>?_,fun a o e=>?_,fun _=>⟨fun r hr=>?_,fun d a e=>?_⟩⟩
 ·by_cases z:a∈nw
  ·rw[YB z];exact hs a o (R.rv.fh a o (R.zf a o e))
  ·exact fz a o e z
 ·by_cases z:a∈nw
  ·rw[YB z] at e;exact e
  ·rw[ZU z] at e;exact hs a o (R.rv.fh a o e)
 ·by_cases z:a∈nw
  ·exact .inr (hb a z)
  ·rw[ZU z] at e;exact R.nb a o e
 ·obtain⟨t1,t2⟩:=R.rv.tt.1 r hr
  have nin:r.1∉nw:=fun z=>by
   have h1:=hc _ z
   rcases t2 with q|⟨c,q,_⟩
   ·rw[hs _ _ q] at h1;rcases h1 with ⟨vs,h1⟩|⟨vs,h1⟩ <;> cases h1
   ·rw[hs _ _ q] at h1;rcases h1 with ⟨vs,h1⟩|⟨vs,h1⟩ <;> cases h1
  refine⟨by rw[ZU nin];exact t1,?_⟩
  rcases t2 with q|⟨c,q,q2⟩
  ·exact .inl (hs _ _ q)
  ·exact .inr ⟨c,hs _ _ q,hs _ _ q2⟩
 ·obtain⟨C,dx,vs,q⟩:=R.rv.tt.2 d a (ho d a e)
  exact⟨C,dx,vs,hs _ _ q⟩
def teT:TE:=tTup (Qu (vH 0) (Qu (Wy (vH 1) (vH 0)) tNil))
def tTR(X:Cx)(i:Nat):TE:=fun σ H Q=>∃B Z F τ G d ls,RS X.K B Z F τ σ H∧Vl τ∧Dc B F H σ i G d ls∧G.length<64∧∀v F' H',Ext Z B F' H'→Rep X.K F' (.lst (Jq G)) v→Q v H'
theorem TX{X:Cx}{i:Nat}(σ:St)(H:Hp)(Q:VK)(h:tTR X i σ H Q):Uw (vd 1 [i]) (Lj X.K (VI i)) (jG 0) (fun _ H Q=>Q true H) teT σ H Q:=by
 obtain⟨B,Z,F,τ,G,d,ls,R,vl,D,h64,q⟩:=h
 have kk:(kvG G ls).map (·.1)=(G.map (·.1)).map Sum.inl:=by
  unfold kvG
  rw[map_map,map_map]
  have:∀(G:Gr) (ls:List Addr),ls.length=G.length→(G.zip ls).map (fun p=>(Sum.inl p.1.1:Key))=G.map fun g=>Sum.inl g.1:=fun G=>by
   induction G with
   |nil=>intro ls _;rfl
   |cons g G ih=>
    intro ls hl
    cases ls with
    |nil=>simp at hl
    |cons l ls=>rw[List.zip_cons_cons,map_cons,map_cons,ih ls (by simpa using hl)]
  exact this G ls D.len
 refine⟨d,kvG G ls,G.map (·.1),D.sl,D.dh,kk,D.nd,by simpa using h64,fun a ha=>?_⟩
 refine⟨a,rfl,⟨_,SqL.of zt⟩,fun acc hacc=>?_⟩
 have hs1:Same H (upd H a (.lst ((STW.setZ (G.map (·.1))).reverse.map V.int))):=yj ha
 generalize hH1:upd H a (.lst ((STW.setZ (G.map (·.1))).reverse.map V.int))=H1 at hacc hs1 ⊢
 have hla:H1 a=some (.lst ((xn G).map V.int)):=by rw[← hH1];exact zt
 have only1:∀b,b≠a→H1 b=H b:=fun b hb=>by rw[← hH1];exact zp hb
 refine⟨fun n m σ1 Hc=>m=(xn G).length-n∧n≤(xn G).length∧σ1[1]?=some (some (.ref d))∧σ1.length=2∧∃ps:List Addr,ps.length=n∧Hc acc=some (.lst (ps.map V.ref))∧(∀b,b≠acc→b∉ps→Hc b=H1 b)∧acc∉ps ∧
  ∀(j:Nat) (p:Addr) (k:Int),ps[j]?=some p→(xn G)[j]?=some k→H1 p=none∧∃l,Hc p=some (.tup [.int k,.ref l])∧l∈ls∧H l=some (.lst ((we G k).map V.int)),⟨_,rfl,zero_le _,?_,rfl,[],rfl,zt,fun b hb _=>zp hb,by simp,fun j p k h=>by simp at h⟩,?_⟩
 ·show(List.replicate 1 none++[(σ[i]?).join])[1]?=_
  rw[D.sl];rfl
 rintro n m σ1 Hc ⟨rfl,hn,sd,s2,ps,pl,hac,ho,nap,hps⟩
 have haa:a≠acc:=fun z=>by rw[z] at hla;rw[hacc] at hla;cases hla
 have nps:∀b o,H1 b=some o→b≠acc∧b∉ps:=fun b o e=>by
  refine⟨fun z=>?_,fun z=>?_⟩
  ·rw[z,hacc] at e;cases e
  ·obtain⟨j,hj⟩:=getElem?_of_mem z
   have hj':j<(xn G).length:=by have:=(List.getElem?_eq_some_iff.mp hj).1;omega
   have:=(hps j b (xn G)[j] hj (by simp[hj'])).1
   rw[e] at this;cases this
 have kp:∀b o,H1 b=some o→Hc b=some o:=fun b o e=>by rw[ho b (nps b o e).1 (nps b o e).2];exact e
 have hla':=kp _ _ hla
 by_cases hlt:n<(xn G).length
 ·refine .inr ⟨⟨_,.int (xn G)[n],SqL.of hla',by simp[hlt]⟩,fun x H' yy=>?_⟩
  obtain⟨e',yx⟩:=yy
  rw[e']
  have ex:x=.int (xn G)[n]:=by
   have:=yx _ (SqL.of hla')
   simpa[hlt] using this.symm
  subst ex
  have hk:(xn G)[n]∈G.map (·.1):=Tu (getElem_mem hlt)
  obtain⟨j,l,g,j1,j2,j3,j4⟩:=je _ G ls D.len hk
  obtain⟨c1,c2,c3⟩:=D.each j l g j1 j2
  have hd':Hc d=some (.dK (kvG G ls)):=kp _ _ (hs1 _ _ D.dh)
  unfold jG
  dsimp only
  rw[if_pos rfl]
  have sd':(σ1.set 0 (some (.int (xn G)[n])))[1]?=some (some (.ref d)):=by rw[getElem?_set_ne (by omega)];exact sd
  have s0':(σ1.set 0 (some (.int (xn G)[n])))[0]?=some (some (.int (xn G)[n])):=by rw[getElem?_set_self (by omega)]
  refine⟨_,s0',_,sd',_,s0',d,.ref l,rfl,?_,?_⟩
  ·have:=DGet.k (k:=Sum.inl (xn G)[n]) hd'
   rw[j4] at this;exact this
  refine⟨by show 2≤sizeLine;rw[sizeLine_eq];decide,fun p hp=>?_⟩
  have pa:p≠acc:=fun z=>by rw[z,hac] at hp;cases hp
  have pn:p∉ps:=fun z=>by
   obtain⟨j',hj⟩:=getElem?_of_mem z
   have hj':j'<(xn G).length:=by have:=(List.getElem?_eq_some_iff.mp hj).1;omega
   obtain⟨_,l',q',_⟩:=hps j' p (xn G)[j'] hj (by simp[hj'])
   rw[hp] at q';cases q'
  have p1:H1 p=none:=by rw[← ho p pa pn];exact hp
  refine⟨ps.map V.ref,by rw[zp (Ne.symm pa)];exact hac,by rw[length_map,pl,sizeLine_eq];have:=STW.setZ_le (G.map (·.1));unfold xn at hn;rw[length_reverse] at hn;rw[length_map] at this;omega,(xn G).length-(n+1),by omega,rfl,hlt,sd',by rw[length_set];exact s2,ps++[p],by simp[pl],?_,fun b hb hn'=>?_,?_,fun j' p' k' e1 e2=>?_⟩
  ·rw[zt,map_append];rfl
  ·rw[mem_append,not_or] at hn'
   rw[zp hb,zp (fun z=>hn'.2 (by simp[z]))]
   exact ho b hb hn'.1
  ·rw[mem_append,not_or];exact⟨nap,by simp;exact Ne.symm pa⟩
  ·by_cases hj:j'<ps.length
   ·rw[getElem?_append_left hj] at e1
    obtain⟨z1,l',z2,z3,z4⟩:=hps j' p' k' e1 e2
    have n1:p'≠acc:=fun z=>nap (by rw[← z];exact mem_of_getElem? e1)
    have n2:p'≠p:=fun z=>pn (by rw[← z];exact mem_of_getElem? e1)
    exact⟨z1,l',by rw[zp n1,zp n2];exact z2,z3,z4⟩
   ·rw[getElem?_append_right (by omega)] at e1
    have e0:j'-ps.length=0:=by have:=(List.getElem?_eq_some_iff.mp e1).1;simp at this;omega
    rw[e0] at e1;cases e1
    have ej:j'=n:=by omega
    subst ej
    rw[getElem?_eq_getElem hlt] at e2;cases e2
    refine⟨p1,l,by rw[zp pa,zt],mem_of_getElem? j1,?_⟩
    rw[UW _ G j g D.nd j2 j3];exact c3
 ·have en:n=(xn G).length:=by omega
  refine .inl ⟨⟨_,SqL.of hla',by simp;omega⟩,?_⟩
  have hsH:Same H Hc:=fun b o e=>kp b o (hs1 b o e)
  have cold:∀b∈acc::(ps++ls),B b=none∧Cold (Hc b):=fun b hb=>by
   rcases mem_cons.mp hb with rfl|hb
   ·refine⟨X9 R.bh ?_,.inl ⟨_,hac⟩⟩
    cases z:H b with
    |none=>rfl
    |some o=>rw[hs1 _ _ z] at hacc;cases hacc
   ·rcases mem_append.mp hb with hb|hb
    ·obtain⟨j,hj⟩:=getElem?_of_mem hb
     have hj':j<(xn G).length:=by have:=(List.getElem?_eq_some_iff.mp hj).1;omega
     obtain⟨z1,l',z2,_⟩:=hps j b (xn G)[j] hj (by simp[hj'])
     refine⟨X9 R.bh ?_,.inr ⟨_,z2⟩⟩
     cases z:H b with
     |none=>rfl
     |some o=>rw[hs1 _ _ z] at z1;cases z1
    ·obtain⟨j,hj⟩:=getElem?_of_mem hb
     have hj':j<G.length:=by rw[← D.len];exact(List.getElem?_eq_some_iff.mp hj).1
     obtain⟨z1,_,z3⟩:=D.each j b G[j] hj (by simp[hj'])
     exact⟨z1,.inl ⟨_,hsH _ _ z3⟩⟩
  refine q (.ref acc) (J8 F Hc (acc::(ps++ls))) Hc (TK R hsH (fun b hb=>(cold b hb).1) (fun b hb=>(cold b hb).2) fun dd b e=>?_) ?_
  ·by_cases z1:dd=acc
   ·rw[z1,hac] at e;cases e
   ·by_cases z2:dd∈ps
    ·have:=(cold dd (by simp[z2])).2
     rw[e] at this;rcases this with ⟨_,z⟩|⟨_,z⟩ <;> cases z
    ·rw[ho dd z1 z2] at e
     by_cases z3:dd=a
     ·rw[z3,hla] at e;cases e
     ·rw[only1 dd z3] at e;exact e
  ·simp only[Rep]
   refine⟨acc,_,rfl,by rw[YB (by simp)];exact hac,?_⟩
   unfold Jq
   have key:∀(ks:List Int) (qs:List Addr),qs.length=ks.length→(∀(j:Nat) (p:Addr) (k:Int),qs[j]?=some p→ks[j]?=some k→p∈ps∧∃l,Hc p=some (.tup [.int k,.ref l])∧l∈ls∧H l=some (.lst ((we G k).map V.int))) →
     Reps X.K (J8 F Hc (acc::(ps++ls))) (ks.map fun k=>.tup [.int k,.lst ((we G k).map FD.D.int)]) (qs.map V.ref):=fun ks=>by
    induction ks with
    |nil=>intro qs hl _;rw[length_nil,List.length_eq_zero_iff] at hl;subst hl;exact Reps.nil
    |cons k ks ih=>
     intro qs hl hq
     cases qs with
     |nil=>simp at hl
     |cons p qs=>
      obtain⟨hp,l,z2,z3,z4⟩:=hq 0 p k rfl rfl
      refine Reps.cons ?_ (ih qs (by simpa using hl) fun j p' k' e1 e2=>hq (j+1) p' k' (by simpa using e1) (by simpa using e2))
      simp only[Rep]
      refine⟨p,[.int k,.ref l],rfl,SqT.of (by rw[YB (by simp[hp])];exact z2),Reps.cons (by simp only[Rep]) (Reps.cons ?_ Reps.nil)⟩
      simp only[Rep]
      exact⟨l,_,rfl,by rw[YB (by simp[z3])];exact hsH _ _ z4,Reps.ints _⟩
   exact key (xn G) ps (by omega) fun j p k e1 e2=>by
    obtain⟨_,l,z2,z3,z4⟩:=hps j p k e1 e2
    exact⟨mem_of_getElem? e1,l,z2,z3,z4⟩
def vlB(τ:DS):Bool:=τ.all fun s=>match s with
 |none=>true
 | some (.val _)=>true
 |_=>false
omit [Tabs] in
theorem Lu{τ:DS}(h:vlB τ=true):Vl τ:=fun i s e=>by
 have:=List.all_eq_true.mp h (some s) (mem_of_getElem? e)
 cases s with
 |val d=>exact⟨d,rfl⟩
 |_=>cases this
def Zp:List D→Option (List (Int×Int))
 |[]=>some []
 |.tup [.int k,.int v]::r=>(Zp r).map ((k,v) :: ·)
 |_::_=>none
omit [Tabs] in
theorem QH:∀{ds:List D} {rows:List (Int×Int)},Zp ds=some rows→ds=rows.map ZF:=fun {ds}=>by
 induction ds with
 |nil=>intro rows h;cases h;rfl
 |cons d r ih=>
  intro rows h
  unfold Zp at h
  split at h
  ·rename_i z;cases z
  ·rename_i k v r' z
   cases z
   cases q:Zp r with
   |none=>rw[q] at h;cases h
   |some m=>rw[q] at h;cases h;rw[map_cons,ih q];rfl
  ·cases h
omit [Tabs] in
theorem VP(rows:List (Int×Int)):Zp (rows.map ZF)=some rows:=by
 induction rows with
 |nil=>rfl
 |cons p r ih=>rw[map_cons];show(Zp (r.map ZF)).map _=_;rw[ih];rfl
def Xi(i r:Nat)(fi:FA):FS:=fun τ=>if vlB τ=true∧r<τ.length∧i<τ.length∧r≠i then match fi (τ.set i none) with
 |.ok ds=>match Zp ds with
  |some rows=>if rows.length<64 then .rt (.lst (Jq (grp rows))) else .no
  |none=>.no
 |_=>.no
 else .no
theorem RS.drop{K:PySem.W.Frag}{B Z F H:Hp}{τ:DS}{σ:St}{i:Nat}{v:Option V}(R:RS K B Z F τ σ H)(vl:Vl τ):RS K B Z F (τ.set i none) (σ.set i v) H∧Vl (τ.set i none):=by
 have get:∀(j:Nat) (s:Sl),(τ.set i none)[j]?=some (some s)→i≠j∧τ[j]?=some (some s):=fun j s h=>by
  by_cases z:i=j
  ·subst z
   rw[getElem?_set] at h
   simp only[if_true] at h
   split at h <;> cases h
  ·rw[getElem?_set_ne z] at h;exact⟨z,h⟩
 have vl':Vl (τ.set i none):=fun j s h=>vl j s (get j s h).2
 have own:∀(j:Nat) ds,(τ.set i none)[j]?≠some (some (.own ds)):=fun j ds h=>by obtain⟨d,e⟩:=vl' j _ h;cases e
 have obj:∀(j n:Nat) c fs,(τ.set i none)[j]?≠some (some (.obj n c fs)):=fun j n c fs h=>by obtain⟨d,e⟩:=vl' j _ h;cases e
 have obr:∀(j:Nat) c fs,(τ.set i none)[j]?≠some (some (.obr c fs)):=fun j c fs h=>by obtain⟨d,e⟩:=vl' j _ h;cases e
 refine⟨⟨⟨R.rv.fh,by rw[length_set,length_set];exact R.rv.len,fun j d h=>?_,fun j ds h=>absurd h (own j ds),fun j k ds es a _ h=>absurd h (own j ds),R.rv.tt,ObsOk.none vl'.noObj⟩,R.bh,R.zf,R.nb,fun j ds a h=>absurd h (own j ds),fun j n c fs a h=>absurd h (obj j n c fs),fun a0 dx _ _ j n c fs h=>absurd h (obj j _ c fs),fun j c fs a h=>absurd h (obr j c fs)⟩,vl'⟩
 obtain⟨ne,e⟩:=get j _ h
 obtain⟨w,h1,h2⟩:=R.rv.val j d e
 exact⟨w,by rw[getElem?_set_ne ne];exact h1,h2⟩
section
variable{X:Cx}{i r:Nat}{x y c:Str}{iter elt:Expr}{fi:FA}{body:List Stmt}{scope:Scope}{yp tp dp a1 fp rp cpos cp sp p1 p2 kp:Pos}{kk:Nat}
theorem JB(hN:X.N.Nodup)(hc:X.calm=true)(hp:PassesOwn (model X.prog X.w) X.A X.env X.xe)
  (hy:X.N[i]?=some y) (hly:Loc X.env.scope y) (hx:X.N[r]?=some x) (hlx:Loc X.env.scope x)
  (hi:PDI X (.Name x tp) iter fi) (hb:PSs X body (tTB X i (ix0 r) (ix1 r)))
  (hbo:vS X.env.scope scope=true) (hfr:FreeOk scope X.N [y] [i])
  (hso:PE X elt (VI i)) (hg:∀s H C fp,PG (X.comp scope ([c]++[y]) s H C fp) (.Name c cp) (jG 0)) {e2:Expr} (he:∀s H C fp,PE (X.comp scope ([c]++[y]) s H C fp) e2 teT)
  (hsw:swapsWith (.Dict [] [] dp) (some (.Name y yp)) a1.line X.env=pure false:=by rfl) (hfy:X.fn y=true∨X.env.scope.names.lookup y=some .local:=by first|exact .inl rfl|exact .inr rfl|assumption)
  (hfx:X.fn x=true∨X.env.scope.names.lookup x=some .local:=by first|exact .inl rfl|exact .inr rfl|assumption) (hs:∀x,foldedSetIterable iter X.env x=pure x:=by intro _;rfl) (hs2:∀x,foldedSetIterable elt X.env x=pure x:=by intro _;rfl) :
  YS X [.Assign [.Name y yp] (.Dict [] [] dp) a1,.For (.Name x tp) iter body [] fp,.Return (some (.ListComp e2 [⟨.Name c cp,elt,[],0⟩] scope cpos)) rp] (Xi i r fi):=
 PSs.imp (jm (VR (i:=i) hN hy hly Q0 hsw hfy) (jm (ps_tf (r:=r) hp hc hi hN hx hlx hb hfx hs)
  (ZP (VS (PE.imp (UL (s0:=vd [c].length [i]) (wc hbo) hc (fun σ _=>by simp[vd]) (jk (tn:=[c]) hfr) (MS hso) hg (fun s H C fp=>UF) he hs2) TX))))) fun E σ H h=>by
  obtain⟨B,Z,F,τ,R,h⟩:=h
  unfold Xi at h
  by_cases z:vlB τ=true∧r<τ.length∧i<τ.length∧r≠i
  ·rw[if_pos z] at h
   obtain⟨z1,z2,z3,z4⟩:=z
   have vl:=Lu z1
   intro p hp'
   have bp:B p=none:=X9 R.bh hp'
   have fp':F p=none:=Gd R.rv.fh hp'
   obtain⟨R1,v1⟩:=RS.drop (i:=i) (v:=some (.ref p)) (RS.free (o:=.dK []) R vl bp fp' (.inl hp')) vl
   cases q:fi (τ.set i none) with
   |no=>rw[q] at h;exact h.elim
   |ex c=>rw[q] at h;exact h.elim
   |ok ds=>
    rw[q] at h
    dsimp only at h
    cases q2:Zp ds with
    |none=>rw[q2] at h;exact h.elim
    |some rows=>
     rw[q2] at h
     have ed:=QH q2
     subst ed
     by_cases z5:rows.length<64
     ·simp only[if_pos z5] at h
      have gl:=(Zi rows rows.length).1
      rw[List.take_length] at gl
      refine⟨B,Z,F,τ.set i none,p,rows,R1,v1,⟨?_,bp,fp',zt,rfl,List.nodup_nil,List.nodup_nil,fun j l g e=>by simp at e⟩,by rw[length_set];exact z2,z4,q,by omega,fun σ' F' H' τ' ls ff R' v' D'=>?_⟩
      ·rw[getElem?_set_self (by rw[← R.rv.len];exact z3)]
      ·exact⟨B,Z,F',τ',grp rows,p,ls,R',v',D',by omega,fun v F'' H'' x' rep=>h v F'' H'' x' rep⟩
     ·simp only[if_neg z5] at h;exact h.elim
  ·rw[if_neg z] at h;exact h.elim
end
section
variable{τ:DS}{fa fb fc fe fi:FE}{fs:FA}{op:D→D→Rs D}{d x y:D}{i j k:Int}{n m:Nat}
def getV:Option (Option Sl)→Rs D
 | some (some (.val d))=>.ok d
 |_=>.no
def Vj:Option (Option Sl)→Rs (List D)
 | some (some (.own d))=>.ok d
 |_=>.no
@[simp] theorem zx:getV (some (some (.val d)))=.ok d:=rfl
@[simp] theorem y3{ds:List D}:Vj (some (some (.own ds)))=.ok ds:=rfl
theorem zB:zd n τ=getV τ[n]?:=rfl
theorem wz:uJ τ n=Vj τ[n]?:=rfl
theorem yL:eC d τ=.ok d:=rfl
theorem ye:eOp op fa fb τ=(fa τ).bind fun x=>(fb τ).bind fun y=>op x y:=rfl
theorem zJ:zh τ=.ok []:=rfl
theorem zu:za fa fs τ=(fa τ).bind fun x=>(fs τ).bind fun r=>.ok (x::r):=rfl
theorem ZX:xP fs τ=(fs τ).bind fun ds=>if ds.length≤sizeLine then .ok (.lst ds) else .no:=rfl
theorem Jc:wa fs τ=(fs τ).bind fun ds=>if ds.length≤sizeLine then .ok (.tup ds) else .no:=rfl
theorem yv{g:List D→Rs D}:zo g fs τ=(fs τ).bind fun ds=>Tb (g ds):=rfl
theorem wb{g:List D→Rs D}:yk g fs τ=(fs τ).bind g:=rfl
theorem GW{g:FT}:eIf g fa fb τ=(g τ).bind fun b=>if b=true then fa τ else fb τ:=rfl
theorem TU:zd2 fa fb τ=(fa τ).bind fun x=>(jT x).bind fun b=>if b=true then fb τ else .ok x:=rfl
theorem GV:eOr fa fb τ=(fa τ).bind fun x=>(jT x).bind fun b=>if b=true then .ok x else fb τ:=rfl
def boolOf:D→Rs Bool
 |.bl b=>.ok b
 |_=>.no
@[simp] theorem zR{b:Bool}:boolOf (.bl b)=.ok b:=rfl
theorem xE:FD.tB fe τ=(fe τ).bind boolOf:=rfl
theorem wK:jh fe τ=(fe τ).bind jT:=rfl
theorem vg{f g:FT}:ji f g τ=(f τ).bind fun b=>if b=true then g τ else .ok false:=rfl
theorem vI{f g:FT}:jV f g τ=(f τ).bind fun b=>if b=true then .ok true else g τ:=rfl
theorem Mn{f:FT}:Wx f τ=(f τ).bind fun b=>.ok (!b):=rfl
theorem Je{T:String}{g:D→List D→Rs D}:Uf T g fa τ=(fa τ).bind fun d=>if Y5 T d=true then g d [] else .no:=rfl
theorem Ud{fl fh:FO}:eSl fe fl fh τ=(fe τ).bind fun d=>(fl τ).bind fun l=>(fh τ).bind fun u=>slD d l u:=rfl
def UA:D→Rs (Option Int)
 |.int i=>.ok (some i)
 |_=>.no
@[simp] theorem WD:UA (.int i)=.ok (some i):=rfl
theorem WV:wT fe τ=(fe τ).bind UA:=rfl
def Fl.thn(r:Fl)(g:FS):Fl:=match r with
 |.nx τ=>g τ
 |r=>r
@[simp] theorem yi{g:FS}:(Fl.nx τ).thn g=g τ:=rfl
@[simp] theorem jU{g:FS}:(Fl.rt d).thn g=.rt d:=rfl
theorem zM{f g:FS}:zA f g τ=(f τ).thn g:=rfl
theorem z8:yo n fe τ=Fl.of (fe τ) fun d=>.nx (τ.set n (some (.val d))):=rfl
theorem ww:vy n fs τ=Fl.of (fs τ) fun ds=>.nx (τ.set n (some (.own ds))):=rfl
theorem yw{g:FT}{f h:FS}:sIf g f h τ=Fl.of (g τ) fun b=>if b=true then f τ else h τ:=rfl
theorem zZ:yG fe τ=Fl.of (fe τ) fun d=>.rt d:=rfl
theorem wx:vV n τ=Fl.of (uJ τ n) fun ds=>.rt (.lst ds):=rfl
theorem zW:yg τ=.nx τ:=rfl
theorem wL{set:FG}{body:FS}:vz fs set body τ=Fl.of (fs τ) fun ds=>yK set body ds τ:=rfl
@[simp] theorem zK:YD (.rt d)=.ok d:=rfl
@[simp] theorem xx:Tb (.ok d)=.ok d:=rfl
@[simp] theorem xO:zQ (.int i) (.int j)=.ok (.int (i+j)):=rfl
theorem Uo{a b:Str}(h:a.length+b.length≤sizeLine):zQ (.str a) (.str b)=.ok (.str (a++b)):=if_pos h
@[simp] theorem vq:uP (.int i) (.int j)=.ok (.int (i-j)):=rfl
theorem v9(h:(-(18446744073709551616)<i∧i<18446744073709551616)∨(-(18446744073709551616)<j∧j<18446744073709551616)):ua (.int i) (.int j)=.ok (.int (i*j)):=if_pos h
theorem Yo(h:0<j):Wc (.int i) (.int j)=.ok (.int (i%j)):=by
 show(if decide (0<j)=true then _ else _)=_
 rw[if_pos (by simpa using h)]
theorem ZV(h:0<j∧j<1073741824):YG (.int i) (.int j)=.ok (.int (i / j)):=by
 show(if decide (0<j∧j<1073741824)=true then _ else _)=_
 rw[if_pos (by simpa using h)]
@[simp] theorem UV:ltI (.int i) (.int j)=.ok (.bl (decide (i<j))):=rfl
@[simp] theorem U9:gtD (.int i) (.int j)=.ok (.bl (decide (j<i))):=rfl
@[simp] theorem geD_i:geD (.int i) (.int j)=.ok (.bl (decide (j≤i))):=rfl
@[simp] theorem vD:eqD (.int i) (.int j)=.ok (.bl (i==j)):=rfl
@[simp] theorem GT{a b:Str}:eqD (.str a) (.str b)=.ok (.bl (a==b)):=rfl
@[simp] theorem Lg:neD (.int i) (.int j)=.ok (.bl (!(i==j))):=rfl
@[simp] theorem YA{a b:Str}:inD (.str a) (.str b)=.ok (.bl (Wz a b)):=rfl
theorem wj(c:Nat)(x:Str):Wz ⟨#[c]⟩ x=decide (c∈x.cps.toList):=StrLaws.found_one x c
@[simp] theorem Gu{ns:List Int}:y7 [.scr ns]=.ok (.int ns.length):=rfl
@[simp] theorem ud{ds:List D}:y7 [.lst ds]=.ok (.int ds.length):=rfl
theorem W5{a:Str}(h:a.length≤sizeLine):y7 [.str a]=.ok (.int a.length):=if_pos h
theorem Ty{ns:List Int}{a:Int}(h:atI ns k=some a):ixD (.scr ns) (.int k)=.ok (.int a):=by
 show(match atI ns k with|some d=>Rs.ok (D.int d) | none=>.no)=_
 rw[h]
theorem Wf{ds:List D}{a:D}(h:atI ds k=some a):ixD (.lst ds) (.int k)=.ok a:=by
 show(match atI ds k with|some d=>Rs.ok d|none=>.no)=_
 rw[h]
theorem ZT{a:Str}{c:Nat}(h:atI a.cps.toList k=some c)(hz:a.length≤sizeLine):ixD (.str a) (.int k)=.ok (yf c):=by
 show(match atI a.cps.toList k with|some c=>if a.length≤sizeLine then Rs.ok (D.str ⟨#[c]⟩) else .no|none=>.no)=_
 rw[h]
 exact if_pos hz
theorem YR{α:Type}{xs:List α}{a:α}(h0:0≤k)(h:xs[k.toNat]?=some a):atI xs k=some a:=by
 have:=Wo (j:=k.toNat) h
 rwa [Int.toNat_of_nonneg h0] at this
@[simp] theorem vG{b:Bool}:jT (.bl b)=.ok b:=rfl
theorem Qq{a:Str}(h:a.length≤sizeLine):jT (.str a)=.ok ((a.length:Int) != 0):=if_pos h
theorem z9{b:FS}{ds:List D}:xw n b ds=YD (b (zV n ds)):=rfl
end
theorem Ua(l:List PyData):PyData.eqvAll l []=l.isEmpty:=by cases l <;> simp[PyData.eqvAll]
theorem M8(ns:List Int):okD (.scr ns)=true:=by
 have c:∀l:List Int,PyData.canLayAll0 (l.map PyData.int)=true:=fun l=>by
  induction l with
  |nil=>rfl
  |cons a r ih=>simp[PyData.canLayAll0,PyData.canLay0,ih]
 have d:∀l:List Int,PyData.depthAll (l.map PyData.int)=0:=fun l=>by
  induction l with
  |nil=>rfl
  |cons a r ih=>simp[PyData.depthAll,PyData.depth,ih]
 simp[okD,xj,yB,PyData.canLay0,PyData.depth,c,d]
theorem Vr(ns:List Int):eqD (.scr ns) (.lst [])=.ok (.bl ns.isEmpty):=by
 have o2:okD (.lst [])=true:=by decide
 have:wF (.scr ns) (.lst [])=ns.isEmpty:=by
  simp only[wF,yB,toPys,PyData.eqv,Ua]
  cases ns <;> rfl
 simp only[eqD,M8,o2,this,and_self,if_true]
end FD
set_option Elab.async false
set_option linter.all false
set_option maxRecDepth 100000
namespace Law
open PySem PySem.Spec PyProof.Rows L2 FD
instance tabs:FD.Tabs:=⟨[(126,83,28,("in_order" : Str) ++ ".<locals>." ++ "<lambda>")],fun c f=>false⟩
def ZC:FS:=(zA (sIf (tB (eOp eqD (zd 0) (xP zh))) (yG (eOp ua (eC (.int 7)) (zd 1))) yg)
  (yG (eOp zQ (eOp ixD (zd 0) (eOp Wc (zd 1) (yk y7 (za (zd 0) zh)))) (eOp ua (eC (.int 6553)) (eOp YG (zd 1) (yk y7 (za (zd 0) zh)))))))
def xX(ds:List D):Rs D:=xw 2 ZC ds
def jP:FS:=(zA (yo 3 (eOp Wc (eOp zQ (eOp ua (eOp Wc (zo xX (za (zd 0) (za (zd 1) zh))) (eC (.int 2147483563))) (eC (.int 69069))) (eOp ua (eC (.int 104723)) (eOp zQ (zd 1) (eC (.int 1))))) (eC (.int 2147483563))))
  (zA (yo 3 (eOp Wc (eOp zQ (eOp ua (zd 3) (zd 3)) (eOp YG (zd 3) (eC (.int 3)))) (eC (.int 2147483399))))
  (yG (eOp Wc (eOp YG (eOp Wc (eOp zQ (eOp ua (zd 3) (zd 3)) (eOp YG (zd 3) (eC (.int 7)))) (eC (.int 2147483647))) (eC (.int 11))) (zd 2)))))
def zq(ds:List D):Rs D:=xw 4 jP ds
def ZA:FS:=(zA (yo 2 (eC (.str "")))
  (zA (vz (ve (za (eOp zQ (eC (.int 1)) (zo zq (za (zd 0) (za (zd 1) (za (eC (.int 10)) zh))))) zh)) (gNm 3) (yo 2 (eOp zQ (zd 2) (eOp ixD (eC (.str "abcabABCab1_-./xyz")) (zo zq (za (zd 0) (za (eOp zQ (eOp zQ (zd 1) (eC (.int 1))) (zd 3)) (za (eC (.int 18)) zh))))))))
  (yG (zd 2))))
def yE(ds:List D):Rs D:=xw 4 ZA ds
def vU:FS:=(zA (vy 3 (yu 1 [0,1] (ve (za (zo zq (za (zd 0) (za (zd 1) (za (eOp zQ (zd 2) (eC (.int 1))) zh)))) zh)) (gNm 0) (fun _=>.ok true) (zo yE (za (zd 1) (za (eOp zQ (eOp zQ (zd 2) (eC (.int 1))) (eOp ua (eC (.int 12)) (zd 0))) zh)))))
  (zA (sIf (ji (tB (eOp gtD (jM 3) (eC (.int 1)))) (tB (eOp eqD (zo zq (za (zd 0) (za (eOp zQ (zd 1) (eC (.int 12))) (za (eC (.int 5)) zh)))) (eC (.int 0))))) (Jw 3 (eC (.int 0)) (Qa 3 (wA (eC (.int 1))))) yg)
  (vV 3)))
def xA(ds:List D):Rs D:=xw 4 vU ds
def ZB:FS:=(yG (eOp inD (zd 0) (eC (.str "_-./"))))
def xm(ds:List D):Rs D:=xw 1 ZB ds
def jO:FS:=(zA (yo 4 (eC (.str "")))
  (zA (yo 5 (eC (.int 0)))
  (zA (vz (ve (za (zo zq (za (zd 0) (za (zd 1) (za (eOp zQ (zd 3) (eC (.int 1))) zh)))) zh)) (gNm 6) (zA (yo 5 (yk jy (za (eOp uP (yk y7 (za (zd 2) zh)) (eC (.int 1))) (za (eOp zQ (zd 5) (zo zq (za (zd 0) (za (eOp zQ (eOp zQ (zd 1) (eC (.int 1))) (eOp ua (eC (.int 3)) (zd 6))) (za (eC (.int 3)) zh))))) zh))))
  (zA (yo 7 (Uf "str" loD (eOr (eSl (zd 2) (wT (zd 5)) (wT (eOp zQ (zd 5) (eC (.int 1))))) (eC (.str "a")))))
  (zA (yo 5 (eOp zQ (zd 5) (eC (.int 1))))
  (zA (sIf (tB (eOp eqD (zo zq (za (zd 0) (za (eOp zQ (eOp zQ (zd 1) (eC (.int 2))) (eOp ua (eC (.int 3)) (zd 6))) (za (eC (.int 5)) zh)))) (eC (.int 0)))) (yo 7 (eOp ixD (eC (.str "abAB1c")) (zo zq (za (zd 0) (za (eOp zQ (eOp zQ (zd 1) (eC (.int 3))) (eOp ua (eC (.int 3)) (zd 6))) (za (eC (.int 6)) zh)))))) yg)
  (sIf (Wx (jh (zo xm (za (zd 7) zh)))) (yo 4 (eOp zQ (zd 4) (zd 7))) yg))))))
  (yG (zd 4)))))
def xz(ds:List D):Rs D:=xw 8 jO ds
def jc:FS:=(yG (YJ [0] (zd 1) (wa (za (wA (eOp ixD (zd 0) (eC (.int 0)))) (za (yk y7 (za (eOp ixD (zd 1) (eOp ixD (zd 0) (eC (.int 1)))) zh)) (za (eOp ixD (zd 0) (eC (.int 1))) zh))))))
def yZ(ds:List D):Rs D:=xw 2 jc ds
def vT:FS:=(yG (eSl (zo yZ (za (zd 0) (za (zd 1) zh))) jw (wT (yk Yq (za (zd 2) (za (eC (.int 0)) zh))))))
def y8(ds:List D):Rs D:=xw 3 vT ds
def vb:FS:=(zA (sIf (tB (eOp eqD (zd 1) (eC (.int 0)))) (yG (eC (.int 8))) yg)
  (zA (yo 2 (eOp ixD (zd 0) (eOp uP (zd 1) (eC (.int 1)))))
  (zA (sIf (tB (eOp inD (zd 2) (eC (.str "_-./")))) (yG (eC (.int 6))) yg)
  (zA (sIf (ji (tB (eOp inD (eOp ixD (zd 0) (zd 1)) (eC (.str "ABCDEFGHIJKLMNOPQRSTUVWXYZ")))) (jV (tB (eOp inD (zd 2) (eC (.str "abcdefghijklmnopqrstuvwxyz")))) (tB (eOp inD (zd 2) (eC (.str "0123456789")))))) (yG (eC (.int 5))) yg)
  (yG (eC (.int 0)))))))
def yA(ds:List D):Rs D:=xw 3 vb ds
def jN:FS:=(zA (yo 3 (eIf (tB (eOp eqD (eOp ixD (zd 1) (zd 2)) (zd 0))) (eC (.int 1)) (eC (.int 0))))
  (yG (eOp zQ (eOp zQ (eC (.int 10)) (zo yA (za (zd 1) (za (zd 2) zh)))) (zd 3))))
def yt(ds:List D):Rs D:=xw 4 jN ds
def Jk:FS:=(yG (eOr (eOp eqD (zd 0) (zd 1)) (zd2 (eOp inD (zd 0) (eC (.str "abcdefghijklmnopqrstuvwxyz"))) (eOp eqD (Uf "str" upD (zd 0)) (zd 1)))))
def xD(ds:List D):Rs D:=xw 2 Jk ds
def vo:FS:=(yG (fun τ=>((yu 1 [0,1] (ve (za (yk y7 (za (zd 1) zh)) zh)) (gNm 0) (jh (zo xD (za (zd 1) (za (eOp ixD (zd 2) (zd 0)) zh)))) (wa (za (zo yt (za (zd 1) (za (zd 2) (za (zd 0) zh)))) (za (xP (za (zd 0) zh)) zh)))) τ).bind fun ds=>.ok (.lst ds)))
def yh(ds:List D):Rs D:=xw 2 vo ds
def vY:FS:=(zA (yo 1 (eC .non))
  (zA (vz (xl (zd 0)) (gNm 2) (sIf (jV (tB (eOp isD (zd 1) (eC .non))) (tB (eOp gtD (eOp ixD (zd 2) (eC (.int 0))) (eOp ixD (zd 1) (eC (.int 0)))))) (yo 1 (zd 2)) yg))
  (yG (zd 1))))
def zO(ds:List D):Rs D:=xw 3 vY ds
def uN:FS:=(zA (yo 2 (eOp uP (eOp uP (zd 1) (zd 0)) (eC (.int 1))))
  (zA (sIf (tB (eOp eqD (zd 2) (eC (.int 0)))) (yG (eC (.int 7))) yg)
  (yG (wA (yk jy (za (zd 2) (za (eC (.int 5)) zh)))))))
def xg(ds:List D):Rs D:=xw 3 uN ds
def um:FS:=(yG (fun τ=>((yu 1 [0] (xl (zd 1)) (gNm 0) (tB (eOp gtD (eOp ixD (eOp ixD (zd 0) (eC (.int 1))) (eC (.int 0))) (zd 1))) (wa (za (eOp zQ (eOp ixD (zd 0) (eC (.int 0))) (zo xg (za (zd 1) (za (eOp ixD (eOp ixD (zd 0) (eC (.int 1))) (eC (.int 0))) zh)))) (za (eOp ixD (zd 0) (eC (.int 1))) zh)))) τ).bind fun ds=>.ok (.lst ds)))
def yC(ds:List D):Rs D:=xw 2 um ds
def wY:FS:=(zA (vy 3 (fun τ=>(zh τ).bind fun ds=>if ds.length≤sizeLine then .ok ds else .no))
  (zA (vz (ve (za (yk y7 (za (zd 1) zh)) zh)) (gNm 4) (sIf (jh (zo xD (za (zd 0) (za (eOp ixD (zd 1) (zd 4)) zh)))) (zA (yo 5 (zo zO (za (zo yC (za (zd 4) (za (zd 2) zh))) zh)))
  (sIf (tB (eOp vR (zd 5) (eC .non))) (YW 3 (wa (za (eOp zQ (zo yt (za (zd 0) (za (zd 1) (za (zd 4) zh)))) (eOp ixD (zd 5) (eC (.int 0)))) (za (eOp zQ (xP (za (zd 4) zh)) (eOp ixD (zd 5) (eC (.int 1)))) zh)))) yg)) yg))
  (vV 3)))
def yY(ds:List D):Rs D:=xw 6 wY ds
def uO:FS:=(yG (wA (yk jy (za (zd 0) (za (eC (.int 3)) zh)))))
def yR(ds:List D):Rs D:=xw 1 uO ds
def Uk:FS:=(zA (sIf (tB (eOp eqD (yk y7 (za (zd 0) zh)) (eC (.int 0)))) (yG (wa (za (eC (.int 0)) (za (xP zh) zh)))) yg)
  (zA (yo 2 (zo yh (za (eOp ixD (zd 0) (wA (eC (.int 1)))) (za (zd 1) zh))))
  (zA (vz (J5 (za (eOp uP (yk y7 (za (zd 0) zh)) (eC (.int 2))) (za (wA (eC (.int 1))) (za (wA (eC (.int 1))) zh)))) (gNm 3) (yo 2 (zo yY (za (eOp ixD (zd 0) (zd 3)) (za (zd 1) (za (zd 2) zh))))))
  (yG (zo zO (za (fun τ=>((yu 1 [] (xl (zd 2)) (gNm 0) (fun _=>.ok true) (wa (za (eOp zQ (eOp ixD (zd 0) (eC (.int 0))) (zo yR (za (eOp ixD (eOp ixD (zd 0) (eC (.int 1))) (eC (.int 0))) zh))) (za (eOp ixD (zd 0) (eC (.int 1))) zh)))) τ).bind fun ds=>.ok (.lst ds)) zh))))))
def x8(ds:List D):Rs D:=xw 4 Uk ds
def wZ:FS:=(zA (vy 3 (fun τ=>(zh τ).bind fun ds=>if ds.length≤sizeLine then .ok ds else .no))
  (zA (vz (xl (zd 2)) (gNm 4) (zA (yo 5 (zo x8 (za (zd 1) (za (eOp ixD (zd 0) (zd 4)) zh))))
  (sIf (tB (eOp vR (zd 5) (eC .non))) (YW 3 (wa (za (eOp ixD (zd 5) (eC (.int 0))) (za (zd 4) zh)))) yg)))
  (vV 3)))
def yD(ds:List D):Rs D:=xw 6 wZ ds
def jd:FS:=(yG (zo yD (za (zd 0) (za (zd 1) (za (fun τ=>((W0 (ve (za (yk y7 (za (zd 0) zh)) zh))) τ).bind fun ds=>.ok (.lst ds)) zh)))))
def yn(ds:List D):Rs D:=xw 2 jd ds
def Wn:FS:=(yG (zo y8 (za (zd 0) (za (zo yn (za (zd 0) (za (zd 1) zh))) (za (zd 2) zh)))))
def xh(ds:List D):Rs D:=xw 3 Wn ds
def Uj:FS:=(Xi 2 3 (xl (zo yn (za (zd 0) (za (zd 1) zh)))))
def ub(ds:List D):Rs D:=xw 4 Uj ds
def vp:FS:=(zA (vy 2 (fun τ=>(zh τ).bind fun ds=>if ds.length≤sizeLine then .ok ds else .no))
  (zA (vz (ve (za (yk y7 (za (zd 1) zh)) zh)) (gNm 3) (sIf (ji (tB (eOp ltI (jM 2) (yk y7 (za (zd 0) zh)))) (jh (zo xD (za (eOp ixD (zd 0) (jM 2)) (za (eOp ixD (zd 1) (zd 3)) zh))))) (YW 2 (zd 3)) yg))
  (vV 2)))
def yJ(ds:List D):Rs D:=xw 4 vp ds
def G8:FS:=(yG (eOp eqD (yk y7 (za (zo yJ (za (zd 0) (za (zd 1) zh))) zh)) (yk y7 (za (zd 0) zh))))
def u0(ds:List D):Rs D:=xw 2 G8 ds
def va:FS:=(sIf (jV (tB (eOp ltI (zd 1) (eC (.int 0)))) (tB (eOp geD (zd 1) (yk y7 (za (zd 0) zh))))) sNo yg)
def y0(ds:List D):Rs D:=xw 2 va ds
def Zn:FS:=(zA (Xj (zo y0 (za (zd 0) (za (zd 2) zh))))
  (zA (vz (iEn (za (zo yZ (za (zd 0) (za (zo yn (za (zd 0) (za (zd 1) zh))) zh))) zh)) (gPr 3 4) (sIf (tB (eOp eqD (eOp ixD (zd 4) (eC (.int 1))) (zd 2))) (yG (zd 3)) yg))
  (yG (eC .non))))
def xW(ds:List D):Rs D:=xw 5 Zn ds
def G7:FS:=(zA (yo 1 (zo xA (za (zd 0) (za (eC (.int 0)) (za (eC (.int 5)) zh)))))
  (zA (yo 2 (zo xz (za (zd 0) (za (eC (.int 80)) (za (eOp ixD (eOp zQ (zd 1) (xP (za (eC (.str "abc")) zh))) (zo zq (za (zd 0) (za (eC (.int 79)) (za (eOp zQ (yk y7 (za (zd 1) zh)) (eC (.int 1))) zh))))) (za (eC (.int 3)) zh))))))
  (zA (yo 3 (zo xh (za (zd 1) (za (zd 2) (za (eC (.int 99)) zh)))))
  (zA (yo 4 (fun τ=>((yu 1 [] (xl (zd 3)) (gNm 0) (fun _=>.ok true) (eOp ixD (zd 0) (eC (.int 1)))) τ).bind fun ds=>.ok (.lst ds)))
  (zA (sIf (tB (eOp neD (yk YT (za (zd 4) zh)) (fun τ=>((yu 2 [2] (iEn (za (zd 1) zh)) (gPr 0 1) (jh (zo u0 (za (zd 2) (za (zd 1) zh)))) (zd 0)) τ).bind fun ds=>.ok (.lst ds)))) (yG (eC (.bl false))) yg)
  (zA (sIf (tB (eOp neD (fun τ=>((yu 1 [2,1] (xl (zd 3)) (gNm 0) (tB (eOp neD (eOp ixD (zo x8 (za (zd 1) (za (eOp ixD (zd 2) (eOp ixD (zd 0) (eC (.int 1)))) zh))) (eC (.int 0))) (eOp ixD (zd 0) (eC (.int 0))))) (zd 0)) τ).bind fun ds=>.ok (.lst ds)) (xP zh))) (yG (eC (.bl false))) yg)
  (zA (sIf (tB (eOp neD (fun τ=>((yu 1 [] (xl (zd 3)) (gNm 0) (fun _=>.ok true) (eOp ixD (zd 0) (eC (.int 0)))) τ).bind fun ds=>.ok (.lst ds)) (Ue (yk YT (za (fun τ=>((yu 1 [] (xl (zd 3)) (gNm 0) (fun _=>.ok true) (eOp ixD (zd 0) (eC (.int 0)))) τ).bind fun ds=>.ok (.lst ds)) zh))))) (yG (eC (.bl false))) yg)
  (zA (sIf (tB (eOp neD (fun τ=>((yu 1 [1,2,3] (ve (za (eC (.int 7)) zh)) (gNm 0) (tB (eOp neD (zo xh (za (zd 1) (za (zd 2) (za (zd 0) zh)))) (eSl (zd 3) jw (wT (zd 0))))) (zd 0)) τ).bind fun ds=>.ok (.lst ds)) (xP zh))) (yG (eC (.bl false))) yg)
  (zA (yo 5 fun τ=>((yu 1 [] (xl (zo xh (za (zd 1) (za (eOp zQ (zd 2) (eOp ixD (eC (.str "abc1B")) (zo zq (za (zd 0) (za (eC (.int 95)) (za (eC (.int 5)) zh)))))) (za (eC (.int 99)) zh))))) (gNm 0) (fun _=>.ok true) (eOp ixD (zd 0) (eC (.int 1)))) τ).bind fun ds=>.ok (.lst ds))
  (zA (sIf (tB (eOp neD (fun τ=>((yu 1 [4] (xl (zd 5)) (gNm 0) (tB (eOp j8 (zd 0) (zd 1))) (zd 0)) τ).bind fun ds=>.ok (.lst ds)) (xP zh))) (yG (eC (.bl false))) yg)
  (zA (yo 6 fun τ=>((yu 1 [] (xl (zo xh (za (eOp zQ (zd 1) (xP (za (zo yE (za (zd 0) (za (eC (.int 96)) zh))) zh))) (za (zd 2) (za (eC (.int 99)) zh))))) (gNm 0) (fun _=>.ok true) (eOp ixD (zd 0) (eC (.int 1)))) τ).bind fun ds=>.ok (.lst ds))
  (zA (sIf (tB (eOp neD (fun τ=>((yu 1 [1] (xl (zd 6)) (gNm 0) (tB (eOp ltI (zd 0) (yk y7 (za (zd 1) zh)))) (zd 0)) τ).bind fun ds=>.ok (.lst ds)) (zd 4))) (yG (eC (.bl false))) yg)
  (zA (sIf (tB (eOp neD (fun τ=>((yu 1 [4,1,2] (xl (zd 4)) (gNm 0) (tB (eOp neD (eOp ixD (zd 1) (zo xW (za (zd 2) (za (zd 3) (za (zd 0) zh))))) (zd 0))) (zd 0)) τ).bind fun ds=>.ok (.lst ds)) (xP zh))) (yG (eC (.bl false))) yg)
  (zA (yo 7 (zo ub (za (zd 1) (za (zd 2) zh))))
  (zA (yo 8 (xP zh))
  (zA (vz (xl (zd 7)) (gPr 9 10) (yo 8 (eOp zQ (zd 8) (fun τ=>((yu 1 [9] (xl (zd 10)) (gNm 0) (fun _=>.ok true) (wa (za (zd 1) (za (zd 0) zh)))) τ).bind fun ds=>.ok (.lst ds)))))
  (zA (yo 11 (fun τ=>(((za (fun τ=>((yu 1 [] (xl (zd 3)) (gNm 0) (fun _=>.ok true) (eOp ixD (zd 0) (eC (.int 0)))) τ).bind fun ds=>.ok (.lst ds)) zh) τ).bind WE).bind fun ds=>.ok (.lst ds)))
  (zA (sIf (jV (tB (eOp neD (yk vJ (za (zd 8) zh)) (yk vJ (za (zd 3) zh)))) (tB (eOp neD (fun τ=>((yu 2 [] (xl (zd 7)) (gPr 0 1) (fun _=>.ok true) (zd 0)) τ).bind fun ds=>.ok (.lst ds)) (Ue (zd 11))))) (yG (eC (.bl false))) yg)
  (zA (yo 12 fun τ=>((yu 2 [1] (xl (zd 3)) (gPr 0 1) (fun _=>.ok true) (wa (za (eOp uP (eC (.int 0)) (zd 0)) (za (yk y7 (za (eOp ixD (zd 2) (zd 1)) zh)) (za (zd 1) zh))))) τ).bind fun ds=>.ok (.lst ds))
  (yG (eOp eqD (zd 12) (yk vJ (za (zd 12) zh)))))))))))))))))))))))
def UT(ds:List D):Rs D:=xw 13 G7 ds
def Zz(ns:List Int)(k:Int):Int:=if ns=[] then 7*k else ns.getD (k%ns.length).toNat 0+6553*(k / ns.length)
theorem zT:sizeLine=16777216:=sizeLine_eq
theorem TY(ns:List Int)(k:Int)(h63:ns.length≤63)(h0:0≤k):xX [.scr ns,.int k]=.ok (.int (Zz ns k)):=by
 have st:zV 2 [D.scr ns,.int k]=[some (.val (.scr ns)),some (.val (.int k))]:=rfl
 unfold xX ZC
 rw[z9,st]
 simp only[zM,yw,xE,ye,zB,ZX,zJ,getElem?_cons_zero,zx,Rs.bind_ok,length_nil,zero_le,if_true,Vr,zR,Fl.of_ok]
 cases ns with
 |nil=>
  simp only[List.isEmpty_nil,if_true,zZ,ye,yL,zB,getElem?_cons_zero,getElem?_cons_succ,zx,Rs.bind_ok,v9 (i:=7) (j:=k) (.inl ⟨by decide,by decide⟩),Fl.of_ok,jU,zK,Zz]
 |cons a r=>
  have hl:(0:Int)<((a::r).length:Int):=by simp only[length_cons];omega
  have hm0:=emod_nonneg k (show((a::r).length:Int)≠0 by omega)
  have hm1:=Int.emod_lt_of_pos k hl
  have hat:atI (a::r) (k%((a::r).length:Int))=some ((a::r).getD (k%((a::r).length:Int)).toNat 0):=by
   refine YR hm0 ?_
   have:(k%((a::r).length:Int)).toNat<(a::r).length:=by omega
   rw[getD_eq_getElem?_getD,getElem?_eq_getElem this];rfl
  have hdv:YG (.int k) (.int ((a::r).length:Int))=.ok (.int (k / ((a::r).length:Int))):=ZV ⟨hl,by omega⟩
  have hmd:Wc (.int k) (.int ((a::r).length:Int))=.ok (.int (k%((a::r).length:Int))):=Yo hl
  have hml:=v9 (i:=6553) (j:=k / ((a::r).length:Int)) (.inl ⟨by decide,by decide⟩)
  simp only[List.isEmpty_cons,Bool.false_eq_true,if_false,zW,yi,zZ,ye,yL,zB,wb,zu,zJ,getElem?_cons_zero,getElem?_cons_succ,zx,Rs.bind_ok,Gu,hmd,hdv,hml,Ty hat,xO,Fl.of_ok,zK]
  simp[Zz]
def d1(ns:List Int)(k:Int):Int:=(Zz ns k%2147483563*69069+104723*(k+1))%2147483563
def d2(ns:List Int)(k:Int):Int:=(d1 ns k*d1 ns k+d1 ns k / 3)%2147483399
def xQ(ns:List Int)(k m:Int):Int:=(d2 ns k*d2 ns k+d2 ns k / 7)%2147483647 / 11%m
theorem wu(ns:List Int)(k m:Int)(h63:ns.length≤63)(h0:0≤k)(hk:k<1000000)(hm:0<m):zq [.scr ns,.int k,.int m]=.ok (.int (xQ ns k m)):=by
 have st:zV 4 [D.scr ns,.int k,.int m]=[some (.val (.scr ns)),some (.val (.int k)),some (.val (.int m)),none]:=rfl
 have b1:0≤d1 ns k∧d1 ns k<2147483563:=⟨emod_nonneg _ (by decide),Int.emod_lt_of_pos _ (by decide)⟩
 have b2:0≤d2 ns k∧d2 ns k<2147483399:=⟨emod_nonneg _ (by decide),Int.emod_lt_of_pos _ (by decide)⟩
 have c0:=Int.emod_lt_of_pos (Zz ns k) (show(0:Int)<2147483563 by decide)
 have c1:=emod_nonneg (Zz ns k) (show(2147483563:Int)≠0 by decide)
 have q1:=v9 (i:=Zz ns k%2147483563) (j:=69069) (.inr ⟨by decide,by decide⟩)
 have q2:=v9 (i:=104723) (j:=k+1) (.inl ⟨by decide,by decide⟩)
 have q3:=v9 (i:=d1 ns k) (j:=d1 ns k) (.inl ⟨by omega,by omega⟩)
 have q4:=v9 (i:=d2 ns k) (j:=d2 ns k) (.inl ⟨by omega,by omega⟩)
 have e1:(Zz ns k%2147483563*69069+104723*(k+1))%2147483563=d1 ns k:=rfl
 have e2:(d1 ns k*d1 ns k+d1 ns k / 3)%2147483399=d2 ns k:=rfl
 have m1:=fun i=>Yo (i:=i) (j:=2147483563) (by decide)
 have m2:=fun i=>Yo (i:=i) (j:=2147483399) (by decide)
 have m3:=fun i=>Yo (i:=i) (j:=2147483647) (by decide)
 have m4:=fun i=>Yo (i:=i) (j:=m) hm
 have f3:=fun i=>ZV (i:=i) (j:=3) ⟨by decide,by decide⟩
 have f7:=fun i=>ZV (i:=i) (j:=7) ⟨by decide,by decide⟩
 have f11:=fun i=>ZV (i:=i) (j:=11) ⟨by decide,by decide⟩
 unfold zq jP
 rw[z9,st]
 simp only[zM,z8,zZ,ye,zB,yL,yv,zu,zJ,getElem?_cons_zero,getElem?_cons_succ,zx,Rs.bind_ok,TY ns k h63 h0,xx,m1,q1,xO,q2,e1,Fl.of_ok,yi,set_cons_succ,set_cons_zero,q3,f3,m2,e2,q4,f7,m3,f11,m4,zK]
 rfl
theorem wv(ns:List Int)(k:Int){m:Int}(hm:0<m):0≤xQ ns k m∧xQ ns k m<m:=⟨emod_nonneg _ (by omega),Int.emod_lt_of_pos _ hm⟩
end Law
set_option Elab.async false
set_option linter.all false
namespace FD
open PySem PySem.Spec PyProof.Rows L2
theorem Xn{set:FG}{body:FS}(f:Nat→D)(S:Nat→DS):∀(m j:Nat),(∀k,j≤k→k<j+m→∃τ1,set (f k) (S k)=.ok τ1∧body τ1=.nx (S (k+1)))→yK set body ((List.range' j m).map f) (S j)=.nx (S (j+m))
 |0,j,_=>rfl
 |m+1,j,h=>by
  obtain⟨τ1,h1,h2⟩:=h j (le_refl _) (by omega)
  rw[range'_succ,map_cons,yK,h1,Fl.of_ok]
  simp only[h2]
  rw[Xn f S m (j+1) fun k hk hk2=>h k (by omega) (by omega)]
  congr 2;omega
theorem V2{set:FG}{body:FS}(f:Nat→D)(S:Nat→DS)(n:Nat)(h:∀k,k<n→∃τ1,set (f k) (S k)=.ok τ1∧body τ1=.nx (S (k+1))):yK set body ((List.range n).map f) (S 0)=.nx (S n):=by
 have:=Xn f S n 0 fun k _ hk=>h k (by omega)
 rw[zero_add] at this
 rwa [List.range_eq_range']
theorem XW{fs:FA}{τ:DS}{j:Int}(h:fs τ=.ok [.int j])(h1 : -(2 ^ 62)≤j)(h2:j<2 ^ 62):ve fs τ=.ok (uF 0 j.toNat):=by
 unfold ve
 rw[h]
 simp only[Rs.bind_ok,V7]
 rw[if_pos ⟨h1,h2⟩]
theorem Ux(a:List Nat)(c:Nat):(⟨a.toArray⟩:Str)++(⟨#[c]⟩:Str)=⟨(a++[c]).toArray⟩:=by
 show Str.mk _=_
 simp
theorem u8{n:Nat}{d:D}{τ:DS}:gNm n d τ=.ok (τ.set n (some (.val d))):=rfl
end FD
namespace Law
open PySem PySem.Spec PyProof.Rows L2 FD
def A18:List Nat:=[97,98,99,97,98,65,66,67,97,98,49,95,45,46,47,120,121,122]
def Yn(ns:List Int)(a:Int):Nat:=(1+xQ ns a 10).toNat
def Gk(ns:List Int)(a:Int)(k:Nat):Nat:=A18.getD (xQ ns (a+1+k) 18).toNat 0
def wV(ns:List Int)(a:Int)(n:Nat):List Nat:=(List.range n).map (Gk ns a)
theorem a18:("abcabABCab1_-./xyz" : Str).cps.toList=A18:=by decide +kernel
theorem US(ns:List Int)(a:Int)(h63:ns.length≤63)(h0:0≤a)(ha:a<900000):yE [.scr ns,.int a]=.ok (.str ⟨(wV ns a (Yn ns a)).toArray⟩):=by
 have st:zV 4 [D.scr ns,.int a]=[some (.val (.scr ns)),some (.val (.int a)),none,none]:=rfl
 have dl:=wv ns a (m:=10) (by decide)
 unfold yE ZA
 rw[z9,st,zM,z8,yL,Fl.of_ok,yi,zM,wL]
 have r1:=XW (fs:=za (eOp zQ (eC (.int 1)) (zo zq (za (zd 0) (za (zd 1) (za (eC (.int 10)) zh))))) zh) (τ:=[some (.val (.scr ns)),some (.val (.int a)),some (.val (.str "")),none]) (j:=1+xQ ns a 10)
  (by simp only[zu,zJ,ye,yL,yv,zB,getElem?_cons_zero,getElem?_cons_succ,zx,Rs.bind_ok,wu ns a 10 h63 h0 (by omega) (by decide),xx,xO]) (by omega) (by omega)
 simp only[set_cons_succ,set_cons_zero]
 rw[r1,Fl.of_ok]
 let S:Nat→DS:=fun k=>[some (.val (.scr ns)),some (.val (.int a)),some (.val (.str ⟨(wV ns a k).toArray⟩)),if k=0 then none else some (.val (.int ((k:Int)-1)))]
 have s0:S 0=[some (.val (.scr ns)),some (.val (.int a)),some (.val (.str "")),none]:=by
  simp only[S,wV,List.range_zero,map_nil,if_true]
  rfl
 rw[← s0]
 have lp:=V2 (set:=gNm 3) (body:=(yo 2 (eOp zQ (zd 2) (eOp ixD (eC (.str "abcabABCab1_-./xyz")) (zo zq (za (zd 0) (za (eOp zQ (eOp zQ (zd 1) (eC (.int 1))) (zd 3)) (za (eC (.int 18)) zh)))))))) (fun (k:Nat)=>D.int (0+k)) S (1+xQ ns a 10).toNat fun k hk=>by
  refine⟨_,u8,?_⟩
  have hk':(k:Int)<20:=by omega
  have dk:=wv ns (a+1+(0+(k:Int))) (m:=18) (by decide)
  have hd:=wu ns (a+1+(0+(k:Int))) 18 h63 (by omega) (by omega) (by decide)
  have hix:=ZT (a := "abcabABCab1_-./xyz") (k:=xQ ns (a+1+(0+(k:Int))) 18) (c:=A18.getD (xQ ns (a+1+(0+(k:Int))) 18).toNat 0) (YR dk.1 (by
   rw[a18]
   have:(xQ ns (a+1+(0+(k:Int))) 18).toNat<A18.length:=by
    have:A18.length=18:=rfl
    omega
   rw[getD_eq_getElem?_getD,getElem?_eq_getElem this];rfl)) (by decide +kernel)
  have hadd:=Uo (a:=⟨(wV ns a k).toArray⟩) (b:=⟨#[A18.getD (xQ ns (a+1+(0+(k:Int))) 18).toNat 0]⟩) (by
   show(wV ns a k).toArray.size+1≤sizeLine
   rw[zT,size_toArray]
   simp only[wV,length_map,length_range];omega)
  simp only[S,set_cons_succ,set_cons_zero,z8,ye,yL,yv,zu,zJ,zB,getElem?_cons_zero,getElem?_cons_succ,zx,Rs.bind_ok,xO,hd,xx,hix,yf,hadd,Fl.of_ok,Ux]
  have e1:wV ns a k++[A18.getD (xQ ns (a+1+(0+(k:Int))) 18).toNat 0]=wV ns a (k+1):=by
   simp only[wV,List.range_succ,map_append,map_cons,map_nil,Gk,Int.zero_add]
  rw[e1]
  simp
 unfold uF
 rw[lp,yi]
 simp only[S,zZ,zB,getElem?_cons_zero,getElem?_cons_succ,zx,Fl.of_ok,zK]
 rfl
end Law
set_option Elab.async false
set_option linter.all false
namespace FD
open PySem PySem.Spec PyProof.Rows L2
theorem W1{set:FG}{body:FS}(f:Nat→D)(I:Nat→DS→Prop):∀(m j:Nat) (τ:DS),I j τ→(∀k τ,j≤k→k<j+m→I k τ→∃τ1 τ2,set (f k) τ=.ok τ1∧body τ1=.nx τ2∧I (k+1) τ2)→∃τ',yK set body ((List.range' j m).map f) τ=.nx τ'∧I (j+m) τ'
 |0,j,τ,h,_=>⟨τ,rfl,h⟩
 |m+1,j,τ,h,hs=>by
  obtain⟨τ1,τ2,h1,h2,h3⟩:=hs j τ (le_refl _) (by omega) h
  obtain⟨τ',h4,h5⟩:=W1 f I m (j+1) τ2 h3 fun k τ hk hk2=>hs k τ (by omega) (by omega)
  refine⟨τ',?_,by rw[show j+(m+1)=j+1+m by omega];exact h5⟩
  rw[range'_succ,map_cons,yK,h1,Fl.of_ok]
  simp only[h2,h4]
theorem Zd{set:FG}{body:FS}(f:Nat→D)(I:Nat→DS→Prop)(n:Nat)(τ:DS)(h0:I 0 τ)(h:∀k τ,k<n→I k τ→∃τ1 τ2,set (f k) τ=.ok τ1∧body τ1=.nx τ2∧I (k+1) τ2):∃τ',yK set body ((List.range n).map f) τ=.nx τ'∧I n τ':=by
 obtain⟨τ',h1,h2⟩:=W1 f I n 0 τ h0 fun k τ _ hk hi=>h k τ (by omega) hi
 rw[zero_add] at h2
 exact⟨τ',by rw[List.range_eq_range'];exact h1,h2⟩
end FD
namespace Law
open PySem PySem.Spec PyProof.Rows L2 FD
def QS:List Nat:=[97,98,99,120,121,122,65,66,49]
def MK:List Nat:=[95,45,46,47]
theorem JQ:("_-./" : Str).cps.toList=MK:=by decide +kernel
theorem Tg(c:Nat):xm [yf c]=.ok (.bl (decide (c∈MK))):=by
 have st:zV 1 [yf c]=[some (.val (yf c))]:=rfl
 unfold xm ZB
 rw[z9,st]
 simp only[zZ,ye,zB,yL,getElem?_cons_zero,zx,Rs.bind_ok,yf,YA,wj,JQ,Fl.of_ok,zK]
theorem QB(x:List Nat){i j:Int}(h0:0≤i)(h1:i≤j)(h2:j≤x.length):Txt.slice (⟨x.toArray⟩:Str) (some i) (some j)=⟨((x.drop i.toNat).take (j-i).toNat).toArray⟩:=by
 have:=slice_closesL (x:=⟨x.toArray⟩) (i:=i) (j:=j) h0 h1 (by show j≤((x.toArray.size:Nat):Int);simpa using h2)
 exact eq_of_beq this
theorem Jt(x:List Nat)(p:Nat)(hp:p<x.length):Txt.slice (⟨x.toArray⟩:Str) (some (p:Int)) (some ((p:Int)+1))=⟨#[x[p]]⟩:=by
 rw[QB x (by omega) (by omega) (by omega)]
 have e1:((p:Int)+1-(p:Int)).toNat=1:=by omega
 have e2:((p:Int)).toNat=p:=by omega
 rw[e1,e2,drop_eq_getElem_cons hp]
 rfl
theorem JR(c:Nat)(h:c<128):Txt.lower (⟨#[c]⟩:Str)=⟨#[lo1 c]⟩:=by
 rw[lower_ascii (x:=⟨#[c]⟩) (by intro d hd;have e:d=c:=(by simpa using hd);omega)]
 simp
def NS:List Nat:=[97,98,99,65,66,67,49,95,45,46,47,120,121,122]
theorem JP(ns:List Int)(a:Int)(k:Nat)(h:0≤a+1+k):Gk ns a k∈NS:=by
 have d:=wv ns (a+1+k) (m:=18) (by decide)
 have hall:∀n,n<18→A18.getD n 0∈NS:=by decide
 exact hall _ (by omega)
def S6:List Nat:=[97,98,65,66,49,99]
theorem s6_l:("abAB1c" : Str).cps.toList=S6:=by decide +kernel
theorem UX:∀c∈NS,c<128∧(lo1 c∈QS∨lo1 c∈MK):=by decide
theorem MC:∀n,n<6→S6.getD n 0∈QS:=by decide
set_option maxHeartbeats 1000000
def WJ:FS:=(zA (yo 5 (yk jy (za (eOp uP (yk y7 (za (zd 2) zh)) (eC (.int 1))) (za (eOp zQ (zd 5) (zo zq (za (zd 0) (za (eOp zQ (eOp zQ (zd 1) (eC (.int 1))) (eOp ua (eC (.int 3)) (zd 6))) (za (eC (.int 3)) zh))))) zh))))
  (zA (yo 7 (Uf "str" loD (eOr (eSl (zd 2) (wT (zd 5)) (wT (eOp zQ (zd 5) (eC (.int 1))))) (eC (.str "a")))))
  (zA (yo 5 (eOp zQ (zd 5) (eC (.int 1))))
  (zA (sIf (FD.tB (eOp eqD (zo zq (za (zd 0) (za (eOp zQ (eOp zQ (zd 1) (eC (.int 2))) (eOp ua (eC (.int 3)) (zd 6))) (za (eC (.int 5)) zh)))) (eC (.int 0)))) (yo 7 (eOp ixD (eC (.str "abAB1c")) (zo zq (za (zd 0) (za (eOp zQ (eOp zQ (zd 1) (eC (.int 3))) (eOp ua (eC (.int 3)) (zd 6))) (za (eC (.int 6)) zh)))))) yg)
  (sIf (Wx (jh (zo xm (za (zd 7) zh)))) (yo 4 (eOp zQ (zd 4) (zd 7))) yg)))))
def qSt(ns:List Int)(a:Int)(x:List Nat)(most:Int)(q:List Nat)(p:Int)(s1 s2:Option Sl):DS:=
 [some (.val (.scr ns)),some (.val (.int a)),some (.val (.str ⟨x.toArray⟩)),some (.val (.int most)),some (.val (.str ⟨q.toArray⟩)),some (.val (.int p)),s1,s2]
theorem VQ(ns:List Int)(a:Int)(x:List Nat)(most:Int)(q:List Nat)(p:Int)(k:Nat)(s2:Option Sl)(h63:ns.length≤63)(h0:0≤a)(ha:a<900000)(hk:k<100)(hx0:0<x.length)(hx1:x.length≤100)(hx:∀c∈x,c∈NS)(hq:q.length≤100)(hqs:∀c∈q,c∈QS)(hp:0≤p) :
  ∃q' p' s',WJ (qSt ns a x most q p (some (.val (.int (0+k)))) s2)=.nx (qSt ns a x most q' p' (some (.val (.int (0+k)))) s')∧q'.length≤q.length+1∧(∀c∈q',c∈QS)∧0≤p':=by
 have hl:((⟨x.toArray⟩:Str).length:Int)=x.length:=by show((x.toArray.size:Nat):Int)=_;simp
 have hsz:(⟨x.toArray⟩:Str).length≤sizeLine:=by rw[zT];show x.toArray.size≤_;simp;omega
 have m3:=v9 (i:=3) (j:=0+(k:Int)) (.inl ⟨by decide,by decide⟩)
 have g1:=wu ns (a+1+3*(0+(k:Int))) 3 h63 (by omega) (by omega) (by decide)
 have g2:=wu ns (a+2+3*(0+(k:Int))) 5 h63 (by omega) (by omega) (by decide)
 have g3:=wu ns (a+3+3*(0+(k:Int))) 6 h63 (by omega) (by omega) (by decide)
 have b1:=wv ns (a+1+3*(0+(k:Int))) (m:=3) (by decide)
 have b3:=wv ns (a+3+3*(0+(k:Int))) (m:=6) (by decide)
 generalize xQ ns (a+1+3*(0+(k:Int))) 3=e1 at *
 generalize xQ ns (a+2+3*(0+(k:Int))) 5=e2 at *
 generalize xQ ns (a+3+3*(0+(k:Int))) 6=e3 at *
 obtain⟨n,hn,hmin⟩:∃n:Nat,n<x.length∧(if p+e1<(x.length:Int)-1 then p+e1 else (x.length:Int)-1)=(n:Int):=by
  by_cases h:p+e1<(x.length:Int)-1
  ·exact⟨(p+e1).toNat,by omega,by rw[if_pos h];omega⟩
  ·exact⟨x.length-1,by omega,by rw[if_neg h];omega⟩
 have hmn:jy [.int ((x.length:Int)-1),.int (p+e1)]=.ok (.int n):=by
  simp only[jy,V6];rw[hmin]
 have hsl:slD (.str ⟨x.toArray⟩) (some (n:Int)) (some ((n:Int)+1))=.ok (.str ⟨#[x[n]]⟩):=by
  simp only[slD]
  rw[if_pos hsz,Jt x n hn]
 have hxn:=hx x[n] (getElem_mem hn)
 have hlo:loD (.str ⟨#[x[n]]⟩) []=.ok (.str ⟨#[lo1 x[n]]⟩):=by
  simp only[loD]
  rw[if_pos (by show 1≤5000000;decide),JR _ (UX _ hxn).1]
 have htr:jT (.str ⟨#[x[n]]⟩)=.ok true:=by
  rw[Qq (by rw[zT];show 1≤_;decide)];rfl
 have hix:ixD (.str "abAB1c") (.int e3)=.ok (yf (S6.getD e3.toNat 0)):=ZT (YR b3.1 (by
   rw[s6_l]
   have:e3.toNat<S6.length:=by show e3.toNat<6;omega
   rw[getD_eq_getElem?_getD,getElem?_eq_getElem this];rfl)) (by decide +kernel)
 have key:∀c:Nat,(c∈QS∨c∈MK)→∃q' s',(sIf (Wx (jh (zo xm (za (zd 7) zh)))) (yo 4 (eOp zQ (zd 4) (zd 7))) yg) (qSt ns a x most q ((n:Int)+1) (some (.val (.int (0+k)))) (some (.val (yf c))))=.nx (qSt ns a x most q' ((n:Int)+1) (some (.val (.int (0+k)))) s')∧q'.length≤q.length+1∧∀c∈q',c∈QS:=fun c hc=>by
  have hadd:=Uo (a:=⟨q.toArray⟩) (b:=⟨#[c]⟩) (by
   show q.toArray.size+1≤sizeLine
   rw[zT,size_toArray];omega)
  simp only[qSt,yw,Mn,wK,yv,zu,zJ,zB,getElem?_cons_zero,getElem?_cons_succ,zx,Rs.bind_ok,Tg,xx,vG,Fl.of_ok]
  by_cases hm:c∈MK
  ·exact⟨q,some (.val (yf c)),by simp only[hm,decide_true,Bool.not_true,Bool.false_eq_true,if_false,zW],by omega,hqs⟩
  ·refine⟨q++[c],some (.val (yf c)),by simp only[hm,decide_false,Bool.not_false,if_true,z8,ye,zB,getElem?_cons_zero,getElem?_cons_succ,zx,Rs.bind_ok,yf,hadd,Fl.of_ok,set_cons_succ,set_cons_zero,Ux],by simp,fun d hd=>?_⟩
   rcases mem_append.mp hd with h|h
   ·exact hqs d h
   ·have:d=c:=by simpa using h
    subst this
    exact hc.resolve_right hm
 unfold WJ
 simp only[qSt,zM,z8,wb,zu,zJ,ye,zB,yL,yv,getElem?_cons_zero,getElem?_cons_succ,zx,Rs.bind_ok,W5 hsz,hl,vq,xO,m3,g1,xx,hmn,Fl.of_ok,set_cons_succ,set_cons_zero,yi,
  Je,GV,Ud,WV,WD,hsl,htr,if_true,Y5,decide_true,hlo,yw,xE,g2,vD,zR]
 by_cases hz:e2=0
 ·subst hz
  obtain⟨q',s',h1,h2,h3⟩:=key (S6.getD e3.toNat 0) (.inl (MC _ (by omega)))
  simp only[qSt] at h1
  refine⟨q',(n:Int)+1,s',?_,h2,h3,by omega⟩
  simp only[beq_self_eq_true,if_true,g3,xx,Rs.bind_ok,hix,Fl.of_ok,yi]
  exact h1
 ·obtain⟨q',s',h1,h2,h3⟩:=key (lo1 x[n]) (UX _ hxn).2
  simp only[qSt] at h1
  refine⟨q',(n:Int)+1,s',?_,h2,h3,by omega⟩
  have hb:(e2==0)=false:=by simpa using hz
  simp only[hb,Bool.false_eq_true,if_false,zW,yi]
  exact h1
theorem QM(ns:List Int)(a:Int)(x:List Nat)(most:Int)(h63:ns.length≤63)(h0:0≤a)(ha:a<900000)(hm0:0≤most)(hm1:most<50)(hx0:0<x.length)(hx1:x.length≤100)(hx:∀c∈x,c∈NS) :
  ∃q:List Nat,(q.length:Int)≤most∧(∀c∈q,c∈QS)∧xz [.scr ns,.int a,.str ⟨x.toArray⟩,.int most]=.ok (.str ⟨q.toArray⟩):=by
 have st:zV 8 [D.scr ns,.int a,.str ⟨x.toArray⟩,.int most]=[some (.val (.scr ns)),some (.val (.int a)),some (.val (.str ⟨x.toArray⟩)),some (.val (.int most)),none,none,none,none]:=rfl
 have dl:=wv ns a (m:=most+1) (by omega)
 have dk:=wu ns a (most+1) h63 h0 (by omega) (by omega)
 generalize hN:xQ ns a (most+1)=N at *
 have r1:=XW (fs:=za (zo zq (za (zd 0) (za (zd 1) (za (eOp zQ (zd 3) (eC (.int 1))) zh)))) zh) (τ:=qSt ns a x most [] 0 none none) (j:=N)
  (by simp only[qSt,zu,zJ,ye,yL,yv,zB,getElem?_cons_zero,getElem?_cons_succ,zx,Rs.bind_ok,xO,dk,xx]) (by omega) (by omega)
 obtain⟨τ',l1,q,p,s1,s2,rfl,l2,l3,l4⟩:=Zd (set:=gNm 6) (body:=WJ) (fun (k:Nat)=>D.int (0+k)) (fun k τ=>∃q p s1 s2,τ=qSt ns a x most q p s1 s2∧q.length≤k∧(∀c∈q,c∈QS)∧0≤p) N.toNat (qSt ns a x most [] 0 none none)
  ⟨[],0,none,none,rfl,le_refl _,(fun _ h=>nomatch h),Int.le_refl _⟩ fun k τ hk ⟨q,p,s1,s2,e,h1,h2,h3⟩=>by
   subst e
   obtain⟨q',p',s',g1,g2,g3,g4⟩:=VQ ns a x most q p k s2 h63 h0 ha (by omega) hx0 hx1 hx (by omega) h2 h3
   exact⟨_,_,u8,g1,q',p',_,s',rfl,by omega,g3,g4⟩
 refine⟨q,by omega,l3,?_⟩
 have s0:qSt ns a x most [] 0 none none=[some (.val (.scr ns)),some (.val (.int a)),some (.val (.str ⟨x.toArray⟩)),some (.val (.int most)),some (.val (.str "")),some (.val (.int 0)),none,none]:=rfl
 unfold xz jO
 rw[z9,st,zM,z8,yL,Fl.of_ok,yi,zM,z8,yL,Fl.of_ok,yi,zM,wL]
 simp only[set_cons_succ,set_cons_zero]
 rw[← s0,r1,Fl.of_ok]
 unfold uF
 have l1':yK (gNm 6) WJ ((List.range N.toNat).map fun (k:Nat)=>D.int (0+k)) (qSt ns a x most [] 0 none none)=.nx (qSt ns a x most q p s1 s2):=l1
 unfold WJ at l1'
 rw[l1',yi]
 simp only[qSt,zZ,zB,getElem?_cons_zero,getElem?_cons_succ,zx,Fl.of_ok,zK]
def xk(c d:Nat):Bool:=c==d||(decide (97≤c∧c≤122)&&up1 c==d)
theorem My:("abcdefghijklmnopqrstuvwxyz" : Str).cps.toList=(List.range 26).map (· + 97):=by decide +kernel
theorem ut(c:Nat):decide (c∈("abcdefghijklmnopqrstuvwxyz" : Str).cps.toList)=decide (97≤c∧c≤122):=by
 rw[My]
 apply decide_eq_decide.mpr
 rw[mem_map]
 constructor
 ·rintro⟨i,hi,rfl⟩
  have:=mem_range.mp hi
  omega
 ·intro h
  exact⟨c-97,mem_range.mpr (by omega),by omega⟩
theorem Jm(c:Nat)(h:c<128):Txt.upper (⟨#[c]⟩:Str)=⟨#[up1 c]⟩:=by
 rw[upper_ascii (x:=⟨#[c]⟩) (by intro d hd;have e:d=c:=(by simpa using hd);omega)]
 simp
theorem VY(c d:Nat):((⟨#[c]⟩:Str)==⟨#[d]⟩)=(c==d):=by
 rw[Bool.eq_iff_iff]
 simp
theorem Yp(c d:Nat)(hc:c<128):xD [yf c,yf d]=.ok (.bl (xk c d)):=by
 have st:zV 2 [yf c,yf d]=[some (.val (yf c)),some (.val (yf d))]:=rfl
 have hup:upD (.str ⟨#[c]⟩) []=.ok (.str ⟨#[up1 c]⟩):=by
  simp only[upD]
  rw[if_pos (by show 1≤5000000;decide),Jm _ hc]
 unfold xD Jk
 rw[z9,st]
 simp only[zZ,GV,TU,ye,zB,yL,Je,getElem?_cons_zero,getElem?_cons_succ,zx,Rs.bind_ok,yf,GT,VY,vG,YA,wj,ut,Y5,decide_true,if_true,hup]
 unfold xk
 by_cases h:c=d
 ·subst h;simp
 ·have hb:(c==d)=false:=by simpa using h
  simp only[hb,Bool.false_eq_true,if_false,Bool.false_or]
  by_cases h2:97≤c∧c≤122
  ·simp[h2]
  ·simp[h2]
end Law
set_option Elab.async false
set_option linter.all false
set_option maxHeartbeats 1000000
namespace FD
open PySem PySem.Spec PyProof.Rows L2
section
variable{τ:DS}{fa fb fe fi:FE}{fs:FA}{n:Nat}{i:Int}
theorem jL:jM n τ=(Vj τ[n]?).bind fun ds=>.ok (.int ds.length):=rfl
theorem vh:YW n fe τ=Fl.of (Vj τ[n]?) fun ds=>Fl.of (fe τ) fun d=>if ds.length<sizeLine then .nx (τ.set n (some (.own (ds++[d])))) else .no:=rfl
theorem Wh:xl fe τ=(fe τ).bind U1:=rfl
@[simp] theorem GC{ds:List D}:U1 (.lst ds)=.ok ds:=rfl
def putAt(n:Nat)(ds:List D)(d:D)(τ:DS):D→Fl
 |.int k=>match ixN ds.length k with
  |some j=>.nx (τ.set n (some (.own (ds.set j d))))
  |none=>.no
 |_=>.no
theorem XS:Jw n fi fe τ=Fl.of (fe τ) fun d=>Fl.of (Vj τ[n]?) fun ds=>Fl.of (fi τ) (putAt n ds d τ):=by
 unfold Jw uJ
 cases fe τ <;> rfl
theorem QO{ds:List D}{d:D}{j:Nat}(h:j<ds.length):putAt n ds d τ (.int j)=.nx (τ.set n (some (.own (ds.set j d)))):=by
 have:ixN ds.length (j:Int)=some j:=by
  unfold ixN
  rw[if_pos (by omega),if_pos (by omega)]
  simp
 simp only[putAt,this]
def ixO(ds:List D):D→Rs D
 |.int k=>match atI ds k with
  |some d=>.ok d
  |none=>.no
 |_=>.no
theorem TR:Qa n fi τ=(Vj τ[n]?).bind fun ds=>(fi τ).bind (ixO ds):=by
 unfold Qa
 show(Vj τ[n]?).bind _=_
 cases Vj τ[n]? <;> rfl
end
end FD
namespace Law
open PySem PySem.Spec PyProof.Rows L2 FD
abbrev tx(x:List Nat):D:=.str ⟨x.toArray⟩
abbrev nts(x:List Nat):D:=.lst (x.map fun (k:Nat)=>D.int k)
theorem wB(x:List Nat)(h:x.length≤1000):y7 [tx x]=.ok (.int x.length):=by
 rw[W5 (by rw[zT];show x.toArray.size≤_;simp;omega)]
 show Rs.ok (D.int ((x.toArray.size:Nat):Int))=_
 simp
theorem Ut(x:List Nat)(j:Nat)(c:Nat)(h:x[j]?=some c)(hl:x.length≤1000):ixD (tx x) (.int j)=.ok (yf c):=by
 refine ZT (YR (by omega) (by simpa using h)) (by rw[zT];show x.toArray.size≤_;simp;omega)
def epR:List Nat→List Nat→Nat→List Nat
 |[],_,_=>[]
 |_::_,[],_=>[]
 |a::q,c::x,k=>if xk a c=true then k::epR q x (k+1) else epR (a::q) x (k+1)
def wQ:List Nat→List Nat→Bool
 |[],_=>true
 |_::_,[]=>false
 |a::q,c::x=>if xk a c=true then wQ q x else wQ (a::q) x
theorem jI:∀(q x:List Nat) (k:Nat),((epR q x k).length=q.length)↔wQ q x=true
 |[],x,k=>by simp[epR,wQ]
 |a::q,[],k=>by simp[epR,wQ]
 |a::q,c::x,k=>by
  simp only[epR,wQ]
  split
  ·simpa using jI q x (k+1)
  ·exact jI (a::q) x (k+1)
abbrev its(x:List Int):D:=.lst (x.map D.int)
def XV(n:Int):Int→List Int→Bool
 |_,[]=>true
 |a,t::r=>if t<a∨n≤t then false else XV n (t+1) r
def mt2(x:List Nat):List Nat→List Int→List Bool
 |a::q,t::l=>xk a (x.getD t.toNat 0)::mt2 x q l
 |_,_=>[]
def za7(q x:List Nat)(l:List Int):Bool:=(l.length==q.length)&&(XV x.length 0 l&&(mt2 x q l).all id)
theorem xR{set:FG}{fe:FE}{τ:DS}{α β:Type}(f:α→D)(g:β→D)(h:α→β):∀(xs:List α),(∀a∈xs,∃τ1,set (f a) τ=.ok τ1∧fe τ1=.ok (g (h a)))→vE set (fun _=>.ok true) fe τ (xs.map f)=.ok ((xs.map h).map g)
 |[],_=>rfl
 |a::xs,hs=>by
  obtain⟨τ1,h1,h2⟩:=hs a (mem_cons_self ..)
  rw[map_cons,vE,h1]
  simp only[h2,xR f g h xs fun b hb=>hs b (mem_cons_of_mem _ hb),Rs.bind_ok,map_cons]
end Law
set_option Elab.async false
set_option linter.all false
set_option maxHeartbeats 1000000
namespace FD
open PySem PySem.Spec PyProof.Rows L2
theorem V0(x:List Nat):(⟨x.toArray⟩:Str).length=x.length:=by show x.toArray.size=_;simp
theorem Mr(a b:List Nat):(⟨a.toArray⟩:Str)++(⟨b.toArray⟩:Str)=⟨(a++b).toArray⟩:=by
 show Str.mk _=_
 simp
theorem xb{set:FG}{ft:FT}{fe:FE}{τ:DS}{α:Type}(f g:α→D)(p:α→Bool):∀(xs:List α),(∀a∈xs,∃τ1,set (f a) τ=.ok τ1∧ft τ1=.ok (p a)∧fe τ1=.ok (g a))→vE set ft fe τ (xs.map f)=.ok ((xs.filter p).map g)
 |[],_=>rfl
 |a::xs,hs=>by
  obtain⟨τ1,h1,h2,h3⟩:=hs a (mem_cons_self ..)
  have ih:=xb f g p xs fun b hb=>hs b (mem_cons_of_mem _ hb)
  rw[map_cons,vE,h1]
  cases hp:p a
  ·rw[hp] at h2
   simp only[h2,ih,List.filter_cons,hp,Bool.false_eq_true,if_false]
  ·rw[hp] at h2
   simp only[h2,h3,ih,List.filter_cons,hp,if_true,Rs.bind_ok,map_cons]
end FD
namespace Law
open PySem PySem.Spec PyProof.Rows L2 FD
theorem f1:∀a∈QS,∀c∈NS,xk (lo1 a) c=xk (lo1 a) (lo1 c):=by decide
theorem f2:∀a∈QS,∀c∈NS,xk a c=true→xk (lo1 a) c=true:=by decide
theorem f3:∀a∈QS,∀c∈NS,xk a c=true→lo1 c=lo1 a:=by decide
theorem f5:∀c∈NS,c<128∧lo1 c<128:=by decide
theorem f6:∀c∈QS,c<128∧lo1 c<128:=by decide
theorem Ub(n:Int):∀(q x:List Nat) (k:Nat) (a:Int),a≤k→(k:Int)+x.length≤n→XV n a ((epR q x k).map fun (t:Nat)=>(t:Int))=true
 |[],x,k,a,_,_=>by simp[epR,XV]
 |_::_,[],k,a,_,_=>by simp[epR,XV]
 |b::q,c::x,k,a,h1,h2=>by
  simp only[length_cons] at h2
  simp only[epR]
  split
  ·simp only[map_cons,XV]
   rw[if_neg (by omega)]
   exact Ub n q x (k+1) _ (by omega) (by omega)
  ·exact Ub n (b::q) x (k+1) a (by omega) (by omega)
theorem Qb{x0 x:List Nat}{c k:Nat}(h:x0.drop k=c::x):x0.drop (k+1)=x∧x0.getD k 0=c:=by
 have h1:x0[k]?=some c:=by
  have:=congrArg (fun l=>l[0]?) h
  simpa using this
 constructor
 ·rw[← List.drop_drop,h];rfl
 ·rw[getD_eq_getElem?_getD,h1];rfl
theorem GU(x0:List Nat)(f:Nat→Nat):∀(q x:List Nat) (k:Nat),x0.drop k=x→(∀a∈q,∀c∈x,xk a c=true→xk (f a) c=true)→(mt2 x0 (q.map f) ((epR q x k).map fun (t:Nat)=>(t:Int))).all id=true
 |[],x,k,_,_=>by simp[epR,mt2]
 |_::_,[],k,_,_=>by simp[epR,mt2]
 |b::q,c::x,k,h1,h2=>by
  obtain⟨h3,h4⟩:=Qb h1
  simp only[epR]
  split
  ·rename_i hm
   simp only[map_cons,mt2,toNat_natCast,h4,h2 b (mem_cons_self ..) c (mem_cons_self ..) hm,List.all_cons,id,Bool.true_and]
   exact GU x0 f q x (k+1) h3 fun a ha d hd=>h2 a (mem_cons_of_mem _ ha) d (mem_cons_of_mem _ hd)
  ·exact GU x0 f (b::q) x (k+1) h3 fun a ha d hd=>h2 a ha d (mem_cons_of_mem _ hd)
structure Lay(q x l:List Nat):Prop where
 len:l.length=q.length
 ris:∀j,j+1<l.length→l.getD j 0<l.getD (j+1) 0
 inn:∀j,j<l.length→l.getD j 0<x.length
 met:∀j,j<l.length→xk (q.getD j 0) (x.getD (l.getD j 0) 0)=true
abbrev toI(l:List Nat):List Int:=l.map fun (t:Nat)=>(t:Int)
theorem XU(n:Nat):∀(l:List Nat) (a:Nat),XV n a (toI l)=true↔((∀j,j+1<l.length→l.getD j 0<l.getD (j+1) 0)∧(∀j,j<l.length→l.getD j 0<n)∧(0<l.length→a≤l.getD 0 0))
 |[],a=>by simp[XV]
 |t::r,a=>by
  have ih:=XU n r (t+1)
  simp only[map_cons,XV]
  constructor
  ·intro h
   split at h
   ·cases h
   ·rename_i g
    have e:((t:Int)+1)=((t+1:Nat):Int):=by omega
    rw[e] at h
    obtain⟨h1,h2,h3⟩:=ih.mp h
    refine⟨fun j hj=>?_,fun j hj=>?_,fun _=>?_⟩
    ·cases j with
     |zero=>have:=h3 (by simpa using hj);exact Nat.lt_of_succ_le (by simpa using this)
     |succ j=>simpa using h1 j (by simpa using hj)
    ·cases j with
     |zero=>simp;omega
     |succ j=>simpa using h2 j (by simpa using hj)
    ·simp;omega
  ·rintro⟨h1,h2,h3⟩
   have a1:=h2 0 (by simp)
   have a2:=h3 (by simp)
   simp only[getD_cons_zero] at a1 a2
   rw[if_neg (by omega)]
   have e:((t:Int)+1)=((t+1:Nat):Int):=by omega
   rw[e]
   refine ih.mpr ⟨fun j hj=>?_,fun j hj=>?_,fun h0=>?_⟩
   ·simpa using h1 (j+1) (by simpa using hj)
   ·simpa using h2 (j+1) (by simpa using hj)
   ·exact Nat.succ_le_of_lt (by simpa using h1 0 (by simpa using h0))
theorem Wb(x:List Nat):∀(q l:List Nat),l.length=q.length→((mt2 x q (toI l)).all id=true↔∀j,j<l.length→xk (q.getD j 0) (x.getD (l.getD j 0) 0)=true)
 |[],[],_=>by simp[mt2]
 |[],_::_,h=>by simp at h
 |_::_,[],h=>by simp at h
 |a::q,t::l,h=>by
  have ih:=Wb x q l (by simpa using h)
  simp only[map_cons,mt2,List.all_cons,id,Bool.and_eq_true,toNat_natCast]
  rw[ih]
  constructor
  ·rintro⟨h1,h2⟩ j hj
   cases j with
   |zero=>simpa using h1
   |succ j=>simpa using h2 j (by simpa using hj)
  ·intro h1
   exact⟨by simpa using h1 0 (by simp),fun j hj=>by simpa using h1 (j+1) (by simpa using hj)⟩
theorem Tr(q x l:List Nat):za7 q x (toI l)=true↔Lay q x l:=by
 unfold za7
 simp only[Bool.and_eq_true,beq_iff_eq,length_map]
 constructor
 ·rintro⟨h1,h2,h3⟩
  obtain⟨a,b,_⟩:=(XU x.length l 0).mp h2
  exact⟨h1,a,b,(Wb x q l h1).mp h3⟩
 ·intro h
  exact⟨h.len,(XU x.length l 0).mpr ⟨h.ris,h.inn,fun _=>zero_le _⟩,(Wb x q l h.len).mpr h.met⟩
theorem vB(l:List Nat)(m j:Nat)(h:j<m):(l.take m).getD j 0=l.getD j 0:=by
 simp[getD_eq_getElem?_getD,h]
theorem Lay.take{q x l:List Nat}(h:Lay q x l)(m:Nat):Lay (q.take m) x (l.take m):=by
 refine⟨by simp[h.len],fun j hj=>?_,fun j hj=>?_,fun j hj=>?_⟩
 ·rw[length_take] at hj
  rw[vB _ _ _ (by omega),vB _ _ _ (by omega)]
  exact h.ris j (by omega)
 ·rw[length_take] at hj
  rw[vB _ _ _ (by omega)]
  exact h.inn j (by omega)
 ·rw[length_take] at hj
  rw[vB _ _ _ (by omega),vB _ _ _ (by omega)]
  exact h.met j (by omega)
def T3(x:List Nat)(p:Nat):Int:=if p=0 then 8 else if x.getD (p-1) 0∈MK then 6 else if (65≤x.getD p 0∧x.getD p 0≤90)∧((97≤x.getD (p-1) 0∧x.getD (p-1) 0≤122)∨(48≤x.getD (p-1) 0∧x.getD (p-1) 0≤57)) then 5 else 0
def vZ(a:Nat)(x:List Nat)(p:Nat):Int:=10+T3 x p+(if x.getD p 0=a then 1 else 0)
def Xr(p:Nat):Int:=-(if (p:Int)<3 then (p:Int) else 3)
def vA(r p:Nat):Int:=if (p:Int)-r-1=0 then 7 else -(if (p:Int)-r-1<5 then (p:Int)-r-1 else 5)
def trm(q x l:List Nat)(j:Nat):Int:=vZ (q.getD j 0) x (l.getD j 0)+(if j=0 then Xr (l.getD 0 0) else vA (l.getD (j-1) 0) (l.getD j 0))
def pts(q x l:List Nat):Nat→Int
 |0=>0
 |n+1=>pts q x l n+trm q x l n
abbrev Tl:=Int×List Nat
def wg:List Tl→Option Tl→Option Tl
 |[],c=>c
 |t::r,none=>wg r (some t)
 |t::r,some c=>wg r (some (if c.1<t.1 then t else c))
def uL(a:Nat)(x:List Nat):List Tl:=((List.range x.length).filter fun p=>xk a (x.getD p 0)).map fun p=>(vZ a x p,[p])
def wf(p:Nat)(ts:List Tl):List Tl:=(ts.filter fun t=>decide (p<t.2.getD 0 0)).map fun t=>(t.1+vA p (t.2.getD 0 0),t.2)
def uc(a:Nat)(x:List Nat)(ts:List Tl)(p:Nat):Option Tl:=if xk a (x.getD p 0)=true then (wg (wf p ts) none).map fun t=>(vZ a x p+t.1,p::t.2) else none
def jz(a:Nat)(x:List Nat)(ts:List Tl):List Tl:=(List.range x.length).filterMap (uc a x ts)
def zS:List Nat→List Nat→List Tl
 |[],_=>[]
 |[a],x=>uL a x
 |a::b::q,x=>jz a x (zS (b::q) x)
def Zt(t:Tl):Tl:=(t.1+Xr (t.2.getD 0 0),t.2)
def uM(q x:List Nat):Option Tl:=wg ((zS q x).map Zt) none
theorem wo:∀(ts:List Tl) (c:Option Tl) (t:Tl),wg ts c=some t→t∈ts∨c=some t
 |[],c,t,h=>.inr h
 |u::r,none,t,h=>by
  rcases wo r (some u) t h with h|h
  ·exact .inl (mem_cons_of_mem _ h)
  ·cases h;exact .inl (mem_cons_self ..)
 |u::r,some c,t,h=>by
  rcases wo r _ t h with h|h
  ·exact .inl (mem_cons_of_mem _ h)
  ·by_cases g:c.1<u.1
   ·rw[if_pos g] at h;cases h;exact .inl (mem_cons_self ..)
   ·rw[if_neg g] at h;exact .inr h
theorem YC:∀(ts:List Tl) (c:Tl),∃t,wg ts (some c)=some t
 |[],c=>⟨c,rfl⟩
 |u::r,c=>YC r _
theorem Vk(ts:List Tl)(h:ts≠[]):∃t,wg ts none=some t∧t∈ts:=by
 cases ts with
 |nil=>exact absurd rfl h
 |cons u r=>
  obtain⟨t,e⟩:=YC r u
  refine⟨t,e,?_⟩
  rcases wo (u::r) none t e with g|g
  ·exact g
  ·cases g
def sm(f:Nat→Int):Nat→Int
 |0=>0
 |n+1=>sm f n+f n
theorem XN(f:Nat→Int):∀n,sm f (n+1)=f 0+sm (fun j=>f (j+1)) n
 |0=>by simp[sm]
 |n+1=>by rw[sm,XN f n,sm];omega
theorem QP(q x l:List Nat):∀n,pts q x l n=sm (trm q x l) n
 |0=>rfl
 |n+1=>by rw[pts,sm,QP q x l n]
def trk(x:List Nat)(r:Nat)(q l:List Nat)(j:Nat):Int:=vZ (q.getD j 0) x (l.getD j 0)+vA (if j=0 then r else l.getD (j-1) 0) (l.getD j 0)
theorem Qr(a p:Nat)(q x l:List Nat)(j:Nat):trm (a::q) x (p::l) (j+1)=trk x p q l j:=by
 simp only[trm,trk,getD_cons_succ,Nat.succ_ne_zero,if_false,Nat.add_sub_cancel]
 cases j with
 |zero=>rw[if_pos rfl,getD_cons_zero]
 |succ j=>rw[if_neg (Nat.succ_ne_zero j),getD_cons_succ,Nat.add_sub_cancel]
theorem Qs(a p r:Nat)(q x l:List Nat)(j:Nat):trk x r (a::q) (p::l) (j+1)=trk x p q l j:=by
 simp only[trk,getD_cons_succ,Nat.succ_ne_zero,if_false,Nat.add_sub_cancel]
 cases j with
 |zero=>rw[if_pos rfl,getD_cons_zero]
 |succ j=>rw[if_neg (Nat.succ_ne_zero j),getD_cons_succ,Nat.add_sub_cancel]
def wG(x:List Nat):List Nat→List Nat→Int
 |a::q,p::l=>vZ a x p+sm (trk x p q l) l.length
 |_,_=>0
theorem Ww(a p:Nat)(q x l:List Nat):wG x (a::q) (p::l)+Xr p=pts (a::q) x (p::l) (l.length+1):=by
 rw[QP,XN,funext (Qr a p q x l)]
 simp only[wG,trm,if_true,getD_cons_zero]
 omega
theorem Xc(a b p r:Nat)(q x l:List Nat):wG x (a::b::q) (p::r::l)=vZ a x p+vA p r+wG x (b::q) (r::l):=by
 simp only[wG,length_cons]
 rw[XN,funext (Qs b r p q x l)]
 simp only[trk,if_true,getD_cons_zero]
 omega
theorem Lay.one{a p:Nat}{x:List Nat}(h1:p<x.length)(h2:xk a (x.getD p 0)=true):Lay [a] x [p]:=by
 have z:∀j,j<[p].length→j=0:=fun j hj=>by simpa using hj
 exact⟨rfl,fun j hj=>by simp at hj,fun j hj=>by rw[z j hj];exact h1,fun j hj=>by rw[z j hj];exact h2⟩
theorem Lay.cons{a p:Nat}{q x l:List Nat}(h:Lay q x l)(h1:p<x.length)(h2:xk a (x.getD p 0)=true)(h3:0<l.length→p<l.getD 0 0):Lay (a::q) x (p::l):=by
 refine⟨by simp[h.len],fun j hj=>?_,fun j hj=>?_,fun j hj=>?_⟩
 ·cases j with
  |zero=>simpa using h3 (by simpa using hj)
  |succ j=>simpa using h.ris j (by simpa using hj)
 ·cases j with
  |zero=>simpa using h1
  |succ j=>simpa using h.inn j (by simpa using hj)
 ·cases j with
  |zero=>exact h2
  |succ j=>simpa using h.met j (by simpa using hj)
theorem Lay.tail{a p:Nat}{q x l:List Nat}(h:Lay (a::q) x (p::l)):Lay q x l∧p<x.length∧xk a (x.getD p 0)=true∧(0<l.length→p<l.getD 0 0):=by
 refine⟨⟨by simpa using h.len,fun j hj=>?_,fun j hj=>?_,fun j hj=>?_⟩,by simpa using h.inn 0 (by simp),by simpa using h.met 0 (by simp),fun h0=>by simpa using h.ris 0 (by simpa using h0)⟩
 ·simpa using h.ris (j+1) (by simpa using hj)
 ·simpa using h.inn (j+1) (by simpa using hj)
 ·simpa using h.met (j+1) (by simpa using hj)
theorem vf(x:List Nat):∀(q:List Nat) (t:Tl),t∈zS q x→Lay q x t.2∧t.1=wG x q t.2
 |[],t,h=>by simp[zS] at h
 |[a],t,h=>by
  simp only[zS,uL,mem_map,mem_filter,mem_range] at h
  obtain⟨p,⟨h1,h2⟩,rfl⟩:=h
  exact⟨Lay.one h1 h2,by simp[wG,sm]⟩
 |a::b::q,t,h=>by
  simp only[zS,jz,mem_filterMap,mem_range] at h
  obtain⟨p,h1,h2⟩:=h
  unfold uc at h2
  split at h2
  ·rename_i hm
   cases e:wg (wf p (zS (b::q) x)) none with
   |none=>rw[e] at h2;cases h2
   |some u=>
    rw[e] at h2
    have h2:some (vZ a x p+u.1,p::u.2)=some t:=h2
    cases h2
    rcases wo _ _ _ e with g|g
    ·simp only[wf,mem_map,mem_filter,decide_eq_true_eq] at g
     obtain⟨v,⟨g1,g2⟩,rfl⟩:=g
     obtain⟨k1,k2⟩:=vf x (b::q) v g1
     refine⟨k1.cons h1 hm fun _=>g2,?_⟩
     have hl:=k1.len
     cases e2:v.2 with
     |nil=>rw[e2] at hl;simp at hl
     |cons r l=>
      rw[e2] at k2
      simp only[getD_cons_zero]
      rw[Xc,k2]
      omega
    ·cases g
  ·cases h2
theorem uo(x:List Nat):∀(q l:List Nat),q≠[]→Lay q x l→∃t∈zS q x,t.2.getD 0 0=l.getD 0 0
 |[],_,h,_=>absurd rfl h
 |[a],l,_,h=>by
  cases l with
  |nil=>have:=h.len;simp at this
  |cons p l=>
   obtain⟨_,h1,h2,_⟩:=h.tail
   refine⟨(vZ a x p,[p]),?_,rfl⟩
   simp only[zS,uL,mem_map,mem_filter,mem_range]
   exact⟨p,⟨h1,h2⟩,rfl⟩
 |a::b::q,l,_,h=>by
  cases l with
  |nil=>have:=h.len;simp at this
  |cons p l=>
   obtain⟨h0,h1,h2,h3⟩:=h.tail
   obtain⟨u,u1,u2⟩:=uo x (b::q) l (by simp) h0
   have hl:0<l.length:=by rw[h0.len];simp
   have mem:(u.1+vA p (u.2.getD 0 0),u.2)∈wf p (zS (b::q) x):=by
    simp only[wf,mem_map,mem_filter,decide_eq_true_eq]
    exact⟨u,⟨u1,by rw[u2];exact h3 hl⟩,rfl⟩
   obtain⟨t,e,_⟩:=Vk _ (List.ne_nil_of_mem mem)
   refine⟨(vZ a x p+t.1,p::t.2),?_,rfl⟩
   simp only[zS,jz,mem_filterMap,mem_range]
   refine⟨p,h1,?_⟩
   unfold uc
   rw[if_pos h2,e]
   rfl
theorem jb(q x:List Nat)(hq:q≠[])(v:Int)(l:List Nat)(h:uM q x=some (v,l)):Lay q x l∧v=pts q x l q.length:=by
 unfold uM at h
 rcases wo _ _ _ h with g|g
 ·obtain⟨t,g1,g2⟩:=mem_map.mp g
  obtain⟨k1,k2⟩:=vf x q t g1
  simp only[Zt,Prod.mk.injEq] at g2
  obtain⟨rfl,rfl⟩:=g2
  refine⟨k1,?_⟩
  cases q with
  |nil=>exact absurd rfl hq
  |cons a q=>
   have hl:=k1.len
   cases e2:t.2 with
   |nil=>rw[e2] at hl;simp at hl
   |cons p l=>
    rw[e2] at k2 hl
    simp only[length_cons] at hl ⊢
    have:q.length=l.length:=by omega
    rw[this,← Ww,k2,getD_cons_zero]
 ·cases g
theorem Ql(q x l:List Nat)(hq:q≠[])(h:Lay q x l):∃v l',uM q x=some (v,l')∧Lay q x l'∧v=pts q x l' q.length:=by
 obtain⟨t,t1,_⟩:=uo x q l hq h
 obtain⟨⟨v,l'⟩,e,_⟩:=Vk ((zS q x).map Zt) (List.ne_nil_of_mem (mem_map_of_mem t1))
 exact⟨v,l',e,jb q x hq v l' e⟩
theorem Xs(q x:List Nat)(h:wQ q x=true):Lay q x (epR q x 0):=by
 have h1:=(jI q x 0).mpr h
 have h2:=Ub x.length q x 0 0 (Int.le_refl _) (by omega)
 have h3:=GU x id q x 0 rfl fun a _ c _ hm=>hm
 rw[map_id] at h3
 refine(Tr q x _).mp ?_
 unfold za7
 rw[h2,h3]
 simp[h1]
theorem uB(l:List Nat)(j:Nat)(h:j<l.length):(l.map (· - 1)).getD j 0=l.getD j 0-1:=by
 simp[getD_eq_getElem?_getD,getElem?_map,getElem?_eq_getElem h]
theorem Lay.back{q x l:List Nat}{c:Nat}(h:Lay q (c::x) l)(h0:∀j,j<l.length→0<l.getD j 0):Lay q x (l.map (· - 1)):=by
 refine⟨by simp[h.len],fun j hj=>?_,fun j hj=>?_,fun j hj=>?_⟩ <;> rw[length_map] at hj
 ·rw[uB _ _ (by omega),uB _ _ hj]
  have:=h.ris j hj;have:=h0 j (by omega);omega
 ·rw[uB _ _ hj]
  have:=h.inn j hj;have:=h0 j hj;simp only[length_cons] at *;omega
 ·rw[uB _ _ hj]
  have a:=h.met j hj;have b:=h0 j hj
  obtain⟨k,hk⟩:∃k,l.getD j 0=k+1:=⟨l.getD j 0-1,by omega⟩
  rw[hk,getD_cons_succ] at a
  rw[hk];exact a
theorem Lay.low{q x l:List Nat}(h:Lay q x l)(h0:0<l.getD 0 0):∀j,j<l.length→0<l.getD j 0:=fun j=>by
 induction j with
 |zero=>exact fun _=>h0
 |succ j ih=>intro hj;have:=h.ris j hj;omega
theorem jA:∀(x q l:List Nat),Lay q x l→wQ q x=true
 |[],q,l,h=>by
  cases q with
  |nil=>rfl
  |cons a q=>
   have:=h.inn 0 (by rw[h.len];simp)
   simp at this
 |c::x,q,l,h=>by
  cases q with
  |nil=>rfl
  |cons a q=>
   cases l with
   |nil=>have:=h.len;simp at this
   |cons p l=>
    simp only[wQ]
    split
    ·obtain⟨h1,_,_,h3⟩:=h.tail
     refine jA x q (l.map (· - 1)) (h1.back fun j hj=>?_)
     have h4:=h3 (by omega)
     exact h1.low (by omega) j hj
    ·rename_i hm
     refine jA x (a::q) ((p::l).map (· - 1)) (h.back (h.low ?_))
     rcases Nat.eq_zero_or_pos p with z|z
     ·subst z
      have:=h.met 0 (by simp)
      simp only[getD_cons_zero] at this
      exact absurd this hm
     ·simpa using z
end Law
set_option Elab.async false
set_option linter.all false
set_option maxHeartbeats 1000000
namespace FD
open PySem PySem.Spec PyProof.Rows L2
def negI:D→Rs D
 |.int i=>.ok (.int (-i))
 |_=>.no
@[simp] theorem Gi{i:Int}:negI (.int i)=.ok (.int (-i)):=rfl
theorem ZW{fa:FE}{τ:DS}:wA fa τ=(fa τ).bind negI:=by
 unfold wA
 show(fa τ).bind _=_
 cases fa τ with
 |ok d=>cases d <;> rfl
 |_=>rfl
theorem Gm(i j:Int):jy [.int i,.int j]=.ok (.int (if j<i then j else i)):=rfl
theorem Jd{fe:FE}{τ:DS}:Ue fe τ=(fe τ).bind MG:=rfl
end FD
namespace Law
open PySem PySem.Spec PyProof.Rows L2 FD
abbrev tlD(t:Tl):D:=.tup [.int t.1,nts t.2]
def uG:Option Tl→D
 |none=>.non
 |some t=>tlD t
theorem Jp(t:Tl):ixD (tlD t) (.int 0)=.ok (.int t.1):=rfl
theorem Jo(t:Tl):ixD (tlD t) (.int 1)=.ok (nts t.2):=rfl
theorem za1(l:List Nat)(j:Nat)(h:j<l.length):ixD (nts l) (.int (j:Int))=.ok (.int (l.getD j 0:Nat)):=by
 refine Wf (YR (by omega) ?_)
 simp[getD_eq_getElem?_getD,getElem?_eq_getElem h]
theorem X8(l:List Nat)(h:0<l.length):ixD (nts l) (.int 0)=.ok (.int (l.getD 0 0:Nat)):=za1 l 0 h
theorem jF(x:List Nat)(j:Nat)(h:j<x.length):x[j]?=some (x.getD j 0):=by
 rw[getD_eq_getElem?_getD,getElem?_eq_getElem h];rfl
theorem Y7(x:List Nat)(j:Nat)(h:j<x.length)(hx:x.length≤1000):ixD (tx x) (.int (j:Int))=.ok (yf (x.getD j 0)):=Ut x j _ (jF x j h) hx
theorem TJ:("ABCDEFGHIJKLMNOPQRSTUVWXYZ" : Str).cps.toList=(List.range 26).map (· + 65):=by decide +kernel
theorem zc8:("0123456789" : Str).cps.toList=(List.range 10).map (· + 48):=by decide +kernel
theorem UB(c n a:Nat):decide (c∈(List.range (n+1)).map (· + a))=decide (a≤c∧c≤n+a):=by
 apply decide_eq_decide.mpr
 rw[mem_map]
 constructor
 ·rintro⟨i,hi,rfl⟩
  have:=mem_range.mp hi
  omega
 ·intro h
  exact⟨c-a,mem_range.mpr (by omega),by omega⟩
theorem uA(c:Nat):decide (c∈("ABCDEFGHIJKLMNOPQRSTUVWXYZ" : Str).cps.toList)=decide (65≤c∧c≤90):=by
 rw[TJ];exact UB c 25 65
theorem YF(c:Nat):decide (c∈("0123456789" : Str).cps.toList)=decide (48≤c∧c≤57):=by
 rw[zc8];exact UB c 9 48
theorem zd7(x:List Nat)(p:Nat)(hx:x.length≤1000)(hp:p<x.length):yA [tx x,.int (p:Int)]=.ok (.int (T3 x p)):=by
 have st:zV 3 [tx x,.int (p:Int)]=[some (.val (tx x)),some (.val (.int (p:Int))),none]:=rfl
 unfold yA vb
 rw[z9,st]
 cases p with
 |zero=>
  simp only[zM,yw,zZ,zW,xE,ye,zB,yL,getElem?_cons_zero,getElem?_cons_succ,zx,Rs.bind_ok,Fl.of_ok,jU,zK,zR,vD,if_true,show((((0:Nat):Int))==0)=true from rfl]
  rfl
 |succ k=>
  have e0:(((k+1:Nat):Int)==0)=false:=by simp;omega
  have e1:((k+1:Nat):Int)-1=(k:Int):=by omega
  have hk:=Y7 x k (by omega) hx
  have hk1:=Y7 x (k+1) hp hx
  have hb:T3 x (k+1)=if x.getD k 0∈MK then 6 else if (65≤x.getD (k+1) 0∧x.getD (k+1) 0≤90)∧((97≤x.getD k 0∧x.getD k 0≤122)∨(48≤x.getD k 0∧x.getD k 0≤57)) then 5 else 0:=by
   unfold T3;rw[if_neg (Nat.succ_ne_zero k)];rfl
  rw[hb]
  generalize x.getD k 0=c at *
  generalize x.getD (k+1) 0=d at *
  simp only[yf] at hk hk1
  by_cases h1:c∈MK
  ·simp only[zM,z8,yw,zZ,zW,xE,ye,zB,yL,getElem?_cons_zero,getElem?_cons_succ,set_cons_succ,set_cons_zero,zx,Rs.bind_ok,Fl.of_ok,yi,jU,zK,zR,vq,vD,if_true,Bool.false_eq_true,if_false,e0,e1,hk,YA,wj,JQ,h1,decide_true]
  ·by_cases h2:65≤d∧d≤90
   ·by_cases h3:97≤c∧c≤122
    ·have h4:(65≤d∧d≤90)∧((97≤c∧c≤122)∨(48≤c∧c≤57)):=⟨h2,.inl h3⟩
     rw[if_neg h1,if_pos h4]
     simp only[zM,z8,yw,zZ,zW,xE,vg,vI,ye,zB,yL,getElem?_cons_zero,getElem?_cons_succ,set_cons_succ,set_cons_zero,zx,Rs.bind_ok,Fl.of_ok,yi,jU,zK,zR,vq,vD,if_true,Bool.false_eq_true,if_false,e0,e1,hk,hk1,YA,wj,JQ,h1,decide_false,uA,ut,YF,h2,h3,and_self,decide_true]
    ·by_cases h5:48≤c∧c≤57
     ·have h4:(65≤d∧d≤90)∧((97≤c∧c≤122)∨(48≤c∧c≤57)):=⟨h2,.inr h5⟩
      rw[if_neg h1,if_pos h4]
      simp only[zM,z8,yw,zZ,zW,xE,vg,vI,ye,zB,yL,getElem?_cons_zero,getElem?_cons_succ,set_cons_succ,set_cons_zero,zx,Rs.bind_ok,Fl.of_ok,yi,jU,zK,zR,vq,vD,if_true,Bool.false_eq_true,if_false,e0,e1,hk,hk1,YA,wj,JQ,h1,decide_false,uA,ut,YF,decide_eq_true h2,decide_eq_false h3,decide_eq_true h5]
     ·have h4:¬ ((65≤d∧d≤90)∧((97≤c∧c≤122)∨(48≤c∧c≤57))):=fun h=>by rcases h.2 with h|h;exact h3 h;exact h5 h
      rw[if_neg h1,if_neg h4]
      simp only[zM,z8,yw,zZ,zW,xE,vg,vI,ye,zB,yL,getElem?_cons_zero,getElem?_cons_succ,set_cons_succ,set_cons_zero,zx,Rs.bind_ok,Fl.of_ok,yi,zK,zR,vq,vD,if_true,Bool.false_eq_true,if_false,e0,e1,hk,hk1,YA,wj,JQ,h1,decide_false,uA,ut,YF,decide_eq_true h2,decide_eq_false h3,decide_eq_false h5]
   ·have h4:¬ ((65≤d∧d≤90)∧((97≤c∧c≤122)∨(48≤c∧c≤57))):=fun h=>h2 h.1
    rw[if_neg h1,if_neg h4]
    simp only[zM,z8,yw,zZ,zW,xE,vg,vI,ye,zB,yL,getElem?_cons_zero,getElem?_cons_succ,set_cons_succ,set_cons_zero,zx,Rs.bind_ok,Fl.of_ok,yi,zK,zR,vq,vD,Bool.false_eq_true,if_false,e0,e1,hk,hk1,YA,wj,JQ,h1,decide_false,uA,decide_eq_false h2]
theorem Q6(a:Nat)(x:List Nat)(p:Nat)(hx:x.length≤1000)(hp:p<x.length):yt [yf a,tx x,.int (p:Int)]=.ok (.int (vZ a x p)):=by
 have st:zV 4 [yf a,tx x,.int (p:Int)]=[some (.val (yf a)),some (.val (tx x)),some (.val (.int (p:Int))),none]:=rfl
 have hk:=Y7 x p hp hx
 have hb:=zd7 x p hx hp
 unfold yt jN vZ
 rw[z9,st]
 simp only[yf] at hk ⊢
 by_cases h:x.getD p 0=a
 ·have h':(x.getD p 0==a)=true:=by simpa using h
  rw[if_pos h]
  simp only[zM,z8,zZ,xE,ye,zB,yL,zJ,zu,yv,GW,getElem?_cons_zero,getElem?_cons_succ,set_cons_succ,set_cons_zero,zx,Rs.bind_ok,Fl.of_ok,yi,zK,xx,zR,xO,GT,if_true,hk,VY,h',hb]
 ·have h':(x.getD p 0==a)=false:=by simpa using h
  rw[if_neg h]
  simp only[zM,z8,zZ,xE,ye,zB,yL,zJ,zu,yv,GW,getElem?_cons_zero,getElem?_cons_succ,set_cons_succ,set_cons_zero,zx,Rs.bind_ok,Fl.of_ok,yi,zK,xx,zR,xO,GT,Bool.false_eq_true,if_false,hk,VY,h',hb]
theorem To(p:Nat):yR [.int (p:Int)]=.ok (.int (Xr p)):=by
 have st:zV 1 [.int (p:Int)]=[some (.val (.int (p:Int)))]:=rfl
 unfold yR uO Xr
 rw[z9,st]
 simp only[zZ,zB,yL,zJ,zu,wb,getElem?_cons_zero,zx,Rs.bind_ok,Fl.of_ok,zK,Gm,ZW,Gi]
 congr 3
 split <;> split <;> omega
theorem Tj(r p:Nat):xg [.int (r:Int),.int (p:Int)]=.ok (.int (vA r p)):=by
 have st:zV 3 [.int (r:Int),.int (p:Int)]=[some (.val (.int (r:Int))),some (.val (.int (p:Int))),none]:=rfl
 unfold xg uN vA
 rw[z9,st]
 by_cases h:(p:Int)-r-1=0
 ·have h':((p:Int)-r-1==0)=true:=by simpa using h
  rw[if_pos h]
  simp only[zM,z8,yw,zZ,zW,xE,ye,zB,yL,getElem?_cons_zero,getElem?_cons_succ,set_cons_succ,set_cons_zero,zx,Rs.bind_ok,Fl.of_ok,yi,jU,zK,zR,vq,vD,if_true,h']
 ·have h':((p:Int)-r-1==0)=false:=by simpa using h
  rw[if_neg h]
  simp only[zM,z8,yw,zZ,zW,xE,ye,zB,yL,zJ,zu,wb,getElem?_cons_zero,getElem?_cons_succ,set_cons_succ,set_cons_zero,zx,Rs.bind_ok,Fl.of_ok,yi,zK,zR,vq,vD,Bool.false_eq_true,if_false,h',Gm,ZW,Gi]
  congr 3
  split <;> split <;> omega
end Law
set_option Elab.async false
set_option linter.all false
set_option maxHeartbeats 1000000
namespace FD
open PySem PySem.Spec PyProof.Rows L2
theorem LF{fs:FA}{τ:DS}{i j:Int}(h:fs τ=.ok [.int i,.int j,.int (-1)])(h1 : -(2 ^ 62)≤i)(h2:i<2 ^ 62)(h3 : -(2 ^ 62)≤j)(h4:j<2 ^ 62):J5 fs τ=.ok (Zq i (i-j).toNat):=by
 unfold J5
 rw[h]
 simp only[Rs.bind_ok,Vd]
 rw[if_pos ⟨⟨h1,h2⟩,h3,h4⟩]
end FD
namespace Law
open PySem PySem.Spec PyProof.Rows L2 FD
def Zj:FS:=(sIf (jV (FD.tB (eOp isD (zd 1) (eC .non))) (FD.tB (eOp gtD (eOp ixD (zd 2) (eC (.int 0))) (eOp ixD (zd 1) (eC (.int 0)))))) (yo 1 (zd 2)) yg)
theorem zc1:isD .non .non=.ok (.bl true):=rfl
theorem Li(t:Tl):isD (tlD t) .non=.ok (.bl false):=rfl
theorem Xx:vR .non .non=.ok (.bl false):=rfl
theorem W7(t:Tl):vR (tlD t) .non=.ok (.bl true):=rfl
theorem Wj(z:D):∀(ts:List Tl) (c:Option Tl) (s:Option Sl),∃s',yK (gNm 2) Zj (ts.map tlD) [some (.val z),some (.val (uG c)),s]=.nx [some (.val z),some (.val (uG (wg ts c))),s']
 |[],c,s=>⟨s,rfl⟩
 |t::ts,none,s=>by
  obtain⟨s',ih⟩:=Wj z ts (some t) (some (.val (tlD t)))
  refine⟨s',?_⟩
  have:Zj [some (.val z),some (.val (uG none)),some (.val (tlD t))]=.nx [some (.val z),some (.val (uG (some t))),some (.val (tlD t))]:=by
   unfold Zj uG
   simp only[z8,yw,zW,xE,vI,ye,zB,yL,getElem?_cons_zero,getElem?_cons_succ,set_cons_succ,set_cons_zero,zx,Rs.bind_ok,Fl.of_ok,zR,if_true,zc1]
  rw[map_cons,yK,u8,Fl.of_ok]
  simp only[set_cons_succ,set_cons_zero,this]
  rw[ih]
  rfl
 |t::ts,some c,s=>by
  obtain⟨s',ih⟩:=Wj z ts (some (if c.1<t.1 then t else c)) (some (.val (tlD t)))
  refine⟨s',?_⟩
  have:Zj [some (.val z),some (.val (uG (some c))),some (.val (tlD t))]=.nx [some (.val z),some (.val (uG (some (if c.1<t.1 then t else c)))),some (.val (tlD t))]:=by
   unfold Zj uG
   by_cases h:c.1<t.1
   ·rw[if_pos h]
    simp only[z8,yw,zW,xE,vI,ye,zB,yL,getElem?_cons_zero,getElem?_cons_succ,set_cons_succ,set_cons_zero,zx,Rs.bind_ok,Fl.of_ok,zR,U9,if_true,Bool.false_eq_true,if_false,Li,Jp,h,decide_true]
   ·rw[if_neg h]
    simp only[z8,yw,zW,xE,vI,ye,zB,yL,getElem?_cons_zero,getElem?_cons_succ,set_cons_succ,set_cons_zero,zx,Rs.bind_ok,Fl.of_ok,zR,U9,Bool.false_eq_true,if_false,Li,Jp,h,decide_false]
  rw[map_cons,yK,u8,Fl.of_ok]
  simp only[set_cons_succ,set_cons_zero,this]
  rw[ih]
  rfl
theorem Lp(ts:List Tl):zO [.lst (ts.map tlD)]=.ok (uG (wg ts none)):=by
 have st:zV 3 [.lst (ts.map tlD)]=[some (.val (.lst (ts.map tlD))),none,none]:=rfl
 obtain⟨s',h⟩:=Wj (.lst (ts.map tlD)) ts none none
 unfold Zj at h
 unfold zO vY
 rw[z9,st]
 simp only[uG] at h
 simp only[zM,z8,zZ,wL,Wh,GC,zB,yL,getElem?_cons_zero,getElem?_cons_succ,set_cons_succ,set_cons_zero,zx,Rs.bind_ok,Fl.of_ok,yi,zK,h]
 rfl
theorem size2:∀a b:D,([a,b]:List D).length≤sizeLine:=fun a b=>by rw[zT];exact Nat.le_of_ble_eq_true rfl
theorem size1:∀a:D,([a]:List D).length≤sizeLine:=fun a=>by rw[zT];exact Nat.le_of_ble_eq_true rfl
theorem VG{fa fb:FE}{τ:DS}{a b:D}(h1:fa τ=.ok a)(h2:fb τ=.ok b):wa (za fa (za fb zh)) τ=.ok (.tup [a,b]):=by
 rw[Jc,zu,h1,Rs.bind_ok,zu,h2,Rs.bind_ok,zJ,Rs.bind_ok,Rs.bind_ok,Rs.bind_ok]
 exact if_pos (size2 a b)
theorem Gn{fa:FE}{τ:DS}{a:D}(h1:fa τ=.ok a):xP (za fa zh) τ=.ok (.lst [a]):=by
 rw[ZX,zu,h1,Rs.bind_ok,zJ,Rs.bind_ok,Rs.bind_ok]
 exact if_pos (size1 a)
theorem Lr{f:List D→Rs D}{fa:FE}{τ:DS}{a d:D}(h1:fa τ=.ok a)(h:f [a]=.ok d):zo f (za fa zh) τ=.ok d:=by
 rw[yv,zu,h1,Rs.bind_ok,zJ,Rs.bind_ok,Rs.bind_ok,h];rfl
theorem wX{f:List D→Rs D}{fa fb:FE}{τ:DS}{a b d:D}(h1:fa τ=.ok a)(h2:fb τ=.ok b)(h:f [a,b]=.ok d):zo f (za fa (za fb zh)) τ=.ok d:=by
 rw[yv,zu,h1,Rs.bind_ok,zu,h2,Rs.bind_ok,zJ,Rs.bind_ok,Rs.bind_ok,Rs.bind_ok,h];rfl
theorem wW{f:List D→Rs D}{fa fb fc:FE}{τ:DS}{a b c d:D}(h1:fa τ=.ok a)(h2:fb τ=.ok b)(h3:fc τ=.ok c)(h:f [a,b,c]=.ok d):zo f (za fa (za fb (za fc zh))) τ=.ok d:=by
 rw[yv,zu,h1,Rs.bind_ok,zu,h2,Rs.bind_ok,zu,h3,Rs.bind_ok,zJ,Rs.bind_ok,Rs.bind_ok,Rs.bind_ok,Rs.bind_ok,h];rfl
theorem op2{op:D→D→Rs D}{fa fb:FE}{τ:DS}{a b:D}{r:Rs D}(h1:fa τ=.ok a)(h2:fb τ=.ok b)(h:op a b=r):eOp op fa fb τ=r:=by
 rw[ye,h1,Rs.bind_ok,h2,Rs.bind_ok,h]
theorem zg{n:Nat}{τ:DS}{d:D}(h:τ[n]?=some (some (.val d))):zd n τ=.ok d:=by rw[zB,h];rfl
theorem xa{k:Nat}{idx:List Nat}{fi:FA}{set:FG}{ft:FT}{fe:FE}{τ:DS}{ds xs:List D}(h1:fi τ=.ok ds)(h2:vE set ft fe (vc k idx τ) ds=.ok xs)(h3:xs.length≤1000):yu k idx fi set ft fe τ=.ok xs:=by
 unfold yu
 rw[h1,Rs.bind_ok,h2]
 exact if_pos (by rw[zT];omega)
theorem tru_ok{fe:FE}{τ:DS}{b:Bool}(h:fe τ=.ok (.bl b)):jh fe τ=.ok b:=by rw[wK,h];rfl
theorem wH{fe:FE}{τ:DS}{b:Bool}(h:fe τ=.ok (.bl b)):FD.tB fe τ=.ok b:=by rw[xE,h];rfl
theorem Yc{fa:FE}{τ:DS}{n:Nat}(h:fa τ=.ok (.int (n:Int)))(hn:n≤1000):ve (za fa zh) τ=.ok ((List.range n).map fun (k:Nat)=>D.int (0+k)):=by
 rw[XW (j:=(n:Int)) (by rw[zu,h,Rs.bind_ok,zJ,Rs.bind_ok]) (by omega) (by omega),toNat_natCast];rfl
theorem uI{g:List D→Rs D}{fa:FE}{τ:DS}{a d:D}(h1:fa τ=.ok a)(h:g [a]=.ok d):yk g (za fa zh) τ=.ok d:=by
 rw[wb,zu,h1,Rs.bind_ok,zJ,Rs.bind_ok,Rs.bind_ok,h]
theorem Y4(a:Nat)(x:List Nat)(ha:a<128)(hx:x.length≤1000):yh [yf a,tx x]=.ok (.lst ((uL a x).map tlD)):=by
 have st:zV 2 [yf a,tx x]=[some (.val (yf a)),some (.val (tx x))]:=rfl
 have cf:=xb (set:=gNm 0) (ft:=(jh (zo xD (za (zd 1) (za (eOp ixD (zd 2) (zd 0)) zh))))) (fe:=(wa (za (zo yt (za (zd 1) (za (zd 2) (za (zd 0) zh)))) (za (xP (za (zd 0) zh)) zh)))) (τ:=[none,some (.val (yf a)),some (.val (tx x))])
  (fun (k:Nat)=>D.int (0+k)) (fun (p:Nat)=>tlD (vZ a x p,[p])) (fun p=>xk a (x.getD p 0)) (List.range x.length) fun p hp=>by
   have hp:=mem_range.mp hp
   refine⟨[some (.val (.int (p:Int))),some (.val (yf a)),some (.val (tx x))],by rw[Int.zero_add];rfl,?_,?_⟩
   ·exact tru_ok (wX (zg rfl) (op2 (zg rfl) (zg rfl) (Y7 x p hp hx)) (Yp a _ ha))
   ·exact VG (wW (zg rfl) (zg rfl) (zg rfl) (Q6 a x p hx hp)) (Gn (zg rfl))
 have hlen:(((List.range x.length).filter fun p=>xk a (x.getD p 0)).map fun (p:Nat)=>tlD (vZ a x p,[p])).length≤1000:=by
  rw[length_map]
  have:=length_filter_le (fun p=>xk a (x.getD p 0)) (List.range x.length)
  rw[length_range] at this;omega
 have ec:=xa (k:=1) (idx:=[0,1]) (fi:=ve (za (yk y7 (za (zd 1) zh)) zh)) (τ:=[some (.val (yf a)),some (.val (tx x))]) (Yc (uI (zg rfl) (wB x hx)) hx) cf hlen
 unfold yh vo
 rw[z9,st,zZ]
 simp only[ec,Rs.bind_ok,Fl.of_ok,zK]
 unfold uL
 rw[map_map]
 rfl
theorem JV(p:Nat)(ts:List Tl)(hs:ts.length≤1000)(hn:∀t∈ts,0<t.2.length):yC [.int (p:Int),.lst (ts.map tlD)]=.ok (.lst ((wf p ts).map tlD)):=by
 have st:zV 2 [.int (p:Int),.lst (ts.map tlD)]=[some (.val (.int (p:Int))),some (.val (.lst (ts.map tlD)))]:=rfl
 have cf:=xb (set:=gNm 0) (ft:=(FD.tB (eOp gtD (eOp ixD (eOp ixD (zd 0) (eC (.int 1))) (eC (.int 0))) (zd 1)))) (fe:=(wa (za (eOp zQ (eOp ixD (zd 0) (eC (.int 0))) (zo xg (za (zd 1) (za (eOp ixD (eOp ixD (zd 0) (eC (.int 1))) (eC (.int 0))) zh)))) (za (eOp ixD (zd 0) (eC (.int 1))) zh)))) (τ:=[none,some (.val (.int (p:Int)))])
  tlD (fun t=>tlD (t.1+vA p (t.2.getD 0 0),t.2)) (fun t=>decide (p<t.2.getD 0 0)) ts fun t ht=>by
   refine⟨[some (.val (tlD t)),some (.val (.int (p:Int)))],rfl,?_,?_⟩
   ·have:=X8 t.2 (hn t ht)
    refine wH (op2 (op2 (op2 (zg rfl) rfl (Jo t)) rfl this) (zg rfl) ?_)
    rw[U9]
    congr 2
    exact decide_eq_decide.mpr (by omega)
   ·have:=X8 t.2 (hn t ht)
    exact VG (op2 (op2 (zg rfl) rfl (Jp t)) (wX (zg rfl) (op2 (op2 (zg rfl) rfl (Jo t)) rfl this) (Tj p _)) (xO)) (op2 (zg rfl) rfl (Jo t))
 have hlen:((ts.filter fun t=>decide (p<t.2.getD 0 0)).map fun t=>tlD (t.1+vA p (t.2.getD 0 0),t.2)).length≤1000:=by
  rw[length_map]
  have:=length_filter_le (fun t:Tl=>decide (p<t.2.getD 0 0)) ts
  omega
 have it:xl (zd 1) [some (.val (.int (p:Int))),some (.val (.lst (ts.map tlD)))]=.ok (ts.map tlD):=rfl
 have ec:=xa (k:=1) (idx:=[0]) (τ:=[some (.val (.int (p:Int))),some (.val (.lst (ts.map tlD)))]) it cf hlen
 unfold yC um
 rw[z9,st,zZ]
 simp only[ec,Rs.bind_ok,Fl.of_ok,zK]
 unfold wf
 rw[map_map]
 rfl
def Ze:FS:=(sIf (jh (zo xD (za (zd 0) (za (eOp ixD (zd 1) (zd 4)) zh)))) (zA (yo 5 (zo zO (za (zo yC (za (zd 4) (za (zd 2) zh))) zh)))
  (sIf (FD.tB (eOp vR (zd 5) (eC .non))) (YW 3 (wa (za (eOp zQ (zo yt (za (zd 0) (za (zd 1) (za (zd 4) zh)))) (eOp ixD (zd 5) (eC (.int 0)))) (za (eOp zQ (xP (za (zd 4) zh)) (eOp ixD (zd 5) (eC (.int 1)))) zh)))) yg)) yg)
theorem Qh(p:Nat)(l:List Nat)(h:l.length≤1000):zQ (.lst [.int (p:Int)]) (nts l)=.ok (nts (p::l)):=by
 show(if _ then Rs.ok (D.lst _) else Rs.no)=_
 rw[if_pos (by rw[zT,length_map,length_singleton];omega)]
 rfl
theorem Gs(p:Nat)(ts:List Tl):∀t,wg (wf p ts) none=some t→∃u∈ts,t.2=u.2:=fun t h=>by
 rcases wo _ _ _ h with g|g
 ·simp only[wf,mem_map,mem_filter] at g
  obtain⟨u,⟨g1,_⟩,rfl⟩:=g
  exact⟨u,g1,rfl⟩
 ·cases g
theorem Tk(a:Nat)(x:List Nat)(ts acc:List Tl)(p:Nat)(s5:Option Sl)(ha:a<128)(hx:x.length≤1000)(hs:ts.length≤1000)(hn:∀t∈ts,0<t.2.length∧t.2.length≤1000)(hp:p<x.length)(hc:acc.length≤1000) :
  ∃s',Ze [some (.val (yf a)),some (.val (tx x)),some (.val (.lst (ts.map tlD))),some (.own (acc.map tlD)),some (.val (.int (p:Int))),s5]=.nx [some (.val (yf a)),some (.val (tx x)),some (.val (.lst (ts.map tlD))),some (.own ((acc++(uc a x ts p).toList).map tlD)),some (.val (.int (p:Int))),s']:=by
 have hm:=Yp a (x.getD p 0) ha
 have hlk:=JV p ts hs fun t ht=>(hn t ht).1
 have hfm:=Lp (wf p ts)
 have how:=Q6 a x p hx hp
 have hix:=Y7 x p hp hx
 have hsz:(acc.map tlD).length<sizeLine:=by rw[zT,length_map];omega
 unfold Ze uc
 generalize xD=fa at hm ⊢
 generalize yC=fb at hlk ⊢
 generalize zO=fc at hfm ⊢
 generalize yt=fd at how ⊢
 by_cases h:xk a (x.getD p 0)=true
 ·rw[if_pos h]
  rw[h] at hm
  cases e:wg (wf p ts) none with
  |none=>
   rw[e] at hfm
   refine⟨some (.val .non),?_⟩
   simp only[zM,z8,yw,zW,vh,xE,wK,ye,zB,yL,zJ,zu,yv,getElem?_cons_zero,getElem?_cons_succ,set_cons_succ,set_cons_zero,zx,y3,Rs.bind_ok,Fl.of_ok,yi,xx,zR,vG,if_true,Bool.false_eq_true,if_false,hix,hm,hlk,hfm,uG,Xx,Option.map_none,Option.toList_none,append_nil]
  |some t=>
   rw[e] at hfm
   obtain⟨u,u1,u2⟩:=Gs p ts t e
   have hct:=Qh p t.2 (by rw[u2];exact(hn u u1).2)
   refine⟨some (.val (tlD t)),?_⟩
   have tp:wa (za (eOp zQ (zo fd (za (zd 0) (za (zd 1) (za (zd 4) zh)))) (eOp ixD (zd 5) (eC (.int 0)))) (za (eOp zQ (xP (za (zd 4) zh)) (eOp ixD (zd 5) (eC (.int 1)))) zh)) [some (.val (yf a)),some (.val (tx x)),some (.val (.lst (ts.map tlD))),some (.own (acc.map tlD)),some (.val (.int (p:Int))),some (.val (tlD t))]=.ok (tlD (vZ a x p+t.1,p::t.2)):=
    VG (op2 (wW (zg rfl) (zg rfl) (zg rfl) how) (op2 (zg rfl) rfl (Jp t)) xO) (op2 (Gn (zg rfl)) (op2 (zg rfl) rfl (Jo t)) hct)
   simp only[zM,z8,yw,zW,vh,xE,wK,ye,zB,yL,zJ,zu,yv,getElem?_cons_zero,getElem?_cons_succ,set_cons_succ,set_cons_zero,zx,y3,Rs.bind_ok,Fl.of_ok,yi,xx,zR,vG,if_true,hix,hm,hlk,hfm,uG,W7,tp,hsz,Option.map_some,Option.toList_some,map_append,map_cons,map_nil]
 ·have h':xk a (x.getD p 0)=false:=by simpa using h
  rw[h'] at hm
  rw[if_neg h]
  refine⟨s5,?_⟩
  simp only[zM,z8,yw,zW,wK,ye,zB,zJ,zu,yv,getElem?_cons_zero,getElem?_cons_succ,set_cons_succ,set_cons_zero,zx,Rs.bind_ok,Fl.of_ok,xx,vG,Bool.false_eq_true,if_false,hix,hm,Option.toList_none,append_nil]
theorem YE(f:Nat→Option Tl)(k:Nat):(List.range (k+1)).filterMap f=(List.range k).filterMap f++(f k).toList:=by
 rw[List.range_succ,List.filterMap_append]
 simp only[filterMap_cons,List.filterMap_nil]
 cases h:f k <;> rfl
theorem Xo(f:Nat→Option Tl)(k:Nat):((List.range k).filterMap f).length≤k:=by
 have:=List.length_filterMap_le f (List.range k)
 rwa [length_range] at this
theorem Tm(a:Nat)(x:List Nat)(ts:List Tl)(ha:a<128)(hx:x.length≤1000)(hs:ts.length≤1000)(hn:∀t∈ts,0<t.2.length∧t.2.length≤1000) :
  ∃s4 s5,yK (gNm 4) Ze ((List.range x.length).map fun (k:Nat)=>D.int (0+k)) [some (.val (yf a)),some (.val (tx x)),some (.val (.lst (ts.map tlD))),some (.own []),none,none]=.nx [some (.val (yf a)),some (.val (tx x)),some (.val (.lst (ts.map tlD))),some (.own ((jz a x ts).map tlD)),s4,s5]:=by
 obtain⟨τ',h1,s4,s5,h2⟩:=Zd (set:=gNm 4) (body:=Ze) (fun (k:Nat)=>D.int (0+k)) (fun k τ=>∃s4 s5,τ=[some (.val (yf a)),some (.val (tx x)),some (.val (.lst (ts.map tlD))),some (.own (((List.range k).filterMap (uc a x ts)).map tlD)),s4,s5]) x.length
  [some (.val (yf a)),some (.val (tx x)),some (.val (.lst (ts.map tlD))),some (.own []),none,none] ⟨_,_,rfl⟩ fun k τ hk ⟨s4,s5,e⟩=>by
   subst e
   obtain⟨s',g⟩:=Tk a x ts ((List.range k).filterMap (uc a x ts)) k s5 ha hx hs hn hk (by have:=Xo (uc a x ts) k;omega)
   have e0:(0:Int)+(k:Int)=(k:Int):=by omega
   rw[YE]
   exact⟨_,_,by rw[e0];exact u8,g,_,_,rfl⟩
 subst h2
 exact⟨s4,s5,h1⟩
theorem zc4(bd:FS)(ri:FA)(A B C:D)(n:Nat)(P:List D)(s4 s5:Option Sl)(r1:ri [some (.val A),some (.val B),some (.val C),some (.own []),none,none]=.ok ((List.range n).map fun (k:Nat)=>D.int (0+k)))
  (h1:yK (gNm 4) bd ((List.range n).map fun (k:Nat)=>D.int (0+k)) [some (.val A),some (.val B),some (.val C),some (.own []),none,none]=.nx [some (.val A),some (.val B),some (.val C),some (.own P),s4,s5]) :
  xw 6 (zA (vy 3 (fun τ=>(zh τ).bind fun ds=>if ds.length≤sizeLine then .ok ds else .no)) (zA (vz ri (gNm 4) bd) (vV 3))) [A,B,C]=.ok (.lst P):=by
 have st:zV 6 [A,B,C]=[some (.val A),some (.val B),some (.val C),none,none,none]:=rfl
 rw[z9,st]
 simp only[zM,ww,wx,wz,wL,zJ,getElem?_cons_zero,getElem?_cons_succ,set_cons_succ,set_cons_zero,y3,Rs.bind_ok,Fl.of_ok,yi,zK,if_true,length_nil,zero_le,r1,h1]
theorem Gp:wY=(zA (vy 3 (fun τ=>(zh τ).bind fun ds=>if ds.length≤sizeLine then .ok ds else .no)) (zA (vz (ve (za (yk y7 (za (zd 1) zh)) zh)) (gNm 4) Ze) (vV 3))):=by unfold wY Ze;rfl
theorem JT(a:Nat)(x:List Nat)(ts:List Tl)(ha:a<128)(hx:x.length≤1000)(hs:ts.length≤1000)(hn:∀t∈ts,0<t.2.length∧t.2.length≤1000):yY [yf a,tx x,.lst (ts.map tlD)]=.ok (.lst ((jz a x ts).map tlD)):=by
 obtain⟨s4,s5,h1⟩:=Tm a x ts ha hx hs hn
 unfold yY
 rw[Gp]
 exact zc4 _ _ _ _ _ x.length _ _ _ (Yc (uI (zg rfl) (wB x hx)) hx) h1
theorem Xb(x:List Nat):∀q:List Nat,(zS q x).length≤x.length
 |[]=>by simp[zS]
 |[a]=>by
  simp only[zS,uL,length_map]
  have:=length_filter_le (fun p=>xk a (x.getD p 0)) (List.range x.length)
  rwa [length_range] at this
 |a::b::q=>by simp only[zS,jz];exact Xo _ _
theorem Wv(q x:List Nat)(hq:q≠[])(hl:q.length≤1000):∀t∈zS q x,0<t.2.length∧t.2.length≤1000:=fun t ht=>by
 have:=(vf x q t ht).1.len
 have:0<q.length:=List.length_pos_iff.mpr hq
 omega
def YN:FS:=(yo 2 (zo yY (za (eOp ixD (zd 0) (zd 3)) (za (zd 1) (za (zd 2) zh)))))
theorem T1(q x:List Nat)(m:Nat)(hm:q.length=m+1)(hq:q.length≤1000)(hx:x.length≤1000)(ha:∀c∈q,c<128) :
  ∃s,yK (gNm 3) YN (Zq ((m:Int)-1) m) [some (.val (tx q)),some (.val (tx x)),some (.val (.lst ((zS (q.drop m) x).map tlD))),none]=.nx [some (.val (tx q)),some (.val (tx x)),some (.val (.lst ((zS q x).map tlD))),s]:=by
 obtain⟨τ',h1,s,h2⟩:=Zd (set:=gNm 3) (body:=YN) (fun (k:Nat)=>D.int ((m:Int)-1-k)) (fun k τ=>∃s,τ=[some (.val (tx q)),some (.val (tx x)),some (.val (.lst ((zS (q.drop (m-k)) x).map tlD))),s]) m
  [some (.val (tx q)),some (.val (tx x)),some (.val (.lst ((zS (q.drop m) x).map tlD))),none] ⟨_,rfl⟩ fun k τ hk ⟨s,e⟩=>by
   subst e
   obtain⟨j,hj⟩:∃j,m=j+1+k:=⟨m-1-k,by omega⟩
   have e0:(m:Int)-1-(k:Int)=(j:Int):=by omega
   have d1:q.drop (m-k)=q.drop (j+1):=by congr 1;omega
   have d2:q.drop (m-(k+1))=q.drop j:=by congr 1;omega
   have hjq:j<q.length:=by omega
   have hne:q.drop (j+1)≠[]:=fun h=>by
    have:=congrArg List.length h
    rw[length_drop] at this;simp at this;omega
   have hlg:=JT (q.getD j 0) x (zS (q.drop (j+1)) x) (ha _ (mem_of_getElem? (jF q j hjq))) hx (by have:=Xb x (q.drop (j+1));omega) (Wv _ x hne (by rw[length_drop];omega))
   have ht:jz (q.getD j 0) x (zS (q.drop (j+1)) x)=zS (q.drop j) x:=by
    have e1:q.drop j=q.getD j 0::q.drop (j+1):=by
     rw[drop_eq_getElem_cons hjq,getD_eq_getElem?_getD,getElem?_eq_getElem hjq];rfl
    rw[e1]
    cases e2:q.drop (j+1) with
    |nil=>exact absurd e2 hne
    |cons b r=>rfl
   rw[ht] at hlg
   rw[d1,d2]
   refine⟨[some (.val (tx q)),some (.val (tx x)),some (.val (.lst ((zS (q.drop (j+1)) x).map tlD))),some (.val (.int (j:Int)))],[some (.val (tx q)),some (.val (tx x)),some (.val (.lst ((zS (q.drop j) x).map tlD))),some (.val (.int (j:Int)))],by rw[e0];rfl,?_,_,rfl⟩
   unfold YN
   rw[z8,wW (op2 (zg rfl) (zg rfl) (Y7 q j hjq hq)) (zg rfl) (zg rfl) hlg,Fl.of_ok]
   rfl
 subst h2
 refine⟨s,?_⟩
 rw[Nat.sub_self,List.drop_zero] at h1
 exact h1
def ldE:FE:=(fun τ=>((yu 1 [] (xl (zd 2)) (gNm 0) (fun _=>.ok true) (wa (za (eOp zQ (eOp ixD (zd 0) (eC (.int 0))) (zo yR (za (eOp ixD (eOp ixD (zd 0) (eC (.int 1))) (eC (.int 0))) zh))) (za (eOp ixD (zd 0) (eC (.int 1))) zh)))) τ).bind fun ds=>.ok (.lst ds))
theorem ld_ok(A B:D)(ts:List Tl)(s:Option Sl)(hs:ts.length≤1000)(hn:∀t∈ts,0<t.2.length):ldE [some (.val A),some (.val B),some (.val (.lst (ts.map tlD))),s]=.ok (.lst ((ts.map Zt).map tlD)):=by
 have cf:=xR (set:=gNm 0) (fe:=(wa (za (eOp zQ (eOp ixD (zd 0) (eC (.int 0))) (zo yR (za (eOp ixD (eOp ixD (zd 0) (eC (.int 1))) (eC (.int 0))) zh))) (za (eOp ixD (zd 0) (eC (.int 1))) zh)))) (τ:=[none]) tlD tlD Zt ts fun t ht=>by
   refine⟨[some (.val (tlD t))],rfl,?_⟩
   have:=X8 t.2 (hn t ht)
   exact VG (op2 (op2 (zg rfl) rfl (Jp t)) (Lr (op2 (op2 (zg rfl) rfl (Jo t)) rfl this) (To _)) xO) (op2 (zg rfl) rfl (Jo t))
 have it:xl (zd 2) [some (.val A),some (.val B),some (.val (.lst (ts.map tlD))),s]=.ok (ts.map tlD):=rfl
 have ec:=xa (k:=1) (idx:=[]) (τ:=[some (.val A),some (.val B),some (.val (.lst (ts.map tlD))),s]) it cf (by simpa using hs)
 unfold ldE
 simp only[ec,Rs.bind_ok]
theorem G6:Uk=(zA (sIf (FD.tB (eOp eqD (yk y7 (za (zd 0) zh)) (eC (.int 0)))) (yG (wa (za (eC (.int 0)) (za (xP zh) zh)))) yg)
  (zA (yo 2 (zo yh (za (eOp ixD (zd 0) (wA (eC (.int 1)))) (za (zd 1) zh))))
  (zA (vz (J5 (za (eOp uP (yk y7 (za (zd 0) zh)) (eC (.int 2))) (za (wA (eC (.int 1))) (za (wA (eC (.int 1))) zh)))) (gNm 3) YN)
  (yG (zo zO (za ldE zh)))))):=by unfold Uk YN ldE;rfl
theorem za4(q:List Nat)(m:Nat)(hm:q.length=m+1)(hq:q.length≤1000):ixD (tx q) (.int (-1))=.ok (yf (q.getD m 0)):=by
 refine ZT ?_ (by rw[V0,zT];omega)
 have e:ixN q.length (-1)=some m:=by
  unfold ixN
  rw[if_neg (by omega),if_pos (by omega)]
  congr 1;omega
 unfold atI
 show(ixN q.length (-1)).bind _=_
 rw[e]
 exact jF q m (by omega)
theorem bs_r3(q x:List Nat)(T:D)(m:Nat)(hm:q.length=m+1)(hq:q.length≤1000):J5 (za (eOp uP (yk y7 (za (zd 0) zh)) (eC (.int 2))) (za (wA (eC (.int 1))) (za (wA (eC (.int 1))) zh))) [some (.val (tx q)),some (.val (tx x)),some (.val T),none]=.ok (Zq ((m:Int)-1) m):=by
 have a1:eOp uP (yk y7 (za (zd 0) zh)) (eC (.int 2)) [some (.val (tx q)),some (.val (tx x)),some (.val T),none]=.ok (.int ((m:Int)-1)):=by
  refine op2 (uI (zg rfl) (wB q hq)) rfl ?_
  rw[vq];congr 2;omega
 have a2:∀τ,wA (eC (.int 1)) τ=.ok (.int (-1)):=fun τ=>rfl
 have r3:=LF (fs:=za (eOp uP (yk y7 (za (zd 0) zh)) (eC (.int 2))) (za (wA (eC (.int 1))) (za (wA (eC (.int 1))) zh))) (τ:=[some (.val (tx q)),some (.val (tx x)),some (.val T),none]) (i:=(m:Int)-1) (j:=-1)
  (by rw[zu,a1,Rs.bind_ok,zu,a2,Rs.bind_ok,zu,a2,Rs.bind_ok,zJ,Rs.bind_ok,Rs.bind_ok,Rs.bind_ok]) (by omega) (by omega) (by omega) (by omega)
 rw[r3]
 congr 2
 omega
theorem zc5(g1:FT)(g2:FS)(e1 e2:FE)(r3:FA)(bd:FS)(A B T T' R:D)(L:List D)(s:Option Sl)(h0:g1 [some (.val A),some (.val B),none,none]=.ok false)(h1:e1 [some (.val A),some (.val B),none,none]=.ok T)(h2:r3 [some (.val A),some (.val B),some (.val T),none]=.ok L)(h3:yK (gNm 3) bd L [some (.val A),some (.val B),some (.val T),none]=.nx [some (.val A),some (.val B),some (.val T'),s])(h4:e2 [some (.val A),some (.val B),some (.val T'),s]=.ok R) :
  xw 4 (zA (sIf g1 g2 yg) (zA (yo 2 e1) (zA (vz r3 (gNm 3) bd) (yG e2)))) [A,B]=.ok R:=by
 have st:zV 4 [A,B]=[some (.val A),some (.val B),none,none]:=rfl
 rw[z9,st]
 simp only[zM,z8,yw,zZ,zW,wL,set_cons_succ,set_cons_zero,Fl.of_ok,yi,zK,Bool.false_eq_true,if_false,h0,h1,h2,h3,h4]
theorem T2(q x:List Nat)(hne:q≠[])(hq:q.length≤1000)(hx:x.length≤1000)(ha:∀c∈q,c<128):x8 [tx q,tx x]=.ok (uG (uM q x)):=by
 have hpos:0<q.length:=List.length_pos_iff.mpr hne
 obtain⟨m,hm⟩:∃m,q.length=m+1:=⟨q.length-1,by omega⟩
 obtain⟨s,hl⟩:=T1 q x m hm hq hx ha
 have hmem:q.getD m 0∈q:=mem_of_getElem? (jF q m (by omega))
 have d:zS (q.drop m) x=uL (q.getD m 0) x:=by
  have e1:q.drop m=[q.getD m 0]:=by
   rw[drop_eq_getElem_cons (by omega),getD_eq_getElem?_getD,getElem?_eq_getElem (by omega:m<q.length),List.drop_eq_nil_of_le (by omega)];rfl
  rw[e1];rfl
 rw[d] at hl
 have h0:FD.tB (eOp eqD (yk y7 (za (zd 0) zh)) (eC (.int 0))) [some (.val (tx q)),some (.val (tx x)),none,none]=.ok false:=by
  refine wH (op2 (uI (zg rfl) (wB q hq)) rfl ?_)
  rw[vD]
  congr 2
  simp;exact hne
 have h1:zo yh (za (eOp ixD (zd 0) (wA (eC (.int 1)))) (za (zd 1) zh)) [some (.val (tx q)),some (.val (tx x)),none,none]=.ok (.lst ((uL (q.getD m 0) x).map tlD)):=
  wX (op2 (zg rfl) rfl (za4 q m hm hq)) (zg rfl) (Y4 _ x (ha _ hmem) hx)
 have h4:zo zO (za ldE zh) [some (.val (tx q)),some (.val (tx x)),some (.val (.lst ((zS q x).map tlD))),s]=.ok (uG (uM q x)):=
  Lr (ld_ok _ _ _ _ (by have:=Xb x q;omega) fun t ht=>(Wv q x hne hq t ht).1) (Lp _)
 unfold x8
 rw[G6]
 exact zc5 _ _ _ _ _ _ _ _ _ _ _ _ _ h0 h1 (bs_r3 q x _ m hm hq) hl h4
def Y3:List Nat→List Nat→Bool
 |[],[]=>false
 |[],_::_=>true
 |_::_,[]=>false
 |x::xs,y::ys=>if x=y then Y3 xs ys else decide (x<y)
theorem Xp:∀l:List Nat,Y3 l l=false
 |[]=>rfl
 |x::xs=>by simp[Y3,Xp xs]
theorem Xq(l m:List Nat)(hl:0<l.length)(hm:0<m.length)(h:m.getD 0 0<l.getD 0 0):Y3 l m=false:=by
 cases l with
 |nil=>simp at hl
 |cons x xs=>
  cases m with
  |nil=>simp at hm
  |cons y ys=>
   simp only[getD_cons_zero] at h
   simp only[Y3]
   rw[if_neg (by omega)]
   exact decide_eq_false (by omega)
theorem ug:∀(ts:List Tl) (c t:Tl),wg ts (some c)=some t→(t=c∧∀u∈ts,u.1≤c.1)∨(∃pre post,ts=pre++t::post∧c.1<t.1∧(∀u∈pre,u.1<t.1)∧∀u∈post,u.1≤t.1)
 |[],c,t,h=>by
  have:some c=some t:=h
  cases this
  exact .inl ⟨rfl,fun u hu=>nomatch hu⟩
 |u::r,c,t,h=>by
  have h:wg r (some (if c.1<u.1 then u else c))=some t:=h
  by_cases g:c.1<u.1
  ·rw[if_pos g] at h
   rcases ug r u t h with ⟨e,h2⟩|⟨pre,post,e,h1,h2,h3⟩
   ·subst e
    exact .inr ⟨[],r,rfl,g,(fun v hv=>nomatch hv),h2⟩
   ·refine .inr ⟨u::pre,post,by rw[e];rfl,by omega,fun v hv=>?_,h3⟩
    rcases mem_cons.mp hv with e|e
    ·subst e;exact h1
    ·exact h2 v e
  ·rw[if_neg g] at h
   rcases ug r c t h with ⟨e,h2⟩|⟨pre,post,e,h1,h2,h3⟩
   ·refine .inl ⟨e,fun v hv=>?_⟩
    rcases mem_cons.mp hv with e|e
    ·subst e;omega
    ·exact h2 v e
   ·refine .inr ⟨u::pre,post,by rw[e];rfl,h1,fun v hv=>?_,h3⟩
    rcases mem_cons.mp hv with e|e
    ·subst e;omega
    ·exact h2 v e
theorem Vm(ts:List Tl)(t:Tl)(h:wg ts none=some t):∃pre post,ts=pre++t::post∧(∀u∈pre,u.1<t.1)∧∀u∈post,u.1≤t.1:=by
 cases ts with
 |nil=>cases h
 |cons c r=>
  rcases ug r c t h with ⟨e,h2⟩|⟨pre,post,e,h1,h2,h3⟩
  ·subst e
   exact⟨[],r,rfl,(fun v hv=>nomatch hv),h2⟩
  ·refine⟨c::pre,post,by rw[e];rfl,fun v hv=>?_,h3⟩
   rcases mem_cons.mp hv with e|e
   ·subst e;exact h1
   ·exact h2 v e
abbrev hd0(t:Tl):Nat:=t.2.getD 0 0
def Srt(ts:List Tl):Prop:=ts.Pairwise fun a b=>hd0 a<hd0 b
theorem WL(ts:List Tl)(w:Tl)(hs:Srt ts)(h:wg ts none=some w):∀u∈ts,u.1≤w.1∧(u.1=w.1→u=w∨hd0 w<hd0 u):=fun u hu=>by
 obtain⟨pre,post,e,h1,h2⟩:=Vm ts w h
 rw[e] at hu
 rcases mem_append.mp hu with g|g
 ·have:=h1 u g
  exact⟨by omega,fun z=>by omega⟩
 ·rcases mem_cons.mp g with g|g
  ·subst g;exact⟨Int.le_refl _,fun _=>.inl rfl⟩
  ·refine⟨h2 u g,fun _=>.inr ?_⟩
   unfold Srt at hs
   rw[e] at hs
   have:=(List.pairwise_append.mp hs).2.1
   exact(pairwise_cons.mp this).1 u g
theorem Qx(p:Nat)(ts:List Tl)(h:Srt ts):Srt (wf p ts):=by
 unfold Srt wf
 rw[pairwise_map]
 exact List.Pairwise.filter _ h
theorem Qy(ts:List Tl)(h:Srt ts):Srt (ts.map Zt):=by
 unfold Srt
 rw[pairwise_map]
 exact h
theorem Xe(x:List Nat):∀q:List Nat,Srt (zS q x)
 |[]=>List.Pairwise.nil
 |[a]=>by
  unfold Srt zS uL
  rw[pairwise_map]
  exact List.Pairwise.filter _ List.pairwise_lt_range
 |a::b::q=>by
  unfold Srt zS jz
  rw[List.pairwise_filterMap]
  refine List.Pairwise.imp (fun {p r} hpr t ht u hu=>?_) List.pairwise_lt_range
  have key:∀(p:Nat) (t:Tl),uc a x (zS (b::q) x) p=some t→hd0 t=p:=fun p t ht=>by
   unfold uc at ht
   split at ht
   ·cases e:wg (wf p (zS (b::q) x)) none with
    |none=>rw[e] at ht;cases ht
    |some w=>rw[e] at ht;cases ht;rfl
   ·cases ht
  rw[key p t ht,key r u hu]
  exact hpr
theorem Xa(x:List Nat):∀(q:List Nat) (t:Tl),t∈zS q x→∀l,Lay q x l→l.getD 0 0=hd0 t→wG x q l≤t.1∧(wG x q l=t.1→Y3 l t.2=false)
 |[],t,h,_,_,_=>by simp[zS] at h
 |[a],t,h,l,hl,he=>by
  simp only[zS,uL,mem_map,mem_filter,mem_range] at h
  obtain⟨p,⟨h1,h2⟩,rfl⟩:=h
  have hlen:=hl.len
  cases l with
  |nil=>simp at hlen
  |cons r l=>
   cases l with
   |cons _ _=>simp at hlen
   |nil=>
    simp only[hd0,getD_cons_zero] at he
    subst he
    exact⟨by simp[wG,sm],fun _=>Xp _⟩
 |a::b::q,t,h,l,hl,he=>by
  simp only[zS,jz,mem_filterMap,mem_range] at h
  obtain⟨p,h1,h2⟩:=h
  unfold uc at h2
  split at h2
  ·cases e:wg (wf p (zS (b::q) x)) none with
   |none=>rw[e] at h2;cases h2
   |some w=>
    rw[e] at h2
    cases h2
    cases l with
    |nil=>have:=hl.len;simp at this
    |cons p' m=>
     simp only[hd0,getD_cons_zero] at he
     subst he
     obtain⟨k0,k1,k2,k3⟩:=hl.tail
     have hml:0<m.length:=by rw[k0.len];simp
     obtain⟨u,u1,u2⟩:=uo x (b::q) m (by simp) k0
     obtain⟨o1,o2⟩:=Xa x (b::q) u u1 m k0 u2.symm
     have hin:(u.1+vA p' (u.2.getD 0 0),u.2)∈wf p' (zS (b::q) x):=by
      simp only[wf,mem_map,mem_filter,decide_eq_true_eq]
      exact⟨u,⟨u1,by rw[u2];exact k3 hml⟩,rfl⟩
     obtain⟨c1,c2⟩:=WL _ w (Qx p' _ (Xe x (b::q))) e _ hin
     have tl:wG x (a::b::q) (p'::m)=vZ a x p'+vA p' (m.getD 0 0)+wG x (b::q) m:=by
      cases m with
      |nil=>simp at hml
      |cons r m=>rw[Xc];rfl
     rw[tl]
     simp only at c1 c2
     rw[u2] at c1 c2
     refine⟨by show _≤vZ a x p'+w.1;omega,fun z=>?_⟩
     have z:vZ a x p'+vA p' (m.getD 0 0)+wG x (b::q) m=vZ a x p'+w.1:=z
     have z1:wG x (b::q) m=u.1:=by omega
     have z2:u.1+vA p' (m.getD 0 0)=w.1:=by omega
     show Y3 (p'::m) (p'::w.2)=false
     simp only[Y3,if_true]
     rcases c2 z2 with g|g
     ·rw[← g];exact o2 z1
     ·have hwl:0<w.2.length:=by
       rcases wo _ _ _ e with y|y
       ·simp only[wf,mem_map,mem_filter] at y
        obtain⟨v,⟨y1,_⟩,rfl⟩:=y
        have:=(vf x (b::q) v y1).1.len
        simp at this ⊢;omega
       ·cases y
      refine Xq m w.2 hml hwl ?_
      have g:hd0 w<u.2.getD 0 0:=g
      rw[u2] at g
      exact g
  ·cases h2
theorem G5(q x:List Nat)(hq:q≠[])(v:Int)(l:List Nat)(h:uM q x=some (v,l))(m:List Nat)(hm:Lay q x m):pts q x m q.length≤v∧(pts q x m q.length=v→Y3 m l=false):=by
 have hs:=(jb q x hq v l h).1
 unfold uM at h
 obtain⟨u,u1,u2⟩:=uo x q m hq hm
 obtain⟨o1,o2⟩:=Xa x q u u1 m hm u2.symm
 obtain⟨c1,c2⟩:=WL _ _ (Qy _ (Xe x q)) h (Zt u) (mem_map_of_mem u1)
 have hpos:0<q.length:=List.length_pos_iff.mpr hq
 have hml:0<m.length:=by rw[hm.len];exact hpos
 have hll:0<l.length:=by rw[hs.len];exact hpos
 have tp:pts q x m q.length=wG x q m+Xr (m.getD 0 0):=by
  cases q with
  |nil=>simp at hpos
  |cons a q=>
   have e:=hm.len
   cases m with
   |nil=>simp at hml
   |cons p m=>
    simp only[length_cons] at e ⊢
    have:q.length=m.length:=by omega
    rw[this,← Ww];rfl
 simp only[Zt] at c1 c2
 rw[u2] at c1 c2
 rw[tp]
 refine⟨by omega,fun z=>?_⟩
 have z1:wG x q m=u.1:=by omega
 rcases c2 (by omega) with g|g
 ·have:u.2=l:=congrArg Prod.snd g
  rw[← this];exact o2 z1
 ·refine Xq m l hml hll ?_
  have g:l.getD 0 0<u.2.getD 0 0:=g
  rw[u2] at g
  exact g
theorem Qk(q x:List Nat)(hq:q≠[])(h:wQ q x=false):uM q x=none:=by
 cases e:uM q x with
 |none=>rfl
 |some t=>
  have:=jA x q t.2 (jb q x hq t.1 t.2 e).1
  rw[h] at this;cases this
def vn(q x:List Nat):Option Tl:=if q=[] then some (0,[]) else uM q x
structure ze7(q x:List Nat)(v:Int)(l:List Nat):Prop where
 lay:Lay q x l
 pnt:v=pts q x l q.length
 opt:∀m,Lay q x m→pts q x m q.length≤v∧(pts q x m q.length=v→Y3 m l=false)
theorem Tq(x l:List Nat)(h:Lay [] x l):l=[]:=List.eq_nil_of_length_eq_zero h.len
theorem Gv(x:List Nat):Lay [] x []:=⟨rfl,fun j hj=>by simp at hj,fun j hj=>by simp at hj,fun j hj=>by simp at hj⟩
theorem Uh(q x l:List Nat)(h:Lay q x l):∃v l',vn q x=some (v,l')∧ze7 q x v l':=by
 unfold vn
 by_cases hq:q=[]
 ·subst hq
  rw[if_pos rfl]
  refine⟨0,[],rfl,Gv x,rfl,fun m hm=>?_⟩
  rw[Tq x m hm]
  exact⟨Int.le_refl _,fun _=>rfl⟩
 ·rw[if_neg hq]
  obtain⟨v,l',e,h1,h2⟩:=Ql q x l hq h
  exact⟨v,l',e,h1,h2,G5 q x hq v l' e⟩
theorem Ui(q x:List Nat)(h:wQ q x=false):vn q x=none:=by
 unfold vn
 by_cases hq:q=[]
 ·subst hq;cases x <;> simp[wQ] at h
 ·rw[if_neg hq];exact Qk q x hq h
end Law
set_option Elab.async false
set_option linter.all false
set_option maxHeartbeats 1000000
namespace FD
open PySem PySem.Spec PyProof.Rows L2
theorem sl_ok{fe:FE}{fl fh:FO}{τ:DS}{d r:D}{l u:Option Int}(h1:fe τ=.ok d)(h2:fl τ=.ok l)(h3:fh τ=.ok u)(h:slD d l u=.ok r):eSl fe fl fh τ=.ok r:=by
 rw[Ud,h1,Rs.bind_ok,h2,Rs.bind_ok,h3,Rs.bind_ok,h]
theorem or_tl{f g:FT}{τ:DS}(h1:f τ=.ok true):jV f g τ=.ok true:=by rw[vI,h1,Rs.bind_ok,if_pos rfl]
theorem Lf{f g:FT}{τ:DS}{b:Bool}(h1:f τ=.ok false)(h2:g τ=.ok b):jV f g τ=.ok b:=by rw[vI,h1,Rs.bind_ok,if_neg (by simp),h2]
end FD
namespace Law
open PySem PySem.Spec PyProof.Rows L2 FD
theorem zd9(a b:List Nat)(ha:a.length≤1000)(hb:b.length≤1000):zQ (tx a) (tx b)=.ok (tx (a++b)):=by
 rw[Uo (by rw[V0,V0,zT];omega),Mr]
theorem JO{τ:DS}:xP zh τ=.ok (.lst []):=by
 rw[ZX,zJ,Rs.bind_ok];exact if_pos (zero_le _)
theorem VC(q x:List Nat)(hq:q.length≤1000)(hx:x.length≤1000)(ha:∀c∈q,c<128):x8 [tx q,tx x]=.ok (uG (vn q x)):=by
 by_cases z:q=[]
 ·subst z
  have st:zV 4 [tx [],tx x]=[some (.val (tx [])),some (.val (tx x)),none,none]:=rfl
  have hl:=wB [] (by simp)
  have hg:FD.tB (eOp eqD (yk y7 (za (zd 0) zh)) (eC (.int 0))) [some (.val (tx [])),some (.val (tx x)),none,none]=.ok true:=wH (op2 (uI (zg rfl) hl) rfl rfl)
  have he:wa (za (eC (.int 0)) (za (xP zh) zh)) [some (.val (tx [])),some (.val (tx x)),none,none]=.ok (.tup [.int 0,.lst []]):=VG rfl JO
  unfold x8
  rw[G6,z9,st,zM,yw,hg,Fl.of_ok,if_pos rfl,zZ,he]
  rfl
 ·have:=T2 q x z hq hx ha
  rw[this]
  unfold vn
  rw[if_neg z]
theorem J6(fc:FA)(g:FT)(fx:FE)(A B C:D)(L:List D)(b:Bool)(d:D)(h1:fc [some (.val A),some (.val B),some (.val C),none]=.ok L)(h2:g [some (.val A),some (.val B),some (.val C),some (.own L)]=.ok b)
  (h3:b=true→fx [some (.val A),some (.val B),some (.val C),some (.own L)]=.ok d∧0<L.length) :
  xw 4 (zA (vy 3 fc) (zA (sIf g (Jw 3 (eC (.int 0)) fx) yg) (vV 3))) [A,B,C]=.ok (.lst (if b=true then L.set 0 d else L)):=by
 have st:zV 4 [A,B,C]=[some (.val A),some (.val B),some (.val C),none]:=rfl
 rw[z9,st]
 cases b with
 |false=>simp only[zM,ww,yw,wx,wz,zW,XS,yL,getElem?_cons_zero,getElem?_cons_succ,set_cons_succ,set_cons_zero,y3,Fl.of_ok,yi,zK,Bool.false_eq_true,if_false,h1,h2,ww,wx,wz,y3,Bool.false_eq_true,if_false]
 |true=>
  obtain⟨h3,h4⟩:=h3 rfl
  have hp:=QO (n:=3) (τ:=[some (.val A),some (.val B),some (.val C),some (.own L)]) (d:=d) (j:=0) h4
  have e0:(((0:Nat):Int))=0:=rfl
  rw[e0] at hp
  simp only[zM,ww,yw,wx,wz,zW,XS,yL,getElem?_cons_zero,getElem?_cons_succ,set_cons_succ,set_cons_zero,y3,Fl.of_ok,yi,zK,if_true,h1,h2,h3,ww,wx,wz,y3,XS,hp]
theorem za5:vU=(zA (vy 3 (yu 1 [0,1] (ve (za (zo zq (za (zd 0) (za (zd 1) (za (eOp zQ (zd 2) (eC (.int 1))) zh)))) zh)) (gNm 0) (fun _=>.ok true) (zo yE (za (zd 1) (za (eOp zQ (eOp zQ (zd 2) (eC (.int 1))) (eOp ua (eC (.int 12)) (zd 0))) zh)))))
  (zA (sIf (ji (FD.tB (eOp gtD (jM 3) (eC (.int 1)))) (FD.tB (eOp eqD (zo zq (za (zd 0) (za (eOp zQ (zd 1) (eC (.int 12))) (za (eC (.int 5)) zh)))) (eC (.int 0))))) (Jw 3 (eC (.int 0)) (Qa 3 (wA (eC (.int 1))))) yg)
  (vV 3))):=by unfold vU;rfl
def Qm(x:List Nat):Prop:=0<x.length∧x.length≤10∧∀c∈x,c∈NS
theorem WX(ns:List Int)(a:Int)(h0:0≤a):Qm (wV ns a (Yn ns a)):=by
 have d:=wv ns a (m:=10) (by decide)
 have hl:(wV ns a (Yn ns a)).length=(1+xQ ns a 10).toNat:=by simp[wV,Yn]
 refine⟨by rw[hl];omega,by rw[hl];omega,fun c hc=>?_⟩
 obtain⟨k,_,rfl⟩:=mem_map.mp hc
 exact JP ns a k (by omega)
theorem and_b{f g:FT}{τ:DS}{b c:Bool}(h1:f τ=.ok b)(h2:b=true→g τ=.ok c):ji f g τ=.ok (b&&c):=by
 rw[vg,h1,Rs.bind_ok]
 cases b with
 |false=>rfl
 |true=>rw[if_pos rfl,h2 rfl];rfl
theorem Gj(ns:List Int)(a most:Int)(h63:ns.length≤63)(h0:0≤a)(ha:a<800000)(hm0:0≤most)(hm1:most<50) :
  ∃X:List (List Nat),xA [.scr ns,.int a,.int most]=.ok (.lst (X.map tx))∧(X.length:Int)≤most∧∀x∈X,Qm x:=by
 have dl:=wv ns a (m:=most+1) (by omega)
 have dk:=wu ns a (most+1) h63 h0 (by omega) (by omega)
 have dk2:=wu ns (a+12) 5 h63 (by omega) (by omega) (by decide)
 generalize hN:xQ ns a (most+1)=N at *
 generalize xQ ns (a+12) 5=M at *
 have cf:=xR (set:=gNm 0) (fe:=(zo yE (za (zd 1) (za (eOp zQ (eOp zQ (zd 2) (eC (.int 1))) (eOp ua (eC (.int 12)) (zd 0))) zh)))) (τ:=[none,some (.val (.scr ns)),some (.val (.int a))]) (fun (k:Nat)=>D.int (0+k)) tx
  (fun k=>wV ns (a+1+12*(k:Int)) (Yn ns (a+1+12*(k:Int)))) (List.range N.toNat) fun k hk=>by
   have hk:=mem_range.mp hk
   refine⟨[some (.val (.int (k:Int))),some (.val (.scr ns)),some (.val (.int a))],by rw[Int.zero_add];rfl,?_⟩
   exact wX (zg rfl) (op2 (op2 (zg rfl) rfl xO) (op2 rfl (zg rfl) (v9 (by omega))) xO) (US ns _ h63 (by omega) (by omega))
 have it:ve (za (zo zq (za (zd 0) (za (zd 1) (za (eOp zQ (zd 2) (eC (.int 1))) zh)))) zh) [some (.val (.scr ns)),some (.val (.int a)),some (.val (.int most)),none]=.ok ((List.range N.toNat).map fun (k:Nat)=>D.int (0+k)):=
  Yc (n:=N.toNat) (by rw[Int.toNat_of_nonneg dl.1];exact wW (zg rfl) (zg rfl) (op2 (zg rfl) rfl xO) dk) (by omega)
 have ec:=xa (k:=1) (idx:=[0,1]) it cf (by simp;omega)
 generalize hX0:(List.range N.toNat).map (fun (k:Nat)=>wV ns (a+1+12*(k:Int)) (Yn ns (a+1+12*(k:Int))))=X0 at ec cf
 have l0:X0.length=N.toNat:=by rw[← hX0];simp
 have ok0:∀x∈X0,Qm x:=fun x hx=>by
  rw[← hX0] at hx
  obtain⟨k,_,rfl⟩:=mem_map.mp hx
  exact WX ns _ (by omega)
 have hg:ji (FD.tB (eOp gtD (jM 3) (eC (.int 1)))) (FD.tB (eOp eqD (zo zq (za (zd 0) (za (eOp zQ (zd 1) (eC (.int 12))) (za (eC (.int 5)) zh)))) (eC (.int 0)))) [some (.val (.scr ns)),some (.val (.int a)),some (.val (.int most)),some (.own (X0.map tx))]=.ok (decide (1<(X0.length:Int))&&(M==0)):=
  and_b (wH (op2 (a:=.int (X0.length:Int)) (by rw[jL];show Rs.ok (D.int ((X0.map tx).length:Int))=_;rw[length_map]) rfl U9)) fun _=>wH (op2 (wW (zg rfl) (op2 (zg rfl) rfl xO) rfl dk2) rfl vD)
 have hne:(decide (1<(X0.length:Int))&&(M==0))=true→0<X0.length:=fun h=>by
  rw[Bool.and_eq_true,decide_eq_true_eq] at h;omega
 have e:=J6 _ _ (Qa 3 (wA (eC (.int 1)))) (.scr ns) (.int a) (.int most) (X0.map tx) _ (tx (X0.getD (X0.length-1) [])) ec hg fun h=>by
  have hp:=hne h
  refine⟨?_,by rw[length_map];exact hp⟩
  rw[TR]
  show(Rs.ok (X0.map tx)).bind (fun ds=>(wA (eC (.int 1)) _).bind (ixO ds))=_
  rw[Rs.bind_ok,ZW,yL,Rs.bind_ok]
  show(Rs.ok (D.int (-1))).bind _=_
  rw[Rs.bind_ok]
  unfold ixO
  have:atI (X0.map tx) (-1)=some (tx (X0.getD (X0.length-1) [])):=by
   have e:ixN (X0.map tx).length (-1)=some (X0.length-1):=by
    unfold ixN
    rw[length_map,if_neg (by omega),if_pos (by omega)]
    congr 1;omega
   unfold atI
   rw[e]
   show(X0.map tx)[X0.length-1]?=_
   rw[getElem?_map,getElem?_eq_getElem (by omega)]
   simp[show X0.length-1<X0.length by omega]
  simp only[this]
 unfold xA
 rw[za5,e]
 cases hb:(decide (1<(X0.length:Int))&&(M==0)) with
 |false=>exact⟨X0,by rw[if_neg (by simp)],by omega,ok0⟩
 |true=>
  have hp:=hne hb
  refine⟨X0.set 0 (X0.getD (X0.length-1) []),by rw[if_pos rfl,List.map_set],by rw[length_set];omega,fun x hx=>?_⟩
  rcases List.mem_or_eq_of_mem_set hx with h|h
  ·exact ok0 x h
  ·rw[h]
   have:X0.getD (X0.length-1) []=X0[X0.length-1]'(by omega):=by simp[show X0.length-1<X0.length by omega]
   rw[this]
   exact ok0 _ (getElem_mem _)
theorem Vg{α β:Type}(f:α→β)(x:List Int×α):∀l:List (List Int×α),Yz (x.1,f x.2) (l.map fun p=>(p.1,f p.2))=(Yz x l).map fun p=>(p.1,f p.2)
 |[]=>rfl
 |y::r=>by
  rw[map_cons,Yz,Yz]
  split
  ·rfl
  ·rw[Vg f x r];rfl
theorem Xg{α β:Type}(f:α→β):∀l:List (List Int×α),xF (l.map fun p=>(p.1,f p.2))=(xF l).map fun p=>(p.1,f p.2)
 |[]=>rfl
 |x::r=>by rw[map_cons,xF,xF,Xg f r,Vg]
def xY{α:Type}(key:α→List Int)(rs:List α):List α:=(xF (rs.map fun r=>(key r,r))).map (·.2)
theorem Mt{α:Type}(key:α→List Int)(f:α→D)(rs:List α):(xF ((rs.map key).zip (rs.map f))).map (·.2)=(xY key rs).map f:=by
 have e:(rs.map key).zip (rs.map f)=(rs.map fun r=>(key r,r)).map fun p=>(p.1,f p.2):=by
  induction rs with
  |nil=>rfl
  |cons r rs ih=>simp only[map_cons,List.zip_cons_cons,ih]
 rw[e,Xg]
 unfold xY
 rw[map_map,map_map];rfl
theorem uR{α:Type}(key:α→List Int)(rs:List α):(xY key rs).Perm rs:=by
 have:=(wR (rs.map fun r=>(key r,r))).map (·.2)
 rw[map_map] at this
 have e:rs.map ((fun p:List Int×α=>p.2) ∘ fun r=>(key r,r))=rs:=by
  rw[show((fun p:List Int×α=>p.2) ∘ fun r=>(key r,r))=id from rfl,map_id]
 rw[e] at this
 exact this
theorem Z5{α:Type}(key:α→List Int)(rs:List α):∀p∈xF (rs.map fun r=>(key r,r)),p.1=key p.2:=fun p hp=>by
 have:=(wR (rs.map fun r=>(key r,r))).mem_iff.mp hp
 obtain⟨r,_,rfl⟩:=mem_map.mp this
 rfl
theorem jW{α:Type}(key:α→List Int)(rs:List α)(nd:(rs.map key).Nodup):(xY key rs).Pairwise fun a b=>lxI (key a) (key b)=true:=by
 have h:=jX (rs.map fun r=>(key r,r)) (by rw[map_map];exact nd)
 unfold xY
 rw[pairwise_map]
 refine h.imp_of_mem fun {a b} ha hb q=>?_
 rw[← Z5 key rs a ha,← Z5 key rs b hb];exact q
theorem uQ{α:Type}(key:α→List Int){l rs:List α}(p:l.Perm rs)(h:l.Pairwise fun a b=>lxI (key a) (key b)=true)(nd:(rs.map key).Nodup):l=xY key rs:=
 j0 (fun a b x y=>by rw[Xm x] at y;cases y) (p.trans (uR key rs).symm) h (jW key rs nd)
def kD(k:List Int):D:=.tup (k.map D.int)
theorem Xy:∀k:List Int,Yv (k.map D.int)=some k
 |[]=>rfl
 |i::k=>by
  show(Yv (k.map D.int)).map (i :: ·)=_
  rw[Xy k];rfl
theorem zb3(k:List Int):Tx (kD k)=some k:=Xy k
theorem Xu{α:Type}(key:α→List Int):∀rs:List α,Zw (rs.map fun r=>kD (key r))=some (rs.map key)
 |[]=>rfl
 |r::rs=>by rw[map_cons,Zw,zb3,Xu key rs];rfl
theorem Z7{α:Type}(key:α→List Int)(f:α→D)(rs:List α)(h64:rs.length<64)(nd:(rs.map key).Nodup)(ne:∀r,key r≠[]):v4 (rs.map fun r=>kD (key r)) (rs.map f)=.ok (.lst ((xY key rs).map f)):=by
 unfold v4
 rw[Xu]
 simp only
 rw[if_pos ⟨by simpa using h64,nd,fun k hk=>by obtain⟨r,_,rfl⟩:=mem_map.mp hk;exact ne r⟩,Mt]
theorem Zu{α:Type}{idx:List Nat}{fb:FE}{τ:DS}(key:α→List Int)(f:α→D):∀rs:List α,(∀r∈rs,JX idx fb τ (f r)=.ok (kD (key r)))→wP idx fb τ (rs.map f)=.ok (rs.map fun r=>kD (key r))
 |[],_=>rfl
 |r::rs,h=>by
  rw[map_cons,wP,h r mem_cons_self]
  simp only[Zu key f rs fun s hs=>h s (mem_cons_of_mem _ hs),map_cons]
theorem Uc{α:Type}{idx:List Nat}{fe fb:FE}{τ:DS}(key:α→List Int)(f:α→D)(rs:List α)(h:fe τ=.ok (.lst (rs.map f)))(hk:∀r∈rs,JX idx fb τ (f r)=.ok (kD (key r)))(h64:rs.length<64)(nd:(rs.map key).Nodup)(ne:∀r,key r≠[]) :
  YJ idx fe fb τ=.ok (.lst ((xY key rs).map f)):=by
 unfold YJ
 rw[h,Rs.bind_ok]
 simp only[Zu key f rs hk]
 exact Z7 key f rs h64 nd ne
theorem Z6{α:Type}(key:α→List Int)(rs:List α)(h64:rs.length<64)(nd:(rs.map key).Nodup)(ne:∀r,key r≠[]):vJ [.lst (rs.map fun r=>kD (key r))]=.ok (.lst ((xY key rs).map fun r=>kD (key r))):=
 Z7 key (fun r=>kD (key r)) rs h64 nd ne
abbrev Rw:=Int×Nat
def zL(r:Rw):D:=.tup [.int r.1,.int (r.2:Int)]
theorem QI(r:Rw):ixD (zL r) (.int 0)=.ok (.int r.1):=rfl
theorem Yb(r:Rw):ixD (zL r) (.int 1)=.ok (.int (r.2:Int)):=rfl
theorem xM{key:Rw→List Int}(hk:∀r s,key r=key s→r.2=s.2):∀rs:List Rw,(rs.map (·.2)).Nodup→(rs.map key).Nodup
 |[],_=>List.nodup_nil
 |r::rs,h=>by
  rw[map_cons,nodup_cons] at h ⊢
  refine⟨fun hm=>h.1 ?_,xM hk rs h.2⟩
  obtain⟨s,hs,e⟩:=mem_map.mp hm
  exact mem_map.mpr ⟨s,hs,hk s r e⟩
def x9(X:List (List Nat))(r:Rw):List Int:=[-r.1,((X.getD r.2 []).length:Int),(r.2:Int)]
theorem ue(X:List (List Nat))(r s:Rw)(h:x9 X r=x9 X s):r.2=s.2:=by
 unfold x9 at h
 injection h with h1 h2
 injection h2 with h2 h3
 injection h3 with h3 _
 omega
theorem Vs{α:Type}(f:α→D):∀(X:List α) (k:Nat),y4 k (X.map f)=(X.zipIdx k).map fun p=>D.tup [.int (p.2:Int),f p.1]
 |[],_=>rfl
 |x::X,k=>by rw[map_cons,y4,List.zipIdx_cons,map_cons,Vs f X (k+1)]
theorem size3:∀a b c:D,([a,b,c]:List D).length≤sizeLine:=fun a b c=>by rw[zT];exact Nat.le_of_ble_eq_true rfl
theorem tup3{fa fb fc:FE}{τ:DS}{a b c:D}(h1:fa τ=.ok a)(h2:fb τ=.ok b)(h3:fc τ=.ok c):wa (za fa (za fb (za fc zh))) τ=.ok (.tup [a,b,c]):=by
 rw[Jc,zu,h1,Rs.bind_ok,zu,h2,Rs.bind_ok,zu,h3,Rs.bind_ok,zJ,Rs.bind_ok,Rs.bind_ok,Rs.bind_ok,Rs.bind_ok]
 exact if_pos (size3 a b c)
theorem za3{fa:FE}{τ:DS}{i:Int}(h:fa τ=.ok (.int i)):wA fa τ=.ok (.int (-i)):=by rw[ZW,h];rfl
theorem v8(X:List (List Nat))(i:Nat)(h:i<X.length):ixD (.lst (X.map tx)) (.int (i:Int))=.ok (tx (X.getD i [])):=by
 refine Wf (Wo ?_)
 rw[getElem?_map,getElem?_eq_getElem h]
 simp[h]
theorem Uu(ds:List D)(n:Nat):slD (.lst ds) none (some (n:Int))=.ok (.lst (ds.take n)):=by
 have:FD.cutD ds none (some (n:Int))=ds.take n:=by
  have e0:HT.sIx ds.length 0 none=0:=rfl
  have e1:HT.sIx ds.length ds.length (some (n:Int))=min n ds.length:=by
   unfold HT.sIx
   have:¬ ((n:Int)<0):=by omega
   simp[this]
  unfold FD.cutD
  rw[e0,e1,List.drop_zero,Nat.sub_zero]
  rcases Nat.le_total n ds.length with z|z
  ·rw[Nat.min_eq_left z]
  ·rw[Nat.min_eq_right z,List.take_length,take_of_length_le z]
 show Rs.ok (D.lst (FD.cutD ds none (some (n:Int))))=_
 rw[this]
theorem M2:jc=(yG (YJ [0] (zd 1) (wa (za (wA (eOp ixD (zd 0) (eC (.int 0)))) (za (yk y7 (za (eOp ixD (zd 1) (eOp ixD (zd 0) (eC (.int 1)))) zh)) (za (eOp ixD (zd 0) (eC (.int 1))) zh)))))):=by unfold jc;rfl
structure ze4(X:List (List Nat))(rs:List Rw):Prop where
 few:rs.length<64
 nd:(rs.map (·.2)).Nodup
 lt:∀r∈rs,r.2<X.length
 sz:∀x∈X,x.length≤1000
theorem getD_mem{X:List (List Nat)}{i:Nat}(h:i<X.length):X.getD i []∈X:=by
 have:X.getD i []=X[i]:=by simp[h]
 rw[this];exact getElem_mem _
theorem WR(X:List (List Nat))(rs:List Rw)(h:ze4 X rs):yZ [.lst (X.map tx),.lst (rs.map zL)]=.ok (.lst ((xY (x9 X) rs).map zL)):=by
 have st:zV 2 [.lst (X.map tx),.lst (rs.map zL)]=[some (.val (.lst (X.map tx))),some (.val (.lst (rs.map zL)))]:=rfl
 unfold yZ
 rw[M2,z9,st,zZ,Uc (x9 X) zL rs (zg rfl) (fun r hr=>?_) h.few (xM (ue X) rs h.nd) (fun r z=>nomatch z)]
 ·rfl
 ·have hlt:=h.lt r hr
  have hsz:=h.sz _ (getD_mem hlt)
  have:wa (za (wA (eOp ixD (zd 0) (eC (.int 0)))) (za (yk y7 (za (eOp ixD (zd 1) (eOp ixD (zd 0) (eC (.int 1)))) zh)) (za (eOp ixD (zd 0) (eC (.int 1))) zh))) [some (.val (zL r)),some (.val (.lst (X.map tx)))]=.ok (kD (x9 X r)):=tup3 (za3 (op2 (zg rfl) rfl (QI r))) (uI (op2 (zg rfl) (op2 (zg rfl) rfl (Yb r)) (v8 X r.2 hlt)) (wB _ hsz)) (op2 (zg rfl) rfl (Yb r))
  exact this
theorem za6(i j:Int):Yq [.int i,.int j]=.ok (.int (if i<j then j else i)):=rfl
theorem TM:vT=(yG (eSl (zo yZ (za (zd 0) (za (zd 1) zh))) jw (wT (yk Yq (za (zd 2) (za (eC (.int 0)) zh)))))):=by unfold vT;rfl
theorem blt2{g:List D→Rs D}{fa fb:FE}{τ:DS}{a b d:D}(h1:fa τ=.ok a)(h2:fb τ=.ok b)(h:g [a,b]=.ok d):yk g (za fa (za fb zh)) τ=.ok d:=by
 rw[wb,zu,h1,Rs.bind_ok,zu,h2,Rs.bind_ok,zJ,Rs.bind_ok,Rs.bind_ok,Rs.bind_ok,h]
theorem Q7{fa:FE}{τ:DS}{i:Int}(h:fa τ=.ok (.int i)):wT fa τ=.ok (some i):=by rw[WV,h];rfl
theorem GS(X:List (List Nat))(rs:List Rw)(many:Nat)(h:ze4 X rs):y8 [.lst (X.map tx),.lst (rs.map zL),.int (many:Int)]=.ok (.lst (((xY (x9 X) rs).take many).map zL)):=by
 have st:zV 3 [.lst (X.map tx),.lst (rs.map zL),.int (many:Int)]=[some (.val (.lst (X.map tx))),some (.val (.lst (rs.map zL))),some (.val (.int (many:Int)))]:=rfl
 have hm:Yq [.int (many:Int),.int 0]=.ok (.int (many:Int)):=by
  rw[za6];rw[if_neg (by omega)]
 have e:eSl (zo yZ (za (zd 0) (za (zd 1) zh))) jw (wT (yk Yq (za (zd 2) (za (eC (.int 0)) zh)))) [some (.val (.lst (X.map tx))),some (.val (.lst (rs.map zL))),some (.val (.int (many:Int)))]=.ok (.lst (((xY (x9 X) rs).take many).map zL)):=
  sl_ok (wX (zg rfl) (zg rfl) (WR X rs h)) rfl (Q7 (blt2 (zg rfl) rfl hm)) (by rw[Uu,List.map_take])
 unfold y8
 rw[TM,z9,st,zZ,e];rfl
def fr1(X:List (List Nat))(q:List Nat)(i:Nat):Option Rw:=(vn q (X.getD i [])).map fun t=>(t.1,i)
def jH:FS:=(zA (yo 5 (zo x8 (za (zd 1) (za (eOp ixD (zd 0) (zd 4)) zh))))
  (sIf (FD.tB (eOp vR (zd 5) (eC .non))) (YW 3 (wa (za (eOp ixD (zd 5) (eC (.int 0))) (za (zd 4) zh)))) yg))
theorem fit_b:wZ=(zA (vy 3 (fun τ=>(zh τ).bind fun ds=>if ds.length≤sizeLine then .ok ds else .no)) (zA (vz (xl (zd 2)) (gNm 4) jH) (vV 3))):=by unfold wZ jH;rfl
theorem GM(e e2:FE)(a0 a1 a2 a3 a4 a5:Option Sl)(h:e [a0,a1,a2,a3,a4,a5]=.ok .non) :
  (zA (yo 5 e) (sIf (FD.tB (eOp vR (zd 5) (eC .non))) (YW 3 e2) yg)) [a0,a1,a2,a3,a4,a5]=.nx [a0,a1,a2,a3,a4,some (.val .non)]:=by
 simp only[zM,z8,yw,zW,vh,xE,ye,zB,yL,getElem?_cons_zero,getElem?_cons_succ,set_cons_succ,set_cons_zero,zx,Rs.bind_ok,Fl.of_ok,yi,zR,Bool.false_eq_true,if_false,h,Xx]
theorem GL(e e2:FE)(a0 a1 a2 a4 a5:Option Sl)(L:List D)(t:Tl)(R:D)(h:e [a0,a1,a2,some (.own L),a4,a5]=.ok (tlD t))(h2:e2 [a0,a1,a2,some (.own L),a4,some (.val (tlD t))]=.ok R)(hl:L.length<sizeLine) :
  (zA (yo 5 e) (sIf (FD.tB (eOp vR (zd 5) (eC .non))) (YW 3 e2) yg)) [a0,a1,a2,some (.own L),a4,a5]=.nx [a0,a1,a2,some (.own (L++[R])),a4,some (.val (tlD t))]:=by
 simp only[zM,z8,yw,zW,vh,xE,ye,zB,yL,getElem?_cons_zero,getElem?_cons_succ,set_cons_succ,set_cons_zero,zx,y3,Rs.bind_ok,Fl.of_ok,yi,zR,if_true,h,W7,h2,vh,y3]
 rw[if_pos hl]
theorem GQ(X:List (List Nat))(q:List Nat)(i:Nat)(a2 a5:Option Sl)(acc:List Rw)(hi:i<X.length)(hq:q.length≤1000)(hX:∀x∈X,x.length≤1000)(ha:∀c∈q,c<128)(hc:acc.length≤1000) :
  ∃t5,jH [some (.val (.lst (X.map tx))),some (.val (tx q)),a2,some (.own (acc.map zL)),some (.val (.int (i:Int))),a5]=.nx [some (.val (.lst (X.map tx))),some (.val (tx q)),a2,some (.own ((acc++(fr1 X q i).toList).map zL)),some (.val (.int (i:Int))),t5]:=by
 have hb:=VC q (X.getD i []) hq (hX _ (getD_mem hi)) ha
 have he:zo x8 (za (zd 1) (za (eOp ixD (zd 0) (zd 4)) zh)) [some (.val (.lst (X.map tx))),some (.val (tx q)),a2,some (.own (acc.map zL)),some (.val (.int (i:Int))),a5]=.ok (uG (vn q (X.getD i []))):=
  wX (zg rfl) (op2 (zg rfl) (zg rfl) (v8 X i hi)) hb
 unfold jH fr1
 cases z:vn q (X.getD i []) with
 |none=>
  rw[z] at he
  exact⟨some (.val .non),(GM _ _ _ _ _ _ _ _ he).trans (by simp)⟩
 |some t=>
  rw[z] at he
  have h2:wa (za (eOp ixD (zd 5) (eC (.int 0))) (za (zd 4) zh)) [some (.val (.lst (X.map tx))),some (.val (tx q)),a2,some (.own (acc.map zL)),some (.val (.int (i:Int))),some (.val (tlD t))]=.ok (zL (t.1,i)):=VG (op2 (zg rfl) rfl (Jp t)) (zg rfl)
  exact⟨some (.val (tlD t)),(GL _ _ _ _ _ _ _ _ t _ he h2 (by rw[zT,length_map];omega)).trans (by simp)⟩
def vw(X:List (List Nat))(q:List Nat)(is:List Nat):List Rw:=is.flatMap fun i=>(fr1 X q i).toList
theorem Vo(X:List (List Nat))(q:List Nat)(a2:Option Sl)(hq:q.length≤1000)(hX:∀x∈X,x.length≤1000)(ha:∀c∈q,c<128):∀(is:List Nat) (acc:List Rw) (a4 a5:Option Sl),(∀i∈is,i<X.length)→acc.length+is.length≤1000 →
  ∃t4 t5,yK (gNm 4) jH (is.map fun (i:Nat)=>D.int i) [some (.val (.lst (X.map tx))),some (.val (tx q)),a2,some (.own (acc.map zL)),a4,a5]=.nx [some (.val (.lst (X.map tx))),some (.val (tx q)),a2,some (.own ((acc++vw X q is).map zL)),t4,t5]
 |[],acc,a4,a5,_,_=>⟨a4,a5,by unfold vw;simp[yK]⟩
 |i::is,acc,a4,a5,hi,hc=>by
  rw[length_cons] at hc
  obtain⟨t5,e⟩:=GQ X q i a2 a5 acc (hi i mem_cons_self) hq hX ha (by omega)
  have hl:(acc++(fr1 X q i).toList).length+is.length≤1000:=by
   rw[length_append]
   have:(fr1 X q i).toList.length≤1:=by cases fr1 X q i <;> simp
   omega
  obtain⟨u4,u5,ih⟩:=Vo X q a2 hq hX ha is (acc++(fr1 X q i).toList) (some (.val (.int (i:Int)))) t5 (fun j hj=>hi j (mem_cons_of_mem _ hj)) hl
  refine⟨u4,u5,?_⟩
  rw[map_cons,yK,u8,Fl.of_ok]
  simp only[set_cons_succ,set_cons_zero,e]
  rw[ih]
  unfold vw
  rw[flatMap_cons,append_assoc]
theorem nilO(τ:DS):(fun τ=>(zh τ).bind fun ds=>if ds.length≤sizeLine then Rs.ok ds else Rs.no) τ=.ok []:=by
 show(if ([]:List D).length≤sizeLine then Rs.ok [] else Rs.no)=_
 exact if_pos (zero_le sizeLine)
theorem GK(e:FA)(b:FS)(A B C:D)(L R:List D)(t4 t5:Option Sl)(h0:e [some (.val A),some (.val B),some (.val C),none,none,none]=.ok [])(hi:U1 C=.ok L)
  (h1:yK (gNm 4) b L [some (.val A),some (.val B),some (.val C),some (.own []),none,none]=.nx [some (.val A),some (.val B),some (.val C),some (.own R),t4,t5]) :
  xw 6 (zA (vy 3 e) (zA (vz (xl (zd 2)) (gNm 4) b) (vV 3))) [A,B,C]=.ok (.lst R):=by
 have st:zV 6 [A,B,C]=[some (.val A),some (.val B),some (.val C),none,none,none]:=rfl
 rw[z9,st]
 simp only[zM,ww,wx,wz,wL,Wh,zB,getElem?_cons_zero,getElem?_cons_succ,set_cons_succ,set_cons_zero,zx,y3,Rs.bind_ok,Fl.of_ok,yi,zK,h0,hi,h1,ww,wx,wz,y3]
theorem TL(X:List (List Nat))(q:List Nat)(is:List Nat)(hq:q.length≤1000)(hX:∀x∈X,x.length≤1000)(ha:∀c∈q,c<128)(hi:∀i∈is,i<X.length)(hl:is.length≤1000) :
  yD [.lst (X.map tx),tx q,.lst (is.map fun (i:Nat)=>D.int i)]=.ok (.lst ((vw X q is).map zL)):=by
 obtain⟨t4,t5,h⟩:=Vo X q (some (.val (.lst (is.map fun (i:Nat)=>D.int i)))) hq hX ha is [] none none hi (by simpa using hl)
 unfold yD
 rw[fit_b]
 exact GK _ _ _ _ _ _ _ _ _ (nilO _) rfl (by simpa using h)
theorem or_b{f g:FT}{τ:DS}{b c:Bool}(h1:f τ=.ok b)(h2:b=false→g τ=.ok c):jV f g τ=.ok (b||c):=by
 cases b with
 |true=>exact or_tl h1
 |false=>exact Lf h1 (h2 rfl)
theorem XB:∀rs:List Rw,plainDs (rs.map zL)=true∧PyData.canLayAll0 (toPys (rs.map zL))=true∧PyData.depthAll (toPys (rs.map zL))≤1
 |[]=>⟨rfl,rfl,zero_le _⟩
 |r::rs=>by
  obtain⟨h1,h2,h3⟩:=XB rs
  refine⟨by simp[plainDs,xj,zL,h1],by simp[toPys,yB,zL,PyData.canLayAll0,PyData.canLay0,h2],?_⟩
  simp only[map_cons,toPys,yB,zL,PyData.depthAll,PyData.depth]
  omega
theorem Vq:∀rs:List Rw,PyData.eqvAll (toPys (rs.map zL)) (toPys (rs.map zL))=true
 |[]=>by rfl
 |r::rs=>by
  have:=Vq rs
  simp[toPys,yB,zL,PyData.eqvAll,PyData.eqv,this]
def abcN:List Nat:=[97,98,99]
theorem abc_s:("abc" : Str)=⟨abcN.toArray⟩:=by decide +kernel
theorem ze0:Qm abcN:=⟨by decide,by decide,by decide⟩
theorem T0(X:List (List Nat))(h:X.length≤1000):zQ (.lst (X.map tx)) (.lst [.str "abc"])=.ok (.lst ((X++[abcN]).map tx)):=by
 show(if _ then Rs.ok (D.lst _) else Rs.no)=_
 rw[if_pos (by rw[zT,length_map,length_singleton];omega),map_append,abc_s]
 rfl
def qE(a b m:Int):FE:=(zo xz (za (zd 0) (za (eC (.int a)) (za (eOp ixD (eOp zQ (zd 1) (xP (za (eC (.str "abc")) zh))) (zo zq (za (zd 0) (za (eC (.int b)) (za (eOp zQ (yk y7 (za (zd 1) zh)) (eC (.int 1))) zh))))) (za (eC (.int m)) zh)))))
theorem zd5{f:List D→Rs D}{fa fb fc fd:FE}{τ:DS}{a b c d r:D}(h1:fa τ=.ok a)(h2:fb τ=.ok b)(h3:fc τ=.ok c)(h4:fd τ=.ok d)(h:f [a,b,c,d]=.ok r):zo f (za fa (za fb (za fc (za fd zh)))) τ=.ok r:=by
 rw[yv,zu,h1,Rs.bind_ok,zu,h2,Rs.bind_ok,zu,h3,Rs.bind_ok,zu,h4,Rs.bind_ok,zJ,Rs.bind_ok,Rs.bind_ok,Rs.bind_ok,Rs.bind_ok,Rs.bind_ok,h];rfl
theorem qE_ok(ns:List Int)(X:List (List Nat))(a b m:Int)(h63:ns.length≤63)(ha0:0≤a)(ha:a<900000)(hb0:0≤b)(hb:b<900000)(hm0:0≤m)(hm:m<50)(hX:∀x∈X,Qm x)(hl:X.length≤1000)(r:DS) :
  ∃q:List Nat,(q.length:Int)≤m∧(∀c∈q,c∈QS)∧qE a b m (some (.val (.scr ns))::some (.val (.lst (X.map tx)))::r)=.ok (tx q):=by
 have dl:=wv ns b (m:=(X.length:Int)+1) (by omega)
 have dk:=wu ns b ((X.length:Int)+1) h63 hb0 (by omega) (by omega)
 generalize xQ ns b ((X.length:Int)+1)=M at dl dk
 have hi:M.toNat<(X++[abcN]).length:=by rw[length_append,length_singleton];omega
 have hm':(X++[abcN]).getD M.toNat []∈X++[abcN]:=getD_mem hi
 have hn:Qm ((X++[abcN]).getD M.toNat []):=by
  rcases mem_append.mp hm' with z|z
  ·exact hX _ z
  ·have:(X++[abcN]).getD M.toNat []=abcN:=by simpa using z
   rw[this];exact ze0
 obtain⟨q,q1,q2,q3⟩:=QM ns a ((X++[abcN]).getD M.toNat []) m h63 ha0 ha hm0 hm hn.1 (le_trans hn.2.1 (by decide)) hn.2.2
 refine⟨q,q1,q2,?_⟩
 have ix:=v8 (X++[abcN]) M.toNat hi
 rw[Int.toNat_of_nonneg dl.1] at ix
 unfold qE
 exact zd5 (zg rfl) rfl (op2 (op2 (zg rfl) (Gn rfl) (T0 X hl)) (wW (zg rfl) rfl (op2 (uI (zg rfl) ud) rfl (by rw[length_map];exact xO)) dk) ix) rfl q3
def yH(X:List (List Nat))(q:List Nat):List Rw:=vw X q (List.range X.length)
theorem vF(X:List (List Nat))(q:List Nat):∀is:List Nat,((vw X q is).map (·.2)).Sublist is
 |[]=>List.Sublist.refl _
 |i::is=>by
  have ih:=vF X q is
  unfold vw at ih ⊢
  rw[flatMap_cons,map_append]
  unfold fr1 at ih ⊢
  cases z:vn q (X.getD i []) with
  |none=>simp;exact List.Sublist.cons _ (by simpa using ih)
  |some t=>simp;exact(by simpa using ih)
theorem Wr(X:List (List Nat))(q:List Nat)(hX:∀x∈X,x.length≤1000)(hl:X.length<64):ze4 X (yH X q):=by
 have s:=vF X q (List.range X.length)
 refine⟨?_,s.nodup List.nodup_range,fun r hr=>?_,hX⟩
 ·have:=s.length_le
  rw[length_map,length_range] at this
  unfold yH;omega
 ·have:=s.mem (mem_map.mpr ⟨r,hr,rfl⟩)
  simpa using this
theorem ME(n:Nat):((List.range n).map fun (k:Nat)=>D.int (0+k))=(List.range n).map fun (i:Nat)=>D.int i:=map_congr_left fun k _=>by rw[Int.zero_add]
theorem all_b:jd=(yG (zo yD (za (zd 0) (za (zd 1) (za (fun τ=>((W0 (ve (za (yk y7 (za (zd 0) zh)) zh))) τ).bind fun ds=>.ok (.lst ds)) zh))))):=by unfold jd;rfl
theorem Um(X:List (List Nat))(q:List Nat)(hq:q.length≤1000)(hX:∀x∈X,x.length≤1000)(ha:∀c∈q,c<128)(hl:X.length<64):yn [.lst (X.map tx),tx q]=.ok (.lst ((yH X q).map zL)):=by
 have st:zV 2 [.lst (X.map tx),tx q]=[some (.val (.lst (X.map tx))),some (.val (tx q))]:=rfl
 have r1:ve (za (yk y7 (za (zd 0) zh)) zh) [some (.val (.lst (X.map tx))),some (.val (tx q))]=.ok ((List.range X.length).map fun (i:Nat)=>D.int i):=by
  rw[← ME]
  exact Yc (uI (zg rfl) (by rw[ud,length_map])) (by omega)
 have e:zo yD (za (zd 0) (za (zd 1) (za (fun τ=>((W0 (ve (za (yk y7 (za (zd 0) zh)) zh))) τ).bind fun ds=>.ok (.lst ds)) zh))) [some (.val (.lst (X.map tx))),some (.val (tx q))]=.ok (.lst ((yH X q).map zL)):=by
  refine wW (zg rfl) (zg rfl) ?_ (TL X q (List.range X.length) hq hX ha (fun i hi=>mem_range.mp hi) (by rw[length_range];omega))
  unfold W0
  rw[r1,Rs.bind_ok,if_pos (by rw[length_map,length_range];omega)];rfl
 unfold yn
 rw[all_b,z9,st,zZ,e];rfl
theorem TN:Wn=(yG (zo y8 (za (zd 0) (za (zo yn (za (zd 0) (za (zd 1) zh))) (za (zd 2) zh))))):=by unfold Wn;rfl
theorem Vp(X:List (List Nat))(q:List Nat)(many:Nat)(hq:q.length≤1000)(hX:∀x∈X,x.length≤1000)(ha:∀c∈q,c<128)(hl:X.length<64):xh [.lst (X.map tx),tx q,.int (many:Int)]=.ok (.lst (((xY (x9 X) (yH X q)).take many).map zL)):=by
 have st:zV 3 [.lst (X.map tx),tx q,.int (many:Int)]=[some (.val (.lst (X.map tx))),some (.val (tx q)),some (.val (.int (many:Int)))]:=rfl
 have e:zo y8 (za (zd 0) (za (zo yn (za (zd 0) (za (zd 1) zh))) (za (zd 2) zh))) [some (.val (.lst (X.map tx))),some (.val (tx q)),some (.val (.int (many:Int)))]=.ok (.lst (((xY (x9 X) (yH X q)).take many).map zL)):=
  wW (zg rfl) (wX (zg rfl) (zg rfl) (Um X q hq hX ha hl)) (zg rfl) (GS X _ many (Wr X q hX hl))
 unfold xh
 rw[TN,z9,st,zZ,e];rfl
theorem UR(rs:List Rw):neD (.lst (rs.map zL)) (.lst (rs.map zL))=.ok (.bl false):=by
 obtain⟨a,b,c⟩:=XB rs
 have ok:okD (.lst (rs.map zL))=true:=by
  simp[okD,xj,yB,PyData.canLay0,PyData.depth,a,b]
  omega
 have ev:wF (.lst (rs.map zL)) (.lst (rs.map zL))=true:=by
  simp[wF,yB,PyData.eqv,Vq]
 unfold neD
 simp only[ok,and_self,if_true,ev,Bool.not_true]
theorem xi{f g:FS}{τ τ':DS}(h:f τ=.nx τ'):zA f g τ=g τ':=by rw[zM,h,yi]
theorem if_f{g:FT}{a b:FS}{τ:DS}(h:g τ=.ok false):sIf g a b τ=b τ:=by rw[yw,h,Fl.of_ok,if_neg (by simp)]
theorem if_t{g:FT}{a b:FS}{τ:DS}(h:g τ=.ok true):sIf g a b τ=a τ:=by rw[yw,h,Fl.of_ok,if_pos rfl]
theorem TD{g:FT}{a:FS}{τ:DS}(h:g τ=.ok false):sIf g a yg τ=.nx τ:=if_f h
theorem wS{i:Nat}{fe:FE}{τ:DS}{d:D}(h:fe τ=.ok d):yo i fe τ=.nx (τ.set i (some (.val d))):=by rw[z8,h,Fl.of_ok]
theorem QJ{fe:FE}{τ:DS}{d:D}(h:fe τ=.ok d):yG fe τ=.rt d:=by rw[zZ,h,Fl.of_ok]
theorem T5{fa:FE}{τ:DS}{a:D}(h:fa τ=.ok a):za fa zh τ=.ok [a]:=by rw[zu,h,Rs.bind_ok,zJ,Rs.bind_ok]
def gd:Nat→D→Prop
 |_,.str x=>PyData.strOk x=true
 |_,.int _=>True
 |_,.bl _=>True
 |_,.non=>True
 |n+1,.lst ds=>∀d∈ds,gd n d
 |n+1,.tup ds=>∀d∈ds,gd n d
 |_,_=>False
theorem V9{n:Nat}(ih:∀d,gd n d→xj d=true∧(yB d).canLay0=true∧(yB d).depth≤n∧PyData.eqv (yB d) (yB d)=true):∀ds:List D,(∀d∈ds,gd n d)→plainDs ds=true∧PyData.canLayAll0 (toPys ds)=true∧PyData.depthAll (toPys ds)≤n∧PyData.eqvAll (toPys ds) (toPys ds)=true
 |[],_=>⟨rfl,rfl,zero_le _,by simp[toPys,PyData.eqvAll]⟩
 |d::ds,h=>by
  obtain⟨a1,a2,a3,a4⟩:=ih d (h d mem_cons_self)
  obtain⟨b1,b2,b3,b4⟩:=V9 ih ds fun e he=>h e (mem_cons_of_mem _ he)
  refine⟨by simp[plainDs,a1,b1],by simp[toPys,PyData.canLayAll0,a2,b2],?_,by simp[toPys,PyData.eqvAll,a4,b4]⟩
  simp only[toPys,PyData.depthAll]
  omega
theorem GN:∀(n:Nat) (d:D),gd n d→xj d=true∧(yB d).canLay0=true∧(yB d).depth≤n∧PyData.eqv (yB d) (yB d)=true
 |n,.str x,h=>⟨by simp[xj],by simpa[yB,PyData.canLay0,gd] using h,by simp[yB,PyData.depth],by simp[yB,PyData.eqv]⟩
 |n,.int _,h=>⟨by simp[xj],by simp[yB,PyData.canLay0],by simp[yB,PyData.depth],by simp[yB,PyData.eqv]⟩
 |n,.bl _,h=>⟨by simp[xj],by simp[yB,PyData.canLay0],by simp[yB,PyData.depth],by simp[yB,PyData.eqv]⟩
 |n,.non,h=>⟨by simp[xj],by simp[yB,PyData.canLay0],by simp[yB,PyData.depth],by simp[yB,PyData.eqv]⟩
 |n+1,.lst ds,h=>by
  obtain⟨b1,b2,b3,b4⟩:=V9 (GN n) ds (by simpa[gd] using h)
  exact⟨by simpa[xj] using b1,by simpa[yB,PyData.canLay0] using b2,by simpa[yB,PyData.depth] using b3,by simpa[yB,PyData.eqv] using b4⟩
 |n+1,.tup ds,h=>by
  obtain⟨b1,b2,b3,b4⟩:=V9 (GN n) ds (by simpa[gd] using h)
  exact⟨by simpa[xj] using b1,by simpa[yB,PyData.canLay0] using b2,by simpa[yB,PyData.depth] using b3,by simpa[yB,PyData.eqv] using b4⟩
 |0,.lst ds,h=>by simp[gd] at h
 |0,.tup ds,h=>by simp[gd] at h
 |0,.scr ds,h=>by simp[gd] at h
 |0,.raw ds,h=>by simp[gd] at h
 |0,.exc ds,h=>by simp[gd] at h
 |n+1,.scr ds,h=>by simp[gd] at h
 |n+1,.raw ds,h=>by simp[gd] at h
 |n+1,.exc ds,h=>by simp[gd] at h
theorem Wi{n:Nat}{d:D}(h:gd n d)(hn:n≤60):okD d=true∧wF d d=true:=by
 obtain⟨a,b,c,e⟩:=GN n d h
 refine⟨?_,e⟩
 have:(yB d).depth≤60:=by omega
 simp[okD,a,b,this]
theorem frE{ff:FA}{τ:DS}{ds:List D}(h:ff τ=.ok ds):(fun τ=>(ff τ).bind fun ds=>Rs.ok (D.lst ds)) τ=.ok (.lst ds):=by show(ff τ).bind _=_;rw[h];rfl
theorem wq{fe:FE}{τ:DS}{ds:List D}(h:fe τ=.ok (.lst ds)):xl fe τ=.ok ds:=by rw[Wh,h];rfl
theorem uC(l:List Int):gd 1 (its l):=fun d hd=>by
 obtain⟨r,_,rfl⟩:=mem_map.mp hd
 trivial
theorem jx{n:Nat}{ds:List D}(h:gd n (.lst ds))(hn:n≤60):neD (.lst ds) (.lst ds)=.ok (.bl false):=by
 obtain⟨a,b⟩:=Wi h hn
 unfold neD
 simp only[a,and_self,if_true,b,Bool.not_true]
theorem TQ{n:Nat}{ds:List D}(h:gd n (.lst ds))(hn:n≤60):eqD (.lst ds) (.lst ds)=.ok (.bl true):=by
 obtain⟨a,b⟩:=Wi h hn
 unfold eqD
 simp only[a,and_self,if_true,b]
def uk:FS:=(sIf (ji (FD.tB (eOp ltI (jM 2) (yk y7 (za (zd 0) zh)))) (jh (zo xD (za (eOp ixD (zd 0) (jM 2)) (za (eOp ixD (zd 1) (zd 3)) zh))))) (YW 2 (zd 3)) yg)
theorem Jb(q x:List Nat)(hq:q.length≤1000)(hx:x.length≤1000)(ha:∀c∈q,c<128):∀(m k:Nat) (b:List Nat) (s:Option Sl),k+m=x.length→b.length≤k →
  ∃s',yK (gNm 3) uk ((List.range' k m).map fun (k:Nat)=>D.int (0+k)) [some (.val (tx q)),some (.val (tx x)),some (.own (b.map fun (k:Nat)=>D.int k)),s]
   = .nx [some (.val (tx q)),some (.val (tx x)),some (.own ((b++epR (q.drop b.length) (x.drop k) k).map fun (k:Nat)=>D.int k)),s']
 |0,k,b,s,h,hb=>by
  have:x.drop k=[]:=List.drop_eq_nil_of_le (by omega)
  rw[this]
  have e:epR (q.drop b.length) [] k=[]:=by cases q.drop b.length <;> rfl
  rw[e,append_nil]
  exact⟨s,rfl⟩
 |m+1,k,b,s,h,hb=>by
  have hk:k<x.length:=by omega
  have hxk:=Ut x k x[k] (getElem?_eq_getElem hk) hx
  rw[range'_succ,map_cons,yK,u8,Fl.of_ok,drop_eq_getElem_cons hk]
  simp only[set_cons_succ,set_cons_zero,Int.zero_add]
  have ih:=fun b' s' h'=>Jb q x hq hx ha m (k+1) b' s' (by omega) h'
  simp only[Int.zero_add] at ih
  by_cases hl:b.length<q.length
  ·have hqb:=Ut q b.length q[b.length] (getElem?_eq_getElem hl) hq
   have hbz:b.length<sizeLine:=by rw[zT];omega
   have hmt:=Yp q[b.length] x[k] (ha _ (getElem_mem hl))
   rw[drop_eq_getElem_cons hl]
   by_cases hm:xk q[b.length] x[k]=true
   ·obtain⟨s',e⟩:=ih (b++[k]) (some (.val (.int k))) (by simp;omega)
    refine⟨s',?_⟩
    have:uk [some (.val (tx q)),some (.val (tx x)),some (.own (b.map fun (k:Nat)=>D.int k)),some (.val (.int k))]=.nx [some (.val (tx q)),some (.val (tx x)),some (.own ((b++[k]).map fun (k:Nat)=>D.int k)),some (.val (.int k))]:=by
     unfold uk
     simp only[yw,zW,vh,jL,xE,wK,vg,ye,zB,zJ,zu,yv,wb,getElem?_cons_zero,getElem?_cons_succ,set_cons_succ,set_cons_zero,zx,y3,Rs.bind_ok,Fl.of_ok,xx,zR,vG,UV,if_true,length_map,wB q hq,Int.ofNat_lt,hl,decide_true,hqb,hxk,hmt,hm,hbz,map_append,map_cons,map_nil]
    simp only[this]
    rw[e]
    simp only[epR,hm,if_true,append_assoc,List.cons_append,nil_append,length_append,length_cons,length_nil,zero_add]
   ·obtain⟨s',e⟩:=ih b (some (.val (.int k))) (by omega)
    refine⟨s',?_⟩
    have hm':xk q[b.length] x[k]=false:=by simpa using hm
    have:uk [some (.val (tx q)),some (.val (tx x)),some (.own (b.map fun (k:Nat)=>D.int k)),some (.val (.int k))]=.nx [some (.val (tx q)),some (.val (tx x)),some (.own (b.map fun (k:Nat)=>D.int k)),some (.val (.int k))]:=by
     unfold uk
     simp only[yw,zW,vh,jL,xE,wK,vg,ye,zB,zJ,zu,yv,wb,getElem?_cons_zero,getElem?_cons_succ,set_cons_succ,set_cons_zero,zx,y3,Rs.bind_ok,Fl.of_ok,xx,zR,vG,UV,if_true,Bool.false_eq_true,if_false,length_map,wB q hq,Int.ofNat_lt,hl,decide_true,hqb,hxk,hmt,hm']
    simp only[this]
    rw[e,drop_eq_getElem_cons hl]
    simp only[epR,hm',Bool.false_eq_true,if_false]
  ·obtain⟨s',e⟩:=ih b (some (.val (.int k))) (by omega)
   refine⟨s',?_⟩
   have:uk [some (.val (tx q)),some (.val (tx x)),some (.own (b.map fun (k:Nat)=>D.int k)),some (.val (.int k))]=.nx [some (.val (tx q)),some (.val (tx x)),some (.own (b.map fun (k:Nat)=>D.int k)),some (.val (.int k))]:=by
    unfold uk
    simp only[yw,zW,vh,jL,xE,wK,vg,ye,zB,zJ,zu,yv,wb,getElem?_cons_zero,getElem?_cons_succ,set_cons_succ,set_cons_zero,zx,y3,Rs.bind_ok,Fl.of_ok,zR,UV,Bool.false_eq_true,if_false,length_map,wB q hq,Int.ofNat_lt,hl,decide_false]
   simp only[this]
   rw[e,List.drop_eq_nil_of_le (by omega:q.length≤b.length)]
   simp only[epR]
theorem ep_ok(q x:List Nat)(hq:q.length≤1000)(hx:x.length≤1000)(ha:∀c∈q,c<128):yJ [tx q,tx x]=.ok (nts (epR q x 0)):=by
 have st:zV 4 [tx q,tx x]=[some (.val (tx q)),some (.val (tx x)),none,none]:=rfl
 obtain⟨s',e⟩:=Jb q x hq hx ha x.length 0 [] none (by omega) (le_refl _)
 unfold uk at e
 have r1:=XW (fs:=za (yk y7 (za (zd 1) zh)) zh) (τ:=[some (.val (tx q)),some (.val (tx x)),some (.own []),none]) (j:=x.length) (by simp only[zB,zJ,zu,wb,getElem?_cons_zero,getElem?_cons_succ,zx,Rs.bind_ok,wB x hx]) (by omega) (by omega)
 unfold yJ vp
 rw[z9,st]
 simp only[zM,ww,wL,zJ,set_cons_succ,set_cons_zero,Rs.bind_ok,Fl.of_ok,yi,if_true,length_nil,zero_le,r1,uF,toNat_natCast]
 rw[List.range_eq_range']
 rw[show([]:List D)=([]:List Nat).map fun (k:Nat)=>D.int k from rfl,e]
 simp only[wx,wz,getElem?_cons_zero,getElem?_cons_succ,y3,Fl.of_ok,yi,zK,nil_append,length_nil,List.drop_zero]
theorem GP(q x:List Nat)(hq:q.length≤1000)(hx:x.length≤1000)(ha:∀c∈q,c<128):u0 [tx q,tx x]=.ok (.bl (wQ q x)):=by
 have st:zV 2 [tx q,tx x]=[some (.val (tx q)),some (.val (tx x))]:=rfl
 unfold u0 G8
 rw[z9,st]
 simp only[zZ,ye,zB,zJ,zu,yv,wb,getElem?_cons_zero,getElem?_cons_succ,zx,Rs.bind_ok,Fl.of_ok,zK,xx,vD,ud,ep_ok q x hq hx ha,wB q hq,length_map]
 congr 2
 rw[Bool.eq_iff_iff,← jI q x 0,beq_iff_eq]
 omega
theorem W3(G:Gr)(k j:Int):we (Zb G k) j=we G j:=by
 unfold Zb
 split
 ·rfl
 ·unfold we
  rw[List.find?_append]
  cases e:G.find? fun g=>decide (g.1=j) with
  |some g=>rfl
  |none=>
   by_cases z:k=j
   ·rw[List.find?_cons_of_pos (by simpa using z)];rfl
   ·rw[List.find?_cons_of_neg (by simpa using z)];rfl
theorem uz(g:Int×List Int)(G:Gr)(j:Int):we (g::G) j=if g.1=j then g.2 else we G j:=by
 unfold we
 by_cases z:g.1=j
 ·rw[List.find?_cons_of_pos (by simpa using z),if_pos z];rfl
 ·rw[List.find?_cons_of_neg (by simpa using z),if_neg z]
theorem VB(g:Int×List Int)(G:Gr)(k v:Int):jR (g::G) k v=(if g.1=k then (g.1,g.2++[v]) else g)::jR G k v:=rfl
theorem Go(k v j:Int)(h:j≠k)(G:Gr):we (jR G k v) j=we G j:=by
 induction G with
 |nil=>rfl
 |cons g G ih=>
  rw[VB,uz,uz,ih]
  by_cases z:g.1=k
  ·rw[if_pos z]
   have:¬ g.1=j:=fun y=>h (by rw[← y,z])
   simp only[if_neg this]
  ·rw[if_neg z]
theorem JS(k v:Int)(G:Gr)(h:k∈G.map (·.1)):we (jR G k v) k=we G k++[v]:=by
 induction G with
 |nil=>cases h
 |cons g G ih=>
  rw[VB,uz,uz]
  by_cases z:g.1=k
  ·simp only[if_pos z]
  ·simp only[if_neg z]
   refine ih ?_
   rw[map_cons,mem_cons] at h
   exact h.resolve_left fun y=>z y.symm
theorem GG(k:Int):∀(n:Nat) (rows:List (Int×Int)),rows.length=n→we (grp rows) k=(rows.filter fun p=>decide (p.1=k)).map (·.2):=fun n=>by
 induction n with
 |zero=>intro rows h;rw[List.length_eq_zero_iff.mp h];rfl
 |succ n ih=>
  intro rows h
  rcases List.eq_nil_or_concat rows with z|⟨r,p,rfl⟩
  ·rw[z] at h;cases h
  ·rw[List.concat_eq_append] at h ⊢
   have hl:r.length=n:=by simpa using h
   rw[jE,List.filter_append,map_append,← ih r hl]
   by_cases z:p.1=k
   ·rw[← z,JS _ _ _ (Gh _ _),W3,List.filter_cons_of_pos (by simp)];rfl
   ·rw[Go _ _ _ (fun y=>z y.symm),W3,List.filter_cons_of_neg (by simpa using z)];simp
theorem GH(k:Int):∀(n:Nat) (rows:List (Int×Int)),rows.length=n→(k∈(grp rows).map (·.1)↔k∈rows.map (·.1)):=fun n=>by
 induction n with
 |zero=>intro rows h;rw[List.length_eq_zero_iff.mp h];exact Iff.rfl
 |succ n ih=>
  intro rows h
  rcases List.eq_nil_or_concat rows with z|⟨r,p,rfl⟩
  ·rw[z] at h;cases h
  ·rw[List.concat_eq_append] at h ⊢
   have hl:r.length=n:=by simpa using h
   rw[jE,Zo,map_append,mem_append,← ih r hl]
   unfold Zb
   split
   ·rename_i y
    constructor
    ·exact .inl
    ·rintro (z|z)
     ·exact z
     ·have:k=p.1:=by simpa using z
      rw[this];exact y
   ·rw[map_append,mem_append];rfl
def tiL(rows:List (Int×Int)):List D:=(STW.setZ (rows.map (·.1))).reverse.map fun k=>.tup [.int k,.lst (((rows.filter fun p=>decide (p.1=k)).map (·.2)).map D.int)]
theorem Ml(rows:List (Int×Int)):Jq (grp rows)=tiL rows:=by
 unfold Jq tiL xn
 rw[STW.up_same (STW.setZ_up _) (STW.setZ_up (rows.map (·.1))) fun x=>by rw[STW.setZ_mem,STW.setZ_mem];exact GH x _ rows rfl]
 exact map_congr_left fun k _=>by rw[GG k _ rows rfl]
def wI(r:Rw):Int×Int:=(r.1,(r.2:Int))
theorem LE(rs:List Rw):rs.map zL=(rs.map wI).map ZF:=by rw[map_map];rfl
def tiR(rs:List Rw):List D:=(STW.setZ (rs.map (·.1))).reverse.map fun k=>.tup [.int k,its ((rs.filter fun r=>decide (r.1=k)).map fun r=>(r.2:Int))]
theorem tiL_R(rs:List Rw):tiL (rs.map wI)=tiR rs:=by
 unfold tiL tiR
 have e:(rs.map wI).map (·.1)=rs.map (·.1):=by rw[map_map];rfl
 rw[e]
 refine map_congr_left fun k _=>?_
 unfold its
 rw[List.filter_map,map_map,map_map,map_map];rfl
theorem Lx:Uj=(Xi 2 3 (xl (zo yn (za (zd 0) (za (zd 1) zh))))):=by unfold Uj;rfl
theorem GI(it:FA)(A B:D)(rows:List (Int×Int))(h:it [some (.val A),some (.val B),none,none]=.ok (rows.map ZF))(hl:rows.length<64):xw 4 (Xi 2 3 it) [A,B]=.ok (.lst (Jq (grp rows))):=by
 have st:zV 4 [A,B]=[some (.val A),some (.val B),none,none]:=rfl
 have v:vlB [some (.val A),some (.val B),none,none]=true:=rfl
 rw[z9,st]
 unfold Xi
 rw[if_pos ⟨v,by simp,by simp,by decide⟩]
 have e:([some (.val A),some (.val B),none,none]:DS).set 2 none=[some (.val A),some (.val B),none,none]:=rfl
 rw[e,h]
 simp only[VP,hl,if_true,zK]
theorem Mk(X:List (List Nat))(q:List Nat)(hq:q.length≤1000)(hX:∀x∈X,x.length≤1000)(ha:∀c∈q,c<128)(hl:X.length<64):ub [.lst (X.map tx),tx q]=.ok (.lst (tiR (yH X q))):=by
 have e:xl (zo yn (za (zd 0) (za (zd 1) zh))) [some (.val (.lst (X.map tx))),some (.val (tx q)),none,none]=.ok (((yH X q).map wI).map ZF):=by
  rw[← LE]
  exact wq (wX (zg rfl) (zg rfl) (Um X q hq hX ha hl))
 have hz:=(Wr X q hX hl).few
 unfold ub
 rw[Lx,GI _ _ _ _ e (by rw[length_map];exact hz),Ml,tiL_R]
theorem zd8(X:List (List Nat))(q:List Nat):((yH X q).map fun r=>(r.2:Int)).Pairwise (·≤·):=by
 have h:=List.Pairwise.sublist (vF X q (List.range X.length)) (List.pairwise_lt_range)
 have e:(yH X q).map (fun r=>(r.2:Int))=((vw X q (List.range X.length)).map (·.2)).map fun (n:Nat)=>(n:Int):=by rw[map_map];rfl
 rw[e,pairwise_map]
 exact h.imp fun z=>by omega
theorem Uy{l m:List Int}(p:l.Perm m)(h:m.Pairwise (·≤·)):jj l=m:=XJ (XL l) h ((ur l).trans p)
theorem QC{l m:List Int}(h:∀x,x∈l↔x∈m):STW.setZ l=STW.setZ m:=STW.up_same (STW.setZ_up _) (STW.setZ_up _) fun x=>by rw[STW.setZ_mem,STW.setZ_mem];exact h x
def SR(X:List (List Nat))(q:List Nat):List Rw:=xY (x9 X) (yH X q)
theorem xS(X:List (List Nat))(q:List Nat):(SR X q).Perm (yH X q):=uR _ _
theorem Wq(X:List (List Nat))(q:List Nat):((yH X q).map (·.2)).Nodup:=(vF X q (List.range X.length)).nodup List.nodup_range
theorem XM(X:List (List Nat))(q:List Nat):(SR X q).length≤X.length:=by
 have:=(vF X q (List.range X.length)).length_le
 rw[length_map,length_range] at this
 rw[(xS X q).length_eq];exact this
theorem Uz(X:List (List Nat))(q:List Nat):((SR X q).map (·.2)).Nodup:=((xS X q).map (·.2)).nodup_iff.mpr (Wq X q)
theorem Zk(X:List (List Nat))(q:List Nat)(many:Nat)(hm:X.length≤many)(hq:q.length≤1000)(hX:∀x∈X,x.length≤1000)(ha:∀c∈q,c<128)(hl:X.length<64):xh [.lst (X.map tx),tx q,.int (many:Int)]=.ok (.lst ((SR X q).map zL)):=by
 rw[Vp X q many hq hX ha hl,take_of_length_le (by have:=XM X q;unfold SR at this;omega)];rfl
theorem XG(w x:List Nat):(vn w x).isSome=wQ w x:=by
 cases z:wQ w x with
 |false=>rw[Ui w x z];rfl
 |true=>obtain⟨v,l,e,_⟩:=Uh w x _ (Xs w x z);rw[e];rfl
theorem Vn(X:List (List Nat))(q:List Nat):∀is:List Nat,(vw X q is).map (·.2)=is.filter fun i=>wQ q (X.getD i []):=fun is=>by
 induction is with
 |nil=>rfl
 |cons i is ih=>
  unfold vw at ih ⊢
  rw[flatMap_cons,map_append,ih]
  have e:=XG q (X.getD i [])
  cases z:vn q (X.getD i []) with
  |none=>
   rw[z] at e
   rw[List.filter_cons_of_neg (by rw[← e];simp)]
   have:fr1 X q i=none:=by unfold fr1;rw[z];rfl
   rw[this];rfl
  |some t=>
   rw[z] at e
   rw[List.filter_cons_of_pos (by rw[← e];rfl)]
   have:fr1 X q i=some (t.1,i):=by unfold fr1;rw[z];rfl
   rw[this];rfl
theorem Mg(X:List (List Nat)):X.zipIdx=(List.range X.length).map fun i=>(X.getD i [],i):=by
 refine ext_getElem (by simp) fun i h1 h2=>?_
 have h:i<X.length:=by simpa using h1
 simp[h]
theorem Ma(X:List (List Nat))(q:List Nat):(X.zipIdx.filter fun p=>wQ q p.1).map (·.2)=(yH X q).map (·.2):=by
 unfold yH
 rw[Vn,Mg,List.filter_map,map_map]
 exact map_id _
theorem jQ(X:List (List Nat))(q:List Nat)(r:Rw)(h:r∈yH X q):r.2<X.length∧∃t,vn q (X.getD r.2 [])=some t∧r.1=t.1:=by
 unfold yH vw at h
 obtain⟨i,hi,hr⟩:=List.mem_flatMap.mp h
 have hi:=mem_range.mp hi
 unfold fr1 at hr
 cases z:vn q (X.getD i []) with
 |none=>rw[z] at hr;cases hr
 |some t=>
  rw[z] at hr
  have:r=(t.1,i):=by simpa using hr
  subst this
  exact⟨hi,t,z,rfl⟩
abbrev nmI(rs:List Rw):List Int:=rs.map fun r=>(r.2:Int)
theorem za2(X:List (List Nat))(q:List Nat):jj (nmI (SR X q))=nmI (yH X q):=Uy ((xS X q).map _) (zd8 X q)
theorem JY(X:List (List Nat)){a b:Rw}(h:lxI (x9 X a) (x9 X b)=true):b.1≤a.1:=by
 unfold x9 at h
 rw[lxI] at h
 by_cases z : -a.1 = -b.1
 ·omega
 ·rw[if_neg z] at h
  simp only[decide_eq_true_eq] at h
  omega
theorem Qz(X:List (List Nat))(q:List Nat):(SR X q).Pairwise fun a b=>lxI (x9 X a) (x9 X b)=true:=jW (x9 X) _ (xM (ue X) _ (Wq X q))
theorem Mw(X:List (List Nat))(q:List Nat):jj ((SR X q).map (·.1))=((SR X q).map (·.1)).reverse:=by
 refine Uy (List.reverse_perm _).symm ?_
 rw[List.pairwise_reverse,pairwise_map]
 exact(Qz X q).imp fun h=>JY X h
theorem Mu(X:List (List Nat))(q:List Nat):xY (x9 X) (SR X q)=SR X q:=(uQ (x9 X) (List.Perm.refl _) (Qz X q) (xM (ue X) _ (Uz X q))).symm
theorem Jr(q x:List Nat)(c:Nat)(h:wQ (q++[c]) x=true):wQ q x=true:=by
 have:=(Xs (q++[c]) x h).take q.length
 rw[List.take_left'  rfl] at this
 exact jA _ _ _ this
theorem JU(X:List (List Nat))(q:List Nat)(c:Nat):∀i∈nmI (SR X (q++[c])),i∈nmI (SR X q):=fun i hi=>by
 obtain⟨r,hr,rfl⟩:=mem_map.mp hi
 have h1:=jQ X _ r ((xS X _).mem_iff.mp hr)
 obtain⟨h1,t,h2,h3⟩:=h1
 have h4:wQ (q++[c]) (X.getD r.2 [])=true:=by rw[← XG,h2];rfl
 have h5:=Jr q _ c h4
 have h6:r.2∈(yH X q).map (·.2):=by
  unfold yH
  rw[Vn,mem_filter]
  exact⟨mem_range.mpr h1,h5⟩
 obtain⟨s,hs,e⟩:=mem_map.mp h6
 exact mem_map.mpr ⟨s,(xS X q).mem_iff.mpr hs,by rw[e]⟩
theorem GR(X:List (List Nat))(y q:List Nat):∀is:List Nat,(∀i∈is,i<X.length)→vw (X++[y]) q is=vw X q is:=fun is=>by
 induction is with
 |nil=>intro _;rfl
 |cons i is ih=>
  intro h
  have hi:=h i mem_cons_self
  have ih:=ih fun j hj=>h j (mem_cons_of_mem _ hj)
  unfold vw at ih ⊢
  rw[flatMap_cons,flatMap_cons,ih]
  have:fr1 (X++[y]) q i=fr1 X q i:=by
   unfold fr1
   rw[getD_eq_getElem?_getD,getD_eq_getElem?_getD,getElem?_append_left hi]
  rw[this]
theorem Mb(X:List (List Nat))(y q:List Nat):(yH (X++[y]) q).filter (fun r=>decide (r.2<X.length))=yH X q:=by
 unfold yH
 rw[length_append,length_singleton,List.range_succ]
 have e:vw (X++[y]) q (List.range X.length++[X.length])=vw (X++[y]) q (List.range X.length)++vw (X++[y]) q [X.length]:=by unfold vw;rw[List.flatMap_append]
 rw[e,List.filter_append,GR X y q _ fun i hi=>mem_range.mp hi]
 have e1:(vw X q (List.range X.length)).filter (fun r=>decide (r.2<X.length))=vw X q (List.range X.length):=List.filter_eq_self.mpr fun r hr=>by
  have:=(jQ X q r hr).1
  simpa using this
 have e2:(vw (X++[y]) q [X.length]).filter (fun r=>decide (r.2<X.length))=[]:=List.filter_eq_nil_iff.mpr fun r hr=>by
  have:=(vF (X++[y]) q [X.length]).mem (mem_map.mpr ⟨r,hr,rfl⟩)
  have:r.2=X.length:=by simpa using this
  simp[this]
 rw[e1,e2,append_nil]
theorem Mv(X:List (List Nat))(y q:List Nat):(SR (X++[y]) q).filter (fun r=>decide (r.2<X.length))=SR X q:=by
 refine uQ (x9 X) (rs:=yH X q) ?_ ?_ (xM (ue X) _ (Wq X q))
 ·rw[← Mb X y q]
  exact(xS (X++[y]) q).filter _
 ·have h:=(Qz (X++[y]) q).filter (fun r=>decide (r.2<X.length))
  refine List.Pairwise.imp_of_mem (fun {a b} ha hb hab=>?_) h
  have k:∀r∈(SR (X++[y]) q).filter (fun r=>decide (r.2<X.length)),x9 (X++[y]) r=x9 X r:=fun r hr=>by
   have:=(mem_filter.mp hr).2
   have hr:r.2<X.length:=by simpa using this
   unfold x9
   rw[getD_eq_getElem?_getD,getD_eq_getElem?_getD,getElem?_append_left hr]
  rw[← k a ha,← k b hb];exact hab
def We(r:Rw):List Int:=[r.1,(r.2:Int)]
theorem Yt(r s:Rw)(h:We r=We s):r.2=s.2:=by
 have:=congrArg (fun l:List Int=>l.getD 1 0) h
 have:(r.2:Int)=(s.2:Int):=this
 omega
def flt(rs:List Rw)(ks:List Int):List Rw:=ks.flatMap fun k=>rs.filter fun r=>decide (r.1=k)
theorem GO:∀(ks:List Int) (rs:List Rw),ks.Nodup→(∀r∈rs,r.1∈ks)→(flt rs ks).Perm rs:=fun ks=>by
 induction ks with
 |nil=>
  intro rs _ h
  cases rs with
  |nil=>exact List.Perm.refl _
  |cons r rs=>exact absurd (h r mem_cons_self) (by simp)
 |cons k ks ih=>
  intro rs nd h
  rw[nodup_cons] at nd
  have e:flt rs (k::ks)=(rs.filter fun r=>decide (r.1=k))++flt (rs.filter fun r=>!decide (r.1=k)) ks:=by
   unfold flt
   rw[flatMap_cons]
   congr 1
   have:∀l:List Int,k∉l→(l.flatMap fun k=>rs.filter fun r=>decide (r.1=k))=l.flatMap fun j=>(rs.filter fun r=>!decide (r.1=k)).filter fun r=>decide (r.1=j):=fun l=>by
    induction l with
    |nil=>intro _;rfl
    |cons j l ih2=>
     intro hn
     rw[mem_cons,not_or] at hn
     rw[flatMap_cons,flatMap_cons,ih2 hn.2,List.filter_filter]
     congr 1
     refine List.filter_congr fun r _=>?_
     by_cases z:r.1=j
     ·have:¬ r.1=k:=fun y=>hn.1 (by rw[← y,z])
      simp[z]
      exact fun y=>hn.1 y.symm
     ·simp[z]
   exact this ks nd.1
  rw[e]
  have p:=ih (rs.filter fun r=>!decide (r.1=k)) nd.2 fun r hr=>by
   have h1:=mem_filter.mp hr
   have h2:=h r h1.1
   rw[mem_cons] at h2
   exact h2.resolve_left (by simpa using h1.2)
  exact(List.Perm.append_left _ p).trans (List.filter_append_perm (fun r:Rw=>decide (r.1=k)) rs)
theorem Qw{l m:List Rw}(p:l.Perm m)(nd:(m.map (·.2)).Nodup):xY We l=xY We m:=
 uQ We ((uR We l).trans p) (jW We l (xM Yt l ((p.map (·.2)).nodup_iff.mpr nd))) (xM Yt m nd)
def rk(rs:List Rw)(i:Nat):Option Nat:=rs.findIdx? fun r=>r.2==i
def rkB:FS:=(sIf (FD.tB (eOp eqD (eOp ixD (zd 4) (eC (.int 1))) (zd 2))) (yG (zd 3)) yg)
def rkI:FA:=(iEn (za (zo yZ (za (zd 0) (za (zo yn (za (zd 0) (za (zd 1) zh))) zh))) zh))
theorem chk_b:va=(sIf (jV (FD.tB (eOp ltI (zd 1) (eC (.int 0)))) (FD.tB (eOp geD (zd 1) (yk y7 (za (zd 0) zh))))) sNo yg):=by unfold va;rfl
theorem zd4(X:List (List Nat))(i:Nat)(hi:i<X.length):y0 [.lst (X.map tx),.int (i:Int)]=.ok .non:=by
 have st:zV 2 [.lst (X.map tx),.int (i:Int)]=[some (.val (.lst (X.map tx))),some (.val (.int (i:Int)))]:=rfl
 have h:jV (FD.tB (eOp ltI (zd 1) (eC (.int 0)))) (FD.tB (eOp geD (zd 1) (yk y7 (za (zd 0) zh)))) [some (.val (.lst (X.map tx))),some (.val (.int (i:Int)))]=.ok (decide ((i:Int)<0)||decide ((X.length:Int)≤(i:Int))):=
  or_b (wH (op2 (zg rfl) rfl rfl)) fun _=>wH (op2 (zg rfl) (uI (zg rfl) ud) (by rw[geD_i,length_map]))
 unfold y0
 rw[chk_b,z9,st,TD (by rw[h];congr 1;simp;omega)];rfl
theorem LG:Zn=(zA (Xj (zo y0 (za (zd 0) (za (zd 2) zh)))) (zA (vz rkI (gPr 3 4) rkB) (yG (eC .non)))):=by unfold Zn rkB rkI;rfl
theorem UC(a0 a1:Option Sl)(i:Nat):∀(rs:List Rw) (k j:Nat) (s3 s4:Option Sl),rk rs i=some j →
  yK (gPr 3 4) rkB (y4 k (rs.map zL)) [a0,a1,some (.val (.int (i:Int))),s3,s4]=.rt (.int ((k+j:Nat):Int))
 |[],k,j,s3,s4,h=>by cases h
 |r::rs,k,j,s3,s4,h=>by
  have g:gPr 3 4 (D.tup [.int (k:Int),zL r]) [a0,a1,some (.val (.int (i:Int))),s3,s4]=.ok [a0,a1,some (.val (.int (i:Int))),some (.val (.int (k:Int))),some (.val (zL r))]:=rfl
  have t:FD.tB (eOp eqD (eOp ixD (zd 4) (eC (.int 1))) (zd 2)) [a0,a1,some (.val (.int (i:Int))),some (.val (.int (k:Int))),some (.val (zL r))]=.ok ((r.2:Int)==(i:Int)):=
   wH (op2 (op2 (zg rfl) rfl (Yb r)) (zg rfl) vD)
  show yK (gPr 3 4) rkB (D.tup [.int (k:Int),zL r]::y4 (k+1) (rs.map zL)) _=_
  rw[yK,g,Fl.of_ok]
  unfold rk at h
  rw[List.findIdx?_cons] at h
  by_cases z:r.2=i
  ·simp[z] at h
   subst h
   unfold rkB
   rw[if_t (by rw[t];simp[z]),QJ (d:=.int (k:Int)) (zg rfl)];rfl
  ·have n:¬ ((r.2:Int)=(i:Int)):=by omega
   have b:rkB [a0,a1,some (.val (.int (i:Int))),some (.val (.int (k:Int))),some (.val (zL r))]=.nx [a0,a1,some (.val (.int (i:Int))),some (.val (.int (k:Int))),some (.val (zL r))]:=by
    unfold rkB;exact TD (by rw[t];simp[n])
   rw[b]
   simp[z] at h
   obtain⟨j',h1,h2⟩:=h
   show yK _ _ _ _=_
   rw[UC a0 a1 i rs (k+1) j' _ _ h1,← h2];congr 3;omega
theorem GJ(e:FE)(it:FA)(bd:FS)(A B C d R:D)(L:List D)(h1:e [some (.val A),some (.val B),some (.val C),none,none]=.ok d)(h3:it [some (.val A),some (.val B),some (.val C),none,none]=.ok L)
  (h4:yK (gPr 3 4) bd L [some (.val A),some (.val B),some (.val C),none,none]=.rt R) :
  xw 5 (zA (Xj e) (zA (vz it (gPr 3 4) bd) (yG (eC .non)))) [A,B,C]=.ok R:=by
 have st:zV 5 [A,B,C]=[some (.val A),some (.val B),some (.val C),none,none]:=rfl
 have e1:Xj e [some (.val A),some (.val B),some (.val C),none,none]=.nx [some (.val A),some (.val B),some (.val C),none,none]:=by
  unfold Xj
  rw[h1,Fl.of_ok]
 rw[z9,st,xi e1,zM,wL,h3,Fl.of_ok,h4];rfl
theorem MI(X:List (List Nat))(q:List Nat)(i j:Nat)(hi:i<X.length)(hj:rk (SR X q) i=some j)(hq:q.length≤1000)(hX:∀x∈X,x.length≤1000)(ha:∀c∈q,c<128)(hl:X.length<64):xW [.lst (X.map tx),tx q,.int (i:Int)]=.ok (.int (j:Int)):=by
 have e2:rkI [some (.val (.lst (X.map tx))),some (.val (tx q)),some (.val (.int (i:Int))),none,none]=.ok (y4 0 ((SR X q).map zL)):=by
  unfold rkI iEn
  rw[T5 (wX (zg rfl) (wX (zg rfl) (zg rfl) (Um X q hq hX ha hl)) (WR X _ (Wr X q hX hl))),Rs.bind_ok];rfl
 unfold xW
 rw[LG]
 have h:=UC (some (.val (.lst (X.map tx)))) (some (.val (tx q))) i (SR X q) 0 j none none hj
 rw[zero_add] at h
 exact GJ _ _ _ _ _ _ _ _ _ (wX (zg rfl) (zg rfl) (zd4 X i hi)) e2 h
theorem rk_at(rs:List Rw)(r:Rw)(h:r∈rs):∃j,rk rs r.2=some j∧(nmI rs)[j]?=some (r.2:Int):=by
 induction rs with
 |nil=>cases h
 |cons s rs ih=>
  unfold rk at ih ⊢
  rw[List.findIdx?_cons]
  by_cases z:s.2=r.2
  ·exact⟨0,by simp[z],by simp[z]⟩
  ·have hr:r∈rs:=by
    rcases mem_cons.mp h with e|e
    ·exact absurd (by rw[e]) z
    ·exact e
   obtain⟨j,h1,h2⟩:=ih hr
   exact⟨j+1,by simp[z,h1],by simpa using h2⟩
theorem G3(a b:List Rw)(h:a.length+b.length≤1000):zQ (.lst (a.map zL)) (.lst (b.map zL))=.ok (.lst ((a++b).map zL)):=by
 show(if _ then Rs.ok (D.lst _) else Rs.no)=_
 rw[if_pos (by rw[zT,length_map,length_map];omega),← map_append]
theorem lst1{fa:FE}{τ:DS}{a:D}(h1:fa τ=.ok a):xP (za fa zh) τ=.ok (.lst [a]):=by
 rw[ZX,T5 h1,Rs.bind_ok]
 exact if_pos (size1 a)
theorem JN(l:List Int)(k:Int):j8 (.int k) (its l)=.ok (.bl (!decide (k∈l))):=by
 have h1:okD (.int k)=true:=by simp[okD,xj,yB,PyData.canLay0,PyData.depth]
 have h2:=(Wi (uC l) (by decide)).1
 unfold j8 inD
 simp only[h1,h2,and_self,if_true,Rs.bind_ok]
 unfold Tf
 have:((l.map D.int).any fun y=>wF y (.int k))=decide (k∈l):=by
  rw[List.any_map]
  induction l with
  |nil=>rfl
  |cons a l ih=>
   rw[any_cons,ih (Wi (uC l) (by decide)).1]
   have:((fun y=>wF y (.int k)) ∘ D.int) a=decide (a=k):=by simp[wF,yB,PyData.eqv,BEq.beq]
   rw[this]
   simp[eq_comm]
 rw[this]
theorem QE(l:List Int)(h:l.length<64):WE [its l]=.ok ((STW.setZ l).map D.int):=by
 unfold WE its
 simp only[V5]
 exact if_pos h
theorem UD(l:List Int):MG (its l)=.ok (its l.reverse):=by
 show Rs.ok (D.lst _)=_
 rw[← List.map_reverse]
theorem WB(l:List Int)(h:l.length<64):YT [its l]=.ok (its (jj l)):=by
 unfold YT its
 simp only[J4]
 exact if_pos h
theorem zb7(l:List Int)(j:Nat)(k:Int)(h:l[j]?=some k):ixD (its l) (.int (j:Int))=.ok (.int k):=by
 have hj:=(List.getElem?_eq_some_iff.mp h).1
 refine Wf (Wo ?_)
 rw[getElem?_map,h];rfl
def flS:FS:=yG (eC (.bl false))
def nmE:FE:=(zo xA (za (zd 0) (za (eC (.int 0)) (za (eC (.int 5)) zh))))
def cpE(i k:Nat):FE:=fun τ=>((yu 1 [] (xl (zd i)) (gNm 0) (fun _=>.ok true) (eOp ixD (zd 0) (eC (.int k)))) τ).bind fun ds=>.ok (.lst ds)
def c1E:FE:=(fun τ=>((yu 2 [2] (iEn (za (zd 1) zh)) (gPr 0 1) (jh (zo u0 (za (zd 2) (za (zd 1) zh)))) (zd 0)) τ).bind fun ds=>.ok (.lst ds))
def c2E:FE:=(fun τ=>((yu 1 [2,1] (xl (zd 3)) (gNm 0) (FD.tB (eOp neD (eOp ixD (zo x8 (za (zd 1) (za (eOp ixD (zd 2) (eOp ixD (zd 0) (eC (.int 1)))) zh))) (eC (.int 0))) (eOp ixD (zd 0) (eC (.int 0))))) (zd 0)) τ).bind fun ds=>.ok (.lst ds))
def c4E:FE:=(fun τ=>((yu 1 [1,2,3] (ve (za (eC (.int 7)) zh)) (gNm 0) (FD.tB (eOp neD (zo xh (za (zd 1) (za (zd 2) (za (zd 0) zh)))) (eSl (zd 3) jw (wT (zd 0))))) (zd 0)) τ).bind fun ds=>.ok (.lst ds))
def loE:FE:=(fun τ=>((yu 1 [] (xl (zo xh (za (zd 1) (za (eOp zQ (zd 2) (eOp ixD (eC (.str "abc1B")) (zo zq (za (zd 0) (za (eC (.int 95)) (za (eC (.int 5)) zh)))))) (za (eC (.int 99)) zh))))) (gNm 0) (fun _=>.ok true) (eOp ixD (zd 0) (eC (.int 1)))) τ).bind fun ds=>.ok (.lst ds))
def c5E:FE:=(fun τ=>((yu 1 [4] (xl (zd 5)) (gNm 0) (FD.tB (eOp j8 (zd 0) (zd 1))) (zd 0)) τ).bind fun ds=>.ok (.lst ds))
def moE:FE:=(fun τ=>((yu 1 [] (xl (zo xh (za (eOp zQ (zd 1) (xP (za (zo yE (za (zd 0) (za (eC (.int 96)) zh))) zh))) (za (zd 2) (za (eC (.int 99)) zh))))) (gNm 0) (fun _=>.ok true) (eOp ixD (zd 0) (eC (.int 1)))) τ).bind fun ds=>.ok (.lst ds))
def c6E:FE:=(fun τ=>((yu 1 [1] (xl (zd 6)) (gNm 0) (FD.tB (eOp ltI (zd 0) (yk y7 (za (zd 1) zh)))) (zd 0)) τ).bind fun ds=>.ok (.lst ds))
def c7E:FE:=(fun τ=>((yu 1 [4,1,2] (xl (zd 4)) (gNm 0) (FD.tB (eOp neD (eOp ixD (zd 1) (zo xW (za (zd 2) (za (zd 3) (za (zd 0) zh))))) (zd 0))) (zd 0)) τ).bind fun ds=>.ok (.lst ds))
def lpS:FS:=(yo 8 (eOp zQ (zd 8) (fun τ=>((yu 1 [9] (xl (zd 10)) (gNm 0) (fun _=>.ok true) (wa (za (zd 1) (za (zd 0) zh)))) τ).bind fun ds=>.ok (.lst ds))))
def cnE:FE:=(fun τ=>(((za (cpE 3 0) zh) τ).bind WE).bind fun ds=>.ok (.lst ds))
def c8E:FE:=(fun τ=>((yu 2 [] (xl (zd 7)) (gPr 0 1) (fun _=>.ok true) (zd 0)) τ).bind fun ds=>.ok (.lst ds))
def kyE:FE:=(fun τ=>((yu 2 [1] (xl (zd 3)) (gPr 0 1) (fun _=>.ok true) (wa (za (eOp uP (eC (.int 0)) (zd 0)) (za (yk y7 (za (eOp ixD (zd 2) (zd 1)) zh)) (za (zd 1) zh))))) τ).bind fun ds=>.ok (.lst ds))
def ifN(a b:FE):FS:=sIf (FD.tB (eOp neD a b)) flS yg
def Gx:FS:=(zA (ifN (yk YT (za (zd 4) zh)) c1E) (zA (ifN c2E (xP zh)) (zA (ifN (cpE 3 0) (Ue (yk YT (za (cpE 3 0) zh)))) (zA (ifN c4E (xP zh))
 (zA (yo 5 loE) (zA (ifN c5E (xP zh)) (zA (yo 6 moE) (zA (ifN c6E (zd 4)) (zA (ifN c7E (xP zh)) (zA (yo 7 (zo ub (za (zd 1) (za (zd 2) zh)))) (zA (yo 8 (xP zh)) (zA (vz (xl (zd 7)) (gPr 9 10) lpS)
 (zA (yo 11 cnE) (zA (sIf (jV (FD.tB (eOp neD (yk vJ (za (zd 8) zh)) (yk vJ (za (zd 3) zh)))) (FD.tB (eOp neD c8E (Ue (zd 11))))) flS yg) (zA (yo 12 kyE) (yG (eOp eqD (zd 12) (yk vJ (za (zd 12) zh)))))))))))))))))))
theorem law_b:G7=(zA (yo 1 nmE) (zA (yo 2 (qE 80 79 3)) (zA (yo 3 (zo xh (za (zd 1) (za (zd 2) (za (eC (.int 99)) zh))))) (zA (yo 4 (cpE 3 1)) Gx)))):=by
 unfold G7 nmE qE Gx ifN c1E c2E c4E loE c5E moE c6E c7E lpS cnE c8E kyE cpE flS;rfl
theorem u6{a b:FE}{τ:DS}{x y:D}(h1:a τ=.ok x)(h2:b τ=.ok y)(h:neD x y=.ok (.bl false)):ifN a b τ=.nx τ:=TD (wH (op2 h1 h2 h))
theorem Wa:neD (.lst []) (.lst [])=.ok (.bl false):=jx (n:=1) (fun d hd=>by cases hd) (by decide)
theorem cp0{τ:DS}{i:Nat}(rs:List Rw)(h:τ[i]?=some (some (.val (.lst (rs.map zL)))))(hl:rs.length≤1000):cpE i 0 τ=.ok (its (rs.map (·.1))):=
 frE (xa (wq (zg h)) (xR zL D.int (fun r=>r.1) rs fun r hr=>⟨_,rfl,op2 (zg rfl) rfl (QI r)⟩) (by rw[length_map,length_map];omega))
theorem cp1{τ:DS}{i:Nat}(rs:List Rw)(h:τ[i]?=some (some (.val (.lst (rs.map zL)))))(hl:rs.length≤1000):cpE i 1 τ=.ok (its (nmI rs)):=
 frE (xa (wq (zg h)) (xR zL D.int (fun r=>(r.2:Int)) rs fun r hr=>⟨_,rfl,op2 (zg rfl) rfl (Yb r)⟩) (by rw[length_map,length_map];omega))
section
variable{ns:List Int}{X:List (List Nat)}{q:List Nat}{s5 s6 s7 s8 s9 s10 s11 s12:Option Sl}
abbrev S(ns:List Int)(X:List (List Nat))(q:List Nat)(s5 s6 s7 s8 s9 s10 s11 s12:Option Sl):DS:=[some (.val (.scr ns)),some (.val (.lst (X.map tx))),some (.val (tx q)),some (.val (.lst ((SR X q).map zL))),some (.val (its (nmI (SR X q)))),s5,s6,s7,s8,s9,s10,s11,s12]
structure Ok1(ns:List Int)(X:List (List Nat))(q:List Nat):Prop where
 h63:ns.length≤63
 q3:q.length≤3
 qs:∀c∈q,c<128
 xs:∀x∈X,x.length≤1000
 few:X.length≤5
theorem c1_ok(h:Ok1 ns X q):c1E (S ns X q s5 s6 s7 s8 s9 s10 s11 s12)=.ok (its (nmI (yH X q))):=by
 unfold c1E
 have e:nmI (yH X q)=(X.zipIdx.filter fun p=>wQ q p.1).map fun p=>(p.2:Int):=by
  have:=congrArg (List.map fun (n:Nat)=>(n:Int)) (Ma X q)
  rw[map_map,map_map] at this
  exact this.symm
 have hf:=h.few
 have hz:=length_filter_le (fun p:List Nat×Nat=>wQ q p.1) X.zipIdx
 rw[List.length_zipIdx] at hz
 rw[e]
 unfold its
 rw[map_map]
 refine frE (xa (ds:=X.zipIdx.map fun p:List Nat×Nat=>D.tup [.int (p.2:Int),tx p.1]) ?_ (xb (fun p:List Nat×Nat=>D.tup [.int (p.2:Int),tx p.1]) (D.int ∘ fun p:List Nat×Nat=>(p.2:Int)) (fun p=>wQ q p.1) X.zipIdx fun p hp=>⟨[some (.val (.int (p.2:Int))),some (.val (tx p.1)),some (.val (tx q))],rfl,?_,zg rfl⟩) ?_)
 ·unfold iEn
  rw[T5 (zg (d:=.lst (X.map tx)) rfl),Rs.bind_ok]
  show Rs.ok (y4 0 (X.map tx))=_
  rw[Vs tx X 0]
 ·rw[wK,wX (zg rfl) (zg rfl) (GP q p.1 (by have:=h.q3;omega) (h.xs _ (List.fst_mem_of_mem_zipIdx hp)) h.qs)];rfl
 ·rw[length_map];omega
theorem uS(h:Ok1 ns X q):(SR X q).length≤5:=le_trans (XM X q) h.few
theorem t1(h:Ok1 ns X q):ifN (yk YT (za (zd 4) zh)) c1E (S ns X q s5 s6 s7 s8 s9 s10 s11 s12)=.nx (S ns X q s5 s6 s7 s8 s9 s10 s11 s12):=by
 refine u6 (uI (zg rfl) (WB _ (by rw[length_map];have:=uS h;omega))) (c1_ok h) ?_
 rw[za2]
 exact jx (uC _) (by decide)
theorem t2(h:Ok1 ns X q):ifN c2E (xP zh) (S ns X q s5 s6 s7 s8 s9 s10 s11 s12)=.nx (S ns X q s5 s6 s7 s8 s9 s10 s11 s12):=by
 refine u6 (x:=.lst []) ?_ JO Wa
 unfold c2E
 have c:=xb (set:=gNm 0) (ft:=(FD.tB (eOp neD (eOp ixD (zo x8 (za (zd 1) (za (eOp ixD (zd 2) (eOp ixD (zd 0) (eC (.int 1)))) zh))) (eC (.int 0))) (eOp ixD (zd 0) (eC (.int 0)))))) (fe:=zd 0) (τ:=[none,some (.val (tx q)),some (.val (.lst (X.map tx)))]) zL zL (fun _=>false) (SR X q) fun r hr=>by
  obtain⟨h1,t,h2,h3⟩:=jQ X q r ((xS X q).mem_iff.mp hr)
  refine⟨[some (.val (zL r)),some (.val (tx q)),some (.val (.lst (X.map tx)))],rfl,wH (op2 (op2 (wX (zg rfl) (op2 (zg rfl) (op2 (zg rfl) rfl (Yb r)) (v8 X r.2 h1)) (VC q _ (by have:=h.q3;omega) (h.xs _ (getD_mem h1)) h.qs)) rfl (b:=.int 0) (r:=.ok (.int r.1)) (by rw[h2,h3];rfl)) (op2 (zg rfl) rfl (QI r)) (by rw[Lg];simp)),zg rfl⟩
 rw[List.filter_eq_nil_iff.mpr (fun _ _=>by simp)] at c
 exact frE (xa (wq (zg rfl)) c (zero_le _))
theorem t3(h:Ok1 ns X q):ifN (cpE 3 0) (Ue (yk YT (za (cpE 3 0) zh))) (S ns X q s5 s6 s7 s8 s9 s10 s11 s12)=.nx (S ns X q s5 s6 s7 s8 s9 s10 s11 s12):=by
 have hf:=uS h
 have c:=cp0 (τ:=S ns X q s5 s6 s7 s8 s9 s10 s11 s12) (i:=3) (SR X q) rfl (by omega)
 refine u6 c (y:=its ((SR X q).map (·.1))) ?_ (jx (uC _) (by decide))
 rw[Jd,uI c (WB _ (by rw[length_map];omega)),Rs.bind_ok,UD,Mw,List.reverse_reverse]
theorem Ly{τ:DS}{i j:Nat}(rs:List Rw)(m:Nat)(h:τ[i]?=some (some (.val (.lst (rs.map zL)))))(h2:τ[j]?=some (some (.val (.int (m:Int))))):eSl (zd i) jw (wT (zd j)) τ=.ok (.lst ((rs.take m).map zL)):=by
 rw[Ud,zg h,Rs.bind_ok]
 show((jw _).bind fun a=>(wT (zd j) _).bind fun b=>slD _ a b)=_
 rw[Q7 (i:=(m:Int)) (zg h2)]
 exact(Uu _ m).trans (by rw[List.map_take])
theorem t4(h:Ok1 ns X q):ifN c4E (xP zh) (S ns X q s5 s6 s7 s8 s9 s10 s11 s12)=.nx (S ns X q s5 s6 s7 s8 s9 s10 s11 s12):=by
 refine u6 (x:=.lst []) ?_ JO Wa
 unfold c4E
 have c:=xb (set:=gNm 0) (ft:=(FD.tB (eOp neD (zo xh (za (zd 1) (za (zd 2) (za (zd 0) zh)))) (eSl (zd 3) jw (wT (zd 0)))))) (fe:=zd 0) (τ:=[none,some (.val (.lst (X.map tx))),some (.val (tx q)),some (.val (.lst ((SR X q).map zL)))]) (fun (k:Nat)=>D.int (0+k)) (fun (k:Nat)=>D.int k) (fun _=>false) (List.range 7) fun k hk=>by
  refine⟨[some (.val (.int (k:Int))),some (.val (.lst (X.map tx))),some (.val (tx q)),some (.val (.lst ((SR X q).map zL)))],by rw[Int.zero_add];rfl,wH (op2 (wW (zg rfl) (zg rfl) (zg rfl) (Vp X q k (by have:=h.q3;omega) h.xs h.qs (by have:=h.few;omega))) (Ly (SR X q) k rfl rfl) (UR _)),zg rfl⟩
 rw[List.filter_eq_nil_iff.mpr (fun _ _=>by simp)] at c
 exact frE (xa (Yc (n:=7) rfl (by decide)) c (zero_le _))
def abL:List Nat:=[97,98,99,49,66]
theorem ab_s:("abc1B" : Str)=⟨abL.toArray⟩:=by decide +kernel
theorem lo_ok(h:Ok1 ns X q):∃c,loE (S ns X q s5 s6 s7 s8 s9 s10 s11 s12)=.ok (its (nmI (SR X (q++[c])))):=by
 have dl:=wv ns 95 (m:=5) (by omega)
 have dk:=wu ns 95 5 h.h63 (by decide) (by decide) (by decide)
 obtain⟨m,em⟩:∃m:Nat,xQ ns 95 5=(m:Int):=⟨_,(Int.toNat_of_nonneg dl.1).symm⟩
 rw[em] at dk dl
 have hm:m<abL.length:=by show m<5;omega
 refine⟨abL[m],?_⟩
 have hc:abL[m]<128:=(by decide:∀c∈abL,c<128) _ (getElem_mem hm)
 have ix:ixD (.str "abc1B") (.int (m:Int))=.ok (yf abL[m]):=by
  rw[ab_s]
  exact Ut abL m _ (getElem?_eq_getElem hm) (by decide)
 have hq:=h.q3
 have hx:=h.few
 have hsl:=XM X (q++[abL[m]])
 have ad:zQ (tx q) (yf abL[m])=.ok (tx (q++[abL[m]])):=zd9 q [abL[m]] (by omega) (by show 1≤1000;omega)
 have f:=Zk X (q++[abL[m]]) 99 (by omega) (by rw[length_append];simp;omega) h.xs (fun c hc'=>by
  rcases mem_append.mp hc' with z|z
  ·exact h.qs c z
  ·rw[mem_singleton.mp z];exact hc) (by omega)
 unfold loE
 exact frE (xa (wq (wW (zg rfl) (op2 (zg rfl) (op2 rfl (wW (zg rfl) rfl rfl dk) ix) ad) rfl f)) (xR zL D.int (fun r=>(r.2:Int)) (SR X (q++[abL[m]])) fun r hr=>⟨_,rfl,op2 (zg rfl) rfl (Yb r)⟩) (by rw[length_map,length_map];omega))
theorem t5(h:Ok1 ns X q)(c:Nat):ifN c5E (xP zh) (S ns X q (some (.val (its (nmI (SR X (q++[c])))))) s6 s7 s8 s9 s10 s11 s12)=.nx (S ns X q (some (.val (its (nmI (SR X (q++[c])))))) s6 s7 s8 s9 s10 s11 s12):=by
 refine u6 (x:=.lst []) ?_ JO Wa
 unfold c5E
 have cc:=xb (set:=gNm 0) (ft:=(FD.tB (eOp j8 (zd 0) (zd 1)))) (fe:=zd 0) (τ:=[none,some (.val (its (nmI (SR X q))))]) D.int D.int (fun _=>false) (nmI (SR X (q++[c]))) fun i hi=>by
  refine⟨[some (.val (.int i)),some (.val (its (nmI (SR X q))))],rfl,wH (op2 (zg rfl) (zg rfl) ?_),zg rfl⟩
  rw[JN,decide_eq_true (JU X q c i hi)];rfl
 rw[List.filter_eq_nil_iff.mpr (fun _ _=>by simp)] at cc
 exact frE (xa (wq (zg rfl)) cc (zero_le _))
theorem mo_ok(h:Ok1 ns X q):∃y,moE (S ns X q s5 s6 s7 s8 s9 s10 s11 s12)=.ok (its (nmI (SR (X++[y]) q))):=by
 have nk:=US ns 96 h.h63 (by decide) (by decide)
 have ny:=WX ns 96 (by decide)
 generalize wV ns 96 (Yn ns 96)=y at nk ny
 have hx:=h.few
 have hsl:=XM (X++[y]) q
 rw[length_append,length_singleton] at hsl
 refine⟨y,?_⟩
 have ad:zQ (.lst (X.map tx)) (.lst [tx y])=.ok (.lst ((X++[y]).map tx)):=by
  show(if _ then Rs.ok (D.lst _) else Rs.no)=_
  rw[if_pos (by rw[zT,length_map,length_singleton];omega),map_append];rfl
 have f:=Zk (X++[y]) q 99 (by rw[length_append,length_singleton];omega) (by have:=h.q3;omega) (fun x hx'=>by
  rcases mem_append.mp hx' with z|z
  ·exact h.xs x z
  ·rw[mem_singleton.mp z];exact le_trans ny.2.1 (by decide)) h.qs (by rw[length_append,length_singleton];omega)
 unfold moE
 exact frE (xa (wq (wW (op2 (zg rfl) (lst1 (wX (zg rfl) rfl nk)) ad) (zg rfl) rfl f)) (xR zL D.int (fun r=>(r.2:Int)) (SR (X++[y]) q) fun r hr=>⟨_,rfl,op2 (zg rfl) rfl (Yb r)⟩) (by rw[length_map,length_map];omega))
theorem t6(h:Ok1 ns X q)(y:List Nat):ifN c6E (zd 4) (S ns X q s5 (some (.val (its (nmI (SR (X++[y]) q))))) s7 s8 s9 s10 s11 s12)=.nx (S ns X q s5 (some (.val (its (nmI (SR (X++[y]) q))))) s7 s8 s9 s10 s11 s12):=by
 refine u6 (x:=its (nmI (SR X q))) ?_ (zg rfl) (jx (uC _) (by decide))
 unfold c6E
 have cc:=xb (set:=gNm 0) (ft:=(FD.tB (eOp ltI (zd 0) (yk y7 (za (zd 1) zh))))) (fe:=zd 0) (τ:=[none,some (.val (.lst (X.map tx)))]) D.int D.int (fun i=>decide (i<(X.length:Int))) (nmI (SR (X++[y]) q)) fun i hi=>by
  exact⟨[some (.val (.int i)),some (.val (.lst (X.map tx)))],rfl,wH (op2 (zg rfl) (uI (zg rfl) (by rw[ud,length_map])) UV),zg rfl⟩
 have e:(nmI (SR (X++[y]) q)).filter (fun i=>decide (i<(X.length:Int)))=nmI (SR X q):=by
  rw[List.filter_map,← Mv X y q]
  congr 1
  refine List.filter_congr fun r _=>?_
  simp only[Function.comp]
  exact decide_eq_decide.mpr (by omega)
 rw[e] at cc
 exact frE (xa (wq (zg rfl)) cc (by rw[length_map,length_map];have:=uS h;omega))
theorem t7(h:Ok1 ns X q):ifN c7E (xP zh) (S ns X q s5 s6 s7 s8 s9 s10 s11 s12)=.nx (S ns X q s5 s6 s7 s8 s9 s10 s11 s12):=by
 refine u6 (x:=.lst []) ?_ JO Wa
 unfold c7E
 have cc:=xb (set:=gNm 0) (ft:=(FD.tB (eOp neD (eOp ixD (zd 1) (zo xW (za (zd 2) (za (zd 3) (za (zd 0) zh))))) (zd 0)))) (fe:=zd 0) (τ:=[none,some (.val (its (nmI (SR X q)))),some (.val (.lst (X.map tx))),some (.val (tx q))]) D.int D.int (fun _=>false) (nmI (SR X q)) fun i hi=>by
  obtain⟨r,hr,rfl⟩:=mem_map.mp hi
  obtain⟨j,j1,j2⟩:=rk_at (SR X q) r hr
  have h1:=(jQ X q r ((xS X q).mem_iff.mp hr)).1
  exact⟨[some (.val (.int (r.2:Int))),some (.val (its (nmI (SR X q)))),some (.val (.lst (X.map tx))),some (.val (tx q))],rfl,wH (op2 (op2 (zg rfl) (wW (zg rfl) (zg rfl) (zg rfl) (MI X q r.2 j h1 j1 (by have:=h.q3;omega) h.xs h.qs (by have:=h.few;omega))) (zb7 _ j _ j2)) (zg rfl) (by rw[Lg];simp)),zg rfl⟩
 rw[List.filter_eq_nil_iff.mpr (fun _ _=>by simp)] at cc
 exact frE (xa (wq (zg rfl)) cc (zero_le _))
def gpR(rs:List Rw)(k:Int):List Rw:=rs.filter fun r=>decide (r.1=k)
def gpD(rs:List Rw)(k:Int):D:=.tup [.int k,its (nmI (gpR rs k))]
theorem ti_gp(rs:List Rw):tiR rs=(STW.setZ (rs.map (·.1))).reverse.map (gpD rs):=rfl
theorem zc3(rs:List Rw)(k:Int):(nmI (gpR rs k)).map (fun i=>D.tup [.int k,.int i])=(gpR rs k).map zL:=by
 rw[map_map]
 refine map_congr_left fun r hr=>?_
 have:=(mem_filter.mp hr).2
 have:r.1=k:=by simpa using this
 subst this;rfl
theorem Lh(h:Ok1 ns X q)(rs:List Rw)(hr:rs.length≤5):∀(ks:List Int) (acc:List Rw) (t9 t10:Option Sl),acc.length+5*ks.length≤500 →
  ∃u9 u10,yK (gPr 9 10) lpS (ks.map (gpD rs)) (S ns X q s5 s6 s7 (some (.val (.lst (acc.map zL)))) t9 t10 s11 s12)=.nx (S ns X q s5 s6 s7 (some (.val (.lst ((acc++flt rs ks).map zL)))) u9 u10 s11 s12)
 |[],acc,t9,t10,_=>⟨t9,t10,by rw[show flt rs []=[] from rfl,append_nil];rfl⟩
 |k::ks,acc,t9,t10,hz=>by
  have hg:(gpR rs k).length≤5:=le_trans (length_filter_le _ _) hr
  rw[length_cons] at hz
  obtain⟨u9,u10,ih⟩:=Lh h rs hr ks (acc++gpR rs k) (some (.val (.int k))) (some (.val (its (nmI (gpR rs k))))) (by rw[length_append];omega)
  refine⟨u9,u10,?_⟩
  have g:gPr 9 10 (gpD rs k) (S ns X q s5 s6 s7 (some (.val (.lst (acc.map zL)))) t9 t10 s11 s12)=.ok (S ns X q s5 s6 s7 (some (.val (.lst (acc.map zL)))) (some (.val (.int k))) (some (.val (its (nmI (gpR rs k))))) s11 s12):=rfl
  have b:lpS (S ns X q s5 s6 s7 (some (.val (.lst (acc.map zL)))) (some (.val (.int k))) (some (.val (its (nmI (gpR rs k))))) s11 s12)=.nx (S ns X q s5 s6 s7 (some (.val (.lst ((acc++gpR rs k).map zL)))) (some (.val (.int k))) (some (.val (its (nmI (gpR rs k))))) s11 s12):=by
   unfold lpS
   have c:=xR (set:=gNm 0) (fe:=(wa (za (zd 1) (za (zd 0) zh)))) (τ:=[none,some (.val (.int k))]) D.int (fun i=>D.tup [.int k,.int i]) id (nmI (gpR rs k)) fun i hi=>⟨[some (.val (.int i)),some (.val (.int k))],rfl,VG (zg rfl) (zg rfl)⟩
   rw[map_id,zc3] at c
   exact wS (op2 (zg rfl) (frE (xa (wq (zg rfl)) c (by rw[length_map];omega))) (G3 acc (gpR rs k) (by omega)))
  rw[map_cons,yK,g,Fl.of_ok,b]
  show yK _ _ _ _=_
  rw[ih,append_assoc];rfl
theorem cn_ok(h:Ok1 ns X q):cnE (S ns X q s5 s6 s7 s8 s9 s10 s11 s12)=.ok (its (STW.setZ ((SR X q).map (·.1)))):=by
 have hf:=uS h
 have c:=cp0 (τ:=S ns X q s5 s6 s7 s8 s9 s10 s11 s12) (i:=3) (SR X q) rfl (by omega)
 unfold cnE
 show(((za _ zh) _).bind WE).bind (fun ds=>Rs.ok (D.lst ds))=_
 rw[T5 c,Rs.bind_ok,QE _ (by rw[length_map];omega),Rs.bind_ok]
theorem QA(rs:List Rw)(hl:rs.length<64)(nd:(rs.map (·.2)).Nodup):vJ [.lst (rs.map zL)]=.ok (.lst ((xY We rs).map zL)):=Z6 We rs hl (xM Yt rs nd) fun r z=>nomatch z
theorem Tv(X:List (List Nat))(q:List Nat):STW.setZ ((SR X q).map (·.1))=STW.setZ ((yH X q).map (·.1)):=QC fun x=>((xS X q).map (·.1)).mem_iff
theorem ky_ok(h:Ok1 ns X q):kyE (S ns X q s5 s6 s7 s8 s9 s10 s11 s12)=.ok (.lst ((SR X q).map fun r=>kD (x9 X r))):=by
 unfold kyE
 have c1:=xR (set:=gPr 0 1) (fe:=(wa (za (eOp uP (eC (.int 0)) (zd 0)) (za (yk y7 (za (eOp ixD (zd 2) (zd 1)) zh)) (za (zd 1) zh))))) (τ:=[none,none,some (.val (.lst (X.map tx)))]) zL (fun r=>kD (x9 X r)) id (SR X q) fun r hr=>by
  have hlt:=(jQ X q r ((xS X q).mem_iff.mp hr)).1
  have hsz:=h.xs _ (getD_mem hlt)
  refine⟨[some (.val (.int r.1)),some (.val (.int (r.2:Int))),some (.val (.lst (X.map tx)))],rfl,?_⟩
  refine(tup3 (op2 rfl (zg rfl) vq) (uI (op2 (zg rfl) (zg rfl) (v8 X r.2 hlt)) (wB _ hsz)) (zg rfl)).trans ?_
  unfold kD x9
  rw[Int.zero_sub];rfl
 rw[map_id] at c1
 exact frE (xa (wq (zg rfl)) c1 (by rw[length_map];have:=uS h;omega))
theorem gd_ky(rs:List Rw):gd 2 (.lst (rs.map fun r=>kD (x9 X r))):=fun d hd=>by
 obtain⟨r,_,rfl⟩:=mem_map.mp hd
 intro e he
 obtain⟨i,_,rfl⟩:=mem_map.mp he
 trivial
theorem MH(h:Ok1 ns X q):Gx (S ns X q none none none none none none none none)=.rt (.bl true):=by
 have hf:=uS h
 have hx:=h.few
 have hn:=Wq X q
 have hal:(yH X q).length≤5:=by rw[← (xS X q).length_eq];exact hf
 have hks:(STW.setZ ((yH X q).map (·.1))).length≤5:=by have:=STW.setZ_le ((yH X q).map (·.1));rw[length_map] at this;omega
 have hp:(flt (yH X q) (STW.setZ ((yH X q).map (·.1))).reverse).Perm (yH X q):=GO _ _ (by
  rw[List.nodup_iff_pairwise_ne,List.pairwise_reverse]
  exact(STW.setZ_up _).imp fun {a b} z=>(Int.ne_of_lt z).symm) fun r hr=>by
  rw[List.mem_reverse,STW.setZ_mem]
  exact mem_map_of_mem hr
 unfold Gx
 rw[xi (t1 h),xi (t2 h),xi (t3 h),xi (t4 h)]
 obtain⟨c,e5⟩:=lo_ok (s5:=none) (s6:=none) (s7:=none) (s8:=none) (s9:=none) (s10:=none) (s11:=none) (s12:=none) h
 rw[xi (wS e5)]
 show zA _ _ (S ns X q (some (.val (its (nmI (SR X (q++[c])))))) none none none none none none none)=_
 rw[xi (t5 h c)]
 generalize some (Sl.val (its (nmI (SR X (q++[c])))))=z5
 obtain⟨y,e6⟩:=mo_ok (s5:=z5) (s6:=none) (s7:=none) (s8:=none) (s9:=none) (s10:=none) (s11:=none) (s12:=none) h
 rw[xi (wS e6)]
 show zA _ _ (S ns X q z5 (some (.val (its (nmI (SR (X++[y]) q))))) none none none none none none)=_
 rw[xi (t6 h y)]
 generalize some (Sl.val (its (nmI (SR (X++[y]) q))))=z6
 rw[xi (t7 h)]
 have e7:zo ub (za (zd 1) (za (zd 2) zh)) (S ns X q z5 z6 none none none none none none)=.ok (.lst (tiR (yH X q))):=wX (zg rfl) (zg rfl) (Mk X q (by have:=h.q3;omega) h.xs h.qs (by omega))
 rw[xi (wS e7)]
 show zA _ _ (S ns X q z5 z6 (some (.val (.lst (tiR (yH X q))))) none none none none none)=_
 rw[xi (wS JO)]
 show zA _ _ (S ns X q z5 z6 (some (.val (.lst (tiR (yH X q))))) (some (.val (.lst (([]:List Rw).map zL)))) none none none none)=_
 obtain⟨u9,u10,e8⟩:=Lh (s5:=z5) (s6:=z6) (s7:=some (.val (.lst (tiR (yH X q))))) (s11:=none) (s12:=none) h (yH X q) hal (STW.setZ ((yH X q).map (·.1))).reverse [] none none (by rw[length_reverse,length_nil];omega)
 rw[nil_append] at e8
 rw[xi (τ':=S ns X q z5 z6 (some (.val (.lst (tiR (yH X q))))) (some (.val (.lst ((flt (yH X q) (STW.setZ ((yH X q).map (·.1))).reverse).map zL)))) u9 u10 none none) (by rw[wL,wq (ds:=tiR (yH X q)) (zg rfl),Fl.of_ok];exact e8)]
 generalize flt (yH X q) (STW.setZ ((yH X q).map (·.1))).reverse=FL at hp
 rw[xi (wS (cn_ok h))]
 show zA _ _ (S ns X q z5 z6 (some (.val (.lst (tiR (yH X q))))) (some (.val (.lst (FL.map zL)))) u9 u10 (some (.val (its (STW.setZ ((SR X q).map (·.1)))))) none)=_
 have hfl:FL.length≤5:=by rw[hp.length_eq];exact hal
 have ndl:(FL.map (·.2)).Nodup:=(hp.map (·.2)).nodup_iff.mpr hn
 have e9:c8E (S ns X q z5 z6 (some (.val (.lst (tiR (yH X q))))) (some (.val (.lst (FL.map zL)))) u9 u10 (some (.val (its (STW.setZ ((SR X q).map (·.1)))))) none)=.ok (its (STW.setZ ((yH X q).map (·.1))).reverse):=by
  unfold c8E
  rw[ti_gp]
  have c:=xR (set:=gPr 0 1) (fe:=zd 0) (τ:=[none,none]) (gpD (yH X q)) D.int id (STW.setZ ((yH X q).map (·.1))).reverse fun k hk=>⟨[some (.val (.int k)),some (.val (its (nmI (gpR (yH X q) k))))],rfl,zg rfl⟩
  rw[map_id] at c
  exact frE (xa (wq (zg rfl)) c (by rw[length_map,length_reverse];omega))
 rw[xi (TD (Lf (wH (op2 (uI (zg rfl) (QA FL (by omega) ndl)) (uI (zg rfl) (QA (SR X q) (by omega) (Uz X q))) (by rw[Qw (hp.trans (xS X q).symm) (Uz X q)];exact UR _))) (wH (op2 e9 (by rw[Jd,zg (d:=its (STW.setZ ((SR X q).map (·.1)))) rfl,Rs.bind_ok,UD]) (by rw[Tv];exact jx (uC _) (by decide))))))]
 rw[xi (wS (ky_ok h))]
 show yG _ (S ns X q z5 z6 (some (.val (.lst (tiR (yH X q))))) (some (.val (.lst (FL.map zL)))) u9 u10 (some (.val (its (STW.setZ ((SR X q).map (·.1)))))) (some (.val (.lst ((SR X q).map fun r=>kD (x9 X r))))))=_
 refine QJ (op2 (zg rfl) (uI (zg rfl) (Z6 (x9 X) (SR X q) (by omega) (xM (ue X) _ (Uz X q)) fun r z=>nomatch z)) ?_)
 rw[Mu]
 exact TQ (gd_ky _) (by decide)
end
theorem main:∀ns:List Int,ns.length≤63→UT [.scr ns]=.ok (.bl true):=fun ns h63=>by
 obtain⟨X,en,hl,hX⟩:=Gj ns 0 5 h63 (by decide) (by decide) (by decide) (by decide)
 obtain⟨q,q1,q2,eq⟩:=qE_ok ns X 80 79 3 h63 (by decide) (by decide) (by decide) (by decide) (by decide) (by decide) hX (by omega) [none,none,none,none,none,none,none,none,none,none,none]
 have h:Ok1 ns X q:=⟨h63,by omega,fun c hc=>(f6 c (q2 c hc)).1,fun x hx=>le_trans (hX x hx).2.1 (by decide),by omega⟩
 have st:zV 13 [.scr ns]=[some (.val (.scr ns)),none,none,none,none,none,none,none,none,none,none,none,none]:=rfl
 have e1:nmE [some (.val (.scr ns)),none,none,none,none,none,none,none,none,none,none,none,none]=.ok (.lst (X.map tx)):=wW (zg rfl) rfl rfl en
 have e3:zo xh (za (zd 1) (za (zd 2) (za (eC (.int 99)) zh))) [some (.val (.scr ns)),some (.val (.lst (X.map tx))),some (.val (tx q)),none,none,none,none,none,none,none,none,none,none]=.ok (.lst ((SR X q).map zL)):=wW (zg rfl) (zg rfl) rfl (Zk X q 99 (by omega) (by omega) h.xs h.qs (by omega))
 unfold UT
 rw[law_b,z9,st,xi (wS e1)]
 show YD (zA _ _ [some (.val (.scr ns)),some (.val (.lst (X.map tx))),none,none,none,none,none,none,none,none,none,none,none])=_
 rw[xi (wS eq)]
 show YD (zA _ _ [some (.val (.scr ns)),some (.val (.lst (X.map tx))),some (.val (tx q)),none,none,none,none,none,none,none,none,none,none])=_
 rw[xi (wS e3)]
 show YD (zA _ _ [some (.val (.scr ns)),some (.val (.lst (X.map tx))),some (.val (tx q)),some (.val (.lst ((SR X q).map zL))),none,none,none,none,none,none,none,none,none])=_
 rw[xi (wS (cp1 (i:=3) (SR X q) rfl (by have:=uS h;omega)))]
 show YD (Gx (S ns X q none none none none none none none none))=_
 rw[MH h];rfl
set_option maxHeartbeats 4000000
def top(i:Nat):Stmt:=PySem.Challenge.pw_fewfind_k21_whole_found.main.body.getD i (.Pass ⟨0,0,0,0⟩)
section
variable{P:Program}{w:World}{K:PySem.W.Frag}{mg:Str→Option Value}{base:Heap}
abbrev xI:Stmt:=top 39
theorem XR:zN ["_law_script", "_law_k"] ["_law_script", "_law_k"] (zk xI):=⟨rfl,rfl,rfl,by decide +kernel,rfl,by decide +kernel,by decide +kernel⟩
theorem X7{f:Addr}{fd:FuncData}(A_:zY K mg "_law_cell" xI f fd)(z_len:mg "len" = none):DefOk P w K mg base "_law_cell" 1 2 ["_law_script", "_law_k"] xX:=by
 refine DefOk.mk (k:=0) A_ XR rfl (fun _ _ _ _ _ _ us hl=>match us,hl with | [_,_],_=>rfl) (fun cdv A outer s H E hr=>?_) fun _ _ _ h=>h
 exact(zm (yP (zG (wD hr.units) (zb (pv 0)) (x6 zi) (yc _)) (zn (zF (zv wt zj (zb (pv 1))))) z7) (zn (zF (zv zH (zC zX (zb (pv 0)) (zv uy (zb (pv 1)) (zE xL rfl z_len PySem.boot_len (zc (zb (pv 0)) zi)))) (zv wt zj (zv jv (zb (pv 1)) (zE xL rfl z_len PySem.boot_len (zc (zb (pv 0)) zi))))))))
abbrev xv:Stmt:=top 40
theorem sc__law_drawn:zN ["_law_script", "_law_k", "_law_many", "_law_cell_here"] ["_law_script", "_law_k", "_law_many"] (zk xv):=⟨rfl,rfl,rfl,by decide +kernel,rfl,by decide +kernel,by decide +kernel⟩
theorem Y2{f:Addr}{fd:FuncData}(A_:zY K mg "_law_drawn" xv f fd)(h__law_cell:DefOk P w K mg base "_law_cell" 1 2 ["_law_script", "_law_k"] xX):DefOk P w K mg base "_law_drawn" 2 3 ["_law_script", "_law_k", "_law_many"] zq:=by
 refine DefOk.mk (k:=1) A_ sc__law_drawn rfl (fun _ _ _ _ _ _ us hl=>match us,hl with | [_,_,_],_=>rfl) (fun cdv A outer s H E hr=>?_) fun _ _ _ h=>h
 exact(zm (ya (i:=3) sc__law_drawn.nd rfl (Or.inl rfl) (zv uy (zv zH (zv wt (zv uy (zy h__law_cell (hr.mono (by decide)) (zc (zb (pv 0)) (zc (zb (pv 1)) zi)) (ze (ze zr))) zj) zj) (zv wt zj (zv zH (zb (pv 1)) zj))) zj)) (zm (ya (i:=3) sc__law_drawn.nd rfl (Or.inl rfl) (zv uy (zv zH (zv wt (zb (pv 3)) (zb (pv 3))) (zv jv (zb (pv 3)) zj)) zj)) (zn (zF (zv uy (zv jv (zv uy (zv zH (zv wt (zb (pv 3)) (zb (pv 3))) (zv jv (zb (pv 3)) zj)) zj) zj) (zb (pv 2)))))))
abbrev xG:Stmt:=top 41
theorem sc__law_name:zN ["_law_script", "_law_at", "_law_found", "_law_k"] ["_law_script", "_law_at"] (zk xG):=⟨rfl,rfl,rfl,by decide +kernel,rfl,by decide +kernel,by decide +kernel⟩
theorem X5{f:Addr}{fd:FuncData}(A_:zY K mg "_law_name" xG f fd)(h__law_drawn:DefOk P w K mg base "_law_drawn" 2 3 ["_law_script", "_law_k", "_law_many"] zq)(z_range:mg "range" = none):DefOk P w K mg base "_law_name" 3 2 ["_law_script", "_law_at"] yE:=by
 refine DefOk.mk (k:=2) A_ sc__law_name rfl (fun _ _ _ _ _ _ us hl=>match us,hl with | [_,_],_=>rfl) (fun cdv A outer s H E hr=>?_) fun _ _ _ h=>h
 exact(zm (ya (i:=2) sc__law_name.nd rfl (Or.inl rfl) vi) (zm (wM PassesOwn.never rfl (xV rfl z_range (zc (zv zH zj (zy h__law_drawn (hr.mono (by decide)) (zc (zb (pv 0)) (zc (zb (pv 1)) (zc zj zi))) (ze (ze (ze zr))))) zi)) (yb sc__law_name.nd rfl (Or.inl rfl)) (zn (ya (i:=2) sc__law_name.nd rfl (Or.inl rfl) (zv zH (zb (pv 2)) (zC zX vi (zy h__law_drawn (hr.mono (by decide)) (zc (zb (pv 0)) (zc (zv zH (zv zH (zb (pv 1)) zj) (zb (pv 3))) (zc zj zi))) (ze (ze (ze zr))))))))) (zn (zF (zb (pv 2))))))
abbrev xu:Stmt:=top 43
theorem sc__law_names:zN ["_law_script", "_law_at", "_law_most", "_law_found"] ["_law_script", "_law_at", "_law_most"] (zk xu):=⟨rfl,rfl,rfl,by decide +kernel,rfl,by decide +kernel,by decide +kernel⟩
theorem Y1{f:Addr}{fd:FuncData}(A_:zY K mg "_law_names" xu f fd)(h__law_drawn:DefOk P w K mg base "_law_drawn" 2 3 ["_law_script", "_law_k", "_law_many"] zq)(h__law_name:DefOk P w K mg base "_law_name" 3 2 ["_law_script", "_law_at"] yE)(z_len:mg "len" = none)(z_range:mg "range" = none):DefOk P w K mg base "_law_names" 4 3 ["_law_script", "_law_at", "_law_most"] xA:=by
 refine DefOk.mk (k:=3) A_ sc__law_names rfl (fun _ _ _ _ _ _ us hl=>match us,hl with | [_,_,_],_=>rfl) (fun cdv A outer s H E hr=>?_) fun _ _ _ h=>h
 exact(zm (JD (i:=3) sc__law_names.nd rfl rfl rfl (tn:=["_law_k"]) (fr:=["_law_script", "_law_at"]) (idx:=[0,1]) rfl rfl ⟨rfl,rfl,⟨rfl,rfl,trivial⟩⟩ (yN 0) (xV rfl z_range (zc (zy h__law_drawn (hr.mono (by decide)) (zc (zb (pv 0)) (zc (zb (pv 1)) (zc (zv zH (zb (pv 2)) zj) zi))) (ze (ze (ze zr)))) zi)) (fun s H C fp=>(yb (show List.Nodup (["_law_k", "_law_script", "_law_at"]:List Str) by decide +kernel) rfl (Or.inl rfl))) (fun s H C fp=>xJ) (fun s H C fp=>(zy h__law_name (hr.mono (by decide)) (zc (zb (pv 1)) (zc (zv zH (zv zH (zb (pv 2)) zj) (zv wt zj (zb (pv 0)))) zi)) (ze (ze zr))))) (zm (yP (Yg (XZ (zG VX (Yj (pv 3) rfl z_len) zj (yc _)) (Yf (zG (wD hr.units) (zy h__law_drawn (hr.mono (by decide)) (zc (zb (pv 0)) (zc (zv zH (zb (pv 1)) zj) (zc zj zi))) (ze (ze (ze zr)))) zj (yc _))))) (zn (MZ (pv 3) zj (M0 (pv 3) (wO zj)))) z7) (zn (jp (pv 3)))))
abbrev xH:Stmt:=top 42
theorem XQ:zN ["_law_sign"] ["_law_sign"] (zk xH):=⟨rfl,rfl,rfl,by decide +kernel,rfl,by decide +kernel,by decide +kernel⟩
theorem X6{f:Addr}{fd:FuncData}(A_:zY K mg "_law_mark" xH f fd):DefOk P w K mg base "_law_mark" 1 1 ["_law_sign"] xm:=by
 refine DefOk.mk (k:=0) A_ XQ rfl (fun _ _ _ _ _ _ us hl=>match us,hl with | [_],_=>rfl) (fun cdv A outer s H E hr=>?_) fun _ _ _ h=>h
 exact(zn (zF (uv (j6 (vM hr)) (zb (pv 0)) vi (by with_unfolding_all rfl))))
abbrev xt:Stmt:=top 44
theorem sc__law_query:zN ["_law_script", "_law_at", "_law_name_here", "_law_most", "_law_found", "_law_place", "_law_k", "_law_sign"] ["_law_script", "_law_at", "_law_name_here", "_law_most"] (zk xt):=⟨rfl,rfl,rfl,by decide +kernel,rfl,by decide +kernel,by decide +kernel⟩
theorem YZ{f:Addr}{fd:FuncData}(A_:zY K mg "_law_query" xt f fd)(h__law_drawn:DefOk P w K mg base "_law_drawn" 2 3 ["_law_script", "_law_k", "_law_many"] zq)(h__law_mark:DefOk P w K mg base "_law_mark" 1 1 ["_law_sign"] xm)(z_range:mg "range" = none)(z_len:mg "len" = none)(z_min:mg "min" = none):DefOk P w K mg base "_law_query" 3 4 ["_law_script", "_law_at", "_law_name_here", "_law_most"] xz:=by
 refine DefOk.mk (k:=2) A_ sc__law_query rfl (fun _ _ _ _ _ _ us hl=>match us,hl with | [_,_,_,_],_=>rfl) (fun cdv A outer s H E hr=>?_) fun _ _ _ h=>h
 exact(zm (ya (i:=4) sc__law_query.nd rfl (Or.inl rfl) vi) (zm (ya (i:=5) sc__law_query.nd rfl (Or.inl rfl) zj) (zm (wM PassesOwn.never rfl (xV rfl z_range (zc (zy h__law_drawn (hr.mono (by decide)) (zc (zb (pv 0)) (zc (zb (pv 1)) (zc (zv zH (zb (pv 3)) zj) zi))) (ze (ze (ze zr)))) zi)) (yb sc__law_query.nd rfl (Or.inl rfl)) (zm (ya (i:=5) sc__law_query.nd rfl (Or.inl rfl) (zE (Wl rfl) rfl z_min boot_min (zc (zv ux (zE xL rfl z_len PySem.boot_len (zc (zb (pv 2)) zi)) zj) (zc (zv zH (zb (pv 5)) (zy h__law_drawn (hr.mono (by decide)) (zc (zb (pv 0)) (zc (zv zH (zv zH (zb (pv 1)) zj) (zv wt zj (zb (pv 6)))) (zc zj zi))) (ze (ze (ze zr))))) zi)))) (zm (ya (i:=7) sc__law_query.nd rfl (Or.inl rfl) (JG (Q2 (VV (zb (pv 2)) (jq (zb (pv 5))) (jq (zv zH (zb (pv 5)) zj))) (X3 vi)))) (zm (ya (i:=5) sc__law_query.nd rfl (Or.inl rfl) (zv zH (zb (pv 5)) zj)) (zm (yP (zG (wD hr.units) (zy h__law_drawn (hr.mono (by decide)) (zc (zb (pv 0)) (zc (zv zH (zv zH (zb (pv 1)) zj) (zv wt zj (zb (pv 6)))) (zc zj zi))) (ze (ze (ze zr)))) zj (yc _)) (zn (ya (i:=7) sc__law_query.nd rfl (Or.inl rfl) (zC zX vi (zy h__law_drawn (hr.mono (by decide)) (zc (zb (pv 0)) (zc (zv zH (zv zH (zb (pv 1)) zj) (zv wt zj (zb (pv 6)))) (zc zj zi))) (ze (ze (ze zr))))))) z7) (zn (yP (MY (jo (zy h__law_mark (hr.mono (by decide)) (zc (zb (pv 7)) zi) (ze zr)))) (zn (ya (i:=4) sc__law_query.nd rfl (Or.inl rfl) (zv zH (zb (pv 4)) (zb (pv 7))))) z7))))))) (zn (zF (zb (pv 4)))))))
abbrev wm:Stmt:=top 31
theorem WF:zN ["names", "rows"] ["names", "rows"] (zk wm):=⟨rfl,rfl,rfl,by decide +kernel,rfl,by decide +kernel,by decide +kernel⟩
theorem WT{f c:Addr}(A_:Ur K mg "in_order" wm f c 126)(bm:BM mg base)(z_len:mg "len" = none)(z_sorted:mg "sorted" = none):DefOk P w K mg base "in_order" 4 2 ["names", "rows"] yZ:=by
 refine DefOk.mkL (k:=3) A_ WF rfl (fun _ _ _ _ _ _ us hl=>match us,hl with | [_,_],_=>rfl) (fun A outer s H E hr=>?_)
 exact(zn (zF (JF (P:=126) (p := "row") (fr:=["names"]) (idx:=[0]) rfl z_sorted boot_sorted (zb (pv 1)) (hr.mono (by decide)) (TabsU.of (by decide)) bm rfl A_.tab (.head _) rfl ⟨rfl,rfl,trivial⟩ rfl rfl rfl (fun _ _ _ _ _=>rfl) (fun s H f cd=>(wN (zc (wO (zC zX (zb (pv 0)) zj)) (zc (zE xL rfl z_len PySem.boot_len (zc (zC zX (zb (pv 1)) (zC zX (zb (pv 0)) zj)) zi)) (zc (zC zX (zb (pv 0)) zj) zi))))))))
abbrev xr:Stmt:=top 32
theorem YV:zN ["names", "rows", "many"] ["names", "rows", "many"] (zk xr):=⟨rfl,rfl,rfl,by decide +kernel,rfl,by decide +kernel,by decide +kernel⟩
theorem YY{f:Addr}{fd:FuncData}(A_:zY K mg "first_rows" xr f fd)(h_in_order:DefOk P w K mg base "in_order" 4 2 ["names", "rows"] yZ)(z_max:mg "max" = none):DefOk P w K mg base "first_rows" 5 3 ["names", "rows", "many"] y8:=by
 refine DefOk.mk (k:=4) A_ YV rfl (fun _ _ _ _ _ _ us hl=>match us,hl with | [_,_,_],_=>rfl) (fun cdv A outer s H E hr=>?_) fun _ _ _ h=>h
 exact(zn (zF (VV (zy h_in_order (hr.mono (by decide)) (zc (zb (pv 0)) (zc (zb (pv 1)) zi)) (ze (ze zr))) WN (jq (zE (TZ rfl) rfl z_max boot_max (zc (zb (pv 2)) (zc zj zi)))))))
abbrev ym:Stmt:=top 20
theorem sc_beginning_points:zN ["name", "place", "ahead"] ["name", "place"] (zk ym):=⟨rfl,rfl,rfl,by decide +kernel,rfl,by decide +kernel,by decide +kernel⟩
theorem uH{f:Addr}{fd:FuncData}(A_:zY K mg "beginning_points" ym f fd){t_FIGURES:Tok}(g_FIGURES:mg "FIGURES" = some (.str "0123456789" t_FIGURES)){t_SMALL:Tok}(g_SMALL:mg "SMALL" = some (.str "abcdefghijklmnopqrstuvwxyz" t_SMALL)){t_GREAT:Tok}(g_GREAT:mg "GREAT" = some (.str "ABCDEFGHIJKLMNOPQRSTUVWXYZ" t_GREAT)){t_AT_GREAT:Tok}(g_AT_GREAT:mg "AT_GREAT" = some (.int 5 t_AT_GREAT)){t_MARKS:Tok}(g_MARKS:mg "MARKS" = some (.str "_-./" t_MARKS)){t_BEHIND_MARK:Tok}(g_BEHIND_MARK:mg "BEHIND_MARK" = some (.int 6 t_BEHIND_MARK)){t_AT_BEGINNING:Tok}(g_AT_BEGINNING:mg "AT_BEGINNING" = some (.int 8 t_AT_BEGINNING)):DefOk P w K mg base "beginning_points" 1 2 ["name", "place"] yA:=by
 refine DefOk.mk (k:=0) A_ sc_beginning_points rfl (fun _ _ _ _ _ _ us hl=>match us,hl with | [_,_],_=>rfl) (fun cdv A outer s H E hr=>?_) fun _ _ _ h=>h
 exact(zm (yP (zG (wD hr.units) (zb (pv 1)) zj (yc _)) (zn (zF (vj rfl g_AT_BEGINNING))) z7) (zm (ya (i:=2) sc_beginning_points.nd rfl (Or.inl rfl) (zC zX (zb (pv 0)) (zv ux (zb (pv 1)) zj))) (zm (yP (zG (j6 (vM hr)) (zb (pv 2)) (jt rfl g_MARKS) (by with_unfolding_all rfl)) (zn (zF (vj rfl g_BEHIND_MARK))) z7) (zm (yP (Yg (XZ (zG (j6 (vM hr)) (zC zX (zb (pv 0)) (zb (pv 1))) (jt rfl g_GREAT) (by with_unfolding_all rfl)) (Yf (Yg (XY (zG (j6 (vM hr)) (zb (pv 2)) (jt rfl g_SMALL) (by with_unfolding_all rfl)) (ZR (zG (j6 (vM hr)) (zb (pv 2)) (jt rfl g_FIGURES) (by with_unfolding_all rfl)))))))) (zn (zF (vj rfl g_AT_GREAT))) z7) (zn (zF zj))))))
abbrev xq:Stmt:=top 21
theorem sc_own_points:zN ["sign", "name", "place", "same"] ["sign", "name", "place"] (zk xq):=⟨rfl,rfl,rfl,by decide +kernel,rfl,by decide +kernel,by decide +kernel⟩
theorem YX{f:Addr}{fd:FuncData}(A_:zY K mg "own_points" xq f fd)(h_beginning_points:DefOk P w K mg base "beginning_points" 1 2 ["name", "place"] yA){t_EACH_PLACE:Tok}(g_EACH_PLACE:mg "EACH_PLACE" = some (.int 10 t_EACH_PLACE)){t_SAME_SIGN:Tok}(g_SAME_SIGN:mg "SAME_SIGN" = some (.int 1 t_SAME_SIGN)):DefOk P w K mg base "own_points" 2 3 ["sign", "name", "place"] yt:=by
 refine DefOk.mk (k:=1) A_ sc_own_points rfl (fun _ _ _ _ _ _ us hl=>match us,hl with | [_,_,_],_=>rfl) (fun cdv A outer s H E hr=>?_) fun _ _ _ h=>h
 exact(zm (ya (i:=3) sc_own_points.nd rfl (Or.inl rfl) (LY (zG (wD hr.units) (zC zX (zb (pv 1)) (zb (pv 2))) (zb (pv 0)) (yc _)) (vj rfl g_SAME_SIGN) zj)) (zn (zF (zv zH (zv zH (vj rfl g_EACH_PLACE) (zy h_beginning_points (hr.mono (by decide)) (zc (zb (pv 1)) (zc (zb (pv 2)) zi)) (ze (ze zr)))) (zb (pv 3))))))
abbrev vK:Stmt:=top 8
theorem QF:zN ["sign", "other"] ["sign", "other"] (zk vK):=⟨rfl,rfl,rfl,by decide +kernel,rfl,by decide +kernel,by decide +kernel⟩
theorem Q9{f:Addr}{fd:FuncData}(A_:zY K mg "meets" vK f fd){t_SMALL:Tok}(g_SMALL:mg "SMALL" = some (.str "abcdefghijklmnopqrstuvwxyz" t_SMALL)):DefOk P w K mg base "meets" 1 2 ["sign", "other"] xD:=by
 refine DefOk.mk (k:=0) A_ QF rfl (fun _ _ _ _ _ _ us hl=>match us,hl with | [_,_],_=>rfl) (fun cdv A outer s H E hr=>?_) fun _ _ _ h=>h
 exact(zn (zF (Q2 (uv (wD hr.units) (zb (pv 0)) (zb (pv 1)) (yc _)) (X3 (M1 (uv (j6 (vM hr)) (zb (pv 0)) (jt rfl g_SMALL) (by with_unfolding_all rfl)) (X3 (uv (wD hr.units) (JE (zb (pv 0))) (zb (pv 1)) (yc _))))))))
abbrev yq:Stmt:=top 25
theorem uT:zN ["sign", "name"] ["sign", "name"] (zk yq):=⟨rfl,rfl,rfl,by decide +kernel,rfl,by decide +kernel,by decide +kernel⟩
theorem uX{f:Addr}{fd:FuncData}(A_:zY K mg "last_sign_tails" yq f fd)(h_meets:DefOk P w K mg base "meets" 1 2 ["sign", "other"] xD)(h_own_points:DefOk P w K mg base "own_points" 2 3 ["sign", "name", "place"] yt)(z_len:mg "len" = none)(z_range:mg "range" = none):DefOk P w K mg base "last_sign_tails" 3 2 ["sign", "name"] yh:=by
 refine DefOk.mk (k:=2) A_ uT rfl (fun _ _ _ _ _ _ us hl=>match us,hl with | [_,_],_=>rfl) (fun cdv A outer s H E hr=>?_) fun _ _ _ h=>h
 exact(zn (zF (xK (yX (tn:=["place"]) (fr:=["sign", "name"]) (idx:=[0,1]) rfl rfl ⟨rfl,rfl,⟨rfl,rfl,trivial⟩⟩ (yN 0) (xV rfl z_range (zc (zE xL rfl z_len PySem.boot_len (zc (zb (pv 1)) zi)) zi)) (fun s H C fp=>(yb (show List.Nodup (["place", "sign", "name"]:List Str) by decide +kernel) rfl (Or.inl rfl))) (fun s H C fp=>(wy (jo (zy h_meets (hr.mono (by decide)) (zc (zb (pv 1)) (zc (zC zX (zb (pv 2)) (zb (pv 0))) zi)) (ze (ze zr)))))) (fun s H C fp=>(wN (zc (zy h_own_points (hr.mono (by decide)) (zc (zb (pv 1)) (zc (zb (pv 2)) (zc (zb (pv 0)) zi))) (ze (ze (ze zr)))) (zc (x6 (zc (zb (pv 0)) zi)) zi))))))))
abbrev yM:Stmt:=top 24
theorem sc_first_of_most:zN ["tails", "chosen", "tail"] ["tails"] (zk yM):=⟨rfl,rfl,rfl,by decide +kernel,rfl,by decide +kernel,by decide +kernel⟩
theorem j7{f:Addr}{fd:FuncData}(A_:zY K mg "first_of_most" yM f fd):DefOk P w K mg base "first_of_most" 1 1 ["tails"] zO:=by
 refine DefOk.mk (k:=0) A_ sc_first_of_most rfl (fun _ _ _ _ _ _ us hl=>match us,hl with | [_],_=>rfl) (fun cdv A outer s H E hr=>?_) fun _ _ _ h=>h
 exact(zm (ya (i:=1) sc_first_of_most.nd rfl (Or.inl rfl) jr) (zm (wM PassesOwn.never rfl (yQ (zb (pv 0))) (yb sc_first_of_most.nd rfl (Or.inl rfl)) (zn (yP (Yg (XY (zG L0 (zb (pv 1)) jr (yc _)) (ZR (zG VX (zC zX (zb (pv 2)) zj) (zC zX (zb (pv 1)) zj) (yc _))))) (zn (ya (i:=1) sc_first_of_most.nd rfl (Or.inl rfl) (zb (pv 2)))) z7))) (zn (zF (zb (pv 1))))))
abbrev xc:Stmt:=top 23
theorem sc_link_points:zN ["ahead", "place", "between"] ["ahead", "place"] (zk xc):=⟨rfl,rfl,rfl,by decide +kernel,rfl,by decide +kernel,by decide +kernel⟩
theorem Yl{f:Addr}{fd:FuncData}(A_:zY K mg "link_points" xc f fd){t_MOST_BETWEEN:Tok}(g_MOST_BETWEEN:mg "MOST_BETWEEN" = some (.int 5 t_MOST_BETWEEN)){t_BESIDE:Tok}(g_BESIDE:mg "BESIDE" = some (.int 7 t_BESIDE))(z_min:mg "min" = none):DefOk P w K mg base "link_points" 1 2 ["ahead", "place"] xg:=by
 refine DefOk.mk (k:=0) A_ sc_link_points rfl (fun _ _ _ _ _ _ us hl=>match us,hl with | [_,_],_=>rfl) (fun cdv A outer s H E hr=>?_) fun _ _ _ h=>h
 exact(zm (ya (i:=2) sc_link_points.nd rfl (Or.inl rfl) (zv ux (zv ux (zb (pv 1)) (zb (pv 0))) zj)) (zm (yP (zG (wD hr.units) (zb (pv 2)) zj (yc _)) (zn (zF (vj rfl g_BESIDE))) z7) (zn (zF (wO (zE (Wl rfl) rfl z_min boot_min (zc (zb (pv 2)) (zc (vj rfl g_MOST_BETWEEN) zi))))))))
abbrev yU:Stmt:=top 26
theorem ZD:zN ["place", "tails"] ["place", "tails"] (zk yU):=⟨rfl,rfl,rfl,by decide +kernel,rfl,by decide +kernel,by decide +kernel⟩
theorem ZJ{f:Addr}{fd:FuncData}(A_:zY K mg "linked_tails" yU f fd)(h_link_points:DefOk P w K mg base "link_points" 1 2 ["ahead", "place"] xg):DefOk P w K mg base "linked_tails" 2 2 ["place", "tails"] yC:=by
 refine DefOk.mk (k:=1) A_ ZD rfl (fun _ _ _ _ _ _ us hl=>match us,hl with | [_,_],_=>rfl) (fun cdv A outer s H E hr=>?_) fun _ _ _ h=>h
 exact(zn (zF (xK (yX (tn:=["tail"]) (fr:=["place"]) (idx:=[0]) rfl rfl ⟨rfl,rfl,trivial⟩ (yN 0) (yQ (zb (pv 1))) (fun s H C fp=>(yb (show List.Nodup (["tail", "place"]:List Str) by decide +kernel) rfl (Or.inl rfl))) (fun s H C fp=>(wy (zG VX (zC zX (zC zX (zb (pv 0)) zj) zj) (zb (pv 1)) (yc _)))) (fun s H C fp=>(wN (zc (zv zH (zC zX (zb (pv 0)) zj) (zy h_link_points (hr.mono (by decide)) (zc (zb (pv 1)) (zc (zC zX (zC zX (zb (pv 0)) zj) zj) zi)) (ze (ze zr)))) (zc (zC zX (zb (pv 0)) zj) zi))))))))
abbrev yT:Stmt:=top 27
theorem sc_longer_tails:zN ["sign", "name", "tails", "longer", "place", "chosen"] ["sign", "name", "tails"] (zk yT):=⟨rfl,rfl,rfl,by decide +kernel,rfl,by decide +kernel,by decide +kernel⟩
theorem ZI{f:Addr}{fd:FuncData}(A_:zY K mg "longer_tails" yT f fd)(h_meets:DefOk P w K mg base "meets" 1 2 ["sign", "other"] xD)(h_own_points:DefOk P w K mg base "own_points" 2 3 ["sign", "name", "place"] yt)(h_linked_tails:DefOk P w K mg base "linked_tails" 2 2 ["place", "tails"] yC)(h_first_of_most:DefOk P w K mg base "first_of_most" 1 1 ["tails"] zO)(z_len:mg "len" = none)(z_range:mg "range" = none):DefOk P w K mg base "longer_tails" 3 3 ["sign", "name", "tails"] yY:=by
 refine DefOk.mk (k:=2) A_ sc_longer_tails rfl (fun _ _ _ _ _ _ us hl=>match us,hl with | [_,_,_],_=>rfl) (fun cdv A outer s H E hr=>?_) fun _ _ _ h=>h
 exact(zm (Yh (i:=3) sc_longer_tails.nd rfl (Or.inl rfl) (X2 zi)) (zm (wM PassesOwn.never rfl (xV rfl z_range (zc (zE xL rfl z_len PySem.boot_len (zc (zb (pv 1)) zi)) zi)) (yb sc_longer_tails.nd rfl (Or.inl rfl)) (zn (yP (jo (zy h_meets (hr.mono (by decide)) (zc (zb (pv 0)) (zc (zC zX (zb (pv 1)) (zb (pv 4))) zi)) (ze (ze zr)))) (zm (ya (i:=5) sc_longer_tails.nd rfl (Or.inl rfl) (zy h_first_of_most (hr.mono (by decide)) (zc (zy h_linked_tails (hr.mono (by decide)) (zc (zb (pv 4)) (zc (zb (pv 2)) zi)) (ze (ze zr))) zi) (ze zr))) (zn (yP (zG Xl (zb (pv 5)) jr (yc _)) (zn (X1 (pv 3) (wN (zc (zv zH (zy h_own_points (hr.mono (by decide)) (zc (zb (pv 0)) (zc (zb (pv 1)) (zc (zb (pv 4)) zi))) (ze (ze (ze zr)))) (zC zX (zb (pv 5)) zj)) (zc (zv zH (x6 (zc (zb (pv 4)) zi)) (zC zX (zb (pv 5)) zj)) zi))))) z7))) z7))) (zn (jp (pv 3)))))
abbrev xf:Stmt:=top 22
theorem Ya:zN ["place"] ["place"] (zk xf):=⟨rfl,rfl,rfl,by decide +kernel,rfl,by decide +kernel,by decide +kernel⟩
theorem Ym{f:Addr}{fd:FuncData}(A_:zY K mg "lead_points" xf f fd){t_MOST_AHEAD:Tok}(g_MOST_AHEAD:mg "MOST_AHEAD" = some (.int 3 t_MOST_AHEAD))(z_min:mg "min" = none):DefOk P w K mg base "lead_points" 1 1 ["place"] yR:=by
 refine DefOk.mk (k:=0) A_ Ya rfl (fun _ _ _ _ _ _ us hl=>match us,hl with | [_],_=>rfl) (fun cdv A outer s H E hr=>?_) fun _ _ _ h=>h
 exact(zn (zF (wO (zE (Wl rfl) rfl z_min boot_min (zc (zb (pv 0)) (zc (vj rfl g_MOST_AHEAD) zi))))))
abbrev uW:Stmt:=top 28
theorem sc_best:zN ["query", "name", "tails", "number"] ["query", "name"] (zk uW):=⟨rfl,rfl,rfl,by decide +kernel,rfl,by decide +kernel,by decide +kernel⟩
theorem M7{f:Addr}{fd:FuncData}(A_:zY K mg "best" uW f fd)(h_lead_points:DefOk P w K mg base "lead_points" 1 1 ["place"] yR)(h_first_of_most:DefOk P w K mg base "first_of_most" 1 1 ["tails"] zO)(h_longer_tails:DefOk P w K mg base "longer_tails" 3 3 ["sign", "name", "tails"] yY)(h_last_sign_tails:DefOk P w K mg base "last_sign_tails" 3 2 ["sign", "name"] yh)(z_len:mg "len" = none)(z_range:mg "range" = none):DefOk P w K mg base "best" 4 2 ["query", "name"] x8:=by
 refine DefOk.mk (k:=3) A_ sc_best rfl (fun _ _ _ _ _ _ us hl=>match us,hl with | [_,_],_=>rfl) (fun cdv A outer s H E hr=>?_) fun _ _ _ h=>h
 exact(zm (yP (zG (wD hr.units) (zE xL rfl z_len PySem.boot_len (zc (zb (pv 0)) zi)) zj (yc _)) (zn (zF (wN (zc zj (zc (x6 zi) zi))))) z7) (zm (ya (i:=2) sc_best.nd rfl (Or.inl rfl) (zy h_last_sign_tails (hr.mono (by decide)) (zc (zC zX (zb (pv 0)) (wO zj)) (zc (zb (pv 1)) zi)) (ze (ze zr)))) (zm (wM PassesOwn.never rfl (VU rfl z_range (zc (zv ux (zE xL rfl z_len PySem.boot_len (zc (zb (pv 0)) zi)) zj) (zc (wO zj) (zc (wO zj) zi)))) (yb sc_best.nd rfl (Or.inl rfl)) (zn (ya (i:=2) sc_best.nd rfl (Or.inl rfl) (zy h_longer_tails (hr.mono (by decide)) (zc (zC zX (zb (pv 0)) (zb (pv 3))) (zc (zb (pv 1)) (zc (zb (pv 2)) zi))) (ze (ze (ze zr))))))) (zn (zF (zy h_first_of_most (hr.mono (by decide)) (zc (xK (yX (tn:=["tail"]) (fr:=[]) (idx:=[]) rfl rfl trivial (yN 0) (yQ (zb (pv 2))) (fun s H C fp=>(yb (show List.Nodup (["tail"]:List Str) by decide +kernel) rfl (Or.inl rfl))) (fun s H C fp=>xJ) (fun s H C fp=>(wN (zc (zv zH (zC zX (zb (pv 0)) zj) (zy h_lead_points (hr.mono (by decide)) (zc (zC zX (zC zX (zb (pv 0)) zj) zj) zi) (ze zr))) (zc (zC zX (zb (pv 0)) zj) zi)))))) zi) (ze zr)))))))
abbrev yV:Stmt:=top 30
theorem sc_fitting_rows:zN ["names", "query", "numbers", "rows", "number", "laid"] ["names", "query", "numbers"] (zk yV):=⟨rfl,rfl,rfl,by decide +kernel,rfl,by decide +kernel,by decide +kernel⟩
theorem ZK{f:Addr}{fd:FuncData}(A_:zY K mg "fitting_rows" yV f fd)(h_best:DefOk P w K mg base "best" 4 2 ["query", "name"] x8):DefOk P w K mg base "fitting_rows" 5 3 ["names", "query", "numbers"] yD:=by
 refine DefOk.mk (k:=4) A_ sc_fitting_rows rfl (fun _ _ _ _ _ _ us hl=>match us,hl with | [_,_,_],_=>rfl) (fun cdv A outer s H E hr=>?_) fun _ _ _ h=>h
 exact(zm (Yh (i:=3) sc_fitting_rows.nd rfl (Or.inl rfl) (X2 zi)) (zm (wM PassesOwn.never rfl (yQ (zb (pv 2))) (yb sc_fitting_rows.nd rfl (Or.inl rfl)) (zm (ya (i:=5) sc_fitting_rows.nd rfl (Or.inl rfl) (zy h_best (hr.mono (by decide)) (zc (zb (pv 1)) (zc (zC zX (zb (pv 0)) (zb (pv 4))) zi)) (ze (ze zr)))) (zn (yP (zG Xl (zb (pv 5)) jr (yc _)) (zn (X1 (pv 3) (wN (zc (zC zX (zb (pv 5)) zj) (zc (zb (pv 4)) zi))))) z7)))) (zn (jp (pv 3)))))
abbrev xU:Stmt:=top 33
theorem WG:zN ["names", "query"] ["names", "query"] (zk xU):=⟨rfl,rfl,rfl,by decide +kernel,rfl,by decide +kernel,by decide +kernel⟩
theorem WU{f:Addr}{fd:FuncData}(A_:zY K mg "all_rows" xU f fd)(h_fitting_rows:DefOk P w K mg base "fitting_rows" 5 3 ["names", "query", "numbers"] yD)(z_len:mg "len" = none)(z_list:mg "list" = none)(z_range:mg "range" = none):DefOk P w K mg base "all_rows" 6 2 ["names", "query"] yn:=by
 refine DefOk.mk (k:=5) A_ WG rfl (fun _ _ _ _ _ _ us hl=>match us,hl with | [_,_],_=>rfl) (fun cdv A outer s H E hr=>?_) fun _ _ _ h=>h
 exact(zn (zF (zy h_fitting_rows (hr.mono (by decide)) (zc (zb (pv 0)) (zc (zb (pv 1)) (zc (xK (ZG rfl rfl z_list rfl z_range (zc (zE xL rfl z_len PySem.boot_len (zc (zb (pv 0)) zi)) zi))) zi))) (ze (ze (ze zr))))))
abbrev vL:Stmt:=top 34
theorem QG:zN ["names", "query", "many"] ["names", "query", "many"] (zk vL):=⟨rfl,rfl,rfl,by decide +kernel,rfl,by decide +kernel,by decide +kernel⟩
theorem Ga{f:Addr}{fd:FuncData}(A_:zY K mg "finds" vL f fd)(h_all_rows:DefOk P w K mg base "all_rows" 6 2 ["names", "query"] yn)(h_first_rows:DefOk P w K mg base "first_rows" 5 3 ["names", "rows", "many"] y8):DefOk P w K mg base "finds" 7 3 ["names", "query", "many"] xh:=by
 refine DefOk.mk (k:=6) A_ QG rfl (fun _ _ _ _ _ _ us hl=>match us,hl with | [_,_,_],_=>rfl) (fun cdv A outer s H E hr=>?_) fun _ _ _ h=>h
 exact(zn (zF (zy h_first_rows (hr.mono (by decide)) (zc (zb (pv 0)) (zc (zy h_all_rows (hr.mono (by decide)) (zc (zb (pv 0)) (zc (zb (pv 1)) zi)) (ze (ze zr))) (zc (zb (pv 2)) zi))) (ze (ze (ze zr))))))
abbrev uU:Stmt:=top 37
theorem sc_ties:zN ["names", "query", "numbers", "row"] ["names", "query"] (zk uU):=⟨rfl,rfl,rfl,by decide +kernel,rfl,by decide +kernel,by decide +kernel⟩
theorem M5{f:Addr}{fd:FuncData}(A_:zY K mg "ties" uU f fd)(h_all_rows:DefOk P w K mg base "all_rows" 6 2 ["names", "query"] yn)(z_sorted:mg "sorted" = none):DefOk P w K mg base "ties" 7 2 ["names", "query"] ub:=by
 refine DefOk.mk (k:=6) A_ sc_ties rfl (fun _ _ _ _ _ _ us hl=>match us,hl with | [_,_],_=>rfl) (fun cdv A outer s H E hr=>?_) fun _ _ _ h=>h
 exact(JB (i:=2) (r:=3) sc_ties.nd rfl PassesOwn.never rfl (Or.inr rfl) rfl (Or.inl rfl) (yQ (zy h_all_rows (hr.mono (by decide)) (zc (zb (pv 0)) (zc (zb (pv 1)) zi)) (ze (ze zr)))) (by exact LM (Lk hr) (zC zX (zb (pv 3)) zj) (zC zX (zb (pv 3)) zj) (zC zX (zb (pv 3)) zj) (zC zX (zb (pv 3)) zj) (pv 2) (pv 2) (pv 2)) rfl ⟨rfl,rfl,trivial⟩ (by exact QX rfl rfl z_sorted boot_sorted (pv 2)) (by exact fun s H C fp=>jn (show List.Nodup (["count", "numbers"]:List Str) by decide +kernel) rfl (Or.inl rfl)) (by exact fun s H C fp=>QW (uw (pv 0) (uw (UK (Lk hr) (pv 1) (pv 0) (fun _ _=>rfl)) j5))))
abbrev yr:Stmt:=top 9
theorem sc_earliest_places:zN ["query", "name", "places", "place"] ["query", "name"] (zk yr):=⟨rfl,rfl,rfl,by decide +kernel,rfl,by decide +kernel,by decide +kernel⟩
theorem uY{f:Addr}{fd:FuncData}(A_:zY K mg "earliest_places" yr f fd)(h_meets:DefOk P w K mg base "meets" 1 2 ["sign", "other"] xD)(z_len:mg "len" = none)(z_range:mg "range" = none):DefOk P w K mg base "earliest_places" 2 2 ["query", "name"] yJ:=by
 refine DefOk.mk (k:=1) A_ sc_earliest_places rfl (fun _ _ _ _ _ _ us hl=>match us,hl with | [_,_],_=>rfl) (fun cdv A outer s H E hr=>?_) fun _ _ _ h=>h
 exact(zm (Yh (i:=2) sc_earliest_places.nd rfl (Or.inl rfl) (X2 zi)) (zm (wM PassesOwn.never rfl (xV rfl z_range (zc (zE xL rfl z_len PySem.boot_len (zc (zb (pv 1)) zi)) zi)) (yb sc_earliest_places.nd rfl (Or.inl rfl)) (zn (yP (Yg (XZ (zG VW (Yj (pv 2) rfl z_len) (zE xL rfl z_len PySem.boot_len (zc (zb (pv 0)) zi)) (yc _)) (Yf (jo (zy h_meets (hr.mono (by decide)) (zc (zC zX (zb (pv 0)) (Yj (pv 2) rfl z_len)) (zc (zC zX (zb (pv 1)) (zb (pv 3))) zi)) (ze (ze zr))))))) (zn (X1 (pv 2) (zb (pv 3)))) z7))) (zn (jp (pv 2)))))
abbrev uV:Stmt:=top 10
theorem MB:zN ["query", "name"] ["query", "name"] (zk uV):=⟨rfl,rfl,rfl,by decide +kernel,rfl,by decide +kernel,by decide +kernel⟩
theorem M6{f:Addr}{fd:FuncData}(A_:zY K mg "fits" uV f fd)(h_earliest_places:DefOk P w K mg base "earliest_places" 2 2 ["query", "name"] yJ)(z_len:mg "len" = none):DefOk P w K mg base "fits" 3 2 ["query", "name"] u0:=by
 refine DefOk.mk (k:=2) A_ MB rfl (fun _ _ _ _ _ _ us hl=>match us,hl with | [_,_],_=>rfl) (fun cdv A outer s H E hr=>?_) fun _ _ _ h=>h
 exact(zn (zF (uv (wD hr.units) (zE xL rfl z_len PySem.boot_len (zc (zy h_earliest_places (hr.mono (by decide)) (zc (zb (pv 0)) (zc (zb (pv 1)) zi)) (ze (ze zr))) zi)) (zE xL rfl z_len PySem.boot_len (zc (zb (pv 0)) zi)) (yc _))))
abbrev yW:Stmt:=top 35
theorem ZE:zN ["names", "number"] ["names", "number"] (zk yW):=⟨rfl,rfl,rfl,by decide +kernel,rfl,by decide +kernel,by decide +kernel⟩
theorem ZL{f:Addr}{fd:FuncData}(A_:zY K mg "check_number" yW f fd)(z_len:mg "len" = none):DefOk P w K mg base "check_number" 1 2 ["names", "number"] y0:=by
 refine DefOk.mk (k:=0) A_ ZE rfl (fun _ _ _ _ _ _ us hl=>match us,hl with | [_,_],_=>rfl) (fun cdv A outer s H E hr=>?_) fun _ _ _ h=>h
 exact(zn (yP (Yg (XY (zG VW (zb (pv 1)) zj (yc _)) (ZR (zG L1 (zb (pv 1)) (zE xL rfl z_len PySem.boot_len (zc (zb (pv 0)) zi)) (yc _))))) (zn JC) z7))
abbrev wk:Stmt:=top 36
theorem sc_rank_of:zN ["names", "query", "number", "rank", "row"] ["names", "query", "number"] (zk wk):=⟨rfl,rfl,rfl,by decide +kernel,rfl,by decide +kernel,by decide +kernel⟩
theorem VZ{f:Addr}{fd:FuncData}(A_:zY K mg "rank_of" wk f fd)(h_all_rows:DefOk P w K mg base "all_rows" 6 2 ["names", "query"] yn)(h_in_order:DefOk P w K mg base "in_order" 4 2 ["names", "rows"] yZ)(h_check_number:DefOk P w K mg base "check_number" 1 2 ["names", "number"] y0)(z_enumerate:mg "enumerate" = none):DefOk P w K mg base "rank_of" 7 3 ["names", "query", "number"] xW:=by
 refine DefOk.mk (k:=6) A_ sc_rank_of rfl (fun _ _ _ _ _ _ us hl=>match us,hl with | [_,_,_],_=>rfl) (fun cdv A outer s H E hr=>?_) fun _ _ _ h=>h
 exact(zm (Q1 (zy h_check_number (hr.mono (by decide)) (zc (zb (pv 0)) (zc (zb (pv 2)) zi)) (ze (ze zr)))) (zm (wM PassesOwn.never rfl (WO rfl z_enumerate (zc (zy h_in_order (hr.mono (by decide)) (zc (zb (pv 0)) (zc (zy h_all_rows (hr.mono (by decide)) (zc (zb (pv 0)) (zc (zb (pv 1)) zi)) (ze (ze zr))) zi)) (ze (ze zr))) zi)) (v5 rfl sc_rank_of.nd rfl (Or.inl rfl) rfl (Or.inl rfl)) (zn (yP (zG (wD hr.units) (zC zX (zb (pv 4)) zj) (zb (pv 2)) (yc _)) (zn (zF (zb (pv 3)))) z7))) (zn (zF jr))))
abbrev jl:Stmt:=top 45
theorem sc_law:zN ["_law_script", "_law_names_here", "_law_query_here", "_law_told", "_law_numbers", "_law_longer", "_law_more", "_law_groups", "_law_rows", "_law_count", "_law_some", "_law_counts", "_law_keyed"] ["_law_script"] (zk jl):=⟨rfl,rfl,rfl,by decide +kernel,rfl,by decide +kernel,by decide +kernel⟩
theorem L9{f:Addr}{fd:FuncData}(A_:Fun K "law" "law" jl f fd)(h_ties:DefOk P w K mg base "ties" 7 2 ["names", "query"] ub)(h_rank_of:DefOk P w K mg base "rank_of" 7 3 ["names", "query", "number"] xW)(h__law_name:DefOk P w K mg base "_law_name" 3 2 ["_law_script", "_law_at"] yE)(h_finds:DefOk P w K mg base "finds" 7 3 ["names", "query", "many"] xh)(h__law_drawn:DefOk P w K mg base "_law_drawn" 2 3 ["_law_script", "_law_k", "_law_many"] zq)(h_best:DefOk P w K mg base "best" 4 2 ["query", "name"] x8)(h_fits:DefOk P w K mg base "fits" 3 2 ["query", "name"] u0)(h__law_query:DefOk P w K mg base "_law_query" 3 4 ["_law_script", "_law_at", "_law_name_here", "_law_most"] xz)(h__law_names:DefOk P w K mg base "_law_names" 4 3 ["_law_script", "_law_at", "_law_most"] xA)(z_sorted:mg "sorted" = none)(z_len:mg "len" = none)(z_set:mg "set" = none)(z_range:mg "range" = none)(z_enumerate:mg "enumerate" = none):FnOk P w K mg base CX0 8 f fd ["_law_script"] (spD K 1 UT):=by
 refine fnD (k:=7) A_ sc_law rfl fun cdv A outer s H E hr=>?_
 exact(zm (ya (i:=1) sc_law.nd rfl (Or.inr rfl) (zy h__law_names (hr.mono (by decide)) (zc (zb (pv 0)) (zc zj (zc zj zi))) (ze (ze (ze zr))))) (zm (ya (i:=2) sc_law.nd rfl (Or.inr rfl) (zy h__law_query (hr.mono (by decide)) (zc (zb (pv 0)) (zc zj (zc (zC zX (zv zH (zb (pv 1)) (x6 (zc vi zi))) (zy h__law_drawn (hr.mono (by decide)) (zc (zb (pv 0)) (zc zj (zc (zv zH (zE xL rfl z_len PySem.boot_len (zc (zb (pv 1)) zi)) zj) zi))) (ze (ze (ze zr))))) (zc zj zi)))) (ze (ze (ze (ze zr)))))) (zm (ya (i:=3) sc_law.nd rfl (Or.inr rfl) (zy h_finds (hr.mono (by decide)) (zc (zb (pv 1)) (zc (zb (pv 2)) (zc zj zi))) (ze (ze (ze zr))))) (zm (ya (i:=4) sc_law.nd rfl (Or.inr rfl) (xK (yX (tn:=["_law_row"]) (fr:=[]) (idx:=[]) rfl rfl trivial (yN 0) (yQ (zb (pv 3))) (fun s H C fp=>(yb (show List.Nodup (["_law_row"]:List Str) by decide +kernel) rfl (Or.inl rfl))) (fun s H C fp=>xJ) (fun s H C fp=>(zC zX (zb (pv 0)) zj))))) (zm (yP (zG (wC hr.units) (zE Vy rfl z_sorted boot_sorted (zc (zb (pv 4)) zi)) (xK (yX (tn:=["_law_number", "_law_name_here"]) (fr:=["_law_query_here"]) (idx:=[2]) rfl rfl ⟨rfl,rfl,trivial⟩ (Z9 0 1) (WO rfl z_enumerate (zc (zb (pv 1)) zi)) (fun s H C fp=>(v5 rfl (show List.Nodup (["_law_number", "_law_name_here", "_law_query_here"]:List Str) by decide +kernel) rfl (Or.inl rfl) rfl (Or.inl rfl))) (fun s H C fp=>(wy (jo (zy h_fits (hr.mono (by decide)) (zc (zb (pv 2)) (zc (zb (pv 1)) zi)) (ze (ze zr)))))) (fun s H C fp=>(zb (pv 0))))) (yc _)) (zn (zF v6)) z7) (zm (yP (zG (wC hr.units) (xK (yX (tn:=["_law_row"]) (fr:=["_law_query_here", "_law_names_here"]) (idx:=[2,1]) rfl rfl ⟨rfl,rfl,⟨rfl,rfl,trivial⟩⟩ (yN 0) (yQ (zb (pv 3))) (fun s H C fp=>(yb (show List.Nodup (["_law_row", "_law_query_here", "_law_names_here"]:List Str) by decide +kernel) rfl (Or.inl rfl))) (fun s H C fp=>(wy (zG (wC hr.units) (zC zX (zy h_best (hr.mono (by decide)) (zc (zb (pv 1)) (zc (zC zX (zb (pv 2)) (zC zX (zb (pv 0)) zj)) zi)) (ze (ze zr))) zj) (zC zX (zb (pv 0)) zj) (yc _)))) (fun s H C fp=>(zb (pv 0))))) (x6 zi) (yc _)) (zn (zF v6)) z7) (zm (yP (zG (wC hr.units) (xK (yX (tn:=["_law_row"]) (fr:=[]) (idx:=[]) rfl rfl trivial (yN 0) (yQ (zb (pv 3))) (fun s H C fp=>(yb (show List.Nodup (["_law_row"]:List Str) by decide +kernel) rfl (Or.inl rfl))) (fun s H C fp=>xJ) (fun s H C fp=>(zC zX (zb (pv 0)) zj)))) (UM (zE Vy rfl z_sorted boot_sorted (zc (xK (yX (tn:=["_law_row"]) (fr:=[]) (idx:=[]) rfl rfl trivial (yN 0) (yQ (zb (pv 3))) (fun s H C fp=>(yb (show List.Nodup (["_law_row"]:List Str) by decide +kernel) rfl (Or.inl rfl))) (fun s H C fp=>xJ) (fun s H C fp=>(zC zX (zb (pv 0)) zj)))) zi)) (wO zj)) (yc _)) (zn (zF v6)) z7) (zm (yP (zG (wC hr.units) (xK (yX (tn:=["_law_many"]) (fr:=["_law_names_here", "_law_query_here", "_law_told"]) (idx:=[1,2,3]) rfl rfl ⟨rfl,rfl,⟨rfl,rfl,⟨rfl,rfl,trivial⟩⟩⟩ (yN 0) (xV rfl z_range (zc zj zi)) (fun s H C fp=>(yb (show List.Nodup (["_law_many", "_law_names_here", "_law_query_here", "_law_told"]:List Str) by decide +kernel) rfl (Or.inl rfl))) (fun s H C fp=>(wy (zG (wC hr.units) (zy h_finds (hr.mono (by decide)) (zc (zb (pv 1)) (zc (zb (pv 2)) (zc (zb (pv 0)) zi))) (ze (ze (ze zr)))) (VV (zb (pv 3)) WN (jq (zb (pv 0)))) (yc _)))) (fun s H C fp=>(zb (pv 0))))) (x6 zi) (yc _)) (zn (zF v6)) z7) (zm (Yi (i:=5) sc_law.nd rfl rfl rfl (tn:=["_law_row"]) (fr:=[]) (idx:=[]) rfl rfl trivial (yN 0) (yQ (zy h_finds (hr.mono (by decide)) (zc (zb (pv 1)) (zc (zv zH (zb (pv 2)) (zC zX vi (zy h__law_drawn (hr.mono (by decide)) (zc (zb (pv 0)) (zc zj (zc zj zi))) (ze (ze (ze zr)))))) (zc zj zi))) (ze (ze (ze zr))))) (fun s H C fp=>(yb (show List.Nodup (["_law_row"]:List Str) by decide +kernel) rfl (Or.inl rfl))) (fun s H C fp=>xJ) (fun s H C fp=>(zC zX (zb (pv 0)) zj))) (zm (yP (zG (wC hr.units) (xK (yX (tn:=["_law_number"]) (fr:=["_law_numbers"]) (idx:=[4]) rfl rfl ⟨rfl,rfl,trivial⟩ (yN 0) (yQ (zb (pv 5))) (fun s H C fp=>(yb (show List.Nodup (["_law_number", "_law_numbers"]:List Str) by decide +kernel) rfl (Or.inl rfl))) (fun s H C fp=>(wy (zG (JI (vM hr)) (zb (pv 0)) (zb (pv 1)) (by with_unfolding_all rfl)))) (fun s H C fp=>(zb (pv 0))))) (x6 zi) (yc _)) (zn (zF v6)) z7) (zm (Yi (i:=6) sc_law.nd rfl rfl rfl (tn:=["_law_row"]) (fr:=[]) (idx:=[]) rfl rfl trivial (yN 0) (yQ (zy h_finds (hr.mono (by decide)) (zc (zv zH (zb (pv 1)) (x6 (zc (zy h__law_name (hr.mono (by decide)) (zc (zb (pv 0)) (zc zj zi)) (ze (ze zr))) zi))) (zc (zb (pv 2)) (zc zj zi))) (ze (ze (ze zr))))) (fun s H C fp=>(yb (show List.Nodup (["_law_row"]:List Str) by decide +kernel) rfl (Or.inl rfl))) (fun s H C fp=>xJ) (fun s H C fp=>(zC zX (zb (pv 0)) zj))) (zm (yP (zG (wC hr.units) (xK (yX (tn:=["_law_number"]) (fr:=["_law_names_here"]) (idx:=[1]) rfl rfl ⟨rfl,rfl,trivial⟩ (yN 0) (yQ (zb (pv 6))) (fun s H C fp=>(yb (show List.Nodup (["_law_number", "_law_names_here"]:List Str) by decide +kernel) rfl (Or.inl rfl))) (fun s H C fp=>(wy (zG VW (zb (pv 0)) (zE xL rfl z_len PySem.boot_len (zc (zb (pv 1)) zi)) (yc _)))) (fun s H C fp=>(zb (pv 0))))) (zb (pv 4)) (yc _)) (zn (zF v6)) z7) (zm (yP (zG (wC hr.units) (xK (yX (tn:=["_law_number"]) (fr:=["_law_numbers", "_law_names_here", "_law_query_here"]) (idx:=[4,1,2]) rfl rfl ⟨rfl,rfl,⟨rfl,rfl,⟨rfl,rfl,trivial⟩⟩⟩ (yN 0) (yQ (zb (pv 4))) (fun s H C fp=>(yb (show List.Nodup (["_law_number", "_law_numbers", "_law_names_here", "_law_query_here"]:List Str) by decide +kernel) rfl (Or.inl rfl))) (fun s H C fp=>(wy (zG (wC hr.units) (zC zX (zb (pv 1)) (zy h_rank_of (hr.mono (by decide)) (zc (zb (pv 2)) (zc (zb (pv 3)) (zc (zb (pv 0)) zi))) (ze (ze (ze zr))))) (zb (pv 0)) (yc _)))) (fun s H C fp=>(zb (pv 0))))) (x6 zi) (yc _)) (zn (zF v6)) z7) (zm (ya (i:=7) sc_law.nd rfl (Or.inl rfl) (zy h_ties (hr.mono (by decide)) (zc (zb (pv 1)) (zc (zb (pv 2)) zi)) (ze (ze zr)))) (zm (ya (i:=8) sc_law.nd rfl (Or.inl rfl) (x6 zi)) (zm (wM PassesOwn.never rfl (yQ (zb (pv 7))) (v5 rfl sc_law.nd rfl (Or.inr rfl) rfl (Or.inl rfl)) (zn (ya (i:=8) sc_law.nd rfl (Or.inl rfl) (zv zH (zb (pv 8)) (xK (yX (tn:=["_law_number"]) (fr:=["_law_count"]) (idx:=[9]) rfl rfl ⟨rfl,rfl,trivial⟩ (yN 0) (yQ (zb (pv 10))) (fun s H C fp=>(yb (show List.Nodup (["_law_number", "_law_count"]:List Str) by decide +kernel) rfl (Or.inl rfl))) (fun s H C fp=>xJ) (fun s H C fp=>(wN (zc (zb (pv 1)) (zc (zb (pv 0)) zi)))))))))) (zm (ya (i:=11) sc_law.nd rfl (Or.inl rfl) (xK (WP rfl rfl z_sorted rfl z_set (zc (xK (yX (tn:=["_law_row"]) (fr:=[]) (idx:=[]) rfl rfl trivial (yN 0) (yQ (zb (pv 3))) (fun s H C fp=>(yb (show List.Nodup (["_law_row"]:List Str) by decide +kernel) rfl (Or.inl rfl))) (fun s H C fp=>xJ) (fun s H C fp=>(zC zX (zb (pv 0)) zj)))) zi)))) (zm (yP (Yg (XY (zG (wC hr.units) (zE YM rfl z_sorted boot_sorted (zc (zb (pv 8)) zi)) (zE YM rfl z_sorted boot_sorted (zc (zb (pv 3)) zi)) (yc _)) (ZR (zG (wC hr.units) (xK (yX (tn:=["_law_count", "_law_some"]) (fr:=[]) (idx:=[]) rfl rfl trivial (Z9 0 1) (yQ (zb (pv 7))) (fun s H C fp=>(v5 rfl (show List.Nodup (["_law_count", "_law_some"]:List Str) by decide +kernel) rfl (Or.inl rfl) rfl (Or.inl rfl))) (fun s H C fp=>xJ) (fun s H C fp=>(zb (pv 0))))) (UM (zb (pv 11)) (wO zj)) (yc _))))) (zn (zF v6)) z7) (zm (Yi (i:=12) sc_law.nd rfl rfl rfl (tn:=["_law_count", "_law_number"]) (fr:=["_law_names_here"]) (idx:=[1]) rfl rfl ⟨rfl,rfl,trivial⟩ (Z9 0 1) (yQ (zb (pv 3))) (fun s H C fp=>(v5 rfl (show List.Nodup (["_law_count", "_law_number", "_law_names_here"]:List Str) by decide +kernel) rfl (Or.inl rfl) rfl (Or.inl rfl))) (fun s H C fp=>xJ) (fun s H C fp=>(wN (zc (zv ux zj (zb (pv 0))) (zc (zE xL rfl z_len PySem.boot_len (zc (zC zX (zb (pv 2)) (zb (pv 1))) zi)) (zc (zb (pv 1)) zi)))))) (zn (zF (uv (wD hr.units) (zb (pv 12)) (zE YM rfl z_sorted boot_sorted (zc (zb (pv 12)) zi)) (yc _)))))))))))))))))))))))
end
theorem all_mk{l:PySem.W.OpenLaw}{w:World}{K:PySem.W.Frag}{h:Heap}{mg:Str→Option Value}{fa:Addr}(X:K.In h)(G:h.Ns mainGlobals mg)(hfa:mg "law" = some (.ref fa))(hl:∀ns:List Int,ns.length≤63→UT [.scr ns]=.ok (.bl true))
  {f0 f1 f2 f3 f4 f5 f6 f7 f8 f9 f10 f11 f12 f13 f14 f15 f16 f17 f18 f19 f20 f21 f22 f23 f24 f25 f26:Addr} {od0 an0 od1 an1 od2 an2 od3 an3 od4 an4 od5 an5 od6 an6 od7 an7 od8 an8 od9 an9 od10 an10 od11 an11 od12 an12 od13 an13 od14 an14 od15 an15 od16 an16 od17 an17 od18 an18 od19 an19 od20 an20 od21 an21 od22 an22 od23 an23 od24 an24 od25 an25 od26 an26:Option Addr} {sl0 sl1 sl2 sl3 sl4 sl5 sl6 sl7 sl8 sl9 sl10 sl11 sl12 sl13 sl14 sl15 sl16 sl17 sl18 sl19 sl20 sl21 sl22 sl23 sl24 sl25 sl26:Array (Option Value)} {oc0 kV0 dc0 pm0 ct0 cd0 oc1 kV1 dc1 pm1 ct1 cd1 oc2 kV2 dc2 pm2 ct2 cd2 oc3 kV3 dc3 pm3 ct3 cd3 oc4 kV4 dc4 pm4 ct4 cd4 oc5 kV5 dc5 pm5 ct5 cd5 oc6 kV6 dc6 pm6 ct6 oc7 kV7 dc7 pm7 ct7 cd7 oc8 kV8 dc8 pm8 ct8 cd8 oc9 kV9 dc9 pm9 ct9 cd9 oc10 kV10 dc10 pm10 ct10 cd10 oc11 kV11 dc11 pm11 ct11 cd11 oc12 kV12 dc12 pm12 ct12 cd12 oc13 kV13 dc13 pm13 ct13 cd13 oc14 kV14 dc14 pm14 ct14 cd14 oc15 kV15 dc15 pm15 ct15 cd15 oc16 kV16 dc16 pm16 ct16 cd16 oc17 kV17 dc17 pm17 ct17 cd17 oc18 kV18 dc18 pm18 ct18 cd18 oc19 kV19 dc19 pm19 ct19 cd19 oc20 kV20 dc20 pm20 ct20 cd20 oc21 kV21 dc21 pm21 ct21 cd21 oc22 kV22 dc22 pm22 ct22 cd22 oc23 kV23 dc23 pm23 ct23 cd23 oc24 kV24 dc24 pm24 ct24 cd24 oc25 kV25 dc25 pm25 ct25 cd25 oc26 kV26 dc26 pm26 ct26 cd26:Value} {t_FIGURES t_SMALL t_GREAT t_AT_GREAT t_MARKS t_BEHIND_MARK t_AT_BEGINNING t_EACH_PLACE t_SAME_SIGN t_MOST_BETWEEN t_BESIDE t_MOST_AHEAD:Tok}
  {cc6:Addr}
  (a0:nsIn K mainGlobals "_law_cell" = some (some (.ref f0))) (l0:K.lookup f0=some ⟨oc0,od0,.func (fnOf "_law_cell" "_law_cell" (zI xI) (zD xI) (zk xI) .none kV0 dc0 pm0 an0 cd0 ct0),sl0⟩) (c0:codeIn K cd0 "_law_cell" = true) (k0:keepIn K (.ref f0)=true)
  (a1:nsIn K mainGlobals "_law_drawn" = some (some (.ref f1))) (l1:K.lookup f1=some ⟨oc1,od1,.func (fnOf "_law_drawn" "_law_drawn" (zI xv) (zD xv) (zk xv) .none kV1 dc1 pm1 an1 cd1 ct1),sl1⟩) (c1:codeIn K cd1 "_law_drawn" = true) (k1:keepIn K (.ref f1)=true)
  (a2:nsIn K mainGlobals "_law_name" = some (some (.ref f2))) (l2:K.lookup f2=some ⟨oc2,od2,.func (fnOf "_law_name" "_law_name" (zI xG) (zD xG) (zk xG) .none kV2 dc2 pm2 an2 cd2 ct2),sl2⟩) (c2:codeIn K cd2 "_law_name" = true) (k2:keepIn K (.ref f2)=true)
  (a3:nsIn K mainGlobals "_law_names" = some (some (.ref f3))) (l3:K.lookup f3=some ⟨oc3,od3,.func (fnOf "_law_names" "_law_names" (zI xu) (zD xu) (zk xu) .none kV3 dc3 pm3 an3 cd3 ct3),sl3⟩) (c3:codeIn K cd3 "_law_names" = true) (k3:keepIn K (.ref f3)=true)
  (a4:nsIn K mainGlobals "_law_mark" = some (some (.ref f4))) (l4:K.lookup f4=some ⟨oc4,od4,.func (fnOf "_law_mark" "_law_mark" (zI xH) (zD xH) (zk xH) .none kV4 dc4 pm4 an4 cd4 ct4),sl4⟩) (c4:codeIn K cd4 "_law_mark" = true) (k4:keepIn K (.ref f4)=true)
  (a5:nsIn K mainGlobals "_law_query" = some (some (.ref f5))) (l5:K.lookup f5=some ⟨oc5,od5,.func (fnOf "_law_query" "_law_query" (zI xt) (zD xt) (zk xt) .none kV5 dc5 pm5 an5 cd5 ct5),sl5⟩) (c5:codeIn K cd5 "_law_query" = true) (k5:keepIn K (.ref f5)=true)
  (a6:nsIn K mainGlobals "in_order" = some (some (.ref f6))) (l6:K.lookup f6=some ⟨oc6,od6,.func (fnOf "in_order" "in_order" (zI wm) (zD wm) (zk wm) .none kV6 dc6 pm6 an6 (.ref cc6) ct6),sl6⟩) (c6:codeIn K (.ref cc6) "in_order" = true) (k6:keepIn K (.ref f6)=true) (tb6:PySem.W.codeHdIn K cc6 126=true)
  (a7:nsIn K mainGlobals "first_rows" = some (some (.ref f7))) (l7:K.lookup f7=some ⟨oc7,od7,.func (fnOf "first_rows" "first_rows" (zI xr) (zD xr) (zk xr) .none kV7 dc7 pm7 an7 cd7 ct7),sl7⟩) (c7:codeIn K cd7 "first_rows" = true) (k7:keepIn K (.ref f7)=true)
  (a8:nsIn K mainGlobals "beginning_points" = some (some (.ref f8))) (l8:K.lookup f8=some ⟨oc8,od8,.func (fnOf "beginning_points" "beginning_points" (zI ym) (zD ym) (zk ym) .none kV8 dc8 pm8 an8 cd8 ct8),sl8⟩) (c8:codeIn K cd8 "beginning_points" = true) (k8:keepIn K (.ref f8)=true)
  (a9:nsIn K mainGlobals "own_points" = some (some (.ref f9))) (l9:K.lookup f9=some ⟨oc9,od9,.func (fnOf "own_points" "own_points" (zI xq) (zD xq) (zk xq) .none kV9 dc9 pm9 an9 cd9 ct9),sl9⟩) (c9:codeIn K cd9 "own_points" = true) (k9:keepIn K (.ref f9)=true)
  (a10:nsIn K mainGlobals "meets" = some (some (.ref f10))) (l10:K.lookup f10=some ⟨oc10,od10,.func (fnOf "meets" "meets" (zI vK) (zD vK) (zk vK) .none kV10 dc10 pm10 an10 cd10 ct10),sl10⟩) (c10:codeIn K cd10 "meets" = true) (k10:keepIn K (.ref f10)=true)
  (a11:nsIn K mainGlobals "last_sign_tails" = some (some (.ref f11))) (l11:K.lookup f11=some ⟨oc11,od11,.func (fnOf "last_sign_tails" "last_sign_tails" (zI yq) (zD yq) (zk yq) .none kV11 dc11 pm11 an11 cd11 ct11),sl11⟩) (c11:codeIn K cd11 "last_sign_tails" = true) (k11:keepIn K (.ref f11)=true)
  (a12:nsIn K mainGlobals "first_of_most" = some (some (.ref f12))) (l12:K.lookup f12=some ⟨oc12,od12,.func (fnOf "first_of_most" "first_of_most" (zI yM) (zD yM) (zk yM) .none kV12 dc12 pm12 an12 cd12 ct12),sl12⟩) (c12:codeIn K cd12 "first_of_most" = true) (k12:keepIn K (.ref f12)=true)
  (a13:nsIn K mainGlobals "link_points" = some (some (.ref f13))) (l13:K.lookup f13=some ⟨oc13,od13,.func (fnOf "link_points" "link_points" (zI xc) (zD xc) (zk xc) .none kV13 dc13 pm13 an13 cd13 ct13),sl13⟩) (c13:codeIn K cd13 "link_points" = true) (k13:keepIn K (.ref f13)=true)
  (a14:nsIn K mainGlobals "linked_tails" = some (some (.ref f14))) (l14:K.lookup f14=some ⟨oc14,od14,.func (fnOf "linked_tails" "linked_tails" (zI yU) (zD yU) (zk yU) .none kV14 dc14 pm14 an14 cd14 ct14),sl14⟩) (c14:codeIn K cd14 "linked_tails" = true) (k14:keepIn K (.ref f14)=true)
  (a15:nsIn K mainGlobals "longer_tails" = some (some (.ref f15))) (l15:K.lookup f15=some ⟨oc15,od15,.func (fnOf "longer_tails" "longer_tails" (zI yT) (zD yT) (zk yT) .none kV15 dc15 pm15 an15 cd15 ct15),sl15⟩) (c15:codeIn K cd15 "longer_tails" = true) (k15:keepIn K (.ref f15)=true)
  (a16:nsIn K mainGlobals "lead_points" = some (some (.ref f16))) (l16:K.lookup f16=some ⟨oc16,od16,.func (fnOf "lead_points" "lead_points" (zI xf) (zD xf) (zk xf) .none kV16 dc16 pm16 an16 cd16 ct16),sl16⟩) (c16:codeIn K cd16 "lead_points" = true) (k16:keepIn K (.ref f16)=true)
  (a17:nsIn K mainGlobals "best" = some (some (.ref f17))) (l17:K.lookup f17=some ⟨oc17,od17,.func (fnOf "best" "best" (zI uW) (zD uW) (zk uW) .none kV17 dc17 pm17 an17 cd17 ct17),sl17⟩) (c17:codeIn K cd17 "best" = true) (k17:keepIn K (.ref f17)=true)
  (a18:nsIn K mainGlobals "fitting_rows" = some (some (.ref f18))) (l18:K.lookup f18=some ⟨oc18,od18,.func (fnOf "fitting_rows" "fitting_rows" (zI yV) (zD yV) (zk yV) .none kV18 dc18 pm18 an18 cd18 ct18),sl18⟩) (c18:codeIn K cd18 "fitting_rows" = true) (k18:keepIn K (.ref f18)=true)
  (a19:nsIn K mainGlobals "all_rows" = some (some (.ref f19))) (l19:K.lookup f19=some ⟨oc19,od19,.func (fnOf "all_rows" "all_rows" (zI xU) (zD xU) (zk xU) .none kV19 dc19 pm19 an19 cd19 ct19),sl19⟩) (c19:codeIn K cd19 "all_rows" = true) (k19:keepIn K (.ref f19)=true)
  (a20:nsIn K mainGlobals "finds" = some (some (.ref f20))) (l20:K.lookup f20=some ⟨oc20,od20,.func (fnOf "finds" "finds" (zI vL) (zD vL) (zk vL) .none kV20 dc20 pm20 an20 cd20 ct20),sl20⟩) (c20:codeIn K cd20 "finds" = true) (k20:keepIn K (.ref f20)=true)
  (a21:nsIn K mainGlobals "ties" = some (some (.ref f21))) (l21:K.lookup f21=some ⟨oc21,od21,.func (fnOf "ties" "ties" (zI uU) (zD uU) (zk uU) .none kV21 dc21 pm21 an21 cd21 ct21),sl21⟩) (c21:codeIn K cd21 "ties" = true) (k21:keepIn K (.ref f21)=true)
  (a22:nsIn K mainGlobals "earliest_places" = some (some (.ref f22))) (l22:K.lookup f22=some ⟨oc22,od22,.func (fnOf "earliest_places" "earliest_places" (zI yr) (zD yr) (zk yr) .none kV22 dc22 pm22 an22 cd22 ct22),sl22⟩) (c22:codeIn K cd22 "earliest_places" = true) (k22:keepIn K (.ref f22)=true)
  (a23:nsIn K mainGlobals "fits" = some (some (.ref f23))) (l23:K.lookup f23=some ⟨oc23,od23,.func (fnOf "fits" "fits" (zI uV) (zD uV) (zk uV) .none kV23 dc23 pm23 an23 cd23 ct23),sl23⟩) (c23:codeIn K cd23 "fits" = true) (k23:keepIn K (.ref f23)=true)
  (a24:nsIn K mainGlobals "check_number" = some (some (.ref f24))) (l24:K.lookup f24=some ⟨oc24,od24,.func (fnOf "check_number" "check_number" (zI yW) (zD yW) (zk yW) .none kV24 dc24 pm24 an24 cd24 ct24),sl24⟩) (c24:codeIn K cd24 "check_number" = true) (k24:keepIn K (.ref f24)=true)
  (a25:nsIn K mainGlobals "rank_of" = some (some (.ref f25))) (l25:K.lookup f25=some ⟨oc25,od25,.func (fnOf "rank_of" "rank_of" (zI wk) (zD wk) (zk wk) .none kV25 dc25 pm25 an25 cd25 ct25),sl25⟩) (c25:codeIn K cd25 "rank_of" = true) (k25:keepIn K (.ref f25)=true)
  (a26:nsIn K mainGlobals "law" = some (some (.ref f26))) (l26:K.lookup f26=some ⟨oc26,od26,.func (fnOf "law" "law" (zI jl) (zD jl) (zk jl) .none kV26 dc26 pm26 an26 cd26 ct26),sl26⟩) (c26:codeIn K cd26 "law" = true) (k26:keepIn K (.ref f26)=true)
  (g_FIGURES:nsIn K mainGlobals "FIGURES" = some (some (.str "0123456789" t_FIGURES)))
  (g_SMALL:nsIn K mainGlobals "SMALL" = some (some (.str "abcdefghijklmnopqrstuvwxyz" t_SMALL)))
  (g_GREAT:nsIn K mainGlobals "GREAT" = some (some (.str "ABCDEFGHIJKLMNOPQRSTUVWXYZ" t_GREAT)))
  (g_AT_GREAT:nsIn K mainGlobals "AT_GREAT" = some (some (.int 5 t_AT_GREAT)))
  (g_MARKS:nsIn K mainGlobals "MARKS" = some (some (.str "_-./" t_MARKS)))
  (g_BEHIND_MARK:nsIn K mainGlobals "BEHIND_MARK" = some (some (.int 6 t_BEHIND_MARK)))
  (g_AT_BEGINNING:nsIn K mainGlobals "AT_BEGINNING" = some (some (.int 8 t_AT_BEGINNING)))
  (g_EACH_PLACE:nsIn K mainGlobals "EACH_PLACE" = some (some (.int 10 t_EACH_PLACE)))
  (g_SAME_SIGN:nsIn K mainGlobals "SAME_SIGN" = some (some (.int 1 t_SAME_SIGN)))
  (g_MOST_BETWEEN:nsIn K mainGlobals "MOST_BETWEEN" = some (some (.int 5 t_MOST_BETWEEN)))
  (g_BESIDE:nsIn K mainGlobals "BESIDE" = some (some (.int 7 t_BESIDE)))
  (g_MOST_AHEAD:nsIn K mainGlobals "MOST_AHEAD" = some (some (.int 3 t_MOST_AHEAD)))
  (z_len:nsIn K mainGlobals "len" = some none)
  (z_range:nsIn K mainGlobals "range" = some none)
  (z_min:nsIn K mainGlobals "min" = some none)
  (z_sorted:nsIn K mainGlobals "sorted" = some none)
  (z_max:nsIn K mainGlobals "max" = some none)
  (z_list:nsIn K mainGlobals "list" = some none)
  (z_enumerate:nsIn K mainGlobals "enumerate" = some none)
  (z_set:nsIn K mainGlobals "set" = some none)
  : Md K∧∃fd:FuncData,(∀(s:Shared) (v:Value),BindsTo s fd ⟨[v],[]⟩ [("_law_script", v)])∧∀base:Heap,K.In base→base.Ns mainGlobals mg→BM mg base→FnOk l.prog w K mg base CX0 8 fa fd ["_law_script"] (Xf K):=by
 have e:=hfa.symm.trans (mg_of X G a26)
 cases e
 refine⟨fun r hr=>?_,?_⟩
 ·rcases hr with _|⟨_,hr⟩
  ·exact⟨_,tb6⟩
  ·cases hr
 have D0:zY K mg "_law_cell" xI f0 _:=⟨yF (st:=xI) l0 c0 k0,mg_of X G a0⟩
 have D1:zY K mg "_law_drawn" xv f1 _:=⟨yF (st:=xv) l1 c1 k1,mg_of X G a1⟩
 have D2:zY K mg "_law_name" xG f2 _:=⟨yF (st:=xG) l2 c2 k2,mg_of X G a2⟩
 have D3:zY K mg "_law_names" xu f3 _:=⟨yF (st:=xu) l3 c3 k3,mg_of X G a3⟩
 have D4:zY K mg "_law_mark" xH f4 _:=⟨yF (st:=xH) l4 c4 k4,mg_of X G a4⟩
 have D5:zY K mg "_law_query" xt f5 _:=⟨yF (st:=xt) l5 c5 k5,mg_of X G a5⟩
 have D6:Ur K mg "in_order" wm f6 cc6 126:=⟨⟨_,_,_,_,_,_,_,_,l6⟩,c6,k6,mg_of X G a6,tb6⟩
 have D7:zY K mg "first_rows" xr f7 _:=⟨yF (st:=xr) l7 c7 k7,mg_of X G a7⟩
 have D8:zY K mg "beginning_points" ym f8 _:=⟨yF (st:=ym) l8 c8 k8,mg_of X G a8⟩
 have D9:zY K mg "own_points" xq f9 _:=⟨yF (st:=xq) l9 c9 k9,mg_of X G a9⟩
 have D10:zY K mg "meets" vK f10 _:=⟨yF (st:=vK) l10 c10 k10,mg_of X G a10⟩
 have D11:zY K mg "last_sign_tails" yq f11 _:=⟨yF (st:=yq) l11 c11 k11,mg_of X G a11⟩
 have D12:zY K mg "first_of_most" yM f12 _:=⟨yF (st:=yM) l12 c12 k12,mg_of X G a12⟩
 have D13:zY K mg "link_points" xc f13 _:=⟨yF (st:=xc) l13 c13 k13,mg_of X G a13⟩
 have D14:zY K mg "linked_tails" yU f14 _:=⟨yF (st:=yU) l14 c14 k14,mg_of X G a14⟩
 have D15:zY K mg "longer_tails" yT f15 _:=⟨yF (st:=yT) l15 c15 k15,mg_of X G a15⟩
 have D16:zY K mg "lead_points" xf f16 _:=⟨yF (st:=xf) l16 c16 k16,mg_of X G a16⟩
 have D17:zY K mg "best" uW f17 _:=⟨yF (st:=uW) l17 c17 k17,mg_of X G a17⟩
 have D18:zY K mg "fitting_rows" yV f18 _:=⟨yF (st:=yV) l18 c18 k18,mg_of X G a18⟩
 have D19:zY K mg "all_rows" xU f19 _:=⟨yF (st:=xU) l19 c19 k19,mg_of X G a19⟩
 have D20:zY K mg "finds" vL f20 _:=⟨yF (st:=vL) l20 c20 k20,mg_of X G a20⟩
 have D21:zY K mg "ties" uU f21 _:=⟨yF (st:=uU) l21 c21 k21,mg_of X G a21⟩
 have D22:zY K mg "earliest_places" yr f22 _:=⟨yF (st:=yr) l22 c22 k22,mg_of X G a22⟩
 have D23:zY K mg "fits" uV f23 _:=⟨yF (st:=uV) l23 c23 k23,mg_of X G a23⟩
 have D24:zY K mg "check_number" yW f24 _:=⟨yF (st:=yW) l24 c24 k24,mg_of X G a24⟩
 have D25:zY K mg "rank_of" wk f25 _:=⟨yF (st:=wk) l25 c25 k25,mg_of X G a25⟩
 refine⟨fnOf "law" "law" (zI jl) (zD jl) (zk jl) .none kV26 dc26 pm26 an26 cd26 ct26,fun s v=>.of_eq rfl,fun base _ _ bm=>?_⟩
 have h__law_cell:DefOk l.prog w K mg base "_law_cell" 1 2 ["_law_script", "_law_k"] xX:=X7 D0 (mg_none_of X G z_len)
 have h__law_drawn:DefOk l.prog w K mg base "_law_drawn" 2 3 ["_law_script", "_law_k", "_law_many"] zq:=Y2 D1 h__law_cell
 have h__law_name:DefOk l.prog w K mg base "_law_name" 3 2 ["_law_script", "_law_at"] yE:=X5 D2 h__law_drawn (mg_none_of X G z_range)
 have h__law_names:DefOk l.prog w K mg base "_law_names" 4 3 ["_law_script", "_law_at", "_law_most"] xA:=Y1 D3 h__law_drawn h__law_name (mg_none_of X G z_len) (mg_none_of X G z_range)
 have h__law_mark:DefOk l.prog w K mg base "_law_mark" 1 1 ["_law_sign"] xm:=X6 D4
 have h__law_query:DefOk l.prog w K mg base "_law_query" 3 4 ["_law_script", "_law_at", "_law_name_here", "_law_most"] xz:=YZ D5 h__law_drawn h__law_mark (mg_none_of X G z_range) (mg_none_of X G z_len) (mg_none_of X G z_min)
 have h_in_order:DefOk l.prog w K mg base "in_order" 4 2 ["names", "rows"] yZ:=WT D6 bm (mg_none_of X G z_len) (mg_none_of X G z_sorted)
 have h_first_rows:DefOk l.prog w K mg base "first_rows" 5 3 ["names", "rows", "many"] y8:=YY D7 h_in_order (mg_none_of X G z_max)
 have h_beginning_points:DefOk l.prog w K mg base "beginning_points" 1 2 ["name", "place"] yA:=uH D8 (mg_of X G g_FIGURES) (mg_of X G g_SMALL) (mg_of X G g_GREAT) (mg_of X G g_AT_GREAT) (mg_of X G g_MARKS) (mg_of X G g_BEHIND_MARK) (mg_of X G g_AT_BEGINNING)
 have h_own_points:DefOk l.prog w K mg base "own_points" 2 3 ["sign", "name", "place"] yt:=YX D9 h_beginning_points (mg_of X G g_EACH_PLACE) (mg_of X G g_SAME_SIGN)
 have h_meets:DefOk l.prog w K mg base "meets" 1 2 ["sign", "other"] xD:=Q9 D10 (mg_of X G g_SMALL)
 have h_last_sign_tails:DefOk l.prog w K mg base "last_sign_tails" 3 2 ["sign", "name"] yh:=uX D11 h_meets h_own_points (mg_none_of X G z_len) (mg_none_of X G z_range)
 have h_first_of_most:DefOk l.prog w K mg base "first_of_most" 1 1 ["tails"] zO:=j7 D12
 have h_link_points:DefOk l.prog w K mg base "link_points" 1 2 ["ahead", "place"] xg:=Yl D13 (mg_of X G g_MOST_BETWEEN) (mg_of X G g_BESIDE) (mg_none_of X G z_min)
 have h_linked_tails:DefOk l.prog w K mg base "linked_tails" 2 2 ["place", "tails"] yC:=ZJ D14 h_link_points
 have h_longer_tails:DefOk l.prog w K mg base "longer_tails" 3 3 ["sign", "name", "tails"] yY:=ZI D15 h_meets h_own_points h_linked_tails h_first_of_most (mg_none_of X G z_len) (mg_none_of X G z_range)
 have h_lead_points:DefOk l.prog w K mg base "lead_points" 1 1 ["place"] yR:=Ym D16 (mg_of X G g_MOST_AHEAD) (mg_none_of X G z_min)
 have h_best:DefOk l.prog w K mg base "best" 4 2 ["query", "name"] x8:=M7 D17 h_lead_points h_first_of_most h_longer_tails h_last_sign_tails (mg_none_of X G z_len) (mg_none_of X G z_range)
 have h_fitting_rows:DefOk l.prog w K mg base "fitting_rows" 5 3 ["names", "query", "numbers"] yD:=ZK D18 h_best
 have h_all_rows:DefOk l.prog w K mg base "all_rows" 6 2 ["names", "query"] yn:=WU D19 h_fitting_rows (mg_none_of X G z_len) (mg_none_of X G z_list) (mg_none_of X G z_range)
 have h_finds:DefOk l.prog w K mg base "finds" 7 3 ["names", "query", "many"] xh:=Ga D20 h_all_rows h_first_rows
 have h_ties:DefOk l.prog w K mg base "ties" 7 2 ["names", "query"] ub:=M5 D21 h_all_rows (mg_none_of X G z_sorted)
 have h_earliest_places:DefOk l.prog w K mg base "earliest_places" 2 2 ["query", "name"] yJ:=uY D22 h_meets (mg_none_of X G z_len) (mg_none_of X G z_range)
 have h_fits:DefOk l.prog w K mg base "fits" 3 2 ["query", "name"] u0:=M6 D23 h_earliest_places (mg_none_of X G z_len)
 have h_check_number:DefOk l.prog w K mg base "check_number" 1 2 ["names", "number"] y0:=ZL D24 (mg_none_of X G z_len)
 have h_rank_of:DefOk l.prog w K mg base "rank_of" 7 3 ["names", "query", "number"] xW:=VZ D25 h_all_rows h_in_order h_check_number (mg_none_of X G z_enumerate)
 exact za8 (L9 (yF (st:=jl) l26 c26 k26) h_ties h_rank_of h__law_name h_finds h__law_drawn h_best h_fits h__law_query h__law_names (mg_none_of X G z_sorted) (mg_none_of X G z_len) (mg_none_of X G z_set) (mg_none_of X G z_range) (mg_none_of X G z_enumerate)) hl
end Law
open PySem PySem.W PyProof.Rows
set_option maxRecDepth 100000 in
set_option maxHeartbeats 0 in
theorem PySem.Challenge.cw_fewfind_k21_whole_found_holds : PySem.Challenge.rw_fewfind_k21_whole_found.Holds := by
 w_on;o_law;k_head;(case hw=>w_witness2)
 k_fill
 refine FD.walkM (l:=PySem.Challenge.rw_fewfind_k21_whole_found) (k:=8) (p := "_law_script") rfl rfl ⟨rfl,by decide,by decide⟩ ?T ?F
 case F=>
  intro w mg fa h KX G hmg
  refine' Law.all_mk KX G hmg Law.main ?a0 ?l0 ?c0 ?k0 ?a1 ?l1 ?c1 ?k1 ?a2 ?l2 ?c2 ?k2 ?a3 ?l3 ?c3 ?k3 ?a4 ?l4 ?c4 ?k4 ?a5 ?l5 ?c5 ?k5 ?a6 ?l6 ?c6 ?k6 ?tb6 ?a7 ?l7 ?c7 ?k7 ?a8 ?l8 ?c8 ?k8 ?a9 ?l9 ?c9 ?k9 ?a10 ?l10 ?c10 ?k10 ?a11 ?l11 ?c11 ?k11 ?a12 ?l12 ?c12 ?k12 ?a13 ?l13 ?c13 ?k13 ?a14 ?l14 ?c14 ?k14 ?a15 ?l15 ?c15 ?k15 ?a16 ?l16 ?c16 ?k16 ?a17 ?l17 ?c17 ?k17 ?a18 ?l18 ?c18 ?k18 ?a19 ?l19 ?c19 ?k19 ?a20 ?l20 ?c20 ?k20 ?a21 ?l21 ?c21 ?k21 ?a22 ?l22 ?c22 ?k22 ?a23 ?l23 ?c23 ?k23 ?a24 ?l24 ?c24 ?k24 ?a25 ?l25 ?c25 ?k25 ?a26 ?l26 ?c26 ?k26 ?g_FIGURES ?g_SMALL ?g_GREAT ?g_AT_GREAT ?g_MARKS ?g_BEHIND_MARK ?g_AT_BEGINNING ?g_EACH_PLACE ?g_SAME_SIGN ?g_MOST_BETWEEN ?g_BESIDE ?g_MOST_AHEAD ?z_len ?z_range ?z_min ?z_sorted ?z_max ?z_list ?z_enumerate ?z_set
  (case a0=>k_is)
  (case l0=>k_is)
  (case c0=>k_is)
  (case k0=>k_is)
  (case a1=>k_is)
  (case l1=>k_is)
  (case c1=>k_is)
  (case k1=>k_is)
  (case a2=>k_is)
  (case l2=>k_is)
  (case c2=>k_is)
  (case k2=>k_is)
  (case a3=>k_is)
  (case l3=>k_is)
  (case c3=>k_is)
  (case k3=>k_is)
  (case a4=>k_is)
  (case l4=>k_is)
  (case c4=>k_is)
  (case k4=>k_is)
  (case a5=>k_is)
  (case l5=>k_is)
  (case c5=>k_is)
  (case k5=>k_is)
  (case a6=>k_is)
  (case l6=>k_is)
  (case c6=>k_is)
  (case k6=>k_is)
  (case tb6=>with_unfolding_all rfl)
  (case a7=>k_is)
  (case l7=>k_is)
  (case c7=>k_is)
  (case k7=>k_is)
  (case a8=>k_is)
  (case l8=>k_is)
  (case c8=>k_is)
  (case k8=>k_is)
  (case a9=>k_is)
  (case l9=>k_is)
  (case c9=>k_is)
  (case k9=>k_is)
  (case a10=>k_is)
  (case l10=>k_is)
  (case c10=>k_is)
  (case k10=>k_is)
  (case a11=>k_is)
  (case l11=>k_is)
  (case c11=>k_is)
  (case k11=>k_is)
  (case a12=>k_is)
  (case l12=>k_is)
  (case c12=>k_is)
  (case k12=>k_is)
  (case a13=>k_is)
  (case l13=>k_is)
  (case c13=>k_is)
  (case k13=>k_is)
  (case a14=>k_is)
  (case l14=>k_is)
  (case c14=>k_is)
  (case k14=>k_is)
  (case a15=>k_is)
  (case l15=>k_is)
  (case c15=>k_is)
  (case k15=>k_is)
  (case a16=>k_is)
  (case l16=>k_is)
  (case c16=>k_is)
  (case k16=>k_is)
  (case a17=>k_is)
  (case l17=>k_is)
  (case c17=>k_is)
  (case k17=>k_is)
  (case a18=>k_is)
  (case l18=>k_is)
  (case c18=>k_is)
  (case k18=>k_is)
  (case a19=>k_is)
  (case l19=>k_is)
  (case c19=>k_is)
  (case k19=>k_is)
  (case a20=>k_is)
  (case l20=>k_is)
  (case c20=>k_is)
  (case k20=>k_is)
  (case a21=>k_is)
  (case l21=>k_is)
  (case c21=>k_is)
  (case k21=>k_is)
  (case a22=>k_is)
  (case l22=>k_is)
  (case c22=>k_is)
  (case k22=>k_is)
  (case a23=>k_is)
  (case l23=>k_is)
  (case c23=>k_is)
  (case k23=>k_is)
  (case a24=>k_is)
  (case l24=>k_is)
  (case c24=>k_is)
  (case k24=>k_is)
  (case a25=>k_is)
  (case l25=>k_is)
  (case c25=>k_is)
  (case k25=>k_is)
  (case a26=>k_is)
  (case l26=>k_is)
  (case c26=>k_is)
  (case k26=>k_is)
  (case g_FIGURES=>k_is)
  (case g_SMALL=>k_is)
  (case g_GREAT=>k_is)
  (case g_AT_GREAT=>k_is)
  (case g_MARKS=>k_is)
  (case g_BEHIND_MARK=>k_is)
  (case g_AT_BEGINNING=>k_is)
  (case g_EACH_PLACE=>k_is)
  (case g_SAME_SIGN=>k_is)
  (case g_MOST_BETWEEN=>k_is)
  (case g_BESIDE=>k_is)
  (case g_MOST_AHEAD=>k_is)
  (case z_len=>k_is)
  (case z_range=>k_is)
  (case z_min=>k_is)
  (case z_sorted=>k_is)
  (case z_max=>k_is)
  (case z_list=>k_is)
  (case z_enumerate=>k_is)
  (case z_set=>k_is)
 case T=>decide
