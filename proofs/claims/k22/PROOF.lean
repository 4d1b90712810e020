import PyProof.Rows.All
import Wide.All
import OpenK.AllK
import Wide.FinOn
import Lean
import PyProof.EqAt
import PyProof.EqKinds
import PyProof.TupleCall
import PyProof.NeKinds
import PyProof.NeData
import PyProof.P3In
import PyProof.ZipIter
import PyProof.Draws
import PyProof.StrWalks
import PyProof.IsiPairs
import PyProof.IsiSeqPairs
import PyProof.ConsumeWalk
import PyProof.ListStr
import PyProof.IsiHeapPairs
import PyProof.Rows.Range3
import PyProof.IsiNone
import KE.KRevIter
import KE.KRevSl
import PyProof.Conv_int_bool
import PyProof.ListRange
import PyProof.TupleOfSeq
import PyProof.MinMaxWalk
import PyProof.WalkInts
import PyProof.SeqI3
import PyProof.SetKind
import PyProof.Rows.SetFrom
import PyProof.CollectWalk
import PyProof.FactsAll.set
import PyProof.Rows.SortWalk
import PyProof.Rows.SortShell
import PyProof.Rows.SumAny
import PyProof.DictWalks
import PyProof.Rows.SortRev
import PyProof.Rows.SortStr
import PyProof.AttrMissHeap
import KE.KDictOf
import PySem.Challenge.RW_fewfind_k22_whole_lists
set_option Elab.async false
set_option linter.all false
set_option maxRecDepth 100000
open PySem.W (methodObj keepIn fnOf codeIn nsIn mg_of mg_none_of)
open PyProof.Rows (boot_list boot_sorted boot_dict)
open List (mem_filter mem_range filterMap_cons mem_cons_self mem_cons_of_mem mem_cons mem_append mem_append_left getElem?_set_self getElem?_set_ne mem_append_right size_toArray append_nil nodup_cons length_take getElem?_append_right getElem?_replicate getElem?_append_left getElem?_map mem_of_getElem? length_append length_map length_drop length_set replicate_succ flatten_cons foldl_cons length_singleton map_nil map_cons getElem?_set lookup_cons set_set length_cons ext_getElem length_reverse length_range mem_map pairwise_cons pairwise_map map_map getElem?_eq_getElem map_append take_of_length_le mem_singleton getElem_mem not_mem_nil getD_eq_getElem?_getD any_eq_true find?_cons length_nil mem_reverse map_congr_left getElem?_of_mem nodup_nil getElem?_cons_zero getElem?_cons_succ set_cons_succ set_cons_zero length_filter_le map_id)
open Nat (lt_of_lt_of_le lt_irrefl ne_of_lt le_trans le_of_lt ne_of_gt le_refl lt_or_ge zero_le lt_succ_self lt_trans zero_add le_succ lt_succ_of_lt)
open Int (toNat_natCast emod_nonneg)
open Array (length_toList getElem_toList getElem?_toList)
namespace L2
open PySem PySem.Spec PyProof.Rows
abbrev Key:=Sum Int Str
def YJ:Key→Value→Bool
 |.inl k,v=>Value.isInt k v
 |.inr x,v=>Value.isStrOf x v
def keyH(w:World):Key→Int
 |.inl k=>hashInt k
 |.inr x=>hashStr w x
theorem yX:∀{k:Key} {v:Value},YJ k v=true→(∃i t,k=Sum.inl i∧v=Value.int i t)∨(∃x t,k=Sum.inr x∧v=Value.str x t)
 |.inl i,v,h=>by
  obtain⟨t,e⟩:=Value.isInt_shape (k:=i) (v:=v) h
  exact .inl ⟨i,t,rfl,e⟩
 |.inr x,v,h=>by
  obtain⟨t,e⟩:=Value.isStrOf_shape (x:=x) (v:=v) h
  exact .inr ⟨x,t,rfl,e⟩
theorem U9(i:Int)(t:Tok):YJ (.inl i) (.int i t)=true:=by simp[YJ,Value.isInt]
theorem U8(x:Str)(t:Tok):YJ (.inr x) (.str x t)=true:=by simp[YJ,Value.isStrOf]
theorem LU(a b:Int):decide ((Sum.inl a:Key)=Sum.inl b)=(a==b):=by
 by_cases e:a=b
 ·subst e;simp
 ·have h:¬ (Sum.inl a:Key)=Sum.inl b:=fun q=>e (Sum.inl.inj q)
  rw[decide_eq_false h]
  exact(beq_eq_false_iff_ne.mpr e).symm
theorem LQ(a b:Str):decide ((Sum.inr a:Key)=Sum.inr b)=decide (a=b):=by
 by_cases e:a=b
 ·subst e;simp
 ·have h:¬ (Sum.inr a:Key)=Sum.inr b:=fun q=>e (Sum.inr.inj q)
  rw[decide_eq_false h,decide_eq_false e]
theorem LS(a:Int)(b:Str):decide ((Sum.inl a:Key)=Sum.inr b)=false:=decide_eq_false (fun q=>nomatch q)
theorem LR(a:Str)(b:Int):decide ((Sum.inr a:Key)=Sum.inl b)=false:=decide_eq_false (fun q=>nomatch q)
def yC(prog:Program)(w:World):PySem.KeyKind prog w Key where
 is:=YJ
 hash:=keyH w
 inj:=fun v a b ha hb=>by
  rcases yX ha with ⟨i,t,rfl,rfl⟩|⟨x,t,rfl,rfl⟩
  ·rcases yX hb with ⟨j,u,rfl,e⟩|⟨y,u,rfl,e⟩
   ·injection e with e1 _;rw[e1]
   ·exact nomatch e
  ·rcases yX hb with ⟨j,u,rfl,e⟩|⟨y,u,rfl,e⟩
   ·exact nomatch e
   ·injection e with e1 _;rw[e1]
 byValue:=fun k v h=>by
  rcases yX h with ⟨i,t,rfl,rfl⟩|⟨x,t,rfl,rfl⟩ <;> rfl
 pyHash:=fun hv h=>by
  rcases yX hv with ⟨i,t,rfl,rfl⟩|⟨x,t,rfl,rfl⟩
  ·exact wpAny_pyHash_int h
  ·exact wpAny_pyHash_str h
 eqBool:=fun hu hv h=>by
  rcases yX hu with ⟨i,t,rfl,rfl⟩|⟨x,t,rfl,rfl⟩
  ·rcases yX hv with ⟨j,u,rfl,rfl⟩|⟨y,u,rfl,rfl⟩
   ·rw[LU] at h;exact wpAny_eqBool_int h
   ·rw[LS] at h;exact SeqAt.EqAt.int_str i t y u _ _ _ _ h
  ·rcases yX hv with ⟨j,u,rfl,rfl⟩|⟨y,u,rfl,rfl⟩
   ·rw[LR] at h;exact SeqAt.EqAt.str_int x t j u _ _ _ _ h
   ·rw[LQ] at h;exact wpAny_eqBool_str h
 «strs»:=fun k x t v h=>by
  rcases yX h with ⟨i,u,rfl,e⟩|⟨y,u,rfl,e⟩
  ·exact nomatch e
  ·injection e with e1 _
   subst e1
   cases v <;> rfl
theorem X6(prog:Program)(w:World)(i:Int)(t:Tok):(yC prog w).is (.inl i) (.int i t)=true:=U9 i t
theorem X5(prog:Program)(w:World)(x:Str)(t:Tok):(yC prog w).is (.inr x) (.str x t)=true:=U8 x t
inductive V where
 | non|bl (b:Bool) | int (i:Int) | str (x:Str) | byt (b:Array UInt8) | flt (b:UInt64) | ref (a:Addr) | ty (n:String)
 deriving DecidableEq
def RelV:V→Value→Prop
 |.non,u=>u=Value.none
 |.bl b,u=>u=Value.bool b
 |.int i,u=>∃t,u=Value.int i t
 |.str x,u=>∃t,u=Value.str x t
 |.byt b,u=>∃t,u=Value.bytes b t
 |.flt b,u=>∃t,u=Value.float b t
 |.ref a,u=>u=Value.ref a
 |.ty n,u=>u=Value.type n
abbrev Vals:List V→List Value→Prop:=Paired RelV
theorem Vals.length{xs:List V}{us:List Value}(r:Vals xs us):xs.length=us.length:=Paired.length r
theorem Vals.get:∀{xs:List V} {us:List Value} {i:Nat} {x:V},Vals xs us→xs[i]?=some x→∃u,us[i]?=some u∧RelV x u
 |_,_,_,_,.nil,e=>by simp at e
 |_,_,0,_,.cons r _,e=>by simp at e;subst e;exact⟨_,rfl,r⟩
 |_,_,i+1,x,.cons _ t,e=>by
  obtain⟨u,h1,h2⟩:=Vals.get (i:=i) (x:=x) t (by simpa using e)
  exact⟨u,by simpa using h1,h2⟩
theorem Vals.set{x:V}{u:Value}(r:RelV x u):∀{xs:List V} {us:List Value} (i:Nat),Vals xs us→Vals (xs.set i x) (us.set i u)
 |_,_,_,.nil=>.nil
 |_,_,0,.cons _ t=>.cons r t
 |_,_,i+1,.cons q t=>.cons q (Vals.set r i t)
theorem Vals.append:∀{xs ys:List V} {us ws:List Value},Vals xs us→Vals ys ws→Vals (xs++ys) (us++ws)
 |_,_,_,_,.nil,s=>s
 |_,_,_,_,.cons r t,s=>.cons r (Vals.append t s)
theorem Vals.take:∀{xs:List V} {us:List Value} (n:Nat),Vals xs us→Vals (xs.take n) (us.take n)
 |_,_,0,_=>.nil
 |_,_,_+1,.nil=>.nil
 |_,_,n+1,.cons r t=>.cons r (Vals.take n t)
theorem Vals.drop:∀{xs:List V} {us:List Value} (n:Nat),Vals xs us→Vals (xs.drop n) (us.drop n)
 |_,_,0,r=>r
 |_,_,_+1,.nil=>.nil
 |_,_,n+1,.cons _ t=>Vals.drop n t
def RelO:Option V→Option Value→Prop
 |some v,some u=>RelV v u
 |none,none=>True
 |_,_=>False
def KV{κ:Type}:List (κ×V)→List (κ×Value)→Prop:=Paired fun (p:κ×V) (q:κ×Value)=>p.1=q.1∧RelV p.2 q.2
def kV:Key→V
 |.inl i=>.int i
 |.inr x=>.str x
inductive HO where
 | lst (xs:List V)
 | tup (xs:List V)
 | dK (kvs:List (Key×V)) | dT (kvs:List (List Key×V))
 | set (S:Int→Bool) (n:Nat)
 | ins (C dx:Addr) (fs:List (Str×V))
 | own (x:Addr)
 | xd (fs:List (Str×V))
 | met (f x:Addr)
 | rng (lo hi:Int)
 | frz (o:Obj) (u:HO)
 | tbl (ps:Array Value)
 | ext (φ:Heap→Prop)
abbrev Hp:=Addr→Option HO
def upd(H:Hp)(a:Addr)(o:HO):Hp:=fun b=>if b=a then some o else H b
theorem zt{H:Hp}{a:Addr}{o:HO}:upd H a o a=some o:=by unfold upd;rw[if_pos rfl]
theorem zn{H:Hp}{a b:Addr}{o:HO}(h:b≠a):upd H a o b=H b:=by unfold upd;rw[if_neg h]
theorem ne_of{H:Hp}{a b:Addr}{o u:HO}(h:H a=some o)(h':H b=some u)(d:o≠u):a≠b:=by
 intro e;subst e;rw[h] at h';exact d (Option.some.inj h')
theorem yh{H:Hp}{a b:Addr}{o:HO}(h:H a=some o)(h':H b=none):a≠b:=by
 intro e;subst e;rw[h] at h';cases h'
section
variable(P:Program)(w:World)
def ObjOk(H:Hp)(h:Heap)(a:Addr):HO→Prop
 |.lst xs=>xs.length≤sizeLine∧∃(its:List Value) (n:Nat),Vals xs its∧h.get? a=some { cls:=.type "list", data:=.seq its.toArray n }
 |.tup xs=>xs.length≤sizeLine∧∃its:List Value,Vals xs its∧IsTup h a its.toArray
 |.dK kvs=>kvs.length≤sizeLine∧(a==sysModules)=false∧∃vs,KV kvs vs∧h.DictOf (yC P w) a vs
 |.dT kvs=>kvs.length≤sizeLine∧(a==sysModules)=false∧∃xs:List (List Key×Addr×Value),
   Paired (fun (p:List Key×V) (q:List Key×Addr×Value)=>p.1=q.1∧H q.2.1=some (.tup (p.1.map kV))∧RelV p.2 q.2.2) kvs xs ∧
   ∃o es ep,h.get? a=some o∧o.ExactDict∧o.data=.dict es ep∧es.toList=xs.map (entryOfKey (tupleKind (yC P w)))∧(xs.map (·.1)).Nodup
 |.set S n=>h.SetOf (intKind P w) a S n
 |.ins C dx fs=>H dx=some (.own a)∧fs.length≤1000∧dx≠a∧h.get? a=some (PySem.W.instObj C dx) ∧
   ∃mA,h.Ns1 dx mA∧(∀f,RelO (fs.lookup f) (mA f))∧PySem.Within mA (fs.map (·.1))
 |.own _=>∃o,h.get? a=some o
 |.xd fs=>∃mA,h.Ns1 a mA∧∀f,RelO (fs.lookup f) (mA f)
 |.rng lo hi=>∃t u v,h.get? a=some { cls:=.type "range", data:=.fields #[.int lo t,.int hi u,.int 1 v] }
 |.frz o u=>h.get? a=some o∧ObjOk H h a u
 |.tbl ps=>h.get? a=some { cls:=.none,data:=.fields ps }
 |.met f x=>h.get? a=some (methodObj (.ref f) (.ref x))
 |.ext φ=>φ h∧(∃o,h.get? a=some o)∧∀h1 h2:Heap,φ h1→(∀o,h1.get? a=some o→h2.get? a=some o)→φ h2
def HOk(H:Hp)(h:Heap):Prop:=∀a o,H a=some o→ObjOk P w H h a o
end
section
variable{P:Program}{w:World}{H H':Hp}{h h':Heap}{a:Addr}{o:HO}
theorem ObjOk.lt(x:ObjOk P w H h a o):a<h.objs.size:=by
 cases o with
 |lst xs=>obtain⟨_,_,_,_,e⟩:=x;exact Heap.lt_size e
 |tup xs=>obtain⟨_,_,_,p⟩:=x;exact p.lt
 |dK kvs=>obtain⟨_,_,_,_,o,_,_,e,_⟩:=x;exact Heap.lt_size e
 |dT kvs=>obtain⟨_,_,_,_,o,_,_,e,_⟩:=x;exact Heap.lt_size e
 |set S n=>obtain⟨o,_,_,_,e,_⟩:=x;exact Heap.lt_size e
 |ins C dx fs=>obtain⟨_,_,_,e,_⟩:=x;exact Heap.lt_size e
 |own y=>obtain⟨_,e⟩:=x;exact Heap.lt_size e
 |xd fs=>obtain⟨_,⟨_,_,_,e,_⟩,_⟩:=x;exact Heap.lt_size e
 |rng lo hi=>obtain⟨_,_,_,e⟩:=x;exact Heap.lt_size e
 |frz ob u=>obtain⟨e,_⟩:=x;exact Heap.lt_size e
 |tbl ps=>exact Heap.lt_size (show h.get? a=some _ from x)
 |met f y=>exact Heap.lt_size (show h.get? a=some _ from x)
 |ext φ=>obtain⟨_,⟨_,e⟩,_⟩:=x;exact Heap.lt_size e
theorem Paired.mapP{α β:Type}{F G:α→β→Prop}:∀{l₁:List α} {l₂:List β},Paired F l₁ l₂→(∀a b,F a b→G a b)→Paired G l₁ l₂
 |_,_,.nil,_=>.nil
 |_,_,.cons r t,f=>.cons (f _ _ r) (Paired.mapP t f)
theorem ObjOk.stay(x:ObjOk P w H h a o)(k:∀b u,(b=a∨H b=some (.own a))→h.get? b=some u→h'.get? b=some u)
  (ho:∀b,H b=some (.own a)→H' b=some (.own a)) (ht:∀b xs,H b=some (.tup xs)→H' b=some (.tup xs)):ObjOk P w H' h' a o:=by
 induction o with
 |lst xs=>obtain⟨z,its,n,r,e⟩:=x;exact⟨z,its,n,r,k _ _ (.inl rfl) e⟩
 |tup xs=>obtain⟨z,its,r,ob,e,c⟩:=x;exact⟨z,its,r,ob,k _ _ (.inl rfl) e,c⟩
 |dK kvs=>obtain⟨z,y,vs,r,ob,es,ep,e,c⟩:=x;exact⟨z,y,vs,r,ob,es,ep,k _ _ (.inl rfl) e,c⟩
 |dT kvs=>
  obtain⟨z,y,xs,r,ob,es,ep,e,c⟩:=x
  exact⟨z,y,xs,Paired.mapP r fun p q z=>⟨z.1,ht _ _ z.2.1,z.2.2⟩,ob,es,ep,k _ _ (.inl rfl) e,c⟩
 |set S n=>obtain⟨ob,es,ep,t,e,c⟩:=x;exact⟨ob,es,ep,t,k _ _ (.inl rfl) e,c⟩
 |ins C dx fs=>
  obtain⟨d,z,ne,e,mA,⟨od,es,ep,e2,c⟩,r⟩:=x
  exact⟨ho _ d,z,ne,k _ _ (.inl rfl) e,mA,⟨od,es,ep,k _ _ (.inr d) e2,c⟩,r⟩
 |own y=>obtain⟨ob,e⟩:=x;exact⟨ob,k _ _ (.inl rfl) e⟩
 |xd fs=>obtain⟨mA,⟨od,es,ep,e,c⟩,r⟩:=x;exact⟨mA,⟨od,es,ep,k _ _ (.inl rfl) e,c⟩,r⟩
 |rng lo hi=>obtain⟨t,u,v,e⟩:=x;exact⟨t,u,v,k _ _ (.inl rfl) e⟩
 |frz ob u ih=>obtain⟨e,q⟩:=x;exact⟨k _ _ (.inl rfl) e,ih q⟩
 |tbl ps=>
  have e:h.get? a=some { cls:=.none,data:=.fields ps }:=x
  show h'.get? a=some { cls:=.none,data:=.fields ps }
  exact k a _ (.inl rfl) e
 |met f y=>
  have e:h.get? a=some (methodObj (.ref f) (.ref y)):=x
  show h'.get? a=some (methodObj (.ref f) (.ref y))
  exact k a _ (.inl rfl) e
 |ext φ=>obtain⟨p,⟨o,e⟩,st⟩:=x;exact⟨st _ _ p fun o q=>k _ _ (.inl rfl) q,⟨o,k _ _ (.inl rfl) e⟩,st⟩
theorem HOk.lt(x:HOk P w H h)(e:H a=some o):a<h.objs.size:=(x a o e).lt
theorem HOk.fresh(x:HOk P w H h)(e:h.objs.size≤a):H a=none:=by
 cases q:H a with
 |none=>rfl
 |some u=>exact absurd (lt_of_lt_of_le (x.lt q) e) (lt_irrefl _)
theorem HOk.kept(x:HOk P w H h)(k:∀b u,h.get? b=some u→h'.get? b=some u):HOk P w H h':=fun a o e=>
 (x a o e).stay (fun b u _ q=>k b u q) (fun _ q=>q) fun _ _ q=>q
theorem HOk.laid(x:HOk P w H h)(k:∀b u,h.get? b=some u→h'.get? b=some u)(hp:h.objs.size≤a)(new:ObjOk P w (upd H a o) h' a o):HOk P w (upd H a o) h':=fun b u e=>by
 have hn:=x.fresh hp
 by_cases hb:b=a
 ·subst hb;rw[zt] at e;cases e;exact new
 ·rw[zn hb] at e
  exact(x b u e).stay (fun c v _ q=>k c v q) (fun c q=>by rw[zn (yh q hn)];exact q) fun c xs q=>by rw[zn (yh q hn)];exact q
end
def Rd(H:Hp)(a:Addr)(u:HO):Prop:=H a=some u∨∃o,H a=some (.frz o u)
theorem Rd.ok{P:Program}{w:World}{H:Hp}{h:Heap}{a:Addr}{u:HO}(r:Rd H a u)(x:HOk P w H h):ObjOk P w H h a u:=by
 rcases r with r|⟨o,r⟩
 ·exact x a u r
 ·obtain⟨_,q⟩:=x a _ r
  exact q
def Mut:Option HO→Prop
 | some (.lst _)=>True
 | some (.dK _)=>True
 | some (.dT _)=>True
 | some (.set _ _)=>True
 | some (.ins _ _ _)=>True
 | some (.ext _)=>True
 |_=>False
section
variable{P:Program}{w:World}{H:Hp}{h h':Heap}{x e:Addr}{o':HO}
theorem HOk.write(ok:HOk P w H h)(mu:Mut (H x))(he:e=x∨H e=some (.own x))(k:∀b u,b≠e→h.get? b=some u→h'.get? b=some u)(heo:∃u,h'.get? e=some u)
  (new:ObjOk P w (upd H x o') h' x o'):HOk P w (upd H x o') h':=fun b u q=>by
 have nown:∀c y,H c=some (.own y)→c≠x:=fun c y r z=>by subst z;rw[r] at mu;exact mu
 have ntup:∀c xs,H c=some (.tup xs)→c≠x:=fun c xs r z=>by subst z;rw[r] at mu;exact mu
 by_cases hb:b=x
 ·subst hb;rw[zt] at q;cases q;exact new
 ·rw[zn hb] at q
  by_cases hbe:b=e
  ·have q':H b=some (.own x):=by
    rcases he with z|z
    ·exact absurd (hbe.trans z) hb
    ·rw[hbe];exact z
   rw[q] at q';cases q'
   obtain⟨v,hv⟩:=heo
   exact⟨v,by rw[hbe];exact hv⟩
  ·refine(ok b u q).stay (fun c v hc r=>k c v ?_ r) (fun c r=>by rw[zn (nown c b r)];exact r) fun c xs r=>by rw[zn (ntup c xs r)];exact r
   rcases hc with rfl|hc
   ·exact hbe
   ·rintro rfl
    rcases he with z|z
    ·exact nown c b hc z
    ·rw[hc] at z;cases z;exact hb rfl
end
structure Un(fs ex:List Addr)(H H':Hp)(h h':Heap):Prop where
 keep:∀b o,h.get? b=some o→H b=none→b∉fs→b∉ex→h'.get? b=some o
 slot:∀b o,h.get? b=some o→H b=none→b∈fs→b∉ex→∃sl,h'.get? b=some { o with slots:=sl }
 free:∀b o,h.get? b=some o→H b=none→b∉ex→H' b=none
 there:∀b o,h.get? b=some o→b∉ex→∃o',h'.get? b=some o'
 tups:∀b xs,H b=some (.tup xs)→H' b=some (.tup xs)
 frzs:∀b o u,H b=some (.frz o u)→H' b=some (.frz o u)
 tbls:∀b ps,H b=some (.tbl ps)→∃more,H' b=some (.tbl (ps++more))
section
variable{fs fs' ex ex':List Addr}{H H1 H2:Hp}{h h1 h2 h':Heap}{a x e:Addr}{o:HO}
theorem Un.any(u:Un fs ex H H1 h h1){b:Addr}{ob:Obj}(q:h.get? b=some ob)(n:H b=none)(hx:b∉ex):∃sl,h1.get? b=some { ob with slots:=sl }:=by
 by_cases hb:b∈fs
 ·exact u.slot b ob q n hb hx
 ·exact⟨ob.slots,u.keep b ob q n hb hx⟩
theorem Un.kept(k:∀b u,h.get? b=some u→h'.get? b=some u):Un fs ex H H h h':=
 ⟨fun b ob q _ _ _=>k b ob q,fun b ob q _ _ _=>⟨ob.slots,k b ob q⟩,fun _ _ _ n _=>n,fun b ob q _=>⟨ob,k b ob q⟩,fun _ _ q=>q,fun _ _ _ q=>q,fun _ ps q=>⟨#[],by rw[q];simp⟩⟩
theorem Un.refl:Un fs ex H H h h:=Un.kept fun _ _ q=>q
theorem Un.laid(k:∀b u,h.get? b=some u→h'.get? b=some u)(hp:h.objs.size≤a)(hn:H a=none):Un fs ex H (upd H a o) h h' where
 keep:=fun b u q _ _ _=>k b u q
 slot:=fun b u q _ _ _=>⟨u.slots,k b u q⟩
 free:=fun b u q n _=>by rw[zn (ne_of_lt (lt_of_lt_of_le (Heap.lt_size q) hp))];exact n
 there:=fun b u q _=>⟨u,k b u q⟩
 tups:=fun b xs q=>by rw[zn (yh q hn)];exact q
 frzs:=fun b u xs q=>by rw[zn (yh q hn)];exact q
 tbls:=fun b ps q=>⟨#[],by rw[zn (yh q hn),q];simp⟩
theorem Un.write(mu:Mut (H x))(he:e=x∨H e=some (.own x))(k:∀b u,b≠e→h.get? b=some u→h'.get? b=some u)(heo:∃u,h'.get? e=some u):Un fs ex H (upd H x o) h h':=by
 have hx:∀b,H b=none→b≠x:=fun b n z=>by subst z;rw[n] at mu;exact mu
 have hb:∀b,H b=none→b≠e:=fun b n z=>by
  subst z
  rcases he with r|r
  ·exact hx b n r
  ·rw[n] at r;cases r
 have hm:∀b u,H b=some u→¬ Mut (some u)→b≠x:=fun b u q nm z=>by subst z;rw[q] at mu;exact nm mu
 refine⟨fun b u q n _ _=>k b u (hb b n) q,fun b u q n _ _=>⟨u.slots,k b u (hb b n) q⟩,fun b u q n _=>by rw[zn (hx b n)];exact n,fun b u q _=>?_,
  fun b xs q=>by rw[zn (hm b _ q fun z=>z)];exact q,fun b u xs q=>by rw[zn (hm b _ q fun z=>z)];exact q,fun b ps q=>⟨#[],by rw[zn (hm b _ q fun z=>z),q];simp⟩⟩
 by_cases hbe:b=e
 ·subst hbe;exact heo
 ·exact⟨u,k b u hbe q⟩
end
def trk(h:Heap)(H:Hp):List Addr:=(List.range h.objs.size).filter fun a=>(H a).isSome
def uy(h:Heap)(H:Hp):Heap:=PySem.W.hideAll h (trk h H)
theorem YQ(h:Heap)(H:Hp):(uy h H).objs.size=h.objs.size:=PySem.W.hideAll_size _ _
theorem Wn{h:Heap}{H:Hp}{b:Addr}{o:Obj}(e:h.get? b=some o)(n:H b=none):(uy h H).get? b=some o:=
 PySem.W.hideAll_get _ e fun hm=>by
  have q:(H b).isSome=true:=(mem_filter.mp hm).2
  rw[n] at q;simp at q
theorem VV{h:Heap}{H:Hp}{b:Addr}{o:Obj}(e:(uy h H).get? b=some o):h.get? b=some o∧H b=none:=by
 have e':h.get? b=some o:=PySem.W.of_hideAll (trk h H) e
 refine⟨e',?_⟩
 cases q:H b with
 |none=>rfl
 |some x=>
  have hm:b∈trk h H:=mem_filter.mpr ⟨mem_range.mpr (Heap.lt_size e'),by simp[q]⟩
  have z:(uy h H).get? b=none:=PySem.W.hideAll_none (trk h H) hm
  rw[z] at e;cases e
def To(g h:Heap)(L:Addr):List (Addr×Obj):=(List.range h.objs.size).filterMap fun a=>if a=L∨(g.get? a).isSome=true then none else (h.get? a).map fun o=>(a,o)
def rest(g h:Heap)(L d:Addr):List (Addr×Obj):=(To g h L).filter fun p=>decide (p.1≠d)
structure Mod(K:PySem.W.Frag)(mg:Str→Option Value)(base:Heap):Prop where
 kin:K.In base
 glob:base.Ns mainGlobals mg
 blt:∃mb,base.Ns builtinsNs mb∧∀x:Str,x ≠ "__name__" → mb x=bootBuiltins x
 nolimit:base.NoLimit
structure Cx where
 prog:Program
 w:World
 K:PySem.W.Frag
 mg:Str→Option Value
 base:Heap
 A:Around
 N:List Str
 s₀:Shared
 H₀:Hp
 env:Env
 outer:List Env
 stack:List Env
 ex:List Addr
 fn:Str→Bool
 calm:Bool
 pn:List (Addr×Obj)
 xe:Value→Shared→Prop
def frs(l:List Env):List Addr:=l.filterMap (·.frame)
abbrev Cx.fs(X:Cx):List Addr:=frs X.outer
def Vis(sc:Scope)(x:Str):Prop:=sc.names.lookup x=some .local∨sc.names.lookup x=some .cell∨sc.names.lookup x=some .free
def Loc(sc:Scope)(x:Str):Prop:=sc.names.lookup x=some .local∨sc.names.lookup x=some .cell
def Look(env:Env)(h:Heap)(m:Str→Option Value)(x:Str)(u:Value):Prop:=
 (env.kindOf x=some .local∧m x=some u)∨((env.kindOf x=some .cell∨env.kindOf x=some .free)∧∃c,env.cells.lookup x=some c∧h.IsCell c (some u))
structure Cx.Ok(X:Cx):Prop where
 mod:Mod X.K X.mg X.base
 kind:X.env.scope.kind=.function
 glob:X.env.globals=mainGlobals
 blt:X.env.builtins=builtinsNs
 above:X.s₀.heap.objs.size≤X.env.locals
 inj:∀x y c,X.env.cells.lookup x=some c→X.env.cells.lookup y=some c→x=y
 has:∀x,(X.env.kindOf x=some .cell∨X.env.kindOf x=some .free)→∃c,X.env.cells.lookup x=some c
 cab:∀x c,X.fn x=true→X.env.cells.lookup x=some c→X.s₀.heap.objs.size≤c
 hd:X.calm=true→X.A.handled=none
 frames:X.A.frames=some X.stack
 stk:X.stack=X.outer∨(X.stack=X.env::X.outer∧X.env.frame=some X.env.locals)
 exf:∀b∈X.ex,b≠X.env.locals∧∀x c,X.env.cells.lookup x=some c→c≠b
 bs:∀b o,X.base.get? b=some o→X.s₀.heap.get? b=some o∧X.H₀ b=none
 bsz:X.base.objs.size≤X.s₀.heap.objs.size
 noex:∀b o,X.base.get? b=some o→b∉X.ex
 exfs:∀b∈X.ex,b∉X.fs
 funs:X.s₀.heap.FunFrames X.base X.outer
 frf:∀b∈X.fs,X.H₀ b=none
structure Inv(X:Cx)(pins:List (Addr×Obj))(σ:List (Option V))(H:Hp)(s:Shared):Prop where
 ok:X.Ok
 os:s.os=X.s₀.os
 bare:AllBare s.gens
 base:Un X.fs X.ex X.H₀ H X.s₀.heap s.heap
 loc:∃m,s.heap.Ns X.env.locals m∧∀(i:Nat) (x:Str) (v:V),X.N[i]?=some x→σ[i]?=some (some v)→Vis X.env.scope x→∃u,RelV v u∧Look X.env s.heap m x u
 cell:∀x c,X.env.cells.lookup x=some c→∃v,s.heap.IsCell c v
 free:H X.env.locals=none
 freeC:∀x c,X.env.cells.lookup x=some c→H c=none
 pin:∀p∈X.pn++pins,s.heap.get? p.1=some p.2∧H p.1=none∧p.1≠X.env.locals∧p.1∉X.fs∧∀v,p.2.data≠.cell v
 hok:HOk X.prog X.w H s.heap
 len:σ.length=X.N.length
section
variable{X:Cx}{pins:List (Addr×Obj)}{σ:List (Option V)}{H H':Hp}{s:Shared}{h':Heap}
theorem Cx.Ok.nofr(ok:X.Ok){b:Addr}{o:Obj}(e:X.base.get? b=some o):b∉X.fs:=fun hb=>by
 have:=(ok.funs.mem hb).1
 rw[e] at this;cases this
theorem Inv.bs(I:Inv X pins σ H s):∀b o,X.base.get? b=some o→s.heap.get? b=some o∧H b=none:=fun b o e=>
 ⟨I.base.keep b o (I.ok.bs b o e).1 (I.ok.bs b o e).2 (I.ok.nofr e) (I.ok.noex b o e),I.base.free b o (I.ok.bs b o e).1 (I.ok.bs b o e).2 (I.ok.noex b o e)⟩
theorem Inv.bk(I:Inv X pins σ H s):∀b o,X.base.get? b=some o→s.heap.get? b=some o:=fun b o e=>(I.bs b o e).1
theorem Inv.mod(I:Inv X pins σ H s):Mod X.K X.mg X.base:=I.ok.mod
theorem Inv.kIn(I:Inv X pins σ H s):X.K.In s.heap:=I.ok.mod.kin.keeps I.bk
theorem Inv.lt(I:Inv X pins σ H s):X.env.locals<s.heap.objs.size:=let ⟨_,hn,_⟩:=I.loc;hn.lt
theorem Inv.sz(I:Inv X pins σ H s):X.s₀.heap.objs.size≤s.heap.objs.size:=le_trans I.ok.above (le_of_lt I.lt)
theorem Inv.nofs(I:Inv X pins σ H s){a:Addr}(h:s.heap.objs.size≤a):a∉X.fs:=fun hb=>by
 obtain⟨_,o,ho,_⟩:=I.ok.funs.mem hb
 exact absurd (lt_of_lt_of_le (Heap.lt_size ho) (le_trans I.sz h)) (lt_irrefl _)
theorem Inv.cne(I:Inv X pins σ H s):∀x c,X.env.cells.lookup x=some c→c≠X.env.locals:=fun x c e z=>by
 obtain⟨v,o,ho,hd⟩:=I.cell x c e
 obtain⟨m,⟨o',es,ep,ho',hd',_⟩,_⟩:=I.loc
 rw[z,ho'] at ho;cases ho;rw[hd'] at hd;cases hd
theorem Inv.funs(I:Inv X pins σ H s):s.heap.FunFrames X.base X.outer:=by
 have all:∀(l:List Env),(∀b∈frs l,b∈X.fs)→X.s₀.heap.FunFrames X.base l→s.heap.FunFrames X.base l:=by
  intro l
  induction l with
  |nil=>intro _ _;trivial
  |cons env r ih=>
   intro hs hl
   obtain⟨hk,⟨L,o,hf,hn,ho,hd⟩,hr⟩:=hl
   have hL:L∈X.fs:=hs L (by unfold frs;rw[filterMap_cons,hf];exact mem_cons_self)
   obtain⟨sl,e⟩:=I.base.slot L o ho (I.ok.frf L hL) hL fun z=>I.ok.exfs L z hL
   exact⟨hk,⟨L,_,hf,hn,e,hd⟩,ih (fun b hb=>hs b (by unfold frs;rw[filterMap_cons,hf];exact mem_cons_of_mem _ hb)) hr⟩
 exact all X.outer (fun _ hb=>hb) I.ok.funs
theorem Inv.stack(I:Inv X pins σ H s):s.heap.FunFrames X.base X.stack:=by
 rcases I.ok.stk with e|⟨e,hf⟩
 ·rw[e];exact I.funs
 ·rw[e]
  obtain⟨m,hn,_⟩:=I.loc
  refine .cons (by rw[I.ok.kind];decide) hf hn ?_ I.funs
  exact Heap.get?_none_of_le (le_trans I.ok.bsz I.ok.above)
theorem Inv.stkSub(I:Inv X pins σ H s):∀b∈frs X.stack,b∈X.env.locals::X.fs:=fun b hb=>by
 rcases I.ok.stk with e|⟨e,hf⟩
 ·rw[e] at hb;exact mem_cons_of_mem _ hb
 ·rw[e] at hb
  unfold frs at hb
  rw[filterMap_cons,hf] at hb
  exact hb
theorem Inv.stkFree(I:Inv X pins σ H s):∀b∈frs X.stack,H b=none:=fun b hb=>by
 rcases mem_cons.mp (I.stkSub b hb) with e|hb
 ·rw[e];exact I.free
 ·obtain⟨_,o,ho,_⟩:=I.ok.funs.mem hb
  exact I.base.free b o ho (I.ok.frf b hb) fun z=>I.ok.exfs b z hb
theorem Inv.step{g':Array GenState}{t':Nat}{d':Drawn}{ch:List Addr}(I:Inv X pins σ H s)
  (hch:∀b∈ch,(b∈X.ex∨X.s₀.heap.objs.size≤b)∧b≠X.env.locals∧(∀x c,X.env.cells.lookup x=some c→c≠b)∧∀p∈X.pn++pins,p.1≠b)
  (keep:∀b o,b≠X.env.locals→b∉X.fs→b∉ch→s.heap.get? b=some o→H b=none→h'.get? b=some o)
  (slot:∀b o,b≠X.env.locals→b∈X.fs→b∉ch→s.heap.get? b=some o→H b=none→∃sl,h'.get? b=some { o with slots:=sl }) (free:∀b o,b∉ch→s.heap.get? b=some o→H b=none→H' b=none)
  (there:∀b o,b∉ch→s.heap.get? b=some o→∃o',h'.get? b=some o')
  (tups:∀b xs,H b=some (.tup xs)→H' b=some (.tup xs)) (frzs:∀b o u,H b=some (.frz o u)→H' b=some (.frz o u)) (tbls:∀b ps,H b=some (.tbl ps)→∃more,H' b=some (.tbl (ps++more)))
  (ns:∀m,s.heap.Ns X.env.locals m→h'.Ns X.env.locals m) (hok:HOk X.prog X.w H' h') (hg:AllBare g') :
  Inv X pins σ H' { s with heap:=h',gens:=g',drawn:=d',toks:=t' }:=by
 have neL:∀b o,X.s₀.heap.get? b=some o→b≠X.env.locals:=fun b o e=>ne_of_lt (lt_of_lt_of_le (Heap.lt_size e) I.ok.above)
 have neC:∀b o,X.s₀.heap.get? b=some o→b∉X.ex→b∉ch:=fun b o e hx hb=>by
  rcases (hch b hb).1 with z|z
  ·exact hx z
  ·exact absurd (lt_of_lt_of_le (Heap.lt_size e) z) (lt_irrefl _)
 have cellK:∀x c,X.env.cells.lookup x=some c→∀v,s.heap.IsCell c v→h'.IsCell c v:=fun x c e v ⟨o,ho,hd⟩=>by
  have nch:c∉ch:=fun z=>(hch c z).2.2.1 x c e rfl
  by_cases hc:c∈X.fs
  ·obtain⟨sl,q⟩:=slot c o (I.cne x c e) hc nch ho (I.freeC x c e)
   exact⟨_,q,hd⟩
  ·exact⟨o,keep c o (I.cne x c e) hc nch ho (I.freeC x c e),hd⟩
 refine⟨I.ok,I.os,hg,⟨fun b o e n hb hx=>?_,fun b o e n hb hx=>?_,fun b o e n hx=>?_,fun b o e hx=>?_,fun b xs e=>tups b xs (I.base.tups b xs e),fun b o xs e=>frzs b o xs (I.base.frzs b o xs e),fun b ps e=>?_⟩,?_,fun x c e=>?_,?_,fun x c e=>?_,fun p hp=>?_,hok,I.len⟩
 ·exact keep b o (neL b o e) hb (neC b o e hx) (I.base.keep b o e n hb hx) (I.base.free b o e n hx)
 ·obtain⟨sl,e1⟩:=I.base.slot b o e n hb hx
  obtain⟨sl',e2⟩:=slot b _ (neL b o e) hb (neC b o e hx) e1 (I.base.free b o e n hx)
  exact⟨sl',e2⟩
 ·obtain⟨o',e1⟩:=I.base.there b o e hx
  exact free b o' (neC b o e hx) e1 (I.base.free b o e n hx)
 ·obtain⟨o',e1⟩:=I.base.there b o e hx
  exact there b o' (neC b o e hx) e1
 ·obtain⟨m1,e1⟩:=I.base.tbls b ps e
  obtain⟨m2,e2⟩:=tbls b _ e1
  exact⟨m1++m2,by rw[e2,Array.append_assoc]⟩
 ·obtain⟨m,hn,hl⟩:=I.loc
  refine⟨m,ns m hn,fun i x v e1 e2 e3=>?_⟩
  obtain⟨u,r,l⟩:=hl i x v e1 e2 e3
  refine⟨u,r,?_⟩
  rcases l with l|⟨k,c,e,z⟩
  ·exact .inl l
  ·exact .inr ⟨k,c,e,cellK x c e _ z⟩
 ·obtain⟨v,z⟩:=I.cell x c e
  exact⟨v,cellK x c e v z⟩
 ·obtain⟨m,⟨o,_,_,ho,_⟩,_⟩:=I.loc
  exact free _ o (fun z=>(hch _ z).2.1 rfl) ho I.free
 ·obtain⟨v,o,ho,hd⟩:=I.cell x c e
  exact free c o (fun z=>(hch c z).2.2.1 x c e rfl) ho (I.freeC x c e)
 ·obtain⟨e,n,ne,nf,d⟩:=I.pin p hp
  have nch:p.1∉ch:=fun z=>(hch p.1 z).2.2.2 p hp rfl
  exact⟨keep p.1 p.2 ne nf nch e n,free p.1 p.2 nch e n,ne,nf,d⟩
theorem Inv.un{t':Nat}(I:Inv X pins σ H s)(u:Un X.fs [] H H' s.heap h')(hok:HOk X.prog X.w H' h'):Inv X pins σ H' { s with heap:=h',toks:=t' }:=by
 obtain⟨m,⟨o,es,ep,ho,r⟩,_⟩:=id I.loc
 obtain⟨sl,hL⟩:=u.any ho I.free (by simp)
 exact I.step (g':=s.gens) (d':=s.drawn) (ch:=[]) (fun _ z=>nomatch z) (fun b o _ hb _ e n=>u.keep b o e n hb (by simp)) (fun b o _ hb _ e n=>u.slot b o e n hb (by simp)) (fun b o _ e n=>u.free b o e n (by simp)) (fun b o _ e=>u.there b o e (by simp)) u.tups u.frzs u.tbls (fun m' hm=>by
  obtain⟨o',es',ep',ho',r'⟩:=hm
  rw[ho] at ho';cases ho'
  exact⟨_,es',ep',hL,r'⟩) hok I.bare
theorem Inv.call{g':Array GenState}{t':Nat}{d':Drawn}{ch:List Addr}(I:Inv X pins σ H s)(u:Un (frs X.stack) ch H H' s.heap h')(hok:HOk X.prog X.w H' h')(hg:AllBare g')
  (hch:∀b∈ch,(b∈X.ex∨X.s₀.heap.objs.size≤b)∧b≠X.env.locals∧(∀x c,X.env.cells.lookup x=some c→c≠b)∧∀p∈X.pn++pins,p.1≠b) :
  Inv X pins σ H' { s with heap:=h',gens:=g',drawn:=d',toks:=t' }:=by
 obtain⟨m,⟨o,es,ep,ho,r⟩,_⟩:=id I.loc
 obtain⟨sl,hL⟩:=u.any ho I.free fun z=>(hch _ z).2.1 rfl
 exact I.step (ch:=ch) hch (fun b o hL hb hc e n=>u.keep b o e n (fun z=>(mem_cons.mp (I.stkSub b z)).elim hL hb) hc) (fun b o _ _ hc e n=>u.any e n hc) (fun b o hc e n=>u.free b o e n hc) (fun b o hc e=>u.there b o e hc) u.tups u.frzs u.tbls (fun m' hm=>by
  obtain⟨o',es',ep',ho',r'⟩:=hm
  rw[ho] at ho';cases ho'
  exact⟨_,es',ep',hL,r'⟩) hok hg
theorem Inv.turned{t':Nat}{it:Addr}(I:Inv X pins σ H s)(k:∀b o,b≠it→s.heap.get? b=some o→h'.get? b=some o)(hn:H it=none)(hL:it≠X.env.locals)
  (h1:it∈X.ex∨X.s₀.heap.objs.size≤it) (h2:∀x c,X.env.cells.lookup x=some c→c≠it) (h3:∀p∈X.pn++pins,p.1≠it):Inv X pins σ H { s with heap:=h',toks:=t' }:=by
 have nit:∀b u,H b=some u→b≠it:=fun b u e z=>by rw[z,hn] at e;cases e
 refine I.step (g':=s.gens) (d':=s.drawn) (ch:=[it]) (fun b hb=>?_) (fun b o _ _ hc e _=>k b o (fun z=>hc (by simp[z])) e) (fun b o _ _ hc e _=>⟨o.slots,k b o (fun z=>hc (by simp[z])) e⟩) (fun _ _ _ _ n=>n)
  (fun b o hc e=>⟨o,k b o (fun z=>hc (by simp[z])) e⟩) (fun _ _ e=>e) (fun _ _ _ e=>e) (fun b ps e=>⟨#[],by rw[e];simp⟩) (fun m hm=>?_) (fun b u e=>?_) I.bare
 ·have e:b=it:=by simpa using hb
  subst e
  exact⟨h1,hL,h2,h3⟩
 ·obtain⟨o,es,ep,ho,r⟩:=hm
  exact⟨o,es,ep,k _ o (Ne.symm hL) ho,r⟩
 ·refine(I.hok b u e).stay (fun c v hc q=>k c v ?_ q) (fun _ q=>q) fun _ _ q=>q
  rcases hc with z|z
  ·rw[z];exact nit b u e
  ·exact nit c _ z
theorem Inv.tok(I:Inv X pins σ H s)(t:Nat):Inv X pins σ H { s with toks:=t }:=I.un (h':=s.heap) (t':=t) Un.refl I.hok
theorem Inv.kept{t':Nat}(I:Inv X pins σ H s)(k:∀b u,s.heap.get? b=some u→h'.get? b=some u):Inv X pins σ H { s with heap:=h',toks:=t' }:=I.un (Un.kept k) (I.hok.kept k)
theorem Inv.laid{a:Addr}{o:HO}{t':Nat}(I:Inv X pins σ H s)(k:∀b u,s.heap.get? b=some u→h'.get? b=some u)(hp:s.heap.objs.size≤a)(new:ObjOk X.prog X.w (upd H a o) h' a o) :
  Inv X pins σ (upd H a o) { s with heap:=h',toks:=t' }:=I.un (Un.laid k hp (I.hok.fresh hp)) (I.hok.laid k hp new)
theorem Inv.write{x e:Addr}{o:HO}{t':Nat}(I:Inv X pins σ H s)(mu:Mut (H x))(he:e=x∨H e=some (.own x))(k:∀b u,b≠e→s.heap.get? b=some u→h'.get? b=some u)(heo:∃u,h'.get? e=some u)
  (new:ObjOk X.prog X.w (upd H x o) h' x o):Inv X pins σ (upd H x o) { s with heap:=h',toks:=t' }:=I.un (Un.write mu he k heo) (I.hok.write mu he k heo new)
theorem Inv.pins_of{pins':List (Addr×Obj)}(I:Inv X pins σ H s)(h:∀p∈pins',s.heap.get? p.1=some p.2∧H p.1=none∧p.1≠X.env.locals∧p.1∉X.fs∧∀v,p.2.data≠.cell v):Inv X pins' σ H s:=
 ⟨I.ok,I.os,I.bare,I.base,I.loc,I.cell,I.free,I.freeC,fun p hp=>(mem_append.mp hp).elim (fun z=>I.pin p (mem_append_left _ z)) (h p),I.hok,I.len⟩
theorem X3{N:List Str}(hN:N.Nodup){i j:Nat}{x:Str}(a:N[i]?=some x)(b:N[j]?=some x):i=j:=by
 obtain⟨h1,e1⟩:=List.getElem?_eq_some_iff.mp a
 obtain⟨h2,e2⟩:=List.getElem?_eq_some_iff.mp b
 exact(List.getElem_inj hN).mp (e1.trans e2.symm)
theorem Yt{M:Model}{A:Around}{E:Value→Shared→Prop}{i:Nat}{x:Str}{v:V}{u:Value}{Q:Unit→Shared→Prop}(I:Inv X pins σ H s)(hN:X.N.Nodup)(hi:X.N[i]?=some x)(hx:Loc X.env.scope x)(r:RelV v u)
  (h:∀s',Inv X pins (σ.set i (some v)) H s'→(∃a,Heap.SameBut a s.heap s'.heap∧(a=X.env.locals∨X.env.cells.lookup x=some a))→Q () s') (hf:X.fn x=true∨X.env.scope.names.lookup x=some .local:=by first|exact .inl rfl|exact .inr rfl|assumption):wpAny M A (storeName X.env x u) Q E s:=by
 obtain⟨m,hn,hl⟩:=id I.loc
 have hcls:(X.env.scope.kind == .class||(X.env.scope.kind == .module&&X.env.locals != X.env.globals))=false:=by rw[I.ok.kind];rfl
 have hiσ:i<σ.length:=by rw[I.len];exact(List.getElem?_eq_some_iff.mp hi).1
 have cne:=I.cne
 have tracked:∀{a:Addr} {h':Heap},(∃o,s.heap.get? a=some o∧H a=none)→Heap.SameBut a s.heap h'→HOk X.prog X.w H h':=fun {a h'} ha hs b ob e=>by
  obtain⟨_,_,hfree⟩:=ha
  refine(I.hok b ob e).stay (fun c w' hc q=>(hs.2 c ?_).trans q) (fun _ q=>q) fun _ _ q=>q
  rintro rfl
  rcases hc with rfl|hc
  ·rw[hfree] at e;cases e
  ·rw[hfree] at hc;cases hc
 rcases hx with hk|hk
 ·refine wpAny_storeName_local hk hn (fun h' hn' hs=>?_) hcls
  obtain⟨oL,_,_,hoL,_⟩:=id hn
  refine h _ ⟨I.ok,I.os,I.bare,⟨fun b o e n hb hx=>?_,fun b o e n hb hx=>?_,I.base.free,fun b o e hx=>?_,I.base.tups,I.base.frzs,I.base.tbls⟩,⟨_,hn',fun j y v' e1 e2 e3=>?_⟩,fun y c e=>?_,I.free,I.freeC,fun p hp=>?_,tracked ⟨oL,hoL,I.free⟩ hs,by simpa using I.len⟩ ⟨_,hs,.inl rfl⟩
  ·exact(hs.2 b (ne_of_lt (lt_of_lt_of_le (Heap.lt_size e) I.ok.above))).trans (I.base.keep b o e n hb hx)
  ·obtain⟨sl,e1⟩:=I.base.slot b o e n hb hx
   exact⟨sl,(hs.2 b (ne_of_lt (lt_of_lt_of_le (Heap.lt_size e) I.ok.above))).trans e1⟩
  ·obtain⟨o',e1⟩:=I.base.there b o e hx
   exact⟨o',(hs.2 b (ne_of_lt (lt_of_lt_of_le (Heap.lt_size e) I.ok.above))).trans e1⟩
  ·by_cases hj:j=i
   ·subst hj
    rw[hi] at e1;cases e1
    rw[getElem?_set_self hiσ] at e2
    cases e2
    exact⟨u,r,.inl ⟨hk,by simp⟩⟩
   ·rw[getElem?_set_ne (Ne.symm hj)] at e2
    obtain⟨u',r',q⟩:=hl j y v' e1 e2 e3
    refine⟨u',r',?_⟩
    rcases q with ⟨k,e⟩|⟨k,c,e,z⟩
    ·refine .inl ⟨k,?_⟩
     have:y≠x:=fun e=>hj (X3 hN e1 (e ▸ hi))
     simp[this,e]
    ·exact .inr ⟨k,c,e,z.sameBut hs (cne y c e)⟩
  ·obtain⟨w',z⟩:=I.cell y c e
   exact⟨w',z.sameBut hs (cne y c e)⟩
  ·obtain⟨e,n,ne,nf,d⟩:=I.pin p hp
   exact⟨(hs.2 p.1 ne).trans e,n,ne,nf,d⟩
 ·have hfn:X.fn x=true:=by
   rcases hf with z|z
   ·exact z
   ·rw[z] at hk;cases hk
  obtain⟨c,hc⟩:=I.ok.has x (.inl hk)
  obtain⟨w',z⟩:=I.cell x c hc
  refine wpAny_storeName_cell I.ok.kind hk hc z (fun h' hc' hs=>?_)
  obtain⟨oc,hoc,hocd⟩:=id z
  refine h { s with heap:=h' } ⟨I.ok,I.os,I.bare,⟨fun b o e n hb hx=>?_,fun b o e n hb hx=>?_,I.base.free,fun b o e hx=>?_,I.base.tups,I.base.frzs,I.base.tbls⟩,⟨m,hn.sameBut hs (Ne.symm (cne x c hc)),fun j y v' e1 e2 e3=>?_⟩,fun y c' e=>?_,I.free,I.freeC,fun p hp=>?_,tracked ⟨oc,hoc,I.freeC x c hc⟩ hs,by simpa using I.len⟩ ⟨c,hs,.inr hc⟩
  ·exact(hs.2 b (ne_of_lt (lt_of_lt_of_le (Heap.lt_size e) (I.ok.cab x c hfn hc)))).trans (I.base.keep b o e n hb hx)
  ·obtain⟨sl,e1⟩:=I.base.slot b o e n hb hx
   exact⟨sl,(hs.2 b (ne_of_lt (lt_of_lt_of_le (Heap.lt_size e) (I.ok.cab x c hfn hc)))).trans e1⟩
  ·obtain⟨o',e1⟩:=I.base.there b o e hx
   exact⟨o',(hs.2 b (ne_of_lt (lt_of_lt_of_le (Heap.lt_size e) (I.ok.cab x c hfn hc)))).trans e1⟩
  ·by_cases hj:j=i
   ·subst hj
    rw[hi] at e1;cases e1
    rw[getElem?_set_self hiσ] at e2
    cases e2
    exact⟨u,r,.inr ⟨.inl hk,c,hc,hc'⟩⟩
   ·rw[getElem?_set_ne (Ne.symm hj)] at e2
    obtain⟨u',r',q⟩:=hl j y v' e1 e2 e3
    refine⟨u',r',?_⟩
    rcases q with q|⟨k,c',e,z'⟩
    ·exact .inl q
    ·refine .inr ⟨k,c',e,z'.sameBut hs ?_⟩
     rintro rfl
     exact hj (X3 hN e1 (I.ok.inj _ _ _ e hc ▸ hi))
  ·by_cases hcc:c'=c
   ·subst hcc;exact⟨_,hc'⟩
   ·obtain⟨w2,z2⟩:=I.cell y c' e
    exact⟨w2,z2.sameBut hs hcc⟩
  ·obtain⟨e,n,ne,nf,d⟩:=I.pin p hp
   refine⟨(hs.2 p.1 ?_).trans e,n,ne,nf,d⟩
   intro q
   rw[q,hoc] at e
   have q':oc=p.2:=Option.some.inj e
   exact d w' (by rw[← q'];exact hocd)
theorem XG{M:Model}{A:Around}{E:Value→Shared→Prop}{i:Nat}{x:Str}{v:V}{u:Value}{Q:Unit→Shared→Prop}(I:Inv X pins σ H s)(hN:X.N.Nodup)(hi:X.N[i]?=some x)(hx:Loc X.env.scope x)(r:RelV v u)
  (h:∀s',Inv X pins (σ.set i (some v)) H s'→Q () s') (hf:X.fn x=true∨X.env.scope.names.lookup x=some .local:=by first|exact .inl rfl|exact .inr rfl|assumption):wpAny M A (storeName X.env x u) Q E s:=
 Yt I hN hi hx r (fun s' I' _=>h s' I') hf
theorem Inv.call'{s':Shared}{ch:List Addr}(I:Inv X pins σ H s)(ho:s'.os=s.os)(u:Un (frs X.stack) ch H H' s.heap s'.heap)(hok:HOk X.prog X.w H' s'.heap)(hg:AllBare s'.gens)
  (hch:∀b∈ch,(b∈X.ex∨X.s₀.heap.objs.size≤b)∧b≠X.env.locals∧(∀x c,X.env.cells.lookup x=some c→c≠b)∧∀p∈X.pn++pins,p.1≠b):Inv X pins σ H' s':=by
 obtain⟨h',g',d',t',o'⟩:=s'
 have e:o'=s.os:=ho
 subst e
 exact I.call (g':=g') (t':=t') (d':=d') u hok hg hch
end
abbrev XK:=Value→Option Addr→Hp→Prop
abbrev St:=List (Option V)
abbrev VK:=V→Hp→Prop
abbrev TE:=St→Hp→VK→Prop
abbrev TT:=St→Hp→(Bool→Hp→Prop)→Prop
abbrev TA:=St→Hp→(List V→Hp→Prop)→Prop
structure WJ where
 nx:St→Hp→Prop
 rt:VK
 bk:St→Hp→Prop:=fun _ _=>False
 ct:St→Hp→Prop:=fun _ _=>False
abbrev TS:=WJ→St→Hp→Prop
def EP(X:Cx)(pins:List (Addr×Obj))(σ:St)(Q:VK)(u:Value)(s':Shared):Prop:=∃v H',Inv X pins σ H' s'∧RelV v u∧Q v H'
def TP(X:Cx)(pins:List (Addr×Obj))(σ:St)(Q:Bool→Hp→Prop)(b:Bool)(s':Shared):Prop:=∃H',Inv X pins σ H' s'∧Q b H'
def AP(X:Cx)(pins:List (Addr×Obj))(σ:St)(Q:List V→Hp→Prop)(us:List Value)(s':Shared):Prop:=∃vs H',Inv X pins σ H' s'∧Vals vs us∧Q vs H'
def SP(X:Cx)(pins:List (Addr×Obj))(D:WJ)(f:Flow)(s':Shared):Prop:=
 match f with
 |.next=>∃σ' H',Inv X pins σ' H' s'∧D.nx σ' H'
 |.brk=>∃σ' H',Inv X pins σ' H' s'∧D.bk σ' H'
 |.cont=>∃σ' H',Inv X pins σ' H' s'∧D.ct σ' H'
 |.ret u=>∃v σ' H',Inv X pins σ' H' s'∧RelV v u∧D.rt v H'
def PE(X:Cx)(e:Expr)(t:TE):Prop:=
 ∀(pins:List (Addr×Obj)) (s:Shared) (σ:St) (H:Hp) (Q:VK),Inv X pins σ H s→t σ H Q→wpAny (model X.prog X.w) X.A (eval e X.env) (EP X pins σ Q) X.xe s
def PT(X:Cx)(e:Expr)(t:TT):Prop:=
 ∀(pins:List (Addr×Obj)) (s:Shared) (σ:St) (H:Hp) (Q:Bool→Hp→Prop),Inv X pins σ H s→t σ H Q→wpAny (model X.prog X.w) X.A (isTrue e X.env (eval e X.env)) (TP X pins σ Q) X.xe s
def PW(X:Cx)(e:Expr)(t:TT):Prop:=
 ∀(whole:Sem Value) (pins:List (Addr×Obj)) (s:Shared) (σ:St) (H:Hp) (Q:Bool→Hp→Prop),Inv X pins σ H s→t σ H Q→wpAny (model X.prog X.w) X.A (isTrue e X.env whole) (TP X pins σ Q) X.xe s
theorem PW.pt{X:Cx}{e:Expr}{t:TT}(h:PW X e t):PT X e t:=h _
def PA(X:Cx)(es:List Expr)(t:TA):Prop:=
 ∀(pos:Pos) (pins:List (Addr×Obj)) (s:Shared) (σ:St) (H:Hp) (Q:List V→Hp→Prop),Inv X pins σ H s→t σ H Q→wpAny (model X.prog X.w) X.A (spliced (backTo pos (starEach es X.env))) (AP X pins σ Q) X.xe s
def PS(X:Cx)(st:Stmt)(t:TS):Prop:=
 ∀(pins:List (Addr×Obj)) (s:Shared) (σ:St) (H:Hp) (D:WJ),Inv X pins σ H s→t D σ H→wpAny (model X.prog X.w) X.A (exec st X.env) (SP X pins D) X.xe s
def PSs(X:Cx)(st:List Stmt)(t:TS):Prop:=
 ∀(pins:List (Addr×Obj)) (s:Shared) (σ:St) (H:Hp) (D:WJ),Inv X pins σ H s→t D σ H→wpAny (model X.prog X.w) X.A (execs st X.env) (SP X pins D) X.xe s
theorem thn{α:Type}{t:Sem α}{Q Q':α→Shared→Prop}{M:Model}{A:Around}{E:Value→Shared→Prop}{s:Shared}(h:wpAny M A t Q E s)(hQ:∀a s,Q a s→Q' a s):wpAny M A t Q' E s:=wpAny_mono h hQ fun _ _ x=>x
section
variable{X:Cx}
def wY(i:Nat):TE:=fun σ H Q=>∃v,σ[i]?=some (some v)∧Q v H
def tC(v:V):TE:=fun _ H Q=>Q v H
theorem Lm{i:Nat}{x:Str}{pos:Pos}(hN:X.N[i]?=some x)(hv:Vis X.env.scope x)(hd:(x==("__debug__" : Str))=false:=by decide)(hcd:(x==("__classdict__" : Str))=false:=by decide):PE X (.Name x pos) (wY i):=by
 intro pins s σ H Q I h
 obtain⟨v,e,h⟩:=h
 obtain⟨m,hn,hl⟩:=I.loc
 obtain⟨u,r,l⟩:=hl i x v hN e hv
 have fin:EP X pins σ Q u s:=⟨v,H,I,r,h⟩
 rcases l with ⟨hk,hm⟩|⟨hk,c,hc,hcell⟩
 ·exact wpAny_Name (wpAny_loadName_local I.ok.kind hk hn hm fin) hd
 ·rcases hk with hk|hk
  ·exact wpAny_Name (wpAny_loadName_cell I.ok.kind hk hc hcell fin) hd
  ·exact wpAny_Name (wpAny_loadName_free I.ok.kind hk hc hcell fin hcd) hd
theorem Lq{i j pos}:PE X (.Constant (.int i) j pos) (tC (.int i)):=fun _ _ _ H _ I h=>wpAny_Constant_int ⟨.int i,H,I.tok _,⟨_,rfl⟩,h⟩
theorem Tz{b j pos}:PE X (.Constant (.bool b) j pos) (tC (.bl b)):=fun _ _ _ H _ I h=>Constant_bool ⟨.bl b,H,I,rfl,h⟩
theorem Lp{j pos}:PE X (.Constant .none j pos) (tC .non):=fun _ _ _ H _ I h=>Constant_none ⟨.non,H,I,rfl,h⟩
theorem Ln{x j pos}:PE X (.Constant (.str x) j pos) (tC (.str x)):=fun _ _ _ H _ I h=>Calls.Constant_str ⟨.str x,H,I.tok _,⟨_,rfl⟩,h⟩
def Gl(X:Cx)(x:Str):Prop:=X.env.kindOf x=some .globalImplicit
theorem V2{E:Value→Shared→Prop}{pins:List (Addr×Obj)}{s:Shared}{σ:St}{H:Hp}{x:Str}{u:Value}{pos:Pos}{Q:Value→Shared→Prop}(I:Inv X pins σ H s)(hg:Gl X x)(hm:X.mg x=some u)(h:Q u s)
  (hd:(x==("__debug__" : Str))=false:=by decide):wpAny (model X.prog X.w) X.A (eval (.Name x pos) X.env) Q E s:=
 Calls.Name_function_global I.ok.kind hg (Calls.loadGlobal_global (by rw[I.ok.glob];exact I.mod.glob.keeps I.bk) hm h) hd
theorem x9{E:Value→Shared→Prop}{pins:List (Addr×Obj)}{s:Shared}{σ:St}{H:Hp}{x:Str}{u:Value}{pos:Pos}{Q:Value→Shared→Prop}(I:Inv X pins σ H s)(hg:Gl X x)(hm:X.mg x=none)(hv:bootBuiltins x=some u)(h:Q u s)
  (hn:x ≠ "__name__" := by decide) (hd:(x==("__debug__" : Str))=false:=by decide):wpAny (model X.prog X.w) X.A (eval (.Name x pos) X.env) Q E s:=by
 obtain⟨mb,h1,h2⟩:=I.mod.blt
 exact Calls.Name_function_global I.ok.kind hg (Calls.loadGlobal_builtin (by rw[I.ok.glob];exact I.mod.glob.keeps I.bk) hm (by rw[I.ok.blt];exact h1.keeps I.bk) ((h2 x hn).trans hv) h) hd
theorem Mm{x:Str}{v:V}{u:Value}{pos:Pos}(hg:Gl X x)(hm:X.mg x=some u)(r:RelV v u)(hd:(x==("__debug__" : Str))=false:=by decide):PE X (.Name x pos) (tC v):=
 fun _ _ _ H _ I h=>V2 I hg hm ⟨v,H,I,r,h⟩ hd
variable{a b:Expr}{ta tb:TE}{pos:Pos}
def PC(X:Cx)(op:CmpOp)(a b:Expr)(t:TE):Prop:=
 ∀(pins:List (Addr×Obj)) (s:Shared) (σ:St) (H:Hp) (Q:VK),Inv X pins σ H s→t σ H Q →
  wpAny (model X.prog X.w) X.A (eval a X.env) (fun v s₁=>wpAny (model X.prog X.w) X.A (eval b X.env) (fun u s₂=>wpAny (model X.prog X.w) X.A (compareOp op v u) (EP X pins σ Q) X.xe s₂) X.xe s₁) X.xe s
theorem Qq(b:Expr){op:CmpOp}(h:op≠.In)(h2:op≠.NotIn):behindInMarks op b=false:=by
 have e1:(op==CmpOp.In)=false:=by cases op <;> first|rfl|exact absurd rfl h
 have e2:(op==CmpOp.NotIn)=false:=by cases op <;> first|rfl|exact absurd rfl h2
 cases b <;> simp[behindInMarks,e1,e2]
def tB(t:TE):TT:=fun σ H Q=>t σ H fun x H1=>∃c,x=.bl c∧Q c H1
theorem Lf{op:CmpOp}{t:TE}(h:PC X op a b t)(h1:behindInMarks op b=false:=by first|exact Qq _ (by decide) (by decide) | rfl):PT X (.Compare a [op] [b] pos) (tB t):=by
 intro pins s σ H Q I hw
 refine wpAny_isTrue_Compare1 (thn (h pins s σ H _ I hw) fun v s1 h1=>thn h1 fun u s2 h2=>thn h2 fun c s3 ⟨x,H1,I1,r1,q1⟩=>?_) h1
 obtain⟨d,rfl,q⟩:=q1
 cases r1
 exact wpAny_truthy_bool ⟨H1,I1,q⟩
variable{tA tB':TT}{rest:List Expr}
def tAnd(t u:TT):TT:=fun σ H Q=>t σ H fun c H1=>if c=true then u σ H1 Q else Q false H1
def tOr(t u:TT):TT:=fun σ H Q=>t σ H fun c H1=>if c=true then Q true H1 else u σ H1 Q
def tNot(t:TT):TT:=fun σ H Q=>t σ H fun c H1=>Q (!c) H1
theorem Mc(ha:PT X a tA):PW X (.BoolOp .And [a] pos) tA:=by
 intro wh pins s σ H Q I h
 refine isTrue_and (thn (ha pins s σ H Q I h) fun c s1 e=>?_)
 cases c with
 |true=>exact isTrue_and_nil e
 |false=>exact e
theorem Lc(ha:PT X a tA):PW X (.BoolOp .Or [a] pos) tA:=by
 intro wh pins s σ H Q I h
 refine isTrue_or (thn (ha pins s σ H Q I h) fun c s1 e=>?_)
 cases c with
 |false=>exact isTrue_or_nil e
 |true=>exact e
theorem Ld(ha:PT X a tA)(hb:PW X (.BoolOp .And (b::rest) pos) tB'):PW X (.BoolOp .And (a::b::rest) pos) (tAnd tA tB'):=by
 intro wh pins s σ H Q I h
 refine isTrue_and (thn (ha pins s σ H _ I h) fun c s1 ⟨H1,I1,q1⟩=>?_)
 cases c with
 |true=>exact hb wh pins s1 σ H1 Q I1 q1
 |false=>exact⟨H1,I1,q1⟩
theorem pw_or(ha:PT X a tA)(hb:PW X (.BoolOp .Or (b::rest) pos) tB'):PW X (.BoolOp .Or (a::b::rest) pos) (tOr tA tB'):=by
 intro wh pins s σ H Q I h
 refine isTrue_or (thn (ha pins s σ H _ I h) fun c s1 ⟨H1,I1,q1⟩=>?_)
 cases c with
 |true=>exact⟨H1,I1,q1⟩
 |false=>exact hb wh pins s1 σ H1 Q I1 q1
theorem Le(ha:PT X a tA):PT X (.UnaryOp .Not a pos) (tNot tA):=by
 intro pins s σ H Q I h
 exact isTrue_not (ha pins s σ H (fun c H1=>Q (!c) H1) I h)
theorem Lo{op}{t:TE}(h:PE X a t):PE X (.BoolOp op [a] pos) t:=fun pins s σ H Q I hw=>BoolOp_one (h pins s σ H Q I hw)
def tIf(t:TT)(ta tb:TE):TE:=fun σ H Q=>t σ H fun c H1=>if c=true then ta σ H1 Q else tb σ H1 Q
theorem J7{c:Expr}(hc:PT X c tA)(ha:PE X a ta)(hb:PE X b tb):PE X (.IfExp c a b pos) (tIf tA ta tb):=by
 intro pins s σ H Q I h
 refine wpAny_IfExp (thn (hc pins s σ H _ I h) fun d s1 ⟨H1,I1,q1⟩=>?_)
 cases d with
 |true=>exact ha pins s1 σ H1 Q I1 q1
 |false=>exact hb pins s1 σ H1 Q I1 q1
end
def SqL(K:PySem.W.Frag)(H:Hp)(a:Addr)(xs:List V):Prop:=
 Rd H a (.lst xs) ∨
  ∃(o:Obj) (its:Array Value) (n:Nat),K.lookup a=some o∧o.cls=.type "list" ∧ o.dict=none∧o.data=.seq its n∧its.size≤sizeLine∧Vals xs its.toList
def SqT(K:PySem.W.Frag)(H:Hp)(a:Addr)(xs:List V):Prop:=
 Rd H a (.tup xs) ∨
  ∃(o:Obj) (its:Array Value) (n:Nat),K.lookup a=some o∧o.cls=.type "tuple" ∧ o.data=.seq its n∧its.size≤sizeLine∧Vals xs its.toList
def absV:Value→Option V
 |.none=>some .non
 |.bool b=>some (.bl b)
 |.int i _=>some (.int i)
 |.str x _=>some (.str x)
 |.bytes b _=>some (.byt b)
 |.float b _=>some (.flt b)
 |.ref a=>some (.ref a)
 |.type n=>some (.ty n)
 |_=>none
theorem RelV.abs{x:V}{u:Value}(r:RelV x u):absV u=some x:=by
 cases x with
 |non=>cases r;rfl
 |bl _=>cases r;rfl
 |int _=>obtain⟨t,rfl⟩:=r;rfl
 |str _=>obtain⟨t,rfl⟩:=r;rfl
 |byt _=>obtain⟨t,rfl⟩:=r;rfl
 |flt _=>obtain⟨t,rfl⟩:=r;rfl
 |ref _=>cases r;rfl
 |ty _=>cases r;rfl
theorem RelV.inj{x y:V}{u:Value}(r:RelV x u)(q:RelV y u):x=y:=Option.some.inj (r.abs.symm.trans q.abs)
theorem Vals.inj:∀{xs ys:List V} {us:List Value},Vals xs us→Vals ys us→xs=ys
 |_,_,_,.nil,.nil=>rfl
 |_,_,_,.cons r t,.cons r' t'=>by rw[r.inj r',Vals.inj t t']
section
variable{X:Cx}{pins:List (Addr×Obj)}{σ:St}{H:Hp}{s:Shared}{a:Addr}{xs ys:List V}
theorem SqL.of{K:PySem.W.Frag}(h:H a=some (.lst xs)):SqL K H a xs:=.inl (.inl h)
theorem SqT.of{K:PySem.W.Frag}(h:H a=some (.tup xs)):SqT K H a xs:=.inl (.inl h)
theorem Inv.list(I:Inv X pins σ H s)(h:SqL X.K H a xs):∃its:List Value,Vals xs its∧PlainL s.heap a its.toArray∧xs.length≤sizeLine:=by
 rcases h with h|⟨o,its,n,hk,hc,hd,hs,hz,r⟩
 ·obtain⟨z,its,n,r,e⟩:=h.ok I.hok
  exact⟨its,r,⟨_,n,e,rfl,rfl,rfl⟩,z⟩
 ·refine⟨its.toList,r,⟨o,n,I.kIn a o hk,hc,hd,by simpa using hs⟩,?_⟩
  have e:=r.length
  simp only[length_toList] at e
  omega
theorem Inv.tuple(I:Inv X pins σ H s)(h:SqT X.K H a xs):∃its:List Value,Vals xs its∧IsTup s.heap a its.toArray∧xs.length≤sizeLine:=by
 rcases h with h|⟨o,its,n,hk,hc,hs,hz,r⟩
 ·obtain⟨z,its,r,p⟩:=h.ok I.hok
  exact⟨its,r,p,z⟩
 ·refine⟨its.toList,r,⟨o,I.kIn a o hk,hc,n,by simpa using hs⟩,?_⟩
  have e:=r.length
  simp only[length_toList] at e
  omega
theorem Inv.list_inj(I:Inv X pins σ H s)(h:SqL X.K H a xs)(h':SqL X.K H a ys):xs=ys:=by
 obtain⟨its,r,⟨o,n,e,_,_,d⟩,_⟩:=I.list h
 obtain⟨its',r',⟨o',n',e',_,_,d'⟩,_⟩:=I.list h'
 rw[e] at e';cases e'
 rw[d] at d'
 injection d' with d1 _
 have:its=its':=by simpa using congrArg Array.toList d1
 subst this
 exact r.inj r'
theorem Inv.tuple_inj(I:Inv X pins σ H s)(h:SqT X.K H a xs)(h':SqT X.K H a ys):xs=ys:=by
 obtain⟨its,r,⟨o,e,_,n,d⟩,_⟩:=I.tuple h
 obtain⟨its',r',⟨o',e',_,n',d'⟩,_⟩:=I.tuple h'
 rw[e] at e';cases e'
 rw[d] at d'
 injection d' with d1 _
 have:its=its':=by simpa using congrArg Array.toList d1
 subst this
 exact r.inj r'
end
abbrev Cx.wish(X:Cx)(E:Value→Shared→Prop):Cx:={ X with xe:=E }
abbrev Cx.nox(X:Cx):Cx:=X.wish fun _ _=>False
theorem Cx.Ok.wish{X:Cx}(ok:X.Ok)(E:Value→Shared→Prop):(X.wish E).Ok:=
 ⟨ok.mod,ok.kind,ok.glob,ok.blt,ok.above,ok.inj,ok.has,ok.cab,ok.hd,ok.frames,ok.stk,ok.exf,ok.bs,ok.bsz,ok.noex,ok.exfs,ok.funs,ok.frf⟩
theorem Cx.Ok.unwish{X:Cx}{E:Value→Shared→Prop}(ok:(X.wish E).Ok):X.Ok:=
 ⟨ok.mod,ok.kind,ok.glob,ok.blt,ok.above,ok.inj,ok.has,ok.cab,ok.hd,ok.frames,ok.stk,ok.exf,ok.bs,ok.bsz,ok.noex,ok.exfs,ok.funs,ok.frf⟩
section
variable{X:Cx}{pins:List (Addr×Obj)}{σ:St}{H:Hp}{s:Shared}{E:Value→Shared→Prop}
theorem Inv.wish(I:Inv X pins σ H s)(E:Value→Shared→Prop):Inv (X.wish E) pins σ H s:=⟨I.ok.wish E,I.os,I.bare,I.base,I.loc,I.cell,I.free,I.freeC,I.pin,I.hok,I.len⟩
theorem Inv.unwish(I:Inv (X.wish E) pins σ H s):Inv X pins σ H s:=⟨I.ok.unwish,I.os,I.bare,I.base,I.loc,I.cell,I.free,I.freeC,I.pin,I.hok,I.len⟩
theorem SP.unwish{D:WJ}{f:Flow}{s':Shared}(h:SP (X.wish E) pins D f s'):SP X pins D f s':=by
 cases f with
 |next=>obtain⟨σ',H',I,q⟩:=h;exact⟨σ',H',I.unwish,q⟩
 |brk=>obtain⟨σ',H',I,q⟩:=h;exact⟨σ',H',I.unwish,q⟩
 |cont=>obtain⟨σ',H',I,q⟩:=h;exact⟨σ',H',I.unwish,q⟩
 |ret u=>obtain⟨v,σ',H',I,r,q⟩:=h;exact⟨v,σ',H',I.unwish,r,q⟩
theorem PSs.nox{st:List Stmt}{t:TS}(h:PSs X.nox st t):PSs X st t:=fun pins s σ H D I hw=>
 wpAny_mono (h pins s σ H D (I.wish _) hw) (fun _ _ q=>q.unwish) fun _ _ z=>False.elim z
end
section
variable{X:Cx}{st:Stmt}{rest:List Stmt}{t u:TS}{e:Expr}{te:TE}{pos:Pos}
def tNext:TS:=fun D σ H=>D.nx σ H
def tSeq(t u:TS):TS:=fun D σ H=>t { D with nx:=u D } σ H
theorem VH:PSs X [] tNext:=fun _ _ σ H _ I h=>wpAny_execs_nil ⟨σ,H,I,h⟩
theorem uL(h1:PS X st t)(h2:PSs X rest u):PSs X (st::rest) (tSeq t u):=by
 intro pins s σ H D I h
 refine wpAny_execs_cons (thn (h1 pins s σ H { D with nx:=u D } I h) fun f s1 q=>?_)
 cases f with
 |next=>
  obtain⟨σ',H',I',q⟩:=q
  exact h2 pins s1 σ' H' D I' q
 |ret v=>exact q
 |brk=>exact q
 |cont=>exact q
theorem j9(h1:PS X st t):PSs X [st] t:=by
 intro pins s σ H D I h
 refine wpAny_execs_cons (thn (h1 pins s σ H D I h) fun f s1 q=>?_)
 cases f with
 |next=>exact wpAny_execs_nil q
 |ret v=>exact q
 |brk=>exact q
 |cont=>exact q
theorem Inv.quiet{pins:List (Addr×Obj)}{σ:St}{H:Hp}{s:Shared}(I:Inv X pins σ H s):interactive X.env=false:=by simp[interactive,I.ok.kind]
def tDrop(te:TE):TS:=fun D σ H=>te σ H fun _ H1=>D.nx σ H1
theorem VI(he:PE X e te)(hs:swapsWith e none pos.line X.env=pure false:=by rfl):PS X (.Expr e pos) (tDrop te):=by
 intro pins s σ H D I h
 exact wpAny_Expr_any (thn (he pins s σ H _ I h) fun v s1 ⟨x,H1,I1,r1,q1⟩=>⟨σ,H1,I1,q1⟩) I.quiet hs
def tRet(te:TE):TS:=fun D σ H=>te σ H D.rt
theorem W1(he:PE X e te):PS X (.Return (some e) pos) (tRet te):=by
 intro pins s σ H D I h
 exact wpAny_Return_some (thn (he pins s σ H _ I h) fun v s1 ⟨x,H1,I1,r1,q1⟩=>⟨x,σ,H1,I1,r1,q1⟩)
def tIfS(c:TT)(t u:TS):TS:=fun D σ H=>c σ H fun b H1=>if b=true then t D σ H1 else u D σ H1
theorem Tu{c:Expr}{a b:List Stmt}{tc:TT}(hc:PT X c tc)(ha:PSs X a t)(hb:PSs X b u):PS X (.If c a b pos) (tIfS tc t u):=by
 intro pins s σ H D I h
 refine wpAny_If (thn (hc pins s σ H _ I h) fun d s1 ⟨H1,I1,q1⟩=>?_)
 cases d with
 |true=>exact ha pins s1 σ H1 D I1 q1
 |false=>exact hb pins s1 σ H1 D I1 q1
end
abbrev TG:=V→St→Hp→(St→Hp→Prop)→Prop
abbrev TGs:=List V→St→Hp→(St→Hp→Prop)→Prop
def PG(X:Cx)(target:Expr)(t:TG):Prop:=
 ∀(pins:List (Addr×Obj)) (s:Shared) (σ:St) (H:Hp) (v:V) (u:Value) (Q:St→Hp→Prop),Inv X pins σ H s→RelV v u→t v σ H Q →
  wpAny (model X.prog X.w) X.A (assign target X.env u) (fun _ s'=>∃σ' H',Inv X pins σ' H' s'∧Q σ' H') X.xe s
def PGs(X:Cx)(ts:List Expr)(t:TGs):Prop:=
 ∀(pins:List (Addr×Obj)) (s:Shared) (σ:St) (H:Hp) (vs:List V) (us:List Value) (Q:St→Hp→Prop),Inv X pins σ H s→Vals vs us→t vs σ H Q →
  wpAny (model X.prog X.w) X.A (assignInOrder ((assignEach ts X.env).map (·.2)) us) (fun _ s'=>∃σ' H',Inv X pins σ' H' s'∧Q σ' H') X.xe s
abbrev zc0:=V→V→V→Hp→(Hp→Prop)→Prop
def PSet(X:Cx)(t:zc0):Prop:=
 ∀(pins:List (Addr×Obj)) (s:Shared) (σ:St) (H:Hp) (o i v:V) (ov iv u:Value) (Q:Hp→Prop),Inv X pins σ H s→RelV o ov→RelV i iv→RelV v u→t o i v H Q →
  wpAny (model X.prog X.w) X.A (setItem ov iv u) (fun _ s'=>∃H',Inv X pins σ H' s'∧Q H') X.xe s
section
variable{X:Cx}{pos:Pos}
def u6(i:Nat):TG:=fun v σ H Q=>Q (σ.set i (some v)) H
theorem uM{i:Nat}{x:Str}(hN:X.N.Nodup)(hi:X.N[i]?=some x)(hx:Loc X.env.scope x)(hf:X.fn x=true∨X.env.scope.names.lookup x=some .local:=by first|exact .inl rfl|exact .inr rfl|assumption):PG X (.Name x pos) (u6 i):=by
 intro pins s σ H v u Q I r h
 exact wpAny_assign_Name (XG I hN hi hx r (fun s' I'=>⟨_,H,I',h⟩) hf)
def gNil:TGs:=fun vs σ H Q=>vs=[]∧Q σ H
def gCons(t:TG)(u:TGs):TGs:=fun vs σ H Q=>∃v r,vs=v::r∧t v σ H fun σ' H'=>u r σ' H' Q
theorem Ml:PGs X [] gNil:=by
 intro pins s σ H vs us Q I r h
 obtain⟨e,h⟩:=h
 subst e
 cases r
 exact assignInOrder_nil ⟨σ,H,I,h⟩
theorem XT{e:Expr}{es:List Expr}{t:TG}{u:TGs}(h1:PG X e t)(h2:PGs X es u)
  (hs:(assignEach (e::es) X.env).map (·.2)=assign e X.env::(assignEach es X.env).map (·.2):=by rfl):PGs X (e::es) (gCons t u):=by
 intro pins s σ H vs us Q I r h
 obtain⟨v,vr,e1,h⟩:=h
 subst e1
 cases r with
 |cons r rr=>
  rw[hs]
  refine assignInOrder_cons (thn (h1 pins s σ H _ _ _ I r h) fun _ s1 ⟨σ1,H1,I1,q1⟩=>?_)
  exact h2 pins s1 σ1 H1 _ _ Q I1 rr q1
def gTup(K:PySem.W.Frag)(n:Nat)(t:TGs):TG:=fun v σ H Q=>∃a xs,v=.ref a∧SqT K H a xs∧xs.length=n∧t xs σ H Q
theorem Lk{es:List Expr}{k:Nat}{t:TGs}{n:Nat}(hc:X.calm=true)(h:PGs X es t)
  (hn:(assignEach es X.env).length=n:=by rfl) (hst:(assignEach es X.env).findIdx? (·.1)=none:=by rfl):PG X (.Tuple es k pos) (gTup X.K n t):=by
 intro pins s σ H v u Q I r hw
 obtain⟨a,xs,e1,hq,hl,hw⟩:=hw
 subst e1
 cases r
 obtain⟨its,rv,ht,hz⟩:=I.tuple hq
 refine assign_Tuple_tuple (I.ok.hd hc) ht (by simp[hn,← hl,rv.length]) hst fun h' hx=>?_
 have I1:Inv X pins σ H { s with heap:=h' }:=I.kept (t':=s.toks) fun b o e=>hx b o (ne_of_lt (Heap.lt_size e)) e
 exact h pins _ σ H xs _ Q I1 (by simpa using rv) hw
def gSub(to ti:TE)(t:zc0):TG:=fun v σ H Q=>to σ H fun o H1=>ti σ H1 fun i H2=>t o i v H2 fun H3=>Q σ H3
theorem Ll{o i:Expr}{to ti:TE}{t:zc0}(ho:PE X o to)(hi:PE X i ti)(hs:PSet X t)
  (ha:∀v,assign (.Subscript o i pos) X.env v=(do
   let ov ← holding [v] (eval o X.env)
   let iv ← holding [v,ov] (eval i X.env)
   standAt pos
   holding [v,ov,iv] (setItem ov iv v)
   release [v,ov,iv] []):=by intro _;rfl):PG X (.Subscript o i pos) (gSub to ti t):=by
 intro pins s σ H v u Q I r h
 rw[ha]
 refine wpAny_bind (wpAny_holding (thn (ho pins s σ H _ I h) fun ov s1 ⟨x,H1,I1,r1,q1⟩=>?_))
 refine wpAny_bind (wpAny_holding (thn (hi pins s1 σ H1 _ I1 q1) fun iv s2 ⟨y,H2,I2,r2,q2⟩=>?_))
 refine wpAny_bind (wpAny_standAt (wpAny_bind (wpAny_holding (thn (hs pins s2 σ H2 x y v ov iv u _ I2 r1 r2 r q2) fun _ s3 ⟨H3,I3,q3⟩=>?_))))
 exact wpAny_release ⟨σ,H3,I3,q3⟩
def T4(te:TE)(g:TG):TS:=fun D σ H=>te σ H fun x H1=>g x σ H1 D.nx
theorem Lh{tg e:Expr}{te:TE}{g:TG}(he:PE X e te)(hg:PG X tg g)(hs:swapsWithSole [tg] e pos.line X.env=pure false:=by rfl)(hw:swappedStores [tg] e X.env=pure none:=by rfl)
  (h1:(assignEach [tg] X.env).map (·.2)=[assign tg X.env]:=by rfl):PS X (.Assign [tg] e pos) (T4 te g):=by
 intro pins s σ H D I h
 refine wpAny_Assign_stores (thn (he pins s σ H _ I h) fun v s1 ⟨x,H1,I1,r1,q1⟩=>?_) hs hw
 rw[h1]
 exact thn (hg pins s1 σ H1 x v _ I1 r1 q1) fun _ s2 q=>q
theorem W0{i:Nat}{x:Str}{e:Expr}{te:TE}{pos':Pos}(hN:X.N.Nodup)(hi:X.N[i]?=some x)(hx:Loc X.env.scope x)(he:PE X e te)(hs:swapsWith e (some (.Name x pos')) pos.line X.env=pure false:=by rfl)(hf:X.fn x=true∨X.env.scope.names.lookup x=some .local:=by first|exact .inl rfl|exact .inr rfl|assumption) :
  PS X (.Assign [.Name x pos'] e pos) (T4 te (u6 i)):=by
 intro pins s σ H D I h
 refine wpAny_Assign_Name (thn (he pins s σ H _ I h) fun v s1 ⟨y,H1,I1,r1,q1⟩=>?_) hs
 exact XG I1 hN hi hx r1 (fun s2 I2=>⟨_,H1,I2,q1⟩) hf
end
section
variable{X:Cx}{pos:Pos}
end
structure It where
 go:Nat→Hp→Prop
 yld:Nat→Hp→V→Hp→Prop
 stop:Nat→Hp→Prop
def Xw(X:Cx)(pins:List (Addr×Obj))(H:Hp)(b:Addr):Prop:=
 H b=none∧b≠X.env.locals∧b∉X.fs∧(b∈X.ex∨X.s₀.heap.objs.size≤b)∧(∀x c,X.env.cells.lookup x=some c→c≠b)∧∀p∈X.pn++pins,p.1≠b
theorem Inv.fpOk{X:Cx}{pins:List (Addr×Obj)}{σ:St}{H H':Hp}{s:Shared}{b:Addr}(I:Inv X pins σ H s)(hb:s.heap.objs.size≤b)(hn:H' b=none):Xw X pins H' b:=by
 refine⟨hn,ne_of_gt (lt_of_lt_of_le I.lt hb),I.nofs hb,.inr (le_trans I.sz hb),fun x c e z=>?_,fun p hp z=>?_⟩
 ·obtain⟨v,q⟩:=I.cell x c e
  exact absurd (lt_of_lt_of_le q.lt (by rw[z];exact hb)) (lt_irrefl _)
 ·exact absurd (lt_of_lt_of_le (Heap.lt_size (I.pin p hp).1) (by rw[z];exact hb)) (lt_irrefl _)
structure WI(P:Program)(w:World)(K:PySem.W.Frag)(tg:Expr)(J:It)(fp:List Addr)(it:Addr)(tn:Nat→Heap→Prop):Prop where
 mem:it∈fp
 obj:∀i h,tn i h→∀b∈fp,∃o,h.get? b=some o∧∀v,o.data≠.cell v
 keep:∀i h h',tn i h→(∀b∈fp,∀o,h.get? b=some o→h'.get? b=some o)→tn i h'
 item:∀(X:Cx),X.prog=P→X.w=w→X.K=K→X.calm=true→∀(i:Nat) (pins:List (Addr×Obj)) (s:Shared) (σ:St) (H:Hp) (E:Value→Shared→Prop),Inv X pins σ H s→(∀b∈fp,Xw X pins H b)→tn i s.heap→J.go i H →
  wpAny (model P w) X.A (pyNext (.ref it)) (fun r s1=>∃u,r=some u ∧
   wpAny (model P w) X.A (letOwnedTupleGo tg (.ref it) u) (fun _ s2=>∃x H',Inv X pins σ H' s2∧RelV x u∧J.yld i H x H'∧tn (i+1) s2.heap∧∀b∈fp,H' b=none) E s1) E s
 done:∀(X:Cx),X.prog=P→X.w=w→X.K=K→X.calm=true→∀(i:Nat) (pins:List (Addr×Obj)) (s:Shared) (σ:St) (H:Hp) (E:Value→Shared→Prop),Inv X pins σ H s→(∀b∈fp,Xw X pins H b)→tn i s.heap→J.stop i H →
  wpAny (model P w) X.A (pyNext (.ref it)) (fun r s1=>r=none∧Inv X pins σ H s1) E s
 self:∀(A:Around) (i:Nat) (s:Shared) (Q:Value→Shared→Prop) (E:Value→Shared→Prop),tn i s.heap→Q (.ref it) s→wpAny (model P w) A (pyIter (.ref it)) Q E s
abbrev TI:=St→Hp→(It→Hp→Prop)→Prop
def PIE(X:Cx)(pins:List (Addr×Obj))(σ:St)(tg:Expr)(R:It→Hp→Prop)(itv:Value)(s2:Shared):Prop:=
 ∃(it:Addr) (fp:List Addr) (tn:Nat→Heap→Prop) (J:It) (H':Hp),itv=.ref it∧Inv X pins σ H' s2∧WI X.prog X.w X.K tg J fp it tn∧tn 0 s2.heap∧(∀b∈fp,Xw X pins H' b)∧R J H'
def PI(X:Cx)(tg iter:Expr)(wi:TI):Prop:=
 ∀(pins:List (Addr×Obj)) (s:Shared) (σ:St) (H:Hp) (R:It→Hp→Prop),Inv X pins σ H s→wi σ H R →
  wpAny (model X.prog X.w) X.A (eval iter X.env) (fun v s1=>wpAny (model X.prog X.w) X.A (pyIter v) (PIE X pins σ tg R) X.xe s1) X.xe s
theorem Wo{M:Model}{A:Around}{E:Value→Shared→Prop}{s:Shared}{tg:Expr}{it:Addr}{u:Value}{o:Obj}{n:String}{vs:Array Value}{Q:Unit→Shared→Prop}(ho:s.heap.get? it=some o)(hc:o.cls=.type n)(hd:o.data=.fields vs)
  (hn:["enumerate", "zip", "dict_itemiterator", "dict_reverseitemiterator", "odict_iterator", "itertools.zip_longest", "itertools.pairwise"].contains n=false) (hQ:Q () s):wpAny M A (letOwnedTupleGo tg (.ref it) u) Q E s:=by
 unfold letOwnedTupleGo
 cases tg <;> first
  | exact wpAny_pure hQ
  | (cases u <;> first
    | exact wpAny_pure hQ
    | (refine wpAny_bind (wpAny_load ho ?_)
       rw[hc,hd]
       show wpAny M A (if (["enumerate", "zip", "dict_itemiterator", "dict_reverseitemiterator", "odict_iterator", "itertools.zip_longest", "itertools.pairwise"].contains n&&vs[0]?==some (rawInt _))=true then _ else _) Q E s
       rw[if_neg (by intro h;rw[hn,Bool.false_and] at h;cases h)]
       exact wpAny_pure hQ))
def Itl(K:PySem.W.Frag)(a:Addr):It:=
 ⟨fun i H=>∃xs x,SqL K H a xs∧xs[i]?=some x,fun i H x H'=>H'=H∧∀xs,SqL K H a xs→xs[i]?=some x,fun i H=>∃xs,SqL K H a xs∧xs.length≤i⟩
def Itt(K:PySem.W.Frag)(a:Addr):It:=
 ⟨fun i H=>∃xs x,SqT K H a xs∧xs[i]?=some x,fun i H x H'=>H'=H∧∀xs,SqT K H a xs→xs[i]?=some x,fun i H=>∃xs,SqT K H a xs∧xs.length≤i⟩
def Itr(lo:Int)(n:Nat):It:=⟨fun i _=>i<n,fun i H x H'=>H'=H∧x=.int (lo+i),fun i _=>n≤i⟩
theorem Yp{P:Program}{w:World}{K:PySem.W.Frag}{tg:Expr}(a it:Addr):WI P w K tg (Itl K a) [it] it (fun i h=>h.IsListIter it a i) where
 mem:=by simp
 obj:=fun i h st b hb=>by
  have e:b=it:=by simpa using hb
  subst e
  obtain⟨o,e,c,d⟩:=st
  exact⟨o,e,fun v z=>by rw[d] at z;cases z⟩
 keep:=fun i h h' st k=>st.at fun o e=>k it (by simp) o e
 item:=by
  intro X hP hw hK hc i pins s σ H E I hf st hg
  subst hP hw hK
  obtain⟨xs,x,hq,hx⟩:=hg
  obtain⟨its,rv,p,hz⟩:=I.list hq
  obtain⟨u,hu,ru⟩:=rv.get hx
  obtain⟨f0,f1,f2,f3,f4,f5⟩:=hf it (by simp)
  refine wpAny_pyNext_list_item st p.isList (x:=u) (by simpa using hu) fun h' st' sb=>?_
  have I1:Inv X pins σ H { s with heap:=h' }:=I.turned (t':=s.toks) (fun b o hb e=>(sb.2 b hb).trans e) f0 f1 f3 f4 f5
  obtain⟨o,e,c,d⟩:=id st'
  exact⟨u,rfl,Wo (s:={ s with heap:=h' }) e c d (by decide) ⟨x,H,I1,ru,⟨rfl,fun ys hy=>by rw[I.list_inj hy hq];exact hx⟩,st',fun b hb=>(hf b hb).1⟩⟩
 done:=by
  intro X hP hw hK hc i pins s σ H E I hf st hg
  subst hP hw hK
  obtain⟨xs,hq,hx⟩:=hg
  obtain⟨its,rv,p,hz⟩:=I.list hq
  obtain⟨f0,f1,f2,f3,f4,f5⟩:=hf it (by simp)
  have hl:=rv.length
  exact wpAny_pyNext_list_end (I.ok.hd hc) st p.isList (by simp;omega) fun h' eb=>⟨rfl,I.turned (t':=s.toks) (fun b o hb e=>eb b o hb e) f0 f1 f3 f4 f5⟩
 self:=fun _ _ _ _ _ st h=>wpAny_pyIter_listiter st h
theorem WK{P:Program}{w:World}{K:PySem.W.Frag}{tg:Expr}(a it:Addr):WI P w K tg (Itt K a) [it] it (fun i h=>h.IsTupleIter it a i) where
 mem:=by simp
 obj:=fun i h st b hb=>by
  have e:b=it:=by simpa using hb
  subst e
  obtain⟨o,e,c,d⟩:=st
  exact⟨o,e,fun v z=>by rw[d] at z;cases z⟩
 keep:=fun i h h' st k=>st.at fun o e=>k it (by simp) o e
 item:=by
  intro X hP hw hK hc i pins s σ H E I hf st hg
  subst hP hw hK
  obtain⟨xs,x,hq,hx⟩:=hg
  obtain⟨its,rv,p,hz⟩:=I.tuple hq
  obtain⟨u,hu,ru⟩:=rv.get hx
  obtain⟨f0,f1,f2,f3,f4,f5⟩:=hf it (by simp)
  refine wpAny_pyNext_tuple_item st (show s.heap.IsTuple a its.toArray from p) (x:=u) (by simpa using hu) fun h' st' sb=>?_
  have I1:Inv X pins σ H { s with heap:=h' }:=I.turned (t':=s.toks) (fun b o hb e=>(sb.2 b hb).trans e) f0 f1 f3 f4 f5
  obtain⟨o,e,c,d⟩:=id st'
  exact⟨u,rfl,Wo (s:={ s with heap:=h' }) e c d (by decide) ⟨x,H,I1,ru,⟨rfl,fun ys hy=>by rw[I.tuple_inj hy hq];exact hx⟩,st',fun b hb=>(hf b hb).1⟩⟩
 done:=by
  intro X hP hw hK hc i pins s σ H E I hf st hg
  subst hP hw hK
  obtain⟨xs,hq,hx⟩:=hg
  obtain⟨its,rv,p,hz⟩:=I.tuple hq
  obtain⟨f0,f1,f2,f3,f4,f5⟩:=hf it (by simp)
  have hl:=rv.length
  exact wpAny_pyNext_tuple_end (I.ok.hd hc) st (show s.heap.IsTuple a its.toArray from p) (by simp;omega) fun h' eb=>⟨rfl,I.turned (t':=s.toks) (fun b o hb e=>eb b o hb e) f0 f1 f3 f4 f5⟩
 self:=fun _ _ _ _ _ st h=>wpAny_pyIter_tupleiter st h
theorem WL{P:Program}{w:World}{K:PySem.W.Frag}{tg:Expr}(it:Addr)(lo:Int)(n:Nat):WI P w K tg (Itr lo n) [it] it (fun i h=>IsRangeIter h it (lo+(i:Nat)*1) ((n:Int)-(i:Nat)) 1) where
 mem:=by simp
 obj:=fun i h st b hb=>by
  have e:b=it:=by simpa using hb
  subst e
  exact⟨_,st,fun v z=>by
   have z':Data.fields _=Data.cell v:=z
   cases z'⟩
 keep:=fun i h h' st k=>k it (by simp) _ st
 item:=by
  intro X hP hw hK hc i pins s σ H E I hf st hg
  subst hP hw hK
  obtain⟨f0,f1,f2,f3,f4,f5⟩:=hf it (by simp)
  have W:=Walks.range (prog:=X.prog) (w:=X.w) (I.ok.hd hc) it lo 1 n
  refine W.item i s _ _ hg st fun v h' tk hv st' kk=>?_
  obtain⟨t,rfl⟩:=hv
  have I1:Inv X pins σ H { s with heap:=h',toks:=tk }:=I.turned (fun b o hb e=>kk b o (by simpa using hb) e) f0 f1 f3 f4 f5
  refine⟨_,rfl,Wo (s:={ s with heap:=h',toks:=tk }) (n := "range_iterator") st' rfl rfl (by decide) ⟨.int (lo+i),H,I1,⟨t,?_⟩,⟨rfl,rfl⟩,st',fun b hb=>(hf b hb).1⟩⟩
  rw[Int.mul_one]
 done:=by
  intro X hP hw hK hc i pins s σ H E I hf st hg
  subst hP hw hK
  obtain⟨f0,f1,f2,f3,f4,f5⟩:=hf it (by simp)
  exact wpAny_pyNext_range_end (I.ok.hd hc) st (by have:n≤i:=hg;omega) fun h' eb=>⟨rfl,I.turned (t':=s.toks) (fun b o hb e=>eb b o hb e) f0 f1 f3 f4 f5⟩
 self:=fun _ _ _ _ _ st h=>wpAny_pyIter_rangeiter st h
section
variable{X:Cx}{tg:Expr}
def TF(K:PySem.W.Frag)(tl:TE):TI:=fun σ H R=>tl σ H fun x H1=>∃a,x=.ref a∧(∃xs,SqL K H1 a xs)∧R (Itl K a) H1
theorem Mk{l:Expr}{tl:TE}(hl:PE X l tl):PI X tg l (TF X.K tl):=by
 intro pins s σ H R I h
 refine thn (hl pins s σ H _ I h) fun v s1 ⟨x,H1,I1,r1,q1⟩=>?_
 obtain⟨a,e,⟨xs,hq⟩,q⟩:=q1
 subst e
 cases r1
 obtain⟨its,rv,p,hz⟩:=I1.list hq
 refine wpAny_pyIter_list p.isList ?_
 refine⟨s1.heap.objs.size,[s1.heap.objs.size],_,_,H1,rfl,I1.kept (t':=s1.toks) fun b o e=>Heap.get?_push_of_some _ e,Yp a _,⟨_,Heap.get?_push_size _ rfl,rfl,rfl⟩,fun b hb=>?_,q⟩
 have e:b=s1.heap.objs.size:=by simpa using hb
 subst e
 exact I1.fpOk (le_refl _) (I1.hok.fresh (le_refl _))
theorem JW{pins:List (Addr×Obj)}{σ:St}{H:Hp}{s:Shared}{R:It→Hp→Prop}{E:Value→Shared→Prop}{lo hi:Int}{t u v:Tok}{tk:Nat}(I:Inv X pins σ H s)(h1 : -(2 ^ 62)≤lo)(h2:lo<2 ^ 62)(h3 : -(2 ^ 62)≤hi)(h4:hi<2 ^ 62)
  (q:R (Itr lo (hi-lo).toNat) H):wpAny (model X.prog X.w) X.A (pyIter (.ref s.heap.objs.size)) (PIE X pins σ tg R) E { s with heap:=s.heap.push { cls:=.type "range", data:=.fields #[.int lo t,.int hi u,.int 1 v] },toks:=tk }:=by
 refine wpAny_pyIter_range (IsRange.new ..) (small_one h1 h2 h3 h4) ?_
 have I1:Inv X pins σ H { s with heap:=s.heap.push { cls:=.type "range", data:=.fields #[.int lo t,.int hi u,.int 1 v] },toks:=tk }:=I.kept fun b o e=>Heap.get?_push_of_some _ e
 refine⟨(s.heap.push { cls:=.type "range", data:=.fields #[.int lo t,.int hi u,.int 1 v] }).objs.size,[(s.heap.push { cls:=.type "range", data:=.fields #[.int lo t,.int hi u,.int 1 v] }).objs.size],_,_,H,rfl,
  I1.kept (t':=tk) fun b o e=>Heap.get?_push_of_some _ e,WL _ lo (hi-lo).toNat,?_,fun b hb=>?_,q⟩
 ·have e1:lo+((0:Nat):Int)*1=lo:=by simp
  have e2:(((hi-lo).toNat:Nat):Int)-((0:Nat):Int)=Builtin.Range.rangeSize lo hi 1:=by rw[rangeSize_one];split <;> omega
  show IsRangeIter _ _ (lo+((0:Nat):Int)*1) ((((hi-lo).toNat:Nat):Int)-((0:Nat):Int)) 1
  rw[e1,e2]
  exact Heap.get?_push_size _ rfl
 ·have e:b=(s.heap.push { cls:=.type "range", data:=.fields #[.int lo t,.int hi u,.int 1 v] }).objs.size:=by simpa using hb
  subst e
  exact I1.fpOk (le_refl _) (I1.hok.fresh (le_refl _))
def iRng1(ta:TA):TI:=fun σ H R=>ta σ H fun vs H1=>∃j:Int,vs=[.int j]∧-(2 ^ 62)≤j∧j<2 ^ 62∧R (Itr 0 j.toNat) H1
theorem UO{a:Expr}{ta:TA}{p pos:Pos}(hg:Gl X "range")(hm:X.mg "range" = none)(ha:PA X [a] ta)(hs:starEach [a] X.env=[(false,eval a X.env)]:=by rfl):PI X tg (.Call (.Name "range" p) [a] [] pos) (iRng1 ta):=by
 intro pins s σ H R I h
 refine Call_ (x9 I hg hm boot_range (PyProof.Rows.callWith_type1 (thn (ha pos pins s σ H _ I h) fun us s1 ⟨vs,H1,I1,r1,q1⟩=>?_) hs rfl))
 obtain⟨j,e,q1,q2,q⟩:=q1
 subst e
 cases r1 with
 |cons r rr=>
  cases rr
  obtain⟨t,rfl⟩:=r
  exact call_range_1 (JW I1 (by omega) (by omega) q1 q2 (by simpa using q))
def tFor(wi:TI)(g:TG)(tb:TS):TS:=fun D σ H=>wi σ H fun J H1=>∃W:Nat→Nat→St→Hp→Prop,(∃m,W 0 m σ H1)∧∀i m σ H,W i m σ H →
 (J.stop i H∧D.nx σ H)∨(J.go i H∧∃N:St→Hp→Prop,(∀σ' H',N σ' H'→∃m',m'<m∧W (i+1) m' σ' H')∧∀x H',J.yld i H x H'→g x σ H' fun σ2 H2=>tb { D with nx:=N,ct:=N,bk:=D.nx } σ2 H2)
def Zw(fp:List Addr)(h:Heap):List (Addr×Obj):=fp.filterMap fun b=>(h.get? b).map fun o=>(b,o)
theorem vo{fp:List Addr}{h:Heap}{b:Addr}{o:Obj}(hb:b∈fp)(e:h.get? b=some o):(b,o)∈Zw fp h:=List.mem_filterMap.mpr ⟨b,hb,by rw[e];rfl⟩
theorem UZ{fp:List Addr}{h:Heap}{p:Addr×Obj}(hp:p∈Zw fp h):p.1∈fp∧h.get? p.1=some p.2:=by
 obtain⟨b,hb,e⟩:=List.mem_filterMap.mp hp
 cases q:h.get? b with
 |none=>rw[q] at e;cases e
 |some o=>
  rw[q] at e
  have e':(b,o)=p:=Option.some.inj e
  subst e'
  exact⟨hb,q⟩
theorem Inv.pinned{pins:List (Addr×Obj)}{σ:St}{H:Hp}{s:Shared}{fp:List Addr}(I:Inv X pins σ H s)(hf:∀b∈fp,Xw X pins H b)(ho:∀b∈fp,∃o,s.heap.get? b=some o∧∀v,o.data≠.cell v):Inv X (pins++Zw fp s.heap) σ H s:=
 I.pins_of fun p hp=>(mem_append.mp hp).elim (fun z=>I.pin p (mem_append_right _ z)) fun z=>by
  obtain⟨hb,e⟩:=UZ z
  obtain⟨f0,f1,f2,_⟩:=hf p.1 hb
  obtain⟨o,e',d⟩:=ho p.1 hb
  rw[e] at e';cases e'
  exact⟨e,f0,f1,f2,d⟩
theorem Inv.unpinned{pins pl:List (Addr×Obj)}{σ:St}{H:Hp}{s:Shared}(I:Inv X (pins++pl) σ H s):Inv X pins σ H s:=I.pins_of fun p hp=>I.pin p (mem_append_right _ (mem_append_left _ hp))
theorem J1{iter:Expr}{body:List Stmt}{wi:TI}{g:TG}{tb:TS}{pos:Pos}(hp:PassesOwn (model X.prog X.w) X.A X.env X.xe)(hc:X.calm=true)(hi:PI X tg iter wi)(hg:PG X tg g)(hb:PSs X body tb)
  (hs:∀x,foldedSetIterable iter X.env x=pure x:=by intro _;rfl):PS X (.For tg iter body [] pos) (tFor wi g tb):=by
 intro pins s σ H D I h
 refine wpAny_For (thn (hi pins s σ H _ I h) fun v s1 h1=>thn h1 fun itv s2 h2=>?_) hs
 obtain⟨it,fp,tn,J,H2,e,I2,T,st2,f2,W,⟨m0,w0⟩,turn⟩:=h2
 subst e
 have stat:∀{H':Hp},(∀b∈fp,H' b=none)→∀b∈fp,Xw X pins H' b:=fun hn b hb=>⟨hn b hb,(f2 b hb).2⟩
 refine codeAny_forLoop_any (fun n s'=>∃i σ' H',Inv X pins σ' H' s'∧tn i s'.heap∧(∀b∈fp,H' b=none)∧W i n σ' H') ?_ m0 ⟨0,σ,H2,I2,st2,fun b hb=>(f2 b hb).1,w0⟩
 rintro n s3 ⟨i,σ3,H3,I3,st3,fr3,w3⟩
 rcases turn i n σ3 H3 w3 with ⟨stop,qn⟩|⟨go,N,hN,step⟩
 ·refine wpAny_passesOwn hp (thn (T.done X rfl rfl rfl hc i pins s3 σ3 H3 X.xe I3 (stat fr3) st3 stop) fun r s4 ⟨hr,I4⟩=>?_)
  subst hr
  exact wpAny_execs_nil ⟨σ3,H3,I4,qn⟩
 ·refine wpAny_passesOwn hp (thn (T.item X rfl rfl rfl hc i pins s3 σ3 H3 X.xe I3 (stat fr3) st3 go) fun r s4 ⟨u,hr,h4⟩=>?_)
  subst hr
  refine wpAny_passesOwn hp (thn h4 fun _ s5 ⟨x,H5,I5,r5,y5,st5,fr5⟩=>?_)
  have I5':=I5.pinned (stat fr5) (T.obj _ _ st5)
  refine wpAny_passesOwn hp (thn (hg _ s5 σ3 H5 x u _ I5' r5 (step x H5 y5)) fun _ s6 ⟨σ6,H6,I6,q6⟩=>?_)
  refine wpAny_passesOwn hp (thn (hb _ s6 σ6 H6 _ I6 q6) fun f s7 q7=>?_)
  have again:∀{σ7:St} {H7:Hp},Inv X (pins++Zw fp s5.heap) σ7 H7 s7→N σ7 H7→∃m,m<n∧∃i σ' H',Inv X pins σ' H' s7∧tn i s7.heap∧(∀b∈fp,H' b=none)∧W i m σ' H':=fun {σ7 H7} I7 n7=>by
   obtain⟨m',hm,w7⟩:=hN σ7 H7 n7
   refine⟨m',hm,i+1,σ7,H7,I7.unpinned,T.keep _ _ _ st5 fun b hb o e=>(I7.pin (b,o) (mem_append_right _ (mem_append_right _ (vo hb e)))).1,fun b hb=>?_,w7⟩
   obtain⟨o,e,d⟩:=T.obj _ _ st5 b hb
   exact(I7.pin (b,o) (mem_append_right _ (mem_append_right _ (vo hb e)))).2.1
  cases f with
  |next=>obtain⟨σ7,H7,I7,n7⟩:=q7;exact again I7 n7
  |cont=>obtain⟨σ7,H7,I7,n7⟩:=q7;exact again I7 n7
  |brk=>obtain⟨σ7,H7,I7,q7⟩:=q7;exact⟨σ7,H7,I7.unpinned,q7⟩
  |ret v=>obtain⟨x7,σ7,H7,I7,r7,q7⟩:=q7;exact⟨x7,σ7,H7,I7.unpinned,r7,q7⟩
end
abbrev R2:=V→V→Hp→VK→Prop
def OpR(X:Cx)(f:Value→Value→Sem Value)(r:R2):Prop:=
 ∀(pins:List (Addr×Obj)) (s:Shared) (σ:St) (H:Hp) (x y:V) (v u:Value) (Q:VK),Inv X pins σ H s→RelV x v→RelV y u→r x y H Q →
  wpAny (model X.prog X.w) X.A (f v u) (EP X pins σ Q) X.xe s
def UnR(X:Cx)(f:Value→Sem Value)(r:V→Hp→VK→Prop):Prop:=
 ∀(pins:List (Addr×Obj)) (s:Shared) (σ:St) (H:Hp) (x:V) (v:Value) (Q:VK),Inv X pins σ H s→RelV x v→r x H Q →
  wpAny (model X.prog X.w) X.A (f v) (EP X pins σ Q) X.xe s
def CallR(X:Cx)(f:Value)(r:List V→Hp→VK→Prop):Prop:=
 ∀(pins:List (Addr×Obj)) (s:Shared) (σ:St) (H:Hp) (xs:List V) (us:List Value) (Q:VK),Inv X pins σ H s→Vals xs us→r xs H Q →
  wpAny (model X.prog X.w) X.A (call f us) (EP X pins σ Q) X.xe s
def TruR(X:Cx)(r:V→Hp→(Bool→Hp→Prop)→Prop):Prop:=
 ∀(pins:List (Addr×Obj)) (s:Shared) (σ:St) (H:Hp) (x:V) (v:Value) (Q:Bool→Hp→Prop),Inv X pins σ H s→RelV x v→r x H Q →
  wpAny (model X.prog X.w) X.A (truthy v) (TP X pins σ Q) X.xe s
def tOp(r:R2)(ta tb:TE):TE:=fun σ H Q=>ta σ H fun x H1=>tb σ H1 fun y H2=>r x y H2 Q
def tUn(r:V→Hp→VK→Prop)(ta:TE):TE:=fun σ H Q=>ta σ H fun x H1=>r x H1 Q
def rI(C:Int→Int→Prop)(g:Int→Int→V):R2:=fun x y H Q=>∃i j,x=.int i∧y=.int j∧C i j∧Q (g i j) H
def rI0(g:Int→Int→V):R2:=fun x y H Q=>∃i j,x=.int i∧y=.int j∧Q (g i j) H
def rU(g:Int→V):V→Hp→VK→Prop:=fun x H Q=>∃i,x=.int i∧Q (g i) H
section
variable{X:Cx}{a b c:Expr}{ta tb tc:TE}{pos:Pos}
theorem zb5(ha:PE X a ta)(hb:PE X b tb){pins:List (Addr×Obj)}{s:Shared}{σ:St}{H:Hp}{R:V→V→Hp→Prop}(I:Inv X pins σ H s)
  (h:ta σ H fun x H1=>tb σ H1 fun y H2=>R x y H2) {Q:Value→Shared→Prop} {f:Value→Value→Sem Value}
  (hf:∀v u s2 x y H2,Inv X pins σ H2 s2→RelV x v→RelV y u→R x y H2→wpAny (model X.prog X.w) X.A (f v u) Q X.xe s2) :
  wpAny (model X.prog X.w) X.A (eval a X.env) (fun v s₁=>wpAny (model X.prog X.w) X.A (eval b X.env) (fun u s₂=>wpAny (model X.prog X.w) X.A (f v u) Q X.xe s₂) X.xe s₁) X.xe s:=by
 refine thn (ha pins s σ H _ I h) fun v s1 ⟨x,H1,I1,r1,q1⟩=>?_
 refine thn (hb pins s1 σ H1 _ I1 q1) fun u s2 ⟨y,H2,I2,r2,q2⟩=>?_
 exact hf v u s2 x y H2 I2 r1 r2 q2
theorem pe_op{op:Operator}{r:R2}(ho:OpR X (binaryOp op) r)(ha:PE X a ta)(hb:PE X b tb):PE X (.BinOp a op b pos) (tOp r ta tb):=by
 intro pins s σ H Q I h
 exact wpAny_BinOp (zb5 ha hb I h fun v u s2 x y H2 I2 rx ry q=>ho pins s2 σ H2 x y v u Q I2 rx ry q)
theorem pe_un{op:UnaryOp}{r:V→Hp→VK→Prop}(ho:UnR X (unaryOp op) r)(ha:PE X a ta):PE X (.UnaryOp op a pos) (tUn r ta):=by
 intro pins s σ H Q I h
 exact UnaryOp_ (thn (ha pins s σ H _ I h) fun v s1 ⟨x,H1,I1,r1,q1⟩=>ho pins s1 σ H1 x v Q I1 r1 q1)
theorem opI{f:Value→Value→Sem Value}{C:Int→Int→Prop}{g:Int→Int→Int}
  (rule:∀(i j:Int) (t u:Tok) (s:Shared) (Q:Value→Shared→Prop) (E:Value→Shared→Prop),C i j→Q (.int (g i j) s.toks) { s with toks:=s.toks+1 }→wpAny (model X.prog X.w) X.A (f (.int i t) (.int j u)) Q E s) :
  OpR X f (rI C fun i j=>.int (g i j)):=by
 intro pins s σ H x y v u Q I rx ry h
 obtain⟨i,j,rfl,rfl,hc,q⟩:=h
 obtain⟨t,rfl⟩:=rx
 obtain⟨t',rfl⟩:=ry
 exact rule i j t t' s _ _ hc ⟨.int (g i j),H,I.tok _,⟨_,rfl⟩,q⟩
theorem opI0{f:Value→Value→Sem Value}{g:Int→Int→Int}
  (rule:∀(i j:Int) (t u:Tok) (s:Shared) (Q:Value→Shared→Prop) (E:Value→Shared→Prop),Q (.int (g i j) s.toks) { s with toks:=s.toks+1 }→wpAny (model X.prog X.w) X.A (f (.int i t) (.int j u)) Q E s) :
  OpR X f (rI0 fun i j=>.int (g i j)):=by
 intro pins s σ H x y v u Q I rx ry h
 obtain⟨i,j,rfl,rfl,q⟩:=h
 obtain⟨t,rfl⟩:=rx
 obtain⟨t',rfl⟩:=ry
 exact rule i j t t' s _ _ ⟨.int (g i j),H,I.tok _,⟨_,rfl⟩,q⟩
theorem LF{f:Value→Value→Sem Value}{g:Int→Int→Bool}
  (rule:∀(i j:Int) (t u:Tok) (s:Shared) (Q:Value→Shared→Prop) (E:Value→Shared→Prop),Q (.bool (g i j)) s→wpAny (model X.prog X.w) X.A (f (.int i t) (.int j u)) Q E s) :
  OpR X f (rI0 fun i j=>.bl (g i j)):=by
 intro pins s σ H x y v u Q I rx ry h
 obtain⟨i,j,rfl,rfl,q⟩:=h
 obtain⟨t,rfl⟩:=rx
 obtain⟨t',rfl⟩:=ry
 exact rule i j t t' s _ _ ⟨.bl (g i j),H,I,rfl,q⟩
def CDiv(i j:Int):Prop:=0<j∧j<1073741824
def CMul(i j:Int):Prop:=(-(2 ^ 64)<i∧i<2 ^ 64)∨(-(2 ^ 64)<j∧j<2 ^ 64)
theorem CMul.ok{i j:Int}(h:CMul i j):IntMulOk i j:=by
 rcases h with ⟨h1,h2⟩|⟨h1,h2⟩
 ·exact .of_left (intBits_le_64 h1 h2)
 ·exact .of_right (intBits_le_64 h1 h2)
theorem op_add:OpR X (binaryOp .Add) (rI0 fun i j=>.int (i+j)):=opI0 fun _ _ _ _ _ _ _ q=>add_int q
theorem Lz:OpR X (binaryOp .Sub) (rI0 fun i j=>.int (i-j)):=opI0 fun _ _ _ _ _ _ _ q=>sub_int q
theorem op_mul:OpR X (binaryOp .Mult) (rI CMul fun i j=>.int (i*j)):=opI fun _ _ _ _ _ _ _ hc q=>mul_int q hc.ok
theorem Mv:OpR X (binaryOp .FloorDiv) (rI CDiv fun i j=>.int (i / j)):=opI fun i j _ _ _ _ _ hc q=>by
 have h1:(0:Int)<j:=hc.1
 have h2:j<1073741824:=hc.2
 exact floordiv_int (by omega) (by rw[Int.fdiv_eq_ediv_of_nonneg i (by omega)];exact q) (.inl (PyProof.noPylong_small (by omega)))
theorem LB:OpR X (binaryOp .Mod) (rI (fun _ j=>0<j) fun i j=>.int (i%j)):=opI fun i j _ _ _ _ _ hc q=>by
 have h1:(0:Int)<j:=hc
 exact mod_int' (by omega) (by rw[Int.fmod_eq_emod_of_nonneg i (by omega)];exact q)
theorem unI{f:Value→Sem Value}{g:Int→Int}
  (rule:∀(i:Int) (t:Tok) (s:Shared) (Q:Value→Shared→Prop) (E:Value→Shared→Prop),Q (.int (g i) s.toks) { s with toks:=s.toks+1 }→wpAny (model X.prog X.w) X.A (f (.int i t)) Q E s) :
  UnR X f (rU fun i=>.int (g i)):=by
 intro pins s σ H x v Q I rx h
 obtain⟨i,rfl,q⟩:=h
 obtain⟨t,rfl⟩:=rx
 exact rule i t s _ _ ⟨.int (g i),H,I.tok _,⟨_,rfl⟩,q⟩
theorem TZ:UnR X (unaryOp .USub) (rU fun i=>.int (-i)):=unI fun _ _ _ _ _ q=>neg_int q
end
def scal:V→V→Bool
 |.non,.non=>true | .non,.int _=>true | .int _,.non=>true | .non,.bl _=>true | .bl _,.non=>true | .non,.str _=>true | .str _,.non=>true
 |.int _,.int _=>true | .bl _,.bl _=>true | .str _,.str _=>true | .byt _,.byt _=>true
 |.int _,.str _=>true | .str _,.int _=>true | .bl _,.str _=>true | .str _,.bl _=>true
 |_,_=>false
def rEq:R2:=fun x y H Q=>scal x y=true∧Q (.bl (decide (x=y))) H
def rNe:R2:=fun x y H Q=>scal x y=true∧Q (.bl (!decide (x=y))) H
theorem Zj{i j:Int}:decide (V.int i=V.int j)=(i==j):=by
 rw[Bool.eq_iff_iff]
 simp
theorem Gk{i j:Bool}:decide (V.bl i=V.bl j)=(i==j):=by
 rw[Bool.eq_iff_iff]
 simp
theorem Zi{i j:Str}:decide (V.str i=V.str j)=(i==j):=by
 rw[Bool.eq_iff_iff]
 simp
theorem Ul{i j:Array UInt8}:decide (V.byt i=V.byt j)=(i.toList==j.toList):=by
 rw[Bool.eq_iff_iff]
 cases i
 cases j
 simp
section
variable{X:Cx}{a b c:Expr}{ta tb tc:TE}{pos:Pos}
theorem ya{pins:List (Addr×Obj)}{σ:St}{H:Hp}{s:Shared}{Q:VK}{k k':Bool}(I:Inv X pins σ H s)(q:Q (.bl k) H)(e:k=k'):EP X pins σ Q (.bool k') s:=by
 subst e
 exact⟨.bl k,H,I,rfl,q⟩
theorem op_eq:OpR X (compareOp .Eq) rEq:=by
 intro pins s σ H x y v u Q I rx ry h
 obtain⟨hs,q⟩:=h
 cases x with
 |non=>
  cases rx
  cases y with
  |non=>cases ry;exact PySem.EqNone.eq_none_none (ya I q (by simp))
  |bl j=>cases ry;exact PySem.EqNone.eq_none_bool (ya I q (by simp))
  |int j=>obtain⟨t',rfl⟩:=ry;exact PySem.EqNone.eq_none_int (ya I q (by simp))
  |str j=>obtain⟨t',rfl⟩:=ry;exact PySem.EqNone.eq_none_str (ya I q (by simp))
  |_=>exact absurd (show false=true from hs) Bool.false_ne_true
 |bl i=>
  cases rx
  cases y with
  |non=>cases ry;exact PySem.EqNone.eq_bool_none (ya I q (by simp))
  |bl j=>cases ry;exact eq_bool (ya I q Gk)
  |str j=>obtain⟨t',rfl⟩:=ry;exact PySem.EqMixed.eq_bool_str (ya I q (by simp))
  |_=>exact absurd (show false=true from hs) Bool.false_ne_true
 |int i=>
  obtain⟨t,rfl⟩:=rx
  cases y with
  |non=>cases ry;exact PySem.EqNone.eq_int_none (ya I q (by simp))
  |int j=>obtain⟨t',rfl⟩:=ry;exact eq_int (ya I q Zj)
  |str j=>obtain⟨t',rfl⟩:=ry;exact PySem.EqMixed.eq_int_str (ya I q (by simp))
  |_=>exact absurd (show false=true from hs) Bool.false_ne_true
 |str i=>
  obtain⟨t,rfl⟩:=rx
  cases y with
  |non=>cases ry;exact PySem.EqNone.eq_str_none (ya I q (by simp))
  |bl j=>cases ry;exact PySem.EqMixed.eq_str_bool (ya I q (by simp))
  |int j=>obtain⟨t',rfl⟩:=ry;exact PySem.EqMixed.eq_str_int (ya I q (by simp))
  |str j=>obtain⟨t',rfl⟩:=ry;exact eq_str (ya I q Zi)
  |_=>exact absurd (show false=true from hs) Bool.false_ne_true
 |byt i=>
  obtain⟨t,rfl⟩:=rx
  cases y with
  |byt j=>obtain⟨t',rfl⟩:=ry;exact PySem.W.eq_bytes (ya I q Ul)
  |_=>exact absurd (show false=true from hs) Bool.false_ne_true
 |_=>cases y <;> exact absurd (show false=true from hs) Bool.false_ne_true
theorem op_ne:OpR X (compareOp .NotEq) rNe:=by
 intro pins s σ H x y v u Q I rx ry h
 obtain⟨hs,q⟩:=h
 cases x with
 |non=>
  cases rx
  cases y with
  |non=>cases ry;exact PySem.EqNone.ne_none_none (ya I q (by simp))
  |bl j=>cases ry;exact PySem.EqNone.ne_none_bool (ya I q (by simp))
  |int j=>obtain⟨t',rfl⟩:=ry;exact PySem.EqNone.ne_none_int (ya I q (by simp))
  |str j=>obtain⟨t',rfl⟩:=ry;exact PySem.EqNone.ne_none_str (ya I q (by simp))
  |_=>exact absurd (show false=true from hs) Bool.false_ne_true
 |bl i=>
  cases rx
  cases y with
  |non=>cases ry;exact PySem.EqNone.ne_bool_none (ya I q (by simp))
  |bl j=>cases ry;exact ne_bool (ya I q (congrArg not Gk))
  |str j=>obtain⟨t',rfl⟩:=ry;exact PySem.EqMixed.ne_bool_str (ya I q (by simp))
  |_=>exact absurd (show false=true from hs) Bool.false_ne_true
 |int i=>
  obtain⟨t,rfl⟩:=rx
  cases y with
  |non=>cases ry;exact PySem.EqNone.ne_int_none (ya I q (by simp))
  |int j=>obtain⟨t',rfl⟩:=ry;exact ne_int (ya I q (congrArg not Zj))
  |str j=>obtain⟨t',rfl⟩:=ry;exact PySem.EqMixed.ne_int_str (ya I q (by simp))
  |_=>exact absurd (show false=true from hs) Bool.false_ne_true
 |str i=>
  obtain⟨t,rfl⟩:=rx
  cases y with
  |non=>cases ry;exact PySem.EqNone.ne_str_none (ya I q (by simp))
  |bl j=>cases ry;exact PySem.EqMixed.ne_str_bool (ya I q (by simp))
  |int j=>obtain⟨t',rfl⟩:=ry;exact PySem.EqMixed.ne_str_int (ya I q (by simp))
  |str j=>obtain⟨t',rfl⟩:=ry;exact ne_str (ya I q (congrArg not Zi))
  |_=>exact absurd (show false=true from hs) Bool.false_ne_true
 |byt i=>
  obtain⟨t,rfl⟩:=rx
  cases y with
  |byt j=>obtain⟨t',rfl⟩:=ry;exact PySem.W.ne_bytes (ya I q (congrArg not Ul))
  |_=>exact absurd (show false=true from hs) Bool.false_ne_true
 |_=>cases y <;> exact absurd (show false=true from hs) Bool.false_ne_true
theorem op_lt:OpR X (compareOp .Lt) (rI0 fun i j=>.bl (decide (i<j))):=LF fun _ _ _ _ _ _ _ q=>lt_int q
theorem op_gt:OpR X (compareOp .Gt) (rI0 fun i j=>.bl (decide (j<i))):=LF fun _ _ _ _ _ _ _ q=>gt_int q
theorem op_ge:OpR X (compareOp .GtE) (rI0 fun i j=>.bl (decide (j≤i))):=LF fun _ _ _ _ _ _ _ q=>ge_int q
theorem op_in_str:OpR X (compareOp .In) (fun x y H Q=>∃i j,x=.str i∧y=.str j∧Q (.bl (!(Builtin.Str.occurrences j i 0 j.length 1).isEmpty)) H):=by
 intro pins s σ H x y v u Q I rx ry h
 obtain⟨i,j,rfl,rfl,q⟩:=h
 obtain⟨t,rfl⟩:=rx
 obtain⟨t',rfl⟩:=ry
 exact in_str (ya I q rfl)
theorem LC:OpR X (compareOp .Is) (fun x y H Q=>y=.non∧Q (.bl (decide (x=.non))) H):=by
 intro pins s σ H x y v u Q I rx ry h
 obtain⟨rfl,q⟩:=h
 cases ry
 refine is_none_gen (ya I q ?_)
 cases x <;> first
  | (cases rx;rfl)
  | (obtain⟨t,rfl⟩:=rx;rfl)
theorem Mu:OpR X (compareOp .IsNot) (fun x y H Q=>y=.non∧Q (.bl (!decide (x=.non))) H):=by
 intro pins s σ H x y v u Q I rx ry h
 obtain⟨rfl,q⟩:=h
 cases ry
 refine isnot_none_gen (ya I q ?_)
 cases x <;> first
  | (cases rx;rfl)
  | (obtain⟨t,rfl⟩:=rx;rfl)
theorem OpR.or{f:Value→Value→Sem Value}{r r':R2}(h:OpR X f r)(h':OpR X f r'):OpR X f (fun x y H Q=>r x y H Q∨r' x y H Q):=by
 intro pins s σ H x y v u Q I rx ry q
 rcases q with q|q
 ·exact h pins s σ H x y v u Q I rx ry q
 ·exact h' pins s σ H x y v u Q I rx ry q
theorem yJ(b:Expr){op:CmpOp}(h:op≠.In:=by decide)(h2:op≠.NotIn:=by decide):behindInMarks op b=false:=by
 have e1:(op==CmpOp.In)=false:=by cases op <;> first|rfl|exact absurd rfl h
 have e2:(op==CmpOp.NotIn)=false:=by cases op <;> first|rfl|exact absurd rfl h2
 cases b <;> simp[behindInMarks,e1,e2]
theorem Mn{op:CmpOp}{r:R2}(ho:OpR X (compareOp op) r)(ha:PE X a ta)(hb:PE X b tb)(hm:behindInMarks op b=false):PE X (.Compare a [op] [b] pos) (tOp r ta tb):=by
 intro pins s σ H Q I h
 exact wpAny_Compare1 (zb5 ha hb I h fun v u s2 x y H2 I2 rx ry q=>ho pins s2 σ H2 x y v u Q I2 rx ry q) hm
def Tp(t:TE):TT:=fun σ H Q=>t σ H fun x H'=>∃k,x=.bl k∧Q k H'
theorem Mg{op:CmpOp}{r:R2}(ho:OpR X (compareOp op) r)(ha:PE X a ta)(hb:PE X b tb)(hm:behindInMarks op b=false):PT X (.Compare a [op] [b] pos) (Tp (tOp r ta tb)):=by
 intro pins s σ H Q I h
 refine wpAny_isTrue_Compare1 (thn (ha pins s σ H _ I h) fun v s1 ⟨x,H1,I1,r1,q1⟩=>thn (hb pins s1 σ H1 _ I1 q1) fun u s2 ⟨y,H2,I2,r2,q2⟩=>
  thn (ho pins s2 σ H2 x y v u _ I2 r1 r2 q2) fun c s3 ⟨z,H3,I3,r3,k,e,q3⟩=>?_) hm
 subst e
 cases r3
 exact wpAny_truthy_bool ⟨H3,I3,q3⟩
def zb9(K:PySem.W.Frag)(x:V)(H:Hp)(k:Bool):Prop:=
 match x with
 |.non=>k=false
 |.bl b=>k=b
 |.int i=>k=(i != 0)
 |.str y=>y.length≤sizeLine∧k=((y.length:Int) != 0)
 |.byt y=>y.size≤sizeLine∧k=((y.size:Int) != 0)
 |.ref p=>(∃xs,SqL K H p xs∧k = !xs.isEmpty)∨(∃xs,SqT K H p xs∧k = !xs.isEmpty)∨∃kvs,H p=some (.dK kvs)∧k = !kvs.isEmpty
 |_=>False
theorem Vb{κ:Type}{kvs:List (κ×V)}{vs:List (κ×Value)}(r:KV kvs vs):(!vs.isEmpty) = !kvs.isEmpty:=by
 cases r <;> rfl
theorem ZO{xs:List V}{its:List Value}(r:Vals xs its):(!its.toArray.isEmpty) = !xs.isEmpty:=by
 cases r <;> simp
theorem ux:(sizeLine:Nat)<2 ^ 63:=by rw[sizeLine_eq];decide
theorem tru_ok:TruR X (fun x H Q=>∃k,zb9 X.K x H k∧Q k H):=by
 intro pins s σ H x v Q I rx h
 obtain⟨k,e,q⟩:=h
 have hl:=ux
 have hs:sizeLine=16777216:=sizeLine_eq
 cases x with
 |non=>
  cases rx
  have e':k=false:=e
  subst e'
  exact truthy_none ⟨H,I,q⟩
 |bl b=>
  cases rx
  have e':k=b:=e
  subst e'
  exact wpAny_truthy_bool ⟨H,I,q⟩
 |int i=>
  obtain⟨t,rfl⟩:=rx
  have e':k=(i != 0):=e
  subst e'
  exact PySem.P.truthy_int ⟨H,I,q⟩
 |str y=>
  obtain⟨t,rfl⟩:=rx
  obtain⟨hy,e'⟩:y.length≤sizeLine∧k=((y.length:Int) != 0):=e
  subst e'
  exact PySem.P.truthy_str (by omega) ⟨H,I.tok _,q⟩
 |byt y=>
  obtain⟨t,rfl⟩:=rx
  obtain⟨hy,e'⟩:y.size≤sizeLine∧k=((y.size:Int) != 0):=e
  subst e'
  exact PySem.W.truthy_bytes (by omega) ⟨H,I.tok _,q⟩
 |ref p=>
  cases rx
  have e':(∃xs,SqL X.K H p xs∧k = !xs.isEmpty)∨(∃xs,SqT X.K H p xs∧k = !xs.isEmpty)∨∃kvs,H p=some (.dK kvs)∧k = !kvs.isEmpty:=e
  rcases e' with ⟨xs,hx,e'⟩|⟨xs,hx,e'⟩|⟨kvs,hx,e'⟩
  ·subst e'
   obtain⟨its,r,pl,hz⟩:=I.list hx
   have hlen:=r.length
   exact wpAny_truthy_list pl.isList (by simp only[size_toArray];omega) ⟨H,I.tok _,by rw[ZO r];exact q⟩
  ·subst e'
   obtain⟨its,r,pl,hz⟩:=I.tuple hx
   have hlen:=r.length
   exact truthy_tuple pl (by simp only[size_toArray];omega) ⟨H,I.tok _,by rw[ZO r];exact q⟩
  ·subst e'
   obtain⟨hz,hS,vs,r,m⟩:kvs.length≤sizeLine∧(p==sysModules)=false∧∃vs,KV kvs vs∧s.heap.DictOf (yC X.prog X.w) p vs:=I.hok p _ hx
   have hlen:kvs.length=vs.length:=Paired.length r
   exact wpAny_truthy_dict hS m (by omega) ⟨H,I.tok _,by rw[Vb r];exact q⟩
 |_=>exact(show False from e).elim
theorem J0(ha:PE X a ta)(he:∀whole,isTrue a X.env whole=(do let v ← whole;standAt a.pos;holding [v] (truthy v))) :
  PT X a (fun σ H Q=>ta σ H fun x H'=>∃k,zb9 X.K x H' k∧Q k H'):=by
 intro pins s σ H Q I h
 exact isTrue_plain (thn (ha pins s σ H _ I h) fun v s1 ⟨x,H1,I1,r1,q1⟩=>tru_ok pins s1 σ H1 x v Q I1 r1 q1) (he _)
theorem op_add_str:OpR X (binaryOp .Add) (fun x y H Q=>∃i j,x=.str i∧y=.str j∧i.length+j.length≤sizeLine∧Q (.str (i++j)) H):=by
 intro pins s σ H x y v u Q I rx ry h
 obtain⟨i,j,rfl,rfl,hz,q⟩:=h
 obtain⟨t,rfl⟩:=rx
 obtain⟨t',rfl⟩:=ry
 exact add_str (fun t' tk=>⟨.str (i++j),H,I.tok _,⟨_,rfl⟩,q⟩) hz
theorem vals1{x:V}{us:List Value}(r:Vals [x] us):∃u,us=[u]∧RelV x u:=by
 cases r with
 |cons r1 r2=>cases r2;exact⟨_,rfl,r1⟩
theorem vals2{x y:V}{us:List Value}(r:Vals [x,y] us):∃u w',us=[u,w']∧RelV x u∧RelV y w':=by
 cases r with
 |cons r1 r2=>
  cases r2 with
  |cons r3 r4=>cases r4;exact⟨_,_,rfl,r1,r3⟩
theorem Jt(hc:X.calm=true):CallR X (.builtin "max") (fun xs H Q=>∃i j,xs=[.int i,.int j]∧Q (.int (if j > i then j else i)) H):=by
 intro pins s σ H xs us Q I r h
 obtain⟨i,j,rfl,q⟩:=h
 obtain⟨u,w',rfl,⟨t,rfl⟩,⟨t',rfl⟩⟩:=vals2 r
 refine max_two_ints (I.ok.hd hc) fun h' tk k=>⟨_,H,I.kept k,?_,q⟩
 by_cases hj:j > i
 ·rw[if_pos hj,if_pos hj];exact⟨_,rfl⟩
 ·rw[if_neg hj,if_neg hj];exact⟨_,rfl⟩
theorem Js(hc:X.calm=true):CallR X (.builtin "min") (fun xs H Q=>∃i j,xs=[.int i,.int j]∧Q (.int (if j<i then j else i)) H):=by
 intro pins s σ H xs us Q I r h
 obtain⟨i,j,rfl,q⟩:=h
 obtain⟨u,w',rfl,⟨t,rfl⟩,⟨t',rfl⟩⟩:=vals2 r
 refine min_two_ints (I.ok.hd hc) fun h' tk k=>⟨_,H,I.kept k,?_,q⟩
 by_cases hj:j<i
 ·rw[if_pos hj,if_pos hj];exact⟨_,rfl⟩
 ·rw[if_neg hj,if_neg hj];exact⟨_,rfl⟩
end
section
variable{prog:Program}{w:World}{A:Around}{E:Value→Shared→Prop}{s:Shared}{K:PySem.W.Frag}{x dx C f:Addr}{mA:Str→Option Value}{name:Str}{v:Value}
end
theorem RelO.some_of{v:V}{o:Option Value}(r:RelO (some v) o):∃u,o=some u∧RelV v u:=by
 cases o with
 |none=>exact(show False from r).elim
 |some u=>exact⟨u,rfl,r⟩
section
variable{P:Program}{w:World}{H H':Hp}{h h':Heap}{a C dx:Addr}{fs fs':List (Str×V)}
end
section
variable{X:Cx}{pins:List (Addr×Obj)}{σ:St}{H:Hp}{s:Shared}{a C dx:Addr}{fs:List (Str×V)}{f:Str}{v:V}{A:Around}{E:Value→Shared→Prop}
end
section
variable{X:Cx}{o e value:Expr}{f:Str}{pos pos' tpos:Pos}{ta tv:TE}
end
section
variable{X:Cx}{pins:List (Addr×Obj)}{σ:St}{H:Hp}{s:Shared}{A:Around}{E:Value→Shared→Prop}{Q:Value→Shared→Prop}{c:Value}{b:Bool}
end
structure Room(k:Nat)(A:Around):Prop where
 hd:A.handled=none
 dp:A.depth+3*k+5<recursionLimit
 un:A.units+16*k+200<cLine
theorem Room.mono{j k:Nat}{A:Around}(r:Room k A)(h:j≤k):Room j A:=⟨r.hd,by have:=r.dp;omega,by have:=r.un;omega⟩
theorem Room.deeper{k:Nat}{A:Around}(r:Room (k+1) A)(env:Env):Room k (A.deeper env):=
 ⟨r.hd,by have:=r.dp;show A.depth+1+3*k+5<_;omega,by have:=r.un;show A.units+3+16*k+200<_;omega⟩
theorem Room.in1{k:Nat}{A:Around}(r:Room (k+1) A):Room k A.in1:=
 ⟨r.hd,by have:=r.dp;show A.depth+3*k+5<_;omega,by have:=r.un;show A.units+1+16*k+200<_;omega⟩
theorem Room.depth{k:Nat}{A:Around}(r:Room k A):A.depth<recursionLimit:=by have:=r.dp;omega
theorem Room.units{k:Nat}{A:Around}(r:Room k A):A.units+64<cLine:=by have:=r.un;omega
def tNil:TA:=fun _ H Q=>Q [] H
def JG(ta:TE)(tr:TA):TA:=fun σ H Q=>ta σ H fun x H1=>tr σ H1 fun xs H2=>Q (x::xs) H2
section
variable{X:Cx}{e:Expr}{es:List Expr}{te:TE}{t:TA}{pos:Pos}
theorem jl:PA X [] tNil:=fun _ _ _ _ H Q I h=>Calls.spliced_nil ⟨[],H,I,.nil,h⟩
theorem vZ(ha:PE X e te)(hr:PA X es t)(hs:starEach (e::es) X.env=(false,eval e X.env)::starEach es X.env:=by rfl):PA X (e::es) (JG te t):=by
 intro pos pins s σ H Q I h
 rw[hs]
 show wpAny _ _ (spliced ((false,eval e X.env)::backTo pos (starEach es X.env))) _ _ s
 refine Calls.spliced_cons (thn (ha pins s σ H _ I h) fun u s1 ⟨x,H1,I1,r1,q1⟩=>?_)
 exact thn (hr pos pins s1 σ H1 _ I1 q1) fun us s2 ⟨xs,H2,I2,r2,q2⟩=>⟨x::xs,H2,I2,.cons r1 r2,q2⟩
def tTup(t:TA):TE:=fun σ H Q=>t σ H fun xs H1=>xs.length≤sizeLine∧∀p,H1 p=none→Q (.ref p) (upd H1 p (.tup xs))
def tLst(t:TA):TE:=fun σ H Q=>t σ H fun xs H1=>xs.length≤sizeLine∧∀p,H1 p=none→Q (.ref p) (upd H1 p (.lst xs))
theorem J4{x1}(h:PA X es t):PE X (.Tuple es x1 pos) (tTup t):=by
 intro pins s σ H Q I hq
 refine wpAny_Tuple_spliced (thn (h pos pins s σ H _ I hq) fun us s1 ⟨xs,H1,I1,r,z,q⟩=>⟨by rw[← r.length];exact z,?_⟩)
 have hf:H1 s1.heap.objs.size=none:=I1.hok.fresh (le_refl _)
 refine⟨.ref s1.heap.objs.size,upd H1 s1.heap.objs.size (.tup xs),I1.laid (t':=s1.toks) (fun b u e=>Heap.get?_push_of_some _ e) (le_refl _) ?_,rfl,q _ hf⟩
 exact⟨z,us,r,⟨_,Heap.get?_push_size _ rfl,rfl,_,rfl⟩⟩
theorem W2(h:PA X es t):PE X (.List es pos) (tLst t):=by
 intro pins s σ H Q I hq
 refine wpAny_List_spliced (thn (h pos pins s σ H _ I hq) fun us s1 ⟨xs,H1,I1,r,z,q⟩=>⟨by rw[← r.length];exact z,?_⟩)
 have hf:H1 s1.heap.objs.size=none:=I1.hok.fresh (le_refl _)
 refine⟨.ref s1.heap.objs.size,upd H1 s1.heap.objs.size (.lst xs),I1.laid (t':=s1.toks) (fun b u e=>Heap.get?_push_of_some _ e) (le_refl _) ?_,rfl,q _ hf⟩
 exact⟨z,us,0,r,Heap.get?_push_size _ rfl⟩
end
abbrev Sp:=List V→Hp→VK→XK→Prop
abbrev CXT:=List Env→Hp→Shared→XK→Value→Shared→Prop
structure GH(P:Program)(w:World)(K:PySem.W.Frag)(mg:Str→Option Value)(base:Heap)(A:Around)(outer:List Env)(s:Shared)(H:Hp):Prop where
 frames:A.frames=some outer
 mod:Mod K mg base
 bs:∀b o,base.get? b=some o→s.heap.get? b=some o∧H b=none
 bsz:base.objs.size≤s.heap.objs.size
 funs:s.heap.FunFrames base outer
 frf:∀b∈frs outer,H b=none
 hok:HOk P w H s.heap
 bare:AllBare s.gens
def CE(outer:List Env)(P:Program)(w:World)(H:Hp)(s:Shared)(Q:VK)(u:Value)(s':Shared):Prop:=
 ∃v H',s'.os=s.os∧AllBare s'.gens∧Un (frs outer) [] H H' s.heap s'.heap∧HOk P w H' s'.heap∧RelV v u∧Q v H'
def CR(CX:CXT)(outer:List Env)(P:Program)(w:World)(H:Hp)(s:Shared)(Q:VK)(E:XK)(r:Result)(s':Shared):Prop:=
 match r with
 | .ok (.ret u)=>CE outer P w H s Q u s'
 |.ok _=>False
 |.error e=>CX outer H s E e s'
structure FnOk(P:Program)(w:World)(K:PySem.W.Frag)(mg:Str→Option Value)(base:Heap)(CX:CXT)(k:Nat)(f:Addr)(fd:FuncData)(ps:List Str)(sp:Sp):Prop where
 len:∀vs H Q E,sp vs H Q E→vs.length=ps.length
 run:∀(A:Around) (outer:List Env) (s:Shared) (H:Hp) (args:Args) (us:List Value) (vs:List V) (Q:VK) (E:XK),Room k A→GH P w K mg base A outer s H→BindsTo s fd args (ps.zip us)→Vals vs us→sp vs H Q E →
  codeAny (model P w) A (.call (.ref f) args) (CR CX outer P w H s Q E) s
theorem FnOk.imp{P:Program}{w:World}{K:PySem.W.Frag}{mg:Str→Option Value}{base:Heap}{CX:CXT}{k:Nat}{f:Addr}{fd:FuncData}{ps:List Str}{sp sp':Sp}(F:FnOk P w K mg base CX k f fd ps sp)
  (h:∀vs H Q E,sp' vs H Q E→sp vs H Q E):FnOk P w K mg base CX k f fd ps sp':=
 ⟨fun vs H Q E q=>F.len vs H Q E (h _ _ _ _ q),fun A outer s H args us vs Q E hr he hb hv hs=>F.run A outer s H args us vs Q E hr he hb hv (h _ _ _ _ hs)⟩
section
variable{X:Cx}{pins:List (Addr×Obj)}{σ:St}{H:Hp}{s s':Shared}
theorem Inv.env0(I:Inv X pins σ H s):GH X.prog X.w X.K X.mg X.base X.A X.stack s H:=
 ⟨I.ok.frames,I.ok.mod,I.bs,le_trans I.ok.bsz I.sz,I.stack,I.stkFree,I.hok,I.bare⟩
theorem Inv.after{Q:VK}{u:Value}(I:Inv X pins σ H s)(h:CE X.stack X.prog X.w H s Q u s'):EP X pins σ Q u s':=by
 obtain⟨v,H',os,bare,un,hok,r,q⟩:=h
 obtain⟨hh,g,d,t,os'⟩:=s'
 obtain rfl:os'=s.os:=os
 exact⟨v,H',I.call (h':=hh) (g':=g) (d':=d) (t':=t) (ch:=[]) un hok bare (fun b z=>absurd z (by simp)),r,q⟩
end
def tCall(sp:Sp)(dvs:List V)(E:XK)(t:TA):TE:=fun σ H Q=>t σ H fun vs H1=>sp (vs++dvs) H1 Q E
def Binds(K:PySem.W.Frag)(fd:FuncData)(ps:List Str)(ds:List Value):Prop:=
 ∀(s:Shared) (us:List Value),K.In s.heap→(us++ds).length=ps.length→BindsTo s fd ⟨us,[]⟩ (ps.zip (us++ds))
theorem Binds.all{K:PySem.W.Frag}{fd:FuncData}{ps:List Str}(h:∀us:List Value,us.length=ps.length→bindArgs fd ⟨us,[]⟩=pure (ps.zip us)):Binds K fd ps []:=fun s us _ hl=>by
 rw[append_nil] at hl ⊢
 exact .of_eq (h us hl)
def Vt(CX:CXT)(X:Cx)(E:XK):Prop:=∀(pins:List (Addr×Obj)) (σ:St) (H:Hp) (s:Shared) (e:Value) (s':Shared),Inv X pins σ H s→CX X.stack H s E e s'→X.xe e s'
section
variable{X:Cx}{CX:CXT}{k:Nat}{f C:Addr}{fd:FuncData}{ps:List Str}{sp:Sp}{dvs:List V}{ds:List Value}{E:XK}{x m:Str}{p pos apos:Pos}{e o:Expr}{es:List Expr}{ta:TE}{t:TA}
theorem T8{pins:List (Addr×Obj)}{σ:St}{H:Hp}{s:Shared}{Q:VK}{us:List Value}{vs:List V}(F:FnOk X.prog X.w X.K X.mg X.base CX k f fd ps sp)(hr:Room k X.A)(hb:Binds X.K fd ps ds)(hd:Vals dvs ds)(hx:Vt CX X E)
  (I:Inv X pins σ H s) (r:Vals vs us) (h:sp (vs++dvs) H Q E):wpAny (model X.prog X.w) X.A (call (.ref f) us) (EP X pins σ Q) X.xe s:=by
 have r2:Vals (vs++dvs) (us++ds):=r.append hd
 have hl:(us++ds).length=ps.length:=by rw[← r2.length];exact F.len _ _ _ _ h
 refine wpAny_call (codeAny_mono (F.run X.A X.stack s H ⟨us,[]⟩ (us++ds) (vs++dvs) Q E hr I.env0 (hb s us I.kIn hl) r2 h) fun r s' hq=>?_)
 cases r with
 |error e=>exact hx pins σ H s e s' I hq
 |ok fl=>
  cases fl with
  |ret u=>exact I.after hq
  |next=>exact False.elim hq
  |brk=>exact False.elim hq
  |cont=>exact False.elim hq
theorem Mo(F:FnOk X.prog X.w X.K X.mg X.base CX k f fd ps sp)(hr:Room k X.A)(hg:Gl X x)(hm:X.mg x=some (.ref f))(hk:keepIn X.K (.ref f)=true)(hb:Binds X.K fd ps ds)(hd:Vals dvs ds)(hx:Vt CX X E)
  (ha:PA X (e::es) t) (hdb:(x==("__debug__" : Str))=false:=by decide) (he:starEach (e::es) X.env=(false,eval e X.env)::starEach es X.env:=by rfl) (hpl:(backTo pos (starEach es X.env)).any (·.1)=false:=by rfl) :
  PE X (.Call (.Name x p) (e::es) [] pos) (tCall sp dvs E t):=by
 intro pins s σ H Q I h
 refine wpAny_Call_Name_kw (V2 I hg hm ?_ hdb)
 refine PySem.W.callWith_K (h₀:=X.base) I.ok.mod.kin hk (thn (ha pos pins s σ H _ I h) fun us s1 ⟨vs,H1,I1,r,q⟩=>⟨I1.kIn,?_⟩) he hpl
 exact T8 F hr hb hd hx I1 r q
end
section
variable{X:Cx}{CX:CXT}{k:Nat}{f C:Addr}{fd:FuncData}{ps ks:List Str}{sp:Sp}{E:XK}{x m:Str}{p pos apos kpos:Pos}{e o:Expr}{es:List Expr}{kws:List Keyword}{te ta:TE}{t tk:TA}{nm:Option Str}
variable{g:List Value→List Value→List Value}{gV:List V→List V→List V}
end
structure zS(N P:List Str)(sc:Scope):Prop where
 kind:sc.kind=.function
 co:sc.isCoroutine=false
 gen:sc.isGenerator=false
 nd:N.Nodup
 pre:N.take P.length=P
 par:∀x∈P,sc.names.lookup x=some .local∨sc.names.lookup x=some .cell
 nofree:∀y∈sc.names,y.2≠.free
theorem YU{kindOf:Str→Option NameKind}{x:Str}:∀{binds:List (Str×Value)} {m:Str→Option Value},(∀v,(x,v)∉binds)→bindL kindOf binds m x=m x
 |[],_,_=>rfl
 | (n,v)::r,m,h=>by
  unfold bindL
  rw[YU fun w hw=>h w (mem_cons_of_mem _ hw)]
  split
  ·have:x≠n:=by rintro rfl;exact h v mem_cons_self
   simp[this]
  ·rfl
theorem YW{kindOf:Str→Option NameKind}{x:Str}:∀{binds:List (Str×Value)} {m:Str→Option Value},(∀v,(x,v)∉binds)→bindC kindOf binds m x=m x
 |[],_,_=>rfl
 | (n,v)::r,m,h=>by
  unfold bindC
  rw[YW fun w hw=>h w (mem_cons_of_mem _ hw)]
  split
  ·rfl
  ·have:x≠n:=by rintro rfl;exact h v mem_cons_self
   simp[this]
theorem YV{kindOf:Str→Option NameKind}{x:Str}{v:Value}:∀{P:List Str} {vs:List Value} {i:Nat} {m:Str→Option Value},P.Nodup→P[i]?=some x→vs[i]?=some v→kindOf x=some .local →
  bindL kindOf (P.zip vs) m x=some v
 |[],_,_,_,_,h,_,_=>by simp at h
 |_::_,[],_,_,_,_,h,_=>by simp at h
 |p::P,w::vs,0,m,nd,h1,h2,hk=>by
  simp at h1 h2;subst h1;subst h2
  show bindL kindOf ((p,w)::P.zip vs) m p=_
  unfold bindL
  rw[YU fun v hv=>(nodup_cons.mp nd).1 (List.of_mem_zip hv).1,if_pos hk]
  simp
 |p::P,w::vs,i+1,m,nd,h1,h2,hk=>by
  show bindL kindOf ((p,w)::P.zip vs) m x=_
  unfold bindL
  exact YV (i:=i) (nodup_cons.mp nd).2 (by simpa using h1) (by simpa using h2) hk
theorem YX{kindOf:Str→Option NameKind}{x:Str}{v:Value}:∀{P:List Str} {vs:List Value} {i:Nat} {m:Str→Option Value},P.Nodup→P[i]?=some x→vs[i]?=some v→kindOf x≠some .local →
  bindC kindOf (P.zip vs) m x=some v
 |[],_,_,_,_,h,_,_=>by simp at h
 |_::_,[],_,_,_,_,h,_=>by simp at h
 |p::P,w::vs,0,m,nd,h1,h2,hk=>by
  simp at h1 h2;subst h1;subst h2
  show bindC kindOf ((p,w)::P.zip vs) m p=_
  unfold bindC
  rw[YW fun v hv=>(nodup_cons.mp nd).1 (List.of_mem_zip hv).1,if_neg hk]
  simp
 |p::P,w::vs,i+1,m,nd,h1,h2,hk=>by
  show bindC kindOf ((p,w)::P.zip vs) m x=_
  unfold bindC
  exact YX (i:=i) (nodup_cons.mp nd).2 (by simpa using h1) (by simpa using h2) hk
def start(N:List Str)(vs:List V):St:=vs.map some++List.replicate (N.length-vs.length) none
def Xp(CX:CXT)(P:Program)(w:World)(K:PySem.W.Frag)(mg:Str→Option Value)(base:Heap)(N:List Str)(qual:Str)(scope:Scope)(f:Addr)(cd:Value)(A:Around)(outer:List Env)(s:Shared)(H:Hp)(E:XK):Cx where
 prog:=P
 w:=w
 K:=K
 mg:=mg
 base:=base
 A:=A.deeper (envOfC qual scope s.heap.objs.size f cd)
 N:=N
 s₀:=s
 H₀:=H
 env:=envOfC qual scope s.heap.objs.size f cd
 outer:=outer
 stack:=envOfC qual scope s.heap.objs.size f cd::outer
 ex:=[]
 calm:=true
 fn:=fun _=>true
 pn:=[]
 xe:=fun e s'=>wpAny (model P w) (A.deeper (envOfC qual scope s.heap.objs.size f cd)) (leaving (envOfC qual scope s.heap.objs.size f cd) e) (fun _ s''=>CX outer H s E e s'') (fun e' s''=>CX outer H s E e' s'') s'
theorem WA{sc:Scope}{n:Nat}{x:Str}(h:sc.names.lookup x=some .cell):∃c,(cellsFrom n sc.names []).lookup x=some c:=by
 have q:=PySem.W.cellsFrom_some sc.names n [] (.inl h)
 exact Option.isSome_iff_exists.mp q
theorem Ja{CX:CXT}{P:Program}{w:World}{K:PySem.W.Frag}{mg:Str→Option Value}{base:Heap}{N ps:List Str}{qual:Str}{scope:Scope}{f:Addr}{cd:Value}{A:Around}{outer:List Env}{s s1:Shared}{H:Hp}{E:XK}{us:List Value}{vs:List V}
  (S:zS N ps scope) (hd:A.handled=none) (e0:GH P w K mg base A outer s H) (hl:vs.length=ps.length) (r:Vals vs us)
  (x:InCallC s s.heap.objs.size (bindL (envOfC qual scope s.heap.objs.size f cd).kindOf (ps.zip us) fun _=>none) (cellsFrom (s.heap.objs.size+1) scope.names []) (bindC (envOfC qual scope s.heap.objs.size f cd).kindOf (ps.zip us) fun _=>none) s1) :
  Inv (Xp CX P w K mg base N qual scope f cd A outer s H E) [] (start N vs) H s1:=by
 have hpl:ps.length≤N.length:=by have:=congrArg List.length S.pre;rw[length_take] at this;omega
 obtain⟨h1,tk,rfl,hk⟩:=x.done
 have noA:∀b:Addr,b∉(Xp CX P w K mg base N qual scope f cd A outer s H E).ex:=fun b z=>absurd (show b∈([]:List Addr) from z) (by simp)
 refine⟨⟨e0.mod,S.kind,rfl,rfl,le_refl _,fun y z c h1 h2=>?_,fun y hy=>?_,fun y c _ h=>?_,fun _=>hd,Around.frames_deeper e0.frames,.inr ⟨rfl,rfl⟩,fun b z=>absurd z (noA b),e0.bs,e0.bsz,fun b _ _=>noA b,fun b z=>absurd z (noA b),e0.funs,e0.frf⟩,
  rfl,e0.bare,Un.kept hk,⟨_,x.toInCall.ns,fun i y v h1 h2 h3=>?_⟩,fun y c h=>⟨_,x.cell y c h⟩,e0.hok.fresh (le_refl _),fun y c h=>?_,fun p hp=>absurd (show p∈([]:List (Addr×Obj)) from hp) (by simp),e0.hok.kept hk,?_⟩
 ·exact name_of_addr x.apart (PySem.mem_of_lookup h1) (PySem.mem_of_lookup h2)
 ·have hy:scope.names.lookup y=some .cell∨scope.names.lookup y=some .free:=hy
  rcases hy with hy|hy
  ·exact WA hy
  ·exact absurd rfl (S.nofree _ (PySem.mem_of_lookup hy))
 ·exact le_of_lt (x.above y c (PySem.mem_of_lookup h))
 ·have hi:i<vs.length:=by
   unfold start at h2
   by_cases hi:i<vs.length
   ·exact hi
   ·rw[getElem?_append_right (by simpa using hi)] at h2
    rw[getElem?_replicate] at h2
    split at h2 <;> cases h2
  have ha:vs[i]?=some v:=by
   unfold start at h2
   rw[getElem?_append_left (by simpa using hi),getElem?_map] at h2
   cases e:vs[i]? with
   |none=>rw[e] at h2;cases h2
   |some a=>rw[e] at h2;cases h2;rfl
  obtain⟨u,hu,rv⟩:=r.get ha
  have hp:ps[i]?=some y:=by
   rw[← S.pre,List.getElem?_take_of_lt (by omega)];exact h1
  have ndP:ps.Nodup:=by rw[← S.pre];exact S.nd.sublist (List.take_sublist _ _)
  refine⟨u,rv,?_⟩
  rcases S.par y (mem_of_getElem? hp) with k|k
  ·exact .inl ⟨k,YV ndP hp hu k⟩
  ·obtain⟨c,e⟩:=WA (n:=s.heap.objs.size+1) k
   refine .inr ⟨.inl k,c,e,?_⟩
   have q:=x.cell y c e
   rw[YX ndP hp hu (by show scope.names.lookup y≠_;rw[k];decide)] at q
   exact q
 ·exact e0.hok.fresh (le_of_lt (x.above y c (PySem.mem_of_lookup h)))
 ·unfold start
  show _=N.length
  rw[length_append,length_map,List.length_replicate]
  omega
theorem TQ{CX:CXT}{P:Program}{w:World}{K:PySem.W.Frag}{mg:Str→Option Value}{base:Heap}{k:Nat}{f:Addr}{name qual:Str}{params:Arguments}{body:List Stmt}{scope:Scope}{dV kV doc pm cdv ct oc:Value}{an od:Option Addr}
  {osl:Array (Option Value)} {N ps:List Str} {sp:Sp} (lk:K.lookup f=some ⟨oc,od,.func (fnOf name qual params body scope dV kV doc pm an cdv ct),osl⟩) (hcd:codeIn K cdv qual=true) (S:zS N ps scope)
  (len:∀vs H Q E,sp vs H Q E→vs.length=ps.length)
  (hbody:∀(A:Around) (outer:List Env) (s:Shared) (H:Hp) (vs:List V) (Q:VK) (E:XK),Room k (A.deeper (envOfC qual scope s.heap.objs.size f cdv))→sp vs H Q E →
   ∃t,PSs (Xp CX P w K mg base N qual scope f cdv A outer s H E) body t∧t { nx:=fun _ H'=>Q .non H',rt:=Q } (start N vs) H) :
  FnOk P w K mg base CX (k+1) f (fnOf name qual params body scope dV kV doc pm an cdv ct) ps sp:=by
 refine⟨len,fun A outer s H args us vs Q E hr e0 hb r hsp=>?_⟩
 have hl:=len _ _ _ _ hsp
 have KX:K.In s.heap:=e0.mod.kin.keeps fun b o e=>(e0.bs b o e).1
 have lim:s.heap.NoLimit:=e0.mod.nolimit.keeps fun b o e=>(e0.bs b o e).1
 have hkind:∀y∈ps.zip us,scope.names.lookup y.1=some .local∨(scope.names.lookup y.1=some .cell∧((cellsFrom (s.heap.objs.size+1) scope.names []).lookup y.1).isSome=true):=fun ⟨n,v⟩ hy=>by
  rcases S.par n (List.of_mem_zip hy).1 with q|q
  ·exact .inl q
  ·exact .inr ⟨q,PySem.W.cellsFrom_some _ _ _ (.inl q)⟩
 refine codeAny_call_function hr.depth (KX _ _ lk) rfl S.co S.gen rfl (PySem.W.codeRec_of KX hcd) (hb _ _ _ _ ?_)
 refine wpAny_newFunctionEnv_cells S.kind hkind fun env he s1 x=>?_
 subst he
 refine⟨lim.keeps x.toInCall.keep,codeAny_func ?_⟩
 obtain⟨t,ht,hq⟩:=hbody A outer s H vs Q E (hr.deeper _) hsp
 have I:Inv (Xp CX P w K mg base N qual scope f cdv A outer s H E) [] (start N vs) H s1:=Ja S hr.hd e0 hl r x
 refine wpAny_mono (ht [] s1 (start N vs) H _ I hq) (fun fl s' hs=>?_) fun e s' hs=>hs
 have fin:∀{σ':St} {H':Hp} {v:V} {u:Value},Inv (Xp CX P w K mg base N qual scope f cdv A outer s H E) [] σ' H' s'→RelV v u→Q v H'→CE outer P w H s Q u s':=
  fun {σ' H' v u} J rv q=>⟨v,H',J.os,J.bare,J.base,J.hok,rv,q⟩
 cases fl with
 |ret u=>
  obtain⟨v,σ',H',J,rv,q⟩:=hs
  exact fin J rv q
 |next=>
  obtain⟨σ',H',J,q⟩:=hs
  exact fin (v:=V.non) (u:=Value.none) J rfl q
 |brk=>
  obtain⟨_,_,_,q⟩:=hs
  exact False.elim q
 |cont=>
  obtain⟨_,_,_,q⟩:=hs
  exact False.elim q
section
variable{X:Cx}{x:Str}{p pos:Pos}{e:Expr}{es:List Expr}{t:TA}{id T:String}{r:List V→Hp→VK→Prop}
def tCB(r:List V→Hp→VK→Prop)(t:TA):TE:=fun σ H Q=>t σ H fun vs H1=>r vs H1 Q
theorem pe_callB(hc:CallR X (.builtin id) r)(hg:Gl X x)(hm:X.mg x=none)(hv:bootBuiltins x=some (.builtin id))(ha:PA X (e::es) t)(hn:x ≠ "__name__" := by decide)(hdb:(x==("__debug__" : Str))=false:=by decide)
  (he:starEach (e::es) X.env=(false,eval e X.env)::starEach es X.env:=by rfl) (hpl:(backTo pos (starEach es X.env)).any (·.1)=false:=by rfl):PE X (.Call (.Name x p) (e::es) [] pos) (tCB r t):=by
 intro pins s σ H Q I h
 refine wpAny_Call_Name_kw (x9 I hg hm hv ?_ hn hdb)
 exact PyProof.Rows.callWith_builtin1 (thn (ha pos pins s σ H _ I h) fun us s1 ⟨vs,H1,I1,r1,q1⟩=>hc pins s1 σ H1 vs us Q I1 r1 q1) he hpl
theorem pe_callTy(hc:CallR X (.type T) r)(hg:Gl X x)(hm:X.mg x=none)(hv:bootBuiltins x=some (.type T))(ha:PA X (e::es) t)(hn:x ≠ "__name__" := by decide)(hdb:(x==("__debug__" : Str))=false:=by decide)
  (he:starEach (e::es) X.env=(false,eval e X.env)::starEach es X.env:=by rfl) (hpl:(backTo pos (starEach es X.env)).any (·.1)=false:=by rfl):PE X (.Call (.Name x p) (e::es) [] pos) (tCB r t):=by
 intro pins s σ H Q I h
 refine wpAny_Call_Name_kw (x9 I hg hm hv ?_ hn hdb)
 exact PyProof.Rows.callWith_type1 (thn (ha pos pins s σ H _ I h) fun us s1 ⟨vs,H1,I1,r1,q1⟩=>hc pins s1 σ H1 vs us Q I1 r1 q1) he hpl
end
end L2
namespace HT
open PySem PyProof.Rows
section
open PySem.SeqAt
open PySem.AutoSeq1 (wpAny_loadPart')
open PySem.MeetsSeq PySem.MeetsSeq2 PySem.MeetsSeq3
end
section
variable{prog:Program}{w:World}{A:Around}{E:Value→Shared→Prop}{s:Shared}
def sIx(n d:Nat):Option Int→Nat
 |none=>d
 |some v=>if v<0 then (v+(n:Int)).toNat else min v.toNat n
end
end HT
namespace L2
open PySem PySem.Spec PyProof.Rows
abbrev TO:=St→Hp→(Option Int→Hp→Prop)→Prop
def PO(X:Cx)(e:Option Expr)(t:TO):Prop:=
 ∀(pins:List (Addr×Obj)) (s:Shared) (σ:St) (H:Hp) (Q:Option Int→Hp→Prop),Inv X pins σ H s→t σ H Q →
  wpAny (model X.prog X.w) X.A (evalPart e X.env) (fun u s'=>∃o H',Inv X pins σ H' s'∧IsPart u o∧Q o H') X.xe s
def GP:TO:=fun _ H Q=>Q none H
def tPart(t:TE):TO:=fun σ H Q=>t σ H fun x H1=>∃i,x=.int i∧Q (some i) H1
section
variable{X:Cx}{e:Expr}{te:TE}{lo hi:Option Expr}{tl th:TO}{pos p2:Pos}
theorem Mj:PO X none GP:=by
 intro pins s σ H Q I h
 rw[evalPart_none]
 exact wpAny_pure ⟨none,H,I,.none,h⟩
theorem Mi(h:PE X e te):PO X (some e) (tPart te):=by
 intro pins s σ H Q I hw
 rw[evalPart_some]
 refine thn (h pins s σ H _ I hw) fun u s1 ⟨x,H1,I1,r1,q1⟩=>?_
 obtain⟨i,rfl,q⟩:=q1
 obtain⟨t,rfl⟩:=r1
 exact⟨some i,H1,I1,.int i t,q⟩
def SlR(X:Cx)(r:V→Option Int→Option Int→Hp→VK→Prop):Prop:=
 ∀(pins:List (Addr×Obj)) (s:Shared) (σ:St) (H:Hp) (x:V) (v vl vu:Value) (lo hi:Option Int) (sl:Addr) (Q:VK),Inv X pins σ H s→RelV x v→s.heap.IsSliceOf sl vl vu .none→IsPart vl lo→IsPart vu hi→r x lo hi H Q →
  ∃T id,typeLookup (.type T) "__getitem__" = pure (some (.builtin id))∧s.TypeIs v T∧wpAny (model X.prog X.w) X.A (getItem v (.ref sl)) (EP X pins σ Q) X.xe s
theorem SlR.or{r r':V→Option Int→Option Int→Hp→VK→Prop}(h:SlR X r)(h':SlR X r'):SlR X (fun x lo hi H Q=>r x lo hi H Q∨r' x lo hi H Q):=by
 intro pins s σ H x v vl vu lo hi sl Q I rx hs pl pu q
 rcases q with q|q
 ·exact h pins s σ H x v vl vu lo hi sl Q I rx hs pl pu q
 ·exact h' pins s σ H x v vl vu lo hi sl Q I rx hs pl pu q
def tSl(r:V→Option Int→Option Int→Hp→VK→Prop)(te:TE)(tl th:TO):TE:=fun σ H Q=>te σ H fun x H1=>tl σ H1 fun l H2=>th σ H2 fun u H3=>r x l u H3 Q
theorem J6{r:V→Option Int→Option Int→Hp→VK→Prop}(hr:SlR X r)(he:PE X e te)(hl:PO X lo tl)(hu:PO X hi th):PE X (.Subscript e (.Slice lo hi none p2) pos) (tSl r te tl th):=by
 intro pins s σ H Q I h
 refine Subscript_ (thn (he pins s σ H _ I h) fun v s1 ⟨x,H1,I1,r1,q1⟩=>?_)
 refine wpAny_Slice (thn (hl pins s1 σ H1 _ I1 q1) fun vl s2 ⟨l,H2,I2,pl,q2⟩=>thn (hu pins s2 σ H2 _ I2 q2) fun vu s3 ⟨u,H3,I3,pu,q3⟩=>?_)
 rw[evalPart_none]
 refine wpAny_pure ?_
 have I4:Inv X pins σ H3 { s3 with heap:=s3.heap.push { cls:=.type "slice", data:=.fields #[vl,vu,.none] } }:=I3.kept (t':=s3.toks) fun b ob q=>Heap.get?_push_of_some _ q
 obtain⟨T,id,hT,ht,hg⟩:=hr pins { s3 with heap:=s3.heap.push { cls:=.type "slice", data:=.fields #[vl,vu,.none] } } σ H3 x v vl vu l u s3.heap.objs.size Q I4 r1 (Heap.IsSliceOf.new ..) pl pu q3
 show wpAny (model X.prog X.w) X.A (subscriptTail e (.Slice lo hi none p2) v (.ref s3.heap.objs.size)) (EP X pins σ Q) X.xe { s3 with heap:=s3.heap.push { cls:=.type "slice", data:=.fields #[vl,vu,.none] } }
 exact tail_any (ops:=[.ref s3.heap.objs.size,v]) ht hT hg (by with_unfolding_all rfl)
def Jo(xs:List V)(lo hi:Option Int):List V:=(xs.drop (HT.sIx xs.length 0 lo)).take (HT.sIx xs.length xs.length hi-HT.sIx xs.length 0 lo)
theorem Wy(xs:List V)(lo hi:Option Int):(Jo xs lo hi).length≤xs.length:=by
 unfold Jo
 rw[length_take,length_drop]
 omega
end
def ixN(n:Nat)(i:Int):Option Nat:=if 0≤i then (if i<n then some i.toNat else none) else if -(n:Int)≤i then some (i+n).toNat else none
def atI{α:Type}(xs:List α)(i:Int):Option α:=(ixN xs.length i).bind fun j=>xs[j]?
theorem V5{n:Nat}{i:Int}{j:Nat}(h:ixN n i=some j):seqIndex? i n=some j∧j<n∧-(n:Int)≤i∧i<n:=by
 unfold ixN at h
 by_cases h0:0≤i
 ·rw[if_pos h0] at h
  by_cases h1:i<n
  ·rw[if_pos h1] at h
   have e:i.toNat=j:=Option.some.inj h
   exact⟨by rw[seqIndex_of h0 h1,e],by omega,by omega,h1⟩
  ·rw[if_neg h1] at h;cases h
 ·rw[if_neg h0] at h
  by_cases h1 : -(n:Int)≤i
  ·rw[if_pos h1] at h
   have e:(i+n).toNat=j:=Option.some.inj h
   exact⟨by rw[seqIndex_neg (by omega) h1,e],by omega,h1,by omega⟩
  ·rw[if_neg h1] at h;cases h
theorem Xt{α:Type}{xs:List α}{i:Int}{v:α}(h:atI xs i=some v):∃j,seqIndex? i xs.length=some j∧xs[j]?=some v∧j<xs.length∧-(xs.length:Int)≤i∧i<xs.length:=by
 unfold atI at h
 cases e:ixN xs.length i with
 |none=>rw[e] at h;cases h
 |some j=>
  rw[e] at h
  obtain⟨h1,h2,h3,h4⟩:=V5 e
  exact⟨j,h1,h,h2,h3,h4⟩
theorem Ur{α:Type}{xs:List α}{j:Nat}{v:α}(h:xs[j]?=some v):atI xs (j:Int)=some v:=by
 have hj:j<xs.length:=(List.getElem?_eq_some_iff.mp h).1
 have e:ixN xs.length (j:Int)=some j:=by
  unfold ixN
  rw[if_pos (by omega),if_pos (by omega)];simp
 unfold atI;rw[e];exact h
def Xv(b:Expr):Prop:=∀o i,subscripted b false o i=operate [o,i] (getItem o i)
def IxR(X:Cx)(r:R2):Prop:=
 ∀(value slice:Expr) (pins:List (Addr×Obj)) (s:Shared) (σ:St) (H:Hp) (x y:V) (v u:Value) (Q:VK),Inv X pins σ H s→RelV x v→RelV y u→r x y H Q →
  subscripted slice false v u=operate [v,u] (getItem v u)→wpAny (model X.prog X.w) X.A (subscriptTail value slice v u) (EP X pins σ Q) X.xe s
def MtR(X:Cx)(id:String)(r:V→List V→Hp→VK→Prop):Prop:=
 ∀(pins:List (Addr×Obj)) (s:Shared) (σ:St) (H:Hp) (x:V) (xs:List V) (v:Value) (us:List Value) (Q:VK),Inv X pins σ H s→RelV x v→Vals xs us→r x xs H Q →
  wpAny (model X.prog X.w) X.A (call (.builtin id) (v::us)) (EP X pins σ Q) X.xe s
section
variable{X:Cx}{a b:Expr}{ta tb:TE}{pos:Pos}
theorem IxR.or{r r':R2}(h:IxR X r)(h':IxR X r'):IxR X (fun x y H Q=>r x y H Q∨r' x y H Q):=by
 intro value slice pins s σ H x y v u Q I rx ry q hs
 rcases q with q|q
 ·exact h value slice pins s σ H x y v u Q I rx ry q hs
 ·exact h' value slice pins s σ H x y v u Q I rx ry q hs
theorem Tw{r:R2}(hr:IxR X r)(ha:PE X a ta)(hb:PE X b tb)(hs:Xv b):PE X (.Subscript a b pos) (tOp r ta tb):=by
 intro pins s σ H Q I h
 exact Subscript_ (zb5 ha hb I h fun v u s2 x y H2 I2 rx ry q=>hr a b pins s2 σ H2 x y v u Q I2 rx ry q (hs _ _))
def rIxL(K:PySem.W.Frag):R2:=fun x y H Q=>∃p xs i v,x=.ref p∧y=.int i∧SqL K H p xs∧atI xs i=some v∧Q v H
def rIxT(K:PySem.W.Frag):R2:=fun x y H Q=>∃p xs i v,x=.ref p∧y=.int i∧SqT K H p xs∧atI xs i=some v∧Q v H
def rIxS:R2:=fun x y H Q=>∃z i c,x=.str z∧y=.int i∧z.length≤sizeLine∧atI z.cps.toList i=some c∧Q (.str ⟨#[c]⟩) H
theorem ix_list:IxR X (rIxL X.K):=by
 intro value slice pins s σ H x y v u Q I rx ry h hs
 obtain⟨p,xs,i,z,rfl,rfl,hq,he,q⟩:=h
 cases rx
 obtain⟨t,rfl⟩:=ry
 obtain⟨its,r,pl,hz⟩:=I.list hq
 obtain⟨j,h1,h2,h3,h4,h5⟩:=Xt he
 obtain⟨w,ew,rw'⟩:=r.get h2
 have hl:=r.length
 have hn:=ux
 have fin:EP X pins σ Q w s:=⟨z,H,I,rw',q⟩
 by_cases h0:0≤i
 ·have hj:i.toNat=j:=by
   rw[seqIndex_of h0 h5] at h1
   exact Option.some.inj h1
  exact item_listR pl.isList h0 (by omega) (by rw[hj];simpa using ew) fin hs
 ·have hj:(i+(its.toArray.size:Int)).toNat=j:=by
   rw[seqIndex_neg (by omega) h4] at h1
   rw[size_toArray,← hl]
   exact Option.some.inj h1
  exact subscriptTail_builtinR (x:=w) pl.isList.typeIs slot_list_getitem.lookup
   (wpAny_getItem_list_neg (Q:=fun r s'=>r=w∧EP X pins σ Q r s') pl.isList (by omega) (by rw[size_toArray] <;> omega) (by omega) (by rw[hj];simpa using ew) ⟨rfl,fin⟩) hs
theorem ix_tup:IxR X (rIxT X.K):=by
 intro value slice pins s σ H x y v u Q I rx ry h hs
 obtain⟨p,xs,i,z,rfl,rfl,hq,he,q⟩:=h
 cases rx
 obtain⟨t,rfl⟩:=ry
 obtain⟨its,r,pl,hz⟩:=I.tuple hq
 obtain⟨j,h1,h2,h3,h4,h5⟩:=Xt he
 obtain⟨w,ew,rw'⟩:=r.get h2
 have hl:=r.length
 have hn:=ux
 have fin:EP X pins σ Q w s:=⟨z,H,I,rw',q⟩
 exact subscriptTail_builtinR (x:=w) pl.typeIs slot_tuple_getitem.lookup
  (getItem_tuple (j:=j) (Q:=fun r s'=>r=w∧EP X pins σ Q r s') pl (by omega) (by omega) (by rw[size_toArray,← hl];exact h1) (by simpa using ew) ⟨rfl,fin⟩) hs
theorem LX:IxR X rIxS:=by
 intro value slice pins s σ H x y v u Q I rx ry h hs
 obtain⟨z,i,c,rfl,rfl,hz,he,q⟩:=h
 obtain⟨t,rfl⟩:=rx
 obtain⟨t',rfl⟩:=ry
 obtain⟨j,h1,h2,h3,h4,h5⟩:=Xt he
 have hl:z.cps.toList.length=z.length:=by simp[Str.length]
 rw[hl] at h1 h4 h5
 have hn:=ux
 exact tail_any (typeIs_str s z t) slot_str_getitem.lookup (getItem_str (c:=c) (by
  have e1:decide (i < -(2 ^ 63:Int))=false:=decide_eq_false (by omega)
  have e2:decide (i ≥ 2 ^ 63)=false:=decide_eq_false (by omega)
  rw[e1,e2,Bool.or_false]) (by rw[h1];simpa using h2) ⟨.str ⟨#[c]⟩,H,I.tok _,⟨_,rfl⟩,q⟩) hs
def rIx(K:PySem.W.Frag):R2:=fun x y H Q=>rIxL K x y H Q∨rIxT K x y H Q∨rIxS x y H Q
theorem LY:IxR X (rIx X.K):=ix_list.or (ix_tup.or LX)
theorem W8(its:List Value)(n j:Nat)(u:Value):Obj.mapSeq (·.setIfInBounds j u) { cls:=.type "list", data:=.seq its.toArray n } = { cls:=.type "list", data:=.seq (its.set j u).toArray n }:=by
 simp[Obj.mapSeq]
theorem Inv.lst{pins:List (Addr×Obj)}{σ:St}{H:Hp}{s:Shared}{p:Addr}{xs:List V}(I:Inv X pins σ H s)(h:H p=some (.lst xs)) :
  ∃(its:List Value) (n:Nat),Vals xs its∧s.heap.get? p=some { cls:=.type "list", data:=.seq its.toArray n }∧xs.length≤sizeLine:=by
 obtain⟨z,its,n,r,e⟩:=I.hok p _ h
 exact⟨its,n,r,e,z⟩
theorem Inv.lstUpd{pins:List (Addr×Obj)}{σ:St}{H:Hp}{s:Shared}{p:Addr}{xs ys:List V}{its its':List Value}{n n':Nat}{f:Obj→Obj}(I:Inv X pins σ H s)(h:H p=some (.lst xs))
  (ho:s.heap.get? p=some { cls:=.type "list", data:=.seq its.toArray n }) (hf:f { cls:=.type "list", data:=.seq its.toArray n } = { cls:=.type "list", data:=.seq its'.toArray n' }) (r:Vals ys its') (hz:ys.length≤sizeLine) (t:Nat) :
  Inv X pins σ (upd H p (.lst ys)) { s with heap:=s.heap.update p f,toks:=t }:=by
 have e:(s.heap.update p f).get? p=some { cls:=.type "list", data:=.seq its'.toArray n' }:=by
  rw[Heap.get?_update_self f ho (by rw[hf] <;> rfl),hf]
 refine I.write (x:=p) (e:=p) (by rw[h];trivial) (.inl rfl) (fun b u hb q=>(Heap.get?_update_other _ _ (Ne.symm hb)).trans q) ⟨_,e⟩ ?_
 exact⟨hz,its',n',r,e⟩
def rSetL:V→V→V→Hp→(Hp→Prop)→Prop:=fun o i v H Q=>∃p xs k j,o=.ref p∧i=.int k∧H p=some (.lst xs)∧ixN xs.length k=some j∧Q (upd H p (.lst (xs.set j v)))
theorem JN:PSet X rSetL:=by
 intro pins s σ H o i v ov iv u Q I ro ri rv h
 obtain⟨p,xs,k,j,rfl,rfl,hp,hj,q⟩:=h
 cases ro
 obtain⟨t,rfl⟩:=ri
 obtain⟨its,n,r,ho,hz⟩:=I.lst hp
 obtain⟨h1,h2,h3,h4⟩:=V5 hj
 have hl:=r.length
 have hn:=ux
 have I':Inv X pins σ (upd H p (.lst (xs.set j v))) { s with heap:=s.heap.update p (Obj.mapSeq (·.setIfInBounds j u)) }:=
  I.lstUpd hp ho (W8 its n j u) (r.set rv j) (by rw[length_set];exact hz) s.toks
 by_cases h0:0≤k
 ·have hk:k.toNat=j:=by
   rw[seqIndex_of h0 h4] at h1
   exact Option.some.inj h1
  exact PySem.W.ki_setAt ho h0 (by omega) (by rw[size_toArray,← hl];exact h4) (by rw[hk];exact⟨_,I',q⟩)
 ·have hk:(k+(its.toArray.size:Int)).toNat=j:=by
   rw[seqIndex_neg (by omega) h3] at h1
   rw[size_toArray,← hl]
   exact Option.some.inj h1
  exact PySem.W.ki_setBack ho (by omega) (by rw[size_toArray,← hl];exact h3) (by omega) (by rw[hk];exact⟨_,I',q⟩)
theorem Y1(lo hi:Option Int)(n:Nat):(sliceBounds lo hi none n).1=((HT.sIx n 0 lo:Nat):Int)∧(sliceBounds lo hi none n).2.1=((HT.sIx n n hi:Nat):Int)∧(sliceBounds lo hi none n).2.2=1:=by
 refine⟨?_,?_,rfl⟩
 ·cases lo with
  |none=>simp[sliceBounds,HT.sIx]
  |some i=>
   simp only[sliceBounds,HT.sIx,Option.getD_none,show(1:Int) > 0 by decide,if_true]
   by_cases h:i<0
   ·simp only[h,if_true] <;> omega
   ·simp only[h,if_false] <;> omega
 ·cases hi with
  |none=>simp[sliceBounds,HT.sIx]
  |some i=>
   simp only[sliceBounds,HT.sIx,Option.getD_none,show(1:Int) > 0 by decide,if_true]
   by_cases h:i<0
   ·simp only[h,if_true] <;> omega
   ·simp only[h,if_false] <;> omega
theorem Yc(its:List Value)(lo hi:Option Int):slicePick its.toArray lo hi none=((its.drop (HT.sIx its.length 0 lo)).take (HT.sIx its.length its.length hi-HT.sIx its.length 0 lo)).toArray:=by
 obtain⟨h1,h2,h3⟩:=Y1 lo hi its.toArray.size
 unfold slicePick
 rw[h1,h2,h3]
 simp only[sliceRange_one,pick_run,size_toArray] <;> rfl
def rSlL(K:PySem.W.Frag):V→Option Int→Option Int→Hp→VK→Prop:=fun x lo hi H Q=>∃a xs,x=.ref a∧SqL K H a xs∧∀p,H p=none→Q (.ref p) (upd H p (.lst (Jo xs lo hi)))
theorem G2:SlR X (rSlL X.K):=by
 intro pins s σ H x v vl vu lo hi sl Q I rx hs pl pu h
 obtain⟨a,xs,rfl,hx,q⟩:=h
 cases rx
 obtain⟨its,r,ht,hz⟩:=I.list hx
 have hlen:=r.length
 refine⟨"list", _,slot_list_getitem.lookup,ht.isList.typeIs,?_⟩
 refine wpAny_getItem_list_slice ht.isList hs pl pu .none (by simp) ?_ (by rw[size_toArray] <;> omega)
 rw[Yc,← hlen]
 refine⟨.ref s.heap.objs.size,_,I.laid (t':=s.toks) (o:=.lst (Jo xs lo hi)) (fun b ob q=>Heap.get?_push_of_some _ q) (le_refl _) ?_,rfl,q _ (I.hok.fresh (le_refl _))⟩
 exact⟨le_trans (Wy xs lo hi) hz,_,0,(r.drop (HT.sIx xs.length 0 lo)).take (HT.sIx xs.length xs.length hi-HT.sIx xs.length 0 lo),Heap.get?_push_size _ rfl⟩
theorem call_len_seq:CallR X (.builtin "len") (fun xs H Q=>∃p ys,xs=[.ref p]∧(SqL X.K H p ys∨SqT X.K H p ys)∧Q (.int ys.length) H):=by
 intro pins s σ H xs us Q I r h
 obtain⟨p,ys,rfl,hq,q⟩:=h
 obtain⟨u,rfl,rx⟩:=vals1 r
 cases rx
 have hn:=ux
 rcases hq with hq|hq
 ·obtain⟨its,r',pl,hz⟩:=I.list hq
  have hlen:=r'.length
  exact Calls.call_len_list pl.isList (by simp only[size_toArray] <;> omega) ⟨.int ys.length,H,I.tok _,⟨s.toks+1,by rw[size_toArray,hlen]⟩,q⟩
 ·obtain⟨its,r',pl,hz⟩:=I.tuple hq
  have hlen:=r'.length
  exact len_tuple pl (by simp only[size_toArray] <;> omega) ⟨.int ys.length,H,I.tok _,⟨s.toks+1,by rw[size_toArray,hlen]⟩,q⟩
theorem Xr:CallR X (.builtin "len") (fun xs H Q=>∃z,xs=[.str z]∧z.length≤sizeLine∧Q (.int z.length) H):=by
 intro pins s σ H xs us Q I r h
 obtain⟨z,rfl,hz,q⟩:=h
 obtain⟨u,rfl,t,rfl⟩:=vals1 r
 have hn:=ux
 exact len_str (by omega) ⟨.int z.length,H,I.tok _,⟨_,rfl⟩,q⟩
theorem CallR.or{f:Value}{r r':List V→Hp→VK→Prop}(h:CallR X f r)(h':CallR X f r'):CallR X f (fun xs H Q=>r xs H Q∨r' xs H Q):=by
 intro pins s σ H xs us Q I rs q
 rcases q with q|q
 ·exact h pins s σ H xs us Q I rs q
 ·exact h' pins s σ H xs us Q I rs q
def tyV(K:PySem.W.Frag)(T:String)(x:V)(H:Hp):Prop:=match x with
 |.str _=>T = "str"
 |.int _=>T = "int"
 |.ref p=>(T = "list" ∧ ∃xs,SqL K H p xs)∨(T = "tuple" ∧ ∃o,K.lookup p=some o∧o.cls=.type "tuple" ∧ o.dict=none) ∨
   (T = "dict" ∧ ((∃kvs,H p=some (.dK kvs))∨∃kvs,H p=some (.dT kvs)))∨(T = "set" ∧ ∃S n,H p=some (.set S n))
 |_=>False
theorem JA{pins:List (Addr×Obj)}{σ:St}{H:Hp}{s:Shared}{T:String}{x:V}{v:Value}(I:Inv X pins σ H s)(r:RelV x v)(ty:tyV X.K T x H) :
  s.TypeIs v T∧∀a,v=.ref a→∃ob,s.heap.get? a=some ob∧ob.dict=none:=by
 cases x with
 |str z=>
  obtain⟨t,rfl⟩:=r
  cases (show T = "str" from ty)
  exact⟨typeIs_str s z t,fun _ e=>nomatch e⟩
 |int i=>
  obtain⟨t,rfl⟩:=r
  cases (show T = "int" from ty)
  exact⟨typeIs_int s i t,fun _ e=>nomatch e⟩
 |ref p=>
  cases r
  rcases ty with ⟨rfl,xs,hq⟩|⟨rfl,o,hk,hc,hd⟩|⟨rfl,hk⟩|⟨rfl,S,n,hk⟩
  ·obtain⟨its,_,pl,_⟩:=I.list hq
   refine⟨pl.isList.typeIs,fun a e=>?_⟩
   cases e
   obtain⟨o,n,e,c,hd,_⟩:=pl
   exact⟨o,e,hd⟩
  ·refine⟨⟨o,I.kIn p o hk,hc⟩,fun a e=>?_⟩
   cases e
   exact⟨o,I.kIn _ o hk,hd⟩
  ·have z:∃o,s.heap.get? p=some o∧o.ExactDict:=by
    rcases hk with ⟨kvs,hk⟩|⟨kvs,hk⟩
    ·obtain⟨_,_,_,_,o,_,_,e,ex,_⟩:=I.hok p _ hk
     exact⟨o,e,ex⟩
    ·obtain⟨_,_,_,_,o,_,_,e,ex,_⟩:=I.hok p _ hk
     exact⟨o,e,ex⟩
   obtain⟨o,e,ex⟩:=z
   refine⟨⟨o,e,ex.1⟩,fun a e2=>?_⟩
   cases e2
   exact⟨o,e,ex.2.1⟩
  ·obtain⟨o,_,_,_,e,ex,_⟩:=I.hok p _ hk
   refine⟨⟨o,e,ex.1⟩,fun a e2=>?_⟩
   cases e2
   exact⟨o,e,ex.2.1⟩
 |_=>exact False.elim ty
def tBM0(K:PySem.W.Frag)(T:String)(r:V→List V→Hp→VK→Prop)(to:TE):TE:=fun σ H Q=>to σ H fun x H1=>tyV K T x H1∧r x [] H1 Q
def tBM(K:PySem.W.Frag)(T:String)(r:V→List V→Hp→VK→Prop)(to:TE)(t:TA):TE:=fun σ H Q=>to σ H fun x H1=>tyV K T x H1∧t σ H1 fun xs H2=>r x xs H2 Q
variable{o e:Expr}{es:List Expr}{to:TE}{t:TA}{name:Str}{apos cpos:Pos}{T id:String}{r:V→List V→Hp→VK→Prop}
theorem Lr(pa:PlainAttrs T)(slot:Slot T name id)(hty:typeOf (.builtin id)=pure (.type "method_descriptor"))(hm:MtR X id r)(ho:PE X o to)
  (hbase:attributeBase o name X.env (eval o X.env)=eval o X.env:=by rfl) (hline:(apos.endLine==cpos.line)=true:=by rfl):PE X (.Call (.Attribute o name apos) [] [] cpos) (tBM0 X.K T r to):=by
 intro pins s σ H Q I h
 refine wpAny_Call_method0_late hbase hline (thn (ho pins s σ H _ I h) fun v s1 ⟨x,H1,I1,r1,ty,q1⟩=>?_)
 obtain⟨h1,h2⟩:=JA I1 r1 ty
 exact⟨T,id,pa,slot,hty,h1,h2,Calls.callWith_builtin rfl (PySem.evalArgs_none (hm pins s1 σ H1 x [] v [] Q I1 r1 .nil q1))⟩
theorem Tx(pa:PlainAttrs T)(slot:Slot T name id)(hty:typeOf (.builtin id)=pure (.type "method_descriptor"))(hm:MtR X id r)(ho:PE X o to)(ha:PA X (e::es) t)
  (hbase:attributeBase o name X.env (eval o X.env)=eval o X.env:=by rfl)
  (hfew:((backTo cpos (starEach (e::es) X.env)).all (fun x=>!x.1)&&(backToKw cpos (keywordEach [] X.env)).all (fun x=>x.1.isSome)
   && decide ((e::es).length+([]:List Keyword).length+(if ([]:List Keyword).isEmpty then 0 else 1)<30))=true:=by rfl)
  (hline:(apos.endLine==cpos.line)=true:=by rfl) (hs:starEach (e::es) X.env=(false,eval e X.env)::starEach es X.env:=by rfl) (hplain:(backTo cpos (starEach es X.env)).any (·.1)=false:=by rfl) :
  PE X (.Call (.Attribute o name apos) (e::es) [] cpos) (tBM X.K T r to t):=by
 intro pins s σ H Q I h
 refine wpAny_Call_method_late hbase hfew hline rfl (thn (ho pins s σ H _ I h) fun v s1 ⟨x,H1,I1,r1,ty,q1⟩=>?_)
 obtain⟨h1,h2⟩:=JA I1 r1 ty
 refine⟨T,id,pa,slot,hty,h1,h2,?_⟩
 have hA:=ha cpos pins s1 σ H1 _ I1 q1
 rw[hs] at hA ⊢
 refine Calls.callWith_builtin (by show(false||(backTo cpos (starEach es X.env)).any (·.1))=false;rw[hplain] <;> rfl) (Calls.evalArgs_plain ?_)
 exact thn hA fun us s2 ⟨vs,H2,I2,r2,q2⟩=>hm pins s2 σ H2 x vs v us Q I2 r1 r2 q2
end
def MtM(X:Cx)(id:String)(r:V→List V→Hp→VK→Prop):Prop:=
 ∀(pins:List (Addr×Obj)) (s:Shared) (σ:St) (H:Hp) (x:V) (xs:List V) (v:Value) (us:List Value) (Q:VK),Inv X pins σ H s→RelV x v→Vals xs us→r x xs H Q →
  wpAny (model X.prog X.w) X.A (call (.builtin id) (v::us)) (EP X pins σ Q) X.xe s
theorem Vals.one:∀{x:V} {us:List Value},Vals [x] us→∃u,us=[u]∧RelV x u
 |_,_,.cons r .nil=>⟨_,rfl,r⟩
theorem Vals.reverse{xs:List V}{us:List Value}(h:Vals xs us):Vals xs.reverse us.reverse:=by
 induction h with
 |nil=>exact .nil
 |cons r t ih=>rw[List.reverse_cons,List.reverse_cons];exact Vals.append ih (.cons r .nil)
theorem Vals.rep{xs:List V}{us:List Value}(h:Vals xs us):∀k:Nat,Vals (List.replicate k xs).flatten (List.replicate k us).flatten
 |0=>.nil
 |k+1=>by
  rw[replicate_succ,replicate_succ,flatten_cons,flatten_cons]
  exact Vals.append h (Vals.rep h k)
theorem foldl_rep(its:List Value):∀(k:Nat) (acc:List Value),
  List.foldl (fun x1 x2=>x1++x2) acc.toArray (List.replicate k its.toArray)=(acc++(List.replicate k its).flatten).toArray
 |0,acc=>by simp
 |k+1,acc=>by
  have e:acc.toArray++its.toArray=(acc++its).toArray:=by simp
  have e2:(acc++its)++(List.replicate k its).flatten=acc++(List.replicate (k+1) its).flatten:=by
   rw[replicate_succ,flatten_cons,List.append_assoc]
  rw[← e2,← foldl_rep its k (acc++its),← e,replicate_succ,foldl_cons]
section
variable{X:Cx}{pins:List (Addr×Obj)}{σ:St}{H:Hp}{s:Shared}{l b:Addr}{xs ys zs:List V}
theorem Inv.lset{its its':List Value}{n:Nat}{f:Array Value→Array Value}{t':Nat}(I:Inv X pins σ H s)(hH:H l=some (.lst xs))
  (e:s.heap.get? l=some { cls:=.type "list", data:=.seq its.toArray n }) (hf:f its.toArray=its'.toArray) (hv:Vals ys its') (hz:ys.length≤sizeLine) :
  Inv X pins σ (upd H l (.lst ys)) { s with heap:=s.heap.update l (Obj.mapSeq f),toks:=t' }:=by
 have q:=PySem.IsL.update e f
 rw[hf] at q
 refine I.write (x:=l) (e:=l) (by rw[hH];exact trivial) (.inl rfl) (fun b' u hb hu=>(Heap.get?_update_other s.heap (Obj.mapSeq f) (Ne.symm hb)).trans hu) ⟨_,q⟩ ?_
 exact⟨hz,its',_,hv,q⟩
theorem Inv.lnew{its:List Value}{t':Nat}(I:Inv X pins σ H s)(hv:Vals ys its)(hz:ys.length≤sizeLine) :
  Inv X pins σ (upd H s.heap.objs.size (.lst ys)) { s with heap:=s.heap.push { cls:=.type "list", data:=.seq its.toArray },toks:=t' }:=
 I.laid (fun _ _ q=>Heap.get?_push_of_some _ q) (le_refl _) ⟨hz,its,0,hv,Heap.get?_push_size _ rfl⟩
theorem Inv.fresh(I:Inv X pins σ H s):H s.heap.objs.size=none:=I.hok.fresh (le_refl _)
theorem Inv.lstM(I:Inv X pins σ H s)(hH:H l=some (.lst xs)):xs.length≤sizeLine∧∃(its:List Value) (n:Nat),Vals xs its∧xs.length=its.length∧s.heap.get? l=some { cls:=.type "list", data:=.seq its.toArray n }:=by
 obtain⟨z,its,n,r,e⟩:=I.hok l _ hH
 exact⟨z,its,n,r,r.length,e⟩
theorem Qo{n:Nat}(h:n≤sizeLine):Builtin.List.listTooLong n=false:=by
 unfold Builtin.List.listTooLong
 exact decide_eq_false (by omega)
end
section
variable{X:Cx}
def j8:V→List V→Hp→VK→Prop:=fun x vs H Q=>∃l xs y,x=.ref l∧vs=[y]∧H l=some (.lst xs)∧xs.length<sizeLine∧Q .non (upd H l (.lst (xs++[y])))
theorem jt:MtM X "list.append" j8:=by
 intro pins s σ H x vs v us Q I rx rv h
 obtain⟨l,xs,y,rfl,rfl,hH,hz,q⟩:=h
 cases rx
 obtain⟨u,rfl,ru⟩:=rv.one
 obtain⟨z,its,n,r,hl,e⟩:=I.lstM hH
 refine call_meets F.slot_list_append ⟨_,e,rfl⟩ F.entry_list_append (F.args_list_append_2 _ _) (PySem.list_append l its.toArray n u (by rw[size_toArray];omega)) ⟨e,?_⟩
 refine⟨.non,_,I.lset (its':=its++[u]) hH e (by simp) (r.append (.cons ru .nil)) ?_,rfl,q⟩
 rw[length_append,length_singleton]
 omega
def rCat:R2:=fun x y H Q=>∃l b xs zs,x=.ref l∧y=.ref b∧H l=some (.lst xs)∧H b=some (.lst zs)∧xs.length+zs.length≤sizeLine∧∀p,H p=none→Q (.ref p) (upd H p (.lst (xs++zs)))
theorem LD:OpR X (binaryOp .Add) rCat:=by
 intro pins s σ H x y v u Q I rx ry h
 obtain⟨l,b,xs,zs,rfl,rfl,hH,hB,hz,q⟩:=h
 cases rx
 cases ry
 obtain⟨z,its,n,r,hl,e⟩:=I.lstM hH
 obtain⟨z2,its2,n2,r2,hl2,e2⟩:=I.lstM hB
 refine PySem.P.add_list e e2 ?_ (by rw[size_toArray,size_toArray];omega)
 have ea:its.toArray++its2.toArray=(its++its2).toArray:=by simp
 rw[ea]
 exact⟨.ref _,_,I.lnew (t':=s.toks) (r.append r2) (by rw[length_append];omega),rfl,q _ I.fresh⟩
def rRep:R2:=fun x y H Q=>∃l k xs,x=.ref l∧y=.int k∧H l=some (.lst xs)∧-(2 ^ 63)≤k∧k<2 ^ 63∧xs.length*k.toNat≤sizeLine ∧
 ∀p,H p=none→Q (.ref p) (upd H p (.lst (List.replicate k.toNat xs).flatten))
theorem MM{α:Type}(xs:List α)(k:Nat):(List.replicate k xs).flatten.length=k*xs.length:=by
 induction k with
 |zero=>simp
 |succ k ih=>rw[replicate_succ,flatten_cons,length_append,ih,Nat.succ_mul,Nat.add_comm]
theorem LA:OpR X (binaryOp .Mult) rRep:=by
 intro pins s σ H x y v u Q I rx ry h
 obtain⟨l,k,xs,rfl,rfl,hH,h1,h2,hz,q⟩:=h
 cases rx
 obtain⟨t,rfl⟩:=ry
 obtain⟨z,its,n,r,hl,e⟩:=I.lstM hH
 have hlen:its.toArray.size*k.toNat≤sizeLine:=by rw[size_toArray,← hl];exact hz
 have hcap:¬ its.toArray.size*k.toNat > (2 ^ 63-1) / 8:=by
  have:(sizeLine:Nat)≤(2 ^ 63-1) / 8:=by decide
  omega
 have hfit:¬ (!Builtin.List.listFitsIndex k)=true:=by
  rw[fitsIndex_both h1 h2]
  exact Bool.false_ne_true
 have hlong:¬ Builtin.List.listTooLong (its.toArray.size*k.toNat)=true:=by
  rw[Qo hlen]
  exact Bool.false_ne_true
 have hnew:List.foldl (fun x1 x2=>x1++x2) #[] (List.replicate (if its.toArray.isEmpty=true then 0 else k.toNat) its.toArray)=(List.replicate k.toNat its).flatten.toArray:=by
  have f0:∀m:Nat,List.foldl (fun x1 x2=>x1++x2) #[] (List.replicate m its.toArray)=(List.replicate m its).flatten.toArray:=fun m=>by
   have:=foldl_rep its m []
   rw[List.nil_append] at this
   exact this
  rw[f0]
  cases its with
  |nil=>simp
  |cons a r'=>rw[if_neg (by simp)]
 refine wpAny_binaryOp_repeat_ref (T := "list") (U := "int") (by decide) ⟨_,e,rfl⟩ (fun s'=>typeIs_int s' k t) noFill_list_mul F.fills_int_mul F.slot_int_rmul repeat_list F.slot_int_index.lookup
  (call_meets F.slot_int_rmul (typeIs_int s k t) F.entry_int_rmul (F.args_int_rmul_2 _ _) (int___rmul___int_list k t l its.toArray n)
   ⟨e,rfl,⟨_,e,rfl⟩,call_meets F.slot_list_mul ⟨_,e,rfl⟩ F.entry_list_mul (F.args_list_mul_2 _ _) (AutoListH.list___mul___list_int_3 l its.toArray n k t hfit hcap hlong) ⟨e,?_⟩⟩)
 rw[hnew]
 exact⟨.ref _,_,I.lnew (t':=s.toks) (r.rep k.toNat) (by rw[MM,Nat.mul_comm];exact hz),rfl,q _ I.fresh⟩
end
section
variable{prog:Program}{w:World}{A:Around}{E:Value→Shared→Prop}{s:Shared}
end
section
variable{X:Cx}
end
end L2
namespace Att
open PySem PySem.W PySem.Calls PyProof.Rows
theorem j6{P:Params}{h:Heap}:∀(ns:List Int) (vs:List Value),WellAll P h vs (ns.map WData.int)→IntsAre vs ns:=by
 intro ns
 induction ns with
 |nil=>
  intro vs w
  rw[map_nil] at w
  cases w
  exact .nil
 |cons n ns ih=>
  intro vs w
  rw[map_cons] at w
  cases w with
  |cons a b=>
   cases a
   exact .cons _ _ (ih _ b)
theorem UG{l:OpenLaw}{n:Nat}(hn:l.most=some n){P:Params}{h:Heap}{args:List WData}{vals:List Value}
  (hpre:l.row.toRowW.claim.pre args=true) (hwl:WellAll P h vals args) :
  ∃a vs ns,vals=[Value.ref a]∧args=[WData.list (ns.map WData.int)]∧h.get? a=some { cls:=.type "list", data:=.seq vs.toArray }∧IntsAre vs ns∧ns.length≤n:=by
 have hsh:WShape.hasAll [] args [.list .int]=true:=(pre_splitW hpre).1
 have hc:l.pre.holds [] { args:=args }=true:=(pre_splitW hpre).2
 obtain⟨d,r,rfl,h1,h2⟩:=hasAllW_cons hsh
 obtain rfl:=hasAllW_nil h2
 obtain⟨xs,rfl,h3⟩:=hasW_list h1
 obtain⟨ns,rfl⟩:=items_int h3
 have hlen:ns.length≤n:=by
  unfold OpenLaw.pre at hc
  have h4:(WTm.not (.lt (.lit (.int (n:Int))) (.len (.arg 0)))).holds [] { args:=[.list (ns.map .int)] }=true:=by
   have h4:=(holds_andW hc).1
   rw[hn] at h4
   exact h4
  have h5:=condW_of h4 (w_not (w_lt w_lit (w_len_list (w_arg rfl))))
  rw[length_map] at h5
  refine Nat.le_of_not_lt fun q=>?_
  have q':(n:Int)<((ns.length:Nat):Int):=by omega
  first
   | (rw[decide_eq_true q'] at h5;exact absurd h5 (by decide))
   | (simp at h5;omega)
 cases hwl with
 |cons w1 w2=>
  cases w2
  cases w1 with
  |list ho hall=>exact⟨_,_,ns,rfl,rfl,ho,j6 ns _ hall,hlen⟩
theorem UM(l:OpenLaw)(args:List WData):l.row.toRowW.claim.post args (.bool true) args=true:=
 postW_of (r:=l.row.toRowW) (X:=(true==true))
  (show WShape.has [] (.bool true) .bool=true by first|rfl|decide|simp[WShape.has,WShape.arms,WShape.armsAll])
  (show(WTm.eq .res (.lit (.bool true))).value [] { args:=args,res:=some (.bool true),after:=args }=some (.bool (true==true)) from w_eq_bool (w_res rfl) w_lit) rfl
theorem attach_call{l:OpenLaw}{n:Nat}{q:Program}{loose:List Str}{XP:(Str→Option Value)→Heap→Prop}{YP:World→Heap→Prop}{d:DefRec}
  (hn:l.most=some n) (hdf:d.params.defaults=[])
  (call:∀(w:World) (s₀ s₁:Shared) (mg mb:Str→Option Value) (fa:Addr) (o:Obj) (pm cd doc:Value) (a:Addr) (vs:List Value) (ns:List Int),
   Ground q loose [] XP w s₀ mg mb s₁.heap→YP w s₁.heap →
   s₁.heap.get? fa=some o→o.data=.func (docDef d.name d.params d.body d.scope pm cd doc)→s₁.heap.CodeRec cd d.name→mg d.name=some (.ref fa) →
   s₁.heap.get? a=some { cls:=.type "list", data:=.seq vs.toArray }→IntsAre vs ns→ns.length≤n→s₁.gens = #[] →
   codeAny (model l.prog w) callerA (.call (.ref fa) ⟨[.ref a],[]⟩) (fun r s'=>r=.ok (.ret (.bool true))∧OldK s₁.heap s'.heap∧s'.os=s₁.os∧AllBare s'.gens) s₁) :
  WalkO q loose XP YP l.row.toRowW d [] (fun f vs=>PySem.call f vs):=by
 intro w s₀ s₁ mg mb G Y fa o pm cd doc dV kV ho hd hcd hD hmg hg args vals as hpre hlay hrd hwl hlo
 obtain rfl:dV=.none:=Dflts.none hD hdf
 obtain rfl:kV=.none:=Dflts.noKw hD
 obtain⟨a,vs,ns,rfl,rfl,hobj,hints,hlen⟩:=UG hn hpre hwl
 refine enter_call (codeAny_mono (call w s₀ s₁ mg mb fa o pm cd doc a vs ns G Y ho (fd_plain hd) hcd hmg hobj hints hlen hg) fun r s' hq=>?_)
 obtain⟨rfl,h2,h3,h4⟩:=hq
 exact⟨.inl ⟨.bool true,.bool true,[],rfl,fun _=>rfl,.bool true,UM l _,fun _=>⟨List.Pairwise.nil,fun _ hm=>(nomatch hm)⟩⟩,h2,h3,h4⟩
section
variable{prog:Program}{w:World}{A:Around}{E:Value→Shared→Prop}{s:Shared}{K:Frag}
def ledger(h:Heap)(L d:Addr):List (Addr×Obj):=(List.range h.objs.size).filterMap fun a=>if a=L∨a=d then none else (h.get? a).map fun o=>(a,o)
end
end Att
namespace L2
open PySem PySem.Spec PyProof.Rows
theorem vals_ints:∀{vs:List Value} {ns:List Int},IntsAre vs ns→Vals (ns.map V.int) vs
 |_,_,.nil=>.nil
 |_,_,.cons n t h=>.cons ⟨t,rfl⟩ (vals_ints h)
def zc2(H:Hp):Prop:=∀b,H b=none∨∃o xs,H b=some (.frz o (.lst xs))
theorem QI{P:Program}{w:World}{K:PySem.W.Frag}{mg mb:Str→Option Value}{CX:CXT}{k:Nat}{fa a:Addr}{fd:FuncData}{x:Str}{sp:Sp}{s₁:Shared}{vs:List Value}{ns:List Int}
  (KX:K.In s₁.heap) (hns:s₁.heap.Ns mainGlobals mg) (hb:s₁.heap.Ns builtinsNs mb) (hbb:∀x:Str,x ≠ "__name__" → mb x=bootBuiltins x) (hlim:s₁.heap.NoLimit) (hg:s₁.gens = #[])
  (ha:s₁.heap.get? a=some { cls:=.type "list", data:=.seq vs.toArray }) (hi:IntsAre vs ns) (hl:ns.length≤sizeLine) (hr:Room k callerA)
  (F:∀base:Heap,K.In base→base.Ns mainGlobals mg→FnOk P w K mg base CX k fa fd [x] sp) (hbind:∀(s:Shared) (u:Value),BindsTo s fd ⟨[u],[]⟩ [(x,u)])
  (hsp:∀H:Hp,zc2 H→SqL K H a (ns.map V.int)→sp [.ref a] H (fun v _=>v=.bl true) fun _ _ _=>False)
  (hCX:∀H e s',CX [] H s₁ (fun _ _ _=>False) e s'→False) :
  codeAny (model P w) callerA (.call (.ref fa) ⟨[.ref a],[]⟩) (fun r s'=>r=.ok (.ret (.bool true))∧OldK s₁.heap s'.heap∧s'.os=s₁.os∧AllBare s'.gens) s₁:=by
 have rv:=vals_ints hi
 have lenV:=hi.length
 have core:∀H:Hp,zc2 H→SqL K H a (ns.map V.int)→HOk P w H s₁.heap→(∀b,H b≠none→b=a)→(H a≠none→K.lookup a=none) →
   codeAny (model P w) callerA (.call (.ref fa) ⟨[.ref a],[]⟩) (fun r s'=>r=.ok (.ret (.bool true))∧OldK s₁.heap s'.heap∧s'.os=s₁.os∧AllBare s'.gens) s₁:=by
  intro H hO hS hok hA hK
  have base_of:∀{b:Addr} {o:Obj},s₁.heap.get? b=some o→H b=none→(uy s₁.heap H).get? b=some o:=fun e n=>Wn e n
  have noA:∀{b:Addr} {o:Obj} {es:Array DictEntry} {ep:Nat},s₁.heap.get? b=some o→o.data=.dict es ep→H b=none:=fun {b o es ep} e d=>by
   cases q:H b with
   |none=>rfl
   |some u=>
    have e':b=a:=hA b (by rw[q];simp)
    subst e'
    rw[ha] at e;cases e
    have d':Data.seq vs.toArray _=Data.dict es ep:=d
    cases d'
  have nsK:∀{b:Addr} {m:Str→Option Value},s₁.heap.Ns b m→(uy s₁.heap H).Ns b m:=fun {b m} ⟨o,es,ep,e,d,r⟩=>⟨o,es,ep,base_of e (noA e d),d,r⟩
  have hKb:K.In (uy s₁.heap H):=fun b o e=>base_of (KX b o e) (by
   cases q:H b with
   |none=>rfl
   |some u=>
    have e':b=a:=hA b (by rw[q];simp)
    subst e'
    rw[hK (by rw[q];simp)] at e;cases e)
  have hM:Mod K mg (uy s₁.heap H):=⟨hKb,nsK hns,⟨mb,nsK hb,hbb⟩,let ⟨mc,h1,h2⟩:=hlim;⟨mc,nsK h1,h2⟩⟩
  have e0:GH P w K mg (uy s₁.heap H) callerA [] s₁ H:=⟨rfl,hM,fun b o e=>VV e,Nat.le_of_eq (YQ _ _),trivial,fun b hb=>absurd (show b∈([]:List Addr) from hb) (by simp),hok,.of_eq hg⟩
  refine codeAny_mono ((F _ hKb (nsK hns)).run callerA [] s₁ H ⟨[.ref a],[]⟩ [.ref a] [.ref a] _ _ hr e0 (hbind s₁ (.ref a)) (.cons rfl .nil) (hsp H hO hS)) fun r s' h=>?_
  cases r with
  |error e=>exact(hCX H e s' h).elim
  |ok fl=>
   cases fl with
   |next=>exact False.elim h
   |brk=>exact False.elim h
   |cont=>exact False.elim h
   |ret u=>
    obtain⟨v,H',os,bare,un,hok',r',q⟩:=h
    have q':v=.bl true:=q
    subst q'
    obtain rfl:u=Value.bool true:=r'
    refine⟨rfl,OldK.of_keep fun b o e=>?_,os,bare⟩
    cases q:H b with
    |none=>exact un.keep b o e q (by intro z;exact absurd (show b∈([]:List Addr) from z) (by simp)) (by simp)
    |some u=>
     rcases hO b with z|⟨ob,xs,z⟩
     ·rw[q] at z;cases z
     ·have z2:=un.frzs b ob _ z
      obtain⟨e1,_⟩:=hok b _ z
      obtain⟨e2,_⟩:=hok' b _ z2
      rw[e] at e1;cases e1
      exact e2
 cases hk:K.lookup a with
 |some o=>
  have e:=KX a o hk
  rw[ha] at e
  cases e
  refine core (fun _=>none) (fun _=>.inl rfl) (.inr ⟨_,vs.toArray,_,hk,rfl,rfl,rfl,by rw[size_toArray,lenV];exact hl,by simpa using rv⟩) (fun b u z=>by have z':(none:Option HO)=some u:=z;cases z') (fun b z=>absurd rfl z) fun z=>absurd rfl z
 |none=>
  refine core (fun b=>if b=a then some (.frz { cls:=.type "list", data:=.seq vs.toArray } (.lst (ns.map V.int))) else none) (fun b=>?_) (.inl (.inr ⟨{ cls:=.type "list", data:=.seq vs.toArray },if_pos rfl⟩)) (fun b u z=>?_) (fun b z=>?_) fun _=>hk
  ·by_cases hb:b=a
   ·exact .inr ⟨_,_,if_pos hb⟩
   ·exact .inl (if_neg hb)
  ·by_cases hb:b=a
   ·have z':=(if_pos hb).symm.trans z
    cases z'
    subst hb
    exact⟨ha,by rw[length_map];exact hl,vs,_,rv,ha⟩
   ·have z':=(if_neg hb).symm.trans z
    cases z'
  ·by_cases hb:b=a
   ·exact hb
   ·exact absurd (if_neg hb) z
abbrev KOf{K:PySem.W.Frag}{h:Heap}(_:K.In h):PySem.W.Frag:=K
theorem walk_of{l:PySem.W.OpenLaw}{n k:Nat}{q:Program}{loose:List Str}{XP:(Str→Option Value)→Heap→Prop}{YP:World→Heap→Prop}{d:DefRec}{K:Params→PySem.W.Frag}{CX:World→CXT}{sp:World→Sp}{x:Str}
  (hn:l.most=some n) (hn2:n≤sizeLine) (hdf:d.params.defaults=[]) (hr:Room k callerA)
  (hY:∀(w:World) (h:Heap),YP w h→(K w.params).In h)
  (F:∀(w:World) (mg:Str→Option Value) (fa:Addr) (h:Heap),(K w.params).In h→h.Ns mainGlobals mg→mg d.name=some (.ref fa) →
   ∃fd:FuncData,(∀(s:Shared) (u:Value),BindsTo s fd ⟨[u],[]⟩ [(x,u)]) ∧
    ∀base:Heap,(K w.params).In base→base.Ns mainGlobals mg→FnOk l.prog w (K w.params) mg base (CX w) k fa fd [x] (sp w))
  (hsp:∀(w:World) (H:Hp) (a:Addr) (ns:List Int),ns.length≤n→zc2 H→SqL (K w.params) H a (ns.map V.int)→sp w [.ref a] H (fun v _=>v=.bl true) fun _ _ _=>False)
  (hCX:∀(w:World) (H:Hp) (s:Shared) (e:Value) (s':Shared),CX w [] H s (fun _ _ _=>False) e s'→False) :
  PySem.W.WalkO q loose XP YP l.row.toRowW d [] (fun f vs=>PySem.call f vs):=by
 refine Att.attach_call hn hdf fun w s₀ s₁ mg mb fa o pm cd doc a vs ns G Y ho hd hcd hmg hobj hints hlen hg=>?_
 have KX:=hY w _ Y
 obtain⟨fd,hb,hF⟩:=F w mg fa _ KX G.T.g hmg
 exact QI KX G.T.g G.T.b G.T.builtins G.T.nolimit hg hobj hints (le_trans hlen hn2) hr hF hb (fun H hO hS=>hsp w H a ns hlen hO hS) fun H e s'=>hCX w H s₁ e s'
def zM(s:Stmt):Arguments:=match s with
 |.FunctionDef _ a _ _ _ _ _ _ _ _=>a
 |_=>{ posonlyargs:=[],args:=[],vararg:=none,kwonlyargs:=[],kw_defaults:=[],kwarg:=none,defaults:=[] }
def zF(s:Stmt):List Stmt:=match s with
 |.FunctionDef _ _ b _ _ _ _ _ _ _=>b
 |_=>[]
def zk(s:Stmt):Scope:=match s with
 |.FunctionDef _ _ _ _ _ _ sc _ _ _=>sc
 |_=>{ kind:=.function,names:=[],isGenerator:=false,isCoroutine:=false }
abbrev CX0:CXT:=fun _ _ _ _ _ _=>False
abbrev E0:XK:=fun _ _ _=>False
theorem pass0{X:Cx}:Vt CX0 X E0:=fun _ _ _ _ _ _ _ h=>h.elim
structure Fun(K:PySem.W.Frag)(x qual:Str)(st:Stmt)(f:Addr)(fd:FuncData):Prop where
 ex:∃(oc:Value) (od:Option Addr) (kV doc pm:Value) (an:Option Addr) (cdv ct:Value) (osl:Array (Option Value)),
  fd=fnOf x qual (zM st) (zF st) (zk st) .none kV doc pm an cdv ct∧K.lookup f=some ⟨oc,od,.func fd,osl⟩∧codeIn K cdv qual=true
 kp:keepIn K (.ref f)=true
section
variable{P:Program}{w:World}{K:PySem.W.Frag}{mg:Str→Option Value}{base:Heap}
theorem Fun.ok{x qual:Str}{st:Stmt}{f:Addr}{fd:FuncData}{N ps:List Str}{k:Nat}{sp:Sp}(F:Fun K x qual st f fd)(S:zS N ps (zk st))(len:∀vs H Q E,sp vs H Q E→vs.length=ps.length)
  (hbody:∀(cdv:Value) (A:Around) (outer:List Env) (s:Shared) (H:Hp) (vs:List V) (Q:VK) (E:XK),Room k (A.deeper (envOfC qual (zk st) s.heap.objs.size f cdv))→sp vs H Q E →
   ∃t,PSs (Xp CX0 P w K mg base N qual (zk st) f cdv A outer s H E).nox (zF st) t∧t { nx:=fun _ H'=>Q .non H',rt:=Q } (start N vs) H):FnOk P w K mg base CX0 (k+1) f fd ps sp:=by
 obtain⟨oc,od,kV,doc,pm,an,cdv,ct,osl,rfl,lk,hcd⟩:=F.ex
 refine TQ lk hcd S len fun A outer s H vs Q E hr hsp=>?_
 obtain⟨t,h,q⟩:=hbody cdv A outer s H vs Q E hr hsp
 exact⟨t,h.nox,q⟩
theorem Fun.binds{x qual:Str}{st:Stmt}{f:Addr}{fd:FuncData}{ps:List Str}(F:Fun K x qual st f fd)
  (h:∀(kV doc pm:Value) (an:Option Addr) (cdv ct:Value) (us:List Value),us.length=ps.length→bindArgs (fnOf x qual (zM st) (zF st) (zk st) .none kV doc pm an cdv ct) ⟨us,[]⟩=pure (ps.zip us)):Binds K fd ps []:=by
 obtain⟨oc,od,kV,doc,pm,an,cdv,ct,osl,rfl,lk,hcd⟩:=F.ex
 exact .all (h kV doc pm an cdv ct)
theorem yS{x qual:Str}{st:Stmt}{f:Addr}{oc:Value}{od an:Option Addr}{osl:Array (Option Value)}{kV doc pm cdv ct:Value}(l:K.lookup f=some ⟨oc,od,.func (fnOf x qual (zM st) (zF st) (zk st) .none kV doc pm an cdv ct),osl⟩)
  (c:codeIn K cdv qual=true) (k:keepIn K (.ref f)=true):Fun K x qual st f (fnOf x qual (zM st) (zF st) (zk st) .none kV doc pm an cdv ct):=⟨⟨oc,od,kV,doc,pm,an,cdv,ct,osl,rfl,l,c⟩,k⟩
end
theorem Ud{A:Around}{k:Nat}(hr:Room k A):A.units+1<cLine:=Nat.lt_of_le_of_lt (Nat.add_le_add_left (by decide:1≤64) _) hr.units
theorem yT{n:Nat}(h:n≤1000):n<sizeLine:=Nat.lt_of_le_of_lt h (by decide)
section
variable{X:Cx}
theorem pv(i:Nat){x:Str}{pos:Pos}(hN:X.N[i]?=some x:=by rfl)(hv:Vis X.env.scope x:=by first|exact Or.inl rfl|exact Or.inr (Or.inl rfl) | exact Or.inr (Or.inr rfl))(hd:(x==("__debug__" : Str))=false:=by decide)
  (hcd:(x==("__classdict__" : Str))=false:=by decide):PE X (.Name x pos) (wY i):=Lm hN hv hd hcd
end
def Same(H H':Hp):Prop:=∀b o,H b=some o→H' b=some o
theorem Same.refl(H:Hp):Same H H:=fun _ _ h=>h
theorem Same.trans{H H1 H2:Hp}(a:Same H H1)(b:Same H1 H2):Same H H2:=fun c o h=>b c o (a c o h)
theorem Same.seq{K:PySem.W.Frag}{H H':Hp}{a:Addr}{xs:List V}(e:Same H H')(h:SqL K H a xs):SqL K H' a xs:=by
 rcases h with (h|⟨o,h⟩) | h
 ·exact .inl (.inl (e _ _ h))
 ·exact .inl (.inr ⟨o,e _ _ h⟩)
 ·exact .inr h
end L2
namespace FD
open PySem PySem.Spec PyProof.Rows L2
abbrev St:=L2.St
inductive D where
 | non|bl (b:Bool) | int (i:Int) | str (x:Str) | lst (xs:List D) | tup (xs:List D) | scr (ns:List Int) | raw (v:V) | exc (c:Str) | dct (ks:List Key) (ds:List D)
inductive Rs (α:Type) where
 | ok (a:α) | ex (c:Str) | no
def Rs.bind{α β:Type}(r:Rs α)(k:α→Rs β):Rs β:=match r with
 |.ok a=>k a
 |.ex c=>.ex c
 |.no=>.no
@[simp] theorem Rs.bind_ok{α β:Type}(a:α)(k:α→Rs β):(Rs.ok a).bind k=k a:=rfl
def excIs(K:PySem.W.Frag)(a:Addr)(c:Str):Heap→Prop:=fun h=>∃oe cls vs,h.get? a=some oe∧oe.cls=cls∧oe.dict=none∧oe.data=.fields vs∧nsIn K mainGlobals c=some (some cls)
section
variable(K:PySem.W.Frag)
mutual
def Rep(F:Hp):D→V→Prop
 |.non,v=>v=.non
 |.bl b,v=>v=.bl b
 |.int i,v=>v=.int i
 |.str x,v=>v=.str x
 |.lst ds,v=>∃a vs,v=.ref a∧F a=some (.lst vs)∧Reps F ds vs
 |.scr ns,v=>∃a,v=.ref a∧SqL K F a (ns.map V.int)
 |.tup ds,v=>∃a vs,v=.ref a∧SqT K F a vs∧Reps F ds vs
 |.raw u,v=>v=u
 |.exc c,v=>∃a,v=.ref a∧F a=some (.ext (excIs K a c))
 |.dct ks ds,v=>∃a kvs o,v=.ref a∧F a=some (.frz o (.dK kvs))∧kvs.map (·.1)=ks∧Reps F ds (kvs.map (·.2))
def Reps(F:Hp):List D→List V→Prop
 |[],vs=>vs=[]
 |d::ds,vs=>∃v r,vs=v::r∧Rep F d v∧Reps F ds r
end
end
theorem Same.refl(H:Hp):Same H H:=fun _ _ h=>h
theorem Same.seqT{K:PySem.W.Frag}{H H':Hp}{a:Addr}{xs:List V}(e:Same H H')(h:SqT K H a xs):SqT K H' a xs:=by
 rcases h with (h|⟨o,h⟩) | h
 ·exact .inl (.inl (e _ _ h))
 ·exact .inl (.inr ⟨o,e _ _ h⟩)
 ·exact .inr h
section
variable{K:PySem.W.Frag}{F F':Hp}
mutual
theorem Rep.mono(h:Same F F'):∀{d:D} {v:V},Rep K F d v→Rep K F' d v
 |.non,_,r=>by simpa only[Rep] using r
 |.bl _,_,r=>by simpa only[Rep] using r
 |.int _,_,r=>by simpa only[Rep] using r
 |.str _,_,r=>by simpa only[Rep] using r
 |.raw _,_,r=>by simpa only[Rep] using r
 |.exc c,v,r=>by
  simp only[Rep] at r ⊢
  obtain⟨a,e,q⟩:=r
  exact⟨a,e,h _ _ q⟩
 |.dct ks ds,v,r=>by
  simp only[Rep] at r ⊢
  obtain⟨a,kvs,o,e,q,k,t⟩:=r
  exact⟨a,kvs,o,e,h _ _ q,k,Reps.mono h t⟩
 |.lst ds,v,r=>by
  simp only[Rep] at r ⊢
  obtain⟨a,vs,e,q,t⟩:=r
  exact⟨a,vs,e,h _ _ q,Reps.mono h t⟩
 |.scr ns,v,r=>by
  simp only[Rep] at r ⊢
  obtain⟨a,e,q⟩:=r
  exact⟨a,e,h.seq q⟩
 |.tup ds,v,r=>by
  simp only[Rep] at r ⊢
  obtain⟨a,vs,e,q,t⟩:=r
  exact⟨a,vs,e,Same.seqT h q,Reps.mono h t⟩
theorem Reps.mono(h:Same F F'):∀{ds:List D} {vs:List V},Reps K F ds vs→Reps K F' ds vs
 |[],_,r=>by simpa only[Reps] using r
 |d::ds,vs,r=>by
  simp only[Reps] at r ⊢
  obtain⟨v,r',e,q,t⟩:=r
  exact⟨v,r',e,Rep.mono h q,Reps.mono h t⟩
end
theorem Reps.length:∀{ds:List D} {vs:List V},Reps K F ds vs→ds.length=vs.length
 |[],_,r=>by simp only[Reps] at r;subst r;rfl
 |d::ds,_,r=>by
  simp only[Reps] at r
  obtain⟨v,r',rfl,_,t⟩:=r
  simp[Reps.length t]
theorem Reps.get:∀{ds:List D} {vs:List V} {i:Nat} {d:D},Reps K F ds vs→ds[i]?=some d→∃v,vs[i]?=some v∧Rep K F d v
 |[],_,_,_,_,e=>by simp at e
 |d::ds,_,0,_,r,e=>by
  simp only[Reps] at r
  obtain⟨v,r',rfl,q,t⟩:=r
  simp at e;subst e
  exact⟨v,rfl,q⟩
 |d::ds,_,i+1,_,r,e=>by
  simp only[Reps] at r
  obtain⟨v,r',rfl,q,t⟩:=r
  obtain⟨w,h1,h2⟩:=Reps.get (i:=i) t (by simpa using e)
  exact⟨w,by simpa using h1,h2⟩
theorem Reps.nil:Reps K F [] []:=by simp only[Reps]
theorem Reps.cons{d:D}{v:V}{ds:List D}{vs:List V}(h:Rep K F d v)(t:Reps K F ds vs):Reps K F (d::ds) (v::vs):=by
 simp only[Reps];exact⟨v,vs,rfl,h,t⟩
theorem Reps.append:∀{ds es:List D} {vs ws:List V},Reps K F ds vs→Reps K F es ws→Reps K F (ds++es) (vs++ws)
 |[],_,_,_,r,t=>by simp only[Reps] at r;subst r;exact t
 |d::ds,es,_,ws,r,t=>by
  simp only[Reps] at r
  obtain⟨v,r',rfl,q,u⟩:=r
  exact Reps.cons q (Reps.append u t)
theorem Reps.take:∀{ds:List D} {vs:List V} (n:Nat),Reps K F ds vs→Reps K F (ds.take n) (vs.take n)
 |_,_,0,_=>by simp only[List.take_zero];exact Reps.nil
 |[],_,n+1,r=>by simp only[Reps] at r;subst r;simp only[List.take_nil];exact Reps.nil
 |d::ds,_,n+1,r=>by
  simp only[Reps] at r
  obtain⟨v,r',rfl,q,u⟩:=r
  exact Reps.cons q (Reps.take n u)
theorem Reps.drop:∀{ds:List D} {vs:List V} (n:Nat),Reps K F ds vs→Reps K F (ds.drop n) (vs.drop n)
 |_,_,0,r=>r
 |[],_,n+1,r=>by simp only[Reps] at r;subst r;simp only[List.drop_nil];exact Reps.nil
 |d::ds,_,n+1,r=>by
  simp only[Reps] at r
  obtain⟨v,r',rfl,q,u⟩:=r
  exact Reps.drop n u
theorem Reps.reverse:∀{ds:List D} {vs:List V},Reps K F ds vs→Reps K F ds.reverse vs.reverse
 |[],_,r=>by simp only[Reps] at r;subst r;exact Reps.nil
 |d::ds,_,r=>by
  simp only[Reps] at r
  obtain⟨v,r',rfl,q,u⟩:=r
  rw[List.reverse_cons,List.reverse_cons]
  exact Reps.append (Reps.reverse u) (Reps.cons q Reps.nil)
theorem Reps.set{d:D}{v:V}(h:Rep K F d v):∀{ds:List D} {vs:List V} (i:Nat),Reps K F ds vs→Reps K F (ds.set i d) (vs.set i v)
 |[],_,_,r=>by simp only[Reps] at r;subst r;exact Reps.nil
 |e::ds,_,0,r=>by
  simp only[Reps] at r
  obtain⟨w,r',rfl,q,u⟩:=r
  exact Reps.cons h u
 |e::ds,_,i+1,r=>by
  simp only[Reps] at r
  obtain⟨w,r',rfl,q,u⟩:=r
  exact Reps.cons q (Reps.set h i u)
theorem Reps.one{d:D}{vs:List V}(h:Reps K F [d] vs):∃v,vs=[v]∧Rep K F d v:=by
 simp only[Reps] at h
 obtain⟨v,r,e,q,e2⟩:=h
 subst e2;exact⟨v,e,q⟩
theorem Reps.two{d e:D}{vs:List V}(h:Reps K F [d,e] vs):∃v w,vs=[v,w]∧Rep K F d v∧Rep K F e w:=by
 simp only[Reps] at h
 obtain⟨v,r,e1,q,w,r2,e2,q2,e3⟩:=h
 subst e3;subst e2;exact⟨v,w,e1,q,q2⟩
theorem Reps.rep{ds:List D}{vs:List V}(h:Reps K F ds vs):∀k:Nat,Reps K F (List.replicate k ds).flatten (List.replicate k vs).flatten
 |0=>Reps.nil
 |k+1=>by
  rw[replicate_succ,replicate_succ,flatten_cons,flatten_cons]
  exact Reps.append h (Reps.rep h k)
theorem Reps.ints:∀(ns:List Int),Reps K F (ns.map D.int) (ns.map V.int)
 |[]=>Reps.nil
 |n::r=>Reps.cons (by simp only[Rep]) (Reps.ints r)
end
class Tabs where
 rows:List (Addr×Nat×Nat×Str)
 own:Str→Str→Bool
def Z5(c:Addr)(q:Str):Heap→Prop:=fun h=>h.CodeRec (.ref c) q
def TOk(F H:Hp)(r:Addr×Nat×Nat×Str):Prop:=F r.1=none∧(H r.1=some (.tbl #[])∨∃c,H r.1=some (.tbl #[rawInt r.2.1,rawInt r.2.2.1,.ref c])∧H c=some (.ext (Z5 c r.2.2.2)))
variable[Tabs]
def OwnOk(H:Hp):Prop:=∀d a,H d=some (.own a)→∃C dx vs,H a=some (.ins C dx vs)
def TbT(F H:Hp):Prop:=(∀r∈Tabs.rows,TOk F H r)∧OwnOk H
omit [Tabs] in
theorem TOk.step{F H F' H':Hp}{r:Addr×Nat×Nat×Str}(t:TOk F H r)(nw:∀a o,F' a=some o→F a=some o∨H a=none)(k:∀a o,H a=some o→(∀vs,o≠.lst vs)→H' a=some o):TOk F' H' r:=by
 have hn:∀ps,H r.1=some (.tbl ps)→F' r.1=none:=fun ps e=>by
  cases q:F' r.1 with
  |none=>rfl
  |some o=>
   rcases nw _ _ q with z|z
   ·rw[t.1] at z;cases z
   ·rw[e] at z;cases z
 rcases t.2 with e|⟨c,e,e2⟩
 ·exact⟨hn _ e,.inl (k _ _ e fun _ z=>nomatch z)⟩
 ·exact⟨hn _ e,.inr ⟨c,k _ _ e (fun _ z=>nomatch z),k _ _ e2 fun _ z=>nomatch z⟩⟩
theorem TbT.step{F H F' H':Hp}(t:TbT F H)(nw:∀a o,F' a=some o→F a=some o∨H a=none)(k:∀a o,H a=some o→(∀vs,o≠.lst vs)→H' a=some o)(no:∀d a,H' d=some (.own a)→H d=some (.own a)):TbT F' H':=⟨fun r hr=>(t.1 r hr).step nw k,fun d a e=>by
 obtain⟨C,dx,vs,h⟩:=t.2 d a (no d a e)
 exact⟨C,dx,vs,k _ _ h fun _ z=>nomatch z⟩⟩
theorem TbT.freeze{F H:Hp}{a:Addr}{vs:List V}{o:HO}(t:TbT F H)(e:H a=some (.lst vs)):TbT (upd F a o) H:=⟨fun r hr=>by
 obtain⟨t1,t2⟩:=t.1 r hr
 have:r.1≠a:=fun z=>by
  rw[z,e] at t2
  rcases t2 with q|⟨c,q,_⟩ <;> cases q
 exact⟨by rw[zn this];exact t1,t2⟩,t.2⟩
def Kp:HO→Option HO→Prop
 |.tbl _,r=>∃ps,r=some (.tbl ps)
 |o,r=>r=some o
def Hh(H H':Hp):Prop:=∀b o,H b=some o→Kp o (H' b)
omit [Tabs] in
theorem Kp.of{o:HO}{r:Option HO}(h:r=some o):Kp o r:=by cases o <;> first|exact h|exact⟨_,h⟩
omit [Tabs] in
theorem Kp.some{o:HO}{r:Option HO}(h:Kp o r):r≠none:=by
 cases o <;> first | (obtain⟨_,h⟩:=h;rw[h];simp) | (have h:r=_:=h;rw[h];simp)
omit [Tabs] in
theorem Hh.of{H H':Hp}(h:Same H H'):Hh H H':=fun b o e=>.of (h b o e)
omit [Tabs] in
theorem Hh.refl(H:Hp):Hh H H:=.of (Same.refl H)
omit [Tabs] in
theorem Hh.trans{H H1 H2:Hp}(a:Hh H H1)(b:Hh H1 H2):Hh H H2:=fun c o e=>by
 have k:=a c o e
 cases o <;> first|exact b c _ k | (obtain⟨ps,q⟩:=k;show ∃ps,H2 c=some (.tbl ps);exact b c _ q)
omit [Tabs] in
theorem wy{F H:Hp}(h:Hh F H){a:Addr}(e:H a=none):F a=none:=by
 cases q:F a with
 |none=>rfl
 |some o=>exact absurd e (h a o q).some
structure Ext(F H F' H':Hp):Prop where
 ff:Same F F'
 hh:Hh H H'
 fh:Same F' H'
 nw:∀a o,F' a=some o→F a=some o∨H a=none
 tt:TbT F H→TbT F' H'
theorem Ext.refl{F H:Hp}(h:Same F H):Ext F H F H:=⟨Same.refl F,Hh.refl H,h,fun _ _ e=>.inl e,id⟩
theorem Ext.trans{F H F1 H1 F2 H2:Hp}(a:Ext F H F1 H1)(b:Ext F1 H1 F2 H2):Ext F H F2 H2:=
 ⟨a.ff.trans b.ff,a.hh.trans b.hh,b.fh,fun c o e=>by
  rcases b.nw c o e with q|q
  ·exact a.nw c o q
  ·exact .inr (wy a.hh q),fun t=>b.tt (a.tt t)⟩
omit [Tabs] in
theorem zP{F H:Hp}(h:Same F H){a:Addr}(e:H a=none):F a=none:=by
 cases q:F a with
 |none=>rfl
 |some o=>rw[h a o q] at e;cases e
omit [Tabs] in
theorem yi{H:Hp}{p:Addr}{o:HO}(h:H p=none):Same H (upd H p o):=fun b u q=>by rw[zn (yh q h)];exact q
omit [Tabs] in
theorem UH{F H:Hp}{p:Addr}{o:HO}(h:Same F H)(hp:H p=none):Same (upd F p o) (upd H p o):=fun b u q=>by
 by_cases hb:b=p
 ·subst hb;rw[zt] at q ⊢;exact q
 ·rw[zn hb] at q ⊢;exact h b u q
theorem Ext.same{F H F' H':Hp}(ff:Same F F')(hh:Same H H')(fh:Same F' H')(nw:∀a o,F' a=some o→F a=some o∨H a=none)(no:∀d a,H' d=some (.own a)→H d=some (.own a)):Ext F H F' H':=⟨ff,.of hh,fh,nw,fun t=>t.step nw (fun a o e _=>hh a o e) no⟩
omit [Tabs] in
theorem jp{H:Hp}{p:Addr}{o:HO}(ho:∀a,o≠.own a):∀d a,upd H p o d=some (.own a)→H d=some (.own a):=fun d a e=>by
 by_cases h:d=p
 ·subst h;rw[zt] at e;cases e;exact absurd rfl (ho a)
 ·rw[zn h] at e;exact e
theorem Ext.new{F H:Hp}{p:Addr}{o:HO}(h:Same F H)(hp:H p=none)(ho:∀a,o≠.own a:=by intro _ h;cases h):Ext F H (upd F p o) (upd H p o):=
 .same (yi (zP h hp)) (yi hp) (UH h hp) (fun a u e=>by
  by_cases hb:a=p
  ·subst hb;exact .inr hp
  ·rw[zn hb] at e;exact .inl e) (jp ho)
theorem Ext.open{F H:Hp}{p:Addr}{o:HO}(h:Same F H)(hp:H p=none)(ho:∀a,o≠.own a:=by intro _ h;cases h):Ext F H F (upd H p o):=
 .same (Same.refl F) (yi hp) (h.trans (yi hp)) (fun a u e=>.inl e) (jp ho)
inductive Sl where
 | val (d:D)
 | own (ds:List D)
 | obj (n:Nat) (c:Str) (fs:List (Str×D))
 | obr (c:Str) (fs:List (Str×D))
abbrev DS:=List (Option Sl)
def OwnF(K:PySem.W.Frag)(F H:Hp)(d:D)(v:V):Prop:=∃ds l ws,d=.lst ds∧v=.ref l∧H l=some (.lst ws)∧F l=none∧Reps K F ds ws
def zc4(K:PySem.W.Frag)(F H:Hp)(c f:Str)(d:D)(v:V):Prop:=if Tabs.own c f=true then OwnF K F H d v else Rep K F d v
def Flds(K:PySem.W.Frag)(F H:Hp)(c:Str):List (Str×D)→List (Str×V)→Prop
 |[],[]=>True
 | (f,d)::r,(g,v)::s=>f=g∧zc4 K F H c f d v∧Flds K F H c r s
 |_,_=>False
def jY(c:Str):List (Str×V)→List Addr
 |[]=>[]
 | (f,v)::r=>if Tabs.own c f=true then (match v with
  |.ref l=>l::jY c r
  |_=>jY c r) else jY c r
def Lof(H:Hp)(c:Str)(a:Addr):List Addr:=match H a with
 | some (.ins _ _ vs)=>jY c vs
 |_=>[]
theorem Lof.ins{H:Hp}{c:Str}{a C dx:Addr}{vs:List (Str×V)}(h:H a=some (.ins C dx vs)):Lof H c a=jY c vs:=by unfold Lof;rw[h]
theorem Flds.own{K:PySem.W.Frag}{F H:Hp}{c:Str}{l:Addr}:∀{fs:List (Str×D)} {vs:List (Str×V)},Flds K F H c fs vs→l∈jY c vs→F l=none∧∃ws,H l=some (.lst ws)
 |[],[],_,h=>by cases h
 | (f,d)::r,(g,v)::s,q,h=>by
  obtain⟨rfl,q2,q3⟩:=q
  unfold jY at h
  unfold zc4 at q2
  by_cases z:Tabs.own c f=true
  ·rw[if_pos z] at h q2
   obtain⟨ds,l',ws,e1,rfl,e3,e4,e5⟩:=q2
   rcases mem_cons.mp h with rfl|h
   ·exact⟨e4,ws,e3⟩
   ·exact Flds.own q3 h
  ·rw[if_neg z] at h
   exact Flds.own q3 h
 |[],_::_,q,_=>q.elim
 |_::_,[],q,_=>q.elim
theorem Flds.keep{K:PySem.W.Frag}{F H F' H':Hp}{c:Str}(hf:Same F F'):∀{fs:List (Str×D)} {vs:List (Str×V)},Flds K F H c fs vs→(∀l ws,l∈jY c vs→H l=some (.lst ws)→F l=none→H' l=some (.lst ws)∧F' l=none)→Flds K F' H' c fs vs
 |[],[],_,_=>trivial
 | (f,d)::r,(g,v)::s,q,k=>by
  obtain⟨rfl,q2,q3⟩:=q
  refine⟨rfl,?_,Flds.keep hf q3 fun l ws hl=>k l ws ?_⟩
  ·unfold zc4 at q2 ⊢
   by_cases z:Tabs.own c f=true
   ·rw[if_pos z] at q2 ⊢
    obtain⟨ds,l,ws,e1,rfl,e3,e4,e5⟩:=q2
    obtain⟨k1,k2⟩:=k l ws (by unfold jY;rw[if_pos z];exact mem_cons_self) e3 e4
    exact⟨ds,l,ws,e1,rfl,k1,k2,e5.mono hf⟩
   ·rw[if_neg z] at q2 ⊢;exact q2.mono hf
  ·unfold jY
   by_cases z:Tabs.own c f=true
   ·rw[if_pos z]
    cases v with
    |ref l'=>exact mem_cons_of_mem _ hl
    |_=>exact hl
   ·rw[if_neg z];exact hl
 |[],_::_,q,_=>q.elim
 |_::_,[],q,_=>q.elim
def ObAt(K:PySem.W.Frag)(F H:Hp)(c:Str)(fs:List (Str×D))(a:Addr):Prop:=∃C dx vs,H a=some (.ins C dx vs)∧F a=none∧nsIn K mainGlobals c=some (some (.ref C))∧Flds K F H c fs vs∧H dx=some (.own a)∧(jY c vs).Nodup
def ObS(s:Option (Option Sl))(c:Str):Prop:=(∃n fs,s=some (some (.obj n c fs)))∨∃fs,s=some (some (.obr c fs))
structure ObsOk(K:PySem.W.Frag)(F:Hp)(τ:DS)(σ:St)(H:Hp):Prop where
 at_:∀(i n:Nat) (c:Str) (fs:List (Str×D)),τ[i]?=some (some (.obj n c fs))→∃a,σ[i]?=some (some (.ref a))∧ObAt K F H c fs a
 dis:∀(i j n:Nat) (c c':Str) (fs:List (Str×D)) (a:Addr),i≠j→τ[i]?=some (some (.obj n c fs))→ObS τ[j]? c'→σ[i]?=some (some (.ref a))→σ[j]?=some (some (.ref a))→False
 rd:∀(i:Nat) (c:Str) (fs:List (Str×D)),τ[i]?=some (some (.obr c fs))→∃a C dx vs,σ[i]?=some (some (.ref a))∧H a=some (.ins C dx vs)∧nsIn K mainGlobals c=some (some (.ref C))∧Flds K F H c fs vs
 ll:∀(i j n:Nat) (c c':Str) (fs:List (Str×D)) (a a' l:Addr),i≠j→τ[i]?=some (some (.obj n c fs))→ObS τ[j]? c'→σ[i]?=some (some (.ref a))→σ[j]?=some (some (.ref a'))→l∈Lof H c a→l∈Lof H c' a'→False
 lo:∀(i j:Nat) (c:Str) (ds:List D) (a l:Addr),ObS τ[i]? c→τ[j]?=some (some (.own ds))→σ[i]?=some (some (.ref a))→σ[j]?=some (some (.ref l))→l∈Lof H c a→False
def QW:Option Sl→Bool
 | some (.obj _ _ _)=>true
 | some (.obr _ _)=>true
 |_=>false
def noObj(τ:DS):Prop:=∀(i:Nat) s,τ[i]?=some s→QW s=false
omit [Tabs] in
theorem noObj.obs{τ:DS}(n:noObj τ){i:Nat}{c:Str}(h:ObS τ[i]? c):False:=by
 rcases h with ⟨m,fs,h⟩|⟨fs,h⟩
 ·have:=n i _ h;cases this
 ·have:=n i _ h;cases this
theorem ObsOk.none{K:PySem.W.Frag}{F H:Hp}{τ:DS}{σ:St}(n:noObj τ):ObsOk K F τ σ H:=
 ⟨fun i m c fs h=>(by have:=n i _ h;cases this),fun i j m c c' fs a _ h=>(by have:=n i _ h;cases this),fun i c fs h=>(by have:=n i _ h;cases this),fun i j m c c' fs a a' l _ h=>(by have:=n i _ h;cases this),fun i j c ds a l h=>(n.obs h).elim⟩
theorem ObsOk.get{K:PySem.W.Frag}{F H:Hp}{τ:DS}{σ:St}{i:Nat}{c:Str}(o:ObsOk K F τ σ H)(h:ObS τ[i]? c):∃a C dx vs fs,σ[i]?=some (some (.ref a))∧H a=some (.ins C dx vs)∧Flds K F H c fs vs:=by
 rcases h with ⟨m,fs,h⟩|⟨fs,h⟩
 ·obtain⟨a,h1,C,dx,vs,h2,_,_,h5,_⟩:=o.at_ i m c fs h
  exact⟨a,C,dx,vs,fs,h1,h2,h5⟩
 ·obtain⟨a,C,dx,vs,h1,h2,_,h5⟩:=o.rd i c fs h
  exact⟨a,C,dx,vs,fs,h1,h2,h5⟩
theorem ObsOk.keep{K:PySem.W.Frag}{F H F' H':Hp}{τ:DS}{σ:St}(o:ObsOk K F τ σ H)(hf:Same F F')(hi:∀a C dx vs,H a=some (.ins C dx vs)→H' a=some (.ins C dx vs))(hn:∀a C dx vs,H a=some (.ins C dx vs)→F a=Option.none→F' a=Option.none)(hd:∀d a,H d=some (.own a)→H' d=some (.own a))
  (hl:∀(i:Nat) (c:Str) (a l:Addr) (ws:List V),ObS τ[i]? c→σ[i]?=some (some (.ref a))→l∈Lof H c a→H l=some (.lst ws)→F l=Option.none→H' l=some (.lst ws)∧F' l=Option.none):ObsOk K F' τ σ H':=by
 have lof:∀{i:Nat} {c:Str} {a:Addr},ObS τ[i]? c→σ[i]?=some (some (.ref a))→Lof H' c a=Lof H c a:=fun {i c a} h e=>by
  obtain⟨a',C,dx,vs,fs,h1,h2,_⟩:=o.get h
  rw[e] at h1;cases h1
  rw[Lof.ins h2,Lof.ins (hi _ _ _ _ h2)]
 refine⟨fun i m c fs h=>?_,o.dis,fun i c fs h=>?_,fun i j m c c' fs a a' l hij h1 h2 h3 h4 h5 h6=>?_,fun i j c ds a l h1 h2 h3 h4 h5=>?_⟩
 ·obtain⟨a,h1,C,dx,vs,h2,h3,h4,h5,h6,h7⟩:=o.at_ i m c fs h
  exact⟨a,h1,C,dx,vs,hi _ _ _ _ h2,hn _ _ _ _ h2 h3,h4,h5.keep hf fun l ws q=>hl i c a l ws (.inl ⟨m,fs,h⟩) h1 (by rw[Lof.ins h2];exact q),hd _ _ h6,h7⟩
 ·obtain⟨a,C,dx,vs,h1,h2,h4,h5⟩:=o.rd i c fs h
  exact⟨a,C,dx,vs,h1,hi _ _ _ _ h2,h4,h5.keep hf fun l ws q=>hl i c a l ws (.inr ⟨fs,h⟩) h1 (by rw[Lof.ins h2];exact q)⟩
 ·rw[lof (.inl ⟨m,fs,h1⟩) h3] at h5
  rw[lof h2 h4] at h6
  exact o.ll i j m c c' fs a a' l hij h1 h2 h3 h4 h5 h6
 ·rw[lof h1 h3] at h5
  exact o.lo i j c ds a l h1 h2 h3 h4 h5
theorem ObsOk.ext{K:PySem.W.Frag}{F H F' H':Hp}{τ:DS}{σ:St}(o:ObsOk K F τ σ H)(x:Ext F H F' H'):ObsOk K F' τ σ H':=by
 have nF:∀{a:Addr} {u:HO},H a=some u→F a=Option.none→F' a=Option.none:=fun {a u} h h3=>by
  cases q:F' a with
  |none=>rfl
  |some w=>
   rcases x.nw a w q with z|z
   ·rw[h3] at z;cases z
   ·rw[h] at z;cases z
 exact o.keep x.ff (fun a C dx vs h=>x.hh _ _ h) (fun a C dx vs h=>nF h) (fun d a h=>x.hh _ _ h) fun i c a l ws _ _ _ h h3=>⟨x.hh _ _ h,nF h h3⟩
theorem ObsOk.updL{K:PySem.W.Frag}{F H:Hp}{τ:DS}{σ:St}{p:Addr}{u:HO}(o:ObsOk K F τ σ H)(hl:H p=.none∨∃vs,H p=some (.lst vs))(hp:∀(i:Nat) (c:Str) (a:Addr),ObS τ[i]? c→σ[i]?=some (some (.ref a))→p∉Lof H c a):ObsOk K F τ σ (upd H p u):=by
 have ne:∀{a:Addr} {w:HO},H a=some w→(∀vs,w≠.lst vs)→a≠p:=fun {a w} h n z=>by
  subst z
  rcases hl with z|⟨ws,z⟩
  ·rw[z] at h;cases h
  ·rw[z] at h;cases h;exact n _ rfl
 refine o.keep (Same.refl F) (fun a C dx vs h=>?_) (fun a C dx vs _ h=>h) (fun d a h=>?_) fun i c a l ws h1 h2 h3 h4 h5=>⟨?_,h5⟩
 ·rw[zn (ne h fun _ z=>nomatch z)];exact h
 ·rw[zn (ne h fun _ z=>nomatch z)];exact h
 ·have:l≠p:=fun z=>by subst z;exact hp i c a h1 h2 h3
  rw[zn this];exact h4
omit [Tabs] in
theorem yB{τ:DS}{i j:Nat}{s u:Option Sl}(hs:QW s=false)(hu:QW u=true)(h:(τ.set i s)[j]?=some u):i≠j∧τ[j]?=some u:=by
 by_cases hij:i=j
 ·subst hij
  rw[getElem?_set] at h
  simp only[if_true] at h
  split at h
  ·cases h;rw[hs] at hu;cases hu
  ·cases h
 ·rw[getElem?_set_ne hij] at h;exact⟨hij,h⟩
omit [Tabs] in
theorem vX{τ:DS}{i j:Nat}{s:Option Sl}{c:Str}(hs:QW s=false)(h:ObS (τ.set i s)[j]? c):i≠j∧ObS τ[j]? c:=by
 rcases h with ⟨n,fs,h⟩|⟨fs,h⟩
 ·obtain⟨a,b⟩:=yB hs rfl h;exact⟨a,.inl ⟨n,fs,b⟩⟩
 ·obtain⟨a,b⟩:=yB hs rfl h;exact⟨a,.inr ⟨fs,b⟩⟩
theorem ObsOk.put{K:PySem.W.Frag}{F H:Hp}{τ:DS}{σ:St}{i:Nat}{s:Option Sl}{v:Option V}(o:ObsOk K F τ σ H)(hs:QW s=false)(hw:∀ds l,s=some (.own ds)→v=some (.ref l)→∀(j:Nat) (c:Str) (a:Addr),ObS τ[j]? c→σ[j]?=some (some (.ref a))→l∉Lof H c a):ObsOk K F (τ.set i s) (σ.set i v) H:=
 ⟨fun j m c fs h=>by
  obtain⟨n,h⟩:=yB hs rfl h
  rw[getElem?_set_ne n];exact o.at_ j m c fs h,
  fun j k m c c' fs a hjk h1 h2 h3 h4=>by
   obtain⟨n1,h1⟩:=yB hs rfl h1
   obtain⟨n2,h2⟩:=vX hs h2
   rw[getElem?_set_ne n1] at h3
   rw[getElem?_set_ne n2] at h4
   exact o.dis j k m c c' fs a hjk h1 h2 h3 h4,
  fun j c fs h=>by
   obtain⟨n,h⟩:=yB hs rfl h
   rw[getElem?_set_ne n];exact o.rd j c fs h,
  fun j k m c c' fs a a' l hjk h1 h2 h3 h4=>by
   obtain⟨n1,h1⟩:=yB hs rfl h1
   obtain⟨n2,h2⟩:=vX hs h2
   rw[getElem?_set_ne n1] at h3
   rw[getElem?_set_ne n2] at h4
   exact o.ll j k m c c' fs a a' l hjk h1 h2 h3 h4,
  fun j k c ds a l h1 h2 h3 h4 h5=>by
   obtain⟨n1,g1⟩:=vX hs h1
   rw[getElem?_set_ne n1] at h3
   by_cases e:i=k
   ·subst e
    rw[getElem?_set] at h2 h4
    simp only[if_true] at h2 h4
    split at h2
    ·split at h4
     ·exact hw ds l (by simpa using h2) (by simpa using h4) j c a g1 h3 h5
     ·cases h4
    ·cases h2
   ·rw[getElem?_set_ne e] at h2 h4
    exact o.lo j k c ds a l g1 h2 h3 h4 h5⟩
theorem ObsOk.putS{K:PySem.W.Frag}{F H:Hp}{τ:DS}{σ:St}{i:Nat}{ds es:List D}(o:ObsOk K F τ σ H)(hi:τ[i]?=some (some (.own ds))):ObsOk K F (τ.set i (some (.own es))) σ H:=
 ⟨fun j m c fs h=>o.at_ j m c fs (yB (s:=some (.own es)) rfl rfl h).2,fun j k m c c' fs a hjk h1 h2=>o.dis j k m c c' fs a hjk (yB (s:=some (.own es)) rfl rfl h1).2 (vX (s:=some (.own es)) rfl h2).2,fun j c fs h=>o.rd j c fs (yB (s:=some (.own es)) rfl rfl h).2,
  fun j k m c c' fs a a' l hjk h1 h2=>o.ll j k m c c' fs a a' l hjk (yB (s:=some (.own es)) rfl rfl h1).2 (vX (s:=some (.own es)) rfl h2).2,fun j k c ds' a l h1 h2 h3 h4 h5=>by
   have h1:=(vX (s:=some (.own es)) rfl h1).2
   by_cases e:i=k
   ·subst e;exact o.lo j i c ds a l h1 hi h3 h4 h5
   ·rw[getElem?_set_ne e] at h2;exact o.lo j k c ds' a l h1 h2 h3 h4 h5⟩
theorem ObsOk.fresh{K:PySem.W.Frag}{F H:Hp}{τ:DS}{σ:St}{p:Addr}(o:ObsOk K F τ σ H)(hp:H p=.none):∀(i:Nat) (c:Str) (a:Addr),ObS τ[i]? c→σ[i]?=some (some (.ref a))→p∉Lof H c a:=fun i c a h e hl=>by
 obtain⟨a',C,dx,vs,fs,h1,h2,h3⟩:=o.get h
 rw[e] at h1;cases h1
 rw[Lof.ins h2] at hl
 obtain⟨_,ws,q⟩:=h3.own hl
 rw[hp] at q;cases q
theorem ObsOk.lof{K:PySem.W.Frag}{F H:Hp}{τ:DS}{σ:St}{i:Nat}{c:Str}{a p:Addr}{u:HO}(o:ObsOk K F τ σ H)(h1:ObS τ[i]? c)(h2:σ[i]?=some (some (.ref a)))(hl:H p=.none∨∃vs,H p=some (.lst vs)):Lof (upd H p u) c a=Lof H c a:=by
 obtain⟨a',C,dx,vs,fs,h3,h4,_⟩:=o.get h1
 rw[h2] at h3;cases h3
 have:a≠p:=fun z=>by
  subst z
  rcases hl with z|⟨ws,z⟩
  ·rw[z] at h4;cases h4
  ·rw[z] at h4;cases h4
 rw[Lof.ins h4,Lof.ins (show upd H p u a=some (.ins C dx vs) by rw[zn this];exact h4)]
structure RV(K:PySem.W.Frag)(F:Hp)(τ:DS)(σ:St)(H:Hp):Prop where
 fh:Same F H
 len:τ.length=σ.length
 val:∀(i:Nat) (d:D),τ[i]?=some (some (.val d))→∃v,σ[i]?=some (some v)∧Rep K F d v
 own:∀(i:Nat) (ds:List D),τ[i]?=some (some (.own ds))→∃a vs,σ[i]?=some (some (.ref a))∧H a=some (.lst vs)∧F a=none∧Reps K F ds vs
 dis:∀(i j:Nat) (ds es:List D) (a:Addr),i≠j→τ[i]?=some (some (.own ds))→τ[j]?=some (some (.own es))→σ[i]?=some (some (.ref a))→σ[j]?=some (some (.ref a))→False
 tt:TbT F H
 ob:ObsOk K F τ σ H
theorem RV.ext{K:PySem.W.Frag}{F H F' H':Hp}{τ:DS}{σ:St}(R:RV K F τ σ H)(x:Ext F H F' H'):RV K F' τ σ H':=
 ⟨x.fh,R.len,fun i d e=>by
  obtain⟨v,h1,h2⟩:=R.val i d e
  exact⟨v,h1,h2.mono x.ff⟩,
  fun i ds e=>by
   obtain⟨a,vs,h1,h2,h3,h4⟩:=R.own i ds e
   refine⟨a,vs,h1,x.hh _ _ h2,?_,h4.mono x.ff⟩
   cases q:F' a with
   |none=>rfl
   |some o=>
    rcases x.nw a o q with z|z
    ·rw[h3] at z;cases z
    ·rw[h2] at z;exact absurd z (by simp),
  R.dis,x.tt R.tt,R.ob.ext x⟩
structure RS(K:PySem.W.Frag)(B Z F:Hp)(τ:DS)(σ:St)(H:Hp):Prop where
 rv:RV K F τ σ H
 bh:Hh B H
 zf:Same Z F
 nb:∀a o,F a=some o→Z a=some o∨B a=none
 ob:∀(i:Nat) (ds:List D) (a:Addr),τ[i]?=some (some (.own ds))→σ[i]?=some (some (.ref a))→B a=none
 oo:∀(i n:Nat) (c:Str) (fs:List (Str×D)) (a:Addr),τ[i]?=some (some (.obj n c fs))→σ[i]?=some (some (.ref a))→B a=none∧∀l∈Lof H c a,B l=none
 sf:∀(a0 dx:Addr),B dx=some (.own a0)→B a0=none→∀(i n:Nat) (c:Str) (fs:List (Str×D)),τ[i]?=some (some (.obj (n+1) c fs))→σ[i]?=some (some (.ref a0))
 ro:∀(i:Nat) (c:Str) (fs:List (Str×D)) (a:Addr),τ[i]?=some (some (.obr c fs))→σ[i]?=some (some (.ref a))→∃C dx vs,B a=some (.ins C dx vs)∧∀l∈jY c vs,∃ws,B l=some (.lst ws)
theorem RS.ext{K:PySem.W.Frag}{B Z F H F' H':Hp}{τ:DS}{σ:St}(R:RS K B Z F τ σ H)(x:Ext F H F' H'):RS K B Z F' τ σ H':=
 ⟨R.rv.ext x,R.bh.trans x.hh,R.zf.trans x.ff,fun a o e=>by
  rcases x.nw a o e with q|q
  ·exact R.nb a o q
  ·exact .inr (wy R.bh q),R.ob,fun i n c fs a h1 h2=>by
  obtain⟨q1,q2⟩:=R.oo i n c fs a h1 h2
  refine⟨q1,fun l hl=>q2 l ?_⟩
  obtain⟨a',h3,C,dx,vs,h4,_⟩:=R.rv.ob.at_ i n c fs h1
  rw[h2] at h3;cases h3
  rw[Lof.ins h4]
  rw[Lof.ins (x.hh _ _ h4:H' a=some (.ins C dx vs))] at hl
  exact hl,R.sf,R.ro⟩
theorem RS.out{K:PySem.W.Frag}{B Z F H:Hp}{τ:DS}{σ:St}(R:RS K B Z F τ σ H):Ext Z B F H:=⟨R.zf,R.bh,R.rv.fh,R.nb,fun _=>R.rv.tt⟩
def Xob(X:Cx)(c:Str):Prop:=∀e s',X.xe e s'
def Ok(X:Cx){α:Type}(r:Rs α)(P:α→Prop):Prop:=match r with
 |.ok a=>P a
 |.ex c=>Xob X c
 |.no=>False
theorem Ok.bind{X:Cx}{α β:Type}{r:Rs α}{k:α→Rs β}{P:β→Prop}(h:Ok X (r.bind k) P):Ok X r fun a=>Ok X (k a) P:=by
 cases r <;> exact h
theorem Ok.imp{X:Cx}{α:Type}{r:Rs α}{P Q:α→Prop}(h:Ok X r P)(f:∀a,P a→Q a):Ok X r Q:=by
 cases r with
 |ok a=>exact f a h
 |ex c=>exact h
 |no=>exact h
abbrev FE:=DS→Rs D
abbrev FA:=DS→Rs (List D)
abbrev FT:=DS→Rs Bool
def Ev(K:PySem.W.Frag)(F H:Hp)(Q:VK)(d:D):Prop:=∀v F' H',Ext F H F' H'→Rep K F' d v→Q v H'
def Evs(K:PySem.W.Frag)(F H:Hp)(Q:List V→Hp→Prop)(ds:List D):Prop:=∀vs F' H',Ext F H F' H'→Reps K F' ds vs→Q vs H'
def Evb(F H:Hp)(Q:Bool→Hp→Prop)(b:Bool):Prop:=∀F' H',Ext F H F' H'→Q b H'
theorem Ev.ext{K:PySem.W.Frag}{F H F1 H1:Hp}{Q:VK}{d:D}(h:Ev K F H Q d)(x:Ext F H F1 H1):Ev K F1 H1 Q d:=fun v F' H' y r=>h v F' H' (x.trans y) r
theorem Evb.ext{F H F1 H1:Hp}{Q:Bool→Hp→Prop}{d:Bool}(h:Evb F H Q d)(x:Ext F H F1 H1):Evb F1 H1 Q d:=fun F' H' y=>h F' H' (x.trans y)
def tE(X:Cx)(f:FE):TE:=fun σ H Q=>∃F τ,RV X.K F τ σ H∧Ok X (f τ) (Ev X.K F H Q)
def tAs(X:Cx)(f:FA):TA:=fun σ H Q=>∃F τ,RV X.K F τ σ H∧Ok X (f τ) (Evs X.K F H Q)
def tTs(X:Cx)(f:FT):TT:=fun σ H Q=>∃F τ,RV X.K F τ σ H∧Ok X (f τ) (Evb F H Q)
def PDE(X:Cx)(e:Expr)(f:FE):Prop:=PE X e (tE X f)
def PDA(X:Cx)(e:List Expr)(f:FA):Prop:=PA X e (tAs X f)
def PDT(X:Cx)(e:Expr)(f:FT):Prop:=PT X e (tTs X f)
def PDW(X:Cx)(e:Expr)(f:FT):Prop:=PW X e (tTs X f)
theorem _root_.L2.PE.imp{X:Cx}{e:Expr}{t t':TE}(h:PE X e t)(f:∀σ H Q,t' σ H Q→t σ H Q):PE X e t':=fun pins s σ H Q I q=>h pins s σ H Q I (f _ _ _ q)
theorem _root_.L2.PT.imp{X:Cx}{e:Expr}{t t':TT}(h:PT X e t)(f:∀σ H Q,t' σ H Q→t σ H Q):PT X e t':=fun pins s σ H Q I q=>h pins s σ H Q I (f _ _ _ q)
theorem _root_.L2.PW.imp{X:Cx}{e:Expr}{t t':TT}(h:PW X e t)(f:∀σ H Q,t' σ H Q→t σ H Q):PW X e t':=fun w pins s σ H Q I q=>h w pins s σ H Q I (f _ _ _ q)
theorem _root_.L2.PA.imp{X:Cx}{e:List Expr}{t t':TA}(h:PA X e t)(f:∀σ H Q,t' σ H Q→t σ H Q):PA X e t':=fun p pins s σ H Q I q=>h p pins s σ H Q I (f _ _ _ q)
theorem _root_.L2.PS.imp{X:Cx}{e:Stmt}{t t':TS}(h:PS X e t)(f:∀E σ H,t' E σ H→t E σ H):PS X e t':=fun pins s σ H Q I q=>h pins s σ H Q I (f _ _ _ q)
theorem _root_.L2.PSs.imp{X:Cx}{e:List Stmt}{t t':TS}(h:PSs X e t)(f:∀E σ H,t' E σ H→t E σ H):PSs X e t':=fun pins s σ H Q I q=>h pins s σ H Q I (f _ _ _ q)
theorem tE.of{X:Cx}{f:FE}{F H:Hp}{τ:DS}{σ:St}{Q:VK}{G:D→Prop}(R:RV X.K F τ σ H)(h:Ok X (f τ) G)
  (k:∀d v F1 H1,G d→Ext F H F1 H1→RV X.K F1 τ σ H1→Rep X.K F1 d v→Q v H1):tE X f σ H Q:=
 ⟨F,τ,R,h.imp fun d g v F1 H1 x r=>k d v F1 H1 g x (R.ext x) r⟩
theorem tAs.of{X:Cx}{f:FA}{F H:Hp}{τ:DS}{σ:St}{Q:List V→Hp→Prop}{G:List D→Prop}(R:RV X.K F τ σ H)(h:Ok X (f τ) G)
  (k:∀d v F1 H1,G d→Ext F H F1 H1→RV X.K F1 τ σ H1→Reps X.K F1 d v→Q v H1):tAs X f σ H Q:=
 ⟨F,τ,R,h.imp fun d g v F1 H1 x r=>k d v F1 H1 g x (R.ext x) r⟩
theorem tTs.of{X:Cx}{f:FT}{F H:Hp}{τ:DS}{σ:St}{Q:Bool→Hp→Prop}{G:Bool→Prop}(R:RV X.K F τ σ H)(h:Ok X (f τ) G)
  (k:∀b F1 H1,G b→Ext F H F1 H1→RV X.K F1 τ σ H1→Q b H1):tTs X f σ H Q:=
 ⟨F,τ,R,h.imp fun d g F1 H1 x=>k d F1 H1 g x (R.ext x)⟩
def zd(i:Nat):FE:=fun τ=>match τ[i]? with
 | some (some (.val d))=>.ok d
 |_=>.no
section
variable{X:Cx}{pos:Pos}
theorem zb{i:Nat}{x:Str}(h:PE X (.Name x pos) (wY i)):PDE X (.Name x pos) (zd i):=h.imp fun σ H Q ⟨F,τ,R,q⟩=>by
 unfold zd at q
 cases e:τ[i]? with
 |none=>rw[e] at q;exact q.elim
 |some o=>
  cases o with
  |none=>rw[e] at q;exact q.elim
  |some sl=>
   cases sl with
   |own ds=>rw[e] at q;exact q.elim
   |obj n c fs=>rw[e] at q;exact q.elim
   |obr c fs=>rw[e] at q;exact q.elim
   |val d=>
    rw[e] at q
    obtain⟨v,h1,h2⟩:=R.val i d e
    exact⟨v,h1,q v F H (Ext.refl R.fh) h2⟩
def eC(d:D):FE:=fun _=>.ok d
theorem XX{e:Expr}{v:V}{d:D}(h:PE X e (tC v))(r:∀F,Rep X.K F d v):PDE X e (eC d):=h.imp fun σ H Q ⟨F,τ,R,q⟩=>q v F H (Ext.refl R.fh) (r F)
theorem zi{i j}:PDE X (.Constant (.int i) j pos) (eC (.int i)):=XX Lq fun _=>by simp only[Rep]
theorem ZA{i j}:PDE X (.Constant (.bool i) j pos) (eC (.bl i)):=XX Tz fun _=>by simp only[Rep]
theorem Zb{j}:PDE X (.Constant .none j pos) (eC .non):=XX Lp fun _=>by simp only[Rep]
theorem vf{i j}:PDE X (.Constant (.str i) j pos) (eC (.str i)):=XX Ln fun _=>by simp only[Rep]
end
def OpD(X:Cx)(g:Value→Value→Sem Value)(op:D→D→Rs D):Prop:=∃r:R2,OpR X g r ∧
 ∀F H x y dx dy Q,Same F H→Rep X.K F dx x→Rep X.K F dy y→Ok X (op dx dy) (Ev X.K F H Q)→r x y H Q
def eOp(op:D→D→Rs D)(fa fb:FE):FE:=fun τ=>(fa τ).bind fun x=>(fb τ).bind fun y=>op x y
section
variable{X:Cx}{pos:Pos}{a b c:Expr}{fa fb fc:FE}
theorem VU{r:R2}{op:D→D→Rs D}(hl:∀F H x y dx dy Q,Same F H→Rep X.K F dx x→Rep X.K F dy y→Ok X (op dx dy) (Ev X.K F H Q)→r x y H Q)
  (σ:St) (H:Hp) (Q:VK) (h:tE X (eOp op fa fb) σ H Q):tOp r (tE X fa) (tE X fb) σ H Q:=by
 obtain⟨F,τ,R,h⟩:=h
 refine tE.of R h.bind fun x u F1 H1 g x1 R1 r1=>?_
 refine tE.of R1 g.bind fun y v F2 H2 g2 x2 R2 r2=>?_
 exact hl F2 H2 u v x y Q R2.fh (r1.mono x2.ff) r2 (g2.imp fun d e=>e.ext (x1.trans x2))
theorem zr{o:Operator}{op:D→D→Rs D}(ho:OpD X (binaryOp o) op)(ha:PDE X a fa)(hb:PDE X b fb):PDE X (.BinOp a o b pos) (eOp op fa fb):=by
 obtain⟨r,h1,h2⟩:=ho
 exact(pe_op h1 ha hb).imp (VU h2)
theorem uQ{o:CmpOp}{op:D→D→Rs D}(ho:OpD X (compareOp o) op)(ha:PDE X a fa)(hb:PDE X b fb)(hm:behindInMarks o b=false):PDE X (.Compare a [o] [b] pos) (eOp op fa fb):=by
 obtain⟨r,h1,h2⟩:=ho
 exact(Mn h1 ha hb hm).imp (VU h2)
def tB(f:FE):FT:=fun τ=>(f τ).bind fun d=>match d with
 |.bl b=>.ok b
 |_=>.no
theorem GM{t:FE}{u:TE}(hi:∀σ H Q,tE X t σ H Q→u σ H Q)(σ:St)(H:Hp)(Q:Bool→Hp→Prop)(h:tTs X (tB t) σ H Q):Tp u σ H Q:=by
 obtain⟨F,τ,R,h⟩:=h
 refine hi σ H _ (tE.of R h.bind fun d v F1 H1 g x R1 r=>?_)
 cases d with
 |bl k=>simp only[Rep] at r;exact⟨k,r,g F1 H1 x⟩
 |_=>exact g.elim
theorem yf{o:CmpOp}{op:D→D→Rs D}(ho:OpD X (compareOp o) op)(ha:PDE X a fa)(hb:PDE X b fb)(hm:behindInMarks o b=false):PDT X (.Compare a [o] [b] pos) (tB (eOp op fa fb)):=by
 obtain⟨r,h1,h2⟩:=ho
 exact(Mg h1 ha hb hm).imp (GM (VU h2))
def je:D→Rs Bool
 |.non=>.ok false
 |.bl b=>.ok b
 |.int i=>.ok (i != 0)
 |.str x=>if x.length≤sizeLine then .ok ((x.length:Int) != 0) else .no
 |.lst ds=>.ok (!ds.isEmpty)
 |.tup ds=>.ok (!ds.isEmpty)
 |.scr ns=>.ok (!ns.isEmpty)
 |.raw _=>.no
 |.exc _=>.no
 |.dct _ _=>.no
theorem uZ{K:PySem.W.Frag}{F:Hp}{ds:List D}{vs:List V}(h:Reps K F ds vs):ds.isEmpty=vs.isEmpty:=by
 have:=h.length
 cases ds <;> cases vs <;> simp_all
theorem WM{F H:Hp}{d:D}{v:V}{Q:Bool→Hp→Prop}(fh:Same F H)(r:Rep X.K F d v)(h:Ok X (je d) (fun b=>Q b H)):∃k,zb9 X.K v H k∧Q k H:=by
 cases d with
 |non=>simp only[Rep] at r;subst r;exact⟨_,rfl,h⟩
 |bl b=>simp only[Rep] at r;subst r;exact⟨_,rfl,h⟩
 |int i=>simp only[Rep] at r;subst r;exact⟨_,rfl,h⟩
 |str x=>
  simp only[Rep] at r;subst r
  (delta je at h;dsimp only at h)
  by_cases z:x.length≤sizeLine
  ·rw[if_pos z] at h;exact⟨_,⟨z,rfl⟩,h⟩
  ·rw[if_neg z] at h;exact h.elim
 |lst ds=>
  simp only[Rep] at r;obtain⟨a,vs,rfl,e,q⟩:=r
  refine⟨!vs.isEmpty,.inl ⟨vs,SqL.of (fh _ _ e),rfl⟩,?_⟩
  rw[← uZ q];exact h
 |tup ds=>
  simp only[Rep] at r;obtain⟨a,vs,rfl,e,q⟩:=r
  refine⟨!vs.isEmpty,.inr (.inl ⟨vs,Same.seqT fh e,rfl⟩),?_⟩
  rw[← uZ q];exact h
 |scr ns=>
  simp only[Rep] at r;obtain⟨a,rfl,e⟩:=r
  refine⟨!(ns.map V.int).isEmpty,.inl ⟨_,fh.seq e,rfl⟩,?_⟩
  have e2:(ns.map V.int).isEmpty=ns.isEmpty:=by cases ns <;> rfl
  rw[e2];exact h
 |raw u=>exact h.elim
 |exc c=>exact h.elim
 |dct _ _=>exact h.elim
def Yb(f:FE):FT:=fun τ=>(f τ).bind je
theorem Y8(ha:PDE X a fa)(he:∀whole,isTrue a X.env whole=(do let v ← whole;standAt a.pos;holding [v] (truthy v)):=by intro _;rfl):PDT X a (Yb fa):=
 (J0 ha he).imp fun σ H Q ⟨F,τ,R,h⟩=>tE.of R h.bind fun d v F1 H1 g x R1 r=>WM R1.fh r (g.imp fun b e=>e F1 H1 x)
def Zo(f g:FT):FT:=fun τ=>(f τ).bind fun b=>if b=true then g τ else .ok false
def XD(f g:FT):FT:=fun τ=>(f τ).bind fun b=>if b=true then .ok true else g τ
def XE(f:FT):FT:=fun τ=>(f τ).bind fun b=>.ok (!b)
variable{ga gb:FT}{rest:List Expr}
theorem XU(ha:PDT X a ga):PDW X (.BoolOp .And [a] pos) ga:=Mc ha
theorem Y7(ha:PDT X a ga):PDW X (.BoolOp .Or [a] pos) ga:=Lc ha
theorem VO(ha:PDT X a ga)(hb:PDW X (.BoolOp .And (b::rest) pos) gb):PDW X (.BoolOp .And (a::b::rest) pos) (Zo ga gb):=
 PW.imp (Ld ha hb) fun σ H Q ⟨F,τ,R,h⟩=>tTs.of R h.bind fun k F1 H1 g x R1=>by
  cases k with
  |true=>rw[if_pos rfl];rw[if_pos rfl] at g;exact⟨F1,τ,R1,g.imp fun d e=>e.ext x⟩
  |false=>rw[if_neg (by simp)];rw[if_neg (by simp)] at g;exact g F1 H1 x
theorem W3(ha:PDT X a ga)(hb:PDW X (.BoolOp .Or (b::rest) pos) gb):PDW X (.BoolOp .Or (a::b::rest) pos) (XD ga gb):=
 PW.imp (pw_or ha hb) fun σ H Q ⟨F,τ,R,h⟩=>tTs.of R h.bind fun k F1 H1 g x R1=>by
  cases k with
  |false=>rw[if_neg (by simp)];rw[if_neg (by simp)] at g;exact⟨F1,τ,R1,g.imp fun d e=>e.ext x⟩
  |true=>rw[if_pos rfl];rw[if_pos rfl] at g;exact g F1 H1 x
theorem XV{e:Expr}(h:PDW X e ga):PDT X e ga:=PW.pt h
theorem Mp(ha:PDT X a ga):PDT X (.UnaryOp .Not a pos) (XE ga):=
 PT.imp (Le ha) fun σ H Q ⟨F,τ,R,h⟩=>tTs.of R h.bind fun k F1 H1 g x R1=>g F1 H1 x
def eIf(g:FT)(fa fb:FE):FE:=fun τ=>(g τ).bind fun b=>if b=true then fa τ else fb τ
theorem Ls(hc:PDT X c ga)(ha:PDE X a fa)(hb:PDE X b fb):PDE X (.IfExp c a b pos) (eIf ga fa fb):=
 PE.imp (J7 hc ha hb) fun σ H Q ⟨F,τ,R,h⟩=>tTs.of R h.bind fun k F1 H1 g x R1=>by
  cases k with
  |true=>rw[if_pos rfl];rw[if_pos rfl] at g;exact⟨F1,τ,R1,g.imp fun d e=>e.ext x⟩
  |false=>rw[if_neg (by simp)];rw[if_neg (by simp)] at g;exact⟨F1,τ,R1,g.imp fun d e=>e.ext x⟩
def zb1(fa fb:FE):FE:=fun τ=>(fa τ).bind fun x=>(je x).bind fun b=>if b=true then fb τ else .ok x
def eOr(fa fb:FE):FE:=fun τ=>(fa τ).bind fun x=>(je x).bind fun b=>if b=true then .ok x else fb τ
theorem Xa{op}(h:PDE X a fa):PDE X (.BoolOp op [a] pos) fa:=Lo h
theorem Ms(ha:PDE X a fa)(hb:PDE X (.BoolOp .And (b::rest) pos) fb):PDE X (.BoolOp .And (a::b::rest) pos) (zb1 fa fb):=by
 intro pins s σ H Q I ⟨F,τ,R,h⟩
 refine BoolOp_and (thn (ha pins s σ H _ I (tE.of R h.bind fun d v F1 H1 g x R1 r=>(⟨d,F1,g,x,R1,r⟩:∃d F1,Ok X ((je d).bind fun b=>if b=true then fb τ else .ok d) (Ev X.K F H Q)∧Ext F H F1 H1∧RV X.K F1 τ σ H1∧Rep X.K F1 d v))) fun v s1 ⟨x,H1,I1,r1,d,F1,g,x1,R1,r⟩=>?_)
 refine thn (tru_ok pins s1 σ H1 x v (fun b H2=>H2=H1∧Ok X (if b=true then fb τ else .ok d) (Ev X.K F H Q)) I1 r1 (WM (Q:=fun b H2=>H2=H1∧Ok X (if b=true then fb τ else .ok d) (Ev X.K F H Q)) R1.fh r (g.bind.imp fun b e=>⟨rfl,e⟩))) fun k s2 ⟨H2,I2,e2,q⟩=>?_
 subst e2
 cases k with
 |true=>rw[if_pos rfl] at q ⊢;exact hb pins s2 σ _ Q I2 ⟨F1,τ,R1,q.imp fun d e=>e.ext x1⟩
 |false=>rw[if_neg (by simp)] at q ⊢;exact⟨x,_,I2,r1,q x F1 _ x1 r⟩
theorem Qc(ha:PDE X a fa)(hb:PDE X (.BoolOp .Or (b::rest) pos) fb):PDE X (.BoolOp .Or (a::b::rest) pos) (eOr fa fb):=by
 intro pins s σ H Q I ⟨F,τ,R,h⟩
 refine BoolOp_or (thn (ha pins s σ H _ I (tE.of R h.bind fun d v F1 H1 g x R1 r=>(⟨d,F1,g,x,R1,r⟩:∃d F1,Ok X ((je d).bind fun b=>if b=true then .ok d else fb τ) (Ev X.K F H Q)∧Ext F H F1 H1∧RV X.K F1 τ σ H1∧Rep X.K F1 d v))) fun v s1 ⟨x,H1,I1,r1,d,F1,g,x1,R1,r⟩=>?_)
 refine thn (tru_ok pins s1 σ H1 x v (fun b H2=>H2=H1∧Ok X (if b=true then .ok d else fb τ) (Ev X.K F H Q)) I1 r1 (WM (Q:=fun b H2=>H2=H1∧Ok X (if b=true then .ok d else fb τ) (Ev X.K F H Q)) R1.fh r (g.bind.imp fun b e=>⟨rfl,e⟩))) fun k s2 ⟨H2,I2,e2,q⟩=>?_
 subst e2
 cases k with
 |false=>rw[if_neg (by simp)] at q ⊢;exact hb pins s2 σ _ Q I2 ⟨F1,τ,R1,q.imp fun d e=>e.ext x1⟩
 |true=>rw[if_pos rfl] at q ⊢;exact⟨x,_,I2,r1,q x F1 _ x1 r⟩
end
section
variable{X:Cx}{pos:Pos}{e:Expr}{es:List Expr}{fe:FE}{fs:FA}
def zh:FA:=fun _=>.ok []
def za(f:FE)(g:FA):FA:=fun τ=>(f τ).bind fun x=>(g τ).bind fun r=>.ok (x::r)
theorem zg:PDA X [] zh:=PA.imp jl fun σ H Q ⟨F,τ,R,h⟩=>h [] F H (Ext.refl R.fh) Reps.nil
theorem zc(ha:PDE X e fe)(hr:PDA X es fs)(hs:starEach (e::es) X.env=(false,eval e X.env)::starEach es X.env:=by rfl):PDA X (e::es) (za fe fs):=
 PA.imp (vZ ha hr hs) fun σ H Q ⟨F,τ,R,h⟩=>tE.of R h.bind fun x v F1 H1 g x1 R1 r1=>tAs.of R1 g.bind fun ys vs F2 H2 g2 x2 R2 r2=>
  g2 (v::vs) F2 H2 (x1.trans x2) (Reps.cons (r1.mono x2.ff) r2)
def xQ(f:FA):FE:=fun τ=>(f τ).bind fun ds=>if ds.length≤sizeLine then .ok (.tup ds) else .no
def vF(f:FA):FE:=fun τ=>(f τ).bind fun ds=>if ds.length≤sizeLine then .ok (.lst ds) else .no
theorem yw{X:Cx}{α:Type}{c:Prop}[Decidable c]{a:α}{P:α→Prop}(h:Ok X (if c then .ok a else .no) P):c∧P a:=by
 by_cases z:c
 ·rw[if_pos z] at h;exact⟨z,h⟩
 ·rw[if_neg z] at h;exact h.elim
theorem xY{x1}(h:PDA X es fs):PDE X (.Tuple es x1 pos) (xQ fs):=
 PE.imp (J4 h) fun σ H Q ⟨F,τ,R,hq⟩=>tAs.of R hq.bind fun ds vs F1 H1 g x R1 r=>by
  obtain⟨z,g⟩:=yw g
  refine⟨by rw[← r.length];exact z,fun p hp=>g (.ref p) _ _ (x.trans (Ext.new R1.fh hp)) ?_⟩
  simp only[Rep]
  exact⟨p,vs,rfl,SqT.of zt,r.mono (yi (zP R1.fh hp))⟩
theorem vg(h:PDA X es fs):PDE X (.List es pos) (vF fs):=
 PE.imp (W2 h) fun σ H Q ⟨F,τ,R,hq⟩=>tAs.of R hq.bind fun ds vs F1 H1 g x R1 r=>by
  obtain⟨z,g⟩:=yw g
  refine⟨by rw[← r.length];exact z,fun p hp=>g (.ref p) _ _ (x.trans (Ext.new R1.fh hp)) ?_⟩
  simp only[Rep]
  exact⟨p,vs,rfl,zt,r.mono (yi (zP R1.fh hp))⟩
end
inductive Fl where
 | nx (τ:DS) | rt (d:D) | bk (τ:DS) | ct (τ:DS) | ex (c:Str) | no
 | rs (c:Str) (τ:DS)
 | ro (d:D) (τ:DS)
 | rb (i:Nat) (τ:DS)
def Nw(X:Cx)(H:Hp)(b:Addr):Prop:=H b=none∧X.s₀.heap.get? b=none∧∀p∈X.pn,p.1≠b
def ExcAt(X:Cx)(H:Hp)(h:Heap)(a:Addr)(cls:Value):Prop:=Nw X H a∧∃oe vs,h.get? a=some oe∧oe.cls=cls∧oe.dict=none∧oe.data=.fields vs ∧
 (vs[1]?=some .none∨∃T oT ts,vs[1]?=some (.ref T)∧Nw X H T∧T≠a∧h.get? T=some oT∧oT.data=.fields ts∧ts[3]?=some .none)∧vs[2]?=some .none
def XA(X:Cx)(c:Str)(σ:St)(H:Hp):Prop:=∀s a cls,nsIn X.K mainGlobals c=some (some cls)→Inv X [] σ H s→ExcAt X H s.heap a cls→X.xe (.ref a) s
abbrev FS:=DS→Fl
def Post(X:Cx)(B Z F:Hp)(E:WJ):Fl→Prop
 |.nx τ=>∀σ F' H',Same F F'→RS X.K B Z F' τ σ H'→E.nx σ H'
 |.bk τ=>∀σ F' H',Same F F'→RS X.K B Z F' τ σ H'→E.bk σ H'
 |.ct τ=>∀σ F' H',Same F F'→RS X.K B Z F' τ σ H'→E.ct σ H'
 |.rt d=>∀v F' H',Ext Z B F' H'→Rep X.K F' d v→E.rt v H'
 |.ex c=>Xob X c
 |.no=>False
 |.rs c τ=>∀σ F' H',Same F F'→RS X.K B Z F' τ σ H'→XA X c σ H'
 |.ro d τ=>∀v σ F' H',Same F F'→RS X.K B Z F' τ σ H'→Rep X.K F' d v→E.rt v H'
 |.rb i τ=>∀v σ F' H',Same F F'→RS X.K B Z F' τ σ H'→σ[i]?=some (some v)→E.rt v H'
theorem Post.same{X:Cx}{B Z F F1:Hp}{E:WJ}{r:Fl}(h:Post X B Z F E r)(f:Same F F1):Post X B Z F1 E r:=by
 cases r with
 |nx τ=>exact fun σ F' H' g R=>h σ F' H' (f.trans g) R
 |bk τ=>exact fun σ F' H' g R=>h σ F' H' (f.trans g) R
 |ct τ=>exact fun σ F' H' g R=>h σ F' H' (f.trans g) R
 |rt d=>exact h
 |ex c=>exact h
 |no=>exact h
 |rs c τ=>exact fun σ F' H' g R=>h σ F' H' (f.trans g) R
 |ro d τ=>exact fun v σ F' H' g R r=>h v σ F' H' (f.trans g) R r
 |rb i τ=>exact fun v σ F' H' g R r=>h v σ F' H' (f.trans g) R r
def tS(X:Cx)(f:FS):TS:=fun E σ H=>∃B Z F τ,RS X.K B Z F τ σ H∧Post X B Z F E (f τ)
def PDS(X:Cx)(st:Stmt)(f:FS):Prop:=PS X st (tS X f)
def Ya(X:Cx)(st:List Stmt)(f:FS):Prop:=PSs X st (tS X f)
def Fl.of{α:Type}(r:Rs α)(k:α→Fl):Fl:=match r with
 |.ok a=>k a
 |.ex c=>.ex c
 |.no=>.no
@[simp] theorem Fl.of_ok{α:Type}(a:α)(k:α→Fl):Fl.of (.ok a) k=k a:=rfl
theorem Post.of{X:Cx}{B Z F:Hp}{E:WJ}{α:Type}{r:Rs α}{k:α→Fl}(h:Post X B Z F E (Fl.of r k)):Ok X r fun a=>Post X B Z F E (k a):=by
 cases r <;> exact h
section
variable{X:Cx}{pos:Pos}{e:Expr}{es:List Expr}{fe:FE}{fs:FA}{st:Stmt}{rest:List Stmt}{f g:FS}{c:Expr}{gc:FT}
def yv:FS:=fun τ=>.nx τ
def zx(f g:FS):FS:=fun τ=>match f τ with
 |.nx τ'=>g τ'
 |r=>r
theorem yt:Ya X [] yv:=PSs.imp VH fun E σ H ⟨B,Z,F,τ,R,h⟩=>h σ F H (Same.refl F) R
theorem zp(h:PDS X st f):Ya X [st] f:=j9 h
theorem zm(h1:PDS X st f)(h2:Ya X rest g):Ya X (st::rest) (zx f g):=
 PSs.imp (uL h1 h2) fun E σ H ⟨B,Z,F,τ,R,h⟩=>by
  refine⟨B,Z,F,τ,R,?_⟩
  unfold zx at h
  cases q:f τ with
  |nx τ'=>rw[q] at h;exact fun σ' F' H' ff R'=>⟨B,Z,F',τ',R',Post.same h ff⟩
  |rt d=>rw[q] at h;exact h
  |bk d=>rw[q] at h;exact h
  |ct d=>rw[q] at h;exact h
  |ex d=>rw[q] at h;exact h
  |no=>rw[q] at h;exact h
  |rs c d=>rw[q] at h;exact h
  |ro c d=>rw[q] at h;exact h
  |rb c d=>rw[q] at h;exact h
def y3(fe:FE):FS:=fun τ=>Fl.of (fe τ) fun d=>.rt d
theorem tE.at{B Z F H:Hp}{τ:DS}{σ:St}{Q:VK}{G:D→Prop}(R:RS X.K B Z F τ σ H)(h:Ok X (fe τ) G)
  (k:∀d v F1 H1,G d→Ext F H F1 H1→RS X.K B Z F1 τ σ H1→Rep X.K F1 d v→Q v H1):tE X fe σ H Q:=
 tE.of R.rv h fun d v F1 H1 g x _ r=>k d v F1 H1 g x (R.ext x) r
theorem zO(he:PDE X e fe):PDS X (.Return (some e) pos) (y3 fe):=
 PS.imp (W1 he) fun E σ H ⟨B,Z,F,τ,R,h⟩=>tE.at R h.of fun d v F1 H1 g x R1 r=>g v F1 H1 R1.out r
def sIf(gc:FT)(f g:FS):FS:=fun τ=>Fl.of (gc τ) fun b=>if b=true then f τ else g τ
theorem xq{a b:List Stmt}(hc:PDT X c gc)(ha:Ya X a f)(hb:Ya X b g):PDS X (.If c a b pos) (sIf gc f g):=
 PS.imp (Tu hc ha hb) fun E σ H ⟨B,Z,F,τ,R,h⟩=>tTs.of R.rv h.of fun k F1 H1 q x _=>by
  cases k with
  |true=>rw[if_pos rfl] at q ⊢;exact⟨B,Z,F1,τ,R.ext x,q.same x.ff⟩
  |false=>rw[if_neg (by simp)] at q ⊢;exact⟨B,Z,F1,τ,R.ext x,q.same x.ff⟩
theorem RV.set{K:PySem.W.Frag}{F H:Hp}{τ:DS}{σ:St}{i:Nat}{d:D}{v:V}(R:RV K F τ σ H)(r:Rep K F d v):RV K F (τ.set i (some (.val d))) (σ.set i (some v)) H:=by
 refine⟨R.fh,by simp[R.len],fun j e h=>?_,fun j es h=>?_,fun j k ds es a hjk h1 h2 h3 h4=>?_,?_,?_⟩
 ·by_cases hij:i=j
  ·subst hij
   have hlt:i<τ.length:=by
    rcases lt_or_ge i τ.length with z|z
    ·exact z
    ·rw[List.getElem?_eq_none_iff.mpr (by simpa using z)] at h;cases h
   rw[getElem?_set_self hlt] at h
   cases h
   exact⟨v,by rw[getElem?_set_self (by rw[← R.len];exact hlt)],r⟩
  ·rw[getElem?_set_ne hij] at h ⊢
   exact R.val j e h
 ·by_cases hij:i=j
  ·subst hij
   rw[getElem?_set] at h
   simp only[if_true] at h
   split at h <;> cases h
  ·rw[getElem?_set_ne hij] at h ⊢
   exact R.own j es h
 ·have n1:i≠j:=fun z=>by
   subst z
   rw[getElem?_set] at h1
   simp only[if_true] at h1
   split at h1 <;> cases h1
  have n2:i≠k:=fun z=>by
   subst z
   rw[getElem?_set] at h2
   simp only[if_true] at h2
   split at h2 <;> cases h2
  rw[getElem?_set_ne n1] at h1 h3
  rw[getElem?_set_ne n2] at h2 h4
  exact R.dis j k ds es a hjk h1 h2 h3 h4
 ·exact R.tt
 ·exact R.ob.put rfl fun _ _ z=>by cases z
theorem RS.set{K:PySem.W.Frag}{B Z F H:Hp}{τ:DS}{σ:St}{i:Nat}{d:D}{v:V}(R:RS K B Z F τ σ H)(r:Rep K F d v):RS K B Z F (τ.set i (some (.val d))) (σ.set i (some v)) H:=
 ⟨R.rv.set r,R.bh,R.zf,R.nb,fun j ds a h1 h2=>by
  have n1:i≠j:=fun z=>by
   subst z
   rw[getElem?_set] at h1
   simp only[if_true] at h1
   split at h1 <;> cases h1
  rw[getElem?_set_ne n1] at h1 h2
  exact R.ob j ds a h1 h2,fun j m c fs a h1 h2=>by
  obtain⟨n,h1⟩:=yB (s:=some (.val d)) rfl rfl h1
  rw[getElem?_set_ne n] at h2
  exact R.oo j m c fs a h1 h2,fun a0 dx b1 b2 j m c fs h=>by
  obtain⟨n,h⟩:=yB (s:=some (.val d)) rfl rfl h
  rw[getElem?_set_ne n]
  exact R.sf a0 dx b1 b2 j m c fs h,fun j c fs a h1 h2=>by
  obtain⟨n,h1⟩:=yB (s:=some (.val d)) rfl rfl h1
  rw[getElem?_set_ne n] at h2
  exact R.ro j c fs a h1 h2⟩
def yd(i:Nat)(fe:FE):FS:=fun τ=>Fl.of (fe τ) fun d=>.nx (τ.set i (some (.val d)))
theorem zN{i:Nat}{x:Str}{pos':Pos}(hN:X.N.Nodup)(hi:X.N[i]?=some x)(hx:Loc X.env.scope x)(he:PDE X e fe)(hs:swapsWith e (some (.Name x pos')) pos.line X.env=pure false:=by rfl)(hf:X.fn x=true∨X.env.scope.names.lookup x=some .local:=by first|exact .inl rfl|exact .inr rfl|assumption) :
  PDS X (.Assign [.Name x pos'] e pos) (yd i fe):=
 PS.imp (W0 hN hi hx he hs hf) fun E σ H ⟨B,Z,F,τ,R,h⟩=>tE.at R h.of fun d v F1 H1 g x R1 r=>g _ F1 H1 x.ff (R1.set r)
def tFr(X:Cx)(f:FA):TE:=fun σ H Q=>∃F τ,RV X.K F τ σ H∧Ok X (f τ) fun ds=>∀p vs F' H',Ext F H F' H'→H' p=none→Reps X.K F' ds vs→Q (.ref p) (upd H' p (.lst vs))
def PDF(X:Cx)(e:Expr)(f:FA):Prop:=PE X e (tFr X f)
theorem VQ(h:PDA X es fs):PDF X (.List es pos) (fun τ=>(fs τ).bind fun ds=>if ds.length≤sizeLine then .ok ds else .no):=
 PE.imp (W2 h) fun σ H Q ⟨F,τ,R,hq⟩=>tAs.of R hq.bind fun ds vs F1 H1 g x R1 r=>by
  obtain⟨z,g⟩:=yw g
  exact⟨by rw[← r.length];exact z,fun p hp=>g p vs F1 H1 x hp r⟩
theorem vh{ff:FA}(h:PDF X e ff):PDE X e (fun τ=>(ff τ).bind fun ds=>.ok (.lst ds)):=
 PE.imp h fun σ H Q ⟨F,τ,R,hq⟩=>⟨F,τ,R,hq.bind.imp fun ds g p vs F1 H1 x hp r=>by
  refine g (.ref p) _ _ (x.trans (Ext.new x.fh hp)) ?_
  simp only[Rep]
  exact⟨p,vs,rfl,zt,r.mono (yi (zP x.fh hp))⟩⟩
def vA(i:Nat)(ff:FA):FS:=fun τ=>Fl.of (ff τ) fun ds=>.nx (τ.set i (some (.own ds)))
theorem RV.setO{K:PySem.W.Frag}{F H:Hp}{τ:DS}{σ:St}{i:Nat}{p:Addr}{ds:List D}{vs:List V}(R:RV K F τ σ H)(hp:H p=none)(r:Reps K F ds vs):RV K F (τ.set i (some (.own ds))) (σ.set i (some (.ref p))) (upd H p (.lst vs)):=by
 have nofr:=zP R.fh hp
 have hlt:∀{o:Sl},(τ.set i (some (.own ds)))[i]?=some (some o)→i<τ.length:=fun {o} h=>by
  rcases lt_or_ge i τ.length with z|z
  ·exact z
  ·rw[List.getElem?_eq_none_iff.mpr (by simpa using z)] at h;cases h
 refine⟨R.fh.trans (yi hp),by simp[R.len],fun j e h=>?_,fun j es h=>?_,fun j k es es' a hjk h1 h2 h3 h4=>?_,?_,?_⟩
 ·by_cases hij:i=j
  ·subst hij
   rw[getElem?_set_self (hlt h)] at h;cases h
  ·rw[getElem?_set_ne hij] at h ⊢
   exact R.val j e h
 ·by_cases hij:i=j
  ·subst hij
   have l:=hlt h
   rw[getElem?_set_self l] at h
   cases h
   exact⟨p,vs,by rw[getElem?_set_self (by rw[← R.len];exact l)],zt,nofr,r⟩
  ·rw[getElem?_set_ne hij] at h ⊢
   obtain⟨a,ws,q1,q2,q3,q4⟩:=R.own j es h
   exact⟨a,ws,q1,by rw[zn (yh q2 hp)];exact q2,q3,q4⟩
 ·by_cases n1:i=j
  ·subst n1
   rw[getElem?_set_ne hjk] at h2 h4
   obtain⟨a',ws,q1,q2,q3,q4⟩:=R.own k es' h2
   rw[q1] at h4;cases h4
   have l:=hlt h1
   rw[getElem?_set_self (by rw[← R.len];exact l)] at h3
   cases h3
   rw[hp] at q2;cases q2
  ·by_cases n2:i=k
   ·subst n2
    rw[getElem?_set_ne (Ne.symm hjk)] at h1 h3
    obtain⟨a',ws,q1,q2,q3,q4⟩:=R.own j es h1
    rw[q1] at h3;cases h3
    have l:=hlt h2
    rw[getElem?_set_self (by rw[← R.len];exact l)] at h4
    cases h4
    rw[hp] at q2;cases q2
   ·rw[getElem?_set_ne n1] at h1 h3
    rw[getElem?_set_ne n2] at h2 h4
    exact R.dis j k es es' a hjk h1 h2 h3 h4
 ·exact R.tt.step (fun _ _ e=>.inl e) (fun b o e _=>by rw[zn (yh e hp)];exact e) (jp fun _ z=>nomatch z)
 ·have o1:ObsOk K F (τ.set i (some (.own ds))) (σ.set i (some (.ref p))) H:=R.ob.put rfl fun _ l _ z=>by
   cases z;exact R.ob.fresh hp
  exact o1.updL (.inl hp) (o1.fresh hp)
theorem RS.setO{K:PySem.W.Frag}{B Z F H:Hp}{τ:DS}{σ:St}{i:Nat}{p:Addr}{ds:List D}{vs:List V}(R:RS K B Z F τ σ H)(hp:H p=none)(r:Reps K F ds vs):RS K B Z F (τ.set i (some (.own ds))) (σ.set i (some (.ref p))) (upd H p (.lst vs)):=
 ⟨R.rv.setO hp r,R.bh.trans (.of (yi hp)),R.zf,R.nb,fun j es a h1 h2=>by
  by_cases n1:i=j
  ·subst n1
   have l:i<τ.length:=by
    rcases lt_or_ge i τ.length with z|z
    ·exact z
    ·rw[List.getElem?_eq_none_iff.mpr (by simpa using z)] at h1;cases h1
   rw[getElem?_set_self (by rw[← R.rv.len];exact l)] at h2
   cases h2
   exact wy R.bh hp
  ·rw[getElem?_set_ne n1] at h1 h2
   exact R.ob j es a h1 h2,fun j m c fs a h1 h2=>by
  obtain⟨n,h1⟩:=yB (s:=some (.own ds)) rfl rfl h1
  rw[getElem?_set_ne n] at h2
  rw[R.rv.ob.lof (.inl ⟨m,fs,h1⟩) h2 (.inl hp)]
  exact R.oo j m c fs a h1 h2,fun a0 dx b1 b2 j m c fs h=>by
  obtain⟨n,h⟩:=yB (s:=some (.own ds)) rfl rfl h
  rw[getElem?_set_ne n]
  exact R.sf a0 dx b1 b2 j m c fs h,fun j c fs a h1 h2=>by
  obtain⟨n,h1⟩:=yB (s:=some (.own ds)) rfl rfl h1
  rw[getElem?_set_ne n] at h2
  exact R.ro j c fs a h1 h2⟩
theorem XW{i:Nat}{x:Str}{pos':Pos}{ff:FA}(hN:X.N.Nodup)(hi:X.N[i]?=some x)(hx:Loc X.env.scope x)(he:PDF X e ff)(hs:swapsWith e (some (.Name x pos')) pos.line X.env=pure false:=by rfl)(hf:X.fn x=true∨X.env.scope.names.lookup x=some .local:=by first|exact .inl rfl|exact .inr rfl|assumption) :
  PDS X (.Assign [.Name x pos'] e pos) (vA i ff):=
 PS.imp (W0 hN hi hx he hs hf) fun E σ H ⟨B,Z,F,τ,R,h⟩=>⟨F,τ,R.rv,h.of.imp fun ds g p vs F1 H1 x hp r=>g _ F1 _ x.ff ((R.ext x).setO hp r)⟩
theorem RV.own_upd{K:PySem.W.Frag}{F H:Hp}{τ:DS}{σ:St}{i:Nat}{p:Addr}{ds es:List D}{ws:List V}(R:RV K F τ σ H)(h:τ[i]?=some (some (.own ds)))(hp:σ[i]?=some (some (.ref p)))(r:Reps K F es ws) :
  RV K F (τ.set i (some (.own es))) σ (upd H p (.lst ws)):=by
 obtain⟨a,vs,q1,q2,q3,q4⟩:=R.own i ds h
 rw[q1] at hp;cases hp
 have l:i<τ.length:=(List.getElem?_eq_some_iff.mp h).1
 refine⟨fun b o e=>?_,by simp[R.len],fun j e h'=>?_,fun j es' h'=>?_,fun j k e1 e2 b hjk h1 h2 h3 h4=>?_,?_,?_⟩
 ·have n:b≠p:=fun z=>by subst z;rw[q3] at e;cases e
  rw[zn n];exact R.fh b o e
 ·by_cases hij:i=j
  ·subst hij;rw[getElem?_set_self l] at h';cases h'
  ·rw[getElem?_set_ne hij] at h';exact R.val j e h'
 ·by_cases hij:i=j
  ·subst hij
   rw[getElem?_set_self l] at h';cases h'
   exact⟨p,ws,q1,zt,q3,r⟩
  ·rw[getElem?_set_ne hij] at h'
   obtain⟨a',vs',z1,z2,z3,z4⟩:=R.own j es' h'
   have n:a'≠p:=fun z=>by subst z;exact R.dis i j ds es' a' hij h h' q1 z1
   exact⟨a',vs',z1,by rw[zn n];exact z2,z3,z4⟩
 ·have:∀{m:Nat} {e:List D},(τ.set i (some (.own es)))[m]?=some (some (.own e))→∃e',τ[m]?=some (some (.own e')):=fun {m e} z=>by
   by_cases him:i=m
   ·subst him;exact⟨ds,h⟩
   ·rw[getElem?_set_ne him] at z;exact⟨e,z⟩
  obtain⟨x1,y1⟩:=this h1
  obtain⟨x2,y2⟩:=this h2
  exact R.dis j k x1 x2 b hjk y1 y2 h3 h4
 ·exact R.tt.step (fun _ _ e=>.inl e) (fun b o e n=>by
   have:b≠p:=fun z=>by subst z;rw[q2] at e;cases e;exact n _ rfl
   rw[zn this];exact e) (jp fun _ z=>nomatch z)
 ·exact(R.ob.updL (.inr ⟨vs,q2⟩) fun j c a g1 g2 hl=>R.ob.lo j i c ds a p g1 h g2 q1 hl).putS h
theorem RS.own_upd{K:PySem.W.Frag}{B Z F H:Hp}{τ:DS}{σ:St}{i:Nat}{p:Addr}{ds es:List D}{ws:List V}(R:RS K B Z F τ σ H)(h:τ[i]?=some (some (.own ds)))(hp:σ[i]?=some (some (.ref p)))(r:Reps K F es ws) :
  RS K B Z F (τ.set i (some (.own es))) σ (upd H p (.lst ws)):=by
 have hb:=R.ob i ds p h hp
 refine⟨R.rv.own_upd h hp r,fun b o e=>?_,R.zf,R.nb,fun j e a h1 h2=>?_,fun j m c fs a h1 h2=>?_,fun a0 dx b1 b2 j m c fs h=>R.sf a0 dx b1 b2 j m c fs (yB (s:=some (.own es)) rfl rfl h).2,fun j c fs a h1 h2=>R.ro j c fs a (yB (s:=some (.own es)) rfl rfl h1).2 h2⟩
 ·have n:b≠p:=fun z=>by subst z;rw[hb] at e;cases e
  rw[zn n];exact R.bh b o e
 ·by_cases him:i=j
  ·subst him;exact R.ob i ds a h h2
  ·rw[getElem?_set_ne him] at h1;exact R.ob j e a h1 h2
 ·have h1:=(yB (s:=some (.own es)) rfl rfl h1).2
  obtain⟨p',vs,q1,q2,_⟩:=R.rv.own i ds h
  rw[q1] at hp;cases hp
  rw[R.rv.ob.lof (.inl ⟨m,fs,h1⟩) h2 (.inr ⟨vs,q2⟩)]
  exact R.oo j m c fs a h1 h2
def ue(τ:DS)(i:Nat):Rs (List D):=match τ[i]? with
 | some (some (.own ds))=>.ok ds
 |_=>.no
theorem vK{τ:DS}{i:Nat}{P:List D→Prop}(h:Ok X (ue τ i) P):∃ds,τ[i]?=some (some (.own ds))∧P ds:=by
 unfold ue at h
 cases q:τ[i]? with
 |none=>rw[q] at h;exact h.elim
 |some o=>
  cases o with
  |none=>rw[q] at h;exact h.elim
  |some sl=>
   cases sl with
   |val d=>rw[q] at h;exact h.elim
   |obj n c fs=>rw[q] at h;exact h.elim
   |obr c fs=>rw[q] at h;exact h.elim
   |own ds=>rw[q] at h;exact⟨ds,rfl,h⟩
def XN(i:Nat)(fe:FE):FS:=fun τ=>Fl.of (ue τ i) fun ds=>Fl.of (fe τ) fun d=>if ds.length<sizeLine then .nx (τ.set i (some (.own (ds++[d])))) else .no
theorem VP{i:Nat}{x:Str}{p1 apos cpos:Pos}(hx:PE X (.Name x p1) (wY i))(he:PDE X e fe)
  (hfew:((backTo cpos (starEach [e] X.env)).all (fun x=>!x.1)&&(backToKw cpos (keywordEach [] X.env)).all (fun x=>x.1.isSome)
   && decide ([e].length+([]:List Keyword).length+(if ([]:List Keyword).isEmpty then 0 else 1)<30))=true:=by rfl)
  (hline:(apos.endLine==cpos.line)=true:=by rfl) (hs:starEach [e] X.env=[(false,eval e X.env)]:=by rfl) (hplain:(backTo cpos (starEach [] X.env)).any (·.1)=false:=by rfl)
  (hbase:attributeBase (.Name x p1) "append" X.env (eval (.Name x p1) X.env)=eval (.Name x p1) X.env:=by rfl)
  (hsw:swapsWith (.Call (.Attribute (.Name x p1) "append" apos) [e] [] cpos) none pos.line X.env=pure false:=by rfl) :
  PDS X (.Expr (.Call (.Attribute (.Name x p1) "append" apos) [e] [] cpos) pos) (XN i fe):=
 PS.imp (VI (Tx PySem.F.plainAttrs_list PySem.F.slot_list_append PySem.F.type_list_append jt hx (vZ he jl (by rw[hs];rfl)) hbase hfew hline (by rw[hs];rfl) hplain) hsw) fun E σ H ⟨B,Z,F,τ,R,h⟩=>by
  obtain⟨ds,h1,h2⟩:=vK (X:=X) (Post.of h)
  obtain⟨a,vs,q1,q2,q3,q4⟩:=R.rv.own i ds h1
  refine⟨_,q1,.inl ⟨rfl,vs,SqL.of q2⟩,?_⟩
  refine tE.at R h2.of fun d v F1 H1 g x R1 r=>?_
  by_cases z:ds.length<sizeLine
  ·rw[if_pos z] at g
   refine⟨a,vs,v,rfl,rfl,x.hh _ _ q2,by rw[← q4.length];exact z,?_⟩
   exact g _ F1 _ x.ff (R1.own_upd h1 q1 ((q4.mono x.ff).append (Reps.cons r Reps.nil)))
  ·rw[if_neg z] at g;exact g.elim
def UI(i:Nat)(fi fe:FE):FS:=fun τ=>Fl.of (fe τ) fun d=>Fl.of (ue τ i) fun ds=>Fl.of (fi τ) fun k=>match k with
 |.int k=>match ixN ds.length k with
  |some j=>.nx (τ.set i (some (.own (ds.set j d))))
  |none=>.no
 |_=>.no
theorem Mq{i:Nat}{x:Str}{p1 spos:Pos}{ix:Expr}{fi:FE}(hx:PE X (.Name x p1) (wY i))(hi:PDE X ix fi)(he:PDE X e fe)
  (ha:∀v,assign (.Subscript (.Name x p1) ix spos) X.env v=(do
   let ov ← holding [v] (eval (.Name x p1) X.env)
   let iv ← holding [v,ov] (eval ix X.env)
   standAt spos
   holding [v,ov,iv] (setItem ov iv v)
   release [v,ov,iv] []):=by intro _;rfl)
  (hs:swapsWithSole [.Subscript (.Name x p1) ix spos] e pos.line X.env=pure false:=by rfl) (hw:swappedStores [.Subscript (.Name x p1) ix spos] e X.env=pure none:=by rfl)
  (h1:(assignEach [.Subscript (.Name x p1) ix spos] X.env).map (·.2)=[assign (.Subscript (.Name x p1) ix spos) X.env]:=by rfl) :
  PDS X (.Assign [.Subscript (.Name x p1) ix spos] e pos) (UI i fi fe):=
 PS.imp (Lh he (Ll hx hi JN ha) hs hw h1) fun E σ H ⟨B,Z,F,τ,R,h⟩=>by
  refine tE.at R h.of fun d v F1 H1 g x R1 r=>?_
  obtain⟨ds,h1,h2⟩:=vK (X:=X) (Post.of g)
  obtain⟨a,vs,q1,q2,q3,q4⟩:=R1.rv.own i ds h1
  refine⟨_,q1,?_⟩
  refine tE.at R1 h2.of fun k w F2 H2 g2 x2 R2 r2=>?_
  cases k with
  |int k=>
   simp only[Rep] at r2
   simp only at g2
   cases q:ixN ds.length k with
   |none=>rw[q] at g2;exact g2.elim
   |some j=>
    rw[q] at g2
    refine⟨a,vs,k,j,rfl,r2,x2.hh _ _ q2,by rw[← q4.length];exact q,?_⟩
    exact g2 _ F2 _ (x.ff.trans x2.ff) (R2.own_upd h1 q1 (Reps.set (r.mono x2.ff) j (q4.mono x2.ff)))
  |_=>exact g2.elim
def vJ(i:Nat):FS:=fun τ=>Fl.of (ue τ i) fun ds=>.rt (.lst ds)
theorem Zx{i:Nat}{x:Str}{p1:Pos}(hx:PE X (.Name x p1) (wY i)):PDS X (.Return (some (.Name x p1)) pos) (vJ i):=
 PS.imp (W1 hx) fun E σ H ⟨B,Z,F,τ,R,h⟩=>by
  obtain⟨ds,h1,h2⟩:=vK (X:=X) (Post.of h)
  obtain⟨a,vs,q1,q2,q3,q4⟩:=R.rv.own i ds h1
  have hb:=R.ob i ds a h1 q1
  refine⟨_,q1,h2 (.ref a) (upd F a (.lst vs)) H ⟨?_,R.bh,fun b o e=>?_,fun b o e=>?_,fun _=>R.rv.tt.freeze q2⟩ ?_⟩
  ·exact R.zf.trans (yi q3)
  ·by_cases z:b=a
   ·subst z;rw[zt] at e;cases e;exact q2
   ·rw[zn z] at e;exact R.rv.fh b o e
  ·by_cases z:b=a
   ·subst z;exact .inr hb
   ·rw[zn z] at e;exact R.nb b o e
  ·simp only[Rep]
   exact⟨a,vs,rfl,zt,q4.mono (yi q3)⟩
def Jk(i:Nat)(fi:FE):FE:=fun τ=>(ue τ i).bind fun ds=>(fi τ).bind fun k=>match k with
 |.int k=>match atI ds k with
  |some d=>.ok d
  |none=>.no
 |_=>.no
theorem Z8{K:PySem.W.Frag}{F:Hp}{ds:List D}{vs:List V}{k:Int}{d:D}(r:Reps K F ds vs)(h:atI ds k=some d):∃v,atI vs k=some v∧Rep K F d v:=by
 unfold atI at h ⊢
 rw[← r.length]
 cases q:ixN ds.length k with
 |none=>rw[q] at h;cases h
 |some j=>
  rw[q] at h
  exact r.get h
theorem Mr{i:Nat}{x:Str}{p1:Pos}{ix:Expr}{fi:FE}(hx:PE X (.Name x p1) (wY i))(hi:PDE X ix fi)(hs:Xv ix:=by intro _ _;rfl):PDE X (.Subscript (.Name x p1) ix pos) (Jk i fi):=
 PE.imp (Tw ix_list hx hi hs) fun σ H Q ⟨F,τ,R,h⟩=>by
  obtain⟨ds,h1,h2⟩:=vK (X:=X) (Ok.bind h)
  obtain⟨a,vs,q1,q2,q3,q4⟩:=R.own i ds h1
  refine⟨_,q1,?_⟩
  refine tE.of R h2.bind fun k w F2 H2 g2 x2 R2 r2=>?_
  cases k with
  |int k=>
   simp only[Rep] at r2
   simp only at g2
   cases q:atI ds k with
   |none=>rw[q] at g2;exact g2.elim
   |some d=>
    rw[q] at g2
    obtain⟨v,z1,z2⟩:=Z8 q4 q
    exact⟨a,vs,k,v,rfl,r2,SqL.of (x2.hh _ _ q2),z1,g2 v F2 H2 x2 (z2.mono x2.ff)⟩
  |_=>exact g2.elim
def Wu(i:Nat):FE:=fun τ=>(ue τ i).bind fun ds=>.ok (.int ds.length)
theorem Qd{i:Nat}{x:Str}{p1 p:Pos}(hx:PE X (.Name x p1) (wY i))(hg:Gl X "len")(hm:X.mg "len" = none)
  (he:starEach [.Name x p1] X.env=[(false,eval (.Name x p1) X.env)]:=by rfl) (hpl:(backTo pos (starEach [] X.env)).any (·.1)=false:=by rfl):PDE X (.Call (.Name "len" p) [.Name x p1] [] pos) (Wu i):=
 PE.imp (pe_callB call_len_seq hg hm PySem.boot_len (vZ hx jl (by rw[he];rfl)) (he:=by rw[he];rfl) (hpl:=hpl)) fun σ H Q ⟨F,τ,R,h⟩=>by
  obtain⟨ds,h1,h2⟩:=vK (X:=X) (Ok.bind h)
  obtain⟨a,vs,q1,q2,q3,q4⟩:=R.own i ds h1
  refine⟨_,q1,a,vs,rfl,.inl (SqL.of q2),?_⟩
  rw[← q4.length]
  exact h2 (.int ds.length) F H (Ext.refl R.fh) (by simp only[Rep])
end
def Jv(K:PySem.W.Frag)(J:It)(F1:Hp)(ds:List D):Prop:=∀(i:Nat) (F H:Hp),Same F1 F→Same F H →
 (ds.length≤i→J.stop i H)∧∀d,ds[i]?=some d→J.go i H∧∀x H',J.yld i H x H'→∃F',Ext F H F' H'∧Rep K F' d x
def tI(X:Cx)(f:FA):TI:=fun σ H R=>∃F τ,RV X.K F τ σ H∧Ok X (f τ) fun ds=>∀J F1 H1,Ext F H F1 H1→Jv X.K J F1 ds→R J H1
def PDI(X:Cx)(tg iter:Expr)(f:FA):Prop:=PI X tg iter (tI X f)
theorem _root_.L2.PI.imp{X:Cx}{tg e:Expr}{t t':TI}(h:PI X tg e t)(f:∀σ H Q,t' σ H Q→t σ H Q):PI X tg e t':=fun pins s σ H Q I q=>h pins s σ H Q I (f _ _ _ q)
section
variable{X:Cx}{pos:Pos}{e tg:Expr}{es:List Expr}{fe:FE}{fs:FA}
theorem V8{K:PySem.W.Frag}{a:Addr}{F1:Hp}{ds:List D}{vs:List V}(e:SqL K F1 a vs)(r:Reps K F1 ds vs):Jv K (Itl K a) F1 ds:=fun i F H f1 f2=>by
 have q:SqL K H a vs:=(f1.trans f2).seq e
 refine⟨fun h=>⟨vs,q,by rw[← r.length];exact h⟩,fun d hd=>?_⟩
 obtain⟨v,h1,h2⟩:=r.get hd
 refine⟨⟨vs,v,q,h1⟩,fun x H' y=>?_⟩
 obtain⟨e1,y⟩:=y
 subst e1
 have h3:=y vs q
 rw[h1] at h3;cases h3
 exact⟨F,Ext.refl f2,h2.mono f1⟩
theorem L0{K:PySem.W.Frag}{a:Addr}{F1:Hp}{ds:List D}{vs:List V}(e:SqT K F1 a vs)(r:Reps K F1 ds vs):Jv K (Itt K a) F1 ds:=fun i F H f1 f2=>by
 have q:SqT K H a vs:=Same.seqT (f1.trans f2) e
 refine⟨fun h=>⟨vs,q,by rw[← r.length];exact h⟩,fun d hd=>?_⟩
 obtain⟨v,h1,h2⟩:=r.get hd
 refine⟨⟨vs,v,q,h1⟩,fun x H' y=>?_⟩
 obtain⟨e1,y⟩:=y
 subst e1
 have h3:=y vs q
 rw[h1] at h3;cases h3
 exact⟨F,Ext.refl f2,h2.mono f1⟩
def uu(lo:Int)(n:Nat):List D:=(List.range n).map fun (k:Nat)=>D.int (lo+k)
theorem L3{K:PySem.W.Frag}{F1:Hp}{lo:Int}{n:Nat}:Jv K (Itr lo n) F1 (uu lo n):=fun i F H f1 f2=>by
 have hl:(uu lo n).length=n:=by simp[uu]
 refine⟨fun h=>by rw[hl] at h;exact h,fun d hd=>?_⟩
 have hi:i<n:=by have:=(List.getElem?_eq_some_iff.mp hd).1;rw[hl] at this;exact this
 refine⟨hi,fun x H' y=>?_⟩
 obtain⟨e1,y⟩:=y
 subst e1
 refine⟨F,Ext.refl f2,?_⟩
 simp[uu,hi] at hd
 subst hd
 simp only[Rep];exact y
def Ve:List D→Option Int
 |[.int j]=>some j
 |_=>none
def Vd:List D→Option (Int×Int)
 |[.int i,.int j]=>some (i,j)
 |_=>none
def ZB:D→Option (D×D)
 |.tup [x,y]=>some (x,y)
 |_=>none
theorem Ub{ds:List D}{j:Int}(h:Ve ds=some j):ds=[.int j]:=by
 unfold Ve at h;split at h <;> cases h;rfl
theorem Ua{ds:List D}{i j:Int}(h:Vd ds=some (i,j)):ds=[.int i,.int j]:=by
 unfold Vd at h;split at h <;> cases h;rfl
theorem Qh{d x y:D}(h:ZB d=some (x,y)):d=.tup [x,y]:=by
 unfold ZB at h;split at h <;> cases h;rfl
def vq(fs:FA):FA:=fun τ=>(fs τ).bind fun ds=>match Ve ds with
 |some j=>if -(2 ^ 62)≤j∧j<2 ^ 62 then .ok (uu 0 j.toNat) else .no
 |none=>.no
theorem wv{a:Expr}{p:Pos}(hg:Gl X "range")(hm:X.mg "range" = none)(ha:PDA X [a] fs)(hs:starEach [a] X.env=[(false,eval a X.env)]:=by rfl):PDI X tg (.Call (.Name "range" p) [a] [] pos) (vq fs):=
 PI.imp (UO hg hm ha hs) fun σ H R ⟨F,τ,Rv,h⟩=>tAs.of Rv h.bind fun ds vs F1 H1 g x R1 r=>by
  cases q1:Ve ds with
  |none=>rw[q1] at g;exact g.elim
  |some j=>
   rw[q1] at g
   have e:=Ub q1
   subst e
   obtain⟨v,rfl,q⟩:=r.one
   simp only[Rep] at q;subst q
   obtain⟨z,g⟩:=yw g
   exact⟨j,rfl,z.1,z.2,g _ F1 H1 x L3⟩
abbrev FG:=D→DS→Rs DS
def tG(X:Cx)(set:FG):TG:=fun v σ H Q=>∃F τ d,RV X.K F τ σ H∧Rep X.K F d v∧Ok X (set d τ) fun τ'=>∀σ',RV X.K F τ' σ' H→(∀B Z,RS X.K B Z F τ σ H→RS X.K B Z F τ' σ' H)→σ'.length=σ.length→Q σ' H
def PDG(X:Cx)(tg:Expr)(set:FG):Prop:=PG X tg (tG X set)
theorem _root_.L2.PG.imp{X:Cx}{e:Expr}{t t':TG}(h:PG X e t)(f:∀v σ H Q,t' v σ H Q→t v σ H Q):PG X e t':=fun pins s σ H v u Q I r q=>h pins s σ H v u Q I r (f _ _ _ _ q)
def gNm(i:Nat):FG:=fun d τ=>.ok (τ.set i (some (.val d)))
theorem yU{i:Nat}{x:Str}(hN:X.N.Nodup)(hi:X.N[i]?=some x)(hx:Loc X.env.scope x)(hf:X.fn x=true∨X.env.scope.names.lookup x=some .local:=by first|exact .inl rfl|exact .inr rfl|assumption):PDG X (.Name x pos) (gNm i):=
 PG.imp (uM hN hi hx hf) fun v σ H Q ⟨F,τ,d,R,r,h⟩=>h _ (R.set r) (fun B Z R'=>R'.set r) (by simp)
def gPr(i j:Nat):FG:=fun d τ=>match ZB d with
 | some (x,y)=>.ok ((τ.set i (some (.val x))).set j (some (.val y)))
 |none=>.no
theorem uO{i j k:Nat}{x y:Str}{px py:Pos}(hc:X.calm=true)(hN:X.N.Nodup)(hi:X.N[i]?=some x)(hx:Loc X.env.scope x)(hj:X.N[j]?=some y)(hy:Loc X.env.scope y)
  (hf:X.fn x=true∨X.env.scope.names.lookup x=some .local:=by first|exact .inl rfl|exact .inr rfl|assumption) (hf':X.fn y=true∨X.env.scope.names.lookup y=some .local:=by first|exact .inl rfl|exact .inr rfl|assumption) :
  PDG X (.Tuple [.Name x px,.Name y py] k pos) (gPr i j):=
 PG.imp (Lk (n:=2) hc (XT (uM hN hi hx hf) (XT (uM hN hj hy hf') Ml))) fun v σ H Q ⟨F,τ,d,R,r,h⟩=>by
  unfold gPr at h
  cases q1:ZB d with
  |none=>rw[q1] at h;exact h.elim
  |some xy=>
   obtain⟨x,y⟩:=xy
   rw[q1] at h
   have e:=Qh q1
   subst e
   simp only[Rep] at r
   obtain⟨a,vs,rfl,q,t⟩:=r
   obtain⟨v1,v2,rfl,r1,r2⟩:=t.two
   exact⟨a,_,rfl,Same.seqT R.fh q,rfl,v1,[v2],rfl,v2,[],rfl,rfl,h _ ((R.set r1).set r2) (fun B Z R'=>(R'.set r1).set r2) (by simp)⟩
def xc(set:FG)(body:FS):List D→DS→Fl
 |[],τ=>.nx τ
 |d::r,τ=>Fl.of (set d τ) fun τ1=>match body τ1 with
  |.nx τ'=>xc set body r τ'
  |.ct τ'=>xc set body r τ'
  |.bk τ'=>.nx τ'
  |.rt d=>.rt d
  |.ro d τ'=>.ro d τ'
  |.rb d τ'=>.rb d τ'
  |.ex c=>.ex c
  |.no=>.no
  |.rs c τ'=>.rs c τ'
def ua(fi:FA)(set:FG)(body:FS):FS:=fun τ=>Fl.of (fi τ) fun ds=>xc set body ds τ
theorem ve{iter:Expr}{body:List Stmt}{fi:FA}{set:FG}{fb:FS}(hp:PassesOwn (model X.prog X.w) X.A X.env X.xe)(hc:X.calm=true)(hi:PDI X tg iter fi)(hg:PDG X tg set)(hb:Ya X body fb)
  (hs:∀x,foldedSetIterable iter X.env x=pure x:=by intro _;rfl):PDS X (.For tg iter body [] pos) (ua fi set fb):=
 PS.imp (J1 hp hc hi hg hb hs) fun E σ H ⟨B,Z,F,τ,R,h⟩=>by
  refine⟨F,τ,R.rv,h.of.imp fun ds g J F1 H1 x io=>?_⟩
  refine⟨fun i m σ H=>m=ds.length-i∧i≤ds.length∧∃F' τ',Same F1 F'∧RS X.K B Z F' τ' σ H∧Post X B Z F' E (xc set fb (ds.drop i) τ'),⟨ds.length,by simp,zero_le _,F1,τ,Same.refl _,R.ext x,g.same x.ff⟩,?_⟩
  rintro i m σ2 H2 ⟨rfl,hi,F2,τ2,f2,R2,p2⟩
  obtain⟨i1,i2⟩:=io i F2 H2 f2 R2.rv.fh
  by_cases hlt:i<ds.length
  ·have hd:ds.drop i=ds[i]::ds.drop (i+1):=List.drop_eq_getElem_cons hlt
   rw[hd] at p2
   obtain⟨go,yl⟩:=i2 ds[i] (by simp[hlt])
   refine .inr ⟨go,fun σ' H'=>∃F' τ',Same F2 F'∧RS X.K B Z F' τ' σ' H'∧Post X B Z F' E (xc set fb (ds.drop (i+1)) τ'),fun σ' H' ⟨F',τ',a,b,c⟩=>⟨ds.length-(i+1),by omega,rfl,hlt,F',τ',f2.trans a,b,c⟩,fun y H' yy=>?_⟩
   obtain⟨F3,x3,r3⟩:=yl y H' yy
   have R3:=R2.ext x3
   refine⟨F3,τ2,ds[i],R3.rv,r3,(Post.of p2).imp fun τ4 p4 σ4 _ R4 _=>⟨B,Z,F3,τ4,R4 B Z R3,?_⟩⟩
   cases q:fb τ4 with
   |nx τ5=>rw[q] at p4;exact fun σ' F' H' ff RR=>⟨F',τ5,x3.ff.trans ff,RR,Post.same p4 (x3.ff.trans ff)⟩
   |ct τ5=>rw[q] at p4;exact fun σ' F' H' ff RR=>⟨F',τ5,x3.ff.trans ff,RR,Post.same p4 (x3.ff.trans ff)⟩
   |bk τ5=>rw[q] at p4;exact fun σ' F' H' ff RR=>p4 σ' F' H' (x3.ff.trans ff) RR
   |rt d=>rw[q] at p4;exact p4
   |ro d τ'=>rw[q] at p4;exact fun v σ' F' H' ff RR rr=>p4 v σ' F' H' (x3.ff.trans ff) RR rr
   |rb d τ'=>rw[q] at p4;exact fun v σ' F' H' ff RR rr=>p4 v σ' F' H' (x3.ff.trans ff) RR rr
   |ex c=>rw[q] at p4;exact p4
   |no=>rw[q] at p4;exact p4
   |rs c τ5=>rw[q] at p4;exact fun σ' F' H' ff RR=>p4 σ' F' H' (x3.ff.trans ff) RR
  ·have e:i=ds.length:=by omega
   subst e
   rw[List.drop_length] at p2
   exact .inl ⟨i1 (le_refl _),p2 σ2 F2 H2 (Same.refl _) R2⟩
end
def MB(r:Rs D):Rs D:=match r with
 |.ok d=>.ok d
 |_=>.no
def spD(K:PySem.W.Frag)(n:Nat)(g:List D→Rs D):Sp:=fun vs H Q E=>vs.length=n∧∃ds F,Same F H∧TbT F H∧Reps K F ds vs∧match g ds with
 |.ok d=>Ev K F H Q d
 |_=>False
def zX(N:Nat)(ds:List D):DS:=ds.map (fun d=>some (.val d))++List.replicate (N-ds.length) none
def jO:Fl→Rs D
 |.rt d=>.ok d
 |.ro d _=>.ok d
 |.nx _=>.ok .non
 |.rs c _=>.ex c
 |_=>.no
def xA(N:Nat)(fb:FS)(ds:List D):Rs D:=jO (fb (zX N ds))
theorem XO{K:PySem.W.Frag}{F H:Hp}{N:List Str}{ds:List D}{vs:List V}(fh:Same F H)(tt:TbT F H)(r:Reps K F ds vs):RS K H F F (zX N.length ds) (L2.start N vs) H:=by
 have hl:=r.length
 have hval:∀(i:Nat) (o:Sl),(zX N.length ds)[i]?=some (some o)→∃d,ds[i]?=some d∧o=.val d:=fun i o h=>by
  unfold zX at h
  by_cases hi:i<ds.length
  ·rw[getElem?_append_left (by simpa using hi),getElem?_map] at h
   cases e:ds[i]? with
   |none=>rw[e] at h;cases h
   |some d=>rw[e] at h;cases h;exact⟨d,rfl,rfl⟩
  ·rw[getElem?_append_right (by simpa using hi),getElem?_replicate] at h
   split at h <;> cases h
 refine⟨⟨fh,?_,fun i d h=>?_,fun i es h=>?_,fun i j es es' a _ h1 _ _ _=>?_,tt,ObsOk.none fun i s h=>?_⟩,Hh.refl H,Same.refl F,fun a o e=>.inl e,fun i es a h1 _=>?_,fun i m c fs a h1 _=>?_,fun a0 dx _ _ j m c fs h1=>?_,fun j c fs a h1 _=>?_⟩
 ·simp[zX,L2.start,hl]
 ·obtain⟨d',h1,h2⟩:=hval i _ h
  cases h2
  obtain⟨v,q1,q2⟩:=r.get h1
  refine⟨v,?_,q2⟩
  have hi:i<vs.length:=(List.getElem?_eq_some_iff.mp q1).1
  unfold L2.start
  rw[getElem?_append_left (by simpa using hi),getElem?_map,q1];rfl
 ·obtain⟨_,_,h2⟩:=hval i _ h;cases h2
 ·obtain⟨_,_,h2⟩:=hval i _ h1;cases h2
 ·cases s with
  |none=>rfl
  |some o=>obtain⟨_,_,h2⟩:=hval i _ h;rw[h2];rfl
 ·obtain⟨_,_,h2⟩:=hval i _ h1;cases h2
 ·obtain⟨_,_,h2⟩:=hval i _ h1;cases h2
 ·obtain⟨_,_,h2⟩:=hval j _ h1;cases h2
 ·obtain⟨_,_,h2⟩:=hval j _ h1;cases h2
section
variable{P:Program}{w:World}{K:PySem.W.Frag}{mg:Str→Option Value}{base:Heap}
theorem fnD{x qual:Str}{st:Stmt}{f:Addr}{fd:FuncData}{N ps:List Str}{k n:Nat}{fb:FS}(F:Fun K x qual st f fd)(S:zS N ps (zk st))(hn:ps.length=n)
  (hbody:∀(cdv:Value) (A:Around) (outer:List Env) (s:Shared) (H:Hp) (E:XK),Room k (A.deeper (envOfC qual (zk st) s.heap.objs.size f cdv)) →
   Ya (Xp CX0 P w K mg base N qual (zk st) f cdv A outer s H E).nox (zF st) fb):FnOk P w K mg base CX0 (k+1) f fd ps (spD K n (xA N.length fb)):=by
 refine F.ok S (fun vs H Q E h=>by rw[hn];exact h.1) fun cdv A outer s H vs Q E hr h=>⟨_,hbody cdv A outer s H E hr,?_⟩
 obtain⟨hl,ds,Fz,fh,tt,r,h⟩:=h
 refine⟨H,Fz,Fz,zX N.length ds,XO fh tt r,?_⟩
 unfold xA at h
 cases q:fb (zX N.length ds) with
 |nx τ=>rw[q] at h;exact fun σ F' H' ff RR=>h .non F' H' RR.out (by simp only[Rep])
 |rt d=>rw[q] at h;exact fun v F' H' x rr=>h v F' H' x rr
 |ro d τ=>rw[q] at h;exact fun v σ F' H' ff RR rr=>h v F' H' RR.out rr
 |rb d τ=>rw[q] at h;exact h.elim
 |bk τ=>rw[q] at h;exact h.elim
 |ct τ=>rw[q] at h;exact h.elim
 |ex c=>rw[q] at h;exact h.elim
 |no=>rw[q] at h;exact h.elim
 |rs c τ=>rw[q] at h;exact h.elim
theorem FnD.to{CX:CXT}{f:Addr}{fd:FuncData}{ps:List Str}{k n:Nat}{g g':List D→Rs D}(F:FnOk P w K mg base CX k f fd ps (spD K n g))(h:∀ds d,ds.length=n→g' ds=.ok d→g ds=.ok d):FnOk P w K mg base CX k f fd ps (spD K n g'):=
 F.imp fun vs H Q E ⟨hl,ds,Fz,fh,tt,r,q⟩=>⟨hl,ds,Fz,fh,tt,r,by
  cases e:g' ds with
  |ok d=>rw[e] at q;rw[h ds d (by rw[r.length];exact hl) e];exact q
  |ex c=>rw[e] at q;exact q.elim
  |no=>rw[e] at q;exact q.elim⟩
end
section
variable{X:Cx}{pos:Pos}{e tg:Expr}{es:List Expr}{fe:FE}{fs:FA}
def zq(g:List D→Rs D)(fs:FA):FE:=fun τ=>(fs τ).bind fun ds=>MB (g ds)
theorem Qf{k n:Nat}{f:Addr}{fd:FuncData}{ps:List Str}{g:List D→Rs D}{x:Str}{p:Pos}(F:FnOk X.prog X.w X.K X.mg X.base CX0 k f fd ps (spD X.K n g))(hr:Room k X.A)(hg:Gl X x)(hm:X.mg x=some (.ref f))(hk:keepIn X.K (.ref f)=true)(hb:Binds X.K fd ps [])
  (ha:PDA X (e::es) fs) (hn:(e::es).length=n) (hfs:∀τ ds,fs τ=.ok ds→ds.length=(e::es).length) (hdb:(x==("__debug__" : Str))=false:=by decide) (he:starEach (e::es) X.env=(false,eval e X.env)::starEach es X.env:=by rfl) (hpl:(backTo pos (starEach es X.env)).any (·.1)=false:=by rfl) :
  PDE X (.Call (.Name x p) (e::es) [] pos) (zq g fs):=
 PE.imp (Mo F hr hg hm hk hb .nil (E:=E0) pass0 ha hdb he hpl) fun σ H Q ⟨Fz,τ,R,h⟩=>by
  have hb:=h.bind
  refine⟨Fz,τ,R,?_⟩
  cases q:fs τ with
  |no=>rw[q] at hb;exact hb
  |ex c=>rw[q] at hb;exact hb
  |ok ds=>
   rw[q] at hb
   intro vs F1 H1 x r
   rw[append_nil]
   refine⟨by rw[← r.length,hfs τ ds q,hn],ds,F1,x.fh,x.tt R.tt,r,?_⟩
   have hb:Ok X (MB (g ds)) (Ev X.K Fz H Q):=hb
   cases z:g ds with
   |ok d=>rw[z] at hb;exact Ev.ext hb x
   |ex c=>rw[z] at hb;exact hb.elim
   |no=>rw[z] at hb;exact hb.elim
theorem zu(τ:DS)(ds:List D)(h:zh τ=.ok ds):ds.length=0:=by cases h;rfl
theorem ze{f:FE}{g:FA}{n:Nat}(hg:∀τ ds,g τ=.ok ds→ds.length=n)(τ:DS)(ds:List D)(h:za f g τ=.ok ds):ds.length=n+1:=by
 unfold za at h
 cases q:f τ with
 |no=>rw[q] at h;cases h
 |ex c=>rw[q] at h;cases h
 |ok d=>
  rw[q] at h
  cases q2:g τ with
  |no=>rw[q2] at h;cases h
  |ex c=>rw[q2] at h;cases h
  |ok r=>rw[q2] at h;cases h;simp[hg τ r q2]
def jU(X:Cx)(f:Value)(g:List D→Rs D):Prop:=∃r,CallR X f r∧∀F H vs ds Q,Same F H→Reps X.K F ds vs→Ok X (g ds) (Ev X.K F H Q)→r vs H Q
def yj(g:List D→Rs D)(fs:FA):FE:=fun τ=>(fs τ).bind g
theorem zK{id:String}{x:Str}{p:Pos}{g:List D→Rs D}(hc:jU X (.builtin id) g)(hg:Gl X x)(hm:X.mg x=none)(hv:bootBuiltins x=some (.builtin id))(ha:PDA X (e::es) fs)(hn:x ≠ "__name__" := by decide)(hdb:(x==("__debug__" : Str))=false:=by decide)
  (he:starEach (e::es) X.env=(false,eval e X.env)::starEach es X.env:=by rfl) (hpl:(backTo pos (starEach es X.env)).any (·.1)=false:=by rfl):PDE X (.Call (.Name x p) (e::es) [] pos) (yj g fs):=by
 obtain⟨r,h1,h2⟩:=hc
 exact PE.imp (L2.pe_callB h1 hg hm hv ha hn hdb he hpl) fun σ H Q ⟨Fz,τ,R,h⟩=>tAs.of R h.bind fun ds vs F1 H1 q x R1 rr=>h2 F1 H1 vs ds Q R1.fh rr (q.imp fun d e=>e.ext x)
theorem vi{id:String}{x:Str}{p:Pos}{g:List D→Rs D}(hc:jU X (.type id) g)(hg:Gl X x)(hm:X.mg x=none)(hv:bootBuiltins x=some (.type id))(ha:PDA X (e::es) fs)(hn:x ≠ "__name__" := by decide)(hdb:(x==("__debug__" : Str))=false:=by decide)
  (he:starEach (e::es) X.env=(false,eval e X.env)::starEach es X.env:=by rfl) (hpl:(backTo pos (starEach es X.env)).any (·.1)=false:=by rfl):PDE X (.Call (.Name x p) (e::es) [] pos) (yj g fs):=by
 obtain⟨r,h1,h2⟩:=hc
 exact PE.imp (L2.pe_callTy h1 hg hm hv ha hn hdb he hpl) fun σ H Q ⟨Fz,τ,R,h⟩=>tAs.of R h.bind fun ds vs F1 H1 q x R1 rr=>h2 F1 H1 vs ds Q R1.fh rr (q.imp fun d e=>e.ext x)
def IxD(X:Cx)(op:D→D→Rs D):Prop:=∃r:R2,IxR X r∧∀F H x y dx dy Q,Same F H→Rep X.K F dx x→Rep X.K F dy y→Ok X (op dx dy) (Ev X.K F H Q)→r x y H Q
theorem zI{a b:Expr}{fa fb:FE}{op:D→D→Rs D}(hr:IxD X op)(ha:PDE X a fa)(hb:PDE X b fb)(hs:Xv b:=by intro _ _;rfl):PDE X (.Subscript a b pos) (eOp op fa fb):=by
 obtain⟨r,h1,h2⟩:=hr
 exact PE.imp (Tw h1 ha hb hs) (VU h2)
def ixD:D→D→Rs D
 |.lst ds,.int k=>match atI ds k with
  |some d=>.ok d
  |none=>.no
 |.tup ds,.int k=>match atI ds k with
  |some d=>.ok d
  |none=>.no
 |.scr ns,.int k=>match atI ns k with
  |some d=>.ok (.int d)
  |none=>.no
 |.str x,.int k=>match atI x.cps.toList k with
  |some c=>if x.length≤sizeLine then .ok (.str ⟨#[c]⟩) else .no
  |none=>.no
 |_,_=>.no
theorem Tn{α β:Type}{f:α→β}{xs:List α}{k:Int}{a:α}(h:atI xs k=some a):atI (xs.map f) k=some (f a):=by
 unfold atI at h ⊢
 rw[length_map]
 cases q:ixN xs.length k with
 |none=>rw[q] at h;cases h
 |some j=>
  rw[q] at h
  have h:xs[j]?=some a:=h
  show(xs.map f)[j]?=_
  rw[getElem?_map,h];rfl
theorem yo:IxD X ixD:=⟨_,LY,fun F H x y dx dy Q fh r1 r2 h=>by
 cases dx with
 |lst ds=>
  cases dy with
  |int k=>
   simp only[Rep] at r1 r2;obtain⟨a,vs,rfl,q,t⟩:=r1;subst r2
   (delta ixD at h;dsimp only at h)
   cases z:atI ds k with
   |none=>rw[z] at h;exact h.elim
   |some d=>
    rw[z] at h
    obtain⟨v,z1,z2⟩:=Z8 t z
    exact .inl ⟨a,vs,k,v,rfl,rfl,SqL.of (fh _ _ q),z1,h v F H (Ext.refl fh) z2⟩
  |_=>exact h.elim
 |tup ds=>
  cases dy with
  |int k=>
   simp only[Rep] at r1 r2;obtain⟨a,vs,rfl,q,t⟩:=r1;subst r2
   (delta ixD at h;dsimp only at h)
   cases z:atI ds k with
   |none=>rw[z] at h;exact h.elim
   |some d=>
    rw[z] at h
    obtain⟨v,z1,z2⟩:=Z8 t z
    exact .inr (.inl ⟨a,vs,k,v,rfl,rfl,Same.seqT fh q,z1,h v F H (Ext.refl fh) z2⟩)
  |_=>exact h.elim
 |scr ns=>
  cases dy with
  |int k=>
   simp only[Rep] at r1 r2;obtain⟨a,rfl,q⟩:=r1;subst r2
   (delta ixD at h;dsimp only at h)
   cases z:atI ns k with
   |none=>rw[z] at h;exact h.elim
   |some d=>
    rw[z] at h
    exact .inl ⟨a,_,k,.int d,rfl,rfl,fh.seq q,Tn z,h (.int d) F H (Ext.refl fh) (by simp only[Rep])⟩
  |_=>exact h.elim
 |str x=>
  cases dy with
  |int k=>
   simp only[Rep] at r1 r2;subst r1;subst r2
   (delta ixD at h;dsimp only at h)
   cases z:atI x.cps.toList k with
   |none=>rw[z] at h;exact h.elim
   |some c=>
    rw[z] at h
    obtain⟨z2,h⟩:=yw h
    exact .inr (.inr ⟨x,k,c,rfl,rfl,z2,z,h _ F H (Ext.refl fh) (by simp only[Rep])⟩)
  |_=>exact h.elim
 |_=>cases dy <;> exact h.elim⟩
end
mutual
def yH:D→PyData
 |.non=>.none
 |.bl b=>.bool b
 |.int i=>.int i
 |.str x=>.str x
 |.lst ds=>.list (toPys ds)
 |.tup ds=>.tuple (toPys ds)
 |.scr ns=>.list (ns.map .int)
 |.raw _=>.none
 |.exc _=>.none
 |.dct _ _=>.none
def toPys:List D→List PyData
 |[]=>[]
 |d::r=>yH d::toPys r
end
mutual
def y4:D→Bool
 |.lst ds=>plainDs ds
 |.tup ds=>plainDs ds
 |.raw _=>false
 |.exc _=>false
 |.dct _ _=>false
 |_=>true
def plainDs:List D→Bool
 |[]=>true
 |d::r=>y4 d&&plainDs r
end
theorem readsAll_ints{h:Heap}:∀{ns:List Int} {us:List Value},Vals (ns.map V.int) us→ReadsAll h us (ns.map .int) []
 |[],_,.nil=>.nil
 |n::ns,_,.cons r t=>by
  obtain⟨tk,rfl⟩:=r
  exact .cons (as:=[]) (bs:=[]) (.int n tk) (readsAll_ints t)
section
variable{X:Cx}{pins:List (Addr×Obj)}{σ:St}{F H:Hp}{s:Shared}
mutual
theorem wt(I:Inv X pins σ H s)(fh:Same F H):∀(d:D) {v:V} {u:Value},Rep X.K F d v→RelV v u→y4 d=true→∃as,Reads s.heap u (yH d) as
 |.non,v,u,r,rv,_=>by simp only[Rep] at r;subst r;cases rv;exact⟨[],.none⟩
 |.bl b,v,u,r,rv,_=>by simp only[Rep] at r;subst r;cases rv;exact⟨[],.bool b⟩
 |.int i,v,u,r,rv,_=>by simp only[Rep] at r;subst r;obtain⟨t,rfl⟩:=rv;exact⟨[],.int i t⟩
 |.str x,v,u,r,rv,_=>by simp only[Rep] at r;subst r;obtain⟨t,rfl⟩:=rv;exact⟨[],.str x t⟩
 |.lst ds,v,u,r,rv,hp=>by
  simp only[Rep] at r;obtain⟨a,vs,rfl,q,t⟩:=r
  cases rv
  obtain⟨its,rr,⟨o,n,e,c,_,dd⟩,_⟩:=I.list (SqL.of (K:=X.K) (fh _ _ q))
  obtain⟨as,ra⟩:=readss_of I fh ds t rr (by simpa only[y4] using hp)
  exact⟨a::as,by rw[yH];exact .list e c dd (by simpa using ra)⟩
 |.tup ds,v,u,r,rv,hp=>by
  simp only[Rep] at r;obtain⟨a,vs,rfl,q,t⟩:=r
  cases rv
  obtain⟨its,rr,⟨o,e,c,n,dd⟩,_⟩:=I.tuple (Same.seqT fh q)
  obtain⟨as,ra⟩:=readss_of I fh ds t rr (by simpa only[y4] using hp)
  exact⟨as,by rw[yH];exact .tuple e c dd (by simpa using ra)⟩
 |.scr ns,v,u,r,rv,hp=>by
  simp only[Rep] at r;obtain⟨a,rfl,q⟩:=r
  cases rv
  obtain⟨its,rr,⟨o,n,e,c,_,dd⟩,_⟩:=I.list (fh.seq q)
  exact⟨[a],by rw[yH];exact .list e c dd (by simpa using readsAll_ints rr)⟩
 |.raw w,v,u,r,rv,hp=>by simp[y4] at hp
 |.exc w,v,u,r,rv,hp=>by simp[y4] at hp
 |.dct _ _,v,u,r,rv,hp=>by simp[y4] at hp
theorem readss_of(I:Inv X pins σ H s)(fh:Same F H):∀(ds:List D) {vs:List V} {us:List Value},Reps X.K F ds vs→Vals vs us→plainDs ds=true→∃as,ReadsAll s.heap us (toPys ds) as
 |[],vs,us,r,rv,_=>by simp only[Reps] at r;subst r;cases rv;exact⟨[],by rw[toPys];exact .nil⟩
 |d::ds,vs,us,r,rv,hp=>by
  simp only[Reps] at r
  obtain⟨v,r',rfl,q,t⟩:=r
  simp only[plainDs,Bool.and_eq_true] at hp
  cases rv with
  |cons r1 r2=>
   obtain⟨as,h1⟩:=wt I fh d q r1 hp.1
   obtain⟨bs,h2⟩:=readss_of I fh ds t r2 hp.2
   exact⟨as++bs,by rw[toPys];exact .cons h1 h2⟩
end
end
def okD(d:D):Bool:=y4 d&&(yH d).canLay0&&decide ((yH d).depth≤60)
theorem v5{d:D}(h:okD d=true):y4 d=true∧(yH d).canLay0=true∧(yH d).depth≤60:=by
 simpa[okD,and_assoc] using h
def wU(d e:D):Bool:=PyData.eqv (yH d) (yH e)
def eqD:D→D→Rs D
 |.str x,.str y=>.ok (.bl (x==y))
 |.int x,.int y=>.ok (.bl (x==y))
 |d,e=>if okD d=true∧okD e=true then .ok (.bl (wU d e)) else .no
def neD:D→D→Rs D
 |.str x,.str y=>.ok (.bl (!(x==y)))
 |.int x,.int y=>.ok (.bl (!(x==y)))
 |d,e=>if okD d=true∧okD e=true then .ok (.bl (!wU d e)) else .no
section
variable{X:Cx}
def VF(K:PySem.W.Frag)(b:D→D→Bool):R2:=fun x y H Q=>∃F d e,Same F H∧Rep K F d x∧Rep K F e y∧okD d=true∧okD e=true∧Q (.bl (b d e)) H
theorem UY(hu:X.A.units+64<cLine):OpR X (compareOp .Eq) (VF X.K wU):=by
 intro pins s σ H x y v u Q I rx ry h
 obtain⟨F,d,e,fh,r1,r2,o1,o2,q⟩:=h
 obtain⟨p1,c1,e1⟩:=v5 o1
 obtain⟨p2,c2,e2⟩:=v5 o2
 obtain⟨as,h1⟩:=wt I fh d r1 rx p1
 obtain⟨bs,h2⟩:=wt I fh e r2 ry p2
 exact SeqAt.compareEq_reads h1 h2 c1 c2 (by omega) ⟨.bl _,H,I,rfl,q⟩
theorem UW(hu:X.A.units+64<cLine):OpR X (compareOp .NotEq) (VF X.K fun d e=>!wU d e):=by
 intro pins s σ H x y v u Q I rx ry h
 obtain⟨F,d,e,fh,r1,r2,o1,o2,q⟩:=h
 obtain⟨p1,c1,e1⟩:=v5 o1
 obtain⟨p2,c2,e2⟩:=v5 o2
 obtain⟨as,h1⟩:=wt I fh d r1 rx p1
 obtain⟨bs,h2⟩:=wt I fh e r2 ry p2
 exact SeqAt.compareNe_reads h1 h2 c1 c2 (by omega) ⟨.bl _,H,I,rfl,q⟩
theorem wM(hu:X.A.units+64<cLine):OpD X (compareOp .Eq) eqD:=⟨_,op_eq.or (UY hu),fun F H x y dx dy Q fh r1 r2 h=>by
 have gen:(Ok X (if okD dx=true∧okD dy=true then .ok (.bl (wU dx dy)) else .no) (Ev X.K F H Q))→rEq x y H Q∨VF X.K wU x y H Q:=fun h=>by
  obtain⟨z,h⟩:=yw h
  exact .inr ⟨F,dx,dy,fh,r1,r2,z.1,z.2,h _ F H (Ext.refl fh) (by simp only[Rep])⟩
 cases dx with
 |str a=>
  cases dy with
  |str b=>
   simp only[Rep] at r1 r2;subst r1;subst r2
   exact .inl ⟨rfl,by rw[Zi];exact h _ F H (Ext.refl fh) (by simp only[Rep])⟩
  |_=>exact gen h
 |int a=>
  cases dy with
  |int b=>
   simp only[Rep] at r1 r2;subst r1;subst r2
   exact .inl ⟨rfl,by rw[Zj];exact h _ F H (Ext.refl fh) (by simp only[Rep])⟩
  |_=>exact gen h
 |_=>exact gen h⟩
theorem jm(hu:X.A.units+64<cLine):OpD X (compareOp .NotEq) neD:=⟨_,op_ne.or (UW hu),fun F H x y dx dy Q fh r1 r2 h=>by
 have gen:(Ok X (if okD dx=true∧okD dy=true then .ok (.bl (!wU dx dy)) else .no) (Ev X.K F H Q))→rNe x y H Q∨VF X.K (fun d e=>!wU d e) x y H Q:=fun h=>by
  obtain⟨z,h⟩:=yw h
  exact .inr ⟨F,dx,dy,fh,r1,r2,z.1,z.2,h _ F H (Ext.refl fh) (by simp only[Rep])⟩
 cases dx with
 |str a=>
  cases dy with
  |str b=>
   simp only[Rep] at r1 r2;subst r1;subst r2
   exact .inl ⟨rfl,by rw[Zi];exact h _ F H (Ext.refl fh) (by simp only[Rep])⟩
  |_=>exact gen h
 |int a=>
  cases dy with
  |int b=>
   simp only[Rep] at r1 r2;subst r1;subst r2
   exact .inl ⟨rfl,by rw[Zj];exact h _ F H (Ext.refl fh) (by simp only[Rep])⟩
  |_=>exact gen h
 |_=>exact gen h⟩
def intOp(C:Int→Int→Bool)(g:Int→Int→D):D→D→Rs D
 |.int i,.int j=>if C i j=true then .ok (g i j) else .no
 |_,_=>.no
theorem VT{f:Value→Value→Sem Value}{C':Int→Int→Prop}{C:Int→Int→Bool}{gv:Int→Int→V}{g:Int→Int→D}(h:OpR X f (rI C' gv))(hc:∀i j,C i j=true→C' i j)(hg:∀F i j,Rep X.K F (g i j) (gv i j)):OpD X f (intOp C g):=
 ⟨_,h,fun F H x y dx dy Q fh r1 r2 q=>by
  cases dx with
  |int i=>
   cases dy with
   |int j=>
    simp only[Rep] at r1 r2;subst r1;subst r2
    obtain⟨z,q⟩:=yw q
    exact⟨i,j,rfl,rfl,hc i j z,q _ F H (Ext.refl fh) (hg F i j)⟩
   |_=>exact q.elim
  |_=>cases dy <;> exact q.elim⟩
def ZR(g:Int→Int→D):D→D→Rs D
 |.int i,.int j=>.ok (g i j)
 |_,_=>.no
theorem uR{f:Value→Value→Sem Value}{gv:Int→Int→V}{g:Int→Int→D}(h:OpR X f (rI0 gv))(hg:∀F i j,Rep X.K F (g i j) (gv i j)):OpD X f (ZR g):=
 ⟨_,h,fun F H x y dx dy Q fh r1 r2 q=>by
  cases dx with
  |int i=>
   cases dy with
   |int j=>
    simp only[Rep] at r1 r2;subst r1;subst r2
    exact⟨i,j,rfl,rfl,q _ F H (Ext.refl fh) (hg F i j)⟩
   |_=>exact q.elim
  |_=>cases dy <;> exact q.elim⟩
def vE:=ZR fun i j=>.int (i-j)
theorem wH:OpD X (binaryOp .Sub) vE:=uR Lz fun _ _ _=>by simp only[Rep]
def Xg:=intOp (fun _ j=>decide (0<j)) fun i j=>.int (i%j)
theorem v4:OpD X (binaryOp .Mod) Xg:=VT LB (fun i j h=>by simpa using h) fun _ _ _=>by simp only[Rep]
def ZZ:=intOp (fun _ j=>decide (0<j∧j<1073741824)) fun i j=>.int (i / j)
theorem uS:OpD X (binaryOp .FloorDiv) ZZ:=VT Mv (fun i j h=>by have h':0<j∧j<1073741824:=of_decide_eq_true h;exact h') fun _ _ _=>by simp only[Rep]
def ltI:=ZR fun i j=>.bl (decide (i<j))
def gtD:=ZR fun i j=>.bl (decide (j<i))
def geD:=ZR fun i j=>.bl (decide (j≤i))
theorem Lw:OpD X (compareOp .Lt) ltI:=uR op_lt fun _ _ _=>by simp only[Rep]
theorem W6:OpD X (compareOp .Gt) gtD:=uR op_gt fun _ _ _=>by simp only[Rep]
theorem Ly:OpD X (compareOp .GtE) geD:=uR op_ge fun _ _ _=>by simp only[Rep]
def zG:D→D→Rs D
 |.int i,.int j=>.ok (.int (i+j))
 |.str i,.str j=>if i.length+j.length≤sizeLine then .ok (.str (i++j)) else .no
 |.lst i,.lst j=>if i.length+j.length≤sizeLine then .ok (.lst (i++j)) else .no
 |_,_=>.no
theorem zC:OpD X (binaryOp .Add) zG:=⟨_,op_add.or (op_add_str.or LD),fun F H x y dx dy Q fh r1 r2 q=>by
 cases dx with
 |int i=>
  cases dy with
  |int j=>
   simp only[Rep] at r1 r2;subst r1;subst r2
   exact .inl ⟨i,j,rfl,rfl,q _ F H (Ext.refl fh) (by simp only[Rep])⟩
  |_=>exact q.elim
 |str i=>
  cases dy with
  |str j=>
   simp only[Rep] at r1 r2;subst r1;subst r2
   obtain⟨z,q⟩:=yw q
   exact .inr (.inl ⟨i,j,rfl,rfl,z,q _ F H (Ext.refl fh) (by simp only[Rep])⟩)
  |_=>exact q.elim
 |lst i=>
  cases dy with
  |lst j=>
   simp only[Rep] at r1 r2
   obtain⟨a,vs,rfl,e1,t1⟩:=r1
   obtain⟨b,ws,rfl,e2,t2⟩:=r2
   obtain⟨z,q⟩:=yw q
   refine .inr (.inr ⟨a,b,vs,ws,rfl,rfl,fh _ _ e1,fh _ _ e2,by rw[← t1.length,← t2.length];exact z,fun p hp=>q _ _ _ (Ext.new fh hp) ?_⟩)
   simp only[Rep]
   exact⟨p,vs++ws,rfl,zt,(t1.append t2).mono (yi (zP fh hp))⟩
  |_=>exact q.elim
 |_=>cases dy <;> exact q.elim⟩
def vM:D→D→Rs D
 |.int i,.int j=>if (-(18446744073709551616)<i∧i<18446744073709551616)∨(-(18446744073709551616)<j∧j<18446744073709551616) then .ok (.int (i*j)) else .no
 |.lst i,.int k=>if k<16777216∧-16777216<k∧i.length*k.toNat≤sizeLine then .ok (.lst (List.replicate k.toNat i).flatten) else .no
 |_,_=>.no
theorem xZ:OpD X (binaryOp .Mult) vM:=⟨_,op_mul.or LA,fun F H x y dx dy Q fh r1 r2 q=>by
 cases dx with
 |int i=>
  cases dy with
  |int j=>
   simp only[Rep] at r1 r2;subst r1;subst r2
   obtain⟨z,q⟩:=yw q
   refine .inl ⟨i,j,rfl,rfl,?_,q _ F H (Ext.refl fh) (by simp only[Rep])⟩
   unfold CMul
   rcases z with z|z
   ·exact .inl (by omega)
   ·exact .inr (by omega)
  |_=>exact q.elim
 |lst i=>
  cases dy with
  |int k=>
   simp only[Rep] at r1 r2
   obtain⟨a,vs,rfl,e1,t1⟩:=r1
   subst r2
   obtain⟨z,q⟩:=yw q
   refine .inr ⟨a,k,vs,rfl,rfl,fh _ _ e1,by omega,by omega,by rw[← t1.length];exact z.2.2,fun p hp=>q _ _ _ (Ext.new fh hp) ?_⟩
   simp only[Rep]
   exact⟨p,_,rfl,zt,(t1.rep k.toNat).mono (yi (zP fh hp))⟩
  |_=>exact q.elim
 |_=>cases dy <;> exact q.elim⟩
def VB(i j:Str):Bool:=!(Builtin.Str.occurrences j i 0 j.length 1).isEmpty
def inD:D→D→Rs D
 |.str i,.str j=>.ok (.bl (VB i j))
 |d,.lst xs=>if okD d=true∧okD (.lst xs)=true then .ok (.bl (xs.any fun y=>wU y d)) else .no
 |d,.tup xs=>if okD d=true∧okD (.tup xs)=true then .ok (.bl (xs.any fun y=>wU y d)) else .no
 |_,_=>.no
theorem Yq:∀xs:List D,toPys xs=xs.map yH
 |[]=>rfl
 |d::r=>by rw[toPys,Yq r,map_cons]
theorem YY(xs:List D)(d:D):((toPys xs).any fun y=>PyData.eqv y (yH d))=xs.any fun y=>wU y d:=by
 rw[Yq,List.any_map];rfl
def rInD(K:PySem.W.Frag)(neg:Bool):R2:=fun x y H Q=>∃F d e xs,Same F H∧Rep K F d x∧Rep K F e y∧okD d=true∧okD e=true∧(e=.lst xs∨e=.tup xs)∧Q (.bl (if neg then !(xs.any fun y=>wU y d) else xs.any fun y=>wU y d)) H
theorem UX(hu:X.A.units+128<cLine):OpR X (compareOp .In) (rInD X.K false):=by
 intro pins s σ H x y v u Q I rx ry h
 obtain⟨F,d,e,xs,fh,r1,r2,o1,o2,he,q⟩:=h
 obtain⟨p1,c1,e1⟩:=v5 o1
 obtain⟨p2,c2,e2⟩:=v5 o2
 obtain⟨as,h1⟩:=wt I fh d r1 rx p1
 obtain⟨bs,h2⟩:=wt I fh e r2 ry p2
 rcases he with rfl|rfl
 ·rw[yH] at h2 c2 e2
  refine SeqAt.in_list_reads h2 h1 (by simpa only[PyData.canLay0] using c2) c1 (by omega) ⟨.bl _,H,I,rfl,?_⟩
  rw[YY];exact q
 ·rw[yH] at h2 c2 e2
  refine SeqAt.in_tuple_reads h2 h1 (by simpa only[PyData.canLay0] using c2) c1 (by omega) ⟨.bl _,H,I,rfl,?_⟩
  rw[YY];exact q
theorem jn(hu:X.A.units+128<cLine):OpD X (compareOp .In) inD:=⟨_,op_in_str.or (UX hu),fun F H x y dx dy Q fh r1 r2 q=>by
 cases dy with
 |lst xs=>
  have q':Ok X (if okD dx=true∧okD (.lst xs)=true then .ok (.bl (xs.any fun y=>wU y dx)) else .no) (Ev X.K F H Q):=by cases dx <;> exact q
  obtain⟨z,q⟩:=yw q'
  exact .inr ⟨F,dx,_,xs,fh,r1,r2,z.1,z.2,.inl rfl,q _ F H (Ext.refl fh) (by simp only[Rep];rfl)⟩
 |tup xs=>
  have q':Ok X (if okD dx=true∧okD (.tup xs)=true then .ok (.bl (xs.any fun y=>wU y dx)) else .no) (Ev X.K F H Q):=by cases dx <;> exact q
  obtain⟨z,q⟩:=yw q'
  exact .inr ⟨F,dx,_,xs,fh,r1,r2,z.1,z.2,.inr rfl,q _ F H (Ext.refl fh) (by simp only[Rep];rfl)⟩
 |str j=>
  cases dx with
  |str i=>
   simp only[Rep] at r1 r2;subst r1;subst r2
   exact .inl ⟨i,j,rfl,rfl,q _ F H (Ext.refl fh) (by simp only[Rep,VB])⟩
  |_=>exact q.elim
 |_=>cases dx <;> exact q.elim⟩
def isN:D→Rs Bool
 |.non=>.ok true
 |.raw _=>.no
 |.exc _=>.no
 |.dct _ _=>.no
 |_=>.ok false
def isD(d e:D):Rs D:=match e with
 |.non=>(isN d).bind fun b=>.ok (.bl b)
 |_=>.no
def vp(d e:D):Rs D:=match e with
 |.non=>(isN d).bind fun b=>.ok (.bl (!b))
 |_=>.no
theorem V9{F:Hp}{d:D}{v:V}{P:Bool→Prop}(r:Rep X.K F d v)(h:Ok X (isN d) P):P (decide (v=.non)):=by
 cases d with
 |non=>simp only[Rep] at r;subst r;exact h
 |bl b=>simp only[Rep] at r;subst r;exact h
 |int b=>simp only[Rep] at r;subst r;exact h
 |str b=>simp only[Rep] at r;subst r;exact h
 |lst b=>simp only[Rep] at r;obtain⟨a,vs,rfl,_⟩:=r;exact h
 |tup b=>simp only[Rep] at r;obtain⟨a,vs,rfl,_⟩:=r;exact h
 |scr b=>simp only[Rep] at r;obtain⟨a,rfl,_⟩:=r;exact h
 |raw b=>exact h.elim
 |exc b=>exact h.elim
 |dct _ _=>exact h.elim
theorem Lx:OpD X (compareOp .Is) isD:=⟨_,LC,fun F H x y dx dy Q fh r1 r2 q=>by
 cases dy with
 |non=>simp only[Rep] at r2;exact⟨r2,V9 r1 (Ok.bind q) _ F H (Ext.refl fh) (by simp only[Rep])⟩
 |_=>exact q.elim⟩
theorem YA:OpD X (compareOp .IsNot) vp:=⟨_,Mu,fun F H x y dx dy Q fh r1 r2 q=>by
 cases dy with
 |non=>simp only[Rep] at r2;have q':Ok X ((isN dx).bind fun b=>Rs.ok (D.bl (!b))) (Ev X.K F H Q):=q;have q2:=V9 (P:=fun b=>Ok X (Rs.ok (D.bl (!b))) (Ev X.K F H Q)) r1 (Ok.bind q');exact⟨r2,q2 _ F H (Ext.refl fh) (by simp only[Rep])⟩
 |_=>exact q.elim⟩
def x6(fa:FE):FE:=fun τ=>(fa τ).bind fun d=>match d with
 |.int i=>.ok (.int (-i))
 |_=>.no
theorem we{a:Expr}{pos:Pos}{fa:FE}(ha:PDE X a fa):PDE X (.UnaryOp .USub a pos) (x6 fa):=
 PE.imp (pe_un TZ ha) fun σ H Q ⟨F,τ,R,h⟩=>tE.of R h.bind fun d v F1 H1 g x R1 r=>by
  cases d with
  |int i=>simp only[Rep] at r;exact⟨i,r,g _ F1 H1 x (by simp only[Rep])⟩
  |_=>exact g.elim
end
def yG(env:Env)(cs:List (Str×Addr))(y:Str×NameKind):List (Str×Addr):=if y.2==NameKind.free then (y.1,(env.cells.lookup y.1).getD 0)::cs else cs
def xC(scope:Scope)(env:Env):List (Str×Addr):=scope.names.foldl (yG env) []
theorem wQ{scope:Scope}{env:Env}(h:∀y∈scope.names,y.2=.free→(env.cells.lookup y.1).isSome=true):closureFor scope env=pure (xC scope env):=by
 unfold closureFor xC
 generalize scope.names=names at h
 have gen:∀(cs:List (Str×Addr)),(forIn names cs fun x r=>(do
   if (x.2==NameKind.free)=true then do
    let c ← cellOf env x.1
    pure PUnit.unit
    pure (ForInStep.yield ((x.1,c)::r))
   else do
    pure PUnit.unit
    pure (ForInStep.yield r)):Sem (List (Str×Addr)))=pure (names.foldl (yG env) cs):=by
  induction names with
  |nil=>intro cs;rfl
  |cons y r ih=>
   intro cs
   rw[List.forIn_cons,foldl_cons]
   by_cases hk:y.2=.free
   ·obtain⟨c,hc⟩:=Option.isSome_iff_exists.mp (h y mem_cons_self hk)
    have e:yG env cs y=(y.1,c)::cs:=by simp[yG,hk,hc]
    rw[e,← ih (fun z hz=>h z (mem_cons_of_mem _ hz))]
    simp only[hk,beq_self_eq_true,if_true,cellOf,hc]
    rfl
   ·have hb:(y.2==NameKind.free)=false:=by simpa using hk
    have e:yG env cs y=cs:=by simp[yG,hb]
    rw[e,← ih (fun z hz=>h z (mem_cons_of_mem _ hz))]
    simp only[hb,Bool.false_eq_true,if_false]
    rfl
 show((forIn names ([]:List (Str×Addr)) fun x r=>(do
   if (x.2==NameKind.free)=true then do
    let c ← cellOf env x.1
    pure PUnit.unit
    pure (ForInStep.yield ((x.1,c)::r))
   else do
    pure PUnit.unit
    pure (ForInStep.yield r)):Sem (List (Str×Addr))) >>= fun s=>pure s)=_
 rw[gen []]
 rfl
theorem jP{env:Env}{x:Str}:∀{names:List (Str×NameKind)} {cs:List (Str×Addr)} {c:Addr},(names.foldl (yG env) cs).lookup x=some c→cs.lookup x=some c∨(∃y∈names,y.1=x∧y.2=.free∧c=(env.cells.lookup x).getD 0)
 |[],cs,c,h=>.inl h
 |y::r,cs,c,h=>by
  rw[foldl_cons] at h
  rcases jP h with q|⟨z,hz,e⟩
  ·by_cases hk:y.2=.free
   ·have e:yG env cs y=(y.1,(env.cells.lookup y.1).getD 0)::cs:=by simp[yG,hk]
    rw[e,lookup_cons] at q
    by_cases hx:x=y.1
    ·subst hx
     simp at q
     exact .inr ⟨y,mem_cons_self,rfl,hk,q.symm⟩
    ·have hb:(x==y.1)=false:=by simpa using hx
     rw[hb] at q
     exact .inl q
   ·have hb:(y.2==NameKind.free)=false:=by simpa using hk
    have e:yG env cs y=cs:=by simp[yG,hb]
    rw[e] at q
    exact .inl q
  ·exact .inr ⟨z,mem_cons_of_mem _ hz,e⟩
theorem vQ{env:Env}{x:Str}:∀{names:List (Str×NameKind)} {cs:List (Str×Addr)},((∃y∈names,y.1=x∧y.2=.free)∨∃c,cs.lookup x=some c)→∃c,(names.foldl (yG env) cs).lookup x=some c
 |[],cs,h=>by
  rcases h with ⟨y,hy,_⟩|h
  ·cases hy
  ·exact h
 |y::r,cs,h=>by
  rw[foldl_cons]
  refine vQ ?_
  by_cases hk:y.2=.free
  ·have e:yG env cs y=(y.1,(env.cells.lookup y.1).getD 0)::cs:=by simp[yG,hk]
   rw[e]
   by_cases hx:x=y.1
   ·subst hx;exact .inr ⟨(env.cells.lookup y.1).getD 0,by rw[lookup_cons];simp⟩
   ·have hb:(x==y.1)=false:=by simpa using hx
    rcases h with ⟨z,hz,e1,e2⟩|⟨c,hc⟩
    ·rcases mem_cons.mp hz with rfl|hz
     ·exact absurd e1.symm hx
     ·exact .inl ⟨z,hz,e1,e2⟩
    ·exact .inr ⟨c,by rw[lookup_cons,hb];exact hc⟩
  ·have hb:(y.2==NameKind.free)=false:=by simpa using hk
   have e:yG env cs y=cs:=by simp[yG,hb]
   rw[e]
   rcases h with ⟨z,hz,e1,e2⟩|h
   ·rcases mem_cons.mp hz with rfl|hz
    ·exact absurd e2 hk
    ·exact .inl ⟨z,hz,e1,e2⟩
   ·exact .inr h
def _root_.L2.Cx.comp(X:Cx)(scope:Scope)(N:List Str)(s:Shared)(H:Hp)(C:Addr)(fp:List Addr):Cx:=
 { prog:=X.prog,w:=X.w,K:=X.K,mg:=X.mg,base:=X.base,A:=X.A,N:=N,s₀:=s,H₀:=H,env:=compEnvC scope (xC scope X.env) C X.env,outer:=X.stack,stack:=X.stack,ex:=fp,fn:=fun _=>false,calm:=X.calm,pn:=[],xe:=fun _ _=>False }
structure xm(X:Cx)(scope:Scope):Prop where
 kind:scope.kind=.function
 nocell:∀y∈scope.names,y.2≠.cell
 locs:∀y∈scope.names,y.2=.local→scope.names.lookup y.1=some .local
 free:∀y∈scope.names,y.2=.free→X.env.kindOf y.1=some .cell∨X.env.kindOf y.1=some .free
theorem wb{env:Env}:∀{names:List (Str×NameKind)} {x:Str},((names.map fun (n,k)=>if (k==NameKind.free&&env.scope.kind == .function&&env.kindOf n==some .cell) then (n,NameKind.cell) else (n,k)).lookup x=some .cell ∨
  (names.map fun (n,k)=>if (k==NameKind.free&&env.scope.kind == .function&&env.kindOf n==some .cell) then (n,NameKind.cell) else (n,k)).lookup x=some .free)→(∀y∈names,y.2≠.cell)→∃y∈names,y.1=x∧y.2=.free
 |[],_,h,_=>by rcases h with h|h <;> simp at h
 | (n,k)::r,x,h,hc=>by
  have hr:∀y∈r,y.2≠.cell:=fun y hy=>hc y (mem_cons_of_mem _ hy)
  rw[map_cons] at h
  by_cases hx:x=n
  ·subst hx
   by_cases hk:k=.free
   ·exact⟨_,mem_cons_self,rfl,hk⟩
   ·have hb:(k==NameKind.free)=false:=by simpa using hk
    have hck:k≠.cell:=hc (x,k) mem_cons_self
    simp only[hb,Bool.false_and,Bool.false_eq_true,if_false,lookup_cons,beq_self_eq_true] at h
    rcases h with h|h
    ·exact absurd (Option.some.inj h) hck
    ·exact absurd (Option.some.inj h) hk
  ·have hb:(x==n)=false:=by simpa using hx
   have step:∀q:Str×NameKind,q.1=n→((q::(r.map fun (n,k)=>if (k==NameKind.free&&env.scope.kind == .function&&env.kindOf n==some .cell) then (n,NameKind.cell) else (n,k))).lookup x)=((r.map fun (n,k)=>if (k==NameKind.free&&env.scope.kind == .function&&env.kindOf n==some .cell) then (n,NameKind.cell) else (n,k)).lookup x):=fun q hq=>by
    obtain⟨q1,q2⟩:=q
    simp only at hq
    subst hq
    rw[lookup_cons,hb]
   have h':((r.map fun (n,k)=>if (k==NameKind.free&&env.scope.kind == .function&&env.kindOf n==some .cell) then (n,NameKind.cell) else (n,k)).lookup x=some .cell∨(r.map fun (n,k)=>if (k==NameKind.free&&env.scope.kind == .function&&env.kindOf n==some .cell) then (n,NameKind.cell) else (n,k)).lookup x=some .free):=by
    rcases h with h|h
    ·left;exact(step _ (by show(if (k==NameKind.free&&env.scope.kind == .function&&env.kindOf n==some .cell)=true then (n,NameKind.cell) else (n,k)).1=n;split <;> rfl)).symm.trans h
    ·right;exact(step _ (by show(if (k==NameKind.free&&env.scope.kind == .function&&env.kindOf n==some .cell)=true then (n,NameKind.cell) else (n,k)).1=n;split <;> rfl)).symm.trans h
   obtain⟨y,hy,e⟩:=wb h' hr
   exact⟨y,mem_cons_of_mem _ hy,e⟩
theorem vd{env:Env}:∀{names:List (Str×NameKind)} {x:Str},names.lookup x=some .free→¬ (names.map fun (n,k)=>if (k==NameKind.free&&env.scope.kind == .function&&env.kindOf n==some .cell) then (n,NameKind.cell) else (n,k)).lookup x=some .local
 |[],_,h=>by simp at h
 | (n,k)::r,x,h=>by
  rw[map_cons]
  show ¬ List.lookup x ((if (k==NameKind.free&&env.scope.kind == .function&&env.kindOf n==some .cell)=true then (n,NameKind.cell) else (n,k))::_)=_
  rw[lookup_cons] at h
  by_cases hx:x=n
  ·subst hx
   simp only[beq_self_eq_true] at h
   have hk:k=.free:=Option.some.inj h
   subst hk
   split <;> simp[lookup_cons]
  ·have hb:(x==n)=false:=by simpa using hx
   rw[hb] at h
   split
   ·rw[lookup_cons,hb];exact vd h
   ·rw[lookup_cons,hb];exact vd h
section
variable{X:Cx}{scope:Scope}{N':List Str}
theorem jE(S:xm X scope)(ok:X.Ok){x:Str}{c:Addr}(h:(xC scope X.env).lookup x=some c):X.env.cells.lookup x=some c:=by
 rcases jP h with q|⟨y,hy,e1,e2,e3⟩
 ·simp at q
 ·subst e1
  obtain⟨c',hc'⟩:=ok.has y.1 (S.free y hy e2)
  rw[hc'] at e3 ⊢
  rw[e3];rfl
theorem Go{pins:List (Addr×Obj)}{σ σ':St}{H:Hp}{s:Shared}{h1:Heap}{fp:List Addr}{t:Nat}(S:xm X scope)(I:Inv X pins σ H s)(hfp:∀b∈fp,Xw X pins H b)(hlt:∀b∈fp,b<s.heap.objs.size)
  (hn:h1.Ns s.heap.objs.size fun _=>none) (hsb:∀b o,s.heap.get? b=some o→h1.get? b=some o) (hl:σ'.length=N'.length)
  (hσ:∀(i:Nat) (v:V),σ'[i]?=some (some v)→∃(x:Str) (j:Nat),N'[i]?=some x∧X.N[j]?=some x∧σ[j]?=some (some v)∧scope.names.lookup x=some .free) :
  Inv (X.comp scope N' s H s.heap.objs.size fp) [] σ' H { s with heap:=h1,toks:=t }:=by
 have hH:H s.heap.objs.size=none:=I.hok.fresh (le_refl _)
 have cl:∀{x c},(xC scope X.env).lookup x=some c→X.env.cells.lookup x=some c:=fun h=>jE S I.ok h
 have kept:∀{c v},s.heap.IsCell c v→h1.IsCell c v:=fun ⟨o,e,d⟩=>⟨o,hsb _ o e,d⟩
 refine⟨⟨I.ok.mod,S.kind,I.ok.glob,I.ok.blt,le_refl _,fun x y c e1 e2=>I.ok.inj x y c (cl e1) (cl e2),fun x hx=>?_,fun x c hf _=>absurd hf (by simp[Cx.comp]),I.ok.hd,I.ok.frames,.inl rfl,fun b hb=>?_,I.bs,le_trans I.ok.bsz I.sz,fun b o e hb=>?_,fun b hb hs=>?_,I.stack,I.stkFree⟩,
  I.os.symm ▸ rfl,I.bare,Un.kept hsb,⟨_,hn,fun i x v e1 e2 e3=>?_⟩,fun x c e=>?_,hH,fun x c e=>I.freeC x c (cl e),fun p hp=>absurd (show p∈([]:List (Addr×Obj)) from hp) (by simp),I.hok.kept hsb,hl⟩
 ·have hx:(relabel scope X.env).names.lookup x=some .cell∨(relabel scope X.env).names.lookup x=some .free:=hx
  exact vQ (.inl (wb hx S.nocell))
 ·have hb:b∈fp:=hb
  refine⟨ne_of_lt (hlt b hb),fun x c e=>(hfp b hb).2.2.2.2.1 x c (cl e)⟩
 ·have hb:b∈fp:=hb
  rcases (hfp b hb).2.2.2.1 with z|z
  ·exact I.ok.noex b o e z
  ·exact absurd (lt_of_lt_of_le (Heap.lt_size e) (le_trans I.ok.bsz z)) (lt_irrefl _)
 ·have hb:b∈fp:=hb
  obtain⟨_,f1,f2,_⟩:=hfp b hb
  rcases mem_cons.mp (I.stkSub b hs) with z|z
  ·exact f1 z
  ·exact f2 z
 ·obtain⟨x',j,e4,e5,e6,e9⟩:=hσ i v e2
  have hy:=PySem.mem_of_lookup e9
  have e1':N'[i]?=some x:=e1
  rw[e1'] at e4;cases e4
  have kd:=S.free _ hy rfl
  obtain⟨m,hm,hl⟩:=I.loc
  obtain⟨u,ru,lk⟩:=hl j x v e5 e6 (kd.elim (fun z=>.inr (.inl z)) fun z=>.inr (.inr z))
  refine⟨u,ru,?_⟩
  rcases lk with ⟨z,_⟩|⟨z,c,hc,hcell⟩
  ·rcases kd with k|k <;> rw[k] at z <;> cases z
  ·obtain⟨c',hc'⟩:=vQ (env:=X.env) (names:=scope.names) (cs:=[]) (x:=x) (.inl ⟨_,hy,rfl,rfl⟩)
   have:=cl hc'
   rw[hc] at this;cases this
   have e3':(relabel scope X.env).names.lookup x=some .local∨(relabel scope X.env).names.lookup x=some .cell∨(relabel scope X.env).names.lookup x=some .free:=e3
   rcases e3' with q|q|q
   ·exact absurd q (vd e9)
   ·exact .inr ⟨.inl q,c,hc',kept hcell⟩
   ·exact .inr ⟨.inr q,c,hc',kept hcell⟩
 ·obtain⟨v,z⟩:=I.cell x c (cl e)
  exact⟨v,kept z⟩
end
theorem Jp{prog:Program}{w:World}{A:Around}{R:Result→Shared→Prop}{s:Shared}{elt target iter:Expr}{ifs:List Expr}{scope:Scope}{pos:Pos}{it acc:Value}{env:Env}(I:Nat→Shared→Prop)
  (turn:∀n s,I n s→wpAny (model prog w) A (pyNext it) (fun r s₁=>match r with
   |none=>R (.ok .next) s₁
   |some v=>wpAny (model prog w) A (letOwnedTupleGo target it v) (fun _ s0=>wpAny (model prog w) A (assign target env v) (fun _ s₂=>
     wpAny (model prog w) A (forIn ifs true fun c r=>if r=true then do let ok ← isTrue c env (eval c env);pure (ForInStep.yield ok) else pure (ForInStep.yield r)) (fun ok s₃=>
      if ok=true then wpAny (model prog w) A (eval elt env) (fun x s₄=>
       wpAny (model prog w) A (call (.builtin "list.append") [acc,x]) (fun _ s₅=>∃m,m<n∧I m s₅) (fun _ _=>False) s₄) (fun _ _=>False) s₃
      else ∃m,m<n∧I m s₃) (fun _ _=>False) s₂) (fun _ _=>False) s0) (fun _ _=>False) s₁) (fun _ _=>False) s)
  (n:Nat) (h:I n s) :
  codeAny (model prog w) A (.compLoop (.ListComp elt [⟨target,iter,ifs,0⟩] scope pos) 0 it acc env) R s:=by
 refine codeAny_loop rfl I (fun n s hI=>?_) n h
 show wpAny _ A ((compTurn (.ListComp elt [⟨target,iter,ifs,0⟩] scope pos) 0 it acc env).onRaise (fun x=>do noteFrame x env;theTreesLotGoes x)) _ _ s
 refine wpAny_noted ?_
 rw[compTurn_list]
 refine wpAny_bind (wpAny_standAt (wpAny_bind (wpAny_mono (turn n s hI) (fun r s₁ h₁=>?_) fun _ _ h'=>h'.elim)))
 cases r with
 |none=>exact wpAny_pure h₁
 |some v=>
  refine wpAny_bind (wpAny_mono h₁ (fun _ s0 h0=>?_) fun _ _ h'=>h'.elim)
  refine wpAny_bind (wpAny_mono h0 (fun _ s₂ h₂=>wpAny_bind (wpAny_mono h₂ (fun ok s₃ h₃=>?_) fun _ _ h'=>h'.elim)) fun _ _ h'=>h'.elim)
  cases ok with
  |false=>exact wpAny_pure ⟨rfl,h₃⟩
  |true=>
   exact wpAny_bind (wpAny_bind (wpAny_mono h₃ (fun x s₄ h₄=>wpAny_bind (wpAny_mono h₄ (fun _ s₅ h₅=>wpAny_pure (wpAny_pure ⟨rfl,h₅⟩)) fun _ _ h'=>h'.elim)) fun _ _ h'=>h'.elim))
theorem Qr{M:Model}{A:Around}{env:Env}{Q:Bool→Shared→Prop}{E:Value→Shared→Prop}{s:Shared}(h:Q true s) :
  wpAny M A (forIn ([]:List Expr) true fun c r=>if r=true then do let ok ← isTrue c env (eval c env);pure (ForInStep.yield ok) else pure (ForInStep.yield r)) Q E s:=wpAny_pure h
theorem Qk{M:Model}{A:Around}{env:Env}{Q:Bool→Shared→Prop}{E:Value→Shared→Prop}{s:Shared}{c:Expr}(h:wpAny M A (isTrue c env (eval c env)) Q E s) :
  wpAny M A (forIn [c] true fun c r=>if r=true then do let ok ← isTrue c env (eval c env);pure (ForInStep.yield ok) else pure (ForInStep.yield r)) Q E s:=by
 rw[List.forIn_cons]
 simp only[if_true]
 refine wpAny_bind (wpAny_bind (wpAny_mono h (fun b s' q=>wpAny_pure ?_) fun _ _ e=>e))
 exact wpAny_pure q
def PTs(Y:Cx)(ifs:List Expr)(t:TT):Prop:=∀(pins:List (Addr×Obj)) (s:Shared) (σ:St) (H:Hp) (Q:Bool→Hp→Prop),Inv Y pins σ H s→t σ H Q →
 wpAny (model Y.prog Y.w) Y.A (forIn ifs true fun c r=>if r=true then do let ok ← isTrue c Y.env (eval c Y.env);pure (ForInStep.yield ok) else pure (ForInStep.yield r)) (TP Y pins σ Q) Y.xe s
theorem VG{Y:Cx}:PTs Y [] (fun _ H Q=>Q true H):=fun pins s σ H Q I h=>Qr ⟨H,I,h⟩
theorem Mf{Y:Cx}{c:Expr}{t:TT}(h:PT Y c t):PTs Y [c] t:=fun pins s σ H Q I q=>Qk (h pins s σ H Q I q)
def Vy(s0:St→St)(wi:TI)(g:TG)(ti:TT)(te:TE):TE:=fun σ H Q=>wi σ H fun J H1=>∀acc,H1 acc=none→∃W:Nat→Nat→St→Hp→Prop,(∃m,W 0 m (s0 σ) (upd H1 acc (.lst [])))∧∀i m σ1 H,W i m σ1 H →
 (J.stop i H∧Q (.ref acc) H)∨(J.go i H∧∀x H',J.yld i H x H'→g x σ1 H' fun σ2 H2=>ti σ2 H2 fun b H3=>
  if b=true then te σ2 H3 fun y H4=>∃ys,H4 acc=some (.lst ys)∧ys.length<sizeLine∧∃m',m'<m∧W (i+1) m' σ2 (upd H4 acc (.lst (ys++[y]))) else ∃m',m'<m∧W (i+1) m' σ2 H3)
section
variable{X:Cx}{scope:Scope}{N':List Str}{tg iter elt:Expr}{ifs:List Expr}{pos:Pos}{wi:TI}{g:TG}{ti:TT}{te:TE}{s0:St→St}
theorem MZ{P:Program}{w:World}{H:Hp}{h h':Heap}{C:Addr}(ok:HOk P w H h)(hC:H C=none)(k:∀b o,b≠C→h.get? b=some o→h'.get? b=some o):HOk P w H h':=fun b u e=>by
 refine(ok b u e).stay (fun c v hc q=>k c v ?_ q) (fun _ q=>q) fun _ _ q=>q
 rintro rfl
 rcases hc with z|z
 ·subst z;rw[hC] at e;cases e
 ·rw[hC] at z;cases z
theorem Z4{pins:List (Addr×Obj)}{σ:St}{H:Hp}{s:Shared}{QQ:V→Hp→Prop}{J:It}{fp:List Addr}{it acc:Addr}{tn:Nat→Heap→Prop}{RR:Addr→Result→Shared→Prop}{E:Value→Shared→Prop}{W:Nat→Nat→St→Hp→Prop}{m0:Nat}
  (S:xm X scope) (hc:X.calm=true) (hl:(s0 σ).length=N'.length)
  (hσ:∀(i:Nat) (v:V),(s0 σ)[i]?=some (some v)→∃(x:Str) (j:Nat),N'[i]?=some x∧X.N[j]?=some x∧σ[j]?=some (some v)∧scope.names.lookup x=some .free)
  (hg:∀s H C fp,PG (X.comp scope N' s H C fp) tg g) (ht:∀s H C fp,PTs (X.comp scope N' s H C fp) ifs ti) (he:∀s H C fp,PE (X.comp scope N' s H C fp) elt te)
  (I:Inv X pins σ H s) (T:WI X.prog X.w X.K tg J fp it tn) (st:tn 0 s.heap) (hfp:∀b∈fp,Xw X pins H b) (hlt:∀b∈fp,b<s.heap.objs.size) (hacc:acc<s.heap.objs.size)
  (w0:W 0 m0 (s0 σ) H) (turn:∀i m σ1 H,W i m σ1 H→(J.stop i H∧QQ (.ref acc) H)∨(J.go i H∧∀x H',J.yld i H x H'→g x σ1 H' fun σ2 H2=>ti σ2 H2 fun b H3=>
    if b=true then te σ2 H3 fun y H4=>∃ys,H4 acc=some (.lst ys)∧ys.length<sizeLine∧∃m',m'<m∧W (i+1) m' σ2 (upd H4 acc (.lst (ys++[y]))) else ∃m',m'<m∧W (i+1) m' σ2 H3))
  (hRR:∀s',(∃m,s'.heap.Ns s.heap.objs.size m)→(∀h',Heap.SameBut s.heap.objs.size s'.heap h'→EP X pins σ (fun v H'=>QQ v H'∧H' s.heap.objs.size=none) (.ref acc) { s' with heap:=h' })→RR s.heap.objs.size (.ok .next) s') :
  wpAny (model X.prog X.w) X.A (newFunctionEnv scope X.env.globals (xC scope X.env) [] X.env.qual none .none (some X.env)) (fun cenv s₄=>
   codeAny (model X.prog X.w) X.A (.compStart (.ListComp elt [⟨tg,iter,ifs,0⟩] scope pos) 0 (.ref it) (.ref acc) { cenv with scope:=relabel scope X.env }) (RR cenv.locals) s₄) E s:=by
 refine wpAny_newFunctionEnv S.nocell (by intro y hy;simp at hy) (fun h1 hns hsb=>?_) S.kind
 have keep3:∀b o,s.heap.get? b=some o→h1.get? b=some o:=fun b o e=>hsb.extBut b o (ne_of_lt (Heap.lt_size e)) (Heap.get?_push_of_some _ e)
 have Y0:Inv (X.comp scope N' s H s.heap.objs.size fp) [] (s0 σ) H { s with heap:=h1,toks:=s.toks+([]:List (Str×Value)).length }:=Go S I hfp hlt hns keep3 hl hσ
 have fpY:∀{H':Hp},(∀b∈fp,H' b=none)→∀b∈fp,Xw (X.comp scope N' s H s.heap.objs.size fp) [] H' b:=fun {H'} hn b hb=>by
  obtain⟨f0,f1,f2,f3,f4,f5⟩:=hfp b hb
  refine⟨hn b hb,ne_of_lt (hlt b hb),fun z=>?_,.inl hb,fun x c e=>f4 x c (jE S I.ok e),fun p hp=>absurd (show p∈([]:List (Addr×Obj)) from hp) (by simp)⟩
  rcases mem_cons.mp (I.stkSub b z) with q|q
  ·exact f1 q
  ·exact f2 q
 have st1:tn 0 h1:=T.keep _ _ _ st fun b hb o e=>keep3 b o e
 have loop:∀s3:Shared,s3 = { s with heap:=h1,toks:=s.toks+([]:List (Str×Value)).length } →
   codeAny (model X.prog X.w) X.A (.compLoop (.ListComp elt [⟨tg,iter,ifs,0⟩] scope pos) 0 (.ref it) (.ref acc) (X.comp scope N' s H s.heap.objs.size fp).env) (RR s.heap.objs.size) s3:=by
  rintro s3 rfl
  refine Jp (fun n s'=>∃i σ' H',Inv (X.comp scope N' s H s.heap.objs.size fp) [] σ' H' s'∧tn i s'.heap∧(∀b∈fp,H' b=none)∧W i n σ' H') ?_ m0 ⟨0,s0 σ,H,Y0,st1,fun b hb=>(hfp b hb).1,w0⟩
  rintro n s4 ⟨i,σ4,H4,I4,st4,fr4,w4⟩
  rcases turn i n σ4 H4 w4 with ⟨stop,qn⟩|⟨go,step⟩
  ·refine thn (T.done (X.comp scope N' s H s.heap.objs.size fp) rfl rfl rfl hc i [] s4 σ4 H4 _ I4 (fpY fr4) st4 stop) fun r s5 ⟨hr,I5⟩=>?_
   subst hr
   obtain⟨m5,n5,_⟩:=id I5.loc
   have hC:H4 s.heap.objs.size=none:=I5.free
   refine hRR s5 ⟨m5,n5⟩ fun h' sb=>⟨.ref acc,H4,?_,rfl,qn,hC⟩
   refine I.call' (s':={ s5 with heap:=h' }) (ch:=fp) I5.os ⟨fun b o e n hb hx=>?_,fun b o e n hb hx=>?_,fun b o e n hx=>I5.base.free b o e n hx,fun b o e hx=>?_,I5.base.tups,I5.base.frzs,I5.base.tbls⟩ (MZ I5.hok hC fun b o hb e=>(sb.2 b hb).trans e) I5.bare fun b hb=>?_
   ·exact(sb.2 b (ne_of_lt (Heap.lt_size e))).trans (I5.base.keep b o e n hb hx)
   ·obtain⟨sl,q⟩:=I5.base.slot b o e n hb hx
    exact⟨sl,(sb.2 b (ne_of_lt (Heap.lt_size e))).trans q⟩
   ·obtain⟨o',q⟩:=I5.base.there b o e hx
    exact⟨o',(sb.2 b (ne_of_lt (Heap.lt_size e))).trans q⟩
   ·obtain⟨f0,f1,f2,f3,f4,f5⟩:=hfp b hb
    exact⟨f3,f1,f4,f5⟩
  ·refine thn (T.item (X.comp scope N' s H s.heap.objs.size fp) rfl rfl rfl hc i [] s4 σ4 H4 _ I4 (fpY fr4) st4 go) fun r s5 ⟨u,hr,h5⟩=>?_
   subst hr
   refine thn h5 fun _ s6 ⟨x,H6,I6,r6,y6,st6,fr6⟩=>?_
   have I6':=I6.pinned (fpY fr6) (T.obj _ _ st6)
   refine thn (hg _ _ _ _ _ s6 σ4 H6 x u _ I6' r6 (step x H6 y6)) fun _ s7 ⟨σ7,H7,I7,q7⟩=>?_
   refine thn (ht _ _ _ _ _ s7 σ7 H7 _ I7 q7) fun ok s8 ⟨H8,I8,q8⟩=>?_
   have again:∀{s9:Shared} {H9:Hp} {m':Nat},Inv (X.comp scope N' s H s.heap.objs.size fp) ([]++Zw fp s6.heap) σ7 H9 s9→m'<n→W (i+1) m' σ7 H9→∃m,m<n∧∃i σ' H',Inv (X.comp scope N' s H s.heap.objs.size fp) [] σ' H' s9∧tn i s9.heap∧(∀b∈fp,H' b=none)∧W i m σ' H':=fun {s9 H9 m'} I9 hm w9=>by
    refine⟨m',hm,i+1,σ7,H9,I9.unpinned,T.keep _ _ _ st6 fun b hb o e=>(I9.pin (b,o) (mem_append_right _ (mem_append_right _ (vo hb e)))).1,fun b hb=>?_,w9⟩
    obtain⟨o,e,d⟩:=T.obj _ _ st6 b hb
    exact(I9.pin (b,o) (mem_append_right _ (mem_append_right _ (vo hb e)))).2.1
   cases ok with
   |false=>
    rw[if_neg (by simp)] at q8
    obtain⟨m',hm,w8⟩:=q8
    exact again I8 hm w8
   |true=>
    rw[if_pos rfl] at q8
    refine thn (he _ _ _ _ _ s8 σ7 H8 _ I8 q8) fun y s9 ⟨z,H9,I9,r9,ys,e9,l9,m',hm,w9⟩=>?_
    refine thn (jt _ s9 σ7 H9 (.ref acc) [z] (.ref acc) [y] (fun _ H'=>H'=upd H9 acc (.lst (ys++[z]))) I9 rfl (.cons r9 .nil) ⟨acc,ys,z,rfl,rfl,e9,l9,rfl⟩) fun _ s10 ⟨_,H10,I10,_,e10⟩=>?_
    subst e10
    exact again I10 hm w9
 exact codeAny_compStart_list (loop _ rfl) (T.self _ 0 _ _ _ st1 (loop _ rfl))
end
section
variable{X:Cx}{scope:Scope}{N':List Str}{tg iter elt:Expr}{ifs:List Expr}{pos:Pos}{wi:TI}{g:TG}{ti:TT}{te:TE}{s0:St→St}
theorem TN{pins:List (Addr×Obj)}{σ:St}{H:Hp}{s:Shared}{J:It}{fp:List Addr}{it:Addr}{tn:Nat→Heap→Prop}(T:WI X.prog X.w X.K tg J fp it tn)(st:tn 0 s.heap):∀b∈fp,b<s.heap.objs.size:=fun b hb=>by
 obtain⟨o,e,_⟩:=T.obj 0 _ st b hb
 exact Heap.lt_size e
theorem VN(S:xm X scope)(hc:X.calm=true)(hl:∀σ:St,σ.length=X.N.length→(s0 σ).length=N'.length)
  (hσ:∀(σ:St) (i:Nat) (v:V),(s0 σ)[i]?=some (some v)→∃(x:Str) (j:Nat),N'[i]?=some x∧X.N[j]?=some x∧σ[j]?=some (some v)∧scope.names.lookup x=some .free)
  (hi:PI X tg iter wi) (hg:∀s H C fp,PG (X.comp scope N' s H C fp) tg g) (ht:∀s H C fp,PTs (X.comp scope N' s H C fp) ifs ti) (he:∀s H C fp,PE (X.comp scope N' s H C fp) elt te)
  (hs:∀x,foldedSetIterable iter X.env x=pure x:=by intro _;rfl):PE X (.ListComp elt [⟨tg,iter,ifs,0⟩] scope pos) (Vy s0 wi g ti te):=by
 intro pins s σ H Q I h
 rw[eval_ListComp]
 have hclos:=wQ (scope:=scope) (env:=X.env) fun y hy hk=>Option.isSome_iff_exists.mpr (I.ok.has y.1 (S.free y hy hk))
 refine wpAny_comprehension_free (use:=none) rfl hs hclos S.kind S.locs (thn (hi pins s σ H _ I h) fun x s1 h1=>thn h1 fun itv s2 h2=>?_)
 obtain⟨it,fp,tn,J,H2,e,I2,T,st2,f2,hw⟩:=h2
 subst e
 have hf:H2 s2.heap.objs.size=none:=I2.hok.fresh (le_refl _)
 obtain⟨W,⟨m0,w0⟩,turn⟩:=hw _ hf
 have hlt:=TN (pins:=pins) (σ:=σ) (H:=H2) T st2
 refine wpAny_newObj_type ?_
 have I3:Inv X pins σ (upd H2 s2.heap.objs.size (.lst [])) { s2 with heap:=s2.heap.push { cls:=.type "list", dict:=none,data:=.seq ([]:List Value).toArray } }:=
  I2.laid (t':=s2.toks) (o:=.lst []) (fun b u e=>Heap.get?_push_of_some _ e) (le_refl _) ⟨zero_le _,[],0,.nil,Heap.get?_push_size _ rfl⟩
 have hsz:s2.heap.objs.size<(s2.heap.push { cls:=.type "list", dict:=none,data:=.seq ([]:List Value).toArray }).objs.size:=by rw[Heap.size_push];exact lt_succ_self _
 refine Z4 (s0:=s0) (QQ:=Q) (W:=W) (m0:=m0) S hc (hl σ I2.len) (hσ σ) hg ht he I3 T (T.keep _ _ _ st2 fun b hb o e=>Heap.get?_push_of_some _ e) (fun b hb=>?_) (fun b hb=>lt_trans (hlt b hb) hsz) hsz w0 turn fun s' ⟨m,hn⟩ hq=>⟨m,hn,fun h' sb=>let ⟨v,H',I',r',q',_⟩:=hq h' sb;⟨v,H',I',r',q'⟩⟩
 obtain⟨f0,f1,f2,f3⟩:=f2 b hb
 exact⟨by rw[zn (ne_of_lt (hlt b hb))];exact f0,f1,f2,f3⟩
theorem VJ{i:Nat}{y:Str}{py spos:Pos}(hN:X.N.Nodup)(hiN:X.N[i]?=some y)(hy:X.env.scope.names.lookup y=some .local)
  (hsw:swapsWith (.ListComp elt [⟨tg,iter,ifs,0⟩] scope pos) (some (.Name y py)) spos.line X.env=pure true)
  (S:xm X scope) (hc:X.calm=true) (hl:∀σ:St,σ.length=X.N.length→(s0 σ).length=N'.length)
  (hσ:∀(σ:St) (i:Nat) (v:V),(s0 σ)[i]?=some (some v)→∃(x:Str) (j:Nat),N'[i]?=some x∧X.N[j]?=some x∧σ[j]?=some (some v)∧scope.names.lookup x=some .free)
  (hi:PI X tg iter wi) (hg:∀s H C fp,PG (X.comp scope N' s H C fp) tg g) (ht:∀s H C fp,PTs (X.comp scope N' s H C fp) ifs ti) (he:∀s H C fp,PE (X.comp scope N' s H C fp) elt te)
  (hs:∀x,foldedSetIterable iter X.env x=pure x:=by intro _;rfl):PS X (.Assign [.Name y py] (.ListComp elt [⟨tg,iter,ifs,0⟩] scope pos) spos) (T4 (Vy s0 wi g ti te) (u6 i)):=by
 intro pins s σ H D I h
 rw[exec_Assign_Name_used _ _ _ _ hsw]
 refine wpAny_bind (wpAny_standAt (wpAny_bind ?_))
 show wpAny _ X.A (do let _ ← comprehension (.ListComp elt [⟨tg,iter,ifs,0⟩] scope pos) scope X.env _ (newList []) false (eval iter X.env) (some (assign (.Name y py) X.env))) _ _ s
 have hclos:=wQ (scope:=scope) (env:=X.env) fun y hy hk=>Option.isSome_iff_exists.mpr (I.ok.has y.1 (S.free y hy hk))
 refine wpAny_bind (wpAny_mono (wpAny_comprehension_free (use:=some (assign (.Name y py) X.env)) (Q:=fun _ s'=>SP X pins D .next s') rfl hs hclos S.kind S.locs
  (thn (hi pins s σ H _ I h) fun x s1 h1=>thn h1 fun itv s2 h2=>?_)) (fun _ s' hq=>wpAny_pure (wpAny_pure hq)) fun _ _ e=>e)
 obtain⟨it,fp,tn,J,H2,e,I2,T,st2,f2,hw⟩:=h2
 subst e
 have hf:H2 s2.heap.objs.size=none:=I2.hok.fresh (le_refl _)
 obtain⟨W,⟨m0,w0⟩,turn⟩:=hw _ hf
 have hlt:=TN (pins:=pins) (σ:=σ) (H:=H2) T st2
 refine wpAny_newObj_type ?_
 have I3:Inv X pins σ (upd H2 s2.heap.objs.size (.lst [])) { s2 with heap:=s2.heap.push { cls:=.type "list", dict:=none,data:=.seq ([]:List Value).toArray } }:=
  I2.laid (t':=s2.toks) (o:=.lst []) (fun b u e=>Heap.get?_push_of_some _ e) (le_refl _) ⟨zero_le _,[],0,.nil,Heap.get?_push_size _ rfl⟩
 have hsz:s2.heap.objs.size<(s2.heap.push { cls:=.type "list", dict:=none,data:=.seq ([]:List Value).toArray }).objs.size:=by rw[Heap.size_push];exact lt_succ_self _
 refine Z4 (s0:=s0) (QQ:=fun x H1=>u6 i x σ H1 D.nx) (W:=W) (m0:=m0) S hc (hl σ I2.len) (hσ σ) hg ht he I3 T (T.keep _ _ _ st2 fun b hb o e=>Heap.get?_push_of_some _ e) (fun b hb=>?_) (fun b hb=>lt_trans (hlt b hb) hsz) hsz w0 turn fun s' ⟨m,hn⟩ hq=>?_
 ·obtain⟨f0,f1,f2,f3⟩:=f2 b hb
  exact⟨by rw[zn (ne_of_lt (hlt b hb))];exact f0,f1,f2,f3⟩
 ·obtain⟨v,H5,I5,r5,q5,hC⟩:=hq s'.heap (.refl ..)
  have I5:Inv X pins σ H5 s':=I5
  show wpAny _ X.A (assign (.Name y py) X.env _) _ _ s'
  refine wpAny_assign_Name (Yt I5 hN hiN (.inl hy) r5 (fun s6 I6 ⟨a,sb,ha⟩=>?_) (.inr hy))
  have lt3:=I3.lt
  have ca:∀x c,X.env.cells.lookup x=some c→c<(s2.heap.push { cls:=.type "list", dict:=none,data:=.seq ([]:List Value).toArray }).objs.size:=fun x c e=>by
   obtain⟨v,z⟩:=I3.cell x c e
   exact z.lt
  have hne:(s2.heap.push { cls:=.type "list", dict:=none,data:=.seq ([]:List Value).toArray }).objs.size≠a:=by
   rcases ha with rfl|ha
   ·exact ne_of_gt lt3
   ·exact ne_of_gt (ca _ _ ha)
  refine⟨m,hn.sameBut sb hne,fun h' sb'=>⟨_,H5,?_,q5⟩⟩
  refine I6.turned (t':=s6.toks) (it:=(s2.heap.push { cls:=.type "list", dict:=none,data:=.seq ([]:List Value).toArray }).objs.size) (fun b o hb e=>(sb'.2 b hb).trans e) hC (ne_of_gt lt3) (.inr I3.sz) (fun x c e=>ne_of_lt (ca x c e)) fun p hp=>?_
  exact ne_of_lt (Heap.lt_size (I3.pin p hp).1)
end
def wW(set:FG)(ft:FT)(fe:FE)(τ:DS):List D→Rs (List D)
 |[]=>.ok []
 |d::r=>match set d τ with
  |.ok τ1=>match ft τ1 with
   |.ok true=>match fe τ1 with
    |.ok x=>(wW set ft fe τ r).bind fun xs=>.ok (x::xs)
    |_=>.no
   |.ok false=>wW set ft fe τ r
   |_=>.no
  |_=>.no
def vU:Option (Option Sl)→Option Sl
 | some (some (.val d))=>some (.val d)
 | some (some (.obr c fs))=>some (.obr c fs)
 | some (some (.obj _ c fs))=>some (.obr c fs)
 |_=>none
def wD(k:Nat)(idx:List Nat)(τ:DS):DS:=List.replicate k none++idx.map fun j=>vU τ[j]?
def wE(k:Nat)(idx:List Nat)(σ:St):St:=List.replicate k none++idx.map fun j=>(σ[j]?).join
def xr(k:Nat)(idx:List Nat)(fi:FA)(set:FG)(ft:FT)(fe:FE):FA:=fun τ=>(fi τ).bind fun ds=>match wW set ft fe (wD k idx τ) ds with
 |.ok xs=>if xs.length≤sizeLine then .ok xs else .no
 |_=>.no
def ug(τ:DS):Prop:=(∀(i:Nat) es,τ[i]?≠some (some (.own es)))∧∀(i n:Nat) c fs,τ[i]?≠some (some (.obj n c fs))
structure YZ(set:FG):Prop where
 ov:∀d e τ τ1,set e τ=.ok τ1→set d τ1=set d τ
 no:∀d τ τ1,set d τ=.ok τ1→ug τ→ug τ1
theorem jq{τ:DS}{i:Nat}{d:D}(h:ug τ):ug (τ.set i (some (.val d))):=⟨fun j es e=>by
 by_cases hij:i=j
 ·subst hij
  rw[getElem?_set] at e
  simp only[if_true] at e
  split at e <;> cases e
 ·rw[getElem?_set_ne hij] at e;exact h.1 j es e,fun j n c fs e=>h.2 j n c fs (yB (s:=some (.val d)) rfl rfl e).2⟩
theorem x0(i:Nat):YZ (gNm i):=⟨fun d e τ τ1 h=>by
 unfold gNm at h ⊢;cases h;rw[set_set],fun d τ τ1 h n=>by unfold gNm at h;cases h;exact jq n⟩
theorem Zt(i j:Nat):YZ (gPr i j):=⟨fun d e τ τ1 h=>by
 unfold gPr at h ⊢
 cases q:ZB e with
 |none=>rw[q] at h;cases h
 |some xy=>
  obtain⟨x,y⟩:=xy
  rw[q] at h;cases h
  cases q2:ZB d with
  |none=>rfl
  |some zw=>
   obtain⟨z,w⟩:=zw
   by_cases hij:i=j
   ·subst hij;simp[set_set]
   ·have e1:((τ.set i (some (.val x))).set j (some (.val y))).set i (some (.val z))=(τ.set i (some (.val z))).set j (some (.val y)):=by
     rw[List.set_comm _ _ (Ne.symm hij),set_set]
    simp only
    rw[e1,set_set]
    , fun d τ τ1 h n=>by
 unfold gPr at h
 cases q:ZB d with
 |none=>rw[q] at h;cases h
 |some xy=>
  obtain⟨x,y⟩:=xy
  rw[q] at h;cases h
  exact jq (jq n)⟩
theorem vm(k:Nat)(idx:List Nat)(τ:DS):∀(i:Nat) es,(wD k idx τ)[i]?≠some (some (.own es)):=fun i es e=>by
 unfold wD at e
 by_cases hi:i<k
 ·rw[getElem?_append_left (by simpa using hi),getElem?_replicate] at e
  simp[hi] at e
 ·rw[getElem?_append_right (by simpa using hi),getElem?_map] at e
  cases q:idx[i-(List.replicate k (none:Option Sl)).length]? with
  |none=>rw[q] at e;cases e
  |some j=>
   rw[q] at e
   simp only[Option.map_some,Option.some.injEq] at e
   unfold vU at e
   split at e <;> cases e
theorem uw(k:Nat)(idx:List Nat)(τ:DS):∀(i n:Nat) c fs,(wD k idx τ)[i]?≠some (some (.obj n c fs)):=fun i n c fs e=>by
 unfold wD at e
 by_cases hi:i<k
 ·rw[getElem?_append_left (by simpa using hi),getElem?_replicate] at e
  simp[hi] at e
 ·rw[getElem?_append_right (by simpa using hi),getElem?_map] at e
  cases q:idx[i-(List.replicate k (none:Option Sl)).length]? with
  |none=>rw[q] at e;cases e
  |some j=>
   rw[q] at e
   simp only[Option.map_some,Option.some.injEq] at e
   unfold vU at e
   split at e <;> cases e
theorem vn(k:Nat)(idx:List Nat)(τ:DS):ug (wD k idx τ):=⟨vm k idx τ,uw k idx τ⟩
theorem Qn{k:Nat}{idx:List Nat}{τ:DS}{i:Nat}{c:Str}{fs:List (Str×D)}(e:(wD k idx τ)[i]?=some (some (.obr c fs))):∃j,k≤i∧idx[i-k]?=some j∧((∃n,τ[j]?=some (some (.obj n c fs)))∨τ[j]?=some (some (.obr c fs))):=by
 unfold wD at e
 by_cases hi:i<k
 ·rw[getElem?_append_left (by simpa using hi),getElem?_replicate] at e
  simp[hi] at e
 ·rw[getElem?_append_right (by simpa using hi),getElem?_map] at e
  simp only[List.length_replicate] at e
  cases q:idx[i-k]? with
  |none=>rw[q] at e;cases e
  |some j=>
   rw[q] at e
   simp only[Option.map_some,Option.some.injEq] at e
   unfold vU at e
   split at e <;> cases e
   ·exact⟨j,by omega,rfl,.inr (by assumption)⟩
   ·exact⟨j,by omega,rfl,.inl ⟨_,by assumption⟩⟩
theorem ObsOk.read{K:PySem.W.Frag}{F H:Hp}{τ:DS}{σ:St}(n:ug τ)(h:∀(i:Nat) (c:Str) (fs:List (Str×D)),τ[i]?=some (some (.obr c fs))→∃a C dx vs,σ[i]?=some (some (.ref a))∧H a=some (.ins C dx vs)∧nsIn K mainGlobals c=some (some (.ref C))∧Flds K F H c fs vs):ObsOk K F τ σ H:=
 ⟨fun i m c fs h=>absurd h (n.2 i m c fs),fun i j m c c' fs a _ h=>absurd h (n.2 i m c fs),h,fun i j m c c' fs a a' l _ h=>absurd h (n.2 i m c fs),fun i j c ds a l _ h=>absurd h (n.1 j ds)⟩
theorem RV.free_upd{K:PySem.W.Frag}{F H:Hp}{τ:DS}{σ:St}{p:Addr}{o:HO}(R:RV K F τ σ H)(n:ug τ)(hp:F p=none)(hl:H p=none∨∃vs,H p=some (.lst vs))(hq:∀(i:Nat) (c:Str) (a:Addr),ObS τ[i]? c→σ[i]?=some (some (.ref a))→p∉Lof H c a)(ho:∀a,o≠.own a:=by intro _ h;cases h):RV K F τ σ (upd H p o):=
 ⟨fun b u e=>by
  have:b≠p:=fun z=>by subst z;rw[hp] at e;cases e
  rw[zn this];exact R.fh b u e,R.len,R.val,fun i es e=>absurd e (n.1 i es),fun i j ds es a _ h=>absurd h (n.1 i ds),R.tt.step (fun _ _ e=>.inl e) (fun b o e n=>by
  have:b≠p:=fun z=>by
   subst z
   rcases hl with z|⟨vs,z⟩
   ·rw[z] at e;cases e
   ·rw[z] at e;cases e;exact n _ rfl
  rw[zn this];exact e) (jp ho),R.ob.updL hl hq⟩
theorem RS.apart{K:PySem.W.Frag}{B Z F H:Hp}{τ:DS}{σ:St}{p:Addr}(R:RS K B Z F τ σ H)(n:ug τ)(hp:B p=none):∀(i:Nat) (c:Str) (a:Addr),ObS τ[i]? c→σ[i]?=some (some (.ref a))→p∉Lof H c a:=fun i c a h e hm=>by
 rcases h with ⟨m,fs,h⟩|⟨fs,h⟩
 ·exact n.2 i m c fs h
 ·obtain⟨C,dx,vs,h1,h2⟩:=R.ro i c fs a h e
  rw[Lof.ins (R.bh _ _ h1)] at hm
  obtain⟨ws,h3⟩:=h2 p hm
  rw[hp] at h3;cases h3
theorem RS.free_upd{K:PySem.W.Frag}{B Z F H:Hp}{τ:DS}{σ:St}{p:Addr}{vs:List V}(R:RS K B Z F τ σ H)(n:ug τ)(hb:B p=none)(hp:F p=none)(hl:H p=none∨∃vs,H p=some (.lst vs)):RS K B Z F τ σ (upd H p (.lst vs)):=
 ⟨R.rv.free_upd n hp hl (R.apart n hb),fun a o e=>by
  have:a≠p:=fun z=>by subst z;rw[hb] at e;cases e
  rw[zn this];exact R.bh a o e,R.zf,R.nb,fun i ds a h=>absurd h (n.1 i ds),fun i m c fs a h=>absurd h (n.2 i m c fs),fun a0 dx h1 h2 i m c fs h=>absurd h (n.2 i (m+1) c fs),R.ro⟩
theorem Y5{K:PySem.W.Frag}{F H:Hp}{τ:DS}{σ:St}(k:Nat)(idx:List Nat)(R:RV K F τ σ H):RV K F (wD k idx τ) (wE k idx σ) H:=by
 refine⟨R.fh,by simp[wD,wE],fun i d e=>?_,fun i es e=>absurd e (vm k idx τ i es),fun i j ds es a _ h=>absurd h (vm k idx τ i ds),R.tt,ObsOk.read (vn k idx τ) fun i c fs e=>?_⟩
 rotate_left
 ·obtain⟨j,hk,hj,h⟩:=Qn e
  have es:∀v,σ[j]?=some (some v)→(wE k idx σ)[i]?=some (some v):=fun v h=>by
   unfold wE
   rw[getElem?_append_right (by simpa using hk),getElem?_map]
   simp[hj,h]
  rcases h with ⟨n,h⟩|h
  ·obtain⟨a,h1,C,dx,vs,h2,_,h4,h5,_⟩:=R.ob.at_ j n c fs h
   exact⟨a,C,dx,vs,es _ h1,h2,h4,h5⟩
  ·obtain⟨a,C,dx,vs,h1,h2,h4,h5⟩:=R.ob.rd j c fs h
   exact⟨a,C,dx,vs,es _ h1,h2,h4,h5⟩
 unfold wD at e
 unfold wE
 by_cases hi:i<k
 ·rw[getElem?_append_left (by simpa using hi),getElem?_replicate] at e
  simp[hi] at e
 ·rw[getElem?_append_right (by simpa using hi),getElem?_map] at e
  rw[getElem?_append_right (by simpa using hi),getElem?_map]
  simp only[List.length_replicate] at e ⊢
  cases q:idx[i-k]? with
  |none=>rw[q] at e;cases e
  |some j=>
   rw[q] at e
   simp only[Option.map_some,Option.some.injEq] at e
   have:τ[j]?=some (some (.val d)):=by
    unfold vU at e
    split at e <;> cases e
    assumption
   obtain⟨v,h1,h2⟩:=R.val j d this
   exact⟨v,by simp[h1],h2⟩
theorem G4{K:PySem.W.Frag}{F H:Hp}{τ:DS}{σ:St}(k:Nat)(idx:List Nat)(R:RV K F τ σ H):RS K H F F (wD k idx τ) (wE k idx σ) H:=
 ⟨Y5 k idx R,Hh.refl H,Same.refl F,fun a o e=>.inl e,fun i ds a h=>absurd h (vm k idx τ i ds),fun i m c fs a h=>absurd h (uw k idx τ i m c fs),fun a0 dx h1 h2 i m c fs h=>absurd h (uw k idx τ i (m+1) c fs),fun i c fs a h e=>by
  obtain⟨a',C,dx,vs,h1,h2,_,h5⟩:=(Y5 k idx R).ob.rd i c fs h
  rw[e] at h1;cases h1
  exact⟨C,dx,vs,h2,fun l hl=>(h5.own hl).2⟩⟩
def wa(H:Hp)(p:Addr):Hp:=fun b=>if b=p then none else H b
theorem vN(H:Hp)(p:Addr):wa H p p=none:=by unfold wa;rw[if_pos rfl]
theorem jz{H:Hp}{p b:Addr}(h:b≠p):wa H p b=H b:=by unfold wa;rw[if_neg h]
theorem Zn(H:Hp)(p:Addr)(o:HO):upd (wa H p) p o=upd H p o:=by
 funext b;unfold upd wa;split <;> rfl
theorem Z1{F1 H1 F2 Hm F5 H5:Hp}{acc:Addr}{ls:List V}(a:Ext F1 H1 F2 Hm)(hm:Hm acc=none)(b:Ext F2 (upd Hm acc (.lst ls)) F5 H5):Ext F1 H1 F5 (wa H5 acc)∧F5 acc=none:=by
 have hf5:F5 acc=none:=by
  cases q:F5 acc with
  |none=>rfl
  |some o=>
   rcases b.nw acc o q with z|z
   ·rw[zP a.fh hm] at z;cases z
   ·rw[zt] at z;cases z
 have h1:H1 acc=none:=wy a.hh hm
 have ha:H5 acc=some (.lst ls):=b.hh acc _ zt
 refine⟨⟨a.ff.trans b.ff,fun c o e=>?_,fun c o e=>?_,fun c o e=>?_,fun t=>?_⟩,hf5⟩
 ·have n:c≠acc:=fun z=>by subst z;rw[h1] at e;cases e
  rw[jz n]
  exact((a.hh.trans (.of (yi hm))).trans b.hh) c o e
 ·have n:c≠acc:=fun z=>by subst z;rw[hf5] at e;cases e
  rw[jz n];exact b.fh c o e
 ·rcases b.nw c o e with z|z
  ·exact a.nw c o z
  ·have n:c≠acc:=fun z'=>by subst z';rw[zt] at z;cases z
   rw[zn n] at z
   exact .inr (wy a.hh z)
 ·have t2:=b.tt ((a.tt t).step (F':=F2) (H':=upd Hm acc (.lst ls)) (fun _ _ e=>.inl e) (fun c o e _=>by rw[zn (yh e hm)];exact e) (jp fun _ z=>nomatch z))
  exact t2.step (fun _ _ e=>.inl e) (fun c o e n=>by
   have:c≠acc:=fun z=>by subst z;rw[ha] at e;cases e;exact n _ rfl
   rw[jz this];exact e) fun d a e=>by
   unfold wa at e
   split at e
   ·cases e
   ·exact e
def FreeOk(scope:Scope)(N:List Str):List Str→List Nat→Prop
 |[],[]=>True
 |x::xs,j::js=>N[j]?=some x∧scope.names.lookup x=some .free∧FreeOk scope N xs js
 |_,_=>False
theorem FreeOk.len{scope:Scope}{N:List Str}:∀{xs:List Str} {js:List Nat},FreeOk scope N xs js→xs.length=js.length
 |[],[],_=>rfl
 |_::xs,_::js,h=>by rw[length_cons,length_cons,FreeOk.len h.2.2]
theorem FreeOk.get{scope:Scope}{N:List Str}:∀{xs:List Str} {js:List Nat} {p j:Nat},FreeOk scope N xs js→js[p]?=some j→∃x,xs[p]?=some x∧N[j]?=some x∧scope.names.lookup x=some .free
 |[],[],_,_,_,e=>by simp at e
 |x::xs,i::js,0,j,h,e=>by simp at e;subst e;exact⟨x,rfl,h.1,h.2.1⟩
 |x::xs,i::js,p+1,j,h,e=>by
  obtain⟨y,h1,h2⟩:=FreeOk.get (p:=p) h.2.2 (by simpa using e)
  exact⟨y,by simpa using h1,h2⟩
def vt(osc scope:Scope):Bool:=(match scope.kind with | .function=>true|_=>false)&&scope.names.all (fun y=>match y.2 with
 |.cell=>false
 |.local=>(match scope.names.lookup y.1 with|some .local=>true|_=>false)
 |.free=>(match osc.names.lookup y.1 with|some .cell=>true|some .free=>true|_=>false)
 |_=>true)
theorem xR{X:Cx}{scope:Scope}(h:vt X.env.scope scope=true):xm X scope:=by
 unfold vt at h
 rw[Bool.and_eq_true,List.all_eq_true] at h
 obtain⟨h1,h2⟩:=h
 refine⟨?_,fun y hy z=>?_,fun y hy z=>?_,fun y hy z=>?_⟩
 ·split at h1
  ·assumption
  ·cases h1
 ·have:=h2 y hy;rw[z] at this;cases this
 ·have:=h2 y hy;rw[z] at this
  simp only at this
  split at this
  ·assumption
  ·cases this
 ·have:=h2 y hy;rw[z] at this
  simp only at this
  split at this
  ·left;assumption
  ·right;assumption
  ·cases this
def GF(Y:Cx)(ifs:List Expr)(f:FT):Prop:=PTs Y ifs (tTs Y f)
theorem wu{Y:Cx}:GF Y [] (fun _=>.ok true):=fun pins s σ H Q I ⟨F,τ,R,h⟩=>VG pins s σ H Q I (h F H (Ext.refl R.fh))
theorem uN{Y:Cx}{c:Expr}{f:FT}(h:PDT Y c f):GF Y [c] f:=Mf h
section
variable{X:Cx}{scope:Scope}{tn fr:List Str}{idx:List Nat}{tg iter elt:Expr}{ifs:List Expr}{pos:Pos}{fi:FA}{set:FG}{ft:FT}{fe:FE}
structure CWH(K:PySem.W.Frag)(set:FG)(ft:FT)(fe:FE)(t0:DS)(ds xs:List D)(F1 H1:Hp)(acc:Addr)(i:Nat)(σ1:St)(Hc F2 Hm:Hp)(τ1:DS)(dn rs:List D)(vs:List V):Prop where
 a1:Ext F1 H1 F2 Hm
 a2:Hm acc=none
 a3:Hc=upd Hm acc (.lst vs)
 a4:Reps K F2 dn vs
 a5:RS K H1 F1 F2 τ1 σ1 Hc
 a6:ug τ1
 a7:∀d,set d τ1=set d t0
 a8:wW set ft fe t0 (ds.drop i)=.ok rs
 a9:xs=dn++rs
theorem jD(so:YZ set){Y:Cx}(hK:Y.K=X.K)(σ:St)(H:Hp)(Q:VK)(h:tFr X (xr tn.length idx fi set ft fe) σ H Q):Vy (wE tn.length idx) (tI X fi) (tG Y set) (tTs Y ft) (tE Y fe) σ H Q:=by
 obtain⟨F,τ,R,h⟩:=h
 refine⟨F,τ,R,h.bind.imp fun ds gds J F1 H1 x io=>fun acc hacc=>?_⟩
 cases q:wW set ft fe (wD tn.length idx τ) ds with
 |no=>rw[q] at gds;exact gds.elim
 |ex c=>rw[q] at gds;exact gds.elim
 |ok xs=>
  rw[q] at gds
  obtain⟨hz,k⟩:=yw gds
  have R1:=R.ext x
  have hF1:F1 acc=none:=zP x.fh hacc
  refine⟨fun i m σ1 Hc=>m=ds.length-i∧i≤ds.length∧∃F2 Hm τ1 dn rs vs,CWH X.K set ft fe (wD tn.length idx τ) ds xs F1 H1 acc i σ1 Hc F2 Hm τ1 dn rs vs,⟨ds.length,by simp,zero_le _,F1,H1,_,[],xs,[],Ext.refl x.fh,hacc,rfl,Reps.nil,?_,vn _ _ _,fun _=>rfl,q,rfl⟩,?_⟩
  ·exact(G4 tn.length idx R1).free_upd (vn _ _ _) hacc hF1 (.inl hacc)
  rintro i m σ1 Hc ⟨rfl,hi,F2,Hm,τ1,dn,rs,vs,x2,hm,rfl,r2,R2,n2,so2,cl,ex⟩
  obtain⟨i1,i2⟩:=io i F2 _ x2.ff R2.rv.fh
  by_cases hlt:i<ds.length
  ·have hd:ds.drop i=ds[i]::ds.drop (i+1):=List.drop_eq_getElem_cons hlt
   rw[hd,wW] at cl
   obtain⟨go,yl⟩:=i2 ds[i] (by simp[hlt])
   refine .inr ⟨go,fun y H' yy=>?_⟩
   obtain⟨F3,x3,r3⟩:=yl y H' yy
   refine⟨F3,τ1,ds[i],by rw[hK];exact(R2.ext x3).rv,by rw[hK];exact r3,?_⟩
   rw[so2]
   cases e1:set ds[i] (wD tn.length idx τ) with
   |no=>rw[e1] at cl;cases cl
   |ex c=>rw[e1] at cl;cases cl
   |ok τ2=>
    rw[e1] at cl
    simp only at cl
    intro σ2 _ RR _
    rw[hK] at RR
    have RR:=RR _ _ (R2.ext x3)
    have n3:=so.no _ _ _ e1 (vn _ _ _)
    have so3:∀d,set d τ2=set d (wD tn.length idx τ):=fun d=>so.ov d _ _ _ e1
    cases e2:ft τ2 with
    |no=>rw[e2] at cl;cases cl
    |ex c=>rw[e2] at cl;cases cl
    |ok b=>
     rw[e2] at cl
     refine⟨F3,τ2,by rw[hK];exact RR.rv,?_⟩
     rw[e2]
     intro F4 H4 x4
     have x34:=x3.trans x4
     cases b with
     |false=>
      simp only at cl
      rw[if_neg (by simp)]
      obtain⟨y1,y2⟩:=Z1 x2 hm x34
      have ha:H4 acc=some (.lst vs):=x34.hh acc _ zt
      have eH:H4=upd (wa H4 acc) acc (.lst vs):=by
       rw[Zn];funext b;unfold upd;split
       ·rename_i z;subst z;exact ha
       ·rfl
      refine⟨ds.length-(i+1),by omega,rfl,hlt,F4,wa H4 acc,τ2,dn,rs,vs,y1,vN _ _,eH,r2.mono x34.ff,RR.ext x4,n3,so3,cl,ex⟩
     |true=>
      simp only at cl
      rw[if_pos rfl]
      cases e3:fe τ2 with
      |no=>rw[e3] at cl;cases cl
      |ex c=>rw[e3] at cl;cases cl
      |ok z=>
       rw[e3] at cl
       simp only at cl
       cases e4:wW set ft fe (wD tn.length idx τ) (ds.drop (i+1)) with
       |no=>rw[e4] at cl;cases cl
       |ex c=>rw[e4] at cl;cases cl
       |ok rs'=>
        rw[e4] at cl
        have ers:z::rs'=rs:=by simpa using cl
        refine⟨F4,τ2,by rw[hK];exact(RR.ext x4).rv,?_⟩
        rw[e3]
        intro v F5 H5 x5 r5
        rw[hK] at r5
        have x35:=x34.trans x5
        obtain⟨y1,y2⟩:=Z1 x2 hm x35
        refine⟨vs,x35.hh acc _ zt,?_,ds.length-(i+1),by omega,rfl,hlt,F5,wa H5 acc,τ2,dn++[z],rs',vs++[v],y1,vN _ _,by rw[Zn],(r2.mono x35.ff).append (Reps.cons r5 Reps.nil),?_,n3,so3,e4,?_⟩
        ·have:=congrArg List.length ex
         rw[← ers,length_append,length_cons,r2.length] at this
         omega
        ·exact((RR.ext x4).ext x5).free_upd n3 hacc y2 (.inr ⟨_,x35.hh acc _ zt⟩)
        ·rw[ex,← ers,List.append_assoc];rfl
  ·have e:i=ds.length:=by omega
   subst e
   rw[List.drop_length,wW] at cl
   cases cl
   rw[append_nil] at ex
   subst ex
   exact .inl ⟨i1 (le_refl _),k acc vs F2 Hm (x.trans x2) hm r2⟩
theorem uI(hfr:FreeOk scope X.N fr idx)(σ:St)(i:Nat)(v:V)(h:(wE tn.length idx σ)[i]?=some (some v)):∃(x:Str) (j:Nat),(tn++fr)[i]?=some x∧X.N[j]?=some x∧σ[j]?=some (some v)∧scope.names.lookup x=some .free:=by
 unfold wE at h
 by_cases hi:i<tn.length
 ·rw[getElem?_append_left (by simpa using hi),getElem?_replicate] at h
  simp[hi] at h
 ·rw[getElem?_append_right (by simpa using hi),getElem?_map] at h
  simp only[List.length_replicate] at h
  cases q:idx[i-tn.length]? with
  |none=>rw[q] at h;cases h
  |some j=>
   rw[q] at h
   simp only[Option.map_some,Option.some.injEq] at h
   obtain⟨x,h1,h2,h3⟩:=hfr.get q
   refine⟨x,j,by rw[getElem?_append_right (by omega)];exact h1,h2,?_,h3⟩
   cases z:σ[j]? with
   |none=>rw[z] at h;cases h
   |some o=>rw[z] at h;simp at h;rw[h]
theorem ww(hb:vt X.env.scope scope=true)(hc:X.calm=true)(hfr:FreeOk scope X.N fr idx)(so:YZ set)(hi:PDI X tg iter fi)
  (hg:∀s H C fp,PDG (X.comp scope (tn++fr) s H C fp) tg set) (ht:∀s H C fp,GF (X.comp scope (tn++fr) s H C fp) ifs ft) (he:∀s H C fp,PDE (X.comp scope (tn++fr) s H C fp) elt fe)
  (hs:∀x,foldedSetIterable iter X.env x=pure x:=by intro _;rfl):PDF X (.ListComp elt [⟨tg,iter,ifs,0⟩] scope pos) (xr tn.length idx fi set ft fe):=
 PE.imp (VN (s0:=wE tn.length idx) (g:=tG (X.comp scope (tn++fr) X.s₀ X.H₀ 0 []) set) (ti:=tTs (X.comp scope (tn++fr) X.s₀ X.H₀ 0 []) ft) (te:=tE (X.comp scope (tn++fr) X.s₀ X.H₀ 0 []) fe)
  (xR hb) hc (fun σ _=>by simp[wE,hfr.len]) (uI hfr) hi hg ht he hs) (jD so rfl)
theorem Zy{i:Nat}{y:Str}{py spos:Pos}(hN:X.N.Nodup)(hiN:X.N[i]?=some y)(hy:X.env.scope.names.lookup y=some .local)
  (hsw:swapsWith (.ListComp elt [⟨tg,iter,ifs,0⟩] scope pos) (some (.Name y py)) spos.line X.env=pure true)
  (hb:vt X.env.scope scope=true) (hc:X.calm=true) (hfr:FreeOk scope X.N fr idx) (so:YZ set) (hi:PDI X tg iter fi)
  (hg:∀s H C fp,PDG (X.comp scope (tn++fr) s H C fp) tg set) (ht:∀s H C fp,GF (X.comp scope (tn++fr) s H C fp) ifs ft) (he:∀s H C fp,PDE (X.comp scope (tn++fr) s H C fp) elt fe)
  (hs:∀x,foldedSetIterable iter X.env x=pure x:=by intro _;rfl):PDS X (.Assign [.Name y py] (.ListComp elt [⟨tg,iter,ifs,0⟩] scope pos) spos) (yd i fun τ=>(xr tn.length idx fi set ft fe τ).bind fun ds=>.ok (.lst ds)):=
 PS.imp (VJ (s0:=wE tn.length idx) (g:=tG (X.comp scope (tn++fr) X.s₀ X.H₀ 0 []) set) (ti:=tTs (X.comp scope (tn++fr) X.s₀ X.H₀ 0 []) ft) (te:=tE (X.comp scope (tn++fr) X.s₀ X.H₀ 0 []) fe) hN hiN hy hsw
  (xR hb) hc (fun σ _=>by simp[wE,hfr.len]) (uI hfr) hi hg ht he hs) fun E σ H ⟨B,Z,F,τ,R,h⟩=>by
  refine jD (X:=X) (tn:=tn) (idx:=idx) (fi:=fi) (ft:=ft) (fe:=fe) so (Y:=X.comp scope (tn++fr) X.s₀ X.H₀ 0 []) rfl σ H (fun x H1=>u6 i x σ H1 E.nx) ⟨F,τ,R.rv,?_⟩
  have h':=h.of.bind
  refine h'.imp fun ds g p vs F1 H1 x hp r=>?_
  have x2:=x.trans (Ext.new (o:=.lst vs) x.fh hp)
  refine g _ _ _ x2.ff ((R.ext x2).set ?_)
  simp only[Rep]
  exact⟨p,vs,rfl,zt,r.mono (yi (zP x.fh hp))⟩
theorem UQ{i:Nat}{y:Str}{py spos:Pos}(hN:X.N.Nodup)(hiN:X.N[i]?=some y)(hy:X.env.scope.names.lookup y=some .local)
  (hsw:swapsWith (.ListComp elt [⟨tg,iter,ifs,0⟩] scope pos) (some (.Name y py)) spos.line X.env=pure true)
  (hb:vt X.env.scope scope=true) (hc:X.calm=true) (hfr:FreeOk scope X.N fr idx) (so:YZ set) (hi:PDI X tg iter fi)
  (hg:∀s H C fp,PDG (X.comp scope (tn++fr) s H C fp) tg set) (ht:∀s H C fp,GF (X.comp scope (tn++fr) s H C fp) ifs ft) (he:∀s H C fp,PDE (X.comp scope (tn++fr) s H C fp) elt fe)
  (hs:∀x,foldedSetIterable iter X.env x=pure x:=by intro _;rfl):PDS X (.Assign [.Name y py] (.ListComp elt [⟨tg,iter,ifs,0⟩] scope pos) spos) (vA i (xr tn.length idx fi set ft fe)):=
 PS.imp (VJ (s0:=wE tn.length idx) (g:=tG (X.comp scope (tn++fr) X.s₀ X.H₀ 0 []) set) (ti:=tTs (X.comp scope (tn++fr) X.s₀ X.H₀ 0 []) ft) (te:=tE (X.comp scope (tn++fr) X.s₀ X.H₀ 0 []) fe) hN hiN hy hsw
  (xR hb) hc (fun σ _=>by simp[wE,hfr.len]) (uI hfr) hi hg ht he hs) fun E σ H ⟨B,Z,F,τ,R,h⟩=>by
  refine jD (X:=X) (tn:=tn) (idx:=idx) (fi:=fi) (ft:=ft) (fe:=fe) so (Y:=X.comp scope (tn++fr) X.s₀ X.H₀ 0 []) rfl σ H (fun x H1=>u6 i x σ H1 E.nx) ⟨F,τ,R.rv,?_⟩
  exact h.of.imp fun ds g p vs F1 H1 x hp r=>g _ F1 _ x.ff ((R.ext x).setO hp r)
end
section
variable{prog:Program}{w:World}{A:Around}{E:Value→Shared→Prop}{s:Shared}{z TI TO i1 i2:Addr}{n1 n2:Nat}{P1 P2:Nat→Value→Prop}{st1 st2:Nat→Heap→Prop}{rd1 rd2:Heap→Prop}
end
def yc(c:Nat):D:=.str ⟨#[c]⟩
def Zs(x:Str):List D:=x.cps.toList.map yc
def Its(x:Str):It:=⟨fun i _=>i<x.cps.size,fun i H y H'=>H'=H∧∃c,x.cps[i]?=some c∧y=.str ⟨#[c]⟩,fun i _=>x.cps.size≤i⟩
theorem JB{P:Program}{w:World}{K:PySem.W.Frag}{tg:Expr}{it:Addr}{x:Str}{t:Tok}{ty:String}(hty:ty = "str_ascii_iterator" ∨ ty = "str_iterator"):WI P w K tg (Its x) [it] it (fun k h=>h.IsStrIter it ty x t k) where
 mem:=by simp
 obj:=fun i h ⟨o,e,c,d⟩ b hb=>by
  have z:b=it:=by simpa using hb
  subst z
  exact⟨o,e,fun v z=>by rw[d] at z;cases z⟩
 keep:=fun i h h' ⟨o,e,r⟩ k=>⟨o,k it (by simp) o e,r⟩
 item:=by
  intro X hP hw hK hc i pins s σ H E I hf st hg
  subst hP hw hK
  obtain⟨f0,f1,f2,f3,f4,f5⟩:=hf it (by simp)
  have hh:X.A.handled=none:=I.ok.hd hc
  have W:Walks X.prog X.w X.A it [it] [it] x.cps.size (SignAt x) (fun i h=>h.IsStrIter it ty x t i):=by
   rcases hty with rfl|rfl
   ·exact Walks.strAscii hh it x t
   ·exact Walks.strWide hh it x t
  refine W.item i s _ _ hg st fun v h' tk hv st' kk=>?_
  obtain⟨c,u,ec,rfl⟩:=hv
  have I1:Inv X pins σ H { s with heap:=h',toks:=tk }:=I.turned (fun b o hb e=>kk b o (by simpa using hb) e) f0 f1 f3 f4 f5
  obtain⟨o,e,cc,d⟩:=id st'
  exact⟨_,rfl,Wo (s:={ s with heap:=h',toks:=tk }) e cc d (by rcases hty with rfl|rfl <;> decide) ⟨.str ⟨#[c]⟩,H,I1,⟨u,rfl⟩,⟨rfl,c,ec,rfl⟩,st',fun b hb=>(hf b hb).1⟩⟩
 done:=by
  intro X hP hw hK hc i pins s σ H E I hf st hg
  subst hP hw hK
  obtain⟨f0,f1,f2,f3,f4,f5⟩:=hf it (by simp)
  have hh:X.A.handled=none:=I.ok.hd hc
  have hx:x.cps[i]?=none:=by have:x.cps.size≤i:=hg;simp;omega
  rcases hty with rfl|rfl
  ·exact wpAny_pyNext_ascii_end hh st hx fun h' eb=>⟨rfl,I.turned (t':=s.toks) (fun b o hb e=>eb b o hb e) f0 f1 f3 f4 f5⟩
  ·exact wpAny_pyNext_wide_end hh st hx fun h' eb=>⟨rfl,I.turned (t':=s.toks) (fun b o hb e=>eb b o hb e) f0 f1 f3 f4 f5⟩
 self:=fun _ _ _ _ _ st h=>by
  rcases hty with rfl|rfl
  ·exact wpAny_pyIter_striter_ascii st h
  ·exact wpAny_pyIter_striter_wide st h
section
variable{X:Cx}{pos:Pos}{e tg:Expr}{es:List Expr}{fe:FE}{fs:FA}
theorem L1{K:PySem.W.Frag}{F1:Hp}{x:Str}:Jv K (Its x) F1 (Zs x):=fun i F H f1 f2=>by
 have hl:(Zs x).length=x.cps.size:=by simp[Zs]
 refine⟨fun h=>by rw[hl] at h;exact h,fun d hd=>?_⟩
 have hi:i<x.cps.size:=by have:=(List.getElem?_eq_some_iff.mp hd).1;rw[hl] at this;exact this
 refine⟨hi,fun y H' yy=>?_⟩
 obtain⟨e1,c,ec,rfl⟩:=yy
 subst e1
 refine⟨F,Ext.refl f2,?_⟩
 have:d=yc c:=by
  simp only[Zs,getElem?_map] at hd
  have e2:x.cps.toList[i]?=some c:=by simpa using ec
  rw[e2] at hd
  exact(Option.some.inj hd).symm
 subst this
 simp only[yc,Rep]
def Itd(hi:Int)(n:Nat):It:=⟨fun i _=>i<n,fun i H x H'=>H'=H∧x=.int (hi-i),fun i _=>n≤i⟩
theorem Xy{P:Program}{w:World}{K:PySem.W.Frag}{tg:Expr}(it:Addr)(hi:Int)(n:Nat):WI P w K tg (Itd hi n) [it] it (fun i h=>IsRangeIter h it (hi+(i:Nat)*(-1)) ((n:Int)-(i:Nat)) (-1)) where
 mem:=by simp
 obj:=fun i h st b hb=>by
  have e:b=it:=by simpa using hb
  subst e
  exact⟨_,st,fun v z=>by
   have z':Data.fields _=Data.cell v:=z
   cases z'⟩
 keep:=fun i h h' st k=>k it (by simp) _ st
 item:=by
  intro X hP hw hK hc i pins s σ H E I hf st hg
  subst hP hw hK
  obtain⟨f0,f1,f2,f3,f4,f5⟩:=hf it (by simp)
  have W:=Walks.range (prog:=X.prog) (w:=X.w) (I.ok.hd hc) it hi (-1) n
  refine W.item i s _ _ hg st fun v h' tk hv st' kk=>?_
  obtain⟨t,rfl⟩:=hv
  have I1:Inv X pins σ H { s with heap:=h',toks:=tk }:=I.turned (fun b o hb e=>kk b o (by simpa using hb) e) f0 f1 f3 f4 f5
  refine⟨_,rfl,Wo (s:={ s with heap:=h',toks:=tk }) (n := "range_iterator") st' rfl rfl (by decide) ⟨.int (hi-i),H,I1,⟨t,?_⟩,⟨rfl,rfl⟩,st',fun b hb=>(hf b hb).1⟩⟩
  congr 1
  omega
 done:=by
  intro X hP hw hK hc i pins s σ H E I hf st hg
  subst hP hw hK
  obtain⟨f0,f1,f2,f3,f4,f5⟩:=hf it (by simp)
  exact wpAny_pyNext_range_end (I.ok.hd hc) st (by have:n≤i:=hg;omega) fun h' eb=>⟨rfl,I.turned (t':=s.toks) (fun b o hb e=>eb b o hb e) f0 f1 f3 f4 f5⟩
 self:=fun _ _ _ _ _ st h=>wpAny_pyIter_rangeiter st h
end
section
variable{X:Cx}{pos:Pos}{e tg:Expr}{es:List Expr}{fe:FE}{fs:FA}
def len1:D→Rs D
 |.lst ds=>.ok (.int ds.length)
 |.tup ds=>.ok (.int ds.length)
 |.scr ns=>.ok (.int ns.length)
 |.str x=>if x.length≤sizeLine then .ok (.int x.length) else .no
 |_=>.no
def yR:List D→Rs D
 |[d]=>len1 d
 |_=>.no
theorem xz:jU X (.builtin "len") yR:=⟨_,call_len_seq.or Xr,fun F H vs ds Q fh r h=>by
 match ds,r,h with
 |[d],r,h=>
  obtain⟨v,rfl,q⟩:=r.one
  cases d with
  |lst ds=>
   simp only[Rep] at q;obtain⟨a,ws,rfl,e1,t⟩:=q
   refine .inl ⟨a,ws,rfl,.inl (SqL.of (fh _ _ e1)),?_⟩
   rw[← t.length];exact h _ F H (Ext.refl fh) (by simp only[Rep])
  |tup ds=>
   simp only[Rep] at q;obtain⟨a,ws,rfl,e1,t⟩:=q
   refine .inl ⟨a,ws,rfl,.inr (Same.seqT fh e1),?_⟩
   rw[← t.length];exact h _ F H (Ext.refl fh) (by simp only[Rep])
  |scr ns=>
   simp only[Rep] at q;obtain⟨a,rfl,e1⟩:=q
   refine .inl ⟨a,_,rfl,.inl (fh.seq e1),?_⟩
   rw[length_map];exact h _ F H (Ext.refl fh) (by simp only[Rep])
  |str x=>
   simp only[Rep] at q;subst q
   obtain⟨z,h⟩:=yw h
   exact .inr ⟨x,rfl,z,h _ F H (Ext.refl fh) (by simp only[Rep])⟩
  |_=>exact h.elim
 |[],_,h=>exact h.elim
 |_::_::_,_,h=>exact(show False from h).elim⟩
def uU(ds:List D):Rs D:=match Vd ds with
 | some (i,j)=>.ok (.int (if j<i then j else i))
 |none=>.no
def ZG(ds:List D):Rs D:=match Vd ds with
 | some (i,j)=>.ok (.int (if j > i then j else i))
 |none=>.no
theorem Xq(hc:X.calm=true):jU X (.builtin "min") uU:=⟨_,Js hc,fun F H vs ds Q fh r h=>by
 unfold uU at h
 cases q:Vd ds with
 |none=>rw[q] at h;exact h.elim
 |some ij=>
  obtain⟨i,j⟩:=ij
  rw[q] at h
  have e:=Ua q
  subst e
  obtain⟨v,w,rfl,r1,r2⟩:=r.two
  simp only[Rep] at r1 r2;subst r1;subst r2
  exact⟨i,j,rfl,h _ F H (Ext.refl fh) (by simp only[Rep])⟩⟩
theorem Tg(hc:X.calm=true):jU X (.builtin "max") ZG:=⟨_,Jt hc,fun F H vs ds Q fh r h=>by
 unfold ZG at h
 cases q:Vd ds with
 |none=>rw[q] at h;exact h.elim
 |some ij=>
  obtain⟨i,j⟩:=ij
  rw[q] at h
  have e:=Ua q
  subst e
  obtain⟨v,w,rfl,r1,r2⟩:=r.two
  simp only[Rep] at r1 r2;subst r1;subst r2
  exact⟨i,j,rfl,h _ F H (Ext.refl fh) (by simp only[Rep])⟩⟩
theorem rangeSize_down(a b:Int):Builtin.Range.rangeSize a b (-1)=((a-b).toNat:Int):=by
 unfold Builtin.Range.rangeSize
 rw[if_neg (by decide)]
 by_cases h:a > b
 ·rw[if_pos h,show(- -1:Int)=1 from rfl,Int.ediv_one];omega
 ·rw[if_neg h];omega
theorem small_down{a b:Int}(ha : -(2 ^ 62)≤a)(ha':a<2 ^ 62)(hb : -(2 ^ 62)≤b)(hb':b<2 ^ 62):Builtin.Range.small a b (-1)=true:=by
 unfold Builtin.Range.small
 rw[rangeSize_down]
 simp only[Builtin.Range.rangeFitsLong,Bool.and_eq_true,Bool.or_eq_true,decide_eq_true_eq,beq_iff_eq,show ¬ (-1:Int) > 0 by decide,if_false]
 omega
def iRngD(ta:TA):TI:=fun σ H R=>ta σ H fun vs H1=>∃i j:Int,vs=[.int i,.int j,.int (-1)]∧(-(2 ^ 62)≤i∧i<2 ^ 62∧-(2 ^ 62)≤j∧j<2 ^ 62)∧R (Itd i (i-j).toNat) H1
theorem UN{a b c:Expr}{ta:TA}{p pos:Pos}(hg:Gl X "range")(hm:X.mg "range" = none)(ha:PA X [a,b,c] ta)(hs:starEach [a,b,c] X.env=[(false,eval a X.env),(false,eval b X.env),(false,eval c X.env)]:=by rfl)(hs2:starEach [b,c] X.env=[(false,eval b X.env),(false,eval c X.env)]:=by rfl) :
  PI X tg (.Call (.Name "range" p) [a,b,c] [] pos) (iRngD ta):=by
 intro pins s σ H R I h
 refine Call_ (x9 I hg hm boot_range (PyProof.Rows.callWith_type1 (thn (ha pos pins s σ H _ I h) fun us s1 ⟨vs,H1,I1,r1,q1⟩=>?_) (by rw[hs,hs2]) (by rw[hs2];rfl)))
 obtain⟨i,j,e,⟨q1,q2,q3,q4⟩,q⟩:=q1
 subst e
 cases r1 with
 |cons r rr=>
  cases rr with
  |cons r' rr=>
   cases rr with
   |cons r'' rr=>
    cases rr
    obtain⟨t,rfl⟩:=r
    obtain⟨t',rfl⟩:=r'
    obtain⟨t'',rfl⟩:=r''
    refine call_range_3 (by decide) ?_ (.inl (PyProof.noPylong_small (by decide)))
    have I2:Inv X pins σ H1 { s1 with heap:=s1.heap.push { cls:=.type "range", data:=.fields #[.int i t,.int j t',.int (-1) t''] },toks:=s1.toks }:=I1.kept fun b o e=>Heap.get?_push_of_some _ e
    refine wpAny_pyIter_range (IsRange.new ..) (small_down q1 q2 q3 q4) ?_
    refine⟨(s1.heap.push { cls:=.type "range", data:=.fields #[.int i t,.int j t',.int (-1) t''] }).objs.size,[(s1.heap.push { cls:=.type "range", data:=.fields #[.int i t,.int j t',.int (-1) t''] }).objs.size],_,_,H1,rfl,
     I2.kept (t':=s1.toks) fun b o e=>Heap.get?_push_of_some _ e,Xy _ i (i-j).toNat,?_,fun b hb=>?_,q⟩
    ·have e1:i+((0:Nat):Int)*(-1)=i:=by simp
     have e2:(((i-j).toNat:Nat):Int)-((0:Nat):Int)=Builtin.Range.rangeSize i j (-1):=by rw[rangeSize_down];omega
     show IsRangeIter _ _ (i+((0:Nat):Int)*(-1)) ((((i-j).toNat:Nat):Int)-((0:Nat):Int)) (-1)
     rw[e1,e2]
     exact Heap.get?_push_size _ rfl
    ·have e:b=(s1.heap.push { cls:=.type "range", data:=.fields #[.int i t,.int j t',.int (-1) t''] }).objs.size:=by simpa using hb
     subst e
     exact I2.fpOk (le_refl _) (I2.hok.fresh (le_refl _))
def jI(hi:Int)(n:Nat):List D:=(List.range n).map fun (k:Nat)=>D.int (hi-k)
theorem MX{K:PySem.W.Frag}{F1:Hp}{lo:Int}{n:Nat}:Jv K (Itd lo n) F1 (jI lo n):=fun i F H f1 f2=>by
 have hl:(jI lo n).length=n:=by simp[jI]
 refine⟨fun h=>by rw[hl] at h;exact h,fun d hd=>?_⟩
 have hi:i<n:=by have:=(List.getElem?_eq_some_iff.mp hd).1;rw[hl] at this;exact this
 refine⟨hi,fun x H' y=>?_⟩
 obtain⟨e1,y⟩:=y
 subst e1
 refine⟨F,Ext.refl f2,?_⟩
 simp[jI,hi] at hd
 subst hd
 simp only[Rep];exact y
def Wi:List D→Option (Int×Int)
 | [.int i,.int j,.int (-1)]=>some (i,j)
 |_=>none
theorem QX{ds:List D}{i j:Int}(h:Wi ds=some (i,j)):ds=[.int i,.int j,.int (-1)]:=by
 unfold Wi at h;split at h <;> cases h;rfl
def Jc(fs:FA):FA:=fun τ=>(fs τ).bind fun ds=>match Wi ds with
 | some (i,j)=>if (-(2 ^ 62)≤i∧i<2 ^ 62)∧-(2 ^ 62)≤j∧j<2 ^ 62 then .ok (jI i (i-j).toNat) else .no
 |none=>.no
theorem W4{a b c:Expr}{p:Pos}(hg:Gl X "range")(hm:X.mg "range" = none)(ha:PDA X [a,b,c] fs)(hs:starEach [a,b,c] X.env=[(false,eval a X.env),(false,eval b X.env),(false,eval c X.env)]:=by rfl)(hs2:starEach [b,c] X.env=[(false,eval b X.env),(false,eval c X.env)]:=by rfl) :
  PDI X tg (.Call (.Name "range" p) [a,b,c] [] pos) (Jc fs):=
 PI.imp (UN hg hm ha hs hs2) fun σ H R ⟨F,τ,Rv,h⟩=>tAs.of Rv h.bind fun ds vs F1 H1 g x R1 r=>by
  cases q1:Wi ds with
  |none=>rw[q1] at g;exact g.elim
  |some ij=>
   obtain⟨i,j⟩:=ij
   rw[q1] at g
   have e:=QX q1
   subst e
   simp only[Reps] at r
   obtain⟨v,r1,e1,q,w,r2,e2,q',u,r3,e3,q'',e4⟩:=r
   simp only[Rep] at q q' q'';subst q q' q'' e4 e3 e2 e1
   obtain⟨z,g⟩:=yw g
   exact⟨i,j,rfl,⟨z.1.1,z.1.2,z.2.1,z.2.2⟩,g _ F1 H1 x MX⟩
def MtD(X:Cx)(id:String)(g:D→List D→Rs D):Prop:=∃r,MtR X id r∧∀F H v vs d ds Q,Same F H→Rep X.K F d v→Reps X.K F ds vs→Ok X (g d ds) (Ev X.K F H Q)→r v vs H Q
def Yk(T:String):D→Bool
 |.str _=>T = "str"
 |.int _=>T = "int"
 |.lst _=>T = "list"
 |.scr _=>T = "list"
 |_=>false
def Vk(T:String)(g:D→List D→Rs D)(fo:FE):FE:=fun τ=>(fo τ).bind fun d=>if Yk T d=true then g d [] else .no
theorem T0{F H:Hp}{d:D}{v:V}{T:String}(fh:Same F H)(r:Rep X.K F d v)(h:Yk T d=true):tyV X.K T v H:=by
 cases d with
 |str x=>simp only[Rep] at r;subst r;show T = "str"; simpa[Yk] using h
 |int x=>simp only[Rep] at r;subst r;show T = "int"; simpa[Yk] using h
 |lst ds=>simp only[Rep] at r;obtain⟨a,vs,rfl,e,t⟩:=r;exact .inl ⟨by simpa[Yk] using h,vs,SqL.of (fh _ _ e)⟩
 |scr ds=>simp only[Rep] at r;obtain⟨a,rfl,e⟩:=r;exact .inl ⟨by simpa[Yk] using h,_,fh.seq e⟩
 |_=>simp[Yk] at h
theorem ok_if{X:Cx}{α:Type}{c:Prop}[Decidable c]{r:Rs α}{P:α→Prop}(h:Ok X (if c then r else .no) P):c∧Ok X r P:=by
 by_cases z:c
 ·rw[if_pos z] at h;exact⟨z,h⟩
 ·rw[if_neg z] at h;exact h.elim
theorem VS{T id:String}{name:Str}{o:Expr}{apos cpos:Pos}{fo:FE}{g:D→List D→Rs D}(pa:PlainAttrs T)(slot:Slot T name id)(hty:typeOf (.builtin id)=pure (.type "method_descriptor"))(hm:MtD X id g)(ho:PDE X o fo)
  (hbase:attributeBase o name X.env (eval o X.env)=eval o X.env:=by rfl) (hline:(apos.endLine==cpos.line)=true:=by rfl):PDE X (.Call (.Attribute o name apos) [] [] cpos) (Vk T g fo):=by
 obtain⟨r,h1,h2⟩:=hm
 exact PE.imp (Lr pa slot hty h1 ho hbase hline) fun σ H Q ⟨Fz,τ,R,h⟩=>tE.of R h.bind fun d v F1 H1 q x R1 rr=>by
  obtain⟨z,q⟩:=ok_if q
  exact⟨T0 R1.fh rr z,h2 F1 H1 v [] d [] Q R1.fh rr Reps.nil (q.imp fun d e=>e.ext x)⟩
def upD:D→List D→Rs D
 |.str x,[]=>if x.length≤5000000 then .ok (.str (Txt.upper x)) else .no
 |_,_=>.no
def loD:D→List D→Rs D
 |.str x,[]=>if x.length≤5000000 then .ok (.str (Txt.lower x)) else .no
 |_,_=>.no
theorem mt_up:MtR X "str.upper" (fun v vs H Q=>∃x,v=.str x∧vs=[]∧x.length≤5000000∧Q (.str (Txt.upper x)) H):=by
 intro pins s σ H v vs u us Q I r rs h
 obtain⟨x,rfl,rfl,hx,q⟩:=h
 obtain⟨t,rfl⟩:=r
 cases rs
 exact SC.upper (fit_upper (by omega)) ⟨.str (Txt.upper x),H,I.tok _,⟨_,rfl⟩,q⟩
theorem mt_lo:MtR X "str.lower" (fun v vs H Q=>∃x,v=.str x∧vs=[]∧x.length≤5000000∧Q (.str (Txt.lower x)) H):=by
 intro pins s σ H v vs u us Q I r rs h
 obtain⟨x,rfl,rfl,hx,q⟩:=h
 obtain⟨t,rfl⟩:=r
 cases rs
 exact SC.lower (fit_lower (by omega)) ⟨.str (Txt.lower x),H,I.tok _,⟨_,rfl⟩,q⟩
theorem md_up:MtD X "str.upper" upD:=⟨_,mt_up,fun F H v vs d ds Q fh r rs h=>by
 cases d with
 |str x=>
  cases ds with
  |nil=>
   simp only[Rep] at r;subst r
   simp only[Reps] at rs;subst rs
   obtain⟨z,h⟩:=yw h
   exact⟨x,rfl,rfl,z,h _ F H (Ext.refl fh) (by simp only[Rep])⟩
  |cons a b=>exact h.elim
 |_=>cases ds <;> exact h.elim⟩
theorem md_lo:MtD X "str.lower" loD:=⟨_,mt_lo,fun F H v vs d ds Q fh r rs h=>by
 cases d with
 |str x=>
  cases ds with
  |nil=>
   simp only[Rep] at r;subst r
   simp only[Reps] at rs;subst rs
   obtain⟨z,h⟩:=yw h
   exact⟨x,rfl,rfl,z,h _ F H (Ext.refl fh) (by simp only[Rep])⟩
  |cons a b=>exact h.elim
 |_=>cases ds <;> exact h.elim⟩
theorem UR{o:Expr}{apos cpos:Pos}{fo:FE}(ho:PDE X o fo)(hbase:attributeBase o "upper" X.env (eval o X.env)=eval o X.env:=by rfl)(hline:(apos.endLine==cpos.line)=true:=by rfl):PDE X (.Call (.Attribute o "upper" apos) [] [] cpos) (Vk "str" upD fo):=
 VS F.plainAttrs_str F.slot_str_upper F.type_str_upper md_up ho hbase hline
theorem UT{o:Expr}{apos cpos:Pos}{fo:FE}(ho:PDE X o fo)(hbase:attributeBase o "lower" X.env (eval o X.env)=eval o X.env:=by rfl)(hline:(apos.endLine==cpos.line)=true:=by rfl):PDE X (.Call (.Attribute o "lower" apos) [] [] cpos) (Vk "str" loD fo):=
 VS F.plainAttrs_str F.slot_str_lower F.type_str_lower md_lo ho hbase hline
def wZ:List D→Option (List Str)
 |[]=>some []
 |.str x::r=>(wZ r).map (x :: ·)
 |_=>none
theorem Ys{K:PySem.W.Frag}{F:Hp}:∀{ds:List D} {ys:List Str} {vs:List V} {us:List Value},wZ ds=some ys→Reps K F ds vs→Vals vs us→StrsAre us ys
 |[],ys,vs,us,h,r,rv=>by
  simp only[Reps] at r;subst r;cases rv;cases h;exact .nil
 |.str x::ds,ys,vs,us,h,r,rv=>by
  simp only[Reps,Rep] at r
  obtain⟨v,r',rfl,rfl,t⟩:=r
  simp only[wZ] at h
  cases q:wZ ds with
  |none=>rw[q] at h;cases h
  |some zs=>
   rw[q] at h;cases h
   cases rv with
   |cons r1 r2=>
    obtain⟨tk,rfl⟩:=r1
    exact .cons x tk (Ys q t r2)
 |.non::_,_,_,_,h,_,_=>by cases h
 |.bl _::_,_,_,_,h,_,_=>by cases h
 |.int _::_,_,_,_,h,_,_=>by cases h
 |.lst _::_,_,_,_,h,_,_=>by cases h
 |.tup _::_,_,_,_,h,_,_=>by cases h
 |.scr _::_,_,_,_,h,_,_=>by cases h
 |.raw _::_,_,_,_,h,_,_=>by cases h
 |.exc _::_,_,_,_,h,_,_=>by cases h
 |.dct _ _::_,_,_,_,h,_,_=>by cases h
end
section
variable{X:Cx}{pos:Pos}{e tg:Expr}{es:List Expr}{fe:FE}{fs:FA}
end
section
variable{X:Cx}{pos:Pos}{e tg:Expr}{es:List Expr}{fe:FE}{fs:FA}
def rSlS:V→Option Int→Option Int→Hp→VK→Prop:=fun x lo hi H Q=>∃z,x=.str z∧z.length≤sizeLine∧Q (.str (Txt.slice z lo hi)) H
theorem sl_str:SlR X rSlS:=by
 intro pins s σ H x v vl vu lo hi sl Q I rx hs pl pu h
 obtain⟨z,rfl,hz,q⟩:=h
 obtain⟨t,rfl⟩:=rx
 refine⟨"str", _,F.slot_str_getitem.lookup,typeIs_str _ _ _,?_⟩
 obtain⟨o,e,c,d⟩:=hs
 have fin:∀t' k,EP X pins σ Q (.str (Txt.slice z lo hi) t') { s with toks:=k }:=fun t' k=>⟨.str _,H,I.tok _,⟨_,rfl⟩,q⟩
 have hl:=le_trans (Txt.slice_le z lo hi) hz
 cases pl with
 |none=>
  cases pu with
  |none=>exact wpAny_getItem_str_slice (l:=none) (u:=none) (st:=none) ⟨o,e,c,d⟩ rfl (post_val_or_str ⟨hl,fin⟩)
  |int j uj=>exact wpAny_getItem_str_slice (l:=none) (u:=some (j,uj)) (st:=none) ⟨o,e,c,d⟩ rfl (post_val_or_str ⟨hl,fin⟩)
 |int i ui=>
  cases pu with
  |none=>exact wpAny_getItem_str_slice (l:=some (i,ui)) (u:=none) (st:=none) ⟨o,e,c,d⟩ rfl (post_val_or_str ⟨hl,fin⟩)
  |int j uj=>exact wpAny_getItem_str_slice (l:=some (i,ui)) (u:=some (j,uj)) (st:=none) ⟨o,e,c,d⟩ rfl (post_val_or_str ⟨hl,fin⟩)
def cutD(xs:List D)(lo hi:Option Int):List D:=(xs.drop (HT.sIx xs.length 0 lo)).take (HT.sIx xs.length xs.length hi-HT.sIx xs.length 0 lo)
def slD(d:D)(lo hi:Option Int):Rs D:=match d with
 |.str x=>if x.length≤sizeLine then .ok (.str (Txt.slice x lo hi)) else .no
 |.lst ds=>.ok (.lst (cutD ds lo hi))
 |_=>.no
abbrev FO:=DS→Rs (Option Int)
def VW:FO:=fun _=>.ok none
def uf(fe:FE):FO:=fun τ=>(fe τ).bind fun d=>match d with
 |.int i=>.ok (some i)
 |_=>.no
def tOs(X:Cx)(f:FO):TO:=fun σ H Q=>∃F τ,RV X.K F τ σ H∧Ok X (f τ) fun o=>∀F' H',Ext F H F' H'→Q o H'
def PDO(X:Cx)(e:Option Expr)(f:FO):Prop:=PO X e (tOs X f)
theorem PO.imp{e:Option Expr}{t t':TO}(h:PO X e t)(f:∀σ H Q,t' σ H Q→t σ H Q):PO X e t':=fun pins s σ H Q I q=>h pins s σ H Q I (f _ _ _ q)
theorem Qa:PDO X none VW:=PO.imp Mj fun σ H Q ⟨F,τ,R,h⟩=>h F H (Ext.refl R.fh)
theorem Zz(h:PDE X e fe):PDO X (some e) (uf fe):=PO.imp (Mi h) fun σ H Q ⟨F,τ,R,h⟩=>tE.of R h.bind fun d v F1 H1 g x R1 r=>by
 cases d with
 |int i=>simp only[Rep] at r;exact⟨i,r,g F1 H1 x⟩
 |_=>exact g.elim
def eSl(fe:FE)(fl fh:FO):FE:=fun τ=>(fe τ).bind fun d=>(fl τ).bind fun l=>(fh τ).bind fun u=>slD d l u
theorem Qb{lo hi:Option Expr}{fl fh:FO}{p2:Pos}(he:PDE X e fe)(hl:PDO X lo fl)(hu:PDO X hi fh):PDE X (.Subscript e (.Slice lo hi none p2) pos) (eSl fe fl fh):=
 PE.imp (J6 (sl_str.or G2) he hl hu) fun σ H Q ⟨F,τ,R,h⟩=>tE.of R h.bind fun d v F1 H1 g x R1 r=>by
  refine⟨F1,τ,R1,g.bind.imp fun l gl F2 H2 x2=>⟨F2,τ,R1.ext x2,gl.bind.imp fun u gu F3 H3 x3=>?_⟩⟩
  have f3:=x3.fh
  have x13:=x.trans (x2.trans x3)
  cases d with
  |str z=>
   simp only[Rep] at r
   obtain⟨zz,gu⟩:=yw gu
   exact .inl ⟨z,r,zz,gu _ F3 H3 x13 (by simp only[Rep])⟩
  |lst ds=>
   simp only[Rep] at r;obtain⟨a,vs,rfl,e1,t⟩:=r
   have gu:Ev X.K F H Q (.lst (cutD ds l u)):=gu
   refine .inr ⟨a,vs,rfl,SqL.of (f3 _ _ (x3.ff _ _ (x2.ff _ _ e1))),fun p hp=>gu _ _ _ (x13.trans (Ext.new f3 hp)) ?_⟩
   simp only[Rep]
   refine⟨p,_,rfl,zt,?_⟩
   have t3:Reps X.K F3 (cutD ds l u) (Jo vs l u):=by
    unfold cutD Jo
    rw[← t.length]
    exact((t.mono (x2.ff.trans x3.ff)).drop _).take _
   exact t3.mono (yi (zP f3 hp))
  |_=>exact gu.elim
theorem Qe{x:Str}{v:V}{u:Value}{d:D}(hg:Gl X x)(hm:X.mg x=some u)(r:RelV v u)(rd:∀F,Rep X.K F d v)(hd:(x==("__debug__" : Str))=false:=by decide):PDE X (.Name x pos) (eC d):=XX (Mm hg hm r hd) rd
theorem uP{x:Str}{y:Str}{t:Tok}(hg:Gl X x)(hm:X.mg x=some (.str y t))(hd:(x==("__debug__" : Str))=false:=by decide):PDE X (.Name x pos) (eC (.str y)):=Qe (v:=.str y) hg hm ⟨t,rfl⟩ (fun _=>by simp only[Rep]) hd
theorem wG{x:Str}{y:Int}{t:Tok}(hg:Gl X x)(hm:X.mg x=some (.int y t))(hd:(x==("__debug__" : Str))=false:=by decide):PDE X (.Name x pos) (eC (.int y)):=Qe (v:=.int y) hg hm ⟨t,rfl⟩ (fun _=>by simp only[Rep]) hd
end
section
variable{X:Cx}{pos:Pos}{e tg:Expr}{es:List Expr}{fe:FE}{fs:FA}
def iAnyT(K:PySem.W.Frag)(tl:TE):TI:=fun σ H R=>tl σ H fun x H1=>(∃a,x=.ref a∧(∃xs,SqL K H1 a xs)∧R (Itl K a) H1)∨(∃a,x=.ref a∧(∃xs,SqT K H1 a xs)∧R (Itt K a) H1)∨∃z,x=.str z∧R (Its z) H1
theorem Lj{l:Expr}{tl:TE}(hl:PE X l tl):PI X tg l (iAnyT X.K tl):=by
 intro pins s σ H R I h
 refine thn (hl pins s σ H _ I h) fun v s1 ⟨x,H1,I1,r1,q1⟩=>?_
 rcases q1 with ⟨a,e,⟨xs,hq⟩,q⟩|⟨a,e,⟨xs,hq⟩,q⟩|⟨z,e,q⟩
 ·subst e
  cases r1
  obtain⟨its,rv,p,hz⟩:=I1.list hq
  refine wpAny_pyIter_list p.isList ?_
  refine⟨s1.heap.objs.size,[s1.heap.objs.size],_,_,H1,rfl,I1.kept (t':=s1.toks) fun b o e=>Heap.get?_push_of_some _ e,Yp a _,⟨_,Heap.get?_push_size _ rfl,rfl,rfl⟩,fun b hb=>?_,q⟩
  have e:b=s1.heap.objs.size:=by simpa using hb
  subst e
  exact I1.fpOk (le_refl _) (I1.hok.fresh (le_refl _))
 ·subst e
  cases r1
  obtain⟨its,rv,p,hz⟩:=I1.tuple hq
  refine wpAny_pyIter_tuple (show s1.heap.IsTuple a its.toArray from p) ?_
  refine⟨s1.heap.objs.size,[s1.heap.objs.size],_,_,H1,rfl,I1.kept (t':=s1.toks) fun b o e=>Heap.get?_push_of_some _ e,WK a _,⟨_,Heap.get?_push_size _ rfl,rfl,rfl⟩,fun b hb=>?_,q⟩
  have e:b=s1.heap.objs.size:=by simpa using hb
  subst e
  exact I1.fpOk (le_refl _) (I1.hok.fresh (le_refl _))
 ·subst e
  obtain⟨t,rfl⟩:=r1
  have fin:∀(ty:String),(ty = "str_ascii_iterator" ∨ ty = "str_iterator")→PIE X pins σ tg R (.ref s1.heap.objs.size) { s1 with heap:=s1.heap.push { cls:=.type ty,data:=.fields #[.str z t,.int 0 0] } }:=fun ty hty=>by
   refine⟨s1.heap.objs.size,[s1.heap.objs.size],_,_,H1,rfl,I1.kept (t':=s1.toks) fun b o e=>Heap.get?_push_of_some _ e,JB hty,⟨_,Heap.get?_push_size _ rfl,rfl,rfl⟩,fun b hb=>?_,q⟩
   have e:b=s1.heap.objs.size:=by simpa using hb
   subst e
   exact I1.fpOk (le_refl _) (I1.hok.fresh (le_refl _))
  cases ha:z.cps.all (· < 128)
  ·exact wpAny_pyIter_wide ha (fin _ (.inr rfl))
  ·exact wpAny_pyIter_ascii ha (fin _ (.inl rfl))
def V7:D→Rs (List D)
 |.lst ds=>.ok ds
 |.scr ns=>.ok (ns.map .int)
 |.tup ds=>.ok ds
 |.str x=>.ok (Zs x)
 |_=>.no
def xP(fe:FE):FA:=fun τ=>(fe τ).bind V7
theorem xB(he:PDE X e fe):PDI X tg e (xP fe):=
 PI.imp (Lj he) fun σ H R ⟨F,τ,Rv,h⟩=>tE.of Rv h.bind fun d v F1 H1 g x R1 r=>by
  cases d with
  |lst ds=>
   simp only[Rep] at r;obtain⟨a,vs,rfl,q,t⟩:=r
   exact .inl ⟨a,rfl,⟨vs,SqL.of (R1.fh _ _ q)⟩,g _ F1 H1 x (V8 (SqL.of q) t)⟩
  |scr ns=>
   simp only[Rep] at r;obtain⟨a,rfl,q⟩:=r
   exact .inl ⟨a,rfl,⟨_,R1.fh.seq q⟩,g _ F1 H1 x (V8 q (Reps.ints ns))⟩
  |tup ds=>
   simp only[Rep] at r;obtain⟨a,vs,rfl,q,t⟩:=r
   exact .inr (.inl ⟨a,rfl,⟨vs,Same.seqT R1.fh q⟩,g _ F1 H1 x (L0 q t)⟩)
  |str z=>simp only[Rep] at r;exact .inr (.inr ⟨z,r,g _ F1 H1 x L1⟩)
  |_=>exact g.elim
end
def DefOk(P:Program)(w:World)(K:PySem.W.Frag)(mg:Str→Option Value)(base:Heap)(x:Str)(k n:Nat)(ps:List Str)(g:List D→Rs D):Prop:=
 ∃f fd,FnOk P w K mg base CX0 k f fd ps (spD K n g)∧Binds K fd ps []∧keepIn K (.ref f)=true∧mg x=some (.ref f)
structure ye(K:PySem.W.Frag)(mg:Str→Option Value)(x:Str)(st:Stmt)(f:Addr)(fd:FuncData):Prop where
 fn:Fun K x x st f fd
 at_:mg x=some (.ref f)
section
variable{P:Program}{w:World}{K:PySem.W.Frag}{mg:Str→Option Value}{base:Heap}
theorem DefOk.mk{x:Str}{st:Stmt}{f:Addr}{fd:FuncData}{N ps:List Str}{k n:Nat}{fb:FS}{g:List D→Rs D}(D:ye K mg x st f fd)(S:zS N ps (zk st))(hn:ps.length=n)
  (hb:∀(kV doc pm:Value) (an:Option Addr) (cdv ct:Value) (us:List Value),us.length=ps.length→bindArgs (fnOf x x (zM st) (zF st) (zk st) .none kV doc pm an cdv ct) ⟨us,[]⟩=pure (ps.zip us))
  (hbody:∀(cdv:Value) (A:Around) (outer:List Env) (s:Shared) (H:Hp) (E:XK),Room k (A.deeper (envOfC x (zk st) s.heap.objs.size f cdv)) →
   Ya (Xp CX0 P w K mg base N x (zk st) f cdv A outer s H E).nox (zF st) fb)
  (hg:∀ds d,ds.length=n→g ds=.ok d→xA N.length fb ds=.ok d):DefOk P w K mg base x (k+1) n ps g:=
 ⟨f,fd,FnD.to (fnD D.fn S hn hbody) hg,D.fn.binds hb,D.fn.kp,D.at_⟩
end
section
variable{X:Cx}{pos:Pos}{e tg:Expr}{es:List Expr}{fe:FE}{fs:FA}
theorem zB{k n:Nat}{ps:List Str}{g:List D→Rs D}{x:Str}{p:Pos}(D:DefOk X.prog X.w X.K X.mg X.base x k n ps g)(hr:Room k X.A)(ha:PDA X (e::es) fs)(hfs:∀τ ds,fs τ=.ok ds→ds.length=(e::es).length)(hn:(e::es).length=n:=by rfl)(hg:Gl X x:=by rfl)(hdb:(x==("__debug__" : Str))=false:=by decide)
  (he:starEach (e::es) X.env=(false,eval e X.env)::starEach es X.env:=by rfl) (hpl:(backTo pos (starEach es X.env)).any (·.1)=false:=by rfl):PDE X (.Call (.Name x p) (e::es) [] pos) (zq g fs):=by
 obtain⟨f,fd,F,hb,hk,hm⟩:=D
 exact Qf F hr hg hm hk hb ha hn hfs hdb he hpl
end
theorem vY{k:Nat}{A:Around}(r:Room k A):A.units+128<cLine:=by have:=r.un;omega
section
variable{X:Cx}{pos:Pos}{e a b:Expr}{fe fa fb:FE}
end
def Yv(K:PySem.W.Frag):Sp:=fun vs H Q _=>∃(a:Addr) (ns:List Int) (F:Hp),vs=[.ref a]∧Same F H∧TbT F H∧SqL K F a (ns.map V.int)∧ns.length≤63∧∀H',Q (.bl true) H'
theorem LP{P:Program}{w:World}{K:PySem.W.Frag}{mg:Str→Option Value}{base:Heap}{k:Nat}{g:List D→Rs D}{p:Str}{f:Addr}{fd:FuncData}(F:FnOk P w K mg base CX0 k f fd [p] (spD K 1 g))(h:∀ns:List Int,ns.length≤63→g [.scr ns]=.ok (.bl true)) :
  FnOk P w K mg base CX0 k f fd [p] (Yv K):=by
 refine F.imp fun vs H Q E ⟨a,ns,Fz,e,fh,tt,hS,h63,q⟩=>?_
 subst e
 refine⟨rfl,[.scr ns],Fz,fh,tt,Reps.cons (by simp only[Rep];exact⟨a,rfl,hS⟩) Reps.nil,?_⟩
 rw[h ns h63]
 intro v F' H' _ r
 simp only[Rep] at r
 subst r
 exact q H'
theorem walk{l:PySem.W.OpenLaw}{q:Program}{loose:List Str}{XP:(Str→Option Value)→Heap→Prop}{YP:World→Heap→Prop}{d:DefRec}{K:Params→PySem.W.Frag}{k:Nat}{p:Str}(hn:l.most=some 63)(hdf:d.params.defaults=[])(hk:Room k callerA)
  (hY:∀(w:World) (h:Heap),YP w h→(K w.params).In h)
  (F:∀(w:World) (mg:Str→Option Value) (fa:Addr) (h:Heap),(K w.params).In h→h.Ns mainGlobals mg→mg d.name=some (.ref fa) →
   ∃fd:FuncData,(∀(s:Shared) (u:Value),BindsTo s fd ⟨[u],[]⟩ [(p,u)])∧∀base:Heap,(K w.params).In base→base.Ns mainGlobals mg→FnOk l.prog w (K w.params) mg base CX0 k fa fd [p] (Yv (K w.params)))
  (ht:Tabs.rows=[]:=by rfl) :
  PySem.W.WalkO q loose XP YP l.row.toRowW d [] (fun f vs=>PySem.call f vs):=
 L2.walk_of (n:=63) (k:=k) (x:=p) (CX:=fun _=>CX0) (sp:=fun w=>Yv (K w.params)) hn (by decide) hdf hk hY F (fun _ H a ns hl hO hS=>⟨a,ns,H,rfl,Same.refl H,⟨(fun r hr=>by rw[ht] at hr;cases hr),fun d b e=>by rcases hO d with z|⟨_,_,z⟩ <;> (rw[z] at e;cases e)⟩,hS,hl,fun _=>rfl⟩) fun _ _ _ _ _ z=>z
section
variable{X:Cx}{pos:Pos}{e tg:Expr}{es:List Expr}{fe:FE}{fs:FA}
theorem G6(x:Str)(u:Tok):Txt.sliceBy x none none (-1,u)=⟨x.cps.toList.reverse.toArray⟩:=by
 have h:=step_rev_list x u
 have e:((List.range x.length).map fun k=>x.cps.getD (x.length-1-k) 0)=x.cps.toList.reverse:=by
  have hl:x.length=x.cps.toList.length:=by simp[Str.length]
  apply ext_getElem
  ·simp[hl]
  ·intro i h1 h2
   have hi:i<x.cps.size:=by simpa[Str.length] using h1
   simp only[List.getElem_map,List.getElem_range,List.getElem_reverse]
   rw[hl]
   simp only[length_toList,getElem_toList,Array.getD]
   rw[dif_pos (by omega)]
   rfl
 rw[e] at h
 generalize Txt.sliceBy x none none (-1,u)=y at h
 obtain⟨c⟩:=y
 congr 1
 rw[← h]
def G7:D→Rs D
 |.str x=>if x.length≤sizeLine then .ok (.str ⟨x.cps.toList.reverse.toArray⟩) else .no
 |.lst ds=>.ok (.lst ds.reverse)
 |_=>.no
def Jj(fe:FE):FE:=fun τ=>(fe τ).bind G7
theorem VR{st:Expr}{p2:Pos}(he:PDE X e fe)(hs:PDE X st (x6 (eC (.int 1)))):PDE X (.Subscript e (.Slice none none (some st) p2) pos) (Jj fe):=by
 intro pins s σ H Q I ⟨F,τ,R,h⟩
 refine Subscript_ (thn (he pins s σ H _ I (tE.of R h.bind fun d v F1 H1 g x R1 r=>(⟨d,F1,g,x,R1,r⟩:∃d F1,Ok X (G7 d) (Ev X.K F H Q)∧Ext F H F1 H1∧RV X.K F1 τ σ H1∧Rep X.K F1 d v))) fun v s1 ⟨x,H1,I1,r1,d,F1,g,x1,R1,r⟩=>?_)
 refine wpAny_Slice ?_
 rw[evalPart_none]
 refine wpAny_pure (wpAny_pure ?_)
 rw[evalPart_some]
 refine thn (hs pins s1 σ H1 (fun w H2=>w=.int (-1)∧∃F2,Ext F1 H1 F2 H2) I1 ⟨F1,τ,R1,fun w F2 H2 x2 r2=>⟨by simpa only[Rep] using r2,F2,x2⟩⟩) fun u s2 ⟨y,H2,I2,r2,ey,F2,x2⟩=>?_
 subst ey
 obtain⟨tk,rfl⟩:=r2
 have I4:Inv X pins σ H2 { s2 with heap:=s2.heap.push { cls:=.type "slice", data:=.fields #[.none,.none,.int (-1) tk] } }:=I2.kept (t':=s2.toks) fun b ob q=>Heap.get?_push_of_some _ q
 have x12:=x1.trans x2
 have r:=r.mono x2.ff
 show wpAny (model X.prog X.w) X.A (subscriptTail e (.Slice none none (some st) p2) v (.ref s2.heap.objs.size)) (EP X pins σ Q) X.xe { s2 with heap:=s2.heap.push { cls:=.type "slice", data:=.fields #[.none,.none,.int (-1) tk] } }
 cases d with
 |str z=>
  simp only[Rep] at r;subst r
  obtain⟨t,rfl⟩:=r1
  obtain⟨hz,g⟩:=yw g
  refine tail_any (ops:=[.str z t,.ref s2.heap.objs.size]) (typeIs_str _ _ _) PySem.F.slot_str_getitem.lookup (wpAny_getItem_str_slice (l:=none) (u:=none) (st:=some (-1,tk)) ⟨_,Heap.get?_push_size _ rfl,rfl,rfl⟩ rfl (post_val_or_str ⟨le_trans (Txt.sliceBy_le z none none (-1,tk) (by show(-1:Int)≠0;decide)) hz,fun t' k=>⟨.str (Txt.sliceBy z none none (-1,tk)),H2,I4.tok _,⟨_,rfl⟩,?_⟩⟩)) (by with_unfolding_all rfl)
  rw[G6]
  exact g _ F2 H2 x12 (by simp only[Rep])
 |lst ds=>
  simp only[Rep] at r;obtain⟨a,vs,rfl,e1,t⟩:=r
  cases r1
  obtain⟨its,rr,ht,hz⟩:=I4.list (SqL.of (K:=X.K) (x2.fh _ _ e1))
  have g:Ev X.K F H Q (.lst ds.reverse):=g
  refine tail_any (ops:=[.ref a,.ref s2.heap.objs.size]) ht.isList.typeIs slot_list_getitem.lookup (wpAny_getItem_list_slice ht.isList (Heap.IsSliceOf.new ..) .none .none (.int (-1) tk) (by simp) ?_ (by rw[size_toArray,← rr.length];exact hz)) (by with_unfolding_all rfl)
  rw[PySem.W.krv_pick]
  refine⟨.ref _,_,I4.laid (t':=s2.toks) (o:=.lst vs.reverse) (fun b ob q=>Heap.get?_push_of_some _ q) (le_refl _) ?_,rfl,g _ _ _ (x12.trans (Ext.new x2.fh (I4.hok.fresh (le_refl _)))) ?_⟩
  ·exact⟨by rw[length_reverse];exact hz,its.reverse,0,rr.reverse,Heap.get?_push_size _ rfl⟩
  ·simp only[Rep]
   exact⟨_,_,rfl,zt,(t.reverse).mono (yi (zP x2.fh (I4.hok.fresh (le_refl _))))⟩
 |_=>exact g.elim
theorem JV{K:PySem.W.Frag}{F:Hp}(lo:Int)(n:Nat):Reps K F (uu lo n) ((List.range n).map fun (k:Nat)=>V.int (lo+k)):=by
 unfold uu
 generalize List.range n=l
 induction l with
 |nil=>exact Reps.nil
 |cons a r ih=>exact Reps.cons (by simp only[Rep]) ih
theorem Jx{lo:Int}{acc:Array Value}{n:Nat}(h:ItemsOf (fun i v=>∃t,v=Value.int (lo+i*1) t) acc n):Vals ((List.range n).map fun (k:Nat)=>V.int (lo+k)) acc.toList:=by
 obtain⟨hn,hi⟩:=h
 have key:∀(l:List Value) (j:Nat),(∀k v,l[k]?=some v→∃t,v=Value.int (lo+((j+k:Nat):Int)) t)→Vals ((List.range' j l.length).map fun (k:Nat)=>V.int (lo+k)) l:=fun l=>by
  induction l with
  |nil=>intro j _;exact .nil
  |cons a r ih=>
   intro j hj
   rw[length_cons,List.range'_succ,map_cons]
   refine .cons ?_ (ih (j+1) fun k v hv=>?_)
   ·obtain⟨t,rfl⟩:=hj 0 a rfl
    exact⟨t,by simp⟩
   ·obtain⟨t,e⟩:=hj (k+1) v (by simpa using hv)
    exact⟨t,by rw[e];congr 2;omega⟩
 have:=key acc.toList 0 fun k v hv=>by
  obtain⟨t,e⟩:=hi k v (by simpa using hv)
  exact⟨t,by rw[e];simp⟩
 rw[length_toList,hn,← List.range_eq_range'] at this
 exact this
def X8(fi:FA):FA:=fun τ=>(fi τ).bind fun ds=>if ds.length≤16777216 then .ok ds else .no
theorem QB{pins:List (Addr×Obj)}{σ:St}{F H F1 H1:Hp}{s1:Shared}{Q:VK}{lo hi:Int}{t u v:Tok}{tk:Nat}(hc:X.calm=true)(I1:Inv X pins σ H1 s1)(h1 : -(2 ^ 62)≤lo)(h2:lo<2 ^ 62)(h3 : -(2 ^ 62)≤hi)(h4:hi<2 ^ 62)(hz:(uu lo (hi-lo).toNat).length≤16777216)
  (x:Ext F H F1 H1) (q:∀p vs F' H',Ext F H F' H'→H' p=none→Reps X.K F' (uu lo (hi-lo).toNat) vs→Q (.ref p) (upd H' p (.lst vs))) :
  wpAny (model X.prog X.w) X.A (call (.type "list") [.ref s1.heap.objs.size]) (EP X pins σ Q) X.xe { s1 with heap:=s1.heap.push { cls:=.type "range", data:=.fields #[.int lo t,.int hi u,.int 1 v] },toks:=tk }:=by
 have I2:Inv X pins σ H1 { s1 with heap:=s1.heap.push { cls:=.type "range", data:=.fields #[.int lo t,.int hi u,.int 1 v] },toks:=tk }:=I1.kept fun b o e=>Heap.get?_push_of_some _ e
 have hl:(uu lo (hi-lo).toNat).length=(hi-lo).toNat:=by simp[uu]
 rw[hl] at hz
 refine call_list_range (n:=(hi-lo).toNat) (I2.ok.hd hc) (IsRange.new ..) (small_one h1 h2 h3 h4) (by rw[rangeSize_one];split <;> omega) (by omega) fun h' tk' acc' c' hk hS' hacc=>?_
 have rel:=Jx hacc
 refine⟨.ref _,_,I2.laid (t':=tk') hk (le_refl _) (o:=.lst ((List.range (hi-lo).toNat).map fun (k:Nat)=>V.int (lo+k))) ⟨by rw[length_map,length_range,sizeLine_eq];exact hz,acc'.toList,c',rel,by simpa using hS'⟩,rfl,q _ _ _ _ x (I2.hok.fresh (le_refl _)) (JV _ _)⟩
theorem jX{a:Expr}{p p2 pos2:Pos}(hc:X.calm=true)(hl:Gl X "list")(hml:X.mg "list" = none)(hg:Gl X "range")(hm:X.mg "range" = none)(ha:PDA X [a] fs)(hs:starEach [a] X.env=[(false,eval a X.env)]:=by rfl)
  (he:starEach [.Call (.Name "range" p2) [a] [] pos2] X.env=(false,eval (.Call (.Name "range" p2) [a] [] pos2) X.env)::starEach [] X.env:=by rfl) (hpl:(backTo pos (starEach [] X.env)).any (·.1)=false:=by rfl) :
  PDF X (.Call (.Name "list" p) [.Call (.Name "range" p2) [a] [] pos2] [] pos) (X8 (vq fs)):=by
 intro pins s σ H Q I ⟨F,τ,R,h⟩
 refine wpAny_Call_Name_kw (x9 I hl hml boot_list ?_)
 refine PyProof.Rows.callWith_type1 ?_ he hpl
 rw[he]
 show wpAny _ _ (spliced ((false,eval (.Call (.Name "range" p2) [a] [] pos2) X.env)::backTo pos (starEach [] X.env))) _ _ s
 refine Calls.spliced_cons ?_
 have h:=h.bind
 unfold vq at h
 have h:=h.bind
 generalize hG:(fun ds=>Ok X (match Ve ds with|some j=>if -(2 ^ 62)≤j∧j<2 ^ 62 then Rs.ok (uu 0 j.toNat) else Rs.no|none=>Rs.no) fun a=>Ok X (if a.length≤16777216 then Rs.ok a else Rs.no) fun ds=>∀(p:Addr) (vs:List V) (F' H':Hp),Ext F H F' H'→H' p=none→Reps X.K F' ds vs→Q (V.ref p) (upd H' p (HO.lst vs)))=G at h
 refine Call_ (x9 I hg hm boot_range (PyProof.Rows.callWith_type1 (thn (ha pos2 pins s σ H (fun vs H1=>∃ds F1,G ds∧Ext F H F1 H1∧RV X.K F1 τ σ H1∧Reps X.K F1 ds vs) I (tAs.of R h fun ds vs F1 H1 g x R1 r=>⟨ds,F1,g,x,R1,r⟩)) fun us s1 ⟨vs,H1,I1,r1,ds,F1,g,x,R1,r⟩=>?_) hs rfl))
 subst hG
 cases q1:Ve ds with
 |none=>simp only[q1] at g;exact g.elim
 |some j=>
  simp only[q1] at g
  have e:=Ub q1
  subst e
  obtain⟨v,rfl,q⟩:=r.one
  simp only[Rep] at q;subst q
  obtain⟨z,g⟩:=yw g
  obtain⟨zl,g⟩:=yw g
  cases r1 with
  |cons ra rr=>
   cases rr
   obtain⟨t,rfl⟩:=ra
   refine call_range_1 ?_
   refine Calls.spliced_nil ?_
   exact QB hc I1 (by decide) (by decide) z.1 z.2 (by rw[Int.sub_zero];exact zl) x (by rw[Int.sub_zero];exact g)
end
section
open PySem.SeqAt
open PySem.AutoSeq1 (wpAny_loadPart')
open PySem.MeetsSeq PySem.MeetsSeq2 PySem.MeetsSeq3
end
section
variable{X:Cx}
end
section
variable{X:Cx}
end
section
variable{rest:List Expr}{env:Env}
end
section
variable{X:Cx}{pos:Pos}{e a b:Expr}{es:List Expr}{fe fa fb:FE}{fs:FA}
end
section
variable{X:Cx}{pins:List (Addr×Obj)}{σ:St}{H:Hp}{s:Shared}{h':Heap}
end
section
variable{X:Cx}{pins:List (Addr×Obj)}{σ:St}{H:Hp}{s:Shared}{h':Heap}{a:Addr}{cls:Value}
variable{M:Model}{A:Around}{E:Value→Shared→Prop}{Q:Unit→Shared→Prop}
end
section
variable{P:Program}{w:World}{K:PySem.W.Frag}{mg:Str→Option Value}{base:Heap}
end
section
variable{X:Cx}{pos:Pos}{e:Expr}{es:List Expr}{fe:FE}{fs:FA}{st:Stmt}
end
section
variable{P:Program}{w:World}{K:PySem.W.Frag}{mg:Str→Option Value}{base:Heap}
end
section
variable{X:Cx}{pins:List (Addr×Obj)}{σ:St}{H:Hp}{s:Shared}{a:Addr}{cls:Value}
theorem goes{h':Heap}{m':Str→Option Value}{t':Nat}(I:Inv X pins σ H s)(hn:h'.Ns X.env.locals m')(sb:Heap.SameBut X.env.locals s.heap h'):Inv X pins (List.replicate X.N.length none) H { s with heap:=h',toks:=t' }:=by
 have nL:∀b o,X.s₀.heap.get? b=some o→b≠X.env.locals:=fun b o e=>ne_of_lt (lt_of_lt_of_le (Heap.lt_size e) I.ok.above)
 refine⟨I.ok,I.os,I.bare,⟨fun b o e n hb hx=>(sb.2 b (nL b o e)).trans (I.base.keep b o e n hb hx),fun b o e n hb hx=>?_,I.base.free,fun b o e hx=>?_,I.base.tups,I.base.frzs,I.base.tbls⟩,⟨m',hn,fun j y v e1 e2 e3=>?_⟩,fun y c e=>?_,I.free,I.freeC,fun p hp=>?_,fun b u e=>?_,by simp⟩
 ·obtain⟨sl,q⟩:=I.base.slot b o e n hb hx
  exact⟨sl,(sb.2 b (nL b o e)).trans q⟩
 ·obtain⟨o',q⟩:=I.base.there b o e hx
  exact⟨o',(sb.2 b (nL b o e)).trans q⟩
 ·rw[getElem?_replicate] at e2
  split at e2 <;> cases e2
 ·obtain⟨v,o,ho,hd⟩:=I.cell y c e
  exact⟨v,o,(sb.2 c (I.cne y c e)).trans ho,hd⟩
 ·obtain⟨q1,q2,q3,q4⟩:=I.pin p hp
  exact⟨(sb.2 p.1 q3).trans q1,q2,q3,q4⟩
 ·refine(I.hok b u e).stay (fun c w' hc q=>(sb.2 c ?_).trans q) (fun _ q=>q) fun _ _ q=>q
  rintro rfl
  rcases hc with rfl|hc
  ·rw[I.free] at e;cases e
  ·rw[I.free] at hc;cases hc
end
section
variable{prog:Program}{w:World}{A:Around}{E:Value→Shared→Prop}{K:PySem.W.Frag}{x C:Addr}
end
section
variable{X:Cx}{pos:Pos}{a b:Expr}{fa:FE}
end
section
variable{X:Cx}{pos:Pos}{e:Expr}{es:List Expr}{fs:FA}{st:Stmt}
end
section
variable{X:Cx}{pos:Pos}{e a b:Expr}{es:List Expr}{fe fa fb:FE}{fs:FA}
end
section
variable{X:Cx}{pos:Pos}{e a b:Expr}{es:List Expr}{fe fa fb:FE}{fs:FA}
end
section
variable{P:Program}{w:World}{K:PySem.W.Frag}{mg:Str→Option Value}{base:Heap}
end
section
variable{X:Cx}{pos:Pos}{e:Expr}{es:List Expr}{fe:FE}{fs:FA}
end
section
variable{X:Cx}{scope:Scope}{N':List Str}
end
section
variable{X:Cx}{scope:Scope}{N':List Str}{tg iter elt:Expr}{ifs:List Expr}{pos:Pos}{wi:TI}{g:TG}{ti:TT}{te:TE}{s0:St→St}
end
section
variable{X:Cx}{scope:Scope}{tn fr:List Str}{idx:List Nat}{tg iter elt:Expr}{ifs:List Expr}{pos:Pos}{fi:FA}{set:FG}{ft:FT}{fe:FE}
end
section
variable{X:Cx}{tg:Expr}
end
section
variable{X:Cx}{pos:Pos}{e tg:Expr}{es:List Expr}{fe:FE}{fs:FA}
end
section
variable{P:Program}{w:World}{K:PySem.W.Frag}{mg:Str→Option Value}{base:Heap}
end
section
variable{X:Cx}{pos:Pos}{e:Expr}{es:List Expr}{fe:FE}{fs:FA}
end
section
variable{X:Cx}{pins:List (Addr×Obj)}{σ:St}{H:Hp}{s:Shared}{a:Addr}{cls:Value}
end
section
variable{X:Cx}{pos:Pos}{e a b:Expr}{es:List Expr}{fe fa fb:FE}{fs:FA}
end
section
variable{X:Cx}{tg:Expr}
end
section
variable{X:Cx}{pos:Pos}{e tg:Expr}{es:List Expr}{fe:FE}{fs:FA}
end
section
variable{X:Cx}{pos:Pos}{e a b:Expr}{es:List Expr}{fe fa fb:FE}{fs:FA}
end
def BM(mg:Str→Option Value)(base:Heap):Prop:=∃bm o,mg "__builtins__" = some (.ref bm)∧bm≠builtinsNs∧base.get? bm=some o∧o.cls=.type "module" ∧ o.dict=some builtinsNs∧o.data=.plain
def TX(ts:List Addr)(H:Hp):Prop:=∀b,H b=none∨(∃o xs,H b=some (.frz o (.lst xs)))∨(b∈ts∧H b=some (.tbl #[]))
theorem U6{P:Program}{w:World}{K:PySem.W.Frag}{mg mb:Str→Option Value}{CX:CXT}{k:Nat}{fa a:Addr}{fd:FuncData}{x:Str}{sp:Sp}{s₁:Shared}{vs:List Value}{ns:List Int}{ts:List Addr}
  (KX:K.In s₁.heap) (hns:s₁.heap.Ns mainGlobals mg) (hb:s₁.heap.Ns builtinsNs mb) (hbb:∀x:Str,x ≠ "__name__" → mb x=bootBuiltins x) (hlim:s₁.heap.NoLimit) (hg:s₁.gens = #[])
  (ha:s₁.heap.get? a=some { cls:=.type "list", data:=.seq vs.toArray }) (hi:IntsAre vs ns) (hl:ns.length≤sizeLine) (hr:Room k callerA)
  (tb:∀p∈ts,K.lookup p=none∧s₁.heap.get? p=some (PySem.W.tabObj #[])∧isCodeTable s₁.heap p)
  (hbm:BM mg s₁.heap) (F:∀base:Heap,K.In base→base.Ns mainGlobals mg→BM mg base→FnOk P w K mg base CX k fa fd [x] sp) (hbind:∀(s:Shared) (u:Value),BindsTo s fd ⟨[u],[]⟩ [(x,u)])
  (hsp:∀H F:Hp,TX ts H→Same F H→(∀p∈ts,F p=none∧H p=some (.tbl #[]))→SqL K F a (ns.map V.int)→sp [.ref a] H (fun v H'=>v=.bl true) fun _ _ _=>False)
  (hCX:∀H e s',CX [] H s₁ (fun _ _ _=>False) e s'→False) :
  codeAny (model P w) callerA (.call (.ref fa) ⟨[.ref a],[]⟩) (fun r s'=>r=.ok (.ret (.bool true))∧OldK s₁.heap s'.heap∧s'.os=s₁.os∧AllBare s'.gens) s₁:=by
 have rv:=vals_ints hi
 have lenV:=hi.length
 have nat:a∉ts:=fun z=>by
  obtain⟨_,e,_⟩:=tb a z
  rw[ha] at e;cases e
 have core:∀H F:Hp,TX ts H→Same F H→(∀p∈ts,F p=none∧H p=some (.tbl #[]))→SqL K F a (ns.map V.int)→HOk P w H s₁.heap→(∀b,H b≠none→b=a∨b∈ts)→(H a≠none→K.lookup a=none) →
   codeAny (model P w) callerA (.call (.ref fa) ⟨[.ref a],[]⟩) (fun r s'=>r=.ok (.ret (.bool true))∧OldK s₁.heap s'.heap∧s'.os=s₁.os∧AllBare s'.gens) s₁:=by
  intro H Fz hO fh hT hS hok hA hK
  have base_of:∀{b:Addr} {o:Obj},s₁.heap.get? b=some o→H b=none→(uy s₁.heap H).get? b=some o:=fun e n=>Wn e n
  have noA:∀{b:Addr} {o:Obj} {es:Array DictEntry} {ep:Nat},s₁.heap.get? b=some o→o.data=.dict es ep→H b=none:=fun {b o es ep} e d=>by
   cases q:H b with
   |none=>rfl
   |some u=>
    rcases hA b (by rw[q];simp) with e' | e'
    ·subst e'
     rw[ha] at e;cases e
     have d':Data.seq vs.toArray _=Data.dict es ep:=d
     cases d'
    ·obtain⟨_,e2,_⟩:=tb b e'
     rw[e] at e2;cases e2
     cases d
  have nsK:∀{b:Addr} {m:Str→Option Value},s₁.heap.Ns b m→(uy s₁.heap H).Ns b m:=fun {b m} ⟨o,es,ep,e,d,r⟩=>⟨o,es,ep,base_of e (noA e d),d,r⟩
  have hKb:K.In (uy s₁.heap H):=fun b o e=>base_of (KX b o e) (by
   cases q:H b with
   |none=>rfl
   |some u=>
    rcases hA b (by rw[q];simp) with e' | e'
    ·subst e'
     rw[hK (by rw[q];simp)] at e;cases e
    ·rw[(tb b e').1] at e;cases e)
  have hM:Mod K mg (uy s₁.heap H):=⟨hKb,nsK hns,⟨mb,nsK hb,hbb⟩,let ⟨mc,h1,h2⟩:=hlim;⟨mc,nsK h1,h2⟩⟩
  have e0:GH P w K mg (uy s₁.heap H) callerA [] s₁ H:=⟨rfl,hM,fun b o e=>VV e,Nat.le_of_eq (YQ _ _),trivial,fun b hb=>absurd (show b∈([]:List Addr) from hb) (by simp),hok,.of_eq hg⟩
  have hbb:BM mg (uy s₁.heap H):=by
   obtain⟨bm,o,b1,b2,b3,b4,b5,b6⟩:=hbm
   refine⟨bm,o,b1,b2,base_of b3 ?_,b4,b5,b6⟩
   cases q:H bm with
   |none=>rfl
   |some u=>
    rcases hA bm (by rw[q];simp) with e' | e'
    ·subst e'
     rw[ha] at b3;cases b3;cases b6
    ·obtain⟨_,e2,_⟩:=tb bm e'
     rw[b3] at e2;cases e2;cases b6
  refine codeAny_mono ((F _ hKb (nsK hns) hbb).run callerA [] s₁ H ⟨[.ref a],[]⟩ [.ref a] [.ref a] _ _ hr e0 (hbind s₁ (.ref a)) (.cons rfl .nil) (hsp H Fz hO fh hT hS)) fun r s' h=>?_
  cases r with
  |error e=>exact(hCX H e s' h).elim
  |ok fl=>
   cases fl with
   |next=>exact False.elim h
   |brk=>exact False.elim h
   |cont=>exact False.elim h
   |ret u=>
    obtain⟨v,H',os,bare,un,hok',r',q'⟩:=h
    subst q'
    obtain rfl:u=Value.bool true:=r'
    have was:∀b o,s₁.heap.get? b=some o→asItWas s₁.heap s'.heap b o:=fun b o e=>by
     cases q:H b with
     |none=>exact .inl (un.keep b o e q (by intro z;exact absurd (show b∈([]:List Addr) from z) (by simp)) (by simp))
     |some u=>
      rcases hO b with z|⟨ob,xs,z⟩|⟨hb,z⟩
      ·rw[q] at z;cases z
      ·have z2:=un.frzs b ob _ z
       obtain⟨e1,_⟩:=hok b _ z
       obtain⟨e2,_⟩:=hok' b _ z2
       rw[e] at e1;cases e1
       exact .inl e2
      ·obtain⟨more,z2⟩:=un.tbls b _ z
       have e2:s'.heap.get? b=some { cls:=.none,data:=.fields (#[]++more) }:=hok' b _ z2
       obtain⟨_,e3,e4⟩:=tb b hb
       rw[e] at e3;cases e3
       exact .inr (.inl ⟨e4,rfl,#[],more,rfl,e2⟩)
    refine⟨rfl,⟨was,fun b o e=>?_⟩,os,bare⟩
    obtain⟨o',e'⟩:=un.there b o e (by simp)
    exact⟨o',e'⟩
 cases hk:K.lookup a with
 |some o=>
  have e:=KX a o hk
  rw[ha] at e
  cases e
  refine core (fun b=>if b∈ts then some (.tbl #[]) else none) (fun _=>none) (fun b=>?_) (fun _ _ z=>nomatch z) (fun p hp=>⟨rfl,if_pos hp⟩) (.inr ⟨_,vs.toArray,_,hk,rfl,rfl,rfl,by rw[size_toArray,lenV];exact hl,by simpa using rv⟩) (fun b u z=>?_) (fun b z=>?_) fun z=>absurd (if_neg nat) z
  ·by_cases h:b∈ts
   ·exact .inr (.inr ⟨h,if_pos h⟩)
   ·exact .inl (if_neg h)
  ·by_cases h:b∈ts
   ·have z':=(if_pos h).symm.trans z
    cases z'
    exact(tb b h).2.1
   ·have z':=(if_neg h).symm.trans z
    cases z'
  ·by_cases h:b∈ts
   ·exact .inr h
   ·exact absurd (if_neg h) z
 |none=>
  refine core (fun b=>if b∈ts then some (.tbl #[]) else if b=a then some (.frz { cls:=.type "list", data:=.seq vs.toArray } (.lst (ns.map V.int))) else none) (fun b=>if b=a then some (.frz { cls:=.type "list", data:=.seq vs.toArray } (.lst (ns.map V.int))) else none) (fun b=>?_) (fun b o z=>?_) (fun p hp=>⟨if_neg (fun z:p=a=>nat (z ▸ hp)),if_pos hp⟩) (.inl (.inr ⟨{ cls:=.type "list", data:=.seq vs.toArray },if_pos rfl⟩)) (fun b u z=>?_) (fun b z=>?_) fun _=>hk
  ·by_cases h:b∈ts
   ·exact .inr (.inr ⟨h,if_pos h⟩)
   ·by_cases hb:b=a
    ·exact .inr (.inl ⟨_,_,(if_neg h).trans (if_pos hb)⟩)
    ·exact .inl ((if_neg h).trans (if_neg hb))
  ·by_cases hb:b=a
   ·have z':=(if_pos hb).symm.trans z
    cases z'
    subst hb
    exact(if_neg nat).trans (if_pos rfl)
   ·have z':=(if_neg hb).symm.trans z
    cases z'
  ·by_cases h:b∈ts
   ·have z':=(if_pos h).symm.trans z
    cases z'
    exact(tb b h).2.1
   ·have z1:=(if_neg h).symm.trans z
    by_cases hb:b=a
    ·have z':=(if_pos hb).symm.trans z1
     cases z'
     subst hb
     exact⟨ha,by rw[length_map];exact hl,vs,_,rv,ha⟩
    ·have z':=(if_neg hb).symm.trans z1
     cases z'
  ·by_cases h:b∈ts
   ·exact .inr h
   ·by_cases hb:b=a
    ·exact .inl hb
    ·exact absurd ((if_neg h).trans (if_neg hb)) z
theorem Wa{K:PySem.W.Frag}{p:Addr}(h:p∉K.map (·.1)):K.lookup p=none:=by
 rw[show K.lookup p=List.lookup p K from rfl,List.lookup_eq_none_iff]
 intro q hq
 simp only[bne_iff_ne,ne_eq,beq_eq_false_iff_ne]
 intro z
 exact h (mem_map.mpr ⟨q,hq,z.symm⟩)
def GE(K:PySem.W.Frag):Prop:=∀r∈Tabs.rows,∃c,PySem.W.codeHdIn K c r.1=true
theorem walkM{l:PySem.W.OpenLaw}{q:Program}{loose:List Str}{XP:(Str→Option Value)→Heap→Prop}{d:DefRec}{K:Params→PySem.W.Frag}{k:Nat}{p:Str}{as ts:List Addr}{has:∀P,as=(K P).map (·.1)}(hn:l.most=some 63)(hdf:d.params.defaults=[])(hk:Room k callerA)
  (hts:(Tabs.rows.all fun r=>ts.contains r.1 && !as.contains r.1)=true)
  (F:∀(w:World) (mg:Str→Option Value) (fa:Addr) (h:Heap),(K w.params).In h→h.Ns mainGlobals mg→mg d.name=some (.ref fa)→GE (K w.params) ∧
   ∃fd:FuncData,(∀(s:Shared) (u:Value),BindsTo s fd ⟨[u],[]⟩ [(p,u)])∧∀base:Heap,(K w.params).In base→base.Ns mainGlobals mg→BM mg base→FnOk l.prog w (K w.params) mg base CX0 k fa fd [p] (Yv (K w.params))) :
  PySem.W.WalkO q loose XP (PySem.W.kmHook K as has ts).says l.row.toRowW d [] (fun f vs=>PySem.call f vs):=by
 refine Att.attach_call hn hdf fun w s₀ s₁ mg mb fa o pm cd doc a vs ns G Y ho hd hcd hmg hobj hints hlen hg=>?_
 have KX:=PySem.W.km_in_of Y
 have hT:=PySem.W.km_tabs_of Y
 obtain⟨tin,fd,hb,hF⟩:=F w mg fa _ KX G.T.g hmg
 refine U6 (ts:=Tabs.rows.map (·.1)) (CX:=CX0) (sp:=Yv (K w.params)) KX G.T.g G.T.b G.T.builtins G.T.nolimit hg hobj hints (le_trans hlen (by decide)) hk (fun p hp=>?_) ?_ hF hb (fun H Fz hO fh hT hS=>⟨a,ns,Fz,rfl,fh,⟨fun r hr=>?_,fun d b e=>(by rcases hO d with z|⟨_,_,z⟩|⟨_,z⟩ <;> (rw[z] at e;cases e))⟩,hS,hlen,fun _=>rfl⟩) fun H e s' z=>z
 ·obtain⟨r,hr,rfl⟩:=mem_map.mp hp
  have z:=List.all_eq_true.mp hts r hr
  rw[Bool.and_eq_true] at z
  have hp':=hT r.1 (by simpa using z.1)
  obtain⟨c,hc⟩:=tin r hr
  refine⟨Wa (by rw[← has];simpa using z.2),hp',?_⟩
  exact((PySem.W.codeHd_of_K KX hc).tab hp').isCodeTable
 ·obtain⟨bm,ob,b1,b2,b3,b4,b5,b6⟩:=G.T.bmain
  exact⟨bm,ob,b1,b2,b3,b4,b5,b6⟩
 ·obtain⟨h1,h2⟩:=hT r.1 (mem_map.mpr ⟨r,hr,rfl⟩)
  exact⟨h1,.inl h2⟩
open PySem.W
def lxI:List Int→List Int→Bool
 |[],[]=>false
 |[],_::_=>true
 |_::_,[]=>false
 |a::x,b::y=>if a=b then lxI x y else decide (a<b)
theorem ZI:∀x:List Int,lxI x x=false
 |[]=>rfl
 |a::x=>by rw[lxI,if_pos rfl];exact ZI x
theorem Xh:∀x y:List Int,lxI x y=false→lxI y x=false→x=y
 |[],[],_,_=>rfl
 |[],_::_,h,_=>by simp[lxI] at h
 |_::_,[],_,h=>by simp[lxI] at h
 |a::x,b::y,h1,h2=>by
  rw[lxI] at h1 h2
  by_cases e:a=b
  ·subst e
   rw[if_pos rfl] at h1 h2
   rw[Xh x y h1 h2]
  ·rw[if_neg e] at h1
   rw[if_neg (Ne.symm e)] at h2
   simp only[decide_eq_false_iff_not] at h1 h2
   omega
theorem xX:∀x y z:List Int,lxI x y=true→lxI y z=true→lxI x z=true
 |[],[],_,h,_=>by simp[lxI] at h
 |_::_,[],_,h,_=>by simp[lxI] at h
 |_,_::_,[],_,h=>by simp[lxI] at h
 |[],_::_,_::_,_,_=>rfl
 |a::x,b::y,c::z,h1,h2=>by
  rw[lxI] at h1 h2 ⊢
  by_cases e:a=b
  ·subst e
   rw[if_pos rfl] at h1
   by_cases e2:a=c
   ·subst e2;rw[if_pos rfl] at h2 ⊢;exact xX x y z h1 h2
   ·rw[if_neg e2] at h2 ⊢;exact h2
  ·rw[if_neg e] at h1
   simp only[decide_eq_true_eq] at h1
   by_cases e2:b=c
   ·subst e2;rw[if_neg e];simpa using h1
   ·rw[if_neg e2] at h2
    simp only[decide_eq_true_eq] at h2
    rw[if_neg (by omega)];simp only[decide_eq_true_eq];omega
theorem YC{x y:List Int}(h:lxI x y=true):lxI y x=false:=by
 cases q:lxI y x with
 |false=>rfl
 |true=>have:=xX x y x h q;rw[ZI] at this;cases this
theorem Zd{x y:List Int}(h:lxI x y=false)(n:x≠y):lxI y x=true:=by
 cases q:lxI y x with
 |true=>rfl
 |false=>exact absurd (Xh x y h q) n
def Pw{α:Type}(lt:Nat→Nat→Bool)(n:Nat):KasT α→(α→Prop)→Prop
 |.ret a,G=>G a
 |.ask i j k,G=>i<n∧j<n∧Pw lt n (k (lt i j)) G
section
variable{lt:Nat→Nat→Bool}{n:Nat}
theorem JY{α:Type}{t u:KasT α}{G:α→Prop}(h:Pw lt n t G):Pw lt n (if true=true then t else u) G:=by rw[if_pos rfl];exact h
theorem Mb{α:Type}{t u:KasT α}{G:α→Prop}(h:Pw lt n u G):Pw lt n (if false=true then t else u) G:=by rw[if_neg (by simp)];exact h
theorem Pw.bind{α β:Type}{f:α→KasT β}{G:β→Prop}:∀(t:KasT α),Pw lt n t (fun a=>Pw lt n (f a) G)→Pw lt n (t.bind f) G
 |.ret _,h=>h
 |.ask i j k,h=>⟨h.1,h.2.1,Pw.bind (k (lt i j)) h.2.2⟩
theorem Pw.mono{α:Type}{G G':α→Prop}(hg:∀a,G a→G' a):∀(t:KasT α),Pw lt n t G→Pw lt n t G'
 |.ret a,h=>hg a h
 |.ask i j k,h=>⟨h.1,h.2.1,Pw.mono hg (k (lt i j)) h.2.2⟩
theorem Pw.wp{α:Type}{cmp:Nat→Nat→(Bool→Shared→Prop)→Shared→Prop}{s:Shared}(hc:∀(i j:Nat) (C:Bool→Shared→Prop),i<n→j<n→C (lt i j) s→cmp i j C s){G:α→Prop}{Q:α→Shared→Prop}(hq:∀a,G a→Q a s) :
  ∀(t:KasT α),Pw lt n t G→t.kasWp cmp Q s
 |.ret a,h=>hq a h
 |.ask i j k,h=>hc i j _ h.1 h.2.1 (Pw.wp hc hq (k (lt i j)) h.2.2)
end
section
variable{n:Nat}{κ:Nat→List Int}{p:Array Nat}
abbrev ltK(κ:Nat→List Int)(i j:Nat):Bool:=lxI (κ i) (κ j)
abbrev gK(κ:Nat→List Int)(p:Array Nat)(k:Nat):List Int:=κ (p.getD k 0)
abbrev PmK(n:Nat)(p:Array Nat):Prop:=p.toList.Perm (List.range n)
theorem xH{p:Array Nat}(k:Nat):p.getD k 0=(p[k]?).getD 0:=by simp
theorem Za(h:PmK n p):p.size=n:=by have:=h.length_eq;simpa using this
theorem vB(h:PmK n p)(hn:0<n)(k:Nat):p.getD k 0<n:=by
 rw[xH]
 cases q:p[k]? with
 |none=>exact hn
 |some v=>
  have hv:v∈p.toList:=by
   have q':p.toList[k]?=some v:=by rw[← q];simp
   exact mem_of_getElem? q'
  have:=h.mem_iff.mp hv
  simpa using this
theorem Li(h:PmK n p){i j:Nat}(hi:i<n)(hj:j<n)(hij:i≠j):p.getD i 0≠p.getD j 0:=by
 have nd:p.toList.Nodup:=h.symm.nodup List.nodup_range
 have sz:=Za h
 have key:∀a b:Nat,a<b→b<n→p.getD a 0≠p.getD b 0:=fun a b hab hb=>by
  have ha':a<p.toList.length:=by simp[sz];omega
  have hb':b<p.toList.length:=by simp[sz];omega
  have:=List.pairwise_iff_getElem.mp nd a b ha' hb' hab
  rw[xH,xH]
  have ea:p[a]?=some p.toList[a]:=by rw[getElem_toList];exact Array.getElem?_eq_getElem _
  have eb:p[b]?=some p.toList[b]:=by rw[getElem_toList];exact Array.getElem?_eq_getElem _
  rw[ea,eb]
  exact this
 rcases lt_or_ge i j with z|z
 ·exact key i j z hj
 ·exact(key j i (by omega) hi).symm
def Srt(κ:Nat→List Int)(p:Array Nat)(a:Nat):Prop:=∀i j,i<j→j<a→lxI (gK κ p i) (gK κ p j)=true
def Dsc(κ:Nat→List Int)(p:Array Nat)(a:Nat):Prop:=∀i j,i<j→j<a→lxI (gK κ p j) (gK κ p i)=true
variable(inj:∀i j,i<n→j<n→κ i=κ j→i=j)
include inj
theorem za2(h:PmK n p){i j:Nat}(hi:i<n)(hj:j<n)(hij:i≠j):gK κ p i≠gK κ p j:=fun e=>
 Li h hi hj hij (inj _ _ (vB h (by omega) i) (vB h (by omega) j) e)
theorem JI(h:PmK n p){a:Nat}(hs:Srt κ p a)(h1:1≤a)(ha:a<n)(e:lxI (gK κ p a) (gK κ p (a-1))=false):Srt κ p (a+1):=fun i j hij hj=>by
 rcases lt_or_ge j a with z|z
 ·exact hs i j hij z
 ·obtain rfl:j=a:=by omega
  have l:=Zd e (za2 inj h ha (by omega) (by omega))
  by_cases hi:i=j-1
  ·subst hi;exact l
  ·exact xX _ _ _ (hs i (j-1) (by omega) (by omega)) l
omit inj in
theorem Wv{a:Nat}(hs:Dsc κ p a)(h1:1≤a)(e:lxI (gK κ p a) (gK κ p (a-1))=true):Dsc κ p (a+1):=fun i j hij hj=>by
 rcases lt_or_ge j a with z|z
 ·exact hs i j hij z
 ·obtain rfl:j=a:=by omega
  by_cases hi:i=j-1
  ·subst hi;exact e
  ·exact xX _ _ _ e (hs i (j-1) (by omega) (by omega))
theorem Vr(hp:PmK n p):∀(f a:Nat),1≤a→a+f≤n→Srt κ p a →
  Pw (ltK κ) n (kas_asc p f a) fun m=>a≤m∧m≤a+f∧Srt κ p m∧(m<a+f→lxI (gK κ p m) (gK κ p (m-1))=true)
 |0,a,h1,h2,hs=>⟨le_refl _,le_refl _,hs,fun z=>absurd z (lt_irrefl _)⟩
 |f+1,a,h1,h2,hs=>by
  unfold kas_asc
  refine⟨vB hp (by omega) _,vB hp (by omega) _,?_⟩
  cases e:ltK κ (p.getD a 0) (p.getD (a-1) 0) with
  |true=>
   refine JY ?_
   exact⟨le_refl _,by omega,hs,fun _=>e⟩
  |false=>
   refine Mb ?_
   refine Pw.mono (fun m ⟨q1,q2,q3,q4⟩=>⟨by omega,by omega,q3,fun z=>q4 (by omega)⟩) _ (Vr hp f (a+1) (by omega) (by omega) (JI inj hp hs h1 (by omega) e))
theorem Uk(hp:PmK n p):∀(f a:Nat),1≤a→a+f≤n→Dsc κ p a →
  Pw (ltK κ) n (kas_desc f p a 0) fun r=>r.1=p∧r.2.2=0∧a≤r.2.1∧r.2.1≤a+f∧Dsc κ p r.2.1
 |0,a,h1,h2,hs=>⟨rfl,rfl,le_refl _,le_refl _,hs⟩
 |f+1,a,h1,h2,hs=>by
  unfold kas_desc
  refine⟨vB hp (by omega) _,vB hp (by omega) _,?_⟩
  cases e:ltK κ (p.getD a 0) (p.getD (a-1) 0) with
  |true=>
   refine JY ?_
   rw[if_neg (by omega)]
   refine Pw.mono (fun m ⟨q1,q2,q3,q4,q5⟩=>⟨q1,q2,by omega,by omega,q5⟩) _ (Uk hp f (a+1) (by omega) (by omega) (Wv hs h1 e))
  |false=>
   refine Mb ?_
   refine⟨vB hp (by omega) _,vB hp (by omega) _,?_⟩
   have e2:ltK κ (p.getD (a-1) 0) (p.getD a 0)=true:=Zd e (za2 inj hp (by omega) (by omega) (by omega))
   rw[e2]
   refine JY ?_
   exact⟨rfl,rfl,le_refl _,Nat.le_add_right _ _,hs⟩
omit inj in
theorem TL(hp:PmK n p){m:Nat}(hm:m≤n)(k:Nat):gK κ (kas_rev p 0 m) k=if k<m then gK κ p (m-1-k) else gK κ p k:=by
 unfold gK
 rw[xH,show(kas_rev p 0 m)[k]?=_ from getElem?_mirror_all (by rw[Za hp];exact hm) k]
 by_cases z:k<m
 ·rw[if_pos ⟨zero_le _,z⟩,if_pos z,← xH,zero_add]
 ·rw[if_neg (fun y=>z y.2),if_neg z,← xH]
omit inj in
theorem J2(hp:PmK n p)(i j:Nat):PmK n (kas_rev p i j):=(Array.perm_iff_toList_perm.mp (mirror_perm p i j ((j-i) / 2))).trans hp
omit inj in
theorem GU(hp:PmK n p){m:Nat}(hm:m≤n)(hd:Dsc κ p m):Srt κ (kas_rev p 0 m) m:=fun i j hij hj=>by
 rw[TL hp hm,TL hp hm,if_pos (by omega),if_pos hj]
 exact hd _ _ (by omega) (by omega)
theorem JF(hp:PmK n p){m:Nat}(h1:1≤m)(hm:m≤n)(hd:Dsc κ p m):Pw (ltK κ) n (kas_tail3 m n p) fun r=>PmK n r.2∧1≤r.1∧r.1≤n∧Srt κ r.2 r.1:=by
 unfold kas_tail3
 refine Pw.bind _ (Pw.mono (fun m' ⟨q1,q2,q3,q4⟩=>?_) _ (Vr inj (J2 hp 0 m) (n-m) m h1 (by omega) (GU hp hm hd)))
 exact⟨J2 hp 0 m,by omega,by omega,q3⟩
theorem Gn(hp:PmK n p)(hn:2≤n):Pw (ltK κ) n (kas_count n p) fun r=>PmK n r.2∧1≤r.1∧r.1≤n∧Srt κ r.2 r.1:=by
 unfold kas_count
 refine Pw.bind _ (Pw.mono (fun m ⟨q1,q2,q3,q4⟩=>?_) _ (Vr inj hp (n-1) 1 (le_refl _) (by omega) fun i j hij hj=>by omega))
 by_cases e:m=n
 ·rw[if_pos (by simpa using e)]
  exact⟨hp,by omega,by omega,q3⟩
 ·rw[if_neg (by simpa using e)]
  have l:=q4 (by omega)
  by_cases z:m > 1
  ·rw[if_pos z]
   refine⟨vB hp (by omega) _,vB hp (by omega) _,?_⟩
   have:ltK κ (p.getD 0 0) (p.getD (m-1) 0)=true:=q3 0 (m-1) (by omega) (by omega)
   rw[this]
   refine JY ?_
   exact⟨hp,by omega,by omega,q3⟩
  ·rw[if_neg z]
   obtain rfl:m=1:=by omega
   unfold kas_descPart
   have d1:Dsc κ p 1:=fun i j hij hj=>by omega
   refine Pw.bind _ (Pw.mono (fun r ⟨r1,r2,r3,r4,r5⟩=>?_) _ (Uk inj hp (n-(1+1)) (1+1) (by omega) (by omega) (Wv d1 (le_refl _) l)))
   rw[if_neg (by omega),r1]
   exact JF inj hp (by omega) (by omega) r5
theorem Zv(hp:PmK n p){k:Nat}(hk:k<n)(hs:Srt κ p k):∀(f l r:Nat),l≤r→r≤k→r-l≤f→(∀i,i<l→lxI (gK κ p i) (gK κ p k)=true)→(∀i,r≤i→i<k→lxI (gK κ p k) (gK κ p i)=true) →
  Pw (ltK κ) n (kas_place p k f l r) fun m=>m≤k∧(∀i,i<m→lxI (gK κ p i) (gK κ p k)=true)∧(∀i,m≤i→i<k→lxI (gK κ p k) (gK κ p i)=true)
 |0,l,r,h1,h2,h3,h4,h5=>by
  obtain rfl:l=r:=by omega
  exact⟨h2,h4,h5⟩
 |f+1,l,r,h1,h2,h3,h4,h5=>by
  unfold kas_place
  by_cases z:l ≥ r
  ·rw[if_pos z]
   obtain rfl:l=r:=by omega
   exact⟨h2,h4,h5⟩
  ·rw[if_neg z]
   refine⟨vB hp (by omega) _,vB hp (by omega) _,?_⟩
   cases e:ltK κ (p.getD k 0) (p.getD ((l+r) / 2) 0) with
   |true=>
    refine JY ?_
    refine Zv hp hk hs f l ((l+r) / 2) (by omega) (by omega) (by omega) h4 fun i hi hik=>?_
    by_cases q:i=(l+r) / 2
    ·subst q;exact e
    ·exact xX _ _ _ e (hs _ i (by omega) hik)
   |false=>
    refine Mb ?_
    refine Zv hp hk hs f ((l+r) / 2+1) r (by omega) (by omega) (by omega) (fun i hi=>?_) h5
    have e2:=Zd e (za2 inj hp hk (by omega) (by omega))
    by_cases q:i=(l+r) / 2
    ·subst q;exact e2
    ·exact xX _ _ _ (hs i _ (by omega) (by omega)) e2
omit inj in
theorem TM(hp:PmK n p){k l:Nat}(hk:k<n)(hl:l≤k)(i:Nat):gK κ (bubble p k (k-l)) i=if i=l then gK κ p k else if l<i∧i≤k then gK κ p (i-1) else gK κ p i:=by
 unfold gK
 rw[xH,getElem?_bubble (by rw[Za hp];exact hk) (k-l) (by omega) i,show k-(k-l)=l by omega]
 split
 ·rw[← xH]
 ·split
  ·rw[← xH]
  ·rw[← xH]
theorem Gu:∀(f:Nat) (p:Array Nat) (k:Nat),PmK n p→k+f=n→Srt κ p k→Pw (ltK κ) n (kas_bin f p k) fun q=>PmK n q∧Srt κ q n
 |0,p,k,hp,e,hs=>by
  obtain rfl:k=n:=by omega
  exact⟨hp,hs⟩
 |f+1,p,k,hp,e,hs=>by
  unfold kas_bin
  refine Pw.bind _ (Pw.mono (fun l ⟨q1,q2,q3⟩=>?_) _ (Zv inj hp (by omega) hs k 0 k (zero_le _) (le_refl _) (by omega) (fun i hi=>by omega) (fun i hi hik=>by omega)))
  refine Gu f _ (k+1) ((Array.perm_iff_toList_perm.mp (bubble_perm p k (k-l))).trans hp) (by omega) fun i j hij hj=>?_
  rw[TM hp (by omega) q1,TM hp (by omega) q1]
  by_cases a1:i=l
  ·rw[if_pos a1,if_neg (by omega),if_pos (by omega)]
   exact q3 _ (by omega) (by omega)
  ·rw[if_neg a1]
   by_cases a2:l<i∧i≤k
   ·rw[if_pos a2,if_neg (by omega),if_pos (by omega)]
    exact hs _ _ (by omega) (by omega)
   ·rw[if_neg a2]
    by_cases b1:j=l
    ·rw[if_pos b1];exact q2 _ (by omega)
    ·rw[if_neg b1]
     by_cases b2:l<j∧j≤k
     ·rw[if_pos b2]
      by_cases c:i=j-1
      ·omega
      ·exact hs _ _ (by omega) (by omega)
     ·rw[if_neg b2];exact hs _ _ hij (by omega)
theorem G0(hn:2≤n):Pw (ltK κ) n (kas_sort n) fun q=>PmK n q∧Srt κ q n:=by
 unfold kas_sort
 refine Pw.bind _ (Pw.mono (fun r ⟨q1,q2,q3,q4⟩=>?_) _ (Gn inj (p:=List.toArray (List.range n)) (by show(List.toArray (List.range n)).toList.Perm _;simp) hn))
 by_cases z:r.1<n
 ·rw[if_pos z,Nat.max_eq_left q2]
  exact Gu inj _ _ _ q1 (by omega) q4
 ·rw[if_neg z]
  obtain e:r.1=n:=by omega
  rw[e] at q4
  exact⟨q1,q4⟩
end
def ZU{α:Type}(x:List Int×α):List (List Int×α)→List (List Int×α)
 |[]=>[x]
 |y::r=>if lxI x.1 y.1=true then x::y::r else y::ZU x r
def xK{α:Type}:List (List Int×α)→List (List Int×α)
 |[]=>[]
 |x::r=>ZU x (xK r)
theorem jy{α:Type}(x:List Int×α):∀l,(ZU x l).Perm (x::l)
 |[]=>List.Perm.refl _
 |y::r=>by
  unfold ZU
  split
  ·exact List.Perm.refl _
  ·exact((jy x r).cons y).trans (List.Perm.swap x y r)
theorem wn{α:Type}:∀l:List (List Int×α),(xK l).Perm l
 |[]=>List.Perm.refl _
 |x::r=>(jy x _).trans ((wn r).cons x)
theorem Wk{α:Type}(x:List Int×α):∀l:List (List Int×α),l.Pairwise (fun a b=>lxI a.1 b.1=true)→(∀y∈l,y.1≠x.1)→(ZU x l).Pairwise fun a b=>lxI a.1 b.1=true
 |[],_,_=>by unfold ZU;simp
 |y::r,h,hd=>by
  unfold ZU
  obtain⟨h1,h2⟩:=pairwise_cons.mp h
  split
  ·rename_i z
   refine pairwise_cons.mpr ⟨fun a ha=>?_,h⟩
   rcases mem_cons.mp ha with rfl|ha
   ·exact z
   ·exact xX _ _ _ z (h1 a ha)
  ·rename_i z
   have z':lxI y.1 x.1=true:=Zd (by simpa using z) (hd y mem_cons_self).symm
   refine pairwise_cons.mpr ⟨fun a ha=>?_,Wk x r h2 fun a ha=>hd a (mem_cons_of_mem _ ha)⟩
   rcases mem_cons.mp ((jy x r).mem_iff.mp ha) with rfl|ha
   ·exact z'
   ·exact h1 a ha
theorem jg{α:Type}:∀l:List (List Int×α),(l.map (·.1)).Nodup→(xK l).Pairwise fun a b=>lxI a.1 b.1=true
 |[],_=>by unfold xK;exact List.Pairwise.nil
 |x::r,h=>by
  unfold xK
  rw[map_cons,nodup_cons] at h
  refine Wk x _ (jg r h.2) fun y hy e=>h.1 ?_
  rw[← e]
  exact mem_map.mpr ⟨y,(wn r).mem_iff.mp hy,rfl⟩
theorem jk{α:Type}{r:α→α→Prop}(as:∀a b,r a b→r b a→False):∀{l m:List α},l.Perm m→l.Pairwise r→m.Pairwise r→l=m
 |[],m,p,_,_=>(List.Perm.nil_eq p)
 |a::l,[],p,_,_=>by have:=p.length_eq;simp at this
 |a::l,b::m,p,h1,h2=>by
  obtain⟨x1,x2⟩:=pairwise_cons.mp h1
  obtain⟨y1,y2⟩:=pairwise_cons.mp h2
  by_cases e:a=b
  ·subst e
   rw[jk as ((List.perm_cons a).mp p) x2 y2]
  ·have ha:a∈b::m:=p.mem_iff.mp mem_cons_self
   have hb:b∈a::l:=p.mem_iff.mpr mem_cons_self
   rcases mem_cons.mp ha with z|z
   ·exact absurd z e
   ·rcases mem_cons.mp hb with w|w
    ·exact absurd w.symm e
    ·exact(as a b (x1 b w) (y1 a z)).elim
theorem WS{α:Type}{l m:List (List Int×α)}(p:l.Perm m)(h:l.Pairwise fun a b=>lxI a.1 b.1=true)(nd:(m.map (·.1)).Nodup):l=xK m:=
 jk (fun a b x y=>by rw[YC x] at y;cases y) (p.trans (wn m).symm) h (jg m nd)
theorem JL{α:Type}{ks:List (List Int)}{ds:List α}{q:Array Nat}{d:α}(hl:ks.length=ds.length)(nd:ks.Nodup)(hp:q.toList.Perm (List.range ds.length))(hs:Srt (fun i=>ks.getD i []) q ds.length) :
  q.toList.map (fun i=>ds.getD i d)=(xK (ks.zip ds)).map (·.2):=by
 have hz:(ks.zip ds).map (·.1)=ks:=List.map_fst_zip (by omega)
 have e0:(List.range ds.length).map (fun i=>(ks.getD i [],ds.getD i d))=ks.zip ds:=by
  apply ext_getElem
  ·simp[hl]
  ·intro i h1 h2
   have a1:i<ds.length:=by simpa using h1
   have a2:i<ks.length:=by omega
   simp[a1,a2]
 have key:q.toList.map (fun i=>(ks.getD i [],ds.getD i d))=xK (ks.zip ds):=by
  refine WS (by rw[← e0];exact hp.map _) ?_ (by rw[hz];exact nd)
  rw[pairwise_map,List.pairwise_iff_getElem]
  intro i j hi hj hij
  have sz:q.size=ds.length:=Za hp
  have:=hs i j hij (by simpa[sz] using hj)
  unfold gK at this
  rw[xH,xH] at this
  have ea:q[i]?=some q.toList[i]:=by rw[getElem_toList];exact Array.getElem?_eq_getElem _
  have eb:q[j]?=some q.toList[j]:=by rw[getElem_toList];exact Array.getElem?_eq_getElem _
  rw[ea,eb] at this
  exact this
 rw[← key,map_map]
 rfl
open PySem.W
def KTs(h:Heap):List Value→List (List Int)→Prop
 |[],[]=>True
 |v::vs,k::ks=>(∃a o its n,v=Value.ref a∧h.get? a=some o∧o.cls=.type "tuple" ∧ o.data=.seq its n∧IntsAre its.toList k∧k≠[])∧KTs h vs ks
 |_,_=>False
theorem KTs.len{h:Heap}:∀{vs:List Value} {ks:List (List Int)},KTs h vs ks→vs.length=ks.length
 |[],[],_=>rfl
 |_::vs,_::ks,r=>by rw[length_cons,length_cons,KTs.len r.2]
 |[],_::_,r=>r.elim
 |_::_,[],r=>r.elim
theorem KTs.get{h:Heap}:∀{vs:List Value} {ks:List (List Int)} {i:Nat},KTs h vs ks→i<ks.length→∃a o its n,vs.getD i Value.none=Value.ref a∧h.get? a=some o∧o.cls=.type "tuple" ∧ o.data=.seq its n∧IntsAre its.toList (ks.getD i [])∧ks.getD i []≠[]
 |[],[],_,_,hi=>by simp at hi
 |_::vs,_::ks,0,r,_=>by simpa using r.1
 |_::vs,_::ks,i+1,r,hi=>by
  obtain⟨a,o,its,n,q⟩:=KTs.get (i:=i) r.2 (by simpa using hi)
  exact⟨a,o,its,n,by simpa using q⟩
 |[],_::_,_,r,_=>r.elim
 |_::_,[],_,r,_=>r.elim
theorem KTs.firsts{h:Heap}:∀{vs:List Value} {ks:List (List Int)},KTs h vs ks→∃fs:List Value,KatTups h vs fs∧fs.length=vs.length∧∀v∈fs,∃n t,v=Value.int n t
 |[],[],_=>⟨[],KatTups.nil,rfl,fun _ z=>nomatch z⟩
 |v::vs,k::ks,⟨⟨a,o,its,n,e1,e2,e3,e4,e5,e6⟩,r⟩=>by
  obtain⟨fs,q1,q2,q3⟩:=KTs.firsts r
  subst e1
  have:∃i t,its[0]?=some (Value.int i t):=by
   obtain⟨l⟩:=its
   cases e5 with
   |nil=>exact absurd rfl e6
   |cons i t _=>exact⟨i,t,rfl⟩
  obtain⟨i,t,h0⟩:=this
  refine⟨_,KatTups.cons e2 e3 e4 h0 q1,by simp[q2],fun v hv=>?_⟩
  rcases mem_cons.mp hv with rfl|hv
  ·exact⟨_,_,rfl⟩
  ·exact q3 v hv
 |[],_::_,r=>r.elim
 |_::_,[],r=>r.elim
section
variable{prog:Program}{w:World}{A:Around}{E:Value→Shared→Prop}{s:Shared}
theorem YH{vs:List Value}{ks:List (List Int)}{Q:SortKind→Shared→Prop}(h:KTs s.heap vs ks)(hn:0<vs.length)(q:Q (tuples' true) s):wpAny (model prog w) A (keyKind' vs.toArray) Q E s:=by
 obtain⟨fs,q1,q2,q3⟩:=h.firsts
 refine kat_kind (T:=.type "int") q1 (by omega) (fun v hv=>?_) (by decide) q
 obtain⟨i,t,rfl⟩:=q3 v hv
 exact Looks.now
theorem Wc{Q:Bool→Shared→Prop}{fin:Bool}:∀{xs ys:List Int} {us ws:List Value} (i:Nat),IntsAre us xs→IntsAre ws ys→fin=decide (xs.length<ys.length)→Q (lxI xs ys) s→KatLex prog w A true fin Q (us.zip ws) i s
 |_,_,_,_,i,.nil,.nil,e,q=>by
  have e:fin=false:=by simpa using e
  subst e
  exact kat_nil q
 |_,_,_,_,i,.nil,.cons _ _ _,e,q=>by
  have e:fin=true:=by simpa using e
  subst e
  exact kat_nil q
 |_,_,_,_,i,.cons _ _ _,.nil,e,q=>by
  have e:fin=false:=by simpa using e
  subst e
  exact kat_nil q
 |_,_,_,_,i,.cons a t r1,.cons b u r2,e,q=>by
  rw[lxI] at q
  refine kat_cons (wpAny_eqBool_int ?_)
  by_cases z:a=b
  ·subst z
   rw[if_pos rfl] at q
   rw[beq_self_eq_true]
   exact kat_yes (Wc (i+1) r1 r2 (by rw[e];simp) q)
  ·rw[if_neg z] at q
   rw[show(a==b)=false by simpa using z]
   refine kat_no ?_
   cases hi:(true&&i==0) with
   |true=>exact oneLt_int q
   |false=>exact kat_one _ _ (PyProof.Rows.lt_int (show PySem.W.BoolBack Q (.bool (decide (a<b))) s from q))
theorem WE{vs:List Value}{ks:List (List Int)}{n:Nat}(h:KTs s.heap vs ks)(hn:ks.length=n)(i j:Nat)(C:Bool→Shared→Prop)(hi:i<n)(hj:j<n)(q:C (ltK (fun i=>ks.getD i []) i j) s):kas_ask prog w A (tuples' true) vs i j C s:=by
 obtain⟨a,o,its,m,e1,e2,e3,e4,e5,e6⟩:=h.get (i:=i) (by omega)
 obtain⟨a',o',its',m',f1,f2,f3,f4,f5,f6⟩:=h.get (i:=j) (by omega)
 unfold kas_ask
 rw[e1,f1]
 refine kat_lt e2 e4 f2 f4 (Wc 0 e5 f5 ?_ q)
 have l1:=e5.length
 have l2:=f5.length
 rw[length_toList] at l1 l2
 rw[l1,l2]
theorem JR{vs us:List Value}{ks:List (List Int)}{Q:SortSt→Shared→Prop}(h:KTs s.heap vs ks)(hl:vs.length=us.length)(h2:2≤us.length)(h64:us.length<64)(nd:ks.Nodup)
  (q:∀(p:Array Nat) (st:SortSt),PmK us.length p→Srt (fun i=>ks.getD i []) p us.length→(arrOf st).map (·.2)=List.toArray (p.toList.map fun i=>us.getD i Value.none)→failedOf st=none→Q st s) :
  wpAny (model prog w) A ((sortRuns').run (SortSt.mk' (tuples' true) (vs.toArray.zip us.toArray) #[] 7 none)) (fun r s'=>Q r.2 s') E s:=by
 have hk:ks.length=us.length:=by rw[← h.len,hl]
 refine kat_run (G:=fun p s'=>s'=s∧PmK us.length p∧Srt (fun i=>ks.getD i []) p us.length) hl h2 h64 (fun p st' s' h1 h3 h4 h5=>?_) ?_
 ·obtain⟨rfl,h5,h6⟩:=h5
  exact q p st' h5 h6 (kat_snds hl h3) h4
 ·have inj:∀i j,i<us.length→j<us.length→ks.getD i []=ks.getD j []→i=j:=fun i j hi hj e=>by
   have key:∀a b:Nat,a<b→b<us.length→ks.getD a []≠ks.getD b []:=fun a b hab hb=>by
    have:=List.pairwise_iff_getElem.mp nd a b (by omega) (by omega) hab
    have ea:ks.getD a []=ks[a]'(by omega):=by simp[show a<ks.length by omega]
    have eb:ks.getD b []=ks[b]'(by omega):=by simp[show b<ks.length by omega]
    rw[ea,eb];exact this
   rcases Nat.lt_trichotomy i j with z|z|z
   ·exact absurd e (key i j z hj)
   ·exact z
   ·exact absurd e.symm (key j i z hi)
  exact Pw.wp (fun i j C hi hj=>WE h hk i j C hi hj) (fun p hp=>⟨rfl,hp⟩) _ (G0 (κ:=fun i=>ks.getD i []) inj h2)
end
def ZQ:List D→Option (List Int)
 |[]=>some []
 |.int i::r=>(ZQ r).map (i :: ·)
 |_=>none
def MU:D→Option (List Int)
 |.tup ds=>ZQ ds
 |_=>none
theorem Wh:∀{ds:List D} {ns:List Int},ZQ ds=some ns→ds=ns.map D.int
 |[],ns,h=>by cases h;rfl
 |.int i::r,ns,h=>by
  simp only[ZQ] at h
  cases q:ZQ r with
  |none=>rw[q] at h;cases h
  |some m=>rw[q] at h;cases h;rw[Wh q];rfl
 |.non::_,_,h=>by cases h
 |.bl _::_,_,h=>by cases h
 |.str _::_,_,h=>by cases h
 |.lst _::_,_,h=>by cases h
 |.tup _::_,_,h=>by cases h
 |.scr _::_,_,h=>by cases h
 |.raw _::_,_,h=>by cases h
 |.exc _::_,_,h=>by cases h
 |.dct _ _::_,_,h=>by cases h
theorem MT{d:D}{ns:List Int}(h:MU d=some ns):d=.tup (ns.map D.int):=by
 cases d <;> first|cases h|skip
 rename_i ds
 rw[Wh (ds:=ds) h]
def uW:List D→Option (List (List Int))
 |[]=>some []
 |d::r=>match MU d,uW r with
  |some k,some ks=>some (k::ks)
  |_,_=>none
theorem ZM:∀{ds:List D} {ks:List (List Int)},uW ds=some ks→ds=ks.map fun k=>D.tup (k.map D.int)
 |[],ks,h=>by cases h;rfl
 |d::r,ks,h=>by
  simp only[uW] at h
  cases q:MU d with
  |none=>rw[q] at h;cases h
  |some k=>
   cases q2:uW r with
   |none=>rw[q,q2] at h;cases h
   |some ks'=>
    rw[q,q2] at h;cases h
    rw[MT q,ZM q2];rfl
section
variable[Tabs]{X:Cx}{pins:List (Addr×Obj)}{σ:St}{F H:Hp}{s:Shared}
theorem ZP:∀{ns:List Int} {vs:List V} {us:List Value},Reps X.K F (ns.map D.int) vs→Vals vs us→IntsAre us ns
 |[],_,_,r,v=>by
  simp only[map_nil,Reps] at r;subst r
  cases v;exact .nil
 |n::ns,_,_,r,v=>by
  simp only[map_cons,Reps] at r
  obtain⟨x,xs,rfl,rx,rr⟩:=r
  simp only[Rep] at rx
  subst rx
  cases v with
  |cons e t=>
   rename_i u us
   obtain⟨t',e⟩:∃t',u=Value.int n t':=e
   subst e
   exact .cons _ _ (ZP rr t)
theorem Va(I:Inv X pins σ H s)(fh:Same F H):∀{ks:List (List Int)} {vs:List V} {us:List Value},Reps X.K F (ks.map fun k=>D.tup (k.map D.int)) vs→Vals vs us→(∀k∈ks,k≠[])→KTs s.heap us ks
 |[],_,_,r,v,_=>by
  simp only[map_nil,Reps] at r;subst r
  cases v;exact trivial
 |k::ks,_,_,r,v,ne=>by
  simp only[map_cons,Reps] at r
  obtain⟨x,xs,rfl,rx,rr⟩:=r
  simp only[Rep] at rx
  obtain⟨a,ws,rfl,q,t⟩:=rx
  obtain⟨its,rv,⟨o,eo,hc,n,hd⟩,hz⟩:=I.tuple (Same.seqT fh q)
  cases v with
  |cons e tl=>
   rename_i u us
   have e:u=Value.ref a:=e
   subst e
   exact⟨⟨a,o,its.toArray,n,rfl,eo,hc,hd,by simpa using ZP t rv,ne k mem_cons_self⟩,Va I fh rr tl fun k hk=>ne k (mem_cons_of_mem _ hk)⟩
theorem Reps.pick{K:PySem.W.Frag}{ds:List D}{vs:List V}(r:Reps K F ds vs):∀(q:List Nat),(∀i∈q,i<ds.length)→Reps K F (q.map fun i=>ds.getD i .non) (q.map fun i=>vs.getD i .non)
 |[],_=>Reps.nil
 |i::q,h=>by
  have hi:=h i mem_cons_self
  obtain⟨v,e1,e2⟩:=r.get (i:=i) (getElem?_eq_getElem hi)
  have z1:ds.getD i .non=ds[i]:=by simp[hi]
  have z2:vs.getD i .non=v:=by simp[e1]
  rw[map_cons,map_cons,z1,z2]
  exact Reps.cons e2 (Reps.pick r q fun j hj=>h j (mem_cons_of_mem _ hj))
theorem Yn{vs:List V}{us:List Value}(r:Vals vs us):∀(q:List Nat),(∀i∈q,i<vs.length)→Vals (q.map fun i=>vs.getD i .non) (q.map fun i=>us.getD i .none)
 |[],_=>.nil
 |i::q,h=>by
  have hi:=h i mem_cons_self
  obtain⟨u,e1,e2⟩:=r.get (i:=i) (getElem?_eq_getElem hi)
  have z1:vs.getD i .non=vs[i]:=by simp[hi]
  have z2:us.getD i .none=u:=by simp[e1]
  rw[map_cons,map_cons,z1,z2]
  exact .cons e2 (Yn r q fun j hj=>h j (mem_cons_of_mem _ hj))
end
open PySem.W
section
variable{X:Cx}{pins:List (Addr×Obj)}{σ:St}{F H:Hp}{τ:DS}{s:Shared}{Q:VK}{E:Value→Shared→Prop}
theorem Inv.relist(I:Inv X pins σ H s){a:Addr}{xs ys:List V}{us ws:List Value}{n:Nat}{g:Array Value→Array Value}(e:H a=some (.lst xs))(o:s.heap.get? a=some (seqObj "list" us.toArray n))(hg:g us.toArray=ws.toArray)(r:Vals ys ws)(hz:ys.length≤sizeLine) :
  Inv X pins σ (upd H a (.lst ys)) { s with heap:=s.heap.update a (Obj.mapSeq g) }:=by
 have h1:=get?_update_seq o g
 rw[hg] at h1
 exact I.write (t':=s.toks) (by rw[e];exact trivial) (.inl rfl) (fun b u hb q=>by rw[Heap.get?_update_ne _ _ _ _ hb];exact q) ⟨_,h1⟩ ⟨hz,ws,_,r,h1⟩
theorem Inv.settle(I:Inv X (pins++[p]) σ H s){D:Addr}{n:Nat}{ys:List V}{ws:List Value}{g:Array Value→Array Value}(hp:p=(D,seqObj "list" #[] n))(hg:g #[]=ws.toArray)(r:Vals ys ws)(hz:ys.length≤sizeLine)
  (h0:X.s₀.heap.objs.size≤D) (hc:∀x c,X.env.cells.lookup x=some c→c≠D) (hn:∀q∈X.pn++pins,q.1≠D):Inv X pins σ (upd H D (.lst ys)) { s with heap:=s.heap.update D (Obj.mapSeq g) }:=by
 subst hp
 obtain⟨e,nD,neL,nf,_⟩:=I.pin (D,seqObj "list" #[] n) (by simp)
 have J:Inv X pins σ H s:=I.pins_of fun q hq=>I.pin q (mem_append_right _ (mem_append_left _ hq))
 have h1:=get?_update_seq e g
 rw[hg] at h1
 have kp:∀b u,b≠D→s.heap.get? b=some u→(s.heap.update D (Obj.mapSeq g)).get? b=some u:=fun b u hb q=>by rw[Heap.get?_update_ne _ _ _ _ hb];exact q
 refine J.step (g':=s.gens) (d':=s.drawn) (t':=s.toks) (ch:=[D]) (fun b hb=>?_) (fun b o _ _ hb q _=>kp b o (by simpa using hb) q) (fun b o _ _ hb q _=>⟨o.slots,kp b o (by simpa using hb) q⟩) (fun b o hb _ q=>by rw[zn (by simpa using hb)];exact q)
  (fun b o hb q=>⟨o,kp b o (by simpa using hb) q⟩) (fun b xs q=>by rw[zn (yh q nD)];exact q) (fun b o u q=>by rw[zn (yh q nD)];exact q) (fun b ps q=>⟨#[],by rw[zn (yh q nD),q];simp⟩) (fun m hm=>?_) ?_ J.bare
 ·have:b=D:=by simpa using hb
  subst this
  exact⟨.inr h0,neL,hc,hn⟩
 ·obtain⟨o,es,ep,ho,r'⟩:=hm
  exact⟨o,es,ep,kp _ o (Ne.symm neL) ho,r'⟩
 ·intro b u q
  by_cases hb:b=D
  ·subst hb
   rw[zt] at q;cases q
   exact⟨hz,ws,_,r,h1⟩
  ·rw[zn hb] at q
   refine(J.hok b u q).stay (fun c v hc' q'=>kp c v ?_ q') (fun c q'=>by rw[zn (yh q' nD)];exact q') fun c xs q'=>by rw[zn (yh q' nD)];exact q'
   rcases hc' with z|z
   ·rw[z];exact hb
   ·exact yh z nD
theorem Ut:Vals ([]:List V) []:=.nil
theorem Vx{D kS:Addr}{e1:Nat}{st:SortSt}{kvs ovs:List V}{out:List Value}{P:PySem.Fin→Shared→Prop}{A:Around}(I:Inv X (pins++[(D,seqObj "list" #[] e1)]) σ H s)(hk:H kS=some (.lst kvs))(hout:(arrOf st).map (·.2)=List.toArray out)(hf:failedOf st=none)(hz:out.length<64)
  (r:Vals ovs out) (hkz:kvs.length≤sizeLine) (h0:X.s₀.heap.objs.size≤D) (hc:∀x c,X.env.cells.lookup x=some c→c≠D) (hn:∀q∈X.pn++pins,q.1≠D)
  (h:∀s',Inv X pins σ (upd (upd H kS (.lst [])) D (.lst ovs)) s'→P (.done (.ret .none)) s'):wpAny (model X.prog X.w) A (ksk_tail D false e1 (.ref kS) st) P E s:=by
 obtain⟨z1,its,n,rk,ek⟩:=I.hok kS _ hk
 have lk:its.length≤sizeLine:=by rw[← rk.length];exact hkz
 have I1:=Inv.relist (g:=fun _=>#[]) I hk ek (ws:=[]) rfl Ut (zero_le _)
 obtain⟨eD,nD,_⟩:=I1.pin (D,seqObj "list" #[] e1) (by simp)
 unfold ksk_tail
 try dsimp only
 refine wpAny_bind (listUpdate_at ek rfl ?_ (by rw[size_toArray];exact lk) (zero_le _))
 refine wpAny_bind (wpAny_letGo ?_)
 refine wpAny_bind (seqEpoch_at eD rfl ?_)
 refine wpAny_bind (listUpdate_at eD rfl ?_ (zero_le _) ?_)
 ·rw[hf]
  simp only[bne_self_eq_false,Bool.false_eq_true,if_false]
  exact wpAny_pure (h _ (Inv.settle I1 rfl (ws:=out) hout r (by rw[r.length];exact le_of_lt (yT (by omega))) h0 hc hn))
 ·simp only[Bool.false_eq_true,if_false]
  rw[hout,size_toArray]
  exact le_trans (le_of_lt (yT (by omega))) (le_succ _)
theorem WQ:∀{kz:List (List Int)} {ds:List D},kz.length=ds.length→ds.length<2→(xK (kz.zip ds)).map (·.2)=ds
 |[],[],_,_=>rfl
 |[a],[b],_,_=>rfl
 |[],_::_,h,_=>by simp at h
 |[_],[],h,_=>by simp at h
 |[_],_::_::_,h,_=>by simp at h
 |_::_::_,ds,h,h2=>by simp at h;omega
theorem za8{Da kS:Addr}{e1:Nat}{kvs vs:List V}{us:List Value}{ds:List D}{kz:List (List Int)}{P:PySem.Fin→Shared→Prop}{A:Around}(I:Inv X (pins++[(Da,seqObj "list" #[] e1)]) σ H s)(hk:H kS=some (.lst kvs)){ks:List Value}{n:Nat}(ek:s.heap.get? kS=some (seqObj "list" ks.toArray n))(rk:Vals kvs ks)
  (fh:Same F H) (kr:Reps X.K F (kz.map fun k=>FD.D.tup (k.map FD.D.int)) kvs) (ne:∀k∈kz,k≠[]) (nd:kz.Nodup) (hl:kz.length=ds.length) (rs:Reps X.K F ds vs) (rv:Vals vs us) (hz:us.length<64)
  (h0:X.s₀.heap.objs.size≤Da) (hc:∀x c,X.env.cells.lookup x=some c→c≠Da) (hn:∀q∈X.pn++pins,q.1≠Da)
  (h:∀s' ovs,Inv X pins σ (upd (upd H kS (.lst [])) Da (.lst ovs)) s'→Reps X.K F ((xK (kz.zip ds)).map (·.2)) ovs→P (.done (.ret .none)) s'):wpAny (model X.prog X.w) A (ksk_end Da false us.toArray e1 (.ref kS) ks.toArray) P E s:=by
 have l1:ds.length=us.length:=by rw[rs.length,rv.length]
 have l2:ks.length=us.length:=by rw[← rk.length,← kr.length,length_map,hl,l1]
 have hkz:kvs.length≤sizeLine:=by rw[rk.length,l2];exact le_of_lt (yT (by omega))
 unfold ksk_end
 try dsimp only
 simp only[Bool.false_eq_true,if_false]
 by_cases h2:us.length<2
 ·have h2':us.toArray.size<2:=by rw[size_toArray];exact h2
  rw[if_pos h2',if_pos h2']
  refine wpAny_bind (wpAny_pure ?_)
  rw[StateT.run_pure]
  refine wpAny_bind (wpAny_pure ?_)
  try dsimp only
  refine Vx (out:=us) (ovs:=vs) I hk ?_ rfl hz rv hkz h0 hc hn fun s' J=>h s' vs J ?_
  ·show((ks.toArray.zip us.toArray).map (·.2))=us.toArray
   apply Array.toList_inj.mp
   rw[Array.toList_map,ksk_zip]
   exact List.map_snd_zip (by simp[l2])
  ·rw[WQ hl (by omega)];exact rs
 ·have h2':¬ us.toArray.size<2:=by rw[size_toArray];exact h2
  rw[if_neg h2',if_neg h2']
  have kt:=Va I fh kr rk ne
  refine wpAny_bind (YH kt (by omega) ?_)
  refine wpAny_bind (JR (Q:=fun st s'=>wpAny (model X.prog X.w) A (ksk_tail Da false e1 (.ref kS) st) P E s') kt l2 (by omega) hz nd fun p st h3 h4 h5 h6=>?_)
  have hp:∀i∈p.toList,i<us.length:=fun i hi=>by simpa using h3.mem_iff.mp hi
  refine Vx (ovs:=p.toList.map fun i=>vs.getD i .non) I hk h5 h6 ?_ (Yn rv _ fun i hi=>by rw[rv.length];exact hp i hi) hkz h0 hc hn fun s' J=>h s' _ J ?_
  ·rw[length_map,h3.length_eq,length_range];exact hz
  ·rw[← JL (q:=p) (d:=.non) hl nd (by rw[l1];exact h3) (by rw[l1];exact h4)]
   exact Reps.pick rs _ fun i hi=>by rw[l1];exact hp i hi
end
open PySem.W
section
variable{X:Cx}{pins:List (Addr×Obj)}{σ:St}{F H:Hp}{τ:DS}{s:Shared}{Q:VK}{E:Value→Shared→Prop}
theorem WP{l f:Addr}{ds:List D}{vs:List V}{kz:List (List Int)}(I:Inv X pins σ H s)(fh:Same F H)(hl:F l=some (.lst vs))(rs:Reps X.K F ds vs)(h64:ds.length<64)(hk:kz.length=ds.length)(nd:kz.Nodup)(ne:∀k∈kz,k≠[])
  (key:∀(i:Nat) (d:D) (k:List Int),ds[i]?=some d→kz[i]?=some k→∀(pins':List (Addr×Obj)) (s':Shared) (F' H':Hp) (v:V) (u:Value) (Q':VK),Inv X pins' σ H' s'→(∀p∈pins,p∈pins')→Ext F H F' H'→Rep X.K F' d v→RelV v u →
   (∀kv F'' H'',Ext F' H' F'' H''→Rep X.K F'' (.tup (k.map D.int)) kv→Q' kv H'')→wpAny (model X.prog X.w) X.A.in1.in1 (call (.ref f) [u]) (EP X pins' σ Q') (fun _ _=>False) s')
  (hQ:∀Da F' H',Ext F H F' H'→Rep X.K F' (.lst ((xK (kz.zip ds)).map (·.2))) (.ref Da)→Q (.ref Da) H') :
  wpAny (model X.prog X.w) X.A (call (.builtin "sorted") [.ref l] [(Str.ofString "key", .ref f)]) (EP X pins σ Q) E s:=by
 obtain⟨us,rv,⟨o,nn,eo,hc,hd0,hd⟩,hz⟩:=I.list (SqL.of (K:=X.K) (fh _ _ hl))
 have hil:s.heap.IsList l us.toArray:=⟨o,eo,hc,nn,hd⟩
 have l1:ds.length=us.length:=by rw[rs.length,rv.length]
 have sz:us.length≤sizeLine:=le_of_lt (yT (by omega))
 refine call_function_entry_kw kind_sorted plain_sorted entry_sorted (ksk_s1 _ _) ?_
 unfold Builtin.«sorted»
 refine wpAny_bind (m:=checkCount "sorted" 1 1 _) (wpAny_pure ?_)
 refine wpAny_bind (collect_list hil ?_ sz)
 refine wpAny_bind (wpAny_newList ?_ sz)
 have keep1:∀b u,s.heap.get? b=some u→((s.heap.push (seqObj "list" #[] 0)).update s.heap.objs.size (Obj.mapSeq (· ++ us.toArray))).get? b=some u:=fun b u q=>by
  have hb:b<s.heap.objs.size:=Heap.lt_size q
  rw[Heap.get?_update_ne _ _ _ _ (ne_of_lt hb),Heap.get?_push_ne _ _ _ (ne_of_lt hb)]
  exact q
 have size1:s.heap.objs.size≤((s.heap.push (seqObj "list" #[] 0)).update s.heap.objs.size (Obj.mapSeq (· ++ us.toArray))).objs.size:=by rw[Heap.size_update,size_push'];omega
 generalize hh1:(s.heap.push (seqObj "list" #[] 0)).update s.heap.objs.size (Obj.mapSeq (· ++ us.toArray))=h1 at keep1 size1
 have hD:(h1.push (seqObj "list" us.toArray 0)).get? h1.objs.size=some (seqObj "list" us.toArray 0):=Heap.get?_push_size _ rfl
 have keep2:∀b u,s.heap.get? b=some u→(h1.push (seqObj "list" us.toArray 0)).get? b=some u:=fun b u q=>Heap.get?_push_of_some _ (keep1 b u q)
 generalize hDa:h1.objs.size=Da at hD size1
 have neD:∀b u,s.heap.get? b=some u→b≠Da:=fun b u q=>ne_of_lt (lt_of_lt_of_le (Heap.lt_size q) size1)
 generalize hh2:h1.push (seqObj "list" us.toArray 0)=h2 at hD keep2
 have ltD:Da<h2.objs.size:=Heap.lt_size hD
 refine wpAny_bind (wpAny_holding (wpAny_call_entry_kw (rest:=[]) slot_list_sort ⟨_,hD,rfl⟩ entry_list_sort ?_ (ksk_l1 _ _)))
 show wpAny (model X.prog X.w) X.A.in1.in1 (Builtin.«list.sort» ⟨[.ref Da],[(Str.ofString "key", .ref f)]⟩) _ _ _
 rw[ksk_t1 f Da]
 unfold ksk_tree
 refine wpAny_bind (listItems_at hD rfl ?_)
 refine wpAny_bind (listUpdate_at hD rfl ?_ (by rw[size_toArray];exact sz) (zero_le _))
 have keep3:∀b u,s.heap.get? b=some u→(h2.update Da (Obj.mapSeq fun _=>(#[]:Array Value))).get? b=some u:=fun b u q=>by
  rw[Heap.get?_update_ne _ _ _ _ (neD b u q)];exact keep2 b u q
 obtain⟨e1,hD3⟩:∃e1,(h2.update Da (Obj.mapSeq fun _=>(#[]:Array Value))).get? Da=some (seqObj "list" #[] e1):=⟨_,get?_update_seq hD fun _=>#[]⟩
 generalize h2.update Da (Obj.mapSeq fun _=>(#[]:Array Value))=h3 at keep3 hD3
 refine wpAny_bind (seqEpoch_at hD3 rfl ?_)
 refine wpAny_bind (wpAny_newTuple ?_ (by show us.length≤sizeLine;exact sz))
 refine wpAny_bind (wpAny_newList ?_ (zero_le _))
 refine wpAny_holding ?_
 have hDa0:s.heap.objs.size≤Da:=size1
 have nH:H Da=none:=I.hok.fresh hDa0
 have neL:Da≠X.env.locals:=(ne_of_lt (lt_of_lt_of_le I.lt hDa0)).symm
 have pinD:∀q∈X.pn++pins,q.1≠Da:=fun q hq=>neD _ _ (I.pin q hq).1
 have cellD:∀x c,X.env.cells.lookup x=some c→c≠Da:=fun x c e=>by
  obtain⟨v,oc,hoc,_⟩:=I.cell x c e
  exact neD _ _ hoc
 have I1:Inv X pins σ H { s with heap:=h3.push (seqObj "tuple" us.toArray 0) }:=I.kept (t':=s.toks) fun b u q=>Heap.get?_push_of_some _ (keep3 b u q)
 have I2:Inv X (pins++[(Da,seqObj "list" #[] e1)]) σ H { s with heap:=h3.push (seqObj "tuple" us.toArray 0) }:=I1.pins_of fun q hq=>by
  rcases mem_append.mp hq with hq|hq
  ·exact I1.pin q (mem_append_right _ hq)
  ·have:q=(Da,seqObj "list" #[] e1):=by simpa using hq
   subst this
   exact⟨Heap.get?_push_of_some _ hD3,nH,neL,I.nofs hDa0,fun v z=>nomatch z⟩
 have szk:s.heap.objs.size≤(h3.push (seqObj "tuple" us.toArray 0)).objs.size:=le_of_lt (Nat.lt_of_le_of_lt hDa0 (Heap.lt_size (Heap.get?_push_of_some _ hD3)))
 have hkS:H (h3.push (seqObj "tuple" us.toArray 0)).objs.size=none:=I.hok.fresh szk
 have I3:=I2.laid (t':=s.toks) (a:=(h3.push (seqObj "tuple" us.toArray 0)).objs.size) (o:=.lst []) (h':=(h3.push (seqObj "tuple" us.toArray 0)).push (seqObj "list" #[] 0)) (fun b u q=>Heap.get?_push_of_some _ q) (le_refl _) ⟨zero_le _,[],0,.nil,Heap.get?_push_size _ rfl⟩
 generalize hkk:(h3.push (seqObj "tuple" us.toArray 0)).objs.size=kS at hkS I3
 have h0D:X.s₀.heap.objs.size≤Da:=le_trans I.sz hDa0
 unfold ksk_rest
 refine wpAny_bind (wpAny_rule ?_)
 first
  | rw[List.forIn_toArray]
  | (rw[← Array.forIn_toList];simp only[List.toList_toArray])
 refine wpAny_bind (ksk_fold (fun i s'=>∃F2 Hm kvs,Ext F H F2 Hm∧Hm kS=none∧Inv X (pins++[(Da,seqObj "list" #[] e1)]) σ (upd Hm kS (.lst kvs)) s'∧Reps X.K F2 ((kz.take i).map fun k=>D.tup (k.map D.int)) kvs) us 0 _
  ⟨F,H,[],Ext.refl fh,hkS,I3,by simpa using Reps.nil⟩ ?step ?done)
 case step=>
  rintro j x s' hx ⟨F2,Hm,kvs,x2,hm,I4,rk⟩
  simp only[zero_add] at rk ⊢
  have hj:j<us.length:=(List.getElem?_eq_some_iff.mp hx).1
  obtain⟨d,hd⟩:∃d,ds[j]?=some d:=⟨_,getElem?_eq_getElem (by omega)⟩
  obtain⟨k,hkj⟩:∃k,kz[j]?=some k:=⟨_,getElem?_eq_getElem (by omega)⟩
  obtain⟨v,hv,rd⟩:=rs.get hd
  obtain⟨u,hu,ru⟩:=rv.get hv
  rw[hx] at hu;cases hu
  have xo:Ext F2 Hm F2 (upd Hm kS (.lst kvs)):=Ext.open x2.fh hm
  refine wpAny_bind (wpAny_attempt (wpAny_mono (key j d k hd hkj _ s' F2 _ v x (fun kv H''=>∃F'',Ext F2 (upd Hm kS (.lst kvs)) F'' H''∧Rep X.K F'' (.tup (k.map D.int)) kv) I4 (fun p hp=>mem_append_left _ hp) (x2.trans xo) (rd.mono x2.ff) ru (fun kv F'' H'' y r=>⟨F'',y,r⟩)) (fun kval s'' hk''=>?_) fun _ _ z=>z.elim))
  obtain⟨kv,H'',I5,rkv,F'',x5,rp⟩:=hk''
  have hkS5:H'' kS=some (.lst kvs):=x5.hh _ _ zt
  obtain⟨z1,its,n,rki,ek⟩:=I5.hok kS _ hkS5
  have lk:kvs.length=j:=by
   rw[← rk.length,length_map,length_take];omega
  have li:its.length=j:=by rw[← rki.length];exact lk
  have I6:=Inv.relist (g:=(·.push kval)) I5 hkS5 ek (ws:=its++[kval]) (by simp) (rki.append (.cons rkv .nil)) (by rw[length_append,lk];exact le_of_lt (yT (by simp;omega)))
  obtain⟨y1,y2⟩:=Z1 x2 hm x5
  try dsimp only
  refine wpAny_bind (listUpdate_at ek rfl ?_ (by rw[size_toArray,li];exact le_of_lt (yT (by omega))) ?_)
  ·refine wpAny_pure ⟨rfl,F'',wa H'' kS,kvs++[kv],y1,vN _ _,by rw[Zn];exact I6,?_⟩
   have tk:kz.take (j+1)=kz.take j++[k]:=by
    rw[List.take_add_one,hkj];rfl
   rw[tk,map_append]
   exact(rk.mono x5.ff).append (Reps.cons rp Reps.nil)
  ·rw[Array.size_push,size_toArray,li];exact le_trans (le_of_lt (yT (by omega))) (le_succ _)
 case done=>
  rintro s' ⟨F2,Hm,kvs,x2,hm,I4,rk⟩
  simp only[zero_add] at rk
  rw[take_of_length_le (by omega)] at rk
  obtain⟨z1,ks,n,rki,ek⟩:=I4.hok kS _ zt
  refine wpAny_bind (listItems_at ek rfl ?_)
  have xo:Ext F2 Hm F2 (upd Hm kS (.lst kvs)):=Ext.open x2.fh hm
  refine za8 I4 zt ek rki xo.fh rk ne nd hk (rs.mono x2.ff) rv (by omega) h0D cellD pinD fun s5 ovs J ro=>?_
  refine⟨_,rfl,wpAny_pure ⟨_,rfl,.ref Da,_,J,rfl,hQ Da (upd F2 Da (.lst ovs)) _ ?_ ?_⟩⟩
  ·have hmD:Hm Da=none:=by
    obtain⟨_,nD,_⟩:=I4.pin (Da,seqObj "list" #[] e1) (by simp)
    by_cases z:Da=kS
    ·rw[z];exact hm
    ·rw[zn z] at nD;exact nD
   have eq1:upd (upd (upd Hm kS (.lst kvs)) kS (.lst [])) Da (.lst ovs)=upd (upd Hm kS (.lst [])) Da (.lst ovs):=by
    congr 1;funext b;unfold upd;split <;> rfl
   rw[eq1]
   have kD:(upd Hm kS (.lst [])) Da=none:=by
    obtain⟨_,nD,_⟩:=I4.pin (Da,seqObj "list" #[] e1) (by simp)
    by_cases z:Da=kS
    ·rw[z,zt] at nD;cases nD
    ·rw[zn z];exact hmD
   exact(x2.trans (Ext.open (o:=.lst []) x2.fh hm)).trans (Ext.new ((x2.trans (Ext.open (o:=.lst []) x2.fh hm)).fh) kD)
  ·have hF:F2 Da=none:=by
    obtain⟨_,nD,_⟩:=I4.pin (Da,seqObj "list" #[] e1) (by simp)
    exact zP xo.fh nD
   simp only[Rep]
   exact⟨Da,ovs,rfl,zt,ro.mono (yi hF)⟩
end
open PySem.W
def _root_.L2.Cx.lam(X:Cx)(scope:Scope)(N:List Str)(s:Shared)(H:Hp)(qual:Str)(f:Addr)(cd:Value):Cx:=
 { prog:=X.prog,w:=X.w,K:=X.K,mg:=X.mg,base:=X.base,A:=X.A.in1.in1.deeper (envX qual scope s.heap.objs.size f cd (xC scope X.env)),N:=N,s₀:=s,H₀:=H,env:=envX qual scope s.heap.objs.size f cd (xC scope X.env),outer:=X.stack,
   stack:=envX qual scope s.heap.objs.size f cd (xC scope X.env)::X.stack,ex:=[],fn:=fun _=>false,calm:=true,pn:=[],xe:=fun _ _=>False }
section
variable{X:Cx}{scope:Scope}{N':List Str}{pins:List (Addr×Obj)}{σ σ':St}{F H:Hp}{τ:DS}{s:Shared}
theorem MQ{h1:Heap}{t:Nat}{qual p:Str}{f:Addr}{cd u:Value}{v:V}(S:xm X scope)(hd:X.A.handled=none)(I:Inv X pins σ H s)(hp:scope.names.lookup p=some .local)(hN:N'[0]?=some p)(rv:RelV v u)
  (hn:h1.Ns s.heap.objs.size fun x=>([(p,u)]:List (Str×Value)).reverse.lookup x) (hsb:∀b o,s.heap.get? b=some o→h1.get? b=some o) (hl:σ'.length=N'.length) (h0:σ'[0]?=some (some v))
  (hσ:∀(i:Nat) (v:V),i≠0→σ'[i]?=some (some v)→∃(x:Str) (j:Nat),N'[i]?=some x∧X.N[j]?=some x∧σ[j]?=some (some v)∧scope.names.lookup x=some .free) :
  Inv (X.lam scope N' s H qual f cd) [] σ' H { s with heap:=h1,toks:=t }:=by
 have hH:H s.heap.objs.size=none:=I.hok.fresh (le_refl _)
 have cl:∀{x c},(xC scope X.env).lookup x=some c→X.env.cells.lookup x=some c:=fun h=>jE S I.ok h
 have kept:∀{c v},s.heap.IsCell c v→h1.IsCell c v:=fun ⟨o,e,d⟩=>⟨o,hsb _ o e,d⟩
 have noA:∀b:Addr,b∉(X.lam scope N' s H qual f cd).ex:=fun b z=>absurd (show b∈([]:List Addr) from z) (by simp)
 refine⟨⟨I.ok.mod,S.kind,rfl,rfl,le_refl _,fun x y c e1 e2=>I.ok.inj x y c (cl e1) (cl e2),fun x hx=>?_,fun x c hf _=>absurd hf (by simp[Cx.lam]),fun _=>hd,Around.frames_deeper (show X.A.in1.in1.frames=some X.stack from I.ok.frames),.inr ⟨rfl,rfl⟩,fun b z=>absurd z (noA b),I.bs,le_trans I.ok.bsz I.sz,fun b _ _=>noA b,fun b z=>absurd z (noA b),I.stack,I.stkFree⟩,
  I.os.symm ▸ rfl,I.bare,Un.kept hsb,⟨_,hn,fun i x v' e1 e2 e3=>?_⟩,fun x c e=>?_,hH,fun x c e=>I.freeC x c (cl e),fun p hp=>absurd (show p∈([]:List (Addr×Obj)) from hp) (by simp),I.hok.kept hsb,hl⟩
 ·have hx:scope.names.lookup x=some .cell∨scope.names.lookup x=some .free:=hx
  rcases hx with z|z
  ·exact absurd rfl (S.nocell _ (PySem.mem_of_lookup z))
  ·exact vQ (.inl ⟨_,PySem.mem_of_lookup z,rfl,rfl⟩)
 ·have e1:N'[i]?=some x:=e1
  by_cases hi:i=0
  ·subst hi
   rw[hN] at e1;cases e1
   rw[h0] at e2;cases e2
   exact⟨u,rv,.inl ⟨hp,by simp[List.lookup]⟩⟩
  ·obtain⟨x',j,e4,e5,e6,e9⟩:=hσ i v' hi e2
   have hy:=PySem.mem_of_lookup e9
   rw[e1] at e4;cases e4
   have kd:=S.free _ hy rfl
   obtain⟨m,hm,hl⟩:=I.loc
   obtain⟨u',ru,lk⟩:=hl j x v' e5 e6 (kd.elim (fun z=>.inr (.inl z)) fun z=>.inr (.inr z))
   refine⟨u',ru,?_⟩
   rcases lk with ⟨z,_⟩|⟨z,c,hc,hcell⟩
   ·rcases kd with k|k <;> rw[k] at z <;> cases z
   ·obtain⟨c',hc'⟩:=vQ (env:=X.env) (names:=scope.names) (cs:=[]) (x:=x) (.inl ⟨_,hy,rfl,rfl⟩)
    have:=cl hc'
    rw[hc] at this;cases this
    exact .inr ⟨.inr e9,c,hc',kept hcell⟩
 ·obtain⟨v,z⟩:=I.cell x c (cl e)
  exact⟨v,kept z⟩
def U7(idx:List Nat)(fb:FE)(τ:DS)(d:D):Rs D:=fb ((wD 1 idx τ).set 0 (some (.val d)))
theorem QL{f c':Addr}{qual p:Str}{params:Arguments}{body:Expr}{pm ctv u:Value}{v:V}{d dk:D}{fr:List Str}{idx:List Nat}{fb:FE}{Q:VK}(S:xm X scope)(hr:Room 3 X.A)(hfr:FreeOk scope X.N fr idx)(hp:scope.names.lookup p=some .local)
  (hco:scope.isCoroutine=false) (hgen:scope.isGenerator=false) (hbind:∀(pm cd ct:Value) (cl:List (Str×Addr)) (u:Value),bindArgs (kla_fn "<lambda>" qual params body scope cl pm cd ct) ⟨[u],[]⟩=pure [(p,u)])
  (hb:∀s H f cd,PDE (X.lam scope (p::fr) s H qual f cd) body fb)
  (I:Inv X pins σ H s) (R:RV X.K F τ σ H) (ho:s.heap.get? f=some (kla_obj "<lambda>" qual params body scope (xC scope X.env) pm c' ctv)) (hc:H c'=some (.ext (Z5 c' qual))) (rd:Rep X.K F d v) (ru:RelV v u) (hk:U7 idx fb τ d=.ok dk)
  (hQ:∀kv F1 H1,Ext F H F1 H1→Rep X.K F1 dk kv→Q kv H1):wpAny (model X.prog X.w) X.A.in1.in1 (call (.ref f) [u]) (EP X pins σ Q) (fun _ _=>False) s:=by
 have hcd:s.heap.CodeRec (.ref c') qual:=(I.hok c' _ hc).1
 refine wpAny_call (kla_callFunE (args:=⟨[u],[]⟩) (hr.in1.in1).depth ho rfl hco hgen rfl hcd ?_)
 rw[hbind]
 refine wpAny_pure (wpAny_newFunctionEnv S.nocell (fun y hy=>?_) (fun h1 hns hsb=>⟨(I.mod.nolimit.keeps I.bk).fresh _ hsb,?_⟩) S.kind)
 ·have:y=(p,u):=by simpa using hy
  subst this;exact hp
 have keep3:∀b o,s.heap.get? b=some o→h1.get? b=some o:=fun b o e=>hsb.extBut b o (ne_of_lt (Heap.lt_size e)) (Heap.get?_push_of_some _ e)
 show codeAny _ _ (.expr body (envX qual scope s.heap.objs.size f (.ref c') (xC scope X.env))) _ _
 have hlen:(wE 1 idx σ).length=(p::fr).length:=by simp[wE,hfr.len]
 have hl0:0<(wE 1 idx σ).length:=by rw[hlen];simp
 have J:Inv (X.lam scope (p::fr) s H qual f (.ref c')) [] ((wE 1 idx σ).set 0 (some v)) H { s with heap:=h1,toks:=s.toks+([(p,u)]:List (Str×Value)).length }:=
  MQ S hr.hd I hp rfl ru hns keep3 (by rw[length_set];exact hlen) (by rw[getElem?_set_self hl0]) fun i v' hi e=>by
   rw[getElem?_set_ne (Ne.symm hi)] at e
   exact uI (tn:=[p]) hfr σ i v' e
 refine kla_codeExpr (wpAny_mono (hb s H f (.ref c') [] _ _ H (fun kv H1=>∃F1,Ext F H F1 H1∧Rep X.K F1 dk kv) J ⟨F,(wD 1 idx τ).set 0 (some (.val d)),(Y5 1 idx R).set rd,?_⟩) (fun w s5 h5=>?_) fun _ _ z=>z.elim)
 ·have hk:fb ((wD 1 idx τ).set 0 (some (.val d)))=.ok dk:=hk
  rw[hk]
  exact fun kv F1 H1 x r=>⟨F1,x,r⟩
 ·obtain⟨kv,H5,I5,r5,F5,x5,rk⟩:=h5
  exact⟨kv,H5,I.call' (ch:=[]) I5.os I5.base I5.hok I5.bare (fun b z=>absurd z (by simp)),r5,hQ kv F5 H5 x5 rk⟩
end
open PySem.W
def TabsU:Prop:=∀r∈Tabs.rows,∀r'∈Tabs.rows,r.1=r'.1→r=r'
theorem ZH{α β:Type}{f:α→β}:∀{l:List α},(l.map f).Nodup→∀r∈l,∀r'∈l,f r=f r'→r=r'
 |[],_,_,h,_,_,_=>by cases h
 |a::l,nd,r,h,r',h',e=>by
  rw[map_cons,nodup_cons] at nd
  rcases mem_cons.mp h with z|z
  ·rcases mem_cons.mp h' with z' | z'
   ·rw[z,z']
   ·rw[z] at e
    exact absurd (mem_map.mpr ⟨r',z',e.symm⟩) nd.1
  ·rcases mem_cons.mp h' with z' | z'
   ·rw[z'] at e
    exact absurd (mem_map.mpr ⟨r,z,e⟩) nd.1
   ·exact ZH nd.2 r z r' z' e
theorem TabsU.of(h:(Tabs.rows.map (·.1)).Nodup):TabsU:=ZH h
section
variable{X:Cx}{scope:Scope}{pins:List (Addr×Obj)}{σ:St}{F H:Hp}{τ:DS}{s:Shared}
theorem QK{params:Arguments}{body:Expr}{lpos:Pos}{P c:Addr}{E:Value→Shared→Prop}{Q:Value→Shared→Prop}(tu:TabsU)(S:xm X scope)(bm:BM X.mg X.base)(hcode:X.env.code=.ref c)(hcd:codeHdIn X.K c P=true)(hrow:(P,lpos.line,lpos.col,X.env.qual ++ "<lambda>")∈Tabs.rows)
  (hdef:defaultsOf params X.env=([],[])) (I:Inv X pins σ H s) (fh:Same F H) (tt:TbT F H)
  (h:∀(f c':Addr) (pm ctv:Value) (H':Hp) (s':Shared),Inv X (pins++[(f,kla_obj "<lambda>" (X.env.qual ++ "<lambda>") params body scope (xC scope X.env) pm c' ctv)]) σ H' s'→Ext F H F H'→H' c'=some (.ext (Z5 c' (X.env.qual ++ "<lambda>")))→Q (.ref f) s') :
  wpAny (model X.prog X.w) X.A (eval (.Lambda params body scope lpos) X.env) Q E s:=by
 obtain⟨bma,ob,b1,b2,b3,b4,b5,b6⟩:=bm
 obtain⟨b3,bH⟩:=I.bs _ _ b3
 have hgs:s.heap.Ns mainGlobals X.mg:=I.mod.glob.keeps I.bk
 have C:CodeHd s.heap c P:=codeHd_of_K (I.mod.kin.keeps I.bk) hcd
 have hcl:closureFor scope X.env=pure (xC scope X.env):=wQ fun y hy e=>by
  obtain⟨c,hc⟩:=I.ok.has _ (S.free y hy e)
  rw[hc];rfl
 have hbG:bma≠mainGlobals:=fun q=>by
  obtain⟨o,es,ep,e,hd,_⟩:=hgs
  rw[← q,b3] at e;cases e;rw[b6] at hd;cases hd
 obtain⟨tF,tt0⟩:=tt.1 _ hrow
 have hPs:∃ps,H P=some (.tbl ps):=by
  rcases tt0 with e|⟨c',e,_⟩
  ·exact⟨_,e⟩
  ·exact⟨_,e⟩
 obtain⟨ps0,hP0⟩:=hPs
 have hbP:bma≠P:=fun q=>by rw[q,hP0] at bH;cases bH
 have B:s.heap.BuiltinsAt X.mg P:=⟨bma,ob,b1,b2,hbG,hbP,b3,b4,b5,b6⟩
 refine kla_eval hdef ?_
 rcases tt0 with e|⟨c',e,ec⟩
 ·-- the first time
  have e:H P=some (.tbl #[]):=e
  have hP:s.heap.get? P=some (tabObj #[]):=I.hok P _ e
  have hgP:mainGlobals≠P:=fun q=>by
   obtain⟨o,es,ep,e',hd,_⟩:=hgs
   rw[q,hP] at e';cases e';cases hd
  refine kla_makeFunction (mg:=X.mg) hcl I.ok.glob hgs hcode C hP trivial rfl hgP B fun c' ctv h' tk hx hge hlt hrec htb=>?_
  have hc0:H c'=none:=I.hok.fresh hge
  have hPc:P≠c':=fun z=>by rw[z,hc0] at e;cases e
  have hsz:s.heap.objs.size≤h'.objs.size:=le_trans hge (le_of_lt hlt)
  have htb:h'.get? P=some (tabObj #[rawInt lpos.line,rawInt lpos.col,.ref c']):=by simpa using htb
  let H':Hp:=upd (upd H P (.tbl #[rawInt lpos.line,rawInt lpos.col,.ref c'])) c' (.ext (Z5 c' (X.env.qual ++ "<lambda>")))
  have hne:∀b,b≠P→b≠c'→H' b=H b:=fun b z1 z2=>by show upd (upd H P _) c' _ b=H b;rw[zn z2,zn z1]
  have hP':H' P=some (.tbl #[rawInt lpos.line,rawInt lpos.col,.ref c']):=by show upd (upd H P _) c' _ P=_;rw[zn hPc,zt]
  have hc':H' c'=some (.ext (Z5 c' (X.env.qual ++ "<lambda>"))):=zt
  let fo:Obj:=kla_obj "<lambda>" (X.env.qual ++ "<lambda>") params body scope (xC scope X.env) ((X.mg "__name__").getD .none) c' ctv
  have kp:∀b o,b≠P→s.heap.get? b=some o→(h'.push fo).get? b=some o:=fun b o z q=>Heap.get?_push_of_some _ (hx b o z q)
  have nc:∀b o,s.heap.get? b=some o→b≠c':=fun b o q=>ne_of_lt (lt_of_lt_of_le (Heap.lt_size q) hge)
  have nP:∀b,H b=none→b≠P:=fun b q z=>by rw[z,e] at q;cases q
  have J:Inv X pins σ H' { s with heap:=h'.push fo,toks:=tk }:=by
   refine I.un (t':=tk) ⟨fun b o q n _ _=>kp b o (nP b n) q,fun b o q n _ _=>⟨o.slots,kp b o (nP b n) q⟩,fun b o q n _=>by rw[hne b (nP b n) (nc b o q)];exact n,fun b o q _=>?_,fun b xs q=>?_,fun b o u q=>?_,fun b ps q=>?_⟩ fun b u q=>?_
   ·by_cases z:b=P
    ·subst z;exact⟨_,Heap.get?_push_of_some _ htb⟩
    ·exact⟨o,kp b o z q⟩
   ·rw[hne b (fun z=>by rw[z,e] at q;cases q) (fun z=>by rw[z,hc0] at q;cases q)];exact q
   ·rw[hne b (fun z=>by rw[z,e] at q;cases q) (fun z=>by rw[z,hc0] at q;cases q)];exact q
   ·by_cases z:b=P
    ·subst z
     rw[e] at q;cases q
     exact⟨#[rawInt lpos.line,rawInt lpos.col,.ref c'],by rw[hP'];simp⟩
    ·exact⟨#[],by rw[hne b z (fun z=>by rw[z,hc0] at q;cases q),q];simp⟩
   ·by_cases z2:b=c'
    ·subst z2
     rw[hc'] at q;cases q
     have hr2:(h'.push fo).CodeRec (.ref b) (X.env.qual ++ "<lambda>"):=by
      obtain⟨c2,oc,vs,t,g1,g2,g3,g4⟩:=hrec
      exact⟨c2,oc,vs,t,g1,Heap.get?_push_of_some _ g2,g3,g4⟩
     refine⟨hr2,?_,fun h1 h2 g k=>?_⟩
     ·obtain⟨c2,oc,vs,t,g1,g2,g3,g4⟩:=hr2
      cases g1
      exact⟨oc,g2⟩
     ·obtain⟨c2,oc,vs,t,g1,g2,g3,g4⟩:=g
      cases g1
      exact⟨_,oc,vs,t,rfl,k _ g2,g3,g4⟩
    ·by_cases z:b=P
     ·subst z
      rw[hP'] at q;cases q
      exact Heap.get?_push_of_some _ htb
     ·rw[hne b z z2] at q
      refine(I.hok b u q).stay (fun d v hd qd=>kp d v ?_ qd) (fun d qd=>?_) fun d xs qd=>?_
      ·rcases hd with y|y
       ·rw[y];exact z
       ·exact fun y'=>by rw[y',e] at y;cases y
      ·rw[hne d (fun y=>by rw[y,e] at qd;cases qd) (fun y=>by rw[y,hc0] at qd;cases qd)];exact qd
      ·rw[hne d (fun y=>by rw[y,e] at qd;cases qd) (fun y=>by rw[y,hc0] at qd;cases qd)];exact qd
  have hfz:s.heap.objs.size≤h'.objs.size:=hsz
  have nf:H' h'.objs.size=none:=by
   rw[hne _ (ne_of_gt (lt_of_lt_of_le (Heap.lt_size hP) hfz)) (ne_of_gt hlt)]
   exact I.hok.fresh hfz
  refine h h'.objs.size c' ((X.mg "__name__").getD .none) ctv H' _ (J.pins_of fun q hq=>?_) ⟨Same.refl F,fun b o q=>?_,fun b o q=>?_,fun _ _ q=>.inl q,fun t=>⟨fun r hr=>?_,fun d b q=>?_⟩⟩ hc'
  ·rcases mem_append.mp hq with hq|hq
   ·exact J.pin q (mem_append_right _ hq)
   ·have:q=(h'.objs.size,fo):=by simpa using hq
    subst this
    exact⟨Heap.get?_push_size _ rfl,nf,(ne_of_lt (lt_of_lt_of_le I.lt hfz)).symm,I.nofs hfz,fun v z=>nomatch z⟩
  ·by_cases z:b=P
   ·subst z;rw[e] at q;cases q;exact⟨_,hP'⟩
   ·exact .of (by rw[hne b z (fun z=>by rw[z,hc0] at q;cases q)];exact q)
  ·have q':=fh b o q
   rw[hne b (fun z=>by rw[z,show F P=none from tF] at q;cases q) (fun z=>by rw[z,hc0] at q';cases q')]
   exact q'
  ·by_cases z:r.1=P
   ·obtain rfl:=tu r hr _ hrow z
    exact⟨tF,.inr ⟨c',hP',hc'⟩⟩
   ·obtain⟨t1,t2⟩:=t.1 r hr
    refine⟨t1,?_⟩
    rcases t2 with q|⟨c2,q,q2⟩
    ·exact .inl (by rw[hne _ z (fun z=>by rw[z,hc0] at q;cases q)];exact q)
    ·exact .inr ⟨c2,by rw[hne _ z (fun z=>by rw[z,hc0] at q;cases q)];exact q,by rw[hne _ (fun z=>by rw[z,e] at q2;cases q2) (fun z=>by rw[z,hc0] at q2;cases q2)];exact q2⟩
  ·have q:H d=some (.own b):=by
    by_cases z2:d=c'
    ·rw[z2,hc'] at q;cases q
    ·by_cases z:d=P
     ·rw[z,hP'] at q;cases q
     ·rw[hne d z z2] at q;exact q
   obtain⟨C,dx,vs,q2⟩:=t.2 d b q
   exact⟨C,dx,vs,by rw[hne b (fun z=>by rw[z,e] at q2;cases q2) (fun z=>by rw[z,hc0] at q2;cases q2)];exact q2⟩
 ·-- again
  have e:H P=some (.tbl #[rawInt lpos.line,rawInt lpos.col,.ref c']):=e
  have hP:s.heap.get? P=some (tabObj #[rawInt lpos.line,rawInt lpos.col,.ref c']):=I.hok P _ e
  refine kla_makeFunctionHit (mg:=X.mg) (cv:=.ref c') hcl I.ok.glob hgs hcode C hP trivial (codeAmong_snoc (c:=.ref c') [] trivial rfl) B fun ctv h' tk hk hsz=>?_
  let fo:Obj:=kla_obj "<lambda>" (X.env.qual ++ "<lambda>") params body scope (xC scope X.env) ((X.mg "__name__").getD .none) c' ctv
  have J:Inv X pins σ H { s with heap:=h'.push fo,toks:=tk }:=I.kept (t':=tk) fun b u q=>Heap.get?_push_of_some _ (hk b u q)
  refine h h'.objs.size c' ((X.mg "__name__").getD .none) ctv H _ (J.pins_of fun q hq=>?_) (Ext.refl fh) ec
  rcases mem_append.mp hq with hq|hq
  ·exact J.pin q (mem_append_right _ hq)
  ·have:q=(h'.objs.size,fo):=by simpa using hq
   subst this
   exact⟨Heap.get?_push_size _ rfl,I.hok.fresh hsz,(ne_of_lt (lt_of_lt_of_le I.lt hsz)).symm,I.nofs hsz,fun v z=>nomatch z⟩
def wf(idx:List Nat)(fb:FE)(τ:DS):List D→Rs (List D)
 |[]=>.ok []
 |d::r=>match U7 idx fb τ d with
  |.ok k=>match wf idx fb τ r with
   |.ok ks=>.ok (k::ks)
   |_=>.no
  |_=>.no
theorem jM{idx:List Nat}{fb:FE}{τ:DS}:∀{ds ks:List D},wf idx fb τ ds=.ok ks→ks.length=ds.length∧∀(i:Nat) (d k:D),ds[i]?=some d→ks[i]?=some k→U7 idx fb τ d=.ok k
 |[],ks,h=>by cases h;exact⟨rfl,fun i d k e=>by simp at e⟩
 |d::r,ks,h=>by
  unfold wf at h
  cases q:U7 idx fb τ d with
  |no=>rw[q] at h;cases h
  |ex c=>rw[q] at h;cases h
  |ok k=>
   rw[q] at h
   simp only at h
   cases q2:wf idx fb τ r with
   |no=>rw[q2] at h;cases h
   |ex c=>rw[q2] at h;cases h
   |ok ks'=>
    rw[q2] at h;cases h
    obtain⟨l,g⟩:=jM q2
    refine⟨by simp[l],fun i d' k' e1 e2=>?_⟩
    cases i with
    |zero=>simp at e1 e2;subst e1;subst e2;exact q
    |succ i=>exact g i d' k' (by simpa using e1) (by simpa using e2)
def jh(ks ds:List D):Rs D:=match uW ks with
 |some kz=>if ds.length<64∧kz.Nodup∧(∀k∈kz,k≠[]) then .ok (.lst ((xK (kz.zip ds)).map (·.2))) else .no
 |none=>.no
def Z2(idx:List Nat)(fe fb:FE):FE:=fun τ=>(fe τ).bind fun d=>match d with
 |.lst ds=>match wf idx fb τ ds with
  |.ok ks=>jh ks ds
  |_=>.no
 |_=>.no
theorem UE{X:Cx}{ks ds:List D}{P:D→Prop}(h:Ok X (jh ks ds) P):∃kz:List (List Int),ks=kz.map (fun k=>D.tup (k.map D.int))∧ds.length<64∧kz.Nodup∧(∀k∈kz,k≠[])∧P (.lst ((xK (kz.zip ds)).map (·.2))):=by
 unfold jh at h
 cases q:uW ks with
 |none=>rw[q] at h;exact h.elim
 |some kz=>
  rw[q] at h
  simp only at h
  by_cases z:ds.length<64∧kz.Nodup∧(∀k∈kz,k≠[])
  ·rw[if_pos z] at h
   exact⟨kz,ZM q,z.1,z.2.1,z.2.2,h⟩
  ·rw[if_neg z] at h;exact h.elim
theorem US{x p:Str}{pp pos lpos kp:Pos}{e body:Expr}{params:Arguments}{fr:List Str}{idx:List Nat}{fe fb:FE}{P c:Addr}(hg:Gl X x)(hm:X.mg x=none)(hv:bootBuiltins x=some (.builtin "sorted"))(he:PDE X e fe)
  (hr:Room 3 X.A) (tu:TabsU) (bm:BM X.mg X.base) (hcode:X.env.code=.ref c) (hcd:codeHdIn X.K c P=true) (hrow:(P,lpos.line,lpos.col,X.env.qual ++ "<lambda>")∈Tabs.rows)
  (hsc:vt X.env.scope scope=true) (hfr:FreeOk scope X.N fr idx) (hp:scope.names.lookup p=some .local) (hco:scope.isCoroutine=false) (hgen:scope.isGenerator=false)
  (hbind:∀(pm cd ct:Value) (cl:List (Str×Addr)) (u:Value),bindArgs (kla_fn "<lambda>" (X.env.qual ++ "<lambda>") params body scope cl pm cd ct) ⟨[u],[]⟩=pure [(p,u)])
  (hb:∀s H f cd,PDE (X.lam scope (p::fr) s H (X.env.qual ++ "<lambda>") f cd) body fb) (hdef:defaultsOf params X.env=([],[]):=by rfl)
  (hn:x ≠ "__name__" := by decide) (hdb:(x==("__debug__" : Str))=false:=by decide) (h1:starEach [e] X.env=(false,eval e X.env)::starEach [] X.env:=by rfl) :
  PDE X (.Call (.Name x pp) [e] [⟨some "key", .Lambda params body scope lpos,kp⟩] pos) (Z2 idx fe fb):=by
 intro pins s σ H Q I ⟨F,τ,R,hq⟩
 have S:xm X scope:=xR hsc
 refine wpAny_Call_Name_kw (x9 I hg hm hv ?_ hn hdb)
 refine callWith_kw ?_ (by rw[h1];rfl) (by rw[h1];rfl)
 have hqb:=hq.bind
 have ha:PDA X [e] (za fe zh):=zc he zg (by rw[h1])
 refine thn (ha pos pins s σ H (fun vs H1=>∃F1 d v,vs=[v]∧Ext F H F1 H1∧Rep X.K F1 d v∧fe τ=.ok d) I ⟨F,τ,R,?_⟩) fun us s1 hA=>?_
 ·unfold za zh
  cases z:fe τ with
  |no=>rw[z] at hqb;exact hqb.elim
  |ex cc=>rw[z] at hqb;exact hqb
  |ok d=>
   intro vs F1 H1 x1 rr
   obtain⟨v,rfl,rd⟩:=Reps.one rr
   exact⟨F1,d,v,rfl,x1,rd,rfl⟩
 obtain⟨vs,H1,I1,rvs,F1,d,v,rfl,x1,rd,ed⟩:=hA
 obtain⟨u,rfl,ru⟩:=Vals.one rvs
 rw[ed] at hqb
 have hqb:Ok X (match d with
  |.lst ds=>match wf idx fb τ ds with
   |.ok ks=>jh ks ds
   |_=>.no
  |_=>.no) (Ev X.K F H Q):=hqb
 cases d with
 |lst ds=>
  simp only at hqb
  cases z:wf idx fb τ ds with
  |no=>rw[z] at hqb;exact hqb.elim
  |ex cc=>rw[z] at hqb;exact hqb.elim
  |ok ks=>
   rw[z] at hqb
   obtain⟨kz,ek,h64,nd,ne,hq⟩:=UE (X:=X) hqb
   obtain⟨lk,hkeys⟩:=jM z
   simp only[Rep] at rd
   obtain⟨l,ws,rfl,hF1,rs⟩:=rd
   obtain rfl:u=Value.ref l:=ru
   refine kws_cons ?_
   refine QK (P:=P) (c:=c) tu S bm hcode hcd hrow hdef I1 x1.fh (x1.tt R.tt) fun f c' pm ctv H2 s2 I2 x2 hc2=>?_
   refine kws_nil ?_
   have R2:RV X.K F1 τ σ H2:=(R.ext x1).ext x2
   refine wpAny_mono (WP (E:=X.xe) (Q:=Q) (F:=F1) (kz:=kz) I2 x2.fh hF1 rs h64 (by rw[← lk,ek,length_map]) nd ne (fun i d k hd hk pins' s' F' H' v u Q' I' hpin x' rd' ru' hQ'=>?_) fun Da F' H' x' r'=>?_) (fun w s3 ⟨v3,H3,I3,r3,q3⟩=>⟨v3,H3,I3.pins_of fun q hq=>I3.pin q (mem_append_right _ (mem_append_left _ hq)),r3,q3⟩) fun _ _ z=>z
   ·refine QL S hr hfr hp hco hgen hbind hb I' (R2.ext x') (I'.pin _ (mem_append_right _ (hpin _ (mem_append_right _ (mem_singleton.mpr rfl))))).1 (x'.hh _ _ hc2) rd' ru' (hkeys i d _ hd ?_) hQ'
    rw[ek,getElem?_map,hk];rfl
   ·exact hq _ F' H' ((x1.trans x2).trans x') r'
 |_=>exact hqb.elim
end
section
variable{prog:Program}{w:World}{A:Around}{R:Result→Shared→Prop}{E:Value→Shared→Prop}{I S:Addr}{fp wr:List Addr}{n:Nat}{P:Nat→Value→Prop}{St:Nat→Heap→Prop}{kw:List (Str×Value)}
end
variable[Tabs]
section
variable{X:Cx}{pos pp kp:Pos}{e e2:Expr}{fe f2:FE}
end
section
variable{K:PySem.W.Frag}{B Z F H:Hp}{τ:DS}{σ:St}
end
section
variable{X:Cx}{pos:Pos}{e tg:Expr}{st:Stmt}{ss:List Stmt}{fe:FE}{fs:FA}{f:FS}
def scal:D→Bool
 |.non=>true
 |.bl _=>true
 |.int _=>true
 |.str _=>true
 |_=>false
end
open PySem.W
def jj(a:Addr)(e1:Nat)(st:SortSt):Sem PySem.Fin:=do
 let srt:=(arrOf st).map (·.2)
 let touched:=(← seqEpoch a) != e1
 Builtin.List.listUpdate (.ref a) (fun _=>srt)
 if let some e:=failedOf st then rule "list.sort.comparison-raised"; (throw e)
 if touched then rule "list.sort.modified"; (raiseError "ValueError" "list modified during sort")
 ret .none
section
variable{X:Cx}{pins:List (Addr×Obj)}{σ:St}{F H:Hp}{τ:DS}{s:Shared}{Q:VK}{E:Value→Shared→Prop}
end
open PySem.W
structure Vu(K:PySem.W.Frag)(mg:Str→Option Value)(x:Str)(st:Stmt)(f c T:Addr):Prop where
 ex:∃(oc:Value) (od:Option Addr) (kV doc pm:Value) (an:Option Addr) (ct:Value) (osl:Array (Option Value)),K.lookup f=some ⟨oc,od,.func (fnOf x x (zM st) (zF st) (zk st) .none kV doc pm an (.ref c) ct),osl⟩
 cd:codeIn K (.ref c) x=true
 kp:keepIn K (.ref f)=true
 at_:mg x=some (.ref f)
 tab:codeHdIn K c T=true
section
variable{P:Program}{w:World}{K:PySem.W.Frag}{mg:Str→Option Value}{base:Heap}
theorem DefOk.mkL{x:Str}{st:Stmt}{f c T:Addr}{N ps:List Str}{k n:Nat}{fb:FS}(D:Vu K mg x st f c T)(S:zS N ps (zk st))(hn:ps.length=n)
  (hb:∀(kV doc pm:Value) (an:Option Addr) (cdv ct:Value) (us:List Value),us.length=ps.length→bindArgs (fnOf x x (zM st) (zF st) (zk st) .none kV doc pm an cdv ct) ⟨us,[]⟩=pure (ps.zip us))
  (hbody:∀(A:Around) (outer:List Env) (s:Shared) (H:Hp) (E:XK),Room k (A.deeper (envOfC x (zk st) s.heap.objs.size f (.ref c))) →
   Ya (Xp CX0 P w K mg base N x (zk st) f (.ref c) A outer s H E).nox (zF st) fb):DefOk P w K mg base x (k+1) n ps (xA N.length fb):=by
 obtain⟨oc,od,kV,doc,pm,an,ct,osl,lk⟩:=D.ex
 refine⟨f,_,?_,.all (hb kV doc pm an (.ref c) ct),D.kp,D.at_⟩
 refine TQ lk D.cd S (fun vs H Q E h=>by rw[hn];exact h.1) fun A outer s H vs Q E hr h=>⟨_,(show PSs _ _ _ from hbody A outer s H E hr).nox,?_⟩
 obtain⟨hl,ds,Fz,fh,tt,r,h⟩:=h
 refine⟨H,Fz,Fz,zX N.length ds,XO fh tt r,?_⟩
 unfold xA at h
 cases q:fb (zX N.length ds) with
 |nx τ=>rw[q] at h;exact fun σ F' H' ff RR=>h .non F' H' RR.out (by simp only[Rep])
 |rt d=>rw[q] at h;exact fun v F' H' x rr=>h v F' H' x rr
 |ro d τ=>rw[q] at h;exact fun v σ F' H' ff RR rr=>h v F' H' RR.out rr
 |rb d τ=>rw[q] at h;exact h.elim
 |bk τ=>rw[q] at h;exact h.elim
 |ct τ=>rw[q] at h;exact h.elim
 |ex c=>rw[q] at h;exact h.elim
 |no=>rw[q] at h;exact h.elim
 |rs c τ=>rw[q] at h;exact h.elim
end
section
variable{X:Cx}{pos:Pos}{e a b:Expr}{es:List Expr}{fe fa fb:FE}{fs:FA}
end
section
variable{X:Cx}{pos:Pos}{e:Expr}{es:List Expr}{fe:FE}{fs:FA}{C:Addr}{c f x:Str}{i:Nat}
end
section
variable{X:Cx}{pos:Pos}{e:Expr}{es:List Expr}{fe:FE}{fs:FA}{C:Addr}{c f x:Str}{i:Nat}
end
section
variable{X:Cx}{pos:Pos}{e:Expr}{es:List Expr}{fe:FE}{ff:FA}{C:Addr}{c f x:Str}{i:Nat}
end
section
variable{X:Cx}{pos:Pos}{e:Expr}{es:List Expr}{fe:FE}{ff:FA}{C:Addr}{c f x:Str}{i:Nat}
end
section
variable{P:Program}{w:World}{K:PySem.W.Frag}{mg:Str→Option Value}{base:Heap}
end
abbrev FOb:=DS→Rs (D×DS)
abbrev FObT:=DS→Rs (Bool×DS)
section
variable{X:Cx}{pos:Pos}{e a b:Expr}{es rest:List Expr}{fe fb:FE}{fs:FA}{c m x:Str}{i k n:Nat}{ps:List Str}{fo:FOb}{ga gb:FObT}
end
section
variable{X:Cx}{pos:Pos}{e a b:Expr}{es rest:List Expr}{fe fb:FE}{fs f1 f2:FA}{c m x y:Str}{i k n j:Nat}{ps:List Str}{fo:FOb}
end
section
variable{X:Cx}{pos:Pos}{e:Expr}{es:List Expr}{fs:FA}{c x:Str}{i k n:Nat}{ps:List Str}
end
section
variable{P:Program}{w:World}{K:PySem.W.Frag}{mg:Str→Option Value}{base:Heap}
end
section
variable{X:Cx}{scope:Scope}{tn fr:List Str}{idx:List Nat}{tg iter elt:Expr}{ifs:List Expr}{pos:Pos}{fi:FA}{set:FG}{ft:FT}{fe:FE}
end
section
variable{X:Cx}{pos:Pos}{e tg:Expr}{es:List Expr}{fe:FE}{fs:FA}{c f x:Str}{i:Nat}{C:Addr}
end
section
variable{P:Program}{w:World}{K:PySem.W.Frag}{mg:Str→Option Value}{base:Heap}
end
section
variable{X:Cx}{pos:Pos}{e:Expr}{es:List Expr}{fs:FA}{c c2 m x y:Str}{i k n h_:Nat}{ps:List Str}
end
section
variable{X:Cx}{pos:Pos}{e a b:Expr}{es:List Expr}{fe fa fb fi:FE}{C:Addr}{c f x:Str}{i:Nat}
end
omit [Tabs] in
theorem vals_ints:∀{vs:List Value} {ns:List Int},IntsAre vs ns→Vals (ns.map V.int) vs
 |_,_,.nil=>.nil
 |_,_,.cons n t r=>.cons ⟨t,rfl⟩ (vals_ints r)
section
variable{X:Cx}{pins:List (Addr×Obj)}{σ:St}{F H:Hp}{s:Shared}{Q:VK}{E:Value→Shared→Prop}
end
section
variable{X:Cx}{pos:Pos}{C:Addr}{c f x:Str}{i:Nat}
end
open PySem.W
section
variable{P:Program}{w:World}{K:PySem.W.Frag}{mg:Str→Option Value}{base:Heap}
end
section
variable{P:Program}{w:World}{K:PySem.W.Frag}{mg:Str→Option Value}{base:Heap}
end
section
variable{X:Cx}{pos:Pos}{e:Expr}{es:List Expr}{fe:FE}{ff:FA}{c m x:Str}{i k n h_:Nat}{ps:List Str}
end
end FD
set_option Elab.async false
set_option linter.all false
namespace STW
open PySem
abbrev Ris(l:List Nat):Prop:=l.Pairwise (· < ·)
theorem j7{l:List Nat}(h:Ris l){i k:Nat}(hik:i<k)(hk:k<l.length):l.getD i 0<l.getD k 0:=by
 have:=List.pairwise_iff_getElem.mp h i k (by omega) hk hik
 simpa[show i<l.length by omega,hk] using this
theorem Z7(xs:Array Nat)(j:Nat):∀(fuel lo hi:Nat),lo≤hi→hi≤xs.size→hi-lo≤fuel→Ris xs.toList→(∀i,i<lo→xs.toList.getD i 0<j)→(∀i,hi≤i→i<xs.size→j≤xs.toList.getD i 0) →
  SetTable.below.go xs j fuel lo hi≤xs.size∧(∀i,i<SetTable.below.go xs j fuel lo hi→xs.toList.getD i 0<j)∧∀i,SetTable.below.go xs j fuel lo hi≤i→i<xs.size→j≤xs.toList.getD i 0
 |0,lo,hi,h1,h2,h3,hr,ha,hb=>by
  have e:lo=hi:=by omega
  subst e
  unfold SetTable.below.go
  exact⟨h2,ha,hb⟩
 |fuel+1,lo,hi,h1,h2,h3,hr,ha,hb=>by
  unfold SetTable.below.go
  by_cases c:lo<hi
  ·rw[if_pos c]
   have hm:(lo+hi) / 2<xs.size:=by omega
   have em:xs.getD ((lo+hi) / 2) j=xs.toList.getD ((lo+hi) / 2) 0:=by
    simp[Array.getD,hm]
   dsimp only
   by_cases d:xs.getD ((lo+hi) / 2) j<j
   ·rw[if_pos d]
    refine Z7 xs j fuel _ hi (by omega) h2 (by omega) hr (fun i hi'=>?_) hb
    rw[em] at d
    by_cases z:i=(lo+hi) / 2
    ·subst z;exact d
    ·exact lt_trans (j7 hr (by omega) (by simpa using hm)) d
   ·rw[if_neg d]
    refine Z7 xs j fuel lo _ (by omega) (by omega) (by omega) hr ha fun i hi' hs=>?_
    rw[em] at d
    by_cases z:i=(lo+hi) / 2
    ·subst z;omega
    ·have:=j7 hr (i:=(lo+hi) / 2) (k:=i) (by omega) (by simpa using hs)
     omega
  ·rw[if_neg c]
   have e:lo=hi:=by omega
   subst e
   exact⟨h2,ha,hb⟩
theorem WD{xs:Array Nat}(hr:Ris xs.toList)(j:Nat):SetTable.below xs j≤xs.size∧(∀i,i<SetTable.below xs j→xs.toList.getD i 0<j)∧∀i,SetTable.below xs j≤i→i<xs.size→j≤xs.toList.getD i 0:=
 Z7 xs j xs.size 0 xs.size (zero_le _) (le_refl _) (by omega) hr (fun i h=>by omega) fun i h1 h2=>by omega
def TT(L:Bool)(t:SetTable):Prop:=t.led=L∧t.dummies = #[]∧Ris t.place.toList
theorem WV{L:Bool}{t:SetTable}(h:TT L t)(j:Nat):t.slot j≠.dummy:=by
 unfold SetTable.slot
 have:SetTable.has t.dummies j=false:=by
  rw[h.2.1];unfold SetTable.has;simp
 dsimp only
 split
 ·simp
 ·rw[this];simp
theorem WU{t:SetTable}{j:Nat}(h:t.slot j=.empty):t.place[SetTable.below t.place j]?≠some j:=fun e=>by
 unfold SetTable.slot at h
 dsimp only at h
 rw[e] at h
 simp at h
theorem XS{L:Bool}{t:SetTable}(ht:TT L t)(hashAt:Nat→Int)(h:Int):∀(fuel:Nat) (p:SetTable.Probe) (j:Nat) (d:Option Nat),p.dummy=none→SetTable.probe.go t hashAt h fuel p=some (.empty j d)→t.slot j=.empty∧d=none
 |0,p,j,d,_,e=>by unfold SetTable.probe.go at e;cases e
 |fuel+1,p,j,d,hp,e=>by
  unfold SetTable.probe.go at e
  cases q:t.slot p.j with
  |empty=>
   rw[q] at e
   simp only[Option.some.injEq,SetTable.Met.empty.injEq] at e
   obtain⟨rfl,rfl⟩:=e
   exact⟨q,hp⟩
  |dummy=>exact absurd q (WV ht p.j)
  |live i=>
   rw[q] at e
   dsimp only at e
   split at e
   ·cases e
   ·refine XS ht hashAt h fuel _ j d ?_ e
    unfold SetTable.advance
    split
    ·exact hp
    ·exact hp
theorem Jg{L:Bool}{t:SetTable}(ht:TT L t){h:Int}{j:Nat}{b:Bool}(e:t.freeSlot h=some (j,b)):t.slot j=.empty:=by
 unfold SetTable.freeSlot at e
 split at e
 ·rename_i j' d q
  unfold SetTable.probe at q
  obtain⟨q1,q2⟩:=XS ht _ h _ _ j' d rfl q
  subst q2
  simp at e
  rw[← e.1];exact q1
 ·cases e
theorem Wj{α:Type}(xs:Array α)(p:Nat)(x:α)(hp:p≤xs.size):(SetTable.insertAt xs p x).toList=xs.toList.take p++x::xs.toList.drop p:=by
 unfold SetTable.insertAt
 simp[Array.toList_extract,List.extract]
 exact take_of_length_le (by simp)
theorem Md{L:Bool}{t:SetTable}(ht:TT L t){j:Nat}(hj:t.slot j=.empty):TT L (t.put j).1:=by
 obtain⟨b1,b2,b3⟩:=WD ht.2.2 j
 have hne:=WU hj
 have hd:SetTable.has t.dummies j=false:=by rw[ht.2.1];unfold SetTable.has;simp
 refine⟨ht.1,?_,?_⟩
 ·show(if SetTable.has t.dummies j=true then _ else t.dummies) = #[]
  rw[hd];simpa using ht.2.1
 ·show Ris (SetTable.insertAt t.place (SetTable.below t.place j) j).toList
  rw[Wj _ _ _ b1]
  generalize SetTable.below t.place j=p at *
  have hr:=ht.2.2
  refine List.pairwise_append.mpr ⟨hr.sublist (List.take_sublist _ _),pairwise_cons.mpr ⟨fun y hy=>?_,hr.sublist (List.drop_sublist _ _)⟩,fun a ha y hy=>?_⟩
  ·obtain⟨i,hi,rfl⟩:=List.getElem_of_mem hy
   rw[List.getElem_drop]
   rw[length_drop] at hi
   have hs:p+i<t.place.size:=by have:=length_toList (xs:=t.place);omega
   have g:=b3 (p+i) (by omega) hs
   have e:t.place.toList.getD (p+i) 0=t.place.toList[p+i]'(by simpa using hs):=by simp[hs]
   rw[e] at g
   refine Nat.lt_of_le_of_ne g fun z=>?_
   by_cases i0:i=0
   ·subst i0
    apply hne
    have:t.place[p]?=some (t.place.toList[p+0]'(by simpa using hs)):=by
     have:p<t.place.size:=by omega
     simp[this]
    rw[this,← z]
   ·have h2:=j7 hr (i:=p) (k:=p+i) (by omega) (by simpa using hs)
    have h3:=b3 p (le_refl _) (by omega)
    rw[e] at h2
    omega
  ·have ha':a<j:=by
    obtain⟨i,hi,rfl⟩:=List.getElem_of_mem ha
    rw[List.getElem_take]
    rw[length_take] at hi
    have g:=b2 i (by omega)
    have hi2:i<t.place.size:=by have:=length_toList (xs:=t.place);omega
    simpa[hi2] using g
   rcases mem_cons.mp hy with rfl|hy
   ·exact ha'
   ·obtain⟨i,hi,rfl⟩:=List.getElem_of_mem hy
    rw[List.getElem_drop]
    rw[length_drop] at hi
    have hs:p+i<t.place.size:=by have:=length_toList (xs:=t.place);omega
    have g:=b3 (p+i) (by omega) hs
    have e:t.place.toList.getD (p+i) 0=t.place.toList[p+i]'(by simpa using hs):=by simp[hs]
    rw[e] at g
    omega
theorem vV{L:Bool}{t:SetTable}(ht:TT L t)(n:Nat):TT L (t.standIn n):=⟨ht.1,rfl,by
 show Ris (Array.range n).toList
 rw[Array.toList_range];exact List.pairwise_lt_range⟩
theorem Lv{L:Bool}{t:SetTable}(ht:TT L t)(n:Nat):TT L (t.orStandIn n):=by
 unfold SetTable.orStandIn
 split
 ·exact ht
 ·exact vV ht n
theorem MP{L:Bool}{t:SetTable}(ht:TT L t)(es:Array (Int×Value))(h:Int)(x:Value):TT L (layNew t es h x).2.1:=by
 unfold layNew
 split
 ·rename_i slot wd e
  exact Lv (Md ht (Jg ht e)) _
 ·exact vV ht _
theorem QM{mask finger moves:Nat}{led plain:Bool}{hs:Array Int}{t:SetTable}{o:Array Nat}(e:SetTable.laid mask finger moves led plain hs=some (t,o)):TT led t:=by
 unfold SetTable.laid at e
 cases q:SetTable.layClean mask hs with
 |none=>rw[q] at e;cases e
 |some owner=>
  rw[q] at e
  simp only[Option.bind_eq_bind,Option.bind_some,Option.pure_def,Option.some.injEq,Prod.mk.injEq] at e
  obtain⟨rfl,_⟩:=e
  refine⟨rfl,rfl,?_⟩
  show Ris (((List.range (mask+1)).filterMap fun j=>(owner.getD j none).map (j,·)).map (·.1)).toArray.toList
  show(((List.range (mask+1)).filterMap fun j=>(owner.getD j none).map (j,·)).map (·.1)).Pairwise (· < ·)
  rw[pairwise_map]
  refine(List.Pairwise.filterMap (R:=(· < ·)) _ (fun a a' haa b hb b' hb'=>?_) List.pairwise_lt_range)
  cases z:owner.getD a none with
  |none=>rw[z] at hb;simp at hb
  |some k=>
   cases z':owner.getD a' none with
   |none=>rw[z'] at hb';simp at hb'
   |some k'=>
    rw[z] at hb;rw[z'] at hb'
    simp at hb hb'
    subst hb;subst hb'
    exact haa
theorem UL{L:Bool}{t:SetTable}(ht:TT L t)(es:Array (Int×Value))(wanted:Nat):TT L (relayAll t es wanted).2.1:=by
 unfold relayAll
 split
 ·rename_i t' order e
  dsimp only
  split
  ·unfold SetTable.relaid at e
   have:=QM e
   rw[ht.1] at this
   exact this
  ·exact vV ht _
 ·exact vV ht _
theorem Mz{L:Bool}{t:SetTable}(ht:TT L t):TT L { t with plain:=false }:=ht
section
variable{prog:Program}{w:World}{K:Type}[DecidableEq K]{knd:KeyKind prog w K}{A:Around}{E:Value→Shared→Prop}{s:Shared}{L:Bool}{a:Addr}{S:K→Bool}{n:Nat}{k:K}{x:Value}
def SetT(knd:KeyKind prog w K)(L:Bool)(h:Heap)(a:Addr)(S:K→Bool)(n:Nat):Prop:=
 ∃o es ep t,h.get? a=some o∧o.ExactSet∧o.data=.set es ep t∧ElemsOf knd es.toList∧(∀k,S k=true↔∃e∈es.toList,knd.is k e.2=true)∧es.size<scanBound∧t.fits es.size=true∧es.size=n∧TT L t
theorem SetT.at{h h':Heap}(q:SetT knd L h a S n)(k:∀o,h.get? a=some o→h'.get? a=some o):SetT knd L h' a S n:=by
 obtain⟨o,es,ep,t,ho,r⟩:=q;exact⟨o,es,ep,t,k _ ho,r⟩
theorem SetT.congr{h:Heap}{S':K→Bool}{n':Nat}(q:SetT knd L h a S n)(e:∀k,S k=S' k)(en:n=n'):SetT knd L h a S' n':=by
 have:S=S':=funext e
 subst this;subst en;exact q
theorem stored{h:Heap}{o:Obj}{es:Array (Int×Value)}{ep:Nat}{t:SetTable}(ho:h.get? a=some o)(hx:o.ExactSet)(hd:o.data=.set es ep t){es':Array (Int×Value)}{t':SetTable}{S':K→Bool}(p1:ElemsOf knd es'.toList)
  (p2:∀k,S' k=true↔∃e∈es'.toList,knd.is k e.2=true) (p3:es'.size<scanBound) (p4:t'.fits es'.size=true) (p5:TT L t') :
  (h.update a (Obj.putSet es' t')).get? a=some { o with data:=.set es' (ep+1) t' }∧SetT knd L (h.update a (Obj.putSet es' t')) a S' es'.size:=by
 obtain⟨g,_⟩:=SetOf_store (knd:=knd) ho hx hd p1 p2 p3 p4
 exact⟨g,_,es',ep+1,t',g,hx,rfl,p1,p2,p3,p4,rfl,p5⟩
theorem GB{g:Bool→Sem Unit}(hg:∀(b:Bool) (s1:Shared) (Q:Unit→Shared→Prop),Q () s1→wpAny (model prog w) A (g b) Q E s1){o:Obj}{es:Array (Int×Value)}{ep:Nat}{t:SetTable}(ho:s.heap.get? a=some o)(hx:o.ExactSet)(hd:o.data=.set es ep t)
  {es1:Array (Int×Value)} {t2:SetTable} {S':K→Bool} (p1:ElemsOf knd es1.toList) (p2:∀k,S' k=true↔∃e∈es1.toList,knd.is k e.2=true) (p3:es1.size<scanBound) (p4:t2.fits es1.size=true) (p5:TT L t2) {wasDummy:Bool} {R:Option Bool→Shared→Prop}
  (q:∀h',Heap.SameBut a s.heap h'→SetT knd L h' a S' es1.size→R (some true) { s with heap:=h' }) :
  wpAny (model prog w) A (do
    storeSet a es1 t2
    if (!wasDummy&&t2.tooFull)=true then do
        g (relayAll t2 es1 (SetTable.grown es1.size)).2.2
        storeSet a (relayAll t2 es1 (SetTable.grown es1.size)).1 (relayAll t2 es1 (SetTable.grown es1.size)).2.1
        pure (some true)
     else pure (some true)) R E s:=by
 obtain⟨g1,g2⟩:=stored (knd:=knd) ho hx hd p1 p2 p3 p4 p5
 have sb:=Heap.SameBut.update s.heap a (Obj.putSet es1 t2)
 refine wpAny_bind (wpAny_storeSet_of ho hd ?_ (fits_of_scanBound p3))
 split
 ·have r1:=relayAll_perm t2 es1 (SetTable.grown es1.size);have r2:=relayAll_fits t2 es1 (SetTable.grown es1.size);have r3:=UL p5 es1 (SetTable.grown es1.size)
  generalize relayAll t2 es1 (SetTable.grown es1.size)=Z at r1 r2 r3 ⊢
  obtain⟨es2,t3,gv⟩:=Z
  dsimp only at r1 r2 r3 ⊢
  have z:es2.size=es1.size:=by rw[← length_toList,r1.length_eq,length_toList]
  have p3':es2.size<scanBound:=by omega
  refine wpAny_bind (hg _ _ _ (wpAny_bind (wpAny_storeSet_of g1 rfl ?_ (fits_of_scanBound p3'))))
  obtain⟨_,u⟩:=stored (knd:=knd) (L:=L) g1 hx rfl (p1.perm r1) (fun k'=>(p2 k').trans ⟨fun ⟨e,he,y⟩=>⟨e,r1.mem_iff.mpr he,y⟩,fun ⟨e,he,y⟩=>⟨e,r1.mem_iff.mp he,y⟩⟩) p3' r2 r3
  rw[z] at u
  exact wpAny_pure (q _ (sb.trans (Heap.SameBut.update _ a _)) u)
 ·exact wpAny_pure (q _ sb g2)
theorem TW{Q:Bool→Shared→Prop}(hkey:knd.is k x=true)(hsc:x.scannable=true)(hS:SetT knd L s.heap a S n)(hroom:n+1<scanBound)
  (q:∀h',Heap.SameBut a s.heap h'→SetT knd L h' a (fun k'=>S k'||decide (k'=k)) (if S k then n else n+1)→Q (!S k) { s with heap:=h' }):wpAny (model prog w) A (setAddHashed a x (knd.hash k)) Q E s:=by
 obtain⟨o,es,ep,t,ho,hx,hd,hel,hmem,hb,hf,hn,hT⟩:=hS
 have hb1:es.size+1<scanBound:=by omega
 unfold setAddHashed setAddHashedIn;refine wpAny_holding (wpAny_bind (wpAny_setState_of ho hd hf ?_))
 dsimp only;rw[byScan_of hsc hb hel];simp only[↓reduceIte];unfold setAddByScan
 refine wpAny_bind (wpAny_bind (wpAny_rule (wpAny_bind (wpAny_setScan_of hkey ho hd hf hel ?_))))
 cases hr:List.findIdx? (fun e=>knd.is k e.2) es.toList with
 |some j=>
  obtain⟨hj,hpj,_⟩:=List.findIdx?_eq_some_iff_getElem.mp hr
  have hSk:S k=true:=(hmem k).mpr ⟨es.toList[j],getElem_mem hj,hpj⟩
  have u:=q s.heap (Heap.SameBut.refl a s.heap) ⟨o,es,ep,t,ho,hx,hd,hel,fun k'=>by
   rw[Bool.or_eq_true,decide_eq_true_eq,← hmem k'];exact⟨fun z=>z.elim id (fun e=>e ▸ hSk),.inl⟩,hb,hf,by rw[hSk];exact hn,hT⟩
  rw[hSk] at u
  dsimp only
  exact wpAny_pure (wpAny_pure u)
 |none=>
  have hSk:S k=false:=by
   cases hk:S k with
   |false=>rfl
   |true=>obtain⟨e,he,hp⟩:=(hmem k).mp hk;have:=List.findIdx?_eq_none_iff.mp hr e he;rw[hp] at this;cases this
  have gw:∀(b:Bool) (s1:Shared) (Q':Unit→Shared→Prop),Q' () s1→wpAny (model prog w) A (match b with|true=>rule "set.scan.the-table-gave-way" |false=>pure ()) Q' E s1:=fun b s1 Q' hq=>by
   cases b <;> first|exact wpAny_pure hq|exact wpAny_rule hq
  have l1:=layNew_perm t es (knd.hash k) x;have l2:=layNew_fits t es (knd.hash k) x;have l3:=MP hT es (knd.hash k) x
  dsimp only
  generalize layNew t es (knd.hash k) x=Z at l1 l2 l3 ⊢
  obtain⟨es1,t1,wd,gv⟩:=Z
  dsimp only at l1 l2 l3 ⊢
  rw[Array.toList_push] at l1
  have p1:ElemsOf knd es1.toList:=(hel.push hkey hsc).perm l1
  have p2:∀k',(S k'||decide (k'=k))=true↔∃e∈es1.toList,knd.is k' e.2=true:=mem_push_iff hkey hmem l1
  have z1:es1.size=n+1:=by rw[← length_toList,l1.length_eq,length_append,length_toList,hn];rfl
  have p3:es1.size<scanBound:=by omega
  have fin:∀h',Heap.SameBut a s.heap h'→SetT knd L h' a (fun k'=>S k'||decide (k'=k)) es1.size→Q true { s with heap:=h' }:=fun h' sb u=>by
   have v:=q h' sb;rw[hSk] at v;rw[z1] at u;exact v u
  refine wpAny_bind (gw _ _ _ ?_)
  split
  ·refine wpAny_bind ?_
   rw[hashByValue_scannable 8 hsc]
   refine wpAny_pure (GB (L:=L) gw ho hx hd p1 p2 p3 ?_ ?_ fun h' sb u=>wpAny_pure (fin h' sb u))
   ·split
    ·exact l2
    ·exact SetTable.fits_plain_off l2
   ·split
    ·exact l3
    ·exact Mz l3
  ·refine wpAny_bind (wpAny_pure ?_)
   simp only[↓reduceIte]
   exact GB (L:=L) gw ho hx hd p1 p2 p3 l2 l3 fun h' sb u=>wpAny_pure (fin h' sb u)
end
open PyProof.Rows
section
variable{prog:Program}{w:World}{A:Around}{R:Result→Shared→Prop}{I:Addr}{fp wr:List Addr}{G:Array GenState→Array GenState→Prop}{n:Nat}{P:Nat→Value→Prop}{St:Nat→Shared→Prop}{L:Bool}
theorem GJ(W:WalksS prog w A.in1 I fp wr G n P St)(Z:Addr)(hZ:Z∉fp)(val:Nat→Int)(hval:∀i v,P i v→∃t,v=.int (val i) t)(hb:n+1<scanBound) :
  ∀(k i:Nat) (s:Shared),n-i=k→i≤n→St i s→SetT (intKind prog w) L s.heap Z (fun k'=>(firstMet val i).any (· == k')) (firstMet val i).length →
   (∀s',Moved (Z::wr) G s s'→SetT (intKind prog w) L s'.heap Z (fun k'=>(firstMet val n).any (· == k')) (firstMet val n).length→R (.ok (.ret .none)) s') →
   codeAny (model prog w) A (.builtin "set.update.loop" ⟨[.ref Z,.ref I],[]⟩) R s:=by
 have hw:Z∉wr:=fun h=>hZ (W.sub _ h)
 have up:∀b∈wr,b∈Z::wr:=fun b h=>mem_cons_of_mem _ h
 intro k
 induction k with
 |zero=>
  intro i s hk hi hst hS hR
  obtain rfl:i=n:=by omega
  refine codeAny_builtin PyProof.Rows.F.entry_set_update_loop ?_
  rw[Around.under_plainId PyProof.Rows.F.plain_set_update_loop _]
  show wpAny _ A.in1 (pyNext (.ref I) >>= _) _ _ s;refine wpAny_bind (W.done s _ _ hst fun s' hm=>?_)
  exact wpAny_pure (hR s' (hm.mono up) (hS.at fun o e=>hm.heap Z _ hw e))
 |succ k ih=>
  intro i s hk hi hst hS hR
  refine codeAny_builtin PyProof.Rows.F.entry_set_update_loop ?_
  rw[Around.under_plainId PyProof.Rows.F.plain_set_update_loop _]
  show wpAny _ A.in1 (pyNext (.ref I) >>= _) _ _ s;refine wpAny_bind (W.item i s _ _ (by omega) hst fun v s' hP hst' hm=>?_)
  obtain⟨t,rfl⟩:=hval i v hP
  have hS1:=hS.at (h':=s'.heap) fun o e=>hm.heap Z _ hw e
  show wpAny _ A.in1 (holding [Value.int (val i) t] (setAdd Z (.int (val i) t)) >>= _) _ _ s';refine wpAny_bind (wpAny_holding ?_)
  unfold setAdd
  refine wpAny_holding (wpAny_bind ((intKind prog w).pyHash (k:=val i) (intKind_is _ _ _ _) ?_))
  have room:(firstMet val i).length+1<scanBound:=by have:=firstMet_length_le val i;omega
  refine TW (knd:=intKind prog w) (s:={ s' with toks:=s'.toks+1 }) (intKind_is _ _ _ _) rfl hS1 room fun h' sb hS2=>?_
  have hS3:=hS2.congr (S':=fun k'=>(firstMet val (i+1)).any (· == k')) (n':=(firstMet val (i+1)).length) (fun k'=>by rw[firstMet_succ,step_any]) (by rw[firstMet_succ,step_length])
  refine wpAny_pure ⟨plainId_quiet PyProof.Rows.F.plain_set_update_loop _,ih (i+1) _ (by omega) (by omega) (W.frame _ s' _ _ hst' (le_succ _) fun b hb o e=>?_) hS3 fun s'' hm'' hS''=>?_⟩
  ·rw[sb.2 b (fun h:b=Z=>hZ (by rw[← h];exact hb))];exact e
  ·refine hR s'' (Moved.trans W.gtrans ((hm.mono up).then_heap (le_succ _) fun b o hb e=>?_) hm'') hS''
   rw[sb.2 b (fun h:b=Z=>hb (by rw[h];exact mem_cons_self))];exact e
end
def wc(w:World):Bool:=!w.params.followText "set-order"
section
variable{prog:Program}{w:World}{A:Around}{E:Value→Shared→Prop}{s:Shared}
theorem newT(a:Value){Q₁:Value→Shared→Prop}
  (h:Q₁ (.ref s.heap.objs.size) { s with heap:=s.heap.push { cls:=.type "set", dict:=none,data:=.set #[] 0 (.fresh 0 0 (wc w)) } }) :
  codeAny (model prog w) A (.call (.builtin "set.__new__") ⟨[.type "set", a],[]⟩) (wants Q₁ E) s:=by
 refine codeAny_of_tree ?_
 show wpAny _ A.in1 (do checkBuiltinCall "set.__new__" ⟨[.type "set", a],[]⟩;again (.builtin "set.__new__" ⟨[.type "set", a],[]⟩)) _ _ s
 refine wpAny_bind (wpAny_of_eq (PySem.F.newCall_set_1 a) (wpAny_pure ⟨plainId_quiet PySem.F.plain_set_new _,codeAny_builtin PySem.F.entry_set_new ?_⟩))
 rw[Around.under_plainId PySem.F.plain_set_new _];unfold Builtin.«set.__new__» Builtin.Frozenset.newClass;have hsub:=sub_set_self
 obtain⟨hp,g,d,tk,os⟩:=s;dsimp only
 wp_walk
 refine wpAny_askSetting (wpAny_pure ?_);dsimp only;simp only[newObj]
 exact wpAny_bind (wpAny_alloc (wpAny_pure (wpAny_pure h)))
end
open PyProof.Rows
section
variable{prog:Program}{w:World}{A:Around}{E:Value→Shared→Prop}{s:Shared}
abbrev fm(ns:List Int)(n:Nat):List Int:=firstMet (fun i=>ns.getD i 0) n
abbrev y7(b:Bool):Obj:={ cls:=.type "set", dict:=none,data:=.set #[] 0 (.fresh 0 0 b) }
def Aft(prog:Program)(w:World)(s:Shared)(ns:List Int)(n:Nat)(r:Value)(s2:Shared):Prop:=
 r=.none∧∃h' tk,s2 = { s with heap:=h',toks:=tk }∧SetT (intKind prog w) (wc w) h' s.heap.objs.size (fun k=>(fm ns n).any (· == k)) (fm ns n).length∧∀b o,b<s.heap.objs.size→s.heap.get? b=some o→h'.get? b=some o
set_option maxRecDepth 100000 in
set_option maxHeartbeats 3200000 in
theorem callSet{l:Addr}{items:Array Value}{ns:List Int}{Q:Value→Shared→Prop}(hh:A.handled=none)(hl:s.heap.IsList l items)(hi:IntsAre items.toList ns)(hb:items.size+1<scanBound)
  (h:∀(h':Heap) (tk:Nat),SetT (intKind prog w) (wc w) h' s.heap.objs.size (fun k=>(fm ns items.size).any (· == k)) (fm ns items.size).length→(∀b o,b<s.heap.objs.size→s.heap.get? b=some o→h'.get? b=some o)→Q (.ref s.heap.objs.size) { s with heap:=h',toks:=tk }) :
  wpAny (model prog w) A (call (.type "set") [.ref l]) Q E s:=by
 obtain⟨c,tl,hmro⟩:=PySem.F.called_set.mro;have hmade:=PySem.F.called_set.made;have hsub:=PySem.F.called_set.sub
 refine wpAny_call (codeAny_of_tree ?_);show wpAny _ _ (callAny (.type "set") _) _ _ _
 refine wpAny_pure ⟨Code.quiet_builtin _ (by decide +kernel),codeAny_builtin F.entry_type_call ?_⟩;rw[Around.under_plain (weight_type_call_type "set" [.ref l] []) rfl]
 have h1:=PySem.F.called_set.notType;have h2:=PySem.F.called_set.canCreate;have hct:=PySem.F.typeCall_set_1 (.ref l)
 repeat (any_goals (first|assumption|wp_step))
 refine codeAny_mono (newT (.ref l) (E:=E) (Q₁:=fun obj s1=>obj=.ref s.heap.objs.size∧s1 = { s with heap:=s.heap.push (y7 (wc w)) }) ⟨rfl,rfl⟩) fun r s1 hr=>?_
 cases r with
 |error e=>exact hr
 |ok fl=>
  cases fl with
  |ret obj=>
   obtain⟨rfl,rfl⟩:=hr
   generalize hled:wc w=led at h
   have hS:(s.heap.push (y7 led)).get? s.heap.objs.size=some (y7 led):=Heap.get?_push_size _ rfl
   have hT:Shared.TypeIs { s with heap:=s.heap.push (y7 led) } (.ref s.heap.objs.size) "set" := ⟨_,hS,rfl⟩
   have hli:=PySem.F.called_set.init.lookup;have hbi:=PySem.F.called_set.init.bind (.ref s.heap.objs.size)
   repeat (any_goals (first|assumption|wp_step))
   refine codeAny_mono (codeAny_call_builtin (R:=wants (Aft prog w s ns items.size) E) PySem.F.called_set.init.plain PySem.F.entry_set_init (check_set_init_1 hT ?_)) fun r2 s2 hr2=>?_
   ·obtain⟨ol,hol,hcl,nl,hdl⟩:=hl
    obtain⟨ocls,odict,odata,oslots⟩:=ol
    simp only at hcl hdl;subst hcl;subst hdl
    have hol':(s.heap.push (y7 led)).get? l=some { cls:=.type "list", dict:=odict,data:=.seq items nl,slots:=oslots }:=Heap.get?_push_of_some _ hol
    have hsls:=PySem.F.sub_list_set;have hslf:=PySem.F.sub_list_frozenset
    have hne:(Value.type "list" == Value.type "dict")=false:=by decide
    have hl1:(s.heap.push (y7 led)).IsList l items:=⟨_,hol',rfl,nl,rfl⟩
    unfold Builtin.«set.__init__» noKeywords Builtin.Frozenset.updateFrom;generalize hPI:pyIter=PI
    wp_walk
    subst hPI
    refine wpAny_pyIter_list hl1 (wpAny_bind (wpAny_runValue ?_))
    have hlS:l<s.heap.objs.size:=Heap.lt_size hol
    have hh3:A.in1.in1.in1.handled=none:=by simp[hh]
    have es:(s.heap.push (y7 led)).objs.size=s.heap.objs.size+1:=Heap.size_push _ _
    have hneI:l≠(s.heap.push (y7 led)).objs.size:=by rw[es];exact ne_of_lt (lt_succ_of_lt hlS)
    have hSf:s.heap.objs.size∉[(s.heap.push (y7 led)).objs.size,l]:=by
     rw[es];simp only[mem_cons,not_mem_nil,or_false,not_or];exact⟨ne_of_lt (lt_succ_self _),ne_of_gt hlS⟩
    have hval:∀(i:Nat) (v:Value),items[i]?=some v→∃t,v=.int ((fun i=>ns.getD i 0) i) t:=fun i v hv=>IntsAre.int_at hi i v (by rw[getElem?_toList];exact hv)
    refine GJ (L:=led) ((Walks.list hh3 _ l hneI items).toS) s.heap.objs.size hSf (fun i=>ns.getD i 0) hval hb (items.size-0) 0 _ (by omega) (zero_le _) ⟨⟨_,Heap.get?_push_size _ rfl,rfl,rfl⟩,(hl1.push _)⟩ ?hS0 ?hR
    case hS0=>
     refine⟨y7 led,#[],0,.fresh 0 0 led,Heap.get?_push_of_some _ hS,⟨rfl,rfl,rfl⟩,rfl,fun e he=>by simp at he,fun k=>by simp[firstMet_zero],by decide,by rfl,rfl,rfl,rfl,List.Pairwise.nil⟩
    case hR=>
     intro s' hm hS'
     obtain⟨h',g',d',tk',os'⟩:=s'
     have eg:g'=s.gens:=hm.gens;have ed:d'=s.drawn:=hm.drawn;have eo:os'=s.os:=hm.os
     subst eg;subst ed;subst eo
     show wpAny _ _ _ _ _ _;refine wpAny_pure ?_;show wpAny _ _ (ret Value.none) _ _ _
     refine wpAny_pure ⟨rfl,h',tk',rfl,by rw[hled];exact hS',fun b o hb e=>hm.heap b o ?_ (Heap.get?_push_of_some _ (Heap.get?_push_of_some _ e))⟩
     rw[es];simp only[mem_cons,not_mem_nil,or_false,not_or];exact⟨ne_of_lt hb,ne_of_lt (lt_succ_of_lt hb)⟩
   ·cases r2 with
    |error e=>exact hr2
    |ok fl2=>
     cases fl2 with
     |ret r=>
      obtain⟨rfl,h',tk,rfl,hS',hk'⟩:=hr2
      rw[hled] at hS'
      repeat (any_goals (first|assumption|wp_step))
      exact h _ _ hS' hk'
     |_=>exact hr2.elim
  |_=>exact hr.elim
end
open PyProof.Rows
namespace FS
theorem slot_next:Slot "set_iterator" "__next__" "set_iterator.__next__" := .of (owner := "set_iterator") (n := "__next__") (by rw[typeLookup_type,builtinLookup_eq_fast];kernel_rfl) (by decide +kernel) (by decide +kernel) (by decide +kernel) (by first|exact .inl (by decide +kernel) | exact .inr (by decide +kernel)) (by rw[isSubtype_type];kernel_rfl)
theorem slot_self:Slot "set_iterator" "__iter__" "set_iterator.__iter__" := .of (owner := "set_iterator") (n := "__iter__") (by rw[typeLookup_type,builtinLookup_eq_fast];kernel_rfl) (by decide +kernel) (by decide +kernel) (by decide +kernel) (by first|exact .inl (by decide +kernel) | exact .inr (by decide +kernel)) (by rw[isSubtype_type];kernel_rfl)
theorem entry_next:entryFor table "set_iterator.__next__" = some Builtin.«set_iterator.__next__»:=entryFor_of_fast (by kernel_rfl)
theorem entry_self:entryFor table "set_iterator.__iter__" = some Builtin.«dict_keyiterator.__iter__»:=entryFor_alias (id' := "dict_keyiterator.__iter__") (by kernel_rfl) rfl (by decide +kernel) (by kernel_rfl)
theorem entry_iter:entryFor table "set.__iter__" = some Builtin.«frozenset.__iter__»:=entryFor_alias (id' := "frozenset.__iter__") (by kernel_rfl) rfl (by decide +kernel) (by kernel_rfl)
theorem args_next(a:Value):argsOk "set_iterator.__next__" ⟨[a],[]⟩:=by unfold argsOk;kernel_rfl
theorem args_self(a:Value):argsOk "set_iterator.__iter__" ⟨[a],[]⟩:=by unfold argsOk;kernel_rfl
end FS
section
variable{prog:Program}{w:World}{A:Around}{E:Value→Shared→Prop}{s:Shared}
structure SetAt(h:Heap)(a:Addr)(es:Array (Int×Value))(ep:Nat)(t:SetTable):Prop where
 ex:∃o,h.get? a=some o∧o.ExactSet∧o.data=.set es ep t
 fit:t.fits es.size=true
theorem SetAt.at{h h':Heap}{a:Addr}{es:Array (Int×Value)}{ep:Nat}{t:SetTable}(q:SetAt h a es ep t)(k:∀o,h.get? a=some o→h'.get? a=some o):SetAt h' a es ep t:=by
 obtain⟨⟨o,h1,h2⟩,f⟩:=q;exact⟨⟨o,k o h1,h2⟩,f⟩
end
open PySem PyProof.Rows
section
variable{prog:Program}{w:World}{A:Around}{E:Value→Shared→Prop}{s:Shared}{I a:Addr}{es:Array (Int×Value)}{ep:Nat}{t:SetTable}{Q:Option Value→Shared→Prop}
abbrev wK(f:Value)(i:Nat)(z:Value)(n ep:Nat):Obj:={ cls:=.type "set_iterator", dict:=none,data:=.fields #[f,.int i 0,z,.int n 0,.int ep 0],slots:=#[] }
theorem uY{f z:Value}{i n:Nat}(h:s.heap.get? I=some (wK f i z n ep)):s.TypeIs (.ref I) "set_iterator" := ⟨_,h,rfl⟩
theorem MD{sl i nx:Nat}{x:Value}(hit:s.heap.get? I=some (wK (.int sl 0) i (.ref a) es.size ep))(hS:SetAt s.heap a es ep t)(hnx:∀(A':Around) (Q':Option (Value×Nat)→Shared→Prop) (E':Value→Shared→Prop),Q' (some (x,nx)) s→wpAny (model prog w) A' (setNext a sl i ep) Q' E' s)
  (hQ:∀h',h'.get? I=some (wK (.int nx 0) (i+1) (.ref a) es.size ep)→Heap.SameBut I s.heap h'→Q (some x) { s with heap:=h' }):wpAny (model prog w) A (pyNext (.ref I)) Q E s:=by
 obtain⟨⟨o,ho,_,hd⟩,hf⟩:=hS
 unfold pyNext
 refine wpAny_bind (wpAny_attempt (wpAny_callSpecial?_slot (name:=Str.ofString "__next__") (uY hit) FS.slot_next (wpAny_call_entry FS.slot_next (uY hit) FS.entry_next ?_ (FS.args_next _))))
 show wpAny _ _ (fieldsOf (.ref I) >>= _) _ _ s
 refine wpAny_bind (wpAny_fieldsOf hit rfl ?_)
 show wpAny _ _ (setEntries a >>= _) _ _ s
 refine wpAny_bind (wpAny_setEntries_of ho hd hf ?_)
 rw[if_neg (by simp)]
 show wpAny _ _ (setNext a (sl:Int).toNat (i:Int).toNat (ep:Int).toNat >>= _) _ _ s
 simp only[toNat_natCast]
 refine wpAny_bind (hnx _ _ _ ?_)
 refine wpAny_bind (wpAny_setField_rec hit (by simp) fun h1 g1 b1=>wpAny_bind (wpAny_setField_rec g1 (by simp) fun h2 g2 b2=>?_))
 exact wpAny_pure ⟨x,rfl,wpAny_pure (hQ h2 g2 (b1.trans b2))⟩
theorem zb0{sl i:Nat}(hh:A.handled=none)(hit:s.heap.get? I=some (wK (.int sl 0) i (.ref a) es.size ep))(hS:SetAt s.heap a es ep t)(hnx:∀(A':Around) (Q':Option (Value×Nat)→Shared→Prop) (E':Value→Shared→Prop),Q' none s→wpAny (model prog w) A' (setNext a sl i ep) Q' E' s)
  (hQ:∀h',(∀b o,b≠I→s.heap.get? b=some o→h'.get? b=some o)→Q none { s with heap:=h' }):wpAny (model prog w) A (pyNext (.ref I)) Q E s:=by
 obtain⟨⟨o,ho,_,hd⟩,hf⟩:=hS
 unfold pyNext
 refine wpAny_bind (wpAny_attempt (wpAny_callSpecial?_slot (name:=Str.ofString "__next__") (uY hit) FS.slot_next (wpAny_call_entry FS.slot_next (uY hit) FS.entry_next ?_ (FS.args_next _))))
 show wpAny _ _ (fieldsOf (.ref I) >>= _) _ _ s
 refine wpAny_bind (wpAny_fieldsOf hit rfl ?_)
 show wpAny _ _ (setEntries a >>= _) _ _ s
 refine wpAny_bind (wpAny_setEntries_of ho hd hf ?_)
 rw[if_neg (by simp)]
 show wpAny _ _ (setNext a (sl:Int).toNat (i:Int).toNat (ep:Int).toNat >>= _) _ _ s
 simp only[toNat_natCast]
 refine wpAny_bind (hnx _ _ _ (wpAny_bind (wpAny_setField_rec hit (by simp) fun h1 g1 b1=>wpAny_bind ?_)))
 simp only[newExc,newTuple];refine wpAny_bind (wpAny_newObj_type ?_ (by size_fits))
 refine wpAny_bind (m:=firstArgMember _ _) (wpAny_of_eq (a:=Value.none) (by first|rfl | (simp only[firstArgMember];rfl)) (wpAny_newObj_type ?_ (by size_fits)))
 simp only[raiseNew];refine wpAny_bind (wpAny_handled ?_)
 rw[show A.in1.handled=none from hh];refine wpAny_bind (wpAny_pure (wpAny_throw ?_))
 refine wpAny_bind (wpAny_isInstance (T := "StopIteration") (b:=true) ⟨_,Heap.get?_push_size _ rfl,rfl⟩ isSubtype_stop (wpAny_pure (hQ _ fun b o n e=>?_)))
 exact Heap.get?_push_of_some _ (Heap.get?_push_of_some _ (by rw[b1.2 b n];exact e))
theorem Vv(hh:A.handled=none)(hne:a≠I)(ord:List Value)(hl:ord.length=es.size)(fst:Nat→Nat)
  (hnx:∀(i:Nat) (s':Shared) (A':Around) (Q':Option (Value×Nat)→Shared→Prop) (E':Value→Shared→Prop),i≤es.size→SetAt s'.heap a es ep t→Q' ((ord[i]?).map fun x=>(x,fst (i+1))) s'→wpAny (model prog w) A' (setNext a (fst i) i ep) Q' E' s') :
  Walks prog w A I [I,a] [I] es.size (fun i v=>ord[i]?=some v) (fun i h=>h.get? I=some (wK (.int (fst i) 0) i (.ref a) es.size ep)∧SetAt h a es ep t) where
 sub:=fun b hb=>by simp at hb;simp[hb]
 frame:=fun _ _ _ st hk=>⟨hk I (by simp) _ st.1,st.2.at fun o e=>hk a (by simp) o e⟩
 item:=fun i s Q E hi st hQ=>by
  have e:ord[i]?=some ord[i]:=by simp[hl,hi]
  refine MD (x:=ord[i]) (nx:=fst (i+1)) st.1 st.2 (fun A' Q' E' q=>hnx i s A' Q' E' (by omega) st.2 (by rw[e];exact q)) fun h' g b=>?_
  exact hQ _ h' s.toks e ⟨g,st.2.at fun o z=>by rw[b.2 a hne];exact z⟩ fun b' o hb z=>by rw[b.2 b' (fun y=>hb (by simp[y]))];exact z
 done:=fun s Q E st hQ=>by
  have e:ord[es.size]?=none:=by simp[hl]
  exact zb0 hh st.1 st.2 (fun A' Q' E' q=>hnx es.size s A' Q' E' (le_refl _) st.2 (by rw[e];exact q)) fun h' k=>hQ h' s.toks fun b o hb z=>k b o (fun y=>hb (by simp[y])) z
 self:=fun i s Q E st hQ=>by
  refine wpAny_pyIter_slot (uY st.1) FS.slot_self (wpAny_call_entry FS.slot_self (uY st.1) FS.entry_self ?_ (FS.args_self _))
  show wpAny _ _ (ret (.ref I)) _ _ s
  exact wpAny_pure ⟨_,rfl, "set_iterator", _,uY st.1,FS.slot_next.lookup,hQ⟩
end
open PySem PyProof.Rows
theorem uz{α:Type}:∀(l:List α) (i:Nat) (h:i<l.length),(l[i]::l.eraseIdx i).Perm l
 |[],i,h=>by simp at h
 |a::l,0,h=>by simp
 |a::l,i+1,h=>by
  have ih:=uz l i (by simpa using h)
  rw[List.eraseIdx_cons_succ,List.getElem_cons_succ]
  exact(List.Perm.swap a _ _).trans (ih.cons a)
theorem VL{α:Type}(next:Nat→Nat):∀(fuel k:Nat) (left:List α) (out:Array α),left.length≤fuel→(pickOrder.go next fuel k left out).toList.Perm (out.toList++left)
 |0,k,left,out,h=>by
  have:left=[]:=List.eq_nil_of_length_eq_zero (by omega)
  subst this
  unfold pickOrder.go;simp
 |fuel+1,k,left,out,h=>by
  unfold pickOrder.go
  cases q:left[next k%left.length]? with
  |none=>
   have:left=[]:=by
    cases left with
    |nil=>rfl
    |cons a l=>
     have hlt:next k%(a::l).length<(a::l).length:=Nat.mod_lt _ (by simp)
     rw[getElem?_eq_getElem hlt] at q;cases q
   subst this
   simp
  |some x=>
   have hlt:next k%left.length<left.length:=(List.getElem?_eq_some_iff.mp q).1
   refine(VL next fuel (k+1) _ _ (by rw[List.length_eraseIdx_of_lt hlt];omega)).trans ?_
   rw[Array.toList_push,List.append_assoc]
   refine List.Perm.append_left _ ?_
   have hx:left[next k%left.length]=x:=(List.getElem?_eq_some_iff.mp q).2
   show(x::left.eraseIdx (next k%left.length)).Perm left
   rw[← hx]
   exact uz _ _ hlt
theorem Yy{α:Type}(next:Nat→Nat)(xs:Array α):(pickOrder next xs).toList.Perm xs.toList:=by
 unfold pickOrder
 have:=VL next xs.size 0 xs.toList #[] (by simp)
 simpa using this
section
variable{prog:Program}{w:World}{A:Around}{E:Value→Shared→Prop}{s:Shared}{I a:Addr}{es:Array (Int×Value)}{ep:Nat}{t:SetTable}
theorem Gq{src:Source}{n:Nat}{Q:Nat→Shared→Prop}(hn:n≠0)(h:∀i d',i<n→Q i { s with drawn:=d' }):wpAny (model prog w) A (choose src n) Q E s:=
 fun Γ p hΓ=>⟨hn,h _ _ (Nat.mod_lt _ (Nat.pos_of_ne_zero hn))⟩
theorem Gh{α:Type}:∀(n:Nat) (xs:List α) (s:Shared) (Q:List α→Shared→Prop),xs.length=n→(∀l d',l.Perm xs→Q l { s with drawn:=d' })→wpAny (model prog w) A (drawOrder n xs) Q E s
 |0,xs,s,Q,h,q=>by
  have:xs=[]:=List.eq_nil_of_length_eq_zero h
  subst this
  unfold drawOrder
  exact wpAny_pure (q [] s.drawn (List.Perm.refl _))
 |n+1,[],s,Q,h,q=>by simp at h
 |n+1,x::xs,s,Q,h,q=>by
  unfold drawOrder
  refine wpAny_bind (Gq (by simp) fun i d' hi=>?_)
  have e:(x::xs)[i]?=some (x::xs)[i]:=getElem?_eq_getElem hi
  rw[e]
  refine wpAny_bind (Gh n _ _ _ (by rw[List.length_eraseIdx_of_lt hi];omega) fun l d'' hp=>?_)
  exact wpAny_pure (q _ d'' ((hp.cons _).trans (uz _ _ hi)))
theorem LH(hb:w.params.followText "set-order" = true)(i:Nat)(s':Shared)(A':Around)(Q':Option (Value×Nat)→Shared→Prop)(E':Value→Shared→Prop)(hS:SetAt s'.heap a es ep t)
  (q:Q' ((((pickOrder (w.params.setOrder a ep) es).toList.map (·.2))[i]?).map fun x=>(x,0)) s'):wpAny (model prog w) A' (setNext a 0 i ep) Q' E' s':=by
 obtain⟨⟨o,ho,_,hd⟩,hf⟩:=hS
 unfold setNext setsByText
 refine wpAny_bind (wpAny_setState_of ho hd hf ?_)
 refine wpAny_bind (wpAny_bind (wpAny_askSetting (wpAny_pure ?_)))
 show wpAny _ _ (if w.params.followText "set-order" = true then _ else _) _ _ _
 rw[if_pos hb,if_neg (by simp)]
 unfold setWalk setsByText
 refine wpAny_bind (wpAny_bind (wpAny_setState_of ho hd hf ?_))
 refine wpAny_bind (wpAny_bind (wpAny_askSetting (wpAny_pure ?_)))
 show wpAny _ _ (if w.params.followText "set-order" = true then _ else _) _ _ _
 rw[if_pos hb]
 refine wpAny_bind (wpAny_askSetting (wpAny_pure (wpAny_pure ?_)))
 have e:((pickOrder (w.params.setOrder a ep) es)[i]?).map (fun e=>(e.2,0))=(((pickOrder (w.params.setOrder a ep) es).toList.map (·.2))[i]?).map fun x=>(x,0):=by
  rw[getElem?_map,Option.map_map,getElem?_toList];rfl
 rw[← e] at q
 exact q
def wT(t:SetTable)(i:Nat):Nat:=if i=0 then 0 else t.place.toList.getD (i-1) 0+1
theorem Je{L:Bool}(hT:TT L t)(i:Nat)(hi:i≤t.place.size):SetTable.below t.place (wT t i)=i:=by
 obtain⟨b1,b2,b3⟩:=WD hT.2.2 (wT t i)
 generalize SetTable.below t.place (wT t i)=p at *
 unfold wT at b2 b3
 by_cases z:i=0
 ·rw[if_pos z] at b2
  rcases Nat.eq_zero_or_pos p with y|y
  ·omega
  ·have:=b2 0 y;omega
 ·rw[if_neg z] at b2 b3
  rcases Nat.lt_trichotomy p i with y|y|y
  ·have:=b3 (i-1) (by omega) (by omega);omega
  ·exact y
  ·have h1:=b2 i y
   have h2:=j7 hT.2.2 (i:=i-1) (k:=i) (by omega) (by have:=length_toList (xs:=t.place);omega)
   omega
theorem MA(hb:w.params.followText "set-order" = false)(hT:TT (wc w) t)(hnd:(!t.plain&&decide (es.size > 1))=false)(i:Nat)(s':Shared)(A':Around)(Q':Option (Value×Nat)→Shared→Prop)(E':Value→Shared→Prop)(hi:i≤es.size)(hS:SetAt s'.heap a es ep t)
  (q:Q' (((es.toList.map (·.2))[i]?).map fun x=>(x,wT t (i+1))) s'):wpAny (model prog w) A' (setNext a (wT t i) i ep) Q' E' s':=by
 obtain⟨⟨o,ho,_,hd⟩,hf⟩:=hS
 have hsz:t.place.size=es.size:=by
  unfold SetTable.fits at hf
  simp at hf;exact hf.1
 have hled:t.led=true:=by rw[hT.1];unfold wc;rw[hb];rfl
 unfold setNext setsByText
 refine wpAny_bind (wpAny_setState_of ho hd hf ?_)
 refine wpAny_bind (wpAny_bind (wpAny_askSetting (wpAny_pure ?_)))
 show wpAny _ _ (if w.params.followText "set-order" = true then _ else _) _ _ _
 rw[if_neg (by rw[hb];simp)]
 show wpAny _ _ (if (!t.plain&&decide (es.size > 1))=true then _ else _) _ _ _
 rw[if_neg (by rw[hnd];simp)]
 show wpAny _ _ ((if (!t.led && !es.isEmpty)=true then unsupported "set:maker-not-led" else pure ()) >>= _) _ _ _
 rw[if_neg (by rw[hled];simp)]
 refine wpAny_bind (wpAny_pure ?_)
 show wpAny _ _ (pure (match es[SetTable.below t.place (wT t i)]?,t.place[SetTable.below t.place (wT t i)]? with|some (_,x),some j=>some (x,j+1) | _,_=>none)) _ _ _
 rw[Je hT i (by omega)]
 by_cases z:i<es.size
 ·have e1:es[i]?=some es[i]:=by simp[z]
  have e2:t.place[i]?=some (t.place.toList.getD i 0):=by
   have:i<t.place.size:=by omega
   simp[this]
  rw[e1,e2]
  have e3:((es.toList.map (·.2))[i]?).map (fun x=>(x,wT t (i+1)))=some (es[i].2,t.place.toList.getD i 0+1):=by
   rw[getElem?_map,getElem?_toList,e1]
   simp[wT]
  rw[e3] at q
  exact wpAny_pure q
 ·have e1:es[i]?=none:=by simp;omega
  rw[e1]
  have e3:((es.toList.map (·.2))[i]?).map (fun x=>(x,wT t (i+1)))=none:=by
   rw[getElem?_map,getElem?_toList,e1];rfl
  rw[e3] at q
  exact wpAny_pure q
end
open PySem PyProof.Rows
section
variable{prog:Program}{w:World}{A:Around}{E:Value→Shared→Prop}{s:Shared}{I a T:Addr}{es:Array (Int×Value)}{ep:Nat}{t:SetTable}{Q:Option Value→Shared→Prop}
abbrev jJ(pl:List Nat):Obj:={ cls:=.type "tuple", dict:=none,data:=.seq (pl.map fun (i:Nat)=>rawInt i).toArray 0,slots:=#[] }
theorem Tv{pl:List Nat}{i:Nat}:(pl.map fun (i:Nat)=>rawInt i).toArray[i]?=(pl[i]?).map fun (p:Nat)=>rawInt p:=by
 rw[List.getElem?_toArray,getElem?_map]
theorem Jl{x:Value}{p i:Nat}(hS:SetAt s.heap a es ep t)(hx:(es.toList.map (·.2))[p]?=some x){Q:Value→Shared→Prop}(q:Q x s):wpAny (model prog w) A (setNextDrawn a p ep) Q E s:=by
 obtain⟨⟨o,ho,_,hd⟩,hf⟩:=hS
 unfold setNextDrawn
 refine wpAny_bind (wpAny_setState_of ho hd hf ?_)
 dsimp only
 rw[if_neg (by simp)]
 rw[getElem?_map,getElem?_toList] at hx
 cases z:es[p]? with
 |none=>rw[z] at hx;cases hx
 |some y=>rw[z] at hx;cases hx;exact wpAny_pure q
theorem MC{pl:List Nat}{i p:Nat}{x:Value}(hit:s.heap.get? I=some (wK (.ref T) i (.ref a) es.size ep))(hT:s.heap.get? T=some (jJ pl))(hS:SetAt s.heap a es ep t)(hp:pl[i]?=some p)(hx:(es.toList.map (·.2))[p]?=some x)
  (hQ:∀h',h'.get? I=some (wK (.ref T) (i+1) (.ref a) es.size ep)→Heap.SameBut I s.heap h'→Q (some x) { s with heap:=h' }):wpAny (model prog w) A (pyNext (.ref I)) Q E s:=by
 obtain⟨⟨o,ho,_,hd⟩,hf⟩:=id hS
 unfold pyNext
 refine wpAny_bind (wpAny_attempt (wpAny_callSpecial?_slot (name:=Str.ofString "__next__") (uY hit) FS.slot_next (wpAny_call_entry FS.slot_next (uY hit) FS.entry_next ?_ (FS.args_next _))))
 show wpAny _ _ (fieldsOf (.ref I) >>= _) _ _ s
 refine wpAny_bind (wpAny_fieldsOf hit rfl ?_)
 show wpAny _ _ (setEntries a >>= _) _ _ s
 refine wpAny_bind (wpAny_setEntries_of ho hd hf ?_)
 rw[if_neg (by simp)]
 show wpAny _ _ (seqItems? (.ref T) >>= _) _ _ s
 refine wpAny_bind (wpAny_seqItems hT rfl ?_)
 show wpAny _ _ (match (pl.map fun (i:Nat)=>rawInt i).toArray[(i:Int).toNat]? with|some (.int place _)=>_|some _=>_|none=>_) _ _ s
 rw[toNat_natCast,Tv,hp]
 show wpAny _ _ (setNextDrawn a (p:Int).toNat (ep:Int).toNat >>= _) _ _ s
 rw[toNat_natCast,toNat_natCast]
 refine wpAny_bind (Jl (i:=i) hS hx (wpAny_bind (wpAny_setField_rec hit (by simp) fun h1 g1 b1=>?_)))
 exact wpAny_pure ⟨x,rfl,wpAny_pure (hQ h1 g1 b1)⟩
theorem za9{pl:List Nat}{i:Nat}(hh:A.handled=none)(hit:s.heap.get? I=some (wK (.ref T) i (.ref a) es.size ep))(hT:s.heap.get? T=some (jJ pl))(hS:SetAt s.heap a es ep t)(hp:pl[i]?=none)
  (hQ:∀h',(∀b o,b≠I→s.heap.get? b=some o→h'.get? b=some o)→Q none { s with heap:=h' }):wpAny (model prog w) A (pyNext (.ref I)) Q E s:=by
 obtain⟨⟨o,ho,_,hd⟩,hf⟩:=id hS
 unfold pyNext
 refine wpAny_bind (wpAny_attempt (wpAny_callSpecial?_slot (name:=Str.ofString "__next__") (uY hit) FS.slot_next (wpAny_call_entry FS.slot_next (uY hit) FS.entry_next ?_ (FS.args_next _))))
 show wpAny _ _ (fieldsOf (.ref I) >>= _) _ _ s
 refine wpAny_bind (wpAny_fieldsOf hit rfl ?_)
 show wpAny _ _ (setEntries a >>= _) _ _ s
 refine wpAny_bind (wpAny_setEntries_of ho hd hf ?_)
 rw[if_neg (by simp)]
 show wpAny _ _ (seqItems? (.ref T) >>= _) _ _ s
 refine wpAny_bind (wpAny_seqItems hT rfl ?_)
 show wpAny _ _ (match (pl.map fun (i:Nat)=>rawInt i).toArray[(i:Int).toNat]? with|some (.int place _)=>_|some _=>_|none=>_) _ _ s
 rw[toNat_natCast,Tv,hp]
 refine wpAny_bind (wpAny_setField_rec hit (by simp) fun h0 g0 b0=>wpAny_bind (wpAny_setField_rec g0 (by simp) fun h1 g1 b1=>wpAny_bind ?_))
 simp only[newExc,newTuple];refine wpAny_bind (wpAny_newObj_type ?_ (by size_fits))
 refine wpAny_bind (m:=firstArgMember _ _) (wpAny_of_eq (a:=Value.none) (by first|rfl | (simp only[firstArgMember];rfl)) (wpAny_newObj_type ?_ (by size_fits)))
 simp only[raiseNew];refine wpAny_bind (wpAny_handled ?_)
 rw[show A.in1.handled=none from hh];refine wpAny_bind (wpAny_pure (wpAny_throw ?_))
 refine wpAny_bind (wpAny_isInstance (T := "StopIteration") (b:=true) ⟨_,Heap.get?_push_size _ rfl,rfl⟩ isSubtype_stop (wpAny_pure (hQ _ fun b o n e=>?_)))
 exact Heap.get?_push_of_some _ (Heap.get?_push_of_some _ (by rw[b1.2 b n,b0.2 b n];exact e))
theorem GI(hh:A.handled=none)(hne:a≠I)(hne2:T≠I)(pl:List Nat)(hp:pl.Perm (List.range es.size)) :
  Walks prog w A I [I,a,T] [I] es.size (fun i v=>((pl.filterMap fun p=>(es.toList.map (·.2))[p]?))[i]?=some v) (fun i h=>h.get? I=some (wK (.ref T) i (.ref a) es.size ep)∧SetAt h a es ep t∧h.get? T=some (jJ pl)):=by
 have hl:pl.length=es.size:=by rw[hp.length_eq,length_range]
 have hin:∀p∈pl,p<es.size:=fun p h=>by simpa using hp.mem_iff.mp h
 have ev:∀i p,pl[i]?=some p→∃x,(es.toList.map (·.2))[p]?=some x:=fun i p h=>by
  have:=hin p (mem_of_getElem? h)
  exact⟨(es.toList.map (·.2))[p]'(by simpa using this),getElem?_eq_getElem _⟩
 have fm:∀(l:List Nat),(∀p∈l,p<es.size)→l.filterMap (fun p=>(es.toList.map (·.2))[p]?)=l.map fun p=>((es.toList.map (·.2)).getD p .none):=fun l=>by
  induction l with
  |nil=>intro _;rfl
  |cons p l ih=>
   intro h
   have h1:=h p mem_cons_self
   have e:(es.toList.map (·.2))[p]?=some ((es.toList.map (·.2)).getD p .none):=by
    have:p<(es.toList.map (·.2)).length:=by simpa using h1
    simp[h1]
   rw[filterMap_cons,e,map_cons,ih fun q hq=>h q (mem_cons_of_mem _ hq)]
 refine⟨fun b hb=>by simp at hb;simp[hb],fun _ _ _ st hk=>⟨hk I (by simp) _ st.1,st.2.1.at fun o e=>hk a (by simp) o e,hk T (by simp) _ st.2.2⟩,fun i s Q E hi st hQ=>?_,fun s Q E st hQ=>?_,fun i s Q E st hQ=>?_⟩
 ·have e:pl[i]?=some pl[i]:=by simp[hl,hi]
  obtain⟨x,hx⟩:=ev i _ e
  refine MC (x:=x) st.1 st.2.2 st.2.1 e hx fun h' g b=>?_
  refine hQ _ h' s.toks ?_ ⟨g,st.2.1.at fun o z=>by rw[b.2 a hne];exact z,by rw[b.2 T hne2];exact st.2.2⟩ fun b' o hb z=>by rw[b.2 b' (fun y=>hb (by simp[y]))];exact z
  show(pl.filterMap fun p=>(es.toList.map (·.2))[p]?)[i]?=some x
  rw[fm pl hin,getElem?_map,e]
  have:(es.toList.map (·.2)).getD pl[i] .none=x:=by rw[getD_eq_getElem?_getD,hx];rfl
  rw[← this];rfl
 ·exact za9 hh st.1 st.2.2 st.2.1 (by simp[hl]) fun h' k=>hQ h' s.toks fun b o hb z=>k b o (fun y=>hb (by simp[y])) z
 ·refine wpAny_pyIter_slot (uY st.1) FS.slot_self (wpAny_call_entry FS.slot_self (uY st.1) FS.entry_self ?_ (FS.args_self _))
  show wpAny _ _ (ret (.ref I)) _ _ s
  exact wpAny_pure ⟨_,rfl, "set_iterator", _,uY st.1,FS.slot_next.lookup,hQ⟩
end
open PySem PyProof.Rows
section
variable{prog:Program}{w:World}{A:Around}{E:Value→Shared→Prop}{s:Shared}{a:Addr}{es:Array (Int×Value)}{ep:Nat}{t:SetTable}
theorem Ug(l:List Value):∀(ps:List Nat),(∀p∈ps,p<l.length)→ps.filterMap (fun p=>l[p]?)=ps.map fun p=>l.getD p .none
 |[],_=>rfl
 |p::ps,h=>by
  have h1:=h p mem_cons_self
  have e:l[p]?=some (l.getD p .none):=by simp[h1]
  rw[filterMap_cons,e,map_cons,Ug l ps fun q hq=>h q (mem_cons_of_mem _ hq)]
def zb8(prog:Program)(w:World)(vs:List Value)(h0:Heap)(a I:Addr)(h1:Heap):Prop:=
 ∃(fp:List Addr) (St:Nat→Heap→Prop) (ord:List Value),ord.Perm vs∧(∀A':Around,A'.handled=none→Walks prog w A' I fp [I] vs.length (fun i v=>ord[i]?=some v) St)∧St 0 h1∧(∀b∈fp,b<h1.objs.size∧(b=a∨h0.objs.size≤b))∧I∈fp∧h0.objs.size≤I∧(∀b o,h0.get? b=some o→h1.get? b=some o)∧∃o,h1.get? I=some o∧o.cls=.type "set_iterator"
theorem MW(hS:SetAt s.heap a es ep t)(hT:TT (wc w) t)(hz:es.size<scanBound){Q:Value→Shared→Prop}(h:∀I h1 d',zb8 prog w (es.toList.map (·.2)) s.heap a I h1→Q (.ref I) { s with heap:=h1,drawn:=d' }):wpAny (model prog w) A (pyIter (.ref a)) Q E s:=by
 obtain⟨⟨o,ho,hx,hd⟩,hf⟩:=id hS
 have ty:s.TypeIs (.ref a) "set" := ⟨o,ho,hx.1⟩
 have hlt:a<s.heap.objs.size:=Heap.lt_size ho
 have hlen:(es.toList.map (·.2)).length=es.size:=by simp
 refine wpAny_pyIter_slot ty F.slot_set_iter (wpAny_call_entry F.slot_set_iter ty FS.entry_iter ?_ (F.args_set_iter_1 _))
 unfold Builtin.«frozenset.__iter__»
 refine wpAny_bind (m:=Builtin.Frozenset.slot0 "__iter__" _) (wpAny_of_eq (a:=a) rfl ?_)
 refine wpAny_bind (m:=Builtin.Frozenset.sizeOf a) ?_
 unfold Builtin.Frozenset.sizeOf
 refine wpAny_bind (wpAny_setEntries_of ho hd hf (wpAny_pure ?_))
 refine wpAny_bind (m:=setDrawn a) ?_
 unfold setDrawn setsByText
 refine wpAny_bind (wpAny_setState_of ho hd hf ?_)
 refine wpAny_bind (wpAny_bind (wpAny_askSetting (wpAny_pure (wpAny_pure ?_))))
 show wpAny _ _ (if (!w.params.followText "set-order" && (!t.plain&&decide (es.size > 1)))=true then _ else _) _ _ _
 have fin:∀(f:Value) (h1:Heap) (d':_),SetAt h1 a es ep t→(∀I h2,h2.get? I=some (wK f 0 (.ref a) es.size ep)→I=h1.objs.size→h2=h1.push (wK f 0 (.ref a) es.size ep)→Q (.ref I) { s with heap:=h2,drawn:=d' }) →
   wpAny (model prog w) A.in1 (do ret (← newFields "set_iterator" [f,rawInt 0,.ref a,rawInt es.size,rawInt (← setEpoch a)]):Sem PySem.Fin) (fun fin s'=>∃v,fin=.done (.ret v)∧∃T r,s'.TypeIs v T∧typeLookup (.type T) (Str.ofString "__next__")=pure (some r)∧Q v s') E { s with heap:=h1,drawn:=d' }:=fun f h1 d' hS1 q=>by
  obtain⟨⟨o1,ho1,_,hd1⟩,hf1⟩:=hS1
  refine wpAny_bind (wpAny_setEpoch_of ho1 hd1 hf1 (wpAny_bind (wpAny_newObj_type ?_)))
  refine wpAny_pure ⟨_,rfl, "set_iterator", _,⟨_,Heap.get?_push_size _ rfl,rfl⟩,FS.slot_next.lookup,q _ _ (Heap.get?_push_size _ rfl) rfl rfl⟩
 by_cases hb:w.params.followText "set-order" = true
 ·rw[if_neg (by rw[hb];simp)]
  refine wpAny_bind (wpAny_pure (fin (rawInt 0) s.heap s.drawn hS fun I h2 g e1 e2=>?_))
  refine h I h2 s.drawn ⟨[I,a],fun i h=>h.get? I=some (wK (.int ((0:Nat):Int) 0) i (.ref a) es.size ep)∧SetAt h a es ep t,(pickOrder (w.params.setOrder a ep) es).toList.map (·.2),(Yy _ _).map _,fun A' hh=>?_,⟨g,hS.at fun o z=>by rw[e2];exact Heap.get?_push_of_some _ z⟩,fun b hm=>?_,by simp,by rw[e1];exact le_refl _,fun b o z=>by rw[e2];exact Heap.get?_push_of_some _ z,_,g,rfl⟩
  ·rw[hlen]
   exact Vv (t:=t) (ep:=ep) hh (by rw[e1];exact ne_of_lt hlt) _ (by rw[length_map,(Yy _ _).length_eq];simp) (fun _=>0) fun i s' A' Q' E' _ hS' q=>LH hb i s' A' Q' E' hS' q
  ·rw[e2,Heap.size_push]
   rcases mem_cons.mp hm with rfl|hm
   ·rw[e1];exact⟨lt_succ_self _,.inr (le_refl _)⟩
   ·obtain rfl:=mem_singleton.mp hm;exact⟨lt_succ_of_lt hlt,.inl rfl⟩
 ·have hb':w.params.followText "set-order" = false:=by simpa using hb
  by_cases hn:(!t.plain&&decide (es.size > 1))=true
  ·rw[if_pos (by rw[hb',hn];rfl)]
   refine wpAny_bind (Gh es.size (List.range es.size) s _ length_range fun pl d' hp=>wpAny_bind (wpAny_newObj_type ?_ ?_))
   ·have hS1:SetAt (s.heap.push (jJ pl)) a es ep t:=hS.at fun o z=>Heap.get?_push_of_some _ z
    refine fin (.ref s.heap.objs.size) (s.heap.push (jJ pl)) d' hS1 fun I h2 g e1 e2=>?_
    have gT:h2.get? s.heap.objs.size=some (jJ pl):=by rw[e2];exact Heap.get?_push_of_some _ (Heap.get?_push_size _ rfl)
    have sz:(s.heap.push (jJ pl)).objs.size=s.heap.objs.size+1:=Heap.size_push _ _
    refine h I h2 d' ⟨[I,a,s.heap.objs.size],fun i h=>h.get? I=some (wK (.ref s.heap.objs.size) i (.ref a) es.size ep)∧SetAt h a es ep t∧h.get? s.heap.objs.size=some (jJ pl),pl.filterMap (fun p=>(es.toList.map (·.2))[p]?),?_,fun A' hh=>?_,⟨g,hS1.at fun o z=>by rw[e2];exact Heap.get?_push_of_some _ z,gT⟩,fun b hm=>?_,by simp,by rw[e1,sz];exact le_succ _,fun b o z=>by rw[e2];exact Heap.get?_push_of_some _ (Heap.get?_push_of_some _ z),_,g,rfl⟩
    ·refine(hp.filterMap _).trans ?_
     have:(List.range es.size).filterMap (fun p=>(es.toList.map (·.2))[p]?)=es.toList.map (·.2):=by
      rw[← hlen]
      generalize es.toList.map (·.2)=l
      rw[Ug l _ fun p hp=>mem_range.mp hp]
      refine ext_getElem (by simp) fun i h1 h2=>?_
      simp[h2]
     rw[this]
    ·rw[hlen]
     exact GI (t:=t) hh (by rw[e1,sz];exact ne_of_lt (lt_succ_of_lt hlt)) (by rw[e1,sz];exact ne_of_lt (lt_succ_self _)) pl hp
    ·rw[e2,Heap.size_push,sz]
     rcases mem_cons.mp hm with rfl|hm
     ·rw[e1,sz];exact⟨lt_succ_self _,.inr (le_succ _)⟩
     ·rcases mem_cons.mp hm with rfl|hm
      ·exact⟨lt_succ_of_lt (lt_succ_of_lt hlt),.inl rfl⟩
      ·obtain rfl:=mem_singleton.mp hm;exact⟨lt_succ_of_lt (lt_succ_self _),.inr (le_refl _)⟩
   ·show(pl.map fun (i:Nat)=>rawInt i).toArray.size≤sizeLine
    rw[size_toArray,length_map,hp.length_eq,length_range]
    exact fits_of_scanBound hz
  ·have hn':(!t.plain&&decide (es.size > 1))=false:=by simpa using hn
   rw[if_neg (by rw[hn'];simp)]
   refine wpAny_bind (wpAny_pure (fin (rawInt 0) s.heap s.drawn hS fun I h2 g e1 e2=>?_))
   refine h I h2 s.drawn ⟨[I,a],fun i h=>h.get? I=some (wK (.int ((wT t i:Nat):Int) 0) i (.ref a) es.size ep)∧SetAt h a es ep t,es.toList.map (·.2),List.Perm.refl _,fun A' hh=>?_,⟨g,hS.at fun o z=>by rw[e2];exact Heap.get?_push_of_some _ z⟩,fun b hm=>?_,by simp,by rw[e1];exact le_refl _,fun b o z=>by rw[e2];exact Heap.get?_push_of_some _ z,_,g,rfl⟩
   ·rw[hlen]
    exact Vv (t:=t) (ep:=ep) hh (by rw[e1];exact ne_of_lt hlt) _ hlen (wT t) fun i s' A' Q' E' hi hS' q=>MA hb' hT hn' i s' A' Q' E' hi hS' q
   ·rw[e2,Heap.size_push]
    rcases mem_cons.mp hm with rfl|hm
    ·rw[e1];exact⟨lt_succ_self _,.inr (le_refl _)⟩
    ·obtain rfl:=mem_singleton.mp hm;exact⟨lt_succ_of_lt hlt,.inl rfl⟩
end
open PySem PyProof.Rows
section
variable{prog:Program}{w:World}{A:Around}{E:Value→Shared→Prop}{s:Shared}{a:Addr}{es:Array (Int×Value)}{ep:Nat}{t:SetTable}
abbrev emp:Obj:={ cls:=.type "list", data:=.seq ([]:List Value).toArray }
theorem M0(hS:SetAt s.heap a es ep t){Q:Bool→Shared→Prop}(q:Q false s):wpAny (model prog w) A (Builtin.List.listLengthHint (.ref a)) Q E s:=by
 obtain⟨⟨o,ho,hx,hd⟩,hf⟩:=hS
 have ty:s.TypeIs (.ref a) "set" := ⟨o,ho,hx.1⟩
 unfold Builtin.List.listLengthHint
 refine wpAny_bind (wpAny_specialOf ty F.slot_set_len.lookup ?_)
 have e1:splitId "set.__len__" = some ("set", "__len__"):=by kernel_rfl
 dsimp only
 rw[e1]
 dsimp only
 refine wpAny_bind (wpAny_isInstance ty sub_set_self ?_)
 rw[if_neg (by simp),if_pos (by kernel_rfl)]
 refine wpAny_bind (wpAny_typeOf ty ?_)
 exact wpAny_pure q
end
open PySem PyProof.Rows
section
variable{prog:Program}{w:World}{A:Around}{E:Value→Shared→Prop}{s:Shared}{a:Addr}{es:Array (Int×Value)}{ep:Nat}{t:SetTable}
theorem Vm(hS:SetAt s.heap a es ep t)(hT:TT (wc w) t)(hz:es.size<scanBound)(hh:A.handled=none){Q:List Value→Shared→Prop}(q:∀(ord:List Value) h' d' tk,ord.Perm (es.toList.map (·.2))→(∀b o,s.heap.get? b=some o→h'.get? b=some o)→s.heap.objs.size<h'.objs.size→Q ord { s with heap:=h',drawn:=d',toks:=tk }) :
  wpAny (model prog w) A (collect (.ref a)) Q E s:=by
 obtain⟨⟨o,ho,hx,hd⟩,hf⟩:=id hS
 have hlt:a<s.heap.objs.size:=Heap.lt_size ho
 unfold collect
 refine wpAny_bind (wpAny_runValue (codeAny_builtin F.entry_proto_collect ?_));rw[Around.under_plainId F.plain_proto_collect _]
 show wpAny _ A.in1 (newList [] >>= fun l=>again (.builtin "list.__iadd__" ⟨[l,.ref a],[]⟩)) _ _ s
 refine wpAny_bind (wpAny_newObj_type (wpAny_pure ⟨plainId_quiet F.plain_list_iadd _,codeAny_builtin F.entry_list_iadd ?_⟩));rw[Around.under_plainId F.plain_list_iadd _]
 have hS1:SetAt (s.heap.push emp) a es ep t:=hS.at fun o z=>Heap.get?_push_of_some _ z
 show wpAny _ A.in1 (Builtin.List.listExtendWith (.ref s.heap.objs.size) (.ref a) (.ref s.heap.objs.size)) _ _ _
 unfold Builtin.List.listExtendWith
 refine wpAny_bind (wpAny_typeOf (T := "set") ⟨o,Heap.get?_push_of_some _ ho,hx.1⟩ ?_)
 have c1:Builtin.List.listSameRef (.ref s.heap.objs.size) (.ref a)=false:=by
  have:s.heap.objs.size≠a:=ne_of_gt hlt
  simp[Builtin.List.listSameRef,this]
 have c2:(Value.type "set" == Value.type "list")=false:=by decide
 have c3:(Value.type "set" == Value.type "tuple")=false:=by decide
 simp only[c1,c2,c3,Bool.or_false,Bool.false_eq_true,if_false]
 refine wpAny_bind (MW (s:={ s with heap:=s.heap.push emp }) hS1 hT hz fun I h1 d' W=>?_)
 obtain⟨fp,St,ord,w1,w2,w3,w4,w5,w6,w7,_⟩:=W
 have sz1:(s.heap.push emp).objs.size=s.heap.objs.size+1:=Heap.size_push _ _
 have hlen:(es.toList.map (·.2)).length=es.size:=by simp
 refine wpAny_bind (wpAny_holding (M0 (s:={ s with heap:=h1,drawn:=d' }) (hS1.at fun o z=>w7 a o z) ?_))
 rw[if_pos (by kernel_rfl)]
 refine wpAny_bind (wpAny_rule (wpAny_bind ?_))
 show wpAny _ A.in1 (updateSeq s.heap.objs.size (·.push .none) >>= fun _=>updateSeq s.heap.objs.size (·.pop)) _ _ _
 have g1:h1.get? s.heap.objs.size=some emp:=w7 _ _ (Heap.get?_push_size _ rfl)
 refine wpAny_bind (wpAny_updateSeq g1 rfl ?_)
 have g2:=Heap.get?_update_self (Obj.mapSeq (·.push Value.none)) g1 rfl
 refine wpAny_updateSeq g2 rfl ?_
 have g3:=Heap.get?_update_self (Obj.mapSeq (·.pop)) g2 rfl
 have oth:∀b o,b≠s.heap.objs.size→h1.get? b=some o→((h1.update s.heap.objs.size (Obj.mapSeq (·.push Value.none))).update s.heap.objs.size (Obj.mapSeq (·.pop))).get? b=some o:=fun b o hb e=>
  (Heap.get?_update_other _ _ (Ne.symm hb)).trans ((Heap.get?_update_other _ _ (Ne.symm hb)).trans e)
 have W':=(w2 A.in1 (by simp[hh])).toS
 have hSf:s.heap.objs.size∉fp:=fun hm=>by
  rcases (w4 _ hm).2 with e|e
  ·exact lt_irrefl _ (e ▸ hlt)
  ·have e':(s.heap.push emp).objs.size≤s.heap.objs.size:=e
   rw[sz1] at e';exact Nat.not_succ_le_self _ e'
 have st1:=W'.frame 0 { s with heap:=h1,drawn:=d' } ((h1.update s.heap.objs.size (Obj.mapSeq (·.push Value.none))).update s.heap.objs.size (Obj.mapSeq (·.pop))) s.toks w3 (by simp) fun b hb o e=>oth b o (fun h=>hSf (h ▸ hb)) e
 refine wpAny_pure ⟨plainId_quiet F.plain_extend_loop _,codeAny_extend_loopS (A:=A) W' (by rw[hlen];exact fits_of_scanBound hz) _ hSf _ _ 0 _ _ _ rfl (zero_le _) st1 g3 (ItemsOf.nil _) fun s' acc' c' hm hS' hacc=>?_⟩
 show wpAny _ A (load s.heap.objs.size >>= _) _ _ s'
 refine wpAny_bind (wpAny_load hS' (wpAny_pure ?_))
 have eq:s' = { s with heap:=s'.heap,drawn:=d',toks:=s'.toks }:=by
  obtain⟨_,g,d,o,_⟩:=hm
  cases s';simp only at g d o;subst g;subst d;subst o;rfl
 rw[eq]
 have ea:acc'.toList=ord:=by
  refine List.ext_getElem? fun i=>?_
  by_cases hi:i<acc'.size
  ·have:=hacc.2 i (acc'[i]) (by simp[hi])
   rw[this];simp[hi]
  ·have:ord.length=acc'.size:=by rw[w1.length_eq,hacc.1]
   simp[hi,this]
 rw[ea]
 refine q ord _ _ _ w1 (fun b o hb=>hm.heap b o ?_ ?_) (Heap.lt_size hS')
 ·have hb':=Heap.lt_size hb
  intro h
  rcases mem_cons.mp h with e|h
  ·exact lt_irrefl _ (e ▸ hb')
  ·have e:=mem_singleton.mp h
   have e':(s.heap.push emp).objs.size≤I:=w6
   rw[sz1] at e';subst e;exact lt_irrefl _ (lt_of_lt_of_le hb' (Nat.le_of_succ_le e'))
 ·exact oth b o (ne_of_lt (Heap.lt_size hb)) (w7 b o (Heap.get?_push_of_some _ hb))
end
open PySem PyProof.Rows
def ZT(a:Int):List Int→List Int
 |[]=>[a]
 |b::r=>if a<b then a::b::r else if a=b then b::r else b::ZT a r
def setZ:List Int→List Int
 |[]=>[]
 |a::r=>ZT a (setZ r)
theorem ZS(a x:Int):∀l,x∈ZT a l↔x=a∨x∈l
 |[]=>by simp[ZT]
 |b::r=>by
  unfold ZT;split
  ·simp
  ·split
   ·rename_i h;subst h;simp
   ·rw[mem_cons,ZS a x r,mem_cons]
    exact⟨fun h=>h.elim (fun e=>.inr (.inl e)) fun h=>h.elim .inl fun h=>.inr (.inr h),fun h=>h.elim (fun e=>.inr (.inl e)) fun h=>h.elim .inl fun h=>.inr (.inr h)⟩
theorem setZ_mem(x:Int):∀l,x∈setZ l↔x∈l
 |[]=>by simp[setZ]
 |a::r=>by rw[setZ,ZS,setZ_mem x r,mem_cons]
theorem Uc(a:Int):∀l:List Int,l.Pairwise (· < ·)→(ZT a l).Pairwise (· < ·)
 |[],_=>by simp[ZT]
 |b::r,h=>by
  have h':=pairwise_cons.mp h
  unfold ZT;split
  ·rename_i z
   refine pairwise_cons.mpr ⟨fun x hx=>?_,h⟩
   rcases mem_cons.mp hx with rfl|hx
   ·exact z
   ·exact Int.lt_trans z (h'.1 x hx)
  ·split
   ·exact h
   ·refine pairwise_cons.mpr ⟨fun x hx=>?_,Uc a r h'.2⟩
    rcases (ZS a x r).mp hx with rfl|hx
    ·omega
    ·exact h'.1 x hx
theorem setZ_up:∀l:List Int,(setZ l).Pairwise (· < ·)
 |[]=>.nil
 |a::r=>Uc a _ (setZ_up r)
theorem up_same:∀{l m:List Int},l.Pairwise (· < ·)→m.Pairwise (· < ·)→(∀x,x∈l↔x∈m)→l=m
 |[],[],_,_,_=>rfl
 |[],b::m,_,_,h=>by have:=(h b).mpr mem_cons_self;cases this
 |a::l,[],_,_,h=>by have:=(h a).mp mem_cons_self;cases this
 |a::l,b::m,h1,h2,h=>by
  have g1:=pairwise_cons.mp h1
  have g2:=pairwise_cons.mp h2
  have e:a=b:=by
   rcases mem_cons.mp ((h a).mp mem_cons_self) with e|e
   ·exact e
   ·rcases mem_cons.mp ((h b).mpr mem_cons_self) with e' | e'
    ·exact e'.symm
    ·have:=g2.1 a e;have:=g1.1 b e';omega
  subst e
  refine congrArg _ (up_same g1.2 g2.2 fun x=>⟨fun hx=>?_,fun hx=>?_⟩)
  ·rcases mem_cons.mp ((h x).mp (mem_cons_of_mem _ hx)) with e|e
   ·subst e;exact absurd (g1.1 x hx) (Int.lt_irrefl _)
   ·exact e
  ·rcases mem_cons.mp ((h x).mpr (mem_cons_of_mem _ hx)) with e|e
   ·subst e;exact absurd (g2.1 x hx) (Int.lt_irrefl _)
   ·exact e
theorem setZ_le:∀l:List Int,(setZ l).length≤l.length
 |[]=>le_refl _
 |a::r=>by
  have:∀l:List Int,(ZT a l).length≤l.length+1:=fun l=>by
   induction l with
   |nil=>simp[ZT]
   |cons b r ih=>
    unfold ZT;split
    ·simp
    ·split
     ·simp
     ·simp only[length_cons];omega
  have h1:=this (setZ r);have h2:=setZ_le r
  rw[setZ,length_cons];omega
theorem fm_nodup(val:Nat→Int):∀n,(firstMet val n).Nodup
 |0=>.nil
 |n+1=>by
  rw[firstMet_succ];unfold step_dedup
  split
  ·exact fm_nodup val n
  ·rename_i h
   have h:val n∉firstMet val n:=fun q=>h (any_eq_true.mpr ⟨_,q,by simp⟩)
   first
    |exact List.nodup_append.mpr ⟨fm_nodup val n,by simp,fun x hx y hy=>by have:=mem_singleton.mp hy;subst this;exact fun e=>h (e ▸ hx)⟩
    | exact nodup_cons.mpr ⟨h,fm_nodup val n⟩
theorem fm_mem(ns:List Int)(x:Int):x∈fm ns ns.length↔x∈ns:=by
 have h:=firstMet_any (fun i=>ns.getD i 0) ns.length x
 have e:(List.range ns.length).map (fun i=>ns.getD i 0)=ns:=ext_getElem (by simp) fun i h1 h2=>by simp[h2]
 rw[e] at h
 have a:∀l:List Int,l.any (· == x)=true↔x∈l:=fun l=>by simp
 rw[← a,h,a]
section
variable{prog:Program}{w:World}{A:Around}{E:Value→Shared→Prop}{s:Shared}{a:Addr}{ns:List Int}{n:Nat}
end
end STW
set_option Elab.async false
set_option linter.all false
set_option maxRecDepth 100000
namespace FD
open PySem PySem.Spec PyProof.Rows L2
variable[Tabs]
def jN:List D→Option (List Int)
 |[]=>some []
 |.int i::r=>(jN r).map (i :: ·)
 |_::_=>none
omit [Tabs] in
theorem Wg:∀{ds:List D} {ns:List Int},jN ds=some ns→ds=ns.map D.int
 |[],ns,h=>by cases h;rfl
 |d::r,ns,h=>by
  cases d with
  |int i=>
   simp only[jN] at h
   cases q:jN r with
   |none=>rw[q] at h;cases h
   |some m=>rw[q] at h;cases h;rw[map_cons,← Wg q]
  |_=>cases h
omit [Tabs] in
theorem Vc(ns:List Int):jN (ns.map D.int)=some ns:=by
 induction ns with
 |nil=>rfl
 |cons n ns ih=>rw[map_cons,jN,ih];rfl
omit [Tabs] in
theorem Xx:∀{vs:List Value} {ns:List Int},IntsAre vs ns→Vals (ns.map V.int) vs
 |_,_,.nil=>.nil
 |_,_,.cons n t r=>.cons ⟨t,rfl⟩ (Xx r)
section
variable{X:Cx}{e:Expr}{pos:Pos}{fs:FA}
theorem Jb{pins:List (Addr×Obj)}{σ:St}{H:Hp}{s:Shared}(d:Drawn)(I:Inv X pins σ H s):Inv X pins σ H { s with drawn:=d }:=
 ⟨I.ok,I.os,I.bare,I.base,I.loc,I.cell,I.free,I.freeC,I.pin,I.hok,I.len⟩
end
section
variable{X:Cx}
end
end FD
set_option Elab.async false
set_option linter.all false
namespace L2
open PySem PySem.Spec PyProof.Rows
section
variable{κ:Type}[DecidableEq κ]
def wX(kvs:List (κ×V))(k:κ):Option V:=(kvs.find? fun kv=>decide (kv.1=k)).map (·.2)
def ji(kvs:List (κ×V))(k:κ)(v:V):List (κ×V):=
 if (kvs.any fun kv=>decide (kv.1=k))=true then kvs.map (fun kv=>if kv.1=k then (kv.1,v) else kv) else kvs++[(k,v)]
theorem vG{p:κ×V}{r:List (κ×V)}{k:κ}(e:p.1=k):wX (p::r) k=some p.2:=by simp[wX,find?_cons,e]
theorem wR{p:κ×V}{r:List (κ×V)}{k:κ}(e:¬ p.1=k):wX (p::r) k=wX r k:=by simp[wX,find?_cons,e]
theorem Zm(k:κ):∀kvs:List (κ×V),(kvs.any fun kv=>decide (kv.1=k))=(wX kvs k).isSome
 |[]=>rfl
 |p::r=>by
  rw[List.any_cons]
  by_cases e:p.1=k
  ·simp only[vG e,decide_eq_true e,Bool.true_or,Option.isSome_some]
  ·rw[wR e,decide_eq_false e,Bool.false_or];exact Zm k r
theorem jK(kvs:List (κ×V))(k:κ)(v:V):(ji kvs k v).length≤kvs.length+1:=by
 unfold ji
 split
 ·rw[length_map];omega
 ·rw[length_append,length_cons,length_nil];omega
theorem RelO.isSome_eq{o:Option V}{u:Option Value}(r:RelO o u):o.isSome=u.isSome:=by
 cases o with
 |none=>cases u with
  |none=>rfl
  |some _=>exact(show False from r).elim
 |some _=>cases u with
  |none=>exact(show False from r).elim
  |some _=>rfl
theorem RelO.getD{o:Option V}{u:Option Value}{d:V}{d':Value}(r:RelO o u)(rd:RelV d d'):RelV (o.getD d) (u.getD d'):=by
 cases o with
 |none=>cases u with
  |none=>exact rd
  |some _=>exact(show False from r).elim
 |some _=>cases u with
  |none=>exact(show False from r).elim
  |some _=>exact r
theorem KV.val{kvs:List (κ×V)}{vs:List (κ×Value)}(r:KV kvs vs)(k:κ):RelO (wX kvs k) (valueAt vs k):=by
 unfold KV at r
 induction r with
 |nil=>exact True.intro
 | @cons p q ps qs h t ih=>
  obtain⟨h1,h2⟩:=h
  by_cases e:p.1=k
  ·have e':q.1=k:=h1.symm.trans e
   have b:valueAt (q::qs) k=some q.2:=by simp[valueAt,find?_cons,e']
   rw[vG e,b];exact h2
  ·have e':¬ q.1=k:=fun z=>e (h1.trans z)
   have b:valueAt (q::qs) k=valueAt qs k:=by simp[valueAt,find?_cons,e']
   rw[wR e,b];exact ih
theorem KV.any{kvs:List (κ×V)}{vs:List (κ×Value)}(r:KV kvs vs)(k:κ):(kvs.any fun kv=>decide (kv.1=k))=vs.any fun kv=>decide (kv.1=k):=by
 unfold KV at r
 induction r with
 |nil=>rfl
 |cons h t ih=>rw[List.any_cons,List.any_cons,ih,h.1]
theorem KV.repl{kvs:List (κ×V)}{vs:List (κ×Value)}(r:KV kvs vs)(k:κ){y:V}{u:Value}(ry:RelV y u) :
  KV (kvs.map fun kv=>if kv.1=k then (kv.1,y) else kv) (vs.map fun kv=>if kv.1=k then (kv.1,u) else kv):=by
 unfold KV at r ⊢
 induction r with
 |nil=>exact .nil
 | @cons p q ps qs h t ih=>
  rw[map_cons,map_cons]
  refine .cons ?_ ih
  obtain⟨h1,h2⟩:=h
  by_cases e:p.1=k
  ·rw[if_pos e,if_pos (h1.symm.trans e)];exact⟨h1,ry⟩
  ·rw[if_neg e,if_neg (fun z=>e (h1.trans z))];exact⟨h1,h2⟩
theorem KV.put{kvs:List (κ×V)}{vs:List (κ×Value)}(r:KV kvs vs)(k:κ){y:V}{u:Value}(ry:RelV y u):KV (ji kvs k y) (stored vs k u):=by
 unfold ji stored
 rw[r.any k]
 by_cases e:(vs.any fun kv=>decide (kv.1=k))=true
 ·rw[if_pos e,if_pos e];exact r.repl k ry
 ·rw[if_neg e,if_neg e];exact Paired.snoc r ⟨rfl,ry⟩
theorem KV.keys{kvs:List (κ×V)}{vs:List (κ×Value)}(r:KV kvs vs):kvs.map (·.1)=vs.map (·.1):=by
 unfold KV at r
 induction r with
 |nil=>rfl
 |cons h t ih=>rw[map_cons,map_cons,ih,h.1]
theorem KV.length{kvs:List (κ×V)}{vs:List (κ×Value)}(r:KV kvs vs):kvs.length=vs.length:=Paired.length r
end
theorem YK{P:Program}{w:World}{k:Key}{u:Value}(r:RelV (kV k) u):(yC P w).is k u=true:=by
 cases k with
 |inl i=>obtain⟨t,e⟩:=(show ∃t,u=Value.int i t from r);subst e;exact X6 P w i t
 |inr x=>obtain⟨t,e⟩:=(show ∃t,u=Value.str x t from r);subst e;exact X5 P w x t
theorem YL{P:Program}{w:World}:∀{ks:List Key} {us:List Value},Vals (ks.map kV) us→ItemsAre (yC P w) ks us
 |[],_,r=>by rw[map_nil] at r;cases r;exact .nil
 |k::ks,_,r=>by
  rw[map_cons] at r
  cases r with
  |cons h t=>exact .cons (YK h) (YL t)
abbrev KT(H:Hp):List (List Key×V)→List (List Key×Addr×Value)→Prop:=Paired fun p q=>p.1=q.1∧H q.2.1=some (.tup (p.1.map kV))∧RelV p.2 q.2.2
theorem KT.val{H:Hp}{kvs:List (List Key×V)}{xs:List (List Key×Addr×Value)}(r:KT H kvs xs)(k:List Key):RelO (wX kvs k) ((atKey xs k).map (·.2)):=by
 induction r with
 |nil=>exact True.intro
 | @cons p q ps qs h t ih=>
  obtain⟨h1,_,h2⟩:=h
  by_cases e:p.1=k
  ·have e':q.1=k:=h1.symm.trans e
   have b:atKey (q::qs) k=some q.2:=by simp[atKey,find?_cons,e']
   rw[vG e,b];exact h2
  ·have e':¬ q.1=k:=fun z=>e (h1.trans z)
   have b:atKey (q::qs) k=atKey qs k:=by simp[atKey,find?_cons,e']
   rw[wR e,b];exact ih
theorem KT.repl{H:Hp}{kvs:List (List Key×V)}{xs:List (List Key×Addr×Value)}(r:KT H kvs xs)(k:List Key){y:V}{u:Value}(ry:RelV y u) :
  KT H (kvs.map fun kv=>if kv.1=k then (kv.1,y) else kv) (xs.map (putAt k u)):=by
 induction r with
 |nil=>exact .nil
 | @cons p q ps qs h t ih=>
  rw[map_cons,map_cons]
  refine .cons ?_ ih
  obtain⟨h1,h2,h3⟩:=h
  unfold putAt
  by_cases e:p.1=k
  ·rw[if_pos e,if_pos (h1.symm.trans e)];exact⟨h1,h2,ry⟩
  ·rw[if_neg e,if_neg (fun z=>e (h1.trans z))];exact⟨h1,h2,h3⟩
theorem KT.put{H:Hp}{kvs:List (List Key×V)}{xs:List (List Key×Addr×Value)}(r:KT H kvs xs)(k:List Key){b:Addr}{y:V}{u:Value}(hb:H b=some (.tup (k.map kV)))(ry:RelV y u) :
  KT H (ji kvs k y) (storedH xs k b u):=by
 have e:(kvs.any fun kv=>decide (kv.1=k))=(atKey xs k).isSome:=by
  rw[Zm,(r.val k).isSome_eq,Option.isSome_map]
 unfold ji storedH
 rw[e]
 by_cases q:(atKey xs k).isSome=true
 ·rw[if_pos q,if_pos q];exact r.repl k ry
 ·rw[if_neg q,if_neg q];exact Paired.snoc r ⟨rfl,hb,ry⟩
theorem KT.keeps{H H':Hp}{kvs:List (List Key×V)}{xs:List (List Key×Addr×Value)}(r:KT H kvs xs)(ht:∀b ys,H b=some (.tup ys)→H' b=some (.tup ys)):KT H' kvs xs:=
 Paired.mapP r fun _ _ z=>⟨z.1,ht _ _ z.2.1,z.2.2⟩
section
variable{P:Program}{w:World}{H:Hp}{h:Heap}{a:Addr}
theorem Tt{u:HO}(ok:HOk P w H h)(e:Rd H a u):ObjOk P w H h a u:=e.ok ok
theorem YT{kvs:List (Key×V)}(ok:HOk P w H h)(e:Rd H a (.dK kvs)):kvs.length≤sizeLine∧(a==sysModules)=false∧∃vs,KV kvs vs∧h.DictOf (yC P w) a vs:=
 show ObjOk P w H h a (.dK kvs) from Tt ok e
theorem TU{kvs:List (Key×V)}(ok:HOk P w H h)(e:H a=some (.dK kvs)):kvs.length≤sizeLine∧(a==sysModules)=false∧∃vs,KV kvs vs∧h.DictOf (yC P w) a vs:=YT ok (.inl e)
theorem ZN{ks:List Key}(ok:HOk P w H h)(e:H a=some (.tup (ks.map kV))):(tupleKind (yC P w)).is h ks a:=by
 obtain⟨_,its,r,o,h1,h2,n,h3⟩:=(show ObjOk P w H h a (.tup (ks.map kV)) from ok a _ e)
 exact⟨o,its.toArray,n,h1,h2,h3,by simpa using YL r⟩
theorem YS{kvs:List (List Key×V)}(ok:HOk P w H h)(e:Rd H a (.dT kvs)):kvs.length≤sizeLine∧(a==sysModules)=false ∧
  ∃xs,KT H kvs xs∧h.DictOfH (tupleKind (yC P w)) a xs:=by
 obtain⟨z,y,xs,r,o,es,ep,h1,h2,h3,h4,h5⟩:=(show ObjOk P w H h a (.dT kvs) from Tt ok e)
 refine⟨z,y,xs,r,o,es,ep,h1,h2,h3,h4,fun x hx=>?_,h5⟩
 have all:∀{l:List (List Key×V)} {m:List (List Key×Addr×Value)},KT H l m→∀x∈m,(tupleKind (yC P w)).is h x.1 x.2.1:=by
  intro l m q
  induction q with
  |nil=>intro x hx;exact nomatch hx
  | @cons p q ps qs hq t ih=>
   intro x hx
   rcases mem_cons.mp hx with e|hx
   ·subst e
    exact ZN ok (by rw[← hq.1];exact hq.2.1)
   ·exact ih x hx
 exact all r x hx
theorem dt_of{kvs:List (List Key×V)}(ok:HOk P w H h)(e:H a=some (.dT kvs)):kvs.length≤sizeLine∧(a==sysModules)=false ∧
  ∃xs,KT H kvs xs∧h.DictOfH (tupleKind (yC P w)) a xs:=YS ok (.inl e)
end
def DGet(H:Hp)(a:Addr)(y:V)(r:Option V):Prop:=
 (∃kvs k,Rd H a (.dK kvs)∧y=kV k∧r=wX kvs k)∨∃kvs k b,Rd H a (.dT kvs)∧y=.ref b∧H b=some (.tup (k.map kV))∧r=wX kvs k
def DPut(H:Hp)(a:Addr)(y v:V)(H':Hp):Prop:=
 (∃kvs k,H a=some (.dK kvs)∧y=kV k∧kvs.length<sizeLine∧H'=upd H a (.dK (ji kvs k v))) ∨
 ∃kvs k b,H a=some (.dT kvs)∧y=.ref b∧H b=some (.tup (k.map kV))∧kvs.length<sizeLine∧H'=upd H a (.dT (ji kvs k v))
theorem DGet.k{H:Hp}{a:Addr}{kvs:List (Key×V)}{k:Key}(e:H a=some (.dK kvs)):DGet H a (kV k) (wX kvs k):=.inl ⟨kvs,k,.inl e,rfl,rfl⟩
theorem DPut.k{H:Hp}{a:Addr}{kvs:List (Key×V)}{k:Key}{v:V}(e:H a=some (.dK kvs))(hl:kvs.length<sizeLine):DPut H a (kV k) v (upd H a (.dK (ji kvs k v))):=.inl ⟨kvs,k,e,rfl,hl,rfl⟩
section
variable{X:Cx}{pins:List (Addr×Obj)}{σ:St}{H:Hp}{s:Shared}{a:Addr}{y v:V}{u r:Value}{o:Option V}{A:Around}{E:Value→Shared→Prop}
theorem Inv.big(I:Inv X pins σ H s):sysModules<s.heap.objs.size:=by
 have h:mainGlobals<s.heap.objs.size:=(I.mod.glob.keeps I.bk).lt
 exact lt_trans (by decide) h
theorem Jn{Q:Value→Shared→Prop}(hu:A.units+1<cLine)(I:Inv X pins σ H s)(g:DGet H a y (some v))(ry:RelV y u)(h:∀w' s',Inv X pins σ H s'→RelV v w'→Q w' s') :
  wpAny (model X.prog X.w) A (getItem (.ref a) u) Q E s:=by
 rcases g with ⟨kvs,k,e,ey,l⟩|⟨kvs,k,b,e,ey,eb,l⟩
 ·subst ey
  obtain⟨z,hd,vs,rel,dd⟩:=YT I.hok e
  obtain⟨w',hw,rw'⟩:=RelO.some_of (v:=v) (o:=valueAt vs k) (by rw[l];exact rel.val k)
  exact wpAny_getItem_of (YK ry) dd.mapOf hw (h w' _ (I.tok _) rw')
 ·subst ey
  cases (show u=Value.ref b from ry)
  obtain⟨z,hd,xs,rel,dd⟩:=YS I.hok e
  obtain⟨w',hw,rw'⟩:=RelO.some_of (v:=v) (o:=(atKey xs k).map (·.2)) (by rw[l];exact rel.val k)
  obtain⟨p,hp,hp2⟩:=Option.map_eq_some_iff.mp hw
  refine wpAny_getItem_heap (tupleKind_room_in1 hu) (ZN I.hok eb) dd hp ?_
  rw[hp2]
  exact h w' _ (I.tok _) rw'
theorem Tc{Q:Value→Shared→Prop}(hu:A.units+1<cLine)(I:Inv X pins σ H s)(g:DGet H a y o)(ry:RelV y u)(h:∀s',Inv X pins σ H s'→Q (.bool (!o.isSome)) s') :
  wpAny (model X.prog X.w) A (compareOp .NotIn u (.ref a)) Q E s:=by
 rcases g with ⟨kvs,k,e,ey,l⟩|⟨kvs,k,b,e,ey,eb,l⟩
 ·subst ey
  obtain⟨z,hd,vs,rel,dd⟩:=YT I.hok e
  refine wpAny_notIn_of (YK ry) hd dd.mapOf ?_
  rw[← (rel.val k).isSome_eq,← l]
  exact h _ (I.tok _)
 ·subst ey
  cases (show u=Value.ref b from ry)
  obtain⟨z,hd,xs,rel,dd⟩:=YS I.hok e
  refine wpAny_notIn_heap (tupleKind_room_in1 hu) (ZN I.hok eb) hd dd ?_
  have q:=(rel.val k).isSome_eq
  rw[Option.isSome_map] at q
  rw[← q,← l]
  exact h _ (I.tok _)
theorem Um{h':Heap}{t':Nat}{ob:HO}(I:Inv X pins σ H s)(mu:Mut (H a))(hs:Heap.SameBut a s.heap h')(he:∃q,h'.get? a=some q)(new:ObjOk X.prog X.w (upd H a ob) h' a ob) :
  Inv X pins σ (upd H a ob) { s with heap:=h',toks:=t' }:=
 I.write (x:=a) (e:=a) mu (.inl rfl) (fun b q hb z=>(hs.2 b hb).trans z) he new
theorem zb2{P:Program}{w:World}{H':Hp}{h':Heap}{kvs:List (Key×V)}{vs:List (Key×Value)}(z:kvs.length≤sizeLine)(hd:(a==sysModules)=false)(rel:KV kvs vs)(dd:h'.DictOf (yC P w) a vs) :
  ObjOk P w H' h' a (.dK kvs):=⟨z,hd,vs,rel,dd⟩
theorem Jm{H':Hp}{Q:Unit→Shared→Prop}(hu:A.units+1<cLine)(I:Inv X pins σ H s)(g:DPut H a y v H')(ry:RelV y u)(rv:RelV v r)(h:∀s',Inv X pins σ H' s'→Q () s') :
  wpAny (model X.prog X.w) A (setItem (.ref a) u r) Q E s:=by
 rcases g with ⟨kvs,k,e,ey,l,eH⟩|⟨kvs,k,b,e,ey,eb,l,eH⟩
 ·subst ey eH
  obtain⟨z,hd,vs,rel,dd⟩:=TU I.hok e
  have hz:vs.length≤sizeLine:=by rw[← rel.length];exact z
  have hl:(ji kvs k v).length≤sizeLine:=by have:=jK kvs k v;omega
  refine wpAny_setItem_pairs (hsz:=hz) (YK ry) dd fun h' dd' hs=>h _ ?_
  have he:∃q,h'.get? a=some q:=let ⟨q,_,_,hq,_⟩:=dd';⟨q,hq⟩
  exact Um I (by rw[e];exact True.intro) hs he (zb2 hl hd (rel.put k rv) dd')
 ·subst ey eH
  cases (show u=Value.ref b from ry)
  obtain⟨z,hd,xs,rel,dd⟩:=dt_of I.hok e
  have hz:xs.length≤sizeLine:=by rw[← Paired.length rel];exact z
  have hl:(ji kvs k v).length≤sizeLine:=by have:=jK kvs k v;omega
  refine wpAny_setItem_heap (hsz:=hz) (tupleKind_room_in1 hu) (ZN I.hok eb) dd fun h' dd' hs=>h _ ?_
  obtain⟨q,es,ep,hq,h2,h3,h4,_,h5⟩:=dd'
  refine Um I (by rw[e];exact True.intro) hs ⟨q,hq⟩ ⟨hl,hd,_,(rel.put k eb rv).keeps fun c ys ec=>?_,q,es,ep,hq,h2,h3,h4,h5⟩
  rw[zn (ne_of ec e (fun z=>nomatch z))]
  exact ec
end
section
variable{X:Cx}{pins:List (Addr×Obj)}{σ:St}{H:Hp}{s:Shared}{a:Addr}{kvs:List (Key×V)}{k:Key}{u:Value}{A:Around}{E:Value→Shared→Prop}
end
def zc3(i:Expr):Prop:=∀ov iv,subscripted i false ov iv=operate [ov,iv] (getItem ov iv)
theorem GR{prog:Program}{w:World}{A:Around}{E:Value→Shared→Prop}{s:Shared}{env:Env}{value slice:Expr}{pos:Pos}{T id:String}{Q:Value→Shared→Prop}
  (hl:typeLookup (.type T) "__getitem__" = pure (some (.builtin id))) (hs:zc3 slice)
  (h:wpAny (model prog w) A (eval value env) (fun o s₁=>wpAny (model prog w) A (eval slice env) (fun i s₂=>s₂.TypeIs o T∧wpAny (model prog w) A (getItem o i) Q E s₂) E s₁) E s) :
  wpAny (model prog w) A (eval (.Subscript value slice pos) env) Q E s:=by
 refine Subscript_ (wpAny_mono h (fun o s₁ h₁=>wpAny_mono h₁ (fun i s₂ h₂=>?_) fun _ _ x=>x) fun _ _ x=>x)
 obtain⟨hT,h₂⟩:=h₂
 unfold subscriptTail
 refine wpAny_bind ?_
 rw[getitemInPython_of_ne hT.not_modules]
 refine wpAny_bind (wpAny_specialOf hT hl ?_)
 have fin:wpAny (model prog w) A (subscripted slice false o i) (fun r s₃=>wpAny (model prog w) A (letTemporaryGo value o r >>= fun _=>pure r) Q E s₃) E s₂:=by
  rw[hs o i]
  exact wpAny_operating (wpAny_mono h₂ (fun r s₃ h₃=>wpAny_bind (wpAny_letTemporaryGo (wpAny_pure h₃))) fun _ _ x=>x)
 first
  | exact wpAny_pure (wpAny_bind fin)
  | exact wpAny_bind (wpAny_pure (wpAny_bind fin))
  | exact wpAny_bind fin
theorem Ww{X:Cx}{pins:List (Addr×Obj)}{σ:St}{H:Hp}{s:Shared}{a:Addr}{y:V}{o:Option V}(I:Inv X pins σ H s)(g:DGet H a y o):s.TypeIs (.ref a) "dict" := by
 rcases g with ⟨kvs,k,e,_,_⟩|⟨kvs,k,b,e,_,_,_⟩
 ·obtain⟨_,_,vs,_,dd⟩:=YT I.hok e
  exact dd.typeIs
 ·obtain⟨_,_,xs,_,dd⟩:=YS I.hok e
  exact dd.typeIs
def XF(td ty:TE):TE:=fun σ H Q=>td σ H fun x H1=>ty σ H1 fun y H2=>∃a v,x=.ref a∧DGet H2 a y (some v)∧Q v H2
def GQ(ty td:TE):TE:=fun σ H Q=>ty σ H fun y H1=>td σ H1 fun x H2=>∃a o,x=.ref a∧DGet H2 a y o∧Q (.bl (!o.isSome)) H2
def Tr(td ty tv:TE):TS:=fun D σ H=>tv σ H fun v H1=>td σ H1 fun x H2=>ty σ H2 fun y H3=>∃a H4,x=.ref a∧DPut H3 a y v H4∧D.nx σ H4
section
variable{X:Cx}{o i e value:Expr}{pos pos' tpos:Pos}{td ty tv:TE}
theorem VM(hu:X.A.units+1<cLine)(ho:PE X o td)(hi:PE X i ty)(hs:zc3 i):PE X (.Subscript o i pos) (XF td ty):=by
 intro pins s σ H Q I h
 refine GR PySem.F.slot_dict_getitem.lookup hs (thn (ho pins s σ H _ I h) fun u s1 ⟨x,H1,I1,rx,q1⟩=>thn (hi pins s1 σ H1 _ I1 q1) fun iv s2 ⟨y,H2,I2,ry,a,v,ex,g,q2⟩=>?_)
 subst ex
 obtain rfl:u=Value.ref a:=rx
 exact⟨Ww I2 g,Jn hu I2 g ry fun w' s3 I3 rw'=>⟨v,H2,I3,rw',q2⟩⟩
theorem UU(hu:X.A.units+1<cLine)(hi:PE X i ty)(ho:PE X o td):PC X .NotIn i o (GQ ty td):=by
 intro pins s σ H Q I h
 refine thn (hi pins s σ H _ I h) fun iv s1 ⟨y,H1,I1,ry,q1⟩=>thn (ho pins s1 σ H1 _ I1 q1) fun u s2 ⟨x,H2,I2,rx,a,ov,ex,g,q2⟩=>?_
 subst ex
 obtain rfl:u=Value.ref a:=rx
 exact Tc hu I2 g ry fun s3 I3=>⟨.bl (!ov.isSome),H2,I3,rfl,q2⟩
theorem Mh(hu:X.A.units+1<cLine)(ho:PE X o td)(hi:PE X i ty)(hv:PE X value tv)(hs:swapsWith value (some (.Subscript o i pos')) pos.line X.env=pure false) :
  PS X (.Assign [.Subscript o i pos'] value pos) (Tr td ty tv):=by
 intro pins s σ H D I h
 refine wpAny_Assign_Subscript (thn (hv pins s σ H _ I h) fun r s1 ⟨v,H1,I1,rv,q1⟩=>thn (ho pins s1 σ H1 _ I1 q1) fun u s2 ⟨x,H2,I2,rx,q2⟩=>thn (hi pins s2 σ H2 _ I2 q2) fun iv s3 ⟨y,H3,I3,ry,a,H4,ex,g,q3⟩=>?_) hs
 subst ex
 obtain rfl:u=Value.ref a:=rx
 exact Jm hu I3 g ry rv fun s4 I4=>⟨σ,H4,I4,q3⟩
end
theorem Gi{P:Program}{w:World}{H:Hp}(h:Heap)(hb:sysModules<h.objs.size):ObjOk P w H (h.push { cls:=.type "dict", data:=.dict #[] }) h.objs.size (.dK []):=
 ⟨zero_le _,beq_eq_false_iff_ne.mpr (Ne.symm (ne_of_lt hb)),[],.nil,Heap.DictOf.new h⟩
def T2:TE:=fun _ H Q=>∀p,H p=none→Q (.ref p) (upd H p (.dK []))
section
variable{X:Cx}{pos:Pos}
theorem J8:PE X (.Dict [] [] pos) T2:=fun pins s σ H Q I h=>
 wpAny_Dict_empty ⟨.ref s.heap.objs.size,_,I.laid (a:=s.heap.objs.size) (o:=.dK []) (t':=s.toks) (fun _ _ q=>Heap.get?_push_of_some _ q) (le_refl _) (Gi s.heap I.big),rfl,h _ (I.hok.fresh (le_refl _))⟩
end
structure M2(X:Cx)(o:Expr)(m:Str)(apos:Pos)(e f:Expr)(cpos:Pos):Prop where
 base:attributeBase o m X.env (eval o X.env)=eval o X.env
 few:((backTo cpos (starEach [e,f] X.env)).all (fun x=>!x.1)&&(backToKw cpos (keywordEach [] X.env)).all (fun x=>x.1.isSome)
  && decide (([e,f]:List Expr).length+([]:List Keyword).length+(if ([]:List Keyword).isEmpty then 0 else 1)<30))=true
 line:(apos.endLine==cpos.line)=true
 trees:backTo cpos (starEach [e,f] X.env)=[(false,eval e X.env),(false,eval f X.env)]
def IsD(H:Hp)(a:Addr):Prop:=(∃kvs,Rd H a (.dK kvs))∨∃kvs,Rd H a (.dT kvs)
theorem L5{X:Cx}{pins:List (Addr×Obj)}{σ:St}{H:Hp}{s:Shared}{a:Addr}(I:Inv X pins σ H s)(d:IsD H a) :
  s.TypeIs (.ref a) "dict" ∧ (∀b,Value.ref a=.ref b→∃ob,s.heap.get? b=some ob∧ob.dict=none)∧(a==sysModules)=false:=by
 rcases d with ⟨kvs,e⟩|⟨kvs,e⟩
 ·obtain⟨_,hd,vs,_,dd⟩:=YT I.hok e
  refine⟨dd.typeIs,fun b q=>?_,hd⟩
  cases q
  obtain⟨ob,_,_,h1,h2,_⟩:=dd
  exact⟨ob,h1,h2.2.1⟩
 ·obtain⟨_,hd,xs,_,dd⟩:=YS I.hok e
  refine⟨dd.typeIs,fun b q=>?_,hd⟩
  cases q
  obtain⟨ob,_,_,h1,h2,_⟩:=dd
  exact⟨ob,h1,h2.2.1⟩
section
variable{X:Cx}{pins:List (Addr×Obj)}{σ:St}{H:Hp}{s:Shared}{a:Addr}{y d:V}{u r:Value}{o:Option V}{A:Around}{E:Value→Shared→Prop}
theorem zb3{Q:Value→Shared→Prop}(hu:A.units+1<cLine)(I:Inv X pins σ H s)(g:DGet H a y o)(ry:RelV y u)(rd:RelV d r)(h:∀w' s',Inv X pins σ H s'→RelV (o.getD d) w'→Q w' s') :
  wpAny (model X.prog X.w) A (call (.builtin "dict.get") [.ref a,u,r]) Q E s:=by
 rcases g with ⟨kvs,k,e,ey,l⟩|⟨kvs,k,b,e,ey,eb,l⟩
 ·subst ey
  obtain⟨z,hd,vs,rel,dd⟩:=YT I.hok e
  refine call_meetsIn PySem.F.slot_dict_get dd.typeIs PySem.F.entry_dict_get (PySem.F.args_dict_get_3 _ _ _) (meets_dict_get_default (yC X.prog X.w) a (YK ry) hd r) ⟨_,dd.mapOf,h _ _ (I.tok _) ?_⟩
  rw[l]
  exact(rel.val k).getD rd
 ·subst ey
  cases (show u=Value.ref b from ry)
  obtain⟨z,hd,xs,rel,dd⟩:=YS I.hok e
  refine call_meetsIn PySem.F.slot_dict_get dd.typeIs PySem.F.entry_dict_get (PySem.F.args_dict_get_3 _ _ _) (meetsH_dict_get_default (tupleKind (yC X.prog X.w)) a b hd r) ⟨tupleKind_room_in1 hu,k,xs,ZN I.hok eb,dd,h _ _ (I.tok _) ?_⟩
  rw[l]
  exact(rel.val k).getD rd
end
def T3(td ty tx:TE):TE:=fun σ H Q=>td σ H fun x H1=>∃a,x=.ref a∧IsD H1 a∧ty σ H1 fun y H2=>tx σ H2 fun z H3=>∃o,DGet H3 a y o∧Q (o.getD z) H3
section
variable{X:Cx}{o e f:Expr}{apos cpos:Pos}{td ty tx:TE}
theorem J9(hu:X.A.units+1<cLine)(ho:PE X o td)(he:PE X e ty)(hf:PE X f tx)(m:M2 X o "get" apos e f cpos):PE X (.Call (.Attribute o "get" apos) [e,f] [] cpos) (T3 td ty tx):=by
 intro pins s σ H Q I h
 refine wpAny_Call_method m.base m.few m.line PySem.F.plainAttrs_dict PySem.F.slot_dict_get PySem.F.type_dict_get (thn (ho pins s σ H _ I h) fun u s1 ⟨x,H1,I1,rx,a,ex,d,q1⟩=>?_)
 subst ex
 obtain rfl:u=Value.ref a:=rx
 obtain⟨t1,t2,_⟩:=L5 I1 d
 refine⟨t1,t2,?_⟩
 rw[m.trees]
 refine Calls.callWith_builtin rfl (Calls.evalArgs_plain (Calls.spliced_cons (thn (he pins s1 σ H1 _ I1 q1) fun iv s2 ⟨y,H2,I2,ry,q2⟩=>
  Calls.spliced_cons (thn (hf pins s2 σ H2 _ I2 q2) fun fv s3 ⟨z,H3,I3,rz,ov,g,q3⟩=>Calls.spliced_nil ?_))))
 exact zb3 hu I3 g ry rz fun w' s4 I4 rw'=>⟨_,H3,I4,rw',q3⟩
end
section
variable{X:Cx}{pins:List (Addr×Obj)}{σ:St}{H:Hp}{s:Shared}{a:Addr}{kvs:List (Key×V)}{A:Around}{E:Value→Shared→Prop}
end
section
variable{X:Cx}{pins:List (Addr×Obj)}{σ:St}{H:Hp}{s:Shared}{a:Addr}{y:V}{u:Value}{A:Around}{E:Value→Shared→Prop}
end
section
variable{κ:Type}[DecidableEq κ]
end
end L2
set_option Elab.async false
set_option linter.all false
set_option maxRecDepth 100000
namespace STW
open PySem PyProof.Rows
section
variable{prog:Program}{w:World}{K:Type}[DecidableEq K]{knd:KeyKind prog w K}{A:Around}{E:Value→Shared→Prop}{s:Shared}{d:Addr}{kvs:List (K×Value)}{ep:Nat}
theorem T5:isSubtype (.type "dict") (.type "dict")=pure true:=by first|exact isSubtype_dict_dict|exact PySem.isSubtype_dict_dict | (rw[isSubtype_type];kernel_rfl)
theorem Wm(hm:s.heap.DictAt knd d kvs ep){Q:Bool→Shared→Prop}(q:Q false s):wpAny (model prog w) A (Builtin.List.listLengthHint (.ref d)) Q E s:=by
 have ty:s.TypeIs (.ref d) "dict" := hm.dictOf.typeIs
 unfold Builtin.List.listLengthHint
 refine wpAny_bind (wpAny_specialOf ty F.slot_dict_len.lookup ?_)
 have e1:splitId "dict.__len__" = some ("dict", "__len__"):=by kernel_rfl
 dsimp only
 rw[e1]
 dsimp only
 refine wpAny_bind (wpAny_isInstance ty T5 ?_)
 rw[if_neg (by simp),if_pos (by kernel_rfl)]
 refine wpAny_bind (wpAny_typeOf ty ?_)
 exact wpAny_pure q
theorem Wz(hd:(d==sysModules)=false)(hm:s.heap.DictAt knd d kvs ep)(hz:kvs.length≤sizeLine)(hh:A.handled=none){Q:List Value→Shared→Prop}
  (q:∀(vs:List Value) h' tk,vs.length=kvs.length→(∀(i:Nat) (v:Value),vs[i]?=some v→∃k x,kvs[i]?=some (k,x)∧knd.is k v=true)→(∀b o,s.heap.get? b=some o→h'.get? b=some o)→s.heap.objs.size<h'.objs.size→Q vs { s with heap:=h',toks:=tk }) :
  wpAny (model prog w) A (collect (.ref d)) Q E s:=by
 have ty:s.TypeIs (.ref d) "dict" := hm.dictOf.typeIs
 have hlt:d<s.heap.objs.size:=hm.lt_size
 unfold collect
 refine wpAny_bind (wpAny_runValue (codeAny_builtin F.entry_proto_collect ?_));rw[Around.under_plainId F.plain_proto_collect _]
 show wpAny _ A.in1 (newList [] >>= fun l=>again (.builtin "list.__iadd__" ⟨[l,.ref d],[]⟩)) _ _ s
 refine wpAny_bind (wpAny_newObj_type (wpAny_pure ⟨plainId_quiet F.plain_list_iadd _,codeAny_builtin F.entry_list_iadd ?_⟩));rw[Around.under_plainId F.plain_list_iadd _]
 have hm1:(s.heap.push emp).DictAt knd d kvs ep:=hm.push emp
 show wpAny _ A.in1 (Builtin.List.listExtendWith (.ref s.heap.objs.size) (.ref d) (.ref s.heap.objs.size)) _ _ _
 unfold Builtin.List.listExtendWith
 have ty1:Shared.TypeIs { s with heap:=s.heap.push emp } (.ref d) "dict" := hm1.dictOf.typeIs
 refine wpAny_bind (wpAny_typeOf ty1 ?_)
 have c1:Builtin.List.listSameRef (.ref s.heap.objs.size) (.ref d)=false:=by
  have:s.heap.objs.size≠d:=ne_of_gt hlt
  simp[Builtin.List.listSameRef,this]
 have c2:(Value.type "dict" == Value.type "list")=false:=by decide
 have c3:(Value.type "dict" == Value.type "tuple")=false:=by decide
 simp only[c1,c2,c3,Bool.or_false,Bool.false_eq_true,if_false]
 have sz1:(s.heap.push emp).objs.size=s.heap.objs.size+1:=Heap.size_push _ _
 refine wpAny_bind (wpAny_pyIter_dict (s:={ s with heap:=s.heap.push emp }) hd hm1 ?_)
 generalize hh1:(s.heap.push emp).push { cls:=.type "dict_keyiterator", data:=.fields #[.ref d,.int 0 0,.int kvs.length 0,.int ep 0] }=h1
 have kp:∀b o,(s.heap.push emp).get? b=some o→h1.get? b=some o:=fun b o e=>by rw[← hh1];exact Heap.get?_push_of_some _ e
 have hm2:h1.DictAt knd d kvs ep:=hm1.keep kp
 have hI:h1.get? (s.heap.push emp).objs.size=some { cls:=.type "dict_keyiterator", data:=.fields #[.ref d,.int 0 0,.int kvs.length 0,.int ep 0] }:=by rw[← hh1];exact Heap.get?_push_size _ rfl
 have hne:d≠(s.heap.push emp).objs.size:=by rw[sz1];exact ne_of_lt (lt_succ_of_lt hlt)
 have W':=(Walks.dictKeys (knd:=knd) (prog:=prog) (w:=w) (A:=A.in1) (by simp[hh]) (s.heap.push emp).objs.size d hne kvs ep).toS
 refine wpAny_bind (wpAny_holding (Wm (s:={ s with heap:=h1 }) hm2 ?_))
 rw[if_pos (by kernel_rfl)]
 refine wpAny_bind (wpAny_rule (wpAny_bind ?_))
 show wpAny _ A.in1 (updateSeq s.heap.objs.size (·.push .none) >>= fun _=>updateSeq s.heap.objs.size (·.pop)) _ _ _
 have g1:h1.get? s.heap.objs.size=some emp:=kp _ _ (Heap.get?_push_size _ rfl)
 refine wpAny_bind (wpAny_updateSeq g1 rfl ?_)
 have g2:=Heap.get?_update_self (Obj.mapSeq (·.push Value.none)) g1 rfl
 refine wpAny_updateSeq g2 rfl ?_
 have g3:=Heap.get?_update_self (Obj.mapSeq (·.pop)) g2 rfl
 have oth:∀b o,b≠s.heap.objs.size→h1.get? b=some o→((h1.update s.heap.objs.size (Obj.mapSeq (·.push Value.none))).update s.heap.objs.size (Obj.mapSeq (·.pop))).get? b=some o:=fun b o hb e=>
  (Heap.get?_update_other _ _ (Ne.symm hb)).trans ((Heap.get?_update_other _ _ (Ne.symm hb)).trans e)
 have hSf:s.heap.objs.size∉[(s.heap.push emp).objs.size,d]:=by
  rw[sz1];simp only[mem_cons,not_mem_nil,or_false,not_or];exact⟨ne_of_lt (lt_succ_self _),ne_of_gt hlt⟩
 have st0:h1.IsKeyIter (s.heap.push emp).objs.size d 0 kvs.length ep∧h1.DictAt knd d kvs ep:=⟨⟨_,hI,rfl,rfl⟩,hm2⟩
 have st1:=W'.frame 0 { s with heap:=h1 } ((h1.update s.heap.objs.size (Obj.mapSeq (·.push Value.none))).update s.heap.objs.size (Obj.mapSeq (·.pop))) s.toks st0 (by simp) fun b hb o e=>oth b o (fun h=>hSf (h ▸ hb)) e
 refine wpAny_pure ⟨plainId_quiet F.plain_extend_loop _,codeAny_extend_loopS (A:=A) W' hz _ hSf _ _ 0 _ _ _ rfl (zero_le _) st1 g3 (ItemsOf.nil _) fun s' acc' c' hmv hS' hacc=>?_⟩
 show wpAny _ A (load s.heap.objs.size >>= _) _ _ s'
 refine wpAny_bind (wpAny_load hS' (wpAny_pure ?_))
 have eq:s' = { s with heap:=s'.heap,toks:=s'.toks }:=by
  obtain⟨_,g,dd,o,_⟩:=hmv
  cases s';simp only at g dd o;subst g;subst dd;subst o;rfl
 rw[eq]
 refine q _ _ _ (by rw[length_toList];exact hacc.1) (fun i v hv=>hacc.2 i v (by rw[← getElem?_toList];exact hv)) (fun b o hb=>hmv.heap b o ?_ ?_) (Heap.lt_size hS')
 ·have hb':=Heap.lt_size hb
  rw[sz1];simp only[mem_cons,not_mem_nil,or_false,not_or]
  exact⟨ne_of_lt hb',ne_of_lt (lt_succ_of_lt hb')⟩
 ·exact oth b o (ne_of_lt (Heap.lt_size hb)) (kp b o (Heap.get?_push_of_some _ hb))
end
section
variable{prog:Program}{w:World}{K:Type}[DecidableEq K]{knd:KeyKind prog w K}{A:Around}{E:Value→Shared→Prop}{s:Shared}{d:Addr}{kvs:List (K×Value)}{ep:Nat}{ns:List Int}{b:Bool}
theorem sortDict(hd:(d==sysModules)=false)(hm:s.heap.DictAt knd d kvs ep)(h64:kvs.length<64)(hh:A.handled=none)
  (hI:∀vs:List Value,vs.length=kvs.length→(∀(i:Nat) (v:Value),vs[i]?=some v→∃k x,kvs[i]?=some (k,x)∧knd.is k v=true)→IntsAre vs ns) {Q:Value→Shared→Prop}
  (q:∀h' tk a (out:List Value) ns' e,h'.get? a=some (seqObj "list" out.toArray e)→IntsAre out ns'→ns'.Perm ns→Ordered b ns'→s.heap.objs.size≤a→(∀c o,s.heap.get? c=some o→h'.get? c=some o)→Q (.ref a) { s with heap:=h',toks:=tk }) :
  wpAny (model prog w) A (call (.builtin "sorted") [.ref d] [(Str.ofString "reverse", .bool b)]) Q E s:=by
 have hz:kvs.length≤sizeLine:=le_trans (le_of_lt h64) (by rw[sizeLine_eq];decide)
 refine call_function_entry_kw kind_sorted plain_sorted entry_sorted (args_sorted_rev _ _) ?_
 unfold Builtin.«sorted»
 refine wpAny_bind (m:=checkCount "sorted" 1 1 _) (wpAny_pure ?_)
 refine wpAny_bind (Wz hd hm hz (by simp[hh]) fun vs h1 tk hl hv hk hs=>?_)
 have hi:=hI vs hl hv
 refine wpAny_bind (wpAny_newList ?_ (by rw[hl];exact hz))
 have hoL:(h1.push (seqObj "list" vs.toArray 0)).get? h1.objs.size=some (seqObj "list" vs.toArray 0):=Heap.get?_push_size _ rfl
 show wpAny _ _ _ _ _ { s with heap:=h1.push (seqObj "list" vs.toArray 0),toks:=tk }
 refine wpAny_bind (wpAny_holding (wpAny_call_entry_kw slot_list_sort ⟨_,hoL,rfl⟩ entry_list_sort (list_sort_tree_rev (s:={ s with heap:=h1.push (seqObj "list" vs.toArray 0),toks:=tk }) hoL hi (by omega) fun out ns' a1 a2 a3=>⟨_,rfl,?_⟩) (args_list_sort_rev _ _)))
 obtain⟨e,he⟩:=sortedHeap_at (out:=out) hoL
 refine wpAny_pure ⟨_,rfl,q _ _ h1.objs.size out.toList ns' e (by rw[Array.toArray_toList];exact he) a1 a2 a3 (le_of_lt hs) fun c o hc=>?_⟩
 have hb1:=hk c o hc
 have hlt:=Heap.lt_size hb1
 rw[sortedHeap_old (ne_of_lt hlt) (by rw[size_push'];exact lt_succ_of_lt hlt)]
 exact Heap.get?_push_of_some _ hb1
end
end STW
set_option Elab.async false
set_option linter.all false
set_option maxRecDepth 100000
namespace FD
open PySem PySem.Spec PyProof.Rows L2
variable[Tabs]
omit [Tabs] in
theorem Tb{ns ns':List Int}(nd:ns.Nodup)(p:ns'.Perm ns)(h:ns'.Pairwise (· ≥ ·)):ns'=(STW.setZ ns).reverse:=by
 have e:ns'.reverse=STW.setZ ns:=by
  refine STW.up_same ?_ (STW.setZ_up ns) fun x=>?_
  ·have h1:ns'.reverse.Pairwise (·≤·):=List.pairwise_reverse.mpr h
   have h2:ns'.reverse.Nodup:=(List.reverse_perm ns').nodup_iff.mpr (p.nodup_iff.mpr nd)
   exact List.Pairwise.imp₂ (fun a b h1 h2=>by omega) h1 h2
  ·rw[STW.setZ_mem,mem_reverse,p.mem_iff]
 rw[← e,List.reverse_reverse]
omit [Tabs] in
theorem Wf:∀{vs:List Value} {ns:List Int},vs.length=ns.length→(∀(i:Nat) (v:Value) (n:Int),vs[i]?=some v→ns[i]?=some n→Value.isInt n v=true)→IntsAre vs ns
 |[],[],_,_=>.nil
 |[],_::_,h,_=>by simp at h
 |_::_,[],h,_=>by simp at h
 |v::vs,n::ns,h,k=>by
  obtain⟨t,rfl⟩:=Value.isInt_shape (k 0 v n rfl rfl)
  exact .cons n t (Wf (by simpa using h) fun i u m h1 h2=>k (i+1) u m (by simpa using h1) (by simpa using h2))
omit [Tabs] in
theorem MR{kvs:List (Key×V)}{vs:List (Key×Value)}(h:KV kvs vs):vs.map (·.1)=kvs.map (·.1):=by
 induction h with
 |nil=>rfl
 |cons r _ ih=>rw[map_cons,map_cons,ih,r.1]
def WN(i:Nat):TE:=fun σ H Q=>∃d kvs ns,σ[i]?=some (some (.ref d))∧H d=some (.dK kvs)∧kvs.map (·.1)=ns.map Sum.inl∧ns.Nodup∧ns.length<64∧∀p,H p=none→Q (.ref p) (upd H p (.lst ((STW.setZ ns).reverse.map V.int)))
section
variable{X:Cx}{pos pp kp p1 p2:Pos}{kk:Nat}
theorem J5{x y:Str}{i:Nat}(hc:X.calm=true)(hg:Gl X x)(hm:X.mg x=none)(hv:bootBuiltins x=some (.builtin "sorted"))(hy:PE X (.Name y p1) (wY i))
  (hn:x ≠ "__name__" := by decide) (hdb:(x==("__debug__" : Str))=false:=by decide) (h1:starEach [.Name y p1] X.env=(false,eval (.Name y p1) X.env)::starEach [] X.env:=by rfl) :
  PE X (.Call (.Name x pp) [.Name y p1] [⟨some "reverse", .Constant (.bool true) kk p2,kp⟩] pos) (WN i):=by
 intro pins s σ H Q I ⟨d,kvs,ns,e1,e2,ek,nd,h64,q⟩
 refine wpAny_Call_Name_kw (x9 I hg hm hv ?_ hn hdb)
 refine callWith_kw ?_ (by rw[h1];rfl) (by rw[h1];rfl)
 have ha:PA X [.Name y p1] _:=vZ hy jl (by rw[h1])
 refine thn (ha pos pins s σ H (fun vs H1=>vs=[.ref d]∧H1=H) I ⟨_,e1,rfl,rfl⟩) fun us s1 hA=>?_
 obtain⟨vs,H1,I1,rvs,rfl,rfl⟩:=hA
 obtain⟨u,rfl,ru⟩:=Vals.one rvs
 cases ru
 refine kws_cons (thn (Tz pins s1 σ H1 (fun v2 H2=>v2=.bl true∧H2=H1) I1 ⟨rfl,rfl⟩) fun u2 s2 hB=>kws_nil ?_)
 obtain⟨v2,H2,I2,ru2,rfl,rfl⟩:=hB
 cases ru2
 show wpAny _ _ (call (.builtin "sorted") [.ref d] [(Str.ofString "reverse", .bool true)]) _ _ _
 obtain⟨z,hd,ws,rel,dd⟩:=TU I2.hok e2
 obtain⟨ep,da⟩:=dd.dictAt
 have kk':ws.map (·.1)=ns.map Sum.inl:=by rw[MR rel,ek]
 have wl:ws.length=ns.length:=by have:=congrArg List.length kk';simpa using this
 refine STW.sortDict (ns:=ns) (b:=true) hd da (by omega) (I2.ok.hd hc) (fun vs hl hv=>Wf (by omega) fun i v n hi hn=>?_) fun h' tk a out ns' e he ho hp hor hsz hk=>?_
 ·obtain⟨k,x,hkx,his⟩:=hv i v hi
  have:(ws.map (·.1))[i]?=some k:=by rw[getElem?_map,hkx];rfl
  rw[kk',getElem?_map,hn] at this
  cases this
  exact his
 ·have en:=Tb nd hp hor
  subst en
  have ll:((STW.setZ ns).reverse.map V.int).length≤sizeLine:=by
   rw[length_map,length_reverse]
   exact le_of_lt (yT (by have:=STW.setZ_le ns;omega))
  exact⟨.ref a,_,I2.laid (t':=tk) (o:=.lst ((STW.setZ ns).reverse.map V.int)) hk hsz ⟨ll,out,e,Xx ho,he⟩,rfl,q a (I2.hok.fresh hsz)⟩
end
def Vl(τ:DS):Prop:=∀(i:Nat) (s:Sl),τ[i]?=some (some s)→∃d,s=.val d
omit [Tabs] in
theorem Vl.noObj{τ:DS}(v:Vl τ):noObj τ:=fun i s h=>by
 cases s with
 |none=>rfl
 |some s=>obtain⟨d,rfl⟩:=v i s h;rfl
omit [Tabs] in
theorem Vl.set{τ:DS}(v:Vl τ)(i:Nat)(d:D):Vl (τ.set i (some (.val d))):=fun j s h=>by
 rw[getElem?_set] at h
 split at h
 ·split at h
  ·cases h;exact⟨d,rfl⟩
  ·cases h
 ·exact v j s h
def Soft(o:Option HO):Prop:=o=none∨(∃vs,o=some (.lst vs))∨∃ks,o=some (.dK ks)
theorem RS.free{K:PySem.W.Frag}{B Z F H:Hp}{τ:DS}{σ:St}{p:Addr}{o:HO}(R:RS K B Z F τ σ H)(v:Vl τ)(hb:B p=none)(hp:F p=none)(hl:Soft (H p))(ho:∀a,o≠.own a:=by intro _ h;cases h):RS K B Z F τ σ (upd H p o):=by
 have ne:∀{a:Addr} {w:HO},H a=some w→(∀vs,w≠.lst vs)→(∀ks,w≠.dK ks)→a≠p:=fun {a w} h n1 n2 z=>by
  subst z
  rcases hl with z|⟨ws,z⟩|⟨ws,z⟩
  ·rw[z] at h;cases h
  ·rw[z] at h;cases h;exact n1 _ rfl
  ·rw[z] at h;cases h;exact n2 _ rfl
 have own:∀(i:Nat) ds,τ[i]?≠some (some (.own ds)):=fun i ds h=>by obtain⟨d,e⟩:=v i _ h;cases e
 have obj:∀(i n:Nat) c fs,τ[i]?≠some (some (.obj n c fs)):=fun i n c fs h=>by obtain⟨d,e⟩:=v i _ h;cases e
 have obr:∀(i:Nat) c fs,τ[i]?≠some (some (.obr c fs)):=fun i c fs h=>by obtain⟨d,e⟩:=v i _ h;cases e
 refine⟨⟨fun b u e=>?_,R.rv.len,R.rv.val,fun i ds h=>absurd h (own i ds),fun i j ds es a _ h=>absurd h (own i ds),⟨fun r hr=>?_,fun d a h=>?_⟩,ObsOk.none v.noObj⟩,fun a u e=>?_,R.zf,R.nb,fun i ds a h=>absurd h (own i ds),fun i n c fs a h=>absurd h (obj i n c fs),fun a0 dx _ _ i n c fs h=>absurd h (obj i _ c fs),fun i c fs a h=>absurd h (obr i c fs)⟩
 ·have:b≠p:=fun z=>by subst z;rw[hp] at e;cases e
  rw[zn this];exact R.rv.fh b u e
 ·obtain⟨t1,t2⟩:=R.rv.tt.1 r hr
  refine⟨t1,?_⟩
  rcases t2 with e|⟨c,e,e2⟩
  ·exact .inl (by rw[zn (ne e (fun _ z=>nomatch z) (fun _ z=>nomatch z))];exact e)
  ·exact .inr ⟨c,by rw[zn (ne e (fun _ z=>nomatch z) (fun _ z=>nomatch z))];exact e,by rw[zn (ne e2 (fun _ z=>nomatch z) (fun _ z=>nomatch z))];exact e2⟩
 ·by_cases z:d=p
  ·subst z;rw[zt] at h;cases h;exact absurd rfl (ho a)
  ·rw[zn z] at h
   obtain⟨C,dx,vs,e⟩:=R.rv.tt.2 d a h
   exact⟨C,dx,vs,by rw[zn (ne e (fun _ z=>nomatch z) (fun _ z=>nomatch z))];exact e⟩
 ·have:a≠p:=fun z=>by subst z;rw[hb] at e;cases e
  rw[zn this];exact R.bh a u e
abbrev Gr:=List (Int×List Int)
def kvG(G:Gr)(ls:List Addr):List (Key×V):=(G.zip ls).map fun p=>(Sum.inl p.1.1,V.ref p.2)
structure Dc(B F H:Hp)(σ:St)(i:Nat)(G:Gr)(d:Addr)(ls:List Addr):Prop where
 sl:σ[i]?=some (some (.ref d))
 db:B d=none
 df:F d=none
 dh:H d=some (.dK (kvG G ls))
 len:ls.length=G.length
 nl:ls.Nodup
 nd:(G.map (·.1)).Nodup
 each:∀(j:Nat) (l:Addr) (g:Int×List Int),ls[j]?=some l→G[j]?=some g→B l=none∧F l=none∧H l=some (.lst (g.2.map V.int))
theorem Z0{F H F' H':Hp}{a:Addr}{o:HO}(x:Ext F H F' H')(h:H a=some o)(f:F a=none):F' a=none:=by
 cases q:F' a with
 |none=>rfl
 |some u=>
  rcases x.nw a u q with z|z
  ·rw[f] at z;cases z
  ·rw[h] at z;cases z
theorem Dc.ext{B F H F' H':Hp}{σ:St}{i:Nat}{G:Gr}{d:Addr}{ls:List Addr}(D:Dc B F H σ i G d ls)(x:Ext F H F' H'):Dc B F' H' σ i G d ls:=
 ⟨D.sl,D.db,Z0 x D.dh D.df,x.hh _ _ D.dh,D.len,D.nl,D.nd,fun j l g h1 h2=>by
  obtain⟨a,b,c⟩:=D.each j l g h1 h2
  exact⟨a,Z0 x c b,x.hh _ _ c⟩⟩
theorem Dc.set{B F H:Hp}{σ:St}{i k:Nat}{G:Gr}{d:Addr}{ls:List Addr}{v:Option V}(D:Dc B F H σ i G d ls)(h:k≠i):Dc B F H (σ.set k v) i G d ls:=
 { D with sl:=by rw[getElem?_set_ne h];exact D.sl }
omit [Tabs] in
theorem Zl(k:Int):∀(G:Gr) (ls:List Addr),ls.length=G.length→k∉G.map (·.1)→wX (kvG G ls) (Sum.inl k)=none
 |[],_,_,_=>rfl
 |g::G,l::ls,hl,h=>by
  rw[map_cons,mem_cons,not_or] at h
  show wX ((Sum.inl g.1,V.ref l)::kvG G ls) _=_
  rw[wR (fun z=>h.1 (by cases z;rfl))]
  exact Zl k G ls (by simpa using hl) h.2
 |_::_,[],hl,_=>by simp at hl
omit [Tabs] in
theorem uD(k:Int):∀(G:Gr) (ls:List Addr),ls.length=G.length→k∈G.map (·.1)→∃(j:Nat) (l:Addr) (g:Int×List Int),ls[j]?=some l∧G[j]?=some g∧g.1=k∧wX (kvG G ls) (Sum.inl k)=some (.ref l)
 |[],_,_,h=>by simp at h
 |g::G,l::ls,hl,h=>by
  by_cases z:g.1=k
  ·exact⟨0,l,g,rfl,rfl,z,vG (p:=(Sum.inl g.1,V.ref l)) (by rw[z])⟩
  ·rw[map_cons,mem_cons] at h
   rcases h with h|h
   ·exact absurd h.symm z
   ·obtain⟨j,l',g',h1,h2,h3,h4⟩:=uD k G ls (by simpa using hl) h
    refine⟨j+1,l',g',by simpa using h1,by simpa using h2,h3,?_⟩
    show wX ((Sum.inl g.1,V.ref l)::kvG G ls) _=_
    rw[wR (fun y=>z (by cases y;rfl))];exact h4
 |_::_,[],hl,_=>by simp at hl
def jd(G:Gr)(k v:Int):Gr:=G.map fun g=>if g.1=k then (g.1,g.2++[v]) else g
def jr(G:Gr)(k:Int):Gr:=if k∈G.map (·.1) then G else G++[(k,[])]
omit [Tabs] in
theorem jF(G:Gr)(k v:Int):(jd G k v).map (·.1)=G.map (·.1):=by
 unfold jd;rw[map_map]
 exact map_congr_left fun g _=>by simp only[Function.comp];split <;> rfl
omit [Tabs] in
theorem QN{G G':Gr}(ls:List Addr)(h:G'.map (·.1)=G.map (·.1)):kvG G' ls=kvG G ls:=by
 unfold kvG
 have:∀(G:Gr),(G.zip ls).map (fun p=>((Sum.inl p.1.1:Key),V.ref p.2))=((G.map (·.1)).zip ls).map fun p=>((Sum.inl p.1:Key),V.ref p.2):=fun G=>by
  rw[List.zip_map_left,map_map];rfl
 rw[this G',this G,h]
theorem Dc.new{B F H:Hp}{σ:St}{i:Nat}{G:Gr}{d l:Addr}{ls:List Addr}{k:Int}(D:Dc B F H σ i G d ls)(hk:k∉G.map (·.1))(hl:H l=some (.lst []))(fl:F l=none)(bl:B l=none)(nin:l∉ls) :
  Dc B F (upd H d (.dK (kvG (G++[(k,[])]) (ls++[l])))) σ i (G++[(k,[])]) d (ls++[l]):=by
 have nld:l≠d:=fun z=>by subst z;rw[D.dh] at hl;cases hl
 refine⟨D.sl,D.db,D.df,zt,by simp[D.len],?_,?_,fun j m g h1 h2=>?_⟩
 ·rw[List.nodup_append]
  exact⟨D.nl,by simp,fun a ha b hb=>by rw[mem_singleton.mp hb];exact fun z=>nin (z ▸ ha)⟩
 ·rw[map_append,List.nodup_append]
  exact⟨D.nd,by simp,fun a ha b hb=>by rw[mem_singleton.mp hb];exact fun z=>hk (by have z':a=k:=z;rw[← z'];exact ha)⟩
 ·by_cases hj:j<ls.length
  ·rw[getElem?_append_left hj] at h1
   rw[getElem?_append_left (by rw[← D.len];exact hj)] at h2
   obtain⟨a,b,c⟩:=D.each j m g h1 h2
   have m1:m≠d:=fun z=>by subst z;rw[D.dh] at c;cases c
   exact⟨a,b,by rw[zn m1];exact c⟩
  ·rw[getElem?_append_right (by omega)] at h1
   rw[getElem?_append_right (by rw[← D.len];omega)] at h2
   have e:j-ls.length=0:=by
    have:=(List.getElem?_eq_some_iff.mp h1).1
    simp at this;omega
   rw[e] at h1
   rw[← D.len,e] at h2
   cases h1;cases h2
   exact⟨bl,fl,by rw[zn nld];exact hl⟩
theorem Dc.other{B F H:Hp}{σ:St}{i:Nat}{G:Gr}{d p:Addr}{ls:List Addr}{o:HO}(D:Dc B F H σ i G d ls)(hp:H p=none):Dc B F (upd H p o) σ i G d ls:=by
 refine⟨D.sl,D.db,D.df,?_,D.len,D.nl,D.nd,fun j l g h1 h2=>?_⟩
 ·rw[zn (fun z=>by subst z;rw[D.dh] at hp;cases hp)];exact D.dh
 ·obtain⟨a,b,c⟩:=D.each j l g h1 h2
  exact⟨a,b,by rw[zn (fun z=>by subst z;rw[c] at hp;cases hp)];exact c⟩
theorem Dc.out{B F H:Hp}{σ:St}{i:Nat}{G:Gr}{d p:Addr}{ls:List Addr}(D:Dc B F H σ i G d ls)(hp:H p=none):p∉ls:=fun z=>by
 obtain⟨j,hj⟩:=getElem?_of_mem z
 have hj':j<G.length:=by rw[← D.len];exact(List.getElem?_eq_some_iff.mp hj).1
 have:=(D.each j p G[j] hj (by simp[hj'])).2.2
 rw[hp] at this;cases this
omit [Tabs] in
theorem Me{G:Gr}{ls:List Addr}{k:Int}{l:Addr}(hl:ls.length=G.length)(hk:k∉G.map (·.1)):ji (kvG G ls) (Sum.inl k) (.ref l)=kvG (G++[(k,[])]) (ls++[l]):=by
 unfold ji
 rw[Zm,Zl k G ls hl hk,if_neg (by simp)]
 unfold kvG
 rw[List.zip_append hl.symm,map_append];rfl
theorem Dc.add{B F H:Hp}{σ:St}{i j:Nat}{G:Gr}{d l:Addr}{ls:List Addr}{k v:Int}{g:Int×List Int}(D:Dc B F H σ i G d ls)(h1:ls[j]?=some l)(h2:G[j]?=some g)(hk:g.1=k) :
  Dc B F (upd H l (.lst (g.2.map V.int++[.int v]))) σ i (jd G k v) d ls:=by
 obtain⟨b1,b2,b3⟩:=D.each j l g h1 h2
 have nld:d≠l:=fun z=>by subst z;rw[D.dh] at b3;cases b3
 refine⟨D.sl,D.db,D.df,by rw[zn nld,D.dh,QN ls (jF G k v)],by rw[D.len];simp[jd],D.nl,by rw[jF];exact D.nd,fun j' l' g' q1 q2=>?_⟩
 unfold jd at q2
 rw[getElem?_map] at q2
 cases e:G[j']? with
 |none=>rw[e] at q2;cases q2
 |some g0=>
  rw[e] at q2
  obtain⟨c1,c2,c3⟩:=D.each j' l' g0 q1 e
  simp only[Option.map_some,Option.some.injEq] at q2
  by_cases hj:j'=j
  ·subst hj
   rw[h1] at q1;cases q1
   rw[h2] at e;cases e
   rw[if_pos hk] at q2
   subst q2
   exact⟨b1,b2,by rw[zt];simp⟩
  ·have nk:¬ g0.1=k:=fun z=>by
    have z1:(G.map (·.1))[j']?=some k:=by rw[getElem?_map,e];simp[z]
    have z2:(G.map (·.1))[j]?=some k:=by rw[getElem?_map,h2];simp[hk]
    have y1:=(List.getElem?_eq_some_iff.mp z1).1
    exact hj ((List.getElem?_inj y1 D.nd).mp (by rw[z1,z2]))
   rw[if_neg nk] at q2
   subst q2
   have nll:l'≠l:=fun z=>by
    subst z
    have y1:=(List.getElem?_eq_some_iff.mp q1).1
    exact hj ((List.getElem?_inj y1 D.nl).mp (by rw[q1,h1]))
   exact⟨c1,c2,by rw[zn nll];exact c3⟩
section
variable{X:Cx}{i:Nat}{y:Str}{e0 e0' e0'' e1:Expr}{f0 f1:FE}{q1 q2 q3 cp sp sp2 lp ap ip atp callp xp:Pos}
def tTB(X:Cx)(i:Nat)(f0 f1:FE):TS:=fun E σ H=>∃B Z F τ G d ls k v,RS X.K B Z F τ σ H∧Vl τ∧Dc B F H σ i G d ls∧f0 τ=.ok (.int k)∧f1 τ=.ok (.int v)∧G.length≤1000∧(∀g∈G,g.2.length≤1000) ∧
 ∀F' H' ls',Same F F'→RS X.K B Z F' τ σ H'→Dc B F' H' σ i (jd (jr G k) k v) d ls'→E.nx σ H'
theorem XY{X:Cx}{α:Type}{r:Rs α}{a:α}{P:α→Prop}(h:r=.ok a)(p:P a):Ok X r P:=by rw[h];exact p
theorem Xf{B H:Hp}{p:Addr}(h:Hh B H)(e:H p=none):B p=none:=by
 cases q:B p with
 |none=>rfl
 |some o=>exact absurd e (Kp.some (h p o q))
theorem Qp{F H:Hp}{p:Addr}(h:Same F H)(e:H p=none):F p=none:=by
 cases q:F p with
 |none=>rfl
 |some o=>have:=h p o q;rw[e] at this;cases this
theorem WF{B Z F H:Hp}{τ:DS}{σ:St}{G:Gr}{d:Addr}{ls:List Addr}{k v:Int}{Q:Hp→Prop}(R:RS X.K B Z F τ σ H)(vl:Vl τ)(D:Dc B F H σ i G d ls)(h0:f0 τ=.ok (.int k))(h1:f1 τ=.ok (.int v))(hk:k∈G.map (·.1))(hs:∀g∈G,g.2.length≤1000)
  (q:∀F' H',Same F F'→RS X.K B Z F' τ σ H'→Dc B F' H' σ i (jd G k v) d ls→Q H') :
  tBM X.K "list" j8 (XF (wY i) (tE X f0)) (tAs X (za f1 zh)) σ H fun _ H1=>Q H1:=by
 refine⟨_,D.sl,?_⟩
 refine tE.at R (XY h0 rfl) fun dd w F1 H1 g x R1 r=>?_
 subst g
 simp only[Rep] at r;subst r
 have D1:=D.ext x
 obtain⟨j,l,g,j1,j2,j3,j4⟩:=uD k G ls D.len hk
 obtain⟨c1,c2,c3⟩:=D1.each j l g j1 j2
 have gt:DGet H1 d (.int k) (some (.ref l)):=by
  have:=DGet.k (k:=Sum.inl k) D1.dh
  rw[j4] at this;exact this
 refine⟨d,.ref l,rfl,gt,.inl ⟨rfl,_,SqL.of c3⟩,?_⟩
 refine tAs.of R1.rv (XY (show za f1 zh τ=.ok [.int v] by unfold za zh;rw[h1];rfl) rfl) fun ds vs F2 H2 g2 x2 R2 r2=>?_
 subst g2
 obtain⟨w,rfl,r3⟩:=r2.one
 simp only[Rep] at r3;subst r3
 have D2:=D1.ext x2
 obtain⟨_,b2,b3⟩:=D2.each j l g j1 j2
 refine⟨l,_,.int v,rfl,rfl,b3,?_,?_⟩
 ·rw[length_map,sizeLine_eq]
  have:g∈G:=mem_of_getElem? j2
  have:=hs g this;omega
 ·exact q F2 _ (x.ff.trans x2.ff) (RS.free (R1.ext x2) vl c1 b2 (.inr (.inl ⟨_,b3⟩))) (D2.add j1 j2 j3)
omit [Tabs] in
theorem ME{G:Gr}{k:Int}(h:k∈G.map (·.1)):jr G k=G:=if_pos h
omit [Tabs] in
theorem Qs{G:Gr}{k:Int}(h:k∉G.map (·.1)):jr G k=G++[(k,[])]:=if_neg h
omit [Tabs] in
theorem Qt(G:Gr)(k:Int):k∈(jr G k).map (·.1):=by
 unfold jr
 split
 ·assumption
 ·simp
theorem Lg(hu:X.A.units+1<cLine)(he0:PDE X e0 f0)(he0':PDE X e0' f0)(he0'':PDE X e0'' f0)(he1:PDE X e1 f1)(hy1:PE X (.Name y q1) (wY i))(hy2:PE X (.Name y q2) (wY i))(hy3:PE X (.Name y q3) (wY i))
  (hb:behindInMarks .NotIn (.Name y q1)=false:=by rfl) (hsw:swapsWith (.List [] lp) (some (.Subscript (.Name y q2) e0' sp)) ap.line X.env=pure false:=by rfl) (hns:zc3 e0'':=by intro _ _;rfl)
  (hbase:attributeBase (.Subscript (.Name y q3) e0'' sp2) "append" X.env (eval (.Subscript (.Name y q3) e0'' sp2) X.env)=eval (.Subscript (.Name y q3) e0'' sp2) X.env:=by rfl)
  (hfew:((backTo callp (starEach [e1] X.env)).all (fun x=>!x.1)&&(backToKw callp (keywordEach [] X.env)).all (fun x=>x.1.isSome)
   && decide ([e1].length+([]:List Keyword).length+(if ([]:List Keyword).isEmpty then 0 else 1)<30))=true:=by rfl)
  (hline:(atp.endLine==callp.line)=true:=by rfl) (hs:starEach [e1] X.env=[(false,eval e1 X.env)]:=by rfl) (hplain:(backTo callp (starEach [] X.env)).any (·.1)=false:=by rfl)
  (hsx:swapsWith (.Call (.Attribute (.Subscript (.Name y q3) e0'' sp2) "append" atp) [e1] [] callp) none xp.line X.env=pure false:=by rfl) :
  PSs X [.If (.Compare e0 [.NotIn] [.Name y q1] cp) [.Assign [.Subscript (.Name y q2) e0' sp] (.List [] lp) ap] [] ip,.Expr (.Call (.Attribute (.Subscript (.Name y q3) e0'' sp2) "append" atp) [e1] [] callp) xp] (tTB X i f0 f1):=
 PSs.imp (uL (Tu (Lf (UU hu he0 hy1) hb) (j9 (Mh hu hy2 he0' (W2 jl) hsw)) VH)
  (j9 (VI (Tx PySem.F.plainAttrs_list PySem.F.slot_list_append PySem.F.type_list_append jt (VM hu hy3 he0'' hns) (zc he1 zg (by rw[hs];rfl)) hbase hfew hline (by rw[hs];rfl) hplain) hsx))) fun E σ H h=>by
  obtain⟨B,Z,F,τ,G,d,ls,k,v,R,vl,D,h0,h1,hz,hgs,q⟩:=h
  refine tE.at R (XY h0 rfl) fun dd w F1 H1 g x R1 r=>?_
  subst g
  simp only[Rep] at r;subst r
  have D1:=D.ext x
  refine⟨_,D1.sl,d,wX (kvG G ls) (Sum.inl k),rfl,DGet.k (k:=Sum.inl k) D1.dh,_,rfl,?_⟩
  by_cases hk:k∈G.map (·.1)
  ·obtain⟨j,l,g,j1,j2,j3,j4⟩:=uD k G ls D.len hk
   rw[j4]
   show tBM X.K "list" j8 (XF (wY i) (tE X f0)) (tAs X (za f1 zh)) σ H1 fun _ H1=>E.nx σ H1
   refine WF R1 vl D1 h0 h1 hk hgs fun F' H' ff R' D'=>?_
   rw[ME hk] at q
   exact q F' H' ls (x.ff.trans ff) R' D'
  ·rw[Zl k G ls D.len hk]
   show Tr (wY i) (tE X f0) (tLst _) _ σ H1
   refine⟨by simp,fun p hp=>?_⟩
   have bp:B p=none:=Xf R1.bh hp
   have fp:F1 p=none:=Qp R1.rv.fh hp
   have R2:=RS.free (o:=.lst []) R1 vl bp fp (.inl hp)
   have D2:=D1.other (o:=.lst []) hp
   refine⟨_,D2.sl,?_⟩
   refine tE.at R2 (XY h0 rfl) fun dd w F3 H3 g x3 R3 r=>?_
   subst g
   simp only[Rep] at r;subst r
   have D3:=D2.ext x3
   have hl3:H3 p=some (.lst []):=x3.hh _ _ zt
   have fl3:F3 p=none:=Z0 x3 zt fp
   have pt:=DPut.k (k:=Sum.inl k) (v:=.ref p) D3.dh (by rw[sizeLine_eq];unfold kvG;rw[length_map,List.length_zip];omega)
   rw[Me D.len hk] at pt
   refine⟨d,_,rfl,pt,?_⟩
   have D4:=D3.new hk hl3 fl3 bp (D1.out hp)
   have R4:=RS.free (o:=.dK (kvG (G++[(k,[])]) (ls++[p]))) R3 vl D3.db D3.df (.inr (.inr ⟨_,D3.dh⟩))
   show tBM X.K "list" j8 (XF (wY i) (tE X f0)) (tAs X (za f1 zh)) σ _ fun _ H1=>E.nx σ H1
   refine WF R4 vl D4 h0 h1 (by simp) (fun g hg=>?_) fun F' H' ff R' D'=>?_
   ·rcases mem_append.mp hg with hg|hg
    ·exact hgs g hg
    ·rw[mem_singleton.mp hg];exact zero_le _
   ·rw[Qs hk] at q
    exact q F' H' (ls++[p]) ((x.ff.trans x3.ff).trans ff) R' D'
end
def jW(p:Int×Int):D:=.tup [.int p.1,.int p.2]
def grp(rows:List (Int×Int)):Gr:=rows.foldl (fun G p=>jd (jr G p.1) p.1 p.2) []
omit [Tabs] in
theorem u0(rows:List (Int×Int))(p:Int×Int):grp (rows++[p])=jd (jr (grp rows) p.1) p.1 p.2:=by unfold grp;rw[List.foldl_append];rfl
omit [Tabs] in
theorem jA(rows:List (Int×Int)):∀n,(grp (rows.take n)).length≤n∧∀g∈grp (rows.take n),g.2.length≤n
 |0=>by simp[grp]
 |n+1=>by
  obtain⟨h1,h2⟩:=jA rows n
  by_cases hn:n<rows.length
  ·rw[List.take_succ_eq_append_getElem hn,u0]
   have hl:(jr (grp (rows.take n)) rows[n].1).length≤n+1∧∀g∈jr (grp (rows.take n)) rows[n].1,g.2.length≤n:=by
    unfold jr
    split
    ·exact⟨by omega,h2⟩
    ·refine⟨by rw[length_append,length_singleton];omega,fun g hg=>?_⟩
     rcases mem_append.mp hg with hg|hg
     ·exact h2 g hg
     ·rw[mem_singleton.mp hg];exact zero_le _
   unfold jd
   refine⟨by rw[length_map];exact hl.1,fun g hg=>?_⟩
   obtain⟨g0,hg0,rfl⟩:=mem_map.mp hg
   have:=hl.2 g0 hg0
   split
   ·simp;omega
   ·omega
  ·rw[take_of_length_le (by omega)]
   rw[take_of_length_le (by omega)] at h1 h2
   exact⟨by omega,fun g hg=>by have:=h2 g hg;omega⟩
section
variable{X:Cx}{i r:Nat}{x y:Str}{e0 e0' e0'' e1 iter:Expr}{fi:FA}{q1 q2 q3 cp sp sp2 lp ap ip atp callp xp tp pos:Pos}
abbrev ix0(r:Nat):FE:=eOp ixD (zd r) (eC (.int 0))
abbrev ix1(r:Nat):FE:=eOp ixD (zd r) (eC (.int 1))
theorem LZ{τ:DS}{r:Nat}{p:Int×Int}(h:r<τ.length):ix0 r (τ.set r (some (.val (jW p))))=.ok (.int p.1)∧ix1 r (τ.set r (some (.val (jW p))))=.ok (.int p.2):=by
 have e:zd r (τ.set r (some (.val (jW p))))=.ok (jW p):=by
  unfold zd
  rw[getElem?_set_self h]
 unfold ix0 ix1 eOp
 rw[e]
 exact⟨rfl,rfl⟩
def tTF(X:Cx)(i r:Nat)(fi:FA):TS:=fun E σ H=>∃B Z F τ d rows,RS X.K B Z F τ σ H∧Vl τ∧Dc B F H σ i [] d []∧r<τ.length∧r≠i∧fi τ=.ok (rows.map jW)∧rows.length≤1000 ∧
 ∀σ' F' H' τ' ls,Same F F'→RS X.K B Z F' τ' σ' H'→Vl τ'→Dc B F' H' σ' i (grp rows) d ls→E.nx σ' H'
theorem ps_tf{body:List Stmt}(hp:PassesOwn (model X.prog X.w) X.A X.env X.xe)(hc:X.calm=true)(hi:PDI X (.Name x tp) iter fi)(hN:X.N.Nodup)(hx:X.N[r]?=some x)(hlc:Loc X.env.scope x)
  (hb:PSs X body (tTB X i (ix0 r) (ix1 r))) (hf:X.fn x=true∨X.env.scope.names.lookup x=some .local:=by first|exact .inl rfl|exact .inr rfl|assumption) (hs:∀x,foldedSetIterable iter X.env x=pure x:=by intro _;rfl) :
  PS X (.For (.Name x tp) iter body [] pos) (tTF X i r fi):=
 PS.imp (J1 hp hc hi (uM hN hx hlc hf) hb hs) fun E σ H h=>by
  obtain⟨B,Z,F,τ,d,rows,R,vl,D,hr,hri,hfi,hz,q⟩:=h
  refine⟨F,τ,R.rv,XY hfi fun J F1 H1 x1 io=>?_⟩
  refine⟨fun n m σ H=>m=rows.length-n∧n≤rows.length∧∃F' τ' ls,Same F1 F'∧RS X.K B Z F' τ' σ H∧Vl τ'∧τ'.length=τ.length∧Dc B F' H σ i (grp (rows.take n)) d ls,⟨rows.length,by simp,zero_le _,F1,τ,[],Same.refl _,R.ext x1,vl,rfl,D.ext x1⟩,?_⟩
  rintro n m σ2 H2 ⟨rfl,hn,F2,τ2,ls,f2,R2,v2,t2,D2⟩
  obtain⟨i1,i2⟩:=io n F2 H2 f2 R2.rv.fh
  by_cases hlt:n<rows.length
  ·obtain⟨go,yl⟩:=i2 (jW rows[n]) (by simp[hlt])
   refine .inr ⟨go,fun σ' H'=>∃F' τ' ls,Same F2 F'∧RS X.K B Z F' τ' σ' H'∧Vl τ'∧τ'.length=τ.length∧Dc B F' H' σ' i (grp (rows.take (n+1))) d ls,fun σ' H' ⟨F',τ',ls',a,b,c,t,e⟩=>⟨rows.length-(n+1),by omega,rfl,hlt,F',τ',ls',f2.trans a,b,c,t,e⟩,fun w H' yy=>?_⟩
   obtain⟨F3,x3,r3⟩:=yl w H' yy
   have R3:=(R2.ext x3).set (i:=r) r3
   have D3:=(D2.ext x3).set (v:=some w) (k:=r) hri
   obtain⟨z0,z1⟩:=LZ (τ:=τ2) (r:=r) (p:=rows[n]) (by rw[t2];exact hr)
   obtain⟨g1,g2⟩:=jA rows n
   refine⟨B,Z,F3,_,grp (rows.take n),d,ls,rows[n].1,rows[n].2,R3,v2.set r _,D3,z0,z1,by omega,fun g hg=>by have:=g2 g hg;omega,fun F' H'' ls' ff RR DD=>?_⟩
   refine⟨F',_,ls',x3.ff.trans ff,RR,v2.set r _,by rw[length_set];exact t2,?_⟩
   rw[List.take_succ_eq_append_getElem hlt,u0]
   exact DD
  ·have e:n=rows.length:=by omega
   subst e
   rw[List.take_length] at D2
   exact .inl ⟨i1 (by simp),q σ2 F2 H2 τ2 ls (x1.ff.trans f2) R2 v2 D2⟩
end
def xT(G:Gr)(k:Int):List Int:=((G.find? fun g=>decide (g.1=k)).map (·.2)).getD []
def xf(G:Gr):List Int:=(STW.setZ (G.map (·.1))).reverse
def Uy(G:Gr):List D:=(xf G).map fun k=>.tup [.int k,.lst ((xT G k).map D.int)]
omit [Tabs] in
theorem VZ(k:Int):∀(G:Gr) (j:Nat) (g:Int×List Int),(G.map (·.1)).Nodup→G[j]?=some g→g.1=k→xT G k=g.2
 |[],_,_,_,h,_=>by simp at h
 |g0::G,0,g,_,h,hk=>by
  cases h
  unfold xT
  rw[List.find?_cons_of_pos (by simpa using hk)];rfl
 |g0::G,j+1,g,nd,h,hk=>by
  have h':G[j]?=some g:=by simpa using h
  rw[map_cons,nodup_cons] at nd
  have ne:¬ g0.1=k:=fun z=>nd.1 (by rw[z,← hk];exact List.mem_map_of_mem (mem_of_getElem? h'))
  unfold xT
  rw[List.find?_cons_of_neg (by simpa using ne)]
  exact VZ k G j g nd.2 h' hk
omit [Tabs] in
theorem MS{G:Gr}{k:Int}(h:k∈xf G):k∈G.map (·.1):=by
 unfold xf at h
 rw[mem_reverse,STW.setZ_mem] at h;exact h
def Jf(F H:Hp)(nw:List Addr):Hp:=fun a=>if a∈nw then H a else F a
theorem ZW{F H:Hp}{nw:List Addr}{a:Addr}(h:a∈nw):Jf F H nw a=H a:=if_pos h
theorem Zf{F H:Hp}{nw:List Addr}{a:Addr}(h:a∉nw):Jf F H nw a=F a:=if_neg h
def Cold(o:Option HO):Prop:=(∃vs,o=some (.lst vs))∨∃vs,o=some (.tup vs)
theorem M4{K:PySem.W.Frag}{B Z F H0 H:Hp}{τ:DS}{σ:St}{nw:List Addr}(R:RS K B Z F τ σ H0)(hs:Same H0 H)(hb:∀a∈nw,B a=none)(hc:∀a∈nw,Cold (H a))(ho:∀d a,H d=some (.own a)→H0 d=some (.own a)):Ext Z B (Jf F H nw) H:=by
 have fz:∀a o,Z a=some o→a∉nw→Jf F H nw a=some o:=fun a o e n=>by rw[Zf n];exact R.zf a o e
 refine⟨fun a o e=>?_,R.bh.trans (.of hs),fun a o e=>?_,fun a o e=>?_,fun _=>⟨fun r hr=>?_,fun d a e=>?_⟩⟩
 ·by_cases z:a∈nw
  ·rw[ZW z];exact hs a o (R.rv.fh a o (R.zf a o e))
  ·exact fz a o e z
 ·by_cases z:a∈nw
  ·rw[ZW z] at e;exact e
  ·rw[Zf z] at e;exact hs a o (R.rv.fh a o e)
 ·by_cases z:a∈nw
  ·exact .inr (hb a z)
  ·rw[Zf z] at e;exact R.nb a o e
 ·obtain⟨t1,t2⟩:=R.rv.tt.1 r hr
  have nin:r.1∉nw:=fun z=>by
   have h1:=hc _ z
   rcases t2 with q|⟨c,q,_⟩
   ·rw[hs _ _ q] at h1;rcases h1 with ⟨vs,h1⟩|⟨vs,h1⟩ <;> cases h1
   ·rw[hs _ _ q] at h1;rcases h1 with ⟨vs,h1⟩|⟨vs,h1⟩ <;> cases h1
  refine⟨by rw[Zf nin];exact t1,?_⟩
  rcases t2 with q|⟨c,q,q2⟩
  ·exact .inl (hs _ _ q)
  ·exact .inr ⟨c,hs _ _ q,hs _ _ q2⟩
 ·obtain⟨C,dx,vs,q⟩:=R.rv.tt.2 d a (ho d a e)
  exact⟨C,dx,vs,hs _ _ q⟩
def teT:TE:=tTup (JG (wY 0) (JG (XF (wY 1) (wY 0)) tNil))
def tTR(X:Cx)(i:Nat):TE:=fun σ H Q=>∃B Z F τ G d ls,RS X.K B Z F τ σ H∧Vl τ∧Dc B F H σ i G d ls∧G.length<64∧∀v F' H',Ext Z B F' H'→Rep X.K F' (.lst (Uy G)) v→Q v H'
theorem Te{X:Cx}{i:Nat}(σ:St)(H:Hp)(Q:VK)(h:tTR X i σ H Q):Vy (wE 1 [i]) (TF X.K (WN i)) (u6 0) (fun _ H Q=>Q true H) teT σ H Q:=by
 obtain⟨B,Z,F,τ,G,d,ls,R,vl,D,h64,q⟩:=h
 have kk:(kvG G ls).map (·.1)=(G.map (·.1)).map Sum.inl:=by
  unfold kvG
  rw[map_map,map_map]
  have:∀(G:Gr) (ls:List Addr),ls.length=G.length→(G.zip ls).map (fun p=>(Sum.inl p.1.1:Key))=G.map fun g=>Sum.inl g.1:=fun G=>by
   induction G with
   |nil=>intro ls _;rfl
   |cons g G ih=>
    intro ls hl
    cases ls with
    |nil=>simp at hl
    |cons l ls=>rw[List.zip_cons_cons,map_cons,map_cons,ih ls (by simpa using hl)]
  exact this G ls D.len
 refine⟨d,kvG G ls,G.map (·.1),D.sl,D.dh,kk,D.nd,by simpa using h64,fun a ha=>?_⟩
 refine⟨a,rfl,⟨_,SqL.of zt⟩,fun acc hacc=>?_⟩
 have hs1:Same H (upd H a (.lst ((STW.setZ (G.map (·.1))).reverse.map V.int))):=yi ha
 generalize hH1:upd H a (.lst ((STW.setZ (G.map (·.1))).reverse.map V.int))=H1 at hacc hs1 ⊢
 have hla:H1 a=some (.lst ((xf G).map V.int)):=by rw[← hH1];exact zt
 have only1:∀b,b≠a→H1 b=H b:=fun b hb=>by rw[← hH1];exact zn hb
 refine⟨fun n m σ1 Hc=>m=(xf G).length-n∧n≤(xf G).length∧σ1[1]?=some (some (.ref d))∧σ1.length=2∧∃ps:List Addr,ps.length=n∧Hc acc=some (.lst (ps.map V.ref))∧(∀b,b≠acc→b∉ps→Hc b=H1 b)∧acc∉ps ∧
  ∀(j:Nat) (p:Addr) (k:Int),ps[j]?=some p→(xf G)[j]?=some k→H1 p=none∧∃l,Hc p=some (.tup [.int k,.ref l])∧l∈ls∧H l=some (.lst ((xT G k).map V.int)),⟨_,rfl,zero_le _,?_,rfl,[],rfl,zt,fun b hb _=>zn hb,by simp,fun j p k h=>by simp at h⟩,?_⟩
 ·show(List.replicate 1 none++[(σ[i]?).join])[1]?=_
  rw[D.sl];rfl
 rintro n m σ1 Hc ⟨rfl,hn,sd,s2,ps,pl,hac,ho,nap,hps⟩
 have haa:a≠acc:=fun z=>by rw[z] at hla;rw[hacc] at hla;cases hla
 have nps:∀b o,H1 b=some o→b≠acc∧b∉ps:=fun b o e=>by
  refine⟨fun z=>?_,fun z=>?_⟩
  ·rw[z,hacc] at e;cases e
  ·obtain⟨j,hj⟩:=getElem?_of_mem z
   have hj':j<(xf G).length:=by have:=(List.getElem?_eq_some_iff.mp hj).1;omega
   have:=(hps j b (xf G)[j] hj (by simp[hj'])).1
   rw[e] at this;cases this
 have kp:∀b o,H1 b=some o→Hc b=some o:=fun b o e=>by rw[ho b (nps b o e).1 (nps b o e).2];exact e
 have hla':=kp _ _ hla
 by_cases hlt:n<(xf G).length
 ·refine .inr ⟨⟨_,.int (xf G)[n],SqL.of hla',by simp[hlt]⟩,fun x H' yy=>?_⟩
  obtain⟨e',yx⟩:=yy
  rw[e']
  have ex:x=.int (xf G)[n]:=by
   have:=yx _ (SqL.of hla')
   simpa[hlt] using this.symm
  subst ex
  have hk:(xf G)[n]∈G.map (·.1):=MS (getElem_mem hlt)
  obtain⟨j,l,g,j1,j2,j3,j4⟩:=uD _ G ls D.len hk
  obtain⟨c1,c2,c3⟩:=D.each j l g j1 j2
  have hd':Hc d=some (.dK (kvG G ls)):=kp _ _ (hs1 _ _ D.dh)
  unfold u6
  dsimp only
  rw[if_pos rfl]
  have sd':(σ1.set 0 (some (.int (xf G)[n])))[1]?=some (some (.ref d)):=by rw[getElem?_set_ne (by omega)];exact sd
  have s0':(σ1.set 0 (some (.int (xf G)[n])))[0]?=some (some (.int (xf G)[n])):=by rw[getElem?_set_self (by omega)]
  refine⟨_,s0',_,sd',_,s0',d,.ref l,rfl,?_,?_⟩
  ·have:=DGet.k (k:=Sum.inl (xf G)[n]) hd'
   rw[j4] at this;exact this
  refine⟨by show 2≤sizeLine;rw[sizeLine_eq];decide,fun p hp=>?_⟩
  have pa:p≠acc:=fun z=>by rw[z,hac] at hp;cases hp
  have pn:p∉ps:=fun z=>by
   obtain⟨j',hj⟩:=getElem?_of_mem z
   have hj':j'<(xf G).length:=by have:=(List.getElem?_eq_some_iff.mp hj).1;omega
   obtain⟨_,l',q',_⟩:=hps j' p (xf G)[j'] hj (by simp[hj'])
   rw[hp] at q';cases q'
  have p1:H1 p=none:=by rw[← ho p pa pn];exact hp
  refine⟨ps.map V.ref,by rw[zn (Ne.symm pa)];exact hac,by rw[length_map,pl,sizeLine_eq];have:=STW.setZ_le (G.map (·.1));unfold xf at hn;rw[length_reverse] at hn;rw[length_map] at this;omega,(xf G).length-(n+1),by omega,rfl,hlt,sd',by rw[length_set];exact s2,ps++[p],by simp[pl],?_,fun b hb hn'=>?_,?_,fun j' p' k' e1 e2=>?_⟩
  ·rw[zt,map_append];rfl
  ·rw[mem_append,not_or] at hn'
   rw[zn hb,zn (fun z=>hn'.2 (by simp[z]))]
   exact ho b hb hn'.1
  ·rw[mem_append,not_or];exact⟨nap,by simp;exact Ne.symm pa⟩
  ·by_cases hj:j'<ps.length
   ·rw[getElem?_append_left hj] at e1
    obtain⟨z1,l',z2,z3,z4⟩:=hps j' p' k' e1 e2
    have n1:p'≠acc:=fun z=>nap (by rw[← z];exact mem_of_getElem? e1)
    have n2:p'≠p:=fun z=>pn (by rw[← z];exact mem_of_getElem? e1)
    exact⟨z1,l',by rw[zn n1,zn n2];exact z2,z3,z4⟩
   ·rw[getElem?_append_right (by omega)] at e1
    have e0:j'-ps.length=0:=by have:=(List.getElem?_eq_some_iff.mp e1).1;simp at this;omega
    rw[e0] at e1;cases e1
    have ej:j'=n:=by omega
    subst ej
    rw[getElem?_eq_getElem hlt] at e2;cases e2
    refine⟨p1,l,by rw[zn pa,zt],mem_of_getElem? j1,?_⟩
    rw[VZ _ G j g D.nd j2 j3];exact c3
 ·have en:n=(xf G).length:=by omega
  refine .inl ⟨⟨_,SqL.of hla',by simp;omega⟩,?_⟩
  have hsH:Same H Hc:=fun b o e=>kp b o (hs1 b o e)
  have cold:∀b∈acc::(ps++ls),B b=none∧Cold (Hc b):=fun b hb=>by
   rcases mem_cons.mp hb with rfl|hb
   ·refine⟨Xf R.bh ?_,.inl ⟨_,hac⟩⟩
    cases z:H b with
    |none=>rfl
    |some o=>rw[hs1 _ _ z] at hacc;cases hacc
   ·rcases mem_append.mp hb with hb|hb
    ·obtain⟨j,hj⟩:=getElem?_of_mem hb
     have hj':j<(xf G).length:=by have:=(List.getElem?_eq_some_iff.mp hj).1;omega
     obtain⟨z1,l',z2,_⟩:=hps j b (xf G)[j] hj (by simp[hj'])
     refine⟨Xf R.bh ?_,.inr ⟨_,z2⟩⟩
     cases z:H b with
     |none=>rfl
     |some o=>rw[hs1 _ _ z] at z1;cases z1
    ·obtain⟨j,hj⟩:=getElem?_of_mem hb
     have hj':j<G.length:=by rw[← D.len];exact(List.getElem?_eq_some_iff.mp hj).1
     obtain⟨z1,_,z3⟩:=D.each j b G[j] hj (by simp[hj'])
     exact⟨z1,.inl ⟨_,hsH _ _ z3⟩⟩
  refine q (.ref acc) (Jf F Hc (acc::(ps++ls))) Hc (M4 R hsH (fun b hb=>(cold b hb).1) (fun b hb=>(cold b hb).2) fun dd b e=>?_) ?_
  ·by_cases z1:dd=acc
   ·rw[z1,hac] at e;cases e
   ·by_cases z2:dd∈ps
    ·have:=(cold dd (by simp[z2])).2
     rw[e] at this;rcases this with ⟨_,z⟩|⟨_,z⟩ <;> cases z
    ·rw[ho dd z1 z2] at e
     by_cases z3:dd=a
     ·rw[z3,hla] at e;cases e
     ·rw[only1 dd z3] at e;exact e
  ·simp only[Rep]
   refine⟨acc,_,rfl,by rw[ZW (by simp)];exact hac,?_⟩
   unfold Uy
   have key:∀(ks:List Int) (qs:List Addr),qs.length=ks.length→(∀(j:Nat) (p:Addr) (k:Int),qs[j]?=some p→ks[j]?=some k→p∈ps∧∃l,Hc p=some (.tup [.int k,.ref l])∧l∈ls∧H l=some (.lst ((xT G k).map V.int))) →
     Reps X.K (Jf F Hc (acc::(ps++ls))) (ks.map fun k=>.tup [.int k,.lst ((xT G k).map FD.D.int)]) (qs.map V.ref):=fun ks=>by
    induction ks with
    |nil=>intro qs hl _;rw[length_nil,List.length_eq_zero_iff] at hl;subst hl;exact Reps.nil
    |cons k ks ih=>
     intro qs hl hq
     cases qs with
     |nil=>simp at hl
     |cons p qs=>
      obtain⟨hp,l,z2,z3,z4⟩:=hq 0 p k rfl rfl
      refine Reps.cons ?_ (ih qs (by simpa using hl) fun j p' k' e1 e2=>hq (j+1) p' k' (by simpa using e1) (by simpa using e2))
      simp only[Rep]
      refine⟨p,[.int k,.ref l],rfl,SqT.of (by rw[ZW (by simp[hp])];exact z2),Reps.cons (by simp only[Rep]) (Reps.cons ?_ Reps.nil)⟩
      simp only[Rep]
      exact⟨l,_,rfl,by rw[ZW (by simp[z3])];exact hsH _ _ z4,Reps.ints _⟩
   exact key (xf G) ps (by omega) fun j p k e1 e2=>by
    obtain⟨_,l,z2,z3,z4⟩:=hps j p k e1 e2
    exact⟨mem_of_getElem? e1,l,z2,z3,z4⟩
def vlB(τ:DS):Bool:=τ.all fun s=>match s with
 |none=>true
 | some (.val _)=>true
 |_=>false
omit [Tabs] in
theorem TY{τ:DS}(h:vlB τ=true):Vl τ:=fun i s e=>by
 have:=List.all_eq_true.mp h (some s) (mem_of_getElem? e)
 cases s with
 |val d=>exact⟨d,rfl⟩
 |_=>cases this
def jH:List D→Option (List (Int×Int))
 |[]=>some []
 |.tup [.int k,.int v]::r=>(jH r).map ((k,v) :: ·)
 |_::_=>none
omit [Tabs] in
theorem JS:∀{ds:List D} {rows:List (Int×Int)},jH ds=some rows→ds=rows.map jW:=fun {ds}=>by
 induction ds with
 |nil=>intro rows h;cases h;rfl
 |cons d r ih=>
  intro rows h
  unfold jH at h
  split at h
  ·rename_i z;cases z
  ·rename_i k v r' z
   cases z
   cases q:jH r with
   |none=>rw[q] at h;cases h
   |some m=>rw[q] at h;cases h;rw[map_cons,ih q];rfl
  ·cases h
omit [Tabs] in
theorem WX(rows:List (Int×Int)):jH (rows.map jW)=some rows:=by
 induction rows with
 |nil=>rfl
 |cons p r ih=>rw[map_cons];show(jH (r.map jW)).map _=_;rw[ih];rfl
def Yx(i r:Nat)(fi:FA):FS:=fun τ=>if vlB τ=true∧r<τ.length∧i<τ.length∧r≠i then match fi (τ.set i none) with
 |.ok ds=>match jH ds with
  |some rows=>if rows.length<64 then .rt (.lst (Uy (grp rows))) else .no
  |none=>.no
 |_=>.no
 else .no
theorem RS.drop{K:PySem.W.Frag}{B Z F H:Hp}{τ:DS}{σ:St}{i:Nat}{v:Option V}(R:RS K B Z F τ σ H)(vl:Vl τ):RS K B Z F (τ.set i none) (σ.set i v) H∧Vl (τ.set i none):=by
 have get:∀(j:Nat) (s:Sl),(τ.set i none)[j]?=some (some s)→i≠j∧τ[j]?=some (some s):=fun j s h=>by
  by_cases z:i=j
  ·subst z
   rw[getElem?_set] at h
   simp only[if_true] at h
   split at h <;> cases h
  ·rw[getElem?_set_ne z] at h;exact⟨z,h⟩
 have vl':Vl (τ.set i none):=fun j s h=>vl j s (get j s h).2
 have own:∀(j:Nat) ds,(τ.set i none)[j]?≠some (some (.own ds)):=fun j ds h=>by obtain⟨d,e⟩:=vl' j _ h;cases e
 have obj:∀(j n:Nat) c fs,(τ.set i none)[j]?≠some (some (.obj n c fs)):=fun j n c fs h=>by obtain⟨d,e⟩:=vl' j _ h;cases e
 have obr:∀(j:Nat) c fs,(τ.set i none)[j]?≠some (some (.obr c fs)):=fun j c fs h=>by obtain⟨d,e⟩:=vl' j _ h;cases e
 refine⟨⟨⟨R.rv.fh,by rw[length_set,length_set];exact R.rv.len,fun j d h=>?_,fun j ds h=>absurd h (own j ds),fun j k ds es a _ h=>absurd h (own j ds),R.rv.tt,ObsOk.none vl'.noObj⟩,R.bh,R.zf,R.nb,fun j ds a h=>absurd h (own j ds),fun j n c fs a h=>absurd h (obj j n c fs),fun a0 dx _ _ j n c fs h=>absurd h (obj j _ c fs),fun j c fs a h=>absurd h (obr j c fs)⟩,vl'⟩
 obtain⟨ne,e⟩:=get j _ h
 obtain⟨w,h1,h2⟩:=R.rv.val j d e
 exact⟨w,by rw[getElem?_set_ne ne];exact h1,h2⟩
section
variable{X:Cx}{i r:Nat}{x y c:Str}{iter elt:Expr}{fi:FA}{body:List Stmt}{scope:Scope}{yp tp dp a1 fp rp cpos cp sp p1 p2 kp:Pos}{kk:Nat}
theorem UP(hN:X.N.Nodup)(hc:X.calm=true)(hp:PassesOwn (model X.prog X.w) X.A X.env X.xe)
  (hy:X.N[i]?=some y) (hly:Loc X.env.scope y) (hx:X.N[r]?=some x) (hlx:Loc X.env.scope x)
  (hi:PDI X (.Name x tp) iter fi) (hb:PSs X body (tTB X i (ix0 r) (ix1 r)))
  (hbo:vt X.env.scope scope=true) (hfr:FreeOk scope X.N [y] [i])
  (hso:PE X elt (WN i)) (hg:∀s H C fp,PG (X.comp scope ([c]++[y]) s H C fp) (.Name c cp) (u6 0)) {e2:Expr} (he:∀s H C fp,PE (X.comp scope ([c]++[y]) s H C fp) e2 teT)
  (hsw:swapsWith (.Dict [] [] dp) (some (.Name y yp)) a1.line X.env=pure false:=by rfl) (hfy:X.fn y=true∨X.env.scope.names.lookup y=some .local:=by first|exact .inl rfl|exact .inr rfl|assumption)
  (hfx:X.fn x=true∨X.env.scope.names.lookup x=some .local:=by first|exact .inl rfl|exact .inr rfl|assumption) (hs:∀x,foldedSetIterable iter X.env x=pure x:=by intro _;rfl) (hs2:∀x,foldedSetIterable elt X.env x=pure x:=by intro _;rfl) :
  Ya X [.Assign [.Name y yp] (.Dict [] [] dp) a1,.For (.Name x tp) iter body [] fp,.Return (some (.ListComp e2 [⟨.Name c cp,elt,[],0⟩] scope cpos)) rp] (Yx i r fi):=
 PSs.imp (uL (W0 (i:=i) hN hy hly J8 hsw hfy) (uL (ps_tf (r:=r) hp hc hi hN hx hlx hb hfx hs)
  (j9 (W1 (PE.imp (VN (s0:=wE [c].length [i]) (xR hbo) hc (fun σ _=>by simp[wE]) (uI (tn:=[c]) hfr) (Mk hso) hg (fun s H C fp=>VG) he hs2) Te))))) fun E σ H h=>by
  obtain⟨B,Z,F,τ,R,h⟩:=h
  unfold Yx at h
  by_cases z:vlB τ=true∧r<τ.length∧i<τ.length∧r≠i
  ·rw[if_pos z] at h
   obtain⟨z1,z2,z3,z4⟩:=z
   have vl:=TY z1
   intro p hp'
   have bp:B p=none:=Xf R.bh hp'
   have fp':F p=none:=Qp R.rv.fh hp'
   obtain⟨R1,v1⟩:=RS.drop (i:=i) (v:=some (.ref p)) (RS.free (o:=.dK []) R vl bp fp' (.inl hp')) vl
   cases q:fi (τ.set i none) with
   |no=>rw[q] at h;exact h.elim
   |ex c=>rw[q] at h;exact h.elim
   |ok ds=>
    rw[q] at h
    dsimp only at h
    cases q2:jH ds with
    |none=>rw[q2] at h;exact h.elim
    |some rows=>
     rw[q2] at h
     have ed:=JS q2
     subst ed
     by_cases z5:rows.length<64
     ·simp only[if_pos z5] at h
      have gl:=(jA rows rows.length).1
      rw[List.take_length] at gl
      refine⟨B,Z,F,τ.set i none,p,rows,R1,v1,⟨?_,bp,fp',zt,rfl,nodup_nil,nodup_nil,fun j l g e=>by simp at e⟩,by rw[length_set];exact z2,z4,q,by omega,fun σ' F' H' τ' ls ff R' v' D'=>?_⟩
      ·rw[getElem?_set_self (by rw[← R.rv.len];exact z3)]
      ·exact⟨B,Z,F',τ',grp rows,p,ls,R',v',D',by omega,fun v F'' H'' x' rep=>h v F'' H'' x' rep⟩
     ·simp only[if_neg z5] at h;exact h.elim
  ·rw[if_neg z] at h;exact h.elim
end
end FD
set_option Elab.async false
set_option linter.all false
set_option maxRecDepth 100000
namespace STW
open PySem PyProof.Rows
theorem LO:∀x y:List Nat,Spec.ltCps x y=false→Spec.ltCps y x=false→x=y:=fun x=>by
 induction x with
 |nil=>
  intro y h1 h2
  cases y with
  |nil=>rfl
  |cons b y=>cases h1
 |cons a x ih=>
  intro y h1 h2
  cases y with
  |nil=>cases h2
  |cons b y=>
   have g1:(decide (a<b)||(a==b&&Spec.ltCps x y))=false:=h1
   have g2:(decide (b<a)||(b==a&&Spec.ltCps y x))=false:=h2
   rw[Bool.or_eq_false_iff,decide_eq_false_iff_not] at g1 g2
   have e:a=b:=by omega
   subst e
   have g3:Spec.ltCps x y=false:=by simpa using g1.2
   have g4:Spec.ltCps y x=false:=by simpa using g2.2
   rw[ih y g3 g4]
theorem QH:∀x y z:List Nat,Spec.ltCps y x=false→Spec.ltCps z y=false→Spec.ltCps z x=false:=fun x=>by
 induction x with
 |nil=>intro y z _ _;cases z <;> rfl
 |cons a x ih=>
  intro y z h1 h2
  cases y with
  |nil=>cases h1
  |cons b y=>
   cases z with
   |nil=>cases h2
   |cons c z=>
    have g1:(decide (b<a)||(b==a&&Spec.ltCps y x))=false:=h1
    have g2:(decide (c<b)||(c==b&&Spec.ltCps z y))=false:=h2
    show(decide (c<a)||(c==a&&Spec.ltCps z x))=false
    rw[Bool.or_eq_false_iff,decide_eq_false_iff_not] at g1 g2 ⊢
    refine⟨by omega,?_⟩
    by_cases e:c=a
    ·have e1:b=a:=by omega
     have e2:c=b:=by omega
     have g3:Spec.ltCps y x=false:=by simpa[e1] using g1.2
     have g4:Spec.ltCps z y=false:=by simpa[e2] using g2.2
     rw[ih y z g3 g4];simp
    ·simp[e]
theorem MO(x y:List Nat)(h:Spec.ltCps x y=true):Spec.ltCps y x=false:=by
 cases e:Spec.ltCps y x with
 |false=>rfl
 |true=>
  exfalso
  have aux:∀x y:List Nat,Spec.ltCps x y=true→Spec.ltCps y x=true→False:=fun x=>by
   induction x with
   |nil=>intro y _ h2;cases y <;> cases h2
   |cons a x ih=>
    intro y h1 h2
    cases y with
    |nil=>cases h1
    |cons b y=>
     have g1:(decide (a<b)||(a==b&&Spec.ltCps x y))=true:=h1
     have g2:(decide (b<a)||(b==a&&Spec.ltCps y x))=true:=h2
     simp only[Bool.or_eq_true,decide_eq_true_eq,Bool.and_eq_true,beq_iff_eq] at g1 g2
     rcases g1 with g1|⟨e1,g1⟩
     ·rcases g2 with g2|⟨e2,_⟩ <;> omega
     ·rcases g2 with g2|⟨_,g2⟩
      ·omega
      ·exact ih y g1 g2
  exact aux x y h e
def leS(a b:Str):Prop:=Spec.ltCps b.cps.toList a.cps.toList=false
theorem YG{a b c:Str}(h1:leS a b)(h2:leS b c):leS a c:=QH _ _ _ h1 h2
theorem QG{a b:Str}(h1:leS a b)(h2:leS b a):a=b:=by
 have:=LO _ _ h2 h1
 cases a;cases b
 simp only at this
 congr
 exact Array.toList_inj.mp this
def Vf(a:Str):List Str→List Str
 |[]=>[a]
 |b::r=>if Spec.ltCps b.cps.toList a.cps.toList=true then b::Vf a r else a::b::r
def srtS:List Str→List Str
 |[]=>[]
 |a::r=>Vf a (srtS r)
theorem YO(a:Str):∀l,(Vf a l).Perm (a::l):=fun l=>by
 induction l with
 |nil=>exact List.Perm.refl _
 |cons b r ih=>
  unfold Vf
  split
  ·exact(ih.cons b).trans (List.Perm.swap a b r)
  ·exact List.Perm.refl _
theorem srtS_perm:∀l,(srtS l).Perm l:=fun l=>by
 induction l with
 |nil=>exact List.Perm.refl _
 |cons a r ih=>exact(YO a _).trans (ih.cons a)
theorem MY(a:Str):∀l:List Str,l.Pairwise leS→(Vf a l).Pairwise leS:=fun l=>by
 induction l with
 |nil=>intro _;simp[Vf]
 |cons b r ih=>
  intro h
  have h':=pairwise_cons.mp h
  unfold Vf
  split
  ·rename_i z
   refine pairwise_cons.mpr ⟨fun x hx=>?_,ih h'.2⟩
   rcases mem_cons.mp ((YO a r).mem_iff.mp hx) with rfl|hx
   ·exact MO _ _ z
   ·exact h'.1 x hx
  ·rename_i z
   have hab:leS a b:=by unfold leS;simpa using z
   refine pairwise_cons.mpr ⟨fun x hx=>?_,h⟩
   rcases mem_cons.mp hx with rfl|hx
   ·exact hab
   ·exact YG hab (h'.1 x hx)
theorem GV:∀l:List Str,(srtS l).Pairwise leS:=fun l=>by
 induction l with
 |nil=>exact List.Pairwise.nil
 |cons a r ih=>exact MY a _ ih
theorem Jz:∀{l m:List Str},l.Pairwise leS→m.Pairwise leS→l.Perm m→l=m:=fun {l}=>by
 induction l with
 |nil=>intro m _ _ p;rw[List.nil_perm.mp p]
 |cons a l ih=>
  intro m h1 h2 p
  cases m with
  |nil=>have:=p.length_eq;simp at this
  |cons b m=>
   have g1:=pairwise_cons.mp h1
   have g2:=pairwise_cons.mp h2
   have e:a=b:=by
    have ha:a∈b::m:=p.mem_iff.mp mem_cons_self
    have hb:b∈a::l:=p.mem_iff.mpr mem_cons_self
    rcases mem_cons.mp ha with z|z
    ·exact z
    ·rcases mem_cons.mp hb with y|y
     ·exact y.symm
     ·exact QG (g1.1 b y) (g2.1 a z)
   subst e
   rw[ih g1.2 g2.2 p.cons_inv]
theorem UJ:∀(l:List Str) (a:Str),risingS a l=true→(a::l).Pairwise leS:=fun l=>by
 induction l with
 |nil=>intro a _;simp
 |cons b l ih=>
  intro a h
  have h':(!(Spec.ltCps b.cps.toList a.cps.toList)&&risingS b l)=true:=h
  rw[Bool.and_eq_true,Bool.not_eq_true'] at h'
  have p:=ih b h'.2
  have p':=pairwise_cons.mp p
  refine pairwise_cons.mpr ⟨fun x hx=>?_,p⟩
  rcases mem_cons.mp hx with rfl|hx
  ·exact h'.1
  ·exact YG (show leS a b from h'.1) (p'.1 x hx)
theorem UD{l:List Str}(h:sortedS l=true):l.Pairwise leS:=by
 cases l with
 |nil=>exact List.Pairwise.nil
 |cons a l=>exact UJ l a h
theorem GW{l m:List Str}(p:l.Perm m)(h:sortedS l=true):l=srtS m:=Jz (UD h) (GV m) (p.trans (srtS_perm m).symm)
section
variable{prog:Program}{w:World}{K:Type}[DecidableEq K]{knd:PySem.KeyKind prog w K}{A:Around}{E:Value→Shared→Prop}{s:Shared}{d:Addr}{kvs:List (K×Value)}{ep:Nat}{ss:List Str}
end
end STW
set_option Elab.async false
set_option linter.all false
set_option maxRecDepth 100000
namespace FD
open PySem PySem.Spec PyProof.Rows L2
variable[Tabs]
section
variable{X:Cx}
end
abbrev FG2:=DS→List Str→Option (DS×List Str)
section
variable{X:Cx}{i r:Nat}{x y:Str}{e0 iter:Expr}{fk:FE}{fi:FA}{f:FG2}{q1 sp bp ap tp pos:Pos}{kk:Nat}{body:List Stmt}
end
omit [Tabs] in
theorem Jw:∀{vs:List Value} {ns:List Str},StrsAre vs ns→Vals (ns.map V.str) vs:=fun {vs ns} h=>by
 induction h with
 |nil=>exact .nil
 |cons y t _ ih=>exact .cons ⟨t,rfl⟩ ih
theorem Reps.strs{K:PySem.W.Frag}{F:Hp}(ks:List Str):Reps K F (ks.map D.str) (ks.map V.str):=by
 induction ks with
 |nil=>exact Reps.nil
 |cons k ks ih=>exact Reps.cons (by simp only[Rep]) ih
section
variable{X:Cx}{i r:Nat}{x y sx:Str}{iter:Expr}{f:FG2}{st:Stmt}{yp dp a1 rp p1 pos pp:Pos}
end
end FD
set_option Elab.async false
set_option linter.all false
set_option maxRecDepth 100000
namespace STW
open PySem PyProof.Rows
def WH(ks:List Str)(k:Str):List Str:=if ks.any (· == k) then ks else ks++[k]
def fmT(val:Nat→Str):Nat→List Str
 |0=>[]
 |n+1=>WH (fmT val n) (val n)
theorem Q8(val:Nat→Str):fmT val 0=[]:=rfl
theorem vO(val:Nat→Str)(i:Nat):fmT val (i+1)=WH (fmT val i) (val i):=rfl
theorem uH(ks:List Str)(k:Str):(WH ks k).length=if ks.any (· == k) then ks.length else ks.length+1:=by
 unfold WH;split <;> simp
theorem UB(ks:List Str)(k k':Str):(WH ks k).any (· == k')=(ks.any (· == k')||decide (k'=k)):=by
 unfold WH
 split
 ·rename_i h
  by_cases e:k'=k
  ·subst e;rw[h];rfl
  ·simp[e]
 ·rw[List.any_append]
  congr 1
  by_cases e:k'=k
  ·subst e;simp
  ·have e2:¬ k=k':=fun z=>e z.symm
   simp[e,e2]
theorem fmT_le(val:Nat→Str)(n:Nat):(fmT val n).length≤n:=by
 induction n with
 |zero=>exact le_refl _
 |succ n ih=>rw[vO,uH];split <;> omega
theorem GT{vs:List Value}{ns:List Str}(h:StrsAre vs ns):∀(i:Nat) (v:Value),vs[i]?=some v→∃t,v=.str (ns.getD i "") t:=by
 induction h with
 |nil=>intro i v e;simp at e
 |cons y t _ ih=>
  intro i v e
  cases i with
  |zero=>simp at e;subst e;exact⟨t,rfl⟩
  |succ i=>simpa using ih i v (by simpa using e)
section
variable{prog:Program}{w:World}{A:Around}{R:Result→Shared→Prop}{I:Addr}{fp wr:List Addr}{G:Array GenState→Array GenState→Prop}{n:Nat}{P:Nat→Value→Prop}{St:Nat→Shared→Prop}{L:Bool}
theorem Jy(W:WalksS prog w A.in1 I fp wr G n P St)(Z:Addr)(hZ:Z∉fp)(val:Nat→Str)(hval:∀i v,P i v→∃t,v=.str (val i) t)(hb:n+1<scanBound) :
  ∀(k i:Nat) (s:Shared),n-i=k→i≤n→St i s→SetT (strKind prog w) L s.heap Z (fun k'=>(fmT val i).any (· == k')) (fmT val i).length →
   (∀s',Moved (Z::wr) G s s'→SetT (strKind prog w) L s'.heap Z (fun k'=>(fmT val n).any (· == k')) (fmT val n).length→R (.ok (.ret .none)) s') →
   codeAny (model prog w) A (.builtin "set.update.loop" ⟨[.ref Z,.ref I],[]⟩) R s:=by
 have hw:Z∉wr:=fun h=>hZ (W.sub _ h)
 have up:∀b∈wr,b∈Z::wr:=fun b h=>mem_cons_of_mem _ h
 intro k
 induction k with
 |zero=>
  intro i s hk hi hst hS hR
  obtain rfl:i=n:=by omega
  refine codeAny_builtin PyProof.Rows.F.entry_set_update_loop ?_
  rw[Around.under_plainId PyProof.Rows.F.plain_set_update_loop _]
  show wpAny _ A.in1 (pyNext (.ref I) >>= _) _ _ s;refine wpAny_bind (W.done s _ _ hst fun s' hm=>?_)
  exact wpAny_pure (hR s' (hm.mono up) (hS.at fun o e=>hm.heap Z _ hw e))
 |succ k ih=>
  intro i s hk hi hst hS hR
  refine codeAny_builtin PyProof.Rows.F.entry_set_update_loop ?_
  rw[Around.under_plainId PyProof.Rows.F.plain_set_update_loop _]
  show wpAny _ A.in1 (pyNext (.ref I) >>= _) _ _ s;refine wpAny_bind (W.item i s _ _ (by omega) hst fun v s' hP hst' hm=>?_)
  obtain⟨t,rfl⟩:=hval i v hP
  have hS1:=hS.at (h':=s'.heap) fun o e=>hm.heap Z _ hw e
  show wpAny _ A.in1 (holding [Value.str (val i) t] (setAdd Z (.str (val i) t)) >>= _) _ _ s';refine wpAny_bind (wpAny_holding ?_)
  unfold setAdd
  refine wpAny_holding (wpAny_bind ((strKind prog w).pyHash (k:=val i) (strKind_is _ _ _ _) ?_))
  have room:(fmT val i).length+1<scanBound:=by have:=fmT_le val i;omega
  refine TW (knd:=strKind prog w) (s:={ s' with toks:=s'.toks+1 }) (strKind_is _ _ _ _) rfl hS1 room fun h' sb hS2=>?_
  have hS3:=hS2.congr (S':=fun k'=>(fmT val (i+1)).any (· == k')) (n':=(fmT val (i+1)).length) (fun k'=>by rw[vO,UB]) (by rw[vO,uH])
  refine wpAny_pure ⟨plainId_quiet PyProof.Rows.F.plain_set_update_loop _,ih (i+1) _ (by omega) (by omega) (W.frame _ s' _ _ hst' (le_succ _) fun b hb o e=>?_) hS3 fun s'' hm'' hS''=>?_⟩
  ·rw[sb.2 b (fun h:b=Z=>hZ (by rw[← h];exact hb))];exact e
  ·refine hR s'' (Moved.trans W.gtrans ((hm.mono up).then_heap (le_succ _) fun b o hb e=>?_) hm'') hS''
   rw[sb.2 b (fun h:b=Z=>hb (by rw[h];exact mem_cons_self))];exact e
end
section
variable{prog:Program}{w:World}{A:Around}{E:Value→Shared→Prop}{s:Shared}
abbrev fmS(ns:List Str)(n:Nat):List Str:=fmT (fun i=>ns.getD i "") n
def AftS(prog:Program)(w:World)(s:Shared)(ns:List Str)(n:Nat)(r:Value)(s2:Shared):Prop:=
 r=.none∧∃h' tk,s2 = { s with heap:=h',toks:=tk }∧SetT (strKind prog w) (wc w) h' s.heap.objs.size (fun k=>(fmS ns n).any (· == k)) (fmS ns n).length∧∀b o,b<s.heap.objs.size→s.heap.get? b=some o→h'.get? b=some o
set_option maxRecDepth 100000 in
set_option maxHeartbeats 3200000 in
theorem callSetS{l:Addr}{items:Array Value}{ns:List Str}{Q:Value→Shared→Prop}(hh:A.handled=none)(hl:s.heap.IsList l items)(hi:StrsAre items.toList ns)(hb:items.size+1<scanBound)
  (h:∀(h':Heap) (tk:Nat),SetT (strKind prog w) (wc w) h' s.heap.objs.size (fun k=>(fmS ns items.size).any (· == k)) (fmS ns items.size).length→(∀b o,b<s.heap.objs.size→s.heap.get? b=some o→h'.get? b=some o)→Q (.ref s.heap.objs.size) { s with heap:=h',toks:=tk }) :
  wpAny (model prog w) A (call (.type "set") [.ref l]) Q E s:=by
 obtain⟨c,tl,hmro⟩:=PySem.F.called_set.mro;have hmade:=PySem.F.called_set.made;have hsub:=PySem.F.called_set.sub
 refine wpAny_call (codeAny_of_tree ?_);show wpAny _ _ (callAny (.type "set") _) _ _ _
 refine wpAny_pure ⟨Code.quiet_builtin _ (by decide +kernel),codeAny_builtin F.entry_type_call ?_⟩;rw[Around.under_plain (weight_type_call_type "set" [.ref l] []) rfl]
 have h1:=PySem.F.called_set.notType;have h2:=PySem.F.called_set.canCreate;have hct:=PySem.F.typeCall_set_1 (.ref l)
 repeat (any_goals (first|assumption|wp_step))
 refine codeAny_mono (newT (.ref l) (E:=E) (Q₁:=fun obj s1=>obj=.ref s.heap.objs.size∧s1 = { s with heap:=s.heap.push (y7 (wc w)) }) ⟨rfl,rfl⟩) fun r s1 hr=>?_
 cases r with
 |error e=>exact hr
 |ok fl=>
  cases fl with
  |ret obj=>
   obtain⟨rfl,rfl⟩:=hr
   generalize hled:wc w=led at h
   have hS:(s.heap.push (y7 led)).get? s.heap.objs.size=some (y7 led):=Heap.get?_push_size _ rfl
   have hT:Shared.TypeIs { s with heap:=s.heap.push (y7 led) } (.ref s.heap.objs.size) "set" := ⟨_,hS,rfl⟩
   have hli:=PySem.F.called_set.init.lookup;have hbi:=PySem.F.called_set.init.bind (.ref s.heap.objs.size)
   repeat (any_goals (first|assumption|wp_step))
   refine codeAny_mono (codeAny_call_builtin (R:=wants (AftS prog w s ns items.size) E) PySem.F.called_set.init.plain PySem.F.entry_set_init (check_set_init_1 hT ?_)) fun r2 s2 hr2=>?_
   ·obtain⟨ol,hol,hcl,nl,hdl⟩:=hl
    obtain⟨ocls,odict,odata,oslots⟩:=ol
    simp only at hcl hdl;subst hcl;subst hdl
    have hol':(s.heap.push (y7 led)).get? l=some { cls:=.type "list", dict:=odict,data:=.seq items nl,slots:=oslots }:=Heap.get?_push_of_some _ hol
    have hsls:=PySem.F.sub_list_set;have hslf:=PySem.F.sub_list_frozenset
    have hne:(Value.type "list" == Value.type "dict")=false:=by decide
    have hl1:(s.heap.push (y7 led)).IsList l items:=⟨_,hol',rfl,nl,rfl⟩
    unfold Builtin.«set.__init__» noKeywords Builtin.Frozenset.updateFrom;generalize hPI:pyIter=PI
    wp_walk
    subst hPI
    refine wpAny_pyIter_list hl1 (wpAny_bind (wpAny_runValue ?_))
    have hlS:l<s.heap.objs.size:=Heap.lt_size hol
    have hh3:A.in1.in1.in1.handled=none:=by simp[hh]
    have es:(s.heap.push (y7 led)).objs.size=s.heap.objs.size+1:=Heap.size_push _ _
    have hneI:l≠(s.heap.push (y7 led)).objs.size:=by rw[es];exact ne_of_lt (lt_succ_of_lt hlS)
    have hSf:s.heap.objs.size∉[(s.heap.push (y7 led)).objs.size,l]:=by
     rw[es];simp only[mem_cons,not_mem_nil,or_false,not_or];exact⟨ne_of_lt (lt_succ_self _),ne_of_gt hlS⟩
    have hval:∀(i:Nat) (v:Value),items[i]?=some v→∃t,v=.str ((fun i=>ns.getD i "") i) t:=fun i v hv=>GT hi i v (by rw[getElem?_toList];exact hv)
    refine Jy (L:=led) ((Walks.list hh3 _ l hneI items).toS) s.heap.objs.size hSf (fun i=>ns.getD i "") hval hb (items.size-0) 0 _ (by omega) (zero_le _) ⟨⟨_,Heap.get?_push_size _ rfl,rfl,rfl⟩,(hl1.push _)⟩ ?hS0 ?hR
    case hS0=>
     refine⟨y7 led,#[],0,.fresh 0 0 led,Heap.get?_push_of_some _ hS,⟨rfl,rfl,rfl⟩,rfl,fun e he=>by simp at he,fun k=>by simp[Q8],by decide,by rfl,rfl,rfl,rfl,List.Pairwise.nil⟩
    case hR=>
     intro s' hm hS'
     obtain⟨h',g',d',tk',os'⟩:=s'
     have eg:g'=s.gens:=hm.gens;have ed:d'=s.drawn:=hm.drawn;have eo:os'=s.os:=hm.os
     subst eg;subst ed;subst eo
     show wpAny _ _ _ _ _ _;refine wpAny_pure ?_;show wpAny _ _ (ret Value.none) _ _ _
     refine wpAny_pure ⟨rfl,h',tk',rfl,by rw[hled];exact hS',fun b o hb e=>hm.heap b o ?_ (Heap.get?_push_of_some _ (Heap.get?_push_of_some _ e))⟩
     rw[es];simp only[mem_cons,not_mem_nil,or_false,not_or];exact⟨ne_of_lt hb,ne_of_lt (lt_succ_of_lt hb)⟩
   ·cases r2 with
    |error e=>exact hr2
    |ok fl2=>
     cases fl2 with
     |ret r=>
      obtain⟨rfl,h',tk,rfl,hS',hk'⟩:=hr2
      rw[hled] at hS'
      repeat (any_goals (first|assumption|wp_step))
      exact h _ _ hS' hk'
     |_=>exact hr2.elim
  |_=>exact hr.elim
end
theorem Jh(val:Nat→Str)(n:Nat):(fmT val n).Nodup:=by
 induction n with
 |zero=>exact nodup_nil
 |succ n ih=>
  rw[vO];unfold WH
  split
  ·exact ih
  ·rename_i h
   have h:val n∉fmT val n:=fun q=>h (any_eq_true.mpr ⟨_,q,by simp⟩)
   exact List.nodup_append.mpr ⟨ih,by simp,fun x hx y hy=>by have:=mem_singleton.mp hy;subst this;exact fun e=>h (e ▸ hx)⟩
theorem M5(val:Nat→Str)(x:Str)(n:Nat):x∈fmT val n↔∃i,i<n∧val i=x:=by
 induction n with
 |zero=>simp[fmT]
 |succ n ih=>
  rw[vO];unfold WH
  split
  ·rename_i h
   rw[ih]
   constructor
   ·rintro⟨i,a,b⟩;exact⟨i,by omega,b⟩
   ·rintro⟨i,a,b⟩
    rcases Nat.lt_or_eq_of_le (Nat.le_of_lt_succ a) with z|z
    ·exact⟨i,z,b⟩
    ·subst z
     obtain⟨y,hy,e⟩:=any_eq_true.mp h
     have e:y=val i:=by simpa using e
     rw[e,b] at hy
     exact ih.mp hy
  ·rw[mem_append,ih,mem_singleton]
   constructor
   ·rintro (⟨i,a,b⟩|e)
    ·exact⟨i,by omega,b⟩
    ·exact⟨n,lt_succ_self _,e.symm⟩
   ·rintro⟨i,a,b⟩
    rcases Nat.lt_or_eq_of_le (Nat.le_of_lt_succ a) with z|z
    ·exact .inl ⟨i,z,b⟩
    ·subst z;exact .inr b.symm
theorem fmS_mem(ns:List Str)(x:Str):x∈fmS ns ns.length↔x∈ns:=by
 unfold fmS
 rw[M5]
 constructor
 ·rintro⟨i,a,rfl⟩
  have:ns.getD i "" = ns[i]:=by simp[a]
  rw[this];exact getElem_mem a
 ·intro h
  obtain⟨i,a,rfl⟩:=List.mem_iff_getElem.mp h
  exact⟨i,a,by simp[a]⟩
theorem Vz:∀{vs:List Value},(∀v∈vs,∃k t,v=Value.str k t)→∃ns,StrsAre vs ns:=fun {vs}=>by
 induction vs with
 |nil=>intro _;exact⟨[],.nil⟩
 |cons v vs ih=>
  intro h
  obtain⟨k,t,rfl⟩:=h v mem_cons_self
  obtain⟨ns,hn⟩:=ih fun v hv=>h v (mem_cons_of_mem _ hv)
  exact⟨k::ns,.cons k t hn⟩
theorem JH{vs:List Value}{ns:List Str}(h:StrsAre vs ns)(x:Str):x∈ns↔∃t,Value.str x t∈vs:=by
 induction h with
 |nil=>simp
 |cons y t _ ih=>
  rw[mem_cons,ih]
  constructor
  ·rintro (rfl|⟨u,hu⟩)
   ·exact⟨t,mem_cons_self⟩
   ·exact⟨u,mem_cons_of_mem _ hu⟩
  ·rintro⟨u,hu⟩
   rcases mem_cons.mp hu with e|e
   ·cases e;exact .inl rfl
   ·exact .inr ⟨u,e⟩
theorem strs_map{vs:List Value}{ns:List Str}(h:StrsAre vs ns):ns=vs.map strOf:=h.strs.symm
theorem UA{vs us:List Value}{ns:List Str}(h:StrsAre vs ns)(p:us.Perm vs):∃ms,StrsAre us ms∧ms.Perm ns:=by
 obtain⟨ms,hm⟩:=Vz (vs:=us) fun v hv=>h.all v (p.mem_iff.mp hv)
 refine⟨ms,hm,?_⟩
 rw[strs_map hm,strs_map h];exact p.map _
theorem J3:∀{m l:List Str},m.Nodup→(∀x,x∈m→x∈l)→l.length≤m.length→m.Perm l:=fun {m}=>by
 induction m with
 |nil=>intro l _ _ h;rw[List.length_eq_zero_iff.mp (Nat.le_zero.mp h)]
 |cons a m ih=>
  intro l hn hs h
  have h':=nodup_cons.mp hn
  have ha:=hs a mem_cons_self
  refine((ih (l:=l.erase a) h'.2 (fun x hx=>?_) ?_).cons a).trans (List.perm_cons_erase ha).symm
  ·exact(List.mem_erase_of_ne (fun e:x=a=>h'.1 (by rw[← e];exact hx))).mpr (hs x (mem_cons_of_mem _ hx))
  ·rw[List.length_erase_of_mem ha];simp only[length_cons] at h;omega
section
variable{prog:Program}{w:World}{A:Around}{E:Value→Shared→Prop}{s:Shared}{a:Addr}{ns:List Str}{n:Nat}
theorem JO{h:Heap}(hS:SetT (strKind prog w) (wc w) h a (fun k=>(fmS ns ns.length).any (· == k)) (fmS ns ns.length).length) :
  ∃es ep t,SetAt h a es ep t∧TT (wc w) t∧es.size<scanBound∧∃ms,StrsAre (es.toList.map (·.2)) ms∧ms.Perm (fmS ns ns.length):=by
 obtain⟨o,es,ep,t,ho,hx,hd,hel,hmem,hb,hf,hn,hT⟩:=hS
 refine⟨es,ep,t,⟨⟨o,ho,hx,hd⟩,hf⟩,hT,hb,?_⟩
 have isS:∀(k:Str) (v:Value),(strKind prog w).is k v=true→∃t,v=Value.str k t:=fun k v h=>Value.isStrOf_shape h
 obtain⟨ms,hm⟩:=Vz (vs:=es.toList.map (·.2)) fun v hv=>by
  obtain⟨e,he,rfl⟩:=mem_map.mp hv
  obtain⟨⟨k,hk,_⟩,_⟩:=hel e he
  obtain⟨t,e⟩:=isS k _ hk
  exact⟨k,t,e⟩
 refine⟨ms,hm,?_⟩
 have mem:∀x,x∈fmS ns ns.length→x∈ms:=fun x hx=>by
  have:=(hmem x).mp (any_eq_true.mpr ⟨x,hx,by simp⟩)
  obtain⟨e,he,hk⟩:=this
  obtain⟨t,z⟩:=isS x _ hk
  exact(JH hm x).mpr ⟨t,by rw[← z];exact List.mem_map_of_mem he⟩
 have hl:ms.length=es.size:=by
  have:=congrArg List.length (strs_map hm)
  simpa using this
 exact(J3 (Jh _ _) mem (by rw[hl,hn];exact le_refl _)).symm
theorem sortSetS(hh:A.handled=none)(hS:SetT (strKind prog w) (wc w) s.heap a (fun k=>(fmS ns ns.length).any (· == k)) (fmS ns ns.length).length)(h64:ns.length<64){Q:Value→Shared→Prop}
  (q:∀h' d' tk b (out:List Value) e,h'.get? b=some (seqObj "list" out.toArray e)→StrsAre out (srtS (fmS ns ns.length))→s.heap.objs.size≤b→(∀b o,s.heap.get? b=some o→h'.get? b=some o)→Q (.ref b) { s with heap:=h',drawn:=d',toks:=tk }) :
  wpAny (model prog w) A (call (.builtin "sorted") [.ref a]) Q E s:=by
 obtain⟨es,ep,t,hA,hT,hb,ms,hm,hp⟩:=JO hS
 refine Calls.call_function_entry kind_sorted plain_sorted entry_sorted (args_sorted1 _) ?_
 unfold Builtin.«sorted»
 refine wpAny_bind (m:=checkCount "sorted" 1 1 _) (wpAny_pure ?_)
 refine wpAny_bind (Vm hA hT hb (by simp[hh]) fun ord h1 d' tk po hk hz=>?_)
 obtain⟨ms',hm',hp'⟩:=UA hm po
 have hl:ord.length<64:=by
  have e1:=congrArg List.length (strs_map hm');have e2:=(hp'.trans hp).length_eq;have e3:=fmT_le (fun i=>ns.getD i "") ns.length
  have e2':ms'.length=(fmT (fun i=>ns.getD i "") ns.length).length:=e2
  rw[length_map] at e1
  omega
 refine wpAny_bind (wpAny_newList ?_ (fits_of_scanBound (by rw[po.length_eq,length_map,length_toList];exact hb)))
 have hoL:(h1.push (seqObj "list" ord.toArray 0)).get? h1.objs.size=some (seqObj "list" ord.toArray 0):=Heap.get?_push_size _ rfl
 show wpAny _ _ _ _ _ { s with heap:=h1.push (seqObj "list" ord.toArray 0),drawn:=d',toks:=tk }
 refine wpAny_bind (wpAny_holding (wpAny_call_entry slot_list_sort ⟨_,hoL,rfl⟩ entry_list_sort (list_sort_treeK (s:={ s with heap:=h1.push (seqObj "list" ord.toArray 0),drawn:=d',toks:=tk }) strKind_oneLt hoL hm'.keysOf (fun v1 v2 r e=>?_) hl fun st' a2 a3=>⟨_,rfl,?_⟩) (args_list_sort _)))
 ·subst e;exact keyKind_strs hm'
 obtain⟨ss',b1,b2,b3⟩:=sorted_out_str hm' a2 a3
 have en:ss'=srtS (fmS ns ns.length):=GW (b2.trans (hp'.trans hp)) b3
 subst en
 obtain⟨e,he⟩:=sortedHeap_at (out:=Array.map (fun x=>x.snd) (arrOf st')) hoL
 refine wpAny_pure ⟨_,rfl,q _ _ _ h1.objs.size (Array.map (fun x=>x.snd) (arrOf st')).toList e (by rw[Array.toArray_toList];exact he) b1 (le_of_lt hz) fun b o hb=>?_⟩
 have hb1:=hk b o hb
 have hlt:=Heap.lt_size hb1
 rw[sortedHeap_old (ne_of_lt hlt) (by rw[size_push'];exact lt_succ_of_lt hlt)]
 exact Heap.get?_push_of_some _ hb1
end
end STW
set_option Elab.async false
set_option linter.all false
set_option maxRecDepth 100000
namespace FD
open PySem PySem.Spec PyProof.Rows L2
variable[Tabs]
def XI:List D→Rs (List D)
 |[.lst ds]=>match wZ ds with
  |some ns=>if ns.length<64 then .ok ((STW.srtS (STW.fmS ns ns.length)).map D.str) else .no
  |none=>.no
 |_=>.no
section
variable{X:Cx}{e:Expr}{pos:Pos}{fs:FA}
theorem Y9{p p2 pos2:Pos}(hc:X.calm=true)(hl:Gl X "sorted")(hml:X.mg "sorted" = none)(hg:Gl X "set")(hm:X.mg "set" = none)(ha:PDA X [e] fs)(hs:starEach [e] X.env=[(false,eval e X.env)]:=by rfl)
  (he:starEach [.Call (.Name "set" p2) [e] [] pos2] X.env=(false,eval (.Call (.Name "set" p2) [e] [] pos2) X.env)::starEach [] X.env:=by rfl) (hpl:(backTo pos (starEach [] X.env)).any (·.1)=false:=by rfl) :
  PDF X (.Call (.Name "sorted" p) [.Call (.Name "set" p2) [e] [] pos2] [] pos) (fun τ=>(fs τ).bind XI):=by
 intro pins s σ H Q I ⟨F,τ,R,h⟩
 refine wpAny_Call_Name_kw (x9 I hl hml boot_sorted ?_)
 refine PyProof.Rows.callWith_builtin1 ?_ he hpl
 rw[he]
 show wpAny _ _ (spliced ((false,eval (.Call (.Name "set" p2) [e] [] pos2) X.env)::backTo pos (starEach [] X.env))) _ _ s
 refine Calls.spliced_cons ?_
 have h:=h.bind
 generalize hG:(fun ds=>Ok X (XI ds) fun ds=>∀(p:Addr) (vs:List V) (F' H':Hp),Ext F H F' H'→H' p=none→Reps X.K F' ds vs→Q (V.ref p) (upd H' p (HO.lst vs)))=G at h
 refine Call_ (x9 I hg hm boot_set (PyProof.Rows.callWith_type1 (thn (ha pos2 pins s σ H (fun vs H1=>∃ds F1,G ds∧Ext F H F1 H1∧RV X.K F1 τ σ H1∧Reps X.K F1 ds vs) I (tAs.of R h fun ds vs F1 H1 g x R1 r=>⟨ds,F1,g,x,R1,r⟩)) fun us s1 ⟨vs,H1,I1,r1,ds,F1,g,x,R1,r⟩=>?_) hs rfl))
 subst hG
 obtain⟨ds',ns,e1,hns,h64,gq⟩:∃(ds':List D) (ns:List Str),ds=[.lst ds']∧wZ ds'=some ns∧ns.length<64∧∀(p:Addr) (vs:List V) (F' H':Hp),Ext F H F' H'→H' p=none→Reps X.K F' ((STW.srtS (STW.fmS ns ns.length)).map D.str) vs→Q (V.ref p) (upd H' p (HO.lst vs)):=by
  unfold XI at g
  split at g
  ·rename_i ds'
   cases q:wZ ds' with
   |none=>rw[q] at g;exact g.elim
   |some ns=>
    rw[q] at g
    obtain⟨z,g⟩:=yw g
    exact⟨ds',ns,rfl,q,z,g⟩
  ·exact g.elim
 subst e1
 obtain⟨v,rfl,r2⟩:=r.one
 simp only[Rep] at r2
 obtain⟨l,ws,rfl,e1,t⟩:=r2
 cases r1 with
 |cons ra rr=>
  cases rr;cases ra
  obtain⟨its,rv,⟨o,nn,eo,hcl,hd0,hd⟩,hz⟩:=I1.list (SqL.of (K:=X.K) (R1.fh _ _ e1))
  have hi:StrsAre its ns:=Ys hns t rv
  have hlen:its.length=ns.length:=by have:=congrArg List.length hi.strs;simpa using this
  refine STW.callSetS (I1.ok.hd hc) ⟨o,eo,hcl,nn,hd⟩ (by simpa using hi) (by rw[size_toArray,hlen];exact Nat.lt_of_le_of_lt (Nat.succ_le_of_lt h64) (by decide)) fun h' tk hS hk=>?_
  have hlen':its.toArray.size=ns.length:=by simpa using hlen
  rw[hlen'] at hS
  refine Calls.spliced_nil ?_
  refine STW.sortSetS (s:={ s1 with heap:=h',toks:=tk }) (I1.ok.hd hc) hS h64 fun h2 d2 tk2 b out ep hb ho hsz hk2=>?_
  have kk:∀c u,s1.heap.get? c=some u→h2.get? c=some u:=fun c u q=>hk2 c u (hk c u (Heap.lt_size q) q)
  have hp:s1.heap.objs.size≤b:=by
   obtain⟨o2,_,_,_,ho2,_⟩:=hS
   exact le_trans (le_of_lt (Heap.lt_size ho2)) hsz
  have I2:=Jb d2 I1
  have nH:H1 b=none:=I1.hok.fresh hp
  have ll:((STW.srtS (STW.fmS ns ns.length)).map V.str).length≤sizeLine:=by
   rw[length_map,(STW.srtS_perm _).length_eq]
   exact le_of_lt (yT (by have:=STW.fmT_le (fun i=>ns.getD i "") ns.length;show(STW.fmT _ _).length≤_;omega))
  exact⟨.ref b,_,I2.laid (t':=tk2) (o:=.lst ((STW.srtS (STW.fmS ns ns.length)).map V.str)) kk hp ⟨ll,out,ep,Jw ho,hb⟩,rfl,gq b _ F1 H1 x nH (Reps.strs _)⟩
end
end FD
set_option Elab.async false
set_option linter.all false
set_option maxRecDepth 100000
namespace STW
open PySem PyProof.Rows
section
variable{prog:Program}{w:World}{K:Type}[DecidableEq K]{knd:KeyKind prog w K}{A:Around}{E:Value→Shared→Prop}{s:Shared}{d:Addr}{kvs:List (K×Value)}{ep:Nat}
theorem Vh{R:Result→Shared→Prop}(hd:(d==sysModules)=false)(hm:s.heap.DictAt knd d kvs ep)(hz:kvs.length≤sizeLine)(hh:A.handled=none)(S:Addr)(res:Value)(c₀:Nat)(hS:s.heap.get? S=some { cls:=.type "list", data:=.seq #[] c₀ })
  (hR:∀h' tk acc' c',(∀b o,b≠S→s.heap.get? b=some o→h'.get? b=some o)→h'.get? S=some { cls:=.type "list", dict:=none,data:=.seq acc' c',slots:=#[] } →
   ItemsOf (fun i v=>∃k x,kvs[i]?=some (k,x)∧knd.is k v=true) acc' kvs.length→R (.ok (.ret res)) { s with heap:=h',toks:=tk }) :
  wpAny (model prog w) A.in1 (Builtin.List.listExtendWith (.ref S) (.ref d) res)
   (fun fin s'=>match fin with | .done f=>R (.ok f) s' | .again c'=>c'.quiet=true∧codeAny (model prog w) A c' R s') (fun e s'=>R (.error e) s') s:=by
 have ty:s.TypeIs (.ref d) "dict" := hm.dictOf.typeIs
 have hlt:d<s.heap.objs.size:=hm.lt_size
 have hSd:S≠d:=fun e=>by
  obtain⟨o,es,ho,hc,hdat,_⟩:=hm
  rw[e,ho] at hS;cases hS;cases hdat
 have hSlt:S<s.heap.objs.size:=Heap.lt_size hS
 have hSI:S≠s.heap.objs.size:=ne_of_lt hSlt
 have hne:d≠s.heap.objs.size:=ne_of_lt hlt
 unfold Builtin.List.listExtendWith
 refine wpAny_bind (wpAny_typeOf ty ?_)
 have c1:Builtin.List.listSameRef (.ref S) (.ref d)=false:=by simp[Builtin.List.listSameRef,hSd]
 have c2:(Value.type "dict" == Value.type "list")=false:=by decide
 have c3:(Value.type "dict" == Value.type "tuple")=false:=by decide
 simp only[c1,c2,c3,Bool.or_false,Bool.false_eq_true,if_false]
 refine wpAny_bind (wpAny_pyIter_dict hd hm ?_)
 generalize hh1:s.heap.push { cls:=.type "dict_keyiterator", data:=.fields #[.ref d,.int 0 0,.int kvs.length 0,.int ep 0] }=h1
 have kp:∀b o,s.heap.get? b=some o→h1.get? b=some o:=fun b o e=>by rw[← hh1];exact Heap.get?_push_of_some _ e
 have hm2:h1.DictAt knd d kvs ep:=hm.keep kp
 have hI:h1.get? s.heap.objs.size=some { cls:=.type "dict_keyiterator", data:=.fields #[.ref d,.int 0 0,.int kvs.length 0,.int ep 0] }:=by rw[← hh1];exact Heap.get?_push_size _ rfl
 have W':=(Walks.dictKeys (knd:=knd) (prog:=prog) (w:=w) (A:=A.in1) (by simp[hh]) s.heap.objs.size d hne kvs ep).toS
 refine wpAny_bind (wpAny_holding (Wm (s:={ s with heap:=h1 }) hm2 ?_))
 rw[if_pos (by kernel_rfl)]
 refine wpAny_bind (wpAny_rule (wpAny_bind ?_))
 show wpAny _ A.in1 (updateSeq S (·.push .none) >>= fun _=>updateSeq S (·.pop)) _ _ _
 have g1:=kp _ _ hS
 refine wpAny_bind (wpAny_updateSeq g1 rfl ?_)
 have g2:=Heap.get?_update_self (Obj.mapSeq (·.push Value.none)) g1 rfl
 refine wpAny_updateSeq (hz:=by seq_fits) g2 rfl ?_
 have g3:=Heap.get?_update_self (Obj.mapSeq (·.pop)) g2 rfl
 have oth:∀b o,b≠S→h1.get? b=some o→((h1.update S (Obj.mapSeq (·.push Value.none))).update S (Obj.mapSeq (·.pop))).get? b=some o:=fun b o hb e=>
  (Heap.get?_update_other _ _ (Ne.symm hb)).trans ((Heap.get?_update_other _ _ (Ne.symm hb)).trans e)
 have hSf:S∉[s.heap.objs.size,d]:=by
  simp only[mem_cons,not_mem_nil,or_false,not_or];exact⟨hSI,hSd⟩
 have st0:h1.IsKeyIter s.heap.objs.size d 0 kvs.length ep∧h1.DictAt knd d kvs ep:=⟨⟨_,hI,rfl,rfl⟩,hm2⟩
 have st1:=W'.frame 0 { s with heap:=h1 } ((h1.update S (Obj.mapSeq (·.push Value.none))).update S (Obj.mapSeq (·.pop))) s.toks st0 (by simp) fun b hb o e=>oth b o (fun h=>hSf (h ▸ hb)) e
 refine wpAny_pure ⟨plainId_quiet F.plain_extend_loop _,codeAny_extend_loopS (A:=A) W' hz _ hSf _ _ 0 _ _ _ rfl (zero_le _) st1 g3 (ItemsOf.nil _) fun s' acc' c' hmv hS' hacc=>?_⟩
 have eq:s' = { s with heap:=s'.heap,toks:=s'.toks }:=by
  obtain⟨_,g,dd,o,_⟩:=hmv
  cases s';simp only at g dd o;subst g;subst dd;subst o;rfl
 rw[eq]
 refine hR _ _ _ _ (fun b o hb e=>hmv.heap b o ?_ ?_) hS' hacc
 ·have hb':=Heap.lt_size e
  simp only[mem_cons,not_mem_nil,or_false,not_or]
  exact⟨hb,ne_of_lt hb'⟩
 ·exact oth b o hb (kp b o e)
theorem callListDict{Q:Value→Shared→Prop}(hd:(d==sysModules)=false)(hm:s.heap.DictAt knd d kvs ep)(hz:kvs.length≤sizeLine)(hh:A.handled=none)
  (hQ:∀h' tk acc' c',(∀b o,s.heap.get? b=some o→h'.get? b=some o) →
   h'.get? s.heap.objs.size=some { cls:=.type "list", dict:=none,data:=.seq acc' c',slots:=#[] }→ItemsOf (fun i v=>∃k x,kvs[i]?=some (k,x)∧knd.is k v=true) acc' kvs.length→Q (.ref s.heap.objs.size) { s with heap:=h',toks:=tk }) :
  wpAny (model prog w) A (call (.type "list") [.ref d]) Q E s:=by
 refine callType_codes (Q₁:=fun obj s₁=>obj=.ref s.heap.objs.size∧s₁ = { s with heap:=s.heap.push { cls:=.type "list", data:=.seq #[] } }) F.called_list (F.typeCall_list_1 _) F.entry_list_init
  (code_list_new _ ⟨rfl,rfl⟩) fun obj s₁ h₁=>?_
 obtain⟨rfl,rfl⟩:=h₁
 have hS:(s.heap.push { cls:=.type "list", data:=.seq #[] }).get? s.heap.objs.size=some { cls:=.type "list", data:=.seq #[] }:=Heap.get?_push_size _ rfl
 have hm1:(s.heap.push { cls:=.type "list", data:=.seq #[] }).DictAt knd d kvs ep:=hm.push _
 refine⟨⟨_,hS,rfl⟩,F.args_list_init_2 _ _,?_⟩
 have hSr:s.heap.objs.size≠d:=ne_of_gt hm.lt_size
 show wpAny _ _ (do let old ← Builtin.List.listItems (.ref s.heap.objs.size);Builtin.List.listUpdate (.ref s.heap.objs.size) (fun _=>#[]);letGo old.toList.reverse;Builtin.List.listExtendWith (.ref s.heap.objs.size) (.ref d) .none) _ _ _
 refine wpAny_bind ?_
 unfold Builtin.List.listItems
 refine wpAny_bind (wpAny_seqItems hS rfl (wpAny_pure ?_))
 show wpAny _ _ (updateSeq s.heap.objs.size (fun _=>#[]) >>= fun _=>letGo (#[]:Array Value).toList.reverse >>= fun _=>Builtin.List.listExtendWith (.ref s.heap.objs.size) (.ref d) .none) _ _ _
 refine wpAny_bind (wpAny_updateSeq hS rfl ?_)
 have hS₂:=Heap.get?_update_self (Obj.mapSeq (fun _=>(#[]:Array Value))) hS rfl
 have oth:∀b o,b≠s.heap.objs.size→(s.heap.push { cls:=.type "list", data:=.seq #[] }).get? b=some o→((s.heap.push { cls:=.type "list", data:=.seq #[] }).update s.heap.objs.size (Obj.mapSeq (fun _=>(#[]:Array Value)))).get? b=some o:=
  fun b o hb e=>(Heap.get?_update_other _ _ (Ne.symm hb)).trans e
 refine wpAny_bind (wpAny_letGo ?_)
 have hm2:((s.heap.push { cls:=.type "list", data:=.seq #[] }).update s.heap.objs.size (Obj.mapSeq (fun _=>(#[]:Array Value)))).DictAt knd d kvs ep:=hm1.at' fun o e=>oth d o (Ne.symm hSr) e
 refine Vh (A:=A.in1) (s:={ s with heap:=(s.heap.push { cls:=.type "list", data:=.seq #[] }).update s.heap.objs.size (Obj.mapSeq (fun _=>(#[]:Array Value))) }) hd hm2 hz (by simp[hh]) s.heap.objs.size .none _ hS₂ fun h' tk acc' c' hk hS' hacc=>?_
 exact⟨rfl,hQ h' tk acc' c' (fun b o e=>hk b o (ne_of_lt (Heap.lt_size e)) (oth b o (ne_of_lt (Heap.lt_size e)) (Heap.get?_push_of_some _ e))) hS' hacc⟩
end
end STW
set_option Elab.async false
set_option linter.all false
set_option maxRecDepth 100000
namespace FD
open PySem PySem.Spec PyProof.Rows L2
theorem Ma{P:Program}{w:World}{k:Key}{u:Value}(h:(yC P w).is k u=true):RelV (kV k) u:=by
 cases k with
 |inl n=>exact Value.isInt_shape h
 |inr x=>exact Value.isStrOf_shape h
theorem za4{P:Program}{w:World}{H:Hp}{h:Heap}{a:Addr}{o:Obj}{kvs:List (Key×V)}{es:Array DictEntry}{ep:Nat}(hok:HOk P w H h)(e:H a=some (.frz o (.dK kvs)))(hd:o.data=.dict es ep) :
  kvs.length≤sizeLine∧(a==sysModules)=false∧∃vs,KV kvs vs∧h.DictAt (yC P w) a vs ep:=by
 obtain⟨h1,z,hs,vs,r,o',es',ep',h2,h3,h4,h5⟩:=(show ObjOk P w H h a (.frz o (.dK kvs)) from hok a _ e)
 rw[h1] at h2;cases h2
 rw[hd] at h4;cases h4
 exact⟨z,hs,vs,r,o,es,h1,h3,hd,h5⟩
theorem za3{P:Program}{w:World}{H:Hp}{h:Heap}{a:Addr}{o:Obj}{kvs:List (Key×V)}(hok:HOk P w H h)(e:H a=some (.frz o (.dK kvs))):∃es ep,o.data=.dict es ep:=by
 obtain⟨h1,z,hs,vs,r,o',es',ep',h2,h3,h4,h5⟩:=(show ObjOk P w H h a (.frz o (.dK kvs)) from hok a _ e)
 rw[h1] at h2;cases h2
 exact⟨es',ep',h4⟩
def Td:Key→D
 |.inl i=>.int i
 |.inr x=>.str x
def YI:D→Option Key
 |.int i=>some (.inl i)
 |.str x=>some (.inr x)
 |_=>none
theorem G9{K:PySem.W.Frag}{F:Hp}(k:Key):Rep K F (Td k) (kV k):=by
 cases k with
 |inl i=>show Rep K F (.int i) (.int i);simp only[Rep]
 |inr x=>show Rep K F (.str x) (.str x);simp only[Rep]
theorem V3{K:PySem.W.Frag}{F:Hp}{d:D}{k:Key}{v:V}(h:YI d=some k)(r:Rep K F d v):v=kV k:=by
 cases d <;> first|cases h|skip
 all_goals (simp only[Rep] at r;subst r;rfl)
def Yl:List Key→List D→Key→Option D
 |k'::ks,d::ds,k=>if k'=k then some d else Yl ks ds k
 |_,_,_=>none
theorem Q0{K:PySem.W.Frag}{F:Hp}(k:Key):∀{kvs:List (Key×V)} {ks:List Key} {ds:List D},kvs.map (·.1)=ks→Reps K F ds (kvs.map (·.2)) →
  (∀d,Yl ks ds k=some d→∃v,wX kvs k=some v∧Rep K F d v)∧(Yl ks ds k=none→wX kvs k=none):=fun {kvs}=>by
 induction kvs with
 |nil=>
  intro ks ds h r
  subst h
  refine⟨fun d h=>?_,fun _=>rfl⟩
  rw[map_nil] at h
  unfold Yl at h
  cases h
 |cons p kvs ih=>
  intro ks ds h r
  subst h
  cases ds with
  |nil=>have:=r.length;simp at this
  |cons d ds=>
   simp only[map_cons,Reps] at r
   obtain⟨v,r',e,q,t⟩:=r
   cases e
   obtain⟨i1,i2⟩:=ih rfl t
   rw[map_cons]
   unfold Yl
   by_cases z:p.1=k
   ·rw[if_pos z]
    exact⟨fun d' h=>by cases h;exact⟨p.2,vG z,q⟩,fun h=>by cases h⟩
   ·rw[if_neg z,wR z]
    exact⟨i1,i2⟩
variable[Tabs]
section
variable{X:Cx}{pos apos cpos:Pos}{e o f tg:Expr}{fe fo ff:FE}
def Z3(fo fe ff:FE):FE:=fun τ=>(fo τ).bind fun d=>match d with
 |.dct ks ds=>(fe τ).bind fun k=>(ff τ).bind fun z=>match YI k with
  |some k=>.ok ((Yl ks ds k).getD z)
  |none=>.no
 |_=>.no
theorem Yz(hu:X.A.units+1<cLine)(ho:PDE X o fo)(he:PDE X e fe)(hf:PDE X f ff)(m:M2 X o "get" apos e f cpos):PDE X (.Call (.Attribute o "get" apos) [e,f] [] cpos) (Z3 fo fe ff):=
 PE.imp (J9 hu ho he hf m) fun σ H Q ⟨F,τ,R,h⟩=>tE.of R h.bind fun d v F1 H1 g x R1 r=>by
  cases d with
  |dct ks ds=>
   simp only[Rep] at r;obtain⟨a,kvs,ob,rfl,q,kk,t⟩:=r
   refine⟨a,rfl,.inl ⟨kvs,.inr ⟨ob,R1.fh _ _ q⟩⟩,?_⟩
   refine tE.of R1 g.bind fun dk vk F2 H2 g2 x2 R2 r2=>?_
   refine tE.of R2 g2.bind fun dz vz F3 H3 g3 x3 R3 r3=>?_
   cases hk:YI dk with
   |none=>rw[hk] at g3;exact g3.elim
   |some k=>
    rw[hk] at g3;dsimp only at g3
    have ek:=V3 hk r2
    subst ek
    have q3:=x3.ff _ _ (x2.ff _ _ q)
    have gt:DGet H3 a (kV k) (wX kvs k):=.inl ⟨kvs,k,.inr ⟨ob,R3.fh _ _ q3⟩,rfl,rfl⟩
    obtain⟨i1,i2⟩:=Q0 k kk (t.mono (x2.ff.trans x3.ff))
    refine⟨_,gt,?_⟩
    cases hg:Yl ks ds k with
    |none=>
     rw[hg] at g3
     rw[i2 hg]
     exact g3 vz F3 H3 ((x.trans x2).trans x3) r3
    |some dv=>
     rw[hg] at g3
     obtain⟨w,e1,e2⟩:=i1 dv hg
     rw[e1]
     exact g3 w F3 H3 ((x.trans x2).trans x3) e2
  |_=>exact g.elim
theorem Uu{P:Program}{w:World}:∀{ks:List Key} {us:List Value},us.length=ks.length→(∀(i:Nat) (u:Value) (k:Key),us[i]?=some u→ks[i]?=some k→(yC P w).is k u=true)→Vals (ks.map kV) us:=fun {ks}=>by
 induction ks with
 |nil=>
  intro us h _
  cases us with
  |nil=>exact .nil
  |cons _ _=>simp at h
 |cons k ks ih=>
  intro us h q
  cases us with
  |nil=>simp at h
  |cons u us=>exact .cons (Ma (q 0 u k rfl rfl)) (ih (by simpa using h) fun i u' k' h1 h2=>q (i+1) u' k' (by simpa using h1) (by simpa using h2))
theorem Vn(hc:X.calm=true):CallR X (.type "list") (fun vs H Q=>∃a ob kvs,vs=[.ref a]∧H a=some (.frz ob (.dK kvs))∧∀p,H p=none→Q (.ref p) (upd H p (.lst ((kvs.map (·.1)).map kV)))):=by
 intro pins s σ H vs us Q I r ⟨a,ob,kvs,e1,e2,q⟩
 subst e1
 obtain⟨u,rfl,ru⟩:=Vals.one r
 cases ru
 obtain⟨es,ep,hd⟩:=za3 I.hok e2
 obtain⟨z,hs,ws,rel,da⟩:=za4 I.hok e2 hd
 have hl:=rel.length
 refine STW.callListDict hs da (by omega) (I.ok.hd hc) fun h' tk acc' c' hk hS hacc=>?_
 have nH:H s.heap.objs.size=none:=I.hok.fresh (le_refl _)
 refine⟨.ref s.heap.objs.size,_,I.laid (t':=tk) (o:=.lst ((kvs.map (·.1)).map kV)) hk (le_refl _) ⟨by simpa using z,acc'.toList,c',Uu (P:=X.prog) (w:=X.w) ?_ fun i u k h1 h2=>?_,?_⟩,rfl,q _ nH⟩
 ·rw[length_toList,length_map,hl];exact hacc.1
 ·obtain⟨k',x,h3,h4⟩:=hacc.2 i u (by rw[← getElem?_toList];exact h1)
  have:=rel.keys
  rw[this,getElem?_map,h3] at h2
  cases h2
  exact h4
 ·simpa using hS
def jv:List D→Rs D
 |[.dct ks _]=>.ok (.lst (ks.map Td))
 |_=>.no
theorem UK{K:PySem.W.Frag}{F:Hp}(ks:List Key):Reps K F (ks.map Td) (ks.map kV):=by
 induction ks with
 |nil=>exact Reps.nil
 |cons k ks ih=>exact Reps.cons (G9 k) ih
theorem WB(hc:X.calm=true):jU X (.type "list") jv:=⟨_,Vn hc,fun F H vs ds Q fh r h=>by
 cases ds with
 |nil=>exact h.elim
 |cons d r2=>
  cases r2 with
  |cons a b=>cases d <;> exact h.elim
  |nil=>
   cases d with
   |dct ks xs=>
    obtain⟨v,rfl,q⟩:=r.one
    simp only[Rep] at q;obtain⟨a,kvs,ob,rfl,e,rfl,t⟩:=q
    refine⟨a,ob,kvs,rfl,fh _ _ e,fun p hp=>?_⟩
    exact h _ _ _ (Ext.new fh hp) (by simp only[Rep];exact⟨_,_,rfl,zt,UK _⟩)
   |_=>exact h.elim⟩
end
abbrev SI:=List (Str×Int)
abbrev FG3:=DS→SI→Option (DS×SI)
section
variable{X:Cx}{i r:Nat}{x y:Str}{e0 e0' ev iter:Expr}{fk fv:FE}{fi:FA}{f:FG3}{q1 q2 sp bp ap tp pos gp gc c0 c1 cp ip:Pos}{k0 k1:Nat}{body:List Stmt}
end
section
variable{X:Cx}{i:Nat}{y:Str}{f:FG3}{st:Stmt}{yp dp a1 rp p1:Pos}
end
section
variable{X:Cx}{pos p1 p2:Pos}{k1 k2:Nat}{x:Str}{n:Int}
end
section
variable{prog:Program}{w:World}{A:Around}{R:Result→Shared→Prop}{E:Value→Shared→Prop}{I S:Addr}{fp wr:List Addr}{n:Nat}{P:Nat→Value→Prop}{St:Nat→Heap→Prop}{kw:List (Str×Value)}{Ph:Heap→Prop}
end
variable[Tabs]
section
variable{X:Cx}{pos pp kp:Pos}{e e2:Expr}{fe f2:FE}
end
section
open PySem.SeqAt
open PySem.AutoSeq1 (wpAny_loadPart')
open PySem.MeetsSeq PySem.MeetsSeq2 PySem.MeetsSeq3
end
section
variable{prog:Program}{w:World}{A:Around}{E:Value→Shared→Prop}{s:Shared}
end
variable[Tabs]
section
variable{X:Cx}
end
section
variable{X:Cx}
end
variable[Tabs]
section
variable{X:Cx}
end
end FD
set_option Elab.async false
set_option linter.all false
set_option maxRecDepth 100000
namespace STW
open PySem PyProof.Rows
theorem Xi:typeLookup (.type "list") "keys" = pure none:=am_miss_of_fast (by decide +kernel)
theorem QR{prog:Program}{w:World}{A:Around}{E:Value→Shared→Prop}{s:Shared}{a:Addr}{o:Obj}{xs:Array Value}{k:Nat}{Q:Option Value→Shared→Prop}
  (hx:s.heap.get? a=some o) (hc:o.cls=.type "list") (hdat:o.data=.seq xs k) (hd:o.dict=none) (hA:A.handled=none)
  (h:∀h' tk,(∀b u,s.heap.get? b=some u→h'.get? b=some u)→Q none { s with heap:=h',toks:=tk }) :
  wpAny (model prog w) A (getAttr? (.ref a) "keys") Q E s:=by
 obtain⟨c,dct,dat,sl⟩:=o
 simp only at hc hdat hd
 subst hc hdat hd
 obtain⟨hp,g,d,tk,os⟩:=s
 have hT:∀tk',(⟨hp,g,d,tk',os⟩:Shared).TypeIs (.ref a) "list" := fun _=>⟨_,hx,rfl⟩
 have f1:=sub_AttributeError
 have f3:=F.slot_list_getattribute.lookup
 have f4:=F.slot_list_getattribute.bind (.ref a)
 have f5:=am_list_getattr_none
 unfold getAttr? getAttrBy? getAttrBy
 repeat (any_goals (first|assumption|exact hT _ | ((with_reducible show wpAny _ _ (call (Value.builtin "list.__getattribute__") _ _) _ _ _);refine call_meets F.slot_list_getattribute (hT _) am_entry_list_getattribute (F.args_list_getattribute_2 _ _) (meets_getattribute_miss_list a xs k sl "keys" _ Xi (by decide +kernel)) ⟨hx,hA,fun h' tk' e hx'=>?_⟩) | wp_step))
 obtain⟨t',u',he⟩:=hx'.there
 show wpAny _ _ (getattributeRaised _ _ _ _ _ _ _) _ _ _
 unfold getattributeRaised
 repeat (any_goals (first|assumption|wp_step))
 exact h _ _ hx'.keeps
theorem vP:entryFor table "dict.update.loop" = some Builtin.«dict.update.loop»:=by first|exact entryFor_of_fast (by kernel_rfl) | exact entryFor_of_tree (by kernel_rfl)
theorem xN:plainId "dict.update.loop" = true:=by decide +kernel
section
variable{prog:Program}{w:World}{K:Type}[DecidableEq K]{knd:KeyKind prog w K}{A:Around}{R:Result→Shared→Prop}{I d:Addr}{fp wr:List Addr}{n:Nat}{P:Nat→Value→Prop}{St:Nat→Heap→Prop}
theorem WO{kvs:List (K×Value)}{i:Nat}{k:K}{v:Value}(nd:(kvs.map (·.1)).Nodup)(h:kvs[i]?=some (k,v)):PySem.stored (kvs.take i) k v=kvs.take (i+1):=by
 have hi:i<kvs.length:=(List.getElem?_eq_some_iff.mp h).1
 have hn:((kvs.take i).any fun kv=>decide (kv.1=k))=false:=by
  rw[List.any_eq_false]
  intro kv hkv z
  have z:kv.1=k:=by simpa using z
  obtain⟨j,hj,e⟩:=List.mem_iff_getElem.mp hkv
  rw[length_take] at hj
  have hj1:j<i:=by omega
  have e2:kvs[j]=kv:=by rw[← e,List.getElem_take]
  have e3:(kvs.map (·.1))[j]'(by rw[length_map];omega)=(kvs.map (·.1))[i]'(by rw[length_map];exact hi):=by
   have e4:kvs[i]=(k,v):=(List.getElem?_eq_some_iff.mp h).2
   simp only[List.getElem_map,e2,e4,z]
  have:=(List.getElem_inj nd).mp e3
  omega
 unfold PySem.stored
 rw[hn,List.take_succ,h]
 simp
theorem Gj(W:Walks prog w A.in1 I fp wr n P St)(ta:Nat→Addr)(ky vl:Nat→Value)(ks:Nat→K)(kvs:List (K×Value))(hP:∀i v,P i v→v=.ref (ta i))(hkv:∀i,i<n→kvs[i]?=some (ks i,vl i))(hlen:kvs.length=n)(nd:(kvs.map (·.1)).Nodup)(hz:n≤sizeLine)
  (hky:∀i,i<n→knd.is (ks i) (ky i)=true) (hdf:d∉fp) (htw:∀i,i<n→ta i∉wr∧ta i≠d):∀(k i:Nat) (s:Shared),n-i=k→i≤n→St i s.heap→s.heap.DictOf knd d (kvs.take i)→(∀j,j<n→IsTup s.heap (ta j) #[ky j,vl j]) →
  (∀h' tk,h'.DictOf knd d kvs→(∀b o,b∉wr→b≠d→s.heap.get? b=some o→h'.get? b=some o)→R (.ok (.ret .none)) { s with heap:=h',toks:=tk }) →
  codeAny (model prog w) A (.builtin "dict.update.loop" ⟨[.ref d,.ref I,rawInt i,.none],[]⟩) R s:=by
 have hdw:d∉wr:=fun h=>hdf (W.sub _ h)
 intro k
 induction k with
 |zero=>
  intro i s hk hi hst hd ht hR
  have hin:i=n:=by omega
  subst hin
  refine codeAny_builtin vP ?_;rw[Around.under_plainId xN _]
  show wpAny _ A.in1 (pyNext (.ref I) >>= _) _ _ s
  refine wpAny_bind (W.done s _ _ hst fun h' tk hk'=>?_)
  show wpAny _ A.in1 (Builtin.Dict.addKeywords d [] >>= _) _ _ _
  refine wpAny_bind (wpAny_pure (wpAny_pure ?_))
  rw[take_of_length_le (by omega)] at hd
  obtain⟨o,es,ep,ho,hr⟩:=hd
  exact hR h' tk ⟨o,es,ep,hk' d o hdw ho,hr⟩ fun b o hb _ e=>hk' b o hb e
 |succ k ih=>
  intro i s hk hi hst hd ht hR
  have hlt:i<n:=by omega
  refine codeAny_builtin vP ?_;rw[Around.under_plainId xN _]
  show wpAny _ A.in1 (pyNext (.ref I) >>= _) _ _ s
  refine wpAny_bind (W.item i s _ _ hlt hst fun v h' tk hPv hst' hk'=>?_)
  have ev:=hP i v hPv
  subst ev
  obtain⟨tw,td⟩:=htw i hlt
  obtain⟨⟨cls,dd,data,sl⟩,ho,hc,nn,hdat⟩:=ht i hlt
  simp only at hc hdat
  subst hc hdat
  have ho':=hk' _ _ tw ho
  have hd':h'.DictOf knd d (kvs.take i):=by
   obtain⟨o,es,ep,ho,hr⟩:=hd
   exact⟨o,es,ep,hk' d o hdw ho,hr⟩
  refine wpAny_bind (wpAny_holding ?_)
  refine wpAny_bind (wpAny_tryCatch ?_)
  unfold Builtin.Dict.pairItems
  refine wpAny_bind (wpAny_typeOf (T := "tuple") ⟨_,ho',rfl⟩ ?_)
  rw[if_pos (by decide)]
  refine wpAny_bind (wpAny_seqItems ho' rfl (wpAny_pure ?_))
  show wpAny _ A.in1 (holding [ky i,vl i] (dictSet d (ky i) (vl i))) _ _ _
  refine wpAny_holding (wpAny_dictSet_pairs (s:={ s with heap:=h',toks:=tk }) (hky i hlt) hd' (fun h2 hd2 hs2=>?_) (hsz:=by rw[length_take];omega))
  rw[WO nd (hkv i hlt)] at hd2
  have keep:∀b o,b∉wr→b≠d→s.heap.get? b=some o→h2.get? b=some o:=fun b o hb hbd e=>(hs2.2 b hbd).trans (hk' b o hb e)
  have hst2:St (i+1) h2:=W.frame _ _ _ hst' fun b hb o e=>(hs2.2 b (fun z=>hdf (z ▸ hb))).trans e
  have ei:((i:Int)+1)=((i+1:Nat):Int):=by push_cast;rfl
  show wpAny _ A.in1 (again (.builtin "dict.update.loop" ⟨[.ref d,.ref I,rawInt ((i:Int)+1),.none],[]⟩)) _ _ _
  rw[ei]
  refine wpAny_pure ⟨plainId_quiet xN _,ih (i+1) { s with heap:=h2,toks:=tk+1 } (by omega) hlt hst2 hd2 (fun j hj=>?_) fun h3 tk3 hd3 hk3=>?_⟩
  ·obtain⟨o,g1,g2⟩:=ht j hj
   obtain⟨tw,td⟩:=htw j hj
   exact⟨o,keep _ _ tw td g1,g2⟩
  ·exact hR h3 tk3 hd3 fun b o hb hbd e=>hk3 b o hb hbd (keep b o hb hbd e)
end
section
variable{prog:Program}{w:World}{K:Type}[DecidableEq K]{knd:KeyKind prog w K}{A:Around}{E:Value→Shared→Prop}{s:Shared}
theorem callDictPairs{l:Addr}{o:Obj}{its:Array Value}{nn:Nat}{Q:Value→Shared→Prop}(hl:s.heap.get? l=some o)(hlc:o.cls=.type "list")(hld:o.data=.seq its nn)(hldd:o.dict=none)(hh:A.handled=none)
  (ta:Nat→Addr) (ky vl:Nat→Value) (ks:Nat→K) (kvs:List (K×Value)) (hP:∀(i:Nat) (v:Value),its[i]?=some v→v=.ref (ta i)) (hkv:∀i,i<its.size→kvs[i]?=some (ks i,vl i)) (hlen:kvs.length=its.size) (nd:(kvs.map (·.1)).Nodup) (hz:its.size≤sizeLine)
  (hky:∀i,i<its.size→knd.is (ks i) (ky i)=true) (ht:∀j,j<its.size→IsTup s.heap (ta j) #[ky j,vl j])
  (h:∀(h':Heap) (tk:Nat),h'.DictOf knd s.heap.objs.size kvs→(∀b u,s.heap.get? b=some u→h'.get? b=some u)→Q (.ref s.heap.objs.size) { s with heap:=h',toks:=tk }) :
  wpAny (model prog w) A (call (.type "dict") [.ref l]) Q E s:=by
 refine callType_codes (Q₁:=fun obj s₁=>obj=.ref s.heap.objs.size∧s₁ = { s with heap:=s.heap.push { cls:=.type "dict", data:=.dict #[] } }) F.kt_called_dict (F.kt_typeCall_dict_1 _) F.entry_dict_init (kt_code_dict_new _ ⟨rfl,rfl⟩) ?_
 rintro obj s₁ ⟨rfl,rfl⟩
 have hnew:(s.heap.push { cls:=.type "dict", data:=.dict #[] }).DictOf knd s.heap.objs.size []:=Heap.DictOf.new s.heap
 have hl1:=Heap.get?_push_of_some { cls:=.type "dict", data:=.dict #[] } hl
 have hllt:=Heap.lt_size hl
 have hT:Shared.TypeIs { s with heap:=s.heap.push { cls:=.type "dict", data:=.dict #[] } } (.ref l) "list" := ⟨_,hl1,hlc⟩
 refine⟨hnew.typeIs,F.args_dict_init_2 _ _,?_⟩
 unfold Builtin.«dict.__init__»
 refine wpAny_bind ?_
 unfold Builtin.Dict.selfAndRest
 refine wpAny_bind (wpAny_notOrdered_dict hnew.typeIs ?_)
 show wpAny _ _ (pure (s.heap.objs.size,[Value.ref l])) _ _ _
 refine wpAny_pure ?_
 show wpAny _ _ (Builtin.Dict.updateFrom "dict.__init__" s.heap.objs.size (.ref l) [] .none) _ _ _
 unfold Builtin.Dict.updateFrom
 refine wpAny_bind (wpAny_typeOf hT ?_)
 rw[if_pos (by decide)]
 refine wpAny_bind (QR (s:={ s with heap:=s.heap.push { cls:=.type "dict", data:=.dict #[] } }) hl1 hlc hld hldd (by simp[hh]) fun h1 tk1 hk1=>?_)
 rw[if_pos (show(none:Option Value).isNone=true from rfl)]
 refine wpAny_bind (wpAny_rule ?_)
 have hl2:=hk1 _ _ hl1
 have hL:h1.IsList l its:=⟨o,hl2,hlc,nn,hld⟩
 refine wpAny_bind (wpAny_pyIter_list (s:={ s with heap:=h1,toks:=tk1 }) hL ?_)
 have sz1:s.heap.objs.size<h1.objs.size:=by
  obtain⟨od,_,_,hod,_⟩:=hnew
  exact Heap.lt_size (hk1 _ _ hod)
 have hI:(h1.push { cls:=.type "list_iterator", data:=.fields #[.ref l,.int 0 0] }).get? h1.objs.size=some { cls:=.type "list_iterator", data:=.fields #[.ref l,.int 0 0] }:=Heap.get?_push_size _ rfl
 have kp:∀b u,s.heap.get? b=some u→(h1.push { cls:=.type "list_iterator", data:=.fields #[.ref l,.int 0 0] }).get? b=some u:=fun b u e=>Heap.get?_push_of_some _ (hk1 b u (Heap.get?_push_of_some _ e))
 have hd1:(h1.push { cls:=.type "list_iterator", data:=.fields #[.ref l,.int 0 0] }).DictOf knd s.heap.objs.size (kvs.take 0):=by
  obtain⟨od,es,ep,hod,hr⟩:=hnew
  exact⟨od,es,ep,Heap.get?_push_of_some _ (hk1 _ _ hod),hr⟩
 have W:=Walks.list (prog:=prog) (w:=w) (A:=A.in1.in1) (by simp[hh]) h1.objs.size l (ne_of_lt (lt_trans hllt sz1)) its
 refine wpAny_pure ⟨plainId_quiet xN _,Gj (A:=A.in1) (R:=wants (fun r s₂=>r=Value.none∧Q (Value.ref s.heap.objs.size) s₂) E) (d:=s.heap.objs.size) W ta ky vl ks kvs hP hkv hlen nd hz hky ?_ (fun i hi=>?_) _ 0 _ rfl (zero_le _) ⟨⟨_,hI,rfl,rfl⟩,hL.push _⟩ hd1 (fun j hj=>?_) fun h' tk hd' hk'=>⟨rfl,h h' tk hd' fun b u e=>hk' b u ?_ ?_ (kp b u e)⟩⟩
 ·have a1:s.heap.objs.size≠l:=ne_of_gt hllt
  have a2:s.heap.objs.size≠h1.objs.size:=ne_of_lt sz1
  simp[a1,a2]
 ·obtain⟨ot,e,_⟩:=ht i hi
  have hlt:=Heap.lt_size e
  refine⟨?_,ne_of_lt hlt⟩
  have:ta i≠h1.objs.size:=ne_of_lt (lt_trans hlt sz1)
  simpa using this
 ·obtain⟨ot,e,r⟩:=ht j hj
  exact⟨ot,kp _ _ e,r⟩
 ·have:b≠h1.objs.size:=ne_of_lt (lt_trans (Heap.lt_size e) sz1)
  simpa using this
 ·exact ne_of_lt (Heap.lt_size e)
end
end STW
set_option Elab.async false
set_option linter.all false
set_option maxRecDepth 100000
namespace FD
open PySem PySem.Spec PyProof.Rows L2
variable[Tabs]
def vj:List D→Option (List (Key×D))
 |[]=>some []
 |.tup [k,v]::r=>(YI k).bind fun k=>(vj r).map ((k,v) :: ·)
 |_::_=>none
def Wx:List D→Rs D
 |[.lst ds]=>match vj ds with
  |some ps=>if (ps.map (·.1)).Nodup∧ps.length≤1000 then .ok (.dct (ps.map (·.1)) (ps.map (·.2))) else .no
  |none=>.no
 |_=>.no
theorem UV{K:PySem.W.Frag}{F:Hp}:∀{ds:List D} {ps:List (Key×D)} {ws:List V},vj ds=some ps→Reps K F ds ws→ws.length=ps.length∧∀(i:Nat) (w:V),ws[i]?=some w→∃(a:Addr) (p:Key×D) (v:V),w=.ref a∧ps[i]?=some p∧SqT K F a [kV p.1,v]∧Rep K F p.2 v:=fun {ds}=>by
 induction ds with
 |nil=>
  intro ps ws h r
  cases h
  simp only[Reps] at r;subst r
  exact⟨rfl,fun i w h=>by simp at h⟩
 |cons d ds ih=>
  intro ps ws h r
  simp only[Reps] at r
  obtain⟨v0,r',rfl,q,t⟩:=r
  unfold vj at h
  split at h
  ·rename_i z;cases z
  ·rename_i k v r2 z
   cases z
   cases hk:YI k with
   |none=>rw[hk] at h;cases h
   |some k'=>
    rw[hk,Option.bind_some] at h
    cases hp:vj ds with
    |none=>rw[hp] at h;cases h
    |some ps'=>
     rw[hp] at h
     cases h
     obtain⟨i1,i2⟩:=ih hp t
     simp only[Rep] at q
     obtain⟨a,vs,rfl,e1,e2⟩:=q
     obtain⟨x,y,rfl,rx,ry⟩:=e2.two
     have:=V3 hk rx
     subst this
     refine⟨by simp[i1],fun i w h=>?_⟩
     cases i with
     |zero=>cases h;exact⟨a,(k',v),y,rfl,rfl,e1,ry⟩
     |succ i=>
      obtain⟨a,p,v,g1,g2,g3,g4⟩:=i2 i w (by simpa using h)
      exact⟨a,p,v,g1,by simpa using g2,g3,g4⟩
  ·cases h
section
variable{X:Cx}
theorem Vo(hc:X.calm=true):CallR X (.type "dict") (fun vs H Q=>∃l ws F ds ps,vs=[.ref l]∧H l=some (.lst ws)∧Same F H∧Reps X.K F ds ws∧vj ds=some ps∧(ps.map (·.1)).Nodup∧ps.length≤1000 ∧
  ∀a o kvs,H a=none→kvs.map (·.1)=ps.map (·.1)→Reps X.K F (ps.map (·.2)) (kvs.map (·.2))→Q (.ref a) (upd H a (.frz o (.dK kvs)))):=by
 intro pins s σ H vs us Q I r ⟨l,ws,F,ds,ps,e1,e2,fh,rp,hps,nd,hsz,q⟩
 subst e1
 obtain⟨u,rfl,ru⟩:=Vals.one r
 cases ru
 obtain⟨its,rr,p,_⟩:=I.list (SqL.of (K:=X.K) e2)
 obtain⟨ob,nn,eo,hcl,hd0,hd⟩:=p
 obtain⟨hl1,hat⟩:=UV hps rp
 have hln:=rr.length
 have ex:∀i:Nat,∃(a:Addr) (ky vl:Value) (k:Key) (v:V),i<its.length→(its[i]?=some (.ref a)∧IsTup s.heap a #[ky,vl]∧RelV (kV k) ky∧RelV v vl∧∃p,ps[i]?=some p∧p.1=k∧Rep X.K F p.2 v):=fun i=>by
  by_cases hi:i<its.length
  ·obtain⟨w,hw⟩:∃w,ws[i]?=some w:=⟨ws[i]'(by omega),by simp⟩
   obtain⟨a,p,v,rfl,g2,g3,g4⟩:=hat i w hw
   obtain⟨u',h1,h2⟩:=rr.get hw
   cases h2
   obtain⟨its2,r2,p2,_⟩:=I.tuple (Same.seqT fh g3)
   cases r2 with
   | @cons _ ky _ _ rk rt=>
    cases rt with
    | @cons _ vl _ _ rv rn=>
     cases rn
     exact⟨a,ky,vl,p.1,v,fun _=>⟨h1,p2,rk,rv,p,g2,rfl,g4⟩⟩
  ·exact⟨0,.none,.none,.inl 0,.non,fun z=>absurd z hi⟩
 obtain⟨ta,ex⟩:=Classical.axiomOfChoice ex
 obtain⟨ky,ex⟩:=Classical.axiomOfChoice ex
 obtain⟨vl,ex⟩:=Classical.axiomOfChoice ex
 obtain⟨ks,ex⟩:=Classical.axiomOfChoice ex
 obtain⟨vv,ex⟩:=Classical.axiomOfChoice ex
 let kvs:List (Key×V):=(List.range its.length).map fun i=>(ks i,vv i)
 let kws:List (Key×Value):=(List.range its.length).map fun i=>(ks i,vl i)
 have hkeys:kvs.map (·.1)=ps.map (·.1):=by
  apply List.ext_getElem?
  intro i
  rw[map_map,getElem?_map,getElem?_map]
  by_cases hi:i<its.length
  ·obtain⟨_,_,_,_,p,g1,g2,_⟩:=ex i hi
   rw[List.getElem?_range hi,g1]
   simp[g2]
  ·rw[List.getElem?_eq_none (by simpa using hi),List.getElem?_eq_none (by omega)];rfl
 have hkw:kws.map (·.1)=kvs.map (·.1):=by simp only[kws,kvs,map_map];rfl
 have hvals:Reps X.K F (ps.map (·.2)) (kvs.map (·.2)):=by
  have aux:∀(ps:List (Key×D)) (vs:List V),ps.length=vs.length→(∀(i:Nat) (p:Key×D) (v:V),ps[i]?=some p→vs[i]?=some v→Rep X.K F p.2 v)→Reps X.K F (ps.map (·.2)) vs:=fun ps=>by
   induction ps with
   |nil=>intro vs h _;cases vs with
    |nil=>exact Reps.nil
    |cons _ _=>simp at h
   |cons p ps ih=>
    intro vs h k
    cases vs with
    |nil=>simp at h
    |cons v vs=>exact Reps.cons (k 0 p v rfl rfl) (ih vs (by simpa using h) fun i p' v' h1 h2=>k (i+1) p' v' (by simpa using h1) (by simpa using h2))
  refine aux ps _ (by simp[kvs];omega) fun i p v h1 h2=>?_
  have hi:i<its.length:=by have:=(List.getElem?_eq_some_iff.mp h1).1;omega
  obtain⟨_,_,_,_,p',g1,g2,g3⟩:=ex i hi
  rw[h1] at g1;cases g1
  simp only[kvs,map_map,getElem?_map,List.getElem?_range hi,Option.map_some,Function.comp] at h2
  cases h2
  exact g3
 have kv:KV kvs kws:=by
  have aux:∀l:List Nat,(∀i∈l,i<its.length)→KV (l.map fun i=>(ks i,vv i)) (l.map fun i=>(ks i,vl i)):=fun l=>by
   induction l with
   |nil=>intro _;exact .nil
   |cons i l ih=>
    intro h
    obtain⟨_,_,_,g,_⟩:=ex i (h i mem_cons_self)
    exact .cons ⟨rfl,g⟩ (ih fun j hj=>h j (mem_cons_of_mem _ hj))
  exact aux _ fun i hi=>mem_range.mp hi
 have hlen:kws.length=its.toArray.size:=by simp[kws]
 refine STW.callDictPairs (knd:=yC X.prog X.w) (s:=s) eo hcl hd hd0 (I.ok.hd hc) ta ky vl ks kws (fun i v hv=>?_) (fun i hi=>?_) hlen (by rw[hkw,hkeys];exact nd) (by rw[size_toArray,sizeLine_eq];omega) (fun i hi=>?_) (fun j hj=>?_) fun h' tk hD hk=>?_
 ·have hv':its[i]?=some v:=by simpa using hv
  have hi:=(List.getElem?_eq_some_iff.mp hv').1
  obtain⟨g,_⟩:=ex i hi
  rw[hv'] at g;cases g;rfl
 ·have hi:i<its.length:=by simpa using hi
  simp[kws,hi]
 ·have hi:i<its.length:=by simpa using hi
  obtain⟨_,_,g,_⟩:=ex i hi
  exact YK g
 ·have hj:j<its.length:=by simpa using hj
  exact(ex j hj).2.1
 ·have nH:H s.heap.objs.size=none:=I.hok.fresh (le_refl _)
  obtain⟨o,es,ep,ho,_⟩:=id hD
  have hnew:ObjOk X.prog X.w (upd H s.heap.objs.size (.frz o (.dK kvs))) h' s.heap.objs.size (.frz o (.dK kvs)):=
   ⟨ho,by rw[sizeLine_eq];simp[kvs];omega,beq_eq_false_iff_ne.mpr (Ne.symm (ne_of_lt I.big)),kws,kv,hD⟩
  exact⟨.ref s.heap.objs.size,_,I.laid (t':=tk) (o:=.frz o (.dK kvs)) hk (le_refl _) hnew,rfl,q _ o kvs nH hkeys hvals⟩
theorem WC(hc:X.calm=true):jU X (.type "dict") Wx:=⟨_,Vo hc,fun F H vs ds Q fh r h=>by
 cases ds with
 |nil=>exact h.elim
 |cons d r2=>
  cases r2 with
  |cons a b=>cases d <;> exact h.elim
  |nil=>
   cases d with
   |lst xs=>
    obtain⟨v,rfl,q⟩:=r.one
    simp only[Rep] at q;obtain⟨a,ws,rfl,e,t⟩:=q
    unfold Wx at h
    dsimp only at h
    cases z:vj xs with
    |none=>rw[z] at h;exact h.elim
    |some ps=>
     rw[z] at h
     dsimp only at h
     obtain⟨hz,h⟩:=yw h
     refine⟨a,ws,F,xs,ps,rfl,fh _ _ e,fh,t,z,hz.1,hz.2,fun b o kvs hb hk hv=>?_⟩
     have x:=Ext.new (o:=.frz o (.dK kvs)) fh hb
     exact h _ _ _ x (by simp only[Rep];exact⟨b,kvs,o,rfl,zt,hk,hv.mono x.ff⟩)
   |_=>exact h.elim⟩
end
def WW:List D→Rs D
 |[.lst ds]=>match jN ds with
  |some ns=>if ns.length<64 then .ok (.int (STW.fm ns ns.length).length) else .no
  |none=>.no
 |_=>.no
section
variable{X:Cx}{e:Expr}{pos:Pos}{fs:FA}
theorem W5{p p2 pos2:Pos}(hc:X.calm=true)(hl:Gl X "len")(hml:X.mg "len" = none)(hg:Gl X "set")(hm:X.mg "set" = none)(ha:PDA X [e] fs)(hs:starEach [e] X.env=[(false,eval e X.env)]:=by rfl)
  (he:starEach [.Call (.Name "set" p2) [e] [] pos2] X.env=(false,eval (.Call (.Name "set" p2) [e] [] pos2) X.env)::starEach [] X.env:=by rfl) (hpl:(backTo pos (starEach [] X.env)).any (·.1)=false:=by rfl) :
  PDE X (.Call (.Name "len" p) [.Call (.Name "set" p2) [e] [] pos2] [] pos) (fun τ=>(fs τ).bind WW):=by
 intro pins s σ H Q I ⟨F,τ,R,h⟩
 refine wpAny_Call_Name_kw (x9 I hl hml PySem.boot_len ?_)
 refine PyProof.Rows.callWith_builtin1 ?_ he hpl
 rw[he]
 show wpAny _ _ (spliced ((false,eval (.Call (.Name "set" p2) [e] [] pos2) X.env)::backTo pos (starEach [] X.env))) _ _ s
 refine Calls.spliced_cons ?_
 have h:=h.bind
 generalize hG:(fun ds=>Ok X (WW ds) (Ev X.K F H Q))=G at h
 refine Call_ (x9 I hg hm boot_set (PyProof.Rows.callWith_type1 (thn (ha pos2 pins s σ H (fun vs H1=>∃ds F1,G ds∧Ext F H F1 H1∧RV X.K F1 τ σ H1∧Reps X.K F1 ds vs) I (tAs.of R h fun ds vs F1 H1 g x R1 r=>⟨ds,F1,g,x,R1,r⟩)) fun us s1 ⟨vs,H1,I1,r1,ds,F1,g,x,R1,r⟩=>?_) hs rfl))
 subst hG
 obtain⟨ns,e1,h64,gq⟩:∃ns:List Int,ds=[.lst (ns.map D.int)]∧ns.length<64∧Ev X.K F H Q (.int (STW.fm ns ns.length).length):=by
  unfold WW at g
  split at g
  ·rename_i ds'
   cases q:jN ds' with
   |none=>rw[q] at g;exact g.elim
   |some ns=>
    rw[q] at g
    obtain⟨z,g⟩:=yw g
    exact⟨ns,by rw[Wg q],z,g⟩
  ·exact g.elim
 subst e1
 obtain⟨v,rfl,r2⟩:=r.one
 simp only[Rep] at r2
 obtain⟨l,ws,rfl,e1,t⟩:=r2
 cases r1 with
 |cons ra rr=>
  cases rr;cases ra
  obtain⟨its,rv,⟨o,nn,eo,hcl,hd0,hd⟩,hz⟩:=I1.list (SqL.of (K:=X.K) (R1.fh _ _ e1))
  have hi:IntsAre its ns:=ZP t rv
  have hlen:=hi.length
  refine STW.callSet (I1.ok.hd hc) ⟨o,eo,hcl,nn,hd⟩ (by simpa using hi) (by rw[size_toArray,hlen];exact Nat.lt_of_le_of_lt (Nat.succ_le_of_lt h64) (by decide)) fun h' tk hS hk=>?_
  have hlen':its.toArray.size=ns.length:=by simpa using hlen
  rw[hlen'] at hS
  refine Calls.spliced_nil ?_
  obtain⟨o2,es,ep,tb,ho2,hex,hd2,hel,hS2,hsb,hft,hsz⟩:=hS
  have kk:∀c u,s1.heap.get? c=some u→h'.get? c=some u:=fun c u q=>hk c u (Heap.lt_size q) q
  have en:es.size=(STW.fm ns ns.length).length:=hsz.1
  refine call_len_set (s:={ s1 with heap:=h',toks:=tk }) ho2 hex hd2 hft (by
   have:es.size<scanBound:=hsb
   have h2:scanBound≤2 ^ 62:=by decide
   omega) ?_
  refine⟨.int es.size,H1,I1.kept (t':=tk+1+1) kk,⟨_,rfl⟩,?_⟩
  rw[en]
  exact gq _ F1 H1 x (by simp only[Rep])
end
open PySem.W
section
variable{n:Nat}{κ:Nat→List Int}
theorem XQ{n a:Nat}(h:a<n):(List.toArray (List.range n)).getD a 0=a:=by simp[h]
theorem Gy(up:∀i,i+1<n→lxI (κ (i+1)) (κ i)=false):∀(f a:Nat),1≤a→a+f≤n→Pw (ltK κ) n (kas_asc (List.toArray (List.range n)) f a) fun m=>m=a+f
 |0,a,h1,h2=>rfl
 |f+1,a,h1,h2=>by
  unfold kas_asc
  rw[XQ (show a<n by omega),XQ (show a-1<n by omega)]
  refine⟨by omega,by omega,?_⟩
  have e:ltK κ a (a-1)=false:=by
   have:=up (a-1) (by omega)
   rw[Nat.sub_add_cancel h1] at this;exact this
  rw[e]
  refine Mb ?_
  refine Pw.mono (fun m q=>?_) _ (Gy up f (a+1) (by omega) (by omega))
  omega
theorem GZ(hn:2≤n)(up:∀i,i+1<n→lxI (κ (i+1)) (κ i)=false):Pw (ltK κ) n (kas_sort n) fun q=>q=List.toArray (List.range n):=by
 unfold kas_sort kas_count
 refine Pw.bind _ (Pw.bind _ (Pw.mono (fun m q=>?_) _ (Gy up (n-1) 1 (le_refl _) (by omega))))
 rw[if_pos (by simp;omega)]
 show Pw (ltK κ) n (if m<n then _ else _) _
 rw[if_neg (by omega)]
 exact rfl
end
section
variable{prog:Program}{w:World}{A:Around}{E:Value→Shared→Prop}{s:Shared}
theorem T7{vs us:List Value}{ks:List (List Int)}{Q:SortSt→Shared→Prop}(h:KTs s.heap vs ks)(hl:vs.length=us.length)(h2:2≤us.length)(h64:us.length<64)(up:∀i,i+1<us.length→lxI (ks.getD (i+1) []) (ks.getD i [])=false)
  (q:∀(st:SortSt),(arrOf st).map (·.2)=List.toArray us→failedOf st=none→Q st s) :
  wpAny (model prog w) A ((sortRuns').run (SortSt.mk' (tuples' true) (vs.toArray.zip us.toArray) #[] 7 none)) (fun r s'=>Q r.2 s') E s:=by
 have hk:ks.length=us.length:=by rw[← h.len,hl]
 refine kat_run (G:=fun p s'=>s'=s∧p=List.toArray (List.range us.length)) hl h2 h64 (fun p st' s' h1 h3 h4 h5=>?_) ?_
 ·obtain⟨rfl,rfl⟩:=h5
  refine q st' ?_ h4
  rw[kat_snds hl h3]
  congr 1
  refine ext_getElem (by simp) fun i a b=>?_
  simp[b]
 ·exact Pw.wp (fun i j C hi hj=>WE h hk i j C hi hj) (fun p hp=>⟨rfl,hp⟩) _ (GZ (κ:=fun i=>ks.getD i []) h2 up)
end
variable[Tabs]
section
variable{X:Cx}{pins:List (Addr×Obj)}{σ:St}{F H:Hp}{τ:DS}{s:Shared}{Q:VK}{E:Value→Shared→Prop}
theorem UC{l:Addr}{vs:List V}{kz:List (List Int)}(I:Inv X pins σ H s)(fh:Same F H)(hl:F l=some (.lst vs))(rs:Reps X.K F (kz.map fun k=>D.tup (k.map D.int)) vs)(h64:kz.length<64)(up:∀i,i+1<kz.length→lxI (kz.getD (i+1) []) (kz.getD i [])=false)(ne:∀k∈kz,k≠[])
  (hQ:∀Da F' H',Ext F H F' H'→Rep X.K F' (.lst (kz.map fun k=>D.tup (k.map D.int))) (.ref Da)→Q (.ref Da) H') :
  wpAny (model X.prog X.w) X.A (call (.builtin "sorted") [.ref l]) (EP X pins σ Q) E s:=by
 obtain⟨us,rv,⟨o,nn,eo,hc,hd0,hd⟩,hz⟩:=I.list (SqL.of (K:=X.K) (fh _ _ hl))
 have hil:s.heap.IsList l us.toArray:=⟨o,eo,hc,nn,hd⟩
 have l0:kz.length=us.length:=by rw[← rv.length,← rs.length,length_map]
 have sz:us.length≤sizeLine:=le_of_lt (yT (by omega))
 refine Calls.call_function_entry kind_sorted plain_sorted entry_sorted (args_sorted1 _) ?_
 unfold Builtin.«sorted»
 refine wpAny_bind (m:=checkCount "sorted" 1 1 _) (wpAny_pure ?_);refine wpAny_bind (collect_list hil ?_ sz);refine wpAny_bind (wpAny_newList ?_ sz)
 have keep1:∀b u,s.heap.get? b=some u→((s.heap.push (seqObj "list" #[] 0)).update s.heap.objs.size (Obj.mapSeq (· ++ us.toArray))).get? b=some u:=fun b u q=>by
  have hb:b<s.heap.objs.size:=Heap.lt_size q
  rw[Heap.get?_update_ne _ _ _ _ (ne_of_lt hb),Heap.get?_push_ne _ _ _ (ne_of_lt hb)];exact q
 have size1:s.heap.objs.size≤((s.heap.push (seqObj "list" #[] 0)).update s.heap.objs.size (Obj.mapSeq (· ++ us.toArray))).objs.size:=by rw[Heap.size_update,size_push'];omega
 generalize hh1:(s.heap.push (seqObj "list" #[] 0)).update s.heap.objs.size (Obj.mapSeq (· ++ us.toArray))=h1 at keep1 size1
 have hD:(h1.push (seqObj "list" us.toArray 0)).get? h1.objs.size=some (seqObj "list" us.toArray 0):=Heap.get?_push_size _ rfl
 have keep2:∀b u,s.heap.get? b=some u→(h1.push (seqObj "list" us.toArray 0)).get? b=some u:=fun b u q=>Heap.get?_push_of_some _ (keep1 b u q)
 generalize hDa:h1.objs.size=Da at hD size1
 have neD:∀b u,s.heap.get? b=some u→b≠Da:=fun b u q=>ne_of_lt (lt_of_lt_of_le (Heap.lt_size q) size1)
 generalize hh2:h1.push (seqObj "list" us.toArray 0)=h2 at hD keep2
 refine wpAny_bind (wpAny_holding (wpAny_call_entry (rest:=[]) slot_list_sort ⟨_,hD,rfl⟩ entry_list_sort ?_ (args_list_sort _)))
 rw[list_sort_plain Da]
 refine wpAny_bind (listItems_at hD rfl ?_);refine wpAny_bind (listUpdate_at hD rfl ?_ (by rw[size_toArray];exact sz) (zero_le _))
 have keep3:∀b u,s.heap.get? b=some u→(h2.update Da (Obj.mapSeq fun _=>(#[]:Array Value))).get? b=some u:=fun b u q=>by
  rw[Heap.get?_update_ne _ _ _ _ (neD b u q)];exact keep2 b u q
 obtain⟨e1,hD3⟩:∃e1,(h2.update Da (Obj.mapSeq fun _=>(#[]:Array Value))).get? Da=some (seqObj "list" #[] e1):=⟨_,get?_update_seq hD fun _=>#[]⟩
 generalize h2.update Da (Obj.mapSeq fun _=>(#[]:Array Value))=h3 at keep3 hD3
 refine wpAny_bind (seqEpoch_at hD3 rfl ?_);refine wpAny_bind (wpAny_newTuple ?_ (by show us.length≤sizeLine;exact sz));refine wpAny_bind (wpAny_newList ?_ (zero_le _))
 refine wpAny_holding ?_
 have hDa0:s.heap.objs.size≤Da:=size1
 have nH:H Da=none:=I.hok.fresh hDa0
 have neL:Da≠X.env.locals:=(ne_of_lt (lt_of_lt_of_le I.lt hDa0)).symm
 have pinD:∀q∈X.pn++pins,q.1≠Da:=fun q hq=>neD _ _ (I.pin q hq).1
 have cellD:∀x c,X.env.cells.lookup x=some c→c≠Da:=fun x c e=>by
  obtain⟨v,oc,hoc,_⟩:=I.cell x c e
  exact neD _ _ hoc
 have keep4:∀b u,h3.get? b=some u→((h3.push (seqObj "tuple" us.toArray 0)).push (seqObj "list" #[] 0)).get? b=some u:=fun b u q=>Heap.get?_push_of_some _ (Heap.get?_push_of_some _ q)
 have I1:Inv X pins σ H { s with heap:=(h3.push (seqObj "tuple" us.toArray 0)).push (seqObj "list" #[] 0) }:=I.kept (t':=s.toks) fun b u q=>keep4 _ _ (keep3 b u q)
 have I2:Inv X (pins++[(Da,seqObj "list" #[] e1)]) σ H { s with heap:=(h3.push (seqObj "tuple" us.toArray 0)).push (seqObj "list" #[] 0) }:=I1.pins_of fun q hq=>by
  rcases mem_append.mp hq with hq|hq
  ·exact I1.pin q (mem_append_right _ hq)
  ·have:q=(Da,seqObj "list" #[] e1):=by simpa using hq
   subst this
   exact⟨keep4 _ _ hD3,nH,neL,I.nofs hDa0,fun v z=>nomatch z⟩
 have h0D:X.s₀.heap.objs.size≤Da:=le_trans I.sz hDa0
 generalize (h3.push (seqObj "tuple" us.toArray 0)).push (seqObj "list" #[] 0)=h4 at I1 I2 keep4
 have eD:h4.get? Da=some (seqObj "list" #[] e1):=keep4 _ _ hD3
 try dsimp only
 have fin:∀(st:SortSt),(arrOf st).map (·.2)=List.toArray us→failedOf st=none →
   wpAny (model X.prog X.w) X.A.in1.in1 (jj Da e1 st) (fun fin s'=>∃v,fin=.done (.ret v)∧wpAny (model X.prog X.w) X.A.in1 (ret (.ref Da)) (fun fin s'=>∃v,fin=.done (.ret v)∧EP X pins σ Q v s') E s') E { s with heap:=h4 }:=fun st hout hf=>by
  unfold jj
  try dsimp only
  refine wpAny_bind (seqEpoch_at eD rfl ?_)
  refine wpAny_bind (listUpdate_at eD rfl ?_ (zero_le _) (by rw[hout,size_toArray];exact le_trans (le_of_lt (yT (by omega))) (le_succ _)))
  rw[hf]
  simp only[bne_self_eq_false,Bool.false_eq_true,if_false]
  refine wpAny_pure ⟨_,rfl,wpAny_pure ⟨_,rfl,.ref Da,_,Inv.settle I2 rfl (ws:=us) hout rv (by rw[rv.length];exact le_of_lt (yT (by omega))) h0D cellD pinD,rfl,hQ Da (upd F Da (.lst vs)) _ (Ext.new fh nH) ?_⟩⟩
  simp only[Rep]
  exact⟨Da,vs,rfl,zt,rs.mono (yi (zP fh nH))⟩
 by_cases h2:us.length<2
 ·have h2':us.toArray.size<2:=by rw[size_toArray];exact h2
  rw[if_pos h2',if_pos h2']
  refine wpAny_bind (wpAny_pure ?_)
  rw[StateT.run_pure]
  refine wpAny_bind (wpAny_pure ?_)
  refine fin _ ?_ rfl
  show((us.toArray.zip us.toArray).map (·.2))=us.toArray
  apply Array.toList_inj.mp
  rw[Array.toList_map,ksk_zip]
  exact List.map_snd_zip (by simp)
 ·have h2':¬ us.toArray.size<2:=by rw[size_toArray];exact h2
  rw[if_neg h2',if_neg h2']
  have kt:=Va I2 fh rs rv ne
  refine wpAny_bind (YH kt (by omega) ?_)
  exact wpAny_bind (T7 (Q:=fun st s'=>wpAny (model X.prog X.w) X.A.in1.in1 (jj Da e1 st) (fun fin s'=>∃v,fin=.done (.ret v)∧wpAny (model X.prog X.w) X.A.in1 (ret (.ref Da)) (fun fin s'=>∃v,fin=.done (.ret v)∧EP X pins σ Q v s') E s') E s') kt rfl (by omega) (by omega) (fun i hi=>up i (by omega)) fun st h5 h6=>fin st h5 h6)
def uo:List D→Rs D
 |[.lst ds]=>match uW ds with
  |some kz=>if kz.length<64∧kz.Pairwise (fun a b=>lxI b a=false)∧∀k∈kz,k≠[] then .ok (.lst ds) else .no
  |none=>.no
 |_=>.no
theorem WR{ds:List D}{P:D→Prop}(h:Ok X (uo ds) P):∃kz:List (List Int),ds=[.lst (kz.map fun k=>D.tup (k.map D.int))]∧kz.length<64∧kz.Pairwise (fun a b=>lxI b a=false)∧(∀k∈kz,k≠[])∧P (.lst (kz.map fun k=>D.tup (k.map D.int))):=by
 unfold uo at h
 split at h
 ·rename_i l
  split at h
  ·rename_i kz q
   split at h
   ·rename_i z
    have e:=ZM q
    subst e
    exact⟨kz,rfl,z.1,z.2.1,z.2.2,h⟩
   ·exact h.elim
  ·exact h.elim
 ·exact h.elim
theorem Jq:jU X (.builtin "sorted") uo:=⟨fun vs H Q=>∃(F:Hp) (l:Addr) (ws:List V) (kz:List (List Int)),vs=[.ref l]∧Same F H∧F l=some (.lst ws)∧Reps X.K F (kz.map fun k=>D.tup (k.map D.int)) ws∧kz.length<64∧(∀i,i+1<kz.length→lxI (kz.getD (i+1) []) (kz.getD i [])=false)∧(∀k∈kz,k≠[]) ∧
  ∀Da F' H',Ext F H F' H'→Rep X.K F' (.lst (kz.map fun k=>D.tup (k.map D.int))) (.ref Da)→Q (.ref Da) H',fun pins s σ H vs us Q I r ⟨F,l,ws,kz,e1,fh,hl,rs,h64,up,ne,q⟩=>by
  subst e1
  obtain⟨u,rfl,r1⟩:=vals1 r
  cases r1
  exact UC I fh hl rs h64 up ne q,fun F H vs ds Q fh r h=>by
  obtain⟨kz,ek,h64,up,ne,hq⟩:=WR (X:=X) h
  subst ek
  obtain⟨v,rfl,r1⟩:=r.one
  simp only[Rep] at r1
  obtain⟨l,ws,rfl,e1,t⟩:=r1
  refine⟨F,l,ws,kz,rfl,fh,e1,t,h64,fun i hi=>?_,ne,fun Da F' H' x rp=>hq _ F' H' x rp⟩
  have:=List.pairwise_iff_getElem.mp up i (i+1) (by omega) hi (by omega)
  rw[getD_eq_getElem?_getD,getD_eq_getElem?_getD,getElem?_eq_getElem hi,getElem?_eq_getElem (show i<kz.length by omega)]
  exact this⟩
end
section
variable{τ:DS}{fa fb fc fe fi:FE}{fs:FA}{op:D→D→Rs D}{d x y:D}{i j k:Int}{n m:Nat}
def getV:Option (Option Sl)→Rs D
 | some (some (.val d))=>.ok d
 |_=>.no
def Wp:Option (Option Sl)→Rs (List D)
 | some (some (.own d))=>.ok d
 |_=>.no
@[simp] theorem zA:getV (some (some (.val d)))=.ok d:=rfl
@[simp] theorem xx{ds:List D}:Wp (some (some (.own ds)))=.ok ds:=rfl
theorem zD:zd n τ=getV τ[n]?:=rfl
theorem wx:ue τ n=Wp τ[n]?:=rfl
theorem yD:eC d τ=.ok d:=rfl
theorem yn:eOp op fa fb τ=(fa τ).bind fun x=>(fb τ).bind fun y=>op x y:=rfl
theorem zQ:zh τ=.ok []:=rfl
theorem zv:za fa fs τ=(fa τ).bind fun x=>(fs τ).bind fun r=>.ok (x::r):=rfl
theorem Xo:vF fs τ=(fs τ).bind fun ds=>if ds.length≤sizeLine then .ok (.lst ds) else .no:=rfl
theorem Uh:xQ fs τ=(fs τ).bind fun ds=>if ds.length≤sizeLine then .ok (.tup ds) else .no:=rfl
theorem yQ{g:List D→Rs D}:zq g fs τ=(fs τ).bind fun ds=>MB (g ds):=rfl
theorem v9{g:List D→Rs D}:yj g fs τ=(fs τ).bind g:=rfl
theorem Gg{g:FT}:eIf g fa fb τ=(g τ).bind fun b=>if b=true then fa τ else fb τ:=rfl
theorem Ta:zb1 fa fb τ=(fa τ).bind fun x=>(je x).bind fun b=>if b=true then fb τ else .ok x:=rfl
theorem Ge:eOr fa fb τ=(fa τ).bind fun x=>(je x).bind fun b=>if b=true then .ok x else fb τ:=rfl
def boolOf:D→Rs Bool
 |.bl b=>.ok b
 |_=>.no
@[simp] theorem zY{b:Bool}:boolOf (.bl b)=.ok b:=rfl
theorem xJ:FD.tB fe τ=(fe τ).bind boolOf:=rfl
theorem uF:Yb fe τ=(fe τ).bind je:=rfl
theorem uG{f g:FT}:Zo f g τ=(f τ).bind fun b=>if b=true then g τ else .ok false:=rfl
theorem vH{f g:FT}:XD f g τ=(f τ).bind fun b=>if b=true then .ok true else g τ:=rfl
theorem GO{f:FT}:XE f τ=(f τ).bind fun b=>.ok (!b):=rfl
theorem Uj{T:String}{g:D→List D→Rs D}:Vk T g fa τ=(fa τ).bind fun d=>if Yk T d=true then g d [] else .no:=rfl
theorem Gd{fl fh:FO}:eSl fe fl fh τ=(fe τ).bind fun d=>(fl τ).bind fun l=>(fh τ).bind fun u=>slD d l u:=rfl
def VC:D→Rs (Option Int)
 |.int i=>.ok (some i)
 |_=>.no
@[simp] theorem XH:VC (.int i)=.ok (some i):=rfl
theorem X2:uf fe τ=(fe τ).bind VC:=rfl
def Fl.thn(r:Fl)(g:FS):Fl:=match r with
 |.nx τ=>g τ
 |r=>r
@[simp] theorem ym{g:FS}:(Fl.nx τ).thn g=g τ:=rfl
@[simp] theorem jf{g:FS}:(Fl.rt d).thn g=.rt d:=rfl
theorem zL{f g:FS}:zx f g τ=(f τ).thn g:=rfl
theorem zT:yd n fe τ=Fl.of (fe τ) fun d=>.nx (τ.set n (some (.val d))):=rfl
theorem wo:vA n fs τ=Fl.of (fs τ) fun ds=>.nx (τ.set n (some (.own ds))):=rfl
theorem yI{g:FT}{f h:FS}:sIf g f h τ=Fl.of (g τ) fun b=>if b=true then f τ else h τ:=rfl
theorem zU:y3 fe τ=Fl.of (fe τ) fun d=>.rt d:=rfl
theorem wq:vJ n τ=Fl.of (ue τ n) fun ds=>.rt (.lst ds):=rfl
theorem zZ:yv τ=.nx τ:=rfl
theorem vc{set:FG}{body:FS}:ua fs set body τ=Fl.of (fs τ) fun ds=>xc set body ds τ:=rfl
@[simp] theorem zJ:jO (.rt d)=.ok d:=rfl
@[simp] theorem xF:MB (.ok d)=.ok d:=rfl
@[simp] theorem xD:zG (.int i) (.int j)=.ok (.int (i+j)):=rfl
theorem GC{a b:Str}(h:a.length+b.length≤sizeLine):zG (.str a) (.str b)=.ok (.str (a++b)):=if_pos h
@[simp] theorem wm:vE (.int i) (.int j)=.ok (.int (i-j)):=rfl
theorem vL(h:(-(18446744073709551616)<i∧i<18446744073709551616)∨(-(18446744073709551616)<j∧j<18446744073709551616)):vM (.int i) (.int j)=.ok (.int (i*j)):=if_pos h
theorem ZF(h:0<j):Xg (.int i) (.int j)=.ok (.int (i%j)):=by
 show(if decide (0<j)=true then _ else _)=_
 rw[if_pos (by simpa using h)]
theorem Zg(h:0<j∧j<1073741824):ZZ (.int i) (.int j)=.ok (.int (i / j)):=by
 show(if decide (0<j∧j<1073741824)=true then _ else _)=_
 rw[if_pos (by simpa using h)]
@[simp] theorem ltI_i:ltI (.int i) (.int j)=.ok (.bl (decide (i<j))):=rfl
@[simp] theorem Ue:gtD (.int i) (.int j)=.ok (.bl (decide (j<i))):=rfl
@[simp] theorem geD_i:geD (.int i) (.int j)=.ok (.bl (decide (j≤i))):=rfl
@[simp] theorem vC:eqD (.int i) (.int j)=.ok (.bl (i==j)):=rfl
@[simp] theorem Gc{a b:Str}:eqD (.str a) (.str b)=.ok (.bl (a==b)):=rfl
@[simp] theorem ZV{a b:Str}:inD (.str a) (.str b)=.ok (.bl (VB a b)):=rfl
theorem xU(c:Nat)(x:Str):VB ⟨#[c]⟩ x=decide (c∈x.cps.toList):=StrLaws.found_one x c
@[simp] theorem QD{ns:List Int}:yR [.scr ns]=.ok (.int ns.length):=rfl
@[simp] theorem wz{ds:List D}:yR [.lst ds]=.ok (.int ds.length):=rfl
theorem Wd{a:Str}(h:a.length≤sizeLine):yR [.str a]=.ok (.int a.length):=if_pos h
theorem MV{ns:List Int}{a:Int}(h:atI ns k=some a):ixD (.scr ns) (.int k)=.ok (.int a):=by
 show(match atI ns k with|some d=>Rs.ok (D.int d) | none=>.no)=_
 rw[h]
theorem V6{ds:List D}{a:D}(h:atI ds k=some a):ixD (.lst ds) (.int k)=.ok a:=by
 show(match atI ds k with|some d=>Rs.ok d|none=>.no)=_
 rw[h]
theorem Ze{a:Str}{c:Nat}(h:atI a.cps.toList k=some c)(hz:a.length≤sizeLine):ixD (.str a) (.int k)=.ok (yc c):=by
 show(match atI a.cps.toList k with|some c=>if a.length≤sizeLine then Rs.ok (D.str ⟨#[c]⟩) else .no|none=>.no)=_
 rw[h]
 exact if_pos hz
theorem Z9{α:Type}{xs:List α}{a:α}(h0:0≤k)(h:xs[k.toNat]?=some a):atI xs k=some a:=by
 have:=Ur (j:=k.toNat) h
 rwa [Int.toNat_of_nonneg h0] at this
@[simp] theorem uE{b:Bool}:je (.bl b)=.ok b:=rfl
theorem JC{a:Str}(h:a.length≤sizeLine):je (.str a)=.ok ((a.length:Int) != 0):=if_pos h
theorem yk{b:FS}{ds:List D}:xA n b ds=jO (b (zX n ds)):=rfl
end
theorem Vi(l:List PyData):PyData.eqvAll l []=l.isEmpty:=by cases l <;> simp[PyData.eqvAll]
theorem My(ns:List Int):okD (.scr ns)=true:=by
 have c:∀l:List Int,PyData.canLayAll0 (l.map PyData.int)=true:=fun l=>by
  induction l with
  |nil=>rfl
  |cons a r ih=>simp[PyData.canLayAll0,PyData.canLay0,ih]
 have d:∀l:List Int,PyData.depthAll (l.map PyData.int)=0:=fun l=>by
  induction l with
  |nil=>rfl
  |cons a r ih=>simp[PyData.depthAll,PyData.depth,ih]
 simp[okD,y4,yH,PyData.canLay0,PyData.depth,c,d]
theorem Wt(ns:List Int):eqD (.scr ns) (.lst [])=.ok (.bl ns.isEmpty):=by
 have o2:okD (.lst [])=true:=by decide
 have:wU (.scr ns) (.lst [])=ns.isEmpty:=by
  simp only[wU,yH,toPys,PyData.eqv,Vi]
  cases ns <;> rfl
 simp only[eqD,My,o2,this,and_self,if_true]
end FD
set_option Elab.async false
set_option linter.all false
set_option maxRecDepth 100000
namespace Law
open PySem PySem.Spec PyProof.Rows L2 FD
instance tabs:FD.Tabs:=⟨[(87,70,28,("in_order" : Str) ++ ".<locals>." ++ "<lambda>")],fun c f=>false⟩
def jT:FS:=(zx (sIf (tB (eOp eqD (zd 0) (vF zh))) (y3 (eOp vM (eC (.int 7)) (zd 1))) yv)
  (y3 (eOp zG (eOp ixD (zd 0) (eOp Xg (zd 1) (yj yR (za (zd 0) zh)))) (eOp vM (eC (.int 6553)) (eOp ZZ (zd 1) (yj yR (za (zd 0) zh)))))))
def xL(ds:List D):Rs D:=xA 2 jT ds
def jb:FS:=(zx (yd 3 (eOp Xg (eOp zG (eOp vM (eOp Xg (zq xL (za (zd 0) (za (zd 1) zh))) (eC (.int 2147483563))) (eC (.int 69069))) (eOp vM (eC (.int 104723)) (eOp zG (zd 1) (eC (.int 1))))) (eC (.int 2147483563))))
  (zx (yd 3 (eOp Xg (eOp zG (eOp vM (zd 3) (zd 3)) (eOp ZZ (zd 3) (eC (.int 3)))) (eC (.int 2147483399))))
  (y3 (eOp Xg (eOp ZZ (eOp Xg (eOp zG (eOp vM (zd 3) (zd 3)) (eOp ZZ (zd 3) (eC (.int 7)))) (eC (.int 2147483647))) (eC (.int 11))) (zd 2)))))
def zo(ds:List D):Rs D:=xA 4 jb ds
def jR:FS:=(zx (yd 2 (eC (.str "")))
  (zx (ua (vq (za (eOp zG (eC (.int 1)) (zq zo (za (zd 0) (za (zd 1) (za (eC (.int 10)) zh))))) zh)) (gNm 3) (yd 2 (eOp zG (zd 2) (eOp ixD (eC (.str "abcabABCab1_-./xyz")) (zq zo (za (zd 0) (za (eOp zG (eOp zG (zd 1) (eC (.int 1))) (zd 3)) (za (eC (.int 18)) zh))))))))
  (y3 (zd 2))))
def y8(ds:List D):Rs D:=xA 4 jR ds
def vy:FS:=(zx (vA 3 (xr 1 [0,1] (vq (za (zq zo (za (zd 0) (za (zd 1) (za (eOp zG (zd 2) (eC (.int 1))) zh)))) zh)) (gNm 0) (fun _=>.ok true) (zq y8 (za (zd 1) (za (eOp zG (eOp zG (zd 2) (eC (.int 1))) (eOp vM (eC (.int 12)) (zd 0))) zh)))))
  (zx (sIf (Zo (tB (eOp gtD (Wu 3) (eC (.int 1)))) (tB (eOp eqD (zq zo (za (zd 0) (za (eOp zG (zd 1) (eC (.int 12))) (za (eC (.int 5)) zh)))) (eC (.int 0))))) (UI 3 (eC (.int 0)) (Jk 3 (x6 (eC (.int 1))))) yv)
  (vJ 3)))
def yW(ds:List D):Rs D:=xA 4 vy ds
def jS:FS:=(y3 (eOp inD (zd 0) (eC (.str "_-./"))))
def y9(ds:List D):Rs D:=xA 1 jS ds
def ja:FS:=(zx (yd 4 (eC (.str "")))
  (zx (yd 5 (eC (.int 0)))
  (zx (ua (vq (za (zq zo (za (zd 0) (za (zd 1) (za (eOp zG (zd 3) (eC (.int 1))) zh)))) zh)) (gNm 6) (zx (yd 5 (yj uU (za (eOp vE (yj yR (za (zd 2) zh)) (eC (.int 1))) (za (eOp zG (zd 5) (zq zo (za (zd 0) (za (eOp zG (eOp zG (zd 1) (eC (.int 1))) (eOp vM (eC (.int 3)) (zd 6))) (za (eC (.int 3)) zh))))) zh))))
  (zx (yd 7 (Vk "str" loD (eOr (eSl (zd 2) (uf (zd 5)) (uf (eOp zG (zd 5) (eC (.int 1))))) (eC (.str "a")))))
  (zx (yd 5 (eOp zG (zd 5) (eC (.int 1))))
  (zx (sIf (tB (eOp eqD (zq zo (za (zd 0) (za (eOp zG (eOp zG (zd 1) (eC (.int 2))) (eOp vM (eC (.int 3)) (zd 6))) (za (eC (.int 5)) zh)))) (eC (.int 0)))) (yd 7 (eOp ixD (eC (.str "abAB1c")) (zq zo (za (zd 0) (za (eOp zG (eOp zG (zd 1) (eC (.int 3))) (eOp vM (eC (.int 3)) (zd 6))) (za (eC (.int 6)) zh)))))) yv)
  (sIf (XE (Yb (zq y9 (za (zd 7) zh)))) (yd 4 (eOp zG (zd 4) (zd 7))) yv))))))
  (y3 (zd 4)))))
def xl(ds:List D):Rs D:=xA 8 ja ds
def uA:FS:=(y3 (Z2 [0] (zd 1) (xQ (za (x6 (eOp ixD (zd 0) (eC (.int 0)))) (za (yj yR (za (eOp ixD (zd 1) (eOp ixD (zd 0) (eC (.int 1)))) zh)) (za (eOp ixD (zd 0) (eC (.int 1))) zh))))))
def xw(ds:List D):Rs D:=xA 2 uA ds
def vx:FS:=(y3 (eSl (zq xw (za (zd 0) (za (zd 1) zh))) VW (uf (yj ZG (za (zd 2) (za (eC (.int 0)) zh))))))
def yV(ds:List D):Rs D:=xA 3 vx ds
def wC:FS:=(zx (sIf (tB (eOp eqD (zd 1) (eC (.int 0)))) (y3 (eC (.int 8))) yv)
  (zx (yd 2 (eOp ixD (zd 0) (eOp vE (zd 1) (eC (.int 1)))))
  (zx (sIf (tB (eOp inD (zd 2) (eC (.str "_-./")))) (y3 (eC (.int 6))) yv)
  (zx (sIf (Zo (tB (eOp inD (eOp ixD (zd 0) (zd 1)) (eC (.str "ABCDEFGHIJKLMNOPQRSTUVWXYZ")))) (XD (tB (eOp inD (zd 2) (eC (.str "abcdefghijklmnopqrstuvwxyz")))) (tB (eOp inD (zd 2) (eC (.str "0123456789")))))) (y3 (eC (.int 5))) yv)
  (y3 (eC (.int 0)))))))
def yu(ds:List D):Rs D:=xA 3 wC ds
def u9:FS:=(zx (yd 3 (eIf (tB (eOp eqD (eOp ixD (zd 1) (zd 2)) (zd 0))) (eC (.int 1)) (eC (.int 0))))
  (y3 (eOp zG (eOp zG (eC (.int 10)) (zq yu (za (zd 1) (za (zd 2) zh)))) (zd 3))))
def yr(ds:List D):Rs D:=xA 4 u9 ds
def Uq:FS:=(y3 (eOr (eOp eqD (zd 0) (zd 1)) (zb1 (eOp inD (zd 0) (eC (.str "abcdefghijklmnopqrstuvwxyz"))) (eOp eqD (Vk "str" upD (zd 0)) (zd 1)))))
def xO(ds:List D):Rs D:=xA 2 Uq ds
def wL:FS:=(y3 (fun τ=>((xr 1 [0,1] (vq (za (yj yR (za (zd 1) zh)) zh)) (gNm 0) (Yb (zq xO (za (zd 1) (za (eOp ixD (zd 2) (zd 0)) zh)))) (xQ (za (zq yr (za (zd 1) (za (zd 2) (za (zd 0) zh)))) (za (vF (za (zd 0) zh)) zh)))) τ).bind fun ds=>.ok (.lst ds)))
def yb(ds:List D):Rs D:=xA 2 wL ds
def vD:FS:=(zx (yd 1 (eC .non))
  (zx (ua (xP (zd 0)) (gNm 2) (sIf (XD (tB (eOp isD (zd 1) (eC .non))) (tB (eOp gtD (eOp ixD (zd 2) (eC (.int 0))) (eOp ixD (zd 1) (eC (.int 0)))))) (yd 1 (zd 2)) yv))
  (y3 (zd 1))))
def zH(ds:List D):Rs D:=xA 3 vD ds
def uk:FS:=(zx (yd 2 (eOp vE (eOp vE (zd 1) (zd 0)) (eC (.int 1))))
  (zx (sIf (tB (eOp eqD (zd 2) (eC (.int 0)))) (y3 (eC (.int 7))) yv)
  (y3 (x6 (yj uU (za (zd 2) (za (eC (.int 5)) zh)))))))
def y0(ds:List D):Rs D:=xA 3 uk ds
def vT:FS:=(y3 (fun τ=>((xr 1 [0] (xP (zd 1)) (gNm 0) (tB (eOp gtD (eOp ixD (eOp ixD (zd 0) (eC (.int 1))) (eC (.int 0))) (zd 1))) (xQ (za (eOp zG (eOp ixD (zd 0) (eC (.int 0))) (zq y0 (za (zd 1) (za (eOp ixD (eOp ixD (zd 0) (eC (.int 1))) (eC (.int 0))) zh)))) (za (eOp ixD (zd 0) (eC (.int 1))) zh)))) τ).bind fun ds=>.ok (.lst ds)))
def yz(ds:List D):Rs D:=xA 2 vT ds
def wA:FS:=(zx (vA 3 (fun τ=>(zh τ).bind fun ds=>if ds.length≤sizeLine then .ok ds else .no))
  (zx (ua (vq (za (yj yR (za (zd 1) zh)) zh)) (gNm 4) (sIf (Yb (zq xO (za (zd 0) (za (eOp ixD (zd 1) (zd 4)) zh)))) (zx (yd 5 (zq zH (za (zq yz (za (zd 4) (za (zd 2) zh))) zh)))
  (sIf (tB (eOp vp (zd 5) (eC .non))) (XN 3 (xQ (za (eOp zG (zq yr (za (zd 0) (za (zd 1) (za (zd 4) zh)))) (eOp ixD (zd 5) (eC (.int 0)))) (za (eOp zG (vF (za (zd 4) zh)) (eOp ixD (zd 5) (eC (.int 1)))) zh)))) yv)) yv))
  (vJ 3)))
def yP(ds:List D):Rs D:=xA 6 wA ds
def ul:FS:=(y3 (x6 (yj uU (za (zd 0) (za (eC (.int 3)) zh)))))
def yK(ds:List D):Rs D:=xA 1 ul ds
def Vq:FS:=(zx (sIf (tB (eOp eqD (yj yR (za (zd 0) zh)) (eC (.int 0)))) (y3 (xQ (za (eC (.int 0)) (za (vF zh) zh)))) yv)
  (zx (yd 2 (zq yb (za (eOp ixD (zd 0) (x6 (eC (.int 1)))) (za (zd 1) zh))))
  (zx (ua (Jc (za (eOp vE (yj yR (za (zd 0) zh)) (eC (.int 2))) (za (x6 (eC (.int 1))) (za (x6 (eC (.int 1))) zh)))) (gNm 3) (yd 2 (zq yP (za (eOp ixD (zd 0) (zd 3)) (za (zd 1) (za (zd 2) zh))))))
  (y3 (zq zH (za (fun τ=>((xr 1 [] (xP (zd 2)) (gNm 0) (fun _=>.ok true) (xQ (za (eOp zG (eOp ixD (zd 0) (eC (.int 0))) (zq yK (za (eOp ixD (eOp ixD (zd 0) (eC (.int 1))) (eC (.int 0))) zh))) (za (eOp ixD (zd 0) (eC (.int 1))) zh)))) τ).bind fun ds=>.ok (.lst ds)) zh))))))
def wO(ds:List D):Rs D:=xA 4 Vq ds
def wB:FS:=(zx (vA 3 (fun τ=>(zh τ).bind fun ds=>if ds.length≤sizeLine then .ok ds else .no))
  (zx (ua (xP (zd 2)) (gNm 4) (zx (yd 5 (zq wO (za (zd 1) (za (eOp ixD (zd 0) (zd 4)) zh))))
  (sIf (tB (eOp vp (zd 5) (eC .non))) (XN 3 (xQ (za (eOp ixD (zd 5) (eC (.int 0))) (za (zd 4) zh)))) yv)))
  (vJ 3)))
def yA(ds:List D):Rs D:=xA 6 wB ds
def uB:FS:=(y3 (zq yA (za (zd 0) (za (zd 1) (za (fun τ=>((X8 (vq (za (yj yR (za (zd 0) zh)) zh))) τ).bind fun ds=>.ok (.lst ds)) zh)))))
def yF(ds:List D):Rs D:=xA 2 uB ds
def Xs:FS:=(y3 (zq yV (za (zd 0) (za (zq yF (za (zd 0) (za (zd 1) zh))) (za (zd 2) zh)))))
def xG(ds:List D):Rs D:=xA 3 Xs ds
def Vp:FS:=(Yx 2 3 (xP (zq yF (za (zd 0) (za (zd 1) zh)))))
def wN(ds:List D):Rs D:=xA 4 Vp ds
def Gx:FS:=(zx (yd 1 (zq yW (za (zd 0) (za (eC (.int 0)) (za (eC (.int 3)) zh)))))
  (zx (yd 2 (zq yW (za (zd 0) (za (eC (.int 60)) (za (eC (.int 3)) zh)))))
  (zx (yd 3 (eOp zG (eOp zG (zd 1) (zd 2)) (vF (za (eC (.str "abc")) zh))))
  (zx (yd 4 (zq xl (za (zd 0) (za (eC (.int 120)) (za (eOp ixD (zd 3) (zq zo (za (zd 0) (za (eC (.int 119)) (za (yj yR (za (zd 3) zh)) zh))))) (za (eC (.int 3)) zh))))))
  (zx (yd 5 (zq xG (za (eOp zG (zd 1) (zd 2)) (za (zd 4) (za (eC (.int 99)) zh)))))
  (zx (sIf (tB (eOp neD (fun τ=>((xr 1 [1] (xP (zd 5)) (gNm 0) (tB (eOp ltI (eOp ixD (zd 0) (eC (.int 1))) (yj yR (za (zd 1) zh)))) (zd 0)) τ).bind fun ds=>.ok (.lst ds)) (zq xG (za (zd 1) (za (zd 4) (za (eC (.int 99)) zh)))))) (y3 (eC (.bl false))) yv)
  (zx (yd 6 fun τ=>((xr 2 [1] (xP (zd 5)) (gPr 0 1) (tB (eOp geD (zd 1) (yj yR (za (zd 2) zh)))) (xQ (za (zd 0) (za (eOp vE (zd 1) (yj yR (za (zd 2) zh))) zh)))) τ).bind fun ds=>.ok (.lst ds))
  (zx (sIf (tB (eOp neD (zd 6) (zq xG (za (zd 2) (za (zd 4) (za (eC (.int 99)) zh)))))) (y3 (eC (.bl false))) yv)
  (zx (yd 7 (fun τ=>(((za (eOp zG (zd 1) (zd 2)) zh) τ).bind XI).bind fun ds=>.ok (.lst ds)))
  (zx (yd 8 (zq xG (za (Jj (zd 7)) (za (zd 4) (za (eC (.int 99)) zh)))))
  (zx (yd 9 (zq xG (za (zd 7) (za (zd 4) (za (eC (.int 99)) zh)))))
  (zx (sIf (tB (eOp neD (fun τ=>((xr 1 [] (xP (zd 8)) (gNm 0) (fun _=>.ok true) (eOp ixD (zd 0) (eC (.int 0)))) τ).bind fun ds=>.ok (.lst ds)) (fun τ=>((xr 1 [] (xP (zd 9)) (gNm 0) (fun _=>.ok true) (eOp ixD (zd 0) (eC (.int 0)))) τ).bind fun ds=>.ok (.lst ds)))) (y3 (eC (.bl false))) yv)
  (zx (yd 10 fun τ=>((xr 2 [7] (xP (zd 9)) (gPr 0 1) (fun _=>.ok true) (xQ (za (eOp vE (eC (.int 0)) (zd 0)) (za (yj yR (za (eOp ixD (zd 2) (zd 1)) zh)) zh)))) τ).bind fun ds=>.ok (.lst ds))
  (zx (yd 11 fun τ=>((xr 2 [7] (xP (zd 8)) (gPr 0 1) (fun _=>.ok true) (xQ (za (eOp vE (eC (.int 0)) (zd 0)) (za (yj yR (za (eOp ixD (Jj (zd 2)) (zd 1)) zh)) zh)))) τ).bind fun ds=>.ok (.lst ds))
  (zx (sIf (XD (tB (eOp neD (zd 10) (yj uo (za (zd 10) zh)))) (tB (eOp neD (zd 10) (zd 11)))) (y3 (eC (.bl false))) yv)
  (zx (yd 12 (yj Wx (za (zq wN (za (zd 1) (za (zd 4) zh))) zh)))
  (zx (yd 13 (yj Wx (za (zq wN (za (zd 2) (za (zd 4) zh))) zh)))
  (zx (ua (xP (zq wN (za (eOp zG (zd 1) (zd 2)) (za (zd 4) zh)))) (gPr 14 15) (sIf (tB (eOp neD (zd 15) (eOp zG (Z3 (zd 12) (zd 14) (vF zh)) (fun τ=>((xr 1 [1] (xP (Z3 (zd 13) (zd 14) (vF zh))) (gNm 0) (fun _=>.ok true) (eOp zG (zd 0) (yj yR (za (zd 1) zh)))) τ).bind fun ds=>.ok (.lst ds))))) (y3 (eC (.bl false))) yv))
  (y3 (eOp eqD (yj yR (za (zq wN (za (eOp zG (zd 1) (zd 2)) (za (zd 4) zh))) zh)) (fun τ=>((za (eOp zG (yj jv (za (zd 12) zh)) (yj jv (za (zd 13) zh))) zh) τ).bind WW)))))))))))))))))))))
def VY(ds:List D):Rs D:=xA 16 Gx ds
def jQ(ns:List Int)(k:Int):Int:=if ns=[] then 7*k else ns.getD (k%ns.length).toNat 0+6553*(k / ns.length)
theorem zV:sizeLine=16777216:=sizeLine_eq
theorem Tf(ns:List Int)(k:Int)(h63:ns.length≤63)(h0:0≤k):xL [.scr ns,.int k]=.ok (.int (jQ ns k)):=by
 have st:zX 2 [D.scr ns,.int k]=[some (.val (.scr ns)),some (.val (.int k))]:=rfl
 unfold xL jT
 rw[yk,st]
 simp only[zL,yI,xJ,yn,zD,Xo,zQ,getElem?_cons_zero,zA,Rs.bind_ok,length_nil,zero_le,if_true,Wt,zY,Fl.of_ok]
 cases ns with
 |nil=>
  simp only[List.isEmpty_nil,if_true,zU,yn,yD,zD,getElem?_cons_zero,getElem?_cons_succ,zA,Rs.bind_ok,vL (i:=7) (j:=k) (.inl ⟨by decide,by decide⟩),Fl.of_ok,jf,zJ,jQ]
 |cons a r=>
  have hl:(0:Int)<((a::r).length:Int):=by simp only[length_cons];omega
  have hm0:=emod_nonneg k (show((a::r).length:Int)≠0 by omega)
  have hm1:=Int.emod_lt_of_pos k hl
  have hat:atI (a::r) (k%((a::r).length:Int))=some ((a::r).getD (k%((a::r).length:Int)).toNat 0):=by
   refine Z9 hm0 ?_
   have:(k%((a::r).length:Int)).toNat<(a::r).length:=by omega
   rw[getD_eq_getElem?_getD,getElem?_eq_getElem this];rfl
  have hdv:ZZ (.int k) (.int ((a::r).length:Int))=.ok (.int (k / ((a::r).length:Int))):=Zg ⟨hl,by omega⟩
  have hmd:Xg (.int k) (.int ((a::r).length:Int))=.ok (.int (k%((a::r).length:Int))):=ZF hl
  have hml:=vL (i:=6553) (j:=k / ((a::r).length:Int)) (.inl ⟨by decide,by decide⟩)
  simp only[List.isEmpty_cons,Bool.false_eq_true,if_false,zZ,ym,zU,yn,yD,zD,v9,zv,zQ,getElem?_cons_zero,getElem?_cons_succ,zA,Rs.bind_ok,QD,hmd,hdv,hml,MV hat,xD,Fl.of_ok,zJ]
  simp[jQ]
def d1(ns:List Int)(k:Int):Int:=(jQ ns k%2147483563*69069+104723*(k+1))%2147483563
def d2(ns:List Int)(k:Int):Int:=(d1 ns k*d1 ns k+d1 ns k / 3)%2147483399
def xM(ns:List Int)(k m:Int):Int:=(d2 ns k*d2 ns k+d2 ns k / 7)%2147483647 / 11%m
theorem wg(ns:List Int)(k m:Int)(h63:ns.length≤63)(h0:0≤k)(hk:k<1000000)(hm:0<m):zo [.scr ns,.int k,.int m]=.ok (.int (xM ns k m)):=by
 have st:zX 4 [D.scr ns,.int k,.int m]=[some (.val (.scr ns)),some (.val (.int k)),some (.val (.int m)),none]:=rfl
 have b1:0≤d1 ns k∧d1 ns k<2147483563:=⟨emod_nonneg _ (by decide),Int.emod_lt_of_pos _ (by decide)⟩
 have b2:0≤d2 ns k∧d2 ns k<2147483399:=⟨emod_nonneg _ (by decide),Int.emod_lt_of_pos _ (by decide)⟩
 have c0:=Int.emod_lt_of_pos (jQ ns k) (show(0:Int)<2147483563 by decide)
 have c1:=emod_nonneg (jQ ns k) (show(2147483563:Int)≠0 by decide)
 have q1:=vL (i:=jQ ns k%2147483563) (j:=69069) (.inr ⟨by decide,by decide⟩)
 have q2:=vL (i:=104723) (j:=k+1) (.inl ⟨by decide,by decide⟩)
 have q3:=vL (i:=d1 ns k) (j:=d1 ns k) (.inl ⟨by omega,by omega⟩)
 have q4:=vL (i:=d2 ns k) (j:=d2 ns k) (.inl ⟨by omega,by omega⟩)
 have e1:(jQ ns k%2147483563*69069+104723*(k+1))%2147483563=d1 ns k:=rfl
 have e2:(d1 ns k*d1 ns k+d1 ns k / 3)%2147483399=d2 ns k:=rfl
 have m1:=fun i=>ZF (i:=i) (j:=2147483563) (by decide)
 have m2:=fun i=>ZF (i:=i) (j:=2147483399) (by decide)
 have m3:=fun i=>ZF (i:=i) (j:=2147483647) (by decide)
 have m4:=fun i=>ZF (i:=i) (j:=m) hm
 have f3:=fun i=>Zg (i:=i) (j:=3) ⟨by decide,by decide⟩
 have f7:=fun i=>Zg (i:=i) (j:=7) ⟨by decide,by decide⟩
 have f11:=fun i=>Zg (i:=i) (j:=11) ⟨by decide,by decide⟩
 unfold zo jb
 rw[yk,st]
 simp only[zL,zT,zU,yn,zD,yD,yQ,zv,zQ,getElem?_cons_zero,getElem?_cons_succ,zA,Rs.bind_ok,Tf ns k h63 h0,xF,m1,q1,xD,q2,e1,Fl.of_ok,ym,set_cons_succ,set_cons_zero,q3,f3,m2,e2,q4,f7,m3,f11,m4,zJ]
 rfl
theorem wj(ns:List Int)(k:Int){m:Int}(hm:0<m):0≤xM ns k m∧xM ns k m<m:=⟨emod_nonneg _ (by omega),Int.emod_lt_of_pos _ hm⟩
end Law
set_option Elab.async false
set_option linter.all false
namespace FD
open PySem PySem.Spec PyProof.Rows L2
theorem YD{set:FG}{body:FS}(f:Nat→D)(S:Nat→DS):∀(m j:Nat),(∀k,j≤k→k<j+m→∃τ1,set (f k) (S k)=.ok τ1∧body τ1=.nx (S (k+1)))→xc set body ((List.range' j m).map f) (S j)=.nx (S (j+m))
 |0,j,_=>rfl
 |m+1,j,h=>by
  obtain⟨τ1,h1,h2⟩:=h j (le_refl _) (by omega)
  rw[List.range'_succ,map_cons,xc,h1,Fl.of_ok]
  simp only[h2]
  rw[YD f S m (j+1) fun k hk hk2=>h k (by omega) (by omega)]
  congr 2;omega
theorem W9{set:FG}{body:FS}(f:Nat→D)(S:Nat→DS)(n:Nat)(h:∀k,k<n→∃τ1,set (f k) (S k)=.ok τ1∧body τ1=.nx (S (k+1))):xc set body ((List.range n).map f) (S 0)=.nx (S n):=by
 have:=YD f S n 0 fun k _ hk=>h k (by omega)
 rw[zero_add] at this
 rwa [List.range_eq_range']
theorem WY{fs:FA}{τ:DS}{j:Int}(h:fs τ=.ok [.int j])(h1 : -(2 ^ 62)≤j)(h2:j<2 ^ 62):vq fs τ=.ok (uu 0 j.toNat):=by
 unfold vq
 rw[h]
 simp only[Rs.bind_ok,Ve]
 rw[if_pos ⟨h1,h2⟩]
theorem VA(a:List Nat)(c:Nat):(⟨a.toArray⟩:Str)++(⟨#[c]⟩:Str)=⟨(a++[c]).toArray⟩:=by
 show Str.mk _=_
 simp
theorem jB{n:Nat}{d:D}{τ:DS}:gNm n d τ=.ok (τ.set n (some (.val d))):=rfl
end FD
namespace Law
open PySem PySem.Spec PyProof.Rows L2 FD
def A18:List Nat:=[97,98,99,97,98,65,66,67,97,98,49,95,45,46,47,120,121,122]
def YB(ns:List Int)(a:Int):Nat:=(1+xM ns a 10).toNat
def Qw(ns:List Int)(a:Int)(k:Nat):Nat:=A18.getD (xM ns (a+1+k) 18).toNat 0
def wJ(ns:List Int)(a:Int)(n:Nat):List Nat:=(List.range n).map (Qw ns a)
theorem a18:("abcabABCab1_-./xyz" : Str).cps.toList=A18:=by decide +kernel
theorem MF(ns:List Int)(a:Int)(h63:ns.length≤63)(h0:0≤a)(ha:a<900000):y8 [.scr ns,.int a]=.ok (.str ⟨(wJ ns a (YB ns a)).toArray⟩):=by
 have st:zX 4 [D.scr ns,.int a]=[some (.val (.scr ns)),some (.val (.int a)),none,none]:=rfl
 have dl:=wj ns a (m:=10) (by decide)
 unfold y8 jR
 rw[yk,st,zL,zT,yD,Fl.of_ok,ym,zL,vc]
 have r1:=WY (fs:=za (eOp zG (eC (.int 1)) (zq zo (za (zd 0) (za (zd 1) (za (eC (.int 10)) zh))))) zh) (τ:=[some (.val (.scr ns)),some (.val (.int a)),some (.val (.str "")),none]) (j:=1+xM ns a 10)
  (by simp only[zv,zQ,yn,yD,yQ,zD,getElem?_cons_zero,getElem?_cons_succ,zA,Rs.bind_ok,wg ns a 10 h63 h0 (by omega) (by decide),xF,xD]) (by omega) (by omega)
 simp only[set_cons_succ,set_cons_zero]
 rw[r1,Fl.of_ok]
 let S:Nat→DS:=fun k=>[some (.val (.scr ns)),some (.val (.int a)),some (.val (.str ⟨(wJ ns a k).toArray⟩)),if k=0 then none else some (.val (.int ((k:Int)-1)))]
 have s0:S 0=[some (.val (.scr ns)),some (.val (.int a)),some (.val (.str "")),none]:=by
  simp only[S,wJ,List.range_zero,map_nil,if_true]
  rfl
 rw[← s0]
 have lp:=W9 (set:=gNm 3) (body:=(yd 2 (eOp zG (zd 2) (eOp ixD (eC (.str "abcabABCab1_-./xyz")) (zq zo (za (zd 0) (za (eOp zG (eOp zG (zd 1) (eC (.int 1))) (zd 3)) (za (eC (.int 18)) zh)))))))) (fun (k:Nat)=>D.int (0+k)) S (1+xM ns a 10).toNat fun k hk=>by
  refine⟨_,jB,?_⟩
  have hk':(k:Int)<20:=by omega
  have dk:=wj ns (a+1+(0+(k:Int))) (m:=18) (by decide)
  have hd:=wg ns (a+1+(0+(k:Int))) 18 h63 (by omega) (by omega) (by decide)
  have hix:=Ze (a := "abcabABCab1_-./xyz") (k:=xM ns (a+1+(0+(k:Int))) 18) (c:=A18.getD (xM ns (a+1+(0+(k:Int))) 18).toNat 0) (Z9 dk.1 (by
   rw[a18]
   have:(xM ns (a+1+(0+(k:Int))) 18).toNat<A18.length:=by
    have:A18.length=18:=rfl
    omega
   rw[getD_eq_getElem?_getD,getElem?_eq_getElem this];rfl)) (by decide +kernel)
  have hadd:=GC (a:=⟨(wJ ns a k).toArray⟩) (b:=⟨#[A18.getD (xM ns (a+1+(0+(k:Int))) 18).toNat 0]⟩) (by
   show(wJ ns a k).toArray.size+1≤sizeLine
   rw[zV,size_toArray]
   simp only[wJ,length_map,length_range];omega)
  simp only[S,set_cons_succ,set_cons_zero,zT,yn,yD,yQ,zv,zQ,zD,getElem?_cons_zero,getElem?_cons_succ,zA,Rs.bind_ok,xD,hd,xF,hix,yc,hadd,Fl.of_ok,VA]
  have e1:wJ ns a k++[A18.getD (xM ns (a+1+(0+(k:Int))) 18).toNat 0]=wJ ns a (k+1):=by
   simp only[wJ,List.range_succ,map_append,map_cons,map_nil,Qw,Int.zero_add]
  rw[e1]
  simp
 unfold uu
 rw[lp,ym]
 simp only[S,zU,zD,getElem?_cons_zero,getElem?_cons_succ,zA,Fl.of_ok,zJ]
 rfl
end Law
set_option Elab.async false
set_option linter.all false
namespace FD
open PySem PySem.Spec PyProof.Rows L2
theorem X9{set:FG}{body:FS}(f:Nat→D)(I:Nat→DS→Prop):∀(m j:Nat) (τ:DS),I j τ→(∀k τ,j≤k→k<j+m→I k τ→∃τ1 τ2,set (f k) τ=.ok τ1∧body τ1=.nx τ2∧I (k+1) τ2)→∃τ',xc set body ((List.range' j m).map f) τ=.nx τ'∧I (j+m) τ'
 |0,j,τ,h,_=>⟨τ,rfl,h⟩
 |m+1,j,τ,h,hs=>by
  obtain⟨τ1,τ2,h1,h2,h3⟩:=hs j τ (le_refl _) (by omega) h
  obtain⟨τ',h4,h5⟩:=X9 f I m (j+1) τ2 h3 fun k τ hk hk2=>hs k τ (by omega) (by omega)
  refine⟨τ',?_,by rw[show j+(m+1)=j+1+m by omega];exact h5⟩
  rw[List.range'_succ,map_cons,xc,h1,Fl.of_ok]
  simp only[h2,h4]
theorem ju{set:FG}{body:FS}(f:Nat→D)(I:Nat→DS→Prop)(n:Nat)(τ:DS)(h0:I 0 τ)(h:∀k τ,k<n→I k τ→∃τ1 τ2,set (f k) τ=.ok τ1∧body τ1=.nx τ2∧I (k+1) τ2):∃τ',xc set body ((List.range n).map f) τ=.nx τ'∧I n τ':=by
 obtain⟨τ',h1,h2⟩:=X9 f I n 0 τ h0 fun k τ _ hk hi=>h k τ (by omega) hi
 rw[zero_add] at h2
 exact⟨τ',by rw[List.range_eq_range'];exact h1,h2⟩
end FD
namespace Law
open PySem PySem.Spec PyProof.Rows L2 FD
def QS:List Nat:=[97,98,99,120,121,122,65,66,49]
def MK:List Nat:=[95,45,46,47]
theorem U1:("_-./" : Str).cps.toList=MK:=by decide +kernel
theorem MH(c:Nat):y9 [yc c]=.ok (.bl (decide (c∈MK))):=by
 have st:zX 1 [yc c]=[some (.val (yc c))]:=rfl
 unfold y9 jS
 rw[yk,st]
 simp only[zU,yn,zD,yD,getElem?_cons_zero,zA,Rs.bind_ok,yc,ZV,xU,U1,Fl.of_ok,zJ]
theorem JM(x:List Nat){i j:Int}(h0:0≤i)(h1:i≤j)(h2:j≤x.length):Txt.slice (⟨x.toArray⟩:Str) (some i) (some j)=⟨((x.drop i.toNat).take (j-i).toNat).toArray⟩:=by
 have:=slice_closesL (x:=⟨x.toArray⟩) (i:=i) (j:=j) h0 h1 (by show j≤((x.toArray.size:Nat):Int);simpa using h2)
 exact eq_of_beq this
theorem UF(x:List Nat)(p:Nat)(hp:p<x.length):Txt.slice (⟨x.toArray⟩:Str) (some (p:Int)) (some ((p:Int)+1))=⟨#[x[p]]⟩:=by
 rw[JM x (by omega) (by omega) (by omega)]
 have e1:((p:Int)+1-(p:Int)).toNat=1:=by omega
 have e2:((p:Int)).toNat=p:=by omega
 rw[e1,e2,List.drop_eq_getElem_cons hp]
 rfl
theorem U2(c:Nat)(h:c<128):Txt.lower (⟨#[c]⟩:Str)=⟨#[lo1 c]⟩:=by
 rw[lower_ascii (x:=⟨#[c]⟩) (by intro d hd;have e:d=c:=(by simpa using hd);omega)]
 simp
def NS:List Nat:=[97,98,99,65,66,67,49,95,45,46,47,120,121,122]
theorem U0(ns:List Int)(a:Int)(k:Nat)(h:0≤a+1+k):Qw ns a k∈NS:=by
 have d:=wj ns (a+1+k) (m:=18) (by decide)
 have hall:∀n,n<18→A18.getD n 0∈NS:=by decide
 exact hall _ (by omega)
def S6:List Nat:=[97,98,65,66,49,99]
theorem s6_l:("abAB1c" : Str).cps.toList=S6:=by decide +kernel
theorem V0:∀c∈NS,c<128∧(lo1 c∈QS∨lo1 c∈MK):=by decide
theorem G3:∀n,n<6→S6.getD n 0∈QS:=by decide
set_option maxHeartbeats 1000000
def XR:FS:=(zx (yd 5 (yj uU (za (eOp vE (yj yR (za (zd 2) zh)) (eC (.int 1))) (za (eOp zG (zd 5) (zq zo (za (zd 0) (za (eOp zG (eOp zG (zd 1) (eC (.int 1))) (eOp vM (eC (.int 3)) (zd 6))) (za (eC (.int 3)) zh))))) zh))))
  (zx (yd 7 (Vk "str" loD (eOr (eSl (zd 2) (uf (zd 5)) (uf (eOp zG (zd 5) (eC (.int 1))))) (eC (.str "a")))))
  (zx (yd 5 (eOp zG (zd 5) (eC (.int 1))))
  (zx (sIf (FD.tB (eOp eqD (zq zo (za (zd 0) (za (eOp zG (eOp zG (zd 1) (eC (.int 2))) (eOp vM (eC (.int 3)) (zd 6))) (za (eC (.int 5)) zh)))) (eC (.int 0)))) (yd 7 (eOp ixD (eC (.str "abAB1c")) (zq zo (za (zd 0) (za (eOp zG (eOp zG (zd 1) (eC (.int 3))) (eOp vM (eC (.int 3)) (zd 6))) (za (eC (.int 6)) zh)))))) yv)
  (sIf (XE (Yb (zq y9 (za (zd 7) zh)))) (yd 4 (eOp zG (zd 4) (zd 7))) yv)))))
def qSt(ns:List Int)(a:Int)(x:List Nat)(most:Int)(q:List Nat)(p:Int)(s1 s2:Option Sl):DS:=
 [some (.val (.scr ns)),some (.val (.int a)),some (.val (.str ⟨x.toArray⟩)),some (.val (.int most)),some (.val (.str ⟨q.toArray⟩)),some (.val (.int p)),s1,s2]
theorem WZ(ns:List Int)(a:Int)(x:List Nat)(most:Int)(q:List Nat)(p:Int)(k:Nat)(s2:Option Sl)(h63:ns.length≤63)(h0:0≤a)(ha:a<900000)(hk:k<100)(hx0:0<x.length)(hx1:x.length≤100)(hx:∀c∈x,c∈NS)(hq:q.length≤100)(hqs:∀c∈q,c∈QS)(hp:0≤p) :
  ∃q' p' s',XR (qSt ns a x most q p (some (.val (.int (0+k)))) s2)=.nx (qSt ns a x most q' p' (some (.val (.int (0+k)))) s')∧q'.length≤q.length+1∧(∀c∈q',c∈QS)∧0≤p':=by
 have hl:((⟨x.toArray⟩:Str).length:Int)=x.length:=by show((x.toArray.size:Nat):Int)=_;simp
 have hsz:(⟨x.toArray⟩:Str).length≤sizeLine:=by rw[zV];show x.toArray.size≤_;simp;omega
 have m3:=vL (i:=3) (j:=0+(k:Int)) (.inl ⟨by decide,by decide⟩)
 have g1:=wg ns (a+1+3*(0+(k:Int))) 3 h63 (by omega) (by omega) (by decide)
 have g2:=wg ns (a+2+3*(0+(k:Int))) 5 h63 (by omega) (by omega) (by decide)
 have g3:=wg ns (a+3+3*(0+(k:Int))) 6 h63 (by omega) (by omega) (by decide)
 have b1:=wj ns (a+1+3*(0+(k:Int))) (m:=3) (by decide)
 have b3:=wj ns (a+3+3*(0+(k:Int))) (m:=6) (by decide)
 generalize xM ns (a+1+3*(0+(k:Int))) 3=e1 at *
 generalize xM ns (a+2+3*(0+(k:Int))) 5=e2 at *
 generalize xM ns (a+3+3*(0+(k:Int))) 6=e3 at *
 obtain⟨n,hn,hmin⟩:∃n:Nat,n<x.length∧(if p+e1<(x.length:Int)-1 then p+e1 else (x.length:Int)-1)=(n:Int):=by
  by_cases h:p+e1<(x.length:Int)-1
  ·exact⟨(p+e1).toNat,by omega,by rw[if_pos h];omega⟩
  ·exact⟨x.length-1,by omega,by rw[if_neg h];omega⟩
 have hmn:uU [.int ((x.length:Int)-1),.int (p+e1)]=.ok (.int n):=by
  simp only[uU,Vd];rw[hmin]
 have hsl:slD (.str ⟨x.toArray⟩) (some (n:Int)) (some ((n:Int)+1))=.ok (.str ⟨#[x[n]]⟩):=by
  simp only[slD]
  rw[if_pos hsz,UF x n hn]
 have hxn:=hx x[n] (getElem_mem hn)
 have hlo:loD (.str ⟨#[x[n]]⟩) []=.ok (.str ⟨#[lo1 x[n]]⟩):=by
  simp only[loD]
  rw[if_pos (by show 1≤5000000;decide),U2 _ (V0 _ hxn).1]
 have htr:je (.str ⟨#[x[n]]⟩)=.ok true:=by
  rw[JC (by rw[zV];show 1≤_;decide)];rfl
 have hix:ixD (.str "abAB1c") (.int e3)=.ok (yc (S6.getD e3.toNat 0)):=Ze (Z9 b3.1 (by
   rw[s6_l]
   have:e3.toNat<S6.length:=by show e3.toNat<6;omega
   rw[getD_eq_getElem?_getD,getElem?_eq_getElem this];rfl)) (by decide +kernel)
 have key:∀c:Nat,(c∈QS∨c∈MK)→∃q' s',(sIf (XE (Yb (zq y9 (za (zd 7) zh)))) (yd 4 (eOp zG (zd 4) (zd 7))) yv) (qSt ns a x most q ((n:Int)+1) (some (.val (.int (0+k)))) (some (.val (yc c))))=.nx (qSt ns a x most q' ((n:Int)+1) (some (.val (.int (0+k)))) s')∧q'.length≤q.length+1∧∀c∈q',c∈QS:=fun c hc=>by
  have hadd:=GC (a:=⟨q.toArray⟩) (b:=⟨#[c]⟩) (by
   show q.toArray.size+1≤sizeLine
   rw[zV,size_toArray];omega)
  simp only[qSt,yI,GO,uF,yQ,zv,zQ,zD,getElem?_cons_zero,getElem?_cons_succ,zA,Rs.bind_ok,MH,xF,uE,Fl.of_ok]
  by_cases hm:c∈MK
  ·exact⟨q,some (.val (yc c)),by simp only[hm,decide_true,Bool.not_true,Bool.false_eq_true,if_false,zZ],by omega,hqs⟩
  ·refine⟨q++[c],some (.val (yc c)),by simp only[hm,decide_false,Bool.not_false,if_true,zT,yn,zD,getElem?_cons_zero,getElem?_cons_succ,zA,Rs.bind_ok,yc,hadd,Fl.of_ok,set_cons_succ,set_cons_zero,VA],by simp,fun d hd=>?_⟩
   rcases mem_append.mp hd with h|h
   ·exact hqs d h
   ·have:d=c:=by simpa using h
    subst this
    exact hc.resolve_right hm
 unfold XR
 simp only[qSt,zL,zT,v9,zv,zQ,yn,zD,yD,yQ,getElem?_cons_zero,getElem?_cons_succ,zA,Rs.bind_ok,Wd hsz,hl,wm,xD,m3,g1,xF,hmn,Fl.of_ok,set_cons_succ,set_cons_zero,ym,
  Uj,Ge,Gd,X2,XH,hsl,htr,if_true,Yk,decide_true,hlo,yI,xJ,g2,vC,zY]
 by_cases hz:e2=0
 ·subst hz
  obtain⟨q',s',h1,h2,h3⟩:=key (S6.getD e3.toNat 0) (.inl (G3 _ (by omega)))
  simp only[qSt] at h1
  refine⟨q',(n:Int)+1,s',?_,h2,h3,by omega⟩
  simp only[beq_self_eq_true,if_true,g3,xF,Rs.bind_ok,hix,Fl.of_ok,ym]
  exact h1
 ·obtain⟨q',s',h1,h2,h3⟩:=key (lo1 x[n]) (V0 _ hxn).2
  simp only[qSt] at h1
  refine⟨q',(n:Int)+1,s',?_,h2,h3,by omega⟩
  have hb:(e2==0)=false:=by simpa using hz
  simp only[hb,Bool.false_eq_true,if_false,zZ,ym]
  exact h1
theorem JX(ns:List Int)(a:Int)(x:List Nat)(most:Int)(h63:ns.length≤63)(h0:0≤a)(ha:a<900000)(hm0:0≤most)(hm1:most<50)(hx0:0<x.length)(hx1:x.length≤100)(hx:∀c∈x,c∈NS) :
  ∃q:List Nat,(q.length:Int)≤most∧(∀c∈q,c∈QS)∧xl [.scr ns,.int a,.str ⟨x.toArray⟩,.int most]=.ok (.str ⟨q.toArray⟩):=by
 have st:zX 8 [D.scr ns,.int a,.str ⟨x.toArray⟩,.int most]=[some (.val (.scr ns)),some (.val (.int a)),some (.val (.str ⟨x.toArray⟩)),some (.val (.int most)),none,none,none,none]:=rfl
 have dl:=wj ns a (m:=most+1) (by omega)
 have dk:=wg ns a (most+1) h63 h0 (by omega) (by omega)
 generalize hN:xM ns a (most+1)=N at *
 have r1:=WY (fs:=za (zq zo (za (zd 0) (za (zd 1) (za (eOp zG (zd 3) (eC (.int 1))) zh)))) zh) (τ:=qSt ns a x most [] 0 none none) (j:=N)
  (by simp only[qSt,zv,zQ,yn,yD,yQ,zD,getElem?_cons_zero,getElem?_cons_succ,zA,Rs.bind_ok,xD,dk,xF]) (by omega) (by omega)
 obtain⟨τ',l1,q,p,s1,s2,rfl,l2,l3,l4⟩:=ju (set:=gNm 6) (body:=XR) (fun (k:Nat)=>D.int (0+k)) (fun k τ=>∃q p s1 s2,τ=qSt ns a x most q p s1 s2∧q.length≤k∧(∀c∈q,c∈QS)∧0≤p) N.toNat (qSt ns a x most [] 0 none none)
  ⟨[],0,none,none,rfl,le_refl _,(fun _ h=>nomatch h),Int.le_refl _⟩ fun k τ hk ⟨q,p,s1,s2,e,h1,h2,h3⟩=>by
   subst e
   obtain⟨q',p',s',g1,g2,g3,g4⟩:=WZ ns a x most q p k s2 h63 h0 ha (by omega) hx0 hx1 hx (by omega) h2 h3
   exact⟨_,_,jB,g1,q',p',_,s',rfl,by omega,g3,g4⟩
 refine⟨q,by omega,l3,?_⟩
 have s0:qSt ns a x most [] 0 none none=[some (.val (.scr ns)),some (.val (.int a)),some (.val (.str ⟨x.toArray⟩)),some (.val (.int most)),some (.val (.str "")),some (.val (.int 0)),none,none]:=rfl
 unfold xl ja
 rw[yk,st,zL,zT,yD,Fl.of_ok,ym,zL,zT,yD,Fl.of_ok,ym,zL,vc]
 simp only[set_cons_succ,set_cons_zero]
 rw[← s0,r1,Fl.of_ok]
 unfold uu
 have l1':xc (gNm 6) XR ((List.range N.toNat).map fun (k:Nat)=>D.int (0+k)) (qSt ns a x most [] 0 none none)=.nx (qSt ns a x most q p s1 s2):=l1
 unfold XR at l1'
 rw[l1',ym]
 simp only[qSt,zU,zD,getElem?_cons_zero,getElem?_cons_succ,zA,Fl.of_ok,zJ]
def xS(c d:Nat):Bool:=c==d||(decide (97≤c∧c≤122)&&up1 c==d)
theorem G1:("abcdefghijklmnopqrstuvwxyz" : Str).cps.toList=(List.range 26).map (· + 97):=by decide +kernel
theorem vW(c:Nat):decide (c∈("abcdefghijklmnopqrstuvwxyz" : Str).cps.toList)=decide (97≤c∧c≤122):=by
 rw[G1]
 apply decide_eq_decide.mpr
 rw[mem_map]
 constructor
 ·rintro⟨i,hi,rfl⟩
  have:=mem_range.mp hi
  omega
 ·intro h
  exact⟨c-97,mem_range.mpr (by omega),by omega⟩
theorem Uv(c:Nat)(h:c<128):Txt.upper (⟨#[c]⟩:Str)=⟨#[up1 c]⟩:=by
 rw[upper_ascii (x:=⟨#[c]⟩) (by intro d hd;have e:d=c:=(by simpa using hd);omega)]
 simp
theorem W7(c d:Nat):((⟨#[c]⟩:Str)==⟨#[d]⟩)=(c==d):=by
 rw[Bool.eq_iff_iff]
 simp
theorem X7(c d:Nat)(hc:c<128):xO [yc c,yc d]=.ok (.bl (xS c d)):=by
 have st:zX 2 [yc c,yc d]=[some (.val (yc c)),some (.val (yc d))]:=rfl
 have hup:upD (.str ⟨#[c]⟩) []=.ok (.str ⟨#[up1 c]⟩):=by
  simp only[upD]
  rw[if_pos (by show 1≤5000000;decide),Uv _ hc]
 unfold xO Uq
 rw[yk,st]
 simp only[zU,Ge,Ta,yn,zD,yD,Uj,getElem?_cons_zero,getElem?_cons_succ,zA,Rs.bind_ok,yc,Gc,W7,uE,ZV,xU,vW,Yk,decide_true,if_true,hup]
 unfold xS
 by_cases h:c=d
 ·subst h;simp
 ·have hb:(c==d)=false:=by simpa using h
  simp only[hb,Bool.false_eq_true,if_false,Bool.false_or]
  by_cases h2:97≤c∧c≤122
  ·simp[h2]
  ·simp[h2]
end Law
set_option Elab.async false
set_option linter.all false
set_option maxHeartbeats 1000000
namespace FD
open PySem PySem.Spec PyProof.Rows L2
section
variable{τ:DS}{fa fb fe fi:FE}{fs:FA}{n:Nat}{i:Int}
theorem Gf:Wu n τ=(Wp τ[n]?).bind fun ds=>.ok (.int ds.length):=rfl
theorem uK:XN n fe τ=Fl.of (Wp τ[n]?) fun ds=>Fl.of (fe τ) fun d=>if ds.length<sizeLine then .nx (τ.set n (some (.own (ds++[d])))) else .no:=rfl
theorem Xl:xP fe τ=(fe τ).bind V7:=rfl
@[simp] theorem QV{ds:List D}:V7 (.lst ds)=.ok ds:=rfl
def putAt(n:Nat)(ds:List D)(d:D)(τ:DS):D→Fl
 |.int k=>match ixN ds.length k with
  |some j=>.nx (τ.set n (some (.own (ds.set j d))))
  |none=>.no
 |_=>.no
theorem Y4:UI n fi fe τ=Fl.of (fe τ) fun d=>Fl.of (Wp τ[n]?) fun ds=>Fl.of (fi τ) (putAt n ds d τ):=by
 unfold UI ue
 cases fe τ <;> rfl
theorem JZ{ds:List D}{d:D}{j:Nat}(h:j<ds.length):putAt n ds d τ (.int j)=.nx (τ.set n (some (.own (ds.set j d)))):=by
 have:ixN ds.length (j:Int)=some j:=by
  unfold ixN
  rw[if_pos (by omega),if_pos (by omega)]
  simp
 simp only[putAt,this]
def ixO(ds:List D):D→Rs D
 |.int k=>match atI ds k with
  |some d=>.ok d
  |none=>.no
 |_=>.no
theorem M9:Jk n fi τ=(Wp τ[n]?).bind fun ds=>(fi τ).bind (ixO ds):=by
 unfold Jk
 show(Wp τ[n]?).bind _=_
 cases Wp τ[n]? <;> rfl
end
end FD
namespace Law
open PySem PySem.Spec PyProof.Rows L2 FD
abbrev tx(x:List Nat):D:=.str ⟨x.toArray⟩
abbrev nts(x:List Nat):D:=.lst (x.map fun (k:Nat)=>D.int k)
theorem um(x:List Nat)(h:x.length≤1000):yR [tx x]=.ok (.int x.length):=by
 rw[Wd (by rw[zV];show x.toArray.size≤_;simp;omega)]
 show Rs.ok (D.int ((x.toArray.size:Nat):Int))=_
 simp
theorem tx_ix(x:List Nat)(j:Nat)(c:Nat)(h:x[j]?=some c)(hl:x.length≤1000):ixD (tx x) (.int j)=.ok (yc c):=by
 refine Ze (Z9 (by omega) (by simpa using h)) (by rw[zV];show x.toArray.size≤_;simp;omega)
abbrev its(x:List Int):D:=.lst (x.map D.int)
theorem wV{set:FG}{fe:FE}{τ:DS}{α β:Type}(f:α→D)(g:β→D)(h:α→β):∀(xs:List α),(∀a∈xs,∃τ1,set (f a) τ=.ok τ1∧fe τ1=.ok (g (h a)))→wW set (fun _=>.ok true) fe τ (xs.map f)=.ok ((xs.map h).map g)
 |[],_=>rfl
 |a::xs,hs=>by
  obtain⟨τ1,h1,h2⟩:=hs a (mem_cons_self ..)
  rw[map_cons,wW,h1]
  simp only[h2,wV f g h xs fun b hb=>hs b (mem_cons_of_mem _ hb),Rs.bind_ok,map_cons]
end Law
set_option Elab.async false
set_option linter.all false
set_option maxHeartbeats 1000000
namespace FD
open PySem PySem.Spec PyProof.Rows L2
theorem LM(x:List Nat):(⟨x.toArray⟩:Str).length=x.length:=by show x.toArray.size=_;simp
theorem x8{set:FG}{ft:FT}{fe:FE}{τ:DS}{α:Type}(f g:α→D)(p:α→Bool):∀(xs:List α),(∀a∈xs,∃τ1,set (f a) τ=.ok τ1∧ft τ1=.ok (p a)∧fe τ1=.ok (g a))→wW set ft fe τ (xs.map f)=.ok ((xs.filter p).map g)
 |[],_=>rfl
 |a::xs,hs=>by
  obtain⟨τ1,h1,h2,h3⟩:=hs a (mem_cons_self ..)
  have ih:=x8 f g p xs fun b hb=>hs b (mem_cons_of_mem _ hb)
  rw[map_cons,wW,h1]
  cases hp:p a
  ·rw[hp] at h2
   simp only[h2,ih,List.filter_cons,hp,Bool.false_eq_true,if_false]
  ·rw[hp] at h2
   simp only[h2,h3,ih,List.filter_cons,hp,if_true,Rs.bind_ok,map_cons]
end FD
namespace Law
open PySem PySem.Spec PyProof.Rows L2 FD
theorem f1:∀a∈QS,∀c∈NS,xS (lo1 a) c=xS (lo1 a) (lo1 c):=by decide
theorem f2:∀a∈QS,∀c∈NS,xS a c=true→xS (lo1 a) c=true:=by decide
theorem f3:∀a∈QS,∀c∈NS,xS a c=true→lo1 c=lo1 a:=by decide
theorem f5:∀c∈NS,c<128∧lo1 c<128:=by decide
theorem f6:∀c∈QS,c<128∧lo1 c<128:=by decide
structure Lay(q x l:List Nat):Prop where
 len:l.length=q.length
 ris:∀j,j+1<l.length→l.getD j 0<l.getD (j+1) 0
 inn:∀j,j<l.length→l.getD j 0<x.length
 met:∀j,j<l.length→xS (q.getD j 0) (x.getD (l.getD j 0) 0)=true
def Tk(x:List Nat)(p:Nat):Int:=if p=0 then 8 else if x.getD (p-1) 0∈MK then 6 else if (65≤x.getD p 0∧x.getD p 0≤90)∧((97≤x.getD (p-1) 0∧x.getD (p-1) 0≤122)∨(48≤x.getD (p-1) 0∧x.getD (p-1) 0≤57)) then 5 else 0
def ZC(a:Nat)(x:List Nat)(p:Nat):Int:=10+Tk x p+(if x.getD p 0=a then 1 else 0)
def QF(p:Nat):Int:=-(if (p:Int)<3 then (p:Int) else 3)
def ZK(r p:Nat):Int:=if (p:Int)-r-1=0 then 7 else -(if (p:Int)-r-1<5 then (p:Int)-r-1 else 5)
abbrev Tl:=Int×List Nat
def uh:List Tl→Option Tl→Option Tl
 |[],c=>c
 |t::r,none=>uh r (some t)
 |t::r,some c=>uh r (some (if c.1<t.1 then t else c))
def ZL(a:Nat)(x:List Nat):List Tl:=((List.range x.length).filter fun p=>xS a (x.getD p 0)).map fun p=>(ZC a x p,[p])
def uV(p:Nat)(ts:List Tl):List Tl:=(ts.filter fun t=>decide (p<t.2.getD 0 0)).map fun t=>(t.1+ZK p (t.2.getD 0 0),t.2)
def ZJ(a:Nat)(x:List Nat)(ts:List Tl)(p:Nat):Option Tl:=if xS a (x.getD p 0)=true then (uh (uV p ts) none).map fun t=>(ZC a x p+t.1,p::t.2) else none
def YF(a:Nat)(x:List Nat)(ts:List Tl):List Tl:=(List.range x.length).filterMap (ZJ a x ts)
def yL:List Nat→List Nat→List Tl
 |[],_=>[]
 |[a],x=>ZL a x
 |a::b::q,x=>YF a x (yL (b::q) x)
def QE(t:Tl):Tl:=(t.1+QF (t.2.getD 0 0),t.2)
def Gw(q x:List Nat):Option Tl:=uh ((yL q x).map QE) none
theorem v8:∀(ts:List Tl) (c:Option Tl) (t:Tl),uh ts c=some t→t∈ts∨c=some t
 |[],c,t,h=>.inr h
 |u::r,none,t,h=>by
  rcases v8 r (some u) t h with h|h
  ·exact .inl (mem_cons_of_mem _ h)
  ·cases h;exact .inl (mem_cons_self ..)
 |u::r,some c,t,h=>by
  rcases v8 r _ t h with h|h
  ·exact .inl (mem_cons_of_mem _ h)
  ·by_cases g:c.1<u.1
   ·rw[if_pos g] at h;cases h;exact .inl (mem_cons_self ..)
   ·rw[if_neg g] at h;exact .inr h
def sm(f:Nat→Int):Nat→Int
 |0=>0
 |n+1=>sm f n+f n
theorem VD(f:Nat→Int):∀n,sm f (n+1)=f 0+sm (fun j=>f (j+1)) n
 |0=>by simp[sm]
 |n+1=>by rw[sm,VD f n,sm];omega
def trk(x:List Nat)(r:Nat)(q l:List Nat)(j:Nat):Int:=ZC (q.getD j 0) x (l.getD j 0)+ZK (if j=0 then r else l.getD (j-1) 0) (l.getD j 0)
theorem JD(a p r:Nat)(q x l:List Nat)(j:Nat):trk x r (a::q) (p::l) (j+1)=trk x p q l j:=by
 simp only[trk,List.getD_cons_succ,Nat.succ_ne_zero,if_false,Nat.add_sub_cancel]
 cases j with
 |zero=>rw[if_pos rfl,List.getD_cons_zero]
 |succ j=>rw[if_neg (Nat.succ_ne_zero j),List.getD_cons_succ,Nat.add_sub_cancel]
def XC(x:List Nat):List Nat→List Nat→Int
 |a::q,p::l=>ZC a x p+sm (trk x p q l) l.length
 |_,_=>0
theorem Uz(a b p r:Nat)(q x l:List Nat):XC x (a::b::q) (p::r::l)=ZC a x p+ZK p r+XC x (b::q) (r::l):=by
 simp only[XC,length_cons]
 rw[VD,funext (JD b r p q x l)]
 simp only[trk,if_true,List.getD_cons_zero]
 omega
theorem Lay.one{a p:Nat}{x:List Nat}(h1:p<x.length)(h2:xS a (x.getD p 0)=true):Lay [a] x [p]:=by
 have z:∀j,j<[p].length→j=0:=fun j hj=>by simpa using hj
 exact⟨rfl,fun j hj=>by simp at hj,fun j hj=>by rw[z j hj];exact h1,fun j hj=>by rw[z j hj];exact h2⟩
theorem Lay.cons{a p:Nat}{q x l:List Nat}(h:Lay q x l)(h1:p<x.length)(h2:xS a (x.getD p 0)=true)(h3:0<l.length→p<l.getD 0 0):Lay (a::q) x (p::l):=by
 refine⟨by simp[h.len],fun j hj=>?_,fun j hj=>?_,fun j hj=>?_⟩
 ·cases j with
  |zero=>simpa using h3 (by simpa using hj)
  |succ j=>simpa using h.ris j (by simpa using hj)
 ·cases j with
  |zero=>simpa using h1
  |succ j=>simpa using h.inn j (by simpa using hj)
 ·cases j with
  |zero=>exact h2
  |succ j=>simpa using h.met j (by simpa using hj)
theorem jG(x:List Nat):∀(q:List Nat) (t:Tl),t∈yL q x→Lay q x t.2∧t.1=XC x q t.2
 |[],t,h=>by simp[yL] at h
 |[a],t,h=>by
  simp only[yL,ZL,mem_map,mem_filter,mem_range] at h
  obtain⟨p,⟨h1,h2⟩,rfl⟩:=h
  exact⟨Lay.one h1 h2,by simp[XC,sm]⟩
 |a::b::q,t,h=>by
  simp only[yL,YF,List.mem_filterMap,mem_range] at h
  obtain⟨p,h1,h2⟩:=h
  unfold ZJ at h2
  split at h2
  ·rename_i hm
   cases e:uh (uV p (yL (b::q) x)) none with
   |none=>rw[e] at h2;cases h2
   |some u=>
    rw[e] at h2
    have h2:some (ZC a x p+u.1,p::u.2)=some t:=h2
    cases h2
    rcases v8 _ _ _ e with g|g
    ·simp only[uV,mem_map,mem_filter,decide_eq_true_eq] at g
     obtain⟨v,⟨g1,g2⟩,rfl⟩:=g
     obtain⟨k1,k2⟩:=jG x (b::q) v g1
     refine⟨k1.cons h1 hm fun _=>g2,?_⟩
     have hl:=k1.len
     cases e2:v.2 with
     |nil=>rw[e2] at hl;simp at hl
     |cons r l=>
      rw[e2] at k2
      simp only[List.getD_cons_zero]
      rw[Uz,k2]
      omega
    ·cases g
  ·cases h2
end Law
set_option Elab.async false
set_option linter.all false
set_option maxHeartbeats 1000000
namespace FD
open PySem PySem.Spec PyProof.Rows L2
def negI:D→Rs D
 |.int i=>.ok (.int (-i))
 |_=>.no
@[simp] theorem Qu{i:Int}:negI (.int i)=.ok (.int (-i)):=rfl
theorem Zh{fa:FE}{τ:DS}:x6 fa τ=(fa τ).bind negI:=by
 unfold x6
 show(fa τ).bind _=_
 cases fa τ with
 |ok d=>cases d <;> rfl
 |_=>rfl
theorem Qx(i j:Int):uU [.int i,.int j]=.ok (.int (if j<i then j else i)):=rfl
theorem Ui{fe:FE}{τ:DS}:Jj fe τ=(fe τ).bind G7:=rfl
end FD
namespace Law
open PySem PySem.Spec PyProof.Rows L2 FD
abbrev tlD(t:Tl):D:=.tup [.int t.1,nts t.2]
def ub:Option Tl→D
 |none=>.non
 |some t=>tlD t
theorem Ux(t:Tl):ixD (tlD t) (.int 0)=.ok (.int t.1):=rfl
theorem Uw(t:Tl):ixD (tlD t) (.int 1)=.ok (nts t.2):=rfl
theorem LI(l:List Nat)(j:Nat)(h:j<l.length):ixD (nts l) (.int (j:Int))=.ok (.int (l.getD j 0:Nat)):=by
 refine V6 (Z9 (by omega) ?_)
 simp[getD_eq_getElem?_getD,getElem?_eq_getElem h]
theorem Xe(l:List Nat)(h:0<l.length):ixD (nts l) (.int 0)=.ok (.int (l.getD 0 0:Nat)):=LI l 0 h
theorem u3(x:List Nat)(j:Nat)(h:j<x.length):x[j]?=some (x.getD j 0):=by
 rw[getD_eq_getElem?_getD,getElem?_eq_getElem h];rfl
theorem Yo(x:List Nat)(j:Nat)(h:j<x.length)(hx:x.length≤1000):ixD (tx x) (.int (j:Int))=.ok (yc (x.getD j 0)):=tx_ix x j _ (u3 x j h) hx
theorem M1:("ABCDEFGHIJKLMNOPQRSTUVWXYZ" : Str).cps.toList=(List.range 26).map (· + 65):=by decide +kernel
theorem za5:("0123456789" : Str).cps.toList=(List.range 10).map (· + 48):=by decide +kernel
theorem VE(c n a:Nat):decide (c∈(List.range (n+1)).map (· + a))=decide (a≤c∧c≤n+a):=by
 apply decide_eq_decide.mpr
 rw[mem_map]
 constructor
 ·rintro⟨i,hi,rfl⟩
  have:=mem_range.mp hi
  omega
 ·intro h
  exact⟨c-a,mem_range.mpr (by omega),by omega⟩
theorem v7(c:Nat):decide (c∈("ABCDEFGHIJKLMNOPQRSTUVWXYZ" : Str).cps.toList)=decide (65≤c∧c≤90):=by
 rw[M1];exact VE c 25 65
theorem ZY(c:Nat):decide (c∈("0123456789" : Str).cps.toList)=decide (48≤c∧c≤57):=by
 rw[za5];exact VE c 9 48
theorem zb6(x:List Nat)(p:Nat)(hx:x.length≤1000)(hp:p<x.length):yu [tx x,.int (p:Int)]=.ok (.int (Tk x p)):=by
 have st:zX 3 [tx x,.int (p:Int)]=[some (.val (tx x)),some (.val (.int (p:Int))),none]:=rfl
 unfold yu wC
 rw[yk,st]
 cases p with
 |zero=>
  simp only[zL,yI,zU,zZ,xJ,yn,zD,yD,getElem?_cons_zero,getElem?_cons_succ,zA,Rs.bind_ok,Fl.of_ok,jf,zJ,zY,vC,if_true,show((((0:Nat):Int))==0)=true from rfl]
  rfl
 |succ k=>
  have e0:(((k+1:Nat):Int)==0)=false:=by simp;omega
  have e1:((k+1:Nat):Int)-1=(k:Int):=by omega
  have hk:=Yo x k (by omega) hx
  have hk1:=Yo x (k+1) hp hx
  have hb:Tk x (k+1)=if x.getD k 0∈MK then 6 else if (65≤x.getD (k+1) 0∧x.getD (k+1) 0≤90)∧((97≤x.getD k 0∧x.getD k 0≤122)∨(48≤x.getD k 0∧x.getD k 0≤57)) then 5 else 0:=by
   unfold Tk;rw[if_neg (Nat.succ_ne_zero k)];rfl
  rw[hb]
  generalize x.getD k 0=c at *
  generalize x.getD (k+1) 0=d at *
  simp only[yc] at hk hk1
  by_cases h1:c∈MK
  ·simp only[zL,zT,yI,zU,zZ,xJ,yn,zD,yD,getElem?_cons_zero,getElem?_cons_succ,set_cons_succ,set_cons_zero,zA,Rs.bind_ok,Fl.of_ok,ym,jf,zJ,zY,wm,vC,if_true,Bool.false_eq_true,if_false,e0,e1,hk,ZV,xU,U1,h1,decide_true]
  ·by_cases h2:65≤d∧d≤90
   ·by_cases h3:97≤c∧c≤122
    ·have h4:(65≤d∧d≤90)∧((97≤c∧c≤122)∨(48≤c∧c≤57)):=⟨h2,.inl h3⟩
     rw[if_neg h1,if_pos h4]
     simp only[zL,zT,yI,zU,zZ,xJ,uG,vH,yn,zD,yD,getElem?_cons_zero,getElem?_cons_succ,set_cons_succ,set_cons_zero,zA,Rs.bind_ok,Fl.of_ok,ym,jf,zJ,zY,wm,vC,if_true,Bool.false_eq_true,if_false,e0,e1,hk,hk1,ZV,xU,U1,h1,decide_false,v7,vW,ZY,h2,h3,and_self,decide_true]
    ·by_cases h5:48≤c∧c≤57
     ·have h4:(65≤d∧d≤90)∧((97≤c∧c≤122)∨(48≤c∧c≤57)):=⟨h2,.inr h5⟩
      rw[if_neg h1,if_pos h4]
      simp only[zL,zT,yI,zU,zZ,xJ,uG,vH,yn,zD,yD,getElem?_cons_zero,getElem?_cons_succ,set_cons_succ,set_cons_zero,zA,Rs.bind_ok,Fl.of_ok,ym,jf,zJ,zY,wm,vC,if_true,Bool.false_eq_true,if_false,e0,e1,hk,hk1,ZV,xU,U1,h1,decide_false,v7,vW,ZY,decide_eq_true h2,decide_eq_false h3,decide_eq_true h5]
     ·have h4:¬ ((65≤d∧d≤90)∧((97≤c∧c≤122)∨(48≤c∧c≤57))):=fun h=>by rcases h.2 with h|h;exact h3 h;exact h5 h
      rw[if_neg h1,if_neg h4]
      simp only[zL,zT,yI,zU,zZ,xJ,uG,vH,yn,zD,yD,getElem?_cons_zero,getElem?_cons_succ,set_cons_succ,set_cons_zero,zA,Rs.bind_ok,Fl.of_ok,ym,zJ,zY,wm,vC,if_true,Bool.false_eq_true,if_false,e0,e1,hk,hk1,ZV,xU,U1,h1,decide_false,v7,vW,ZY,decide_eq_true h2,decide_eq_false h3,decide_eq_false h5]
   ·have h4:¬ ((65≤d∧d≤90)∧((97≤c∧c≤122)∨(48≤c∧c≤57))):=fun h=>h2 h.1
    rw[if_neg h1,if_neg h4]
    simp only[zL,zT,yI,zU,zZ,xJ,uG,vH,yn,zD,yD,getElem?_cons_zero,getElem?_cons_succ,set_cons_succ,set_cons_zero,zA,Rs.bind_ok,Fl.of_ok,ym,zJ,zY,wm,vC,Bool.false_eq_true,if_false,e0,e1,hk,hk1,ZV,xU,U1,h1,decide_false,v7,decide_eq_false h2]
theorem Qi(a:Nat)(x:List Nat)(p:Nat)(hx:x.length≤1000)(hp:p<x.length):yr [yc a,tx x,.int (p:Int)]=.ok (.int (ZC a x p)):=by
 have st:zX 4 [yc a,tx x,.int (p:Int)]=[some (.val (yc a)),some (.val (tx x)),some (.val (.int (p:Int))),none]:=rfl
 have hk:=Yo x p hp hx
 have hb:=zb6 x p hx hp
 unfold yr u9 ZC
 rw[yk,st]
 simp only[yc] at hk ⊢
 by_cases h:x.getD p 0=a
 ·have h':(x.getD p 0==a)=true:=by simpa using h
  rw[if_pos h]
  simp only[zL,zT,zU,xJ,yn,zD,yD,zQ,zv,yQ,Gg,getElem?_cons_zero,getElem?_cons_succ,set_cons_succ,set_cons_zero,zA,Rs.bind_ok,Fl.of_ok,ym,zJ,xF,zY,xD,Gc,if_true,hk,W7,h',hb]
 ·have h':(x.getD p 0==a)=false:=by simpa using h
  rw[if_neg h]
  simp only[zL,zT,zU,xJ,yn,zD,yD,zQ,zv,yQ,Gg,getElem?_cons_zero,getElem?_cons_succ,set_cons_succ,set_cons_zero,zA,Rs.bind_ok,Fl.of_ok,ym,zJ,xF,zY,xD,Gc,Bool.false_eq_true,if_false,hk,W7,h',hb]
theorem MN(p:Nat):yK [.int (p:Int)]=.ok (.int (QF p)):=by
 have st:zX 1 [.int (p:Int)]=[some (.val (.int (p:Int)))]:=rfl
 unfold yK ul QF
 rw[yk,st]
 simp only[zU,zD,yD,zQ,zv,v9,getElem?_cons_zero,zA,Rs.bind_ok,Fl.of_ok,zJ,Qx,Zh,Qu]
 congr 3
 split <;> split <;> omega
theorem MI(r p:Nat):y0 [.int (r:Int),.int (p:Int)]=.ok (.int (ZK r p)):=by
 have st:zX 3 [.int (r:Int),.int (p:Int)]=[some (.val (.int (r:Int))),some (.val (.int (p:Int))),none]:=rfl
 unfold y0 uk ZK
 rw[yk,st]
 by_cases h:(p:Int)-r-1=0
 ·have h':((p:Int)-r-1==0)=true:=by simpa using h
  rw[if_pos h]
  simp only[zL,zT,yI,zU,zZ,xJ,yn,zD,yD,getElem?_cons_zero,getElem?_cons_succ,set_cons_succ,set_cons_zero,zA,Rs.bind_ok,Fl.of_ok,ym,jf,zJ,zY,wm,vC,if_true,h']
 ·have h':((p:Int)-r-1==0)=false:=by simpa using h
  rw[if_neg h]
  simp only[zL,zT,yI,zU,zZ,xJ,yn,zD,yD,zQ,zv,v9,getElem?_cons_zero,getElem?_cons_succ,set_cons_succ,set_cons_zero,zA,Rs.bind_ok,Fl.of_ok,ym,zJ,zY,wm,vC,Bool.false_eq_true,if_false,h',Qx,Zh,Qu]
  congr 3
  split <;> split <;> omega
end Law
set_option Elab.async false
set_option linter.all false
set_option maxHeartbeats 1000000
namespace FD
open PySem PySem.Spec PyProof.Rows L2
theorem La{fs:FA}{τ:DS}{i j:Int}(h:fs τ=.ok [.int i,.int j,.int (-1)])(h1 : -(2 ^ 62)≤i)(h2:i<2 ^ 62)(h3 : -(2 ^ 62)≤j)(h4:j<2 ^ 62):Jc fs τ=.ok (jI i (i-j).toNat):=by
 unfold Jc
 rw[h]
 simp only[Rs.bind_ok,Wi]
 rw[if_pos ⟨⟨h1,h2⟩,h3,h4⟩]
end FD
namespace Law
open PySem PySem.Spec PyProof.Rows L2 FD
def jC:FS:=(sIf (XD (FD.tB (eOp isD (zd 1) (eC .non))) (FD.tB (eOp gtD (eOp ixD (zd 2) (eC (.int 0))) (eOp ixD (zd 1) (eC (.int 0)))))) (yd 1 (zd 2)) yv)
theorem L4:isD .non .non=.ok (.bl true):=rfl
theorem TD(t:Tl):isD (tlD t) .non=.ok (.bl false):=rfl
theorem YM:vp .non .non=.ok (.bl false):=rfl
theorem We(t:Tl):vp (tlD t) .non=.ok (.bl true):=rfl
theorem Xm(z:D):∀(ts:List Tl) (c:Option Tl) (s:Option Sl),∃s',xc (gNm 2) jC (ts.map tlD) [some (.val z),some (.val (ub c)),s]=.nx [some (.val z),some (.val (ub (uh ts c))),s']
 |[],c,s=>⟨s,rfl⟩
 |t::ts,none,s=>by
  obtain⟨s',ih⟩:=Xm z ts (some t) (some (.val (tlD t)))
  refine⟨s',?_⟩
  have:jC [some (.val z),some (.val (ub none)),some (.val (tlD t))]=.nx [some (.val z),some (.val (ub (some t))),some (.val (tlD t))]:=by
   unfold jC ub
   simp only[zT,yI,zZ,xJ,vH,yn,zD,yD,getElem?_cons_zero,getElem?_cons_succ,set_cons_succ,set_cons_zero,zA,Rs.bind_ok,Fl.of_ok,zY,if_true,L4]
  rw[map_cons,xc,jB,Fl.of_ok]
  simp only[set_cons_succ,set_cons_zero,this]
  rw[ih]
  rfl
 |t::ts,some c,s=>by
  obtain⟨s',ih⟩:=Xm z ts (some (if c.1<t.1 then t else c)) (some (.val (tlD t)))
  refine⟨s',?_⟩
  have:jC [some (.val z),some (.val (ub (some c))),some (.val (tlD t))]=.nx [some (.val z),some (.val (ub (some (if c.1<t.1 then t else c)))),some (.val (tlD t))]:=by
   unfold jC ub
   by_cases h:c.1<t.1
   ·rw[if_pos h]
    simp only[zT,yI,zZ,xJ,vH,yn,zD,yD,getElem?_cons_zero,getElem?_cons_succ,set_cons_succ,set_cons_zero,zA,Rs.bind_ok,Fl.of_ok,zY,Ue,if_true,Bool.false_eq_true,if_false,TD,Ux,h,decide_true]
   ·rw[if_neg h]
    simp only[zT,yI,zZ,xJ,vH,yn,zD,yD,getElem?_cons_zero,getElem?_cons_succ,set_cons_succ,set_cons_zero,zA,Rs.bind_ok,Fl.of_ok,zY,Ue,Bool.false_eq_true,if_false,TD,Ux,h,decide_false]
  rw[map_cons,xc,jB,Fl.of_ok]
  simp only[set_cons_succ,set_cons_zero,this]
  rw[ih]
  rfl
theorem TR(ts:List Tl):zH [.lst (ts.map tlD)]=.ok (ub (uh ts none)):=by
 have st:zX 3 [.lst (ts.map tlD)]=[some (.val (.lst (ts.map tlD))),none,none]:=rfl
 obtain⟨s',h⟩:=Xm (.lst (ts.map tlD)) ts none none
 unfold jC at h
 unfold zH vD
 rw[yk,st]
 simp only[ub] at h
 simp only[zL,zT,zU,vc,Xl,QV,zD,yD,getElem?_cons_zero,getElem?_cons_succ,set_cons_succ,set_cons_zero,zA,Rs.bind_ok,Fl.of_ok,ym,zJ,h]
 rfl
theorem size2:∀a b:D,([a,b]:List D).length≤sizeLine:=fun a b=>by rw[zV];exact Nat.le_of_ble_eq_true rfl
theorem size1:∀a:D,([a]:List D).length≤sizeLine:=fun a=>by rw[zV];exact Nat.le_of_ble_eq_true rfl
theorem Xz{fa fb:FE}{τ:DS}{a b:D}(h1:fa τ=.ok a)(h2:fb τ=.ok b):xQ (za fa (za fb zh)) τ=.ok (.tup [a,b]):=by
 rw[Uh,zv,h1,Rs.bind_ok,zv,h2,Rs.bind_ok,zQ,Rs.bind_ok,Rs.bind_ok,Rs.bind_ok]
 exact if_pos (size2 a b)
theorem Qy{fa:FE}{τ:DS}{a:D}(h1:fa τ=.ok a):vF (za fa zh) τ=.ok (.lst [a]):=by
 rw[Xo,zv,h1,Rs.bind_ok,zQ,Rs.bind_ok,Rs.bind_ok]
 exact if_pos (size1 a)
theorem TV{f:List D→Rs D}{fa:FE}{τ:DS}{a d:D}(h1:fa τ=.ok a)(h:f [a]=.ok d):zq f (za fa zh) τ=.ok d:=by
 rw[yQ,zv,h1,Rs.bind_ok,zQ,Rs.bind_ok,Rs.bind_ok,h];rfl
theorem u8{f:List D→Rs D}{fa fb:FE}{τ:DS}{a b d:D}(h1:fa τ=.ok a)(h2:fb τ=.ok b)(h:f [a,b]=.ok d):zq f (za fa (za fb zh)) τ=.ok d:=by
 rw[yQ,zv,h1,Rs.bind_ok,zv,h2,Rs.bind_ok,zQ,Rs.bind_ok,Rs.bind_ok,Rs.bind_ok,h];rfl
theorem vR{f:List D→Rs D}{fa fb fc:FE}{τ:DS}{a b c d:D}(h1:fa τ=.ok a)(h2:fb τ=.ok b)(h3:fc τ=.ok c)(h:f [a,b,c]=.ok d):zq f (za fa (za fb (za fc zh))) τ=.ok d:=by
 rw[yQ,zv,h1,Rs.bind_ok,zv,h2,Rs.bind_ok,zv,h3,Rs.bind_ok,zQ,Rs.bind_ok,Rs.bind_ok,Rs.bind_ok,Rs.bind_ok,h];rfl
theorem op2{op:D→D→Rs D}{fa fb:FE}{τ:DS}{a b:D}{r:Rs D}(h1:fa τ=.ok a)(h2:fb τ=.ok b)(h:op a b=r):eOp op fa fb τ=r:=by
 rw[yn,h1,Rs.bind_ok,h2,Rs.bind_ok,h]
theorem zj{n:Nat}{τ:DS}{d:D}(h:τ[n]?=some (some (.val d))):zd n τ=.ok d:=by rw[zD,h];rfl
theorem wk{k:Nat}{idx:List Nat}{fi:FA}{set:FG}{ft:FT}{fe:FE}{τ:DS}{ds xs:List D}(h1:fi τ=.ok ds)(h2:wW set ft fe (wD k idx τ) ds=.ok xs)(h3:xs.length≤1000):xr k idx fi set ft fe τ=.ok xs:=by
 unfold xr
 rw[h1,Rs.bind_ok,h2]
 exact if_pos (by rw[zV];omega)
theorem tru_ok{fe:FE}{τ:DS}{b:Bool}(h:fe τ=.ok (.bl b)):Yb fe τ=.ok b:=by rw[uF,h];rfl
theorem ud{fe:FE}{τ:DS}{b:Bool}(h:fe τ=.ok (.bl b)):FD.tB fe τ=.ok b:=by rw[xJ,h];rfl
theorem Y6{fa:FE}{τ:DS}{n:Nat}(h:fa τ=.ok (.int (n:Int)))(hn:n≤1000):vq (za fa zh) τ=.ok ((List.range n).map fun (k:Nat)=>D.int (0+k)):=by
 rw[WY (j:=(n:Int)) (by rw[zv,h,Rs.bind_ok,zQ,Rs.bind_ok]) (by omega) (by omega),toNat_natCast];rfl
theorem vw{g:List D→Rs D}{fa:FE}{τ:DS}{a d:D}(h1:fa τ=.ok a)(h:g [a]=.ok d):yj g (za fa zh) τ=.ok d:=by
 rw[v9,zv,h1,Rs.bind_ok,zQ,Rs.bind_ok,Rs.bind_ok,h]
theorem Yj(a:Nat)(x:List Nat)(ha:a<128)(hx:x.length≤1000):yb [yc a,tx x]=.ok (.lst ((ZL a x).map tlD)):=by
 have st:zX 2 [yc a,tx x]=[some (.val (yc a)),some (.val (tx x))]:=rfl
 have cf:=x8 (set:=gNm 0) (ft:=(Yb (zq xO (za (zd 1) (za (eOp ixD (zd 2) (zd 0)) zh))))) (fe:=(xQ (za (zq yr (za (zd 1) (za (zd 2) (za (zd 0) zh)))) (za (vF (za (zd 0) zh)) zh)))) (τ:=[none,some (.val (yc a)),some (.val (tx x))])
  (fun (k:Nat)=>D.int (0+k)) (fun (p:Nat)=>tlD (ZC a x p,[p])) (fun p=>xS a (x.getD p 0)) (List.range x.length) fun p hp=>by
   have hp:=mem_range.mp hp
   refine⟨[some (.val (.int (p:Int))),some (.val (yc a)),some (.val (tx x))],by rw[Int.zero_add];rfl,?_,?_⟩
   ·exact tru_ok (u8 (zj rfl) (op2 (zj rfl) (zj rfl) (Yo x p hp hx)) (X7 a _ ha))
   ·exact Xz (vR (zj rfl) (zj rfl) (zj rfl) (Qi a x p hx hp)) (Qy (zj rfl))
 have hlen:(((List.range x.length).filter fun p=>xS a (x.getD p 0)).map fun (p:Nat)=>tlD (ZC a x p,[p])).length≤1000:=by
  rw[length_map]
  have:=length_filter_le (fun p=>xS a (x.getD p 0)) (List.range x.length)
  rw[length_range] at this;omega
 have ec:=wk (k:=1) (idx:=[0,1]) (fi:=vq (za (yj yR (za (zd 1) zh)) zh)) (τ:=[some (.val (yc a)),some (.val (tx x))]) (Y6 (vw (zj rfl) (um x hx)) hx) cf hlen
 unfold yb wL
 rw[yk,st,zU]
 simp only[ec,Rs.bind_ok,Fl.of_ok,zJ]
 unfold ZL
 rw[map_map]
 rfl
theorem U5(p:Nat)(ts:List Tl)(hs:ts.length≤1000)(hn:∀t∈ts,0<t.2.length):yz [.int (p:Int),.lst (ts.map tlD)]=.ok (.lst ((uV p ts).map tlD)):=by
 have st:zX 2 [.int (p:Int),.lst (ts.map tlD)]=[some (.val (.int (p:Int))),some (.val (.lst (ts.map tlD)))]:=rfl
 have cf:=x8 (set:=gNm 0) (ft:=(FD.tB (eOp gtD (eOp ixD (eOp ixD (zd 0) (eC (.int 1))) (eC (.int 0))) (zd 1)))) (fe:=(xQ (za (eOp zG (eOp ixD (zd 0) (eC (.int 0))) (zq y0 (za (zd 1) (za (eOp ixD (eOp ixD (zd 0) (eC (.int 1))) (eC (.int 0))) zh)))) (za (eOp ixD (zd 0) (eC (.int 1))) zh)))) (τ:=[none,some (.val (.int (p:Int)))])
  tlD (fun t=>tlD (t.1+ZK p (t.2.getD 0 0),t.2)) (fun t=>decide (p<t.2.getD 0 0)) ts fun t ht=>by
   refine⟨[some (.val (tlD t)),some (.val (.int (p:Int)))],rfl,?_,?_⟩
   ·have:=Xe t.2 (hn t ht)
    refine ud (op2 (op2 (op2 (zj rfl) rfl (Uw t)) rfl this) (zj rfl) ?_)
    rw[Ue]
    congr 2
    exact decide_eq_decide.mpr (by omega)
   ·have:=Xe t.2 (hn t ht)
    exact Xz (op2 (op2 (zj rfl) rfl (Ux t)) (u8 (zj rfl) (op2 (op2 (zj rfl) rfl (Uw t)) rfl this) (MI p _)) (xD)) (op2 (zj rfl) rfl (Uw t))
 have hlen:((ts.filter fun t=>decide (p<t.2.getD 0 0)).map fun t=>tlD (t.1+ZK p (t.2.getD 0 0),t.2)).length≤1000:=by
  rw[length_map]
  have:=length_filter_le (fun t:Tl=>decide (p<t.2.getD 0 0)) ts
  omega
 have it:xP (zd 1) [some (.val (.int (p:Int))),some (.val (.lst (ts.map tlD)))]=.ok (ts.map tlD):=rfl
 have ec:=wk (k:=1) (idx:=[0]) (τ:=[some (.val (.int (p:Int))),some (.val (.lst (ts.map tlD)))]) it cf hlen
 unfold yz vT
 rw[yk,st,zU]
 simp only[ec,Rs.bind_ok,Fl.of_ok,zJ]
 unfold uV
 rw[map_map]
 rfl
def jw:FS:=(sIf (Yb (zq xO (za (zd 0) (za (eOp ixD (zd 1) (zd 4)) zh)))) (zx (yd 5 (zq zH (za (zq yz (za (zd 4) (za (zd 2) zh))) zh)))
  (sIf (FD.tB (eOp vp (zd 5) (eC .non))) (XN 3 (xQ (za (eOp zG (zq yr (za (zd 0) (za (zd 1) (za (zd 4) zh)))) (eOp ixD (zd 5) (eC (.int 0)))) (za (eOp zG (vF (za (zd 4) zh)) (eOp ixD (zd 5) (eC (.int 1)))) zh)))) yv)) yv)
theorem Jr(p:Nat)(l:List Nat)(h:l.length≤1000):zG (.lst [.int (p:Int)]) (nts l)=.ok (nts (p::l)):=by
 show(if _ then Rs.ok (D.lst _) else Rs.no)=_
 rw[if_pos (by rw[zV,length_map,length_singleton];omega)]
 rfl
theorem QC(p:Nat)(ts:List Tl):∀t,uh (uV p ts) none=some t→∃u∈ts,t.2=u.2:=fun t h=>by
 rcases v8 _ _ _ h with g|g
 ·simp only[uV,mem_map,mem_filter] at g
  obtain⟨u,⟨g1,_⟩,rfl⟩:=g
  exact⟨u,g1,rfl⟩
 ·cases g
theorem MJ(a:Nat)(x:List Nat)(ts acc:List Tl)(p:Nat)(s5:Option Sl)(ha:a<128)(hx:x.length≤1000)(hs:ts.length≤1000)(hn:∀t∈ts,0<t.2.length∧t.2.length≤1000)(hp:p<x.length)(hc:acc.length≤1000) :
  ∃s',jw [some (.val (yc a)),some (.val (tx x)),some (.val (.lst (ts.map tlD))),some (.own (acc.map tlD)),some (.val (.int (p:Int))),s5]=.nx [some (.val (yc a)),some (.val (tx x)),some (.val (.lst (ts.map tlD))),some (.own ((acc++(ZJ a x ts p).toList).map tlD)),some (.val (.int (p:Int))),s']:=by
 have hm:=X7 a (x.getD p 0) ha
 have hlk:=U5 p ts hs fun t ht=>(hn t ht).1
 have hfm:=TR (uV p ts)
 have how:=Qi a x p hx hp
 have hix:=Yo x p hp hx
 have hsz:(acc.map tlD).length<sizeLine:=by rw[zV,length_map];omega
 unfold jw ZJ
 generalize xO=fa at hm ⊢
 generalize yz=fb at hlk ⊢
 generalize zH=fc at hfm ⊢
 generalize yr=fd at how ⊢
 by_cases h:xS a (x.getD p 0)=true
 ·rw[if_pos h]
  rw[h] at hm
  cases e:uh (uV p ts) none with
  |none=>
   rw[e] at hfm
   refine⟨some (.val .non),?_⟩
   simp only[zL,zT,yI,zZ,uK,xJ,uF,yn,zD,yD,zQ,zv,yQ,getElem?_cons_zero,getElem?_cons_succ,set_cons_succ,set_cons_zero,zA,xx,Rs.bind_ok,Fl.of_ok,ym,xF,zY,uE,if_true,Bool.false_eq_true,if_false,hix,hm,hlk,hfm,ub,YM,Option.map_none,Option.toList_none,append_nil]
  |some t=>
   rw[e] at hfm
   obtain⟨u,u1,u2⟩:=QC p ts t e
   have hct:=Jr p t.2 (by rw[u2];exact(hn u u1).2)
   refine⟨some (.val (tlD t)),?_⟩
   have tp:xQ (za (eOp zG (zq fd (za (zd 0) (za (zd 1) (za (zd 4) zh)))) (eOp ixD (zd 5) (eC (.int 0)))) (za (eOp zG (vF (za (zd 4) zh)) (eOp ixD (zd 5) (eC (.int 1)))) zh)) [some (.val (yc a)),some (.val (tx x)),some (.val (.lst (ts.map tlD))),some (.own (acc.map tlD)),some (.val (.int (p:Int))),some (.val (tlD t))]=.ok (tlD (ZC a x p+t.1,p::t.2)):=
    Xz (op2 (vR (zj rfl) (zj rfl) (zj rfl) how) (op2 (zj rfl) rfl (Ux t)) xD) (op2 (Qy (zj rfl)) (op2 (zj rfl) rfl (Uw t)) hct)
   simp only[zL,zT,yI,zZ,uK,xJ,uF,yn,zD,yD,zQ,zv,yQ,getElem?_cons_zero,getElem?_cons_succ,set_cons_succ,set_cons_zero,zA,xx,Rs.bind_ok,Fl.of_ok,ym,xF,zY,uE,if_true,hix,hm,hlk,hfm,ub,We,tp,hsz,Option.map_some,Option.toList_some,map_append,map_cons,map_nil]
 ·have h':xS a (x.getD p 0)=false:=by simpa using h
  rw[h'] at hm
  rw[if_neg h]
  refine⟨s5,?_⟩
  simp only[zL,zT,yI,zZ,uF,yn,zD,zQ,zv,yQ,getElem?_cons_zero,getElem?_cons_succ,set_cons_succ,set_cons_zero,zA,Rs.bind_ok,Fl.of_ok,xF,uE,Bool.false_eq_true,if_false,hix,hm,Option.toList_none,append_nil]
theorem ZX(f:Nat→Option Tl)(k:Nat):(List.range (k+1)).filterMap f=(List.range k).filterMap f++(f k).toList:=by
 rw[List.range_succ,List.filterMap_append]
 simp only[filterMap_cons,List.filterMap_nil]
 cases h:f k <;> rfl
theorem YE(f:Nat→Option Tl)(k:Nat):((List.range k).filterMap f).length≤k:=by
 have:=List.length_filterMap_le f (List.range k)
 rwa [length_range] at this
theorem ML(a:Nat)(x:List Nat)(ts:List Tl)(ha:a<128)(hx:x.length≤1000)(hs:ts.length≤1000)(hn:∀t∈ts,0<t.2.length∧t.2.length≤1000) :
  ∃s4 s5,xc (gNm 4) jw ((List.range x.length).map fun (k:Nat)=>D.int (0+k)) [some (.val (yc a)),some (.val (tx x)),some (.val (.lst (ts.map tlD))),some (.own []),none,none]=.nx [some (.val (yc a)),some (.val (tx x)),some (.val (.lst (ts.map tlD))),some (.own ((YF a x ts).map tlD)),s4,s5]:=by
 obtain⟨τ',h1,s4,s5,h2⟩:=ju (set:=gNm 4) (body:=jw) (fun (k:Nat)=>D.int (0+k)) (fun k τ=>∃s4 s5,τ=[some (.val (yc a)),some (.val (tx x)),some (.val (.lst (ts.map tlD))),some (.own (((List.range k).filterMap (ZJ a x ts)).map tlD)),s4,s5]) x.length
  [some (.val (yc a)),some (.val (tx x)),some (.val (.lst (ts.map tlD))),some (.own []),none,none] ⟨_,_,rfl⟩ fun k τ hk ⟨s4,s5,e⟩=>by
   subst e
   obtain⟨s',g⟩:=MJ a x ts ((List.range k).filterMap (ZJ a x ts)) k s5 ha hx hs hn hk (by have:=YE (ZJ a x ts) k;omega)
   have e0:(0:Int)+(k:Int)=(k:Int):=by omega
   rw[ZX]
   exact⟨_,_,by rw[e0];exact jB,g,_,_,rfl⟩
 subst h2
 exact⟨s4,s5,h1⟩
theorem L9(bd:FS)(ri:FA)(A B C:D)(n:Nat)(P:List D)(s4 s5:Option Sl)(r1:ri [some (.val A),some (.val B),some (.val C),some (.own []),none,none]=.ok ((List.range n).map fun (k:Nat)=>D.int (0+k)))
  (h1:xc (gNm 4) bd ((List.range n).map fun (k:Nat)=>D.int (0+k)) [some (.val A),some (.val B),some (.val C),some (.own []),none,none]=.nx [some (.val A),some (.val B),some (.val C),some (.own P),s4,s5]) :
  xA 6 (zx (vA 3 (fun τ=>(zh τ).bind fun ds=>if ds.length≤sizeLine then .ok ds else .no)) (zx (ua ri (gNm 4) bd) (vJ 3))) [A,B,C]=.ok (.lst P):=by
 have st:zX 6 [A,B,C]=[some (.val A),some (.val B),some (.val C),none,none,none]:=rfl
 rw[yk,st]
 simp only[zL,wo,wq,wx,vc,zQ,getElem?_cons_zero,getElem?_cons_succ,set_cons_succ,set_cons_zero,xx,Rs.bind_ok,Fl.of_ok,ym,zJ,if_true,length_nil,zero_le,r1,h1]
theorem QA:wA=(zx (vA 3 (fun τ=>(zh τ).bind fun ds=>if ds.length≤sizeLine then .ok ds else .no)) (zx (ua (vq (za (yj yR (za (zd 1) zh)) zh)) (gNm 4) jw) (vJ 3))):=by unfold wA jw;rfl
theorem U4(a:Nat)(x:List Nat)(ts:List Tl)(ha:a<128)(hx:x.length≤1000)(hs:ts.length≤1000)(hn:∀t∈ts,0<t.2.length∧t.2.length≤1000):yP [yc a,tx x,.lst (ts.map tlD)]=.ok (.lst ((YF a x ts).map tlD)):=by
 obtain⟨s4,s5,h1⟩:=ML a x ts ha hx hs hn
 unfold yP
 rw[QA]
 exact L9 _ _ _ _ _ x.length _ _ _ (Y6 (vw (zj rfl) (um x hx)) hx) h1
theorem Yr(x:List Nat):∀q:List Nat,(yL q x).length≤x.length
 |[]=>by simp[yL]
 |[a]=>by
  simp only[yL,ZL,length_map]
  have:=length_filter_le (fun p=>xS a (x.getD p 0)) (List.range x.length)
  rwa [length_range] at this
 |a::b::q=>by simp only[yL,YF];exact YE _ _
theorem XB(q x:List Nat)(hq:q≠[])(hl:q.length≤1000):∀t∈yL q x,0<t.2.length∧t.2.length≤1000:=fun t ht=>by
 have:=(jG x q t ht).1.len
 have:0<q.length:=List.length_pos_iff.mpr hq
 omega
def Z6:FS:=(yd 2 (zq yP (za (eOp ixD (zd 0) (zd 3)) (za (zd 1) (za (zd 2) zh)))))
theorem Ti(q x:List Nat)(m:Nat)(hm:q.length=m+1)(hq:q.length≤1000)(hx:x.length≤1000)(ha:∀c∈q,c<128) :
  ∃s,xc (gNm 3) Z6 (jI ((m:Int)-1) m) [some (.val (tx q)),some (.val (tx x)),some (.val (.lst ((yL (q.drop m) x).map tlD))),none]=.nx [some (.val (tx q)),some (.val (tx x)),some (.val (.lst ((yL q x).map tlD))),s]:=by
 obtain⟨τ',h1,s,h2⟩:=ju (set:=gNm 3) (body:=Z6) (fun (k:Nat)=>D.int ((m:Int)-1-k)) (fun k τ=>∃s,τ=[some (.val (tx q)),some (.val (tx x)),some (.val (.lst ((yL (q.drop (m-k)) x).map tlD))),s]) m
  [some (.val (tx q)),some (.val (tx x)),some (.val (.lst ((yL (q.drop m) x).map tlD))),none] ⟨_,rfl⟩ fun k τ hk ⟨s,e⟩=>by
   subst e
   obtain⟨j,hj⟩:∃j,m=j+1+k:=⟨m-1-k,by omega⟩
   have e0:(m:Int)-1-(k:Int)=(j:Int):=by omega
   have d1:q.drop (m-k)=q.drop (j+1):=by congr 1;omega
   have d2:q.drop (m-(k+1))=q.drop j:=by congr 1;omega
   have hjq:j<q.length:=by omega
   have hne:q.drop (j+1)≠[]:=fun h=>by
    have:=congrArg List.length h
    rw[length_drop] at this;simp at this;omega
   have hlg:=U4 (q.getD j 0) x (yL (q.drop (j+1)) x) (ha _ (mem_of_getElem? (u3 q j hjq))) hx (by have:=Yr x (q.drop (j+1));omega) (XB _ x hne (by rw[length_drop];omega))
   have ht:YF (q.getD j 0) x (yL (q.drop (j+1)) x)=yL (q.drop j) x:=by
    have e1:q.drop j=q.getD j 0::q.drop (j+1):=by
     rw[List.drop_eq_getElem_cons hjq,getD_eq_getElem?_getD,getElem?_eq_getElem hjq];rfl
    rw[e1]
    cases e2:q.drop (j+1) with
    |nil=>exact absurd e2 hne
    |cons b r=>rfl
   rw[ht] at hlg
   rw[d1,d2]
   refine⟨[some (.val (tx q)),some (.val (tx x)),some (.val (.lst ((yL (q.drop (j+1)) x).map tlD))),some (.val (.int (j:Int)))],[some (.val (tx q)),some (.val (tx x)),some (.val (.lst ((yL (q.drop j) x).map tlD))),some (.val (.int (j:Int)))],by rw[e0];rfl,?_,_,rfl⟩
   unfold Z6
   rw[zT,vR (op2 (zj rfl) (zj rfl) (Yo q j hjq hq)) (zj rfl) (zj rfl) hlg,Fl.of_ok]
   rfl
 subst h2
 refine⟨s,?_⟩
 rw[Nat.sub_self,List.drop_zero] at h1
 exact h1
def ldE:FE:=(fun τ=>((xr 1 [] (xP (zd 2)) (gNm 0) (fun _=>.ok true) (xQ (za (eOp zG (eOp ixD (zd 0) (eC (.int 0))) (zq yK (za (eOp ixD (eOp ixD (zd 0) (eC (.int 1))) (eC (.int 0))) zh))) (za (eOp ixD (zd 0) (eC (.int 1))) zh)))) τ).bind fun ds=>.ok (.lst ds))
theorem ld_ok(A B:D)(ts:List Tl)(s:Option Sl)(hs:ts.length≤1000)(hn:∀t∈ts,0<t.2.length):ldE [some (.val A),some (.val B),some (.val (.lst (ts.map tlD))),s]=.ok (.lst ((ts.map QE).map tlD)):=by
 have cf:=wV (set:=gNm 0) (fe:=(xQ (za (eOp zG (eOp ixD (zd 0) (eC (.int 0))) (zq yK (za (eOp ixD (eOp ixD (zd 0) (eC (.int 1))) (eC (.int 0))) zh))) (za (eOp ixD (zd 0) (eC (.int 1))) zh)))) (τ:=[none]) tlD tlD QE ts fun t ht=>by
   refine⟨[some (.val (tlD t))],rfl,?_⟩
   have:=Xe t.2 (hn t ht)
   exact Xz (op2 (op2 (zj rfl) rfl (Ux t)) (TV (op2 (op2 (zj rfl) rfl (Uw t)) rfl this) (MN _)) xD) (op2 (zj rfl) rfl (Uw t))
 have it:xP (zd 2) [some (.val A),some (.val B),some (.val (.lst (ts.map tlD))),s]=.ok (ts.map tlD):=rfl
 have ec:=wk (k:=1) (idx:=[]) (τ:=[some (.val A),some (.val B),some (.val (.lst (ts.map tlD))),s]) it cf (by simpa using hs)
 unfold ldE
 simp only[ec,Rs.bind_ok]
theorem Gv:Vq=(zx (sIf (FD.tB (eOp eqD (yj yR (za (zd 0) zh)) (eC (.int 0)))) (y3 (xQ (za (eC (.int 0)) (za (vF zh) zh)))) yv)
  (zx (yd 2 (zq yb (za (eOp ixD (zd 0) (x6 (eC (.int 1)))) (za (zd 1) zh))))
  (zx (ua (Jc (za (eOp vE (yj yR (za (zd 0) zh)) (eC (.int 2))) (za (x6 (eC (.int 1))) (za (x6 (eC (.int 1))) zh)))) (gNm 3) Z6)
  (y3 (zq zH (za ldE zh)))))):=by unfold Vq Z6 ldE;rfl
theorem LK(q:List Nat)(m:Nat)(hm:q.length=m+1)(hq:q.length≤1000):ixD (tx q) (.int (-1))=.ok (yc (q.getD m 0)):=by
 refine Ze ?_ (by rw[LM,zV];omega)
 have e:ixN q.length (-1)=some m:=by
  unfold ixN
  rw[if_neg (by omega),if_pos (by omega)]
  congr 1;omega
 unfold atI
 show(ixN q.length (-1)).bind _=_
 rw[e]
 exact u3 q m (by omega)
theorem bs_r3(q x:List Nat)(T:D)(m:Nat)(hm:q.length=m+1)(hq:q.length≤1000):Jc (za (eOp vE (yj yR (za (zd 0) zh)) (eC (.int 2))) (za (x6 (eC (.int 1))) (za (x6 (eC (.int 1))) zh))) [some (.val (tx q)),some (.val (tx x)),some (.val T),none]=.ok (jI ((m:Int)-1) m):=by
 have a1:eOp vE (yj yR (za (zd 0) zh)) (eC (.int 2)) [some (.val (tx q)),some (.val (tx x)),some (.val T),none]=.ok (.int ((m:Int)-1)):=by
  refine op2 (vw (zj rfl) (um q hq)) rfl ?_
  rw[wm];congr 2;omega
 have a2:∀τ,x6 (eC (.int 1)) τ=.ok (.int (-1)):=fun τ=>rfl
 have r3:=La (fs:=za (eOp vE (yj yR (za (zd 0) zh)) (eC (.int 2))) (za (x6 (eC (.int 1))) (za (x6 (eC (.int 1))) zh))) (τ:=[some (.val (tx q)),some (.val (tx x)),some (.val T),none]) (i:=(m:Int)-1) (j:=-1)
  (by rw[zv,a1,Rs.bind_ok,zv,a2,Rs.bind_ok,zv,a2,Rs.bind_ok,zQ,Rs.bind_ok,Rs.bind_ok,Rs.bind_ok]) (by omega) (by omega) (by omega) (by omega)
 rw[r3]
 congr 2
 omega
theorem za0(g1:FT)(g2:FS)(e1 e2:FE)(r3:FA)(bd:FS)(A B T T' R:D)(L:List D)(s:Option Sl)(h0:g1 [some (.val A),some (.val B),none,none]=.ok false)(h1:e1 [some (.val A),some (.val B),none,none]=.ok T)(h2:r3 [some (.val A),some (.val B),some (.val T),none]=.ok L)(h3:xc (gNm 3) bd L [some (.val A),some (.val B),some (.val T),none]=.nx [some (.val A),some (.val B),some (.val T'),s])(h4:e2 [some (.val A),some (.val B),some (.val T'),s]=.ok R) :
  xA 4 (zx (sIf g1 g2 yv) (zx (yd 2 e1) (zx (ua r3 (gNm 3) bd) (y3 e2)))) [A,B]=.ok R:=by
 have st:zX 4 [A,B]=[some (.val A),some (.val B),none,none]:=rfl
 rw[yk,st]
 simp only[zL,zT,yI,zU,zZ,vc,set_cons_succ,set_cons_zero,Fl.of_ok,ym,zJ,Bool.false_eq_true,if_false,h0,h1,h2,h3,h4]
theorem Tj(q x:List Nat)(hne:q≠[])(hq:q.length≤1000)(hx:x.length≤1000)(ha:∀c∈q,c<128):wO [tx q,tx x]=.ok (ub (Gw q x)):=by
 have hpos:0<q.length:=List.length_pos_iff.mpr hne
 obtain⟨m,hm⟩:∃m,q.length=m+1:=⟨q.length-1,by omega⟩
 obtain⟨s,hl⟩:=Ti q x m hm hq hx ha
 have hmem:q.getD m 0∈q:=mem_of_getElem? (u3 q m (by omega))
 have d:yL (q.drop m) x=ZL (q.getD m 0) x:=by
  have e1:q.drop m=[q.getD m 0]:=by
   rw[List.drop_eq_getElem_cons (by omega),getD_eq_getElem?_getD,getElem?_eq_getElem (by omega:m<q.length),List.drop_eq_nil_of_le (by omega)];rfl
  rw[e1];rfl
 rw[d] at hl
 have h0:FD.tB (eOp eqD (yj yR (za (zd 0) zh)) (eC (.int 0))) [some (.val (tx q)),some (.val (tx x)),none,none]=.ok false:=by
  refine ud (op2 (vw (zj rfl) (um q hq)) rfl ?_)
  rw[vC]
  congr 2
  simp;exact hne
 have h1:zq yb (za (eOp ixD (zd 0) (x6 (eC (.int 1)))) (za (zd 1) zh)) [some (.val (tx q)),some (.val (tx x)),none,none]=.ok (.lst ((ZL (q.getD m 0) x).map tlD)):=
  u8 (op2 (zj rfl) rfl (LK q m hm hq)) (zj rfl) (Yj _ x (ha _ hmem) hx)
 have h4:zq zH (za ldE zh) [some (.val (tx q)),some (.val (tx x)),some (.val (.lst ((yL q x).map tlD))),s]=.ok (ub (Gw q x)):=
  TV (ld_ok _ _ _ _ (by have:=Yr x q;omega) fun t ht=>(XB q x hne hq t ht).1) (TR _)
 unfold wO
 rw[Gv]
 exact za0 _ _ _ _ _ _ _ _ _ _ _ _ _ h0 h1 (bs_r3 q x _ m hm hq) hl h4
abbrev hd0(t:Tl):Nat:=t.2.getD 0 0
def Srt(ts:List Tl):Prop:=ts.Pairwise fun a b=>hd0 a<hd0 b
def vS(q x:List Nat):Option Tl:=if q=[] then some (0,[]) else Gw q x
end Law
set_option Elab.async false
set_option linter.all false
set_option maxHeartbeats 1000000
namespace FD
open PySem PySem.Spec PyProof.Rows L2
theorem sl_ok{fe:FE}{fl fh:FO}{τ:DS}{d r:D}{l u:Option Int}(h1:fe τ=.ok d)(h2:fl τ=.ok l)(h3:fh τ=.ok u)(h:slD d l u=.ok r):eSl fe fl fh τ=.ok r:=by
 rw[Gd,h1,Rs.bind_ok,h2,Rs.bind_ok,h3,Rs.bind_ok,h]
theorem or_tr{f g:FT}{τ:DS}{b:Bool}(h1:f τ=.ok false)(h2:g τ=.ok b):XD f g τ=.ok b:=by rw[vH,h1,Rs.bind_ok,if_neg (by simp),h2]
end FD
namespace Law
open PySem PySem.Spec PyProof.Rows L2 FD
theorem nilE{τ:DS}:vF zh τ=.ok (.lst []):=by
 rw[Xo,zQ,Rs.bind_ok];exact if_pos (zero_le _)
theorem GD(q x:List Nat)(hq:q.length≤1000)(hx:x.length≤1000)(ha:∀c∈q,c<128):wO [tx q,tx x]=.ok (ub (vS q x)):=by
 by_cases z:q=[]
 ·subst z
  have st:zX 4 [tx [],tx x]=[some (.val (tx [])),some (.val (tx x)),none,none]:=rfl
  have hl:=um [] (by simp)
  have hg:FD.tB (eOp eqD (yj yR (za (zd 0) zh)) (eC (.int 0))) [some (.val (tx [])),some (.val (tx x)),none,none]=.ok true:=ud (op2 (vw (zj rfl) hl) rfl rfl)
  have he:xQ (za (eC (.int 0)) (za (vF zh) zh)) [some (.val (tx [])),some (.val (tx x)),none,none]=.ok (.tup [.int 0,.lst []]):=Xz rfl nilE
  unfold wO
  rw[Gv,yk,st,zL,yI,hg,Fl.of_ok,if_pos rfl,zU,he]
  rfl
 ·have:=Tj q x z hq hx ha
  rw[this]
  unfold vS
  rw[if_neg z]
theorem Jd(fc:FA)(g:FT)(fx:FE)(A B C:D)(L:List D)(b:Bool)(d:D)(h1:fc [some (.val A),some (.val B),some (.val C),none]=.ok L)(h2:g [some (.val A),some (.val B),some (.val C),some (.own L)]=.ok b)
  (h3:b=true→fx [some (.val A),some (.val B),some (.val C),some (.own L)]=.ok d∧0<L.length) :
  xA 4 (zx (vA 3 fc) (zx (sIf g (UI 3 (eC (.int 0)) fx) yv) (vJ 3))) [A,B,C]=.ok (.lst (if b=true then L.set 0 d else L)):=by
 have st:zX 4 [A,B,C]=[some (.val A),some (.val B),some (.val C),none]:=rfl
 rw[yk,st]
 cases b with
 |false=>simp only[zL,wo,yI,wq,wx,zZ,Y4,yD,getElem?_cons_zero,getElem?_cons_succ,set_cons_succ,set_cons_zero,xx,Fl.of_ok,ym,zJ,Bool.false_eq_true,if_false,h1,h2,wo,wq,wx,xx,Bool.false_eq_true,if_false]
 |true=>
  obtain⟨h3,h4⟩:=h3 rfl
  have hp:=JZ (n:=3) (τ:=[some (.val A),some (.val B),some (.val C),some (.own L)]) (d:=d) (j:=0) h4
  have e0:(((0:Nat):Int))=0:=rfl
  rw[e0] at hp
  simp only[zL,wo,yI,wq,wx,zZ,Y4,yD,getElem?_cons_zero,getElem?_cons_succ,set_cons_succ,set_cons_zero,xx,Fl.of_ok,ym,zJ,if_true,h1,h2,h3,wo,wq,wx,xx,Y4,hp]
theorem LL:vy=(zx (vA 3 (xr 1 [0,1] (vq (za (zq zo (za (zd 0) (za (zd 1) (za (eOp zG (zd 2) (eC (.int 1))) zh)))) zh)) (gNm 0) (fun _=>.ok true) (zq y8 (za (zd 1) (za (eOp zG (eOp zG (zd 2) (eC (.int 1))) (eOp vM (eC (.int 12)) (zd 0))) zh)))))
  (zx (sIf (Zo (FD.tB (eOp gtD (Wu 3) (eC (.int 1)))) (FD.tB (eOp eqD (zq zo (za (zd 0) (za (eOp zG (zd 1) (eC (.int 12))) (za (eC (.int 5)) zh)))) (eC (.int 0))))) (UI 3 (eC (.int 0)) (Jk 3 (x6 (eC (.int 1))))) yv)
  (vJ 3))):=by unfold vy;rfl
def GG(x:List Nat):Prop:=0<x.length∧x.length≤10∧∀c∈x,c∈NS
theorem Qv(ns:List Int)(a:Int)(h0:0≤a):GG (wJ ns a (YB ns a)):=by
 have d:=wj ns a (m:=10) (by decide)
 have hl:(wJ ns a (YB ns a)).length=(1+xM ns a 10).toNat:=by simp[wJ,YB]
 refine⟨by rw[hl];omega,by rw[hl];omega,fun c hc=>?_⟩
 obtain⟨k,_,rfl⟩:=mem_map.mp hc
 exact U0 ns a k (by omega)
theorem and_b{f g:FT}{τ:DS}{b c:Bool}(h1:f τ=.ok b)(h2:b=true→g τ=.ok c):Zo f g τ=.ok (b&&c):=by
 rw[uG,h1,Rs.bind_ok]
 cases b with
 |false=>rfl
 |true=>rw[if_pos rfl,h2 rfl];rfl
theorem X4(ns:List Int)(a most:Int)(h63:ns.length≤63)(h0:0≤a)(ha:a<800000)(hm0:0≤most)(hm1:most<50) :
  ∃X:List (List Nat),yW [.scr ns,.int a,.int most]=.ok (.lst (X.map tx))∧(X.length:Int)≤most∧∀x∈X,GG x:=by
 have dl:=wj ns a (m:=most+1) (by omega)
 have dk:=wg ns a (most+1) h63 h0 (by omega) (by omega)
 have dk2:=wg ns (a+12) 5 h63 (by omega) (by omega) (by decide)
 generalize hN:xM ns a (most+1)=N at *
 generalize xM ns (a+12) 5=M at *
 have cf:=wV (set:=gNm 0) (fe:=(zq y8 (za (zd 1) (za (eOp zG (eOp zG (zd 2) (eC (.int 1))) (eOp vM (eC (.int 12)) (zd 0))) zh)))) (τ:=[none,some (.val (.scr ns)),some (.val (.int a))]) (fun (k:Nat)=>D.int (0+k)) tx
  (fun k=>wJ ns (a+1+12*(k:Int)) (YB ns (a+1+12*(k:Int)))) (List.range N.toNat) fun k hk=>by
   have hk:=mem_range.mp hk
   refine⟨[some (.val (.int (k:Int))),some (.val (.scr ns)),some (.val (.int a))],by rw[Int.zero_add];rfl,?_⟩
   exact u8 (zj rfl) (op2 (op2 (zj rfl) rfl xD) (op2 rfl (zj rfl) (vL (by omega))) xD) (MF ns _ h63 (by omega) (by omega))
 have it:vq (za (zq zo (za (zd 0) (za (zd 1) (za (eOp zG (zd 2) (eC (.int 1))) zh)))) zh) [some (.val (.scr ns)),some (.val (.int a)),some (.val (.int most)),none]=.ok ((List.range N.toNat).map fun (k:Nat)=>D.int (0+k)):=
  Y6 (n:=N.toNat) (by rw[Int.toNat_of_nonneg dl.1];exact vR (zj rfl) (zj rfl) (op2 (zj rfl) rfl xD) dk) (by omega)
 have ec:=wk (k:=1) (idx:=[0,1]) it cf (by simp;omega)
 generalize hX0:(List.range N.toNat).map (fun (k:Nat)=>wJ ns (a+1+12*(k:Int)) (YB ns (a+1+12*(k:Int))))=X0 at ec cf
 have l0:X0.length=N.toNat:=by rw[← hX0];simp
 have ok0:∀x∈X0,GG x:=fun x hx=>by
  rw[← hX0] at hx
  obtain⟨k,_,rfl⟩:=mem_map.mp hx
  exact Qv ns _ (by omega)
 have hg:Zo (FD.tB (eOp gtD (Wu 3) (eC (.int 1)))) (FD.tB (eOp eqD (zq zo (za (zd 0) (za (eOp zG (zd 1) (eC (.int 12))) (za (eC (.int 5)) zh)))) (eC (.int 0)))) [some (.val (.scr ns)),some (.val (.int a)),some (.val (.int most)),some (.own (X0.map tx))]=.ok (decide (1<(X0.length:Int))&&(M==0)):=
  and_b (ud (op2 (a:=.int (X0.length:Int)) (by rw[Gf];show Rs.ok (D.int ((X0.map tx).length:Int))=_;rw[length_map]) rfl Ue)) fun _=>ud (op2 (vR (zj rfl) (op2 (zj rfl) rfl xD) rfl dk2) rfl vC)
 have hne:(decide (1<(X0.length:Int))&&(M==0))=true→0<X0.length:=fun h=>by
  rw[Bool.and_eq_true,decide_eq_true_eq] at h;omega
 have e:=Jd _ _ (Jk 3 (x6 (eC (.int 1)))) (.scr ns) (.int a) (.int most) (X0.map tx) _ (tx (X0.getD (X0.length-1) [])) ec hg fun h=>by
  have hp:=hne h
  refine⟨?_,by rw[length_map];exact hp⟩
  rw[M9]
  show(Rs.ok (X0.map tx)).bind (fun ds=>(x6 (eC (.int 1)) _).bind (ixO ds))=_
  rw[Rs.bind_ok,Zh,yD,Rs.bind_ok]
  show(Rs.ok (D.int (-1))).bind _=_
  rw[Rs.bind_ok]
  unfold ixO
  have:atI (X0.map tx) (-1)=some (tx (X0.getD (X0.length-1) [])):=by
   have e:ixN (X0.map tx).length (-1)=some (X0.length-1):=by
    unfold ixN
    rw[length_map,if_neg (by omega),if_pos (by omega)]
    congr 1;omega
   unfold atI
   rw[e]
   show(X0.map tx)[X0.length-1]?=_
   rw[getElem?_map,getElem?_eq_getElem (by omega)]
   simp[show X0.length-1<X0.length by omega]
  simp only[this]
 unfold yW
 rw[LL,e]
 cases hb:(decide (1<(X0.length:Int))&&(M==0)) with
 |false=>exact⟨X0,by rw[if_neg (by simp)],by omega,ok0⟩
 |true=>
  have hp:=hne hb
  refine⟨X0.set 0 (X0.getD (X0.length-1) []),by rw[if_pos rfl,List.map_set],by rw[length_set];omega,fun x hx=>?_⟩
  rcases List.mem_or_eq_of_mem_set hx with h|h
  ·exact ok0 x h
  ·rw[h]
   have:X0.getD (X0.length-1) []=X0[X0.length-1]'(by omega):=by simp[show X0.length-1<X0.length by omega]
   rw[this]
   exact ok0 _ (getElem_mem _)
theorem Wl{α β:Type}(f:α→β)(x:List Int×α):∀l:List (List Int×α),ZU (x.1,f x.2) (l.map fun p=>(p.1,f p.2))=(ZU x l).map fun p=>(p.1,f p.2)
 |[]=>rfl
 |y::r=>by
  rw[map_cons,ZU,ZU]
  split
  ·rfl
  ·rw[Wl f x r];rfl
theorem Yw{α β:Type}(f:α→β):∀l:List (List Int×α),xK (l.map fun p=>(p.1,f p.2))=(xK l).map fun p=>(p.1,f p.2)
 |[]=>rfl
 |x::r=>by rw[map_cons,xK,xK,Yw f r,Wl]
def wF{α:Type}(key:α→List Int)(rs:List α):List α:=(xK (rs.map fun r=>(key r,r))).map (·.2)
theorem GX{α:Type}(key:α→List Int)(f:α→D)(rs:List α):(xK ((rs.map key).zip (rs.map f))).map (·.2)=(wF key rs).map f:=by
 have e:(rs.map key).zip (rs.map f)=(rs.map fun r=>(key r,r)).map fun p=>(p.1,f p.2):=by
  induction rs with
  |nil=>rfl
  |cons r rs ih=>simp only[map_cons,List.zip_cons_cons,ih]
 rw[e,Yw]
 unfold wF
 rw[map_map,map_map];rfl
theorem Zq{α:Type}(key:α→List Int)(rs:List α):(wF key rs).Perm rs:=by
 have:=(wn (rs.map fun r=>(key r,r))).map (·.2)
 rw[map_map] at this
 have e:rs.map ((fun p:List Int×α=>p.2) ∘ fun r=>(key r,r))=rs:=by
  rw[show((fun p:List Int×α=>p.2) ∘ fun r=>(key r,r))=id from rfl,map_id]
 rw[e] at this
 exact this
theorem Zr{α:Type}(key:α→List Int)(rs:List α):∀p∈xK (rs.map fun r=>(key r,r)),p.1=key p.2:=fun p hp=>by
 have:=(wn (rs.map fun r=>(key r,r))).mem_iff.mp hp
 obtain⟨r,_,rfl⟩:=mem_map.mp this
 rfl
theorem Yu{α:Type}(key:α→List Int)(rs:List α)(nd:(rs.map key).Nodup):(wF key rs).Pairwise fun a b=>lxI (key a) (key b)=true:=by
 have h:=jg (rs.map fun r=>(key r,r)) (by rw[map_map];exact nd)
 unfold wF
 rw[pairwise_map]
 refine h.imp_of_mem fun {a b} ha hb q=>?_
 rw[← Zr key rs a ha,← Zr key rs b hb];exact q
theorem Zp{α:Type}(key:α→List Int){l rs:List α}(p:l.Perm rs)(h:l.Pairwise fun a b=>lxI (key a) (key b)=true)(nd:(rs.map key).Nodup):l=wF key rs:=
 jk (fun a b x y=>by rw[YC x] at y;cases y) (p.trans (Zq key rs).symm) h (Yu key rs nd)
def kD(k:List Int):D:=.tup (k.map D.int)
theorem YN:∀k:List Int,ZQ (k.map D.int)=some k
 |[]=>rfl
 |i::k=>by
  show(ZQ (k.map D.int)).map (i :: ·)=_
  rw[YN k];rfl
theorem LV(k:List Int):MU (kD k)=some k:=YN k
theorem jx{α:Type}(key:α→List Int):∀rs:List α,uW (rs.map fun r=>kD (key r))=some (rs.map key)
 |[]=>rfl
 |r::rs=>by rw[map_cons,uW,LV,jx key rs];rfl
theorem WT{α:Type}(key:α→List Int)(f:α→D)(rs:List α)(h64:rs.length<64)(nd:(rs.map key).Nodup)(ne:∀r,key r≠[]):jh (rs.map fun r=>kD (key r)) (rs.map f)=.ok (.lst ((wF key rs).map f)):=by
 unfold jh
 rw[jx]
 simp only
 rw[if_pos ⟨by simpa using h64,nd,fun k hk=>by obtain⟨r,_,rfl⟩:=mem_map.mp hk;exact ne r⟩,GX]
theorem jL{α:Type}{idx:List Nat}{fb:FE}{τ:DS}(key:α→List Int)(f:α→D):∀rs:List α,(∀r∈rs,U7 idx fb τ (f r)=.ok (kD (key r)))→wf idx fb τ (rs.map f)=.ok (rs.map fun r=>kD (key r))
 |[],_=>rfl
 |r::rs,h=>by
  rw[map_cons,wf,h r mem_cons_self]
  simp only[jL key f rs fun s hs=>h s (mem_cons_of_mem _ hs),map_cons]
theorem Vj{α:Type}{idx:List Nat}{fe fb:FE}{τ:DS}(key:α→List Int)(f:α→D)(rs:List α)(h:fe τ=.ok (.lst (rs.map f)))(hk:∀r∈rs,U7 idx fb τ (f r)=.ok (kD (key r)))(h64:rs.length<64)(nd:(rs.map key).Nodup)(ne:∀r,key r≠[]) :
  Z2 idx fe fb τ=.ok (.lst ((wF key rs).map f)):=by
 unfold Z2
 rw[h,Rs.bind_ok]
 simp only[jL key f rs hk]
 exact WT key f rs h64 nd ne
abbrev Rw:=Int×Nat
def zW(r:Rw):D:=.tup [.int r.1,.int (r.2:Int)]
theorem Ts(r:Rw):ixD (zW r) (.int 0)=.ok (.int r.1):=rfl
theorem JT(r:Rw):ixD (zW r) (.int 1)=.ok (.int (r.2:Int)):=rfl
theorem wS{key:Rw→List Int}(hk:∀r s,key r=key s→r.2=s.2):∀rs:List Rw,(rs.map (·.2)).Nodup→(rs.map key).Nodup
 |[],_=>nodup_nil
 |r::rs,h=>by
  rw[map_cons,nodup_cons] at h ⊢
  refine⟨fun hm=>h.1 ?_,wS hk rs h.2⟩
  obtain⟨s,hs,e⟩:=mem_map.mp hm
  exact mem_map.mpr ⟨s,hs,hk s r e⟩
def wP(X:List (List Nat))(r:Rw):List Int:=[-r.1,((X.getD r.2 []).length:Int),(r.2:Int)]
theorem uX(X:List (List Nat))(r s:Rw)(h:wP X r=wP X s):r.2=s.2:=by
 unfold wP at h
 injection h with h1 h2
 injection h2 with h2 h3
 injection h3 with h3 _
 omega
theorem size3:∀a b c:D,([a,b,c]:List D).length≤sizeLine:=fun a b c=>by rw[zV];exact Nat.le_of_ble_eq_true rfl
theorem tup3{fa fb fc:FE}{τ:DS}{a b c:D}(h1:fa τ=.ok a)(h2:fb τ=.ok b)(h3:fc τ=.ok c):xQ (za fa (za fb (za fc zh))) τ=.ok (.tup [a,b,c]):=by
 rw[Uh,zv,h1,Rs.bind_ok,zv,h2,Rs.bind_ok,zv,h3,Rs.bind_ok,zQ,Rs.bind_ok,Rs.bind_ok,Rs.bind_ok,Rs.bind_ok]
 exact if_pos (size3 a b c)
theorem LJ{fa:FE}{τ:DS}{i:Int}(h:fa τ=.ok (.int i)):x6 fa τ=.ok (.int (-i)):=by rw[Zh,h];rfl
theorem uT(X:List (List Nat))(i:Nat)(h:i<X.length):ixD (.lst (X.map tx)) (.int (i:Int))=.ok (tx (X.getD i [])):=by
 refine V6 (Ur ?_)
 rw[getElem?_map,getElem?_eq_getElem h]
 simp[h]
theorem GN(ds:List D)(n:Nat):slD (.lst ds) none (some (n:Int))=.ok (.lst (ds.take n)):=by
 have:FD.cutD ds none (some (n:Int))=ds.take n:=by
  have e0:HT.sIx ds.length 0 none=0:=rfl
  have e1:HT.sIx ds.length ds.length (some (n:Int))=min n ds.length:=by
   unfold HT.sIx
   have:¬ ((n:Int)<0):=by omega
   simp[this]
  unfold FD.cutD
  rw[e0,e1,List.drop_zero,Nat.sub_zero]
  rcases Nat.le_total n ds.length with z|z
  ·rw[Nat.min_eq_left z]
  ·rw[Nat.min_eq_right z,List.take_length,take_of_length_le z]
 show Rs.ok (D.lst (FD.cutD ds none (some (n:Int))))=_
 rw[this]
theorem Mt:uA=(y3 (Z2 [0] (zd 1) (xQ (za (x6 (eOp ixD (zd 0) (eC (.int 0)))) (za (yj yR (za (eOp ixD (zd 1) (eOp ixD (zd 0) (eC (.int 1)))) zh)) (za (eOp ixD (zd 0) (eC (.int 1))) zh)))))):=by unfold uA;rfl
structure zc1(X:List (List Nat))(rs:List Rw):Prop where
 few:rs.length<64
 nd:(rs.map (·.2)).Nodup
 lt:∀r∈rs,r.2<X.length
 sz:∀x∈X,x.length≤1000
theorem getD_mem{X:List (List Nat)}{i:Nat}(h:i<X.length):X.getD i []∈X:=by
 have:X.getD i []=X[i]:=by simp[h]
 rw[this];exact getElem_mem _
theorem Qj(X:List (List Nat))(rs:List Rw)(h:zc1 X rs):xw [.lst (X.map tx),.lst (rs.map zW)]=.ok (.lst ((wF (wP X) rs).map zW)):=by
 have st:zX 2 [.lst (X.map tx),.lst (rs.map zW)]=[some (.val (.lst (X.map tx))),some (.val (.lst (rs.map zW)))]:=rfl
 unfold xw
 rw[Mt,yk,st,zU,Vj (wP X) zW rs (zj rfl) (fun r hr=>?_) h.few (wS (uX X) rs h.nd) (fun r z=>nomatch z)]
 ·rfl
 ·have hlt:=h.lt r hr
  have hsz:=h.sz _ (getD_mem hlt)
  have:xQ (za (x6 (eOp ixD (zd 0) (eC (.int 0)))) (za (yj yR (za (eOp ixD (zd 1) (eOp ixD (zd 0) (eC (.int 1)))) zh)) (za (eOp ixD (zd 0) (eC (.int 1))) zh))) [some (.val (zW r)),some (.val (.lst (X.map tx)))]=.ok (kD (wP X r)):=tup3 (LJ (op2 (zj rfl) rfl (Ts r))) (vw (op2 (zj rfl) (op2 (zj rfl) rfl (JT r)) (uT X r.2 hlt)) (um _ hsz)) (op2 (zj rfl) rfl (JT r))
  exact this
theorem LN(i j:Int):ZG [.int i,.int j]=.ok (.int (if i<j then j else i)):=rfl
theorem M7:vx=(y3 (eSl (zq xw (za (zd 0) (za (zd 1) zh))) VW (uf (yj ZG (za (zd 2) (za (eC (.int 0)) zh)))))):=by unfold vx;rfl
theorem blt2{g:List D→Rs D}{fa fb:FE}{τ:DS}{a b d:D}(h1:fa τ=.ok a)(h2:fb τ=.ok b)(h:g [a,b]=.ok d):yj g (za fa (za fb zh)) τ=.ok d:=by
 rw[v9,zv,h1,Rs.bind_ok,zv,h2,Rs.bind_ok,zQ,Rs.bind_ok,Rs.bind_ok,Rs.bind_ok,h]
theorem Lu{fa:FE}{τ:DS}{i:Int}(h:fa τ=.ok (.int i)):uf fa τ=.ok (some i):=by rw[X2,h];rfl
theorem Ga(X:List (List Nat))(rs:List Rw)(many:Nat)(h:zc1 X rs):yV [.lst (X.map tx),.lst (rs.map zW),.int (many:Int)]=.ok (.lst (((wF (wP X) rs).take many).map zW)):=by
 have st:zX 3 [.lst (X.map tx),.lst (rs.map zW),.int (many:Int)]=[some (.val (.lst (X.map tx))),some (.val (.lst (rs.map zW))),some (.val (.int (many:Int)))]:=rfl
 have hm:ZG [.int (many:Int),.int 0]=.ok (.int (many:Int)):=by
  rw[LN];rw[if_neg (by omega)]
 have e:eSl (zq xw (za (zd 0) (za (zd 1) zh))) VW (uf (yj ZG (za (zd 2) (za (eC (.int 0)) zh)))) [some (.val (.lst (X.map tx))),some (.val (.lst (rs.map zW))),some (.val (.int (many:Int)))]=.ok (.lst (((wF (wP X) rs).take many).map zW)):=
  sl_ok (u8 (zj rfl) (zj rfl) (Qj X rs h)) rfl (Lu (blt2 (zj rfl) rfl hm)) (by rw[GN,List.map_take])
 unfold yV
 rw[M7,yk,st,zU,e];rfl
def fr1(X:List (List Nat))(q:List Nat)(i:Nat):Option Rw:=(vS q (X.getD i [])).map fun t=>(t.1,i)
def u7:FS:=(zx (yd 5 (zq wO (za (zd 1) (za (eOp ixD (zd 0) (zd 4)) zh))))
  (sIf (FD.tB (eOp vp (zd 5) (eC .non))) (XN 3 (xQ (za (eOp ixD (zd 5) (eC (.int 0))) (za (zd 4) zh)))) yv))
theorem fit_b:wB=(zx (vA 3 (fun τ=>(zh τ).bind fun ds=>if ds.length≤sizeLine then .ok ds else .no)) (zx (ua (xP (zd 2)) (gNm 4) u7) (vJ 3))):=by unfold wB u7;rfl
theorem Q6(e e2:FE)(a0 a1 a2 a3 a4 a5:Option Sl)(h:e [a0,a1,a2,a3,a4,a5]=.ok .non) :
  (zx (yd 5 e) (sIf (FD.tB (eOp vp (zd 5) (eC .non))) (XN 3 e2) yv)) [a0,a1,a2,a3,a4,a5]=.nx [a0,a1,a2,a3,a4,some (.val .non)]:=by
 simp only[zL,zT,yI,zZ,uK,xJ,yn,zD,yD,getElem?_cons_zero,getElem?_cons_succ,set_cons_succ,set_cons_zero,zA,Rs.bind_ok,Fl.of_ok,ym,zY,Bool.false_eq_true,if_false,h,YM]
theorem Q5(e e2:FE)(a0 a1 a2 a4 a5:Option Sl)(L:List D)(t:Tl)(R:D)(h:e [a0,a1,a2,some (.own L),a4,a5]=.ok (tlD t))(h2:e2 [a0,a1,a2,some (.own L),a4,some (.val (tlD t))]=.ok R)(hl:L.length<sizeLine) :
  (zx (yd 5 e) (sIf (FD.tB (eOp vp (zd 5) (eC .non))) (XN 3 e2) yv)) [a0,a1,a2,some (.own L),a4,a5]=.nx [a0,a1,a2,some (.own (L++[R])),a4,some (.val (tlD t))]:=by
 simp only[zL,zT,yI,zZ,uK,xJ,yn,zD,yD,getElem?_cons_zero,getElem?_cons_succ,set_cons_succ,set_cons_zero,zA,xx,Rs.bind_ok,Fl.of_ok,ym,zY,if_true,h,We,h2,uK,xx]
 rw[if_pos hl]
theorem Q9(X:List (List Nat))(q:List Nat)(i:Nat)(a2 a5:Option Sl)(acc:List Rw)(hi:i<X.length)(hq:q.length≤1000)(hX:∀x∈X,x.length≤1000)(ha:∀c∈q,c<128)(hc:acc.length≤1000) :
  ∃t5,u7 [some (.val (.lst (X.map tx))),some (.val (tx q)),a2,some (.own (acc.map zW)),some (.val (.int (i:Int))),a5]=.nx [some (.val (.lst (X.map tx))),some (.val (tx q)),a2,some (.own ((acc++(fr1 X q i).toList).map zW)),some (.val (.int (i:Int))),t5]:=by
 have hb:=GD q (X.getD i []) hq (hX _ (getD_mem hi)) ha
 have he:zq wO (za (zd 1) (za (eOp ixD (zd 0) (zd 4)) zh)) [some (.val (.lst (X.map tx))),some (.val (tx q)),a2,some (.own (acc.map zW)),some (.val (.int (i:Int))),a5]=.ok (ub (vS q (X.getD i []))):=
  u8 (zj rfl) (op2 (zj rfl) (zj rfl) (uT X i hi)) hb
 unfold u7 fr1
 cases z:vS q (X.getD i []) with
 |none=>
  rw[z] at he
  exact⟨some (.val .non),(Q6 _ _ _ _ _ _ _ _ he).trans (by simp)⟩
 |some t=>
  rw[z] at he
  have h2:xQ (za (eOp ixD (zd 5) (eC (.int 0))) (za (zd 4) zh)) [some (.val (.lst (X.map tx))),some (.val (tx q)),a2,some (.own (acc.map zW)),some (.val (.int (i:Int))),some (.val (tlD t))]=.ok (zW (t.1,i)):=Xz (op2 (zj rfl) rfl (Ux t)) (zj rfl)
  exact⟨some (.val (tlD t)),(Q5 _ _ _ _ _ _ _ _ t _ he h2 (by rw[zV,length_map];omega)).trans (by simp)⟩
def Ym(X:List (List Nat))(q:List Nat)(is:List Nat):List Rw:=is.flatMap fun i=>(fr1 X q i).toList
theorem Wq(X:List (List Nat))(q:List Nat)(a2:Option Sl)(hq:q.length≤1000)(hX:∀x∈X,x.length≤1000)(ha:∀c∈q,c<128):∀(is:List Nat) (acc:List Rw) (a4 a5:Option Sl),(∀i∈is,i<X.length)→acc.length+is.length≤1000 →
  ∃t4 t5,xc (gNm 4) u7 (is.map fun (i:Nat)=>D.int i) [some (.val (.lst (X.map tx))),some (.val (tx q)),a2,some (.own (acc.map zW)),a4,a5]=.nx [some (.val (.lst (X.map tx))),some (.val (tx q)),a2,some (.own ((acc++Ym X q is).map zW)),t4,t5]
 |[],acc,a4,a5,_,_=>⟨a4,a5,by unfold Ym;simp[xc]⟩
 |i::is,acc,a4,a5,hi,hc=>by
  rw[length_cons] at hc
  obtain⟨t5,e⟩:=Q9 X q i a2 a5 acc (hi i mem_cons_self) hq hX ha (by omega)
  have hl:(acc++(fr1 X q i).toList).length+is.length≤1000:=by
   rw[length_append]
   have:(fr1 X q i).toList.length≤1:=by cases fr1 X q i <;> simp
   omega
  obtain⟨u4,u5,ih⟩:=Wq X q a2 hq hX ha is (acc++(fr1 X q i).toList) (some (.val (.int (i:Int)))) t5 (fun j hj=>hi j (mem_cons_of_mem _ hj)) hl
  refine⟨u4,u5,?_⟩
  rw[map_cons,xc,jB,Fl.of_ok]
  simp only[set_cons_succ,set_cons_zero,e]
  rw[ih]
  unfold Ym
  rw[List.flatMap_cons,List.append_assoc]
theorem nilO(τ:DS):(fun τ=>(zh τ).bind fun ds=>if ds.length≤sizeLine then Rs.ok ds else Rs.no) τ=.ok []:=by
 show(if ([]:List D).length≤sizeLine then Rs.ok [] else Rs.no)=_
 exact if_pos (zero_le sizeLine)
theorem Q4(e:FA)(b:FS)(A B C:D)(L R:List D)(t4 t5:Option Sl)(h0:e [some (.val A),some (.val B),some (.val C),none,none,none]=.ok [])(hi:V7 C=.ok L)
  (h1:xc (gNm 4) b L [some (.val A),some (.val B),some (.val C),some (.own []),none,none]=.nx [some (.val A),some (.val B),some (.val C),some (.own R),t4,t5]) :
  xA 6 (zx (vA 3 e) (zx (ua (xP (zd 2)) (gNm 4) b) (vJ 3))) [A,B,C]=.ok (.lst R):=by
 have st:zX 6 [A,B,C]=[some (.val A),some (.val B),some (.val C),none,none,none]:=rfl
 rw[yk,st]
 simp only[zL,wo,wq,wx,vc,Xl,zD,getElem?_cons_zero,getElem?_cons_succ,set_cons_succ,set_cons_zero,zA,xx,Rs.bind_ok,Fl.of_ok,ym,zJ,h0,hi,h1,wo,wq,wx,xx]
theorem M6(X:List (List Nat))(q:List Nat)(is:List Nat)(hq:q.length≤1000)(hX:∀x∈X,x.length≤1000)(ha:∀c∈q,c<128)(hi:∀i∈is,i<X.length)(hl:is.length≤1000) :
  yA [.lst (X.map tx),tx q,.lst (is.map fun (i:Nat)=>D.int i)]=.ok (.lst ((Ym X q is).map zW)):=by
 obtain⟨t4,t5,h⟩:=Wq X q (some (.val (.lst (is.map fun (i:Nat)=>D.int i)))) hq hX ha is [] none none hi (by simpa using hl)
 unfold yA
 rw[fit_b]
 exact Q4 _ _ _ _ _ _ _ _ _ (nilO _) rfl (by simpa using h)
theorem YR:∀rs:List Rw,plainDs (rs.map zW)=true∧PyData.canLayAll0 (toPys (rs.map zW))=true∧PyData.depthAll (toPys (rs.map zW))≤1
 |[]=>⟨rfl,rfl,zero_le _⟩
 |r::rs=>by
  obtain⟨h1,h2,h3⟩:=YR rs
  refine⟨by simp[plainDs,y4,zW,h1],by simp[toPys,yH,zW,PyData.canLayAll0,PyData.canLay0,h2],?_⟩
  simp only[map_cons,toPys,yH,zW,PyData.depthAll,PyData.depth]
  omega
theorem Ws:∀rs:List Rw,PyData.eqvAll (toPys (rs.map zW)) (toPys (rs.map zW))=true
 |[]=>by rfl
 |r::rs=>by
  have:=Ws rs
  simp[toPys,yH,zW,PyData.eqvAll,PyData.eqv,this]
def abcN:List Nat:=[97,98,99]
theorem abc_s:("abc" : Str)=⟨abcN.toArray⟩:=by decide +kernel
theorem zb7:GG abcN:=⟨by decide,by decide,by decide⟩
theorem Th(X:List (List Nat))(h:X.length≤1000):zG (.lst (X.map tx)) (.lst [.str "abc"])=.ok (.lst ((X++[abcN]).map tx)):=by
 show(if _ then Rs.ok (D.lst _) else Rs.no)=_
 rw[if_pos (by rw[zV,length_map,length_singleton];omega),map_append,abc_s]
 rfl
theorem zb4{f:List D→Rs D}{fa fb fc fd:FE}{τ:DS}{a b c d r:D}(h1:fa τ=.ok a)(h2:fb τ=.ok b)(h3:fc τ=.ok c)(h4:fd τ=.ok d)(h:f [a,b,c,d]=.ok r):zq f (za fa (za fb (za fc (za fd zh)))) τ=.ok r:=by
 rw[yQ,zv,h1,Rs.bind_ok,zv,h2,Rs.bind_ok,zv,h3,Rs.bind_ok,zv,h4,Rs.bind_ok,zQ,Rs.bind_ok,Rs.bind_ok,Rs.bind_ok,Rs.bind_ok,Rs.bind_ok,h];rfl
def zy(X:List (List Nat))(q:List Nat):List Rw:=Ym X q (List.range X.length)
theorem jc(X:List (List Nat))(q:List Nat):∀is:List Nat,((Ym X q is).map (·.2)).Sublist is
 |[]=>List.Sublist.refl _
 |i::is=>by
  have ih:=jc X q is
  unfold Ym at ih ⊢
  rw[List.flatMap_cons,map_append]
  unfold fr1 at ih ⊢
  cases z:vS q (X.getD i []) with
  |none=>simp;exact List.Sublist.cons _ (by simpa using ih)
  |some t=>simp;exact(by simpa using ih)
theorem Us(X:List (List Nat))(q:List Nat)(hX:∀x∈X,x.length≤1000)(hl:X.length<64):zc1 X (zy X q):=by
 have s:=jc X q (List.range X.length)
 refine⟨?_,s.nodup List.nodup_range,fun r hr=>?_,hX⟩
 ·have:=s.length_le
  rw[length_map,length_range] at this
  unfold zy;omega
 ·have:=s.mem (mem_map.mpr ⟨r,hr,rfl⟩)
  simpa using this
theorem G5(n:Nat):((List.range n).map fun (k:Nat)=>D.int (0+k))=(List.range n).map fun (i:Nat)=>D.int i:=map_congr_left fun k _=>by rw[Int.zero_add]
theorem all_b:uB=(y3 (zq yA (za (zd 0) (za (zd 1) (za (fun τ=>((X8 (vq (za (yj yR (za (zd 0) zh)) zh))) τ).bind fun ds=>.ok (.lst ds)) zh))))):=by unfold uB;rfl
theorem Gz(X:List (List Nat))(q:List Nat)(hq:q.length≤1000)(hX:∀x∈X,x.length≤1000)(ha:∀c∈q,c<128)(hl:X.length<64):yF [.lst (X.map tx),tx q]=.ok (.lst ((zy X q).map zW)):=by
 have st:zX 2 [.lst (X.map tx),tx q]=[some (.val (.lst (X.map tx))),some (.val (tx q))]:=rfl
 have r1:vq (za (yj yR (za (zd 0) zh)) zh) [some (.val (.lst (X.map tx))),some (.val (tx q))]=.ok ((List.range X.length).map fun (i:Nat)=>D.int i):=by
  rw[← G5]
  exact Y6 (vw (zj rfl) (by rw[wz,length_map])) (by omega)
 have e:zq yA (za (zd 0) (za (zd 1) (za (fun τ=>((X8 (vq (za (yj yR (za (zd 0) zh)) zh))) τ).bind fun ds=>.ok (.lst ds)) zh))) [some (.val (.lst (X.map tx))),some (.val (tx q))]=.ok (.lst ((zy X q).map zW)):=by
  refine vR (zj rfl) (zj rfl) ?_ (M6 X q (List.range X.length) hq hX ha (fun i hi=>mem_range.mp hi) (by rw[length_range];omega))
  unfold X8
  rw[r1,Rs.bind_ok,if_pos (by rw[length_map,length_range];omega)];rfl
 unfold yF
 rw[all_b,yk,st,zU,e];rfl
theorem M8:Xs=(y3 (zq yV (za (zd 0) (za (zq yF (za (zd 0) (za (zd 1) zh))) (za (zd 2) zh))))):=by unfold Xs;rfl
theorem Gb(X:List (List Nat))(q:List Nat)(many:Nat)(hq:q.length≤1000)(hX:∀x∈X,x.length≤1000)(ha:∀c∈q,c<128)(hl:X.length<64):xG [.lst (X.map tx),tx q,.int (many:Int)]=.ok (.lst (((wF (wP X) (zy X q)).take many).map zW)):=by
 have st:zX 3 [.lst (X.map tx),tx q,.int (many:Int)]=[some (.val (.lst (X.map tx))),some (.val (tx q)),some (.val (.int (many:Int)))]:=rfl
 have e:zq yV (za (zd 0) (za (zq yF (za (zd 0) (za (zd 1) zh))) (za (zd 2) zh))) [some (.val (.lst (X.map tx))),some (.val (tx q)),some (.val (.int (many:Int)))]=.ok (.lst (((wF (wP X) (zy X q)).take many).map zW)):=
  vR (zj rfl) (u8 (zj rfl) (zj rfl) (Gz X q hq hX ha hl)) (zj rfl) (Ga X _ many (Us X q hX hl))
 unfold xG
 rw[M8,yk,st,zU,e];rfl
theorem VX(rs:List Rw):neD (.lst (rs.map zW)) (.lst (rs.map zW))=.ok (.bl false):=by
 obtain⟨a,b,c⟩:=YR rs
 have ok:okD (.lst (rs.map zW))=true:=by
  simp[okD,y4,yH,PyData.canLay0,PyData.depth,a,b]
  omega
 have ev:wU (.lst (rs.map zW)) (.lst (rs.map zW))=true:=by
  simp[wU,yH,PyData.eqv,Ws]
 unfold neD
 simp only[ok,and_self,if_true,ev,Bool.not_true]
theorem xn{f g:FS}{τ τ':DS}(h:f τ=.nx τ'):zx f g τ=g τ':=by rw[zL,h,ym]
theorem if_f{g:FT}{a b:FS}{τ:DS}(h:g τ=.ok false):sIf g a b τ=b τ:=by rw[yI,h,Fl.of_ok,if_neg (by simp)]
theorem if_n{g:FT}{a:FS}{τ:DS}(h:g τ=.ok false):sIf g a yv τ=.nx τ:=if_f h
theorem xV{i:Nat}{fe:FE}{τ:DS}{d:D}(h:fe τ=.ok d):yd i fe τ=.nx (τ.set i (some (.val d))):=by rw[zT,h,Fl.of_ok]
theorem Lb{fe:FE}{τ:DS}{d:D}(h:fe τ=.ok d):y3 fe τ=.rt d:=by rw[zU,h,Fl.of_ok]
theorem arg1{fa:FE}{τ:DS}{a:D}(h:fa τ=.ok a):za fa zh τ=.ok [a]:=by rw[zv,h,Rs.bind_ok,zQ,Rs.bind_ok]
def gd:Nat→D→Prop
 |_,.str x=>PyData.strOk x=true
 |_,.int _=>True
 |_,.bl _=>True
 |_,.non=>True
 |n+1,.lst ds=>∀d∈ds,gd n d
 |n+1,.tup ds=>∀d∈ds,gd n d
 |_,_=>False
theorem Vg{n:Nat}(ih:∀d,gd n d→y4 d=true∧(yH d).canLay0=true∧(yH d).depth≤n∧PyData.eqv (yH d) (yH d)=true):∀ds:List D,(∀d∈ds,gd n d)→plainDs ds=true∧PyData.canLayAll0 (toPys ds)=true∧PyData.depthAll (toPys ds)≤n∧PyData.eqvAll (toPys ds) (toPys ds)=true
 |[],_=>⟨rfl,rfl,zero_le _,by simp[toPys,PyData.eqvAll]⟩
 |d::ds,h=>by
  obtain⟨a1,a2,a3,a4⟩:=ih d (h d mem_cons_self)
  obtain⟨b1,b2,b3,b4⟩:=Vg ih ds fun e he=>h e (mem_cons_of_mem _ he)
  refine⟨by simp[plainDs,a1,b1],by simp[toPys,PyData.canLayAll0,a2,b2],?_,by simp[toPys,PyData.eqvAll,a4,b4]⟩
  simp only[toPys,PyData.depthAll]
  omega
theorem Q7:∀(n:Nat) (d:D),gd n d→y4 d=true∧(yH d).canLay0=true∧(yH d).depth≤n∧PyData.eqv (yH d) (yH d)=true
 |n,.str x,h=>⟨by simp[y4],by simpa[yH,PyData.canLay0,gd] using h,by simp[yH,PyData.depth],by simp[yH,PyData.eqv]⟩
 |n,.int _,h=>⟨by simp[y4],by simp[yH,PyData.canLay0],by simp[yH,PyData.depth],by simp[yH,PyData.eqv]⟩
 |n,.bl _,h=>⟨by simp[y4],by simp[yH,PyData.canLay0],by simp[yH,PyData.depth],by simp[yH,PyData.eqv]⟩
 |n,.non,h=>⟨by simp[y4],by simp[yH,PyData.canLay0],by simp[yH,PyData.depth],by simp[yH,PyData.eqv]⟩
 |n+1,.lst ds,h=>by
  obtain⟨b1,b2,b3,b4⟩:=Vg (Q7 n) ds (by simpa[gd] using h)
  exact⟨by simpa[y4] using b1,by simpa[yH,PyData.canLay0] using b2,by simpa[yH,PyData.depth] using b3,by simpa[yH,PyData.eqv] using b4⟩
 |n+1,.tup ds,h=>by
  obtain⟨b1,b2,b3,b4⟩:=Vg (Q7 n) ds (by simpa[gd] using h)
  exact⟨by simpa[y4] using b1,by simpa[yH,PyData.canLay0] using b2,by simpa[yH,PyData.depth] using b3,by simpa[yH,PyData.eqv] using b4⟩
 |0,.lst ds,h=>by simp[gd] at h
 |0,.tup ds,h=>by simp[gd] at h
 |0,.scr ds,h=>by simp[gd] at h
 |0,.raw ds,h=>by simp[gd] at h
 |0,.exc ds,h=>by simp[gd] at h
 |n+1,.scr ds,h=>by simp[gd] at h
 |n+1,.raw ds,h=>by simp[gd] at h
 |n+1,.exc ds,h=>by simp[gd] at h
 |0,.dct _ _,h=>by simp[gd] at h
 |n+1,.dct _ _,h=>by simp[gd] at h
theorem za1{n:Nat}{d:D}(h:gd n d)(hn:n≤60):okD d=true∧wU d d=true:=by
 obtain⟨a,b,c,e⟩:=Q7 n d h
 refine⟨?_,e⟩
 have:(yH d).depth≤60:=by omega
 simp[okD,a,b,this]
theorem frE{ff:FA}{τ:DS}{ds:List D}(h:ff τ=.ok ds):(fun τ=>(ff τ).bind fun ds=>Rs.ok (D.lst ds)) τ=.ok (.lst ds):=by show(ff τ).bind _=_;rw[h];rfl
theorem uC{fe:FE}{τ:DS}{ds:List D}(h:fe τ=.ok (.lst ds)):xP fe τ=.ok ds:=by rw[Xl,h];rfl
theorem Uf(l:List Int):gd 1 (its l):=fun d hd=>by
 obtain⟨r,_,rfl⟩:=mem_map.mp hd
 trivial
theorem Zc{n:Nat}{ds:List D}(h:gd n (.lst ds))(hn:n≤60):neD (.lst ds) (.lst ds)=.ok (.bl false):=by
 obtain⟨a,b⟩:=za1 h hn
 unfold neD
 simp only[a,and_self,if_true,b,Bool.not_true]
theorem Wb(G:Gr)(k j:Int):xT (jr G k) j=xT G j:=by
 unfold jr
 split
 ·rfl
 ·unfold xT
  rw[List.find?_append]
  cases e:G.find? fun g=>decide (g.1=j) with
  |some g=>rfl
  |none=>
   by_cases z:k=j
   ·rw[List.find?_cons_of_pos (by simpa using z)];rfl
   ·rw[List.find?_cons_of_neg (by simpa using z)];rfl
theorem v6(g:Int×List Int)(G:Gr)(j:Int):xT (g::G) j=if g.1=j then g.2 else xT G j:=by
 unfold xT
 by_cases z:g.1=j
 ·rw[List.find?_cons_of_pos (by simpa using z),if_pos z];rfl
 ·rw[List.find?_cons_of_neg (by simpa using z),if_neg z]
theorem WG(g:Int×List Int)(G:Gr)(k v:Int):jd (g::G) k v=(if g.1=k then (g.1,g.2++[v]) else g)::jd G k v:=rfl
theorem Qz(k v j:Int)(h:j≠k)(G:Gr):xT (jd G k v) j=xT G j:=by
 induction G with
 |nil=>rfl
 |cons g G ih=>
  rw[WG,v6,v6,ih]
  by_cases z:g.1=k
  ·rw[if_pos z]
   have:¬ g.1=j:=fun y=>h (by rw[← y,z])
   simp only[if_neg this]
  ·rw[if_neg z]
theorem U3(k v:Int)(G:Gr)(h:k∈G.map (·.1)):xT (jd G k v) k=xT G k++[v]:=by
 induction G with
 |nil=>cases h
 |cons g G ih=>
  rw[WG,v6,v6]
  by_cases z:g.1=k
  ·simp only[if_pos z]
  ·simp only[if_neg z]
   refine ih ?_
   rw[map_cons,mem_cons] at h
   exact h.resolve_left fun y=>z y.symm
theorem QY(k:Int):∀(n:Nat) (rows:List (Int×Int)),rows.length=n→xT (grp rows) k=(rows.filter fun p=>decide (p.1=k)).map (·.2):=fun n=>by
 induction n with
 |zero=>intro rows h;rw[List.length_eq_zero_iff.mp h];rfl
 |succ n ih=>
  intro rows h
  rcases List.eq_nil_or_concat rows with z|⟨r,p,rfl⟩
  ·rw[z] at h;cases h
  ·rw[List.concat_eq_append] at h ⊢
   have hl:r.length=n:=by simpa using h
   rw[u0,List.filter_append,map_append,← ih r hl]
   by_cases z:p.1=k
   ·rw[← z,U3 _ _ _ (Qt _ _),Wb,List.filter_cons_of_pos (by simp)];rfl
   ·rw[Qz _ _ _ (fun y=>z y.symm),Wb,List.filter_cons_of_neg (by simpa using z)];simp
theorem QZ(k:Int):∀(n:Nat) (rows:List (Int×Int)),rows.length=n→(k∈(grp rows).map (·.1)↔k∈rows.map (·.1)):=fun n=>by
 induction n with
 |zero=>intro rows h;rw[List.length_eq_zero_iff.mp h];exact Iff.rfl
 |succ n ih=>
  intro rows h
  rcases List.eq_nil_or_concat rows with z|⟨r,p,rfl⟩
  ·rw[z] at h;cases h
  ·rw[List.concat_eq_append] at h ⊢
   have hl:r.length=n:=by simpa using h
   rw[u0,jF,map_append,mem_append,← ih r hl]
   unfold jr
   split
   ·rename_i y
    constructor
    ·exact .inl
    ·rintro (z|z)
     ·exact z
     ·have:k=p.1:=by simpa using z
      rw[this];exact y
   ·rw[map_append,mem_append];rfl
def tiL(rows:List (Int×Int)):List D:=(STW.setZ (rows.map (·.1))).reverse.map fun k=>.tup [.int k,.lst (((rows.filter fun p=>decide (p.1=k)).map (·.2)).map D.int)]
theorem GL(rows:List (Int×Int)):Uy (grp rows)=tiL rows:=by
 unfold Uy tiL xf
 rw[STW.up_same (STW.setZ_up _) (STW.setZ_up (rows.map (·.1))) fun x=>by rw[STW.setZ_mem,STW.setZ_mem];exact QZ x _ rows rfl]
 exact map_congr_left fun k _=>by rw[QY k _ rows rfl]
def wI(r:Rw):Int×Int:=(r.1,(r.2:Int))
theorem T9(rs:List Rw):rs.map zW=(rs.map wI).map jW:=by rw[map_map];rfl
def tiR(rs:List Rw):List D:=(STW.setZ (rs.map (·.1))).reverse.map fun k=>.tup [.int k,its ((rs.filter fun r=>decide (r.1=k)).map fun r=>(r.2:Int))]
theorem tiL_R(rs:List Rw):tiL (rs.map wI)=tiR rs:=by
 unfold tiL tiR
 have e:(rs.map wI).map (·.1)=rs.map (·.1):=by rw[map_map];rfl
 rw[e]
 refine map_congr_left fun k _=>?_
 unfold its
 rw[List.filter_map,map_map,map_map,map_map];rfl
theorem T1:Vp=(Yx 2 3 (xP (zq yF (za (zd 0) (za (zd 1) zh))))):=by unfold Vp;rfl
theorem Q3(it:FA)(A B:D)(rows:List (Int×Int))(h:it [some (.val A),some (.val B),none,none]=.ok (rows.map jW))(hl:rows.length<64):xA 4 (Yx 2 3 it) [A,B]=.ok (.lst (Uy (grp rows))):=by
 have st:zX 4 [A,B]=[some (.val A),some (.val B),none,none]:=rfl
 have v:vlB [some (.val A),some (.val B),none,none]=true:=rfl
 rw[yk,st]
 unfold Yx
 rw[if_pos ⟨v,by simp,by simp,by decide⟩]
 have e:([some (.val A),some (.val B),none,none]:DS).set 2 none=[some (.val A),some (.val B),none,none]:=rfl
 rw[e,h]
 simp only[WX,hl,if_true,zJ]
theorem GK(X:List (List Nat))(q:List Nat)(hq:q.length≤1000)(hX:∀x∈X,x.length≤1000)(ha:∀c∈q,c<128)(hl:X.length<64):wN [.lst (X.map tx),tx q]=.ok (.lst (tiR (zy X q))):=by
 have e:xP (zq yF (za (zd 0) (za (zd 1) zh))) [some (.val (.lst (X.map tx))),some (.val (tx q)),none,none]=.ok (((zy X q).map wI).map jW):=by
  rw[← T9]
  exact uC (u8 (zj rfl) (zj rfl) (Gz X q hq hX ha hl))
 have hz:=(Us X q hX hl).few
 unfold wN
 rw[T1,Q3 _ _ _ _ e (by rw[length_map];exact hz),GL,tiL_R]
def SR(X:List (List Nat))(q:List Nat):List Rw:=wF (wP X) (zy X q)
theorem xE(X:List (List Nat))(q:List Nat):(SR X q).Perm (zy X q):=Zq _ _
theorem Vs(X:List (List Nat))(q:List Nat):((zy X q).map (·.2)).Nodup:=(jc X q (List.range X.length)).nodup List.nodup_range
theorem vI(X:List (List Nat))(q:List Nat):(SR X q).length≤X.length:=by
 have:=(jc X q (List.range X.length)).length_le
 rw[length_map,length_range] at this
 rw[(xE X q).length_eq];exact this
theorem Ji(X:List (List Nat))(q:List Nat)(many:Nat)(hm:X.length≤many)(hq:q.length≤1000)(hX:∀x∈X,x.length≤1000)(ha:∀c∈q,c<128)(hl:X.length<64):xG [.lst (X.map tx),tx q,.int (many:Int)]=.ok (.lst ((SR X q).map zW)):=by
 rw[Gb X q many hq hX ha hl,take_of_length_le (by have:=vI X q;unfold SR at this;omega)];rfl
theorem Xu(X:List (List Nat))(q:List Nat)(r:Rw)(h:r∈zy X q):r.2<X.length∧∃t,vS q (X.getD r.2 [])=some t∧r.1=t.1:=by
 unfold zy Ym at h
 obtain⟨i,hi,hr⟩:=List.mem_flatMap.mp h
 have hi:=mem_range.mp hi
 unfold fr1 at hr
 cases z:vS q (X.getD i []) with
 |none=>rw[z] at hr;cases hr
 |some t=>
  rw[z] at hr
  have:r=(t.1,i):=by simpa using hr
  subst this
  exact⟨hi,t,z,rfl⟩
theorem JK(X:List (List Nat))(q:List Nat):(SR X q).Pairwise fun a b=>lxI (wP X a) (wP X b)=true:=Yu (wP X) _ (wS (uX X) _ (Vs X q))
def flt(rs:List Rw)(ks:List Int):List Rw:=ks.flatMap fun k=>rs.filter fun r=>decide (r.1=k)
theorem Xn{α β:Type}{l:List α}{f g:α→List β}(h:∀x∈l,f x=g x):l.flatMap f=l.flatMap g:=by
 rw[List.flatMap_def,List.flatMap_def,map_congr_left h]
def sh(n:Nat)(r:Rw):Rw:=(r.1,n+r.2)
def un(n:Nat)(r:Rw):Rw:=(r.1,r.2-n)
theorem un_sh(n:Nat)(r:Rw):un n (sh n r)=r:=by unfold un sh;simp
theorem Q2{A B:List (List Nat)}{i:Nat}(h:i<A.length):(A++B).getD i []=A.getD i []:=by
 rw[getD_eq_getElem?_getD,getD_eq_getElem?_getD,getElem?_append_left h]
theorem Q1{A B:List (List Nat)}{i:Nat}(h:A.length≤i):(A++B).getD i []=B.getD (i-A.length) []:=by
 rw[getD_eq_getElem?_getD,getD_eq_getElem?_getD,getElem?_append_right h]
theorem Zk(A B:List (List Nat))(q:List Nat):zy (A++B) q=zy A q++(zy B q).map (sh A.length):=by
 unfold zy Ym
 rw[length_append,List.range_add,List.flatMap_append,List.flatMap_map,List.map_flatMap]
 congr 1
 ·refine Xn fun i hi=>?_
  unfold fr1
  rw[Q2 (mem_range.mp hi)]
 ·refine Xn fun i hi=>?_
  unfold fr1
  rw[Q1 (by omega),Nat.add_sub_cancel_left]
  cases vS q (B.getD i []) with
  |none=>rfl
  |some t=>rfl
theorem GA(A B:List (List Nat))(q:List Nat):(zy (A++B) q).filter (fun r=>decide (r.2<A.length))=zy A q:=by
 rw[Zk,List.filter_append]
 have e1:(zy A q).filter (fun r=>decide (r.2<A.length))=zy A q:=List.filter_eq_self.mpr fun r hr=>by simpa using (Xu A q r hr).1
 have e2:((zy B q).map (sh A.length)).filter (fun r=>decide (r.2<A.length))=[]:=List.filter_eq_nil_iff.mpr fun r hr=>by
  obtain⟨s,_,rfl⟩:=mem_map.mp hr
  rw[decide_eq_true_eq]
  show ¬ (A.length+s.2<A.length)
  omega
 rw[e1,e2,append_nil]
theorem Ju(A B:List (List Nat))(q:List Nat):((zy (A++B) q).filter (fun r=>decide (A.length≤r.2))).map (un A.length)=zy B q:=by
 rw[Zk,List.filter_append]
 have e1:(zy A q).filter (fun r=>decide (A.length≤r.2))=[]:=List.filter_eq_nil_iff.mpr fun r hr=>by
  have:=(Xu A q r hr).1
  simp;omega
 have e2:((zy B q).map (sh A.length)).filter (fun r=>decide (A.length≤r.2))=(zy B q).map (sh A.length):=List.filter_eq_self.mpr fun r hr=>by
  obtain⟨s,_,rfl⟩:=mem_map.mp hr
  simp[sh]
 rw[e1,e2,List.nil_append,map_map]
 have:un A.length ∘ sh A.length=id:=funext fun r=>un_sh _ r
 rw[this,map_id]
theorem GY(A B:List (List Nat))(q:List Nat):(SR (A++B) q).filter (fun r=>decide (r.2<A.length))=SR A q:=by
 refine Zp (wP A) (rs:=zy A q) ?_ ?_ (wS (uX A) _ (Vs A q))
 ·rw[← GA A B q]
  exact(xE (A++B) q).filter _
 ·have h:=(JK (A++B) q).filter (fun r=>decide (r.2<A.length))
  refine List.Pairwise.imp_of_mem (fun {a b} ha hb hab=>?_) h
  have k:∀r∈(SR (A++B) q).filter (fun r=>decide (r.2<A.length)),wP (A++B) r=wP A r:=fun r hr=>by
   have:=(mem_filter.mp hr).2
   have hr:r.2<A.length:=by simpa using this
   unfold wP
   rw[Q2 hr]
  rw[← k a ha,← k b hb];exact hab
theorem lx3{a b c a' b' c' n:Int}:lxI [a,b,c-n] [a',b',c'-n]=lxI [a,b,c] [a',b',c']:=by
 simp only[lxI]
 by_cases h1:a=a'
 ·simp only[h1,if_true]
  by_cases h2:b=b'
  ·simp only[h2,if_true]
   by_cases h3:c=c'
   ·simp[h3]
   ·rw[if_neg h3,if_neg (by omega)]
    simp only[decide_eq_decide];omega
  ·simp[h2]
 ·simp[h1]
theorem JJ(A B:List (List Nat))(q:List Nat):((SR (A++B) q).filter (fun r=>decide (A.length≤r.2))).map (un A.length)=SR B q:=by
 refine Zp (wP B) (rs:=zy B q) ?_ ?_ (wS (uX B) _ (Vs B q))
 ·rw[← Ju A B q]
  exact((xE (A++B) q).filter _).map _
 ·have h:=(JK (A++B) q).filter (fun r=>decide (A.length≤r.2))
  rw[pairwise_map]
  refine List.Pairwise.imp_of_mem (fun {a b} ha hb hab=>?_) h
  have k:∀r∈(SR (A++B) q).filter (fun r=>decide (A.length≤r.2)),wP B (un A.length r)=[-r.1,(((A++B).getD r.2 []).length:Int),(r.2:Int)-(A.length:Int)]:=fun r hr=>by
   have:=(mem_filter.mp hr).2
   have hr:A.length≤r.2:=by simpa using this
   unfold wP un
   rw[Q1 hr]
   simp only[Int.ofNat_sub hr]
  rw[k a ha,k b hb,lx3];exact hab
def k2(X:List (List Nat))(r:Rw):List Int:=[-r.1,((X.getD r.2 []).length:Int)]
theorem k2_lt{a b c a' b' c':Int}(h:lxI [a,b,c] [a',b',c']=true):lxI [a',b'] [a,b]=false:=by
 simp only[lxI] at h ⊢
 by_cases h1:a=a'
 ·simp only[h1,if_true] at h ⊢
  by_cases h2:b=b'
  ·simp only[h2,if_true]
  ·rw[if_neg h2] at h
   rw[if_neg (fun z=>h2 z.symm)]
   simp only[decide_eq_true_eq,decide_eq_false_iff_not] at h ⊢;omega
 ·rw[if_neg h1] at h
  rw[if_neg (fun z=>h1 z.symm)]
  simp only[decide_eq_true_eq,decide_eq_false_iff_not] at h ⊢;omega
theorem QT(X:List (List Nat))(q:List Nat):((SR X q).map (k2 X)).Pairwise fun a b=>lxI b a=false:=by
 rw[pairwise_map]
 exact(JK X q).imp fun h=>k2_lt h
def kx(q x:List Nat):List (List Int):=((vS q x).map fun t=>[-t.1,(x.length:Int)]).toList
theorem QU(X:List (List Nat))(q:List Nat):(zy X q).map (k2 X)=X.flatMap (kx q):=by
 have e:X=(List.range X.length).map fun i=>X.getD i []:=by
  refine ext_getElem (by simp) fun i h1 h2=>?_
  simp[h1]
 unfold zy Ym
 conv=>rhs;rw[e]
 rw[List.flatMap_map,List.map_flatMap]
 refine Xn fun i hi=>?_
 unfold fr1 kx
 cases vS q (X.getD i []) with
 |none=>rfl
 |some t=>rfl
theorem LW(X:List (List Nat))(q:List Nat):((SR X.reverse q).map (k2 X.reverse)).Perm ((SR X q).map (k2 X)):=by
 refine((xE X.reverse q).map _).trans (List.Perm.trans ?_ ((xE X q).map _).symm)
 rw[QU,QU]
 exact(List.reverse_perm X).flatMap_right _
theorem V1:∀{l m:List (List Int)},l.Perm m→l.Pairwise (fun a b=>lxI b a=false)→m.Pairwise (fun a b=>lxI b a=false)→l=m
 |[],m,p,_,_=>List.Perm.nil_eq p
 |a::l,[],p,_,_=>by have:=p.length_eq;simp at this
 |a::l,b::m,p,h1,h2=>by
  obtain⟨x1,x2⟩:=pairwise_cons.mp h1
  obtain⟨y1,y2⟩:=pairwise_cons.mp h2
  have e:a=b:=by
   have ha:a∈b::m:=p.mem_iff.mp mem_cons_self
   have hb:b∈a::l:=p.mem_iff.mpr mem_cons_self
   rcases mem_cons.mp ha with z|z
   ·exact z
   ·rcases mem_cons.mp hb with w|w
    ·exact w.symm
    ·exact Xh a b (y1 a z) (x1 b w)
  subst e
  rw[V1 ((List.perm_cons a).mp p) x2 y2]
theorem V4(X:List (List Nat))(q:List Nat):(SR X.reverse q).map (k2 X.reverse)=(SR X q).map (k2 X):=V1 (LW X q) (QT _ q) (QT X q)
theorem Gp(X:List (List Nat))(q:List Nat):(SR X.reverse q).map (·.1)=(SR X q).map (·.1):=by
 have h:=congrArg (List.map fun k:List Int=>-(k.headD 0)) (V4 X q)
 rw[map_map,map_map] at h
 have e:∀Y:List (List Nat),((fun k:List Int=>-(k.headD 0)) ∘ k2 Y)=fun r=>r.1:=fun Y=>funext fun r=>by
  show -(-r.1)=r.1
  exact Int.neg_neg _
 rw[e,e] at h
 exact h
def gpI(rs:List Rw)(k:Int):List Int:=(rs.filter fun r=>decide (r.1=k)).map fun r=>(r.2:Int)
def ksR(rs:List Rw):List Int:=(STW.setZ (rs.map (·.1))).reverse
def tiK(rs:List Rw)(k:Int):D:=.tup [.int k,its (gpI rs k)]
theorem JE(rs:List Rw):tiR rs=(ksR rs).map (tiK rs):=rfl
theorem L8(A B:List (List Nat))(q:List Nat)(k:Int):gpI (zy (A++B) q) k=gpI (zy A q) k++(gpI (zy B q) k).map fun i=>i+(A.length:Int):=by
 unfold gpI
 rw[Zk,List.filter_append,map_append,List.filter_map,map_map,map_map]
 congr 1
 refine map_congr_left fun r _=>?_
 show((A.length+r.2:Nat):Int)=(r.2:Int)+(A.length:Int)
 omega
theorem TC(rs:List Rw):(ksR rs).Nodup:=by
 unfold ksR
 rw[List.nodup_iff_pairwise_ne,List.pairwise_reverse]
 exact(STW.setZ_up _).imp fun {a b} z=>(Int.ne_of_lt z).symm
theorem Xj(rs:List Rw)(k:Int):k∈ksR rs↔k∈rs.map (·.1):=by unfold ksR;rw[mem_reverse,STW.setZ_mem]
theorem QO(rs:List Rw):(ksR rs).length≤rs.length:=by
 unfold ksR
 rw[length_reverse]
 have:=STW.setZ_le (rs.map (·.1))
 rwa [length_map] at this
theorem L7(rs:List Rw)(k:Int)(h:k∉ksR rs):gpI rs k=[]:=by
 rw[Xj] at h
 unfold gpI
 rw[List.map_eq_nil_iff,List.filter_eq_nil_iff]
 intro r hr z
 exact h (mem_map.mpr ⟨r,hr,by simpa using z⟩)
def kyI(rs:List Rw):List Key:=(ksR rs).map .inl
def vlI(rs:List Rw):List D:=(ksR rs).map fun k=>its (gpI rs k)
theorem Qg(rs:List Rw):∀ks:List Int,vj (ks.map (tiK rs))=some (ks.map fun k=>(.inl k,its (gpI rs k))):=fun ks=>by
 induction ks with
 |nil=>rfl
 |cons k ks ih=>
  rw[map_cons]
  show(YI (.int k)).bind (fun k'=>(vj (ks.map (tiK rs))).map ((k',its (gpI rs k)) :: ·))=_
  rw[ih];rfl
theorem L6{ks:List Int}(h:ks.Nodup):(ks.map (Sum.inl:Int→Key)).Nodup:=by
 unfold List.Nodup at h ⊢
 rw[pairwise_map]
 exact h.imp fun hne z=>hne (Sum.inl.inj z)
theorem Gm(rs:List Rw)(h:rs.length≤1000):Wx [.lst (tiR rs)]=.ok (.dct (kyI rs) (vlI rs)):=by
 have hk:=QO rs
 unfold Wx
 dsimp only
 rw[JE,Qg]
 dsimp only
 have e1:((ksR rs).map fun k=>((Sum.inl k:Key),its (gpI rs k))).map (·.1)=kyI rs:=by rw[map_map];rfl
 have e2:((ksR rs).map fun k=>((Sum.inl k:Key),its (gpI rs k))).map (·.2)=vlI rs:=by rw[map_map];rfl
 rw[e1,e2,if_pos ⟨L6 (TC rs),by rw[length_map];omega⟩]
theorem M3(rs:List Rw)(k:Int):∀ks:List Int,Yl (ks.map .inl) (ks.map fun k=>its (gpI rs k)) (.inl k)=if k∈ks then some (its (gpI rs k)) else none:=fun ks=>by
 induction ks with
 |nil=>rfl
 |cons j ks ih=>
  rw[map_cons,map_cons,Yl,ih]
  by_cases z:j=k
  ·subst z;simp
  ·have:¬ (Sum.inl j:Key)=.inl k:=fun y=>z (Sum.inl.inj y)
   rw[if_neg this]
   have e:(k∈j::ks)=(k∈ks):=by rw[mem_cons];exact propext ⟨fun y=>y.resolve_left fun x=>z x.symm,.inr⟩
   simp only[e]
theorem QP(A B:List (List Nat))(q:List Nat):(STW.fm (ksR (zy A q)++ksR (zy B q)) (ksR (zy A q)++ksR (zy B q)).length).length=(ksR (zy (A++B) q)).length:=by
 have h1:(STW.fm (ksR (zy A q)++ksR (zy B q)) (ksR (zy A q)++ksR (zy B q)).length).Nodup:=STW.fm_nodup _ _
 refine((List.perm_ext_iff_of_nodup h1 (TC _)).mpr fun k=>?_).length_eq
 rw[STW.fm_mem,mem_append,Xj,Xj,Xj,Zk,map_append,mem_append,map_map]
 rfl
def mkS(x:List Nat):Str:=⟨x.toArray⟩
theorem MG{x y:List Nat}(h:mkS x=mkS y):x=y:=by
 have:=congrArg (fun s:Str=>s.cps.toList) h
 simpa[mkS] using this
theorem TB(s:Str):mkS s.cps.toList=s:=by cases s;simp[mkS]
theorem GS:∀l:List (List Nat),wZ (l.map tx)=some (l.map mkS):=fun l=>by
 induction l with
 |nil=>rfl
 |cons x l ih=>rw[map_cons,map_cons];show(wZ (l.map tx)).map _=_;rw[ih];rfl
def evL(X:List (List Nat)):List (List Nat):=(STW.srtS (STW.fmS (X.map mkS) (X.map mkS).length)).map fun s=>s.cps.toList
theorem ev_D(X:List (List Nat)):(STW.srtS (STW.fmS (X.map mkS) (X.map mkS).length)).map D.str=(evL X).map tx:=by
 unfold evL
 rw[map_map]
 refine map_congr_left fun s _=>?_
 show D.str s=D.str (mkS s.cps.toList)
 rw[TB]
theorem za6(X:List (List Nat))(r:List Nat)(h:r∈evL X):r∈X:=by
 unfold evL at h
 rw[mem_map] at h
 obtain⟨s,hs,rfl⟩:=h
 have h:=(STW.srtS_perm _).mem_iff.mp hs
 rw[STW.fmS_mem] at h
 obtain⟨p,hp,rfl⟩:=mem_map.mp h
 have:(mkS p).cps.toList=p:=MG (TB (mkS p))
 rw[this];exact hp
theorem za7(X:List (List Nat)):(evL X).length≤X.length:=by
 unfold evL
 rw[length_map,(STW.srtS_perm _).length_eq]
 have:=STW.fmT_le (fun i=>(X.map mkS).getD i "") (X.map mkS).length
 rw[length_map] at this ⊢
 exact this
theorem T6(X:List (List Nat))(h:X.length<64):XI [.lst (X.map tx)]=.ok ((evL X).map tx):=by
 unfold XI
 dsimp only
 rw[GS]
 dsimp only
 rw[if_pos (by rw[length_map];omega),ev_D]
theorem Gs(A B:List (List Nat))(h:A.length+B.length≤1000):zG (.lst (A.map tx)) (.lst (B.map tx))=.ok (.lst ((A++B).map tx)):=by
 show(if _ then Rs.ok (D.lst _) else Rs.no)=_
 rw[if_pos (by rw[zV,length_map,length_map];omega),← map_append]
theorem Up(a b:List Int)(h:a.length+b.length≤1000):zG (its a) (its b)=.ok (its (a++b)):=by
 show(if _ then Rs.ok (D.lst _) else Rs.no)=_
 rw[if_pos (by rw[zV,length_map,length_map];omega),← map_append]
theorem JU(X:List (List Nat)):G7 (.lst (X.map tx))=.ok (.lst (X.reverse.map tx)):=by
 show Rs.ok (D.lst _)=_
 rw[← List.map_reverse]
theorem up_k2(X:List (List Nat))(q:List Nat)(h:(SR X q).length<64):uo [.lst ((SR X q).map fun r=>kD (k2 X r))]=.ok (.lst ((SR X q).map fun r=>kD (k2 X r))):=by
 unfold uo
 dsimp only
 rw[jx (k2 X)]
 dsimp only
 rw[if_pos ⟨by rw[length_map];exact h,QT X q,fun k hk=>by obtain⟨r,_,rfl⟩:=mem_map.mp hk;exact fun z=>nomatch z⟩]
def flS:FS:=y3 (eC (.bl false))
def ifN(a b:FE):FS:=sIf (FD.tB (eOp neD a b)) flS yv
def nmE(a:Int):FE:=(zq yW (za (zd 0) (za (eC (.int a)) (za (eC (.int 3)) zh))))
def soE:FE:=(eOp zG (eOp zG (zd 1) (zd 2)) (vF (za (eC (.str "abc")) zh)))
def quE:FE:=(zq xl (za (zd 0) (za (eC (.int 120)) (za (eOp ixD (zd 3) (zq zo (za (zd 0) (za (eC (.int 119)) (za (yj yR (za (zd 3) zh)) zh))))) (za (eC (.int 3)) zh)))))
def fdE(e:FE):FE:=(zq xG (za e (za (zd 4) (za (eC (.int 99)) zh))))
def tiE(e:FE):FE:=(zq wN (za e (za (zd 4) zh)))
def ctE:FE:=(eOp zG (zd 1) (zd 2))
def l1E:FE:=(fun τ=>((xr 1 [1] (xP (zd 5)) (gNm 0) (FD.tB (eOp ltI (eOp ixD (zd 0) (eC (.int 1))) (yj yR (za (zd 1) zh)))) (zd 0)) τ).bind fun ds=>.ok (.lst ds))
def l2E:FE:=(fun τ=>((xr 2 [1] (xP (zd 5)) (gPr 0 1) (FD.tB (eOp geD (zd 1) (yj yR (za (zd 2) zh)))) (xQ (za (zd 0) (za (eOp vE (zd 1) (yj yR (za (zd 2) zh))) zh)))) τ).bind fun ds=>.ok (.lst ds))
def evE:FE:=(fun τ=>(((za ctE zh) τ).bind XI).bind fun ds=>.ok (.lst ds))
def cpE(i k:Nat):FE:=fun τ=>((xr 1 [] (xP (zd i)) (gNm 0) (fun _=>.ok true) (eOp ixD (zd 0) (eC (.int k)))) τ).bind fun ds=>.ok (.lst ds)
def szE(i:Nat)(e:FE):FE:=fun τ=>((xr 2 [7] (xP (zd i)) (gPr 0 1) (fun _=>.ok true) (xQ (za (eOp vE (eC (.int 0)) (zd 0)) (za (yj yR (za (eOp ixD e (zd 1)) zh)) zh)))) τ).bind fun ds=>.ok (.lst ds)
def gtE(i:Nat):FE:=(Z3 (zd i) (zd 14) (vF zh))
def shE:FE:=(fun τ=>((xr 1 [1] (xP (gtE 13)) (gNm 0) (fun _=>.ok true) (eOp zG (zd 0) (yj yR (za (zd 1) zh)))) τ).bind fun ds=>.ok (.lst ds))
def lpS:FS:=ifN (zd 15) (eOp zG (gtE 12) shE)
def enE:FE:=(eOp eqD (yj yR (za (tiE ctE) zh)) (fun τ=>((za (eOp zG (yj jv (za (zd 12) zh)) (yj jv (za (zd 13) zh))) zh) τ).bind WW))
def QJ:FS:=(zx (ifN l1E (fdE (zd 1))) (zx (yd 6 l2E) (zx (ifN (zd 6) (fdE (zd 2))) (zx (yd 7 evE) (zx (yd 8 (fdE (Jj (zd 7)))) (zx (yd 9 (fdE (zd 7))) (zx (ifN (cpE 8 0) (cpE 9 0))
 (zx (yd 10 (szE 9 (zd 2))) (zx (yd 11 (szE 8 (Jj (zd 2)))) (zx (sIf (XD (FD.tB (eOp neD (zd 10) (yj uo (za (zd 10) zh)))) (FD.tB (eOp neD (zd 10) (zd 11)))) flS yv)
 (zx (yd 12 (yj Wx (za (tiE (zd 1)) zh))) (zx (yd 13 (yj Wx (za (tiE (zd 2)) zh))) (zx (ua (xP (tiE ctE)) (gPr 14 15) lpS) (y3 enE))))))))))))))
theorem law_b:Gx=(zx (yd 1 (nmE 0)) (zx (yd 2 (nmE 60)) (zx (yd 3 soE) (zx (yd 4 quE) (zx (yd 5 (fdE ctE)) QJ))))):=by
 unfold Gx QJ nmE soE quE lpS enE ifN l1E l2E evE szE cpE shE gtE fdE tiE ctE flS;rfl
theorem Xk{a b:FE}{τ:DS}{x y:D}(h1:a τ=.ok x)(h2:b τ=.ok y)(h:neD x y=.ok (.bl false)):ifN a b τ=.nx τ:=if_n (ud (op2 h1 h2 h))
theorem cp0{τ:DS}{i:Nat}(rs:List Rw)(h:τ[i]?=some (some (.val (.lst (rs.map zW)))))(hl:rs.length≤1000):cpE i 0 τ=.ok (its (rs.map (·.1))):=
 frE (wk (uC (zj h)) (wV zW D.int (fun r=>r.1) rs fun r hr=>⟨_,rfl,op2 (zj rfl) rfl (Ts r)⟩) (by rw[length_map,length_map];omega))
theorem TK(X:List (List Nat))(rs:List Rw):gd 2 (.lst (rs.map fun r=>kD (k2 X r))):=fun d hd=>by
 obtain⟨r,_,rfl⟩:=mem_map.mp hd
 intro e he
 obtain⟨i,_,rfl⟩:=mem_map.mp he
 trivial
theorem Tq{τ:DS}{i:Nat}{e:FE}(X Y:List (List Nat))(q:List Nat)(h:τ[i]?=some (some (.val (.lst ((SR X q).map zW)))))(h7:τ[7]?=some (some (.val (.lst (Y.map tx)))))
  (he:∀r:Rw,e [some (.val (.int r.1)),some (.val (.int (r.2:Int))),some (.val (.lst (Y.map tx)))]=.ok (.lst (X.map tx))) (hX:∀x∈X,x.length≤1000) (hl:(SR X q).length≤1000) :
  szE i e τ=.ok (.lst ((SR X q).map fun r=>kD (k2 X r))):=by
 have t0:wD 2 [7] τ=[none,none,some (.val (.lst (Y.map tx)))]:=by
  show [none,none,vU τ[7]?]=_
  rw[h7];rfl
 have c1:=wV (set:=gPr 0 1) (fe:=(xQ (za (eOp vE (eC (.int 0)) (zd 0)) (za (yj yR (za (eOp ixD e (zd 1)) zh)) zh)))) (τ:=[none,none,some (.val (.lst (Y.map tx)))]) zW (fun r=>kD (k2 X r)) id (SR X q) fun r hr=>by
  have hlt:=(Xu X q r ((xE X q).mem_iff.mp hr)).1
  have hsz:=hX _ (getD_mem hlt)
  refine⟨[some (.val (.int r.1)),some (.val (.int (r.2:Int))),some (.val (.lst (Y.map tx)))],rfl,?_⟩
  refine(Xz (op2 rfl (zj rfl) wm) (vw (op2 (he r) (zj rfl) (uT X r.2 hlt)) (um _ hsz))).trans ?_
  unfold kD k2
  rw[Int.zero_sub];rfl
 rw[map_id] at c1
 exact frE (wk (uC (zj h)) (by rw[t0];exact c1) (by rw[length_map];omega))
section
variable{ns:List Int}{A B:List (List Nat)}{q:List Nat}{s5 s6 s7 s8 s9 s10 s11 s12 s13 s14 s15:Option Sl}
abbrev T(ns:List Int)(A B:List (List Nat))(q:List Nat)(s5 s6 s7 s8 s9 s10 s11 s12 s13 s14 s15:Option Sl):DS:=[some (.val (.scr ns)),some (.val (.lst (A.map tx))),some (.val (.lst (B.map tx))),some (.val (.lst ((A++B++[abcN]).map tx))),some (.val (tx q)),s5,s6,s7,s8,s9,s10,s11,s12,s13,s14,s15]
structure Ok1(ns:List Int)(A B:List (List Nat))(q:List Nat):Prop where
 h63:ns.length≤63
 q3:q.length≤3
 qs:∀c∈q,c<128
 xa:∀x∈A,x.length≤1000
 xb:∀x∈B,x.length≤1000
 fa:A.length≤3
 fb:B.length≤3
theorem Ok1.xs(h:Ok1 ns A B q):∀x∈A++B,x.length≤1000:=fun x hx=>(mem_append.mp hx).elim (h.xa x) (h.xb x)
theorem Ok1.few(h:Ok1 ns A B q):(A++B).length≤6:=by rw[length_append];have:=h.fa;have:=h.fb;omega
theorem Wr{e:FE}{τ:DS}(X:List (List Nat))(q:List Nat)(h4:τ[4]?=some (some (.val (tx q))))(he:e τ=.ok (.lst (X.map tx)))(hq:q.length≤3)(hs:∀c∈q,c<128)(hX:∀x∈X,x.length≤1000)(hl:X.length≤6):fdE e τ=.ok (.lst ((SR X q).map zW)):=
 vR he (zj h4) rfl (Ji X q 99 (by omega) (by omega) hX hs (by omega))
theorem Vw{e:FE}{τ:DS}(X:List (List Nat))(q:List Nat)(h4:τ[4]?=some (some (.val (tx q))))(he:e τ=.ok (.lst (X.map tx)))(hq:q.length≤3)(hs:∀c∈q,c<128)(hX:∀x∈X,x.length≤1000)(hl:X.length≤6):tiE e τ=.ok (.lst (tiR (zy X q))):=
 u8 he (zj h4) (GK X q (by omega) hX hs (by omega))
theorem Uo(h:Ok1 ns A B q):ctE (T ns A B q s5 s6 s7 s8 s9 s10 s11 s12 s13 s14 s15)=.ok (.lst ((A++B).map tx)):=op2 (zj rfl) (zj rfl) (Gs A B (by have:=h.fa;have:=h.fb;omega))
theorem sr6{X:List (List Nat)}(h:X.length≤6):(SR X q).length≤6:=le_trans (vI X q) h
theorem l1_ok(h:Ok1 ns A B q):l1E (T ns A B q (some (.val (.lst ((SR (A++B) q).map zW)))) s6 s7 s8 s9 s10 s11 s12 s13 s14 s15)=.ok (.lst ((SR A q).map zW)):=by
 rw[← GY A B q]
 have hz:=length_filter_le (fun r:Rw=>decide (r.2<A.length)) (SR (A++B) q)
 have hl:=sr6 (q:=q) h.few
 refine frE (wk (uC (zj rfl)) (x8 zW zW (fun r=>decide (r.2<A.length)) (SR (A++B) q) fun r hr=>⟨[some (.val (zW r)),some (.val (.lst (A.map tx)))],rfl,?_,zj rfl⟩) (by rw[length_map];omega))
 refine ud (op2 (op2 (zj rfl) rfl (JT r)) (vw (zj rfl) wz) ?_)
 rw[ltI_i,length_map]
 simp only[Int.ofNat_lt]
theorem l2_ok(h:Ok1 ns A B q):l2E (T ns A B q (some (.val (.lst ((SR (A++B) q).map zW)))) s6 s7 s8 s9 s10 s11 s12 s13 s14 s15)=.ok (.lst ((SR B q).map zW)):=by
 rw[← JJ A B q]
 have hz:=length_filter_le (fun r:Rw=>decide (A.length≤r.2)) (SR (A++B) q)
 have hl:=sr6 (q:=q) h.few
 have e:((SR (A++B) q).filter fun r=>decide (A.length≤r.2)).map (fun r:Rw=>D.tup [.int r.1,.int ((r.2:Int)-(A.length:Int))])=(((SR (A++B) q).filter fun r=>decide (A.length≤r.2)).map (un A.length)).map zW:=by
  rw[map_map]
  refine map_congr_left fun r hr=>?_
  have hr:A.length≤r.2:=by simpa using (mem_filter.mp hr).2
  show _=D.tup [.int r.1,.int ((r.2-A.length:Nat):Int)]
  rw[Int.ofNat_sub hr]
 rw[← e]
 refine frE (wk (uC (zj rfl)) (x8 zW (fun r:Rw=>D.tup [.int r.1,.int ((r.2:Int)-(A.length:Int))]) (fun r=>decide (A.length≤r.2)) (SR (A++B) q) fun r hr=>⟨[some (.val (.int r.1)),some (.val (.int (r.2:Int))),some (.val (.lst (A.map tx)))],rfl,?_,?_⟩) (by rw[length_map];omega))
 ·refine ud (op2 (zj rfl) (vw (zj rfl) wz) ?_)
  rw[geD_i,length_map]
  simp only[Int.ofNat_le]
 ·exact Xz (zj rfl) (op2 (zj rfl) (vw (zj rfl) wz) (by rw[wm,length_map]))
theorem ev_ok(h:Ok1 ns A B q):evE (T ns A B q s5 s6 s7 s8 s9 s10 s11 s12 s13 s14 s15)=.ok (.lst ((evL (A++B)).map tx)):=by
 show(((za ctE zh) _).bind XI).bind (fun ds=>Rs.ok (D.lst ds))=_
 have:=h.few
 rw[arg1 (Uo h),Rs.bind_ok,T6 _ (by omega),Rs.bind_ok]
theorem TH{τ:DS}{i:Nat}(rs:List Rw)(k:Int)(hi:τ[i]?=some (some (.val (.dct (kyI rs) (vlI rs)))))(hk:τ[14]?=some (some (.val (.int k)))):gtE i τ=.ok (its (gpI rs k)):=by
 unfold gtE Z3
 rw[zj hi,Rs.bind_ok]
 dsimp only
 rw[zj hk,Rs.bind_ok,nilE,Rs.bind_ok]
 show Rs.ok ((Yl (kyI rs) (vlI rs) (.inl k)).getD (.lst []))=_
 unfold kyI vlI
 rw[M3]
 by_cases z:k∈ksR rs
 ·rw[if_pos z];rfl
 ·rw[if_neg z,L7 rs k z];rfl
theorem TJ(rs:List Rw)(k:Int):(gpI rs k).length≤rs.length:=by
 unfold gpI
 rw[length_map]
 exact length_filter_le _ _
theorem lp_ok(h:Ok1 ns A B q):∀(ks:List Int) (s14 s15:Option Sl),∃t14 t15,xc (gPr 14 15) lpS (ks.map (tiK (zy (A++B) q))) (T ns A B q s5 s6 s7 s8 s9 s10 s11 (some (.val (.dct (kyI (zy A q)) (vlI (zy A q))))) (some (.val (.dct (kyI (zy B q)) (vlI (zy B q))))) s14 s15)
  = .nx (T ns A B q s5 s6 s7 s8 s9 s10 s11 (some (.val (.dct (kyI (zy A q)) (vlI (zy A q))))) (some (.val (.dct (kyI (zy B q)) (vlI (zy B q))))) t14 t15):=fun ks=>by
 induction ks with
 |nil=>exact fun s14 s15=>⟨s14,s15,rfl⟩
 |cons k ks ih=>
  intro s14 s15
  obtain⟨t14,t15,e⟩:=ih (some (.val (.int k))) (some (.val (its (gpI (zy (A++B) q) k))))
  refine⟨t14,t15,?_⟩
  have g:gPr 14 15 (tiK (zy (A++B) q) k) (T ns A B q s5 s6 s7 s8 s9 s10 s11 (some (.val (.dct (kyI (zy A q)) (vlI (zy A q))))) (some (.val (.dct (kyI (zy B q)) (vlI (zy B q))))) s14 s15)=.ok (T ns A B q s5 s6 s7 s8 s9 s10 s11 (some (.val (.dct (kyI (zy A q)) (vlI (zy A q))))) (some (.val (.dct (kyI (zy B q)) (vlI (zy B q))))) (some (.val (.int k))) (some (.val (its (gpI (zy (A++B) q) k))))):=rfl
  have la:(zy A q).length≤3:=by rw[← (xE A q).length_eq];exact le_trans (vI A q) h.fa
  have lb:(zy B q).length≤3:=by rw[← (xE B q).length_eq];exact le_trans (vI B q) h.fb
  have ga:=TJ (zy A q) k
  have gb:=TJ (zy B q) k
  have e2:shE (T ns A B q s5 s6 s7 s8 s9 s10 s11 (some (.val (.dct (kyI (zy A q)) (vlI (zy A q))))) (some (.val (.dct (kyI (zy B q)) (vlI (zy B q))))) (some (.val (.int k))) (some (.val (its (gpI (zy (A++B) q) k)))))=.ok (its ((gpI (zy B q) k).map fun i=>i+(A.length:Int))):=by
   refine frE (wk (uC (TH (zy B q) k rfl rfl)) (wV D.int D.int (fun i=>i+(A.length:Int)) (gpI (zy B q) k) fun i hi=>⟨[some (.val (.int i)),some (.val (.lst (A.map tx)))],rfl,op2 (zj rfl) (vw (zj rfl) wz) ?_⟩) (by rw[length_map,length_map];omega))
   rw[xD,length_map]
  have b:lpS (T ns A B q s5 s6 s7 s8 s9 s10 s11 (some (.val (.dct (kyI (zy A q)) (vlI (zy A q))))) (some (.val (.dct (kyI (zy B q)) (vlI (zy B q))))) (some (.val (.int k))) (some (.val (its (gpI (zy (A++B) q) k)))))=.nx (T ns A B q s5 s6 s7 s8 s9 s10 s11 (some (.val (.dct (kyI (zy A q)) (vlI (zy A q))))) (some (.val (.dct (kyI (zy B q)) (vlI (zy B q))))) (some (.val (.int k))) (some (.val (its (gpI (zy (A++B) q) k))))):=by
   unfold lpS
   refine Xk (zj rfl) (op2 (TH (zy A q) k rfl rfl) e2 (Up _ _ (by rw[length_map];omega))) ?_
   rw[L8]
   exact Zc (Uf _) (by decide)
  rw[map_cons,xc,g,Fl.of_ok,b]
  exact e
theorem en_ok(h:Ok1 ns A B q):enE (T ns A B q s5 s6 s7 s8 s9 s10 s11 (some (.val (.dct (kyI (zy A q)) (vlI (zy A q))))) (some (.val (.dct (kyI (zy B q)) (vlI (zy B q))))) s14 s15)=.ok (.bl true):=by
 have la:(zy A q).length≤3:=by rw[← (xE A q).length_eq];exact le_trans (vI A q) h.fa
 have lb:(zy B q).length≤3:=by rw[← (xE B q).length_eq];exact le_trans (vI B q) h.fb
 have ka:=QO (zy A q)
 have kb:=QO (zy B q)
 have e0:∀rs:List Rw,jv [.dct (kyI rs) (vlI rs)]=.ok (its (ksR rs)):=fun rs=>by
  show Rs.ok (D.lst ((kyI rs).map Td))=_
  unfold kyI its
  rw[map_map];rfl
 unfold enE
 refine op2 (a:=.int ((ksR (zy (A++B) q)).length:Int)) (b:=.int ((ksR (zy (A++B) q)).length:Int)) ?_ ?_ ?_
 ·refine vw (Vw (A++B) q rfl (Uo h) h.q3 h.qs h.xs h.few) ?_
  rw[JE,wz,length_map]
 ·show((za (eOp zG _ _) zh) _).bind WW=_
  rw[arg1 (op2 (vw (zj rfl) (e0 (zy A q))) (vw (zj rfl) (e0 (zy B q))) (Up _ _ (by omega))),Rs.bind_ok]
  unfold WW its
  dsimp only
  rw[Vc]
  dsimp only
  rw[if_pos (by rw[length_append];omega),QP]
 ·rw[vC];simp
theorem G8(h:Ok1 ns A B q):QJ (T ns A B q (some (.val (.lst ((SR (A++B) q).map zW)))) none none none none none none none none none none)=.rt (.bl true):=by
 have hE:∀x∈evL (A++B),x.length≤1000:=fun x hx=>h.xs x (za6 _ x hx)
 have lE:(evL (A++B)).length≤6:=le_trans (za7 _) h.few
 have hR:∀x∈(evL (A++B)).reverse,x.length≤1000:=fun x hx=>hE x (mem_reverse.mp hx)
 have lR:(evL (A++B)).reverse.length≤6:=by rw[length_reverse];exact lE
 have la:(zy A q).length≤3:=by rw[← (xE A q).length_eq];exact le_trans (vI A q) h.fa
 have lb:(zy B q).length≤3:=by rw[← (xE B q).length_eq];exact le_trans (vI B q) h.fb
 have zE:=sr6 (q:=q) lE
 have zR:=sr6 (q:=q) lR
 unfold QJ
 rw[xn (Xk (l1_ok h) (Wr A q rfl (zj rfl) h.q3 h.qs h.xa (le_trans h.fa (by decide))) (VX _))]
 rw[xn (xV (l2_ok h))]
 show zx _ _ (T ns A B q (some (.val (.lst ((SR (A++B) q).map zW)))) (some (.val (.lst ((SR B q).map zW)))) none none none none none none none none none)=_
 generalize some (Sl.val (.lst ((SR (A++B) q).map zW)))=z5
 rw[xn (Xk (zj rfl) (Wr B q rfl (zj rfl) h.q3 h.qs h.xb (le_trans h.fb (by decide))) (VX _))]
 generalize some (Sl.val (.lst ((SR B q).map zW)))=z6
 rw[xn (xV (ev_ok h))]
 show zx _ _ (T ns A B q z5 z6 (some (.val (.lst ((evL (A++B)).map tx)))) none none none none none none none none)=_
 generalize evL (A++B)=X at hE lE hR lR zE zR
 rw[xn (xV (Wr X.reverse q rfl (by rw[Ui,zj (d:=.lst (X.map tx)) rfl,Rs.bind_ok,JU]) h.q3 h.qs hR lR))]
 show zx _ _ (T ns A B q z5 z6 (some (.val (.lst (X.map tx)))) (some (.val (.lst ((SR X.reverse q).map zW)))) none none none none none none none)=_
 rw[xn (xV (Wr X q rfl (zj rfl) h.q3 h.qs hE lE))]
 show zx _ _ (T ns A B q z5 z6 (some (.val (.lst (X.map tx)))) (some (.val (.lst ((SR X.reverse q).map zW)))) (some (.val (.lst ((SR X q).map zW)))) none none none none none none)=_
 rw[xn (Xk (cp0 (i:=8) (SR X.reverse q) rfl (by omega)) (cp0 (i:=9) (SR X q) rfl (by omega)) (by rw[Gp];exact Zc (Uf _) (by decide)))]
 rw[xn (xV (Tq (i:=9) X X q rfl rfl (fun r=>zj rfl) hE (by omega)))]
 show zx _ _ (T ns A B q z5 z6 (some (.val (.lst (X.map tx)))) (some (.val (.lst ((SR X.reverse q).map zW)))) (some (.val (.lst ((SR X q).map zW)))) (some (.val (.lst ((SR X q).map fun r=>kD (k2 X r))))) none none none none none)=_
 rw[xn (xV (Tq (i:=8) X.reverse X q rfl rfl (fun r=>by rw[Ui,zj (d:=.lst (X.map tx)) rfl,Rs.bind_ok,JU]) hR (by omega)))]
 have ek:(SR X.reverse q).map (fun r=>kD (k2 X.reverse r))=(SR X q).map fun r=>kD (k2 X r):=by
  have:=congrArg (List.map kD) (V4 X q)
  rw[map_map,map_map] at this
  exact this
 rw[ek]
 show zx _ _ (T ns A B q z5 z6 (some (.val (.lst (X.map tx)))) (some (.val (.lst ((SR X.reverse q).map zW)))) (some (.val (.lst ((SR X q).map zW)))) (some (.val (.lst ((SR X q).map fun r=>kD (k2 X r))))) (some (.val (.lst ((SR X q).map fun r=>kD (k2 X r))))) none none none none)=_
 rw[xn (if_n (or_tr (ud (op2 (zj rfl) (vw (zj rfl) (up_k2 X q (by omega))) (Zc (TK X _) (by decide)))) (ud (op2 (zj rfl) (zj rfl) (Zc (TK X _) (by decide))))))]
 generalize some (Sl.val (.lst ((SR X q).map fun r=>kD (k2 X r))))=z10
 generalize some (Sl.val (.lst ((SR X q).map zW)))=z9
 generalize some (Sl.val (.lst ((SR X.reverse q).map zW)))=z8
 generalize some (Sl.val (.lst (X.map tx)))=z7
 rw[xn (xV (vw (Vw A q rfl (zj rfl) h.q3 h.qs h.xa (le_trans h.fa (by decide))) (Gm (zy A q) (by omega))))]
 show zx _ _ (T ns A B q z5 z6 z7 z8 z9 z10 z10 (some (.val (.dct (kyI (zy A q)) (vlI (zy A q))))) none none none)=_
 rw[xn (xV (vw (Vw B q rfl (zj rfl) h.q3 h.qs h.xb (le_trans h.fb (by decide))) (Gm (zy B q) (by omega))))]
 show zx _ _ (T ns A B q z5 z6 z7 z8 z9 z10 z10 (some (.val (.dct (kyI (zy A q)) (vlI (zy A q))))) (some (.val (.dct (kyI (zy B q)) (vlI (zy B q))))) none none)=_
 obtain⟨t14,t15,e⟩:=lp_ok (s5:=z5) (s6:=z6) (s7:=z7) (s8:=z8) (s9:=z9) (s10:=z10) (s11:=z10) h (ksR (zy (A++B) q)) none none
 rw[xn (by rw[vc,uC (Vw (A++B) q rfl (Uo h) h.q3 h.qs h.xs h.few),Fl.of_ok,JE];exact e)]
 exact Lb (en_ok h)
end
theorem main:∀ns:List Int,ns.length≤63→VY [.scr ns]=.ok (.bl true):=fun ns h63=>by
 obtain⟨A,ea,la,hA⟩:=X4 ns 0 3 h63 (by decide) (by decide) (by decide) (by decide)
 obtain⟨B,eb,lb,hB⟩:=X4 ns 60 3 h63 (by decide) (by decide) (by decide) (by decide)
 have st:zX 16 [.scr ns]=[some (.val (.scr ns)),none,none,none,none,none,none,none,none,none,none,none,none,none,none,none]:=rfl
 unfold VY
 have e1:nmE 0 [some (.val (.scr ns)),none,none,none,none,none,none,none,none,none,none,none,none,none,none,none]=.ok (.lst (A.map tx)):=vR (zj rfl) rfl rfl ea
 have e2:nmE 60 [some (.val (.scr ns)),some (.val (.lst (A.map tx))),none,none,none,none,none,none,none,none,none,none,none,none,none,none]=.ok (.lst (B.map tx)):=vR (zj rfl) rfl rfl eb
 rw[law_b,yk,st,xn (xV e1)]
 show jO (zx _ _ [some (.val (.scr ns)),some (.val (.lst (A.map tx))),none,none,none,none,none,none,none,none,none,none,none,none,none,none])=_
 rw[xn (xV e2)]
 show jO (zx _ _ [some (.val (.scr ns)),some (.val (.lst (A.map tx))),some (.val (.lst (B.map tx))),none,none,none,none,none,none,none,none,none,none,none,none,none])=_
 have e3:soE [some (.val (.scr ns)),some (.val (.lst (A.map tx))),some (.val (.lst (B.map tx))),none,none,none,none,none,none,none,none,none,none,none,none,none]=.ok (.lst ((A++B++[abcN]).map tx)):=
  op2 (op2 (zj rfl) (zj rfl) (Gs A B (by omega))) (Qy rfl) (Th (A++B) (by rw[length_append];omega))
 rw[xn (xV e3)]
 show jO (zx _ _ [some (.val (.scr ns)),some (.val (.lst (A.map tx))),some (.val (.lst (B.map tx))),some (.val (.lst ((A++B++[abcN]).map tx))),none,none,none,none,none,none,none,none,none,none,none,none])=_
 have hl:((A++B++[abcN]).length:Int)≤7:=by rw[length_append,length_append,length_singleton];omega
 have hl0:(0:Int)<((A++B++[abcN]).length:Int):=by rw[length_append,length_singleton];omega
 have hN:∀x∈A++B++[abcN],GG x:=fun x hx=>by
  rcases mem_append.mp hx with z|z
  ·rcases mem_append.mp z with z|z
   ·exact hA x z
   ·exact hB x z
  ·rw[mem_singleton.mp z];exact zb7
 have dl:=wj ns 119 (m:=((A++B++[abcN]).length:Int)) hl0
 have dk:=wg ns 119 ((A++B++[abcN]).length:Int) h63 (by decide) (by decide) hl0
 have hi:(xM ns 119 ((A++B++[abcN]).length:Int)).toNat<(A++B++[abcN]).length:=by omega
 have hn:=hN _ (getD_mem hi)
 obtain⟨q,q1,q2,q3⟩:=JX ns 120 _ 3 h63 (by decide) (by decide) (by decide) (by decide) hn.1 (le_trans hn.2.1 (by decide)) hn.2.2
 have ix:=uT (A++B++[abcN]) _ hi
 rw[Int.toNat_of_nonneg dl.1] at ix
 have e4:quE [some (.val (.scr ns)),some (.val (.lst (A.map tx))),some (.val (.lst (B.map tx))),some (.val (.lst ((A++B++[abcN]).map tx))),none,none,none,none,none,none,none,none,none,none,none,none]=.ok (tx q):=
  zb4 (zj rfl) rfl (op2 (zj rfl) (vR (zj rfl) rfl (vw (zj rfl) (by rw[wz,length_map])) dk) ix) rfl q3
 rw[xn (xV e4)]
 show jO (zx _ _ (T ns A B q none none none none none none none none none none none))=_
 have h:Ok1 ns A B q:=⟨h63,by omega,fun c hc=>(f6 c (q2 c hc)).1,fun x hx=>le_trans (hA x hx).2.1 (by decide),fun x hx=>le_trans (hB x hx).2.1 (by decide),by omega,by omega⟩
 rw[xn (xV (Wr (A++B) q rfl (Uo h) h.q3 h.qs h.xs h.few))]
 show jO (QJ (T ns A B q (some (.val (.lst ((SR (A++B) q).map zW)))) none none none none none none none none none none))=_
 rw[G8 h];rfl
set_option maxHeartbeats 4000000
def top(i:Nat):Stmt:=PySem.Challenge.pw_fewfind_k22_whole_lists.main.body.getD i (.Pass ⟨0,0,0,0⟩)
section
variable{P:Program}{w:World}{K:PySem.W.Frag}{mg:Str→Option Value}{base:Heap}
abbrev xv:Stmt:=top 32
theorem Y3:zS ["_law_script", "_law_k"] ["_law_script", "_law_k"] (zk xv):=⟨rfl,rfl,rfl,by decide +kernel,rfl,by decide +kernel,by decide +kernel⟩
theorem Xd{f:Addr}{fd:FuncData}(A_:ye K mg "_law_cell" xv f fd)(z_len:mg "len" = none):DefOk P w K mg base "_law_cell" 1 2 ["_law_script", "_law_k"] xL:=by
 refine DefOk.mk (k:=0) A_ Y3 rfl (fun _ _ _ _ _ _ us hl=>match us,hl with | [_,_],_=>rfl) (fun cdv A outer s H E hr=>?_) fun _ _ _ h=>h
 exact(zm (xq (yf (wM hr.units) (zb (pv 0)) (vg zg) (yJ _)) (zp (zO (zr xZ zi (zb (pv 1))))) yt) (zp (zO (zr zC (zI yo (zb (pv 0)) (zr v4 (zb (pv 1)) (zK xz rfl z_len PySem.boot_len (zc (zb (pv 0)) zg)))) (zr xZ zi (zr uS (zb (pv 1)) (zK xz rfl z_len PySem.boot_len (zc (zb (pv 0)) zg))))))))
abbrev xk:Stmt:=top 33
theorem sc__law_drawn:zS ["_law_script", "_law_k", "_law_many", "_law_cell_here"] ["_law_script", "_law_k", "_law_many"] (zk xk):=⟨rfl,rfl,rfl,by decide +kernel,rfl,by decide +kernel,by decide +kernel⟩
theorem Yi{f:Addr}{fd:FuncData}(A_:ye K mg "_law_drawn" xk f fd)(h__law_cell:DefOk P w K mg base "_law_cell" 1 2 ["_law_script", "_law_k"] xL):DefOk P w K mg base "_law_drawn" 2 3 ["_law_script", "_law_k", "_law_many"] zo:=by
 refine DefOk.mk (k:=1) A_ sc__law_drawn rfl (fun _ _ _ _ _ _ us hl=>match us,hl with | [_,_,_],_=>rfl) (fun cdv A outer s H E hr=>?_) fun _ _ _ h=>h
 exact(zm (zN (i:=3) sc__law_drawn.nd rfl (Or.inl rfl) (zr v4 (zr zC (zr xZ (zr v4 (zB h__law_cell (hr.mono (by decide)) (zc (zb (pv 0)) (zc (zb (pv 1)) zg)) (ze (ze zu))) zi) zi) (zr xZ zi (zr zC (zb (pv 1)) zi))) zi)) (zm (zN (i:=3) sc__law_drawn.nd rfl (Or.inl rfl) (zr v4 (zr zC (zr xZ (zb (pv 3)) (zb (pv 3))) (zr uS (zb (pv 3)) zi)) zi)) (zp (zO (zr v4 (zr uS (zr v4 (zr zC (zr xZ (zb (pv 3)) (zb (pv 3))) (zr uS (zb (pv 3)) zi)) zi) zi) (zb (pv 2)))))))
abbrev xt:Stmt:=top 34
theorem sc__law_name:zS ["_law_script", "_law_at", "_law_found", "_law_k"] ["_law_script", "_law_at"] (zk xt):=⟨rfl,rfl,rfl,by decide +kernel,rfl,by decide +kernel,by decide +kernel⟩
theorem Xb{f:Addr}{fd:FuncData}(A_:ye K mg "_law_name" xt f fd)(h__law_drawn:DefOk P w K mg base "_law_drawn" 2 3 ["_law_script", "_law_k", "_law_many"] zo)(z_range:mg "range" = none):DefOk P w K mg base "_law_name" 3 2 ["_law_script", "_law_at"] y8:=by
 refine DefOk.mk (k:=2) A_ sc__law_name rfl (fun _ _ _ _ _ _ us hl=>match us,hl with | [_,_],_=>rfl) (fun cdv A outer s H E hr=>?_) fun _ _ _ h=>h
 exact(zm (zN (i:=2) sc__law_name.nd rfl (Or.inl rfl) vf) (zm (ve PassesOwn.never rfl (wv rfl z_range (zc (zr zC zi (zB h__law_drawn (hr.mono (by decide)) (zc (zb (pv 0)) (zc (zb (pv 1)) (zc zi zg))) (ze (ze (ze zu))))) zg)) (yU sc__law_name.nd rfl (Or.inl rfl)) (zp (zN (i:=2) sc__law_name.nd rfl (Or.inl rfl) (zr zC (zb (pv 2)) (zI yo vf (zB h__law_drawn (hr.mono (by decide)) (zc (zb (pv 0)) (zc (zr zC (zr zC (zb (pv 1)) zi) (zb (pv 3))) (zc zi zg))) (ze (ze (ze zu))))))))) (zp (zO (zb (pv 2))))))
abbrev xj:Stmt:=top 36
theorem sc__law_names:zS ["_law_script", "_law_at", "_law_most", "_law_found"] ["_law_script", "_law_at", "_law_most"] (zk xj):=⟨rfl,rfl,rfl,by decide +kernel,rfl,by decide +kernel,by decide +kernel⟩
theorem Yh{f:Addr}{fd:FuncData}(A_:ye K mg "_law_names" xj f fd)(h__law_drawn:DefOk P w K mg base "_law_drawn" 2 3 ["_law_script", "_law_k", "_law_many"] zo)(h__law_name:DefOk P w K mg base "_law_name" 3 2 ["_law_script", "_law_at"] y8)(z_len:mg "len" = none)(z_range:mg "range" = none):DefOk P w K mg base "_law_names" 4 3 ["_law_script", "_law_at", "_law_most"] yW:=by
 refine DefOk.mk (k:=3) A_ sc__law_names rfl (fun _ _ _ _ _ _ us hl=>match us,hl with | [_,_,_],_=>rfl) (fun cdv A outer s H E hr=>?_) fun _ _ _ h=>h
 exact(zm (UQ (i:=3) sc__law_names.nd rfl rfl rfl (tn:=["_law_k"]) (fr:=["_law_script", "_law_at"]) (idx:=[0,1]) rfl rfl ⟨rfl,rfl,⟨rfl,rfl,trivial⟩⟩ (x0 0) (wv rfl z_range (zc (zB h__law_drawn (hr.mono (by decide)) (zc (zb (pv 0)) (zc (zb (pv 1)) (zc (zr zC (zb (pv 2)) zi) zg))) (ze (ze (ze zu)))) zg)) (fun s H C fp=>(yU (show List.Nodup (["_law_k", "_law_script", "_law_at"]:List Str) by decide +kernel) rfl (Or.inl rfl))) (fun s H C fp=>wu) (fun s H C fp=>(zB h__law_name (hr.mono (by decide)) (zc (zb (pv 1)) (zc (zr zC (zr zC (zb (pv 2)) zi) (zr xZ zi (zb (pv 0)))) zg)) (ze (ze zu))))) (zm (xq (XV (VO (yf W6 (Qd (pv 3) rfl z_len) zi (yJ _)) (XU (yf (wM hr.units) (zB h__law_drawn (hr.mono (by decide)) (zc (zb (pv 0)) (zc (zr zC (zb (pv 1)) zi) (zc zi zg))) (ze (ze (ze zu)))) zi (yJ _))))) (zp (Mq (pv 3) zi (Mr (pv 3) (we zi)))) yt) (zp (Zx (pv 3)))))
abbrev xu:Stmt:=top 35
theorem Y2:zS ["_law_sign"] ["_law_sign"] (zk xu):=⟨rfl,rfl,rfl,by decide +kernel,rfl,by decide +kernel,by decide +kernel⟩
theorem Xc{f:Addr}{fd:FuncData}(A_:ye K mg "_law_mark" xu f fd):DefOk P w K mg base "_law_mark" 1 1 ["_law_sign"] y9:=by
 refine DefOk.mk (k:=0) A_ Y2 rfl (fun _ _ _ _ _ _ us hl=>match us,hl with | [_],_=>rfl) (fun cdv A outer s H E hr=>?_) fun _ _ _ h=>h
 exact(zp (zO (uQ (jn (vY hr)) (zb (pv 0)) vf (by with_unfolding_all rfl))))
abbrev xi:Stmt:=top 37
theorem sc__law_query:zS ["_law_script", "_law_at", "_law_name_here", "_law_most", "_law_found", "_law_place", "_law_k", "_law_sign"] ["_law_script", "_law_at", "_law_name_here", "_law_most"] (zk xi):=⟨rfl,rfl,rfl,by decide +kernel,rfl,by decide +kernel,by decide +kernel⟩
theorem Yg{f:Addr}{fd:FuncData}(A_:ye K mg "_law_query" xi f fd)(h__law_drawn:DefOk P w K mg base "_law_drawn" 2 3 ["_law_script", "_law_k", "_law_many"] zo)(h__law_mark:DefOk P w K mg base "_law_mark" 1 1 ["_law_sign"] y9)(z_range:mg "range" = none)(z_len:mg "len" = none)(z_min:mg "min" = none):DefOk P w K mg base "_law_query" 3 4 ["_law_script", "_law_at", "_law_name_here", "_law_most"] xl:=by
 refine DefOk.mk (k:=2) A_ sc__law_query rfl (fun _ _ _ _ _ _ us hl=>match us,hl with | [_,_,_,_],_=>rfl) (fun cdv A outer s H E hr=>?_) fun _ _ _ h=>h
 exact(zm (zN (i:=4) sc__law_query.nd rfl (Or.inl rfl) vf) (zm (zN (i:=5) sc__law_query.nd rfl (Or.inl rfl) zi) (zm (ve PassesOwn.never rfl (wv rfl z_range (zc (zB h__law_drawn (hr.mono (by decide)) (zc (zb (pv 0)) (zc (zb (pv 1)) (zc (zr zC (zb (pv 3)) zi) zg))) (ze (ze (ze zu)))) zg)) (yU sc__law_query.nd rfl (Or.inl rfl)) (zm (zN (i:=5) sc__law_query.nd rfl (Or.inl rfl) (zK (Xq rfl) rfl z_min boot_min (zc (zr wH (zK xz rfl z_len PySem.boot_len (zc (zb (pv 2)) zg)) zi) (zc (zr zC (zb (pv 5)) (zB h__law_drawn (hr.mono (by decide)) (zc (zb (pv 0)) (zc (zr zC (zr zC (zb (pv 1)) zi) (zr xZ zi (zb (pv 6)))) (zc zi zg))) (ze (ze (ze zu))))) zg)))) (zm (zN (i:=7) sc__law_query.nd rfl (Or.inl rfl) (UT (Qc (Qb (zb (pv 2)) (Zz (zb (pv 5))) (Zz (zr zC (zb (pv 5)) zi))) (Xa vf)))) (zm (zN (i:=5) sc__law_query.nd rfl (Or.inl rfl) (zr zC (zb (pv 5)) zi)) (zm (xq (yf (wM hr.units) (zB h__law_drawn (hr.mono (by decide)) (zc (zb (pv 0)) (zc (zr zC (zr zC (zb (pv 1)) zi) (zr xZ zi (zb (pv 6)))) (zc zi zg))) (ze (ze (ze zu)))) zi (yJ _)) (zp (zN (i:=7) sc__law_query.nd rfl (Or.inl rfl) (zI yo vf (zB h__law_drawn (hr.mono (by decide)) (zc (zb (pv 0)) (zc (zr zC (zr zC (zb (pv 1)) zi) (zr xZ zi (zb (pv 6)))) (zc zi zg))) (ze (ze (ze zu))))))) yt) (zp (xq (Mp (Y8 (zB h__law_mark (hr.mono (by decide)) (zc (zb (pv 7)) zg) (ze zu)))) (zp (zN (i:=4) sc__law_query.nd rfl (Or.inl rfl) (zr zC (zb (pv 4)) (zb (pv 7))))) yt))))))) (zp (zO (zb (pv 4)))))))
abbrev xW:Stmt:=top 26
theorem XJ:zS ["names", "rows"] ["names", "rows"] (zk xW):=⟨rfl,rfl,rfl,by decide +kernel,rfl,by decide +kernel,by decide +kernel⟩
theorem XZ{f c:Addr}(A_:Vu K mg "in_order" xW f c 87)(bm:BM mg base)(z_len:mg "len" = none)(z_sorted:mg "sorted" = none):DefOk P w K mg base "in_order" 4 2 ["names", "rows"] xw:=by
 refine DefOk.mkL (k:=3) A_ XJ rfl (fun _ _ _ _ _ _ us hl=>match us,hl with | [_,_],_=>rfl) (fun A outer s H E hr=>?_)
 exact(zp (zO (US (P:=87) (p := "row") (fr:=["names"]) (idx:=[0]) rfl z_sorted boot_sorted (zb (pv 1)) (hr.mono (by decide)) (TabsU.of (by decide)) bm rfl A_.tab (.head _) rfl ⟨rfl,rfl,trivial⟩ rfl rfl rfl (fun _ _ _ _ _=>rfl) (fun s H f cd=>(xY (zc (we (zI yo (zb (pv 0)) zi)) (zc (zK xz rfl z_len PySem.boot_len (zc (zI yo (zb (pv 1)) (zI yo (zb (pv 0)) zi)) zg)) (zc (zI yo (zb (pv 0)) zi) zg))))))))
abbrev xh:Stmt:=top 27
theorem Yd:zS ["names", "rows", "many"] ["names", "rows", "many"] (zk xh):=⟨rfl,rfl,rfl,by decide +kernel,rfl,by decide +kernel,by decide +kernel⟩
theorem Yf{f:Addr}{fd:FuncData}(A_:ye K mg "first_rows" xh f fd)(h_in_order:DefOk P w K mg base "in_order" 4 2 ["names", "rows"] xw)(z_max:mg "max" = none):DefOk P w K mg base "first_rows" 5 3 ["names", "rows", "many"] yV:=by
 refine DefOk.mk (k:=4) A_ Yd rfl (fun _ _ _ _ _ _ us hl=>match us,hl with | [_,_,_],_=>rfl) (fun cdv A outer s H E hr=>?_) fun _ _ _ h=>h
 exact(zp (zO (Qb (zB h_in_order (hr.mono (by decide)) (zc (zb (pv 0)) (zc (zb (pv 1)) zg)) (ze (ze zu))) Qa (Zz (zK (Tg rfl) rfl z_max boot_max (zc (zb (pv 2)) (zc zi zg)))))))
abbrev yg:Stmt:=top 15
theorem sc_beginning_points:zS ["name", "place", "ahead"] ["name", "place"] (zk yg):=⟨rfl,rfl,rfl,by decide +kernel,rfl,by decide +kernel,by decide +kernel⟩
theorem uc{f:Addr}{fd:FuncData}(A_:ye K mg "beginning_points" yg f fd){t_FIGURES:Tok}(g_FIGURES:mg "FIGURES" = some (.str "0123456789" t_FIGURES)){t_SMALL:Tok}(g_SMALL:mg "SMALL" = some (.str "abcdefghijklmnopqrstuvwxyz" t_SMALL)){t_GREAT:Tok}(g_GREAT:mg "GREAT" = some (.str "ABCDEFGHIJKLMNOPQRSTUVWXYZ" t_GREAT)){t_AT_GREAT:Tok}(g_AT_GREAT:mg "AT_GREAT" = some (.int 5 t_AT_GREAT)){t_MARKS:Tok}(g_MARKS:mg "MARKS" = some (.str "_-./" t_MARKS)){t_BEHIND_MARK:Tok}(g_BEHIND_MARK:mg "BEHIND_MARK" = some (.int 6 t_BEHIND_MARK)){t_AT_BEGINNING:Tok}(g_AT_BEGINNING:mg "AT_BEGINNING" = some (.int 8 t_AT_BEGINNING)):DefOk P w K mg base "beginning_points" 1 2 ["name", "place"] yu:=by
 refine DefOk.mk (k:=0) A_ sc_beginning_points rfl (fun _ _ _ _ _ _ us hl=>match us,hl with | [_,_],_=>rfl) (fun cdv A outer s H E hr=>?_) fun _ _ _ h=>h
 exact(zm (xq (yf (wM hr.units) (zb (pv 1)) zi (yJ _)) (zp (zO (wG rfl g_AT_BEGINNING))) yt) (zm (zN (i:=2) sc_beginning_points.nd rfl (Or.inl rfl) (zI yo (zb (pv 0)) (zr wH (zb (pv 1)) zi))) (zm (xq (yf (jn (vY hr)) (zb (pv 2)) (uP rfl g_MARKS) (by with_unfolding_all rfl)) (zp (zO (wG rfl g_BEHIND_MARK))) yt) (zm (xq (XV (VO (yf (jn (vY hr)) (zI yo (zb (pv 0)) (zb (pv 1))) (uP rfl g_GREAT) (by with_unfolding_all rfl)) (XU (XV (W3 (yf (jn (vY hr)) (zb (pv 2)) (uP rfl g_SMALL) (by with_unfolding_all rfl)) (Y7 (yf (jn (vY hr)) (zb (pv 2)) (uP rfl g_FIGURES) (by with_unfolding_all rfl)))))))) (zp (zO (wG rfl g_AT_GREAT))) yt) (zp (zO zi))))))
abbrev xg:Stmt:=top 16
theorem sc_own_points:zS ["sign", "name", "place", "same"] ["sign", "name", "place"] (zk xg):=⟨rfl,rfl,rfl,by decide +kernel,rfl,by decide +kernel,by decide +kernel⟩
theorem Ye{f:Addr}{fd:FuncData}(A_:ye K mg "own_points" xg f fd)(h_beginning_points:DefOk P w K mg base "beginning_points" 1 2 ["name", "place"] yu){t_EACH_PLACE:Tok}(g_EACH_PLACE:mg "EACH_PLACE" = some (.int 10 t_EACH_PLACE)){t_SAME_SIGN:Tok}(g_SAME_SIGN:mg "SAME_SIGN" = some (.int 1 t_SAME_SIGN)):DefOk P w K mg base "own_points" 2 3 ["sign", "name", "place"] yr:=by
 refine DefOk.mk (k:=1) A_ sc_own_points rfl (fun _ _ _ _ _ _ us hl=>match us,hl with | [_,_,_],_=>rfl) (fun cdv A outer s H E hr=>?_) fun _ _ _ h=>h
 exact(zm (zN (i:=3) sc_own_points.nd rfl (Or.inl rfl) (Ls (yf (wM hr.units) (zI yo (zb (pv 1)) (zb (pv 2))) (zb (pv 0)) (yJ _)) (wG rfl g_SAME_SIGN) zi)) (zp (zO (zr zC (zr zC (wG rfl g_EACH_PLACE) (zB h_beginning_points (hr.mono (by decide)) (zc (zb (pv 1)) (zc (zb (pv 2)) zg)) (ze (ze zu)))) (zb (pv 3))))))
abbrev va:Stmt:=top 5
theorem JP:zS ["sign", "other"] ["sign", "other"] (zk va):=⟨rfl,rfl,rfl,by decide +kernel,rfl,by decide +kernel,by decide +kernel⟩
theorem Ql{f:Addr}{fd:FuncData}(A_:ye K mg "meets" va f fd){t_SMALL:Tok}(g_SMALL:mg "SMALL" = some (.str "abcdefghijklmnopqrstuvwxyz" t_SMALL)):DefOk P w K mg base "meets" 1 2 ["sign", "other"] xO:=by
 refine DefOk.mk (k:=0) A_ JP rfl (fun _ _ _ _ _ _ us hl=>match us,hl with | [_,_],_=>rfl) (fun cdv A outer s H E hr=>?_) fun _ _ _ h=>h
 exact(zp (zO (Qc (uQ (wM hr.units) (zb (pv 0)) (zb (pv 1)) (yJ _)) (Xa (Ms (uQ (jn (vY hr)) (zb (pv 0)) (uP rfl g_SMALL) (by with_unfolding_all rfl)) (Xa (uQ (wM hr.units) (UR (zb (pv 0))) (zb (pv 1)) (yJ _))))))))
abbrev yq:Stmt:=top 20
theorem uq:zS ["sign", "name"] ["sign", "name"] (zk yq):=⟨rfl,rfl,rfl,by decide +kernel,rfl,by decide +kernel,by decide +kernel⟩
theorem uv{f:Addr}{fd:FuncData}(A_:ye K mg "last_sign_tails" yq f fd)(h_meets:DefOk P w K mg base "meets" 1 2 ["sign", "other"] xO)(h_own_points:DefOk P w K mg base "own_points" 2 3 ["sign", "name", "place"] yr)(z_len:mg "len" = none)(z_range:mg "range" = none):DefOk P w K mg base "last_sign_tails" 3 2 ["sign", "name"] yb:=by
 refine DefOk.mk (k:=2) A_ uq rfl (fun _ _ _ _ _ _ us hl=>match us,hl with | [_,_],_=>rfl) (fun cdv A outer s H E hr=>?_) fun _ _ _ h=>h
 exact(zp (zO (vh (ww (tn:=["place"]) (fr:=["sign", "name"]) (idx:=[0,1]) rfl rfl ⟨rfl,rfl,⟨rfl,rfl,trivial⟩⟩ (x0 0) (wv rfl z_range (zc (zK xz rfl z_len PySem.boot_len (zc (zb (pv 1)) zg)) zg)) (fun s H C fp=>(yU (show List.Nodup (["place", "sign", "name"]:List Str) by decide +kernel) rfl (Or.inl rfl))) (fun s H C fp=>(uN (Y8 (zB h_meets (hr.mono (by decide)) (zc (zb (pv 1)) (zc (zI yo (zb (pv 2)) (zb (pv 0))) zg)) (ze (ze zu)))))) (fun s H C fp=>(xY (zc (zB h_own_points (hr.mono (by decide)) (zc (zb (pv 1)) (zc (zb (pv 2)) (zc (zb (pv 0)) zg))) (ze (ze (ze zu)))) (zc (vg (zc (zb (pv 0)) zg)) zg))))))))
abbrev yE:Stmt:=top 19
theorem sc_first_of_most:zS ["tails", "chosen", "tail"] ["tails"] (zk yE):=⟨rfl,rfl,rfl,by decide +kernel,rfl,by decide +kernel,by decide +kernel⟩
theorem jo{f:Addr}{fd:FuncData}(A_:ye K mg "first_of_most" yE f fd):DefOk P w K mg base "first_of_most" 1 1 ["tails"] zH:=by
 refine DefOk.mk (k:=0) A_ sc_first_of_most rfl (fun _ _ _ _ _ _ us hl=>match us,hl with | [_],_=>rfl) (fun cdv A outer s H E hr=>?_) fun _ _ _ h=>h
 exact(zm (zN (i:=1) sc_first_of_most.nd rfl (Or.inl rfl) Zb) (zm (ve PassesOwn.never rfl (xB (zb (pv 0))) (yU sc_first_of_most.nd rfl (Or.inl rfl)) (zp (xq (XV (W3 (yf Lx (zb (pv 1)) Zb (yJ _)) (Y7 (yf W6 (zI yo (zb (pv 2)) zi) (zI yo (zb (pv 1)) zi) (yJ _))))) (zp (zN (i:=1) sc_first_of_most.nd rfl (Or.inl rfl) (zb (pv 2)))) yt))) (zp (zO (zb (pv 1))))))
abbrev yY:Stmt:=top 18
theorem sc_link_points:zS ["ahead", "place", "between"] ["ahead", "place"] (zk yY):=⟨rfl,rfl,rfl,by decide +kernel,rfl,by decide +kernel,by decide +kernel⟩
theorem ZD{f:Addr}{fd:FuncData}(A_:ye K mg "link_points" yY f fd){t_MOST_BETWEEN:Tok}(g_MOST_BETWEEN:mg "MOST_BETWEEN" = some (.int 5 t_MOST_BETWEEN)){t_BESIDE:Tok}(g_BESIDE:mg "BESIDE" = some (.int 7 t_BESIDE))(z_min:mg "min" = none):DefOk P w K mg base "link_points" 1 2 ["ahead", "place"] y0:=by
 refine DefOk.mk (k:=0) A_ sc_link_points rfl (fun _ _ _ _ _ _ us hl=>match us,hl with | [_,_],_=>rfl) (fun cdv A outer s H E hr=>?_) fun _ _ _ h=>h
 exact(zm (zN (i:=2) sc_link_points.nd rfl (Or.inl rfl) (zr wH (zr wH (zb (pv 1)) (zb (pv 0))) zi)) (zm (xq (yf (wM hr.units) (zb (pv 2)) zi (yJ _)) (zp (zO (wG rfl g_BESIDE))) yt) (zp (zO (we (zK (Xq rfl) rfl z_min boot_min (zc (zb (pv 2)) (zc (wG rfl g_MOST_BETWEEN) zg))))))))
abbrev yN:Stmt:=top 21
theorem jV:zS ["place", "tails"] ["place", "tails"] (zk yN):=⟨rfl,rfl,rfl,by decide +kernel,rfl,by decide +kernel,by decide +kernel⟩
theorem j0{f:Addr}{fd:FuncData}(A_:ye K mg "linked_tails" yN f fd)(h_link_points:DefOk P w K mg base "link_points" 1 2 ["ahead", "place"] y0):DefOk P w K mg base "linked_tails" 2 2 ["place", "tails"] yz:=by
 refine DefOk.mk (k:=1) A_ jV rfl (fun _ _ _ _ _ _ us hl=>match us,hl with | [_,_],_=>rfl) (fun cdv A outer s H E hr=>?_) fun _ _ _ h=>h
 exact(zp (zO (vh (ww (tn:=["tail"]) (fr:=["place"]) (idx:=[0]) rfl rfl ⟨rfl,rfl,trivial⟩ (x0 0) (xB (zb (pv 1))) (fun s H C fp=>(yU (show List.Nodup (["tail", "place"]:List Str) by decide +kernel) rfl (Or.inl rfl))) (fun s H C fp=>(uN (yf W6 (zI yo (zI yo (zb (pv 0)) zi) zi) (zb (pv 1)) (yJ _)))) (fun s H C fp=>(xY (zc (zr zC (zI yo (zb (pv 0)) zi) (zB h_link_points (hr.mono (by decide)) (zc (zb (pv 1)) (zc (zI yo (zI yo (zb (pv 0)) zi) zi) zg)) (ze (ze zu)))) (zc (zI yo (zb (pv 0)) zi) zg))))))))
abbrev yM:Stmt:=top 22
theorem sc_longer_tails:zS ["sign", "name", "tails", "longer", "place", "chosen"] ["sign", "name", "tails"] (zk yM):=⟨rfl,rfl,rfl,by decide +kernel,rfl,by decide +kernel,by decide +kernel⟩
theorem jZ{f:Addr}{fd:FuncData}(A_:ye K mg "longer_tails" yM f fd)(h_meets:DefOk P w K mg base "meets" 1 2 ["sign", "other"] xO)(h_own_points:DefOk P w K mg base "own_points" 2 3 ["sign", "name", "place"] yr)(h_linked_tails:DefOk P w K mg base "linked_tails" 2 2 ["place", "tails"] yz)(h_first_of_most:DefOk P w K mg base "first_of_most" 1 1 ["tails"] zH)(z_len:mg "len" = none)(z_range:mg "range" = none):DefOk P w K mg base "longer_tails" 3 3 ["sign", "name", "tails"] yP:=by
 refine DefOk.mk (k:=2) A_ sc_longer_tails rfl (fun _ _ _ _ _ _ us hl=>match us,hl with | [_,_,_],_=>rfl) (fun cdv A outer s H E hr=>?_) fun _ _ _ h=>h
 exact(zm (XW (i:=3) sc_longer_tails.nd rfl (Or.inl rfl) (VQ zg)) (zm (ve PassesOwn.never rfl (wv rfl z_range (zc (zK xz rfl z_len PySem.boot_len (zc (zb (pv 1)) zg)) zg)) (yU sc_longer_tails.nd rfl (Or.inl rfl)) (zp (xq (Y8 (zB h_meets (hr.mono (by decide)) (zc (zb (pv 0)) (zc (zI yo (zb (pv 1)) (zb (pv 4))) zg)) (ze (ze zu)))) (zm (zN (i:=5) sc_longer_tails.nd rfl (Or.inl rfl) (zB h_first_of_most (hr.mono (by decide)) (zc (zB h_linked_tails (hr.mono (by decide)) (zc (zb (pv 4)) (zc (zb (pv 2)) zg)) (ze (ze zu))) zg) (ze zu))) (zp (xq (yf YA (zb (pv 5)) Zb (yJ _)) (zp (VP (pv 3) (xY (zc (zr zC (zB h_own_points (hr.mono (by decide)) (zc (zb (pv 0)) (zc (zb (pv 1)) (zc (zb (pv 4)) zg))) (ze (ze (ze zu)))) (zI yo (zb (pv 5)) zi)) (zc (zr zC (vg (zc (zb (pv 4)) zg)) (zI yo (zb (pv 5)) zi)) zg))))) yt))) yt))) (zp (Zx (pv 3)))))
abbrev yZ:Stmt:=top 17
theorem Zu:zS ["place"] ["place"] (zk yZ):=⟨rfl,rfl,rfl,by decide +kernel,rfl,by decide +kernel,by decide +kernel⟩
theorem ZE{f:Addr}{fd:FuncData}(A_:ye K mg "lead_points" yZ f fd){t_MOST_AHEAD:Tok}(g_MOST_AHEAD:mg "MOST_AHEAD" = some (.int 3 t_MOST_AHEAD))(z_min:mg "min" = none):DefOk P w K mg base "lead_points" 1 1 ["place"] yK:=by
 refine DefOk.mk (k:=0) A_ Zu rfl (fun _ _ _ _ _ _ us hl=>match us,hl with | [_],_=>rfl) (fun cdv A outer s H E hr=>?_) fun _ _ _ h=>h
 exact(zp (zO (we (zK (Xq rfl) rfl z_min boot_min (zc (zb (pv 0)) (zc (wG rfl g_MOST_AHEAD) zg))))))
abbrev ut:Stmt:=top 23
theorem sc_best:zS ["query", "name", "tails", "number"] ["query", "name"] (zk ut):=⟨rfl,rfl,rfl,by decide +kernel,rfl,by decide +kernel,by decide +kernel⟩
theorem Mx{f:Addr}{fd:FuncData}(A_:ye K mg "best" ut f fd)(h_lead_points:DefOk P w K mg base "lead_points" 1 1 ["place"] yK)(h_first_of_most:DefOk P w K mg base "first_of_most" 1 1 ["tails"] zH)(h_longer_tails:DefOk P w K mg base "longer_tails" 3 3 ["sign", "name", "tails"] yP)(h_last_sign_tails:DefOk P w K mg base "last_sign_tails" 3 2 ["sign", "name"] yb)(z_len:mg "len" = none)(z_range:mg "range" = none):DefOk P w K mg base "best" 4 2 ["query", "name"] wO:=by
 refine DefOk.mk (k:=3) A_ sc_best rfl (fun _ _ _ _ _ _ us hl=>match us,hl with | [_,_],_=>rfl) (fun cdv A outer s H E hr=>?_) fun _ _ _ h=>h
 exact(zm (xq (yf (wM hr.units) (zK xz rfl z_len PySem.boot_len (zc (zb (pv 0)) zg)) zi (yJ _)) (zp (zO (xY (zc zi (zc (vg zg) zg))))) yt) (zm (zN (i:=2) sc_best.nd rfl (Or.inl rfl) (zB h_last_sign_tails (hr.mono (by decide)) (zc (zI yo (zb (pv 0)) (we zi)) (zc (zb (pv 1)) zg)) (ze (ze zu)))) (zm (ve PassesOwn.never rfl (W4 rfl z_range (zc (zr wH (zK xz rfl z_len PySem.boot_len (zc (zb (pv 0)) zg)) zi) (zc (we zi) (zc (we zi) zg)))) (yU sc_best.nd rfl (Or.inl rfl)) (zp (zN (i:=2) sc_best.nd rfl (Or.inl rfl) (zB h_longer_tails (hr.mono (by decide)) (zc (zI yo (zb (pv 0)) (zb (pv 3))) (zc (zb (pv 1)) (zc (zb (pv 2)) zg))) (ze (ze (ze zu))))))) (zp (zO (zB h_first_of_most (hr.mono (by decide)) (zc (vh (ww (tn:=["tail"]) (fr:=[]) (idx:=[]) rfl rfl trivial (x0 0) (xB (zb (pv 2))) (fun s H C fp=>(yU (show List.Nodup (["tail"]:List Str) by decide +kernel) rfl (Or.inl rfl))) (fun s H C fp=>wu) (fun s H C fp=>(xY (zc (zr zC (zI yo (zb (pv 0)) zi) (zB h_lead_points (hr.mono (by decide)) (zc (zI yo (zI yo (zb (pv 0)) zi) zi) zg) (ze zu))) (zc (zI yo (zb (pv 0)) zi) zg)))))) zg) (ze zu)))))))
abbrev yO:Stmt:=top 25
theorem sc_fitting_rows:zS ["names", "query", "numbers", "rows", "number", "laid"] ["names", "query", "numbers"] (zk yO):=⟨rfl,rfl,rfl,by decide +kernel,rfl,by decide +kernel,by decide +kernel⟩
theorem j5{f:Addr}{fd:FuncData}(A_:ye K mg "fitting_rows" yO f fd)(h_best:DefOk P w K mg base "best" 4 2 ["query", "name"] wO):DefOk P w K mg base "fitting_rows" 5 3 ["names", "query", "numbers"] yA:=by
 refine DefOk.mk (k:=4) A_ sc_fitting_rows rfl (fun _ _ _ _ _ _ us hl=>match us,hl with | [_,_,_],_=>rfl) (fun cdv A outer s H E hr=>?_) fun _ _ _ h=>h
 exact(zm (XW (i:=3) sc_fitting_rows.nd rfl (Or.inl rfl) (VQ zg)) (zm (ve PassesOwn.never rfl (xB (zb (pv 2))) (yU sc_fitting_rows.nd rfl (Or.inl rfl)) (zm (zN (i:=5) sc_fitting_rows.nd rfl (Or.inl rfl) (zB h_best (hr.mono (by decide)) (zc (zb (pv 1)) (zc (zI yo (zb (pv 0)) (zb (pv 4))) zg)) (ze (ze zu)))) (zp (xq (yf YA (zb (pv 5)) Zb (yJ _)) (zp (VP (pv 3) (xY (zc (zI yo (zb (pv 5)) zi) (zc (zb (pv 4)) zg))))) yt)))) (zp (Zx (pv 3)))))
abbrev xI:Stmt:=top 28
theorem XM:zS ["names", "query"] ["names", "query"] (zk xI):=⟨rfl,rfl,rfl,by decide +kernel,rfl,by decide +kernel,by decide +kernel⟩
theorem X1{f:Addr}{fd:FuncData}(A_:ye K mg "all_rows" xI f fd)(h_fitting_rows:DefOk P w K mg base "fitting_rows" 5 3 ["names", "query", "numbers"] yA)(z_len:mg "len" = none)(z_list:mg "list" = none)(z_range:mg "range" = none):DefOk P w K mg base "all_rows" 6 2 ["names", "query"] yF:=by
 refine DefOk.mk (k:=5) A_ XM rfl (fun _ _ _ _ _ _ us hl=>match us,hl with | [_,_],_=>rfl) (fun cdv A outer s H E hr=>?_) fun _ _ _ h=>h
 exact(zp (zO (zB h_fitting_rows (hr.mono (by decide)) (zc (zb (pv 0)) (zc (zb (pv 1)) (zc (vh (jX rfl rfl z_list rfl z_range (zc (zK xz rfl z_len PySem.boot_len (zc (zb (pv 0)) zg)) zg))) zg))) (ze (ze (ze zu))))))
abbrev vb:Stmt:=top 29
theorem JQ:zS ["names", "query", "many"] ["names", "query", "many"] (zk vb):=⟨rfl,rfl,rfl,by decide +kernel,rfl,by decide +kernel,by decide +kernel⟩
theorem Qm{f:Addr}{fd:FuncData}(A_:ye K mg "finds" vb f fd)(h_all_rows:DefOk P w K mg base "all_rows" 6 2 ["names", "query"] yF)(h_first_rows:DefOk P w K mg base "first_rows" 5 3 ["names", "rows", "many"] yV):DefOk P w K mg base "finds" 7 3 ["names", "query", "many"] xG:=by
 refine DefOk.mk (k:=6) A_ JQ rfl (fun _ _ _ _ _ _ us hl=>match us,hl with | [_,_,_],_=>rfl) (fun cdv A outer s H E hr=>?_) fun _ _ _ h=>h
 exact(zp (zO (zB h_first_rows (hr.mono (by decide)) (zc (zb (pv 0)) (zc (zB h_all_rows (hr.mono (by decide)) (zc (zb (pv 0)) (zc (zb (pv 1)) zg)) (ze (ze zu))) (zc (zb (pv 2)) zg))) (ze (ze (ze zu))))))
abbrev ur:Stmt:=top 30
theorem sc_ties:zS ["names", "query", "numbers", "row"] ["names", "query"] (zk ur):=⟨rfl,rfl,rfl,by decide +kernel,rfl,by decide +kernel,by decide +kernel⟩
theorem Mw{f:Addr}{fd:FuncData}(A_:ye K mg "ties" ur f fd)(h_all_rows:DefOk P w K mg base "all_rows" 6 2 ["names", "query"] yF)(z_sorted:mg "sorted" = none):DefOk P w K mg base "ties" 7 2 ["names", "query"] wN:=by
 refine DefOk.mk (k:=6) A_ sc_ties rfl (fun _ _ _ _ _ _ us hl=>match us,hl with | [_,_],_=>rfl) (fun cdv A outer s H E hr=>?_) fun _ _ _ h=>h
 exact(UP (i:=2) (r:=3) sc_ties.nd rfl PassesOwn.never rfl (Or.inr rfl) rfl (Or.inl rfl) (xB (zB h_all_rows (hr.mono (by decide)) (zc (zb (pv 0)) (zc (zb (pv 1)) zg)) (ze (ze zu)))) (by exact Lg (Ud hr) (zI yo (zb (pv 3)) zi) (zI yo (zb (pv 3)) zi) (zI yo (zb (pv 3)) zi) (zI yo (zb (pv 3)) zi) (pv 2) (pv 2) (pv 2)) rfl ⟨rfl,rfl,trivial⟩ (by exact J5 rfl rfl z_sorted boot_sorted (pv 2)) (by exact fun s H C fp=>uM (show List.Nodup (["count", "numbers"]:List Str) by decide +kernel) rfl (Or.inl rfl)) (by exact fun s H C fp=>J4 (vZ (pv 0) (vZ (VM (Ud hr) (pv 1) (pv 0) (fun _ _=>rfl)) jl))))
abbrev uJ:Stmt:=top 38
theorem sc_law:zS ["_law_script", "_law_one", "_law_other", "_law_some", "_law_query_here", "_law_told", "_law_later", "_law_every", "_law_back", "_law_straight", "_law_sizes", "_law_turned_sizes", "_law_mine", "_law_yours", "_law_count", "_law_numbers"] ["_law_script"] (zk uJ):=⟨rfl,rfl,rfl,by decide +kernel,rfl,by decide +kernel,by decide +kernel⟩
theorem LG{f:Addr}{fd:FuncData}(A_:Fun K "law" "law" uJ f fd)(h_ties:DefOk P w K mg base "ties" 7 2 ["names", "query"] wN)(h_finds:DefOk P w K mg base "finds" 7 3 ["names", "query", "many"] xG)(h__law_drawn:DefOk P w K mg base "_law_drawn" 2 3 ["_law_script", "_law_k", "_law_many"] zo)(h__law_query:DefOk P w K mg base "_law_query" 3 4 ["_law_script", "_law_at", "_law_name_here", "_law_most"] xl)(h__law_names:DefOk P w K mg base "_law_names" 4 3 ["_law_script", "_law_at", "_law_most"] yW)(z_len:mg "len" = none)(z_list:mg "list" = none)(z_set:mg "set" = none)(z_dict:mg "dict" = none)(z_sorted:mg "sorted" = none):FnOk P w K mg base CX0 8 f fd ["_law_script"] (spD K 1 VY):=by
 refine fnD (k:=7) A_ sc_law rfl fun cdv A outer s H E hr=>?_
 exact(zm (zN (i:=1) sc_law.nd rfl (Or.inr rfl) (zB h__law_names (hr.mono (by decide)) (zc (zb (pv 0)) (zc zi (zc zi zg))) (ze (ze (ze zu))))) (zm (zN (i:=2) sc_law.nd rfl (Or.inl rfl) (zB h__law_names (hr.mono (by decide)) (zc (zb (pv 0)) (zc zi (zc zi zg))) (ze (ze (ze zu))))) (zm (zN (i:=3) sc_law.nd rfl (Or.inl rfl) (zr zC (zr zC (zb (pv 1)) (zb (pv 2))) (vg (zc vf zg)))) (zm (zN (i:=4) sc_law.nd rfl (Or.inl rfl) (zB h__law_query (hr.mono (by decide)) (zc (zb (pv 0)) (zc zi (zc (zI yo (zb (pv 3)) (zB h__law_drawn (hr.mono (by decide)) (zc (zb (pv 0)) (zc zi (zc (zK xz rfl z_len PySem.boot_len (zc (zb (pv 3)) zg)) zg))) (ze (ze (ze zu))))) (zc zi zg)))) (ze (ze (ze (ze zu)))))) (zm (zN (i:=5) sc_law.nd rfl (Or.inl rfl) (zB h_finds (hr.mono (by decide)) (zc (zr zC (zb (pv 1)) (zb (pv 2))) (zc (zb (pv 4)) (zc zi zg))) (ze (ze (ze zu))))) (zm (xq (yf (jm hr.units) (vh (ww (tn:=["_law_row"]) (fr:=["_law_one"]) (idx:=[1]) rfl rfl ⟨rfl,rfl,trivial⟩ (x0 0) (xB (zb (pv 5))) (fun s H C fp=>(yU (show List.Nodup (["_law_row", "_law_one"]:List Str) by decide +kernel) rfl (Or.inl rfl))) (fun s H C fp=>(uN (yf Lw (zI yo (zb (pv 0)) zi) (zK xz rfl z_len PySem.boot_len (zc (zb (pv 1)) zg)) (yJ _)))) (fun s H C fp=>(zb (pv 0))))) (zB h_finds (hr.mono (by decide)) (zc (zb (pv 1)) (zc (zb (pv 4)) (zc zi zg))) (ze (ze (ze zu)))) (yJ _)) (zp (zO ZA)) yt) (zm (Zy (i:=6) sc_law.nd rfl rfl rfl (tn:=["_law_count", "_law_number"]) (fr:=["_law_one"]) (idx:=[1]) rfl rfl ⟨rfl,rfl,trivial⟩ (Zt 0 1) (xB (zb (pv 5))) (fun s H C fp=>(uO rfl (show List.Nodup (["_law_count", "_law_number", "_law_one"]:List Str) by decide +kernel) rfl (Or.inl rfl) rfl (Or.inl rfl))) (fun s H C fp=>(uN (yf Ly (zb (pv 1)) (zK xz rfl z_len PySem.boot_len (zc (zb (pv 2)) zg)) (yJ _)))) (fun s H C fp=>(xY (zc (zb (pv 0)) (zc (zr wH (zb (pv 1)) (zK xz rfl z_len PySem.boot_len (zc (zb (pv 2)) zg))) zg))))) (zm (xq (yf (jm hr.units) (zb (pv 6)) (zB h_finds (hr.mono (by decide)) (zc (zb (pv 2)) (zc (zb (pv 4)) (zc zi zg))) (ze (ze (ze zu)))) (yJ _)) (zp (zO ZA)) yt) (zm (zN (i:=7) sc_law.nd rfl (Or.inr rfl) (vh (Y9 rfl rfl z_sorted rfl z_set (zc (zr zC (zb (pv 1)) (zb (pv 2))) zg)))) (zm (zN (i:=8) sc_law.nd rfl (Or.inl rfl) (zB h_finds (hr.mono (by decide)) (zc (VR (zb (pv 7)) (we zi)) (zc (zb (pv 4)) (zc zi zg))) (ze (ze (ze zu))))) (zm (zN (i:=9) sc_law.nd rfl (Or.inl rfl) (zB h_finds (hr.mono (by decide)) (zc (zb (pv 7)) (zc (zb (pv 4)) (zc zi zg))) (ze (ze (ze zu))))) (zm (xq (yf (jm hr.units) (vh (ww (tn:=["_law_row"]) (fr:=[]) (idx:=[]) rfl rfl trivial (x0 0) (xB (zb (pv 8))) (fun s H C fp=>(yU (show List.Nodup (["_law_row"]:List Str) by decide +kernel) rfl (Or.inl rfl))) (fun s H C fp=>wu) (fun s H C fp=>(zI yo (zb (pv 0)) zi)))) (vh (ww (tn:=["_law_row"]) (fr:=[]) (idx:=[]) rfl rfl trivial (x0 0) (xB (zb (pv 9))) (fun s H C fp=>(yU (show List.Nodup (["_law_row"]:List Str) by decide +kernel) rfl (Or.inl rfl))) (fun s H C fp=>wu) (fun s H C fp=>(zI yo (zb (pv 0)) zi)))) (yJ _)) (zp (zO ZA)) yt) (zm (Zy (i:=10) sc_law.nd rfl rfl rfl (tn:=["_law_count", "_law_number"]) (fr:=["_law_every"]) (idx:=[7]) rfl rfl ⟨rfl,rfl,trivial⟩ (Zt 0 1) (xB (zb (pv 9))) (fun s H C fp=>(uO rfl (show List.Nodup (["_law_count", "_law_number", "_law_every"]:List Str) by decide +kernel) rfl (Or.inl rfl) rfl (Or.inl rfl))) (fun s H C fp=>wu) (fun s H C fp=>(xY (zc (zr wH zi (zb (pv 0))) (zc (zK xz rfl z_len PySem.boot_len (zc (zI yo (zb (pv 2)) (zb (pv 1))) zg)) zg))))) (zm (Zy (i:=11) sc_law.nd rfl rfl rfl (tn:=["_law_count", "_law_number"]) (fr:=["_law_every"]) (idx:=[7]) rfl rfl ⟨rfl,rfl,trivial⟩ (Zt 0 1) (xB (zb (pv 8))) (fun s H C fp=>(uO rfl (show List.Nodup (["_law_count", "_law_number", "_law_every"]:List Str) by decide +kernel) rfl (Or.inl rfl) rfl (Or.inl rfl))) (fun s H C fp=>wu) (fun s H C fp=>(xY (zc (zr wH zi (zb (pv 0))) (zc (zK xz rfl z_len PySem.boot_len (zc (zI yo (VR (zb (pv 2)) (we zi)) (zb (pv 1))) zg)) zg))))) (zm (xq (XV (W3 (yf (jm hr.units) (zb (pv 10)) (zK Jq rfl z_sorted boot_sorted (zc (zb (pv 10)) zg)) (yJ _)) (Y7 (yf (jm hr.units) (zb (pv 10)) (zb (pv 11)) (yJ _))))) (zp (zO ZA)) yt) (zm (zN (i:=12) sc_law.nd rfl (Or.inl rfl) (vi (WC rfl) rfl z_dict boot_dict (zc (zB h_ties (hr.mono (by decide)) (zc (zb (pv 1)) (zc (zb (pv 4)) zg)) (ze (ze zu))) zg))) (zm (zN (i:=13) sc_law.nd rfl (Or.inl rfl) (vi (WC rfl) rfl z_dict boot_dict (zc (zB h_ties (hr.mono (by decide)) (zc (zb (pv 2)) (zc (zb (pv 4)) zg)) (ze (ze zu))) zg))) (zm (ve PassesOwn.never rfl (xB (zB h_ties (hr.mono (by decide)) (zc (zr zC (zb (pv 1)) (zb (pv 2))) (zc (zb (pv 4)) zg)) (ze (ze zu)))) (uO rfl sc_law.nd rfl (Or.inl rfl) rfl (Or.inl rfl)) (zp (xq (yf (jm hr.units) (zb (pv 15)) (zr zC (Yz (Ud hr) (zb (pv 12)) (zb (pv 14)) (vg zg) ⟨rfl,rfl,rfl,rfl⟩) (vh (ww (tn:=["_law_number"]) (fr:=["_law_one"]) (idx:=[1]) rfl rfl ⟨rfl,rfl,trivial⟩ (x0 0) (xB (Yz (Ud hr) (zb (pv 13)) (zb (pv 14)) (vg zg) ⟨rfl,rfl,rfl,rfl⟩)) (fun s H C fp=>(yU (show List.Nodup (["_law_number", "_law_one"]:List Str) by decide +kernel) rfl (Or.inl rfl))) (fun s H C fp=>wu) (fun s H C fp=>(zr zC (zb (pv 0)) (zK xz rfl z_len PySem.boot_len (zc (zb (pv 1)) zg))))))) (yJ _)) (zp (zO ZA)) yt))) (zp (zO (uQ (wM hr.units) (zK xz rfl z_len PySem.boot_len (zc (zB h_ties (hr.mono (by decide)) (zc (zr zC (zb (pv 1)) (zb (pv 2))) (zc (zb (pv 4)) zg)) (ze (ze zu))) zg)) (W5 rfl rfl z_len rfl z_set (zc (zr zC (vi (WB rfl) rfl z_list boot_list (zc (zb (pv 12)) zg)) (vi (WB rfl) rfl z_list boot_list (zc (zb (pv 13)) zg))) zg)) (yJ _))))))))))))))))))))))
end
theorem all_mk{l:PySem.W.OpenLaw}{w:World}{K:PySem.W.Frag}{h:Heap}{mg:Str→Option Value}{fa:Addr}(X:K.In h)(G:h.Ns mainGlobals mg)(hfa:mg "law" = some (.ref fa))(hl:∀ns:List Int,ns.length≤63→VY [.scr ns]=.ok (.bl true))
  {f0 f1 f2 f3 f4 f5 f6 f7 f8 f9 f10 f11 f12 f13 f14 f15 f16 f17 f18 f19 f20 f21 f22:Addr} {od0 an0 od1 an1 od2 an2 od3 an3 od4 an4 od5 an5 od6 an6 od7 an7 od8 an8 od9 an9 od10 an10 od11 an11 od12 an12 od13 an13 od14 an14 od15 an15 od16 an16 od17 an17 od18 an18 od19 an19 od20 an20 od21 an21 od22 an22:Option Addr} {sl0 sl1 sl2 sl3 sl4 sl5 sl6 sl7 sl8 sl9 sl10 sl11 sl12 sl13 sl14 sl15 sl16 sl17 sl18 sl19 sl20 sl21 sl22:Array (Option Value)} {oc0 kV0 dc0 pm0 ct0 cd0 oc1 kV1 dc1 pm1 ct1 cd1 oc2 kV2 dc2 pm2 ct2 cd2 oc3 kV3 dc3 pm3 ct3 cd3 oc4 kV4 dc4 pm4 ct4 cd4 oc5 kV5 dc5 pm5 ct5 cd5 oc6 kV6 dc6 pm6 ct6 oc7 kV7 dc7 pm7 ct7 cd7 oc8 kV8 dc8 pm8 ct8 cd8 oc9 kV9 dc9 pm9 ct9 cd9 oc10 kV10 dc10 pm10 ct10 cd10 oc11 kV11 dc11 pm11 ct11 cd11 oc12 kV12 dc12 pm12 ct12 cd12 oc13 kV13 dc13 pm13 ct13 cd13 oc14 kV14 dc14 pm14 ct14 cd14 oc15 kV15 dc15 pm15 ct15 cd15 oc16 kV16 dc16 pm16 ct16 cd16 oc17 kV17 dc17 pm17 ct17 cd17 oc18 kV18 dc18 pm18 ct18 cd18 oc19 kV19 dc19 pm19 ct19 cd19 oc20 kV20 dc20 pm20 ct20 cd20 oc21 kV21 dc21 pm21 ct21 cd21 oc22 kV22 dc22 pm22 ct22 cd22:Value} {t_FIGURES t_SMALL t_GREAT t_AT_GREAT t_MARKS t_BEHIND_MARK t_AT_BEGINNING t_EACH_PLACE t_SAME_SIGN t_MOST_BETWEEN t_BESIDE t_MOST_AHEAD:Tok}
  {cc6:Addr}
  (a0:nsIn K mainGlobals "_law_cell" = some (some (.ref f0))) (l0:K.lookup f0=some ⟨oc0,od0,.func (fnOf "_law_cell" "_law_cell" (zM xv) (zF xv) (zk xv) .none kV0 dc0 pm0 an0 cd0 ct0),sl0⟩) (c0:codeIn K cd0 "_law_cell" = true) (k0:keepIn K (.ref f0)=true)
  (a1:nsIn K mainGlobals "_law_drawn" = some (some (.ref f1))) (l1:K.lookup f1=some ⟨oc1,od1,.func (fnOf "_law_drawn" "_law_drawn" (zM xk) (zF xk) (zk xk) .none kV1 dc1 pm1 an1 cd1 ct1),sl1⟩) (c1:codeIn K cd1 "_law_drawn" = true) (k1:keepIn K (.ref f1)=true)
  (a2:nsIn K mainGlobals "_law_name" = some (some (.ref f2))) (l2:K.lookup f2=some ⟨oc2,od2,.func (fnOf "_law_name" "_law_name" (zM xt) (zF xt) (zk xt) .none kV2 dc2 pm2 an2 cd2 ct2),sl2⟩) (c2:codeIn K cd2 "_law_name" = true) (k2:keepIn K (.ref f2)=true)
  (a3:nsIn K mainGlobals "_law_names" = some (some (.ref f3))) (l3:K.lookup f3=some ⟨oc3,od3,.func (fnOf "_law_names" "_law_names" (zM xj) (zF xj) (zk xj) .none kV3 dc3 pm3 an3 cd3 ct3),sl3⟩) (c3:codeIn K cd3 "_law_names" = true) (k3:keepIn K (.ref f3)=true)
  (a4:nsIn K mainGlobals "_law_mark" = some (some (.ref f4))) (l4:K.lookup f4=some ⟨oc4,od4,.func (fnOf "_law_mark" "_law_mark" (zM xu) (zF xu) (zk xu) .none kV4 dc4 pm4 an4 cd4 ct4),sl4⟩) (c4:codeIn K cd4 "_law_mark" = true) (k4:keepIn K (.ref f4)=true)
  (a5:nsIn K mainGlobals "_law_query" = some (some (.ref f5))) (l5:K.lookup f5=some ⟨oc5,od5,.func (fnOf "_law_query" "_law_query" (zM xi) (zF xi) (zk xi) .none kV5 dc5 pm5 an5 cd5 ct5),sl5⟩) (c5:codeIn K cd5 "_law_query" = true) (k5:keepIn K (.ref f5)=true)
  (a6:nsIn K mainGlobals "in_order" = some (some (.ref f6))) (l6:K.lookup f6=some ⟨oc6,od6,.func (fnOf "in_order" "in_order" (zM xW) (zF xW) (zk xW) .none kV6 dc6 pm6 an6 (.ref cc6) ct6),sl6⟩) (c6:codeIn K (.ref cc6) "in_order" = true) (k6:keepIn K (.ref f6)=true) (tb6:PySem.W.codeHdIn K cc6 87=true)
  (a7:nsIn K mainGlobals "first_rows" = some (some (.ref f7))) (l7:K.lookup f7=some ⟨oc7,od7,.func (fnOf "first_rows" "first_rows" (zM xh) (zF xh) (zk xh) .none kV7 dc7 pm7 an7 cd7 ct7),sl7⟩) (c7:codeIn K cd7 "first_rows" = true) (k7:keepIn K (.ref f7)=true)
  (a8:nsIn K mainGlobals "beginning_points" = some (some (.ref f8))) (l8:K.lookup f8=some ⟨oc8,od8,.func (fnOf "beginning_points" "beginning_points" (zM yg) (zF yg) (zk yg) .none kV8 dc8 pm8 an8 cd8 ct8),sl8⟩) (c8:codeIn K cd8 "beginning_points" = true) (k8:keepIn K (.ref f8)=true)
  (a9:nsIn K mainGlobals "own_points" = some (some (.ref f9))) (l9:K.lookup f9=some ⟨oc9,od9,.func (fnOf "own_points" "own_points" (zM xg) (zF xg) (zk xg) .none kV9 dc9 pm9 an9 cd9 ct9),sl9⟩) (c9:codeIn K cd9 "own_points" = true) (k9:keepIn K (.ref f9)=true)
  (a10:nsIn K mainGlobals "meets" = some (some (.ref f10))) (l10:K.lookup f10=some ⟨oc10,od10,.func (fnOf "meets" "meets" (zM va) (zF va) (zk va) .none kV10 dc10 pm10 an10 cd10 ct10),sl10⟩) (c10:codeIn K cd10 "meets" = true) (k10:keepIn K (.ref f10)=true)
  (a11:nsIn K mainGlobals "last_sign_tails" = some (some (.ref f11))) (l11:K.lookup f11=some ⟨oc11,od11,.func (fnOf "last_sign_tails" "last_sign_tails" (zM yq) (zF yq) (zk yq) .none kV11 dc11 pm11 an11 cd11 ct11),sl11⟩) (c11:codeIn K cd11 "last_sign_tails" = true) (k11:keepIn K (.ref f11)=true)
  (a12:nsIn K mainGlobals "first_of_most" = some (some (.ref f12))) (l12:K.lookup f12=some ⟨oc12,od12,.func (fnOf "first_of_most" "first_of_most" (zM yE) (zF yE) (zk yE) .none kV12 dc12 pm12 an12 cd12 ct12),sl12⟩) (c12:codeIn K cd12 "first_of_most" = true) (k12:keepIn K (.ref f12)=true)
  (a13:nsIn K mainGlobals "link_points" = some (some (.ref f13))) (l13:K.lookup f13=some ⟨oc13,od13,.func (fnOf "link_points" "link_points" (zM yY) (zF yY) (zk yY) .none kV13 dc13 pm13 an13 cd13 ct13),sl13⟩) (c13:codeIn K cd13 "link_points" = true) (k13:keepIn K (.ref f13)=true)
  (a14:nsIn K mainGlobals "linked_tails" = some (some (.ref f14))) (l14:K.lookup f14=some ⟨oc14,od14,.func (fnOf "linked_tails" "linked_tails" (zM yN) (zF yN) (zk yN) .none kV14 dc14 pm14 an14 cd14 ct14),sl14⟩) (c14:codeIn K cd14 "linked_tails" = true) (k14:keepIn K (.ref f14)=true)
  (a15:nsIn K mainGlobals "longer_tails" = some (some (.ref f15))) (l15:K.lookup f15=some ⟨oc15,od15,.func (fnOf "longer_tails" "longer_tails" (zM yM) (zF yM) (zk yM) .none kV15 dc15 pm15 an15 cd15 ct15),sl15⟩) (c15:codeIn K cd15 "longer_tails" = true) (k15:keepIn K (.ref f15)=true)
  (a16:nsIn K mainGlobals "lead_points" = some (some (.ref f16))) (l16:K.lookup f16=some ⟨oc16,od16,.func (fnOf "lead_points" "lead_points" (zM yZ) (zF yZ) (zk yZ) .none kV16 dc16 pm16 an16 cd16 ct16),sl16⟩) (c16:codeIn K cd16 "lead_points" = true) (k16:keepIn K (.ref f16)=true)
  (a17:nsIn K mainGlobals "best" = some (some (.ref f17))) (l17:K.lookup f17=some ⟨oc17,od17,.func (fnOf "best" "best" (zM ut) (zF ut) (zk ut) .none kV17 dc17 pm17 an17 cd17 ct17),sl17⟩) (c17:codeIn K cd17 "best" = true) (k17:keepIn K (.ref f17)=true)
  (a18:nsIn K mainGlobals "fitting_rows" = some (some (.ref f18))) (l18:K.lookup f18=some ⟨oc18,od18,.func (fnOf "fitting_rows" "fitting_rows" (zM yO) (zF yO) (zk yO) .none kV18 dc18 pm18 an18 cd18 ct18),sl18⟩) (c18:codeIn K cd18 "fitting_rows" = true) (k18:keepIn K (.ref f18)=true)
  (a19:nsIn K mainGlobals "all_rows" = some (some (.ref f19))) (l19:K.lookup f19=some ⟨oc19,od19,.func (fnOf "all_rows" "all_rows" (zM xI) (zF xI) (zk xI) .none kV19 dc19 pm19 an19 cd19 ct19),sl19⟩) (c19:codeIn K cd19 "all_rows" = true) (k19:keepIn K (.ref f19)=true)
  (a20:nsIn K mainGlobals "finds" = some (some (.ref f20))) (l20:K.lookup f20=some ⟨oc20,od20,.func (fnOf "finds" "finds" (zM vb) (zF vb) (zk vb) .none kV20 dc20 pm20 an20 cd20 ct20),sl20⟩) (c20:codeIn K cd20 "finds" = true) (k20:keepIn K (.ref f20)=true)
  (a21:nsIn K mainGlobals "ties" = some (some (.ref f21))) (l21:K.lookup f21=some ⟨oc21,od21,.func (fnOf "ties" "ties" (zM ur) (zF ur) (zk ur) .none kV21 dc21 pm21 an21 cd21 ct21),sl21⟩) (c21:codeIn K cd21 "ties" = true) (k21:keepIn K (.ref f21)=true)
  (a22:nsIn K mainGlobals "law" = some (some (.ref f22))) (l22:K.lookup f22=some ⟨oc22,od22,.func (fnOf "law" "law" (zM uJ) (zF uJ) (zk uJ) .none kV22 dc22 pm22 an22 cd22 ct22),sl22⟩) (c22:codeIn K cd22 "law" = true) (k22:keepIn K (.ref f22)=true)
  (g_FIGURES:nsIn K mainGlobals "FIGURES" = some (some (.str "0123456789" t_FIGURES)))
  (g_SMALL:nsIn K mainGlobals "SMALL" = some (some (.str "abcdefghijklmnopqrstuvwxyz" t_SMALL)))
  (g_GREAT:nsIn K mainGlobals "GREAT" = some (some (.str "ABCDEFGHIJKLMNOPQRSTUVWXYZ" t_GREAT)))
  (g_AT_GREAT:nsIn K mainGlobals "AT_GREAT" = some (some (.int 5 t_AT_GREAT)))
  (g_MARKS:nsIn K mainGlobals "MARKS" = some (some (.str "_-./" t_MARKS)))
  (g_BEHIND_MARK:nsIn K mainGlobals "BEHIND_MARK" = some (some (.int 6 t_BEHIND_MARK)))
  (g_AT_BEGINNING:nsIn K mainGlobals "AT_BEGINNING" = some (some (.int 8 t_AT_BEGINNING)))
  (g_EACH_PLACE:nsIn K mainGlobals "EACH_PLACE" = some (some (.int 10 t_EACH_PLACE)))
  (g_SAME_SIGN:nsIn K mainGlobals "SAME_SIGN" = some (some (.int 1 t_SAME_SIGN)))
  (g_MOST_BETWEEN:nsIn K mainGlobals "MOST_BETWEEN" = some (some (.int 5 t_MOST_BETWEEN)))
  (g_BESIDE:nsIn K mainGlobals "BESIDE" = some (some (.int 7 t_BESIDE)))
  (g_MOST_AHEAD:nsIn K mainGlobals "MOST_AHEAD" = some (some (.int 3 t_MOST_AHEAD)))
  (z_len:nsIn K mainGlobals "len" = some none)
  (z_range:nsIn K mainGlobals "range" = some none)
  (z_min:nsIn K mainGlobals "min" = some none)
  (z_sorted:nsIn K mainGlobals "sorted" = some none)
  (z_max:nsIn K mainGlobals "max" = some none)
  (z_list:nsIn K mainGlobals "list" = some none)
  (z_set:nsIn K mainGlobals "set" = some none)
  (z_dict:nsIn K mainGlobals "dict" = some none)
  : GE K∧∃fd:FuncData,(∀(s:Shared) (v:Value),BindsTo s fd ⟨[v],[]⟩ [("_law_script", v)])∧∀base:Heap,K.In base→base.Ns mainGlobals mg→BM mg base→FnOk l.prog w K mg base CX0 8 fa fd ["_law_script"] (Yv K):=by
 have e:=hfa.symm.trans (mg_of X G a22)
 cases e
 refine⟨fun r hr=>?_,?_⟩
 ·rcases hr with _|⟨_,hr⟩
  ·exact⟨_,tb6⟩
  ·cases hr
 have D0:ye K mg "_law_cell" xv f0 _:=⟨yS (st:=xv) l0 c0 k0,mg_of X G a0⟩
 have D1:ye K mg "_law_drawn" xk f1 _:=⟨yS (st:=xk) l1 c1 k1,mg_of X G a1⟩
 have D2:ye K mg "_law_name" xt f2 _:=⟨yS (st:=xt) l2 c2 k2,mg_of X G a2⟩
 have D3:ye K mg "_law_names" xj f3 _:=⟨yS (st:=xj) l3 c3 k3,mg_of X G a3⟩
 have D4:ye K mg "_law_mark" xu f4 _:=⟨yS (st:=xu) l4 c4 k4,mg_of X G a4⟩
 have D5:ye K mg "_law_query" xi f5 _:=⟨yS (st:=xi) l5 c5 k5,mg_of X G a5⟩
 have D6:Vu K mg "in_order" xW f6 cc6 87:=⟨⟨_,_,_,_,_,_,_,_,l6⟩,c6,k6,mg_of X G a6,tb6⟩
 have D7:ye K mg "first_rows" xh f7 _:=⟨yS (st:=xh) l7 c7 k7,mg_of X G a7⟩
 have D8:ye K mg "beginning_points" yg f8 _:=⟨yS (st:=yg) l8 c8 k8,mg_of X G a8⟩
 have D9:ye K mg "own_points" xg f9 _:=⟨yS (st:=xg) l9 c9 k9,mg_of X G a9⟩
 have D10:ye K mg "meets" va f10 _:=⟨yS (st:=va) l10 c10 k10,mg_of X G a10⟩
 have D11:ye K mg "last_sign_tails" yq f11 _:=⟨yS (st:=yq) l11 c11 k11,mg_of X G a11⟩
 have D12:ye K mg "first_of_most" yE f12 _:=⟨yS (st:=yE) l12 c12 k12,mg_of X G a12⟩
 have D13:ye K mg "link_points" yY f13 _:=⟨yS (st:=yY) l13 c13 k13,mg_of X G a13⟩
 have D14:ye K mg "linked_tails" yN f14 _:=⟨yS (st:=yN) l14 c14 k14,mg_of X G a14⟩
 have D15:ye K mg "longer_tails" yM f15 _:=⟨yS (st:=yM) l15 c15 k15,mg_of X G a15⟩
 have D16:ye K mg "lead_points" yZ f16 _:=⟨yS (st:=yZ) l16 c16 k16,mg_of X G a16⟩
 have D17:ye K mg "best" ut f17 _:=⟨yS (st:=ut) l17 c17 k17,mg_of X G a17⟩
 have D18:ye K mg "fitting_rows" yO f18 _:=⟨yS (st:=yO) l18 c18 k18,mg_of X G a18⟩
 have D19:ye K mg "all_rows" xI f19 _:=⟨yS (st:=xI) l19 c19 k19,mg_of X G a19⟩
 have D20:ye K mg "finds" vb f20 _:=⟨yS (st:=vb) l20 c20 k20,mg_of X G a20⟩
 have D21:ye K mg "ties" ur f21 _:=⟨yS (st:=ur) l21 c21 k21,mg_of X G a21⟩
 refine⟨fnOf "law" "law" (zM uJ) (zF uJ) (zk uJ) .none kV22 dc22 pm22 an22 cd22 ct22,fun s v=>.of_eq rfl,fun base _ _ bm=>?_⟩
 have h__law_cell:DefOk l.prog w K mg base "_law_cell" 1 2 ["_law_script", "_law_k"] xL:=Xd D0 (mg_none_of X G z_len)
 have h__law_drawn:DefOk l.prog w K mg base "_law_drawn" 2 3 ["_law_script", "_law_k", "_law_many"] zo:=Yi D1 h__law_cell
 have h__law_name:DefOk l.prog w K mg base "_law_name" 3 2 ["_law_script", "_law_at"] y8:=Xb D2 h__law_drawn (mg_none_of X G z_range)
 have h__law_names:DefOk l.prog w K mg base "_law_names" 4 3 ["_law_script", "_law_at", "_law_most"] yW:=Yh D3 h__law_drawn h__law_name (mg_none_of X G z_len) (mg_none_of X G z_range)
 have h__law_mark:DefOk l.prog w K mg base "_law_mark" 1 1 ["_law_sign"] y9:=Xc D4
 have h__law_query:DefOk l.prog w K mg base "_law_query" 3 4 ["_law_script", "_law_at", "_law_name_here", "_law_most"] xl:=Yg D5 h__law_drawn h__law_mark (mg_none_of X G z_range) (mg_none_of X G z_len) (mg_none_of X G z_min)
 have h_in_order:DefOk l.prog w K mg base "in_order" 4 2 ["names", "rows"] xw:=XZ D6 bm (mg_none_of X G z_len) (mg_none_of X G z_sorted)
 have h_first_rows:DefOk l.prog w K mg base "first_rows" 5 3 ["names", "rows", "many"] yV:=Yf D7 h_in_order (mg_none_of X G z_max)
 have h_beginning_points:DefOk l.prog w K mg base "beginning_points" 1 2 ["name", "place"] yu:=uc D8 (mg_of X G g_FIGURES) (mg_of X G g_SMALL) (mg_of X G g_GREAT) (mg_of X G g_AT_GREAT) (mg_of X G g_MARKS) (mg_of X G g_BEHIND_MARK) (mg_of X G g_AT_BEGINNING)
 have h_own_points:DefOk l.prog w K mg base "own_points" 2 3 ["sign", "name", "place"] yr:=Ye D9 h_beginning_points (mg_of X G g_EACH_PLACE) (mg_of X G g_SAME_SIGN)
 have h_meets:DefOk l.prog w K mg base "meets" 1 2 ["sign", "other"] xO:=Ql D10 (mg_of X G g_SMALL)
 have h_last_sign_tails:DefOk l.prog w K mg base "last_sign_tails" 3 2 ["sign", "name"] yb:=uv D11 h_meets h_own_points (mg_none_of X G z_len) (mg_none_of X G z_range)
 have h_first_of_most:DefOk l.prog w K mg base "first_of_most" 1 1 ["tails"] zH:=jo D12
 have h_link_points:DefOk l.prog w K mg base "link_points" 1 2 ["ahead", "place"] y0:=ZD D13 (mg_of X G g_MOST_BETWEEN) (mg_of X G g_BESIDE) (mg_none_of X G z_min)
 have h_linked_tails:DefOk l.prog w K mg base "linked_tails" 2 2 ["place", "tails"] yz:=j0 D14 h_link_points
 have h_longer_tails:DefOk l.prog w K mg base "longer_tails" 3 3 ["sign", "name", "tails"] yP:=jZ D15 h_meets h_own_points h_linked_tails h_first_of_most (mg_none_of X G z_len) (mg_none_of X G z_range)
 have h_lead_points:DefOk l.prog w K mg base "lead_points" 1 1 ["place"] yK:=ZE D16 (mg_of X G g_MOST_AHEAD) (mg_none_of X G z_min)
 have h_best:DefOk l.prog w K mg base "best" 4 2 ["query", "name"] wO:=Mx D17 h_lead_points h_first_of_most h_longer_tails h_last_sign_tails (mg_none_of X G z_len) (mg_none_of X G z_range)
 have h_fitting_rows:DefOk l.prog w K mg base "fitting_rows" 5 3 ["names", "query", "numbers"] yA:=j5 D18 h_best
 have h_all_rows:DefOk l.prog w K mg base "all_rows" 6 2 ["names", "query"] yF:=X1 D19 h_fitting_rows (mg_none_of X G z_len) (mg_none_of X G z_list) (mg_none_of X G z_range)
 have h_finds:DefOk l.prog w K mg base "finds" 7 3 ["names", "query", "many"] xG:=Qm D20 h_all_rows h_first_rows
 have h_ties:DefOk l.prog w K mg base "ties" 7 2 ["names", "query"] wN:=Mw D21 h_all_rows (mg_none_of X G z_sorted)
 exact LP (LG (yS (st:=uJ) l22 c22 k22) h_ties h_finds h__law_drawn h__law_query h__law_names (mg_none_of X G z_len) (mg_none_of X G z_list) (mg_none_of X G z_set) (mg_none_of X G z_dict) (mg_none_of X G z_sorted)) hl
end Law
open PySem PySem.W PyProof.Rows
set_option maxRecDepth 100000 in
set_option maxHeartbeats 0 in
theorem PySem.Challenge.cw_fewfind_k22_whole_lists_holds : PySem.Challenge.rw_fewfind_k22_whole_lists.Holds := by
 w_on;o_law;k_head;(case hw=>w_witness2)
 k_fill
 refine FD.walkM (l:=PySem.Challenge.rw_fewfind_k22_whole_lists) (k:=8) (p := "_law_script") rfl rfl ⟨rfl,by decide,by decide⟩ ?T ?F
 case F=>
  intro w mg fa h KX G hmg
  refine' Law.all_mk KX G hmg Law.main ?a0 ?l0 ?c0 ?k0 ?a1 ?l1 ?c1 ?k1 ?a2 ?l2 ?c2 ?k2 ?a3 ?l3 ?c3 ?k3 ?a4 ?l4 ?c4 ?k4 ?a5 ?l5 ?c5 ?k5 ?a6 ?l6 ?c6 ?k6 ?tb6 ?a7 ?l7 ?c7 ?k7 ?a8 ?l8 ?c8 ?k8 ?a9 ?l9 ?c9 ?k9 ?a10 ?l10 ?c10 ?k10 ?a11 ?l11 ?c11 ?k11 ?a12 ?l12 ?c12 ?k12 ?a13 ?l13 ?c13 ?k13 ?a14 ?l14 ?c14 ?k14 ?a15 ?l15 ?c15 ?k15 ?a16 ?l16 ?c16 ?k16 ?a17 ?l17 ?c17 ?k17 ?a18 ?l18 ?c18 ?k18 ?a19 ?l19 ?c19 ?k19 ?a20 ?l20 ?c20 ?k20 ?a21 ?l21 ?c21 ?k21 ?a22 ?l22 ?c22 ?k22 ?g_FIGURES ?g_SMALL ?g_GREAT ?g_AT_GREAT ?g_MARKS ?g_BEHIND_MARK ?g_AT_BEGINNING ?g_EACH_PLACE ?g_SAME_SIGN ?g_MOST_BETWEEN ?g_BESIDE ?g_MOST_AHEAD ?z_len ?z_range ?z_min ?z_sorted ?z_max ?z_list ?z_set ?z_dict
  (case a0=>k_is)
  (case l0=>k_is)
  (case c0=>k_is)
  (case k0=>k_is)
  (case a1=>k_is)
  (case l1=>k_is)
  (case c1=>k_is)
  (case k1=>k_is)
  (case a2=>k_is)
  (case l2=>k_is)
  (case c2=>k_is)
  (case k2=>k_is)
  (case a3=>k_is)
  (case l3=>k_is)
  (case c3=>k_is)
  (case k3=>k_is)
  (case a4=>k_is)
  (case l4=>k_is)
  (case c4=>k_is)
  (case k4=>k_is)
  (case a5=>k_is)
  (case l5=>k_is)
  (case c5=>k_is)
  (case k5=>k_is)
  (case a6=>k_is)
  (case l6=>k_is)
  (case c6=>k_is)
  (case k6=>k_is)
  (case tb6=>with_unfolding_all rfl)
  (case a7=>k_is)
  (case l7=>k_is)
  (case c7=>k_is)
  (case k7=>k_is)
  (case a8=>k_is)
  (case l8=>k_is)
  (case c8=>k_is)
  (case k8=>k_is)
  (case a9=>k_is)
  (case l9=>k_is)
  (case c9=>k_is)
  (case k9=>k_is)
  (case a10=>k_is)
  (case l10=>k_is)
  (case c10=>k_is)
  (case k10=>k_is)
  (case a11=>k_is)
  (case l11=>k_is)
  (case c11=>k_is)
  (case k11=>k_is)
  (case a12=>k_is)
  (case l12=>k_is)
  (case c12=>k_is)
  (case k12=>k_is)
  (case a13=>k_is)
  (case l13=>k_is)
  (case c13=>k_is)
  (case k13=>k_is)
  (case a14=>k_is)
  (case l14=>k_is)
  (case c14=>k_is)
  (case k14=>k_is)
  (case a15=>k_is)
  (case l15=>k_is)
  (case c15=>k_is)
  (case k15=>k_is)
  (case a16=>k_is)
  (case l16=>k_is)
  (case c16=>k_is)
  (case k16=>k_is)
  (case a17=>k_is)
  (case l17=>k_is)
  (case c17=>k_is)
  (case k17=>k_is)
  (case a18=>k_is)
  (case l18=>k_is)
  (case c18=>k_is)
  (case k18=>k_is)
  (case a19=>k_is)
  (case l19=>k_is)
  (case c19=>k_is)
  (case k19=>k_is)
  (case a20=>k_is)
  (case l20=>k_is)
  (case c20=>k_is)
  (case k20=>k_is)
  (case a21=>k_is)
  (case l21=>k_is)
  (case c21=>k_is)
  (case k21=>k_is)
  (case a22=>k_is)
  (case l22=>k_is)
  (case c22=>k_is)
  (case k22=>k_is)
  (case g_FIGURES=>k_is)
  (case g_SMALL=>k_is)
  (case g_GREAT=>k_is)
  (case g_AT_GREAT=>k_is)
  (case g_MARKS=>k_is)
  (case g_BEHIND_MARK=>k_is)
  (case g_AT_BEGINNING=>k_is)
  (case g_EACH_PLACE=>k_is)
  (case g_SAME_SIGN=>k_is)
  (case g_MOST_BETWEEN=>k_is)
  (case g_BESIDE=>k_is)
  (case g_MOST_AHEAD=>k_is)
  (case z_len=>k_is)
  (case z_range=>k_is)
  (case z_min=>k_is)
  (case z_sorted=>k_is)
  (case z_max=>k_is)
  (case z_list=>k_is)
  (case z_set=>k_is)
  (case z_dict=>k_is)
 case T=>decide
