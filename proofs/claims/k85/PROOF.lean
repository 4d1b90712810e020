import PyProof.Rows.All
import Wide.All
import OpenK.AllK
import Wide.FinOn
import Lean
import PyProof.EqAt
import PyProof.EqKinds
import PyProof.TupleCall
import PyProof.NeKinds
import PyProof.NeData
import PyProof.P3In
import PyProof.ZipIter
import PyProof.Draws
import PyProof.StrWalks
import PyProof.IsiPairs
import PyProof.IsiSeqPairs
import PyProof.ConsumeWalk
import PyProof.ListStr
import PyProof.IsiHeapPairs
import PyProof.Rows.Range3
import PyProof.IsiNone
import KE.KRevIter
import KE.KRevSl
import PyProof.Conv_int_bool
import PyProof.ListRange
import PyProof.TupleOfSeq
import PyProof.MinMaxWalk
import PyProof.WalkInts
import PyProof.SeqI3
import PyProof.SetKind
import PyProof.Rows.SetFrom
import PyProof.CollectWalk
import PyProof.FactsAll.set
import PyProof.Rows.SortWalk
import PyProof.Rows.SortShell
import PyProof.Rows.SumAny
import PyProof.DictWalks
import PyProof.Rows.SortRev
import PyProof.Rows.SortStr
import PySem.Challenge.RW_fewfind_k85_whole_slips
set_option Elab.async false
set_option linter.all false
set_option maxRecDepth 100000
open PySem.W (methodObj keepIn fnOf codeIn nsIn mg_of mg_none_of)
open PyProof.Rows (boot_list boot_sorted)
open List (mem_filter mem_range mem_cons_self mem_cons_of_mem mem_cons mem_append mem_append_left getElem?_set_self getElem?_set_ne mem_filterMap mem_append_right size_toArray append_nil nodup_cons length_take getElem?_append_right getElem?_replicate getElem?_append_left getElem?_map mem_of_getElem? length_append length_map length_drop length_set replicate_succ flatten_cons append_assoc foldl_cons map_nil map_cons getElem?_set drop_eq_getElem_cons forIn_cons lookup_cons set_set length_cons all_eq_true zipIdx_cons getD_eq_getElem?_getD getElem_mem range'_succ range_eq_range' length_range mem_map pairwise_cons pairwise_map map_map getElem?_eq_getElem map_append mem_singleton find?_cons any_cons length_nil getElem?_cons_zero getElem?_cons_succ set_cons_succ set_cons_zero drop_zero getD_cons_zero getD_cons_succ mem_map_of_mem map_id)
open Nat (lt_of_lt_of_le lt_irrefl ne_of_lt le_trans le_of_lt ne_of_gt le_refl lt_or_ge zero_le zero_add succ_ne_zero)
open Int (toNat_of_nonneg emod_nonneg toNat_natCast)
open Array (length_toList getElem_toList)
namespace L2
open PySem PySem.Spec PyProof.Rows
abbrev Key:=Sum Int Str
def Xo:Key→Value→Bool
 |.inl k,v=>Value.isInt k v
 |.inr x,v=>Value.isStrOf x v
def keyH(w:World):Key→Int
 |.inl k=>hashInt k
 |.inr x=>hashStr w x
theorem xf:∀{k:Key} {v:Value},Xo k v=true→(∃i t,k=Sum.inl i∧v=Value.int i t)∨(∃x t,k=Sum.inr x∧v=Value.str x t)
 |.inl i,v,h=>by
  obtain⟨t,e⟩:=Value.isInt_shape (k:=i) (v:=v) h
  exact .inl ⟨i,t,rfl,e⟩
 |.inr x,v,h=>by
  obtain⟨t,e⟩:=Value.isStrOf_shape (x:=x) (v:=v) h
  exact .inr ⟨x,t,rfl,e⟩
theorem Jy(i:Int)(t:Tok):Xo (.inl i) (.int i t)=true:=by simp[Xo,Value.isInt]
theorem Jx(x:Str)(t:Tok):Xo (.inr x) (.str x t)=true:=by simp[Xo,Value.isStrOf]
theorem L8(a b:Int):decide ((Sum.inl a:Key)=Sum.inl b)=(a==b):=by
 by_cases e:a=b
 ·subst e;simp
 ·have h:¬ (Sum.inl a:Key)=Sum.inl b:=fun q=>e (Sum.inl.inj q)
  rw[decide_eq_false h]
  exact(beq_eq_false_iff_ne.mpr e).symm
theorem L5(a b:Str):decide ((Sum.inr a:Key)=Sum.inr b)=decide (a=b):=by
 by_cases e:a=b
 ·subst e;simp
 ·have h:¬ (Sum.inr a:Key)=Sum.inr b:=fun q=>e (Sum.inr.inj q)
  rw[decide_eq_false h,decide_eq_false e]
theorem L7(a:Int)(b:Str):decide ((Sum.inl a:Key)=Sum.inr b)=false:=decide_eq_false (fun q=>nomatch q)
theorem L6(a:Str)(b:Int):decide ((Sum.inr a:Key)=Sum.inl b)=false:=decide_eq_false (fun q=>nomatch q)
def xI(prog:Program)(w:World):PySem.KeyKind prog w Key where
 is:=Xo
 hash:=keyH w
 inj:=fun v a b ha hb=>by
  rcases xf ha with ⟨i,t,rfl,rfl⟩|⟨x,t,rfl,rfl⟩
  ·rcases xf hb with ⟨j,u,rfl,e⟩|⟨y,u,rfl,e⟩
   ·injection e with e1 _;rw[e1]
   ·exact nomatch e
  ·rcases xf hb with ⟨j,u,rfl,e⟩|⟨y,u,rfl,e⟩
   ·exact nomatch e
   ·injection e with e1 _;rw[e1]
 byValue:=fun k v h=>by
  rcases xf h with ⟨i,t,rfl,rfl⟩|⟨x,t,rfl,rfl⟩ <;> rfl
 pyHash:=fun hv h=>by
  rcases xf hv with ⟨i,t,rfl,rfl⟩|⟨x,t,rfl,rfl⟩
  ·exact wpAny_pyHash_int h
  ·exact wpAny_pyHash_str h
 eqBool:=fun hu hv h=>by
  rcases xf hu with ⟨i,t,rfl,rfl⟩|⟨x,t,rfl,rfl⟩
  ·rcases xf hv with ⟨j,u,rfl,rfl⟩|⟨y,u,rfl,rfl⟩
   ·rw[L8] at h;exact wpAny_eqBool_int h
   ·rw[L7] at h;exact SeqAt.EqAt.int_str i t y u _ _ _ _ h
  ·rcases xf hv with ⟨j,u,rfl,rfl⟩|⟨y,u,rfl,rfl⟩
   ·rw[L6] at h;exact SeqAt.EqAt.str_int x t j u _ _ _ _ h
   ·rw[L5] at h;exact wpAny_eqBool_str h
 «strs»:=fun k x t v h=>by
  rcases xf h with ⟨i,u,rfl,e⟩|⟨y,u,rfl,e⟩
  ·exact nomatch e
  ·injection e with e1 _
   subst e1
   cases v <;> rfl
theorem WG(prog:Program)(w:World)(i:Int)(t:Tok):(xI prog w).is (.inl i) (.int i t)=true:=Jy i t
theorem WF(prog:Program)(w:World)(x:Str)(t:Tok):(xI prog w).is (.inr x) (.str x t)=true:=Jx x t
inductive V where
 | non|bl (b:Bool) | int (i:Int) | str (x:Str) | byt (b:Array UInt8) | flt (b:UInt64) | ref (a:Addr) | ty (n:String)
 deriving DecidableEq
def RelV:V→Value→Prop
 |.non,u=>u=Value.none
 |.bl b,u=>u=Value.bool b
 |.int i,u=>∃t,u=Value.int i t
 |.str x,u=>∃t,u=Value.str x t
 |.byt b,u=>∃t,u=Value.bytes b t
 |.flt b,u=>∃t,u=Value.float b t
 |.ref a,u=>u=Value.ref a
 |.ty n,u=>u=Value.type n
abbrev Vals:List V→List Value→Prop:=Paired RelV
theorem Vals.length{xs:List V}{us:List Value}(r:Vals xs us):xs.length=us.length:=Paired.length r
theorem Vals.get:∀{xs:List V} {us:List Value} {i:Nat} {x:V},Vals xs us→xs[i]?=some x→∃u,us[i]?=some u∧RelV x u
 |_,_,_,_,.nil,e=>by simp at e
 |_,_,0,_,.cons r _,e=>by simp at e;subst e;exact⟨_,rfl,r⟩
 |_,_,i+1,x,.cons _ t,e=>by
  obtain⟨u,h1,h2⟩:=Vals.get (i:=i) (x:=x) t (by simpa using e)
  exact⟨u,by simpa using h1,h2⟩
theorem Vals.set{x:V}{u:Value}(r:RelV x u):∀{xs:List V} {us:List Value} (i:Nat),Vals xs us→Vals (xs.set i x) (us.set i u)
 |_,_,_,.nil=>.nil
 |_,_,0,.cons _ t=>.cons r t
 |_,_,i+1,.cons q t=>.cons q (Vals.set r i t)
theorem Vals.append:∀{xs ys:List V} {us ws:List Value},Vals xs us→Vals ys ws→Vals (xs++ys) (us++ws)
 |_,_,_,_,.nil,s=>s
 |_,_,_,_,.cons r t,s=>.cons r (Vals.append t s)
theorem Vals.take:∀{xs:List V} {us:List Value} (n:Nat),Vals xs us→Vals (xs.take n) (us.take n)
 |_,_,0,_=>.nil
 |_,_,_+1,.nil=>.nil
 |_,_,n+1,.cons r t=>.cons r (Vals.take n t)
theorem Vals.drop:∀{xs:List V} {us:List Value} (n:Nat),Vals xs us→Vals (xs.drop n) (us.drop n)
 |_,_,0,r=>r
 |_,_,_+1,.nil=>.nil
 |_,_,n+1,.cons _ t=>Vals.drop n t
def RelO:Option V→Option Value→Prop
 |some v,some u=>RelV v u
 |none,none=>True
 |_,_=>False
def KV{κ:Type}:List (κ×V)→List (κ×Value)→Prop:=Paired fun (p:κ×V) (q:κ×Value)=>p.1=q.1∧RelV p.2 q.2
def kV:Key→V
 |.inl i=>.int i
 |.inr x=>.str x
inductive HO where
 | lst (xs:List V)
 | tup (xs:List V)
 | dK (kvs:List (Key×V)) | dT (kvs:List (List Key×V))
 | set (S:Int→Bool) (n:Nat)
 | ins (C dx:Addr) (fs:List (Str×V))
 | own (x:Addr)
 | xd (fs:List (Str×V))
 | met (f x:Addr)
 | rng (lo hi:Int)
 | frz (o:Obj) (u:HO)
 | tbl (ps:Array Value)
 | ext (φ:Heap→Prop)
abbrev Hp:=Addr→Option HO
def upd(H:Hp)(a:Addr)(o:HO):Hp:=fun b=>if b=a then some o else H b
theorem zG{H:Hp}{a:Addr}{o:HO}:upd H a o a=some o:=by unfold upd;rw[if_pos rfl]
theorem zB{H:Hp}{a b:Addr}{o:HO}(h:b≠a):upd H a o b=H b:=by unfold upd;rw[if_neg h]
theorem ne_of{H:Hp}{a b:Addr}{o u:HO}(h:H a=some o)(h':H b=some u)(d:o≠u):a≠b:=by
 intro e;subst e;rw[h] at h';exact d (Option.some.inj h')
theorem z9{H:Hp}{a b:Addr}{o:HO}(h:H a=some o)(h':H b=none):a≠b:=by
 intro e;subst e;rw[h] at h';cases h'
section
variable(P:Program)(w:World)
def ObjOk(H:Hp)(h:Heap)(a:Addr):HO→Prop
 |.lst xs=>xs.length≤sizeLine∧∃(its:List Value) (n:Nat),Vals xs its∧h.get? a=some { cls:=.type "list", data:=.seq its.toArray n }
 |.tup xs=>xs.length≤sizeLine∧∃its:List Value,Vals xs its∧IsTup h a its.toArray
 |.dK kvs=>kvs.length≤sizeLine∧(a==sysModules)=false∧∃vs,KV kvs vs∧h.DictOf (xI P w) a vs
 |.dT kvs=>kvs.length≤sizeLine∧(a==sysModules)=false∧∃xs:List (List Key×Addr×Value),
   Paired (fun (p:List Key×V) (q:List Key×Addr×Value)=>p.1=q.1∧H q.2.1=some (.tup (p.1.map kV))∧RelV p.2 q.2.2) kvs xs ∧
   ∃o es ep,h.get? a=some o∧o.ExactDict∧o.data=.dict es ep∧es.toList=xs.map (entryOfKey (tupleKind (xI P w)))∧(xs.map (·.1)).Nodup
 |.set S n=>h.SetOf (intKind P w) a S n
 |.ins C dx fs=>H dx=some (.own a)∧fs.length≤1000∧dx≠a∧h.get? a=some (PySem.W.instObj C dx) ∧
   ∃mA,h.Ns1 dx mA∧(∀f,RelO (fs.lookup f) (mA f))∧PySem.Within mA (fs.map (·.1))
 |.own _=>∃o,h.get? a=some o
 |.xd fs=>∃mA,h.Ns1 a mA∧∀f,RelO (fs.lookup f) (mA f)
 |.rng lo hi=>∃t u v,h.get? a=some { cls:=.type "range", data:=.fields #[.int lo t,.int hi u,.int 1 v] }
 |.frz o u=>h.get? a=some o∧ObjOk H h a u
 |.tbl ps=>h.get? a=some { cls:=.none,data:=.fields ps }
 |.met f x=>h.get? a=some (methodObj (.ref f) (.ref x))
 |.ext φ=>φ h∧(∃o,h.get? a=some o)∧∀h1 h2:Heap,φ h1→(∀o,h1.get? a=some o→h2.get? a=some o)→φ h2
def HOk(H:Hp)(h:Heap):Prop:=∀a o,H a=some o→ObjOk P w H h a o
end
section
variable{P:Program}{w:World}{H H':Hp}{h h':Heap}{a:Addr}{o:HO}
theorem ObjOk.lt(x:ObjOk P w H h a o):a<h.objs.size:=by
 cases o with
 |lst xs=>obtain⟨_,_,_,_,e⟩:=x;exact Heap.lt_size e
 |tup xs=>obtain⟨_,_,_,p⟩:=x;exact p.lt
 |dK kvs=>obtain⟨_,_,_,_,o,_,_,e,_⟩:=x;exact Heap.lt_size e
 |dT kvs=>obtain⟨_,_,_,_,o,_,_,e,_⟩:=x;exact Heap.lt_size e
 |set S n=>obtain⟨o,_,_,_,e,_⟩:=x;exact Heap.lt_size e
 |ins C dx fs=>obtain⟨_,_,_,e,_⟩:=x;exact Heap.lt_size e
 |own y=>obtain⟨_,e⟩:=x;exact Heap.lt_size e
 |xd fs=>obtain⟨_,⟨_,_,_,e,_⟩,_⟩:=x;exact Heap.lt_size e
 |rng lo hi=>obtain⟨_,_,_,e⟩:=x;exact Heap.lt_size e
 |frz ob u=>obtain⟨e,_⟩:=x;exact Heap.lt_size e
 |tbl ps=>exact Heap.lt_size (show h.get? a=some _ from x)
 |met f y=>exact Heap.lt_size (show h.get? a=some _ from x)
 |ext φ=>obtain⟨_,⟨_,e⟩,_⟩:=x;exact Heap.lt_size e
theorem Paired.mapP{α β:Type}{F G:α→β→Prop}:∀{l₁:List α} {l₂:List β},Paired F l₁ l₂→(∀a b,F a b→G a b)→Paired G l₁ l₂
 |_,_,.nil,_=>.nil
 |_,_,.cons r t,f=>.cons (f _ _ r) (Paired.mapP t f)
theorem ObjOk.stay(x:ObjOk P w H h a o)(k:∀b u,(b=a∨H b=some (.own a))→h.get? b=some u→h'.get? b=some u)
  (ho:∀b,H b=some (.own a)→H' b=some (.own a)) (ht:∀b xs,H b=some (.tup xs)→H' b=some (.tup xs)):ObjOk P w H' h' a o:=by
 induction o with
 |lst xs=>obtain⟨z,its,n,r,e⟩:=x;exact⟨z,its,n,r,k _ _ (.inl rfl) e⟩
 |tup xs=>obtain⟨z,its,r,ob,e,c⟩:=x;exact⟨z,its,r,ob,k _ _ (.inl rfl) e,c⟩
 |dK kvs=>obtain⟨z,y,vs,r,ob,es,ep,e,c⟩:=x;exact⟨z,y,vs,r,ob,es,ep,k _ _ (.inl rfl) e,c⟩
 |dT kvs=>
  obtain⟨z,y,xs,r,ob,es,ep,e,c⟩:=x
  exact⟨z,y,xs,Paired.mapP r fun p q z=>⟨z.1,ht _ _ z.2.1,z.2.2⟩,ob,es,ep,k _ _ (.inl rfl) e,c⟩
 |set S n=>obtain⟨ob,es,ep,t,e,c⟩:=x;exact⟨ob,es,ep,t,k _ _ (.inl rfl) e,c⟩
 |ins C dx fs=>
  obtain⟨d,z,ne,e,mA,⟨od,es,ep,e2,c⟩,r⟩:=x
  exact⟨ho _ d,z,ne,k _ _ (.inl rfl) e,mA,⟨od,es,ep,k _ _ (.inr d) e2,c⟩,r⟩
 |own y=>obtain⟨ob,e⟩:=x;exact⟨ob,k _ _ (.inl rfl) e⟩
 |xd fs=>obtain⟨mA,⟨od,es,ep,e,c⟩,r⟩:=x;exact⟨mA,⟨od,es,ep,k _ _ (.inl rfl) e,c⟩,r⟩
 |rng lo hi=>obtain⟨t,u,v,e⟩:=x;exact⟨t,u,v,k _ _ (.inl rfl) e⟩
 |frz ob u ih=>obtain⟨e,q⟩:=x;exact⟨k _ _ (.inl rfl) e,ih q⟩
 |tbl ps=>
  have e:h.get? a=some { cls:=.none,data:=.fields ps }:=x
  show h'.get? a=some { cls:=.none,data:=.fields ps }
  exact k a _ (.inl rfl) e
 |met f y=>
  have e:h.get? a=some (methodObj (.ref f) (.ref y)):=x
  show h'.get? a=some (methodObj (.ref f) (.ref y))
  exact k a _ (.inl rfl) e
 |ext φ=>obtain⟨p,⟨o,e⟩,st⟩:=x;exact⟨st _ _ p fun o q=>k _ _ (.inl rfl) q,⟨o,k _ _ (.inl rfl) e⟩,st⟩
theorem HOk.lt(x:HOk P w H h)(e:H a=some o):a<h.objs.size:=(x a o e).lt
theorem HOk.fresh(x:HOk P w H h)(e:h.objs.size≤a):H a=none:=by
 cases q:H a with
 |none=>rfl
 |some u=>exact absurd (lt_of_lt_of_le (x.lt q) e) (lt_irrefl _)
theorem HOk.kept(x:HOk P w H h)(k:∀b u,h.get? b=some u→h'.get? b=some u):HOk P w H h':=fun a o e=>
 (x a o e).stay (fun b u _ q=>k b u q) (fun _ q=>q) fun _ _ q=>q
theorem HOk.laid(x:HOk P w H h)(k:∀b u,h.get? b=some u→h'.get? b=some u)(hp:h.objs.size≤a)(new:ObjOk P w (upd H a o) h' a o):HOk P w (upd H a o) h':=fun b u e=>by
 have hn:=x.fresh hp
 by_cases hb:b=a
 ·subst hb;rw[zG] at e;cases e;exact new
 ·rw[zB hb] at e
  exact(x b u e).stay (fun c v _ q=>k c v q) (fun c q=>by rw[zB (z9 q hn)];exact q) fun c xs q=>by rw[zB (z9 q hn)];exact q
end
def Rd(H:Hp)(a:Addr)(u:HO):Prop:=H a=some u∨∃o,H a=some (.frz o u)
theorem Rd.ok{P:Program}{w:World}{H:Hp}{h:Heap}{a:Addr}{u:HO}(r:Rd H a u)(x:HOk P w H h):ObjOk P w H h a u:=by
 rcases r with r|⟨o,r⟩
 ·exact x a u r
 ·obtain⟨_,q⟩:=x a _ r
  exact q
def Mut:Option HO→Prop
 | some (.lst _)=>True
 | some (.dK _)=>True
 | some (.dT _)=>True
 | some (.set _ _)=>True
 | some (.ins _ _ _)=>True
 | some (.ext _)=>True
 |_=>False
section
variable{P:Program}{w:World}{H:Hp}{h h':Heap}{x e:Addr}{o':HO}
theorem HOk.write(ok:HOk P w H h)(mu:Mut (H x))(he:e=x∨H e=some (.own x))(k:∀b u,b≠e→h.get? b=some u→h'.get? b=some u)(heo:∃u,h'.get? e=some u)
  (new:ObjOk P w (upd H x o') h' x o'):HOk P w (upd H x o') h':=fun b u q=>by
 have nown:∀c y,H c=some (.own y)→c≠x:=fun c y r z=>by subst z;rw[r] at mu;exact mu
 have ntup:∀c xs,H c=some (.tup xs)→c≠x:=fun c xs r z=>by subst z;rw[r] at mu;exact mu
 by_cases hb:b=x
 ·subst hb;rw[zG] at q;cases q;exact new
 ·rw[zB hb] at q
  by_cases hbe:b=e
  ·have q':H b=some (.own x):=by
    rcases he with z|z
    ·exact absurd (hbe.trans z) hb
    ·rw[hbe];exact z
   rw[q] at q';cases q'
   obtain⟨v,hv⟩:=heo
   exact⟨v,by rw[hbe];exact hv⟩
  ·refine(ok b u q).stay (fun c v hc r=>k c v ?_ r) (fun c r=>by rw[zB (nown c b r)];exact r) fun c xs r=>by rw[zB (ntup c xs r)];exact r
   rcases hc with rfl|hc
   ·exact hbe
   ·rintro rfl
    rcases he with z|z
    ·exact nown c b hc z
    ·rw[hc] at z;cases z;exact hb rfl
end
structure Un(fs ex:List Addr)(H H':Hp)(h h':Heap):Prop where
 keep:∀b o,h.get? b=some o→H b=none→b∉fs→b∉ex→h'.get? b=some o
 slot:∀b o,h.get? b=some o→H b=none→b∈fs→b∉ex→∃sl,h'.get? b=some { o with slots:=sl }
 free:∀b o,h.get? b=some o→H b=none→b∉ex→H' b=none
 there:∀b o,h.get? b=some o→b∉ex→∃o',h'.get? b=some o'
 tups:∀b xs,H b=some (.tup xs)→H' b=some (.tup xs)
 frzs:∀b o u,H b=some (.frz o u)→H' b=some (.frz o u)
 tbls:∀b ps,H b=some (.tbl ps)→∃more,H' b=some (.tbl (ps++more))
section
variable{fs fs' ex ex':List Addr}{H H1 H2:Hp}{h h1 h2 h':Heap}{a x e:Addr}{o:HO}
theorem Un.any(u:Un fs ex H H1 h h1){b:Addr}{ob:Obj}(q:h.get? b=some ob)(n:H b=none)(hx:b∉ex):∃sl,h1.get? b=some { ob with slots:=sl }:=by
 by_cases hb:b∈fs
 ·exact u.slot b ob q n hb hx
 ·exact⟨ob.slots,u.keep b ob q n hb hx⟩
theorem Un.kept(k:∀b u,h.get? b=some u→h'.get? b=some u):Un fs ex H H h h':=
 ⟨fun b ob q _ _ _=>k b ob q,fun b ob q _ _ _=>⟨ob.slots,k b ob q⟩,fun _ _ _ n _=>n,fun b ob q _=>⟨ob,k b ob q⟩,fun _ _ q=>q,fun _ _ _ q=>q,fun _ ps q=>⟨#[],by rw[q];simp⟩⟩
theorem Un.refl:Un fs ex H H h h:=Un.kept fun _ _ q=>q
theorem Un.laid(k:∀b u,h.get? b=some u→h'.get? b=some u)(hp:h.objs.size≤a)(hn:H a=none):Un fs ex H (upd H a o) h h' where
 keep:=fun b u q _ _ _=>k b u q
 slot:=fun b u q _ _ _=>⟨u.slots,k b u q⟩
 free:=fun b u q n _=>by rw[zB (ne_of_lt (lt_of_lt_of_le (Heap.lt_size q) hp))];exact n
 there:=fun b u q _=>⟨u,k b u q⟩
 tups:=fun b xs q=>by rw[zB (z9 q hn)];exact q
 frzs:=fun b u xs q=>by rw[zB (z9 q hn)];exact q
 tbls:=fun b ps q=>⟨#[],by rw[zB (z9 q hn),q];simp⟩
theorem Un.write(mu:Mut (H x))(he:e=x∨H e=some (.own x))(k:∀b u,b≠e→h.get? b=some u→h'.get? b=some u)(heo:∃u,h'.get? e=some u):Un fs ex H (upd H x o) h h':=by
 have hx:∀b,H b=none→b≠x:=fun b n z=>by subst z;rw[n] at mu;exact mu
 have hb:∀b,H b=none→b≠e:=fun b n z=>by
  subst z
  rcases he with r|r
  ·exact hx b n r
  ·rw[n] at r;cases r
 have hm:∀b u,H b=some u→¬ Mut (some u)→b≠x:=fun b u q nm z=>by subst z;rw[q] at mu;exact nm mu
 refine⟨fun b u q n _ _=>k b u (hb b n) q,fun b u q n _ _=>⟨u.slots,k b u (hb b n) q⟩,fun b u q n _=>by rw[zB (hx b n)];exact n,fun b u q _=>?_,
  fun b xs q=>by rw[zB (hm b _ q fun z=>z)];exact q,fun b u xs q=>by rw[zB (hm b _ q fun z=>z)];exact q,fun b ps q=>⟨#[],by rw[zB (hm b _ q fun z=>z),q];simp⟩⟩
 by_cases hbe:b=e
 ·subst hbe;exact heo
 ·exact⟨u,k b u hbe q⟩
end
def trk(h:Heap)(H:Hp):List Addr:=(List.range h.objs.size).filter fun a=>(H a).isSome
def jp(h:Heap)(H:Hp):Heap:=PySem.W.hideAll h (trk h H)
theorem Xt(h:Heap)(H:Hp):(jp h H).objs.size=h.objs.size:=PySem.W.hideAll_size _ _
theorem WV{h:Heap}{H:Hp}{b:Addr}{o:Obj}(e:h.get? b=some o)(n:H b=none):(jp h H).get? b=some o:=
 PySem.W.hideAll_get _ e fun hm=>by
  have q:(H b).isSome=true:=(mem_filter.mp hm).2
  rw[n] at q;simp at q
theorem Um{h:Heap}{H:Hp}{b:Addr}{o:Obj}(e:(jp h H).get? b=some o):h.get? b=some o∧H b=none:=by
 have e':h.get? b=some o:=PySem.W.of_hideAll (trk h H) e
 refine⟨e',?_⟩
 cases q:H b with
 |none=>rfl
 |some x=>
  have hm:b∈trk h H:=mem_filter.mpr ⟨mem_range.mpr (Heap.lt_size e'),by simp[q]⟩
  have z:(jp h H).get? b=none:=PySem.W.hideAll_none (trk h H) hm
  rw[z] at e;cases e
def TM(g h:Heap)(L:Addr):List (Addr×Obj):=(List.range h.objs.size).filterMap fun a=>if a=L∨(g.get? a).isSome=true then none else (h.get? a).map fun o=>(a,o)
def rest(g h:Heap)(L d:Addr):List (Addr×Obj):=(TM g h L).filter fun p=>decide (p.1≠d)
structure Mod(K:PySem.W.Frag)(mg:Str→Option Value)(base:Heap):Prop where
 kin:K.In base
 glob:base.Ns mainGlobals mg
 blt:∃mb,base.Ns builtinsNs mb∧∀x:Str,x ≠ "__name__" → mb x=bootBuiltins x
 nolimit:base.NoLimit
structure Cx where
 prog:Program
 w:World
 K:PySem.W.Frag
 mg:Str→Option Value
 base:Heap
 A:Around
 N:List Str
 s₀:Shared
 H₀:Hp
 env:Env
 outer:List Env
 stack:List Env
 ex:List Addr
 fn:Str→Bool
 calm:Bool
 pn:List (Addr×Obj)
 xe:Value→Shared→Prop
def frs(l:List Env):List Addr:=l.filterMap (·.frame)
abbrev Cx.fs(X:Cx):List Addr:=frs X.outer
def Vis(sc:Scope)(x:Str):Prop:=sc.names.lookup x=some .local∨sc.names.lookup x=some .cell∨sc.names.lookup x=some .free
def Loc(sc:Scope)(x:Str):Prop:=sc.names.lookup x=some .local∨sc.names.lookup x=some .cell
def Look(env:Env)(h:Heap)(m:Str→Option Value)(x:Str)(u:Value):Prop:=
 (env.kindOf x=some .local∧m x=some u)∨((env.kindOf x=some .cell∨env.kindOf x=some .free)∧∃c,env.cells.lookup x=some c∧h.IsCell c (some u))
structure Cx.Ok(X:Cx):Prop where
 mod:Mod X.K X.mg X.base
 kind:X.env.scope.kind=.function
 glob:X.env.globals=mainGlobals
 blt:X.env.builtins=builtinsNs
 above:X.s₀.heap.objs.size≤X.env.locals
 inj:∀x y c,X.env.cells.lookup x=some c→X.env.cells.lookup y=some c→x=y
 has:∀x,(X.env.kindOf x=some .cell∨X.env.kindOf x=some .free)→∃c,X.env.cells.lookup x=some c
 cab:∀x c,X.fn x=true→X.env.cells.lookup x=some c→X.s₀.heap.objs.size≤c
 hd:X.calm=true→X.A.handled=none
 frames:X.A.frames=some X.stack
 stk:X.stack=X.outer∨(X.stack=X.env::X.outer∧X.env.frame=some X.env.locals)
 exf:∀b∈X.ex,b≠X.env.locals∧∀x c,X.env.cells.lookup x=some c→c≠b
 bs:∀b o,X.base.get? b=some o→X.s₀.heap.get? b=some o∧X.H₀ b=none
 bsz:X.base.objs.size≤X.s₀.heap.objs.size
 noex:∀b o,X.base.get? b=some o→b∉X.ex
 exfs:∀b∈X.ex,b∉X.fs
 funs:X.s₀.heap.FunFrames X.base X.outer
 frf:∀b∈X.fs,X.H₀ b=none
structure Inv(X:Cx)(pins:List (Addr×Obj))(σ:List (Option V))(H:Hp)(s:Shared):Prop where
 ok:X.Ok
 os:s.os=X.s₀.os
 bare:AllBare s.gens
 base:Un X.fs X.ex X.H₀ H X.s₀.heap s.heap
 loc:∃m,s.heap.Ns X.env.locals m∧∀(i:Nat) (x:Str) (v:V),X.N[i]?=some x→σ[i]?=some (some v)→Vis X.env.scope x→∃u,RelV v u∧Look X.env s.heap m x u
 cell:∀x c,X.env.cells.lookup x=some c→∃v,s.heap.IsCell c v
 free:H X.env.locals=none
 freeC:∀x c,X.env.cells.lookup x=some c→H c=none
 pin:∀p∈X.pn++pins,s.heap.get? p.1=some p.2∧H p.1=none∧p.1≠X.env.locals∧p.1∉X.fs∧∀v,p.2.data≠.cell v
 hok:HOk X.prog X.w H s.heap
 len:σ.length=X.N.length
section
variable{X:Cx}{pins:List (Addr×Obj)}{σ:List (Option V)}{H H':Hp}{s:Shared}{h':Heap}
theorem Cx.Ok.nofr(ok:X.Ok){b:Addr}{o:Obj}(e:X.base.get? b=some o):b∉X.fs:=fun hb=>by
 have:=(ok.funs.mem hb).1
 rw[e] at this;cases this
theorem Inv.bs(I:Inv X pins σ H s):∀b o,X.base.get? b=some o→s.heap.get? b=some o∧H b=none:=fun b o e=>
 ⟨I.base.keep b o (I.ok.bs b o e).1 (I.ok.bs b o e).2 (I.ok.nofr e) (I.ok.noex b o e),I.base.free b o (I.ok.bs b o e).1 (I.ok.bs b o e).2 (I.ok.noex b o e)⟩
theorem Inv.bk(I:Inv X pins σ H s):∀b o,X.base.get? b=some o→s.heap.get? b=some o:=fun b o e=>(I.bs b o e).1
theorem Inv.mod(I:Inv X pins σ H s):Mod X.K X.mg X.base:=I.ok.mod
theorem Inv.kIn(I:Inv X pins σ H s):X.K.In s.heap:=I.ok.mod.kin.keeps I.bk
theorem Inv.lt(I:Inv X pins σ H s):X.env.locals<s.heap.objs.size:=let ⟨_,hn,_⟩:=I.loc;hn.lt
theorem Inv.sz(I:Inv X pins σ H s):X.s₀.heap.objs.size≤s.heap.objs.size:=le_trans I.ok.above (le_of_lt I.lt)
theorem Inv.nofs(I:Inv X pins σ H s){a:Addr}(h:s.heap.objs.size≤a):a∉X.fs:=fun hb=>by
 obtain⟨_,o,ho,_⟩:=I.ok.funs.mem hb
 exact absurd (lt_of_lt_of_le (Heap.lt_size ho) (le_trans I.sz h)) (lt_irrefl _)
theorem Inv.cne(I:Inv X pins σ H s):∀x c,X.env.cells.lookup x=some c→c≠X.env.locals:=fun x c e z=>by
 obtain⟨v,o,ho,hd⟩:=I.cell x c e
 obtain⟨m,⟨o',es,ep,ho',hd',_⟩,_⟩:=I.loc
 rw[z,ho'] at ho;cases ho;rw[hd'] at hd;cases hd
theorem Inv.funs(I:Inv X pins σ H s):s.heap.FunFrames X.base X.outer:=by
 have all:∀(l:List Env),(∀b∈frs l,b∈X.fs)→X.s₀.heap.FunFrames X.base l→s.heap.FunFrames X.base l:=by
  intro l
  induction l with
  |nil=>intro _ _;trivial
  |cons env r ih=>
   intro hs hl
   obtain⟨hk,⟨L,o,hf,hn,ho,hd⟩,hr⟩:=hl
   have hL:L∈X.fs:=hs L (by unfold frs;rw[List.filterMap_cons,hf];exact mem_cons_self)
   obtain⟨sl,e⟩:=I.base.slot L o ho (I.ok.frf L hL) hL fun z=>I.ok.exfs L z hL
   exact⟨hk,⟨L,_,hf,hn,e,hd⟩,ih (fun b hb=>hs b (by unfold frs;rw[List.filterMap_cons,hf];exact mem_cons_of_mem _ hb)) hr⟩
 exact all X.outer (fun _ hb=>hb) I.ok.funs
theorem Inv.stack(I:Inv X pins σ H s):s.heap.FunFrames X.base X.stack:=by
 rcases I.ok.stk with e|⟨e,hf⟩
 ·rw[e];exact I.funs
 ·rw[e]
  obtain⟨m,hn,_⟩:=I.loc
  refine .cons (by rw[I.ok.kind];decide) hf hn ?_ I.funs
  exact Heap.get?_none_of_le (le_trans I.ok.bsz I.ok.above)
theorem Inv.stkSub(I:Inv X pins σ H s):∀b∈frs X.stack,b∈X.env.locals::X.fs:=fun b hb=>by
 rcases I.ok.stk with e|⟨e,hf⟩
 ·rw[e] at hb;exact mem_cons_of_mem _ hb
 ·rw[e] at hb
  unfold frs at hb
  rw[List.filterMap_cons,hf] at hb
  exact hb
theorem Inv.stkFree(I:Inv X pins σ H s):∀b∈frs X.stack,H b=none:=fun b hb=>by
 rcases mem_cons.mp (I.stkSub b hb) with e|hb
 ·rw[e];exact I.free
 ·obtain⟨_,o,ho,_⟩:=I.ok.funs.mem hb
  exact I.base.free b o ho (I.ok.frf b hb) fun z=>I.ok.exfs b z hb
theorem Inv.step{g':Array GenState}{t':Nat}{d':Drawn}{ch:List Addr}(I:Inv X pins σ H s)
  (hch:∀b∈ch,(b∈X.ex∨X.s₀.heap.objs.size≤b)∧b≠X.env.locals∧(∀x c,X.env.cells.lookup x=some c→c≠b)∧∀p∈X.pn++pins,p.1≠b)
  (keep:∀b o,b≠X.env.locals→b∉X.fs→b∉ch→s.heap.get? b=some o→H b=none→h'.get? b=some o)
  (slot:∀b o,b≠X.env.locals→b∈X.fs→b∉ch→s.heap.get? b=some o→H b=none→∃sl,h'.get? b=some { o with slots:=sl }) (free:∀b o,b∉ch→s.heap.get? b=some o→H b=none→H' b=none)
  (there:∀b o,b∉ch→s.heap.get? b=some o→∃o',h'.get? b=some o')
  (tups:∀b xs,H b=some (.tup xs)→H' b=some (.tup xs)) (frzs:∀b o u,H b=some (.frz o u)→H' b=some (.frz o u)) (tbls:∀b ps,H b=some (.tbl ps)→∃more,H' b=some (.tbl (ps++more)))
  (ns:∀m,s.heap.Ns X.env.locals m→h'.Ns X.env.locals m) (hok:HOk X.prog X.w H' h') (hg:AllBare g') :
  Inv X pins σ H' { s with heap:=h',gens:=g',drawn:=d',toks:=t' }:=by
 have neL:∀b o,X.s₀.heap.get? b=some o→b≠X.env.locals:=fun b o e=>ne_of_lt (lt_of_lt_of_le (Heap.lt_size e) I.ok.above)
 have neC:∀b o,X.s₀.heap.get? b=some o→b∉X.ex→b∉ch:=fun b o e hx hb=>by
  rcases (hch b hb).1 with z|z
  ·exact hx z
  ·exact absurd (lt_of_lt_of_le (Heap.lt_size e) z) (lt_irrefl _)
 have cellK:∀x c,X.env.cells.lookup x=some c→∀v,s.heap.IsCell c v→h'.IsCell c v:=fun x c e v ⟨o,ho,hd⟩=>by
  have nch:c∉ch:=fun z=>(hch c z).2.2.1 x c e rfl
  by_cases hc:c∈X.fs
  ·obtain⟨sl,q⟩:=slot c o (I.cne x c e) hc nch ho (I.freeC x c e)
   exact⟨_,q,hd⟩
  ·exact⟨o,keep c o (I.cne x c e) hc nch ho (I.freeC x c e),hd⟩
 refine⟨I.ok,I.os,hg,⟨fun b o e n hb hx=>?_,fun b o e n hb hx=>?_,fun b o e n hx=>?_,fun b o e hx=>?_,fun b xs e=>tups b xs (I.base.tups b xs e),fun b o xs e=>frzs b o xs (I.base.frzs b o xs e),fun b ps e=>?_⟩,?_,fun x c e=>?_,?_,fun x c e=>?_,fun p hp=>?_,hok,I.len⟩
 ·exact keep b o (neL b o e) hb (neC b o e hx) (I.base.keep b o e n hb hx) (I.base.free b o e n hx)
 ·obtain⟨sl,e1⟩:=I.base.slot b o e n hb hx
  obtain⟨sl',e2⟩:=slot b _ (neL b o e) hb (neC b o e hx) e1 (I.base.free b o e n hx)
  exact⟨sl',e2⟩
 ·obtain⟨o',e1⟩:=I.base.there b o e hx
  exact free b o' (neC b o e hx) e1 (I.base.free b o e n hx)
 ·obtain⟨o',e1⟩:=I.base.there b o e hx
  exact there b o' (neC b o e hx) e1
 ·obtain⟨m1,e1⟩:=I.base.tbls b ps e
  obtain⟨m2,e2⟩:=tbls b _ e1
  exact⟨m1++m2,by rw[e2,Array.append_assoc]⟩
 ·obtain⟨m,hn,hl⟩:=I.loc
  refine⟨m,ns m hn,fun i x v e1 e2 e3=>?_⟩
  obtain⟨u,r,l⟩:=hl i x v e1 e2 e3
  refine⟨u,r,?_⟩
  rcases l with l|⟨k,c,e,z⟩
  ·exact .inl l
  ·exact .inr ⟨k,c,e,cellK x c e _ z⟩
 ·obtain⟨v,z⟩:=I.cell x c e
  exact⟨v,cellK x c e v z⟩
 ·obtain⟨m,⟨o,_,_,ho,_⟩,_⟩:=I.loc
  exact free _ o (fun z=>(hch _ z).2.1 rfl) ho I.free
 ·obtain⟨v,o,ho,hd⟩:=I.cell x c e
  exact free c o (fun z=>(hch c z).2.2.1 x c e rfl) ho (I.freeC x c e)
 ·obtain⟨e,n,ne,nf,d⟩:=I.pin p hp
  have nch:p.1∉ch:=fun z=>(hch p.1 z).2.2.2 p hp rfl
  exact⟨keep p.1 p.2 ne nf nch e n,free p.1 p.2 nch e n,ne,nf,d⟩
theorem Inv.un{t':Nat}(I:Inv X pins σ H s)(u:Un X.fs [] H H' s.heap h')(hok:HOk X.prog X.w H' h'):Inv X pins σ H' { s with heap:=h',toks:=t' }:=by
 obtain⟨m,⟨o,es,ep,ho,r⟩,_⟩:=id I.loc
 obtain⟨sl,hL⟩:=u.any ho I.free (by simp)
 exact I.step (g':=s.gens) (d':=s.drawn) (ch:=[]) (fun _ z=>nomatch z) (fun b o _ hb _ e n=>u.keep b o e n hb (by simp)) (fun b o _ hb _ e n=>u.slot b o e n hb (by simp)) (fun b o _ e n=>u.free b o e n (by simp)) (fun b o _ e=>u.there b o e (by simp)) u.tups u.frzs u.tbls (fun m' hm=>by
  obtain⟨o',es',ep',ho',r'⟩:=hm
  rw[ho] at ho';cases ho'
  exact⟨_,es',ep',hL,r'⟩) hok I.bare
theorem Inv.call{g':Array GenState}{t':Nat}{d':Drawn}{ch:List Addr}(I:Inv X pins σ H s)(u:Un (frs X.stack) ch H H' s.heap h')(hok:HOk X.prog X.w H' h')(hg:AllBare g')
  (hch:∀b∈ch,(b∈X.ex∨X.s₀.heap.objs.size≤b)∧b≠X.env.locals∧(∀x c,X.env.cells.lookup x=some c→c≠b)∧∀p∈X.pn++pins,p.1≠b) :
  Inv X pins σ H' { s with heap:=h',gens:=g',drawn:=d',toks:=t' }:=by
 obtain⟨m,⟨o,es,ep,ho,r⟩,_⟩:=id I.loc
 obtain⟨sl,hL⟩:=u.any ho I.free fun z=>(hch _ z).2.1 rfl
 exact I.step (ch:=ch) hch (fun b o hL hb hc e n=>u.keep b o e n (fun z=>(mem_cons.mp (I.stkSub b z)).elim hL hb) hc) (fun b o _ _ hc e n=>u.any e n hc) (fun b o hc e n=>u.free b o e n hc) (fun b o hc e=>u.there b o e hc) u.tups u.frzs u.tbls (fun m' hm=>by
  obtain⟨o',es',ep',ho',r'⟩:=hm
  rw[ho] at ho';cases ho'
  exact⟨_,es',ep',hL,r'⟩) hok hg
theorem Inv.turned{t':Nat}{it:Addr}(I:Inv X pins σ H s)(k:∀b o,b≠it→s.heap.get? b=some o→h'.get? b=some o)(hn:H it=none)(hL:it≠X.env.locals)
  (h1:it∈X.ex∨X.s₀.heap.objs.size≤it) (h2:∀x c,X.env.cells.lookup x=some c→c≠it) (h3:∀p∈X.pn++pins,p.1≠it):Inv X pins σ H { s with heap:=h',toks:=t' }:=by
 have nit:∀b u,H b=some u→b≠it:=fun b u e z=>by rw[z,hn] at e;cases e
 refine I.step (g':=s.gens) (d':=s.drawn) (ch:=[it]) (fun b hb=>?_) (fun b o _ _ hc e _=>k b o (fun z=>hc (by simp[z])) e) (fun b o _ _ hc e _=>⟨o.slots,k b o (fun z=>hc (by simp[z])) e⟩) (fun _ _ _ _ n=>n)
  (fun b o hc e=>⟨o,k b o (fun z=>hc (by simp[z])) e⟩) (fun _ _ e=>e) (fun _ _ _ e=>e) (fun b ps e=>⟨#[],by rw[e];simp⟩) (fun m hm=>?_) (fun b u e=>?_) I.bare
 ·have e:b=it:=by simpa using hb
  subst e
  exact⟨h1,hL,h2,h3⟩
 ·obtain⟨o,es,ep,ho,r⟩:=hm
  exact⟨o,es,ep,k _ o (Ne.symm hL) ho,r⟩
 ·refine(I.hok b u e).stay (fun c v hc q=>k c v ?_ q) (fun _ q=>q) fun _ _ q=>q
  rcases hc with z|z
  ·rw[z];exact nit b u e
  ·exact nit c _ z
theorem Inv.tok(I:Inv X pins σ H s)(t:Nat):Inv X pins σ H { s with toks:=t }:=I.un (h':=s.heap) (t':=t) Un.refl I.hok
theorem Inv.kept{t':Nat}(I:Inv X pins σ H s)(k:∀b u,s.heap.get? b=some u→h'.get? b=some u):Inv X pins σ H { s with heap:=h',toks:=t' }:=I.un (Un.kept k) (I.hok.kept k)
theorem Inv.laid{a:Addr}{o:HO}{t':Nat}(I:Inv X pins σ H s)(k:∀b u,s.heap.get? b=some u→h'.get? b=some u)(hp:s.heap.objs.size≤a)(new:ObjOk X.prog X.w (upd H a o) h' a o) :
  Inv X pins σ (upd H a o) { s with heap:=h',toks:=t' }:=I.un (Un.laid k hp (I.hok.fresh hp)) (I.hok.laid k hp new)
theorem Inv.write{x e:Addr}{o:HO}{t':Nat}(I:Inv X pins σ H s)(mu:Mut (H x))(he:e=x∨H e=some (.own x))(k:∀b u,b≠e→s.heap.get? b=some u→h'.get? b=some u)(heo:∃u,h'.get? e=some u)
  (new:ObjOk X.prog X.w (upd H x o) h' x o):Inv X pins σ (upd H x o) { s with heap:=h',toks:=t' }:=I.un (Un.write mu he k heo) (I.hok.write mu he k heo new)
theorem Inv.pins_of{pins':List (Addr×Obj)}(I:Inv X pins σ H s)(h:∀p∈pins',s.heap.get? p.1=some p.2∧H p.1=none∧p.1≠X.env.locals∧p.1∉X.fs∧∀v,p.2.data≠.cell v):Inv X pins' σ H s:=
 ⟨I.ok,I.os,I.bare,I.base,I.loc,I.cell,I.free,I.freeC,fun p hp=>(mem_append.mp hp).elim (fun z=>I.pin p (mem_append_left _ z)) (h p),I.hok,I.len⟩
theorem WE{N:List Str}(hN:N.Nodup){i j:Nat}{x:Str}(a:N[i]?=some x)(b:N[j]?=some x):i=j:=by
 obtain⟨h1,e1⟩:=List.getElem?_eq_some_iff.mp a
 obtain⟨h2,e2⟩:=List.getElem?_eq_some_iff.mp b
 exact(List.getElem_inj hN).mp (e1.trans e2.symm)
theorem Y5{M:Model}{A:Around}{E:Value→Shared→Prop}{i:Nat}{x:Str}{v:V}{u:Value}{Q:Unit→Shared→Prop}(I:Inv X pins σ H s)(hN:X.N.Nodup)(hi:X.N[i]?=some x)(hx:Loc X.env.scope x)(r:RelV v u)
  (h:∀s',Inv X pins (σ.set i (some v)) H s'→(∃a,Heap.SameBut a s.heap s'.heap∧(a=X.env.locals∨X.env.cells.lookup x=some a))→Q () s') (hf:X.fn x=true∨X.env.scope.names.lookup x=some .local:=by first|exact .inl rfl|exact .inr rfl|assumption):wpAny M A (storeName X.env x u) Q E s:=by
 obtain⟨m,hn,hl⟩:=id I.loc
 have hcls:(X.env.scope.kind == .class||(X.env.scope.kind == .module&&X.env.locals != X.env.globals))=false:=by rw[I.ok.kind];rfl
 have hiσ:i<σ.length:=by rw[I.len];exact(List.getElem?_eq_some_iff.mp hi).1
 have cne:=I.cne
 have tracked:∀{a:Addr} {h':Heap},(∃o,s.heap.get? a=some o∧H a=none)→Heap.SameBut a s.heap h'→HOk X.prog X.w H h':=fun {a h'} ha hs b ob e=>by
  obtain⟨_,_,hfree⟩:=ha
  refine(I.hok b ob e).stay (fun c w' hc q=>(hs.2 c ?_).trans q) (fun _ q=>q) fun _ _ q=>q
  rintro rfl
  rcases hc with rfl|hc
  ·rw[hfree] at e;cases e
  ·rw[hfree] at hc;cases hc
 rcases hx with hk|hk
 ·refine wpAny_storeName_local hk hn (fun h' hn' hs=>?_) hcls
  obtain⟨oL,_,_,hoL,_⟩:=id hn
  refine h _ ⟨I.ok,I.os,I.bare,⟨fun b o e n hb hx=>?_,fun b o e n hb hx=>?_,I.base.free,fun b o e hx=>?_,I.base.tups,I.base.frzs,I.base.tbls⟩,⟨_,hn',fun j y v' e1 e2 e3=>?_⟩,fun y c e=>?_,I.free,I.freeC,fun p hp=>?_,tracked ⟨oL,hoL,I.free⟩ hs,by simpa using I.len⟩ ⟨_,hs,.inl rfl⟩
  ·exact(hs.2 b (ne_of_lt (lt_of_lt_of_le (Heap.lt_size e) I.ok.above))).trans (I.base.keep b o e n hb hx)
  ·obtain⟨sl,e1⟩:=I.base.slot b o e n hb hx
   exact⟨sl,(hs.2 b (ne_of_lt (lt_of_lt_of_le (Heap.lt_size e) I.ok.above))).trans e1⟩
  ·obtain⟨o',e1⟩:=I.base.there b o e hx
   exact⟨o',(hs.2 b (ne_of_lt (lt_of_lt_of_le (Heap.lt_size e) I.ok.above))).trans e1⟩
  ·by_cases hj:j=i
   ·subst hj
    rw[hi] at e1;cases e1
    rw[getElem?_set_self hiσ] at e2
    cases e2
    exact⟨u,r,.inl ⟨hk,by simp⟩⟩
   ·rw[getElem?_set_ne (Ne.symm hj)] at e2
    obtain⟨u',r',q⟩:=hl j y v' e1 e2 e3
    refine⟨u',r',?_⟩
    rcases q with ⟨k,e⟩|⟨k,c,e,z⟩
    ·refine .inl ⟨k,?_⟩
     have:y≠x:=fun e=>hj (WE hN e1 (e ▸ hi))
     simp[this,e]
    ·exact .inr ⟨k,c,e,z.sameBut hs (cne y c e)⟩
  ·obtain⟨w',z⟩:=I.cell y c e
   exact⟨w',z.sameBut hs (cne y c e)⟩
  ·obtain⟨e,n,ne,nf,d⟩:=I.pin p hp
   exact⟨(hs.2 p.1 ne).trans e,n,ne,nf,d⟩
 ·have hfn:X.fn x=true:=by
   rcases hf with z|z
   ·exact z
   ·rw[z] at hk;cases hk
  obtain⟨c,hc⟩:=I.ok.has x (.inl hk)
  obtain⟨w',z⟩:=I.cell x c hc
  refine wpAny_storeName_cell I.ok.kind hk hc z (fun h' hc' hs=>?_)
  obtain⟨oc,hoc,hocd⟩:=id z
  refine h { s with heap:=h' } ⟨I.ok,I.os,I.bare,⟨fun b o e n hb hx=>?_,fun b o e n hb hx=>?_,I.base.free,fun b o e hx=>?_,I.base.tups,I.base.frzs,I.base.tbls⟩,⟨m,hn.sameBut hs (Ne.symm (cne x c hc)),fun j y v' e1 e2 e3=>?_⟩,fun y c' e=>?_,I.free,I.freeC,fun p hp=>?_,tracked ⟨oc,hoc,I.freeC x c hc⟩ hs,by simpa using I.len⟩ ⟨c,hs,.inr hc⟩
  ·exact(hs.2 b (ne_of_lt (lt_of_lt_of_le (Heap.lt_size e) (I.ok.cab x c hfn hc)))).trans (I.base.keep b o e n hb hx)
  ·obtain⟨sl,e1⟩:=I.base.slot b o e n hb hx
   exact⟨sl,(hs.2 b (ne_of_lt (lt_of_lt_of_le (Heap.lt_size e) (I.ok.cab x c hfn hc)))).trans e1⟩
  ·obtain⟨o',e1⟩:=I.base.there b o e hx
   exact⟨o',(hs.2 b (ne_of_lt (lt_of_lt_of_le (Heap.lt_size e) (I.ok.cab x c hfn hc)))).trans e1⟩
  ·by_cases hj:j=i
   ·subst hj
    rw[hi] at e1;cases e1
    rw[getElem?_set_self hiσ] at e2
    cases e2
    exact⟨u,r,.inr ⟨.inl hk,c,hc,hc'⟩⟩
   ·rw[getElem?_set_ne (Ne.symm hj)] at e2
    obtain⟨u',r',q⟩:=hl j y v' e1 e2 e3
    refine⟨u',r',?_⟩
    rcases q with q|⟨k,c',e,z'⟩
    ·exact .inl q
    ·refine .inr ⟨k,c',e,z'.sameBut hs ?_⟩
     rintro rfl
     exact hj (WE hN e1 (I.ok.inj _ _ _ e hc ▸ hi))
  ·by_cases hcc:c'=c
   ·subst hcc;exact⟨_,hc'⟩
   ·obtain⟨w2,z2⟩:=I.cell y c' e
    exact⟨w2,z2.sameBut hs hcc⟩
  ·obtain⟨e,n,ne,nf,d⟩:=I.pin p hp
   refine⟨(hs.2 p.1 ?_).trans e,n,ne,nf,d⟩
   intro q
   rw[q,hoc] at e
   have q':oc=p.2:=Option.some.inj e
   exact d w' (by rw[← q'];exact hocd)
theorem ZR{M:Model}{A:Around}{E:Value→Shared→Prop}{i:Nat}{x:Str}{v:V}{u:Value}{Q:Unit→Shared→Prop}(I:Inv X pins σ H s)(hN:X.N.Nodup)(hi:X.N[i]?=some x)(hx:Loc X.env.scope x)(r:RelV v u)
  (h:∀s',Inv X pins (σ.set i (some v)) H s'→Q () s') (hf:X.fn x=true∨X.env.scope.names.lookup x=some .local:=by first|exact .inl rfl|exact .inr rfl|assumption):wpAny M A (storeName X.env x u) Q E s:=
 Y5 I hN hi hx r (fun s' I' _=>h s' I') hf
theorem Inv.call'{s':Shared}{ch:List Addr}(I:Inv X pins σ H s)(ho:s'.os=s.os)(u:Un (frs X.stack) ch H H' s.heap s'.heap)(hok:HOk X.prog X.w H' s'.heap)(hg:AllBare s'.gens)
  (hch:∀b∈ch,(b∈X.ex∨X.s₀.heap.objs.size≤b)∧b≠X.env.locals∧(∀x c,X.env.cells.lookup x=some c→c≠b)∧∀p∈X.pn++pins,p.1≠b):Inv X pins σ H' s':=by
 obtain⟨h',g',d',t',o'⟩:=s'
 have e:o'=s.os:=ho
 subst e
 exact I.call (g':=g') (t':=t') (d':=d') u hok hg hch
end
abbrev XK:=Value→Option Addr→Hp→Prop
abbrev St:=List (Option V)
abbrev VK:=V→Hp→Prop
abbrev TE:=St→Hp→VK→Prop
abbrev TT:=St→Hp→(Bool→Hp→Prop)→Prop
abbrev TA:=St→Hp→(List V→Hp→Prop)→Prop
structure Vh where
 nx:St→Hp→Prop
 rt:VK
 bk:St→Hp→Prop:=fun _ _=>False
 ct:St→Hp→Prop:=fun _ _=>False
abbrev TS:=Vh→St→Hp→Prop
def EP(X:Cx)(pins:List (Addr×Obj))(σ:St)(Q:VK)(u:Value)(s':Shared):Prop:=∃v H',Inv X pins σ H' s'∧RelV v u∧Q v H'
def TP(X:Cx)(pins:List (Addr×Obj))(σ:St)(Q:Bool→Hp→Prop)(b:Bool)(s':Shared):Prop:=∃H',Inv X pins σ H' s'∧Q b H'
def AP(X:Cx)(pins:List (Addr×Obj))(σ:St)(Q:List V→Hp→Prop)(us:List Value)(s':Shared):Prop:=∃vs H',Inv X pins σ H' s'∧Vals vs us∧Q vs H'
def SP(X:Cx)(pins:List (Addr×Obj))(D:Vh)(f:Flow)(s':Shared):Prop:=
 match f with
 |.next=>∃σ' H',Inv X pins σ' H' s'∧D.nx σ' H'
 |.brk=>∃σ' H',Inv X pins σ' H' s'∧D.bk σ' H'
 |.cont=>∃σ' H',Inv X pins σ' H' s'∧D.ct σ' H'
 |.ret u=>∃v σ' H',Inv X pins σ' H' s'∧RelV v u∧D.rt v H'
def PE(X:Cx)(e:Expr)(t:TE):Prop:=
 ∀(pins:List (Addr×Obj)) (s:Shared) (σ:St) (H:Hp) (Q:VK),Inv X pins σ H s→t σ H Q→wpAny (model X.prog X.w) X.A (eval e X.env) (EP X pins σ Q) X.xe s
def PT(X:Cx)(e:Expr)(t:TT):Prop:=
 ∀(pins:List (Addr×Obj)) (s:Shared) (σ:St) (H:Hp) (Q:Bool→Hp→Prop),Inv X pins σ H s→t σ H Q→wpAny (model X.prog X.w) X.A (isTrue e X.env (eval e X.env)) (TP X pins σ Q) X.xe s
def PW(X:Cx)(e:Expr)(t:TT):Prop:=
 ∀(whole:Sem Value) (pins:List (Addr×Obj)) (s:Shared) (σ:St) (H:Hp) (Q:Bool→Hp→Prop),Inv X pins σ H s→t σ H Q→wpAny (model X.prog X.w) X.A (isTrue e X.env whole) (TP X pins σ Q) X.xe s
theorem PW.pt{X:Cx}{e:Expr}{t:TT}(h:PW X e t):PT X e t:=h _
def PA(X:Cx)(es:List Expr)(t:TA):Prop:=
 ∀(pos:Pos) (pins:List (Addr×Obj)) (s:Shared) (σ:St) (H:Hp) (Q:List V→Hp→Prop),Inv X pins σ H s→t σ H Q→wpAny (model X.prog X.w) X.A (spliced (backTo pos (starEach es X.env))) (AP X pins σ Q) X.xe s
def PS(X:Cx)(st:Stmt)(t:TS):Prop:=
 ∀(pins:List (Addr×Obj)) (s:Shared) (σ:St) (H:Hp) (D:Vh),Inv X pins σ H s→t D σ H→wpAny (model X.prog X.w) X.A (exec st X.env) (SP X pins D) X.xe s
def PSs(X:Cx)(st:List Stmt)(t:TS):Prop:=
 ∀(pins:List (Addr×Obj)) (s:Shared) (σ:St) (H:Hp) (D:Vh),Inv X pins σ H s→t D σ H→wpAny (model X.prog X.w) X.A (execs st X.env) (SP X pins D) X.xe s
theorem thn{α:Type}{t:Sem α}{Q Q':α→Shared→Prop}{M:Model}{A:Around}{E:Value→Shared→Prop}{s:Shared}(h:wpAny M A t Q E s)(hQ:∀a s,Q a s→Q' a s):wpAny M A t Q' E s:=wpAny_mono h hQ fun _ _ x=>x
section
variable{X:Cx}
def YH(i:Nat):TE:=fun σ H Q=>∃v,σ[i]?=some (some v)∧Q v H
def tC(v:V):TE:=fun _ H Q=>Q v H
theorem LF{i:Nat}{x:Str}{pos:Pos}(hN:X.N[i]?=some x)(hv:Vis X.env.scope x)(hd:(x==("__debug__" : Str))=false:=by decide)(hcd:(x==("__classdict__" : Str))=false:=by decide):PE X (.Name x pos) (YH i):=by
 intro pins s σ H Q I h
 obtain⟨v,e,h⟩:=h
 obtain⟨m,hn,hl⟩:=I.loc
 obtain⟨u,r,l⟩:=hl i x v hN e hv
 have fin:EP X pins σ Q u s:=⟨v,H,I,r,h⟩
 rcases l with ⟨hk,hm⟩|⟨hk,c,hc,hcell⟩
 ·exact wpAny_Name (wpAny_loadName_local I.ok.kind hk hn hm fin) hd
 ·rcases hk with hk|hk
  ·exact wpAny_Name (wpAny_loadName_cell I.ok.kind hk hc hcell fin) hd
  ·exact wpAny_Name (wpAny_loadName_free I.ok.kind hk hc hcell fin hcd) hd
theorem LK{i j pos}:PE X (.Constant (.int i) j pos) (tC (.int i)):=fun _ _ _ H _ I h=>wpAny_Constant_int ⟨.int i,H,I.tok _,⟨_,rfl⟩,h⟩
theorem TY{b j pos}:PE X (.Constant (.bool b) j pos) (tC (.bl b)):=fun _ _ _ H _ I h=>Constant_bool ⟨.bl b,H,I,rfl,h⟩
theorem LJ{j pos}:PE X (.Constant .none j pos) (tC .non):=fun _ _ _ H _ I h=>Constant_none ⟨.non,H,I,rfl,h⟩
theorem LH{x j pos}:PE X (.Constant (.str x) j pos) (tC (.str x)):=fun _ _ _ H _ I h=>Calls.Constant_str ⟨.str x,H,I.tok _,⟨_,rfl⟩,h⟩
def Gl(X:Cx)(x:Str):Prop:=X.env.kindOf x=some .globalImplicit
theorem Uu{E:Value→Shared→Prop}{pins:List (Addr×Obj)}{s:Shared}{σ:St}{H:Hp}{x:Str}{u:Value}{pos:Pos}{Q:Value→Shared→Prop}(I:Inv X pins σ H s)(hg:Gl X x)(hm:X.mg x=some u)(h:Q u s)
  (hd:(x==("__debug__" : Str))=false:=by decide):wpAny (model X.prog X.w) X.A (eval (.Name x pos) X.env) Q E s:=
 Calls.Name_function_global I.ok.kind hg (Calls.loadGlobal_global (by rw[I.ok.glob];exact I.mod.glob.keeps I.bk) hm h) hd
theorem ua{E:Value→Shared→Prop}{pins:List (Addr×Obj)}{s:Shared}{σ:St}{H:Hp}{x:Str}{u:Value}{pos:Pos}{Q:Value→Shared→Prop}(I:Inv X pins σ H s)(hg:Gl X x)(hm:X.mg x=none)(hv:bootBuiltins x=some u)(h:Q u s)
  (hn:x ≠ "__name__" := by decide) (hd:(x==("__debug__" : Str))=false:=by decide):wpAny (model X.prog X.w) X.A (eval (.Name x pos) X.env) Q E s:=by
 obtain⟨mb,h1,h2⟩:=I.mod.blt
 exact Calls.Name_function_global I.ok.kind hg (Calls.loadGlobal_builtin (by rw[I.ok.glob];exact I.mod.glob.keeps I.bk) hm (by rw[I.ok.blt];exact h1.keeps I.bk) ((h2 x hn).trans hv) h) hd
theorem MA{x:Str}{v:V}{u:Value}{pos:Pos}(hg:Gl X x)(hm:X.mg x=some u)(r:RelV v u)(hd:(x==("__debug__" : Str))=false:=by decide):PE X (.Name x pos) (tC v):=
 fun _ _ _ H _ I h=>Uu I hg hm ⟨v,H,I,r,h⟩ hd
theorem ME{x:Str}{v:V}{u:Value}{pos:Pos}(hg:Gl X x)(hm:X.mg x=none)(hv:bootBuiltins x=some u)(r:RelV v u)(hn:x ≠ "__name__" := by decide)(hd:(x==("__debug__" : Str))=false:=by decide):PE X (.Name x pos) (tC v):=
 fun _ _ _ H _ I h=>ua I hg hm hv ⟨v,H,I,r,h⟩ hn hd
variable{a b:Expr}{ta tb:TE}{pos:Pos}
def tB(t:TE):TT:=fun σ H Q=>t σ H fun x H1=>∃c,x=.bl c∧Q c H1
variable{tA tB':TT}{rest:List Expr}
def tAnd(t u:TT):TT:=fun σ H Q=>t σ H fun c H1=>if c=true then u σ H1 Q else Q false H1
def tOr(t u:TT):TT:=fun σ H Q=>t σ H fun c H1=>if c=true then Q true H1 else u σ H1 Q
def tNot(t:TT):TT:=fun σ H Q=>t σ H fun c H1=>Q (!c) H1
theorem Mm(ha:PT X a tA):PW X (.BoolOp .And [a] pos) tA:=by
 intro wh pins s σ H Q I h
 refine isTrue_and (thn (ha pins s σ H Q I h) fun c s1 e=>?_)
 cases c with
 |true=>exact isTrue_and_nil e
 |false=>exact e
theorem Ls(ha:PT X a tA):PW X (.BoolOp .Or [a] pos) tA:=by
 intro wh pins s σ H Q I h
 refine isTrue_or (thn (ha pins s σ H Q I h) fun c s1 e=>?_)
 cases c with
 |false=>exact isTrue_or_nil e
 |true=>exact e
theorem Lv(ha:PT X a tA)(hb:PW X (.BoolOp .And (b::rest) pos) tB'):PW X (.BoolOp .And (a::b::rest) pos) (tAnd tA tB'):=by
 intro wh pins s σ H Q I h
 refine isTrue_and (thn (ha pins s σ H _ I h) fun c s1 ⟨H1,I1,q1⟩=>?_)
 cases c with
 |true=>exact hb wh pins s1 σ H1 Q I1 q1
 |false=>exact⟨H1,I1,q1⟩
theorem pw_or(ha:PT X a tA)(hb:PW X (.BoolOp .Or (b::rest) pos) tB'):PW X (.BoolOp .Or (a::b::rest) pos) (tOr tA tB'):=by
 intro wh pins s σ H Q I h
 refine isTrue_or (thn (ha pins s σ H _ I h) fun c s1 ⟨H1,I1,q1⟩=>?_)
 cases c with
 |true=>exact⟨H1,I1,q1⟩
 |false=>exact hb wh pins s1 σ H1 Q I1 q1
theorem Lw(ha:PT X a tA):PT X (.UnaryOp .Not a pos) (tNot tA):=by
 intro pins s σ H Q I h
 exact isTrue_not (ha pins s σ H (fun c H1=>Q (!c) H1) I h)
theorem LI{op}{t:TE}(h:PE X a t):PE X (.BoolOp op [a] pos) t:=fun pins s σ H Q I hw=>BoolOp_one (h pins s σ H Q I hw)
def tIf(t:TT)(ta tb:TE):TE:=fun σ H Q=>t σ H fun c H1=>if c=true then ta σ H1 Q else tb σ H1 Q
theorem QA{c:Expr}(hc:PT X c tA)(ha:PE X a ta)(hb:PE X b tb):PE X (.IfExp c a b pos) (tIf tA ta tb):=by
 intro pins s σ H Q I h
 refine wpAny_IfExp (thn (hc pins s σ H _ I h) fun d s1 ⟨H1,I1,q1⟩=>?_)
 cases d with
 |true=>exact ha pins s1 σ H1 Q I1 q1
 |false=>exact hb pins s1 σ H1 Q I1 q1
end
def SqL(K:PySem.W.Frag)(H:Hp)(a:Addr)(xs:List V):Prop:=
 Rd H a (.lst xs) ∨
  ∃(o:Obj) (its:Array Value) (n:Nat),K.lookup a=some o∧o.cls=.type "list" ∧ o.dict=none∧o.data=.seq its n∧its.size≤sizeLine∧Vals xs its.toList
def SqT(K:PySem.W.Frag)(H:Hp)(a:Addr)(xs:List V):Prop:=
 Rd H a (.tup xs) ∨
  ∃(o:Obj) (its:Array Value) (n:Nat),K.lookup a=some o∧o.cls=.type "tuple" ∧ o.data=.seq its n∧its.size≤sizeLine∧Vals xs its.toList
def absV:Value→Option V
 |.none=>some .non
 |.bool b=>some (.bl b)
 |.int i _=>some (.int i)
 |.str x _=>some (.str x)
 |.bytes b _=>some (.byt b)
 |.float b _=>some (.flt b)
 |.ref a=>some (.ref a)
 |.type n=>some (.ty n)
 |_=>none
theorem RelV.abs{x:V}{u:Value}(r:RelV x u):absV u=some x:=by
 cases x with
 |non=>cases r;rfl
 |bl _=>cases r;rfl
 |int _=>obtain⟨t,rfl⟩:=r;rfl
 |str _=>obtain⟨t,rfl⟩:=r;rfl
 |byt _=>obtain⟨t,rfl⟩:=r;rfl
 |flt _=>obtain⟨t,rfl⟩:=r;rfl
 |ref _=>cases r;rfl
 |ty _=>cases r;rfl
theorem RelV.inj{x y:V}{u:Value}(r:RelV x u)(q:RelV y u):x=y:=Option.some.inj (r.abs.symm.trans q.abs)
theorem Vals.inj:∀{xs ys:List V} {us:List Value},Vals xs us→Vals ys us→xs=ys
 |_,_,_,.nil,.nil=>rfl
 |_,_,_,.cons r t,.cons r' t'=>by rw[r.inj r',Vals.inj t t']
section
variable{X:Cx}{pins:List (Addr×Obj)}{σ:St}{H:Hp}{s:Shared}{a:Addr}{xs ys:List V}
theorem SqL.of{K:PySem.W.Frag}(h:H a=some (.lst xs)):SqL K H a xs:=.inl (.inl h)
theorem SqT.of{K:PySem.W.Frag}(h:H a=some (.tup xs)):SqT K H a xs:=.inl (.inl h)
theorem Inv.list(I:Inv X pins σ H s)(h:SqL X.K H a xs):∃its:List Value,Vals xs its∧PlainL s.heap a its.toArray∧xs.length≤sizeLine:=by
 rcases h with h|⟨o,its,n,hk,hc,hd,hs,hz,r⟩
 ·obtain⟨z,its,n,r,e⟩:=h.ok I.hok
  exact⟨its,r,⟨_,n,e,rfl,rfl,rfl⟩,z⟩
 ·refine⟨its.toList,r,⟨o,n,I.kIn a o hk,hc,hd,by simpa using hs⟩,?_⟩
  have e:=r.length
  simp only[length_toList] at e
  omega
theorem Inv.tuple(I:Inv X pins σ H s)(h:SqT X.K H a xs):∃its:List Value,Vals xs its∧IsTup s.heap a its.toArray∧xs.length≤sizeLine:=by
 rcases h with h|⟨o,its,n,hk,hc,hs,hz,r⟩
 ·obtain⟨z,its,r,p⟩:=h.ok I.hok
  exact⟨its,r,p,z⟩
 ·refine⟨its.toList,r,⟨o,I.kIn a o hk,hc,n,by simpa using hs⟩,?_⟩
  have e:=r.length
  simp only[length_toList] at e
  omega
theorem Inv.list_inj(I:Inv X pins σ H s)(h:SqL X.K H a xs)(h':SqL X.K H a ys):xs=ys:=by
 obtain⟨its,r,⟨o,n,e,_,_,d⟩,_⟩:=I.list h
 obtain⟨its',r',⟨o',n',e',_,_,d'⟩,_⟩:=I.list h'
 rw[e] at e';cases e'
 rw[d] at d'
 injection d' with d1 _
 have:its=its':=by simpa using congrArg Array.toList d1
 subst this
 exact r.inj r'
theorem Inv.tuple_inj(I:Inv X pins σ H s)(h:SqT X.K H a xs)(h':SqT X.K H a ys):xs=ys:=by
 obtain⟨its,r,⟨o,e,_,n,d⟩,_⟩:=I.tuple h
 obtain⟨its',r',⟨o',e',_,n',d'⟩,_⟩:=I.tuple h'
 rw[e] at e';cases e'
 rw[d] at d'
 injection d' with d1 _
 have:its=its':=by simpa using congrArg Array.toList d1
 subst this
 exact r.inj r'
end
abbrev Cx.wish(X:Cx)(E:Value→Shared→Prop):Cx:={ X with xe:=E }
abbrev Cx.nox(X:Cx):Cx:=X.wish fun _ _=>False
theorem Cx.Ok.wish{X:Cx}(ok:X.Ok)(E:Value→Shared→Prop):(X.wish E).Ok:=
 ⟨ok.mod,ok.kind,ok.glob,ok.blt,ok.above,ok.inj,ok.has,ok.cab,ok.hd,ok.frames,ok.stk,ok.exf,ok.bs,ok.bsz,ok.noex,ok.exfs,ok.funs,ok.frf⟩
theorem Cx.Ok.unwish{X:Cx}{E:Value→Shared→Prop}(ok:(X.wish E).Ok):X.Ok:=
 ⟨ok.mod,ok.kind,ok.glob,ok.blt,ok.above,ok.inj,ok.has,ok.cab,ok.hd,ok.frames,ok.stk,ok.exf,ok.bs,ok.bsz,ok.noex,ok.exfs,ok.funs,ok.frf⟩
section
variable{X:Cx}{pins:List (Addr×Obj)}{σ:St}{H:Hp}{s:Shared}{E:Value→Shared→Prop}
theorem Inv.wish(I:Inv X pins σ H s)(E:Value→Shared→Prop):Inv (X.wish E) pins σ H s:=⟨I.ok.wish E,I.os,I.bare,I.base,I.loc,I.cell,I.free,I.freeC,I.pin,I.hok,I.len⟩
theorem Inv.unwish(I:Inv (X.wish E) pins σ H s):Inv X pins σ H s:=⟨I.ok.unwish,I.os,I.bare,I.base,I.loc,I.cell,I.free,I.freeC,I.pin,I.hok,I.len⟩
theorem SP.unwish{D:Vh}{f:Flow}{s':Shared}(h:SP (X.wish E) pins D f s'):SP X pins D f s':=by
 cases f with
 |next=>obtain⟨σ',H',I,q⟩:=h;exact⟨σ',H',I.unwish,q⟩
 |brk=>obtain⟨σ',H',I,q⟩:=h;exact⟨σ',H',I.unwish,q⟩
 |cont=>obtain⟨σ',H',I,q⟩:=h;exact⟨σ',H',I.unwish,q⟩
 |ret u=>obtain⟨v,σ',H',I,r,q⟩:=h;exact⟨v,σ',H',I.unwish,r,q⟩
theorem PSs.nox{st:List Stmt}{t:TS}(h:PSs X.nox st t):PSs X st t:=fun pins s σ H D I hw=>
 wpAny_mono (h pins s σ H D (I.wish _) hw) (fun _ _ q=>q.unwish) fun _ _ z=>False.elim z
end
section
variable{X:Cx}{st:Stmt}{rest:List Stmt}{t u:TS}{e:Expr}{te:TE}{pos:Pos}
def tNext:TS:=fun D σ H=>D.nx σ H
def tSeq(t u:TS):TS:=fun D σ H=>t { D with nx:=u D } σ H
theorem Ms:PSs X [] tNext:=fun _ _ σ H _ I h=>wpAny_execs_nil ⟨σ,H,I,h⟩
theorem ZW(h1:PS X st t)(h2:PSs X rest u):PSs X (st::rest) (tSeq t u):=by
 intro pins s σ H D I h
 refine wpAny_execs_cons (thn (h1 pins s σ H { D with nx:=u D } I h) fun f s1 q=>?_)
 cases f with
 |next=>
  obtain⟨σ',H',I',q⟩:=q
  exact h2 pins s1 σ' H' D I' q
 |ret v=>exact q
 |brk=>exact q
 |cont=>exact q
theorem ZB(h1:PS X st t):PSs X [st] t:=by
 intro pins s σ H D I h
 refine wpAny_execs_cons (thn (h1 pins s σ H D I h) fun f s1 q=>?_)
 cases f with
 |next=>exact wpAny_execs_nil q
 |ret v=>exact q
 |brk=>exact q
 |cont=>exact q
theorem Inv.quiet{pins:List (Addr×Obj)}{σ:St}{H:Hp}{s:Shared}(I:Inv X pins σ H s):interactive X.env=false:=by simp[interactive,I.ok.kind]
def tDrop(te:TE):TS:=fun D σ H=>te σ H fun _ H1=>D.nx σ H1
theorem Mu(he:PE X e te)(hs:swapsWith e none pos.line X.env=pure false:=by rfl):PS X (.Expr e pos) (tDrop te):=by
 intro pins s σ H D I h
 exact wpAny_Expr_any (thn (he pins s σ H _ I h) fun v s1 ⟨x,H1,I1,r1,q1⟩=>⟨σ,H1,I1,q1⟩) I.quiet hs
def tRet(te:TE):TS:=fun D σ H=>te σ H D.rt
theorem Vz(he:PE X e te):PS X (.Return (some e) pos) (tRet te):=by
 intro pins s σ H D I h
 exact wpAny_Return_some (thn (he pins s σ H _ I h) fun v s1 ⟨x,H1,I1,r1,q1⟩=>⟨x,σ,H1,I1,r1,q1⟩)
def tIfS(c:TT)(t u:TS):TS:=fun D σ H=>c σ H fun b H1=>if b=true then t D σ H1 else u D σ H1
theorem ps_if{c:Expr}{a b:List Stmt}{tc:TT}(hc:PT X c tc)(ha:PSs X a t)(hb:PSs X b u):PS X (.If c a b pos) (tIfS tc t u):=by
 intro pins s σ H D I h
 refine wpAny_If (thn (hc pins s σ H _ I h) fun d s1 ⟨H1,I1,q1⟩=>?_)
 cases d with
 |true=>exact ha pins s1 σ H1 D I1 q1
 |false=>exact hb pins s1 σ H1 D I1 q1
def Li:TS:=fun _ _ _=>False
theorem Qv:PS X st Li:=fun _ _ _ _ _ _ h=>h.elim
end
abbrev TG:=V→St→Hp→(St→Hp→Prop)→Prop
abbrev TGs:=List V→St→Hp→(St→Hp→Prop)→Prop
def PG(X:Cx)(target:Expr)(t:TG):Prop:=
 ∀(pins:List (Addr×Obj)) (s:Shared) (σ:St) (H:Hp) (v:V) (u:Value) (Q:St→Hp→Prop),Inv X pins σ H s→RelV v u→t v σ H Q →
  wpAny (model X.prog X.w) X.A (assign target X.env u) (fun _ s'=>∃σ' H',Inv X pins σ' H' s'∧Q σ' H') X.xe s
def PGs(X:Cx)(ts:List Expr)(t:TGs):Prop:=
 ∀(pins:List (Addr×Obj)) (s:Shared) (σ:St) (H:Hp) (vs:List V) (us:List Value) (Q:St→Hp→Prop),Inv X pins σ H s→Vals vs us→t vs σ H Q →
  wpAny (model X.prog X.w) X.A (assignInOrder ((assignEach ts X.env).map (·.2)) us) (fun _ s'=>∃σ' H',Inv X pins σ' H' s'∧Q σ' H') X.xe s
abbrev zc9:=V→V→V→Hp→(Hp→Prop)→Prop
def PSet(X:Cx)(t:zc9):Prop:=
 ∀(pins:List (Addr×Obj)) (s:Shared) (σ:St) (H:Hp) (o i v:V) (ov iv u:Value) (Q:Hp→Prop),Inv X pins σ H s→RelV o ov→RelV i iv→RelV v u→t o i v H Q →
  wpAny (model X.prog X.w) X.A (setItem ov iv u) (fun _ s'=>∃H',Inv X pins σ H' s'∧Q H') X.xe s
abbrev TIp:=V→V→Hp→VK→Prop
def PIp(X:Cx)(op:Operator)(t:TIp):Prop:=
 ∀(pins:List (Addr×Obj)) (s:Shared) (σ:St) (H:Hp) (x y:V) (v u:Value) (Q:VK),Inv X pins σ H s→RelV x v→RelV y u→t x y H Q →
  wpAny (model X.prog X.w) X.A (inplaceOp op v u) (EP X pins σ Q) X.xe s
section
variable{X:Cx}{pos:Pos}
def Xu(i:Nat):TG:=fun v σ H Q=>Q (σ.set i (some v)) H
theorem ZD{i:Nat}{x:Str}(hN:X.N.Nodup)(hi:X.N[i]?=some x)(hx:Loc X.env.scope x)(hf:X.fn x=true∨X.env.scope.names.lookup x=some .local:=by first|exact .inl rfl|exact .inr rfl|assumption):PG X (.Name x pos) (Xu i):=by
 intro pins s σ H v u Q I r h
 exact wpAny_assign_Name (ZR I hN hi hx r (fun s' I'=>⟨_,H,I',h⟩) hf)
def gNil:TGs:=fun vs σ H Q=>vs=[]∧Q σ H
def gCons(t:TG)(u:TGs):TGs:=fun vs σ H Q=>∃v r,vs=v::r∧t v σ H fun σ' H'=>u r σ' H' Q
theorem Mz:PGs X [] gNil:=by
 intro pins s σ H vs us Q I r h
 obtain⟨e,h⟩:=h
 subst e
 cases r
 exact assignInOrder_nil ⟨σ,H,I,h⟩
theorem Wy{e:Expr}{es:List Expr}{t:TG}{u:TGs}(h1:PG X e t)(h2:PGs X es u)
  (hs:(assignEach (e::es) X.env).map (·.2)=assign e X.env::(assignEach es X.env).map (·.2):=by rfl):PGs X (e::es) (gCons t u):=by
 intro pins s σ H vs us Q I r h
 obtain⟨v,vr,e1,h⟩:=h
 subst e1
 cases r with
 |cons r rr=>
  rw[hs]
  refine assignInOrder_cons (thn (h1 pins s σ H _ _ _ I r h) fun _ s1 ⟨σ1,H1,I1,q1⟩=>?_)
  exact h2 pins s1 σ1 H1 _ _ Q I1 rr q1
def gTup(K:PySem.W.Frag)(n:Nat)(t:TGs):TG:=fun v σ H Q=>∃a xs,v=.ref a∧SqT K H a xs∧xs.length=n∧t xs σ H Q
theorem LC{es:List Expr}{k:Nat}{t:TGs}{n:Nat}(hc:X.calm=true)(h:PGs X es t)
  (hn:(assignEach es X.env).length=n:=by rfl) (hst:(assignEach es X.env).findIdx? (·.1)=none:=by rfl):PG X (.Tuple es k pos) (gTup X.K n t):=by
 intro pins s σ H v u Q I r hw
 obtain⟨a,xs,e1,hq,hl,hw⟩:=hw
 subst e1
 cases r
 obtain⟨its,rv,ht,hz⟩:=I.tuple hq
 refine assign_Tuple_tuple (I.ok.hd hc) ht (by simp[hn,← hl,rv.length]) hst fun h' hx=>?_
 have I1:Inv X pins σ H { s with heap:=h' }:=I.kept (t':=s.toks) fun b o e=>hx b o (ne_of_lt (Heap.lt_size e)) e
 exact h pins _ σ H xs _ Q I1 (by simpa using rv) hw
def gSub(to ti:TE)(t:zc9):TG:=fun v σ H Q=>to σ H fun o H1=>ti σ H1 fun i H2=>t o i v H2 fun H3=>Q σ H3
theorem LD{o i:Expr}{to ti:TE}{t:zc9}(ho:PE X o to)(hi:PE X i ti)(hs:PSet X t)
  (ha:∀v,assign (.Subscript o i pos) X.env v=(do
   let ov ← holding [v] (eval o X.env)
   let iv ← holding [v,ov] (eval i X.env)
   standAt pos
   holding [v,ov,iv] (setItem ov iv v)
   release [v,ov,iv] []):=by intro _;rfl):PG X (.Subscript o i pos) (gSub to ti t):=by
 intro pins s σ H v u Q I r h
 rw[ha]
 refine wpAny_bind (wpAny_holding (thn (ho pins s σ H _ I h) fun ov s1 ⟨x,H1,I1,r1,q1⟩=>?_))
 refine wpAny_bind (wpAny_holding (thn (hi pins s1 σ H1 _ I1 q1) fun iv s2 ⟨y,H2,I2,r2,q2⟩=>?_))
 refine wpAny_bind (wpAny_standAt (wpAny_bind (wpAny_holding (thn (hs pins s2 σ H2 x y v ov iv u _ I2 r1 r2 r q2) fun _ s3 ⟨H3,I3,q3⟩=>?_))))
 exact wpAny_release ⟨σ,H3,I3,q3⟩
def Lk(te:TE)(g:TG):TS:=fun D σ H=>te σ H fun x H1=>g x σ H1 D.nx
theorem Ly{tg e:Expr}{te:TE}{g:TG}(he:PE X e te)(hg:PG X tg g)(hs:swapsWithSole [tg] e pos.line X.env=pure false:=by rfl)(hw:swappedStores [tg] e X.env=pure none:=by rfl)
  (h1:(assignEach [tg] X.env).map (·.2)=[assign tg X.env]:=by rfl):PS X (.Assign [tg] e pos) (Lk te g):=by
 intro pins s σ H D I h
 refine wpAny_Assign_stores (thn (he pins s σ H _ I h) fun v s1 ⟨x,H1,I1,r1,q1⟩=>?_) hs hw
 rw[h1]
 exact thn (hg pins s1 σ H1 x v _ I1 r1 q1) fun _ s2 q=>q
theorem Vy{i:Nat}{x:Str}{e:Expr}{te:TE}{pos':Pos}(hN:X.N.Nodup)(hi:X.N[i]?=some x)(hx:Loc X.env.scope x)(he:PE X e te)(hs:swapsWith e (some (.Name x pos')) pos.line X.env=pure false:=by rfl)(hf:X.fn x=true∨X.env.scope.names.lookup x=some .local:=by first|exact .inl rfl|exact .inr rfl|assumption) :
  PS X (.Assign [.Name x pos'] e pos) (Lk te (Xu i)):=by
 intro pins s σ H D I h
 refine wpAny_Assign_Name (thn (he pins s σ H _ I h) fun v s1 ⟨y,H1,I1,r1,q1⟩=>?_) hs
 exact ZR I1 hN hi hx r1 (fun s2 I2=>⟨_,H1,I2,q1⟩) hf
def tAug(i:Nat)(te:TE)(ti:TIp):TS:=fun D σ H=>∃x,σ[i]?=some (some x)∧te σ H fun y H1=>ti x y H1 fun z H2=>D.nx (σ.set i (some z)) H2
theorem Lx{i:Nat}{x:Str}{e:Expr}{te:TE}{op:Operator}{ti:TIp}{pos':Pos}(hN:X.N.Nodup)(hi:X.N[i]?=some x)(hx:Loc X.env.scope x)(he:PE X e te)(ho:PIp X op ti)(hf:X.fn x=true∨X.env.scope.names.lookup x=some .local:=by first|exact .inl rfl|exact .inr rfl|assumption) :
  PS X (.AugAssign (.Name x pos') op e pos) (tAug i te ti):=by
 intro pins s σ H D I h
 obtain⟨v,e1,h⟩:=h
 obtain⟨m,hn,hl⟩:=I.loc
 have vis:Vis X.env.scope x:=by rcases hx with k|k;exact .inl k;exact .inr (.inl k)
 obtain⟨u,r,l⟩:=hl i x v hi e1 vis
 refine wpAny_AugAssign_Name ?_
 have go:wpAny (model X.prog X.w) X.A (eval e X.env) (fun w s₂=>wpAny (model X.prog X.w) X.A (inplaceOp op u w) (fun r s₃=>wpAny (model X.prog X.w) X.A (storeName X.env x r) (fun _=>SP X pins D .next) X.xe s₃) X.xe s₂) X.xe s:=by
  refine thn (he pins s σ H _ I h) fun w s1 ⟨y,H1,I1,r1,q1⟩=>?_
  refine thn (ho pins s1 σ H1 v y u w _ I1 r r1 q1) fun z s2 ⟨zv,H2,I2,r2,q2⟩=>?_
  exact ZR I2 hN hi hx r2 (fun s3 I3=>⟨_,H2,I3,q2⟩) hf
 rcases l with ⟨hk,hm⟩|⟨hk,c,hc,hcell⟩
 ·exact wpAny_loadName_local I.ok.kind hk hn hm go
 ·rcases hk with hk|hk
  ·exact wpAny_loadName_cell I.ok.kind hk hc hcell go
  ·rcases hx with k|k
   ·have:X.env.scope.names.lookup x=some .free:=hk
    rw[k] at this;cases this
   ·have:X.env.scope.names.lookup x=some .free:=hk
    rw[k] at this;cases this
def ipI(f:Int→Int→Int):TIp:=fun x y H Q=>∃i j,x=.int i∧y=.int j∧Q (.int (f i j)) H
theorem za7:PIp X .Add (ipI fun i j=>i+j):=by
 intro pins s σ H x y v u Q I r1 r2 h
 obtain⟨i,j,e1,e2,q⟩:=h
 subst e1;subst e2
 obtain⟨t,rfl⟩:=r1
 obtain⟨t',rfl⟩:=r2
 exact iadd_int ⟨.int _,H,I.tok _,⟨_,rfl⟩,q⟩
end
section
variable{X:Cx}{pos:Pos}
def Lh(c:TT)(tb:TS):TS:=fun D σ H=>∃W:Nat→St→Hp→Prop,(∃m,W m σ H)∧∀m σ H,W m σ H →
 c σ H fun b H1=>if b=true then ∃N:St→Hp→Prop,(∀σ' H',N σ' H'→∃m',m'<m∧W m' σ' H')∧tb { D with nx:=N,ct:=N,bk:=D.nx } σ H1 else D.nx σ H1
theorem Qu{c:Expr}{body:List Stmt}{tc:TT}{tb:TS}(hp:PassesOwn (model X.prog X.w) X.A X.env X.xe)(hc:PT X c tc)(hb:PSs X body tb):PS X (.While c body [] pos) (Lh tc tb):=by
 intro pins s σ H D I h
 obtain⟨W,⟨m0,w0⟩,turn⟩:=h
 refine wpAny_While (codeAny_whileLoop (fun n s'=>∃σ' H',Inv X pins σ' H' s'∧W n σ' H') ?_ m0 ⟨σ,H,I,w0⟩)
 rintro n s1 ⟨σ1,H1,I1,w1⟩
 refine wpAny_passesOwn hp (thn (hc pins s1 σ1 H1 _ I1 (turn n σ1 H1 w1)) fun b s2 ⟨H2,I2,q2⟩=>?_)
 cases b with
 |true=>
  obtain⟨N,hN,q2⟩:=q2
  rw[if_pos rfl]
  refine wpAny_passesOwn hp (thn (hb pins s2 σ1 H2 _ I2 q2) fun f s3 q3=>?_)
  cases f with
  |next=>
   obtain⟨σ3,H3,I3,n3⟩:=q3
   obtain⟨m',hm,w3⟩:=hN σ3 H3 n3
   exact⟨m',hm,σ3,H3,I3,w3⟩
  |cont=>
   obtain⟨σ3,H3,I3,n3⟩:=q3
   obtain⟨m',hm,w3⟩:=hN σ3 H3 n3
   exact⟨m',hm,σ3,H3,I3,w3⟩
  |brk=>exact q3
  |ret v=>exact q3
 |false=>
  rw[if_neg Bool.false_ne_true]
  exact wpAny_execs_nil ⟨σ1,H2,I2,q2⟩
end
structure It where
 go:Nat→Hp→Prop
 yld:Nat→Hp→V→Hp→Prop
 stop:Nat→Hp→Prop
def YE(X:Cx)(pins:List (Addr×Obj))(H:Hp)(b:Addr):Prop:=
 H b=none∧b≠X.env.locals∧b∉X.fs∧(b∈X.ex∨X.s₀.heap.objs.size≤b)∧(∀x c,X.env.cells.lookup x=some c→c≠b)∧∀p∈X.pn++pins,p.1≠b
theorem Inv.fpOk{X:Cx}{pins:List (Addr×Obj)}{σ:St}{H H':Hp}{s:Shared}{b:Addr}(I:Inv X pins σ H s)(hb:s.heap.objs.size≤b)(hn:H' b=none):YE X pins H' b:=by
 refine⟨hn,ne_of_gt (lt_of_lt_of_le I.lt hb),I.nofs hb,.inr (le_trans I.sz hb),fun x c e z=>?_,fun p hp z=>?_⟩
 ·obtain⟨v,q⟩:=I.cell x c e
  exact absurd (lt_of_lt_of_le q.lt (by rw[z];exact hb)) (lt_irrefl _)
 ·exact absurd (lt_of_lt_of_le (Heap.lt_size (I.pin p hp).1) (by rw[z];exact hb)) (lt_irrefl _)
structure YY(P:Program)(w:World)(K:PySem.W.Frag)(tg:Expr)(J:It)(fp:List Addr)(it:Addr)(tn:Nat→Heap→Prop):Prop where
 mem:it∈fp
 obj:∀i h,tn i h→∀b∈fp,∃o,h.get? b=some o∧∀v,o.data≠.cell v
 keep:∀i h h',tn i h→(∀b∈fp,∀o,h.get? b=some o→h'.get? b=some o)→tn i h'
 item:∀(X:Cx),X.prog=P→X.w=w→X.K=K→X.calm=true→∀(i:Nat) (pins:List (Addr×Obj)) (s:Shared) (σ:St) (H:Hp) (E:Value→Shared→Prop),Inv X pins σ H s→(∀b∈fp,YE X pins H b)→tn i s.heap→J.go i H →
  wpAny (model P w) X.A (pyNext (.ref it)) (fun r s1=>∃u,r=some u ∧
   wpAny (model P w) X.A (letOwnedTupleGo tg (.ref it) u) (fun _ s2=>∃x H',Inv X pins σ H' s2∧RelV x u∧J.yld i H x H'∧tn (i+1) s2.heap∧∀b∈fp,H' b=none) E s1) E s
 done:∀(X:Cx),X.prog=P→X.w=w→X.K=K→X.calm=true→∀(i:Nat) (pins:List (Addr×Obj)) (s:Shared) (σ:St) (H:Hp) (E:Value→Shared→Prop),Inv X pins σ H s→(∀b∈fp,YE X pins H b)→tn i s.heap→J.stop i H →
  wpAny (model P w) X.A (pyNext (.ref it)) (fun r s1=>r=none∧Inv X pins σ H s1) E s
 self:∀(A:Around) (i:Nat) (s:Shared) (Q:Value→Shared→Prop) (E:Value→Shared→Prop),tn i s.heap→Q (.ref it) s→wpAny (model P w) A (pyIter (.ref it)) Q E s
abbrev TI:=St→Hp→(It→Hp→Prop)→Prop
def PIE(X:Cx)(pins:List (Addr×Obj))(σ:St)(tg:Expr)(R:It→Hp→Prop)(itv:Value)(s2:Shared):Prop:=
 ∃(it:Addr) (fp:List Addr) (tn:Nat→Heap→Prop) (J:It) (H':Hp),itv=.ref it∧Inv X pins σ H' s2∧YY X.prog X.w X.K tg J fp it tn∧tn 0 s2.heap∧(∀b∈fp,YE X pins H' b)∧R J H'
def PI(X:Cx)(tg iter:Expr)(wi:TI):Prop:=
 ∀(pins:List (Addr×Obj)) (s:Shared) (σ:St) (H:Hp) (R:It→Hp→Prop),Inv X pins σ H s→wi σ H R →
  wpAny (model X.prog X.w) X.A (eval iter X.env) (fun v s1=>wpAny (model X.prog X.w) X.A (pyIter v) (PIE X pins σ tg R) X.xe s1) X.xe s
theorem WX{M:Model}{A:Around}{E:Value→Shared→Prop}{s:Shared}{tg:Expr}{it:Addr}{u:Value}{o:Obj}{n:String}{vs:Array Value}{Q:Unit→Shared→Prop}(ho:s.heap.get? it=some o)(hc:o.cls=.type n)(hd:o.data=.fields vs)
  (hn:["enumerate", "zip", "dict_itemiterator", "dict_reverseitemiterator", "odict_iterator", "itertools.zip_longest", "itertools.pairwise"].contains n=false) (hQ:Q () s):wpAny M A (letOwnedTupleGo tg (.ref it) u) Q E s:=by
 unfold letOwnedTupleGo
 cases tg <;> first
  | exact wpAny_pure hQ
  | (cases u <;> first
    | exact wpAny_pure hQ
    | (refine wpAny_bind (wpAny_load ho ?_)
       rw[hc,hd]
       show wpAny M A (if (["enumerate", "zip", "dict_itemiterator", "dict_reverseitemiterator", "odict_iterator", "itertools.zip_longest", "itertools.pairwise"].contains n&&vs[0]?==some (rawInt _))=true then _ else _) Q E s
       rw[if_neg (by intro h;rw[hn,Bool.false_and] at h;cases h)]
       exact wpAny_pure hQ))
def Itl(K:PySem.W.Frag)(a:Addr):It:=
 ⟨fun i H=>∃xs x,SqL K H a xs∧xs[i]?=some x,fun i H x H'=>H'=H∧∀xs,SqL K H a xs→xs[i]?=some x,fun i H=>∃xs,SqL K H a xs∧xs.length≤i⟩
def Itt(K:PySem.W.Frag)(a:Addr):It:=
 ⟨fun i H=>∃xs x,SqT K H a xs∧xs[i]?=some x,fun i H x H'=>H'=H∧∀xs,SqT K H a xs→xs[i]?=some x,fun i H=>∃xs,SqT K H a xs∧xs.length≤i⟩
def Itr(lo:Int)(n:Nat):It:=⟨fun i _=>i<n,fun i H x H'=>H'=H∧x=.int (lo+i),fun i _=>n≤i⟩
theorem UX{P:Program}{w:World}{K:PySem.W.Frag}{tg:Expr}(a it:Addr):YY P w K tg (Itl K a) [it] it (fun i h=>h.IsListIter it a i) where
 mem:=by simp
 obj:=fun i h st b hb=>by
  have e:b=it:=by simpa using hb
  subst e
  obtain⟨o,e,c,d⟩:=st
  exact⟨o,e,fun v z=>by rw[d] at z;cases z⟩
 keep:=fun i h h' st k=>st.at fun o e=>k it (by simp) o e
 item:=by
  intro X hP hw hK hc i pins s σ H E I hf st hg
  subst hP hw hK
  obtain⟨xs,x,hq,hx⟩:=hg
  obtain⟨its,rv,p,hz⟩:=I.list hq
  obtain⟨u,hu,ru⟩:=rv.get hx
  obtain⟨f0,f1,f2,f3,f4,f5⟩:=hf it (by simp)
  refine wpAny_pyNext_list_item st p.isList (x:=u) (by simpa using hu) fun h' st' sb=>?_
  have I1:Inv X pins σ H { s with heap:=h' }:=I.turned (t':=s.toks) (fun b o hb e=>(sb.2 b hb).trans e) f0 f1 f3 f4 f5
  obtain⟨o,e,c,d⟩:=id st'
  exact⟨u,rfl,WX (s:={ s with heap:=h' }) e c d (by decide) ⟨x,H,I1,ru,⟨rfl,fun ys hy=>by rw[I.list_inj hy hq];exact hx⟩,st',fun b hb=>(hf b hb).1⟩⟩
 done:=by
  intro X hP hw hK hc i pins s σ H E I hf st hg
  subst hP hw hK
  obtain⟨xs,hq,hx⟩:=hg
  obtain⟨its,rv,p,hz⟩:=I.list hq
  obtain⟨f0,f1,f2,f3,f4,f5⟩:=hf it (by simp)
  have hl:=rv.length
  exact wpAny_pyNext_list_end (I.ok.hd hc) st p.isList (by simp;omega) fun h' eb=>⟨rfl,I.turned (t':=s.toks) (fun b o hb e=>eb b o hb e) f0 f1 f3 f4 f5⟩
 self:=fun _ _ _ _ _ st h=>wpAny_pyIter_listiter st h
theorem Vj{P:Program}{w:World}{K:PySem.W.Frag}{tg:Expr}(a it:Addr):YY P w K tg (Itt K a) [it] it (fun i h=>h.IsTupleIter it a i) where
 mem:=by simp
 obj:=fun i h st b hb=>by
  have e:b=it:=by simpa using hb
  subst e
  obtain⟨o,e,c,d⟩:=st
  exact⟨o,e,fun v z=>by rw[d] at z;cases z⟩
 keep:=fun i h h' st k=>st.at fun o e=>k it (by simp) o e
 item:=by
  intro X hP hw hK hc i pins s σ H E I hf st hg
  subst hP hw hK
  obtain⟨xs,x,hq,hx⟩:=hg
  obtain⟨its,rv,p,hz⟩:=I.tuple hq
  obtain⟨u,hu,ru⟩:=rv.get hx
  obtain⟨f0,f1,f2,f3,f4,f5⟩:=hf it (by simp)
  refine wpAny_pyNext_tuple_item st (show s.heap.IsTuple a its.toArray from p) (x:=u) (by simpa using hu) fun h' st' sb=>?_
  have I1:Inv X pins σ H { s with heap:=h' }:=I.turned (t':=s.toks) (fun b o hb e=>(sb.2 b hb).trans e) f0 f1 f3 f4 f5
  obtain⟨o,e,c,d⟩:=id st'
  exact⟨u,rfl,WX (s:={ s with heap:=h' }) e c d (by decide) ⟨x,H,I1,ru,⟨rfl,fun ys hy=>by rw[I.tuple_inj hy hq];exact hx⟩,st',fun b hb=>(hf b hb).1⟩⟩
 done:=by
  intro X hP hw hK hc i pins s σ H E I hf st hg
  subst hP hw hK
  obtain⟨xs,hq,hx⟩:=hg
  obtain⟨its,rv,p,hz⟩:=I.tuple hq
  obtain⟨f0,f1,f2,f3,f4,f5⟩:=hf it (by simp)
  have hl:=rv.length
  exact wpAny_pyNext_tuple_end (I.ok.hd hc) st (show s.heap.IsTuple a its.toArray from p) (by simp;omega) fun h' eb=>⟨rfl,I.turned (t':=s.toks) (fun b o hb e=>eb b o hb e) f0 f1 f3 f4 f5⟩
 self:=fun _ _ _ _ _ st h=>wpAny_pyIter_tupleiter st h
theorem Vk{P:Program}{w:World}{K:PySem.W.Frag}{tg:Expr}(it:Addr)(lo:Int)(n:Nat):YY P w K tg (Itr lo n) [it] it (fun i h=>IsRangeIter h it (lo+(i:Nat)*1) ((n:Int)-(i:Nat)) 1) where
 mem:=by simp
 obj:=fun i h st b hb=>by
  have e:b=it:=by simpa using hb
  subst e
  exact⟨_,st,fun v z=>by
   have z':Data.fields _=Data.cell v:=z
   cases z'⟩
 keep:=fun i h h' st k=>k it (by simp) _ st
 item:=by
  intro X hP hw hK hc i pins s σ H E I hf st hg
  subst hP hw hK
  obtain⟨f0,f1,f2,f3,f4,f5⟩:=hf it (by simp)
  have W:=Walks.range (prog:=X.prog) (w:=X.w) (I.ok.hd hc) it lo 1 n
  refine W.item i s _ _ hg st fun v h' tk hv st' kk=>?_
  obtain⟨t,rfl⟩:=hv
  have I1:Inv X pins σ H { s with heap:=h',toks:=tk }:=I.turned (fun b o hb e=>kk b o (by simpa using hb) e) f0 f1 f3 f4 f5
  refine⟨_,rfl,WX (s:={ s with heap:=h',toks:=tk }) (n := "range_iterator") st' rfl rfl (by decide) ⟨.int (lo+i),H,I1,⟨t,?_⟩,⟨rfl,rfl⟩,st',fun b hb=>(hf b hb).1⟩⟩
  rw[Int.mul_one]
 done:=by
  intro X hP hw hK hc i pins s σ H E I hf st hg
  subst hP hw hK
  obtain⟨f0,f1,f2,f3,f4,f5⟩:=hf it (by simp)
  exact wpAny_pyNext_range_end (I.ok.hd hc) st (by have:n≤i:=hg;omega) fun h' eb=>⟨rfl,I.turned (t':=s.toks) (fun b o hb e=>eb b o hb e) f0 f1 f3 f4 f5⟩
 self:=fun _ _ _ _ _ st h=>wpAny_pyIter_rangeiter st h
section
variable{X:Cx}{tg:Expr}
theorem Qn{pins:List (Addr×Obj)}{σ:St}{H:Hp}{s:Shared}{R:It→Hp→Prop}{E:Value→Shared→Prop}{lo hi:Int}{t u v:Tok}{tk:Nat}(I:Inv X pins σ H s)(h1 : -(2 ^ 62)≤lo)(h2:lo<2 ^ 62)(h3 : -(2 ^ 62)≤hi)(h4:hi<2 ^ 62)
  (q:R (Itr lo (hi-lo).toNat) H):wpAny (model X.prog X.w) X.A (pyIter (.ref s.heap.objs.size)) (PIE X pins σ tg R) E { s with heap:=s.heap.push { cls:=.type "range", data:=.fields #[.int lo t,.int hi u,.int 1 v] },toks:=tk }:=by
 refine wpAny_pyIter_range (IsRange.new ..) (small_one h1 h2 h3 h4) ?_
 have I1:Inv X pins σ H { s with heap:=s.heap.push { cls:=.type "range", data:=.fields #[.int lo t,.int hi u,.int 1 v] },toks:=tk }:=I.kept fun b o e=>Heap.get?_push_of_some _ e
 refine⟨(s.heap.push { cls:=.type "range", data:=.fields #[.int lo t,.int hi u,.int 1 v] }).objs.size,[(s.heap.push { cls:=.type "range", data:=.fields #[.int lo t,.int hi u,.int 1 v] }).objs.size],_,_,H,rfl,
  I1.kept (t':=tk) fun b o e=>Heap.get?_push_of_some _ e,Vk _ lo (hi-lo).toNat,?_,fun b hb=>?_,q⟩
 ·have e1:lo+((0:Nat):Int)*1=lo:=by simp
  have e2:(((hi-lo).toNat:Nat):Int)-((0:Nat):Int)=Builtin.Range.rangeSize lo hi 1:=by rw[rangeSize_one];split <;> omega
  show IsRangeIter _ _ (lo+((0:Nat):Int)*1) ((((hi-lo).toNat:Nat):Int)-((0:Nat):Int)) 1
  rw[e1,e2]
  exact Heap.get?_push_size _ rfl
 ·have e:b=(s.heap.push { cls:=.type "range", data:=.fields #[.int lo t,.int hi u,.int 1 v] }).objs.size:=by simpa using hb
  subst e
  exact I1.fpOk (le_refl _) (I1.hok.fresh (le_refl _))
def iRng1(ta:TA):TI:=fun σ H R=>ta σ H fun vs H1=>∃j:Int,vs=[.int j]∧-(2 ^ 62)≤j∧j<2 ^ 62∧R (Itr 0 j.toNat) H1
theorem Ja{a:Expr}{ta:TA}{p pos:Pos}(hg:Gl X "range")(hm:X.mg "range" = none)(ha:PA X [a] ta)(hs:starEach [a] X.env=[(false,eval a X.env)]:=by rfl):PI X tg (.Call (.Name "range" p) [a] [] pos) (iRng1 ta):=by
 intro pins s σ H R I h
 refine Call_ (ua I hg hm boot_range (PyProof.Rows.callWith_type1 (thn (ha pos pins s σ H _ I h) fun us s1 ⟨vs,H1,I1,r1,q1⟩=>?_) hs rfl))
 obtain⟨j,e,q1,q2,q⟩:=q1
 subst e
 cases r1 with
 |cons r rr=>
  cases rr
  obtain⟨t,rfl⟩:=r
  exact call_range_1 (Qn I1 (by omega) (by omega) q1 q2 (by simpa using q))
def tFor(wi:TI)(g:TG)(tb:TS):TS:=fun D σ H=>wi σ H fun J H1=>∃W:Nat→Nat→St→Hp→Prop,(∃m,W 0 m σ H1)∧∀i m σ H,W i m σ H →
 (J.stop i H∧D.nx σ H)∨(J.go i H∧∃N:St→Hp→Prop,(∀σ' H',N σ' H'→∃m',m'<m∧W (i+1) m' σ' H')∧∀x H',J.yld i H x H'→g x σ H' fun σ2 H2=>tb { D with nx:=N,ct:=N,bk:=D.nx } σ2 H2)
def ZY(fp:List Addr)(h:Heap):List (Addr×Obj):=fp.filterMap fun b=>(h.get? b).map fun o=>(b,o)
theorem v8{fp:List Addr}{h:Heap}{b:Addr}{o:Obj}(hb:b∈fp)(e:h.get? b=some o):(b,o)∈ZY fp h:=mem_filterMap.mpr ⟨b,hb,by rw[e];rfl⟩
theorem Jm{fp:List Addr}{h:Heap}{p:Addr×Obj}(hp:p∈ZY fp h):p.1∈fp∧h.get? p.1=some p.2:=by
 obtain⟨b,hb,e⟩:=mem_filterMap.mp hp
 cases q:h.get? b with
 |none=>rw[q] at e;cases e
 |some o=>
  rw[q] at e
  have e':(b,o)=p:=Option.some.inj e
  subst e'
  exact⟨hb,q⟩
theorem Inv.pinned{pins:List (Addr×Obj)}{σ:St}{H:Hp}{s:Shared}{fp:List Addr}(I:Inv X pins σ H s)(hf:∀b∈fp,YE X pins H b)(ho:∀b∈fp,∃o,s.heap.get? b=some o∧∀v,o.data≠.cell v):Inv X (pins++ZY fp s.heap) σ H s:=
 I.pins_of fun p hp=>(mem_append.mp hp).elim (fun z=>I.pin p (mem_append_right _ z)) fun z=>by
  obtain⟨hb,e⟩:=Jm z
  obtain⟨f0,f1,f2,_⟩:=hf p.1 hb
  obtain⟨o,e',d⟩:=ho p.1 hb
  rw[e] at e';cases e'
  exact⟨e,f0,f1,f2,d⟩
theorem Inv.unpinned{pins pl:List (Addr×Obj)}{σ:St}{H:Hp}{s:Shared}(I:Inv X (pins++pl) σ H s):Inv X pins σ H s:=I.pins_of fun p hp=>I.pin p (mem_append_right _ (mem_append_left _ hp))
theorem Qw{iter:Expr}{body:List Stmt}{wi:TI}{g:TG}{tb:TS}{pos:Pos}(hp:PassesOwn (model X.prog X.w) X.A X.env X.xe)(hc:X.calm=true)(hi:PI X tg iter wi)(hg:PG X tg g)(hb:PSs X body tb)
  (hs:∀x,foldedSetIterable iter X.env x=pure x:=by intro _;rfl):PS X (.For tg iter body [] pos) (tFor wi g tb):=by
 intro pins s σ H D I h
 refine wpAny_For (thn (hi pins s σ H _ I h) fun v s1 h1=>thn h1 fun itv s2 h2=>?_) hs
 obtain⟨it,fp,tn,J,H2,e,I2,T,st2,f2,W,⟨m0,w0⟩,turn⟩:=h2
 subst e
 have stat:∀{H':Hp},(∀b∈fp,H' b=none)→∀b∈fp,YE X pins H' b:=fun hn b hb=>⟨hn b hb,(f2 b hb).2⟩
 refine codeAny_forLoop_any (fun n s'=>∃i σ' H',Inv X pins σ' H' s'∧tn i s'.heap∧(∀b∈fp,H' b=none)∧W i n σ' H') ?_ m0 ⟨0,σ,H2,I2,st2,fun b hb=>(f2 b hb).1,w0⟩
 rintro n s3 ⟨i,σ3,H3,I3,st3,fr3,w3⟩
 rcases turn i n σ3 H3 w3 with ⟨stop,qn⟩|⟨go,N,hN,step⟩
 ·refine wpAny_passesOwn hp (thn (T.done X rfl rfl rfl hc i pins s3 σ3 H3 X.xe I3 (stat fr3) st3 stop) fun r s4 ⟨hr,I4⟩=>?_)
  subst hr
  exact wpAny_execs_nil ⟨σ3,H3,I4,qn⟩
 ·refine wpAny_passesOwn hp (thn (T.item X rfl rfl rfl hc i pins s3 σ3 H3 X.xe I3 (stat fr3) st3 go) fun r s4 ⟨u,hr,h4⟩=>?_)
  subst hr
  refine wpAny_passesOwn hp (thn h4 fun _ s5 ⟨x,H5,I5,r5,y5,st5,fr5⟩=>?_)
  have I5':=I5.pinned (stat fr5) (T.obj _ _ st5)
  refine wpAny_passesOwn hp (thn (hg _ s5 σ3 H5 x u _ I5' r5 (step x H5 y5)) fun _ s6 ⟨σ6,H6,I6,q6⟩=>?_)
  refine wpAny_passesOwn hp (thn (hb _ s6 σ6 H6 _ I6 q6) fun f s7 q7=>?_)
  have again:∀{σ7:St} {H7:Hp},Inv X (pins++ZY fp s5.heap) σ7 H7 s7→N σ7 H7→∃m,m<n∧∃i σ' H',Inv X pins σ' H' s7∧tn i s7.heap∧(∀b∈fp,H' b=none)∧W i m σ' H':=fun {σ7 H7} I7 n7=>by
   obtain⟨m',hm,w7⟩:=hN σ7 H7 n7
   refine⟨m',hm,i+1,σ7,H7,I7.unpinned,T.keep _ _ _ st5 fun b hb o e=>(I7.pin (b,o) (mem_append_right _ (mem_append_right _ (v8 hb e)))).1,fun b hb=>?_,w7⟩
   obtain⟨o,e,d⟩:=T.obj _ _ st5 b hb
   exact(I7.pin (b,o) (mem_append_right _ (mem_append_right _ (v8 hb e)))).2.1
  cases f with
  |next=>obtain⟨σ7,H7,I7,n7⟩:=q7;exact again I7 n7
  |cont=>obtain⟨σ7,H7,I7,n7⟩:=q7;exact again I7 n7
  |brk=>obtain⟨σ7,H7,I7,q7⟩:=q7;exact⟨σ7,H7,I7.unpinned,q7⟩
  |ret v=>obtain⟨x7,σ7,H7,I7,r7,q7⟩:=q7;exact⟨x7,σ7,H7,I7.unpinned,r7,q7⟩
end
abbrev R2:=V→V→Hp→VK→Prop
def OpR(X:Cx)(f:Value→Value→Sem Value)(r:R2):Prop:=
 ∀(pins:List (Addr×Obj)) (s:Shared) (σ:St) (H:Hp) (x y:V) (v u:Value) (Q:VK),Inv X pins σ H s→RelV x v→RelV y u→r x y H Q →
  wpAny (model X.prog X.w) X.A (f v u) (EP X pins σ Q) X.xe s
def UnR(X:Cx)(f:Value→Sem Value)(r:V→Hp→VK→Prop):Prop:=
 ∀(pins:List (Addr×Obj)) (s:Shared) (σ:St) (H:Hp) (x:V) (v:Value) (Q:VK),Inv X pins σ H s→RelV x v→r x H Q →
  wpAny (model X.prog X.w) X.A (f v) (EP X pins σ Q) X.xe s
def CallR(X:Cx)(f:Value)(r:List V→Hp→VK→Prop):Prop:=
 ∀(pins:List (Addr×Obj)) (s:Shared) (σ:St) (H:Hp) (xs:List V) (us:List Value) (Q:VK),Inv X pins σ H s→Vals xs us→r xs H Q →
  wpAny (model X.prog X.w) X.A (call f us) (EP X pins σ Q) X.xe s
def TruR(X:Cx)(r:V→Hp→(Bool→Hp→Prop)→Prop):Prop:=
 ∀(pins:List (Addr×Obj)) (s:Shared) (σ:St) (H:Hp) (x:V) (v:Value) (Q:Bool→Hp→Prop),Inv X pins σ H s→RelV x v→r x H Q →
  wpAny (model X.prog X.w) X.A (truthy v) (TP X pins σ Q) X.xe s
def tOp(r:R2)(ta tb:TE):TE:=fun σ H Q=>ta σ H fun x H1=>tb σ H1 fun y H2=>r x y H2 Q
def tUn(r:V→Hp→VK→Prop)(ta:TE):TE:=fun σ H Q=>ta σ H fun x H1=>r x H1 Q
def rI(C:Int→Int→Prop)(g:Int→Int→V):R2:=fun x y H Q=>∃i j,x=.int i∧y=.int j∧C i j∧Q (g i j) H
def rI0(g:Int→Int→V):R2:=fun x y H Q=>∃i j,x=.int i∧y=.int j∧Q (g i j) H
def rU(g:Int→V):V→Hp→VK→Prop:=fun x H Q=>∃i,x=.int i∧Q (g i) H
section
variable{X:Cx}{a b c:Expr}{ta tb tc:TE}{pos:Pos}
theorem zc3(ha:PE X a ta)(hb:PE X b tb){pins:List (Addr×Obj)}{s:Shared}{σ:St}{H:Hp}{R:V→V→Hp→Prop}(I:Inv X pins σ H s)
  (h:ta σ H fun x H1=>tb σ H1 fun y H2=>R x y H2) {Q:Value→Shared→Prop} {f:Value→Value→Sem Value}
  (hf:∀v u s2 x y H2,Inv X pins σ H2 s2→RelV x v→RelV y u→R x y H2→wpAny (model X.prog X.w) X.A (f v u) Q X.xe s2) :
  wpAny (model X.prog X.w) X.A (eval a X.env) (fun v s₁=>wpAny (model X.prog X.w) X.A (eval b X.env) (fun u s₂=>wpAny (model X.prog X.w) X.A (f v u) Q X.xe s₂) X.xe s₁) X.xe s:=by
 refine thn (ha pins s σ H _ I h) fun v s1 ⟨x,H1,I1,r1,q1⟩=>?_
 refine thn (hb pins s1 σ H1 _ I1 q1) fun u s2 ⟨y,H2,I2,r2,q2⟩=>?_
 exact hf v u s2 x y H2 I2 r1 r2 q2
theorem pe_op{op:Operator}{r:R2}(ho:OpR X (binaryOp op) r)(ha:PE X a ta)(hb:PE X b tb):PE X (.BinOp a op b pos) (tOp r ta tb):=by
 intro pins s σ H Q I h
 exact wpAny_BinOp (zc3 ha hb I h fun v u s2 x y H2 I2 rx ry q=>ho pins s2 σ H2 x y v u Q I2 rx ry q)
theorem pe_un{op:UnaryOp}{r:V→Hp→VK→Prop}(ho:UnR X (unaryOp op) r)(ha:PE X a ta):PE X (.UnaryOp op a pos) (tUn r ta):=by
 intro pins s σ H Q I h
 exact UnaryOp_ (thn (ha pins s σ H _ I h) fun v s1 ⟨x,H1,I1,r1,q1⟩=>ho pins s1 σ H1 x v Q I1 r1 q1)
theorem opI{f:Value→Value→Sem Value}{C:Int→Int→Prop}{g:Int→Int→Int}
  (rule:∀(i j:Int) (t u:Tok) (s:Shared) (Q:Value→Shared→Prop) (E:Value→Shared→Prop),C i j→Q (.int (g i j) s.toks) { s with toks:=s.toks+1 }→wpAny (model X.prog X.w) X.A (f (.int i t) (.int j u)) Q E s) :
  OpR X f (rI C fun i j=>.int (g i j)):=by
 intro pins s σ H x y v u Q I rx ry h
 obtain⟨i,j,rfl,rfl,hc,q⟩:=h
 obtain⟨t,rfl⟩:=rx
 obtain⟨t',rfl⟩:=ry
 exact rule i j t t' s _ _ hc ⟨.int (g i j),H,I.tok _,⟨_,rfl⟩,q⟩
theorem opI0{f:Value→Value→Sem Value}{g:Int→Int→Int}
  (rule:∀(i j:Int) (t u:Tok) (s:Shared) (Q:Value→Shared→Prop) (E:Value→Shared→Prop),Q (.int (g i j) s.toks) { s with toks:=s.toks+1 }→wpAny (model X.prog X.w) X.A (f (.int i t) (.int j u)) Q E s) :
  OpR X f (rI0 fun i j=>.int (g i j)):=by
 intro pins s σ H x y v u Q I rx ry h
 obtain⟨i,j,rfl,rfl,q⟩:=h
 obtain⟨t,rfl⟩:=rx
 obtain⟨t',rfl⟩:=ry
 exact rule i j t t' s _ _ ⟨.int (g i j),H,I.tok _,⟨_,rfl⟩,q⟩
theorem MO{f:Value→Value→Sem Value}{g:Int→Int→Bool}
  (rule:∀(i j:Int) (t u:Tok) (s:Shared) (Q:Value→Shared→Prop) (E:Value→Shared→Prop),Q (.bool (g i j)) s→wpAny (model X.prog X.w) X.A (f (.int i t) (.int j u)) Q E s) :
  OpR X f (rI0 fun i j=>.bl (g i j)):=by
 intro pins s σ H x y v u Q I rx ry h
 obtain⟨i,j,rfl,rfl,q⟩:=h
 obtain⟨t,rfl⟩:=rx
 obtain⟨t',rfl⟩:=ry
 exact rule i j t t' s _ _ ⟨.bl (g i j),H,I,rfl,q⟩
def CDiv(i j:Int):Prop:=0<j∧j<1073741824
def CMul(i j:Int):Prop:=(-(2 ^ 64)<i∧i<2 ^ 64)∨(-(2 ^ 64)<j∧j<2 ^ 64)
theorem CMul.ok{i j:Int}(h:CMul i j):IntMulOk i j:=by
 rcases h with ⟨h1,h2⟩|⟨h1,h2⟩
 ·exact .of_left (intBits_le_64 h1 h2)
 ·exact .of_right (intBits_le_64 h1 h2)
theorem op_add:OpR X (binaryOp .Add) (rI0 fun i j=>.int (i+j)):=opI0 fun _ _ _ _ _ _ _ q=>add_int q
theorem LO:OpR X (binaryOp .Sub) (rI0 fun i j=>.int (i-j)):=opI0 fun _ _ _ _ _ _ _ q=>sub_int q
theorem op_mul:OpR X (binaryOp .Mult) (rI CMul fun i j=>.int (i*j)):=opI fun _ _ _ _ _ _ _ hc q=>mul_int q hc.ok
theorem MN:OpR X (binaryOp .FloorDiv) (rI CDiv fun i j=>.int (i / j)):=opI fun i j _ _ _ _ _ hc q=>by
 have h1:(0:Int)<j:=hc.1
 have h2:j<1073741824:=hc.2
 exact floordiv_int (by omega) (by rw[Int.fdiv_eq_ediv_of_nonneg i (by omega)];exact q) (.inl (PyProof.noPylong_small (by omega)))
theorem LQ:OpR X (binaryOp .Mod) (rI (fun _ j=>0<j) fun i j=>.int (i%j)):=opI fun i j _ _ _ _ _ hc q=>by
 have h1:(0:Int)<j:=hc
 exact mod_int' (by omega) (by rw[Int.fmod_eq_emod_of_nonneg i (by omega)];exact q)
theorem unI{f:Value→Sem Value}{g:Int→Int}
  (rule:∀(i:Int) (t:Tok) (s:Shared) (Q:Value→Shared→Prop) (E:Value→Shared→Prop),Q (.int (g i) s.toks) { s with toks:=s.toks+1 }→wpAny (model X.prog X.w) X.A (f (.int i t)) Q E s) :
  UnR X f (rU fun i=>.int (g i)):=by
 intro pins s σ H x v Q I rx h
 obtain⟨i,rfl,q⟩:=h
 obtain⟨t,rfl⟩:=rx
 exact rule i t s _ _ ⟨.int (g i),H,I.tok _,⟨_,rfl⟩,q⟩
theorem Lf:UnR X (unaryOp .USub) (rU fun i=>.int (-i)):=unI fun _ _ _ _ _ q=>neg_int q
end
def scal:V→V→Bool
 |.non,.non=>true | .non,.int _=>true | .int _,.non=>true | .non,.bl _=>true | .bl _,.non=>true | .non,.str _=>true | .str _,.non=>true
 |.int _,.int _=>true | .bl _,.bl _=>true | .str _,.str _=>true | .byt _,.byt _=>true
 |.int _,.str _=>true | .str _,.int _=>true | .bl _,.str _=>true | .str _,.bl _=>true
 |_,_=>false
def rEq:R2:=fun x y H Q=>scal x y=true∧Q (.bl (decide (x=y))) H
def rNe:R2:=fun x y H Q=>scal x y=true∧Q (.bl (!decide (x=y))) H
theorem ZN{i j:Int}:decide (V.int i=V.int j)=(i==j):=by
 rw[Bool.eq_iff_iff]
 simp
theorem GE{i j:Bool}:decide (V.bl i=V.bl j)=(i==j):=by
 rw[Bool.eq_iff_iff]
 simp
theorem ZM{i j:Str}:decide (V.str i=V.str j)=(i==j):=by
 rw[Bool.eq_iff_iff]
 simp
theorem UK{i j:Array UInt8}:decide (V.byt i=V.byt j)=(i.toList==j.toList):=by
 rw[Bool.eq_iff_iff]
 cases i
 cases j
 simp
section
variable{X:Cx}{a b c:Expr}{ta tb tc:TE}{pos:Pos}
theorem yq{pins:List (Addr×Obj)}{σ:St}{H:Hp}{s:Shared}{Q:VK}{k k':Bool}(I:Inv X pins σ H s)(q:Q (.bl k) H)(e:k=k'):EP X pins σ Q (.bool k') s:=by
 subst e
 exact⟨.bl k,H,I,rfl,q⟩
theorem op_eq:OpR X (compareOp .Eq) rEq:=by
 intro pins s σ H x y v u Q I rx ry h
 obtain⟨hs,q⟩:=h
 cases x with
 |non=>
  cases rx
  cases y with
  |non=>cases ry;exact PySem.EqNone.eq_none_none (yq I q (by simp))
  |bl j=>cases ry;exact PySem.EqNone.eq_none_bool (yq I q (by simp))
  |int j=>obtain⟨t',rfl⟩:=ry;exact PySem.EqNone.eq_none_int (yq I q (by simp))
  |str j=>obtain⟨t',rfl⟩:=ry;exact PySem.EqNone.eq_none_str (yq I q (by simp))
  |_=>exact absurd (show false=true from hs) Bool.false_ne_true
 |bl i=>
  cases rx
  cases y with
  |non=>cases ry;exact PySem.EqNone.eq_bool_none (yq I q (by simp))
  |bl j=>cases ry;exact eq_bool (yq I q GE)
  |str j=>obtain⟨t',rfl⟩:=ry;exact PySem.EqMixed.eq_bool_str (yq I q (by simp))
  |_=>exact absurd (show false=true from hs) Bool.false_ne_true
 |int i=>
  obtain⟨t,rfl⟩:=rx
  cases y with
  |non=>cases ry;exact PySem.EqNone.eq_int_none (yq I q (by simp))
  |int j=>obtain⟨t',rfl⟩:=ry;exact eq_int (yq I q ZN)
  |str j=>obtain⟨t',rfl⟩:=ry;exact PySem.EqMixed.eq_int_str (yq I q (by simp))
  |_=>exact absurd (show false=true from hs) Bool.false_ne_true
 |str i=>
  obtain⟨t,rfl⟩:=rx
  cases y with
  |non=>cases ry;exact PySem.EqNone.eq_str_none (yq I q (by simp))
  |bl j=>cases ry;exact PySem.EqMixed.eq_str_bool (yq I q (by simp))
  |int j=>obtain⟨t',rfl⟩:=ry;exact PySem.EqMixed.eq_str_int (yq I q (by simp))
  |str j=>obtain⟨t',rfl⟩:=ry;exact eq_str (yq I q ZM)
  |_=>exact absurd (show false=true from hs) Bool.false_ne_true
 |byt i=>
  obtain⟨t,rfl⟩:=rx
  cases y with
  |byt j=>obtain⟨t',rfl⟩:=ry;exact PySem.W.eq_bytes (yq I q UK)
  |_=>exact absurd (show false=true from hs) Bool.false_ne_true
 |_=>cases y <;> exact absurd (show false=true from hs) Bool.false_ne_true
theorem op_ne:OpR X (compareOp .NotEq) rNe:=by
 intro pins s σ H x y v u Q I rx ry h
 obtain⟨hs,q⟩:=h
 cases x with
 |non=>
  cases rx
  cases y with
  |non=>cases ry;exact PySem.EqNone.ne_none_none (yq I q (by simp))
  |bl j=>cases ry;exact PySem.EqNone.ne_none_bool (yq I q (by simp))
  |int j=>obtain⟨t',rfl⟩:=ry;exact PySem.EqNone.ne_none_int (yq I q (by simp))
  |str j=>obtain⟨t',rfl⟩:=ry;exact PySem.EqNone.ne_none_str (yq I q (by simp))
  |_=>exact absurd (show false=true from hs) Bool.false_ne_true
 |bl i=>
  cases rx
  cases y with
  |non=>cases ry;exact PySem.EqNone.ne_bool_none (yq I q (by simp))
  |bl j=>cases ry;exact ne_bool (yq I q (congrArg not GE))
  |str j=>obtain⟨t',rfl⟩:=ry;exact PySem.EqMixed.ne_bool_str (yq I q (by simp))
  |_=>exact absurd (show false=true from hs) Bool.false_ne_true
 |int i=>
  obtain⟨t,rfl⟩:=rx
  cases y with
  |non=>cases ry;exact PySem.EqNone.ne_int_none (yq I q (by simp))
  |int j=>obtain⟨t',rfl⟩:=ry;exact ne_int (yq I q (congrArg not ZN))
  |str j=>obtain⟨t',rfl⟩:=ry;exact PySem.EqMixed.ne_int_str (yq I q (by simp))
  |_=>exact absurd (show false=true from hs) Bool.false_ne_true
 |str i=>
  obtain⟨t,rfl⟩:=rx
  cases y with
  |non=>cases ry;exact PySem.EqNone.ne_str_none (yq I q (by simp))
  |bl j=>cases ry;exact PySem.EqMixed.ne_str_bool (yq I q (by simp))
  |int j=>obtain⟨t',rfl⟩:=ry;exact PySem.EqMixed.ne_str_int (yq I q (by simp))
  |str j=>obtain⟨t',rfl⟩:=ry;exact ne_str (yq I q (congrArg not ZM))
  |_=>exact absurd (show false=true from hs) Bool.false_ne_true
 |byt i=>
  obtain⟨t,rfl⟩:=rx
  cases y with
  |byt j=>obtain⟨t',rfl⟩:=ry;exact PySem.W.ne_bytes (yq I q (congrArg not UK))
  |_=>exact absurd (show false=true from hs) Bool.false_ne_true
 |_=>cases y <;> exact absurd (show false=true from hs) Bool.false_ne_true
theorem op_lt:OpR X (compareOp .Lt) (rI0 fun i j=>.bl (decide (i<j))):=MO fun _ _ _ _ _ _ _ q=>lt_int q
theorem op_le:OpR X (compareOp .LtE) (rI0 fun i j=>.bl (decide (i≤j))):=MO fun _ _ _ _ _ _ _ q=>le_int q
theorem op_gt:OpR X (compareOp .Gt) (rI0 fun i j=>.bl (decide (j<i))):=MO fun _ _ _ _ _ _ _ q=>gt_int q
theorem op_ge:OpR X (compareOp .GtE) (rI0 fun i j=>.bl (decide (j≤i))):=MO fun _ _ _ _ _ _ _ q=>ge_int q
theorem op_in_str:OpR X (compareOp .In) (fun x y H Q=>∃i j,x=.str i∧y=.str j∧Q (.bl (!(Builtin.Str.occurrences j i 0 j.length 1).isEmpty)) H):=by
 intro pins s σ H x y v u Q I rx ry h
 obtain⟨i,j,rfl,rfl,q⟩:=h
 obtain⟨t,rfl⟩:=rx
 obtain⟨t',rfl⟩:=ry
 exact in_str (yq I q rfl)
theorem LR:OpR X (compareOp .Is) (fun x y H Q=>y=.non∧Q (.bl (decide (x=.non))) H):=by
 intro pins s σ H x y v u Q I rx ry h
 obtain⟨rfl,q⟩:=h
 cases ry
 refine is_none_gen (yq I q ?_)
 cases x <;> first
  | (cases rx;rfl)
  | (obtain⟨t,rfl⟩:=rx;rfl)
theorem MM:OpR X (compareOp .IsNot) (fun x y H Q=>y=.non∧Q (.bl (!decide (x=.non))) H):=by
 intro pins s σ H x y v u Q I rx ry h
 obtain⟨rfl,q⟩:=h
 cases ry
 refine isnot_none_gen (yq I q ?_)
 cases x <;> first
  | (cases rx;rfl)
  | (obtain⟨t,rfl⟩:=rx;rfl)
theorem OpR.or{f:Value→Value→Sem Value}{r r':R2}(h:OpR X f r)(h':OpR X f r'):OpR X f (fun x y H Q=>r x y H Q∨r' x y H Q):=by
 intro pins s σ H x y v u Q I rx ry q
 rcases q with q|q
 ·exact h pins s σ H x y v u Q I rx ry q
 ·exact h' pins s σ H x y v u Q I rx ry q
theorem yh(b:Expr){op:CmpOp}(h:op≠.In:=by decide)(h2:op≠.NotIn:=by decide):behindInMarks op b=false:=by
 have e1:(op==CmpOp.In)=false:=by cases op <;> first|rfl|exact absurd rfl h
 have e2:(op==CmpOp.NotIn)=false:=by cases op <;> first|rfl|exact absurd rfl h2
 cases b <;> simp[behindInMarks,e1,e2]
theorem MC{op:CmpOp}{r:R2}(ho:OpR X (compareOp op) r)(ha:PE X a ta)(hb:PE X b tb)(hm:behindInMarks op b=false):PE X (.Compare a [op] [b] pos) (tOp r ta tb):=by
 intro pins s σ H Q I h
 exact wpAny_Compare1 (zc3 ha hb I h fun v u s2 x y H2 I2 rx ry q=>ho pins s2 σ H2 x y v u Q I2 rx ry q) hm
def J5(t:TE):TT:=fun σ H Q=>t σ H fun x H'=>∃k,x=.bl k∧Q k H'
theorem Mr{op:CmpOp}{r:R2}(ho:OpR X (compareOp op) r)(ha:PE X a ta)(hb:PE X b tb)(hm:behindInMarks op b=false):PT X (.Compare a [op] [b] pos) (J5 (tOp r ta tb)):=by
 intro pins s σ H Q I h
 refine wpAny_isTrue_Compare1 (thn (ha pins s σ H _ I h) fun v s1 ⟨x,H1,I1,r1,q1⟩=>thn (hb pins s1 σ H1 _ I1 q1) fun u s2 ⟨y,H2,I2,r2,q2⟩=>
  thn (ho pins s2 σ H2 x y v u _ I2 r1 r2 q2) fun c s3 ⟨z,H3,I3,r3,k,e,q3⟩=>?_) hm
 subst e
 cases r3
 exact wpAny_truthy_bool ⟨H3,I3,q3⟩
def J7(r r':R2)(ta tb tc:TE):TE:=fun σ H Q=>ta σ H fun x H1=>tb σ H1 fun y H2=>r x y H2 fun z H3=>∃k,z=.bl k ∧
 (if k=true then tc σ H3 fun w' H4=>r' y w' H4 Q else Q (.bl false) H3)
theorem Qt{op op':CmpOp}{r r':R2}(ho:OpR X (compareOp op) r)(ho':OpR X (compareOp op') r')(ha:PE X a ta)(hb:PE X b tb)(hc:PE X c tc)
  (hm:lastMarks [op,op'] [b,c]=false:=by with_unfolding_all rfl):PT X (.Compare a [op,op'] [b,c] pos) (J5 (J7 r r' ta tb tc)):=by
 intro pins s σ H Q I h
 refine isTrue_chain (thn (ha pins s σ H _ I h) fun v s1 ⟨x,H1,I1,r1,q1⟩=>test_link (thn (hb pins s1 σ H1 _ I1 q1) fun u s2 ⟨y,H2,I2,r2,q2⟩=>
  thn (ho pins s2 σ H2 x y v u _ I2 r1 r2 q2) fun d s3 ⟨z,H3,I3,r3,k,e,q3⟩=>?_)) hm
 subst e
 cases r3
 refine wpAny_truthy_bool ?_
 cases k with
 |false=>
  obtain⟨k',e',q'⟩:=q3
  cases e'
  exact ite_ff ⟨H3,I3,q'⟩
 |true=>
  refine ite_tt (test_last (thn (hc pins s3 σ H3 _ I3 q3) fun w' s4 ⟨z',H4,I4,r4,q4⟩=>thn (ho' pins s4 σ H4 y z' u w' _ I4 r2 r4 q4) fun d' s5 ⟨z2,H5,I5,r5,k2,e2,q5⟩=>?_))
  subst e2
  cases r5
  exact wpAny_truthy_bool ⟨H5,I5,q5⟩
def zc8(K:PySem.W.Frag)(x:V)(H:Hp)(k:Bool):Prop:=
 match x with
 |.non=>k=false
 |.bl b=>k=b
 |.int i=>k=(i != 0)
 |.str y=>y.length≤sizeLine∧k=((y.length:Int) != 0)
 |.byt y=>y.size≤sizeLine∧k=((y.size:Int) != 0)
 |.ref p=>(∃xs,SqL K H p xs∧k = !xs.isEmpty)∨(∃xs,SqT K H p xs∧k = !xs.isEmpty)∨∃kvs,H p=some (.dK kvs)∧k = !kvs.isEmpty
 |_=>False
theorem VJ{κ:Type}{kvs:List (κ×V)}{vs:List (κ×Value)}(r:KV kvs vs):(!vs.isEmpty) = !kvs.isEmpty:=by
 cases r <;> rfl
theorem Yi{xs:List V}{its:List Value}(r:Vals xs its):(!its.toArray.isEmpty) = !xs.isEmpty:=by
 cases r <;> simp
theorem jo:(sizeLine:Nat)<2 ^ 63:=by rw[sizeLine_eq];decide
theorem tru_ok:TruR X (fun x H Q=>∃k,zc8 X.K x H k∧Q k H):=by
 intro pins s σ H x v Q I rx h
 obtain⟨k,e,q⟩:=h
 have hl:=jo
 have hs:sizeLine=16777216:=sizeLine_eq
 cases x with
 |non=>
  cases rx
  have e':k=false:=e
  subst e'
  exact truthy_none ⟨H,I,q⟩
 |bl b=>
  cases rx
  have e':k=b:=e
  subst e'
  exact wpAny_truthy_bool ⟨H,I,q⟩
 |int i=>
  obtain⟨t,rfl⟩:=rx
  have e':k=(i != 0):=e
  subst e'
  exact PySem.P.truthy_int ⟨H,I,q⟩
 |str y=>
  obtain⟨t,rfl⟩:=rx
  obtain⟨hy,e'⟩:y.length≤sizeLine∧k=((y.length:Int) != 0):=e
  subst e'
  exact PySem.P.truthy_str (by omega) ⟨H,I.tok _,q⟩
 |byt y=>
  obtain⟨t,rfl⟩:=rx
  obtain⟨hy,e'⟩:y.size≤sizeLine∧k=((y.size:Int) != 0):=e
  subst e'
  exact PySem.W.truthy_bytes (by omega) ⟨H,I.tok _,q⟩
 |ref p=>
  cases rx
  have e':(∃xs,SqL X.K H p xs∧k = !xs.isEmpty)∨(∃xs,SqT X.K H p xs∧k = !xs.isEmpty)∨∃kvs,H p=some (.dK kvs)∧k = !kvs.isEmpty:=e
  rcases e' with ⟨xs,hx,e'⟩|⟨xs,hx,e'⟩|⟨kvs,hx,e'⟩
  ·subst e'
   obtain⟨its,r,pl,hz⟩:=I.list hx
   have hlen:=r.length
   exact wpAny_truthy_list pl.isList (by simp only[size_toArray];omega) ⟨H,I.tok _,by rw[Yi r];exact q⟩
  ·subst e'
   obtain⟨its,r,pl,hz⟩:=I.tuple hx
   have hlen:=r.length
   exact truthy_tuple pl (by simp only[size_toArray];omega) ⟨H,I.tok _,by rw[Yi r];exact q⟩
  ·subst e'
   obtain⟨hz,hS,vs,r,m⟩:kvs.length≤sizeLine∧(p==sysModules)=false∧∃vs,KV kvs vs∧s.heap.DictOf (xI X.prog X.w) p vs:=I.hok p _ hx
   have hlen:kvs.length=vs.length:=Paired.length r
   exact wpAny_truthy_dict hS m (by omega) ⟨H,I.tok _,by rw[VJ r];exact q⟩
 |_=>exact(show False from e).elim
theorem Qs(ha:PE X a ta)(he:∀whole,isTrue a X.env whole=(do let v ← whole;standAt a.pos;holding [v] (truthy v))) :
  PT X a (fun σ H Q=>ta σ H fun x H'=>∃k,zc8 X.K x H' k∧Q k H'):=by
 intro pins s σ H Q I h
 exact isTrue_plain (thn (ha pins s σ H _ I h) fun v s1 ⟨x,H1,I1,r1,q1⟩=>tru_ok pins s1 σ H1 x v Q I1 r1 q1) (he _)
theorem op_add_str:OpR X (binaryOp .Add) (fun x y H Q=>∃i j,x=.str i∧y=.str j∧i.length+j.length≤sizeLine∧Q (.str (i++j)) H):=by
 intro pins s σ H x y v u Q I rx ry h
 obtain⟨i,j,rfl,rfl,hz,q⟩:=h
 obtain⟨t,rfl⟩:=rx
 obtain⟨t',rfl⟩:=ry
 exact add_str (fun t' tk=>⟨.str (i++j),H,I.tok _,⟨_,rfl⟩,q⟩) hz
theorem vals1{x:V}{us:List Value}(r:Vals [x] us):∃u,us=[u]∧RelV x u:=by
 cases r with
 |cons r1 r2=>cases r2;exact⟨_,rfl,r1⟩
theorem vals2{x y:V}{us:List Value}(r:Vals [x,y] us):∃u w',us=[u,w']∧RelV x u∧RelV y w':=by
 cases r with
 |cons r1 r2=>
  cases r2 with
  |cons r3 r4=>cases r4;exact⟨_,_,rfl,r1,r3⟩
theorem JL(hc:X.calm=true):CallR X (.builtin "max") (fun xs H Q=>∃i j,xs=[.int i,.int j]∧Q (.int (if j > i then j else i)) H):=by
 intro pins s σ H xs us Q I r h
 obtain⟨i,j,rfl,q⟩:=h
 obtain⟨u,w',rfl,⟨t,rfl⟩,⟨t',rfl⟩⟩:=vals2 r
 refine max_two_ints (I.ok.hd hc) fun h' tk k=>⟨_,H,I.kept k,?_,q⟩
 by_cases hj:j > i
 ·rw[if_pos hj,if_pos hj];exact⟨_,rfl⟩
 ·rw[if_neg hj,if_neg hj];exact⟨_,rfl⟩
theorem JK(hc:X.calm=true):CallR X (.builtin "min") (fun xs H Q=>∃i j,xs=[.int i,.int j]∧Q (.int (if j<i then j else i)) H):=by
 intro pins s σ H xs us Q I r h
 obtain⟨i,j,rfl,q⟩:=h
 obtain⟨u,w',rfl,⟨t,rfl⟩,⟨t',rfl⟩⟩:=vals2 r
 refine min_two_ints (I.ok.hd hc) fun h' tk k=>⟨_,H,I.kept k,?_,q⟩
 by_cases hj:j<i
 ·rw[if_pos hj,if_pos hj];exact⟨_,rfl⟩
 ·rw[if_neg hj,if_neg hj];exact⟨_,rfl⟩
end
section
variable{prog:Program}{w:World}{A:Around}{E:Value→Shared→Prop}{s:Shared}{K:PySem.W.Frag}{x dx C f:Addr}{mA:Str→Option Value}{name:Str}{v:Value}
end
section
variable{P:Program}{w:World}{H H':Hp}{h h':Heap}{a C dx:Addr}{fs fs':List (Str×V)}
end
section
variable{X:Cx}{pins:List (Addr×Obj)}{σ:St}{H:Hp}{s:Shared}{a C dx:Addr}{fs:List (Str×V)}{f:Str}{v:V}{A:Around}{E:Value→Shared→Prop}
end
section
variable{X:Cx}{o e value:Expr}{f:Str}{pos pos' tpos:Pos}{ta tv:TE}
end
section
variable{X:Cx}{pins:List (Addr×Obj)}{σ:St}{H:Hp}{s:Shared}{A:Around}{E:Value→Shared→Prop}{Q:Value→Shared→Prop}{c:Value}{b:Bool}
end
structure Room(k:Nat)(A:Around):Prop where
 hd:A.handled=none
 dp:A.depth+3*k+5<recursionLimit
 un:A.units+16*k+200<cLine
theorem Room.mono{j k:Nat}{A:Around}(r:Room k A)(h:j≤k):Room j A:=⟨r.hd,by have:=r.dp;omega,by have:=r.un;omega⟩
theorem Room.deeper{k:Nat}{A:Around}(r:Room (k+1) A)(env:Env):Room k (A.deeper env):=
 ⟨r.hd,by have:=r.dp;show A.depth+1+3*k+5<_;omega,by have:=r.un;show A.units+3+16*k+200<_;omega⟩
theorem Room.in1{k:Nat}{A:Around}(r:Room (k+1) A):Room k A.in1:=
 ⟨r.hd,by have:=r.dp;show A.depth+3*k+5<_;omega,by have:=r.un;show A.units+1+16*k+200<_;omega⟩
theorem Room.depth{k:Nat}{A:Around}(r:Room k A):A.depth<recursionLimit:=by have:=r.dp;omega
theorem Room.units{k:Nat}{A:Around}(r:Room k A):A.units+64<cLine:=by have:=r.un;omega
def tNil:TA:=fun _ H Q=>Q [] H
def tCons(ta:TE)(tr:TA):TA:=fun σ H Q=>ta σ H fun x H1=>tr σ H1 fun xs H2=>Q (x::xs) H2
section
variable{X:Cx}{e:Expr}{es:List Expr}{te:TE}{t:TA}{pos:Pos}
theorem XW:PA X [] tNil:=fun _ _ _ _ H Q I h=>Calls.spliced_nil ⟨[],H,I,.nil,h⟩
theorem ZF(ha:PE X e te)(hr:PA X es t)(hs:starEach (e::es) X.env=(false,eval e X.env)::starEach es X.env:=by rfl):PA X (e::es) (tCons te t):=by
 intro pos pins s σ H Q I h
 rw[hs]
 show wpAny _ _ (spliced ((false,eval e X.env)::backTo pos (starEach es X.env))) _ _ s
 refine Calls.spliced_cons (thn (ha pins s σ H _ I h) fun u s1 ⟨x,H1,I1,r1,q1⟩=>?_)
 exact thn (hr pos pins s1 σ H1 _ I1 q1) fun us s2 ⟨xs,H2,I2,r2,q2⟩=>⟨x::xs,H2,I2,.cons r1 r2,q2⟩
def tTup(t:TA):TE:=fun σ H Q=>t σ H fun xs H1=>xs.length≤sizeLine∧∀p,H1 p=none→Q (.ref p) (upd H1 p (.tup xs))
def tLst(t:TA):TE:=fun σ H Q=>t σ H fun xs H1=>xs.length≤sizeLine∧∀p,H1 p=none→Q (.ref p) (upd H1 p (.lst xs))
theorem LG{x1}(h:PA X es t):PE X (.Tuple es x1 pos) (tTup t):=by
 intro pins s σ H Q I hq
 refine wpAny_Tuple_spliced (thn (h pos pins s σ H _ I hq) fun us s1 ⟨xs,H1,I1,r,z,q⟩=>⟨by rw[← r.length];exact z,?_⟩)
 have hf:H1 s1.heap.objs.size=none:=I1.hok.fresh (le_refl _)
 refine⟨.ref s1.heap.objs.size,upd H1 s1.heap.objs.size (.tup xs),I1.laid (t':=s1.toks) (fun b u e=>Heap.get?_push_of_some _ e) (le_refl _) ?_,rfl,q _ hf⟩
 exact⟨z,us,r,⟨_,Heap.get?_push_size _ rfl,rfl,_,rfl⟩⟩
theorem Qz(h:PA X es t):PE X (.List es pos) (tLst t):=by
 intro pins s σ H Q I hq
 refine wpAny_List_spliced (thn (h pos pins s σ H _ I hq) fun us s1 ⟨xs,H1,I1,r,z,q⟩=>⟨by rw[← r.length];exact z,?_⟩)
 have hf:H1 s1.heap.objs.size=none:=I1.hok.fresh (le_refl _)
 refine⟨.ref s1.heap.objs.size,upd H1 s1.heap.objs.size (.lst xs),I1.laid (t':=s1.toks) (fun b u e=>Heap.get?_push_of_some _ e) (le_refl _) ?_,rfl,q _ hf⟩
 exact⟨z,us,0,r,Heap.get?_push_size _ rfl⟩
end
abbrev Sp:=List V→Hp→VK→XK→Prop
abbrev CXT:=List Env→Hp→Shared→XK→Value→Shared→Prop
structure G1(P:Program)(w:World)(K:PySem.W.Frag)(mg:Str→Option Value)(base:Heap)(A:Around)(outer:List Env)(s:Shared)(H:Hp):Prop where
 frames:A.frames=some outer
 mod:Mod K mg base
 bs:∀b o,base.get? b=some o→s.heap.get? b=some o∧H b=none
 bsz:base.objs.size≤s.heap.objs.size
 funs:s.heap.FunFrames base outer
 frf:∀b∈frs outer,H b=none
 hok:HOk P w H s.heap
 bare:AllBare s.gens
def CE(outer:List Env)(P:Program)(w:World)(H:Hp)(s:Shared)(Q:VK)(u:Value)(s':Shared):Prop:=
 ∃v H',s'.os=s.os∧AllBare s'.gens∧Un (frs outer) [] H H' s.heap s'.heap∧HOk P w H' s'.heap∧RelV v u∧Q v H'
def CR(CX:CXT)(outer:List Env)(P:Program)(w:World)(H:Hp)(s:Shared)(Q:VK)(E:XK)(r:Result)(s':Shared):Prop:=
 match r with
 | .ok (.ret u)=>CE outer P w H s Q u s'
 |.ok _=>False
 |.error e=>CX outer H s E e s'
structure FnOk(P:Program)(w:World)(K:PySem.W.Frag)(mg:Str→Option Value)(base:Heap)(CX:CXT)(k:Nat)(f:Addr)(fd:FuncData)(ps:List Str)(sp:Sp):Prop where
 len:∀vs H Q E,sp vs H Q E→vs.length=ps.length
 run:∀(A:Around) (outer:List Env) (s:Shared) (H:Hp) (args:Args) (us:List Value) (vs:List V) (Q:VK) (E:XK),Room k A→G1 P w K mg base A outer s H→BindsTo s fd args (ps.zip us)→Vals vs us→sp vs H Q E →
  codeAny (model P w) A (.call (.ref f) args) (CR CX outer P w H s Q E) s
theorem FnOk.imp{P:Program}{w:World}{K:PySem.W.Frag}{mg:Str→Option Value}{base:Heap}{CX:CXT}{k:Nat}{f:Addr}{fd:FuncData}{ps:List Str}{sp sp':Sp}(F:FnOk P w K mg base CX k f fd ps sp)
  (h:∀vs H Q E,sp' vs H Q E→sp vs H Q E):FnOk P w K mg base CX k f fd ps sp':=
 ⟨fun vs H Q E q=>F.len vs H Q E (h _ _ _ _ q),fun A outer s H args us vs Q E hr he hb hv hs=>F.run A outer s H args us vs Q E hr he hb hv (h _ _ _ _ hs)⟩
section
variable{X:Cx}{pins:List (Addr×Obj)}{σ:St}{H:Hp}{s s':Shared}
theorem Inv.env0(I:Inv X pins σ H s):G1 X.prog X.w X.K X.mg X.base X.A X.stack s H:=
 ⟨I.ok.frames,I.ok.mod,I.bs,le_trans I.ok.bsz I.sz,I.stack,I.stkFree,I.hok,I.bare⟩
theorem Inv.after{Q:VK}{u:Value}(I:Inv X pins σ H s)(h:CE X.stack X.prog X.w H s Q u s'):EP X pins σ Q u s':=by
 obtain⟨v,H',os,bare,un,hok,r,q⟩:=h
 obtain⟨hh,g,d,t,os'⟩:=s'
 obtain rfl:os'=s.os:=os
 exact⟨v,H',I.call (h':=hh) (g':=g) (d':=d) (t':=t) (ch:=[]) un hok bare (fun b z=>absurd z (by simp)),r,q⟩
end
def tCall(sp:Sp)(dvs:List V)(E:XK)(t:TA):TE:=fun σ H Q=>t σ H fun vs H1=>sp (vs++dvs) H1 Q E
def Binds(K:PySem.W.Frag)(fd:FuncData)(ps:List Str)(ds:List Value):Prop:=
 ∀(s:Shared) (us:List Value),K.In s.heap→(us++ds).length=ps.length→BindsTo s fd ⟨us,[]⟩ (ps.zip (us++ds))
theorem Binds.all{K:PySem.W.Frag}{fd:FuncData}{ps:List Str}(h:∀us:List Value,us.length=ps.length→bindArgs fd ⟨us,[]⟩=pure (ps.zip us)):Binds K fd ps []:=fun s us _ hl=>by
 rw[append_nil] at hl ⊢
 exact .of_eq (h us hl)
def V2(CX:CXT)(X:Cx)(E:XK):Prop:=∀(pins:List (Addr×Obj)) (σ:St) (H:Hp) (s:Shared) (e:Value) (s':Shared),Inv X pins σ H s→CX X.stack H s E e s'→X.xe e s'
section
variable{X:Cx}{CX:CXT}{k:Nat}{f C:Addr}{fd:FuncData}{ps:List Str}{sp:Sp}{dvs:List V}{ds:List Value}{E:XK}{x m:Str}{p pos apos:Pos}{e o:Expr}{es:List Expr}{ta:TE}{t:TA}
theorem Lp{pins:List (Addr×Obj)}{σ:St}{H:Hp}{s:Shared}{Q:VK}{us:List Value}{vs:List V}(F:FnOk X.prog X.w X.K X.mg X.base CX k f fd ps sp)(hr:Room k X.A)(hb:Binds X.K fd ps ds)(hd:Vals dvs ds)(hx:V2 CX X E)
  (I:Inv X pins σ H s) (r:Vals vs us) (h:sp (vs++dvs) H Q E):wpAny (model X.prog X.w) X.A (call (.ref f) us) (EP X pins σ Q) X.xe s:=by
 have r2:Vals (vs++dvs) (us++ds):=r.append hd
 have hl:(us++ds).length=ps.length:=by rw[← r2.length];exact F.len _ _ _ _ h
 refine wpAny_call (codeAny_mono (F.run X.A X.stack s H ⟨us,[]⟩ (us++ds) (vs++dvs) Q E hr I.env0 (hb s us I.kIn hl) r2 h) fun r s' hq=>?_)
 cases r with
 |error e=>exact hx pins σ H s e s' I hq
 |ok fl=>
  cases fl with
  |ret u=>exact I.after hq
  |next=>exact False.elim hq
  |brk=>exact False.elim hq
  |cont=>exact False.elim hq
theorem MD(F:FnOk X.prog X.w X.K X.mg X.base CX k f fd ps sp)(hr:Room k X.A)(hg:Gl X x)(hm:X.mg x=some (.ref f))(hk:keepIn X.K (.ref f)=true)(hb:Binds X.K fd ps ds)(hd:Vals dvs ds)(hx:V2 CX X E)
  (ha:PA X (e::es) t) (hdb:(x==("__debug__" : Str))=false:=by decide) (he:starEach (e::es) X.env=(false,eval e X.env)::starEach es X.env:=by rfl) (hpl:(backTo pos (starEach es X.env)).any (·.1)=false:=by rfl) :
  PE X (.Call (.Name x p) (e::es) [] pos) (tCall sp dvs E t):=by
 intro pins s σ H Q I h
 refine wpAny_Call_Name_kw (Uu I hg hm ?_ hdb)
 refine PySem.W.callWith_K (h₀:=X.base) I.ok.mod.kin hk (thn (ha pos pins s σ H _ I h) fun us s1 ⟨vs,H1,I1,r,q⟩=>⟨I1.kIn,?_⟩) he hpl
 exact Lp F hr hb hd hx I1 r q
end
section
variable{X:Cx}{CX:CXT}{k:Nat}{f C:Addr}{fd:FuncData}{ps ks:List Str}{sp:Sp}{E:XK}{x m:Str}{p pos apos kpos:Pos}{e o:Expr}{es:List Expr}{kws:List Keyword}{te ta:TE}{t tk:TA}{nm:Option Str}
variable{g:List Value→List Value→List Value}{gV:List V→List V→List V}
end
structure zQ(N P:List Str)(sc:Scope):Prop where
 kind:sc.kind=.function
 co:sc.isCoroutine=false
 gen:sc.isGenerator=false
 nd:N.Nodup
 pre:N.take P.length=P
 par:∀x∈P,sc.names.lookup x=some .local∨sc.names.lookup x=some .cell
 nofree:∀y∈sc.names,y.2≠.free
theorem Xw{kindOf:Str→Option NameKind}{x:Str}:∀{binds:List (Str×Value)} {m:Str→Option Value},(∀v,(x,v)∉binds)→bindL kindOf binds m x=m x
 |[],_,_=>rfl
 | (n,v)::r,m,h=>by
  unfold bindL
  rw[Xw fun w hw=>h w (mem_cons_of_mem _ hw)]
  split
  ·have:x≠n:=by rintro rfl;exact h v mem_cons_self
   simp[this]
  ·rfl
theorem Xy{kindOf:Str→Option NameKind}{x:Str}:∀{binds:List (Str×Value)} {m:Str→Option Value},(∀v,(x,v)∉binds)→bindC kindOf binds m x=m x
 |[],_,_=>rfl
 | (n,v)::r,m,h=>by
  unfold bindC
  rw[Xy fun w hw=>h w (mem_cons_of_mem _ hw)]
  split
  ·rfl
  ·have:x≠n:=by rintro rfl;exact h v mem_cons_self
   simp[this]
theorem Xx{kindOf:Str→Option NameKind}{x:Str}{v:Value}:∀{P:List Str} {vs:List Value} {i:Nat} {m:Str→Option Value},P.Nodup→P[i]?=some x→vs[i]?=some v→kindOf x=some .local →
  bindL kindOf (P.zip vs) m x=some v
 |[],_,_,_,_,h,_,_=>by simp at h
 |_::_,[],_,_,_,_,h,_=>by simp at h
 |p::P,w::vs,0,m,nd,h1,h2,hk=>by
  simp at h1 h2;subst h1;subst h2
  show bindL kindOf ((p,w)::P.zip vs) m p=_
  unfold bindL
  rw[Xw fun v hv=>(nodup_cons.mp nd).1 (List.of_mem_zip hv).1,if_pos hk]
  simp
 |p::P,w::vs,i+1,m,nd,h1,h2,hk=>by
  show bindL kindOf ((p,w)::P.zip vs) m x=_
  unfold bindL
  exact Xx (i:=i) (nodup_cons.mp nd).2 (by simpa using h1) (by simpa using h2) hk
theorem Xz{kindOf:Str→Option NameKind}{x:Str}{v:Value}:∀{P:List Str} {vs:List Value} {i:Nat} {m:Str→Option Value},P.Nodup→P[i]?=some x→vs[i]?=some v→kindOf x≠some .local →
  bindC kindOf (P.zip vs) m x=some v
 |[],_,_,_,_,h,_,_=>by simp at h
 |_::_,[],_,_,_,_,h,_=>by simp at h
 |p::P,w::vs,0,m,nd,h1,h2,hk=>by
  simp at h1 h2;subst h1;subst h2
  show bindC kindOf ((p,w)::P.zip vs) m p=_
  unfold bindC
  rw[Xy fun v hv=>(nodup_cons.mp nd).1 (List.of_mem_zip hv).1,if_neg hk]
  simp
 |p::P,w::vs,i+1,m,nd,h1,h2,hk=>by
  show bindC kindOf ((p,w)::P.zip vs) m x=_
  unfold bindC
  exact Xz (i:=i) (nodup_cons.mp nd).2 (by simpa using h1) (by simpa using h2) hk
def start(N:List Str)(vs:List V):St:=vs.map some++List.replicate (N.length-vs.length) none
def Wa(CX:CXT)(P:Program)(w:World)(K:PySem.W.Frag)(mg:Str→Option Value)(base:Heap)(N:List Str)(qual:Str)(scope:Scope)(f:Addr)(cd:Value)(A:Around)(outer:List Env)(s:Shared)(H:Hp)(E:XK):Cx where
 prog:=P
 w:=w
 K:=K
 mg:=mg
 base:=base
 A:=A.deeper (envOfC qual scope s.heap.objs.size f cd)
 N:=N
 s₀:=s
 H₀:=H
 env:=envOfC qual scope s.heap.objs.size f cd
 outer:=outer
 stack:=envOfC qual scope s.heap.objs.size f cd::outer
 ex:=[]
 calm:=true
 fn:=fun _=>true
 pn:=[]
 xe:=fun e s'=>wpAny (model P w) (A.deeper (envOfC qual scope s.heap.objs.size f cd)) (leaving (envOfC qual scope s.heap.objs.size f cd) e) (fun _ s''=>CX outer H s E e s'') (fun e' s''=>CX outer H s E e' s'') s'
theorem Vc{sc:Scope}{n:Nat}{x:Str}(h:sc.names.lookup x=some .cell):∃c,(cellsFrom n sc.names []).lookup x=some c:=by
 have q:=PySem.W.cellsFrom_some sc.names n [] (.inl h)
 exact Option.isSome_iff_exists.mp q
theorem Jz{CX:CXT}{P:Program}{w:World}{K:PySem.W.Frag}{mg:Str→Option Value}{base:Heap}{N ps:List Str}{qual:Str}{scope:Scope}{f:Addr}{cd:Value}{A:Around}{outer:List Env}{s s1:Shared}{H:Hp}{E:XK}{us:List Value}{vs:List V}
  (S:zQ N ps scope) (hd:A.handled=none) (e0:G1 P w K mg base A outer s H) (hl:vs.length=ps.length) (r:Vals vs us)
  (x:InCallC s s.heap.objs.size (bindL (envOfC qual scope s.heap.objs.size f cd).kindOf (ps.zip us) fun _=>none) (cellsFrom (s.heap.objs.size+1) scope.names []) (bindC (envOfC qual scope s.heap.objs.size f cd).kindOf (ps.zip us) fun _=>none) s1) :
  Inv (Wa CX P w K mg base N qual scope f cd A outer s H E) [] (start N vs) H s1:=by
 have hpl:ps.length≤N.length:=by have:=congrArg List.length S.pre;rw[length_take] at this;omega
 obtain⟨h1,tk,rfl,hk⟩:=x.done
 have noA:∀b:Addr,b∉(Wa CX P w K mg base N qual scope f cd A outer s H E).ex:=fun b z=>absurd (show b∈([]:List Addr) from z) (by simp)
 refine⟨⟨e0.mod,S.kind,rfl,rfl,le_refl _,fun y z c h1 h2=>?_,fun y hy=>?_,fun y c _ h=>?_,fun _=>hd,Around.frames_deeper e0.frames,.inr ⟨rfl,rfl⟩,fun b z=>absurd z (noA b),e0.bs,e0.bsz,fun b _ _=>noA b,fun b z=>absurd z (noA b),e0.funs,e0.frf⟩,
  rfl,e0.bare,Un.kept hk,⟨_,x.toInCall.ns,fun i y v h1 h2 h3=>?_⟩,fun y c h=>⟨_,x.cell y c h⟩,e0.hok.fresh (le_refl _),fun y c h=>?_,fun p hp=>absurd (show p∈([]:List (Addr×Obj)) from hp) (by simp),e0.hok.kept hk,?_⟩
 ·exact name_of_addr x.apart (PySem.mem_of_lookup h1) (PySem.mem_of_lookup h2)
 ·have hy:scope.names.lookup y=some .cell∨scope.names.lookup y=some .free:=hy
  rcases hy with hy|hy
  ·exact Vc hy
  ·exact absurd rfl (S.nofree _ (PySem.mem_of_lookup hy))
 ·exact le_of_lt (x.above y c (PySem.mem_of_lookup h))
 ·have hi:i<vs.length:=by
   unfold start at h2
   by_cases hi:i<vs.length
   ·exact hi
   ·rw[getElem?_append_right (by simpa using hi)] at h2
    rw[getElem?_replicate] at h2
    split at h2 <;> cases h2
  have ha:vs[i]?=some v:=by
   unfold start at h2
   rw[getElem?_append_left (by simpa using hi),getElem?_map] at h2
   cases e:vs[i]? with
   |none=>rw[e] at h2;cases h2
   |some a=>rw[e] at h2;cases h2;rfl
  obtain⟨u,hu,rv⟩:=r.get ha
  have hp:ps[i]?=some y:=by
   rw[← S.pre,List.getElem?_take_of_lt (by omega)];exact h1
  have ndP:ps.Nodup:=by rw[← S.pre];exact S.nd.sublist (List.take_sublist _ _)
  refine⟨u,rv,?_⟩
  rcases S.par y (mem_of_getElem? hp) with k|k
  ·exact .inl ⟨k,Xx ndP hp hu k⟩
  ·obtain⟨c,e⟩:=Vc (n:=s.heap.objs.size+1) k
   refine .inr ⟨.inl k,c,e,?_⟩
   have q:=x.cell y c e
   rw[Xz ndP hp hu (by show scope.names.lookup y≠_;rw[k];decide)] at q
   exact q
 ·exact e0.hok.fresh (le_of_lt (x.above y c (PySem.mem_of_lookup h)))
 ·unfold start
  show _=N.length
  rw[length_append,length_map,List.length_replicate]
  omega
theorem T9{CX:CXT}{P:Program}{w:World}{K:PySem.W.Frag}{mg:Str→Option Value}{base:Heap}{k:Nat}{f:Addr}{name qual:Str}{params:Arguments}{body:List Stmt}{scope:Scope}{dV kV doc pm cdv ct oc:Value}{an od:Option Addr}
  {osl:Array (Option Value)} {N ps:List Str} {sp:Sp} (lk:K.lookup f=some ⟨oc,od,.func (fnOf name qual params body scope dV kV doc pm an cdv ct),osl⟩) (hcd:codeIn K cdv qual=true) (S:zQ N ps scope)
  (len:∀vs H Q E,sp vs H Q E→vs.length=ps.length)
  (hbody:∀(A:Around) (outer:List Env) (s:Shared) (H:Hp) (vs:List V) (Q:VK) (E:XK),Room k (A.deeper (envOfC qual scope s.heap.objs.size f cdv))→sp vs H Q E →
   ∃t,PSs (Wa CX P w K mg base N qual scope f cdv A outer s H E) body t∧t { nx:=fun _ H'=>Q .non H',rt:=Q } (start N vs) H) :
  FnOk P w K mg base CX (k+1) f (fnOf name qual params body scope dV kV doc pm an cdv ct) ps sp:=by
 refine⟨len,fun A outer s H args us vs Q E hr e0 hb r hsp=>?_⟩
 have hl:=len _ _ _ _ hsp
 have KX:K.In s.heap:=e0.mod.kin.keeps fun b o e=>(e0.bs b o e).1
 have lim:s.heap.NoLimit:=e0.mod.nolimit.keeps fun b o e=>(e0.bs b o e).1
 have hkind:∀y∈ps.zip us,scope.names.lookup y.1=some .local∨(scope.names.lookup y.1=some .cell∧((cellsFrom (s.heap.objs.size+1) scope.names []).lookup y.1).isSome=true):=fun ⟨n,v⟩ hy=>by
  rcases S.par n (List.of_mem_zip hy).1 with q|q
  ·exact .inl q
  ·exact .inr ⟨q,PySem.W.cellsFrom_some _ _ _ (.inl q)⟩
 refine codeAny_call_function hr.depth (KX _ _ lk) rfl S.co S.gen rfl (PySem.W.codeRec_of KX hcd) (hb _ _ _ _ ?_)
 refine wpAny_newFunctionEnv_cells S.kind hkind fun env he s1 x=>?_
 subst he
 refine⟨lim.keeps x.toInCall.keep,codeAny_func ?_⟩
 obtain⟨t,ht,hq⟩:=hbody A outer s H vs Q E (hr.deeper _) hsp
 have I:Inv (Wa CX P w K mg base N qual scope f cdv A outer s H E) [] (start N vs) H s1:=Jz S hr.hd e0 hl r x
 refine wpAny_mono (ht [] s1 (start N vs) H _ I hq) (fun fl s' hs=>?_) fun e s' hs=>hs
 have fin:∀{σ':St} {H':Hp} {v:V} {u:Value},Inv (Wa CX P w K mg base N qual scope f cdv A outer s H E) [] σ' H' s'→RelV v u→Q v H'→CE outer P w H s Q u s':=
  fun {σ' H' v u} J rv q=>⟨v,H',J.os,J.bare,J.base,J.hok,rv,q⟩
 cases fl with
 |ret u=>
  obtain⟨v,σ',H',J,rv,q⟩:=hs
  exact fin J rv q
 |next=>
  obtain⟨σ',H',J,q⟩:=hs
  exact fin (v:=V.non) (u:=Value.none) J rfl q
 |brk=>
  obtain⟨_,_,_,q⟩:=hs
  exact False.elim q
 |cont=>
  obtain⟨_,_,_,q⟩:=hs
  exact False.elim q
section
variable{X:Cx}{x:Str}{p pos:Pos}{e:Expr}{es:List Expr}{t:TA}{id T:String}{r:List V→Hp→VK→Prop}
def tCB(r:List V→Hp→VK→Prop)(t:TA):TE:=fun σ H Q=>t σ H fun vs H1=>r vs H1 Q
theorem pe_callB(hc:CallR X (.builtin id) r)(hg:Gl X x)(hm:X.mg x=none)(hv:bootBuiltins x=some (.builtin id))(ha:PA X (e::es) t)(hn:x ≠ "__name__" := by decide)(hdb:(x==("__debug__" : Str))=false:=by decide)
  (he:starEach (e::es) X.env=(false,eval e X.env)::starEach es X.env:=by rfl) (hpl:(backTo pos (starEach es X.env)).any (·.1)=false:=by rfl):PE X (.Call (.Name x p) (e::es) [] pos) (tCB r t):=by
 intro pins s σ H Q I h
 refine wpAny_Call_Name_kw (ua I hg hm hv ?_ hn hdb)
 exact PyProof.Rows.callWith_builtin1 (thn (ha pos pins s σ H _ I h) fun us s1 ⟨vs,H1,I1,r1,q1⟩=>hc pins s1 σ H1 vs us Q I1 r1 q1) he hpl
end
end L2
namespace HT
open PySem PyProof.Rows
section
open PySem.SeqAt
open PySem.AutoSeq1 (wpAny_loadPart')
open PySem.MeetsSeq PySem.MeetsSeq2 PySem.MeetsSeq3
end
section
variable{prog:Program}{w:World}{A:Around}{E:Value→Shared→Prop}{s:Shared}
def sIx(n d:Nat):Option Int→Nat
 |none=>d
 |some v=>if v<0 then (v+(n:Int)).toNat else min v.toNat n
end
end HT
namespace L2
open PySem PySem.Spec PyProof.Rows
abbrev TO:=St→Hp→(Option Int→Hp→Prop)→Prop
def PO(X:Cx)(e:Option Expr)(t:TO):Prop:=
 ∀(pins:List (Addr×Obj)) (s:Shared) (σ:St) (H:Hp) (Q:Option Int→Hp→Prop),Inv X pins σ H s→t σ H Q →
  wpAny (model X.prog X.w) X.A (evalPart e X.env) (fun u s'=>∃o H',Inv X pins σ H' s'∧IsPart u o∧Q o H') X.xe s
def G6:TO:=fun _ H Q=>Q none H
def tPart(t:TE):TO:=fun σ H Q=>t σ H fun x H1=>∃i,x=.int i∧Q (some i) H1
section
variable{X:Cx}{e:Expr}{te:TE}{lo hi:Option Expr}{tl th:TO}{pos p2:Pos}
theorem Mx:PO X none G6:=by
 intro pins s σ H Q I h
 rw[evalPart_none]
 exact wpAny_pure ⟨none,H,I,.none,h⟩
theorem Mw(h:PE X e te):PO X (some e) (tPart te):=by
 intro pins s σ H Q I hw
 rw[evalPart_some]
 refine thn (h pins s σ H _ I hw) fun u s1 ⟨x,H1,I1,r1,q1⟩=>?_
 obtain⟨i,rfl,q⟩:=q1
 obtain⟨t,rfl⟩:=r1
 exact⟨some i,H1,I1,.int i t,q⟩
def SlR(X:Cx)(r:V→Option Int→Option Int→Hp→VK→Prop):Prop:=
 ∀(pins:List (Addr×Obj)) (s:Shared) (σ:St) (H:Hp) (x:V) (v vl vu:Value) (lo hi:Option Int) (sl:Addr) (Q:VK),Inv X pins σ H s→RelV x v→s.heap.IsSliceOf sl vl vu .none→IsPart vl lo→IsPart vu hi→r x lo hi H Q →
  ∃T id,typeLookup (.type T) "__getitem__" = pure (some (.builtin id))∧s.TypeIs v T∧wpAny (model X.prog X.w) X.A (getItem v (.ref sl)) (EP X pins σ Q) X.xe s
theorem SlR.or{r r':V→Option Int→Option Int→Hp→VK→Prop}(h:SlR X r)(h':SlR X r'):SlR X (fun x lo hi H Q=>r x lo hi H Q∨r' x lo hi H Q):=by
 intro pins s σ H x v vl vu lo hi sl Q I rx hs pl pu q
 rcases q with q|q
 ·exact h pins s σ H x v vl vu lo hi sl Q I rx hs pl pu q
 ·exact h' pins s σ H x v vl vu lo hi sl Q I rx hs pl pu q
def tSl(r:V→Option Int→Option Int→Hp→VK→Prop)(te:TE)(tl th:TO):TE:=fun σ H Q=>te σ H fun x H1=>tl σ H1 fun l H2=>th σ H2 fun u H3=>r x l u H3 Q
theorem Qy{r:V→Option Int→Option Int→Hp→VK→Prop}(hr:SlR X r)(he:PE X e te)(hl:PO X lo tl)(hu:PO X hi th):PE X (.Subscript e (.Slice lo hi none p2) pos) (tSl r te tl th):=by
 intro pins s σ H Q I h
 refine Subscript_ (thn (he pins s σ H _ I h) fun v s1 ⟨x,H1,I1,r1,q1⟩=>?_)
 refine wpAny_Slice (thn (hl pins s1 σ H1 _ I1 q1) fun vl s2 ⟨l,H2,I2,pl,q2⟩=>thn (hu pins s2 σ H2 _ I2 q2) fun vu s3 ⟨u,H3,I3,pu,q3⟩=>?_)
 rw[evalPart_none]
 refine wpAny_pure ?_
 have I4:Inv X pins σ H3 { s3 with heap:=s3.heap.push { cls:=.type "slice", data:=.fields #[vl,vu,.none] } }:=I3.kept (t':=s3.toks) fun b ob q=>Heap.get?_push_of_some _ q
 obtain⟨T,id,hT,ht,hg⟩:=hr pins { s3 with heap:=s3.heap.push { cls:=.type "slice", data:=.fields #[vl,vu,.none] } } σ H3 x v vl vu l u s3.heap.objs.size Q I4 r1 (Heap.IsSliceOf.new ..) pl pu q3
 show wpAny (model X.prog X.w) X.A (subscriptTail e (.Slice lo hi none p2) v (.ref s3.heap.objs.size)) (EP X pins σ Q) X.xe { s3 with heap:=s3.heap.push { cls:=.type "slice", data:=.fields #[vl,vu,.none] } }
 exact tail_any (ops:=[.ref s3.heap.objs.size,v]) ht hT hg (by with_unfolding_all rfl)
def JH(xs:List V)(lo hi:Option Int):List V:=(xs.drop (HT.sIx xs.length 0 lo)).take (HT.sIx xs.length xs.length hi-HT.sIx xs.length 0 lo)
theorem Va(xs:List V)(lo hi:Option Int):(JH xs lo hi).length≤xs.length:=by
 unfold JH
 rw[length_take,length_drop]
 omega
end
def ixN(n:Nat)(i:Int):Option Nat:=if 0≤i then (if i<n then some i.toNat else none) else if -(n:Int)≤i then some (i+n).toNat else none
def atI{α:Type}(xs:List α)(i:Int):Option α:=(ixN xs.length i).bind fun j=>xs[j]?
theorem Uw{n:Nat}{i:Int}{j:Nat}(h:ixN n i=some j):seqIndex? i n=some j∧j<n∧-(n:Int)≤i∧i<n:=by
 unfold ixN at h
 by_cases h0:0≤i
 ·rw[if_pos h0] at h
  by_cases h1:i<n
  ·rw[if_pos h1] at h
   have e:i.toNat=j:=Option.some.inj h
   exact⟨by rw[seqIndex_of h0 h1,e],by omega,by omega,h1⟩
  ·rw[if_neg h1] at h;cases h
 ·rw[if_neg h0] at h
  by_cases h1 : -(n:Int)≤i
  ·rw[if_pos h1] at h
   have e:(i+n).toNat=j:=Option.some.inj h
   exact⟨by rw[seqIndex_neg (by omega) h1,e],by omega,h1,by omega⟩
  ·rw[if_neg h1] at h;cases h
theorem Wd{α:Type}{xs:List α}{i:Int}{v:α}(h:atI xs i=some v):∃j,seqIndex? i xs.length=some j∧xs[j]?=some v∧j<xs.length∧-(xs.length:Int)≤i∧i<xs.length:=by
 unfold atI at h
 cases e:ixN xs.length i with
 |none=>rw[e] at h;cases h
 |some j=>
  rw[e] at h
  obtain⟨h1,h2,h3,h4⟩:=Uw e
  exact⟨j,h1,h,h2,h3,h4⟩
theorem UR{α:Type}{xs:List α}{j:Nat}{v:α}(h:xs[j]?=some v):atI xs (j:Int)=some v:=by
 have hj:j<xs.length:=(List.getElem?_eq_some_iff.mp h).1
 have e:ixN xs.length (j:Int)=some j:=by
  unfold ixN
  rw[if_pos (by omega),if_pos (by omega)];simp
 unfold atI;rw[e];exact h
def We(b:Expr):Prop:=∀o i,subscripted b false o i=operate [o,i] (getItem o i)
def IxR(X:Cx)(r:R2):Prop:=
 ∀(value slice:Expr) (pins:List (Addr×Obj)) (s:Shared) (σ:St) (H:Hp) (x y:V) (v u:Value) (Q:VK),Inv X pins σ H s→RelV x v→RelV y u→r x y H Q →
  subscripted slice false v u=operate [v,u] (getItem v u)→wpAny (model X.prog X.w) X.A (subscriptTail value slice v u) (EP X pins σ Q) X.xe s
def MtR(X:Cx)(id:String)(r:V→List V→Hp→VK→Prop):Prop:=
 ∀(pins:List (Addr×Obj)) (s:Shared) (σ:St) (H:Hp) (x:V) (xs:List V) (v:Value) (us:List Value) (Q:VK),Inv X pins σ H s→RelV x v→Vals xs us→r x xs H Q →
  wpAny (model X.prog X.w) X.A (call (.builtin id) (v::us)) (EP X pins σ Q) X.xe s
section
variable{X:Cx}{a b:Expr}{ta tb:TE}{pos:Pos}
theorem IxR.or{r r':R2}(h:IxR X r)(h':IxR X r'):IxR X (fun x y H Q=>r x y H Q∨r' x y H Q):=by
 intro value slice pins s σ H x y v u Q I rx ry q hs
 rcases q with q|q
 ·exact h value slice pins s σ H x y v u Q I rx ry q hs
 ·exact h' value slice pins s σ H x y v u Q I rx ry q hs
theorem TX{r:R2}(hr:IxR X r)(ha:PE X a ta)(hb:PE X b tb)(hs:We b):PE X (.Subscript a b pos) (tOp r ta tb):=by
 intro pins s σ H Q I h
 exact Subscript_ (zc3 ha hb I h fun v u s2 x y H2 I2 rx ry q=>hr a b pins s2 σ H2 x y v u Q I2 rx ry q (hs _ _))
def rIxL(K:PySem.W.Frag):R2:=fun x y H Q=>∃p xs i v,x=.ref p∧y=.int i∧SqL K H p xs∧atI xs i=some v∧Q v H
def rIxT(K:PySem.W.Frag):R2:=fun x y H Q=>∃p xs i v,x=.ref p∧y=.int i∧SqT K H p xs∧atI xs i=some v∧Q v H
def rIxS:R2:=fun x y H Q=>∃z i c,x=.str z∧y=.int i∧z.length≤sizeLine∧atI z.cps.toList i=some c∧Q (.str ⟨#[c]⟩) H
theorem ix_list:IxR X (rIxL X.K):=by
 intro value slice pins s σ H x y v u Q I rx ry h hs
 obtain⟨p,xs,i,z,rfl,rfl,hq,he,q⟩:=h
 cases rx
 obtain⟨t,rfl⟩:=ry
 obtain⟨its,r,pl,hz⟩:=I.list hq
 obtain⟨j,h1,h2,h3,h4,h5⟩:=Wd he
 obtain⟨w,ew,rw'⟩:=r.get h2
 have hl:=r.length
 have hn:=jo
 have fin:EP X pins σ Q w s:=⟨z,H,I,rw',q⟩
 by_cases h0:0≤i
 ·have hj:i.toNat=j:=by
   rw[seqIndex_of h0 h5] at h1
   exact Option.some.inj h1
  exact item_listR pl.isList h0 (by omega) (by rw[hj];simpa using ew) fin hs
 ·have hj:(i+(its.toArray.size:Int)).toNat=j:=by
   rw[seqIndex_neg (by omega) h4] at h1
   rw[size_toArray,← hl]
   exact Option.some.inj h1
  exact subscriptTail_builtinR (x:=w) pl.isList.typeIs slot_list_getitem.lookup
   (wpAny_getItem_list_neg (Q:=fun r s'=>r=w∧EP X pins σ Q r s') pl.isList (by omega) (by rw[size_toArray] <;> omega) (by omega) (by rw[hj];simpa using ew) ⟨rfl,fin⟩) hs
theorem ix_tup:IxR X (rIxT X.K):=by
 intro value slice pins s σ H x y v u Q I rx ry h hs
 obtain⟨p,xs,i,z,rfl,rfl,hq,he,q⟩:=h
 cases rx
 obtain⟨t,rfl⟩:=ry
 obtain⟨its,r,pl,hz⟩:=I.tuple hq
 obtain⟨j,h1,h2,h3,h4,h5⟩:=Wd he
 obtain⟨w,ew,rw'⟩:=r.get h2
 have hl:=r.length
 have hn:=jo
 have fin:EP X pins σ Q w s:=⟨z,H,I,rw',q⟩
 exact subscriptTail_builtinR (x:=w) pl.typeIs slot_tuple_getitem.lookup
  (getItem_tuple (j:=j) (Q:=fun r s'=>r=w∧EP X pins σ Q r s') pl (by omega) (by omega) (by rw[size_toArray,← hl];exact h1) (by simpa using ew) ⟨rfl,fin⟩) hs
theorem za0:IxR X rIxS:=by
 intro value slice pins s σ H x y v u Q I rx ry h hs
 obtain⟨z,i,c,rfl,rfl,hz,he,q⟩:=h
 obtain⟨t,rfl⟩:=rx
 obtain⟨t',rfl⟩:=ry
 obtain⟨j,h1,h2,h3,h4,h5⟩:=Wd he
 have hl:z.cps.toList.length=z.length:=by simp[Str.length]
 rw[hl] at h1 h4 h5
 have hn:=jo
 exact tail_any (typeIs_str s z t) slot_str_getitem.lookup (getItem_str (c:=c) (by
  have e1:decide (i < -(2 ^ 63:Int))=false:=decide_eq_false (by omega)
  have e2:decide (i ≥ 2 ^ 63)=false:=decide_eq_false (by omega)
  rw[e1,e2,Bool.or_false]) (by rw[h1];simpa using h2) ⟨.str ⟨#[c]⟩,H,I.tok _,⟨_,rfl⟩,q⟩) hs
def rIx(K:PySem.W.Frag):R2:=fun x y H Q=>rIxL K x y H Q∨rIxT K x y H Q∨rIxS x y H Q
theorem za1:IxR X (rIx X.K):=ix_list.or (ix_tup.or za0)
theorem VH(its:List Value)(n j:Nat)(u:Value):Obj.mapSeq (·.setIfInBounds j u) { cls:=.type "list", data:=.seq its.toArray n } = { cls:=.type "list", data:=.seq (its.set j u).toArray n }:=by
 simp[Obj.mapSeq]
theorem Inv.lst{pins:List (Addr×Obj)}{σ:St}{H:Hp}{s:Shared}{p:Addr}{xs:List V}(I:Inv X pins σ H s)(h:H p=some (.lst xs)) :
  ∃(its:List Value) (n:Nat),Vals xs its∧s.heap.get? p=some { cls:=.type "list", data:=.seq its.toArray n }∧xs.length≤sizeLine:=by
 obtain⟨z,its,n,r,e⟩:=I.hok p _ h
 exact⟨its,n,r,e,z⟩
theorem Inv.lstUpd{pins:List (Addr×Obj)}{σ:St}{H:Hp}{s:Shared}{p:Addr}{xs ys:List V}{its its':List Value}{n n':Nat}{f:Obj→Obj}(I:Inv X pins σ H s)(h:H p=some (.lst xs))
  (ho:s.heap.get? p=some { cls:=.type "list", data:=.seq its.toArray n }) (hf:f { cls:=.type "list", data:=.seq its.toArray n } = { cls:=.type "list", data:=.seq its'.toArray n' }) (r:Vals ys its') (hz:ys.length≤sizeLine) (t:Nat) :
  Inv X pins σ (upd H p (.lst ys)) { s with heap:=s.heap.update p f,toks:=t }:=by
 have e:(s.heap.update p f).get? p=some { cls:=.type "list", data:=.seq its'.toArray n' }:=by
  rw[Heap.get?_update_self f ho (by rw[hf] <;> rfl),hf]
 refine I.write (x:=p) (e:=p) (by rw[h];trivial) (.inl rfl) (fun b u hb q=>(Heap.get?_update_other _ _ (Ne.symm hb)).trans q) ⟨_,e⟩ ?_
 exact⟨hz,its',n',r,e⟩
def rSetL:V→V→V→Hp→(Hp→Prop)→Prop:=fun o i v H Q=>∃p xs k j,o=.ref p∧i=.int k∧H p=some (.lst xs)∧ixN xs.length k=some j∧Q (upd H p (.lst (xs.set j v)))
theorem Qh:PSet X rSetL:=by
 intro pins s σ H o i v ov iv u Q I ro ri rv h
 obtain⟨p,xs,k,j,rfl,rfl,hp,hj,q⟩:=h
 cases ro
 obtain⟨t,rfl⟩:=ri
 obtain⟨its,n,r,ho,hz⟩:=I.lst hp
 obtain⟨h1,h2,h3,h4⟩:=Uw hj
 have hl:=r.length
 have hn:=jo
 have I':Inv X pins σ (upd H p (.lst (xs.set j v))) { s with heap:=s.heap.update p (Obj.mapSeq (·.setIfInBounds j u)) }:=
  I.lstUpd hp ho (VH its n j u) (r.set rv j) (by rw[length_set];exact hz) s.toks
 by_cases h0:0≤k
 ·have hk:k.toNat=j:=by
   rw[seqIndex_of h0 h4] at h1
   exact Option.some.inj h1
  exact PySem.W.ki_setAt ho h0 (by omega) (by rw[size_toArray,← hl];exact h4) (by rw[hk];exact⟨_,I',q⟩)
 ·have hk:(k+(its.toArray.size:Int)).toNat=j:=by
   rw[seqIndex_neg (by omega) h3] at h1
   rw[size_toArray,← hl]
   exact Option.some.inj h1
  exact PySem.W.ki_setBack ho (by omega) (by rw[size_toArray,← hl];exact h3) (by omega) (by rw[hk];exact⟨_,I',q⟩)
theorem XG(lo hi:Option Int)(n:Nat):(sliceBounds lo hi none n).1=((HT.sIx n 0 lo:Nat):Int)∧(sliceBounds lo hi none n).2.1=((HT.sIx n n hi:Nat):Int)∧(sliceBounds lo hi none n).2.2=1:=by
 refine⟨?_,?_,rfl⟩
 ·cases lo with
  |none=>simp[sliceBounds,HT.sIx]
  |some i=>
   simp only[sliceBounds,HT.sIx,Option.getD_none,show(1:Int) > 0 by decide,if_true]
   by_cases h:i<0
   ·simp only[h,if_true] <;> omega
   ·simp only[h,if_false] <;> omega
 ·cases hi with
  |none=>simp[sliceBounds,HT.sIx]
  |some i=>
   simp only[sliceBounds,HT.sIx,Option.getD_none,show(1:Int) > 0 by decide,if_true]
   by_cases h:i<0
   ·simp only[h,if_true] <;> omega
   ·simp only[h,if_false] <;> omega
theorem YI(its:List Value)(lo hi:Option Int):slicePick its.toArray lo hi none=((its.drop (HT.sIx its.length 0 lo)).take (HT.sIx its.length its.length hi-HT.sIx its.length 0 lo)).toArray:=by
 obtain⟨h1,h2,h3⟩:=XG lo hi its.toArray.size
 unfold slicePick
 rw[h1,h2,h3]
 simp only[sliceRange_one,pick_run,size_toArray] <;> rfl
def rSlL(K:PySem.W.Frag):V→Option Int→Option Int→Hp→VK→Prop:=fun x lo hi H Q=>∃a xs,x=.ref a∧SqL K H a xs∧∀p,H p=none→Q (.ref p) (upd H p (.lst (JH xs lo hi)))
theorem Me:SlR X (rSlL X.K):=by
 intro pins s σ H x v vl vu lo hi sl Q I rx hs pl pu h
 obtain⟨a,xs,rfl,hx,q⟩:=h
 cases rx
 obtain⟨its,r,ht,hz⟩:=I.list hx
 have hlen:=r.length
 refine⟨"list", _,slot_list_getitem.lookup,ht.isList.typeIs,?_⟩
 refine wpAny_getItem_list_slice ht.isList hs pl pu .none (by simp) ?_ (by rw[size_toArray] <;> omega)
 rw[YI,← hlen]
 refine⟨.ref s.heap.objs.size,_,I.laid (t':=s.toks) (o:=.lst (JH xs lo hi)) (fun b ob q=>Heap.get?_push_of_some _ q) (le_refl _) ?_,rfl,q _ (I.hok.fresh (le_refl _))⟩
 exact⟨le_trans (Va xs lo hi) hz,_,0,(r.drop (HT.sIx xs.length 0 lo)).take (HT.sIx xs.length xs.length hi-HT.sIx xs.length 0 lo),Heap.get?_push_size _ rfl⟩
theorem call_len_seq:CallR X (.builtin "len") (fun xs H Q=>∃p ys,xs=[.ref p]∧(SqL X.K H p ys∨SqT X.K H p ys)∧Q (.int ys.length) H):=by
 intro pins s σ H xs us Q I r h
 obtain⟨p,ys,rfl,hq,q⟩:=h
 obtain⟨u,rfl,rx⟩:=vals1 r
 cases rx
 have hn:=jo
 rcases hq with hq|hq
 ·obtain⟨its,r',pl,hz⟩:=I.list hq
  have hlen:=r'.length
  exact Calls.call_len_list pl.isList (by simp only[size_toArray] <;> omega) ⟨.int ys.length,H,I.tok _,⟨s.toks+1,by rw[size_toArray,hlen]⟩,q⟩
 ·obtain⟨its,r',pl,hz⟩:=I.tuple hq
  have hlen:=r'.length
  exact len_tuple pl (by simp only[size_toArray] <;> omega) ⟨.int ys.length,H,I.tok _,⟨s.toks+1,by rw[size_toArray,hlen]⟩,q⟩
theorem Wb:CallR X (.builtin "len") (fun xs H Q=>∃z,xs=[.str z]∧z.length≤sizeLine∧Q (.int z.length) H):=by
 intro pins s σ H xs us Q I r h
 obtain⟨z,rfl,hz,q⟩:=h
 obtain⟨u,rfl,t,rfl⟩:=vals1 r
 have hn:=jo
 exact len_str (by omega) ⟨.int z.length,H,I.tok _,⟨_,rfl⟩,q⟩
theorem CallR.or{f:Value}{r r':List V→Hp→VK→Prop}(h:CallR X f r)(h':CallR X f r'):CallR X f (fun xs H Q=>r xs H Q∨r' xs H Q):=by
 intro pins s σ H xs us Q I rs q
 rcases q with q|q
 ·exact h pins s σ H xs us Q I rs q
 ·exact h' pins s σ H xs us Q I rs q
def tyV(K:PySem.W.Frag)(T:String)(x:V)(H:Hp):Prop:=match x with
 |.str _=>T = "str"
 |.int _=>T = "int"
 |.ref p=>(T = "list" ∧ ∃xs,SqL K H p xs)∨(T = "tuple" ∧ ∃o,K.lookup p=some o∧o.cls=.type "tuple" ∧ o.dict=none) ∨
   (T = "dict" ∧ ((∃kvs,H p=some (.dK kvs))∨∃kvs,H p=some (.dT kvs)))∨(T = "set" ∧ ∃S n,H p=some (.set S n))
 |_=>False
theorem JW{pins:List (Addr×Obj)}{σ:St}{H:Hp}{s:Shared}{T:String}{x:V}{v:Value}(I:Inv X pins σ H s)(r:RelV x v)(ty:tyV X.K T x H) :
  s.TypeIs v T∧∀a,v=.ref a→∃ob,s.heap.get? a=some ob∧ob.dict=none:=by
 cases x with
 |str z=>
  obtain⟨t,rfl⟩:=r
  cases (show T = "str" from ty)
  exact⟨typeIs_str s z t,fun _ e=>nomatch e⟩
 |int i=>
  obtain⟨t,rfl⟩:=r
  cases (show T = "int" from ty)
  exact⟨typeIs_int s i t,fun _ e=>nomatch e⟩
 |ref p=>
  cases r
  rcases ty with ⟨rfl,xs,hq⟩|⟨rfl,o,hk,hc,hd⟩|⟨rfl,hk⟩|⟨rfl,S,n,hk⟩
  ·obtain⟨its,_,pl,_⟩:=I.list hq
   refine⟨pl.isList.typeIs,fun a e=>?_⟩
   cases e
   obtain⟨o,n,e,c,hd,_⟩:=pl
   exact⟨o,e,hd⟩
  ·refine⟨⟨o,I.kIn p o hk,hc⟩,fun a e=>?_⟩
   cases e
   exact⟨o,I.kIn _ o hk,hd⟩
  ·have z:∃o,s.heap.get? p=some o∧o.ExactDict:=by
    rcases hk with ⟨kvs,hk⟩|⟨kvs,hk⟩
    ·obtain⟨_,_,_,_,o,_,_,e,ex,_⟩:=I.hok p _ hk
     exact⟨o,e,ex⟩
    ·obtain⟨_,_,_,_,o,_,_,e,ex,_⟩:=I.hok p _ hk
     exact⟨o,e,ex⟩
   obtain⟨o,e,ex⟩:=z
   refine⟨⟨o,e,ex.1⟩,fun a e2=>?_⟩
   cases e2
   exact⟨o,e,ex.2.1⟩
  ·obtain⟨o,_,_,_,e,ex,_⟩:=I.hok p _ hk
   refine⟨⟨o,e,ex.1⟩,fun a e2=>?_⟩
   cases e2
   exact⟨o,e,ex.2.1⟩
 |_=>exact False.elim ty
def tBM0(K:PySem.W.Frag)(T:String)(r:V→List V→Hp→VK→Prop)(to:TE):TE:=fun σ H Q=>to σ H fun x H1=>tyV K T x H1∧r x [] H1 Q
def tBM(K:PySem.W.Frag)(T:String)(r:V→List V→Hp→VK→Prop)(to:TE)(t:TA):TE:=fun σ H Q=>to σ H fun x H1=>tyV K T x H1∧t σ H1 fun xs H2=>r x xs H2 Q
variable{o e:Expr}{es:List Expr}{to:TE}{t:TA}{name:Str}{apos cpos:Pos}{T id:String}{r:V→List V→Hp→VK→Prop}
theorem LL(pa:PlainAttrs T)(slot:Slot T name id)(hty:typeOf (.builtin id)=pure (.type "method_descriptor"))(hm:MtR X id r)(ho:PE X o to)
  (hbase:attributeBase o name X.env (eval o X.env)=eval o X.env:=by rfl) (hline:(apos.endLine==cpos.line)=true:=by rfl):PE X (.Call (.Attribute o name apos) [] [] cpos) (tBM0 X.K T r to):=by
 intro pins s σ H Q I h
 refine wpAny_Call_method0_late hbase hline (thn (ho pins s σ H _ I h) fun v s1 ⟨x,H1,I1,r1,ty,q1⟩=>?_)
 obtain⟨h1,h2⟩:=JW I1 r1 ty
 exact⟨T,id,pa,slot,hty,h1,h2,Calls.callWith_builtin rfl (PySem.evalArgs_none (hm pins s1 σ H1 x [] v [] Q I1 r1 .nil q1))⟩
theorem pe_bm(pa:PlainAttrs T)(slot:Slot T name id)(hty:typeOf (.builtin id)=pure (.type "method_descriptor"))(hm:MtR X id r)(ho:PE X o to)(ha:PA X (e::es) t)
  (hbase:attributeBase o name X.env (eval o X.env)=eval o X.env:=by rfl)
  (hfew:((backTo cpos (starEach (e::es) X.env)).all (fun x=>!x.1)&&(backToKw cpos (keywordEach [] X.env)).all (fun x=>x.1.isSome)
   && decide ((e::es).length+([]:List Keyword).length+(if ([]:List Keyword).isEmpty then 0 else 1)<30))=true:=by rfl)
  (hline:(apos.endLine==cpos.line)=true:=by rfl) (hs:starEach (e::es) X.env=(false,eval e X.env)::starEach es X.env:=by rfl) (hplain:(backTo cpos (starEach es X.env)).any (·.1)=false:=by rfl) :
  PE X (.Call (.Attribute o name apos) (e::es) [] cpos) (tBM X.K T r to t):=by
 intro pins s σ H Q I h
 refine wpAny_Call_method_late hbase hfew hline rfl (thn (ho pins s σ H _ I h) fun v s1 ⟨x,H1,I1,r1,ty,q1⟩=>?_)
 obtain⟨h1,h2⟩:=JW I1 r1 ty
 refine⟨T,id,pa,slot,hty,h1,h2,?_⟩
 have hA:=ha cpos pins s1 σ H1 _ I1 q1
 rw[hs] at hA ⊢
 refine Calls.callWith_builtin (by show(false||(backTo cpos (starEach es X.env)).any (·.1))=false;rw[hplain] <;> rfl) (Calls.evalArgs_plain ?_)
 exact thn hA fun us s2 ⟨vs,H2,I2,r2,q2⟩=>hm pins s2 σ H2 x vs v us Q I2 r1 r2 q2
end
def MtM(X:Cx)(id:String)(r:V→List V→Hp→VK→Prop):Prop:=
 ∀(pins:List (Addr×Obj)) (s:Shared) (σ:St) (H:Hp) (x:V) (xs:List V) (v:Value) (us:List Value) (Q:VK),Inv X pins σ H s→RelV x v→Vals xs us→r x xs H Q →
  wpAny (model X.prog X.w) X.A (call (.builtin id) (v::us)) (EP X pins σ Q) X.xe s
theorem Vals.one:∀{x:V} {us:List Value},Vals [x] us→∃u,us=[u]∧RelV x u
 |_,_,.cons r .nil=>⟨_,rfl,r⟩
theorem Vals.rep{xs:List V}{us:List Value}(h:Vals xs us):∀k:Nat,Vals (List.replicate k xs).flatten (List.replicate k us).flatten
 |0=>.nil
 |k+1=>by
  rw[replicate_succ,replicate_succ,flatten_cons,flatten_cons]
  exact Vals.append h (Vals.rep h k)
theorem foldl_rep(its:List Value):∀(k:Nat) (acc:List Value),
  List.foldl (fun x1 x2=>x1++x2) acc.toArray (List.replicate k its.toArray)=(acc++(List.replicate k its).flatten).toArray
 |0,acc=>by simp
 |k+1,acc=>by
  have e:acc.toArray++its.toArray=(acc++its).toArray:=by simp
  have e2:(acc++its)++(List.replicate k its).flatten=acc++(List.replicate (k+1) its).flatten:=by
   rw[replicate_succ,flatten_cons,append_assoc]
  rw[← e2,← foldl_rep its k (acc++its),← e,replicate_succ,foldl_cons]
section
variable{X:Cx}{pins:List (Addr×Obj)}{σ:St}{H:Hp}{s:Shared}{l b:Addr}{xs ys zs:List V}
theorem Inv.lset{its its':List Value}{n:Nat}{f:Array Value→Array Value}{t':Nat}(I:Inv X pins σ H s)(hH:H l=some (.lst xs))
  (e:s.heap.get? l=some { cls:=.type "list", data:=.seq its.toArray n }) (hf:f its.toArray=its'.toArray) (hv:Vals ys its') (hz:ys.length≤sizeLine) :
  Inv X pins σ (upd H l (.lst ys)) { s with heap:=s.heap.update l (Obj.mapSeq f),toks:=t' }:=by
 have q:=PySem.IsL.update e f
 rw[hf] at q
 refine I.write (x:=l) (e:=l) (by rw[hH];exact trivial) (.inl rfl) (fun b' u hb hu=>(Heap.get?_update_other s.heap (Obj.mapSeq f) (Ne.symm hb)).trans hu) ⟨_,q⟩ ?_
 exact⟨hz,its',_,hv,q⟩
theorem Inv.lnew{its:List Value}{t':Nat}(I:Inv X pins σ H s)(hv:Vals ys its)(hz:ys.length≤sizeLine) :
  Inv X pins σ (upd H s.heap.objs.size (.lst ys)) { s with heap:=s.heap.push { cls:=.type "list", data:=.seq its.toArray },toks:=t' }:=
 I.laid (fun _ _ q=>Heap.get?_push_of_some _ q) (le_refl _) ⟨hz,its,0,hv,Heap.get?_push_size _ rfl⟩
theorem Inv.fresh(I:Inv X pins σ H s):H s.heap.objs.size=none:=I.hok.fresh (le_refl _)
theorem Inv.lstM(I:Inv X pins σ H s)(hH:H l=some (.lst xs)):xs.length≤sizeLine∧∃(its:List Value) (n:Nat),Vals xs its∧xs.length=its.length∧s.heap.get? l=some { cls:=.type "list", data:=.seq its.toArray n }:=by
 obtain⟨z,its,n,r,e⟩:=I.hok l _ hH
 exact⟨z,its,n,r,r.length,e⟩
theorem QT{n:Nat}(h:n≤sizeLine):Builtin.List.listTooLong n=false:=by
 unfold Builtin.List.listTooLong
 exact decide_eq_false (by omega)
end
section
variable{X:Cx}
def Ml:V→List V→Hp→VK→Prop:=fun x vs H Q=>∃l xs y,x=.ref l∧vs=[y]∧H l=some (.lst xs)∧xs.length<sizeLine∧Q .non (upd H l (.lst (xs++[y])))
theorem Xf:MtM X "list.append" Ml:=by
 intro pins s σ H x vs v us Q I rx rv h
 obtain⟨l,xs,y,rfl,rfl,hH,hz,q⟩:=h
 cases rx
 obtain⟨u,rfl,ru⟩:=rv.one
 obtain⟨z,its,n,r,hl,e⟩:=I.lstM hH
 refine call_meets F.slot_list_append ⟨_,e,rfl⟩ F.entry_list_append (F.args_list_append_2 _ _) (PySem.list_append l its.toArray n u (by rw[size_toArray];omega)) ⟨e,?_⟩
 refine⟨.non,_,I.lset (its':=its++[u]) hH e (by simp) (r.append (.cons ru .nil)) ?_,rfl,q⟩
 rw[length_append,List.length_singleton]
 omega
def rCat:R2:=fun x y H Q=>∃l b xs zs,x=.ref l∧y=.ref b∧H l=some (.lst xs)∧H b=some (.lst zs)∧xs.length+zs.length≤sizeLine∧∀p,H p=none→Q (.ref p) (upd H p (.lst (xs++zs)))
theorem LS:OpR X (binaryOp .Add) rCat:=by
 intro pins s σ H x y v u Q I rx ry h
 obtain⟨l,b,xs,zs,rfl,rfl,hH,hB,hz,q⟩:=h
 cases rx
 cases ry
 obtain⟨z,its,n,r,hl,e⟩:=I.lstM hH
 obtain⟨z2,its2,n2,r2,hl2,e2⟩:=I.lstM hB
 refine PySem.P.add_list e e2 ?_ (by rw[size_toArray,size_toArray];omega)
 have ea:its.toArray++its2.toArray=(its++its2).toArray:=by simp
 rw[ea]
 exact⟨.ref _,_,I.lnew (t':=s.toks) (r.append r2) (by rw[length_append];omega),rfl,q _ I.fresh⟩
def rRep:R2:=fun x y H Q=>∃l k xs,x=.ref l∧y=.int k∧H l=some (.lst xs)∧-(2 ^ 63)≤k∧k<2 ^ 63∧xs.length*k.toNat≤sizeLine ∧
 ∀p,H p=none→Q (.ref p) (upd H p (.lst (List.replicate k.toNat xs).flatten))
theorem M1{α:Type}(xs:List α)(k:Nat):(List.replicate k xs).flatten.length=k*xs.length:=by
 induction k with
 |zero=>simp
 |succ k ih=>rw[replicate_succ,flatten_cons,length_append,ih,Nat.succ_mul,Nat.add_comm]
theorem LP:OpR X (binaryOp .Mult) rRep:=by
 intro pins s σ H x y v u Q I rx ry h
 obtain⟨l,k,xs,rfl,rfl,hH,h1,h2,hz,q⟩:=h
 cases rx
 obtain⟨t,rfl⟩:=ry
 obtain⟨z,its,n,r,hl,e⟩:=I.lstM hH
 have hlen:its.toArray.size*k.toNat≤sizeLine:=by rw[size_toArray,← hl];exact hz
 have hcap:¬ its.toArray.size*k.toNat > (2 ^ 63-1) / 8:=by
  have:(sizeLine:Nat)≤(2 ^ 63-1) / 8:=by decide
  omega
 have hfit:¬ (!Builtin.List.listFitsIndex k)=true:=by
  rw[fitsIndex_both h1 h2]
  exact Bool.false_ne_true
 have hlong:¬ Builtin.List.listTooLong (its.toArray.size*k.toNat)=true:=by
  rw[QT hlen]
  exact Bool.false_ne_true
 have hnew:List.foldl (fun x1 x2=>x1++x2) #[] (List.replicate (if its.toArray.isEmpty=true then 0 else k.toNat) its.toArray)=(List.replicate k.toNat its).flatten.toArray:=by
  have f0:∀m:Nat,List.foldl (fun x1 x2=>x1++x2) #[] (List.replicate m its.toArray)=(List.replicate m its).flatten.toArray:=fun m=>by
   have:=foldl_rep its m []
   rw[List.nil_append] at this
   exact this
  rw[f0]
  cases its with
  |nil=>simp
  |cons a r'=>rw[if_neg (by simp)]
 refine wpAny_binaryOp_repeat_ref (T := "list") (U := "int") (by decide) ⟨_,e,rfl⟩ (fun s'=>typeIs_int s' k t) noFill_list_mul F.fills_int_mul F.slot_int_rmul repeat_list F.slot_int_index.lookup
  (call_meets F.slot_int_rmul (typeIs_int s k t) F.entry_int_rmul (F.args_int_rmul_2 _ _) (int___rmul___int_list k t l its.toArray n)
   ⟨e,rfl,⟨_,e,rfl⟩,call_meets F.slot_list_mul ⟨_,e,rfl⟩ F.entry_list_mul (F.args_list_mul_2 _ _) (AutoListH.list___mul___list_int_3 l its.toArray n k t hfit hcap hlong) ⟨e,?_⟩⟩)
 rw[hnew]
 exact⟨.ref _,_,I.lnew (t':=s.toks) (r.rep k.toNat) (by rw[M1,Nat.mul_comm];exact hz),rfl,q _ I.fresh⟩
end
section
variable{prog:Program}{w:World}{A:Around}{E:Value→Shared→Prop}{s:Shared}
end
section
variable{X:Cx}
end
end L2
namespace Att
open PySem PySem.W PySem.Calls PyProof.Rows
theorem Zx{P:Params}{h:Heap}:∀(ns:List Int) (vs:List Value),WellAll P h vs (ns.map WData.int)→IntsAre vs ns:=by
 intro ns
 induction ns with
 |nil=>
  intro vs w
  rw[map_nil] at w
  cases w
  exact .nil
 |cons n ns ih=>
  intro vs w
  rw[map_cons] at w
  cases w with
  |cons a b=>
   cases a
   exact .cons _ _ (ih _ b)
theorem U3{l:OpenLaw}{n:Nat}(hn:l.most=some n){P:Params}{h:Heap}{args:List WData}{vals:List Value}
  (hpre:l.row.toRowW.claim.pre args=true) (hwl:WellAll P h vals args) :
  ∃a vs ns,vals=[Value.ref a]∧args=[WData.list (ns.map WData.int)]∧h.get? a=some { cls:=.type "list", data:=.seq vs.toArray }∧IntsAre vs ns∧ns.length≤n:=by
 have hsh:WShape.hasAll [] args [.list .int]=true:=(pre_splitW hpre).1
 have hc:l.pre.holds [] { args:=args }=true:=(pre_splitW hpre).2
 obtain⟨d,r,rfl,h1,h2⟩:=hasAllW_cons hsh
 obtain rfl:=hasAllW_nil h2
 obtain⟨xs,rfl,h3⟩:=hasW_list h1
 obtain⟨ns,rfl⟩:=items_int h3
 have hlen:ns.length≤n:=by
  unfold OpenLaw.pre at hc
  have h4:(WTm.not (.lt (.lit (.int (n:Int))) (.len (.arg 0)))).holds [] { args:=[.list (ns.map .int)] }=true:=by
   have h4:=(holds_andW hc).1
   rw[hn] at h4
   exact h4
  have h5:=condW_of h4 (w_not (w_lt w_lit (w_len_list (w_arg rfl))))
  rw[length_map] at h5
  refine Nat.le_of_not_lt fun q=>?_
  have q':(n:Int)<((ns.length:Nat):Int):=by omega
  first
   | (rw[decide_eq_true q'] at h5;exact absurd h5 (by decide))
   | (simp at h5;omega)
 cases hwl with
 |cons w1 w2=>
  cases w2
  cases w1 with
  |list ho hall=>exact⟨_,_,ns,rfl,rfl,ho,Zx ns _ hall,hlen⟩
theorem U7(l:OpenLaw)(args:List WData):l.row.toRowW.claim.post args (.bool true) args=true:=
 postW_of (r:=l.row.toRowW) (X:=(true==true))
  (show WShape.has [] (.bool true) .bool=true by first|rfl|decide|simp[WShape.has,WShape.arms,WShape.armsAll])
  (show(WTm.eq .res (.lit (.bool true))).value [] { args:=args,res:=some (.bool true),after:=args }=some (.bool (true==true)) from w_eq_bool (w_res rfl) w_lit) rfl
theorem attach_call{l:OpenLaw}{n:Nat}{q:Program}{loose:List Str}{XP:(Str→Option Value)→Heap→Prop}{YP:World→Heap→Prop}{d:DefRec}
  (hn:l.most=some n) (hdf:d.params.defaults=[])
  (call:∀(w:World) (s₀ s₁:Shared) (mg mb:Str→Option Value) (fa:Addr) (o:Obj) (pm cd doc:Value) (a:Addr) (vs:List Value) (ns:List Int),
   Ground q loose [] XP w s₀ mg mb s₁.heap→YP w s₁.heap →
   s₁.heap.get? fa=some o→o.data=.func (docDef d.name d.params d.body d.scope pm cd doc)→s₁.heap.CodeRec cd d.name→mg d.name=some (.ref fa) →
   s₁.heap.get? a=some { cls:=.type "list", data:=.seq vs.toArray }→IntsAre vs ns→ns.length≤n→s₁.gens = #[] →
   codeAny (model l.prog w) callerA (.call (.ref fa) ⟨[.ref a],[]⟩) (fun r s'=>r=.ok (.ret (.bool true))∧OldK s₁.heap s'.heap∧s'.os=s₁.os∧AllBare s'.gens) s₁) :
  WalkO q loose XP YP l.row.toRowW d [] (fun f vs=>PySem.call f vs):=by
 intro w s₀ s₁ mg mb G Y fa o pm cd doc dV kV ho hd hcd hD hmg hg args vals as hpre hlay hrd hwl hlo
 obtain rfl:dV=.none:=Dflts.none hD hdf
 obtain rfl:kV=.none:=Dflts.noKw hD
 obtain⟨a,vs,ns,rfl,rfl,hobj,hints,hlen⟩:=U3 hn hpre hwl
 refine enter_call (codeAny_mono (call w s₀ s₁ mg mb fa o pm cd doc a vs ns G Y ho (fd_plain hd) hcd hmg hobj hints hlen hg) fun r s' hq=>?_)
 obtain⟨rfl,h2,h3,h4⟩:=hq
 exact⟨.inl ⟨.bool true,.bool true,[],rfl,fun _=>rfl,.bool true,U7 l _,fun _=>⟨List.Pairwise.nil,fun _ hm=>(nomatch hm)⟩⟩,h2,h3,h4⟩
section
variable{prog:Program}{w:World}{A:Around}{E:Value→Shared→Prop}{s:Shared}{K:Frag}
def ledger(h:Heap)(L d:Addr):List (Addr×Obj):=(List.range h.objs.size).filterMap fun a=>if a=L∨a=d then none else (h.get? a).map fun o=>(a,o)
end
end Att
namespace L2
open PySem PySem.Spec PyProof.Rows
theorem vals_ints:∀{vs:List Value} {ns:List Int},IntsAre vs ns→Vals (ns.map V.int) vs
 |_,_,.nil=>.nil
 |_,_,.cons n t h=>.cons ⟨t,rfl⟩ (vals_ints h)
def zd0(H:Hp):Prop:=∀b,H b=none∨∃o xs,H b=some (.frz o (.lst xs))
theorem Gc{P:Program}{w:World}{K:PySem.W.Frag}{mg mb:Str→Option Value}{CX:CXT}{k:Nat}{fa a:Addr}{fd:FuncData}{x:Str}{sp:Sp}{s₁:Shared}{vs:List Value}{ns:List Int}
  (KX:K.In s₁.heap) (hns:s₁.heap.Ns mainGlobals mg) (hb:s₁.heap.Ns builtinsNs mb) (hbb:∀x:Str,x ≠ "__name__" → mb x=bootBuiltins x) (hlim:s₁.heap.NoLimit) (hg:s₁.gens = #[])
  (ha:s₁.heap.get? a=some { cls:=.type "list", data:=.seq vs.toArray }) (hi:IntsAre vs ns) (hl:ns.length≤sizeLine) (hr:Room k callerA)
  (F:∀base:Heap,K.In base→base.Ns mainGlobals mg→FnOk P w K mg base CX k fa fd [x] sp) (hbind:∀(s:Shared) (u:Value),BindsTo s fd ⟨[u],[]⟩ [(x,u)])
  (hsp:∀H:Hp,zd0 H→SqL K H a (ns.map V.int)→sp [.ref a] H (fun v _=>v=.bl true) fun _ _ _=>False)
  (hCX:∀H e s',CX [] H s₁ (fun _ _ _=>False) e s'→False) :
  codeAny (model P w) callerA (.call (.ref fa) ⟨[.ref a],[]⟩) (fun r s'=>r=.ok (.ret (.bool true))∧OldK s₁.heap s'.heap∧s'.os=s₁.os∧AllBare s'.gens) s₁:=by
 have rv:=vals_ints hi
 have lenV:=hi.length
 have core:∀H:Hp,zd0 H→SqL K H a (ns.map V.int)→HOk P w H s₁.heap→(∀b,H b≠none→b=a)→(H a≠none→K.lookup a=none) →
   codeAny (model P w) callerA (.call (.ref fa) ⟨[.ref a],[]⟩) (fun r s'=>r=.ok (.ret (.bool true))∧OldK s₁.heap s'.heap∧s'.os=s₁.os∧AllBare s'.gens) s₁:=by
  intro H hO hS hok hA hK
  have base_of:∀{b:Addr} {o:Obj},s₁.heap.get? b=some o→H b=none→(jp s₁.heap H).get? b=some o:=fun e n=>WV e n
  have noA:∀{b:Addr} {o:Obj} {es:Array DictEntry} {ep:Nat},s₁.heap.get? b=some o→o.data=.dict es ep→H b=none:=fun {b o es ep} e d=>by
   cases q:H b with
   |none=>rfl
   |some u=>
    have e':b=a:=hA b (by rw[q];simp)
    subst e'
    rw[ha] at e;cases e
    have d':Data.seq vs.toArray _=Data.dict es ep:=d
    cases d'
  have nsK:∀{b:Addr} {m:Str→Option Value},s₁.heap.Ns b m→(jp s₁.heap H).Ns b m:=fun {b m} ⟨o,es,ep,e,d,r⟩=>⟨o,es,ep,base_of e (noA e d),d,r⟩
  have hKb:K.In (jp s₁.heap H):=fun b o e=>base_of (KX b o e) (by
   cases q:H b with
   |none=>rfl
   |some u=>
    have e':b=a:=hA b (by rw[q];simp)
    subst e'
    rw[hK (by rw[q];simp)] at e;cases e)
  have hM:Mod K mg (jp s₁.heap H):=⟨hKb,nsK hns,⟨mb,nsK hb,hbb⟩,let ⟨mc,h1,h2⟩:=hlim;⟨mc,nsK h1,h2⟩⟩
  have e0:G1 P w K mg (jp s₁.heap H) callerA [] s₁ H:=⟨rfl,hM,fun b o e=>Um e,Nat.le_of_eq (Xt _ _),trivial,fun b hb=>absurd (show b∈([]:List Addr) from hb) (by simp),hok,.of_eq hg⟩
  refine codeAny_mono ((F _ hKb (nsK hns)).run callerA [] s₁ H ⟨[.ref a],[]⟩ [.ref a] [.ref a] _ _ hr e0 (hbind s₁ (.ref a)) (.cons rfl .nil) (hsp H hO hS)) fun r s' h=>?_
  cases r with
  |error e=>exact(hCX H e s' h).elim
  |ok fl=>
   cases fl with
   |next=>exact False.elim h
   |brk=>exact False.elim h
   |cont=>exact False.elim h
   |ret u=>
    obtain⟨v,H',os,bare,un,hok',r',q⟩:=h
    have q':v=.bl true:=q
    subst q'
    obtain rfl:u=Value.bool true:=r'
    refine⟨rfl,OldK.of_keep fun b o e=>?_,os,bare⟩
    cases q:H b with
    |none=>exact un.keep b o e q (by intro z;exact absurd (show b∈([]:List Addr) from z) (by simp)) (by simp)
    |some u=>
     rcases hO b with z|⟨ob,xs,z⟩
     ·rw[q] at z;cases z
     ·have z2:=un.frzs b ob _ z
      obtain⟨e1,_⟩:=hok b _ z
      obtain⟨e2,_⟩:=hok' b _ z2
      rw[e] at e1;cases e1
      exact e2
 cases hk:K.lookup a with
 |some o=>
  have e:=KX a o hk
  rw[ha] at e
  cases e
  refine core (fun _=>none) (fun _=>.inl rfl) (.inr ⟨_,vs.toArray,_,hk,rfl,rfl,rfl,by rw[size_toArray,lenV];exact hl,by simpa using rv⟩) (fun b u z=>by have z':(none:Option HO)=some u:=z;cases z') (fun b z=>absurd rfl z) fun z=>absurd rfl z
 |none=>
  refine core (fun b=>if b=a then some (.frz { cls:=.type "list", data:=.seq vs.toArray } (.lst (ns.map V.int))) else none) (fun b=>?_) (.inl (.inr ⟨{ cls:=.type "list", data:=.seq vs.toArray },if_pos rfl⟩)) (fun b u z=>?_) (fun b z=>?_) fun _=>hk
  ·by_cases hb:b=a
   ·exact .inr ⟨_,_,if_pos hb⟩
   ·exact .inl (if_neg hb)
  ·by_cases hb:b=a
   ·have z':=(if_pos hb).symm.trans z
    cases z'
    subst hb
    exact⟨ha,by rw[length_map];exact hl,vs,_,rv,ha⟩
   ·have z':=(if_neg hb).symm.trans z
    cases z'
  ·by_cases hb:b=a
   ·exact hb
   ·exact absurd (if_neg hb) z
abbrev KOf{K:PySem.W.Frag}{h:Heap}(_:K.In h):PySem.W.Frag:=K
theorem walk_of{l:PySem.W.OpenLaw}{n k:Nat}{q:Program}{loose:List Str}{XP:(Str→Option Value)→Heap→Prop}{YP:World→Heap→Prop}{d:DefRec}{K:Params→PySem.W.Frag}{CX:World→CXT}{sp:World→Sp}{x:Str}
  (hn:l.most=some n) (hn2:n≤sizeLine) (hdf:d.params.defaults=[]) (hr:Room k callerA)
  (hY:∀(w:World) (h:Heap),YP w h→(K w.params).In h)
  (F:∀(w:World) (mg:Str→Option Value) (fa:Addr) (h:Heap),(K w.params).In h→h.Ns mainGlobals mg→mg d.name=some (.ref fa) →
   ∃fd:FuncData,(∀(s:Shared) (u:Value),BindsTo s fd ⟨[u],[]⟩ [(x,u)]) ∧
    ∀base:Heap,(K w.params).In base→base.Ns mainGlobals mg→FnOk l.prog w (K w.params) mg base (CX w) k fa fd [x] (sp w))
  (hsp:∀(w:World) (H:Hp) (a:Addr) (ns:List Int),ns.length≤n→zd0 H→SqL (K w.params) H a (ns.map V.int)→sp w [.ref a] H (fun v _=>v=.bl true) fun _ _ _=>False)
  (hCX:∀(w:World) (H:Hp) (s:Shared) (e:Value) (s':Shared),CX w [] H s (fun _ _ _=>False) e s'→False) :
  PySem.W.WalkO q loose XP YP l.row.toRowW d [] (fun f vs=>PySem.call f vs):=by
 refine Att.attach_call hn hdf fun w s₀ s₁ mg mb fa o pm cd doc a vs ns G Y ho hd hcd hmg hobj hints hlen hg=>?_
 have KX:=hY w _ Y
 obtain⟨fd,hb,hF⟩:=F w mg fa _ KX G.T.g hmg
 exact Gc KX G.T.g G.T.b G.T.builtins G.T.nolimit hg hobj hints (le_trans hlen hn2) hr hF hb (fun H hO hS=>hsp w H a ns hlen hO hS) fun H e s'=>hCX w H s₁ e s'
def zN(s:Stmt):Arguments:=match s with
 |.FunctionDef _ a _ _ _ _ _ _ _ _=>a
 |_=>{ posonlyargs:=[],args:=[],vararg:=none,kwonlyargs:=[],kw_defaults:=[],kwarg:=none,defaults:=[] }
def zF(s:Stmt):List Stmt:=match s with
 |.FunctionDef _ _ b _ _ _ _ _ _ _=>b
 |_=>[]
def zk(s:Stmt):Scope:=match s with
 |.FunctionDef _ _ _ _ _ _ sc _ _ _=>sc
 |_=>{ kind:=.function,names:=[],isGenerator:=false,isCoroutine:=false }
abbrev CX0:CXT:=fun _ _ _ _ _ _=>False
abbrev E0:XK:=fun _ _ _=>False
theorem pass0{X:Cx}:V2 CX0 X E0:=fun _ _ _ _ _ _ _ h=>h.elim
structure Fun(K:PySem.W.Frag)(x qual:Str)(st:Stmt)(f:Addr)(fd:FuncData):Prop where
 ex:∃(oc:Value) (od:Option Addr) (kV doc pm:Value) (an:Option Addr) (cdv ct:Value) (osl:Array (Option Value)),
  fd=fnOf x qual (zN st) (zF st) (zk st) .none kV doc pm an cdv ct∧K.lookup f=some ⟨oc,od,.func fd,osl⟩∧codeIn K cdv qual=true
 kp:keepIn K (.ref f)=true
section
variable{P:Program}{w:World}{K:PySem.W.Frag}{mg:Str→Option Value}{base:Heap}
theorem Fun.ok{x qual:Str}{st:Stmt}{f:Addr}{fd:FuncData}{N ps:List Str}{k:Nat}{sp:Sp}(F:Fun K x qual st f fd)(S:zQ N ps (zk st))(len:∀vs H Q E,sp vs H Q E→vs.length=ps.length)
  (hbody:∀(cdv:Value) (A:Around) (outer:List Env) (s:Shared) (H:Hp) (vs:List V) (Q:VK) (E:XK),Room k (A.deeper (envOfC qual (zk st) s.heap.objs.size f cdv))→sp vs H Q E →
   ∃t,PSs (Wa CX0 P w K mg base N qual (zk st) f cdv A outer s H E).nox (zF st) t∧t { nx:=fun _ H'=>Q .non H',rt:=Q } (start N vs) H):FnOk P w K mg base CX0 (k+1) f fd ps sp:=by
 obtain⟨oc,od,kV,doc,pm,an,cdv,ct,osl,rfl,lk,hcd⟩:=F.ex
 refine T9 lk hcd S len fun A outer s H vs Q E hr hsp=>?_
 obtain⟨t,h,q⟩:=hbody cdv A outer s H vs Q E hr hsp
 exact⟨t,h.nox,q⟩
theorem Fun.binds{x qual:Str}{st:Stmt}{f:Addr}{fd:FuncData}{ps:List Str}(F:Fun K x qual st f fd)
  (h:∀(kV doc pm:Value) (an:Option Addr) (cdv ct:Value) (us:List Value),us.length=ps.length→bindArgs (fnOf x qual (zN st) (zF st) (zk st) .none kV doc pm an cdv ct) ⟨us,[]⟩=pure (ps.zip us)):Binds K fd ps []:=by
 obtain⟨oc,od,kV,doc,pm,an,cdv,ct,osl,rfl,lk,hcd⟩:=F.ex
 exact .all (h kV doc pm an cdv ct)
theorem yz{x qual:Str}{st:Stmt}{f:Addr}{oc:Value}{od an:Option Addr}{osl:Array (Option Value)}{kV doc pm cdv ct:Value}(l:K.lookup f=some ⟨oc,od,.func (fnOf x qual (zN st) (zF st) (zk st) .none kV doc pm an cdv ct),osl⟩)
  (c:codeIn K cdv qual=true) (k:keepIn K (.ref f)=true):Fun K x qual st f (fnOf x qual (zN st) (zF st) (zk st) .none kV doc pm an cdv ct):=⟨⟨oc,od,kV,doc,pm,an,cdv,ct,osl,rfl,l,c⟩,k⟩
end
theorem hu_of{A:Around}{k:Nat}(hr:Room k A):A.units+1<cLine:=Nat.lt_of_le_of_lt (Nat.add_le_add_left (by decide:1≤64) _) hr.units
theorem wc{n:Nat}(h:n≤1000):n<sizeLine:=Nat.lt_of_le_of_lt h (by decide)
section
variable{X:Cx}
theorem pv(i:Nat){x:Str}{pos:Pos}(hN:X.N[i]?=some x:=by rfl)(hv:Vis X.env.scope x:=by first|exact Or.inl rfl|exact Or.inr (Or.inl rfl) | exact Or.inr (Or.inr rfl))(hd:(x==("__debug__" : Str))=false:=by decide)
  (hcd:(x==("__classdict__" : Str))=false:=by decide):PE X (.Name x pos) (YH i):=LF hN hv hd hcd
end
def Same(H H':Hp):Prop:=∀b o,H b=some o→H' b=some o
theorem Same.refl(H:Hp):Same H H:=fun _ _ h=>h
theorem Same.trans{H H1 H2:Hp}(a:Same H H1)(b:Same H1 H2):Same H H2:=fun c o h=>b c o (a c o h)
theorem Same.seq{K:PySem.W.Frag}{H H':Hp}{a:Addr}{xs:List V}(e:Same H H')(h:SqL K H a xs):SqL K H' a xs:=by
 rcases h with (h|⟨o,h⟩) | h
 ·exact .inl (.inl (e _ _ h))
 ·exact .inl (.inr ⟨o,e _ _ h⟩)
 ·exact .inr h
end L2
namespace FD
open PySem PySem.Spec PyProof.Rows L2
abbrev St:=L2.St
inductive D where
 | non|bl (b:Bool) | int (i:Int) | str (x:Str) | lst (xs:List D) | tup (xs:List D) | scr (ns:List Int) | raw (v:V) | exc (c:Str)
inductive Rs (α:Type) where
 | ok (a:α) | ex (c:Str) | no
def Rs.bind{α β:Type}(r:Rs α)(k:α→Rs β):Rs β:=match r with
 |.ok a=>k a
 |.ex c=>.ex c
 |.no=>.no
@[simp] theorem Rs.bind_ok{α β:Type}(a:α)(k:α→Rs β):(Rs.ok a).bind k=k a:=rfl
def excIs(K:PySem.W.Frag)(a:Addr)(c:Str):Heap→Prop:=fun h=>∃oe cls vs,h.get? a=some oe∧oe.cls=cls∧oe.dict=none∧oe.data=.fields vs∧nsIn K mainGlobals c=some (some cls)
section
variable(K:PySem.W.Frag)
mutual
def Rep(F:Hp):D→V→Prop
 |.non,v=>v=.non
 |.bl b,v=>v=.bl b
 |.int i,v=>v=.int i
 |.str x,v=>v=.str x
 |.lst ds,v=>∃a vs,v=.ref a∧F a=some (.lst vs)∧Reps F ds vs
 |.scr ns,v=>∃a,v=.ref a∧SqL K F a (ns.map V.int)
 |.tup ds,v=>∃a vs,v=.ref a∧SqT K F a vs∧Reps F ds vs
 |.raw u,v=>v=u
 |.exc c,v=>∃a,v=.ref a∧F a=some (.ext (excIs K a c))
def Reps(F:Hp):List D→List V→Prop
 |[],vs=>vs=[]
 |d::ds,vs=>∃v r,vs=v::r∧Rep F d v∧Reps F ds r
end
end
theorem Same.refl(H:Hp):Same H H:=fun _ _ h=>h
theorem Same.seqT{K:PySem.W.Frag}{H H':Hp}{a:Addr}{xs:List V}(e:Same H H')(h:SqT K H a xs):SqT K H' a xs:=by
 rcases h with (h|⟨o,h⟩) | h
 ·exact .inl (.inl (e _ _ h))
 ·exact .inl (.inr ⟨o,e _ _ h⟩)
 ·exact .inr h
section
variable{K:PySem.W.Frag}{F F':Hp}
mutual
theorem Rep.mono(h:Same F F'):∀{d:D} {v:V},Rep K F d v→Rep K F' d v
 |.non,_,r=>by simpa only[Rep] using r
 |.bl _,_,r=>by simpa only[Rep] using r
 |.int _,_,r=>by simpa only[Rep] using r
 |.str _,_,r=>by simpa only[Rep] using r
 |.raw _,_,r=>by simpa only[Rep] using r
 |.exc c,v,r=>by
  simp only[Rep] at r ⊢
  obtain⟨a,e,q⟩:=r
  exact⟨a,e,h _ _ q⟩
 |.lst ds,v,r=>by
  simp only[Rep] at r ⊢
  obtain⟨a,vs,e,q,t⟩:=r
  exact⟨a,vs,e,h _ _ q,Reps.mono h t⟩
 |.scr ns,v,r=>by
  simp only[Rep] at r ⊢
  obtain⟨a,e,q⟩:=r
  exact⟨a,e,h.seq q⟩
 |.tup ds,v,r=>by
  simp only[Rep] at r ⊢
  obtain⟨a,vs,e,q,t⟩:=r
  exact⟨a,vs,e,Same.seqT h q,Reps.mono h t⟩
theorem Reps.mono(h:Same F F'):∀{ds:List D} {vs:List V},Reps K F ds vs→Reps K F' ds vs
 |[],_,r=>by simpa only[Reps] using r
 |d::ds,vs,r=>by
  simp only[Reps] at r ⊢
  obtain⟨v,r',e,q,t⟩:=r
  exact⟨v,r',e,Rep.mono h q,Reps.mono h t⟩
end
theorem Reps.length:∀{ds:List D} {vs:List V},Reps K F ds vs→ds.length=vs.length
 |[],_,r=>by simp only[Reps] at r;subst r;rfl
 |d::ds,_,r=>by
  simp only[Reps] at r
  obtain⟨v,r',rfl,_,t⟩:=r
  simp[Reps.length t]
theorem Reps.get:∀{ds:List D} {vs:List V} {i:Nat} {d:D},Reps K F ds vs→ds[i]?=some d→∃v,vs[i]?=some v∧Rep K F d v
 |[],_,_,_,_,e=>by simp at e
 |d::ds,_,0,_,r,e=>by
  simp only[Reps] at r
  obtain⟨v,r',rfl,q,t⟩:=r
  simp at e;subst e
  exact⟨v,rfl,q⟩
 |d::ds,_,i+1,_,r,e=>by
  simp only[Reps] at r
  obtain⟨v,r',rfl,q,t⟩:=r
  obtain⟨w,h1,h2⟩:=Reps.get (i:=i) t (by simpa using e)
  exact⟨w,by simpa using h1,h2⟩
theorem Reps.nil:Reps K F [] []:=by simp only[Reps]
theorem Reps.cons{d:D}{v:V}{ds:List D}{vs:List V}(h:Rep K F d v)(t:Reps K F ds vs):Reps K F (d::ds) (v::vs):=by
 simp only[Reps];exact⟨v,vs,rfl,h,t⟩
theorem Reps.append:∀{ds es:List D} {vs ws:List V},Reps K F ds vs→Reps K F es ws→Reps K F (ds++es) (vs++ws)
 |[],_,_,_,r,t=>by simp only[Reps] at r;subst r;exact t
 |d::ds,es,_,ws,r,t=>by
  simp only[Reps] at r
  obtain⟨v,r',rfl,q,u⟩:=r
  exact Reps.cons q (Reps.append u t)
theorem Reps.take:∀{ds:List D} {vs:List V} (n:Nat),Reps K F ds vs→Reps K F (ds.take n) (vs.take n)
 |_,_,0,_=>by simp only[List.take_zero];exact Reps.nil
 |[],_,n+1,r=>by simp only[Reps] at r;subst r;simp only[List.take_nil];exact Reps.nil
 |d::ds,_,n+1,r=>by
  simp only[Reps] at r
  obtain⟨v,r',rfl,q,u⟩:=r
  exact Reps.cons q (Reps.take n u)
theorem Reps.drop:∀{ds:List D} {vs:List V} (n:Nat),Reps K F ds vs→Reps K F (ds.drop n) (vs.drop n)
 |_,_,0,r=>r
 |[],_,n+1,r=>by simp only[Reps] at r;subst r;simp only[List.drop_nil];exact Reps.nil
 |d::ds,_,n+1,r=>by
  simp only[Reps] at r
  obtain⟨v,r',rfl,q,u⟩:=r
  exact Reps.drop n u
theorem Reps.set{d:D}{v:V}(h:Rep K F d v):∀{ds:List D} {vs:List V} (i:Nat),Reps K F ds vs→Reps K F (ds.set i d) (vs.set i v)
 |[],_,_,r=>by simp only[Reps] at r;subst r;exact Reps.nil
 |e::ds,_,0,r=>by
  simp only[Reps] at r
  obtain⟨w,r',rfl,q,u⟩:=r
  exact Reps.cons h u
 |e::ds,_,i+1,r=>by
  simp only[Reps] at r
  obtain⟨w,r',rfl,q,u⟩:=r
  exact Reps.cons q (Reps.set h i u)
theorem Reps.one{d:D}{vs:List V}(h:Reps K F [d] vs):∃v,vs=[v]∧Rep K F d v:=by
 simp only[Reps] at h
 obtain⟨v,r,e,q,e2⟩:=h
 subst e2;exact⟨v,e,q⟩
theorem Reps.two{d e:D}{vs:List V}(h:Reps K F [d,e] vs):∃v w,vs=[v,w]∧Rep K F d v∧Rep K F e w:=by
 simp only[Reps] at h
 obtain⟨v,r,e1,q,w,r2,e2,q2,e3⟩:=h
 subst e3;subst e2;exact⟨v,w,e1,q,q2⟩
theorem Reps.rep{ds:List D}{vs:List V}(h:Reps K F ds vs):∀k:Nat,Reps K F (List.replicate k ds).flatten (List.replicate k vs).flatten
 |0=>Reps.nil
 |k+1=>by
  rw[replicate_succ,replicate_succ,flatten_cons,flatten_cons]
  exact Reps.append h (Reps.rep h k)
theorem Reps.ints:∀(ns:List Int),Reps K F (ns.map D.int) (ns.map V.int)
 |[]=>Reps.nil
 |n::r=>Reps.cons (by simp only[Rep]) (Reps.ints r)
end
class Tabs where
 rows:List (Addr×Nat×Nat×Str)
 own:Str→Str→Bool
def Yv(c:Addr)(q:Str):Heap→Prop:=fun h=>h.CodeRec (.ref c) q
def TOk(F H:Hp)(r:Addr×Nat×Nat×Str):Prop:=F r.1=none∧(H r.1=some (.tbl #[])∨∃c,H r.1=some (.tbl #[rawInt r.2.1,rawInt r.2.2.1,.ref c])∧H c=some (.ext (Yv c r.2.2.2)))
variable[Tabs]
def OwnOk(H:Hp):Prop:=∀d a,H d=some (.own a)→∃C dx vs,H a=some (.ins C dx vs)
def TbT(F H:Hp):Prop:=(∀r∈Tabs.rows,TOk F H r)∧OwnOk H
omit [Tabs] in
theorem TOk.step{F H F' H':Hp}{r:Addr×Nat×Nat×Str}(t:TOk F H r)(nw:∀a o,F' a=some o→F a=some o∨H a=none)(k:∀a o,H a=some o→(∀vs,o≠.lst vs)→H' a=some o):TOk F' H' r:=by
 have hn:∀ps,H r.1=some (.tbl ps)→F' r.1=none:=fun ps e=>by
  cases q:F' r.1 with
  |none=>rfl
  |some o=>
   rcases nw _ _ q with z|z
   ·rw[t.1] at z;cases z
   ·rw[e] at z;cases z
 rcases t.2 with e|⟨c,e,e2⟩
 ·exact⟨hn _ e,.inl (k _ _ e fun _ z=>nomatch z)⟩
 ·exact⟨hn _ e,.inr ⟨c,k _ _ e (fun _ z=>nomatch z),k _ _ e2 fun _ z=>nomatch z⟩⟩
theorem TbT.step{F H F' H':Hp}(t:TbT F H)(nw:∀a o,F' a=some o→F a=some o∨H a=none)(k:∀a o,H a=some o→(∀vs,o≠.lst vs)→H' a=some o)(no:∀d a,H' d=some (.own a)→H d=some (.own a)):TbT F' H':=⟨fun r hr=>(t.1 r hr).step nw k,fun d a e=>by
 obtain⟨C,dx,vs,h⟩:=t.2 d a (no d a e)
 exact⟨C,dx,vs,k _ _ h fun _ z=>nomatch z⟩⟩
theorem TbT.freeze{F H:Hp}{a:Addr}{vs:List V}{o:HO}(t:TbT F H)(e:H a=some (.lst vs)):TbT (upd F a o) H:=⟨fun r hr=>by
 obtain⟨t1,t2⟩:=t.1 r hr
 have:r.1≠a:=fun z=>by
  rw[z,e] at t2
  rcases t2 with q|⟨c,q,_⟩ <;> cases q
 exact⟨by rw[zB this];exact t1,t2⟩,t.2⟩
def Kp:HO→Option HO→Prop
 |.tbl _,r=>∃ps,r=some (.tbl ps)
 |o,r=>r=some o
def Hh(H H':Hp):Prop:=∀b o,H b=some o→Kp o (H' b)
omit [Tabs] in
theorem Kp.of{o:HO}{r:Option HO}(h:r=some o):Kp o r:=by cases o <;> first|exact h|exact⟨_,h⟩
omit [Tabs] in
theorem Kp.some{o:HO}{r:Option HO}(h:Kp o r):r≠none:=by
 cases o <;> first | (obtain⟨_,h⟩:=h;rw[h];simp) | (have h:r=_:=h;rw[h];simp)
omit [Tabs] in
theorem Hh.of{H H':Hp}(h:Same H H'):Hh H H':=fun b o e=>.of (h b o e)
omit [Tabs] in
theorem Hh.refl(H:Hp):Hh H H:=.of (Same.refl H)
omit [Tabs] in
theorem Hh.trans{H H1 H2:Hp}(a:Hh H H1)(b:Hh H1 H2):Hh H H2:=fun c o e=>by
 have k:=a c o e
 cases o <;> first|exact b c _ k | (obtain⟨ps,q⟩:=k;show ∃ps,H2 c=some (.tbl ps);exact b c _ q)
omit [Tabs] in
theorem vm{F H:Hp}(h:Hh F H){a:Addr}(e:H a=none):F a=none:=by
 cases q:F a with
 |none=>rfl
 |some o=>exact absurd e (h a o q).some
structure Ext(F H F' H':Hp):Prop where
 ff:Same F F'
 hh:Hh H H'
 fh:Same F' H'
 nw:∀a o,F' a=some o→F a=some o∨H a=none
 tt:TbT F H→TbT F' H'
theorem Ext.refl{F H:Hp}(h:Same F H):Ext F H F H:=⟨Same.refl F,Hh.refl H,h,fun _ _ e=>.inl e,id⟩
theorem Ext.trans{F H F1 H1 F2 H2:Hp}(a:Ext F H F1 H1)(b:Ext F1 H1 F2 H2):Ext F H F2 H2:=
 ⟨a.ff.trans b.ff,a.hh.trans b.hh,b.fh,fun c o e=>by
  rcases b.nw c o e with q|q
  ·exact a.nw c o q
  ·exact .inr (vm a.hh q),fun t=>b.tt (a.tt t)⟩
omit [Tabs] in
theorem yi{F H:Hp}(h:Same F H){a:Addr}(e:H a=none):F a=none:=by
 cases q:F a with
 |none=>rfl
 |some o=>rw[h a o q] at e;cases e
omit [Tabs] in
theorem yD{H:Hp}{p:Addr}{o:HO}(h:H p=none):Same H (upd H p o):=fun b u q=>by rw[zB (z9 q h)];exact q
omit [Tabs] in
theorem U4{F H:Hp}{p:Addr}{o:HO}(h:Same F H)(hp:H p=none):Same (upd F p o) (upd H p o):=fun b u q=>by
 by_cases hb:b=p
 ·subst hb;rw[zG] at q ⊢;exact q
 ·rw[zB hb] at q ⊢;exact h b u q
theorem Ext.same{F H F' H':Hp}(ff:Same F F')(hh:Same H H')(fh:Same F' H')(nw:∀a o,F' a=some o→F a=some o∨H a=none)(no:∀d a,H' d=some (.own a)→H d=some (.own a)):Ext F H F' H':=⟨ff,.of hh,fh,nw,fun t=>t.step nw (fun a o e _=>hh a o e) no⟩
omit [Tabs] in
theorem j3{H:Hp}{p:Addr}{o:HO}(ho:∀a,o≠.own a):∀d a,upd H p o d=some (.own a)→H d=some (.own a):=fun d a e=>by
 by_cases h:d=p
 ·subst h;rw[zG] at e;cases e;exact absurd rfl (ho a)
 ·rw[zB h] at e;exact e
theorem Ext.new{F H:Hp}{p:Addr}{o:HO}(h:Same F H)(hp:H p=none)(ho:∀a,o≠.own a:=by intro _ h;cases h):Ext F H (upd F p o) (upd H p o):=
 .same (yD (yi h hp)) (yD hp) (U4 h hp) (fun a u e=>by
  by_cases hb:a=p
  ·subst hb;exact .inr hp
  ·rw[zB hb] at e;exact .inl e) (j3 ho)
theorem Ext.open{F H:Hp}{p:Addr}{o:HO}(h:Same F H)(hp:H p=none)(ho:∀a,o≠.own a:=by intro _ h;cases h):Ext F H F (upd H p o):=
 .same (Same.refl F) (yD hp) (h.trans (yD hp)) (fun a u e=>.inl e) (j3 ho)
inductive Sl where
 | val (d:D)
 | own (ds:List D)
 | obj (n:Nat) (c:Str) (fs:List (Str×D))
 | obr (c:Str) (fs:List (Str×D))
abbrev DS:=List (Option Sl)
def OwnF(K:PySem.W.Frag)(F H:Hp)(d:D)(v:V):Prop:=∃ds l ws,d=.lst ds∧v=.ref l∧H l=some (.lst ws)∧F l=none∧Reps K F ds ws
def zd2(K:PySem.W.Frag)(F H:Hp)(c f:Str)(d:D)(v:V):Prop:=if Tabs.own c f=true then OwnF K F H d v else Rep K F d v
def Flds(K:PySem.W.Frag)(F H:Hp)(c:Str):List (Str×D)→List (Str×V)→Prop
 |[],[]=>True
 | (f,d)::r,(g,v)::s=>f=g∧zd2 K F H c f d v∧Flds K F H c r s
 |_,_=>False
def Zt(c:Str):List (Str×V)→List Addr
 |[]=>[]
 | (f,v)::r=>if Tabs.own c f=true then (match v with
  |.ref l=>l::Zt c r
  |_=>Zt c r) else Zt c r
def Lof(H:Hp)(c:Str)(a:Addr):List Addr:=match H a with
 | some (.ins _ _ vs)=>Zt c vs
 |_=>[]
theorem Lof.ins{H:Hp}{c:Str}{a C dx:Addr}{vs:List (Str×V)}(h:H a=some (.ins C dx vs)):Lof H c a=Zt c vs:=by unfold Lof;rw[h]
theorem Flds.own{K:PySem.W.Frag}{F H:Hp}{c:Str}{l:Addr}:∀{fs:List (Str×D)} {vs:List (Str×V)},Flds K F H c fs vs→l∈Zt c vs→F l=none∧∃ws,H l=some (.lst ws)
 |[],[],_,h=>by cases h
 | (f,d)::r,(g,v)::s,q,h=>by
  obtain⟨rfl,q2,q3⟩:=q
  unfold Zt at h
  unfold zd2 at q2
  by_cases z:Tabs.own c f=true
  ·rw[if_pos z] at h q2
   obtain⟨ds,l',ws,e1,rfl,e3,e4,e5⟩:=q2
   rcases mem_cons.mp h with rfl|h
   ·exact⟨e4,ws,e3⟩
   ·exact Flds.own q3 h
  ·rw[if_neg z] at h
   exact Flds.own q3 h
 |[],_::_,q,_=>q.elim
 |_::_,[],q,_=>q.elim
theorem Flds.keep{K:PySem.W.Frag}{F H F' H':Hp}{c:Str}(hf:Same F F'):∀{fs:List (Str×D)} {vs:List (Str×V)},Flds K F H c fs vs→(∀l ws,l∈Zt c vs→H l=some (.lst ws)→F l=none→H' l=some (.lst ws)∧F' l=none)→Flds K F' H' c fs vs
 |[],[],_,_=>trivial
 | (f,d)::r,(g,v)::s,q,k=>by
  obtain⟨rfl,q2,q3⟩:=q
  refine⟨rfl,?_,Flds.keep hf q3 fun l ws hl=>k l ws ?_⟩
  ·unfold zd2 at q2 ⊢
   by_cases z:Tabs.own c f=true
   ·rw[if_pos z] at q2 ⊢
    obtain⟨ds,l,ws,e1,rfl,e3,e4,e5⟩:=q2
    obtain⟨k1,k2⟩:=k l ws (by unfold Zt;rw[if_pos z];exact mem_cons_self) e3 e4
    exact⟨ds,l,ws,e1,rfl,k1,k2,e5.mono hf⟩
   ·rw[if_neg z] at q2 ⊢;exact q2.mono hf
  ·unfold Zt
   by_cases z:Tabs.own c f=true
   ·rw[if_pos z]
    cases v with
    |ref l'=>exact mem_cons_of_mem _ hl
    |_=>exact hl
   ·rw[if_neg z];exact hl
 |[],_::_,q,_=>q.elim
 |_::_,[],q,_=>q.elim
def ObAt(K:PySem.W.Frag)(F H:Hp)(c:Str)(fs:List (Str×D))(a:Addr):Prop:=∃C dx vs,H a=some (.ins C dx vs)∧F a=none∧nsIn K mainGlobals c=some (some (.ref C))∧Flds K F H c fs vs∧H dx=some (.own a)∧(Zt c vs).Nodup
def ObS(s:Option (Option Sl))(c:Str):Prop:=(∃n fs,s=some (some (.obj n c fs)))∨∃fs,s=some (some (.obr c fs))
structure ObsOk(K:PySem.W.Frag)(F:Hp)(τ:DS)(σ:St)(H:Hp):Prop where
 at_:∀(i n:Nat) (c:Str) (fs:List (Str×D)),τ[i]?=some (some (.obj n c fs))→∃a,σ[i]?=some (some (.ref a))∧ObAt K F H c fs a
 dis:∀(i j n:Nat) (c c':Str) (fs:List (Str×D)) (a:Addr),i≠j→τ[i]?=some (some (.obj n c fs))→ObS τ[j]? c'→σ[i]?=some (some (.ref a))→σ[j]?=some (some (.ref a))→False
 rd:∀(i:Nat) (c:Str) (fs:List (Str×D)),τ[i]?=some (some (.obr c fs))→∃a C dx vs,σ[i]?=some (some (.ref a))∧H a=some (.ins C dx vs)∧nsIn K mainGlobals c=some (some (.ref C))∧Flds K F H c fs vs
 ll:∀(i j n:Nat) (c c':Str) (fs:List (Str×D)) (a a' l:Addr),i≠j→τ[i]?=some (some (.obj n c fs))→ObS τ[j]? c'→σ[i]?=some (some (.ref a))→σ[j]?=some (some (.ref a'))→l∈Lof H c a→l∈Lof H c' a'→False
 lo:∀(i j:Nat) (c:Str) (ds:List D) (a l:Addr),ObS τ[i]? c→τ[j]?=some (some (.own ds))→σ[i]?=some (some (.ref a))→σ[j]?=some (some (.ref l))→l∈Lof H c a→False
def Gk:Option Sl→Bool
 | some (.obj _ _ _)=>true
 | some (.obr _ _)=>true
 |_=>false
def noObj(τ:DS):Prop:=∀(i:Nat) s,τ[i]?=some s→Gk s=false
omit [Tabs] in
theorem noObj.obs{τ:DS}(n:noObj τ){i:Nat}{c:Str}(h:ObS τ[i]? c):False:=by
 rcases h with ⟨m,fs,h⟩|⟨fs,h⟩
 ·have:=n i _ h;cases this
 ·have:=n i _ h;cases this
theorem ObsOk.none{K:PySem.W.Frag}{F H:Hp}{τ:DS}{σ:St}(n:noObj τ):ObsOk K F τ σ H:=
 ⟨fun i m c fs h=>(by have:=n i _ h;cases this),fun i j m c c' fs a _ h=>(by have:=n i _ h;cases this),fun i c fs h=>(by have:=n i _ h;cases this),fun i j m c c' fs a a' l _ h=>(by have:=n i _ h;cases this),fun i j c ds a l h=>(n.obs h).elim⟩
theorem ObsOk.get{K:PySem.W.Frag}{F H:Hp}{τ:DS}{σ:St}{i:Nat}{c:Str}(o:ObsOk K F τ σ H)(h:ObS τ[i]? c):∃a C dx vs fs,σ[i]?=some (some (.ref a))∧H a=some (.ins C dx vs)∧Flds K F H c fs vs:=by
 rcases h with ⟨m,fs,h⟩|⟨fs,h⟩
 ·obtain⟨a,h1,C,dx,vs,h2,_,_,h5,_⟩:=o.at_ i m c fs h
  exact⟨a,C,dx,vs,fs,h1,h2,h5⟩
 ·obtain⟨a,C,dx,vs,h1,h2,_,h5⟩:=o.rd i c fs h
  exact⟨a,C,dx,vs,fs,h1,h2,h5⟩
theorem ObsOk.keep{K:PySem.W.Frag}{F H F' H':Hp}{τ:DS}{σ:St}(o:ObsOk K F τ σ H)(hf:Same F F')(hi:∀a C dx vs,H a=some (.ins C dx vs)→H' a=some (.ins C dx vs))(hn:∀a C dx vs,H a=some (.ins C dx vs)→F a=Option.none→F' a=Option.none)(hd:∀d a,H d=some (.own a)→H' d=some (.own a))
  (hl:∀(i:Nat) (c:Str) (a l:Addr) (ws:List V),ObS τ[i]? c→σ[i]?=some (some (.ref a))→l∈Lof H c a→H l=some (.lst ws)→F l=Option.none→H' l=some (.lst ws)∧F' l=Option.none):ObsOk K F' τ σ H':=by
 have lof:∀{i:Nat} {c:Str} {a:Addr},ObS τ[i]? c→σ[i]?=some (some (.ref a))→Lof H' c a=Lof H c a:=fun {i c a} h e=>by
  obtain⟨a',C,dx,vs,fs,h1,h2,_⟩:=o.get h
  rw[e] at h1;cases h1
  rw[Lof.ins h2,Lof.ins (hi _ _ _ _ h2)]
 refine⟨fun i m c fs h=>?_,o.dis,fun i c fs h=>?_,fun i j m c c' fs a a' l hij h1 h2 h3 h4 h5 h6=>?_,fun i j c ds a l h1 h2 h3 h4 h5=>?_⟩
 ·obtain⟨a,h1,C,dx,vs,h2,h3,h4,h5,h6,h7⟩:=o.at_ i m c fs h
  exact⟨a,h1,C,dx,vs,hi _ _ _ _ h2,hn _ _ _ _ h2 h3,h4,h5.keep hf fun l ws q=>hl i c a l ws (.inl ⟨m,fs,h⟩) h1 (by rw[Lof.ins h2];exact q),hd _ _ h6,h7⟩
 ·obtain⟨a,C,dx,vs,h1,h2,h4,h5⟩:=o.rd i c fs h
  exact⟨a,C,dx,vs,h1,hi _ _ _ _ h2,h4,h5.keep hf fun l ws q=>hl i c a l ws (.inr ⟨fs,h⟩) h1 (by rw[Lof.ins h2];exact q)⟩
 ·rw[lof (.inl ⟨m,fs,h1⟩) h3] at h5
  rw[lof h2 h4] at h6
  exact o.ll i j m c c' fs a a' l hij h1 h2 h3 h4 h5 h6
 ·rw[lof h1 h3] at h5
  exact o.lo i j c ds a l h1 h2 h3 h4 h5
theorem ObsOk.ext{K:PySem.W.Frag}{F H F' H':Hp}{τ:DS}{σ:St}(o:ObsOk K F τ σ H)(x:Ext F H F' H'):ObsOk K F' τ σ H':=by
 have nF:∀{a:Addr} {u:HO},H a=some u→F a=Option.none→F' a=Option.none:=fun {a u} h h3=>by
  cases q:F' a with
  |none=>rfl
  |some w=>
   rcases x.nw a w q with z|z
   ·rw[h3] at z;cases z
   ·rw[h] at z;cases z
 exact o.keep x.ff (fun a C dx vs h=>x.hh _ _ h) (fun a C dx vs h=>nF h) (fun d a h=>x.hh _ _ h) fun i c a l ws _ _ _ h h3=>⟨x.hh _ _ h,nF h h3⟩
theorem ObsOk.updL{K:PySem.W.Frag}{F H:Hp}{τ:DS}{σ:St}{p:Addr}{u:HO}(o:ObsOk K F τ σ H)(hl:H p=.none∨∃vs,H p=some (.lst vs))(hp:∀(i:Nat) (c:Str) (a:Addr),ObS τ[i]? c→σ[i]?=some (some (.ref a))→p∉Lof H c a):ObsOk K F τ σ (upd H p u):=by
 have ne:∀{a:Addr} {w:HO},H a=some w→(∀vs,w≠.lst vs)→a≠p:=fun {a w} h n z=>by
  subst z
  rcases hl with z|⟨ws,z⟩
  ·rw[z] at h;cases h
  ·rw[z] at h;cases h;exact n _ rfl
 refine o.keep (Same.refl F) (fun a C dx vs h=>?_) (fun a C dx vs _ h=>h) (fun d a h=>?_) fun i c a l ws h1 h2 h3 h4 h5=>⟨?_,h5⟩
 ·rw[zB (ne h fun _ z=>nomatch z)];exact h
 ·rw[zB (ne h fun _ z=>nomatch z)];exact h
 ·have:l≠p:=fun z=>by subst z;exact hp i c a h1 h2 h3
  rw[zB this];exact h4
omit [Tabs] in
theorem yT{τ:DS}{i j:Nat}{s u:Option Sl}(hs:Gk s=false)(hu:Gk u=true)(h:(τ.set i s)[j]?=some u):i≠j∧τ[j]?=some u:=by
 by_cases hij:i=j
 ·subst hij
  rw[getElem?_set] at h
  simp only[if_true] at h
  split at h
  ·cases h;rw[hs] at hu;cases hu
  ·cases h
 ·rw[getElem?_set_ne hij] at h;exact⟨hij,h⟩
omit [Tabs] in
theorem uM{τ:DS}{i j:Nat}{s:Option Sl}{c:Str}(hs:Gk s=false)(h:ObS (τ.set i s)[j]? c):i≠j∧ObS τ[j]? c:=by
 rcases h with ⟨n,fs,h⟩|⟨fs,h⟩
 ·obtain⟨a,b⟩:=yT hs rfl h;exact⟨a,.inl ⟨n,fs,b⟩⟩
 ·obtain⟨a,b⟩:=yT hs rfl h;exact⟨a,.inr ⟨fs,b⟩⟩
theorem ObsOk.put{K:PySem.W.Frag}{F H:Hp}{τ:DS}{σ:St}{i:Nat}{s:Option Sl}{v:Option V}(o:ObsOk K F τ σ H)(hs:Gk s=false)(hw:∀ds l,s=some (.own ds)→v=some (.ref l)→∀(j:Nat) (c:Str) (a:Addr),ObS τ[j]? c→σ[j]?=some (some (.ref a))→l∉Lof H c a):ObsOk K F (τ.set i s) (σ.set i v) H:=
 ⟨fun j m c fs h=>by
  obtain⟨n,h⟩:=yT hs rfl h
  rw[getElem?_set_ne n];exact o.at_ j m c fs h,
  fun j k m c c' fs a hjk h1 h2 h3 h4=>by
   obtain⟨n1,h1⟩:=yT hs rfl h1
   obtain⟨n2,h2⟩:=uM hs h2
   rw[getElem?_set_ne n1] at h3
   rw[getElem?_set_ne n2] at h4
   exact o.dis j k m c c' fs a hjk h1 h2 h3 h4,
  fun j c fs h=>by
   obtain⟨n,h⟩:=yT hs rfl h
   rw[getElem?_set_ne n];exact o.rd j c fs h,
  fun j k m c c' fs a a' l hjk h1 h2 h3 h4=>by
   obtain⟨n1,h1⟩:=yT hs rfl h1
   obtain⟨n2,h2⟩:=uM hs h2
   rw[getElem?_set_ne n1] at h3
   rw[getElem?_set_ne n2] at h4
   exact o.ll j k m c c' fs a a' l hjk h1 h2 h3 h4,
  fun j k c ds a l h1 h2 h3 h4 h5=>by
   obtain⟨n1,g1⟩:=uM hs h1
   rw[getElem?_set_ne n1] at h3
   by_cases e:i=k
   ·subst e
    rw[getElem?_set] at h2 h4
    simp only[if_true] at h2 h4
    split at h2
    ·split at h4
     ·exact hw ds l (by simpa using h2) (by simpa using h4) j c a g1 h3 h5
     ·cases h4
    ·cases h2
   ·rw[getElem?_set_ne e] at h2 h4
    exact o.lo j k c ds a l g1 h2 h3 h4 h5⟩
theorem ObsOk.putS{K:PySem.W.Frag}{F H:Hp}{τ:DS}{σ:St}{i:Nat}{ds es:List D}(o:ObsOk K F τ σ H)(hi:τ[i]?=some (some (.own ds))):ObsOk K F (τ.set i (some (.own es))) σ H:=
 ⟨fun j m c fs h=>o.at_ j m c fs (yT (s:=some (.own es)) rfl rfl h).2,fun j k m c c' fs a hjk h1 h2=>o.dis j k m c c' fs a hjk (yT (s:=some (.own es)) rfl rfl h1).2 (uM (s:=some (.own es)) rfl h2).2,fun j c fs h=>o.rd j c fs (yT (s:=some (.own es)) rfl rfl h).2,
  fun j k m c c' fs a a' l hjk h1 h2=>o.ll j k m c c' fs a a' l hjk (yT (s:=some (.own es)) rfl rfl h1).2 (uM (s:=some (.own es)) rfl h2).2,fun j k c ds' a l h1 h2 h3 h4 h5=>by
   have h1:=(uM (s:=some (.own es)) rfl h1).2
   by_cases e:i=k
   ·subst e;exact o.lo j i c ds a l h1 hi h3 h4 h5
   ·rw[getElem?_set_ne e] at h2;exact o.lo j k c ds' a l h1 h2 h3 h4 h5⟩
theorem ObsOk.fresh{K:PySem.W.Frag}{F H:Hp}{τ:DS}{σ:St}{p:Addr}(o:ObsOk K F τ σ H)(hp:H p=.none):∀(i:Nat) (c:Str) (a:Addr),ObS τ[i]? c→σ[i]?=some (some (.ref a))→p∉Lof H c a:=fun i c a h e hl=>by
 obtain⟨a',C,dx,vs,fs,h1,h2,h3⟩:=o.get h
 rw[e] at h1;cases h1
 rw[Lof.ins h2] at hl
 obtain⟨_,ws,q⟩:=h3.own hl
 rw[hp] at q;cases q
theorem ObsOk.lof{K:PySem.W.Frag}{F H:Hp}{τ:DS}{σ:St}{i:Nat}{c:Str}{a p:Addr}{u:HO}(o:ObsOk K F τ σ H)(h1:ObS τ[i]? c)(h2:σ[i]?=some (some (.ref a)))(hl:H p=.none∨∃vs,H p=some (.lst vs)):Lof (upd H p u) c a=Lof H c a:=by
 obtain⟨a',C,dx,vs,fs,h3,h4,_⟩:=o.get h1
 rw[h2] at h3;cases h3
 have:a≠p:=fun z=>by
  subst z
  rcases hl with z|⟨ws,z⟩
  ·rw[z] at h4;cases h4
  ·rw[z] at h4;cases h4
 rw[Lof.ins h4,Lof.ins (show upd H p u a=some (.ins C dx vs) by rw[zB this];exact h4)]
structure RV(K:PySem.W.Frag)(F:Hp)(τ:DS)(σ:St)(H:Hp):Prop where
 fh:Same F H
 len:τ.length=σ.length
 val:∀(i:Nat) (d:D),τ[i]?=some (some (.val d))→∃v,σ[i]?=some (some v)∧Rep K F d v
 own:∀(i:Nat) (ds:List D),τ[i]?=some (some (.own ds))→∃a vs,σ[i]?=some (some (.ref a))∧H a=some (.lst vs)∧F a=none∧Reps K F ds vs
 dis:∀(i j:Nat) (ds es:List D) (a:Addr),i≠j→τ[i]?=some (some (.own ds))→τ[j]?=some (some (.own es))→σ[i]?=some (some (.ref a))→σ[j]?=some (some (.ref a))→False
 tt:TbT F H
 ob:ObsOk K F τ σ H
theorem RV.ext{K:PySem.W.Frag}{F H F' H':Hp}{τ:DS}{σ:St}(R:RV K F τ σ H)(x:Ext F H F' H'):RV K F' τ σ H':=
 ⟨x.fh,R.len,fun i d e=>by
  obtain⟨v,h1,h2⟩:=R.val i d e
  exact⟨v,h1,h2.mono x.ff⟩,
  fun i ds e=>by
   obtain⟨a,vs,h1,h2,h3,h4⟩:=R.own i ds e
   refine⟨a,vs,h1,x.hh _ _ h2,?_,h4.mono x.ff⟩
   cases q:F' a with
   |none=>rfl
   |some o=>
    rcases x.nw a o q with z|z
    ·rw[h3] at z;cases z
    ·rw[h2] at z;exact absurd z (by simp),
  R.dis,x.tt R.tt,R.ob.ext x⟩
structure RS(K:PySem.W.Frag)(B Z F:Hp)(τ:DS)(σ:St)(H:Hp):Prop where
 rv:RV K F τ σ H
 bh:Hh B H
 zf:Same Z F
 nb:∀a o,F a=some o→Z a=some o∨B a=none
 ob:∀(i:Nat) (ds:List D) (a:Addr),τ[i]?=some (some (.own ds))→σ[i]?=some (some (.ref a))→B a=none
 oo:∀(i n:Nat) (c:Str) (fs:List (Str×D)) (a:Addr),τ[i]?=some (some (.obj n c fs))→σ[i]?=some (some (.ref a))→B a=none∧∀l∈Lof H c a,B l=none
 sf:∀(a0 dx:Addr),B dx=some (.own a0)→B a0=none→∀(i n:Nat) (c:Str) (fs:List (Str×D)),τ[i]?=some (some (.obj (n+1) c fs))→σ[i]?=some (some (.ref a0))
 ro:∀(i:Nat) (c:Str) (fs:List (Str×D)) (a:Addr),τ[i]?=some (some (.obr c fs))→σ[i]?=some (some (.ref a))→∃C dx vs,B a=some (.ins C dx vs)∧∀l∈Zt c vs,∃ws,B l=some (.lst ws)
theorem RS.ext{K:PySem.W.Frag}{B Z F H F' H':Hp}{τ:DS}{σ:St}(R:RS K B Z F τ σ H)(x:Ext F H F' H'):RS K B Z F' τ σ H':=
 ⟨R.rv.ext x,R.bh.trans x.hh,R.zf.trans x.ff,fun a o e=>by
  rcases x.nw a o e with q|q
  ·exact R.nb a o q
  ·exact .inr (vm R.bh q),R.ob,fun i n c fs a h1 h2=>by
  obtain⟨q1,q2⟩:=R.oo i n c fs a h1 h2
  refine⟨q1,fun l hl=>q2 l ?_⟩
  obtain⟨a',h3,C,dx,vs,h4,_⟩:=R.rv.ob.at_ i n c fs h1
  rw[h2] at h3;cases h3
  rw[Lof.ins h4]
  rw[Lof.ins (x.hh _ _ h4:H' a=some (.ins C dx vs))] at hl
  exact hl,R.sf,R.ro⟩
theorem RS.out{K:PySem.W.Frag}{B Z F H:Hp}{τ:DS}{σ:St}(R:RS K B Z F τ σ H):Ext Z B F H:=⟨R.zf,R.bh,R.rv.fh,R.nb,fun _=>R.rv.tt⟩
def Xob(X:Cx)(c:Str):Prop:=∀e s',X.xe e s'
def Ok(X:Cx){α:Type}(r:Rs α)(P:α→Prop):Prop:=match r with
 |.ok a=>P a
 |.ex c=>Xob X c
 |.no=>False
theorem Ok.bind{X:Cx}{α β:Type}{r:Rs α}{k:α→Rs β}{P:β→Prop}(h:Ok X (r.bind k) P):Ok X r fun a=>Ok X (k a) P:=by
 cases r <;> exact h
theorem Ok.imp{X:Cx}{α:Type}{r:Rs α}{P Q:α→Prop}(h:Ok X r P)(f:∀a,P a→Q a):Ok X r Q:=by
 cases r with
 |ok a=>exact f a h
 |ex c=>exact h
 |no=>exact h
abbrev FE:=DS→Rs D
abbrev FA:=DS→Rs (List D)
abbrev FT:=DS→Rs Bool
def Ev(K:PySem.W.Frag)(F H:Hp)(Q:VK)(d:D):Prop:=∀v F' H',Ext F H F' H'→Rep K F' d v→Q v H'
def Evs(K:PySem.W.Frag)(F H:Hp)(Q:List V→Hp→Prop)(ds:List D):Prop:=∀vs F' H',Ext F H F' H'→Reps K F' ds vs→Q vs H'
def Evb(F H:Hp)(Q:Bool→Hp→Prop)(b:Bool):Prop:=∀F' H',Ext F H F' H'→Q b H'
theorem Ev.ext{K:PySem.W.Frag}{F H F1 H1:Hp}{Q:VK}{d:D}(h:Ev K F H Q d)(x:Ext F H F1 H1):Ev K F1 H1 Q d:=fun v F' H' y r=>h v F' H' (x.trans y) r
theorem Evb.ext{F H F1 H1:Hp}{Q:Bool→Hp→Prop}{d:Bool}(h:Evb F H Q d)(x:Ext F H F1 H1):Evb F1 H1 Q d:=fun F' H' y=>h F' H' (x.trans y)
def tE(X:Cx)(f:FE):TE:=fun σ H Q=>∃F τ,RV X.K F τ σ H∧Ok X (f τ) (Ev X.K F H Q)
def tAs(X:Cx)(f:FA):TA:=fun σ H Q=>∃F τ,RV X.K F τ σ H∧Ok X (f τ) (Evs X.K F H Q)
def tTs(X:Cx)(f:FT):TT:=fun σ H Q=>∃F τ,RV X.K F τ σ H∧Ok X (f τ) (Evb F H Q)
def PDE(X:Cx)(e:Expr)(f:FE):Prop:=PE X e (tE X f)
def PDA(X:Cx)(e:List Expr)(f:FA):Prop:=PA X e (tAs X f)
def PDT(X:Cx)(e:Expr)(f:FT):Prop:=PT X e (tTs X f)
def PDW(X:Cx)(e:Expr)(f:FT):Prop:=PW X e (tTs X f)
theorem _root_.L2.PE.imp{X:Cx}{e:Expr}{t t':TE}(h:PE X e t)(f:∀σ H Q,t' σ H Q→t σ H Q):PE X e t':=fun pins s σ H Q I q=>h pins s σ H Q I (f _ _ _ q)
theorem _root_.L2.PT.imp{X:Cx}{e:Expr}{t t':TT}(h:PT X e t)(f:∀σ H Q,t' σ H Q→t σ H Q):PT X e t':=fun pins s σ H Q I q=>h pins s σ H Q I (f _ _ _ q)
theorem _root_.L2.PW.imp{X:Cx}{e:Expr}{t t':TT}(h:PW X e t)(f:∀σ H Q,t' σ H Q→t σ H Q):PW X e t':=fun w pins s σ H Q I q=>h w pins s σ H Q I (f _ _ _ q)
theorem _root_.L2.PA.imp{X:Cx}{e:List Expr}{t t':TA}(h:PA X e t)(f:∀σ H Q,t' σ H Q→t σ H Q):PA X e t':=fun p pins s σ H Q I q=>h p pins s σ H Q I (f _ _ _ q)
theorem _root_.L2.PS.imp{X:Cx}{e:Stmt}{t t':TS}(h:PS X e t)(f:∀E σ H,t' E σ H→t E σ H):PS X e t':=fun pins s σ H Q I q=>h pins s σ H Q I (f _ _ _ q)
theorem _root_.L2.PSs.imp{X:Cx}{e:List Stmt}{t t':TS}(h:PSs X e t)(f:∀E σ H,t' E σ H→t E σ H):PSs X e t':=fun pins s σ H Q I q=>h pins s σ H Q I (f _ _ _ q)
theorem tE.of{X:Cx}{f:FE}{F H:Hp}{τ:DS}{σ:St}{Q:VK}{G:D→Prop}(R:RV X.K F τ σ H)(h:Ok X (f τ) G)
  (k:∀d v F1 H1,G d→Ext F H F1 H1→RV X.K F1 τ σ H1→Rep X.K F1 d v→Q v H1):tE X f σ H Q:=
 ⟨F,τ,R,h.imp fun d g v F1 H1 x r=>k d v F1 H1 g x (R.ext x) r⟩
theorem tAs.of{X:Cx}{f:FA}{F H:Hp}{τ:DS}{σ:St}{Q:List V→Hp→Prop}{G:List D→Prop}(R:RV X.K F τ σ H)(h:Ok X (f τ) G)
  (k:∀d v F1 H1,G d→Ext F H F1 H1→RV X.K F1 τ σ H1→Reps X.K F1 d v→Q v H1):tAs X f σ H Q:=
 ⟨F,τ,R,h.imp fun d g v F1 H1 x r=>k d v F1 H1 g x (R.ext x) r⟩
theorem tTs.of{X:Cx}{f:FT}{F H:Hp}{τ:DS}{σ:St}{Q:Bool→Hp→Prop}{G:Bool→Prop}(R:RV X.K F τ σ H)(h:Ok X (f τ) G)
  (k:∀b F1 H1,G b→Ext F H F1 H1→RV X.K F1 τ σ H1→Q b H1):tTs X f σ H Q:=
 ⟨F,τ,R,h.imp fun d g F1 H1 x=>k d F1 H1 g x (R.ext x)⟩
def zd(i:Nat):FE:=fun τ=>match τ[i]? with
 | some (some (.val d))=>.ok d
 |_=>.no
section
variable{X:Cx}{pos:Pos}
theorem zb{i:Nat}{x:Str}(h:PE X (.Name x pos) (YH i)):PDE X (.Name x pos) (zd i):=h.imp fun σ H Q ⟨F,τ,R,q⟩=>by
 unfold zd at q
 cases e:τ[i]? with
 |none=>rw[e] at q;exact q.elim
 |some o=>
  cases o with
  |none=>rw[e] at q;exact q.elim
  |some sl=>
   cases sl with
   |own ds=>rw[e] at q;exact q.elim
   |obj n c fs=>rw[e] at q;exact q.elim
   |obr c fs=>rw[e] at q;exact q.elim
   |val d=>
    rw[e] at q
    obtain⟨v,h1,h2⟩:=R.val i d e
    exact⟨v,h1,q v F H (Ext.refl R.fh) h2⟩
def eC(d:D):FE:=fun _=>.ok d
theorem Xc{e:Expr}{v:V}{d:D}(h:PE X e (tC v))(r:∀F,Rep X.K F d v):PDE X e (eC d):=h.imp fun σ H Q ⟨F,τ,R,q⟩=>q v F H (Ext.refl R.fh) (r F)
theorem zj{i j}:PDE X (.Constant (.int i) j pos) (eC (.int i)):=Xc LK fun _=>by simp only[Rep]
theorem vk{i j}:PDE X (.Constant (.bool i) j pos) (eC (.bl i)):=Xc TY fun _=>by simp only[Rep]
theorem xY{j}:PDE X (.Constant .none j pos) (eC .non):=Xc LJ fun _=>by simp only[Rep]
theorem vB{i j}:PDE X (.Constant (.str i) j pos) (eC (.str i)):=Xc LH fun _=>by simp only[Rep]
end
def OpD(X:Cx)(g:Value→Value→Sem Value)(op:D→D→Rs D):Prop:=∃r:R2,OpR X g r ∧
 ∀F H x y dx dy Q,Same F H→Rep X.K F dx x→Rep X.K F dy y→Ok X (op dx dy) (Ev X.K F H Q)→r x y H Q
def eOp(op:D→D→Rs D)(fa fb:FE):FE:=fun τ=>(fa τ).bind fun x=>(fb τ).bind fun y=>op x y
section
variable{X:Cx}{pos:Pos}{a b c:Expr}{fa fb fc:FE}
theorem Ul{r:R2}{op:D→D→Rs D}(hl:∀F H x y dx dy Q,Same F H→Rep X.K F dx x→Rep X.K F dy y→Ok X (op dx dy) (Ev X.K F H Q)→r x y H Q)
  (σ:St) (H:Hp) (Q:VK) (h:tE X (eOp op fa fb) σ H Q):tOp r (tE X fa) (tE X fb) σ H Q:=by
 obtain⟨F,τ,R,h⟩:=h
 refine tE.of R h.bind fun x u F1 H1 g x1 R1 r1=>?_
 refine tE.of R1 g.bind fun y v F2 H2 g2 x2 R2 r2=>?_
 exact hl F2 H2 u v x y Q R2.fh (r1.mono x2.ff) r2 (g2.imp fun d e=>e.ext (x1.trans x2))
theorem zx{o:Operator}{op:D→D→Rs D}(ho:OpD X (binaryOp o) op)(ha:PDE X a fa)(hb:PDE X b fb):PDE X (.BinOp a o b pos) (eOp op fa fb):=by
 obtain⟨r,h1,h2⟩:=ho
 exact(pe_op h1 ha hb).imp (Ul h2)
theorem w5{o:CmpOp}{op:D→D→Rs D}(ho:OpD X (compareOp o) op)(ha:PDE X a fa)(hb:PDE X b fb)(hm:behindInMarks o b=false):PDE X (.Compare a [o] [b] pos) (eOp op fa fb):=by
 obtain⟨r,h1,h2⟩:=ho
 exact(MC h1 ha hb hm).imp (Ul h2)
def tB(f:FE):FT:=fun τ=>(f τ).bind fun d=>match d with
 |.bl b=>.ok b
 |_=>.no
theorem V6{t:FE}{u:TE}(hi:∀σ H Q,tE X t σ H Q→u σ H Q)(σ:St)(H:Hp)(Q:Bool→Hp→Prop)(h:tTs X (tB t) σ H Q):J5 u σ H Q:=by
 obtain⟨F,τ,R,h⟩:=h
 refine hi σ H _ (tE.of R h.bind fun d v F1 H1 g x R1 r=>?_)
 cases d with
 |bl k=>simp only[Rep] at r;exact⟨k,r,g F1 H1 x⟩
 |_=>exact g.elim
theorem zY{o:CmpOp}{op:D→D→Rs D}(ho:OpD X (compareOp o) op)(ha:PDE X a fa)(hb:PDE X b fb)(hm:behindInMarks o b=false):PDT X (.Compare a [o] [b] pos) (tB (eOp op fa fb)):=by
 obtain⟨r,h1,h2⟩:=ho
 exact(Mr h1 ha hb hm).imp (V6 (Ul h2))
def Za(op op':D→D→Rs D)(fa fb fc:FE):FE:=fun τ=>(fa τ).bind fun x=>(fb τ).bind fun y=>(op x y).bind fun z=>match z with
 |.bl k=>if k=true then (fc τ).bind fun w=>op' y w else .ok (.bl false)
 |_=>.no
theorem GJ{r r':R2}{op op':D→D→Rs D}(hl:∀F H x y dx dy Q,Same F H→Rep X.K F dx x→Rep X.K F dy y→Ok X (op dx dy) (Ev X.K F H Q)→r x y H Q)
  (hl':∀F H x y dx dy Q,Same F H→Rep X.K F dx x→Rep X.K F dy y→Ok X (op' dx dy) (Ev X.K F H Q)→r' x y H Q)
  (σ:St) (H:Hp) (Q:VK) (h:tE X (Za op op' fa fb fc) σ H Q):J7 r r' (tE X fa) (tE X fb) (tE X fc) σ H Q:=by
 obtain⟨F,τ,R,h⟩:=h
 refine tE.of R h.bind fun x u F1 H1 g x1 R1 r1=>?_
 refine tE.of R1 g.bind fun y v F2 H2 g2 x2 R2 r2=>?_
 refine hl F2 H2 u v x y _ R2.fh (r1.mono x2.ff) r2 (g2.bind.imp fun z gz w F3 H3 x3 r3=>?_)
 cases z with
 |bl k=>
  simp only[Rep] at r3
  refine⟨k,r3,?_⟩
  cases k with
  |false=>rw[if_neg (by simp)];exact gz (.bl false) F3 H3 ((x1.trans x2).trans x3) (by simp only[Rep])
  |true=>
   rw[if_pos rfl]
   have gz:Ok X ((fc τ).bind fun w=>op' y w) (Ev X.K F H Q):=gz
   refine tE.of (R2.ext x3) gz.bind fun w' v' F4 H4 g4 x4 R4 r4=>?_
   exact hl' F4 H4 v v' y w' Q R4.fh (r2.mono (x3.ff.trans x4.ff)) r4 (g4.imp fun d e=>e.ext (((x1.trans x2).trans x3).trans x4))
 |_=>exact gz.elim
theorem Jb{o o':CmpOp}{op op':D→D→Rs D}(ho:OpD X (compareOp o) op)(ho':OpD X (compareOp o') op')(ha:PDE X a fa)(hb:PDE X b fb)(hc:PDE X c fc)
  (hm:lastMarks [o,o'] [b,c]=false:=by with_unfolding_all rfl):PDT X (.Compare a [o,o'] [b,c] pos) (tB (Za op op' fa fb fc)):=by
 obtain⟨r,h1,h2⟩:=ho
 obtain⟨r',h1',h2'⟩:=ho'
 exact(Qt h1 h1' ha hb hc hm).imp (V6 (GJ h2 h2'))
def uU:D→Rs Bool
 |.non=>.ok false
 |.bl b=>.ok b
 |.int i=>.ok (i != 0)
 |.str x=>if x.length≤sizeLine then .ok ((x.length:Int) != 0) else .no
 |.lst ds=>.ok (!ds.isEmpty)
 |.tup ds=>.ok (!ds.isEmpty)
 |.scr ns=>.ok (!ns.isEmpty)
 |.raw _=>.no
 |.exc _=>.no
theorem jH{K:PySem.W.Frag}{F:Hp}{ds:List D}{vs:List V}(h:Reps K F ds vs):ds.isEmpty=vs.isEmpty:=by
 have:=h.length
 cases ds <;> cases vs <;> simp_all
theorem XE{F H:Hp}{d:D}{v:V}{Q:Bool→Hp→Prop}(fh:Same F H)(r:Rep X.K F d v)(h:Ok X (uU d) (fun b=>Q b H)):∃k,zc8 X.K v H k∧Q k H:=by
 cases d with
 |non=>simp only[Rep] at r;subst r;exact⟨_,rfl,h⟩
 |bl b=>simp only[Rep] at r;subst r;exact⟨_,rfl,h⟩
 |int i=>simp only[Rep] at r;subst r;exact⟨_,rfl,h⟩
 |str x=>
  simp only[Rep] at r;subst r
  simp only[uU] at h
  by_cases z:x.length≤sizeLine
  ·rw[if_pos z] at h;exact⟨_,⟨z,rfl⟩,h⟩
  ·rw[if_neg z] at h;exact h.elim
 |lst ds=>
  simp only[Rep] at r;obtain⟨a,vs,rfl,e,q⟩:=r
  refine⟨!vs.isEmpty,.inl ⟨vs,SqL.of (fh _ _ e),rfl⟩,?_⟩
  rw[← jH q];exact h
 |tup ds=>
  simp only[Rep] at r;obtain⟨a,vs,rfl,e,q⟩:=r
  refine⟨!vs.isEmpty,.inr (.inl ⟨vs,Same.seqT fh e,rfl⟩),?_⟩
  rw[← jH q];exact h
 |scr ns=>
  simp only[Rep] at r;obtain⟨a,rfl,e⟩:=r
  refine⟨!(ns.map V.int).isEmpty,.inl ⟨_,fh.seq e,rfl⟩,?_⟩
  have e2:(ns.map V.int).isEmpty=ns.isEmpty:=by cases ns <;> rfl
  rw[e2];exact h
 |raw u=>exact h.elim
 |exc c=>exact h.elim
def ve(f:FE):FT:=fun τ=>(f τ).bind uU
theorem wH(ha:PDE X a fa)(he:∀whole,isTrue a X.env whole=(do let v ← whole;standAt a.pos;holding [v] (truthy v)):=by intro _;rfl):PDT X a (ve fa):=
 (Qs ha he).imp fun σ H Q ⟨F,τ,R,h⟩=>tE.of R h.bind fun d v F1 H1 g x R1 r=>XE R1.fh r (g.imp fun b e=>e F1 H1 x)
def vf(f g:FT):FT:=fun τ=>(f τ).bind fun b=>if b=true then g τ else .ok false
def uV(f g:FT):FT:=fun τ=>(f τ).bind fun b=>if b=true then .ok true else g τ
def wf(f:FT):FT:=fun τ=>(f τ).bind fun b=>.ok (!b)
variable{ga gb:FT}{rest:List Expr}
theorem uu(ha:PDT X a ga):PDW X (.BoolOp .And [a] pos) ga:=Mm ha
theorem vY(ha:PDT X a ga):PDW X (.BoolOp .Or [a] pos) ga:=Ls ha
theorem jz(ha:PDT X a ga)(hb:PDW X (.BoolOp .And (b::rest) pos) gb):PDW X (.BoolOp .And (a::b::rest) pos) (vf ga gb):=
 PW.imp (Lv ha hb) fun σ H Q ⟨F,τ,R,h⟩=>tTs.of R h.bind fun k F1 H1 g x R1=>by
  cases k with
  |true=>rw[if_pos rfl];rw[if_pos rfl] at g;exact⟨F1,τ,R1,g.imp fun d e=>e.ext x⟩
  |false=>rw[if_neg (by simp)];rw[if_neg (by simp)] at g;exact g F1 H1 x
theorem jj(ha:PDT X a ga)(hb:PDW X (.BoolOp .Or (b::rest) pos) gb):PDW X (.BoolOp .Or (a::b::rest) pos) (uV ga gb):=
 PW.imp (pw_or ha hb) fun σ H Q ⟨F,τ,R,h⟩=>tTs.of R h.bind fun k F1 H1 g x R1=>by
  cases k with
  |false=>rw[if_neg (by simp)];rw[if_neg (by simp)] at g;exact⟨F1,τ,R1,g.imp fun d e=>e.ext x⟩
  |true=>rw[if_pos rfl];rw[if_pos rfl] at g;exact g F1 H1 x
theorem uh{e:Expr}(h:PDW X e ga):PDT X e ga:=PW.pt h
theorem vA(ha:PDT X a ga):PDT X (.UnaryOp .Not a pos) (wf ga):=
 PT.imp (Lw ha) fun σ H Q ⟨F,τ,R,h⟩=>tTs.of R h.bind fun k F1 H1 g x R1=>g F1 H1 x
def eIf(g:FT)(fa fb:FE):FE:=fun τ=>(g τ).bind fun b=>if b=true then fa τ else fb τ
theorem LM(hc:PDT X c ga)(ha:PDE X a fa)(hb:PDE X b fb):PDE X (.IfExp c a b pos) (eIf ga fa fb):=
 PE.imp (QA hc ha hb) fun σ H Q ⟨F,τ,R,h⟩=>tTs.of R h.bind fun k F1 H1 g x R1=>by
  cases k with
  |true=>rw[if_pos rfl];rw[if_pos rfl] at g;exact⟨F1,τ,R1,g.imp fun d e=>e.ext x⟩
  |false=>rw[if_neg (by simp)];rw[if_neg (by simp)] at g;exact⟨F1,τ,R1,g.imp fun d e=>e.ext x⟩
def Tq(fa fb:FE):FE:=fun τ=>(fa τ).bind fun x=>(uU x).bind fun b=>if b=true then fb τ else .ok x
def eOr(fa fb:FE):FE:=fun τ=>(fa τ).bind fun x=>(uU x).bind fun b=>if b=true then .ok x else fb τ
def zb6(fa:FE):FE:=fun τ=>(fa τ).bind fun x=>(uU x).bind fun b=>.ok (.bl (!b))
theorem ZE{op}(h:PDE X a fa):PDE X (.BoolOp op [a] pos) fa:=LI h
theorem Ui(ha:PDE X a fa)(hb:PDE X (.BoolOp .And (b::rest) pos) fb):PDE X (.BoolOp .And (a::b::rest) pos) (Tq fa fb):=by
 intro pins s σ H Q I ⟨F,τ,R,h⟩
 refine BoolOp_and (thn (ha pins s σ H _ I (tE.of R h.bind fun d v F1 H1 g x R1 r=>(⟨d,F1,g,x,R1,r⟩:∃d F1,Ok X ((uU d).bind fun b=>if b=true then fb τ else .ok d) (Ev X.K F H Q)∧Ext F H F1 H1∧RV X.K F1 τ σ H1∧Rep X.K F1 d v))) fun v s1 ⟨x,H1,I1,r1,d,F1,g,x1,R1,r⟩=>?_)
 refine thn (tru_ok pins s1 σ H1 x v (fun b H2=>H2=H1∧Ok X (if b=true then fb τ else .ok d) (Ev X.K F H Q)) I1 r1 (XE (Q:=fun b H2=>H2=H1∧Ok X (if b=true then fb τ else .ok d) (Ev X.K F H Q)) R1.fh r (g.bind.imp fun b e=>⟨rfl,e⟩))) fun k s2 ⟨H2,I2,e2,q⟩=>?_
 subst e2
 cases k with
 |true=>rw[if_pos rfl] at q ⊢;exact hb pins s2 σ _ Q I2 ⟨F1,τ,R1,q.imp fun d e=>e.ext x1⟩
 |false=>rw[if_neg (by simp)] at q ⊢;exact⟨x,_,I2,r1,q x F1 _ x1 r⟩
theorem QD(ha:PDE X a fa)(hb:PDE X (.BoolOp .Or (b::rest) pos) fb):PDE X (.BoolOp .Or (a::b::rest) pos) (eOr fa fb):=by
 intro pins s σ H Q I ⟨F,τ,R,h⟩
 refine BoolOp_or (thn (ha pins s σ H _ I (tE.of R h.bind fun d v F1 H1 g x R1 r=>(⟨d,F1,g,x,R1,r⟩:∃d F1,Ok X ((uU d).bind fun b=>if b=true then .ok d else fb τ) (Ev X.K F H Q)∧Ext F H F1 H1∧RV X.K F1 τ σ H1∧Rep X.K F1 d v))) fun v s1 ⟨x,H1,I1,r1,d,F1,g,x1,R1,r⟩=>?_)
 refine thn (tru_ok pins s1 σ H1 x v (fun b H2=>H2=H1∧Ok X (if b=true then .ok d else fb τ) (Ev X.K F H Q)) I1 r1 (XE (Q:=fun b H2=>H2=H1∧Ok X (if b=true then .ok d else fb τ) (Ev X.K F H Q)) R1.fh r (g.bind.imp fun b e=>⟨rfl,e⟩))) fun k s2 ⟨H2,I2,e2,q⟩=>?_
 subst e2
 cases k with
 |false=>rw[if_neg (by simp)] at q ⊢;exact hb pins s2 σ _ Q I2 ⟨F1,τ,R1,q.imp fun d e=>e.ext x1⟩
 |true=>rw[if_pos rfl] at q ⊢;exact⟨x,_,I2,r1,q x F1 _ x1 r⟩
theorem MI(ha:PDE X a fa):PDE X (.UnaryOp .Not a pos) (zb6 fa):=by
 intro pins s σ H Q I ⟨F,τ,R,h⟩
 refine UnaryOp_ (thn (ha pins s σ H _ I (tE.of R h.bind fun d v F1 H1 g x R1 r=>(⟨d,F1,g,x,R1,r⟩:∃d F1,Ok X ((uU d).bind fun b=>.ok (.bl (!b))) (Ev X.K F H Q)∧Ext F H F1 H1∧RV X.K F1 τ σ H1∧Rep X.K F1 d v))) fun v s1 ⟨x,H1,I1,r1,d,F1,g,x1,R1,r⟩=>?_)
 refine not_of (thn (tru_ok pins s1 σ H1 x v (fun b H2=>H2=H1∧Ok X (.ok (.bl (!b))) (Ev X.K F H Q)) I1 r1 (XE (Q:=fun b H2=>H2=H1∧Ok X (.ok (.bl (!b))) (Ev X.K F H Q)) R1.fh r (g.bind.imp fun b e=>⟨rfl,e⟩))) fun k s2 ⟨H2,I2,e2,q⟩=>?_)
 subst e2
 exact⟨.bl (!k),_,I2,rfl,q (.bl (!k)) F1 _ x1 (by simp only[Rep])⟩
end
section
variable{X:Cx}{pos:Pos}{e:Expr}{es:List Expr}{fe:FE}{fs:FA}
def zi:FA:=fun _=>.ok []
def za(f:FE)(g:FA):FA:=fun τ=>(f τ).bind fun x=>(g τ).bind fun r=>.ok (x::r)
theorem zg:PDA X [] zi:=PA.imp XW fun σ H Q ⟨F,τ,R,h⟩=>h [] F H (Ext.refl R.fh) Reps.nil
theorem zc(ha:PDE X e fe)(hr:PDA X es fs)(hs:starEach (e::es) X.env=(false,eval e X.env)::starEach es X.env:=by rfl):PDA X (e::es) (za fe fs):=
 PA.imp (ZF ha hr hs) fun σ H Q ⟨F,τ,R,h⟩=>tE.of R h.bind fun x v F1 H1 g x1 R1 r1=>tAs.of R1 g.bind fun ys vs F2 H2 g2 x2 R2 r2=>
  g2 (v::vs) F2 H2 (x1.trans x2) (Reps.cons (r1.mono x2.ff) r2)
def wF(f:FA):FE:=fun τ=>(f τ).bind fun ds=>if ds.length≤sizeLine then .ok (.tup ds) else .no
def vR(f:FA):FE:=fun τ=>(f τ).bind fun ds=>if ds.length≤sizeLine then .ok (.lst ds) else .no
theorem y8{X:Cx}{α:Type}{c:Prop}[Decidable c]{a:α}{P:α→Prop}(h:Ok X (if c then .ok a else .no) P):c∧P a:=by
 by_cases z:c
 ·rw[if_pos z] at h;exact⟨z,h⟩
 ·rw[if_neg z] at h;exact h.elim
theorem wZ{x1}(h:PDA X es fs):PDE X (.Tuple es x1 pos) (wF fs):=
 PE.imp (LG h) fun σ H Q ⟨F,τ,R,hq⟩=>tAs.of R hq.bind fun ds vs F1 H1 g x R1 r=>by
  obtain⟨z,g⟩:=y8 g
  refine⟨by rw[← r.length];exact z,fun p hp=>g (.ref p) _ _ (x.trans (Ext.new R1.fh hp)) ?_⟩
  simp only[Rep]
  exact⟨p,vs,rfl,SqT.of zG,r.mono (yD (yi R1.fh hp))⟩
theorem v0(h:PDA X es fs):PDE X (.List es pos) (vR fs):=
 PE.imp (Qz h) fun σ H Q ⟨F,τ,R,hq⟩=>tAs.of R hq.bind fun ds vs F1 H1 g x R1 r=>by
  obtain⟨z,g⟩:=y8 g
  refine⟨by rw[← r.length];exact z,fun p hp=>g (.ref p) _ _ (x.trans (Ext.new R1.fh hp)) ?_⟩
  simp only[Rep]
  exact⟨p,vs,rfl,zG,r.mono (yD (yi R1.fh hp))⟩
end
inductive Fl where
 | nx (τ:DS) | rt (d:D) | bk (τ:DS) | ct (τ:DS) | ex (c:Str) | no
 | rs (c:Str) (τ:DS)
 | ro (d:D) (τ:DS)
 | rb (i:Nat) (τ:DS)
def Nw(X:Cx)(H:Hp)(b:Addr):Prop:=H b=none∧X.s₀.heap.get? b=none∧∀p∈X.pn,p.1≠b
def ExcAt(X:Cx)(H:Hp)(h:Heap)(a:Addr)(cls:Value):Prop:=Nw X H a∧∃oe vs,h.get? a=some oe∧oe.cls=cls∧oe.dict=none∧oe.data=.fields vs ∧
 (vs[1]?=some .none∨∃T oT ts,vs[1]?=some (.ref T)∧Nw X H T∧T≠a∧h.get? T=some oT∧oT.data=.fields ts∧ts[3]?=some .none)∧vs[2]?=some .none
def XA(X:Cx)(c:Str)(σ:St)(H:Hp):Prop:=∀s a cls,nsIn X.K mainGlobals c=some (some cls)→Inv X [] σ H s→ExcAt X H s.heap a cls→X.xe (.ref a) s
abbrev FS:=DS→Fl
def Post(X:Cx)(B Z F:Hp)(E:Vh):Fl→Prop
 |.nx τ=>∀σ F' H',Same F F'→RS X.K B Z F' τ σ H'→E.nx σ H'
 |.bk τ=>∀σ F' H',Same F F'→RS X.K B Z F' τ σ H'→E.bk σ H'
 |.ct τ=>∀σ F' H',Same F F'→RS X.K B Z F' τ σ H'→E.ct σ H'
 |.rt d=>∀v F' H',Ext Z B F' H'→Rep X.K F' d v→E.rt v H'
 |.ex c=>Xob X c
 |.no=>False
 |.rs c τ=>∀σ F' H',Same F F'→RS X.K B Z F' τ σ H'→XA X c σ H'
 |.ro d τ=>∀v σ F' H',Same F F'→RS X.K B Z F' τ σ H'→Rep X.K F' d v→E.rt v H'
 |.rb i τ=>∀v σ F' H',Same F F'→RS X.K B Z F' τ σ H'→σ[i]?=some (some v)→E.rt v H'
theorem Post.same{X:Cx}{B Z F F1:Hp}{E:Vh}{r:Fl}(h:Post X B Z F E r)(f:Same F F1):Post X B Z F1 E r:=by
 cases r with
 |nx τ=>exact fun σ F' H' g R=>h σ F' H' (f.trans g) R
 |bk τ=>exact fun σ F' H' g R=>h σ F' H' (f.trans g) R
 |ct τ=>exact fun σ F' H' g R=>h σ F' H' (f.trans g) R
 |rt d=>exact h
 |ex c=>exact h
 |no=>exact h
 |rs c τ=>exact fun σ F' H' g R=>h σ F' H' (f.trans g) R
 |ro d τ=>exact fun v σ F' H' g R r=>h v σ F' H' (f.trans g) R r
 |rb i τ=>exact fun v σ F' H' g R r=>h v σ F' H' (f.trans g) R r
def tS(X:Cx)(f:FS):TS:=fun E σ H=>∃B Z F τ,RS X.K B Z F τ σ H∧Post X B Z F E (f τ)
def PDS(X:Cx)(st:Stmt)(f:FS):Prop:=PS X st (tS X f)
def Zz(X:Cx)(st:List Stmt)(f:FS):Prop:=PSs X st (tS X f)
def Fl.of{α:Type}(r:Rs α)(k:α→Fl):Fl:=match r with
 |.ok a=>k a
 |.ex c=>.ex c
 |.no=>.no
@[simp] theorem Fl.of_ok{α:Type}(a:α)(k:α→Fl):Fl.of (.ok a) k=k a:=rfl
theorem Post.of{X:Cx}{B Z F:Hp}{E:Vh}{α:Type}{r:Rs α}{k:α→Fl}(h:Post X B Z F E (Fl.of r k)):Ok X r fun a=>Post X B Z F E (k a):=by
 cases r <;> exact h
section
variable{X:Cx}{pos:Pos}{e:Expr}{es:List Expr}{fe:FE}{fs:FA}{st:Stmt}{rest:List Stmt}{f g:FS}{c:Expr}{gc:FT}
def zV:FS:=fun τ=>.nx τ
def zy(f g:FS):FS:=fun τ=>match f τ with
 |.nx τ'=>g τ'
 |r=>r
theorem z8:Zz X [] zV:=PSs.imp Ms fun E σ H ⟨B,Z,F,τ,R,h⟩=>h σ F H (Same.refl F) R
theorem zn(h:PDS X st f):Zz X [st] f:=ZB h
theorem zm(h1:PDS X st f)(h2:Zz X rest g):Zz X (st::rest) (zy f g):=
 PSs.imp (ZW h1 h2) fun E σ H ⟨B,Z,F,τ,R,h⟩=>by
  refine⟨B,Z,F,τ,R,?_⟩
  unfold zy at h
  cases q:f τ with
  |nx τ'=>rw[q] at h;exact fun σ' F' H' ff R'=>⟨B,Z,F',τ',R',Post.same h ff⟩
  |rt d=>rw[q] at h;exact h
  |bk d=>rw[q] at h;exact h
  |ct d=>rw[q] at h;exact h
  |ex d=>rw[q] at h;exact h
  |no=>rw[q] at h;exact h
  |rs c d=>rw[q] at h;exact h
  |ro c d=>rw[q] at h;exact h
  |rb c d=>rw[q] at h;exact h
def sNo:FS:=fun _=>.no
theorem Jd:PDS X st sNo:=PS.imp Qv fun E σ H ⟨B,Z,F,τ,R,h⟩=>h
def yA(fe:FE):FS:=fun τ=>Fl.of (fe τ) fun d=>.rt d
theorem tE.at{B Z F H:Hp}{τ:DS}{σ:St}{Q:VK}{G:D→Prop}(R:RS X.K B Z F τ σ H)(h:Ok X (fe τ) G)
  (k:∀d v F1 H1,G d→Ext F H F1 H1→RS X.K B Z F1 τ σ H1→Rep X.K F1 d v→Q v H1):tE X fe σ H Q:=
 tE.of R.rv h fun d v F1 H1 g x _ r=>k d v F1 H1 g x (R.ext x) r
theorem zH(he:PDE X e fe):PDS X (.Return (some e) pos) (yA fe):=
 PS.imp (Vz he) fun E σ H ⟨B,Z,F,τ,R,h⟩=>tE.at R h.of fun d v F1 H1 g x R1 r=>g v F1 H1 R1.out r
def sIf(gc:FT)(f g:FS):FS:=fun τ=>Fl.of (gc τ) fun b=>if b=true then f τ else g τ
theorem yL{a b:List Stmt}(hc:PDT X c gc)(ha:Zz X a f)(hb:Zz X b g):PDS X (.If c a b pos) (sIf gc f g):=
 PS.imp (ps_if hc ha hb) fun E σ H ⟨B,Z,F,τ,R,h⟩=>tTs.of R.rv h.of fun k F1 H1 q x _=>by
  cases k with
  |true=>rw[if_pos rfl] at q ⊢;exact⟨B,Z,F1,τ,R.ext x,q.same x.ff⟩
  |false=>rw[if_neg (by simp)] at q ⊢;exact⟨B,Z,F1,τ,R.ext x,q.same x.ff⟩
theorem RV.set{K:PySem.W.Frag}{F H:Hp}{τ:DS}{σ:St}{i:Nat}{d:D}{v:V}(R:RV K F τ σ H)(r:Rep K F d v):RV K F (τ.set i (some (.val d))) (σ.set i (some v)) H:=by
 refine⟨R.fh,by simp[R.len],fun j e h=>?_,fun j es h=>?_,fun j k ds es a hjk h1 h2 h3 h4=>?_,?_,?_⟩
 ·by_cases hij:i=j
  ·subst hij
   have hlt:i<τ.length:=by
    rcases lt_or_ge i τ.length with z|z
    ·exact z
    ·rw[List.getElem?_eq_none_iff.mpr (by simpa using z)] at h;cases h
   rw[getElem?_set_self hlt] at h
   cases h
   exact⟨v,by rw[getElem?_set_self (by rw[← R.len];exact hlt)],r⟩
  ·rw[getElem?_set_ne hij] at h ⊢
   exact R.val j e h
 ·by_cases hij:i=j
  ·subst hij
   rw[getElem?_set] at h
   simp only[if_true] at h
   split at h <;> cases h
  ·rw[getElem?_set_ne hij] at h ⊢
   exact R.own j es h
 ·have n1:i≠j:=fun z=>by
   subst z
   rw[getElem?_set] at h1
   simp only[if_true] at h1
   split at h1 <;> cases h1
  have n2:i≠k:=fun z=>by
   subst z
   rw[getElem?_set] at h2
   simp only[if_true] at h2
   split at h2 <;> cases h2
  rw[getElem?_set_ne n1] at h1 h3
  rw[getElem?_set_ne n2] at h2 h4
  exact R.dis j k ds es a hjk h1 h2 h3 h4
 ·exact R.tt
 ·exact R.ob.put rfl fun _ _ z=>by cases z
theorem RS.set{K:PySem.W.Frag}{B Z F H:Hp}{τ:DS}{σ:St}{i:Nat}{d:D}{v:V}(R:RS K B Z F τ σ H)(r:Rep K F d v):RS K B Z F (τ.set i (some (.val d))) (σ.set i (some v)) H:=
 ⟨R.rv.set r,R.bh,R.zf,R.nb,fun j ds a h1 h2=>by
  have n1:i≠j:=fun z=>by
   subst z
   rw[getElem?_set] at h1
   simp only[if_true] at h1
   split at h1 <;> cases h1
  rw[getElem?_set_ne n1] at h1 h2
  exact R.ob j ds a h1 h2,fun j m c fs a h1 h2=>by
  obtain⟨n,h1⟩:=yT (s:=some (.val d)) rfl rfl h1
  rw[getElem?_set_ne n] at h2
  exact R.oo j m c fs a h1 h2,fun a0 dx b1 b2 j m c fs h=>by
  obtain⟨n,h⟩:=yT (s:=some (.val d)) rfl rfl h
  rw[getElem?_set_ne n]
  exact R.sf a0 dx b1 b2 j m c fs h,fun j c fs a h1 h2=>by
  obtain⟨n,h1⟩:=yT (s:=some (.val d)) rfl rfl h1
  rw[getElem?_set_ne n] at h2
  exact R.ro j c fs a h1 h2⟩
def zX(i:Nat)(fe:FE):FS:=fun τ=>Fl.of (fe τ) fun d=>.nx (τ.set i (some (.val d)))
theorem zL{i:Nat}{x:Str}{pos':Pos}(hN:X.N.Nodup)(hi:X.N[i]?=some x)(hx:Loc X.env.scope x)(he:PDE X e fe)(hs:swapsWith e (some (.Name x pos')) pos.line X.env=pure false:=by rfl)(hf:X.fn x=true∨X.env.scope.names.lookup x=some .local:=by first|exact .inl rfl|exact .inr rfl|assumption) :
  PDS X (.Assign [.Name x pos'] e pos) (zX i fe):=
 PS.imp (Vy hN hi hx he hs hf) fun E σ H ⟨B,Z,F,τ,R,h⟩=>tE.at R h.of fun d v F1 H1 g x R1 r=>g _ F1 H1 x.ff (R1.set r)
def tFr(X:Cx)(f:FA):TE:=fun σ H Q=>∃F τ,RV X.K F τ σ H∧Ok X (f τ) fun ds=>∀p vs F' H',Ext F H F' H'→H' p=none→Reps X.K F' ds vs→Q (.ref p) (upd H' p (.lst vs))
def PDF(X:Cx)(e:Expr)(f:FA):Prop:=PE X e (tFr X f)
theorem XV(h:PDA X es fs):PDF X (.List es pos) (fun τ=>(fs τ).bind fun ds=>if ds.length≤sizeLine then .ok ds else .no):=
 PE.imp (Qz h) fun σ H Q ⟨F,τ,R,hq⟩=>tAs.of R hq.bind fun ds vs F1 H1 g x R1 r=>by
  obtain⟨z,g⟩:=y8 g
  exact⟨by rw[← r.length];exact z,fun p hp=>g p vs F1 H1 x hp r⟩
theorem jZ{ff:FA}(h:PDF X e ff):PDE X e (fun τ=>(ff τ).bind fun ds=>.ok (.lst ds)):=
 PE.imp h fun σ H Q ⟨F,τ,R,hq⟩=>⟨F,τ,R,hq.bind.imp fun ds g p vs F1 H1 x hp r=>by
  refine g (.ref p) _ _ (x.trans (Ext.new x.fh hp)) ?_
  simp only[Rep]
  exact⟨p,vs,rfl,zG,r.mono (yD (yi x.fh hp))⟩⟩
def vN(i:Nat)(ff:FA):FS:=fun τ=>Fl.of (ff τ) fun ds=>.nx (τ.set i (some (.own ds)))
theorem RV.setO{K:PySem.W.Frag}{F H:Hp}{τ:DS}{σ:St}{i:Nat}{p:Addr}{ds:List D}{vs:List V}(R:RV K F τ σ H)(hp:H p=none)(r:Reps K F ds vs):RV K F (τ.set i (some (.own ds))) (σ.set i (some (.ref p))) (upd H p (.lst vs)):=by
 have nofr:=yi R.fh hp
 have hlt:∀{o:Sl},(τ.set i (some (.own ds)))[i]?=some (some o)→i<τ.length:=fun {o} h=>by
  rcases lt_or_ge i τ.length with z|z
  ·exact z
  ·rw[List.getElem?_eq_none_iff.mpr (by simpa using z)] at h;cases h
 refine⟨R.fh.trans (yD hp),by simp[R.len],fun j e h=>?_,fun j es h=>?_,fun j k es es' a hjk h1 h2 h3 h4=>?_,?_,?_⟩
 ·by_cases hij:i=j
  ·subst hij
   rw[getElem?_set_self (hlt h)] at h;cases h
  ·rw[getElem?_set_ne hij] at h ⊢
   exact R.val j e h
 ·by_cases hij:i=j
  ·subst hij
   have l:=hlt h
   rw[getElem?_set_self l] at h
   cases h
   exact⟨p,vs,by rw[getElem?_set_self (by rw[← R.len];exact l)],zG,nofr,r⟩
  ·rw[getElem?_set_ne hij] at h ⊢
   obtain⟨a,ws,q1,q2,q3,q4⟩:=R.own j es h
   exact⟨a,ws,q1,by rw[zB (z9 q2 hp)];exact q2,q3,q4⟩
 ·by_cases n1:i=j
  ·subst n1
   rw[getElem?_set_ne hjk] at h2 h4
   obtain⟨a',ws,q1,q2,q3,q4⟩:=R.own k es' h2
   rw[q1] at h4;cases h4
   have l:=hlt h1
   rw[getElem?_set_self (by rw[← R.len];exact l)] at h3
   cases h3
   rw[hp] at q2;cases q2
  ·by_cases n2:i=k
   ·subst n2
    rw[getElem?_set_ne (Ne.symm hjk)] at h1 h3
    obtain⟨a',ws,q1,q2,q3,q4⟩:=R.own j es h1
    rw[q1] at h3;cases h3
    have l:=hlt h2
    rw[getElem?_set_self (by rw[← R.len];exact l)] at h4
    cases h4
    rw[hp] at q2;cases q2
   ·rw[getElem?_set_ne n1] at h1 h3
    rw[getElem?_set_ne n2] at h2 h4
    exact R.dis j k es es' a hjk h1 h2 h3 h4
 ·exact R.tt.step (fun _ _ e=>.inl e) (fun b o e _=>by rw[zB (z9 e hp)];exact e) (j3 fun _ z=>nomatch z)
 ·have o1:ObsOk K F (τ.set i (some (.own ds))) (σ.set i (some (.ref p))) H:=R.ob.put rfl fun _ l _ z=>by
   cases z;exact R.ob.fresh hp
  exact o1.updL (.inl hp) (o1.fresh hp)
theorem RS.setO{K:PySem.W.Frag}{B Z F H:Hp}{τ:DS}{σ:St}{i:Nat}{p:Addr}{ds:List D}{vs:List V}(R:RS K B Z F τ σ H)(hp:H p=none)(r:Reps K F ds vs):RS K B Z F (τ.set i (some (.own ds))) (σ.set i (some (.ref p))) (upd H p (.lst vs)):=
 ⟨R.rv.setO hp r,R.bh.trans (.of (yD hp)),R.zf,R.nb,fun j es a h1 h2=>by
  by_cases n1:i=j
  ·subst n1
   have l:i<τ.length:=by
    rcases lt_or_ge i τ.length with z|z
    ·exact z
    ·rw[List.getElem?_eq_none_iff.mpr (by simpa using z)] at h1;cases h1
   rw[getElem?_set_self (by rw[← R.rv.len];exact l)] at h2
   cases h2
   exact vm R.bh hp
  ·rw[getElem?_set_ne n1] at h1 h2
   exact R.ob j es a h1 h2,fun j m c fs a h1 h2=>by
  obtain⟨n,h1⟩:=yT (s:=some (.own ds)) rfl rfl h1
  rw[getElem?_set_ne n] at h2
  rw[R.rv.ob.lof (.inl ⟨m,fs,h1⟩) h2 (.inl hp)]
  exact R.oo j m c fs a h1 h2,fun a0 dx b1 b2 j m c fs h=>by
  obtain⟨n,h⟩:=yT (s:=some (.own ds)) rfl rfl h
  rw[getElem?_set_ne n]
  exact R.sf a0 dx b1 b2 j m c fs h,fun j c fs a h1 h2=>by
  obtain⟨n,h1⟩:=yT (s:=some (.own ds)) rfl rfl h1
  rw[getElem?_set_ne n] at h2
  exact R.ro j c fs a h1 h2⟩
theorem Z0{i:Nat}{x:Str}{pos':Pos}{ff:FA}(hN:X.N.Nodup)(hi:X.N[i]?=some x)(hx:Loc X.env.scope x)(he:PDF X e ff)(hs:swapsWith e (some (.Name x pos')) pos.line X.env=pure false:=by rfl)(hf:X.fn x=true∨X.env.scope.names.lookup x=some .local:=by first|exact .inl rfl|exact .inr rfl|assumption) :
  PDS X (.Assign [.Name x pos'] e pos) (vN i ff):=
 PS.imp (Vy hN hi hx he hs hf) fun E σ H ⟨B,Z,F,τ,R,h⟩=>⟨F,τ,R.rv,h.of.imp fun ds g p vs F1 H1 x hp r=>g _ F1 _ x.ff ((R.ext x).setO hp r)⟩
theorem RV.own_upd{K:PySem.W.Frag}{F H:Hp}{τ:DS}{σ:St}{i:Nat}{p:Addr}{ds es:List D}{ws:List V}(R:RV K F τ σ H)(h:τ[i]?=some (some (.own ds)))(hp:σ[i]?=some (some (.ref p)))(r:Reps K F es ws) :
  RV K F (τ.set i (some (.own es))) σ (upd H p (.lst ws)):=by
 obtain⟨a,vs,q1,q2,q3,q4⟩:=R.own i ds h
 rw[q1] at hp;cases hp
 have l:i<τ.length:=(List.getElem?_eq_some_iff.mp h).1
 refine⟨fun b o e=>?_,by simp[R.len],fun j e h'=>?_,fun j es' h'=>?_,fun j k e1 e2 b hjk h1 h2 h3 h4=>?_,?_,?_⟩
 ·have n:b≠p:=fun z=>by subst z;rw[q3] at e;cases e
  rw[zB n];exact R.fh b o e
 ·by_cases hij:i=j
  ·subst hij;rw[getElem?_set_self l] at h';cases h'
  ·rw[getElem?_set_ne hij] at h';exact R.val j e h'
 ·by_cases hij:i=j
  ·subst hij
   rw[getElem?_set_self l] at h';cases h'
   exact⟨p,ws,q1,zG,q3,r⟩
  ·rw[getElem?_set_ne hij] at h'
   obtain⟨a',vs',z1,z2,z3,z4⟩:=R.own j es' h'
   have n:a'≠p:=fun z=>by subst z;exact R.dis i j ds es' a' hij h h' q1 z1
   exact⟨a',vs',z1,by rw[zB n];exact z2,z3,z4⟩
 ·have:∀{m:Nat} {e:List D},(τ.set i (some (.own es)))[m]?=some (some (.own e))→∃e',τ[m]?=some (some (.own e')):=fun {m e} z=>by
   by_cases him:i=m
   ·subst him;exact⟨ds,h⟩
   ·rw[getElem?_set_ne him] at z;exact⟨e,z⟩
  obtain⟨x1,y1⟩:=this h1
  obtain⟨x2,y2⟩:=this h2
  exact R.dis j k x1 x2 b hjk y1 y2 h3 h4
 ·exact R.tt.step (fun _ _ e=>.inl e) (fun b o e n=>by
   have:b≠p:=fun z=>by subst z;rw[q2] at e;cases e;exact n _ rfl
   rw[zB this];exact e) (j3 fun _ z=>nomatch z)
 ·exact(R.ob.updL (.inr ⟨vs,q2⟩) fun j c a g1 g2 hl=>R.ob.lo j i c ds a p g1 h g2 q1 hl).putS h
theorem RS.own_upd{K:PySem.W.Frag}{B Z F H:Hp}{τ:DS}{σ:St}{i:Nat}{p:Addr}{ds es:List D}{ws:List V}(R:RS K B Z F τ σ H)(h:τ[i]?=some (some (.own ds)))(hp:σ[i]?=some (some (.ref p)))(r:Reps K F es ws) :
  RS K B Z F (τ.set i (some (.own es))) σ (upd H p (.lst ws)):=by
 have hb:=R.ob i ds p h hp
 refine⟨R.rv.own_upd h hp r,fun b o e=>?_,R.zf,R.nb,fun j e a h1 h2=>?_,fun j m c fs a h1 h2=>?_,fun a0 dx b1 b2 j m c fs h=>R.sf a0 dx b1 b2 j m c fs (yT (s:=some (.own es)) rfl rfl h).2,fun j c fs a h1 h2=>R.ro j c fs a (yT (s:=some (.own es)) rfl rfl h1).2 h2⟩
 ·have n:b≠p:=fun z=>by subst z;rw[hb] at e;cases e
  rw[zB n];exact R.bh b o e
 ·by_cases him:i=j
  ·subst him;exact R.ob i ds a h h2
  ·rw[getElem?_set_ne him] at h1;exact R.ob j e a h1 h2
 ·have h1:=(yT (s:=some (.own es)) rfl rfl h1).2
  obtain⟨p',vs,q1,q2,_⟩:=R.rv.own i ds h
  rw[q1] at hp;cases hp
  rw[R.rv.ob.lof (.inl ⟨m,fs,h1⟩) h2 (.inr ⟨vs,q2⟩)]
  exact R.oo j m c fs a h1 h2
def uZ(τ:DS)(i:Nat):Rs (List D):=match τ[i]? with
 | some (some (.own ds))=>.ok ds
 |_=>.no
theorem uy{τ:DS}{i:Nat}{P:List D→Prop}(h:Ok X (uZ τ i) P):∃ds,τ[i]?=some (some (.own ds))∧P ds:=by
 unfold uZ at h
 cases q:τ[i]? with
 |none=>rw[q] at h;exact h.elim
 |some o=>
  cases o with
  |none=>rw[q] at h;exact h.elim
  |some sl=>
   cases sl with
   |val d=>rw[q] at h;exact h.elim
   |obj n c fs=>rw[q] at h;exact h.elim
   |obr c fs=>rw[q] at h;exact h.elim
   |own ds=>rw[q] at h;exact⟨ds,rfl,h⟩
def YK(i:Nat)(fe:FE):FS:=fun τ=>Fl.of (uZ τ i) fun ds=>Fl.of (fe τ) fun d=>if ds.length<sizeLine then .nx (τ.set i (some (.own (ds++[d])))) else .no
theorem XU{i:Nat}{x:Str}{p1 apos cpos:Pos}(hx:PE X (.Name x p1) (YH i))(he:PDE X e fe)
  (hfew:((backTo cpos (starEach [e] X.env)).all (fun x=>!x.1)&&(backToKw cpos (keywordEach [] X.env)).all (fun x=>x.1.isSome)
   && decide ([e].length+([]:List Keyword).length+(if ([]:List Keyword).isEmpty then 0 else 1)<30))=true:=by rfl)
  (hline:(apos.endLine==cpos.line)=true:=by rfl) (hs:starEach [e] X.env=[(false,eval e X.env)]:=by rfl) (hplain:(backTo cpos (starEach [] X.env)).any (·.1)=false:=by rfl)
  (hbase:attributeBase (.Name x p1) "append" X.env (eval (.Name x p1) X.env)=eval (.Name x p1) X.env:=by rfl)
  (hsw:swapsWith (.Call (.Attribute (.Name x p1) "append" apos) [e] [] cpos) none pos.line X.env=pure false:=by rfl) :
  PDS X (.Expr (.Call (.Attribute (.Name x p1) "append" apos) [e] [] cpos) pos) (YK i fe):=
 PS.imp (Mu (pe_bm PySem.F.plainAttrs_list PySem.F.slot_list_append PySem.F.type_list_append Xf hx (ZF he XW (by rw[hs];rfl)) hbase hfew hline (by rw[hs];rfl) hplain) hsw) fun E σ H ⟨B,Z,F,τ,R,h⟩=>by
  obtain⟨ds,h1,h2⟩:=uy (X:=X) (Post.of h)
  obtain⟨a,vs,q1,q2,q3,q4⟩:=R.rv.own i ds h1
  refine⟨_,q1,.inl ⟨rfl,vs,SqL.of q2⟩,?_⟩
  refine tE.at R h2.of fun d v F1 H1 g x R1 r=>?_
  by_cases z:ds.length<sizeLine
  ·rw[if_pos z] at g
   refine⟨a,vs,v,rfl,rfl,x.hh _ _ q2,by rw[← q4.length];exact z,?_⟩
   exact g _ F1 _ x.ff (R1.own_upd h1 q1 ((q4.mono x.ff).append (Reps.cons r Reps.nil)))
  ·rw[if_neg z] at g;exact g.elim
def U5(i:Nat)(fi fe:FE):FS:=fun τ=>Fl.of (fe τ) fun d=>Fl.of (uZ τ i) fun ds=>Fl.of (fi τ) fun k=>match k with
 |.int k=>match ixN ds.length k with
  |some j=>.nx (τ.set i (some (.own (ds.set j d))))
  |none=>.no
 |_=>.no
theorem MF{i:Nat}{x:Str}{p1 spos:Pos}{ix:Expr}{fi:FE}(hx:PE X (.Name x p1) (YH i))(hi:PDE X ix fi)(he:PDE X e fe)
  (ha:∀v,assign (.Subscript (.Name x p1) ix spos) X.env v=(do
   let ov ← holding [v] (eval (.Name x p1) X.env)
   let iv ← holding [v,ov] (eval ix X.env)
   standAt spos
   holding [v,ov,iv] (setItem ov iv v)
   release [v,ov,iv] []):=by intro _;rfl)
  (hs:swapsWithSole [.Subscript (.Name x p1) ix spos] e pos.line X.env=pure false:=by rfl) (hw:swappedStores [.Subscript (.Name x p1) ix spos] e X.env=pure none:=by rfl)
  (h1:(assignEach [.Subscript (.Name x p1) ix spos] X.env).map (·.2)=[assign (.Subscript (.Name x p1) ix spos) X.env]:=by rfl) :
  PDS X (.Assign [.Subscript (.Name x p1) ix spos] e pos) (U5 i fi fe):=
 PS.imp (Ly he (LD hx hi Qh ha) hs hw h1) fun E σ H ⟨B,Z,F,τ,R,h⟩=>by
  refine tE.at R h.of fun d v F1 H1 g x R1 r=>?_
  obtain⟨ds,h1,h2⟩:=uy (X:=X) (Post.of g)
  obtain⟨a,vs,q1,q2,q3,q4⟩:=R1.rv.own i ds h1
  refine⟨_,q1,?_⟩
  refine tE.at R1 h2.of fun k w F2 H2 g2 x2 R2 r2=>?_
  cases k with
  |int k=>
   simp only[Rep] at r2
   simp only at g2
   cases q:ixN ds.length k with
   |none=>rw[q] at g2;exact g2.elim
   |some j=>
    rw[q] at g2
    refine⟨a,vs,k,j,rfl,r2,x2.hh _ _ q2,by rw[← q4.length];exact q,?_⟩
    exact g2 _ F2 _ (x.ff.trans x2.ff) (R2.own_upd h1 q1 (Reps.set (r.mono x2.ff) j (q4.mono x2.ff)))
  |_=>exact g2.elim
def uf(i:Nat):FS:=fun τ=>Fl.of (uZ τ i) fun ds=>.rt (.lst ds)
theorem jA{i:Nat}{x:Str}{p1:Pos}(hx:PE X (.Name x p1) (YH i)):PDS X (.Return (some (.Name x p1)) pos) (uf i):=
 PS.imp (Vz hx) fun E σ H ⟨B,Z,F,τ,R,h⟩=>by
  obtain⟨ds,h1,h2⟩:=uy (X:=X) (Post.of h)
  obtain⟨a,vs,q1,q2,q3,q4⟩:=R.rv.own i ds h1
  have hb:=R.ob i ds a h1 q1
  refine⟨_,q1,h2 (.ref a) (upd F a (.lst vs)) H ⟨?_,R.bh,fun b o e=>?_,fun b o e=>?_,fun _=>R.rv.tt.freeze q2⟩ ?_⟩
  ·exact R.zf.trans (yD q3)
  ·by_cases z:b=a
   ·subst z;rw[zG] at e;cases e;exact q2
   ·rw[zB z] at e;exact R.rv.fh b o e
  ·by_cases z:b=a
   ·subst z;exact .inr hb
   ·rw[zB z] at e;exact R.nb b o e
  ·simp only[Rep]
   exact⟨a,vs,rfl,zG,q4.mono (yD q3)⟩
def JE(i:Nat)(fi:FE):FE:=fun τ=>(uZ τ i).bind fun ds=>(fi τ).bind fun k=>match k with
 |.int k=>match atI ds k with
  |some d=>.ok d
  |none=>.no
 |_=>.no
theorem YB{K:PySem.W.Frag}{F:Hp}{ds:List D}{vs:List V}{k:Int}{d:D}(r:Reps K F ds vs)(h:atI ds k=some d):∃v,atI vs k=some v∧Rep K F d v:=by
 unfold atI at h ⊢
 rw[← r.length]
 cases q:ixN ds.length k with
 |none=>rw[q] at h;cases h
 |some j=>
  rw[q] at h
  exact r.get h
theorem MJ{i:Nat}{x:Str}{p1:Pos}{ix:Expr}{fi:FE}(hx:PE X (.Name x p1) (YH i))(hi:PDE X ix fi)(hs:We ix:=by intro _ _;rfl):PDE X (.Subscript (.Name x p1) ix pos) (JE i fi):=
 PE.imp (TX ix_list hx hi hs) fun σ H Q ⟨F,τ,R,h⟩=>by
  obtain⟨ds,h1,h2⟩:=uy (X:=X) (Ok.bind h)
  obtain⟨a,vs,q1,q2,q3,q4⟩:=R.own i ds h1
  refine⟨_,q1,?_⟩
  refine tE.of R h2.bind fun k w F2 H2 g2 x2 R2 r2=>?_
  cases k with
  |int k=>
   simp only[Rep] at r2
   simp only at g2
   cases q:atI ds k with
   |none=>rw[q] at g2;exact g2.elim
   |some d=>
    rw[q] at g2
    obtain⟨v,z1,z2⟩:=YB q4 q
    exact⟨a,vs,k,v,rfl,r2,SqL.of (x2.hh _ _ q2),z1,g2 v F2 H2 x2 (z2.mono x2.ff)⟩
  |_=>exact g2.elim
def jO(i:Nat):FE:=fun τ=>(uZ τ i).bind fun ds=>.ok (.int ds.length)
theorem Z1{i:Nat}{x:Str}{p1 p:Pos}(hx:PE X (.Name x p1) (YH i))(hg:Gl X "len")(hm:X.mg "len" = none)
  (he:starEach [.Name x p1] X.env=[(false,eval (.Name x p1) X.env)]:=by rfl) (hpl:(backTo pos (starEach [] X.env)).any (·.1)=false:=by rfl):PDE X (.Call (.Name "len" p) [.Name x p1] [] pos) (jO i):=
 PE.imp (pe_callB call_len_seq hg hm PySem.boot_len (ZF hx XW (by rw[he];rfl)) (he:=by rw[he];rfl) (hpl:=hpl)) fun σ H Q ⟨F,τ,R,h⟩=>by
  obtain⟨ds,h1,h2⟩:=uy (X:=X) (Ok.bind h)
  obtain⟨a,vs,q1,q2,q3,q4⟩:=R.own i ds h1
  refine⟨_,q1,a,vs,rfl,.inl (SqL.of q2),?_⟩
  rw[← q4.length]
  exact h2 (.int ds.length) F H (Ext.refl R.fh) (by simp only[Rep])
def jV(i:Nat)(op:D→D→Rs D)(fe:FE):FS:=fun τ=>Fl.of (zd i τ) fun x=>Fl.of (fe τ) fun y=>Fl.of (op x y) fun z=>.nx (τ.set i (some (.val z)))
theorem Tn{τ:DS}{i:Nat}{P:D→Prop}(h:Ok X (zd i τ) P):∃d,τ[i]?=some (some (.val d))∧P d:=by
 unfold zd at h
 cases q:τ[i]? with
 |none=>rw[q] at h;exact h.elim
 |some o=>
  cases o with
  |none=>rw[q] at h;exact h.elim
  |some sl=>
   cases sl with
   |own d=>rw[q] at h;exact h.elim
   |obj n c fs=>rw[q] at h;exact h.elim
   |obr c fs=>rw[q] at h;exact h.elim
   |val ds=>rw[q] at h;exact⟨ds,rfl,h⟩
theorem MG{i:Nat}{x:Str}{op:Operator}{od:D→D→Rs D}{r:TIp}{pos':Pos}(hN:X.N.Nodup)(hi:X.N[i]?=some x)(hx:Loc X.env.scope x)(he:PDE X e fe)(ho:PIp X op r)
  (hl:∀F H x y dx dy Q,Same F H→Rep X.K F dx x→Rep X.K F dy y→Ok X (od dx dy) (Ev X.K F H Q)→r x y H Q)
  (hf:X.fn x=true∨X.env.scope.names.lookup x=some .local:=by first|exact .inl rfl|exact .inr rfl|assumption):PDS X (.AugAssign (.Name x pos') op e pos) (jV i od fe):=
 PS.imp (Lx hN hi hx he ho hf) fun E σ H ⟨B,Z,F,τ,R,h⟩=>by
  obtain⟨d,h1,h2⟩:=Tn (X:=X) (Post.of h)
  obtain⟨v,q1,q2⟩:=R.rv.val i d h1
  refine⟨v,q1,tE.at R h2.of fun y w F1 H1 g x1 R1 r1=>?_⟩
  refine hl F1 H1 v w d y _ R1.rv.fh (q2.mono x1.ff) r1 (g.of.imp fun z gz u F2 H2 x2 r2=>?_)
  exact gz _ F2 H2 (x1.ff.trans x2.ff) ((R1.ext x2).set r2)
end
def Vg(K:PySem.W.Frag)(J:It)(F1:Hp)(ds:List D):Prop:=∀(i:Nat) (F H:Hp),Same F1 F→Same F H →
 (ds.length≤i→J.stop i H)∧∀d,ds[i]?=some d→J.go i H∧∀x H',J.yld i H x H'→∃F',Ext F H F' H'∧Rep K F' d x
def tI(X:Cx)(f:FA):TI:=fun σ H R=>∃F τ,RV X.K F τ σ H∧Ok X (f τ) fun ds=>∀J F1 H1,Ext F H F1 H1→Vg X.K J F1 ds→R J H1
def PDI(X:Cx)(tg iter:Expr)(f:FA):Prop:=PI X tg iter (tI X f)
theorem _root_.L2.PI.imp{X:Cx}{tg e:Expr}{t t':TI}(h:PI X tg e t)(f:∀σ H Q,t' σ H Q→t σ H Q):PI X tg e t':=fun pins s σ H Q I q=>h pins s σ H Q I (f _ _ _ q)
section
variable{X:Cx}{pos:Pos}{e tg:Expr}{es:List Expr}{fe:FE}{fs:FA}
theorem UA{K:PySem.W.Frag}{a:Addr}{F1:Hp}{ds:List D}{vs:List V}(e:SqL K F1 a vs)(r:Reps K F1 ds vs):Vg K (Itl K a) F1 ds:=fun i F H f1 f2=>by
 have q:SqL K H a vs:=(f1.trans f2).seq e
 refine⟨fun h=>⟨vs,q,by rw[← r.length];exact h⟩,fun d hd=>?_⟩
 obtain⟨v,h1,h2⟩:=r.get hd
 refine⟨⟨vs,v,q,h1⟩,fun x H' y=>?_⟩
 obtain⟨e1,y⟩:=y
 subst e1
 have h3:=y vs q
 rw[h1] at h3;cases h3
 exact⟨F,Ext.refl f2,h2.mono f1⟩
theorem za3{K:PySem.W.Frag}{a:Addr}{F1:Hp}{ds:List D}{vs:List V}(e:SqT K F1 a vs)(r:Reps K F1 ds vs):Vg K (Itt K a) F1 ds:=fun i F H f1 f2=>by
 have q:SqT K H a vs:=Same.seqT (f1.trans f2) e
 refine⟨fun h=>⟨vs,q,by rw[← r.length];exact h⟩,fun d hd=>?_⟩
 obtain⟨v,h1,h2⟩:=r.get hd
 refine⟨⟨vs,v,q,h1⟩,fun x H' y=>?_⟩
 obtain⟨e1,y⟩:=y
 subst e1
 have h3:=y vs q
 rw[h1] at h3;cases h3
 exact⟨F,Ext.refl f2,h2.mono f1⟩
def vW(lo:Int)(n:Nat):List D:=(List.range n).map fun (k:Nat)=>D.int (lo+k)
theorem za5{K:PySem.W.Frag}{F1:Hp}{lo:Int}{n:Nat}:Vg K (Itr lo n) F1 (vW lo n):=fun i F H f1 f2=>by
 have hl:(vW lo n).length=n:=by simp[vW]
 refine⟨fun h=>by rw[hl] at h;exact h,fun d hd=>?_⟩
 have hi:i<n:=by have:=(List.getElem?_eq_some_iff.mp hd).1;rw[hl] at this;exact this
 refine⟨hi,fun x H' y=>?_⟩
 obtain⟨e1,y⟩:=y
 subst e1
 refine⟨F,Ext.refl f2,?_⟩
 simp[vW,hi] at hd
 subst hd
 simp only[Rep];exact y
def VM:List D→Option Int
 |[.int j]=>some j
 |_=>none
def VL:List D→Option (Int×Int)
 |[.int i,.int j]=>some (i,j)
 |_=>none
def Zf:D→Option (D×D)
 |.tup [x,y]=>some (x,y)
 |_=>none
theorem UD{ds:List D}{j:Int}(h:VM ds=some j):ds=[.int j]:=by
 unfold VM at h;split at h <;> cases h;rfl
theorem UC{ds:List D}{i j:Int}(h:VL ds=some (i,j)):ds=[.int i,.int j]:=by
 unfold VL at h;split at h <;> cases h;rfl
theorem QH{d x y:D}(h:Zf d=some (x,y)):d=.tup [x,y]:=by
 unfold Zf at h;split at h <;> cases h;rfl
def wn(fs:FA):FA:=fun τ=>(fs τ).bind fun ds=>match VM ds with
 |some j=>if -(2 ^ 62)≤j∧j<2 ^ 62 then .ok (vW 0 j.toNat) else .no
 |none=>.no
theorem xm{a:Expr}{p:Pos}(hg:Gl X "range")(hm:X.mg "range" = none)(ha:PDA X [a] fs)(hs:starEach [a] X.env=[(false,eval a X.env)]:=by rfl):PDI X tg (.Call (.Name "range" p) [a] [] pos) (wn fs):=
 PI.imp (Ja hg hm ha hs) fun σ H R ⟨F,τ,Rv,h⟩=>tAs.of Rv h.bind fun ds vs F1 H1 g x R1 r=>by
  cases q1:VM ds with
  |none=>rw[q1] at g;exact g.elim
  |some j=>
   rw[q1] at g
   have e:=UD q1
   subst e
   obtain⟨v,rfl,q⟩:=r.one
   simp only[Rep] at q;subst q
   obtain⟨z,g⟩:=y8 g
   exact⟨j,rfl,z.1,z.2,g _ F1 H1 x za5⟩
abbrev FG:=D→DS→Rs DS
def tG(X:Cx)(set:FG):TG:=fun v σ H Q=>∃F τ d,RV X.K F τ σ H∧Rep X.K F d v∧Ok X (set d τ) fun τ'=>∀σ',RV X.K F τ' σ' H→(∀B Z,RS X.K B Z F τ σ H→RS X.K B Z F τ' σ' H)→σ'.length=σ.length→Q σ' H
def PDG(X:Cx)(tg:Expr)(set:FG):Prop:=PG X tg (tG X set)
theorem _root_.L2.PG.imp{X:Cx}{e:Expr}{t t':TG}(h:PG X e t)(f:∀v σ H Q,t' v σ H Q→t v σ H Q):PG X e t':=fun pins s σ H v u Q I r q=>h pins s σ H v u Q I r (f _ _ _ _ q)
def gNm(i:Nat):FG:=fun d τ=>.ok (τ.set i (some (.val d)))
theorem yH{i:Nat}{x:Str}(hN:X.N.Nodup)(hi:X.N[i]?=some x)(hx:Loc X.env.scope x)(hf:X.fn x=true∨X.env.scope.names.lookup x=some .local:=by first|exact .inl rfl|exact .inr rfl|assumption):PDG X (.Name x pos) (gNm i):=
 PG.imp (ZD hN hi hx hf) fun v σ H Q ⟨F,τ,d,R,r,h⟩=>h _ (R.set r) (fun B Z R'=>R'.set r) (by simp)
def gPr(i j:Nat):FG:=fun d τ=>match Zf d with
 | some (x,y)=>.ok ((τ.set i (some (.val x))).set j (some (.val y)))
 |none=>.no
theorem WA{i j k:Nat}{x y:Str}{px py:Pos}(hc:X.calm=true)(hN:X.N.Nodup)(hi:X.N[i]?=some x)(hx:Loc X.env.scope x)(hj:X.N[j]?=some y)(hy:Loc X.env.scope y)
  (hf:X.fn x=true∨X.env.scope.names.lookup x=some .local:=by first|exact .inl rfl|exact .inr rfl|assumption) (hf':X.fn y=true∨X.env.scope.names.lookup y=some .local:=by first|exact .inl rfl|exact .inr rfl|assumption) :
  PDG X (.Tuple [.Name x px,.Name y py] k pos) (gPr i j):=
 PG.imp (LC (n:=2) hc (Wy (ZD hN hi hx hf) (Wy (ZD hN hj hy hf') Mz))) fun v σ H Q ⟨F,τ,d,R,r,h⟩=>by
  unfold gPr at h
  cases q1:Zf d with
  |none=>rw[q1] at h;exact h.elim
  |some xy=>
   obtain⟨x,y⟩:=xy
   rw[q1] at h
   have e:=QH q1
   subst e
   simp only[Rep] at r
   obtain⟨a,vs,rfl,q,t⟩:=r
   obtain⟨v1,v2,rfl,r1,r2⟩:=t.two
   exact⟨a,_,rfl,Same.seqT R.fh q,rfl,v1,[v2],rfl,v2,[],rfl,rfl,h _ ((R.set r1).set r2) (fun B Z R'=>(R'.set r1).set r2) (by simp)⟩
def yB(set:FG)(body:FS):List D→DS→Fl
 |[],τ=>.nx τ
 |d::r,τ=>Fl.of (set d τ) fun τ1=>match body τ1 with
  |.nx τ'=>yB set body r τ'
  |.ct τ'=>yB set body r τ'
  |.bk τ'=>.nx τ'
  |.rt d=>.rt d
  |.ro d τ'=>.ro d τ'
  |.rb d τ'=>.rb d τ'
  |.ex c=>.ex c
  |.no=>.no
  |.rs c τ'=>.rs c τ'
def wj(fi:FA)(set:FG)(body:FS):FS:=fun τ=>Fl.of (fi τ) fun ds=>yB set body ds τ
theorem xR{iter:Expr}{body:List Stmt}{fi:FA}{set:FG}{fb:FS}(hp:PassesOwn (model X.prog X.w) X.A X.env X.xe)(hc:X.calm=true)(hi:PDI X tg iter fi)(hg:PDG X tg set)(hb:Zz X body fb)
  (hs:∀x,foldedSetIterable iter X.env x=pure x:=by intro _;rfl):PDS X (.For tg iter body [] pos) (wj fi set fb):=
 PS.imp (Qw hp hc hi hg hb hs) fun E σ H ⟨B,Z,F,τ,R,h⟩=>by
  refine⟨F,τ,R.rv,h.of.imp fun ds g J F1 H1 x io=>?_⟩
  refine⟨fun i m σ H=>m=ds.length-i∧i≤ds.length∧∃F' τ',Same F1 F'∧RS X.K B Z F' τ' σ H∧Post X B Z F' E (yB set fb (ds.drop i) τ'),⟨ds.length,by simp,zero_le _,F1,τ,Same.refl _,R.ext x,g.same x.ff⟩,?_⟩
  rintro i m σ2 H2 ⟨rfl,hi,F2,τ2,f2,R2,p2⟩
  obtain⟨i1,i2⟩:=io i F2 H2 f2 R2.rv.fh
  by_cases hlt:i<ds.length
  ·have hd:ds.drop i=ds[i]::ds.drop (i+1):=drop_eq_getElem_cons hlt
   rw[hd] at p2
   obtain⟨go,yl⟩:=i2 ds[i] (by simp[hlt])
   refine .inr ⟨go,fun σ' H'=>∃F' τ',Same F2 F'∧RS X.K B Z F' τ' σ' H'∧Post X B Z F' E (yB set fb (ds.drop (i+1)) τ'),fun σ' H' ⟨F',τ',a,b,c⟩=>⟨ds.length-(i+1),by omega,rfl,hlt,F',τ',f2.trans a,b,c⟩,fun y H' yy=>?_⟩
   obtain⟨F3,x3,r3⟩:=yl y H' yy
   have R3:=R2.ext x3
   refine⟨F3,τ2,ds[i],R3.rv,r3,(Post.of p2).imp fun τ4 p4 σ4 _ R4 _=>⟨B,Z,F3,τ4,R4 B Z R3,?_⟩⟩
   cases q:fb τ4 with
   |nx τ5=>rw[q] at p4;exact fun σ' F' H' ff RR=>⟨F',τ5,x3.ff.trans ff,RR,Post.same p4 (x3.ff.trans ff)⟩
   |ct τ5=>rw[q] at p4;exact fun σ' F' H' ff RR=>⟨F',τ5,x3.ff.trans ff,RR,Post.same p4 (x3.ff.trans ff)⟩
   |bk τ5=>rw[q] at p4;exact fun σ' F' H' ff RR=>p4 σ' F' H' (x3.ff.trans ff) RR
   |rt d=>rw[q] at p4;exact p4
   |ro d τ'=>rw[q] at p4;exact fun v σ' F' H' ff RR rr=>p4 v σ' F' H' (x3.ff.trans ff) RR rr
   |rb d τ'=>rw[q] at p4;exact fun v σ' F' H' ff RR rr=>p4 v σ' F' H' (x3.ff.trans ff) RR rr
   |ex c=>rw[q] at p4;exact p4
   |no=>rw[q] at p4;exact p4
   |rs c τ5=>rw[q] at p4;exact fun σ' F' H' ff RR=>p4 σ' F' H' (x3.ff.trans ff) RR
  ·have e:i=ds.length:=by omega
   subst e
   rw[List.drop_length] at p2
   exact .inl ⟨i1 (le_refl _),p2 σ2 F2 H2 (Same.refl _) R2⟩
end
def MT(r:Rs D):Rs D:=match r with
 |.ok d=>.ok d
 |_=>.no
def spD(K:PySem.W.Frag)(n:Nat)(g:List D→Rs D):Sp:=fun vs H Q E=>vs.length=n∧∃ds F,Same F H∧TbT F H∧Reps K F ds vs∧match g ds with
 |.ok d=>Ev K F H Q d
 |_=>False
def zW(N:Nat)(ds:List D):DS:=ds.map (fun d=>some (.val d))++List.replicate (N-ds.length) none
def vQ:Fl→Rs D
 |.rt d=>.ok d
 |.ro d _=>.ok d
 |.nx _=>.ok .non
 |.rs c _=>.ex c
 |_=>.no
def xb(N:Nat)(fb:FS)(ds:List D):Rs D:=vQ (fb (zW N ds))
theorem Wv{K:PySem.W.Frag}{F H:Hp}{N:List Str}{ds:List D}{vs:List V}(fh:Same F H)(tt:TbT F H)(r:Reps K F ds vs):RS K H F F (zW N.length ds) (L2.start N vs) H:=by
 have hl:=r.length
 have hval:∀(i:Nat) (o:Sl),(zW N.length ds)[i]?=some (some o)→∃d,ds[i]?=some d∧o=.val d:=fun i o h=>by
  unfold zW at h
  by_cases hi:i<ds.length
  ·rw[getElem?_append_left (by simpa using hi),getElem?_map] at h
   cases e:ds[i]? with
   |none=>rw[e] at h;cases h
   |some d=>rw[e] at h;cases h;exact⟨d,rfl,rfl⟩
  ·rw[getElem?_append_right (by simpa using hi),getElem?_replicate] at h
   split at h <;> cases h
 refine⟨⟨fh,?_,fun i d h=>?_,fun i es h=>?_,fun i j es es' a _ h1 _ _ _=>?_,tt,ObsOk.none fun i s h=>?_⟩,Hh.refl H,Same.refl F,fun a o e=>.inl e,fun i es a h1 _=>?_,fun i m c fs a h1 _=>?_,fun a0 dx _ _ j m c fs h1=>?_,fun j c fs a h1 _=>?_⟩
 ·simp[zW,L2.start,hl]
 ·obtain⟨d',h1,h2⟩:=hval i _ h
  cases h2
  obtain⟨v,q1,q2⟩:=r.get h1
  refine⟨v,?_,q2⟩
  have hi:i<vs.length:=(List.getElem?_eq_some_iff.mp q1).1
  unfold L2.start
  rw[getElem?_append_left (by simpa using hi),getElem?_map,q1];rfl
 ·obtain⟨_,_,h2⟩:=hval i _ h;cases h2
 ·obtain⟨_,_,h2⟩:=hval i _ h1;cases h2
 ·cases s with
  |none=>rfl
  |some o=>obtain⟨_,_,h2⟩:=hval i _ h;rw[h2];rfl
 ·obtain⟨_,_,h2⟩:=hval i _ h1;cases h2
 ·obtain⟨_,_,h2⟩:=hval i _ h1;cases h2
 ·obtain⟨_,_,h2⟩:=hval j _ h1;cases h2
 ·obtain⟨_,_,h2⟩:=hval j _ h1;cases h2
section
variable{P:Program}{w:World}{K:PySem.W.Frag}{mg:Str→Option Value}{base:Heap}
theorem fnD{x qual:Str}{st:Stmt}{f:Addr}{fd:FuncData}{N ps:List Str}{k n:Nat}{fb:FS}(F:Fun K x qual st f fd)(S:zQ N ps (zk st))(hn:ps.length=n)
  (hbody:∀(cdv:Value) (A:Around) (outer:List Env) (s:Shared) (H:Hp) (E:XK),Room k (A.deeper (envOfC qual (zk st) s.heap.objs.size f cdv)) →
   Zz (Wa CX0 P w K mg base N qual (zk st) f cdv A outer s H E).nox (zF st) fb):FnOk P w K mg base CX0 (k+1) f fd ps (spD K n (xb N.length fb)):=by
 refine F.ok S (fun vs H Q E h=>by rw[hn];exact h.1) fun cdv A outer s H vs Q E hr h=>⟨_,hbody cdv A outer s H E hr,?_⟩
 obtain⟨hl,ds,Fz,fh,tt,r,h⟩:=h
 refine⟨H,Fz,Fz,zW N.length ds,Wv fh tt r,?_⟩
 unfold xb at h
 cases q:fb (zW N.length ds) with
 |nx τ=>rw[q] at h;exact fun σ F' H' ff RR=>h .non F' H' RR.out (by simp only[Rep])
 |rt d=>rw[q] at h;exact fun v F' H' x rr=>h v F' H' x rr
 |ro d τ=>rw[q] at h;exact fun v σ F' H' ff RR rr=>h v F' H' RR.out rr
 |rb d τ=>rw[q] at h;exact h.elim
 |bk τ=>rw[q] at h;exact h.elim
 |ct τ=>rw[q] at h;exact h.elim
 |ex c=>rw[q] at h;exact h.elim
 |no=>rw[q] at h;exact h.elim
 |rs c τ=>rw[q] at h;exact h.elim
theorem FnD.to{CX:CXT}{f:Addr}{fd:FuncData}{ps:List Str}{k n:Nat}{g g':List D→Rs D}(F:FnOk P w K mg base CX k f fd ps (spD K n g))(h:∀ds d,ds.length=n→g' ds=.ok d→g ds=.ok d):FnOk P w K mg base CX k f fd ps (spD K n g'):=
 F.imp fun vs H Q E ⟨hl,ds,Fz,fh,tt,r,q⟩=>⟨hl,ds,Fz,fh,tt,r,by
  cases e:g' ds with
  |ok d=>rw[e] at q;rw[h ds d (by rw[r.length];exact hl) e];exact q
  |ex c=>rw[e] at q;exact q.elim
  |no=>rw[e] at q;exact q.elim⟩
end
section
variable{X:Cx}{pos:Pos}{e tg:Expr}{es:List Expr}{fe:FE}{fs:FA}
def zo(g:List D→Rs D)(fs:FA):FE:=fun τ=>(fs τ).bind fun ds=>MT (g ds)
theorem QF{k n:Nat}{f:Addr}{fd:FuncData}{ps:List Str}{g:List D→Rs D}{x:Str}{p:Pos}(F:FnOk X.prog X.w X.K X.mg X.base CX0 k f fd ps (spD X.K n g))(hr:Room k X.A)(hg:Gl X x)(hm:X.mg x=some (.ref f))(hk:keepIn X.K (.ref f)=true)(hb:Binds X.K fd ps [])
  (ha:PDA X (e::es) fs) (hn:(e::es).length=n) (hfs:∀τ ds,fs τ=.ok ds→ds.length=(e::es).length) (hdb:(x==("__debug__" : Str))=false:=by decide) (he:starEach (e::es) X.env=(false,eval e X.env)::starEach es X.env:=by rfl) (hpl:(backTo pos (starEach es X.env)).any (·.1)=false:=by rfl) :
  PDE X (.Call (.Name x p) (e::es) [] pos) (zo g fs):=
 PE.imp (MD F hr hg hm hk hb .nil (E:=E0) pass0 ha hdb he hpl) fun σ H Q ⟨Fz,τ,R,h⟩=>by
  have hb:=h.bind
  refine⟨Fz,τ,R,?_⟩
  cases q:fs τ with
  |no=>rw[q] at hb;exact hb
  |ex c=>rw[q] at hb;exact hb
  |ok ds=>
   rw[q] at hb
   intro vs F1 H1 x r
   rw[append_nil]
   refine⟨by rw[← r.length,hfs τ ds q,hn],ds,F1,x.fh,x.tt R.tt,r,?_⟩
   have hb:Ok X (MT (g ds)) (Ev X.K Fz H Q):=hb
   cases z:g ds with
   |ok d=>rw[z] at hb;exact Ev.ext hb x
   |ex c=>rw[z] at hb;exact hb.elim
   |no=>rw[z] at hb;exact hb.elim
theorem zq(τ:DS)(ds:List D)(h:zi τ=.ok ds):ds.length=0:=by cases h;rfl
theorem ze{f:FE}{g:FA}{n:Nat}(hg:∀τ ds,g τ=.ok ds→ds.length=n)(τ:DS)(ds:List D)(h:za f g τ=.ok ds):ds.length=n+1:=by
 unfold za at h
 cases q:f τ with
 |no=>rw[q] at h;cases h
 |ex c=>rw[q] at h;cases h
 |ok d=>
  rw[q] at h
  cases q2:g τ with
  |no=>rw[q2] at h;cases h
  |ex c=>rw[q2] at h;cases h
  |ok r=>rw[q2] at h;cases h;simp[hg τ r q2]
def YF(X:Cx)(f:Value)(g:List D→Rs D):Prop:=∃r,CallR X f r∧∀F H vs ds Q,Same F H→Reps X.K F ds vs→Ok X (g ds) (Ev X.K F H Q)→r vs H Q
def yg(g:List D→Rs D)(fs:FA):FE:=fun τ=>(fs τ).bind g
theorem zD{id:String}{x:Str}{p:Pos}{g:List D→Rs D}(hc:YF X (.builtin id) g)(hg:Gl X x)(hm:X.mg x=none)(hv:bootBuiltins x=some (.builtin id))(ha:PDA X (e::es) fs)(hn:x ≠ "__name__" := by decide)(hdb:(x==("__debug__" : Str))=false:=by decide)
  (he:starEach (e::es) X.env=(false,eval e X.env)::starEach es X.env:=by rfl) (hpl:(backTo pos (starEach es X.env)).any (·.1)=false:=by rfl):PDE X (.Call (.Name x p) (e::es) [] pos) (yg g fs):=by
 obtain⟨r,h1,h2⟩:=hc
 exact PE.imp (L2.pe_callB h1 hg hm hv ha hn hdb he hpl) fun σ H Q ⟨Fz,τ,R,h⟩=>tAs.of R h.bind fun ds vs F1 H1 q x R1 rr=>h2 F1 H1 vs ds Q R1.fh rr (q.imp fun d e=>e.ext x)
def IxD(X:Cx)(op:D→D→Rs D):Prop:=∃r:R2,IxR X r∧∀F H x y dx dy Q,Same F H→Rep X.K F dx x→Rep X.K F dy y→Ok X (op dx dy) (Ev X.K F H Q)→r x y H Q
theorem zI{a b:Expr}{fa fb:FE}{op:D→D→Rs D}(hr:IxD X op)(ha:PDE X a fa)(hb:PDE X b fb)(hs:We b:=by intro _ _;rfl):PDE X (.Subscript a b pos) (eOp op fa fb):=by
 obtain⟨r,h1,h2⟩:=hr
 exact PE.imp (TX h1 ha hb hs) (Ul h2)
def ixD:D→D→Rs D
 |.lst ds,.int k=>match atI ds k with
  |some d=>.ok d
  |none=>.no
 |.tup ds,.int k=>match atI ds k with
  |some d=>.ok d
  |none=>.no
 |.scr ns,.int k=>match atI ns k with
  |some d=>.ok (.int d)
  |none=>.no
 |.str x,.int k=>match atI x.cps.toList k with
  |some c=>if x.length≤sizeLine then .ok (.str ⟨#[c]⟩) else .no
  |none=>.no
 |_,_=>.no
theorem TJ{α β:Type}{f:α→β}{xs:List α}{k:Int}{a:α}(h:atI xs k=some a):atI (xs.map f) k=some (f a):=by
 unfold atI at h ⊢
 rw[length_map]
 cases q:ixN xs.length k with
 |none=>rw[q] at h;cases h
 |some j=>
  rw[q] at h
  have h:xs[j]?=some a:=h
  show(xs.map f)[j]?=_
  rw[getElem?_map,h];rfl
theorem yd:IxD X ixD:=⟨_,za1,fun F H x y dx dy Q fh r1 r2 h=>by
 cases dx with
 |lst ds=>
  cases dy with
  |int k=>
   simp only[Rep] at r1 r2;obtain⟨a,vs,rfl,q,t⟩:=r1;subst r2
   simp only[ixD] at h
   cases z:atI ds k with
   |none=>rw[z] at h;exact h.elim
   |some d=>
    rw[z] at h
    obtain⟨v,z1,z2⟩:=YB t z
    exact .inl ⟨a,vs,k,v,rfl,rfl,SqL.of (fh _ _ q),z1,h v F H (Ext.refl fh) z2⟩
  |_=>exact h.elim
 |tup ds=>
  cases dy with
  |int k=>
   simp only[Rep] at r1 r2;obtain⟨a,vs,rfl,q,t⟩:=r1;subst r2
   simp only[ixD] at h
   cases z:atI ds k with
   |none=>rw[z] at h;exact h.elim
   |some d=>
    rw[z] at h
    obtain⟨v,z1,z2⟩:=YB t z
    exact .inr (.inl ⟨a,vs,k,v,rfl,rfl,Same.seqT fh q,z1,h v F H (Ext.refl fh) z2⟩)
  |_=>exact h.elim
 |scr ns=>
  cases dy with
  |int k=>
   simp only[Rep] at r1 r2;obtain⟨a,rfl,q⟩:=r1;subst r2
   simp only[ixD] at h
   cases z:atI ns k with
   |none=>rw[z] at h;exact h.elim
   |some d=>
    rw[z] at h
    exact .inl ⟨a,_,k,.int d,rfl,rfl,fh.seq q,TJ z,h (.int d) F H (Ext.refl fh) (by simp only[Rep])⟩
  |_=>exact h.elim
 |str x=>
  cases dy with
  |int k=>
   simp only[Rep] at r1 r2;subst r1;subst r2
   simp only[ixD] at h
   cases z:atI x.cps.toList k with
   |none=>rw[z] at h;exact h.elim
   |some c=>
    rw[z] at h
    obtain⟨z2,h⟩:=y8 h
    exact .inr (.inr ⟨x,k,c,rfl,rfl,z2,z,h _ F H (Ext.refl fh) (by simp only[Rep])⟩)
  |_=>exact h.elim
 |_=>cases dy <;> exact h.elim⟩
end
mutual
def vw:D→PyData
 |.non=>.none
 |.bl b=>.bool b
 |.int i=>.int i
 |.str x=>.str x
 |.lst ds=>.list (toPys ds)
 |.tup ds=>.tuple (toPys ds)
 |.scr ns=>.list (ns.map .int)
 |.raw _=>.none
 |.exc _=>.none
def toPys:List D→List PyData
 |[]=>[]
 |d::r=>vw d::toPys r
end
mutual
def vi:D→Bool
 |.lst ds=>plainDs ds
 |.tup ds=>plainDs ds
 |.raw _=>false
 |.exc _=>false
 |_=>true
def plainDs:List D→Bool
 |[]=>true
 |d::r=>vi d&&plainDs r
end
theorem readsAll_ints{h:Heap}:∀{ns:List Int} {us:List Value},Vals (ns.map V.int) us→ReadsAll h us (ns.map .int) []
 |[],_,.nil=>.nil
 |n::ns,_,.cons r t=>by
  obtain⟨tk,rfl⟩:=r
  exact .cons (as:=[]) (bs:=[]) (.int n tk) (readsAll_ints t)
section
variable{X:Cx}{pins:List (Addr×Obj)}{σ:St}{F H:Hp}{s:Shared}
mutual
theorem vh(I:Inv X pins σ H s)(fh:Same F H):∀(d:D) {v:V} {u:Value},Rep X.K F d v→RelV v u→vi d=true→∃as,Reads s.heap u (vw d) as
 |.non,v,u,r,rv,_=>by simp only[Rep] at r;subst r;cases rv;exact⟨[],.none⟩
 |.bl b,v,u,r,rv,_=>by simp only[Rep] at r;subst r;cases rv;exact⟨[],.bool b⟩
 |.int i,v,u,r,rv,_=>by simp only[Rep] at r;subst r;obtain⟨t,rfl⟩:=rv;exact⟨[],.int i t⟩
 |.str x,v,u,r,rv,_=>by simp only[Rep] at r;subst r;obtain⟨t,rfl⟩:=rv;exact⟨[],.str x t⟩
 |.lst ds,v,u,r,rv,hp=>by
  simp only[Rep] at r;obtain⟨a,vs,rfl,q,t⟩:=r
  cases rv
  obtain⟨its,rr,⟨o,n,e,c,_,dd⟩,_⟩:=I.list (SqL.of (K:=X.K) (fh _ _ q))
  obtain⟨as,ra⟩:=readss_of I fh ds t rr (by simpa only[vi] using hp)
  exact⟨a::as,by rw[vw];exact .list e c dd (by simpa using ra)⟩
 |.tup ds,v,u,r,rv,hp=>by
  simp only[Rep] at r;obtain⟨a,vs,rfl,q,t⟩:=r
  cases rv
  obtain⟨its,rr,⟨o,e,c,n,dd⟩,_⟩:=I.tuple (Same.seqT fh q)
  obtain⟨as,ra⟩:=readss_of I fh ds t rr (by simpa only[vi] using hp)
  exact⟨as,by rw[vw];exact .tuple e c dd (by simpa using ra)⟩
 |.scr ns,v,u,r,rv,hp=>by
  simp only[Rep] at r;obtain⟨a,rfl,q⟩:=r
  cases rv
  obtain⟨its,rr,⟨o,n,e,c,_,dd⟩,_⟩:=I.list (fh.seq q)
  exact⟨[a],by rw[vw];exact .list e c dd (by simpa using readsAll_ints rr)⟩
 |.raw w,v,u,r,rv,hp=>by simp[vi] at hp
 |.exc w,v,u,r,rv,hp=>by simp[vi] at hp
theorem readss_of(I:Inv X pins σ H s)(fh:Same F H):∀(ds:List D) {vs:List V} {us:List Value},Reps X.K F ds vs→Vals vs us→plainDs ds=true→∃as,ReadsAll s.heap us (toPys ds) as
 |[],vs,us,r,rv,_=>by simp only[Reps] at r;subst r;cases rv;exact⟨[],by rw[toPys];exact .nil⟩
 |d::ds,vs,us,r,rv,hp=>by
  simp only[Reps] at r
  obtain⟨v,r',rfl,q,t⟩:=r
  simp only[plainDs,Bool.and_eq_true] at hp
  cases rv with
  |cons r1 r2=>
   obtain⟨as,h1⟩:=vh I fh d q r1 hp.1
   obtain⟨bs,h2⟩:=readss_of I fh ds t r2 hp.2
   exact⟨as++bs,by rw[toPys];exact .cons h1 h2⟩
end
end
def okD(d:D):Bool:=vi d&&(vw d).canLay0&&decide ((vw d).depth≤60)
theorem uP{d:D}(h:okD d=true):vi d=true∧(vw d).canLay0=true∧(vw d).depth≤60:=by
 simpa[okD,and_assoc] using h
def ub(d e:D):Bool:=PyData.eqv (vw d) (vw e)
def eqD:D→D→Rs D
 |.str x,.str y=>.ok (.bl (x==y))
 |.int x,.int y=>.ok (.bl (x==y))
 |d,e=>if okD d=true∧okD e=true then .ok (.bl (ub d e)) else .no
def neD:D→D→Rs D
 |.str x,.str y=>.ok (.bl (!(x==y)))
 |.int x,.int y=>.ok (.bl (!(x==y)))
 |d,e=>if okD d=true∧okD e=true then .ok (.bl (!ub d e)) else .no
section
variable{X:Cx}
def Ue(K:PySem.W.Frag)(b:D→D→Bool):R2:=fun x y H Q=>∃F d e,Same F H∧Rep K F d x∧Rep K F e y∧okD d=true∧okD e=true∧Q (.bl (b d e)) H
theorem Jk(hu:X.A.units+64<cLine):OpR X (compareOp .Eq) (Ue X.K ub):=by
 intro pins s σ H x y v u Q I rx ry h
 obtain⟨F,d,e,fh,r1,r2,o1,o2,q⟩:=h
 obtain⟨p1,c1,e1⟩:=uP o1
 obtain⟨p2,c2,e2⟩:=uP o2
 obtain⟨as,h1⟩:=vh I fh d r1 rx p1
 obtain⟨bs,h2⟩:=vh I fh e r2 ry p2
 exact SeqAt.compareEq_reads h1 h2 c1 c2 (by omega) ⟨.bl _,H,I,rfl,q⟩
theorem Ji(hu:X.A.units+64<cLine):OpR X (compareOp .NotEq) (Ue X.K fun d e=>!ub d e):=by
 intro pins s σ H x y v u Q I rx ry h
 obtain⟨F,d,e,fh,r1,r2,o1,o2,q⟩:=h
 obtain⟨p1,c1,e1⟩:=uP o1
 obtain⟨p2,c2,e2⟩:=uP o2
 obtain⟨as,h1⟩:=vh I fh d r1 rx p1
 obtain⟨bs,h2⟩:=vh I fh e r2 ry p2
 exact SeqAt.compareNe_reads h1 h2 c1 c2 (by omega) ⟨.bl _,H,I,rfl,q⟩
theorem wA(hu:X.A.units+64<cLine):OpD X (compareOp .Eq) eqD:=⟨_,op_eq.or (Jk hu),fun F H x y dx dy Q fh r1 r2 h=>by
 have gen:(Ok X (if okD dx=true∧okD dy=true then .ok (.bl (ub dx dy)) else .no) (Ev X.K F H Q))→rEq x y H Q∨Ue X.K ub x y H Q:=fun h=>by
  obtain⟨z,h⟩:=y8 h
  exact .inr ⟨F,dx,dy,fh,r1,r2,z.1,z.2,h _ F H (Ext.refl fh) (by simp only[Rep])⟩
 cases dx with
 |str a=>
  cases dy with
  |str b=>
   simp only[Rep] at r1 r2;subst r1;subst r2
   exact .inl ⟨rfl,by rw[ZM];exact h _ F H (Ext.refl fh) (by simp only[Rep])⟩
  |_=>exact gen h
 |int a=>
  cases dy with
  |int b=>
   simp only[Rep] at r1 r2;subst r1;subst r2
   exact .inl ⟨rfl,by rw[ZN];exact h _ F H (Ext.refl fh) (by simp only[Rep])⟩
  |_=>exact gen h
 |_=>exact gen h⟩
theorem Z2(hu:X.A.units+64<cLine):OpD X (compareOp .NotEq) neD:=⟨_,op_ne.or (Ji hu),fun F H x y dx dy Q fh r1 r2 h=>by
 have gen:(Ok X (if okD dx=true∧okD dy=true then .ok (.bl (!ub dx dy)) else .no) (Ev X.K F H Q))→rNe x y H Q∨Ue X.K (fun d e=>!ub d e) x y H Q:=fun h=>by
  obtain⟨z,h⟩:=y8 h
  exact .inr ⟨F,dx,dy,fh,r1,r2,z.1,z.2,h _ F H (Ext.refl fh) (by simp only[Rep])⟩
 cases dx with
 |str a=>
  cases dy with
  |str b=>
   simp only[Rep] at r1 r2;subst r1;subst r2
   exact .inl ⟨rfl,by rw[ZM];exact h _ F H (Ext.refl fh) (by simp only[Rep])⟩
  |_=>exact gen h
 |int a=>
  cases dy with
  |int b=>
   simp only[Rep] at r1 r2;subst r1;subst r2
   exact .inl ⟨rfl,by rw[ZN];exact h _ F H (Ext.refl fh) (by simp only[Rep])⟩
  |_=>exact gen h
 |_=>exact gen h⟩
def intOp(C:Int→Int→Bool)(g:Int→Int→D):D→D→Rs D
 |.int i,.int j=>if C i j=true then .ok (g i j) else .no
 |_,_=>.no
theorem Uk{f:Value→Value→Sem Value}{C':Int→Int→Prop}{C:Int→Int→Bool}{gv:Int→Int→V}{g:Int→Int→D}(h:OpR X f (rI C' gv))(hc:∀i j,C i j=true→C' i j)(hg:∀F i j,Rep X.K F (g i j) (gv i j)):OpD X f (intOp C g):=
 ⟨_,h,fun F H x y dx dy Q fh r1 r2 q=>by
  cases dx with
  |int i=>
   cases dy with
   |int j=>
    simp only[Rep] at r1 r2;subst r1;subst r2
    obtain⟨z,q⟩:=y8 q
    exact⟨i,j,rfl,rfl,hc i j z,q _ F H (Ext.refl fh) (hg F i j)⟩
   |_=>exact q.elim
  |_=>cases dy <;> exact q.elim⟩
def xP(g:Int→Int→D):D→D→Rs D
 |.int i,.int j=>.ok (g i j)
 |_,_=>.no
theorem uz{f:Value→Value→Sem Value}{gv:Int→Int→V}{g:Int→Int→D}(h:OpR X f (rI0 gv))(hg:∀F i j,Rep X.K F (g i j) (gv i j)):OpD X f (xP g):=
 ⟨_,h,fun F H x y dx dy Q fh r1 r2 q=>by
  cases dx with
  |int i=>
   cases dy with
   |int j=>
    simp only[Rep] at r1 r2;subst r1;subst r2
    exact⟨i,j,rfl,rfl,q _ F H (Ext.refl fh) (hg F i j)⟩
   |_=>exact q.elim
  |_=>cases dy <;> exact q.elim⟩
def wP:=xP fun i j=>.int (i-j)
theorem wk:OpD X (binaryOp .Sub) wP:=uz LO fun _ _ _=>by simp only[Rep]
def X6:=intOp (fun _ j=>decide (0<j)) fun i j=>.int (i%j)
theorem uO:OpD X (binaryOp .Mod) X6:=Uk LQ (fun i j h=>by simpa using h) fun _ _ _=>by simp only[Rep]
def Yr:=intOp (fun _ j=>decide (0<j∧j<1073741824)) fun i j=>.int (i / j)
theorem jD:OpD X (binaryOp .FloorDiv) Yr:=Uk MN (fun i j h=>by have h':0<j∧j<1073741824:=of_decide_eq_true h;exact h') fun _ _ _=>by simp only[Rep]
def ltI:=xP fun i j=>.bl (decide (i<j))
def leD:=xP fun i j=>.bl (decide (i≤j))
def gtD:=xP fun i j=>.bl (decide (j<i))
def geD:=xP fun i j=>.bl (decide (j≤i))
theorem XX:OpD X (compareOp .Lt) ltI:=uz op_lt fun _ _ _=>by simp only[Rep]
theorem QK:OpD X (compareOp .LtE) leD:=uz op_le fun _ _ _=>by simp only[Rep]
theorem XY:OpD X (compareOp .Gt) gtD:=uz op_gt fun _ _ _=>by simp only[Rep]
theorem QM:OpD X (compareOp .GtE) geD:=uz op_ge fun _ _ _=>by simp only[Rep]
def zU:D→D→Rs D
 |.int i,.int j=>.ok (.int (i+j))
 |.str i,.str j=>if i.length+j.length≤sizeLine then .ok (.str (i++j)) else .no
 |.lst i,.lst j=>if i.length+j.length≤sizeLine then .ok (.lst (i++j)) else .no
 |_,_=>.no
theorem zJ:OpD X (binaryOp .Add) zU:=⟨_,op_add.or (op_add_str.or LS),fun F H x y dx dy Q fh r1 r2 q=>by
 cases dx with
 |int i=>
  cases dy with
  |int j=>
   simp only[Rep] at r1 r2;subst r1;subst r2
   exact .inl ⟨i,j,rfl,rfl,q _ F H (Ext.refl fh) (by simp only[Rep])⟩
  |_=>exact q.elim
 |str i=>
  cases dy with
  |str j=>
   simp only[Rep] at r1 r2;subst r1;subst r2
   obtain⟨z,q⟩:=y8 q
   exact .inr (.inl ⟨i,j,rfl,rfl,z,q _ F H (Ext.refl fh) (by simp only[Rep])⟩)
  |_=>exact q.elim
 |lst i=>
  cases dy with
  |lst j=>
   simp only[Rep] at r1 r2
   obtain⟨a,vs,rfl,e1,t1⟩:=r1
   obtain⟨b,ws,rfl,e2,t2⟩:=r2
   obtain⟨z,q⟩:=y8 q
   refine .inr (.inr ⟨a,b,vs,ws,rfl,rfl,fh _ _ e1,fh _ _ e2,by rw[← t1.length,← t2.length];exact z,fun p hp=>q _ _ _ (Ext.new fh hp) ?_⟩)
   simp only[Rep]
   exact⟨p,vs++ws,rfl,zG,(t1.append t2).mono (yD (yi fh hp))⟩
  |_=>exact q.elim
 |_=>cases dy <;> exact q.elim⟩
def w6:D→D→Rs D
 |.int i,.int j=>if (-(18446744073709551616)<i∧i<18446744073709551616)∨(-(18446744073709551616)<j∧j<18446744073709551616) then .ok (.int (i*j)) else .no
 |.lst i,.int k=>if k<16777216∧-16777216<k∧i.length*k.toNat≤sizeLine then .ok (.lst (List.replicate k.toNat i).flatten) else .no
 |_,_=>.no
theorem xS:OpD X (binaryOp .Mult) w6:=⟨_,op_mul.or LP,fun F H x y dx dy Q fh r1 r2 q=>by
 cases dx with
 |int i=>
  cases dy with
  |int j=>
   simp only[Rep] at r1 r2;subst r1;subst r2
   obtain⟨z,q⟩:=y8 q
   refine .inl ⟨i,j,rfl,rfl,?_,q _ F H (Ext.refl fh) (by simp only[Rep])⟩
   unfold CMul
   rcases z with z|z
   ·exact .inl (by omega)
   ·exact .inr (by omega)
  |_=>exact q.elim
 |lst i=>
  cases dy with
  |int k=>
   simp only[Rep] at r1 r2
   obtain⟨a,vs,rfl,e1,t1⟩:=r1
   subst r2
   obtain⟨z,q⟩:=y8 q
   refine .inr ⟨a,k,vs,rfl,rfl,fh _ _ e1,by omega,by omega,by rw[← t1.length];exact z.2.2,fun p hp=>q _ _ _ (Ext.new fh hp) ?_⟩
   simp only[Rep]
   exact⟨p,_,rfl,zG,(t1.rep k.toNat).mono (yD (yi fh hp))⟩
  |_=>exact q.elim
 |_=>cases dy <;> exact q.elim⟩
def V9(i j:Str):Bool:=!(Builtin.Str.occurrences j i 0 j.length 1).isEmpty
def inD:D→D→Rs D
 |.str i,.str j=>.ok (.bl (V9 i j))
 |d,.lst xs=>if okD d=true∧okD (.lst xs)=true then .ok (.bl (xs.any fun y=>ub y d)) else .no
 |d,.tup xs=>if okD d=true∧okD (.tup xs)=true then .ok (.bl (xs.any fun y=>ub y d)) else .no
 |_,_=>.no
theorem Y1:∀xs:List D,toPys xs=xs.map vw
 |[]=>rfl
 |d::r=>by rw[toPys,Y1 r,map_cons]
theorem XB(xs:List D)(d:D):((toPys xs).any fun y=>PyData.eqv y (vw d))=xs.any fun y=>ub y d:=by
 rw[Y1,List.any_map];rfl
def rInD(K:PySem.W.Frag)(neg:Bool):R2:=fun x y H Q=>∃F d e xs,Same F H∧Rep K F d x∧Rep K F e y∧okD d=true∧okD e=true∧(e=.lst xs∨e=.tup xs)∧Q (.bl (if neg then !(xs.any fun y=>ub y d) else xs.any fun y=>ub y d)) H
theorem Jj(hu:X.A.units+128<cLine):OpR X (compareOp .In) (rInD X.K false):=by
 intro pins s σ H x y v u Q I rx ry h
 obtain⟨F,d,e,xs,fh,r1,r2,o1,o2,he,q⟩:=h
 obtain⟨p1,c1,e1⟩:=uP o1
 obtain⟨p2,c2,e2⟩:=uP o2
 obtain⟨as,h1⟩:=vh I fh d r1 rx p1
 obtain⟨bs,h2⟩:=vh I fh e r2 ry p2
 rcases he with rfl|rfl
 ·rw[vw] at h2 c2 e2
  refine SeqAt.in_list_reads h2 h1 (by simpa only[PyData.canLay0] using c2) c1 (by omega) ⟨.bl _,H,I,rfl,?_⟩
  rw[XB];exact q
 ·rw[vw] at h2 c2 e2
  refine SeqAt.in_tuple_reads h2 h1 (by simpa only[PyData.canLay0] using c2) c1 (by omega) ⟨.bl _,H,I,rfl,?_⟩
  rw[XB];exact q
theorem j0(hu:X.A.units+128<cLine):OpD X (compareOp .In) inD:=⟨_,op_in_str.or (Jj hu),fun F H x y dx dy Q fh r1 r2 q=>by
 cases dy with
 |lst xs=>
  have q':Ok X (if okD dx=true∧okD (.lst xs)=true then .ok (.bl (xs.any fun y=>ub y dx)) else .no) (Ev X.K F H Q):=by cases dx <;> exact q
  obtain⟨z,q⟩:=y8 q'
  exact .inr ⟨F,dx,_,xs,fh,r1,r2,z.1,z.2,.inl rfl,q _ F H (Ext.refl fh) (by simp only[Rep];rfl)⟩
 |tup xs=>
  have q':Ok X (if okD dx=true∧okD (.tup xs)=true then .ok (.bl (xs.any fun y=>ub y dx)) else .no) (Ev X.K F H Q):=by cases dx <;> exact q
  obtain⟨z,q⟩:=y8 q'
  exact .inr ⟨F,dx,_,xs,fh,r1,r2,z.1,z.2,.inr rfl,q _ F H (Ext.refl fh) (by simp only[Rep];rfl)⟩
 |str j=>
  cases dx with
  |str i=>
   simp only[Rep] at r1 r2;subst r1;subst r2
   exact .inl ⟨i,j,rfl,rfl,q _ F H (Ext.refl fh) (by simp only[Rep,V9])⟩
  |_=>exact q.elim
 |_=>cases dx <;> exact q.elim⟩
def isN:D→Rs Bool
 |.non=>.ok true
 |.raw _=>.no
 |.exc _=>.no
 |_=>.ok false
def isD(d e:D):Rs D:=match e with
 |.non=>(isN d).bind fun b=>.ok (.bl b)
 |_=>.no
def y9(d e:D):Rs D:=match e with
 |.non=>(isN d).bind fun b=>.ok (.bl (!b))
 |_=>.no
theorem UB{F:Hp}{d:D}{v:V}{P:Bool→Prop}(r:Rep X.K F d v)(h:Ok X (isN d) P):P (decide (v=.non)):=by
 cases d with
 |non=>simp only[Rep] at r;subst r;exact h
 |bl b=>simp only[Rep] at r;subst r;exact h
 |int b=>simp only[Rep] at r;subst r;exact h
 |str b=>simp only[Rep] at r;subst r;exact h
 |lst b=>simp only[Rep] at r;obtain⟨a,vs,rfl,_⟩:=r;exact h
 |tup b=>simp only[Rep] at r;obtain⟨a,vs,rfl,_⟩:=r;exact h
 |scr b=>simp only[Rep] at r;obtain⟨a,rfl,_⟩:=r;exact h
 |raw b=>exact h.elim
 |exc b=>exact h.elim
theorem QL:OpD X (compareOp .Is) isD:=⟨_,LR,fun F H x y dx dy Q fh r1 r2 q=>by
 cases dy with
 |non=>simp only[Rep] at r2;exact⟨r2,UB r1 (Ok.bind q) _ F H (Ext.refl fh) (by simp only[Rep])⟩
 |_=>exact q.elim⟩
theorem wz:OpD X (compareOp .IsNot) y9:=⟨_,MM,fun F H x y dx dy Q fh r1 r2 q=>by
 cases dy with
 |non=>simp only[Rep] at r2;have q':Ok X ((isN dx).bind fun b=>Rs.ok (D.bl (!b))) (Ev X.K F H Q):=q;have q2:=UB (P:=fun b=>Ok X (Rs.ok (D.bl (!b))) (Ev X.K F H Q)) r1 (Ok.bind q');exact⟨r2,q2 _ F H (Ext.refl fh) (by simp only[Rep])⟩
 |_=>exact q.elim⟩
def wS(fa:FE):FE:=fun τ=>(fa τ).bind fun d=>match d with
 |.int i=>.ok (.int (-i))
 |_=>.no
theorem vZ{a:Expr}{pos:Pos}{fa:FE}(ha:PDE X a fa):PDE X (.UnaryOp .USub a pos) (wS fa):=
 PE.imp (pe_un Lf ha) fun σ H Q ⟨F,τ,R,h⟩=>tE.of R h.bind fun d v F1 H1 g x R1 r=>by
  cases d with
  |int i=>simp only[Rep] at r;exact⟨i,r,g _ F1 H1 x (by simp only[Rep])⟩
  |_=>exact g.elim
end
def yX(env:Env)(cs:List (Str×Addr))(y:Str×NameKind):List (Str×Addr):=if y.2==NameKind.free then (y.1,(env.cells.lookup y.1).getD 0)::cs else cs
def xV(scope:Scope)(env:Env):List (Str×Addr):=scope.names.foldl (yX env) []
theorem vK{scope:Scope}{env:Env}(h:∀y∈scope.names,y.2=.free→(env.cells.lookup y.1).isSome=true):closureFor scope env=pure (xV scope env):=by
 unfold closureFor xV
 generalize scope.names=names at h
 have gen:∀(cs:List (Str×Addr)),(forIn names cs fun x r=>(do
   if (x.2==NameKind.free)=true then do
    let c ← cellOf env x.1
    pure PUnit.unit
    pure (ForInStep.yield ((x.1,c)::r))
   else do
    pure PUnit.unit
    pure (ForInStep.yield r)):Sem (List (Str×Addr)))=pure (names.foldl (yX env) cs):=by
  induction names with
  |nil=>intro cs;rfl
  |cons y r ih=>
   intro cs
   rw[forIn_cons,foldl_cons]
   by_cases hk:y.2=.free
   ·obtain⟨c,hc⟩:=Option.isSome_iff_exists.mp (h y mem_cons_self hk)
    have e:yX env cs y=(y.1,c)::cs:=by simp[yX,hk,hc]
    rw[e,← ih (fun z hz=>h z (mem_cons_of_mem _ hz))]
    simp only[hk,beq_self_eq_true,if_true,cellOf,hc]
    rfl
   ·have hb:(y.2==NameKind.free)=false:=by simpa using hk
    have e:yX env cs y=cs:=by simp[yX,hb]
    rw[e,← ih (fun z hz=>h z (mem_cons_of_mem _ hz))]
    simp only[hb,Bool.false_eq_true,if_false]
    rfl
 show((forIn names ([]:List (Str×Addr)) fun x r=>(do
   if (x.2==NameKind.free)=true then do
    let c ← cellOf env x.1
    pure PUnit.unit
    pure (ForInStep.yield ((x.1,c)::r))
   else do
    pure PUnit.unit
    pure (ForInStep.yield r)):Sem (List (Str×Addr))) >>= fun s=>pure s)=_
 rw[gen []]
 rfl
theorem Zl{env:Env}{x:Str}:∀{names:List (Str×NameKind)} {cs:List (Str×Addr)} {c:Addr},(names.foldl (yX env) cs).lookup x=some c→cs.lookup x=some c∨(∃y∈names,y.1=x∧y.2=.free∧c=(env.cells.lookup x).getD 0)
 |[],cs,c,h=>.inl h
 |y::r,cs,c,h=>by
  rw[foldl_cons] at h
  rcases Zl h with q|⟨z,hz,e⟩
  ·by_cases hk:y.2=.free
   ·have e:yX env cs y=(y.1,(env.cells.lookup y.1).getD 0)::cs:=by simp[yX,hk]
    rw[e,lookup_cons] at q
    by_cases hx:x=y.1
    ·subst hx
     simp at q
     exact .inr ⟨y,mem_cons_self,rfl,hk,q.symm⟩
    ·have hb:(x==y.1)=false:=by simpa using hx
     rw[hb] at q
     exact .inl q
   ·have hb:(y.2==NameKind.free)=false:=by simpa using hk
    have e:yX env cs y=cs:=by simp[yX,hb]
    rw[e] at q
    exact .inl q
  ·exact .inr ⟨z,mem_cons_of_mem _ hz,e⟩
theorem uI{env:Env}{x:Str}:∀{names:List (Str×NameKind)} {cs:List (Str×Addr)},((∃y∈names,y.1=x∧y.2=.free)∨∃c,cs.lookup x=some c)→∃c,(names.foldl (yX env) cs).lookup x=some c
 |[],cs,h=>by
  rcases h with ⟨y,hy,_⟩|h
  ·cases hy
  ·exact h
 |y::r,cs,h=>by
  rw[foldl_cons]
  refine uI ?_
  by_cases hk:y.2=.free
  ·have e:yX env cs y=(y.1,(env.cells.lookup y.1).getD 0)::cs:=by simp[yX,hk]
   rw[e]
   by_cases hx:x=y.1
   ·subst hx;exact .inr ⟨(env.cells.lookup y.1).getD 0,by rw[lookup_cons];simp⟩
   ·have hb:(x==y.1)=false:=by simpa using hx
    rcases h with ⟨z,hz,e1,e2⟩|⟨c,hc⟩
    ·rcases mem_cons.mp hz with rfl|hz
     ·exact absurd e1.symm hx
     ·exact .inl ⟨z,hz,e1,e2⟩
    ·exact .inr ⟨c,by rw[lookup_cons,hb];exact hc⟩
  ·have hb:(y.2==NameKind.free)=false:=by simpa using hk
   have e:yX env cs y=cs:=by simp[yX,hb]
   rw[e]
   rcases h with ⟨z,hz,e1,e2⟩|h
   ·rcases mem_cons.mp hz with rfl|hz
    ·exact absurd e2 hk
    ·exact .inl ⟨z,hz,e1,e2⟩
   ·exact .inr h
def _root_.L2.Cx.comp(X:Cx)(scope:Scope)(N:List Str)(s:Shared)(H:Hp)(C:Addr)(fp:List Addr):Cx:=
 { prog:=X.prog,w:=X.w,K:=X.K,mg:=X.mg,base:=X.base,A:=X.A,N:=N,s₀:=s,H₀:=H,env:=compEnvC scope (xV scope X.env) C X.env,outer:=X.stack,stack:=X.stack,ex:=fp,fn:=fun _=>false,calm:=X.calm,pn:=[],xe:=fun _ _=>False }
structure xF(X:Cx)(scope:Scope):Prop where
 kind:scope.kind=.function
 nocell:∀y∈scope.names,y.2≠.cell
 locs:∀y∈scope.names,y.2=.local→scope.names.lookup y.1=some .local
 free:∀y∈scope.names,y.2=.free→X.env.kindOf y.1=some .cell∨X.env.kindOf y.1=some .free
theorem wW{env:Env}:∀{names:List (Str×NameKind)} {x:Str},((names.map fun (n,k)=>if (k==NameKind.free&&env.scope.kind == .function&&env.kindOf n==some .cell) then (n,NameKind.cell) else (n,k)).lookup x=some .cell ∨
  (names.map fun (n,k)=>if (k==NameKind.free&&env.scope.kind == .function&&env.kindOf n==some .cell) then (n,NameKind.cell) else (n,k)).lookup x=some .free)→(∀y∈names,y.2≠.cell)→∃y∈names,y.1=x∧y.2=.free
 |[],_,h,_=>by rcases h with h|h <;> simp at h
 | (n,k)::r,x,h,hc=>by
  have hr:∀y∈r,y.2≠.cell:=fun y hy=>hc y (mem_cons_of_mem _ hy)
  rw[map_cons] at h
  by_cases hx:x=n
  ·subst hx
   by_cases hk:k=.free
   ·exact⟨_,mem_cons_self,rfl,hk⟩
   ·have hb:(k==NameKind.free)=false:=by simpa using hk
    have hck:k≠.cell:=hc (x,k) mem_cons_self
    simp only[hb,Bool.false_and,Bool.false_eq_true,if_false,lookup_cons,beq_self_eq_true] at h
    rcases h with h|h
    ·exact absurd (Option.some.inj h) hck
    ·exact absurd (Option.some.inj h) hk
  ·have hb:(x==n)=false:=by simpa using hx
   have step:∀q:Str×NameKind,q.1=n→((q::(r.map fun (n,k)=>if (k==NameKind.free&&env.scope.kind == .function&&env.kindOf n==some .cell) then (n,NameKind.cell) else (n,k))).lookup x)=((r.map fun (n,k)=>if (k==NameKind.free&&env.scope.kind == .function&&env.kindOf n==some .cell) then (n,NameKind.cell) else (n,k)).lookup x):=fun q hq=>by
    obtain⟨q1,q2⟩:=q
    simp only at hq
    subst hq
    rw[lookup_cons,hb]
   have h':((r.map fun (n,k)=>if (k==NameKind.free&&env.scope.kind == .function&&env.kindOf n==some .cell) then (n,NameKind.cell) else (n,k)).lookup x=some .cell∨(r.map fun (n,k)=>if (k==NameKind.free&&env.scope.kind == .function&&env.kindOf n==some .cell) then (n,NameKind.cell) else (n,k)).lookup x=some .free):=by
    rcases h with h|h
    ·left;exact(step _ (by show(if (k==NameKind.free&&env.scope.kind == .function&&env.kindOf n==some .cell)=true then (n,NameKind.cell) else (n,k)).1=n;split <;> rfl)).symm.trans h
    ·right;exact(step _ (by show(if (k==NameKind.free&&env.scope.kind == .function&&env.kindOf n==some .cell)=true then (n,NameKind.cell) else (n,k)).1=n;split <;> rfl)).symm.trans h
   obtain⟨y,hy,e⟩:=wW h' hr
   exact⟨y,mem_cons_of_mem _ hy,e⟩
theorem vX{env:Env}:∀{names:List (Str×NameKind)} {x:Str},names.lookup x=some .free→¬ (names.map fun (n,k)=>if (k==NameKind.free&&env.scope.kind == .function&&env.kindOf n==some .cell) then (n,NameKind.cell) else (n,k)).lookup x=some .local
 |[],_,h=>by simp at h
 | (n,k)::r,x,h=>by
  rw[map_cons]
  show ¬ List.lookup x ((if (k==NameKind.free&&env.scope.kind == .function&&env.kindOf n==some .cell)=true then (n,NameKind.cell) else (n,k))::_)=_
  rw[lookup_cons] at h
  by_cases hx:x=n
  ·subst hx
   simp only[beq_self_eq_true] at h
   have hk:k=.free:=Option.some.inj h
   subst hk
   split <;> simp[lookup_cons]
  ·have hb:(x==n)=false:=by simpa using hx
   rw[hb] at h
   split
   ·rw[lookup_cons,hb];exact vX h
   ·rw[lookup_cons,hb];exact vX h
section
variable{X:Cx}{scope:Scope}{N':List Str}
theorem Zc(S:xF X scope)(ok:X.Ok){x:Str}{c:Addr}(h:(xV scope X.env).lookup x=some c):X.env.cells.lookup x=some c:=by
 rcases Zl h with q|⟨y,hy,e1,e2,e3⟩
 ·simp at q
 ·subst e1
  obtain⟨c',hc'⟩:=ok.has y.1 (S.free y hy e2)
  rw[hc'] at e3 ⊢
  rw[e3];rfl
theorem GH{pins:List (Addr×Obj)}{σ σ':St}{H:Hp}{s:Shared}{h1:Heap}{fp:List Addr}{t:Nat}(S:xF X scope)(I:Inv X pins σ H s)(hfp:∀b∈fp,YE X pins H b)(hlt:∀b∈fp,b<s.heap.objs.size)
  (hn:h1.Ns s.heap.objs.size fun _=>none) (hsb:∀b o,s.heap.get? b=some o→h1.get? b=some o) (hl:σ'.length=N'.length)
  (hσ:∀(i:Nat) (v:V),σ'[i]?=some (some v)→∃(x:Str) (j:Nat),N'[i]?=some x∧X.N[j]?=some x∧σ[j]?=some (some v)∧scope.names.lookup x=some .free) :
  Inv (X.comp scope N' s H s.heap.objs.size fp) [] σ' H { s with heap:=h1,toks:=t }:=by
 have hH:H s.heap.objs.size=none:=I.hok.fresh (le_refl _)
 have cl:∀{x c},(xV scope X.env).lookup x=some c→X.env.cells.lookup x=some c:=fun h=>Zc S I.ok h
 have kept:∀{c v},s.heap.IsCell c v→h1.IsCell c v:=fun ⟨o,e,d⟩=>⟨o,hsb _ o e,d⟩
 refine⟨⟨I.ok.mod,S.kind,I.ok.glob,I.ok.blt,le_refl _,fun x y c e1 e2=>I.ok.inj x y c (cl e1) (cl e2),fun x hx=>?_,fun x c hf _=>absurd hf (by simp[Cx.comp]),I.ok.hd,I.ok.frames,.inl rfl,fun b hb=>?_,I.bs,le_trans I.ok.bsz I.sz,fun b o e hb=>?_,fun b hb hs=>?_,I.stack,I.stkFree⟩,
  I.os.symm ▸ rfl,I.bare,Un.kept hsb,⟨_,hn,fun i x v e1 e2 e3=>?_⟩,fun x c e=>?_,hH,fun x c e=>I.freeC x c (cl e),fun p hp=>absurd (show p∈([]:List (Addr×Obj)) from hp) (by simp),I.hok.kept hsb,hl⟩
 ·have hx:(relabel scope X.env).names.lookup x=some .cell∨(relabel scope X.env).names.lookup x=some .free:=hx
  exact uI (.inl (wW hx S.nocell))
 ·have hb:b∈fp:=hb
  refine⟨ne_of_lt (hlt b hb),fun x c e=>(hfp b hb).2.2.2.2.1 x c (cl e)⟩
 ·have hb:b∈fp:=hb
  rcases (hfp b hb).2.2.2.1 with z|z
  ·exact I.ok.noex b o e z
  ·exact absurd (lt_of_lt_of_le (Heap.lt_size e) (le_trans I.ok.bsz z)) (lt_irrefl _)
 ·have hb:b∈fp:=hb
  obtain⟨_,f1,f2,_⟩:=hfp b hb
  rcases mem_cons.mp (I.stkSub b hs) with z|z
  ·exact f1 z
  ·exact f2 z
 ·obtain⟨x',j,e4,e5,e6,e9⟩:=hσ i v e2
  have hy:=PySem.mem_of_lookup e9
  have e1':N'[i]?=some x:=e1
  rw[e1'] at e4;cases e4
  have kd:=S.free _ hy rfl
  obtain⟨m,hm,hl⟩:=I.loc
  obtain⟨u,ru,lk⟩:=hl j x v e5 e6 (kd.elim (fun z=>.inr (.inl z)) fun z=>.inr (.inr z))
  refine⟨u,ru,?_⟩
  rcases lk with ⟨z,_⟩|⟨z,c,hc,hcell⟩
  ·rcases kd with k|k <;> rw[k] at z <;> cases z
  ·obtain⟨c',hc'⟩:=uI (env:=X.env) (names:=scope.names) (cs:=[]) (x:=x) (.inl ⟨_,hy,rfl,rfl⟩)
   have:=cl hc'
   rw[hc] at this;cases this
   have e3':(relabel scope X.env).names.lookup x=some .local∨(relabel scope X.env).names.lookup x=some .cell∨(relabel scope X.env).names.lookup x=some .free:=e3
   rcases e3' with q|q|q
   ·exact absurd q (vX e9)
   ·exact .inr ⟨.inl q,c,hc',kept hcell⟩
   ·exact .inr ⟨.inr q,c,hc',kept hcell⟩
 ·obtain⟨v,z⟩:=I.cell x c (cl e)
  exact⟨v,kept z⟩
end
theorem JI{prog:Program}{w:World}{A:Around}{R:Result→Shared→Prop}{s:Shared}{elt target iter:Expr}{ifs:List Expr}{scope:Scope}{pos:Pos}{it acc:Value}{env:Env}(I:Nat→Shared→Prop)
  (turn:∀n s,I n s→wpAny (model prog w) A (pyNext it) (fun r s₁=>match r with
   |none=>R (.ok .next) s₁
   |some v=>wpAny (model prog w) A (letOwnedTupleGo target it v) (fun _ s0=>wpAny (model prog w) A (assign target env v) (fun _ s₂=>
     wpAny (model prog w) A (forIn ifs true fun c r=>if r=true then do let ok ← isTrue c env (eval c env);pure (ForInStep.yield ok) else pure (ForInStep.yield r)) (fun ok s₃=>
      if ok=true then wpAny (model prog w) A (eval elt env) (fun x s₄=>
       wpAny (model prog w) A (call (.builtin "list.append") [acc,x]) (fun _ s₅=>∃m,m<n∧I m s₅) (fun _ _=>False) s₄) (fun _ _=>False) s₃
      else ∃m,m<n∧I m s₃) (fun _ _=>False) s₂) (fun _ _=>False) s0) (fun _ _=>False) s₁) (fun _ _=>False) s)
  (n:Nat) (h:I n s) :
  codeAny (model prog w) A (.compLoop (.ListComp elt [⟨target,iter,ifs,0⟩] scope pos) 0 it acc env) R s:=by
 refine codeAny_loop rfl I (fun n s hI=>?_) n h
 show wpAny _ A ((compTurn (.ListComp elt [⟨target,iter,ifs,0⟩] scope pos) 0 it acc env).onRaise (fun x=>do noteFrame x env;theTreesLotGoes x)) _ _ s
 refine wpAny_noted ?_
 rw[compTurn_list]
 refine wpAny_bind (wpAny_standAt (wpAny_bind (wpAny_mono (turn n s hI) (fun r s₁ h₁=>?_) fun _ _ h'=>h'.elim)))
 cases r with
 |none=>exact wpAny_pure h₁
 |some v=>
  refine wpAny_bind (wpAny_mono h₁ (fun _ s0 h0=>?_) fun _ _ h'=>h'.elim)
  refine wpAny_bind (wpAny_mono h0 (fun _ s₂ h₂=>wpAny_bind (wpAny_mono h₂ (fun ok s₃ h₃=>?_) fun _ _ h'=>h'.elim)) fun _ _ h'=>h'.elim)
  cases ok with
  |false=>exact wpAny_pure ⟨rfl,h₃⟩
  |true=>
   exact wpAny_bind (wpAny_bind (wpAny_mono h₃ (fun x s₄ h₄=>wpAny_bind (wpAny_mono h₄ (fun _ s₅ h₅=>wpAny_pure (wpAny_pure ⟨rfl,h₅⟩)) fun _ _ h'=>h'.elim)) fun _ _ h'=>h'.elim))
theorem QU{M:Model}{A:Around}{env:Env}{Q:Bool→Shared→Prop}{E:Value→Shared→Prop}{s:Shared}(h:Q true s) :
  wpAny M A (forIn ([]:List Expr) true fun c r=>if r=true then do let ok ← isTrue c env (eval c env);pure (ForInStep.yield ok) else pure (ForInStep.yield r)) Q E s:=wpAny_pure h
theorem QN{M:Model}{A:Around}{env:Env}{Q:Bool→Shared→Prop}{E:Value→Shared→Prop}{s:Shared}{c:Expr}(h:wpAny M A (isTrue c env (eval c env)) Q E s) :
  wpAny M A (forIn [c] true fun c r=>if r=true then do let ok ← isTrue c env (eval c env);pure (ForInStep.yield ok) else pure (ForInStep.yield r)) Q E s:=by
 rw[forIn_cons]
 simp only[if_true]
 refine wpAny_bind (wpAny_bind (wpAny_mono h (fun b s' q=>wpAny_pure ?_) fun _ _ e=>e))
 exact wpAny_pure q
def PTs(Y:Cx)(ifs:List Expr)(t:TT):Prop:=∀(pins:List (Addr×Obj)) (s:Shared) (σ:St) (H:Hp) (Q:Bool→Hp→Prop),Inv Y pins σ H s→t σ H Q →
 wpAny (model Y.prog Y.w) Y.A (forIn ifs true fun c r=>if r=true then do let ok ← isTrue c Y.env (eval c Y.env);pure (ForInStep.yield ok) else pure (ForInStep.yield r)) (TP Y pins σ Q) Y.xe s
theorem Mo{Y:Cx}:PTs Y [] (fun _ H Q=>Q true H):=fun pins s σ H Q I h=>QU ⟨H,I,h⟩
theorem Mn{Y:Cx}{c:Expr}{t:TT}(h:PT Y c t):PTs Y [c] t:=fun pins s σ H Q I q=>QN (h pins s σ H Q I q)
def J6(s0:St→St)(wi:TI)(g:TG)(ti:TT)(te:TE):TE:=fun σ H Q=>wi σ H fun J H1=>∀acc,H1 acc=none→∃W:Nat→Nat→St→Hp→Prop,(∃m,W 0 m (s0 σ) (upd H1 acc (.lst [])))∧∀i m σ1 H,W i m σ1 H →
 (J.stop i H∧Q (.ref acc) H)∨(J.go i H∧∀x H',J.yld i H x H'→g x σ1 H' fun σ2 H2=>ti σ2 H2 fun b H3=>
  if b=true then te σ2 H3 fun y H4=>∃ys,H4 acc=some (.lst ys)∧ys.length<sizeLine∧∃m',m'<m∧W (i+1) m' σ2 (upd H4 acc (.lst (ys++[y]))) else ∃m',m'<m∧W (i+1) m' σ2 H3)
section
variable{X:Cx}{scope:Scope}{N':List Str}{tg iter elt:Expr}{ifs:List Expr}{pos:Pos}{wi:TI}{g:TG}{ti:TT}{te:TE}{s0:St→St}
theorem Td{P:Program}{w:World}{H:Hp}{h h':Heap}{C:Addr}(ok:HOk P w H h)(hC:H C=none)(k:∀b o,b≠C→h.get? b=some o→h'.get? b=some o):HOk P w H h':=fun b u e=>by
 refine(ok b u e).stay (fun c v hc q=>k c v ?_ q) (fun _ q=>q) fun _ _ q=>q
 rintro rfl
 rcases hc with z|z
 ·subst z;rw[hC] at e;cases e
 ·rw[hC] at z;cases z
theorem Yu{pins:List (Addr×Obj)}{σ:St}{H:Hp}{s:Shared}{QQ:V→Hp→Prop}{J:It}{fp:List Addr}{it acc:Addr}{tn:Nat→Heap→Prop}{RR:Addr→Result→Shared→Prop}{E:Value→Shared→Prop}{W:Nat→Nat→St→Hp→Prop}{m0:Nat}
  (S:xF X scope) (hc:X.calm=true) (hl:(s0 σ).length=N'.length)
  (hσ:∀(i:Nat) (v:V),(s0 σ)[i]?=some (some v)→∃(x:Str) (j:Nat),N'[i]?=some x∧X.N[j]?=some x∧σ[j]?=some (some v)∧scope.names.lookup x=some .free)
  (hg:∀s H C fp,PG (X.comp scope N' s H C fp) tg g) (ht:∀s H C fp,PTs (X.comp scope N' s H C fp) ifs ti) (he:∀s H C fp,PE (X.comp scope N' s H C fp) elt te)
  (I:Inv X pins σ H s) (T:YY X.prog X.w X.K tg J fp it tn) (st:tn 0 s.heap) (hfp:∀b∈fp,YE X pins H b) (hlt:∀b∈fp,b<s.heap.objs.size) (hacc:acc<s.heap.objs.size)
  (w0:W 0 m0 (s0 σ) H) (turn:∀i m σ1 H,W i m σ1 H→(J.stop i H∧QQ (.ref acc) H)∨(J.go i H∧∀x H',J.yld i H x H'→g x σ1 H' fun σ2 H2=>ti σ2 H2 fun b H3=>
    if b=true then te σ2 H3 fun y H4=>∃ys,H4 acc=some (.lst ys)∧ys.length<sizeLine∧∃m',m'<m∧W (i+1) m' σ2 (upd H4 acc (.lst (ys++[y]))) else ∃m',m'<m∧W (i+1) m' σ2 H3))
  (hRR:∀s',(∃m,s'.heap.Ns s.heap.objs.size m)→(∀h',Heap.SameBut s.heap.objs.size s'.heap h'→EP X pins σ (fun v H'=>QQ v H'∧H' s.heap.objs.size=none) (.ref acc) { s' with heap:=h' })→RR s.heap.objs.size (.ok .next) s') :
  wpAny (model X.prog X.w) X.A (newFunctionEnv scope X.env.globals (xV scope X.env) [] X.env.qual none .none (some X.env)) (fun cenv s₄=>
   codeAny (model X.prog X.w) X.A (.compStart (.ListComp elt [⟨tg,iter,ifs,0⟩] scope pos) 0 (.ref it) (.ref acc) { cenv with scope:=relabel scope X.env }) (RR cenv.locals) s₄) E s:=by
 refine wpAny_newFunctionEnv S.nocell (by intro y hy;simp at hy) (fun h1 hns hsb=>?_) S.kind
 have keep3:∀b o,s.heap.get? b=some o→h1.get? b=some o:=fun b o e=>hsb.extBut b o (ne_of_lt (Heap.lt_size e)) (Heap.get?_push_of_some _ e)
 have Y0:Inv (X.comp scope N' s H s.heap.objs.size fp) [] (s0 σ) H { s with heap:=h1,toks:=s.toks+([]:List (Str×Value)).length }:=GH S I hfp hlt hns keep3 hl hσ
 have fpY:∀{H':Hp},(∀b∈fp,H' b=none)→∀b∈fp,YE (X.comp scope N' s H s.heap.objs.size fp) [] H' b:=fun {H'} hn b hb=>by
  obtain⟨f0,f1,f2,f3,f4,f5⟩:=hfp b hb
  refine⟨hn b hb,ne_of_lt (hlt b hb),fun z=>?_,.inl hb,fun x c e=>f4 x c (Zc S I.ok e),fun p hp=>absurd (show p∈([]:List (Addr×Obj)) from hp) (by simp)⟩
  rcases mem_cons.mp (I.stkSub b z) with q|q
  ·exact f1 q
  ·exact f2 q
 have st1:tn 0 h1:=T.keep _ _ _ st fun b hb o e=>keep3 b o e
 have loop:∀s3:Shared,s3 = { s with heap:=h1,toks:=s.toks+([]:List (Str×Value)).length } →
   codeAny (model X.prog X.w) X.A (.compLoop (.ListComp elt [⟨tg,iter,ifs,0⟩] scope pos) 0 (.ref it) (.ref acc) (X.comp scope N' s H s.heap.objs.size fp).env) (RR s.heap.objs.size) s3:=by
  rintro s3 rfl
  refine JI (fun n s'=>∃i σ' H',Inv (X.comp scope N' s H s.heap.objs.size fp) [] σ' H' s'∧tn i s'.heap∧(∀b∈fp,H' b=none)∧W i n σ' H') ?_ m0 ⟨0,s0 σ,H,Y0,st1,fun b hb=>(hfp b hb).1,w0⟩
  rintro n s4 ⟨i,σ4,H4,I4,st4,fr4,w4⟩
  rcases turn i n σ4 H4 w4 with ⟨stop,qn⟩|⟨go,step⟩
  ·refine thn (T.done (X.comp scope N' s H s.heap.objs.size fp) rfl rfl rfl hc i [] s4 σ4 H4 _ I4 (fpY fr4) st4 stop) fun r s5 ⟨hr,I5⟩=>?_
   subst hr
   obtain⟨m5,n5,_⟩:=id I5.loc
   have hC:H4 s.heap.objs.size=none:=I5.free
   refine hRR s5 ⟨m5,n5⟩ fun h' sb=>⟨.ref acc,H4,?_,rfl,qn,hC⟩
   refine I.call' (s':={ s5 with heap:=h' }) (ch:=fp) I5.os ⟨fun b o e n hb hx=>?_,fun b o e n hb hx=>?_,fun b o e n hx=>I5.base.free b o e n hx,fun b o e hx=>?_,I5.base.tups,I5.base.frzs,I5.base.tbls⟩ (Td I5.hok hC fun b o hb e=>(sb.2 b hb).trans e) I5.bare fun b hb=>?_
   ·exact(sb.2 b (ne_of_lt (Heap.lt_size e))).trans (I5.base.keep b o e n hb hx)
   ·obtain⟨sl,q⟩:=I5.base.slot b o e n hb hx
    exact⟨sl,(sb.2 b (ne_of_lt (Heap.lt_size e))).trans q⟩
   ·obtain⟨o',q⟩:=I5.base.there b o e hx
    exact⟨o',(sb.2 b (ne_of_lt (Heap.lt_size e))).trans q⟩
   ·obtain⟨f0,f1,f2,f3,f4,f5⟩:=hfp b hb
    exact⟨f3,f1,f4,f5⟩
  ·refine thn (T.item (X.comp scope N' s H s.heap.objs.size fp) rfl rfl rfl hc i [] s4 σ4 H4 _ I4 (fpY fr4) st4 go) fun r s5 ⟨u,hr,h5⟩=>?_
   subst hr
   refine thn h5 fun _ s6 ⟨x,H6,I6,r6,y6,st6,fr6⟩=>?_
   have I6':=I6.pinned (fpY fr6) (T.obj _ _ st6)
   refine thn (hg _ _ _ _ _ s6 σ4 H6 x u _ I6' r6 (step x H6 y6)) fun _ s7 ⟨σ7,H7,I7,q7⟩=>?_
   refine thn (ht _ _ _ _ _ s7 σ7 H7 _ I7 q7) fun ok s8 ⟨H8,I8,q8⟩=>?_
   have again:∀{s9:Shared} {H9:Hp} {m':Nat},Inv (X.comp scope N' s H s.heap.objs.size fp) ([]++ZY fp s6.heap) σ7 H9 s9→m'<n→W (i+1) m' σ7 H9→∃m,m<n∧∃i σ' H',Inv (X.comp scope N' s H s.heap.objs.size fp) [] σ' H' s9∧tn i s9.heap∧(∀b∈fp,H' b=none)∧W i m σ' H':=fun {s9 H9 m'} I9 hm w9=>by
    refine⟨m',hm,i+1,σ7,H9,I9.unpinned,T.keep _ _ _ st6 fun b hb o e=>(I9.pin (b,o) (mem_append_right _ (mem_append_right _ (v8 hb e)))).1,fun b hb=>?_,w9⟩
    obtain⟨o,e,d⟩:=T.obj _ _ st6 b hb
    exact(I9.pin (b,o) (mem_append_right _ (mem_append_right _ (v8 hb e)))).2.1
   cases ok with
   |false=>
    rw[if_neg (by simp)] at q8
    obtain⟨m',hm,w8⟩:=q8
    exact again I8 hm w8
   |true=>
    rw[if_pos rfl] at q8
    refine thn (he _ _ _ _ _ s8 σ7 H8 _ I8 q8) fun y s9 ⟨z,H9,I9,r9,ys,e9,l9,m',hm,w9⟩=>?_
    refine thn (Xf _ s9 σ7 H9 (.ref acc) [z] (.ref acc) [y] (fun _ H'=>H'=upd H9 acc (.lst (ys++[z]))) I9 rfl (.cons r9 .nil) ⟨acc,ys,z,rfl,rfl,e9,l9,rfl⟩) fun _ s10 ⟨_,H10,I10,_,e10⟩=>?_
    subst e10
    exact again I10 hm w9
 exact codeAny_compStart_list (loop _ rfl) (T.self _ 0 _ _ _ st1 (loop _ rfl))
end
section
variable{X:Cx}{scope:Scope}{N':List Str}{tg iter elt:Expr}{ifs:List Expr}{pos:Pos}{wi:TI}{g:TG}{ti:TT}{te:TE}{s0:St→St}
theorem T8{pins:List (Addr×Obj)}{σ:St}{H:Hp}{s:Shared}{J:It}{fp:List Addr}{it:Addr}{tn:Nat→Heap→Prop}(T:YY X.prog X.w X.K tg J fp it tn)(st:tn 0 s.heap):∀b∈fp,b<s.heap.objs.size:=fun b hb=>by
 obtain⟨o,e,_⟩:=T.obj 0 _ st b hb
 exact Heap.lt_size e
theorem MB(S:xF X scope)(hc:X.calm=true)(hl:∀σ:St,σ.length=X.N.length→(s0 σ).length=N'.length)
  (hσ:∀(σ:St) (i:Nat) (v:V),(s0 σ)[i]?=some (some v)→∃(x:Str) (j:Nat),N'[i]?=some x∧X.N[j]?=some x∧σ[j]?=some (some v)∧scope.names.lookup x=some .free)
  (hi:PI X tg iter wi) (hg:∀s H C fp,PG (X.comp scope N' s H C fp) tg g) (ht:∀s H C fp,PTs (X.comp scope N' s H C fp) ifs ti) (he:∀s H C fp,PE (X.comp scope N' s H C fp) elt te)
  (hs:∀x,foldedSetIterable iter X.env x=pure x:=by intro _;rfl):PE X (.ListComp elt [⟨tg,iter,ifs,0⟩] scope pos) (J6 s0 wi g ti te):=by
 intro pins s σ H Q I h
 rw[eval_ListComp]
 have hclos:=vK (scope:=scope) (env:=X.env) fun y hy hk=>Option.isSome_iff_exists.mpr (I.ok.has y.1 (S.free y hy hk))
 refine wpAny_comprehension_free (use:=none) rfl hs hclos S.kind S.locs (thn (hi pins s σ H _ I h) fun x s1 h1=>thn h1 fun itv s2 h2=>?_)
 obtain⟨it,fp,tn,J,H2,e,I2,T,st2,f2,hw⟩:=h2
 subst e
 have hf:H2 s2.heap.objs.size=none:=I2.hok.fresh (le_refl _)
 obtain⟨W,⟨m0,w0⟩,turn⟩:=hw _ hf
 have hlt:=T8 (pins:=pins) (σ:=σ) (H:=H2) T st2
 refine wpAny_newObj_type ?_
 have I3:Inv X pins σ (upd H2 s2.heap.objs.size (.lst [])) { s2 with heap:=s2.heap.push { cls:=.type "list", dict:=none,data:=.seq ([]:List Value).toArray } }:=
  I2.laid (t':=s2.toks) (o:=.lst []) (fun b u e=>Heap.get?_push_of_some _ e) (le_refl _) ⟨zero_le _,[],0,.nil,Heap.get?_push_size _ rfl⟩
 have hsz:s2.heap.objs.size<(s2.heap.push { cls:=.type "list", dict:=none,data:=.seq ([]:List Value).toArray }).objs.size:=by rw[Heap.size_push];exact Nat.lt_succ_self _
 refine Yu (s0:=s0) (QQ:=Q) (W:=W) (m0:=m0) S hc (hl σ I2.len) (hσ σ) hg ht he I3 T (T.keep _ _ _ st2 fun b hb o e=>Heap.get?_push_of_some _ e) (fun b hb=>?_) (fun b hb=>Nat.lt_trans (hlt b hb) hsz) hsz w0 turn fun s' ⟨m,hn⟩ hq=>⟨m,hn,fun h' sb=>let ⟨v,H',I',r',q',_⟩:=hq h' sb;⟨v,H',I',r',q'⟩⟩
 obtain⟨f0,f1,f2,f3⟩:=f2 b hb
 exact⟨by rw[zB (ne_of_lt (hlt b hb))];exact f0,f1,f2,f3⟩
theorem Ug{i:Nat}{y:Str}{py spos:Pos}(hN:X.N.Nodup)(hiN:X.N[i]?=some y)(hy:X.env.scope.names.lookup y=some .local)
  (hsw:swapsWith (.ListComp elt [⟨tg,iter,ifs,0⟩] scope pos) (some (.Name y py)) spos.line X.env=pure true)
  (S:xF X scope) (hc:X.calm=true) (hl:∀σ:St,σ.length=X.N.length→(s0 σ).length=N'.length)
  (hσ:∀(σ:St) (i:Nat) (v:V),(s0 σ)[i]?=some (some v)→∃(x:Str) (j:Nat),N'[i]?=some x∧X.N[j]?=some x∧σ[j]?=some (some v)∧scope.names.lookup x=some .free)
  (hi:PI X tg iter wi) (hg:∀s H C fp,PG (X.comp scope N' s H C fp) tg g) (ht:∀s H C fp,PTs (X.comp scope N' s H C fp) ifs ti) (he:∀s H C fp,PE (X.comp scope N' s H C fp) elt te)
  (hs:∀x,foldedSetIterable iter X.env x=pure x:=by intro _;rfl):PS X (.Assign [.Name y py] (.ListComp elt [⟨tg,iter,ifs,0⟩] scope pos) spos) (Lk (J6 s0 wi g ti te) (Xu i)):=by
 intro pins s σ H D I h
 rw[exec_Assign_Name_used _ _ _ _ hsw]
 refine wpAny_bind (wpAny_standAt (wpAny_bind ?_))
 show wpAny _ X.A (do let _ ← comprehension (.ListComp elt [⟨tg,iter,ifs,0⟩] scope pos) scope X.env _ (newList []) false (eval iter X.env) (some (assign (.Name y py) X.env))) _ _ s
 have hclos:=vK (scope:=scope) (env:=X.env) fun y hy hk=>Option.isSome_iff_exists.mpr (I.ok.has y.1 (S.free y hy hk))
 refine wpAny_bind (wpAny_mono (wpAny_comprehension_free (use:=some (assign (.Name y py) X.env)) (Q:=fun _ s'=>SP X pins D .next s') rfl hs hclos S.kind S.locs
  (thn (hi pins s σ H _ I h) fun x s1 h1=>thn h1 fun itv s2 h2=>?_)) (fun _ s' hq=>wpAny_pure (wpAny_pure hq)) fun _ _ e=>e)
 obtain⟨it,fp,tn,J,H2,e,I2,T,st2,f2,hw⟩:=h2
 subst e
 have hf:H2 s2.heap.objs.size=none:=I2.hok.fresh (le_refl _)
 obtain⟨W,⟨m0,w0⟩,turn⟩:=hw _ hf
 have hlt:=T8 (pins:=pins) (σ:=σ) (H:=H2) T st2
 refine wpAny_newObj_type ?_
 have I3:Inv X pins σ (upd H2 s2.heap.objs.size (.lst [])) { s2 with heap:=s2.heap.push { cls:=.type "list", dict:=none,data:=.seq ([]:List Value).toArray } }:=
  I2.laid (t':=s2.toks) (o:=.lst []) (fun b u e=>Heap.get?_push_of_some _ e) (le_refl _) ⟨zero_le _,[],0,.nil,Heap.get?_push_size _ rfl⟩
 have hsz:s2.heap.objs.size<(s2.heap.push { cls:=.type "list", dict:=none,data:=.seq ([]:List Value).toArray }).objs.size:=by rw[Heap.size_push];exact Nat.lt_succ_self _
 refine Yu (s0:=s0) (QQ:=fun x H1=>Xu i x σ H1 D.nx) (W:=W) (m0:=m0) S hc (hl σ I2.len) (hσ σ) hg ht he I3 T (T.keep _ _ _ st2 fun b hb o e=>Heap.get?_push_of_some _ e) (fun b hb=>?_) (fun b hb=>Nat.lt_trans (hlt b hb) hsz) hsz w0 turn fun s' ⟨m,hn⟩ hq=>?_
 ·obtain⟨f0,f1,f2,f3⟩:=f2 b hb
  exact⟨by rw[zB (ne_of_lt (hlt b hb))];exact f0,f1,f2,f3⟩
 ·obtain⟨v,H5,I5,r5,q5,hC⟩:=hq s'.heap (.refl ..)
  have I5:Inv X pins σ H5 s':=I5
  show wpAny _ X.A (assign (.Name y py) X.env _) _ _ s'
  refine wpAny_assign_Name (Y5 I5 hN hiN (.inl hy) r5 (fun s6 I6 ⟨a,sb,ha⟩=>?_) (.inr hy))
  have lt3:=I3.lt
  have ca:∀x c,X.env.cells.lookup x=some c→c<(s2.heap.push { cls:=.type "list", dict:=none,data:=.seq ([]:List Value).toArray }).objs.size:=fun x c e=>by
   obtain⟨v,z⟩:=I3.cell x c e
   exact z.lt
  have hne:(s2.heap.push { cls:=.type "list", dict:=none,data:=.seq ([]:List Value).toArray }).objs.size≠a:=by
   rcases ha with rfl|ha
   ·exact ne_of_gt lt3
   ·exact ne_of_gt (ca _ _ ha)
  refine⟨m,hn.sameBut sb hne,fun h' sb'=>⟨_,H5,?_,q5⟩⟩
  refine I6.turned (t':=s6.toks) (it:=(s2.heap.push { cls:=.type "list", dict:=none,data:=.seq ([]:List Value).toArray }).objs.size) (fun b o hb e=>(sb'.2 b hb).trans e) hC (ne_of_gt lt3) (.inr I3.sz) (fun x c e=>ne_of_lt (ca x c e)) fun p hp=>?_
  exact ne_of_lt (Heap.lt_size (I3.pin p hp).1)
end
def wN(set:FG)(ft:FT)(fe:FE)(τ:DS):List D→Rs (List D)
 |[]=>.ok []
 |d::r=>match set d τ with
  |.ok τ1=>match ft τ1 with
   |.ok true=>match fe τ1 with
    |.ok x=>(wN set ft fe τ r).bind fun xs=>.ok (x::xs)
    |_=>.no
   |.ok false=>wN set ft fe τ r
   |_=>.no
  |_=>.no
def jx:Option (Option Sl)→Option Sl
 | some (some (.val d))=>some (.val d)
 | some (some (.obr c fs))=>some (.obr c fs)
 | some (some (.obj _ c fs))=>some (.obr c fs)
 |_=>none
def vd(k:Nat)(idx:List Nat)(τ:DS):DS:=List.replicate k none++idx.map fun j=>jx τ[j]?
def vT(k:Nat)(idx:List Nat)(σ:St):St:=List.replicate k none++idx.map fun j=>(σ[j]?).join
def we(k:Nat)(idx:List Nat)(fi:FA)(set:FG)(ft:FT)(fe:FE):FA:=fun τ=>(fi τ).bind fun ds=>match wN set ft fe (vd k idx τ) ds with
 |.ok xs=>if xs.length≤sizeLine then .ok xs else .no
 |_=>.no
def u0(τ:DS):Prop:=(∀(i:Nat) es,τ[i]?≠some (some (.own es)))∧∀(i n:Nat) c fs,τ[i]?≠some (some (.obj n c fs))
structure XC(set:FG):Prop where
 ov:∀d e τ τ1,set e τ=.ok τ1→set d τ1=set d τ
 no:∀d τ τ1,set d τ=.ok τ1→u0 τ→u0 τ1
theorem j4{τ:DS}{i:Nat}{d:D}(h:u0 τ):u0 (τ.set i (some (.val d))):=⟨fun j es e=>by
 by_cases hij:i=j
 ·subst hij
  rw[getElem?_set] at e
  simp only[if_true] at e
  split at e <;> cases e
 ·rw[getElem?_set_ne hij] at e;exact h.1 j es e,fun j n c fs e=>h.2 j n c fs (yT (s:=some (.val d)) rfl rfl e).2⟩
theorem vM(i:Nat):XC (gNm i):=⟨fun d e τ τ1 h=>by
 unfold gNm at h ⊢;cases h;rw[set_set],fun d τ τ1 h n=>by unfold gNm at h;cases h;exact j4 n⟩
theorem Wr(i j:Nat):XC (gPr i j):=⟨fun d e τ τ1 h=>by
 unfold gPr at h ⊢
 cases q:Zf e with
 |none=>rw[q] at h;cases h
 |some xy=>
  obtain⟨x,y⟩:=xy
  rw[q] at h;cases h
  cases q2:Zf d with
  |none=>rfl
  |some zw=>
   obtain⟨z,w⟩:=zw
   by_cases hij:i=j
   ·subst hij;simp[set_set]
   ·have e1:((τ.set i (some (.val x))).set j (some (.val y))).set i (some (.val z))=(τ.set i (some (.val z))).set j (some (.val y)):=by
     rw[List.set_comm _ _ (Ne.symm hij),set_set]
    simp only
    rw[e1,set_set]
    , fun d τ τ1 h n=>by
 unfold gPr at h
 cases q:Zf d with
 |none=>rw[q] at h;cases h
 |some xy=>
  obtain⟨x,y⟩:=xy
  rw[q] at h;cases h
  exact j4 (j4 n)⟩
theorem v6(k:Nat)(idx:List Nat)(τ:DS):∀(i:Nat) es,(vd k idx τ)[i]?≠some (some (.own es)):=fun i es e=>by
 unfold vd at e
 by_cases hi:i<k
 ·rw[getElem?_append_left (by simpa using hi),getElem?_replicate] at e
  simp[hi] at e
 ·rw[getElem?_append_right (by simpa using hi),getElem?_map] at e
  cases q:idx[i-(List.replicate k (none:Option Sl)).length]? with
  |none=>rw[q] at e;cases e
  |some j=>
   rw[q] at e
   simp only[Option.map_some,Option.some.injEq] at e
   unfold jx at e
   split at e <;> cases e
theorem jn(k:Nat)(idx:List Nat)(τ:DS):∀(i n:Nat) c fs,(vd k idx τ)[i]?≠some (some (.obj n c fs)):=fun i n c fs e=>by
 unfold vd at e
 by_cases hi:i<k
 ·rw[getElem?_append_left (by simpa using hi),getElem?_replicate] at e
  simp[hi] at e
 ·rw[getElem?_append_right (by simpa using hi),getElem?_map] at e
  cases q:idx[i-(List.replicate k (none:Option Sl)).length]? with
  |none=>rw[q] at e;cases e
  |some j=>
   rw[q] at e
   simp only[Option.map_some,Option.some.injEq] at e
   unfold jx at e
   split at e <;> cases e
theorem v7(k:Nat)(idx:List Nat)(τ:DS):u0 (vd k idx τ):=⟨v6 k idx τ,jn k idx τ⟩
theorem QR{k:Nat}{idx:List Nat}{τ:DS}{i:Nat}{c:Str}{fs:List (Str×D)}(e:(vd k idx τ)[i]?=some (some (.obr c fs))):∃j,k≤i∧idx[i-k]?=some j∧((∃n,τ[j]?=some (some (.obj n c fs)))∨τ[j]?=some (some (.obr c fs))):=by
 unfold vd at e
 by_cases hi:i<k
 ·rw[getElem?_append_left (by simpa using hi),getElem?_replicate] at e
  simp[hi] at e
 ·rw[getElem?_append_right (by simpa using hi),getElem?_map] at e
  simp only[List.length_replicate] at e
  cases q:idx[i-k]? with
  |none=>rw[q] at e;cases e
  |some j=>
   rw[q] at e
   simp only[Option.map_some,Option.some.injEq] at e
   unfold jx at e
   split at e <;> cases e
   ·exact⟨j,by omega,rfl,.inr (by assumption)⟩
   ·exact⟨j,by omega,rfl,.inl ⟨_,by assumption⟩⟩
theorem ObsOk.read{K:PySem.W.Frag}{F H:Hp}{τ:DS}{σ:St}(n:u0 τ)(h:∀(i:Nat) (c:Str) (fs:List (Str×D)),τ[i]?=some (some (.obr c fs))→∃a C dx vs,σ[i]?=some (some (.ref a))∧H a=some (.ins C dx vs)∧nsIn K mainGlobals c=some (some (.ref C))∧Flds K F H c fs vs):ObsOk K F τ σ H:=
 ⟨fun i m c fs h=>absurd h (n.2 i m c fs),fun i j m c c' fs a _ h=>absurd h (n.2 i m c fs),h,fun i j m c c' fs a a' l _ h=>absurd h (n.2 i m c fs),fun i j c ds a l _ h=>absurd h (n.1 j ds)⟩
theorem RV.free_upd{K:PySem.W.Frag}{F H:Hp}{τ:DS}{σ:St}{p:Addr}{o:HO}(R:RV K F τ σ H)(n:u0 τ)(hp:F p=none)(hl:H p=none∨∃vs,H p=some (.lst vs))(hq:∀(i:Nat) (c:Str) (a:Addr),ObS τ[i]? c→σ[i]?=some (some (.ref a))→p∉Lof H c a)(ho:∀a,o≠.own a:=by intro _ h;cases h):RV K F τ σ (upd H p o):=
 ⟨fun b u e=>by
  have:b≠p:=fun z=>by subst z;rw[hp] at e;cases e
  rw[zB this];exact R.fh b u e,R.len,R.val,fun i es e=>absurd e (n.1 i es),fun i j ds es a _ h=>absurd h (n.1 i ds),R.tt.step (fun _ _ e=>.inl e) (fun b o e n=>by
  have:b≠p:=fun z=>by
   subst z
   rcases hl with z|⟨vs,z⟩
   ·rw[z] at e;cases e
   ·rw[z] at e;cases e;exact n _ rfl
  rw[zB this];exact e) (j3 ho),R.ob.updL hl hq⟩
theorem RS.apart{K:PySem.W.Frag}{B Z F H:Hp}{τ:DS}{σ:St}{p:Addr}(R:RS K B Z F τ σ H)(n:u0 τ)(hp:B p=none):∀(i:Nat) (c:Str) (a:Addr),ObS τ[i]? c→σ[i]?=some (some (.ref a))→p∉Lof H c a:=fun i c a h e hm=>by
 rcases h with ⟨m,fs,h⟩|⟨fs,h⟩
 ·exact n.2 i m c fs h
 ·obtain⟨C,dx,vs,h1,h2⟩:=R.ro i c fs a h e
  rw[Lof.ins (R.bh _ _ h1)] at hm
  obtain⟨ws,h3⟩:=h2 p hm
  rw[hp] at h3;cases h3
theorem RS.free_upd{K:PySem.W.Frag}{B Z F H:Hp}{τ:DS}{σ:St}{p:Addr}{vs:List V}(R:RS K B Z F τ σ H)(n:u0 τ)(hb:B p=none)(hp:F p=none)(hl:H p=none∨∃vs,H p=some (.lst vs)):RS K B Z F τ σ (upd H p (.lst vs)):=
 ⟨R.rv.free_upd n hp hl (R.apart n hb),fun a o e=>by
  have:a≠p:=fun z=>by subst z;rw[hb] at e;cases e
  rw[zB this];exact R.bh a o e,R.zf,R.nb,fun i ds a h=>absurd h (n.1 i ds),fun i m c fs a h=>absurd h (n.2 i m c fs),fun a0 dx h1 h2 i m c fs h=>absurd h (n.2 i (m+1) c fs),R.ro⟩
theorem XQ{K:PySem.W.Frag}{F H:Hp}{τ:DS}{σ:St}(k:Nat)(idx:List Nat)(R:RV K F τ σ H):RV K F (vd k idx τ) (vT k idx σ) H:=by
 refine⟨R.fh,by simp[vd,vT],fun i d e=>?_,fun i es e=>absurd e (v6 k idx τ i es),fun i j ds es a _ h=>absurd h (v6 k idx τ i ds),R.tt,ObsOk.read (v7 k idx τ) fun i c fs e=>?_⟩
 rotate_left
 ·obtain⟨j,hk,hj,h⟩:=QR e
  have es:∀v,σ[j]?=some (some v)→(vT k idx σ)[i]?=some (some v):=fun v h=>by
   unfold vT
   rw[getElem?_append_right (by simpa using hk),getElem?_map]
   simp[hj,h]
  rcases h with ⟨n,h⟩|h
  ·obtain⟨a,h1,C,dx,vs,h2,_,h4,h5,_⟩:=R.ob.at_ j n c fs h
   exact⟨a,C,dx,vs,es _ h1,h2,h4,h5⟩
  ·obtain⟨a,C,dx,vs,h1,h2,h4,h5⟩:=R.ob.rd j c fs h
   exact⟨a,C,dx,vs,es _ h1,h2,h4,h5⟩
 unfold vd at e
 unfold vT
 by_cases hi:i<k
 ·rw[getElem?_append_left (by simpa using hi),getElem?_replicate] at e
  simp[hi] at e
 ·rw[getElem?_append_right (by simpa using hi),getElem?_map] at e
  rw[getElem?_append_right (by simpa using hi),getElem?_map]
  simp only[List.length_replicate] at e ⊢
  cases q:idx[i-k]? with
  |none=>rw[q] at e;cases e
  |some j=>
   rw[q] at e
   simp only[Option.map_some,Option.some.injEq] at e
   have:τ[j]?=some (some (.val d)):=by
    unfold jx at e
    split at e <;> cases e
    assumption
   obtain⟨v,h1,h2⟩:=R.val j d this
   exact⟨v,by simp[h1],h2⟩
theorem Mj{K:PySem.W.Frag}{F H:Hp}{τ:DS}{σ:St}(k:Nat)(idx:List Nat)(R:RV K F τ σ H):RS K H F F (vd k idx τ) (vT k idx σ) H:=
 ⟨XQ k idx R,Hh.refl H,Same.refl F,fun a o e=>.inl e,fun i ds a h=>absurd h (v6 k idx τ i ds),fun i m c fs a h=>absurd h (jn k idx τ i m c fs),fun a0 dx h1 h2 i m c fs h=>absurd h (jn k idx τ i (m+1) c fs),fun i c fs a h e=>by
  obtain⟨a',C,dx,vs,h1,h2,_,h5⟩:=(XQ k idx R).ob.rd i c fs h
  rw[e] at h1;cases h1
  exact⟨C,dx,vs,h2,fun l hl=>(h5.own hl).2⟩⟩
def wR(H:Hp)(p:Addr):Hp:=fun b=>if b=p then none else H b
theorem uD(H:Hp)(p:Addr):wR H p p=none:=by unfold wR;rw[if_pos rfl]
theorem j7{H:Hp}{p b:Addr}(h:b≠p):wR H p b=H b:=by unfold wR;rw[if_neg h]
theorem ZP(H:Hp)(p:Addr)(o:HO):upd (wR H p) p o=upd H p o:=by
 funext b;unfold upd wR;split <;> rfl
theorem Ys{F1 H1 F2 Hm F5 H5:Hp}{acc:Addr}{ls:List V}(a:Ext F1 H1 F2 Hm)(hm:Hm acc=none)(b:Ext F2 (upd Hm acc (.lst ls)) F5 H5):Ext F1 H1 F5 (wR H5 acc)∧F5 acc=none:=by
 have hf5:F5 acc=none:=by
  cases q:F5 acc with
  |none=>rfl
  |some o=>
   rcases b.nw acc o q with z|z
   ·rw[yi a.fh hm] at z;cases z
   ·rw[zG] at z;cases z
 have h1:H1 acc=none:=vm a.hh hm
 have ha:H5 acc=some (.lst ls):=b.hh acc _ zG
 refine⟨⟨a.ff.trans b.ff,fun c o e=>?_,fun c o e=>?_,fun c o e=>?_,fun t=>?_⟩,hf5⟩
 ·have n:c≠acc:=fun z=>by subst z;rw[h1] at e;cases e
  rw[j7 n]
  exact((a.hh.trans (.of (yD hm))).trans b.hh) c o e
 ·have n:c≠acc:=fun z=>by subst z;rw[hf5] at e;cases e
  rw[j7 n];exact b.fh c o e
 ·rcases b.nw c o e with z|z
  ·exact a.nw c o z
  ·have n:c≠acc:=fun z'=>by subst z';rw[zG] at z;cases z
   rw[zB n] at z
   exact .inr (vm a.hh z)
 ·have t2:=b.tt ((a.tt t).step (F':=F2) (H':=upd Hm acc (.lst ls)) (fun _ _ e=>.inl e) (fun c o e _=>by rw[zB (z9 e hm)];exact e) (j3 fun _ z=>nomatch z))
  exact t2.step (fun _ _ e=>.inl e) (fun c o e n=>by
   have:c≠acc:=fun z=>by subst z;rw[ha] at e;cases e;exact n _ rfl
   rw[j7 this];exact e) fun d a e=>by
   unfold wR at e
   split at e
   ·cases e
   ·exact e
def FreeOk(scope:Scope)(N:List Str):List Str→List Nat→Prop
 |[],[]=>True
 |x::xs,j::js=>N[j]?=some x∧scope.names.lookup x=some .free∧FreeOk scope N xs js
 |_,_=>False
theorem FreeOk.len{scope:Scope}{N:List Str}:∀{xs:List Str} {js:List Nat},FreeOk scope N xs js→xs.length=js.length
 |[],[],_=>rfl
 |_::xs,_::js,h=>by rw[length_cons,length_cons,FreeOk.len h.2.2]
theorem FreeOk.get{scope:Scope}{N:List Str}:∀{xs:List Str} {js:List Nat} {p j:Nat},FreeOk scope N xs js→js[p]?=some j→∃x,xs[p]?=some x∧N[j]?=some x∧scope.names.lookup x=some .free
 |[],[],_,_,_,e=>by simp at e
 |x::xs,i::js,0,j,h,e=>by simp at e;subst e;exact⟨x,rfl,h.1,h.2.1⟩
 |x::xs,i::js,p+1,j,h,e=>by
  obtain⟨y,h1,h2⟩:=FreeOk.get (p:=p) h.2.2 (by simpa using e)
  exact⟨y,by simpa using h1,h2⟩
def uT(osc scope:Scope):Bool:=(match scope.kind with | .function=>true|_=>false)&&scope.names.all (fun y=>match y.2 with
 |.cell=>false
 |.local=>(match scope.names.lookup y.1 with|some .local=>true|_=>false)
 |.free=>(match osc.names.lookup y.1 with|some .cell=>true|some .free=>true|_=>false)
 |_=>true)
theorem vc{X:Cx}{scope:Scope}(h:uT X.env.scope scope=true):xF X scope:=by
 unfold uT at h
 rw[Bool.and_eq_true,all_eq_true] at h
 obtain⟨h1,h2⟩:=h
 refine⟨?_,fun y hy z=>?_,fun y hy z=>?_,fun y hy z=>?_⟩
 ·split at h1
  ·assumption
  ·cases h1
 ·have:=h2 y hy;rw[z] at this;cases this
 ·have:=h2 y hy;rw[z] at this
  simp only at this
  split at this
  ·assumption
  ·cases this
 ·have:=h2 y hy;rw[z] at this
  simp only at this
  split at this
  ·left;assumption
  ·right;assumption
  ·cases this
def G0(Y:Cx)(ifs:List Expr)(f:FT):Prop:=PTs Y ifs (tTs Y f)
theorem uv{Y:Cx}:G0 Y [] (fun _=>.ok true):=fun pins s σ H Q I ⟨F,τ,R,h⟩=>Mo pins s σ H Q I (h F H (Ext.refl R.fh))
theorem ZZ{Y:Cx}{c:Expr}{f:FT}(h:PDT Y c f):G0 Y [c] f:=Mn h
section
variable{X:Cx}{scope:Scope}{tn fr:List Str}{idx:List Nat}{tg iter elt:Expr}{ifs:List Expr}{pos:Pos}{fi:FA}{set:FG}{ft:FT}{fe:FE}
theorem Zb(so:XC set){Y:Cx}(hK:Y.K=X.K)(σ:St)(H:Hp)(Q:VK)(h:tFr X (we tn.length idx fi set ft fe) σ H Q):J6 (vT tn.length idx) (tI X fi) (tG Y set) (tTs Y ft) (tE Y fe) σ H Q:=by
 obtain⟨F,τ,R,h⟩:=h
 refine⟨F,τ,R,h.bind.imp fun ds gds J F1 H1 x io=>fun acc hacc=>?_⟩
 cases q:wN set ft fe (vd tn.length idx τ) ds with
 |no=>rw[q] at gds;exact gds.elim
 |ex c=>rw[q] at gds;exact gds.elim
 |ok xs=>
  rw[q] at gds
  obtain⟨hz,k⟩:=y8 gds
  have R1:=R.ext x
  have hF1:F1 acc=none:=yi x.fh hacc
  refine⟨fun i m σ1 Hc=>m=ds.length-i∧i≤ds.length∧∃F2 Hm τ1 dn rs vs,Ext F1 H1 F2 Hm∧Hm acc=none∧Hc=upd Hm acc (.lst vs)∧Reps X.K F2 dn vs∧RS X.K H1 F1 F2 τ1 σ1 Hc∧u0 τ1∧(∀d,set d τ1=set d (vd tn.length idx τ)) ∧
   wN set ft fe (vd tn.length idx τ) (ds.drop i)=.ok rs∧xs=dn++rs,⟨ds.length,by simp,zero_le _,F1,H1,_,[],xs,[],Ext.refl x.fh,hacc,rfl,Reps.nil,?_,v7 _ _ _,fun _=>rfl,q,rfl⟩,?_⟩
  ·exact(Mj tn.length idx R1).free_upd (v7 _ _ _) hacc hF1 (.inl hacc)
  rintro i m σ1 Hc ⟨rfl,hi,F2,Hm,τ1,dn,rs,vs,x2,hm,rfl,r2,R2,n2,so2,cl,ex⟩
  obtain⟨i1,i2⟩:=io i F2 _ x2.ff R2.rv.fh
  by_cases hlt:i<ds.length
  ·have hd:ds.drop i=ds[i]::ds.drop (i+1):=drop_eq_getElem_cons hlt
   rw[hd,wN] at cl
   obtain⟨go,yl⟩:=i2 ds[i] (by simp[hlt])
   refine .inr ⟨go,fun y H' yy=>?_⟩
   obtain⟨F3,x3,r3⟩:=yl y H' yy
   refine⟨F3,τ1,ds[i],by rw[hK];exact(R2.ext x3).rv,by rw[hK];exact r3,?_⟩
   rw[so2]
   cases e1:set ds[i] (vd tn.length idx τ) with
   |no=>rw[e1] at cl;cases cl
   |ex c=>rw[e1] at cl;cases cl
   |ok τ2=>
    rw[e1] at cl
    simp only at cl
    intro σ2 _ RR _
    rw[hK] at RR
    have RR:=RR _ _ (R2.ext x3)
    have n3:=so.no _ _ _ e1 (v7 _ _ _)
    have so3:∀d,set d τ2=set d (vd tn.length idx τ):=fun d=>so.ov d _ _ _ e1
    cases e2:ft τ2 with
    |no=>rw[e2] at cl;cases cl
    |ex c=>rw[e2] at cl;cases cl
    |ok b=>
     rw[e2] at cl
     refine⟨F3,τ2,by rw[hK];exact RR.rv,?_⟩
     rw[e2]
     intro F4 H4 x4
     have x34:=x3.trans x4
     cases b with
     |false=>
      simp only at cl
      rw[if_neg (by simp)]
      obtain⟨y1,y2⟩:=Ys x2 hm x34
      have ha:H4 acc=some (.lst vs):=x34.hh acc _ zG
      have eH:H4=upd (wR H4 acc) acc (.lst vs):=by
       rw[ZP];funext b;unfold upd;split
       ·rename_i z;subst z;exact ha
       ·rfl
      refine⟨ds.length-(i+1),by omega,rfl,hlt,F4,wR H4 acc,τ2,dn,rs,vs,y1,uD _ _,eH,r2.mono x34.ff,RR.ext x4,n3,so3,cl,ex⟩
     |true=>
      simp only at cl
      rw[if_pos rfl]
      cases e3:fe τ2 with
      |no=>rw[e3] at cl;cases cl
      |ex c=>rw[e3] at cl;cases cl
      |ok z=>
       rw[e3] at cl
       simp only at cl
       cases e4:wN set ft fe (vd tn.length idx τ) (ds.drop (i+1)) with
       |no=>rw[e4] at cl;cases cl
       |ex c=>rw[e4] at cl;cases cl
       |ok rs'=>
        rw[e4] at cl
        have ers:z::rs'=rs:=by simpa using cl
        refine⟨F4,τ2,by rw[hK];exact(RR.ext x4).rv,?_⟩
        rw[e3]
        intro v F5 H5 x5 r5
        rw[hK] at r5
        have x35:=x34.trans x5
        obtain⟨y1,y2⟩:=Ys x2 hm x35
        refine⟨vs,x35.hh acc _ zG,?_,ds.length-(i+1),by omega,rfl,hlt,F5,wR H5 acc,τ2,dn++[z],rs',vs++[v],y1,uD _ _,by rw[ZP],(r2.mono x35.ff).append (Reps.cons r5 Reps.nil),?_,n3,so3,e4,?_⟩
        ·have:=congrArg List.length ex
         rw[← ers,length_append,length_cons,r2.length] at this
         omega
        ·exact((RR.ext x4).ext x5).free_upd n3 hacc y2 (.inr ⟨_,x35.hh acc _ zG⟩)
        ·rw[ex,← ers,append_assoc];rfl
  ·have e:i=ds.length:=by omega
   subst e
   rw[List.drop_length,wN] at cl
   cases cl
   rw[append_nil] at ex
   subst ex
   exact .inl ⟨i1 (le_refl _),k acc vs F2 Hm (x.trans x2) hm r2⟩
theorem ZA(hfr:FreeOk scope X.N fr idx)(σ:St)(i:Nat)(v:V)(h:(vT tn.length idx σ)[i]?=some (some v)):∃(x:Str) (j:Nat),(tn++fr)[i]?=some x∧X.N[j]?=some x∧σ[j]?=some (some v)∧scope.names.lookup x=some .free:=by
 unfold vT at h
 by_cases hi:i<tn.length
 ·rw[getElem?_append_left (by simpa using hi),getElem?_replicate] at h
  simp[hi] at h
 ·rw[getElem?_append_right (by simpa using hi),getElem?_map] at h
  simp only[List.length_replicate] at h
  cases q:idx[i-tn.length]? with
  |none=>rw[q] at h;cases h
  |some j=>
   rw[q] at h
   simp only[Option.map_some,Option.some.injEq] at h
   obtain⟨x,h1,h2,h3⟩:=hfr.get q
   refine⟨x,j,by rw[getElem?_append_right (by omega)];exact h1,h2,?_,h3⟩
   cases z:σ[j]? with
   |none=>rw[z] at h;cases h
   |some o=>rw[z] at h;simp at h;rw[h]
theorem ux(hb:uT X.env.scope scope=true)(hc:X.calm=true)(hfr:FreeOk scope X.N fr idx)(so:XC set)(hi:PDI X tg iter fi)
  (hg:∀s H C fp,PDG (X.comp scope (tn++fr) s H C fp) tg set) (ht:∀s H C fp,G0 (X.comp scope (tn++fr) s H C fp) ifs ft) (he:∀s H C fp,PDE (X.comp scope (tn++fr) s H C fp) elt fe)
  (hs:∀x,foldedSetIterable iter X.env x=pure x:=by intro _;rfl):PDF X (.ListComp elt [⟨tg,iter,ifs,0⟩] scope pos) (we tn.length idx fi set ft fe):=
 PE.imp (MB (s0:=vT tn.length idx) (g:=tG (X.comp scope (tn++fr) X.s₀ X.H₀ 0 []) set) (ti:=tTs (X.comp scope (tn++fr) X.s₀ X.H₀ 0 []) ft) (te:=tE (X.comp scope (tn++fr) X.s₀ X.H₀ 0 []) fe)
  (vc hb) hc (fun σ _=>by simp[vT,hfr.len]) (ZA hfr) hi hg ht he hs) (Zb so rfl)
theorem Wz{i:Nat}{y:Str}{py spos:Pos}(hN:X.N.Nodup)(hiN:X.N[i]?=some y)(hy:X.env.scope.names.lookup y=some .local)
  (hsw:swapsWith (.ListComp elt [⟨tg,iter,ifs,0⟩] scope pos) (some (.Name y py)) spos.line X.env=pure true)
  (hb:uT X.env.scope scope=true) (hc:X.calm=true) (hfr:FreeOk scope X.N fr idx) (so:XC set) (hi:PDI X tg iter fi)
  (hg:∀s H C fp,PDG (X.comp scope (tn++fr) s H C fp) tg set) (ht:∀s H C fp,G0 (X.comp scope (tn++fr) s H C fp) ifs ft) (he:∀s H C fp,PDE (X.comp scope (tn++fr) s H C fp) elt fe)
  (hs:∀x,foldedSetIterable iter X.env x=pure x:=by intro _;rfl):PDS X (.Assign [.Name y py] (.ListComp elt [⟨tg,iter,ifs,0⟩] scope pos) spos) (zX i fun τ=>(we tn.length idx fi set ft fe τ).bind fun ds=>.ok (.lst ds)):=
 PS.imp (Ug (s0:=vT tn.length idx) (g:=tG (X.comp scope (tn++fr) X.s₀ X.H₀ 0 []) set) (ti:=tTs (X.comp scope (tn++fr) X.s₀ X.H₀ 0 []) ft) (te:=tE (X.comp scope (tn++fr) X.s₀ X.H₀ 0 []) fe) hN hiN hy hsw
  (vc hb) hc (fun σ _=>by simp[vT,hfr.len]) (ZA hfr) hi hg ht he hs) fun E σ H ⟨B,Z,F,τ,R,h⟩=>by
  refine Zb (X:=X) (tn:=tn) (idx:=idx) (fi:=fi) (ft:=ft) (fe:=fe) so (Y:=X.comp scope (tn++fr) X.s₀ X.H₀ 0 []) rfl σ H (fun x H1=>Xu i x σ H1 E.nx) ⟨F,τ,R.rv,?_⟩
  have h':=h.of.bind
  refine h'.imp fun ds g p vs F1 H1 x hp r=>?_
  have x2:=x.trans (Ext.new (o:=.lst vs) x.fh hp)
  refine g _ _ _ x2.ff ((R.ext x2).set ?_)
  simp only[Rep]
  exact⟨p,vs,rfl,zG,r.mono (yD (yi x.fh hp))⟩
theorem Je{i:Nat}{y:Str}{py spos:Pos}(hN:X.N.Nodup)(hiN:X.N[i]?=some y)(hy:X.env.scope.names.lookup y=some .local)
  (hsw:swapsWith (.ListComp elt [⟨tg,iter,ifs,0⟩] scope pos) (some (.Name y py)) spos.line X.env=pure true)
  (hb:uT X.env.scope scope=true) (hc:X.calm=true) (hfr:FreeOk scope X.N fr idx) (so:XC set) (hi:PDI X tg iter fi)
  (hg:∀s H C fp,PDG (X.comp scope (tn++fr) s H C fp) tg set) (ht:∀s H C fp,G0 (X.comp scope (tn++fr) s H C fp) ifs ft) (he:∀s H C fp,PDE (X.comp scope (tn++fr) s H C fp) elt fe)
  (hs:∀x,foldedSetIterable iter X.env x=pure x:=by intro _;rfl):PDS X (.Assign [.Name y py] (.ListComp elt [⟨tg,iter,ifs,0⟩] scope pos) spos) (vN i (we tn.length idx fi set ft fe)):=
 PS.imp (Ug (s0:=vT tn.length idx) (g:=tG (X.comp scope (tn++fr) X.s₀ X.H₀ 0 []) set) (ti:=tTs (X.comp scope (tn++fr) X.s₀ X.H₀ 0 []) ft) (te:=tE (X.comp scope (tn++fr) X.s₀ X.H₀ 0 []) fe) hN hiN hy hsw
  (vc hb) hc (fun σ _=>by simp[vT,hfr.len]) (ZA hfr) hi hg ht he hs) fun E σ H ⟨B,Z,F,τ,R,h⟩=>by
  refine Zb (X:=X) (tn:=tn) (idx:=idx) (fi:=fi) (ft:=ft) (fe:=fe) so (Y:=X.comp scope (tn++fr) X.s₀ X.H₀ 0 []) rfl σ H (fun x H1=>Xu i x σ H1 E.nx) ⟨F,τ,R.rv,?_⟩
  exact h.of.imp fun ds g p vs F1 H1 x hp r=>g _ F1 _ x.ff ((R.ext x).setO hp r)
end
structure Drw(prog:Program)(w:World)(A:Around)(i:Addr)(n:Nat)(P:Nat→Value→Prop)(st:Nat→Heap→Prop)(rd:Heap→Prop):Prop where
 at_:∀k h h',st k h→(∀o,h.get? i=some o→h'.get? i=some o)→st k h'
 live:∀k h,st k h→∃o n,h.get? i=some o∧o.cls=.type n∧n ≠ "zip" ∧ n ≠ "tuple" ∧ ∀v,o.data≠.cell v
 rdk:∀(h h':Heap),rd h→(∀b o,h.get? b=some o→o.cls=.type "list" → h'.get? b=some o)→rd h'
 item:∀k (s:Shared) (Q:Value→Shared→Prop) (E:Value→Shared→Prop),k<n→st k s.heap→rd s.heap →
  (∀x h' tk,P k x→st (k+1) h'→Heap.SameBut i s.heap h'→Q x { s with heap:=h',toks:=tk })→wpAny (model prog w) A (Builtin.SmallTypes.nextOf (.ref i)) Q E s
 done:∀k (s:Shared) (Q:Value→Shared→Prop) (E:Value→Shared→Prop),n≤k→st k s.heap→rd s.heap →
  (∀h' e,Heap.ExtBut i s.heap h'→(∃o,h'.get? e=some o∧o.cls=.type "StopIteration")→E (.ref e) { s with heap:=h' })→wpAny (model prog w) A (Builtin.SmallTypes.nextOf (.ref i)) Q E s
theorem Drw.list{prog:Program}{w:World}{A:Around}(hh:A.handled=none)(i l:Addr)(items:Array Value) :
  Drw prog w A i items.size (fun k v=>items[k]?=some v) (fun k h=>h.IsListIter i l k) (fun h=>h.IsList l items) where
 at_:=fun k h h' st hk=>st.at hk
 live:=fun k h ⟨o,e,c,d⟩=>⟨o,_,e,c,by decide,by decide,fun v z=>by rw[d] at z;cases z⟩
 rdk:=fun h h' ⟨o,e,c,r⟩ hk=>⟨o,hk l o e c,c,r⟩
 item:=fun k s Q E hk st rd hQ=>wpAny_nextOf_list_item st rd (x:=items[k]) (by simp[hk]) fun h' st' sb=>hQ _ h' s.toks (by simp[hk]) st' sb
 done:=fun k s Q E hk st rd hE=>wpAny_nextOf_list_end hh st rd (by simp;omega) hE
theorem Drw.str{prog:Program}{w:World}{A:Around}(hh:A.handled=none)(i:Addr)(x:Str)(t:Tok)(ty:String)(hty:ty = "str_ascii_iterator" ∨ ty = "str_iterator") :
  Drw prog w A i x.cps.size (SignAt x) (fun k h=>h.IsStrIter i ty x t k) (fun _=>True) where
 at_:=fun k h h' ⟨o,e,r⟩ hk=>⟨o,hk o e,r⟩
 live:=fun k h ⟨o,e,c,d⟩=>⟨o,ty,e,c,by rcases hty with rfl|rfl <;> decide,by rcases hty with rfl|rfl <;> decide,fun v z=>by rw[d] at z;cases z⟩
 rdk:=fun _ _ _ _=>trivial
 item:=fun k s Q E hk st _ hQ=>by
  rcases hty with rfl|rfl
  ·exact wpAny_nextOf_ascii_item st (c:=x.cps[k]) (by simp[hk]) fun h' st' sb=>hQ _ h' _ ⟨_,_,by simp[hk],rfl⟩ st' sb
  ·exact wpAny_nextOf_wide_item st (c:=x.cps[k]) (by simp[hk]) fun h' st' sb=>hQ _ h' _ ⟨_,_,by simp[hk],rfl⟩ st' sb
 done:=fun k s Q E hk st _ hE=>by
  rcases hty with rfl|rfl
  ·exact wpAny_nextOf_ascii_end hh st (by simp;omega) hE
  ·exact wpAny_nextOf_wide_end hh st (by simp;omega) hE
structure YG(z TI TO i1 i2:Addr):Prop where
 TIz:TI≠z
 TOz:TO≠z
 i1z:i1≠z
 i2z:i2≠z
 TITO:TI≠TO
 TIi1:TI≠i1
 TIi2:TI≠i2
 TOi1:TO≠i1
 TOi2:TO≠i2
 i12:i1≠i2
section
variable{prog:Program}{w:World}{A:Around}{E:Value→Shared→Prop}{s:Shared}{z TI TO i1 i2:Addr}{n1 n2:Nat}{P1 P2:Nat→Value→Prop}{st1 st2:Nat→Heap→Prop}{rd1 rd2:Heap→Prop}
theorem v5{h:Heap}{c:Addr}{o:Obj}{n:String}(e:h.get? c=some o)(hc:o.cls=.type n)(hn:n ≠ "list"){b:Addr}{u:Obj}(eb:h.get? b=some u)(hb:u.cls=.type "list"):b≠c:=by
 rintro rfl
 rw[e] at eb;cases eb
 rw[hc] at hb
 injection hb with q
 exact hn q
theorem UU{k:Nat}{a b:Value}{Q:Value→Shared→Prop}(D:YG z TI TO i1 i2)(D1:Drw prog w A i1 n1 P1 st1 rd1)(D2:Drw prog w A i2 n2 P2 st2 rd2)(h1lt:k<n1)(h2lt:k<n2)
  (hz:IsZip s.heap z TI TO .none) (hTI:IsPair s.heap TI (.ref i1) (.ref i2)) (hTO:IsPair s.heap TO a b) (h1:st1 k s.heap) (h2:st2 k s.heap) (r1:rd1 s.heap) (r2:rd2 s.heap)
  (hn1:∀b o,s.heap.get? b=some o→o.cls=.type "list" → b≠i1) (hn2:∀b o,s.heap.get? b=some o→o.cls=.type "list" → b≠i2)
  (hQ:∀x y h' tk,P1 k x→P2 k y→IsZip h' z TI TO (rawInt s.heap.objs.size)→IsPair h' TO x y→st1 (k+1) h'→st2 (k+1) h'→IsPair h' s.heap.objs.size x y→h'.objs.size=s.heap.objs.size+1 →
   (∀c o,c≠z→c≠TO→c≠i1→c≠i2→s.heap.get? c=some o→h'.get? c=some o)→Q (.ref s.heap.objs.size) { s with heap:=h',toks:=tk }) :
  wpAny (model prog w) A (Builtin.«zip.__next__» ⟨[.ref z],[]⟩) (fun fin s'=>∃v,fin=.done (.ret v)∧Q v s') E s:=by
 have nz:∀b o,s.heap.get? b=some o→o.cls=.type "list" → b≠z:=fun b o e c=>v5 hz rfl (by decide) e c
 have nTO:∀b o,s.heap.get? b=some o→o.cls=.type "list" → b≠TO:=fun b o e c=>v5 hTO rfl (by decide) e c
 show wpAny _ _ (field (.ref z) 2 >>= _) _ _ _
 refine wpAny_bind (wpAny_field hz rfl (x:=.bool false) rfl ?_)
 show wpAny _ _ (field (.ref z) 3 >>= _) _ _ _
 refine wpAny_bind (wpAny_field hz rfl (x:=.ref TI) rfl ?_)
 refine wpAny_bind (wpAny_seqItems hTI rfl ?_)
 show wpAny _ _ (Builtin.SmallTypes.ownedTupleIsFree (.ref z) >>= _) _ _ _
 refine wpAny_bind ?_
 unfold Builtin.SmallTypes.ownedTupleIsFree
 refine wpAny_bind (wpAny_field hz rfl (x:=.none) rfl (wpAny_pure ?_))
 simp only[if_true]
 refine wpAny_bind (wpAny_rule ?_)
 refine wpAny_bind (wpAny_field hz rfl (x:=.ref TO) rfl ?_)
 refine wpAny_bind (wpAny_setField_rec hz (by simp) fun h₁ hz₁ hs₁=>?_)
 replace hz₁:IsZip h₁ z TI TO .ellipsis:=hz₁
 refine wpAny_bind ?_
 simp only[zipIdx_cons,List.zipIdx_nil,forIn_cons,List.forIn_nil]
 refine wpAny_bind (wpAny_bind (wpAny_onRaise ?_))
 show wpAny _ _ (Builtin.SmallTypes.nextOf (.ref i1) >>= _) _ _ _
 refine wpAny_bind (D1.item k _ _ _ h1lt (D1.at_ _ _ _ h1 fun o e=>hs₁.extBut _ o D.i1z e) (D1.rdk _ _ r1 fun b o e c=>hs₁.extBut _ _ (nz b o e c) e) fun x h₂ tk2 px h1₂ hs₂=>wpAny_pure ?_)
 have hs₂:Heap.SameBut i1 h₁ h₂:=hs₂
 have hTO₂:IsPair h₂ TO a b:=hs₂.extBut _ _ D.TOi1 (hs₁.extBut _ _ D.TOz hTO)
 refine wpAny_bind (wpAny_seqItems hTO₂ rfl ?_)
 refine wpAny_bind (wpAny_updateSeq_pair hTO₂ fun h₃ hTO₃ hs₃=>?_)
 replace hTO₃:IsPair h₃ TO x b:=hTO₃
 have hs₃:Heap.SameBut TO h₂ h₃:=hs₃
 refine wpAny_bind (wpAny_letGo (wpAny_pure ?_))
 refine wpAny_bind (wpAny_bind (wpAny_onRaise ?_))
 show wpAny _ _ (Builtin.SmallTypes.nextOf (.ref i2) >>= _) _ _ _
 refine wpAny_bind (D2.item k _ _ _ h2lt (D2.at_ _ _ _ h2 fun o e=>hs₃.extBut _ o D.TOi2.symm (hs₂.extBut _ o D.i12.symm (hs₁.extBut _ o D.i2z e)))
  (D2.rdk _ _ r2 fun b o e c=>hs₃.extBut _ _ (nTO b o e c) (hs₂.extBut _ _ (hn1 b o e c) (hs₁.extBut _ _ (nz b o e c) e))) fun y h₄ tk4 py h2₄ hs₄=>wpAny_pure ?_)
 have hs₄:Heap.SameBut i2 h₃ h₄:=hs₄
 have hTO₄:IsPair h₄ TO x b:=hs₄.extBut _ _ D.TOi2 hTO₃
 refine wpAny_bind (wpAny_seqItems hTO₄ rfl ?_)
 refine wpAny_bind (wpAny_updateSeq_pair hTO₄ fun h₅ hTO₅ hs₅=>?_)
 replace hTO₅:IsPair h₅ TO x y:=hTO₅
 have hs₅:Heap.SameBut TO h₄ h₅:=hs₅
 refine wpAny_bind (wpAny_letGo (wpAny_pure (wpAny_pure ?_)))
 refine wpAny_bind (wpAny_seqItems hTO₅ rfl ?_)
 refine wpAny_bind (wpAny_newTuple ?_)
 have hsz:h₅.objs.size=s.heap.objs.size:=by rw[hs₅.1,hs₄.1,hs₃.1,hs₂.1,hs₁.1]
 have hz₅:IsZip h₅ z TI TO .ellipsis:=hs₅.extBut _ _ D.TOz.symm (hs₄.extBut _ _ D.i2z.symm (hs₃.extBut _ _ D.TOz.symm (hs₂.extBut _ _ D.i1z.symm hz₁)))
 have hk₅:∀c o,c≠z→c≠TO→c≠i1→c≠i2→s.heap.get? c=some o→h₅.get? c=some o:=fun c o c1 c2 c3 c4 e=>
  hs₅.extBut _ _ c2 (hs₄.extBut _ _ c4 (hs₃.extBut _ _ c2 (hs₂.extBut _ _ c3 (hs₁.extBut _ _ c1 e))))
 have h1₅:st1 (k+1) h₅:=D1.at_ _ _ _ h1₂ fun o e=>hs₅.extBut _ _ D.TOi1.symm (hs₄.extBut _ _ D.i12 (hs₃.extBut _ _ D.TOi1.symm e))
 have h2₅:st2 (k+1) h₅:=D2.at_ _ _ _ h2₄ fun o e=>hs₅.extBut _ _ D.TOi2.symm e
 have hzlt:z<h₅.objs.size:=Heap.lt_size hz₅
 show wpAny _ _ (Builtin.SmallTypes.ownedTupleHandOut (.ref z) (.ref h₅.objs.size) >>= _) _ _ _
 refine wpAny_bind ?_
 unfold Builtin.SmallTypes.ownedTupleHandOut
 have hz₆:IsZip (h₅.push { cls:=.type "tuple", data:=.seq #[x,y] }) z TI TO .ellipsis:=Heap.get?_push_of_some _ hz₅
 refine wpAny_bind (wpAny_setField_rec hz₆ (by simp) fun h₇ hz₇ hs₇=>?_)
 replace hz₇:IsZip h₇ z TI TO (rawInt h₅.objs.size):=hz₇
 refine wpAny_setField_rec hz₇ (by simp) fun h₈ hz₈ hs₈=>?_
 replace hz₈:IsZip h₈ z TI TO (rawInt h₅.objs.size):=hz₈
 have up:∀c o,c≠z→h₅.get? c=some o→h₈.get? c=some o:=fun c o c1 e=>hs₈.extBut _ _ c1 (hs₇.extBut _ _ c1 (Heap.get?_push_of_some _ e))
 have hT₈:IsPair h₈ h₅.objs.size x y:=hs₈.extBut _ _ (ne_of_gt hzlt) (hs₇.extBut _ _ (ne_of_gt hzlt) (Heap.get?_push_size _ rfl))
 have hz8:h₈.objs.size=h₅.objs.size+1:=by rw[hs₈.1,hs₇.1,Heap.size_push]
 rw[hsz] at hz₈ hT₈ hz8
 refine wpAny_pure ⟨_,rfl,?_⟩
 show Q (.ref h₅.objs.size) _
 rw[hsz]
 exact hQ x y h₈ _ px py hz₈ (up _ _ D.TOz hTO₅) (D1.at_ _ _ _ h1₅ fun o e=>up _ o D.i1z e) (D2.at_ _ _ _ h2₅ fun o e=>up _ o D.i2z e) hT₈ hz8 fun c o c1 c2 c3 c4 e=>up c o c1 (hk₅ c o c1 c2 c3 c4 e)
theorem JR{k:Nat}{a b:Value}{Q:Fin→Shared→Prop}(D:YG z TI TO i1 i2)(D1:Drw prog w A i1 n1 P1 st1 rd1)(D2:Drw prog w A i2 n2 P2 st2 rd2)(hend:n1≤k∨n2≤k)
  (hz:IsZip s.heap z TI TO .none) (hTI:IsPair s.heap TI (.ref i1) (.ref i2)) (hTO:IsPair s.heap TO a b) (h1:st1 k s.heap) (h2:st2 k s.heap) (r1:rd1 s.heap) (r2:rd2 s.heap)
  (hn1:∀b o,s.heap.get? b=some o→o.cls=.type "list" → b≠i1)
  (hE:∀h' e tk,(∀c o,c≠z→c≠TO→c≠i1→c≠i2→s.heap.get? c=some o→h'.get? c=some o)→(∃o,h'.get? e=some o∧o.cls=.type "StopIteration")→E (.ref e) { s with heap:=h',toks:=tk }) :
  wpAny (model prog w) A (Builtin.«zip.__next__» ⟨[.ref z],[]⟩) Q E s:=by
 have nz:∀b o,s.heap.get? b=some o→o.cls=.type "list" → b≠z:=fun b o e c=>v5 hz rfl (by decide) e c
 have nTO:∀b o,s.heap.get? b=some o→o.cls=.type "list" → b≠TO:=fun b o e c=>v5 hTO rfl (by decide) e c
 show wpAny _ _ (field (.ref z) 2 >>= _) _ _ _
 refine wpAny_bind (wpAny_field hz rfl (x:=.bool false) rfl ?_)
 show wpAny _ _ (field (.ref z) 3 >>= _) _ _ _
 refine wpAny_bind (wpAny_field hz rfl (x:=.ref TI) rfl ?_)
 refine wpAny_bind (wpAny_seqItems hTI rfl ?_)
 show wpAny _ _ (Builtin.SmallTypes.ownedTupleIsFree (.ref z) >>= _) _ _ _
 refine wpAny_bind ?_
 unfold Builtin.SmallTypes.ownedTupleIsFree
 refine wpAny_bind (wpAny_field hz rfl (x:=.none) rfl (wpAny_pure ?_))
 simp only[if_true]
 refine wpAny_bind (wpAny_rule ?_)
 refine wpAny_bind (wpAny_field hz rfl (x:=.ref TO) rfl ?_)
 refine wpAny_bind (wpAny_setField_rec hz (by simp) fun h₁ hz₁ hs₁=>?_)
 replace hz₁:IsZip h₁ z TI TO .ellipsis:=hz₁
 refine wpAny_bind ?_
 simp only[zipIdx_cons,List.zipIdx_nil,forIn_cons,List.forIn_nil]
 refine wpAny_bind (wpAny_bind (wpAny_onRaise ?_))
 show wpAny _ _ (Builtin.SmallTypes.nextOf (.ref i1) >>= _) _ _ _
 have s1:=D1.at_ _ _ h₁ h1 fun o e=>hs₁.extBut _ o D.i1z e
 have d1:=D1.rdk _ h₁ r1 fun b o e c=>hs₁.extBut _ _ (nz b o e c) e
 by_cases hk:n1≤k
 ·refine wpAny_bind (D1.done k _ _ _ hk s1 d1 fun h₂ e hs₂ he=>?_)
  obtain⟨oe,hoe,hce⟩:=he
  have hz₂:IsZip h₂ z TI TO .ellipsis:=hs₂ _ _ D.i1z.symm hz₁
  have hez:e≠z:=fun x=>by subst x;rw[hz₂] at hoe;cases hoe;simp at hce
  refine wpAny_setField_rec hz₂ (by simp) fun h₃ _ hs₃=>hE h₃ e _ (fun c o c1 _ c3 _ x=>hs₃.extBut _ _ c1 (hs₂ _ _ c3 (hs₁.extBut _ _ c1 x))) ⟨oe,hs₃.extBut _ _ hez hoe,hce⟩
 ·have hk2:n2≤k:=by rcases hend with h|h;exact absurd h hk;exact h
  refine wpAny_bind (D1.item k _ _ _ (by omega) s1 d1 fun x h₂ tk2 px h1₂ hs₂=>wpAny_pure ?_)
  have hs₂:Heap.SameBut i1 h₁ h₂:=hs₂
  have hTO₂:IsPair h₂ TO a b:=hs₂.extBut _ _ D.TOi1 (hs₁.extBut _ _ D.TOz hTO)
  refine wpAny_bind (wpAny_seqItems hTO₂ rfl ?_)
  refine wpAny_bind (wpAny_updateSeq_pair hTO₂ fun h₃ hTO₃ hs₃=>?_)
  have hs₃:Heap.SameBut TO h₂ h₃:=hs₃
  refine wpAny_bind (wpAny_letGo (wpAny_pure ?_))
  refine wpAny_bind (wpAny_bind (wpAny_onRaise ?_))
  show wpAny _ _ (Builtin.SmallTypes.nextOf (.ref i2) >>= _) _ _ _
  refine wpAny_bind (D2.done k _ _ _ hk2 (D2.at_ _ _ _ h2 fun o e=>hs₃.extBut _ o D.TOi2.symm (hs₂.extBut _ o D.i12.symm (hs₁.extBut _ o D.i2z e)))
   (D2.rdk _ _ r2 fun b o e c=>hs₃.extBut _ _ (nTO b o e c) (hs₂.extBut _ _ (hn1 b o e c) (hs₁.extBut _ _ (nz b o e c) e))) fun h₄ e hs₄ he=>?_)
  obtain⟨oe,hoe,hce⟩:=he
  have hs₄:Heap.ExtBut i2 h₃ h₄:=hs₄
  have hz₄:IsZip h₄ z TI TO .ellipsis:=hs₄ _ _ D.i2z.symm (hs₃.extBut _ _ D.TOz.symm (hs₂.extBut _ _ D.i1z.symm hz₁))
  have hez:e≠z:=fun x=>by subst x;rw[hz₄] at hoe;cases hoe;simp at hce
  refine wpAny_setField_rec hz₄ (by simp) fun h₅ _ hs₅=>hE h₅ e _ (fun c o c1 c2 c3 c4 x=>hs₅.extBut _ _ c1 (hs₄ _ _ c4 (hs₃.extBut _ _ c2 (hs₂.extBut _ _ c3 (hs₁.extBut _ _ c1 x))))) ⟨oe,hs₅.extBut _ _ hez hoe,hce⟩
theorem UT{k:Nat}{a b:Value}{Q:Option Value→Shared→Prop}(D:YG z TI TO i1 i2)(D1:Drw prog w A.in1 i1 n1 P1 st1 rd1)(D2:Drw prog w A.in1 i2 n2 P2 st2 rd2)(h1lt:k<n1)(h2lt:k<n2)
  (hz:IsZip s.heap z TI TO .none) (hTI:IsPair s.heap TI (.ref i1) (.ref i2)) (hTO:IsPair s.heap TO a b) (h1:st1 k s.heap) (h2:st2 k s.heap) (r1:rd1 s.heap) (r2:rd2 s.heap)
  (hn1:∀b o,s.heap.get? b=some o→o.cls=.type "list" → b≠i1) (hn2:∀b o,s.heap.get? b=some o→o.cls=.type "list" → b≠i2)
  (hQ:∀x y h' tk,P1 k x→P2 k y→IsZip h' z TI TO (rawInt s.heap.objs.size)→IsPair h' TO x y→st1 (k+1) h'→st2 (k+1) h'→IsPair h' s.heap.objs.size x y→h'.objs.size=s.heap.objs.size+1 →
   (∀c o,c≠z→c≠TO→c≠i1→c≠i2→s.heap.get? c=some o→h'.get? c=some o)→Q (some (.ref s.heap.objs.size)) { s with heap:=h',toks:=tk }) :
  wpAny (model prog w) A (pyNext (.ref z)) Q E s:=by
 have hT:s.TypeIs (.ref z) "zip" := ⟨_,hz,rfl⟩
 unfold pyNext
 exact wpAny_bind (wpAny_attempt (wpAny_callSpecial?_slot (name:=Str.ofString "__next__") hT F.slot_zip_next
  (wpAny_call_entry F.slot_zip_next hT F.entry_zip_next
   (UU D D1 D2 h1lt h2lt hz hTI hTO h1 h2 r1 r2 hn1 hn2 fun x y h' tk a1 a2 a3 a4 a5 a6 a7 a8 a9=>wpAny_pure (hQ x y h' tk a1 a2 a3 a4 a5 a6 a7 a8 a9)) (F.args_zip_next_1 _))))
theorem US{k:Nat}{a b:Value}{Q:Option Value→Shared→Prop}(D:YG z TI TO i1 i2)(D1:Drw prog w A.in1 i1 n1 P1 st1 rd1)(D2:Drw prog w A.in1 i2 n2 P2 st2 rd2)(hend:n1≤k∨n2≤k)
  (hz:IsZip s.heap z TI TO .none) (hTI:IsPair s.heap TI (.ref i1) (.ref i2)) (hTO:IsPair s.heap TO a b) (h1:st1 k s.heap) (h2:st2 k s.heap) (r1:rd1 s.heap) (r2:rd2 s.heap)
  (hn1:∀b o,s.heap.get? b=some o→o.cls=.type "list" → b≠i1)
  (hQ:∀h' tk,(∀c o,c≠z→c≠TO→c≠i1→c≠i2→s.heap.get? c=some o→h'.get? c=some o)→Q none { s with heap:=h',toks:=tk }):wpAny (model prog w) A (pyNext (.ref z)) Q E s:=by
 have hT:s.TypeIs (.ref z) "zip" := ⟨_,hz,rfl⟩
 unfold pyNext
 refine wpAny_bind (wpAny_attempt (wpAny_callSpecial?_slot (name:=Str.ofString "__next__") hT F.slot_zip_next
  (wpAny_call_entry F.slot_zip_next hT F.entry_zip_next (JR D D1 D2 hend hz hTI hTO h1 h2 r1 r2 hn1 fun h' e tk hk he=>?_) (F.args_zip_next_1 _))))
 obtain⟨o,ho,hc⟩:=he
 refine wpAny_bind (wpAny_isInstance (T := "StopIteration") (b:=true) ⟨o,ho,hc⟩ isSubtype_stop ?_)
 exact wpAny_pure (hQ _ tk hk)
end
def Itz(K:PySem.W.Frag)(x:Str)(l:Addr):It:=
 ⟨fun k H=>∃vs,SqL K H l vs∧k<x.cps.size∧k<vs.length,
  fun k H y H'=>∃p c v,H p=none∧(∀vs,SqL K H l vs→vs[k]?=some v)∧x.cps[k]?=some c∧y=.ref p∧H'=upd H p (.tup [.str ⟨#[c]⟩,v]),
  fun k H=>∃vs,SqL K H l vs∧(x.cps.size≤k∨vs.length≤k)⟩
theorem XD{X:Cx}{pins:List (Addr×Obj)}{σ:St}{H:Hp}{s:Shared}{h':Heap}{t':Nat}{ch:List Addr}(I:Inv X pins σ H s)(k:∀b o,b∉ch→s.heap.get? b=some o→h'.get? b=some o)(hf:∀b∈ch,YE X pins H b)(he:∀b∈ch,H b=none) :
  Inv X pins σ H { s with heap:=h',toks:=t' }:=by
 refine I.step (g':=s.gens) (d':=s.drawn) (ch:=ch) (fun b hb=>?_) (fun b o _ _ hc e _=>k b o hc e) (fun b o _ _ hc e _=>⟨o.slots,k b o hc e⟩) (fun _ _ _ _ n=>n)
  (fun b o hc e=>⟨o,k b o hc e⟩) (fun _ _ e=>e) (fun _ _ _ e=>e) (fun b ps e=>⟨#[],by rw[e];simp⟩) (fun m hm=>?_) (fun b u e=>?_) I.bare
 ·obtain⟨f0,f1,f2,f3,f4,f5⟩:=hf b hb
  exact⟨f3,f1,f4,f5⟩
 ·obtain⟨o,es,ep,ho,r⟩:=hm
  exact⟨o,es,ep,k _ o (fun z=>(hf _ z).2.1 rfl) ho,r⟩
 ·refine(I.hok b u e).stay (fun c v hc q=>k c v ?_ q) (fun _ q=>q) fun _ _ q=>q
  intro z
  rcases hc with q|q
  ·subst q;rw[he c z] at e;cases e
  ·rw[he c z] at q;cases q
theorem V5{X:Cx}{pins:List (Addr×Obj)}{σ:St}{H:Hp}{s:Shared}{h':Heap}{t':Nat}{ch:List Addr}{p:Addr}{xs:List V}{its:List Value}(I:Inv X pins σ H s)(k:∀b o,b∉ch→s.heap.get? b=some o→h'.get? b=some o)(hf:∀b∈ch,YE X pins H b)
  (hp:s.heap.objs.size≤p) (ht:IsTup h' p its.toArray) (hv:Vals xs its) (hz:xs.length≤sizeLine) :
  Inv X pins σ (upd H p (.tup xs)) { s with heap:=h',toks:=t' }:=by
 have hn:H p=none:=I.hok.fresh hp
 have lt:∀{b:Addr} {o:Obj},s.heap.get? b=some o→b≠p:=fun e=>ne_of_lt (lt_of_lt_of_le (Heap.lt_size e) hp)
 refine I.step (g':=s.gens) (d':=s.drawn) (ch:=ch) (fun b hb=>?_) (fun b o _ _ hc e _=>k b o hc e) (fun b o _ _ hc e _=>⟨o.slots,k b o hc e⟩) (fun b o _ e n=>by rw[zB (lt e)];exact n)
  (fun b o hc e=>⟨o,k b o hc e⟩) (fun b ys e=>by rw[zB (z9 e hn)];exact e) (fun b o u e=>by rw[zB (z9 e hn)];exact e) (fun b ps e=>⟨#[],by rw[zB (z9 e hn),e];simp⟩) (fun m hm=>?_) (fun b u e=>?_) I.bare
 ·obtain⟨f0,f1,f2,f3,f4,f5⟩:=hf b hb
  exact⟨f3,f1,f4,f5⟩
 ·obtain⟨o,es,ep,ho,r⟩:=hm
  exact⟨o,es,ep,k _ o (fun z=>(hf _ z).2.1 rfl) ho,r⟩
 ·by_cases hb:b=p
  ·subst hb;rw[zG] at e;cases e
   exact⟨hz,its,hv,ht⟩
  ·rw[zB hb] at e
   refine(I.hok b u e).stay (fun c v hc q=>k c v ?_ q) (fun c q=>by rw[zB (z9 q hn)];exact q) fun c ys q=>by rw[zB (z9 q hn)];exact q
   intro z
   rcases hc with q|q
   ·subst q;rw[(hf c z).1] at e;cases e
   ·rw[(hf c z).1] at q;cases q
theorem JY{P:Program}{w:World}{K:PySem.W.Frag}{elts:List Expr}{x1}{pos:Pos}{z TI TO i1 i2 l:Addr}{x:Str}{t:Tok}{ty:String}(D:YG z TI TO i1 i2)(hty:ty = "str_ascii_iterator" ∨ ty = "str_iterator") :
  YY P w K (.Tuple elts x1 pos) (Itz K x l) [z,TI,TO,i1,i2] z (fun k h=>IsZip h z TI TO .none∧IsPair h TI (.ref i1) (.ref i2)∧(∃a b,IsPair h TO a b)∧h.IsStrIter i1 ty x t k∧h.IsListIter i2 l k) where
 mem:=by simp
 obj:=fun k h ⟨h1,h2,⟨a,b,h3⟩,⟨o4,e4,c4,d4⟩,⟨o5,e5,c5,d5⟩⟩ b hb=>by
  simp at hb
  rcases hb with rfl|rfl|rfl|rfl|rfl
  ·exact⟨_,h1,fun v z=>by cases z⟩
  ·exact⟨_,h2,fun v z=>by cases z⟩
  ·exact⟨_,h3,fun v z=>by cases z⟩
  ·exact⟨_,e4,fun v z=>by rw[d4] at z;cases z⟩
  ·exact⟨_,e5,fun v z=>by rw[d5] at z;cases z⟩
 keep:=fun k h h' ⟨h1,h2,⟨a,b,h3⟩,⟨o4,e4,r4⟩,h5⟩ hk=>⟨hk z (by simp) _ h1,hk TI (by simp) _ h2,⟨a,b,hk TO (by simp) _ h3⟩,⟨o4,hk i1 (by simp) _ e4,r4⟩,h5.at fun o e=>hk i2 (by simp) o e⟩
 item:=by
  intro X hP hw hK hc k pins s σ H E I hf ⟨h1,h2,⟨a,b,h3⟩,h4,h5⟩ hg
  subst hP hw hK
  obtain⟨vs,hq,l1,l2⟩:=hg
  obtain⟨its,rv,p,hz⟩:=I.list hq
  have hh:X.A.in1.handled=none:=I.ok.hd hc
  have hlen:=rv.length
  obtain⟨o4,e4,c4,d4⟩:=id h4
  obtain⟨o5,e5,c5,d5⟩:=id h5
  have n1:∀b o,s.heap.get? b=some o→o.cls=.type "list" → b≠i1:=fun b o e c=>v5 e4 c4 (by rcases hty with rfl|rfl <;> decide) e c
  have n2:∀b o,s.heap.get? b=some o→o.cls=.type "list" → b≠i2:=fun b o e c=>v5 e5 c5 (by decide) e c
  refine UT D (Drw.str hh i1 x t ty hty) (Drw.list hh i2 l its.toArray) l1 (by simpa[← hlen] using l2) h1 h2 h3 h4 h5 trivial p.isList n1 n2 fun u1 u2 h' tk p1 p2 q1 q2 q3 q4 q5 q6 q7=>?_
  obtain⟨c,tc,ec,rfl⟩:=p1
  have p2':its[k]?=some u2:=by simpa using p2
  have hvk:vs[k]?=some vs[k]:=by simp[l2]
  obtain⟨w',ew,rw'⟩:=rv.get hvk
  rw[p2'] at ew;cases ew
  refine⟨_,rfl,wpAny_letOwnedTupleGo_zip (s:={ s with heap:=h',toks:=tk }) q1 fun h'' z1 sb=>?_⟩
  have np:s.heap.objs.size≠z:=ne_of_gt (Heap.lt_size h1)
  refine⟨.ref s.heap.objs.size,upd H s.heap.objs.size (.tup [.str ⟨#[c]⟩,vs[k]]),?_,rfl,⟨_,c,vs[k],I.hok.fresh (le_refl _),fun ws hw=>by rw[I.list_inj hw hq];exact hvk,ec,rfl,rfl⟩,⟨z1,?_,⟨_,_,sb.extBut _ _ D.TOz q2⟩,?_,?_⟩,fun b hb=>?_⟩
  ·refine(V5 (s:=s) (h':=h'') (t':=tk) (xs:=[.str ⟨#[c]⟩,vs[k]]) (ch:=[z,TI,TO,i1,i2]) I (fun b o hb e=>?_) hf (le_refl _) ⟨_,sb.extBut _ _ np q5,rfl,_,rfl⟩ (.cons ⟨tc,rfl⟩ (.cons rw' .nil)) (by show 2≤sizeLine;decide):Inv X pins σ _ { s with heap:=h'',toks:=tk })
   simp at hb
   exact sb.extBut _ _ hb.1 (q7 b o hb.1 hb.2.2.1 hb.2.2.2.1 hb.2.2.2.2 e)
  ·exact sb.extBut _ _ D.TIz (q7 _ _ D.TIz D.TITO D.TIi1 D.TIi2 h2)
  ·obtain⟨o,e,r⟩:=q3
   exact⟨o,sb.extBut _ _ D.i1z e,r⟩
  ·obtain⟨o,e,r⟩:=q4
   exact⟨o,sb.extBut _ _ D.i2z e,r⟩
  ·have lt:b<s.heap.objs.size:=by
    simp at hb
    rcases hb with rfl|rfl|rfl|rfl|rfl
    ·exact Heap.lt_size h1
    ·exact Heap.lt_size h2
    ·exact Heap.lt_size h3
    ·exact Heap.lt_size e4
    ·exact Heap.lt_size e5
   rw[zB (ne_of_lt lt)]
   exact(hf b hb).1
 done:=by
  intro X hP hw hK hc k pins s σ H E I hf ⟨h1,h2,⟨a,b,h3⟩,h4,h5⟩ hg
  subst hP hw hK
  obtain⟨vs,hq,hend⟩:=hg
  obtain⟨its,rv,p,hz⟩:=I.list hq
  have hh:X.A.in1.handled=none:=I.ok.hd hc
  have hlen:=rv.length
  obtain⟨o4,e4,c4,d4⟩:=id h4
  have n1:∀b o,s.heap.get? b=some o→o.cls=.type "list" → b≠i1:=fun b o e c=>v5 e4 c4 (by rcases hty with rfl|rfl <;> decide) e c
  refine US D (Drw.str hh i1 x t ty hty) (Drw.list hh i2 l its.toArray) (by simpa[← hlen] using hend) h1 h2 h3 h4 h5 trivial p.isList n1 fun h' tk hk=>⟨rfl,XD (ch:=[z,TI,TO,i1,i2]) I (fun b o hb e=>?_) hf fun b hb=>(hf b hb).1⟩
  simp at hb
  exact hk b o hb.1 hb.2.2.1 hb.2.2.2.1 hb.2.2.2.2 e
 self:=fun _ _ _ _ _ ⟨h1,_⟩ h=>wpAny_pyIter_zip h1 h
def ym(c:Nat):D:=.str ⟨#[c]⟩
def ZS(x:Str):List D:=x.cps.toList.map ym
def Its(x:Str):It:=⟨fun i _=>i<x.cps.size,fun i H y H'=>H'=H∧∃c,x.cps[i]?=some c∧y=.str ⟨#[c]⟩,fun i _=>x.cps.size≤i⟩
theorem JZ{P:Program}{w:World}{K:PySem.W.Frag}{tg:Expr}{it:Addr}{x:Str}{t:Tok}{ty:String}(hty:ty = "str_ascii_iterator" ∨ ty = "str_iterator"):YY P w K tg (Its x) [it] it (fun k h=>h.IsStrIter it ty x t k) where
 mem:=by simp
 obj:=fun i h ⟨o,e,c,d⟩ b hb=>by
  have z:b=it:=by simpa using hb
  subst z
  exact⟨o,e,fun v z=>by rw[d] at z;cases z⟩
 keep:=fun i h h' ⟨o,e,r⟩ k=>⟨o,k it (by simp) o e,r⟩
 item:=by
  intro X hP hw hK hc i pins s σ H E I hf st hg
  subst hP hw hK
  obtain⟨f0,f1,f2,f3,f4,f5⟩:=hf it (by simp)
  have hh:X.A.handled=none:=I.ok.hd hc
  have W:Walks X.prog X.w X.A it [it] [it] x.cps.size (SignAt x) (fun i h=>h.IsStrIter it ty x t i):=by
   rcases hty with rfl|rfl
   ·exact Walks.strAscii hh it x t
   ·exact Walks.strWide hh it x t
  refine W.item i s _ _ hg st fun v h' tk hv st' kk=>?_
  obtain⟨c,u,ec,rfl⟩:=hv
  have I1:Inv X pins σ H { s with heap:=h',toks:=tk }:=I.turned (fun b o hb e=>kk b o (by simpa using hb) e) f0 f1 f3 f4 f5
  obtain⟨o,e,cc,d⟩:=id st'
  exact⟨_,rfl,WX (s:={ s with heap:=h',toks:=tk }) e cc d (by rcases hty with rfl|rfl <;> decide) ⟨.str ⟨#[c]⟩,H,I1,⟨u,rfl⟩,⟨rfl,c,ec,rfl⟩,st',fun b hb=>(hf b hb).1⟩⟩
 done:=by
  intro X hP hw hK hc i pins s σ H E I hf st hg
  subst hP hw hK
  obtain⟨f0,f1,f2,f3,f4,f5⟩:=hf it (by simp)
  have hh:X.A.handled=none:=I.ok.hd hc
  have hx:x.cps[i]?=none:=by have:x.cps.size≤i:=hg;simp;omega
  rcases hty with rfl|rfl
  ·exact wpAny_pyNext_ascii_end hh st hx fun h' eb=>⟨rfl,I.turned (t':=s.toks) (fun b o hb e=>eb b o hb e) f0 f1 f3 f4 f5⟩
  ·exact wpAny_pyNext_wide_end hh st hx fun h' eb=>⟨rfl,I.turned (t':=s.toks) (fun b o hb e=>eb b o hb e) f0 f1 f3 f4 f5⟩
 self:=fun _ _ _ _ _ st h=>by
  rcases hty with rfl|rfl
  ·exact wpAny_pyIter_striter_ascii st h
  ·exact wpAny_pyIter_striter_wide st h
section
variable{X:Cx}{pos:Pos}{e tg:Expr}{es:List Expr}{fe:FE}{fs:FA}
theorem za4{K:PySem.W.Frag}{F1:Hp}{x:Str}:Vg K (Its x) F1 (ZS x):=fun i F H f1 f2=>by
 have hl:(ZS x).length=x.cps.size:=by simp[ZS]
 refine⟨fun h=>by rw[hl] at h;exact h,fun d hd=>?_⟩
 have hi:i<x.cps.size:=by have:=(List.getElem?_eq_some_iff.mp hd).1;rw[hl] at this;exact this
 refine⟨hi,fun y H' yy=>?_⟩
 obtain⟨e1,c,ec,rfl⟩:=yy
 subst e1
 refine⟨F,Ext.refl f2,?_⟩
 have:d=ym c:=by
  simp only[ZS,getElem?_map] at hd
  have e2:x.cps.toList[i]?=some c:=by simpa using ec
  rw[e2] at hd
  exact(Option.some.inj hd).symm
 subst this
 simp only[ym,Rep]
def Itd(hi:Int)(n:Nat):It:=⟨fun i _=>i<n,fun i H x H'=>H'=H∧x=.int (hi-i),fun i _=>n≤i⟩
theorem Wk{P:Program}{w:World}{K:PySem.W.Frag}{tg:Expr}(it:Addr)(hi:Int)(n:Nat):YY P w K tg (Itd hi n) [it] it (fun i h=>IsRangeIter h it (hi+(i:Nat)*(-1)) ((n:Int)-(i:Nat)) (-1)) where
 mem:=by simp
 obj:=fun i h st b hb=>by
  have e:b=it:=by simpa using hb
  subst e
  exact⟨_,st,fun v z=>by
   have z':Data.fields _=Data.cell v:=z
   cases z'⟩
 keep:=fun i h h' st k=>k it (by simp) _ st
 item:=by
  intro X hP hw hK hc i pins s σ H E I hf st hg
  subst hP hw hK
  obtain⟨f0,f1,f2,f3,f4,f5⟩:=hf it (by simp)
  have W:=Walks.range (prog:=X.prog) (w:=X.w) (I.ok.hd hc) it hi (-1) n
  refine W.item i s _ _ hg st fun v h' tk hv st' kk=>?_
  obtain⟨t,rfl⟩:=hv
  have I1:Inv X pins σ H { s with heap:=h',toks:=tk }:=I.turned (fun b o hb e=>kk b o (by simpa using hb) e) f0 f1 f3 f4 f5
  refine⟨_,rfl,WX (s:={ s with heap:=h',toks:=tk }) (n := "range_iterator") st' rfl rfl (by decide) ⟨.int (hi-i),H,I1,⟨t,?_⟩,⟨rfl,rfl⟩,st',fun b hb=>(hf b hb).1⟩⟩
  congr 1
  omega
 done:=by
  intro X hP hw hK hc i pins s σ H E I hf st hg
  subst hP hw hK
  obtain⟨f0,f1,f2,f3,f4,f5⟩:=hf it (by simp)
  exact wpAny_pyNext_range_end (I.ok.hd hc) st (by have:n≤i:=hg;omega) fun h' eb=>⟨rfl,I.turned (t':=s.toks) (fun b o hb e=>eb b o hb e) f0 f1 f3 f4 f5⟩
 self:=fun _ _ _ _ _ st h=>wpAny_pyIter_rangeiter st h
end
section
variable{X:Cx}{pos:Pos}{e tg:Expr}{es:List Expr}{fe:FE}{fs:FA}
def len1:D→Rs D
 |.lst ds=>.ok (.int ds.length)
 |.tup ds=>.ok (.int ds.length)
 |.scr ns=>.ok (.int ns.length)
 |.str x=>if x.length≤sizeLine then .ok (.int x.length) else .no
 |_=>.no
def yv:List D→Rs D
 |[d]=>len1 d
 |_=>.no
theorem yN:YF X (.builtin "len") yv:=⟨_,call_len_seq.or Wb,fun F H vs ds Q fh r h=>by
 match ds,r,h with
 |[d],r,h=>
  obtain⟨v,rfl,q⟩:=r.one
  cases d with
  |lst ds=>
   simp only[Rep] at q;obtain⟨a,ws,rfl,e1,t⟩:=q
   refine .inl ⟨a,ws,rfl,.inl (SqL.of (fh _ _ e1)),?_⟩
   rw[← t.length];exact h _ F H (Ext.refl fh) (by simp only[Rep])
  |tup ds=>
   simp only[Rep] at q;obtain⟨a,ws,rfl,e1,t⟩:=q
   refine .inl ⟨a,ws,rfl,.inr (Same.seqT fh e1),?_⟩
   rw[← t.length];exact h _ F H (Ext.refl fh) (by simp only[Rep])
  |scr ns=>
   simp only[Rep] at q;obtain⟨a,rfl,e1⟩:=q
   refine .inl ⟨a,_,rfl,.inl (fh.seq e1),?_⟩
   rw[length_map];exact h _ F H (Ext.refl fh) (by simp only[Rep])
  |str x=>
   simp only[Rep] at q;subst q
   obtain⟨z,h⟩:=y8 h
   exact .inr ⟨x,rfl,z,h _ F H (Ext.refl fh) (by simp only[Rep])⟩
  |_=>exact h.elim
 |[],_,h=>exact h.elim
 |_::_::_,_,h=>exact(show False from h).elim⟩
def ul(ds:List D):Rs D:=match VL ds with
 | some (i,j)=>.ok (.int (if j<i then j else i))
 |none=>.no
def Z9(ds:List D):Rs D:=match VL ds with
 | some (i,j)=>.ok (.int (if j > i then j else i))
 |none=>.no
theorem ZO(hc:X.calm=true):YF X (.builtin "min") ul:=⟨_,JK hc,fun F H vs ds Q fh r h=>by
 unfold ul at h
 cases q:VL ds with
 |none=>rw[q] at h;exact h.elim
 |some ij=>
  obtain⟨i,j⟩:=ij
  rw[q] at h
  have e:=UC q
  subst e
  obtain⟨v,w,rfl,r1,r2⟩:=r.two
  simp only[Rep] at r1 r2;subst r1;subst r2
  exact⟨i,j,rfl,h _ F H (Ext.refl fh) (by simp only[Rep])⟩⟩
theorem Tx(hc:X.calm=true):YF X (.builtin "max") Z9:=⟨_,JL hc,fun F H vs ds Q fh r h=>by
 unfold Z9 at h
 cases q:VL ds with
 |none=>rw[q] at h;exact h.elim
 |some ij=>
  obtain⟨i,j⟩:=ij
  rw[q] at h
  have e:=UC q
  subst e
  obtain⟨v,w,rfl,r1,r2⟩:=r.two
  simp only[Rep] at r1 r2;subst r1;subst r2
  exact⟨i,j,rfl,h _ F H (Ext.refl fh) (by simp only[Rep])⟩⟩
theorem rangeSize_down(a b:Int):Builtin.Range.rangeSize a b (-1)=((a-b).toNat:Int):=by
 unfold Builtin.Range.rangeSize
 rw[if_neg (by decide)]
 by_cases h:a > b
 ·rw[if_pos h,show(- -1:Int)=1 from rfl,Int.ediv_one];omega
 ·rw[if_neg h];omega
theorem small_down{a b:Int}(ha : -(2 ^ 62)≤a)(ha':a<2 ^ 62)(hb : -(2 ^ 62)≤b)(hb':b<2 ^ 62):Builtin.Range.small a b (-1)=true:=by
 unfold Builtin.Range.small
 rw[rangeSize_down]
 simp only[Builtin.Range.rangeFitsLong,Bool.and_eq_true,Bool.or_eq_true,decide_eq_true_eq,beq_iff_eq,show ¬ (-1:Int) > 0 by decide,if_false]
 omega
def iRngD(ta:TA):TI:=fun σ H R=>ta σ H fun vs H1=>∃i j:Int,vs=[.int i,.int j,.int (-1)]∧(-(2 ^ 62)≤i∧i<2 ^ 62∧-(2 ^ 62)≤j∧j<2 ^ 62)∧R (Itd i (i-j).toNat) H1
theorem U9{a b c:Expr}{ta:TA}{p pos:Pos}(hg:Gl X "range")(hm:X.mg "range" = none)(ha:PA X [a,b,c] ta)(hs:starEach [a,b,c] X.env=[(false,eval a X.env),(false,eval b X.env),(false,eval c X.env)]:=by rfl)(hs2:starEach [b,c] X.env=[(false,eval b X.env),(false,eval c X.env)]:=by rfl) :
  PI X tg (.Call (.Name "range" p) [a,b,c] [] pos) (iRngD ta):=by
 intro pins s σ H R I h
 refine Call_ (ua I hg hm boot_range (PyProof.Rows.callWith_type1 (thn (ha pos pins s σ H _ I h) fun us s1 ⟨vs,H1,I1,r1,q1⟩=>?_) (by rw[hs,hs2]) (by rw[hs2];rfl)))
 obtain⟨i,j,e,⟨q1,q2,q3,q4⟩,q⟩:=q1
 subst e
 cases r1 with
 |cons r rr=>
  cases rr with
  |cons r' rr=>
   cases rr with
   |cons r'' rr=>
    cases rr
    obtain⟨t,rfl⟩:=r
    obtain⟨t',rfl⟩:=r'
    obtain⟨t'',rfl⟩:=r''
    refine call_range_3 (by decide) ?_ (.inl (PyProof.noPylong_small (by decide)))
    have I2:Inv X pins σ H1 { s1 with heap:=s1.heap.push { cls:=.type "range", data:=.fields #[.int i t,.int j t',.int (-1) t''] },toks:=s1.toks }:=I1.kept fun b o e=>Heap.get?_push_of_some _ e
    refine wpAny_pyIter_range (IsRange.new ..) (small_down q1 q2 q3 q4) ?_
    refine⟨(s1.heap.push { cls:=.type "range", data:=.fields #[.int i t,.int j t',.int (-1) t''] }).objs.size,[(s1.heap.push { cls:=.type "range", data:=.fields #[.int i t,.int j t',.int (-1) t''] }).objs.size],_,_,H1,rfl,
     I2.kept (t':=s1.toks) fun b o e=>Heap.get?_push_of_some _ e,Wk _ i (i-j).toNat,?_,fun b hb=>?_,q⟩
    ·have e1:i+((0:Nat):Int)*(-1)=i:=by simp
     have e2:(((i-j).toNat:Nat):Int)-((0:Nat):Int)=Builtin.Range.rangeSize i j (-1):=by rw[rangeSize_down];omega
     show IsRangeIter _ _ (i+((0:Nat):Int)*(-1)) ((((i-j).toNat:Nat):Int)-((0:Nat):Int)) (-1)
     rw[e1,e2]
     exact Heap.get?_push_size _ rfl
    ·have e:b=(s1.heap.push { cls:=.type "range", data:=.fields #[.int i t,.int j t',.int (-1) t''] }).objs.size:=by simpa using hb
     subst e
     exact I2.fpOk (le_refl _) (I2.hok.fresh (le_refl _))
def Ze(hi:Int)(n:Nat):List D:=(List.range n).map fun (k:Nat)=>D.int (hi-k)
theorem Ta{K:PySem.W.Frag}{F1:Hp}{lo:Int}{n:Nat}:Vg K (Itd lo n) F1 (Ze lo n):=fun i F H f1 f2=>by
 have hl:(Ze lo n).length=n:=by simp[Ze]
 refine⟨fun h=>by rw[hl] at h;exact h,fun d hd=>?_⟩
 have hi:i<n:=by have:=(List.getElem?_eq_some_iff.mp hd).1;rw[hl] at this;exact this
 refine⟨hi,fun x H' y=>?_⟩
 obtain⟨e1,y⟩:=y
 subst e1
 refine⟨F,Ext.refl f2,?_⟩
 simp[Ze,hi] at hd
 subst hd
 simp only[Rep];exact y
def WS:List D→Option (Int×Int)
 | [.int i,.int j,.int (-1)]=>some (i,j)
 |_=>none
theorem Gm{ds:List D}{i j:Int}(h:WS ds=some (i,j)):ds=[.int i,.int j,.int (-1)]:=by
 unfold WS at h;split at h <;> cases h;rfl
def JA(fs:FA):FA:=fun τ=>(fs τ).bind fun ds=>match WS ds with
 | some (i,j)=>if (-(2 ^ 62)≤i∧i<2 ^ 62)∧-(2 ^ 62)≤j∧j<2 ^ 62 then .ok (Ze i (i-j).toNat) else .no
 |none=>.no
theorem VB{a b c:Expr}{p:Pos}(hg:Gl X "range")(hm:X.mg "range" = none)(ha:PDA X [a,b,c] fs)(hs:starEach [a,b,c] X.env=[(false,eval a X.env),(false,eval b X.env),(false,eval c X.env)]:=by rfl)(hs2:starEach [b,c] X.env=[(false,eval b X.env),(false,eval c X.env)]:=by rfl) :
  PDI X tg (.Call (.Name "range" p) [a,b,c] [] pos) (JA fs):=
 PI.imp (U9 hg hm ha hs hs2) fun σ H R ⟨F,τ,Rv,h⟩=>tAs.of Rv h.bind fun ds vs F1 H1 g x R1 r=>by
  cases q1:WS ds with
  |none=>rw[q1] at g;exact g.elim
  |some ij=>
   obtain⟨i,j⟩:=ij
   rw[q1] at g
   have e:=Gm q1
   subst e
   simp only[Reps] at r
   obtain⟨v,r1,e1,q,w,r2,e2,q',u,r3,e3,q'',e4⟩:=r
   simp only[Rep] at q q' q'';subst q q' q'' e4 e3 e2 e1
   obtain⟨z,g⟩:=y8 g
   exact⟨i,j,rfl,⟨z.1.1,z.1.2,z.2.1,z.2.2⟩,g _ F1 H1 x Ta⟩
def MtD(X:Cx)(id:String)(g:D→List D→Rs D):Prop:=∃r,MtR X id r∧∀F H v vs d ds Q,Same F H→Rep X.K F d v→Reps X.K F ds vs→Ok X (g d ds) (Ev X.K F H Q)→r v vs H Q
def YX(T:String):D→Bool
 |.str _=>T = "str"
 |.int _=>T = "int"
 |.lst _=>T = "list"
 |.scr _=>T = "list"
 |_=>false
def VR(T:String)(g:D→List D→Rs D)(fo:FE):FE:=fun τ=>(fo τ).bind fun d=>if YX T d=true then g d [] else .no
theorem Lg{F H:Hp}{d:D}{v:V}{T:String}(fh:Same F H)(r:Rep X.K F d v)(h:YX T d=true):tyV X.K T v H:=by
 cases d with
 |str x=>simp only[Rep] at r;subst r;show T = "str"; simpa[YX] using h
 |int x=>simp only[Rep] at r;subst r;show T = "int"; simpa[YX] using h
 |lst ds=>simp only[Rep] at r;obtain⟨a,vs,rfl,e,t⟩:=r;exact .inl ⟨by simpa[YX] using h,vs,SqL.of (fh _ _ e)⟩
 |scr ds=>simp only[Rep] at r;obtain⟨a,rfl,e⟩:=r;exact .inl ⟨by simpa[YX] using h,_,fh.seq e⟩
 |_=>simp[YX] at h
theorem ok_if{X:Cx}{α:Type}{c:Prop}[Decidable c]{r:Rs α}{P:α→Prop}(h:Ok X (if c then r else .no) P):c∧Ok X r P:=by
 by_cases z:c
 ·rw[if_pos z] at h;exact⟨z,h⟩
 ·rw[if_neg z] at h;exact h.elim
theorem Uh{T id:String}{name:Str}{o:Expr}{apos cpos:Pos}{fo:FE}{g:D→List D→Rs D}(pa:PlainAttrs T)(slot:Slot T name id)(hty:typeOf (.builtin id)=pure (.type "method_descriptor"))(hm:MtD X id g)(ho:PDE X o fo)
  (hbase:attributeBase o name X.env (eval o X.env)=eval o X.env:=by rfl) (hline:(apos.endLine==cpos.line)=true:=by rfl):PDE X (.Call (.Attribute o name apos) [] [] cpos) (VR T g fo):=by
 obtain⟨r,h1,h2⟩:=hm
 exact PE.imp (LL pa slot hty h1 ho hbase hline) fun σ H Q ⟨Fz,τ,R,h⟩=>tE.of R h.bind fun d v F1 H1 q x R1 rr=>by
  obtain⟨z,q⟩:=ok_if q
  exact⟨Lg R1.fh rr z,h2 F1 H1 v [] d [] Q R1.fh rr Reps.nil (q.imp fun d e=>e.ext x)⟩
def upD:D→List D→Rs D
 |.str x,[]=>if x.length≤5000000 then .ok (.str (Txt.upper x)) else .no
 |_,_=>.no
def loD:D→List D→Rs D
 |.str x,[]=>if x.length≤5000000 then .ok (.str (Txt.lower x)) else .no
 |_,_=>.no
theorem mt_up:MtR X "str.upper" (fun v vs H Q=>∃x,v=.str x∧vs=[]∧x.length≤5000000∧Q (.str (Txt.upper x)) H):=by
 intro pins s σ H v vs u us Q I r rs h
 obtain⟨x,rfl,rfl,hx,q⟩:=h
 obtain⟨t,rfl⟩:=r
 cases rs
 exact SC.upper (fit_upper (by omega)) ⟨.str (Txt.upper x),H,I.tok _,⟨_,rfl⟩,q⟩
theorem mt_lo:MtR X "str.lower" (fun v vs H Q=>∃x,v=.str x∧vs=[]∧x.length≤5000000∧Q (.str (Txt.lower x)) H):=by
 intro pins s σ H v vs u us Q I r rs h
 obtain⟨x,rfl,rfl,hx,q⟩:=h
 obtain⟨t,rfl⟩:=r
 cases rs
 exact SC.lower (fit_lower (by omega)) ⟨.str (Txt.lower x),H,I.tok _,⟨_,rfl⟩,q⟩
theorem md_up:MtD X "str.upper" upD:=⟨_,mt_up,fun F H v vs d ds Q fh r rs h=>by
 cases d with
 |str x=>
  cases ds with
  |nil=>
   simp only[Rep] at r;subst r
   simp only[Reps] at rs;subst rs
   obtain⟨z,h⟩:=y8 h
   exact⟨x,rfl,rfl,z,h _ F H (Ext.refl fh) (by simp only[Rep])⟩
  |cons a b=>exact h.elim
 |_=>cases ds <;> exact h.elim⟩
theorem md_lo:MtD X "str.lower" loD:=⟨_,mt_lo,fun F H v vs d ds Q fh r rs h=>by
 cases d with
 |str x=>
  cases ds with
  |nil=>
   simp only[Rep] at r;subst r
   simp only[Reps] at rs;subst rs
   obtain⟨z,h⟩:=y8 h
   exact⟨x,rfl,rfl,z,h _ F H (Ext.refl fh) (by simp only[Rep])⟩
  |cons a b=>exact h.elim
 |_=>cases ds <;> exact h.elim⟩
theorem Jf{o:Expr}{apos cpos:Pos}{fo:FE}(ho:PDE X o fo)(hbase:attributeBase o "upper" X.env (eval o X.env)=eval o X.env:=by rfl)(hline:(apos.endLine==cpos.line)=true:=by rfl):PDE X (.Call (.Attribute o "upper" apos) [] [] cpos) (VR "str" upD fo):=
 Uh F.plainAttrs_str F.slot_str_upper F.type_str_upper md_up ho hbase hline
theorem Jh{o:Expr}{apos cpos:Pos}{fo:FE}(ho:PDE X o fo)(hbase:attributeBase o "lower" X.env (eval o X.env)=eval o X.env:=by rfl)(hline:(apos.endLine==cpos.line)=true:=by rfl):PDE X (.Call (.Attribute o "lower" apos) [] [] cpos) (VR "str" loD fo):=
 Uh F.plainAttrs_str F.slot_str_lower F.type_str_lower md_lo ho hbase hline
end
set_option maxHeartbeats 4000000 in
theorem YT(l2:Addr)(ys:Array Value)(x:Str)(t:Tok)(ty:String)(hc:ty=if x.cps.all (· < 128) then "str_ascii_iterator" else "str_iterator") :
  Meets (Builtin.«zip.__new__» ⟨[.type "zip", .str x t,.ref l2],[]⟩) (fun _ R s=>s.heap.IsList l2 ys ∧
   ∀h1 h2 h3 h4 h5,h1=s.heap.push { cls:=.type ty,data:=.fields #[.str x t,.int 0 0] }→h2=h1.push { cls:=.type "list_iterator", data:=.fields #[.ref l2,.int 0 0] }→h3=h2.push { cls:=.type "tuple", data:=.seq #[.ref s.heap.objs.size,.ref h1.objs.size] } →
    h4=h3.push { cls:=.type "tuple", data:=.seq #[.none,.none] }→h5=h4.push { cls:=.type "zip", data:=.fields #[.none,.bool false,.bool false,.ref h2.objs.size,.ref h3.objs.size] }→R (.ok (.ret (.ref h4.objs.size))) { s with heap:=h5 }):=
 .of_wp fun prog w A R s h=>by
  obtain⟨hp,g,d,tk,os⟩:=s;obtain⟨hl2,h⟩:=h
  have hsub:=sub_zip
  cases ha:x.cps.all (· < 128)
  ·rw[ha] at hc
   have hc:ty = "str_iterator" := by simpa using hc
   subst hc
   have hL2:Heap.IsList (Shared.heap ⟨hp.push { cls:=.type "str_iterator", data:=.fields #[.str x t,.int 0 0] },g,d,tk,os⟩) l2 ys:=Heap.IsList.push hl2 _
   wp_walk using wpAny_pyIter_wide ha,wpAny_pyIter_list hL2
   exact⟨_,rfl,h _ _ _ _ _ rfl rfl rfl rfl rfl⟩
  ·rw[ha] at hc
   have hc:ty = "str_ascii_iterator" := by simpa using hc
   subst hc
   have hL2:Heap.IsList (Shared.heap ⟨hp.push { cls:=.type "str_ascii_iterator", data:=.fields #[.str x t,.int 0 0] },g,d,tk,os⟩) l2 ys:=Heap.IsList.push hl2 _
   wp_walk using wpAny_pyIter_ascii ha,wpAny_pyIter_list hL2
   exact⟨_,rfl,h _ _ _ _ _ rfl rfl rfl rfl rfl⟩
section
variable{X:Cx}{pos:Pos}{e tg:Expr}{es:List Expr}{fe:FE}{fs:FA}
def jG(d:D)(T:String):Rs Bool:=match d with
 |.raw _=>.no
 |.exc _=>.no
 |d=>if T = "str" then .ok (match d with | .str _=>true|_=>false)
  else if T = "int" then .ok (match d with | .int _=>true | .bl _=>true|_=>false)
  else if T = "bool" then .ok (match d with | .bl _=>true|_=>false)
  else if T = "list" then .ok (match d with | .lst _=>true | .scr _=>true|_=>false)
  else if T = "tuple" then .ok (match d with | .tup _=>true|_=>false)
  else .no
def V4:List D→Option (D×String)
 | [d,.raw (.ty T)]=>some (d,T)
 |_=>none
theorem JX{ds:List D}{d:D}{T:String}(h:V4 ds=some (d,T)):ds=[d,.raw (.ty T)]:=by
 unfold V4 at h;split at h <;> cases h;rfl
def WO(ds:List D):Rs D:=match V4 ds with
 | some (d,T)=>(jG d T).bind fun b=>.ok (.bl b)
 |none=>.no
theorem GM:CallR X (.builtin "isinstance") (fun vs H Q=>∃F d v T b,Same F H∧Rep X.K F d v∧vs=[v,.ty T]∧jG d T=.ok b∧Q (.bl b) H):=by
 intro pins s σ H vs us Q I r h
 obtain⟨F,d,v,T,b,fh,rd,rfl,hb,q⟩:=h
 obtain⟨u,w,rfl,r1,r2⟩:=vals2 r
 cases r2
 have fin:∀{b':Bool},b=b'→EP X pins σ Q (.bool b') s:=fun e=>by subst e;exact⟨.bl _,H,I,rfl,q⟩
 have fin':∀{b':Bool},b=b'→EP X pins σ Q (.bool b') { s with toks:=s.toks+1 }:=fun e=>by subst e;exact⟨.bl _,H,I.tok _,rfl,q⟩
 have hT:T = "str" ∨ T = "int" ∨ T = "bool" ∨ T = "list" ∨ T = "tuple" := by
  by_cases h1:T = "str"; exact .inl h1
  by_cases h2:T = "int"; exact .inr (.inl h2)
  by_cases h3:T = "bool"; exact .inr (.inr (.inl h3))
  by_cases h4:T = "list"; exact .inr (.inr (.inr (.inl h4)))
  by_cases h5:T = "tuple"; exact .inr (.inr (.inr (.inr h5)))
  exfalso
  unfold jG at hb
  cases d <;> simp[h1,h2,h3,h4,h5] at hb
 cases d with
 |raw _=>simp[jG] at hb
 |exc _=>simp[jG] at hb
 |non=>
  simp only[Rep] at rd;subst rd;cases r1
  rcases hT with rfl|rfl|rfl|rfl|rfl <;> simp[jG] at hb <;> first
   | exact IsiPair.NoneType_str (fin' hb) | exact IsiPair.NoneType_int (fin' hb) | exact IsiPair.NoneType_bool (fin' hb) | exact IsiPair.NoneType_list (fin' hb) | exact IsiPair.NoneType_tuple (fin' hb)
 |bl k=>
  simp only[Rep] at rd;subst rd;cases r1
  rcases hT with rfl|rfl|rfl|rfl|rfl <;> simp[jG] at hb <;> first
   | exact IsiPair.bool_str (fin' hb) | exact IsiPair.bool_int (fin hb) | exact IsiPair.bool_bool (fin hb) | exact IsiPair.bool_list (fin' hb) | exact IsiPair.bool_tuple (fin' hb)
 |int k=>
  simp only[Rep] at rd;subst rd;obtain⟨t,rfl⟩:=r1
  rcases hT with rfl|rfl|rfl|rfl|rfl <;> simp[jG] at hb <;> first
   | exact IsiPair.int_str (fin' hb) | exact IsiPair.int_int (fin hb) | exact IsiPair.int_bool (fin' hb) | exact IsiPair.int_list (fin' hb) | exact IsiPair.int_tuple (fin' hb)
 |str k=>
  simp only[Rep] at rd;subst rd;obtain⟨t,rfl⟩:=r1
  rcases hT with rfl|rfl|rfl|rfl|rfl <;> simp[jG] at hb <;> first
   | exact IsiPair.str_str (fin hb) | exact IsiPair.str_int (fin' hb) | exact IsiPair.str_bool (fin' hb) | exact IsiPair.str_list (fin' hb) | exact IsiPair.str_tuple (fin' hb)
 |lst k=>
  simp only[Rep] at rd;obtain⟨a,ws,rfl,e,t⟩:=rd;cases r1
  obtain⟨its,rr,⟨o,n,eo,c,_,_⟩,_⟩:=I.list (SqL.of (K:=X.K) (fh _ _ e))
  rcases hT with rfl|rfl|rfl|rfl|rfl <;> simp[jG] at hb <;> first
   | exact IsiPair.list_str eo c (fin' hb) | exact IsiPair.list_int eo c (fin' hb) | exact IsiPair.list_bool eo c (fin' hb) | exact IsiPair.list_list eo c (fin hb) | exact IsiPair.list_tuple eo c (fin' hb)
 |scr k=>
  simp only[Rep] at rd;obtain⟨a,rfl,e⟩:=rd;cases r1
  obtain⟨its,rr,⟨o,n,eo,c,_,_⟩,_⟩:=I.list (fh.seq e)
  rcases hT with rfl|rfl|rfl|rfl|rfl <;> simp[jG] at hb <;> first
   | exact IsiPair.list_str eo c (fin' hb) | exact IsiPair.list_int eo c (fin' hb) | exact IsiPair.list_bool eo c (fin' hb) | exact IsiPair.list_list eo c (fin hb) | exact IsiPair.list_tuple eo c (fin' hb)
 |tup k=>
  simp only[Rep] at rd;obtain⟨a,ws,rfl,e,t⟩:=rd;cases r1
  obtain⟨its,rr,⟨o,eo,c,_,_⟩,_⟩:=I.tuple (Same.seqT fh e)
  rcases hT with rfl|rfl|rfl|rfl|rfl <;> simp[jG] at hb <;> first
   | exact IsiPair.tuple_str eo c (fin' hb) | exact IsiPair.tuple_int eo c (fin' hb) | exact IsiPair.tuple_bool eo c (fin' hb) | exact IsiPair.tuple_list eo c (fin' hb) | exact IsiPair.tuple_tuple eo c (fin hb)
theorem VT:YF X (.builtin "isinstance") WO:=⟨_,GM,fun F H vs ds Q fh r h=>by
 unfold WO at h
 cases q:V4 ds with
 |none=>rw[q] at h;exact h.elim
 |some dT=>
  obtain⟨d,T⟩:=dT
  rw[q] at h
  have e:=JX q
  subst e
  obtain⟨v,w,rfl,r1,r2⟩:=r.two
  simp only[Rep] at r2;subst r2
  simp only at h
  cases q2:jG d T with
  |no=>rw[q2] at h;exact h.elim
  |ex c=>exfalso;unfold jG at q2;cases d <;> simp at q2 <;> (repeat (first | (split at q2) | cases q2))
  |ok b=>rw[q2] at h;exact⟨F,d,v,T,b,fh,r1,rfl,q2,h _ F H (Ext.refl fh) (by simp only[Rep])⟩⟩
def xT:List D→Option (List Bool)
 |[]=>some []
 |.bl b::r=>(xT r).map (b :: ·)
 |_=>none
def TN(ds:List D):Rs D:=match ds with
 |[.lst xs]=>match xT xs with
  |some bs=>.ok (.bl (bs.all id))
  |none=>.no
 |_=>.no
def TK(ds:List D):Rs D:=match ds with
 |[.lst xs]=>match xT xs with
  |some bs=>.ok (.bl (bs.any id))
  |none=>.no
 |_=>.no
theorem jq{K:PySem.W.Frag}{F:Hp}:∀{ds:List D} {bs:List Bool} {vs:List V} {us:List Value},xT ds=some bs→Reps K F ds vs→Vals vs us→us=bs.map Value.bool
 |[],bs,vs,us,h,r,rv=>by simp only[Reps] at r;subst r;cases rv;cases h;rfl
 |.bl x::ds,ys,vs,us,h,r,rv=>by
  simp only[Reps,Rep] at r
  obtain⟨v,r',rfl,rfl,t⟩:=r
  simp only[xT] at h
  cases q:xT ds with
  |none=>rw[q] at h;cases h
  |some zs=>
   rw[q] at h;cases h
   cases rv with
   |cons r1 r2=>
    cases r1
    rw[jq q t r2];rfl
 |.non::_,_,_,_,h,_,_=>by cases h
 |.str _::_,_,_,_,h,_,_=>by cases h
 |.int _::_,_,_,_,h,_,_=>by cases h
 |.lst _::_,_,_,_,h,_,_=>by cases h
 |.tup _::_,_,_,_,h,_,_=>by cases h
 |.scr _::_,_,_,_,h,_,_=>by cases h
 |.raw _::_,_,_,_,h,_,_=>by cases h
 |.exc _::_,_,_,_,h,_,_=>by cases h
theorem YM(bs:List Bool):(List.range bs.length).all (fun i=>bs.getD i false)=bs.all id:=by
 rw[Bool.eq_iff_iff,all_eq_true,all_eq_true]
 constructor
 ·intro h x hx
  obtain⟨i,hi,rfl⟩:=List.mem_iff_getElem.mp hx
  have:=h i (mem_range.mpr hi)
  simpa[getD_eq_getElem?_getD,hi] using this
 ·intro h i hi
  have hi:=mem_range.mp hi
  have:=h bs[i] (getElem_mem hi)
  simpa[getD_eq_getElem?_getD,hi] using this
theorem JN(hc:X.calm=true):CallR X (.builtin "all") (fun vs H Q=>∃a ws F ds bs,vs=[.ref a]∧H a=some (.lst ws)∧Reps X.K F ds ws∧xT ds=some bs∧Q (.bl (bs.all id)) H):=by
 intro pins s σ H vs us Q I r h
 obtain⟨a,ws,F,ds,bs,rfl,e,t,hb,q⟩:=h
 obtain⟨u,rfl,r1⟩:=vals1 r
 cases r1
 obtain⟨its,rr,p,_⟩:=I.list (SqL.of (K:=X.K) e)
 have ei:=jq hb t rr
 subst ei
 have hh:X.A.in1.handled=none:=I.ok.hd hc
 have hlt:a<s.heap.objs.size:=I.hok.lt e
 refine call_all_walk (wpAny_pyIter_list p.isList ⟨s.heap.objs.size,_,_,_,_,_,fun i=>bs.getD i false,rfl,Walks.list hh s.heap.objs.size a (ne_of_lt hlt) (bs.map Value.bool).toArray,⟨⟨_,Heap.get?_push_size _ rfl,rfl,rfl⟩,p.isList.push _⟩,fun i v s' Q' E' hP hQ=>?_,fun h' tk hk=>?_⟩)
 ·have hP:(bs.map Value.bool)[i]?=some v:=by simpa using hP
  rw[getElem?_map] at hP
  cases z:bs[i]? with
  |none=>rw[z] at hP;cases hP
  |some b=>
   rw[z] at hP
   cases hP
   exact wpAny_truthy_bool (by simpa[getD_eq_getElem?_getD,z] using hQ)
 ·have en:(bs.map Value.bool).toArray.size=bs.length:=by simp
  rw[en,YM]
  have I1:Inv X pins σ H { s with heap:=s.heap.push { cls:=.type "list_iterator", data:=.fields #[.ref a,.int 0 0] } }:=I.kept (t':=s.toks) fun b o e=>Heap.get?_push_of_some _ e
  have fk:=I.fpOk (H':=H) (le_refl s.heap.objs.size) (I.hok.fresh (le_refl _))
  refine⟨.bl (bs.all id),H,XD (s:={ s with heap:=s.heap.push { cls:=.type "list_iterator", data:=.fields #[.ref a,.int 0 0] } }) (ch:=[s.heap.objs.size]) I1 (fun b o hb e=>hk b o hb e) (fun b hb=>?_) (fun b hb=>?_),rfl,q⟩
  ·have z:b=s.heap.objs.size:=by simpa using hb
   subst z;exact fk
  ·have z:b=s.heap.objs.size:=by simpa using hb
   subst z;exact fk.1
theorem zc1(hc:X.calm=true):YF X (.builtin "all") TN:=⟨_,JN hc,fun F H vs ds Q fh r h=>by
 cases ds with
 |nil=>exact h.elim
 |cons d r2=>
  cases r2 with
  |cons a b=>cases d <;> exact h.elim
  |nil=>
   cases d with
   |lst xs=>
    obtain⟨v,rfl,q⟩:=r.one
    simp only[Rep] at q;obtain⟨a,ws,rfl,e,t⟩:=q
    simp only[TN] at h
    cases z:xT xs with
    |none=>rw[z] at h;exact h.elim
    |some bs=>rw[z] at h;exact⟨a,ws,F,xs,bs,rfl,fh _ _ e,t,z,h _ F H (Ext.refl fh) (by simp only[Rep])⟩
   |_=>exact h.elim⟩
end
section
variable{X:Cx}{pos:Pos}{e tg:Expr}{es:List Expr}{fe:FE}{fs:FA}
def rSlS:V→Option Int→Option Int→Hp→VK→Prop:=fun x lo hi H Q=>∃z,x=.str z∧z.length≤sizeLine∧Q (.str (Txt.slice z lo hi)) H
theorem sl_str:SlR X rSlS:=by
 intro pins s σ H x v vl vu lo hi sl Q I rx hs pl pu h
 obtain⟨z,rfl,hz,q⟩:=h
 obtain⟨t,rfl⟩:=rx
 refine⟨"str", _,F.slot_str_getitem.lookup,typeIs_str _ _ _,?_⟩
 obtain⟨o,e,c,d⟩:=hs
 have fin:∀t' k,EP X pins σ Q (.str (Txt.slice z lo hi) t') { s with toks:=k }:=fun t' k=>⟨.str _,H,I.tok _,⟨_,rfl⟩,q⟩
 have hl:=le_trans (Txt.slice_le z lo hi) hz
 cases pl with
 |none=>
  cases pu with
  |none=>exact wpAny_getItem_str_slice (l:=none) (u:=none) (st:=none) ⟨o,e,c,d⟩ rfl (post_val_or_str ⟨hl,fin⟩)
  |int j uj=>exact wpAny_getItem_str_slice (l:=none) (u:=some (j,uj)) (st:=none) ⟨o,e,c,d⟩ rfl (post_val_or_str ⟨hl,fin⟩)
 |int i ui=>
  cases pu with
  |none=>exact wpAny_getItem_str_slice (l:=some (i,ui)) (u:=none) (st:=none) ⟨o,e,c,d⟩ rfl (post_val_or_str ⟨hl,fin⟩)
  |int j uj=>exact wpAny_getItem_str_slice (l:=some (i,ui)) (u:=some (j,uj)) (st:=none) ⟨o,e,c,d⟩ rfl (post_val_or_str ⟨hl,fin⟩)
def cutD(xs:List D)(lo hi:Option Int):List D:=(xs.drop (HT.sIx xs.length 0 lo)).take (HT.sIx xs.length xs.length hi-HT.sIx xs.length 0 lo)
def slD(d:D)(lo hi:Option Int):Rs D:=match d with
 |.str x=>if x.length≤sizeLine then .ok (.str (Txt.slice x lo hi)) else .no
 |.lst ds=>.ok (.lst (cutD ds lo hi))
 |_=>.no
abbrev FO:=DS→Rs (Option Int)
def uk:FO:=fun _=>.ok none
def wm(fe:FE):FO:=fun τ=>(fe τ).bind fun d=>match d with
 |.int i=>.ok (some i)
 |_=>.no
def tOs(X:Cx)(f:FO):TO:=fun σ H Q=>∃F τ,RV X.K F τ σ H∧Ok X (f τ) fun o=>∀F' H',Ext F H F' H'→Q o H'
def PDO(X:Cx)(e:Option Expr)(f:FO):Prop:=PO X e (tOs X f)
theorem PO.imp{e:Option Expr}{t t':TO}(h:PO X e t)(f:∀σ H Q,t' σ H Q→t σ H Q):PO X e t':=fun pins s σ H Q I q=>h pins s σ H Q I (f _ _ _ q)
theorem uw:PDO X none uk:=PO.imp Mx fun σ H Q ⟨F,τ,R,h⟩=>h F H (Ext.refl R.fh)
theorem vj(h:PDE X e fe):PDO X (some e) (wm fe):=PO.imp (Mw h) fun σ H Q ⟨F,τ,R,h⟩=>tE.of R h.bind fun d v F1 H1 g x R1 r=>by
 cases d with
 |int i=>simp only[Rep] at r;exact⟨i,r,g F1 H1 x⟩
 |_=>exact g.elim
def eSl(fe:FE)(fl fh:FO):FE:=fun τ=>(fe τ).bind fun d=>(fl τ).bind fun l=>(fh τ).bind fun u=>slD d l u
theorem jY{lo hi:Option Expr}{fl fh:FO}{p2:Pos}(he:PDE X e fe)(hl:PDO X lo fl)(hu:PDO X hi fh):PDE X (.Subscript e (.Slice lo hi none p2) pos) (eSl fe fl fh):=
 PE.imp (Qy (sl_str.or Me) he hl hu) fun σ H Q ⟨F,τ,R,h⟩=>tE.of R h.bind fun d v F1 H1 g x R1 r=>by
  refine⟨F1,τ,R1,g.bind.imp fun l gl F2 H2 x2=>⟨F2,τ,R1.ext x2,gl.bind.imp fun u gu F3 H3 x3=>?_⟩⟩
  have f3:=x3.fh
  have x13:=x.trans (x2.trans x3)
  cases d with
  |str z=>
   simp only[Rep] at r
   obtain⟨zz,gu⟩:=y8 gu
   exact .inl ⟨z,r,zz,gu _ F3 H3 x13 (by simp only[Rep])⟩
  |lst ds=>
   simp only[Rep] at r;obtain⟨a,vs,rfl,e1,t⟩:=r
   have gu:Ev X.K F H Q (.lst (cutD ds l u)):=gu
   refine .inr ⟨a,vs,rfl,SqL.of (f3 _ _ (x3.ff _ _ (x2.ff _ _ e1))),fun p hp=>gu _ _ _ (x13.trans (Ext.new f3 hp)) ?_⟩
   simp only[Rep]
   refine⟨p,_,rfl,zG,?_⟩
   have t3:Reps X.K F3 (cutD ds l u) (JH vs l u):=by
    unfold cutD JH
    rw[← t.length]
    exact((t.mono (x2.ff.trans x3.ff)).drop _).take _
   exact t3.mono (yD (yi f3 hp))
  |_=>exact gu.elim
def iZipT(K:PySem.W.Frag)(ta:TA):TI:=fun σ H R=>ta σ H fun vs H1=>∃x l ws,vs=[.str x,.ref l]∧SqL K H1 l ws∧R (Itz K x l) H1
theorem LA{a b:Expr}{ta:TA}{p:Pos}{elts:List Expr}{x1}{tpos:Pos}(hg:Gl X "zip")(hm:X.mg "zip" = none)(ha:PA X [a,b] ta)(hs:starEach [a,b] X.env=[(false,eval a X.env),(false,eval b X.env)]:=by rfl)(hs2:starEach [b] X.env=[(false,eval b X.env)]:=by rfl) :
  PI X (.Tuple elts x1 tpos) (.Call (.Name "zip" p) [a,b] [] pos) (iZipT X.K ta):=by
 intro pins s σ H R I h
 refine Call_ (ua I hg hm boot_zip (PyProof.Rows.callWith_type1 (thn (ha pos pins s σ H _ I h) fun us s1 ⟨vs,H1,I1,r1,q1⟩=>?_) (by rw[hs,hs2]) (by rw[hs2];rfl)))
 obtain⟨x,l,ws,e,hq,q⟩:=q1
 subst e
 obtain⟨u1,u2,rfl,⟨t,rfl⟩,ru⟩:=vals2 r1
 cases ru
 obtain⟨its,rr,pp,hz⟩:=I1.list hq
 refine callType_new F.called_zip (by decide) (F.typeCall_zip_2 _ _) (F.newCall_zip_2 _ _) (fun obj=>F.args_object_init_3 obj _ _) F.entry_zip_new (YT l its.toArray x t _ rfl) ⟨pp.isList,?_⟩
 intro h1 h2 h3 h4 h5 e1 e2 e3 e4 e5
 have z1:h1.objs.size=s1.heap.objs.size+1:=by rw[e1];exact Heap.size_push ..
 have z2:h2.objs.size=s1.heap.objs.size+2:=by rw[e2,Heap.size_push,z1]
 have z3:h3.objs.size=s1.heap.objs.size+3:=by rw[e3,Heap.size_push,z2]
 have z4:h4.objs.size=s1.heap.objs.size+4:=by rw[e4,Heap.size_push,z3]
 have p1:∀b o,s1.heap.get? b=some o→h1.get? b=some o:=fun b o e=>by rw[e1];exact Heap.get?_push_of_some _ e
 have p2:∀b o,h1.get? b=some o→h2.get? b=some o:=fun b o e=>by rw[e2];exact Heap.get?_push_of_some _ e
 have p3:∀b o,h2.get? b=some o→h3.get? b=some o:=fun b o e=>by rw[e3];exact Heap.get?_push_of_some _ e
 have p4:∀b o,h3.get? b=some o→h4.get? b=some o:=fun b o e=>by rw[e4];exact Heap.get?_push_of_some _ e
 have p5:∀b o,h4.get? b=some o→h5.get? b=some o:=fun b o e=>by rw[e5];exact Heap.get?_push_of_some _ e
 have g5:IsZip h5 h4.objs.size h2.objs.size h3.objs.size .none:=by rw[e5];exact Heap.get?_push_size _ rfl
 have g4:IsPair h5 h3.objs.size .none .none:=p5 _ _ (by rw[e4];exact Heap.get?_push_size _ rfl)
 have g3:IsPair h5 h2.objs.size (.ref s1.heap.objs.size) (.ref h1.objs.size):=p5 _ _ (p4 _ _ (by rw[e3];exact Heap.get?_push_size _ rfl))
 have g2:h5.IsListIter h1.objs.size l 0:=⟨_,p5 _ _ (p4 _ _ (p3 _ _ (by rw[e2];exact Heap.get?_push_size _ rfl))),rfl,rfl⟩
 have g1:h5.IsStrIter s1.heap.objs.size (if x.cps.all (· < 128) then "str_ascii_iterator" else "str_iterator") x t 0:=⟨_,p5 _ _ (p4 _ _ (p3 _ _ (p2 _ _ (by rw[e1];exact Heap.get?_push_size _ rfl)))),rfl,rfl⟩
 have keep:∀b o,s1.heap.get? b=some o→h5.get? b=some o:=fun b o e=>p5 _ _ (p4 _ _ (p3 _ _ (p2 _ _ (p1 _ _ e))))
 have I5:Inv X pins σ H1 { s1 with heap:=h5 }:=I1.kept (t':=s1.toks) keep
 refine⟨⟨_,g5,rfl⟩,wpAny_pyIter_zip (s:={ s1 with heap:=h5 }) g5 ?_⟩
 refine⟨h4.objs.size,[h4.objs.size,h2.objs.size,h3.objs.size,s1.heap.objs.size,h1.objs.size],_,_,H1,rfl,I5,JY (ty:=if x.cps.all (· < 128) then "str_ascii_iterator" else "str_iterator") ⟨?_,?_,?_,?_,?_,?_,?_,?_,?_,?_⟩ (by split <;> simp),⟨g5,g3,⟨_,_,g4⟩,g1,g2⟩,fun b hb=>?_,q⟩
 all_goals try (show(_:Nat)≠_;omega)
 have hb':s1.heap.objs.size≤b:=by
  simp at hb
  rcases hb with rfl|rfl|rfl|rfl|rfl <;> (show s1.heap.objs.size≤(_:Nat);omega)
 obtain⟨f0,f1,f2,f3,f4,f5⟩:=I1.fpOk (H':=H1) hb' (I1.hok.fresh hb')
 exact⟨f0,f1,f2,f3,f4,f5⟩
def xa:List Nat→List D→List D
 |c::cs,d::ds=>.tup [ym c,d]::xa cs ds
 |_,_=>[]
theorem jv:∀(cs:List Nat) (ds:List D),(xa cs ds).length=min cs.length ds.length
 |[],_=>by simp[xa]
 |_::_,[]=>by simp[xa]
 |c::cs,d::ds=>by simp only[xa,length_cons,jv cs ds];omega
theorem jw:∀{cs:List Nat} {ds:List D} {i:Nat} {p:D},(xa cs ds)[i]?=some p→∃c d,cs[i]?=some c∧ds[i]?=some d∧p=.tup [ym c,d]
 |[],_,_,_,h=>by simp[xa] at h
 |_::_,[],_,_,h=>by simp[xa] at h
 |c::cs,d::ds,0,p,h=>by simp[xa] at h;exact⟨c,d,rfl,rfl,h.symm⟩
 |c::cs,d::ds,i+1,p,h=>by
  obtain⟨c',d',h1,h2,h3⟩:=jw (i:=i) (by simpa[xa] using h)
  exact⟨c',d',by simpa using h1,by simpa using h2,h3⟩
theorem za2{K:PySem.W.Frag}{F1:Hp}{x:Str}{l:Addr}{ds:List D}{vs:List V}(e:SqL K F1 l vs)(r:Reps K F1 ds vs):Vg K (Itz K x l) F1 (xa x.cps.toList ds):=fun i F H f1 f2=>by
 have q:SqL K H l vs:=(f1.trans f2).seq e
 have hl:=jv x.cps.toList ds
 have hr:=r.length
 refine⟨fun h=>⟨vs,q,by rw[hl] at h;simp only[length_toList] at h;omega⟩,fun p hp=>?_⟩
 obtain⟨c,d,h1,h2,rfl⟩:=jw hp
 have l1:i<x.cps.size:=by have:=(List.getElem?_eq_some_iff.mp h1).1;simpa using this
 have l2:i<vs.length:=by have:=(List.getElem?_eq_some_iff.mp h2).1;omega
 refine⟨⟨vs,q,l1,l2⟩,fun y H' yy=>?_⟩
 obtain⟨pa,c',v,hp,q',e1,rfl,rfl⟩:=yy
 have e1:c=c':=by
  have:x.cps.toList[i]?=some c':=by simpa using e1
  rw[h1] at this;exact Option.some.inj this
 subst e1
 refine⟨upd F pa (.tup [.str ⟨#[c]⟩,v]),Ext.new f2 hp,?_⟩
 simp only[Rep]
 refine⟨pa,_,rfl,SqT.of zG,Reps.cons (by simp only[ym,Rep]) (Reps.cons ?_ Reps.nil)⟩
 obtain⟨v',hv',rv'⟩:=r.get h2
 have e3:=q' vs q
 rw[hv'] at e3;cases e3
 exact(rv'.mono f1).mono (yD (yi f2 hp))
def JS:List D→Option (Str×List D)
 |[.str x,.lst ds]=>some (x,ds)
 |_=>none
theorem G3{ds:List D}{x:Str}{xs:List D}(h:JS ds=some (x,xs)):ds=[.str x,.lst xs]:=by
 unfold JS at h;split at h <;> cases h;rfl
def iZp(fs:FA):FA:=fun τ=>(fs τ).bind fun ds=>match JS ds with
 | some (x,xs)=>.ok (xa x.cps.toList xs)
 |none=>.no
theorem MH{a b:Expr}{p:Pos}{elts:List Expr}{x1}{tpos:Pos}(hg:Gl X "zip")(hm:X.mg "zip" = none)(ha:PDA X [a,b] fs)(hs:starEach [a,b] X.env=[(false,eval a X.env),(false,eval b X.env)]:=by rfl)(hs2:starEach [b] X.env=[(false,eval b X.env)]:=by rfl) :
  PDI X (.Tuple elts x1 tpos) (.Call (.Name "zip" p) [a,b] [] pos) (iZp fs):=
 PI.imp (LA hg hm ha hs hs2) fun σ H R ⟨F,τ,Rv,h⟩=>tAs.of Rv h.bind fun ds vs F1 H1 g x R1 r=>by
  cases q1:JS ds with
  |none=>rw[q1] at g;exact g.elim
  |some ij=>
   obtain⟨y,xs⟩:=ij
   rw[q1] at g
   have e:=G3 q1
   subst e
   obtain⟨v,w,rfl,r1,r2⟩:=r.two
   simp only[Rep] at r1 r2
   subst r1
   obtain⟨l,ws,rfl,e1,t⟩:=r2
   exact⟨y,l,ws,rfl,SqL.of (R1.fh _ _ e1),g _ F1 H1 x (za2 (SqL.of e1) t)⟩
theorem QE{x:Str}{v:V}{u:Value}{d:D}(hg:Gl X x)(hm:X.mg x=some u)(r:RelV v u)(rd:∀F,Rep X.K F d v)(hd:(x==("__debug__" : Str))=false:=by decide):PDE X (.Name x pos) (eC d):=Xc (MA hg hm r hd) rd
theorem jC{x:Str}{y:Str}{t:Tok}(hg:Gl X x)(hm:X.mg x=some (.str y t))(hd:(x==("__debug__" : Str))=false:=by decide):PDE X (.Name x pos) (eC (.str y)):=QE (v:=.str y) hg hm ⟨t,rfl⟩ (fun _=>by simp only[Rep]) hd
theorem wJ{x:Str}{y:Int}{t:Tok}(hg:Gl X x)(hm:X.mg x=some (.int y t))(hd:(x==("__debug__" : Str))=false:=by decide):PDE X (.Name x pos) (eC (.int y)):=QE (v:=.int y) hg hm ⟨t,rfl⟩ (fun _=>by simp only[Rep]) hd
theorem VC{x:Str}{T:String}(hg:Gl X x)(hm:X.mg x=none)(hv:bootBuiltins x=some (.type T))(hn:x ≠ "__name__" := by decide)(hd:(x==("__debug__" : Str))=false:=by decide):PDE X (.Name x pos) (eC (.raw (.ty T))):=
 Xc (ME (v:=.ty T) hg hm hv rfl hn hd) fun _=>by simp only[Rep]
end
section
variable{X:Cx}{pos:Pos}{e tg:Expr}{es:List Expr}{fe:FE}{fs:FA}
def iAnyT(K:PySem.W.Frag)(tl:TE):TI:=fun σ H R=>tl σ H fun x H1=>(∃a,x=.ref a∧(∃xs,SqL K H1 a xs)∧R (Itl K a) H1)∨(∃a,x=.ref a∧(∃xs,SqT K H1 a xs)∧R (Itt K a) H1)∨∃z,x=.str z∧R (Its z) H1
theorem LB{l:Expr}{tl:TE}(hl:PE X l tl):PI X tg l (iAnyT X.K tl):=by
 intro pins s σ H R I h
 refine thn (hl pins s σ H _ I h) fun v s1 ⟨x,H1,I1,r1,q1⟩=>?_
 rcases q1 with ⟨a,e,⟨xs,hq⟩,q⟩|⟨a,e,⟨xs,hq⟩,q⟩|⟨z,e,q⟩
 ·subst e
  cases r1
  obtain⟨its,rv,p,hz⟩:=I1.list hq
  refine wpAny_pyIter_list p.isList ?_
  refine⟨s1.heap.objs.size,[s1.heap.objs.size],_,_,H1,rfl,I1.kept (t':=s1.toks) fun b o e=>Heap.get?_push_of_some _ e,UX a _,⟨_,Heap.get?_push_size _ rfl,rfl,rfl⟩,fun b hb=>?_,q⟩
  have e:b=s1.heap.objs.size:=by simpa using hb
  subst e
  exact I1.fpOk (le_refl _) (I1.hok.fresh (le_refl _))
 ·subst e
  cases r1
  obtain⟨its,rv,p,hz⟩:=I1.tuple hq
  refine wpAny_pyIter_tuple (show s1.heap.IsTuple a its.toArray from p) ?_
  refine⟨s1.heap.objs.size,[s1.heap.objs.size],_,_,H1,rfl,I1.kept (t':=s1.toks) fun b o e=>Heap.get?_push_of_some _ e,Vj a _,⟨_,Heap.get?_push_size _ rfl,rfl,rfl⟩,fun b hb=>?_,q⟩
  have e:b=s1.heap.objs.size:=by simpa using hb
  subst e
  exact I1.fpOk (le_refl _) (I1.hok.fresh (le_refl _))
 ·subst e
  obtain⟨t,rfl⟩:=r1
  have fin:∀(ty:String),(ty = "str_ascii_iterator" ∨ ty = "str_iterator")→PIE X pins σ tg R (.ref s1.heap.objs.size) { s1 with heap:=s1.heap.push { cls:=.type ty,data:=.fields #[.str z t,.int 0 0] } }:=fun ty hty=>by
   refine⟨s1.heap.objs.size,[s1.heap.objs.size],_,_,H1,rfl,I1.kept (t':=s1.toks) fun b o e=>Heap.get?_push_of_some _ e,JZ hty,⟨_,Heap.get?_push_size _ rfl,rfl,rfl⟩,fun b hb=>?_,q⟩
   have e:b=s1.heap.objs.size:=by simpa using hb
   subst e
   exact I1.fpOk (le_refl _) (I1.hok.fresh (le_refl _))
  cases ha:z.cps.all (· < 128)
  ·exact wpAny_pyIter_wide ha (fin _ (.inr rfl))
  ·exact wpAny_pyIter_ascii ha (fin _ (.inl rfl))
def Uz:D→Rs (List D)
 |.lst ds=>.ok ds
 |.scr ns=>.ok (ns.map .int)
 |.tup ds=>.ok ds
 |.str x=>.ok (ZS x)
 |_=>.no
def wQ(fe:FE):FA:=fun τ=>(fe τ).bind Uz
theorem wI(he:PDE X e fe):PDI X tg e (wQ fe):=
 PI.imp (LB he) fun σ H R ⟨F,τ,Rv,h⟩=>tE.of Rv h.bind fun d v F1 H1 g x R1 r=>by
  cases d with
  |lst ds=>
   simp only[Rep] at r;obtain⟨a,vs,rfl,q,t⟩:=r
   exact .inl ⟨a,rfl,⟨vs,SqL.of (R1.fh _ _ q)⟩,g _ F1 H1 x (UA (SqL.of q) t)⟩
  |scr ns=>
   simp only[Rep] at r;obtain⟨a,rfl,q⟩:=r
   exact .inl ⟨a,rfl,⟨_,R1.fh.seq q⟩,g _ F1 H1 x (UA q (Reps.ints ns))⟩
  |tup ds=>
   simp only[Rep] at r;obtain⟨a,vs,rfl,q,t⟩:=r
   exact .inr (.inl ⟨a,rfl,⟨vs,Same.seqT R1.fh q⟩,g _ F1 H1 x (za3 q t)⟩)
  |str z=>simp only[Rep] at r;exact .inr (.inr ⟨z,r,g _ F1 H1 x za4⟩)
  |_=>exact g.elim
end
def DefOk(P:Program)(w:World)(K:PySem.W.Frag)(mg:Str→Option Value)(base:Heap)(x:Str)(k n:Nat)(ps:List Str)(g:List D→Rs D):Prop:=
 ∃f fd,FnOk P w K mg base CX0 k f fd ps (spD K n g)∧Binds K fd ps []∧keepIn K (.ref f)=true∧mg x=some (.ref f)
structure zS(K:PySem.W.Frag)(mg:Str→Option Value)(x:Str)(st:Stmt)(f:Addr)(fd:FuncData):Prop where
 fn:Fun K x x st f fd
 at_:mg x=some (.ref f)
section
variable{P:Program}{w:World}{K:PySem.W.Frag}{mg:Str→Option Value}{base:Heap}
theorem DefOk.mk{x:Str}{st:Stmt}{f:Addr}{fd:FuncData}{N ps:List Str}{k n:Nat}{fb:FS}{g:List D→Rs D}(D:zS K mg x st f fd)(S:zQ N ps (zk st))(hn:ps.length=n)
  (hb:∀(kV doc pm:Value) (an:Option Addr) (cdv ct:Value) (us:List Value),us.length=ps.length→bindArgs (fnOf x x (zN st) (zF st) (zk st) .none kV doc pm an cdv ct) ⟨us,[]⟩=pure (ps.zip us))
  (hbody:∀(cdv:Value) (A:Around) (outer:List Env) (s:Shared) (H:Hp) (E:XK),Room k (A.deeper (envOfC x (zk st) s.heap.objs.size f cdv)) →
   Zz (Wa CX0 P w K mg base N x (zk st) f cdv A outer s H E).nox (zF st) fb)
  (hg:∀ds d,ds.length=n→g ds=.ok d→xb N.length fb ds=.ok d):DefOk P w K mg base x (k+1) n ps g:=
 ⟨f,fd,FnD.to (fnD D.fn S hn hbody) hg,D.fn.binds hb,D.fn.kp,D.at_⟩
end
section
variable{X:Cx}{pos:Pos}{e tg:Expr}{es:List Expr}{fe:FE}{fs:FA}
theorem zA{k n:Nat}{ps:List Str}{g:List D→Rs D}{x:Str}{p:Pos}(D:DefOk X.prog X.w X.K X.mg X.base x k n ps g)(hr:Room k X.A)(ha:PDA X (e::es) fs)(hfs:∀τ ds,fs τ=.ok ds→ds.length=(e::es).length)(hn:(e::es).length=n:=by rfl)(hg:Gl X x:=by rfl)(hdb:(x==("__debug__" : Str))=false:=by decide)
  (he:starEach (e::es) X.env=(false,eval e X.env)::starEach es X.env:=by rfl) (hpl:(backTo pos (starEach es X.env)).any (·.1)=false:=by rfl):PDE X (.Call (.Name x p) (e::es) [] pos) (zo g fs):=by
 obtain⟨f,fd,F,hb,hk,hm⟩:=D
 exact QF F hr hg hm hk hb ha hn hfs hdb he hpl
end
theorem uN{k:Nat}{A:Around}(r:Room k A):A.units+128<cLine:=by have:=r.un;omega
section
variable{X:Cx}{pos:Pos}{e a b:Expr}{fe fa fb:FE}
theorem jB{i:Nat}{x:Str}{pos':Pos}(hN:X.N.Nodup)(hi:X.N[i]?=some x)(hx:Loc X.env.scope x)(he:PDE X e fe)
  (hf:X.fn x=true∨X.env.scope.names.lookup x=some .local:=by first|exact .inl rfl|exact .inr rfl|assumption):PDS X (.AugAssign (.Name x pos') .Add e pos) (jV i (xP fun i j=>.int (i+j)) fe):=
 MG hN hi hx he za7 (fun F H x y dx dy Q fh r1 r2 q=>by
  cases dx with
  |int i=>
   cases dy with
   |int j=>
    simp only[Rep] at r1 r2;subst r1;subst r2
    exact⟨i,j,rfl,rfl,q _ F H (Ext.refl fh) (by simp only[Rep])⟩
   |_=>exact q.elim
  |_=>cases dy <;> exact q.elim) hf
end
def Ua(K:PySem.W.Frag):Sp:=fun vs H Q _=>∃(a:Addr) (ns:List Int) (F:Hp),vs=[.ref a]∧Same F H∧TbT F H∧SqL K F a (ns.map V.int)∧ns.length≤63∧∀H',Q (.bl true) H'
theorem L4{P:Program}{w:World}{K:PySem.W.Frag}{mg:Str→Option Value}{base:Heap}{k:Nat}{g:List D→Rs D}{p:Str}{f:Addr}{fd:FuncData}(F:FnOk P w K mg base CX0 k f fd [p] (spD K 1 g))(h:∀ns:List Int,ns.length≤63→g [.scr ns]=.ok (.bl true)) :
  FnOk P w K mg base CX0 k f fd [p] (Ua K):=by
 refine F.imp fun vs H Q E ⟨a,ns,Fz,e,fh,tt,hS,h63,q⟩=>?_
 subst e
 refine⟨rfl,[.scr ns],Fz,fh,tt,Reps.cons (by simp only[Rep];exact⟨a,rfl,hS⟩) Reps.nil,?_⟩
 rw[h ns h63]
 intro v F' H' _ r
 simp only[Rep] at r
 subst r
 exact q H'
section
variable{X:Cx}{pos:Pos}{e tg:Expr}{es:List Expr}{fe:FE}{fs:FA}
def lst1:List D→Option (List D)
 |[.lst ds]=>some ds
 |_=>none
theorem Qm{K:PySem.W.Frag}{F:Hp}(lo:Int)(n:Nat):Reps K F (vW lo n) ((List.range n).map fun (k:Nat)=>V.int (lo+k)):=by
 unfold vW
 generalize List.range n=l
 induction l with
 |nil=>exact Reps.nil
 |cons a r ih=>exact Reps.cons (by simp only[Rep]) ih
theorem JU{lo:Int}{acc:Array Value}{n:Nat}(h:ItemsOf (fun i v=>∃t,v=Value.int (lo+i*1) t) acc n):Vals ((List.range n).map fun (k:Nat)=>V.int (lo+k)) acc.toList:=by
 obtain⟨hn,hi⟩:=h
 have key:∀(l:List Value) (j:Nat),(∀k v,l[k]?=some v→∃t,v=Value.int (lo+((j+k:Nat):Int)) t)→Vals ((List.range' j l.length).map fun (k:Nat)=>V.int (lo+k)) l:=fun l=>by
  induction l with
  |nil=>intro j _;exact .nil
  |cons a r ih=>
   intro j hj
   rw[length_cons,range'_succ,map_cons]
   refine .cons ?_ (ih (j+1) fun k v hv=>?_)
   ·obtain⟨t,rfl⟩:=hj 0 a rfl
    exact⟨t,by simp⟩
   ·obtain⟨t,e⟩:=hj (k+1) v (by simpa using hv)
    exact⟨t,by rw[e];congr 2;omega⟩
 have:=key acc.toList 0 fun k v hv=>by
  obtain⟨t,e⟩:=hi k v (by simpa using hv)
  exact⟨t,by rw[e];simp⟩
 rw[length_toList,hn,← range_eq_range'] at this
 exact this
def Yd(fi:FA):FA:=fun τ=>(fi τ).bind fun ds=>if ds.length≤16777216 then .ok ds else .no
theorem Q5{pins:List (Addr×Obj)}{σ:St}{F H F1 H1:Hp}{s1:Shared}{Q:VK}{lo hi:Int}{t u v:Tok}{tk:Nat}(hc:X.calm=true)(I1:Inv X pins σ H1 s1)(h1 : -(2 ^ 62)≤lo)(h2:lo<2 ^ 62)(h3 : -(2 ^ 62)≤hi)(h4:hi<2 ^ 62)(hz:(vW lo (hi-lo).toNat).length≤16777216)
  (x:Ext F H F1 H1) (q:∀p vs F' H',Ext F H F' H'→H' p=none→Reps X.K F' (vW lo (hi-lo).toNat) vs→Q (.ref p) (upd H' p (.lst vs))) :
  wpAny (model X.prog X.w) X.A (call (.type "list") [.ref s1.heap.objs.size]) (EP X pins σ Q) X.xe { s1 with heap:=s1.heap.push { cls:=.type "range", data:=.fields #[.int lo t,.int hi u,.int 1 v] },toks:=tk }:=by
 have I2:Inv X pins σ H1 { s1 with heap:=s1.heap.push { cls:=.type "range", data:=.fields #[.int lo t,.int hi u,.int 1 v] },toks:=tk }:=I1.kept fun b o e=>Heap.get?_push_of_some _ e
 have hl:(vW lo (hi-lo).toNat).length=(hi-lo).toNat:=by simp[vW]
 rw[hl] at hz
 refine call_list_range (n:=(hi-lo).toNat) (I2.ok.hd hc) (IsRange.new ..) (small_one h1 h2 h3 h4) (by rw[rangeSize_one];split <;> omega) (by omega) fun h' tk' acc' c' hk hS' hacc=>?_
 have rel:=JU hacc
 refine⟨.ref _,_,I2.laid (t':=tk') hk (le_refl _) (o:=.lst ((List.range (hi-lo).toNat).map fun (k:Nat)=>V.int (lo+k))) ⟨by rw[length_map,length_range,sizeLine_eq];exact hz,acc'.toList,c',rel,by simpa using hS'⟩,rfl,q _ _ _ _ x (I2.hok.fresh (le_refl _)) (Qm _ _)⟩
theorem Zs{a:Expr}{p p2 pos2:Pos}(hc:X.calm=true)(hl:Gl X "list")(hml:X.mg "list" = none)(hg:Gl X "range")(hm:X.mg "range" = none)(ha:PDA X [a] fs)(hs:starEach [a] X.env=[(false,eval a X.env)]:=by rfl)
  (he:starEach [.Call (.Name "range" p2) [a] [] pos2] X.env=(false,eval (.Call (.Name "range" p2) [a] [] pos2) X.env)::starEach [] X.env:=by rfl) (hpl:(backTo pos (starEach [] X.env)).any (·.1)=false:=by rfl) :
  PDF X (.Call (.Name "list" p) [.Call (.Name "range" p2) [a] [] pos2] [] pos) (Yd (wn fs)):=by
 intro pins s σ H Q I ⟨F,τ,R,h⟩
 refine wpAny_Call_Name_kw (ua I hl hml boot_list ?_)
 refine PyProof.Rows.callWith_type1 ?_ he hpl
 rw[he]
 show wpAny _ _ (spliced ((false,eval (.Call (.Name "range" p2) [a] [] pos2) X.env)::backTo pos (starEach [] X.env))) _ _ s
 refine Calls.spliced_cons ?_
 have h:=h.bind
 unfold wn at h
 have h:=h.bind
 generalize hG:(fun ds=>Ok X (match VM ds with|some j=>if -(2 ^ 62)≤j∧j<2 ^ 62 then Rs.ok (vW 0 j.toNat) else Rs.no|none=>Rs.no) fun a=>Ok X (if a.length≤16777216 then Rs.ok a else Rs.no) fun ds=>∀(p:Addr) (vs:List V) (F' H':Hp),Ext F H F' H'→H' p=none→Reps X.K F' ds vs→Q (V.ref p) (upd H' p (HO.lst vs)))=G at h
 refine Call_ (ua I hg hm boot_range (PyProof.Rows.callWith_type1 (thn (ha pos2 pins s σ H (fun vs H1=>∃ds F1,G ds∧Ext F H F1 H1∧RV X.K F1 τ σ H1∧Reps X.K F1 ds vs) I (tAs.of R h fun ds vs F1 H1 g x R1 r=>⟨ds,F1,g,x,R1,r⟩)) fun us s1 ⟨vs,H1,I1,r1,ds,F1,g,x,R1,r⟩=>?_) hs rfl))
 subst hG
 cases q1:VM ds with
 |none=>simp only[q1] at g;exact g.elim
 |some j=>
  simp only[q1] at g
  have e:=UD q1
  subst e
  obtain⟨v,rfl,q⟩:=r.one
  simp only[Rep] at q;subst q
  obtain⟨z,g⟩:=y8 g
  obtain⟨zl,g⟩:=y8 g
  cases r1 with
  |cons ra rr=>
   cases rr
   obtain⟨t,rfl⟩:=ra
   refine call_range_1 ?_
   refine Calls.spliced_nil ?_
   exact Q5 hc I1 (by decide) (by decide) z.1 z.2 (by rw[Int.sub_zero];exact zl) x (by rw[Int.sub_zero];exact g)
end
section
open PySem.SeqAt
open PySem.AutoSeq1 (wpAny_loadPart')
open PySem.MeetsSeq PySem.MeetsSeq2 PySem.MeetsSeq3
end
section
variable{X:Cx}
end
section
variable{X:Cx}
end
section
variable{rest:List Expr}{env:Env}
end
def Itn(K:PySem.W.Frag)(l:Addr):It:=
 ⟨fun k H=>∃vs,SqL K H l vs∧k<vs.length,
  fun k H y H'=>∃p v,H p=none∧(∀vs,SqL K H l vs→vs[k]?=some v)∧y=.ref p∧H'=upd H p (.tup [.int k,v]),
  fun k H=>∃vs,SqL K H l vs∧vs.length≤k⟩
theorem UY{P:Program}{w:World}{K:PySem.W.Frag}{elts:List Expr}{x1}{pos:Pos}{e it l:Addr}(D:e≠it) :
  YY P w K (.Tuple elts x1 pos) (Itn K l) [e,it] e (fun k h=>(∃old,IsEnum h e it (k:Nat) old)∧h.IsListIter it l k) where
 mem:=by simp
 obj:=fun k h ⟨⟨old,h1⟩,⟨o5,e5,c5,d5⟩⟩ b hb=>by
  simp at hb
  rcases hb with rfl|rfl
  ·exact⟨_,h1,fun v z=>by cases z⟩
  ·exact⟨_,e5,fun v z=>by rw[d5] at z;cases z⟩
 keep:=fun k h h' ⟨⟨old,h1⟩,h5⟩ hk=>⟨⟨old,hk e (by simp) _ h1⟩,h5.at fun o q=>hk it (by simp) o q⟩
 item:=by
  intro X hP hw hK hc k pins s σ H E I hf ⟨⟨old,h1⟩,h5⟩ hg
  subst hP hw hK
  obtain⟨vs,hq,l2⟩:=hg
  obtain⟨its,rv,p,hz⟩:=I.list hq
  have hlen:=rv.length
  have hvk:vs[k]?=some vs[k]:=by simp[l2]
  obtain⟨u2,eu,ru⟩:=rv.get hvk
  refine wpAny_pyNext_enum_item (x:=u2) h1 h5 p.isList (by simpa using eu) D fun h' q1 q2 q3 q4 q5=>?_
  have np:s.heap.objs.size≠e:=ne_of_gt (Heap.lt_size h1)
  refine⟨_,rfl,wpAny_letOwnedTupleGo_enum (s:={ s with heap:=h',toks:=s.toks+1 }) q1 fun h'' z1 sb=>?_⟩
  refine⟨.ref s.heap.objs.size,upd H s.heap.objs.size (.tup [.int k,vs[k]]),?_,rfl,⟨_,vs[k],I.hok.fresh (le_refl _),fun ws hw=>by rw[I.list_inj hw hq];exact hvk,rfl,rfl⟩,⟨⟨_,by simpa using z1⟩,?_⟩,fun b hb=>?_⟩
  ·refine(V5 (s:=s) (h':=h'') (t':=s.toks+1) (xs:=[.int k,vs[k]]) (ch:=[e,it]) I (fun b o hb q=>?_) hf (le_refl _) ⟨_,sb.extBut _ _ np q3,rfl,_,rfl⟩ (.cons ⟨_,rfl⟩ (.cons ru .nil)) (by show 2≤sizeLine;decide):Inv X pins σ _ { s with heap:=h'',toks:=s.toks+1 })
   simp at hb
   exact sb.extBut _ _ hb.1 (q5 b o hb.1 hb.2 q)
  ·obtain⟨o,q,r⟩:=q2
   exact⟨o,sb.extBut _ _ (Ne.symm D) q,r⟩
  ·have lt:b<s.heap.objs.size:=by
    simp at hb
    rcases hb with rfl|rfl
    ·exact Heap.lt_size h1
    ·obtain⟨o,q,r⟩:=h5
     exact Heap.lt_size q
   rw[zB (ne_of_lt lt)]
   exact(hf b hb).1
 done:=by
  intro X hP hw hK hc k pins s σ H E I hf ⟨⟨old,h1⟩,h5⟩ hg
  subst hP hw hK
  obtain⟨vs,hq,hend⟩:=hg
  obtain⟨its,rv,p,hz⟩:=I.list hq
  have hlen:=rv.length
  obtain⟨f0,f1,f2,f3,f4,f5⟩:=hf it (by simp)
  exact wpAny_pyNext_enum_end (I.ok.hd hc) h1 h5 p.isList (by simp;omega) fun h' eb=>⟨rfl,I.turned (t':=s.toks) (fun b o hb q=>eb b o hb q) f0 f1 f3 f4 f5⟩
 self:=fun _ _ _ _ _ ⟨⟨_,h1⟩,_⟩ h=>wpAny_pyIter_enum h1 h
section
variable{X:Cx}{pos:Pos}{e a b:Expr}{es:List Expr}{fe fa fb:FE}{fs:FA}
def za9(K:PySem.W.Frag)(ta:TA):TI:=fun σ H R=>ta σ H fun vs H1=>∃l ws,vs=[.ref l]∧SqL K H1 l ws∧R (Itn K l) H1
theorem My{ta:TA}{p:Pos}{elts:List Expr}{x1}{tpos:Pos}(hg:Gl X "enumerate")(hm:X.mg "enumerate" = none)(ha:PA X [a] ta)(hs:starEach [a] X.env=[(false,eval a X.env)]:=by rfl) :
  PI X (.Tuple elts x1 tpos) (.Call (.Name "enumerate" p) [a] [] pos) (za9 X.K ta):=by
 intro pins s σ H R I h
 refine Call_ (ua I hg hm boot_enumerate (PyProof.Rows.callWith_type1 (thn (ha pos pins s σ H _ I h) fun us s1 ⟨vs,H1,I1,r1,q1⟩=>?_) (by rw[hs];rfl) rfl))
 obtain⟨l,ws,e,hq,q⟩:=q1
 subst e
 obtain⟨u1,rfl,ru⟩:=vals1 r1
 cases ru
 obtain⟨its,rr,pp,hz⟩:=I1.list hq
 refine call_enumerate_list pp.isList fun h' g1 g2 g3 g4=>?_
 have I5:Inv X pins σ H1 { s1 with heap:=h' }:=I1.kept (t':=s1.toks) g4
 refine wpAny_pyIter_enum (s:={ s1 with heap:=h' }) g1 ?_
 refine⟨s1.heap.objs.size+1,[s1.heap.objs.size+1,s1.heap.objs.size],_,_,H1,rfl,I5,UY (l:=l) (by show(_:Nat)≠_;omega),⟨⟨_,g1⟩,g2⟩,fun b hb=>?_,q⟩
 have hb':s1.heap.objs.size≤b:=by
  simp at hb
  rcases hb with rfl|rfl <;> (show s1.heap.objs.size≤(_:Nat);omega)
 obtain⟨f0,f1,f2,f3,f4,f5⟩:=I1.fpOk (H':=H1) hb' (I1.hok.fresh hb')
 exact⟨f0,f1,f2,f3,f4,f5⟩
def xu(n:Nat):List D→List D
 |[]=>[]
 |d::r=>.tup [.int n,d]::xu (n+1) r
theorem jL:∀(ds:List D) (n:Nat),(xu n ds).length=ds.length
 |[],_=>rfl
 |_::r,n=>by simp[xu,jL r]
theorem jM:∀{ds:List D} {n i:Nat} {p:D},(xu n ds)[i]?=some p→∃d,ds[i]?=some d∧p=.tup [.int ((n+i:Nat):Int),d]
 |[],_,_,_,h=>by simp[xu] at h
 |d::ds,n,0,p,h=>by simp[xu] at h;exact⟨d,rfl,by simpa using h.symm⟩
 |d::ds,n,i+1,p,h=>by
  obtain⟨d',h2,h3⟩:=jM (n:=n+1) (i:=i) (by simpa[xu] using h)
  exact⟨d',by simpa using h2,by rw[h3];congr 3;show((n+1+i:Nat):Int)=_;congr 1;omega⟩
theorem Tb{K:PySem.W.Frag}{F1:Hp}{l:Addr}{ds:List D}{vs:List V}(e:SqL K F1 l vs)(r:Reps K F1 ds vs):Vg K (Itn K l) F1 (xu 0 ds):=fun i F H f1 f2=>by
 have q:SqL K H l vs:=(f1.trans f2).seq e
 have hl:=jL ds 0
 have hr:=r.length
 refine⟨fun h=>⟨vs,q,by omega⟩,fun p hp=>?_⟩
 obtain⟨d,h2,rfl⟩:=jM hp
 have l2:i<vs.length:=by have:=(List.getElem?_eq_some_iff.mp h2).1;omega
 refine⟨⟨vs,q,l2⟩,fun y H' yy=>?_⟩
 obtain⟨pa,v,hp,q',rfl,rfl⟩:=yy
 refine⟨upd F pa (.tup [.int i,v]),Ext.new f2 hp,?_⟩
 simp only[Rep]
 refine⟨pa,_,rfl,SqT.of zG,Reps.cons (by simp only[Rep,zero_add]) (Reps.cons ?_ Reps.nil)⟩
 obtain⟨v',hv',rv'⟩:=r.get h2
 have e3:=q' vs q
 rw[hv'] at e3;cases e3
 exact(rv'.mono f1).mono (yD (yi f2 hp))
def MY:List D→Option (List D)
 |[.lst ds]=>some ds
 |_=>none
theorem MX{ds xs:List D}(h:MY ds=some xs):ds=[.lst xs]:=by
 unfold MY at h;split at h <;> cases h;rfl
def iEn(fs:FA):FA:=fun τ=>(fs τ).bind fun ds=>match MY ds with
 |some xs=>.ok (xu 0 xs)
 |none=>.no
theorem QC{p:Pos}{elts:List Expr}{x1}{tpos:Pos}(hg:Gl X "enumerate")(hm:X.mg "enumerate" = none)(ha:PDA X [a] fs)(hs:starEach [a] X.env=[(false,eval a X.env)]:=by rfl) :
  PDI X (.Tuple elts x1 tpos) (.Call (.Name "enumerate" p) [a] [] pos) (iEn fs):=
 PI.imp (My hg hm ha hs) fun σ H R ⟨F,τ,Rv,h⟩=>tAs.of Rv h.bind fun ds vs F1 H1 g x R1 r=>by
  cases q1:MY ds with
  |none=>rw[q1] at g;exact g.elim
  |some xs=>
   rw[q1] at g
   have e:=MX q1
   subst e
   obtain⟨v,rfl,r1⟩:=r.one
   simp only[Rep] at r1
   obtain⟨l,ws,rfl,e1,t⟩:=r1
   exact⟨l,ws,rfl,SqL.of (R1.fh _ _ e1),g _ F1 H1 x (Tb (SqL.of e1) t)⟩
end
section
variable{X:Cx}{pins:List (Addr×Obj)}{σ:St}{H:Hp}{s:Shared}{h':Heap}
end
section
variable{X:Cx}{pins:List (Addr×Obj)}{σ:St}{H:Hp}{s:Shared}{h':Heap}{a:Addr}{cls:Value}
variable{M:Model}{A:Around}{E:Value→Shared→Prop}{Q:Unit→Shared→Prop}
theorem np(b:Addr):∀p∈([]:List (Addr×Obj)),p.1≠b:=fun p hp=>nomatch hp
end
section
variable{P:Program}{w:World}{K:PySem.W.Frag}{mg:Str→Option Value}{base:Heap}
end
section
variable{X:Cx}{pos:Pos}{e:Expr}{es:List Expr}{fe:FE}{fs:FA}{st:Stmt}
end
section
variable{P:Program}{w:World}{K:PySem.W.Frag}{mg:Str→Option Value}{base:Heap}
end
section
variable{X:Cx}{pins:List (Addr×Obj)}{σ:St}{H:Hp}{s:Shared}{a:Addr}{cls:Value}
theorem goes{h':Heap}{m':Str→Option Value}{t':Nat}(I:Inv X pins σ H s)(hn:h'.Ns X.env.locals m')(sb:Heap.SameBut X.env.locals s.heap h'):Inv X pins (List.replicate X.N.length none) H { s with heap:=h',toks:=t' }:=by
 have nL:∀b o,X.s₀.heap.get? b=some o→b≠X.env.locals:=fun b o e=>ne_of_lt (lt_of_lt_of_le (Heap.lt_size e) I.ok.above)
 refine⟨I.ok,I.os,I.bare,⟨fun b o e n hb hx=>(sb.2 b (nL b o e)).trans (I.base.keep b o e n hb hx),fun b o e n hb hx=>?_,I.base.free,fun b o e hx=>?_,I.base.tups,I.base.frzs,I.base.tbls⟩,⟨m',hn,fun j y v e1 e2 e3=>?_⟩,fun y c e=>?_,I.free,I.freeC,fun p hp=>?_,fun b u e=>?_,by simp⟩
 ·obtain⟨sl,q⟩:=I.base.slot b o e n hb hx
  exact⟨sl,(sb.2 b (nL b o e)).trans q⟩
 ·obtain⟨o',q⟩:=I.base.there b o e hx
  exact⟨o',(sb.2 b (nL b o e)).trans q⟩
 ·rw[getElem?_replicate] at e2
  split at e2 <;> cases e2
 ·obtain⟨v,o,ho,hd⟩:=I.cell y c e
  exact⟨v,o,(sb.2 c (I.cne y c e)).trans ho,hd⟩
 ·obtain⟨q1,q2,q3,q4⟩:=I.pin p hp
  exact⟨(sb.2 p.1 q3).trans q1,q2,q3,q4⟩
 ·refine(I.hok b u e).stay (fun c w' hc q=>(sb.2 c ?_).trans q) (fun _ q=>q) fun _ _ q=>q
  rintro rfl
  rcases hc with rfl|hc
  ·rw[I.free] at e;cases e
  ·rw[I.free] at hc;cases hc
end
section
variable{prog:Program}{w:World}{A:Around}{E:Value→Shared→Prop}{K:PySem.W.Frag}{x C:Addr}
end
section
variable{X:Cx}{pos:Pos}{a b:Expr}{fa:FE}
end
section
variable{X:Cx}{pos:Pos}{e:Expr}{es:List Expr}{fs:FA}{st:Stmt}
end
section
variable{X:Cx}{pos:Pos}{e a b:Expr}{es:List Expr}{fe fa fb:FE}{fs:FA}
end
section
variable{X:Cx}{pos:Pos}{e a b:Expr}{es:List Expr}{fe fa fb:FE}{fs:FA}
end
section
variable{P:Program}{w:World}{K:PySem.W.Frag}{mg:Str→Option Value}{base:Heap}
end
section
variable{X:Cx}{pos:Pos}{e:Expr}{es:List Expr}{fe:FE}{fs:FA}
end
section
variable{X:Cx}{scope:Scope}{N':List Str}
end
section
variable{X:Cx}{scope:Scope}{N':List Str}{tg iter elt:Expr}{ifs:List Expr}{pos:Pos}{wi:TI}{g:TG}{ti:TT}{te:TE}{s0:St→St}
end
section
variable{X:Cx}{scope:Scope}{tn fr:List Str}{idx:List Nat}{tg iter elt:Expr}{ifs:List Expr}{pos:Pos}{fi:FA}{set:FG}{ft:FT}{fe:FE}
end
section
variable{X:Cx}{tg:Expr}
end
section
variable{X:Cx}{pos:Pos}{e tg:Expr}{es:List Expr}{fe:FE}{fs:FA}
end
section
variable{P:Program}{w:World}{K:PySem.W.Frag}{mg:Str→Option Value}{base:Heap}
end
section
variable{X:Cx}{pos:Pos}{e:Expr}{es:List Expr}{fe:FE}{fs:FA}
end
section
variable{X:Cx}{pins:List (Addr×Obj)}{σ:St}{H:Hp}{s:Shared}{a:Addr}{cls:Value}
end
section
variable{X:Cx}{pos:Pos}{e a b:Expr}{es:List Expr}{fe fa fb:FE}{fs:FA}
end
section
variable{X:Cx}{tg:Expr}
end
section
variable{X:Cx}{pos:Pos}{e tg:Expr}{es:List Expr}{fe:FE}{fs:FA}
end
section
variable{X:Cx}{pos:Pos}{e a b:Expr}{es:List Expr}{fe fa fb:FE}{fs:FA}
end
def BM(mg:Str→Option Value)(base:Heap):Prop:=∃bm o,mg "__builtins__" = some (.ref bm)∧bm≠builtinsNs∧base.get? bm=some o∧o.cls=.type "module" ∧ o.dict=some builtinsNs∧o.data=.plain
def Ld(ts:List Addr)(H:Hp):Prop:=∀b,H b=none∨(∃o xs,H b=some (.frz o (.lst xs)))∨(b∈ts∧H b=some (.tbl #[]))
theorem Ju{P:Program}{w:World}{K:PySem.W.Frag}{mg mb:Str→Option Value}{CX:CXT}{k:Nat}{fa a:Addr}{fd:FuncData}{x:Str}{sp:Sp}{s₁:Shared}{vs:List Value}{ns:List Int}{ts:List Addr}
  (KX:K.In s₁.heap) (hns:s₁.heap.Ns mainGlobals mg) (hb:s₁.heap.Ns builtinsNs mb) (hbb:∀x:Str,x ≠ "__name__" → mb x=bootBuiltins x) (hlim:s₁.heap.NoLimit) (hg:s₁.gens = #[])
  (ha:s₁.heap.get? a=some { cls:=.type "list", data:=.seq vs.toArray }) (hi:IntsAre vs ns) (hl:ns.length≤sizeLine) (hr:Room k callerA)
  (tb:∀p∈ts,K.lookup p=none∧s₁.heap.get? p=some (PySem.W.tabObj #[])∧isCodeTable s₁.heap p)
  (hbm:BM mg s₁.heap) (F:∀base:Heap,K.In base→base.Ns mainGlobals mg→BM mg base→FnOk P w K mg base CX k fa fd [x] sp) (hbind:∀(s:Shared) (u:Value),BindsTo s fd ⟨[u],[]⟩ [(x,u)])
  (hsp:∀H F:Hp,Ld ts H→Same F H→(∀p∈ts,F p=none∧H p=some (.tbl #[]))→SqL K F a (ns.map V.int)→sp [.ref a] H (fun v H'=>v=.bl true) fun _ _ _=>False)
  (hCX:∀H e s',CX [] H s₁ (fun _ _ _=>False) e s'→False) :
  codeAny (model P w) callerA (.call (.ref fa) ⟨[.ref a],[]⟩) (fun r s'=>r=.ok (.ret (.bool true))∧OldK s₁.heap s'.heap∧s'.os=s₁.os∧AllBare s'.gens) s₁:=by
 have rv:=vals_ints hi
 have lenV:=hi.length
 have nat:a∉ts:=fun z=>by
  obtain⟨_,e,_⟩:=tb a z
  rw[ha] at e;cases e
 have core:∀H F:Hp,Ld ts H→Same F H→(∀p∈ts,F p=none∧H p=some (.tbl #[]))→SqL K F a (ns.map V.int)→HOk P w H s₁.heap→(∀b,H b≠none→b=a∨b∈ts)→(H a≠none→K.lookup a=none) →
   codeAny (model P w) callerA (.call (.ref fa) ⟨[.ref a],[]⟩) (fun r s'=>r=.ok (.ret (.bool true))∧OldK s₁.heap s'.heap∧s'.os=s₁.os∧AllBare s'.gens) s₁:=by
  intro H Fz hO fh hT hS hok hA hK
  have base_of:∀{b:Addr} {o:Obj},s₁.heap.get? b=some o→H b=none→(jp s₁.heap H).get? b=some o:=fun e n=>WV e n
  have noA:∀{b:Addr} {o:Obj} {es:Array DictEntry} {ep:Nat},s₁.heap.get? b=some o→o.data=.dict es ep→H b=none:=fun {b o es ep} e d=>by
   cases q:H b with
   |none=>rfl
   |some u=>
    rcases hA b (by rw[q];simp) with e' | e'
    ·subst e'
     rw[ha] at e;cases e
     have d':Data.seq vs.toArray _=Data.dict es ep:=d
     cases d'
    ·obtain⟨_,e2,_⟩:=tb b e'
     rw[e] at e2;cases e2
     cases d
  have nsK:∀{b:Addr} {m:Str→Option Value},s₁.heap.Ns b m→(jp s₁.heap H).Ns b m:=fun {b m} ⟨o,es,ep,e,d,r⟩=>⟨o,es,ep,base_of e (noA e d),d,r⟩
  have hKb:K.In (jp s₁.heap H):=fun b o e=>base_of (KX b o e) (by
   cases q:H b with
   |none=>rfl
   |some u=>
    rcases hA b (by rw[q];simp) with e' | e'
    ·subst e'
     rw[hK (by rw[q];simp)] at e;cases e
    ·rw[(tb b e').1] at e;cases e)
  have hM:Mod K mg (jp s₁.heap H):=⟨hKb,nsK hns,⟨mb,nsK hb,hbb⟩,let ⟨mc,h1,h2⟩:=hlim;⟨mc,nsK h1,h2⟩⟩
  have e0:G1 P w K mg (jp s₁.heap H) callerA [] s₁ H:=⟨rfl,hM,fun b o e=>Um e,Nat.le_of_eq (Xt _ _),trivial,fun b hb=>absurd (show b∈([]:List Addr) from hb) (by simp),hok,.of_eq hg⟩
  have hbb:BM mg (jp s₁.heap H):=by
   obtain⟨bm,o,b1,b2,b3,b4,b5,b6⟩:=hbm
   refine⟨bm,o,b1,b2,base_of b3 ?_,b4,b5,b6⟩
   cases q:H bm with
   |none=>rfl
   |some u=>
    rcases hA bm (by rw[q];simp) with e' | e'
    ·subst e'
     rw[ha] at b3;cases b3;cases b6
    ·obtain⟨_,e2,_⟩:=tb bm e'
     rw[b3] at e2;cases e2;cases b6
  refine codeAny_mono ((F _ hKb (nsK hns) hbb).run callerA [] s₁ H ⟨[.ref a],[]⟩ [.ref a] [.ref a] _ _ hr e0 (hbind s₁ (.ref a)) (.cons rfl .nil) (hsp H Fz hO fh hT hS)) fun r s' h=>?_
  cases r with
  |error e=>exact(hCX H e s' h).elim
  |ok fl=>
   cases fl with
   |next=>exact False.elim h
   |brk=>exact False.elim h
   |cont=>exact False.elim h
   |ret u=>
    obtain⟨v,H',os,bare,un,hok',r',q'⟩:=h
    subst q'
    obtain rfl:u=Value.bool true:=r'
    have was:∀b o,s₁.heap.get? b=some o→asItWas s₁.heap s'.heap b o:=fun b o e=>by
     cases q:H b with
     |none=>exact .inl (un.keep b o e q (by intro z;exact absurd (show b∈([]:List Addr) from z) (by simp)) (by simp))
     |some u=>
      rcases hO b with z|⟨ob,xs,z⟩|⟨hb,z⟩
      ·rw[q] at z;cases z
      ·have z2:=un.frzs b ob _ z
       obtain⟨e1,_⟩:=hok b _ z
       obtain⟨e2,_⟩:=hok' b _ z2
       rw[e] at e1;cases e1
       exact .inl e2
      ·obtain⟨more,z2⟩:=un.tbls b _ z
       have e2:s'.heap.get? b=some { cls:=.none,data:=.fields (#[]++more) }:=hok' b _ z2
       obtain⟨_,e3,e4⟩:=tb b hb
       rw[e] at e3;cases e3
       exact .inr (.inl ⟨e4,rfl,#[],more,rfl,e2⟩)
    refine⟨rfl,⟨was,fun b o e=>?_⟩,os,bare⟩
    obtain⟨o',e'⟩:=un.there b o e (by simp)
    exact⟨o',e'⟩
 cases hk:K.lookup a with
 |some o=>
  have e:=KX a o hk
  rw[ha] at e
  cases e
  refine core (fun b=>if b∈ts then some (.tbl #[]) else none) (fun _=>none) (fun b=>?_) (fun _ _ z=>nomatch z) (fun p hp=>⟨rfl,if_pos hp⟩) (.inr ⟨_,vs.toArray,_,hk,rfl,rfl,rfl,by rw[size_toArray,lenV];exact hl,by simpa using rv⟩) (fun b u z=>?_) (fun b z=>?_) fun z=>absurd (if_neg nat) z
  ·by_cases h:b∈ts
   ·exact .inr (.inr ⟨h,if_pos h⟩)
   ·exact .inl (if_neg h)
  ·by_cases h:b∈ts
   ·have z':=(if_pos h).symm.trans z
    cases z'
    exact(tb b h).2.1
   ·have z':=(if_neg h).symm.trans z
    cases z'
  ·by_cases h:b∈ts
   ·exact .inr h
   ·exact absurd (if_neg h) z
 |none=>
  refine core (fun b=>if b∈ts then some (.tbl #[]) else if b=a then some (.frz { cls:=.type "list", data:=.seq vs.toArray } (.lst (ns.map V.int))) else none) (fun b=>if b=a then some (.frz { cls:=.type "list", data:=.seq vs.toArray } (.lst (ns.map V.int))) else none) (fun b=>?_) (fun b o z=>?_) (fun p hp=>⟨if_neg (fun z:p=a=>nat (z ▸ hp)),if_pos hp⟩) (.inl (.inr ⟨{ cls:=.type "list", data:=.seq vs.toArray },if_pos rfl⟩)) (fun b u z=>?_) (fun b z=>?_) fun _=>hk
  ·by_cases h:b∈ts
   ·exact .inr (.inr ⟨h,if_pos h⟩)
   ·by_cases hb:b=a
    ·exact .inr (.inl ⟨_,_,(if_neg h).trans (if_pos hb)⟩)
    ·exact .inl ((if_neg h).trans (if_neg hb))
  ·by_cases hb:b=a
   ·have z':=(if_pos hb).symm.trans z
    cases z'
    subst hb
    exact(if_neg nat).trans (if_pos rfl)
   ·have z':=(if_neg hb).symm.trans z
    cases z'
  ·by_cases h:b∈ts
   ·have z':=(if_pos h).symm.trans z
    cases z'
    exact(tb b h).2.1
   ·have z1:=(if_neg h).symm.trans z
    by_cases hb:b=a
    ·have z':=(if_pos hb).symm.trans z1
     cases z'
     subst hb
     exact⟨ha,by rw[length_map];exact hl,vs,_,rv,ha⟩
    ·have z':=(if_neg hb).symm.trans z1
     cases z'
  ·by_cases h:b∈ts
   ·exact .inr h
   ·by_cases hb:b=a
    ·exact .inl hb
    ·exact absurd ((if_neg h).trans (if_neg hb)) z
theorem WI{K:PySem.W.Frag}{p:Addr}(h:p∉K.map (·.1)):K.lookup p=none:=by
 rw[show K.lookup p=List.lookup p K from rfl,List.lookup_eq_none_iff]
 intro q hq
 simp only[bne_iff_ne,ne_eq,beq_eq_false_iff_ne]
 intro z
 exact h (mem_map.mpr ⟨q,hq,z.symm⟩)
def GZ(K:PySem.W.Frag):Prop:=∀r∈Tabs.rows,∃c,PySem.W.codeHdIn K c r.1=true
theorem walkM{l:PySem.W.OpenLaw}{q:Program}{loose:List Str}{XP:(Str→Option Value)→Heap→Prop}{d:DefRec}{K:Params→PySem.W.Frag}{k:Nat}{p:Str}{as ts:List Addr}{has:∀P,as=(K P).map (·.1)}(hn:l.most=some 63)(hdf:d.params.defaults=[])(hk:Room k callerA)
  (hts:(Tabs.rows.all fun r=>ts.contains r.1 && !as.contains r.1)=true)
  (F:∀(w:World) (mg:Str→Option Value) (fa:Addr) (h:Heap),(K w.params).In h→h.Ns mainGlobals mg→mg d.name=some (.ref fa)→GZ (K w.params) ∧
   ∃fd:FuncData,(∀(s:Shared) (u:Value),BindsTo s fd ⟨[u],[]⟩ [(p,u)])∧∀base:Heap,(K w.params).In base→base.Ns mainGlobals mg→BM mg base→FnOk l.prog w (K w.params) mg base CX0 k fa fd [p] (Ua (K w.params))) :
  PySem.W.WalkO q loose XP (PySem.W.kmHook K as has ts).says l.row.toRowW d [] (fun f vs=>PySem.call f vs):=by
 refine Att.attach_call hn hdf fun w s₀ s₁ mg mb fa o pm cd doc a vs ns G Y ho hd hcd hmg hobj hints hlen hg=>?_
 have KX:=PySem.W.km_in_of Y
 have hT:=PySem.W.km_tabs_of Y
 obtain⟨tin,fd,hb,hF⟩:=F w mg fa _ KX G.T.g hmg
 refine Ju (ts:=Tabs.rows.map (·.1)) (CX:=CX0) (sp:=Ua (K w.params)) KX G.T.g G.T.b G.T.builtins G.T.nolimit hg hobj hints (le_trans hlen (by decide)) hk (fun p hp=>?_) ?_ hF hb (fun H Fz hO fh hT hS=>⟨a,ns,Fz,rfl,fh,⟨fun r hr=>?_,fun d b e=>(by rcases hO d with z|⟨_,_,z⟩|⟨_,z⟩ <;> (rw[z] at e;cases e))⟩,hS,hlen,fun _=>rfl⟩) fun H e s' z=>z
 ·obtain⟨r,hr,rfl⟩:=mem_map.mp hp
  have z:=all_eq_true.mp hts r hr
  rw[Bool.and_eq_true] at z
  have hp':=hT r.1 (by simpa using z.1)
  obtain⟨c,hc⟩:=tin r hr
  refine⟨WI (by rw[← has];simpa using z.2),hp',?_⟩
  exact((PySem.W.codeHd_of_K KX hc).tab hp').isCodeTable
 ·obtain⟨bm,ob,b1,b2,b3,b4,b5,b6⟩:=G.T.bmain
  exact⟨bm,ob,b1,b2,b3,b4,b5,b6⟩
 ·obtain⟨h1,h2⟩:=hT r.1 (mem_map.mpr ⟨r,hr,rfl⟩)
  exact⟨h1,.inl h2⟩
open PySem.W
def lxI:List Int→List Int→Bool
 |[],[]=>false
 |[],_::_=>true
 |_::_,[]=>false
 |a::x,b::y=>if a=b then lxI x y else decide (a<b)
theorem Yb:∀x:List Int,lxI x x=false
 |[]=>rfl
 |a::x=>by rw[lxI,if_pos rfl];exact Yb x
theorem Uq:∀x y:List Int,lxI x y=false→lxI y x=false→x=y
 |[],[],_,_=>rfl
 |[],_::_,h,_=>by simp[lxI] at h
 |_::_,[],_,h=>by simp[lxI] at h
 |a::x,b::y,h1,h2=>by
  rw[lxI] at h1 h2
  by_cases e:a=b
  ·subst e
   rw[if_pos rfl] at h1 h2
   rw[Uq x y h1 h2]
  ·rw[if_neg e] at h1
   rw[if_neg (Ne.symm e)] at h2
   simp only[decide_eq_false_iff_not] at h1 h2
   omega
theorem wC:∀x y z:List Int,lxI x y=true→lxI y z=true→lxI x z=true
 |[],[],_,h,_=>by simp[lxI] at h
 |_::_,[],_,h,_=>by simp[lxI] at h
 |_,_::_,[],_,h=>by simp[lxI] at h
 |[],_::_,_::_,_,_=>rfl
 |a::x,b::y,c::z,h1,h2=>by
  rw[lxI] at h1 h2 ⊢
  by_cases e:a=b
  ·subst e
   rw[if_pos rfl] at h1
   by_cases e2:a=c
   ·subst e2;rw[if_pos rfl] at h2 ⊢;exact wC x y z h1 h2
   ·rw[if_neg e2] at h2 ⊢;exact h2
  ·rw[if_neg e] at h1
   simp only[decide_eq_true_eq] at h1
   by_cases e2:b=c
   ·subst e2;rw[if_neg e];simpa using h1
   ·rw[if_neg e2] at h2
    simp only[decide_eq_true_eq] at h2
    rw[if_neg (by omega)];simp only[decide_eq_true_eq];omega
theorem Jp{x y:List Int}(h:lxI x y=true):lxI y x=false:=by
 cases q:lxI y x with
 |false=>rfl
 |true=>have:=wC x y x h q;rw[Yb] at this;cases this
theorem ZG{x y:List Int}(h:lxI x y=false)(n:x≠y):lxI y x=true:=by
 cases q:lxI y x with
 |true=>rfl
 |false=>exact absurd (Uq x y h q) n
def Pw{α:Type}(lt:Nat→Nat→Bool)(n:Nat):KasT α→(α→Prop)→Prop
 |.ret a,G=>G a
 |.ask i j k,G=>i<n∧j<n∧Pw lt n (k (lt i j)) G
section
variable{lt:Nat→Nat→Bool}{n:Nat}
theorem Qp{α:Type}{t u:KasT α}{G:α→Prop}(h:Pw lt n t G):Pw lt n (if true=true then t else u) G:=by rw[if_pos rfl];exact h
theorem Lu{α:Type}{t u:KasT α}{G:α→Prop}(h:Pw lt n u G):Pw lt n (if false=true then t else u) G:=by rw[if_neg (by simp)];exact h
theorem Pw.bind{α β:Type}{f:α→KasT β}{G:β→Prop}:∀(t:KasT α),Pw lt n t (fun a=>Pw lt n (f a) G)→Pw lt n (t.bind f) G
 |.ret _,h=>h
 |.ask i j k,h=>⟨h.1,h.2.1,Pw.bind (k (lt i j)) h.2.2⟩
theorem Pw.mono{α:Type}{G G':α→Prop}(hg:∀a,G a→G' a):∀(t:KasT α),Pw lt n t G→Pw lt n t G'
 |.ret a,h=>hg a h
 |.ask i j k,h=>⟨h.1,h.2.1,Pw.mono hg (k (lt i j)) h.2.2⟩
theorem Pw.wp{α:Type}{cmp:Nat→Nat→(Bool→Shared→Prop)→Shared→Prop}{s:Shared}(hc:∀(i j:Nat) (C:Bool→Shared→Prop),i<n→j<n→C (lt i j) s→cmp i j C s){G:α→Prop}{Q:α→Shared→Prop}(hq:∀a,G a→Q a s) :
  ∀(t:KasT α),Pw lt n t G→t.kasWp cmp Q s
 |.ret a,h=>hq a h
 |.ask i j k,h=>hc i j _ h.1 h.2.1 (Pw.wp hc hq (k (lt i j)) h.2.2)
end
section
variable{n:Nat}{κ:Nat→List Int}{p:Array Nat}
abbrev ltK(κ:Nat→List Int)(i j:Nat):Bool:=lxI (κ i) (κ j)
abbrev gK(κ:Nat→List Int)(p:Array Nat)(k:Nat):List Int:=κ (p.getD k 0)
abbrev PmK(n:Nat)(p:Array Nat):Prop:=p.toList.Perm (List.range n)
theorem xZ{p:Array Nat}(k:Nat):p.getD k 0=(p[k]?).getD 0:=by simp
theorem ZC(h:PmK n p):p.size=n:=by have:=h.length_eq;simpa using this
theorem ug(h:PmK n p)(hn:0<n)(k:Nat):p.getD k 0<n:=by
 rw[xZ]
 cases q:p[k]? with
 |none=>exact hn
 |some v=>
  have hv:v∈p.toList:=by
   have q':p.toList[k]?=some v:=by rw[← q];simp
   exact mem_of_getElem? q'
  have:=h.mem_iff.mp hv
  simpa using this
theorem Lz(h:PmK n p){i j:Nat}(hi:i<n)(hj:j<n)(hij:i≠j):p.getD i 0≠p.getD j 0:=by
 have nd:p.toList.Nodup:=h.symm.nodup List.nodup_range
 have sz:=ZC h
 have key:∀a b:Nat,a<b→b<n→p.getD a 0≠p.getD b 0:=fun a b hab hb=>by
  have ha':a<p.toList.length:=by simp[sz];omega
  have hb':b<p.toList.length:=by simp[sz];omega
  have:=List.pairwise_iff_getElem.mp nd a b ha' hb' hab
  rw[xZ,xZ]
  have ea:p[a]?=some p.toList[a]:=by rw[getElem_toList];exact Array.getElem?_eq_getElem _
  have eb:p[b]?=some p.toList[b]:=by rw[getElem_toList];exact Array.getElem?_eq_getElem _
  rw[ea,eb]
  exact this
 rcases lt_or_ge i j with z|z
 ·exact key i j z hj
 ·exact(key j i (by omega) hi).symm
def Srt(κ:Nat→List Int)(p:Array Nat)(a:Nat):Prop:=∀i j,i<j→j<a→lxI (gK κ p i) (gK κ p j)=true
def Dsc(κ:Nat→List Int)(p:Array Nat)(a:Nat):Prop:=∀i j,i<j→j<a→lxI (gK κ p j) (gK κ p i)=true
variable(inj:∀i j,i<n→j<n→κ i=κ j→i=j)
include inj
theorem zb3(h:PmK n p){i j:Nat}(hi:i<n)(hj:j<n)(hij:i≠j):gK κ p i≠gK κ p j:=fun e=>
 Lz h hi hj hij (inj _ _ (ug h (by omega) i) (ug h (by omega) j) e)
theorem J9(h:PmK n p){a:Nat}(hs:Srt κ p a)(h1:1≤a)(ha:a<n)(e:lxI (gK κ p a) (gK κ p (a-1))=false):Srt κ p (a+1):=fun i j hij hj=>by
 rcases lt_or_ge j a with z|z
 ·exact hs i j hij z
 ·obtain rfl:j=a:=by omega
  have l:=ZG e (zb3 inj h ha (by omega) (by omega))
  by_cases hi:i=j-1
  ·subst hi;exact l
  ·exact wC _ _ _ (hs i (j-1) (by omega) (by omega)) l
omit inj in
theorem W9{a:Nat}(hs:Dsc κ p a)(h1:1≤a)(e:lxI (gK κ p a) (gK κ p (a-1))=true):Dsc κ p (a+1):=fun i j hij hj=>by
 rcases lt_or_ge j a with z|z
 ·exact hs i j hij z
 ·obtain rfl:j=a:=by omega
  by_cases hi:i=j-1
  ·subst hi;exact e
  ·exact wC _ _ _ e (hs i (j-1) (by omega) (by omega))
theorem VZ(hp:PmK n p):∀(f a:Nat),1≤a→a+f≤n→Srt κ p a →
  Pw (ltK κ) n (kas_asc p f a) fun m=>a≤m∧m≤a+f∧Srt κ p m∧(m<a+f→lxI (gK κ p m) (gK κ p (m-1))=true)
 |0,a,h1,h2,hs=>⟨le_refl _,le_refl _,hs,fun z=>absurd z (lt_irrefl _)⟩
 |f+1,a,h1,h2,hs=>by
  unfold kas_asc
  refine⟨ug hp (by omega) _,ug hp (by omega) _,?_⟩
  cases e:ltK κ (p.getD a 0) (p.getD (a-1) 0) with
  |true=>
   refine Qp ?_
   exact⟨le_refl _,by omega,hs,fun _=>e⟩
  |false=>
   refine Lu ?_
   refine Pw.mono (fun m ⟨q1,q2,q3,q4⟩=>⟨by omega,by omega,q3,fun z=>q4 (by omega)⟩) _ (VZ hp f (a+1) (by omega) (by omega) (J9 inj hp hs h1 (by omega) e))
theorem UJ(hp:PmK n p):∀(f a:Nat),1≤a→a+f≤n→Dsc κ p a →
  Pw (ltK κ) n (kas_desc f p a 0) fun r=>r.1=p∧r.2.2=0∧a≤r.2.1∧r.2.1≤a+f∧Dsc κ p r.2.1
 |0,a,h1,h2,hs=>⟨rfl,rfl,le_refl _,le_refl _,hs⟩
 |f+1,a,h1,h2,hs=>by
  unfold kas_desc
  refine⟨ug hp (by omega) _,ug hp (by omega) _,?_⟩
  cases e:ltK κ (p.getD a 0) (p.getD (a-1) 0) with
  |true=>
   refine Qp ?_
   rw[if_neg (by omega)]
   refine Pw.mono (fun m ⟨q1,q2,q3,q4,q5⟩=>⟨q1,q2,by omega,by omega,q5⟩) _ (UJ hp f (a+1) (by omega) (by omega) (W9 hs h1 e))
  |false=>
   refine Lu ?_
   refine⟨ug hp (by omega) _,ug hp (by omega) _,?_⟩
   have e2:ltK κ (p.getD (a-1) 0) (p.getD a 0)=true:=ZG e (zb3 inj hp (by omega) (by omega) (by omega))
   rw[e2]
   refine Qp ?_
   exact⟨rfl,rfl,le_refl _,Nat.le_add_right _ _,hs⟩
omit inj in
theorem T6(hp:PmK n p){m:Nat}(hm:m≤n)(k:Nat):gK κ (kas_rev p 0 m) k=if k<m then gK κ p (m-1-k) else gK κ p k:=by
 unfold gK
 rw[xZ,show(kas_rev p 0 m)[k]?=_ from getElem?_mirror_all (by rw[ZC hp];exact hm) k]
 by_cases z:k<m
 ·rw[if_pos ⟨zero_le _,z⟩,if_pos z,← xZ,zero_add]
 ·rw[if_neg (fun y=>z y.2),if_neg z,← xZ]
omit inj in
theorem Qx(hp:PmK n p)(i j:Nat):PmK n (kas_rev p i j):=(Array.perm_iff_toList_perm.mp (mirror_perm p i j ((j-i) / 2))).trans hp
omit inj in
theorem G8(hp:PmK n p){m:Nat}(hm:m≤n)(hd:Dsc κ p m):Srt κ (kas_rev p 0 m) m:=fun i j hij hj=>by
 rw[T6 hp hm,T6 hp hm,if_pos (by omega),if_pos hj]
 exact hd _ _ (by omega) (by omega)
theorem J4(hp:PmK n p){m:Nat}(h1:1≤m)(hm:m≤n)(hd:Dsc κ p m):Pw (ltK κ) n (kas_tail3 m n p) fun r=>PmK n r.2∧1≤r.1∧r.1≤n∧Srt κ r.2 r.1:=by
 unfold kas_tail3
 refine Pw.bind _ (Pw.mono (fun m' ⟨q1,q2,q3,q4⟩=>?_) _ (VZ inj (Qx hp 0 m) (n-m) m h1 (by omega) (G8 hp hm hd)))
 exact⟨Qx hp 0 m,by omega,by omega,q3⟩
theorem GG(hp:PmK n p)(hn:2≤n):Pw (ltK κ) n (kas_count n p) fun r=>PmK n r.2∧1≤r.1∧r.1≤n∧Srt κ r.2 r.1:=by
 unfold kas_count
 refine Pw.bind _ (Pw.mono (fun m ⟨q1,q2,q3,q4⟩=>?_) _ (VZ inj hp (n-1) 1 (le_refl _) (by omega) fun i j hij hj=>by omega))
 by_cases e:m=n
 ·rw[if_pos (by simpa using e)]
  exact⟨hp,by omega,by omega,q3⟩
 ·rw[if_neg (by simpa using e)]
  have l:=q4 (by omega)
  by_cases z:m > 1
  ·rw[if_pos z]
   refine⟨ug hp (by omega) _,ug hp (by omega) _,?_⟩
   have:ltK κ (p.getD 0 0) (p.getD (m-1) 0)=true:=q3 0 (m-1) (by omega) (by omega)
   rw[this]
   refine Qp ?_
   exact⟨hp,by omega,by omega,q3⟩
  ·rw[if_neg z]
   obtain rfl:m=1:=by omega
   unfold kas_descPart
   have d1:Dsc κ p 1:=fun i j hij hj=>by omega
   refine Pw.bind _ (Pw.mono (fun r ⟨r1,r2,r3,r4,r5⟩=>?_) _ (UJ inj hp (n-(1+1)) (1+1) (by omega) (by omega) (W9 d1 (le_refl _) l)))
   rw[if_neg (by omega),r1]
   exact J4 inj hp (by omega) (by omega) r5
theorem ZX(hp:PmK n p){k:Nat}(hk:k<n)(hs:Srt κ p k):∀(f l r:Nat),l≤r→r≤k→r-l≤f→(∀i,i<l→lxI (gK κ p i) (gK κ p k)=true)→(∀i,r≤i→i<k→lxI (gK κ p k) (gK κ p i)=true) →
  Pw (ltK κ) n (kas_place p k f l r) fun m=>m≤k∧(∀i,i<m→lxI (gK κ p i) (gK κ p k)=true)∧(∀i,m≤i→i<k→lxI (gK κ p k) (gK κ p i)=true)
 |0,l,r,h1,h2,h3,h4,h5=>by
  obtain rfl:l=r:=by omega
  exact⟨h2,h4,h5⟩
 |f+1,l,r,h1,h2,h3,h4,h5=>by
  unfold kas_place
  by_cases z:l ≥ r
  ·rw[if_pos z]
   obtain rfl:l=r:=by omega
   exact⟨h2,h4,h5⟩
  ·rw[if_neg z]
   refine⟨ug hp (by omega) _,ug hp (by omega) _,?_⟩
   cases e:ltK κ (p.getD k 0) (p.getD ((l+r) / 2) 0) with
   |true=>
    refine Qp ?_
    refine ZX hp hk hs f l ((l+r) / 2) (by omega) (by omega) (by omega) h4 fun i hi hik=>?_
    by_cases q:i=(l+r) / 2
    ·subst q;exact e
    ·exact wC _ _ _ e (hs _ i (by omega) hik)
   |false=>
    refine Lu ?_
    refine ZX hp hk hs f ((l+r) / 2+1) r (by omega) (by omega) (by omega) (fun i hi=>?_) h5
    have e2:=ZG e (zb3 inj hp hk (by omega) (by omega))
    by_cases q:i=(l+r) / 2
    ·subst q;exact e2
    ·exact wC _ _ _ (hs i _ (by omega) (by omega)) e2
omit inj in
theorem T7(hp:PmK n p){k l:Nat}(hk:k<n)(hl:l≤k)(i:Nat):gK κ (bubble p k (k-l)) i=if i=l then gK κ p k else if l<i∧i≤k then gK κ p (i-1) else gK κ p i:=by
 unfold gK
 rw[xZ,getElem?_bubble (by rw[ZC hp];exact hk) (k-l) (by omega) i,show k-(k-l)=l by omega]
 split
 ·rw[← xZ]
 ·split
  ·rw[← xZ]
  ·rw[← xZ]
theorem GN:∀(f:Nat) (p:Array Nat) (k:Nat),PmK n p→k+f=n→Srt κ p k→Pw (ltK κ) n (kas_bin f p k) fun q=>PmK n q∧Srt κ q n
 |0,p,k,hp,e,hs=>by
  obtain rfl:k=n:=by omega
  exact⟨hp,hs⟩
 |f+1,p,k,hp,e,hs=>by
  unfold kas_bin
  refine Pw.bind _ (Pw.mono (fun l ⟨q1,q2,q3⟩=>?_) _ (ZX inj hp (by omega) hs k 0 k (zero_le _) (le_refl _) (by omega) (fun i hi=>by omega) (fun i hi hik=>by omega)))
  refine GN f _ (k+1) ((Array.perm_iff_toList_perm.mp (bubble_perm p k (k-l))).trans hp) (by omega) fun i j hij hj=>?_
  rw[T7 hp (by omega) q1,T7 hp (by omega) q1]
  by_cases a1:i=l
  ·rw[if_pos a1,if_neg (by omega),if_pos (by omega)]
   exact q3 _ (by omega) (by omega)
  ·rw[if_neg a1]
   by_cases a2:l<i∧i≤k
   ·rw[if_pos a2,if_neg (by omega),if_pos (by omega)]
    exact hs _ _ (by omega) (by omega)
   ·rw[if_neg a2]
    by_cases b1:j=l
    ·rw[if_pos b1];exact q2 _ (by omega)
    ·rw[if_neg b1]
     by_cases b2:l<j∧j≤k
     ·rw[if_pos b2]
      by_cases c:i=j-1
      ·omega
      ·exact hs _ _ (by omega) (by omega)
     ·rw[if_neg b2];exact hs _ _ hij (by omega)
theorem Mc(hn:2≤n):Pw (ltK κ) n (kas_sort n) fun q=>PmK n q∧Srt κ q n:=by
 unfold kas_sort
 refine Pw.bind _ (Pw.mono (fun r ⟨q1,q2,q3,q4⟩=>?_) _ (GG inj (p:=List.toArray (List.range n)) (by show(List.toArray (List.range n)).toList.Perm _;simp) hn))
 by_cases z:r.1<n
 ·rw[if_pos z,Nat.max_eq_left q2]
  exact GN inj _ _ _ q1 (by omega) q4
 ·rw[if_neg z]
  obtain e:r.1=n:=by omega
  rw[e] at q4
  exact⟨q1,q4⟩
end
def Yk{α:Type}(x:List Int×α):List (List Int×α)→List (List Int×α)
 |[]=>[x]
 |y::r=>if lxI x.1 y.1=true then x::y::r else y::Yk x r
def wg{α:Type}:List (List Int×α)→List (List Int×α)
 |[]=>[]
 |x::r=>Yk x (wg r)
theorem j6{α:Type}(x:List Int×α):∀l,(Yk x l).Perm (x::l)
 |[]=>List.Perm.refl _
 |y::r=>by
  unfold Yk
  split
  ·exact List.Perm.refl _
  ·exact((j6 x r).cons y).trans (List.Perm.swap x y r)
theorem vS{α:Type}:∀l:List (List Int×α),(wg l).Perm l
 |[]=>List.Perm.refl _
 |x::r=>(j6 x _).trans ((vS r).cons x)
theorem WT{α:Type}(x:List Int×α):∀l:List (List Int×α),l.Pairwise (fun a b=>lxI a.1 b.1=true)→(∀y∈l,y.1≠x.1)→(Yk x l).Pairwise fun a b=>lxI a.1 b.1=true
 |[],_,_=>by unfold Yk;simp
 |y::r,h,hd=>by
  unfold Yk
  obtain⟨h1,h2⟩:=pairwise_cons.mp h
  split
  ·rename_i z
   refine pairwise_cons.mpr ⟨fun a ha=>?_,h⟩
   rcases mem_cons.mp ha with rfl|ha
   ·exact z
   ·exact wC _ _ _ z (h1 a ha)
  ·rename_i z
   have z':lxI y.1 x.1=true:=ZG (by simpa using z) (hd y mem_cons_self).symm
   refine pairwise_cons.mpr ⟨fun a ha=>?_,WT x r h2 fun a ha=>hd a (mem_cons_of_mem _ ha)⟩
   rcases mem_cons.mp ((j6 x r).mem_iff.mp ha) with rfl|ha
   ·exact z'
   ·exact h1 a ha
theorem Y7{α:Type}:∀l:List (List Int×α),(l.map (·.1)).Nodup→(wg l).Pairwise fun a b=>lxI a.1 b.1=true
 |[],_=>by unfold wg;exact List.Pairwise.nil
 |x::r,h=>by
  unfold wg
  rw[map_cons,nodup_cons] at h
  refine WT x _ (Y7 r h.2) fun y hy e=>h.1 ?_
  rw[← e]
  exact mem_map.mpr ⟨y,(vS r).mem_iff.mp hy,rfl⟩
theorem Xb{α:Type}{r:α→α→Prop}(as:∀a b,r a b→r b a→False):∀{l m:List α},l.Perm m→l.Pairwise r→m.Pairwise r→l=m
 |[],m,p,_,_=>(List.Perm.nil_eq p)
 |a::l,[],p,_,_=>by have:=p.length_eq;simp at this
 |a::l,b::m,p,h1,h2=>by
  obtain⟨x1,x2⟩:=pairwise_cons.mp h1
  obtain⟨y1,y2⟩:=pairwise_cons.mp h2
  by_cases e:a=b
  ·subst e
   rw[Xb as ((List.perm_cons a).mp p) x2 y2]
  ·have ha:a∈b::m:=p.mem_iff.mp mem_cons_self
   have hb:b∈a::l:=p.mem_iff.mpr mem_cons_self
   rcases mem_cons.mp ha with z|z
   ·exact absurd z e
   ·rcases mem_cons.mp hb with w|w
    ·exact absurd w.symm e
    ·exact(as a b (x1 b w) (y1 a z)).elim
theorem Vs{α:Type}{l m:List (List Int×α)}(p:l.Perm m)(h:l.Pairwise fun a b=>lxI a.1 b.1=true)(nd:(m.map (·.1)).Nodup):l=wg m:=
 Xb (fun a b x y=>by rw[Jp x] at y;cases y) (p.trans (vS m).symm) h (Y7 m nd)
theorem Qc{α:Type}{ks:List (List Int)}{ds:List α}{q:Array Nat}{d:α}(hl:ks.length=ds.length)(nd:ks.Nodup)(hp:q.toList.Perm (List.range ds.length))(hs:Srt (fun i=>ks.getD i []) q ds.length) :
  q.toList.map (fun i=>ds.getD i d)=(wg (ks.zip ds)).map (·.2):=by
 have hz:(ks.zip ds).map (·.1)=ks:=List.map_fst_zip (by omega)
 have e0:(List.range ds.length).map (fun i=>(ks.getD i [],ds.getD i d))=ks.zip ds:=by
  apply List.ext_getElem
  ·simp[hl]
  ·intro i h1 h2
   have a1:i<ds.length:=by simpa using h1
   have a2:i<ks.length:=by omega
   simp[a1,a2]
 have key:q.toList.map (fun i=>(ks.getD i [],ds.getD i d))=wg (ks.zip ds):=by
  refine Vs (by rw[← e0];exact hp.map _) ?_ (by rw[hz];exact nd)
  rw[pairwise_map,List.pairwise_iff_getElem]
  intro i j hi hj hij
  have sz:q.size=ds.length:=ZC hp
  have:=hs i j hij (by simpa[sz] using hj)
  unfold gK at this
  rw[xZ,xZ] at this
  have ea:q[i]?=some q.toList[i]:=by rw[getElem_toList];exact Array.getElem?_eq_getElem _
  have eb:q[j]?=some q.toList[j]:=by rw[getElem_toList];exact Array.getElem?_eq_getElem _
  rw[ea,eb] at this
  exact this
 rw[← key,map_map]
 rfl
open PySem.W
def KTs(h:Heap):List Value→List (List Int)→Prop
 |[],[]=>True
 |v::vs,k::ks=>(∃a o its n,v=Value.ref a∧h.get? a=some o∧o.cls=.type "tuple" ∧ o.data=.seq its n∧IntsAre its.toList k∧k≠[])∧KTs h vs ks
 |_,_=>False
theorem KTs.len{h:Heap}:∀{vs:List Value} {ks:List (List Int)},KTs h vs ks→vs.length=ks.length
 |[],[],_=>rfl
 |_::vs,_::ks,r=>by rw[length_cons,length_cons,KTs.len r.2]
 |[],_::_,r=>r.elim
 |_::_,[],r=>r.elim
theorem KTs.get{h:Heap}:∀{vs:List Value} {ks:List (List Int)} {i:Nat},KTs h vs ks→i<ks.length→∃a o its n,vs.getD i Value.none=Value.ref a∧h.get? a=some o∧o.cls=.type "tuple" ∧ o.data=.seq its n∧IntsAre its.toList (ks.getD i [])∧ks.getD i []≠[]
 |[],[],_,_,hi=>by simp at hi
 |_::vs,_::ks,0,r,_=>by simpa using r.1
 |_::vs,_::ks,i+1,r,hi=>by
  obtain⟨a,o,its,n,q⟩:=KTs.get (i:=i) r.2 (by simpa using hi)
  exact⟨a,o,its,n,by simpa using q⟩
 |[],_::_,_,r,_=>r.elim
 |_::_,[],_,r,_=>r.elim
theorem KTs.firsts{h:Heap}:∀{vs:List Value} {ks:List (List Int)},KTs h vs ks→∃fs:List Value,KatTups h vs fs∧fs.length=vs.length∧∀v∈fs,∃n t,v=Value.int n t
 |[],[],_=>⟨[],KatTups.nil,rfl,fun _ z=>nomatch z⟩
 |v::vs,k::ks,⟨⟨a,o,its,n,e1,e2,e3,e4,e5,e6⟩,r⟩=>by
  obtain⟨fs,q1,q2,q3⟩:=KTs.firsts r
  subst e1
  have:∃i t,its[0]?=some (Value.int i t):=by
   obtain⟨l⟩:=its
   cases e5 with
   |nil=>exact absurd rfl e6
   |cons i t _=>exact⟨i,t,rfl⟩
  obtain⟨i,t,h0⟩:=this
  refine⟨_,KatTups.cons e2 e3 e4 h0 q1,by simp[q2],fun v hv=>?_⟩
  rcases mem_cons.mp hv with rfl|hv
  ·exact⟨_,_,rfl⟩
  ·exact q3 v hv
 |[],_::_,r=>r.elim
 |_::_,[],r=>r.elim
section
variable{prog:Program}{w:World}{A:Around}{E:Value→Shared→Prop}{s:Shared}
theorem Jw{vs:List Value}{ks:List (List Int)}{Q:SortKind→Shared→Prop}(h:KTs s.heap vs ks)(hn:0<vs.length)(q:Q (tuples' true) s):wpAny (model prog w) A (keyKind' vs.toArray) Q E s:=by
 obtain⟨fs,q1,q2,q3⟩:=h.firsts
 refine kat_kind (T:=.type "int") q1 (by omega) (fun v hv=>?_) (by decide) q
 obtain⟨i,t,rfl⟩:=q3 v hv
 exact Looks.now
theorem WJ{Q:Bool→Shared→Prop}{fin:Bool}:∀{xs ys:List Int} {us ws:List Value} (i:Nat),IntsAre us xs→IntsAre ws ys→fin=decide (xs.length<ys.length)→Q (lxI xs ys) s→KatLex prog w A true fin Q (us.zip ws) i s
 |_,_,_,_,i,.nil,.nil,e,q=>by
  have e:fin=false:=by simpa using e
  subst e
  exact kat_nil q
 |_,_,_,_,i,.nil,.cons _ _ _,e,q=>by
  have e:fin=true:=by simpa using e
  subst e
  exact kat_nil q
 |_,_,_,_,i,.cons _ _ _,.nil,e,q=>by
  have e:fin=false:=by simpa using e
  subst e
  exact kat_nil q
 |_,_,_,_,i,.cons a t r1,.cons b u r2,e,q=>by
  rw[lxI] at q
  refine kat_cons (wpAny_eqBool_int ?_)
  by_cases z:a=b
  ·subst z
   rw[if_pos rfl] at q
   rw[beq_self_eq_true]
   exact kat_yes (WJ (i+1) r1 r2 (by rw[e];simp) q)
  ·rw[if_neg z] at q
   rw[show(a==b)=false by simpa using z]
   refine kat_no ?_
   cases hi:(true&&i==0) with
   |true=>exact oneLt_int q
   |false=>exact kat_one _ _ (PyProof.Rows.lt_int (show PySem.W.BoolBack Q (.bool (decide (a<b))) s from q))
theorem GT{vs:List Value}{ks:List (List Int)}{n:Nat}(h:KTs s.heap vs ks)(hn:ks.length=n)(i j:Nat)(C:Bool→Shared→Prop)(hi:i<n)(hj:j<n)(q:C (ltK (fun i=>ks.getD i []) i j) s):kas_ask prog w A (tuples' true) vs i j C s:=by
 obtain⟨a,o,its,m,e1,e2,e3,e4,e5,e6⟩:=h.get (i:=i) (by omega)
 obtain⟨a',o',its',m',f1,f2,f3,f4,f5,f6⟩:=h.get (i:=j) (by omega)
 unfold kas_ask
 rw[e1,f1]
 refine kat_lt e2 e4 f2 f4 (WJ 0 e5 f5 ?_ q)
 have l1:=e5.length
 have l2:=f5.length
 rw[length_toList] at l1 l2
 rw[l1,l2]
theorem Qk{vs us:List Value}{ks:List (List Int)}{Q:SortSt→Shared→Prop}(h:KTs s.heap vs ks)(hl:vs.length=us.length)(h2:2≤us.length)(h64:us.length<64)(nd:ks.Nodup)
  (q:∀(p:Array Nat) (st:SortSt),PmK us.length p→Srt (fun i=>ks.getD i []) p us.length→(arrOf st).map (·.2)=List.toArray (p.toList.map fun i=>us.getD i Value.none)→failedOf st=none→Q st s) :
  wpAny (model prog w) A ((sortRuns').run (SortSt.mk' (tuples' true) (vs.toArray.zip us.toArray) #[] 7 none)) (fun r s'=>Q r.2 s') E s:=by
 have hk:ks.length=us.length:=by rw[← h.len,hl]
 refine kat_run (G:=fun p s'=>s'=s∧PmK us.length p∧Srt (fun i=>ks.getD i []) p us.length) hl h2 h64 (fun p st' s' h1 h3 h4 h5=>?_) ?_
 ·obtain⟨rfl,h5,h6⟩:=h5
  exact q p st' h5 h6 (kat_snds hl h3) h4
 ·have inj:∀i j,i<us.length→j<us.length→ks.getD i []=ks.getD j []→i=j:=fun i j hi hj e=>by
   have key:∀a b:Nat,a<b→b<us.length→ks.getD a []≠ks.getD b []:=fun a b hab hb=>by
    have:=List.pairwise_iff_getElem.mp nd a b (by omega) (by omega) hab
    have ea:ks.getD a []=ks[a]'(by omega):=by simp[show a<ks.length by omega]
    have eb:ks.getD b []=ks[b]'(by omega):=by simp[show b<ks.length by omega]
    rw[ea,eb];exact this
   rcases Nat.lt_trichotomy i j with z|z|z
   ·exact absurd e (key i j z hj)
   ·exact z
   ·exact absurd e.symm (key j i z hi)
  exact Pw.wp (fun i j C hi hj=>GT h hk i j C hi hj) (fun p hp=>⟨rfl,hp⟩) _ (Mc (κ:=fun i=>ks.getD i []) inj h2)
end
def Yj:List D→Option (List Int)
 |[]=>some []
 |.int i::r=>(Yj r).map (i :: ·)
 |_=>none
def M8:D→Option (List Int)
 |.tup ds=>Yj ds
 |_=>none
theorem WR:∀{ds:List D} {ns:List Int},Yj ds=some ns→ds=ns.map D.int
 |[],ns,h=>by cases h;rfl
 |.int i::r,ns,h=>by
  simp only[Yj] at h
  cases q:Yj r with
  |none=>rw[q] at h;cases h
  |some m=>rw[q] at h;cases h;rw[WR q];rfl
 |.non::_,_,h=>by cases h
 |.bl _::_,_,h=>by cases h
 |.str _::_,_,h=>by cases h
 |.lst _::_,_,h=>by cases h
 |.tup _::_,_,h=>by cases h
 |.scr _::_,_,h=>by cases h
 |.raw _::_,_,h=>by cases h
 |.exc _::_,_,h=>by cases h
theorem M7{d:D}{ns:List Int}(h:M8 d=some ns):d=.tup (ns.map D.int):=by
 cases d <;> first|cases h|skip
 rename_i ds
 rw[WR (ds:=ds) h]
def Zk:List D→Option (List (List Int))
 |[]=>some []
 |d::r=>match M8 d,Zk r with
  |some k,some ks=>some (k::ks)
  |_,_=>none
theorem WM:∀{ds:List D} {ks:List (List Int)},Zk ds=some ks→ds=ks.map fun k=>D.tup (k.map D.int)
 |[],ks,h=>by cases h;rfl
 |d::r,ks,h=>by
  simp only[Zk] at h
  cases q:M8 d with
  |none=>rw[q] at h;cases h
  |some k=>
   cases q2:Zk r with
   |none=>rw[q,q2] at h;cases h
   |some ks'=>
    rw[q,q2] at h;cases h
    rw[M7 q,WM q2];rfl
section
variable[Tabs]{X:Cx}{pins:List (Addr×Obj)}{σ:St}{F H:Hp}{s:Shared}
theorem WQ:∀{ns:List Int} {vs:List V} {us:List Value},Reps X.K F (ns.map D.int) vs→Vals vs us→IntsAre us ns
 |[],_,_,r,v=>by
  simp only[map_nil,Reps] at r;subst r
  cases v;exact .nil
 |n::ns,_,_,r,v=>by
  simp only[map_cons,Reps] at r
  obtain⟨x,xs,rfl,rx,rr⟩:=r
  simp only[Rep] at rx
  subst rx
  cases v with
  |cons e t=>
   rename_i u us
   obtain⟨t',e⟩:∃t',u=Value.int n t':=e
   subst e
   exact .cons _ _ (WQ rr t)
theorem Gf(I:Inv X pins σ H s)(fh:Same F H):∀{ks:List (List Int)} {vs:List V} {us:List Value},Reps X.K F (ks.map fun k=>D.tup (k.map D.int)) vs→Vals vs us→(∀k∈ks,k≠[])→KTs s.heap us ks
 |[],_,_,r,v,_=>by
  simp only[map_nil,Reps] at r;subst r
  cases v;exact trivial
 |k::ks,_,_,r,v,ne=>by
  simp only[map_cons,Reps] at r
  obtain⟨x,xs,rfl,rx,rr⟩:=r
  simp only[Rep] at rx
  obtain⟨a,ws,rfl,q,t⟩:=rx
  obtain⟨its,rv,⟨o,eo,hc,n,hd⟩,hz⟩:=I.tuple (Same.seqT fh q)
  cases v with
  |cons e tl=>
   rename_i u us
   have e:u=Value.ref a:=e
   subst e
   exact⟨⟨a,o,its.toArray,n,rfl,eo,hc,hd,by simpa using WQ t rv,ne k mem_cons_self⟩,Gf I fh rr tl fun k hk=>ne k (mem_cons_of_mem _ hk)⟩
theorem Reps.pick{K:PySem.W.Frag}{ds:List D}{vs:List V}(r:Reps K F ds vs):∀(q:List Nat),(∀i∈q,i<ds.length)→Reps K F (q.map fun i=>ds.getD i .non) (q.map fun i=>vs.getD i .non)
 |[],_=>Reps.nil
 |i::q,h=>by
  have hi:=h i mem_cons_self
  obtain⟨v,e1,e2⟩:=r.get (i:=i) (getElem?_eq_getElem hi)
  have z1:ds.getD i .non=ds[i]:=by simp[hi]
  have z2:vs.getD i .non=v:=by simp[e1]
  rw[map_cons,map_cons,z1,z2]
  exact Reps.cons e2 (Reps.pick r q fun j hj=>h j (mem_cons_of_mem _ hj))
theorem YZ{vs:List V}{us:List Value}(r:Vals vs us):∀(q:List Nat),(∀i∈q,i<vs.length)→Vals (q.map fun i=>vs.getD i .non) (q.map fun i=>us.getD i .none)
 |[],_=>.nil
 |i::q,h=>by
  have hi:=h i mem_cons_self
  obtain⟨u,e1,e2⟩:=r.get (i:=i) (getElem?_eq_getElem hi)
  have z1:vs.getD i .non=vs[i]:=by simp[hi]
  have z2:us.getD i .none=u:=by simp[e1]
  rw[map_cons,map_cons,z1,z2]
  exact .cons e2 (YZ r q fun j hj=>h j (mem_cons_of_mem _ hj))
end
open PySem.W
section
variable{X:Cx}{pins:List (Addr×Obj)}{σ:St}{F H:Hp}{τ:DS}{s:Shared}{Q:VK}{E:Value→Shared→Prop}
theorem Inv.relist(I:Inv X pins σ H s){a:Addr}{xs ys:List V}{us ws:List Value}{n:Nat}{g:Array Value→Array Value}(e:H a=some (.lst xs))(o:s.heap.get? a=some (seqObj "list" us.toArray n))(hg:g us.toArray=ws.toArray)(r:Vals ys ws)(hz:ys.length≤sizeLine) :
  Inv X pins σ (upd H a (.lst ys)) { s with heap:=s.heap.update a (Obj.mapSeq g) }:=by
 have h1:=get?_update_seq o g
 rw[hg] at h1
 exact I.write (t':=s.toks) (by rw[e];exact trivial) (.inl rfl) (fun b u hb q=>by rw[Heap.get?_update_ne _ _ _ _ hb];exact q) ⟨_,h1⟩ ⟨hz,ws,_,r,h1⟩
theorem Inv.settle(I:Inv X (pins++[p]) σ H s){D:Addr}{n:Nat}{ys:List V}{ws:List Value}{g:Array Value→Array Value}(hp:p=(D,seqObj "list" #[] n))(hg:g #[]=ws.toArray)(r:Vals ys ws)(hz:ys.length≤sizeLine)
  (h0:X.s₀.heap.objs.size≤D) (hc:∀x c,X.env.cells.lookup x=some c→c≠D) (hn:∀q∈X.pn++pins,q.1≠D):Inv X pins σ (upd H D (.lst ys)) { s with heap:=s.heap.update D (Obj.mapSeq g) }:=by
 subst hp
 obtain⟨e,nD,neL,nf,_⟩:=I.pin (D,seqObj "list" #[] n) (by simp)
 have J:Inv X pins σ H s:=I.pins_of fun q hq=>I.pin q (mem_append_right _ (mem_append_left _ hq))
 have h1:=get?_update_seq e g
 rw[hg] at h1
 have kp:∀b u,b≠D→s.heap.get? b=some u→(s.heap.update D (Obj.mapSeq g)).get? b=some u:=fun b u hb q=>by rw[Heap.get?_update_ne _ _ _ _ hb];exact q
 refine J.step (g':=s.gens) (d':=s.drawn) (t':=s.toks) (ch:=[D]) (fun b hb=>?_) (fun b o _ _ hb q _=>kp b o (by simpa using hb) q) (fun b o _ _ hb q _=>⟨o.slots,kp b o (by simpa using hb) q⟩) (fun b o hb _ q=>by rw[zB (by simpa using hb)];exact q)
  (fun b o hb q=>⟨o,kp b o (by simpa using hb) q⟩) (fun b xs q=>by rw[zB (z9 q nD)];exact q) (fun b o u q=>by rw[zB (z9 q nD)];exact q) (fun b ps q=>⟨#[],by rw[zB (z9 q nD),q];simp⟩) (fun m hm=>?_) ?_ J.bare
 ·have:b=D:=by simpa using hb
  subst this
  exact⟨.inr h0,neL,hc,hn⟩
 ·obtain⟨o,es,ep,ho,r'⟩:=hm
  exact⟨o,es,ep,kp _ o (Ne.symm neL) ho,r'⟩
 ·intro b u q
  by_cases hb:b=D
  ·subst hb
   rw[zG] at q;cases q
   exact⟨hz,ws,_,r,h1⟩
  ·rw[zB hb] at q
   refine(J.hok b u q).stay (fun c v hc' q'=>kp c v ?_ q') (fun c q'=>by rw[zB (z9 q' nD)];exact q') fun c xs q'=>by rw[zB (z9 q' nD)];exact q'
   rcases hc' with z|z
   ·rw[z];exact hb
   ·exact z9 z nD
theorem UV:Vals ([]:List V) []:=.nil
theorem V7{D kS:Addr}{e1:Nat}{st:SortSt}{kvs ovs:List V}{out:List Value}{P:PySem.Fin→Shared→Prop}{A:Around}(I:Inv X (pins++[(D,seqObj "list" #[] e1)]) σ H s)(hk:H kS=some (.lst kvs))(hout:(arrOf st).map (·.2)=List.toArray out)(hf:failedOf st=none)(hz:out.length<64)
  (r:Vals ovs out) (hkz:kvs.length≤sizeLine) (h0:X.s₀.heap.objs.size≤D) (hc:∀x c,X.env.cells.lookup x=some c→c≠D) (hn:∀q∈X.pn++pins,q.1≠D)
  (h:∀s',Inv X pins σ (upd (upd H kS (.lst [])) D (.lst ovs)) s'→P (.done (.ret .none)) s'):wpAny (model X.prog X.w) A (ksk_tail D false e1 (.ref kS) st) P E s:=by
 obtain⟨z1,its,n,rk,ek⟩:=I.hok kS _ hk
 have lk:its.length≤sizeLine:=by rw[← rk.length];exact hkz
 have I1:=Inv.relist (g:=fun _=>#[]) I hk ek (ws:=[]) rfl UV (zero_le _)
 obtain⟨eD,nD,_⟩:=I1.pin (D,seqObj "list" #[] e1) (by simp)
 unfold ksk_tail
 try dsimp only
 refine wpAny_bind (listUpdate_at ek rfl ?_ (by rw[size_toArray];exact lk) (zero_le _))
 refine wpAny_bind (wpAny_letGo ?_)
 refine wpAny_bind (seqEpoch_at eD rfl ?_)
 refine wpAny_bind (listUpdate_at eD rfl ?_ (zero_le _) ?_)
 ·rw[hf]
  simp only[bne_self_eq_false,Bool.false_eq_true,if_false]
  exact wpAny_pure (h _ (Inv.settle I1 rfl (ws:=out) hout r (by rw[r.length];exact le_of_lt (wc (by omega))) h0 hc hn))
 ·simp only[Bool.false_eq_true,if_false]
  rw[hout,size_toArray]
  exact le_trans (le_of_lt (wc (by omega))) (Nat.le_succ _)
theorem Vr:∀{kz:List (List Int)} {ds:List D},kz.length=ds.length→ds.length<2→(wg (kz.zip ds)).map (·.2)=ds
 |[],[],_,_=>rfl
 |[a],[b],_,_=>rfl
 |[],_::_,h,_=>by simp at h
 |[_],[],h,_=>by simp at h
 |[_],_::_::_,h,_=>by simp at h
 |_::_::_,ds,h,h2=>by simp at h;omega
theorem zb5{Da kS:Addr}{e1:Nat}{kvs vs:List V}{us:List Value}{ds:List D}{kz:List (List Int)}{P:PySem.Fin→Shared→Prop}{A:Around}(I:Inv X (pins++[(Da,seqObj "list" #[] e1)]) σ H s)(hk:H kS=some (.lst kvs)){ks:List Value}{n:Nat}(ek:s.heap.get? kS=some (seqObj "list" ks.toArray n))(rk:Vals kvs ks)
  (fh:Same F H) (kr:Reps X.K F (kz.map fun k=>FD.D.tup (k.map FD.D.int)) kvs) (ne:∀k∈kz,k≠[]) (nd:kz.Nodup) (hl:kz.length=ds.length) (rs:Reps X.K F ds vs) (rv:Vals vs us) (hz:us.length<64)
  (h0:X.s₀.heap.objs.size≤Da) (hc:∀x c,X.env.cells.lookup x=some c→c≠Da) (hn:∀q∈X.pn++pins,q.1≠Da)
  (h:∀s' ovs,Inv X pins σ (upd (upd H kS (.lst [])) Da (.lst ovs)) s'→Reps X.K F ((wg (kz.zip ds)).map (·.2)) ovs→P (.done (.ret .none)) s'):wpAny (model X.prog X.w) A (ksk_end Da false us.toArray e1 (.ref kS) ks.toArray) P E s:=by
 have l1:ds.length=us.length:=by rw[rs.length,rv.length]
 have l2:ks.length=us.length:=by rw[← rk.length,← kr.length,length_map,hl,l1]
 have hkz:kvs.length≤sizeLine:=by rw[rk.length,l2];exact le_of_lt (wc (by omega))
 unfold ksk_end
 try dsimp only
 simp only[Bool.false_eq_true,if_false]
 by_cases h2:us.length<2
 ·have h2':us.toArray.size<2:=by rw[size_toArray];exact h2
  rw[if_pos h2',if_pos h2']
  refine wpAny_bind (wpAny_pure ?_)
  rw[StateT.run_pure]
  refine wpAny_bind (wpAny_pure ?_)
  try dsimp only
  refine V7 (out:=us) (ovs:=vs) I hk ?_ rfl hz rv hkz h0 hc hn fun s' J=>h s' vs J ?_
  ·show((ks.toArray.zip us.toArray).map (·.2))=us.toArray
   apply Array.toList_inj.mp
   rw[Array.toList_map,ksk_zip]
   exact List.map_snd_zip (by simp[l2])
  ·rw[Vr hl (by omega)];exact rs
 ·have h2':¬ us.toArray.size<2:=by rw[size_toArray];exact h2
  rw[if_neg h2',if_neg h2']
  have kt:=Gf I fh kr rk ne
  refine wpAny_bind (Jw kt (by omega) ?_)
  refine wpAny_bind (Qk (Q:=fun st s'=>wpAny (model X.prog X.w) A (ksk_tail Da false e1 (.ref kS) st) P E s') kt l2 (by omega) hz nd fun p st h3 h4 h5 h6=>?_)
  have hp:∀i∈p.toList,i<us.length:=fun i hi=>by simpa using h3.mem_iff.mp hi
  refine V7 (ovs:=p.toList.map fun i=>vs.getD i .non) I hk h5 h6 ?_ (YZ rv _ fun i hi=>by rw[rv.length];exact hp i hi) hkz h0 hc hn fun s' J=>h s' _ J ?_
  ·rw[length_map,h3.length_eq,length_range];exact hz
  ·rw[← Qc (q:=p) (d:=.non) hl nd (by rw[l1];exact h3) (by rw[l1];exact h4)]
   exact Reps.pick rs _ fun i hi=>by rw[l1];exact hp i hi
end
open PySem.W
section
variable{X:Cx}{pins:List (Addr×Obj)}{σ:St}{F H:Hp}{τ:DS}{s:Shared}{Q:VK}{E:Value→Shared→Prop}
theorem Vq{l f:Addr}{ds:List D}{vs:List V}{kz:List (List Int)}(I:Inv X pins σ H s)(fh:Same F H)(hl:F l=some (.lst vs))(rs:Reps X.K F ds vs)(h64:ds.length<64)(hk:kz.length=ds.length)(nd:kz.Nodup)(ne:∀k∈kz,k≠[])
  (key:∀(i:Nat) (d:D) (k:List Int),ds[i]?=some d→kz[i]?=some k→∀(pins':List (Addr×Obj)) (s':Shared) (F' H':Hp) (v:V) (u:Value) (Q':VK),Inv X pins' σ H' s'→(∀p∈pins,p∈pins')→Ext F H F' H'→Rep X.K F' d v→RelV v u →
   (∀kv F'' H'',Ext F' H' F'' H''→Rep X.K F'' (.tup (k.map D.int)) kv→Q' kv H'')→wpAny (model X.prog X.w) X.A.in1.in1 (call (.ref f) [u]) (EP X pins' σ Q') (fun _ _=>False) s')
  (hQ:∀Da F' H',Ext F H F' H'→Rep X.K F' (.lst ((wg (kz.zip ds)).map (·.2))) (.ref Da)→Q (.ref Da) H') :
  wpAny (model X.prog X.w) X.A (call (.builtin "sorted") [.ref l] [(Str.ofString "key", .ref f)]) (EP X pins σ Q) E s:=by
 obtain⟨us,rv,⟨o,nn,eo,hc,hd0,hd⟩,hz⟩:=I.list (SqL.of (K:=X.K) (fh _ _ hl))
 have hil:s.heap.IsList l us.toArray:=⟨o,eo,hc,nn,hd⟩
 have l1:ds.length=us.length:=by rw[rs.length,rv.length]
 have sz:us.length≤sizeLine:=le_of_lt (wc (by omega))
 refine call_function_entry_kw kind_sorted plain_sorted entry_sorted (ksk_s1 _ _) ?_
 unfold Builtin.«sorted»
 refine wpAny_bind (m:=checkCount "sorted" 1 1 _) (wpAny_pure ?_)
 refine wpAny_bind (collect_list hil ?_ sz)
 refine wpAny_bind (wpAny_newList ?_ sz)
 have keep1:∀b u,s.heap.get? b=some u→((s.heap.push (seqObj "list" #[] 0)).update s.heap.objs.size (Obj.mapSeq (· ++ us.toArray))).get? b=some u:=fun b u q=>by
  have hb:b<s.heap.objs.size:=Heap.lt_size q
  rw[Heap.get?_update_ne _ _ _ _ (ne_of_lt hb),Heap.get?_push_ne _ _ _ (ne_of_lt hb)]
  exact q
 have size1:s.heap.objs.size≤((s.heap.push (seqObj "list" #[] 0)).update s.heap.objs.size (Obj.mapSeq (· ++ us.toArray))).objs.size:=by rw[Heap.size_update,size_push'];omega
 generalize hh1:(s.heap.push (seqObj "list" #[] 0)).update s.heap.objs.size (Obj.mapSeq (· ++ us.toArray))=h1 at keep1 size1
 have hD:(h1.push (seqObj "list" us.toArray 0)).get? h1.objs.size=some (seqObj "list" us.toArray 0):=Heap.get?_push_size _ rfl
 have keep2:∀b u,s.heap.get? b=some u→(h1.push (seqObj "list" us.toArray 0)).get? b=some u:=fun b u q=>Heap.get?_push_of_some _ (keep1 b u q)
 generalize hDa:h1.objs.size=Da at hD size1
 have neD:∀b u,s.heap.get? b=some u→b≠Da:=fun b u q=>ne_of_lt (lt_of_lt_of_le (Heap.lt_size q) size1)
 generalize hh2:h1.push (seqObj "list" us.toArray 0)=h2 at hD keep2
 have ltD:Da<h2.objs.size:=Heap.lt_size hD
 refine wpAny_bind (wpAny_holding (wpAny_call_entry_kw (rest:=[]) slot_list_sort ⟨_,hD,rfl⟩ entry_list_sort ?_ (ksk_l1 _ _)))
 show wpAny (model X.prog X.w) X.A.in1.in1 (Builtin.«list.sort» ⟨[.ref Da],[(Str.ofString "key", .ref f)]⟩) _ _ _
 rw[ksk_t1 f Da]
 unfold ksk_tree
 refine wpAny_bind (listItems_at hD rfl ?_)
 refine wpAny_bind (listUpdate_at hD rfl ?_ (by rw[size_toArray];exact sz) (zero_le _))
 have keep3:∀b u,s.heap.get? b=some u→(h2.update Da (Obj.mapSeq fun _=>(#[]:Array Value))).get? b=some u:=fun b u q=>by
  rw[Heap.get?_update_ne _ _ _ _ (neD b u q)];exact keep2 b u q
 obtain⟨e1,hD3⟩:∃e1,(h2.update Da (Obj.mapSeq fun _=>(#[]:Array Value))).get? Da=some (seqObj "list" #[] e1):=⟨_,get?_update_seq hD fun _=>#[]⟩
 generalize h2.update Da (Obj.mapSeq fun _=>(#[]:Array Value))=h3 at keep3 hD3
 refine wpAny_bind (seqEpoch_at hD3 rfl ?_)
 refine wpAny_bind (wpAny_newTuple ?_ (by show us.length≤sizeLine;exact sz))
 refine wpAny_bind (wpAny_newList ?_ (zero_le _))
 refine wpAny_holding ?_
 have hDa0:s.heap.objs.size≤Da:=size1
 have nH:H Da=none:=I.hok.fresh hDa0
 have neL:Da≠X.env.locals:=(ne_of_lt (lt_of_lt_of_le I.lt hDa0)).symm
 have pinD:∀q∈X.pn++pins,q.1≠Da:=fun q hq=>neD _ _ (I.pin q hq).1
 have cellD:∀x c,X.env.cells.lookup x=some c→c≠Da:=fun x c e=>by
  obtain⟨v,oc,hoc,_⟩:=I.cell x c e
  exact neD _ _ hoc
 have I1:Inv X pins σ H { s with heap:=h3.push (seqObj "tuple" us.toArray 0) }:=I.kept (t':=s.toks) fun b u q=>Heap.get?_push_of_some _ (keep3 b u q)
 have I2:Inv X (pins++[(Da,seqObj "list" #[] e1)]) σ H { s with heap:=h3.push (seqObj "tuple" us.toArray 0) }:=I1.pins_of fun q hq=>by
  rcases mem_append.mp hq with hq|hq
  ·exact I1.pin q (mem_append_right _ hq)
  ·have:q=(Da,seqObj "list" #[] e1):=by simpa using hq
   subst this
   exact⟨Heap.get?_push_of_some _ hD3,nH,neL,I.nofs hDa0,fun v z=>nomatch z⟩
 have szk:s.heap.objs.size≤(h3.push (seqObj "tuple" us.toArray 0)).objs.size:=le_of_lt (Nat.lt_of_le_of_lt hDa0 (Heap.lt_size (Heap.get?_push_of_some _ hD3)))
 have hkS:H (h3.push (seqObj "tuple" us.toArray 0)).objs.size=none:=I.hok.fresh szk
 have I3:=I2.laid (t':=s.toks) (a:=(h3.push (seqObj "tuple" us.toArray 0)).objs.size) (o:=.lst []) (h':=(h3.push (seqObj "tuple" us.toArray 0)).push (seqObj "list" #[] 0)) (fun b u q=>Heap.get?_push_of_some _ q) (le_refl _) ⟨zero_le _,[],0,.nil,Heap.get?_push_size _ rfl⟩
 generalize hkk:(h3.push (seqObj "tuple" us.toArray 0)).objs.size=kS at hkS I3
 have h0D:X.s₀.heap.objs.size≤Da:=le_trans I.sz hDa0
 unfold ksk_rest
 refine wpAny_bind (wpAny_rule ?_)
 first
  | rw[List.forIn_toArray]
  | (rw[← Array.forIn_toList];simp only[List.toList_toArray])
 refine wpAny_bind (ksk_fold (fun i s'=>∃F2 Hm kvs,Ext F H F2 Hm∧Hm kS=none∧Inv X (pins++[(Da,seqObj "list" #[] e1)]) σ (upd Hm kS (.lst kvs)) s'∧Reps X.K F2 ((kz.take i).map fun k=>D.tup (k.map D.int)) kvs) us 0 _
  ⟨F,H,[],Ext.refl fh,hkS,I3,by simpa using Reps.nil⟩ ?step ?done)
 case step=>
  rintro j x s' hx ⟨F2,Hm,kvs,x2,hm,I4,rk⟩
  simp only[zero_add] at rk ⊢
  have hj:j<us.length:=(List.getElem?_eq_some_iff.mp hx).1
  obtain⟨d,hd⟩:∃d,ds[j]?=some d:=⟨_,getElem?_eq_getElem (by omega)⟩
  obtain⟨k,hkj⟩:∃k,kz[j]?=some k:=⟨_,getElem?_eq_getElem (by omega)⟩
  obtain⟨v,hv,rd⟩:=rs.get hd
  obtain⟨u,hu,ru⟩:=rv.get hv
  rw[hx] at hu;cases hu
  have xo:Ext F2 Hm F2 (upd Hm kS (.lst kvs)):=Ext.open x2.fh hm
  refine wpAny_bind (wpAny_attempt (wpAny_mono (key j d k hd hkj _ s' F2 _ v x (fun kv H''=>∃F'',Ext F2 (upd Hm kS (.lst kvs)) F'' H''∧Rep X.K F'' (.tup (k.map D.int)) kv) I4 (fun p hp=>mem_append_left _ hp) (x2.trans xo) (rd.mono x2.ff) ru (fun kv F'' H'' y r=>⟨F'',y,r⟩)) (fun kval s'' hk''=>?_) fun _ _ z=>z.elim))
  obtain⟨kv,H'',I5,rkv,F'',x5,rp⟩:=hk''
  have hkS5:H'' kS=some (.lst kvs):=x5.hh _ _ zG
  obtain⟨z1,its,n,rki,ek⟩:=I5.hok kS _ hkS5
  have lk:kvs.length=j:=by
   rw[← rk.length,length_map,length_take];omega
  have li:its.length=j:=by rw[← rki.length];exact lk
  have I6:=Inv.relist (g:=(·.push kval)) I5 hkS5 ek (ws:=its++[kval]) (by simp) (rki.append (.cons rkv .nil)) (by rw[length_append,lk];exact le_of_lt (wc (by simp;omega)))
  obtain⟨y1,y2⟩:=Ys x2 hm x5
  try dsimp only
  refine wpAny_bind (listUpdate_at ek rfl ?_ (by rw[size_toArray,li];exact le_of_lt (wc (by omega))) ?_)
  ·refine wpAny_pure ⟨rfl,F'',wR H'' kS,kvs++[kv],y1,uD _ _,by rw[ZP];exact I6,?_⟩
   have tk:kz.take (j+1)=kz.take j++[k]:=by
    rw[List.take_add_one,hkj];rfl
   rw[tk,map_append]
   exact(rk.mono x5.ff).append (Reps.cons rp Reps.nil)
  ·rw[Array.size_push,size_toArray,li];exact le_trans (le_of_lt (wc (by omega))) (Nat.le_succ _)
 case done=>
  rintro s' ⟨F2,Hm,kvs,x2,hm,I4,rk⟩
  simp only[zero_add] at rk
  rw[List.take_of_length_le (by omega)] at rk
  obtain⟨z1,ks,n,rki,ek⟩:=I4.hok kS _ zG
  refine wpAny_bind (listItems_at ek rfl ?_)
  have xo:Ext F2 Hm F2 (upd Hm kS (.lst kvs)):=Ext.open x2.fh hm
  refine zb5 I4 zG ek rki xo.fh rk ne nd hk (rs.mono x2.ff) rv (by omega) h0D cellD pinD fun s5 ovs J ro=>?_
  refine⟨_,rfl,wpAny_pure ⟨_,rfl,.ref Da,_,J,rfl,hQ Da (upd F2 Da (.lst ovs)) _ ?_ ?_⟩⟩
  ·have hmD:Hm Da=none:=by
    obtain⟨_,nD,_⟩:=I4.pin (Da,seqObj "list" #[] e1) (by simp)
    by_cases z:Da=kS
    ·rw[z];exact hm
    ·rw[zB z] at nD;exact nD
   have eq1:upd (upd (upd Hm kS (.lst kvs)) kS (.lst [])) Da (.lst ovs)=upd (upd Hm kS (.lst [])) Da (.lst ovs):=by
    congr 1;funext b;unfold upd;split <;> rfl
   rw[eq1]
   have kD:(upd Hm kS (.lst [])) Da=none:=by
    obtain⟨_,nD,_⟩:=I4.pin (Da,seqObj "list" #[] e1) (by simp)
    by_cases z:Da=kS
    ·rw[z,zG] at nD;cases nD
    ·rw[zB z];exact hmD
   exact(x2.trans (Ext.open (o:=.lst []) x2.fh hm)).trans (Ext.new ((x2.trans (Ext.open (o:=.lst []) x2.fh hm)).fh) kD)
  ·have hF:F2 Da=none:=by
    obtain⟨_,nD,_⟩:=I4.pin (Da,seqObj "list" #[] e1) (by simp)
    exact yi xo.fh nD
   simp only[Rep]
   exact⟨Da,ovs,rfl,zG,ro.mono (yD hF)⟩
end
open PySem.W
def _root_.L2.Cx.lam(X:Cx)(scope:Scope)(N:List Str)(s:Shared)(H:Hp)(qual:Str)(f:Addr)(cd:Value):Cx:=
 { prog:=X.prog,w:=X.w,K:=X.K,mg:=X.mg,base:=X.base,A:=X.A.in1.in1.deeper (envX qual scope s.heap.objs.size f cd (xV scope X.env)),N:=N,s₀:=s,H₀:=H,env:=envX qual scope s.heap.objs.size f cd (xV scope X.env),outer:=X.stack,
   stack:=envX qual scope s.heap.objs.size f cd (xV scope X.env)::X.stack,ex:=[],fn:=fun _=>false,calm:=true,pn:=[],xe:=fun _ _=>False }
section
variable{X:Cx}{scope:Scope}{N':List Str}{pins:List (Addr×Obj)}{σ σ':St}{F H:Hp}{τ:DS}{s:Shared}
theorem M5{h1:Heap}{t:Nat}{qual p:Str}{f:Addr}{cd u:Value}{v:V}(S:xF X scope)(hd:X.A.handled=none)(I:Inv X pins σ H s)(hp:scope.names.lookup p=some .local)(hN:N'[0]?=some p)(rv:RelV v u)
  (hn:h1.Ns s.heap.objs.size fun x=>([(p,u)]:List (Str×Value)).reverse.lookup x) (hsb:∀b o,s.heap.get? b=some o→h1.get? b=some o) (hl:σ'.length=N'.length) (h0:σ'[0]?=some (some v))
  (hσ:∀(i:Nat) (v:V),i≠0→σ'[i]?=some (some v)→∃(x:Str) (j:Nat),N'[i]?=some x∧X.N[j]?=some x∧σ[j]?=some (some v)∧scope.names.lookup x=some .free) :
  Inv (X.lam scope N' s H qual f cd) [] σ' H { s with heap:=h1,toks:=t }:=by
 have hH:H s.heap.objs.size=none:=I.hok.fresh (le_refl _)
 have cl:∀{x c},(xV scope X.env).lookup x=some c→X.env.cells.lookup x=some c:=fun h=>Zc S I.ok h
 have kept:∀{c v},s.heap.IsCell c v→h1.IsCell c v:=fun ⟨o,e,d⟩=>⟨o,hsb _ o e,d⟩
 have noA:∀b:Addr,b∉(X.lam scope N' s H qual f cd).ex:=fun b z=>absurd (show b∈([]:List Addr) from z) (by simp)
 refine⟨⟨I.ok.mod,S.kind,rfl,rfl,le_refl _,fun x y c e1 e2=>I.ok.inj x y c (cl e1) (cl e2),fun x hx=>?_,fun x c hf _=>absurd hf (by simp[Cx.lam]),fun _=>hd,Around.frames_deeper (show X.A.in1.in1.frames=some X.stack from I.ok.frames),.inr ⟨rfl,rfl⟩,fun b z=>absurd z (noA b),I.bs,le_trans I.ok.bsz I.sz,fun b _ _=>noA b,fun b z=>absurd z (noA b),I.stack,I.stkFree⟩,
  I.os.symm ▸ rfl,I.bare,Un.kept hsb,⟨_,hn,fun i x v' e1 e2 e3=>?_⟩,fun x c e=>?_,hH,fun x c e=>I.freeC x c (cl e),fun p hp=>absurd (show p∈([]:List (Addr×Obj)) from hp) (by simp),I.hok.kept hsb,hl⟩
 ·have hx:scope.names.lookup x=some .cell∨scope.names.lookup x=some .free:=hx
  rcases hx with z|z
  ·exact absurd rfl (S.nocell _ (PySem.mem_of_lookup z))
  ·exact uI (.inl ⟨_,PySem.mem_of_lookup z,rfl,rfl⟩)
 ·have e1:N'[i]?=some x:=e1
  by_cases hi:i=0
  ·subst hi
   rw[hN] at e1;cases e1
   rw[h0] at e2;cases e2
   exact⟨u,rv,.inl ⟨hp,by simp[List.lookup]⟩⟩
  ·obtain⟨x',j,e4,e5,e6,e9⟩:=hσ i v' hi e2
   have hy:=PySem.mem_of_lookup e9
   rw[e1] at e4;cases e4
   have kd:=S.free _ hy rfl
   obtain⟨m,hm,hl⟩:=I.loc
   obtain⟨u',ru,lk⟩:=hl j x v' e5 e6 (kd.elim (fun z=>.inr (.inl z)) fun z=>.inr (.inr z))
   refine⟨u',ru,?_⟩
   rcases lk with ⟨z,_⟩|⟨z,c,hc,hcell⟩
   ·rcases kd with k|k <;> rw[k] at z <;> cases z
   ·obtain⟨c',hc'⟩:=uI (env:=X.env) (names:=scope.names) (cs:=[]) (x:=x) (.inl ⟨_,hy,rfl,rfl⟩)
    have:=cl hc'
    rw[hc] at this;cases this
    exact .inr ⟨.inr e9,c,hc',kept hcell⟩
 ·obtain⟨v,z⟩:=I.cell x c (cl e)
  exact⟨v,kept z⟩
def Jv(idx:List Nat)(fb:FE)(τ:DS)(d:D):Rs D:=fb ((vd 1 idx τ).set 0 (some (.val d)))
theorem Ge{f c':Addr}{qual p:Str}{params:Arguments}{body:Expr}{pm ctv u:Value}{v:V}{d dk:D}{fr:List Str}{idx:List Nat}{fb:FE}{Q:VK}(S:xF X scope)(hr:Room 3 X.A)(hfr:FreeOk scope X.N fr idx)(hp:scope.names.lookup p=some .local)
  (hco:scope.isCoroutine=false) (hgen:scope.isGenerator=false) (hbind:∀(pm cd ct:Value) (cl:List (Str×Addr)) (u:Value),bindArgs (kla_fn "<lambda>" qual params body scope cl pm cd ct) ⟨[u],[]⟩=pure [(p,u)])
  (hb:∀s H f cd,PDE (X.lam scope (p::fr) s H qual f cd) body fb)
  (I:Inv X pins σ H s) (R:RV X.K F τ σ H) (ho:s.heap.get? f=some (kla_obj "<lambda>" qual params body scope (xV scope X.env) pm c' ctv)) (hc:H c'=some (.ext (Yv c' qual))) (rd:Rep X.K F d v) (ru:RelV v u) (hk:Jv idx fb τ d=.ok dk)
  (hQ:∀kv F1 H1,Ext F H F1 H1→Rep X.K F1 dk kv→Q kv H1):wpAny (model X.prog X.w) X.A.in1.in1 (call (.ref f) [u]) (EP X pins σ Q) (fun _ _=>False) s:=by
 have hcd:s.heap.CodeRec (.ref c') qual:=(I.hok c' _ hc).1
 refine wpAny_call (kla_callFunE (args:=⟨[u],[]⟩) (hr.in1.in1).depth ho rfl hco hgen rfl hcd ?_)
 rw[hbind]
 refine wpAny_pure (wpAny_newFunctionEnv S.nocell (fun y hy=>?_) (fun h1 hns hsb=>⟨(I.mod.nolimit.keeps I.bk).fresh _ hsb,?_⟩) S.kind)
 ·have:y=(p,u):=by simpa using hy
  subst this;exact hp
 have keep3:∀b o,s.heap.get? b=some o→h1.get? b=some o:=fun b o e=>hsb.extBut b o (ne_of_lt (Heap.lt_size e)) (Heap.get?_push_of_some _ e)
 show codeAny _ _ (.expr body (envX qual scope s.heap.objs.size f (.ref c') (xV scope X.env))) _ _
 have hlen:(vT 1 idx σ).length=(p::fr).length:=by simp[vT,hfr.len]
 have hl0:0<(vT 1 idx σ).length:=by rw[hlen];simp
 have J:Inv (X.lam scope (p::fr) s H qual f (.ref c')) [] ((vT 1 idx σ).set 0 (some v)) H { s with heap:=h1,toks:=s.toks+([(p,u)]:List (Str×Value)).length }:=
  M5 S hr.hd I hp rfl ru hns keep3 (by rw[length_set];exact hlen) (by rw[getElem?_set_self hl0]) fun i v' hi e=>by
   rw[getElem?_set_ne (Ne.symm hi)] at e
   exact ZA (tn:=[p]) hfr σ i v' e
 refine kla_codeExpr (wpAny_mono (hb s H f (.ref c') [] _ _ H (fun kv H1=>∃F1,Ext F H F1 H1∧Rep X.K F1 dk kv) J ⟨F,(vd 1 idx τ).set 0 (some (.val d)),(XQ 1 idx R).set rd,?_⟩) (fun w s5 h5=>?_) fun _ _ z=>z.elim)
 ·have hk:fb ((vd 1 idx τ).set 0 (some (.val d)))=.ok dk:=hk
  rw[hk]
  exact fun kv F1 H1 x r=>⟨F1,x,r⟩
 ·obtain⟨kv,H5,I5,r5,F5,x5,rk⟩:=h5
  exact⟨kv,H5,I.call' (ch:=[]) I5.os I5.base I5.hok I5.bare (fun b z=>absurd z (by simp)),r5,hQ kv F5 H5 x5 rk⟩
end
open PySem.W
def TabsU:Prop:=∀r∈Tabs.rows,∀r'∈Tabs.rows,r.1=r'.1→r=r'
theorem Ya{α β:Type}{f:α→β}:∀{l:List α},(l.map f).Nodup→∀r∈l,∀r'∈l,f r=f r'→r=r'
 |[],_,_,h,_,_,_=>by cases h
 |a::l,nd,r,h,r',h',e=>by
  rw[map_cons,nodup_cons] at nd
  rcases mem_cons.mp h with z|z
  ·rcases mem_cons.mp h' with z' | z'
   ·rw[z,z']
   ·rw[z] at e
    exact absurd (mem_map.mpr ⟨r',z',e.symm⟩) nd.1
  ·rcases mem_cons.mp h' with z' | z'
   ·rw[z'] at e
    exact absurd (mem_map.mpr ⟨r,z,e⟩) nd.1
   ·exact Ya nd.2 r z r' z' e
theorem TabsU.of(h:(Tabs.rows.map (·.1)).Nodup):TabsU:=Ya h
section
variable{X:Cx}{scope:Scope}{pins:List (Addr×Obj)}{σ:St}{F H:Hp}{τ:DS}{s:Shared}
theorem Gd{params:Arguments}{body:Expr}{lpos:Pos}{P c:Addr}{E:Value→Shared→Prop}{Q:Value→Shared→Prop}(tu:TabsU)(S:xF X scope)(bm:BM X.mg X.base)(hcode:X.env.code=.ref c)(hcd:codeHdIn X.K c P=true)(hrow:(P,lpos.line,lpos.col,X.env.qual ++ "<lambda>")∈Tabs.rows)
  (hdef:defaultsOf params X.env=([],[])) (I:Inv X pins σ H s) (fh:Same F H) (tt:TbT F H)
  (h:∀(f c':Addr) (pm ctv:Value) (H':Hp) (s':Shared),Inv X (pins++[(f,kla_obj "<lambda>" (X.env.qual ++ "<lambda>") params body scope (xV scope X.env) pm c' ctv)]) σ H' s'→Ext F H F H'→H' c'=some (.ext (Yv c' (X.env.qual ++ "<lambda>")))→Q (.ref f) s') :
  wpAny (model X.prog X.w) X.A (eval (.Lambda params body scope lpos) X.env) Q E s:=by
 obtain⟨bma,ob,b1,b2,b3,b4,b5,b6⟩:=bm
 obtain⟨b3,bH⟩:=I.bs _ _ b3
 have hgs:s.heap.Ns mainGlobals X.mg:=I.mod.glob.keeps I.bk
 have C:CodeHd s.heap c P:=codeHd_of_K (I.mod.kin.keeps I.bk) hcd
 have hcl:closureFor scope X.env=pure (xV scope X.env):=vK fun y hy e=>by
  obtain⟨c,hc⟩:=I.ok.has _ (S.free y hy e)
  rw[hc];rfl
 have hbG:bma≠mainGlobals:=fun q=>by
  obtain⟨o,es,ep,e,hd,_⟩:=hgs
  rw[← q,b3] at e;cases e;rw[b6] at hd;cases hd
 obtain⟨tF,tt0⟩:=tt.1 _ hrow
 have hPs:∃ps,H P=some (.tbl ps):=by
  rcases tt0 with e|⟨c',e,_⟩
  ·exact⟨_,e⟩
  ·exact⟨_,e⟩
 obtain⟨ps0,hP0⟩:=hPs
 have hbP:bma≠P:=fun q=>by rw[q,hP0] at bH;cases bH
 have B:s.heap.BuiltinsAt X.mg P:=⟨bma,ob,b1,b2,hbG,hbP,b3,b4,b5,b6⟩
 refine kla_eval hdef ?_
 rcases tt0 with e|⟨c',e,ec⟩
 ·-- the first time
  have e:H P=some (.tbl #[]):=e
  have hP:s.heap.get? P=some (tabObj #[]):=I.hok P _ e
  have hgP:mainGlobals≠P:=fun q=>by
   obtain⟨o,es,ep,e',hd,_⟩:=hgs
   rw[q,hP] at e';cases e';cases hd
  refine kla_makeFunction (mg:=X.mg) hcl I.ok.glob hgs hcode C hP trivial rfl hgP B fun c' ctv h' tk hx hge hlt hrec htb=>?_
  have hc0:H c'=none:=I.hok.fresh hge
  have hPc:P≠c':=fun z=>by rw[z,hc0] at e;cases e
  have hsz:s.heap.objs.size≤h'.objs.size:=le_trans hge (le_of_lt hlt)
  have htb:h'.get? P=some (tabObj #[rawInt lpos.line,rawInt lpos.col,.ref c']):=by simpa using htb
  let H':Hp:=upd (upd H P (.tbl #[rawInt lpos.line,rawInt lpos.col,.ref c'])) c' (.ext (Yv c' (X.env.qual ++ "<lambda>")))
  have hne:∀b,b≠P→b≠c'→H' b=H b:=fun b z1 z2=>by show upd (upd H P _) c' _ b=H b;rw[zB z2,zB z1]
  have hP':H' P=some (.tbl #[rawInt lpos.line,rawInt lpos.col,.ref c']):=by show upd (upd H P _) c' _ P=_;rw[zB hPc,zG]
  have hc':H' c'=some (.ext (Yv c' (X.env.qual ++ "<lambda>"))):=zG
  let fo:Obj:=kla_obj "<lambda>" (X.env.qual ++ "<lambda>") params body scope (xV scope X.env) ((X.mg "__name__").getD .none) c' ctv
  have kp:∀b o,b≠P→s.heap.get? b=some o→(h'.push fo).get? b=some o:=fun b o z q=>Heap.get?_push_of_some _ (hx b o z q)
  have nc:∀b o,s.heap.get? b=some o→b≠c':=fun b o q=>ne_of_lt (lt_of_lt_of_le (Heap.lt_size q) hge)
  have nP:∀b,H b=none→b≠P:=fun b q z=>by rw[z,e] at q;cases q
  have J:Inv X pins σ H' { s with heap:=h'.push fo,toks:=tk }:=by
   refine I.un (t':=tk) ⟨fun b o q n _ _=>kp b o (nP b n) q,fun b o q n _ _=>⟨o.slots,kp b o (nP b n) q⟩,fun b o q n _=>by rw[hne b (nP b n) (nc b o q)];exact n,fun b o q _=>?_,fun b xs q=>?_,fun b o u q=>?_,fun b ps q=>?_⟩ fun b u q=>?_
   ·by_cases z:b=P
    ·subst z;exact⟨_,Heap.get?_push_of_some _ htb⟩
    ·exact⟨o,kp b o z q⟩
   ·rw[hne b (fun z=>by rw[z,e] at q;cases q) (fun z=>by rw[z,hc0] at q;cases q)];exact q
   ·rw[hne b (fun z=>by rw[z,e] at q;cases q) (fun z=>by rw[z,hc0] at q;cases q)];exact q
   ·by_cases z:b=P
    ·subst z
     rw[e] at q;cases q
     exact⟨#[rawInt lpos.line,rawInt lpos.col,.ref c'],by rw[hP'];simp⟩
    ·exact⟨#[],by rw[hne b z (fun z=>by rw[z,hc0] at q;cases q),q];simp⟩
   ·by_cases z2:b=c'
    ·subst z2
     rw[hc'] at q;cases q
     have hr2:(h'.push fo).CodeRec (.ref b) (X.env.qual ++ "<lambda>"):=by
      obtain⟨c2,oc,vs,t,g1,g2,g3,g4⟩:=hrec
      exact⟨c2,oc,vs,t,g1,Heap.get?_push_of_some _ g2,g3,g4⟩
     refine⟨hr2,?_,fun h1 h2 g k=>?_⟩
     ·obtain⟨c2,oc,vs,t,g1,g2,g3,g4⟩:=hr2
      cases g1
      exact⟨oc,g2⟩
     ·obtain⟨c2,oc,vs,t,g1,g2,g3,g4⟩:=g
      cases g1
      exact⟨_,oc,vs,t,rfl,k _ g2,g3,g4⟩
    ·by_cases z:b=P
     ·subst z
      rw[hP'] at q;cases q
      exact Heap.get?_push_of_some _ htb
     ·rw[hne b z z2] at q
      refine(I.hok b u q).stay (fun d v hd qd=>kp d v ?_ qd) (fun d qd=>?_) fun d xs qd=>?_
      ·rcases hd with y|y
       ·rw[y];exact z
       ·exact fun y'=>by rw[y',e] at y;cases y
      ·rw[hne d (fun y=>by rw[y,e] at qd;cases qd) (fun y=>by rw[y,hc0] at qd;cases qd)];exact qd
      ·rw[hne d (fun y=>by rw[y,e] at qd;cases qd) (fun y=>by rw[y,hc0] at qd;cases qd)];exact qd
  have hfz:s.heap.objs.size≤h'.objs.size:=hsz
  have nf:H' h'.objs.size=none:=by
   rw[hne _ (ne_of_gt (lt_of_lt_of_le (Heap.lt_size hP) hfz)) (ne_of_gt hlt)]
   exact I.hok.fresh hfz
  refine h h'.objs.size c' ((X.mg "__name__").getD .none) ctv H' _ (J.pins_of fun q hq=>?_) ⟨Same.refl F,fun b o q=>?_,fun b o q=>?_,fun _ _ q=>.inl q,fun t=>⟨fun r hr=>?_,fun d b q=>?_⟩⟩ hc'
  ·rcases mem_append.mp hq with hq|hq
   ·exact J.pin q (mem_append_right _ hq)
   ·have:q=(h'.objs.size,fo):=by simpa using hq
    subst this
    exact⟨Heap.get?_push_size _ rfl,nf,(ne_of_lt (lt_of_lt_of_le I.lt hfz)).symm,I.nofs hfz,fun v z=>nomatch z⟩
  ·by_cases z:b=P
   ·subst z;rw[e] at q;cases q;exact⟨_,hP'⟩
   ·exact .of (by rw[hne b z (fun z=>by rw[z,hc0] at q;cases q)];exact q)
  ·have q':=fh b o q
   rw[hne b (fun z=>by rw[z,show F P=none from tF] at q;cases q) (fun z=>by rw[z,hc0] at q';cases q')]
   exact q'
  ·by_cases z:r.1=P
   ·obtain rfl:=tu r hr _ hrow z
    exact⟨tF,.inr ⟨c',hP',hc'⟩⟩
   ·obtain⟨t1,t2⟩:=t.1 r hr
    refine⟨t1,?_⟩
    rcases t2 with q|⟨c2,q,q2⟩
    ·exact .inl (by rw[hne _ z (fun z=>by rw[z,hc0] at q;cases q)];exact q)
    ·exact .inr ⟨c2,by rw[hne _ z (fun z=>by rw[z,hc0] at q;cases q)];exact q,by rw[hne _ (fun z=>by rw[z,e] at q2;cases q2) (fun z=>by rw[z,hc0] at q2;cases q2)];exact q2⟩
  ·have q:H d=some (.own b):=by
    by_cases z2:d=c'
    ·rw[z2,hc'] at q;cases q
    ·by_cases z:d=P
     ·rw[z,hP'] at q;cases q
     ·rw[hne d z z2] at q;exact q
   obtain⟨C,dx,vs,q2⟩:=t.2 d b q
   exact⟨C,dx,vs,by rw[hne b (fun z=>by rw[z,e] at q2;cases q2) (fun z=>by rw[z,hc0] at q2;cases q2)];exact q2⟩
 ·-- again
  have e:H P=some (.tbl #[rawInt lpos.line,rawInt lpos.col,.ref c']):=e
  have hP:s.heap.get? P=some (tabObj #[rawInt lpos.line,rawInt lpos.col,.ref c']):=I.hok P _ e
  refine kla_makeFunctionHit (mg:=X.mg) (cv:=.ref c') hcl I.ok.glob hgs hcode C hP trivial (codeAmong_snoc (c:=.ref c') [] trivial rfl) B fun ctv h' tk hk hsz=>?_
  let fo:Obj:=kla_obj "<lambda>" (X.env.qual ++ "<lambda>") params body scope (xV scope X.env) ((X.mg "__name__").getD .none) c' ctv
  have J:Inv X pins σ H { s with heap:=h'.push fo,toks:=tk }:=I.kept (t':=tk) fun b u q=>Heap.get?_push_of_some _ (hk b u q)
  refine h h'.objs.size c' ((X.mg "__name__").getD .none) ctv H _ (J.pins_of fun q hq=>?_) (Ext.refl fh) ec
  rcases mem_append.mp hq with hq|hq
  ·exact J.pin q (mem_append_right _ hq)
  ·have:q=(h'.objs.size,fo):=by simpa using hq
   subst this
   exact⟨Heap.get?_push_size _ rfl,I.hok.fresh hsz,(ne_of_lt (lt_of_lt_of_le I.lt hsz)).symm,I.nofs hsz,fun v z=>nomatch z⟩
def va(idx:List Nat)(fb:FE)(τ:DS):List D→Rs (List D)
 |[]=>.ok []
 |d::r=>match Jv idx fb τ d with
  |.ok k=>match va idx fb τ r with
   |.ok ks=>.ok (k::ks)
   |_=>.no
  |_=>.no
theorem Zj{idx:List Nat}{fb:FE}{τ:DS}:∀{ds ks:List D},va idx fb τ ds=.ok ks→ks.length=ds.length∧∀(i:Nat) (d k:D),ds[i]?=some d→ks[i]?=some k→Jv idx fb τ d=.ok k
 |[],ks,h=>by cases h;exact⟨rfl,fun i d k e=>by simp at e⟩
 |d::r,ks,h=>by
  unfold va at h
  cases q:Jv idx fb τ d with
  |no=>rw[q] at h;cases h
  |ex c=>rw[q] at h;cases h
  |ok k=>
   rw[q] at h
   simp only at h
   cases q2:va idx fb τ r with
   |no=>rw[q2] at h;cases h
   |ex c=>rw[q2] at h;cases h
   |ok ks'=>
    rw[q2] at h;cases h
    obtain⟨l,g⟩:=Zj q2
    refine⟨by simp[l],fun i d' k' e1 e2=>?_⟩
    cases i with
    |zero=>simp at e1 e2;subst e1;subst e2;exact q
    |succ i=>exact g i d' k' (by simpa using e1) (by simpa using e2)
def jT(ks ds:List D):Rs D:=match Zk ks with
 |some kz=>if ds.length<64∧kz.Nodup∧(∀k∈kz,k≠[]) then .ok (.lst ((wg (kz.zip ds)).map (·.2))) else .no
 |none=>.no
def Yt(idx:List Nat)(fe fb:FE):FE:=fun τ=>(fe τ).bind fun d=>match d with
 |.lst ds=>match va idx fb τ ds with
  |.ok ks=>jT ks ds
  |_=>.no
 |_=>.no
theorem U1{X:Cx}{ks ds:List D}{P:D→Prop}(h:Ok X (jT ks ds) P):∃kz:List (List Int),ks=kz.map (fun k=>D.tup (k.map D.int))∧ds.length<64∧kz.Nodup∧(∀k∈kz,k≠[])∧P (.lst ((wg (kz.zip ds)).map (·.2))):=by
 unfold jT at h
 cases q:Zk ks with
 |none=>rw[q] at h;exact h.elim
 |some kz=>
  rw[q] at h
  simp only at h
  by_cases z:ds.length<64∧kz.Nodup∧(∀k∈kz,k≠[])
  ·rw[if_pos z] at h
   exact⟨kz,WM q,z.1,z.2.1,z.2.2,h⟩
  ·rw[if_neg z] at h;exact h.elim
theorem Jg{x p:Str}{pp pos lpos kp:Pos}{e body:Expr}{params:Arguments}{fr:List Str}{idx:List Nat}{fe fb:FE}{P c:Addr}(hg:Gl X x)(hm:X.mg x=none)(hv:bootBuiltins x=some (.builtin "sorted"))(he:PDE X e fe)
  (hr:Room 3 X.A) (tu:TabsU) (bm:BM X.mg X.base) (hcode:X.env.code=.ref c) (hcd:codeHdIn X.K c P=true) (hrow:(P,lpos.line,lpos.col,X.env.qual ++ "<lambda>")∈Tabs.rows)
  (hsc:uT X.env.scope scope=true) (hfr:FreeOk scope X.N fr idx) (hp:scope.names.lookup p=some .local) (hco:scope.isCoroutine=false) (hgen:scope.isGenerator=false)
  (hbind:∀(pm cd ct:Value) (cl:List (Str×Addr)) (u:Value),bindArgs (kla_fn "<lambda>" (X.env.qual ++ "<lambda>") params body scope cl pm cd ct) ⟨[u],[]⟩=pure [(p,u)])
  (hb:∀s H f cd,PDE (X.lam scope (p::fr) s H (X.env.qual ++ "<lambda>") f cd) body fb) (hdef:defaultsOf params X.env=([],[]):=by rfl)
  (hn:x ≠ "__name__" := by decide) (hdb:(x==("__debug__" : Str))=false:=by decide) (h1:starEach [e] X.env=(false,eval e X.env)::starEach [] X.env:=by rfl) :
  PDE X (.Call (.Name x pp) [e] [⟨some "key", .Lambda params body scope lpos,kp⟩] pos) (Yt idx fe fb):=by
 intro pins s σ H Q I ⟨F,τ,R,hq⟩
 have S:xF X scope:=vc hsc
 refine wpAny_Call_Name_kw (ua I hg hm hv ?_ hn hdb)
 refine callWith_kw ?_ (by rw[h1];rfl) (by rw[h1];rfl)
 have hqb:=hq.bind
 have ha:PDA X [e] (za fe zi):=zc he zg (by rw[h1])
 refine thn (ha pos pins s σ H (fun vs H1=>∃F1 d v,vs=[v]∧Ext F H F1 H1∧Rep X.K F1 d v∧fe τ=.ok d) I ⟨F,τ,R,?_⟩) fun us s1 hA=>?_
 ·unfold za zi
  cases z:fe τ with
  |no=>rw[z] at hqb;exact hqb.elim
  |ex cc=>rw[z] at hqb;exact hqb
  |ok d=>
   intro vs F1 H1 x1 rr
   obtain⟨v,rfl,rd⟩:=Reps.one rr
   exact⟨F1,d,v,rfl,x1,rd,rfl⟩
 obtain⟨vs,H1,I1,rvs,F1,d,v,rfl,x1,rd,ed⟩:=hA
 obtain⟨u,rfl,ru⟩:=Vals.one rvs
 rw[ed] at hqb
 have hqb:Ok X (match d with
  |.lst ds=>match va idx fb τ ds with
   |.ok ks=>jT ks ds
   |_=>.no
  |_=>.no) (Ev X.K F H Q):=hqb
 cases d with
 |lst ds=>
  simp only at hqb
  cases z:va idx fb τ ds with
  |no=>rw[z] at hqb;exact hqb.elim
  |ex cc=>rw[z] at hqb;exact hqb.elim
  |ok ks=>
   rw[z] at hqb
   obtain⟨kz,ek,h64,nd,ne,hq⟩:=U1 (X:=X) hqb
   obtain⟨lk,hkeys⟩:=Zj z
   simp only[Rep] at rd
   obtain⟨l,ws,rfl,hF1,rs⟩:=rd
   obtain rfl:u=Value.ref l:=ru
   refine kws_cons ?_
   refine Gd (P:=P) (c:=c) tu S bm hcode hcd hrow hdef I1 x1.fh (x1.tt R.tt) fun f c' pm ctv H2 s2 I2 x2 hc2=>?_
   refine kws_nil ?_
   have R2:RV X.K F1 τ σ H2:=(R.ext x1).ext x2
   refine wpAny_mono (Vq (E:=X.xe) (Q:=Q) (F:=F1) (kz:=kz) I2 x2.fh hF1 rs h64 (by rw[← lk,ek,length_map]) nd ne (fun i d k hd hk pins' s' F' H' v u Q' I' hpin x' rd' ru' hQ'=>?_) fun Da F' H' x' r'=>?_) (fun w s3 ⟨v3,H3,I3,r3,q3⟩=>⟨v3,H3,I3.pins_of fun q hq=>I3.pin q (mem_append_right _ (mem_append_left _ hq)),r3,q3⟩) fun _ _ z=>z
   ·refine Ge S hr hfr hp hco hgen hbind hb I' (R2.ext x') (I'.pin _ (mem_append_right _ (hpin _ (mem_append_right _ (mem_singleton.mpr rfl))))).1 (x'.hh _ _ hc2) rd' ru' (hkeys i d _ hd ?_) hQ'
    rw[ek,getElem?_map,hk];rfl
   ·exact hq _ F' H' ((x1.trans x2).trans x') r'
 |_=>exact hqb.elim
end
section
variable{prog:Program}{w:World}{A:Around}{R:Result→Shared→Prop}{E:Value→Shared→Prop}{I S:Addr}{fp wr:List Addr}{n:Nat}{P:Nat→Value→Prop}{St:Nat→Heap→Prop}{kw:List (Str×Value)}
end
variable[Tabs]
section
variable{X:Cx}{pos pp kp:Pos}{e e2:Expr}{fe f2:FE}
end
section
variable{K:PySem.W.Frag}{B Z F H:Hp}{τ:DS}{σ:St}
end
section
variable{X:Cx}{pos:Pos}{e tg:Expr}{st:Stmt}{ss:List Stmt}{fe:FE}{fs:FA}{f:FS}
def scal:D→Bool
 |.non=>true
 |.bl _=>true
 |.int _=>true
 |.str _=>true
 |_=>false
end
open PySem.W
section
variable{X:Cx}{pins:List (Addr×Obj)}{σ:St}{F H:Hp}{τ:DS}{s:Shared}{Q:VK}{E:Value→Shared→Prop}
end
open PySem.W
structure V3(K:PySem.W.Frag)(mg:Str→Option Value)(x:Str)(st:Stmt)(f c T:Addr):Prop where
 ex:∃(oc:Value) (od:Option Addr) (kV doc pm:Value) (an:Option Addr) (ct:Value) (osl:Array (Option Value)),K.lookup f=some ⟨oc,od,.func (fnOf x x (zN st) (zF st) (zk st) .none kV doc pm an (.ref c) ct),osl⟩
 cd:codeIn K (.ref c) x=true
 kp:keepIn K (.ref f)=true
 at_:mg x=some (.ref f)
 tab:codeHdIn K c T=true
section
variable{P:Program}{w:World}{K:PySem.W.Frag}{mg:Str→Option Value}{base:Heap}
theorem DefOk.mkL{x:Str}{st:Stmt}{f c T:Addr}{N ps:List Str}{k n:Nat}{fb:FS}(D:V3 K mg x st f c T)(S:zQ N ps (zk st))(hn:ps.length=n)
  (hb:∀(kV doc pm:Value) (an:Option Addr) (cdv ct:Value) (us:List Value),us.length=ps.length→bindArgs (fnOf x x (zN st) (zF st) (zk st) .none kV doc pm an cdv ct) ⟨us,[]⟩=pure (ps.zip us))
  (hbody:∀(A:Around) (outer:List Env) (s:Shared) (H:Hp) (E:XK),Room k (A.deeper (envOfC x (zk st) s.heap.objs.size f (.ref c))) →
   Zz (Wa CX0 P w K mg base N x (zk st) f (.ref c) A outer s H E).nox (zF st) fb):DefOk P w K mg base x (k+1) n ps (xb N.length fb):=by
 obtain⟨oc,od,kV,doc,pm,an,ct,osl,lk⟩:=D.ex
 refine⟨f,_,?_,.all (hb kV doc pm an (.ref c) ct),D.kp,D.at_⟩
 refine T9 lk D.cd S (fun vs H Q E h=>by rw[hn];exact h.1) fun A outer s H vs Q E hr h=>⟨_,(show PSs _ _ _ from hbody A outer s H E hr).nox,?_⟩
 obtain⟨hl,ds,Fz,fh,tt,r,h⟩:=h
 refine⟨H,Fz,Fz,zW N.length ds,Wv fh tt r,?_⟩
 unfold xb at h
 cases q:fb (zW N.length ds) with
 |nx τ=>rw[q] at h;exact fun σ F' H' ff RR=>h .non F' H' RR.out (by simp only[Rep])
 |rt d=>rw[q] at h;exact fun v F' H' x rr=>h v F' H' x rr
 |ro d τ=>rw[q] at h;exact fun v σ F' H' ff RR rr=>h v F' H' RR.out rr
 |rb d τ=>rw[q] at h;exact h.elim
 |bk τ=>rw[q] at h;exact h.elim
 |ct τ=>rw[q] at h;exact h.elim
 |ex c=>rw[q] at h;exact h.elim
 |no=>rw[q] at h;exact h.elim
 |rs c τ=>rw[q] at h;exact h.elim
end
section
variable{X:Cx}{pos:Pos}{e a b:Expr}{es:List Expr}{fe fa fb:FE}{fs:FA}
end
omit [Tabs] in
theorem vals_ints:∀{vs:List Value} {ns:List Int},IntsAre vs ns→Vals (ns.map V.int) vs
 |_,_,.nil=>.nil
 |_,_,.cons n t r=>.cons ⟨t,rfl⟩ (vals_ints r)
section
variable{X:Cx}{pins:List (Addr×Obj)}{σ:St}{F H:Hp}{s:Shared}{Q:VK}{E:Value→Shared→Prop}
end
end FD
set_option Elab.async false
set_option linter.all false
namespace STW
open PySem
abbrev Ris(l:List Nat):Prop:=l.Pairwise (· < ·)
def TT(L:Bool)(t:SetTable):Prop:=t.led=L∧t.dummies = #[]∧Ris t.place.toList
section
variable{prog:Program}{w:World}{K:Type}[DecidableEq K]{knd:KeyKind prog w K}{A:Around}{E:Value→Shared→Prop}{s:Shared}{L:Bool}{a:Addr}{S:K→Bool}{n:Nat}{k:K}{x:Value}
def SetT(knd:KeyKind prog w K)(L:Bool)(h:Heap)(a:Addr)(S:K→Bool)(n:Nat):Prop:=
 ∃o es ep t,h.get? a=some o∧o.ExactSet∧o.data=.set es ep t∧ElemsOf knd es.toList∧(∀k,S k=true↔∃e∈es.toList,knd.is k e.2=true)∧es.size<scanBound∧t.fits es.size=true∧es.size=n∧TT L t
theorem stored{h:Heap}{o:Obj}{es:Array (Int×Value)}{ep:Nat}{t:SetTable}(ho:h.get? a=some o)(hx:o.ExactSet)(hd:o.data=.set es ep t){es':Array (Int×Value)}{t':SetTable}{S':K→Bool}(p1:ElemsOf knd es'.toList)
  (p2:∀k,S' k=true↔∃e∈es'.toList,knd.is k e.2=true) (p3:es'.size<scanBound) (p4:t'.fits es'.size=true) (p5:TT L t') :
  (h.update a (Obj.putSet es' t')).get? a=some { o with data:=.set es' (ep+1) t' }∧SetT knd L (h.update a (Obj.putSet es' t')) a S' es'.size:=by
 obtain⟨g,_⟩:=SetOf_store (knd:=knd) ho hx hd p1 p2 p3 p4
 exact⟨g,_,es',ep+1,t',g,hx,rfl,p1,p2,p3,p4,rfl,p5⟩
end
open PyProof.Rows
section
variable{prog:Program}{w:World}{A:Around}{R:Result→Shared→Prop}{I:Addr}{fp wr:List Addr}{G:Array GenState→Array GenState→Prop}{n:Nat}{P:Nat→Value→Prop}{St:Nat→Shared→Prop}{L:Bool}
end
section
variable{prog:Program}{w:World}{A:Around}{E:Value→Shared→Prop}{s:Shared}
end
open PyProof.Rows
section
variable{prog:Program}{w:World}{A:Around}{E:Value→Shared→Prop}{s:Shared}
end
open PyProof.Rows
namespace FS
end FS
section
variable{prog:Program}{w:World}{A:Around}{E:Value→Shared→Prop}{s:Shared}
end
open PySem PyProof.Rows
section
variable{prog:Program}{w:World}{A:Around}{E:Value→Shared→Prop}{s:Shared}{I a:Addr}{es:Array (Int×Value)}{ep:Nat}{t:SetTable}{Q:Option Value→Shared→Prop}
end
open PySem PyProof.Rows
section
variable{prog:Program}{w:World}{A:Around}{E:Value→Shared→Prop}{s:Shared}{I a:Addr}{es:Array (Int×Value)}{ep:Nat}{t:SetTable}
end
open PySem PyProof.Rows
section
variable{prog:Program}{w:World}{A:Around}{E:Value→Shared→Prop}{s:Shared}{I a T:Addr}{es:Array (Int×Value)}{ep:Nat}{t:SetTable}{Q:Option Value→Shared→Prop}
end
open PySem PyProof.Rows
section
variable{prog:Program}{w:World}{A:Around}{E:Value→Shared→Prop}{s:Shared}{a:Addr}{es:Array (Int×Value)}{ep:Nat}{t:SetTable}
end
open PySem PyProof.Rows
section
variable{prog:Program}{w:World}{A:Around}{E:Value→Shared→Prop}{s:Shared}{a:Addr}{es:Array (Int×Value)}{ep:Nat}{t:SetTable}
abbrev emp:Obj:={ cls:=.type "list", data:=.seq ([]:List Value).toArray }
end
open PySem PyProof.Rows
section
variable{prog:Program}{w:World}{A:Around}{E:Value→Shared→Prop}{s:Shared}{a:Addr}{es:Array (Int×Value)}{ep:Nat}{t:SetTable}
end
open PySem PyProof.Rows
section
variable{prog:Program}{w:World}{A:Around}{E:Value→Shared→Prop}{s:Shared}{a:Addr}{ns:List Int}{n:Nat}
end
end STW
set_option Elab.async false
set_option linter.all false
set_option maxRecDepth 100000
namespace FD
open PySem PySem.Spec PyProof.Rows L2
variable[Tabs]
section
variable{X:Cx}{e:Expr}{pos:Pos}{fs:FA}
end
section
variable{X:Cx}
end
end FD
set_option Elab.async false
set_option linter.all false
namespace L2
open PySem PySem.Spec PyProof.Rows
section
variable{κ:Type}[DecidableEq κ]
def Vi(kvs:List (κ×V))(k:κ):Option V:=(kvs.find? fun kv=>decide (kv.1=k)).map (·.2)
def jW(kvs:List (κ×V))(k:κ)(v:V):List (κ×V):=
 if (kvs.any fun kv=>decide (kv.1=k))=true then kvs.map (fun kv=>if kv.1=k then (kv.1,v) else kv) else kvs++[(k,v)]
theorem Wg{p:κ×V}{r:List (κ×V)}{k:κ}(e:p.1=k):Vi (p::r) k=some p.2:=by simp[Vi,find?_cons,e]
theorem Wh{p:κ×V}{r:List (κ×V)}{k:κ}(e:¬ p.1=k):Vi (p::r) k=Vi r k:=by simp[Vi,find?_cons,e]
theorem Wi(k:κ):∀kvs:List (κ×V),(kvs.any fun kv=>decide (kv.1=k))=(Vi kvs k).isSome
 |[]=>rfl
 |p::r=>by
  rw[any_cons]
  by_cases e:p.1=k
  ·simp only[Wg e,decide_eq_true e,Bool.true_or,Option.isSome_some]
  ·rw[Wh e,decide_eq_false e,Bool.false_or];exact Wi k r
theorem Zg(kvs:List (κ×V))(k:κ)(v:V):(jW kvs k v).length≤kvs.length+1:=by
 unfold jW
 split
 ·rw[length_map];omega
 ·rw[length_append,length_cons,length_nil];omega
theorem RelO.isSome_eq{o:Option V}{u:Option Value}(r:RelO o u):o.isSome=u.isSome:=by
 cases o with
 |none=>cases u with
  |none=>rfl
  |some _=>exact(show False from r).elim
 |some _=>cases u with
  |none=>exact(show False from r).elim
  |some _=>rfl
theorem KV.any{kvs:List (κ×V)}{vs:List (κ×Value)}(r:KV kvs vs)(k:κ):(kvs.any fun kv=>decide (kv.1=k))=vs.any fun kv=>decide (kv.1=k):=by
 unfold KV at r
 induction r with
 |nil=>rfl
 |cons h t ih=>rw[any_cons,any_cons,ih,h.1]
theorem KV.repl{kvs:List (κ×V)}{vs:List (κ×Value)}(r:KV kvs vs)(k:κ){y:V}{u:Value}(ry:RelV y u) :
  KV (kvs.map fun kv=>if kv.1=k then (kv.1,y) else kv) (vs.map fun kv=>if kv.1=k then (kv.1,u) else kv):=by
 unfold KV at r ⊢
 induction r with
 |nil=>exact .nil
 | @cons p q ps qs h t ih=>
  rw[map_cons,map_cons]
  refine .cons ?_ ih
  obtain⟨h1,h2⟩:=h
  by_cases e:p.1=k
  ·rw[if_pos e,if_pos (h1.symm.trans e)];exact⟨h1,ry⟩
  ·rw[if_neg e,if_neg (fun z=>e (h1.trans z))];exact⟨h1,h2⟩
theorem KV.put{kvs:List (κ×V)}{vs:List (κ×Value)}(r:KV kvs vs)(k:κ){y:V}{u:Value}(ry:RelV y u):KV (jW kvs k y) (stored vs k u):=by
 unfold jW stored
 rw[r.any k]
 by_cases e:(vs.any fun kv=>decide (kv.1=k))=true
 ·rw[if_pos e,if_pos e];exact r.repl k ry
 ·rw[if_neg e,if_neg e];exact Paired.snoc r ⟨rfl,ry⟩
theorem KV.length{kvs:List (κ×V)}{vs:List (κ×Value)}(r:KV kvs vs):kvs.length=vs.length:=Paired.length r
end
theorem T3{P:Program}{w:World}{k:Key}{u:Value}(r:RelV (kV k) u):(xI P w).is k u=true:=by
 cases k with
 |inl i=>obtain⟨t,e⟩:=(show ∃t,u=Value.int i t from r);subst e;exact WG P w i t
 |inr x=>obtain⟨t,e⟩:=(show ∃t,u=Value.str x t from r);subst e;exact WF P w x t
theorem Xp{P:Program}{w:World}:∀{ks:List Key} {us:List Value},Vals (ks.map kV) us→ItemsAre (xI P w) ks us
 |[],_,r=>by rw[map_nil] at r;cases r;exact .nil
 |k::ks,_,r=>by
  rw[map_cons] at r
  cases r with
  |cons h t=>exact .cons (T3 h) (Xp t)
abbrev KT(H:Hp):List (List Key×V)→List (List Key×Addr×Value)→Prop:=Paired fun p q=>p.1=q.1∧H q.2.1=some (.tup (p.1.map kV))∧RelV p.2 q.2.2
theorem KT.val{H:Hp}{kvs:List (List Key×V)}{xs:List (List Key×Addr×Value)}(r:KT H kvs xs)(k:List Key):RelO (Vi kvs k) ((atKey xs k).map (·.2)):=by
 induction r with
 |nil=>exact True.intro
 | @cons p q ps qs h t ih=>
  obtain⟨h1,_,h2⟩:=h
  by_cases e:p.1=k
  ·have e':q.1=k:=h1.symm.trans e
   have b:atKey (q::qs) k=some q.2:=by simp[atKey,find?_cons,e']
   rw[Wg e,b];exact h2
  ·have e':¬ q.1=k:=fun z=>e (h1.trans z)
   have b:atKey (q::qs) k=atKey qs k:=by simp[atKey,find?_cons,e']
   rw[Wh e,b];exact ih
theorem KT.repl{H:Hp}{kvs:List (List Key×V)}{xs:List (List Key×Addr×Value)}(r:KT H kvs xs)(k:List Key){y:V}{u:Value}(ry:RelV y u) :
  KT H (kvs.map fun kv=>if kv.1=k then (kv.1,y) else kv) (xs.map (putAt k u)):=by
 induction r with
 |nil=>exact .nil
 | @cons p q ps qs h t ih=>
  rw[map_cons,map_cons]
  refine .cons ?_ ih
  obtain⟨h1,h2,h3⟩:=h
  unfold putAt
  by_cases e:p.1=k
  ·rw[if_pos e,if_pos (h1.symm.trans e)];exact⟨h1,h2,ry⟩
  ·rw[if_neg e,if_neg (fun z=>e (h1.trans z))];exact⟨h1,h2,h3⟩
theorem KT.put{H:Hp}{kvs:List (List Key×V)}{xs:List (List Key×Addr×Value)}(r:KT H kvs xs)(k:List Key){b:Addr}{y:V}{u:Value}(hb:H b=some (.tup (k.map kV)))(ry:RelV y u) :
  KT H (jW kvs k y) (storedH xs k b u):=by
 have e:(kvs.any fun kv=>decide (kv.1=k))=(atKey xs k).isSome:=by
  rw[Wi,(r.val k).isSome_eq,Option.isSome_map]
 unfold jW storedH
 rw[e]
 by_cases q:(atKey xs k).isSome=true
 ·rw[if_pos q,if_pos q];exact r.repl k ry
 ·rw[if_neg q,if_neg q];exact Paired.snoc r ⟨rfl,hb,ry⟩
theorem KT.keeps{H H':Hp}{kvs:List (List Key×V)}{xs:List (List Key×Addr×Value)}(r:KT H kvs xs)(ht:∀b ys,H b=some (.tup ys)→H' b=some (.tup ys)):KT H' kvs xs:=
 Paired.mapP r fun _ _ z=>⟨z.1,ht _ _ z.2.1,z.2.2⟩
section
variable{P:Program}{w:World}{H:Hp}{h:Heap}{a:Addr}
theorem TW{u:HO}(ok:HOk P w H h)(e:Rd H a u):ObjOk P w H h a u:=e.ok ok
theorem dk_rd{kvs:List (Key×V)}(ok:HOk P w H h)(e:Rd H a (.dK kvs)):kvs.length≤sizeLine∧(a==sysModules)=false∧∃vs,KV kvs vs∧h.DictOf (xI P w) a vs:=
 show ObjOk P w H h a (.dK kvs) from TW ok e
theorem Lb{kvs:List (Key×V)}(ok:HOk P w H h)(e:H a=some (.dK kvs)):kvs.length≤sizeLine∧(a==sysModules)=false∧∃vs,KV kvs vs∧h.DictOf (xI P w) a vs:=dk_rd ok (.inl e)
theorem Gh{ks:List Key}(ok:HOk P w H h)(e:H a=some (.tup (ks.map kV))):(tupleKind (xI P w)).is h ks a:=by
 obtain⟨_,its,r,o,h1,h2,n,h3⟩:=(show ObjOk P w H h a (.tup (ks.map kV)) from ok a _ e)
 exact⟨o,its.toArray,n,h1,h2,h3,by simpa using Xp r⟩
theorem dt_rd{kvs:List (List Key×V)}(ok:HOk P w H h)(e:Rd H a (.dT kvs)):kvs.length≤sizeLine∧(a==sysModules)=false ∧
  ∃xs,KT H kvs xs∧h.DictOfH (tupleKind (xI P w)) a xs:=by
 obtain⟨z,y,xs,r,o,es,ep,h1,h2,h3,h4,h5⟩:=(show ObjOk P w H h a (.dT kvs) from TW ok e)
 refine⟨z,y,xs,r,o,es,ep,h1,h2,h3,h4,fun x hx=>?_,h5⟩
 have all:∀{l:List (List Key×V)} {m:List (List Key×Addr×Value)},KT H l m→∀x∈m,(tupleKind (xI P w)).is h x.1 x.2.1:=by
  intro l m q
  induction q with
  |nil=>intro x hx;exact nomatch hx
  | @cons p q ps qs hq t ih=>
   intro x hx
   rcases mem_cons.mp hx with e|hx
   ·subst e
    exact Gh ok (by rw[← hq.1];exact hq.2.1)
   ·exact ih x hx
 exact all r x hx
theorem dt_of{kvs:List (List Key×V)}(ok:HOk P w H h)(e:H a=some (.dT kvs)):kvs.length≤sizeLine∧(a==sysModules)=false ∧
  ∃xs,KT H kvs xs∧h.DictOfH (tupleKind (xI P w)) a xs:=dt_rd ok (.inl e)
end
def DPut(H:Hp)(a:Addr)(y v:V)(H':Hp):Prop:=
 (∃kvs k,H a=some (.dK kvs)∧y=kV k∧kvs.length<sizeLine∧H'=upd H a (.dK (jW kvs k v))) ∨
 ∃kvs k b,H a=some (.dT kvs)∧y=.ref b∧H b=some (.tup (k.map kV))∧kvs.length<sizeLine∧H'=upd H a (.dT (jW kvs k v))
theorem DPut.k{H:Hp}{a:Addr}{kvs:List (Key×V)}{k:Key}{v:V}(e:H a=some (.dK kvs))(hl:kvs.length<sizeLine):DPut H a (kV k) v (upd H a (.dK (jW kvs k v))):=.inl ⟨kvs,k,e,rfl,hl,rfl⟩
section
variable{X:Cx}{pins:List (Addr×Obj)}{σ:St}{H:Hp}{s:Shared}{a:Addr}{y v:V}{u r:Value}{o:Option V}{A:Around}{E:Value→Shared→Prop}
theorem Inv.big(I:Inv X pins σ H s):sysModules<s.heap.objs.size:=by
 have h:mainGlobals<s.heap.objs.size:=(I.mod.glob.keeps I.bk).lt
 exact Nat.lt_trans (by decide) h
theorem UL{h':Heap}{t':Nat}{ob:HO}(I:Inv X pins σ H s)(mu:Mut (H a))(hs:Heap.SameBut a s.heap h')(he:∃q,h'.get? a=some q)(new:ObjOk X.prog X.w (upd H a ob) h' a ob) :
  Inv X pins σ (upd H a ob) { s with heap:=h',toks:=t' }:=
 I.write (x:=a) (e:=a) mu (.inl rfl) (fun b q hb z=>(hs.2 b hb).trans z) he new
theorem zb7{P:Program}{w:World}{H':Hp}{h':Heap}{kvs:List (Key×V)}{vs:List (Key×Value)}(z:kvs.length≤sizeLine)(hd:(a==sysModules)=false)(rel:KV kvs vs)(dd:h'.DictOf (xI P w) a vs) :
  ObjOk P w H' h' a (.dK kvs):=⟨z,hd,vs,rel,dd⟩
theorem JG{H':Hp}{Q:Unit→Shared→Prop}(hu:A.units+1<cLine)(I:Inv X pins σ H s)(g:DPut H a y v H')(ry:RelV y u)(rv:RelV v r)(h:∀s',Inv X pins σ H' s'→Q () s') :
  wpAny (model X.prog X.w) A (setItem (.ref a) u r) Q E s:=by
 rcases g with ⟨kvs,k,e,ey,l,eH⟩|⟨kvs,k,b,e,ey,eb,l,eH⟩
 ·subst ey eH
  obtain⟨z,hd,vs,rel,dd⟩:=Lb I.hok e
  have hz:vs.length≤sizeLine:=by rw[← rel.length];exact z
  have hl:(jW kvs k v).length≤sizeLine:=by have:=Zg kvs k v;omega
  refine wpAny_setItem_pairs (hsz:=hz) (T3 ry) dd fun h' dd' hs=>h _ ?_
  have he:∃q,h'.get? a=some q:=let ⟨q,_,_,hq,_⟩:=dd';⟨q,hq⟩
  exact UL I (by rw[e];exact True.intro) hs he (zb7 hl hd (rel.put k rv) dd')
 ·subst ey eH
  cases (show u=Value.ref b from ry)
  obtain⟨z,hd,xs,rel,dd⟩:=dt_of I.hok e
  have hz:xs.length≤sizeLine:=by rw[← Paired.length rel];exact z
  have hl:(jW kvs k v).length≤sizeLine:=by have:=Zg kvs k v;omega
  refine wpAny_setItem_heap (hsz:=hz) (tupleKind_room_in1 hu) (Gh I.hok eb) dd fun h' dd' hs=>h _ ?_
  obtain⟨q,es,ep,hq,h2,h3,h4,_,h5⟩:=dd'
  refine UL I (by rw[e];exact True.intro) hs ⟨q,hq⟩ ⟨hl,hd,_,(rel.put k eb rv).keeps fun c ys ec=>?_,q,es,ep,hq,h2,h3,h4,h5⟩
  rw[zB (ne_of ec e (fun z=>nomatch z))]
  exact ec
end
section
variable{X:Cx}{pins:List (Addr×Obj)}{σ:St}{H:Hp}{s:Shared}{a:Addr}{kvs:List (Key×V)}{k:Key}{u:Value}{A:Around}{E:Value→Shared→Prop}
end
def sDPut(td ty tv:TE):TS:=fun D σ H=>tv σ H fun v H1=>td σ H1 fun x H2=>ty σ H2 fun y H3=>∃a H4,x=.ref a∧DPut H3 a y v H4∧D.nx σ H4
section
variable{X:Cx}{o i e value:Expr}{pos pos' tpos:Pos}{td ty tv:TE}
theorem Mv(hu:X.A.units+1<cLine)(ho:PE X o td)(hi:PE X i ty)(hv:PE X value tv)(hs:swapsWith value (some (.Subscript o i pos')) pos.line X.env=pure false) :
  PS X (.Assign [.Subscript o i pos'] value pos) (sDPut td ty tv):=by
 intro pins s σ H D I h
 refine wpAny_Assign_Subscript (thn (hv pins s σ H _ I h) fun r s1 ⟨v,H1,I1,rv,q1⟩=>thn (ho pins s1 σ H1 _ I1 q1) fun u s2 ⟨x,H2,I2,rx,q2⟩=>thn (hi pins s2 σ H2 _ I2 q2) fun iv s3 ⟨y,H3,I3,ry,a,H4,ex,g,q3⟩=>?_) hs
 subst ex
 obtain rfl:u=Value.ref a:=rx
 exact JG hu I3 g ry rv fun s4 I4=>⟨σ,H4,I4,q3⟩
end
theorem GD{P:Program}{w:World}{H:Hp}(h:Heap)(hb:sysModules<h.objs.size):ObjOk P w H (h.push { cls:=.type "dict", data:=.dict #[] }) h.objs.size (.dK []):=
 ⟨zero_le _,beq_eq_false_iff_ne.mpr (Ne.symm (ne_of_lt hb)),[],.nil,Heap.DictOf.new h⟩
def Lj:TE:=fun _ H Q=>∀p,H p=none→Q (.ref p) (upd H p (.dK []))
section
variable{X:Cx}{pos:Pos}
theorem QB:PE X (.Dict [] [] pos) Lj:=fun pins s σ H Q I h=>
 wpAny_Dict_empty ⟨.ref s.heap.objs.size,_,I.laid (a:=s.heap.objs.size) (o:=.dK []) (t':=s.toks) (fun _ _ q=>Heap.get?_push_of_some _ q) (le_refl _) (GD s.heap I.big),rfl,h _ (I.hok.fresh (le_refl _))⟩
end
section
variable{X:Cx}{pins:List (Addr×Obj)}{σ:St}{H:Hp}{s:Shared}{a:Addr}{y d:V}{u r:Value}{o:Option V}{A:Around}{E:Value→Shared→Prop}
end
section
variable{X:Cx}{o e f:Expr}{apos cpos:Pos}{td ty tx:TE}
end
section
variable{X:Cx}{pins:List (Addr×Obj)}{σ:St}{H:Hp}{s:Shared}{a:Addr}{kvs:List (Key×V)}{A:Around}{E:Value→Shared→Prop}
end
section
variable{X:Cx}{pins:List (Addr×Obj)}{σ:St}{H:Hp}{s:Shared}{a:Addr}{y:V}{u:Value}{A:Around}{E:Value→Shared→Prop}
end
section
variable{κ:Type}[DecidableEq κ]
end
end L2
set_option Elab.async false
set_option linter.all false
set_option maxRecDepth 100000
namespace STW
open PySem PyProof.Rows
section
variable{prog:Program}{w:World}{K:Type}[DecidableEq K]{knd:KeyKind prog w K}{A:Around}{E:Value→Shared→Prop}{s:Shared}{d:Addr}{kvs:List (K×Value)}{ep:Nat}
theorem Ll:isSubtype (.type "dict") (.type "dict")=pure true:=by first|exact isSubtype_dict_dict|exact PySem.isSubtype_dict_dict | (rw[isSubtype_type];kernel_rfl)
theorem Gn(hm:s.heap.DictAt knd d kvs ep){Q:Bool→Shared→Prop}(q:Q false s):wpAny (model prog w) A (Builtin.List.listLengthHint (.ref d)) Q E s:=by
 have ty:s.TypeIs (.ref d) "dict" := hm.dictOf.typeIs
 unfold Builtin.List.listLengthHint
 refine wpAny_bind (wpAny_specialOf ty F.slot_dict_len.lookup ?_)
 have e1:splitId "dict.__len__" = some ("dict", "__len__"):=by kernel_rfl
 dsimp only
 rw[e1]
 dsimp only
 refine wpAny_bind (wpAny_isInstance ty Ll ?_)
 rw[if_neg (by simp),if_pos (by kernel_rfl)]
 refine wpAny_bind (wpAny_typeOf ty ?_)
 exact wpAny_pure q
theorem Vb(hd:(d==sysModules)=false)(hm:s.heap.DictAt knd d kvs ep)(hz:kvs.length≤sizeLine)(hh:A.handled=none){Q:List Value→Shared→Prop}
  (q:∀(vs:List Value) h' tk,vs.length=kvs.length→(∀(i:Nat) (v:Value),vs[i]?=some v→∃k x,kvs[i]?=some (k,x)∧knd.is k v=true)→(∀b o,s.heap.get? b=some o→h'.get? b=some o)→s.heap.objs.size<h'.objs.size→Q vs { s with heap:=h',toks:=tk }) :
  wpAny (model prog w) A (collect (.ref d)) Q E s:=by
 have ty:s.TypeIs (.ref d) "dict" := hm.dictOf.typeIs
 have hlt:d<s.heap.objs.size:=hm.lt_size
 unfold collect
 refine wpAny_bind (wpAny_runValue (codeAny_builtin F.entry_proto_collect ?_));rw[Around.under_plainId F.plain_proto_collect _]
 show wpAny _ A.in1 (newList [] >>= fun l=>again (.builtin "list.__iadd__" ⟨[l,.ref d],[]⟩)) _ _ s
 refine wpAny_bind (wpAny_newObj_type (wpAny_pure ⟨plainId_quiet F.plain_list_iadd _,codeAny_builtin F.entry_list_iadd ?_⟩));rw[Around.under_plainId F.plain_list_iadd _]
 have hm1:(s.heap.push emp).DictAt knd d kvs ep:=hm.push emp
 show wpAny _ A.in1 (Builtin.List.listExtendWith (.ref s.heap.objs.size) (.ref d) (.ref s.heap.objs.size)) _ _ _
 unfold Builtin.List.listExtendWith
 have ty1:Shared.TypeIs { s with heap:=s.heap.push emp } (.ref d) "dict" := hm1.dictOf.typeIs
 refine wpAny_bind (wpAny_typeOf ty1 ?_)
 have c1:Builtin.List.listSameRef (.ref s.heap.objs.size) (.ref d)=false:=by
  have:s.heap.objs.size≠d:=ne_of_gt hlt
  simp[Builtin.List.listSameRef,this]
 have c2:(Value.type "dict" == Value.type "list")=false:=by decide
 have c3:(Value.type "dict" == Value.type "tuple")=false:=by decide
 simp only[c1,c2,c3,Bool.or_false,Bool.false_eq_true,if_false]
 have sz1:(s.heap.push emp).objs.size=s.heap.objs.size+1:=Heap.size_push _ _
 refine wpAny_bind (wpAny_pyIter_dict (s:={ s with heap:=s.heap.push emp }) hd hm1 ?_)
 generalize hh1:(s.heap.push emp).push { cls:=.type "dict_keyiterator", data:=.fields #[.ref d,.int 0 0,.int kvs.length 0,.int ep 0] }=h1
 have kp:∀b o,(s.heap.push emp).get? b=some o→h1.get? b=some o:=fun b o e=>by rw[← hh1];exact Heap.get?_push_of_some _ e
 have hm2:h1.DictAt knd d kvs ep:=hm1.keep kp
 have hI:h1.get? (s.heap.push emp).objs.size=some { cls:=.type "dict_keyiterator", data:=.fields #[.ref d,.int 0 0,.int kvs.length 0,.int ep 0] }:=by rw[← hh1];exact Heap.get?_push_size _ rfl
 have hne:d≠(s.heap.push emp).objs.size:=by rw[sz1];exact ne_of_lt (Nat.lt_succ_of_lt hlt)
 have W':=(Walks.dictKeys (knd:=knd) (prog:=prog) (w:=w) (A:=A.in1) (by simp[hh]) (s.heap.push emp).objs.size d hne kvs ep).toS
 refine wpAny_bind (wpAny_holding (Gn (s:={ s with heap:=h1 }) hm2 ?_))
 rw[if_pos (by kernel_rfl)]
 refine wpAny_bind (wpAny_rule (wpAny_bind ?_))
 show wpAny _ A.in1 (updateSeq s.heap.objs.size (·.push .none) >>= fun _=>updateSeq s.heap.objs.size (·.pop)) _ _ _
 have g1:h1.get? s.heap.objs.size=some emp:=kp _ _ (Heap.get?_push_size _ rfl)
 refine wpAny_bind (wpAny_updateSeq g1 rfl ?_)
 have g2:=Heap.get?_update_self (Obj.mapSeq (·.push Value.none)) g1 rfl
 refine wpAny_updateSeq g2 rfl ?_
 have g3:=Heap.get?_update_self (Obj.mapSeq (·.pop)) g2 rfl
 have oth:∀b o,b≠s.heap.objs.size→h1.get? b=some o→((h1.update s.heap.objs.size (Obj.mapSeq (·.push Value.none))).update s.heap.objs.size (Obj.mapSeq (·.pop))).get? b=some o:=fun b o hb e=>
  (Heap.get?_update_other _ _ (Ne.symm hb)).trans ((Heap.get?_update_other _ _ (Ne.symm hb)).trans e)
 have hSf:s.heap.objs.size∉[(s.heap.push emp).objs.size,d]:=by
  rw[sz1];simp only[mem_cons,List.not_mem_nil,or_false,not_or];exact⟨ne_of_lt (Nat.lt_succ_self _),ne_of_gt hlt⟩
 have st0:h1.IsKeyIter (s.heap.push emp).objs.size d 0 kvs.length ep∧h1.DictAt knd d kvs ep:=⟨⟨_,hI,rfl,rfl⟩,hm2⟩
 have st1:=W'.frame 0 { s with heap:=h1 } ((h1.update s.heap.objs.size (Obj.mapSeq (·.push Value.none))).update s.heap.objs.size (Obj.mapSeq (·.pop))) s.toks st0 (by simp) fun b hb o e=>oth b o (fun h=>hSf (h ▸ hb)) e
 refine wpAny_pure ⟨plainId_quiet F.plain_extend_loop _,codeAny_extend_loopS (A:=A) W' hz _ hSf _ _ 0 _ _ _ rfl (zero_le _) st1 g3 (ItemsOf.nil _) fun s' acc' c' hmv hS' hacc=>?_⟩
 show wpAny _ A (load s.heap.objs.size >>= _) _ _ s'
 refine wpAny_bind (wpAny_load hS' (wpAny_pure ?_))
 have eq:s' = { s with heap:=s'.heap,toks:=s'.toks }:=by
  obtain⟨_,g,dd,o,_⟩:=hmv
  cases s';simp only at g dd o;subst g;subst dd;subst o;rfl
 rw[eq]
 refine q _ _ _ (by rw[length_toList];exact hacc.1) (fun i v hv=>hacc.2 i v (by rw[← Array.getElem?_toList];exact hv)) (fun b o hb=>hmv.heap b o ?_ ?_) (Heap.lt_size hS')
 ·have hb':=Heap.lt_size hb
  rw[sz1];simp only[mem_cons,List.not_mem_nil,or_false,not_or]
  exact⟨ne_of_lt hb',ne_of_lt (Nat.lt_succ_of_lt hb')⟩
 ·exact oth b o (ne_of_lt (Heap.lt_size hb)) (kp b o (Heap.get?_push_of_some _ hb))
end
section
variable{prog:Program}{w:World}{K:Type}[DecidableEq K]{knd:KeyKind prog w K}{A:Around}{E:Value→Shared→Prop}{s:Shared}{d:Addr}{kvs:List (K×Value)}{ep:Nat}{ns:List Int}{b:Bool}
end
end STW
set_option Elab.async false
set_option linter.all false
set_option maxRecDepth 100000
namespace FD
open PySem PySem.Spec PyProof.Rows L2
variable[Tabs]
omit [Tabs] in
theorem M6{kvs:List (Key×V)}{vs:List (Key×Value)}(h:KV kvs vs):vs.map (·.1)=kvs.map (·.1):=by
 induction h with
 |nil=>rfl
 |cons r _ ih=>rw[map_cons,map_cons,ih,r.1]
section
variable{X:Cx}{pos pp kp p1 p2:Pos}{kk:Nat}
end
def Vl(τ:DS):Prop:=∀(i:Nat) (s:Sl),τ[i]?=some (some s)→∃d,s=.val d
omit [Tabs] in
theorem Vl.noObj{τ:DS}(v:Vl τ):noObj τ:=fun i s h=>by
 cases s with
 |none=>rfl
 |some s=>obtain⟨d,rfl⟩:=v i s h;rfl
omit [Tabs] in
theorem Vl.set{τ:DS}(v:Vl τ)(i:Nat)(d:D):Vl (τ.set i (some (.val d))):=fun j s h=>by
 rw[getElem?_set] at h
 split at h
 ·split at h
  ·cases h;exact⟨d,rfl⟩
  ·cases h
 ·exact v j s h
def Soft(o:Option HO):Prop:=o=none∨(∃vs,o=some (.lst vs))∨∃ks,o=some (.dK ks)
theorem RS.free{K:PySem.W.Frag}{B Z F H:Hp}{τ:DS}{σ:St}{p:Addr}{o:HO}(R:RS K B Z F τ σ H)(v:Vl τ)(hb:B p=none)(hp:F p=none)(hl:Soft (H p))(ho:∀a,o≠.own a:=by intro _ h;cases h):RS K B Z F τ σ (upd H p o):=by
 have ne:∀{a:Addr} {w:HO},H a=some w→(∀vs,w≠.lst vs)→(∀ks,w≠.dK ks)→a≠p:=fun {a w} h n1 n2 z=>by
  subst z
  rcases hl with z|⟨ws,z⟩|⟨ws,z⟩
  ·rw[z] at h;cases h
  ·rw[z] at h;cases h;exact n1 _ rfl
  ·rw[z] at h;cases h;exact n2 _ rfl
 have own:∀(i:Nat) ds,τ[i]?≠some (some (.own ds)):=fun i ds h=>by obtain⟨d,e⟩:=v i _ h;cases e
 have obj:∀(i n:Nat) c fs,τ[i]?≠some (some (.obj n c fs)):=fun i n c fs h=>by obtain⟨d,e⟩:=v i _ h;cases e
 have obr:∀(i:Nat) c fs,τ[i]?≠some (some (.obr c fs)):=fun i c fs h=>by obtain⟨d,e⟩:=v i _ h;cases e
 refine⟨⟨fun b u e=>?_,R.rv.len,R.rv.val,fun i ds h=>absurd h (own i ds),fun i j ds es a _ h=>absurd h (own i ds),⟨fun r hr=>?_,fun d a h=>?_⟩,ObsOk.none v.noObj⟩,fun a u e=>?_,R.zf,R.nb,fun i ds a h=>absurd h (own i ds),fun i n c fs a h=>absurd h (obj i n c fs),fun a0 dx _ _ i n c fs h=>absurd h (obj i _ c fs),fun i c fs a h=>absurd h (obr i c fs)⟩
 ·have:b≠p:=fun z=>by subst z;rw[hp] at e;cases e
  rw[zB this];exact R.rv.fh b u e
 ·obtain⟨t1,t2⟩:=R.rv.tt.1 r hr
  refine⟨t1,?_⟩
  rcases t2 with e|⟨c,e,e2⟩
  ·exact .inl (by rw[zB (ne e (fun _ z=>nomatch z) (fun _ z=>nomatch z))];exact e)
  ·exact .inr ⟨c,by rw[zB (ne e (fun _ z=>nomatch z) (fun _ z=>nomatch z))];exact e,by rw[zB (ne e2 (fun _ z=>nomatch z) (fun _ z=>nomatch z))];exact e2⟩
 ·by_cases z:d=p
  ·subst z;rw[zG] at h;cases h;exact absurd rfl (ho a)
  ·rw[zB z] at h
   obtain⟨C,dx,vs,e⟩:=R.rv.tt.2 d a h
   exact⟨C,dx,vs,by rw[zB (ne e (fun _ z=>nomatch z) (fun _ z=>nomatch z))];exact e⟩
 ·have:a≠p:=fun z=>by subst z;rw[hb] at e;cases e
  rw[zB this];exact R.bh a u e
theorem Gx{F H F' H':Hp}{a:Addr}{o:HO}(x:Ext F H F' H')(h:H a=some o)(f:F a=none):F' a=none:=by
 cases q:F' a with
 |none=>rfl
 |some u=>
  rcases x.nw a u q with z|z
  ·rw[f] at z;cases z
  ·rw[h] at z;cases z
section
variable{X:Cx}{i:Nat}{y:Str}{e0 e0' e0'' e1:Expr}{f0 f1:FE}{q1 q2 q3 cp sp sp2 lp ap ip atp callp xp:Pos}
theorem TZ{X:Cx}{α:Type}{r:Rs α}{a:α}{P:α→Prop}(h:r=.ok a)(p:P a):Ok X r P:=by rw[h];exact p
theorem LW{B H:Hp}{p:Addr}(h:Hh B H)(e:H p=none):B p=none:=by
 cases q:B p with
 |none=>rfl
 |some o=>exact absurd e (Kp.some (h p o q))
theorem LV{F H:Hp}{p:Addr}(h:Same F H)(e:H p=none):F p=none:=by
 cases q:F p with
 |none=>rfl
 |some o=>have:=h p o q;rw[e] at this;cases this
end
section
variable{X:Cx}{i r:Nat}{x y:Str}{e0 e0' e0'' e1 iter:Expr}{fi:FA}{q1 q2 q3 cp sp sp2 lp ap ip atp callp xp tp pos:Pos}
end
def vlB(τ:DS):Bool:=τ.all fun s=>match s with
 |none=>true
 | some (.val _)=>true
 |_=>false
omit [Tabs] in
theorem Le{τ:DS}(h:vlB τ=true):Vl τ:=fun i s e=>by
 have:=all_eq_true.mp h (some s) (mem_of_getElem? e)
 cases s with
 |val d=>exact⟨d,rfl⟩
 |_=>cases this
theorem RS.drop{K:PySem.W.Frag}{B Z F H:Hp}{τ:DS}{σ:St}{i:Nat}{v:Option V}(R:RS K B Z F τ σ H)(vl:Vl τ):RS K B Z F (τ.set i none) (σ.set i v) H∧Vl (τ.set i none):=by
 have get:∀(j:Nat) (s:Sl),(τ.set i none)[j]?=some (some s)→i≠j∧τ[j]?=some (some s):=fun j s h=>by
  by_cases z:i=j
  ·subst z
   rw[getElem?_set] at h
   simp only[if_true] at h
   split at h <;> cases h
  ·rw[getElem?_set_ne z] at h;exact⟨z,h⟩
 have vl':Vl (τ.set i none):=fun j s h=>vl j s (get j s h).2
 have own:∀(j:Nat) ds,(τ.set i none)[j]?≠some (some (.own ds)):=fun j ds h=>by obtain⟨d,e⟩:=vl' j _ h;cases e
 have obj:∀(j n:Nat) c fs,(τ.set i none)[j]?≠some (some (.obj n c fs)):=fun j n c fs h=>by obtain⟨d,e⟩:=vl' j _ h;cases e
 have obr:∀(j:Nat) c fs,(τ.set i none)[j]?≠some (some (.obr c fs)):=fun j c fs h=>by obtain⟨d,e⟩:=vl' j _ h;cases e
 refine⟨⟨⟨R.rv.fh,by rw[length_set,length_set];exact R.rv.len,fun j d h=>?_,fun j ds h=>absurd h (own j ds),fun j k ds es a _ h=>absurd h (own j ds),R.rv.tt,ObsOk.none vl'.noObj⟩,R.bh,R.zf,R.nb,fun j ds a h=>absurd h (own j ds),fun j n c fs a h=>absurd h (obj j n c fs),fun a0 dx _ _ j n c fs h=>absurd h (obj j _ c fs),fun j c fs a h=>absurd h (obr j c fs)⟩,vl'⟩
 obtain⟨ne,e⟩:=get j _ h
 obtain⟨w,h1,h2⟩:=R.rv.val j d e
 exact⟨w,by rw[getElem?_set_ne ne];exact h1,h2⟩
section
variable{X:Cx}{i r:Nat}{x y c:Str}{iter elt:Expr}{fi:FA}{body:List Stmt}{scope:Scope}{yp tp dp a1 fp rp cpos cp sp p1 p2 kp:Pos}{kk:Nat}
end
end FD
set_option Elab.async false
set_option linter.all false
set_option maxRecDepth 100000
namespace STW
open PySem PyProof.Rows
theorem L3:∀x y:List Nat,Spec.ltCps x y=false→Spec.ltCps y x=false→x=y:=fun x=>by
 induction x with
 |nil=>
  intro y h1 h2
  cases y with
  |nil=>rfl
  |cons b y=>cases h1
 |cons a x ih=>
  intro y h1 h2
  cases y with
  |nil=>cases h2
  |cons b y=>
   have g1:(decide (a<b)||(a==b&&Spec.ltCps x y))=false:=h1
   have g2:(decide (b<a)||(b==a&&Spec.ltCps y x))=false:=h2
   rw[Bool.or_eq_false_iff,decide_eq_false_iff_not] at g1 g2
   have e:a=b:=by omega
   subst e
   have g3:Spec.ltCps x y=false:=by simpa using g1.2
   have g4:Spec.ltCps y x=false:=by simpa using g2.2
   rw[ih y g3 g4]
theorem Q9:∀x y z:List Nat,Spec.ltCps y x=false→Spec.ltCps z y=false→Spec.ltCps z x=false:=fun x=>by
 induction x with
 |nil=>intro y z _ _;cases z <;> rfl
 |cons a x ih=>
  intro y z h1 h2
  cases y with
  |nil=>cases h1
  |cons b y=>
   cases z with
   |nil=>cases h2
   |cons c z=>
    have g1:(decide (b<a)||(b==a&&Spec.ltCps y x))=false:=h1
    have g2:(decide (c<b)||(c==b&&Spec.ltCps z y))=false:=h2
    show(decide (c<a)||(c==a&&Spec.ltCps z x))=false
    rw[Bool.or_eq_false_iff,decide_eq_false_iff_not] at g1 g2 ⊢
    refine⟨by omega,?_⟩
    by_cases e:c=a
    ·have e1:b=a:=by omega
     have e2:c=b:=by omega
     have g3:Spec.ltCps y x=false:=by simpa[e1] using g1.2
     have g4:Spec.ltCps z y=false:=by simpa[e2] using g2.2
     rw[ih y z g3 g4];simp
    ·simp[e]
theorem M3(x y:List Nat)(h:Spec.ltCps x y=true):Spec.ltCps y x=false:=by
 cases e:Spec.ltCps y x with
 |false=>rfl
 |true=>
  exfalso
  have aux:∀x y:List Nat,Spec.ltCps x y=true→Spec.ltCps y x=true→False:=fun x=>by
   induction x with
   |nil=>intro y _ h2;cases y <;> cases h2
   |cons a x ih=>
    intro y h1 h2
    cases y with
    |nil=>cases h1
    |cons b y=>
     have g1:(decide (a<b)||(a==b&&Spec.ltCps x y))=true:=h1
     have g2:(decide (b<a)||(b==a&&Spec.ltCps y x))=true:=h2
     simp only[Bool.or_eq_true,decide_eq_true_eq,Bool.and_eq_true,beq_iff_eq] at g1 g2
     rcases g1 with g1|⟨e1,g1⟩
     ·rcases g2 with g2|⟨e2,_⟩ <;> omega
     ·rcases g2 with g2|⟨_,g2⟩
      ·omega
      ·exact ih y g1 g2
  exact aux x y h e
def leS(a b:Str):Prop:=Spec.ltCps b.cps.toList a.cps.toList=false
theorem Xk{a b c:Str}(h1:leS a b)(h2:leS b c):leS a c:=Q9 _ _ _ h1 h2
theorem Q8{a b:Str}(h1:leS a b)(h2:leS b a):a=b:=by
 have:=L3 _ _ h2 h1
 cases a;cases b
 simp only at this
 congr
 exact Array.toList_inj.mp this
def VN(a:Str):List Str→List Str
 |[]=>[a]
 |b::r=>if Spec.ltCps b.cps.toList a.cps.toList=true then b::VN a r else a::b::r
def srtS:List Str→List Str
 |[]=>[]
 |a::r=>VN a (srtS r)
theorem Xs(a:Str):∀l,(VN a l).Perm (a::l):=fun l=>by
 induction l with
 |nil=>exact List.Perm.refl _
 |cons b r ih=>
  unfold VN
  split
  ·exact(ih.cons b).trans (List.Perm.swap a b r)
  ·exact List.Perm.refl _
theorem srtS_perm:∀l,(srtS l).Perm l:=fun l=>by
 induction l with
 |nil=>exact List.Perm.refl _
 |cons a r ih=>exact(Xs a _).trans (ih.cons a)
theorem Tc(a:Str):∀l:List Str,l.Pairwise leS→(VN a l).Pairwise leS:=fun l=>by
 induction l with
 |nil=>intro _;simp[VN]
 |cons b r ih=>
  intro h
  have h':=pairwise_cons.mp h
  unfold VN
  split
  ·rename_i z
   refine pairwise_cons.mpr ⟨fun x hx=>?_,ih h'.2⟩
   rcases mem_cons.mp ((Xs a r).mem_iff.mp hx) with rfl|hx
   ·exact M3 _ _ z
   ·exact h'.1 x hx
  ·rename_i z
   have hab:leS a b:=by unfold leS;simpa using z
   refine pairwise_cons.mpr ⟨fun x hx=>?_,h⟩
   rcases mem_cons.mp hx with rfl|hx
   ·exact hab
   ·exact Xk hab (h'.1 x hx)
theorem G9:∀l:List Str,(srtS l).Pairwise leS:=fun l=>by
 induction l with
 |nil=>exact List.Pairwise.nil
 |cons a r ih=>exact Tc a _ ih
theorem JV:∀{l m:List Str},l.Pairwise leS→m.Pairwise leS→l.Perm m→l=m:=fun {l}=>by
 induction l with
 |nil=>intro m _ _ p;rw[List.nil_perm.mp p]
 |cons a l ih=>
  intro m h1 h2 p
  cases m with
  |nil=>have:=p.length_eq;simp at this
  |cons b m=>
   have g1:=pairwise_cons.mp h1
   have g2:=pairwise_cons.mp h2
   have e:a=b:=by
    have ha:a∈b::m:=p.mem_iff.mp mem_cons_self
    have hb:b∈a::l:=p.mem_iff.mpr mem_cons_self
    rcases mem_cons.mp ha with z|z
    ·exact z
    ·rcases mem_cons.mp hb with y|y
     ·exact y.symm
     ·exact Q8 (g1.1 b y) (g2.1 a z)
   subst e
   rw[ih g1.2 g2.2 p.cons_inv]
theorem U6:∀(l:List Str) (a:Str),risingS a l=true→(a::l).Pairwise leS:=fun l=>by
 induction l with
 |nil=>intro a _;simp
 |cons b l ih=>
  intro a h
  have h':(!(Spec.ltCps b.cps.toList a.cps.toList)&&risingS b l)=true:=h
  rw[Bool.and_eq_true,Bool.not_eq_true'] at h'
  have p:=ih b h'.2
  have p':=pairwise_cons.mp p
  refine pairwise_cons.mpr ⟨fun x hx=>?_,p⟩
  rcases mem_cons.mp hx with rfl|hx
  ·exact h'.1
  ·exact Xk (show leS a b from h'.1) (p'.1 x hx)
theorem U0{l:List Str}(h:sortedS l=true):l.Pairwise leS:=by
 cases l with
 |nil=>exact List.Pairwise.nil
 |cons a l=>exact U6 l a h
theorem Ma{l m:List Str}(p:l.Perm m)(h:sortedS l=true):l=srtS m:=JV (U0 h) (G9 m) (p.trans (srtS_perm m).symm)
section
variable{prog:Program}{w:World}{K:Type}[DecidableEq K]{knd:PySem.KeyKind prog w K}{A:Around}{E:Value→Shared→Prop}{s:Shared}{d:Addr}{kvs:List (K×Value)}{ep:Nat}{ss:List Str}
theorem sortDictS(hd:(d==sysModules)=false)(hm:s.heap.DictAt knd d kvs ep)(h64:kvs.length<64)(hh:A.handled=none)
  (hI:∀vs:List Value,vs.length=kvs.length→(∀(i:Nat) (v:Value),vs[i]?=some v→∃k x,kvs[i]?=some (k,x)∧knd.is k v=true)→StrsAre vs ss) {Q:Value→Shared→Prop}
  (q:∀h' tk a (out:List Value) e,h'.get? a=some (seqObj "list" out.toArray e)→StrsAre out (srtS ss)→s.heap.objs.size≤a→(∀c o,s.heap.get? c=some o→h'.get? c=some o)→Q (.ref a) { s with heap:=h',toks:=tk }) :
  wpAny (model prog w) A (call (.builtin "sorted") [.ref d]) Q E s:=by
 have hz:kvs.length≤sizeLine:=le_trans (le_of_lt h64) (by rw[sizeLine_eq];decide)
 refine Calls.call_function_entry kind_sorted plain_sorted entry_sorted (args_sorted1 _) ?_
 unfold Builtin.«sorted»
 refine wpAny_bind (m:=checkCount "sorted" 1 1 _) (wpAny_pure ?_)
 refine wpAny_bind (Vb hd hm hz (by simp[hh]) fun vs h1 tk hl hv hk hs=>?_)
 have hi:=hI vs hl hv
 refine wpAny_bind (wpAny_newList ?_ (by rw[hl];exact hz))
 have hoL:(h1.push (seqObj "list" vs.toArray 0)).get? h1.objs.size=some (seqObj "list" vs.toArray 0):=Heap.get?_push_size _ rfl
 show wpAny _ _ _ _ _ { s with heap:=h1.push (seqObj "list" vs.toArray 0),toks:=tk }
 refine wpAny_bind (wpAny_holding (wpAny_call_entry slot_list_sort ⟨_,hoL,rfl⟩ entry_list_sort (list_sort_treeK (s:={ s with heap:=h1.push (seqObj "list" vs.toArray 0),toks:=tk }) strKind_oneLt hoL hi.keysOf (fun v1 v2 r e=>?_) (by omega) fun st' a2 a3=>⟨_,rfl,?_⟩) (args_list_sort _)))
 ·subst e;exact keyKind_strs hi
 obtain⟨ss',b1,b2,b3⟩:=sorted_out_str hi a2 a3
 have en:=Ma b2 b3
 subst en
 obtain⟨e,he⟩:=sortedHeap_at (out:=Array.map (fun x=>x.snd) (arrOf st')) hoL
 refine wpAny_pure ⟨_,rfl,q _ _ h1.objs.size (Array.map (fun x=>x.snd) (arrOf st')).toList e (by rw[Array.toArray_toList];exact he) b1 (le_of_lt hs) fun c o hc=>?_⟩
 have hb1:=hk c o hc
 have hlt:=Heap.lt_size hb1
 rw[sortedHeap_old (ne_of_lt hlt) (by rw[size_push'];exact Nat.lt_succ_of_lt hlt)]
 exact Heap.get?_push_of_some _ hb1
end
end STW
set_option Elab.async false
set_option linter.all false
set_option maxRecDepth 100000
namespace FD
open PySem PySem.Spec PyProof.Rows L2
variable[Tabs]
omit [Tabs] in
theorem YL(bs:List Bool):(List.range bs.length).any (fun i=>bs.getD i false)=bs.any id:=by
 rw[Bool.eq_iff_iff,List.any_eq_true,List.any_eq_true]
 constructor
 ·rintro⟨i,hi,h⟩
  have hi:=mem_range.mp hi
  exact⟨bs[i],getElem_mem hi,by simpa[getD_eq_getElem?_getD,hi] using h⟩
 ·rintro⟨x,hx,h⟩
  obtain⟨i,hi,rfl⟩:=List.mem_iff_getElem.mp hx
  exact⟨i,mem_range.mpr hi,by simpa[getD_eq_getElem?_getD,hi] using h⟩
section
variable{X:Cx}
theorem JM(hc:X.calm=true):CallR X (.builtin "any") (fun vs H Q=>∃a ws F ds bs,vs=[.ref a]∧H a=some (.lst ws)∧Reps X.K F ds ws∧xT ds=some bs∧Q (.bl (bs.any id)) H):=by
 intro pins s σ H vs us Q I r h
 obtain⟨a,ws,F,ds,bs,rfl,e,t,hb,q⟩:=h
 obtain⟨u,rfl,r1⟩:=vals1 r
 cases r1
 obtain⟨its,rr,p,_⟩:=I.list (SqL.of (K:=X.K) e)
 have ei:=jq hb t rr
 subst ei
 have hh:X.A.in1.handled=none:=I.ok.hd hc
 have hlt:a<s.heap.objs.size:=I.hok.lt e
 refine call_any_walk (wpAny_pyIter_list p.isList ⟨s.heap.objs.size,_,_,_,_,_,fun i=>bs.getD i false,rfl,Walks.list hh s.heap.objs.size a (ne_of_lt hlt) (bs.map Value.bool).toArray,⟨⟨_,Heap.get?_push_size _ rfl,rfl,rfl⟩,p.isList.push _⟩,fun i v E' s' Q' hP hQ=>?_,fun h' tk hk=>?_⟩)
 ·have hP:(bs.map Value.bool)[i]?=some v:=by simpa using hP
  rw[getElem?_map] at hP
  cases z:bs[i]? with
  |none=>rw[z] at hP;cases hP
  |some b=>
   rw[z] at hP
   cases hP
   exact wpAny_truthy_bool (by simpa[getD_eq_getElem?_getD,z] using hQ)
 ·have en:(bs.map Value.bool).toArray.size=bs.length:=by simp
  rw[en,YL]
  have I1:Inv X pins σ H { s with heap:=s.heap.push { cls:=.type "list_iterator", data:=.fields #[.ref a,.int 0 0] } }:=I.kept (t':=s.toks) fun b o e=>Heap.get?_push_of_some _ e
  have fk:=I.fpOk (H':=H) (le_refl s.heap.objs.size) (I.hok.fresh (le_refl _))
  refine⟨.bl (bs.any id),H,XD (s:={ s with heap:=s.heap.push { cls:=.type "list_iterator", data:=.fields #[.ref a,.int 0 0] } }) (ch:=[s.heap.objs.size]) I1 (fun b o hb e=>hk b o hb e) (fun b hb=>?_) (fun b hb=>?_),rfl,q⟩
  ·have z:b=s.heap.objs.size:=by simpa using hb
   subst z;exact fk
  ·have z:b=s.heap.objs.size:=by simpa using hb
   subst z;exact fk.1
theorem zc0(hc:X.calm=true):YF X (.builtin "any") TK:=⟨_,JM hc,fun F H vs ds Q fh r h=>by
 cases ds with
 |nil=>exact h.elim
 |cons d r2=>
  cases r2 with
  |cons a b=>cases d <;> exact h.elim
  |nil=>
   cases d with
   |lst xs=>
    obtain⟨v,rfl,q⟩:=r.one
    simp only[Rep] at q;obtain⟨a,ws,rfl,e,t⟩:=q
    simp only[TK] at h
    cases z:xT xs with
    |none=>rw[z] at h;exact h.elim
    |some bs=>rw[z] at h;exact⟨a,ws,F,xs,bs,rfl,fh _ _ e,t,z,h _ F H (Ext.refl fh) (by simp only[Rep])⟩
   |_=>exact h.elim⟩
end
def ur(ft:FT)(fb:FS):Nat→DS→Fl
 |0,_=>.no
 |n+1,τ=>Fl.of (ft τ) fun b=>if b=true then (match fb τ with
  |.nx τ'=>ur ft fb n τ'
  |.rt d=>.rt d
  |_=>.no) else .nx τ
def XM(ft:FT)(fb:FS):FS:=ur ft fb 64
theorem Jc{X:Cx}{pos:Pos}{c:Expr}{body:List Stmt}{ft:FT}{fb:FS}(hp:PassesOwn (model X.prog X.w) X.A X.env X.xe)(hc:PDT X c ft)(hb:Zz X body fb):PDS X (.While c body [] pos) (XM ft fb):=
 PS.imp (Qu hp hc hb) fun E σ H ⟨B,Z,F,τ,R,h⟩=>by
  refine⟨fun m σ H=>∃F' τ',Same F F'∧RS X.K B Z F' τ' σ H∧Post X B Z F' E (ur ft fb m τ'),⟨64,F,τ,Same.refl _,R,h⟩,?_⟩
  rintro m σ1 H1 ⟨F1,τ1,f1,R1,p1⟩
  cases m with
  |zero=>exact p1.elim
  |succ m=>
   refine⟨F1,τ1,R1.rv,?_⟩
   refine(Post.of p1).imp fun b p2 F2 H2 x2=>?_
   cases b with
   |false=>exact p2 σ1 F2 H2 x2.ff (R1.ext x2)
   |true=>
    rw[if_pos rfl] at p2 ⊢
    refine⟨fun σ' H'=>∃F' τ',Same F F'∧RS X.K B Z F' τ' σ' H'∧Post X B Z F' E (ur ft fb m τ'),fun σ' H' ⟨F',τ',a,b,c⟩=>⟨m,Nat.lt_succ_self _,F',τ',a,b,c⟩,B,Z,F2,τ1,R1.ext x2,?_⟩
    cases q:fb τ1 with
    |nx τ2=>rw[q] at p2;exact fun σ' F' H' ff RR=>⟨F',τ2,(f1.trans x2.ff).trans ff,RR,Post.same p2 (x2.ff.trans ff)⟩
    |rt d=>rw[q] at p2;exact p2
    |ct τ2=>rw[q] at p2;exact p2.elim
    |bk τ2=>rw[q] at p2;exact p2.elim
    |ro d τ2=>rw[q] at p2;exact p2.elim
    |rb d τ2=>rw[q] at p2;exact p2.elim
    |ex c=>rw[q] at p2;exact p2.elim
    |no=>rw[q] at p2;exact p2.elim
    |rs c τ2=>rw[q] at p2;exact p2.elim
def kvT(ks:List Str):List (Key×V):=ks.map fun k=>(Sum.inr k,V.bl true)
def wU(ks:List Str)(k:Str):List Str:=if k∈ks then ks else ks++[k]
omit [Tabs] in
theorem put_T(ks:List Str)(k:Str):jW (kvT ks) (Sum.inr k) (V.bl true)=kvT (wU ks k):=by
 unfold jW wU
 have e:((kvT ks).any fun kv=>decide (kv.1=Sum.inr k))=decide (k∈ks):=by
  unfold kvT
  induction ks with
  |nil=>rfl
  |cons a ks ih=>
   rw[map_cons,any_cons,ih]
   by_cases z:a=k
   ·subst z;simp
   ·have z2:¬ k=a:=fun y=>z y.symm
    simp[z,z2]
 rw[e]
 by_cases h:k∈ks
 ·rw[if_pos (by simpa using h),if_pos h]
  unfold kvT
  rw[map_map]
  refine List.map_congr_left fun a _=>?_
  simp only[Function.comp]
  split <;> rfl
 ·rw[if_neg (by simpa using h),if_neg h]
  unfold kvT
  rw[map_append];rfl
structure Dt(B F H:Hp)(σ:St)(i:Nat)(ks:List Str)(d:Addr):Prop where
 sl:σ[i]?=some (some (.ref d))
 db:B d=none
 df:F d=none
 dh:H d=some (.dK (kvT ks))
theorem Dt.ext{B F H F' H':Hp}{σ:St}{i:Nat}{ks:List Str}{d:Addr}(D:Dt B F H σ i ks d)(x:Ext F H F' H'):Dt B F' H' σ i ks d:=
 ⟨D.sl,D.db,Gx x D.dh D.df,x.hh _ _ D.dh⟩
theorem Dt.set{B F H:Hp}{σ:St}{i k:Nat}{ks:List Str}{d:Addr}{v:Option V}(D:Dt B F H σ i ks d)(h:k≠i):Dt B F H (σ.set k v) i ks d:=
 { D with sl:=by rw[getElem?_set_ne h];exact D.sl }
abbrev FG2:=DS→List Str→Option (DS×List Str)
def tGd(X:Cx)(i:Nat)(f:FG2):TS:=fun E σ H=>∃B Z F τ ks d τ' ks',RS X.K B Z F τ σ H∧Vl τ∧Dt B F H σ i ks d∧f τ ks=some (τ',ks') ∧
 ∀σ' F' H',Same F F'→RS X.K B Z F' τ' σ' H'→Vl τ'→Dt B F' H' σ' i ks' d→E.nx σ' H'
def Zy(fk:FE):FG2:=fun τ ks=>match fk τ with
 | .ok (.str k)=>if ks.length≤1000 then some (τ,wU ks k) else none
 |_=>none
omit [Tabs] in
theorem JD{fk:FE}{τ τ':DS}{ks ks':List Str}(h:Zy fk τ ks=some (τ',ks')):∃k,fk τ=.ok (.str k)∧ks.length≤1000∧τ'=τ∧ks'=wU ks k:=by
 unfold Zy at h
 split at h
 ·rename_i k e
  split at h
  ·rename_i z
   cases h
   exact⟨k,e,z,rfl,rfl⟩
  ·cases h
 ·cases h
section
variable{X:Cx}{i r:Nat}{x y:Str}{e0 iter:Expr}{fk:FE}{fi:FA}{f:FG2}{q1 sp bp ap tp pos:Pos}{kk:Nat}{body:List Stmt}
theorem Mt(hu:X.A.units+1<cLine)(hd:PE X (.Name y q1) (YH i))(hk:PDE X e0 fk)(hsw:swapsWith (.Constant (.bool true) kk bp) (some (.Subscript (.Name y q1) e0 sp)) ap.line X.env=pure false:=by rfl) :
  PS X (.Assign [.Subscript (.Name y q1) e0 sp] (.Constant (.bool true) kk bp) ap) (tGd X i (Zy fk)):=
 PS.imp (Mv hu hd hk TY hsw) fun E σ H h=>by
  obtain⟨B,Z,F,τ,ks,d,τ',ks',R,vl,D,hf,q⟩:=h
  obtain⟨k,z1,z2,z3,z4⟩:=JD hf
  subst z3;subst z4
  refine⟨_,D.sl,?_⟩
  refine tE.at R (TZ z1 rfl) fun dd w F1 H1 g x R1 r=>?_
  subst g
  simp only[Rep] at r;subst r
  have D1:=D.ext x
  have pt:=DPut.k (k:=Sum.inr k) (v:=.bl true) D1.dh (by rw[sizeLine_eq];unfold kvT;rw[length_map];omega)
  rw[put_T] at pt
  exact⟨d,_,rfl,pt,q σ F1 _ x.ff (RS.free (o:=.dK (kvT (wU ks k))) R1 vl D1.db D1.df (.inr (.inr ⟨_,D1.dh⟩))) vl ⟨D1.sl,D1.db,D1.df,zG⟩⟩
def Ym(f:FG2)(r:Nat):List D→FG2
 |[],τ,ks=>some (τ,ks)
 |d::ds,τ,ks=>(f (τ.set r (some (.val d))) ks).bind fun p=>Ym f r ds p.1 p.2
def Yn(fi:FA)(r:Nat)(f:FG2):FG2:=fun τ ks=>match fi τ with
 |.ok ds=>Ym f r ds τ ks
 |_=>none
theorem Uf(hp:PassesOwn (model X.prog X.w) X.A X.env X.xe)(hc:X.calm=true)(hi:PDI X (.Name x tp) iter fi)(hN:X.N.Nodup)(hx:X.N[r]?=some x)(hlc:Loc X.env.scope x)(hri:r≠i)
  (hb:PSs X body (tGd X i f)) (hf:X.fn x=true∨X.env.scope.names.lookup x=some .local:=by first|exact .inl rfl|exact .inr rfl|assumption) (hs:∀x,foldedSetIterable iter X.env x=pure x:=by intro _;rfl) :
  PS X (.For (.Name x tp) iter body [] pos) (tGd X i (Yn fi r f)):=
 PS.imp (Qw hp hc hi (ZD hN hx hlc hf) hb hs) fun E σ H h=>by
  obtain⟨B,Z,F,τ,ks,d,τe,kse,R,vl,D,hf,q⟩:=h
  unfold Yn at hf
  cases hfi:fi τ with
  |no=>rw[hfi] at hf;cases hf
  |ex c=>rw[hfi] at hf;cases hf
  |ok ds=>
   rw[hfi] at hf
   dsimp only at hf
   refine⟨F,τ,R.rv,TZ hfi fun J F1 H1 x1 io=>?_⟩
   refine⟨fun n m σ H=>m=ds.length-n∧n≤ds.length∧∃F' τ' ks',Same F1 F'∧RS X.K B Z F' τ' σ H∧Vl τ'∧Dt B F' H σ i ks' d∧Ym f r (ds.drop n) τ' ks'=some (τe,kse),⟨ds.length,by simp,zero_le _,F1,τ,ks,Same.refl _,R.ext x1,vl,D.ext x1,hf⟩,?_⟩
   rintro n m σ2 H2 ⟨rfl,hn,F2,τ2,k2,f2,R2,v2,D2,g2⟩
   obtain⟨i1,i2⟩:=io n F2 H2 f2 R2.rv.fh
   by_cases hlt:n<ds.length
   ·have hd:ds.drop n=ds[n]::ds.drop (n+1):=drop_eq_getElem_cons hlt
    rw[hd] at g2
    obtain⟨go,yl⟩:=i2 ds[n] (by simp[hlt])
    refine .inr ⟨go,fun σ' H'=>∃F' τ' ks',Same F2 F'∧RS X.K B Z F' τ' σ' H'∧Vl τ'∧Dt B F' H' σ' i ks' d∧Ym f r (ds.drop (n+1)) τ' ks'=some (τe,kse),fun σ' H' ⟨F',τ',ks',a,b,c,t,e⟩=>⟨ds.length-(n+1),by omega,rfl,hlt,F',τ',ks',f2.trans a,b,c,t,e⟩,fun w H' yy=>?_⟩
    obtain⟨F3,x3,r3⟩:=yl w H' yy
    have R3:=(R2.ext x3).set (i:=r) r3
    have D3:=(D2.ext x3).set (v:=some w) (k:=r) hri
    unfold Ym at g2
    cases z:f (τ2.set r (some (.val ds[n]))) k2 with
    |none=>rw[z] at g2;cases g2
    |some p=>
     obtain⟨τ3,k3⟩:=p
     rw[z] at g2
     exact⟨B,Z,F3,_,k2,d,τ3,k3,R3,v2.set r _,D3,z,fun σ' F' H'' ff RR vv DD=>⟨F',τ3,k3,x3.ff.trans ff,RR,vv,DD,g2⟩⟩
   ·have e:n=ds.length:=by omega
    subst e
    rw[List.drop_length] at g2
    cases g2
    exact .inl ⟨i1 (by simp),q σ2 F2 H2 (x1.ff.trans f2) R2 v2 D2⟩
end
omit [Tabs] in
theorem J8:∀{vs:List Value} {ns:List Str},vs.length=ns.length→(∀(i:Nat) (v:Value) (n:Str),vs[i]?=some v→ns[i]?=some n→Value.isStrOf n v=true)→StrsAre vs ns:=fun {vs}=>by
 induction vs with
 |nil=>
  intro ns h k
  cases ns with
  |nil=>exact .nil
  |cons _ _=>simp at h
 |cons v vs ih=>
  intro ns h k
  cases ns with
  |nil=>simp at h
  |cons n ns=>
   obtain⟨t,rfl⟩:=Value.isStrOf_shape (k 0 v n rfl rfl)
   exact .cons n t (ih (by simpa using h) fun i u m h1 h2=>k (i+1) u m (by simpa using h1) (by simpa using h2))
omit [Tabs] in
theorem JT:∀{vs:List Value} {ns:List Str},StrsAre vs ns→Vals (ns.map V.str) vs:=fun {vs ns} h=>by
 induction h with
 |nil=>exact .nil
 |cons y t _ ih=>exact .cons ⟨t,rfl⟩ ih
def Lr(vs:List V)(H:Hp)(Q:VK):Prop:=∃d ks,vs=[.ref d]∧H d=some (.dK (kvT ks))∧ks.length<64∧∀p,H p=none→Q (.ref p) (upd H p (.lst ((STW.srtS ks).map V.str)))
theorem VU{X:Cx}(hc:X.calm=true):CallR X (.builtin "sorted") Lr:=by
 intro pins s σ H vs us Q I r ⟨d,ks,e1,e2,h64,q⟩
 subst e1
 obtain⟨u,rfl,ru⟩:=Vals.one r
 cases ru
 obtain⟨z,hd,ws,rel,dd⟩:=Lb I.hok e2
 obtain⟨ep,da⟩:=dd.dictAt
 have kk':ws.map (·.1)=ks.map Sum.inr:=by
  rw[M6 rel];unfold kvT;rw[map_map];rfl
 have wl:ws.length=ks.length:=by have:=congrArg List.length kk';simpa using this
 refine STW.sortDictS (ss:=ks) hd da (by omega) (I.ok.hd hc) (fun vs hl hv=>J8 (by omega) fun i v n hi hn=>?_) fun h' tk a out e he ho hsz hk=>?_
 ·obtain⟨k,x,hkx,his⟩:=hv i v hi
  have:(ws.map (·.1))[i]?=some k:=by rw[getElem?_map,hkx];rfl
  rw[kk',getElem?_map,hn] at this
  cases this
  exact his
 ·have ll:((STW.srtS ks).map V.str).length≤sizeLine:=by
   rw[length_map,(STW.srtS_perm ks).length_eq]
   exact le_of_lt (wc (by omega))
  exact⟨.ref a,_,I.laid (t':=tk) (o:=.lst ((STW.srtS ks).map V.str)) hk hsz ⟨ll,out,e,JT ho,he⟩,rfl,q a (I.hok.fresh hsz)⟩
theorem Reps.strs{K:PySem.W.Frag}{F:Hp}(ks:List Str):Reps K F (ks.map D.str) (ks.map V.str):=by
 induction ks with
 |nil=>exact Reps.nil
 |cons k ks ih=>exact Reps.cons (by simp only[Rep]) ih
def jU(i:Nat)(f:FG2):FS:=fun τ=>if vlB τ=true∧i<τ.length then match f (τ.set i none) [] with
 |some p=>if p.2.length<64 then .rt (.lst ((STW.srtS p.2).map D.str)) else .no
 |none=>.no
 else .no
section
variable{X:Cx}{i r:Nat}{x y sx:Str}{iter:Expr}{f:FG2}{st:Stmt}{yp dp a1 rp p1 pos pp:Pos}
theorem VA(hN:X.N.Nodup)(hc:X.calm=true)(hy:X.N[i]?=some y)(hly:Loc X.env.scope y)(hb:PS X st (tGd X i f))
  (hg:Gl X sx) (hm:X.mg sx=none) (hv:bootBuiltins sx=some (.builtin "sorted")) (hpy:PE X (.Name y p1) (YH i))
  (hn:sx ≠ "__name__" := by decide) (hdb:(sx==("__debug__" : Str))=false:=by decide)
  (he:starEach [.Name y p1] X.env=(false,eval (.Name y p1) X.env)::starEach [] X.env:=by rfl) (hpl:(backTo pos (starEach [] X.env)).any (·.1)=false:=by rfl)
  (hsw:swapsWith (.Dict [] [] dp) (some (.Name y yp)) a1.line X.env=pure false:=by rfl) (hfy:X.fn y=true∨X.env.scope.names.lookup y=some .local:=by first|exact .inl rfl|exact .inr rfl|assumption) :
  Zz X [.Assign [.Name y yp] (.Dict [] [] dp) a1,st,.Return (some (.Call (.Name sx pp) [.Name y p1] [] pos)) rp] (jU i f):=
 PSs.imp (ZW (Vy (i:=i) hN hy hly QB hsw hfy) (ZW hb (ZB (Vz (L2.pe_callB (VU hc) hg hm hv (ZF hpy XW (by rw[he])) hn hdb he hpl))))) fun E σ H h=>by
  obtain⟨B,Z,F,τ,R,h⟩:=h
  unfold jU at h
  by_cases z:vlB τ=true∧i<τ.length
  ·rw[if_pos z] at h
   obtain⟨z1,z3⟩:=z
   have vl:=Le z1
   intro p hp'
   have bp:B p=none:=LW R.bh hp'
   have fp':F p=none:=LV R.rv.fh hp'
   obtain⟨R1,v1⟩:=RS.drop (i:=i) (v:=some (.ref p)) (RS.free (o:=.dK []) R vl bp fp' (.inl hp')) vl
   cases q:f (τ.set i none) [] with
   |none=>rw[q] at h;exact h.elim
   |some pr=>
    obtain⟨τ',ks⟩:=pr
    rw[q] at h
    dsimp only at h
    by_cases z5:ks.length<64
    ·rw[if_pos z5] at h
     refine⟨B,Z,F,τ.set i none,[],p,τ',ks,R1,v1,⟨?_,bp,fp',zG⟩,q,fun σ' F' H' ff R' v' D'=>?_⟩
     ·rw[getElem?_set_self (by rw[← R.rv.len];exact z3)]
     ·refine⟨_,D'.sl,p,ks,rfl,D'.dh,z5,fun a ha=>?_⟩
      have x:=Ext.new (o:=.lst ((STW.srtS ks).map V.str)) R'.rv.fh ha
      exact h _ _ _ (R'.ext x).out (by simp only[Rep];exact⟨_,_,rfl,zG,Reps.strs _⟩)
    ·rw[if_neg z5] at h;exact h.elim
  ·rw[if_neg z] at h;exact h.elim
end
section
variable{τ:DS}{fa fb fc fe fi:FE}{fs:FA}{op:D→D→Rs D}{d x y:D}{i j k:Int}{n m:Nat}
def getV:Option (Option Sl)→Rs D
 | some (some (.val d))=>.ok d
 |_=>.no
def WY:Option (Option Sl)→Rs (List D)
 | some (some (.own d))=>.ok d
 |_=>.no
@[simp] theorem zu:getV (some (some (.val d)))=.ok d:=rfl
@[simp] theorem y4{ds:List D}:WY (some (some (.own ds)))=.ok ds:=rfl
theorem zC:zd n τ=getV τ[n]?:=rfl
theorem wM:uZ τ n=WY τ[n]?:=rfl
theorem yt:eC d τ=.ok d:=rfl
theorem yc:eOp op fa fb τ=(fa τ).bind fun x=>(fb τ).bind fun y=>op x y:=rfl
theorem zE:zi τ=.ok []:=rfl
theorem zt:za fa fs τ=(fa τ).bind fun x=>(fs τ).bind fun r=>.ok (x::r):=rfl
theorem ZL:vR fs τ=(fs τ).bind fun ds=>if ds.length≤sizeLine then .ok (.lst ds) else .no:=rfl
theorem UG:wF fs τ=(fs τ).bind fun ds=>if ds.length≤sizeLine then .ok (.tup ds) else .no:=rfl
theorem ya{g:List D→Rs D}:zo g fs τ=(fs τ).bind fun ds=>MT (g ds):=rfl
theorem xg{g:List D→Rs D}:yg g fs τ=(fs τ).bind g:=rfl
theorem GC{g:FT}:eIf g fa fb τ=(g τ).bind fun b=>if b=true then fa τ else fb τ:=rfl
theorem UI:Tq fa fb τ=(fa τ).bind fun x=>(uU x).bind fun b=>if b=true then fb τ else .ok x:=rfl
theorem GB:eOr fa fb τ=(fa τ).bind fun x=>(uU x).bind fun b=>if b=true then .ok x else fb τ:=rfl
theorem To:zb6 fa τ=(fa τ).bind fun x=>(uU x).bind fun b=>.ok (.bl (!b)):=rfl
def boolOf:D→Rs Bool
 |.bl b=>.ok b
 |_=>.no
@[simp] theorem zP{b:Bool}:boolOf (.bl b)=.ok b:=rfl
theorem xn:FD.tB fe τ=(fe τ).bind boolOf:=rfl
theorem xH:ve fe τ=(fe τ).bind uU:=rfl
theorem wG{f g:FT}:vf f g τ=(f τ).bind fun b=>if b=true then g τ else .ok false:=rfl
theorem wO{f g:FT}:uV f g τ=(f τ).bind fun b=>if b=true then .ok true else g τ:=rfl
theorem vy{f:FT}:wf f τ=(f τ).bind fun b=>.ok (!b):=rfl
theorem UH{T:String}{g:D→List D→Rs D}:VR T g fa τ=(fa τ).bind fun d=>if YX T d=true then g d [] else .no:=rfl
theorem GA{fl fh:FO}:eSl fe fl fh τ=(fe τ).bind fun d=>(fl τ).bind fun l=>(fh τ).bind fun u=>slD d l u:=rfl
def Ub:D→Rs (Option Int)
 |.int i=>.ok (some i)
 |_=>.no
@[simp] theorem Wn:Ub (.int i)=.ok (some i):=rfl
theorem Z6:wm fe τ=(fe τ).bind Ub:=rfl
def Fl.thn(r:Fl)(g:FS):Fl:=match r with
 |.nx τ=>g τ
 |r=>r
@[simp] theorem yb{g:FS}:(Fl.nx τ).thn g=g τ:=rfl
@[simp] theorem vG{g:FS}:(Fl.rt d).thn g=.rt d:=rfl
theorem zK{f g:FS}:zy f g τ=(f τ).thn g:=rfl
theorem zZ:zX n fe τ=Fl.of (fe τ) fun d=>.nx (τ.set n (some (.val d))):=rfl
theorem wK:vN n fs τ=Fl.of (fs τ) fun ds=>.nx (τ.set n (some (.own ds))):=rfl
theorem yk{g:FT}{f h:FS}:sIf g f h τ=Fl.of (g τ) fun b=>if b=true then f τ else h τ:=rfl
theorem zT:yA fe τ=Fl.of (fe τ) fun d=>.rt d:=rfl
theorem wL:uf n τ=Fl.of (uZ τ n) fun ds=>.rt (.lst ds):=rfl
theorem zR:zV τ=.nx τ:=rfl
theorem xQ{set:FG}{body:FS}:wj fs set body τ=Fl.of (fs τ) fun ds=>yB set body ds τ:=rfl
@[simp] theorem zO:vQ (.rt d)=.ok d:=rfl
@[simp] theorem yI:MT (.ok d)=.ok d:=rfl
@[simp] theorem y7:zU (.int i) (.int j)=.ok (.int (i+j)):=rfl
theorem V1{a b:Str}(h:a.length+b.length≤sizeLine):zU (.str a) (.str b)=.ok (.str (a++b)):=if_pos h
@[simp] theorem x6:wP (.int i) (.int j)=.ok (.int (i-j)):=rfl
theorem vH(h:(-(18446744073709551616)<i∧i<18446744073709551616)∨(-(18446744073709551616)<j∧j<18446744073709551616)):w6 (.int i) (.int j)=.ok (.int (i*j)):=if_pos h
theorem Z8(h:0<j):X6 (.int i) (.int j)=.ok (.int (i%j)):=by
 show(if decide (0<j)=true then _ else _)=_
 rw[if_pos (by simpa using h)]
theorem ZJ(h:0<j∧j<1073741824):Yr (.int i) (.int j)=.ok (.int (i / j)):=by
 show(if decide (0<j∧j<1073741824)=true then _ else _)=_
 rw[if_pos (by simpa using h)]
@[simp] theorem Yc:ltI (.int i) (.int j)=.ok (.bl (decide (i<j))):=rfl
@[simp] theorem T2:leD (.int i) (.int j)=.ok (.bl (decide (i≤j))):=rfl
@[simp] theorem WW:gtD (.int i) (.int j)=.ok (.bl (decide (j<i))):=rfl
@[simp] theorem Gr:geD (.int i) (.int j)=.ok (.bl (decide (j≤i))):=rfl
@[simp] theorem wX:eqD (.int i) (.int j)=.ok (.bl (i==j)):=rfl
@[simp] theorem Gy{a b:Str}:eqD (.str a) (.str b)=.ok (.bl (a==b)):=rfl
@[simp] theorem T1:neD (.int i) (.int j)=.ok (.bl (!(i==j))):=rfl
@[simp] theorem Yl{a b:Str}:inD (.str a) (.str b)=.ok (.bl (V9 a b)):=rfl
theorem wx(c:Nat)(x:Str):V9 ⟨#[c]⟩ x=decide (c∈x.cps.toList):=StrLaws.found_one x c
@[simp] theorem Q7{ns:List Int}:yv [.scr ns]=.ok (.int ns.length):=rfl
@[simp] theorem vo{ds:List D}:yv [.lst ds]=.ok (.int ds.length):=rfl
theorem WK{a:Str}(h:a.length≤sizeLine):yv [.str a]=.ok (.int a.length):=if_pos h
theorem M9{ns:List Int}{a:Int}(h:atI ns k=some a):ixD (.scr ns) (.int k)=.ok (.int a):=by
 show(match atI ns k with|some d=>Rs.ok (D.int d) | none=>.no)=_
 rw[h]
theorem Ux{ds:List D}{a:D}(h:atI ds k=some a):ixD (.lst ds) (.int k)=.ok a:=by
 show(match atI ds k with|some d=>Rs.ok d|none=>.no)=_
 rw[h]
theorem ZH{a:Str}{c:Nat}(h:atI a.cps.toList k=some c)(hz:a.length≤sizeLine):ixD (.str a) (.int k)=.ok (ym c):=by
 show(match atI a.cps.toList k with|some c=>if a.length≤sizeLine then Rs.ok (D.str ⟨#[c]⟩) else .no|none=>.no)=_
 rw[h]
 exact if_pos hz
theorem YC{α:Type}{xs:List α}{a:α}(h0:0≤k)(h:xs[k.toNat]?=some a):atI xs k=some a:=by
 have:=UR (j:=k.toNat) h
 rwa [toNat_of_nonneg h0] at this
@[simp] theorem xG{b:Bool}:uU (.bl b)=.ok b:=rfl
theorem J0{a:Str}(h:a.length≤sizeLine):uU (.str a)=.ok ((a.length:Int) != 0):=if_pos h
theorem z0{b:FS}{ds:List D}:xb n b ds=vQ (b (zW n ds)):=rfl
end
theorem VO(l:List PyData):PyData.eqvAll l []=l.isEmpty:=by cases l <;> simp[PyData.eqvAll]
theorem MR(ns:List Int):okD (.scr ns)=true:=by
 have c:∀l:List Int,PyData.canLayAll0 (l.map PyData.int)=true:=fun l=>by
  induction l with
  |nil=>rfl
  |cons a r ih=>simp[PyData.canLayAll0,PyData.canLay0,ih]
 have d:∀l:List Int,PyData.depthAll (l.map PyData.int)=0:=fun l=>by
  induction l with
  |nil=>rfl
  |cons a r ih=>simp[PyData.depthAll,PyData.depth,ih]
 simp[okD,vi,vw,PyData.canLay0,PyData.depth,c,d]
theorem W7(ns:List Int):eqD (.scr ns) (.lst [])=.ok (.bl ns.isEmpty):=by
 have o2:okD (.lst [])=true:=by decide
 have:ub (.scr ns) (.lst [])=ns.isEmpty:=by
  simp only[ub,vw,toPys,PyData.eqv,VO]
  cases ns <;> rfl
 simp only[eqD,MR,o2,this,and_self,if_true]
end FD
set_option Elab.async false
set_option linter.all false
set_option maxRecDepth 100000
namespace Law
open PySem PySem.Spec PyProof.Rows L2 FD
instance tabs:FD.Tabs:=⟨[(152,112,28,("in_order" : Str) ++ ".<locals>." ++ "<lambda>")],fun c f=>false⟩
def Zq:FS:=(zy (sIf (tB (eOp eqD (zd 0) (vR zi))) (yA (eOp w6 (eC (.int 7)) (zd 1))) zV)
  (yA (eOp zU (eOp ixD (zd 0) (eOp X6 (zd 1) (yg yv (za (zd 0) zi)))) (eOp w6 (eC (.int 6553)) (eOp Yr (zd 1) (yg yv (za (zd 0) zi)))))))
def wd(ds:List D):Rs D:=xb 2 Zq ds
def jR:FS:=(zy (zX 3 (eOp X6 (eOp zU (eOp w6 (eOp X6 (zo wd (za (zd 0) (za (zd 1) zi))) (eC (.int 2147483563))) (eC (.int 69069))) (eOp w6 (eC (.int 104723)) (eOp zU (zd 1) (eC (.int 1))))) (eC (.int 2147483563))))
  (zy (zX 3 (eOp X6 (eOp zU (eOp w6 (zd 3) (zd 3)) (eOp Yr (zd 3) (eC (.int 3)))) (eC (.int 2147483399))))
  (yA (eOp X6 (eOp Yr (eOp X6 (eOp zU (eOp w6 (zd 3) (zd 3)) (eOp Yr (zd 3) (eC (.int 7)))) (eC (.int 2147483647))) (eC (.int 11))) (zd 2)))))
def zr(ds:List D):Rs D:=xb 4 jR ds
def Zo:FS:=(zy (zX 2 (eC (.str "")))
  (zy (wj (wn (za (eOp zU (eC (.int 1)) (zo zr (za (zd 0) (za (zd 1) (za (eC (.int 10)) zi))))) zi)) (gNm 3) (zX 2 (eOp zU (zd 2) (eOp ixD (eC (.str "abcabABCab1_-./xyz")) (zo zr (za (zd 0) (za (eOp zU (eOp zU (zd 1) (eC (.int 1))) (zd 3)) (za (eC (.int 18)) zi))))))))
  (yA (zd 2))))
def xv(ds:List D):Rs D:=xb 4 Zo ds
def ue:FS:=(zy (vN 3 (we 1 [0,1] (wn (za (zo zr (za (zd 0) (za (zd 1) (za (eOp zU (zd 2) (eC (.int 1))) zi)))) zi)) (gNm 0) (fun _=>.ok true) (zo xv (za (zd 1) (za (eOp zU (eOp zU (zd 2) (eC (.int 1))) (eOp w6 (eC (.int 12)) (zd 0))) zi)))))
  (zy (sIf (vf (tB (eOp gtD (jO 3) (eC (.int 1)))) (tB (eOp eqD (zo zr (za (zd 0) (za (eOp zU (zd 1) (eC (.int 12))) (za (eC (.int 5)) zi)))) (eC (.int 0))))) (U5 3 (eC (.int 0)) (JE 3 (wS (eC (.int 1))))) zV)
  (uf 3)))
def xE(ds:List D):Rs D:=xb 4 ue ds
def Zp:FS:=(yA (eOp inD (zd 0) (eC (.str "_-./"))))
def xw(ds:List D):Rs D:=xb 1 Zp ds
def jQ:FS:=(zy (zX 4 (eC (.str "")))
  (zy (zX 5 (eC (.int 0)))
  (zy (wj (wn (za (zo zr (za (zd 0) (za (zd 1) (za (eOp zU (zd 3) (eC (.int 1))) zi)))) zi)) (gNm 6) (zy (zX 5 (yg ul (za (eOp wP (yg yv (za (zd 2) zi)) (eC (.int 1))) (za (eOp zU (zd 5) (zo zr (za (zd 0) (za (eOp zU (eOp zU (zd 1) (eC (.int 1))) (eOp w6 (eC (.int 3)) (zd 6))) (za (eC (.int 3)) zi))))) zi))))
  (zy (zX 7 (VR "str" loD (eOr (eSl (zd 2) (wm (zd 5)) (wm (eOp zU (zd 5) (eC (.int 1))))) (eC (.str "a")))))
  (zy (zX 5 (eOp zU (zd 5) (eC (.int 1))))
  (zy (sIf (tB (eOp eqD (zo zr (za (zd 0) (za (eOp zU (eOp zU (zd 1) (eC (.int 2))) (eOp w6 (eC (.int 3)) (zd 6))) (za (eC (.int 5)) zi)))) (eC (.int 0)))) (zX 7 (eOp ixD (eC (.str "abAB1c")) (zo zr (za (zd 0) (za (eOp zU (eOp zU (zd 1) (eC (.int 3))) (eOp w6 (eC (.int 3)) (zd 6))) (za (eC (.int 6)) zi)))))) zV)
  (sIf (wf (ve (zo xw (za (zd 7) zi)))) (zX 4 (eOp zU (zd 4) (zd 7))) zV))))))
  (yA (zd 4)))))
def xD(ds:List D):Rs D:=xb 8 jQ ds
def jt:FS:=(yA (Yt [0] (zd 1) (wF (za (wS (eOp ixD (zd 0) (eC (.int 0)))) (za (yg yv (za (eOp ixD (zd 1) (eOp ixD (zd 0) (eC (.int 1)))) zi)) (za (eOp ixD (zd 0) (eC (.int 1))) zi))))))
def xN(ds:List D):Rs D:=xb 2 jt ds
def ud:FS:=(yA (eSl (zo xN (za (zd 0) (za (zd 1) zi))) uk (wm (yg Z9 (za (zd 2) (za (eC (.int 0)) zi))))))
def yJ(ds:List D):Rs D:=xb 3 ud ds
def wT:FS:=(jU 1 (Yn (wQ (zd 0)) 2 (Yn (wn (za (yg yv (za (zd 2) zi)) zi)) 3 (Zy (eOp zU (eSl (zd 2) uk (wm (zd 3))) (eSl (zd 2) (wm (eOp zU (zd 3) (eC (.int 1)))) uk))))))
def yn(ds:List D):Rs D:=xb 4 wT ds
def vt:FS:=(zy (sIf (tB (eOp eqD (zd 1) (eC (.int 0)))) (yA (eC (.int 8))) zV)
  (zy (zX 2 (eOp ixD (zd 0) (eOp wP (zd 1) (eC (.int 1)))))
  (zy (sIf (tB (eOp inD (zd 2) (eC (.str "_-./")))) (yA (eC (.int 6))) zV)
  (zy (sIf (vf (tB (eOp inD (eOp ixD (zd 0) (zd 1)) (eC (.str "ABCDEFGHIJKLMNOPQRSTUVWXYZ")))) (uV (tB (eOp inD (zd 2) (eC (.str "abcdefghijklmnopqrstuvwxyz")))) (tB (eOp inD (zd 2) (eC (.str "0123456789")))))) (yA (eC (.int 5))) zV)
  (yA (eC (.int 0)))))))
def yM(ds:List D):Rs D:=xb 3 vt ds
def jP:FS:=(zy (zX 3 (eIf (tB (eOp eqD (eOp ixD (zd 1) (zd 2)) (zd 0))) (eC (.int 1)) (eC (.int 0))))
  (yA (eOp zU (eOp zU (eC (.int 10)) (zo yM (za (zd 1) (za (zd 2) zi)))) (zd 3))))
def yj(ds:List D):Rs D:=xb 4 jP ds
def UQ:FS:=(yA (eOr (eOp eqD (zd 0) (zd 1)) (Tq (eOp inD (zd 0) (eC (.str "abcdefghijklmnopqrstuvwxyz"))) (eOp eqD (VR "str" upD (zd 0)) (zd 1)))))
def xc(ds:List D):Rs D:=xb 2 UQ ds
def vE:FS:=(yA (fun τ=>((we 1 [0,1] (wn (za (yg yv (za (zd 1) zi)) zi)) (gNm 0) (ve (zo xc (za (zd 1) (za (eOp ixD (zd 2) (zd 0)) zi)))) (wF (za (zo yj (za (zd 1) (za (zd 2) (za (zd 0) zi)))) (za (vR (za (zd 0) zi)) zi)))) τ).bind fun ds=>.ok (.lst ds)))
def yr(ds:List D):Rs D:=xb 2 vE ds
def uo:FS:=(zy (zX 1 (eC .non))
  (zy (wj (wQ (zd 0)) (gNm 2) (sIf (uV (tB (eOp isD (zd 1) (eC .non))) (tB (eOp gtD (eOp ixD (zd 2) (eC (.int 0))) (eOp ixD (zd 1) (eC (.int 0)))))) (zX 1 (zd 2)) zV))
  (yA (zd 1))))
def z6(ds:List D):Rs D:=xb 3 uo ds
def jc:FS:=(zy (zX 2 (eOp wP (eOp wP (zd 1) (zd 0)) (eC (.int 1))))
  (zy (sIf (tB (eOp eqD (zd 2) (eC (.int 0)))) (yA (eC (.int 7))) zV)
  (yA (wS (yg ul (za (zd 2) (za (eC (.int 5)) zi)))))))
def yC(ds:List D):Rs D:=xb 3 jc ds
def uJ:FS:=(yA (fun τ=>((we 1 [0] (wQ (zd 1)) (gNm 0) (tB (eOp gtD (eOp ixD (eOp ixD (zd 0) (eC (.int 1))) (eC (.int 0))) (zd 1))) (wF (za (eOp zU (eOp ixD (zd 0) (eC (.int 0))) (zo yC (za (zd 1) (za (eOp ixD (eOp ixD (zd 0) (eC (.int 1))) (eC (.int 0))) zi)))) (za (eOp ixD (zd 0) (eC (.int 1))) zi)))) τ).bind fun ds=>.ok (.lst ds)))
def yQ(ds:List D):Rs D:=xb 2 uJ ds
def vp:FS:=(zy (vN 3 (fun τ=>(zi τ).bind fun ds=>if ds.length≤sizeLine then .ok ds else .no))
  (zy (wj (wn (za (yg yv (za (zd 1) zi)) zi)) (gNm 4) (sIf (ve (zo xc (za (zd 0) (za (eOp ixD (zd 1) (zd 4)) zi)))) (zy (zX 5 (zo z6 (za (zo yQ (za (zd 4) (za (zd 2) zi))) zi)))
  (sIf (tB (eOp y9 (zd 5) (eC .non))) (YK 3 (wF (za (eOp zU (zo yj (za (zd 0) (za (zd 1) (za (zd 4) zi)))) (eOp ixD (zd 5) (eC (.int 0)))) (za (eOp zU (vR (za (zd 4) zi)) (eOp ixD (zd 5) (eC (.int 1)))) zi)))) zV)) zV))
  (uf 3)))
def y3(ds:List D):Rs D:=xb 6 vp ds
def jd:FS:=(yA (wS (yg ul (za (zd 0) (za (eC (.int 3)) zi)))))
def yu(ds:List D):Rs D:=xb 1 jd ds
def VY:FS:=(zy (sIf (tB (eOp eqD (yg yv (za (zd 0) zi)) (eC (.int 0)))) (yA (wF (za (eC (.int 0)) (za (vR zi) zi)))) zV)
  (zy (zX 2 (zo yr (za (eOp ixD (zd 0) (wS (eC (.int 1)))) (za (zd 1) zi))))
  (zy (wj (JA (za (eOp wP (yg yv (za (zd 0) zi)) (eC (.int 2))) (za (wS (eC (.int 1))) (za (wS (eC (.int 1))) zi)))) (gNm 3) (zX 2 (zo y3 (za (eOp ixD (zd 0) (zd 3)) (za (zd 1) (za (zd 2) zi))))))
  (yA (zo z6 (za (fun τ=>((we 1 [] (wQ (zd 2)) (gNm 0) (fun _=>.ok true) (wF (za (eOp zU (eOp ixD (zd 0) (eC (.int 0))) (zo yu (za (eOp ixD (eOp ixD (zd 0) (eC (.int 1))) (eC (.int 0))) zi))) (za (eOp ixD (zd 0) (eC (.int 1))) zi)))) τ).bind fun ds=>.ok (.lst ds)) zi))))))
def wB(ds:List D):Rs D:=xb 4 VY ds
def wt:FS:=(zy (zX 3 (eC .non))
  (zy (zX 4 (vR (za (zd 0) zi)))
  (zy (wj (wn (za (eOp zU (yg ul (za (zd 2) (za (yg yv (za (zd 0) zi)) zi))) (eC (.int 1))) zi)) (gNm 5) (zy (wj (wQ (zd 4)) (gNm 6) (zy (zX 7 (zo wB (za (zd 6) (za (zd 1) zi))))
  (sIf (vf (tB (eOp y9 (zd 7) (eC .non))) (uV (tB (eOp isD (zd 3) (eC .non))) (tB (eOp gtD (eOp wP (eOp ixD (zd 7) (eC (.int 0))) (eOp w6 (eC (.int 15)) (zd 5))) (eOp ixD (zd 3) (eC (.int 0))))))) (zX 3 (wF (za (eOp wP (eOp ixD (zd 7) (eC (.int 0))) (eOp w6 (eC (.int 15)) (zd 5))) (za (zd 6) (za (eOp ixD (zd 7) (eC (.int 1))) zi))))) zV)))
  (zX 4 (zo yn (za (zd 4) zi)))))
  (yA (zd 3)))))
def zM(ds:List D):Rs D:=xb 8 wt ds
def wb:FS:=(zy (zX 4 fun τ=>((we 1 [1,2] (wQ (zd 0)) (gNm 0) (fun _=>.ok true) (zo zM (za (zd 1) (za (zd 0) (za (zd 2) zi))))) τ).bind fun ds=>.ok (.lst ds))
  (zy (zX 5 fun τ=>((we 2 [] (iEn (za (zd 4) zi)) (gPr 0 1) (tB (eOp y9 (zd 1) (eC .non))) (wF (za (eOp ixD (zd 1) (eC (.int 0))) (za (zd 0) zi)))) τ).bind fun ds=>.ok (.lst ds))
  (yA (zo yJ (za (zd 0) (za (zd 5) (za (zd 3) zi)))))))
def yf(ds:List D):Rs D:=xb 6 wb ds
def vq:FS:=(zy (vN 3 (fun τ=>(zi τ).bind fun ds=>if ds.length≤sizeLine then .ok ds else .no))
  (zy (wj (wQ (zd 2)) (gNm 4) (zy (zX 5 (zo wB (za (zd 1) (za (eOp ixD (zd 0) (zd 4)) zi))))
  (sIf (tB (eOp y9 (zd 5) (eC .non))) (YK 3 (wF (za (eOp ixD (zd 5) (eC (.int 0))) (za (zd 4) zi)))) zV)))
  (uf 3)))
def yS(ds:List D):Rs D:=xb 6 vq ds
def ju:FS:=(yA (zo yS (za (zd 0) (za (zd 1) (za (fun τ=>((Yd (wn (za (yg yv (za (zd 0) zi)) zi))) τ).bind fun ds=>.ok (.lst ds)) zi)))))
def xO(ds:List D):Rs D:=xb 2 ju ds
def Wc:FS:=(yA (zo yJ (za (zd 0) (za (zo xO (za (zd 0) (za (zd 1) zi))) (za (zd 2) zi)))))
def v9(ds:List D):Rs D:=xb 3 Wc ds
def vF:FS:=(zy (vN 2 (fun τ=>(zi τ).bind fun ds=>if ds.length≤sizeLine then .ok ds else .no))
  (zy (wj (wn (za (yg yv (za (zd 1) zi)) zi)) (gNm 3) (sIf (vf (tB (eOp ltI (jO 2) (yg yv (za (zd 0) zi)))) (ve (zo xc (za (eOp ixD (zd 0) (jO 2)) (za (eOp ixD (zd 1) (zd 3)) zi))))) (YK 2 (zd 3)) zV))
  (uf 2)))
def yU(ds:List D):Rs D:=xb 4 vF ds
def GS:FS:=(yA (eOp eqD (yg yv (za (zo yU (za (zd 0) (za (zd 1) zi))) zi)) (yg yv (za (zd 0) zi))))
def vI(ds:List D):Rs D:=xb 2 GS ds
def vL:FS:=(zy (zX 2 (eC (.int 0)))
  (zy (zX 3 (vR (za (zd 0) zi)))
  (zy (XM (wf (ve (yg TK (za (fun τ=>((we 1 [1] (wQ (zd 3)) (gNm 0) (fun _=>.ok true) (zo vI (za (zd 0) (za (zd 1) zi)))) τ).bind fun ds=>.ok (.lst ds)) zi)))) (zy (zX 3 (zo yn (za (zd 3) zi)))
  (jV 2 (xP fun i j=>.int (i+j)) (eC (.int 1)))))
  (yA (zd 2)))))
def yO(ds:List D):Rs D:=xb 4 vL ds
def YA:FS:=(yA (Tq (yg WO (za (zd 0) (za (eC (.raw (.ty "int"))) zi))) (zb6 (yg WO (za (zd 0) (za (eC (.raw (.ty "bool"))) zi))))))
def wa(ds:List D):Rs D:=xb 1 YA ds
def wY:FS:=(zy (zX 2 (eC (.int 0)))
  (zy (wj (wQ (zd 1)) (gNm 3) (zy (sIf (wf (ve (zo wa (za (zd 3) zi)))) (yA (eC (.bl false))) zV)
  (zy (sIf (uV (tB (eOp ltI (zd 3) (zd 2))) (tB (eOp geD (zd 3) (yg yv (za (zd 0) zi))))) (yA (eC (.bl false))) zV)
  (zX 2 (eOp zU (zd 3) (eC (.int 1)))))))
  (yA (eC (.bl true)))))
def yK(ds:List D):Rs D:=xb 4 wY ds
def Zn:FS:=(zy (sIf (uV (wf (ve (yg WO (za (zd 2) (za (eC (.raw (.ty "list"))) zi))))) (tB (eOp neD (yg yv (za (zd 2) zi)) (yg yv (za (zd 0) zi))))) (yA (eC (.bl false))) zV)
  (zy (sIf (wf (ve (zo yK (za (zd 1) (za (zd 2) zi))))) (yA (eC (.bl false))) zV)
  (yA (yg TN (za (fun τ=>((we 2 [1] (iZp (za (zd 0) (za (zd 2) zi))) (gPr 0 1) (fun _=>.ok true) (zo xc (za (zd 0) (za (eOp ixD (zd 2) (zd 1)) zi)))) τ).bind fun ds=>.ok (.lst ds)) zi)))))
def yR(ds:List D):Rs D:=xb 3 Zn ds
def Yz:FS:=(zy (sIf (wf (ve (zo yR (za (zd 0) (za (zd 1) (za (zd 2) zi)))))) sNo zV)
  (zy (zX 3 (eC (.int 0)))
  (zy (wj (wn (za (yg yv (za (zd 2) zi)) zi)) (gNm 4) (zy (zX 5 (eOp ixD (zd 2) (zd 4)))
  (zy (jV 3 (xP fun i j=>.int (i+j)) (zo yj (za (eOp ixD (zd 0) (zd 4)) (za (zd 1) (za (zd 5) zi)))))
  (sIf (tB (eOp eqD (zd 4) (eC (.int 0)))) (jV 3 (xP fun i j=>.int (i+j)) (zo yu (za (zd 5) zi))) (jV 3 (xP fun i j=>.int (i+j)) (zo yC (za (eOp ixD (zd 2) (eOp wP (zd 4) (eC (.int 1)))) (za (zd 5) zi))))))))
  (yA (zd 3)))))
def vn(ds:List D):Rs D:=xb 6 Yz ds
def GR:FS:=(zy (zX 1 (zo xE (za (zd 0) (za (eC (.int 0)) (za (eC (.int 4)) zi)))))
  (zy (zX 2 (zo xD (za (zd 0) (za (eC (.int 80)) (za (eOp ixD (eOp zU (zd 1) (vR (za (eC (.str "abc")) zi))) (zo zr (za (zd 0) (za (eC (.int 79)) (za (eOp zU (yg yv (za (zd 1) zi)) (eC (.int 1))) zi))))) (za (eC (.int 4)) zi))))))
  (zy (zX 3 (zo zr (za (zd 0) (za (eC (.int 77)) (za (eOp zU (yg yv (za (zd 2) zi)) (eC (.int 1))) zi)))))
  (zy (zX 4 (eOp zU (eOp zU (eSl (zd 2) uk (wm (zd 3))) (eOp ixD (eC (.str "abx1B")) (zo zr (za (zd 0) (za (eC (.int 78)) (za (eC (.int 5)) zi)))))) (eSl (zd 2) (wm (zd 3)) uk)))
  (zy (sIf (tB (eOp neD (zo yf (za (zd 1) (za (zd 2) (za (eC (.int 0)) (za (eC (.int 99)) zi))))) (zo v9 (za (zd 1) (za (zd 2) (za (eC (.int 99)) zi)))))) (yA (eC (.bl false))) zV)
  (zy (wj (wQ (zd 1)) (gNm 5) (zy (zX 6 (zo yO (za (zd 2) (za (zd 5) zi))))
  (zy (sIf (uV (tB (eOp neD (eOp eqD (zd 6) (eC (.int 0))) (zo vI (za (zd 2) (za (zd 5) zi))))) (wf (tB (Za leD leD (zd 6) (zo yO (za (zd 4) (za (zd 5) zi))) (eOp zU (zd 6) (eC (.int 1))))))) (yA (eC (.bl false))) zV)
  (zy (zX 7 (eC .non))
  (wj (wn (za (eOp zU (yg yv (za (zd 2) zi)) (eC (.int 1))) zi)) (gNm 8) (zy (zX 9 (zo zM (za (zd 2) (za (zd 5) (za (zd 8) zi)))))
  (zy (sIf (tB (eOp neD (eOp y9 (zd 9) (eC .non)) (eOp geD (zd 8) (zd 6)))) (yA (eC (.bl false))) zV)
  (sIf (tB (eOp y9 (zd 9) (eC .non))) (zy (sIf (vf (tB (eOp y9 (zd 7) (eC .non))) (tB (eOp ltI (eOp ixD (zd 9) (eC (.int 0))) (zd 7)))) (yA (eC (.bl false))) zV)
  (zy (zX 7 (eOp ixD (zd 9) (eC (.int 0))))
  (zy (zX 10 (zo vn (za (eOp ixD (zd 9) (eC (.int 1))) (za (zd 5) (za (eOp ixD (zd 9) (eC (.int 2))) zi)))))
  (zy (sIf (uV (wf (ve (zo yR (za (eOp ixD (zd 9) (eC (.int 1))) (za (zd 5) (za (eOp ixD (zd 9) (eC (.int 2))) zi)))))) (tB (eOp neD (eOp ixD (zd 9) (eC (.int 0))) (eOp wP (zd 10) (eOp w6 (eC (.int 15)) (eOp wP (yg yv (za (zd 2) zi)) (yg yv (za (eOp ixD (zd 9) (eC (.int 1))) zi)))))))) (yA (eC (.bl false))) zV)
  (sIf (tB (eOp ltI (eOp ixD (zo zM (za (zd 4) (za (zd 5) (za (eOp zU (zd 8) (eC (.int 1))) zi)))) (eC (.int 0))) (eOp wP (eOp ixD (zd 9) (eC (.int 0))) (eC (.int 15))))) (yA (eC (.bl false))) zV))))) zV))))))))
  (yA (eOp eqD (yg yv (za (zo yf (za (zd 1) (za (zd 2) (za (yg yv (za (zd 2) zi)) (za (eC (.int 99)) zi))))) zi)) (yg yv (za (zd 1) zi))))))))))
def Up(ds:List D):Rs D:=xb 11 GR ds
def Zm(ns:List Int)(k:Int):Int:=if ns=[] then 7*k else ns.getD (k%ns.length).toNat 0+6553*(k / ns.length)
theorem z7:sizeLine=16777216:=sizeLine_eq
theorem Tw(ns:List Int)(k:Int)(h63:ns.length≤63)(h0:0≤k):wd [.scr ns,.int k]=.ok (.int (Zm ns k)):=by
 have st:zW 2 [D.scr ns,.int k]=[some (.val (.scr ns)),some (.val (.int k))]:=rfl
 unfold wd Zq
 rw[z0,st]
 simp only[zK,yk,xn,yc,zC,ZL,zE,getElem?_cons_zero,zu,Rs.bind_ok,length_nil,zero_le,if_true,W7,zP,Fl.of_ok]
 cases ns with
 |nil=>
  simp only[List.isEmpty_nil,if_true,zT,yc,yt,zC,getElem?_cons_zero,getElem?_cons_succ,zu,Rs.bind_ok,vH (i:=7) (j:=k) (.inl ⟨by decide,by decide⟩),Fl.of_ok,vG,zO,Zm]
 |cons a r=>
  have hl:(0:Int)<((a::r).length:Int):=by simp only[length_cons];omega
  have hm0:=emod_nonneg k (show((a::r).length:Int)≠0 by omega)
  have hm1:=Int.emod_lt_of_pos k hl
  have hat:atI (a::r) (k%((a::r).length:Int))=some ((a::r).getD (k%((a::r).length:Int)).toNat 0):=by
   refine YC hm0 ?_
   have:(k%((a::r).length:Int)).toNat<(a::r).length:=by omega
   rw[getD_eq_getElem?_getD,getElem?_eq_getElem this];rfl
  have hdv:Yr (.int k) (.int ((a::r).length:Int))=.ok (.int (k / ((a::r).length:Int))):=ZJ ⟨hl,by omega⟩
  have hmd:X6 (.int k) (.int ((a::r).length:Int))=.ok (.int (k%((a::r).length:Int))):=Z8 hl
  have hml:=vH (i:=6553) (j:=k / ((a::r).length:Int)) (.inl ⟨by decide,by decide⟩)
  simp only[List.isEmpty_cons,Bool.false_eq_true,if_false,zR,yb,zT,yc,yt,zC,xg,zt,zE,getElem?_cons_zero,getElem?_cons_succ,zu,Rs.bind_ok,Q7,hmd,hdv,hml,M9 hat,y7,Fl.of_ok,zO]
  simp[Zm]
def d1(ns:List Int)(k:Int):Int:=(Zm ns k%2147483563*69069+104723*(k+1))%2147483563
def d2(ns:List Int)(k:Int):Int:=(d1 ns k*d1 ns k+d1 ns k / 3)%2147483399
def xU(ns:List Int)(k m:Int):Int:=(d2 ns k*d2 ns k+d2 ns k / 7)%2147483647 / 11%m
theorem wo(ns:List Int)(k m:Int)(h63:ns.length≤63)(h0:0≤k)(hk:k<1000000)(hm:0<m):zr [.scr ns,.int k,.int m]=.ok (.int (xU ns k m)):=by
 have st:zW 4 [D.scr ns,.int k,.int m]=[some (.val (.scr ns)),some (.val (.int k)),some (.val (.int m)),none]:=rfl
 have b1:0≤d1 ns k∧d1 ns k<2147483563:=⟨emod_nonneg _ (by decide),Int.emod_lt_of_pos _ (by decide)⟩
 have b2:0≤d2 ns k∧d2 ns k<2147483399:=⟨emod_nonneg _ (by decide),Int.emod_lt_of_pos _ (by decide)⟩
 have c0:=Int.emod_lt_of_pos (Zm ns k) (show(0:Int)<2147483563 by decide)
 have c1:=emod_nonneg (Zm ns k) (show(2147483563:Int)≠0 by decide)
 have q1:=vH (i:=Zm ns k%2147483563) (j:=69069) (.inr ⟨by decide,by decide⟩)
 have q2:=vH (i:=104723) (j:=k+1) (.inl ⟨by decide,by decide⟩)
 have q3:=vH (i:=d1 ns k) (j:=d1 ns k) (.inl ⟨by omega,by omega⟩)
 have q4:=vH (i:=d2 ns k) (j:=d2 ns k) (.inl ⟨by omega,by omega⟩)
 have e1:(Zm ns k%2147483563*69069+104723*(k+1))%2147483563=d1 ns k:=rfl
 have e2:(d1 ns k*d1 ns k+d1 ns k / 3)%2147483399=d2 ns k:=rfl
 have m1:=fun i=>Z8 (i:=i) (j:=2147483563) (by decide)
 have m2:=fun i=>Z8 (i:=i) (j:=2147483399) (by decide)
 have m3:=fun i=>Z8 (i:=i) (j:=2147483647) (by decide)
 have m4:=fun i=>Z8 (i:=i) (j:=m) hm
 have f3:=fun i=>ZJ (i:=i) (j:=3) ⟨by decide,by decide⟩
 have f7:=fun i=>ZJ (i:=i) (j:=7) ⟨by decide,by decide⟩
 have f11:=fun i=>ZJ (i:=i) (j:=11) ⟨by decide,by decide⟩
 unfold zr jR
 rw[z0,st]
 simp only[zK,zZ,zT,yc,zC,yt,ya,zt,zE,getElem?_cons_zero,getElem?_cons_succ,zu,Rs.bind_ok,Tw ns k h63 h0,yI,m1,q1,y7,q2,e1,Fl.of_ok,yb,set_cons_succ,set_cons_zero,q3,f3,m2,e2,q4,f7,m3,f11,m4,zO]
 rfl
theorem wq(ns:List Int)(k:Int){m:Int}(hm:0<m):0≤xU ns k m∧xU ns k m<m:=⟨emod_nonneg _ (by omega),Int.emod_lt_of_pos _ hm⟩
end Law
set_option Elab.async false
set_option linter.all false
namespace FD
open PySem PySem.Spec PyProof.Rows L2
theorem Xg{set:FG}{body:FS}(f:Nat→D)(S:Nat→DS):∀(m j:Nat),(∀k,j≤k→k<j+m→∃τ1,set (f k) (S k)=.ok τ1∧body τ1=.nx (S (k+1)))→yB set body ((List.range' j m).map f) (S j)=.nx (S (j+m))
 |0,j,_=>rfl
 |m+1,j,h=>by
  obtain⟨τ1,h1,h2⟩:=h j (le_refl _) (by omega)
  rw[range'_succ,map_cons,yB,h1,Fl.of_ok]
  simp only[h2]
  rw[Xg f S m (j+1) fun k hk hk2=>h k (by omega) (by omega)]
  congr 2;omega
theorem VI{set:FG}{body:FS}(f:Nat→D)(S:Nat→DS)(n:Nat)(h:∀k,k<n→∃τ1,set (f k) (S k)=.ok τ1∧body τ1=.nx (S (k+1))):yB set body ((List.range n).map f) (S 0)=.nx (S n):=by
 have:=Xg f S n 0 fun k _ hk=>h k (by omega)
 rw[zero_add] at this
 rwa [range_eq_range']
theorem ZV{fs:FA}{τ:DS}{j:Int}(h:fs τ=.ok [.int j])(h1 : -(2 ^ 62)≤j)(h2:j<2 ^ 62):wn fs τ=.ok (vW 0 j.toNat):=by
 unfold wn
 rw[h]
 simp only[Rs.bind_ok,VM]
 rw[if_pos ⟨h1,h2⟩]
theorem V8(a:List Nat)(c:Nat):(⟨a.toArray⟩:Str)++(⟨#[c]⟩:Str)=⟨(a++[c]).toArray⟩:=by
 show Str.mk _=_
 simp
theorem vJ{n:Nat}{d:D}{τ:DS}:gNm n d τ=.ok (τ.set n (some (.val d))):=rfl
end FD
namespace Law
open PySem PySem.Spec PyProof.Rows L2 FD
def A18:List Nat:=[97,98,99,97,98,65,66,67,97,98,49,95,45,46,47,120,121,122]
def Xe(ns:List Int)(a:Int):Nat:=(1+xU ns a 10).toNat
def QZ(ns:List Int)(a:Int)(k:Nat):Nat:=A18.getD (xU ns (a+1+k) 18).toNat 0
def vC(ns:List Int)(a:Int)(n:Nat):List Nat:=(List.range n).map (QZ ns a)
theorem a18:("abcabABCab1_-./xyz" : Str).cps.toList=A18:=by decide +kernel
theorem MV(ns:List Int)(a:Int)(h63:ns.length≤63)(h0:0≤a)(ha:a<900000):xv [.scr ns,.int a]=.ok (.str ⟨(vC ns a (Xe ns a)).toArray⟩):=by
 have st:zW 4 [D.scr ns,.int a]=[some (.val (.scr ns)),some (.val (.int a)),none,none]:=rfl
 have dl:=wq ns a (m:=10) (by decide)
 unfold xv Zo
 rw[z0,st,zK,zZ,yt,Fl.of_ok,yb,zK,xQ]
 have r1:=ZV (fs:=za (eOp zU (eC (.int 1)) (zo zr (za (zd 0) (za (zd 1) (za (eC (.int 10)) zi))))) zi) (τ:=[some (.val (.scr ns)),some (.val (.int a)),some (.val (.str "")),none]) (j:=1+xU ns a 10)
  (by simp only[zt,zE,yc,yt,ya,zC,getElem?_cons_zero,getElem?_cons_succ,zu,Rs.bind_ok,wo ns a 10 h63 h0 (by omega) (by decide),yI,y7]) (by omega) (by omega)
 simp only[set_cons_succ,set_cons_zero]
 rw[r1,Fl.of_ok]
 let S:Nat→DS:=fun k=>[some (.val (.scr ns)),some (.val (.int a)),some (.val (.str ⟨(vC ns a k).toArray⟩)),if k=0 then none else some (.val (.int ((k:Int)-1)))]
 have s0:S 0=[some (.val (.scr ns)),some (.val (.int a)),some (.val (.str "")),none]:=by
  simp only[S,vC,List.range_zero,map_nil,if_true]
  rfl
 rw[← s0]
 have lp:=VI (set:=gNm 3) (body:=(zX 2 (eOp zU (zd 2) (eOp ixD (eC (.str "abcabABCab1_-./xyz")) (zo zr (za (zd 0) (za (eOp zU (eOp zU (zd 1) (eC (.int 1))) (zd 3)) (za (eC (.int 18)) zi)))))))) (fun (k:Nat)=>D.int (0+k)) S (1+xU ns a 10).toNat fun k hk=>by
  refine⟨_,vJ,?_⟩
  have hk':(k:Int)<20:=by omega
  have dk:=wq ns (a+1+(0+(k:Int))) (m:=18) (by decide)
  have hd:=wo ns (a+1+(0+(k:Int))) 18 h63 (by omega) (by omega) (by decide)
  have hix:=ZH (a := "abcabABCab1_-./xyz") (k:=xU ns (a+1+(0+(k:Int))) 18) (c:=A18.getD (xU ns (a+1+(0+(k:Int))) 18).toNat 0) (YC dk.1 (by
   rw[a18]
   have:(xU ns (a+1+(0+(k:Int))) 18).toNat<A18.length:=by
    have:A18.length=18:=rfl
    omega
   rw[getD_eq_getElem?_getD,getElem?_eq_getElem this];rfl)) (by decide +kernel)
  have hadd:=V1 (a:=⟨(vC ns a k).toArray⟩) (b:=⟨#[A18.getD (xU ns (a+1+(0+(k:Int))) 18).toNat 0]⟩) (by
   show(vC ns a k).toArray.size+1≤sizeLine
   rw[z7,size_toArray]
   simp only[vC,length_map,length_range];omega)
  simp only[S,set_cons_succ,set_cons_zero,zZ,yc,yt,ya,zt,zE,zC,getElem?_cons_zero,getElem?_cons_succ,zu,Rs.bind_ok,y7,hd,yI,hix,ym,hadd,Fl.of_ok,V8]
  have e1:vC ns a k++[A18.getD (xU ns (a+1+(0+(k:Int))) 18).toNat 0]=vC ns a (k+1):=by
   simp only[vC,List.range_succ,map_append,map_cons,map_nil,QZ,Int.zero_add]
  rw[e1]
  simp
 unfold vW
 rw[lp,yb]
 simp only[S,zT,zC,getElem?_cons_zero,getElem?_cons_succ,zu,Fl.of_ok,zO]
 rfl
end Law
set_option Elab.async false
set_option linter.all false
namespace FD
open PySem PySem.Spec PyProof.Rows L2
theorem WH{set:FG}{body:FS}(f:Nat→D)(I:Nat→DS→Prop):∀(m j:Nat) (τ:DS),I j τ→(∀k τ,j≤k→k<j+m→I k τ→∃τ1 τ2,set (f k) τ=.ok τ1∧body τ1=.nx τ2∧I (k+1) τ2)→∃τ',yB set body ((List.range' j m).map f) τ=.nx τ'∧I (j+m) τ'
 |0,j,τ,h,_=>⟨τ,rfl,h⟩
 |m+1,j,τ,h,hs=>by
  obtain⟨τ1,τ2,h1,h2,h3⟩:=hs j τ (le_refl _) (by omega) h
  obtain⟨τ',h4,h5⟩:=WH f I m (j+1) τ2 h3 fun k τ hk hk2=>hs k τ (by omega) (by omega)
  refine⟨τ',?_,by rw[show j+(m+1)=j+1+m by omega];exact h5⟩
  rw[range'_succ,map_cons,yB,h1,Fl.of_ok]
  simp only[h2,h4]
theorem uQ{set:FG}{body:FS}(f:Nat→D)(I:Nat→DS→Prop)(n:Nat)(τ:DS)(h0:I 0 τ)(h:∀k τ,k<n→I k τ→∃τ1 τ2,set (f k) τ=.ok τ1∧body τ1=.nx τ2∧I (k+1) τ2):∃τ',yB set body ((List.range n).map f) τ=.nx τ'∧I n τ':=by
 obtain⟨τ',h1,h2⟩:=WH f I n 0 τ h0 fun k τ _ hk hi=>h k τ (by omega) hi
 rw[zero_add] at h2
 exact⟨τ',by rw[range_eq_range'];exact h1,h2⟩
end FD
namespace Law
open PySem PySem.Spec PyProof.Rows L2 FD
def QS:List Nat:=[97,98,99,120,121,122,65,66,49]
def MK:List Nat:=[95,45,46,47]
theorem Jo:("_-./" : Str).cps.toList=MK:=by decide +kernel
theorem MW(c:Nat):xw [ym c]=.ok (.bl (decide (c∈MK))):=by
 have st:zW 1 [ym c]=[some (.val (ym c))]:=rfl
 unfold xw Zp
 rw[z0,st]
 simp only[zT,yc,zC,yt,getElem?_cons_zero,zu,Rs.bind_ok,ym,Yl,wx,Jo,Fl.of_ok,zO]
theorem Qe(x:List Nat){i j:Int}(h0:0≤i)(h1:i≤j)(h2:j≤x.length):Txt.slice (⟨x.toArray⟩:Str) (some i) (some j)=⟨((x.drop i.toNat).take (j-i).toNat).toArray⟩:=by
 have:=slice_closesL (x:=⟨x.toArray⟩) (i:=i) (j:=j) h0 h1 (by show j≤((x.toArray.size:Nat):Int);simpa using h2)
 exact eq_of_beq this
theorem U2(x:List Nat)(p:Nat)(hp:p<x.length):Txt.slice (⟨x.toArray⟩:Str) (some (p:Int)) (some ((p:Int)+1))=⟨#[x[p]]⟩:=by
 rw[Qe x (by omega) (by omega) (by omega)]
 have e1:((p:Int)+1-(p:Int)).toNat=1:=by omega
 have e2:((p:Int)).toNat=p:=by omega
 rw[e1,e2,drop_eq_getElem_cons hp]
 rfl
theorem Jq(c:Nat)(h:c<128):Txt.lower (⟨#[c]⟩:Str)=⟨#[lo1 c]⟩:=by
 rw[lower_ascii (x:=⟨#[c]⟩) (by intro d hd;have e:d=c:=(by simpa using hd);omega)]
 simp
def NS:List Nat:=[97,98,99,65,66,67,49,95,45,46,47,120,121,122]
theorem Jn(ns:List Int)(a:Int)(k:Nat)(h:0≤a+1+k):QZ ns a k∈NS:=by
 have d:=wq ns (a+1+k) (m:=18) (by decide)
 have hall:∀n,n<18→A18.getD n 0∈NS:=by decide
 exact hall _ (by omega)
def S6:List Nat:=[97,98,65,66,49,99]
theorem s6_l:("abAB1c" : Str).cps.toList=S6:=by decide +kernel
theorem Ur:∀c∈NS,c<128∧(lo1 c∈QS∨lo1 c∈MK):=by decide
theorem Mi:∀n,n<6→S6.getD n 0∈QS:=by decide
set_option maxHeartbeats 1000000
def Ww:FS:=(zy (zX 5 (yg ul (za (eOp wP (yg yv (za (zd 2) zi)) (eC (.int 1))) (za (eOp zU (zd 5) (zo zr (za (zd 0) (za (eOp zU (eOp zU (zd 1) (eC (.int 1))) (eOp w6 (eC (.int 3)) (zd 6))) (za (eC (.int 3)) zi))))) zi))))
  (zy (zX 7 (VR "str" loD (eOr (eSl (zd 2) (wm (zd 5)) (wm (eOp zU (zd 5) (eC (.int 1))))) (eC (.str "a")))))
  (zy (zX 5 (eOp zU (zd 5) (eC (.int 1))))
  (zy (sIf (FD.tB (eOp eqD (zo zr (za (zd 0) (za (eOp zU (eOp zU (zd 1) (eC (.int 2))) (eOp w6 (eC (.int 3)) (zd 6))) (za (eC (.int 5)) zi)))) (eC (.int 0)))) (zX 7 (eOp ixD (eC (.str "abAB1c")) (zo zr (za (zd 0) (za (eOp zU (eOp zU (zd 1) (eC (.int 3))) (eOp w6 (eC (.int 3)) (zd 6))) (za (eC (.int 6)) zi)))))) zV)
  (sIf (wf (ve (zo xw (za (zd 7) zi)))) (zX 4 (eOp zU (zd 4) (zd 7))) zV)))))
def qSt(ns:List Int)(a:Int)(x:List Nat)(most:Int)(q:List Nat)(p:Int)(s1 s2:Option Sl):DS:=
 [some (.val (.scr ns)),some (.val (.int a)),some (.val (.str ⟨x.toArray⟩)),some (.val (.int most)),some (.val (.str ⟨q.toArray⟩)),some (.val (.int p)),s1,s2]
theorem Vx(ns:List Int)(a:Int)(x:List Nat)(most:Int)(q:List Nat)(p:Int)(k:Nat)(s2:Option Sl)(h63:ns.length≤63)(h0:0≤a)(ha:a<900000)(hk:k<100)(hx0:0<x.length)(hx1:x.length≤100)(hx:∀c∈x,c∈NS)(hq:q.length≤100)(hqs:∀c∈q,c∈QS)(hp:0≤p) :
  ∃q' p' s',Ww (qSt ns a x most q p (some (.val (.int (0+k)))) s2)=.nx (qSt ns a x most q' p' (some (.val (.int (0+k)))) s')∧q'.length≤q.length+1∧(∀c∈q',c∈QS)∧0≤p':=by
 have hl:((⟨x.toArray⟩:Str).length:Int)=x.length:=by show((x.toArray.size:Nat):Int)=_;simp
 have hsz:(⟨x.toArray⟩:Str).length≤sizeLine:=by rw[z7];show x.toArray.size≤_;simp;omega
 have m3:=vH (i:=3) (j:=0+(k:Int)) (.inl ⟨by decide,by decide⟩)
 have g1:=wo ns (a+1+3*(0+(k:Int))) 3 h63 (by omega) (by omega) (by decide)
 have g2:=wo ns (a+2+3*(0+(k:Int))) 5 h63 (by omega) (by omega) (by decide)
 have g3:=wo ns (a+3+3*(0+(k:Int))) 6 h63 (by omega) (by omega) (by decide)
 have b1:=wq ns (a+1+3*(0+(k:Int))) (m:=3) (by decide)
 have b3:=wq ns (a+3+3*(0+(k:Int))) (m:=6) (by decide)
 generalize xU ns (a+1+3*(0+(k:Int))) 3=e1 at *
 generalize xU ns (a+2+3*(0+(k:Int))) 5=e2 at *
 generalize xU ns (a+3+3*(0+(k:Int))) 6=e3 at *
 obtain⟨n,hn,hmin⟩:∃n:Nat,n<x.length∧(if p+e1<(x.length:Int)-1 then p+e1 else (x.length:Int)-1)=(n:Int):=by
  by_cases h:p+e1<(x.length:Int)-1
  ·exact⟨(p+e1).toNat,by omega,by rw[if_pos h];omega⟩
  ·exact⟨x.length-1,by omega,by rw[if_neg h];omega⟩
 have hmn:ul [.int ((x.length:Int)-1),.int (p+e1)]=.ok (.int n):=by
  simp only[ul,VL];rw[hmin]
 have hsl:slD (.str ⟨x.toArray⟩) (some (n:Int)) (some ((n:Int)+1))=.ok (.str ⟨#[x[n]]⟩):=by
  simp only[slD]
  rw[if_pos hsz,U2 x n hn]
 have hxn:=hx x[n] (getElem_mem hn)
 have hlo:loD (.str ⟨#[x[n]]⟩) []=.ok (.str ⟨#[lo1 x[n]]⟩):=by
  simp only[loD]
  rw[if_pos (by show 1≤5000000;decide),Jq _ (Ur _ hxn).1]
 have htr:uU (.str ⟨#[x[n]]⟩)=.ok true:=by
  rw[J0 (by rw[z7];show 1≤_;decide)];rfl
 have hix:ixD (.str "abAB1c") (.int e3)=.ok (ym (S6.getD e3.toNat 0)):=ZH (YC b3.1 (by
   rw[s6_l]
   have:e3.toNat<S6.length:=by show e3.toNat<6;omega
   rw[getD_eq_getElem?_getD,getElem?_eq_getElem this];rfl)) (by decide +kernel)
 have key:∀c:Nat,(c∈QS∨c∈MK)→∃q' s',(sIf (wf (ve (zo xw (za (zd 7) zi)))) (zX 4 (eOp zU (zd 4) (zd 7))) zV) (qSt ns a x most q ((n:Int)+1) (some (.val (.int (0+k)))) (some (.val (ym c))))=.nx (qSt ns a x most q' ((n:Int)+1) (some (.val (.int (0+k)))) s')∧q'.length≤q.length+1∧∀c∈q',c∈QS:=fun c hc=>by
  have hadd:=V1 (a:=⟨q.toArray⟩) (b:=⟨#[c]⟩) (by
   show q.toArray.size+1≤sizeLine
   rw[z7,size_toArray];omega)
  simp only[qSt,yk,vy,xH,ya,zt,zE,zC,getElem?_cons_zero,getElem?_cons_succ,zu,Rs.bind_ok,MW,yI,xG,Fl.of_ok]
  by_cases hm:c∈MK
  ·exact⟨q,some (.val (ym c)),by simp only[hm,decide_true,Bool.not_true,Bool.false_eq_true,if_false,zR],by omega,hqs⟩
  ·refine⟨q++[c],some (.val (ym c)),by simp only[hm,decide_false,Bool.not_false,if_true,zZ,yc,zC,getElem?_cons_zero,getElem?_cons_succ,zu,Rs.bind_ok,ym,hadd,Fl.of_ok,set_cons_succ,set_cons_zero,V8],by simp,fun d hd=>?_⟩
   rcases mem_append.mp hd with h|h
   ·exact hqs d h
   ·have:d=c:=by simpa using h
    subst this
    exact hc.resolve_right hm
 unfold Ww
 simp only[qSt,zK,zZ,xg,zt,zE,yc,zC,yt,ya,getElem?_cons_zero,getElem?_cons_succ,zu,Rs.bind_ok,WK hsz,hl,x6,y7,m3,g1,yI,hmn,Fl.of_ok,set_cons_succ,set_cons_zero,yb,
  UH,GB,GA,Z6,Wn,hsl,htr,if_true,YX,decide_true,hlo,yk,xn,g2,wX,zP]
 by_cases hz:e2=0
 ·subst hz
  obtain⟨q',s',h1,h2,h3⟩:=key (S6.getD e3.toNat 0) (.inl (Mi _ (by omega)))
  simp only[qSt] at h1
  refine⟨q',(n:Int)+1,s',?_,h2,h3,by omega⟩
  simp only[beq_self_eq_true,if_true,g3,yI,Rs.bind_ok,hix,Fl.of_ok,yb]
  exact h1
 ·obtain⟨q',s',h1,h2,h3⟩:=key (lo1 x[n]) (Ur _ hxn).2
  simp only[qSt] at h1
  refine⟨q',(n:Int)+1,s',?_,h2,h3,by omega⟩
  have hb:(e2==0)=false:=by simpa using hz
  simp only[hb,Bool.false_eq_true,if_false,zR,yb]
  exact h1
theorem Qo(ns:List Int)(a:Int)(x:List Nat)(most:Int)(h63:ns.length≤63)(h0:0≤a)(ha:a<900000)(hm0:0≤most)(hm1:most<50)(hx0:0<x.length)(hx1:x.length≤100)(hx:∀c∈x,c∈NS) :
  ∃q:List Nat,(q.length:Int)≤most∧(∀c∈q,c∈QS)∧xD [.scr ns,.int a,.str ⟨x.toArray⟩,.int most]=.ok (.str ⟨q.toArray⟩):=by
 have st:zW 8 [D.scr ns,.int a,.str ⟨x.toArray⟩,.int most]=[some (.val (.scr ns)),some (.val (.int a)),some (.val (.str ⟨x.toArray⟩)),some (.val (.int most)),none,none,none,none]:=rfl
 have dl:=wq ns a (m:=most+1) (by omega)
 have dk:=wo ns a (most+1) h63 h0 (by omega) (by omega)
 generalize hN:xU ns a (most+1)=N at *
 have r1:=ZV (fs:=za (zo zr (za (zd 0) (za (zd 1) (za (eOp zU (zd 3) (eC (.int 1))) zi)))) zi) (τ:=qSt ns a x most [] 0 none none) (j:=N)
  (by simp only[qSt,zt,zE,yc,yt,ya,zC,getElem?_cons_zero,getElem?_cons_succ,zu,Rs.bind_ok,y7,dk,yI]) (by omega) (by omega)
 obtain⟨τ',l1,q,p,s1,s2,rfl,l2,l3,l4⟩:=uQ (set:=gNm 6) (body:=Ww) (fun (k:Nat)=>D.int (0+k)) (fun k τ=>∃q p s1 s2,τ=qSt ns a x most q p s1 s2∧q.length≤k∧(∀c∈q,c∈QS)∧0≤p) N.toNat (qSt ns a x most [] 0 none none)
  ⟨[],0,none,none,rfl,le_refl _,(fun _ h=>nomatch h),Int.le_refl _⟩ fun k τ hk ⟨q,p,s1,s2,e,h1,h2,h3⟩=>by
   subst e
   obtain⟨q',p',s',g1,g2,g3,g4⟩:=Vx ns a x most q p k s2 h63 h0 ha (by omega) hx0 hx1 hx (by omega) h2 h3
   exact⟨_,_,vJ,g1,q',p',_,s',rfl,by omega,g3,g4⟩
 refine⟨q,by omega,l3,?_⟩
 have s0:qSt ns a x most [] 0 none none=[some (.val (.scr ns)),some (.val (.int a)),some (.val (.str ⟨x.toArray⟩)),some (.val (.int most)),some (.val (.str "")),some (.val (.int 0)),none,none]:=rfl
 unfold xD jQ
 rw[z0,st,zK,zZ,yt,Fl.of_ok,yb,zK,zZ,yt,Fl.of_ok,yb,zK,xQ]
 simp only[set_cons_succ,set_cons_zero]
 rw[← s0,r1,Fl.of_ok]
 unfold vW
 have l1':yB (gNm 6) Ww ((List.range N.toNat).map fun (k:Nat)=>D.int (0+k)) (qSt ns a x most [] 0 none none)=.nx (qSt ns a x most q p s1 s2):=l1
 unfold Ww at l1'
 rw[l1',yb]
 simp only[qSt,zT,zC,getElem?_cons_zero,getElem?_cons_succ,zu,Fl.of_ok,zO]
def xt(c d:Nat):Bool:=c==d||(decide (97≤c∧c≤122)&&up1 c==d)
theorem Md:("abcdefghijklmnopqrstuvwxyz" : Str).cps.toList=(List.range 26).map (· + 97):=by decide +kernel
theorem uL(c:Nat):decide (c∈("abcdefghijklmnopqrstuvwxyz" : Str).cps.toList)=decide (97≤c∧c≤122):=by
 rw[Md]
 apply decide_eq_decide.mpr
 rw[mem_map]
 constructor
 ·rintro⟨i,hi,rfl⟩
  have:=mem_range.mp hi
  omega
 ·intro h
  exact⟨c-97,mem_range.mpr (by omega),by omega⟩
theorem UW(c:Nat)(h:c<128):Txt.upper (⟨#[c]⟩:Str)=⟨#[up1 c]⟩:=by
 rw[upper_ascii (x:=⟨#[c]⟩) (by intro d hd;have e:d=c:=(by simpa using hd);omega)]
 simp
theorem VE(c d:Nat):((⟨#[c]⟩:Str)==⟨#[d]⟩)=(c==d):=by
 rw[Bool.eq_iff_iff]
 simp
theorem jE(c d:Nat)(hc:c<128):xc [ym c,ym d]=.ok (.bl (xt c d)):=by
 have st:zW 2 [ym c,ym d]=[some (.val (ym c)),some (.val (ym d))]:=rfl
 have hup:upD (.str ⟨#[c]⟩) []=.ok (.str ⟨#[up1 c]⟩):=by
  simp only[upD]
  rw[if_pos (by show 1≤5000000;decide),UW _ hc]
 unfold xc UQ
 rw[z0,st]
 simp only[zT,GB,UI,yc,zC,yt,UH,getElem?_cons_zero,getElem?_cons_succ,zu,Rs.bind_ok,ym,Gy,VE,xG,Yl,wx,uL,YX,decide_true,if_true,hup]
 unfold xt
 by_cases h:c=d
 ·subst h;simp
 ·have hb:(c==d)=false:=by simpa using h
  simp only[hb,Bool.false_eq_true,if_false,Bool.false_or]
  by_cases h2:97≤c∧c≤122
  ·simp[h2]
  ·simp[h2]
end Law
set_option Elab.async false
set_option linter.all false
set_option maxHeartbeats 1000000
namespace FD
open PySem PySem.Spec PyProof.Rows L2
section
variable{τ:DS}{fa fb fe fi:FE}{fs:FA}{n:Nat}{i:Int}
theorem jN:jO n τ=(WY τ[n]?).bind fun ds=>.ok (.int ds.length):=rfl
theorem vz:YK n fe τ=Fl.of (WY τ[n]?) fun ds=>Fl.of (fe τ) fun d=>if ds.length<sizeLine then .nx (τ.set n (some (.own (ds++[d])))) else .no:=rfl
theorem ZI:wQ fe τ=(fe τ).bind Uz:=rfl
@[simp] theorem WN{ds:List D}:Uz (.lst ds)=.ok ds:=rfl
def putAt(n:Nat)(ds:List D)(d:D)(τ:DS):D→Fl
 |.int k=>match ixN ds.length k with
  |some j=>.nx (τ.set n (some (.own (ds.set j d))))
  |none=>.no
 |_=>.no
theorem XN:U5 n fi fe τ=Fl.of (fe τ) fun d=>Fl.of (WY τ[n]?) fun ds=>Fl.of (fi τ) (putAt n ds d τ):=by
 unfold U5 uZ
 cases fe τ <;> rfl
theorem Qq{ds:List D}{d:D}{j:Nat}(h:j<ds.length):putAt n ds d τ (.int j)=.nx (τ.set n (some (.own (ds.set j d)))):=by
 have:ixN ds.length (j:Int)=some j:=by
  unfold ixN
  rw[if_pos (by omega),if_pos (by omega)]
  simp
 simp only[putAt,this]
def ixO(ds:List D):D→Rs D
 |.int k=>match atI ds k with
  |some d=>.ok d
  |none=>.no
 |_=>.no
theorem Tp:JE n fi τ=(WY τ[n]?).bind fun ds=>(fi τ).bind (ixO ds):=by
 unfold JE
 show(WY τ[n]?).bind _=_
 cases WY τ[n]? <;> rfl
end
end FD
namespace Law
open PySem PySem.Spec PyProof.Rows L2 FD
abbrev tx(x:List Nat):D:=.str ⟨x.toArray⟩
abbrev nts(x:List Nat):D:=.lst (x.map fun (k:Nat)=>D.int k)
theorem xh(x:List Nat)(h:x.length≤1000):yv [tx x]=.ok (.int x.length):=by
 rw[WK (by rw[z7];show x.toArray.size≤_;simp;omega)]
 show Rs.ok (D.int ((x.toArray.size:Nat):Int))=_
 simp
theorem Wj(x:List Nat)(j:Nat)(c:Nat)(h:x[j]?=some c)(hl:x.length≤1000):ixD (tx x) (.int j)=.ok (ym c):=by
 refine ZH (YC (by omega) (by simpa using h)) (by rw[z7];show x.toArray.size≤_;simp;omega)
def epR:List Nat→List Nat→Nat→List Nat
 |[],_,_=>[]
 |_::_,[],_=>[]
 |a::q,c::x,k=>if xt a c=true then k::epR q x (k+1) else epR (a::q) x (k+1)
def xX:List Nat→List Nat→Bool
 |[],_=>true
 |_::_,[]=>false
 |a::q,c::x=>if xt a c=true then xX q x else xX (a::q) x
theorem jK:∀(q x:List Nat) (k:Nat),((epR q x k).length=q.length)↔xX q x=true
 |[],x,k=>by simp[epR,xX]
 |a::q,[],k=>by simp[epR,xX]
 |a::q,c::x,k=>by
  simp only[epR,xX]
  split
  ·simpa using jK q x (k+1)
  ·exact jK (a::q) x (k+1)
abbrev its(x:List Int):D:=.lst (x.map D.int)
theorem MS(x:List Nat):nts x=its (x.map fun (k:Nat)=>(k:Int)):=by simp[nts,its]
theorem Wf(i:Int):wa [.int i]=.ok (.bl true):=by
 have st:zW 1 [D.int i]=[some (.val (.int i))]:=rfl
 unfold wa YA
 rw[z0,st]
 simp only[zT,zC,yt,zE,zt,xg,UI,To,getElem?_cons_zero,zu,Rs.bind_ok,Fl.of_ok,zO,xG,if_true,Bool.not_false,show WO [.int i,.raw (.ty "int")]=.ok (.bl true) from rfl,show WO [.int i,.raw (.ty "bool")]=.ok (.bl false) from rfl]
def vO(n:Int):Int→List Int→Bool
 |_,[]=>true
 |a,t::r=>if t<a∨n≤t then false else vO n (t+1) r
def ji:FS:=(zy (sIf (wf (ve (zo wa (za (zd 3) zi)))) (yA (eC (.bl false))) zV)
  (zy (sIf (uV (FD.tB (eOp ltI (zd 3) (zd 2))) (FD.tB (eOp geD (zd 3) (yg yv (za (zd 0) zi))))) (yA (eC (.bl false))) zV)
  (zX 2 (eOp zU (zd 3) (eC (.int 1))))))
theorem Ud(x:List Nat)(hx:x.length≤1000)(z:D):∀(l:List Int) (a:Int) (s:Option Sl),
  (vO x.length a l=false∧yB (gNm 3) ji (l.map D.int) [some (.val (tx x)),some (.val z),some (.val (.int a)),s]=.rt (.bl false)) ∨
  (vO x.length a l=true∧∃τ',yB (gNm 3) ji (l.map D.int) [some (.val (tx x)),some (.val z),some (.val (.int a)),s]=.nx τ')
 |[],a,s=>.inr ⟨rfl,_,rfl⟩
 |t::r,a,s=>by
  by_cases h:t<a∨(x.length:Int)≤t
  ·refine .inl ⟨by simp[vO,h],?_⟩
   rw[map_cons,yB,vJ,Fl.of_ok]
   have:ji [some (.val (tx x)),some (.val z),some (.val (.int a)),some (.val (.int t))]=.rt (.bl false):=by
    unfold ji
    simp only[zK,yk,zT,zR,xn,xH,wO,vy,yc,zC,yt,zE,zt,ya,xg,getElem?_cons_zero,getElem?_cons_succ,zu,Rs.bind_ok,Fl.of_ok,yb,yI,zP,xG,Yc,Gr,Bool.false_eq_true,if_false,Bool.not_true,Wf,xh x hx]
    by_cases h1:t<a
    ·simp only[Fl.of_ok,vG,if_true,h1,decide_true]
    ·have h2:=h.resolve_left h1
     simp only[Fl.of_ok,vG,if_true,Bool.false_eq_true,if_false,h1,decide_false,h2,decide_true]
   simp only[set_cons_succ,set_cons_zero,this]
  ·have:ji [some (.val (tx x)),some (.val z),some (.val (.int a)),some (.val (.int t))]=.nx [some (.val (tx x)),some (.val z),some (.val (.int (t+1))),some (.val (.int t))]:=by
    unfold ji
    have h1:¬ t<a:=fun h1=>h (.inl h1)
    have h2:¬ (x.length:Int)≤t:=fun h2=>h (.inr h2)
    simp only[zK,zZ,yk,zT,zR,xn,xH,wO,vy,yc,zC,yt,zE,zt,ya,xg,getElem?_cons_zero,getElem?_cons_succ,set_cons_succ,set_cons_zero,zu,Rs.bind_ok,Fl.of_ok,yb,yI,zP,xG,y7,Yc,Gr,Bool.false_eq_true,if_false,Bool.not_true,Wf,xh x hx,h1,h2,decide_false]
   have e:vO x.length a (t::r)=vO x.length (t+1) r:=by simp[vO,h]
   rw[map_cons,yB,vJ,Fl.of_ok,e]
   simp only[set_cons_succ,set_cons_zero,this]
   exact Ud x hx z r (t+1) _
theorem Y9(x:List Nat)(l:List Int)(hx:x.length≤1000):yK [tx x,its l]=.ok (.bl (vO x.length 0 l)):=by
 have st:zW 4 [tx x,its l]=[some (.val (tx x)),some (.val (its l)),none,none]:=rfl
 have:=Ud x hx (its l) l 0 none
 unfold ji at this
 unfold yK wY
 rw[z0,st]
 simp only[zK,zZ,xQ,ZI,WN,zC,yt,getElem?_cons_zero,getElem?_cons_succ,set_cons_succ,set_cons_zero,zu,Rs.bind_ok,Fl.of_ok,yb]
 rcases this with ⟨h1,h2⟩|⟨h1,τ',h2⟩
 ·rw[h2,h1];rfl
 ·rw[h2,h1];rfl
theorem Ql(n:Int):∀(l:List Int) (a:Int),0≤a→vO n a l=true→∀t∈l,0≤t∧t<n
 |[],a,h0,_,t,h=>nomatch h
 |u::r,a,h0,h,t,ht=>by
  unfold vO at h
  split at h
  ·cases h
  ·rename_i g
   rcases mem_cons.mp ht with e|e
   ·subst e;omega
   ·exact Ql n r (u+1) (by omega) h t e
def mt2(x:List Nat):List Nat→List Int→List Bool
 |a::q,t::l=>xt a (x.getD t.toNat 0)::mt2 x q l
 |_,_=>[]
theorem Yx:∀bs:List Bool,xT (bs.map D.bl)=some bs
 |[]=>rfl
 |b::r=>by simp only[map_cons,xT,Yx r];rfl
theorem Uo(x:List Nat):∀(q:List Nat) (l:List Int),(mt2 x q l).length≤q.length
 |[],l=>by simp[mt2]
 |a::q,[]=>by simp[mt2]
 |a::q,t::l=>by have:=Uo x q l;simp[mt2];omega
theorem UM(x:List Nat)(hx:x.length≤1000):∀(q:List Nat) (l:List Int),(∀c∈q,c<128)→(∀t∈l,0≤t∧t<(x.length:Int)) →
  wN (gPr 0 1) (fun _=>.ok true) (zo xc (za (zd 0) (za (eOp ixD (zd 2) (zd 1)) zi))) [none,none,some (.val (tx x))] (xa q (l.map D.int))=.ok ((mt2 x q l).map D.bl)
 |[],l,_,_=>by cases l <;> rfl
 |a::q,[],_,_=>rfl
 |a::q,t::l,hc,ht=>by
  have ih:=UM x hx q l (fun c h=>hc c (mem_cons_of_mem _ h)) fun t h=>ht t (mem_cons_of_mem _ h)
  have h1:=ht t (mem_cons_self ..)
  have hxt:ixD (tx x) (.int t)=.ok (ym (x.getD t.toNat 0)):=by
   have:=Wj x t.toNat (x.getD t.toNat 0) (by rw[getD_eq_getElem?_getD,getElem?_eq_getElem (by omega)];rfl) hx
   rwa [toNat_of_nonneg h1.1] at this
  have hm:=jE a (x.getD t.toNat 0) (hc a (mem_cons_self ..))
  rw[map_cons,xa,wN]
  simp only[gPr,Zf,set_cons_succ,set_cons_zero]
  simp only[yc,zC,zE,zt,ya,getElem?_cons_zero,getElem?_cons_succ,zu,Rs.bind_ok,yI,hxt,hm,ih,mt2,map_cons]
def YV(q x:List Nat)(l:List Int):Bool:=(l.length==q.length)&&(vO x.length 0 l&&(mt2 x q l).all id)
theorem isLst(l:List D):WO [.lst l,.raw (.ty "list")]=.ok (.bl true):=rfl
theorem Jt(q x:List Nat)(l:List Int)(hq:q.length≤1000)(hx:x.length≤1000)(ha:∀c∈q,c<128):yR [tx q,tx x,its l]=.ok (.bl (YV q x l)):=by
 have st:zW 3 [tx q,tx x,its l]=[some (.val (tx q)),some (.val (tx x)),some (.val (its l))]:=rfl
 unfold yR Zn
 rw[z0,st]
 simp only[zK,yk,zT,zR,xn,xH,wO,vy,yc,zC,yt,zE,zt,xg,getElem?_cons_zero,getElem?_cons_succ,zu,Rs.bind_ok,Fl.of_ok,zP,xG,T1,vo,Bool.false_eq_true,if_false,Bool.not_true,isLst,xh q hq,length_map]
 by_cases h:l.length=q.length
 ·have h1:((l.length:Int)==(q.length:Int))=true:=by rw[h];simp
  by_cases hr:vO x.length 0 l=true
  ·have cm:=UM x hx q l ha (Ql x.length l 0 (Int.le_refl _) hr)
   have tz:vd 2 [1] [some (.val (tx q)),some (.val (tx x)),some (.val (its l))]=[none,none,some (.val (tx x))]:=rfl
   have hz:((mt2 x q l).map D.bl).length≤sizeLine:=by have:=Uo x q l;rw[z7,length_map];omega
   have zp:JS [tx q,its l]=some (⟨q.toArray⟩,l.map D.int):=rfl
   have hlay:YV q x l=(mt2 x q l).all id:=by simp[YV,h,hr]
   simp only[zK,yk,zT,zR,xH,vy,zC,yt,zE,zt,ya,xg,getElem?_cons_zero,getElem?_cons_succ,zu,Rs.bind_ok,Fl.of_ok,yb,zO,yI,xG,if_true,Bool.false_eq_true,if_false,Bool.not_true,h1,Y9 x l hx,hr,we,iZp,zp,tz,cm,hz,TN,Yx,hlay]
  ·have hr':vO x.length 0 l=false:=by simpa using hr
   have hlay:YV q x l=false:=by simp[YV,h,hr']
   simp only[zK,yk,zT,zR,xH,vy,zC,yt,zE,zt,ya,getElem?_cons_zero,getElem?_cons_succ,zu,Rs.bind_ok,Fl.of_ok,yb,vG,zO,yI,xG,if_true,Bool.false_eq_true,if_false,Bool.not_true,Bool.not_false,h1,Y9 x l hx,hr',hlay]
 ·have h1:((l.length:Int)==(q.length:Int))=false:=by simp;omega
  have hlay:YV q x l=false:=by simp[YV,h]
  simp only[vG,zO,if_true,Bool.not_false,h1,hlay]
theorem uG{set:FG}{fe:FE}{τ:DS}{α β:Type}(f:α→D)(g:β→D)(h:α→β):∀(xs:List α),(∀a∈xs,∃τ1,set (f a) τ=.ok τ1∧fe τ1=.ok (g (h a)))→wN set (fun _=>.ok true) fe τ (xs.map f)=.ok ((xs.map h).map g)
 |[],_=>rfl
 |a::xs,hs=>by
  obtain⟨τ1,h1,h2⟩:=hs a (mem_cons_self ..)
  rw[map_cons,wN,h1]
  simp only[h2,uG f g h xs fun b hb=>hs b (mem_cons_of_mem _ hb),Rs.bind_ok,map_cons]
end Law
set_option Elab.async false
set_option linter.all false
set_option maxHeartbeats 1000000
namespace FD
open PySem PySem.Spec PyProof.Rows L2
theorem uB(x:List Nat):(⟨x.toArray⟩:Str).length=x.length:=by show x.toArray.size=_;simp
theorem Qd(x:List Nat)(n:Nat):Txt.slice (⟨x.toArray⟩:Str) none (some (n:Int))=⟨(x.take n).toArray⟩:=by
 have:=eq_of_beq (slice_to_min_closes (x:=⟨x.toArray⟩) (n:=(n:Int)) (m:=_) (by omega) rfl)
 rw[this]
 congr 2
 rw[uB]
 show(List.drop (0:Int).toNat x).take _=_
 rw[show(0:Int).toNat=0 from rfl,drop_zero]
 split
 ·rw[List.take_of_length_le (by omega),List.take_of_length_le (by omega)]
 ·congr 1
theorem Vu(x:List Nat)(i:Nat)(h:i≤x.length):Txt.slice (⟨x.toArray⟩:Str) (some (i:Int)) none=⟨(x.drop i).toArray⟩:=by
 have:=eq_of_beq (slice_closes_fromL (x:=⟨x.toArray⟩) (i:=(i:Int)) (b:=_) (by omega) (by rw[uB];omega) rfl)
 rw[this]
 congr 2
 rw[uB,toNat_natCast]
 show(List.drop i x).take _=_
 rw[List.take_of_length_le (by rw[length_drop];omega)]
theorem G7(a b:List Nat):(⟨a.toArray⟩:Str)++(⟨b.toArray⟩:Str)=⟨(a++b).toArray⟩:=by
 show Str.mk _=_
 simp
theorem uH{set:FG}{ft:FT}{fe:FE}{τ:DS}{α:Type}(f g:α→D)(p:α→Bool):∀(xs:List α),(∀a∈xs,∃τ1,set (f a) τ=.ok τ1∧ft τ1=.ok (p a)∧fe τ1=.ok (g a))→wN set ft fe τ (xs.map f)=.ok ((xs.filter p).map g)
 |[],_=>rfl
 |a::xs,hs=>by
  obtain⟨τ1,h1,h2,h3⟩:=hs a (mem_cons_self ..)
  have ih:=uH f g p xs fun b hb=>hs b (mem_cons_of_mem _ hb)
  rw[map_cons,wN,h1]
  cases hp:p a
  ·rw[hp] at h2
   simp only[h2,ih,List.filter_cons,hp,Bool.false_eq_true,if_false]
  ·rw[hp] at h2
   simp only[h2,h3,ih,List.filter_cons,hp,if_true,Rs.bind_ok,map_cons]
end FD
namespace Law
open PySem PySem.Spec PyProof.Rows L2 FD
theorem f1:∀a∈QS,∀c∈NS,xt (lo1 a) c=xt (lo1 a) (lo1 c):=by decide
theorem f2:∀a∈QS,∀c∈NS,xt a c=true→xt (lo1 a) c=true:=by decide
theorem f3:∀a∈QS,∀c∈NS,xt a c=true→lo1 c=lo1 a:=by decide
theorem f5:∀c∈NS,c<128∧lo1 c<128:=by decide
theorem f6:∀c∈QS,c<128∧lo1 c<128:=by decide
theorem jS:∀(x q:List Nat) (a:Nat),xX (a::q) x=true→xX q x=true
 |[],q,a,h=>by simp[xX] at h
 |c::x,q,a,h=>by
  have h1:xX q x=true:=by
   simp only[xX] at h
   split at h
   ·exact h
   ·exact jS x q a h
  cases q with
  |nil=>rfl
  |cons b q=>
   simp only[xX]
   split
   ·exact jS x q b h1
   ·exact h1
theorem VP(n:Int):∀(q x:List Nat) (k:Nat) (a:Int),a≤k→(k:Int)+x.length≤n→vO n a ((epR q x k).map fun (t:Nat)=>(t:Int))=true
 |[],x,k,a,_,_=>by simp[epR,vO]
 |_::_,[],k,a,_,_=>by simp[epR,vO]
 |b::q,c::x,k,a,h1,h2=>by
  simp only[length_cons] at h2
  simp only[epR]
  split
  ·simp only[map_cons,vO]
   rw[if_neg (by omega)]
   exact VP n q x (k+1) _ (by omega) (by omega)
  ·exact VP n (b::q) x (k+1) a (by omega) (by omega)
theorem JF{x0 x:List Nat}{c k:Nat}(h:x0.drop k=c::x):x0.drop (k+1)=x∧x0.getD k 0=c:=by
 have h1:x0[k]?=some c:=by
  have:=congrArg (fun l=>l[0]?) h
  simpa using this
 constructor
 ·rw[← List.drop_drop,h];rfl
 ·rw[getD_eq_getElem?_getD,h1];rfl
theorem Gz(x0:List Nat)(f:Nat→Nat):∀(q x:List Nat) (k:Nat),x0.drop k=x→(∀a∈q,∀c∈x,xt a c=true→xt (f a) c=true)→(mt2 x0 (q.map f) ((epR q x k).map fun (t:Nat)=>(t:Int))).all id=true
 |[],x,k,_,_=>by simp[epR,mt2]
 |_::_,[],k,_,_=>by simp[epR,mt2]
 |b::q,c::x,k,h1,h2=>by
  obtain⟨h3,h4⟩:=JF h1
  simp only[epR]
  split
  ·rename_i hm
   simp only[map_cons,mt2,toNat_natCast,h4,h2 b (mem_cons_self ..) c (mem_cons_self ..) hm,List.all_cons,id,Bool.true_and]
   exact Gz x0 f q x (k+1) h3 fun a ha d hd=>h2 a (mem_cons_of_mem _ ha) d (mem_cons_of_mem _ hd)
  ·exact Gz x0 f (b::q) x (k+1) h3 fun a ha d hd=>h2 a ha d (mem_cons_of_mem _ hd)
structure Lay(q x l:List Nat):Prop where
 len:l.length=q.length
 ris:∀j,j+1<l.length→l.getD j 0<l.getD (j+1) 0
 inn:∀j,j<l.length→l.getD j 0<x.length
 met:∀j,j<l.length→xt (q.getD j 0) (x.getD (l.getD j 0) 0)=true
abbrev toI(l:List Nat):List Int:=l.map fun (t:Nat)=>(t:Int)
theorem XS(n:Nat):∀(l:List Nat) (a:Nat),vO n a (toI l)=true↔((∀j,j+1<l.length→l.getD j 0<l.getD (j+1) 0)∧(∀j,j<l.length→l.getD j 0<n)∧(0<l.length→a≤l.getD 0 0))
 |[],a=>by simp[vO]
 |t::r,a=>by
  have ih:=XS n r (t+1)
  simp only[map_cons,vO]
  constructor
  ·intro h
   split at h
   ·cases h
   ·rename_i g
    have e:((t:Int)+1)=((t+1:Nat):Int):=by omega
    rw[e] at h
    obtain⟨h1,h2,h3⟩:=ih.mp h
    refine⟨fun j hj=>?_,fun j hj=>?_,fun _=>?_⟩
    ·cases j with
     |zero=>have:=h3 (by simpa using hj);exact Nat.lt_of_succ_le (by simpa using this)
     |succ j=>simpa using h1 j (by simpa using hj)
    ·cases j with
     |zero=>simp;omega
     |succ j=>simpa using h2 j (by simpa using hj)
    ·simp;omega
  ·rintro⟨h1,h2,h3⟩
   have a1:=h2 0 (by simp)
   have a2:=h3 (by simp)
   simp only[getD_cons_zero] at a1 a2
   rw[if_neg (by omega)]
   have e:((t:Int)+1)=((t+1:Nat):Int):=by omega
   rw[e]
   refine ih.mpr ⟨fun j hj=>?_,fun j hj=>?_,fun h0=>?_⟩
   ·simpa using h1 (j+1) (by simpa using hj)
   ·simpa using h2 (j+1) (by simpa using hj)
   ·exact Nat.succ_le_of_lt (by simpa using h1 0 (by simpa using h0))
theorem X5(x:List Nat):∀(q l:List Nat),l.length=q.length→((mt2 x q (toI l)).all id=true↔∀j,j<l.length→xt (q.getD j 0) (x.getD (l.getD j 0) 0)=true)
 |[],[],_=>by simp[mt2]
 |[],_::_,h=>by simp at h
 |_::_,[],h=>by simp at h
 |a::q,t::l,h=>by
  have ih:=X5 x q l (by simpa using h)
  simp only[map_cons,mt2,List.all_cons,id,Bool.and_eq_true,toNat_natCast]
  rw[ih]
  constructor
  ·rintro⟨h1,h2⟩ j hj
   cases j with
   |zero=>simpa using h1
   |succ j=>simpa using h2 j (by simpa using hj)
  ·intro h1
   exact⟨by simpa using h1 0 (by simp),fun j hj=>by simpa using h1 (j+1) (by simpa using hj)⟩
theorem Uv(q x l:List Nat):YV q x (toI l)=true↔Lay q x l:=by
 unfold YV
 simp only[Bool.and_eq_true,beq_iff_eq,length_map]
 constructor
 ·rintro⟨h1,h2,h3⟩
  obtain⟨a,b,_⟩:=(XS x.length l 0).mp h2
  exact⟨h1,a,b,(X5 x q l h1).mp h3⟩
 ·intro h
  exact⟨h.len,(XS x.length l 0).mpr ⟨h.ris,h.inn,fun _=>zero_le _⟩,(X5 x q l h.len).mpr h.met⟩
def TH(x:List Nat)(p:Nat):Int:=if p=0 then 8 else if x.getD (p-1) 0∈MK then 6 else if (65≤x.getD p 0∧x.getD p 0≤90)∧((97≤x.getD (p-1) 0∧x.getD (p-1) 0≤122)∨(48≤x.getD (p-1) 0∧x.getD (p-1) 0≤57)) then 5 else 0
def vP(a:Nat)(x:List Nat)(p:Nat):Int:=10+TH x p+(if x.getD p 0=a then 1 else 0)
def Ye(p:Nat):Int:=-(if (p:Int)<3 then (p:Int) else 3)
def vD(r p:Nat):Int:=if (p:Int)-r-1=0 then 7 else -(if (p:Int)-r-1<5 then (p:Int)-r-1 else 5)
def trm(q x l:List Nat)(j:Nat):Int:=vP (q.getD j 0) x (l.getD j 0)+(if j=0 then Ye (l.getD 0 0) else vD (l.getD (j-1) 0) (l.getD j 0))
def pts(q x l:List Nat):Nat→Int
 |0=>0
 |n+1=>pts q x l n+trm q x l n
abbrev Tl:=Int×List Nat
def wv:List Tl→Option Tl→Option Tl
 |[],c=>c
 |t::r,none=>wv r (some t)
 |t::r,some c=>wv r (some (if c.1<t.1 then t else c))
def ja(a:Nat)(x:List Nat):List Tl:=((List.range x.length).filter fun p=>xt a (x.getD p 0)).map fun p=>(vP a x p,[p])
def wu(p:Nat)(ts:List Tl):List Tl:=(ts.filter fun t=>decide (p<t.2.getD 0 0)).map fun t=>(t.1+vD p (t.2.getD 0 0),t.2)
def uC(a:Nat)(x:List Nat)(ts:List Tl)(p:Nat):Option Tl:=if xt a (x.getD p 0)=true then (wv (wu p ts) none).map fun t=>(vP a x p+t.1,p::t.2) else none
def jF(a:Nat)(x:List Nat)(ts:List Tl):List Tl:=(List.range x.length).filterMap (uC a x ts)
def ye:List Nat→List Nat→List Tl
 |[],_=>[]
 |[a],x=>ja a x
 |a::b::q,x=>jF a x (ye (b::q) x)
def Zh(t:Tl):Tl:=(t.1+Ye (t.2.getD 0 0),t.2)
def jb(q x:List Nat):Option Tl:=wv ((ye q x).map Zh) none
theorem wD:∀(ts:List Tl) (c:Option Tl) (t:Tl),wv ts c=some t→t∈ts∨c=some t
 |[],c,t,h=>.inr h
 |u::r,none,t,h=>by
  rcases wD r (some u) t h with h|h
  ·exact .inl (mem_cons_of_mem _ h)
  ·cases h;exact .inl (mem_cons_self ..)
 |u::r,some c,t,h=>by
  rcases wD r _ t h with h|h
  ·exact .inl (mem_cons_of_mem _ h)
  ·by_cases g:c.1<u.1
   ·rw[if_pos g] at h;cases h;exact .inl (mem_cons_self ..)
   ·rw[if_neg g] at h;exact .inr h
theorem Yo:∀(ts:List Tl) (c:Tl),∃t,wv ts (some c)=some t
 |[],c=>⟨c,rfl⟩
 |u::r,c=>Yo r _
theorem W0(ts:List Tl)(h:ts≠[]):∃t,wv ts none=some t∧t∈ts:=by
 cases ts with
 |nil=>exact absurd rfl h
 |cons u r=>
  obtain⟨t,e⟩:=Yo r u
  refine⟨t,e,?_⟩
  rcases wD (u::r) none t e with g|g
  ·exact g
  ·cases g
def sm(f:Nat→Int):Nat→Int
 |0=>0
 |n+1=>sm f n+f n
theorem XF(f:Nat→Int):∀n,sm f (n+1)=f 0+sm (fun j=>f (j+1)) n
 |0=>by simp[sm]
 |n+1=>by rw[sm,XF f n,sm];omega
theorem Qr(q x l:List Nat):∀n,pts q x l n=sm (trm q x l) n
 |0=>rfl
 |n+1=>by rw[pts,sm,Qr q x l n]
def trk(x:List Nat)(r:Nat)(q l:List Nat)(j:Nat):Int:=vP (q.getD j 0) x (l.getD j 0)+vD (if j=0 then r else l.getD (j-1) 0) (l.getD j 0)
theorem J1(a p:Nat)(q x l:List Nat)(j:Nat):trm (a::q) x (p::l) (j+1)=trk x p q l j:=by
 simp only[trm,trk,getD_cons_succ,succ_ne_zero,if_false,Nat.add_sub_cancel]
 cases j with
 |zero=>rw[if_pos rfl,getD_cons_zero]
 |succ j=>rw[if_neg (succ_ne_zero j),getD_cons_succ,Nat.add_sub_cancel]
theorem J2(a p r:Nat)(q x l:List Nat)(j:Nat):trk x r (a::q) (p::l) (j+1)=trk x p q l j:=by
 simp only[trk,getD_cons_succ,succ_ne_zero,if_false,Nat.add_sub_cancel]
 cases j with
 |zero=>rw[if_pos rfl,getD_cons_zero]
 |succ j=>rw[if_neg (succ_ne_zero j),getD_cons_succ,Nat.add_sub_cancel]
def wV(x:List Nat):List Nat→List Nat→Int
 |a::q,p::l=>vP a x p+sm (trk x p q l) l.length
 |_,_=>0
theorem Wm(a p:Nat)(q x l:List Nat):wV x (a::q) (p::l)+Ye p=pts (a::q) x (p::l) (l.length+1):=by
 rw[Qr,XF,funext (J1 a p q x l)]
 simp only[wV,trm,if_true,getD_cons_zero]
 omega
theorem Y4(a b p r:Nat)(q x l:List Nat):wV x (a::b::q) (p::r::l)=vP a x p+vD p r+wV x (b::q) (r::l):=by
 simp only[wV,length_cons]
 rw[XF,funext (J2 b r p q x l)]
 simp only[trk,if_true,getD_cons_zero]
 omega
theorem Lay.one{a p:Nat}{x:List Nat}(h1:p<x.length)(h2:xt a (x.getD p 0)=true):Lay [a] x [p]:=by
 have z:∀j,j<[p].length→j=0:=fun j hj=>by simpa using hj
 exact⟨rfl,fun j hj=>by simp at hj,fun j hj=>by rw[z j hj];exact h1,fun j hj=>by rw[z j hj];exact h2⟩
theorem Lay.cons{a p:Nat}{q x l:List Nat}(h:Lay q x l)(h1:p<x.length)(h2:xt a (x.getD p 0)=true)(h3:0<l.length→p<l.getD 0 0):Lay (a::q) x (p::l):=by
 refine⟨by simp[h.len],fun j hj=>?_,fun j hj=>?_,fun j hj=>?_⟩
 ·cases j with
  |zero=>simpa using h3 (by simpa using hj)
  |succ j=>simpa using h.ris j (by simpa using hj)
 ·cases j with
  |zero=>simpa using h1
  |succ j=>simpa using h.inn j (by simpa using hj)
 ·cases j with
  |zero=>exact h2
  |succ j=>simpa using h.met j (by simpa using hj)
theorem Lay.tail{a p:Nat}{q x l:List Nat}(h:Lay (a::q) x (p::l)):Lay q x l∧p<x.length∧xt a (x.getD p 0)=true∧(0<l.length→p<l.getD 0 0):=by
 refine⟨⟨by simpa using h.len,fun j hj=>?_,fun j hj=>?_,fun j hj=>?_⟩,by simpa using h.inn 0 (by simp),by simpa using h.met 0 (by simp),fun h0=>by simpa using h.ris 0 (by simpa using h0)⟩
 ·simpa using h.ris (j+1) (by simpa using hj)
 ·simpa using h.inn (j+1) (by simpa using hj)
 ·simpa using h.met (j+1) (by simpa using hj)
theorem vx(x:List Nat):∀(q:List Nat) (t:Tl),t∈ye q x→Lay q x t.2∧t.1=wV x q t.2
 |[],t,h=>by simp[ye] at h
 |[a],t,h=>by
  simp only[ye,ja,mem_map,mem_filter,mem_range] at h
  obtain⟨p,⟨h1,h2⟩,rfl⟩:=h
  exact⟨Lay.one h1 h2,by simp[wV,sm]⟩
 |a::b::q,t,h=>by
  simp only[ye,jF,mem_filterMap,mem_range] at h
  obtain⟨p,h1,h2⟩:=h
  unfold uC at h2
  split at h2
  ·rename_i hm
   cases e:wv (wu p (ye (b::q) x)) none with
   |none=>rw[e] at h2;cases h2
   |some u=>
    rw[e] at h2
    have h2:some (vP a x p+u.1,p::u.2)=some t:=h2
    cases h2
    rcases wD _ _ _ e with g|g
    ·simp only[wu,mem_map,mem_filter,decide_eq_true_eq] at g
     obtain⟨v,⟨g1,g2⟩,rfl⟩:=g
     obtain⟨k1,k2⟩:=vx x (b::q) v g1
     refine⟨k1.cons h1 hm fun _=>g2,?_⟩
     have hl:=k1.len
     cases e2:v.2 with
     |nil=>rw[e2] at hl;simp at hl
     |cons r l=>
      rw[e2] at k2
      simp only[getD_cons_zero]
      rw[Y4,k2]
      omega
    ·cases g
  ·cases h2
theorem uK(x:List Nat):∀(q l:List Nat),q≠[]→Lay q x l→∃t∈ye q x,t.2.getD 0 0=l.getD 0 0
 |[],_,h,_=>absurd rfl h
 |[a],l,_,h=>by
  cases l with
  |nil=>have:=h.len;simp at this
  |cons p l=>
   obtain⟨_,h1,h2,_⟩:=h.tail
   refine⟨(vP a x p,[p]),?_,rfl⟩
   simp only[ye,ja,mem_map,mem_filter,mem_range]
   exact⟨p,⟨h1,h2⟩,rfl⟩
 |a::b::q,l,_,h=>by
  cases l with
  |nil=>have:=h.len;simp at this
  |cons p l=>
   obtain⟨h0,h1,h2,h3⟩:=h.tail
   obtain⟨u,u1,u2⟩:=uK x (b::q) l (by simp) h0
   have hl:0<l.length:=by rw[h0.len];simp
   have mem:(u.1+vD p (u.2.getD 0 0),u.2)∈wu p (ye (b::q) x):=by
    simp only[wu,mem_map,mem_filter,decide_eq_true_eq]
    exact⟨u,⟨u1,by rw[u2];exact h3 hl⟩,rfl⟩
   obtain⟨t,e,_⟩:=W0 _ (List.ne_nil_of_mem mem)
   refine⟨(vP a x p+t.1,p::t.2),?_,rfl⟩
   simp only[ye,jF,mem_filterMap,mem_range]
   refine⟨p,h1,?_⟩
   unfold uC
   rw[if_pos h2,e]
   rfl
theorem jr(q x:List Nat)(hq:q≠[])(v:Int)(l:List Nat)(h:jb q x=some (v,l)):Lay q x l∧v=pts q x l q.length:=by
 unfold jb at h
 rcases wD _ _ _ h with g|g
 ·obtain⟨t,g1,g2⟩:=mem_map.mp g
  obtain⟨k1,k2⟩:=vx x q t g1
  simp only[Zh,Prod.mk.injEq] at g2
  obtain⟨rfl,rfl⟩:=g2
  refine⟨k1,?_⟩
  cases q with
  |nil=>exact absurd rfl hq
  |cons a q=>
   have hl:=k1.len
   cases e2:t.2 with
   |nil=>rw[e2] at hl;simp at hl
   |cons p l=>
    rw[e2] at k2 hl
    simp only[length_cons] at hl ⊢
    have:q.length=l.length:=by omega
    rw[this,← Wm,k2,getD_cons_zero]
 ·cases g
theorem JP(q x l:List Nat)(hq:q≠[])(h:Lay q x l):∃v l',jb q x=some (v,l')∧Lay q x l'∧v=pts q x l' q.length:=by
 obtain⟨t,t1,_⟩:=uK x q l hq h
 obtain⟨⟨v,l'⟩,e,_⟩:=W0 ((ye q x).map Zh) (List.ne_nil_of_mem (mem_map_of_mem t1))
 exact⟨v,l',e,jr q x hq v l' e⟩
theorem Xl(q x:List Nat)(h:xX q x=true):Lay q x (epR q x 0):=by
 have h1:=(jK q x 0).mpr h
 have h2:=VP x.length q x 0 0 (Int.le_refl _) (by omega)
 have h3:=Gz x id q x 0 rfl fun a _ c _ hm=>hm
 rw[map_id] at h3
 refine(Uv q x _).mp ?_
 unfold YV
 rw[h2,h3]
 simp[h1]
theorem uS(l:List Nat)(j:Nat)(h:j<l.length):(l.map (· - 1)).getD j 0=l.getD j 0-1:=by
 simp[getD_eq_getElem?_getD,getElem?_map,getElem?_eq_getElem h]
theorem Lay.back{q x l:List Nat}{c:Nat}(h:Lay q (c::x) l)(h0:∀j,j<l.length→0<l.getD j 0):Lay q x (l.map (· - 1)):=by
 refine⟨by simp[h.len],fun j hj=>?_,fun j hj=>?_,fun j hj=>?_⟩ <;> rw[length_map] at hj
 ·rw[uS _ _ (by omega),uS _ _ hj]
  have:=h.ris j hj;have:=h0 j (by omega);omega
 ·rw[uS _ _ hj]
  have:=h.inn j hj;have:=h0 j hj;simp only[length_cons] at *;omega
 ·rw[uS _ _ hj]
  have a:=h.met j hj;have b:=h0 j hj
  obtain⟨k,hk⟩:∃k,l.getD j 0=k+1:=⟨l.getD j 0-1,by omega⟩
  rw[hk,getD_cons_succ] at a
  rw[hk];exact a
theorem Lay.low{q x l:List Nat}(h:Lay q x l)(h0:0<l.getD 0 0):∀j,j<l.length→0<l.getD j 0:=fun j=>by
 induction j with
 |zero=>exact fun _=>h0
 |succ j ih=>intro hj;have:=h.ris j hj;omega
theorem Yf:∀(x q l:List Nat),Lay q x l→xX q x=true
 |[],q,l,h=>by
  cases q with
  |nil=>rfl
  |cons a q=>
   have:=h.inn 0 (by rw[h.len];simp)
   simp at this
 |c::x,q,l,h=>by
  cases q with
  |nil=>rfl
  |cons a q=>
   cases l with
   |nil=>have:=h.len;simp at this
   |cons p l=>
    simp only[xX]
    split
    ·obtain⟨h1,_,_,h3⟩:=h.tail
     refine Yf x q (l.map (· - 1)) (h1.back fun j hj=>?_)
     have h4:=h3 (by omega)
     exact h1.low (by omega) j hj
    ·rename_i hm
     refine Yf x (a::q) ((p::l).map (· - 1)) (h.back (h.low ?_))
     rcases Nat.eq_zero_or_pos p with z|z
     ·subst z
      have:=h.met 0 (by simp)
      simp only[getD_cons_zero] at this
      exact absurd this hm
     ·simpa using z
end Law
set_option Elab.async false
set_option linter.all false
set_option maxHeartbeats 1000000
namespace FD
open PySem PySem.Spec PyProof.Rows L2
def negI:D→Rs D
 |.int i=>.ok (.int (-i))
 |_=>.no
@[simp] theorem QV{i:Int}:negI (.int i)=.ok (.int (-i)):=rfl
theorem ZK{fa:FE}{τ:DS}:wS fa τ=(fa τ).bind negI:=by
 unfold wS
 show(fa τ).bind _=_
 cases fa τ with
 |ok d=>cases d <;> rfl
 |_=>rfl
theorem XO{n:Nat}{op:D→D→Rs D}{fe:FE}{τ:DS}:jV n op fe τ=Fl.of (zd n τ) fun x=>Fl.of (fe τ) fun y=>Fl.of (op x y) fun z=>.nx (τ.set n (some (.val z))):=rfl
theorem io_i{g:Int→Int→D}{i j:Int}:xP g (.int i) (.int j)=.ok (g i j):=rfl
theorem VG(i j:Int):ul [.int i,.int j]=.ok (.int (if j<i then j else i)):=rfl
end FD
namespace Law
open PySem PySem.Spec PyProof.Rows L2 FD
abbrev tlD(t:Tl):D:=.tup [.int t.1,nts t.2]
def v4:Option Tl→D
 |none=>.non
 |some t=>tlD t
theorem Vo(t:Tl):ixD (tlD t) (.int 0)=.ok (.int t.1):=rfl
theorem Vn(t:Tl):ixD (tlD t) (.int 1)=.ok (nts t.2):=rfl
theorem VF(l:List Nat)(j:Nat)(h:j<l.length):ixD (nts l) (.int (j:Int))=.ok (.int (l.getD j 0:Nat)):=by
 refine Ux (YC (by omega) ?_)
 simp[getD_eq_getElem?_getD,getElem?_eq_getElem h]
theorem X4(l:List Nat)(h:0<l.length):ixD (nts l) (.int 0)=.ok (.int (l.getD 0 0:Nat)):=VF l 0 h
theorem jI(x:List Nat)(j:Nat)(h:j<x.length):x[j]?=some (x.getD j 0):=by
 rw[getD_eq_getElem?_getD,getElem?_eq_getElem h];rfl
theorem ZQ(x:List Nat)(j:Nat)(h:j<x.length)(hx:x.length≤1000):ixD (tx x) (.int (j:Int))=.ok (ym (x.getD j 0)):=Wj x j _ (jI x j h) hx
theorem Te:("ABCDEFGHIJKLMNOPQRSTUVWXYZ" : Str).cps.toList=(List.range 26).map (· + 65):=by decide +kernel
theorem zb4:("0123456789" : Str).cps.toList=(List.range 10).map (· + 48):=by decide +kernel
theorem Uc(c n a:Nat):decide (c∈(List.range (n+1)).map (· + a))=decide (a≤c∧c≤n+a):=by
 apply decide_eq_decide.mpr
 rw[mem_map]
 constructor
 ·rintro⟨i,hi,rfl⟩
  have:=mem_range.mp hi
  omega
 ·intro h
  exact⟨c-a,mem_range.mpr (by omega),by omega⟩
theorem uR(c:Nat):decide (c∈("ABCDEFGHIJKLMNOPQRSTUVWXYZ" : Str).cps.toList)=decide (65≤c∧c≤90):=by
 rw[Te];exact Uc c 25 65
theorem Yq(c:Nat):decide (c∈("0123456789" : Str).cps.toList)=decide (48≤c∧c≤57):=by
 rw[zb4];exact Uc c 9 48
theorem zc4(x:List Nat)(p:Nat)(hx:x.length≤1000)(hp:p<x.length):yM [tx x,.int (p:Int)]=.ok (.int (TH x p)):=by
 have st:zW 3 [tx x,.int (p:Int)]=[some (.val (tx x)),some (.val (.int (p:Int))),none]:=rfl
 unfold yM vt
 rw[z0,st]
 cases p with
 |zero=>
  simp only[zK,yk,zT,zR,xn,yc,zC,yt,getElem?_cons_zero,getElem?_cons_succ,zu,Rs.bind_ok,Fl.of_ok,vG,zO,zP,wX,if_true,show((((0:Nat):Int))==0)=true from rfl]
  rfl
 |succ k=>
  have e0:(((k+1:Nat):Int)==0)=false:=by simp;omega
  have e1:((k+1:Nat):Int)-1=(k:Int):=by omega
  have hk:=ZQ x k (by omega) hx
  have hk1:=ZQ x (k+1) hp hx
  have hb:TH x (k+1)=if x.getD k 0∈MK then 6 else if (65≤x.getD (k+1) 0∧x.getD (k+1) 0≤90)∧((97≤x.getD k 0∧x.getD k 0≤122)∨(48≤x.getD k 0∧x.getD k 0≤57)) then 5 else 0:=by
   unfold TH;rw[if_neg (succ_ne_zero k)];rfl
  rw[hb]
  generalize x.getD k 0=c at *
  generalize x.getD (k+1) 0=d at *
  simp only[ym] at hk hk1
  by_cases h1:c∈MK
  ·simp only[zK,zZ,yk,zT,zR,xn,yc,zC,yt,getElem?_cons_zero,getElem?_cons_succ,set_cons_succ,set_cons_zero,zu,Rs.bind_ok,Fl.of_ok,yb,vG,zO,zP,x6,wX,if_true,Bool.false_eq_true,if_false,e0,e1,hk,Yl,wx,Jo,h1,decide_true]
  ·by_cases h2:65≤d∧d≤90
   ·by_cases h3:97≤c∧c≤122
    ·have h4:(65≤d∧d≤90)∧((97≤c∧c≤122)∨(48≤c∧c≤57)):=⟨h2,.inl h3⟩
     rw[if_neg h1,if_pos h4]
     simp only[zK,zZ,yk,zT,zR,xn,wG,wO,yc,zC,yt,getElem?_cons_zero,getElem?_cons_succ,set_cons_succ,set_cons_zero,zu,Rs.bind_ok,Fl.of_ok,yb,vG,zO,zP,x6,wX,if_true,Bool.false_eq_true,if_false,e0,e1,hk,hk1,Yl,wx,Jo,h1,decide_false,uR,uL,Yq,h2,h3,and_self,decide_true]
    ·by_cases h5:48≤c∧c≤57
     ·have h4:(65≤d∧d≤90)∧((97≤c∧c≤122)∨(48≤c∧c≤57)):=⟨h2,.inr h5⟩
      rw[if_neg h1,if_pos h4]
      simp only[zK,zZ,yk,zT,zR,xn,wG,wO,yc,zC,yt,getElem?_cons_zero,getElem?_cons_succ,set_cons_succ,set_cons_zero,zu,Rs.bind_ok,Fl.of_ok,yb,vG,zO,zP,x6,wX,if_true,Bool.false_eq_true,if_false,e0,e1,hk,hk1,Yl,wx,Jo,h1,decide_false,uR,uL,Yq,decide_eq_true h2,decide_eq_false h3,decide_eq_true h5]
     ·have h4:¬ ((65≤d∧d≤90)∧((97≤c∧c≤122)∨(48≤c∧c≤57))):=fun h=>by rcases h.2 with h|h;exact h3 h;exact h5 h
      rw[if_neg h1,if_neg h4]
      simp only[zK,zZ,yk,zT,zR,xn,wG,wO,yc,zC,yt,getElem?_cons_zero,getElem?_cons_succ,set_cons_succ,set_cons_zero,zu,Rs.bind_ok,Fl.of_ok,yb,zO,zP,x6,wX,if_true,Bool.false_eq_true,if_false,e0,e1,hk,hk1,Yl,wx,Jo,h1,decide_false,uR,uL,Yq,decide_eq_true h2,decide_eq_false h3,decide_eq_false h5]
   ·have h4:¬ ((65≤d∧d≤90)∧((97≤c∧c≤122)∨(48≤c∧c≤57))):=fun h=>h2 h.1
    rw[if_neg h1,if_neg h4]
    simp only[zK,zZ,yk,zT,zR,xn,wG,wO,yc,zC,yt,getElem?_cons_zero,getElem?_cons_succ,set_cons_succ,set_cons_zero,zu,Rs.bind_ok,Fl.of_ok,yb,zO,zP,x6,wX,Bool.false_eq_true,if_false,e0,e1,hk,hk1,Yl,wx,Jo,h1,decide_false,uR,decide_eq_false h2]
theorem VD(a:Nat)(x:List Nat)(p:Nat)(hx:x.length≤1000)(hp:p<x.length):yj [ym a,tx x,.int (p:Int)]=.ok (.int (vP a x p)):=by
 have st:zW 4 [ym a,tx x,.int (p:Int)]=[some (.val (ym a)),some (.val (tx x)),some (.val (.int (p:Int))),none]:=rfl
 have hk:=ZQ x p hp hx
 have hb:=zc4 x p hx hp
 unfold yj jP vP
 rw[z0,st]
 simp only[ym] at hk ⊢
 by_cases h:x.getD p 0=a
 ·have h':(x.getD p 0==a)=true:=by simpa using h
  rw[if_pos h]
  simp only[zK,zZ,zT,xn,yc,zC,yt,zE,zt,ya,GC,getElem?_cons_zero,getElem?_cons_succ,set_cons_succ,set_cons_zero,zu,Rs.bind_ok,Fl.of_ok,yb,zO,yI,zP,y7,Gy,if_true,hk,VE,h',hb]
 ·have h':(x.getD p 0==a)=false:=by simpa using h
  rw[if_neg h]
  simp only[zK,zZ,zT,xn,yc,zC,yt,zE,zt,ya,GC,getElem?_cons_zero,getElem?_cons_succ,set_cons_succ,set_cons_zero,zu,Rs.bind_ok,Fl.of_ok,yb,zO,yI,zP,y7,Gy,Bool.false_eq_true,if_false,hk,VE,h',hb]
theorem Ut(p:Nat):yu [.int (p:Int)]=.ok (.int (Ye p)):=by
 have st:zW 1 [.int (p:Int)]=[some (.val (.int (p:Int)))]:=rfl
 unfold yu jd Ye
 rw[z0,st]
 simp only[zT,zC,yt,zE,zt,xg,getElem?_cons_zero,zu,Rs.bind_ok,Fl.of_ok,zO,VG,ZK,QV]
 congr 3
 split <;> split <;> omega
theorem Us(r p:Nat):yC [.int (r:Int),.int (p:Int)]=.ok (.int (vD r p)):=by
 have st:zW 3 [.int (r:Int),.int (p:Int)]=[some (.val (.int (r:Int))),some (.val (.int (p:Int))),none]:=rfl
 unfold yC jc vD
 rw[z0,st]
 by_cases h:(p:Int)-r-1=0
 ·have h':((p:Int)-r-1==0)=true:=by simpa using h
  rw[if_pos h]
  simp only[zK,zZ,yk,zT,zR,xn,yc,zC,yt,getElem?_cons_zero,getElem?_cons_succ,set_cons_succ,set_cons_zero,zu,Rs.bind_ok,Fl.of_ok,yb,vG,zO,zP,x6,wX,if_true,h']
 ·have h':((p:Int)-r-1==0)=false:=by simpa using h
  rw[if_neg h]
  simp only[zK,zZ,yk,zT,zR,xn,yc,zC,yt,zE,zt,xg,getElem?_cons_zero,getElem?_cons_succ,set_cons_succ,set_cons_zero,zu,Rs.bind_ok,Fl.of_ok,yb,zO,zP,x6,wX,Bool.false_eq_true,if_false,h',VG,ZK,QV]
  congr 3
  split <;> split <;> omega
def jX:FS:=(zy (zX 5 (eOp ixD (zd 2) (zd 4)))
  (zy (jV 3 (xP fun i j=>.int (i+j)) (zo yj (za (eOp ixD (zd 0) (zd 4)) (za (zd 1) (za (zd 5) zi)))))
  (sIf (FD.tB (eOp eqD (zd 4) (eC (.int 0)))) (jV 3 (xP fun i j=>.int (i+j)) (zo yu (za (zd 5) zi))) (jV 3 (xP fun i j=>.int (i+j)) (zo yC (za (eOp ixD (zd 2) (eOp wP (zd 4) (eC (.int 1)))) (za (zd 5) zi)))))))
theorem Ga(q x l:List Nat)(hq:q.length≤1000)(hx:x.length≤1000)(ha:∀c∈q,c<128)(h:Lay q x l):yR [tx q,tx x,nts l]=.ok (.bl true):=by
 rw[MS,Jt q x _ hq hx ha]
 exact congrArg (fun b=>Rs.ok (D.bl b)) ((Uv q x l).mpr h)
theorem Mp(q x l:List Nat)(k:Nat)(s4 s5:Option Sl)(hq:q.length≤1000)(hx:x.length≤1000)(h:Lay q x l)(hk:k<l.length) :
  jX [some (.val (tx q)),some (.val (tx x)),some (.val (nts l)),some (.val (.int (pts q x l k))),some (.val (.int (k:Int))),s5]=.nx [some (.val (tx q)),some (.val (tx x)),some (.val (nts l)),some (.val (.int (pts q x l (k+1)))),some (.val (.int (k:Int))),some (.val (.int (l.getD k 0:Nat)))]:=by
 have hl:=h.len
 have hin:=h.inn k hk
 have i1:=VF l k hk
 have i2:=ZQ q k (by omega) hq
 have i3:=VD (q.getD k 0) x (l.getD k 0) hx hin
 unfold jX
 cases k with
 |zero=>
  have i4:=Ut (l.getD 0 0)
  have e2:pts q x l (0+1)=pts q x l 0+vP (q.getD 0 0) x (l.getD 0 0)+Ye (l.getD 0 0):=by
   show pts q x l 0+trm q x l 0=_
   unfold trm
   rw[if_pos rfl];omega
  rw[e2]
  simp only[zK,zZ,yk,xn,yc,zC,yt,zE,zt,ya,getElem?_cons_zero,getElem?_cons_succ,set_cons_succ,set_cons_zero,zu,Rs.bind_ok,Fl.of_ok,yb,yI,zP,x6,wX,if_true,i1,i2,i3,XO,io_i,show((((0:Nat):Int))==0)=true from rfl,i4]
 |succ j=>
  have e0:(((j+1:Nat):Int)==0)=false:=by simp;omega
  have e1:((j+1:Nat):Int)-1=(j:Int):=by omega
  have i5:=VF l j (by omega)
  have i4:=Us (l.getD j 0) (l.getD (j+1) 0)
  have e2:pts q x l (j+1+1)=pts q x l (j+1)+vP (q.getD (j+1) 0) x (l.getD (j+1) 0)+vD (l.getD j 0) (l.getD (j+1) 0):=by
   show pts q x l (j+1)+trm q x l (j+1)=_
   unfold trm
   rw[if_neg (succ_ne_zero j),Nat.add_sub_cancel];omega
  rw[e2]
  simp only[zK,zZ,yk,xn,yc,zC,yt,zE,zt,ya,getElem?_cons_zero,getElem?_cons_succ,set_cons_succ,set_cons_zero,zu,Rs.bind_ok,Fl.of_ok,yb,yI,zP,x6,wX,Bool.false_eq_true,if_false,i1,i2,i3,XO,io_i,e0,e1,i5,i4]
theorem Mq(q x l:List Nat)(hq:q.length≤1000)(hx:x.length≤1000)(h:Lay q x l):∃s4 s5,yB (gNm 4) jX ((List.range l.length).map fun (k:Nat)=>D.int (0+k)) [some (.val (tx q)),some (.val (tx x)),some (.val (nts l)),some (.val (.int 0)),none,none]=.nx [some (.val (tx q)),some (.val (tx x)),some (.val (nts l)),some (.val (.int (pts q x l l.length))),s4,s5]:=by
 obtain⟨τ',h1,s4,s5,h2⟩:=uQ (set:=gNm 4) (body:=jX) (fun (k:Nat)=>D.int (0+k)) (fun k τ=>∃s4 s5,τ=[some (.val (tx q)),some (.val (tx x)),some (.val (nts l)),some (.val (.int (pts q x l k))),s4,s5]) l.length
  [some (.val (tx q)),some (.val (tx x)),some (.val (nts l)),some (.val (.int 0)),none,none] ⟨_,_,rfl⟩ fun k τ hk ⟨s4,s5,e⟩=>by
   subst e
   have:=Mp q x l k s4 s5 hq hx h hk
   have e0:(0:Int)+(k:Int)=(k:Int):=by omega
   exact⟨_,_,by rw[e0];exact vJ,this,_,_,rfl⟩
 subst h2
 exact⟨s4,s5,h1⟩
theorem pt_r1(q x l:List Nat)(hl:l.length≤1000):wn (za (yg yv (za (zd 2) zi)) zi) [some (.val (tx q)),some (.val (tx x)),some (.val (nts l)),some (.val (.int 0)),none,none]=.ok (vW 0 l.length):=by
 have r1:=ZV (fs:=za (yg yv (za (zd 2) zi)) zi) (τ:=[some (.val (tx q)),some (.val (tx x)),some (.val (nts l)),some (.val (.int 0)),none,none]) (j:=l.length) (by simp only[zC,zE,zt,xg,getElem?_cons_zero,getElem?_cons_succ,zu,Rs.bind_ok,vo,length_map]) (by omega) (by omega)
 rwa [toNat_natCast] at r1
theorem pt_b:Yz=(zy (sIf (wf (ve (zo yR (za (zd 0) (za (zd 1) (za (zd 2) zi)))))) sNo zV) (zy (zX 3 (eC (.int 0))) (zy (wj (wn (za (yg yv (za (zd 2) zi)) zi)) (gNm 4) jX) (yA (zd 3))))):=by unfold Yz jX;rfl
theorem Tf(f:List D→Rs D)(bd:FS)(ri:FA)(A B C:D)(n:Nat)(P:Int)(s4 s5:Option Sl)(hly:f [A,B,C]=.ok (.bl true))(r1:ri [some (.val A),some (.val B),some (.val C),some (.val (.int 0)),none,none]=.ok (vW 0 n))(h1:yB (gNm 4) bd (vW 0 n) [some (.val A),some (.val B),some (.val C),some (.val (.int 0)),none,none]=.nx [some (.val A),some (.val B),some (.val C),some (.val (.int P)),s4,s5]) :
  xb 6 (zy (sIf (wf (ve (zo f (za (zd 0) (za (zd 1) (za (zd 2) zi)))))) sNo zV) (zy (zX 3 (eC (.int 0))) (zy (wj ri (gNm 4) bd) (yA (zd 3))))) [A,B,C]=.ok (.int P):=by
 have st:zW 6 [A,B,C]=[some (.val A),some (.val B),some (.val C),none,none,none]:=rfl
 rw[z0,st]
 simp only[zK,zZ,yk,zT,zR,xQ,xH,vy,zC,yt,zE,zt,ya,getElem?_cons_zero,getElem?_cons_succ,set_cons_succ,set_cons_zero,zu,Rs.bind_ok,Fl.of_ok,yb,zO,yI,xG,Bool.false_eq_true,if_false,Bool.not_true,hly,r1,h1]
theorem U8(q x l:List Nat)(hq:q.length≤1000)(hx:x.length≤1000)(ha:∀c∈q,c<128)(h:Lay q x l):vn [tx q,tx x,nts l]=.ok (.int (pts q x l q.length)):=by
 obtain⟨s4,s5,h1⟩:=Mq q x l hq hx h
 have hl:=h.len
 have r1:=pt_r1 q x l (by omega)
 have hly:=Ga q x l hq hx ha h
 unfold vn
 rw[pt_b,← hl]
 exact Tf _ _ _ _ _ _ _ _ _ _ hly r1 h1
end Law
set_option Elab.async false
set_option linter.all false
set_option maxHeartbeats 1000000
namespace FD
open PySem PySem.Spec PyProof.Rows L2
theorem Lq{fs:FA}{τ:DS}{i j:Int}(h:fs τ=.ok [.int i,.int j,.int (-1)])(h1 : -(2 ^ 62)≤i)(h2:i<2 ^ 62)(h3 : -(2 ^ 62)≤j)(h4:j<2 ^ 62):JA fs τ=.ok (Ze i (i-j).toNat):=by
 unfold JA
 rw[h]
 simp only[Rs.bind_ok,WS]
 rw[if_pos ⟨⟨h1,h2⟩,h3,h4⟩]
end FD
namespace Law
open PySem PySem.Spec PyProof.Rows L2 FD
def j8:FS:=(sIf (uV (FD.tB (eOp isD (zd 1) (eC .non))) (FD.tB (eOp gtD (eOp ixD (zd 2) (eC (.int 0))) (eOp ixD (zd 1) (eC (.int 0)))))) (zX 1 (zd 2)) zV)
theorem za6:isD .non .non=.ok (.bl true):=rfl
theorem T4(t:Tl):isD (tlD t) .non=.ok (.bl false):=rfl
theorem Xq:y9 .non .non=.ok (.bl false):=rfl
theorem WP(t:Tl):y9 (tlD t) .non=.ok (.bl true):=rfl
theorem X9(z:D):∀(ts:List Tl) (c:Option Tl) (s:Option Sl),∃s',yB (gNm 2) j8 (ts.map tlD) [some (.val z),some (.val (v4 c)),s]=.nx [some (.val z),some (.val (v4 (wv ts c))),s']
 |[],c,s=>⟨s,rfl⟩
 |t::ts,none,s=>by
  obtain⟨s',ih⟩:=X9 z ts (some t) (some (.val (tlD t)))
  refine⟨s',?_⟩
  have:j8 [some (.val z),some (.val (v4 none)),some (.val (tlD t))]=.nx [some (.val z),some (.val (v4 (some t))),some (.val (tlD t))]:=by
   unfold j8 v4
   simp only[zZ,yk,zR,xn,wO,yc,zC,yt,getElem?_cons_zero,getElem?_cons_succ,set_cons_succ,set_cons_zero,zu,Rs.bind_ok,Fl.of_ok,zP,if_true,za6]
  rw[map_cons,yB,vJ,Fl.of_ok]
  simp only[set_cons_succ,set_cons_zero,this]
  rw[ih]
  rfl
 |t::ts,some c,s=>by
  obtain⟨s',ih⟩:=X9 z ts (some (if c.1<t.1 then t else c)) (some (.val (tlD t)))
  refine⟨s',?_⟩
  have:j8 [some (.val z),some (.val (v4 (some c))),some (.val (tlD t))]=.nx [some (.val z),some (.val (v4 (some (if c.1<t.1 then t else c)))),some (.val (tlD t))]:=by
   unfold j8 v4
   by_cases h:c.1<t.1
   ·rw[if_pos h]
    simp only[zZ,yk,zR,xn,wO,yc,zC,yt,getElem?_cons_zero,getElem?_cons_succ,set_cons_succ,set_cons_zero,zu,Rs.bind_ok,Fl.of_ok,zP,WW,if_true,Bool.false_eq_true,if_false,T4,Vo,h,decide_true]
   ·rw[if_neg h]
    simp only[zZ,yk,zR,xn,wO,yc,zC,yt,getElem?_cons_zero,getElem?_cons_succ,set_cons_succ,set_cons_zero,zu,Rs.bind_ok,Fl.of_ok,zP,WW,Bool.false_eq_true,if_false,T4,Vo,h,decide_false]
  rw[map_cons,yB,vJ,Fl.of_ok]
  simp only[set_cons_succ,set_cons_zero,this]
  rw[ih]
  rfl
theorem La(ts:List Tl):z6 [.lst (ts.map tlD)]=.ok (v4 (wv ts none)):=by
 have st:zW 3 [.lst (ts.map tlD)]=[some (.val (.lst (ts.map tlD))),none,none]:=rfl
 obtain⟨s',h⟩:=X9 (.lst (ts.map tlD)) ts none none
 unfold j8 at h
 unfold z6 uo
 rw[z0,st]
 simp only[v4] at h
 simp only[zK,zZ,zT,xQ,ZI,WN,zC,yt,getElem?_cons_zero,getElem?_cons_succ,set_cons_succ,set_cons_zero,zu,Rs.bind_ok,Fl.of_ok,yb,zO,h]
 rfl
theorem size2:∀a b:D,([a,b]:List D).length≤sizeLine:=fun a b=>by rw[z7];exact Nat.le_of_ble_eq_true rfl
theorem size1:∀a:D,([a]:List D).length≤sizeLine:=fun a=>by rw[z7];exact Nat.le_of_ble_eq_true rfl
theorem Vm{fa fb:FE}{τ:DS}{a b:D}(h1:fa τ=.ok a)(h2:fb τ=.ok b):wF (za fa (za fb zi)) τ=.ok (.tup [a,b]):=by
 rw[UG,zt,h1,Rs.bind_ok,zt,h2,Rs.bind_ok,zE,Rs.bind_ok,Rs.bind_ok,Rs.bind_ok]
 exact if_pos (size2 a b)
theorem Q3{fa:FE}{τ:DS}{a:D}(h1:fa τ=.ok a):vR (za fa zi) τ=.ok (.lst [a]):=by
 rw[ZL,zt,h1,Rs.bind_ok,zE,Rs.bind_ok,Rs.bind_ok]
 exact if_pos (size1 a)
theorem UP{f:List D→Rs D}{fa:FE}{τ:DS}{a d:D}(h1:fa τ=.ok a)(h:f [a]=.ok d):zo f (za fa zi) τ=.ok d:=by
 rw[ya,zt,h1,Rs.bind_ok,zE,Rs.bind_ok,Rs.bind_ok,h];rfl
theorem um{f:List D→Rs D}{fa fb:FE}{τ:DS}{a b d:D}(h1:fa τ=.ok a)(h2:fb τ=.ok b)(h:f [a,b]=.ok d):zo f (za fa (za fb zi)) τ=.ok d:=by
 rw[ya,zt,h1,Rs.bind_ok,zt,h2,Rs.bind_ok,zE,Rs.bind_ok,Rs.bind_ok,Rs.bind_ok,h];rfl
theorem ww{f:List D→Rs D}{fa fb fc:FE}{τ:DS}{a b c d:D}(h1:fa τ=.ok a)(h2:fb τ=.ok b)(h3:fc τ=.ok c)(h:f [a,b,c]=.ok d):zo f (za fa (za fb (za fc zi))) τ=.ok d:=by
 rw[ya,zt,h1,Rs.bind_ok,zt,h2,Rs.bind_ok,zt,h3,Rs.bind_ok,zE,Rs.bind_ok,Rs.bind_ok,Rs.bind_ok,Rs.bind_ok,h];rfl
theorem op2{op:D→D→Rs D}{fa fb:FE}{τ:DS}{a b:D}{r:Rs D}(h1:fa τ=.ok a)(h2:fb τ=.ok b)(h:op a b=r):eOp op fa fb τ=r:=by
 rw[yc,h1,Rs.bind_ok,h2,Rs.bind_ok,h]
theorem zh{n:Nat}{τ:DS}{d:D}(h:τ[n]?=some (some (.val d))):zd n τ=.ok d:=by rw[zC,h];rfl
theorem uc{k:Nat}{idx:List Nat}{fi:FA}{set:FG}{ft:FT}{fe:FE}{τ:DS}{ds xs:List D}(h1:fi τ=.ok ds)(h2:wN set ft fe (vd k idx τ) ds=.ok xs)(h3:xs.length≤1000):we k idx fi set ft fe τ=.ok xs:=by
 unfold we
 rw[h1,Rs.bind_ok,h2]
 exact if_pos (by rw[z7];omega)
theorem tru_ok{fe:FE}{τ:DS}{b:Bool}(h:fe τ=.ok (.bl b)):ve fe τ=.ok b:=by rw[xH,h];rfl
theorem xW{fe:FE}{τ:DS}{b:Bool}(h:fe τ=.ok (.bl b)):FD.tB fe τ=.ok b:=by rw[xn,h];rfl
theorem jh{fa:FE}{τ:DS}{n:Nat}(h:fa τ=.ok (.int (n:Int)))(hn:n≤1000):wn (za fa zi) τ=.ok ((List.range n).map fun (k:Nat)=>D.int (0+k)):=by
 rw[ZV (j:=(n:Int)) (by rw[zt,h,Rs.bind_ok,zE,Rs.bind_ok]) (by omega) (by omega),toNat_natCast];rfl
theorem uq{g:List D→Rs D}{fa:FE}{τ:DS}{a d:D}(h1:fa τ=.ok a)(h:g [a]=.ok d):yg g (za fa zi) τ=.ok d:=by
 rw[xg,zt,h1,Rs.bind_ok,zE,Rs.bind_ok,Rs.bind_ok,h]
theorem YW(a:Nat)(x:List Nat)(ha:a<128)(hx:x.length≤1000):yr [ym a,tx x]=.ok (.lst ((ja a x).map tlD)):=by
 have st:zW 2 [ym a,tx x]=[some (.val (ym a)),some (.val (tx x))]:=rfl
 have cf:=uH (set:=gNm 0) (ft:=(ve (zo xc (za (zd 1) (za (eOp ixD (zd 2) (zd 0)) zi))))) (fe:=(wF (za (zo yj (za (zd 1) (za (zd 2) (za (zd 0) zi)))) (za (vR (za (zd 0) zi)) zi)))) (τ:=[none,some (.val (ym a)),some (.val (tx x))])
  (fun (k:Nat)=>D.int (0+k)) (fun (p:Nat)=>tlD (vP a x p,[p])) (fun p=>xt a (x.getD p 0)) (List.range x.length) fun p hp=>by
   have hp:=mem_range.mp hp
   refine⟨[some (.val (.int (p:Int))),some (.val (ym a)),some (.val (tx x))],by rw[Int.zero_add];rfl,?_,?_⟩
   ·exact tru_ok (um (zh rfl) (op2 (zh rfl) (zh rfl) (ZQ x p hp hx)) (jE a _ ha))
   ·exact Vm (ww (zh rfl) (zh rfl) (zh rfl) (VD a x p hx hp)) (Q3 (zh rfl))
 have hlen:(((List.range x.length).filter fun p=>xt a (x.getD p 0)).map fun (p:Nat)=>tlD (vP a x p,[p])).length≤1000:=by
  rw[length_map]
  have:=List.length_filter_le (fun p=>xt a (x.getD p 0)) (List.range x.length)
  rw[length_range] at this;omega
 have ec:=uc (k:=1) (idx:=[0,1]) (fi:=wn (za (yg yv (za (zd 1) zi)) zi)) (τ:=[some (.val (ym a)),some (.val (tx x))]) (jh (uq (zh rfl) (xh x hx)) hx) cf hlen
 unfold yr vE
 rw[z0,st,zT]
 simp only[ec,Rs.bind_ok,Fl.of_ok,zO]
 unfold ja
 rw[map_map]
 rfl
theorem Js(p:Nat)(ts:List Tl)(hs:ts.length≤1000)(hn:∀t∈ts,0<t.2.length):yQ [.int (p:Int),.lst (ts.map tlD)]=.ok (.lst ((wu p ts).map tlD)):=by
 have st:zW 2 [.int (p:Int),.lst (ts.map tlD)]=[some (.val (.int (p:Int))),some (.val (.lst (ts.map tlD)))]:=rfl
 have cf:=uH (set:=gNm 0) (ft:=(FD.tB (eOp gtD (eOp ixD (eOp ixD (zd 0) (eC (.int 1))) (eC (.int 0))) (zd 1)))) (fe:=(wF (za (eOp zU (eOp ixD (zd 0) (eC (.int 0))) (zo yC (za (zd 1) (za (eOp ixD (eOp ixD (zd 0) (eC (.int 1))) (eC (.int 0))) zi)))) (za (eOp ixD (zd 0) (eC (.int 1))) zi)))) (τ:=[none,some (.val (.int (p:Int)))])
  tlD (fun t=>tlD (t.1+vD p (t.2.getD 0 0),t.2)) (fun t=>decide (p<t.2.getD 0 0)) ts fun t ht=>by
   refine⟨[some (.val (tlD t)),some (.val (.int (p:Int)))],rfl,?_,?_⟩
   ·have:=X4 t.2 (hn t ht)
    refine xW (op2 (op2 (op2 (zh rfl) rfl (Vn t)) rfl this) (zh rfl) ?_)
    rw[WW]
    congr 2
    exact decide_eq_decide.mpr (by omega)
   ·have:=X4 t.2 (hn t ht)
    exact Vm (op2 (op2 (zh rfl) rfl (Vo t)) (um (zh rfl) (op2 (op2 (zh rfl) rfl (Vn t)) rfl this) (Us p _)) (y7)) (op2 (zh rfl) rfl (Vn t))
 have hlen:((ts.filter fun t=>decide (p<t.2.getD 0 0)).map fun t=>tlD (t.1+vD p (t.2.getD 0 0),t.2)).length≤1000:=by
  rw[length_map]
  have:=List.length_filter_le (fun t:Tl=>decide (p<t.2.getD 0 0)) ts
  omega
 have it:wQ (zd 1) [some (.val (.int (p:Int))),some (.val (.lst (ts.map tlD)))]=.ok (ts.map tlD):=rfl
 have ec:=uc (k:=1) (idx:=[0]) (τ:=[some (.val (.int (p:Int))),some (.val (.lst (ts.map tlD)))]) it cf hlen
 unfold yQ uJ
 rw[z0,st,zT]
 simp only[ec,Rs.bind_ok,Fl.of_ok,zO]
 unfold wu
 rw[map_map]
 rfl
def j5:FS:=(sIf (ve (zo xc (za (zd 0) (za (eOp ixD (zd 1) (zd 4)) zi)))) (zy (zX 5 (zo z6 (za (zo yQ (za (zd 4) (za (zd 2) zi))) zi)))
  (sIf (FD.tB (eOp y9 (zd 5) (eC .non))) (YK 3 (wF (za (eOp zU (zo yj (za (zd 0) (za (zd 1) (za (zd 4) zi)))) (eOp ixD (zd 5) (eC (.int 0)))) (za (eOp zU (vR (za (zd 4) zi)) (eOp ixD (zd 5) (eC (.int 1)))) zi)))) zV)) zV)
theorem JJ(p:Nat)(l:List Nat)(h:l.length≤1000):zU (.lst [.int (p:Int)]) (nts l)=.ok (nts (p::l)):=by
 show(if _ then Rs.ok (D.lst _) else Rs.no)=_
 rw[if_pos (by rw[z7,length_map,List.length_singleton];omega)]
 rfl
theorem Q6(p:Nat)(ts:List Tl):∀t,wv (wu p ts) none=some t→∃u∈ts,t.2=u.2:=fun t h=>by
 rcases wD _ _ _ h with g|g
 ·simp only[wu,mem_map,mem_filter] at g
  obtain⟨u,⟨g1,_⟩,rfl⟩:=g
  exact⟨u,g1,rfl⟩
 ·cases g
theorem MZ(a:Nat)(x:List Nat)(ts acc:List Tl)(p:Nat)(s5:Option Sl)(ha:a<128)(hx:x.length≤1000)(hs:ts.length≤1000)(hn:∀t∈ts,0<t.2.length∧t.2.length≤1000)(hp:p<x.length)(hc:acc.length≤1000) :
  ∃s',j5 [some (.val (ym a)),some (.val (tx x)),some (.val (.lst (ts.map tlD))),some (.own (acc.map tlD)),some (.val (.int (p:Int))),s5]=.nx [some (.val (ym a)),some (.val (tx x)),some (.val (.lst (ts.map tlD))),some (.own ((acc++(uC a x ts p).toList).map tlD)),some (.val (.int (p:Int))),s']:=by
 have hm:=jE a (x.getD p 0) ha
 have hlk:=Js p ts hs fun t ht=>(hn t ht).1
 have hfm:=La (wu p ts)
 have how:=VD a x p hx hp
 have hix:=ZQ x p hp hx
 have hsz:(acc.map tlD).length<sizeLine:=by rw[z7,length_map];omega
 unfold j5 uC
 generalize xc=fa at hm ⊢
 generalize yQ=fb at hlk ⊢
 generalize z6=fc at hfm ⊢
 generalize yj=fd at how ⊢
 by_cases h:xt a (x.getD p 0)=true
 ·rw[if_pos h]
  rw[h] at hm
  cases e:wv (wu p ts) none with
  |none=>
   rw[e] at hfm
   refine⟨some (.val .non),?_⟩
   simp only[zK,zZ,yk,zR,vz,xn,xH,yc,zC,yt,zE,zt,ya,getElem?_cons_zero,getElem?_cons_succ,set_cons_succ,set_cons_zero,zu,y4,Rs.bind_ok,Fl.of_ok,yb,yI,zP,xG,if_true,Bool.false_eq_true,if_false,hix,hm,hlk,hfm,v4,Xq,Option.map_none,Option.toList_none,append_nil]
  |some t=>
   rw[e] at hfm
   obtain⟨u,u1,u2⟩:=Q6 p ts t e
   have hct:=JJ p t.2 (by rw[u2];exact(hn u u1).2)
   refine⟨some (.val (tlD t)),?_⟩
   have tp:wF (za (eOp zU (zo fd (za (zd 0) (za (zd 1) (za (zd 4) zi)))) (eOp ixD (zd 5) (eC (.int 0)))) (za (eOp zU (vR (za (zd 4) zi)) (eOp ixD (zd 5) (eC (.int 1)))) zi)) [some (.val (ym a)),some (.val (tx x)),some (.val (.lst (ts.map tlD))),some (.own (acc.map tlD)),some (.val (.int (p:Int))),some (.val (tlD t))]=.ok (tlD (vP a x p+t.1,p::t.2)):=
    Vm (op2 (ww (zh rfl) (zh rfl) (zh rfl) how) (op2 (zh rfl) rfl (Vo t)) y7) (op2 (Q3 (zh rfl)) (op2 (zh rfl) rfl (Vn t)) hct)
   simp only[zK,zZ,yk,zR,vz,xn,xH,yc,zC,yt,zE,zt,ya,getElem?_cons_zero,getElem?_cons_succ,set_cons_succ,set_cons_zero,zu,y4,Rs.bind_ok,Fl.of_ok,yb,yI,zP,xG,if_true,hix,hm,hlk,hfm,v4,WP,tp,hsz,Option.map_some,Option.toList_some,map_append,map_cons,map_nil]
 ·have h':xt a (x.getD p 0)=false:=by simpa using h
  rw[h'] at hm
  rw[if_neg h]
  refine⟨s5,?_⟩
  simp only[zK,zZ,yk,zR,xH,yc,zC,zE,zt,ya,getElem?_cons_zero,getElem?_cons_succ,set_cons_succ,set_cons_zero,zu,Rs.bind_ok,Fl.of_ok,yI,xG,Bool.false_eq_true,if_false,hix,hm,Option.toList_none,append_nil]
theorem Yp(f:Nat→Option Tl)(k:Nat):(List.range (k+1)).filterMap f=(List.range k).filterMap f++(f k).toList:=by
 rw[List.range_succ,List.filterMap_append]
 simp only[List.filterMap_cons,List.filterMap_nil]
 cases h:f k <;> rfl
theorem Xh(f:Nat→Option Tl)(k:Nat):((List.range k).filterMap f).length≤k:=by
 have:=List.length_filterMap_le f (List.range k)
 rwa [length_range] at this
theorem M0(a:Nat)(x:List Nat)(ts:List Tl)(ha:a<128)(hx:x.length≤1000)(hs:ts.length≤1000)(hn:∀t∈ts,0<t.2.length∧t.2.length≤1000) :
  ∃s4 s5,yB (gNm 4) j5 ((List.range x.length).map fun (k:Nat)=>D.int (0+k)) [some (.val (ym a)),some (.val (tx x)),some (.val (.lst (ts.map tlD))),some (.own []),none,none]=.nx [some (.val (ym a)),some (.val (tx x)),some (.val (.lst (ts.map tlD))),some (.own ((jF a x ts).map tlD)),s4,s5]:=by
 obtain⟨τ',h1,s4,s5,h2⟩:=uQ (set:=gNm 4) (body:=j5) (fun (k:Nat)=>D.int (0+k)) (fun k τ=>∃s4 s5,τ=[some (.val (ym a)),some (.val (tx x)),some (.val (.lst (ts.map tlD))),some (.own (((List.range k).filterMap (uC a x ts)).map tlD)),s4,s5]) x.length
  [some (.val (ym a)),some (.val (tx x)),some (.val (.lst (ts.map tlD))),some (.own []),none,none] ⟨_,_,rfl⟩ fun k τ hk ⟨s4,s5,e⟩=>by
   subst e
   obtain⟨s',g⟩:=MZ a x ts ((List.range k).filterMap (uC a x ts)) k s5 ha hx hs hn hk (by have:=Xh (uC a x ts) k;omega)
   have e0:(0:Int)+(k:Int)=(k:Int):=by omega
   rw[Yp]
   exact⟨_,_,by rw[e0];exact vJ,g,_,_,rfl⟩
 subst h2
 exact⟨s4,s5,h1⟩
theorem zb1(bd:FS)(ri:FA)(A B C:D)(n:Nat)(P:List D)(s4 s5:Option Sl)(r1:ri [some (.val A),some (.val B),some (.val C),some (.own []),none,none]=.ok ((List.range n).map fun (k:Nat)=>D.int (0+k)))
  (h1:yB (gNm 4) bd ((List.range n).map fun (k:Nat)=>D.int (0+k)) [some (.val A),some (.val B),some (.val C),some (.own []),none,none]=.nx [some (.val A),some (.val B),some (.val C),some (.own P),s4,s5]) :
  xb 6 (zy (vN 3 (fun τ=>(zi τ).bind fun ds=>if ds.length≤sizeLine then .ok ds else .no)) (zy (wj ri (gNm 4) bd) (uf 3))) [A,B,C]=.ok (.lst P):=by
 have st:zW 6 [A,B,C]=[some (.val A),some (.val B),some (.val C),none,none,none]:=rfl
 rw[z0,st]
 simp only[zK,wK,wL,wM,xQ,zE,getElem?_cons_zero,getElem?_cons_succ,set_cons_succ,set_cons_zero,y4,Rs.bind_ok,Fl.of_ok,yb,zO,if_true,length_nil,zero_le,r1,h1]
theorem Q4:vp=(zy (vN 3 (fun τ=>(zi τ).bind fun ds=>if ds.length≤sizeLine then .ok ds else .no)) (zy (wj (wn (za (yg yv (za (zd 1) zi)) zi)) (gNm 4) j5) (uf 3))):=by unfold vp j5;rfl
theorem Jr(a:Nat)(x:List Nat)(ts:List Tl)(ha:a<128)(hx:x.length≤1000)(hs:ts.length≤1000)(hn:∀t∈ts,0<t.2.length∧t.2.length≤1000):y3 [ym a,tx x,.lst (ts.map tlD)]=.ok (.lst ((jF a x ts).map tlD)):=by
 obtain⟨s4,s5,h1⟩:=M0 a x ts ha hx hs hn
 unfold y3
 rw[Q4]
 exact zb1 _ _ _ _ _ x.length _ _ _ (jh (uq (zh rfl) (xh x hx)) hx) h1
theorem Y3(x:List Nat):∀q:List Nat,(ye q x).length≤x.length
 |[]=>by simp[ye]
 |[a]=>by
  simp only[ye,ja,length_map]
  have:=List.length_filter_le (fun p=>xt a (x.getD p 0)) (List.range x.length)
  rwa [length_range] at this
 |a::b::q=>by simp only[ye,jF];exact Xh _ _
theorem Wl(q x:List Nat)(hq:q≠[])(hl:q.length≤1000):∀t∈ye q x,0<t.2.length∧t.2.length≤1000:=fun t ht=>by
 have:=(vx x q t ht).1.len
 have:0<q.length:=List.length_pos_iff.mpr hq
 omega
def Yw:FS:=(zX 2 (zo y3 (za (eOp ixD (zd 0) (zd 3)) (za (zd 1) (za (zd 2) zi)))))
theorem TC(q x:List Nat)(m:Nat)(hm:q.length=m+1)(hq:q.length≤1000)(hx:x.length≤1000)(ha:∀c∈q,c<128) :
  ∃s,yB (gNm 3) Yw (Ze ((m:Int)-1) m) [some (.val (tx q)),some (.val (tx x)),some (.val (.lst ((ye (q.drop m) x).map tlD))),none]=.nx [some (.val (tx q)),some (.val (tx x)),some (.val (.lst ((ye q x).map tlD))),s]:=by
 obtain⟨τ',h1,s,h2⟩:=uQ (set:=gNm 3) (body:=Yw) (fun (k:Nat)=>D.int ((m:Int)-1-k)) (fun k τ=>∃s,τ=[some (.val (tx q)),some (.val (tx x)),some (.val (.lst ((ye (q.drop (m-k)) x).map tlD))),s]) m
  [some (.val (tx q)),some (.val (tx x)),some (.val (.lst ((ye (q.drop m) x).map tlD))),none] ⟨_,rfl⟩ fun k τ hk ⟨s,e⟩=>by
   subst e
   obtain⟨j,hj⟩:∃j,m=j+1+k:=⟨m-1-k,by omega⟩
   have e0:(m:Int)-1-(k:Int)=(j:Int):=by omega
   have d1:q.drop (m-k)=q.drop (j+1):=by congr 1;omega
   have d2:q.drop (m-(k+1))=q.drop j:=by congr 1;omega
   have hjq:j<q.length:=by omega
   have hne:q.drop (j+1)≠[]:=fun h=>by
    have:=congrArg List.length h
    rw[length_drop] at this;simp at this;omega
   have hlg:=Jr (q.getD j 0) x (ye (q.drop (j+1)) x) (ha _ (mem_of_getElem? (jI q j hjq))) hx (by have:=Y3 x (q.drop (j+1));omega) (Wl _ x hne (by rw[length_drop];omega))
   have ht:jF (q.getD j 0) x (ye (q.drop (j+1)) x)=ye (q.drop j) x:=by
    have e1:q.drop j=q.getD j 0::q.drop (j+1):=by
     rw[drop_eq_getElem_cons hjq,getD_eq_getElem?_getD,getElem?_eq_getElem hjq];rfl
    rw[e1]
    cases e2:q.drop (j+1) with
    |nil=>exact absurd e2 hne
    |cons b r=>rfl
   rw[ht] at hlg
   rw[d1,d2]
   refine⟨[some (.val (tx q)),some (.val (tx x)),some (.val (.lst ((ye (q.drop (j+1)) x).map tlD))),some (.val (.int (j:Int)))],[some (.val (tx q)),some (.val (tx x)),some (.val (.lst ((ye (q.drop j) x).map tlD))),some (.val (.int (j:Int)))],by rw[e0];rfl,?_,_,rfl⟩
   unfold Yw
   rw[zZ,ww (op2 (zh rfl) (zh rfl) (ZQ q j hjq hq)) (zh rfl) (zh rfl) hlg,Fl.of_ok]
   rfl
 subst h2
 refine⟨s,?_⟩
 rw[Nat.sub_self,drop_zero] at h1
 exact h1
def ldE:FE:=(fun τ=>((we 1 [] (wQ (zd 2)) (gNm 0) (fun _=>.ok true) (wF (za (eOp zU (eOp ixD (zd 0) (eC (.int 0))) (zo yu (za (eOp ixD (eOp ixD (zd 0) (eC (.int 1))) (eC (.int 0))) zi))) (za (eOp ixD (zd 0) (eC (.int 1))) zi)))) τ).bind fun ds=>.ok (.lst ds))
theorem ld_ok(A B:D)(ts:List Tl)(s:Option Sl)(hs:ts.length≤1000)(hn:∀t∈ts,0<t.2.length):ldE [some (.val A),some (.val B),some (.val (.lst (ts.map tlD))),s]=.ok (.lst ((ts.map Zh).map tlD)):=by
 have cf:=uG (set:=gNm 0) (fe:=(wF (za (eOp zU (eOp ixD (zd 0) (eC (.int 0))) (zo yu (za (eOp ixD (eOp ixD (zd 0) (eC (.int 1))) (eC (.int 0))) zi))) (za (eOp ixD (zd 0) (eC (.int 1))) zi)))) (τ:=[none]) tlD tlD Zh ts fun t ht=>by
   refine⟨[some (.val (tlD t))],rfl,?_⟩
   have:=X4 t.2 (hn t ht)
   exact Vm (op2 (op2 (zh rfl) rfl (Vo t)) (UP (op2 (op2 (zh rfl) rfl (Vn t)) rfl this) (Ut _)) y7) (op2 (zh rfl) rfl (Vn t))
 have it:wQ (zd 2) [some (.val A),some (.val B),some (.val (.lst (ts.map tlD))),s]=.ok (ts.map tlD):=rfl
 have ec:=uc (k:=1) (idx:=[]) (τ:=[some (.val A),some (.val B),some (.val (.lst (ts.map tlD))),s]) it cf (by simpa using hs)
 unfold ldE
 simp only[ec,Rs.bind_ok]
theorem GQ:VY=(zy (sIf (FD.tB (eOp eqD (yg yv (za (zd 0) zi)) (eC (.int 0)))) (yA (wF (za (eC (.int 0)) (za (vR zi) zi)))) zV)
  (zy (zX 2 (zo yr (za (eOp ixD (zd 0) (wS (eC (.int 1)))) (za (zd 1) zi))))
  (zy (wj (JA (za (eOp wP (yg yv (za (zd 0) zi)) (eC (.int 2))) (za (wS (eC (.int 1))) (za (wS (eC (.int 1))) zi)))) (gNm 3) Yw)
  (yA (zo z6 (za ldE zi)))))):=by unfold VY Yw ldE;rfl
theorem LY(q:List Nat)(m:Nat)(hm:q.length=m+1)(hq:q.length≤1000):ixD (tx q) (.int (-1))=.ok (ym (q.getD m 0)):=by
 refine ZH ?_ (by rw[uB,z7];omega)
 have e:ixN q.length (-1)=some m:=by
  unfold ixN
  rw[if_neg (by omega),if_pos (by omega)]
  congr 1;omega
 unfold atI
 show(ixN q.length (-1)).bind _=_
 rw[e]
 exact jI q m (by omega)
theorem bs_r3(q x:List Nat)(T:D)(m:Nat)(hm:q.length=m+1)(hq:q.length≤1000):JA (za (eOp wP (yg yv (za (zd 0) zi)) (eC (.int 2))) (za (wS (eC (.int 1))) (za (wS (eC (.int 1))) zi))) [some (.val (tx q)),some (.val (tx x)),some (.val T),none]=.ok (Ze ((m:Int)-1) m):=by
 have a1:eOp wP (yg yv (za (zd 0) zi)) (eC (.int 2)) [some (.val (tx q)),some (.val (tx x)),some (.val T),none]=.ok (.int ((m:Int)-1)):=by
  refine op2 (uq (zh rfl) (xh q hq)) rfl ?_
  rw[x6];congr 2;omega
 have a2:∀τ,wS (eC (.int 1)) τ=.ok (.int (-1)):=fun τ=>rfl
 have r3:=Lq (fs:=za (eOp wP (yg yv (za (zd 0) zi)) (eC (.int 2))) (za (wS (eC (.int 1))) (za (wS (eC (.int 1))) zi))) (τ:=[some (.val (tx q)),some (.val (tx x)),some (.val T),none]) (i:=(m:Int)-1) (j:=-1)
  (by rw[zt,a1,Rs.bind_ok,zt,a2,Rs.bind_ok,zt,a2,Rs.bind_ok,zE,Rs.bind_ok,Rs.bind_ok,Rs.bind_ok]) (by omega) (by omega) (by omega) (by omega)
 rw[r3]
 congr 2
 omega
theorem zb2(g1:FT)(g2:FS)(e1 e2:FE)(r3:FA)(bd:FS)(A B T T' R:D)(L:List D)(s:Option Sl)(h0:g1 [some (.val A),some (.val B),none,none]=.ok false)(h1:e1 [some (.val A),some (.val B),none,none]=.ok T)(h2:r3 [some (.val A),some (.val B),some (.val T),none]=.ok L)(h3:yB (gNm 3) bd L [some (.val A),some (.val B),some (.val T),none]=.nx [some (.val A),some (.val B),some (.val T'),s])(h4:e2 [some (.val A),some (.val B),some (.val T'),s]=.ok R) :
  xb 4 (zy (sIf g1 g2 zV) (zy (zX 2 e1) (zy (wj r3 (gNm 3) bd) (yA e2)))) [A,B]=.ok R:=by
 have st:zW 4 [A,B]=[some (.val A),some (.val B),none,none]:=rfl
 rw[z0,st]
 simp only[zK,zZ,yk,zT,zR,xQ,set_cons_succ,set_cons_zero,Fl.of_ok,yb,zO,Bool.false_eq_true,if_false,h0,h1,h2,h3,h4]
theorem TD(q x:List Nat)(hne:q≠[])(hq:q.length≤1000)(hx:x.length≤1000)(ha:∀c∈q,c<128):wB [tx q,tx x]=.ok (v4 (jb q x)):=by
 have hpos:0<q.length:=List.length_pos_iff.mpr hne
 obtain⟨m,hm⟩:∃m,q.length=m+1:=⟨q.length-1,by omega⟩
 obtain⟨s,hl⟩:=TC q x m hm hq hx ha
 have hmem:q.getD m 0∈q:=mem_of_getElem? (jI q m (by omega))
 have d:ye (q.drop m) x=ja (q.getD m 0) x:=by
  have e1:q.drop m=[q.getD m 0]:=by
   rw[drop_eq_getElem_cons (by omega),getD_eq_getElem?_getD,getElem?_eq_getElem (by omega:m<q.length),List.drop_eq_nil_of_le (by omega)];rfl
  rw[e1];rfl
 rw[d] at hl
 have h0:FD.tB (eOp eqD (yg yv (za (zd 0) zi)) (eC (.int 0))) [some (.val (tx q)),some (.val (tx x)),none,none]=.ok false:=by
  refine xW (op2 (uq (zh rfl) (xh q hq)) rfl ?_)
  rw[wX]
  congr 2
  simp;exact hne
 have h1:zo yr (za (eOp ixD (zd 0) (wS (eC (.int 1)))) (za (zd 1) zi)) [some (.val (tx q)),some (.val (tx x)),none,none]=.ok (.lst ((ja (q.getD m 0) x).map tlD)):=
  um (op2 (zh rfl) rfl (LY q m hm hq)) (zh rfl) (YW _ x (ha _ hmem) hx)
 have h4:zo z6 (za ldE zi) [some (.val (tx q)),some (.val (tx x)),some (.val (.lst ((ye q x).map tlD))),s]=.ok (v4 (jb q x)):=
  UP (ld_ok _ _ _ _ (by have:=Y3 x q;omega) fun t ht=>(Wl q x hne hq t ht).1) (La _)
 unfold wB
 rw[GQ]
 exact zb2 _ _ _ _ _ _ _ _ _ _ _ _ _ h0 h1 (bs_r3 q x _ m hm hq) hl h4
def YU:List Nat→List Nat→Bool
 |[],[]=>false
 |[],_::_=>true
 |_::_,[]=>false
 |x::xs,y::ys=>if x=y then YU xs ys else decide (x<y)
theorem Xi:∀l:List Nat,YU l l=false
 |[]=>rfl
 |x::xs=>by simp[YU,Xi xs]
theorem Xj(l m:List Nat)(hl:0<l.length)(hm:0<m.length)(h:m.getD 0 0<l.getD 0 0):YU l m=false:=by
 cases l with
 |nil=>simp at hl
 |cons x xs=>
  cases m with
  |nil=>simp at hm
  |cons y ys=>
   simp only[getD_cons_zero] at h
   simp only[YU]
   rw[if_neg (by omega)]
   exact decide_eq_false (by omega)
theorem uE:∀(ts:List Tl) (c t:Tl),wv ts (some c)=some t→(t=c∧∀u∈ts,u.1≤c.1)∨(∃pre post,ts=pre++t::post∧c.1<t.1∧(∀u∈pre,u.1<t.1)∧∀u∈post,u.1≤t.1)
 |[],c,t,h=>by
  have:some c=some t:=h
  cases this
  exact .inl ⟨rfl,fun u hu=>nomatch hu⟩
 |u::r,c,t,h=>by
  have h:wv r (some (if c.1<u.1 then u else c))=some t:=h
  by_cases g:c.1<u.1
  ·rw[if_pos g] at h
   rcases uE r u t h with ⟨e,h2⟩|⟨pre,post,e,h1,h2,h3⟩
   ·subst e
    exact .inr ⟨[],r,rfl,g,(fun v hv=>nomatch hv),h2⟩
   ·refine .inr ⟨u::pre,post,by rw[e];rfl,by omega,fun v hv=>?_,h3⟩
    rcases mem_cons.mp hv with e|e
    ·subst e;exact h1
    ·exact h2 v e
  ·rw[if_neg g] at h
   rcases uE r c t h with ⟨e,h2⟩|⟨pre,post,e,h1,h2,h3⟩
   ·refine .inl ⟨e,fun v hv=>?_⟩
    rcases mem_cons.mp hv with e|e
    ·subst e;omega
    ·exact h2 v e
   ·refine .inr ⟨u::pre,post,by rw[e];rfl,h1,fun v hv=>?_,h3⟩
    rcases mem_cons.mp hv with e|e
    ·subst e;omega
    ·exact h2 v e
theorem W1(ts:List Tl)(t:Tl)(h:wv ts none=some t):∃pre post,ts=pre++t::post∧(∀u∈pre,u.1<t.1)∧∀u∈post,u.1≤t.1:=by
 cases ts with
 |nil=>cases h
 |cons c r=>
  rcases uE r c t h with ⟨e,h2⟩|⟨pre,post,e,h1,h2,h3⟩
  ·subst e
   exact⟨[],r,rfl,(fun v hv=>nomatch hv),h2⟩
  ·refine⟨c::pre,post,by rw[e];rfl,fun v hv=>?_,h3⟩
   rcases mem_cons.mp hv with e|e
   ·subst e;exact h1
   ·exact h2 v e
abbrev hd0(t:Tl):Nat:=t.2.getD 0 0
def Srt(ts:List Tl):Prop:=ts.Pairwise fun a b=>hd0 a<hd0 b
theorem Wx(ts:List Tl)(w:Tl)(hs:Srt ts)(h:wv ts none=some w):∀u∈ts,u.1≤w.1∧(u.1=w.1→u=w∨hd0 w<hd0 u):=fun u hu=>by
 obtain⟨pre,post,e,h1,h2⟩:=W1 ts w h
 rw[e] at hu
 rcases mem_append.mp hu with g|g
 ·have:=h1 u g
  exact⟨by omega,fun z=>by omega⟩
 ·rcases mem_cons.mp g with g|g
  ·subst g;exact⟨Int.le_refl _,fun _=>.inl rfl⟩
  ·refine⟨h2 u g,fun _=>.inr ?_⟩
   unfold Srt at hs
   rw[e] at hs
   have:=(List.pairwise_append.mp hs).2.1
   exact(pairwise_cons.mp this).1 u g
theorem Qa(p:Nat)(ts:List Tl)(h:Srt ts):Srt (wu p ts):=by
 unfold Srt wu
 rw[pairwise_map]
 exact List.Pairwise.filter _ h
theorem Qb(ts:List Tl)(h:Srt ts):Srt (ts.map Zh):=by
 unfold Srt
 rw[pairwise_map]
 exact h
theorem Y6(x:List Nat):∀q:List Nat,Srt (ye q x)
 |[]=>List.Pairwise.nil
 |[a]=>by
  unfold Srt ye ja
  rw[pairwise_map]
  exact List.Pairwise.filter _ List.pairwise_lt_range
 |a::b::q=>by
  unfold Srt ye jF
  rw[List.pairwise_filterMap]
  refine List.Pairwise.imp (fun {p r} hpr t ht u hu=>?_) List.pairwise_lt_range
  have key:∀(p:Nat) (t:Tl),uC a x (ye (b::q) x) p=some t→hd0 t=p:=fun p t ht=>by
   unfold uC at ht
   split at ht
   ·cases e:wv (wu p (ye (b::q) x)) none with
    |none=>rw[e] at ht;cases ht
    |some w=>rw[e] at ht;cases ht;rfl
   ·cases ht
  rw[key p t ht,key r u hu]
  exact hpr
theorem Y2(x:List Nat):∀(q:List Nat) (t:Tl),t∈ye q x→∀l,Lay q x l→l.getD 0 0=hd0 t→wV x q l≤t.1∧(wV x q l=t.1→YU l t.2=false)
 |[],t,h,_,_,_=>by simp[ye] at h
 |[a],t,h,l,hl,he=>by
  simp only[ye,ja,mem_map,mem_filter,mem_range] at h
  obtain⟨p,⟨h1,h2⟩,rfl⟩:=h
  have hlen:=hl.len
  cases l with
  |nil=>simp at hlen
  |cons r l=>
   cases l with
   |cons _ _=>simp at hlen
   |nil=>
    simp only[hd0,getD_cons_zero] at he
    subst he
    exact⟨by simp[wV,sm],fun _=>Xi _⟩
 |a::b::q,t,h,l,hl,he=>by
  simp only[ye,jF,mem_filterMap,mem_range] at h
  obtain⟨p,h1,h2⟩:=h
  unfold uC at h2
  split at h2
  ·cases e:wv (wu p (ye (b::q) x)) none with
   |none=>rw[e] at h2;cases h2
   |some w=>
    rw[e] at h2
    cases h2
    cases l with
    |nil=>have:=hl.len;simp at this
    |cons p' m=>
     simp only[hd0,getD_cons_zero] at he
     subst he
     obtain⟨k0,k1,k2,k3⟩:=hl.tail
     have hml:0<m.length:=by rw[k0.len];simp
     obtain⟨u,u1,u2⟩:=uK x (b::q) m (by simp) k0
     obtain⟨o1,o2⟩:=Y2 x (b::q) u u1 m k0 u2.symm
     have hin:(u.1+vD p' (u.2.getD 0 0),u.2)∈wu p' (ye (b::q) x):=by
      simp only[wu,mem_map,mem_filter,decide_eq_true_eq]
      exact⟨u,⟨u1,by rw[u2];exact k3 hml⟩,rfl⟩
     obtain⟨c1,c2⟩:=Wx _ w (Qa p' _ (Y6 x (b::q))) e _ hin
     have tl:wV x (a::b::q) (p'::m)=vP a x p'+vD p' (m.getD 0 0)+wV x (b::q) m:=by
      cases m with
      |nil=>simp at hml
      |cons r m=>rw[Y4];rfl
     rw[tl]
     simp only at c1 c2
     rw[u2] at c1 c2
     refine⟨by show _≤vP a x p'+w.1;omega,fun z=>?_⟩
     have z:vP a x p'+vD p' (m.getD 0 0)+wV x (b::q) m=vP a x p'+w.1:=z
     have z1:wV x (b::q) m=u.1:=by omega
     have z2:u.1+vD p' (m.getD 0 0)=w.1:=by omega
     show YU (p'::m) (p'::w.2)=false
     simp only[YU,if_true]
     rcases c2 z2 with g|g
     ·rw[← g];exact o2 z1
     ·have hwl:0<w.2.length:=by
       rcases wD _ _ _ e with y|y
       ·simp only[wu,mem_map,mem_filter] at y
        obtain⟨v,⟨y1,_⟩,rfl⟩:=y
        have:=(vx x (b::q) v y1).1.len
        simp at this ⊢;omega
       ·cases y
      refine Xj m w.2 hml hwl ?_
      have g:hd0 w<u.2.getD 0 0:=g
      rw[u2] at g
      exact g
  ·cases h2
theorem GP(q x:List Nat)(hq:q≠[])(v:Int)(l:List Nat)(h:jb q x=some (v,l))(m:List Nat)(hm:Lay q x m):pts q x m q.length≤v∧(pts q x m q.length=v→YU m l=false):=by
 have hs:=(jr q x hq v l h).1
 unfold jb at h
 obtain⟨u,u1,u2⟩:=uK x q m hq hm
 obtain⟨o1,o2⟩:=Y2 x q u u1 m hm u2.symm
 obtain⟨c1,c2⟩:=Wx _ _ (Qb _ (Y6 x q)) h (Zh u) (mem_map_of_mem u1)
 have hpos:0<q.length:=List.length_pos_iff.mpr hq
 have hml:0<m.length:=by rw[hm.len];exact hpos
 have hll:0<l.length:=by rw[hs.len];exact hpos
 have tp:pts q x m q.length=wV x q m+Ye (m.getD 0 0):=by
  cases q with
  |nil=>simp at hpos
  |cons a q=>
   have e:=hm.len
   cases m with
   |nil=>simp at hml
   |cons p m=>
    simp only[length_cons] at e ⊢
    have:q.length=m.length:=by omega
    rw[this,← Wm];rfl
 simp only[Zh] at c1 c2
 rw[u2] at c1 c2
 rw[tp]
 refine⟨by omega,fun z=>?_⟩
 have z1:wV x q m=u.1:=by omega
 rcases c2 (by omega) with g|g
 ·have:u.2=l:=congrArg Prod.snd g
  rw[← this];exact o2 z1
 ·refine Xj m l hml hll ?_
  have g:l.getD 0 0<u.2.getD 0 0:=g
  rw[u2] at g
  exact g
theorem JO(q x:List Nat)(hq:q≠[])(h:xX q x=false):jb q x=none:=by
 cases e:jb q x with
 |none=>rfl
 |some t=>
  have:=Yf x q t.2 (jr q x hq t.1 t.2 e).1
  rw[h] at this;cases this
def xq(q x:List Nat):Option Tl:=if q=[] then some (0,[]) else jb q x
structure zd1(q x:List Nat)(v:Int)(l:List Nat):Prop where
 lay:Lay q x l
 pnt:v=pts q x l q.length
 opt:∀m,Lay q x m→pts q x m q.length≤v∧(pts q x m q.length=v→YU m l=false)
theorem M4(x l:List Nat)(h:Lay [] x l):l=[]:=List.eq_nil_of_length_eq_zero h.len
theorem Gb(x:List Nat):Lay [] x []:=⟨rfl,fun j hj=>by simp at hj,fun j hj=>by simp at hj,fun j hj=>by simp at hj⟩
theorem Yy(q x l:List Nat)(h:Lay q x l):∃v l',xq q x=some (v,l')∧zd1 q x v l':=by
 unfold xq
 by_cases hq:q=[]
 ·subst hq
  rw[if_pos rfl]
  refine⟨0,[],rfl,Gb x,rfl,fun m hm=>?_⟩
  rw[M4 x m hm]
  exact⟨Int.le_refl _,fun _=>rfl⟩
 ·rw[if_neg hq]
  obtain⟨v,l',e,h1,h2⟩:=JP q x l hq h
  exact⟨v,l',e,h1,h2,GP q x hq v l' e⟩
theorem VX(q x:List Nat)(h:xX q x=false):xq q x=none:=by
 unfold xq
 by_cases hq:q=[]
 ·subst hq;cases x <;> simp[xX] at h
 ·rw[if_neg hq];exact JO q x hq h
end Law
set_option Elab.async false
set_option linter.all false
set_option maxHeartbeats 1000000
namespace FD
open PySem PySem.Spec PyProof.Rows L2
theorem lst_ok{fi:FA}{τ:DS}{ds:List D}(h:fi τ=.ok ds)(hl:ds.length≤2000):Yd fi τ=.ok ds:=by
 unfold Yd
 rw[h,Rs.bind_ok]
 exact if_pos (by omega)
theorem GI{op op':D→D→Rs D}{fa fb fc:FE}{τ:DS}{a b c d:D}(h1:fa τ=.ok a)(h2:fb τ=.ok b)(h3:fc τ=.ok c)(h4:op a b=.ok (.bl true))(h5:op' b c=.ok d):Za op op' fa fb fc τ=.ok d:=by
 unfold Za
 simp only[h1,Rs.bind_ok,h2,h4,if_true,h3,h5]
theorem J3{g:FT}{τ:DS}{b:Bool}(h:g τ=.ok b):wf g τ=.ok (!b):=by rw[vy,h];rfl
theorem Wo{fe:FE}{fl fh:FO}{τ:DS}{d r:D}{l u:Option Int}(h1:fe τ=.ok d)(h2:fl τ=.ok l)(h3:fh τ=.ok u)(h:slD d l u=.ok r):eSl fe fl fh τ=.ok r:=by
 rw[GA,h1,Rs.bind_ok,h2,Rs.bind_ok,h3,Rs.bind_ok,h]
theorem Uj{fe:FE}{τ:DS}{i:Int}(h:fe τ=.ok (.int i)):wm fe τ=.ok (some i):=by rw[Z6,h];rfl
theorem or_tl{f g:FT}{τ:DS}(h1:f τ=.ok true):uV f g τ=.ok true:=by rw[wO,h1,Rs.bind_ok,if_pos rfl]
theorem QJ{f g:FT}{τ:DS}{b:Bool}(h1:f τ=.ok false)(h2:g τ=.ok b):uV f g τ=.ok b:=by rw[wO,h1,Rs.bind_ok,if_neg (by simp),h2]
theorem T0(a b:Bool):neD (.bl a) (.bl b)=.ok (.bl (!(a==b))):=by
 cases a <;> cases b <;> rfl
end FD
namespace Law
open PySem PySem.Spec PyProof.Rows L2 FD
theorem V0(a b:List Nat)(ha:a.length≤1000)(hb:b.length≤1000):zU (tx a) (tx b)=.ok (tx (a++b)):=by
 rw[V1 (by rw[uB,uB,z7];omega),G7]
theorem nilE{τ:DS}:vR zi τ=.ok (.lst []):=by
 rw[ZL,zE,Rs.bind_ok];exact if_pos (zero_le _)
theorem Vf(q x:List Nat)(hq:q.length≤1000)(hx:x.length≤1000)(ha:∀c∈q,c<128):wB [tx q,tx x]=.ok (v4 (xq q x)):=by
 by_cases z:q=[]
 ·subst z
  have st:zW 4 [tx [],tx x]=[some (.val (tx [])),some (.val (tx x)),none,none]:=rfl
  have hl:=xh [] (by simp)
  have hg:FD.tB (eOp eqD (yg yv (za (zd 0) zi)) (eC (.int 0))) [some (.val (tx [])),some (.val (tx x)),none,none]=.ok true:=xW (op2 (uq (zh rfl) hl) rfl rfl)
  have he:wF (za (eC (.int 0)) (za (vR zi) zi)) [some (.val (tx [])),some (.val (tx x)),none,none]=.ok (.tup [.int 0,.lst []]):=Vm rfl nilE
  unfold wB
  rw[GQ,z0,st,zK,yk,hg,Fl.of_ok,if_pos rfl,zT,he]
  rfl
 ·have:=TD q x z hq hx ha
  rw[this]
  unfold xq
  rw[if_neg z]
theorem JC(fc:FA)(g:FT)(fx:FE)(A B C:D)(L:List D)(b:Bool)(d:D)(h1:fc [some (.val A),some (.val B),some (.val C),none]=.ok L)(h2:g [some (.val A),some (.val B),some (.val C),some (.own L)]=.ok b)
  (h3:b=true→fx [some (.val A),some (.val B),some (.val C),some (.own L)]=.ok d∧0<L.length) :
  xb 4 (zy (vN 3 fc) (zy (sIf g (U5 3 (eC (.int 0)) fx) zV) (uf 3))) [A,B,C]=.ok (.lst (if b=true then L.set 0 d else L)):=by
 have st:zW 4 [A,B,C]=[some (.val A),some (.val B),some (.val C),none]:=rfl
 rw[z0,st]
 cases b with
 |false=>simp only[zK,wK,yk,wL,wM,zR,XN,yt,getElem?_cons_zero,getElem?_cons_succ,set_cons_succ,set_cons_zero,y4,Fl.of_ok,yb,zO,Bool.false_eq_true,if_false,h1,h2,wK,wL,wM,y4,Bool.false_eq_true,if_false]
 |true=>
  obtain⟨h3,h4⟩:=h3 rfl
  have hp:=Qq (n:=3) (τ:=[some (.val A),some (.val B),some (.val C),some (.own L)]) (d:=d) (j:=0) h4
  have e0:(((0:Nat):Int))=0:=rfl
  rw[e0] at hp
  simp only[zK,wK,yk,wL,wM,zR,XN,yt,getElem?_cons_zero,getElem?_cons_succ,set_cons_succ,set_cons_zero,y4,Fl.of_ok,yb,zO,if_true,h1,h2,h3,wK,wL,wM,y4,XN,hp]
theorem LZ:ue=(zy (vN 3 (we 1 [0,1] (wn (za (zo zr (za (zd 0) (za (zd 1) (za (eOp zU (zd 2) (eC (.int 1))) zi)))) zi)) (gNm 0) (fun _=>.ok true) (zo xv (za (zd 1) (za (eOp zU (eOp zU (zd 2) (eC (.int 1))) (eOp w6 (eC (.int 12)) (zd 0))) zi)))))
  (zy (sIf (vf (FD.tB (eOp gtD (jO 3) (eC (.int 1)))) (FD.tB (eOp eqD (zo zr (za (zd 0) (za (eOp zU (zd 1) (eC (.int 12))) (za (eC (.int 5)) zi)))) (eC (.int 0))))) (U5 3 (eC (.int 0)) (JE 3 (wS (eC (.int 1))))) zV)
  (uf 3))):=by unfold ue;rfl
def JQ(x:List Nat):Prop:=0<x.length∧x.length≤10∧∀c∈x,c∈NS
theorem QY(ns:List Int)(a:Int)(h0:0≤a):JQ (vC ns a (Xe ns a)):=by
 have d:=wq ns a (m:=10) (by decide)
 have hl:(vC ns a (Xe ns a)).length=(1+xU ns a 10).toNat:=by simp[vC,Xe]
 refine⟨by rw[hl];omega,by rw[hl];omega,fun c hc=>?_⟩
 obtain⟨k,_,rfl⟩:=mem_map.mp hc
 exact Jn ns a k (by omega)
theorem and_b{f g:FT}{τ:DS}{b c:Bool}(h1:f τ=.ok b)(h2:b=true→g τ=.ok c):vf f g τ=.ok (b&&c):=by
 rw[wG,h1,Rs.bind_ok]
 cases b with
 |false=>rfl
 |true=>rw[if_pos rfl,h2 rfl];rfl
theorem QW(ns:List Int)(a most:Int)(h63:ns.length≤63)(h0:0≤a)(ha:a<800000)(hm0:0≤most)(hm1:most<50) :
  ∃X:List (List Nat),xE [.scr ns,.int a,.int most]=.ok (.lst (X.map tx))∧(X.length:Int)≤most∧∀x∈X,JQ x:=by
 have dl:=wq ns a (m:=most+1) (by omega)
 have dk:=wo ns a (most+1) h63 h0 (by omega) (by omega)
 have dk2:=wo ns (a+12) 5 h63 (by omega) (by omega) (by decide)
 generalize hN:xU ns a (most+1)=N at *
 generalize xU ns (a+12) 5=M at *
 have cf:=uG (set:=gNm 0) (fe:=(zo xv (za (zd 1) (za (eOp zU (eOp zU (zd 2) (eC (.int 1))) (eOp w6 (eC (.int 12)) (zd 0))) zi)))) (τ:=[none,some (.val (.scr ns)),some (.val (.int a))]) (fun (k:Nat)=>D.int (0+k)) tx
  (fun k=>vC ns (a+1+12*(k:Int)) (Xe ns (a+1+12*(k:Int)))) (List.range N.toNat) fun k hk=>by
   have hk:=mem_range.mp hk
   refine⟨[some (.val (.int (k:Int))),some (.val (.scr ns)),some (.val (.int a))],by rw[Int.zero_add];rfl,?_⟩
   exact um (zh rfl) (op2 (op2 (zh rfl) rfl y7) (op2 rfl (zh rfl) (vH (by omega))) y7) (MV ns _ h63 (by omega) (by omega))
 have it:wn (za (zo zr (za (zd 0) (za (zd 1) (za (eOp zU (zd 2) (eC (.int 1))) zi)))) zi) [some (.val (.scr ns)),some (.val (.int a)),some (.val (.int most)),none]=.ok ((List.range N.toNat).map fun (k:Nat)=>D.int (0+k)):=
  jh (n:=N.toNat) (by rw[toNat_of_nonneg dl.1];exact ww (zh rfl) (zh rfl) (op2 (zh rfl) rfl y7) dk) (by omega)
 have ec:=uc (k:=1) (idx:=[0,1]) it cf (by simp;omega)
 generalize hX0:(List.range N.toNat).map (fun (k:Nat)=>vC ns (a+1+12*(k:Int)) (Xe ns (a+1+12*(k:Int))))=X0 at ec cf
 have l0:X0.length=N.toNat:=by rw[← hX0];simp
 have ok0:∀x∈X0,JQ x:=fun x hx=>by
  rw[← hX0] at hx
  obtain⟨k,_,rfl⟩:=mem_map.mp hx
  exact QY ns _ (by omega)
 have hg:vf (FD.tB (eOp gtD (jO 3) (eC (.int 1)))) (FD.tB (eOp eqD (zo zr (za (zd 0) (za (eOp zU (zd 1) (eC (.int 12))) (za (eC (.int 5)) zi)))) (eC (.int 0)))) [some (.val (.scr ns)),some (.val (.int a)),some (.val (.int most)),some (.own (X0.map tx))]=.ok (decide (1<(X0.length:Int))&&(M==0)):=
  and_b (xW (op2 (a:=.int (X0.length:Int)) (by rw[jN];show Rs.ok (D.int ((X0.map tx).length:Int))=_;rw[length_map]) rfl WW)) fun _=>xW (op2 (ww (zh rfl) (op2 (zh rfl) rfl y7) rfl dk2) rfl wX)
 have hne:(decide (1<(X0.length:Int))&&(M==0))=true→0<X0.length:=fun h=>by
  rw[Bool.and_eq_true,decide_eq_true_eq] at h;omega
 have e:=JC _ _ (JE 3 (wS (eC (.int 1)))) (.scr ns) (.int a) (.int most) (X0.map tx) _ (tx (X0.getD (X0.length-1) [])) ec hg fun h=>by
  have hp:=hne h
  refine⟨?_,by rw[length_map];exact hp⟩
  rw[Tp]
  show(Rs.ok (X0.map tx)).bind (fun ds=>(wS (eC (.int 1)) _).bind (ixO ds))=_
  rw[Rs.bind_ok,ZK,yt,Rs.bind_ok]
  show(Rs.ok (D.int (-1))).bind _=_
  rw[Rs.bind_ok]
  unfold ixO
  have:atI (X0.map tx) (-1)=some (tx (X0.getD (X0.length-1) [])):=by
   have e:ixN (X0.map tx).length (-1)=some (X0.length-1):=by
    unfold ixN
    rw[length_map,if_neg (by omega),if_pos (by omega)]
    congr 1;omega
   unfold atI
   rw[e]
   show(X0.map tx)[X0.length-1]?=_
   rw[getElem?_map,getElem?_eq_getElem (by omega)]
   simp[show X0.length-1<X0.length by omega]
  simp only[this]
 unfold xE
 rw[LZ,e]
 cases hb:(decide (1<(X0.length:Int))&&(M==0)) with
 |false=>exact⟨X0,by rw[if_neg (by simp)],by omega,ok0⟩
 |true=>
  have hp:=hne hb
  refine⟨X0.set 0 (X0.getD (X0.length-1) []),by rw[if_pos rfl,List.map_set],by rw[length_set];omega,fun x hx=>?_⟩
  rcases List.mem_or_eq_of_mem_set hx with h|h
  ·exact ok0 x h
  ·rw[h]
   have:X0.getD (X0.length-1) []=X0[X0.length-1]'(by omega):=by simp[show X0.length-1<X0.length by omega]
   rw[this]
   exact ok0 _ (getElem_mem _)
theorem WU{α β:Type}(f:α→β)(x:List Int×α):∀l:List (List Int×α),Yk (x.1,f x.2) (l.map fun p=>(p.1,f p.2))=(Yk x l).map fun p=>(p.1,f p.2)
 |[]=>rfl
 |y::r=>by
  rw[map_cons,Yk,Yk]
  split
  ·rfl
  ·rw[WU f x r];rfl
theorem Y8{α β:Type}(f:α→β):∀l:List (List Int×α),wg (l.map fun p=>(p.1,f p.2))=(wg l).map fun p=>(p.1,f p.2)
 |[]=>rfl
 |x::r=>by rw[map_cons,wg,wg,Y8 f r,WU]
def ut{α:Type}(key:α→List Int)(rs:List α):List α:=(wg (rs.map fun r=>(key r,r))).map (·.2)
theorem Mb{α:Type}(key:α→List Int)(f:α→D)(rs:List α):(wg ((rs.map key).zip (rs.map f))).map (·.2)=(ut key rs).map f:=by
 have e:(rs.map key).zip (rs.map f)=(rs.map fun r=>(key r,r)).map fun p=>(p.1,f p.2):=by
  induction rs with
  |nil=>rfl
  |cons r rs ih=>simp only[map_cons,List.zip_cons_cons,ih]
 rw[e,Y8]
 unfold ut
 rw[map_map,map_map];rfl
theorem Vp{α:Type}(key:α→List Int)(rs:List α):(ut key rs).Perm rs:=by
 have:=(vS (rs.map fun r=>(key r,r))).map (·.2)
 rw[map_map] at this
 have e:rs.map ((fun p:List Int×α=>p.2) ∘ fun r=>(key r,r))=rs:=by
  rw[show((fun p:List Int×α=>p.2) ∘ fun r=>(key r,r))=id from rfl,map_id]
 rw[e] at this
 exact this
def kD(k:List Int):D:=.tup (k.map D.int)
theorem Xr:∀k:List Int,Yj (k.map D.int)=some k
 |[]=>rfl
 |i::k=>by
  show(Yj (k.map D.int)).map (i :: ·)=_
  rw[Xr k];rfl
theorem L9(k:List Int):M8 (kD k)=some k:=Xr k
theorem Xn{α:Type}(key:α→List Int):∀rs:List α,Zk (rs.map fun r=>kD (key r))=some (rs.map key)
 |[]=>rfl
 |r::rs=>by rw[map_cons,Zk,L9,Xn key rs];rfl
theorem Vt{α:Type}(key:α→List Int)(f:α→D)(rs:List α)(h64:rs.length<64)(nd:(rs.map key).Nodup)(ne:∀r,key r≠[]):jT (rs.map fun r=>kD (key r)) (rs.map f)=.ok (.lst ((ut key rs).map f)):=by
 unfold jT
 rw[Xn]
 simp only
 rw[if_pos ⟨by simpa using h64,nd,fun k hk=>by obtain⟨r,_,rfl⟩:=mem_map.mp hk;exact ne r⟩,Mb]
theorem Zi{α:Type}{idx:List Nat}{fb:FE}{τ:DS}(key:α→List Int)(f:α→D):∀rs:List α,(∀r∈rs,Jv idx fb τ (f r)=.ok (kD (key r)))→va idx fb τ (rs.map f)=.ok (rs.map fun r=>kD (key r))
 |[],_=>rfl
 |r::rs,h=>by
  rw[map_cons,va,h r mem_cons_self]
  simp only[Zi key f rs fun s hs=>h s (mem_cons_of_mem _ hs),map_cons]
theorem VQ{α:Type}{idx:List Nat}{fe fb:FE}{τ:DS}(key:α→List Int)(f:α→D)(rs:List α)(h:fe τ=.ok (.lst (rs.map f)))(hk:∀r∈rs,Jv idx fb τ (f r)=.ok (kD (key r)))(h64:rs.length<64)(nd:(rs.map key).Nodup)(ne:∀r,key r≠[]) :
  Yt idx fe fb τ=.ok (.lst ((ut key rs).map f)):=by
 unfold Yt
 rw[h,Rs.bind_ok]
 simp only[Zi key f rs hk]
 exact Vt key f rs h64 nd ne
abbrev Rw:=Int×Nat
def xl(r:Rw):D:=.tup [.int r.1,.int (r.2:Int)]
theorem row_0(r:Rw):ixD (xl r) (.int 0)=.ok (.int r.1):=rfl
theorem TV(r:Rw):ixD (xl r) (.int 1)=.ok (.int (r.2:Int)):=rfl
theorem Xd{key:Rw→List Int}(hk:∀r s,key r=key s→r.2=s.2):∀rs:List Rw,(rs.map (·.2)).Nodup→(rs.map key).Nodup
 |[],_=>List.nodup_nil
 |r::rs,h=>by
  rw[map_cons,nodup_cons] at h ⊢
  refine⟨fun hm=>h.1 ?_,Xd hk rs h.2⟩
  obtain⟨s,hs,e⟩:=mem_map.mp hm
  exact mem_map.mpr ⟨s,hs,hk s r e⟩
def Yg(X:List (List Nat))(r:Rw):List Int:=[-r.1,((X.getD r.2 []).length:Int),(r.2:Int)]
theorem Gi(X:List (List Nat))(r s:Rw)(h:Yg X r=Yg X s):r.2=s.2:=by
 unfold Yg at h
 injection h with h1 h2
 injection h2 with h2 h3
 injection h3 with h3 _
 omega
theorem W8{α:Type}(f:α→D):∀(X:List α) (k:Nat),xu k (X.map f)=(X.zipIdx k).map fun p=>D.tup [.int (p.2:Int),f p.1]
 |[],_=>rfl
 |x::X,k=>by rw[map_cons,xu,zipIdx_cons,map_cons,W8 f X (k+1)]
theorem size3:∀a b c:D,([a,b,c]:List D).length≤sizeLine:=fun a b c=>by rw[z7];exact Nat.le_of_ble_eq_true rfl
theorem tup3{fa fb fc:FE}{τ:DS}{a b c:D}(h1:fa τ=.ok a)(h2:fb τ=.ok b)(h3:fc τ=.ok c):wF (za fa (za fb (za fc zi))) τ=.ok (.tup [a,b,c]):=by
 rw[UG,zt,h1,Rs.bind_ok,zt,h2,Rs.bind_ok,zt,h3,Rs.bind_ok,zE,Rs.bind_ok,Rs.bind_ok,Rs.bind_ok,Rs.bind_ok]
 exact if_pos (size3 a b c)
theorem LX{fa:FE}{τ:DS}{i:Int}(h:fa τ=.ok (.int i)):wS fa τ=.ok (.int (-i)):=by rw[ZK,h];rfl
theorem Z7(X:List (List Nat))(i:Nat)(h:i<X.length):ixD (.lst (X.map tx)) (.int (i:Int))=.ok (tx (X.getD i [])):=by
 refine Ux (UR ?_)
 rw[getElem?_map,getElem?_eq_getElem h]
 simp[h]
theorem G5(ds:List D)(n:Nat):slD (.lst ds) none (some (n:Int))=.ok (.lst (ds.take n)):=by
 have:FD.cutD ds none (some (n:Int))=ds.take n:=by
  have e0:HT.sIx ds.length 0 none=0:=rfl
  have e1:HT.sIx ds.length ds.length (some (n:Int))=min n ds.length:=by
   unfold HT.sIx
   have:¬ ((n:Int)<0):=by omega
   simp[this]
  unfold FD.cutD
  rw[e0,e1,drop_zero,Nat.sub_zero]
  rcases Nat.le_total n ds.length with z|z
  ·rw[Nat.min_eq_left z]
  ·rw[Nat.min_eq_right z,List.take_length,List.take_of_length_le z]
 show Rs.ok (D.lst (FD.cutD ds none (some (n:Int))))=_
 rw[this]
theorem ML:jt=(yA (Yt [0] (zd 1) (wF (za (wS (eOp ixD (zd 0) (eC (.int 0)))) (za (yg yv (za (eOp ixD (zd 1) (eOp ixD (zd 0) (eC (.int 1)))) zi)) (za (eOp ixD (zd 0) (eC (.int 1))) zi)))))):=by unfold jt;rfl
structure TR(X:List (List Nat))(rs:List Rw):Prop where
 few:rs.length<64
 nd:(rs.map (·.2)).Nodup
 lt:∀r∈rs,r.2<X.length
 sz:∀x∈X,x.length≤1000
theorem getD_mem{X:List (List Nat)}{i:Nat}(h:i<X.length):X.getD i []∈X:=by
 have:X.getD i []=X[i]:=by simp[h]
 rw[this];exact getElem_mem _
theorem QI(X:List (List Nat))(rs:List Rw)(h:TR X rs):xN [.lst (X.map tx),.lst (rs.map xl)]=.ok (.lst ((ut (Yg X) rs).map xl)):=by
 have st:zW 2 [.lst (X.map tx),.lst (rs.map xl)]=[some (.val (.lst (X.map tx))),some (.val (.lst (rs.map xl)))]:=rfl
 unfold xN
 rw[ML,z0,st,zT,VQ (Yg X) xl rs (zh rfl) (fun r hr=>?_) h.few (Xd (Gi X) rs h.nd) (fun r z=>nomatch z)]
 ·rfl
 ·have hlt:=h.lt r hr
  have hsz:=h.sz _ (getD_mem hlt)
  have:wF (za (wS (eOp ixD (zd 0) (eC (.int 0)))) (za (yg yv (za (eOp ixD (zd 1) (eOp ixD (zd 0) (eC (.int 1)))) zi)) (za (eOp ixD (zd 0) (eC (.int 1))) zi))) [some (.val (xl r)),some (.val (.lst (X.map tx)))]=.ok (kD (Yg X r)):=tup3 (LX (op2 (zh rfl) rfl (row_0 r))) (uq (op2 (zh rfl) (op2 (zh rfl) rfl (TV r)) (Z7 X r.2 hlt)) (xh _ hsz)) (op2 (zh rfl) rfl (TV r))
  exact this
theorem L0(i j:Int):Z9 [.int i,.int j]=.ok (.int (if i<j then j else i)):=rfl
theorem Ti:ud=(yA (eSl (zo xN (za (zd 0) (za (zd 1) zi))) uk (wm (yg Z9 (za (zd 2) (za (eC (.int 0)) zi)))))):=by unfold ud;rfl
theorem blt2{g:List D→Rs D}{fa fb:FE}{τ:DS}{a b d:D}(h1:fa τ=.ok a)(h2:fb τ=.ok b)(h:g [a,b]=.ok d):yg g (za fa (za fb zi)) τ=.ok d:=by
 rw[xg,zt,h1,Rs.bind_ok,zt,h2,Rs.bind_ok,zE,Rs.bind_ok,Rs.bind_ok,Rs.bind_ok,h]
theorem LN{fa:FE}{τ:DS}{i:Int}(h:fa τ=.ok (.int i)):wm fa τ=.ok (some i):=by rw[Z6,h];rfl
theorem W5(X:List (List Nat))(rs:List Rw)(many:Nat)(h:TR X rs):yJ [.lst (X.map tx),.lst (rs.map xl),.int (many:Int)]=.ok (.lst (((ut (Yg X) rs).take many).map xl)):=by
 have st:zW 3 [.lst (X.map tx),.lst (rs.map xl),.int (many:Int)]=[some (.val (.lst (X.map tx))),some (.val (.lst (rs.map xl))),some (.val (.int (many:Int)))]:=rfl
 have hm:Z9 [.int (many:Int),.int 0]=.ok (.int (many:Int)):=by
  rw[L0];rw[if_neg (by omega)]
 have e:eSl (zo xN (za (zd 0) (za (zd 1) zi))) uk (wm (yg Z9 (za (zd 2) (za (eC (.int 0)) zi)))) [some (.val (.lst (X.map tx))),some (.val (.lst (rs.map xl))),some (.val (.int (many:Int)))]=.ok (.lst (((ut (Yg X) rs).take many).map xl)):=
  Wo (um (zh rfl) (zh rfl) (QI X rs h)) rfl (LN (blt2 (zh rfl) rfl hm)) (by rw[G5,List.map_take])
 unfold yJ
 rw[Ti,z0,st,zT,e];rfl
def fr1(X:List (List Nat))(q:List Nat)(i:Nat):Option Rw:=(xq q (X.getD i [])).map fun t=>(t.1,i)
def jJ:FS:=(zy (zX 5 (zo wB (za (zd 1) (za (eOp ixD (zd 0) (zd 4)) zi))))
  (sIf (FD.tB (eOp y9 (zd 5) (eC .non))) (YK 3 (wF (za (eOp ixD (zd 5) (eC (.int 0))) (za (zd 4) zi)))) zV))
theorem fit_b:vq=(zy (vN 3 (fun τ=>(zi τ).bind fun ds=>if ds.length≤sizeLine then .ok ds else .no)) (zy (wj (wQ (zd 2)) (gNm 4) jJ) (uf 3))):=by unfold vq jJ;rfl
theorem Gq(e e2:FE)(a0 a1 a2 a3 a4 a5:Option Sl)(h:e [a0,a1,a2,a3,a4,a5]=.ok .non) :
  (zy (zX 5 e) (sIf (FD.tB (eOp y9 (zd 5) (eC .non))) (YK 3 e2) zV)) [a0,a1,a2,a3,a4,a5]=.nx [a0,a1,a2,a3,a4,some (.val .non)]:=by
 simp only[zK,zZ,yk,zR,vz,xn,yc,zC,yt,getElem?_cons_zero,getElem?_cons_succ,set_cons_succ,set_cons_zero,zu,Rs.bind_ok,Fl.of_ok,yb,zP,Bool.false_eq_true,if_false,h,Xq]
theorem Gp(e e2:FE)(a0 a1 a2 a4 a5:Option Sl)(L:List D)(t:Tl)(R:D)(h:e [a0,a1,a2,some (.own L),a4,a5]=.ok (tlD t))(h2:e2 [a0,a1,a2,some (.own L),a4,some (.val (tlD t))]=.ok R)(hl:L.length<sizeLine) :
  (zy (zX 5 e) (sIf (FD.tB (eOp y9 (zd 5) (eC .non))) (YK 3 e2) zV)) [a0,a1,a2,some (.own L),a4,a5]=.nx [a0,a1,a2,some (.own (L++[R])),a4,some (.val (tlD t))]:=by
 simp only[zK,zZ,yk,zR,vz,xn,yc,zC,yt,getElem?_cons_zero,getElem?_cons_succ,set_cons_succ,set_cons_zero,zu,y4,Rs.bind_ok,Fl.of_ok,yb,zP,if_true,h,WP,h2,vz,y4]
 rw[if_pos hl]
theorem Gv(X:List (List Nat))(q:List Nat)(i:Nat)(a2 a5:Option Sl)(acc:List Rw)(hi:i<X.length)(hq:q.length≤1000)(hX:∀x∈X,x.length≤1000)(ha:∀c∈q,c<128)(hc:acc.length≤1000) :
  ∃t5,jJ [some (.val (.lst (X.map tx))),some (.val (tx q)),a2,some (.own (acc.map xl)),some (.val (.int (i:Int))),a5]=.nx [some (.val (.lst (X.map tx))),some (.val (tx q)),a2,some (.own ((acc++(fr1 X q i).toList).map xl)),some (.val (.int (i:Int))),t5]:=by
 have hb:=Vf q (X.getD i []) hq (hX _ (getD_mem hi)) ha
 have he:zo wB (za (zd 1) (za (eOp ixD (zd 0) (zd 4)) zi)) [some (.val (.lst (X.map tx))),some (.val (tx q)),a2,some (.own (acc.map xl)),some (.val (.int (i:Int))),a5]=.ok (v4 (xq q (X.getD i []))):=
  um (zh rfl) (op2 (zh rfl) (zh rfl) (Z7 X i hi)) hb
 unfold jJ fr1
 cases z:xq q (X.getD i []) with
 |none=>
  rw[z] at he
  exact⟨some (.val .non),(Gq _ _ _ _ _ _ _ _ he).trans (by simp)⟩
 |some t=>
  rw[z] at he
  have h2:wF (za (eOp ixD (zd 5) (eC (.int 0))) (za (zd 4) zi)) [some (.val (.lst (X.map tx))),some (.val (tx q)),a2,some (.own (acc.map xl)),some (.val (.int (i:Int))),some (.val (tlD t))]=.ok (xl (t.1,i)):=Vm (op2 (zh rfl) rfl (Vo t)) (zh rfl)
  exact⟨some (.val (tlD t)),(Gp _ _ _ _ _ _ _ _ t _ he h2 (by rw[z7,length_map];omega)).trans (by simp)⟩
def W4(X:List (List Nat))(q:List Nat)(is:List Nat):List Rw:=is.flatMap fun i=>(fr1 X q i).toList
theorem W3(X:List (List Nat))(q:List Nat)(a2:Option Sl)(hq:q.length≤1000)(hX:∀x∈X,x.length≤1000)(ha:∀c∈q,c<128):∀(is:List Nat) (acc:List Rw) (a4 a5:Option Sl),(∀i∈is,i<X.length)→acc.length+is.length≤1000 →
  ∃t4 t5,yB (gNm 4) jJ (is.map fun (i:Nat)=>D.int i) [some (.val (.lst (X.map tx))),some (.val (tx q)),a2,some (.own (acc.map xl)),a4,a5]=.nx [some (.val (.lst (X.map tx))),some (.val (tx q)),a2,some (.own ((acc++W4 X q is).map xl)),t4,t5]
 |[],acc,a4,a5,_,_=>⟨a4,a5,by unfold W4;simp[yB]⟩
 |i::is,acc,a4,a5,hi,hc=>by
  rw[length_cons] at hc
  obtain⟨t5,e⟩:=Gv X q i a2 a5 acc (hi i mem_cons_self) hq hX ha (by omega)
  have hl:(acc++(fr1 X q i).toList).length+is.length≤1000:=by
   rw[length_append]
   have:(fr1 X q i).toList.length≤1:=by cases fr1 X q i <;> simp
   omega
  obtain⟨u4,u5,ih⟩:=W3 X q a2 hq hX ha is (acc++(fr1 X q i).toList) (some (.val (.int (i:Int)))) t5 (fun j hj=>hi j (mem_cons_of_mem _ hj)) hl
  refine⟨u4,u5,?_⟩
  rw[map_cons,yB,vJ,Fl.of_ok]
  simp only[set_cons_succ,set_cons_zero,e]
  rw[ih]
  unfold W4
  rw[List.flatMap_cons,append_assoc]
theorem nilO(τ:DS):(fun τ=>(zi τ).bind fun ds=>if ds.length≤sizeLine then Rs.ok ds else Rs.no) τ=.ok []:=by
 show(if ([]:List D).length≤sizeLine then Rs.ok [] else Rs.no)=_
 exact if_pos (zero_le sizeLine)
theorem Go(e:FA)(b:FS)(A B C:D)(L R:List D)(t4 t5:Option Sl)(h0:e [some (.val A),some (.val B),some (.val C),none,none,none]=.ok [])(hi:Uz C=.ok L)
  (h1:yB (gNm 4) b L [some (.val A),some (.val B),some (.val C),some (.own []),none,none]=.nx [some (.val A),some (.val B),some (.val C),some (.own R),t4,t5]) :
  xb 6 (zy (vN 3 e) (zy (wj (wQ (zd 2)) (gNm 4) b) (uf 3))) [A,B,C]=.ok (.lst R):=by
 have st:zW 6 [A,B,C]=[some (.val A),some (.val B),some (.val C),none,none,none]:=rfl
 rw[z0,st]
 simp only[zK,wK,wL,wM,xQ,ZI,zC,getElem?_cons_zero,getElem?_cons_succ,set_cons_succ,set_cons_zero,zu,y4,Rs.bind_ok,Fl.of_ok,yb,zO,h0,hi,h1,wK,wL,wM,y4]
theorem Th(X:List (List Nat))(q:List Nat)(is:List Nat)(hq:q.length≤1000)(hX:∀x∈X,x.length≤1000)(ha:∀c∈q,c<128)(hi:∀i∈is,i<X.length)(hl:is.length≤1000) :
  yS [.lst (X.map tx),tx q,.lst (is.map fun (i:Nat)=>D.int i)]=.ok (.lst ((W4 X q is).map xl)):=by
 obtain⟨t4,t5,h⟩:=W3 X q (some (.val (.lst (is.map fun (i:Nat)=>D.int i)))) hq hX ha is [] none none hi (by simpa using hl)
 unfold yS
 rw[fit_b]
 exact Go _ _ _ _ _ _ _ _ _ (nilO _) rfl (by simpa using h)
theorem Xv:∀rs:List Rw,plainDs (rs.map xl)=true∧PyData.canLayAll0 (toPys (rs.map xl))=true∧PyData.depthAll (toPys (rs.map xl))≤1
 |[]=>⟨rfl,rfl,zero_le _⟩
 |r::rs=>by
  obtain⟨h1,h2,h3⟩:=Xv rs
  refine⟨by simp[plainDs,vi,xl,h1],by simp[toPys,vw,xl,PyData.canLayAll0,PyData.canLay0,h2],?_⟩
  simp only[map_cons,toPys,vw,xl,PyData.depthAll,PyData.depth]
  omega
theorem W6:∀rs:List Rw,PyData.eqvAll (toPys (rs.map xl)) (toPys (rs.map xl))=true
 |[]=>by rfl
 |r::rs=>by
  have:=W6 rs
  simp[toPys,vw,xl,PyData.eqvAll,PyData.eqv,this]
def abcN:List Nat:=[97,98,99]
theorem abc_s:("abc" : Str)=⟨abcN.toArray⟩:=by decide +kernel
theorem zc7:JQ abcN:=⟨by decide,by decide,by decide⟩
theorem Tz(X:List (List Nat))(h:X.length≤1000):zU (.lst (X.map tx)) (.lst [.str "abc"])=.ok (.lst ((X++[abcN]).map tx)):=by
 show(if _ then Rs.ok (D.lst _) else Rs.no)=_
 rw[if_pos (by rw[z7,length_map,List.length_singleton];omega),map_append,abc_s]
 rfl
def qE(a b m:Int):FE:=(zo xD (za (zd 0) (za (eC (.int a)) (za (eOp ixD (eOp zU (zd 1) (vR (za (eC (.str "abc")) zi))) (zo zr (za (zd 0) (za (eC (.int b)) (za (eOp zU (yg yv (za (zd 1) zi)) (eC (.int 1))) zi))))) (za (eC (.int m)) zi)))))
theorem VV{f:List D→Rs D}{fa fb fc fd:FE}{τ:DS}{a b c d r:D}(h1:fa τ=.ok a)(h2:fb τ=.ok b)(h3:fc τ=.ok c)(h4:fd τ=.ok d)(h:f [a,b,c,d]=.ok r):zo f (za fa (za fb (za fc (za fd zi)))) τ=.ok r:=by
 rw[ya,zt,h1,Rs.bind_ok,zt,h2,Rs.bind_ok,zt,h3,Rs.bind_ok,zt,h4,Rs.bind_ok,zE,Rs.bind_ok,Rs.bind_ok,Rs.bind_ok,Rs.bind_ok,Rs.bind_ok,h];rfl
theorem qE_ok(ns:List Int)(X:List (List Nat))(a b m:Int)(h63:ns.length≤63)(ha0:0≤a)(ha:a<900000)(hb0:0≤b)(hb:b<900000)(hm0:0≤m)(hm:m<50)(hX:∀x∈X,JQ x)(hl:X.length≤1000)(r:DS) :
  ∃q:List Nat,(q.length:Int)≤m∧(∀c∈q,c∈QS)∧qE a b m (some (.val (.scr ns))::some (.val (.lst (X.map tx)))::r)=.ok (tx q):=by
 have dl:=wq ns b (m:=(X.length:Int)+1) (by omega)
 have dk:=wo ns b ((X.length:Int)+1) h63 hb0 (by omega) (by omega)
 generalize xU ns b ((X.length:Int)+1)=M at dl dk
 have hi:M.toNat<(X++[abcN]).length:=by rw[length_append,List.length_singleton];omega
 have hm':(X++[abcN]).getD M.toNat []∈X++[abcN]:=getD_mem hi
 have hn:JQ ((X++[abcN]).getD M.toNat []):=by
  rcases mem_append.mp hm' with z|z
  ·exact hX _ z
  ·have:(X++[abcN]).getD M.toNat []=abcN:=by simpa using z
   rw[this];exact zc7
 obtain⟨q,q1,q2,q3⟩:=Qo ns a ((X++[abcN]).getD M.toNat []) m h63 ha0 ha hm0 hm hn.1 (le_trans hn.2.1 (by decide)) hn.2.2
 refine⟨q,q1,q2,?_⟩
 have ix:=Z7 (X++[abcN]) M.toNat hi
 rw[toNat_of_nonneg dl.1] at ix
 unfold qE
 exact VV (zh rfl) rfl (op2 (op2 (zh rfl) (Q3 rfl) (Tz X hl)) (ww (zh rfl) rfl (op2 (uq (zh rfl) vo) rfl (by rw[length_map];exact y7)) dk) ix) rfl q3
def Ve(X:List (List Nat))(q:List Nat):List Rw:=W4 X q (List.range X.length)
theorem Vd(X:List (List Nat))(q:List Nat):∀is:List Nat,((W4 X q is).map (·.2)).Sublist is
 |[]=>List.Sublist.refl _
 |i::is=>by
  have ih:=Vd X q is
  unfold W4 at ih ⊢
  rw[List.flatMap_cons,map_append]
  unfold fr1 at ih ⊢
  cases z:xq q (X.getD i []) with
  |none=>simp;exact List.Sublist.cons _ (by simpa using ih)
  |some t=>simp;exact(by simpa using ih)
theorem TL(X:List (List Nat))(q:List Nat)(hX:∀x∈X,x.length≤1000)(hl:X.length<64):TR X (Ve X q):=by
 have s:=Vd X q (List.range X.length)
 refine⟨?_,s.nodup List.nodup_range,fun r hr=>?_,hX⟩
 ·have:=s.length_le
  rw[length_map,length_range] at this
  unfold Ve;omega
 ·have:=s.mem (mem_map.mpr ⟨r,hr,rfl⟩)
  simpa using this
theorem XR(n:Nat):((List.range n).map fun (k:Nat)=>D.int (0+k))=(List.range n).map fun (i:Nat)=>D.int i:=List.map_congr_left fun k _=>by rw[Int.zero_add]
theorem all_b:ju=(yA (zo yS (za (zd 0) (za (zd 1) (za (fun τ=>((Yd (wn (za (yg yv (za (zd 0) zi)) zi))) τ).bind fun ds=>.ok (.lst ds)) zi))))):=by unfold ju;rfl
theorem zc6(X:List (List Nat))(q:List Nat)(hq:q.length≤1000)(hX:∀x∈X,x.length≤1000)(ha:∀c∈q,c<128)(hl:X.length<64):xO [.lst (X.map tx),tx q]=.ok (.lst ((Ve X q).map xl)):=by
 have st:zW 2 [.lst (X.map tx),tx q]=[some (.val (.lst (X.map tx))),some (.val (tx q))]:=rfl
 have r1:wn (za (yg yv (za (zd 0) zi)) zi) [some (.val (.lst (X.map tx))),some (.val (tx q))]=.ok ((List.range X.length).map fun (i:Nat)=>D.int i):=by
  rw[← XR]
  exact jh (uq (zh rfl) (by rw[vo,length_map])) (by omega)
 have e:zo yS (za (zd 0) (za (zd 1) (za (fun τ=>((Yd (wn (za (yg yv (za (zd 0) zi)) zi))) τ).bind fun ds=>.ok (.lst ds)) zi))) [some (.val (.lst (X.map tx))),some (.val (tx q))]=.ok (.lst ((Ve X q).map xl)):=by
  refine ww (zh rfl) (zh rfl) ?_ (Th X q (List.range X.length) hq hX ha (fun i hi=>mem_range.mp hi) (by rw[length_range];omega))
  unfold Yd
  rw[r1,Rs.bind_ok,if_pos (by rw[length_map,length_range];omega)];rfl
 unfold xO
 rw[all_b,z0,st,zT,e];rfl
theorem Tj:Wc=(yA (zo yJ (za (zd 0) (za (zo xO (za (zd 0) (za (zd 1) zi))) (za (zd 2) zi))))):=by unfold Wc;rfl
theorem Gw(X:List (List Nat))(q:List Nat)(many:Nat)(hq:q.length≤1000)(hX:∀x∈X,x.length≤1000)(ha:∀c∈q,c<128)(hl:X.length<64):v9 [.lst (X.map tx),tx q,.int (many:Int)]=.ok (.lst (((ut (Yg X) (Ve X q)).take many).map xl)):=by
 have st:zW 3 [.lst (X.map tx),tx q,.int (many:Int)]=[some (.val (.lst (X.map tx))),some (.val (tx q)),some (.val (.int (many:Int)))]:=rfl
 have e:zo yJ (za (zd 0) (za (zo xO (za (zd 0) (za (zd 1) zi))) (za (zd 2) zi))) [some (.val (.lst (X.map tx))),some (.val (tx q)),some (.val (.int (many:Int)))]=.ok (.lst (((ut (Yg X) (Ve X q)).take many).map xl)):=
  ww (zh rfl) (um (zh rfl) (zh rfl) (zc6 X q hq hX ha hl)) (zh rfl) (W5 X _ many (TL X q hX hl))
 unfold v9
 rw[Tj,z0,st,zT,e];rfl
theorem MU(rs:List Rw):neD (.lst (rs.map xl)) (.lst (rs.map xl))=.ok (.bl false):=by
 obtain⟨a,b,c⟩:=Xv rs
 have ok:okD (.lst (rs.map xl))=true:=by
  simp[okD,vi,vw,PyData.canLay0,PyData.depth,a,b]
  omega
 have ev:ub (.lst (rs.map xl)) (.lst (rs.map xl))=true:=by
  simp[ub,vw,PyData.eqv,W6]
 unfold neD
 simp only[ok,and_self,if_true,ev,Bool.not_true]
theorem Lc{f g:FT}{τ:DS}(h1:f τ=.ok false):vf f g τ=.ok false:=by rw[wG,h1,Rs.bind_ok,if_neg (by simp)]
theorem GU{f g:FT}{τ:DS}{b:Bool}(h1:f τ=.ok true)(h2:g τ=.ok b):vf f g τ=.ok b:=by rw[wG,h1,Rs.bind_ok,if_pos rfl,h2]
theorem yP{f g:FS}{τ τ':DS}(h:f τ=.nx τ'):zy f g τ=g τ':=by rw[zK,h,yb]
theorem if_f{g:FT}{a b:FS}{τ:DS}(h:g τ=.ok false):sIf g a b τ=b τ:=by rw[yk,h,Fl.of_ok,if_neg (by simp)]
theorem za8{g:FT}{a b:FS}{τ:DS}(h:g τ=.ok true):sIf g a b τ=a τ:=by rw[yk,h,Fl.of_ok,if_pos rfl]
theorem X8{g:FT}{a:FS}{τ:DS}(h:g τ=.ok false):sIf g a zV τ=.nx τ:=if_f h
theorem xr{i:Nat}{fe:FE}{τ:DS}{d:D}(h:fe τ=.ok d):zX i fe τ=.nx (τ.set i (some (.val d))):=by rw[zZ,h,Fl.of_ok]
theorem XT{fe:FE}{τ:DS}{d:D}(h:fe τ=.ok d):yA fe τ=.rt d:=by rw[zT,h,Fl.of_ok]
theorem arg1{fa:FE}{τ:DS}{a:D}(h:fa τ=.ok a):za fa zi τ=.ok [a]:=by rw[zt,h,Rs.bind_ok,zE,Rs.bind_ok]
theorem frE{ff:FA}{τ:DS}{ds:List D}(h:ff τ=.ok ds):(fun τ=>(ff τ).bind fun ds=>Rs.ok (D.lst ds)) τ=.ok (.lst ds):=by show(ff τ).bind _=_;rw[h];rfl
theorem YD{fe:FE}{τ:DS}{ds:List D}(h:fe τ=.ok (.lst ds)):wQ fe τ=.ok ds:=by rw[ZI,h];rfl
def uF:FS:=(sIf (vf (FD.tB (eOp ltI (jO 2) (yg yv (za (zd 0) zi)))) (ve (zo xc (za (eOp ixD (zd 0) (jO 2)) (za (eOp ixD (zd 1) (zd 3)) zi))))) (YK 2 (zd 3)) zV)
theorem UF(q x:List Nat)(hq:q.length≤1000)(hx:x.length≤1000)(ha:∀c∈q,c<128):∀(m k:Nat) (b:List Nat) (s:Option Sl),k+m=x.length→b.length≤k →
  ∃s',yB (gNm 3) uF ((List.range' k m).map fun (k:Nat)=>D.int (0+k)) [some (.val (tx q)),some (.val (tx x)),some (.own (b.map fun (k:Nat)=>D.int k)),s]
   = .nx [some (.val (tx q)),some (.val (tx x)),some (.own ((b++epR (q.drop b.length) (x.drop k) k).map fun (k:Nat)=>D.int k)),s']
 |0,k,b,s,h,hb=>by
  have:x.drop k=[]:=List.drop_eq_nil_of_le (by omega)
  rw[this]
  have e:epR (q.drop b.length) [] k=[]:=by cases q.drop b.length <;> rfl
  rw[e,append_nil]
  exact⟨s,rfl⟩
 |m+1,k,b,s,h,hb=>by
  have hk:k<x.length:=by omega
  have hxk:=Wj x k x[k] (getElem?_eq_getElem hk) hx
  rw[range'_succ,map_cons,yB,vJ,Fl.of_ok,drop_eq_getElem_cons hk]
  simp only[set_cons_succ,set_cons_zero,Int.zero_add]
  have ih:=fun b' s' h'=>UF q x hq hx ha m (k+1) b' s' (by omega) h'
  simp only[Int.zero_add] at ih
  by_cases hl:b.length<q.length
  ·have hqb:=Wj q b.length q[b.length] (getElem?_eq_getElem hl) hq
   have hbz:b.length<sizeLine:=by rw[z7];omega
   have hmt:=jE q[b.length] x[k] (ha _ (getElem_mem hl))
   rw[drop_eq_getElem_cons hl]
   by_cases hm:xt q[b.length] x[k]=true
   ·obtain⟨s',e⟩:=ih (b++[k]) (some (.val (.int k))) (by simp;omega)
    refine⟨s',?_⟩
    have:uF [some (.val (tx q)),some (.val (tx x)),some (.own (b.map fun (k:Nat)=>D.int k)),some (.val (.int k))]=.nx [some (.val (tx q)),some (.val (tx x)),some (.own ((b++[k]).map fun (k:Nat)=>D.int k)),some (.val (.int k))]:=by
     unfold uF
     simp only[yk,zR,vz,jN,xn,xH,wG,yc,zC,zE,zt,ya,xg,getElem?_cons_zero,getElem?_cons_succ,set_cons_succ,set_cons_zero,zu,y4,Rs.bind_ok,Fl.of_ok,yI,zP,xG,Yc,if_true,length_map,xh q hq,Int.ofNat_lt,hl,decide_true,hqb,hxk,hmt,hm,hbz,map_append,map_cons,map_nil]
    simp only[this]
    rw[e]
    simp only[epR,hm,if_true,append_assoc,List.cons_append,List.nil_append,length_append,length_cons,length_nil,zero_add]
   ·obtain⟨s',e⟩:=ih b (some (.val (.int k))) (by omega)
    refine⟨s',?_⟩
    have hm':xt q[b.length] x[k]=false:=by simpa using hm
    have:uF [some (.val (tx q)),some (.val (tx x)),some (.own (b.map fun (k:Nat)=>D.int k)),some (.val (.int k))]=.nx [some (.val (tx q)),some (.val (tx x)),some (.own (b.map fun (k:Nat)=>D.int k)),some (.val (.int k))]:=by
     unfold uF
     simp only[yk,zR,vz,jN,xn,xH,wG,yc,zC,zE,zt,ya,xg,getElem?_cons_zero,getElem?_cons_succ,set_cons_succ,set_cons_zero,zu,y4,Rs.bind_ok,Fl.of_ok,yI,zP,xG,Yc,if_true,Bool.false_eq_true,if_false,length_map,xh q hq,Int.ofNat_lt,hl,decide_true,hqb,hxk,hmt,hm']
    simp only[this]
    rw[e,drop_eq_getElem_cons hl]
    simp only[epR,hm',Bool.false_eq_true,if_false]
  ·obtain⟨s',e⟩:=ih b (some (.val (.int k))) (by omega)
   refine⟨s',?_⟩
   have:uF [some (.val (tx q)),some (.val (tx x)),some (.own (b.map fun (k:Nat)=>D.int k)),some (.val (.int k))]=.nx [some (.val (tx q)),some (.val (tx x)),some (.own (b.map fun (k:Nat)=>D.int k)),some (.val (.int k))]:=by
    unfold uF
    simp only[yk,zR,vz,jN,xn,xH,wG,yc,zC,zE,zt,ya,xg,getElem?_cons_zero,getElem?_cons_succ,set_cons_succ,set_cons_zero,zu,y4,Rs.bind_ok,Fl.of_ok,zP,Yc,Bool.false_eq_true,if_false,length_map,xh q hq,Int.ofNat_lt,hl,decide_false]
   simp only[this]
   rw[e,List.drop_eq_nil_of_le (by omega:q.length≤b.length)]
   simp only[epR]
theorem ep_ok(q x:List Nat)(hq:q.length≤1000)(hx:x.length≤1000)(ha:∀c∈q,c<128):yU [tx q,tx x]=.ok (nts (epR q x 0)):=by
 have st:zW 4 [tx q,tx x]=[some (.val (tx q)),some (.val (tx x)),none,none]:=rfl
 obtain⟨s',e⟩:=UF q x hq hx ha x.length 0 [] none (by omega) (le_refl _)
 unfold uF at e
 have r1:=ZV (fs:=za (yg yv (za (zd 1) zi)) zi) (τ:=[some (.val (tx q)),some (.val (tx x)),some (.own []),none]) (j:=x.length) (by simp only[zC,zE,zt,xg,getElem?_cons_zero,getElem?_cons_succ,zu,Rs.bind_ok,xh x hx]) (by omega) (by omega)
 unfold yU vF
 rw[z0,st]
 simp only[zK,wK,xQ,zE,set_cons_succ,set_cons_zero,Rs.bind_ok,Fl.of_ok,yb,if_true,length_nil,zero_le,r1,vW,toNat_natCast]
 rw[range_eq_range']
 rw[show([]:List D)=([]:List Nat).map fun (k:Nat)=>D.int k from rfl,e]
 simp only[wL,wM,getElem?_cons_zero,getElem?_cons_succ,y4,Fl.of_ok,yb,zO,List.nil_append,length_nil,drop_zero]
theorem W2(q x:List Nat)(hq:q.length≤1000)(hx:x.length≤1000)(ha:∀c∈q,c<128):vI [tx q,tx x]=.ok (.bl (xX q x)):=by
 have st:zW 2 [tx q,tx x]=[some (.val (tx q)),some (.val (tx x))]:=rfl
 unfold vI GS
 rw[z0,st]
 simp only[zT,yc,zC,zE,zt,ya,xg,getElem?_cons_zero,getElem?_cons_succ,zu,Rs.bind_ok,Fl.of_ok,zO,yI,wX,vo,ep_ok q x hq hx ha,xh q hq,length_map]
 congr 2
 rw[Bool.eq_iff_iff,← jK q x 0,beq_iff_eq]
 omega
theorem UZ{s r:List Nat}(h:List.Sublist s r):∀x,xX r x=true→xX s x=true:=by
 induction h with
 |slnil=>intro x h;exact h
 |cons a _ ih=>intro x h;exact ih x (jS x _ a h)
 |cons_cons a _ ih=>
  intro x
  induction x with
  |nil=>intro h;cases h
  |cons c x ihx=>
   intro h
   simp only[xX] at h ⊢
   split
   ·rename_i z;rw[if_pos z] at h;exact ih x h
   ·rename_i z;rw[if_neg z] at h;exact ihx h
def uW(r:List Nat):List (List Nat):=(List.range r.length).map fun p=>r.take p++r.drop (p+1)
theorem Xa(a:Nat)(r:List Nat):uW (a::r)=r::(uW r).map (a :: ·):=by
 unfold uW
 rw[length_cons,List.range_succ_eq_map,map_cons,map_map,map_map]
 congr 1
theorem Mk{s r:List Nat}:∀{q:List Nat},s∈uW q→List.Sublist s q∧s.length+1=q.length:=fun {q} h=>by
 obtain⟨p,hp,rfl⟩:=mem_map.mp h
 have hp:=mem_range.mp hp
 refine⟨?_,?_⟩
 ·have:List.Sublist (q.take p++q.drop (p+1)) (q.take p++q.drop p):=List.Sublist.append_left (by rw[← List.drop_drop];exact List.drop_sublist _ _) _
  rwa [List.take_append_drop] at this
 ·rw[length_append,length_take,length_drop];omega
theorem add_one{s q:List Nat}(h:List.Sublist s q):s.length<q.length→∃r,List.Sublist r q∧r.length=s.length+1∧s∈uW r:=by
 induction h with
 |slnil=>intro z;cases z
 | @cons s q a h ih=>
  intro _
  exact⟨a::s,h.cons_cons a,rfl,by rw[Xa];exact mem_cons_self⟩
 | @cons_cons s q a h ih=>
  intro z
  obtain⟨r,r1,r2,r3⟩:=ih (by simpa using z)
  exact⟨a::r,r1.cons_cons a,by rw[length_cons,r2,length_cons],by rw[Xa];exact mem_cons_of_mem _ (mem_map_of_mem r3)⟩
def mkS(x:List Nat):Str:=⟨x.toArray⟩
theorem Q0(s:Str):mkS s.cps.toList=s:=by cases s;simp[mkS]
def Xm(L:List (List Nat)):List Str:=(L.map mkS).foldl wU []
theorem GY(ks:List Str)(k x:Str):x∈wU ks k↔x∈ks∨x=k:=by
 unfold wU
 split
 ·rename_i h
  exact⟨.inl,fun z=>z.elim id fun e=>by rw[e];exact h⟩
 ·simp
theorem TQ(ks:List Str)(k:Str)(h:ks.Nodup):(wU ks k).Nodup:=by
 unfold wU
 split
 ·exact h
 ·rename_i z
  rw[List.nodup_append]
  exact⟨h,by simp,fun a ha b hb e=>z (by rw[← mem_singleton.mp hb,← e];exact ha)⟩
theorem WZ(l:List Str):∀(ks:List Str) (x:Str),x∈l.foldl wU ks↔x∈ks∨x∈l:=by
 induction l with
 |nil=>intro ks x;simp
 |cons a l ih=>intro ks x;rw[foldl_cons,ih,GY,mem_cons,or_assoc]
theorem Tg(l:List Str):∀(ks:List Str),ks.Nodup→(l.foldl wU ks).Nodup:=by
 induction l with
 |nil=>intro ks h;exact h
 |cons a l ih=>intro ks h;exact ih _ (TQ ks a h)
def sh(R:List (List Nat)):List (List Nat):=(STW.srtS (Xm (R.flatMap uW))).map fun s=>s.cps.toList
theorem Qg(R:List (List Nat))(x:List Nat):x∈sh R↔∃r∈R,x∈uW r:=by
 unfold sh Xm
 rw[mem_map]
 constructor
 ·rintro⟨s,hs,rfl⟩
  have:=(STW.srtS_perm _).mem_iff.mp hs
  rw[WZ] at this
  rcases this with z|z
  ·cases z
  ·obtain⟨y,hy,rfl⟩:=mem_map.mp z
   have e:(mkS y).cps.toList=y:=by simp[mkS]
   rw[e]
   exact List.mem_flatMap.mp hy
 ·rintro⟨r,hr,hx⟩
  refine⟨mkS x,(STW.srtS_perm _).mem_iff.mpr ?_,by simp[mkS]⟩
  rw[WZ]
  exact .inr (mem_map_of_mem (List.mem_flatMap.mpr ⟨r,hr,hx⟩))
theorem sh_nd(R:List (List Nat)):(sh R).Nodup:=by
 unfold sh Xm
 have:=(STW.srtS_perm ((R.flatMap uW).map mkS |>.foldl wU [])).nodup_iff.mpr (Tg _ [] List.nodup_nil)
 rw[List.nodup_iff_pairwise_ne] at this ⊢
 rw[pairwise_map]
 refine this.imp fun {a b} h e=>h ?_
 rw[← Q0 a,← Q0 b,e]
theorem sh_D(R:List (List Nat)):(STW.srtS (Xm (R.flatMap uW))).map D.str=(sh R).map tx:=by
 unfold sh
 rw[map_map]
 refine List.map_congr_left fun s _=>?_
 exact congrArg D.str (Q0 s).symm
def Rk(q:List Nat):Nat→List (List Nat)
 |0=>[q]
 |j+1=>sh (Rk q j)
theorem ZU(q:List Nat):∀(j:Nat) (s:List Nat),s∈Rk q j→List.Sublist s q∧s.length+j=q.length:=fun j=>by
 induction j with
 |zero=>intro s h;rw[mem_singleton.mp h];exact⟨List.Sublist.refl _,rfl⟩
 |succ j ih=>
  intro s h
  obtain⟨r,hr,hs⟩:=(Qg _ _).mp h
  obtain⟨h1,h2⟩:=ih r hr
  obtain⟨h3,h4⟩:=Mk (r:=r) hs
  exact⟨h3.trans h1,by omega⟩
theorem Vw(q:List Nat):∀(j:Nat) (s:List Nat),List.Sublist s q→s.length+j=q.length→s∈Rk q j:=fun j=>by
 induction j with
 |zero=>intro s h1 h2;rw[h1.eq_of_length (by omega)];exact mem_singleton.mpr rfl
 |succ j ih=>
  intro s h1 h2
  obtain⟨r,r1,r2,r3⟩:=add_one h1 (by omega)
  exact(Qg _ _).mpr ⟨r,ih r r1 (by omega),r3⟩
theorem rk_nd(q:List Nat)(j:Nat):(Rk q j).Nodup:=by
 cases j with
 |zero=>simp[Rk]
 |succ j=>exact sh_nd _
def GX:List Nat→List (List Nat)
 |[]=>[[]]
 |a::r=>GX r++(GX r).map (a :: ·)
theorem GW(q:List Nat):(GX q).length=2 ^ q.length:=by
 induction q with
 |nil=>rfl
 |cons a r ih=>unfold GX;rw[length_append,length_map,ih,length_cons,Nat.pow_succ];omega
theorem GV{s q:List Nat}(h:List.Sublist s q):s∈GX q:=by
 induction h with
 |slnil=>exact mem_singleton.mpr rfl
 |cons a _ ih=>exact mem_append_left _ ih
 |cons_cons a _ ih=>exact mem_append_right _ (mem_map_of_mem ih)
theorem nd_le{α:Type}[DecidableEq α]:∀{l m:List α},l.Nodup→(∀x∈l,x∈m)→l.length≤m.length:=fun {l}=>by
 induction l with
 |nil=>intro m _ _;exact zero_le _
 |cons a l ih=>
  intro m nd h
  rw[nodup_cons] at nd
  have ha:=h a mem_cons_self
  have:=ih (m:=m.erase a) nd.2 fun x hx=>by
   have:x≠a:=fun e=>nd.1 (by rw[← e];exact hx)
   exact(List.mem_erase_of_ne this).mpr (h x (mem_cons_of_mem _ hx))
  rw[List.length_erase_of_mem ha] at this
  have hp:0<m.length:=List.length_pos_of_mem ha
  rw[length_cons];omega
theorem Vv(q:List Nat)(j:Nat)(h:q.length≤5):(Rk q j).length≤32:=by
 have h1:=nd_le (rk_nd q j) fun s hs=>GV (ZU q j s hs).1
 rw[GW] at h1
 have:2 ^ q.length≤2 ^ 5:=Nat.pow_le_pow_right (by decide) h
 omega
theorem Gg(q:List Nat)(j:Nat)(h:q.length≤5):(Xm ((Rk q j).flatMap uW)).length≤32:=by
 have:=Vv q (j+1) h
 unfold Rk sh at this
 rw[length_map,(STW.srtS_perm _).length_eq] at this
 exact this
def j9(q x:List Nat)(j:Nat):Bool:=(Rk q j).any fun s=>xX s x
theorem vb(q x:List Nat)(j:Nat):j9 q x j=true↔∃s,List.Sublist s q∧s.length+j=q.length∧xX s x=true:=by
 unfold j9
 rw[List.any_eq_true]
 constructor
 ·rintro⟨s,h1,h2⟩
  obtain⟨a,b⟩:=ZU q j s h1
  exact⟨s,a,b,h2⟩
 ·rintro⟨s,a,b,c⟩
  exact⟨s,Vw q j s a b,c⟩
theorem UE(q x:List Nat):j9 q x q.length=true:=(vb q x _).mpr ⟨[],List.nil_sublist _,by simp,by cases x <;> rfl⟩
def lsl(q x:List Nat):Nat→Nat→Nat
 |0,j=>j
 |n+1,j=>if j9 q x j=true then j else lsl q x n (j+1)
theorem L1(q x:List Nat):∀n j,j+n=q.length→j9 q x (lsl q x n j)=true∧j≤lsl q x n j∧lsl q x n j≤q.length∧∀k,j≤k→k<lsl q x n j→j9 q x k=false:=fun n=>by
 induction n with
 |zero=>
  intro j h
  have:j=q.length:=by omega
  subst this
  exact⟨UE q x,le_refl _,le_refl _,fun k h1 h2=>by unfold lsl at h2;omega⟩
 |succ n ih=>
  intro j h
  unfold lsl
  by_cases z:j9 q x j=true
  ·rw[if_pos z];exact⟨z,le_refl _,by omega,fun k h1 h2=>by omega⟩
  ·rw[if_neg z]
   obtain⟨a,b,c,d⟩:=ih (j+1) (by omega)
   refine⟨a,by omega,c,fun k h1 h2=>?_⟩
   rcases Nat.lt_or_eq_of_le h1 with y|y
   ·exact d k y h2
   ·subst y;simpa using z
def lst(q x:List Nat):Nat:=lsl q x q.length 0
theorem lst_ok(q x:List Nat):j9 q x (lst q x)=true∧lst q x≤q.length∧∀k,k<lst q x→j9 q x k=false:=by
 obtain⟨a,_,c,d⟩:=L1 q x q.length 0 (by omega)
 exact⟨a,c,fun k h=>d k (zero_le _) h⟩
theorem X7(q x:List Nat)(j:Nat)(h:j9 q x j=true):lst q x≤j:=by
 rcases lt_or_ge j (lst q x) with z|z
 ·rw[(lst_ok q x).2.2 j z] at h;cases h
 ·exact z
theorem Q1(q x:List Nat):(lst q x=0)↔xX q x=true:=by
 constructor
 ·intro h
  have:=(lst_ok q x).1
  rw[h,vb] at this
  obtain⟨s,a,b,c⟩:=this
  rw[← a.eq_of_length (by omega)];exact c
 ·intro h
  have:=X7 q x 0 ((vb q x 0).mpr ⟨q,List.Sublist.refl _,rfl,h⟩)
  omega
theorem GF{u v s:List Nat}{c:Nat}(h:List.Sublist s (u++c::v)):∃s',List.Sublist s' (u++v)∧List.Sublist s' s∧s.length≤s'.length+1:=by
 obtain⟨s1,s2,rfl,h1,h2⟩:=List.sublist_append_iff.mp h
 rcases List.sublist_cons_iff.mp h2 with z|⟨r,rfl,z⟩
 ·exact⟨s1++s2,h1.append z,List.Sublist.refl _,Nat.le_succ _⟩
 ·exact⟨s1++r,h1.append z,List.Sublist.append_left (List.sublist_cons_self _ _) _,by simp only[length_append,length_cons];omega⟩
theorem QG{s:List Nat}(n:Nat)(h:n≤s.length):∃t,List.Sublist t s∧t.length=n:=⟨s.take n,List.take_sublist _ _,by rw[length_take];omega⟩
theorem Q2(u v x:List Nat)(c:Nat):lst (u++v) x≤lst (u++c::v) x∧lst (u++c::v) x≤lst (u++v) x+1:=by
 have hl:(u++c::v).length=(u++v).length+1:=by simp only[length_append,length_cons];omega
 constructor
 ·obtain⟨h1,h2,_⟩:=lst_ok (u++c::v) x
  obtain⟨s,a,b,d⟩:=(vb _ _ _).mp h1
  obtain⟨s',a1,a2,a3⟩:=GF a
  rcases lt_or_ge (u++v).length (lst (u++c::v) x) with z|z
  ·have:=(lst_ok (u++v) x).2.1;omega
  ·obtain⟨t,t1,t2⟩:=QG (s:=s') ((u++v).length-lst (u++c::v) x) (by omega)
   exact X7 _ _ _ ((vb _ _ _).mpr ⟨t,t1.trans a1,by omega,UZ (t1.trans a2) x d⟩)
 ·obtain⟨h1,_,_⟩:=lst_ok (u++v) x
  obtain⟨s,a,b,d⟩:=(vb _ _ _).mp h1
  exact X7 _ _ _ ((vb _ _ _).mpr ⟨s,a.trans (List.Sublist.append_left (List.sublist_cons_self _ _) _),by omega,d⟩)
abbrev Ch:=Option (Int×List Nat×List Nat)
def chD:Ch→D
 |none=>.non
 |some t=>.tup [.int t.1,tx t.2.1,nts t.2.2]
def st1(x:List Nat)(j:Nat)(c:Ch)(r:List Nat):Ch:=match xq r x with
 |none=>c
 |some t=>match c with
  |none=>some (t.1-15*(j:Int),r,t.2)
  |some b=>if b.1<t.1-15*(j:Int) then some (t.1-15*(j:Int),r,t.2) else c
def chL(x:List Nat)(L:List (Nat×List Nat))(c:Ch):Ch:=L.foldl (fun c p=>st1 x p.1 c p.2) c
def itm(q:List Nat)(n:Nat):List (Nat×List Nat):=(List.range n).flatMap fun j=>(Rk q j).map fun r=>(j,r)
def ch(q x:List Nat)(m:Nat):Ch:=chL x (itm q (min m q.length+1)) none
theorem Uy(q:List Nat)(n:Nat)(p:Nat×List Nat):p∈itm q n↔p.1<n∧p.2∈Rk q p.1:=by
 unfold itm
 rw[List.mem_flatMap]
 constructor
 ·rintro⟨j,hj,hp⟩
  obtain⟨r,hr,rfl⟩:=mem_map.mp hp
  exact⟨mem_range.mp hj,hr⟩
 ·rintro⟨h1,h2⟩
  exact⟨p.1,mem_range.mpr h1,mem_map.mpr ⟨p.2,h2,rfl⟩⟩
theorem Gj(q:List Nat)(n:Nat):itm q (n+1)=itm q n++(Rk q n).map fun r=>(n,r):=by
 unfold itm
 rw[List.range_succ,List.flatMap_append,List.flatMap_singleton]
theorem Tv(x:List Nat)(L M:List (Nat×List Nat))(c:Ch):chL x (L++M) c=chL x M (chL x L c):=List.foldl_append
theorem Tu(x:List Nat)(j:Nat)(R:List (List Nat)):∀c,chL x (R.map fun r=>(j,r)) c=R.foldl (st1 x j) c:=by
 induction R with
 |nil=>intro c;rfl
 |cons r R ih=>intro c;exact ih _
theorem Lm(x:List Nat)(j:Nat)(c:Ch)(r:List Nat):(∀t,st1 x j c r=some t→c=some t∨xq r x=some (t.1+15*(j:Int),t.2.2)∧t.2.1=r)∧(∀b,c=some b→∃t,st1 x j c r=some t∧b.1≤t.1)∧∀w,xq r x=some w→∃t,st1 x j c r=some t∧w.1-15*(j:Int)≤t.1:=by
 unfold st1
 cases z:xq r x with
 |none=>exact⟨fun t h=>.inl h,fun b h=>⟨b,h,Int.le_refl _⟩,fun w h=>by cases h⟩
 |some t=>
  have e:xq r x=some (t.1-15*(j:Int)+15*(j:Int),t.2):=by rw[z];congr 1;exact Prod.ext (by simp only[];omega) rfl
  cases c with
  |none=>
   refine⟨fun u h=>.inr ?_,fun b h=>(by cases h),fun w h=>⟨_,rfl,?_⟩⟩
   ·cases h;exact⟨by rw[← z];exact e,rfl⟩
   ·cases h;exact Int.le_refl _
  |some b=>
   dsimp only
   split
   ·rename_i y
    refine⟨fun u h=>.inr ?_,fun b' h=>⟨_,rfl,?_⟩,fun w h=>⟨_,rfl,?_⟩⟩
    ·cases h;exact⟨by rw[← z];exact e,rfl⟩
    ·cases h;exact Int.le_of_lt y
    ·cases h;exact Int.le_refl _
   ·rename_i y
    refine⟨fun u h=>.inl h,fun b' h=>⟨b,rfl,?_⟩,fun w h=>⟨b,rfl,?_⟩⟩
    ·cases h;exact Int.le_refl _
    ·cases h;omega
theorem GL(x:List Nat):∀(L:List (Nat×List Nat)) (c:Ch),(∀t,chL x L c=some t→c=some t∨∃p∈L,xq p.2 x=some (t.1+15*(p.1:Int),t.2.2)∧t.2.1=p.2)∧(∀b,c=some b→∃t,chL x L c=some t∧b.1≤t.1)∧∀p∈L,∀w,xq p.2 x=some w→∃t,chL x L c=some t∧w.1-15*(p.1:Int)≤t.1:=fun L=>by
 induction L with
 |nil=>intro c;exact⟨fun t h=>.inl h,fun b h=>⟨b,h,Int.le_refl _⟩,fun p hp=>by cases hp⟩
 |cons p L ih=>
  intro c
  obtain⟨a1,a2,a3⟩:=Lm x p.1 c p.2
  obtain⟨b1,b2,b3⟩:=ih (st1 x p.1 c p.2)
  refine⟨fun t h=>?_,fun b h=>?_,fun p' hp w h=>?_⟩
  ·rcases b1 t h with z|⟨p',hp,z⟩
   ·rcases a1 t z with y|y
    ·exact .inl y
    ·exact .inr ⟨p,mem_cons_self,y⟩
   ·exact .inr ⟨p',mem_cons_of_mem _ hp,z⟩
  ·obtain⟨t,h1,h2⟩:=a2 b h
   obtain⟨u,h3,h4⟩:=b2 t h1
   exact⟨u,h3,Int.le_trans h2 h4⟩
  ·rcases mem_cons.mp hp with rfl|hp
   ·obtain⟨t,h1,h2⟩:=a3 w h
    obtain⟨u,h3,h4⟩:=b2 t h1
    exact⟨u,h3,Int.le_trans h2 h4⟩
   ·exact b3 p' hp w h
theorem UO(q x:List Nat)(m:Nat)(t:Int×List Nat×List Nat)(h:ch q x m=some t):∃j,j≤m∧j≤q.length∧t.2.1∈Rk q j∧xq t.2.1 x=some (t.1+15*(j:Int),t.2.2):=by
 rcases (GL x _ none).1 t h with z|⟨p,hp,h1,h2⟩
 ·cases z
 ·obtain⟨h3,h4⟩:=(Uy _ _ _).mp hp
  rw[h2]
  exact⟨p.1,by omega,by omega,h4,h1⟩
theorem GK(q x:List Nat)(m j:Nat)(r:List Nat)(w:Tl)(h1:j≤m)(h2:j≤q.length)(hr:r∈Rk q j)(hw:xq r x=some w):∃t,ch q x m=some t∧w.1-15*(j:Int)≤t.1:=
 (GL x _ none).2.2 (j,r) ((Uy _ _ _).mpr ⟨by show j<_;omega,hr⟩) w hw
theorem Zd(w x:List Nat):(xq w x).isSome=xX w x:=by
 cases z:xX w x with
 |false=>rw[VX w x z];rfl
 |true=>obtain⟨v,l,e,_⟩:=Yy w x _ (Xl w x z);rw[e];rfl
theorem UN(q x:List Nat)(m:Nat)(hm:m≤q.length):(ch q x m).isSome=decide (lst q x≤m):=by
 rw[Bool.eq_iff_iff,decide_eq_true_eq]
 constructor
 ·intro h
  obtain⟨t,e⟩:=Option.isSome_iff_exists.mp h
  obtain⟨j,h1,h2,h3,h4⟩:=UO q x m t e
  obtain⟨a,b⟩:=ZU q j _ h3
  have h5:xX t.2.1 x=true:=by rw[← Zd,h4];rfl
  have:=X7 q x j ((vb _ _ _).mpr ⟨_,a,b,h5⟩)
  omega
 ·intro h
  obtain⟨s,a,b,c⟩:=(vb _ _ _).mp (lst_ok q x).1
  have hs:(xq s x).isSome=true:=by rw[Zd];exact c
  obtain⟨w,e⟩:=Option.isSome_iff_exists.mp hs
  obtain⟨t,e2,_⟩:=GK q x m (lst q x) s w h (lst_ok q x).2.1 (Vw q _ s a b) e
  rw[e2];rfl
theorem Tt(q x:List Nat)(m n:Nat)(h:m≤n)(t:Int×List Nat×List Nat)(e:ch q x m=some t):∃u,ch q x n=some u∧t.1≤u.1:=by
 obtain⟨j,h1,h2,h3,h4⟩:=UO q x m t e
 obtain⟨u,e2,h5⟩:=GK q x n j t.2.1 _ (by omega) h2 h3 h4
 exact⟨u,e2,by simp only at h5;omega⟩
theorem Ts(u v x:List Nat)(c m:Nat)(t:Int×List Nat×List Nat)(e:ch (u++v) x m=some t):∃w,ch (u++c::v) x (m+1)=some w∧t.1-15≤w.1:=by
 obtain⟨j,h1,h2,h3,h4⟩:=UO _ x m t e
 obtain⟨a,b⟩:=ZU _ j _ h3
 have hl:(u++c::v).length=(u++v).length+1:=by simp only[length_append,length_cons];omega
 obtain⟨w,e2,h5⟩:=GK (u++c::v) x (m+1) (j+1) t.2.1 _ (by omega) (by omega) (Vw _ _ _ (a.trans (List.Sublist.append_left (List.sublist_cons_self _ _) _)) (by omega)) h4
 refine⟨w,e2,?_⟩
 simp only at h5
 have:((j+1:Nat):Int)=(j:Int)+1:=by omega
 rw[this] at h5;omega
theorem GO(q x:List Nat)(v:Int)(l:List Nat)(h:xq q x=some (v,l)):Lay q x l∧v=pts q x l q.length:=by
 have hs:xX q x=true:=by rw[← Zd,h];rfl
 obtain⟨v',l',e,b⟩:=Yy q x _ (Xl q x hs)
 rw[h] at e;cases e
 exact⟨b.lay,b.pnt⟩
theorem zb8(q x:List Nat)(m:Nat)(t:Int×List Nat×List Nat)(h:ch q x m=some t):Lay t.2.1 x t.2.2∧t.1=pts t.2.1 x t.2.2 t.2.1.length-15*((q.length:Int)-(t.2.1.length:Int))∧List.Sublist t.2.1 q:=by
 obtain⟨j,h1,h2,h3,h4⟩:=UO q x m t h
 obtain⟨a,b⟩:=ZU q j _ h3
 obtain⟨l1,l2⟩:=GO _ _ _ _ h4
 exact⟨l1,by omega,a⟩
theorem TF(q x:List Nat):ch q x 0=(xq q x).map fun t=>(t.1,q,t.2):=by
 unfold ch
 rw[Nat.zero_min]
 show st1 x 0 none q=_
 unfold st1
 cases xq q x with
 |none=>rfl
 |some t=>show some (t.1-15*((0:Nat):Int),q,t.2)=_;congr 2;omega
theorem Qf(x:List Nat)(hx:x.length≤1000)(n:Nat):slD (tx x) none (some (n:Int))=.ok (tx (x.take n)):=by
 show(if _ then Rs.ok (D.str (Txt.slice _ none (some (n:Int)))) else Rs.no)=_
 rw[if_pos (by rw[uB,z7];omega),Qd]
theorem Wp(x:List Nat)(hx:x.length≤1000)(n:Nat)(h:n≤x.length):slD (tx x) (some (n:Int)) none=.ok (tx (x.drop n)):=by
 show(if _ then Rs.ok (D.str (Txt.slice _ (some (n:Int)) none)) else Rs.no)=_
 rw[if_pos (by rw[uB,z7];omega),Vu x n h]
def kyE:FE:=(eOp zU (eSl (zd 2) uk (wm (zd 3))) (eSl (zd 2) (wm (eOp zU (zd 3) (eC (.int 1)))) uk))
def rgE:FA:=(wn (za (yg yv (za (zd 2) zi)) zi))
theorem Mf:wT=(jU 1 (Yn (wQ (zd 0)) 2 (Yn rgE 3 (Zy kyE)))):=by unfold wT rgE kyE;rfl
theorem ky_ok(A:D)(r:List Nat)(p:Nat)(hr:r.length≤1000)(hp:p<r.length):kyE [some (.val A),none,some (.val (tx r)),some (.val (.int (p:Int)))]=.ok (.str (mkS (r.take p++r.drop (p+1)))):=by
 unfold kyE
 refine op2 (b:=tx (r.drop (p+1))) (Wo (zh rfl) rfl (Uj (zh rfl)) (Qf r hr p)) (Wo (zh rfl) (Uj (op2 (zh rfl) rfl y7)) rfl ?_) ?_
 ·exact Wp r hr (p+1) hp
 ·exact V0 _ _ (by rw[length_take];omega) (by rw[length_drop];omega)
theorem Gu(l:List Str):∀ks:List Str,(l.foldl wU ks).length≤ks.length+l.length:=by
 induction l with
 |nil=>intro ks;exact le_refl _
 |cons a l ih=>
  intro ks
  have h1:(wU ks a).length≤ks.length+1:=by unfold wU;split <;> simp
  have:=ih (wU ks a)
  rw[foldl_cons,length_cons];omega
theorem gl_in(A:D)(r:List Nat)(hr:r.length≤1000):∀(ps:List Nat) (s3:Option Sl) (ks:List Str),(∀p∈ps,p<r.length)→ks.length+ps.length≤1000 →
  ∃t3,Ym (Zy kyE) 3 (ps.map fun (p:Nat)=>D.int (0+p)) [some (.val A),none,some (.val (tx r)),s3] ks=some ([some (.val A),none,some (.val (tx r)),t3],(ps.map fun p=>mkS (r.take p++r.drop (p+1))).foldl wU ks):=fun ps=>by
 induction ps with
 |nil=>intro s3 ks _ _;exact⟨s3,rfl⟩
 |cons p ps ih=>
  intro s3 ks h hl
  rw[length_cons] at hl
  have ha:(wU ks (mkS (r.take p++r.drop (p+1)))).length≤ks.length+1:=by unfold wU;split <;> simp
  obtain⟨t3,e⟩:=ih (some (.val (.int (p:Int)))) (wU ks (mkS (r.take p++r.drop (p+1)))) (fun p' hp'=>h p' (mem_cons_of_mem _ hp')) (by omega)
  refine⟨t3,?_⟩
  rw[map_cons,map_cons,foldl_cons,← e,Int.zero_add]
  have g:Zy kyE [some (.val A),none,some (.val (tx r)),some (.val (.int (p:Int)))] ks=some ([some (.val A),none,some (.val (tx r)),some (.val (.int (p:Int)))],wU ks (mkS (r.take p++r.drop (p+1)))):=by
   unfold Zy
   rw[ky_ok A r p hr (h p mem_cons_self)]
   exact if_pos (by omega)
  show(Zy kyE [some (.val A),none,some (.val (tx r)),some (.val (.int (p:Int)))] ks).bind _=_
  rw[g];rfl
theorem zb0(A:D):∀(R:List (List Nat)) (s2 s3:Option Sl) (ks:List Str),(∀r∈R,r.length≤5)→ks.length+5*R.length≤900 →
  ∃t2 t3,Ym (Yn rgE 3 (Zy kyE)) 2 (R.map tx) [some (.val A),none,s2,s3] ks=some ([some (.val A),none,t2,t3],((R.flatMap uW).map mkS).foldl wU ks):=fun R=>by
 induction R with
 |nil=>intro s2 s3 ks _ _;exact⟨s2,s3,rfl⟩
 |cons r R ih=>
  intro s2 s3 ks h hl
  rw[length_cons] at hl
  have hr:=h r mem_cons_self
  obtain⟨u3,e1⟩:=gl_in A r (by omega) (List.range r.length) s3 ks (fun p hp=>mem_range.mp hp) (by rw[length_range];omega)
  have hf:=Gu ((List.range r.length).map fun p=>mkS (r.take p++r.drop (p+1))) ks
  rw[length_map,length_range] at hf
  have er:((List.range r.length).map fun p=>mkS (r.take p++r.drop (p+1)))=(uW r).map mkS:=by unfold uW;rw[map_map];rfl
  rw[er] at e1 hf
  obtain⟨t2,t3,e2⟩:=ih (some (.val (tx r))) u3 (((uW r).map mkS).foldl wU ks) (fun r' hr'=>h r' (mem_cons_of_mem _ hr')) (by omega)
  refine⟨t2,t3,?_⟩
  rw[List.flatMap_cons,map_append,List.foldl_append,← e2,map_cons]
  have g:Yn rgE 3 (Zy kyE) [some (.val A),none,some (.val (tx r)),s3] ks=some ([some (.val A),none,some (.val (tx r)),u3],((uW r).map mkS).foldl wU ks):=by
   unfold Yn
   have:rgE [some (.val A),none,some (.val (tx r)),s3]=.ok ((List.range r.length).map fun (k:Nat)=>D.int (0+k)):=jh (uq (zh rfl) (xh r (by omega))) (by omega)
   rw[this]
   exact e1
  show(Yn rgE 3 (Zy kyE) [some (.val A),none,some (.val (tx r)),s3] ks).bind _=_
  rw[g];rfl
theorem JB(f:FG2)(A:D)(τ:DS)(ks:List Str)(h:f [some (.val A),none,none,none] []=some (τ,ks))(hl:ks.length<64):xb 4 (jU 1 f) [A]=.ok (.lst ((STW.srtS ks).map D.str)):=by
 have st:zW 4 [A]=[some (.val A),none,none,none]:=rfl
 have v:vlB [some (.val A),none,none,none]=true:=rfl
 rw[z0,st]
 unfold jU
 rw[if_pos ⟨v,by simp⟩]
 have e:([some (.val A),none,none,none]:DS).set 1 none=[some (.val A),none,none,none]:=rfl
 rw[e,h]
 dsimp only
 rw[if_pos hl];rfl
theorem Wq(q:List Nat)(j:Nat)(hq:q.length≤5):yn [.lst ((Rk q j).map tx)]=.ok (.lst ((Rk q (j+1)).map tx)):=by
 have hl:=Vv q j hq
 obtain⟨t2,t3,e⟩:=zb0 (.lst ((Rk q j).map tx)) (Rk q j) none none [] (fun r hr=>by have:=(ZU q j r hr).2;omega) (by rw[length_nil];omega)
 unfold yn
 rw[Mf,JB _ _ [some (.val (.lst ((Rk q j).map tx))),none,t2,t3] (Xm ((Rk q j).flatMap uW)) ?_ (by have:=Gg q j hq;omega),sh_D]
 ·rfl
 ·unfold Yn
  have:wQ (zd 0) [some (.val (.lst ((Rk q j).map tx))),none,none,none]=.ok ((Rk q j).map tx):=YD (zh rfl)
  rw[this]
  exact e
def anE:FE:=(yg TK (za (fun τ=>((we 1 [1] (wQ (zd 3)) (gNm 0) (fun _=>.ok true) (zo vI (za (zd 0) (za (zd 1) zi)))) τ).bind fun ds=>.ok (.lst ds)) zi))
def whT:FT:=(wf (ve anE))
def whB:FS:=(zy (zX 3 (zo yn (za (zd 3) zi))) (jV 2 (xP fun i j=>.int (i+j)) (eC (.int 1))))
theorem M2:vL=(zy (zX 2 (eC (.int 0))) (zy (zX 3 (vR (za (zd 0) zi))) (zy (XM whT whB) (yA (zd 2))))):=by unfold vL whT whB anE;rfl
abbrev S4(q x:List Nat)(j:Nat):DS:=[some (.val (tx q)),some (.val (tx x)),some (.val (.int (j:Int))),some (.val (.lst ((Rk q j).map tx)))]
structure QX(q x:List Nat):Prop where
 q5:q.length≤5
 qs:∀c∈q,c<128
 xs:x.length≤1000
theorem QX.part{q x:List Nat}(h:QX q x){j:Nat}{s:List Nat}(hs:s∈Rk q j):s.length≤5∧∀c∈s,c<128:=by
 obtain⟨a,b⟩:=ZU q j s hs
 exact⟨by have:=h.q5;omega,fun c hc=>h.qs c (a.mem hc)⟩
theorem wh_t{q x:List Nat}(h:QX q x)(j:Nat):whT (S4 q x j)=.ok (!j9 q x j):=by
 unfold whT anE
 refine J3 (tru_ok (uq (frE (uc (YD (zh rfl)) (uG tx D.bl (fun s=>xX s x) (Rk q j) fun s hs=>⟨[some (.val (tx s)),some (.val (tx x))],rfl,?_⟩) ?_)) ?_))
 ·obtain⟨a,b⟩:=h.part hs
  exact um (zh rfl) (zh rfl) (W2 s x (by omega) h.xs b)
 ·have:=Vv q j h.q5;simp only[length_map];omega
 ·show(match xT (((Rk q j).map fun s=>xX s x).map D.bl) with|some bs=>Rs.ok (D.bl (bs.any id)) | none=>.no)=_
  rw[Yx]
  dsimp only
  rw[List.any_map];rfl
theorem lst1{fa:FE}{τ:DS}{a:D}(h1:fa τ=.ok a):vR (za fa zi) τ=.ok (.lst [a]):=by
 rw[ZL,arg1 h1,Rs.bind_ok]
 exact if_pos (size1 a)
theorem zc5{n:Nat}{τ:DS}{i k:Int}(h:τ[n]?=some (some (.val (.int i)))):jV n (xP fun i j=>.int (i+j)) (eC (.int k)) τ=.nx (τ.set n (some (.val (.int (i+k))))):=by
 rw[XO,zh h,Fl.of_ok];rfl
theorem wh_b{q x:List Nat}(h:QX q x)(j:Nat):whB (S4 q x j)=.nx (S4 q x (j+1)):=by
 unfold whB
 rw[yP (xr (UP (zh rfl) (Wq q j h.q5)))]
 show jV 2 _ _ [some (.val (tx q)),some (.val (tx x)),some (.val (.int (j:Int))),some (.val (.lst ((Rk q (j+1)).map tx)))]=_
 rw[zc5 (i:=(j:Int)) rfl];rfl
theorem G4{q x:List Nat}(h:QX q x):∀(n f j:Nat),j+n=q.length→n<f→ur whT whB f (S4 q x j)=.nx (S4 q x (lsl q x n j)):=fun n=>by
 induction n with
 |zero=>
  intro f j hj hf
  have e:j=q.length:=by omega
  obtain⟨f,rfl⟩:∃g,f=g+1:=⟨f-1,by omega⟩
  unfold ur
  rw[wh_t h,Fl.of_ok,e,UE];rfl
 |succ n ih=>
  intro f j hj hf
  obtain⟨f,rfl⟩:∃g,f=g+1:=⟨f-1,by omega⟩
  unfold ur lsl
  rw[wh_t h,Fl.of_ok]
  by_cases z:j9 q x j=true
  ·rw[z,if_pos rfl];rfl
  ·have z':j9 q x j=false:=by simpa using z
   rw[z']
   show(match whB (S4 q x j) with | .nx τ'=>ur whT whB f τ' | .rt d=>.rt d|_=>.no)=_
   rw[wh_b h,if_neg (by simp)]
   exact ih f (j+1) (by omega) (by omega)
theorem WL{q x:List Nat}(h:QX q x):yO [tx q,tx x]=.ok (.int (lst q x:Int)):=by
 have st:zW 4 [tx q,tx x]=[some (.val (tx q)),some (.val (tx x)),none,none]:=rfl
 have hq:=h.q5
 unfold yO
 rw[M2,z0,st,yP (xr (d:=.int 0) rfl)]
 show vQ (zy _ _ [some (.val (tx q)),some (.val (tx x)),some (.val (.int 0)),none])=_
 rw[yP (xr (lst1 (zh rfl)))]
 show vQ (zy _ _ (S4 q x 0))=_
 have hw:XM whT whB (S4 q x 0)=.nx (S4 q x (lst q x)):=G4 h q.length 64 0 (by omega) (by omega)
 rw[yP hw,XT (zh rfl)];rfl
def bwT:FT:=(vf (FD.tB (eOp y9 (zd 7) (eC .non))) (uV (FD.tB (eOp isD (zd 3) (eC .non))) (FD.tB (eOp gtD (eOp wP (eOp ixD (zd 7) (eC (.int 0))) (eOp w6 (eC (.int 15)) (zd 5))) (eOp ixD (zd 3) (eC (.int 0)))))))
def bwE:FE:=(wF (za (eOp wP (eOp ixD (zd 7) (eC (.int 0))) (eOp w6 (eC (.int 15)) (zd 5))) (za (zd 6) (za (eOp ixD (zd 7) (eC (.int 1))) zi))))
def bwI:FS:=(zy (zX 7 (zo wB (za (zd 6) (za (zd 1) zi)))) (sIf bwT (zX 3 bwE) zV))
def bwO:FS:=(zy (wj (wQ (zd 4)) (gNm 6) bwI) (zX 4 (zo yn (za (zd 4) zi))))
def bwR:FA:=(wn (za (eOp zU (yg ul (za (zd 2) (za (yg yv (za (zd 0) zi)) zi))) (eC (.int 1))) zi))
theorem bws_b:wt=(zy (zX 3 (eC .non)) (zy (zX 4 (vR (za (zd 0) zi))) (zy (wj bwR (gNm 5) bwO) (yA (zd 3))))):=by unfold wt bwR bwO bwI bwT bwE;rfl
abbrev S8(q x:List Nat)(m:Nat)(c:Ch)(R:List (List Nat))(s5 s6 s7:Option Sl):DS:=[some (.val (tx q)),some (.val (tx x)),some (.val (.int (m:Int))),some (.val (chD c)),some (.val (.lst (R.map tx))),s5,s6,s7]
theorem T5(c:Ch):isD (chD c) .non=.ok (.bl c.isNone):=by cases c <;> rfl
theorem Yh(c:Ch):y9 (chD c) .non=.ok (.bl c.isSome):=by cases c <;> rfl
theorem VS(t:Int×List Nat×List Nat):ixD (chD (some t)) (.int 0)=.ok (.int t.1):=rfl
theorem zb9(t:Int×List Nat×List Nat):ixD (chD (some t)) (.int 1)=.ok (tx t.2.1):=rfl
theorem ch_2(t:Int×List Nat×List Nat):ixD (chD (some t)) (.int 2)=.ok (nts t.2.2):=rfl
theorem bw_in{q x:List Nat}(m j:Nat)(c:Ch)(R:List (List Nat))(r:List Nat)(s7:Option Sl)(hr:r.length≤5)(hs:∀c∈r,c<128)(hx:x.length≤1000) :
  bwI (S8 q x m c R (some (.val (.int (j:Int)))) (some (.val (tx r))) s7)=.nx (S8 q x m (st1 x j c r) R (some (.val (.int (j:Int)))) (some (.val (tx r))) (some (.val (v4 (xq r x))))):=by
 unfold bwI
 rw[yP (xr (um (zh rfl) (zh rfl) (Vf r x (by omega) hx hs)))]
 show sIf bwT (zX 3 bwE) zV (S8 q x m c R (some (.val (.int (j:Int)))) (some (.val (tx r))) (some (.val (v4 (xq r x)))))=_
 unfold st1
 cases z:xq r x with
 |none=>rw[X8 (by unfold bwT;exact Lc (xW (op2 (zh rfl) rfl (by rfl))))]
 |some t=>
  have hv:eOp wP (eOp ixD (zd 7) (eC (.int 0))) (eOp w6 (eC (.int 15)) (zd 5)) (S8 q x m c R (some (.val (.int (j:Int)))) (some (.val (tx r))) (some (.val (tlD t))))=.ok (.int (t.1-15*(j:Int))):=
   op2 (op2 (zh rfl) rfl (Vo t)) (op2 rfl (zh rfl) (vH (.inl ⟨by decide,by decide⟩))) x6
  have hE:bwE (S8 q x m c R (some (.val (.int (j:Int)))) (some (.val (tx r))) (some (.val (tlD t))))=.ok (chD (some (t.1-15*(j:Int),r,t.2))):=tup3 hv (zh rfl) (op2 (zh rfl) rfl (Vn t))
  have h1:FD.tB (eOp y9 (zd 7) (eC .non)) (S8 q x m c R (some (.val (.int (j:Int)))) (some (.val (tx r))) (some (.val (tlD t))))=.ok true:=xW (op2 (zh rfl) rfl rfl)
  show sIf bwT (zX 3 bwE) zV (S8 q x m c R (some (.val (.int (j:Int)))) (some (.val (tx r))) (some (.val (tlD t))))=_
  cases c with
  |none=>
   rw[za8 (by unfold bwT;exact GU h1 (or_tl (xW (op2 (zh rfl) rfl (T5 none))))),xr hE];rfl
  |some b=>
   have hT:bwT (S8 q x m (some b) R (some (.val (.int (j:Int)))) (some (.val (tx r))) (some (.val (tlD t))))=.ok (decide (b.1<t.1-15*(j:Int))):=by
    unfold bwT
    exact GU h1 (QJ (xW (op2 (zh rfl) rfl (T5 (some b)))) (xW (op2 hv (op2 (zh rfl) rfl (VS b)) WW)))
   dsimp only
   by_cases y:b.1<t.1-15*(j:Int)
   ·rw[if_pos y,za8 (by rw[hT,decide_eq_true y]),xr hE];rfl
   ·rw[if_neg y,X8 (by rw[hT,decide_eq_false y])];rfl
theorem TB{q x:List Nat}(m j:Nat)(R0:List (List Nat))(hx:x.length≤1000):∀(R:List (List Nat)) (c:Ch) (s6 s7:Option Sl),(∀r∈R,r.length≤5∧∀c∈r,c<128) →
  ∃t6 t7,yB (gNm 6) bwI (R.map tx) (S8 q x m c R0 (some (.val (.int (j:Int)))) s6 s7)=.nx (S8 q x m (R.foldl (st1 x j) c) R0 (some (.val (.int (j:Int)))) t6 t7):=fun R=>by
 induction R with
 |nil=>intro c s6 s7 _;exact⟨s6,s7,rfl⟩
 |cons r R ih=>
  intro c s6 s7 h
  obtain⟨a,b⟩:=h r mem_cons_self
  obtain⟨t6,t7,e⟩:=ih (st1 x j c r) (some (.val (tx r))) (some (.val (v4 (xq r x)))) fun r' hr'=>h r' (mem_cons_of_mem _ hr')
  refine⟨t6,t7,?_⟩
  have g:gNm 6 (tx r) (S8 q x m c R0 (some (.val (.int (j:Int)))) s6 s7)=.ok (S8 q x m c R0 (some (.val (.int (j:Int)))) (some (.val (tx r))) s7):=rfl
  rw[map_cons,yB,g,Fl.of_ok,bw_in m j c R0 r s7 a b hx]
  exact e
theorem zc2{q x:List Nat}(h:QX q x)(m:Nat):∀(n k:Nat) (s5 s6 s7:Option Sl),
  ∃t5 t6 t7,yB (gNm 5) bwO ((List.range' k n).map fun (i:Nat)=>D.int i) (S8 q x m (chL x (itm q k) none) (Rk q k) s5 s6 s7)=.nx (S8 q x m (chL x (itm q (k+n)) none) (Rk q (k+n)) t5 t6 t7):=fun n=>by
 induction n with
 |zero=>intro k s5 s6 s7;exact⟨s5,s6,s7,rfl⟩
 |succ n ih=>
  intro k s5 s6 s7
  obtain⟨u6,u7,e1⟩:=TB (q:=q) m k (Rk q k) h.xs (Rk q k) (chL x (itm q k) none) s6 s7 fun r hr=>h.part hr
  obtain⟨t5,t6,t7,e2⟩:=ih (k+1) (some (.val (.int (k:Int)))) u6 u7
  refine⟨t5,t6,t7,?_⟩
  have g:gNm 5 (D.int (k:Int)) (S8 q x m (chL x (itm q k) none) (Rk q k) s5 s6 s7)=.ok (S8 q x m (chL x (itm q k) none) (Rk q k) (some (.val (.int (k:Int)))) s6 s7):=rfl
  have b:bwO (S8 q x m (chL x (itm q k) none) (Rk q k) (some (.val (.int (k:Int)))) s6 s7)=.nx (S8 q x m (chL x (itm q (k+1)) none) (Rk q (k+1)) (some (.val (.int (k:Int)))) u6 u7):=by
   unfold bwO
   rw[yP (τ':=S8 q x m ((Rk q k).foldl (st1 x k) (chL x (itm q k) none)) (Rk q k) (some (.val (.int (k:Int)))) u6 u7) (by rw[xQ,YD (ds:=(Rk q k).map tx) (zh rfl),Fl.of_ok];exact e1)]
   rw[xr (UP (zh rfl) (Wq q k h.q5)),Gj,Tv,Tu];rfl
  rw[range'_succ,map_cons,yB,g,Fl.of_ok,b]
  have en:k+(n+1)=k+1+n:=by omega
  rw[en]
  exact e2
theorem VW{q x:List Nat}(h:QX q x)(m:Nat)(hm:m≤100):zM [tx q,tx x,.int (m:Int)]=.ok (chD (ch q x m)):=by
 have st:zW 8 [tx q,tx x,.int (m:Int)]=[some (.val (tx q)),some (.val (tx x)),some (.val (.int (m:Int))),none,none,none,none,none]:=rfl
 have hq:=h.q5
 obtain⟨t5,t6,t7,e⟩:=zc2 h m (min m q.length+1) 0 none none none
 unfold zM
 rw[bws_b,z0,st,yP (xr (d:=.non) rfl)]
 show vQ (zy _ _ [some (.val (tx q)),some (.val (tx x)),some (.val (.int (m:Int))),some (.val .non),none,none,none,none])=_
 rw[yP (xr (lst1 (zh rfl)))]
 show vQ (zy _ _ (S8 q x m none (Rk q 0) none none none))=_
 have er:bwR (S8 q x m none (Rk q 0) none none none)=.ok ((List.range' 0 (min m q.length+1)).map fun (i:Nat)=>D.int i):=by
  unfold bwR
  have hmin:yg ul (za (zd 2) (za (yg yv (za (zd 0) zi)) zi)) (S8 q x m none (Rk q 0) none none none)=.ok (.int (min m q.length:Nat)):=blt2 (zh rfl) (uq (zh rfl) (xh q (by omega))) (by
   rw[VG];congr 2
   rw[Nat.min_def]
   split <;> split <;> omega)
  rw[← range_eq_range',← XR]
  exact jh (n:=min m q.length+1) (op2 hmin rfl (by rw[y7];congr 2)) (by omega)
 rw[yP (τ':=S8 q x m (chL x (itm q (0+(min m q.length+1))) none) (Rk q (0+(min m q.length+1))) t5 t6 t7) (by rw[xQ,er,Fl.of_ok];exact e),XT (zh rfl)]
 rw[zero_add];rfl
def wE:FE:=fun τ=>((we 1 [1,2] (wQ (zd 0)) (gNm 0) (fun _=>.ok true) (zo zM (za (zd 1) (za (zd 0) (za (zd 2) zi))))) τ).bind fun ds=>.ok (.lst ds)
def rwE:FE:=fun τ=>((we 2 [] (iEn (za (zd 4) zi)) (gPr 0 1) (FD.tB (eOp y9 (zd 1) (eC .non))) (wF (za (eOp ixD (zd 1) (eC (.int 0))) (za (zd 0) zi)))) τ).bind fun ds=>.ok (.lst ds)
theorem fws_b:wb=(zy (zX 4 wE) (zy (zX 5 rwE) (yA (zo yJ (za (zd 0) (za (zd 5) (za (zd 3) zi))))))):=by unfold wb wE rwE;rfl
def orS(q:List Nat)(m:Nat)(p:List Nat×Nat):Option Rw:=(ch q p.1 m).map fun t=>(t.1,p.2)
def sR(X:List (List Nat))(q:List Nat)(m:Nat):List Rw:=X.zipIdx.filterMap (orS q m)
theorem Ln(q:List Nat)(m:Nat)(X:List (List Nat)):∀k,((((X.zipIdx k).filterMap (orS q m))).map (·.2)).Sublist (List.range' k X.length):=by
 induction X with
 |nil=>intro k;exact List.Sublist.refl _
 |cons x X ih=>
  intro k
  have:=ih (k+1)
  rw[zipIdx_cons,length_cons,range'_succ]
  cases z:ch q x m with
  |none=>rw[List.filterMap_cons_none (by simp[orS,z])];exact List.Sublist.cons _ this
  |some v=>rw[List.filterMap_cons_some (b:=(v.1,k)) (by simp[orS,z]),map_cons];exact this.cons_cons _
theorem TU(X:List (List Nat))(q:List Nat)(m:Nat)(hX:∀x∈X,x.length≤1000)(hl:X.length<64):TR X (sR X q m):=by
 have s:=Ln q m X 0
 rw[← range_eq_range'] at s
 refine⟨?_,s.nodup List.nodup_range,fun r hr=>?_,hX⟩
 ·have:=s.length_le
  rw[length_map,length_range] at this
  unfold sR;omega
 ·have:=s.mem (mem_map.mpr ⟨r,hr,rfl⟩)
  simpa using this
theorem Tr{set:FG}{ft:FT}{fe:FE}{τ:DS}{α β:Type}(f:α→D)(g:β→D)(h:α→Option β):∀(xs:List α),(∀a∈xs,∃τ1,set (f a) τ=.ok τ1∧ft τ1=.ok (h a).isSome∧∀b,h a=some b→fe τ1=.ok (g b))→wN set ft fe τ (xs.map f)=.ok ((xs.filterMap h).map g):=fun xs=>by
 induction xs with
 |nil=>intro _;rfl
 |cons a xs ih=>
  intro H
  obtain⟨τ1,h1,h2,h3⟩:=H a mem_cons_self
  have ih:=ih fun b hb=>H b (mem_cons_of_mem _ hb)
  rw[map_cons,wN]
  simp only[h1]
  cases z:h a with
  |none=>
   rw[z] at h2
   rw[List.filterMap_cons_none z]
   simp only[h2,Option.isSome_none]
   exact ih
  |some b=>
   rw[z] at h2
   rw[List.filterMap_cons_some z]
   simp only[h2,Option.isSome_some,h3 b z]
   rw[ih];rfl
theorem Tk(q:List Nat)(m:Nat)(X:List (List Nat)):∀k,xu k (X.map fun x=>chD (ch q x m))=(X.zipIdx k).map fun p=>D.tup [.int (p.2:Int),chD (ch q p.1 m)]:=W8 (fun x=>chD (ch q x m)) X
theorem Gs(X:List (List Nat))(q:List Nat)(m many:Nat)(hm:m≤100)(hq:q.length≤5)(ha:∀c∈q,c<128)(hX:∀x∈X,x.length≤1000)(hl:X.length<64):yf [.lst (X.map tx),tx q,.int (m:Int),.int (many:Int)]=.ok (.lst (((ut (Yg X) (sR X q m)).take many).map xl)):=by
 have st:zW 6 [.lst (X.map tx),tx q,.int (m:Int),.int (many:Int)]=[some (.val (.lst (X.map tx))),some (.val (tx q)),some (.val (.int (m:Int))),some (.val (.int (many:Int))),none,none]:=rfl
 have e1:wE [some (.val (.lst (X.map tx))),some (.val (tx q)),some (.val (.int (m:Int))),some (.val (.int (many:Int))),none,none]=.ok (.lst (X.map fun x=>chD (ch q x m))):=by
  unfold wE
  have c:=uG (set:=gNm 0) (fe:=(zo zM (za (zd 1) (za (zd 0) (za (zd 2) zi))))) (τ:=[none,some (.val (tx q)),some (.val (.int (m:Int)))]) tx (fun x=>chD (ch q x m)) id X fun x hx=>⟨[some (.val (tx x)),some (.val (tx q)),some (.val (.int (m:Int)))],rfl,ww (zh rfl) (zh rfl) (zh rfl) (VW ⟨hq,ha,hX x hx⟩ m hm)⟩
  rw[map_id] at c
  exact frE (uc (YD (zh rfl)) c (by rw[length_map];omega))
 have e2:rwE [some (.val (.lst (X.map tx))),some (.val (tx q)),some (.val (.int (m:Int))),some (.val (.int (many:Int))),some (.val (.lst (X.map fun x=>chD (ch q x m)))),none]=.ok (.lst ((sR X q m).map xl)):=by
  unfold rwE
  refine frE (uc (ds:=X.zipIdx.map fun p:List Nat×Nat=>D.tup [.int (p.2:Int),chD (ch q p.1 m)]) ?_ (Tr (fun p:List Nat×Nat=>D.tup [.int (p.2:Int),chD (ch q p.1 m)]) xl (orS q m) X.zipIdx fun p hp=>⟨[some (.val (.int (p.2:Int))),some (.val (chD (ch q p.1 m)))],rfl,?_,fun b hb=>?_⟩) ?_)
  ·unfold iEn
   rw[arg1 (zh (d:=.lst (X.map fun x=>chD (ch q x m))) rfl),Rs.bind_ok]
   show Rs.ok (xu 0 (X.map fun x=>chD (ch q x m)))=_
   rw[Tk]
  ·refine xW (op2 (zh rfl) rfl ?_)
   rw[Yh];unfold orS;cases ch q p.1 m <;> rfl
  ·unfold orS at hb
   cases z:ch q p.1 m with
   |none=>rw[z] at hb;cases hb
   |some t=>
    rw[z] at hb;cases hb
    exact Vm (op2 (zh rfl) rfl (VS t)) (zh rfl)
  ·have:=(TU X q m hX hl).few
   rw[length_map]
   show(sR X q m).length≤_
   omega
 unfold yf
 rw[fws_b,z0,st,yP (xr e1)]
 show vQ (zy _ _ [some (.val (.lst (X.map tx))),some (.val (tx q)),some (.val (.int (m:Int))),some (.val (.int (many:Int))),some (.val (.lst (X.map fun x=>chD (ch q x m)))),none])=_
 rw[yP (xr e2)]
 exact congrArg vQ (XT (ww (zh rfl) (zh rfl) (zh rfl) (W5 X _ many (TU X q m hX hl))))
theorem G2(X:List (List Nat)):X.zipIdx=(List.range X.length).map fun i=>(X.getD i [],i):=by
 refine List.ext_getElem (by simp) fun i h1 h2=>?_
 have h:i<X.length:=by simpa using h1
 simp[h]
theorem Mh(X:List (List Nat))(q:List Nat):sR X q 0=Ve X q:=by
 unfold sR
 rw[G2,List.filterMap_map]
 unfold Ve W4
 induction List.range X.length with
 |nil=>rfl
 |cons i is ih=>
  rw[List.flatMap_cons,← ih]
  show List.filterMap (fun i=>orS q 0 (X.getD i [],i)) (i::is)=(fr1 X q i).toList++List.filterMap (fun i=>orS q 0 (X.getD i [],i)) is
  have e:orS q 0 (X.getD i [],i)=fr1 X q i:=by unfold orS fr1;rw[TF,Option.map_map];rfl
  cases z:fr1 X q i with
  |none=>rw[List.filterMap_cons_none (by rw[e,z])];rfl
  |some r=>rw[List.filterMap_cons_some (b:=r) (by rw[e,z])];rfl
theorem Lo(X:List (List Nat))(q:List Nat):(sR X q q.length).length=X.length:=by
 unfold sR
 have:∀(l:List (List Nat×Nat)),(l.filterMap (orS q q.length)).length=l.length:=fun l=>by
  induction l with
  |nil=>rfl
  |cons p l ih=>
   have hs:(ch q p.1 q.length).isSome=true:=by rw[UN q p.1 q.length (le_refl _),decide_eq_true (lst_ok q p.1).2.1]
   obtain⟨t,e⟩:=Option.isSome_iff_exists.mp hs
   rw[List.filterMap_cons_some (b:=(t.1,p.2)) (by unfold orS;rw[e];rfl),length_cons,length_cons,ih]
 rw[this,List.length_zipIdx]
def flS:FS:=yA (eC (.bl false))
def nmE:FE:=(zo xE (za (zd 0) (za (eC (.int 0)) (za (eC (.int 4)) zi))))
def atE:FE:=(zo zr (za (zd 0) (za (eC (.int 77)) (za (eOp zU (yg yv (za (zd 2) zi)) (eC (.int 1))) zi))))
def loE:FE:=(eOp zU (eOp zU (eSl (zd 2) uk (wm (zd 3))) (eOp ixD (eC (.str "abx1B")) (zo zr (za (zd 0) (za (eC (.int 78)) (za (eC (.int 5)) zi)))))) (eSl (zd 2) (wm (zd 3)) uk))
def g1T:FT:=(FD.tB (eOp neD (zo yf (za (zd 1) (za (zd 2) (za (eC (.int 0)) (za (eC (.int 99)) zi))))) (zo v9 (za (zd 1) (za (zd 2) (za (eC (.int 99)) zi))))))
def g2T:FT:=(uV (FD.tB (eOp neD (eOp eqD (zd 6) (eC (.int 0))) (zo vI (za (zd 2) (za (zd 5) zi))))) (wf (FD.tB (Za leD leD (zd 6) (zo yO (za (zd 4) (za (zd 5) zi))) (eOp zU (zd 6) (eC (.int 1)))))))
def g3T:FT:=(FD.tB (eOp neD (eOp y9 (zd 9) (eC .non)) (eOp geD (zd 8) (zd 6))))
def g4T:FT:=(vf (FD.tB (eOp y9 (zd 7) (eC .non))) (FD.tB (eOp ltI (eOp ixD (zd 9) (eC (.int 0))) (zd 7))))
def ptE:FE:=(zo vn (za (eOp ixD (zd 9) (eC (.int 1))) (za (zd 5) (za (eOp ixD (zd 9) (eC (.int 2))) zi))))
def g5T:FT:=(uV (wf (ve (zo yR (za (eOp ixD (zd 9) (eC (.int 1))) (za (zd 5) (za (eOp ixD (zd 9) (eC (.int 2))) zi)))))) (FD.tB (eOp neD (eOp ixD (zd 9) (eC (.int 0))) (eOp wP (zd 10) (eOp w6 (eC (.int 15)) (eOp wP (yg yv (za (zd 2) zi)) (yg yv (za (eOp ixD (zd 9) (eC (.int 1))) zi))))))))
def g6T:FT:=(FD.tB (eOp ltI (eOp ixD (zo zM (za (zd 4) (za (zd 5) (za (eOp zU (zd 8) (eC (.int 1))) zi)))) (eC (.int 0))) (eOp wP (eOp ixD (zd 9) (eC (.int 0))) (eC (.int 15)))))
def inS:FS:=(zy (sIf g4T flS zV) (zy (zX 7 (eOp ixD (zd 9) (eC (.int 0)))) (zy (zX 10 ptE) (zy (sIf g5T flS zV) (sIf g6T flS zV)))))
def b2S:FS:=(zy (zX 9 (zo zM (za (zd 2) (za (zd 5) (za (zd 8) zi))))) (zy (sIf g3T flS zV) (sIf (FD.tB (eOp y9 (zd 9) (eC .non))) inS zV)))
def rgS:FA:=(wn (za (eOp zU (yg yv (za (zd 2) zi)) (eC (.int 1))) zi))
def b1S:FS:=(zy (zX 6 (zo yO (za (zd 2) (za (zd 5) zi)))) (zy (sIf g2T flS zV) (zy (zX 7 (eC .non)) (wj rgS (gNm 8) b2S))))
def laE:FE:=(eOp eqD (yg yv (za (zo yf (za (zd 1) (za (zd 2) (za (yg yv (za (zd 2) zi)) (za (eC (.int 99)) zi))))) zi)) (yg yv (za (zd 1) zi)))
theorem law_b:GR=(zy (zX 1 nmE) (zy (zX 2 (qE 80 79 4)) (zy (zX 3 atE) (zy (zX 4 loE) (zy (sIf g1T flS zV) (zy (wj (wQ (zd 1)) (gNm 5) b1S) (yA laE))))))):=by
 unfold GR nmE qE atE loE g1T b1S g2T rgS b2S g3T inS g4T ptE g5T g6T laE flS;rfl
section
variable{ns:List Int}{X:List (List Nat)}{u v x:List Nat}{c a:Nat}{s5 s6 s7 s8 s9 s10:Option Sl}
abbrev S(ns:List Int)(X:List (List Nat))(u v:List Nat)(c a:Nat)(s5 s6 s7 s8 s9 s10:Option Sl):DS:=[some (.val (.scr ns)),some (.val (.lst (X.map tx))),some (.val (tx (u++v))),some (.val (.int (a:Int))),some (.val (tx (u++c::v))),s5,s6,s7,s8,s9,s10]
structure Ok2(X:List (List Nat))(u v:List Nat)(c:Nat):Prop where
 q4:(u++v).length≤4
 us:∀d∈u,d<128
 vs:∀d∈v,d<128
 cs:c<128
 xs:∀x∈X,x.length≤1000
 few:X.length≤4
theorem Ok2.qx(h:Ok2 X u v c)(hx:x∈X):QX (u++v) x:=⟨by have:=h.q4;omega,fun d hd=>(mem_append.mp hd).elim (h.us d) (h.vs d),h.xs x hx⟩
theorem Ok2.lx(h:Ok2 X u v c)(hx:x∈X):QX (u++c::v) x:=by
 refine⟨?_,fun d hd=>?_,h.xs x hx⟩
 ·have:=h.q4
  simp only[length_append,length_cons] at this ⊢;omega
 ·rcases mem_append.mp hd with z|z
  ·exact h.us d z
  ·rcases mem_cons.mp z with rfl|z
   ·exact h.cs
   ·exact h.vs d z
theorem g2_ok(h:Ok2 X u v c)(hx:x∈X):g2T (S ns X u v c a (some (.val (tx x))) (some (.val (.int (lst (u++v) x:Int)))) s7 s8 s9 s10)=.ok false:=by
 have hq:=h.q4
 obtain⟨m1,m2⟩:=Q2 u v x c
 unfold g2T
 refine QJ (xW (op2 (op2 (zh rfl) rfl wX) (um (zh rfl) (zh rfl) (W2 (u++v) x (by omega) (h.xs x hx) (h.qx hx).qs)) ?_)) (J3 (b:=true) (xW (GI (zh rfl) (um (zh rfl) (zh rfl) (WL (h.lx hx))) (op2 (zh rfl) rfl y7) ?_ ?_)))
 ·rw[T0]
  have:=Q1 (u++v) x
  cases z:xX (u++v) x with
  |true=>rw[this.mpr z];rfl
  |false=>
   have n:¬ lst (u++v) x=0:=fun y=>by rw[this.mp y] at z;cases z
   have n':((lst (u++v) x:Int)==0)=false:=by simpa using n
   rw[n'];rfl
 ·rw[T2,decide_eq_true (by omega)]
 ·rw[T2,decide_eq_true (by omega)]
def BF(q x:List Nat)(m:Nat)(d:D):Prop:=d=.non∨∃m' t,m'<m∧ch q x m'=some t∧d=.int t.1
theorem in_ok(h:Ok2 X u v c)(hx:x∈X)(m:Nat)(hm:m≤4)(d:D)(hb:BF (u++v) x m d)(t:Int×List Nat×List Nat)(e:ch (u++v) x m=some t) :
  ∃t10,inS (S ns X u v c a (some (.val (tx x))) s6 (some (.val d)) (some (.val (.int (m:Int)))) (some (.val (chD (some t)))) s10)=.nx (S ns X u v c a (some (.val (tx x))) s6 (some (.val (.int t.1))) (some (.val (.int (m:Int)))) (some (.val (chD (some t)))) t10):=by
 have hq:=h.q4
 obtain⟨l1,l2,l3⟩:=zb8 _ _ _ _ e
 have hl:=l3.length_le
 have hs:∀d∈t.2.1,d<128:=fun d hd=>(h.qx hx).qs d (l3.mem hd)
 obtain⟨w,e2,h2⟩:=Ts u v x c m t e
 refine⟨some (.val (.int (pts t.2.1 x t.2.2 t.2.1.length))),?_⟩
 unfold inS
 have f4:g4T (S ns X u v c a (some (.val (tx x))) s6 (some (.val d)) (some (.val (.int (m:Int)))) (some (.val (chD (some t)))) s10)=.ok false:=by
  unfold g4T
  rcases hb with rfl|⟨m',b,h1,h3,rfl⟩
  ·exact Lc (xW (op2 (zh rfl) rfl rfl))
  ·obtain⟨t',e3,h4⟩:=Tt _ _ m' m (by omega) b h3
   rw[e] at e3;cases e3
   exact GU (xW (op2 (zh rfl) rfl rfl)) (xW (op2 (op2 (zh rfl) rfl (VS t)) (zh rfl) (by rw[Yc,decide_eq_false (by omega)])))
 rw[yP (X8 f4),yP (xr (op2 (zh rfl) rfl (VS t)))]
 show zy _ _ (S ns X u v c a (some (.val (tx x))) s6 (some (.val (.int t.1))) (some (.val (.int (m:Int)))) (some (.val (chD (some t)))) s10)=_
 rw[yP (xr (show ptE (S ns X u v c a (some (.val (tx x))) s6 (some (.val (.int t.1))) (some (.val (.int (m:Int)))) (some (.val (chD (some t)))) s10)=_ from ww (op2 (zh rfl) rfl (zb9 t)) (zh rfl) (op2 (zh rfl) rfl (ch_2 t)) (U8 t.2.1 x t.2.2 (by omega) (h.xs x hx) hs l1)))]
 show zy _ _ (S ns X u v c a (some (.val (tx x))) s6 (some (.val (.int t.1))) (some (.val (.int (m:Int)))) (some (.val (chD (some t)))) (some (.val (.int (pts t.2.1 x t.2.2 t.2.1.length)))))=_
 have f5:g5T (S ns X u v c a (some (.val (tx x))) s6 (some (.val (.int t.1))) (some (.val (.int (m:Int)))) (some (.val (chD (some t)))) (some (.val (.int (pts t.2.1 x t.2.2 t.2.1.length)))))=.ok false:=by
  unfold g5T
  refine QJ (J3 (b:=true) (tru_ok (ww (op2 (zh rfl) rfl (zb9 t)) (zh rfl) (op2 (zh rfl) rfl (ch_2 t)) (Ga t.2.1 x t.2.2 (by omega) (h.xs x hx) hs l1)))) ?_
  refine xW (op2 (op2 (zh rfl) rfl (VS t)) (op2 (zh rfl) (op2 rfl (op2 (uq (zh rfl) (xh _ (by omega))) (uq (op2 (zh rfl) rfl (zb9 t)) (xh _ (by omega))) x6) (vH (.inl ⟨by decide,by decide⟩))) x6) ?_)
  rw[T1,l2];simp
 have f6:g6T (S ns X u v c a (some (.val (tx x))) s6 (some (.val (.int t.1))) (some (.val (.int (m:Int)))) (some (.val (chD (some t)))) (some (.val (.int (pts t.2.1 x t.2.2 t.2.1.length)))))=.ok false:=by
  unfold g6T
  have hb:=VW (h.lx hx) (m+1) (by omega)
  rw[e2] at hb
  refine xW (op2 (op2 (ww (zh rfl) (zh rfl) (op2 (zh rfl) rfl y7) hb) rfl (VS w)) (op2 (op2 (zh rfl) rfl (VS t)) rfl x6) ?_)
  rw[Yc,decide_eq_false (by omega)]
 rw[yP (X8 f5),X8 f6]
theorem b2_ok(h:Ok2 X u v c)(hx:x∈X)(m:Nat)(hm:m≤(u++v).length)(d:D)(hb:BF (u++v) x m d) :
  ∃d' t9 t10,b2S (S ns X u v c a (some (.val (tx x))) (some (.val (.int (lst (u++v) x:Int)))) (some (.val d)) (some (.val (.int (m:Int)))) s9 s10)=.nx (S ns X u v c a (some (.val (tx x))) (some (.val (.int (lst (u++v) x:Int)))) (some (.val d')) (some (.val (.int (m:Int)))) t9 t10)∧BF (u++v) x (m+1) d':=by
 have hq:=h.q4
 unfold b2S
 rw[yP (xr (ww (zh rfl) (zh rfl) (zh rfl) (VW (h.qx hx) m (by omega))))]
 show ∃d' t9 t10,zy _ _ (S ns X u v c a (some (.val (tx x))) (some (.val (.int (lst (u++v) x:Int)))) (some (.val d)) (some (.val (.int (m:Int)))) (some (.val (chD (ch (u++v) x m)))) s10)=_∧_
 have f3:g3T (S ns X u v c a (some (.val (tx x))) (some (.val (.int (lst (u++v) x:Int)))) (some (.val d)) (some (.val (.int (m:Int)))) (some (.val (chD (ch (u++v) x m)))) s10)=.ok false:=by
  unfold g3T
  refine xW (op2 (op2 (zh rfl) rfl (Yh _)) (op2 (zh rfl) (zh rfl) Gr) ?_)
  rw[T0,UN _ _ _ hm]
  have:decide ((lst (u++v) x:Int)≤(m:Int))=decide (lst (u++v) x≤m):=decide_eq_decide.mpr (by omega)
  rw[this];simp
 rw[yP (X8 f3)]
 have ft:FD.tB (eOp y9 (zd 9) (eC .non)) (S ns X u v c a (some (.val (tx x))) (some (.val (.int (lst (u++v) x:Int)))) (some (.val d)) (some (.val (.int (m:Int)))) (some (.val (chD (ch (u++v) x m)))) s10)=.ok (ch (u++v) x m).isSome:=xW (op2 (zh rfl) rfl (Yh _))
 cases e:ch (u++v) x m with
 |none=>
  rw[e] at ft
  refine⟨d,_,_,by rw[X8 ft],?_⟩
  rcases hb with z|⟨m',b,h1,h3,z⟩
  ·exact .inl z
  ·exact .inr ⟨m',b,by omega,h3,z⟩
 |some t=>
  rw[e] at ft
  obtain⟨t10,e2⟩:=in_ok (ns:=ns) (a:=a) (s6:=some (.val (.int (lst (u++v) x:Int)))) (s10:=s10) h hx m (by omega) d hb t e
  exact⟨.int t.1,_,t10,by rw[za8 ft,e2],.inr ⟨m,t,Nat.lt_succ_self _,e,rfl⟩⟩
theorem lp2(h:Ok2 X u v c)(hx:x∈X):∀(n k:Nat) (d:D) (s8 s9 s10:Option Sl),k+n=(u++v).length+1→BF (u++v) x k d →
  ∃t7 t8 t9 t10,yB (gNm 8) b2S ((List.range' k n).map fun (i:Nat)=>D.int i) (S ns X u v c a (some (.val (tx x))) (some (.val (.int (lst (u++v) x:Int)))) (some (.val d)) s8 s9 s10)=.nx (S ns X u v c a (some (.val (tx x))) (some (.val (.int (lst (u++v) x:Int)))) t7 t8 t9 t10):=fun n=>by
 induction n with
 |zero=>intro k d s8 s9 s10 _ _;exact⟨_,s8,s9,s10,rfl⟩
 |succ n ih=>
  intro k d s8 s9 s10 hk hb
  obtain⟨d',u9,u10,e1,hb'⟩:=b2_ok (ns:=ns) (a:=a) (s9:=s9) (s10:=s10) h hx k (by omega) d hb
  obtain⟨t7,t8,t9,t10,e2⟩:=ih (k+1) d' (some (.val (.int (k:Int)))) u9 u10 (by omega) hb'
  refine⟨t7,t8,t9,t10,?_⟩
  have g:gNm 8 (D.int (k:Int)) (S ns X u v c a (some (.val (tx x))) (some (.val (.int (lst (u++v) x:Int)))) (some (.val d)) s8 s9 s10)=.ok (S ns X u v c a (some (.val (tx x))) (some (.val (.int (lst (u++v) x:Int)))) (some (.val d)) (some (.val (.int (k:Int)))) s9 s10):=rfl
  rw[range'_succ,map_cons,yB,g,Fl.of_ok,e1]
  exact e2
theorem b1_ok(h:Ok2 X u v c)(hx:x∈X):∃t6 t7 t8 t9 t10,b1S (S ns X u v c a (some (.val (tx x))) s6 s7 s8 s9 s10)=.nx (S ns X u v c a (some (.val (tx x))) t6 t7 t8 t9 t10):=by
 have hq:=h.q4
 obtain⟨t7,t8,t9,t10,e⟩:=lp2 (ns:=ns) (a:=a) h hx ((u++v).length+1) 0 .non s8 s9 s10 (by omega) (.inl rfl)
 refine⟨some (.val (.int (lst (u++v) x:Int))),t7,t8,t9,t10,?_⟩
 unfold b1S
 rw[yP (xr (um (zh rfl) (zh rfl) (WL (h.qx hx))))]
 show zy _ _ (S ns X u v c a (some (.val (tx x))) (some (.val (.int (lst (u++v) x:Int)))) s7 s8 s9 s10)=_
 rw[yP (X8 (g2_ok h hx)),yP (xr (d:=.non) rfl)]
 show wj _ _ _ (S ns X u v c a (some (.val (tx x))) (some (.val (.int (lst (u++v) x:Int)))) (some (.val .non)) s8 s9 s10)=_
 have er:rgS (S ns X u v c a (some (.val (tx x))) (some (.val (.int (lst (u++v) x:Int)))) (some (.val .non)) s8 s9 s10)=.ok ((List.range' 0 ((u++v).length+1)).map fun (i:Nat)=>D.int i):=by
  unfold rgS
  rw[← range_eq_range',← XR]
  exact jh (n:=(u++v).length+1) (op2 (uq (zh rfl) (xh _ (by omega))) rfl (by rw[y7];congr 2)) (by omega)
 rw[xQ,er,Fl.of_ok]
 exact e
theorem lp1(h:Ok2 X u v c):∀(Y:List (List Nat)) (s5 s6 s7 s8 s9 s10:Option Sl),(∀x∈Y,x∈X) →
  ∃t5 t6 t7 t8 t9 t10,yB (gNm 5) b1S (Y.map tx) (S ns X u v c a s5 s6 s7 s8 s9 s10)=.nx (S ns X u v c a t5 t6 t7 t8 t9 t10):=fun Y=>by
 induction Y with
 |nil=>intro s5 s6 s7 s8 s9 s10 _;exact⟨s5,s6,s7,s8,s9,s10,rfl⟩
 |cons x Y ih=>
  intro s5 s6 s7 s8 s9 s10 hY
  obtain⟨u6,u7,u8,u9,u10,e1⟩:=b1_ok (ns:=ns) (a:=a) (s6:=s6) (s7:=s7) (s8:=s8) (s9:=s9) (s10:=s10) h (hY x mem_cons_self)
  obtain⟨t5,t6,t7,t8,t9,t10,e2⟩:=ih (some (.val (tx x))) u6 u7 u8 u9 u10 fun y hy=>hY y (mem_cons_of_mem _ hy)
  refine⟨t5,t6,t7,t8,t9,t10,?_⟩
  have g:gNm 5 (tx x) (S ns X u v c a s5 s6 s7 s8 s9 s10)=.ok (S ns X u v c a (some (.val (tx x))) s6 s7 s8 s9 s10):=rfl
  rw[map_cons,yB,g,Fl.of_ok,e1]
  exact e2
end
def abL:List Nat:=[97,98,120,49,66]
theorem ab_s:("abx1B" : Str)=⟨abL.toArray⟩:=by decide +kernel
theorem main:∀ns:List Int,ns.length≤63→Up [.scr ns]=.ok (.bl true):=fun ns h63=>by
 obtain⟨X,en,hl,hX⟩:=QW ns 0 4 h63 (by decide) (by decide) (by decide) (by decide)
 obtain⟨q,q1,q2,eq⟩:=qE_ok ns X 80 79 4 h63 (by decide) (by decide) (by decide) (by decide) (by decide) (by decide) hX (by omega) [none,none,none,none,none,none,none,none,none]
 have hq4:q.length≤4:=by omega
 have ha:∀c∈q,c<128:=fun c hc=>(f6 c (q2 c hc)).1
 have hX':∀x∈X,x.length≤1000:=fun x hx=>le_trans (hX x hx).2.1 (by decide)
 have dl:=wq ns 77 (m:=(q.length:Int)+1) (by omega)
 have dk:=wo ns 77 ((q.length:Int)+1) h63 (by decide) (by omega) (by omega)
 obtain⟨a,ea⟩:∃a:Nat,xU ns 77 ((q.length:Int)+1)=(a:Int):=⟨_,(toNat_of_nonneg dl.1).symm⟩
 rw[ea] at dk dl
 have dl2:=wq ns 78 (m:=5) (by omega)
 have dk2:=wo ns 78 5 h63 (by decide) (by decide) (by decide)
 obtain⟨m,em⟩:∃m:Nat,xU ns 78 5=(m:Int):=⟨_,(toNat_of_nonneg dl2.1).symm⟩
 rw[em] at dk2 dl2
 have hm:m<abL.length:=by show m<5;omega
 have hc:abL[m]<128:=(by decide:∀c∈abL,c<128) _ (getElem_mem hm)
 have ix:ixD (.str "abx1B") (.int (m:Int))=.ok (ym abL[m]):=by
  rw[ab_s]
  exact Wj abL m _ (getElem?_eq_getElem hm) (by decide)
 generalize abL[m]=c at ix hc
 have hal:a≤q.length:=by omega
 have st:zW 11 [.scr ns]=[some (.val (.scr ns)),none,none,none,none,none,none,none,none,none,none]:=rfl
 have e1:nmE [some (.val (.scr ns)),none,none,none,none,none,none,none,none,none,none]=.ok (.lst (X.map tx)):=ww (zh rfl) rfl rfl en
 have e3:atE [some (.val (.scr ns)),some (.val (.lst (X.map tx))),some (.val (tx q)),none,none,none,none,none,none,none,none]=.ok (.int (a:Int)):=ww (zh rfl) rfl (op2 (uq (zh rfl) (xh q (by omega))) rfl y7) dk
 have e4:loE [some (.val (.scr ns)),some (.val (.lst (X.map tx))),some (.val (tx q)),some (.val (.int (a:Int))),none,none,none,none,none,none,none]=.ok (tx (q.take a++c::q.drop a)):=by
  unfold loE
  refine op2 (a:=tx (q.take a++[c])) (b:=tx (q.drop a)) (op2 (Wo (zh rfl) rfl (Uj (zh rfl)) (Qf q (by omega) a)) (op2 rfl (ww (zh rfl) rfl rfl dk2) ix) (V0 _ [c] (by rw[length_take];omega) (by show 1≤1000;omega))) (Wo (zh rfl) (Uj (zh rfl)) rfl (Wp q (by omega) a hal)) ?_
  rw[V0 _ _ (by rw[length_append,length_take];simp;omega) (by rw[length_drop];omega),append_assoc];rfl
 have euv:q.take a++q.drop a=q:=List.take_append_drop a q
 have hk:Ok2 X (q.take a) (q.drop a) c:=⟨by rw[euv];exact hq4,fun d hd=>ha d ((List.take_sublist _ _).mem hd),fun d hd=>ha d ((List.drop_sublist _ _).mem hd),hc,hX',by omega⟩
 unfold Up
 rw[law_b,z0,st,yP (xr e1)]
 show vQ (zy _ _ [some (.val (.scr ns)),some (.val (.lst (X.map tx))),none,none,none,none,none,none,none,none,none])=_
 rw[yP (xr eq)]
 show vQ (zy _ _ [some (.val (.scr ns)),some (.val (.lst (X.map tx))),some (.val (tx q)),none,none,none,none,none,none,none,none])=_
 rw[yP (xr e3)]
 show vQ (zy _ _ [some (.val (.scr ns)),some (.val (.lst (X.map tx))),some (.val (tx q)),some (.val (.int (a:Int))),none,none,none,none,none,none,none])=_
 rw[yP (xr e4)]
 show vQ (zy _ _ [some (.val (.scr ns)),some (.val (.lst (X.map tx))),some (.val (tx q)),some (.val (.int (a:Int))),some (.val (tx (q.take a++c::q.drop a))),none,none,none,none,none,none])=_
 have e5:g1T [some (.val (.scr ns)),some (.val (.lst (X.map tx))),some (.val (tx q)),some (.val (.int (a:Int))),some (.val (tx (q.take a++c::q.drop a))),none,none,none,none,none,none]=.ok false:=by
  unfold g1T
  refine xW (op2 (VV (zh rfl) (zh rfl) rfl rfl (Gs X q 0 99 (by decide) (by omega) ha hX' (by omega))) (ww (zh rfl) (zh rfl) rfl (Gw X q 99 (by omega) hX' ha (by omega))) ?_)
  rw[Mh]
  exact MU _
 rw[yP (X8 e5)]
 obtain⟨t5,t6,t7,t8,t9,t10,e6⟩:=lp1 (ns:=ns) (a:=a) hk X none none none none none none fun x hx=>hx
 have e6':wj (wQ (zd 1)) (gNm 5) b1S [some (.val (.scr ns)),some (.val (.lst (X.map tx))),some (.val (tx q)),some (.val (.int (a:Int))),some (.val (tx (q.take a++c::q.drop a))),none,none,none,none,none,none]=.nx [some (.val (.scr ns)),some (.val (.lst (X.map tx))),some (.val (tx q)),some (.val (.int (a:Int))),some (.val (tx (q.take a++c::q.drop a))),t5,t6,t7,t8,t9,t10]:=by
  rw[xQ,YD (ds:=X.map tx) (zh rfl),Fl.of_ok]
  unfold S at e6
  rw[euv] at e6
  exact e6
 rw[yP e6']
 have e7:laE [some (.val (.scr ns)),some (.val (.lst (X.map tx))),some (.val (tx q)),some (.val (.int (a:Int))),some (.val (tx (q.take a++c::q.drop a))),t5,t6,t7,t8,t9,t10]=.ok (.bl true):=by
  unfold laE
  refine op2 (uq (VV (zh rfl) (zh rfl) (uq (zh rfl) (xh q (by omega))) rfl (Gs X q q.length 99 (by omega) (by omega) ha hX' (by omega))) vo) (uq (zh rfl) vo) ?_
  rw[wX,length_map,length_map,length_take,(Vp _ _).length_eq,Lo]
  congr 2
  rw[beq_iff_eq];omega
 rw[XT e7];rfl
set_option maxHeartbeats 4000000
def top(i:Nat):Stmt:=PySem.Challenge.pw_fewfind_k85_whole_slips.main.body.getD i (.Pass ⟨0,0,0,0⟩)
section
variable{P:Program}{w:World}{K:PySem.W.Frag}{mg:Str→Option Value}{base:Heap}
abbrev xM:Stmt:=top 46
theorem XJ:zQ ["_law_script", "_law_k"] ["_law_script", "_law_k"] (zk xM):=⟨rfl,rfl,rfl,by decide +kernel,rfl,by decide +kernel,by decide +kernel⟩
theorem X3{f:Addr}{fd:FuncData}(A_:zS K mg "_law_cell" xM f fd)(z_len:mg "len" = none):DefOk P w K mg base "_law_cell" 1 2 ["_law_script", "_law_k"] wd:=by
 refine DefOk.mk (k:=0) A_ XJ rfl (fun _ _ _ _ _ _ us hl=>match us,hl with | [_,_],_=>rfl) (fun cdv A outer s H E hr=>?_) fun _ _ _ h=>h
 exact(zm (yL (zY (wA hr.units) (zb (pv 0)) (v0 zg) (yh _)) (zn (zH (zx xS zj (zb (pv 1))))) z8) (zn (zH (zx zJ (zI yd (zb (pv 0)) (zx uO (zb (pv 1)) (zD yN rfl z_len PySem.boot_len (zc (zb (pv 0)) zg)))) (zx xS zj (zx jD (zb (pv 1)) (zD yN rfl z_len PySem.boot_len (zc (zb (pv 0)) zg))))))))
abbrev xC:Stmt:=top 47
theorem sc__law_drawn:zQ ["_law_script", "_law_k", "_law_many", "_law_cell_here"] ["_law_script", "_law_k", "_law_many"] (zk xC):=⟨rfl,rfl,rfl,by decide +kernel,rfl,by decide +kernel,by decide +kernel⟩
theorem YS{f:Addr}{fd:FuncData}(A_:zS K mg "_law_drawn" xC f fd)(h__law_cell:DefOk P w K mg base "_law_cell" 1 2 ["_law_script", "_law_k"] wd):DefOk P w K mg base "_law_drawn" 2 3 ["_law_script", "_law_k", "_law_many"] zr:=by
 refine DefOk.mk (k:=1) A_ sc__law_drawn rfl (fun _ _ _ _ _ _ us hl=>match us,hl with | [_,_,_],_=>rfl) (fun cdv A outer s H E hr=>?_) fun _ _ _ h=>h
 exact(zm (zL (i:=3) sc__law_drawn.nd rfl (Or.inl rfl) (zx uO (zx zJ (zx xS (zx uO (zA h__law_cell (hr.mono (by decide)) (zc (zb (pv 0)) (zc (zb (pv 1)) zg)) (ze (ze zq))) zj) zj) (zx xS zj (zx zJ (zb (pv 1)) zj))) zj)) (zm (zL (i:=3) sc__law_drawn.nd rfl (Or.inl rfl) (zx uO (zx zJ (zx xS (zb (pv 3)) (zb (pv 3))) (zx jD (zb (pv 3)) zj)) zj)) (zn (zH (zx uO (zx jD (zx uO (zx zJ (zx xS (zb (pv 3)) (zb (pv 3))) (zx jD (zb (pv 3)) zj)) zj) zj) (zb (pv 2)))))))
abbrev xK:Stmt:=top 48
theorem sc__law_name:zQ ["_law_script", "_law_at", "_law_found", "_law_k"] ["_law_script", "_law_at"] (zk xK):=⟨rfl,rfl,rfl,by decide +kernel,rfl,by decide +kernel,by decide +kernel⟩
theorem X1{f:Addr}{fd:FuncData}(A_:zS K mg "_law_name" xK f fd)(h__law_drawn:DefOk P w K mg base "_law_drawn" 2 3 ["_law_script", "_law_k", "_law_many"] zr)(z_range:mg "range" = none):DefOk P w K mg base "_law_name" 3 2 ["_law_script", "_law_at"] xv:=by
 refine DefOk.mk (k:=2) A_ sc__law_name rfl (fun _ _ _ _ _ _ us hl=>match us,hl with | [_,_],_=>rfl) (fun cdv A outer s H E hr=>?_) fun _ _ _ h=>h
 exact(zm (zL (i:=2) sc__law_name.nd rfl (Or.inl rfl) vB) (zm (xR PassesOwn.never rfl (xm rfl z_range (zc (zx zJ zj (zA h__law_drawn (hr.mono (by decide)) (zc (zb (pv 0)) (zc (zb (pv 1)) (zc zj zg))) (ze (ze (ze zq))))) zg)) (yH sc__law_name.nd rfl (Or.inl rfl)) (zn (zL (i:=2) sc__law_name.nd rfl (Or.inl rfl) (zx zJ (zb (pv 2)) (zI yd vB (zA h__law_drawn (hr.mono (by decide)) (zc (zb (pv 0)) (zc (zx zJ (zx zJ (zb (pv 1)) zj) (zb (pv 3))) (zc zj zg))) (ze (ze (ze zq))))))))) (zn (zH (zb (pv 2))))))
abbrev xB:Stmt:=top 50
theorem sc__law_names:zQ ["_law_script", "_law_at", "_law_most", "_law_found"] ["_law_script", "_law_at", "_law_most"] (zk xB):=⟨rfl,rfl,rfl,by decide +kernel,rfl,by decide +kernel,by decide +kernel⟩
theorem YR{f:Addr}{fd:FuncData}(A_:zS K mg "_law_names" xB f fd)(h__law_drawn:DefOk P w K mg base "_law_drawn" 2 3 ["_law_script", "_law_k", "_law_many"] zr)(h__law_name:DefOk P w K mg base "_law_name" 3 2 ["_law_script", "_law_at"] xv)(z_len:mg "len" = none)(z_range:mg "range" = none):DefOk P w K mg base "_law_names" 4 3 ["_law_script", "_law_at", "_law_most"] xE:=by
 refine DefOk.mk (k:=3) A_ sc__law_names rfl (fun _ _ _ _ _ _ us hl=>match us,hl with | [_,_,_],_=>rfl) (fun cdv A outer s H E hr=>?_) fun _ _ _ h=>h
 exact(zm (Je (i:=3) sc__law_names.nd rfl rfl rfl (tn:=["_law_k"]) (fr:=["_law_script", "_law_at"]) (idx:=[0,1]) rfl rfl ⟨rfl,rfl,⟨rfl,rfl,trivial⟩⟩ (vM 0) (xm rfl z_range (zc (zA h__law_drawn (hr.mono (by decide)) (zc (zb (pv 0)) (zc (zb (pv 1)) (zc (zx zJ (zb (pv 2)) zj) zg))) (ze (ze (ze zq)))) zg)) (fun s H C fp=>(yH (show List.Nodup (["_law_k", "_law_script", "_law_at"]:List Str) by decide +kernel) rfl (Or.inl rfl))) (fun s H C fp=>uv) (fun s H C fp=>(zA h__law_name (hr.mono (by decide)) (zc (zb (pv 1)) (zc (zx zJ (zx zJ (zb (pv 2)) zj) (zx xS zj (zb (pv 0)))) zg)) (ze (ze zq))))) (zm (yL (uh (jz (zY XY (Z1 (pv 3) rfl z_len) zj (yh _)) (uu (zY (wA hr.units) (zA h__law_drawn (hr.mono (by decide)) (zc (zb (pv 0)) (zc (zx zJ (zb (pv 1)) zj) (zc zj zg))) (ze (ze (ze zq)))) zj (yh _))))) (zn (MF (pv 3) zj (MJ (pv 3) (vZ zj)))) z8) (zn (jA (pv 3)))))
abbrev xL:Stmt:=top 49
theorem XI:zQ ["_law_sign"] ["_law_sign"] (zk xL):=⟨rfl,rfl,rfl,by decide +kernel,rfl,by decide +kernel,by decide +kernel⟩
theorem X2{f:Addr}{fd:FuncData}(A_:zS K mg "_law_mark" xL f fd):DefOk P w K mg base "_law_mark" 1 1 ["_law_sign"] xw:=by
 refine DefOk.mk (k:=0) A_ XI rfl (fun _ _ _ _ _ _ us hl=>match us,hl with | [_],_=>rfl) (fun cdv A outer s H E hr=>?_) fun _ _ _ h=>h
 exact(zn (zH (w5 (j0 (uN hr)) (zb (pv 0)) vB (by with_unfolding_all rfl))))
abbrev xA:Stmt:=top 51
theorem sc__law_query:zQ ["_law_script", "_law_at", "_law_name_here", "_law_most", "_law_found", "_law_place", "_law_k", "_law_sign"] ["_law_script", "_law_at", "_law_name_here", "_law_most"] (zk xA):=⟨rfl,rfl,rfl,by decide +kernel,rfl,by decide +kernel,by decide +kernel⟩
theorem YQ{f:Addr}{fd:FuncData}(A_:zS K mg "_law_query" xA f fd)(h__law_drawn:DefOk P w K mg base "_law_drawn" 2 3 ["_law_script", "_law_k", "_law_many"] zr)(h__law_mark:DefOk P w K mg base "_law_mark" 1 1 ["_law_sign"] xw)(z_range:mg "range" = none)(z_len:mg "len" = none)(z_min:mg "min" = none):DefOk P w K mg base "_law_query" 3 4 ["_law_script", "_law_at", "_law_name_here", "_law_most"] xD:=by
 refine DefOk.mk (k:=2) A_ sc__law_query rfl (fun _ _ _ _ _ _ us hl=>match us,hl with | [_,_,_,_],_=>rfl) (fun cdv A outer s H E hr=>?_) fun _ _ _ h=>h
 exact(zm (zL (i:=4) sc__law_query.nd rfl (Or.inl rfl) vB) (zm (zL (i:=5) sc__law_query.nd rfl (Or.inl rfl) zj) (zm (xR PassesOwn.never rfl (xm rfl z_range (zc (zA h__law_drawn (hr.mono (by decide)) (zc (zb (pv 0)) (zc (zb (pv 1)) (zc (zx zJ (zb (pv 3)) zj) zg))) (ze (ze (ze zq)))) zg)) (yH sc__law_query.nd rfl (Or.inl rfl)) (zm (zL (i:=5) sc__law_query.nd rfl (Or.inl rfl) (zD (ZO rfl) rfl z_min boot_min (zc (zx wk (zD yN rfl z_len PySem.boot_len (zc (zb (pv 2)) zg)) zj) (zc (zx zJ (zb (pv 5)) (zA h__law_drawn (hr.mono (by decide)) (zc (zb (pv 0)) (zc (zx zJ (zx zJ (zb (pv 1)) zj) (zx xS zj (zb (pv 6)))) (zc zj zg))) (ze (ze (ze zq))))) zg)))) (zm (zL (i:=7) sc__law_query.nd rfl (Or.inl rfl) (Jh (QD (jY (zb (pv 2)) (vj (zb (pv 5))) (vj (zx zJ (zb (pv 5)) zj))) (ZE vB)))) (zm (zL (i:=5) sc__law_query.nd rfl (Or.inl rfl) (zx zJ (zb (pv 5)) zj)) (zm (yL (zY (wA hr.units) (zA h__law_drawn (hr.mono (by decide)) (zc (zb (pv 0)) (zc (zx zJ (zx zJ (zb (pv 1)) zj) (zx xS zj (zb (pv 6)))) (zc zj zg))) (ze (ze (ze zq)))) zj (yh _)) (zn (zL (i:=7) sc__law_query.nd rfl (Or.inl rfl) (zI yd vB (zA h__law_drawn (hr.mono (by decide)) (zc (zb (pv 0)) (zc (zx zJ (zx zJ (zb (pv 1)) zj) (zx xS zj (zb (pv 6)))) (zc zj zg))) (ze (ze (ze zq))))))) z8) (zn (yL (vA (wH (zA h__law_mark (hr.mono (by decide)) (zc (zb (pv 7)) zg) (ze zq)))) (zn (zL (i:=4) sc__law_query.nd rfl (Or.inl rfl) (zx zJ (zb (pv 4)) (zb (pv 7))))) z8))))))) (zn (zH (zb (pv 4)))))))
abbrev wy:Stmt:=top 35
theorem Wt:zQ ["names", "rows"] ["names", "rows"] (zk wy):=⟨rfl,rfl,rfl,by decide +kernel,rfl,by decide +kernel,by decide +kernel⟩
theorem WC{f c:Addr}(A_:V3 K mg "in_order" wy f c 152)(bm:BM mg base)(z_len:mg "len" = none)(z_sorted:mg "sorted" = none):DefOk P w K mg base "in_order" 4 2 ["names", "rows"] xN:=by
 refine DefOk.mkL (k:=3) A_ Wt rfl (fun _ _ _ _ _ _ us hl=>match us,hl with | [_,_],_=>rfl) (fun A outer s H E hr=>?_)
 exact(zn (zH (Jg (P:=152) (p := "row") (fr:=["names"]) (idx:=[0]) rfl z_sorted boot_sorted (zb (pv 1)) (hr.mono (by decide)) (TabsU.of (by decide)) bm rfl A_.tab (.head _) rfl ⟨rfl,rfl,trivial⟩ rfl rfl rfl (fun _ _ _ _ _=>rfl) (fun s H f cd=>(wZ (zc (vZ (zI yd (zb (pv 0)) zj)) (zc (zD yN rfl z_len PySem.boot_len (zc (zI yd (zb (pv 1)) (zI yd (zb (pv 0)) zj)) zg)) (zc (zI yd (zb (pv 0)) zj) zg))))))))
abbrev xz:Stmt:=top 36
theorem YJ:zQ ["names", "rows", "many"] ["names", "rows", "many"] (zk xz):=⟨rfl,rfl,rfl,by decide +kernel,rfl,by decide +kernel,by decide +kernel⟩
theorem YO{f:Addr}{fd:FuncData}(A_:zS K mg "first_rows" xz f fd)(h_in_order:DefOk P w K mg base "in_order" 4 2 ["names", "rows"] xN)(z_max:mg "max" = none):DefOk P w K mg base "first_rows" 5 3 ["names", "rows", "many"] yJ:=by
 refine DefOk.mk (k:=4) A_ YJ rfl (fun _ _ _ _ _ _ us hl=>match us,hl with | [_,_,_],_=>rfl) (fun cdv A outer s H E hr=>?_) fun _ _ _ h=>h
 exact(zn (zH (jY (zA h_in_order (hr.mono (by decide)) (zc (zb (pv 0)) (zc (zb (pv 1)) zg)) (ze (ze zq))) uw (vj (zD (Tx rfl) rfl z_max boot_max (zc (zb (pv 2)) (zc zj zg)))))))
abbrev yV:Stmt:=top 41
theorem sc_shorter_rests:zQ ["rests", "shorter", "rest", "place"] ["rests"] (zk yV):=⟨rfl,rfl,rfl,by decide +kernel,rfl,by decide +kernel,by decide +kernel⟩
theorem j1{f:Addr}{fd:FuncData}(A_:zS K mg "shorter_rests" yV f fd)(z_len:mg "len" = none)(z_range:mg "range" = none)(z_sorted:mg "sorted" = none):DefOk P w K mg base "shorter_rests" 1 1 ["rests"] yn:=by
 refine DefOk.mk (k:=0) A_ sc_shorter_rests rfl (fun _ _ _ _ _ _ us hl=>match us,hl with | [_],_=>rfl) (fun cdv A outer s H E hr=>?_) fun _ _ _ h=>h
 exact(VA (i:=1) sc_shorter_rests.nd rfl rfl (Or.inl rfl) (Uf (r:=2) PassesOwn.never rfl (wI (zb (pv 0))) sc_shorter_rests.nd rfl (Or.inl rfl) (by decide) (ZB (Uf (r:=3) PassesOwn.never rfl (xm rfl z_range (zc (zD yN rfl z_len PySem.boot_len (zc (zb (pv 2)) zg)) zg)) sc_shorter_rests.nd rfl (Or.inl rfl) (by decide) (ZB (Mt (hu_of hr) (pv 1) (zx zJ (jY (zb (pv 2)) uw (vj (zb (pv 3)))) (jY (zb (pv 2)) (vj (zx zJ (zb (pv 3)) zj)) uw))))))) rfl z_sorted boot_sorted (pv 1))
abbrev yx:Stmt:=top 23
theorem sc_beginning_points:zQ ["name", "place", "ahead"] ["name", "place"] (zk yx):=⟨rfl,rfl,rfl,by decide +kernel,rfl,by decide +kernel,by decide +kernel⟩
theorem uY{f:Addr}{fd:FuncData}(A_:zS K mg "beginning_points" yx f fd){t_FIGURES:Tok}(g_FIGURES:mg "FIGURES" = some (.str "0123456789" t_FIGURES)){t_SMALL:Tok}(g_SMALL:mg "SMALL" = some (.str "abcdefghijklmnopqrstuvwxyz" t_SMALL)){t_GREAT:Tok}(g_GREAT:mg "GREAT" = some (.str "ABCDEFGHIJKLMNOPQRSTUVWXYZ" t_GREAT)){t_AT_GREAT:Tok}(g_AT_GREAT:mg "AT_GREAT" = some (.int 5 t_AT_GREAT)){t_MARKS:Tok}(g_MARKS:mg "MARKS" = some (.str "_-./" t_MARKS)){t_BEHIND_MARK:Tok}(g_BEHIND_MARK:mg "BEHIND_MARK" = some (.int 6 t_BEHIND_MARK)){t_AT_BEGINNING:Tok}(g_AT_BEGINNING:mg "AT_BEGINNING" = some (.int 8 t_AT_BEGINNING)):DefOk P w K mg base "beginning_points" 1 2 ["name", "place"] yM:=by
 refine DefOk.mk (k:=0) A_ sc_beginning_points rfl (fun _ _ _ _ _ _ us hl=>match us,hl with | [_,_],_=>rfl) (fun cdv A outer s H E hr=>?_) fun _ _ _ h=>h
 exact(zm (yL (zY (wA hr.units) (zb (pv 1)) zj (yh _)) (zn (zH (wJ rfl g_AT_BEGINNING))) z8) (zm (zL (i:=2) sc_beginning_points.nd rfl (Or.inl rfl) (zI yd (zb (pv 0)) (zx wk (zb (pv 1)) zj))) (zm (yL (zY (j0 (uN hr)) (zb (pv 2)) (jC rfl g_MARKS) (by with_unfolding_all rfl)) (zn (zH (wJ rfl g_BEHIND_MARK))) z8) (zm (yL (uh (jz (zY (j0 (uN hr)) (zI yd (zb (pv 0)) (zb (pv 1))) (jC rfl g_GREAT) (by with_unfolding_all rfl)) (uu (uh (jj (zY (j0 (uN hr)) (zb (pv 2)) (jC rfl g_SMALL) (by with_unfolding_all rfl)) (vY (zY (j0 (uN hr)) (zb (pv 2)) (jC rfl g_FIGURES) (by with_unfolding_all rfl)))))))) (zn (zH (wJ rfl g_AT_GREAT))) z8) (zn (zH zj))))))
abbrev xx:Stmt:=top 24
theorem sc_own_points:zQ ["sign", "name", "place", "same"] ["sign", "name", "place"] (zk xx):=⟨rfl,rfl,rfl,by decide +kernel,rfl,by decide +kernel,by decide +kernel⟩
theorem YN{f:Addr}{fd:FuncData}(A_:zS K mg "own_points" xx f fd)(h_beginning_points:DefOk P w K mg base "beginning_points" 1 2 ["name", "place"] yM){t_EACH_PLACE:Tok}(g_EACH_PLACE:mg "EACH_PLACE" = some (.int 10 t_EACH_PLACE)){t_SAME_SIGN:Tok}(g_SAME_SIGN:mg "SAME_SIGN" = some (.int 1 t_SAME_SIGN)):DefOk P w K mg base "own_points" 2 3 ["sign", "name", "place"] yj:=by
 refine DefOk.mk (k:=1) A_ sc_own_points rfl (fun _ _ _ _ _ _ us hl=>match us,hl with | [_,_,_],_=>rfl) (fun cdv A outer s H E hr=>?_) fun _ _ _ h=>h
 exact(zm (zL (i:=3) sc_own_points.nd rfl (Or.inl rfl) (LM (zY (wA hr.units) (zI yd (zb (pv 1)) (zb (pv 2))) (zb (pv 0)) (yh _)) (wJ rfl g_SAME_SIGN) zj)) (zn (zH (zx zJ (zx zJ (wJ rfl g_EACH_PLACE) (zA h_beginning_points (hr.mono (by decide)) (zc (zb (pv 1)) (zc (zb (pv 2)) zg)) (ze (ze zq)))) (zb (pv 3))))))
abbrev vU:Stmt:=top 8
theorem Qi:zQ ["sign", "other"] ["sign", "other"] (zk vU):=⟨rfl,rfl,rfl,by decide +kernel,rfl,by decide +kernel,by decide +kernel⟩
theorem QO{f:Addr}{fd:FuncData}(A_:zS K mg "meets" vU f fd){t_SMALL:Tok}(g_SMALL:mg "SMALL" = some (.str "abcdefghijklmnopqrstuvwxyz" t_SMALL)):DefOk P w K mg base "meets" 1 2 ["sign", "other"] xc:=by
 refine DefOk.mk (k:=0) A_ Qi rfl (fun _ _ _ _ _ _ us hl=>match us,hl with | [_,_],_=>rfl) (fun cdv A outer s H E hr=>?_) fun _ _ _ h=>h
 exact(zn (zH (QD (w5 (wA hr.units) (zb (pv 0)) (zb (pv 1)) (yh _)) (ZE (Ui (w5 (j0 (uN hr)) (zb (pv 0)) (jC rfl g_SMALL) (by with_unfolding_all rfl)) (ZE (w5 (wA hr.units) (Jf (zb (pv 0))) (zb (pv 1)) (yh _))))))))
abbrev yE:Stmt:=top 29
theorem je:zQ ["sign", "name"] ["sign", "name"] (zk yE):=⟨rfl,rfl,rfl,by decide +kernel,rfl,by decide +kernel,by decide +kernel⟩
theorem jk{f:Addr}{fd:FuncData}(A_:zS K mg "last_sign_tails" yE f fd)(h_meets:DefOk P w K mg base "meets" 1 2 ["sign", "other"] xc)(h_own_points:DefOk P w K mg base "own_points" 2 3 ["sign", "name", "place"] yj)(z_len:mg "len" = none)(z_range:mg "range" = none):DefOk P w K mg base "last_sign_tails" 3 2 ["sign", "name"] yr:=by
 refine DefOk.mk (k:=2) A_ je rfl (fun _ _ _ _ _ _ us hl=>match us,hl with | [_,_],_=>rfl) (fun cdv A outer s H E hr=>?_) fun _ _ _ h=>h
 exact(zn (zH (jZ (ux (tn:=["place"]) (fr:=["sign", "name"]) (idx:=[0,1]) rfl rfl ⟨rfl,rfl,⟨rfl,rfl,trivial⟩⟩ (vM 0) (xm rfl z_range (zc (zD yN rfl z_len PySem.boot_len (zc (zb (pv 1)) zg)) zg)) (fun s H C fp=>(yH (show List.Nodup (["place", "sign", "name"]:List Str) by decide +kernel) rfl (Or.inl rfl))) (fun s H C fp=>(ZZ (wH (zA h_meets (hr.mono (by decide)) (zc (zb (pv 1)) (zc (zI yd (zb (pv 2)) (zb (pv 0))) zg)) (ze (ze zq)))))) (fun s H C fp=>(wZ (zc (zA h_own_points (hr.mono (by decide)) (zc (zb (pv 1)) (zc (zb (pv 2)) (zc (zb (pv 0)) zg))) (ze (ze (ze zq)))) (zc (v0 (zc (zb (pv 0)) zg)) zg))))))))
abbrev yW:Stmt:=top 28
theorem sc_first_of_most:zQ ["tails", "chosen", "tail"] ["tails"] (zk yW):=⟨rfl,rfl,rfl,by decide +kernel,rfl,by decide +kernel,by decide +kernel⟩
theorem j2{f:Addr}{fd:FuncData}(A_:zS K mg "first_of_most" yW f fd):DefOk P w K mg base "first_of_most" 1 1 ["tails"] z6:=by
 refine DefOk.mk (k:=0) A_ sc_first_of_most rfl (fun _ _ _ _ _ _ us hl=>match us,hl with | [_],_=>rfl) (fun cdv A outer s H E hr=>?_) fun _ _ _ h=>h
 exact(zm (zL (i:=1) sc_first_of_most.nd rfl (Or.inl rfl) xY) (zm (xR PassesOwn.never rfl (wI (zb (pv 0))) (yH sc_first_of_most.nd rfl (Or.inl rfl)) (zn (yL (uh (jj (zY QL (zb (pv 1)) xY (yh _)) (vY (zY XY (zI yd (zb (pv 2)) zj) (zI yd (zb (pv 1)) zj) (yh _))))) (zn (zL (i:=1) sc_first_of_most.nd rfl (Or.inl rfl) (zb (pv 2)))) z8))) (zn (zH (zb (pv 1))))))
abbrev xi:Stmt:=top 26
theorem sc_link_points:zQ ["ahead", "place", "between"] ["ahead", "place"] (zk xi):=⟨rfl,rfl,rfl,by decide +kernel,rfl,by decide +kernel,by decide +kernel⟩
theorem Z3{f:Addr}{fd:FuncData}(A_:zS K mg "link_points" xi f fd){t_MOST_BETWEEN:Tok}(g_MOST_BETWEEN:mg "MOST_BETWEEN" = some (.int 5 t_MOST_BETWEEN)){t_BESIDE:Tok}(g_BESIDE:mg "BESIDE" = some (.int 7 t_BESIDE))(z_min:mg "min" = none):DefOk P w K mg base "link_points" 1 2 ["ahead", "place"] yC:=by
 refine DefOk.mk (k:=0) A_ sc_link_points rfl (fun _ _ _ _ _ _ us hl=>match us,hl with | [_,_],_=>rfl) (fun cdv A outer s H E hr=>?_) fun _ _ _ h=>h
 exact(zm (zL (i:=2) sc_link_points.nd rfl (Or.inl rfl) (zx wk (zx wk (zb (pv 1)) (zb (pv 0))) zj)) (zm (yL (zY (wA hr.units) (zb (pv 2)) zj (yh _)) (zn (zH (wJ rfl g_BESIDE))) z8) (zn (zH (vZ (zD (ZO rfl) rfl z_min boot_min (zc (zb (pv 2)) (zc (wJ rfl g_MOST_BETWEEN) zg))))))))
abbrev yZ:Stmt:=top 30
theorem Zr:zQ ["place", "tails"] ["place", "tails"] (zk yZ):=⟨rfl,rfl,rfl,by decide +kernel,rfl,by decide +kernel,by decide +kernel⟩
theorem Zv{f:Addr}{fd:FuncData}(A_:zS K mg "linked_tails" yZ f fd)(h_link_points:DefOk P w K mg base "link_points" 1 2 ["ahead", "place"] yC):DefOk P w K mg base "linked_tails" 2 2 ["place", "tails"] yQ:=by
 refine DefOk.mk (k:=1) A_ Zr rfl (fun _ _ _ _ _ _ us hl=>match us,hl with | [_,_],_=>rfl) (fun cdv A outer s H E hr=>?_) fun _ _ _ h=>h
 exact(zn (zH (jZ (ux (tn:=["tail"]) (fr:=["place"]) (idx:=[0]) rfl rfl ⟨rfl,rfl,trivial⟩ (vM 0) (wI (zb (pv 1))) (fun s H C fp=>(yH (show List.Nodup (["tail", "place"]:List Str) by decide +kernel) rfl (Or.inl rfl))) (fun s H C fp=>(ZZ (zY XY (zI yd (zI yd (zb (pv 0)) zj) zj) (zb (pv 1)) (yh _)))) (fun s H C fp=>(wZ (zc (zx zJ (zI yd (zb (pv 0)) zj) (zA h_link_points (hr.mono (by decide)) (zc (zb (pv 1)) (zc (zI yd (zI yd (zb (pv 0)) zj) zj) zg)) (ze (ze zq)))) (zc (zI yd (zb (pv 0)) zj) zg))))))))
abbrev yY:Stmt:=top 31
theorem sc_longer_tails:zQ ["sign", "name", "tails", "longer", "place", "chosen"] ["sign", "name", "tails"] (zk yY):=⟨rfl,rfl,rfl,by decide +kernel,rfl,by decide +kernel,by decide +kernel⟩
theorem Zu{f:Addr}{fd:FuncData}(A_:zS K mg "longer_tails" yY f fd)(h_meets:DefOk P w K mg base "meets" 1 2 ["sign", "other"] xc)(h_own_points:DefOk P w K mg base "own_points" 2 3 ["sign", "name", "place"] yj)(h_linked_tails:DefOk P w K mg base "linked_tails" 2 2 ["place", "tails"] yQ)(h_first_of_most:DefOk P w K mg base "first_of_most" 1 1 ["tails"] z6)(z_len:mg "len" = none)(z_range:mg "range" = none):DefOk P w K mg base "longer_tails" 3 3 ["sign", "name", "tails"] y3:=by
 refine DefOk.mk (k:=2) A_ sc_longer_tails rfl (fun _ _ _ _ _ _ us hl=>match us,hl with | [_,_,_],_=>rfl) (fun cdv A outer s H E hr=>?_) fun _ _ _ h=>h
 exact(zm (Z0 (i:=3) sc_longer_tails.nd rfl (Or.inl rfl) (XV zg)) (zm (xR PassesOwn.never rfl (xm rfl z_range (zc (zD yN rfl z_len PySem.boot_len (zc (zb (pv 1)) zg)) zg)) (yH sc_longer_tails.nd rfl (Or.inl rfl)) (zn (yL (wH (zA h_meets (hr.mono (by decide)) (zc (zb (pv 0)) (zc (zI yd (zb (pv 1)) (zb (pv 4))) zg)) (ze (ze zq)))) (zm (zL (i:=5) sc_longer_tails.nd rfl (Or.inl rfl) (zA h_first_of_most (hr.mono (by decide)) (zc (zA h_linked_tails (hr.mono (by decide)) (zc (zb (pv 4)) (zc (zb (pv 2)) zg)) (ze (ze zq))) zg) (ze zq))) (zn (yL (zY wz (zb (pv 5)) xY (yh _)) (zn (XU (pv 3) (wZ (zc (zx zJ (zA h_own_points (hr.mono (by decide)) (zc (zb (pv 0)) (zc (zb (pv 1)) (zc (zb (pv 4)) zg))) (ze (ze (ze zq)))) (zI yd (zb (pv 5)) zj)) (zc (zx zJ (v0 (zc (zb (pv 4)) zg)) (zI yd (zb (pv 5)) zj)) zg))))) z8))) z8))) (zn (jA (pv 3)))))
abbrev xk:Stmt:=top 25
theorem ZT:zQ ["place"] ["place"] (zk xk):=⟨rfl,rfl,rfl,by decide +kernel,rfl,by decide +kernel,by decide +kernel⟩
theorem Z5{f:Addr}{fd:FuncData}(A_:zS K mg "lead_points" xk f fd){t_MOST_AHEAD:Tok}(g_MOST_AHEAD:mg "MOST_AHEAD" = some (.int 3 t_MOST_AHEAD))(z_min:mg "min" = none):DefOk P w K mg base "lead_points" 1 1 ["place"] yu:=by
 refine DefOk.mk (k:=0) A_ ZT rfl (fun _ _ _ _ _ _ us hl=>match us,hl with | [_],_=>rfl) (fun cdv A outer s H E hr=>?_) fun _ _ _ h=>h
 exact(zn (zH (vZ (zD (ZO rfl) rfl z_min boot_min (zc (zb (pv 0)) (zc (wJ rfl g_MOST_AHEAD) zg))))))
abbrev jg:Stmt:=top 32
theorem sc_best:zQ ["query", "name", "tails", "number"] ["query", "name"] (zk jg):=⟨rfl,rfl,rfl,by decide +kernel,rfl,by decide +kernel,by decide +kernel⟩
theorem MQ{f:Addr}{fd:FuncData}(A_:zS K mg "best" jg f fd)(h_lead_points:DefOk P w K mg base "lead_points" 1 1 ["place"] yu)(h_first_of_most:DefOk P w K mg base "first_of_most" 1 1 ["tails"] z6)(h_longer_tails:DefOk P w K mg base "longer_tails" 3 3 ["sign", "name", "tails"] y3)(h_last_sign_tails:DefOk P w K mg base "last_sign_tails" 3 2 ["sign", "name"] yr)(z_len:mg "len" = none)(z_range:mg "range" = none):DefOk P w K mg base "best" 4 2 ["query", "name"] wB:=by
 refine DefOk.mk (k:=3) A_ sc_best rfl (fun _ _ _ _ _ _ us hl=>match us,hl with | [_,_],_=>rfl) (fun cdv A outer s H E hr=>?_) fun _ _ _ h=>h
 exact(zm (yL (zY (wA hr.units) (zD yN rfl z_len PySem.boot_len (zc (zb (pv 0)) zg)) zj (yh _)) (zn (zH (wZ (zc zj (zc (v0 zg) zg))))) z8) (zm (zL (i:=2) sc_best.nd rfl (Or.inl rfl) (zA h_last_sign_tails (hr.mono (by decide)) (zc (zI yd (zb (pv 0)) (vZ zj)) (zc (zb (pv 1)) zg)) (ze (ze zq)))) (zm (xR PassesOwn.never rfl (VB rfl z_range (zc (zx wk (zD yN rfl z_len PySem.boot_len (zc (zb (pv 0)) zg)) zj) (zc (vZ zj) (zc (vZ zj) zg)))) (yH sc_best.nd rfl (Or.inl rfl)) (zn (zL (i:=2) sc_best.nd rfl (Or.inl rfl) (zA h_longer_tails (hr.mono (by decide)) (zc (zI yd (zb (pv 0)) (zb (pv 3))) (zc (zb (pv 1)) (zc (zb (pv 2)) zg))) (ze (ze (ze zq))))))) (zn (zH (zA h_first_of_most (hr.mono (by decide)) (zc (jZ (ux (tn:=["tail"]) (fr:=[]) (idx:=[]) rfl rfl trivial (vM 0) (wI (zb (pv 2))) (fun s H C fp=>(yH (show List.Nodup (["tail"]:List Str) by decide +kernel) rfl (Or.inl rfl))) (fun s H C fp=>uv) (fun s H C fp=>(wZ (zc (zx zJ (zI yd (zb (pv 0)) zj) (zA h_lead_points (hr.mono (by decide)) (zc (zI yd (zI yd (zb (pv 0)) zj) zj) zg) (ze zq))) (zc (zI yd (zb (pv 0)) zj) zg)))))) zg) (ze zq)))))))
abbrev yG:Stmt:=top 43
theorem sc_best_with_slips:zQ ["query", "name", "many", "chosen", "rests", "slips", "rest", "laid"] ["query", "name", "many"] (zk yG):=⟨rfl,rfl,rfl,by decide +kernel,rfl,by decide +kernel,by decide +kernel⟩
theorem jm{f:Addr}{fd:FuncData}(A_:zS K mg "best_with_slips" yG f fd)(h_shorter_rests:DefOk P w K mg base "shorter_rests" 1 1 ["rests"] yn)(h_best:DefOk P w K mg base "best" 4 2 ["query", "name"] wB){t_EACH_SLIP:Tok}(g_EACH_SLIP:mg "EACH_SLIP" = some (.int 15 t_EACH_SLIP))(z_len:mg "len" = none)(z_min:mg "min" = none)(z_range:mg "range" = none):DefOk P w K mg base "best_with_slips" 5 3 ["query", "name", "many"] zM:=by
 refine DefOk.mk (k:=4) A_ sc_best_with_slips rfl (fun _ _ _ _ _ _ us hl=>match us,hl with | [_,_,_],_=>rfl) (fun cdv A outer s H E hr=>?_) fun _ _ _ h=>h
 exact(zm (zL (i:=3) sc_best_with_slips.nd rfl (Or.inl rfl) xY) (zm (zL (i:=4) sc_best_with_slips.nd rfl (Or.inl rfl) (v0 (zc (zb (pv 0)) zg))) (zm (xR PassesOwn.never rfl (xm rfl z_range (zc (zx zJ (zD (ZO rfl) rfl z_min boot_min (zc (zb (pv 2)) (zc (zD yN rfl z_len PySem.boot_len (zc (zb (pv 0)) zg)) zg))) zj) zg)) (yH sc_best_with_slips.nd rfl (Or.inl rfl)) (zm (xR PassesOwn.never rfl (wI (zb (pv 4))) (yH sc_best_with_slips.nd rfl (Or.inl rfl)) (zm (zL (i:=7) sc_best_with_slips.nd rfl (Or.inl rfl) (zA h_best (hr.mono (by decide)) (zc (zb (pv 6)) (zc (zb (pv 1)) zg)) (ze (ze zq)))) (zn (yL (uh (jz (zY wz (zb (pv 7)) xY (yh _)) (uu (uh (jj (zY QL (zb (pv 3)) xY (yh _)) (vY (zY XY (zx wk (zI yd (zb (pv 7)) zj) (zx xS (wJ rfl g_EACH_SLIP) (zb (pv 5)))) (zI yd (zb (pv 3)) zj) (yh _)))))))) (zn (zL (i:=3) sc_best_with_slips.nd rfl (Or.inl rfl) (wZ (zc (zx wk (zI yd (zb (pv 7)) zj) (zx xS (wJ rfl g_EACH_SLIP) (zb (pv 5)))) (zc (zb (pv 6)) (zc (zI yd (zb (pv 7)) zj) zg)))))) z8)))) (zn (zL (i:=4) sc_best_with_slips.nd rfl (Or.inl rfl) (zA h_shorter_rests (hr.mono (by decide)) (zc (zb (pv 4)) zg) (ze zq)))))) (zn (zH (zb (pv 3)))))))
abbrev yw:Stmt:=top 44
theorem sc_finds_with_slips:zQ ["names", "query", "slips", "many", "laid", "rows"] ["names", "query", "slips", "many"] (zk yw):=⟨rfl,rfl,rfl,by decide +kernel,rfl,by decide +kernel,by decide +kernel⟩
theorem uX{f:Addr}{fd:FuncData}(A_:zS K mg "finds_with_slips" yw f fd)(h_first_rows:DefOk P w K mg base "first_rows" 5 3 ["names", "rows", "many"] yJ)(h_best_with_slips:DefOk P w K mg base "best_with_slips" 5 3 ["query", "name", "many"] zM)(z_enumerate:mg "enumerate" = none):DefOk P w K mg base "finds_with_slips" 6 4 ["names", "query", "slips", "many"] yf:=by
 refine DefOk.mk (k:=5) A_ sc_finds_with_slips rfl (fun _ _ _ _ _ _ us hl=>match us,hl with | [_,_,_,_],_=>rfl) (fun cdv A outer s H E hr=>?_) fun _ _ _ h=>h
 exact(zm (Wz (i:=4) sc_finds_with_slips.nd rfl rfl rfl (tn:=["name"]) (fr:=["query", "slips"]) (idx:=[1,2]) rfl rfl ⟨rfl,rfl,⟨rfl,rfl,trivial⟩⟩ (vM 0) (wI (zb (pv 0))) (fun s H C fp=>(yH (show List.Nodup (["name", "query", "slips"]:List Str) by decide +kernel) rfl (Or.inl rfl))) (fun s H C fp=>uv) (fun s H C fp=>(zA h_best_with_slips (hr.mono (by decide)) (zc (zb (pv 1)) (zc (zb (pv 0)) (zc (zb (pv 2)) zg))) (ze (ze (ze zq)))))) (zm (Wz (i:=5) sc_finds_with_slips.nd rfl rfl rfl (tn:=["number", "told"]) (fr:=[]) (idx:=[]) rfl rfl trivial (Wr 0 1) (QC rfl z_enumerate (zc (zb (pv 4)) zg)) (fun s H C fp=>(WA rfl (show List.Nodup (["number", "told"]:List Str) by decide +kernel) rfl (Or.inl rfl) rfl (Or.inl rfl))) (fun s H C fp=>(ZZ (zY wz (zb (pv 1)) xY (yh _)))) (fun s H C fp=>(wZ (zc (zI yd (zb (pv 1)) zj) (zc (zb (pv 0)) zg))))) (zn (zH (zA h_first_rows (hr.mono (by decide)) (zc (zb (pv 0)) (zc (zb (pv 5)) (zc (zb (pv 3)) zg))) (ze (ze (ze zq))))))))
abbrev y0:Stmt:=top 34
theorem sc_fitting_rows:zQ ["names", "query", "numbers", "rows", "number", "laid"] ["names", "query", "numbers"] (zk y0):=⟨rfl,rfl,rfl,by decide +kernel,rfl,by decide +kernel,by decide +kernel⟩
theorem Zw{f:Addr}{fd:FuncData}(A_:zS K mg "fitting_rows" y0 f fd)(h_best:DefOk P w K mg base "best" 4 2 ["query", "name"] wB):DefOk P w K mg base "fitting_rows" 5 3 ["names", "query", "numbers"] yS:=by
 refine DefOk.mk (k:=4) A_ sc_fitting_rows rfl (fun _ _ _ _ _ _ us hl=>match us,hl with | [_,_,_],_=>rfl) (fun cdv A outer s H E hr=>?_) fun _ _ _ h=>h
 exact(zm (Z0 (i:=3) sc_fitting_rows.nd rfl (Or.inl rfl) (XV zg)) (zm (xR PassesOwn.never rfl (wI (zb (pv 2))) (yH sc_fitting_rows.nd rfl (Or.inl rfl)) (zm (zL (i:=5) sc_fitting_rows.nd rfl (Or.inl rfl) (zA h_best (hr.mono (by decide)) (zc (zb (pv 1)) (zc (zI yd (zb (pv 0)) (zb (pv 4))) zg)) (ze (ze zq)))) (zn (yL (zY wz (zb (pv 5)) xY (yh _)) (zn (XU (pv 3) (wZ (zc (zI yd (zb (pv 5)) zj) (zc (zb (pv 4)) zg))))) z8)))) (zn (jA (pv 3)))))
abbrev x9:Stmt:=top 37
theorem Wu:zQ ["names", "query"] ["names", "query"] (zk x9):=⟨rfl,rfl,rfl,by decide +kernel,rfl,by decide +kernel,by decide +kernel⟩
theorem WD{f:Addr}{fd:FuncData}(A_:zS K mg "all_rows" x9 f fd)(h_fitting_rows:DefOk P w K mg base "fitting_rows" 5 3 ["names", "query", "numbers"] yS)(z_len:mg "len" = none)(z_list:mg "list" = none)(z_range:mg "range" = none):DefOk P w K mg base "all_rows" 6 2 ["names", "query"] xO:=by
 refine DefOk.mk (k:=5) A_ Wu rfl (fun _ _ _ _ _ _ us hl=>match us,hl with | [_,_],_=>rfl) (fun cdv A outer s H E hr=>?_) fun _ _ _ h=>h
 exact(zn (zH (zA h_fitting_rows (hr.mono (by decide)) (zc (zb (pv 0)) (zc (zb (pv 1)) (zc (jZ (Zs rfl rfl z_list rfl z_range (zc (zD yN rfl z_len PySem.boot_len (zc (zb (pv 0)) zg)) zg))) zg))) (ze (ze (ze zq))))))
abbrev vV:Stmt:=top 38
theorem Qj:zQ ["names", "query", "many"] ["names", "query", "many"] (zk vV):=⟨rfl,rfl,rfl,by decide +kernel,rfl,by decide +kernel,by decide +kernel⟩
theorem QP{f:Addr}{fd:FuncData}(A_:zS K mg "finds" vV f fd)(h_all_rows:DefOk P w K mg base "all_rows" 6 2 ["names", "query"] xO)(h_first_rows:DefOk P w K mg base "first_rows" 5 3 ["names", "rows", "many"] yJ):DefOk P w K mg base "finds" 7 3 ["names", "query", "many"] v9:=by
 refine DefOk.mk (k:=6) A_ Qj rfl (fun _ _ _ _ _ _ us hl=>match us,hl with | [_,_,_],_=>rfl) (fun cdv A outer s H E hr=>?_) fun _ _ _ h=>h
 exact(zn (zH (zA h_first_rows (hr.mono (by decide)) (zc (zb (pv 0)) (zc (zA h_all_rows (hr.mono (by decide)) (zc (zb (pv 0)) (zc (zb (pv 1)) zg)) (ze (ze zq))) (zc (zb (pv 2)) zg))) (ze (ze (ze zq))))))
abbrev yF:Stmt:=top 12
theorem sc_earliest_places:zQ ["query", "name", "places", "place"] ["query", "name"] (zk yF):=⟨rfl,rfl,rfl,by decide +kernel,rfl,by decide +kernel,by decide +kernel⟩
theorem jl{f:Addr}{fd:FuncData}(A_:zS K mg "earliest_places" yF f fd)(h_meets:DefOk P w K mg base "meets" 1 2 ["sign", "other"] xc)(z_len:mg "len" = none)(z_range:mg "range" = none):DefOk P w K mg base "earliest_places" 2 2 ["query", "name"] yU:=by
 refine DefOk.mk (k:=1) A_ sc_earliest_places rfl (fun _ _ _ _ _ _ us hl=>match us,hl with | [_,_],_=>rfl) (fun cdv A outer s H E hr=>?_) fun _ _ _ h=>h
 exact(zm (Z0 (i:=2) sc_earliest_places.nd rfl (Or.inl rfl) (XV zg)) (zm (xR PassesOwn.never rfl (xm rfl z_range (zc (zD yN rfl z_len PySem.boot_len (zc (zb (pv 1)) zg)) zg)) (yH sc_earliest_places.nd rfl (Or.inl rfl)) (zn (yL (uh (jz (zY XX (Z1 (pv 2) rfl z_len) (zD yN rfl z_len PySem.boot_len (zc (zb (pv 0)) zg)) (yh _)) (uu (wH (zA h_meets (hr.mono (by decide)) (zc (zI yd (zb (pv 0)) (Z1 (pv 2) rfl z_len)) (zc (zI yd (zb (pv 1)) (zb (pv 3))) zg)) (ze (ze zq))))))) (zn (XU (pv 2) (zb (pv 3)))) z8))) (zn (jA (pv 2)))))
abbrev jf:Stmt:=top 13
theorem Mg:zQ ["query", "name"] ["query", "name"] (zk jf):=⟨rfl,rfl,rfl,by decide +kernel,rfl,by decide +kernel,by decide +kernel⟩
theorem MP{f:Addr}{fd:FuncData}(A_:zS K mg "fits" jf f fd)(h_earliest_places:DefOk P w K mg base "earliest_places" 2 2 ["query", "name"] yU)(z_len:mg "len" = none):DefOk P w K mg base "fits" 3 2 ["query", "name"] vI:=by
 refine DefOk.mk (k:=2) A_ Mg rfl (fun _ _ _ _ _ _ us hl=>match us,hl with | [_,_],_=>rfl) (fun cdv A outer s H E hr=>?_) fun _ _ _ h=>h
 exact(zn (zH (w5 (wA hr.units) (zD yN rfl z_len PySem.boot_len (zc (zA h_earliest_places (hr.mono (by decide)) (zc (zb (pv 0)) (zc (zb (pv 1)) zg)) (ze (ze zq))) zg)) (zD yN rfl z_len PySem.boot_len (zc (zb (pv 0)) zg)) (yh _))))
abbrev xj:Stmt:=top 42
theorem sc_least_slips:zQ ["query", "name", "slips", "rests"] ["query", "name"] (zk xj):=⟨rfl,rfl,rfl,by decide +kernel,rfl,by decide +kernel,by decide +kernel⟩
theorem Z4{f:Addr}{fd:FuncData}(A_:zS K mg "least_slips" xj f fd)(h_fits:DefOk P w K mg base "fits" 3 2 ["query", "name"] vI)(h_shorter_rests:DefOk P w K mg base "shorter_rests" 1 1 ["rests"] yn)(z_any:mg "any" = none):DefOk P w K mg base "least_slips" 4 2 ["query", "name"] yO:=by
 refine DefOk.mk (k:=3) A_ sc_least_slips rfl (fun _ _ _ _ _ _ us hl=>match us,hl with | [_,_],_=>rfl) (fun cdv A outer s H E hr=>?_) fun _ _ _ h=>h
 exact(zm (zL (i:=2) sc_least_slips.nd rfl (Or.inl rfl) zj) (zm (zL (i:=3) sc_least_slips.nd rfl (Or.inl rfl) (v0 (zc (zb (pv 0)) zg))) (zm (Jc PassesOwn.never (vA (wH (zD (zc0 rfl) rfl z_any boot_any (zc (jZ (ux (tn:=["rest"]) (fr:=["name"]) (idx:=[1]) rfl rfl ⟨rfl,rfl,trivial⟩ (vM 0) (wI (zb (pv 3))) (fun s H C fp=>(yH (show List.Nodup (["rest", "name"]:List Str) by decide +kernel) rfl (Or.inl rfl))) (fun s H C fp=>uv) (fun s H C fp=>(zA h_fits (hr.mono (by decide)) (zc (zb (pv 0)) (zc (zb (pv 1)) zg)) (ze (ze zq)))))) zg)))) (zm (zL (i:=3) sc_least_slips.nd rfl (Or.inl rfl) (zA h_shorter_rests (hr.mono (by decide)) (zc (zb (pv 3)) zg) (ze zq))) (zn (jB (i:=2) sc_least_slips.nd rfl (Or.inl rfl) zj)))) (zn (zH (zb (pv 2)))))))
abbrev x8:Stmt:=top 9
theorem Ws:zQ ["thing"] ["thing"] (zk x8):=⟨rfl,rfl,rfl,by decide +kernel,rfl,by decide +kernel,by decide +kernel⟩
theorem WB{f:Addr}{fd:FuncData}(A_:zS K mg "is_whole" x8 f fd)(z_bool:mg "bool" = none)(z_isinstance:mg "isinstance" = none)(z_int:mg "int" = none):DefOk P w K mg base "is_whole" 1 1 ["thing"] wa:=by
 refine DefOk.mk (k:=0) A_ Ws rfl (fun _ _ _ _ _ _ us hl=>match us,hl with | [_],_=>rfl) (fun cdv A outer s H E hr=>?_) fun _ _ _ h=>h
 exact(zn (zH (Ui (zD VT rfl z_isinstance boot_isinstance (zc (zb (pv 0)) (zc (VC rfl z_int PyProof.Rows.boot_int) zg))) (ZE (MI (zD VT rfl z_isinstance boot_isinstance (zc (zb (pv 0)) (zc (VC rfl z_bool PyProof.Rows.boot_bool) zg))))))))
abbrev yo:Stmt:=top 10
theorem sc_are_rising_places:zQ ["name", "things", "least", "thing"] ["name", "things"] (zk yo):=⟨rfl,rfl,rfl,by decide +kernel,rfl,by decide +kernel,by decide +kernel⟩
theorem uA{f:Addr}{fd:FuncData}(A_:zS K mg "are_rising_places" yo f fd)(h_is_whole:DefOk P w K mg base "is_whole" 1 1 ["thing"] wa)(z_len:mg "len" = none):DefOk P w K mg base "are_rising_places" 2 2 ["name", "things"] yK:=by
 refine DefOk.mk (k:=1) A_ sc_are_rising_places rfl (fun _ _ _ _ _ _ us hl=>match us,hl with | [_,_],_=>rfl) (fun cdv A outer s H E hr=>?_) fun _ _ _ h=>h
 exact(zm (zL (i:=2) sc_are_rising_places.nd rfl (Or.inl rfl) zj) (zm (xR PassesOwn.never rfl (wI (zb (pv 1))) (yH sc_are_rising_places.nd rfl (Or.inl rfl)) (zm (yL (vA (wH (zA h_is_whole (hr.mono (by decide)) (zc (zb (pv 3)) zg) (ze zq)))) (zn (zH vk)) z8) (zm (yL (uh (jj (zY XX (zb (pv 3)) (zb (pv 2)) (yh _)) (vY (zY QM (zb (pv 3)) (zD yN rfl z_len PySem.boot_len (zc (zb (pv 0)) zg)) (yh _))))) (zn (zH vk)) z8) (zn (zL (i:=2) sc_are_rising_places.nd rfl (Or.inl rfl) (zx zJ (zb (pv 3)) zj)))))) (zn (zH vk))))
abbrev xJ:Stmt:=top 11
theorem XH:zQ ["query", "name", "thing"] ["query", "name", "thing"] (zk xJ):=⟨rfl,rfl,rfl,by decide +kernel,rfl,by decide +kernel,by decide +kernel⟩
theorem XZ{f:Addr}{fd:FuncData}(A_:zS K mg "is_laying" xJ f fd)(h_meets:DefOk P w K mg base "meets" 1 2 ["sign", "other"] xc)(h_are_rising_places:DefOk P w K mg base "are_rising_places" 2 2 ["name", "things"] yK)(z_zip:mg "zip" = none)(z_all:mg "all" = none)(z_len:mg "len" = none)(z_list:mg "list" = none)(z_isinstance:mg "isinstance" = none):DefOk P w K mg base "is_laying" 3 3 ["query", "name", "thing"] yR:=by
 refine DefOk.mk (k:=2) A_ XH rfl (fun _ _ _ _ _ _ us hl=>match us,hl with | [_,_,_],_=>rfl) (fun cdv A outer s H E hr=>?_) fun _ _ _ h=>h
 exact(zm (yL (uh (jj (vA (wH (zD VT rfl z_isinstance boot_isinstance (zc (zb (pv 2)) (zc (VC rfl z_list boot_list) zg))))) (vY (zY (Z2 hr.units) (zD yN rfl z_len PySem.boot_len (zc (zb (pv 2)) zg)) (zD yN rfl z_len PySem.boot_len (zc (zb (pv 0)) zg)) (yh _))))) (zn (zH vk)) z8) (zm (yL (vA (wH (zA h_are_rising_places (hr.mono (by decide)) (zc (zb (pv 1)) (zc (zb (pv 2)) zg)) (ze (ze zq))))) (zn (zH vk)) z8) (zn (zH (zD (zc1 rfl) rfl z_all boot_all (zc (jZ (ux (tn:=["sign", "place"]) (fr:=["name"]) (idx:=[1]) rfl rfl ⟨rfl,rfl,trivial⟩ (Wr 0 1) (MH rfl z_zip (zc (zb (pv 0)) (zc (zb (pv 2)) zg))) (fun s H C fp=>(WA rfl (show List.Nodup (["sign", "place", "name"]:List Str) by decide +kernel) rfl (Or.inl rfl) rfl (Or.inl rfl))) (fun s H C fp=>uv) (fun s H C fp=>(zA h_meets (hr.mono (by decide)) (zc (zb (pv 0)) (zc (zI yd (zb (pv 2)) (zb (pv 1))) zg)) (ze (ze zq)))))) zg))))))
abbrev vg:Stmt:=top 27
theorem sc_points:zQ ["query", "name", "laying", "total", "number", "place"] ["query", "name", "laying"] (zk vg):=⟨rfl,rfl,rfl,by decide +kernel,rfl,by decide +kernel,by decide +kernel⟩
theorem Jl{f:Addr}{fd:FuncData}(A_:zS K mg "points" vg f fd)(h_lead_points:DefOk P w K mg base "lead_points" 1 1 ["place"] yu)(h_link_points:DefOk P w K mg base "link_points" 1 2 ["ahead", "place"] yC)(h_own_points:DefOk P w K mg base "own_points" 2 3 ["sign", "name", "place"] yj)(h_is_laying:DefOk P w K mg base "is_laying" 3 3 ["query", "name", "thing"] yR)(z_len:mg "len" = none)(z_range:mg "range" = none):DefOk P w K mg base "points" 4 3 ["query", "name", "laying"] vn:=by
 refine DefOk.mk (k:=3) A_ sc_points rfl (fun _ _ _ _ _ _ us hl=>match us,hl with | [_,_,_],_=>rfl) (fun cdv A outer s H E hr=>?_) fun _ _ _ h=>h
 exact(zm (yL (vA (wH (zA h_is_laying (hr.mono (by decide)) (zc (zb (pv 0)) (zc (zb (pv 1)) (zc (zb (pv 2)) zg))) (ze (ze (ze zq)))))) (zn Jd) z8) (zm (zL (i:=3) sc_points.nd rfl (Or.inl rfl) zj) (zm (xR PassesOwn.never rfl (xm rfl z_range (zc (zD yN rfl z_len PySem.boot_len (zc (zb (pv 2)) zg)) zg)) (yH sc_points.nd rfl (Or.inl rfl)) (zm (zL (i:=5) sc_points.nd rfl (Or.inl rfl) (zI yd (zb (pv 2)) (zb (pv 4)))) (zm (jB (i:=3) sc_points.nd rfl (Or.inl rfl) (zA h_own_points (hr.mono (by decide)) (zc (zI yd (zb (pv 0)) (zb (pv 4))) (zc (zb (pv 1)) (zc (zb (pv 5)) zg))) (ze (ze (ze zq))))) (zn (yL (zY (wA hr.units) (zb (pv 4)) zj (yh _)) (zn (jB (i:=3) sc_points.nd rfl (Or.inl rfl) (zA h_lead_points (hr.mono (by decide)) (zc (zb (pv 5)) zg) (ze zq)))) (zn (jB (i:=3) sc_points.nd rfl (Or.inl rfl) (zA h_link_points (hr.mono (by decide)) (zc (zI yd (zb (pv 2)) (zx wk (zb (pv 4)) zj)) (zc (zb (pv 5)) zg)) (ze (ze zq)))))))))) (zn (zH (zb (pv 3)))))))
abbrev jy:Stmt:=top 52
theorem sc_law:zQ ["_law_script", "_law_names_here", "_law_query_here", "_law_at", "_law_longer", "_law_name_here", "_law_least", "_law_before", "_law_many", "_law_told", "_law_count"] ["_law_script"] (zk jy):=⟨rfl,rfl,rfl,by decide +kernel,rfl,by decide +kernel,by decide +kernel⟩
theorem LU{f:Addr}{fd:FuncData}(A_:Fun K "law" "law" jy f fd)(h_finds_with_slips:DefOk P w K mg base "finds_with_slips" 6 4 ["names", "query", "slips", "many"] yf)(h_best_with_slips:DefOk P w K mg base "best_with_slips" 5 3 ["query", "name", "many"] zM)(h_is_laying:DefOk P w K mg base "is_laying" 3 3 ["query", "name", "thing"] yR)(h_points:DefOk P w K mg base "points" 4 3 ["query", "name", "laying"] vn)(h_least_slips:DefOk P w K mg base "least_slips" 4 2 ["query", "name"] yO)(h_fits:DefOk P w K mg base "fits" 3 2 ["query", "name"] vI)(h_finds:DefOk P w K mg base "finds" 7 3 ["names", "query", "many"] v9)(h__law_drawn:DefOk P w K mg base "_law_drawn" 2 3 ["_law_script", "_law_k", "_law_many"] zr)(h__law_query:DefOk P w K mg base "_law_query" 3 4 ["_law_script", "_law_at", "_law_name_here", "_law_most"] xD)(h__law_names:DefOk P w K mg base "_law_names" 4 3 ["_law_script", "_law_at", "_law_most"] xE)(z_len:mg "len" = none)(z_range:mg "range" = none):FnOk P w K mg base CX0 8 f fd ["_law_script"] (spD K 1 Up):=by
 refine fnD (k:=7) A_ sc_law rfl fun cdv A outer s H E hr=>?_
 exact(zm (zL (i:=1) sc_law.nd rfl (Or.inl rfl) (zA h__law_names (hr.mono (by decide)) (zc (zb (pv 0)) (zc zj (zc zj zg))) (ze (ze (ze zq))))) (zm (zL (i:=2) sc_law.nd rfl (Or.inl rfl) (zA h__law_query (hr.mono (by decide)) (zc (zb (pv 0)) (zc zj (zc (zI yd (zx zJ (zb (pv 1)) (v0 (zc vB zg))) (zA h__law_drawn (hr.mono (by decide)) (zc (zb (pv 0)) (zc zj (zc (zx zJ (zD yN rfl z_len PySem.boot_len (zc (zb (pv 1)) zg)) zj) zg))) (ze (ze (ze zq))))) (zc zj zg)))) (ze (ze (ze (ze zq)))))) (zm (zL (i:=3) sc_law.nd rfl (Or.inl rfl) (zA h__law_drawn (hr.mono (by decide)) (zc (zb (pv 0)) (zc zj (zc (zx zJ (zD yN rfl z_len PySem.boot_len (zc (zb (pv 2)) zg)) zj) zg))) (ze (ze (ze zq))))) (zm (zL (i:=4) sc_law.nd rfl (Or.inl rfl) (zx zJ (zx zJ (jY (zb (pv 2)) uw (vj (zb (pv 3)))) (zI yd vB (zA h__law_drawn (hr.mono (by decide)) (zc (zb (pv 0)) (zc zj (zc zj zg))) (ze (ze (ze zq)))))) (jY (zb (pv 2)) (vj (zb (pv 3))) uw))) (zm (yL (zY (Z2 hr.units) (zA h_finds_with_slips (hr.mono (by decide)) (zc (zb (pv 1)) (zc (zb (pv 2)) (zc zj (zc zj zg)))) (ze (ze (ze (ze zq))))) (zA h_finds (hr.mono (by decide)) (zc (zb (pv 1)) (zc (zb (pv 2)) (zc zj zg))) (ze (ze (ze zq)))) (yh _)) (zn (zH vk)) z8) (zm (xR PassesOwn.never rfl (wI (zb (pv 1))) (yH sc_law.nd rfl (Or.inl rfl)) (zm (zL (i:=6) sc_law.nd rfl (Or.inl rfl) (zA h_least_slips (hr.mono (by decide)) (zc (zb (pv 2)) (zc (zb (pv 5)) zg)) (ze (ze zq)))) (zm (yL (uh (jj (zY (Z2 hr.units) (w5 (wA hr.units) (zb (pv 6)) zj (yh _)) (zA h_fits (hr.mono (by decide)) (zc (zb (pv 2)) (zc (zb (pv 5)) zg)) (ze (ze zq))) (yh _)) (vY (vA (Jb QK QK (zb (pv 6)) (zA h_least_slips (hr.mono (by decide)) (zc (zb (pv 4)) (zc (zb (pv 5)) zg)) (ze (ze zq))) (zx zJ (zb (pv 6)) zj)))))) (zn (zH vk)) z8) (zm (zL (i:=7) sc_law.nd rfl (Or.inl rfl) xY) (zn (xR PassesOwn.never rfl (xm rfl z_range (zc (zx zJ (zD yN rfl z_len PySem.boot_len (zc (zb (pv 2)) zg)) zj) zg)) (yH sc_law.nd rfl (Or.inl rfl)) (zm (zL (i:=9) sc_law.nd rfl (Or.inl rfl) (zA h_best_with_slips (hr.mono (by decide)) (zc (zb (pv 2)) (zc (zb (pv 5)) (zc (zb (pv 8)) zg))) (ze (ze (ze zq))))) (zm (yL (zY (Z2 hr.units) (w5 wz (zb (pv 9)) xY (yh _)) (w5 QM (zb (pv 8)) (zb (pv 6)) (yh _)) (yh _)) (zn (zH vk)) z8) (zn (yL (zY wz (zb (pv 9)) xY (yh _)) (zm (yL (uh (jz (zY wz (zb (pv 7)) xY (yh _)) (uu (zY XX (zI yd (zb (pv 9)) zj) (zb (pv 7)) (yh _))))) (zn (zH vk)) z8) (zm (zL (i:=7) sc_law.nd rfl (Or.inl rfl) (zI yd (zb (pv 9)) zj)) (zm (zL (i:=10) sc_law.nd rfl (Or.inl rfl) (zA h_points (hr.mono (by decide)) (zc (zI yd (zb (pv 9)) zj) (zc (zb (pv 5)) (zc (zI yd (zb (pv 9)) zj) zg))) (ze (ze (ze zq))))) (zm (yL (uh (jj (vA (wH (zA h_is_laying (hr.mono (by decide)) (zc (zI yd (zb (pv 9)) zj) (zc (zb (pv 5)) (zc (zI yd (zb (pv 9)) zj) zg))) (ze (ze (ze zq)))))) (vY (zY (Z2 hr.units) (zI yd (zb (pv 9)) zj) (zx wk (zb (pv 10)) (zx xS zj (zx wk (zD yN rfl z_len PySem.boot_len (zc (zb (pv 2)) zg)) (zD yN rfl z_len PySem.boot_len (zc (zI yd (zb (pv 9)) zj) zg))))) (yh _))))) (zn (zH vk)) z8) (zn (yL (zY XX (zI yd (zA h_best_with_slips (hr.mono (by decide)) (zc (zb (pv 4)) (zc (zb (pv 5)) (zc (zx zJ (zb (pv 8)) zj) zg))) (ze (ze (ze zq)))) zj) (zx wk (zI yd (zb (pv 9)) zj) zj) (yh _)) (zn (zH vk)) z8)))))) z8)))))))))) (zn (zH (w5 (wA hr.units) (zD yN rfl z_len PySem.boot_len (zc (zA h_finds_with_slips (hr.mono (by decide)) (zc (zb (pv 1)) (zc (zb (pv 2)) (zc (zD yN rfl z_len PySem.boot_len (zc (zb (pv 2)) zg)) (zc zj zg)))) (ze (ze (ze (ze zq))))) zg)) (zD yN rfl z_len PySem.boot_len (zc (zb (pv 1)) zg)) (yh _))))))))))
end
theorem all_mk{l:PySem.W.OpenLaw}{w:World}{K:PySem.W.Frag}{h:Heap}{mg:Str→Option Value}{fa:Addr}(X:K.In h)(G:h.Ns mainGlobals mg)(hfa:mg "law" = some (.ref fa))(hl:∀ns:List Int,ns.length≤63→Up [.scr ns]=.ok (.bl true))
  {f0 f1 f2 f3 f4 f5 f6 f7 f8 f9 f10 f11 f12 f13 f14 f15 f16 f17 f18 f19 f20 f21 f22 f23 f24 f25 f26 f27 f28 f29 f30 f31:Addr} {od0 an0 od1 an1 od2 an2 od3 an3 od4 an4 od5 an5 od6 an6 od7 an7 od8 an8 od9 an9 od10 an10 od11 an11 od12 an12 od13 an13 od14 an14 od15 an15 od16 an16 od17 an17 od18 an18 od19 an19 od20 an20 od21 an21 od22 an22 od23 an23 od24 an24 od25 an25 od26 an26 od27 an27 od28 an28 od29 an29 od30 an30 od31 an31:Option Addr} {sl0 sl1 sl2 sl3 sl4 sl5 sl6 sl7 sl8 sl9 sl10 sl11 sl12 sl13 sl14 sl15 sl16 sl17 sl18 sl19 sl20 sl21 sl22 sl23 sl24 sl25 sl26 sl27 sl28 sl29 sl30 sl31:Array (Option Value)} {oc0 kV0 dc0 pm0 ct0 cd0 oc1 kV1 dc1 pm1 ct1 cd1 oc2 kV2 dc2 pm2 ct2 cd2 oc3 kV3 dc3 pm3 ct3 cd3 oc4 kV4 dc4 pm4 ct4 cd4 oc5 kV5 dc5 pm5 ct5 cd5 oc6 kV6 dc6 pm6 ct6 oc7 kV7 dc7 pm7 ct7 cd7 oc8 kV8 dc8 pm8 ct8 cd8 oc9 kV9 dc9 pm9 ct9 cd9 oc10 kV10 dc10 pm10 ct10 cd10 oc11 kV11 dc11 pm11 ct11 cd11 oc12 kV12 dc12 pm12 ct12 cd12 oc13 kV13 dc13 pm13 ct13 cd13 oc14 kV14 dc14 pm14 ct14 cd14 oc15 kV15 dc15 pm15 ct15 cd15 oc16 kV16 dc16 pm16 ct16 cd16 oc17 kV17 dc17 pm17 ct17 cd17 oc18 kV18 dc18 pm18 ct18 cd18 oc19 kV19 dc19 pm19 ct19 cd19 oc20 kV20 dc20 pm20 ct20 cd20 oc21 kV21 dc21 pm21 ct21 cd21 oc22 kV22 dc22 pm22 ct22 cd22 oc23 kV23 dc23 pm23 ct23 cd23 oc24 kV24 dc24 pm24 ct24 cd24 oc25 kV25 dc25 pm25 ct25 cd25 oc26 kV26 dc26 pm26 ct26 cd26 oc27 kV27 dc27 pm27 ct27 cd27 oc28 kV28 dc28 pm28 ct28 cd28 oc29 kV29 dc29 pm29 ct29 cd29 oc30 kV30 dc30 pm30 ct30 cd30 oc31 kV31 dc31 pm31 ct31 cd31:Value} {t_FIGURES t_SMALL t_GREAT t_AT_GREAT t_MARKS t_BEHIND_MARK t_AT_BEGINNING t_EACH_PLACE t_SAME_SIGN t_MOST_BETWEEN t_BESIDE t_MOST_AHEAD t_EACH_SLIP:Tok}
  {cc6:Addr}
  (a0:nsIn K mainGlobals "_law_cell" = some (some (.ref f0))) (l0:K.lookup f0=some ⟨oc0,od0,.func (fnOf "_law_cell" "_law_cell" (zN xM) (zF xM) (zk xM) .none kV0 dc0 pm0 an0 cd0 ct0),sl0⟩) (c0:codeIn K cd0 "_law_cell" = true) (k0:keepIn K (.ref f0)=true)
  (a1:nsIn K mainGlobals "_law_drawn" = some (some (.ref f1))) (l1:K.lookup f1=some ⟨oc1,od1,.func (fnOf "_law_drawn" "_law_drawn" (zN xC) (zF xC) (zk xC) .none kV1 dc1 pm1 an1 cd1 ct1),sl1⟩) (c1:codeIn K cd1 "_law_drawn" = true) (k1:keepIn K (.ref f1)=true)
  (a2:nsIn K mainGlobals "_law_name" = some (some (.ref f2))) (l2:K.lookup f2=some ⟨oc2,od2,.func (fnOf "_law_name" "_law_name" (zN xK) (zF xK) (zk xK) .none kV2 dc2 pm2 an2 cd2 ct2),sl2⟩) (c2:codeIn K cd2 "_law_name" = true) (k2:keepIn K (.ref f2)=true)
  (a3:nsIn K mainGlobals "_law_names" = some (some (.ref f3))) (l3:K.lookup f3=some ⟨oc3,od3,.func (fnOf "_law_names" "_law_names" (zN xB) (zF xB) (zk xB) .none kV3 dc3 pm3 an3 cd3 ct3),sl3⟩) (c3:codeIn K cd3 "_law_names" = true) (k3:keepIn K (.ref f3)=true)
  (a4:nsIn K mainGlobals "_law_mark" = some (some (.ref f4))) (l4:K.lookup f4=some ⟨oc4,od4,.func (fnOf "_law_mark" "_law_mark" (zN xL) (zF xL) (zk xL) .none kV4 dc4 pm4 an4 cd4 ct4),sl4⟩) (c4:codeIn K cd4 "_law_mark" = true) (k4:keepIn K (.ref f4)=true)
  (a5:nsIn K mainGlobals "_law_query" = some (some (.ref f5))) (l5:K.lookup f5=some ⟨oc5,od5,.func (fnOf "_law_query" "_law_query" (zN xA) (zF xA) (zk xA) .none kV5 dc5 pm5 an5 cd5 ct5),sl5⟩) (c5:codeIn K cd5 "_law_query" = true) (k5:keepIn K (.ref f5)=true)
  (a6:nsIn K mainGlobals "in_order" = some (some (.ref f6))) (l6:K.lookup f6=some ⟨oc6,od6,.func (fnOf "in_order" "in_order" (zN wy) (zF wy) (zk wy) .none kV6 dc6 pm6 an6 (.ref cc6) ct6),sl6⟩) (c6:codeIn K (.ref cc6) "in_order" = true) (k6:keepIn K (.ref f6)=true) (tb6:PySem.W.codeHdIn K cc6 152=true)
  (a7:nsIn K mainGlobals "first_rows" = some (some (.ref f7))) (l7:K.lookup f7=some ⟨oc7,od7,.func (fnOf "first_rows" "first_rows" (zN xz) (zF xz) (zk xz) .none kV7 dc7 pm7 an7 cd7 ct7),sl7⟩) (c7:codeIn K cd7 "first_rows" = true) (k7:keepIn K (.ref f7)=true)
  (a8:nsIn K mainGlobals "shorter_rests" = some (some (.ref f8))) (l8:K.lookup f8=some ⟨oc8,od8,.func (fnOf "shorter_rests" "shorter_rests" (zN yV) (zF yV) (zk yV) .none kV8 dc8 pm8 an8 cd8 ct8),sl8⟩) (c8:codeIn K cd8 "shorter_rests" = true) (k8:keepIn K (.ref f8)=true)
  (a9:nsIn K mainGlobals "beginning_points" = some (some (.ref f9))) (l9:K.lookup f9=some ⟨oc9,od9,.func (fnOf "beginning_points" "beginning_points" (zN yx) (zF yx) (zk yx) .none kV9 dc9 pm9 an9 cd9 ct9),sl9⟩) (c9:codeIn K cd9 "beginning_points" = true) (k9:keepIn K (.ref f9)=true)
  (a10:nsIn K mainGlobals "own_points" = some (some (.ref f10))) (l10:K.lookup f10=some ⟨oc10,od10,.func (fnOf "own_points" "own_points" (zN xx) (zF xx) (zk xx) .none kV10 dc10 pm10 an10 cd10 ct10),sl10⟩) (c10:codeIn K cd10 "own_points" = true) (k10:keepIn K (.ref f10)=true)
  (a11:nsIn K mainGlobals "meets" = some (some (.ref f11))) (l11:K.lookup f11=some ⟨oc11,od11,.func (fnOf "meets" "meets" (zN vU) (zF vU) (zk vU) .none kV11 dc11 pm11 an11 cd11 ct11),sl11⟩) (c11:codeIn K cd11 "meets" = true) (k11:keepIn K (.ref f11)=true)
  (a12:nsIn K mainGlobals "last_sign_tails" = some (some (.ref f12))) (l12:K.lookup f12=some ⟨oc12,od12,.func (fnOf "last_sign_tails" "last_sign_tails" (zN yE) (zF yE) (zk yE) .none kV12 dc12 pm12 an12 cd12 ct12),sl12⟩) (c12:codeIn K cd12 "last_sign_tails" = true) (k12:keepIn K (.ref f12)=true)
  (a13:nsIn K mainGlobals "first_of_most" = some (some (.ref f13))) (l13:K.lookup f13=some ⟨oc13,od13,.func (fnOf "first_of_most" "first_of_most" (zN yW) (zF yW) (zk yW) .none kV13 dc13 pm13 an13 cd13 ct13),sl13⟩) (c13:codeIn K cd13 "first_of_most" = true) (k13:keepIn K (.ref f13)=true)
  (a14:nsIn K mainGlobals "link_points" = some (some (.ref f14))) (l14:K.lookup f14=some ⟨oc14,od14,.func (fnOf "link_points" "link_points" (zN xi) (zF xi) (zk xi) .none kV14 dc14 pm14 an14 cd14 ct14),sl14⟩) (c14:codeIn K cd14 "link_points" = true) (k14:keepIn K (.ref f14)=true)
  (a15:nsIn K mainGlobals "linked_tails" = some (some (.ref f15))) (l15:K.lookup f15=some ⟨oc15,od15,.func (fnOf "linked_tails" "linked_tails" (zN yZ) (zF yZ) (zk yZ) .none kV15 dc15 pm15 an15 cd15 ct15),sl15⟩) (c15:codeIn K cd15 "linked_tails" = true) (k15:keepIn K (.ref f15)=true)
  (a16:nsIn K mainGlobals "longer_tails" = some (some (.ref f16))) (l16:K.lookup f16=some ⟨oc16,od16,.func (fnOf "longer_tails" "longer_tails" (zN yY) (zF yY) (zk yY) .none kV16 dc16 pm16 an16 cd16 ct16),sl16⟩) (c16:codeIn K cd16 "longer_tails" = true) (k16:keepIn K (.ref f16)=true)
  (a17:nsIn K mainGlobals "lead_points" = some (some (.ref f17))) (l17:K.lookup f17=some ⟨oc17,od17,.func (fnOf "lead_points" "lead_points" (zN xk) (zF xk) (zk xk) .none kV17 dc17 pm17 an17 cd17 ct17),sl17⟩) (c17:codeIn K cd17 "lead_points" = true) (k17:keepIn K (.ref f17)=true)
  (a18:nsIn K mainGlobals "best" = some (some (.ref f18))) (l18:K.lookup f18=some ⟨oc18,od18,.func (fnOf "best" "best" (zN jg) (zF jg) (zk jg) .none kV18 dc18 pm18 an18 cd18 ct18),sl18⟩) (c18:codeIn K cd18 "best" = true) (k18:keepIn K (.ref f18)=true)
  (a19:nsIn K mainGlobals "best_with_slips" = some (some (.ref f19))) (l19:K.lookup f19=some ⟨oc19,od19,.func (fnOf "best_with_slips" "best_with_slips" (zN yG) (zF yG) (zk yG) .none kV19 dc19 pm19 an19 cd19 ct19),sl19⟩) (c19:codeIn K cd19 "best_with_slips" = true) (k19:keepIn K (.ref f19)=true)
  (a20:nsIn K mainGlobals "finds_with_slips" = some (some (.ref f20))) (l20:K.lookup f20=some ⟨oc20,od20,.func (fnOf "finds_with_slips" "finds_with_slips" (zN yw) (zF yw) (zk yw) .none kV20 dc20 pm20 an20 cd20 ct20),sl20⟩) (c20:codeIn K cd20 "finds_with_slips" = true) (k20:keepIn K (.ref f20)=true)
  (a21:nsIn K mainGlobals "fitting_rows" = some (some (.ref f21))) (l21:K.lookup f21=some ⟨oc21,od21,.func (fnOf "fitting_rows" "fitting_rows" (zN y0) (zF y0) (zk y0) .none kV21 dc21 pm21 an21 cd21 ct21),sl21⟩) (c21:codeIn K cd21 "fitting_rows" = true) (k21:keepIn K (.ref f21)=true)
  (a22:nsIn K mainGlobals "all_rows" = some (some (.ref f22))) (l22:K.lookup f22=some ⟨oc22,od22,.func (fnOf "all_rows" "all_rows" (zN x9) (zF x9) (zk x9) .none kV22 dc22 pm22 an22 cd22 ct22),sl22⟩) (c22:codeIn K cd22 "all_rows" = true) (k22:keepIn K (.ref f22)=true)
  (a23:nsIn K mainGlobals "finds" = some (some (.ref f23))) (l23:K.lookup f23=some ⟨oc23,od23,.func (fnOf "finds" "finds" (zN vV) (zF vV) (zk vV) .none kV23 dc23 pm23 an23 cd23 ct23),sl23⟩) (c23:codeIn K cd23 "finds" = true) (k23:keepIn K (.ref f23)=true)
  (a24:nsIn K mainGlobals "earliest_places" = some (some (.ref f24))) (l24:K.lookup f24=some ⟨oc24,od24,.func (fnOf "earliest_places" "earliest_places" (zN yF) (zF yF) (zk yF) .none kV24 dc24 pm24 an24 cd24 ct24),sl24⟩) (c24:codeIn K cd24 "earliest_places" = true) (k24:keepIn K (.ref f24)=true)
  (a25:nsIn K mainGlobals "fits" = some (some (.ref f25))) (l25:K.lookup f25=some ⟨oc25,od25,.func (fnOf "fits" "fits" (zN jf) (zF jf) (zk jf) .none kV25 dc25 pm25 an25 cd25 ct25),sl25⟩) (c25:codeIn K cd25 "fits" = true) (k25:keepIn K (.ref f25)=true)
  (a26:nsIn K mainGlobals "least_slips" = some (some (.ref f26))) (l26:K.lookup f26=some ⟨oc26,od26,.func (fnOf "least_slips" "least_slips" (zN xj) (zF xj) (zk xj) .none kV26 dc26 pm26 an26 cd26 ct26),sl26⟩) (c26:codeIn K cd26 "least_slips" = true) (k26:keepIn K (.ref f26)=true)
  (a27:nsIn K mainGlobals "is_whole" = some (some (.ref f27))) (l27:K.lookup f27=some ⟨oc27,od27,.func (fnOf "is_whole" "is_whole" (zN x8) (zF x8) (zk x8) .none kV27 dc27 pm27 an27 cd27 ct27),sl27⟩) (c27:codeIn K cd27 "is_whole" = true) (k27:keepIn K (.ref f27)=true)
  (a28:nsIn K mainGlobals "are_rising_places" = some (some (.ref f28))) (l28:K.lookup f28=some ⟨oc28,od28,.func (fnOf "are_rising_places" "are_rising_places" (zN yo) (zF yo) (zk yo) .none kV28 dc28 pm28 an28 cd28 ct28),sl28⟩) (c28:codeIn K cd28 "are_rising_places" = true) (k28:keepIn K (.ref f28)=true)
  (a29:nsIn K mainGlobals "is_laying" = some (some (.ref f29))) (l29:K.lookup f29=some ⟨oc29,od29,.func (fnOf "is_laying" "is_laying" (zN xJ) (zF xJ) (zk xJ) .none kV29 dc29 pm29 an29 cd29 ct29),sl29⟩) (c29:codeIn K cd29 "is_laying" = true) (k29:keepIn K (.ref f29)=true)
  (a30:nsIn K mainGlobals "points" = some (some (.ref f30))) (l30:K.lookup f30=some ⟨oc30,od30,.func (fnOf "points" "points" (zN vg) (zF vg) (zk vg) .none kV30 dc30 pm30 an30 cd30 ct30),sl30⟩) (c30:codeIn K cd30 "points" = true) (k30:keepIn K (.ref f30)=true)
  (a31:nsIn K mainGlobals "law" = some (some (.ref f31))) (l31:K.lookup f31=some ⟨oc31,od31,.func (fnOf "law" "law" (zN jy) (zF jy) (zk jy) .none kV31 dc31 pm31 an31 cd31 ct31),sl31⟩) (c31:codeIn K cd31 "law" = true) (k31:keepIn K (.ref f31)=true)
  (g_FIGURES:nsIn K mainGlobals "FIGURES" = some (some (.str "0123456789" t_FIGURES)))
  (g_SMALL:nsIn K mainGlobals "SMALL" = some (some (.str "abcdefghijklmnopqrstuvwxyz" t_SMALL)))
  (g_GREAT:nsIn K mainGlobals "GREAT" = some (some (.str "ABCDEFGHIJKLMNOPQRSTUVWXYZ" t_GREAT)))
  (g_AT_GREAT:nsIn K mainGlobals "AT_GREAT" = some (some (.int 5 t_AT_GREAT)))
  (g_MARKS:nsIn K mainGlobals "MARKS" = some (some (.str "_-./" t_MARKS)))
  (g_BEHIND_MARK:nsIn K mainGlobals "BEHIND_MARK" = some (some (.int 6 t_BEHIND_MARK)))
  (g_AT_BEGINNING:nsIn K mainGlobals "AT_BEGINNING" = some (some (.int 8 t_AT_BEGINNING)))
  (g_EACH_PLACE:nsIn K mainGlobals "EACH_PLACE" = some (some (.int 10 t_EACH_PLACE)))
  (g_SAME_SIGN:nsIn K mainGlobals "SAME_SIGN" = some (some (.int 1 t_SAME_SIGN)))
  (g_MOST_BETWEEN:nsIn K mainGlobals "MOST_BETWEEN" = some (some (.int 5 t_MOST_BETWEEN)))
  (g_BESIDE:nsIn K mainGlobals "BESIDE" = some (some (.int 7 t_BESIDE)))
  (g_MOST_AHEAD:nsIn K mainGlobals "MOST_AHEAD" = some (some (.int 3 t_MOST_AHEAD)))
  (g_EACH_SLIP:nsIn K mainGlobals "EACH_SLIP" = some (some (.int 15 t_EACH_SLIP)))
  (z_len:nsIn K mainGlobals "len" = some none)
  (z_range:nsIn K mainGlobals "range" = some none)
  (z_min:nsIn K mainGlobals "min" = some none)
  (z_sorted:nsIn K mainGlobals "sorted" = some none)
  (z_max:nsIn K mainGlobals "max" = some none)
  (z_enumerate:nsIn K mainGlobals "enumerate" = some none)
  (z_list:nsIn K mainGlobals "list" = some none)
  (z_any:nsIn K mainGlobals "any" = some none)
  (z_bool:nsIn K mainGlobals "bool" = some none)
  (z_isinstance:nsIn K mainGlobals "isinstance" = some none)
  (z_int:nsIn K mainGlobals "int" = some none)
  (z_zip:nsIn K mainGlobals "zip" = some none)
  (z_all:nsIn K mainGlobals "all" = some none)
  : GZ K∧∃fd:FuncData,(∀(s:Shared) (v:Value),BindsTo s fd ⟨[v],[]⟩ [("_law_script", v)])∧∀base:Heap,K.In base→base.Ns mainGlobals mg→BM mg base→FnOk l.prog w K mg base CX0 8 fa fd ["_law_script"] (Ua K):=by
 have e:=hfa.symm.trans (mg_of X G a31)
 cases e
 refine⟨fun r hr=>?_,?_⟩
 ·rcases hr with _|⟨_,hr⟩
  ·exact⟨_,tb6⟩
  ·cases hr
 have D0:zS K mg "_law_cell" xM f0 _:=⟨yz (st:=xM) l0 c0 k0,mg_of X G a0⟩
 have D1:zS K mg "_law_drawn" xC f1 _:=⟨yz (st:=xC) l1 c1 k1,mg_of X G a1⟩
 have D2:zS K mg "_law_name" xK f2 _:=⟨yz (st:=xK) l2 c2 k2,mg_of X G a2⟩
 have D3:zS K mg "_law_names" xB f3 _:=⟨yz (st:=xB) l3 c3 k3,mg_of X G a3⟩
 have D4:zS K mg "_law_mark" xL f4 _:=⟨yz (st:=xL) l4 c4 k4,mg_of X G a4⟩
 have D5:zS K mg "_law_query" xA f5 _:=⟨yz (st:=xA) l5 c5 k5,mg_of X G a5⟩
 have D6:V3 K mg "in_order" wy f6 cc6 152:=⟨⟨_,_,_,_,_,_,_,_,l6⟩,c6,k6,mg_of X G a6,tb6⟩
 have D7:zS K mg "first_rows" xz f7 _:=⟨yz (st:=xz) l7 c7 k7,mg_of X G a7⟩
 have D8:zS K mg "shorter_rests" yV f8 _:=⟨yz (st:=yV) l8 c8 k8,mg_of X G a8⟩
 have D9:zS K mg "beginning_points" yx f9 _:=⟨yz (st:=yx) l9 c9 k9,mg_of X G a9⟩
 have D10:zS K mg "own_points" xx f10 _:=⟨yz (st:=xx) l10 c10 k10,mg_of X G a10⟩
 have D11:zS K mg "meets" vU f11 _:=⟨yz (st:=vU) l11 c11 k11,mg_of X G a11⟩
 have D12:zS K mg "last_sign_tails" yE f12 _:=⟨yz (st:=yE) l12 c12 k12,mg_of X G a12⟩
 have D13:zS K mg "first_of_most" yW f13 _:=⟨yz (st:=yW) l13 c13 k13,mg_of X G a13⟩
 have D14:zS K mg "link_points" xi f14 _:=⟨yz (st:=xi) l14 c14 k14,mg_of X G a14⟩
 have D15:zS K mg "linked_tails" yZ f15 _:=⟨yz (st:=yZ) l15 c15 k15,mg_of X G a15⟩
 have D16:zS K mg "longer_tails" yY f16 _:=⟨yz (st:=yY) l16 c16 k16,mg_of X G a16⟩
 have D17:zS K mg "lead_points" xk f17 _:=⟨yz (st:=xk) l17 c17 k17,mg_of X G a17⟩
 have D18:zS K mg "best" jg f18 _:=⟨yz (st:=jg) l18 c18 k18,mg_of X G a18⟩
 have D19:zS K mg "best_with_slips" yG f19 _:=⟨yz (st:=yG) l19 c19 k19,mg_of X G a19⟩
 have D20:zS K mg "finds_with_slips" yw f20 _:=⟨yz (st:=yw) l20 c20 k20,mg_of X G a20⟩
 have D21:zS K mg "fitting_rows" y0 f21 _:=⟨yz (st:=y0) l21 c21 k21,mg_of X G a21⟩
 have D22:zS K mg "all_rows" x9 f22 _:=⟨yz (st:=x9) l22 c22 k22,mg_of X G a22⟩
 have D23:zS K mg "finds" vV f23 _:=⟨yz (st:=vV) l23 c23 k23,mg_of X G a23⟩
 have D24:zS K mg "earliest_places" yF f24 _:=⟨yz (st:=yF) l24 c24 k24,mg_of X G a24⟩
 have D25:zS K mg "fits" jf f25 _:=⟨yz (st:=jf) l25 c25 k25,mg_of X G a25⟩
 have D26:zS K mg "least_slips" xj f26 _:=⟨yz (st:=xj) l26 c26 k26,mg_of X G a26⟩
 have D27:zS K mg "is_whole" x8 f27 _:=⟨yz (st:=x8) l27 c27 k27,mg_of X G a27⟩
 have D28:zS K mg "are_rising_places" yo f28 _:=⟨yz (st:=yo) l28 c28 k28,mg_of X G a28⟩
 have D29:zS K mg "is_laying" xJ f29 _:=⟨yz (st:=xJ) l29 c29 k29,mg_of X G a29⟩
 have D30:zS K mg "points" vg f30 _:=⟨yz (st:=vg) l30 c30 k30,mg_of X G a30⟩
 refine⟨fnOf "law" "law" (zN jy) (zF jy) (zk jy) .none kV31 dc31 pm31 an31 cd31 ct31,fun s v=>.of_eq rfl,fun base _ _ bm=>?_⟩
 have h__law_cell:DefOk l.prog w K mg base "_law_cell" 1 2 ["_law_script", "_law_k"] wd:=X3 D0 (mg_none_of X G z_len)
 have h__law_drawn:DefOk l.prog w K mg base "_law_drawn" 2 3 ["_law_script", "_law_k", "_law_many"] zr:=YS D1 h__law_cell
 have h__law_name:DefOk l.prog w K mg base "_law_name" 3 2 ["_law_script", "_law_at"] xv:=X1 D2 h__law_drawn (mg_none_of X G z_range)
 have h__law_names:DefOk l.prog w K mg base "_law_names" 4 3 ["_law_script", "_law_at", "_law_most"] xE:=YR D3 h__law_drawn h__law_name (mg_none_of X G z_len) (mg_none_of X G z_range)
 have h__law_mark:DefOk l.prog w K mg base "_law_mark" 1 1 ["_law_sign"] xw:=X2 D4
 have h__law_query:DefOk l.prog w K mg base "_law_query" 3 4 ["_law_script", "_law_at", "_law_name_here", "_law_most"] xD:=YQ D5 h__law_drawn h__law_mark (mg_none_of X G z_range) (mg_none_of X G z_len) (mg_none_of X G z_min)
 have h_in_order:DefOk l.prog w K mg base "in_order" 4 2 ["names", "rows"] xN:=WC D6 bm (mg_none_of X G z_len) (mg_none_of X G z_sorted)
 have h_first_rows:DefOk l.prog w K mg base "first_rows" 5 3 ["names", "rows", "many"] yJ:=YO D7 h_in_order (mg_none_of X G z_max)
 have h_shorter_rests:DefOk l.prog w K mg base "shorter_rests" 1 1 ["rests"] yn:=j1 D8 (mg_none_of X G z_len) (mg_none_of X G z_range) (mg_none_of X G z_sorted)
 have h_beginning_points:DefOk l.prog w K mg base "beginning_points" 1 2 ["name", "place"] yM:=uY D9 (mg_of X G g_FIGURES) (mg_of X G g_SMALL) (mg_of X G g_GREAT) (mg_of X G g_AT_GREAT) (mg_of X G g_MARKS) (mg_of X G g_BEHIND_MARK) (mg_of X G g_AT_BEGINNING)
 have h_own_points:DefOk l.prog w K mg base "own_points" 2 3 ["sign", "name", "place"] yj:=YN D10 h_beginning_points (mg_of X G g_EACH_PLACE) (mg_of X G g_SAME_SIGN)
 have h_meets:DefOk l.prog w K mg base "meets" 1 2 ["sign", "other"] xc:=QO D11 (mg_of X G g_SMALL)
 have h_last_sign_tails:DefOk l.prog w K mg base "last_sign_tails" 3 2 ["sign", "name"] yr:=jk D12 h_meets h_own_points (mg_none_of X G z_len) (mg_none_of X G z_range)
 have h_first_of_most:DefOk l.prog w K mg base "first_of_most" 1 1 ["tails"] z6:=j2 D13
 have h_link_points:DefOk l.prog w K mg base "link_points" 1 2 ["ahead", "place"] yC:=Z3 D14 (mg_of X G g_MOST_BETWEEN) (mg_of X G g_BESIDE) (mg_none_of X G z_min)
 have h_linked_tails:DefOk l.prog w K mg base "linked_tails" 2 2 ["place", "tails"] yQ:=Zv D15 h_link_points
 have h_longer_tails:DefOk l.prog w K mg base "longer_tails" 3 3 ["sign", "name", "tails"] y3:=Zu D16 h_meets h_own_points h_linked_tails h_first_of_most (mg_none_of X G z_len) (mg_none_of X G z_range)
 have h_lead_points:DefOk l.prog w K mg base "lead_points" 1 1 ["place"] yu:=Z5 D17 (mg_of X G g_MOST_AHEAD) (mg_none_of X G z_min)
 have h_best:DefOk l.prog w K mg base "best" 4 2 ["query", "name"] wB:=MQ D18 h_lead_points h_first_of_most h_longer_tails h_last_sign_tails (mg_none_of X G z_len) (mg_none_of X G z_range)
 have h_best_with_slips:DefOk l.prog w K mg base "best_with_slips" 5 3 ["query", "name", "many"] zM:=jm D19 h_shorter_rests h_best (mg_of X G g_EACH_SLIP) (mg_none_of X G z_len) (mg_none_of X G z_min) (mg_none_of X G z_range)
 have h_finds_with_slips:DefOk l.prog w K mg base "finds_with_slips" 6 4 ["names", "query", "slips", "many"] yf:=uX D20 h_first_rows h_best_with_slips (mg_none_of X G z_enumerate)
 have h_fitting_rows:DefOk l.prog w K mg base "fitting_rows" 5 3 ["names", "query", "numbers"] yS:=Zw D21 h_best
 have h_all_rows:DefOk l.prog w K mg base "all_rows" 6 2 ["names", "query"] xO:=WD D22 h_fitting_rows (mg_none_of X G z_len) (mg_none_of X G z_list) (mg_none_of X G z_range)
 have h_finds:DefOk l.prog w K mg base "finds" 7 3 ["names", "query", "many"] v9:=QP D23 h_all_rows h_first_rows
 have h_earliest_places:DefOk l.prog w K mg base "earliest_places" 2 2 ["query", "name"] yU:=jl D24 h_meets (mg_none_of X G z_len) (mg_none_of X G z_range)
 have h_fits:DefOk l.prog w K mg base "fits" 3 2 ["query", "name"] vI:=MP D25 h_earliest_places (mg_none_of X G z_len)
 have h_least_slips:DefOk l.prog w K mg base "least_slips" 4 2 ["query", "name"] yO:=Z4 D26 h_fits h_shorter_rests (mg_none_of X G z_any)
 have h_is_whole:DefOk l.prog w K mg base "is_whole" 1 1 ["thing"] wa:=WB D27 (mg_none_of X G z_bool) (mg_none_of X G z_isinstance) (mg_none_of X G z_int)
 have h_are_rising_places:DefOk l.prog w K mg base "are_rising_places" 2 2 ["name", "things"] yK:=uA D28 h_is_whole (mg_none_of X G z_len)
 have h_is_laying:DefOk l.prog w K mg base "is_laying" 3 3 ["query", "name", "thing"] yR:=XZ D29 h_meets h_are_rising_places (mg_none_of X G z_zip) (mg_none_of X G z_all) (mg_none_of X G z_len) (mg_none_of X G z_list) (mg_none_of X G z_isinstance)
 have h_points:DefOk l.prog w K mg base "points" 4 3 ["query", "name", "laying"] vn:=Jl D30 h_lead_points h_link_points h_own_points h_is_laying (mg_none_of X G z_len) (mg_none_of X G z_range)
 exact L4 (LU (yz (st:=jy) l31 c31 k31) h_finds_with_slips h_best_with_slips h_is_laying h_points h_least_slips h_fits h_finds h__law_drawn h__law_query h__law_names (mg_none_of X G z_len) (mg_none_of X G z_range)) hl
end Law
open PySem PySem.W PyProof.Rows
set_option maxRecDepth 100000 in
set_option maxHeartbeats 0 in
theorem PySem.Challenge.cw_fewfind_k85_whole_slips_holds : PySem.Challenge.rw_fewfind_k85_whole_slips.Holds := by
 w_on;o_law;k_head;(case hw=>w_witness2)
 k_fill
 refine FD.walkM (l:=PySem.Challenge.rw_fewfind_k85_whole_slips) (k:=8) (p := "_law_script") rfl rfl ⟨rfl,by decide,by decide⟩ ?T ?F
 case F=>
  intro w mg fa h KX G hmg
  refine' Law.all_mk KX G hmg Law.main ?a0 ?l0 ?c0 ?k0 ?a1 ?l1 ?c1 ?k1 ?a2 ?l2 ?c2 ?k2 ?a3 ?l3 ?c3 ?k3 ?a4 ?l4 ?c4 ?k4 ?a5 ?l5 ?c5 ?k5 ?a6 ?l6 ?c6 ?k6 ?tb6 ?a7 ?l7 ?c7 ?k7 ?a8 ?l8 ?c8 ?k8 ?a9 ?l9 ?c9 ?k9 ?a10 ?l10 ?c10 ?k10 ?a11 ?l11 ?c11 ?k11 ?a12 ?l12 ?c12 ?k12 ?a13 ?l13 ?c13 ?k13 ?a14 ?l14 ?c14 ?k14 ?a15 ?l15 ?c15 ?k15 ?a16 ?l16 ?c16 ?k16 ?a17 ?l17 ?c17 ?k17 ?a18 ?l18 ?c18 ?k18 ?a19 ?l19 ?c19 ?k19 ?a20 ?l20 ?c20 ?k20 ?a21 ?l21 ?c21 ?k21 ?a22 ?l22 ?c22 ?k22 ?a23 ?l23 ?c23 ?k23 ?a24 ?l24 ?c24 ?k24 ?a25 ?l25 ?c25 ?k25 ?a26 ?l26 ?c26 ?k26 ?a27 ?l27 ?c27 ?k27 ?a28 ?l28 ?c28 ?k28 ?a29 ?l29 ?c29 ?k29 ?a30 ?l30 ?c30 ?k30 ?a31 ?l31 ?c31 ?k31 ?g_FIGURES ?g_SMALL ?g_GREAT ?g_AT_GREAT ?g_MARKS ?g_BEHIND_MARK ?g_AT_BEGINNING ?g_EACH_PLACE ?g_SAME_SIGN ?g_MOST_BETWEEN ?g_BESIDE ?g_MOST_AHEAD ?g_EACH_SLIP ?z_len ?z_range ?z_min ?z_sorted ?z_max ?z_enumerate ?z_list ?z_any ?z_bool ?z_isinstance ?z_int ?z_zip ?z_all
  (case a0=>k_is)
  (case l0=>k_is)
  (case c0=>k_is)
  (case k0=>k_is)
  (case a1=>k_is)
  (case l1=>k_is)
  (case c1=>k_is)
  (case k1=>k_is)
  (case a2=>k_is)
  (case l2=>k_is)
  (case c2=>k_is)
  (case k2=>k_is)
  (case a3=>k_is)
  (case l3=>k_is)
  (case c3=>k_is)
  (case k3=>k_is)
  (case a4=>k_is)
  (case l4=>k_is)
  (case c4=>k_is)
  (case k4=>k_is)
  (case a5=>k_is)
  (case l5=>k_is)
  (case c5=>k_is)
  (case k5=>k_is)
  (case a6=>k_is)
  (case l6=>k_is)
  (case c6=>k_is)
  (case k6=>k_is)
  (case tb6=>with_unfolding_all rfl)
  (case a7=>k_is)
  (case l7=>k_is)
  (case c7=>k_is)
  (case k7=>k_is)
  (case a8=>k_is)
  (case l8=>k_is)
  (case c8=>k_is)
  (case k8=>k_is)
  (case a9=>k_is)
  (case l9=>k_is)
  (case c9=>k_is)
  (case k9=>k_is)
  (case a10=>k_is)
  (case l10=>k_is)
  (case c10=>k_is)
  (case k10=>k_is)
  (case a11=>k_is)
  (case l11=>k_is)
  (case c11=>k_is)
  (case k11=>k_is)
  (case a12=>k_is)
  (case l12=>k_is)
  (case c12=>k_is)
  (case k12=>k_is)
  (case a13=>k_is)
  (case l13=>k_is)
  (case c13=>k_is)
  (case k13=>k_is)
  (case a14=>k_is)
  (case l14=>k_is)
  (case c14=>k_is)
  (case k14=>k_is)
  (case a15=>k_is)
  (case l15=>k_is)
  (case c15=>k_is)
  (case k15=>k_is)
  (case a16=>k_is)
  (case l16=>k_is)
  (case c16=>k_is)
  (case k16=>k_is)
  (case a17=>k_is)
  (case l17=>k_is)
  (case c17=>k_is)
  (case k17=>k_is)
  (case a18=>k_is)
  (case l18=>k_is)
  (case c18=>k_is)
  (case k18=>k_is)
  (case a19=>k_is)
  (case l19=>k_is)
  (case c19=>k_is)
  (case k19=>k_is)
  (case a20=>k_is)
  (case l20=>k_is)
  (case c20=>k_is)
  (case k20=>k_is)
  (case a21=>k_is)
  (case l21=>k_is)
  (case c21=>k_is)
  (case k21=>k_is)
  (case a22=>k_is)
  (case l22=>k_is)
  (case c22=>k_is)
  (case k22=>k_is)
  (case a23=>k_is)
  (case l23=>k_is)
  (case c23=>k_is)
  (case k23=>k_is)
  (case a24=>k_is)
  (case l24=>k_is)
  (case c24=>k_is)
  (case k24=>k_is)
  (case a25=>k_is)
  (case l25=>k_is)
  (case c25=>k_is)
  (case k25=>k_is)
  (case a26=>k_is)
  (case l26=>k_is)
  (case c26=>k_is)
  (case k26=>k_is)
  (case a27=>k_is)
  (case l27=>k_is)
  (case c27=>k_is)
  (case k27=>k_is)
  (case a28=>k_is)
  (case l28=>k_is)
  (case c28=>k_is)
  (case k28=>k_is)
  (case a29=>k_is)
  (case l29=>k_is)
  (case c29=>k_is)
  (case k29=>k_is)
  (case a30=>k_is)
  (case l30=>k_is)
  (case c30=>k_is)
  (case k30=>k_is)
  (case a31=>k_is)
  (case l31=>k_is)
  (case c31=>k_is)
  (case k31=>k_is)
  (case g_FIGURES=>k_is)
  (case g_SMALL=>k_is)
  (case g_GREAT=>k_is)
  (case g_AT_GREAT=>k_is)
  (case g_MARKS=>k_is)
  (case g_BEHIND_MARK=>k_is)
  (case g_AT_BEGINNING=>k_is)
  (case g_EACH_PLACE=>k_is)
  (case g_SAME_SIGN=>k_is)
  (case g_MOST_BETWEEN=>k_is)
  (case g_BESIDE=>k_is)
  (case g_MOST_AHEAD=>k_is)
  (case g_EACH_SLIP=>k_is)
  (case z_len=>k_is)
  (case z_range=>k_is)
  (case z_min=>k_is)
  (case z_sorted=>k_is)
  (case z_max=>k_is)
  (case z_enumerate=>k_is)
  (case z_list=>k_is)
  (case z_any=>k_is)
  (case z_bool=>k_is)
  (case z_isinstance=>k_is)
  (case z_int=>k_is)
  (case z_zip=>k_is)
  (case z_all=>k_is)
 case T=>decide
