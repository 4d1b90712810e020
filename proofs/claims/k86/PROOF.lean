import PyProof.Rows.All
import Wide.All
import OpenK.AllK
import Wide.FinOn
import Lean
import PyProof.EqAt
import PyProof.EqKinds
import PyProof.TupleCall
import PyProof.NeKinds
import PyProof.NeData
import PyProof.P3In
import PyProof.ZipIter
import PyProof.Draws
import PyProof.StrWalks
import PyProof.IsiPairs
import PyProof.IsiSeqPairs
import PyProof.ConsumeWalk
import PyProof.ListStr
import PyProof.IsiHeapPairs
import PyProof.Rows.Range3
import PyProof.IsiNone
import KE.KRevIter
import KE.KRevSl
import PyProof.Conv_int_bool
import PyProof.ListRange
import PyProof.TupleOfSeq
import PyProof.MinMaxWalk
import PyProof.WalkInts
import PyProof.SeqI3
import PyProof.SetKind
import PyProof.Rows.SetFrom
import PyProof.CollectWalk
import PyProof.FactsAll.set
import PyProof.Rows.SortWalk
import PyProof.Rows.SortShell
import PyProof.Rows.SumAny
import PyProof.DictWalks
import PyProof.Rows.SortRev
import PyProof.Rows.SortStr
import PyProof.AttrMissHeap
import KE.KDictOf
import PySem.Challenge.RW_fewfind_k86_pagers
set_option Elab.async false
set_option linter.all false
set_option maxRecDepth 100000
theorem X01{G:Prop}{A B:Prop}(h:A∧B)(g:A→B→G):G:=have⟨ha,hb⟩:=h;g ha hb
theorem X02{G:Prop}{A B C:Prop}(h:A∧B∧C)(g:A→B→C→G):G:=have⟨ha,hb,hc⟩:=h;g ha hb hc
theorem X03{G:Prop}{A B C D:Prop}(h:A∧B∧C∧D)(g:A→B→C→D→G):G:=have⟨ha,hb,hc,hd⟩:=h;g ha hb hc hd
theorem X04{G:Prop}{A B C D E:Prop}(h:A∧B∧C∧D∧E)(g:A→B→C→D→E→G):G:=have⟨ha,hb,hc,hd,he⟩:=h;g ha hb hc hd he
theorem X05{G:Prop}{A B C D E F:Prop}(h:A∧B∧C∧D∧E∧F)(g:A→B→C→D→E→F→G):G:=have⟨ha,hb,hc,hd,he,hf⟩:=h;g ha hb hc hd he hf
theorem X10{G:Prop}{a:Type}{A:a→Prop}(h:∃s,A s)(g:∀s,A s→G):G:=have⟨s,ha⟩:=h;g s ha
theorem X11{G:Prop}{a:Type}{A B:a→Prop}(h:∃s,A s∧B s)(g:∀s,A s→B s→G):G:=have⟨s,ha,hb⟩:=h;g s ha hb
theorem X12{G:Prop}{a:Type}{A B C:a→Prop}(h:∃s,A s∧B s∧C s)(g:∀s,A s→B s→C s→G):G:=have⟨s,ha,hb,hc⟩:=h;g s ha hb hc
theorem X14{G:Prop}{a:Type}{A B C D E:a→Prop}(h:∃s,A s∧B s∧C s∧D s∧E s)(g:∀s,A s→B s→C s→D s→E s→G):G:=have⟨s,ha,hb,hc,hd,he⟩:=h;g s ha hb hc hd he
theorem X20{G:Prop}{a b:Type}{A:a→b→Prop}(h:∃s t,A s t)(g:∀s t,A s t→G):G:=have⟨s,t,ha⟩:=h;g s t ha
theorem X21{G:Prop}{a b:Type}{A B:a→b→Prop}(h:∃s t,A s t∧B s t)(g:∀s t,A s t→B s t→G):G:=have⟨s,t,ha,hb⟩:=h;g s t ha hb
theorem X22{G:Prop}{a b:Type}{A B C:a→b→Prop}(h:∃s t,A s t∧B s t∧C s t)(g:∀s t,A s t→B s t→C s t→G):G:=have⟨s,t,ha,hb,hc⟩:=h;g s t ha hb hc
theorem X23{G:Prop}{a b:Type}{A B C D:a→b→Prop}(h:∃s t,A s t∧B s t∧C s t∧D s t)(g:∀s t,A s t→B s t→C s t→D s t→G):G:=have⟨s,t,ha,hb,hc,hd⟩:=h;g s t ha hb hc hd
theorem X24{G:Prop}{a b:Type}{A B C D E:a→b→Prop}(h:∃s t,A s t∧B s t∧C s t∧D s t∧E s t)(g:∀s t,A s t→B s t→C s t→D s t→E s t→G):G:=have⟨s,t,ha,hb,hc,hd,he⟩:=h;g s t ha hb hc hd he
theorem X25{G:Prop}{a b:Type}{A B C D E F:a→b→Prop}(h:∃s t,A s t∧B s t∧C s t∧D s t∧E s t∧F s t)(g:∀s t,A s t→B s t→C s t→D s t→E s t→F s t→G):G:=have⟨s,t,ha,hb,hc,hd,he,hf⟩:=h;g s t ha hb hc hd he hf
theorem X30{G:Prop}{a b c:Type}{A:a→b→c→Prop}(h:∃s t u,A s t u)(g:∀s t u,A s t u→G):G:=have⟨s,t,u,ha⟩:=h;g s t u ha
theorem X31{G:Prop}{a b c:Type}{A B:a→b→c→Prop}(h:∃s t u,A s t u∧B s t u)(g:∀s t u,A s t u→B s t u→G):G:=have⟨s,t,u,ha,hb⟩:=h;g s t u ha hb
theorem X32{G:Prop}{a b c:Type}{A B C:a→b→c→Prop}(h:∃s t u,A s t u∧B s t u∧C s t u)(g:∀s t u,A s t u→B s t u→C s t u→G):G:=have⟨s,t,u,ha,hb,hc⟩:=h;g s t u ha hb hc
theorem X33{G:Prop}{a b c:Type}{A B C D:a→b→c→Prop}(h:∃s t u,A s t u∧B s t u∧C s t u∧D s t u)(g:∀s t u,A s t u→B s t u→C s t u→D s t u→G):G:=have⟨s,t,u,ha,hb,hc,hd⟩:=h;g s t u ha hb hc hd
theorem X34{G:Prop}{a b c:Type}{A B C D E:a→b→c→Prop}(h:∃s t u,A s t u∧B s t u∧C s t u∧D s t u∧E s t u)(g:∀s t u,A s t u→B s t u→C s t u→D s t u→E s t u→G):G:=have⟨s,t,u,ha,hb,hc,hd,he⟩:=h;g s t u ha hb hc hd he
theorem X35{G:Prop}{a b c:Type}{A B C D E F:a→b→c→Prop}(h:∃s t u,A s t u∧B s t u∧C s t u∧D s t u∧E s t u∧F s t u)(g:∀s t u,A s t u→B s t u→C s t u→D s t u→E s t u→F s t u→G):G:=have⟨s,t,u,ha,hb,hc,hd,he,hf⟩:=h;g s t u ha hb hc hd he hf
theorem X40{G:Prop}{a b c d:Type}{A:a→b→c→d→Prop}(h:∃s t u v,A s t u v)(g:∀s t u v,A s t u v→G):G:=have⟨s,t,u,v,ha⟩:=h;g s t u v ha
theorem X41{G:Prop}{a b c d:Type}{A B:a→b→c→d→Prop}(h:∃s t u v,A s t u v∧B s t u v)(g:∀s t u v,A s t u v→B s t u v→G):G:=have⟨s,t,u,v,ha,hb⟩:=h;g s t u v ha hb
theorem X43{G:Prop}{a b c d:Type}{A B C D:a→b→c→d→Prop}(h:∃s t u v,A s t u v∧B s t u v∧C s t u v∧D s t u v)(g:∀s t u v,A s t u v→B s t u v→C s t u v→D s t u v→G):G:=have⟨s,t,u,v,ha,hb,hc,hd⟩:=h;g s t u v ha hb hc hd
theorem X45{G:Prop}{a b c d:Type}{A B C D E F:a→b→c→d→Prop}(h:∃s t u v,A s t u v∧B s t u v∧C s t u v∧D s t u v∧E s t u v∧F s t u v)(g:∀s t u v,A s t u v→B s t u v→C s t u v→D s t u v→E s t u v→F s t u v→G):G:=have⟨s,t,u,v,ha,hb,hc,hd,he,hf⟩:=h;g s t u v ha hb hc hd he hf
theorem X52{G:Prop}{a b c d e:Type}{A B C:a→b→c→d→e→Prop}(h:∃s t u v w,A s t u v w∧B s t u v w∧C s t u v w)(g:∀s t u v w,A s t u v w→B s t u v w→C s t u v w→G):G:=have⟨s,t,u,v,w,ha,hb,hc⟩:=h;g s t u v w ha hb hc
theorem X54{G:Prop}{a b c d e:Type}{A B C D E:a→b→c→d→e→Prop}(h:∃s t u v w,A s t u v w∧B s t u v w∧C s t u v w∧D s t u v w∧E s t u v w)(g:∀s t u v w,A s t u v w→B s t u v w→C s t u v w→D s t u v w→E s t u v w→G):G:=have⟨s,t,u,v,w,ha,hb,hc,hd,he⟩:=h;g s t u v w ha hb hc hd he
theorem X55{G:Prop}{a b c d e:Type}{A B C D E F:a→b→c→d→e→Prop}(h:∃s t u v w,A s t u v w∧B s t u v w∧C s t u v w∧D s t u v w∧E s t u v w∧F s t u v w)(g:∀s t u v w,A s t u v w→B s t u v w→C s t u v w→D s t u v w→E s t u v w→F s t u v w→G):G:=have⟨s,t,u,v,w,ha,hb,hc,hd,he,hf⟩:=h;g s t u v w ha hb hc hd he hf
theorem X59{G:Prop}{a b c d e:Type}{A B C D E F H I J K:a→b→c→d→e→Prop}(h:∃s t u v w,A s t u v w∧B s t u v w∧C s t u v w∧D s t u v w∧E s t u v w∧F s t u v w∧H s t u v w∧I s t u v w∧J s t u v w∧K s t u v w)(g:∀s t u v w,A s t u v w→B s t u v w→C s t u v w→D s t u v w→E s t u v w→F s t u v w→H s t u v w→I s t u v w→J s t u v w→K s t u v w→G):G:=have⟨s,t,u,v,w,ha,hb,hc,hd,he,hf,hg,hh,hi,hj⟩:=h;g s t u v w ha hb hc hd he hf hg hh hi hj
theorem X92{G:Prop}{a b c d e f g h i:Type}{A B C:a→b→c→d→e→f→g→h→i→Prop}(h:∃s t u v w x y z m,A s t u v w x y z m∧B s t u v w x y z m∧C s t u v w x y z m)(g:∀s t u v w x y z m,A s t u v w x y z m→B s t u v w x y z m→C s t u v w x y z m→G):G:=have⟨s,t,u,v,w,x,y,z,m,ha,hb,hc⟩:=h;g s t u v w x y z m ha hb hc
theorem Y11{a:Type}{A B:a→Prop}(s:a)(ha:A s)(hb:B s):∃s,A s∧B s:=⟨s,ha,hb⟩
theorem Y12{a:Type}{A B C:a→Prop}(s:a)(ha:A s)(hb:B s)(hc:C s):∃s,A s∧B s∧C s:=⟨s,ha,hb,hc⟩
theorem Y13{a:Type}{A B C D:a→Prop}(s:a)(ha:A s)(hb:B s)(hc:C s)(hd:D s):∃s,A s∧B s∧C s∧D s:=⟨s,ha,hb,hc,hd⟩
theorem Y14{a:Type}{A B C D E:a→Prop}(s:a)(ha:A s)(hb:B s)(hc:C s)(hd:D s)(he:E s):∃s,A s∧B s∧C s∧D s∧E s:=⟨s,ha,hb,hc,hd,he⟩
theorem Y20{a b:Type}{A:a→b→Prop}(s:a)(t:b)(ha:A s t):∃s t,A s t:=⟨s,t,ha⟩
theorem Y21{a b:Type}{A B:a→b→Prop}(s:a)(t:b)(ha:A s t)(hb:B s t):∃s t,A s t∧B s t:=⟨s,t,ha,hb⟩
theorem Y22{a b:Type}{A B C:a→b→Prop}(s:a)(t:b)(ha:A s t)(hb:B s t)(hc:C s t):∃s t,A s t∧B s t∧C s t:=⟨s,t,ha,hb,hc⟩
theorem Y23{a b:Type}{A B C D:a→b→Prop}(s:a)(t:b)(ha:A s t)(hb:B s t)(hc:C s t)(hd:D s t):∃s t,A s t∧B s t∧C s t∧D s t:=⟨s,t,ha,hb,hc,hd⟩
theorem Y25{a b:Type}{A B C D E F:a→b→Prop}(s:a)(t:b)(ha:A s t)(hb:B s t)(hc:C s t)(hd:D s t)(he:E s t)(hf:F s t):∃s t,A s t∧B s t∧C s t∧D s t∧E s t∧F s t:=⟨s,t,ha,hb,hc,hd,he,hf⟩
theorem Y30{a b c:Type}{A:a→b→c→Prop}(s:a)(t:b)(u:c)(ha:A s t u):∃s t u,A s t u:=⟨s,t,u,ha⟩
theorem Y31{a b c:Type}{A B:a→b→c→Prop}(s:a)(t:b)(u:c)(ha:A s t u)(hb:B s t u):∃s t u,A s t u∧B s t u:=⟨s,t,u,ha,hb⟩
theorem Y32{a b c:Type}{A B C:a→b→c→Prop}(s:a)(t:b)(u:c)(ha:A s t u)(hb:B s t u)(hc:C s t u):∃s t u,A s t u∧B s t u∧C s t u:=⟨s,t,u,ha,hb,hc⟩
theorem Y33{a b c:Type}{A B C D:a→b→c→Prop}(s:a)(t:b)(u:c)(ha:A s t u)(hb:B s t u)(hc:C s t u)(hd:D s t u):∃s t u,A s t u∧B s t u∧C s t u∧D s t u:=⟨s,t,u,ha,hb,hc,hd⟩
theorem Y34{a b c:Type}{A B C D E:a→b→c→Prop}(s:a)(t:b)(u:c)(ha:A s t u)(hb:B s t u)(hc:C s t u)(hd:D s t u)(he:E s t u):∃s t u,A s t u∧B s t u∧C s t u∧D s t u∧E s t u:=⟨s,t,u,ha,hb,hc,hd,he⟩
theorem Y35{a b c:Type}{A B C D E F:a→b→c→Prop}(s:a)(t:b)(u:c)(ha:A s t u)(hb:B s t u)(hc:C s t u)(hd:D s t u)(he:E s t u)(hf:F s t u):∃s t u,A s t u∧B s t u∧C s t u∧D s t u∧E s t u∧F s t u:=⟨s,t,u,ha,hb,hc,hd,he,hf⟩
theorem Y41{a b c d:Type}{A B:a→b→c→d→Prop}(s:a)(t:b)(u:c)(v:d)(ha:A s t u v)(hb:B s t u v):∃s t u v,A s t u v∧B s t u v:=⟨s,t,u,v,ha,hb⟩
theorem Y43{a b c d:Type}{A B C D:a→b→c→d→Prop}(s:a)(t:b)(u:c)(v:d)(ha:A s t u v)(hb:B s t u v)(hc:C s t u v)(hd:D s t u v):∃s t u v,A s t u v∧B s t u v∧C s t u v∧D s t u v:=⟨s,t,u,v,ha,hb,hc,hd⟩
theorem Y44{a b c d:Type}{A B C D E:a→b→c→d→Prop}(s:a)(t:b)(u:c)(v:d)(ha:A s t u v)(hb:B s t u v)(hc:C s t u v)(hd:D s t u v)(he:E s t u v):∃s t u v,A s t u v∧B s t u v∧C s t u v∧D s t u v∧E s t u v:=⟨s,t,u,v,ha,hb,hc,hd,he⟩
theorem Y52{a b c d e:Type}{A B C:a→b→c→d→e→Prop}(s:a)(t:b)(u:c)(v:d)(w:e)(ha:A s t u v w)(hb:B s t u v w)(hc:C s t u v w):∃s t u v w,A s t u v w∧B s t u v w∧C s t u v w:=⟨s,t,u,v,w,ha,hb,hc⟩
theorem Y54{a b c d e:Type}{A B C D E:a→b→c→d→e→Prop}(s:a)(t:b)(u:c)(v:d)(w:e)(ha:A s t u v w)(hb:B s t u v w)(hc:C s t u v w)(hd:D s t u v w)(he:E s t u v w):∃s t u v w,A s t u v w∧B s t u v w∧C s t u v w∧D s t u v w∧E s t u v w:=⟨s,t,u,v,w,ha,hb,hc,hd,he⟩
theorem Y55{a b c d e:Type}{A B C D E F:a→b→c→d→e→Prop}(s:a)(t:b)(u:c)(v:d)(w:e)(ha:A s t u v w)(hb:B s t u v w)(hc:C s t u v w)(hd:D s t u v w)(he:E s t u v w)(hf:F s t u v w):∃s t u v w,A s t u v w∧B s t u v w∧C s t u v w∧D s t u v w∧E s t u v w∧F s t u v w:=⟨s,t,u,v,w,ha,hb,hc,hd,he,hf⟩
theorem Y82{a b c d e f g h:Type}{A B C:a→b→c→d→e→f→g→h→Prop}(s:a)(t:b)(u:c)(v:d)(w:e)(x:f)(y:g)(z:h)(ha:A s t u v w x y z)(hb:B s t u v w x y z)(hc:C s t u v w x y z):∃s t u v w x y z,A s t u v w x y z∧B s t u v w x y z∧C s t u v w x y z:=⟨s,t,u,v,w,x,y,z,ha,hb,hc⟩
theorem Y92{a b c d e f g h i:Type}{A B C:a→b→c→d→e→f→g→h→i→Prop}(s:a)(t:b)(u:c)(v:d)(w:e)(x:f)(y:g)(z:h)(m:i)(ha:A s t u v w x y z m)(hb:B s t u v w x y z m)(hc:C s t u v w x y z m):∃s t u v w x y z m,A s t u v w x y z m∧B s t u v w x y z m∧C s t u v w x y z m:=⟨s,t,u,v,w,x,y,z,m,ha,hb,hc⟩
open PySem.W (instObj methodObj lookIn plainGet hasDictIn findIn plainGet_of isFn plainOver takerIn makesIn typeIn emptyDict looks_findIn keepIn callWith_K methodCall_KW fnOf codeIn nsIn excIn findObj mroIn kitCls kitOne exmOne mg_of mg_none_of)
open PyProof.Rows (boot_list)
open List (mem_filter mem_range filterMap_cons mem_cons_self mem_cons_of_mem mem_cons mem_append mem_append_left getElem?_set_self getElem?_set_ne mem_append_right size_toArray length_cons map_cons length_map append_nil nodup_cons length_take getElem?_append_right getElem?_replicate getElem?_append_left getElem?_map length_append length_replicate length_drop replicate_succ flatten_cons foldl_cons length_singleton nil_append map_nil getElem?_set drop_eq_getElem_cons drop_length lookup_cons set_set length_range mem_map pairwise_cons map_map getElem?_eq_getElem map_append getElem?_cons_succ getElem?_cons_zero getD_eq_getElem?_getD set_cons_succ set_cons_zero drop_zero map_id)
open Nat (lt_of_lt_of_le lt_irrefl ne_of_lt le_trans le_of_lt ne_of_gt le_refl zero_le lt_or_ge zero_add)
open Int (emod_nonneg emod_lt_of_pos natCast_ediv natCast_mul)
open Array (length_toList getElem_toList)
open PySem.W (Frag)
open PySem.Heap (get?_push_of_some)
namespace L2
open PySem PySem.Spec PyProof.Rows
theorem lnz1{α:Type _}{l:List α}(h:l.length=1):∃a,l=[a]:=List.length_eq_one_iff.mp h
theorem lnz2{α:Type _}{l:List α}(h:l.length=2):∃a b,l=[a,b]:=by
 match l,h with
 |[a,b],_=>exact⟨a,b,rfl⟩
theorem lnz3{α:Type _}{l:List α}(h:l.length=3):∃a b c,l=[a,b,c]:=by
 match l,h with
 |[a,b,c],_=>exact⟨a,b,c,rfl⟩
theorem lnz4{α:Type _}{l:List α}(h:l.length=4):∃a b c d,l=[a,b,c,d]:=by
 match l,h with
 |[a,b,c,d],_=>exact⟨a,b,c,d,rfl⟩
noncomputable abbrev Key:=Sum Int Str
noncomputable def ze2:Key→Value→Bool
 |.inl k,v=>Value.isInt k v
 |.inr x,v=>Value.isStrOf x v
noncomputable def keyH(w:World):Key→Int
 |.inl k=>hashInt k
 |.inr x=>hashStr w x
theorem xr:∀{k:Key} {v:Value},ze2 k v=true→(∃i t,k=Sum.inl i∧v=Value.int i t)∨(∃x t,k=Sum.inr x∧v=Value.str x t)
 |.inl i,v,h=>by
  obtain⟨t,e⟩:=Value.isInt_shape (k:=i) (v:=v) h
  exact .inl ⟨i,t,rfl,e⟩
 |.inr x,v,h=>by
  obtain⟨t,e⟩:=Value.isStrOf_shape (x:=x) (v:=v) h
  exact .inr ⟨x,t,rfl,e⟩
theorem zl2(a b:Int):decide ((Sum.inl a:Key)=Sum.inl b)=(a==b):=by
 by_cases e:a=b
 ·subst e;simp
 ·have h:¬ (Sum.inl a:Key)=Sum.inl b:=fun q=>e (Sum.inl.inj q)
  rw[decide_eq_false h]
  exact(beq_eq_false_iff_ne.mpr e).symm
theorem zk9(a b:Str):decide ((Sum.inr a:Key)=Sum.inr b)=decide (a=b):=by
 by_cases e:a=b
 ·subst e;simp
 ·have h:¬ (Sum.inr a:Key)=Sum.inr b:=fun q=>e (Sum.inr.inj q)
  rw[decide_eq_false h,decide_eq_false e]
theorem zl1(a:Int)(b:Str):decide ((Sum.inl a:Key)=Sum.inr b)=false:=decide_eq_false (fun q=>nomatch q)
theorem zl0(a:Str)(b:Int):decide ((Sum.inr a:Key)=Sum.inl b)=false:=decide_eq_false (fun q=>nomatch q)
noncomputable def Vd(prog:Program)(w:World):PySem.KeyKind prog w Key where
 is:=ze2
 hash:=keyH w
 inj:=fun v a b ha hb=>by
  rcases xr ha with ⟨i,t,rfl,rfl⟩|⟨x,t,rfl,rfl⟩
  ·rcases xr hb with ⟨j,u,rfl,e⟩|⟨y,u,rfl,e⟩
   ·injection e with e1 _;rw[e1]
   ·exact nomatch e
  ·rcases xr hb with ⟨j,u,rfl,e⟩|⟨y,u,rfl,e⟩
   ·exact nomatch e
   ·injection e with e1 _;rw[e1]
 byValue:=fun k v h=>by
  rcases xr h with ⟨i,t,rfl,rfl⟩|⟨x,t,rfl,rfl⟩ <;> rfl
 pyHash:=fun hv h=>by
  rcases xr hv with ⟨i,t,rfl,rfl⟩|⟨x,t,rfl,rfl⟩
  ·exact wpAny_pyHash_int h
  ·exact wpAny_pyHash_str h
 eqBool:=fun hu hv h=>by
  rcases xr hu with ⟨i,t,rfl,rfl⟩|⟨x,t,rfl,rfl⟩
  ·rcases xr hv with ⟨j,u,rfl,rfl⟩|⟨y,u,rfl,rfl⟩
   ·rw[zl2] at h;exact wpAny_eqBool_int h
   ·rw[zl1] at h;exact SeqAt.EqAt.int_str i t y u _ _ _ _ h
  ·rcases xr hv with ⟨j,u,rfl,rfl⟩|⟨y,u,rfl,rfl⟩
   ·rw[zl0] at h;exact SeqAt.EqAt.str_int x t j u _ _ _ _ h
   ·rw[zk9] at h;exact wpAny_eqBool_str h
 «strs»:=fun k x t v h=>by
  rcases xr h with ⟨i,u,rfl,e⟩|⟨y,u,rfl,e⟩
  ·exact nomatch e
  ·injection e with e1 _
   subst e1
   cases v <;> rfl
inductive V where
 | non|bl (b:Bool) | int (i:Int) | str (x:Str) | byt (b:Array UInt8) | flt (b:UInt64) | ref (a:Addr) | ty (n:String)
 deriving DecidableEq
noncomputable def RelV:V→Value→Prop
 |.non,u=>u=Value.none
 |.bl b,u=>u=Value.bool b
 |.int i,u=>∃t,u=Value.int i t
 |.str x,u=>∃t,u=Value.str x t
 |.byt b,u=>∃t,u=Value.bytes b t
 |.flt b,u=>∃t,u=Value.float b t
 |.ref a,u=>u=Value.ref a
 |.ty n,u=>u=Value.type n
noncomputable abbrev Vals:List V→List Value→Prop:=Paired RelV
theorem Vals.length{xs:List V}{us:List Value}(r:Vals xs us):xs.length=us.length:=Paired.length r
theorem Vals.get:∀{xs:List V} {us:List Value} {i:Nat} {x:V},Vals xs us→xs[i]?=some x→∃u,us[i]?=some u∧RelV x u
 |_,_,_,_,.nil,e=>by simp at e
 |_,_,0,_,.cons r _,e=>by simp at e;subst e;exact Y11 _ rfl r
 |_,_,i+1,x,.cons _ t,e=>by
  refine X11 (Vals.get (i:=i) (x:=x) t (by simpa using e)) fun u h1 h2=>?_
  exact Y11 u (by simpa using h1) h2
theorem Vals.set{x:V}{u:Value}(r:RelV x u):∀{xs:List V} {us:List Value} (i:Nat),Vals xs us→Vals (xs.set i x) (us.set i u)
 |_,_,_,.nil=>.nil
 |_,_,0,.cons _ t=>.cons r t
 |_,_,i+1,.cons q t=>.cons q (Vals.set r i t)
theorem Vals.append:∀{xs ys:List V} {us ws:List Value},Vals xs us→Vals ys ws→Vals (xs++ys) (us++ws)
 |_,_,_,_,.nil,s=>s
 |_,_,_,_,.cons r t,s=>.cons r (Vals.append t s)
theorem Vals.take:∀{xs:List V} {us:List Value} (n:Nat),Vals xs us→Vals (xs.take n) (us.take n)
 |_,_,0,_=>.nil
 |_,_,_+1,.nil=>.nil
 |_,_,n+1,.cons r t=>.cons r (Vals.take n t)
theorem Vals.drop:∀{xs:List V} {us:List Value} (n:Nat),Vals xs us→Vals (xs.drop n) (us.drop n)
 |_,_,0,r=>r
 |_,_,_+1,.nil=>.nil
 |_,_,n+1,.cons _ t=>Vals.drop n t
noncomputable def RelO:Option V→Option Value→Prop
 |some v,some u=>RelV v u
 |none,none=>True
 |_,_=>False
noncomputable def KV{κ:Type}:List (κ×V)→List (κ×Value)→Prop:=Paired fun (p:κ×V) (q:κ×Value)=>p.1=q.1∧RelV p.2 q.2
noncomputable def kV:Key→V
 |.inl i=>.int i
 |.inr x=>.str x
inductive HO where
 | lst (xs:List V)
 | tup (xs:List V)
 | dK (kvs:List (Key×V)) | dT (kvs:List (List Key×V))
 | set (S:Int→Bool) (n:Nat)
 | ins (C dx:Addr) (fs:List (Str×V))
 | own (x:Addr)
 | xd (fs:List (Str×V))
 | met (f x:Addr)
 | rng (lo hi:Int)
 | frz (o:Obj) (u:HO)
 | tbl (ps:Array Value)
 | ext (φ:Heap→Prop)
noncomputable abbrev Hp:=Addr→Option HO
noncomputable def upd(H:Hp)(a:Addr)(o:HO):Hp:=fun b=>if b=a then some o else H b
theorem zr{H:Hp}{a:Addr}{o:HO}:upd H a o a=some o:=by unfold upd;rw[if_pos rfl]
theorem zp{H:Hp}{a b:Addr}{o:HO}(h:b≠a):upd H a o b=H b:=by unfold upd;rw[if_neg h]
theorem upd_upd{H:Hp}{a:Addr}{o u:HO}:upd (upd H a o) a u=upd H a u:=by
 funext b;unfold upd;split <;> rfl
theorem zI{H:Hp}{a b:Addr}{o:HO}(h:H a=some o)(h':H b=none):a≠b:=by
 intro e;subst e;rw[h] at h';nomatch h'
section
variable(P:Program)(w:World)
noncomputable def ObjOk(H:Hp)(h:Heap)(a:Addr):HO→Prop
 |.lst xs=>xs.length≤sizeLine∧∃(its:List Value) (n:Nat),Vals xs its∧h.get? a=some { cls:=.type "list", data:=.seq its.toArray n }
 |.tup xs=>xs.length≤sizeLine∧∃its:List Value,Vals xs its∧IsTup h a its.toArray
 |.dK kvs=>kvs.length≤sizeLine∧(a==sysModules)=false∧∃vs,KV kvs vs∧h.DictOf (Vd P w) a vs
 |.dT kvs=>kvs.length≤sizeLine∧(a==sysModules)=false∧∃xs:List (List Key×Addr×Value),
   Paired (fun (p:List Key×V) (q:List Key×Addr×Value)=>p.1=q.1∧H q.2.1=some (.tup (p.1.map kV))∧RelV p.2 q.2.2) kvs xs ∧
   ∃o es ep,h.get? a=some o∧o.ExactDict∧o.data=.dict es ep∧es.toList=xs.map (entryOfKey (tupleKind (Vd P w)))∧(xs.map (·.1)).Nodup
 |.set S n=>h.SetOf (intKind P w) a S n
 |.ins C dx fs=>H dx=some (.own a)∧fs.length≤1000∧dx≠a∧h.get? a=some (instObj C dx) ∧
   ∃mA,h.Ns1 dx mA∧(∀f,RelO (fs.lookup f) (mA f))∧PySem.Within mA (fs.map (·.1))
 |.own _=>∃o,h.get? a=some o
 |.xd fs=>∃mA,h.Ns1 a mA∧∀f,RelO (fs.lookup f) (mA f)
 |.rng lo hi=>∃t u v,h.get? a=some { cls:=.type "range", data:=.fields #[.int lo t,.int hi u,.int 1 v] }
 |.frz o u=>h.get? a=some o∧ObjOk H h a u
 |.tbl ps=>h.get? a=some { cls:=.none,data:=.fields ps }
 |.met f x=>h.get? a=some (methodObj (.ref f) (.ref x))
 |.ext φ=>φ h∧(∃o,h.get? a=some o)∧∀h1 h2:Heap,φ h1→(∀o,h1.get? a=some o→h2.get? a=some o)→φ h2
noncomputable def HOk(H:Hp)(h:Heap):Prop:=∀a o,H a=some o→ObjOk P w H h a o
end
section
variable{P:Program}{w:World}{H H':Hp}{h h':Heap}{a:Addr}{o:HO}
theorem ObjOk.lt(x:ObjOk P w H h a o):a<h.objs.size:=by
 cases o with
 |lst xs=>refine X01 x fun _ r101_=>?_;refine X21 r101_ fun _ _ _ e=>?_;exact Heap.lt_size e
 |tup xs=>refine X01 x fun _ r100_=>?_;refine X11 r100_ fun _ _ p=>?_;exact p.lt
 |dK kvs=>refine X02 x fun _ _ r98_=>?_;refine X11 r98_ fun _ _ r99_=>?_;refine X31 r99_ fun o _ _ e _=>?_;exact Heap.lt_size e
 |dT kvs=>refine X02 x fun _ _ r96_=>?_;refine X11 r96_ fun _ _ r97_=>?_;refine X31 r97_ fun o _ _ e _=>?_;exact Heap.lt_size e
 |set S n=>refine X41 x fun o _ _ _ e _=>?_;exact Heap.lt_size e
 |ins C dx fs=>refine X04 x fun _ _ _ e _=>?_;exact Heap.lt_size e
 |own y=>obtain⟨_,e⟩:=x;exact Heap.lt_size e
 |xd fs=>obtain⟨_,⟨_,_,_,e,_⟩,_⟩:=x;exact Heap.lt_size e
 |rng lo hi=>refine X30 x fun _ _ _ e=>?_;exact Heap.lt_size e
 |frz ob u=>obtain⟨e,_⟩:=x;exact Heap.lt_size e
 |tbl ps=>exact Heap.lt_size (show h.get? a=some _ from x)
 |met f y=>exact Heap.lt_size (show h.get? a=some _ from x)
 |ext φ=>obtain⟨_,⟨_,e⟩,_⟩:=x;exact Heap.lt_size e
theorem Paired.mapP{α β:Type}{F G:α→β→Prop}:∀{l₁:List α} {l₂:List β},Paired F l₁ l₂→(∀a b,F a b→G a b)→Paired G l₁ l₂
 |_,_,.nil,_=>.nil
 |_,_,.cons r t,f=>.cons (f _ _ r) (Paired.mapP t f)
theorem ObjOk.stay(x:ObjOk P w H h a o)(k:∀b u,(b=a∨H b=some (.own a))→h.get? b=some u→h'.get? b=some u)
  (ho:∀b,H b=some (.own a)→H' b=some (.own a)) (ht:∀b xs,H b=some (.tup xs)→H' b=some (.tup xs)):ObjOk P w H' h' a o:=by
 induction o with
 |lst xs=>refine X01 x fun z r95_=>?_;refine X21 r95_ fun its n r e=>?_;exact⟨z,its,n,r,k _ _ (.inl rfl) e⟩
 |tup xs=>refine X01 x fun z r93_=>?_;refine X11 r93_ fun its r r94_=>?_;refine X11 r94_ fun ob e c=>?_;exact⟨z,its,r,ob,k _ _ (.inl rfl) e,c⟩
 |dK kvs=>refine X02 x fun z y r91_=>?_;refine X11 r91_ fun vs r r92_=>?_;refine X31 r92_ fun ob es ep e c=>?_;exact⟨z,y,vs,r,ob,es,ep,k _ _ (.inl rfl) e,c⟩
 |dT kvs=>
  refine X02 x fun z y r89_=>?_;refine X11 r89_ fun xs r r90_=>?_;refine X31 r90_ fun ob es ep e c=>?_
  exact⟨z,y,xs,Paired.mapP r fun p q z=>⟨z.1,ht _ _ z.2.1,z.2.2⟩,ob,es,ep,k _ _ (.inl rfl) e,c⟩
 |set S n=>refine X41 x fun ob es ep t e c=>?_;exact Y41 ob es ep t (k _ _ (.inl rfl) e) c
 |ins C dx fs=>
  obtain⟨d,z,ne,e,mA,⟨od,es,ep,e2,c⟩,r⟩:=x
  exact⟨ho _ d,z,ne,k _ _ (.inl rfl) e,mA,⟨od,es,ep,k _ _ (.inr d) e2,c⟩,r⟩
 |own y=>obtain⟨ob,e⟩:=x;exact⟨ob,k _ _ (.inl rfl) e⟩
 |xd fs=>obtain⟨mA,⟨od,es,ep,e,c⟩,r⟩:=x;exact Y11 mA ⟨od,es,ep,k _ _ (.inl rfl) e,c⟩ r
 |rng lo hi=>refine X30 x fun t u v e=>?_;exact Y30 t u v (k _ _ (.inl rfl) e)
 |frz ob u ih=>obtain⟨e,q⟩:=x;exact⟨k _ _ (.inl rfl) e,ih q⟩
 |tbl ps=>
  have e:h.get? a=some { cls:=.none,data:=.fields ps }:=x
  show h'.get? a=some { cls:=.none,data:=.fields ps }
  exact k a _ (.inl rfl) e
 |met f y=>
  have e:h.get? a=some (methodObj (.ref f) (.ref y)):=x
  show h'.get? a=some (methodObj (.ref f) (.ref y))
  exact k a _ (.inl rfl) e
 |ext φ=>obtain⟨p,⟨o,e⟩,st⟩:=x;exact⟨st _ _ p fun o q=>k _ _ (.inl rfl) q,⟨o,k _ _ (.inl rfl) e⟩,st⟩
theorem HOk.lt(x:HOk P w H h)(e:H a=some o):a<h.objs.size:=(x a o e).lt
theorem HOk.fresh(x:HOk P w H h)(e:h.objs.size≤a):H a=none:=by
 rcases q:H a with _|u
 ·rfl
 ·exact absurd (lt_of_lt_of_le (x.lt q) e) (lt_irrefl _)
theorem HOk.kept(x:HOk P w H h)(k:∀b u,h.get? b=some u→h'.get? b=some u):HOk P w H h':=fun a o e=>
 (x a o e).stay (fun b u _ q=>k b u q) (fun _ q=>q) fun _ _ q=>q
theorem _root_.sI_{α:Type}{a b:α}(h:some a=some b):a=b:=Option.some.inj h
theorem HOk.laid(x:HOk P w H h)(k:∀b u,h.get? b=some u→h'.get? b=some u)(hp:h.objs.size≤a)(new:ObjOk P w (upd H a o) h' a o):HOk P w (upd H a o) h':=fun b u e=>by
 have hn:=x.fresh hp
 by_cases hb:b=a
 ·subst hb;rw[zr] at e;replace e:=sI_ e;subst e;exact new
 ·rw[zp hb] at e
  exact(x b u e).stay (fun c v _ q=>k c v q) (fun c q=>by rw[zp (zI q hn)];exact q) fun c xs q=>by rw[zp (zI q hn)];exact q
end
noncomputable def Rd(H:Hp)(a:Addr)(u:HO):Prop:=H a=some u∨∃o,H a=some (.frz o u)
theorem Rd.ok{P:Program}{w:World}{H:Hp}{h:Heap}{a:Addr}{u:HO}(r:Rd H a u)(x:HOk P w H h):ObjOk P w H h a u:=by
 rcases r with r|⟨o,r⟩
 ·exact x a u r
 ·obtain⟨_,q⟩:=x a _ r
  exact q
noncomputable def Mut:Option HO→Prop
 | some (.lst _)=>True
 | some (.dK _)=>True
 | some (.dT _)=>True
 | some (.set _ _)=>True
 | some (.ins _ _ _)=>True
 | some (.ext _)=>True
 |_=>False
section
variable{P:Program}{w:World}{H:Hp}{h h':Heap}{x e:Addr}{o':HO}
theorem _root_.sJ_{α:Type}{a b:α}(h:some a=some b):b=a:=(Option.some.inj h).symm
theorem HOk.write(ok:HOk P w H h)(mu:Mut (H x))(he:e=x∨H e=some (.own x))(k:∀b u,b≠e→h.get? b=some u→h'.get? b=some u)(heo:∃u,h'.get? e=some u)
  (new:ObjOk P w (upd H x o') h' x o'):HOk P w (upd H x o') h':=fun b u q=>by
 have nown:∀c y,H c=some (.own y)→c≠x:=fun c y r z=>by subst z;rw[r] at mu;exact mu
 have ntup:∀c xs,H c=some (.tup xs)→c≠x:=fun c xs r z=>by subst z;rw[r] at mu;exact mu
 by_cases hb:b=x
 ·subst hb;rw[zr] at q;replace q:=sI_ q;subst q;exact new
 ·rw[zp hb] at q
  by_cases hbe:b=e
  ·have q':H b=some (.own x):=by
    rcases he with z|z
    ·exact absurd (hbe.trans z) hb
    ·rw[hbe];exact z
   rw[q] at q';replace q':=sJ_ q';subst q'
   obtain⟨v,hv⟩:=heo
   exact⟨v,by rw[hbe];exact hv⟩
  ·refine(ok b u q).stay (fun c v hc r=>k c v ?_ r) (fun c r=>by rw[zp (nown c b r)];exact r) fun c xs r=>by rw[zp (ntup c xs r)];exact r
   rcases hc with rfl|hc
   ·exact hbe
   ·rintro rfl
    rcases he with z|z
    ·exact nown c b hc z
    ·rw[hc] at z;replace z:=(L2.HO.own.inj (Option.some.inj z)).symm;subst z;exact hb rfl
end
structure Un(fs ex:List Addr)(H H':Hp)(h h':Heap):Prop where
 keep:∀b o,h.get? b=some o→H b=none→b∉fs→b∉ex→h'.get? b=some o
 slot:∀b o,h.get? b=some o→H b=none→b∈fs→b∉ex→∃sl,h'.get? b=some { o with slots:=sl }
 free:∀b o,h.get? b=some o→H b=none→b∉ex→H' b=none
 there:∀b o,h.get? b=some o→b∉ex→∃o',h'.get? b=some o'
 tups:∀b xs,H b=some (.tup xs)→H' b=some (.tup xs)
 frzs:∀b o u,H b=some (.frz o u)→H' b=some (.frz o u)
 tbls:∀b ps,H b=some (.tbl ps)→∃more,H' b=some (.tbl (ps++more))
section
variable{fs fs' ex ex':List Addr}{H H1 H2:Hp}{h h1 h2 h':Heap}{a x e:Addr}{o:HO}
theorem Un.any(u:Un fs ex H H1 h h1){b:Addr}{ob:Obj}(q:h.get? b=some ob)(n:H b=none)(hx:b∉ex):∃sl,h1.get? b=some { ob with slots:=sl }:=by
 by_cases hb:b∈fs
 ·exact u.slot b ob q n hb hx
 ·exact⟨ob.slots,u.keep b ob q n hb hx⟩
theorem Un.kept(k:∀b u,h.get? b=some u→h'.get? b=some u):Un fs ex H H h h':=
 ⟨fun b ob q _ _ _=>k b ob q,fun b ob q _ _ _=>⟨ob.slots,k b ob q⟩,fun _ _ _ n _=>n,fun b ob q _=>⟨ob,k b ob q⟩,fun _ _ q=>q,fun _ _ _ q=>q,fun _ ps q=>⟨#[],by rw[q];simp⟩⟩
theorem Un.refl:Un fs ex H H h h:=Un.kept fun _ _ q=>q
theorem Un.laid(k:∀b u,h.get? b=some u→h'.get? b=some u)(hp:h.objs.size≤a)(hn:H a=none):Un fs ex H (upd H a o) h h' where
 keep:=fun b u q _ _ _=>k b u q
 slot:=fun b u q _ _ _=>⟨u.slots,k b u q⟩
 free:=fun b u q n _=>by rw[zp (ne_of_lt (lt_of_lt_of_le (Heap.lt_size q) hp))];exact n
 there:=fun b u q _=>⟨u,k b u q⟩
 tups:=fun b xs q=>by rw[zp (zI q hn)];exact q
 frzs:=fun b u xs q=>by rw[zp (zI q hn)];exact q
 tbls:=fun b ps q=>⟨#[],by rw[zp (zI q hn),q];simp⟩
theorem Un.write(mu:Mut (H x))(he:e=x∨H e=some (.own x))(k:∀b u,b≠e→h.get? b=some u→h'.get? b=some u)(heo:∃u,h'.get? e=some u):Un fs ex H (upd H x o) h h':=by
 have hx:∀b,H b=none→b≠x:=fun b n z=>by subst z;rw[n] at mu;exact mu
 have hb:∀b,H b=none→b≠e:=fun b n z=>by
  subst z
  rcases he with r|r
  ·exact hx b n r
  ·rw[n] at r;nomatch r
 have hm:∀b u,H b=some u→¬ Mut (some u)→b≠x:=fun b u q nm z=>by subst z;rw[q] at mu;exact nm mu
 refine⟨fun b u q n _ _=>k b u (hb b n) q,fun b u q n _ _=>⟨u.slots,k b u (hb b n) q⟩,fun b u q n _=>by rw[zp (hx b n)];exact n,fun b u q _=>?_,
  fun b xs q=>by rw[zp (hm b _ q fun z=>z)];exact q,fun b u xs q=>by rw[zp (hm b _ q fun z=>z)];exact q,fun b ps q=>⟨#[],by rw[zp (hm b _ q fun z=>z),q];simp⟩⟩
 by_cases hbe:b=e
 ·subst hbe;exact heo
 ·exact⟨u,k b u hbe q⟩
end
noncomputable def trk(h:Heap)(H:Hp):List Addr:=(List.range h.objs.size).filter fun a=>(H a).isSome
noncomputable def X7(h:Heap)(H:Hp):Heap:=PySem.W.hideAll h (trk h H)
theorem Ga(h:Heap)(H:Hp):(X7 h H).objs.size=h.objs.size:=PySem.W.hideAll_size _ _
theorem MY{h:Heap}{H:Hp}{b:Addr}{o:Obj}(e:h.get? b=some o)(n:H b=none):(X7 h H).get? b=some o:=
 PySem.W.hideAll_get _ e fun hm=>by
  have q:(H b).isSome=true:=(mem_filter.mp hm).2
  rw[n] at q;simp at q
theorem LG{h:Heap}{H:Hp}{b:Addr}{o:Obj}(e:(X7 h H).get? b=some o):h.get? b=some o∧H b=none:=by
 have e':h.get? b=some o:=PySem.W.of_hideAll (trk h H) e
 refine⟨e',?_⟩
 rcases q:H b with _|x
 ·rfl
 ·have hm:b∈trk h H:=mem_filter.mpr ⟨mem_range.mpr (Heap.lt_size e'),by simp[q]⟩
  have z:(X7 h H).get? b=none:=PySem.W.hideAll_none (trk h H) hm
  rw[z] at e;nomatch e
noncomputable def zc6(g h:Heap)(L:Addr):List (Addr×Obj):=(List.range h.objs.size).filterMap fun a=>if a=L∨(g.get? a).isSome=true then none else (h.get? a).map fun o=>(a,o)
noncomputable def rest(g h:Heap)(L d:Addr):List (Addr×Obj):=(zc6 g h L).filter fun p=>decide (p.1≠d)
structure Mod(K:Frag)(mg:Str→Option Value)(base:Heap):Prop where
 kin:K.In base
 glob:base.Ns mainGlobals mg
 blt:∃mb,base.Ns builtinsNs mb∧∀x:Str,x ≠ "__name__" → mb x=bootBuiltins x
 nolimit:base.NoLimit
structure Cx where
 prog:Program
 w:World
 K:Frag
 mg:Str→Option Value
 base:Heap
 A:Around
 N:List Str
 s₀:Shared
 H₀:Hp
 env:Env
 outer:List Env
 stack:List Env
 ex:List Addr
 fn:Str→Bool
 calm:Bool
 pn:List (Addr×Obj)
 xe:Value→Shared→Prop
noncomputable def frs(l:List Env):List Addr:=l.filterMap (·.frame)
noncomputable abbrev Cx.fs(X:Cx):List Addr:=frs X.outer
noncomputable def Vis(sc:Scope)(x:Str):Prop:=sc.names.lookup x=some .local∨sc.names.lookup x=some .cell∨sc.names.lookup x=some .free
noncomputable def Loc(sc:Scope)(x:Str):Prop:=sc.names.lookup x=some .local∨sc.names.lookup x=some .cell
noncomputable def Look(env:Env)(h:Heap)(m:Str→Option Value)(x:Str)(u:Value):Prop:=
 (env.kindOf x=some .local∧m x=some u)∨((env.kindOf x=some .cell∨env.kindOf x=some .free)∧∃c,env.cells.lookup x=some c∧h.IsCell c (some u))
structure Cx.Ok(X:Cx):Prop where
 mod:Mod X.K X.mg X.base
 kind:X.env.scope.kind=.function
 glob:X.env.globals=mainGlobals
 blt:X.env.builtins=builtinsNs
 above:X.s₀.heap.objs.size≤X.env.locals
 inj:∀x y c,X.env.cells.lookup x=some c→X.env.cells.lookup y=some c→x=y
 has:∀x,(X.env.kindOf x=some .cell∨X.env.kindOf x=some .free)→∃c,X.env.cells.lookup x=some c
 cab:∀x c,X.fn x=true→X.env.cells.lookup x=some c→X.s₀.heap.objs.size≤c
 hd:X.calm=true→X.A.handled=none
 frames:X.A.frames=some X.stack
 stk:X.stack=X.outer∨(X.stack=X.env::X.outer∧X.env.frame=some X.env.locals)
 exf:∀b∈X.ex,b≠X.env.locals∧∀x c,X.env.cells.lookup x=some c→c≠b
 bs:∀b o,X.base.get? b=some o→X.s₀.heap.get? b=some o∧X.H₀ b=none
 bsz:X.base.objs.size≤X.s₀.heap.objs.size
 noex:∀b o,X.base.get? b=some o→b∉X.ex
 exfs:∀b∈X.ex,b∉X.fs
 funs:X.s₀.heap.FunFrames X.base X.outer
 frf:∀b∈X.fs,X.H₀ b=none
structure Inv(X:Cx)(pins:List (Addr×Obj))(σ:List (Option V))(H:Hp)(s:Shared):Prop where
 ok:X.Ok
 os:s.os=X.s₀.os
 bare:AllBare s.gens
 base:Un X.fs X.ex X.H₀ H X.s₀.heap s.heap
 loc:∃m,s.heap.Ns X.env.locals m∧∀(i:Nat) (x:Str) (v:V),X.N[i]?=some x→σ[i]?=some (some v)→Vis X.env.scope x→∃u,RelV v u∧Look X.env s.heap m x u
 cell:∀x c,X.env.cells.lookup x=some c→∃v,s.heap.IsCell c v
 free:H X.env.locals=none
 freeC:∀x c,X.env.cells.lookup x=some c→H c=none
 pin:∀p∈X.pn++pins,s.heap.get? p.1=some p.2∧H p.1=none∧p.1≠X.env.locals∧p.1∉X.fs∧∀v,p.2.data≠.cell v
 hok:HOk X.prog X.w H s.heap
 len:σ.length=X.N.length
section
variable{X:Cx}{pins:List (Addr×Obj)}{σ:List (Option V)}{H H':Hp}{s:Shared}{h':Heap}
theorem Cx.Ok.nofr(ok:X.Ok){b:Addr}{o:Obj}(e:X.base.get? b=some o):b∉X.fs:=fun hb=>by
 have:=(ok.funs.mem hb).1
 rw[e] at this;nomatch this
theorem Inv.bs(I:Inv X pins σ H s):∀b o,X.base.get? b=some o→s.heap.get? b=some o∧H b=none:=fun b o e=>
 ⟨I.base.keep b o (I.ok.bs b o e).1 (I.ok.bs b o e).2 (I.ok.nofr e) (I.ok.noex b o e),I.base.free b o (I.ok.bs b o e).1 (I.ok.bs b o e).2 (I.ok.noex b o e)⟩
theorem Inv.bk(I:Inv X pins σ H s):∀b o,X.base.get? b=some o→s.heap.get? b=some o:=fun b o e=>(I.bs b o e).1
theorem Inv.mod(I:Inv X pins σ H s):Mod X.K X.mg X.base:=I.ok.mod
theorem Inv.kIn(I:Inv X pins σ H s):X.K.In s.heap:=I.ok.mod.kin.keeps I.bk
theorem Inv.lt(I:Inv X pins σ H s):X.env.locals<s.heap.objs.size:=let ⟨_,hn,_⟩:=I.loc;hn.lt
theorem Inv.sz(I:Inv X pins σ H s):X.s₀.heap.objs.size≤s.heap.objs.size:=le_trans I.ok.above (le_of_lt I.lt)
theorem Inv.nofs(I:Inv X pins σ H s){a:Addr}(h:s.heap.objs.size≤a):a∉X.fs:=fun hb=>by
 refine X01 (I.ok.funs.mem hb) fun _ r88_=>?_;refine X11 r88_ fun o ho _=>?_
 exact absurd (lt_of_lt_of_le (Heap.lt_size ho) (le_trans I.sz h)) (lt_irrefl _)
theorem Inv.cne(I:Inv X pins σ H s):∀x c,X.env.cells.lookup x=some c→c≠X.env.locals:=fun x c e z=>by
 refine X21 (I.cell x c e) fun v o ho hd=>?_
 obtain⟨m,⟨o',es,ep,ho',hd',_⟩,_⟩:=I.loc
 rw[z,ho'] at ho;replace ho:=sJ_ ho;subst ho;rw[hd'] at hd;nomatch hd
theorem Inv.funs(I:Inv X pins σ H s):s.heap.FunFrames X.base X.outer:=by
 have all:∀(l:List Env),(∀b∈frs l,b∈X.fs)→X.s₀.heap.FunFrames X.base l→s.heap.FunFrames X.base l:=by
  intro l
  induction l with
  |nil=>intro _ _;trivial
  |cons env r ih=>
   intro hs hl
   obtain⟨hk,⟨L,o,hf,hn,ho,hd⟩,hr⟩:=hl
   have hL:L∈X.fs:=hs L (by unfold frs;rw[filterMap_cons,hf];exact mem_cons_self)
   obtain⟨sl,e⟩:=I.base.slot L o ho (I.ok.frf L hL) hL fun z=>I.ok.exfs L z hL
   exact⟨hk,⟨L,_,hf,hn,e,hd⟩,ih (fun b hb=>hs b (by unfold frs;rw[filterMap_cons,hf];exact mem_cons_of_mem _ hb)) hr⟩
 exact all X.outer (fun _ hb=>hb) I.ok.funs
theorem Inv.stack(I:Inv X pins σ H s):s.heap.FunFrames X.base X.stack:=by
 rcases I.ok.stk with e|⟨e,hf⟩
 ·rw[e];exact I.funs
 ·rw[e]
  refine X11 I.loc fun m hn _=>?_
  refine .cons (by rw[I.ok.kind];decide) hf hn ?_ I.funs
  exact Heap.get?_none_of_le (le_trans I.ok.bsz I.ok.above)
theorem Inv.stkSub(I:Inv X pins σ H s):∀b∈frs X.stack,b∈X.env.locals::X.fs:=fun b hb=>by
 rcases I.ok.stk with e|⟨e,hf⟩
 ·rw[e] at hb;exact mem_cons_of_mem _ hb
 ·rw[e] at hb
  unfold frs at hb
  rw[filterMap_cons,hf] at hb
  exact hb
theorem Inv.stkFree(I:Inv X pins σ H s):∀b∈frs X.stack,H b=none:=fun b hb=>by
 rcases mem_cons.mp (I.stkSub b hb) with e|hb
 ·rw[e];exact I.free
 ·refine X01 (I.ok.funs.mem hb) fun _ r87_=>?_;refine X11 r87_ fun o ho _=>?_
  exact I.base.free b o ho (I.ok.frf b hb) fun z=>I.ok.exfs b z hb
theorem Inv.step{g':Array GenState}{t':Nat}{d':Drawn}{ch:List Addr}(I:Inv X pins σ H s)
  (hch:∀b∈ch,(b∈X.ex∨X.s₀.heap.objs.size≤b)∧b≠X.env.locals∧(∀x c,X.env.cells.lookup x=some c→c≠b)∧∀p∈X.pn++pins,p.1≠b)
  (keep:∀b o,b≠X.env.locals→b∉X.fs→b∉ch→s.heap.get? b=some o→H b=none→h'.get? b=some o)
  (slot:∀b o,b≠X.env.locals→b∈X.fs→b∉ch→s.heap.get? b=some o→H b=none→∃sl,h'.get? b=some { o with slots:=sl }) (free:∀b o,b∉ch→s.heap.get? b=some o→H b=none→H' b=none)
  (there:∀b o,b∉ch→s.heap.get? b=some o→∃o',h'.get? b=some o')
  (tups:∀b xs,H b=some (.tup xs)→H' b=some (.tup xs)) (frzs:∀b o u,H b=some (.frz o u)→H' b=some (.frz o u)) (tbls:∀b ps,H b=some (.tbl ps)→∃more,H' b=some (.tbl (ps++more)))
  (ns:∀m,s.heap.Ns X.env.locals m→h'.Ns X.env.locals m) (hok:HOk X.prog X.w H' h') (hg:AllBare g') :
  Inv X pins σ H' { s with heap:=h',gens:=g',drawn:=d',toks:=t' }:=by
 have neL:∀b o,X.s₀.heap.get? b=some o→b≠X.env.locals:=fun b o e=>ne_of_lt (lt_of_lt_of_le (Heap.lt_size e) I.ok.above)
 have neC:∀b o,X.s₀.heap.get? b=some o→b∉X.ex→b∉ch:=fun b o e hx hb=>by
  rcases (hch b hb).1 with z|z
  ·exact hx z
  ·exact absurd (lt_of_lt_of_le (Heap.lt_size e) z) (lt_irrefl _)
 have cellK:∀x c,X.env.cells.lookup x=some c→∀v,s.heap.IsCell c v→h'.IsCell c v:=fun x c e v z_=>by
  refine X11 z_ fun o ho hd=>?_
  have nch:c∉ch:=fun z=>(hch c z).2.2.1 x c e rfl
  by_cases hc:c∈X.fs
  ·obtain⟨sl,q⟩:=slot c o (I.cne x c e) hc nch ho (I.freeC x c e)
   exact Y11 _ q hd
  ·exact Y11 o (keep c o (I.cne x c e) hc nch ho (I.freeC x c e)) hd
 refine⟨I.ok,I.os,hg,⟨fun b o e n hb hx=>?_,fun b o e n hb hx=>?_,fun b o e n hx=>?_,fun b o e hx=>?_,fun b xs e=>tups b xs (I.base.tups b xs e),fun b o xs e=>frzs b o xs (I.base.frzs b o xs e),fun b ps e=>?_⟩,?_,fun x c e=>?_,?_,fun x c e=>?_,fun p hp=>?_,hok,I.len⟩
 ·exact keep b o (neL b o e) hb (neC b o e hx) (I.base.keep b o e n hb hx) (I.base.free b o e n hx)
 ·obtain⟨sl,e1⟩:=I.base.slot b o e n hb hx
  obtain⟨sl',e2⟩:=slot b _ (neL b o e) hb (neC b o e hx) e1 (I.base.free b o e n hx)
  exact⟨sl',e2⟩
 ·obtain⟨o',e1⟩:=I.base.there b o e hx
  exact free b o' (neC b o e hx) e1 (I.base.free b o e n hx)
 ·obtain⟨o',e1⟩:=I.base.there b o e hx
  exact there b o' (neC b o e hx) e1
 ·obtain⟨m1,e1⟩:=I.base.tbls b ps e
  obtain⟨m2,e2⟩:=tbls b _ e1
  exact⟨m1++m2,by rw[e2,Array.append_assoc]⟩
 ·refine X11 I.loc fun m hn hl=>?_
  refine Y11 m (ns m hn) (fun i x v e1 e2 e3=>?_)
  refine X11 (hl i x v e1 e2 e3) fun u r l=>?_
  refine Y11 u r ?_
  rcases l with l|⟨k,c,e,z⟩
  ·exact .inl l
  ·exact .inr ⟨k,c,e,cellK x c e _ z⟩
 ·obtain⟨v,z⟩:=I.cell x c e
  exact⟨v,cellK x c e v z⟩
 ·obtain⟨m,⟨o,_,_,ho,_⟩,_⟩:=I.loc
  exact free _ o (fun z=>(hch _ z).2.1 rfl) ho I.free
 ·refine X21 (I.cell x c e) fun v o ho hd=>?_
  exact free c o (fun z=>(hch c z).2.2.1 x c e rfl) ho (I.freeC x c e)
 ·refine X04 (I.pin p hp) fun e n ne nf d=>?_
  have nch:p.1∉ch:=fun z=>(hch p.1 z).2.2.2 p hp rfl
  exact⟨keep p.1 p.2 ne nf nch e n,free p.1 p.2 nch e n,ne,nf,d⟩
theorem Inv.un{t':Nat}(I:Inv X pins σ H s)(u:Un X.fs [] H H' s.heap h')(hok:HOk X.prog X.w H' h'):Inv X pins σ H' { s with heap:=h',toks:=t' }:=by
 obtain⟨m,⟨o,es,ep,ho,r⟩,_⟩:=id I.loc
 obtain⟨sl,hL⟩:=u.any ho I.free (by simp)
 exact I.step (g':=s.gens) (d':=s.drawn) (ch:=[]) (fun _ z=>nomatch z) (fun b o _ hb _ e n=>u.keep b o e n hb (by simp)) (fun b o _ hb _ e n=>u.slot b o e n hb (by simp)) (fun b o _ e n=>u.free b o e n (by simp)) (fun b o _ e=>u.there b o e (by simp)) u.tups u.frzs u.tbls (fun m' hm=>by
  refine X31 hm fun o' es' ep' ho' r'=>?_
  rw[ho] at ho';replace ho':=sI_ ho';subst ho'
  exact Y31 _ es' ep' hL r') hok I.bare
theorem Inv.call{g':Array GenState}{t':Nat}{d':Drawn}{ch:List Addr}(I:Inv X pins σ H s)(u:Un (frs X.stack) ch H H' s.heap h')(hok:HOk X.prog X.w H' h')(hg:AllBare g')
  (hch:∀b∈ch,(b∈X.ex∨X.s₀.heap.objs.size≤b)∧b≠X.env.locals∧(∀x c,X.env.cells.lookup x=some c→c≠b)∧∀p∈X.pn++pins,p.1≠b) :
  Inv X pins σ H' { s with heap:=h',gens:=g',drawn:=d',toks:=t' }:=by
 obtain⟨m,⟨o,es,ep,ho,r⟩,_⟩:=id I.loc
 obtain⟨sl,hL⟩:=u.any ho I.free fun z=>(hch _ z).2.1 rfl
 exact I.step (ch:=ch) hch (fun b o hL hb hc e n=>u.keep b o e n (fun z=>(mem_cons.mp (I.stkSub b z)).elim hL hb) hc) (fun b o _ _ hc e n=>u.any e n hc) (fun b o hc e n=>u.free b o e n hc) (fun b o hc e=>u.there b o e hc) u.tups u.frzs u.tbls (fun m' hm=>by
  refine X31 hm fun o' es' ep' ho' r'=>?_
  rw[ho] at ho';replace ho':=sI_ ho';subst ho'
  exact Y31 _ es' ep' hL r') hok hg
theorem Inv.turned{t':Nat}{it:Addr}(I:Inv X pins σ H s)(k:∀b o,b≠it→s.heap.get? b=some o→h'.get? b=some o)(hn:H it=none)(hL:it≠X.env.locals)
  (h1:it∈X.ex∨X.s₀.heap.objs.size≤it) (h2:∀x c,X.env.cells.lookup x=some c→c≠it) (h3:∀p∈X.pn++pins,p.1≠it):Inv X pins σ H { s with heap:=h',toks:=t' }:=by
 have nit:∀b u,H b=some u→b≠it:=fun b u e z=>by rw[z,hn] at e;nomatch e
 refine I.step (g':=s.gens) (d':=s.drawn) (ch:=[it]) (fun b hb=>?_) (fun b o _ _ hc e _=>k b o (fun z=>hc (by simp[z])) e) (fun b o _ _ hc e _=>⟨o.slots,k b o (fun z=>hc (by simp[z])) e⟩) (fun _ _ _ _ n=>n)
  (fun b o hc e=>⟨o,k b o (fun z=>hc (by simp[z])) e⟩) (fun _ _ e=>e) (fun _ _ _ e=>e) (fun b ps e=>⟨#[],by rw[e];simp⟩) (fun m hm=>?_) (fun b u e=>?_) I.bare
 ·have e:b=it:=by simpa using hb
  subst e
  exact⟨h1,hL,h2,h3⟩
 ·refine X31 hm fun o es ep ho r=>?_
  exact Y31 o es ep (k _ o (Ne.symm hL) ho) r
 ·refine(I.hok b u e).stay (fun c v hc q=>k c v ?_ q) (fun _ q=>q) fun _ _ q=>q
  rcases hc with z|z
  ·rw[z];exact nit b u e
  ·exact nit c _ z
theorem Inv.tok(I:Inv X pins σ H s)(t:Nat):Inv X pins σ H { s with toks:=t }:=I.un (h':=s.heap) (t':=t) Un.refl I.hok
theorem Inv.kept{t':Nat}(I:Inv X pins σ H s)(k:∀b u,s.heap.get? b=some u→h'.get? b=some u):Inv X pins σ H { s with heap:=h',toks:=t' }:=I.un (Un.kept k) (I.hok.kept k)
theorem Inv.laid{a:Addr}{o:HO}{t':Nat}(I:Inv X pins σ H s)(k:∀b u,s.heap.get? b=some u→h'.get? b=some u)(hp:s.heap.objs.size≤a)(new:ObjOk X.prog X.w (upd H a o) h' a o) :
  Inv X pins σ (upd H a o) { s with heap:=h',toks:=t' }:=I.un (Un.laid k hp (I.hok.fresh hp)) (I.hok.laid k hp new)
theorem Inv.write{x e:Addr}{o:HO}{t':Nat}(I:Inv X pins σ H s)(mu:Mut (H x))(he:e=x∨H e=some (.own x))(k:∀b u,b≠e→s.heap.get? b=some u→h'.get? b=some u)(heo:∃u,h'.get? e=some u)
  (new:ObjOk X.prog X.w (upd H x o) h' x o):Inv X pins σ (upd H x o) { s with heap:=h',toks:=t' }:=I.un (Un.write mu he k heo) (I.hok.write mu he k heo new)
theorem Inv.pins_of{pins':List (Addr×Obj)}(I:Inv X pins σ H s)(h:∀p∈pins',s.heap.get? p.1=some p.2∧H p.1=none∧p.1≠X.env.locals∧p.1∉X.fs∧∀v,p.2.data≠.cell v):Inv X pins' σ H s:=
 ⟨I.ok,I.os,I.bare,I.base,I.loc,I.cell,I.free,I.freeC,fun p hp=>(mem_append.mp hp).elim (fun z=>I.pin p (mem_append_left _ z)) (h p),I.hok,I.len⟩
theorem V9{N:List Str}(hN:N.Nodup){i j:Nat}{x:Str}(a:N[i]?=some x)(b:N[j]?=some x):i=j:=by
 obtain⟨h1,e1⟩:=List.getElem?_eq_some_iff.mp a
 obtain⟨h2,e2⟩:=List.getElem?_eq_some_iff.mp b
 exact(List.getElem_inj hN).mp (e1.trans e2.symm)
theorem _root_.uI_{α:Type}{a b:α}(h:some (some a)=some (some b)):a=b:=Option.some.inj (Option.some.inj h)
theorem Wh{M:Model}{A:Around}{E:Value→Shared→Prop}{i:Nat}{x:Str}{v:V}{u:Value}{Q:Unit→Shared→Prop}(I:Inv X pins σ H s)(hN:X.N.Nodup)(hi:X.N[i]?=some x)(hx:Loc X.env.scope x)(r:RelV v u)
  (h:∀s',Inv X pins (σ.set i (some v)) H s'→(∃a,Heap.SameBut a s.heap s'.heap∧(a=X.env.locals∨X.env.cells.lookup x=some a))→Q () s') (hf:X.fn x=true∨X.env.scope.names.lookup x=some .local:=by first|exact .inl rfl|exact .inr rfl|assumption):wpAny M A (storeName X.env x u) Q E s:=by
 refine X11 (id I.loc) fun m hn hl=>?_
 have hcls:(X.env.scope.kind == .class||(X.env.scope.kind == .module&&X.env.locals != X.env.globals))=false:=by rw[I.ok.kind];rfl
 have hiσ:i<σ.length:=by rw[I.len];exact(List.getElem?_eq_some_iff.mp hi).1
 have cne:=I.cne
 have tracked:∀{a:Addr} {h':Heap},(∃o,s.heap.get? a=some o∧H a=none)→Heap.SameBut a s.heap h'→HOk X.prog X.w H h':=fun {a h'} ha hs b ob e=>by
  refine X11 ha fun _ _ hfree=>?_
  refine(I.hok b ob e).stay (fun c w' hc q=>(hs.2 c ?_).trans q) (fun _ q=>q) fun _ _ q=>q
  rintro rfl
  rcases hc with rfl|hc
  ·rw[hfree] at e;nomatch e
  ·rw[hfree] at hc;nomatch hc
 rcases hx with hk|hk
 ·refine wpAny_storeName_local hk hn (fun h' hn' hs=>?_) hcls
  refine X31 (id hn) fun oL _ _ hoL _=>?_
  refine h _ ⟨I.ok,I.os,I.bare,⟨fun b o e n hb hx=>?_,fun b o e n hb hx=>?_,I.base.free,fun b o e hx=>?_,I.base.tups,I.base.frzs,I.base.tbls⟩,⟨_,hn',fun j y v' e1 e2 e3=>?_⟩,fun y c e=>?_,I.free,I.freeC,fun p hp=>?_,tracked ⟨oL,hoL,I.free⟩ hs,by simpa using I.len⟩ ⟨_,hs,.inl rfl⟩
  ·exact(hs.2 b (ne_of_lt (lt_of_lt_of_le (Heap.lt_size e) I.ok.above))).trans (I.base.keep b o e n hb hx)
  ·obtain⟨sl,e1⟩:=I.base.slot b o e n hb hx
   exact⟨sl,(hs.2 b (ne_of_lt (lt_of_lt_of_le (Heap.lt_size e) I.ok.above))).trans e1⟩
  ·obtain⟨o',e1⟩:=I.base.there b o e hx
   exact⟨o',(hs.2 b (ne_of_lt (lt_of_lt_of_le (Heap.lt_size e) I.ok.above))).trans e1⟩
  ·by_cases hj:j=i
   ·subst hj
    rw[hi] at e1;replace e1:=sI_ e1;subst e1
    rw[getElem?_set_self hiσ] at e2
    replace e2:=uI_ e2;subst e2
    exact Y11 u r (.inl ⟨hk,by simp⟩)
   ·rw[getElem?_set_ne (Ne.symm hj)] at e2
    refine X11 (hl j y v' e1 e2 e3) fun u' r' q=>?_
    refine Y11 u' r' ?_
    rcases q with ⟨k,e⟩|⟨k,c,e,z⟩
    ·refine .inl ⟨k,?_⟩
     have:y≠x:=fun e=>hj (V9 hN e1 (e ▸ hi))
     simp[this,e]
    ·exact .inr ⟨k,c,e,z.sameBut hs (cne y c e)⟩
  ·obtain⟨w',z⟩:=I.cell y c e
   exact⟨w',z.sameBut hs (cne y c e)⟩
  ·refine X04 (I.pin p hp) fun e n ne nf d=>?_
   exact⟨(hs.2 p.1 ne).trans e,n,ne,nf,d⟩
 ·have hfn:X.fn x=true:=by
   rcases hf with z|z
   ·exact z
   ·rw[z] at hk;nomatch hk
  obtain⟨c,hc⟩:=I.ok.has x (.inl hk)
  obtain⟨w',z⟩:=I.cell x c hc
  refine wpAny_storeName_cell I.ok.kind hk hc z (fun h' hc' hs=>?_)
  refine X11 (id z) fun oc hoc hocd=>?_
  refine h { s with heap:=h' } ⟨I.ok,I.os,I.bare,⟨fun b o e n hb hx=>?_,fun b o e n hb hx=>?_,I.base.free,fun b o e hx=>?_,I.base.tups,I.base.frzs,I.base.tbls⟩,⟨m,hn.sameBut hs (Ne.symm (cne x c hc)),fun j y v' e1 e2 e3=>?_⟩,fun y c' e=>?_,I.free,I.freeC,fun p hp=>?_,tracked ⟨oc,hoc,I.freeC x c hc⟩ hs,by simpa using I.len⟩ ⟨c,hs,.inr hc⟩
  ·exact(hs.2 b (ne_of_lt (lt_of_lt_of_le (Heap.lt_size e) (I.ok.cab x c hfn hc)))).trans (I.base.keep b o e n hb hx)
  ·obtain⟨sl,e1⟩:=I.base.slot b o e n hb hx
   exact⟨sl,(hs.2 b (ne_of_lt (lt_of_lt_of_le (Heap.lt_size e) (I.ok.cab x c hfn hc)))).trans e1⟩
  ·obtain⟨o',e1⟩:=I.base.there b o e hx
   exact⟨o',(hs.2 b (ne_of_lt (lt_of_lt_of_le (Heap.lt_size e) (I.ok.cab x c hfn hc)))).trans e1⟩
  ·by_cases hj:j=i
   ·subst hj
    rw[hi] at e1;replace e1:=sI_ e1;subst e1
    rw[getElem?_set_self hiσ] at e2
    replace e2:=uI_ e2;subst e2
    exact Y11 u r (.inr ⟨.inl hk,c,hc,hc'⟩)
   ·rw[getElem?_set_ne (Ne.symm hj)] at e2
    refine X11 (hl j y v' e1 e2 e3) fun u' r' q=>?_
    refine Y11 u' r' ?_
    rcases q with q|⟨k,c',e,z'⟩
    ·exact .inl q
    ·refine .inr ⟨k,c',e,z'.sameBut hs ?_⟩
     rintro rfl
     exact hj (V9 hN e1 (I.ok.inj _ _ _ e hc ▸ hi))
  ·by_cases hcc:c'=c
   ·subst hcc;exact⟨_,hc'⟩
   ·obtain⟨w2,z2⟩:=I.cell y c' e
    exact⟨w2,z2.sameBut hs hcc⟩
  ·refine X04 (I.pin p hp) fun e n ne nf d=>?_
   refine⟨(hs.2 p.1 ?_).trans e,n,ne,nf,d⟩
   intro q
   rw[q,hoc] at e
   have q':oc=p.2:=Option.some.inj e
   exact d w' (by rw[← q'];exact hocd)
theorem YK{M:Model}{A:Around}{E:Value→Shared→Prop}{i:Nat}{x:Str}{v:V}{u:Value}{Q:Unit→Shared→Prop}(I:Inv X pins σ H s)(hN:X.N.Nodup)(hi:X.N[i]?=some x)(hx:Loc X.env.scope x)(r:RelV v u)
  (h:∀s',Inv X pins (σ.set i (some v)) H s'→Q () s') (hf:X.fn x=true∨X.env.scope.names.lookup x=some .local:=by first|exact .inl rfl|exact .inr rfl|assumption):wpAny M A (storeName X.env x u) Q E s:=
 Wh I hN hi hx r (fun s' I' _=>h s' I') hf
theorem Inv.call'{s':Shared}{ch:List Addr}(I:Inv X pins σ H s)(ho:s'.os=s.os)(u:Un (frs X.stack) ch H H' s.heap s'.heap)(hok:HOk X.prog X.w H' s'.heap)(hg:AllBare s'.gens)
  (hch:∀b∈ch,(b∈X.ex∨X.s₀.heap.objs.size≤b)∧b≠X.env.locals∧(∀x c,X.env.cells.lookup x=some c→c≠b)∧∀p∈X.pn++pins,p.1≠b):Inv X pins σ H' s':=by
 obtain⟨h',g',d',t',o'⟩:=s'
 have e:o'=s.os:=ho
 subst e
 exact I.call (g':=g') (t':=t') (d':=d') u hok hg hch
end
noncomputable abbrev XK:=Value→Option Addr→Hp→Prop
noncomputable abbrev St:=List (Option V)
noncomputable abbrev VK:=V→Hp→Prop
noncomputable abbrev TE:=St→Hp→VK→Prop
noncomputable abbrev TT:=St→Hp→(Bool→Hp→Prop)→Prop
noncomputable abbrev TA:=St→Hp→(List V→Hp→Prop)→Prop
structure X9 where
 nx:St→Hp→Prop
 rt:VK
 bk:St→Hp→Prop:=fun _ _=>False
 ct:St→Hp→Prop:=fun _ _=>False
noncomputable abbrev TS:=X9→St→Hp→Prop
noncomputable def EP(X:Cx)(pins:List (Addr×Obj))(σ:St)(Q:VK)(u:Value)(s':Shared):Prop:=∃v H',Inv X pins σ H' s'∧RelV v u∧Q v H'
noncomputable def TP(X:Cx)(pins:List (Addr×Obj))(σ:St)(Q:Bool→Hp→Prop)(b:Bool)(s':Shared):Prop:=∃H',Inv X pins σ H' s'∧Q b H'
noncomputable def AP(X:Cx)(pins:List (Addr×Obj))(σ:St)(Q:List V→Hp→Prop)(us:List Value)(s':Shared):Prop:=∃vs H',Inv X pins σ H' s'∧Vals vs us∧Q vs H'
noncomputable def SP(X:Cx)(pins:List (Addr×Obj))(D:X9)(f:Flow)(s':Shared):Prop:=
 match f with
 |.next=>∃σ' H',Inv X pins σ' H' s'∧D.nx σ' H'
 |.brk=>∃σ' H',Inv X pins σ' H' s'∧D.bk σ' H'
 |.cont=>∃σ' H',Inv X pins σ' H' s'∧D.ct σ' H'
 |.ret u=>∃v σ' H',Inv X pins σ' H' s'∧RelV v u∧D.rt v H'
noncomputable def PE(X:Cx)(e:Expr)(t:TE):Prop:=
 ∀(pins:List (Addr×Obj)) (s:Shared) (σ:St) (H:Hp) (Q:VK),Inv X pins σ H s→t σ H Q→wpAny (model X.prog X.w) X.A (eval e X.env) (EP X pins σ Q) X.xe s
noncomputable def PT(X:Cx)(e:Expr)(t:TT):Prop:=
 ∀(pins:List (Addr×Obj)) (s:Shared) (σ:St) (H:Hp) (Q:Bool→Hp→Prop),Inv X pins σ H s→t σ H Q→wpAny (model X.prog X.w) X.A (isTrue e X.env (eval e X.env)) (TP X pins σ Q) X.xe s
noncomputable def PW(X:Cx)(e:Expr)(t:TT):Prop:=
 ∀(whole:Sem Value) (pins:List (Addr×Obj)) (s:Shared) (σ:St) (H:Hp) (Q:Bool→Hp→Prop),Inv X pins σ H s→t σ H Q→wpAny (model X.prog X.w) X.A (isTrue e X.env whole) (TP X pins σ Q) X.xe s
theorem PW.pt{X:Cx}{e:Expr}{t:TT}(h:PW X e t):PT X e t:=h _
noncomputable def PA(X:Cx)(es:List Expr)(t:TA):Prop:=
 ∀(pos:Pos) (pins:List (Addr×Obj)) (s:Shared) (σ:St) (H:Hp) (Q:List V→Hp→Prop),Inv X pins σ H s→t σ H Q→wpAny (model X.prog X.w) X.A (spliced (backTo pos (starEach es X.env))) (AP X pins σ Q) X.xe s
noncomputable def PS(X:Cx)(st:Stmt)(t:TS):Prop:=
 ∀(pins:List (Addr×Obj)) (s:Shared) (σ:St) (H:Hp) (D:X9),Inv X pins σ H s→t D σ H→wpAny (model X.prog X.w) X.A (exec st X.env) (SP X pins D) X.xe s
noncomputable def PSs(X:Cx)(st:List Stmt)(t:TS):Prop:=
 ∀(pins:List (Addr×Obj)) (s:Shared) (σ:St) (H:Hp) (D:X9),Inv X pins σ H s→t D σ H→wpAny (model X.prog X.w) X.A (execs st X.env) (SP X pins D) X.xe s
theorem thn{α:Type}{t:Sem α}{Q Q':α→Shared→Prop}{M:Model}{A:Around}{E:Value→Shared→Prop}{s:Shared}(h:wpAny M A t Q E s)(hQ:∀a s,Q a s→Q' a s):wpAny M A t Q' E s:=wpAny_mono h hQ fun _ _ x=>x
section
variable{X:Cx}
noncomputable def uW(i:Nat):TE:=fun σ H Q=>∃v,σ[i]?=some (some v)∧Q v H
noncomputable def tC(v:V):TE:=fun _ H Q=>Q v H
theorem zh3{i:Nat}{x:Str}{pos:Pos}(hN:X.N[i]?=some x)(hv:Vis X.env.scope x)(hd:(x==("__debug__" : Str))=false:=by decide)(hcd:(x==("__classdict__" : Str))=false:=by decide):PE X (.Name x pos) (uW i):=by
 intro pins s σ H Q I h
 obtain⟨v,e,h⟩:=h
 refine X11 I.loc fun m hn hl=>?_
 refine X11 (hl i x v hN e hv) fun u r l=>?_
 have fin:EP X pins σ Q u s:=Y22 v H I r h
 rcases l with ⟨hk,hm⟩|⟨hk,c,hc,hcell⟩
 ·exact wpAny_Name (wpAny_loadName_local I.ok.kind hk hn hm fin) hd
 ·rcases hk with hk|hk
  ·exact wpAny_Name (wpAny_loadName_cell I.ok.kind hk hc hcell fin) hd
  ·exact wpAny_Name (wpAny_loadName_free I.ok.kind hk hc hcell fin hcd) hd
theorem zh7{i j pos}:PE X (.Constant (.int i) j pos) (tC (.int i)):=fun _ _ _ H _ I h=>wpAny_Constant_int ⟨.int i,H,I.tok _,⟨_,rfl⟩,h⟩
theorem pe_bl{b j pos}:PE X (.Constant (.bool b) j pos) (tC (.bl b)):=fun _ _ _ H _ I h=>Constant_bool ⟨.bl b,H,I,rfl,h⟩
theorem zh6{j pos}:PE X (.Constant .none j pos) (tC .non):=fun _ _ _ H _ I h=>Constant_none ⟨.non,H,I,rfl,h⟩
theorem zh5{x j pos}:PE X (.Constant (.str x) j pos) (tC (.str x)):=fun _ _ _ H _ I h=>Calls.Constant_str ⟨.str x,H,I.tok _,⟨_,rfl⟩,h⟩
noncomputable def Gl(X:Cx)(x:Str):Prop:=X.env.kindOf x=some .globalImplicit
theorem jw{E:Value→Shared→Prop}{pins:List (Addr×Obj)}{s:Shared}{σ:St}{H:Hp}{x:Str}{u:Value}{pos:Pos}{Q:Value→Shared→Prop}(I:Inv X pins σ H s)(hg:Gl X x)(hm:X.mg x=some u)(h:Q u s)
  (hd:(x==("__debug__" : Str))=false:=by decide):wpAny (model X.prog X.w) X.A (eval (.Name x pos) X.env) Q E s:=
 Calls.Name_function_global I.ok.kind hg (Calls.loadGlobal_global (by rw[I.ok.glob];exact I.mod.glob.keeps I.bk) hm h) hd
theorem uG{E:Value→Shared→Prop}{pins:List (Addr×Obj)}{s:Shared}{σ:St}{H:Hp}{x:Str}{u:Value}{pos:Pos}{Q:Value→Shared→Prop}(I:Inv X pins σ H s)(hg:Gl X x)(hm:X.mg x=none)(hv:bootBuiltins x=some u)(h:Q u s)
  (hn:x ≠ "__name__" := by decide) (hd:(x==("__debug__" : Str))=false:=by decide):wpAny (model X.prog X.w) X.A (eval (.Name x pos) X.env) Q E s:=by
 refine X11 I.mod.blt fun mb h1 h2=>?_
 exact Calls.Name_function_global I.ok.kind hg (Calls.loadGlobal_builtin (by rw[I.ok.glob];exact I.mod.glob.keeps I.bk) hm (by rw[I.ok.blt];exact h1.keeps I.bk) ((h2 x hn).trans hv) h) hd
theorem Yu{x:Str}{v:V}{u:Value}{pos:Pos}(hg:Gl X x)(hm:X.mg x=some u)(r:RelV v u)(hd:(x==("__debug__" : Str))=false:=by decide):PE X (.Name x pos) (tC v):=
 fun _ _ _ H _ I h=>jw I hg hm ⟨v,H,I,r,h⟩ hd
theorem Lp{x:Str}{v:V}{u:Value}{pos:Pos}(hg:Gl X x)(hm:X.mg x=none)(hv:bootBuiltins x=some u)(r:RelV v u)(hn:x ≠ "__name__" := by decide)(hd:(x==("__debug__" : Str))=false:=by decide):PE X (.Name x pos) (tC v):=
 fun _ _ _ H _ I h=>uG I hg hm hv ⟨v,H,I,r,h⟩ hn hd
variable{a b:Expr}{ta tb:TE}{pos:Pos}
noncomputable def tB(t:TE):TT:=fun σ H Q=>t σ H fun x H1=>∃c,x=.bl c∧Q c H1
variable{tA tB':TT}{rest:List Expr}
noncomputable def tAnd(t u:TT):TT:=fun σ H Q=>t σ H fun c H1=>if c=true then u σ H1 Q else Q false H1
noncomputable def tOr(t u:TT):TT:=fun σ H Q=>t σ H fun c H1=>if c=true then Q true H1 else u σ H1 Q
noncomputable def tNot(t:TT):TT:=fun σ H Q=>t σ H fun c H1=>Q (!c) H1
theorem La(ha:PT X a tA):PW X (.BoolOp .And [a] pos) tA:=by
 intro wh pins s σ H Q I h
 refine isTrue_and (thn (ha pins s σ H Q I h) fun c s1 e=>?_)
 rcases c with _|_
 ·exact e
 ·exact isTrue_and_nil e
theorem zg0(ha:PT X a tA):PW X (.BoolOp .Or [a] pos) tA:=by
 intro wh pins s σ H Q I h
 refine isTrue_or (thn (ha pins s σ H Q I h) fun c s1 e=>?_)
 rcases c with _|_
 ·exact isTrue_or_nil e
 ·exact e
theorem zg2(ha:PT X a tA)(hb:PW X (.BoolOp .And (b::rest) pos) tB'):PW X (.BoolOp .And (a::b::rest) pos) (tAnd tA tB'):=by
 intro wh pins s σ H Q I h
 refine isTrue_and (thn (ha pins s σ H _ I h) fun c s1 z_=>?_)
 refine X11 z_ fun H1 I1 q1=>?_
 rcases c with _|_
 ·exact Y11 H1 I1 q1
 ·exact hb wh pins s1 σ H1 Q I1 q1
theorem pw_or(ha:PT X a tA)(hb:PW X (.BoolOp .Or (b::rest) pos) tB'):PW X (.BoolOp .Or (a::b::rest) pos) (tOr tA tB'):=by
 intro wh pins s σ H Q I h
 refine isTrue_or (thn (ha pins s σ H _ I h) fun c s1 z_=>?_)
 refine X11 z_ fun H1 I1 q1=>?_
 rcases c with _|_
 ·exact hb wh pins s1 σ H1 Q I1 q1
 ·exact Y11 H1 I1 q1
theorem zg3(ha:PT X a tA):PT X (.UnaryOp .Not a pos) (tNot tA):=by
 intro pins s σ H Q I h
 exact isTrue_not (ha pins s σ H (fun c H1=>Q (!c) H1) I h)
noncomputable def tAndV(ta tb:TE):TE:=fun σ H Q=>ta σ H fun x H1=>∃c,x=.bl c∧if c=true then tb σ H1 Q else Q (.bl false) H1
theorem G4{op}{t:TE}(h:PE X a t):PE X (.BoolOp op [a] pos) t:=fun pins s σ H Q I hw=>BoolOp_one (h pins s σ H Q I hw)
theorem zi0(ha:PE X a ta)(hb:PE X (.BoolOp .And (b::rest) pos) tb):PE X (.BoolOp .And (a::b::rest) pos) (tAndV ta tb):=by
 intro pins s σ H Q I h
 refine BoolOp_and (thn (ha pins s σ H _ I h) fun v s1 z_=>?_)
 refine X22 z_ fun x H1 I1 r1 q1=>?_
 obtain⟨c,rfl,q1⟩:=q1
 cases r1
 refine wpAny_truthy_bool ?_
 rcases c with _|_
 ·exact Y22 (.bl false) H1 I1 rfl q1
 ·exact hb pins s1 σ H1 Q I1 q1
noncomputable def tIf(t:TT)(ta tb:TE):TE:=fun σ H Q=>t σ H fun c H1=>if c=true then ta σ H1 Q else tb σ H1 Q
theorem G6{c:Expr}(hc:PT X c tA)(ha:PE X a ta)(hb:PE X b tb):PE X (.IfExp c a b pos) (tIf tA ta tb):=by
 intro pins s σ H Q I h
 refine wpAny_IfExp (thn (hc pins s σ H _ I h) fun d s1 z_=>?_)
 refine X11 z_ fun H1 I1 q1=>?_
 rcases d with _|_
 ·exact hb pins s1 σ H1 Q I1 q1
 ·exact ha pins s1 σ H1 Q I1 q1
end
noncomputable def SqL(K:Frag)(H:Hp)(a:Addr)(xs:List V):Prop:=
 Rd H a (.lst xs) ∨
  ∃(o:Obj) (its:Array Value) (n:Nat),K.lookup a=some o∧o.cls=.type "list" ∧ o.dict=none∧o.data=.seq its n∧its.size≤sizeLine∧Vals xs its.toList
noncomputable def SqT(K:Frag)(H:Hp)(a:Addr)(xs:List V):Prop:=
 Rd H a (.tup xs) ∨
  ∃(o:Obj) (its:Array Value) (n:Nat),K.lookup a=some o∧o.cls=.type "tuple" ∧ o.data=.seq its n∧its.size≤sizeLine∧Vals xs its.toList
noncomputable def absV:Value→Option V
 |.none=>some .non
 |.bool b=>some (.bl b)
 |.int i _=>some (.int i)
 |.str x _=>some (.str x)
 |.bytes b _=>some (.byt b)
 |.float b _=>some (.flt b)
 |.ref a=>some (.ref a)
 |.type n=>some (.ty n)
 |_=>none
theorem RelV.abs{x:V}{u:Value}(r:RelV x u):absV u=some x:=by
 cases x with
 |non=>cases r;rfl
 |bl _=>cases r;rfl
 |int _=>obtain⟨t,rfl⟩:=r;rfl
 |str _=>obtain⟨t,rfl⟩:=r;rfl
 |byt _=>obtain⟨t,rfl⟩:=r;rfl
 |flt _=>obtain⟨t,rfl⟩:=r;rfl
 |ref _=>cases r;rfl
 |ty _=>cases r;rfl
theorem RelV.inj{x y:V}{u:Value}(r:RelV x u)(q:RelV y u):x=y:=Option.some.inj (r.abs.symm.trans q.abs)
theorem Vals.inj:∀{xs ys:List V} {us:List Value},Vals xs us→Vals ys us→xs=ys
 |_,_,_,.nil,.nil=>rfl
 |_,_,_,.cons r t,.cons r' t'=>by rw[r.inj r',Vals.inj t t']
section
variable{X:Cx}{pins:List (Addr×Obj)}{σ:St}{H:Hp}{s:Shared}{a:Addr}{xs ys:List V}
theorem SqL.of{K:Frag}(h:H a=some (.lst xs)):SqL K H a xs:=.inl (.inl h)
theorem SqT.of{K:Frag}(h:H a=some (.tup xs)):SqT K H a xs:=.inl (.inl h)
theorem Inv.list(I:Inv X pins σ H s)(h:SqL X.K H a xs):∃its:List Value,Vals xs its∧PlainL s.heap a its.toArray∧xs.length≤sizeLine:=by
 rcases h with h|⟨o,its,n,hk,hc,hd,hs,hz,r⟩
 ·refine X01 (h.ok I.hok) fun z r86_=>?_;refine X21 r86_ fun its n r e=>?_
  exact Y12 its r ⟨_,n,e,rfl,rfl,rfl⟩ z
 ·refine Y12 its.toList r ⟨o,n,I.kIn a o hk,hc,hd,by simpa using hs⟩ ?_
  have e:=r.length
  simp only[length_toList] at e
  lia
theorem Inv.tuple(I:Inv X pins σ H s)(h:SqT X.K H a xs):∃its:List Value,Vals xs its∧IsTup s.heap a its.toArray∧xs.length≤sizeLine:=by
 rcases h with h|⟨o,its,n,hk,hc,hs,hz,r⟩
 ·refine X01 (h.ok I.hok) fun z r85_=>?_;refine X11 r85_ fun its r p=>?_
  exact Y12 its r p z
 ·refine Y12 its.toList r ⟨o,I.kIn a o hk,hc,n,by simpa using hs⟩ ?_
  have e:=r.length
  simp only[length_toList] at e
  lia
theorem Inv.list_inj(I:Inv X pins σ H s)(h:SqL X.K H a xs)(h':SqL X.K H a ys):xs=ys:=by
 obtain⟨its,r,⟨o,n,e,_,_,d⟩,_⟩:=I.list h
 obtain⟨its',r',⟨o',n',e',_,_,d'⟩,_⟩:=I.list h'
 rw[e] at e';replace e':=sI_ e';subst e'
 rw[d] at d'
 injection d' with d1 _
 have:its=its':=by simpa using congrArg Array.toList d1
 subst this
 exact r.inj r'
theorem Inv.tuple_inj(I:Inv X pins σ H s)(h:SqT X.K H a xs)(h':SqT X.K H a ys):xs=ys:=by
 obtain⟨its,r,⟨o,e,_,n,d⟩,_⟩:=I.tuple h
 obtain⟨its',r',⟨o',e',_,n',d'⟩,_⟩:=I.tuple h'
 rw[e] at e';replace e':=sI_ e';subst e'
 rw[d] at d'
 injection d' with d1 _
 have:its=its':=by simpa using congrArg Array.toList d1
 subst this
 exact r.inj r'
end
noncomputable abbrev Cx.wish(X:Cx)(E:Value→Shared→Prop):Cx:={ X with xe:=E }
noncomputable abbrev Cx.nox(X:Cx):Cx:=X.wish fun _ _=>False
theorem Cx.Ok.wish{X:Cx}(ok:X.Ok)(E:Value→Shared→Prop):(X.wish E).Ok:=
 ⟨ok.mod,ok.kind,ok.glob,ok.blt,ok.above,ok.inj,ok.has,ok.cab,ok.hd,ok.frames,ok.stk,ok.exf,ok.bs,ok.bsz,ok.noex,ok.exfs,ok.funs,ok.frf⟩
theorem Cx.Ok.unwish{X:Cx}{E:Value→Shared→Prop}(ok:(X.wish E).Ok):X.Ok:=
 ⟨ok.mod,ok.kind,ok.glob,ok.blt,ok.above,ok.inj,ok.has,ok.cab,ok.hd,ok.frames,ok.stk,ok.exf,ok.bs,ok.bsz,ok.noex,ok.exfs,ok.funs,ok.frf⟩
section
variable{X:Cx}{pins:List (Addr×Obj)}{σ:St}{H:Hp}{s:Shared}{E:Value→Shared→Prop}
theorem Inv.wish(I:Inv X pins σ H s)(E:Value→Shared→Prop):Inv (X.wish E) pins σ H s:=⟨I.ok.wish E,I.os,I.bare,I.base,I.loc,I.cell,I.free,I.freeC,I.pin,I.hok,I.len⟩
theorem Inv.unwish(I:Inv (X.wish E) pins σ H s):Inv X pins σ H s:=⟨I.ok.unwish,I.os,I.bare,I.base,I.loc,I.cell,I.free,I.freeC,I.pin,I.hok,I.len⟩
theorem SP.unwish{D:X9}{f:Flow}{s':Shared}(h:SP (X.wish E) pins D f s'):SP X pins D f s':=by
 cases f with
 |next=>refine X21 h fun σ' H' I q=>?_;exact Y21 σ' H' I.unwish q
 |brk=>refine X21 h fun σ' H' I q=>?_;exact Y21 σ' H' I.unwish q
 |cont=>refine X21 h fun σ' H' I q=>?_;exact Y21 σ' H' I.unwish q
 |ret u=>refine X32 h fun v σ' H' I r q=>?_;exact Y32 v σ' H' I.unwish r q
theorem PSs.nox{st:List Stmt}{t:TS}(h:PSs X.nox st t):PSs X st t:=fun pins s σ H D I hw=>
 wpAny_mono (h pins s σ H D (I.wish _) hw) (fun _ _ q=>q.unwish) fun _ _ z=>False.elim z
end
section
variable{X:Cx}{st:Stmt}{rest:List Stmt}{t u:TS}{e:Expr}{te:TE}{pos:Pos}
noncomputable def tNext:TS:=fun D σ H=>D.nx σ H
noncomputable def tSeq(t u:TS):TS:=fun D σ H=>t { D with nx:=u D } σ H
theorem Lf:PSs X [] tNext:=fun _ _ σ H _ I h=>wpAny_execs_nil ⟨σ,H,I,h⟩
theorem G0(h1:PS X st t)(h2:PSs X rest u):PSs X (st::rest) (tSeq t u):=by
 intro pins s σ H D I h
 refine wpAny_execs_cons (thn (h1 pins s σ H { D with nx:=u D } I h) fun f s1 q=>?_)
 cases f with
 |next=>
  obtain⟨σ',H',I',q⟩:=q
  exact h2 pins s1 σ' H' D I' q
 |ret v=>exact q
 |brk=>exact q
 |cont=>exact q
theorem Le(h1:PS X st t):PSs X [st] t:=by
 intro pins s σ H D I h
 refine wpAny_execs_cons (thn (h1 pins s σ H D I h) fun f s1 q=>?_)
 cases f with
 |next=>exact wpAny_execs_nil q
 |ret v=>exact q
 |brk=>exact q
 |cont=>exact q
theorem Inv.quiet{pins:List (Addr×Obj)}{σ:St}{H:Hp}{s:Shared}(I:Inv X pins σ H s):interactive X.env=false:=by simp[interactive,I.ok.kind]
noncomputable def tDrop(te:TE):TS:=fun D σ H=>te σ H fun _ H1=>D.nx σ H1
theorem WU(he:PE X e te)(hs:swapsWith e none pos.line X.env=pure false:=by rfl):PS X (.Expr e pos) (tDrop te):=by
 intro pins s σ H D I h
 exact wpAny_Expr_any (thn (he pins s σ H _ I h) fun v s1 ⟨x,H1,I1,r1,q1⟩=>Y21 σ H1 I1 q1) I.quiet hs
noncomputable def tRet(te:TE):TS:=fun D σ H=>te σ H D.rt
theorem ZK(he:PE X e te):PS X (.Return (some e) pos) (tRet te):=by
 intro pins s σ H D I h
 exact wpAny_Return_some (thn (he pins s σ H _ I h) fun v s1 ⟨x,H1,I1,r1,q1⟩=>Y32 x σ H1 I1 r1 q1)
noncomputable def tIfS(c:TT)(t u:TS):TS:=fun D σ H=>c σ H fun b H1=>if b=true then t D σ H1 else u D σ H1
theorem zd6{c:Expr}{a b:List Stmt}{tc:TT}(hc:PT X c tc)(ha:PSs X a t)(hb:PSs X b u):PS X (.If c a b pos) (tIfS tc t u):=by
 intro pins s σ H D I h
 refine wpAny_If (thn (hc pins s σ H _ I h) fun d s1 z_=>?_)
 refine X11 z_ fun H1 I1 q1=>?_
 rcases d with _|_
 ·exact hb pins s1 σ H1 D I1 q1
 ·exact ha pins s1 σ H1 D I1 q1
end
noncomputable abbrev TG:=V→St→Hp→(St→Hp→Prop)→Prop
noncomputable abbrev TGs:=List V→St→Hp→(St→Hp→Prop)→Prop
noncomputable def PG(X:Cx)(target:Expr)(t:TG):Prop:=
 ∀(pins:List (Addr×Obj)) (s:Shared) (σ:St) (H:Hp) (v:V) (u:Value) (Q:St→Hp→Prop),Inv X pins σ H s→RelV v u→t v σ H Q →
  wpAny (model X.prog X.w) X.A (assign target X.env u) (fun _ s'=>∃σ' H',Inv X pins σ' H' s'∧Q σ' H') X.xe s
noncomputable def PGs(X:Cx)(ts:List Expr)(t:TGs):Prop:=
 ∀(pins:List (Addr×Obj)) (s:Shared) (σ:St) (H:Hp) (vs:List V) (us:List Value) (Q:St→Hp→Prop),Inv X pins σ H s→Vals vs us→t vs σ H Q →
  wpAny (model X.prog X.w) X.A (assignInOrder ((assignEach ts X.env).map (·.2)) us) (fun _ s'=>∃σ' H',Inv X pins σ' H' s'∧Q σ' H') X.xe s
noncomputable abbrev zn8:=V→V→V→Hp→(Hp→Prop)→Prop
noncomputable def PSet(X:Cx)(t:zn8):Prop:=
 ∀(pins:List (Addr×Obj)) (s:Shared) (σ:St) (H:Hp) (o i v:V) (ov iv u:Value) (Q:Hp→Prop),Inv X pins σ H s→RelV o ov→RelV i iv→RelV v u→t o i v H Q →
  wpAny (model X.prog X.w) X.A (setItem ov iv u) (fun _ s'=>∃H',Inv X pins σ H' s'∧Q H') X.xe s
section
variable{X:Cx}{pos:Pos}
noncomputable def Xu(i:Nat):TG:=fun v σ H Q=>Q (σ.set i (some v)) H
theorem WX{i:Nat}{x:Str}(hN:X.N.Nodup)(hi:X.N[i]?=some x)(hx:Loc X.env.scope x)(hf:X.fn x=true∨X.env.scope.names.lookup x=some .local:=by first|exact .inl rfl|exact .inr rfl|assumption):PG X (.Name x pos) (Xu i):=by
 intro pins s σ H v u Q I r h
 exact wpAny_assign_Name (YK I hN hi hx r (fun s' I'=>Y21 _ H I' h) hf)
noncomputable def gNil:TGs:=fun vs σ H Q=>vs=[]∧Q σ H
noncomputable def gCons(t:TG)(u:TGs):TGs:=fun vs σ H Q=>∃v r,vs=v::r∧t v σ H fun σ' H'=>u r σ' H' Q
theorem Ll:PGs X [] gNil:=by
 intro pins s σ H vs us Q I r h
 obtain⟨e,h⟩:=h
 subst e
 cases r
 exact assignInOrder_nil ⟨σ,H,I,h⟩
theorem VQ{e:Expr}{es:List Expr}{t:TG}{u:TGs}(h1:PG X e t)(h2:PGs X es u)
  (hs:(assignEach (e::es) X.env).map (·.2)=assign e X.env::(assignEach es X.env).map (·.2):=by rfl):PGs X (e::es) (gCons t u):=by
 intro pins s σ H vs us Q I r h
 obtain⟨v,vr,e1,h⟩:=h
 subst e1
 cases r with
 |cons r rr=>
  rw[hs]
  refine assignInOrder_cons (thn (h1 pins s σ H _ _ _ I r h) fun _ s1 z_=>?_)
  refine X21 z_ fun σ1 H1 I1 q1=>?_
  exact h2 pins s1 σ1 H1 _ _ Q I1 rr q1
noncomputable def gTup(K:Frag)(n:Nat)(t:TGs):TG:=fun v σ H Q=>∃a xs,v=.ref a∧SqT K H a xs∧xs.length=n∧t xs σ H Q
theorem zh1{es:List Expr}{k:Nat}{t:TGs}{n:Nat}(hc:X.calm=true)(h:PGs X es t)
  (hn:(assignEach es X.env).length=n:=by rfl) (hst:(assignEach es X.env).findIdx? (·.1)=none:=by rfl):PG X (.Tuple es k pos) (gTup X.K n t):=by
 intro pins s σ H v u Q I r hw
 obtain⟨a,xs,e1,hq,hl,hw⟩:=hw
 subst e1
 cases r
 refine X12 (I.tuple hq) fun its rv ht hz=>?_
 refine assign_Tuple_tuple (I.ok.hd hc) ht (by simp[hn,← hl,rv.length]) hst fun h' hx=>?_
 have I1:Inv X pins σ H { s with heap:=h' }:=I.kept (t':=s.toks) fun b o e=>hx b o (ne_of_lt (Heap.lt_size e)) e
 exact h pins _ σ H xs _ Q I1 (by simpa using rv) hw
noncomputable def gSub(to ti:TE)(t:zn8):TG:=fun v σ H Q=>to σ H fun o H1=>ti σ H1 fun i H2=>t o i v H2 fun H3=>Q σ H3
theorem zh2{o i:Expr}{to ti:TE}{t:zn8}(ho:PE X o to)(hi:PE X i ti)(hs:PSet X t)
  (ha:∀v,assign (.Subscript o i pos) X.env v=(do
   let ov ← holding [v] (eval o X.env)
   let iv ← holding [v,ov] (eval i X.env)
   standAt pos
   holding [v,ov,iv] (setItem ov iv v)
   release [v,ov,iv] []):=by intro _;rfl):PG X (.Subscript o i pos) (gSub to ti t):=by
 intro pins s σ H v u Q I r h
 rw[ha]
 refine wpAny_bind (wpAny_holding (thn (ho pins s σ H _ I h) fun ov s1 z_=>?_))
 refine X22 z_ fun x H1 I1 r1 q1=>?_
 refine wpAny_bind (wpAny_holding (thn (hi pins s1 σ H1 _ I1 q1) fun iv s2 z_=>?_))
 refine X22 z_ fun y H2 I2 r2 q2=>?_
 refine wpAny_bind (wpAny_standAt (wpAny_bind (wpAny_holding (thn (hs pins s2 σ H2 x y v ov iv u _ I2 r1 r2 r q2) fun _ s3 z_=>?_))))
 refine X11 z_ fun H3 I3 q3=>?_
 exact wpAny_release ⟨σ,H3,I3,q3⟩
noncomputable def zf7(te:TE)(g:TG):TS:=fun D σ H=>te σ H fun x H1=>g x σ H1 D.nx
theorem zg6{tg e:Expr}{te:TE}{g:TG}(he:PE X e te)(hg:PG X tg g)(hs:swapsWithSole [tg] e pos.line X.env=pure false:=by rfl)(hw:swappedStores [tg] e X.env=pure none:=by rfl)
  (h1:(assignEach [tg] X.env).map (·.2)=[assign tg X.env]:=by rfl):PS X (.Assign [tg] e pos) (zf7 te g):=by
 intro pins s σ H D I h
 refine wpAny_Assign_stores (thn (he pins s σ H _ I h) fun v s1 z_=>?_) hs hw
 refine X22 z_ fun x H1 I1 r1 q1=>?_
 rw[h1]
 exact thn (hg pins s1 σ H1 x v _ I1 r1 q1) fun _ s2 q=>q
theorem UT{i:Nat}{x:Str}{e:Expr}{te:TE}{pos':Pos}(hN:X.N.Nodup)(hi:X.N[i]?=some x)(hx:Loc X.env.scope x)(he:PE X e te)(hs:swapsWith e (some (.Name x pos')) pos.line X.env=pure false:=by rfl)(hf:X.fn x=true∨X.env.scope.names.lookup x=some .local:=by first|exact .inl rfl|exact .inr rfl|assumption) :
  PS X (.Assign [.Name x pos'] e pos) (zf7 te (Xu i)):=by
 intro pins s σ H D I h
 refine wpAny_Assign_Name (thn (he pins s σ H _ I h) fun v s1 z_=>?_) hs
 refine X22 z_ fun y H1 I1 r1 q1=>?_
 exact YK I1 hN hi hx r1 (fun s2 I2=>Y21 _ H1 I2 q1) hf
end
section
variable{X:Cx}{pos:Pos}
end
structure It where
 go:Nat→Hp→Prop
 yld:Nat→Hp→V→Hp→Prop
 stop:Nat→Hp→Prop
noncomputable def X8(X:Cx)(pins:List (Addr×Obj))(H:Hp)(b:Addr):Prop:=
 H b=none∧b≠X.env.locals∧b∉X.fs∧(b∈X.ex∨X.s₀.heap.objs.size≤b)∧(∀x c,X.env.cells.lookup x=some c→c≠b)∧∀p∈X.pn++pins,p.1≠b
theorem Inv.fpOk{X:Cx}{pins:List (Addr×Obj)}{σ:St}{H H':Hp}{s:Shared}{b:Addr}(I:Inv X pins σ H s)(hb:s.heap.objs.size≤b)(hn:H' b=none):X8 X pins H' b:=by
 refine⟨hn,ne_of_gt (lt_of_lt_of_le I.lt hb),I.nofs hb,.inr (le_trans I.sz hb),fun x c e z=>?_,fun p hp z=>?_⟩
 ·obtain⟨v,q⟩:=I.cell x c e
  exact absurd (lt_of_lt_of_le q.lt (by rw[z];exact hb)) (lt_irrefl _)
 ·exact absurd (lt_of_lt_of_le (Heap.lt_size (I.pin p hp).1) (by rw[z];exact hb)) (lt_irrefl _)
structure Vt(P:Program)(w:World)(K:Frag)(tg:Expr)(J:It)(fp:List Addr)(it:Addr)(tn:Nat→Heap→Prop):Prop where
 mem:it∈fp
 obj:∀i h,tn i h→∀b∈fp,∃o,h.get? b=some o∧∀v,o.data≠.cell v
 keep:∀i h h',tn i h→(∀b∈fp,∀o,h.get? b=some o→h'.get? b=some o)→tn i h'
 item:∀(X:Cx),X.prog=P→X.w=w→X.K=K→X.calm=true→∀(i:Nat) (pins:List (Addr×Obj)) (s:Shared) (σ:St) (H:Hp) (E:Value→Shared→Prop),Inv X pins σ H s→(∀b∈fp,X8 X pins H b)→tn i s.heap→J.go i H →
  wpAny (model P w) X.A (pyNext (.ref it)) (fun r s1=>∃u,r=some u ∧
   wpAny (model P w) X.A (letOwnedTupleGo tg (.ref it) u) (fun _ s2=>∃x H',Inv X pins σ H' s2∧RelV x u∧J.yld i H x H'∧tn (i+1) s2.heap∧∀b∈fp,H' b=none) E s1) E s
 done:∀(X:Cx),X.prog=P→X.w=w→X.K=K→X.calm=true→∀(i:Nat) (pins:List (Addr×Obj)) (s:Shared) (σ:St) (H:Hp) (E:Value→Shared→Prop),Inv X pins σ H s→(∀b∈fp,X8 X pins H b)→tn i s.heap→J.stop i H →
  wpAny (model P w) X.A (pyNext (.ref it)) (fun r s1=>r=none∧Inv X pins σ H s1) E s
 self:∀(A:Around) (i:Nat) (s:Shared) (Q:Value→Shared→Prop) (E:Value→Shared→Prop),tn i s.heap→Q (.ref it) s→wpAny (model P w) A (pyIter (.ref it)) Q E s
noncomputable abbrev TI:=St→Hp→(It→Hp→Prop)→Prop
noncomputable def PIE(X:Cx)(pins:List (Addr×Obj))(σ:St)(tg:Expr)(R:It→Hp→Prop)(itv:Value)(s2:Shared):Prop:=
 ∃(it:Addr) (fp:List Addr) (tn:Nat→Heap→Prop) (J:It) (H':Hp),itv=.ref it∧Inv X pins σ H' s2∧Vt X.prog X.w X.K tg J fp it tn∧tn 0 s2.heap∧(∀b∈fp,X8 X pins H' b)∧R J H'
noncomputable def PI(X:Cx)(tg iter:Expr)(wi:TI):Prop:=
 ∀(pins:List (Addr×Obj)) (s:Shared) (σ:St) (H:Hp) (R:It→Hp→Prop),Inv X pins σ H s→wi σ H R →
  wpAny (model X.prog X.w) X.A (eval iter X.env) (fun v s1=>wpAny (model X.prog X.w) X.A (pyIter v) (PIE X pins σ tg R) X.xe s1) X.xe s
theorem Uu{M:Model}{A:Around}{E:Value→Shared→Prop}{s:Shared}{tg:Expr}{it:Addr}{u:Value}{o:Obj}{n:String}{vs:Array Value}{Q:Unit→Shared→Prop}(ho:s.heap.get? it=some o)(hc:o.cls=.type n)(hd:o.data=.fields vs)
  (hn:["enumerate", "zip", "dict_itemiterator", "dict_reverseitemiterator", "odict_iterator", "itertools.zip_longest", "itertools.pairwise"].contains n=false) (hQ:Q () s):wpAny M A (letOwnedTupleGo tg (.ref it) u) Q E s:=by
 unfold letOwnedTupleGo
 cases tg <;> first
  | exact wpAny_pure hQ
  | (cases u <;> first
    | exact wpAny_pure hQ
    | (refine wpAny_bind (wpAny_load ho ?_)
       rw[hc,hd]
       show wpAny M A (if (["enumerate", "zip", "dict_itemiterator", "dict_reverseitemiterator", "odict_iterator", "itertools.zip_longest", "itertools.pairwise"].contains n&&vs[0]?==some (rawInt _))=true then _ else _) Q E s
       rw[if_neg (by intro h;rw[hn,Bool.false_and] at h;nomatch h)]
       exact wpAny_pure hQ))
noncomputable def Itl(K:Frag)(a:Addr):It:=
 ⟨fun i H=>∃xs x,SqL K H a xs∧xs[i]?=some x,fun i H x H'=>H'=H∧∀xs,SqL K H a xs→xs[i]?=some x,fun i H=>∃xs,SqL K H a xs∧xs.length≤i⟩
noncomputable def Itt(K:Frag)(a:Addr):It:=
 ⟨fun i H=>∃xs x,SqT K H a xs∧xs[i]?=some x,fun i H x H'=>H'=H∧∀xs,SqT K H a xs→xs[i]?=some x,fun i H=>∃xs,SqT K H a xs∧xs.length≤i⟩
noncomputable def Itr(lo:Int)(n:Nat):It:=⟨fun i _=>i<n,fun i H x H'=>H'=H∧x=.int (lo+i),fun i _=>n≤i⟩
theorem Qv{P:Program}{w:World}{K:Frag}{tg:Expr}(a it:Addr):Vt P w K tg (Itl K a) [it] it (fun i h=>h.IsListIter it a i) where
 mem:=by simp
 obj:=fun i h st b hb=>by
  have e:b=it:=by simpa using hb
  subst e
  refine X12 st fun o e c d=>?_
  exact Y11 o e (fun v z=>by rw[d] at z;nomatch z)
 keep:=fun i h h' st k=>st.at fun o e=>k it (by simp) o e
 item:=by
  intro X hP hw hK hc i pins s σ H E I hf st hg
  subst hP hw hK
  refine X21 hg fun xs x hq hx=>?_
  refine X12 (I.list hq) fun its rv p hz=>?_
  refine X11 (rv.get hx) fun u hu ru=>?_
  refine X05 (hf it (by simp)) fun f0 f1 f2 f3 f4 f5=>?_
  refine wpAny_pyNext_list_item st p.isList (x:=u) (by simpa using hu) fun h' st' sb=>?_
  have I1:Inv X pins σ H { s with heap:=h' }:=I.turned (t':=s.toks) (fun b o hb e=>(sb.2 b hb).trans e) f0 f1 f3 f4 f5
  refine X12 (id st') fun o e c d=>?_
  exact Y11 u rfl (Uu (s:={ s with heap:=h' }) e c d (by decide) ⟨x,H,I1,ru,⟨rfl,fun ys hy=>by rw[I.list_inj hy hq];exact hx⟩,st',fun b hb=>(hf b hb).1⟩)
 done:=by
  intro X hP hw hK hc i pins s σ H E I hf st hg
  subst hP hw hK
  refine X11 hg fun xs hq hx=>?_
  refine X12 (I.list hq) fun its rv p hz=>?_
  refine X05 (hf it (by simp)) fun f0 f1 f2 f3 f4 f5=>?_
  have hl:=rv.length
  exact wpAny_pyNext_list_end (I.ok.hd hc) st p.isList (by simp;lia) fun h' eb=>⟨rfl,I.turned (t':=s.toks) (fun b o hb e=>eb b o hb e) f0 f1 f3 f4 f5⟩
 self:=fun _ _ _ _ _ st h=>wpAny_pyIter_listiter st h
theorem UG{P:Program}{w:World}{K:Frag}{tg:Expr}(a it:Addr):Vt P w K tg (Itt K a) [it] it (fun i h=>h.IsTupleIter it a i) where
 mem:=by simp
 obj:=fun i h st b hb=>by
  have e:b=it:=by simpa using hb
  subst e
  refine X12 st fun o e c d=>?_
  exact Y11 o e (fun v z=>by rw[d] at z;nomatch z)
 keep:=fun i h h' st k=>st.at fun o e=>k it (by simp) o e
 item:=by
  intro X hP hw hK hc i pins s σ H E I hf st hg
  subst hP hw hK
  refine X21 hg fun xs x hq hx=>?_
  refine X12 (I.tuple hq) fun its rv p hz=>?_
  refine X11 (rv.get hx) fun u hu ru=>?_
  refine X05 (hf it (by simp)) fun f0 f1 f2 f3 f4 f5=>?_
  refine wpAny_pyNext_tuple_item st (show s.heap.IsTuple a its.toArray from p) (x:=u) (by simpa using hu) fun h' st' sb=>?_
  have I1:Inv X pins σ H { s with heap:=h' }:=I.turned (t':=s.toks) (fun b o hb e=>(sb.2 b hb).trans e) f0 f1 f3 f4 f5
  refine X12 (id st') fun o e c d=>?_
  exact Y11 u rfl (Uu (s:={ s with heap:=h' }) e c d (by decide) ⟨x,H,I1,ru,⟨rfl,fun ys hy=>by rw[I.tuple_inj hy hq];exact hx⟩,st',fun b hb=>(hf b hb).1⟩)
 done:=by
  intro X hP hw hK hc i pins s σ H E I hf st hg
  subst hP hw hK
  refine X11 hg fun xs hq hx=>?_
  refine X12 (I.tuple hq) fun its rv p hz=>?_
  refine X05 (hf it (by simp)) fun f0 f1 f2 f3 f4 f5=>?_
  have hl:=rv.length
  exact wpAny_pyNext_tuple_end (I.ok.hd hc) st (show s.heap.IsTuple a its.toArray from p) (by simp;lia) fun h' eb=>⟨rfl,I.turned (t':=s.toks) (fun b o hb e=>eb b o hb e) f0 f1 f3 f4 f5⟩
 self:=fun _ _ _ _ _ st h=>wpAny_pyIter_tupleiter st h
theorem UH{P:Program}{w:World}{K:Frag}{tg:Expr}(it:Addr)(lo:Int)(n:Nat):Vt P w K tg (Itr lo n) [it] it (fun i h=>IsRangeIter h it (lo+(i:Nat)*1) ((n:Int)-(i:Nat)) 1) where
 mem:=by simp
 obj:=fun i h st b hb=>by
  have e:b=it:=by simpa using hb
  subst e
  exact Y11 _ st (fun v z=>by
   have z':Data.fields _=Data.cell v:=z
   nomatch z')
 keep:=fun i h h' st k=>k it (by simp) _ st
 item:=by
  intro X hP hw hK hc i pins s σ H E I hf st hg
  subst hP hw hK
  refine X05 (hf it (by simp)) fun f0 f1 f2 f3 f4 f5=>?_
  have W:=Walks.range (prog:=X.prog) (w:=X.w) (I.ok.hd hc) it lo 1 n
  refine W.item i s _ _ hg st fun v h' tk hv st' kk=>?_
  obtain⟨t,rfl⟩:=hv
  have I1:Inv X pins σ H { s with heap:=h',toks:=tk }:=I.turned (fun b o hb e=>kk b o (by simpa using hb) e) f0 f1 f3 f4 f5
  refine Y11 _ rfl (Uu (s:={ s with heap:=h',toks:=tk }) (n := "range_iterator") st' rfl rfl (by decide) ⟨.int (lo+i),H,I1,⟨t,?_⟩,⟨rfl,rfl⟩,st',fun b hb=>(hf b hb).1⟩)
  rw[Int.mul_one]
 done:=by
  intro X hP hw hK hc i pins s σ H E I hf st hg
  subst hP hw hK
  refine X05 (hf it (by simp)) fun f0 f1 f2 f3 f4 f5=>?_
  exact wpAny_pyNext_range_end (I.ok.hd hc) st (by have:n≤i:=hg;lia) fun h' eb=>⟨rfl,I.turned (t':=s.toks) (fun b o hb e=>eb b o hb e) f0 f1 f3 f4 f5⟩
 self:=fun _ _ _ _ _ st h=>wpAny_pyIter_rangeiter st h
section
variable{X:Cx}{tg:Expr}
theorem GQ{pins:List (Addr×Obj)}{σ:St}{H:Hp}{s:Shared}{R:It→Hp→Prop}{E:Value→Shared→Prop}{lo hi:Int}{t u v:Tok}{tk:Nat}(I:Inv X pins σ H s)(h1 : -(2 ^ 62)≤lo)(h2:lo<2 ^ 62)(h3 : -(2 ^ 62)≤hi)(h4:hi<2 ^ 62)
  (q:R (Itr lo (hi-lo).toNat) H):wpAny (model X.prog X.w) X.A (pyIter (.ref s.heap.objs.size)) (PIE X pins σ tg R) E { s with heap:=s.heap.push { cls:=.type "range", data:=.fields #[.int lo t,.int hi u,.int 1 v] },toks:=tk }:=by
 refine wpAny_pyIter_range (IsRange.new ..) (small_one h1 h2 h3 h4) ?_
 have I1:Inv X pins σ H { s with heap:=s.heap.push { cls:=.type "range", data:=.fields #[.int lo t,.int hi u,.int 1 v] },toks:=tk }:=I.kept fun b o e=>get?_push_of_some _ e
 refine Y55 ((s.heap.push { cls:=.type "range", data:=.fields #[.int lo t,.int hi u,.int 1 v] }).objs.size) [(s.heap.push { cls:=.type "range", data:=.fields #[.int lo t,.int hi u,.int 1 v] }).objs.size] _ _ H rfl (I1.kept (t':=tk) fun b o e=>get?_push_of_some _ e) (UH _ lo (hi-lo).toNat) ?_ (fun b hb=>?_) q
 ·have e1:lo+((0:Nat):Int)*1=lo:=by simp
  have e2:(((hi-lo).toNat:Nat):Int)-((0:Nat):Int)=Builtin.Range.rangeSize lo hi 1:=by rw[rangeSize_one];split <;> lia
  show IsRangeIter _ _ (lo+((0:Nat):Int)*1) ((((hi-lo).toNat:Nat):Int)-((0:Nat):Int)) 1
  rw[e1,e2]
  exact Heap.get?_push_size _ rfl
 ·have e:b=(s.heap.push { cls:=.type "range", data:=.fields #[.int lo t,.int hi u,.int 1 v] }).objs.size:=by simpa using hb
  subst e
  exact I1.fpOk (le_refl _) (I1.hok.fresh (le_refl _))
noncomputable def iRng1(ta:TA):TI:=fun σ H R=>ta σ H fun vs H1=>∃j:Int,vs=[.int j]∧-(2 ^ 62)≤j∧j<2 ^ 62∧R (Itr 0 j.toNat) H1
theorem QI{a:Expr}{ta:TA}{p pos:Pos}(hg:Gl X "range")(hm:X.mg "range" = none)(ha:PA X [a] ta)(hs:starEach [a] X.env=[(false,eval a X.env)]:=by rfl):PI X tg (.Call (.Name "range" p) [a] [] pos) (iRng1 ta):=by
 intro pins s σ H R I h
 refine Call_ (uG I hg hm boot_range (PyProof.Rows.callWith_type1 (thn (ha pos pins s σ H _ I h) fun us s1 z_=>?_) hs rfl))
 refine X22 z_ fun vs H1 I1 r1 q1=>?_
 obtain⟨j,e,q1,q2,q⟩:=q1
 subst e
 cases r1 with
 |cons r rr=>
  cases rr
  obtain⟨t,rfl⟩:=r
  exact call_range_1 (GQ I1 (by lia) (by lia) q1 q2 (by simpa using q))
noncomputable def tFor(wi:TI)(g:TG)(tb:TS):TS:=fun D σ H=>wi σ H fun J H1=>∃W:Nat→Nat→St→Hp→Prop,(∃m,W 0 m σ H1)∧∀i m σ H,W i m σ H →
 (J.stop i H∧D.nx σ H)∨(J.go i H∧∃N:St→Hp→Prop,(∀σ' H',N σ' H'→∃m',m'<m∧W (i+1) m' σ' H')∧∀x H',J.yld i H x H'→g x σ H' fun σ2 H2=>tb { D with nx:=N,ct:=N,bk:=D.nx } σ2 H2)
noncomputable def YT(fp:List Addr)(h:Heap):List (Addr×Obj):=fp.filterMap fun b=>(h.get? b).map fun o=>(b,o)
theorem uF{fp:List Addr}{h:Heap}{b:Addr}{o:Obj}(hb:b∈fp)(e:h.get? b=some o):(b,o)∈YT fp h:=List.mem_filterMap.mpr ⟨b,hb,by rw[e];rfl⟩
theorem QW{fp:List Addr}{h:Heap}{p:Addr×Obj}(hp:p∈YT fp h):p.1∈fp∧h.get? p.1=some p.2:=by
 refine X11 (List.mem_filterMap.mp hp) fun b hb e=>?_
 rcases q:h.get? b with _|o
 ·rw[q] at e;cases e
 ·rw[q] at e
  have e':(b,o)=p:=Option.some.inj e
  subst e'
  exact⟨hb,q⟩
theorem Inv.pinned{pins:List (Addr×Obj)}{σ:St}{H:Hp}{s:Shared}{fp:List Addr}(I:Inv X pins σ H s)(hf:∀b∈fp,X8 X pins H b)(ho:∀b∈fp,∃o,s.heap.get? b=some o∧∀v,o.data≠.cell v):Inv X (pins++YT fp s.heap) σ H s:=
 I.pins_of fun p hp=>(mem_append.mp hp).elim (fun z=>I.pin p (mem_append_right _ z)) fun z=>by
  obtain⟨hb,e⟩:=QW z
  refine X03 (hf p.1 hb) fun f0 f1 f2 _=>?_
  refine X11 (ho p.1 hb) fun o e' d=>?_
  rw[e] at e';replace e':=sI_ e';subst e'
  exact⟨e,f0,f1,f2,d⟩
theorem Inv.unpinned{pins pl:List (Addr×Obj)}{σ:St}{H:Hp}{s:Shared}(I:Inv X (pins++pl) σ H s):Inv X pins σ H s:=I.pins_of fun p hp=>I.pin p (mem_append_right _ (mem_append_left _ hp))
theorem zg4{iter:Expr}{body:List Stmt}{wi:TI}{g:TG}{tb:TS}{pos:Pos}(hp:PassesOwn (model X.prog X.w) X.A X.env X.xe)(hc:X.calm=true)(hi:PI X tg iter wi)(hg:PG X tg g)(hb:PSs X body tb)
  (hs:∀x,foldedSetIterable iter X.env x=pure x:=by intro _;rfl):PS X (.For tg iter body [] pos) (tFor wi g tb):=by
 intro pins s σ H D I h
 refine wpAny_For (thn (hi pins s σ H _ I h) fun v s1 h1=>thn h1 fun itv s2 h2=>?_) hs
 obtain⟨it,fp,tn,J,H2,e,I2,T,st2,f2,W,⟨m0,w0⟩,turn⟩:=h2
 subst e
 have stat:∀{H':Hp},(∀b∈fp,H' b=none)→∀b∈fp,X8 X pins H' b:=fun hn b hb=>⟨hn b hb,(f2 b hb).2⟩
 refine codeAny_forLoop_any (fun n s'=>∃i σ' H',Inv X pins σ' H' s'∧tn i s'.heap∧(∀b∈fp,H' b=none)∧W i n σ' H') ?_ m0 ⟨0,σ,H2,I2,st2,fun b hb=>(f2 b hb).1,w0⟩
 rintro n s3 ⟨i,σ3,H3,I3,st3,fr3,w3⟩
 rcases turn i n σ3 H3 w3 with ⟨stop,qn⟩|⟨go,N,hN,step⟩
 ·refine wpAny_passesOwn hp (thn (T.done X rfl rfl rfl hc i pins s3 σ3 H3 X.xe I3 (stat fr3) st3 stop) fun r s4 z_=>?_)
  obtain⟨hr,I4⟩:=z_
  subst hr
  exact wpAny_execs_nil ⟨σ3,H3,I4,qn⟩
 ·refine wpAny_passesOwn hp (thn (T.item X rfl rfl rfl hc i pins s3 σ3 H3 X.xe I3 (stat fr3) st3 go) fun r s4 z_=>?_)
  refine X11 z_ fun u hr h4=>?_
  subst hr
  refine wpAny_passesOwn hp (thn h4 fun _ s5 z_=>?_)
  refine X24 z_ fun x H5 I5 r5 y5 st5 fr5=>?_
  have I5':=I5.pinned (stat fr5) (T.obj _ _ st5)
  refine wpAny_passesOwn hp (thn (hg _ s5 σ3 H5 x u _ I5' r5 (step x H5 y5)) fun _ s6 z_=>?_)
  refine X21 z_ fun σ6 H6 I6 q6=>?_
  refine wpAny_passesOwn hp (thn (hb _ s6 σ6 H6 _ I6 q6) fun f s7 q7=>?_)
  have again:∀{σ7:St} {H7:Hp},Inv X (pins++YT fp s5.heap) σ7 H7 s7→N σ7 H7→∃m,m<n∧∃i σ' H',Inv X pins σ' H' s7∧tn i s7.heap∧(∀b∈fp,H' b=none)∧W i m σ' H':=fun {σ7 H7} I7 n7=>by
   refine X11 (hN σ7 H7 n7) fun m' hm w7=>?_
   refine⟨m',hm,i+1,σ7,H7,I7.unpinned,T.keep _ _ _ st5 fun b hb o e=>(I7.pin (b,o) (mem_append_right _ (mem_append_right _ (uF hb e)))).1,fun b hb=>?_,w7⟩
   refine X11 (T.obj _ _ st5 b hb) fun o e d=>?_
   exact(I7.pin (b,o) (mem_append_right _ (mem_append_right _ (uF hb e)))).2.1
  cases f with
  |next=>refine X21 q7 fun σ7 H7 I7 n7=>?_;exact again I7 n7
  |cont=>refine X21 q7 fun σ7 H7 I7 n7=>?_;exact again I7 n7
  |brk=>obtain⟨σ7,H7,I7,q7⟩:=q7;exact Y21 σ7 H7 I7.unpinned q7
  |ret v=>obtain⟨x7,σ7,H7,I7,r7,q7⟩:=q7;exact Y32 x7 σ7 H7 I7.unpinned r7 q7
end
noncomputable abbrev R2:=V→V→Hp→VK→Prop
noncomputable def OpR(X:Cx)(f:Value→Value→Sem Value)(r:R2):Prop:=
 ∀(pins:List (Addr×Obj)) (s:Shared) (σ:St) (H:Hp) (x y:V) (v u:Value) (Q:VK),Inv X pins σ H s→RelV x v→RelV y u→r x y H Q →
  wpAny (model X.prog X.w) X.A (f v u) (EP X pins σ Q) X.xe s
noncomputable def UnR(X:Cx)(f:Value→Sem Value)(r:V→Hp→VK→Prop):Prop:=
 ∀(pins:List (Addr×Obj)) (s:Shared) (σ:St) (H:Hp) (x:V) (v:Value) (Q:VK),Inv X pins σ H s→RelV x v→r x H Q →
  wpAny (model X.prog X.w) X.A (f v) (EP X pins σ Q) X.xe s
noncomputable def CallR(X:Cx)(f:Value)(r:List V→Hp→VK→Prop):Prop:=
 ∀(pins:List (Addr×Obj)) (s:Shared) (σ:St) (H:Hp) (xs:List V) (us:List Value) (Q:VK),Inv X pins σ H s→Vals xs us→r xs H Q →
  wpAny (model X.prog X.w) X.A (call f us) (EP X pins σ Q) X.xe s
noncomputable def TruR(X:Cx)(r:V→Hp→(Bool→Hp→Prop)→Prop):Prop:=
 ∀(pins:List (Addr×Obj)) (s:Shared) (σ:St) (H:Hp) (x:V) (v:Value) (Q:Bool→Hp→Prop),Inv X pins σ H s→RelV x v→r x H Q →
  wpAny (model X.prog X.w) X.A (truthy v) (TP X pins σ Q) X.xe s
noncomputable def tOp(r:R2)(ta tb:TE):TE:=fun σ H Q=>ta σ H fun x H1=>tb σ H1 fun y H2=>r x y H2 Q
noncomputable def tUn(r:V→Hp→VK→Prop)(ta:TE):TE:=fun σ H Q=>ta σ H fun x H1=>r x H1 Q
noncomputable def rI(C:Int→Int→Prop)(g:Int→Int→V):R2:=fun x y H Q=>∃i j,x=.int i∧y=.int j∧C i j∧Q (g i j) H
noncomputable def rI0(g:Int→Int→V):R2:=fun x y H Q=>∃i j,x=.int i∧y=.int j∧Q (g i j) H
noncomputable def rU(g:Int→V):V→Hp→VK→Prop:=fun x H Q=>∃i,x=.int i∧Q (g i) H
section
variable{X:Cx}{a b c:Expr}{ta tb tc:TE}{pos:Pos}
theorem zn3(ha:PE X a ta)(hb:PE X b tb){pins:List (Addr×Obj)}{s:Shared}{σ:St}{H:Hp}{R:V→V→Hp→Prop}(I:Inv X pins σ H s)
  (h:ta σ H fun x H1=>tb σ H1 fun y H2=>R x y H2) {Q:Value→Shared→Prop} {f:Value→Value→Sem Value}
  (hf:∀v u s2 x y H2,Inv X pins σ H2 s2→RelV x v→RelV y u→R x y H2→wpAny (model X.prog X.w) X.A (f v u) Q X.xe s2) :
  wpAny (model X.prog X.w) X.A (eval a X.env) (fun v s₁=>wpAny (model X.prog X.w) X.A (eval b X.env) (fun u s₂=>wpAny (model X.prog X.w) X.A (f v u) Q X.xe s₂) X.xe s₁) X.xe s:=by
 refine thn (ha pins s σ H _ I h) fun v s1 z_=>?_
 refine X22 z_ fun x H1 I1 r1 q1=>?_
 refine thn (hb pins s1 σ H1 _ I1 q1) fun u s2 z_=>?_
 refine X22 z_ fun y H2 I2 r2 q2=>?_
 exact hf v u s2 x y H2 I2 r1 r2 q2
theorem pe_op{op:Operator}{r:R2}(ho:OpR X (binaryOp op) r)(ha:PE X a ta)(hb:PE X b tb):PE X (.BinOp a op b pos) (tOp r ta tb):=by
 intro pins s σ H Q I h
 exact wpAny_BinOp (zn3 ha hb I h fun v u s2 x y H2 I2 rx ry q=>ho pins s2 σ H2 x y v u Q I2 rx ry q)
theorem pe_un{op:UnaryOp}{r:V→Hp→VK→Prop}(ho:UnR X (unaryOp op) r)(ha:PE X a ta):PE X (.UnaryOp op a pos) (tUn r ta):=by
 intro pins s σ H Q I h
 exact UnaryOp_ (thn (ha pins s σ H _ I h) fun v s1 ⟨x,H1,I1,r1,q1⟩=>ho pins s1 σ H1 x v Q I1 r1 q1)
theorem opI{f:Value→Value→Sem Value}{C:Int→Int→Prop}{g:Int→Int→Int}
  (rule:∀(i j:Int) (t u:Tok) (s:Shared) (Q:Value→Shared→Prop) (E:Value→Shared→Prop),C i j→Q (.int (g i j) s.toks) { s with toks:=s.toks+1 }→wpAny (model X.prog X.w) X.A (f (.int i t) (.int j u)) Q E s) :
  OpR X f (rI C fun i j=>.int (g i j)):=by
 intro pins s σ H x y v u Q I rx ry h
 obtain⟨i,j,rfl,rfl,hc,q⟩:=h
 obtain⟨t,rfl⟩:=rx
 obtain⟨t',rfl⟩:=ry
 exact rule i j t t' s _ _ hc ⟨.int (g i j),H,I.tok _,⟨_,rfl⟩,q⟩
theorem opI0{f:Value→Value→Sem Value}{g:Int→Int→Int}
  (rule:∀(i j:Int) (t u:Tok) (s:Shared) (Q:Value→Shared→Prop) (E:Value→Shared→Prop),Q (.int (g i j) s.toks) { s with toks:=s.toks+1 }→wpAny (model X.prog X.w) X.A (f (.int i t) (.int j u)) Q E s) :
  OpR X f (rI0 fun i j=>.int (g i j)):=by
 intro pins s σ H x y v u Q I rx ry h
 obtain⟨i,j,rfl,rfl,q⟩:=h
 obtain⟨t,rfl⟩:=rx
 obtain⟨t',rfl⟩:=ry
 exact rule i j t t' s _ _ ⟨.int (g i j),H,I.tok _,⟨_,rfl⟩,q⟩
theorem LC{f:Value→Value→Sem Value}{g:Int→Int→Bool}
  (rule:∀(i j:Int) (t u:Tok) (s:Shared) (Q:Value→Shared→Prop) (E:Value→Shared→Prop),Q (.bool (g i j)) s→wpAny (model X.prog X.w) X.A (f (.int i t) (.int j u)) Q E s) :
  OpR X f (rI0 fun i j=>.bl (g i j)):=by
 intro pins s σ H x y v u Q I rx ry h
 obtain⟨i,j,rfl,rfl,q⟩:=h
 obtain⟨t,rfl⟩:=rx
 obtain⟨t',rfl⟩:=ry
 exact rule i j t t' s _ _ ⟨.bl (g i j),H,I,rfl,q⟩
noncomputable def CDiv(i j:Int):Prop:=0<j∧j<1073741824
noncomputable def CMul(i j:Int):Prop:=(-(2 ^ 64)<i∧i<2 ^ 64)∨(-(2 ^ 64)<j∧j<2 ^ 64)
theorem CMul.ok{i j:Int}(h:CMul i j):IntMulOk i j:=by
 rcases h with ⟨h1,h2⟩|⟨h1,h2⟩
 ·exact .of_left (intBits_le_64 h1 h2)
 ·exact .of_right (intBits_le_64 h1 h2)
theorem op_add:OpR X (binaryOp .Add) (rI0 fun i j=>.int (i+j)):=opI0 fun _ _ _ _ _ _ _ q=>add_int q
theorem zi9:OpR X (binaryOp .Sub) (rI0 fun i j=>.int (i-j)):=opI0 fun _ _ _ _ _ _ _ q=>sub_int q
theorem op_mul:OpR X (binaryOp .Mult) (rI CMul fun i j=>.int (i*j)):=opI fun _ _ _ _ _ _ _ hc q=>mul_int q hc.ok
theorem LB:OpR X (binaryOp .FloorDiv) (rI CDiv fun i j=>.int (i / j)):=opI fun i j _ _ _ _ _ hc q=>by
 have h1:(0:Int)<j:=hc.1
 have h2:j<1073741824:=hc.2
 exact floordiv_int (by lia) (by rw[Int.fdiv_eq_ediv_of_nonneg i (by lia)];exact q) (.inl (PyProof.noPylong_small (by lia)))
theorem zj1:OpR X (binaryOp .Mod) (rI (fun _ j=>0<j) fun i j=>.int (i%j)):=opI fun i j _ _ _ _ _ hc q=>by
 have h1:(0:Int)<j:=hc
 exact mod_int' (by lia) (by rw[Int.fmod_eq_emod_of_nonneg i (by lia)];exact q)
theorem unI{f:Value→Sem Value}{g:Int→Int}
  (rule:∀(i:Int) (t:Tok) (s:Shared) (Q:Value→Shared→Prop) (E:Value→Shared→Prop),Q (.int (g i) s.toks) { s with toks:=s.toks+1 }→wpAny (model X.prog X.w) X.A (f (.int i t)) Q E s) :
  UnR X f (rU fun i=>.int (g i)):=by
 intro pins s σ H x v Q I rx h
 obtain⟨i,rfl,q⟩:=h
 obtain⟨t,rfl⟩:=rx
 exact rule i t s _ _ ⟨.int (g i),H,I.tok _,⟨_,rfl⟩,q⟩
theorem zf2:UnR X (unaryOp .USub) (rU fun i=>.int (-i)):=unI fun _ _ _ _ _ q=>neg_int q
end
noncomputable def scal:V→V→Bool
 |.non,.non=>true | .non,.int _=>true | .int _,.non=>true | .non,.bl _=>true | .bl _,.non=>true | .non,.str _=>true | .str _,.non=>true
 |.int _,.int _=>true | .bl _,.bl _=>true | .str _,.str _=>true | .byt _,.byt _=>true
 |.int _,.str _=>true | .str _,.int _=>true | .bl _,.str _=>true | .str _,.bl _=>true
 |_,_=>false
noncomputable def rEq:R2:=fun x y H Q=>scal x y=true∧Q (.bl (decide (x=y))) H
noncomputable def rNe:R2:=fun x y H Q=>scal x y=true∧Q (.bl (!decide (x=y))) H
theorem YF{i j:Int}:decide (V.int i=V.int j)=(i==j):=by
 rw[Bool.eq_iff_iff]
 simp
theorem Th{i j:Bool}:decide (V.bl i=V.bl j)=(i==j):=by
 rw[Bool.eq_iff_iff]
 simp
theorem YE{i j:Str}:decide (V.str i=V.str j)=(i==j):=by
 rw[Bool.eq_iff_iff]
 simp
theorem Qo{i j:Array UInt8}:decide (V.byt i=V.byt j)=(i.toList==j.toList):=by
 rw[Bool.eq_iff_iff]
 cases i
 cases j
 simp
section
variable{X:Cx}{a b c:Expr}{ta tb tc:TE}{pos:Pos}
theorem yn{pins:List (Addr×Obj)}{σ:St}{H:Hp}{s:Shared}{Q:VK}{k k':Bool}(I:Inv X pins σ H s)(q:Q (.bl k) H)(e:k=k'):EP X pins σ Q (.bool k') s:=by
 subst e
 exact Y22 (.bl k) H I rfl q
theorem op_eq:OpR X (compareOp .Eq) rEq:=by
 intro pins s σ H x y v u Q I rx ry h
 obtain⟨hs,q⟩:=h
 cases x with
 |non=>
  cases rx
  cases y with
  |non=>cases ry;exact PySem.EqNone.eq_none_none (yn I q (by simp))
  |bl j=>cases ry;exact PySem.EqNone.eq_none_bool (yn I q (by simp))
  |int j=>obtain⟨t',rfl⟩:=ry;exact PySem.EqNone.eq_none_int (yn I q (by simp))
  |str j=>obtain⟨t',rfl⟩:=ry;exact PySem.EqNone.eq_none_str (yn I q (by simp))
  |_=>exact absurd (show false=true from hs) Bool.false_ne_true
 |bl i=>
  cases rx
  cases y with
  |non=>cases ry;exact PySem.EqNone.eq_bool_none (yn I q (by simp))
  |bl j=>cases ry;exact eq_bool (yn I q Th)
  |str j=>obtain⟨t',rfl⟩:=ry;exact PySem.EqMixed.eq_bool_str (yn I q (by simp))
  |_=>exact absurd (show false=true from hs) Bool.false_ne_true
 |int i=>
  obtain⟨t,rfl⟩:=rx
  cases y with
  |non=>cases ry;exact PySem.EqNone.eq_int_none (yn I q (by simp))
  |int j=>obtain⟨t',rfl⟩:=ry;exact eq_int (yn I q YF)
  |str j=>obtain⟨t',rfl⟩:=ry;exact PySem.EqMixed.eq_int_str (yn I q (by simp))
  |_=>exact absurd (show false=true from hs) Bool.false_ne_true
 |str i=>
  obtain⟨t,rfl⟩:=rx
  cases y with
  |non=>cases ry;exact PySem.EqNone.eq_str_none (yn I q (by simp))
  |bl j=>cases ry;exact PySem.EqMixed.eq_str_bool (yn I q (by simp))
  |int j=>obtain⟨t',rfl⟩:=ry;exact PySem.EqMixed.eq_str_int (yn I q (by simp))
  |str j=>obtain⟨t',rfl⟩:=ry;exact eq_str (yn I q YE)
  |_=>exact absurd (show false=true from hs) Bool.false_ne_true
 |byt i=>
  obtain⟨t,rfl⟩:=rx
  cases y with
  |byt j=>obtain⟨t',rfl⟩:=ry;exact PySem.W.eq_bytes (yn I q Qo)
  |_=>exact absurd (show false=true from hs) Bool.false_ne_true
 |_=>cases y <;> exact absurd (show false=true from hs) Bool.false_ne_true
theorem op_ne:OpR X (compareOp .NotEq) rNe:=by
 intro pins s σ H x y v u Q I rx ry h
 obtain⟨hs,q⟩:=h
 cases x with
 |non=>
  cases rx
  cases y with
  |non=>cases ry;exact PySem.EqNone.ne_none_none (yn I q (by simp))
  |bl j=>cases ry;exact PySem.EqNone.ne_none_bool (yn I q (by simp))
  |int j=>obtain⟨t',rfl⟩:=ry;exact PySem.EqNone.ne_none_int (yn I q (by simp))
  |str j=>obtain⟨t',rfl⟩:=ry;exact PySem.EqNone.ne_none_str (yn I q (by simp))
  |_=>exact absurd (show false=true from hs) Bool.false_ne_true
 |bl i=>
  cases rx
  cases y with
  |non=>cases ry;exact PySem.EqNone.ne_bool_none (yn I q (by simp))
  |bl j=>cases ry;exact ne_bool (yn I q (congrArg not Th))
  |str j=>obtain⟨t',rfl⟩:=ry;exact PySem.EqMixed.ne_bool_str (yn I q (by simp))
  |_=>exact absurd (show false=true from hs) Bool.false_ne_true
 |int i=>
  obtain⟨t,rfl⟩:=rx
  cases y with
  |non=>cases ry;exact PySem.EqNone.ne_int_none (yn I q (by simp))
  |int j=>obtain⟨t',rfl⟩:=ry;exact ne_int (yn I q (congrArg not YF))
  |str j=>obtain⟨t',rfl⟩:=ry;exact PySem.EqMixed.ne_int_str (yn I q (by simp))
  |_=>exact absurd (show false=true from hs) Bool.false_ne_true
 |str i=>
  obtain⟨t,rfl⟩:=rx
  cases y with
  |non=>cases ry;exact PySem.EqNone.ne_str_none (yn I q (by simp))
  |bl j=>cases ry;exact PySem.EqMixed.ne_str_bool (yn I q (by simp))
  |int j=>obtain⟨t',rfl⟩:=ry;exact PySem.EqMixed.ne_str_int (yn I q (by simp))
  |str j=>obtain⟨t',rfl⟩:=ry;exact ne_str (yn I q (congrArg not YE))
  |_=>exact absurd (show false=true from hs) Bool.false_ne_true
 |byt i=>
  obtain⟨t,rfl⟩:=rx
  cases y with
  |byt j=>obtain⟨t',rfl⟩:=ry;exact PySem.W.ne_bytes (yn I q (congrArg not Qo))
  |_=>exact absurd (show false=true from hs) Bool.false_ne_true
 |_=>cases y <;> exact absurd (show false=true from hs) Bool.false_ne_true
theorem op_lt:OpR X (compareOp .Lt) (rI0 fun i j=>.bl (decide (i<j))):=LC fun _ _ _ _ _ _ _ q=>lt_int q
theorem op_le:OpR X (compareOp .LtE) (rI0 fun i j=>.bl (decide (i≤j))):=LC fun _ _ _ _ _ _ _ q=>le_int q
theorem op_gt:OpR X (compareOp .Gt) (rI0 fun i j=>.bl (decide (j<i))):=LC fun _ _ _ _ _ _ _ q=>gt_int q
theorem op_ge:OpR X (compareOp .GtE) (rI0 fun i j=>.bl (decide (j≤i))):=LC fun _ _ _ _ _ _ _ q=>ge_int q
theorem op_in_str:OpR X (compareOp .In) (fun x y H Q=>∃i j,x=.str i∧y=.str j∧Q (.bl (!(Builtin.Str.occurrences j i 0 j.length 1).isEmpty)) H):=by
 intro pins s σ H x y v u Q I rx ry h
 obtain⟨i,j,rfl,rfl,q⟩:=h
 obtain⟨t,rfl⟩:=rx
 obtain⟨t',rfl⟩:=ry
 exact in_str (yn I q rfl)
theorem zj2:OpR X (compareOp .Is) (fun x y H Q=>y=.non∧Q (.bl (decide (x=.non))) H):=by
 intro pins s σ H x y v u Q I rx ry h
 obtain⟨rfl,q⟩:=h
 cases ry
 refine is_none_gen (yn I q ?_)
 cases x <;> first
  | (cases rx;rfl)
  | (obtain⟨t,rfl⟩:=rx;rfl)
theorem LA:OpR X (compareOp .IsNot) (fun x y H Q=>y=.non∧Q (.bl (!decide (x=.non))) H):=by
 intro pins s σ H x y v u Q I rx ry h
 obtain⟨rfl,q⟩:=h
 cases ry
 refine isnot_none_gen (yn I q ?_)
 cases x <;> first
  | (cases rx;rfl)
  | (obtain⟨t,rfl⟩:=rx;rfl)
noncomputable def isObj:HO→Bool
 |.lst _=>true
 |.ins _ _ _=>true
 |_=>false
theorem obj_there{pins:List (Addr×Obj)}{s:Shared}{σ:St}{H:Hp}{a:Addr}{o:HO}(I:Inv X pins σ H s)(h:H a=some o)(p:isObj o=true):∃ob,s.heap.get? a=some ob∧ob.cls≠.type "tuple" := by
 cases o with
 |lst xs=>
  obtain⟨_,its,n,_,e⟩:xs.length≤sizeLine∧∃(its:List Value) (n:Nat),Vals xs its∧s.heap.get? a=some { cls:=.type "list", data:=.seq its.toArray n }:=I.hok a _ h
  exact Y11 _ e (by show Value.type "list" ≠ .type "tuple"; decide +kernel)
 |ins C dx fs=>
  have x:=I.hok a _ h
  refine X04 x fun _ _ _ e _=>?_
  exact Y11 _ e (by show Value.ref C≠.type "tuple"; exact fun z=>by nomatch z)
 |_=>exact absurd (show false=true from p) Bool.false_ne_true
theorem OpR.or{f:Value→Value→Sem Value}{r r':R2}(h:OpR X f r)(h':OpR X f r'):OpR X f (fun x y H Q=>r x y H Q∨r' x y H Q):=by
 intro pins s σ H x y v u Q I rx ry q
 rcases q with q|q
 ·exact h pins s σ H x y v u Q I rx ry q
 ·exact h' pins s σ H x y v u Q I rx ry q
theorem z7(b:Expr){op:CmpOp}(h:op≠.In:=by decide)(h2:op≠.NotIn:=by decide):behindInMarks op b=false:=by
 have e1:(op==CmpOp.In)=false:=by cases op <;> first|rfl|exact absurd rfl h
 have e2:(op==CmpOp.NotIn)=false:=by cases op <;> first|rfl|exact absurd rfl h2
 cases b <;> simp[behindInMarks,e1,e2]
theorem JJ{op:CmpOp}{r:R2}(ho:OpR X (compareOp op) r)(ha:PE X a ta)(hb:PE X b tb)(hm:behindInMarks op b=false):PE X (.Compare a [op] [b] pos) (tOp r ta tb):=by
 intro pins s σ H Q I h
 exact wpAny_Compare1 (zn3 ha hb I h fun v u s2 x y H2 I2 rx ry q=>ho pins s2 σ H2 x y v u Q I2 rx ry q) hm
noncomputable def GC(t:TE):TT:=fun σ H Q=>t σ H fun x H'=>∃k,x=.bl k∧Q k H'
theorem JE{op:CmpOp}{r:R2}(ho:OpR X (compareOp op) r)(ha:PE X a ta)(hb:PE X b tb)(hm:behindInMarks op b=false):PT X (.Compare a [op] [b] pos) (GC (tOp r ta tb)):=by
 intro pins s σ H Q I h
 refine wpAny_isTrue_Compare1 (thn (ha pins s σ H _ I h) fun v s1 ⟨x,H1,I1,r1,q1⟩=>thn (hb pins s1 σ H1 _ I1 q1) fun u s2 ⟨y,H2,I2,r2,q2⟩=>
  thn (ho pins s2 σ H2 x y v u _ I2 r1 r2 q2) fun c s3 ⟨z,H3,I3,r3,k,e,q3⟩=>?_) hm
 subst e
 cases r3
 exact wpAny_truthy_bool ⟨H3,I3,q3⟩
noncomputable def GD(r r':R2)(ta tb tc:TE):TE:=fun σ H Q=>ta σ H fun x H1=>tb σ H1 fun y H2=>r x y H2 fun z H3=>∃k,z=.bl k ∧
 (if k=true then tc σ H3 fun w' H4=>r' y w' H4 Q else Q (.bl false) H3)
theorem GZ{op op':CmpOp}{r r':R2}(ho:OpR X (compareOp op) r)(ho':OpR X (compareOp op') r')(ha:PE X a ta)(hb:PE X b tb)(hc:PE X c tc)
  (hm:lastMarks [op,op'] [b,c]=false:=by with_unfolding_all rfl):PT X (.Compare a [op,op'] [b,c] pos) (GC (GD r r' ta tb tc)):=by
 intro pins s σ H Q I h
 refine isTrue_chain (thn (ha pins s σ H _ I h) fun v s1 ⟨x,H1,I1,r1,q1⟩=>test_link (thn (hb pins s1 σ H1 _ I1 q1) fun u s2 ⟨y,H2,I2,r2,q2⟩=>
  thn (ho pins s2 σ H2 x y v u _ I2 r1 r2 q2) fun d s3 ⟨z,H3,I3,r3,k,e,q3⟩=>?_)) hm
 subst e
 cases r3
 refine wpAny_truthy_bool ?_
 rcases k with _|_
 ·refine X11 q3 fun k' e' q'=>?_
  replace e':=L2.V.bl.inj e';subst e'
  exact ite_ff ⟨H3,I3,q'⟩
 ·refine ite_tt (test_last (thn (hc pins s3 σ H3 _ I3 q3) fun w' s4 ⟨z',H4,I4,r4,q4⟩=>thn (ho' pins s4 σ H4 y z' u w' _ I4 r2 r4 q4) fun d' s5 z_=>?_))
  refine X22 z_ fun z2 H5 I5 r5 r84_=>?_;refine X11 r84_ fun k2 e2 q5=>?_
  subst e2
  cases r5
  exact wpAny_truthy_bool ⟨H5,I5,q5⟩
noncomputable def zn7(K:Frag)(x:V)(H:Hp)(k:Bool):Prop:=
 match x with
 |.non=>k=false
 |.bl b=>k=b
 |.int i=>k=(i != 0)
 |.str y=>y.length≤sizeLine∧k=((y.length:Int) != 0)
 |.byt y=>y.size≤sizeLine∧k=((y.size:Int) != 0)
 |.ref p=>(∃xs,SqL K H p xs∧k = !xs.isEmpty)∨(∃xs,SqT K H p xs∧k = !xs.isEmpty)∨∃kvs,H p=some (.dK kvs)∧k = !kvs.isEmpty
 |_=>False
theorem U8{κ:Type}{kvs:List (κ×V)}{vs:List (κ×Value)}(r:KV kvs vs):(!vs.isEmpty) = !kvs.isEmpty:=by
 cases r <;> rfl
theorem Xp{xs:List V}{its:List Value}(r:Vals xs its):(!its.toArray.isEmpty) = !xs.isEmpty:=by
 cases r <;> simp
theorem jZ:(sizeLine:Nat)<2 ^ 63:=by rw[sizeLine_eq];decide
theorem tru_ok:TruR X (fun x H Q=>∃k,zn7 X.K x H k∧Q k H):=by
 intro pins s σ H x v Q I rx h
 refine X11 h fun k e q=>?_
 have hl:=jZ
 have hs:sizeLine=16777216:=sizeLine_eq
 cases x with
 |non=>
  cases rx
  have e':k=false:=e
  subst e'
  exact truthy_none ⟨H,I,q⟩
 |bl b=>
  cases rx
  have e':k=b:=e
  subst e'
  exact wpAny_truthy_bool ⟨H,I,q⟩
 |int i=>
  obtain⟨t,rfl⟩:=rx
  have e':k=(i != 0):=e
  subst e'
  exact PySem.P.truthy_int ⟨H,I,q⟩
 |str y=>
  obtain⟨t,rfl⟩:=rx
  obtain⟨hy,e'⟩:y.length≤sizeLine∧k=((y.length:Int) != 0):=e
  subst e'
  exact PySem.P.truthy_str (by lia) ⟨H,I.tok _,q⟩
 |byt y=>
  obtain⟨t,rfl⟩:=rx
  obtain⟨hy,e'⟩:y.size≤sizeLine∧k=((y.size:Int) != 0):=e
  subst e'
  exact PySem.W.truthy_bytes (by lia) ⟨H,I.tok _,q⟩
 |ref p=>
  cases rx
  have e':(∃xs,SqL X.K H p xs∧k = !xs.isEmpty)∨(∃xs,SqT X.K H p xs∧k = !xs.isEmpty)∨∃kvs,H p=some (.dK kvs)∧k = !kvs.isEmpty:=e
  rcases e' with ⟨xs,hx,e'⟩|⟨xs,hx,e'⟩|⟨kvs,hx,e'⟩
  ·subst e'
   refine X12 (I.list hx) fun its r pl hz=>?_
   have hlen:=r.length
   exact wpAny_truthy_list pl.isList (by simp only[size_toArray];lia) ⟨H,I.tok _,by rw[Xp r];exact q⟩
  ·subst e'
   refine X12 (I.tuple hx) fun its r pl hz=>?_
   have hlen:=r.length
   exact truthy_tuple pl (by simp only[size_toArray];lia) ⟨H,I.tok _,by rw[Xp r];exact q⟩
  ·subst e'
   obtain⟨hz,hS,vs,r,m⟩:kvs.length≤sizeLine∧(p==sysModules)=false∧∃vs,KV kvs vs∧s.heap.DictOf (Vd X.prog X.w) p vs:=I.hok p _ hx
   have hlen:kvs.length=vs.length:=Paired.length r
   exact wpAny_truthy_dict hS m (by lia) ⟨H,I.tok _,by rw[U8 r];exact q⟩
 |_=>exact(show False from e).elim
theorem GY(ha:PE X a ta)(he:∀whole,isTrue a X.env whole=(do let v ← whole;standAt a.pos;holding [v] (truthy v))) :
  PT X a (fun σ H Q=>ta σ H fun x H'=>∃k,zn7 X.K x H' k∧Q k H'):=by
 intro pins s σ H Q I h
 exact isTrue_plain (thn (ha pins s σ H _ I h) fun v s1 ⟨x,H1,I1,r1,q1⟩=>tru_ok pins s1 σ H1 x v Q I1 r1 q1) (he _)
theorem op_add_str:OpR X (binaryOp .Add) (fun x y H Q=>∃i j,x=.str i∧y=.str j∧i.length+j.length≤sizeLine∧Q (.str (i++j)) H):=by
 intro pins s σ H x y v u Q I rx ry h
 obtain⟨i,j,rfl,rfl,hz,q⟩:=h
 obtain⟨t,rfl⟩:=rx
 obtain⟨t',rfl⟩:=ry
 exact add_str (fun t' tk=>Y22 (.str (i++j)) H (I.tok _) ⟨_,rfl⟩ q) hz
theorem vals1{x:V}{us:List Value}(r:Vals [x] us):∃u,us=[u]∧RelV x u:=by
 cases r with
 |cons r1 r2=>cases r2;exact Y11 _ rfl r1
theorem vals2{x y:V}{us:List Value}(r:Vals [x,y] us):∃u w',us=[u,w']∧RelV x u∧RelV y w':=by
 cases r with
 |cons r1 r2=>
  cases r2 with
  |cons r3 r4=>cases r4;exact Y22 _ _ rfl r1 r3
theorem Gk(hc:X.calm=true):CallR X (.builtin "max") (fun xs H Q=>∃i j,xs=[.int i,.int j]∧Q (.int (if j > i then j else i)) H):=by
 intro pins s σ H xs us Q I r h
 obtain⟨i,j,rfl,q⟩:=h
 obtain⟨u,w',rfl,⟨t,rfl⟩,⟨t',rfl⟩⟩:=vals2 r
 refine max_two_ints (I.ok.hd hc) fun h' tk k=>⟨_,H,I.kept k,?_,q⟩
 by_cases hj:j > i
 ·rw[if_pos hj,if_pos hj];exact⟨_,rfl⟩
 ·rw[if_neg hj,if_neg hj];exact⟨_,rfl⟩
theorem Gj(hc:X.calm=true):CallR X (.builtin "min") (fun xs H Q=>∃i j,xs=[.int i,.int j]∧Q (.int (if j<i then j else i)) H):=by
 intro pins s σ H xs us Q I r h
 obtain⟨i,j,rfl,q⟩:=h
 obtain⟨u,w',rfl,⟨t,rfl⟩,⟨t',rfl⟩⟩:=vals2 r
 refine min_two_ints (I.ok.hd hc) fun h' tk k=>⟨_,H,I.kept k,?_,q⟩
 by_cases hj:j<i
 ·rw[if_pos hj,if_pos hj];exact⟨_,rfl⟩
 ·rw[if_neg hj,if_neg hj];exact⟨_,rfl⟩
end
structure ObjM(h:Heap)(x dx C:Addr)(mA:Str→Option Value):Prop where
 obj:h.get? x=some (instObj C dx)
 ns:h.Ns1 dx mA
 ne:dx≠x
theorem Q2{h:Heap}{dx:Addr}{mA:Str→Option Value}(n:h.Ns1 dx mA):∃od,h.get? dx=some od∧∀name,lookIn name od=some (mA name):=by
 refine X34 n fun o es ep ho hd hk _ hm=>?_
 refine Y11 o ho (fun name=>?_)
 have e:=hm name
 unfold nsFind findBy at e
 rw[← Array.find?_toList] at e
 unfold lookIn
 rw[hd]
 dsimp only
 split
 ·rename_i y q
  rw[q] at e
  exact congrArg some e
 ·rename_i q
  rw[q] at e
  have a:es.toList.any (·.refKey)=false:=by
   rw[List.any_eq_false]
   intro y hy
   refine X20 (hk y (Array.mem_toList_iff.mp hy)) fun z t hkey=>?_
   simp[DictEntry.refKey,hkey]
  have a':¬ es.toList.any (·.refKey)=true:=by rw[a];exact Bool.false_ne_true
  rw[if_neg a']
  exact congrArg some e
theorem ObjM.look{h:Heap}{x dx C:Addr}{mA:Str→Option Value}(I:ObjM h x dx C mA):∃od,PySem.W.InstAt h x (instObj C dx) C (some od)∧∀name,lookIn name od=some (mA name):=
 let ⟨od,ho,hl⟩:=Q2 I.ns
 ⟨od,⟨I.obj,rfl,rfl,ho⟩,hl⟩
section
variable{prog:Program}{w:World}{A:Around}{E:Value→Shared→Prop}{s:Shared}{K:Frag}{x dx C f:Addr}{mA:Str→Option Value}{name:Str}{v:Value}
theorem za2{expr:Bool}{Q:Value→Shared→Prop}(X:K.In s.heap)(I:ObjM s.heap x dx C mA)(hg:plainGet K C name=true)(hh:hasDictIn K C=true)
  (ha:findIn K (.ref C) name=some none) (hv:mA name=some v) (hv':PySem.W.handedIn v=true) (h:Q v { s with toks:=s.toks+1 }) :
  wpAny (model prog w) A (getAttr (.ref x) name expr) Q E s:=by
 refine X11 I.look fun od J hl=>?_
 exact PySem.W.get_value X J (plainGet_of hg).1 (PySem.W.findObj_own hh ha rfl (by rw[hl,hv])) hv' h
theorem MZ{pl:Sem Bool}{Q:Value×List Value→Shared→Prop}(X:K.In s.heap)(I:ObjM s.heap x dx C mA)(hg:plainGet K C name=true)
  (hf:findIn K (.ref C) name=some (some (.ref f))) (ht:isFn K (.ref f)=true) (hv:mA name=none) (h:Q (.ref f,[.ref x]) s) :
  wpAny (model prog w) A (getMethod (.ref x) name pl) Q E s:=by
 refine X11 I.look fun od J hl=>?_
 exact PySem.W.method_fn X J (plainGet_of hg).1 (plainGet_of hg).2 hf (beq_iff_eq.mp ht) (by show(lookIn name od).map (·.isSome)=some false;rw[hl,hv];rfl) h
theorem T2{ns:List Str}{Q:Unit→Shared→Prop}(X:K.In s.heap)(I:ObjM s.heap x dx C mA)
  (hs:findIn K (.ref C) "__setattr__" = some (some (.builtin "object.__setattr__"))) (hp:plainOver K C=true) (ht:takerIn K C name=some none) (hh:hasDictIn K C=true)
  (hw:PySem.Within mA ns) (hsz:ns.length≤sizeLine)
  (h:∀h',ObjM h' x dx C (fun y=>if y=name then some v else mA y)→Heap.SameBut dx s.heap h'→Q () { s with heap:=h',toks:=s.toks+2 }) :
  wpAny (model prog w) A (setAttr (.ref x) name v) Q E s:=by
 refine X11 I.look fun od J hl=>?_
 refine PySem.W.set_plain X J hs (PySem.W.osa_open (s:={ s with toks:=s.toks+1 }) (r:=none) X J hp ht fun b=>?_)
 refine X11 (PySem.W.any_some hh) fun cd hc hd'=>?_
 have hx:s.heap.get? x=some ⟨.ref C,some dx,.plain,#[]⟩:=I.obj
 refine wpAny_bind (wpAny_pure (wpAny_bind (wpAny_bind (wpAny_loadPart hx (wpAny_bind (PySem.W.Looks.here (s:={ s with toks:=s.toks+1 }) (PySem.W.looks_clsIn X hc) ?_))))))
 rw[hd']
 refine wpAny_pure (a:=some dx) (wpAny_bind (wpAny_pure (wpAny_bind ?_)))
 refine wpAny_nsSet1 (s:={ s with toks:=s.toks+1 }) I.ns fun h' hn2 hs2=>?_
 refine X32 (hn2.count (PySem.Within.cons name v hw)) fun oD esD epD hoD hdD hcD=>?_
 refine wpAny_bind (wpAny_lookBehind hoD (by rw[hdD];exact pastItsLine_dict (le_trans hcD (by rw[length_cons];lia))) ?_)
 exact wpAny_pure (h _ ⟨(hs2.2 _ (Ne.symm I.ne)).trans I.obj,hn2,I.ne⟩ hs2)
theorem MF{R:Result→Shared→Prop}{vs:List Value}{kw:List (Str×Value)}(X:K.In s.heap)(hm:makesIn K C=true)
  (hi:findIn K (.ref C) "__init__" = some (some (.ref f))) (hf:typeIn K (.ref f)=some (.type "function"))
  (h:codeAny (model prog w) (A.under (.builtin "type.__call__" ⟨.ref C::vs,kw⟩)) (.call (.ref f) ⟨.ref (s.heap.objs.size+1)::vs,kw⟩) (PySem.W.InitBack (s.heap.objs.size+1) R)
   { s with heap:=(s.heap.push emptyDict).push (instObj C s.heap.objs.size) }) :
  codeAny (model prog w) A (.call (.ref C) ⟨vs,kw⟩) R s:=by
 obtain⟨hh,g,d,t,os⟩:=s
 exact PySem.W.make_core (PySem.W.makes_of X hm) (looks_findIn X hi) (fun self=>PySem.W.bind_fn X self hf) (.inl rfl) h
end
noncomputable def vn(f:Str)(v:V):List (Str×V)→List (Str×V)
 |[]=>[(f,v)]
 | (g,x)::r=>if g=f then (g,v)::r else (g,x)::vn f v r
theorem Yc(f g:Str)(v:V):∀fs:List (Str×V),(vn f v fs).lookup g=if g=f then some v else fs.lookup g:=by
 intro l_
 induction l_ with
 |nil=>
  show List.lookup g [(f,v)]=_
  by_cases h:g=f
  ·have hb:(g==f)=true:=beq_iff_eq.mpr h
   simp only[List.lookup,hb,if_pos h]
  ·have hb:(g==f)=false:=beq_eq_false_iff_ne.mpr h
   simp only[List.lookup,hb,if_neg h]
 |cons p_ r ih_=>
  obtain⟨k,x⟩:=p_
  have ih:=ih_
  rw[show vn f v ((k,x)::r)=(if k=f then (k,v)::r else (k,x)::vn f v r) from rfl]
  by_cases hk:k=f
  ·rw[if_pos hk]
   by_cases h:g=k
   ·have hb:(g==k)=true:=beq_iff_eq.mpr h
    simp only[List.lookup,hb,if_pos (h.trans hk)]
   ·have hb:(g==k)=false:=beq_eq_false_iff_ne.mpr h
    simp only[List.lookup,hb,if_neg (fun e:g=f=>h (e.trans hk.symm))]
  ·rw[if_neg hk]
   by_cases h:g=k
   ·have hb:(g==k)=true:=beq_iff_eq.mpr h
    simp only[List.lookup,hb,if_neg (fun e:g=f=>hk (h.symm.trans e))]
   ·have hb:(g==k)=false:=beq_eq_false_iff_ne.mpr h
    simp only[List.lookup,hb]
    exact ih
theorem ZW(f:Str)(v:V):∀fs:List (Str×V),f∈(vn f v fs).map (·.1)∧∀g,g∈fs.map (·.1)→g∈(vn f v fs).map (·.1):=by
 intro l_
 induction l_ with
 |nil=>
  exact⟨by simp[vn],fun g h=>by simp at h⟩
 |cons p_ r ih_=>
  obtain⟨k,x⟩:=p_
  obtain⟨i1,i2⟩:=ih_
  rw[show vn f v ((k,x)::r)=(if k=f then (k,v)::r else (k,x)::vn f v r) from rfl]
  by_cases hk:k=f
  ·rw[if_pos hk]
   subst hk
   exact⟨by simp,fun g h=>by simpa using h⟩
  ·rw[if_neg hk]
   refine⟨?_,fun g h=>?_⟩
   ·rw[map_cons]
    exact mem_cons_of_mem _ i1
   ·rw[map_cons] at h ⊢
    rcases mem_cons.mp h with e|e
    ·exact mem_cons.mpr (.inl e)
    ·exact mem_cons_of_mem _ (i2 g e)
theorem Yd(f:Str)(v:V):∀fs:List (Str×V),(vn f v fs).length≤fs.length+1:=by
 intro l_
 induction l_ with
 |nil=>
  simp[vn]
 |cons p_ r ih_=>
  obtain⟨k,x⟩:=p_
  have ih:=ih_
  rw[show vn f v ((k,x)::r)=(if k=f then (k,v)::r else (k,x)::vn f v r) from rfl]
  by_cases hk:k=f
  ·rw[if_pos hk,length_cons,length_cons];lia
  ·rw[if_neg hk,length_cons,length_cons];lia
theorem RelO.some_of{v:V}{o:Option Value}(r:RelO (some v) o):∃u,o=some u∧RelV v u:=by
 rcases o with _|u
 ·exact(show False from r).elim
 ·exact Y11 u rfl r
theorem RelO.none_of{o:Option Value}(r:RelO none o):o=none:=by
 rcases o with _|u
 ·rfl
 ·exact(show False from r).elim
theorem Gb{v:V}{u:Value}(r:RelV v u):PySem.W.handedIn u=true:=by
 cases v with
 |non=>cases (show u=Value.none from r);rfl
 |bl b=>cases (show u=Value.bool b from r);rfl
 |int i=>obtain⟨t,e⟩:=(show ∃t,u=Value.int i t from r);replace e:=e.symm;subst e;rfl
 |str x=>obtain⟨t,e⟩:=(show ∃t,u=Value.str x t from r);replace e:=e.symm;subst e;rfl
 |byt b=>obtain⟨t,e⟩:=(show ∃t,u=Value.bytes b t from r);replace e:=e.symm;subst e;rfl
 |flt b=>obtain⟨t,e⟩:=(show ∃t,u=Value.float b t from r);replace e:=e.symm;subst e;rfl
 |ref a=>cases (show u=Value.ref a from r);rfl
 |ty n=>cases (show u=Value.type n from r);rfl
section
variable{P:Program}{w:World}{H H':Hp}{h h':Heap}{a C dx:Addr}{fs fs':List (Str×V)}
theorem Vg(hok:HOk P w H h)(e:H a=some (.ins C dx fs)):∃mA,ObjM h a dx C mA∧(∀f,RelO (fs.lookup f) (mA f))∧PySem.Within mA (fs.map (·.1))∧fs.length≤1000∧H dx=some (.own a):=by
 refine X04 ((show ObjOk P w H h a (.ins C dx fs) from hok a _ e)) fun d z ne ob r83_=>?_;refine X12 r83_ fun mA n r q=>?_
 exact Y14 mA ⟨ob,n,ne⟩ r q z d
end
structure Cls(K:Frag)(C:Addr):Prop where
 pg:plainGet K C Str.empty=true
 hd:hasDictIn K C=true
 po:plainOver K C=true
 sa:findIn K (.ref C) "__setattr__" = some (some (.builtin "object.__setattr__"))
theorem Cls.get{K:Frag}{C:Addr}(c:Cls K C)(f:Str):plainGet K C f=true:=c.pg
noncomputable def NoAttr(K:Frag)(C:Addr)(f:Str):Prop:=findIn K (.ref C) f=some none
theorem NoAttr.taker{K:Frag}{C:Addr}{f:Str}(n:NoAttr K C f):takerIn K C f=some none:=by
 unfold takerIn
 rw[show findIn K (.ref C) f=some none from n]
 rfl
structure jk(K:Frag)(C:Addr)(m:Str)(f:Addr):Prop where
 at_:findIn K (.ref C) m=some (some (.ref f))
 fn:isFn K (.ref f)=true
 kp:keepIn K (.ref f)=true
section
variable{X:Cx}{pins:List (Addr×Obj)}{σ:St}{H:Hp}{s:Shared}{a C dx:Addr}{fs:List (Str×V)}{f:Str}{v:V}{A:Around}{E:Value→Shared→Prop}
theorem Jc{b:Bool}{Q:Value→Shared→Prop}(I:Inv X pins σ H s)(e:H a=some (.ins C dx fs))(c:Cls X.K C)(n:NoAttr X.K C f)(l:fs.lookup f=some v)
  (h:∀u s',Inv X pins σ H s'→RelV v u→Q u s'):wpAny (model X.prog X.w) A (getAttr (.ref a) f b) Q E s:=by
 refine X14 (Vg I.hok e) fun mA O r _ _ _=>?_
 refine X11 (RelO.some_of (v:=v) (o:=mA f) (by rw[← l];exact r f)) fun u hu ru=>?_
 exact za2 I.kIn O (c.get f) c.hd n hu (Gb ru) (h u _ (I.tok _) ru)
theorem j0{m:Str}{g:Addr}{pl:Sem Bool}{Q:Value×List Value→Shared→Prop}(I:Inv X pins σ H s)(e:H a=some (.ins C dx fs))(c:Cls X.K C)(k:jk X.K C m g)(l:fs.lookup m=none)
  (h:Q (.ref g,[.ref a]) s):wpAny (model X.prog X.w) A (getMethod (.ref a) m pl) Q E s:=by
 refine X14 (Vg I.hok e) fun mA O r _ _ _=>?_
 have hn:mA m=none:=RelO.none_of (by rw[← l];exact r m)
 exact MZ I.kIn O (c.get m) k.at_ k.fn hn h
theorem UQ{y:V}{u:Value}{Q:Unit→Shared→Prop}(I:Inv X pins σ H s)(e:H a=some (.ins C dx fs))(c:Cls X.K C)(n:NoAttr X.K C f)(hl:fs.length<1000)(ry:RelV y u)
  (h:∀s',Inv X pins σ (upd H a (.ins C dx (vn f y fs))) s'→Q () s'):wpAny (model X.prog X.w) A (setAttr (.ref a) f u) Q E s:=by
 refine X14 (Vg I.hok e) fun mA O r wi _ ho=>?_
 have hz:(fs.map (·.1)).length≤sizeLine:=by rw[length_map,sizeLine_eq];lia
 refine T2 I.kIn O c.sa c.po n.taker c.hd wi hz fun h' O' sb=>h _ ?_
 have hd:∃o,h'.get? dx=some o:=let ⟨o,_,_,e',_⟩:=O'.ns;⟨o,e'⟩
 refine I.write (x:=a) (e:=dx) (by rw[e];exact True.intro) (.inr ho) (fun b q hb z=>(sb.2 b hb).trans z) hd ?_
 refine⟨by rw[zp O.ne];exact ho,?_,O.ne,O'.obj,_,O'.ns,fun g=>?_,fun g hg=>?_⟩
 ·have:=Yd f y fs;lia
 ·show RelO ((vn f y fs).lookup g) (if g=f then some u else mA g)
  rw[Yc]
  by_cases q:g=f
  ·rw[if_pos q,if_pos q];exact ry
  ·rw[if_neg q,if_neg q];exact r g
 ·by_cases q:g=f
  ·rw[q];exact(ZW f y fs).1
  ·refine(ZW f y fs).2 g (wi g fun z=>hg ?_)
   show(if g=f then some u else mA g)=none
   rw[if_neg q];exact z
theorem Inv.made(I:Inv X pins σ H s):Inv X pins σ (upd (upd H s.heap.objs.size (.own (s.heap.objs.size+1))) (s.heap.objs.size+1) (.ins C s.heap.objs.size []))
  { s with heap:=(s.heap.push emptyDict).push (instObj C s.heap.objs.size) }:=by
 have e1:(s.heap.push emptyDict).get? s.heap.objs.size=some emptyDict:=Heap.get?_push_size s.heap rfl
 have e2:((s.heap.push emptyDict).push (instObj C s.heap.objs.size)).get? (s.heap.objs.size+1)=some (instObj C s.heap.objs.size):=by
  have:=Heap.get?_push_size (s.heap.push emptyDict) (o:=instObj C s.heap.objs.size) rfl
  rwa [Heap.size_push] at this
 have e3:(s.heap.push emptyDict).Ns s.heap.objs.size (fun _=>none):=Y33 emptyDict (#[]) _ e1 rfl (fun e he=>absurd he (by simp)) (fun _=>rfl)
 have I1:=I.laid (a:=s.heap.objs.size) (o:=.own (s.heap.objs.size+1)) (h':=s.heap.push emptyDict) (t':=s.toks) (fun b u q=>get?_push_of_some _ q) (le_refl _) ⟨_,e1⟩
 refine I1.laid (a:=s.heap.objs.size+1) (o:=.ins C s.heap.objs.size []) (t':=s.toks) (fun b u q=>get?_push_of_some _ q) (Nat.le_of_eq (Heap.size_push _ _)) ?_
 have ne:s.heap.objs.size≠s.heap.objs.size+1:=ne_of_lt (Nat.lt_succ_self _)
 refine⟨by rw[zp ne,zr],zero_le _,ne,e2,fun _=>none,(Heap.Ns1.of_empty e3).at fun o q=>get?_push_of_some _ q,fun _=>True.intro,fun y hy=>absurd rfl hy⟩
theorem zc2{prog:Program}{w:World}{env:Env}{e:Expr}{f:Str}{pos:Pos}{s:Shared}{Q:Value→Shared→Prop}(hb:attributeBase e f env (eval e env)=eval e env)
  (h:wpAny (model prog w) A (eval e env) (fun o s₁=>wpAny (model prog w) A (getAttr o f true) Q E s₁) E s):wpAny (model prog w) A (eval (.Attribute e f pos) env) Q E s:=
 Attribute_any_ h (by rw[arm_eval_Attribute,hb])
end
noncomputable def tFld(K:Frag)(ta:TE)(f:Str):TE:=fun σ H Q=>ta σ H fun x H1=>∃a C dx fs v,x=.ref a∧H1 a=some (.ins C dx fs)∧Cls K C∧NoAttr K C f∧fs.lookup f=some v∧Q v H1
noncomputable def sFld(K:Frag)(ta tv:TE)(f:Str):TS:=fun D σ H=>tv σ H fun y H1=>ta σ H1 fun x H2=>∃a C dx fs,x=.ref a∧H2 a=some (.ins C dx fs)∧Cls K C∧NoAttr K C f∧fs.length<1000 ∧
 D.nx σ (upd H2 a (.ins C dx (vn f y fs)))
section
variable{X:Cx}{o e value:Expr}{f:Str}{pos pos' tpos:Pos}{ta tv:TE}
theorem zh8(he:PE X e ta)(hb:attributeBase e f X.env (eval e X.env)=eval e X.env):PE X (.Attribute e f pos) (tFld X.K ta f):=by
 intro pins s σ H Q I h
 refine zc2 hb (thn (he pins s σ H _ I h) fun u s1 z_=>?_)
 refine X22 z_ fun x H1 I1 rx r82_=>?_;refine X55 r82_ fun a C dx fs v ex ea c n l q=>?_
 subst ex
 obtain rfl:u=Value.ref a:=rx
 exact Jc I1 ea c n l fun u' s2 I2 ru=>Y22 v H1 I2 ru q
theorem zg5(ha:PE X o ta)(hv:PE X value tv)(hs:swapsWith value (some (.Attribute o f pos')) pos.line X.env=pure false):PS X (.Assign [.Attribute o f pos'] value pos) (sFld X.K ta tv f):=by
 intro pins s σ H D I h
 refine plainObj_wpAny_Assign_Attribute (thn (hv pins s σ H _ I h) fun u s1 ⟨y,H1,I1,ry,q⟩=>thn (ha pins s1 σ H1 _ I1 q) fun ov s2 z_=>?_) hs
 refine X22 z_ fun x H2 I2 rx r81_=>?_;refine X45 r81_ fun a C dx fs ex ea c n l q2=>?_
 subst ex
 obtain rfl:ov=Value.ref a:=rx
 exact UQ I2 ea c n l ry fun s3 I3=>Y21 σ _ I3 q2
end
section
variable{X:Cx}{pins:List (Addr×Obj)}{σ:St}{H:Hp}{s:Shared}{A:Around}{E:Value→Shared→Prop}{Q:Value→Shared→Prop}{c:Value}{b:Bool}
end
structure Room(k:Nat)(A:Around):Prop where
 hd:A.handled=none
 dp:A.depth+3*k+5<recursionLimit
 un:A.units+16*k+200<cLine
theorem Room.mono{j k:Nat}{A:Around}(r:Room k A)(h:j≤k):Room j A:=⟨r.hd,by have:=r.dp;lia,by have:=r.un;lia⟩
theorem Room.deeper{k:Nat}{A:Around}(r:Room (k+1) A)(env:Env):Room k (A.deeper env):=
 ⟨r.hd,by have:=r.dp;show A.depth+1+3*k+5<_;lia,by have:=r.un;show A.units+3+16*k+200<_;lia⟩
theorem Room.in1{k:Nat}{A:Around}(r:Room (k+1) A):Room k A.in1:=
 ⟨r.hd,by have:=r.dp;show A.depth+3*k+5<_;lia,by have:=r.un;show A.units+1+16*k+200<_;lia⟩
theorem U6{A:Around}{C:Addr}{us:List Value}{kw:List (Str×Value)}:(A.under (.builtin "type.__call__" ⟨.ref C::us,kw⟩)).depth=A.depth+1:=by
 first|rfl|simp[Around.under,Code.weight,Code.isCreation,Code.isGuard,Code.isCaller,Code.frames,Code.isFrame,guardIds]
theorem U5{A:Around}{C:Addr}{us:List Value}{kw:List (Str×Value)}:(A.under (.builtin "type.__call__" ⟨.ref C::us,kw⟩)).units=A.units+1:=by
 first|rfl|simp[Around.under,Code.cUnits,Code.frames,Code.isFrame]
theorem Room.make{k:Nat}{A:Around}(r:Room (k+1) A)(C:Addr)(us:List Value)(kw:List (Str×Value)):Room k (A.under (.builtin "type.__call__" ⟨.ref C::us,kw⟩)):=
 ⟨r.hd,by have:=r.dp;rw[U6];lia,by have:=r.un;rw[U5];lia⟩
theorem Room.depth{k:Nat}{A:Around}(r:Room k A):A.depth<recursionLimit:=by have:=r.dp;lia
theorem Room.units{k:Nat}{A:Around}(r:Room k A):A.units+64<cLine:=by have:=r.un;lia
noncomputable def TV:TA:=fun _ H Q=>Q [] H
noncomputable def tCons(ta:TE)(tr:TA):TA:=fun σ H Q=>ta σ H fun x H1=>tr σ H1 fun xs H2=>Q (x::xs) H2
section
variable{X:Cx}{e:Expr}{es:List Expr}{te:TE}{t:TA}{pos:Pos}
theorem Y7:PA X [] TV:=fun _ _ _ _ H Q I h=>Calls.spliced_nil ⟨[],H,I,.nil,h⟩
theorem uA(ha:PE X e te)(hr:PA X es t)(hs:starEach (e::es) X.env=(false,eval e X.env)::starEach es X.env:=by rfl):PA X (e::es) (tCons te t):=by
 intro pos pins s σ H Q I h
 rw[hs]
 show wpAny _ _ (spliced ((false,eval e X.env)::backTo pos (starEach es X.env))) _ _ s
 refine Calls.spliced_cons (thn (ha pins s σ H _ I h) fun u s1 z_=>?_)
 refine X22 z_ fun x H1 I1 r1 q1=>?_
 exact thn (hr pos pins s1 σ H1 _ I1 q1) fun us s2 z_=>by refine X22 z_ fun xs H2 I2 r2 q2=>?_;exact Y22 (x::xs) H2 I2 (.cons r1 r2) q2
noncomputable def tTup(t:TA):TE:=fun σ H Q=>t σ H fun xs H1=>xs.length≤sizeLine∧∀p,H1 p=none→Q (.ref p) (upd H1 p (.tup xs))
noncomputable def tLst(t:TA):TE:=fun σ H Q=>t σ H fun xs H1=>xs.length≤sizeLine∧∀p,H1 p=none→Q (.ref p) (upd H1 p (.lst xs))
theorem zh4{x1}(h:PA X es t):PE X (.Tuple es x1 pos) (tTup t):=by
 intro pins s σ H Q I hq
 refine wpAny_Tuple_spliced (thn (h pos pins s σ H _ I hq) fun us s1 ⟨xs,H1,I1,r,z,q⟩=>⟨by rw[← r.length];exact z,?_⟩)
 have hf:H1 s1.heap.objs.size=none:=I1.hok.fresh (le_refl _)
 refine Y22 (.ref s1.heap.objs.size) (upd H1 s1.heap.objs.size (.tup xs)) (I1.laid (t':=s1.toks) (fun b u e=>get?_push_of_some _ e) (le_refl _) ?_) rfl (q _ hf)
 exact⟨z,us,r,⟨_,Heap.get?_push_size _ rfl,rfl,_,rfl⟩⟩
theorem G5(h:PA X es t):PE X (.List es pos) (tLst t):=by
 intro pins s σ H Q I hq
 refine wpAny_List_spliced (thn (h pos pins s σ H _ I hq) fun us s1 ⟨xs,H1,I1,r,z,q⟩=>⟨by rw[← r.length];exact z,?_⟩)
 have hf:H1 s1.heap.objs.size=none:=I1.hok.fresh (le_refl _)
 refine Y22 (.ref s1.heap.objs.size) (upd H1 s1.heap.objs.size (.lst xs)) (I1.laid (t':=s1.toks) (fun b u e=>get?_push_of_some _ e) (le_refl _) ?_) rfl (q _ hf)
 exact⟨z,us,0,r,Heap.get?_push_size _ rfl⟩
end
noncomputable abbrev Sp:=List V→Hp→VK→XK→Prop
noncomputable abbrev CXT:=List Env→Hp→Shared→XK→Value→Shared→Prop
structure Env0(P:Program)(w:World)(K:Frag)(mg:Str→Option Value)(base:Heap)(A:Around)(outer:List Env)(s:Shared)(H:Hp):Prop where
 frames:A.frames=some outer
 mod:Mod K mg base
 bs:∀b o,base.get? b=some o→s.heap.get? b=some o∧H b=none
 bsz:base.objs.size≤s.heap.objs.size
 funs:s.heap.FunFrames base outer
 frf:∀b∈frs outer,H b=none
 hok:HOk P w H s.heap
 bare:AllBare s.gens
noncomputable def CE(outer:List Env)(P:Program)(w:World)(H:Hp)(s:Shared)(Q:VK)(u:Value)(s':Shared):Prop:=
 ∃v H',s'.os=s.os∧AllBare s'.gens∧Un (frs outer) [] H H' s.heap s'.heap∧HOk P w H' s'.heap∧RelV v u∧Q v H'
noncomputable def CR(CX:CXT)(outer:List Env)(P:Program)(w:World)(H:Hp)(s:Shared)(Q:VK)(E:XK)(r:Result)(s':Shared):Prop:=
 match r with
 | .ok (.ret u)=>CE outer P w H s Q u s'
 |.ok _=>False
 |.error e=>CX outer H s E e s'
structure FnOk(P:Program)(w:World)(K:Frag)(mg:Str→Option Value)(base:Heap)(CX:CXT)(k:Nat)(f:Addr)(fd:FuncData)(ps:List Str)(sp:Sp):Prop where
 len:∀vs H Q E,sp vs H Q E→vs.length=ps.length
 run:∀(A:Around) (outer:List Env) (s:Shared) (H:Hp) (args:Args) (us:List Value) (vs:List V) (Q:VK) (E:XK),Room k A→Env0 P w K mg base A outer s H→BindsTo s fd args (ps.zip us)→Vals vs us→sp vs H Q E →
  codeAny (model P w) A (.call (.ref f) args) (CR CX outer P w H s Q E) s
theorem FnOk.imp{P:Program}{w:World}{K:Frag}{mg:Str→Option Value}{base:Heap}{CX:CXT}{k:Nat}{f:Addr}{fd:FuncData}{ps:List Str}{sp sp':Sp}(F:FnOk P w K mg base CX k f fd ps sp)
  (h:∀vs H Q E,sp' vs H Q E→sp vs H Q E):FnOk P w K mg base CX k f fd ps sp':=
 ⟨fun vs H Q E q=>F.len vs H Q E (h _ _ _ _ q),fun A outer s H args us vs Q E hr he hb hv hs=>F.run A outer s H args us vs Q E hr he hb hv (h _ _ _ _ hs)⟩
theorem Env0.make{P:Program}{w:World}{K:Frag}{mg:Str→Option Value}{base:Heap}{A:Around}{outer:List Env}{s:Shared}{H:Hp}(e:Env0 P w K mg base A outer s H)(C:Addr)(us:List Value)(kw:List (Str×Value)) :
  Env0 P w K mg base (A.under (.builtin "type.__call__" ⟨.ref C::us,kw⟩)) outer s H:=⟨by first|exact e.frames | (simpa[Around.under,Code.envs,Code.isFrame,pushEnvs] using e.frames),e.mod,e.bs,e.bsz,e.funs,e.frf,e.hok,e.bare⟩
section
variable{X:Cx}{pins:List (Addr×Obj)}{σ:St}{H:Hp}{s s':Shared}
theorem Inv.env0(I:Inv X pins σ H s):Env0 X.prog X.w X.K X.mg X.base X.A X.stack s H:=
 ⟨I.ok.frames,I.ok.mod,I.bs,le_trans I.ok.bsz I.sz,I.stack,I.stkFree,I.hok,I.bare⟩
theorem Inv.after{Q:VK}{u:Value}(I:Inv X pins σ H s)(h:CE X.stack X.prog X.w H s Q u s'):EP X pins σ Q u s':=by
 refine X25 h fun v H' os bare un hok r q=>?_
 obtain⟨hh,g,d,t,os'⟩:=s'
 obtain rfl:os'=s.os:=os
 exact Y22 v H' (I.call (h':=hh) (g':=g) (d':=d) (t':=t) (ch:=[]) un hok bare (fun b z=>absurd z (by simp))) r q
end
noncomputable def zd2(sp:Sp)(dvs:List V)(E:XK)(t:TA):TE:=fun σ H Q=>t σ H fun vs H1=>sp (vs++dvs) H1 Q E
noncomputable def VB(C:Addr)(m:Str)(sp:Sp)(dvs:List V)(E:XK)(ta:TE)(t:TA):TE:=fun σ H Q=>ta σ H fun x H1=>∃a dx fs,x=.ref a∧H1 a=some (.ins C dx fs)∧fs.lookup m=none ∧
 t σ H1 fun vs H2=>sp (x::(vs++dvs)) H2 Q E
noncomputable def zd1(C:Addr)(sp:Sp)(dvs:List V)(E:XK)(t:TA):TE:=fun σ H Q=>t σ H fun vs H1=>∀x dx,H1 x=none→H1 dx=none→dx≠x →
 sp (.ref x::(vs++dvs)) (upd (upd H1 dx (.own x)) x (.ins C dx [])) (fun v H2=>v=.non∧Q (.ref x) H2) E
noncomputable def Binds(K:Frag)(fd:FuncData)(ps:List Str)(ds:List Value):Prop:=
 ∀(s:Shared) (us:List Value),K.In s.heap→(us++ds).length=ps.length→BindsTo s fd ⟨us,[]⟩ (ps.zip (us++ds))
theorem Binds.all{K:Frag}{fd:FuncData}{ps:List Str}(h:∀us:List Value,us.length=ps.length→bindArgs fd ⟨us,[]⟩=pure (ps.zip us)):Binds K fd ps []:=fun s us _ hl=>by
 rw[append_nil] at hl ⊢
 exact .of_eq (h us hl)
noncomputable def ji(CX:CXT)(X:Cx)(E:XK):Prop:=∀(pins:List (Addr×Obj)) (σ:St) (H:Hp) (s:Shared) (e:Value) (s':Shared),Inv X pins σ H s→CX X.stack H s E e s'→X.xe e s'
section
variable{X:Cx}{CX:CXT}{k:Nat}{f C:Addr}{fd:FuncData}{ps:List Str}{sp:Sp}{dvs:List V}{ds:List Value}{E:XK}{x m:Str}{p pos apos:Pos}{e o:Expr}{es:List Expr}{ta:TE}{t:TA}
theorem WR{pins:List (Addr×Obj)}{σ:St}{H:Hp}{s:Shared}{Q:VK}{us:List Value}{vs:List V}(F:FnOk X.prog X.w X.K X.mg X.base CX k f fd ps sp)(hr:Room k X.A)(hb:Binds X.K fd ps ds)(hd:Vals dvs ds)(hx:ji CX X E)
  (I:Inv X pins σ H s) (r:Vals vs us) (h:sp (vs++dvs) H Q E):wpAny (model X.prog X.w) X.A (call (.ref f) us) (EP X pins σ Q) X.xe s:=by
 have r2:Vals (vs++dvs) (us++ds):=r.append hd
 have hl:(us++ds).length=ps.length:=by rw[← r2.length];exact F.len _ _ _ _ h
 refine wpAny_call (codeAny_mono (F.run X.A X.stack s H ⟨us,[]⟩ (us++ds) (vs++dvs) Q E hr I.env0 (hb s us I.kIn hl) r2 h) fun r s' hq=>?_)
 cases r with
 |error e=>exact hx pins σ H s e s' I hq
 |ok fl=>
  cases fl with
  |ret u=>exact I.after hq
  |next=>exact False.elim hq
  |brk=>exact False.elim hq
  |cont=>exact False.elim hq
theorem WY(F:FnOk X.prog X.w X.K X.mg X.base CX k f fd ps sp)(hr:Room k X.A)(hg:Gl X x)(hm:X.mg x=some (.ref f))(hk:keepIn X.K (.ref f)=true)(hb:Binds X.K fd ps ds)(hd:Vals dvs ds)(hx:ji CX X E)
  (ha:PA X (e::es) t) (hdb:(x==("__debug__" : Str))=false:=by decide) (he:starEach (e::es) X.env=(false,eval e X.env)::starEach es X.env:=by rfl) (hpl:(backTo pos (starEach es X.env)).any (·.1)=false:=by rfl) :
  PE X (.Call (.Name x p) (e::es) [] pos) (zd2 sp dvs E t):=by
 intro pins s σ H Q I h
 refine wpAny_Call_Name_kw (jw I hg hm ?_ hdb)
 refine callWith_K (h₀:=X.base) I.ok.mod.kin hk (thn (ha pos pins s σ H _ I h) fun us s1 ⟨vs,H1,I1,r,q⟩=>⟨I1.kIn,?_⟩) he hpl
 exact WR F hr hb hd hx I1 r q
theorem G7(F:FnOk X.prog X.w X.K X.mg X.base CX k f fd ps sp)(hr:Room k X.A)(hg:Gl X x)(hm:X.mg x=some (.ref f))(hk:keepIn X.K (.ref f)=true)(hb:Binds X.K fd ps ds)(hd:Vals dvs ds)(hx:ji CX X E)
  (hdb:(x==("__debug__" : Str))=false:=by decide):PE X (.Call (.Name x p) [] [] pos) (zd2 sp dvs E TV):=by
 intro pins s σ H Q I h
 refine wpAny_Call_Name_kw (jw I hg hm ?_ hdb)
 exact PySem.W.callWith_K0 I.kIn hk (WR (us:=[]) F hr hb hd hx I .nil h)
theorem Ln{pl:Sem Bool}(he:PE X o ta)(c:Cls X.K C)(hm:jk X.K C m f)(F:FnOk X.prog X.w X.K X.mg X.base CX k f fd ps sp)(hr:Room k X.A)(hb:Binds X.K fd ps ds)(hd:Vals dvs ds)(hx:ji CX X E)(ha:PA X (e::es) t)
  (hst:starEach (e::es) X.env=(false,eval e X.env)::starEach es X.env:=by rfl) (hpl:(backTo pos (starEach es X.env)).any (·.1)=false:=by rfl)
  (ht:eval (.Call (.Attribute o m apos) (e::es) [] pos) X.env=(do
   let ov ← eval o X.env
   standAt apos.atName
   let (f,first) ← holding [ov] (getMethod ov m pl)
   callWith pos f first (backTo pos (starEach (e::es) X.env)) (backToKw pos (keywordEach [] X.env))):=by rfl) :
  PE X (.Call (.Attribute o m apos) (e::es) [] pos) (VB C m sp dvs E ta t):=by
 intro pins s σ H Q I h
 refine methodCall_KW (pl:=pl) (thn (he pins s σ H _ I h) fun u s1 z_=>?_) ht
 refine X22 z_ fun x H1 I1 rx r80_=>?_;refine X33 r80_ fun a dx fs ex ea l q=>?_
 subst ex
 obtain rfl:u=Value.ref a:=rx
 refine j0 I1 ea c hm l ?_
 refine callWith_K (first:=[.ref a]) (h₀:=X.base) I.ok.mod.kin hm.kp (thn (ha pos pins s1 σ H1 _ I1 q) fun us s2 ⟨vs,H2,I2,r,q2⟩=>⟨I2.kIn,?_⟩) hst hpl
 exact WR (us:=.ref a::us) (vs:=.ref a::vs) F hr hb hd hx I2 (.cons rfl r) q2
theorem VT{pl:Sem Bool}(he:PE X o ta)(c:Cls X.K C)(hm:jk X.K C m f)(F:FnOk X.prog X.w X.K X.mg X.base CX k f fd ps sp)(hr:Room k X.A)(hb:Binds X.K fd ps ds)(hd:Vals dvs ds)(hx:ji CX X E)
  (ht:eval (.Call (.Attribute o m apos) [] [] pos) X.env=(do
   let ov ← eval o X.env
   standAt apos.atName
   let (f,first) ← holding [ov] (getMethod ov m pl)
   callWith pos f first (backTo pos (starEach [] X.env)) (backToKw pos (keywordEach [] X.env))):=by rfl) :
  PE X (.Call (.Attribute o m apos) [] [] pos) (VB C m sp dvs E ta TV):=by
 intro pins s σ H Q I h
 refine methodCall_KW (pl:=pl) (thn (he pins s σ H _ I h) fun u s1 z_=>?_) ht
 refine X22 z_ fun x H1 I1 rx r79_=>?_;refine X33 r79_ fun a dx fs ex ea l q=>?_
 subst ex
 obtain rfl:u=Value.ref a:=rx
 refine j0 I1 ea c hm l ?_
 exact PySem.W.callWith_K0 (first:=[.ref a]) I1.kIn hm.kp (WR (us:=[.ref a]) (vs:=[.ref a]) F hr hb hd hx I1 (.cons rfl .nil) q)
structure Mk(K:Frag)(C f:Addr):Prop where
 makes:makesIn K C=true
 init:findIn K (.ref C) "__init__" = some (some (.ref f))
 fn:isFn K (.ref f)=true
 kp:keepIn K (.ref C)=true
theorem GO{pins:List (Addr×Obj)}{σ:St}{H:Hp}{s:Shared}{Q:VK}{us:List Value}{vs:List V}(M:Mk X.K C f)(F:FnOk X.prog X.w X.K X.mg X.base CX k f fd ps sp)(hr:Room (k+1) X.A)(hb:Binds X.K fd ps ds)(hd:Vals dvs ds)
  (hx:ji CX X E) (I:Inv X pins σ H s) (r:Vals vs us)
  (h:∀x dx,H x=none→H dx=none→dx≠x→sp (.ref x::(vs++dvs)) (upd (upd H dx (.own x)) x (.ins C dx [])) (fun v H2=>v=.non∧Q (.ref x) H2) E) :
  wpAny (model X.prog X.w) X.A (call (.ref C) us) (EP X pins σ Q) X.xe s:=by
 have hq:=h (s.heap.objs.size+1) s.heap.objs.size (I.hok.fresh (Nat.le_succ _)) (I.hok.fresh (le_refl _)) (ne_of_lt (Nat.lt_succ_self _))
 have I2:=Inv.made (C:=C) I
 have r2:Vals (V.ref (s.heap.objs.size+1)::(vs++dvs)) (Value.ref (s.heap.objs.size+1)::(us++ds)):=.cons rfl (r.append hd)
 have hl:(Value.ref (s.heap.objs.size+1)::us++ds).length=ps.length:=by
  have e:=r2.length
  rw[F.len _ _ _ _ hq] at e
  exact e.symm
 refine wpAny_call (MF (f:=f) I.kIn M.makes M.init (beq_iff_eq.mp M.fn) (codeAny_mono (F.run _ X.stack _ _ ⟨Value.ref (s.heap.objs.size+1)::us,[]⟩ (Value.ref (s.heap.objs.size+1)::(us++ds)) _ _ E (hr.make C us [])
  (I2.env0.make C us []) (hb _ (Value.ref (s.heap.objs.size+1)::us) I2.kIn hl) r2 hq) fun r s' hq'=>?_))
 cases r with
 |error e=>exact hx pins σ _ _ e s' I2 hq'
 |ok fl=>
  cases fl with
  |ret u=>
   refine X23 (I2.after hq') fun v H' I3 rv ev q3=>?_
   subst ev
   exact⟨rv,⟨V.ref (s.heap.objs.size+1),H',I3,rfl,q3⟩⟩
  |next=>exact False.elim hq'
  |brk=>exact False.elim hq'
  |cont=>exact False.elim hq'
theorem Lo(M:Mk X.K C f)(F:FnOk X.prog X.w X.K X.mg X.base CX k f fd ps sp)(hr:Room (k+1) X.A)(hg:Gl X x)(hm:X.mg x=some (.ref C))(hb:Binds X.K fd ps ds)(hd:Vals dvs ds)(hx:ji CX X E)
  (ha:PA X (e::es) t) (hdb:(x==("__debug__" : Str))=false:=by decide) (he:starEach (e::es) X.env=(false,eval e X.env)::starEach es X.env:=by rfl) (hpl:(backTo pos (starEach es X.env)).any (·.1)=false:=by rfl) :
  PE X (.Call (.Name x p) (e::es) [] pos) (zd1 C sp dvs E t):=by
 intro pins s σ H Q I h
 refine wpAny_Call_Name_kw (jw I hg hm ?_ hdb)
 refine callWith_K (h₀:=X.base) I.ok.mod.kin M.kp (thn (ha pos pins s σ H _ I h) fun us s1 ⟨vs,H1,I1,r,q⟩=>⟨I1.kIn,?_⟩) he hpl
 exact GO M F hr hb hd hx I1 r q
end
section
variable{X:Cx}{CX:CXT}{k:Nat}{f C:Addr}{fd:FuncData}{ps ks:List Str}{sp:Sp}{E:XK}{x m:Str}{p pos apos kpos:Pos}{e o:Expr}{es:List Expr}{kws:List Keyword}{te ta:TE}{t tk:TA}{nm:Option Str}
variable{g:List Value→List Value→List Value}{gV:List V→List V→List V}
end
structure zF(N P:List Str)(sc:Scope):Prop where
 kind:sc.kind=.function
 co:sc.isCoroutine=false
 gen:sc.isGenerator=false
 nd:N.Nodup
 pre:N.take P.length=P
 par:∀x∈P,sc.names.lookup x=some .local∨sc.names.lookup x=some .cell
 nofree:∀y∈sc.names,y.2≠.free
theorem WB{kindOf:Str→Option NameKind}{x:Str}:∀{binds:List (Str×Value)} {m:Str→Option Value},(∀v,(x,v)∉binds)→bindL kindOf binds m x=m x
 |[],_,_=>rfl
 | (n,v)::r,m,h=>by
  unfold bindL
  rw[WB fun w hw=>h w (mem_cons_of_mem _ hw)]
  split
  ·have:x≠n:=by rintro rfl;exact h v mem_cons_self
   simp[this]
  ·rfl
theorem WD{kindOf:Str→Option NameKind}{x:Str}:∀{binds:List (Str×Value)} {m:Str→Option Value},(∀v,(x,v)∉binds)→bindC kindOf binds m x=m x
 |[],_,_=>rfl
 | (n,v)::r,m,h=>by
  unfold bindC
  rw[WD fun w hw=>h w (mem_cons_of_mem _ hw)]
  split
  ·rfl
  ·have:x≠n:=by rintro rfl;exact h v mem_cons_self
   simp[this]
theorem WC{kindOf:Str→Option NameKind}{x:Str}{v:Value}:∀{P:List Str} {vs:List Value} {i:Nat} {m:Str→Option Value},P.Nodup→P[i]?=some x→vs[i]?=some v→kindOf x=some .local →
  bindL kindOf (P.zip vs) m x=some v
 |[],_,_,_,_,h,_,_=>by simp at h
 |_::_,[],_,_,_,_,h,_=>by simp at h
 |p::P,w::vs,0,m,nd,h1,h2,hk=>by
  simp at h1 h2;subst h1;subst h2
  show bindL kindOf ((p,w)::P.zip vs) m p=_
  unfold bindL
  rw[WB fun v hv=>(nodup_cons.mp nd).1 (List.of_mem_zip hv).1,if_pos hk]
  simp
 |p::P,w::vs,i+1,m,nd,h1,h2,hk=>by
  show bindL kindOf ((p,w)::P.zip vs) m x=_
  unfold bindL
  exact WC (i:=i) (nodup_cons.mp nd).2 (by simpa using h1) (by simpa using h2) hk
theorem WE{kindOf:Str→Option NameKind}{x:Str}{v:Value}:∀{P:List Str} {vs:List Value} {i:Nat} {m:Str→Option Value},P.Nodup→P[i]?=some x→vs[i]?=some v→kindOf x≠some .local →
  bindC kindOf (P.zip vs) m x=some v
 |[],_,_,_,_,h,_,_=>by simp at h
 |_::_,[],_,_,_,_,h,_=>by simp at h
 |p::P,w::vs,0,m,nd,h1,h2,hk=>by
  simp at h1 h2;subst h1;subst h2
  show bindC kindOf ((p,w)::P.zip vs) m p=_
  unfold bindC
  rw[WD fun v hv=>(nodup_cons.mp nd).1 (List.of_mem_zip hv).1,if_neg hk]
  simp
 |p::P,w::vs,i+1,m,nd,h1,h2,hk=>by
  show bindC kindOf ((p,w)::P.zip vs) m x=_
  unfold bindC
  exact WE (i:=i) (nodup_cons.mp nd).2 (by simpa using h1) (by simpa using h2) hk
noncomputable def start(N:List Str)(vs:List V):St:=vs.map some++List.replicate (N.length-vs.length) none
noncomputable def v0(CX:CXT)(P:Program)(w:World)(K:Frag)(mg:Str→Option Value)(base:Heap)(N:List Str)(qual:Str)(scope:Scope)(f:Addr)(cd:Value)(A:Around)(outer:List Env)(s:Shared)(H:Hp)(E:XK):Cx where
 prog:=P
 w:=w
 K:=K
 mg:=mg
 base:=base
 A:=A.deeper (envOfC qual scope s.heap.objs.size f cd)
 N:=N
 s₀:=s
 H₀:=H
 env:=envOfC qual scope s.heap.objs.size f cd
 outer:=outer
 stack:=envOfC qual scope s.heap.objs.size f cd::outer
 ex:=[]
 calm:=true
 fn:=fun _=>true
 pn:=[]
 xe:=fun e s'=>wpAny (model P w) (A.deeper (envOfC qual scope s.heap.objs.size f cd)) (leaving (envOfC qual scope s.heap.objs.size f cd) e) (fun _ s''=>CX outer H s E e s'') (fun e' s''=>CX outer H s E e' s'') s'
theorem UC{sc:Scope}{n:Nat}{x:Str}(h:sc.names.lookup x=some .cell):∃c,(cellsFrom n sc.names []).lookup x=some c:=by
 have q:=PySem.W.cellsFrom_some sc.names n [] (.inl h)
 exact Option.isSome_iff_exists.mp q
theorem Q8{CX:CXT}{P:Program}{w:World}{K:Frag}{mg:Str→Option Value}{base:Heap}{N ps:List Str}{qual:Str}{scope:Scope}{f:Addr}{cd:Value}{A:Around}{outer:List Env}{s s1:Shared}{H:Hp}{E:XK}{us:List Value}{vs:List V}
  (S:zF N ps scope) (hd:A.handled=none) (e0:Env0 P w K mg base A outer s H) (hl:vs.length=ps.length) (r:Vals vs us)
  (x:InCallC s s.heap.objs.size (bindL (envOfC qual scope s.heap.objs.size f cd).kindOf (ps.zip us) fun _=>none) (cellsFrom (s.heap.objs.size+1) scope.names []) (bindC (envOfC qual scope s.heap.objs.size f cd).kindOf (ps.zip us) fun _=>none) s1) :
  Inv (v0 CX P w K mg base N qual scope f cd A outer s H E) [] (start N vs) H s1:=by
 have hpl:ps.length≤N.length:=by have:=congrArg List.length S.pre;rw[length_take] at this;lia
 obtain⟨h1,tk,rfl,hk⟩:=x.done
 have noA:∀b:Addr,b∉(v0 CX P w K mg base N qual scope f cd A outer s H E).ex:=fun b z=>absurd (show b∈([]:List Addr) from z) (by simp)
 refine⟨⟨e0.mod,S.kind,rfl,rfl,le_refl _,fun y z c h1 h2=>?_,fun y hy=>?_,fun y c _ h=>?_,fun _=>hd,Around.frames_deeper e0.frames,.inr ⟨rfl,rfl⟩,fun b z=>absurd z (noA b),e0.bs,e0.bsz,fun b _ _=>noA b,fun b z=>absurd z (noA b),e0.funs,e0.frf⟩,
  rfl,e0.bare,Un.kept hk,⟨_,x.toInCall.ns,fun i y v h1 h2 h3=>?_⟩,fun y c h=>⟨_,x.cell y c h⟩,e0.hok.fresh (le_refl _),fun y c h=>?_,fun p hp=>absurd (show p∈([]:List (Addr×Obj)) from hp) (by simp),e0.hok.kept hk,?_⟩
 ·exact name_of_addr x.apart (PySem.mem_of_lookup h1) (PySem.mem_of_lookup h2)
 ·have hy:scope.names.lookup y=some .cell∨scope.names.lookup y=some .free:=hy
  rcases hy with hy|hy
  ·exact UC hy
  ·exact absurd rfl (S.nofree _ (PySem.mem_of_lookup hy))
 ·exact le_of_lt (x.above y c (PySem.mem_of_lookup h))
 ·have hi:i<vs.length:=by
   unfold start at h2
   by_cases hi:i<vs.length
   ·exact hi
   ·rw[getElem?_append_right (by simpa using hi)] at h2
    rw[getElem?_replicate] at h2
    split at h2 <;> cases h2
  have ha:vs[i]?=some v:=by
   unfold start at h2
   rw[getElem?_append_left (by simpa using hi),getElem?_map] at h2
   rcases e:vs[i]? with _|a
   ·rw[e] at h2;cases h2
   ·rw[e] at h2;cases h2;rfl
  refine X11 (r.get ha) fun u hu rv=>?_
  have hp:ps[i]?=some y:=by
   rw[← S.pre,List.getElem?_take_of_lt (by lia)];exact h1
  have ndP:ps.Nodup:=by rw[← S.pre];exact S.nd.sublist (List.take_sublist _ _)
  refine Y11 u rv ?_
  rcases S.par y (List.mem_of_getElem? hp) with k|k
  ·exact .inl ⟨k,WC ndP hp hu k⟩
  ·obtain⟨c,e⟩:=UC (n:=s.heap.objs.size+1) k
   refine .inr ⟨.inl k,c,e,?_⟩
   have q:=x.cell y c e
   rw[WE ndP hp hu (by show scope.names.lookup y≠_;rw[k];decide)] at q
   exact q
 ·exact e0.hok.fresh (le_of_lt (x.above y c (PySem.mem_of_lookup h)))
 ·unfold start
  show _=N.length
  rw[length_append,length_map,length_replicate]
  lia
theorem M5{CX:CXT}{P:Program}{w:World}{K:Frag}{mg:Str→Option Value}{base:Heap}{k:Nat}{f:Addr}{name qual:Str}{params:Arguments}{body:List Stmt}{scope:Scope}{dV kV doc pm cdv ct oc:Value}{an od:Option Addr}
  {osl:Array (Option Value)} {N ps:List Str} {sp:Sp} (lk:K.lookup f=some ⟨oc,od,.func (fnOf name qual params body scope dV kV doc pm an cdv ct),osl⟩) (hcd:codeIn K cdv qual=true) (S:zF N ps scope)
  (len:∀vs H Q E,sp vs H Q E→vs.length=ps.length)
  (hbody:∀(A:Around) (outer:List Env) (s:Shared) (H:Hp) (vs:List V) (Q:VK) (E:XK),Room k (A.deeper (envOfC qual scope s.heap.objs.size f cdv))→sp vs H Q E →
   ∃t,PSs (v0 CX P w K mg base N qual scope f cdv A outer s H E) body t∧t { nx:=fun _ H'=>Q .non H',rt:=Q } (start N vs) H) :
  FnOk P w K mg base CX (k+1) f (fnOf name qual params body scope dV kV doc pm an cdv ct) ps sp:=by
 refine⟨len,fun A outer s H args us vs Q E hr e0 hb r hsp=>?_⟩
 have hl:=len _ _ _ _ hsp
 have KX:K.In s.heap:=e0.mod.kin.keeps fun b o e=>(e0.bs b o e).1
 have lim:s.heap.NoLimit:=e0.mod.nolimit.keeps fun b o e=>(e0.bs b o e).1
 have hkind:∀y∈ps.zip us,scope.names.lookup y.1=some .local∨(scope.names.lookup y.1=some .cell∧((cellsFrom (s.heap.objs.size+1) scope.names []).lookup y.1).isSome=true):=fun ⟨n,v⟩ hy=>by
  rcases S.par n (List.of_mem_zip hy).1 with q|q
  ·exact .inl q
  ·exact .inr ⟨q,PySem.W.cellsFrom_some _ _ _ (.inl q)⟩
 refine codeAny_call_function hr.depth (KX _ _ lk) rfl S.co S.gen rfl (PySem.W.codeRec_of KX hcd) (hb _ _ _ _ ?_)
 refine wpAny_newFunctionEnv_cells S.kind hkind fun env he s1 x=>?_
 subst he
 refine⟨lim.keeps x.toInCall.keep,codeAny_func ?_⟩
 refine X11 (hbody A outer s H vs Q E (hr.deeper _) hsp) fun t ht hq=>?_
 have I:Inv (v0 CX P w K mg base N qual scope f cdv A outer s H E) [] (start N vs) H s1:=Q8 S hr.hd e0 hl r x
 refine wpAny_mono (ht [] s1 (start N vs) H _ I hq) (fun fl s' hs=>?_) fun e s' hs=>hs
 have fin:∀{σ':St} {H':Hp} {v:V} {u:Value},Inv (v0 CX P w K mg base N qual scope f cdv A outer s H E) [] σ' H' s'→RelV v u→Q v H'→CE outer P w H s Q u s':=
  fun {σ' H' v u} J rv q=>Y25 v H' J.os J.bare J.base J.hok rv q
 cases fl with
 |ret u=>
  refine X32 hs fun v σ' H' J rv q=>?_
  exact fin J rv q
 |next=>
  refine X21 hs fun σ' H' J q=>?_
  exact fin (v:=V.non) (u:=Value.none) J rfl q
 |brk=>
  refine X21 hs fun _ _ _ q=>?_
  exact False.elim q
 |cont=>
  refine X21 hs fun _ _ _ q=>?_
  exact False.elim q
section
variable{X:Cx}{x:Str}{p pos:Pos}{e:Expr}{es:List Expr}{t:TA}{id T:String}{r:List V→Hp→VK→Prop}
noncomputable def tCB(r:List V→Hp→VK→Prop)(t:TA):TE:=fun σ H Q=>t σ H fun vs H1=>r vs H1 Q
theorem pe_callB(hc:CallR X (.builtin id) r)(hg:Gl X x)(hm:X.mg x=none)(hv:bootBuiltins x=some (.builtin id))(ha:PA X (e::es) t)(hn:x ≠ "__name__" := by decide)(hdb:(x==("__debug__" : Str))=false:=by decide)
  (he:starEach (e::es) X.env=(false,eval e X.env)::starEach es X.env:=by rfl) (hpl:(backTo pos (starEach es X.env)).any (·.1)=false:=by rfl):PE X (.Call (.Name x p) (e::es) [] pos) (tCB r t):=by
 intro pins s σ H Q I h
 refine wpAny_Call_Name_kw (uG I hg hm hv ?_ hn hdb)
 exact PyProof.Rows.callWith_builtin1 (thn (ha pos pins s σ H _ I h) fun us s1 ⟨vs,H1,I1,r1,q1⟩=>hc pins s1 σ H1 vs us Q I1 r1 q1) he hpl
theorem pe_callTy(hc:CallR X (.type T) r)(hg:Gl X x)(hm:X.mg x=none)(hv:bootBuiltins x=some (.type T))(ha:PA X (e::es) t)(hn:x ≠ "__name__" := by decide)(hdb:(x==("__debug__" : Str))=false:=by decide)
  (he:starEach (e::es) X.env=(false,eval e X.env)::starEach es X.env:=by rfl) (hpl:(backTo pos (starEach es X.env)).any (·.1)=false:=by rfl):PE X (.Call (.Name x p) (e::es) [] pos) (tCB r t):=by
 intro pins s σ H Q I h
 refine wpAny_Call_Name_kw (uG I hg hm hv ?_ hn hdb)
 exact PyProof.Rows.callWith_type1 (thn (ha pos pins s σ H _ I h) fun us s1 ⟨vs,H1,I1,r1,q1⟩=>hc pins s1 σ H1 vs us Q I1 r1 q1) he hpl
end
end L2
namespace HT
open PySem PyProof.Rows
section
open PySem.SeqAt
open PySem.AutoSeq1 (wpAny_loadPart')
open PySem.MeetsSeq PySem.MeetsSeq2 PySem.MeetsSeq3
end
section
variable{prog:Program}{w:World}{A:Around}{E:Value→Shared→Prop}{s:Shared}
noncomputable def sIx(n d:Nat):Option Int→Nat
 |none=>d
 |some v=>if v<0 then (v+(n:Int)).toNat else min v.toNat n
end
end HT
namespace L2
open PySem PySem.Spec PyProof.Rows
noncomputable abbrev TO:=St→Hp→(Option Int→Hp→Prop)→Prop
noncomputable def PO(X:Cx)(e:Option Expr)(t:TO):Prop:=
 ∀(pins:List (Addr×Obj)) (s:Shared) (σ:St) (H:Hp) (Q:Option Int→Hp→Prop),Inv X pins σ H s→t σ H Q →
  wpAny (model X.prog X.w) X.A (evalPart e X.env) (fun u s'=>∃o H',Inv X pins σ H' s'∧IsPart u o∧Q o H') X.xe s
noncomputable def TU:TO:=fun _ H Q=>Q none H
noncomputable def tPart(t:TE):TO:=fun σ H Q=>t σ H fun x H1=>∃i,x=.int i∧Q (some i) H1
section
variable{X:Cx}{e:Expr}{te:TE}{lo hi:Option Expr}{tl th:TO}{pos p2:Pos}
theorem Lh:PO X none TU:=by
 intro pins s σ H Q I h
 rw[evalPart_none]
 exact wpAny_pure ⟨none,H,I,.none,h⟩
theorem Lg(h:PE X e te):PO X (some e) (tPart te):=by
 intro pins s σ H Q I hw
 rw[evalPart_some]
 refine thn (h pins s σ H _ I hw) fun u s1 z_=>?_
 refine X22 z_ fun x H1 I1 r1 q1=>?_
 obtain⟨i,rfl,q⟩:=q1
 obtain⟨t,rfl⟩:=r1
 exact Y22 (some i) H1 I1 (.int i t) q
noncomputable def SlR(X:Cx)(r:V→Option Int→Option Int→Hp→VK→Prop):Prop:=
 ∀(pins:List (Addr×Obj)) (s:Shared) (σ:St) (H:Hp) (x:V) (v vl vu:Value) (lo hi:Option Int) (sl:Addr) (Q:VK),Inv X pins σ H s→RelV x v→s.heap.IsSliceOf sl vl vu .none→IsPart vl lo→IsPart vu hi→r x lo hi H Q →
  ∃T id,typeLookup (.type T) "__getitem__" = pure (some (.builtin id))∧s.TypeIs v T∧wpAny (model X.prog X.w) X.A (getItem v (.ref sl)) (EP X pins σ Q) X.xe s
theorem SlR.or{r r':V→Option Int→Option Int→Hp→VK→Prop}(h:SlR X r)(h':SlR X r'):SlR X (fun x lo hi H Q=>r x lo hi H Q∨r' x lo hi H Q):=by
 intro pins s σ H x v vl vu lo hi sl Q I rx hs pl pu q
 rcases q with q|q
 ·exact h pins s σ H x v vl vu lo hi sl Q I rx hs pl pu q
 ·exact h' pins s σ H x v vl vu lo hi sl Q I rx hs pl pu q
noncomputable def tSl(r:V→Option Int→Option Int→Hp→VK→Prop)(te:TE)(tl th:TO):TE:=fun σ H Q=>te σ H fun x H1=>tl σ H1 fun l H2=>th σ H2 fun u H3=>r x l u H3 Q
theorem G3{r:V→Option Int→Option Int→Hp→VK→Prop}(hr:SlR X r)(he:PE X e te)(hl:PO X lo tl)(hu:PO X hi th):PE X (.Subscript e (.Slice lo hi none p2) pos) (tSl r te tl th):=by
 intro pins s σ H Q I h
 refine Subscript_ (thn (he pins s σ H _ I h) fun v s1 z_=>?_)
 refine X22 z_ fun x H1 I1 r1 q1=>?_
 refine wpAny_Slice (thn (hl pins s1 σ H1 _ I1 q1) fun vl s2 ⟨l,H2,I2,pl,q2⟩=>thn (hu pins s2 σ H2 _ I2 q2) fun vu s3 z_=>?_)
 refine X22 z_ fun u H3 I3 pu q3=>?_
 rw[evalPart_none]
 refine wpAny_pure ?_
 have I4:Inv X pins σ H3 { s3 with heap:=s3.heap.push { cls:=.type "slice", data:=.fields #[vl,vu,.none] } }:=I3.kept (t':=s3.toks) fun b ob q=>get?_push_of_some _ q
 refine X22 (hr pins { s3 with heap:=s3.heap.push { cls:=.type "slice", data:=.fields #[vl,vu,.none] } } σ H3 x v vl vu l u s3.heap.objs.size Q I4 r1 (Heap.IsSliceOf.new ..) pl pu q3) fun T id hT ht hg=>?_
 show wpAny (model X.prog X.w) X.A (subscriptTail e (.Slice lo hi none p2) v (.ref s3.heap.objs.size)) (EP X pins σ Q) X.xe { s3 with heap:=s3.heap.push { cls:=.type "slice", data:=.fields #[vl,vu,.none] } }
 exact tail_any (ops:=[.ref s3.heap.objs.size,v]) ht hT hg (by with_unfolding_all rfl)
noncomputable def Gg(xs:List V)(lo hi:Option Int):List V:=(xs.drop (HT.sIx xs.length 0 lo)).take (HT.sIx xs.length xs.length hi-HT.sIx xs.length 0 lo)
theorem UB(xs:List V)(lo hi:Option Int):(Gg xs lo hi).length≤xs.length:=by
 unfold Gg
 rw[length_take,length_drop]
 lia
end
noncomputable def ixN(n:Nat)(i:Int):Option Nat:=if 0≤i then (if i<n then some i.toNat else none) else if -(n:Int)≤i then some (i+n).toNat else none
noncomputable def atI{α:Type}(xs:List α)(i:Int):Option α:=(ixN xs.length i).bind fun j=>xs[j]?
theorem J7{n:Nat}{i:Int}{j:Nat}(h:ixN n i=some j):seqIndex? i n=some j∧j<n∧-(n:Int)≤i∧i<n:=by
 unfold ixN at h
 by_cases h0:0≤i
 ·rw[if_pos h0] at h
  by_cases h1:i<n
  ·rw[if_pos h1] at h
   have e:i.toNat=j:=Option.some.inj h
   exact⟨by rw[seqIndex_of h0 h1,e],by lia,by lia,h1⟩
  ·rw[if_neg h1] at h;nomatch h
 ·rw[if_neg h0] at h
  by_cases h1 : -(n:Int)≤i
  ·rw[if_pos h1] at h
   have e:(i+n).toNat=j:=Option.some.inj h
   exact⟨by rw[seqIndex_neg (by lia) h1,e],by lia,h1,by lia⟩
  ·rw[if_neg h1] at h;nomatch h
theorem Vr{α:Type}{xs:List α}{i:Int}{v:α}(h:atI xs i=some v):∃j,seqIndex? i xs.length=some j∧xs[j]?=some v∧j<xs.length∧-(xs.length:Int)≤i∧i<xs.length:=by
 unfold atI at h
 rcases e:ixN xs.length i with _|j
 ·rw[e] at h;cases h
 ·rw[e] at h
  refine X03 (J7 e) fun h1 h2 h3 h4=>?_
  exact Y14 j h1 h h2 h3 h4
theorem YH{α:Type}{xs:List α}{j:Nat}{v:α}(h:xs[j]?=some v):atI xs (j:Int)=some v:=by
 have hj:j<xs.length:=(List.getElem?_eq_some_iff.mp h).1
 have e:ixN xs.length (j:Int)=some j:=by
  unfold ixN
  rw[if_pos (by lia),if_pos (by lia)];simp
 unfold atI;rw[e];exact h
noncomputable def Vu(b:Expr):Prop:=∀o i,subscripted b false o i=operate [o,i] (getItem o i)
noncomputable def IxR(X:Cx)(r:R2):Prop:=
 ∀(value slice:Expr) (pins:List (Addr×Obj)) (s:Shared) (σ:St) (H:Hp) (x y:V) (v u:Value) (Q:VK),Inv X pins σ H s→RelV x v→RelV y u→r x y H Q →
  subscripted slice false v u=operate [v,u] (getItem v u)→wpAny (model X.prog X.w) X.A (subscriptTail value slice v u) (EP X pins σ Q) X.xe s
noncomputable def MtR(X:Cx)(id:String)(r:V→List V→Hp→VK→Prop):Prop:=
 ∀(pins:List (Addr×Obj)) (s:Shared) (σ:St) (H:Hp) (x:V) (xs:List V) (v:Value) (us:List Value) (Q:VK),Inv X pins σ H s→RelV x v→Vals xs us→r x xs H Q →
  wpAny (model X.prog X.w) X.A (call (.builtin id) (v::us)) (EP X pins σ Q) X.xe s
section
variable{X:Cx}{a b:Expr}{ta tb:TE}{pos:Pos}
theorem IxR.or{r r':R2}(h:IxR X r)(h':IxR X r'):IxR X (fun x y H Q=>r x y H Q∨r' x y H Q):=by
 intro value slice pins s σ H x y v u Q I rx ry q hs
 rcases q with q|q
 ·exact h value slice pins s σ H x y v u Q I rx ry q hs
 ·exact h' value slice pins s σ H x y v u Q I rx ry q hs
theorem zd7{r:R2}(hr:IxR X r)(ha:PE X a ta)(hb:PE X b tb)(hs:Vu b):PE X (.Subscript a b pos) (tOp r ta tb):=by
 intro pins s σ H Q I h
 exact Subscript_ (zn3 ha hb I h fun v u s2 x y H2 I2 rx ry q=>hr a b pins s2 σ H2 x y v u Q I2 rx ry q (hs _ _))
noncomputable def rIxL(K:Frag):R2:=fun x y H Q=>∃p xs i v,x=.ref p∧y=.int i∧SqL K H p xs∧atI xs i=some v∧Q v H
noncomputable def rIxT(K:Frag):R2:=fun x y H Q=>∃p xs i v,x=.ref p∧y=.int i∧SqT K H p xs∧atI xs i=some v∧Q v H
noncomputable def rIxS:R2:=fun x y H Q=>∃z i c,x=.str z∧y=.int i∧z.length≤sizeLine∧atI z.cps.toList i=some c∧Q (.str ⟨#[c]⟩) H
theorem ix_list:IxR X (rIxL X.K):=by
 intro value slice pins s σ H x y v u Q I rx ry h hs
 obtain⟨p,xs,i,z,rfl,rfl,hq,he,q⟩:=h
 cases rx
 obtain⟨t,rfl⟩:=ry
 refine X12 (I.list hq) fun its r pl hz=>?_
 refine X14 (Vr he) fun j h1 h2 h3 h4 h5=>?_
 refine X11 (r.get h2) fun w ew rw'=>?_
 have hl:=r.length
 have hn:=jZ
 have fin:EP X pins σ Q w s:=Y22 z H I rw' q
 by_cases h0:0≤i
 ·have hj:i.toNat=j:=by
   rw[seqIndex_of h0 h5] at h1
   exact Option.some.inj h1
  exact item_listR pl.isList h0 (by lia) (by rw[hj];simpa using ew) fin hs
 ·have hj:(i+(its.toArray.size:Int)).toNat=j:=by
   rw[seqIndex_neg (by lia) h4] at h1
   rw[size_toArray,← hl]
   exact Option.some.inj h1
  exact subscriptTail_builtinR (x:=w) pl.isList.typeIs slot_list_getitem.lookup
   (wpAny_getItem_list_neg (Q:=fun r s'=>r=w∧EP X pins σ Q r s') pl.isList (by lia) (by rw[size_toArray] <;> lia) (by lia) (by rw[hj];simpa using ew) ⟨rfl,fin⟩) hs
theorem ix_tup:IxR X (rIxT X.K):=by
 intro value slice pins s σ H x y v u Q I rx ry h hs
 obtain⟨p,xs,i,z,rfl,rfl,hq,he,q⟩:=h
 cases rx
 obtain⟨t,rfl⟩:=ry
 refine X12 (I.tuple hq) fun its r pl hz=>?_
 refine X14 (Vr he) fun j h1 h2 h3 h4 h5=>?_
 refine X11 (r.get h2) fun w ew rw'=>?_
 have hl:=r.length
 have hn:=jZ
 have fin:EP X pins σ Q w s:=Y22 z H I rw' q
 exact subscriptTail_builtinR (x:=w) pl.typeIs slot_tuple_getitem.lookup
  (getItem_tuple (j:=j) (Q:=fun r s'=>r=w∧EP X pins σ Q r s') pl (by lia) (by lia) (by rw[size_toArray,← hl];exact h1) (by simpa using ew) ⟨rfl,fin⟩) hs
theorem zl4:IxR X rIxS:=by
 intro value slice pins s σ H x y v u Q I rx ry h hs
 obtain⟨z,i,c,rfl,rfl,hz,he,q⟩:=h
 obtain⟨t,rfl⟩:=rx
 obtain⟨t',rfl⟩:=ry
 refine X14 (Vr he) fun j h1 h2 h3 h4 h5=>?_
 have hl:z.cps.toList.length=z.length:=by simp[Str.length]
 rw[hl] at h1 h4 h5
 have hn:=jZ
 exact tail_any (typeIs_str s z t) slot_str_getitem.lookup (getItem_str (c:=c) (by
  have e1:decide (i < -(2 ^ 63:Int))=false:=decide_eq_false (by lia)
  have e2:decide (i ≥ 2 ^ 63)=false:=decide_eq_false (by lia)
  rw[e1,e2,Bool.or_false]) (by rw[h1];simpa using h2) ⟨.str ⟨#[c]⟩,H,I.tok _,⟨_,rfl⟩,q⟩) hs
noncomputable def rIx(K:Frag):R2:=fun x y H Q=>rIxL K x y H Q∨rIxT K x y H Q∨rIxS x y H Q
theorem zl5:IxR X (rIx X.K):=ix_list.or (ix_tup.or zl4)
theorem U4(its:List Value)(n j:Nat)(u:Value):Obj.mapSeq (·.setIfInBounds j u) { cls:=.type "list", data:=.seq its.toArray n } = { cls:=.type "list", data:=.seq (its.set j u).toArray n }:=by
 simp[Obj.mapSeq]
theorem Inv.lst{pins:List (Addr×Obj)}{σ:St}{H:Hp}{s:Shared}{p:Addr}{xs:List V}(I:Inv X pins σ H s)(h:H p=some (.lst xs)) :
  ∃(its:List Value) (n:Nat),Vals xs its∧s.heap.get? p=some { cls:=.type "list", data:=.seq its.toArray n }∧xs.length≤sizeLine:=by
 refine X01 (I.hok p _ h) fun z r78_=>?_;refine X21 r78_ fun its n r e=>?_
 exact Y22 its n r e z
theorem Inv.lstUpd{pins:List (Addr×Obj)}{σ:St}{H:Hp}{s:Shared}{p:Addr}{xs ys:List V}{its its':List Value}{n n':Nat}{f:Obj→Obj}(I:Inv X pins σ H s)(h:H p=some (.lst xs))
  (ho:s.heap.get? p=some { cls:=.type "list", data:=.seq its.toArray n }) (hf:f { cls:=.type "list", data:=.seq its.toArray n } = { cls:=.type "list", data:=.seq its'.toArray n' }) (r:Vals ys its') (hz:ys.length≤sizeLine) (t:Nat) :
  Inv X pins σ (upd H p (.lst ys)) { s with heap:=s.heap.update p f,toks:=t }:=by
 have e:(s.heap.update p f).get? p=some { cls:=.type "list", data:=.seq its'.toArray n' }:=by
  rw[Heap.get?_update_self f ho (by rw[hf] <;> rfl),hf]
 refine I.write (x:=p) (e:=p) (by rw[h];trivial) (.inl rfl) (fun b u hb q=>(Heap.get?_update_other _ _ (Ne.symm hb)).trans q) ⟨_,e⟩ ?_
 exact⟨hz,its',n',r,e⟩
noncomputable def rSetL:V→V→V→Hp→(Hp→Prop)→Prop:=fun o i v H Q=>∃p xs k j,o=.ref p∧i=.int k∧H p=some (.lst xs)∧ixN xs.length k=some j∧Q (upd H p (.lst (xs.set j v)))
theorem GK:PSet X rSetL:=by
 intro pins s σ H o i v ov iv u Q I ro ri rv h
 obtain⟨p,xs,k,j,rfl,rfl,hp,hj,q⟩:=h
 cases ro
 obtain⟨t,rfl⟩:=ri
 refine X22 (I.lst hp) fun its n r ho hz=>?_
 refine X03 (J7 hj) fun h1 h2 h3 h4=>?_
 have hl:=r.length
 have hn:=jZ
 have I':Inv X pins σ (upd H p (.lst (xs.set j v))) { s with heap:=s.heap.update p (Obj.mapSeq (·.setIfInBounds j u)) }:=
  I.lstUpd hp ho (U4 its n j u) (r.set rv j) (by rw[List.length_set];exact hz) s.toks
 by_cases h0:0≤k
 ·have hk:k.toNat=j:=by
   rw[seqIndex_of h0 h4] at h1
   exact Option.some.inj h1
  exact PySem.W.ki_setAt ho h0 (by lia) (by rw[size_toArray,← hl];exact h4) (by rw[hk];exact Y11 _ I' q)
 ·have hk:(k+(its.toArray.size:Int)).toNat=j:=by
   rw[seqIndex_neg (by lia) h3] at h1
   rw[size_toArray,← hl]
   exact Option.some.inj h1
  exact PySem.W.ki_setBack ho (by lia) (by rw[size_toArray,← hl];exact h3) (by lia) (by rw[hk];exact Y11 _ I' q)
theorem WL(lo hi:Option Int)(n:Nat):(sliceBounds lo hi none n).1=((HT.sIx n 0 lo:Nat):Int)∧(sliceBounds lo hi none n).2.1=((HT.sIx n n hi:Nat):Int)∧(sliceBounds lo hi none n).2.2=1:=by
 refine⟨?_,?_,rfl⟩
 ·rcases lo with _|i
  ·simp[sliceBounds,HT.sIx]
  ·simp only[sliceBounds,HT.sIx,Option.getD_none,show(1:Int) > 0 by decide,if_true]
   by_cases h:i<0
   ·simp only[h,if_true] <;> lia
   ·simp only[h,if_false] <;> lia
 ·rcases hi with _|i
  ·simp[sliceBounds,HT.sIx]
  ·simp only[sliceBounds,HT.sIx,Option.getD_none,show(1:Int) > 0 by decide,if_true]
   by_cases h:i<0
   ·simp only[h,if_true] <;> lia
   ·simp only[h,if_false] <;> lia
theorem XO(its:List Value)(lo hi:Option Int):slicePick its.toArray lo hi none=((its.drop (HT.sIx its.length 0 lo)).take (HT.sIx its.length its.length hi-HT.sIx its.length 0 lo)).toArray:=by
 refine X02 (WL lo hi its.toArray.size) fun h1 h2 h3=>?_
 unfold slicePick
 rw[h1,h2,h3]
 simp only[sliceRange_one,pick_run,size_toArray] <;> rfl
noncomputable def rSlL(K:Frag):V→Option Int→Option Int→Hp→VK→Prop:=fun x lo hi H Q=>∃a xs,x=.ref a∧SqL K H a xs∧∀p,H p=none→Q (.ref p) (upd H p (.lst (Gg xs lo hi)))
theorem T1:SlR X (rSlL X.K):=by
 intro pins s σ H x v vl vu lo hi sl Q I rx hs pl pu h
 obtain⟨a,xs,rfl,hx,q⟩:=h
 cases rx
 refine X12 (I.list hx) fun its r ht hz=>?_
 have hlen:=r.length
 refine Y22 ("list") _ slot_list_getitem.lookup ht.isList.typeIs ?_
 refine wpAny_getItem_list_slice ht.isList hs pl pu .none (by simp) ?_ (by rw[size_toArray] <;> lia)
 rw[XO,← hlen]
 refine Y22 (.ref s.heap.objs.size) _ (I.laid (t':=s.toks) (o:=.lst (Gg xs lo hi)) (fun b ob q=>get?_push_of_some _ q) (le_refl _) ?_) rfl (q _ (I.hok.fresh (le_refl _)))
 exact⟨le_trans (UB xs lo hi) hz,_,0,(r.drop (HT.sIx xs.length 0 lo)).take (HT.sIx xs.length xs.length hi-HT.sIx xs.length 0 lo),Heap.get?_push_size _ rfl⟩
theorem call_len_seq:CallR X (.builtin "len") (fun xs H Q=>∃p ys,xs=[.ref p]∧(SqL X.K H p ys∨SqT X.K H p ys)∧Q (.int ys.length) H):=by
 intro pins s σ H xs us Q I r h
 obtain⟨p,ys,rfl,hq,q⟩:=h
 obtain⟨u,rfl,rx⟩:=vals1 r
 cases rx
 have hn:=jZ
 rcases hq with hq|hq
 ·refine X12 (I.list hq) fun its r' pl hz=>?_
  have hlen:=r'.length
  exact Calls.call_len_list pl.isList (by simp only[size_toArray] <;> lia) ⟨.int ys.length,H,I.tok _,⟨s.toks+1,by rw[size_toArray,hlen]⟩,q⟩
 ·refine X12 (I.tuple hq) fun its r' pl hz=>?_
  have hlen:=r'.length
  exact len_tuple pl (by simp only[size_toArray] <;> lia) ⟨.int ys.length,H,I.tok _,⟨s.toks+1,by rw[size_toArray,hlen]⟩,q⟩
theorem Vp:CallR X (.builtin "len") (fun xs H Q=>∃z,xs=[.str z]∧z.length≤sizeLine∧Q (.int z.length) H):=by
 intro pins s σ H xs us Q I r h
 obtain⟨z,rfl,hz,q⟩:=h
 obtain⟨u,rfl,t,rfl⟩:=vals1 r
 have hn:=jZ
 exact len_str (by lia) ⟨.int z.length,H,I.tok _,⟨_,rfl⟩,q⟩
theorem CallR.or{f:Value}{r r':List V→Hp→VK→Prop}(h:CallR X f r)(h':CallR X f r'):CallR X f (fun xs H Q=>r xs H Q∨r' xs H Q):=by
 intro pins s σ H xs us Q I rs q
 rcases q with q|q
 ·exact h pins s σ H xs us Q I rs q
 ·exact h' pins s σ H xs us Q I rs q
theorem Vo:CallR X (.type "list") (fun xs H Q=>∃p ys,xs=[.ref p]∧(SqL X.K H p ys∨SqT X.K H p ys)∧∀l,H l=none→Q (.ref l) (upd H l (.lst ys))):=by
 intro pins s σ H xs us Q I r h
 obtain⟨p,ys,rfl,hq,q⟩:=h
 obtain⟨u,rfl,rx⟩:=vals1 r
 cases rx
 have fin:∀(its:List Value),Vals ys its→ys.length≤sizeLine→∀(h':Heap) (c':Nat),(∀b o',s.heap.get? b=some o'→h'.get? b=some o') →
   h'.get? s.heap.objs.size=some { cls:=.type "list", dict:=none,data:=.seq its.toArray c',slots:=#[] }→EP X pins σ Q (.ref s.heap.objs.size) { s with heap:=h' }:=fun its r' hz h' c' kp e=>
  ⟨.ref s.heap.objs.size,_,I.laid (t':=s.toks) kp (le_refl _) (show ObjOk X.prog X.w _ h' _ (.lst ys) from ⟨hz,its,c',r',e⟩),rfl,q _ (I.hok.fresh (le_refl _))⟩
 rcases hq with hq|hq
 ·refine X12 (I.list hq) fun its r' pl hz=>?_
  have hlen:=r'.length
  refine X12 pl.isList fun o ho hc r77_=>?_;refine X10 r77_ fun n hd=>?_
  exact call_list_seq p (.inl rfl) ho hc hd (fun h' c' kp e=>fin its r' hz h' c' kp e) (by simp only[size_toArray] <;> lia)
 ·refine X12 (I.tuple hq) fun its r' pl hz=>?_
  have hlen:=r'.length
  refine X12 pl fun o ho hc r76_=>?_;refine X10 r76_ fun n hd=>?_
  exact call_list_seq p (.inr rfl) ho hc hd (fun h' c' kp e=>fin its r' hz h' c' kp e) (by simp only[size_toArray] <;> lia)
noncomputable def tyV(K:Frag)(T:String)(x:V)(H:Hp):Prop:=match x with
 |.str _=>T = "str"
 |.int _=>T = "int"
 |.ref p=>(T = "list" ∧ ∃xs,SqL K H p xs)∨(T = "tuple" ∧ ∃o,K.lookup p=some o∧o.cls=.type "tuple" ∧ o.dict=none) ∨
   (T = "dict" ∧ ((∃kvs,H p=some (.dK kvs))∨∃kvs,H p=some (.dT kvs)))∨(T = "set" ∧ ∃S n,H p=some (.set S n))
 |_=>False
theorem Gr{pins:List (Addr×Obj)}{σ:St}{H:Hp}{s:Shared}{T:String}{x:V}{v:Value}(I:Inv X pins σ H s)(r:RelV x v)(ty:tyV X.K T x H) :
  s.TypeIs v T∧∀a,v=.ref a→∃ob,s.heap.get? a=some ob∧ob.dict=none:=by
 cases x with
 |str z=>
  obtain⟨t,rfl⟩:=r
  cases (show T = "str" from ty)
  exact⟨typeIs_str s z t,fun _ e=>nomatch e⟩
 |int i=>
  obtain⟨t,rfl⟩:=r
  cases (show T = "int" from ty)
  exact⟨typeIs_int s i t,fun _ e=>nomatch e⟩
 |ref p=>
  cases r
  rcases ty with ⟨rfl,xs,hq⟩|⟨rfl,o,hk,hc,hd⟩|⟨rfl,hk⟩|⟨rfl,S,n,hk⟩
  ·refine X12 (I.list hq) fun its _ pl _=>?_
   refine⟨pl.isList.typeIs,fun a e=>?_⟩
   replace e:=PySem.Value.ref.inj e;subst e
   refine X23 pl fun o n e c hd _=>?_
   exact Y11 o e hd
  ·refine⟨⟨o,I.kIn p o hk,hc⟩,fun a e=>?_⟩
   replace e:=PySem.Value.ref.inj e;subst e
   exact Y11 o (I.kIn _ o hk) hd
  ·have z:∃o,s.heap.get? p=some o∧o.ExactDict:=by
    rcases hk with ⟨kvs,hk⟩|⟨kvs,hk⟩
    ·refine X02 (I.hok p _ hk) fun _ _ r74_=>?_;refine X11 r74_ fun _ _ r75_=>?_;refine X32 r75_ fun o _ _ e ex _=>?_
     exact Y11 o e ex
    ·refine X02 (I.hok p _ hk) fun _ _ r72_=>?_;refine X11 r72_ fun _ _ r73_=>?_;refine X32 r73_ fun o _ _ e ex _=>?_
     exact Y11 o e ex
   refine X11 z fun o e ex=>?_
   refine⟨⟨o,e,ex.1⟩,fun a e2=>?_⟩
   replace e2:=PySem.Value.ref.inj e2;subst e2
   exact Y11 o e ex.2.1
  ·obtain⟨o,_,_,_,e,ex,_⟩:=I.hok p _ hk
   refine⟨⟨o,e,ex.1⟩,fun a e2=>?_⟩
   replace e2:=PySem.Value.ref.inj e2;subst e2
   exact Y11 o e ex.2.1
 |_=>exact False.elim ty
noncomputable def tBM0(K:Frag)(T:String)(r:V→List V→Hp→VK→Prop)(to:TE):TE:=fun σ H Q=>to σ H fun x H1=>tyV K T x H1∧r x [] H1 Q
noncomputable def tBM(K:Frag)(T:String)(r:V→List V→Hp→VK→Prop)(to:TE)(t:TA):TE:=fun σ H Q=>to σ H fun x H1=>tyV K T x H1∧t σ H1 fun xs H2=>r x xs H2 Q
variable{o e:Expr}{es:List Expr}{to:TE}{t:TA}{name:Str}{apos cpos:Pos}{T id:String}{r:V→List V→Hp→VK→Prop}
theorem zh9(pa:PlainAttrs T)(slot:Slot T name id)(hty:typeOf (.builtin id)=pure (.type "method_descriptor"))(hm:MtR X id r)(ho:PE X o to)
  (hbase:attributeBase o name X.env (eval o X.env)=eval o X.env:=by rfl) (hline:(apos.endLine==cpos.line)=true:=by rfl):PE X (.Call (.Attribute o name apos) [] [] cpos) (tBM0 X.K T r to):=by
 intro pins s σ H Q I h
 refine wpAny_Call_method0_late hbase hline (thn (ho pins s σ H _ I h) fun v s1 z_=>?_)
 refine X23 z_ fun x H1 I1 r1 ty q1=>?_
 obtain⟨h1,h2⟩:=Gr I1 r1 ty
 exact Y25 T id pa slot hty h1 h2 (Calls.callWith_builtin rfl (PySem.evalArgs_none (hm pins s1 σ H1 x [] v [] Q I1 r1 .nil q1)))
theorem G8(pa:PlainAttrs T)(slot:Slot T name id)(hty:typeOf (.builtin id)=pure (.type "method_descriptor"))(hm:MtR X id r)(ho:PE X o to)(ha:PA X (e::es) t)
  (hbase:attributeBase o name X.env (eval o X.env)=eval o X.env:=by rfl)
  (hfew:((backTo cpos (starEach (e::es) X.env)).all (fun x=>!x.1)&&(backToKw cpos (keywordEach [] X.env)).all (fun x=>x.1.isSome)
   && decide ((e::es).length+([]:List Keyword).length+(if ([]:List Keyword).isEmpty then 0 else 1)<30))=true:=by rfl)
  (hline:(apos.endLine==cpos.line)=true:=by rfl) (hs:starEach (e::es) X.env=(false,eval e X.env)::starEach es X.env:=by rfl) (hplain:(backTo cpos (starEach es X.env)).any (·.1)=false:=by rfl) :
  PE X (.Call (.Attribute o name apos) (e::es) [] cpos) (tBM X.K T r to t):=by
 intro pins s σ H Q I h
 refine wpAny_Call_method_late hbase hfew hline rfl (thn (ho pins s σ H _ I h) fun v s1 z_=>?_)
 refine X23 z_ fun x H1 I1 r1 ty q1=>?_
 obtain⟨h1,h2⟩:=Gr I1 r1 ty
 refine Y25 T id pa slot hty h1 h2 ?_
 have hA:=ha cpos pins s1 σ H1 _ I1 q1
 rw[hs] at hA ⊢
 refine Calls.callWith_builtin (by show(false||(backTo cpos (starEach es X.env)).any (·.1))=false;rw[hplain] <;> rfl) (Calls.evalArgs_plain ?_)
 exact thn hA fun us s2 z_=>by refine X22 z_ fun vs H2 I2 r2 q2=>?_;exact hm pins s2 σ H2 x vs v us Q I2 r1 r2 q2
end
noncomputable def MtM(X:Cx)(id:String)(r:V→List V→Hp→VK→Prop):Prop:=
 ∀(pins:List (Addr×Obj)) (s:Shared) (σ:St) (H:Hp) (x:V) (xs:List V) (v:Value) (us:List Value) (Q:VK),Inv X pins σ H s→RelV x v→Vals xs us→r x xs H Q →
  wpAny (model X.prog X.w) X.A (call (.builtin id) (v::us)) (EP X pins σ Q) X.xe s
theorem Vals.one{x:V}{us:List Value}(h:Vals [x] us):∃u,us=[u]∧RelV x u:=by
 cases h with
 |cons r h=>cases h;exact Y11 _ rfl r
theorem Vals.rep{xs:List V}{us:List Value}(h:Vals xs us):∀k:Nat,Vals (List.replicate k xs).flatten (List.replicate k us).flatten:=by
 intro l_
 induction l_ with
 |zero=>
  exact .nil
 |succ k ih_=>
  rw[replicate_succ,replicate_succ,flatten_cons,flatten_cons]
  exact Vals.append h (ih_)
theorem foldl_rep(its:List Value):∀(k:Nat) (acc:List Value),
  List.foldl (fun x1 x2=>x1++x2) acc.toArray (List.replicate k its.toArray)=(acc++(List.replicate k its).flatten).toArray:=by
 intro l_
 induction l_ with
 |zero=>
  rintro acc
  simp
 |succ k ih_=>
  rintro acc
  have e:acc.toArray++its.toArray=(acc++its).toArray:=by simp
  have e2:(acc++its)++(List.replicate k its).flatten=acc++(List.replicate (k+1) its).flatten:=by
   rw[replicate_succ,flatten_cons,List.append_assoc]
  rw[← e2,← ih_ (acc++its),← e,replicate_succ,foldl_cons]
section
variable{X:Cx}{pins:List (Addr×Obj)}{σ:St}{H:Hp}{s:Shared}{l b:Addr}{xs ys zs:List V}
theorem Inv.lset{its its':List Value}{n:Nat}{f:Array Value→Array Value}{t':Nat}(I:Inv X pins σ H s)(hH:H l=some (.lst xs))
  (e:s.heap.get? l=some { cls:=.type "list", data:=.seq its.toArray n }) (hf:f its.toArray=its'.toArray) (hv:Vals ys its') (hz:ys.length≤sizeLine) :
  Inv X pins σ (upd H l (.lst ys)) { s with heap:=s.heap.update l (Obj.mapSeq f),toks:=t' }:=by
 have q:=PySem.IsL.update e f
 rw[hf] at q
 refine I.write (x:=l) (e:=l) (by rw[hH];exact trivial) (.inl rfl) (fun b' u hb hu=>(Heap.get?_update_other s.heap (Obj.mapSeq f) (Ne.symm hb)).trans hu) ⟨_,q⟩ ?_
 exact⟨hz,its',_,hv,q⟩
theorem Inv.lnew{its:List Value}{t':Nat}(I:Inv X pins σ H s)(hv:Vals ys its)(hz:ys.length≤sizeLine) :
  Inv X pins σ (upd H s.heap.objs.size (.lst ys)) { s with heap:=s.heap.push { cls:=.type "list", data:=.seq its.toArray },toks:=t' }:=
 I.laid (fun _ _ q=>get?_push_of_some _ q) (le_refl _) ⟨hz,its,0,hv,Heap.get?_push_size _ rfl⟩
theorem Inv.fresh(I:Inv X pins σ H s):H s.heap.objs.size=none:=I.hok.fresh (le_refl _)
theorem Inv.lstM(I:Inv X pins σ H s)(hH:H l=some (.lst xs)):xs.length≤sizeLine∧∃(its:List Value) (n:Nat),Vals xs its∧xs.length=its.length∧s.heap.get? l=some { cls:=.type "list", data:=.seq its.toArray n }:=by
 refine X01 (I.hok l _ hH) fun z r71_=>?_;refine X21 r71_ fun its n r e=>?_
 exact⟨z,its,n,r,r.length,e⟩
theorem Mw{n:Nat}(h:n≤sizeLine):Builtin.List.listTooLong n=false:=by
 unfold Builtin.List.listTooLong
 exact decide_eq_false (by lia)
end
section
variable{X:Cx}
noncomputable def T9:V→List V→Hp→VK→Prop:=fun x vs H Q=>∃l xs y,x=.ref l∧vs=[y]∧H l=some (.lst xs)∧xs.length<sizeLine∧Q .non (upd H l (.lst (xs++[y])))
theorem ZS:MtM X "list.append" T9:=by
 intro pins s σ H x vs v us Q I rx rv h
 obtain⟨l,xs,y,rfl,rfl,hH,hz,q⟩:=h
 cases rx
 obtain⟨u,rfl,ru⟩:=rv.one
 refine X01 (I.lstM hH) fun z r70_=>?_;refine X22 r70_ fun its n r hl e=>?_
 refine call_meets F.slot_list_append ⟨_,e,rfl⟩ F.entry_list_append (F.args_list_append_2 _ _) (PySem.list_append l its.toArray n u (by rw[size_toArray];lia)) ⟨e,?_⟩
 refine Y22 .non _ (I.lset (its':=its++[u]) hH e (by simp) (r.append (.cons ru .nil)) ?_) rfl q
 rw[length_append,length_singleton]
 lia
noncomputable def rCat:R2:=fun x y H Q=>∃l b xs zs,x=.ref l∧y=.ref b∧H l=some (.lst xs)∧H b=some (.lst zs)∧xs.length+zs.length≤sizeLine∧∀p,H p=none→Q (.ref p) (upd H p (.lst (xs++zs)))
theorem zj3:OpR X (binaryOp .Add) rCat:=by
 intro pins s σ H x y v u Q I rx ry h
 obtain⟨l,b,xs,zs,rfl,rfl,hH,hB,hz,q⟩:=h
 cases rx
 cases ry
 refine X01 (I.lstM hH) fun z r69_=>?_;refine X22 r69_ fun its n r hl e=>?_
 refine X01 (I.lstM hB) fun z2 r68_=>?_;refine X22 r68_ fun its2 n2 r2 hl2 e2=>?_
 refine PySem.P.add_list e e2 ?_ (by rw[size_toArray,size_toArray];lia)
 have ea:its.toArray++its2.toArray=(its++its2).toArray:=by simp
 rw[ea]
 exact Y22 (.ref _) _ (I.lnew (t':=s.toks) (r.append r2) (by rw[length_append];lia)) rfl (q _ I.fresh)
noncomputable def rRep:R2:=fun x y H Q=>∃l k xs,x=.ref l∧y=.int k∧H l=some (.lst xs)∧-(2 ^ 63)≤k∧k<2 ^ 63∧xs.length*k.toNat≤sizeLine ∧
 ∀p,H p=none→Q (.ref p) (upd H p (.lst (List.replicate k.toNat xs).flatten))
theorem LW{α:Type}(xs:List α)(k:Nat):(List.replicate k xs).flatten.length=k*xs.length:=by
 induction k with
 |zero=>simp
 |succ k ih=>rw[replicate_succ,flatten_cons,length_append,ih,Nat.succ_mul,Nat.add_comm]
theorem zj0:OpR X (binaryOp .Mult) rRep:=by
 intro pins s σ H x y v u Q I rx ry h
 obtain⟨l,k,xs,rfl,rfl,hH,h1,h2,hz,q⟩:=h
 cases rx
 obtain⟨t,rfl⟩:=ry
 refine X01 (I.lstM hH) fun z r67_=>?_;refine X22 r67_ fun its n r hl e=>?_
 have hlen:its.toArray.size*k.toNat≤sizeLine:=by rw[size_toArray,← hl];exact hz
 have hcap:¬ its.toArray.size*k.toNat > (2 ^ 63-1) / 8:=by
  have:(sizeLine:Nat)≤(2 ^ 63-1) / 8:=by decide
  lia
 have hfit:¬ (!Builtin.List.listFitsIndex k)=true:=by
  rw[fitsIndex_both h1 h2]
  exact Bool.false_ne_true
 have hlong:¬ Builtin.List.listTooLong (its.toArray.size*k.toNat)=true:=by
  rw[Mw hlen]
  exact Bool.false_ne_true
 have hnew:List.foldl (fun x1 x2=>x1++x2) #[] (List.replicate (if its.toArray.isEmpty=true then 0 else k.toNat) its.toArray)=(List.replicate k.toNat its).flatten.toArray:=by
  have f0:∀m:Nat,List.foldl (fun x1 x2=>x1++x2) #[] (List.replicate m its.toArray)=(List.replicate m its).flatten.toArray:=fun m=>by
   have:=foldl_rep its m []
   rw[nil_append] at this
   exact this
  rw[f0]
  rcases its with _|⟨a,r'⟩
  ·simp
  ·rw[if_neg (by simp)]
 refine wpAny_binaryOp_repeat_ref (T := "list") (U := "int") (by decide) ⟨_,e,rfl⟩ (fun s'=>typeIs_int s' k t) noFill_list_mul F.fills_int_mul F.slot_int_rmul repeat_list F.slot_int_index.lookup
  (call_meets F.slot_int_rmul (typeIs_int s k t) F.entry_int_rmul (F.args_int_rmul_2 _ _) (int___rmul___int_list k t l its.toArray n)
   ⟨e,rfl,⟨_,e,rfl⟩,call_meets F.slot_list_mul ⟨_,e,rfl⟩ F.entry_list_mul (F.args_list_mul_2 _ _) (AutoListH.list___mul___list_int_3 l its.toArray n k t hfit hcap hlong) ⟨e,?_⟩⟩)
 rw[hnew]
 exact Y22 (.ref _) _ (I.lnew (t':=s.toks) (r.rep k.toNat) (by rw[LW,Nat.mul_comm];exact hz)) rfl (q _ I.fresh)
end
section
variable{prog:Program}{w:World}{A:Around}{E:Value→Shared→Prop}{s:Shared}
end
section
variable{X:Cx}
end
end L2
namespace Att
open PySem PySem.W PySem.Calls PyProof.Rows
theorem Ys{P:Params}{h:Heap}:∀(ns:List Int) (vs:List Value),WellAll P h vs (ns.map WData.int)→IntsAre vs ns:=by
 intro ns
 induction ns with
 |nil=>
  intro vs w
  rw[map_nil] at w
  cases w
  exact .nil
 |cons n ns ih=>
  intro vs w
  rw[map_cons] at w
  cases w with
  |cons a b=>
   cases a
   exact .cons _ _ (ih _ b)
theorem QC{l:OpenLaw}{n:Nat}(hn:l.most=some n){P:Params}{h:Heap}{args:List WData}{vals:List Value}
  (hpre:l.row.toRowW.claim.pre args=true) (hwl:WellAll P h vals args) :
  ∃a vs ns,vals=[Value.ref a]∧args=[WData.list (ns.map WData.int)]∧h.get? a=some { cls:=.type "list", data:=.seq vs.toArray }∧IntsAre vs ns∧ns.length≤n:=by
 have hsh:WShape.hasAll [] args [.list .int]=true:=(pre_splitW hpre).1
 have hc:l.pre.holds [] { args:=args }=true:=(pre_splitW hpre).2
 obtain⟨d,r,rfl,h1,h2⟩:=hasAllW_cons hsh
 obtain rfl:=hasAllW_nil h2
 obtain⟨xs,rfl,h3⟩:=hasW_list h1
 obtain⟨ns,rfl⟩:=items_int h3
 have hlen:ns.length≤n:=by
  unfold OpenLaw.pre at hc
  have h4:(WTm.not (.lt (.lit (.int (n:Int))) (.len (.arg 0)))).holds [] { args:=[.list (ns.map .int)] }=true:=by
   have h4:=(holds_andW hc).1
   rw[hn] at h4
   exact h4
  have h5:=condW_of h4 (w_not (w_lt w_lit (w_len_list (w_arg rfl))))
  rw[length_map] at h5
  refine Nat.le_of_not_lt fun q=>?_
  have q':(n:Int)<((ns.length:Nat):Int):=by lia
  first
   | (rw[decide_eq_true q'] at h5;exact absurd h5 (by decide))
   | (simp at h5;lia)
 cases hwl with
 |cons w1 w2=>
  cases w2
  cases w1 with
  |list ho hall=>exact Y34 _ _ ns rfl rfl ho (Ys ns _ hall) hlen
theorem QG(l:OpenLaw)(args:List WData):l.row.toRowW.claim.post args (.bool true) args=true:=
 postW_of (r:=l.row.toRowW) (X:=(true==true))
  (show WShape.has [] (.bool true) .bool=true by first|rfl|decide|simp[WShape.has,WShape.arms,WShape.armsAll])
  (show(WTm.eq .res (.lit (.bool true))).value [] { args:=args,res:=some (.bool true),after:=args }=some (.bool (true==true)) from w_eq_bool (w_res rfl) w_lit) rfl
theorem attach_call{l:OpenLaw}{n:Nat}{q:Program}{loose:List Str}{XP:(Str→Option Value)→Heap→Prop}{YP:World→Heap→Prop}{d:DefRec}
  (hn:l.most=some n) (hdf:d.params.defaults=[])
  (call:∀(w:World) (s₀ s₁:Shared) (mg mb:Str→Option Value) (fa:Addr) (o:Obj) (pm cd doc:Value) (a:Addr) (vs:List Value) (ns:List Int),
   Ground q loose [] XP w s₀ mg mb s₁.heap→YP w s₁.heap →
   s₁.heap.get? fa=some o→o.data=.func (docDef d.name d.params d.body d.scope pm cd doc)→s₁.heap.CodeRec cd d.name→mg d.name=some (.ref fa) →
   s₁.heap.get? a=some { cls:=.type "list", data:=.seq vs.toArray }→IntsAre vs ns→ns.length≤n→s₁.gens = #[] →
   codeAny (model l.prog w) callerA (.call (.ref fa) ⟨[.ref a],[]⟩) (fun r s'=>r=.ok (.ret (.bool true))∧OldK s₁.heap s'.heap∧s'.os=s₁.os∧AllBare s'.gens) s₁) :
  WalkO q loose XP YP l.row.toRowW d [] (fun f vs=>PySem.call f vs):=by
 intro w s₀ s₁ mg mb G Y fa o pm cd doc dV kV ho hd hcd hD hmg hg args vals as hpre hlay hrd hwl hlo
 obtain rfl:dV=.none:=Dflts.none hD hdf
 obtain rfl:kV=.none:=Dflts.noKw hD
 obtain⟨a,vs,ns,rfl,rfl,hobj,hints,hlen⟩:=QC hn hpre hwl
 refine enter_call (codeAny_mono (call w s₀ s₁ mg mb fa o pm cd doc a vs ns G Y ho (fd_plain hd) hcd hmg hobj hints hlen hg) fun r s' hq=>?_)
 obtain⟨rfl,h2,h3,h4⟩:=hq
 exact⟨.inl ⟨.bool true,.bool true,[],rfl,fun _=>rfl,.bool true,QG l _,fun _=>⟨List.Pairwise.nil,fun _ hm=>(nomatch hm)⟩⟩,h2,h3,h4⟩
section
variable{prog:Program}{w:World}{A:Around}{E:Value→Shared→Prop}{s:Shared}{K:Frag}
end
end Att
namespace L2
open PySem PySem.Spec PyProof.Rows
theorem vals_ints:∀{vs:List Value} {ns:List Int},IntsAre vs ns→Vals (ns.map V.int) vs
 |_,_,.nil=>.nil
 |_,_,.cons n t h=>.cons ⟨t,rfl⟩ (vals_ints h)
noncomputable def Only(H:Hp):Prop:=∀b,H b=none∨∃o xs,H b=some (.frz o (.lst xs))
noncomputable def uH(s:Stmt)(j:Nat):Stmt:=match s with
 |.ClassDef _ _ _ body _ _ _ _ _ _ _=>body.getD j (.Pass ⟨0,0,0,0⟩)
 |_=>.Pass ⟨0,0,0,0⟩
noncomputable def zG(s:Stmt):Arguments:=match s with
 |.FunctionDef _ a _ _ _ _ _ _ _ _=>a
 |_=>{ posonlyargs:=[],args:=[],vararg:=none,kwonlyargs:=[],kw_defaults:=[],kwarg:=none,defaults:=[] }
noncomputable def zC(s:Stmt):List Stmt:=match s with
 |.FunctionDef _ _ b _ _ _ _ _ _ _=>b
 |_=>[]
noncomputable def zh(s:Stmt):Scope:=match s with
 |.FunctionDef _ _ _ _ _ _ sc _ _ _=>sc
 |_=>{ kind:=.function,names:=[],isGenerator:=false,isCoroutine:=false }
noncomputable abbrev CX0:CXT:=fun _ _ _ _ _ _=>False
noncomputable abbrev E0:XK:=fun _ _ _=>False
theorem Z9{X:Cx}:ji CX0 X E0:=fun _ _ _ _ _ _ _ h=>h.elim
structure Fun(K:Frag)(x qual:Str)(st:Stmt)(f:Addr)(fd:FuncData):Prop where
 ex:∃(oc:Value) (od:Option Addr) (kV doc pm:Value) (an:Option Addr) (cdv ct:Value) (osl:Array (Option Value)),
  fd=fnOf x qual (zG st) (zC st) (zh st) .none kV doc pm an cdv ct∧K.lookup f=some ⟨oc,od,.func fd,osl⟩∧codeIn K cdv qual=true
 kp:keepIn K (.ref f)=true
section
variable{P:Program}{w:World}{K:Frag}{mg:Str→Option Value}{base:Heap}
theorem Fun.ok{x qual:Str}{st:Stmt}{f:Addr}{fd:FuncData}{N ps:List Str}{k:Nat}{sp:Sp}(F:Fun K x qual st f fd)(S:zF N ps (zh st))(len:∀vs H Q E,sp vs H Q E→vs.length=ps.length)
  (hbody:∀(cdv:Value) (A:Around) (outer:List Env) (s:Shared) (H:Hp) (vs:List V) (Q:VK) (E:XK),Room k (A.deeper (envOfC qual (zh st) s.heap.objs.size f cdv))→sp vs H Q E →
   ∃t,PSs (v0 CX0 P w K mg base N qual (zh st) f cdv A outer s H E).nox (zC st) t∧t { nx:=fun _ H'=>Q .non H',rt:=Q } (start N vs) H):FnOk P w K mg base CX0 (k+1) f fd ps sp:=by
 obtain⟨oc,od,kV,doc,pm,an,cdv,ct,osl,rfl,lk,hcd⟩:=F.ex
 refine M5 lk hcd S len fun A outer s H vs Q E hr hsp=>?_
 refine X11 (hbody cdv A outer s H vs Q E hr hsp) fun t h q=>?_
 exact Y11 t h.nox q
theorem Fun.binds{x qual:Str}{st:Stmt}{f:Addr}{fd:FuncData}{ps:List Str}(F:Fun K x qual st f fd)
  (h:∀(kV doc pm:Value) (an:Option Addr) (cdv ct:Value) (us:List Value),us.length=ps.length→bindArgs (fnOf x qual (zG st) (zC st) (zh st) .none kV doc pm an cdv ct) ⟨us,[]⟩=pure (ps.zip us)):Binds K fd ps []:=by
 obtain⟨oc,od,kV,doc,pm,an,cdv,ct,osl,rfl,lk,hcd⟩:=F.ex
 exact .all (h kV doc pm an cdv ct)
theorem yu{x qual:Str}{st:Stmt}{f:Addr}{oc:Value}{od an:Option Addr}{osl:Array (Option Value)}{kV doc pm cdv ct:Value}(l:K.lookup f=some ⟨oc,od,.func (fnOf x qual (zG st) (zC st) (zh st) .none kV doc pm an cdv ct),osl⟩)
  (c:codeIn K cdv qual=true) (k:keepIn K (.ref f)=true):Fun K x qual st f (fnOf x qual (zG st) (zC st) (zh st) .none kV doc pm an cdv ct):=⟨⟨oc,od,kV,doc,pm,an,cdv,ct,osl,rfl,l,c⟩,k⟩
end
theorem vc{n:Nat}(h:n≤1000):n<sizeLine:=Nat.lt_of_le_of_lt h (by decide)
section
variable{X:Cx}
theorem pv(i:Nat){x:Str}{pos:Pos}(hN:X.N[i]?=some x:=by rfl)(hv:Vis X.env.scope x:=by first|exact Or.inl rfl|exact Or.inr (Or.inl rfl) | exact Or.inr (Or.inr rfl))(hd:(x==("__debug__" : Str))=false:=by decide)
  (hcd:(x==("__classdict__" : Str))=false:=by decide):PE X (.Name x pos) (uW i):=zh3 hN hv hd hcd
end
noncomputable def Same(H H':Hp):Prop:=∀b o,H b=some o→H' b=some o
theorem Same.refl(H:Hp):Same H H:=fun _ _ h=>h
theorem Same.trans{H H1 H2:Hp}(a:Same H H1)(b:Same H1 H2):Same H H2:=fun c o h=>b c o (a c o h)
theorem Same.seq{K:Frag}{H H':Hp}{a:Addr}{xs:List V}(e:Same H H')(h:SqL K H a xs):SqL K H' a xs:=by
 rcases h with (h|⟨o,h⟩) | h
 ·exact .inl (.inl (e _ _ h))
 ·exact .inl (.inr ⟨o,e _ _ h⟩)
 ·exact .inr h
end L2
namespace FD
open PySem PySem.Spec PyProof.Rows L2
noncomputable abbrev St:=L2.St
inductive D where
 | non|bl (b:Bool) | int (i:Int) | str (x:Str) | lst (xs:List D) | tup (xs:List D) | scr (ns:List Int) | raw (v:V) | exc (c:Str) | dct (ks:List Key) (ds:List D)
inductive Rs (α:Type) where
 | ok (a:α) | ex (c:Str) | no
noncomputable def Rs.bind{α β:Type}(r:Rs α)(k:α→Rs β):Rs β:=match r with
 |.ok a=>k a
 |.ex c=>.ex c
 |.no=>.no
@[simp] theorem Rs.bind_ok{α β:Type}(a:α)(k:α→Rs β):(Rs.ok a).bind k=k a:=rfl
noncomputable def WA(K:Frag)(a:Addr)(c:Str):Heap→Prop:=fun h=>∃oe cls vs,h.get? a=some oe∧oe.cls=cls∧oe.dict=none∧oe.data=.fields vs∧nsIn K mainGlobals c=some (some cls)
section
variable(K:Frag)
mutual
noncomputable def Rep(F:Hp):D→V→Prop
 |.non,v=>v=.non
 |.bl b,v=>v=.bl b
 |.int i,v=>v=.int i
 |.str x,v=>v=.str x
 |.lst ds,v=>∃a vs,v=.ref a∧F a=some (.lst vs)∧Reps F ds vs
 |.scr ns,v=>∃a,v=.ref a∧SqL K F a (ns.map V.int)
 |.tup ds,v=>∃a vs,v=.ref a∧SqT K F a vs∧Reps F ds vs
 |.raw u,v=>v=u
 |.exc c,v=>∃a,v=.ref a∧F a=some (.ext (WA K a c))
 |.dct ks ds,v=>∃a kvs o,v=.ref a∧F a=some (.frz o (.dK kvs))∧kvs.map (·.1)=ks∧Reps F ds (kvs.map (·.2))
noncomputable def Reps(F:Hp):List D→List V→Prop
 |[],vs=>vs=[]
 |d::ds,vs=>∃v r,vs=v::r∧Rep F d v∧Reps F ds r
end
end
theorem Same.refl(H:Hp):Same H H:=fun _ _ h=>h
theorem Same.seqT{K:Frag}{H H':Hp}{a:Addr}{xs:List V}(e:Same H H')(h:SqT K H a xs):SqT K H' a xs:=by
 rcases h with (h|⟨o,h⟩) | h
 ·exact .inl (.inl (e _ _ h))
 ·exact .inl (.inr ⟨o,e _ _ h⟩)
 ·exact .inr h
section
variable{K:Frag}{F F':Hp}
mutual
theorem Rep.mono(h:Same F F'):∀{d:D} {v:V},Rep K F d v→Rep K F' d v
 |.non,_,r=>by simpa only[Rep] using r
 |.bl _,_,r=>by simpa only[Rep] using r
 |.int _,_,r=>by simpa only[Rep] using r
 |.str _,_,r=>by simpa only[Rep] using r
 |.raw _,_,r=>by simpa only[Rep] using r
 |.exc c,v,r=>by
  simp only[Rep] at r ⊢
  refine X11 r fun a e q=>?_
  exact Y11 a e (h _ _ q)
 |.dct ks ds,v,r=>by
  simp only[Rep] at r ⊢
  refine X33 r fun a kvs o e q k t=>?_
  exact Y33 a kvs o e (h _ _ q) k (Reps.mono h t)
 |.lst ds,v,r=>by
  simp only[Rep] at r ⊢
  refine X22 r fun a vs e q t=>?_
  exact Y22 a vs e (h _ _ q) (Reps.mono h t)
 |.scr ns,v,r=>by
  simp only[Rep] at r ⊢
  refine X11 r fun a e q=>?_
  exact Y11 a e (h.seq q)
 |.tup ds,v,r=>by
  simp only[Rep] at r ⊢
  refine X22 r fun a vs e q t=>?_
  exact Y22 a vs e (Same.seqT h q) (Reps.mono h t)
theorem Reps.mono(h:Same F F'):∀{ds:List D} {vs:List V},Reps K F ds vs→Reps K F' ds vs
 |[],_,r=>by simpa only[Reps] using r
 |d::ds,vs,r=>by
  simp only[Reps] at r ⊢
  refine X22 r fun v r' e q t=>?_
  exact Y22 v r' e (Rep.mono h q) (Reps.mono h t)
end
theorem Reps.length:∀{ds:List D} {vs:List V},Reps K F ds vs→ds.length=vs.length
 |[],_,r=>by simp only[Reps] at r;subst r;rfl
 |d::ds,_,r=>by
  simp only[Reps] at r
  obtain⟨v,r',rfl,_,t⟩:=r
  simp[Reps.length t]
theorem Reps.get:∀{ds:List D} {vs:List V} {i:Nat} {d:D},Reps K F ds vs→ds[i]?=some d→∃v,vs[i]?=some v∧Rep K F d v
 |[],_,_,_,_,e=>by simp at e
 |d::ds,_,0,_,r,e=>by
  simp only[Reps] at r
  obtain⟨v,r',rfl,q,t⟩:=r
  simp at e;subst e
  exact Y11 v rfl q
 |d::ds,_,i+1,_,r,e=>by
  simp only[Reps] at r
  obtain⟨v,r',rfl,q,t⟩:=r
  refine X11 (Reps.get (i:=i) t (by simpa using e)) fun w h1 h2=>?_
  exact Y11 w (by simpa using h1) h2
theorem Reps.nil:Reps K F [] []:=by simp only[Reps]
theorem Reps.cons{d:D}{v:V}{ds:List D}{vs:List V}(h:Rep K F d v)(t:Reps K F ds vs):Reps K F (d::ds) (v::vs):=by
 simp only[Reps];exact Y22 v vs rfl h t
theorem Reps.append:∀{ds es:List D} {vs ws:List V},Reps K F ds vs→Reps K F es ws→Reps K F (ds++es) (vs++ws)
 |[],_,_,_,r,t=>by simp only[Reps] at r;subst r;exact t
 |d::ds,es,_,ws,r,t=>by
  simp only[Reps] at r
  obtain⟨v,r',rfl,q,u⟩:=r
  exact Reps.cons q (Reps.append u t)
theorem Reps.take:∀{ds:List D} {vs:List V} (n:Nat),Reps K F ds vs→Reps K F (ds.take n) (vs.take n)
 |_,_,0,_=>by simp only[List.take_zero];exact Reps.nil
 |[],_,n+1,r=>by simp only[Reps] at r;subst r;simp only[List.take_nil];exact Reps.nil
 |d::ds,_,n+1,r=>by
  simp only[Reps] at r
  obtain⟨v,r',rfl,q,u⟩:=r
  exact Reps.cons q (Reps.take n u)
theorem Reps.drop:∀{ds:List D} {vs:List V} (n:Nat),Reps K F ds vs→Reps K F (ds.drop n) (vs.drop n)
 |_,_,0,r=>r
 |[],_,n+1,r=>by simp only[Reps] at r;subst r;simp only[List.drop_nil];exact Reps.nil
 |d::ds,_,n+1,r=>by
  simp only[Reps] at r
  obtain⟨v,r',rfl,q,u⟩:=r
  exact Reps.drop n u
theorem Reps.set{d:D}{v:V}(h:Rep K F d v):∀{ds:List D} {vs:List V} (i:Nat),Reps K F ds vs→Reps K F (ds.set i d) (vs.set i v)
 |[],_,_,r=>by simp only[Reps] at r;subst r;exact Reps.nil
 |e::ds,_,0,r=>by
  simp only[Reps] at r
  obtain⟨w,r',rfl,q,u⟩:=r
  exact Reps.cons h u
 |e::ds,_,i+1,r=>by
  simp only[Reps] at r
  obtain⟨w,r',rfl,q,u⟩:=r
  exact Reps.cons q (Reps.set h i u)
theorem Reps.one{d:D}{vs:List V}(h:Reps K F [d] vs):∃v,vs=[v]∧Rep K F d v:=by
 simp only[Reps] at h
 refine X22 h fun v r e q e2=>?_
 subst e2;exact Y11 v e q
theorem Reps.two{d e:D}{vs:List V}(h:Reps K F [d,e] vs):∃v w,vs=[v,w]∧Rep K F d v∧Rep K F e w:=by
 simp only[Reps] at h
 refine X22 h fun v r e1 q r66_=>?_;refine X22 r66_ fun w r2 e2 q2 e3=>?_
 subst e3;subst e2;exact Y22 v w e1 q q2
theorem Reps.rep{ds:List D}{vs:List V}(h:Reps K F ds vs):∀k:Nat,Reps K F (List.replicate k ds).flatten (List.replicate k vs).flatten:=by
 intro l_
 induction l_ with
 |zero=>
  exact Reps.nil
 |succ k ih_=>
  rw[replicate_succ,replicate_succ,flatten_cons,flatten_cons]
  exact Reps.append h (ih_)
theorem Reps.ints:∀(ns:List Int),Reps K F (ns.map D.int) (ns.map V.int):=by
 intro l_
 induction l_ with
 |nil=>
  exact Reps.nil
 |cons n r ih_=>
  exact Reps.cons (by simp only[Rep]) (ih_)
end
noncomputable def Tabs.rows : List (Addr×Nat×Nat×Str) := [(136,79,28,("in_order" : Str) ++ ".<locals>." ++ "<lambda>")]
noncomputable def Tabs.own : Str→Str→Bool := fun c f=>false
noncomputable def XF(c:Addr)(q:Str):Heap→Prop:=fun h=>h.CodeRec (.ref c) q
noncomputable def TOk(F H:Hp)(r:Addr×Nat×Nat×Str):Prop:=F r.1=none∧(H r.1=some (.tbl #[])∨∃c,H r.1=some (.tbl #[rawInt r.2.1,rawInt r.2.2.1,.ref c])∧H c=some (.ext (XF c r.2.2.2)))
noncomputable def OwnOk(H:Hp):Prop:=∀d a,H d=some (.own a)→∃C dx vs,H a=some (.ins C dx vs)
noncomputable def TbT(F H:Hp):Prop:=(∀r∈Tabs.rows,TOk F H r)∧OwnOk H
theorem TOk.step{F H F' H':Hp}{r:Addr×Nat×Nat×Str}(t:TOk F H r)(nw:∀a o,F' a=some o→F a=some o∨H a=none)(k:∀a o,H a=some o→(∀vs,o≠.lst vs)→H' a=some o):TOk F' H' r:=by
 have hn:∀ps,H r.1=some (.tbl ps)→F' r.1=none:=fun ps e=>by
  rcases q:F' r.1 with _|o
  ·rfl
  ·rcases nw _ _ q with z|z
   ·rw[t.1] at z;nomatch z
   ·rw[e] at z;nomatch z
 rcases t.2 with e|⟨c,e,e2⟩
 ·exact⟨hn _ e,.inl (k _ _ e fun _ z=>nomatch z)⟩
 ·exact⟨hn _ e,.inr ⟨c,k _ _ e (fun _ z=>nomatch z),k _ _ e2 fun _ z=>nomatch z⟩⟩
theorem TbT.step{F H F' H':Hp}(t:TbT F H)(nw:∀a o,F' a=some o→F a=some o∨H a=none)(k:∀a o,H a=some o→(∀vs,o≠.lst vs)→H' a=some o)(no:∀d a,H' d=some (.own a)→H d=some (.own a)):TbT F' H':=⟨fun r hr=>(t.1 r hr).step nw k,fun d a e=>by
 refine X30 (t.2 d a (no d a e)) fun C dx vs h=>?_
 exact⟨C,dx,vs,k _ _ h fun _ z=>nomatch z⟩⟩
theorem TbT.freeze{F H:Hp}{a:Addr}{vs:List V}{o:HO}(t:TbT F H)(e:H a=some (.lst vs)):TbT (upd F a o) H:=⟨fun r hr=>by
 obtain⟨t1,t2⟩:=t.1 r hr
 have:r.1≠a:=fun z=>by
  rw[z,e] at t2
  rcases t2 with q|⟨c,q,_⟩ <;> cases q
 exact⟨by rw[zp this];exact t1,t2⟩,t.2⟩
noncomputable def Kp:HO→Option HO→Prop
 |.tbl _,r=>∃ps,r=some (.tbl ps)
 |o,r=>r=some o
noncomputable def Hh(H H':Hp):Prop:=∀b o,H b=some o→Kp o (H' b)
theorem Kp.of{o:HO}{r:Option HO}(h:r=some o):Kp o r:=by cases o <;> first|exact h|exact⟨_,h⟩
theorem Kp.some{o:HO}{r:Option HO}(h:Kp o r):r≠none:=by
 cases o <;> first | (obtain⟨_,h⟩:=h;rw[h];simp) | (have h:r=_:=h;rw[h];simp)
theorem Hh.of{H H':Hp}(h:Same H H'):Hh H H':=fun b o e=>.of (h b o e)
theorem Hh.refl(H:Hp):Hh H H:=.of (Same.refl H)
theorem Hh.trans{H H1 H2:Hp}(a:Hh H H1)(b:Hh H1 H2):Hh H H2:=fun c o e=>by
 have k:=a c o e
 cases o <;> first|exact b c _ k | (obtain⟨ps,q⟩:=k;show ∃ps,H2 c=some (.tbl ps);exact b c _ q)
theorem yU{F H:Hp}(h:Hh F H){a:Addr}(e:H a=none):F a=none:=by
 rcases q:F a with _|o
 ·rfl
 ·exact absurd e (h a o q).some
structure Ext(F H F' H':Hp):Prop where
 ff:Same F F'
 hh:Hh H H'
 fh:Same F' H'
 nw:∀a o,F' a=some o→F a=some o∨H a=none
 tt:TbT F H→TbT F' H'
theorem Ext.refl{F H:Hp}(h:Same F H):Ext F H F H:=⟨Same.refl F,Hh.refl H,h,fun _ _ e=>.inl e,id⟩
theorem Ext.trans{F H F1 H1 F2 H2:Hp}(a:Ext F H F1 H1)(b:Ext F1 H1 F2 H2):Ext F H F2 H2:=
 ⟨a.ff.trans b.ff,a.hh.trans b.hh,b.fh,fun c o e=>by
  rcases b.nw c o e with q|q
  ·exact a.nw c o q
  ·exact .inr (yU a.hh q),fun t=>b.tt (a.tt t)⟩
theorem zO{F H:Hp}(h:Same F H){a:Addr}(e:H a=none):F a=none:=by
 rcases q:F a with _|o
 ·rfl
 ·rw[h a o q] at e;nomatch e
theorem yk{H:Hp}{p:Addr}{o:HO}(h:H p=none):Same H (upd H p o):=fun b u q=>by rw[zp (zI q h)];exact q
theorem QD{F H:Hp}{p:Addr}{o:HO}(h:Same F H)(hp:H p=none):Same (upd F p o) (upd H p o):=fun b u q=>by
 by_cases hb:b=p
 ·subst hb;rw[zr] at q ⊢;exact q
 ·rw[zp hb] at q ⊢;exact h b u q
theorem Ext.same{F H F' H':Hp}(ff:Same F F')(hh:Same H H')(fh:Same F' H')(nw:∀a o,F' a=some o→F a=some o∨H a=none)(no:∀d a,H' d=some (.own a)→H d=some (.own a)):Ext F H F' H':=⟨ff,.of hh,fh,nw,fun t=>t.step nw (fun a o e _=>hh a o e) no⟩
theorem uC{H:Hp}{p:Addr}{o:HO}(ho:∀a,o≠.own a):∀d a,upd H p o d=some (.own a)→H d=some (.own a):=fun d a e=>by
 by_cases h:d=p
 ·subst h;rw[zr] at e;replace e:=sJ_ e;subst e;exact absurd rfl (ho a)
 ·rw[zp h] at e;exact e
theorem Ext.new{F H:Hp}{p:Addr}{o:HO}(h:Same F H)(hp:H p=none)(ho:∀a,o≠.own a:=by intro _ h;nomatch h):Ext F H (upd F p o) (upd H p o):=
 .same (yk (zO h hp)) (yk hp) (QD h hp) (fun a u e=>by
  by_cases hb:a=p
  ·subst hb;exact .inr hp
  ·rw[zp hb] at e;exact .inl e) (uC ho)
theorem Ext.open{F H:Hp}{p:Addr}{o:HO}(h:Same F H)(hp:H p=none)(ho:∀a,o≠.own a:=by intro _ h;nomatch h):Ext F H F (upd H p o):=
 .same (Same.refl F) (yk hp) (h.trans (yk hp)) (fun a u e=>.inl e) (uC ho)
inductive Sl where
 | val (d:D)
 | own (ds:List D)
 | obj (n:Nat) (c:Str) (fs:List (Str×D))
 | obr (c:Str) (fs:List (Str×D))
noncomputable abbrev DS:=List (Option Sl)
noncomputable def OwnF(K:Frag)(F H:Hp)(d:D)(v:V):Prop:=∃ds l ws,d=.lst ds∧v=.ref l∧H l=some (.lst ws)∧F l=none∧Reps K F ds ws
noncomputable def Jn(K:Frag)(F H:Hp)(c f:Str)(d:D)(v:V):Prop:=if Tabs.own c f=true then OwnF K F H d v else Rep K F d v
noncomputable def Flds(K:Frag)(F H:Hp)(c:Str):List (Str×D)→List (Str×V)→Prop
 |[],[]=>True
 | (f,d)::r,(g,v)::s=>f=g∧Jn K F H c f d v∧Flds K F H c r s
 |_,_=>False
noncomputable def wG(c:Str):List (Str×V)→List Addr
 |[]=>[]
 | (f,v)::r=>if Tabs.own c f=true then (match v with
  |.ref l=>l::wG c r
  |_=>wG c r) else wG c r
noncomputable def Lof(H:Hp)(c:Str)(a:Addr):List Addr:=match H a with
 | some (.ins _ _ vs)=>wG c vs
 |_=>[]
theorem Lof.ins{H:Hp}{c:Str}{a C dx:Addr}{vs:List (Str×V)}(h:H a=some (.ins C dx vs)):Lof H c a=wG c vs:=by unfold Lof;rw[h]
theorem Flds.own{K:Frag}{F H:Hp}{c:Str}{l:Addr}:∀{fs:List (Str×D)} {vs:List (Str×V)},Flds K F H c fs vs→l∈wG c vs→F l=none∧∃ws,H l=some (.lst ws)
 |[],[],_,h=>by cases h
 | (f,d)::r,(g,v)::s,q,h=>by
  obtain⟨rfl,q2,q3⟩:=q
  unfold wG at h
  unfold Jn at q2
  by_cases z:Tabs.own c f=true
  ·rw[if_pos z] at h q2
   obtain⟨ds,l',ws,e1,rfl,e3,e4,e5⟩:=q2
   rcases mem_cons.mp h with rfl|h
   ·exact⟨e4,ws,e3⟩
   ·exact Flds.own q3 h
  ·rw[if_neg z] at h
   exact Flds.own q3 h
 |[],_::_,q,_=>q.elim
 |_::_,[],q,_=>q.elim
theorem Flds.keep{K:Frag}{F H F' H':Hp}{c:Str}(hf:Same F F'):∀{fs:List (Str×D)} {vs:List (Str×V)},Flds K F H c fs vs→(∀l ws,l∈wG c vs→H l=some (.lst ws)→F l=none→H' l=some (.lst ws)∧F' l=none)→Flds K F' H' c fs vs
 |[],[],_,_=>trivial
 | (f,d)::r,(g,v)::s,q,k=>by
  obtain⟨rfl,q2,q3⟩:=q
  refine⟨rfl,?_,Flds.keep hf q3 fun l ws hl=>k l ws ?_⟩
  ·unfold Jn at q2 ⊢
   by_cases z:Tabs.own c f=true
   ·rw[if_pos z] at q2 ⊢
    obtain⟨ds,l,ws,e1,rfl,e3,e4,e5⟩:=q2
    obtain⟨k1,k2⟩:=k l ws (by unfold wG;rw[if_pos z];exact mem_cons_self) e3 e4
    exact Y34 ds l ws e1 rfl k1 k2 (e5.mono hf)
   ·rw[if_neg z] at q2 ⊢;exact q2.mono hf
  ·unfold wG
   by_cases z:Tabs.own c f=true
   ·rw[if_pos z]
    cases v with
    |ref l'=>exact mem_cons_of_mem _ hl
    |_=>exact hl
   ·rw[if_neg z];exact hl
 |[],_::_,q,_=>q.elim
 |_::_,[],q,_=>q.elim
noncomputable def ZC(K:Frag)(F H:Hp)(c:Str)(fs:List (Str×D))(a:Addr):Prop:=∃C dx vs,H a=some (.ins C dx vs)∧F a=none∧nsIn K mainGlobals c=some (some (.ref C))∧Flds K F H c fs vs∧H dx=some (.own a)∧(wG c vs).Nodup
noncomputable def ObS(s:Option (Option Sl))(c:Str):Prop:=(∃n fs,s=some (some (.obj n c fs)))∨∃fs,s=some (some (.obr c fs))
structure ObsOk(K:Frag)(F:Hp)(τ:DS)(σ:St)(H:Hp):Prop where
 at_:∀(i n:Nat) (c:Str) (fs:List (Str×D)),τ[i]?=some (some (.obj n c fs))→∃a,σ[i]?=some (some (.ref a))∧ZC K F H c fs a
 dis:∀(i j n:Nat) (c c':Str) (fs:List (Str×D)) (a:Addr),i≠j→τ[i]?=some (some (.obj n c fs))→ObS τ[j]? c'→σ[i]?=some (some (.ref a))→σ[j]?=some (some (.ref a))→False
 rd:∀(i:Nat) (c:Str) (fs:List (Str×D)),τ[i]?=some (some (.obr c fs))→∃a C dx vs,σ[i]?=some (some (.ref a))∧H a=some (.ins C dx vs)∧nsIn K mainGlobals c=some (some (.ref C))∧Flds K F H c fs vs
 ll:∀(i j n:Nat) (c c':Str) (fs:List (Str×D)) (a a' l:Addr),i≠j→τ[i]?=some (some (.obj n c fs))→ObS τ[j]? c'→σ[i]?=some (some (.ref a))→σ[j]?=some (some (.ref a'))→l∈Lof H c a→l∈Lof H c' a'→False
 lo:∀(i j:Nat) (c:Str) (ds:List D) (a l:Addr),ObS τ[i]? c→τ[j]?=some (some (.own ds))→σ[i]?=some (some (.ref a))→σ[j]?=some (some (.ref l))→l∈Lof H c a→False
noncomputable def Ul:Option Sl→Bool
 | some (.obj _ _ _)=>true
 | some (.obr _ _)=>true
 |_=>false
noncomputable def noObj(τ:DS):Prop:=∀(i:Nat) s,τ[i]?=some s→Ul s=false
theorem noObj.obs{τ:DS}(n:noObj τ){i:Nat}{c:Str}(h:ObS τ[i]? c):False:=by
 rcases h with ⟨m,fs,h⟩|⟨fs,h⟩
 ·have:=n i _ h;cases this
 ·have:=n i _ h;cases this
theorem ObsOk.none{K:Frag}{F H:Hp}{τ:DS}{σ:St}(n:noObj τ):ObsOk K F τ σ H:=
 ⟨fun i m c fs h=>(by have:=n i _ h;cases this),fun i j m c c' fs a _ h=>(by have:=n i _ h;cases this),fun i c fs h=>(by have:=n i _ h;cases this),fun i j m c c' fs a a' l _ h=>(by have:=n i _ h;cases this),fun i j c ds a l h=>(n.obs h).elim⟩
theorem ObsOk.get{K:Frag}{F H:Hp}{τ:DS}{σ:St}{i:Nat}{c:Str}(o:ObsOk K F τ σ H)(h:ObS τ[i]? c):∃a C dx vs fs,σ[i]?=some (some (.ref a))∧H a=some (.ins C dx vs)∧Flds K F H c fs vs:=by
 rcases h with ⟨m,fs,h⟩|⟨fs,h⟩
 ·refine X11 (o.at_ i m c fs h) fun a h1 r65_=>?_;refine X34 r65_ fun C dx vs h2 _ _ h5 _=>?_
  exact Y52 a C dx vs fs h1 h2 h5
 ·refine X43 (o.rd i c fs h) fun a C dx vs h1 h2 _ h5=>?_
  exact Y52 a C dx vs fs h1 h2 h5
theorem _root_.tI_{a b:Addr}(h:some (some (L2.V.ref a))=some (some (L2.V.ref b))):a=b:=L2.V.ref.inj (Option.some.inj (Option.some.inj h))
theorem ObsOk.keep{K:Frag}{F H F' H':Hp}{τ:DS}{σ:St}(o:ObsOk K F τ σ H)(hf:Same F F')(hi:∀a C dx vs,H a=some (.ins C dx vs)→H' a=some (.ins C dx vs))(hn:∀a C dx vs,H a=some (.ins C dx vs)→F a=Option.none→F' a=Option.none)(hd:∀d a,H d=some (.own a)→H' d=some (.own a))
  (hl:∀(i:Nat) (c:Str) (a l:Addr) (ws:List V),ObS τ[i]? c→σ[i]?=some (some (.ref a))→l∈Lof H c a→H l=some (.lst ws)→F l=Option.none→H' l=some (.lst ws)∧F' l=Option.none):ObsOk K F' τ σ H':=by
 have lof:∀{i:Nat} {c:Str} {a:Addr},ObS τ[i]? c→σ[i]?=some (some (.ref a))→Lof H' c a=Lof H c a:=fun {i c a} h e=>by
  refine X52 (o.get h) fun a' C dx vs fs h1 h2 _=>?_
  rw[e] at h1;replace h1:=tI_ h1;subst h1
  rw[Lof.ins h2,Lof.ins (hi _ _ _ _ h2)]
 refine⟨fun i m c fs h=>?_,o.dis,fun i c fs h=>?_,fun i j m c c' fs a a' l hij h1 h2 h3 h4 h5 h6=>?_,fun i j c ds a l h1 h2 h3 h4 h5=>?_⟩
 ·refine X11 (o.at_ i m c fs h) fun a h1 r64_=>?_;refine X35 r64_ fun C dx vs h2 h3 h4 h5 h6 h7=>?_
  exact⟨a,h1,C,dx,vs,hi _ _ _ _ h2,hn _ _ _ _ h2 h3,h4,h5.keep hf fun l ws q=>hl i c a l ws (.inl ⟨m,fs,h⟩) h1 (by rw[Lof.ins h2];exact q),hd _ _ h6,h7⟩
 ·refine X43 (o.rd i c fs h) fun a C dx vs h1 h2 h4 h5=>?_
  exact Y43 a C dx vs h1 (hi _ _ _ _ h2) h4 (h5.keep hf fun l ws q=>hl i c a l ws (.inr ⟨fs,h⟩) h1 (by rw[Lof.ins h2];exact q))
 ·rw[lof (.inl ⟨m,fs,h1⟩) h3] at h5
  rw[lof h2 h4] at h6
  exact o.ll i j m c c' fs a a' l hij h1 h2 h3 h4 h5 h6
 ·rw[lof h1 h3] at h5
  exact o.lo i j c ds a l h1 h2 h3 h4 h5
theorem ObsOk.ext{K:Frag}{F H F' H':Hp}{τ:DS}{σ:St}(o:ObsOk K F τ σ H)(x:Ext F H F' H'):ObsOk K F' τ σ H':=by
 have nF:∀{a:Addr} {u:HO},H a=some u→F a=Option.none→F' a=Option.none:=fun {a u} h h3=>by
  rcases q:F' a with _|w
  ·rfl
  ·rcases x.nw a w q with z|z
   ·rw[h3] at z;nomatch z
   ·rw[h] at z;nomatch z
 exact o.keep x.ff (fun a C dx vs h=>x.hh _ _ h) (fun a C dx vs h=>nF h) (fun d a h=>x.hh _ _ h) fun i c a l ws _ _ _ h h3=>⟨x.hh _ _ h,nF h h3⟩
theorem ObsOk.updL{K:Frag}{F H:Hp}{τ:DS}{σ:St}{p:Addr}{u:HO}(o:ObsOk K F τ σ H)(hl:H p=.none∨∃vs,H p=some (.lst vs))(hp:∀(i:Nat) (c:Str) (a:Addr),ObS τ[i]? c→σ[i]?=some (some (.ref a))→p∉Lof H c a):ObsOk K F τ σ (upd H p u):=by
 have ne:∀{a:Addr} {w:HO},H a=some w→(∀vs,w≠.lst vs)→a≠p:=fun {a w} h n z=>by
  subst z
  rcases hl with z|⟨ws,z⟩
  ·rw[z] at h;nomatch h
  ·rw[z] at h;replace h:=sI_ h;subst h;exact n _ rfl
 refine o.keep (Same.refl F) (fun a C dx vs h=>?_) (fun a C dx vs _ h=>h) (fun d a h=>?_) fun i c a l ws h1 h2 h3 h4 h5=>⟨?_,h5⟩
 ·rw[zp (ne h fun _ z=>nomatch z)];exact h
 ·rw[zp (ne h fun _ z=>nomatch z)];exact h
 ·have:l≠p:=fun z=>by subst z;exact hp i c a h1 h2 h3
  rw[zp this];exact h4
theorem yP{τ:DS}{i j:Nat}{s u:Option Sl}(hs:Ul s=false)(hu:Ul u=true)(h:(τ.set i s)[j]?=some u):i≠j∧τ[j]?=some u:=by
 by_cases hij:i=j
 ·subst hij
  rw[getElem?_set] at h
  simp only[if_true] at h
  split at h
  ·replace h:=sI_ h;subst h;rw[hs] at hu;nomatch hu
  ·nomatch h
 ·rw[getElem?_set_ne hij] at h;exact⟨hij,h⟩
theorem jo{τ:DS}{i j:Nat}{s:Option Sl}{c:Str}(hs:Ul s=false)(h:ObS (τ.set i s)[j]? c):i≠j∧ObS τ[j]? c:=by
 rcases h with ⟨n,fs,h⟩|⟨fs,h⟩
 ·obtain⟨a,b⟩:=yP hs rfl h;exact⟨a,.inl ⟨n,fs,b⟩⟩
 ·obtain⟨a,b⟩:=yP hs rfl h;exact⟨a,.inr ⟨fs,b⟩⟩
theorem ObsOk.put{K:Frag}{F H:Hp}{τ:DS}{σ:St}{i:Nat}{s:Option Sl}{v:Option V}(o:ObsOk K F τ σ H)(hs:Ul s=false)(hw:∀ds l,s=some (.own ds)→v=some (.ref l)→∀(j:Nat) (c:Str) (a:Addr),ObS τ[j]? c→σ[j]?=some (some (.ref a))→l∉Lof H c a):ObsOk K F (τ.set i s) (σ.set i v) H:=
 ⟨fun j m c fs h=>by
  obtain⟨n,h⟩:=yP hs rfl h
  rw[getElem?_set_ne n];exact o.at_ j m c fs h,
  fun j k m c c' fs a hjk h1 h2 h3 h4=>by
   obtain⟨n1,h1⟩:=yP hs rfl h1
   obtain⟨n2,h2⟩:=jo hs h2
   rw[getElem?_set_ne n1] at h3
   rw[getElem?_set_ne n2] at h4
   exact o.dis j k m c c' fs a hjk h1 h2 h3 h4,
  fun j c fs h=>by
   obtain⟨n,h⟩:=yP hs rfl h
   rw[getElem?_set_ne n];exact o.rd j c fs h,
  fun j k m c c' fs a a' l hjk h1 h2 h3 h4=>by
   obtain⟨n1,h1⟩:=yP hs rfl h1
   obtain⟨n2,h2⟩:=jo hs h2
   rw[getElem?_set_ne n1] at h3
   rw[getElem?_set_ne n2] at h4
   exact o.ll j k m c c' fs a a' l hjk h1 h2 h3 h4,
  fun j k c ds a l h1 h2 h3 h4 h5=>by
   obtain⟨n1,g1⟩:=jo hs h1
   rw[getElem?_set_ne n1] at h3
   by_cases e:i=k
   ·subst e
    rw[getElem?_set] at h2 h4
    simp only[if_true] at h2 h4
    split at h2
    ·split at h4
     ·exact hw ds l (by simpa using h2) (by simpa using h4) j c a g1 h3 h5
     ·nomatch h4
    ·nomatch h2
   ·rw[getElem?_set_ne e] at h2 h4
    exact o.lo j k c ds a l g1 h2 h3 h4 h5⟩
theorem ObsOk.putS{K:Frag}{F H:Hp}{τ:DS}{σ:St}{i:Nat}{ds es:List D}(o:ObsOk K F τ σ H)(hi:τ[i]?=some (some (.own ds))):ObsOk K F (τ.set i (some (.own es))) σ H:=
 ⟨fun j m c fs h=>o.at_ j m c fs (yP (s:=some (.own es)) rfl rfl h).2,fun j k m c c' fs a hjk h1 h2=>o.dis j k m c c' fs a hjk (yP (s:=some (.own es)) rfl rfl h1).2 (jo (s:=some (.own es)) rfl h2).2,fun j c fs h=>o.rd j c fs (yP (s:=some (.own es)) rfl rfl h).2,
  fun j k m c c' fs a a' l hjk h1 h2=>o.ll j k m c c' fs a a' l hjk (yP (s:=some (.own es)) rfl rfl h1).2 (jo (s:=some (.own es)) rfl h2).2,fun j k c ds' a l h1 h2 h3 h4 h5=>by
   have h1:=(jo (s:=some (.own es)) rfl h1).2
   by_cases e:i=k
   ·subst e;exact o.lo j i c ds a l h1 hi h3 h4 h5
   ·rw[getElem?_set_ne e] at h2;exact o.lo j k c ds' a l h1 h2 h3 h4 h5⟩
theorem ObsOk.fresh{K:Frag}{F H:Hp}{τ:DS}{σ:St}{p:Addr}(o:ObsOk K F τ σ H)(hp:H p=.none):∀(i:Nat) (c:Str) (a:Addr),ObS τ[i]? c→σ[i]?=some (some (.ref a))→p∉Lof H c a:=fun i c a h e hl=>by
 refine X52 (o.get h) fun a' C dx vs fs h1 h2 h3=>?_
 rw[e] at h1;replace h1:=tI_ h1;subst h1
 rw[Lof.ins h2] at hl
 refine X01 (h3.own hl) fun _ r63_=>?_;refine X10 r63_ fun ws q=>?_
 rw[hp] at q;nomatch q
theorem ObsOk.lof{K:Frag}{F H:Hp}{τ:DS}{σ:St}{i:Nat}{c:Str}{a p:Addr}{u:HO}(o:ObsOk K F τ σ H)(h1:ObS τ[i]? c)(h2:σ[i]?=some (some (.ref a)))(hl:H p=.none∨∃vs,H p=some (.lst vs)):Lof (upd H p u) c a=Lof H c a:=by
 refine X52 (o.get h1) fun a' C dx vs fs h3 h4 _=>?_
 rw[h2] at h3;replace h3:=tI_ h3;subst h3
 have:a≠p:=fun z=>by
  subst z
  rcases hl with z|⟨ws,z⟩
  ·rw[z] at h4;nomatch h4
  ·rw[z] at h4;nomatch h4
 rw[Lof.ins h4,Lof.ins (show upd H p u a=some (.ins C dx vs) by rw[zp this];exact h4)]
structure RV(K:Frag)(F:Hp)(τ:DS)(σ:St)(H:Hp):Prop where
 fh:Same F H
 len:τ.length=σ.length
 val:∀(i:Nat) (d:D),τ[i]?=some (some (.val d))→∃v,σ[i]?=some (some v)∧Rep K F d v
 own:∀(i:Nat) (ds:List D),τ[i]?=some (some (.own ds))→∃a vs,σ[i]?=some (some (.ref a))∧H a=some (.lst vs)∧F a=none∧Reps K F ds vs
 dis:∀(i j:Nat) (ds es:List D) (a:Addr),i≠j→τ[i]?=some (some (.own ds))→τ[j]?=some (some (.own es))→σ[i]?=some (some (.ref a))→σ[j]?=some (some (.ref a))→False
 tt:TbT F H
 ob:ObsOk K F τ σ H
theorem RV.ext{K:Frag}{F H F' H':Hp}{τ:DS}{σ:St}(R:RV K F τ σ H)(x:Ext F H F' H'):RV K F' τ σ H':=
 ⟨x.fh,R.len,fun i d e=>by
  refine X11 (R.val i d e) fun v h1 h2=>?_
  exact⟨v,h1,h2.mono x.ff⟩,
  fun i ds e=>by
   refine X23 (R.own i ds e) fun a vs h1 h2 h3 h4=>?_
   refine Y23 a vs h1 (x.hh _ _ h2) ?_ (h4.mono x.ff)
   rcases q:F' a with _|o
   ·rfl
   ·rcases x.nw a o q with z|z
    ·rw[h3] at z;nomatch z
    ·rw[h2] at z;exact absurd z (by simp),
  R.dis,x.tt R.tt,R.ob.ext x⟩
structure RS(K:Frag)(B Z F:Hp)(τ:DS)(σ:St)(H:Hp):Prop where
 rv:RV K F τ σ H
 bh:Hh B H
 zf:Same Z F
 nb:∀a o,F a=some o→Z a=some o∨B a=none
 ob:∀(i:Nat) (ds:List D) (a:Addr),τ[i]?=some (some (.own ds))→σ[i]?=some (some (.ref a))→B a=none
 oo:∀(i n:Nat) (c:Str) (fs:List (Str×D)) (a:Addr),τ[i]?=some (some (.obj n c fs))→σ[i]?=some (some (.ref a))→B a=none∧∀l∈Lof H c a,B l=none
 sf:∀(a0 dx:Addr),B dx=some (.own a0)→B a0=none→∀(i n:Nat) (c:Str) (fs:List (Str×D)),τ[i]?=some (some (.obj (n+1) c fs))→σ[i]?=some (some (.ref a0))
 ro:∀(i:Nat) (c:Str) (fs:List (Str×D)) (a:Addr),τ[i]?=some (some (.obr c fs))→σ[i]?=some (some (.ref a))→∃C dx vs,B a=some (.ins C dx vs)∧∀l∈wG c vs,∃ws,B l=some (.lst ws)
theorem RS.ext{K:Frag}{B Z F H F' H':Hp}{τ:DS}{σ:St}(R:RS K B Z F τ σ H)(x:Ext F H F' H'):RS K B Z F' τ σ H':=
 ⟨R.rv.ext x,R.bh.trans x.hh,R.zf.trans x.ff,fun a o e=>by
  rcases x.nw a o e with q|q
  ·exact R.nb a o q
  ·exact .inr (yU R.bh q),R.ob,fun i n c fs a h1 h2=>by
  obtain⟨q1,q2⟩:=R.oo i n c fs a h1 h2
  refine⟨q1,fun l hl=>q2 l ?_⟩
  refine X11 (R.rv.ob.at_ i n c fs h1) fun a' h3 r62_=>?_;refine X31 r62_ fun C dx vs h4 _=>?_
  rw[h2] at h3;replace h3:=tI_ h3;subst h3
  rw[Lof.ins h4]
  rw[Lof.ins (x.hh _ _ h4:H' a=some (.ins C dx vs))] at hl
  exact hl,R.sf,R.ro⟩
theorem RS.out{K:Frag}{B Z F H:Hp}{τ:DS}{σ:St}(R:RS K B Z F τ σ H):Ext Z B F H:=⟨R.zf,R.bh,R.rv.fh,R.nb,fun _=>R.rv.tt⟩
noncomputable def Xob(X:Cx)(c:Str):Prop:=∀e s',X.xe e s'
noncomputable def Ok(X:Cx){α:Type}(r:Rs α)(P:α→Prop):Prop:=match r with
 |.ok a=>P a
 |.ex c=>Xob X c
 |.no=>False
theorem Ok.bind{X:Cx}{α β:Type}{r:Rs α}{k:α→Rs β}{P:β→Prop}(h:Ok X (r.bind k) P):Ok X r fun a=>Ok X (k a) P:=by
 cases r <;> exact h
theorem Ok.imp{X:Cx}{α:Type}{r:Rs α}{P Q:α→Prop}(h:Ok X r P)(f:∀a,P a→Q a):Ok X r Q:=by
 cases r with
 |ok a=>exact f a h
 |ex c=>exact h
 |no=>exact h
noncomputable abbrev FE:=DS→Rs D
noncomputable abbrev FA:=DS→Rs (List D)
noncomputable abbrev FT:=DS→Rs Bool
noncomputable def Ev(K:Frag)(F H:Hp)(Q:VK)(d:D):Prop:=∀v F' H',Ext F H F' H'→Rep K F' d v→Q v H'
noncomputable def Evs(K:Frag)(F H:Hp)(Q:List V→Hp→Prop)(ds:List D):Prop:=∀vs F' H',Ext F H F' H'→Reps K F' ds vs→Q vs H'
noncomputable def Evb(F H:Hp)(Q:Bool→Hp→Prop)(b:Bool):Prop:=∀F' H',Ext F H F' H'→Q b H'
theorem Ev.ext{K:Frag}{F H F1 H1:Hp}{Q:VK}{d:D}(h:Ev K F H Q d)(x:Ext F H F1 H1):Ev K F1 H1 Q d:=fun v F' H' y r=>h v F' H' (x.trans y) r
theorem Evb.ext{F H F1 H1:Hp}{Q:Bool→Hp→Prop}{d:Bool}(h:Evb F H Q d)(x:Ext F H F1 H1):Evb F1 H1 Q d:=fun F' H' y=>h F' H' (x.trans y)
noncomputable def tE(X:Cx)(f:FE):TE:=fun σ H Q=>∃F τ,RV X.K F τ σ H∧Ok X (f τ) (Ev X.K F H Q)
noncomputable def tAs(X:Cx)(f:FA):TA:=fun σ H Q=>∃F τ,RV X.K F τ σ H∧Ok X (f τ) (Evs X.K F H Q)
noncomputable def tTs(X:Cx)(f:FT):TT:=fun σ H Q=>∃F τ,RV X.K F τ σ H∧Ok X (f τ) (Evb F H Q)
noncomputable def PDE(X:Cx)(e:Expr)(f:FE):Prop:=PE X e (tE X f)
noncomputable def PDA(X:Cx)(e:List Expr)(f:FA):Prop:=PA X e (tAs X f)
noncomputable def PDT(X:Cx)(e:Expr)(f:FT):Prop:=PT X e (tTs X f)
noncomputable def PDW(X:Cx)(e:Expr)(f:FT):Prop:=PW X e (tTs X f)
theorem _root_.L2.PE.imp{X:Cx}{e:Expr}{t t':TE}(h:PE X e t)(f:∀σ H Q,t' σ H Q→t σ H Q):PE X e t':=fun pins s σ H Q I q=>h pins s σ H Q I (f _ _ _ q)
theorem _root_.L2.PT.imp{X:Cx}{e:Expr}{t t':TT}(h:PT X e t)(f:∀σ H Q,t' σ H Q→t σ H Q):PT X e t':=fun pins s σ H Q I q=>h pins s σ H Q I (f _ _ _ q)
theorem _root_.L2.PW.imp{X:Cx}{e:Expr}{t t':TT}(h:PW X e t)(f:∀σ H Q,t' σ H Q→t σ H Q):PW X e t':=fun w pins s σ H Q I q=>h w pins s σ H Q I (f _ _ _ q)
theorem _root_.L2.PA.imp{X:Cx}{e:List Expr}{t t':TA}(h:PA X e t)(f:∀σ H Q,t' σ H Q→t σ H Q):PA X e t':=fun p pins s σ H Q I q=>h p pins s σ H Q I (f _ _ _ q)
theorem _root_.L2.PS.imp{X:Cx}{e:Stmt}{t t':TS}(h:PS X e t)(f:∀E σ H,t' E σ H→t E σ H):PS X e t':=fun pins s σ H Q I q=>h pins s σ H Q I (f _ _ _ q)
theorem _root_.L2.PSs.imp{X:Cx}{e:List Stmt}{t t':TS}(h:PSs X e t)(f:∀E σ H,t' E σ H→t E σ H):PSs X e t':=fun pins s σ H Q I q=>h pins s σ H Q I (f _ _ _ q)
theorem tE.of{X:Cx}{f:FE}{F H:Hp}{τ:DS}{σ:St}{Q:VK}{G:D→Prop}(R:RV X.K F τ σ H)(h:Ok X (f τ) G)
  (k:∀d v F1 H1,G d→Ext F H F1 H1→RV X.K F1 τ σ H1→Rep X.K F1 d v→Q v H1):tE X f σ H Q:=
 ⟨F,τ,R,h.imp fun d g v F1 H1 x r=>k d v F1 H1 g x (R.ext x) r⟩
theorem tAs.of{X:Cx}{f:FA}{F H:Hp}{τ:DS}{σ:St}{Q:List V→Hp→Prop}{G:List D→Prop}(R:RV X.K F τ σ H)(h:Ok X (f τ) G)
  (k:∀d v F1 H1,G d→Ext F H F1 H1→RV X.K F1 τ σ H1→Reps X.K F1 d v→Q v H1):tAs X f σ H Q:=
 ⟨F,τ,R,h.imp fun d g v F1 H1 x r=>k d v F1 H1 g x (R.ext x) r⟩
theorem tTs.of{X:Cx}{f:FT}{F H:Hp}{τ:DS}{σ:St}{Q:Bool→Hp→Prop}{G:Bool→Prop}(R:RV X.K F τ σ H)(h:Ok X (f τ) G)
  (k:∀b F1 H1,G b→Ext F H F1 H1→RV X.K F1 τ σ H1→Q b H1):tTs X f σ H Q:=
 ⟨F,τ,R,h.imp fun d g F1 H1 x=>k d F1 H1 g x (R.ext x)⟩
noncomputable def ze(i:Nat):FE:=fun τ=>match τ[i]? with
 | some (some (.val d))=>.ok d
 |_=>.no
section
variable{X:Cx}{pos:Pos}
theorem zc{i:Nat}{x:Str}(h:PE X (.Name x pos) (uW i)):PDE X (.Name x pos) (ze i):=h.imp fun σ H Q z_=>by
 refine X21 z_ fun F τ R q=>?_
 unfold ze at q
 rcases e:τ[i]? with _|o
 ·rw[e] at q;exact q.elim
 ·rcases o with _|sl
  ·rw[e] at q;exact q.elim
  ·cases sl with
   |own ds=>rw[e] at q;exact q.elim
   |obj n c fs=>rw[e] at q;exact q.elim
   |obr c fs=>rw[e] at q;exact q.elim
   |val d=>
    rw[e] at q
    refine X11 (R.val i d e) fun v h1 h2=>?_
    exact Y11 v h1 (q v F H (Ext.refl R.fh) h2)
noncomputable def eC(d:D):FE:=fun _=>.ok d
theorem V0{e:Expr}{v:V}{d:D}(h:PE X e (tC v))(r:∀F,Rep X.K F d v):PDE X e (eC d):=h.imp fun σ H Q z_=>by refine X21 z_ fun F τ R q=>?_;exact q v F H (Ext.refl R.fh) (r F)
theorem zj{i j}:PDE X (.Constant (.int i) j pos) (eC (.int i)):=V0 zh7 fun _=>by simp only[Rep]
theorem wT{i j}:PDE X (.Constant (.bool i) j pos) (eC (.bl i)):=V0 pe_bl fun _=>by simp only[Rep]
theorem wR{j}:PDE X (.Constant .none j pos) (eC .non):=V0 zh6 fun _=>by simp only[Rep]
theorem yY{i j}:PDE X (.Constant (.str i) j pos) (eC (.str i)):=V0 zh5 fun _=>by simp only[Rep]
end
noncomputable def OpD(X:Cx)(g:Value→Value→Sem Value)(op:D→D→Rs D):Prop:=∃r:R2,OpR X g r ∧
 ∀F H x y dx dy Q,Same F H→Rep X.K F dx x→Rep X.K F dy y→Ok X (op dx dy) (Ev X.K F H Q)→r x y H Q
noncomputable def eOp(op:D→D→Rs D)(fa fb:FE):FE:=fun τ=>(fa τ).bind fun x=>(fb τ).bind fun y=>op x y
section
variable{X:Cx}{pos:Pos}{a b c:Expr}{fa fb fc:FE}
theorem JQ{r:R2}{op:D→D→Rs D}(hl:∀F H x y dx dy Q,Same F H→Rep X.K F dx x→Rep X.K F dy y→Ok X (op dx dy) (Ev X.K F H Q)→r x y H Q)
  (σ:St) (H:Hp) (Q:VK) (h:tE X (eOp op fa fb) σ H Q):tOp r (tE X fa) (tE X fb) σ H Q:=by
 obtain⟨F,τ,R,h⟩:=h
 refine tE.of R h.bind fun x u F1 H1 g x1 R1 r1=>?_
 refine tE.of R1 g.bind fun y v F2 H2 g2 x2 R2 r2=>?_
 exact hl F2 H2 u v x y Q R2.fh (r1.mono x2.ff) r2 (g2.imp fun d e=>e.ext (x1.trans x2))
theorem zu{o:Operator}{op:D→D→Rs D}(ho:OpD X (binaryOp o) op)(ha:PDE X a fa)(hb:PDE X b fb):PDE X (.BinOp a o b pos) (eOp op fa fb):=by
 refine X11 ho fun r h1 h2=>?_
 exact(pe_op h1 ha hb).imp (JQ h2)
theorem vO{o:CmpOp}{op:D→D→Rs D}(ho:OpD X (compareOp o) op)(ha:PDE X a fa)(hb:PDE X b fb)(hm:behindInMarks o b=false):PDE X (.Compare a [o] [b] pos) (eOp op fa fb):=by
 refine X11 ho fun r h1 h2=>?_
 exact(JJ h1 ha hb hm).imp (JQ h2)
noncomputable def tB(f:FE):FT:=fun τ=>(f τ).bind fun d=>match d with
 |.bl b=>.ok b
 |_=>.no
theorem Jr{t:FE}{u:TE}(hi:∀σ H Q,tE X t σ H Q→u σ H Q)(σ:St)(H:Hp)(Q:Bool→Hp→Prop)(h:tTs X (tB t) σ H Q):GC u σ H Q:=by
 obtain⟨F,τ,R,h⟩:=h
 refine hi σ H _ (tE.of R h.bind fun d v F1 H1 g x R1 r=>?_)
 cases d with
 |bl k=>simp only[Rep] at r;exact Y11 k r (g F1 H1 x)
 |_=>exact g.elim
theorem zY{o:CmpOp}{op:D→D→Rs D}(ho:OpD X (compareOp o) op)(ha:PDE X a fa)(hb:PDE X b fb)(hm:behindInMarks o b=false):PDT X (.Compare a [o] [b] pos) (tB (eOp op fa fb)):=by
 refine X11 ho fun r h1 h2=>?_
 exact(JE h1 ha hb hm).imp (Jr (JQ h2))
noncomputable def j2(op op':D→D→Rs D)(fa fb fc:FE):FE:=fun τ=>(fa τ).bind fun x=>(fb τ).bind fun y=>(op x y).bind fun z=>match z with
 |.bl k=>if k=true then (fc τ).bind fun w=>op' y w else .ok (.bl false)
 |_=>.no
theorem Tn{r r':R2}{op op':D→D→Rs D}(hl:∀F H x y dx dy Q,Same F H→Rep X.K F dx x→Rep X.K F dy y→Ok X (op dx dy) (Ev X.K F H Q)→r x y H Q)
  (hl':∀F H x y dx dy Q,Same F H→Rep X.K F dx x→Rep X.K F dy y→Ok X (op' dx dy) (Ev X.K F H Q)→r' x y H Q)
  (σ:St) (H:Hp) (Q:VK) (h:tE X (j2 op op' fa fb fc) σ H Q):GD r r' (tE X fa) (tE X fb) (tE X fc) σ H Q:=by
 obtain⟨F,τ,R,h⟩:=h
 refine tE.of R h.bind fun x u F1 H1 g x1 R1 r1=>?_
 refine tE.of R1 g.bind fun y v F2 H2 g2 x2 R2 r2=>?_
 refine hl F2 H2 u v x y _ R2.fh (r1.mono x2.ff) r2 (g2.bind.imp fun z gz w F3 H3 x3 r3=>?_)
 cases z with
 |bl k=>
  simp only[Rep] at r3
  refine Y11 k r3 ?_
  rcases k with _|_
  ·rw[if_neg (by simp)];exact gz (.bl false) F3 H3 ((x1.trans x2).trans x3) (by simp only[Rep])
  ·rw[if_pos rfl]
   have gz:Ok X ((fc τ).bind fun w=>op' y w) (Ev X.K F H Q):=gz
   refine tE.of (R2.ext x3) gz.bind fun w' v' F4 H4 g4 x4 R4 r4=>?_
   exact hl' F4 H4 v v' y w' Q R4.fh (r2.mono (x3.ff.trans x4.ff)) r4 (g4.imp fun d e=>e.ext (((x1.trans x2).trans x3).trans x4))
 |_=>exact gz.elim
theorem QJ{o o':CmpOp}{op op':D→D→Rs D}(ho:OpD X (compareOp o) op)(ho':OpD X (compareOp o') op')(ha:PDE X a fa)(hb:PDE X b fb)(hc:PDE X c fc)
  (hm:lastMarks [o,o'] [b,c]=false:=by with_unfolding_all rfl):PDT X (.Compare a [o,o'] [b,c] pos) (tB (j2 op op' fa fb fc)):=by
 refine X11 ho fun r h1 h2=>?_
 refine X11 ho' fun r' h1' h2'=>?_
 exact(GZ h1 h1' ha hb hc hm).imp (Jr (Tn h2 h2'))
noncomputable def ZE:D→Rs Bool
 |.non=>.ok false
 |.bl b=>.ok b
 |.int i=>.ok (i != 0)
 |.str x=>if x.length≤sizeLine then .ok ((x.length:Int) != 0) else .no
 |.lst ds=>.ok (!ds.isEmpty)
 |.tup ds=>.ok (!ds.isEmpty)
 |.scr ns=>.ok (!ns.isEmpty)
 |.raw _=>.no
 |.exc _=>.no
 |.dct _ _=>.no
theorem Zn{K:Frag}{F:Hp}{ds:List D}{vs:List V}(h:Reps K F ds vs):ds.isEmpty=vs.isEmpty:=by
 have:=h.length
 cases ds <;> cases vs <;> simp_all
theorem UI{F H:Hp}{d:D}{v:V}{Q:Bool→Hp→Prop}(fh:Same F H)(r:Rep X.K F d v)(h:Ok X (ZE d) (fun b=>Q b H)):∃k,zn7 X.K v H k∧Q k H:=by
 cases d with
 |non=>simp only[Rep] at r;subst r;exact Y11 _ rfl h
 |bl b=>simp only[Rep] at r;subst r;exact Y11 _ rfl h
 |int i=>simp only[Rep] at r;subst r;exact Y11 _ rfl h
 |str x=>
  simp only[Rep] at r;subst r
  (delta ZE at h;dsimp only at h)
  by_cases z:x.length≤sizeLine
  ·rw[if_pos z] at h;exact Y11 _ ⟨z,rfl⟩ h
  ·rw[if_neg z] at h;exact h.elim
 |lst ds=>
  simp only[Rep] at r;obtain⟨a,vs,rfl,e,q⟩:=r
  refine Y11 (!vs.isEmpty) (.inl ⟨vs,SqL.of (fh _ _ e),rfl⟩) ?_
  rw[← Zn q];exact h
 |tup ds=>
  simp only[Rep] at r;obtain⟨a,vs,rfl,e,q⟩:=r
  refine Y11 (!vs.isEmpty) (.inr (.inl ⟨vs,Same.seqT fh e,rfl⟩)) ?_
  rw[← Zn q];exact h
 |scr ns=>
  simp only[Rep] at r;obtain⟨a,rfl,e⟩:=r
  refine Y11 (!(ns.map V.int).isEmpty) (.inl ⟨_,fh.seq e,rfl⟩) ?_
  have e2:(ns.map V.int).isEmpty=ns.isEmpty:=by cases ns <;> rfl
  rw[e2];exact h
 |raw u=>exact h.elim
 |exc c=>exact h.elim
 |dct _ _=>exact h.elim
noncomputable def jC(f:FE):FT:=fun τ=>(f τ).bind ZE
theorem Ze(ha:PDE X a fa)(he:∀whole,isTrue a X.env whole=(do let v ← whole;standAt a.pos;holding [v] (truthy v)):=by intro _;rfl):PDT X a (jC fa):=
 (GY ha he).imp fun σ H Q z_=>by refine X21 z_ fun F τ R h=>?_;exact tE.of R h.bind fun d v F1 H1 g x R1 r=>UI R1.fh r (g.imp fun b e=>e F1 H1 x)
noncomputable def wZ(f g:FT):FT:=fun τ=>(f τ).bind fun b=>if b=true then g τ else .ok false
noncomputable def jD(f g:FT):FT:=fun τ=>(f τ).bind fun b=>if b=true then .ok true else g τ
noncomputable def uY(f:FT):FT:=fun τ=>(f τ).bind fun b=>.ok (!b)
variable{ga gb:FT}{rest:List Expr}
theorem ub(ha:PDT X a ga):PDW X (.BoolOp .And [a] pos) ga:=La ha
theorem Yv(ha:PDT X a ga):PDW X (.BoolOp .Or [a] pos) ga:=zg0 ha
theorem ju(ha:PDT X a ga)(hb:PDW X (.BoolOp .And (b::rest) pos) gb):PDW X (.BoolOp .And (a::b::rest) pos) (wZ ga gb):=
 PW.imp (zg2 ha hb) fun σ H Q z_=>by
  refine X21 z_ fun F τ R h=>?_
  refine tTs.of R h.bind fun k F1 H1 g x R1=>?_
  rcases k with _|_
  ·rw[if_neg (by simp)];rw[if_neg (by simp)] at g;exact g F1 H1 x
  ·rw[if_pos rfl];rw[if_pos rfl] at g;exact Y21 F1 τ R1 (g.imp fun d e=>e.ext x)
theorem YV(ha:PDT X a ga)(hb:PDW X (.BoolOp .Or (b::rest) pos) gb):PDW X (.BoolOp .Or (a::b::rest) pos) (jD ga gb):=
 PW.imp (pw_or ha hb) fun σ H Q z_=>by
  refine X21 z_ fun F τ R h=>?_
  refine tTs.of R h.bind fun k F1 H1 g x R1=>?_
  rcases k with _|_
  ·rw[if_neg (by simp)];rw[if_neg (by simp)] at g;exact Y21 F1 τ R1 (g.imp fun d e=>e.ext x)
  ·rw[if_pos rfl];rw[if_pos rfl] at g;exact g F1 H1 x
theorem jJ{e:Expr}(h:PDW X e ga):PDT X e ga:=PW.pt h
theorem WZ(ha:PDT X a ga):PDT X (.UnaryOp .Not a pos) (uY ga):=
 PT.imp (zg3 ha) fun σ H Q z_=>by refine X21 z_ fun F τ R h=>?_;exact tTs.of R h.bind fun k F1 H1 g x R1=>g F1 H1 x
noncomputable def eIf(g:FT)(fa fb:FE):FE:=fun τ=>(g τ).bind fun b=>if b=true then fa τ else fb τ
theorem zi4(hc:PDT X c ga)(ha:PDE X a fa)(hb:PDE X b fb):PDE X (.IfExp c a b pos) (eIf ga fa fb):=
 PE.imp (G6 hc ha hb) fun σ H Q z_=>by
  refine X21 z_ fun F τ R h=>?_
  refine tTs.of R h.bind fun k F1 H1 g x R1=>?_
  rcases k with _|_
  ·rw[if_neg (by simp)];rw[if_neg (by simp)] at g;exact Y21 F1 τ R1 (g.imp fun d e=>e.ext x)
  ·rw[if_pos rfl];rw[if_pos rfl] at g;exact Y21 F1 τ R1 (g.imp fun d e=>e.ext x)
noncomputable def Ji(fa fb:FE):FE:=fun τ=>(fa τ).bind fun x=>(ZE x).bind fun b=>if b=true then fb τ else .ok x
noncomputable def eOr(fa fb:FE):FE:=fun τ=>(fa τ).bind fun x=>(ZE x).bind fun b=>if b=true then .ok x else fb τ
theorem Zg{op}(h:PDE X a fa):PDE X (.BoolOp op [a] pos) fa:=G4 h
theorem W0(ha:PDE X a fa)(hb:PDE X (.BoolOp .And (b::rest) pos) fb):PDE X (.BoolOp .And (a::b::rest) pos) (Ji fa fb):=by
 rintro pins s σ H Q I ⟨F,τ,R,h⟩
 refine BoolOp_and (thn (ha pins s σ H _ I (tE.of R h.bind fun d v F1 H1 g x R1 r=>(⟨d,F1,g,x,R1,r⟩:∃d F1,Ok X ((ZE d).bind fun b=>if b=true then fb τ else .ok d) (Ev X.K F H Q)∧Ext F H F1 H1∧RV X.K F1 τ σ H1∧Rep X.K F1 d v))) fun v s1 z_=>?_)
 refine X22 z_ fun x H1 I1 r1 r61_=>?_;refine X23 r61_ fun d F1 g x1 R1 r=>?_
 refine thn (tru_ok pins s1 σ H1 x v (fun b H2=>H2=H1∧Ok X (if b=true then fb τ else .ok d) (Ev X.K F H Q)) I1 r1 (UI (Q:=fun b H2=>H2=H1∧Ok X (if b=true then fb τ else .ok d) (Ev X.K F H Q)) R1.fh r (g.bind.imp fun b e=>⟨rfl,e⟩))) fun k s2 z_=>?_
 refine X12 z_ fun H2 I2 e2 q=>?_
 subst e2
 rcases k with _|_
 ·rw[if_neg (by simp)] at q ⊢;exact Y22 x _ I2 r1 (q x F1 _ x1 r)
 ·rw[if_pos rfl] at q ⊢;exact hb pins s2 σ _ Q I2 ⟨F1,τ,R1,q.imp fun d e=>e.ext x1⟩
theorem Me(ha:PDE X a fa)(hb:PDE X (.BoolOp .Or (b::rest) pos) fb):PDE X (.BoolOp .Or (a::b::rest) pos) (eOr fa fb):=by
 rintro pins s σ H Q I ⟨F,τ,R,h⟩
 refine BoolOp_or (thn (ha pins s σ H _ I (tE.of R h.bind fun d v F1 H1 g x R1 r=>(⟨d,F1,g,x,R1,r⟩:∃d F1,Ok X ((ZE d).bind fun b=>if b=true then .ok d else fb τ) (Ev X.K F H Q)∧Ext F H F1 H1∧RV X.K F1 τ σ H1∧Rep X.K F1 d v))) fun v s1 z_=>?_)
 refine X22 z_ fun x H1 I1 r1 r60_=>?_;refine X23 r60_ fun d F1 g x1 R1 r=>?_
 refine thn (tru_ok pins s1 σ H1 x v (fun b H2=>H2=H1∧Ok X (if b=true then .ok d else fb τ) (Ev X.K F H Q)) I1 r1 (UI (Q:=fun b H2=>H2=H1∧Ok X (if b=true then .ok d else fb τ) (Ev X.K F H Q)) R1.fh r (g.bind.imp fun b e=>⟨rfl,e⟩))) fun k s2 z_=>?_
 refine X12 z_ fun H2 I2 e2 q=>?_
 subst e2
 rcases k with _|_
 ·rw[if_neg (by simp)] at q ⊢;exact hb pins s2 σ _ Q I2 ⟨F1,τ,R1,q.imp fun d e=>e.ext x1⟩
 ·rw[if_pos rfl] at q ⊢;exact Y22 x _ I2 r1 (q x F1 _ x1 r)
end
section
variable{X:Cx}{pos:Pos}{e:Expr}{es:List Expr}{fe:FE}{fs:FA}
noncomputable def zi:FA:=fun _=>.ok []
noncomputable def za(f:FE)(g:FA):FA:=fun τ=>(f τ).bind fun x=>(g τ).bind fun r=>.ok (x::r)
theorem zm:PDA X [] zi:=PA.imp Y7 fun σ H Q z_=>by refine X21 z_ fun F τ R h=>?_;exact h [] F H (Ext.refl R.fh) Reps.nil
theorem zb(ha:PDE X e fe)(hr:PDA X es fs)(hs:starEach (e::es) X.env=(false,eval e X.env)::starEach es X.env:=by rfl):PDA X (e::es) (za fe fs):=
 PA.imp (uA ha hr hs) fun σ H Q ⟨F,τ,R,h⟩=>tE.of R h.bind fun x v F1 H1 g x1 R1 r1=>tAs.of R1 g.bind fun ys vs F2 H2 g2 x2 R2 r2=>
  g2 (v::vs) F2 H2 (x1.trans x2) (Reps.cons (r1.mono x2.ff) r2)
noncomputable def xS(f:FA):FE:=fun τ=>(f τ).bind fun ds=>if ds.length≤sizeLine then .ok (.tup ds) else .no
noncomputable def xP(f:FA):FE:=fun τ=>(f τ).bind fun ds=>if ds.length≤sizeLine then .ok (.lst ds) else .no
theorem yZ{X:Cx}{α:Type}{c:Prop}[Decidable c]{a:α}{P:α→Prop}(h:Ok X (if c then .ok a else .no) P):c∧P a:=by
 by_cases z:c
 ·rw[if_pos z] at h;exact⟨z,h⟩
 ·rw[if_neg z] at h;exact h.elim
theorem wq{x1}(h:PDA X es fs):PDE X (.Tuple es x1 pos) (xS fs):=
 PE.imp (zh4 h) fun σ H Q z_=>by
  refine X21 z_ fun F τ R hq=>?_
  refine tAs.of R hq.bind fun ds vs F1 H1 g x R1 r=>?_
  obtain⟨z,g⟩:=yZ g
  refine⟨by rw[← r.length];exact z,fun p hp=>g (.ref p) _ _ (x.trans (Ext.new R1.fh hp)) ?_⟩
  simp only[Rep]
  exact Y22 p vs rfl (SqT.of zr) (r.mono (yk (zO R1.fh hp)))
theorem wt(h:PDA X es fs):PDE X (.List es pos) (xP fs):=
 PE.imp (G5 h) fun σ H Q z_=>by
  refine X21 z_ fun F τ R hq=>?_
  refine tAs.of R hq.bind fun ds vs F1 H1 g x R1 r=>?_
  obtain⟨z,g⟩:=yZ g
  refine⟨by rw[← r.length];exact z,fun p hp=>g (.ref p) _ _ (x.trans (Ext.new R1.fh hp)) ?_⟩
  simp only[Rep]
  exact Y22 p vs rfl zr (r.mono (yk (zO R1.fh hp)))
end
inductive Fl where
 | nx (τ:DS) | rt (d:D) | bk (τ:DS) | ct (τ:DS) | ex (c:Str) | no
 | rs (c:Str) (τ:DS)
 | ro (d:D) (τ:DS)
 | rb (i:Nat) (τ:DS)
noncomputable def Nw(X:Cx)(H:Hp)(b:Addr):Prop:=H b=none∧X.s₀.heap.get? b=none∧∀p∈X.pn,p.1≠b
noncomputable def UF(X:Cx)(H:Hp)(h:Heap)(a:Addr)(cls:Value):Prop:=Nw X H a∧∃oe vs,h.get? a=some oe∧oe.cls=cls∧oe.dict=none∧oe.data=.fields vs ∧
 (vs[1]?=some .none∨∃T oT ts,vs[1]?=some (.ref T)∧Nw X H T∧T≠a∧h.get? T=some oT∧oT.data=.fields ts∧ts[3]?=some .none)∧vs[2]?=some .none
noncomputable def XA(X:Cx)(c:Str)(σ:St)(H:Hp):Prop:=∀s a cls,nsIn X.K mainGlobals c=some (some cls)→Inv X [] σ H s→UF X H s.heap a cls→X.xe (.ref a) s
noncomputable abbrev FS:=DS→Fl
noncomputable def Post(X:Cx)(B Z F:Hp)(E:X9):Fl→Prop
 |.nx τ=>∀σ F' H',Same F F'→RS X.K B Z F' τ σ H'→E.nx σ H'
 |.bk τ=>∀σ F' H',Same F F'→RS X.K B Z F' τ σ H'→E.bk σ H'
 |.ct τ=>∀σ F' H',Same F F'→RS X.K B Z F' τ σ H'→E.ct σ H'
 |.rt d=>∀v F' H',Ext Z B F' H'→Rep X.K F' d v→E.rt v H'
 |.ex c=>Xob X c
 |.no=>False
 |.rs c τ=>∀σ F' H',Same F F'→RS X.K B Z F' τ σ H'→XA X c σ H'
 |.ro d τ=>∀v σ F' H',Same F F'→RS X.K B Z F' τ σ H'→Rep X.K F' d v→E.rt v H'
 |.rb i τ=>∀v σ F' H',Same F F'→RS X.K B Z F' τ σ H'→σ[i]?=some (some v)→E.rt v H'
theorem Post.same{X:Cx}{B Z F F1:Hp}{E:X9}{r:Fl}(h:Post X B Z F E r)(f:Same F F1):Post X B Z F1 E r:=by
 cases r with
 |nx τ=>exact fun σ F' H' g R=>h σ F' H' (f.trans g) R
 |bk τ=>exact fun σ F' H' g R=>h σ F' H' (f.trans g) R
 |ct τ=>exact fun σ F' H' g R=>h σ F' H' (f.trans g) R
 |rt d=>exact h
 |ex c=>exact h
 |no=>exact h
 |rs c τ=>exact fun σ F' H' g R=>h σ F' H' (f.trans g) R
 |ro d τ=>exact fun v σ F' H' g R r=>h v σ F' H' (f.trans g) R r
 |rb i τ=>exact fun v σ F' H' g R r=>h v σ F' H' (f.trans g) R r
noncomputable def tS(X:Cx)(f:FS):TS:=fun E σ H=>∃B Z F τ,RS X.K B Z F τ σ H∧Post X B Z F E (f τ)
noncomputable def PDS(X:Cx)(st:Stmt)(f:FS):Prop:=PS X st (tS X f)
noncomputable def vh(X:Cx)(st:List Stmt)(f:FS):Prop:=PSs X st (tS X f)
noncomputable def Fl.of{α:Type}(r:Rs α)(k:α→Fl):Fl:=match r with
 |.ok a=>k a
 |.ex c=>.ex c
 |.no=>.no
@[simp] theorem Fl.of_ok{α:Type}(a:α)(k:α→Fl):Fl.of (.ok a) k=k a:=rfl
theorem Post.of{X:Cx}{B Z F:Hp}{E:X9}{α:Type}{r:Rs α}{k:α→Fl}(h:Post X B Z F E (Fl.of r k)):Ok X r fun a=>Post X B Z F E (k a):=by
 cases r <;> exact h
section
variable{X:Cx}{pos:Pos}{e:Expr}{es:List Expr}{fe:FE}{fs:FA}{st:Stmt}{rest:List Stmt}{f g:FS}{c:Expr}{gc:FT}
noncomputable def zS:FS:=fun τ=>.nx τ
noncomputable def zA(f g:FS):FS:=fun τ=>match f τ with
 |.nx τ'=>g τ'
 |r=>r
theorem z0:vh X [] zS:=PSs.imp Lf fun E σ H z_=>by refine X41 z_ fun B Z F τ R h=>?_;exact h σ F H (Same.refl F) R
theorem zo(h:PDS X st f):vh X [st] f:=Le h
theorem zn(h1:PDS X st f)(h2:vh X rest g):vh X (st::rest) (zA f g):=
 PSs.imp (G0 h1 h2) fun E σ H z_=>by
  refine X41 z_ fun B Z F τ R h=>?_
  refine Y41 B Z F τ R ?_
  unfold zA at h
  cases q:f τ with
  |nx τ'=>rw[q] at h;exact fun σ' F' H' ff R'=>Y41 B Z F' τ' R' (Post.same h ff)
  |rt d=>rw[q] at h;exact h
  |bk d=>rw[q] at h;exact h
  |ct d=>rw[q] at h;exact h
  |ex d=>rw[q] at h;exact h
  |no=>rw[q] at h;exact h
  |rs c d=>rw[q] at h;exact h
  |ro c d=>rw[q] at h;exact h
  |rb c d=>rw[q] at h;exact h
noncomputable def yx(fe:FE):FS:=fun τ=>Fl.of (fe τ) fun d=>.rt d
theorem tE.at{B Z F H:Hp}{τ:DS}{σ:St}{Q:VK}{G:D→Prop}(R:RS X.K B Z F τ σ H)(h:Ok X (fe τ) G)
  (k:∀d v F1 H1,G d→Ext F H F1 H1→RS X.K B Z F1 τ σ H1→Rep X.K F1 d v→Q v H1):tE X fe σ H Q:=
 tE.of R.rv h fun d v F1 H1 g x _ r=>k d v F1 H1 g x (R.ext x) r
theorem zR(he:PDE X e fe):PDS X (.Return (some e) pos) (yx fe):=
 PS.imp (ZK he) fun E σ H z_=>by refine X41 z_ fun B Z F τ R h=>?_;exact tE.at R h.of fun d v F1 H1 g x R1 r=>g v F1 H1 R1.out r
noncomputable def sIf(gc:FT)(f g:FS):FS:=fun τ=>Fl.of (gc τ) fun b=>if b=true then f τ else g τ
theorem yL{a b:List Stmt}(hc:PDT X c gc)(ha:vh X a f)(hb:vh X b g):PDS X (.If c a b pos) (sIf gc f g):=
 PS.imp (zd6 hc ha hb) fun E σ H z_=>by
  refine X41 z_ fun B Z F τ R h=>?_
  refine tTs.of R.rv h.of fun k F1 H1 q x _=>?_
  rcases k with _|_
  ·rw[if_neg (by simp)] at q ⊢;exact Y41 B Z F1 τ (R.ext x) (q.same x.ff)
  ·rw[if_pos rfl] at q ⊢;exact Y41 B Z F1 τ (R.ext x) (q.same x.ff)
theorem RV.set{K:Frag}{F H:Hp}{τ:DS}{σ:St}{i:Nat}{d:D}{v:V}(R:RV K F τ σ H)(r:Rep K F d v):RV K F (τ.set i (some (.val d))) (σ.set i (some v)) H:=by
 refine⟨R.fh,by simp[R.len],fun j e h=>?_,fun j es h=>?_,fun j k ds es a hjk h1 h2 h3 h4=>?_,?_,?_⟩
 ·by_cases hij:i=j
  ·subst hij
   have hlt:i<τ.length:=by
    rcases lt_or_ge i τ.length with z|z
    ·exact z
    ·rw[List.getElem?_eq_none_iff.mpr (by simpa using z)] at h;nomatch h
   rw[getElem?_set_self hlt] at h
   replace h:=FD.Sl.val.inj (Option.some.inj (Option.some.inj h));subst h
   exact Y11 v (by rw[getElem?_set_self (by rw[← R.len];exact hlt)]) r
  ·rw[getElem?_set_ne hij] at h ⊢
   exact R.val j e h
 ·by_cases hij:i=j
  ·subst hij
   rw[getElem?_set] at h
   simp only[if_true] at h
   split at h <;> cases h
  ·rw[getElem?_set_ne hij] at h ⊢
   exact R.own j es h
 ·have n1:i≠j:=fun z=>by
   subst z
   rw[getElem?_set] at h1
   simp only[if_true] at h1
   split at h1 <;> cases h1
  have n2:i≠k:=fun z=>by
   subst z
   rw[getElem?_set] at h2
   simp only[if_true] at h2
   split at h2 <;> cases h2
  rw[getElem?_set_ne n1] at h1 h3
  rw[getElem?_set_ne n2] at h2 h4
  exact R.dis j k ds es a hjk h1 h2 h3 h4
 ·exact R.tt
 ·exact R.ob.put rfl fun _ _ z=>by nomatch z
theorem RS.set{K:Frag}{B Z F H:Hp}{τ:DS}{σ:St}{i:Nat}{d:D}{v:V}(R:RS K B Z F τ σ H)(r:Rep K F d v):RS K B Z F (τ.set i (some (.val d))) (σ.set i (some v)) H:=
 ⟨R.rv.set r,R.bh,R.zf,R.nb,fun j ds a h1 h2=>by
  have n1:i≠j:=fun z=>by
   subst z
   rw[getElem?_set] at h1
   simp only[if_true] at h1
   split at h1 <;> cases h1
  rw[getElem?_set_ne n1] at h1 h2
  exact R.ob j ds a h1 h2,fun j m c fs a h1 h2=>by
  obtain⟨n,h1⟩:=yP (s:=some (.val d)) rfl rfl h1
  rw[getElem?_set_ne n] at h2
  exact R.oo j m c fs a h1 h2,fun a0 dx b1 b2 j m c fs h=>by
  obtain⟨n,h⟩:=yP (s:=some (.val d)) rfl rfl h
  rw[getElem?_set_ne n]
  exact R.sf a0 dx b1 b2 j m c fs h,fun j c fs a h1 h2=>by
  obtain⟨n,h1⟩:=yP (s:=some (.val d)) rfl rfl h1
  rw[getElem?_set_ne n] at h2
  exact R.ro j c fs a h1 h2⟩
noncomputable def zU(i:Nat)(fe:FE):FS:=fun τ=>Fl.of (fe τ) fun d=>.nx (τ.set i (some (.val d)))
theorem zL{i:Nat}{x:Str}{pos':Pos}(hN:X.N.Nodup)(hi:X.N[i]?=some x)(hx:Loc X.env.scope x)(he:PDE X e fe)(hs:swapsWith e (some (.Name x pos')) pos.line X.env=pure false:=by rfl)(hf:X.fn x=true∨X.env.scope.names.lookup x=some .local:=by first|exact .inl rfl|exact .inr rfl|assumption) :
  PDS X (.Assign [.Name x pos'] e pos) (zU i fe):=
 PS.imp (UT hN hi hx he hs hf) fun E σ H z_=>by refine X41 z_ fun B Z F τ R h=>?_;exact tE.at R h.of fun d v F1 H1 g x R1 r=>g _ F1 H1 x.ff (R1.set r)
noncomputable def tFr(X:Cx)(f:FA):TE:=fun σ H Q=>∃F τ,RV X.K F τ σ H∧Ok X (f τ) fun ds=>∀p vs F' H',Ext F H F' H'→H' p=none→Reps X.K F' ds vs→Q (.ref p) (upd H' p (.lst vs))
noncomputable def PDF(X:Cx)(e:Expr)(f:FA):Prop:=PE X e (tFr X f)
theorem JL(h:PDA X es fs):PDF X (.List es pos) (fun τ=>(fs τ).bind fun ds=>if ds.length≤sizeLine then .ok ds else .no):=
 PE.imp (G5 h) fun σ H Q z_=>by
  refine X21 z_ fun F τ R hq=>?_
  refine tAs.of R hq.bind fun ds vs F1 H1 g x R1 r=>?_
  obtain⟨z,g⟩:=yZ g
  exact⟨by rw[← r.length];exact z,fun p hp=>g p vs F1 H1 x hp r⟩
theorem Y3{ff:FA}(h:PDF X e ff):PDE X e (fun τ=>(ff τ).bind fun ds=>.ok (.lst ds)):=
 PE.imp h fun σ H Q ⟨F,τ,R,hq⟩=>Y21 F τ R (hq.bind.imp fun ds g p vs F1 H1 x hp r=>by
  refine g (.ref p) _ _ (x.trans (Ext.new x.fh hp)) ?_
  simp only[Rep]
  exact⟨p,vs,rfl,zr,r.mono (yk (zO x.fh hp))⟩)
noncomputable def uQ(i:Nat)(ff:FA):FS:=fun τ=>Fl.of (ff τ) fun ds=>.nx (τ.set i (some (.own ds)))
theorem _root_.tJ_{a b:Addr}(h:some (some (L2.V.ref a))=some (some (L2.V.ref b))):b=a:=(L2.V.ref.inj (Option.some.inj (Option.some.inj h))).symm
theorem RV.setO{K:Frag}{F H:Hp}{τ:DS}{σ:St}{i:Nat}{p:Addr}{ds:List D}{vs:List V}(R:RV K F τ σ H)(hp:H p=none)(r:Reps K F ds vs):RV K F (τ.set i (some (.own ds))) (σ.set i (some (.ref p))) (upd H p (.lst vs)):=by
 have nofr:=zO R.fh hp
 have hlt:∀{o:Sl},(τ.set i (some (.own ds)))[i]?=some (some o)→i<τ.length:=fun {o} h=>by
  rcases lt_or_ge i τ.length with z|z
  ·exact z
  ·rw[List.getElem?_eq_none_iff.mpr (by simpa using z)] at h;nomatch h
 refine⟨R.fh.trans (yk hp),by simp[R.len],fun j e h=>?_,fun j es h=>?_,fun j k es es' a hjk h1 h2 h3 h4=>?_,?_,?_⟩
 ·by_cases hij:i=j
  ·subst hij
   rw[getElem?_set_self (hlt h)] at h;nomatch h
  ·rw[getElem?_set_ne hij] at h ⊢
   exact R.val j e h
 ·by_cases hij:i=j
  ·subst hij
   have l:=hlt h
   rw[getElem?_set_self l] at h
   replace h:=FD.Sl.own.inj (Option.some.inj (Option.some.inj h));subst h
   exact Y23 p vs (by rw[getElem?_set_self (by rw[← R.len];exact l)]) zr nofr r
  ·rw[getElem?_set_ne hij] at h ⊢
   refine X23 (R.own j es h) fun a ws q1 q2 q3 q4=>?_
   exact Y23 a ws q1 (by rw[zp (zI q2 hp)];exact q2) q3 q4
 ·by_cases n1:i=j
  ·subst n1
   rw[getElem?_set_ne hjk] at h2 h4
   refine X23 (R.own k es' h2) fun a' ws q1 q2 q3 q4=>?_
   rw[q1] at h4;replace h4:=tJ_ h4;subst h4
   have l:=hlt h1
   rw[getElem?_set_self (by rw[← R.len];exact l)] at h3
   replace h3:=tI_ h3;subst h3
   rw[hp] at q2;nomatch q2
  ·by_cases n2:i=k
   ·subst n2
    rw[getElem?_set_ne (Ne.symm hjk)] at h1 h3
    refine X23 (R.own j es h1) fun a' ws q1 q2 q3 q4=>?_
    rw[q1] at h3;replace h3:=tJ_ h3;subst h3
    have l:=hlt h2
    rw[getElem?_set_self (by rw[← R.len];exact l)] at h4
    replace h4:=tI_ h4;subst h4
    rw[hp] at q2;nomatch q2
   ·rw[getElem?_set_ne n1] at h1 h3
    rw[getElem?_set_ne n2] at h2 h4
    exact R.dis j k es es' a hjk h1 h2 h3 h4
 ·exact R.tt.step (fun _ _ e=>.inl e) (fun b o e _=>by rw[zp (zI e hp)];exact e) (uC fun _ z=>nomatch z)
 ·have o1:ObsOk K F (τ.set i (some (.own ds))) (σ.set i (some (.ref p))) H:=R.ob.put rfl fun _ l _ z=>by
   replace z:=L2.V.ref.inj (Option.some.inj z);subst z;exact R.ob.fresh hp
  exact o1.updL (.inl hp) (o1.fresh hp)
theorem RS.setO{K:Frag}{B Z F H:Hp}{τ:DS}{σ:St}{i:Nat}{p:Addr}{ds:List D}{vs:List V}(R:RS K B Z F τ σ H)(hp:H p=none)(r:Reps K F ds vs):RS K B Z F (τ.set i (some (.own ds))) (σ.set i (some (.ref p))) (upd H p (.lst vs)):=
 ⟨R.rv.setO hp r,R.bh.trans (.of (yk hp)),R.zf,R.nb,fun j es a h1 h2=>by
  by_cases n1:i=j
  ·subst n1
   have l:i<τ.length:=by
    rcases lt_or_ge i τ.length with z|z
    ·exact z
    ·rw[List.getElem?_eq_none_iff.mpr (by simpa using z)] at h1;nomatch h1
   rw[getElem?_set_self (by rw[← R.rv.len];exact l)] at h2
   replace h2:=tI_ h2;subst h2
   exact yU R.bh hp
  ·rw[getElem?_set_ne n1] at h1 h2
   exact R.ob j es a h1 h2,fun j m c fs a h1 h2=>by
  obtain⟨n,h1⟩:=yP (s:=some (.own ds)) rfl rfl h1
  rw[getElem?_set_ne n] at h2
  rw[R.rv.ob.lof (.inl ⟨m,fs,h1⟩) h2 (.inl hp)]
  exact R.oo j m c fs a h1 h2,fun a0 dx b1 b2 j m c fs h=>by
  obtain⟨n,h⟩:=yP (s:=some (.own ds)) rfl rfl h
  rw[getElem?_set_ne n]
  exact R.sf a0 dx b1 b2 j m c fs h,fun j c fs a h1 h2=>by
  obtain⟨n,h1⟩:=yP (s:=some (.own ds)) rfl rfl h1
  rw[getElem?_set_ne n] at h2
  exact R.ro j c fs a h1 h2⟩
theorem VV{i:Nat}{x:Str}{pos':Pos}{ff:FA}(hN:X.N.Nodup)(hi:X.N[i]?=some x)(hx:Loc X.env.scope x)(he:PDF X e ff)(hs:swapsWith e (some (.Name x pos')) pos.line X.env=pure false:=by rfl)(hf:X.fn x=true∨X.env.scope.names.lookup x=some .local:=by first|exact .inl rfl|exact .inr rfl|assumption) :
  PDS X (.Assign [.Name x pos'] e pos) (uQ i ff):=
 PS.imp (UT hN hi hx he hs hf) fun E σ H z_=>by refine X41 z_ fun B Z F τ R h=>?_;exact Y21 F τ R.rv (h.of.imp fun ds g p vs F1 H1 x hp r=>g _ F1 _ x.ff ((R.ext x).setO hp r))
theorem RV.own_upd{K:Frag}{F H:Hp}{τ:DS}{σ:St}{i:Nat}{p:Addr}{ds es:List D}{ws:List V}(R:RV K F τ σ H)(h:τ[i]?=some (some (.own ds)))(hp:σ[i]?=some (some (.ref p)))(r:Reps K F es ws) :
  RV K F (τ.set i (some (.own es))) σ (upd H p (.lst ws)):=by
 refine X23 (R.own i ds h) fun a vs q1 q2 q3 q4=>?_
 rw[q1] at hp;replace hp:=tJ_ hp;subst hp
 have l:i<τ.length:=(List.getElem?_eq_some_iff.mp h).1
 refine⟨fun b o e=>?_,by simp[R.len],fun j e h'=>?_,fun j es' h'=>?_,fun j k e1 e2 b hjk h1 h2 h3 h4=>?_,?_,?_⟩
 ·have n:b≠p:=fun z=>by subst z;rw[q3] at e;nomatch e
  rw[zp n];exact R.fh b o e
 ·by_cases hij:i=j
  ·subst hij;rw[getElem?_set_self l] at h';nomatch h'
  ·rw[getElem?_set_ne hij] at h';exact R.val j e h'
 ·by_cases hij:i=j
  ·subst hij
   rw[getElem?_set_self l] at h';replace h':=FD.Sl.own.inj (Option.some.inj (Option.some.inj h'));subst h'
   exact Y23 p ws q1 zr q3 r
  ·rw[getElem?_set_ne hij] at h'
   refine X23 (R.own j es' h') fun a' vs' z1 z2 z3 z4=>?_
   have n:a'≠p:=fun z=>by subst z;exact R.dis i j ds es' a' hij h h' q1 z1
   exact Y23 a' vs' z1 (by rw[zp n];exact z2) z3 z4
 ·have:∀{m:Nat} {e:List D},(τ.set i (some (.own es)))[m]?=some (some (.own e))→∃e',τ[m]?=some (some (.own e')):=fun {m e} z=>by
   by_cases him:i=m
   ·subst him;exact⟨ds,h⟩
   ·rw[getElem?_set_ne him] at z;exact⟨e,z⟩
  obtain⟨x1,y1⟩:=this h1
  obtain⟨x2,y2⟩:=this h2
  exact R.dis j k x1 x2 b hjk y1 y2 h3 h4
 ·exact R.tt.step (fun _ _ e=>.inl e) (fun b o e n=>by
   have:b≠p:=fun z=>by subst z;rw[q2] at e;replace e:=sI_ e;subst e;exact n _ rfl
   rw[zp this];exact e) (uC fun _ z=>nomatch z)
 ·exact(R.ob.updL (.inr ⟨vs,q2⟩) fun j c a g1 g2 hl=>R.ob.lo j i c ds a p g1 h g2 q1 hl).putS h
theorem RS.own_upd{K:Frag}{B Z F H:Hp}{τ:DS}{σ:St}{i:Nat}{p:Addr}{ds es:List D}{ws:List V}(R:RS K B Z F τ σ H)(h:τ[i]?=some (some (.own ds)))(hp:σ[i]?=some (some (.ref p)))(r:Reps K F es ws) :
  RS K B Z F (τ.set i (some (.own es))) σ (upd H p (.lst ws)):=by
 have hb:=R.ob i ds p h hp
 refine⟨R.rv.own_upd h hp r,fun b o e=>?_,R.zf,R.nb,fun j e a h1 h2=>?_,fun j m c fs a h1 h2=>?_,fun a0 dx b1 b2 j m c fs h=>R.sf a0 dx b1 b2 j m c fs (yP (s:=some (.own es)) rfl rfl h).2,fun j c fs a h1 h2=>R.ro j c fs a (yP (s:=some (.own es)) rfl rfl h1).2 h2⟩
 ·have n:b≠p:=fun z=>by subst z;rw[hb] at e;nomatch e
  rw[zp n];exact R.bh b o e
 ·by_cases him:i=j
  ·subst him;exact R.ob i ds a h h2
  ·rw[getElem?_set_ne him] at h1;exact R.ob j e a h1 h2
 ·have h1:=(yP (s:=some (.own es)) rfl rfl h1).2
  refine X22 (R.rv.own i ds h) fun p' vs q1 q2 _=>?_
  rw[q1] at hp;replace hp:=tJ_ hp;subst hp
  rw[R.rv.ob.lof (.inl ⟨m,fs,h1⟩) h2 (.inr ⟨vs,q2⟩)]
  exact R.oo j m c fs a h1 h2
noncomputable def vP(τ:DS)(i:Nat):Rs (List D):=match τ[i]? with
 | some (some (.own ds))=>.ok ds
 |_=>.no
theorem u9{τ:DS}{i:Nat}{P:List D→Prop}(h:Ok X (vP τ i) P):∃ds,τ[i]?=some (some (.own ds))∧P ds:=by
 unfold vP at h
 rcases q:τ[i]? with _|o
 ·rw[q] at h;exact h.elim
 ·rcases o with _|sl
  ·rw[q] at h;exact h.elim
  ·cases sl with
   |val d=>rw[q] at h;exact h.elim
   |obj n c fs=>rw[q] at h;exact h.elim
   |obr c fs=>rw[q] at h;exact h.elim
   |own ds=>rw[q] at h;exact Y11 ds rfl h
noncomputable def VL(i:Nat)(fe:FE):FS:=fun τ=>Fl.of (vP τ i) fun ds=>Fl.of (fe τ) fun d=>if ds.length<sizeLine then .nx (τ.set i (some (.own (ds++[d])))) else .no
theorem JK{i:Nat}{x:Str}{p1 apos cpos:Pos}(hx:PE X (.Name x p1) (uW i))(he:PDE X e fe)
  (hfew:((backTo cpos (starEach [e] X.env)).all (fun x=>!x.1)&&(backToKw cpos (keywordEach [] X.env)).all (fun x=>x.1.isSome)
   && decide ([e].length+([]:List Keyword).length+(if ([]:List Keyword).isEmpty then 0 else 1)<30))=true:=by rfl)
  (hline:(apos.endLine==cpos.line)=true:=by rfl) (hs:starEach [e] X.env=[(false,eval e X.env)]:=by rfl) (hplain:(backTo cpos (starEach [] X.env)).any (·.1)=false:=by rfl)
  (hbase:attributeBase (.Name x p1) "append" X.env (eval (.Name x p1) X.env)=eval (.Name x p1) X.env:=by rfl)
  (hsw:swapsWith (.Call (.Attribute (.Name x p1) "append" apos) [e] [] cpos) none pos.line X.env=pure false:=by rfl) :
  PDS X (.Expr (.Call (.Attribute (.Name x p1) "append" apos) [e] [] cpos) pos) (VL i fe):=
 PS.imp (WU (G8 PySem.F.plainAttrs_list PySem.F.slot_list_append PySem.F.type_list_append ZS hx (uA he Y7 (by rw[hs];rfl)) hbase hfew hline (by rw[hs];rfl) hplain) hsw) fun E σ H z_=>by
  refine X41 z_ fun B Z F τ R h=>?_
  refine X11 (u9 (X:=X) (Post.of h)) fun ds h1 h2=>?_
  refine X23 (R.rv.own i ds h1) fun a vs q1 q2 q3 q4=>?_
  refine Y12 _ q1 (.inl ⟨rfl,vs,SqL.of q2⟩) ?_
  refine tE.at R h2.of fun d v F1 H1 g x R1 r=>?_
  by_cases z:ds.length<sizeLine
  ·rw[if_pos z] at g
   refine Y34 a vs v rfl rfl (x.hh _ _ q2) (by rw[← q4.length];exact z) ?_
   exact g _ F1 _ x.ff (R1.own_upd h1 q1 ((q4.mono x.ff).append (Reps.cons r Reps.nil)))
  ·rw[if_neg z] at g;exact g.elim
noncomputable def QE(i:Nat)(fi fe:FE):FS:=fun τ=>Fl.of (fe τ) fun d=>Fl.of (vP τ i) fun ds=>Fl.of (fi τ) fun k=>match k with
 |.int k=>match ixN ds.length k with
  |some j=>.nx (τ.set i (some (.own (ds.set j d))))
  |none=>.no
 |_=>.no
theorem Lq{i:Nat}{x:Str}{p1 spos:Pos}{ix:Expr}{fi:FE}(hx:PE X (.Name x p1) (uW i))(hi:PDE X ix fi)(he:PDE X e fe)
  (ha:∀v,assign (.Subscript (.Name x p1) ix spos) X.env v=(do
   let ov ← holding [v] (eval (.Name x p1) X.env)
   let iv ← holding [v,ov] (eval ix X.env)
   standAt spos
   holding [v,ov,iv] (setItem ov iv v)
   release [v,ov,iv] []):=by intro _;rfl)
  (hs:swapsWithSole [.Subscript (.Name x p1) ix spos] e pos.line X.env=pure false:=by rfl) (hw:swappedStores [.Subscript (.Name x p1) ix spos] e X.env=pure none:=by rfl)
  (h1:(assignEach [.Subscript (.Name x p1) ix spos] X.env).map (·.2)=[assign (.Subscript (.Name x p1) ix spos) X.env]:=by rfl) :
  PDS X (.Assign [.Subscript (.Name x p1) ix spos] e pos) (QE i fi fe):=
 PS.imp (zg6 he (zh2 hx hi GK ha) hs hw h1) fun E σ H z_=>by
  refine X41 z_ fun B Z F τ R h=>?_
  refine tE.at R h.of fun d v F1 H1 g x R1 r=>?_
  refine X11 (u9 (X:=X) (Post.of g)) fun ds h1 h2=>?_
  refine X23 (R1.rv.own i ds h1) fun a vs q1 q2 q3 q4=>?_
  refine Y11 _ q1 ?_
  refine tE.at R1 h2.of fun k w F2 H2 g2 x2 R2 r2=>?_
  cases k with
  |int k=>
   simp only[Rep] at r2
   simp only at g2
   rcases q:ixN ds.length k with _|j
   ·rw[q] at g2;exact g2.elim
   ·rw[q] at g2
    refine Y44 a vs k j rfl r2 (x2.hh _ _ q2) (by rw[← q4.length];exact q) ?_
    exact g2 _ F2 _ (x.ff.trans x2.ff) (R2.own_upd h1 q1 (Reps.set (r.mono x2.ff) j (q4.mono x2.ff)))
  |_=>exact g2.elim
noncomputable def u0(i:Nat):FS:=fun τ=>Fl.of (vP τ i) fun ds=>.rt (.lst ds)
theorem YY{i:Nat}{x:Str}{p1:Pos}(hx:PE X (.Name x p1) (uW i)):PDS X (.Return (some (.Name x p1)) pos) (u0 i):=
 PS.imp (ZK hx) fun E σ H z_=>by
  refine X41 z_ fun B Z F τ R h=>?_
  refine X11 (u9 (X:=X) (Post.of h)) fun ds h1 h2=>?_
  refine X23 (R.rv.own i ds h1) fun a vs q1 q2 q3 q4=>?_
  have hb:=R.ob i ds a h1 q1
  refine Y11 _ q1 (h2 (.ref a) (upd F a (.lst vs)) H ⟨?_,R.bh,fun b o e=>?_,fun b o e=>?_,fun _=>R.rv.tt.freeze q2⟩ ?_)
  ·exact R.zf.trans (yk q3)
  ·by_cases z:b=a
   ·subst z;rw[zr] at e;replace e:=sI_ e;subst e;exact q2
   ·rw[zp z] at e;exact R.rv.fh b o e
  ·by_cases z:b=a
   ·subst z;exact .inr hb
   ·rw[zp z] at e;exact R.nb b o e
  ·simp only[Rep]
   exact Y22 a vs rfl zr (q4.mono (yk q3))
noncomputable def Gf(i:Nat)(fi:FE):FE:=fun τ=>(vP τ i).bind fun ds=>(fi τ).bind fun k=>match k with
 |.int k=>match atI ds k with
  |some d=>.ok d
  |none=>.no
 |_=>.no
theorem XI{K:Frag}{F:Hp}{ds:List D}{vs:List V}{k:Int}{d:D}(r:Reps K F ds vs)(h:atI ds k=some d):∃v,atI vs k=some v∧Rep K F d v:=by
 unfold atI at h ⊢
 rw[← r.length]
 rcases q:ixN ds.length k with _|j
 ·rw[q] at h;cases h
 ·rw[q] at h
  exact r.get h
theorem Lv{i:Nat}{x:Str}{p1:Pos}{ix:Expr}{fi:FE}(hx:PE X (.Name x p1) (uW i))(hi:PDE X ix fi)(hs:Vu ix:=by intro _ _;rfl):PDE X (.Subscript (.Name x p1) ix pos) (Gf i fi):=
 PE.imp (zd7 ix_list hx hi hs) fun σ H Q z_=>by
  refine X21 z_ fun F τ R h=>?_
  refine X11 (u9 (X:=X) (Ok.bind h)) fun ds h1 h2=>?_
  refine X23 (R.own i ds h1) fun a vs q1 q2 q3 q4=>?_
  refine Y11 _ q1 ?_
  refine tE.of R h2.bind fun k w F2 H2 g2 x2 R2 r2=>?_
  cases k with
  |int k=>
   simp only[Rep] at r2
   simp only at g2
   rcases q:atI ds k with _|d
   ·rw[q] at g2;exact g2.elim
   ·rw[q] at g2
    refine X11 (XI q4 q) fun v z1 z2=>?_
    exact Y44 a vs k v rfl r2 (SqL.of (x2.hh _ _ q2)) z1 (g2 v F2 H2 x2 (z2.mono x2.ff))
  |_=>exact g2.elim
noncomputable def Uz(i:Nat):FE:=fun τ=>(vP τ i).bind fun ds=>.ok (.int ds.length)
theorem Mf{i:Nat}{x:Str}{p1 p:Pos}(hx:PE X (.Name x p1) (uW i))(hg:Gl X "len")(hm:X.mg "len" = none)
  (he:starEach [.Name x p1] X.env=[(false,eval (.Name x p1) X.env)]:=by rfl) (hpl:(backTo pos (starEach [] X.env)).any (·.1)=false:=by rfl):PDE X (.Call (.Name "len" p) [.Name x p1] [] pos) (Uz i):=
 PE.imp (pe_callB call_len_seq hg hm PySem.boot_len (uA hx Y7 (by rw[he];rfl)) (he:=by rw[he];rfl) (hpl:=hpl)) fun σ H Q z_=>by
  refine X21 z_ fun F τ R h=>?_
  refine X11 (u9 (X:=X) (Ok.bind h)) fun ds h1 h2=>?_
  refine X23 (R.own i ds h1) fun a vs q1 q2 q3 q4=>?_
  refine⟨_,q1,a,vs,rfl,.inl (SqL.of q2),?_⟩
  rw[← q4.length]
  exact h2 (.int ds.length) F H (Ext.refl R.fh) (by simp only[Rep])
end
noncomputable def Jm(K:Frag)(J:It)(F1:Hp)(ds:List D):Prop:=∀(i:Nat) (F H:Hp),Same F1 F→Same F H →
 (ds.length≤i→J.stop i H)∧∀d,ds[i]?=some d→J.go i H∧∀x H',J.yld i H x H'→∃F',Ext F H F' H'∧Rep K F' d x
noncomputable def tI(X:Cx)(f:FA):TI:=fun σ H R=>∃F τ,RV X.K F τ σ H∧Ok X (f τ) fun ds=>∀J F1 H1,Ext F H F1 H1→Jm X.K J F1 ds→R J H1
noncomputable def PDI(X:Cx)(tg iter:Expr)(f:FA):Prop:=PI X tg iter (tI X f)
theorem _root_.L2.PI.imp{X:Cx}{tg e:Expr}{t t':TI}(h:PI X tg e t)(f:∀σ H Q,t' σ H Q→t σ H Q):PI X tg e t':=fun pins s σ H Q I q=>h pins s σ H Q I (f _ _ _ q)
section
variable{X:Cx}{pos:Pos}{e tg:Expr}{es:List Expr}{fe:FE}{fs:FA}
theorem J9{K:Frag}{a:Addr}{F1:Hp}{ds:List D}{vs:List V}(e:SqL K F1 a vs)(r:Reps K F1 ds vs):Jm K (Itl K a) F1 ds:=fun i F H f1 f2=>by
 have q:SqL K H a vs:=(f1.trans f2).seq e
 refine⟨fun h=>Y11 vs q (by rw[← r.length];exact h),fun d hd=>?_⟩
 refine X11 (r.get hd) fun v h1 h2=>?_
 refine⟨⟨vs,v,q,h1⟩,fun x H' y=>?_⟩
 obtain⟨e1,y⟩:=y
 subst e1
 have h3:=y vs q
 rw[h1] at h3;replace h3:=sI_ h3;subst h3
 exact Y11 F (Ext.refl f2) (h2.mono f1)
theorem zl6{K:Frag}{a:Addr}{F1:Hp}{ds:List D}{vs:List V}(e:SqT K F1 a vs)(r:Reps K F1 ds vs):Jm K (Itt K a) F1 ds:=fun i F H f1 f2=>by
 have q:SqT K H a vs:=Same.seqT (f1.trans f2) e
 refine⟨fun h=>Y11 vs q (by rw[← r.length];exact h),fun d hd=>?_⟩
 refine X11 (r.get hd) fun v h1 h2=>?_
 refine⟨⟨vs,v,q,h1⟩,fun x H' y=>?_⟩
 obtain⟨e1,y⟩:=y
 subst e1
 have h3:=y vs q
 rw[h1] at h3;replace h3:=sI_ h3;subst h3
 exact Y11 F (Ext.refl f2) (h2.mono f1)
noncomputable def jR(lo:Int)(n:Nat):List D:=(List.range n).map fun (k:Nat)=>D.int (lo+k)
theorem zl8{K:Frag}{F1:Hp}{lo:Int}{n:Nat}:Jm K (Itr lo n) F1 (jR lo n):=fun i F H f1 f2=>by
 have hl:(jR lo n).length=n:=by simp[jR]
 refine⟨fun h=>by rw[hl] at h;exact h,fun d hd=>?_⟩
 have hi:i<n:=by have:=(List.getElem?_eq_some_iff.mp hd).1;rw[hl] at this;exact this
 refine⟨hi,fun x H' y=>?_⟩
 obtain⟨e1,y⟩:=y
 subst e1
 refine Y11 F (Ext.refl f2) ?_
 simp[jR,hi] at hd
 subst hd
 simp only[Rep];exact y
noncomputable def Ja:List D→Option Int
 |[.int j]=>some j
 |_=>none
noncomputable def U9:List D→Option (Int×Int)
 |[.int i,.int j]=>some (i,j)
 |_=>none
noncomputable def Y6:D→Option (D×D)
 |.tup [x,y]=>some (x,y)
 |_=>none
theorem Qd{ds:List D}{j:Int}(h:Ja ds=some j):ds=[.int j]:=by
 unfold Ja at h;split at h <;> cases h;rfl
theorem Qc{ds:List D}{i j:Int}(h:U9 ds=some (i,j)):ds=[.int i,.int j]:=by
 unfold U9 at h;split at h <;> cases h;rfl
theorem Mj{d x y:D}(h:Y6 d=some (x,y)):d=.tup [x,y]:=by
 unfold Y6 at h;split at h <;> cases h;rfl
noncomputable def vJ(fs:FA):FA:=fun τ=>(fs τ).bind fun ds=>match Ja ds with
 |some j=>if -(2 ^ 62)≤j∧j<2 ^ 62 then .ok (jR 0 j.toNat) else .no
 |none=>.no
theorem ve{a:Expr}{p:Pos}(hg:Gl X "range")(hm:X.mg "range" = none)(ha:PDA X [a] fs)(hs:starEach [a] X.env=[(false,eval a X.env)]:=by rfl):PDI X tg (.Call (.Name "range" p) [a] [] pos) (vJ fs):=
 PI.imp (QI hg hm ha hs) fun σ H R z_=>by
  refine X21 z_ fun F τ Rv h=>?_
  refine tAs.of Rv h.bind fun ds vs F1 H1 g x R1 r=>?_
  rcases q1:Ja ds with _|j
  ·rw[q1] at g;exact g.elim
  ·rw[q1] at g
   have e:=Qd q1
   subst e
   obtain⟨v,rfl,q⟩:=r.one
   simp only[Rep] at q;subst q
   obtain⟨z,g⟩:=yZ g
   exact Y13 j rfl z.1 z.2 (g _ F1 H1 x zl8)
noncomputable abbrev FG:=D→DS→Rs DS
noncomputable def tG(X:Cx)(set:FG):TG:=fun v σ H Q=>∃F τ d,RV X.K F τ σ H∧Rep X.K F d v∧Ok X (set d τ) fun τ'=>∀σ',RV X.K F τ' σ' H→(∀B Z,RS X.K B Z F τ σ H→RS X.K B Z F τ' σ' H)→σ'.length=σ.length→Q σ' H
noncomputable def PDG(X:Cx)(tg:Expr)(set:FG):Prop:=PG X tg (tG X set)
theorem _root_.L2.PG.imp{X:Cx}{e:Expr}{t t':TG}(h:PG X e t)(f:∀v σ H Q,t' v σ H Q→t v σ H Q):PG X e t':=fun pins s σ H v u Q I r q=>h pins s σ H v u Q I r (f _ _ _ _ q)
noncomputable def gNm(i:Nat):FG:=fun d τ=>.ok (τ.set i (some (.val d)))
theorem yV{i:Nat}{x:Str}(hN:X.N.Nodup)(hi:X.N[i]?=some x)(hx:Loc X.env.scope x)(hf:X.fn x=true∨X.env.scope.names.lookup x=some .local:=by first|exact .inl rfl|exact .inr rfl|assumption):PDG X (.Name x pos) (gNm i):=
 PG.imp (WX hN hi hx hf) fun v σ H Q z_=>by refine X32 z_ fun F τ d R r h=>?_;exact h _ (R.set r) (fun B Z R'=>R'.set r) (by simp)
noncomputable def gPr(i j:Nat):FG:=fun d τ=>match Y6 d with
 | some (x,y)=>.ok ((τ.set i (some (.val x))).set j (some (.val y)))
 |none=>.no
theorem Y2{i j k:Nat}{x y:Str}{px py:Pos}(hc:X.calm=true)(hN:X.N.Nodup)(hi:X.N[i]?=some x)(hx:Loc X.env.scope x)(hj:X.N[j]?=some y)(hy:Loc X.env.scope y)
  (hf:X.fn x=true∨X.env.scope.names.lookup x=some .local:=by first|exact .inl rfl|exact .inr rfl|assumption) (hf':X.fn y=true∨X.env.scope.names.lookup y=some .local:=by first|exact .inl rfl|exact .inr rfl|assumption) :
  PDG X (.Tuple [.Name x px,.Name y py] k pos) (gPr i j):=
 PG.imp (zh1 (n:=2) hc (VQ (WX hN hi hx hf) (VQ (WX hN hj hy hf') Ll))) fun v σ H Q z_=>by
  refine X32 z_ fun F τ d R r h=>?_
  unfold gPr at h
  rcases q1:Y6 d with _|xy
  ·rw[q1] at h;exact h.elim
  ·obtain⟨x,y⟩:=xy
   rw[q1] at h
   have e:=Mj q1
   subst e
   simp only[Rep] at r
   obtain⟨a,vs,rfl,q,t⟩:=r
   obtain⟨v1,v2,rfl,r1,r2⟩:=t.two
   exact⟨a,_,rfl,Same.seqT R.fh q,rfl,v1,[v2],rfl,v2,[],rfl,rfl,h _ ((R.set r1).set r2) (fun B Z R'=>(R'.set r1).set r2) (by simp)⟩
noncomputable def xB(set:FG)(body:FS):List D→DS→Fl
 |[],τ=>.nx τ
 |d::r,τ=>Fl.of (set d τ) fun τ1=>match body τ1 with
  |.nx τ'=>xB set body r τ'
  |.ct τ'=>xB set body r τ'
  |.bk τ'=>.nx τ'
  |.rt d=>.rt d
  |.ro d τ'=>.ro d τ'
  |.rb d τ'=>.rb d τ'
  |.ex c=>.ex c
  |.no=>.no
  |.rs c τ'=>.rs c τ'
noncomputable def uu(fi:FA)(set:FG)(body:FS):FS:=fun τ=>Fl.of (fi τ) fun ds=>xB set body ds τ
theorem vM{iter:Expr}{body:List Stmt}{fi:FA}{set:FG}{fb:FS}(hp:PassesOwn (model X.prog X.w) X.A X.env X.xe)(hc:X.calm=true)(hi:PDI X tg iter fi)(hg:PDG X tg set)(hb:vh X body fb)
  (hs:∀x,foldedSetIterable iter X.env x=pure x:=by intro _;rfl):PDS X (.For tg iter body [] pos) (uu fi set fb):=
 PS.imp (zg4 hp hc hi hg hb hs) fun E σ H z_=>by
  refine X41 z_ fun B Z F τ R h=>?_
  refine Y21 F τ R.rv (h.of.imp fun ds g J F1 H1 x io=>?_)
  refine⟨fun i m σ H=>m=ds.length-i∧i≤ds.length∧∃F' τ',Same F1 F'∧RS X.K B Z F' τ' σ H∧Post X B Z F' E (xB set fb (ds.drop i) τ'),⟨ds.length,by simp,zero_le _,F1,τ,Same.refl _,R.ext x,g.same x.ff⟩,?_⟩
  rintro i m σ2 H2 ⟨rfl,hi,F2,τ2,f2,R2,p2⟩
  obtain⟨i1,i2⟩:=io i F2 H2 f2 R2.rv.fh
  by_cases hlt:i<ds.length
  ·have hd:ds.drop i=ds[i]::ds.drop (i+1):=drop_eq_getElem_cons hlt
   rw[hd] at p2
   obtain⟨go,yl⟩:=i2 ds[i] (by simp[hlt])
   refine .inr ⟨go,fun σ' H'=>∃F' τ',Same F2 F'∧RS X.K B Z F' τ' σ' H'∧Post X B Z F' E (xB set fb (ds.drop (i+1)) τ'),fun σ' H' ⟨F',τ',a,b,c⟩=>⟨ds.length-(i+1),by lia,rfl,hlt,F',τ',f2.trans a,b,c⟩,fun y H' yy=>?_⟩
   refine X11 (yl y H' yy) fun F3 x3 r3=>?_
   have R3:=R2.ext x3
   refine Y32 F3 τ2 (ds[i]) R3.rv r3 ((Post.of p2).imp fun τ4 p4 σ4 _ R4 _=>⟨B,Z,F3,τ4,R4 B Z R3,?_⟩)
   cases q:fb τ4 with
   |nx τ5=>rw[q] at p4;exact fun σ' F' H' ff RR=>Y22 F' τ5 (x3.ff.trans ff) RR (Post.same p4 (x3.ff.trans ff))
   |ct τ5=>rw[q] at p4;exact fun σ' F' H' ff RR=>Y22 F' τ5 (x3.ff.trans ff) RR (Post.same p4 (x3.ff.trans ff))
   |bk τ5=>rw[q] at p4;exact fun σ' F' H' ff RR=>p4 σ' F' H' (x3.ff.trans ff) RR
   |rt d=>rw[q] at p4;exact p4
   |ro d τ'=>rw[q] at p4;exact fun v σ' F' H' ff RR rr=>p4 v σ' F' H' (x3.ff.trans ff) RR rr
   |rb d τ'=>rw[q] at p4;exact fun v σ' F' H' ff RR rr=>p4 v σ' F' H' (x3.ff.trans ff) RR rr
   |ex c=>rw[q] at p4;exact p4
   |no=>rw[q] at p4;exact p4
   |rs c τ5=>rw[q] at p4;exact fun σ' F' H' ff RR=>p4 σ' F' H' (x3.ff.trans ff) RR
  ·have e:i=ds.length:=by lia
   subst e
   rw[drop_length] at p2
   exact .inl ⟨i1 (le_refl _),p2 σ2 F2 H2 (Same.refl _) R2⟩
end
noncomputable def X4(r:Rs D):Rs D:=match r with
 |.ok d=>.ok d
 |_=>.no
noncomputable def spD(K:Frag)(n:Nat)(g:List D→Rs D):Sp:=fun vs H Q E=>vs.length=n∧∃ds F,Same F H∧TbT F H∧Reps K F ds vs∧match g ds with
 |.ok d=>Ev K F H Q d
 |_=>False
noncomputable def yg(N:Nat)(ds:List D):DS:=ds.map (fun d=>some (.val d))++List.replicate (N-ds.length) none
noncomputable def Zr:Fl→Rs D
 |.rt d=>.ok d
 |.ro d _=>.ok d
 |.nx _=>.ok .non
 |.rs c _=>.ex c
 |_=>.no
noncomputable def wo(N:Nat)(fb:FS)(ds:List D):Rs D:=Zr (fb (yg N ds))
theorem VM{K:Frag}{F H:Hp}{N:List Str}{ds:List D}{vs:List V}(fh:Same F H)(tt:TbT F H)(r:Reps K F ds vs):RS K H F F (yg N.length ds) (L2.start N vs) H:=by
 have hl:=r.length
 have hval:∀(i:Nat) (o:Sl),(yg N.length ds)[i]?=some (some o)→∃d,ds[i]?=some d∧o=.val d:=fun i o h=>by
  unfold yg at h
  by_cases hi:i<ds.length
  ·rw[getElem?_append_left (by simpa using hi),getElem?_map] at h
   rcases e:ds[i]? with _|d
   ·rw[e] at h;cases h
   ·rw[e] at h;cases h;exact Y11 d rfl rfl
  ·rw[getElem?_append_right (by simpa using hi),getElem?_replicate] at h
   split at h <;> cases h
 refine⟨⟨fh,?_,fun i d h=>?_,fun i es h=>?_,fun i j es es' a _ h1 _ _ _=>?_,tt,ObsOk.none fun i s h=>?_⟩,Hh.refl H,Same.refl F,fun a o e=>.inl e,fun i es a h1 _=>?_,fun i m c fs a h1 _=>?_,fun a0 dx _ _ j m c fs h1=>?_,fun j c fs a h1 _=>?_⟩
 ·simp[yg,L2.start,hl]
 ·refine X11 (hval i _ h) fun d' h1 h2=>?_
  replace h2:=FD.Sl.val.inj h2;subst h2
  refine X11 (r.get h1) fun v q1 q2=>?_
  refine Y11 v ?_ q2
  have hi:i<vs.length:=(List.getElem?_eq_some_iff.mp q1).1
  unfold L2.start
  rw[getElem?_append_left (by simpa using hi),getElem?_map,q1];rfl
 ·refine X11 (hval i _ h) fun _ _ h2=>?_;nomatch h2
 ·refine X11 (hval i _ h1) fun _ _ h2=>?_;nomatch h2
 ·rcases s with _|o
  ·rfl
  ·refine X11 (hval i _ h) fun _ _ h2=>?_;rw[h2];rfl
 ·refine X11 (hval i _ h1) fun _ _ h2=>?_;nomatch h2
 ·refine X11 (hval i _ h1) fun _ _ h2=>?_;nomatch h2
 ·refine X11 (hval j _ h1) fun _ _ h2=>?_;nomatch h2
 ·refine X11 (hval j _ h1) fun _ _ h2=>?_;nomatch h2
section
variable{P:Program}{w:World}{K:Frag}{mg:Str→Option Value}{base:Heap}
theorem fnD{x qual:Str}{st:Stmt}{f:Addr}{fd:FuncData}{N ps:List Str}{k n:Nat}{fb:FS}(F:Fun K x qual st f fd)(S:zF N ps (zh st))(hn:ps.length=n)
  (hbody:∀(cdv:Value) (A:Around) (outer:List Env) (s:Shared) (H:Hp) (E:XK),Room k (A.deeper (envOfC qual (zh st) s.heap.objs.size f cdv)) →
   vh (v0 CX0 P w K mg base N qual (zh st) f cdv A outer s H E).nox (zC st) fb):FnOk P w K mg base CX0 (k+1) f fd ps (spD K n (wo N.length fb)):=by
 refine F.ok S (fun vs H Q E h=>by rw[hn];exact h.1) fun cdv A outer s H vs Q E hr h=>⟨_,hbody cdv A outer s H E hr,?_⟩
 obtain⟨hl,ds,Fz,fh,tt,r,h⟩:=h
 refine Y41 H Fz Fz (yg N.length ds) (VM fh tt r) ?_
 unfold wo at h
 cases q:fb (yg N.length ds) with
 |nx τ=>rw[q] at h;exact fun σ F' H' ff RR=>h .non F' H' RR.out (by simp only[Rep])
 |rt d=>rw[q] at h;exact fun v F' H' x rr=>h v F' H' x rr
 |ro d τ=>rw[q] at h;exact fun v σ F' H' ff RR rr=>h v F' H' RR.out rr
 |rb d τ=>rw[q] at h;exact h.elim
 |bk τ=>rw[q] at h;exact h.elim
 |ct τ=>rw[q] at h;exact h.elim
 |ex c=>rw[q] at h;exact h.elim
 |no=>rw[q] at h;exact h.elim
 |rs c τ=>rw[q] at h;exact h.elim
theorem FnD.to{CX:CXT}{f:Addr}{fd:FuncData}{ps:List Str}{k n:Nat}{g g':List D→Rs D}(F:FnOk P w K mg base CX k f fd ps (spD K n g))(h:∀ds d,ds.length=n→g' ds=.ok d→g ds=.ok d):FnOk P w K mg base CX k f fd ps (spD K n g'):=
 F.imp fun vs H Q E ⟨hl,ds,Fz,fh,tt,r,q⟩=>⟨hl,ds,Fz,fh,tt,r,by
  cases e:g' ds with
  |ok d=>rw[e] at q;rw[h ds d (by rw[r.length];exact hl) e];exact q
  |ex c=>rw[e] at q;exact q.elim
  |no=>rw[e] at q;exact q.elim⟩
end
section
variable{X:Cx}{pos:Pos}{e tg:Expr}{es:List Expr}{fe:FE}{fs:FA}
noncomputable def zB(g:List D→Rs D)(fs:FA):FE:=fun τ=>(fs τ).bind fun ds=>X4 (g ds)
theorem Mi{k n:Nat}{f:Addr}{fd:FuncData}{ps:List Str}{g:List D→Rs D}{x:Str}{p:Pos}(F:FnOk X.prog X.w X.K X.mg X.base CX0 k f fd ps (spD X.K n g))(hr:Room k X.A)(hg:Gl X x)(hm:X.mg x=some (.ref f))(hk:keepIn X.K (.ref f)=true)(hb:Binds X.K fd ps [])
  (ha:PDA X (e::es) fs) (hn:(e::es).length=n) (hfs:∀τ ds,fs τ=.ok ds→ds.length=(e::es).length) (hdb:(x==("__debug__" : Str))=false:=by decide) (he:starEach (e::es) X.env=(false,eval e X.env)::starEach es X.env:=by rfl) (hpl:(backTo pos (starEach es X.env)).any (·.1)=false:=by rfl) :
  PDE X (.Call (.Name x p) (e::es) [] pos) (zB g fs):=
 PE.imp (WY F hr hg hm hk hb .nil (E:=E0) Z9 ha hdb he hpl) fun σ H Q z_=>by
  refine X21 z_ fun Fz τ R h=>?_
  have hb:=h.bind
  refine Y21 Fz τ R ?_
  cases q:fs τ with
  |no=>rw[q] at hb;exact hb
  |ex c=>rw[q] at hb;exact hb
  |ok ds=>
   rw[q] at hb
   intro vs F1 H1 x r
   rw[append_nil]
   refine⟨by rw[← r.length,hfs τ ds q,hn],ds,F1,x.fh,x.tt R.tt,r,?_⟩
   have hb:Ok X (X4 (g ds)) (Ev X.K Fz H Q):=hb
   cases z:g ds with
   |ok d=>rw[z] at hb;exact Ev.ext hb x
   |ex c=>rw[z] at hb;exact hb.elim
   |no=>rw[z] at hb;exact hb.elim
theorem zq(τ:DS)(ds:List D)(h:zi τ=.ok ds):ds.length=0:=by cases h;rfl
theorem zg{f:FE}{g:FA}{n:Nat}(hg:∀τ ds,g τ=.ok ds→ds.length=n)(τ:DS)(ds:List D)(h:za f g τ=.ok ds):ds.length=n+1:=by
 unfold za at h
 cases q:f τ with
 |no=>rw[q] at h;cases h
 |ex c=>rw[q] at h;cases h
 |ok d=>
  rw[q] at h
  cases q2:g τ with
  |no=>rw[q2] at h;cases h
  |ex c=>rw[q2] at h;cases h
  |ok r=>rw[q2] at h;cases h;simp[hg τ r q2]
noncomputable def XN(X:Cx)(f:Value)(g:List D→Rs D):Prop:=∃r,CallR X f r∧∀F H vs ds Q,Same F H→Reps X.K F ds vs→Ok X (g ds) (Ev X.K F H Q)→r vs H Q
noncomputable def ya(g:List D→Rs D)(fs:FA):FE:=fun τ=>(fs τ).bind g
theorem zP{id:String}{x:Str}{p:Pos}{g:List D→Rs D}(hc:XN X (.builtin id) g)(hg:Gl X x)(hm:X.mg x=none)(hv:bootBuiltins x=some (.builtin id))(ha:PDA X (e::es) fs)(hn:x ≠ "__name__" := by decide)(hdb:(x==("__debug__" : Str))=false:=by decide)
  (he:starEach (e::es) X.env=(false,eval e X.env)::starEach es X.env:=by rfl) (hpl:(backTo pos (starEach es X.env)).any (·.1)=false:=by rfl):PDE X (.Call (.Name x p) (e::es) [] pos) (ya g fs):=by
 refine X11 hc fun r h1 h2=>?_
 exact PE.imp (L2.pe_callB h1 hg hm hv ha hn hdb he hpl) fun σ H Q z_=>by refine X21 z_ fun Fz τ R h=>?_;exact tAs.of R h.bind fun ds vs F1 H1 q x R1 rr=>h2 F1 H1 vs ds Q R1.fh rr (q.imp fun d e=>e.ext x)
theorem Y5{id:String}{x:Str}{p:Pos}{g:List D→Rs D}(hc:XN X (.type id) g)(hg:Gl X x)(hm:X.mg x=none)(hv:bootBuiltins x=some (.type id))(ha:PDA X (e::es) fs)(hn:x ≠ "__name__" := by decide)(hdb:(x==("__debug__" : Str))=false:=by decide)
  (he:starEach (e::es) X.env=(false,eval e X.env)::starEach es X.env:=by rfl) (hpl:(backTo pos (starEach es X.env)).any (·.1)=false:=by rfl):PDE X (.Call (.Name x p) (e::es) [] pos) (ya g fs):=by
 refine X11 hc fun r h1 h2=>?_
 exact PE.imp (L2.pe_callTy h1 hg hm hv ha hn hdb he hpl) fun σ H Q z_=>by refine X21 z_ fun Fz τ R h=>?_;exact tAs.of R h.bind fun ds vs F1 H1 q x R1 rr=>h2 F1 H1 vs ds Q R1.fh rr (q.imp fun d e=>e.ext x)
noncomputable def IxD(X:Cx)(op:D→D→Rs D):Prop:=∃r:R2,IxR X r∧∀F H x y dx dy Q,Same F H→Rep X.K F dx x→Rep X.K F dy y→Ok X (op dx dy) (Ev X.K F H Q)→r x y H Q
theorem zT{a b:Expr}{fa fb:FE}{op:D→D→Rs D}(hr:IxD X op)(ha:PDE X a fa)(hb:PDE X b fb)(hs:Vu b:=by intro _ _;rfl):PDE X (.Subscript a b pos) (eOp op fa fb):=by
 refine X11 hr fun r h1 h2=>?_
 exact PE.imp (zd7 h1 ha hb hs) (JQ h2)
noncomputable def ixD:D→D→Rs D
 |.lst ds,.int k=>match atI ds k with
  |some d=>.ok d
  |none=>.no
 |.tup ds,.int k=>match atI ds k with
  |some d=>.ok d
  |none=>.no
 |.scr ns,.int k=>match atI ns k with
  |some d=>.ok (.int d)
  |none=>.no
 |.str x,.int k=>match atI x.cps.toList k with
  |some c=>if x.length≤sizeLine then .ok (.str ⟨#[c]⟩) else .no
  |none=>.no
 |_,_=>.no
theorem zc3{α β:Type}{f:α→β}{xs:List α}{k:Int}{a:α}(h:atI xs k=some a):atI (xs.map f) k=some (f a):=by
 unfold atI at h ⊢
 rw[length_map]
 rcases q:ixN xs.length k with _|j
 ·rw[q] at h;cases h
 ·rw[q] at h
  have h:xs[j]?=some a:=h
  show(xs.map f)[j]?=_
  rw[getElem?_map,h];rfl
theorem yh:IxD X ixD:=Y11 _ zl5 (fun F H x y dx dy Q fh r1 r2 h=>by
 cases dx with
 |lst ds=>
  cases dy with
  |int k=>
   simp only[Rep] at r1 r2;obtain⟨a,vs,rfl,q,t⟩:=r1;subst r2
   (delta ixD at h;dsimp only at h)
   rcases z:atI ds k with _|d
   ·rw[z] at h;exact h.elim
   ·rw[z] at h
    refine X11 (XI t z) fun v z1 z2=>?_
    exact .inl ⟨a,vs,k,v,rfl,rfl,SqL.of (fh _ _ q),z1,h v F H (Ext.refl fh) z2⟩
  |_=>exact h.elim
 |tup ds=>
  cases dy with
  |int k=>
   simp only[Rep] at r1 r2;obtain⟨a,vs,rfl,q,t⟩:=r1;subst r2
   (delta ixD at h;dsimp only at h)
   rcases z:atI ds k with _|d
   ·rw[z] at h;exact h.elim
   ·rw[z] at h
    refine X11 (XI t z) fun v z1 z2=>?_
    exact .inr (.inl ⟨a,vs,k,v,rfl,rfl,Same.seqT fh q,z1,h v F H (Ext.refl fh) z2⟩)
  |_=>exact h.elim
 |scr ns=>
  cases dy with
  |int k=>
   simp only[Rep] at r1 r2;obtain⟨a,rfl,q⟩:=r1;subst r2
   (delta ixD at h;dsimp only at h)
   rcases z:atI ns k with _|d
   ·rw[z] at h;exact h.elim
   ·rw[z] at h
    exact .inl ⟨a,_,k,.int d,rfl,rfl,fh.seq q,zc3 z,h (.int d) F H (Ext.refl fh) (by simp only[Rep])⟩
  |_=>exact h.elim
 |str x=>
  cases dy with
  |int k=>
   simp only[Rep] at r1 r2;subst r1;subst r2
   (delta ixD at h;dsimp only at h)
   rcases z:atI x.cps.toList k with _|c
   ·rw[z] at h;exact h.elim
   ·rw[z] at h
    obtain⟨z2,h⟩:=yZ h
    exact .inr (.inr ⟨x,k,c,rfl,rfl,z2,z,h _ F H (Ext.refl fh) (by simp only[Rep])⟩)
  |_=>exact h.elim
 |_=>cases dy <;> exact h.elim)
end
mutual
noncomputable def yG:D→PyData
 |.non=>.none
 |.bl b=>.bool b
 |.int i=>.int i
 |.str x=>.str x
 |.lst ds=>.list (toPys ds)
 |.tup ds=>.tuple (toPys ds)
 |.scr ns=>.list (ns.map .int)
 |.raw _=>.none
 |.exc _=>.none
 |.dct _ _=>.none
noncomputable def toPys:List D→List PyData
 |[]=>[]
 |d::r=>yG d::toPys r
end
mutual
noncomputable def xf:D→Bool
 |.lst ds=>plainDs ds
 |.tup ds=>plainDs ds
 |.raw _=>false
 |.exc _=>false
 |.dct _ _=>false
 |_=>true
noncomputable def plainDs:List D→Bool
 |[]=>true
 |d::r=>xf d&&plainDs r
end
theorem readsAll_ints{h:Heap}:∀{ns:List Int} {us:List Value},Vals (ns.map V.int) us→ReadsAll h us (ns.map .int) []
 |[],_,.nil=>.nil
 |n::ns,_,.cons r t=>by
  obtain⟨tk,rfl⟩:=r
  exact .cons (as:=[]) (bs:=[]) (.int n tk) (readsAll_ints t)
section
variable{X:Cx}{pins:List (Addr×Obj)}{σ:St}{F H:Hp}{s:Shared}
mutual
theorem vz(I:Inv X pins σ H s)(fh:Same F H):∀(d:D) {v:V} {u:Value},Rep X.K F d v→RelV v u→xf d=true→∃as,Reads s.heap u (yG d) as
 |.non,v,u,r,rv,_=>by simp only[Rep] at r;subst r;cases rv;exact⟨[],.none⟩
 |.bl b,v,u,r,rv,_=>by simp only[Rep] at r;subst r;cases rv;exact⟨[],.bool b⟩
 |.int i,v,u,r,rv,_=>by simp only[Rep] at r;subst r;obtain⟨t,rfl⟩:=rv;exact⟨[],.int i t⟩
 |.str x,v,u,r,rv,_=>by simp only[Rep] at r;subst r;obtain⟨t,rfl⟩:=rv;exact⟨[],.str x t⟩
 |.lst ds,v,u,r,rv,hp=>by
  simp only[Rep] at r;obtain⟨a,vs,rfl,q,t⟩:=r
  cases rv
  obtain⟨its,rr,⟨o,n,e,c,_,dd⟩,_⟩:=I.list (SqL.of (K:=X.K) (fh _ _ q))
  obtain⟨as,ra⟩:=readss_of I fh ds t rr (by simpa only[xf] using hp)
  exact⟨a::as,by rw[yG];exact .list e c dd (by simpa using ra)⟩
 |.tup ds,v,u,r,rv,hp=>by
  simp only[Rep] at r;obtain⟨a,vs,rfl,q,t⟩:=r
  cases rv
  obtain⟨its,rr,⟨o,e,c,n,dd⟩,_⟩:=I.tuple (Same.seqT fh q)
  obtain⟨as,ra⟩:=readss_of I fh ds t rr (by simpa only[xf] using hp)
  exact⟨as,by rw[yG];exact .tuple e c dd (by simpa using ra)⟩
 |.scr ns,v,u,r,rv,hp=>by
  simp only[Rep] at r;obtain⟨a,rfl,q⟩:=r
  cases rv
  obtain⟨its,rr,⟨o,n,e,c,_,dd⟩,_⟩:=I.list (fh.seq q)
  exact⟨[a],by rw[yG];exact .list e c dd (by simpa using readsAll_ints rr)⟩
 |.raw w,v,u,r,rv,hp=>by simp[xf] at hp
 |.exc w,v,u,r,rv,hp=>by simp[xf] at hp
 |.dct _ _,v,u,r,rv,hp=>by simp[xf] at hp
theorem readss_of(I:Inv X pins σ H s)(fh:Same F H):∀(ds:List D) {vs:List V} {us:List Value},Reps X.K F ds vs→Vals vs us→plainDs ds=true→∃as,ReadsAll s.heap us (toPys ds) as
 |[],vs,us,r,rv,_=>by simp only[Reps] at r;subst r;cases rv;exact⟨[],by rw[toPys];exact .nil⟩
 |d::ds,vs,us,r,rv,hp=>by
  simp only[Reps] at r
  obtain⟨v,r',rfl,q,t⟩:=r
  simp only[plainDs,Bool.and_eq_true] at hp
  cases rv with
  |cons r1 r2=>
   obtain⟨as,h1⟩:=vz I fh d q r1 hp.1
   obtain⟨bs,h2⟩:=readss_of I fh ds t r2 hp.2
   exact⟨as++bs,by rw[toPys];exact .cons h1 h2⟩
end
end
noncomputable def okD(d:D):Bool:=xf d&&(yG d).canLay0&&decide ((yG d).depth≤60)
theorem jv{d:D}(h:okD d=true):xf d=true∧(yG d).canLay0=true∧(yG d).depth≤60:=by
 simpa[okD,and_assoc] using h
noncomputable def wO(d e:D):Bool:=PyData.eqv (yG d) (yG e)
noncomputable def eqD:D→D→Rs D
 |.str x,.str y=>.ok (.bl (x==y))
 |.int x,.int y=>.ok (.bl (x==y))
 |d,e=>if okD d=true∧okD e=true then .ok (.bl (wO d e)) else .no
noncomputable def neD:D→D→Rs D
 |.str x,.str y=>.ok (.bl (!(x==y)))
 |.int x,.int y=>.ok (.bl (!(x==y)))
 |d,e=>if okD d=true∧okD e=true then .ok (.bl (!wO d e)) else .no
section
variable{X:Cx}
noncomputable def JD(K:Frag)(b:D→D→Bool):R2:=fun x y H Q=>∃F d e,Same F H∧Rep K F d x∧Rep K F e y∧okD d=true∧okD e=true∧Q (.bl (b d e)) H
theorem QV(hu:X.A.units+64<cLine):OpR X (compareOp .Eq) (JD X.K wO):=by
 intro pins s σ H x y v u Q I rx ry h
 refine X35 h fun F d e fh r1 r2 o1 o2 q=>?_
 refine X02 (jv o1) fun p1 c1 e1=>?_
 refine X02 (jv o2) fun p2 c2 e2=>?_
 obtain⟨as,h1⟩:=vz I fh d r1 rx p1
 obtain⟨bs,h2⟩:=vz I fh e r2 ry p2
 exact SeqAt.compareEq_reads h1 h2 c1 c2 (by lia) ⟨.bl _,H,I,rfl,q⟩
theorem QT(hu:X.A.units+64<cLine):OpR X (compareOp .NotEq) (JD X.K fun d e=>!wO d e):=by
 intro pins s σ H x y v u Q I rx ry h
 refine X35 h fun F d e fh r1 r2 o1 o2 q=>?_
 refine X02 (jv o1) fun p1 c1 e1=>?_
 refine X02 (jv o2) fun p2 c2 e2=>?_
 obtain⟨as,h1⟩:=vz I fh d r1 rx p1
 obtain⟨bs,h2⟩:=vz I fh e r2 ry p2
 exact SeqAt.compareNe_reads h1 h2 c1 c2 (by lia) ⟨.bl _,H,I,rfl,q⟩
theorem xl(hu:X.A.units+64<cLine):OpD X (compareOp .Eq) eqD:=Y11 _ (op_eq.or (QV hu)) (fun F H x y dx dy Q fh r1 r2 h=>by
 have gen:(Ok X (if okD dx=true∧okD dy=true then .ok (.bl (wO dx dy)) else .no) (Ev X.K F H Q))→rEq x y H Q∨JD X.K wO x y H Q:=fun h=>by
  obtain⟨z,h⟩:=yZ h
  exact .inr ⟨F,dx,dy,fh,r1,r2,z.1,z.2,h _ F H (Ext.refl fh) (by simp only[Rep])⟩
 cases dx with
 |str a=>
  cases dy with
  |str b=>
   simp only[Rep] at r1 r2;subst r1;subst r2
   exact .inl ⟨rfl,by rw[YE];exact h _ F H (Ext.refl fh) (by simp only[Rep])⟩
  |_=>exact gen h
 |int a=>
  cases dy with
  |int b=>
   simp only[Rep] at r1 r2;subst r1;subst r2
   exact .inl ⟨rfl,by rw[YF];exact h _ F H (Ext.refl fh) (by simp only[Rep])⟩
  |_=>exact gen h
 |_=>exact gen h)
theorem jU(hu:X.A.units+64<cLine):OpD X (compareOp .NotEq) neD:=Y11 _ (op_ne.or (QT hu)) (fun F H x y dx dy Q fh r1 r2 h=>by
 have gen:(Ok X (if okD dx=true∧okD dy=true then .ok (.bl (!wO dx dy)) else .no) (Ev X.K F H Q))→rNe x y H Q∨JD X.K (fun d e=>!wO d e) x y H Q:=fun h=>by
  obtain⟨z,h⟩:=yZ h
  exact .inr ⟨F,dx,dy,fh,r1,r2,z.1,z.2,h _ F H (Ext.refl fh) (by simp only[Rep])⟩
 cases dx with
 |str a=>
  cases dy with
  |str b=>
   simp only[Rep] at r1 r2;subst r1;subst r2
   exact .inl ⟨rfl,by rw[YE];exact h _ F H (Ext.refl fh) (by simp only[Rep])⟩
  |_=>exact gen h
 |int a=>
  cases dy with
  |int b=>
   simp only[Rep] at r1 r2;subst r1;subst r2
   exact .inl ⟨rfl,by rw[YF];exact h _ F H (Ext.refl fh) (by simp only[Rep])⟩
  |_=>exact gen h
 |_=>exact gen h)
noncomputable def intOp(C:Int→Int→Bool)(g:Int→Int→D):D→D→Rs D
 |.int i,.int j=>if C i j=true then .ok (g i j) else .no
 |_,_=>.no
theorem JP{f:Value→Value→Sem Value}{C':Int→Int→Prop}{C:Int→Int→Bool}{gv:Int→Int→V}{g:Int→Int→D}(h:OpR X f (rI C' gv))(hc:∀i j,C i j=true→C' i j)(hg:∀F i j,Rep X.K F (g i j) (gv i j)):OpD X f (intOp C g):=
 ⟨_,h,fun F H x y dx dy Q fh r1 r2 q=>by
  cases dx with
  |int i=>
   cases dy with
   |int j=>
    simp only[Rep] at r1 r2;subst r1;subst r2
    obtain⟨z,q⟩:=yZ q
    exact Y23 i j rfl rfl (hc i j z) (q _ F H (Ext.refl fh) (hg F i j))
   |_=>exact q.elim
  |_=>cases dy <;> exact q.elim⟩
noncomputable def ZX(g:Int→Int→D):D→D→Rs D
 |.int i,.int j=>.ok (g i j)
 |_,_=>.no
theorem ja{f:Value→Value→Sem Value}{gv:Int→Int→V}{g:Int→Int→D}(h:OpR X f (rI0 gv))(hg:∀F i j,Rep X.K F (g i j) (gv i j)):OpD X f (ZX g):=
 ⟨_,h,fun F H x y dx dy Q fh r1 r2 q=>by
  cases dx with
  |int i=>
   cases dy with
   |int j=>
    simp only[Rep] at r1 r2;subst r1;subst r2
    exact Y22 i j rfl rfl (q _ F H (Ext.refl fh) (hg F i j))
   |_=>exact q.elim
  |_=>cases dy <;> exact q.elim⟩
noncomputable def jE:=ZX fun i j=>.int (i-j)
theorem uB:OpD X (binaryOp .Sub) jE:=ja zi9 fun _ _ _=>by simp only[Rep]
noncomputable def uX:=intOp (fun _ j=>decide (0<j)) fun i j=>.int (i%j)
theorem vo:OpD X (binaryOp .Mod) uX:=JP zj1 (fun i j h=>by simpa using h) fun _ _ _=>by simp only[Rep]
noncomputable def xW:=intOp (fun _ j=>decide (0<j∧j<1073741824)) fun i j=>.int (i / j)
theorem xQ:OpD X (binaryOp .FloorDiv) xW:=JP LB (fun i j h=>by have h':0<j∧j<1073741824:=of_decide_eq_true h;exact h') fun _ _ _=>by simp only[Rep]
noncomputable def ltI:=ZX fun i j=>.bl (decide (i<j))
noncomputable def leD:=ZX fun i j=>.bl (decide (i≤j))
noncomputable def gtD:=ZX fun i j=>.bl (decide (j<i))
noncomputable def geD:=ZX fun i j=>.bl (decide (j≤i))
theorem Mp:OpD X (compareOp .Lt) ltI:=ja op_lt fun _ _ _=>by simp only[Rep]
theorem zi6:OpD X (compareOp .LtE) leD:=ja op_le fun _ _ _=>by simp only[Rep]
theorem W1:OpD X (compareOp .Gt) gtD:=ja op_gt fun _ _ _=>by simp only[Rep]
theorem zi8:OpD X (compareOp .GtE) geD:=ja op_ge fun _ _ _=>by simp only[Rep]
noncomputable def zN:D→D→Rs D
 |.int i,.int j=>.ok (.int (i+j))
 |.str i,.str j=>if i.length+j.length≤sizeLine then .ok (.str (i++j)) else .no
 |.lst i,.lst j=>if i.length+j.length≤sizeLine then .ok (.lst (i++j)) else .no
 |_,_=>.no
theorem zH:OpD X (binaryOp .Add) zN:=Y11 _ (op_add.or (op_add_str.or zj3)) (fun F H x y dx dy Q fh r1 r2 q=>by
 cases dx with
 |int i=>
  cases dy with
  |int j=>
   simp only[Rep] at r1 r2;subst r1;subst r2
   exact .inl ⟨i,j,rfl,rfl,q _ F H (Ext.refl fh) (by simp only[Rep])⟩
  |_=>exact q.elim
 |str i=>
  cases dy with
  |str j=>
   simp only[Rep] at r1 r2;subst r1;subst r2
   obtain⟨z,q⟩:=yZ q
   exact .inr (.inl ⟨i,j,rfl,rfl,z,q _ F H (Ext.refl fh) (by simp only[Rep])⟩)
  |_=>exact q.elim
 |lst i=>
  cases dy with
  |lst j=>
   simp only[Rep] at r1 r2
   obtain⟨a,vs,rfl,e1,t1⟩:=r1
   obtain⟨b,ws,rfl,e2,t2⟩:=r2
   obtain⟨z,q⟩:=yZ q
   refine .inr (.inr ⟨a,b,vs,ws,rfl,rfl,fh _ _ e1,fh _ _ e2,by rw[← t1.length,← t2.length];exact z,fun p hp=>q _ _ _ (Ext.new fh hp) ?_⟩)
   simp only[Rep]
   exact Y22 p (vs++ws) rfl zr ((t1.append t2).mono (yk (zO fh hp)))
  |_=>exact q.elim
 |_=>cases dy <;> exact q.elim)
noncomputable def xY:D→D→Rs D
 |.int i,.int j=>if (-(18446744073709551616)<i∧i<18446744073709551616)∨(-(18446744073709551616)<j∧j<18446744073709551616) then .ok (.int (i*j)) else .no
 |.lst i,.int k=>if k<16777216∧-16777216<k∧i.length*k.toNat≤sizeLine then .ok (.lst (List.replicate k.toNat i).flatten) else .no
 |_,_=>.no
theorem xj:OpD X (binaryOp .Mult) xY:=Y11 _ (op_mul.or zj0) (fun F H x y dx dy Q fh r1 r2 q=>by
 cases dx with
 |int i=>
  cases dy with
  |int j=>
   simp only[Rep] at r1 r2;subst r1;subst r2
   obtain⟨z,q⟩:=yZ q
   refine .inl ⟨i,j,rfl,rfl,?_,q _ F H (Ext.refl fh) (by simp only[Rep])⟩
   unfold CMul
   rcases z with z|z
   ·exact .inl (by lia)
   ·exact .inr (by lia)
  |_=>exact q.elim
 |lst i=>
  cases dy with
  |int k=>
   simp only[Rep] at r1 r2
   obtain⟨a,vs,rfl,e1,t1⟩:=r1
   subst r2
   obtain⟨z,q⟩:=yZ q
   refine .inr ⟨a,k,vs,rfl,rfl,fh _ _ e1,by lia,by lia,by rw[← t1.length];exact z.2.2,fun p hp=>q _ _ _ (Ext.new fh hp) ?_⟩
   simp only[Rep]
   exact Y22 p _ rfl zr ((t1.rep k.toNat).mono (yk (zO fh hp)))
  |_=>exact q.elim
 |_=>cases dy <;> exact q.elim)
noncomputable def Jv(i j:Str):Bool:=!(Builtin.Str.occurrences j i 0 j.length 1).isEmpty
noncomputable def inD:D→D→Rs D
 |.str i,.str j=>.ok (.bl (Jv i j))
 |d,.lst xs=>if okD d=true∧okD (.lst xs)=true then .ok (.bl (xs.any fun y=>wO y d)) else .no
 |d,.tup xs=>if okD d=true∧okD (.tup xs)=true then .ok (.bl (xs.any fun y=>wO y d)) else .no
 |_,_=>.no
theorem We:∀xs:List D,toPys xs=xs.map yG:=by
 intro l_
 induction l_ with
 |nil=>
  exact rfl
 |cons d r ih_=>
  rw[toPys,ih_,map_cons]
theorem WG(xs:List D)(d:D):((toPys xs).any fun y=>PyData.eqv y (yG d))=xs.any fun y=>wO y d:=by
 rw[We,List.any_map];rfl
noncomputable def rInD(K:Frag)(neg:Bool):R2:=fun x y H Q=>∃F d e xs,Same F H∧Rep K F d x∧Rep K F e y∧okD d=true∧okD e=true∧(e=.lst xs∨e=.tup xs)∧Q (.bl (if neg then !(xs.any fun y=>wO y d) else xs.any fun y=>wO y d)) H
theorem QU(hu:X.A.units+128<cLine):OpR X (compareOp .In) (rInD X.K false):=by
 intro pins s σ H x y v u Q I rx ry h
 obtain⟨F,d,e,xs,fh,r1,r2,o1,o2,he,q⟩:=h
 refine X02 (jv o1) fun p1 c1 e1=>?_
 refine X02 (jv o2) fun p2 c2 e2=>?_
 obtain⟨as,h1⟩:=vz I fh d r1 rx p1
 obtain⟨bs,h2⟩:=vz I fh e r2 ry p2
 rcases he with rfl|rfl
 ·rw[yG] at h2 c2 e2
  refine SeqAt.in_list_reads h2 h1 (by simpa only[PyData.canLay0] using c2) c1 (by lia) ⟨.bl _,H,I,rfl,?_⟩
  rw[WG];exact q
 ·rw[yG] at h2 c2 e2
  refine SeqAt.in_tuple_reads h2 h1 (by simpa only[PyData.canLay0] using c2) c1 (by lia) ⟨.bl _,H,I,rfl,?_⟩
  rw[WG];exact q
theorem jV(hu:X.A.units+128<cLine):OpD X (compareOp .In) inD:=Y11 _ (op_in_str.or (QU hu)) (fun F H x y dx dy Q fh r1 r2 q=>by
 cases dy with
 |lst xs=>
  have q':Ok X (if okD dx=true∧okD (.lst xs)=true then .ok (.bl (xs.any fun y=>wO y dx)) else .no) (Ev X.K F H Q):=by cases dx <;> exact q
  obtain⟨z,q⟩:=yZ q'
  exact .inr ⟨F,dx,_,xs,fh,r1,r2,z.1,z.2,.inl rfl,q _ F H (Ext.refl fh) (by simp only[Rep];rfl)⟩
 |tup xs=>
  have q':Ok X (if okD dx=true∧okD (.tup xs)=true then .ok (.bl (xs.any fun y=>wO y dx)) else .no) (Ev X.K F H Q):=by cases dx <;> exact q
  obtain⟨z,q⟩:=yZ q'
  exact .inr ⟨F,dx,_,xs,fh,r1,r2,z.1,z.2,.inr rfl,q _ F H (Ext.refl fh) (by simp only[Rep];rfl)⟩
 |str j=>
  cases dx with
  |str i=>
   simp only[Rep] at r1 r2;subst r1;subst r2
   exact .inl ⟨i,j,rfl,rfl,q _ F H (Ext.refl fh) (by simp only[Rep,Jv])⟩
  |_=>exact q.elim
 |_=>cases dx <;> exact q.elim)
noncomputable def isN:D→Rs Bool
 |.non=>.ok true
 |.raw _=>.no
 |.exc _=>.no
 |.dct _ _=>.no
 |_=>.ok false
noncomputable def isD(d e:D):Rs D:=match e with
 |.non=>(isN d).bind fun b=>.ok (.bl b)
 |_=>.no
noncomputable def we(d e:D):Rs D:=match e with
 |.non=>(isN d).bind fun b=>.ok (.bl (!b))
 |_=>.no
theorem Qa{F:Hp}{d:D}{v:V}{P:Bool→Prop}(r:Rep X.K F d v)(h:Ok X (isN d) P):P (decide (v=.non)):=by
 cases d with
 |non=>simp only[Rep] at r;subst r;exact h
 |bl b=>simp only[Rep] at r;subst r;exact h
 |int b=>simp only[Rep] at r;subst r;exact h
 |str b=>simp only[Rep] at r;subst r;exact h
 |lst b=>simp only[Rep] at r;obtain⟨a,vs,rfl,_⟩:=r;exact h
 |tup b=>simp only[Rep] at r;obtain⟨a,vs,rfl,_⟩:=r;exact h
 |scr b=>simp only[Rep] at r;obtain⟨a,rfl,_⟩:=r;exact h
 |raw b=>exact h.elim
 |exc b=>exact h.elim
 |dct _ _=>exact h.elim
theorem zi7:OpD X (compareOp .Is) isD:=Y11 _ zj2 (fun F H x y dx dy Q fh r1 r2 q=>by
 cases dy with
 |non=>simp only[Rep] at r2;exact⟨r2,Qa r1 (Ok.bind q) _ F H (Ext.refl fh) (by simp only[Rep])⟩
 |_=>exact q.elim)
theorem uc:OpD X (compareOp .IsNot) we:=Y11 _ LA (fun F H x y dx dy Q fh r1 r2 q=>by
 cases dy with
 |non=>simp only[Rep] at r2;have q':Ok X ((isN dx).bind fun b=>Rs.ok (D.bl (!b))) (Ev X.K F H Q):=q;have q2:=Qa (P:=fun b=>Ok X (Rs.ok (D.bl (!b))) (Ev X.K F H Q)) r1 (Ok.bind q');exact⟨r2,q2 _ F H (Ext.refl fh) (by simp only[Rep])⟩
 |_=>exact q.elim)
noncomputable def wy(fa:FE):FE:=fun τ=>(fa τ).bind fun d=>match d with
 |.int i=>.ok (.int (-i))
 |_=>.no
theorem wS{a:Expr}{pos:Pos}{fa:FE}(ha:PDE X a fa):PDE X (.UnaryOp .USub a pos) (wy fa):=
 PE.imp (pe_un zf2 ha) fun σ H Q z_=>by
  refine X21 z_ fun F τ R h=>?_
  refine tE.of R h.bind fun d v F1 H1 g x R1 r=>?_
  cases d with
  |int i=>simp only[Rep] at r;exact Y11 i r (g _ F1 H1 x (by simp only[Rep]))
  |_=>exact g.elim
end
noncomputable def yX(env:Env)(cs:List (Str×Addr))(y:Str×NameKind):List (Str×Addr):=if y.2==NameKind.free then (y.1,(env.cells.lookup y.1).getD 0)::cs else cs
noncomputable def wz(scope:Scope)(env:Env):List (Str×Addr):=scope.names.foldl (yX env) []
theorem v4{scope:Scope}{env:Env}(h:∀y∈scope.names,y.2=.free→(env.cells.lookup y.1).isSome=true):closureFor scope env=pure (wz scope env):=by
 unfold closureFor wz
 generalize scope.names=names at h
 have gen:∀(cs:List (Str×Addr)),(forIn names cs fun x r=>(do
   if (x.2==NameKind.free)=true then do
    let c ← cellOf env x.1
    pure PUnit.unit
    pure (ForInStep.yield ((x.1,c)::r))
   else do
    pure PUnit.unit
    pure (ForInStep.yield r)):Sem (List (Str×Addr)))=pure (names.foldl (yX env) cs):=by
  induction names with
  |nil=>intro cs;rfl
  |cons y r ih=>
   intro cs
   rw[List.forIn_cons,foldl_cons]
   by_cases hk:y.2=.free
   ·obtain⟨c,hc⟩:=Option.isSome_iff_exists.mp (h y mem_cons_self hk)
    have e:yX env cs y=(y.1,c)::cs:=by simp[yX,hk,hc]
    rw[e,← ih (fun z hz=>h z (mem_cons_of_mem _ hz))]
    simp only[hk,beq_self_eq_true,if_true,cellOf,hc]
    rfl
   ·have hb:(y.2==NameKind.free)=false:=by simpa using hk
    have e:yX env cs y=cs:=by simp[yX,hb]
    rw[e,← ih (fun z hz=>h z (mem_cons_of_mem _ hz))]
    simp only[hb,Bool.false_eq_true,if_false]
    rfl
 show((forIn names ([]:List (Str×Addr)) fun x r=>(do
   if (x.2==NameKind.free)=true then do
    let c ← cellOf env x.1
    pure PUnit.unit
    pure (ForInStep.yield ((x.1,c)::r))
   else do
    pure PUnit.unit
    pure (ForInStep.yield r)):Sem (List (Str×Addr))) >>= fun s=>pure s)=_
 rw[gen []]
 rfl
theorem Yh{env:Env}{x:Str}:∀{names:List (Str×NameKind)} {cs:List (Str×Addr)} {c:Addr},(names.foldl (yX env) cs).lookup x=some c→cs.lookup x=some c∨(∃y∈names,y.1=x∧y.2=.free∧c=(env.cells.lookup x).getD 0)
 |[],cs,c,h=>.inl h
 |y::r,cs,c,h=>by
  rw[foldl_cons] at h
  rcases Yh h with q|⟨z,hz,e⟩
  ·by_cases hk:y.2=.free
   ·have e:yX env cs y=(y.1,(env.cells.lookup y.1).getD 0)::cs:=by simp[yX,hk]
    rw[e,lookup_cons] at q
    by_cases hx:x=y.1
    ·subst hx
     simp at q
     exact .inr ⟨y,mem_cons_self,rfl,hk,q.symm⟩
    ·have hb:(x==y.1)=false:=by simpa using hx
     rw[hb] at q
     exact .inl q
   ·have hb:(y.2==NameKind.free)=false:=by simpa using hk
    have e:yX env cs y=cs:=by simp[yX,hb]
    rw[e] at q
    exact .inl q
  ·exact .inr ⟨z,mem_cons_of_mem _ hz,e⟩
theorem jd{env:Env}{x:Str}:∀{names:List (Str×NameKind)} {cs:List (Str×Addr)},((∃y∈names,y.1=x∧y.2=.free)∨∃c,cs.lookup x=some c)→∃c,(names.foldl (yX env) cs).lookup x=some c
 |[],cs,h=>by
  rcases h with ⟨y,hy,_⟩|h
  ·cases hy
  ·exact h
 |y::r,cs,h=>by
  rw[foldl_cons]
  refine jd ?_
  by_cases hk:y.2=.free
  ·have e:yX env cs y=(y.1,(env.cells.lookup y.1).getD 0)::cs:=by simp[yX,hk]
   rw[e]
   by_cases hx:x=y.1
   ·subst hx;exact .inr ⟨(env.cells.lookup y.1).getD 0,by rw[lookup_cons];simp⟩
   ·have hb:(x==y.1)=false:=by simpa using hx
    rcases h with ⟨z,hz,e1,e2⟩|⟨c,hc⟩
    ·rcases mem_cons.mp hz with rfl|hz
     ·exact absurd e1.symm hx
     ·exact .inl ⟨z,hz,e1,e2⟩
    ·exact .inr ⟨c,by rw[lookup_cons,hb];exact hc⟩
  ·have hb:(y.2==NameKind.free)=false:=by simpa using hk
   have e:yX env cs y=cs:=by simp[yX,hb]
   rw[e]
   rcases h with ⟨z,hz,e1,e2⟩|h
   ·rcases mem_cons.mp hz with rfl|hz
    ·exact absurd e2 hk
    ·exact .inl ⟨z,hz,e1,e2⟩
   ·exact .inr h
noncomputable def _root_.L2.Cx.comp(X:Cx)(scope:Scope)(N:List Str)(s:Shared)(H:Hp)(C:Addr)(fp:List Addr):Cx:=
 { prog:=X.prog,w:=X.w,K:=X.K,mg:=X.mg,base:=X.base,A:=X.A,N:=N,s₀:=s,H₀:=H,env:=compEnvC scope (wz scope X.env) C X.env,outer:=X.stack,stack:=X.stack,ex:=fp,fn:=fun _=>false,calm:=X.calm,pn:=[],xe:=fun _ _=>False }
structure xU(X:Cx)(scope:Scope):Prop where
 kind:scope.kind=.function
 nocell:∀y∈scope.names,y.2≠.cell
 locs:∀y∈scope.names,y.2=.local→scope.names.lookup y.1=some .local
 free:∀y∈scope.names,y.2=.free→X.env.kindOf y.1=some .cell∨X.env.kindOf y.1=some .free
theorem vk{env:Env}:∀{names:List (Str×NameKind)} {x:Str},((names.map fun (n,k)=>if (k==NameKind.free&&env.scope.kind == .function&&env.kindOf n==some .cell) then (n,NameKind.cell) else (n,k)).lookup x=some .cell ∨
  (names.map fun (n,k)=>if (k==NameKind.free&&env.scope.kind == .function&&env.kindOf n==some .cell) then (n,NameKind.cell) else (n,k)).lookup x=some .free)→(∀y∈names,y.2≠.cell)→∃y∈names,y.1=x∧y.2=.free
 |[],_,h,_=>by rcases h with h|h <;> simp at h
 | (n,k)::r,x,h,hc=>by
  have hr:∀y∈r,y.2≠.cell:=fun y hy=>hc y (mem_cons_of_mem _ hy)
  rw[map_cons] at h
  by_cases hx:x=n
  ·subst hx
   by_cases hk:k=.free
   ·exact Y12 _ mem_cons_self rfl hk
   ·have hb:(k==NameKind.free)=false:=by simpa using hk
    have hck:k≠.cell:=hc (x,k) mem_cons_self
    simp only[hb,Bool.false_and,Bool.false_eq_true,if_false,lookup_cons,beq_self_eq_true] at h
    rcases h with h|h
    ·exact absurd (Option.some.inj h) hck
    ·exact absurd (Option.some.inj h) hk
  ·have hb:(x==n)=false:=by simpa using hx
   have step:∀q:Str×NameKind,q.1=n→((q::(r.map fun (n,k)=>if (k==NameKind.free&&env.scope.kind == .function&&env.kindOf n==some .cell) then (n,NameKind.cell) else (n,k))).lookup x)=((r.map fun (n,k)=>if (k==NameKind.free&&env.scope.kind == .function&&env.kindOf n==some .cell) then (n,NameKind.cell) else (n,k)).lookup x):=fun q hq=>by
    obtain⟨q1,q2⟩:=q
    simp only at hq
    subst hq
    rw[lookup_cons,hb]
   have h':((r.map fun (n,k)=>if (k==NameKind.free&&env.scope.kind == .function&&env.kindOf n==some .cell) then (n,NameKind.cell) else (n,k)).lookup x=some .cell∨(r.map fun (n,k)=>if (k==NameKind.free&&env.scope.kind == .function&&env.kindOf n==some .cell) then (n,NameKind.cell) else (n,k)).lookup x=some .free):=by
    rcases h with h|h
    ·left;exact(step _ (by show(if (k==NameKind.free&&env.scope.kind == .function&&env.kindOf n==some .cell)=true then (n,NameKind.cell) else (n,k)).1=n;split <;> rfl)).symm.trans h
    ·right;exact(step _ (by show(if (k==NameKind.free&&env.scope.kind == .function&&env.kindOf n==some .cell)=true then (n,NameKind.cell) else (n,k)).1=n;split <;> rfl)).symm.trans h
   refine X11 (vk h' hr) fun y hy e=>?_
   exact Y11 y (mem_cons_of_mem _ hy) e
theorem uw{env:Env}:∀{names:List (Str×NameKind)} {x:Str},names.lookup x=some .free→¬ (names.map fun (n,k)=>if (k==NameKind.free&&env.scope.kind == .function&&env.kindOf n==some .cell) then (n,NameKind.cell) else (n,k)).lookup x=some .local
 |[],_,h=>by simp at h
 | (n,k)::r,x,h=>by
  rw[map_cons]
  show ¬ List.lookup x ((if (k==NameKind.free&&env.scope.kind == .function&&env.kindOf n==some .cell)=true then (n,NameKind.cell) else (n,k))::_)=_
  rw[lookup_cons] at h
  by_cases hx:x=n
  ·subst hx
   simp only[beq_self_eq_true] at h
   have hk:k=.free:=Option.some.inj h
   subst hk
   split <;> simp[lookup_cons]
  ·have hb:(x==n)=false:=by simpa using hx
   rw[hb] at h
   split
   ·rw[lookup_cons,hb];exact uw h
   ·rw[lookup_cons,hb];exact uw h
section
variable{X:Cx}{scope:Scope}{N':List Str}
theorem Z4(S:xU X scope)(ok:X.Ok){x:Str}{c:Addr}(h:(wz scope X.env).lookup x=some c):X.env.cells.lookup x=some c:=by
 rcases Yh h with q|⟨y,hy,e1,e2,e3⟩
 ·simp at q
 ·subst e1
  obtain⟨c',hc'⟩:=ok.has y.1 (S.free y hy e2)
  rw[hc'] at e3 ⊢
  rw[e3];rfl
theorem Tj{pins:List (Addr×Obj)}{σ σ':St}{H:Hp}{s:Shared}{h1:Heap}{fp:List Addr}{t:Nat}(S:xU X scope)(I:Inv X pins σ H s)(hfp:∀b∈fp,X8 X pins H b)(hlt:∀b∈fp,b<s.heap.objs.size)
  (hn:h1.Ns s.heap.objs.size fun _=>none) (hsb:∀b o,s.heap.get? b=some o→h1.get? b=some o) (hl:σ'.length=N'.length)
  (hσ:∀(i:Nat) (v:V),σ'[i]?=some (some v)→∃(x:Str) (j:Nat),N'[i]?=some x∧X.N[j]?=some x∧σ[j]?=some (some v)∧scope.names.lookup x=some .free) :
  Inv (X.comp scope N' s H s.heap.objs.size fp) [] σ' H { s with heap:=h1,toks:=t }:=by
 have hH:H s.heap.objs.size=none:=I.hok.fresh (le_refl _)
 have cl:∀{x c},(wz scope X.env).lookup x=some c→X.env.cells.lookup x=some c:=fun h=>Z4 S I.ok h
 have kept:∀{c v},s.heap.IsCell c v→h1.IsCell c v:=fun ⟨o,e,d⟩=>Y11 o (hsb _ o e) d
 refine⟨⟨I.ok.mod,S.kind,I.ok.glob,I.ok.blt,le_refl _,fun x y c e1 e2=>I.ok.inj x y c (cl e1) (cl e2),fun x hx=>?_,fun x c hf _=>absurd hf (by simp[Cx.comp]),I.ok.hd,I.ok.frames,.inl rfl,fun b hb=>?_,I.bs,le_trans I.ok.bsz I.sz,fun b o e hb=>?_,fun b hb hs=>?_,I.stack,I.stkFree⟩,
  I.os.symm ▸ rfl,I.bare,Un.kept hsb,⟨_,hn,fun i x v e1 e2 e3=>?_⟩,fun x c e=>?_,hH,fun x c e=>I.freeC x c (cl e),fun p hp=>absurd (show p∈([]:List (Addr×Obj)) from hp) (by simp),I.hok.kept hsb,hl⟩
 ·have hx:(relabel scope X.env).names.lookup x=some .cell∨(relabel scope X.env).names.lookup x=some .free:=hx
  exact jd (.inl (vk hx S.nocell))
 ·have hb:b∈fp:=hb
  refine⟨ne_of_lt (hlt b hb),fun x c e=>(hfp b hb).2.2.2.2.1 x c (cl e)⟩
 ·have hb:b∈fp:=hb
  rcases (hfp b hb).2.2.2.1 with z|z
  ·exact I.ok.noex b o e z
  ·exact absurd (lt_of_lt_of_le (Heap.lt_size e) (le_trans I.ok.bsz z)) (lt_irrefl _)
 ·have hb:b∈fp:=hb
  refine X03 (hfp b hb) fun _ f1 f2 _=>?_
  rcases mem_cons.mp (I.stkSub b hs) with z|z
  ·exact f1 z
  ·exact f2 z
 ·refine X23 (hσ i v e2) fun x' j e4 e5 e6 e9=>?_
  have hy:=PySem.mem_of_lookup e9
  have e1':N'[i]?=some x:=e1
  rw[e1'] at e4;replace e4:=sI_ e4;subst e4
  have kd:=S.free _ hy rfl
  refine X11 I.loc fun m hm hl=>?_
  refine X11 (hl j x v e5 e6 (kd.elim (fun z=>.inr (.inl z)) fun z=>.inr (.inr z))) fun u ru lk=>?_
  refine Y11 u ru ?_
  rcases lk with ⟨z,_⟩|⟨z,c,hc,hcell⟩
  ·rcases kd with k|k <;> rw[k] at z <;> cases z
  ·obtain⟨c',hc'⟩:=jd (env:=X.env) (names:=scope.names) (cs:=[]) (x:=x) (.inl ⟨_,hy,rfl,rfl⟩)
   have:=cl hc'
   rw[hc] at this;replace this:=sI_ this;subst this
   have e3':(relabel scope X.env).names.lookup x=some .local∨(relabel scope X.env).names.lookup x=some .cell∨(relabel scope X.env).names.lookup x=some .free:=e3
   rcases e3' with q|q|q
   ·exact absurd q (uw e9)
   ·exact .inr ⟨.inl q,c,hc',kept hcell⟩
   ·exact .inr ⟨.inr q,c,hc',kept hcell⟩
 ·obtain⟨v,z⟩:=I.cell x c (cl e)
  exact⟨v,kept z⟩
end
theorem Gh{prog:Program}{w:World}{A:Around}{R:Result→Shared→Prop}{s:Shared}{elt target iter:Expr}{ifs:List Expr}{scope:Scope}{pos:Pos}{it acc:Value}{env:Env}(I:Nat→Shared→Prop)
  (turn:∀n s,I n s→wpAny (model prog w) A (pyNext it) (fun r s₁=>match r with
   |none=>R (.ok .next) s₁
   |some v=>wpAny (model prog w) A (letOwnedTupleGo target it v) (fun _ s0=>wpAny (model prog w) A (assign target env v) (fun _ s₂=>
     wpAny (model prog w) A (forIn ifs true fun c r=>if r=true then do let ok ← isTrue c env (eval c env);pure (ForInStep.yield ok) else pure (ForInStep.yield r)) (fun ok s₃=>
      if ok=true then wpAny (model prog w) A (eval elt env) (fun x s₄=>
       wpAny (model prog w) A (call (.builtin "list.append") [acc,x]) (fun _ s₅=>∃m,m<n∧I m s₅) (fun _ _=>False) s₄) (fun _ _=>False) s₃
      else ∃m,m<n∧I m s₃) (fun _ _=>False) s₂) (fun _ _=>False) s0) (fun _ _=>False) s₁) (fun _ _=>False) s)
  (n:Nat) (h:I n s) :
  codeAny (model prog w) A (.compLoop (.ListComp elt [⟨target,iter,ifs,0⟩] scope pos) 0 it acc env) R s:=by
 refine codeAny_loop rfl I (fun n s hI=>?_) n h
 show wpAny _ A ((compTurn (.ListComp elt [⟨target,iter,ifs,0⟩] scope pos) 0 it acc env).onRaise (fun x=>do noteFrame x env;theTreesLotGoes x)) _ _ s
 refine wpAny_noted ?_
 rw[compTurn_list]
 refine wpAny_bind (wpAny_standAt (wpAny_bind (wpAny_mono (turn n s hI) (fun r s₁ h₁=>?_) fun _ _ h'=>h'.elim)))
 rcases r with _|v
 ·exact wpAny_pure h₁
 ·refine wpAny_bind (wpAny_mono h₁ (fun _ s0 h0=>?_) fun _ _ h'=>h'.elim)
  refine wpAny_bind (wpAny_mono h0 (fun _ s₂ h₂=>wpAny_bind (wpAny_mono h₂ (fun ok s₃ h₃=>?_) fun _ _ h'=>h'.elim)) fun _ _ h'=>h'.elim)
  rcases ok with _|_
  ·exact wpAny_pure ⟨rfl,h₃⟩
  ·exact wpAny_bind (wpAny_bind (wpAny_mono h₃ (fun x s₄ h₄=>wpAny_bind (wpAny_mono h₄ (fun _ s₅ h₅=>wpAny_pure (wpAny_pure ⟨rfl,h₅⟩)) fun _ _ h'=>h'.elim)) fun _ _ h'=>h'.elim))
theorem Mx{M:Model}{A:Around}{env:Env}{Q:Bool→Shared→Prop}{E:Value→Shared→Prop}{s:Shared}(h:Q true s) :
  wpAny M A (forIn ([]:List Expr) true fun c r=>if r=true then do let ok ← isTrue c env (eval c env);pure (ForInStep.yield ok) else pure (ForInStep.yield r)) Q E s:=wpAny_pure h
theorem Mr{M:Model}{A:Around}{env:Env}{Q:Bool→Shared→Prop}{E:Value→Shared→Prop}{s:Shared}{c:Expr}(h:wpAny M A (isTrue c env (eval c env)) Q E s) :
  wpAny M A (forIn [c] true fun c r=>if r=true then do let ok ← isTrue c env (eval c env);pure (ForInStep.yield ok) else pure (ForInStep.yield r)) Q E s:=by
 rw[List.forIn_cons]
 simp only[if_true]
 refine wpAny_bind (wpAny_bind (wpAny_mono h (fun b s' q=>wpAny_pure ?_) fun _ _ e=>e))
 exact wpAny_pure q
noncomputable def PTs(Y:Cx)(ifs:List Expr)(t:TT):Prop:=∀(pins:List (Addr×Obj)) (s:Shared) (σ:St) (H:Hp) (Q:Bool→Hp→Prop),Inv Y pins σ H s→t σ H Q →
 wpAny (model Y.prog Y.w) Y.A (forIn ifs true fun c r=>if r=true then do let ok ← isTrue c Y.env (eval c Y.env);pure (ForInStep.yield ok) else pure (ForInStep.yield r)) (TP Y pins σ Q) Y.xe s
theorem Lc{Y:Cx}:PTs Y [] (fun _ H Q=>Q true H):=fun pins s σ H Q I h=>Mx ⟨H,I,h⟩
theorem Lb{Y:Cx}{c:Expr}{t:TT}(h:PT Y c t):PTs Y [c] t:=fun pins s σ H Q I q=>Mr (h pins s σ H Q I q)
noncomputable def Jt(s0:St→St)(wi:TI)(g:TG)(ti:TT)(te:TE):TE:=fun σ H Q=>wi σ H fun J H1=>∀acc,H1 acc=none→∃W:Nat→Nat→St→Hp→Prop,(∃m,W 0 m (s0 σ) (upd H1 acc (.lst [])))∧∀i m σ1 H,W i m σ1 H →
 (J.stop i H∧Q (.ref acc) H)∨(J.go i H∧∀x H',J.yld i H x H'→g x σ1 H' fun σ2 H2=>ti σ2 H2 fun b H3=>
  if b=true then te σ2 H3 fun y H4=>∃ys,H4 acc=some (.lst ys)∧ys.length<sizeLine∧∃m',m'<m∧W (i+1) m' σ2 (upd H4 acc (.lst (ys++[y]))) else ∃m',m'<m∧W (i+1) m' σ2 H3)
section
variable{X:Cx}{scope:Scope}{N':List Str}{tg iter elt:Expr}{ifs:List Expr}{pos:Pos}{wi:TI}{g:TG}{ti:TT}{te:TE}{s0:St→St}
theorem L9{P:Program}{w:World}{H:Hp}{h h':Heap}{C:Addr}(ok:HOk P w H h)(hC:H C=none)(k:∀b o,b≠C→h.get? b=some o→h'.get? b=some o):HOk P w H h':=fun b u e=>by
 refine(ok b u e).stay (fun c v hc q=>k c v ?_ q) (fun _ q=>q) fun _ _ q=>q
 rintro rfl
 rcases hc with z|z
 ·subst z;rw[hC] at e;nomatch e
 ·rw[hC] at z;nomatch z
theorem XE{pins:List (Addr×Obj)}{σ:St}{H:Hp}{s:Shared}{QQ:V→Hp→Prop}{J:It}{fp:List Addr}{it acc:Addr}{tn:Nat→Heap→Prop}{RR:Addr→Result→Shared→Prop}{E:Value→Shared→Prop}{W:Nat→Nat→St→Hp→Prop}{m0:Nat}
  (S:xU X scope) (hc:X.calm=true) (hl:(s0 σ).length=N'.length)
  (hσ:∀(i:Nat) (v:V),(s0 σ)[i]?=some (some v)→∃(x:Str) (j:Nat),N'[i]?=some x∧X.N[j]?=some x∧σ[j]?=some (some v)∧scope.names.lookup x=some .free)
  (hg:∀s H C fp,PG (X.comp scope N' s H C fp) tg g) (ht:∀s H C fp,PTs (X.comp scope N' s H C fp) ifs ti) (he:∀s H C fp,PE (X.comp scope N' s H C fp) elt te)
  (I:Inv X pins σ H s) (T:Vt X.prog X.w X.K tg J fp it tn) (st:tn 0 s.heap) (hfp:∀b∈fp,X8 X pins H b) (hlt:∀b∈fp,b<s.heap.objs.size) (hacc:acc<s.heap.objs.size)
  (w0:W 0 m0 (s0 σ) H) (turn:∀i m σ1 H,W i m σ1 H→(J.stop i H∧QQ (.ref acc) H)∨(J.go i H∧∀x H',J.yld i H x H'→g x σ1 H' fun σ2 H2=>ti σ2 H2 fun b H3=>
    if b=true then te σ2 H3 fun y H4=>∃ys,H4 acc=some (.lst ys)∧ys.length<sizeLine∧∃m',m'<m∧W (i+1) m' σ2 (upd H4 acc (.lst (ys++[y]))) else ∃m',m'<m∧W (i+1) m' σ2 H3))
  (hRR:∀s',(∃m,s'.heap.Ns s.heap.objs.size m)→(∀h',Heap.SameBut s.heap.objs.size s'.heap h'→EP X pins σ (fun v H'=>QQ v H'∧H' s.heap.objs.size=none) (.ref acc) { s' with heap:=h' })→RR s.heap.objs.size (.ok .next) s') :
  wpAny (model X.prog X.w) X.A (newFunctionEnv scope X.env.globals (wz scope X.env) [] X.env.qual none .none (some X.env)) (fun cenv s₄=>
   codeAny (model X.prog X.w) X.A (.compStart (.ListComp elt [⟨tg,iter,ifs,0⟩] scope pos) 0 (.ref it) (.ref acc) { cenv with scope:=relabel scope X.env }) (RR cenv.locals) s₄) E s:=by
 refine wpAny_newFunctionEnv S.nocell (by intro y hy;simp at hy) (fun h1 hns hsb=>?_) S.kind
 have keep3:∀b o,s.heap.get? b=some o→h1.get? b=some o:=fun b o e=>hsb.extBut b o (ne_of_lt (Heap.lt_size e)) (get?_push_of_some _ e)
 have Y0:Inv (X.comp scope N' s H s.heap.objs.size fp) [] (s0 σ) H { s with heap:=h1,toks:=s.toks+([]:List (Str×Value)).length }:=Tj S I hfp hlt hns keep3 hl hσ
 have fpY:∀{H':Hp},(∀b∈fp,H' b=none)→∀b∈fp,X8 (X.comp scope N' s H s.heap.objs.size fp) [] H' b:=fun {H'} hn b hb=>by
  refine X05 (hfp b hb) fun f0 f1 f2 f3 f4 f5=>?_
  refine⟨hn b hb,ne_of_lt (hlt b hb),fun z=>?_,.inl hb,fun x c e=>f4 x c (Z4 S I.ok e),fun p hp=>absurd (show p∈([]:List (Addr×Obj)) from hp) (by simp)⟩
  rcases mem_cons.mp (I.stkSub b z) with q|q
  ·exact f1 q
  ·exact f2 q
 have st1:tn 0 h1:=T.keep _ _ _ st fun b hb o e=>keep3 b o e
 have loop:∀s3:Shared,s3 = { s with heap:=h1,toks:=s.toks+([]:List (Str×Value)).length } →
   codeAny (model X.prog X.w) X.A (.compLoop (.ListComp elt [⟨tg,iter,ifs,0⟩] scope pos) 0 (.ref it) (.ref acc) (X.comp scope N' s H s.heap.objs.size fp).env) (RR s.heap.objs.size) s3:=by
  rintro s3 rfl
  refine Gh (fun n s'=>∃i σ' H',Inv (X.comp scope N' s H s.heap.objs.size fp) [] σ' H' s'∧tn i s'.heap∧(∀b∈fp,H' b=none)∧W i n σ' H') ?_ m0 ⟨0,s0 σ,H,Y0,st1,fun b hb=>(hfp b hb).1,w0⟩
  rintro n s4 ⟨i,σ4,H4,I4,st4,fr4,w4⟩
  rcases turn i n σ4 H4 w4 with ⟨stop,qn⟩|⟨go,step⟩
  ·refine thn (T.done (X.comp scope N' s H s.heap.objs.size fp) rfl rfl rfl hc i [] s4 σ4 H4 _ I4 (fpY fr4) st4 stop) fun r s5 z_=>?_
   obtain⟨hr,I5⟩:=z_
   subst hr
   refine X11 (id I5.loc) fun m5 n5 _=>?_
   have hC:H4 s.heap.objs.size=none:=I5.free
   refine hRR s5 ⟨m5,n5⟩ fun h' sb=>⟨.ref acc,H4,?_,rfl,qn,hC⟩
   refine I.call' (s':={ s5 with heap:=h' }) (ch:=fp) I5.os ⟨fun b o e n hb hx=>?_,fun b o e n hb hx=>?_,fun b o e n hx=>I5.base.free b o e n hx,fun b o e hx=>?_,I5.base.tups,I5.base.frzs,I5.base.tbls⟩ (L9 I5.hok hC fun b o hb e=>(sb.2 b hb).trans e) I5.bare fun b hb=>?_
   ·exact(sb.2 b (ne_of_lt (Heap.lt_size e))).trans (I5.base.keep b o e n hb hx)
   ·obtain⟨sl,q⟩:=I5.base.slot b o e n hb hx
    exact⟨sl,(sb.2 b (ne_of_lt (Heap.lt_size e))).trans q⟩
   ·obtain⟨o',q⟩:=I5.base.there b o e hx
    exact⟨o',(sb.2 b (ne_of_lt (Heap.lt_size e))).trans q⟩
   ·refine X05 (hfp b hb) fun f0 f1 f2 f3 f4 f5=>?_
    exact⟨f3,f1,f4,f5⟩
  ·refine thn (T.item (X.comp scope N' s H s.heap.objs.size fp) rfl rfl rfl hc i [] s4 σ4 H4 _ I4 (fpY fr4) st4 go) fun r s5 z_=>?_
   refine X11 z_ fun u hr h5=>?_
   subst hr
   refine thn h5 fun _ s6 z_=>?_
   refine X24 z_ fun x H6 I6 r6 y6 st6 fr6=>?_
   have I6':=I6.pinned (fpY fr6) (T.obj _ _ st6)
   refine thn (hg _ _ _ _ _ s6 σ4 H6 x u _ I6' r6 (step x H6 y6)) fun _ s7 z_=>?_
   refine X21 z_ fun σ7 H7 I7 q7=>?_
   refine thn (ht _ _ _ _ _ s7 σ7 H7 _ I7 q7) fun ok s8 z_=>?_
   refine X11 z_ fun H8 I8 q8=>?_
   have again:∀{s9:Shared} {H9:Hp} {m':Nat},Inv (X.comp scope N' s H s.heap.objs.size fp) ([]++YT fp s6.heap) σ7 H9 s9→m'<n→W (i+1) m' σ7 H9→∃m,m<n∧∃i σ' H',Inv (X.comp scope N' s H s.heap.objs.size fp) [] σ' H' s9∧tn i s9.heap∧(∀b∈fp,H' b=none)∧W i m σ' H':=fun {s9 H9 m'} I9 hm w9=>by
    refine⟨m',hm,i+1,σ7,H9,I9.unpinned,T.keep _ _ _ st6 fun b hb o e=>(I9.pin (b,o) (mem_append_right _ (mem_append_right _ (uF hb e)))).1,fun b hb=>?_,w9⟩
    refine X11 (T.obj _ _ st6 b hb) fun o e d=>?_
    exact(I9.pin (b,o) (mem_append_right _ (mem_append_right _ (uF hb e)))).2.1
   rcases ok with _|_
   ·rw[if_neg (by simp)] at q8
    refine X11 q8 fun m' hm w8=>?_
    exact again I8 hm w8
   ·rw[if_pos rfl] at q8
    refine thn (he _ _ _ _ _ s8 σ7 H8 _ I8 q8) fun y s9 z_=>?_
    refine X22 z_ fun z H9 I9 r9 r58_=>?_;refine X12 r58_ fun ys e9 l9 r59_=>?_;refine X11 r59_ fun m' hm w9=>?_
    refine thn (ZS _ s9 σ7 H9 (.ref acc) [z] (.ref acc) [y] (fun _ H'=>H'=upd H9 acc (.lst (ys++[z]))) I9 rfl (.cons r9 .nil) ⟨acc,ys,z,rfl,rfl,e9,l9,rfl⟩) fun _ s10 z_=>?_
    refine X22 z_ fun _ H10 I10 _ e10=>?_
    subst e10
    exact again I10 hm w9
 exact codeAny_compStart_list (loop _ rfl) (T.self _ 0 _ _ _ st1 (loop _ rfl))
end
section
variable{X:Cx}{scope:Scope}{N':List Str}{tg iter elt:Expr}{ifs:List Expr}{pos:Pos}{wi:TI}{g:TG}{ti:TT}{te:TE}{s0:St→St}
theorem ze6{pins:List (Addr×Obj)}{σ:St}{H:Hp}{s:Shared}{J:It}{fp:List Addr}{it:Addr}{tn:Nat→Heap→Prop}(T:Vt X.prog X.w X.K tg J fp it tn)(st:tn 0 s.heap):∀b∈fp,b<s.heap.objs.size:=fun b hb=>by
 refine X11 (T.obj 0 _ st b hb) fun o e _=>?_
 exact Heap.lt_size e
theorem JI(S:xU X scope)(hc:X.calm=true)(hl:∀σ:St,σ.length=X.N.length→(s0 σ).length=N'.length)
  (hσ:∀(σ:St) (i:Nat) (v:V),(s0 σ)[i]?=some (some v)→∃(x:Str) (j:Nat),N'[i]?=some x∧X.N[j]?=some x∧σ[j]?=some (some v)∧scope.names.lookup x=some .free)
  (hi:PI X tg iter wi) (hg:∀s H C fp,PG (X.comp scope N' s H C fp) tg g) (ht:∀s H C fp,PTs (X.comp scope N' s H C fp) ifs ti) (he:∀s H C fp,PE (X.comp scope N' s H C fp) elt te)
  (hs:∀x,foldedSetIterable iter X.env x=pure x:=by intro _;rfl):PE X (.ListComp elt [⟨tg,iter,ifs,0⟩] scope pos) (Jt s0 wi g ti te):=by
 intro pins s σ H Q I h
 rw[eval_ListComp]
 have hclos:=v4 (scope:=scope) (env:=X.env) fun y hy hk=>Option.isSome_iff_exists.mpr (I.ok.has y.1 (S.free y hy hk))
 refine wpAny_comprehension_free (use:=none) rfl hs hclos S.kind S.locs (thn (hi pins s σ H _ I h) fun x s1 h1=>thn h1 fun itv s2 h2=>?_)
 refine X55 h2 fun it fp tn J H2 e I2 T st2 f2 hw=>?_
 subst e
 have hf:H2 s2.heap.objs.size=none:=I2.hok.fresh (le_refl _)
 obtain⟨W,⟨m0,w0⟩,turn⟩:=hw _ hf
 have hlt:=ze6 (pins:=pins) (σ:=σ) (H:=H2) T st2
 refine wpAny_newObj_type ?_
 have I3:Inv X pins σ (upd H2 s2.heap.objs.size (.lst [])) { s2 with heap:=s2.heap.push { cls:=.type "list", dict:=none,data:=.seq ([]:List Value).toArray } }:=
  I2.laid (t':=s2.toks) (o:=.lst []) (fun b u e=>get?_push_of_some _ e) (le_refl _) ⟨zero_le _,[],0,.nil,Heap.get?_push_size _ rfl⟩
 have hsz:s2.heap.objs.size<(s2.heap.push { cls:=.type "list", dict:=none,data:=.seq ([]:List Value).toArray }).objs.size:=by rw[Heap.size_push];exact Nat.lt_succ_self _
 refine XE (s0:=s0) (QQ:=Q) (W:=W) (m0:=m0) S hc (hl σ I2.len) (hσ σ) hg ht he I3 T (T.keep _ _ _ st2 fun b hb o e=>get?_push_of_some _ e) (fun b hb=>?_) (fun b hb=>Nat.lt_trans (hlt b hb) hsz) hsz w0 turn fun s' ⟨m,hn⟩ hq=>Y11 m hn (fun h' sb=>let ⟨v,H',I',r',q',_⟩:=hq h' sb;⟨v,H',I',r',q'⟩)
 refine X03 (f2 b hb) fun f0 f1 f2 f3=>?_
 exact⟨by rw[zp (ne_of_lt (hlt b hb))];exact f0,f1,f2,f3⟩
theorem WV{i:Nat}{y:Str}{py spos:Pos}(hN:X.N.Nodup)(hiN:X.N[i]?=some y)(hy:X.env.scope.names.lookup y=some .local)
  (hsw:swapsWith (.ListComp elt [⟨tg,iter,ifs,0⟩] scope pos) (some (.Name y py)) spos.line X.env=pure true)
  (S:xU X scope) (hc:X.calm=true) (hl:∀σ:St,σ.length=X.N.length→(s0 σ).length=N'.length)
  (hσ:∀(σ:St) (i:Nat) (v:V),(s0 σ)[i]?=some (some v)→∃(x:Str) (j:Nat),N'[i]?=some x∧X.N[j]?=some x∧σ[j]?=some (some v)∧scope.names.lookup x=some .free)
  (hi:PI X tg iter wi) (hg:∀s H C fp,PG (X.comp scope N' s H C fp) tg g) (ht:∀s H C fp,PTs (X.comp scope N' s H C fp) ifs ti) (he:∀s H C fp,PE (X.comp scope N' s H C fp) elt te)
  (hs:∀x,foldedSetIterable iter X.env x=pure x:=by intro _;rfl):PS X (.Assign [.Name y py] (.ListComp elt [⟨tg,iter,ifs,0⟩] scope pos) spos) (zf7 (Jt s0 wi g ti te) (Xu i)):=by
 intro pins s σ H D I h
 rw[exec_Assign_Name_used _ _ _ _ hsw]
 refine wpAny_bind (wpAny_standAt (wpAny_bind ?_))
 show wpAny _ X.A (do let _ ← comprehension (.ListComp elt [⟨tg,iter,ifs,0⟩] scope pos) scope X.env _ (newList []) false (eval iter X.env) (some (assign (.Name y py) X.env))) _ _ s
 have hclos:=v4 (scope:=scope) (env:=X.env) fun y hy hk=>Option.isSome_iff_exists.mpr (I.ok.has y.1 (S.free y hy hk))
 refine wpAny_bind (wpAny_mono (wpAny_comprehension_free (use:=some (assign (.Name y py) X.env)) (Q:=fun _ s'=>SP X pins D .next s') rfl hs hclos S.kind S.locs
  (thn (hi pins s σ H _ I h) fun x s1 h1=>thn h1 fun itv s2 h2=>?_)) (fun _ s' hq=>wpAny_pure (wpAny_pure hq)) fun _ _ e=>e)
 refine X55 h2 fun it fp tn J H2 e I2 T st2 f2 hw=>?_
 subst e
 have hf:H2 s2.heap.objs.size=none:=I2.hok.fresh (le_refl _)
 obtain⟨W,⟨m0,w0⟩,turn⟩:=hw _ hf
 have hlt:=ze6 (pins:=pins) (σ:=σ) (H:=H2) T st2
 refine wpAny_newObj_type ?_
 have I3:Inv X pins σ (upd H2 s2.heap.objs.size (.lst [])) { s2 with heap:=s2.heap.push { cls:=.type "list", dict:=none,data:=.seq ([]:List Value).toArray } }:=
  I2.laid (t':=s2.toks) (o:=.lst []) (fun b u e=>get?_push_of_some _ e) (le_refl _) ⟨zero_le _,[],0,.nil,Heap.get?_push_size _ rfl⟩
 have hsz:s2.heap.objs.size<(s2.heap.push { cls:=.type "list", dict:=none,data:=.seq ([]:List Value).toArray }).objs.size:=by rw[Heap.size_push];exact Nat.lt_succ_self _
 refine XE (s0:=s0) (QQ:=fun x H1=>Xu i x σ H1 D.nx) (W:=W) (m0:=m0) S hc (hl σ I2.len) (hσ σ) hg ht he I3 T (T.keep _ _ _ st2 fun b hb o e=>get?_push_of_some _ e) (fun b hb=>?_) (fun b hb=>Nat.lt_trans (hlt b hb) hsz) hsz w0 turn fun s' ⟨m,hn⟩ hq=>?_
 ·refine X03 (f2 b hb) fun f0 f1 f2 f3=>?_
  exact⟨by rw[zp (ne_of_lt (hlt b hb))];exact f0,f1,f2,f3⟩
 ·refine X23 (hq s'.heap (.refl ..)) fun v H5 I5 r5 q5 hC=>?_
  have I5:Inv X pins σ H5 s':=I5
  show wpAny _ X.A (assign (.Name y py) X.env _) _ _ s'
  refine wpAny_assign_Name (Wh I5 hN hiN (.inl hy) r5 (fun s6 I6 z_=>?_) (.inr hy))
  refine X11 z_ fun a sb ha=>?_
  have lt3:=I3.lt
  have ca:∀x c,X.env.cells.lookup x=some c→c<(s2.heap.push { cls:=.type "list", dict:=none,data:=.seq ([]:List Value).toArray }).objs.size:=fun x c e=>by
   obtain⟨v,z⟩:=I3.cell x c e
   exact z.lt
  have hne:(s2.heap.push { cls:=.type "list", dict:=none,data:=.seq ([]:List Value).toArray }).objs.size≠a:=by
   rcases ha with rfl|ha
   ·exact ne_of_gt lt3
   ·exact ne_of_gt (ca _ _ ha)
  refine Y11 m (hn.sameBut sb hne) (fun h' sb'=>⟨_,H5,?_,q5⟩)
  refine I6.turned (t':=s6.toks) (it:=(s2.heap.push { cls:=.type "list", dict:=none,data:=.seq ([]:List Value).toArray }).objs.size) (fun b o hb e=>(sb'.2 b hb).trans e) hC (ne_of_gt lt3) (.inr I3.sz) (fun x c e=>ne_of_lt (ca x c e)) fun p hp=>?_
  exact ne_of_lt (Heap.lt_size (I3.pin p hp).1)
end
noncomputable def vm(set:FG)(ft:FT)(fe:FE)(τ:DS):List D→Rs (List D)
 |[]=>.ok []
 |d::r=>match set d τ with
  |.ok τ1=>match ft τ1 with
   |.ok true=>match fe τ1 with
    |.ok x=>(vm set ft fe τ r).bind fun xs=>.ok (x::xs)
    |_=>.no
   |.ok false=>vm set ft fe τ r
   |_=>.no
  |_=>.no
noncomputable def j5:Option (Option Sl)→Option Sl
 | some (some (.val d))=>some (.val d)
 | some (some (.obr c fs))=>some (.obr c fs)
 | some (some (.obj _ c fs))=>some (.obr c fs)
 |_=>none
noncomputable def vX(k:Nat)(idx:List Nat)(τ:DS):DS:=List.replicate k none++idx.map fun j=>j5 τ[j]?
noncomputable def wQ(k:Nat)(idx:List Nat)(σ:St):St:=List.replicate k none++idx.map fun j=>(σ[j]?).join
noncomputable def wv(k:Nat)(idx:List Nat)(fi:FA)(set:FG)(ft:FT)(fe:FE):FA:=fun τ=>(fi τ).bind fun ds=>match vm set ft fe (vX k idx τ) ds with
 |.ok xs=>if xs.length≤sizeLine then .ok xs else .no
 |_=>.no
noncomputable def jK(τ:DS):Prop:=(∀(i:Nat) es,τ[i]?≠some (some (.own es)))∧∀(i n:Nat) c fs,τ[i]?≠some (some (.obj n c fs))
structure WH(set:FG):Prop where
 ov:∀d e τ τ1,set e τ=.ok τ1→set d τ1=set d τ
 no:∀d τ τ1,set d τ=.ok τ1→jK τ→jK τ1
theorem ZQ{τ:DS}{i:Nat}{d:D}(h:jK τ):jK (τ.set i (some (.val d))):=⟨fun j es e=>by
 by_cases hij:i=j
 ·subst hij
  rw[getElem?_set] at e
  simp only[if_true] at e
  split at e <;> cases e
 ·rw[getElem?_set_ne hij] at e;exact h.1 j es e,fun j n c fs e=>h.2 j n c fs (yP (s:=some (.val d)) rfl rfl e).2⟩
theorem _root_.oI_{α:Type}{a b:α}(h:FD.Rs.ok a=FD.Rs.ok b):a=b:=FD.Rs.ok.inj h
theorem ua(i:Nat):WH (gNm i):=⟨fun d e τ τ1 h=>by
 unfold gNm at h ⊢;replace h:=oI_ h;subst h;rw[set_set],fun d τ τ1 h n=>by unfold gNm at h;replace h:=oI_ h;subst h;exact ZQ n⟩
theorem VF(i j:Nat):WH (gPr i j):=⟨fun d e τ τ1 h=>by
 unfold gPr at h ⊢
 rcases q:Y6 e with _|xy
 ·rw[q] at h;nomatch h
 ·obtain⟨x,y⟩:=xy
  rw[q] at h;replace h:=oI_ h;subst h
  rcases q2:Y6 d with _|zw
  ·rfl
  ·obtain⟨z,w⟩:=zw
   by_cases hij:i=j
   ·subst hij;simp[set_set]
   ·have e1:((τ.set i (some (.val x))).set j (some (.val y))).set i (some (.val z))=(τ.set i (some (.val z))).set j (some (.val y)):=by
     rw[List.set_comm _ _ (Ne.symm hij),set_set]
    simp only
    rw[e1,set_set]
    , fun d τ τ1 h n=>by
 unfold gPr at h
 cases q:Y6 d with
 |none=>rw[q] at h;nomatch h
 |some xy=>
  obtain⟨x,y⟩:=xy
  rw[q] at h;replace h:=oI_ h;subst h
  exact ZQ (ZQ n)⟩
theorem uD(k:Nat)(idx:List Nat)(τ:DS):∀(i:Nat) es,(vX k idx τ)[i]?≠some (some (.own es)):=fun i es e=>by
 unfold vX at e
 by_cases hi:i<k
 ·rw[getElem?_append_left (by simpa using hi),getElem?_replicate] at e
  simp[hi] at e
 ·rw[getElem?_append_right (by simpa using hi),getElem?_map] at e
  rcases q:idx[i-(List.replicate k (none:Option Sl)).length]? with _|j
  ·rw[q] at e;cases e
  ·rw[q] at e
   simp only[Option.map_some,Option.some.injEq] at e
   unfold j5 at e
   split at e <;> cases e
theorem jY(k:Nat)(idx:List Nat)(τ:DS):∀(i n:Nat) c fs,(vX k idx τ)[i]?≠some (some (.obj n c fs)):=fun i n c fs e=>by
 unfold vX at e
 by_cases hi:i<k
 ·rw[getElem?_append_left (by simpa using hi),getElem?_replicate] at e
  simp[hi] at e
 ·rw[getElem?_append_right (by simpa using hi),getElem?_map] at e
  rcases q:idx[i-(List.replicate k (none:Option Sl)).length]? with _|j
  ·rw[q] at e;cases e
  ·rw[q] at e
   simp only[Option.map_some,Option.some.injEq] at e
   unfold j5 at e
   split at e <;> cases e
theorem uE(k:Nat)(idx:List Nat)(τ:DS):jK (vX k idx τ):=⟨uD k idx τ,jY k idx τ⟩
theorem Mv{k:Nat}{idx:List Nat}{τ:DS}{i:Nat}{c:Str}{fs:List (Str×D)}(e:(vX k idx τ)[i]?=some (some (.obr c fs))):∃j,k≤i∧idx[i-k]?=some j∧((∃n,τ[j]?=some (some (.obj n c fs)))∨τ[j]?=some (some (.obr c fs))):=by
 unfold vX at e
 by_cases hi:i<k
 ·rw[getElem?_append_left (by simpa using hi),getElem?_replicate] at e
  simp[hi] at e
 ·rw[getElem?_append_right (by simpa using hi),getElem?_map] at e
  simp only[length_replicate] at e
  rcases q:idx[i-k]? with _|j
  ·rw[q] at e;cases e
  ·rw[q] at e
   simp only[Option.map_some,Option.some.injEq] at e
   unfold j5 at e
   split at e <;> cases e
   ·exact Y12 j (by lia) rfl (.inr (by assumption))
   ·exact Y12 j (by lia) rfl (.inl ⟨_,by assumption⟩)
theorem ObsOk.read{K:Frag}{F H:Hp}{τ:DS}{σ:St}(n:jK τ)(h:∀(i:Nat) (c:Str) (fs:List (Str×D)),τ[i]?=some (some (.obr c fs))→∃a C dx vs,σ[i]?=some (some (.ref a))∧H a=some (.ins C dx vs)∧nsIn K mainGlobals c=some (some (.ref C))∧Flds K F H c fs vs):ObsOk K F τ σ H:=
 ⟨fun i m c fs h=>absurd h (n.2 i m c fs),fun i j m c c' fs a _ h=>absurd h (n.2 i m c fs),h,fun i j m c c' fs a a' l _ h=>absurd h (n.2 i m c fs),fun i j c ds a l _ h=>absurd h (n.1 j ds)⟩
theorem RV.free_upd{K:Frag}{F H:Hp}{τ:DS}{σ:St}{p:Addr}{o:HO}(R:RV K F τ σ H)(n:jK τ)(hp:F p=none)(hl:H p=none∨∃vs,H p=some (.lst vs))(hq:∀(i:Nat) (c:Str) (a:Addr),ObS τ[i]? c→σ[i]?=some (some (.ref a))→p∉Lof H c a)(ho:∀a,o≠.own a:=by intro _ h;nomatch h):RV K F τ σ (upd H p o):=
 ⟨fun b u e=>by
  have:b≠p:=fun z=>by subst z;rw[hp] at e;nomatch e
  rw[zp this];exact R.fh b u e,R.len,R.val,fun i es e=>absurd e (n.1 i es),fun i j ds es a _ h=>absurd h (n.1 i ds),R.tt.step (fun _ _ e=>.inl e) (fun b o e n=>by
  have:b≠p:=fun z=>by
   subst z
   rcases hl with z|⟨vs,z⟩
   ·rw[z] at e;nomatch e
   ·rw[z] at e;replace e:=sI_ e;subst e;exact n _ rfl
  rw[zp this];exact e) (uC ho),R.ob.updL hl hq⟩
theorem RS.apart{K:Frag}{B Z F H:Hp}{τ:DS}{σ:St}{p:Addr}(R:RS K B Z F τ σ H)(n:jK τ)(hp:B p=none):∀(i:Nat) (c:Str) (a:Addr),ObS τ[i]? c→σ[i]?=some (some (.ref a))→p∉Lof H c a:=fun i c a h e hm=>by
 rcases h with ⟨m,fs,h⟩|⟨fs,h⟩
 ·exact n.2 i m c fs h
 ·refine X31 (R.ro i c fs a h e) fun C dx vs h1 h2=>?_
  rw[Lof.ins (R.bh _ _ h1)] at hm
  obtain⟨ws,h3⟩:=h2 p hm
  rw[hp] at h3;nomatch h3
theorem RS.free_upd{K:Frag}{B Z F H:Hp}{τ:DS}{σ:St}{p:Addr}{vs:List V}(R:RS K B Z F τ σ H)(n:jK τ)(hb:B p=none)(hp:F p=none)(hl:H p=none∨∃vs,H p=some (.lst vs)):RS K B Z F τ σ (upd H p (.lst vs)):=
 ⟨R.rv.free_upd n hp hl (R.apart n hb),fun a o e=>by
  have:a≠p:=fun z=>by subst z;rw[hb] at e;nomatch e
  rw[zp this];exact R.bh a o e,R.zf,R.nb,fun i ds a h=>absurd h (n.1 i ds),fun i m c fs a h=>absurd h (n.2 i m c fs),fun a0 dx h1 h2 i m c fs h=>absurd h (n.2 i (m+1) c fs),R.ro⟩
theorem WQ{K:Frag}{F H:Hp}{τ:DS}{σ:St}(k:Nat)(idx:List Nat)(R:RV K F τ σ H):RV K F (vX k idx τ) (wQ k idx σ) H:=by
 refine⟨R.fh,by simp[vX,wQ],fun i d e=>?_,fun i es e=>absurd e (uD k idx τ i es),fun i j ds es a _ h=>absurd h (uD k idx τ i ds),R.tt,ObsOk.read (uE k idx τ) fun i c fs e=>?_⟩
 rotate_left
 ·refine X12 (Mv e) fun j hk hj h=>?_
  have es:∀v,σ[j]?=some (some v)→(wQ k idx σ)[i]?=some (some v):=fun v h=>by
   unfold wQ
   rw[getElem?_append_right (by simpa using hk),getElem?_map]
   simp[hj,h]
  rcases h with ⟨n,h⟩|h
  ·refine X11 (R.ob.at_ j n c fs h) fun a h1 r57_=>?_;refine X34 r57_ fun C dx vs h2 _ h4 h5 _=>?_
   exact Y43 a C dx vs (es _ h1) h2 h4 h5
  ·refine X43 (R.ob.rd j c fs h) fun a C dx vs h1 h2 h4 h5=>?_
   exact Y43 a C dx vs (es _ h1) h2 h4 h5
 unfold vX at e
 unfold wQ
 by_cases hi:i<k
 ·rw[getElem?_append_left (by simpa using hi),getElem?_replicate] at e
  simp[hi] at e
 ·rw[getElem?_append_right (by simpa using hi),getElem?_map] at e
  rw[getElem?_append_right (by simpa using hi),getElem?_map]
  simp only[length_replicate] at e ⊢
  rcases q:idx[i-k]? with _|j
  ·rw[q] at e;cases e
  ·rw[q] at e
   simp only[Option.map_some,Option.some.injEq] at e
   have:τ[j]?=some (some (.val d)):=by
    unfold j5 at e
    split at e <;> cases e
    assumption
   refine X11 (R.val j d this) fun v h1 h2=>?_
   exact Y11 v (by simp[h1]) h2
theorem T7{K:Frag}{F H:Hp}{τ:DS}{σ:St}(k:Nat)(idx:List Nat)(R:RV K F τ σ H):RS K H F F (vX k idx τ) (wQ k idx σ) H:=
 ⟨WQ k idx R,Hh.refl H,Same.refl F,fun a o e=>.inl e,fun i ds a h=>absurd h (uD k idx τ i ds),fun i m c fs a h=>absurd h (jY k idx τ i m c fs),fun a0 dx h1 h2 i m c fs h=>absurd h (jY k idx τ i (m+1) c fs),fun i c fs a h e=>by
  refine X43 ((WQ k idx R).ob.rd i c fs h) fun a' C dx vs h1 h2 _ h5=>?_
  rw[e] at h1;replace h1:=tI_ h1;subst h1
  exact⟨C,dx,vs,h2,fun l hl=>(h5.own hl).2⟩⟩
noncomputable def wx(H:Hp)(p:Addr):Hp:=fun b=>if b=p then none else H b
theorem vS(H:Hp)(p:Addr):wx H p p=none:=by unfold wx;rw[if_pos rfl]
theorem vt{H:Hp}{p b:Addr}(h:b≠p):wx H p b=H b:=by unfold wx;rw[if_neg h]
theorem j6(H:Hp)(p:Addr)(o:HO):upd (wx H p) p o=upd H p o:=by
 funext b;unfold upd wx;split <;> rfl
theorem Xx{F1 H1 F2 Hm F5 H5:Hp}{acc:Addr}{ls:List V}(a:Ext F1 H1 F2 Hm)(hm:Hm acc=none)(b:Ext F2 (upd Hm acc (.lst ls)) F5 H5):Ext F1 H1 F5 (wx H5 acc)∧F5 acc=none:=by
 have hf5:F5 acc=none:=by
  rcases q:F5 acc with _|o
  ·rfl
  ·rcases b.nw acc o q with z|z
   ·rw[zO a.fh hm] at z;nomatch z
   ·rw[zr] at z;nomatch z
 have h1:H1 acc=none:=yU a.hh hm
 have ha:H5 acc=some (.lst ls):=b.hh acc _ zr
 refine⟨⟨a.ff.trans b.ff,fun c o e=>?_,fun c o e=>?_,fun c o e=>?_,fun t=>?_⟩,hf5⟩
 ·have n:c≠acc:=fun z=>by subst z;rw[h1] at e;nomatch e
  rw[vt n]
  exact((a.hh.trans (.of (yk hm))).trans b.hh) c o e
 ·have n:c≠acc:=fun z=>by subst z;rw[hf5] at e;nomatch e
  rw[vt n];exact b.fh c o e
 ·rcases b.nw c o e with z|z
  ·exact a.nw c o z
  ·have n:c≠acc:=fun z'=>by subst z';rw[zr] at z;nomatch z
   rw[zp n] at z
   exact .inr (yU a.hh z)
 ·have t2:=b.tt ((a.tt t).step (F':=F2) (H':=upd Hm acc (.lst ls)) (fun _ _ e=>.inl e) (fun c o e _=>by rw[zp (zI e hm)];exact e) (uC fun _ z=>nomatch z))
  exact t2.step (fun _ _ e=>.inl e) (fun c o e n=>by
   have:c≠acc:=fun z=>by subst z;rw[ha] at e;replace e:=sI_ e;subst e;exact n _ rfl
   rw[vt this];exact e) fun d a e=>by
   unfold wx at e
   split at e
   ·nomatch e
   ·exact e
noncomputable def FreeOk(scope:Scope)(N:List Str):List Str→List Nat→Prop
 |[],[]=>True
 |x::xs,j::js=>N[j]?=some x∧scope.names.lookup x=some .free∧FreeOk scope N xs js
 |_,_=>False
theorem FreeOk.len{scope:Scope}{N:List Str}:∀{xs:List Str} {js:List Nat},FreeOk scope N xs js→xs.length=js.length
 |[],[],_=>rfl
 |_::xs,_::js,h=>by rw[length_cons,length_cons,FreeOk.len h.2.2]
theorem FreeOk.get{scope:Scope}{N:List Str}:∀{xs:List Str} {js:List Nat} {p j:Nat},FreeOk scope N xs js→js[p]?=some j→∃x,xs[p]?=some x∧N[j]?=some x∧scope.names.lookup x=some .free
 |[],[],_,_,_,e=>by simp at e
 |x::xs,i::js,0,j,h,e=>by simp at e;subst e;exact Y12 x rfl h.1 h.2.1
 |x::xs,i::js,p+1,j,h,e=>by
  refine X11 (FreeOk.get (p:=p) h.2.2 (by simpa using e)) fun y h1 h2=>?_
  exact Y11 y (by simpa using h1) h2
noncomputable def vU(osc scope:Scope):Bool:=(match scope.kind with | .function=>true|_=>false)&&scope.names.all (fun y=>match y.2 with
 |.cell=>false
 |.local=>(match scope.names.lookup y.1 with|some .local=>true|_=>false)
 |.free=>(match osc.names.lookup y.1 with|some .cell=>true|some .free=>true|_=>false)
 |_=>true)
theorem wu{X:Cx}{scope:Scope}(h:vU X.env.scope scope=true):xU X scope:=by
 unfold vU at h
 rw[Bool.and_eq_true,List.all_eq_true] at h
 obtain⟨h1,h2⟩:=h
 refine⟨?_,fun y hy z=>?_,fun y hy z=>?_,fun y hy z=>?_⟩
 ·split at h1
  ·assumption
  ·nomatch h1
 ·have:=h2 y hy;rw[z] at this;nomatch this
 ·have:=h2 y hy;rw[z] at this
  simp only at this
  split at this
  ·assumption
  ·nomatch this
 ·have:=h2 y hy;rw[z] at this
  simp only at this
  split at this
  ·left;assumption
  ·right;assumption
  ·nomatch this
noncomputable def TB(Y:Cx)(ifs:List Expr)(f:FT):Prop:=PTs Y ifs (tTs Y f)
theorem vA{Y:Cx}:TB Y [] (fun _=>.ok true):=fun pins s σ H Q I z_=>by refine X21 z_ fun F τ R h=>?_;exact Lc pins s σ H Q I (h F H (Ext.refl R.fh))
theorem YW{Y:Cx}{c:Expr}{f:FT}(h:PDT Y c f):TB Y [c] f:=Lb h
section
variable{X:Cx}{scope:Scope}{tn fr:List Str}{idx:List Nat}{tg iter elt:Expr}{ifs:List Expr}{pos:Pos}{fi:FA}{set:FG}{ft:FT}{fe:FE}
structure CWH(K:Frag)(set:FG)(ft:FT)(fe:FE)(t0:DS)(ds xs:List D)(F1 H1:Hp)(acc:Addr)(i:Nat)(σ1:St)(Hc F2 Hm:Hp)(τ1:DS)(dn rs:List D)(vs:List V):Prop where
 a1:Ext F1 H1 F2 Hm
 a2:Hm acc=none
 a3:Hc=upd Hm acc (.lst vs)
 a4:Reps K F2 dn vs
 a5:RS K H1 F1 F2 τ1 σ1 Hc
 a6:jK τ1
 a7:∀d,set d τ1=set d t0
 a8:vm set ft fe t0 (ds.drop i)=.ok rs
 a9:xs=dn++rs
theorem Z3(so:WH set){Y:Cx}(hK:Y.K=X.K)(σ:St)(H:Hp)(Q:VK)(h:tFr X (wv tn.length idx fi set ft fe) σ H Q):Jt (wQ tn.length idx) (tI X fi) (tG Y set) (tTs Y ft) (tE Y fe) σ H Q:=by
 obtain⟨F,τ,R,h⟩:=h
 refine Y21 F τ R (h.bind.imp fun ds gds J F1 H1 x io=>fun acc hacc=>?_)
 cases q:vm set ft fe (vX tn.length idx τ) ds with
 |no=>rw[q] at gds;exact gds.elim
 |ex c=>rw[q] at gds;exact gds.elim
 |ok xs=>
  rw[q] at gds
  obtain⟨hz,k⟩:=yZ gds
  have R1:=R.ext x
  have hF1:F1 acc=none:=zO x.fh hacc
  refine⟨fun i m σ1 Hc=>m=ds.length-i∧i≤ds.length∧∃F2 Hm τ1 dn rs vs,CWH X.K set ft fe (vX tn.length idx τ) ds xs F1 H1 acc i σ1 Hc F2 Hm τ1 dn rs vs,⟨ds.length,by simp,zero_le _,F1,H1,_,[],xs,[],Ext.refl x.fh,hacc,rfl,Reps.nil,?_,uE _ _ _,fun _=>rfl,q,rfl⟩,?_⟩
  ·exact(T7 tn.length idx R1).free_upd (uE _ _ _) hacc hF1 (.inl hacc)
  rintro i m σ1 Hc ⟨rfl,hi,F2,Hm,τ1,dn,rs,vs,x2,hm,rfl,r2,R2,n2,so2,cl,ex⟩
  obtain⟨i1,i2⟩:=io i F2 _ x2.ff R2.rv.fh
  by_cases hlt:i<ds.length
  ·have hd:ds.drop i=ds[i]::ds.drop (i+1):=drop_eq_getElem_cons hlt
   rw[hd,vm] at cl
   obtain⟨go,yl⟩:=i2 ds[i] (by simp[hlt])
   refine .inr ⟨go,fun y H' yy=>?_⟩
   refine X11 (yl y H' yy) fun F3 x3 r3=>?_
   refine Y32 F3 τ1 (ds[i]) (by rw[hK];exact(R2.ext x3).rv) (by rw[hK];exact r3) ?_
   rw[so2]
   cases e1:set ds[i] (vX tn.length idx τ) with
   |no=>rw[e1] at cl;nomatch cl
   |ex c=>rw[e1] at cl;nomatch cl
   |ok τ2=>
    rw[e1] at cl
    simp only at cl
    intro σ2 _ RR _
    rw[hK] at RR
    have RR:=RR _ _ (R2.ext x3)
    have n3:=so.no _ _ _ e1 (uE _ _ _)
    have so3:∀d,set d τ2=set d (vX tn.length idx τ):=fun d=>so.ov d _ _ _ e1
    cases e2:ft τ2 with
    |no=>rw[e2] at cl;nomatch cl
    |ex c=>rw[e2] at cl;nomatch cl
    |ok b=>
     rw[e2] at cl
     refine Y21 F3 τ2 (by rw[hK];exact RR.rv) ?_
     rw[e2]
     intro F4 H4 x4
     have x34:=x3.trans x4
     rcases b with _|_
     ·simp only at cl
      rw[if_neg (by simp)]
      obtain⟨y1,y2⟩:=Xx x2 hm x34
      have ha:H4 acc=some (.lst vs):=x34.hh acc _ zr
      have eH:H4=upd (wx H4 acc) acc (.lst vs):=by
       rw[j6];funext b;unfold upd;split
       ·rename_i z;subst z;exact ha
       ·rfl
      refine⟨ds.length-(i+1),by lia,rfl,hlt,F4,wx H4 acc,τ2,dn,rs,vs,y1,vS _ _,eH,r2.mono x34.ff,RR.ext x4,n3,so3,cl,ex⟩
     ·simp only at cl
      rw[if_pos rfl]
      cases e3:fe τ2 with
      |no=>rw[e3] at cl;nomatch cl
      |ex c=>rw[e3] at cl;nomatch cl
      |ok z=>
       rw[e3] at cl
       simp only at cl
       cases e4:vm set ft fe (vX tn.length idx τ) (ds.drop (i+1)) with
       |no=>rw[e4] at cl;cases cl
       |ex c=>rw[e4] at cl;cases cl
       |ok rs'=>
        rw[e4] at cl
        have ers:z::rs'=rs:=by simpa using cl
        refine Y21 F4 τ2 (by rw[hK];exact(RR.ext x4).rv) ?_
        rw[e3]
        intro v F5 H5 x5 r5
        rw[hK] at r5
        have x35:=x34.trans x5
        obtain⟨y1,y2⟩:=Xx x2 hm x35
        refine⟨vs,x35.hh acc _ zr,?_,ds.length-(i+1),by lia,rfl,hlt,F5,wx H5 acc,τ2,dn++[z],rs',vs++[v],y1,vS _ _,by rw[j6],(r2.mono x35.ff).append (Reps.cons r5 Reps.nil),?_,n3,so3,e4,?_⟩
        ·have:=congrArg List.length ex
         rw[← ers,length_append,length_cons,r2.length] at this
         lia
        ·exact((RR.ext x4).ext x5).free_upd n3 hacc y2 (.inr ⟨_,x35.hh acc _ zr⟩)
        ·rw[ex,← ers,List.append_assoc];rfl
  ·have e:i=ds.length:=by lia
   subst e
   rw[drop_length,vm] at cl
   replace cl:=oI_ cl;subst cl
   rw[append_nil] at ex
   subst ex
   exact .inl ⟨i1 (le_refl _),k acc vs F2 Hm (x.trans x2) hm r2⟩
theorem jn(hfr:FreeOk scope X.N fr idx)(σ:St)(i:Nat)(v:V)(h:(wQ tn.length idx σ)[i]?=some (some v)):∃(x:Str) (j:Nat),(tn++fr)[i]?=some x∧X.N[j]?=some x∧σ[j]?=some (some v)∧scope.names.lookup x=some .free:=by
 unfold wQ at h
 by_cases hi:i<tn.length
 ·rw[getElem?_append_left (by simpa using hi),getElem?_replicate] at h
  simp[hi] at h
 ·rw[getElem?_append_right (by simpa using hi),getElem?_map] at h
  simp only[length_replicate] at h
  rcases q:idx[i-tn.length]? with _|j
  ·rw[q] at h;cases h
  ·rw[q] at h
   simp only[Option.map_some,Option.some.injEq] at h
   refine X12 (hfr.get q) fun x h1 h2 h3=>?_
   refine Y23 x j (by rw[getElem?_append_right (by lia)];exact h1) h2 ?_ h3
   rcases z:σ[j]? with _|o
   ·rw[z] at h;cases h
   ·rw[z] at h;simp at h;rw[h]
theorem u8(hb:vU X.env.scope scope=true)(hc:X.calm=true)(hfr:FreeOk scope X.N fr idx)(so:WH set)(hi:PDI X tg iter fi)
  (hg:∀s H C fp,PDG (X.comp scope (tn++fr) s H C fp) tg set) (ht:∀s H C fp,TB (X.comp scope (tn++fr) s H C fp) ifs ft) (he:∀s H C fp,PDE (X.comp scope (tn++fr) s H C fp) elt fe)
  (hs:∀x,foldedSetIterable iter X.env x=pure x:=by intro _;rfl):PDF X (.ListComp elt [⟨tg,iter,ifs,0⟩] scope pos) (wv tn.length idx fi set ft fe):=
 PE.imp (JI (s0:=wQ tn.length idx) (g:=tG (X.comp scope (tn++fr) X.s₀ X.H₀ 0 []) set) (ti:=tTs (X.comp scope (tn++fr) X.s₀ X.H₀ 0 []) ft) (te:=tE (X.comp scope (tn++fr) X.s₀ X.H₀ 0 []) fe)
  (wu hb) hc (fun σ _=>by simp[wQ,hfr.len]) (jn hfr) hi hg ht he hs) (Z3 so rfl)
theorem VW{i:Nat}{y:Str}{py spos:Pos}(hN:X.N.Nodup)(hiN:X.N[i]?=some y)(hy:X.env.scope.names.lookup y=some .local)
  (hsw:swapsWith (.ListComp elt [⟨tg,iter,ifs,0⟩] scope pos) (some (.Name y py)) spos.line X.env=pure true)
  (hb:vU X.env.scope scope=true) (hc:X.calm=true) (hfr:FreeOk scope X.N fr idx) (so:WH set) (hi:PDI X tg iter fi)
  (hg:∀s H C fp,PDG (X.comp scope (tn++fr) s H C fp) tg set) (ht:∀s H C fp,TB (X.comp scope (tn++fr) s H C fp) ifs ft) (he:∀s H C fp,PDE (X.comp scope (tn++fr) s H C fp) elt fe)
  (hs:∀x,foldedSetIterable iter X.env x=pure x:=by intro _;rfl):PDS X (.Assign [.Name y py] (.ListComp elt [⟨tg,iter,ifs,0⟩] scope pos) spos) (zU i fun τ=>(wv tn.length idx fi set ft fe τ).bind fun ds=>.ok (.lst ds)):=
 PS.imp (WV (s0:=wQ tn.length idx) (g:=tG (X.comp scope (tn++fr) X.s₀ X.H₀ 0 []) set) (ti:=tTs (X.comp scope (tn++fr) X.s₀ X.H₀ 0 []) ft) (te:=tE (X.comp scope (tn++fr) X.s₀ X.H₀ 0 []) fe) hN hiN hy hsw
  (wu hb) hc (fun σ _=>by simp[wQ,hfr.len]) (jn hfr) hi hg ht he hs) fun E σ H ⟨B,Z,F,τ,R,h⟩=>by
  refine Z3 (X:=X) (tn:=tn) (idx:=idx) (fi:=fi) (ft:=ft) (fe:=fe) so (Y:=X.comp scope (tn++fr) X.s₀ X.H₀ 0 []) rfl σ H (fun x H1=>Xu i x σ H1 E.nx) ⟨F,τ,R.rv,?_⟩
  have h':=h.of.bind
  refine h'.imp fun ds g p vs F1 H1 x hp r=>?_
  have x2:=x.trans (Ext.new (o:=.lst vs) x.fh hp)
  refine g _ _ _ x2.ff ((R.ext x2).set ?_)
  simp only[Rep]
  exact Y22 p vs rfl zr (r.mono (yk (zO x.fh hp)))
theorem QM{i:Nat}{y:Str}{py spos:Pos}(hN:X.N.Nodup)(hiN:X.N[i]?=some y)(hy:X.env.scope.names.lookup y=some .local)
  (hsw:swapsWith (.ListComp elt [⟨tg,iter,ifs,0⟩] scope pos) (some (.Name y py)) spos.line X.env=pure true)
  (hb:vU X.env.scope scope=true) (hc:X.calm=true) (hfr:FreeOk scope X.N fr idx) (so:WH set) (hi:PDI X tg iter fi)
  (hg:∀s H C fp,PDG (X.comp scope (tn++fr) s H C fp) tg set) (ht:∀s H C fp,TB (X.comp scope (tn++fr) s H C fp) ifs ft) (he:∀s H C fp,PDE (X.comp scope (tn++fr) s H C fp) elt fe)
  (hs:∀x,foldedSetIterable iter X.env x=pure x:=by intro _;rfl):PDS X (.Assign [.Name y py] (.ListComp elt [⟨tg,iter,ifs,0⟩] scope pos) spos) (uQ i (wv tn.length idx fi set ft fe)):=
 PS.imp (WV (s0:=wQ tn.length idx) (g:=tG (X.comp scope (tn++fr) X.s₀ X.H₀ 0 []) set) (ti:=tTs (X.comp scope (tn++fr) X.s₀ X.H₀ 0 []) ft) (te:=tE (X.comp scope (tn++fr) X.s₀ X.H₀ 0 []) fe) hN hiN hy hsw
  (wu hb) hc (fun σ _=>by simp[wQ,hfr.len]) (jn hfr) hi hg ht he hs) fun E σ H ⟨B,Z,F,τ,R,h⟩=>by
  refine Z3 (X:=X) (tn:=tn) (idx:=idx) (fi:=fi) (ft:=ft) (fe:=fe) so (Y:=X.comp scope (tn++fr) X.s₀ X.H₀ 0 []) rfl σ H (fun x H1=>Xu i x σ H1 E.nx) ⟨F,τ,R.rv,?_⟩
  exact h.of.imp fun ds g p vs F1 H1 x hp r=>g _ F1 _ x.ff ((R.ext x).setO hp r)
end
section
variable{prog:Program}{w:World}{A:Around}{E:Value→Shared→Prop}{s:Shared}{z TI TO i1 i2:Addr}{n1 n2:Nat}{P1 P2:Nat→Value→Prop}{st1 st2:Nat→Heap→Prop}{rd1 rd2:Heap→Prop}
end
theorem TF{X:Cx}{pins:List (Addr×Obj)}{σ:St}{H:Hp}{s:Shared}{h':Heap}{t':Nat}{ch:List Addr}{p:Addr}{xs:List V}{its:List Value}(I:Inv X pins σ H s)(k:∀b o,b∉ch→s.heap.get? b=some o→h'.get? b=some o)(hf:∀b∈ch,X8 X pins H b)
  (hp:s.heap.objs.size≤p) (ht:IsTup h' p its.toArray) (hv:Vals xs its) (hz:xs.length≤sizeLine) :
  Inv X pins σ (upd H p (.tup xs)) { s with heap:=h',toks:=t' }:=by
 have hn:H p=none:=I.hok.fresh hp
 have lt:∀{b:Addr} {o:Obj},s.heap.get? b=some o→b≠p:=fun e=>ne_of_lt (lt_of_lt_of_le (Heap.lt_size e) hp)
 refine I.step (g':=s.gens) (d':=s.drawn) (ch:=ch) (fun b hb=>?_) (fun b o _ _ hc e _=>k b o hc e) (fun b o _ _ hc e _=>⟨o.slots,k b o hc e⟩) (fun b o _ e n=>by rw[zp (lt e)];exact n)
  (fun b o hc e=>⟨o,k b o hc e⟩) (fun b ys e=>by rw[zp (zI e hn)];exact e) (fun b o u e=>by rw[zp (zI e hn)];exact e) (fun b ps e=>⟨#[],by rw[zp (zI e hn),e];simp⟩) (fun m hm=>?_) (fun b u e=>?_) I.bare
 ·refine X05 (hf b hb) fun f0 f1 f2 f3 f4 f5=>?_
  exact⟨f3,f1,f4,f5⟩
 ·refine X31 hm fun o es ep ho r=>?_
  exact Y31 o es ep (k _ o (fun z=>(hf _ z).2.1 rfl) ho) r
 ·by_cases hb:b=p
  ·subst hb;rw[zr] at e;replace e:=sI_ e;subst e
   exact⟨hz,its,hv,ht⟩
  ·rw[zp hb] at e
   refine(I.hok b u e).stay (fun c v hc q=>k c v ?_ q) (fun c q=>by rw[zp (zI q hn)];exact q) fun c ys q=>by rw[zp (zI q hn)];exact q
   intro z
   rcases hc with q|q
   ·subst q;rw[(hf c z).1] at e;nomatch e
   ·rw[(hf c z).1] at q;nomatch q
noncomputable def yj(c:Nat):D:=.str ⟨#[c]⟩
noncomputable def ZG(x:Str):List D:=x.cps.toList.map yj
noncomputable def Its(x:Str):It:=⟨fun i _=>i<x.cps.size,fun i H y H'=>H'=H∧∃c,x.cps[i]?=some c∧y=.str ⟨#[c]⟩,fun i _=>x.cps.size≤i⟩
theorem Gv{P:Program}{w:World}{K:Frag}{tg:Expr}{it:Addr}{x:Str}{t:Tok}{ty:String}(hty:ty = "str_ascii_iterator" ∨ ty = "str_iterator"):Vt P w K tg (Its x) [it] it (fun k h=>h.IsStrIter it ty x t k) where
 mem:=by simp
 obj:=fun i h ⟨o,e,c,d⟩ b hb=>by
  have z:b=it:=by simpa using hb
  subst z
  exact Y11 o e (fun v z=>by rw[d] at z;nomatch z)
 keep:=fun i h h' ⟨o,e,r⟩ k=>Y11 o (k it (by simp) o e) r
 item:=by
  intro X hP hw hK hc i pins s σ H E I hf st hg
  subst hP hw hK
  refine X05 (hf it (by simp)) fun f0 f1 f2 f3 f4 f5=>?_
  have hh:X.A.handled=none:=I.ok.hd hc
  have W:Walks X.prog X.w X.A it [it] [it] x.cps.size (SignAt x) (fun i h=>h.IsStrIter it ty x t i):=by
   rcases hty with rfl|rfl
   ·exact Walks.strAscii hh it x t
   ·exact Walks.strWide hh it x t
  refine W.item i s _ _ hg st fun v h' tk hv st' kk=>?_
  obtain⟨c,u,ec,rfl⟩:=hv
  have I1:Inv X pins σ H { s with heap:=h',toks:=tk }:=I.turned (fun b o hb e=>kk b o (by simpa using hb) e) f0 f1 f3 f4 f5
  refine X12 (id st') fun o e cc d=>?_
  exact Y11 _ rfl (Uu (s:={ s with heap:=h',toks:=tk }) e cc d (by rcases hty with rfl|rfl <;> decide) ⟨.str ⟨#[c]⟩,H,I1,⟨u,rfl⟩,⟨rfl,c,ec,rfl⟩,st',fun b hb=>(hf b hb).1⟩)
 done:=by
  intro X hP hw hK hc i pins s σ H E I hf st hg
  subst hP hw hK
  refine X05 (hf it (by simp)) fun f0 f1 f2 f3 f4 f5=>?_
  have hh:X.A.handled=none:=I.ok.hd hc
  have hx:x.cps[i]?=none:=by have:x.cps.size≤i:=hg;simp;lia
  rcases hty with rfl|rfl
  ·exact wpAny_pyNext_ascii_end hh st hx fun h' eb=>⟨rfl,I.turned (t':=s.toks) (fun b o hb e=>eb b o hb e) f0 f1 f3 f4 f5⟩
  ·exact wpAny_pyNext_wide_end hh st hx fun h' eb=>⟨rfl,I.turned (t':=s.toks) (fun b o hb e=>eb b o hb e) f0 f1 f3 f4 f5⟩
 self:=fun _ _ _ _ _ st h=>by
  rcases hty with rfl|rfl
  ·exact wpAny_pyIter_striter_ascii st h
  ·exact wpAny_pyIter_striter_wide st h
section
variable{X:Cx}{pos:Pos}{e tg:Expr}{es:List Expr}{fe:FE}{fs:FA}
theorem zl7{K:Frag}{F1:Hp}{x:Str}:Jm K (Its x) F1 (ZG x):=fun i F H f1 f2=>by
 have hl:(ZG x).length=x.cps.size:=by simp[ZG]
 refine⟨fun h=>by rw[hl] at h;exact h,fun d hd=>?_⟩
 have hi:i<x.cps.size:=by have:=(List.getElem?_eq_some_iff.mp hd).1;rw[hl] at this;exact this
 refine⟨hi,fun y H' yy=>?_⟩
 obtain⟨e1,c,ec,rfl⟩:=yy
 subst e1
 refine Y11 F (Ext.refl f2) ?_
 have:d=yj c:=by
  simp only[ZG,getElem?_map] at hd
  have e2:x.cps.toList[i]?=some c:=by simpa using ec
  rw[e2] at hd
  exact(Option.some.inj hd).symm
 subst this
 simp only[yj,Rep]
noncomputable def Itd(hi:Int)(n:Nat):It:=⟨fun i _=>i<n,fun i H x H'=>H'=H∧x=.int (hi-i),fun i _=>n≤i⟩
theorem Vv{P:Program}{w:World}{K:Frag}{tg:Expr}(it:Addr)(hi:Int)(n:Nat):Vt P w K tg (Itd hi n) [it] it (fun i h=>IsRangeIter h it (hi+(i:Nat)*(-1)) ((n:Int)-(i:Nat)) (-1)) where
 mem:=by simp
 obj:=fun i h st b hb=>by
  have e:b=it:=by simpa using hb
  subst e
  exact Y11 _ st (fun v z=>by
   have z':Data.fields _=Data.cell v:=z
   nomatch z')
 keep:=fun i h h' st k=>k it (by simp) _ st
 item:=by
  intro X hP hw hK hc i pins s σ H E I hf st hg
  subst hP hw hK
  refine X05 (hf it (by simp)) fun f0 f1 f2 f3 f4 f5=>?_
  have W:=Walks.range (prog:=X.prog) (w:=X.w) (I.ok.hd hc) it hi (-1) n
  refine W.item i s _ _ hg st fun v h' tk hv st' kk=>?_
  obtain⟨t,rfl⟩:=hv
  have I1:Inv X pins σ H { s with heap:=h',toks:=tk }:=I.turned (fun b o hb e=>kk b o (by simpa using hb) e) f0 f1 f3 f4 f5
  refine Y11 _ rfl (Uu (s:={ s with heap:=h',toks:=tk }) (n := "range_iterator") st' rfl rfl (by decide) ⟨.int (hi-i),H,I1,⟨t,?_⟩,⟨rfl,rfl⟩,st',fun b hb=>(hf b hb).1⟩)
  congr 1
  lia
 done:=by
  intro X hP hw hK hc i pins s σ H E I hf st hg
  subst hP hw hK
  refine X05 (hf it (by simp)) fun f0 f1 f2 f3 f4 f5=>?_
  exact wpAny_pyNext_range_end (I.ok.hd hc) st (by have:n≤i:=hg;lia) fun h' eb=>⟨rfl,I.turned (t':=s.toks) (fun b o hb e=>eb b o hb e) f0 f1 f3 f4 f5⟩
 self:=fun _ _ _ _ _ st h=>wpAny_pyIter_rangeiter st h
end
section
variable{X:Cx}{pos:Pos}{e tg:Expr}{es:List Expr}{fe:FE}{fs:FA}
noncomputable def len1:D→Rs D
 |.lst ds=>.ok (.int ds.length)
 |.tup ds=>.ok (.int ds.length)
 |.scr ns=>.ok (.int ns.length)
 |.str x=>if x.length≤sizeLine then .ok (.int x.length) else .no
 |_=>.no
noncomputable def yA:List D→Rs D
 |[d]=>len1 d
 |_=>.no
theorem xA:XN X (.builtin "len") yA:=⟨_,call_len_seq.or Vp,fun F H vs ds Q fh r h=>by
 match ds,r,h with
 |[d],r,h=>
  obtain⟨v,rfl,q⟩:=r.one
  cases d with
  |lst ds=>
   simp only[Rep] at q;obtain⟨a,ws,rfl,e1,t⟩:=q
   refine .inl ⟨a,ws,rfl,.inl (SqL.of (fh _ _ e1)),?_⟩
   rw[← t.length];exact h _ F H (Ext.refl fh) (by simp only[Rep])
  |tup ds=>
   simp only[Rep] at q;obtain⟨a,ws,rfl,e1,t⟩:=q
   refine .inl ⟨a,ws,rfl,.inr (Same.seqT fh e1),?_⟩
   rw[← t.length];exact h _ F H (Ext.refl fh) (by simp only[Rep])
  |scr ns=>
   simp only[Rep] at q;obtain⟨a,rfl,e1⟩:=q
   refine .inl ⟨a,_,rfl,.inl (fh.seq e1),?_⟩
   rw[length_map];exact h _ F H (Ext.refl fh) (by simp only[Rep])
  |str x=>
   simp only[Rep] at q;subst q
   obtain⟨z,h⟩:=yZ h
   exact .inr ⟨x,rfl,z,h _ F H (Ext.refl fh) (by simp only[Rep])⟩
  |_=>exact h.elim
 |[],_,h=>exact h.elim
 |_::_::_,_,h=>exact(show False from h).elim⟩
noncomputable def uT(ds:List D):Rs D:=match U9 ds with
 | some (i,j)=>.ok (.int (if j<i then j else i))
 |none=>.no
noncomputable def ud(ds:List D):Rs D:=match U9 ds with
 | some (i,j)=>.ok (.int (if j > i then j else i))
 |none=>.no
theorem YG(hc:X.calm=true):XN X (.builtin "min") uT:=Y11 _ (Gj hc) (fun F H vs ds Q fh r h=>by
 unfold uT at h
 cases q:U9 ds with
 |none=>rw[q] at h;exact h.elim
 |some ij=>
  obtain⟨i,j⟩:=ij
  rw[q] at h
  have e:=Qc q
  subst e
  obtain⟨v,w,rfl,r1,r2⟩:=r.two
  simp only[Rep] at r1 r2;subst r1;subst r2
  exact⟨i,j,rfl,h _ F H (Ext.refl fh) (by simp only[Rep])⟩)
theorem Vn(hc:X.calm=true):XN X (.builtin "max") ud:=Y11 _ (Gk hc) (fun F H vs ds Q fh r h=>by
 unfold ud at h
 cases q:U9 ds with
 |none=>rw[q] at h;exact h.elim
 |some ij=>
  obtain⟨i,j⟩:=ij
  rw[q] at h
  have e:=Qc q
  subst e
  obtain⟨v,w,rfl,r1,r2⟩:=r.two
  simp only[Rep] at r1 r2;subst r1;subst r2
  exact⟨i,j,rfl,h _ F H (Ext.refl fh) (by simp only[Rep])⟩)
theorem rangeSize_down(a b:Int):Builtin.Range.rangeSize a b (-1)=((a-b).toNat:Int):=by
 unfold Builtin.Range.rangeSize
 rw[if_neg (by decide)]
 by_cases h:a > b
 ·rw[if_pos h,show(- -1:Int)=1 from rfl,Int.ediv_one];lia
 ·rw[if_neg h];lia
theorem small_down{a b:Int}(ha : -(2 ^ 62)≤a)(ha':a<2 ^ 62)(hb : -(2 ^ 62)≤b)(hb':b<2 ^ 62):Builtin.Range.small a b (-1)=true:=by
 unfold Builtin.Range.small
 rw[rangeSize_down]
 simp only[Builtin.Range.rangeFitsLong,Bool.and_eq_true,Bool.or_eq_true,decide_eq_true_eq,beq_iff_eq,show ¬ (-1:Int) > 0 by decide,if_false]
 lia
noncomputable def iRngD(ta:TA):TI:=fun σ H R=>ta σ H fun vs H1=>∃i j:Int,vs=[.int i,.int j,.int (-1)]∧(-(2 ^ 62)≤i∧i<2 ^ 62∧-(2 ^ 62)≤j∧j<2 ^ 62)∧R (Itd i (i-j).toNat) H1
theorem QH{a b c:Expr}{ta:TA}{p pos:Pos}(hg:Gl X "range")(hm:X.mg "range" = none)(ha:PA X [a,b,c] ta)(hs:starEach [a,b,c] X.env=[(false,eval a X.env),(false,eval b X.env),(false,eval c X.env)]:=by rfl)(hs2:starEach [b,c] X.env=[(false,eval b X.env),(false,eval c X.env)]:=by rfl) :
  PI X tg (.Call (.Name "range" p) [a,b,c] [] pos) (iRngD ta):=by
 intro pins s σ H R I h
 refine Call_ (uG I hg hm boot_range (PyProof.Rows.callWith_type1 (thn (ha pos pins s σ H _ I h) fun us s1 z_=>?_) (by rw[hs,hs2]) (by rw[hs2];rfl)))
 refine X22 z_ fun vs H1 I1 r1 q1=>?_
 obtain⟨i,j,e,⟨q1,q2,q3,q4⟩,q⟩:=q1
 subst e
 cases r1 with
 |cons r rr=>
  cases rr with
  |cons r' rr=>
   cases rr with
   |cons r'' rr=>
    cases rr
    obtain⟨t,rfl⟩:=r
    obtain⟨t',rfl⟩:=r'
    obtain⟨t'',rfl⟩:=r''
    refine call_range_3 (by decide) ?_ (.inl (PyProof.noPylong_small (by decide)))
    have I2:Inv X pins σ H1 { s1 with heap:=s1.heap.push { cls:=.type "range", data:=.fields #[.int i t,.int j t',.int (-1) t''] },toks:=s1.toks }:=I1.kept fun b o e=>get?_push_of_some _ e
    refine wpAny_pyIter_range (IsRange.new ..) (small_down q1 q2 q3 q4) ?_
    refine Y55 ((s1.heap.push { cls:=.type "range", data:=.fields #[.int i t,.int j t',.int (-1) t''] }).objs.size) [(s1.heap.push { cls:=.type "range", data:=.fields #[.int i t,.int j t',.int (-1) t''] }).objs.size] _ _ H1 rfl (I2.kept (t':=s1.toks) fun b o e=>get?_push_of_some _ e) (Vv _ i (i-j).toNat) ?_ (fun b hb=>?_) q
    ·have e1:i+((0:Nat):Int)*(-1)=i:=by simp
     have e2:(((i-j).toNat:Nat):Int)-((0:Nat):Int)=Builtin.Range.rangeSize i j (-1):=by rw[rangeSize_down];lia
     show IsRangeIter _ _ (i+((0:Nat):Int)*(-1)) ((((i-j).toNat:Nat):Int)-((0:Nat):Int)) (-1)
     rw[e1,e2]
     exact Heap.get?_push_size _ rfl
    ·have e:b=(s1.heap.push { cls:=.type "range", data:=.fields #[.int i t,.int j t',.int (-1) t''] }).objs.size:=by simpa using hb
     subst e
     exact I2.fpOk (le_refl _) (I2.hok.fresh (le_refl _))
noncomputable def Z8(hi:Int)(n:Nat):List D:=(List.range n).map fun (k:Nat)=>D.int (hi-k)
theorem L6{K:Frag}{F1:Hp}{lo:Int}{n:Nat}:Jm K (Itd lo n) F1 (Z8 lo n):=fun i F H f1 f2=>by
 have hl:(Z8 lo n).length=n:=by simp[Z8]
 refine⟨fun h=>by rw[hl] at h;exact h,fun d hd=>?_⟩
 have hi:i<n:=by have:=(List.getElem?_eq_some_iff.mp hd).1;rw[hl] at this;exact this
 refine⟨hi,fun x H' y=>?_⟩
 obtain⟨e1,y⟩:=y
 subst e1
 refine Y11 F (Ext.refl f2) ?_
 simp[Z8,hi] at hd
 subst hd
 simp only[Rep];exact y
noncomputable def Up:List D→Option (Int×Int)
 | [.int i,.int j,.int (-1)]=>some (i,j)
 |_=>none
theorem MX{ds:List D}{i j:Int}(h:Up ds=some (i,j)):ds=[.int i,.int j,.int (-1)]:=by
 unfold Up at h;split at h <;> cases h;rfl
noncomputable def Q9(fs:FA):FA:=fun τ=>(fs τ).bind fun ds=>match Up ds with
 | some (i,j)=>if (-(2 ^ 62)≤i∧i<2 ^ 62)∧-(2 ^ 62)≤j∧j<2 ^ 62 then .ok (Z8 i (i-j).toNat) else .no
 |none=>.no
theorem UV{a b c:Expr}{p:Pos}(hg:Gl X "range")(hm:X.mg "range" = none)(ha:PDA X [a,b,c] fs)(hs:starEach [a,b,c] X.env=[(false,eval a X.env),(false,eval b X.env),(false,eval c X.env)]:=by rfl)(hs2:starEach [b,c] X.env=[(false,eval b X.env),(false,eval c X.env)]:=by rfl) :
  PDI X tg (.Call (.Name "range" p) [a,b,c] [] pos) (Q9 fs):=
 PI.imp (QH hg hm ha hs hs2) fun σ H R z_=>by
  refine X21 z_ fun F τ Rv h=>?_
  refine tAs.of Rv h.bind fun ds vs F1 H1 g x R1 r=>?_
  rcases q1:Up ds with _|ij
  ·rw[q1] at g;exact g.elim
  ·obtain⟨i,j⟩:=ij
   rw[q1] at g
   have e:=MX q1
   subst e
   simp only[Reps] at r
   refine X22 r fun v r1 e1 q r55_=>?_;refine X22 r55_ fun w r2 e2 q' r56_=>?_;refine X22 r56_ fun u r3 e3 q'' e4=>?_
   simp only[Rep] at q q' q'';subst q q' q'' e4 e3 e2 e1
   obtain⟨z,g⟩:=yZ g
   exact Y22 i j rfl ⟨z.1.1,z.1.2,z.2.1,z.2.2⟩ (g _ F1 H1 x L6)
noncomputable def MtD(X:Cx)(id:String)(g:D→List D→Rs D):Prop:=∃r,MtR X id r∧∀F H v vs d ds Q,Same F H→Rep X.K F d v→Reps X.K F ds vs→Ok X (g d ds) (Ev X.K F H Q)→r v vs H Q
noncomputable def Xo(T:String):D→Bool
 |.str _=>T = "str"
 |.int _=>T = "int"
 |.lst _=>T = "list"
 |.scr _=>T = "list"
 |_=>false
noncomputable def Jh(T:String)(g:D→List D→Rs D)(fo:FE):FE:=fun τ=>(fo τ).bind fun d=>if Xo T d=true then g d [] else .no
noncomputable def eMt(T:String)(g:D→List D→Rs D)(fo:FE)(fa:FA):FE:=fun τ=>(fo τ).bind fun d=>if Xo T d=true then (fa τ).bind fun ds=>g d ds else .no
theorem Gq{F H:Hp}{d:D}{v:V}{T:String}(fh:Same F H)(r:Rep X.K F d v)(h:Xo T d=true):tyV X.K T v H:=by
 cases d with
 |str x=>simp only[Rep] at r;subst r;show T = "str"; simpa[Xo] using h
 |int x=>simp only[Rep] at r;subst r;show T = "int"; simpa[Xo] using h
 |lst ds=>simp only[Rep] at r;obtain⟨a,vs,rfl,e,t⟩:=r;exact .inl ⟨by simpa[Xo] using h,vs,SqL.of (fh _ _ e)⟩
 |scr ds=>simp only[Rep] at r;obtain⟨a,rfl,e⟩:=r;exact .inl ⟨by simpa[Xo] using h,_,fh.seq e⟩
 |_=>simp[Xo] at h
theorem zd9{X:Cx}{α:Type}{c:Prop}[Decidable c]{r:Rs α}{P:α→Prop}(h:Ok X (if c then r else .no) P):c∧Ok X r P:=by
 by_cases z:c
 ·rw[if_pos z] at h;exact⟨z,h⟩
 ·rw[if_neg z] at h;exact h.elim
theorem JM{T id:String}{name:Str}{o:Expr}{apos cpos:Pos}{fo:FE}{g:D→List D→Rs D}(pa:PlainAttrs T)(slot:Slot T name id)(hty:typeOf (.builtin id)=pure (.type "method_descriptor"))(hm:MtD X id g)(ho:PDE X o fo)
  (hbase:attributeBase o name X.env (eval o X.env)=eval o X.env:=by rfl) (hline:(apos.endLine==cpos.line)=true:=by rfl):PDE X (.Call (.Attribute o name apos) [] [] cpos) (Jh T g fo):=by
 refine X11 hm fun r h1 h2=>?_
 exact PE.imp (zh9 pa slot hty h1 ho hbase hline) fun σ H Q z_=>by
  refine X21 z_ fun Fz τ R h=>?_
  refine tE.of R h.bind fun d v F1 H1 q x R1 rr=>?_
  obtain⟨z,q⟩:=zd9 q
  exact⟨Gq R1.fh rr z,h2 F1 H1 v [] d [] Q R1.fh rr Reps.nil (q.imp fun d e=>e.ext x)⟩
theorem zi3{T id:String}{name:Str}{o:Expr}{apos cpos:Pos}{fo:FE}{g:D→List D→Rs D}(pa:PlainAttrs T)(slot:Slot T name id)(hty:typeOf (.builtin id)=pure (.type "method_descriptor"))(hm:MtD X id g)(ho:PDE X o fo)(ha:PDA X (e::es) fs)
  (hbase:attributeBase o name X.env (eval o X.env)=eval o X.env:=by rfl)
  (hfew:((backTo cpos (starEach (e::es) X.env)).all (fun x=>!x.1)&&(backToKw cpos (keywordEach [] X.env)).all (fun x=>x.1.isSome)
   && decide ((e::es).length+([]:List Keyword).length+(if ([]:List Keyword).isEmpty then 0 else 1)<30))=true:=by rfl)
  (hline:(apos.endLine==cpos.line)=true:=by rfl) (hs:starEach (e::es) X.env=(false,eval e X.env)::starEach es X.env:=by rfl) (hplain:(backTo cpos (starEach es X.env)).any (·.1)=false:=by rfl) :
  PDE X (.Call (.Attribute o name apos) (e::es) [] cpos) (eMt T g fo fs):=by
 refine X11 hm fun r h1 h2=>?_
 exact PE.imp (G8 pa slot hty h1 ho ha hbase hfew hline hs hplain) fun σ H Q z_=>by
  refine X21 z_ fun Fz τ R h=>?_
  refine tE.of R h.bind fun d v F1 H1 q x R1 rr=>?_
  obtain⟨z,q⟩:=zd9 q
  exact⟨Gq R1.fh rr z,tAs.of R1 q.bind fun ds vs F2 H2 q2 x2 R2 rs=>h2 F2 H2 v vs d ds Q R2.fh (rr.mono x2.ff) rs (q2.imp fun d e=>e.ext (x.trans x2))⟩
noncomputable def upD:D→List D→Rs D
 |.str x,[]=>if x.length≤5000000 then .ok (.str (Txt.upper x)) else .no
 |_,_=>.no
noncomputable def loD:D→List D→Rs D
 |.str x,[]=>if x.length≤5000000 then .ok (.str (Txt.lower x)) else .no
 |_,_=>.no
theorem mt_up:MtR X "str.upper" (fun v vs H Q=>∃x,v=.str x∧vs=[]∧x.length≤5000000∧Q (.str (Txt.upper x)) H):=by
 intro pins s σ H v vs u us Q I r rs h
 obtain⟨x,rfl,rfl,hx,q⟩:=h
 obtain⟨t,rfl⟩:=r
 cases rs
 exact SC.upper (fit_upper (by lia)) ⟨.str (Txt.upper x),H,I.tok _,⟨_,rfl⟩,q⟩
theorem mt_lo:MtR X "str.lower" (fun v vs H Q=>∃x,v=.str x∧vs=[]∧x.length≤5000000∧Q (.str (Txt.lower x)) H):=by
 intro pins s σ H v vs u us Q I r rs h
 obtain⟨x,rfl,rfl,hx,q⟩:=h
 obtain⟨t,rfl⟩:=r
 cases rs
 exact SC.lower (fit_lower (by lia)) ⟨.str (Txt.lower x),H,I.tok _,⟨_,rfl⟩,q⟩
theorem md_up:MtD X "str.upper" upD:=Y11 _ mt_up (fun F H v vs d ds Q fh r rs h=>by
 cases d with
 |str x=>
  rcases ds with _|⟨a,b⟩
  ·simp only[Rep] at r;subst r
   simp only[Reps] at rs;subst rs
   obtain⟨z,h⟩:=yZ h
   exact Y13 x rfl rfl z (h _ F H (Ext.refl fh) (by simp only[Rep]))
  ·exact h.elim
 |_=>cases ds <;> exact h.elim)
theorem md_lo:MtD X "str.lower" loD:=Y11 _ mt_lo (fun F H v vs d ds Q fh r rs h=>by
 cases d with
 |str x=>
  rcases ds with _|⟨a,b⟩
  ·simp only[Rep] at r;subst r
   simp only[Reps] at rs;subst rs
   obtain⟨z,h⟩:=yZ h
   exact Y13 x rfl rfl z (h _ F H (Ext.refl fh) (by simp only[Rep]))
  ·exact h.elim
 |_=>cases ds <;> exact h.elim)
theorem QO{o:Expr}{apos cpos:Pos}{fo:FE}(ho:PDE X o fo)(hbase:attributeBase o "upper" X.env (eval o X.env)=eval o X.env:=by rfl)(hline:(apos.endLine==cpos.line)=true:=by rfl):PDE X (.Call (.Attribute o "upper" apos) [] [] cpos) (Jh "str" upD fo):=
 JM F.plainAttrs_str F.slot_str_upper F.type_str_upper md_up ho hbase hline
theorem QR{o:Expr}{apos cpos:Pos}{fo:FE}(ho:PDE X o fo)(hbase:attributeBase o "lower" X.env (eval o X.env)=eval o X.env:=by rfl)(hline:(apos.endLine==cpos.line)=true:=by rfl):PDE X (.Call (.Attribute o "lower" apos) [] [] cpos) (Jh "str" loD fo):=
 JM F.plainAttrs_str F.slot_str_lower F.type_str_lower md_lo ho hbase hline
end
section
variable{X:Cx}{pos:Pos}{e tg:Expr}{es:List Expr}{fe:FE}{fs:FA}
end
section
variable{X:Cx}{pos:Pos}{e tg:Expr}{es:List Expr}{fe:FE}{fs:FA}
noncomputable def rSlS:V→Option Int→Option Int→Hp→VK→Prop:=fun x lo hi H Q=>∃z,x=.str z∧z.length≤sizeLine∧Q (.str (Txt.slice z lo hi)) H
theorem sl_str:SlR X rSlS:=by
 intro pins s σ H x v vl vu lo hi sl Q I rx hs pl pu h
 obtain⟨z,rfl,hz,q⟩:=h
 obtain⟨t,rfl⟩:=rx
 refine Y22 ("str") _ F.slot_str_getitem.lookup (typeIs_str _ _ _) ?_
 refine X12 hs fun o e c d=>?_
 have fin:∀t' k,EP X pins σ Q (.str (Txt.slice z lo hi) t') { s with toks:=k }:=fun t' k=>Y22 (.str _) H (I.tok _) ⟨_,rfl⟩ q
 have hl:=le_trans (Txt.slice_le z lo hi) hz
 cases pl with
 |none=>
  cases pu with
  |none=>exact wpAny_getItem_str_slice (l:=none) (u:=none) (st:=none) ⟨o,e,c,d⟩ rfl (post_val_or_str ⟨hl,fin⟩)
  |int j uj=>exact wpAny_getItem_str_slice (l:=none) (u:=some (j,uj)) (st:=none) ⟨o,e,c,d⟩ rfl (post_val_or_str ⟨hl,fin⟩)
 |int i ui=>
  cases pu with
  |none=>exact wpAny_getItem_str_slice (l:=some (i,ui)) (u:=none) (st:=none) ⟨o,e,c,d⟩ rfl (post_val_or_str ⟨hl,fin⟩)
  |int j uj=>exact wpAny_getItem_str_slice (l:=some (i,ui)) (u:=some (j,uj)) (st:=none) ⟨o,e,c,d⟩ rfl (post_val_or_str ⟨hl,fin⟩)
noncomputable def cutD(xs:List D)(lo hi:Option Int):List D:=(xs.drop (HT.sIx xs.length 0 lo)).take (HT.sIx xs.length xs.length hi-HT.sIx xs.length 0 lo)
noncomputable def slD(d:D)(lo hi:Option Int):Rs D:=match d with
 |.str x=>if x.length≤sizeLine then .ok (.str (Txt.slice x lo hi)) else .no
 |.lst ds=>.ok (.lst (cutD ds lo hi))
 |_=>.no
noncomputable abbrev FO:=DS→Rs (Option Int)
noncomputable def JR:FO:=fun _=>.ok none
noncomputable def w5(fe:FE):FO:=fun τ=>(fe τ).bind fun d=>match d with
 |.int i=>.ok (some i)
 |_=>.no
noncomputable def tOs(X:Cx)(f:FO):TO:=fun σ H Q=>∃F τ,RV X.K F τ σ H∧Ok X (f τ) fun o=>∀F' H',Ext F H F' H'→Q o H'
noncomputable def PDO(X:Cx)(e:Option Expr)(f:FO):Prop:=PO X e (tOs X f)
theorem PO.imp{e:Option Expr}{t t':TO}(h:PO X e t)(f:∀σ H Q,t' σ H Q→t σ H Q):PO X e t':=fun pins s σ H Q I q=>h pins s σ H Q I (f _ _ _ q)
theorem Md:PDO X none JR:=PO.imp Lh fun σ H Q z_=>by refine X21 z_ fun F τ R h=>?_;exact h F H (Ext.refl R.fh)
theorem u7(h:PDE X e fe):PDO X (some e) (w5 fe):=PO.imp (Lg h) fun σ H Q z_=>by
 refine X21 z_ fun F τ R h=>?_
 refine tE.of R h.bind fun d v F1 H1 g x R1 r=>?_
 cases d with
 |int i=>simp only[Rep] at r;exact Y11 i r (g F1 H1 x)
 |_=>exact g.elim
noncomputable def eSl(fe:FE)(fl fh:FO):FE:=fun τ=>(fe τ).bind fun d=>(fl τ).bind fun l=>(fh τ).bind fun u=>slD d l u
theorem UW{lo hi:Option Expr}{fl fh:FO}{p2:Pos}(he:PDE X e fe)(hl:PDO X lo fl)(hu:PDO X hi fh):PDE X (.Subscript e (.Slice lo hi none p2) pos) (eSl fe fl fh):=
 PE.imp (G3 (sl_str.or T1) he hl hu) fun σ H Q z_=>by
  refine X21 z_ fun F τ R h=>?_
  refine tE.of R h.bind fun d v F1 H1 g x R1 r=>?_
  refine Y21 F1 τ R1 (g.bind.imp fun l gl F2 H2 x2=>Y21 F2 τ (R1.ext x2) (gl.bind.imp fun u gu F3 H3 x3=>?_))
  have f3:=x3.fh
  have x13:=x.trans (x2.trans x3)
  cases d with
  |str z=>
   simp only[Rep] at r
   obtain⟨zz,gu⟩:=yZ gu
   exact .inl ⟨z,r,zz,gu _ F3 H3 x13 (by simp only[Rep])⟩
  |lst ds=>
   simp only[Rep] at r;obtain⟨a,vs,rfl,e1,t⟩:=r
   have gu:Ev X.K F H Q (.lst (cutD ds l u)):=gu
   refine .inr ⟨a,vs,rfl,SqL.of (f3 _ _ (x3.ff _ _ (x2.ff _ _ e1))),fun p hp=>gu _ _ _ (x13.trans (Ext.new f3 hp)) ?_⟩
   simp only[Rep]
   refine Y22 p _ rfl zr ?_
   have t3:Reps X.K F3 (cutD ds l u) (Gg vs l u):=by
    unfold cutD Gg
    rw[← t.length]
    exact((t.mono (x2.ff.trans x3.ff)).drop _).take _
   exact t3.mono (yk (zO f3 hp))
  |_=>exact gu.elim
theorem YL{K:Frag}{F:Hp}:∀(cs:List Nat),Reps K F (cs.map yj) (cs.map fun c=>V.str ⟨#[c]⟩):=by
 intro l_
 induction l_ with
 |nil=>
  exact Reps.nil
 |cons c r ih_=>
  exact Reps.cons (by simp only[yj,Rep]) (ih_)
theorem Jj(hc:X.calm=true):CallR X (.type "list") (fun vs H Q=>∃x,vs=[.str x]∧x.cps.size≤sizeLine∧∀l,H l=none→Q (.ref l) (upd H l (.lst (x.cps.toList.map fun c=>V.str ⟨#[c]⟩)))):=by
 intro pins s σ H vs us Q I r h
 obtain⟨x,rfl,hz,q⟩:=h
 obtain⟨u,rfl,t,rfl⟩:=vals1 r
 refine call_list_str (I.ok.hd hc) x t (fun h' tk acc' c' hk hS' hacc=>?_) hz
 obtain⟨hsz,hat⟩:=hacc
 have rel:Vals (x.cps.toList.map fun c=>V.str ⟨#[c]⟩) acc'.toList:=by
  have gen:∀(cs:List Nat) (us:List Value),us.length=cs.length→(∀(j:Nat) (v:Value),us[j]?=some v→∃c u,cs[j]?=some c∧v=.str ⟨#[c]⟩ u)→Vals (cs.map fun c=>V.str ⟨#[c]⟩) us:=by
   intro cs
   induction cs with
   |nil=>intro us hl _;cases us with
    |nil=>exact .nil
    |cons a b=>simp at hl
   |cons c r ih=>
    intro us hl ha
    rcases us with _|⟨a,b⟩
    ·simp at hl
    ·refine X21 (ha 0 a rfl) fun c' u e1 e2=>?_
     have e1:c=c':=by simpa using e1
     subst e1
     exact .cons ⟨u,e2⟩ (ih b (by simpa using hl) fun j v hj=>by simpa using ha (j+1) v (by simpa using hj))
  refine gen _ _ (by simp[hsz]) fun j v hj=>?_
  refine X21 (hat j v (by simpa using hj)) fun c u e1 e2=>?_
  exact Y21 c u (by simpa using e1) e2
 refine Y22 (.ref s.heap.objs.size) _ (I.laid (t':=tk) hk (le_refl _) (o:=.lst (x.cps.toList.map fun c=>V.str ⟨#[c]⟩)) ⟨by simpa using hz,acc'.toList,c',rel,by simpa using hS'⟩) rfl (q _ (I.hok.fresh (le_refl _)))
noncomputable def MJ(ds:List D):Rs D:=match ds with
 |[d]=>match d with
  |.str x=>if x.cps.size≤sizeLine then .ok (.lst (ZG x)) else .no
  |.lst xs=>.ok (.lst xs)
  |.tup xs=>.ok (.lst xs)
  |.scr ns=>.ok (.lst (ns.map .int))
  |_=>.no
 |_=>.no
theorem zb4(hc:X.calm=true):XN X (.type "list") MJ:=Y11 _ ((Jj hc).or Vo) (fun F H vs ds Q fh r h=>by
 cases ds with
 |nil=>exact h.elim
 |cons d r2=>
  cases r2 with
  |cons a b=>exact h.elim
  |nil=>
   obtain⟨v,rfl,q⟩:=r.one
   cases d with
   |str x=>
    simp only[Rep] at q;subst q
    obtain⟨z,h⟩:=yZ h
    refine .inl ⟨x,rfl,z,fun l hl=>h _ _ _ (Ext.new fh hl) ?_⟩
    simp only[Rep]
    exact Y22 l _ rfl zr (YL _)
   |lst xs=>
    simp only[Rep] at q;obtain⟨a,ws,rfl,e,t⟩:=q
    have h:Ev X.K F H Q (.lst xs):=h
    refine .inr ⟨a,ws,rfl,.inl (SqL.of (fh _ _ e)),fun l hl=>h _ _ _ (Ext.new fh hl) ?_⟩
    simp only[Rep]
    exact Y22 l _ rfl zr (t.mono (yk (zO fh hl)))
   |tup xs=>
    simp only[Rep] at q;obtain⟨a,ws,rfl,e,t⟩:=q
    have h:Ev X.K F H Q (.lst xs):=h
    refine .inr ⟨a,ws,rfl,.inr (Same.seqT fh e),fun l hl=>h _ _ _ (Ext.new fh hl) ?_⟩
    simp only[Rep]
    exact Y22 l _ rfl zr (t.mono (yk (zO fh hl)))
   |scr ns=>
    simp only[Rep] at q;obtain⟨a,rfl,e⟩:=q
    have h:Ev X.K F H Q (.lst (ns.map .int)):=h
    refine .inr ⟨a,_,rfl,.inl (fh.seq e),fun l hl=>h _ _ _ (Ext.new fh hl) ?_⟩
    simp only[Rep]
    exact Y22 l _ rfl zr (Reps.ints ns)
   |_=>exact h.elim)
theorem Mg{x:Str}{v:V}{u:Value}{d:D}(hg:Gl X x)(hm:X.mg x=some u)(r:RelV v u)(rd:∀F,Rep X.K F d v)(hd:(x==("__debug__" : Str))=false:=by decide):PDE X (.Name x pos) (eC d):=V0 (Yu hg hm r hd) rd
theorem Zi{x:Str}{y:Str}{t:Tok}(hg:Gl X x)(hm:X.mg x=some (.str y t))(hd:(x==("__debug__" : Str))=false:=by decide):PDE X (.Name x pos) (eC (.str y)):=Mg (v:=.str y) hg hm ⟨t,rfl⟩ (fun _=>by simp only[Rep]) hd
theorem vN{x:Str}{y:Int}{t:Tok}(hg:Gl X x)(hm:X.mg x=some (.int y t))(hd:(x==("__debug__" : Str))=false:=by decide):PDE X (.Name x pos) (eC (.int y)):=Mg (v:=.int y) hg hm ⟨t,rfl⟩ (fun _=>by simp only[Rep]) hd
end
section
variable{X:Cx}{pos:Pos}{e tg:Expr}{es:List Expr}{fe:FE}{fs:FA}
noncomputable def iAnyT(K:Frag)(tl:TE):TI:=fun σ H R=>tl σ H fun x H1=>(∃a,x=.ref a∧(∃xs,SqL K H1 a xs)∧R (Itl K a) H1)∨(∃a,x=.ref a∧(∃xs,SqT K H1 a xs)∧R (Itt K a) H1)∨∃z,x=.str z∧R (Its z) H1
theorem zh0{l:Expr}{tl:TE}(hl:PE X l tl):PI X tg l (iAnyT X.K tl):=by
 intro pins s σ H R I h
 refine thn (hl pins s σ H _ I h) fun v s1 z_=>?_
 refine X22 z_ fun x H1 I1 r1 q1=>?_
 rcases q1 with ⟨a,e,⟨xs,hq⟩,q⟩|⟨a,e,⟨xs,hq⟩,q⟩|⟨z,e,q⟩
 ·subst e
  cases r1
  refine X12 (I1.list hq) fun its rv p hz=>?_
  refine wpAny_pyIter_list p.isList ?_
  refine Y55 s1.heap.objs.size [s1.heap.objs.size] _ _ H1 rfl (I1.kept (t':=s1.toks) fun b o e=>get?_push_of_some _ e) (Qv a _) ⟨_,Heap.get?_push_size _ rfl,rfl,rfl⟩ (fun b hb=>?_) q
  have e:b=s1.heap.objs.size:=by simpa using hb
  subst e
  exact I1.fpOk (le_refl _) (I1.hok.fresh (le_refl _))
 ·subst e
  cases r1
  refine X12 (I1.tuple hq) fun its rv p hz=>?_
  refine wpAny_pyIter_tuple (show s1.heap.IsTuple a its.toArray from p) ?_
  refine Y55 s1.heap.objs.size [s1.heap.objs.size] _ _ H1 rfl (I1.kept (t':=s1.toks) fun b o e=>get?_push_of_some _ e) (UG a _) ⟨_,Heap.get?_push_size _ rfl,rfl,rfl⟩ (fun b hb=>?_) q
  have e:b=s1.heap.objs.size:=by simpa using hb
  subst e
  exact I1.fpOk (le_refl _) (I1.hok.fresh (le_refl _))
 ·subst e
  obtain⟨t,rfl⟩:=r1
  have fin:∀(ty:String),(ty = "str_ascii_iterator" ∨ ty = "str_iterator")→PIE X pins σ tg R (.ref s1.heap.objs.size) { s1 with heap:=s1.heap.push { cls:=.type ty,data:=.fields #[.str z t,.int 0 0] } }:=fun ty hty=>by
   refine Y55 s1.heap.objs.size [s1.heap.objs.size] _ _ H1 rfl (I1.kept (t':=s1.toks) fun b o e=>get?_push_of_some _ e) (Gv hty) ⟨_,Heap.get?_push_size _ rfl,rfl,rfl⟩ (fun b hb=>?_) q
   have e:b=s1.heap.objs.size:=by simpa using hb
   subst e
   exact I1.fpOk (le_refl _) (I1.hok.fresh (le_refl _))
  cases ha:z.cps.all (· < 128)
  ·exact wpAny_pyIter_wide ha (fin _ (.inr rfl))
  ·exact wpAny_pyIter_ascii ha (fin _ (.inl rfl))
noncomputable def J8:D→Rs (List D)
 |.lst ds=>.ok ds
 |.scr ns=>.ok (ns.map .int)
 |.tup ds=>.ok ds
 |.str x=>.ok (ZG x)
 |_=>.no
noncomputable def wN(fe:FE):FA:=fun τ=>(fe τ).bind J8
theorem vi(he:PDE X e fe):PDI X tg e (wN fe):=
 PI.imp (zh0 he) fun σ H R z_=>by
  refine X21 z_ fun F τ Rv h=>?_
  refine tE.of Rv h.bind fun d v F1 H1 g x R1 r=>?_
  cases d with
  |lst ds=>
   simp only[Rep] at r;obtain⟨a,vs,rfl,q,t⟩:=r
   exact .inl ⟨a,rfl,⟨vs,SqL.of (R1.fh _ _ q)⟩,g _ F1 H1 x (J9 (SqL.of q) t)⟩
  |scr ns=>
   simp only[Rep] at r;obtain⟨a,rfl,q⟩:=r
   exact .inl ⟨a,rfl,⟨_,R1.fh.seq q⟩,g _ F1 H1 x (J9 q (Reps.ints ns))⟩
  |tup ds=>
   simp only[Rep] at r;obtain⟨a,vs,rfl,q,t⟩:=r
   exact .inr (.inl ⟨a,rfl,⟨vs,Same.seqT R1.fh q⟩,g _ F1 H1 x (zl6 q t)⟩)
  |str z=>simp only[Rep] at r;exact .inr (.inr ⟨z,r,g _ F1 H1 x zl7⟩)
  |_=>exact g.elim
end
noncomputable def DefOk(P:Program)(w:World)(K:Frag)(mg:Str→Option Value)(base:Heap)(x:Str)(k n:Nat)(ps:List Str)(g:List D→Rs D):Prop:=
 ∃f fd,FnOk P w K mg base CX0 k f fd ps (spD K n g)∧Binds K fd ps []∧keepIn K (.ref f)=true∧mg x=some (.ref f)
structure yc(K:Frag)(mg:Str→Option Value)(x:Str)(st:Stmt)(f:Addr)(fd:FuncData):Prop where
 fn:Fun K x x st f fd
 at_:mg x=some (.ref f)
section
variable{P:Program}{w:World}{K:Frag}{mg:Str→Option Value}{base:Heap}
theorem DefOk.mk{x:Str}{st:Stmt}{f:Addr}{fd:FuncData}{N ps:List Str}{k n:Nat}{fb:FS}{g:List D→Rs D}(D:yc K mg x st f fd)(S:zF N ps (zh st))(hn:ps.length=n)
  (hb:∀(kV doc pm:Value) (an:Option Addr) (cdv ct:Value) (us:List Value),us.length=ps.length→bindArgs (fnOf x x (zG st) (zC st) (zh st) .none kV doc pm an cdv ct) ⟨us,[]⟩=pure (ps.zip us))
  (hbody:∀(cdv:Value) (A:Around) (outer:List Env) (s:Shared) (H:Hp) (E:XK),Room k (A.deeper (envOfC x (zh st) s.heap.objs.size f cdv)) →
   vh (v0 CX0 P w K mg base N x (zh st) f cdv A outer s H E).nox (zC st) fb)
  (hg:∀ds d,ds.length=n→g ds=.ok d→wo N.length fb ds=.ok d):DefOk P w K mg base x (k+1) n ps g:=
 ⟨f,fd,FnD.to (fnD D.fn S hn hbody) hg,D.fn.binds hb,D.fn.kp,D.at_⟩
end
section
variable{X:Cx}{pos:Pos}{e tg:Expr}{es:List Expr}{fe:FE}{fs:FA}
theorem zJ{k n:Nat}{ps:List Str}{g:List D→Rs D}{x:Str}{p:Pos}(D:DefOk X.prog X.w X.K X.mg X.base x k n ps g)(hr:Room k X.A)(ha:PDA X (e::es) fs)(hfs:∀τ ds,fs τ=.ok ds→ds.length=(e::es).length)(hn:(e::es).length=n:=by rfl)(hg:Gl X x:=by rfl)(hdb:(x==("__debug__" : Str))=false:=by decide)
  (he:starEach (e::es) X.env=(false,eval e X.env)::starEach es X.env:=by rfl) (hpl:(backTo pos (starEach es X.env)).any (·.1)=false:=by rfl):PDE X (.Call (.Name x p) (e::es) [] pos) (zB g fs):=by
 refine X23 D fun f fd F hb hk hm=>?_
 exact Mi F hr hg hm hk hb ha hn hfs hdb he hpl
end
theorem uv{k:Nat}{A:Around}(r:Room k A):A.units+128<cLine:=by have:=r.un;lia
section
variable{X:Cx}{pos:Pos}{e a b:Expr}{fe fa fb:FE}
end
noncomputable def Jx(K:Frag):Sp:=fun vs H Q _=>∃(a:Addr) (ns:List Int) (F:Hp),vs=[.ref a]∧Same F H∧TbT F H∧SqL K F a (ns.map V.int)∧ns.length≤63∧∀H',Q (.bl true) H'
theorem zk8{P:Program}{w:World}{K:Frag}{mg:Str→Option Value}{base:Heap}{k:Nat}{g:List D→Rs D}{p:Str}{f:Addr}{fd:FuncData}(F:FnOk P w K mg base CX0 k f fd [p] (spD K 1 g))(h:∀ns:List Int,ns.length≤63→g [.scr ns]=.ok (.bl true)) :
  FnOk P w K mg base CX0 k f fd [p] (Jx K):=by
 refine F.imp fun vs H Q E z_=>?_
 refine X35 z_ fun a ns Fz e fh tt hS h63 q=>?_
 subst e
 refine⟨rfl,[.scr ns],Fz,fh,tt,Reps.cons (by simp only[Rep];exact Y11 a rfl hS) Reps.nil,?_⟩
 rw[h ns h63]
 intro v F' H' _ r
 simp only[Rep] at r
 subst r
 exact q H'
section
variable{X:Cx}{pos:Pos}{e tg:Expr}{es:List Expr}{fe:FE}{fs:FA}
noncomputable def bl1:List D→Option Bool
 |[.bl b]=>some b
 |_=>none
theorem zn2{ds:List D}{b:Bool}(h:bl1 ds=some b):ds=[.bl b]:=by
 unfold bl1 at h;split at h <;> cases h;rfl
noncomputable def intD(ds:List D):Rs D:=match bl1 ds with
 |some b=>.ok (.int (if b then 1 else 0))
 |none=>.no
theorem zb5:XN X (.type "int") intD:=⟨fun vs H Q=>∃b,vs=[.bl b]∧Q (.int (if b then 1 else 0)) H,fun pins s σ H xs us Q I r z_=>by
  refine X11 z_ fun b e q=>?_
  subst e
  obtain⟨u,rfl,ru⟩:=r.one
  cases ru
  exact call_int_bool ⟨.int (if b then 1 else 0),H,I.tok _,⟨_,rfl⟩,q⟩,fun F H vs ds Q fh r h=>by
  unfold intD at h
  cases q1:bl1 ds with
  |none=>rw[q1] at h;exact h.elim
  |some b=>
   rw[q1] at h
   have e:=zn2 q1
   subst e
   obtain⟨v,rfl,q⟩:=r.one
   simp only[Rep] at q;subst q
   exact⟨b,rfl,h _ F H (Ext.refl fh) (by simp only[Rep])⟩⟩
theorem GP{K:Frag}{F:Hp}(lo:Int)(n:Nat):Reps K F (jR lo n) ((List.range n).map fun (k:Nat)=>V.int (lo+k)):=by
 unfold jR
 generalize List.range n=l
 induction l with
 |nil=>exact Reps.nil
 |cons a r ih=>exact Reps.cons (by simp only[Rep]) ih
theorem Gp{lo:Int}{acc:Array Value}{n:Nat}(h:ItemsOf (fun i v=>∃t,v=Value.int (lo+i*1) t) acc n):Vals ((List.range n).map fun (k:Nat)=>V.int (lo+k)) acc.toList:=by
 obtain⟨hn,hi⟩:=h
 have key:∀(l:List Value) (j:Nat),(∀k v,l[k]?=some v→∃t,v=Value.int (lo+((j+k:Nat):Int)) t)→Vals ((List.range' j l.length).map fun (k:Nat)=>V.int (lo+k)) l:=fun l=>by
  induction l with
  |nil=>intro j _;exact .nil
  |cons a r ih=>
   intro j hj
   rw[length_cons,List.range'_succ,map_cons]
   refine .cons ?_ (ih (j+1) fun k v hv=>?_)
   ·obtain⟨t,rfl⟩:=hj 0 a rfl
    exact⟨t,by simp⟩
   ·obtain⟨t,e⟩:=hj (k+1) v (by simpa using hv)
    exact⟨t,by rw[e];congr 2;lia⟩
 have:=key acc.toList 0 fun k v hv=>by
  obtain⟨t,e⟩:=hi k v (by simpa using hv)
  exact⟨t,by rw[e];simp⟩
 rw[length_toList,hn,← List.range_eq_range'] at this
 exact this
noncomputable def Ud(fi:FA):FA:=fun τ=>(fi τ).bind fun ds=>if ds.length≤16777216 then .ok ds else .no
theorem MI{pins:List (Addr×Obj)}{σ:St}{F H F1 H1:Hp}{s1:Shared}{Q:VK}{lo hi:Int}{t u v:Tok}{tk:Nat}(hc:X.calm=true)(I1:Inv X pins σ H1 s1)(h1 : -(2 ^ 62)≤lo)(h2:lo<2 ^ 62)(h3 : -(2 ^ 62)≤hi)(h4:hi<2 ^ 62)(hz:(jR lo (hi-lo).toNat).length≤16777216)
  (x:Ext F H F1 H1) (q:∀p vs F' H',Ext F H F' H'→H' p=none→Reps X.K F' (jR lo (hi-lo).toNat) vs→Q (.ref p) (upd H' p (.lst vs))) :
  wpAny (model X.prog X.w) X.A (call (.type "list") [.ref s1.heap.objs.size]) (EP X pins σ Q) X.xe { s1 with heap:=s1.heap.push { cls:=.type "range", data:=.fields #[.int lo t,.int hi u,.int 1 v] },toks:=tk }:=by
 have I2:Inv X pins σ H1 { s1 with heap:=s1.heap.push { cls:=.type "range", data:=.fields #[.int lo t,.int hi u,.int 1 v] },toks:=tk }:=I1.kept fun b o e=>get?_push_of_some _ e
 have hl:(jR lo (hi-lo).toNat).length=(hi-lo).toNat:=by simp[jR]
 rw[hl] at hz
 refine call_list_range (n:=(hi-lo).toNat) (I2.ok.hd hc) (IsRange.new ..) (small_one h1 h2 h3 h4) (by rw[rangeSize_one];split <;> lia) (by lia) fun h' tk' acc' c' hk hS' hacc=>?_
 have rel:=Gp hacc
 refine Y22 (.ref _) _ (I2.laid (t':=tk') hk (le_refl _) (o:=.lst ((List.range (hi-lo).toNat).map fun (k:Nat)=>V.int (lo+k))) ⟨by rw[length_map,length_range,sizeLine_eq];exact hz,acc'.toList,c',rel,by simpa using hS'⟩) rfl (q _ _ _ _ x (I2.hok.fresh (le_refl _)) (GP _ _))
theorem Yo{a:Expr}{p p2 pos2:Pos}(hc:X.calm=true)(hl:Gl X "list")(hml:X.mg "list" = none)(hg:Gl X "range")(hm:X.mg "range" = none)(ha:PDA X [a] fs)(hs:starEach [a] X.env=[(false,eval a X.env)]:=by rfl)
  (he:starEach [.Call (.Name "range" p2) [a] [] pos2] X.env=(false,eval (.Call (.Name "range" p2) [a] [] pos2) X.env)::starEach [] X.env:=by rfl) (hpl:(backTo pos (starEach [] X.env)).any (·.1)=false:=by rfl) :
  PDF X (.Call (.Name "list" p) [.Call (.Name "range" p2) [a] [] pos2] [] pos) (Ud (vJ fs)):=by
 rintro pins s σ H Q I ⟨F,τ,R,h⟩
 refine wpAny_Call_Name_kw (uG I hl hml boot_list ?_)
 refine PyProof.Rows.callWith_type1 ?_ he hpl
 rw[he]
 show wpAny _ _ (spliced ((false,eval (.Call (.Name "range" p2) [a] [] pos2) X.env)::backTo pos (starEach [] X.env))) _ _ s
 refine Calls.spliced_cons ?_
 have h:=h.bind
 unfold vJ at h
 have h:=h.bind
 generalize hG:(fun ds=>Ok X (match Ja ds with|some j=>if -(2 ^ 62)≤j∧j<2 ^ 62 then Rs.ok (jR 0 j.toNat) else Rs.no|none=>Rs.no) fun a=>Ok X (if a.length≤16777216 then Rs.ok a else Rs.no) fun ds=>∀(p:Addr) (vs:List V) (F' H':Hp),Ext F H F' H'→H' p=none→Reps X.K F' ds vs→Q (V.ref p) (upd H' p (HO.lst vs)))=G at h
 refine Call_ (uG I hg hm boot_range (PyProof.Rows.callWith_type1 (thn (ha pos2 pins s σ H (fun vs H1=>∃ds F1,G ds∧Ext F H F1 H1∧RV X.K F1 τ σ H1∧Reps X.K F1 ds vs) I (tAs.of R h fun ds vs F1 H1 g x R1 r=>Y23 ds F1 g x R1 r)) fun us s1 z_=>?_) hs rfl))
 refine X22 z_ fun vs H1 I1 r1 r54_=>?_;refine X23 r54_ fun ds F1 g x R1 r=>?_
 subst hG
 rcases q1:Ja ds with _|j
 ·simp only[q1] at g;exact g.elim
 ·simp only[q1] at g
  have e:=Qd q1
  subst e
  obtain⟨v,rfl,q⟩:=r.one
  simp only[Rep] at q;subst q
  obtain⟨z,g⟩:=yZ g
  obtain⟨zl,g⟩:=yZ g
  cases r1 with
  |cons ra rr=>
   cases rr
   obtain⟨t,rfl⟩:=ra
   refine call_range_1 ?_
   refine Calls.spliced_nil ?_
   exact MI hc I1 (by decide) (by decide) z.1 z.2 (by rw[Int.sub_zero];exact zl) x (by rw[Int.sub_zero];exact g)
end
section
open PySem.SeqAt
open PySem.AutoSeq1 (wpAny_loadPart')
open PySem.MeetsSeq PySem.MeetsSeq2 PySem.MeetsSeq3
end
section
variable{X:Cx}
end
section
variable{X:Cx}
end
section
variable{rest:List Expr}{env:Env}
theorem xD{a b c}:starEach (.Constant a b c::rest) env=(false,eval (.Constant a b c) env)::starEach rest env:=rfl
end
noncomputable def Itn(K:Frag)(l:Addr):It:=
 ⟨fun k H=>∃vs,SqL K H l vs∧k<vs.length,
  fun k H y H'=>∃p v,H p=none∧(∀vs,SqL K H l vs→vs[k]?=some v)∧y=.ref p∧H'=upd H p (.tup [.int k,v]),
  fun k H=>∃vs,SqL K H l vs∧vs.length≤k⟩
theorem Qw{P:Program}{w:World}{K:Frag}{elts:List Expr}{x1}{pos:Pos}{e it l:Addr}(D:e≠it) :
  Vt P w K (.Tuple elts x1 pos) (Itn K l) [e,it] e (fun k h=>(∃old,IsEnum h e it (k:Nat) old)∧h.IsListIter it l k) where
 mem:=by simp
 obj:=fun k h ⟨⟨old,h1⟩,⟨o5,e5,c5,d5⟩⟩ b hb=>by
  simp at hb
  rcases hb with rfl|rfl
  ·exact Y11 _ h1 (fun v z=>by nomatch z)
  ·exact Y11 _ e5 (fun v z=>by rw[d5] at z;nomatch z)
 keep:=fun k h h' ⟨⟨old,h1⟩,h5⟩ hk=>⟨⟨old,hk e (by simp) _ h1⟩,h5.at fun o q=>hk it (by simp) o q⟩
 item:=by
  rintro X hP hw hK hc k pins s σ H E I hf ⟨⟨old,h1⟩,h5⟩ hg
  subst hP hw hK
  refine X11 hg fun vs hq l2=>?_
  refine X12 (I.list hq) fun its rv p hz=>?_
  have hlen:=rv.length
  have hvk:vs[k]?=some vs[k]:=by simp[l2]
  refine X11 (rv.get hvk) fun u2 eu ru=>?_
  refine wpAny_pyNext_enum_item (x:=u2) h1 h5 p.isList (by simpa using eu) D fun h' q1 q2 q3 q4 q5=>?_
  have np:s.heap.objs.size≠e:=ne_of_gt (Heap.lt_size h1)
  refine Y11 _ rfl (wpAny_letOwnedTupleGo_enum (s:={ s with heap:=h',toks:=s.toks+1 }) q1 fun h'' z1 sb=>?_)
  refine⟨.ref s.heap.objs.size,upd H s.heap.objs.size (.tup [.int k,vs[k]]),?_,rfl,⟨_,vs[k],I.hok.fresh (le_refl _),fun ws hw=>by rw[I.list_inj hw hq];exact hvk,rfl,rfl⟩,⟨⟨_,by simpa using z1⟩,?_⟩,fun b hb=>?_⟩
  ·refine(TF (s:=s) (h':=h'') (t':=s.toks+1) (xs:=[.int k,vs[k]]) (ch:=[e,it]) I (fun b o hb q=>?_) hf (le_refl _) ⟨_,sb.extBut _ _ np q3,rfl,_,rfl⟩ (.cons ⟨_,rfl⟩ (.cons ru .nil)) (by show 2≤sizeLine;decide):Inv X pins σ _ { s with heap:=h'',toks:=s.toks+1 })
   simp at hb
   exact sb.extBut _ _ hb.1 (q5 b o hb.1 hb.2 q)
  ·refine X11 q2 fun o q r=>?_
   exact Y11 o (sb.extBut _ _ (Ne.symm D) q) r
  ·have lt:b<s.heap.objs.size:=by
    simp at hb
    rcases hb with rfl|rfl
    ·exact Heap.lt_size h1
    ·refine X11 h5 fun o q r=>?_
     exact Heap.lt_size q
   rw[zp (ne_of_lt lt)]
   exact(hf b hb).1
 done:=by
  rintro X hP hw hK hc k pins s σ H E I hf ⟨⟨old,h1⟩,h5⟩ hg
  subst hP hw hK
  refine X11 hg fun vs hq hend=>?_
  refine X12 (I.list hq) fun its rv p hz=>?_
  have hlen:=rv.length
  refine X05 (hf it (by simp)) fun f0 f1 f2 f3 f4 f5=>?_
  exact wpAny_pyNext_enum_end (I.ok.hd hc) h1 h5 p.isList (by simp;lia) fun h' eb=>⟨rfl,I.turned (t':=s.toks) (fun b o hb q=>eb b o hb q) f0 f1 f3 f4 f5⟩
 self:=fun _ _ _ _ _ ⟨⟨_,h1⟩,_⟩ h=>wpAny_pyIter_enum h1 h
section
variable{X:Cx}{pos:Pos}{e a b:Expr}{es:List Expr}{fe fa fb:FE}{fs:FA}
noncomputable def zm3(K:Frag)(ta:TA):TI:=fun σ H R=>ta σ H fun vs H1=>∃l ws,vs=[.ref l]∧SqL K H1 l ws∧R (Itn K l) H1
theorem Lj{ta:TA}{p:Pos}{elts:List Expr}{x1}{tpos:Pos}(hg:Gl X "enumerate")(hm:X.mg "enumerate" = none)(ha:PA X [a] ta)(hs:starEach [a] X.env=[(false,eval a X.env)]:=by rfl) :
  PI X (.Tuple elts x1 tpos) (.Call (.Name "enumerate" p) [a] [] pos) (zm3 X.K ta):=by
 intro pins s σ H R I h
 refine Call_ (uG I hg hm boot_enumerate (PyProof.Rows.callWith_type1 (thn (ha pos pins s σ H _ I h) fun us s1 z_=>?_) (by rw[hs];rfl) rfl))
 refine X22 z_ fun vs H1 I1 r1 q1=>?_
 refine X22 q1 fun l ws e hq q=>?_
 subst e
 obtain⟨u1,rfl,ru⟩:=vals1 r1
 cases ru
 refine X12 (I1.list hq) fun its rr pp hz=>?_
 refine call_enumerate_list pp.isList fun h' g1 g2 g3 g4=>?_
 have I5:Inv X pins σ H1 { s1 with heap:=h' }:=I1.kept (t':=s1.toks) g4
 refine wpAny_pyIter_enum (s:={ s1 with heap:=h' }) g1 ?_
 refine Y55 (s1.heap.objs.size+1) [s1.heap.objs.size+1,s1.heap.objs.size] _ _ H1 rfl I5 (Qw (l:=l) (by show(_:Nat)≠_;lia)) ⟨⟨_,g1⟩,g2⟩ (fun b hb=>?_) q
 have hb':s1.heap.objs.size≤b:=by
  simp at hb
  rcases hb with rfl|rfl <;> (show s1.heap.objs.size≤(_:Nat);lia)
 refine X05 (I1.fpOk (H':=H1) hb' (I1.hok.fresh hb')) fun f0 f1 f2 f3 f4 f5=>?_
 exact⟨f0,f1,f2,f3,f4,f5⟩
noncomputable def xi(n:Nat):List D→List D
 |[]=>[]
 |d::r=>.tup [.int n,d]::xi (n+1) r
theorem Zt:∀(ds:List D) (n:Nat),(xi n ds).length=ds.length:=by
 intro l_
 induction l_ with
 |nil=>
  rintro _
  exact rfl
 |cons _ r ih_=>
  rintro n
  simp[xi,ih_]
theorem Zu:∀{ds:List D} {n i:Nat} {p:D},(xi n ds)[i]?=some p→∃d,ds[i]?=some d∧p=.tup [.int ((n+i:Nat):Int),d]
 |[],_,_,_,h=>by simp[xi] at h
 |d::ds,n,0,p,h=>by simp[xi] at h;exact Y11 d rfl (by simpa using h.symm)
 |d::ds,n,i+1,p,h=>by
  refine X11 (Zu (n:=n+1) (i:=i) (by simpa[xi] using h)) fun d' h2 h3=>?_
  exact Y11 d' (by simpa using h2) (by rw[h3];congr 3;show((n+1+i:Nat):Int)=_;congr 1;lia)
theorem L7{K:Frag}{F1:Hp}{l:Addr}{ds:List D}{vs:List V}(e:SqL K F1 l vs)(r:Reps K F1 ds vs):Jm K (Itn K l) F1 (xi 0 ds):=fun i F H f1 f2=>by
 have q:SqL K H l vs:=(f1.trans f2).seq e
 have hl:=Zt ds 0
 have hr:=r.length
 refine⟨fun h=>Y11 vs q (by lia),fun p hp=>?_⟩
 obtain⟨d,h2,rfl⟩:=Zu hp
 have l2:i<vs.length:=by have:=(List.getElem?_eq_some_iff.mp h2).1;lia
 refine⟨⟨vs,q,l2⟩,fun y H' yy=>?_⟩
 obtain⟨pa,v,hp,q',rfl,rfl⟩:=yy
 refine Y11 (upd F pa (.tup [.int i,v])) (Ext.new f2 hp) ?_
 simp only[Rep]
 refine Y22 pa _ rfl (SqT.of zr) (Reps.cons (by simp only[Rep,zero_add]) (Reps.cons ?_ Reps.nil))
 refine X11 (r.get h2) fun v' hv' rv'=>?_
 have e3:=q' vs q
 rw[hv'] at e3;replace e3:=sJ_ e3;subst e3
 exact(rv'.mono f1).mono (yk (zO f2 hp))
noncomputable def LO:List D→Option (List D)
 |[.lst ds]=>some ds
 |_=>none
theorem LN{ds xs:List D}(h:LO ds=some xs):ds=[.lst xs]:=by
 unfold LO at h;split at h <;> cases h;rfl
noncomputable def iEn(fs:FA):FA:=fun τ=>(fs τ).bind fun ds=>match LO ds with
 |some xs=>.ok (xi 0 xs)
 |none=>.no
theorem VZ{p:Pos}{elts:List Expr}{x1}{tpos:Pos}(hg:Gl X "enumerate")(hm:X.mg "enumerate" = none)(ha:PDA X [a] fs)(hs:starEach [a] X.env=[(false,eval a X.env)]:=by rfl) :
  PDI X (.Tuple elts x1 tpos) (.Call (.Name "enumerate" p) [a] [] pos) (iEn fs):=
 PI.imp (Lj hg hm ha hs) fun σ H R z_=>by
  refine X21 z_ fun F τ Rv h=>?_
  refine tAs.of Rv h.bind fun ds vs F1 H1 g x R1 r=>?_
  rcases q1:LO ds with _|xs
  ·rw[q1] at g;exact g.elim
  ·rw[q1] at g
   have e:=LN q1
   subst e
   obtain⟨v,rfl,r1⟩:=r.one
   simp only[Rep] at r1
   obtain⟨l,ws,rfl,e1,t⟩:=r1
   exact Y22 l ws rfl (SqL.of (R1.fh _ _ e1)) (g _ F1 H1 x (L7 (SqL.of e1) t))
end
theorem obj_there{P:Program}{w:World}{H:Hp}{h:Heap}{a:Addr}{o:HO}(x:ObjOk P w H h a o):∃ob,h.get? a=some ob:=by
 cases o with
 |lst xs=>refine X01 x fun _ r53_=>?_;refine X21 r53_ fun _ _ _ e=>?_;exact⟨_,e⟩
 |tup xs=>refine X01 x fun _ r51_=>?_;refine X11 r51_ fun _ _ r52_=>?_;refine X11 r52_ fun ob e _=>?_;exact⟨_,e⟩
 |dK kvs=>refine X02 x fun _ _ r49_=>?_;refine X11 r49_ fun _ _ r50_=>?_;refine X31 r50_ fun o _ _ e _=>?_;exact⟨_,e⟩
 |dT kvs=>refine X02 x fun _ _ r47_=>?_;refine X11 r47_ fun _ _ r48_=>?_;refine X31 r48_ fun o _ _ e _=>?_;exact⟨_,e⟩
 |set S n=>refine X41 x fun o _ _ _ e _=>?_;exact⟨_,e⟩
 |ins C dx fs=>refine X04 x fun _ _ _ e _=>?_;exact⟨_,e⟩
 |own y=>exact x
 |xd fs=>obtain⟨_,⟨_,_,_,e,_⟩,_⟩:=x;exact⟨_,e⟩
 |rng lo hi=>refine X30 x fun _ _ _ e=>?_;exact⟨_,e⟩
 |frz ob u=>obtain⟨e,_⟩:=x;exact⟨_,e⟩
 |tbl ps=>exact⟨_,(show h.get? a=some _ from x)⟩
 |met f y=>exact⟨_,(show h.get? a=some _ from x)⟩
 |ext φ=>refine X02 x fun _ q _=>?_;exact q
section
variable{X:Cx}{pins:List (Addr×Obj)}{σ:St}{H:Hp}{s:Shared}{h':Heap}
theorem Vi(I:Inv X pins σ H s){b:Addr}(e:s.heap.get? b=none):H b=none:=by
 rcases q:H b with _|o
 ·rfl
 ·obtain⟨ob,z⟩:=obj_there (I.hok b o q);rw[e] at z;nomatch z
theorem XB(I:Inv X pins σ H s)(hx:X.ex=[]){b:Addr}(e:s.heap.get? b=none):X.s₀.heap.get? b=none:=by
 rcases q:X.s₀.heap.get? b with _|o
 ·rfl
 ·obtain⟨ob,z⟩:=I.base.there b o q (by rw[hx];simp);rw[e] at z;nomatch z
theorem Xd(I:Inv X pins σ H s)(hx:X.ex=[]){b:Addr}(e:s.heap.get? b=none):Nw X H b:=
 ⟨Vi I e,XB I hx e,fun p hp z=>by
  have:=(I.pin p (mem_append_left _ hp)).1
  rw[z,e] at this;nomatch this⟩
theorem Qg(I:Inv X pins σ H s){b:Addr}(hb:b∈X.fs):H b=none:=by
 refine X01 (I.ok.funs.mem hb) fun _ r46_=>?_;refine X11 r46_ fun o ho _=>?_
 exact I.base.free b o ho (I.ok.frf b hb) fun z=>I.ok.exfs b z hb
theorem zc7{ch:List Addr}{t':Nat}(I:Inv X pins σ H s)(hx:X.ex=[])(hch:∀b∈ch,X.s₀.heap.get? b=none∧H b=none∧b≠X.env.locals∧b∉X.fs∧(∀x c,X.env.cells.lookup x=some c→c≠b)∧∀p∈X.pn++pins,p.1≠b)
  (keep:∀b o,b≠X.env.locals→b∉X.fs→b∉ch→s.heap.get? b=some o→h'.get? b=some o)
  (slot:∀b o,(b=X.env.locals∨b∈X.fs)→s.heap.get? b=some o→∃sl,h'.get? b=some { o with slots:=sl }):Inv X pins σ H { s with heap:=h',toks:=t' }:=by
 let X':Cx:={ X with ex:=ch }
 have ok':X'.Ok:=⟨I.ok.mod,I.ok.kind,I.ok.glob,I.ok.blt,I.ok.above,I.ok.inj,I.ok.has,I.ok.cab,I.ok.hd,I.ok.frames,I.ok.stk,fun b hb=>⟨(hch b hb).2.2.1,(hch b hb).2.2.2.2.1⟩,I.ok.bs,I.ok.bsz,(fun b o e hb=>nomatch (hch b hb).1.symm.trans (I.ok.bs b o e).1),fun b hb=>(hch b hb).2.2.2.1,I.ok.funs,I.ok.frf⟩
 have hx':∀b:Addr,b∉X.ex:=fun b=>by rw[hx];simp
 have I':Inv X' pins σ H s:=⟨ok',I.os,I.bare,⟨fun b o e n h1 _=>I.base.keep b o e n h1 (hx' b),fun b o e n h1 _=>I.base.slot b o e n h1 (hx' b),fun b o e n _=>I.base.free b o e n (hx' b),fun b o e _=>I.base.there b o e (hx' b),I.base.tups,I.base.frzs,I.base.tbls⟩,
  I.loc,I.cell,I.free,I.freeC,I.pin,I.hok,I.len⟩
 have hok:HOk X.prog X.w H h':=fun b u e=>(I.hok b u e).stay (fun c v hc q=>keep c v (fun z=>?_) (fun z=>?_) (fun z=>?_) q) (fun _ q=>q) fun _ _ q=>q
 have J:=I'.step (g':=s.gens) (d':=s.drawn) (t':=t') (h':=h') (H':=H) (ch:=ch) (fun b hb=>⟨.inl hb,(hch b hb).2.2.1,(hch b hb).2.2.2.2.1,(hch b hb).2.2.2.2.2⟩) (fun b o h1 h2 h3 e _=>keep b o h1 h2 h3 e) (fun b o _ h2 _ e _=>slot b o (.inr h2) e) (fun _ _ _ _ n=>n)
  (fun b o h3 e=>?_) (fun _ _ e=>e) (fun _ _ _ e=>e) (fun b ps e=>⟨#[],by rw[e];simp⟩) (fun m ⟨o,es,ep,ho,r⟩=>?_) hok I.bare
 ·have nch:∀b o,X.s₀.heap.get? b=some o→b∉ch:=fun b o e hb=>by rw[(hch b hb).1] at e;nomatch e
  exact⟨I.ok,J.os,J.bare,⟨fun b o e n h1 _=>J.base.keep b o e n h1 (nch b o e),fun b o e n h1 _=>J.base.slot b o e n h1 (nch b o e),fun b o e n _=>J.base.free b o e n (nch b o e),fun b o e _=>J.base.there b o e (nch b o e),J.base.tups,J.base.frzs,J.base.tbls⟩,
   J.loc,J.cell,J.free,J.freeC,J.pin,J.hok,J.len⟩
 ·by_cases h1:b=X.env.locals∨b∈X.fs
  ·obtain⟨sl,q⟩:=slot b o h1 e;exact⟨_,q⟩
  ·exact⟨o,keep b o (fun z=>h1 (.inl z)) (fun z=>h1 (.inr z)) h3 e⟩
 ·obtain⟨sl,q⟩:=slot _ o (.inl rfl) ho
  exact Y31 _ es ep q r
 all_goals
  rcases hc with hc|hc
  ·subst hc
   first
    | (subst z;rw[I.free] at e;nomatch e)
    | (rw[Qg I z] at e;nomatch e)
    | (rw[(hch _ z).2.1] at e;nomatch e)
  ·first
    | (subst z;rw[I.free] at hc;nomatch hc)
    | (rw[Qg I z] at hc;nomatch hc)
    | (rw[(hch _ z).2.1] at hc;nomatch hc)
structure Fst(X:Cx):Prop where
 ex:X.ex=[]
 stk:X.stack=X.env::X.outer
 fr:X.env.frame=some X.env.locals
theorem Fst.mem{X:Cx}(D:Fst X){b:Addr}:b∈frs X.stack↔b=X.env.locals∨b∈X.fs:=by
 rw[D.stk]
 unfold frs
 rw[filterMap_cons,D.fr]
 show b∈X.env.locals::_↔_
 rw[mem_cons];exact Iff.rfl
theorem Qp(D:Fst X)(I:Inv X pins σ H s){b:Addr}{o:Obj}{vs:Array Value}(n:Nw X H b)(hp:∀p∈pins,p.1≠b)(e:s.heap.get? b=some o)(d:o.data=.fields vs) :
  X.s₀.heap.get? b=none∧H b=none∧b≠X.env.locals∧b∉X.fs∧(∀x c,X.env.cells.lookup x=some c→c≠b)∧∀p∈X.pn++pins,p.1≠b:=by
 refine⟨n.2.1,n.1,fun z=>?_,fun z=>?_,fun x c hc z=>?_,fun p hp'=>(mem_append.mp hp').elim (n.2.2 p) (hp p)⟩
 ·obtain⟨m,⟨o',es,ep,ho',hd',_⟩,_⟩:=I.loc
  rw[z,ho'] at e;replace e:=sJ_ e;subst e;rw[hd'] at d;nomatch d
 ·refine X01 (I.stack.mem (show b∈frs X.stack from D.mem.mpr (.inr z))) fun _ r45_=>?_;refine X11 r45_ fun o' ho' hd'=>?_
  rw[ho'] at e;replace e:=sJ_ e;subst e;exact hd' _ d
 ·refine X21 (I.cell x c hc) fun v o' ho' hd'=>?_
  rw[z,e] at ho';replace ho':=sI_ ho';subst ho';rw[d] at hd';nomatch hd'
theorem j8{l:List Addr}{h h1:Heap}(so:Heap.SlotsOnly l h h1){b:Addr}{o:Obj}(hb:b∉l)(e:h.get? b=some o):h1.get? b=some o:=(so.2.1 b hb).trans e
end
section
variable{X:Cx}{pins:List (Addr×Obj)}{σ:St}{H:Hp}{s:Shared}{h':Heap}{a:Addr}{cls:Value}
noncomputable def TrAt(X:Cx)(H:Hp)(h:Heap)(a:Addr)(cls fl:Value):Prop:=Nw X H a∧∃oe vs T oT ts,h.get? a=some oe∧oe.cls=cls∧oe.dict=none∧oe.data=.fields vs ∧
 vs[1]?=some (.ref T)∧Nw X H T∧T≠a∧h.get? T=some oT∧oT.data=.fields ts∧ts[3]?=some fl∧vs[2]?=some .none
theorem TrAt.exc{h:Heap}(x:TrAt X H h a cls .none):UF X H h a cls:=by
 refine X01 x fun n r44_=>?_;refine X59 r44_ fun oe vs T oT ts e1 e2 e0 e3 e4 e5 e6 e7 e8 e9=>?_
 exact⟨n,oe,vs,e1,e2,e0,e3,.inr ⟨T,oT,ts,e4,e5,e6,e7,e8,e9.1⟩,e9.2⟩
theorem Tg(o:Obj)(f:Array Value→Array Value):(Obj.mapFields f o).dict=o.dict:=by
 unfold Obj.mapFields;split <;> rfl
theorem ue{vs:Array Value}{i:Nat}{v:Value}(h:vs[i]?=some v):i<vs.size:=by
 rcases lt_or_ge i vs.size with z|z
 ·exact z
 ·rw[Array.getElem?_eq_none z] at h;nomatch h
variable{M:Model}{A:Around}{E:Value→Shared→Prop}{Q:Unit→Shared→Prop}
theorem np(b:Addr):∀p∈([]:List (Addr×Obj)),p.1≠b:=fun p hp=>nomatch hp
theorem Gn{b:Addr}{o:Obj}{vs:Array Value}(f:Array Value→Array Value)(D:Fst X)(I:Inv X [] σ H s)(n:Nw X H b)(e:s.heap.get? b=some o)(d:o.data=.fields vs):Inv X [] σ H { s with heap:=s.heap.update b (Obj.mapFields f) }:=by
 refine zc7 (ch:=[b]) (t':=s.toks) I D.ex (fun c hc=>?_) (fun c u h1 h2 h3 q=>?_) fun c u hc q=>⟨u.slots,?_⟩
 ·have:c=b:=by simpa using hc
  subst this
  exact Qp D I n (np c) e d
 ·rw[Heap.get?_update_other _ _ (fun z=>h3 (by simp[z]))];exact q
 ·have:=Qp D I n (np b) e d
  rw[Heap.get?_update_other _ _ (fun z=>?_)]
  ·exact q
  ·subst z
   rcases hc with hc|hc
   ·exact this.2.2.1 hc
   ·exact this.2.2.2.1 hc
theorem Wz{h:Heap}{b:Addr}{o:Obj}{vs:Array Value}{f:Array Value→Array Value}(e:h.get? b=some o)(d:o.data=.fields vs):(h.update b (Obj.mapFields f)).get? b=some (Obj.mapFields f o):=
 Heap.get?_update_self _ e (Obj.isFreed_of_fields (Obj.data_mapFields d f))
theorem Z2{fl:Value}(D:Fst X)(I:Inv X [] σ H s)(x:TrAt X H s.heap a cls fl)(k:∀h',Inv X [] σ H { s with heap:=h' }→TrAt X H h' a cls .none→Q () { s with heap:=h' }):wpAny M A (setFlight (.ref a) none) Q E s:=by
 refine X01 x fun na r43_=>?_;refine X59 r43_ fun oe vs T oT ts e1 e2 e0 e3 e4 nT ne eT dT e9=>?_
 refine wpAny_setFlight_none e1 e3 e4 eT dT (ue e9.1) ?_
 refine k _ (Gn _ D I nT eT dT) ⟨na,oe,vs,T,_,_,?_,e2,e0,e3,e4,nT,ne,Wz eT dT,Obj.data_mapFields dT _,?_,e9.2⟩
 ·rw[Heap.get?_update_other _ _ ne];exact e1
 ·simp[Array.getElem?_setIfInBounds,ue e9.1]
theorem Uy{oe:Obj}{vs:Array Value}{head:Value}{hn:Bool}(hA:A.frames=some X.stack)(D:Fst X)(I:Inv X [] σ H s)(na:Nw X H a)(e1:s.heap.get? a=some oe)(e2:oe.cls=cls)(e0:oe.dict=none)(e3:oe.data=.fields vs)(hv:1<vs.size)(hv2:vs[2]?=some .none)
  (k:∀h',Inv X [] σ H { s with heap:=h' }→TrAt X H h' a cls (rawInt X.env.locals)→Q () { s with heap:=h' }) :
  wpAny M A (do
   let f ← PySem.frameOf X.env
   let pl ← entryPlaceOf X.env.locals hn
   let b ← EntryCells.newEntry head f Value.none (rawInt X.env.locals) Value.none pl
   setField (.ref a) 1 b) Q E s:=by
 refine wpAny_bind (wpAny_frameOf_fun (base:=X.base) (outer:=X.outer) (by rw[← D.stk];exact hA) (by rw[← D.stk];exact I.stack) D.fr fun h1 so=>?_)
 have ca:=Qp D I na (np a) e1 e3
 have nf:a∉frs X.stack:=fun z=>(D.mem.mp z).elim ca.2.2.1 ca.2.2.2.1
 have so':Heap.SlotsOnly (frs X.stack) s.heap h1:=by rw[D.stk];exact so
 have I1:Inv X [] σ H { s with heap:=h1 }:=zc7 (ch:=[]) (t':=s.toks) I D.ex (fun c hc=>nomatch hc) (fun c u z1 z2 _ q=>j8 so' (fun z=>(D.mem.mp z).elim z1 z2) q) fun c u _ q=>so'.2.2 c u q
 have f1:h1.get? a=some oe:=j8 so' nf e1
 refine wpAny_bind (wpAny_entryPlaceOf fun pl hp=>wpAny_bind ?_)
 unfold EntryCells.newEntry newFields
 refine wpAny_newObj_type ?_ (hp.sizeOk5 _ _ _ _ _)
 have I2:=I1.kept (t':=s.toks) (h':=h1.push { cls:=Value.type "traceback", data:=Data.fields ([head,.ref X.env.locals,Value.none,rawInt X.env.locals,Value.none]++if pl.isEmpty=true then List.replicate 6 Value.none else pl).toArray }) fun b u e=>get?_push_of_some _ e
 have f2:=get?_push_of_some { cls:=Value.type "traceback", data:=Data.fields ([head,.ref X.env.locals,Value.none,rawInt X.env.locals,Value.none]++if pl.isEmpty=true then List.replicate 6 Value.none else pl).toArray } f1
 have nT:Nw X H h1.objs.size:=Xd I1 D.ex (by
  cases q:h1.get? h1.objs.size with
  |none=>rfl
  |some u=>exact absurd (Heap.lt_size q) (lt_irrefl _))
 have ne:h1.objs.size≠a:=ne_of_gt (Heap.lt_size f1)
 refine wpAny_setField f2 e3 hv ?_
 refine k _ (Gn _ D I2 na f2 e3) ⟨na,_,_,h1.objs.size,{ cls:=Value.type "traceback", data:=Data.fields ([head,.ref X.env.locals,Value.none,rawInt X.env.locals,Value.none]++if pl.isEmpty=true then List.replicate 6 Value.none else pl).toArray },_,Wz f2 e3,(Obj.cls_mapFields _ _).trans e2,(Tg _ _).trans e0,Obj.data_mapFields e3 _,?_,nT,ne,?_,rfl,?_,?_⟩
 ·simp[Array.getElem?_setIfInBounds,hv]
 ·rw[Heap.get?_update_other _ _ (Ne.symm ne)];exact Heap.get?_push_size _ rfl
 ·simp
 ·simpa[Array.getElem?_setIfInBounds] using hv2
theorem JU(hA:A.frames=some X.stack)(D:Fst X)(I:Inv X [] σ H s)(x:UF X H s.heap a cls)
  (k:∀h',Inv X [] σ H { s with heap:=h' }→TrAt X H h' a cls (rawInt X.env.locals)→Q () { s with heap:=h' }):wpAny M A (noteFrame (.ref a) X.env) Q E s:=by
 refine X01 x fun na r42_=>?_;refine X25 r42_ fun oe vs e1 e2 e0 e3 alt v2=>?_
 unfold noteFrame
 rw[D.fr]
 rcases alt with e4|⟨T,oT,ts,e4,nT,ne,eT,dT,e9⟩
 ·refine wpAny_bind (wpAny_field e1 e3 e4 ?_)
  exact Uy (hn:=false) hA D I na e1 e2 e0 e3 (ue e4) v2 k
 ·refine wpAny_bind (wpAny_field e1 e3 e4 ?_)
  refine wpAny_bind (wpAny_field eT dT e9 ?_)
  refine wpAny_bind (wpAny_setField eT dT (ue e9) ?_)
  have I1:=Gn (fun v=>v.setIfInBounds 3 Value.none) D I nT eT dT
  exact Uy (hn:=true) (s:={ s with heap:=s.heap.update T (Obj.mapFields fun v=>v.setIfInBounds 3 Value.none) }) hA D I1 na (by rw[Heap.get?_update_other _ _ ne];exact e1) e2 e0 e3 (ue e4) v2 k
theorem MN(hA:A.frames=some X.stack)(D:Fst X)(I:Inv X [] σ H s)(x:UF X H s.heap a cls)
  (k:∀h',Inv X [] σ H { s with heap:=h' }→TrAt X H h' a cls .none→Q () { s with heap:=h' }):wpAny M A (leaving X.env (.ref a)) Q E s:=by
 unfold leaving
 refine wpAny_bind (JU hA D I x fun h1 I1 x1=>?_)
 exact Z2 (s:={ s with heap:=h1 }) D I1 x1 fun h2 I2 x2=>k h2 I2 x2
noncomputable def CXD(P:Program)(w:World):CXT:=fun outer H s E e s'=>∃a cls H',e=.ref a∧s'.os=s.os∧AllBare s'.gens∧Un (frs outer) [] H H' s.heap s'.heap∧HOk P w H' s'.heap ∧
 (∃oe vs T oT ts,s'.heap.get? a=some oe∧oe.cls=cls∧oe.dict=none∧oe.data=.fields vs∧vs[1]?=some (.ref T)∧T≠a∧s'.heap.get? T=some oT∧oT.data=.fields ts∧ts[3]?=some .none ∧
  H' a=none∧s.heap.get? a=none∧H' T=none∧s.heap.get? T=none∧vs[2]?=some .none)∧E cls none H'
noncomputable def XV(X:Cx)(σ:St):XK:=fun cls _ H=>∀s a,Inv X [] σ H s→UF X H s.heap a cls→X.xe (.ref a) s
theorem XA.xv{c:Str}(h:XA X c σ H){cls:Value}(e:nsIn X.K mainGlobals c=some (some cls)):XV X σ cls none H:=fun s a I x=>h s a cls e I x
theorem Inv.nil(I:Inv X pins σ H s):Inv X [] σ H s:=⟨I.ok,I.os,I.bare,I.base,I.loc,I.cell,I.free,I.freeC,fun p hp=>I.pin p (mem_append_left _ (by simpa using hp)),I.hok,I.len⟩
theorem Tv(hx:X.ex=[])(I:Inv X pins σ H s){E:XK}{e:Value}{s':Shared}(h:CXD X.prog X.w X.stack H s E e s'):∃a cls H',e=.ref a∧Inv X pins σ H' s'∧TrAt X H' s'.heap a cls .none∧(∀p∈pins,p.1≠a)∧E cls none H':=by
 obtain⟨a,cls,H',rfl,os,bare,un,hok,⟨oe,vs,T,oT,ts,e1,e2,e0,e3,e4,e5,e6,e7,e8,z1,z2,z3,z4,z5⟩,q⟩:=h
 obtain⟨hh,g,d,t,os'⟩:=s'
 obtain rfl:os'=s.os:=os
 have n1:∀{b:Addr},s.heap.get? b=none→H' b=none→Nw X H' b:=fun {b} z n=>⟨n,XB I hx z,fun p hp y=>by
  have:=(I.pin p (mem_append_left _ hp)).1
  rw[y,z] at this;nomatch this⟩
 refine Y34 a cls H' rfl (I.call (h':=hh) (g':=g) (d':=d) (t':=t) (ch:=[]) un hok bare (fun b z=>absurd z (by simp))) ⟨n1 z2 z1,oe,vs,T,oT,ts,e1,e2,e0,e3,e4,n1 z4 z3,e5,e6,e7,e8,z5⟩ (fun p hp y=>?_) q
 have:=(I.pin p (mem_append_right _ hp)).1
 rw[y,z2] at this;nomatch this
theorem passX(hx:X.ex=[]){σ:St}(H:Hp)(s:Shared)(I:Inv X pins σ H s){e:Value}{s':Shared}(h:CXD X.prog X.w X.stack H s (XV X σ) e s'):X.xe e s':=by
 obtain⟨a,cls,H',rfl,J,x,_,q⟩:=Tv hx I h
 exact q s' a (Inv.nil J) x.exc
end
section
variable{P:Program}{w:World}{K:Frag}{mg:Str→Option Value}{base:Heap}
end
abbrev VE:List Value:=[Value.type "ValueError", Value.type "Exception", Value.type "BaseException", Value.type "object"]
theorem Ge{K:Frag}{h:Heap}{C:Addr}{bmB:List Value}{newId:String}(KX:K.In h)(e:excIn K C bmB newId=true):∃bm N nm q bs hdct sn sub ab col dd k0 k1 k2 k3 k5 mN,
  h.get? C=some (excClassObj nm q C N bs bm hdct sn sub ab col dd k0 k1 k2 k3 k5 newId)∧h.Ns N mN∧mN (Str.ofString "__init__")=none∧OwnTail h bmB bm:=by
 unfold excIn at e
 split at e
 ·rename_i dict cd sl hl
  split at e
  ·rename_i C' bm k0 k1 k2 k3 n k5 hm hs
   simp only[Bool.and_eq_true,beq_iff_eq] at e
   obtain⟨⟨⟨⟨⟨e1,e2⟩,e3⟩,e4⟩,e5⟩,e6⟩:=e
   subst e1;subst e2
   have obj:=KX _ _ hl
   have hsl:sl = #[k0,k1,k2,k3,some (Value.builtin n),k5]:=by
    apply Array.toList_inj.mp
    rw[hs]
   obtain⟨nm,bs,mro,ns,q,hdct,sn,sub,ab,col,hdel⟩:=cd
   simp only at hm e3 e5 e6
   have e3:hdel=false:=by simpa using e3
   subst e3 hm hsl
   exact⟨bm,ns,nm,q,bs,hdct,sn,sub,ab,col,dict,k0,k1,k2,k3,k5,_,obj,Heap.Ns.of_isNs (PySem.W.isNs_of_in KX e5),PySem.W.nsMap_none_of_in KX e5 e6,PySem.W.tail_of_in KX e4⟩
  ·nomatch e
 ·nomatch e
structure EC(K:Frag)(mg:Str→Option Value)(c:Str)(C:Addr):Prop where
 ns:nsIn K mainGlobals c=some (some (.ref C))
 mgl:mg c=some (.ref C)
 exc:excIn K C VE "ValueError.__new__" = true
section
variable{X:Cx}{pos:Pos}{e:Expr}{es:List Expr}{fe:FE}{fs:FA}{st:Stmt}
noncomputable def ZH(c:Str):FS:=fun τ=>.rs c τ
theorem Wn{c:Str}{C:Addr}{np cpos:Pos}{d:D}(T:EC X.K X.mg c C)(hx:X.ex=[])(hh:X.A.handled=none)(ha:PDE X e (eC d))(hg:Gl X c:=by rfl)(hd:(c==("__debug__" : Str))=false:=by decide)
  (hs:starEach [e] X.env=[(false,eval e X.env)]:=by rfl):PDS X (.Raise (some (.Call (.Name c np) [e] [] cpos)) none pos) (ZH c):=by
 rintro pins s σ H D I ⟨B,Z,F,τ,R,h⟩
 obtain⟨bm,N,nm,q,bs,hdct,sn,sub,ab,col,dd,k0,k1,k2,k3,k5,mN,hC,hN,hi,tl⟩:=Ge I.ok.mod.kin T.exc
 refine wpAny_Raise_call_subU (bmB:=VE) (mN:=mN) (nm:=nm) (q:=q) (N:=N) (bs:=bs) (hdct:=hdct) (sn:=sn) (sub:=sub) (ab:=ab) (col:=col) (dd:=dd) (k0:=k0) (k1:=k1) (k2:=k2) (k3:=k3) (k5:=k5) PySem.F.excBase_ValueError (by decide) PySem.F.excBase_ValueError (tl.hasType (by decide)) hh (by rw[hs];rfl) hi (jw I hg T.mgl ⟨rfl,?_⟩ hd)
 rw[hs]
 refine Calls.evalArgs_plain ?_
 have ha':=zb ha zm (by rw[hs];rfl)
 have ha2:=ha' cpos pins s σ H (fun vs H1=>∃F1,Ext F H F1 H1∧vs.length=1) I ⟨F,τ,R.rv,fun vs F1 H1 x r=>Y11 F1 x (by rw[← r.length];rfl)⟩
 rw[hs] at ha2
 refine thn ha2 fun us s1 z_=>?_
 refine X22 z_ fun vs H1 I1 r r41_=>?_;refine X11 r41_ fun F1 x1 hl=>?_
 refine⟨rfl,by show us.length≤sizeLine;rw[← r.length,hl];decide,I1.bk _ _ hC,hN.keeps I1.bk,tl.keeps I1.bk,fun h' a m=>?_⟩
 have I2:Inv X pins σ H1 { s1 with heap:=h' }:=I1.kept (t':=s1.toks) m.keeps
 refine X12 m.there fun t et _ _=>?_
 exact h σ F1 H1 x1.ff (R.ext x1) { s1 with heap:=h' } a (.ref C) T.ns (Inv.nil I2) ⟨Xd (s:=s1) I1 hx m.new,_,_,et,rfl,rfl,rfl,.inl rfl,rfl⟩
noncomputable def wF(f:FS):FS:=fun τ=>match f τ with
 |.rs _ _=>.no
 |.ex _=>.no
 |r=>r
theorem YX{sts:List Stmt}{f:FS}(h:vh X.nox sts f):vh X sts (wF f):=
 PSs.imp (PSs.nox h) fun E σ H ⟨B,Z,F,τ,R,q⟩=>Y41 B Z F τ R (by
  unfold wF at q
  cases z:f τ with
  |nx τ'=>rw[z] at q;exact q
  |rt d=>rw[z] at q;exact q
  |ro d τ=>rw[z] at q;exact q
  |rb d τ=>rw[z] at q;exact q
  |bk d=>rw[z] at q;exact q
  |ct d=>rw[z] at q;exact q
  |ex d=>rw[z] at q;exact q.elim
  |no=>rw[z] at q;exact q
  |rs c d=>rw[z] at q;exact q.elim)
end
section
variable{P:Program}{w:World}{K:Frag}{mg:Str→Option Value}{base:Heap}
end
section
variable{X:Cx}{pins:List (Addr×Obj)}{σ:St}{H:Hp}{s:Shared}{a:Addr}{cls:Value}
theorem track{o:HO}{oe:Obj}{vs:Array Value}(D:Fst X)(I:Inv X pins σ H s)(n:Nw X H a)(hp:∀p∈pins,p.1≠a)(e:s.heap.get? a=some oe)(d:oe.data=.fields vs)(new:ObjOk X.prog X.w (upd H a o) s.heap a o):Inv X pins σ (upd H a o) s:=by
 have c:=Qp D I n hp e d
 have hn:=n.1
 refine⟨I.ok,I.os,I.bare,⟨I.base.keep,I.base.slot,fun b u q z hx=>?_,I.base.there,fun b xs q=>?_,fun b u v q=>?_,fun b ps q=>?_⟩,I.loc,I.cell,?_,fun x c' hc=>?_,fun p hp'=>?_,fun b u q=>?_,I.len⟩
 ·rw[zp (fun z=>by rw[z,c.1] at q;nomatch q)];exact I.base.free b u q z hx
 ·have:=I.base.tups b xs q
  rw[zp (zI this hn)];exact this
 ·have:=I.base.frzs b u v q
  rw[zp (zI this hn)];exact this
 ·obtain⟨m,q'⟩:=I.base.tbls b ps q
  exact⟨m,by rw[zp (zI q' hn)];exact q'⟩
 ·rw[zp (Ne.symm c.2.2.1)];exact I.free
 ·rw[zp (c.2.2.2.2.1 x c' hc)];exact I.freeC x c' hc
 ·refine X02 (I.pin p hp') fun q1 q2 q3=>?_
  exact⟨q1,by rw[zp (c.2.2.2.2.2 p hp')];exact q2,q3⟩
 ·by_cases hb:b=a
  ·subst hb;rw[zr] at q;replace q:=sI_ q;subst q;exact new
  ·rw[zp hb] at q
   exact(I.hok b u q).stay (fun _ _ _ z=>z) (fun b' z=>by rw[zp (zI z hn)];exact z) fun b' xs z=>by rw[zp (zI z hn)];exact z
noncomputable abbrev UK(X:Cx)(a:Addr):Cx:={ X with A:=X.A.mark (some (.ref a)),calm:=false,xe:=fun _ _=>False }
theorem Inv.suite(I:Inv X pins σ H s)(a:Addr):Inv (UK X a) pins σ H s:=
 ⟨⟨I.ok.mod,I.ok.kind,I.ok.glob,I.ok.blt,I.ok.above,I.ok.inj,I.ok.has,I.ok.cab,(fun z=>nomatch z),I.ok.frames,I.ok.stk,I.ok.exf,I.ok.bs,I.ok.bsz,I.ok.noex,I.ok.exfs,I.ok.funs,I.ok.frf⟩,I.os,I.bare,I.base,I.loc,I.cell,I.free,I.freeC,I.pin,I.hok,I.len⟩
theorem Inv.unsuite(ok:X.Ok)(I:Inv (UK X a) pins σ H s):Inv X pins σ H s:=⟨ok,I.os,I.bare,I.base,I.loc,I.cell,I.free,I.freeC,I.pin,I.hok,I.len⟩
noncomputable abbrev Vx(X:Cx)(pins:List (Addr×Obj))(E:Value→Shared→Prop):Cx:={ X with xe:=E,pn:=X.pn++pins }
theorem Inv.tryI(I:Inv X pins σ H s)(E:Value→Shared→Prop):Inv (Vx X pins E) [] σ H s:=
 ⟨⟨I.ok.mod,I.ok.kind,I.ok.glob,I.ok.blt,I.ok.above,I.ok.inj,I.ok.has,I.ok.cab,I.ok.hd,I.ok.frames,I.ok.stk,I.ok.exf,I.ok.bs,I.ok.bsz,I.ok.noex,I.ok.exfs,I.ok.funs,I.ok.frf⟩,I.os,I.bare,I.base,I.loc,I.cell,I.free,I.freeC,fun p hp=>I.pin p (by simpa using hp),I.hok,I.len⟩
theorem Inv.untry{E:Value→Shared→Prop}(ok:X.Ok)(I:Inv (Vx X pins E) [] σ H s):Inv X pins σ H s:=
 ⟨ok,I.os,I.bare,I.base,I.loc,I.cell,I.free,I.freeC,fun p hp=>I.pin p (by simpa using hp),I.hok,I.len⟩
theorem Q1{M:Model}{h:Heap}{oe:Obj}(e:h.get? a=some oe):PySem.W.Looks M h (typeOf (.ref a)) oe.cls:=PySem.W.Looks.andThen (PySem.W.Looks.ld e) PySem.W.Looks.now
noncomputable def Vb(τ:DS):Bool:=τ.all fun o=>match o with
 | some (.own _)=>false
 |_=>true
theorem goes{h':Heap}{m':Str→Option Value}{t':Nat}(I:Inv X pins σ H s)(hn:h'.Ns X.env.locals m')(sb:Heap.SameBut X.env.locals s.heap h'):Inv X pins (List.replicate X.N.length none) H { s with heap:=h',toks:=t' }:=by
 have nL:∀b o,X.s₀.heap.get? b=some o→b≠X.env.locals:=fun b o e=>ne_of_lt (lt_of_lt_of_le (Heap.lt_size e) I.ok.above)
 refine⟨I.ok,I.os,I.bare,⟨fun b o e n hb hx=>(sb.2 b (nL b o e)).trans (I.base.keep b o e n hb hx),fun b o e n hb hx=>?_,I.base.free,fun b o e hx=>?_,I.base.tups,I.base.frzs,I.base.tbls⟩,⟨m',hn,fun j y v e1 e2 e3=>?_⟩,fun y c e=>?_,I.free,I.freeC,fun p hp=>?_,fun b u e=>?_,by simp⟩
 ·obtain⟨sl,q⟩:=I.base.slot b o e n hb hx
  exact⟨sl,(sb.2 b (nL b o e)).trans q⟩
 ·obtain⟨o',q⟩:=I.base.there b o e hx
  exact⟨o',(sb.2 b (nL b o e)).trans q⟩
 ·rw[getElem?_replicate] at e2
  split at e2 <;> cases e2
 ·refine X21 (I.cell y c e) fun v o ho hd=>?_
  exact Y21 v o ((sb.2 c (I.cne y c e)).trans ho) hd
 ·refine X03 (I.pin p hp) fun q1 q2 q3 q4=>?_
  exact⟨(sb.2 p.1 q3).trans q1,q2,q3,q4⟩
 ·refine(I.hok b u e).stay (fun c w' hc q=>(sb.2 c ?_).trans q) (fun _ q=>q) fun _ _ q=>q
  rintro rfl
  rcases hc with rfl|hc
  ·rw[I.free] at e;nomatch e
  ·rw[I.free] at hc;nomatch hc
end
theorem L0:builtinKind "BaseException.__getattribute__" = some Manifest.AttrKind.slot:=by decide +kernel
theorem GH:splitId "BaseException.__getattribute__" = some ("BaseException", "__getattribute__"):=by decide +kernel
structure ECK(K:Frag)(C:Addr):Prop where
 ga:findIn K (.ref C) "__getattribute__" = some (some (.builtin "BaseException.__getattribute__"))
 gh:findIn K (.ref C) "__getattr__" = some none
 ob:findObj K C none "__class__" = some (Builtin.ObjectAttr.Found.bind (.builtin "getset_descriptor.__get__") (.builtin "object.__class__"))
 mo:mroIn K C (.type "object")=some true
 mb:mroIn K C (.type "BaseException")=some true
 ty:typeIn K (.ref C)=some (.type "type")
 se:kitCls K (.ref C) (.ref C)=some true
noncomputable def ExI(x C:Addr):Heap→Prop:=fun h=>∃oe vs,h.get? x=some oe∧oe.cls=.ref C∧oe.dict=none∧oe.data=.fields vs
theorem ExI.inst{x C:Addr}{h:Heap}(e:ExI x C h):∃ox,PySem.W.InstAt h x ox C none:=by
 refine X23 e fun oe vs e1 e2 e3 e4=>?_
 exact⟨oe,e1,e2,by unfold PySem.W.notCls;rw[e4],by rw[e3];trivial⟩
section
variable{prog:Program}{w:World}{A:Around}{E:Value→Shared→Prop}{K:Frag}{x C:Addr}
theorem Tk{s:Shared}{nameV:Value}{Q:Unit→Shared→Prop}(T:ECK K C)(KX:K.In s.heap)(hx:ExI x C s.heap)(q:Q () s):wpAny (model prog w) A (checkBuiltinCall "BaseException.__getattribute__" { pos:=[.ref x,nameV] }) Q E s:=by
 obtain⟨hp,g,d,t,os⟩:=s
 obtain⟨ox,ix⟩:=hx.inst
 unfold checkBuiltinCall
 simp only[L0,GH]
 unfold isInstance
 refine wpAny_bind (wpAny_bind (PySem.W.Looks.at ix.type ?_))
 refine PySem.W.Looks.at (PySem.W.looks_mroIn KX T.mb) ?_
 simp only[Bool.not_true,Bool.false_eq_true,if_false]
 have:=PySem.F.args_bexc_ga (.ref x) nameV
 unfold argsOk at this
 rcases z:Manifest.signature? "BaseException.__getattribute__" with _|sig
 ·exact wpAny_pure q
 ·rw[z] at this
  exact wpAny_of_eq this q
theorem Gd{s:Shared}{Q:Option Value→Shared→Prop}(T:ECK K C)(KX:K.In s.heap)(hx:ExI x C s.heap)(q:Q (some (.ref C)) { s with toks:=s.toks+1 }):wpAny (model prog w) A (getAttr? (.ref x) "__class__") Q E s:=by
 obtain⟨hp,g,d,t,os⟩:=s
 obtain⟨ox,ix⟩:=hx.inst
 unfold getAttr?
 refine wpAny_bind (wpAny_mkText ?_)
 unfold getAttrBy?
 refine wpAny_bind (wpAny_attempt ?_)
 unfold getAttrBy
 refine wpAny_holding (wpAny_bind (PySem.W.Looks.at ix.type ?_))
 refine wpAny_bind (PySem.W.Looks.at (looks_findIn KX T.ga) ?_)
 simp only
 rw[if_neg (show ¬(onTheHeap (Value.ref C)&&Value.builtin "BaseException.__getattribute__" == Value.builtin "object.__getattribute__")=true by show ¬ (true&&_)=true;decide)]
 unfold getAttrByItsOwn hookBefore
 refine wpAny_bind ?_
 rw[if_pos (by rfl)]
 refine PySem.W.Looks.at (looks_findIn KX T.gh) ?_
 refine wpAny_bind (wpAny_attempt (wpAny_holding ?_))
 unfold callGetattribute boundAndCalled
 rw[if_neg (by decide)]
 rw[PySem.F.attrBase_ValueError.ga.bind]
 refine wpAny_bind (wpAny_pure ?_)
 refine wpAny_call (codeAny_call_builtin PySem.F.attrBase_ValueError.ga.plain PySem.F.entry_bexc_ga ?_)
 refine Tk T KX hx ?_
 unfold Builtin.«object.__getattribute__»
 refine wpAny_bind ?_
 refine(show wpAny (model prog w) A.in1 (pure (Value.ref x,[Value.str (Str.ofString "__class__") t]):Sem (Value×List Value)) _ _ _ from wpAny_pure ?_)
 refine wpAny_bind ((show wpAny (model prog w) A.in1 (pure (Str.ofString "__class__"):Sem Str) _ _ _ from wpAny_pure ?_))
 refine wpAny_bind (PySem.W.Looks.at ix.type ?_)
 refine wpAny_bind (PySem.W.Looks.at (PySem.W.looks_find KX ix T.ob) ?_)
 refine wpAny_bind (wpAny_holding (wpAny_call (PySem.W.class_get KX ix T.mo ?_)))
 exact wpAny_pure (wpAny_pure (wpAny_pure q))
theorem LZ(T:ECK K C):PySem.W.KitX K (.ref x) (.ref C) (ExI x C) where
 ty:=fun M h _ hx=>by
  obtain⟨ox,ix⟩:=hx.inst
  exact ix.type
 it:=fun M h KX _=>(PySem.W.kit_cls KX T.se).2.1
 ne:=fun h tp dd its n sl KX e=>by
  rcases z:(Value.ref C==Value.ref tp) with _|_
  ·rfl
  ·have z:C=tp:=by simpa using z
   subst z
   have ty:Option.map (fun x:Obj=>x.cls) (List.lookup C K)=some (.type "type"):=T.ty
   rcases l:List.lookup C K with _|o
   ·rw[l] at ty;cases ty
   ·rw[l] at ty
    have:=KX C o l
    rw[e] at this;replace this:=sI_ this;subst this
    simp at ty
 ca:=fun KX hx q=>Gd T KX hx q
end
section
variable{X:Cx}{pos:Pos}{a b:Expr}{fa:FE}
noncomputable def Qj(tb:List (Str×Bool)):D→Rs D
 |.exc c=>match tb.lookup c with
  |some b=>.ok (.bl b)
  |none=>.no
 |_=>.no
noncomputable def j1(tb:List (Str×Bool))(fa:FE):FE:=fun τ=>(fa τ).bind (Qj tb)
theorem Lw{tb:List (Str×Bool)}{v:V}{u:Value}{p:Pos}(ha:PDE X a fa)(hb:PE X b (tC v))(hu:∀u',RelV v u'→u'=u)(ht:∀c k,tb.lookup c=some k→∃C,nsIn X.K mainGlobals c=some (some (.ref C))∧ECK X.K C∧kitOne X.K (.ref C) u=some k)
  (hm:X.mg "isinstance" = none) (hg:Gl X "isinstance" := by rfl) (hs:starEach [a,b] X.env=[(false,eval a X.env),(false,eval b X.env)]:=by rfl) (hs2:starEach [b] X.env=[(false,eval b X.env)]:=by rfl) :
  PDE X (.Call (.Name "isinstance" p) [a,b] [] pos) (j1 tb fa):=by
 have call:CallR X (.builtin "isinstance") (fun vs H Q=>∃x c k,vs=[.ref x,v]∧H x=some (.ext (WA X.K x c))∧tb.lookup c=some k∧Q (.bl k) H):=by
  rintro pins s σ H vs us Q I r ⟨x,c,k,e,hx,hk,q⟩
  subst e
  obtain⟨u1,u2,rfl,r1,r2⟩:=vals2 r
  obtain rfl:u1=Value.ref x:=r1
  rw[hu u2 r2]
  refine X12 (ht c k hk) fun C h1 T h2=>?_
  obtain⟨⟨oe,cls,vs,e1,e2,e3,e4,e5⟩,_,_⟩:=I.hok x _ hx
  rw[h1] at e5
  replace e5:=uI_ e5;subst e5
  exact PySem.W.kia_one (LZ T) I.kIn ⟨oe,vs,e1,e2,e3,e4⟩ h2 (by intro z;nomatch z) fun tk=>Y22 (.bl k) H (I.tok _) rfl q
 refine PE.imp (L2.pe_callB call hg hm boot_isinstance (uA ha (uA hb Y7 (by rw[hs2];rfl)) (by rw[hs,hs2])) (he:=by rw[hs,hs2]) (hpl:=by rw[hs2];rfl)) fun σ H Q z_=>?_
 refine X21 z_ fun F τ R h=>?_
 refine tE.of R h.bind fun d w F1 H1 g x R1 r=>?_
 cases d with
 |exc c=>
  simp only[Rep] at r
  obtain⟨y,rfl,e⟩:=r
  simp only[Qj] at g
  rcases z:tb.lookup c with _|k
  ·rw[z] at g;exact g.elim
  ·rw[z] at g
   exact Y33 y c k rfl (R1.fh _ _ e) z (g (.bl k) F1 H1 x (by simp only[Rep]))
 |_=>exact g.elim
theorem tb1{c0 c:Str}{k0 k:Bool}(h:List.lookup c [(c0,k0)]=some k):c=c0∧k=k0:=by
 simp only[List.lookup] at h
 rcases z:c==c0 with _|_
 ·rw[z] at h;nomatch h
 ·rw[z] at h;exact⟨by simpa using z,(Option.some.inj h).symm⟩
theorem Zh{c0:Str}{C0:Addr}{k0:Bool}{v:V}{u:Value}{p:Pos}(T:EC X.K X.mg c0 C0)(TK:ECK X.K C0)(ha:PDE X a fa)(hb:PE X b (tC v))(hu:∀u',RelV v u'→u'=u)(kk:kitOne X.K (.ref C0) u=some k0)
  (hm:X.mg "isinstance" = none) (hg:Gl X "isinstance" := by rfl) (hs:starEach [a,b] X.env=[(false,eval a X.env),(false,eval b X.env)]:=by rfl) (hs2:starEach [b] X.env=[(false,eval b X.env)]:=by rfl) :
  PDE X (.Call (.Name "isinstance" p) [a,b] [] pos) (j1 [(c0,k0)] fa):=
 Lw ha hb hu (fun c k h=>by obtain⟨rfl,rfl⟩:=tb1 h;exact Y12 C0 T.ns TK kk) hm hg hs hs2
theorem WT{C:Addr}:∀u',RelV (V.ref C) u'→u'=Value.ref C:=fun u' h=>h
theorem zf9{T:String}:∀u',RelV (V.ty T) u'→u'=Value.type T:=fun u' h=>h
theorem ok1{c0:Str}{C0 Ch:Addr}{K:Frag}{mg:Str→Option Value}(T:EC K mg c0 C0)(x:exmOne K (.ref C0) (.ref Ch)=some true):∀c cls,(c==c0)=true→nsIn K mainGlobals c=some (some cls)→exmOne K cls (.ref Ch)=some true:=fun c cls h1 h2=>by
 have e:c=c0:=by simpa using h1
 subst e
 rw[T.ns] at h2
 replace h2:=uI_ h2;subst h2
 exact x
end
section
variable{X:Cx}{pos:Pos}{e:Expr}{es:List Expr}{fs:FA}{st:Stmt}
theorem QK{f:FS}(h:PDS X.nox st f):PDS X st (wF f):=by
 rintro pins s σ H D I ⟨B,Z,F,τ,R,q⟩
 refine wpAny_mono (h pins s σ H D (I.wish _) ⟨B,Z,F,τ,R,?_⟩) (fun _ _ z=>z.unwish) fun _ _ z=>False.elim z
 unfold wF at q
 cases z:f τ with
 |nx τ'=>rw[z] at q;exact q
 |rt d=>rw[z] at q;exact q
 |ro d τ=>rw[z] at q;exact q
 |rb d τ=>rw[z] at q;exact q
 |bk d=>rw[z] at q;exact q
 |ct d=>rw[z] at q;exact q
 |ex d=>rw[z] at q;exact q.elim
 |no=>rw[z] at q;exact q
 |rs c d=>rw[z] at q;exact q.elim
theorem zb8:bootBuiltins "ValueError" = some (.type "ValueError"):=by first|rfl|decide +kernel
noncomputable def bl2:D→D→Option (Bool×Bool)
 |.bl a,.bl b=>some (a,b)
 |_,_=>none
theorem zn1{d e:D}{a b:Bool}(h:bl2 d e=some (a,b)):d=.bl a∧e=.bl b:=by
 unfold bl2 at h;split at h <;> cases h;exact⟨rfl,rfl⟩
noncomputable def YC(d e:D):Rs D:=match bl2 d e with
 | some (a,b)=>.ok (.bl (!(a==b)))
 |none=>.no
theorem UZ:OpD X (compareOp .IsNot) YC:=⟨fun x y H Q=>∃a b,x=.bl a∧y=.bl b∧Q (.bl (!(a==b))) H,fun pins s σ H x y v u Q I rx ry z_=>by
  refine X22 z_ fun a b e1 e2 q=>?_
  subst e1;subst e2;cases rx;cases ry
  exact isnot_bool ⟨.bl _,H,I,rfl,q⟩,fun F H x y dx dy Q fh r1 r2 h=>by
  unfold YC at h
  cases q:bl2 dx dy with
  |none=>rw[q] at h;exact h.elim
  |some ab=>
   obtain⟨a,b⟩:=ab
   rw[q] at h
   obtain⟨rfl,rfl⟩:=zn1 q
   simp only[Rep] at r1 r2
   exact⟨a,b,r1,r2,h _ F H (Ext.refl fh) (by simp only[Rep])⟩⟩
end
section
variable{X:Cx}{pos:Pos}{e a b:Expr}{es:List Expr}{fe fa fb:FE}{fs:FA}
end
section
variable{X:Cx}{pos:Pos}{e a b:Expr}{es:List Expr}{fe fa fb:FE}{fs:FA}
end
section
variable{P:Program}{w:World}{K:Frag}{mg:Str→Option Value}{base:Heap}
end
section
variable{X:Cx}{pos:Pos}{e:Expr}{es:List Expr}{fe:FE}{fs:FA}
end
section
variable{X:Cx}{scope:Scope}{N':List Str}
end
section
variable{X:Cx}{scope:Scope}{N':List Str}{tg iter elt:Expr}{ifs:List Expr}{pos:Pos}{wi:TI}{g:TG}{ti:TT}{te:TE}{s0:St→St}
end
section
variable{X:Cx}{scope:Scope}{tn fr:List Str}{idx:List Nat}{tg iter elt:Expr}{ifs:List Expr}{pos:Pos}{fi:FA}{set:FG}{ft:FT}{fe:FE}
end
section
variable{X:Cx}{tg:Expr}
end
section
variable{X:Cx}{pos:Pos}{e tg:Expr}{es:List Expr}{fe:FE}{fs:FA}
end
section
variable{P:Program}{w:World}{K:Frag}{mg:Str→Option Value}{base:Heap}
end
section
variable{X:Cx}{pos:Pos}{e:Expr}{es:List Expr}{fe:FE}{fs:FA}
end
section
variable{X:Cx}{pins:List (Addr×Obj)}{σ:St}{H:Hp}{s:Shared}{a:Addr}{cls:Value}
end
section
variable{X:Cx}{pos:Pos}{e a b:Expr}{es:List Expr}{fe fa fb:FE}{fs:FA}
end
section
variable{X:Cx}{tg:Expr}
end
section
variable{X:Cx}{pos:Pos}{e tg:Expr}{es:List Expr}{fe:FE}{fs:FA}
end
section
variable{X:Cx}{pos:Pos}{e a b:Expr}{es:List Expr}{fe fa fb:FE}{fs:FA}
end
noncomputable def BM(mg:Str→Option Value)(base:Heap):Prop:=∃bm o,mg "__builtins__" = some (.ref bm)∧bm≠builtinsNs∧base.get? bm=some o∧o.cls=.type "module" ∧ o.dict=some builtinsNs∧o.data=.plain
noncomputable def zf1(ts:List Addr)(H:Hp):Prop:=∀b,H b=none∨(∃o xs,H b=some (.frz o (.lst xs)))∨(b∈ts∧H b=some (.tbl #[]))
theorem Q5{P:Program}{w:World}{K:Frag}{mg mb:Str→Option Value}{CX:CXT}{k:Nat}{fa a:Addr}{fd:FuncData}{x:Str}{sp:Sp}{s₁:Shared}{vs:List Value}{ns:List Int}{ts:List Addr}
  (KX:K.In s₁.heap) (hns:s₁.heap.Ns mainGlobals mg) (hb:s₁.heap.Ns builtinsNs mb) (hbb:∀x:Str,x ≠ "__name__" → mb x=bootBuiltins x) (hlim:s₁.heap.NoLimit) (hg:s₁.gens = #[])
  (ha:s₁.heap.get? a=some { cls:=.type "list", data:=.seq vs.toArray }) (hi:IntsAre vs ns) (hl:ns.length≤sizeLine) (hr:Room k callerA)
  (tb:∀p∈ts,K.lookup p=none∧s₁.heap.get? p=some (PySem.W.tabObj #[])∧isCodeTable s₁.heap p)
  (hbm:BM mg s₁.heap) (F:∀base:Heap,K.In base→base.Ns mainGlobals mg→BM mg base→FnOk P w K mg base CX k fa fd [x] sp) (hbind:∀(s:Shared) (u:Value),BindsTo s fd ⟨[u],[]⟩ [(x,u)])
  (hsp:∀H F:Hp,zf1 ts H→Same F H→(∀p∈ts,F p=none∧H p=some (.tbl #[]))→SqL K F a (ns.map V.int)→sp [.ref a] H (fun v H'=>v=.bl true) fun _ _ _=>False)
  (hCX:∀H e s',CX [] H s₁ (fun _ _ _=>False) e s'→False) :
  codeAny (model P w) callerA (.call (.ref fa) ⟨[.ref a],[]⟩) (fun r s'=>r=.ok (.ret (.bool true))∧OldK s₁.heap s'.heap∧s'.os=s₁.os∧AllBare s'.gens) s₁:=by
 have rv:=vals_ints hi
 have lenV:=hi.length
 have nat:a∉ts:=fun z=>by
  refine X02 (tb a z) fun _ e _=>?_
  rw[ha] at e;cases e
 have core:∀H F:Hp,zf1 ts H→Same F H→(∀p∈ts,F p=none∧H p=some (.tbl #[]))→SqL K F a (ns.map V.int)→HOk P w H s₁.heap→(∀b,H b≠none→b=a∨b∈ts)→(H a≠none→K.lookup a=none) →
   codeAny (model P w) callerA (.call (.ref fa) ⟨[.ref a],[]⟩) (fun r s'=>r=.ok (.ret (.bool true))∧OldK s₁.heap s'.heap∧s'.os=s₁.os∧AllBare s'.gens) s₁:=by
  intro H Fz hO fh hT hS hok hA hK
  have base_of:∀{b:Addr} {o:Obj},s₁.heap.get? b=some o→H b=none→(X7 s₁.heap H).get? b=some o:=fun e n=>MY e n
  have noA:∀{b:Addr} {o:Obj} {es:Array DictEntry} {ep:Nat},s₁.heap.get? b=some o→o.data=.dict es ep→H b=none:=fun {b o es ep} e d=>by
   rcases q:H b with _|u
   ·rfl
   ·rcases hA b (by rw[q];simp) with e' | e'
    ·subst e'
     rw[ha] at e;replace e:=sI_ e;subst e
     have d':Data.seq vs.toArray _=Data.dict es ep:=d
     nomatch d'
    ·refine X02 (tb b e') fun _ e2 _=>?_
     rw[e] at e2;replace e2:=sJ_ e2;subst e2
     nomatch d
  have nsK:∀{b:Addr} {m:Str→Option Value},s₁.heap.Ns b m→(X7 s₁.heap H).Ns b m:=fun {b m} ⟨o,es,ep,e,d,r⟩=>Y32 o es ep (base_of e (noA e d)) d r
  have hKb:K.In (X7 s₁.heap H):=fun b o e=>base_of (KX b o e) (by
   cases q:H b with
   |none=>rfl
   |some u=>
    rcases hA b (by rw[q];simp) with e' | e'
    ·subst e'
     rw[hK (by rw[q];simp)] at e;nomatch e
    ·rw[(tb b e').1] at e;nomatch e)
  have hM:Mod K mg (X7 s₁.heap H):=⟨hKb,nsK hns,⟨mb,nsK hb,hbb⟩,let ⟨mc,h1,h2⟩:=hlim;⟨mc,nsK h1,h2⟩⟩
  have e0:Env0 P w K mg (X7 s₁.heap H) callerA [] s₁ H:=⟨rfl,hM,fun b o e=>LG e,Nat.le_of_eq (Ga _ _),trivial,fun b hb=>absurd (show b∈([]:List Addr) from hb) (by simp),hok,.of_eq hg⟩
  have hbb:BM mg (X7 s₁.heap H):=by
   refine X25 hbm fun bm o b1 b2 b3 b4 b5 b6=>?_
   refine Y25 bm o b1 b2 (base_of b3 ?_) b4 b5 b6
   rcases q:H bm with _|u
   ·rfl
   ·rcases hA bm (by rw[q];simp) with e' | e'
    ·subst e'
     rw[ha] at b3;replace b3:=sI_ b3;subst b3;nomatch b6
    ·refine X02 (tb bm e') fun _ e2 _=>?_
     rw[b3] at e2;replace e2:=sJ_ e2;subst e2;nomatch b6
  refine codeAny_mono ((F _ hKb (nsK hns) hbb).run callerA [] s₁ H ⟨[.ref a],[]⟩ [.ref a] [.ref a] _ _ hr e0 (hbind s₁ (.ref a)) (.cons rfl .nil) (hsp H Fz hO fh hT hS)) fun r s' h=>?_
  cases r with
  |error e=>exact(hCX H e s' h).elim
  |ok fl=>
   cases fl with
   |next=>exact False.elim h
   |brk=>exact False.elim h
   |cont=>exact False.elim h
   |ret u=>
    refine X25 h fun v H' os bare un hok' r' q'=>?_
    subst q'
    obtain rfl:u=Value.bool true:=r'
    have was:∀b o,s₁.heap.get? b=some o→asItWas s₁.heap s'.heap b o:=fun b o e=>by
     rcases q:H b with _|u
     ·exact .inl (un.keep b o e q (by intro z;exact absurd (show b∈([]:List Addr) from z) (by simp)) (by simp))
     ·rcases hO b with z|⟨ob,xs,z⟩|⟨hb,z⟩
      ·rw[q] at z;nomatch z
      ·have z2:=un.frzs b ob _ z
       obtain⟨e1,_⟩:=hok b _ z
       obtain⟨e2,_⟩:=hok' b _ z2
       rw[e] at e1;replace e1:=sI_ e1;subst e1
       exact .inl e2
      ·obtain⟨more,z2⟩:=un.tbls b _ z
       have e2:s'.heap.get? b=some { cls:=.none,data:=.fields (#[]++more) }:=hok' b _ z2
       refine X02 (tb b hb) fun _ e3 e4=>?_
       rw[e] at e3;replace e3:=sJ_ e3;subst e3
       exact .inr (.inl ⟨e4,rfl,#[],more,rfl,e2⟩)
    refine⟨rfl,⟨was,fun b o e=>?_⟩,os,bare⟩
    obtain⟨o',e'⟩:=un.there b o e (by simp)
    exact⟨o',e'⟩
 rcases hk:K.lookup a with _|o
 ·refine core (fun b=>if b∈ts then some (.tbl #[]) else if b=a then some (.frz { cls:=.type "list", data:=.seq vs.toArray } (.lst (ns.map V.int))) else none) (fun b=>if b=a then some (.frz { cls:=.type "list", data:=.seq vs.toArray } (.lst (ns.map V.int))) else none) (fun b=>?_) (fun b o z=>?_) (fun p hp=>⟨if_neg (fun z:p=a=>nat (z ▸ hp)),if_pos hp⟩) (.inl (.inr ⟨{ cls:=.type "list", data:=.seq vs.toArray },if_pos rfl⟩)) (fun b u z=>?_) (fun b z=>?_) fun _=>hk
  ·by_cases h:b∈ts
   ·exact .inr (.inr ⟨h,if_pos h⟩)
   ·by_cases hb:b=a
    ·exact .inr (.inl ⟨_,_,(if_neg h).trans (if_pos hb)⟩)
    ·exact .inl ((if_neg h).trans (if_neg hb))
  ·by_cases hb:b=a
   ·have z':=(if_pos hb).symm.trans z
    replace z':=sI_ z';subst z'
    subst hb
    exact(if_neg nat).trans (if_pos rfl)
   ·have z':=(if_neg hb).symm.trans z
    nomatch z'
  ·by_cases h:b∈ts
   ·have z':=(if_pos h).symm.trans z
    replace z':=sI_ z';subst z'
    exact(tb b h).2.1
   ·have z1:=(if_neg h).symm.trans z
    by_cases hb:b=a
    ·have z':=(if_pos hb).symm.trans z1
     replace z':=sI_ z';subst z'
     subst hb
     exact⟨ha,by rw[length_map];exact hl,vs,_,rv,ha⟩
    ·have z':=(if_neg hb).symm.trans z1
     nomatch z'
  ·by_cases h:b∈ts
   ·exact .inr h
   ·by_cases hb:b=a
    ·exact .inl hb
    ·exact absurd ((if_neg h).trans (if_neg hb)) z
 ·have e:=KX a o hk
  rw[ha] at e
  replace e:=sI_ e;subst e
  refine core (fun b=>if b∈ts then some (.tbl #[]) else none) (fun _=>none) (fun b=>?_) (fun _ _ z=>nomatch z) (fun p hp=>⟨rfl,if_pos hp⟩) (.inr ⟨_,vs.toArray,_,hk,rfl,rfl,rfl,by rw[size_toArray,lenV];exact hl,by simpa using rv⟩) (fun b u z=>?_) (fun b z=>?_) fun z=>absurd (if_neg nat) z
  ·by_cases h:b∈ts
   ·exact .inr (.inr ⟨h,if_pos h⟩)
   ·exact .inl (if_neg h)
  ·by_cases h:b∈ts
   ·have z':=(if_pos h).symm.trans z
    replace z':=sI_ z';subst z'
    exact(tb b h).2.1
   ·have z':=(if_neg h).symm.trans z
    nomatch z'
  ·by_cases h:b∈ts
   ·exact .inr h
   ·exact absurd (if_neg h) z
theorem Uf{K:Frag}{p:Addr}(h:p∉K.map (·.1)):K.lookup p=none:=by
 rw[show K.lookup p=List.lookup p K from rfl,List.lookup_eq_none_iff]
 intro q hq
 simp only[bne_iff_ne,ne_eq,beq_eq_false_iff_ne]
 intro z
 exact h (mem_map.mpr ⟨q,hq,z.symm⟩)
noncomputable def Tz(K:Frag):Prop:=∀r∈Tabs.rows,∃c,PySem.W.codeHdIn K c r.1=true
theorem walkM{l:PySem.W.OpenLaw}{q:Program}{loose:List Str}{XP:(Str→Option Value)→Heap→Prop}{d:DefRec}{K:Params→Frag}{k:Nat}{p:Str}{as ts:List Addr}{has:∀P,as=(K P).map (·.1)}(hn:l.most=some 63)(hdf:d.params.defaults=[])(hk:Room k callerA)
  (hts:(Tabs.rows.all fun r=>ts.contains r.1 && !as.contains r.1)=true)
  (F:∀(w:World) (mg:Str→Option Value) (fa:Addr) (h:Heap),(K w.params).In h→h.Ns mainGlobals mg→mg d.name=some (.ref fa)→Tz (K w.params) ∧
   ∃fd:FuncData,(∀(s:Shared) (u:Value),BindsTo s fd ⟨[u],[]⟩ [(p,u)])∧∀base:Heap,(K w.params).In base→base.Ns mainGlobals mg→BM mg base→FnOk l.prog w (K w.params) mg base CX0 k fa fd [p] (Jx (K w.params))) :
  PySem.W.WalkO q loose XP (PySem.W.kmHook K as has ts).says l.row.toRowW d [] (fun f vs=>PySem.call f vs):=by
 refine Att.attach_call hn hdf fun w s₀ s₁ mg mb fa o pm cd doc a vs ns G Y ho hd hcd hmg hobj hints hlen hg=>?_
 have KX:=PySem.W.km_in_of Y
 have hT:=PySem.W.km_tabs_of Y
 refine X01 (F w mg fa _ KX G.T.g hmg) fun tin r40_=>?_;refine X11 r40_ fun fd hb hF=>?_
 refine Q5 (ts:=Tabs.rows.map (·.1)) (CX:=CX0) (sp:=Jx (K w.params)) KX G.T.g G.T.b G.T.builtins G.T.nolimit hg hobj hints (le_trans hlen (by decide)) hk (fun p hp=>?_) ?_ hF hb (fun H Fz hO fh hT hS=>Y35 a ns Fz rfl fh ⟨fun r hr=>?_,fun d b e=>(by rcases hO d with z|⟨_,_,z⟩|⟨_,z⟩ <;> (rw[z] at e;cases e))⟩ hS hlen (fun _=>rfl)) fun H e s' z=>z
 ·obtain⟨r,hr,rfl⟩:=mem_map.mp hp
  have z:=List.all_eq_true.mp hts r hr
  rw[Bool.and_eq_true] at z
  have hp':=hT r.1 (by simpa using z.1)
  obtain⟨c,hc⟩:=tin r hr
  refine⟨Uf (by rw[← has];simpa using z.2),hp',?_⟩
  exact((PySem.W.codeHd_of_K KX hc).tab hp').isCodeTable
 ·refine X25 G.T.bmain fun bm ob b1 b2 b3 b4 b5 b6=>?_
  exact Y25 bm ob b1 b2 b3 b4 b5 b6
 ·obtain⟨h1,h2⟩:=hT r.1 (mem_map.mpr ⟨r,hr,rfl⟩)
  exact⟨h1,.inl h2⟩
open PySem.W
noncomputable def lxI:List Int→List Int→Bool
 |[],[]=>false
 |[],_::_=>true
 |_::_,[]=>false
 |a::x,b::y=>if a=b then lxI x y else decide (a<b)
theorem Xi:∀x:List Int,lxI x x=false:=by
 intro l_
 induction l_ with
 |nil=>
  exact rfl
 |cons a x ih_=>
  rw[lxI,if_pos rfl];exact ih_
theorem JZ:∀x y:List Int,lxI x y=false→lxI y x=false→x=y
 |[],[],_,_=>rfl
 |[],_::_,h,_=>by simp[lxI] at h
 |_::_,[],_,h=>by simp[lxI] at h
 |a::x,b::y,h1,h2=>by
  rw[lxI] at h1 h2
  by_cases e:a=b
  ·subst e
   rw[if_pos rfl] at h1 h2
   rw[JZ x y h1 h2]
  ·rw[if_neg e] at h1
   rw[if_neg (Ne.symm e)] at h2
   simp only[decide_eq_false_iff_not] at h1 h2
   lia
theorem vf:∀x y z:List Int,lxI x y=true→lxI y z=true→lxI x z=true
 |[],[],_,h,_=>by simp[lxI] at h
 |_::_,[],_,h,_=>by simp[lxI] at h
 |_,_::_,[],_,h=>by simp[lxI] at h
 |[],_::_,_::_,_,_=>rfl
 |a::x,b::y,c::z,h1,h2=>by
  rw[lxI] at h1 h2 ⊢
  by_cases e:a=b
  ·subst e
   rw[if_pos rfl] at h1
   by_cases e2:a=c
   ·subst e2;rw[if_pos rfl] at h2 ⊢;exact vf x y z h1 h2
   ·rw[if_neg e2] at h2 ⊢;exact h2
  ·rw[if_neg e] at h1
   simp only[decide_eq_true_eq] at h1
   by_cases e2:b=c
   ·subst e2;rw[if_neg e];simpa using h1
   ·rw[if_neg e2] at h2
    simp only[decide_eq_true_eq] at h2
    rw[if_neg (by lia)];simp only[decide_eq_true_eq];lia
theorem QZ{x y:List Int}(h:lxI x y=true):lxI y x=false:=by
 rcases q:lxI y x with _|_
 ·rfl
 ·have:=vf x y x h q;rw[Xi] at this;nomatch this
theorem Yz{x y:List Int}(h:lxI x y=false)(n:x≠y):lxI y x=true:=by
 rcases q:lxI y x with _|_
 ·exact absurd (JZ x y h q) n
 ·rfl
noncomputable def Pw{α:Type}(lt:Nat→Nat→Bool)(n:Nat):KasT α→(α→Prop)→Prop
 |.ret a,G=>G a
 |.ask i j k,G=>i<n∧j<n∧Pw lt n (k (lt i j)) G
section
variable{lt:Nat→Nat→Bool}{n:Nat}
theorem GT{α:Type}{t u:KasT α}{G:α→Prop}(h:Pw lt n t G):Pw lt n (if true=true then t else u) G:=by rw[if_pos rfl];exact h
theorem zg1{α:Type}{t u:KasT α}{G:α→Prop}(h:Pw lt n u G):Pw lt n (if false=true then t else u) G:=by rw[if_neg (by simp)];exact h
theorem Pw.bind{α β:Type}{f:α→KasT β}{G:β→Prop}:∀(t:KasT α),Pw lt n t (fun a=>Pw lt n (f a) G)→Pw lt n (t.bind f) G
 |.ret _,h=>h
 |.ask i j k,h=>⟨h.1,h.2.1,Pw.bind (k (lt i j)) h.2.2⟩
theorem Pw.mono{α:Type}{G G':α→Prop}(hg:∀a,G a→G' a):∀(t:KasT α),Pw lt n t G→Pw lt n t G'
 |.ret a,h=>hg a h
 |.ask i j k,h=>⟨h.1,h.2.1,Pw.mono hg (k (lt i j)) h.2.2⟩
theorem Pw.wp{α:Type}{cmp:Nat→Nat→(Bool→Shared→Prop)→Shared→Prop}{s:Shared}(hc:∀(i j:Nat) (C:Bool→Shared→Prop),i<n→j<n→C (lt i j) s→cmp i j C s){G:α→Prop}{Q:α→Shared→Prop}(hq:∀a,G a→Q a s) :
  ∀(t:KasT α),Pw lt n t G→t.kasWp cmp Q s
 |.ret a,h=>hq a h
 |.ask i j k,h=>hc i j _ h.1 h.2.1 (Pw.wp hc hq (k (lt i j)) h.2.2)
end
section
variable{n:Nat}{κ:Nat→List Int}{p:Array Nat}
noncomputable abbrev ltK(κ:Nat→List Int)(i j:Nat):Bool:=lxI (κ i) (κ j)
noncomputable abbrev gK(κ:Nat→List Int)(p:Array Nat)(k:Nat):List Int:=κ (p.getD k 0)
noncomputable abbrev PmK(n:Nat)(p:Array Nat):Prop:=p.toList.Perm (List.range n)
theorem wC{p:Array Nat}(k:Nat):p.getD k 0=(p[k]?).getD 0:=by simp
theorem Yt(h:PmK n p):p.size=n:=by have:=h.length_eq;simpa using this
theorem uS(h:PmK n p)(hn:0<n)(k:Nat):p.getD k 0<n:=by
 rw[wC]
 rcases q:p[k]? with _|v
 ·exact hn
 ·have hv:v∈p.toList:=by
   have q':p.toList[k]?=some v:=by rw[← q];simp
   exact List.mem_of_getElem? q'
  have:=h.mem_iff.mp hv
  simpa using this
theorem zg7(h:PmK n p){i j:Nat}(hi:i<n)(hj:j<n)(hij:i≠j):p.getD i 0≠p.getD j 0:=by
 have nd:p.toList.Nodup:=h.symm.nodup List.nodup_range
 have sz:=Yt h
 have key:∀a b:Nat,a<b→b<n→p.getD a 0≠p.getD b 0:=fun a b hab hb=>by
  have ha':a<p.toList.length:=by simp[sz];lia
  have hb':b<p.toList.length:=by simp[sz];lia
  have:=List.pairwise_iff_getElem.mp nd a b ha' hb' hab
  rw[wC,wC]
  have ea:p[a]?=some p.toList[a]:=by rw[getElem_toList];exact Array.getElem?_eq_getElem _
  have eb:p[b]?=some p.toList[b]:=by rw[getElem_toList];exact Array.getElem?_eq_getElem _
  rw[ea,eb]
  exact this
 rcases lt_or_ge i j with z|z
 ·exact key i j z hj
 ·exact(key j i (by lia) hi).symm
noncomputable def Srt(κ:Nat→List Int)(p:Array Nat)(a:Nat):Prop:=∀i j,i<j→j<a→lxI (gK κ p i) (gK κ p j)=true
noncomputable def Dsc(κ:Nat→List Int)(p:Array Nat)(a:Nat):Prop:=∀i j,i<j→j<a→lxI (gK κ p j) (gK κ p i)=true
variable(inj:∀i j,i<n→j<n→κ i=κ j→i=j)
include inj
theorem zm6(h:PmK n p){i j:Nat}(hi:i<n)(hj:j<n)(hij:i≠j):gK κ p i≠gK κ p j:=fun e=>
 zg7 h hi hj hij (inj _ _ (uS h (by lia) i) (uS h (by lia) j) e)
theorem GG(h:PmK n p){a:Nat}(hs:Srt κ p a)(h1:1≤a)(ha:a<n)(e:lxI (gK κ p a) (gK κ p (a-1))=false):Srt κ p (a+1):=fun i j hij hj=>by
 rcases lt_or_ge j a with z|z
 ·exact hs i j hij z
 ·obtain rfl:j=a:=by lia
  have l:=Yz e (zm6 inj h ha (by lia) (by lia))
  by_cases hi:i=j-1
  ·subst hi;exact l
  ·exact vf _ _ _ (hs i (j-1) (by lia) (by lia)) l
omit inj in
theorem UA{a:Nat}(hs:Dsc κ p a)(h1:1≤a)(e:lxI (gK κ p a) (gK κ p (a-1))=true):Dsc κ p (a+1):=fun i j hij hj=>by
 rcases lt_or_ge j a with z|z
 ·exact hs i j hij z
 ·obtain rfl:j=a:=by lia
  by_cases hi:i=j-1
  ·subst hi;exact e
  ·exact vf _ _ _ e (hs i (j-1) (by lia) (by lia))
theorem Jl(hp:PmK n p):∀(f a:Nat),1≤a→a+f≤n→Srt κ p a →
  Pw (ltK κ) n (kas_asc p f a) fun m=>a≤m∧m≤a+f∧Srt κ p m∧(m<a+f→lxI (gK κ p m) (gK κ p (m-1))=true):=by
 intro l_
 induction l_ with
 |zero=>
  rintro a h1 h2 hs
  exact⟨le_refl _,le_refl _,hs,fun z=>absurd z (lt_irrefl _)⟩
 |succ f ih_=>
  rintro a h1 h2 hs
  unfold kas_asc
  refine⟨uS hp (by lia) _,uS hp (by lia) _,?_⟩
  rcases e:ltK κ (p.getD a 0) (p.getD (a-1) 0) with _|_
  ·refine zg1 ?_
   refine Pw.mono (fun m ⟨q1,q2,q3,q4⟩=>⟨by lia,by lia,q3,fun z=>q4 (by lia)⟩) _ (ih_ (a+1) (by lia) (by lia) (GG inj hp hs h1 (by lia) e))
  ·refine GT ?_
   exact⟨le_refl _,by lia,hs,fun _=>e⟩
theorem Qm(hp:PmK n p):∀(f a:Nat),1≤a→a+f≤n→Dsc κ p a →
  Pw (ltK κ) n (kas_desc f p a 0) fun r=>r.1=p∧r.2.2=0∧a≤r.2.1∧r.2.1≤a+f∧Dsc κ p r.2.1:=by
 intro l_
 induction l_ with
 |zero=>
  rintro a h1 h2 hs
  exact⟨rfl,rfl,le_refl _,le_refl _,hs⟩
 |succ f ih_=>
  rintro a h1 h2 hs
  unfold kas_desc
  refine⟨uS hp (by lia) _,uS hp (by lia) _,?_⟩
  rcases e:ltK κ (p.getD a 0) (p.getD (a-1) 0) with _|_
  ·refine zg1 ?_
   refine⟨uS hp (by lia) _,uS hp (by lia) _,?_⟩
   have e2:ltK κ (p.getD (a-1) 0) (p.getD a 0)=true:=Yz e (zm6 inj hp (by lia) (by lia) (by lia))
   rw[e2]
   refine GT ?_
   exact⟨rfl,rfl,le_refl _,Nat.le_add_right _ _,hs⟩
  ·refine GT ?_
   rw[if_neg (by lia)]
   refine Pw.mono (fun m ⟨q1,q2,q3,q4,q5⟩=>⟨q1,q2,by lia,by lia,q5⟩) _ (ih_ (a+1) (by lia) (by lia) (UA hs h1 e))
omit inj in
theorem ze4(hp:PmK n p){m:Nat}(hm:m≤n)(k:Nat):gK κ (kas_rev p 0 m) k=if k<m then gK κ p (m-1-k) else gK κ p k:=by
 unfold gK
 rw[wC,show(kas_rev p 0 m)[k]?=_ from getElem?_mirror_all (by rw[Yt hp];exact hm) k]
 by_cases z:k<m
 ·rw[if_pos ⟨zero_le _,z⟩,if_pos z,← wC,zero_add]
 ·rw[if_neg (fun y=>z y.2),if_neg z,← wC]
omit inj in
theorem G1(hp:PmK n p)(i j:Nat):PmK n (kas_rev p i j):=(Array.perm_iff_toList_perm.mp (mirror_perm p i j ((j-i) / 2))).trans hp
omit inj in
theorem TW(hp:PmK n p){m:Nat}(hm:m≤n)(hd:Dsc κ p m):Srt κ (kas_rev p 0 m) m:=fun i j hij hj=>by
 rw[ze4 hp hm,ze4 hp hm,if_pos (by lia),if_pos hj]
 exact hd _ _ (by lia) (by lia)
theorem GB(hp:PmK n p){m:Nat}(h1:1≤m)(hm:m≤n)(hd:Dsc κ p m):Pw (ltK κ) n (kas_tail3 m n p) fun r=>PmK n r.2∧1≤r.1∧r.1≤n∧Srt κ r.2 r.1:=by
 unfold kas_tail3
 refine Pw.bind _ (Pw.mono (fun m' z_=>?_) _ (Jl inj (G1 hp 0 m) (n-m) m h1 (by lia) (TW hp hm hd)))
 refine X03 z_ fun q1 q2 q3 q4=>?_
 exact⟨G1 hp 0 m,by lia,by lia,q3⟩
theorem Ti(hp:PmK n p)(hn:2≤n):Pw (ltK κ) n (kas_count n p) fun r=>PmK n r.2∧1≤r.1∧r.1≤n∧Srt κ r.2 r.1:=by
 unfold kas_count
 refine Pw.bind _ (Pw.mono (fun m z_=>?_) _ (Jl inj hp (n-1) 1 (le_refl _) (by lia) fun i j hij hj=>by lia))
 refine X03 z_ fun q1 q2 q3 q4=>?_
 by_cases e:m=n
 ·rw[if_pos (by simpa using e)]
  exact⟨hp,by lia,by lia,q3⟩
 ·rw[if_neg (by simpa using e)]
  have l:=q4 (by lia)
  by_cases z:m > 1
  ·rw[if_pos z]
   refine⟨uS hp (by lia) _,uS hp (by lia) _,?_⟩
   have:ltK κ (p.getD 0 0) (p.getD (m-1) 0)=true:=q3 0 (m-1) (by lia) (by lia)
   rw[this]
   refine GT ?_
   exact⟨hp,by lia,by lia,q3⟩
  ·rw[if_neg z]
   obtain rfl:m=1:=by lia
   unfold kas_descPart
   have d1:Dsc κ p 1:=fun i j hij hj=>by lia
   refine Pw.bind _ (Pw.mono (fun r z_=>?_) _ (Qm inj hp (n-(1+1)) (1+1) (by lia) (by lia) (UA d1 (le_refl _) l)))
   refine X04 z_ fun r1 r2 r3 r4 r5=>?_
   rw[if_neg (by lia),r1]
   exact GB inj hp (by lia) (by lia) r5
theorem YS(hp:PmK n p){k:Nat}(hk:k<n)(hs:Srt κ p k):∀(f l r:Nat),l≤r→r≤k→r-l≤f→(∀i,i<l→lxI (gK κ p i) (gK κ p k)=true)→(∀i,r≤i→i<k→lxI (gK κ p k) (gK κ p i)=true) →
  Pw (ltK κ) n (kas_place p k f l r) fun m=>m≤k∧(∀i,i<m→lxI (gK κ p i) (gK κ p k)=true)∧(∀i,m≤i→i<k→lxI (gK κ p k) (gK κ p i)=true):=by
 intro l_
 induction l_ with
 |zero=>
  rintro l r h1 h2 h3 h4 h5
  obtain rfl:l=r:=by lia
  exact⟨h2,h4,h5⟩
 |succ f ih_=>
  rintro l r h1 h2 h3 h4 h5
  unfold kas_place
  by_cases z:l ≥ r
  ·rw[if_pos z]
   obtain rfl:l=r:=by lia
   exact⟨h2,h4,h5⟩
  ·rw[if_neg z]
   refine⟨uS hp (by lia) _,uS hp (by lia) _,?_⟩
   rcases e:ltK κ (p.getD k 0) (p.getD ((l+r) / 2) 0) with _|_
   ·refine zg1 ?_
    refine ih_ ((l+r) / 2+1) r (by lia) (by lia) (by lia) (fun i hi=>?_) h5
    have e2:=Yz e (zm6 inj hp hk (by lia) (by lia))
    by_cases q:i=(l+r) / 2
    ·subst q;exact e2
    ·exact vf _ _ _ (hs i _ (by lia) (by lia)) e2
   ·refine GT ?_
    refine ih_ l ((l+r) / 2) (by lia) (by lia) (by lia) h4 fun i hi hik=>?_
    by_cases q:i=(l+r) / 2
    ·subst q;exact e
    ·exact vf _ _ _ e (hs _ i (by lia) hik)
omit inj in
theorem ze5(hp:PmK n p){k l:Nat}(hk:k<n)(hl:l≤k)(i:Nat):gK κ (bubble p k (k-l)) i=if i=l then gK κ p k else if l<i∧i≤k then gK κ p (i-1) else gK κ p i:=by
 unfold gK
 rw[wC,getElem?_bubble (by rw[Yt hp];exact hk) (k-l) (by lia) i,show k-(k-l)=l by lia]
 split
 ·rw[← wC]
 ·split
  ·rw[← wC]
  ·rw[← wC]
theorem To:∀(f:Nat) (p:Array Nat) (k:Nat),PmK n p→k+f=n→Srt κ p k→Pw (ltK κ) n (kas_bin f p k) fun q=>PmK n q∧Srt κ q n:=by
 intro l_
 induction l_ with
 |zero=>
  rintro p k hp e hs
  obtain rfl:k=n:=by lia
  exact⟨hp,hs⟩
 |succ f ih_=>
  rintro p k hp e hs
  unfold kas_bin
  refine Pw.bind _ (Pw.mono (fun l z_=>?_) _ (YS inj hp (by lia) hs k 0 k (zero_le _) (le_refl _) (by lia) (fun i hi=>by lia) (fun i hi hik=>by lia)))
  refine X02 z_ fun q1 q2 q3=>?_
  refine ih_ _ (k+1) ((Array.perm_iff_toList_perm.mp (bubble_perm p k (k-l))).trans hp) (by lia) fun i j hij hj=>?_
  rw[ze5 hp (by lia) q1,ze5 hp (by lia) q1]
  by_cases a1:i=l
  ·rw[if_pos a1,if_neg (by lia),if_pos (by lia)]
   exact q3 _ (by lia) (by lia)
  ·rw[if_neg a1]
   by_cases a2:l<i∧i≤k
   ·rw[if_pos a2,if_neg (by lia),if_pos (by lia)]
    exact hs _ _ (by lia) (by lia)
   ·rw[if_neg a2]
    by_cases b1:j=l
    ·rw[if_pos b1];exact q2 _ (by lia)
    ·rw[if_neg b1]
     by_cases b2:l<j∧j≤k
     ·rw[if_pos b2]
      by_cases c:i=j-1
      ·lia
      ·exact hs _ _ (by lia) (by lia)
     ·rw[if_neg b2];exact hs _ _ hij (by lia)
theorem TZ(hn:2≤n):Pw (ltK κ) n (kas_sort n) fun q=>PmK n q∧Srt κ q n:=by
 unfold kas_sort
 refine Pw.bind _ (Pw.mono (fun r z_=>?_) _ (Ti inj (p:=List.toArray (List.range n)) (by show(List.toArray (List.range n)).toList.Perm _;simp) hn))
 refine X03 z_ fun q1 q2 q3 q4=>?_
 by_cases z:r.1<n
 ·rw[if_pos z,Nat.max_eq_left q2]
  exact To inj _ _ _ q1 (by lia) q4
 ·rw[if_neg z]
  obtain e:r.1=n:=by lia
  rw[e] at q4
  exact⟨q1,q4⟩
end
noncomputable def Xs{α:Type}(x:List Int×α):List (List Int×α)→List (List Int×α)
 |[]=>[x]
 |y::r=>if lxI x.1 y.1=true then x::y::r else y::Xs x r
noncomputable def wP{α:Type}:List (List Int×α)→List (List Int×α)
 |[]=>[]
 |x::r=>Xs x (wP r)
theorem ZY{α:Type}(x:List Int×α):∀l,(Xs x l).Perm (x::l):=by
 intro l_
 induction l_ with
 |nil=>
  exact List.Perm.refl _
 |cons y r ih_=>
  unfold Xs
  split
  ·exact List.Perm.refl _
  ·exact((ih_).cons y).trans (List.Perm.swap x y r)
theorem up{α:Type}:∀l:List (List Int×α),(wP l).Perm l:=by
 intro l_
 induction l_ with
 |nil=>
  exact List.Perm.refl _
 |cons x r ih_=>
  exact(ZY x _).trans ((ih_).cons x)
theorem Uq{α:Type}(x:List Int×α):∀l:List (List Int×α),l.Pairwise (fun a b=>lxI a.1 b.1=true)→(∀y∈l,y.1≠x.1)→(Xs x l).Pairwise fun a b=>lxI a.1 b.1=true:=by
 intro l_
 induction l_ with
 |nil=>
  rintro _ _
  unfold Xs;simp
 |cons y r ih_=>
  rintro h hd
  unfold Xs
  obtain⟨h1,h2⟩:=pairwise_cons.mp h
  split
  ·rename_i z
   refine pairwise_cons.mpr ⟨fun a ha=>?_,h⟩
   rcases mem_cons.mp ha with rfl|ha
   ·exact z
   ·exact vf _ _ _ z (h1 a ha)
  ·rename_i z
   have z':lxI y.1 x.1=true:=Yz (by simpa using z) (hd y mem_cons_self).symm
   refine pairwise_cons.mpr ⟨fun a ha=>?_,ih_ h2 fun a ha=>hd a (mem_cons_of_mem _ ha)⟩
   rcases mem_cons.mp ((ZY x r).mem_iff.mp ha) with rfl|ha
   ·exact z'
   ·exact h1 a ha
theorem Wj{α:Type}:∀l:List (List Int×α),(l.map (·.1)).Nodup→(wP l).Pairwise fun a b=>lxI a.1 b.1=true:=by
 intro l_
 induction l_ with
 |nil=>
  rintro _
  unfold wP;exact List.Pairwise.nil
 |cons x r ih_=>
  rintro h
  unfold wP
  rw[map_cons,nodup_cons] at h
  refine Uq x _ (ih_ h.2) fun y hy e=>h.1 ?_
  rw[← e]
  exact mem_map.mpr ⟨y,(up r).mem_iff.mp hy,rfl⟩
theorem Wm{α:Type}{r:α→α→Prop}(as:∀a b,r a b→r b a→False):∀{l m:List α},l.Perm m→l.Pairwise r→m.Pairwise r→l=m
 |[],m,p,_,_=>(List.Perm.nil_eq p)
 |a::l,[],p,_,_=>by have:=p.length_eq;simp at this
 |a::l,b::m,p,h1,h2=>by
  obtain⟨x1,x2⟩:=pairwise_cons.mp h1
  obtain⟨y1,y2⟩:=pairwise_cons.mp h2
  by_cases e:a=b
  ·subst e
   rw[Wm as ((List.perm_cons a).mp p) x2 y2]
  ·have ha:a∈b::m:=p.mem_iff.mp mem_cons_self
   have hb:b∈a::l:=p.mem_iff.mpr mem_cons_self
   rcases mem_cons.mp ha with z|z
   ·exact absurd z e
   ·rcases mem_cons.mp hb with w|w
    ·exact absurd w.symm e
    ·exact(as a b (x1 b w) (y1 a z)).elim
theorem UO{α:Type}{l m:List (List Int×α)}(p:l.Perm m)(h:l.Pairwise fun a b=>lxI a.1 b.1=true)(nd:(m.map (·.1)).Nodup):l=wP m:=
 Wm (fun a b x y=>by rw[QZ x] at y;nomatch y) (p.trans (up m).symm) h (Wj m nd)
theorem GI{α:Type}{ks:List (List Int)}{ds:List α}{q:Array Nat}{d:α}(hl:ks.length=ds.length)(nd:ks.Nodup)(hp:q.toList.Perm (List.range ds.length))(hs:Srt (fun i=>ks.getD i []) q ds.length) :
  q.toList.map (fun i=>ds.getD i d)=(wP (ks.zip ds)).map (·.2):=by
 have hz:(ks.zip ds).map (·.1)=ks:=List.map_fst_zip (by lia)
 have e0:(List.range ds.length).map (fun i=>(ks.getD i [],ds.getD i d))=ks.zip ds:=by
  apply List.ext_getElem
  ·simp[hl]
  ·intro i h1 h2
   have a1:i<ds.length:=by simpa using h1
   have a2:i<ks.length:=by lia
   simp[a1,a2]
 have key:q.toList.map (fun i=>(ks.getD i [],ds.getD i d))=wP (ks.zip ds):=by
  refine UO (by rw[← e0];exact hp.map _) ?_ (by rw[hz];exact nd)
  rw[List.pairwise_map,List.pairwise_iff_getElem]
  intro i j hi hj hij
  have sz:q.size=ds.length:=Yt hp
  have:=hs i j hij (by simpa[sz] using hj)
  unfold gK at this
  rw[wC,wC] at this
  have ea:q[i]?=some q.toList[i]:=by rw[getElem_toList];exact Array.getElem?_eq_getElem _
  have eb:q[j]?=some q.toList[j]:=by rw[getElem_toList];exact Array.getElem?_eq_getElem _
  rw[ea,eb] at this
  exact this
 rw[← key,map_map]
 rfl
open PySem.W
noncomputable def KTs(h:Heap):List Value→List (List Int)→Prop
 |[],[]=>True
 |v::vs,k::ks=>(∃a o its n,v=Value.ref a∧h.get? a=some o∧o.cls=.type "tuple" ∧ o.data=.seq its n∧IntsAre its.toList k∧k≠[])∧KTs h vs ks
 |_,_=>False
theorem KTs.len{h:Heap}:∀{vs:List Value} {ks:List (List Int)},KTs h vs ks→vs.length=ks.length
 |[],[],_=>rfl
 |_::vs,_::ks,r=>by rw[length_cons,length_cons,KTs.len r.2]
 |[],_::_,r=>r.elim
 |_::_,[],r=>r.elim
theorem KTs.get{h:Heap}:∀{vs:List Value} {ks:List (List Int)} {i:Nat},KTs h vs ks→i<ks.length→∃a o its n,vs.getD i Value.none=Value.ref a∧h.get? a=some o∧o.cls=.type "tuple" ∧ o.data=.seq its n∧IntsAre its.toList (ks.getD i [])∧ks.getD i []≠[]
 |[],[],_,_,hi=>by simp at hi
 |_::vs,_::ks,0,r,_=>by simpa using r.1
 |_::vs,_::ks,i+1,r,hi=>by
  refine X40 (KTs.get (i:=i) r.2 (by simpa using hi)) fun a o its n q=>?_
  exact⟨a,o,its,n,by simpa using q⟩
 |[],_::_,_,r,_=>r.elim
 |_::_,[],_,r,_=>r.elim
theorem KTs.firsts{h:Heap}:∀{vs:List Value} {ks:List (List Int)},KTs h vs ks→∃fs:List Value,KatTups h vs fs∧fs.length=vs.length∧∀v∈fs,∃n t,v=Value.int n t
 |[],[],_=>Y12 [] KatTups.nil rfl (fun _ z=>nomatch z)
 |v::vs,k::ks,⟨⟨a,o,its,n,e1,e2,e3,e4,e5,e6⟩,r⟩=>by
  refine X12 (KTs.firsts r) fun fs q1 q2 q3=>?_
  subst e1
  have:∃i t,its[0]?=some (Value.int i t):=by
   obtain⟨l⟩:=its
   cases e5 with
   |nil=>exact absurd rfl e6
   |cons i t _=>exact Y20 i t rfl
  refine X20 this fun i t h0=>?_
  refine Y12 _ (KatTups.cons e2 e3 e4 h0 q1) (by simp[q2]) (fun v hv=>?_)
  rcases mem_cons.mp hv with rfl|hv
  ·exact Y20 _ _ rfl
  ·exact q3 v hv
 |[],_::_,r=>r.elim
 |_::_,[],r=>r.elim
section
variable{prog:Program}{w:World}{A:Around}{E:Value→Shared→Prop}{s:Shared}
theorem Q7{vs:List Value}{ks:List (List Int)}{Q:SortKind→Shared→Prop}(h:KTs s.heap vs ks)(hn:0<vs.length)(q:Q (tuples' true) s):wpAny (model prog w) A (keyKind' vs.toArray) Q E s:=by
 refine X12 h.firsts fun fs q1 q2 q3=>?_
 refine kat_kind (T:=.type "int") q1 (by lia) (fun v hv=>?_) (by decide) q
 obtain⟨i,t,rfl⟩:=q3 v hv
 exact Looks.now
theorem Ug{Q:Bool→Shared→Prop}{fin:Bool}:∀{xs ys:List Int} {us ws:List Value} (i:Nat),IntsAre us xs→IntsAre ws ys→fin=decide (xs.length<ys.length)→Q (lxI xs ys) s→KatLex prog w A true fin Q (us.zip ws) i s
 |_,_,_,_,i,.nil,.nil,e,q=>by
  have e:fin=false:=by simpa using e
  subst e
  exact kat_nil q
 |_,_,_,_,i,.nil,.cons _ _ _,e,q=>by
  have e:fin=true:=by simpa using e
  subst e
  exact kat_nil q
 |_,_,_,_,i,.cons _ _ _,.nil,e,q=>by
  have e:fin=false:=by simpa using e
  subst e
  exact kat_nil q
 |_,_,_,_,i,.cons a t r1,.cons b u r2,e,q=>by
  rw[lxI] at q
  refine kat_cons (wpAny_eqBool_int ?_)
  by_cases z:a=b
  ·subst z
   rw[if_pos rfl] at q
   rw[beq_self_eq_true]
   exact kat_yes (Ug (i+1) r1 r2 (by rw[e];simp) q)
  ·rw[if_neg z] at q
   rw[show(a==b)=false by simpa using z]
   refine kat_no ?_
   rcases hi:(true&&i==0) with _|_
   ·exact kat_one _ _ (PyProof.Rows.lt_int (show PySem.W.BoolBack Q (.bool (decide (a<b))) s from q))
   ·exact oneLt_int q
theorem Ts{vs:List Value}{ks:List (List Int)}{n:Nat}(h:KTs s.heap vs ks)(hn:ks.length=n)(i j:Nat)(C:Bool→Shared→Prop)(hi:i<n)(hj:j<n)(q:C (ltK (fun i=>ks.getD i []) i j) s):kas_ask prog w A (tuples' true) vs i j C s:=by
 refine X45 (h.get (i:=i) (by lia)) fun a o its m e1 e2 e3 e4 e5 e6=>?_
 refine X45 (h.get (i:=j) (by lia)) fun a' o' its' m' f1 f2 f3 f4 f5 f6=>?_
 unfold kas_ask
 rw[e1,f1]
 refine kat_lt e2 e4 f2 f4 (Ug 0 e5 f5 ?_ q)
 have l1:=e5.length
 have l2:=f5.length
 rw[length_toList] at l1 l2
 rw[l1,l2]
theorem GN{vs us:List Value}{ks:List (List Int)}{Q:SortSt→Shared→Prop}(h:KTs s.heap vs ks)(hl:vs.length=us.length)(h2:2≤us.length)(h64:us.length<64)(nd:ks.Nodup)
  (q:∀(p:Array Nat) (st:SortSt),PmK us.length p→Srt (fun i=>ks.getD i []) p us.length→(arrOf st).map (·.2)=List.toArray (p.toList.map fun i=>us.getD i Value.none)→failedOf st=none→Q st s) :
  wpAny (model prog w) A ((sortRuns').run (SortSt.mk' (tuples' true) (vs.toArray.zip us.toArray) #[] 7 none)) (fun r s'=>Q r.2 s') E s:=by
 have hk:ks.length=us.length:=by rw[← h.len,hl]
 refine kat_run (G:=fun p s'=>s'=s∧PmK us.length p∧Srt (fun i=>ks.getD i []) p us.length) hl h2 h64 (fun p st' s' h1 h3 h4 h5=>?_) ?_
 ·obtain⟨rfl,h5,h6⟩:=h5
  exact q p st' h5 h6 (kat_snds hl h3) h4
 ·have inj:∀i j,i<us.length→j<us.length→ks.getD i []=ks.getD j []→i=j:=fun i j hi hj e=>by
   have key:∀a b:Nat,a<b→b<us.length→ks.getD a []≠ks.getD b []:=fun a b hab hb=>by
    have:=List.pairwise_iff_getElem.mp nd a b (by lia) (by lia) hab
    have ea:ks.getD a []=ks[a]'(by lia):=by simp[show a<ks.length by lia]
    have eb:ks.getD b []=ks[b]'(by lia):=by simp[show b<ks.length by lia]
    rw[ea,eb];exact this
   rcases Nat.lt_trichotomy i j with z|z|z
   ·exact absurd e (key i j z hj)
   ·exact z
   ·exact absurd e.symm (key j i z hi)
  exact Pw.wp (fun i j C hi hj=>Ts h hk i j C hi hj) (fun p hp=>⟨rfl,hp⟩) _ (TZ (κ:=fun i=>ks.getD i []) inj h2)
end
noncomputable def Xr:List D→Option (List Int)
 |[]=>some []
 |.int i::r=>(Xr r).map (i :: ·)
 |_=>none
noncomputable def L3:D→Option (List Int)
 |.tup ds=>Xr ds
 |_=>none
theorem Uo:∀{ds:List D} {ns:List Int},Xr ds=some ns→ds=ns.map D.int
 |[],ns,h=>by cases h;rfl
 |.int i::r,ns,h=>by
  simp only[Xr] at h
  rcases q:Xr r with _|m
  ·rw[q] at h;cases h
  ·rw[q] at h;cases h;rw[Uo q];rfl
 |.non::_,_,h=>by cases h
 |.bl _::_,_,h=>by cases h
 |.str _::_,_,h=>by cases h
 |.lst _::_,_,h=>by cases h
 |.tup _::_,_,h=>by cases h
 |.scr _::_,_,h=>by cases h
 |.raw _::_,_,h=>by cases h
 |.exc _::_,_,h=>by cases h
 |.dct _ _::_,_,h=>by cases h
theorem L1{d:D}{ns:List Int}(h:L3 d=some ns):d=.tup (ns.map D.int):=by
 cases d <;> first|cases h|skip
 rename_i ds
 rw[Uo (ds:=ds) h]
noncomputable def Yg:List D→Option (List (List Int))
 |[]=>some []
 |d::r=>match L3 d,Yg r with
  |some k,some ks=>some (k::ks)
  |_,_=>none
theorem Uj:∀{ds:List D} {ks:List (List Int)},Yg ds=some ks→ds=ks.map fun k=>D.tup (k.map D.int)
 |[],ks,h=>by cases h;rfl
 |d::r,ks,h=>by
  simp only[Yg] at h
  rcases q:L3 d with _|k
  ·rw[q] at h;nomatch h
  ·rcases q2:Yg r with _|ks'
   ·rw[q,q2] at h;nomatch h
   ·rw[q,q2] at h;replace h:=sI_ h;subst h
    rw[L1 q,Uj q2];rfl
section
variable {X:Cx}{pins:List (Addr×Obj)}{σ:St}{F H:Hp}{s:Shared}
theorem Xq:∀{ns:List Int} {vs:List V} {us:List Value},Reps X.K F (ns.map D.int) vs→Vals vs us→IntsAre us ns
 |[],_,_,r,v=>by
  simp only[map_nil,Reps] at r;subst r
  cases v;exact .nil
 |n::ns,_,_,r,v=>by
  simp only[map_cons,Reps] at r
  obtain⟨x,xs,rfl,rx,rr⟩:=r
  simp only[Rep] at rx
  subst rx
  cases v with
  |cons e t=>
   rename_i u us
   obtain⟨t',e⟩:∃t',u=Value.int n t':=e
   subst e
   exact .cons _ _ (Xq rr t)
theorem MS(I:Inv X pins σ H s)(fh:Same F H):∀{ks:List (List Int)} {vs:List V} {us:List Value},Reps X.K F (ks.map fun k=>D.tup (k.map D.int)) vs→Vals vs us→(∀k∈ks,k≠[])→KTs s.heap us ks
 |[],_,_,r,v,_=>by
  simp only[map_nil,Reps] at r;subst r
  cases v;exact trivial
 |k::ks,_,_,r,v,ne=>by
  simp only[map_cons,Reps] at r
  obtain⟨x,xs,rfl,rx,rr⟩:=r
  simp only[Rep] at rx
  obtain⟨a,ws,rfl,q,t⟩:=rx
  obtain⟨its,rv,⟨o,eo,hc,n,hd⟩,hz⟩:=I.tuple (Same.seqT fh q)
  cases v with
  |cons e tl=>
   rename_i u us
   have e:u=Value.ref a:=e
   subst e
   exact⟨⟨a,o,its.toArray,n,rfl,eo,hc,hd,by simpa using Xq t rv,ne k mem_cons_self⟩,MS I fh rr tl fun k hk=>ne k (mem_cons_of_mem _ hk)⟩
theorem Reps.pick{K:Frag}{ds:List D}{vs:List V}(r:Reps K F ds vs):∀(q:List Nat),(∀i∈q,i<ds.length)→Reps K F (q.map fun i=>ds.getD i .non) (q.map fun i=>vs.getD i .non):=by
 intro l_
 induction l_ with
 |nil=>
  rintro _
  exact Reps.nil
 |cons i q ih_=>
  rintro h
  have hi:=h i mem_cons_self
  refine X11 (r.get (i:=i) (getElem?_eq_getElem hi)) fun v e1 e2=>?_
  have z1:ds.getD i .non=ds[i]:=by simp[hi]
  have z2:vs.getD i .non=v:=by simp[e1]
  rw[map_cons,map_cons,z1,z2]
  exact Reps.cons e2 (ih_ fun j hj=>h j (mem_cons_of_mem _ hj))
theorem Wa{vs:List V}{us:List Value}(r:Vals vs us):∀(q:List Nat),(∀i∈q,i<vs.length)→Vals (q.map fun i=>vs.getD i .non) (q.map fun i=>us.getD i .none):=by
 intro l_
 induction l_ with
 |nil=>
  rintro _
  exact .nil
 |cons i q ih_=>
  rintro h
  have hi:=h i mem_cons_self
  refine X11 (r.get (i:=i) (getElem?_eq_getElem hi)) fun u e1 e2=>?_
  have z1:vs.getD i .non=vs[i]:=by simp[hi]
  have z2:us.getD i .none=u:=by simp[e1]
  rw[map_cons,map_cons,z1,z2]
  exact .cons e2 (ih_ fun j hj=>h j (mem_cons_of_mem _ hj))
end
open PySem.W
section
variable{X:Cx}{pins:List (Addr×Obj)}{σ:St}{F H:Hp}{τ:DS}{s:Shared}{Q:VK}{E:Value→Shared→Prop}
theorem Inv.relist(I:Inv X pins σ H s){a:Addr}{xs ys:List V}{us ws:List Value}{n:Nat}{g:Array Value→Array Value}(e:H a=some (.lst xs))(o:s.heap.get? a=some (seqObj "list" us.toArray n))(hg:g us.toArray=ws.toArray)(r:Vals ys ws)(hz:ys.length≤sizeLine) :
  Inv X pins σ (upd H a (.lst ys)) { s with heap:=s.heap.update a (Obj.mapSeq g) }:=by
 have h1:=get?_update_seq o g
 rw[hg] at h1
 exact I.write (t':=s.toks) (by rw[e];exact trivial) (.inl rfl) (fun b u hb q=>by rw[Heap.get?_update_ne _ _ _ _ hb];exact q) ⟨_,h1⟩ ⟨hz,ws,_,r,h1⟩
theorem Inv.settle(I:Inv X (pins++[p]) σ H s){D:Addr}{n:Nat}{ys:List V}{ws:List Value}{g:Array Value→Array Value}(hp:p=(D,seqObj "list" #[] n))(hg:g #[]=ws.toArray)(r:Vals ys ws)(hz:ys.length≤sizeLine)
  (h0:X.s₀.heap.objs.size≤D) (hc:∀x c,X.env.cells.lookup x=some c→c≠D) (hn:∀q∈X.pn++pins,q.1≠D):Inv X pins σ (upd H D (.lst ys)) { s with heap:=s.heap.update D (Obj.mapSeq g) }:=by
 subst hp
 refine X04 (I.pin (D,seqObj "list" #[] n) (by simp)) fun e nD neL nf _=>?_
 have J:Inv X pins σ H s:=I.pins_of fun q hq=>I.pin q (mem_append_right _ (mem_append_left _ hq))
 have h1:=get?_update_seq e g
 rw[hg] at h1
 have kp:∀b u,b≠D→s.heap.get? b=some u→(s.heap.update D (Obj.mapSeq g)).get? b=some u:=fun b u hb q=>by rw[Heap.get?_update_ne _ _ _ _ hb];exact q
 refine J.step (g':=s.gens) (d':=s.drawn) (t':=s.toks) (ch:=[D]) (fun b hb=>?_) (fun b o _ _ hb q _=>kp b o (by simpa using hb) q) (fun b o _ _ hb q _=>⟨o.slots,kp b o (by simpa using hb) q⟩) (fun b o hb _ q=>by rw[zp (by simpa using hb)];exact q)
  (fun b o hb q=>⟨o,kp b o (by simpa using hb) q⟩) (fun b xs q=>by rw[zp (zI q nD)];exact q) (fun b o u q=>by rw[zp (zI q nD)];exact q) (fun b ps q=>⟨#[],by rw[zp (zI q nD),q];simp⟩) (fun m hm=>?_) ?_ J.bare
 ·have:b=D:=by simpa using hb
  subst this
  exact⟨.inr h0,neL,hc,hn⟩
 ·refine X31 hm fun o es ep ho r'=>?_
  exact Y31 o es ep (kp _ o (Ne.symm neL) ho) r'
 ·intro b u q
  by_cases hb:b=D
  ·subst hb
   rw[zr] at q;replace q:=sI_ q;subst q
   exact⟨hz,ws,_,r,h1⟩
  ·rw[zp hb] at q
   refine(J.hok b u q).stay (fun c v hc' q'=>kp c v ?_ q') (fun c q'=>by rw[zp (zI q' nD)];exact q') fun c xs q'=>by rw[zp (zI q' nD)];exact q'
   rcases hc' with z|z
   ·rw[z];exact hb
   ·exact zI z nD
theorem Qt:Vals ([]:List V) []:=.nil
theorem Js{D kS:Addr}{e1:Nat}{st:SortSt}{kvs ovs:List V}{out:List Value}{P:PySem.Fin→Shared→Prop}{A:Around}(I:Inv X (pins++[(D,seqObj "list" #[] e1)]) σ H s)(hk:H kS=some (.lst kvs))(hout:(arrOf st).map (·.2)=List.toArray out)(hf:failedOf st=none)(hz:out.length<64)
  (r:Vals ovs out) (hkz:kvs.length≤sizeLine) (h0:X.s₀.heap.objs.size≤D) (hc:∀x c,X.env.cells.lookup x=some c→c≠D) (hn:∀q∈X.pn++pins,q.1≠D)
  (h:∀s',Inv X pins σ (upd (upd H kS (.lst [])) D (.lst ovs)) s'→P (.done (.ret .none)) s'):wpAny (model X.prog X.w) A (ksk_tail D false e1 (.ref kS) st) P E s:=by
 refine X01 (I.hok kS _ hk) fun z1 r39_=>?_;refine X21 r39_ fun its n rk ek=>?_
 have lk:its.length≤sizeLine:=by rw[← rk.length];exact hkz
 have I1:=Inv.relist (g:=fun _=>#[]) I hk ek (ws:=[]) rfl Qt (zero_le _)
 refine X02 (I1.pin (D,seqObj "list" #[] e1) (by simp)) fun eD nD _=>?_
 unfold ksk_tail
 try dsimp only
 refine wpAny_bind (listUpdate_at ek rfl ?_ (by rw[size_toArray];exact lk) (zero_le _))
 refine wpAny_bind (wpAny_letGo ?_)
 refine wpAny_bind (seqEpoch_at eD rfl ?_)
 refine wpAny_bind (listUpdate_at eD rfl ?_ (zero_le _) ?_)
 ·rw[hf]
  simp only[bne_self_eq_false,Bool.false_eq_true,if_false]
  exact wpAny_pure (h _ (Inv.settle I1 rfl (ws:=out) hout r (by rw[r.length];exact le_of_lt (vc (by lia))) h0 hc hn))
 ·simp only[Bool.false_eq_true,if_false]
  rw[hout,size_toArray]
  exact le_trans (le_of_lt (vc (by lia))) (Nat.le_succ _)
theorem UN:∀{kz:List (List Int)} {ds:List D},kz.length=ds.length→ds.length<2→(wP (kz.zip ds)).map (·.2)=ds
 |[],[],_,_=>rfl
 |[a],[b],_,_=>rfl
 |[],_::_,h,_=>by simp at h
 |[_],[],h,_=>by simp at h
 |[_],_::_::_,h,_=>by simp at h
 |_::_::_,ds,h,h2=>by simp at h;lia
theorem zm9{Da kS:Addr}{e1:Nat}{kvs vs:List V}{us:List Value}{ds:List D}{kz:List (List Int)}{P:PySem.Fin→Shared→Prop}{A:Around}(I:Inv X (pins++[(Da,seqObj "list" #[] e1)]) σ H s)(hk:H kS=some (.lst kvs)){ks:List Value}{n:Nat}(ek:s.heap.get? kS=some (seqObj "list" ks.toArray n))(rk:Vals kvs ks)
  (fh:Same F H) (kr:Reps X.K F (kz.map fun k=>FD.D.tup (k.map FD.D.int)) kvs) (ne:∀k∈kz,k≠[]) (nd:kz.Nodup) (hl:kz.length=ds.length) (rs:Reps X.K F ds vs) (rv:Vals vs us) (hz:us.length<64)
  (h0:X.s₀.heap.objs.size≤Da) (hc:∀x c,X.env.cells.lookup x=some c→c≠Da) (hn:∀q∈X.pn++pins,q.1≠Da)
  (h:∀s' ovs,Inv X pins σ (upd (upd H kS (.lst [])) Da (.lst ovs)) s'→Reps X.K F ((wP (kz.zip ds)).map (·.2)) ovs→P (.done (.ret .none)) s'):wpAny (model X.prog X.w) A (ksk_end Da false us.toArray e1 (.ref kS) ks.toArray) P E s:=by
 have l1:ds.length=us.length:=by rw[rs.length,rv.length]
 have l2:ks.length=us.length:=by rw[← rk.length,← kr.length,length_map,hl,l1]
 have hkz:kvs.length≤sizeLine:=by rw[rk.length,l2];exact le_of_lt (vc (by lia))
 unfold ksk_end
 try dsimp only
 simp only[Bool.false_eq_true,if_false]
 by_cases h2:us.length<2
 ·have h2':us.toArray.size<2:=by rw[size_toArray];exact h2
  rw[if_pos h2',if_pos h2']
  refine wpAny_bind (wpAny_pure ?_)
  rw[StateT.run_pure]
  refine wpAny_bind (wpAny_pure ?_)
  try dsimp only
  refine Js (out:=us) (ovs:=vs) I hk ?_ rfl hz rv hkz h0 hc hn fun s' J=>h s' vs J ?_
  ·show((ks.toArray.zip us.toArray).map (·.2))=us.toArray
   apply Array.toList_inj.mp
   rw[Array.toList_map,ksk_zip]
   exact List.map_snd_zip (by simp[l2])
  ·rw[UN hl (by lia)];exact rs
 ·have h2':¬ us.toArray.size<2:=by rw[size_toArray];exact h2
  rw[if_neg h2',if_neg h2']
  have kt:=MS I fh kr rk ne
  refine wpAny_bind (Q7 kt (by lia) ?_)
  refine wpAny_bind (GN (Q:=fun st s'=>wpAny (model X.prog X.w) A (ksk_tail Da false e1 (.ref kS) st) P E s') kt l2 (by lia) hz nd fun p st h3 h4 h5 h6=>?_)
  have hp:∀i∈p.toList,i<us.length:=fun i hi=>by simpa using h3.mem_iff.mp hi
  refine Js (ovs:=p.toList.map fun i=>vs.getD i .non) I hk h5 h6 ?_ (Wa rv _ fun i hi=>by rw[rv.length];exact hp i hi) hkz h0 hc hn fun s' J=>h s' _ J ?_
  ·rw[length_map,h3.length_eq,length_range];exact hz
  ·rw[← GI (q:=p) (d:=.non) hl nd (by rw[l1];exact h3) (by rw[l1];exact h4)]
   exact Reps.pick rs _ fun i hi=>by rw[l1];exact hp i hi
end
open PySem.W
section
variable{X:Cx}{pins:List (Addr×Obj)}{σ:St}{F H:Hp}{τ:DS}{s:Shared}{Q:VK}{E:Value→Shared→Prop}
theorem UM{l f:Addr}{ds:List D}{vs:List V}{kz:List (List Int)}(I:Inv X pins σ H s)(fh:Same F H)(hl:F l=some (.lst vs))(rs:Reps X.K F ds vs)(h64:ds.length<64)(hk:kz.length=ds.length)(nd:kz.Nodup)(ne:∀k∈kz,k≠[])
  (key:∀(i:Nat) (d:D) (k:List Int),ds[i]?=some d→kz[i]?=some k→∀(pins':List (Addr×Obj)) (s':Shared) (F' H':Hp) (v:V) (u:Value) (Q':VK),Inv X pins' σ H' s'→(∀p∈pins,p∈pins')→Ext F H F' H'→Rep X.K F' d v→RelV v u →
   (∀kv F'' H'',Ext F' H' F'' H''→Rep X.K F'' (.tup (k.map D.int)) kv→Q' kv H'')→wpAny (model X.prog X.w) X.A.in1.in1 (call (.ref f) [u]) (EP X pins' σ Q') (fun _ _=>False) s')
  (hQ:∀Da F' H',Ext F H F' H'→Rep X.K F' (.lst ((wP (kz.zip ds)).map (·.2))) (.ref Da)→Q (.ref Da) H') :
  wpAny (model X.prog X.w) X.A (call (.builtin "sorted") [.ref l] [(Str.ofString "key", .ref f)]) (EP X pins σ Q) E s:=by
 obtain⟨us,rv,⟨o,nn,eo,hc,hd0,hd⟩,hz⟩:=I.list (SqL.of (K:=X.K) (fh _ _ hl))
 have hil:s.heap.IsList l us.toArray:=⟨o,eo,hc,nn,hd⟩
 have l1:ds.length=us.length:=by rw[rs.length,rv.length]
 have sz:us.length≤sizeLine:=le_of_lt (vc (by lia))
 refine call_function_entry_kw kind_sorted plain_sorted entry_sorted (ksk_s1 _ _) ?_
 unfold Builtin.«sorted»
 refine wpAny_bind (m:=checkCount "sorted" 1 1 _) (wpAny_pure ?_)
 refine wpAny_bind (collect_list hil ?_ sz)
 refine wpAny_bind (wpAny_newList ?_ sz)
 have keep1:∀b u,s.heap.get? b=some u→((s.heap.push (seqObj "list" #[] 0)).update s.heap.objs.size (Obj.mapSeq (· ++ us.toArray))).get? b=some u:=fun b u q=>by
  have hb:b<s.heap.objs.size:=Heap.lt_size q
  rw[Heap.get?_update_ne _ _ _ _ (ne_of_lt hb),Heap.get?_push_ne _ _ _ (ne_of_lt hb)]
  exact q
 have size1:s.heap.objs.size≤((s.heap.push (seqObj "list" #[] 0)).update s.heap.objs.size (Obj.mapSeq (· ++ us.toArray))).objs.size:=by rw[Heap.size_update,size_push'];lia
 generalize hh1:(s.heap.push (seqObj "list" #[] 0)).update s.heap.objs.size (Obj.mapSeq (· ++ us.toArray))=h1 at keep1 size1
 have hD:(h1.push (seqObj "list" us.toArray 0)).get? h1.objs.size=some (seqObj "list" us.toArray 0):=Heap.get?_push_size _ rfl
 have keep2:∀b u,s.heap.get? b=some u→(h1.push (seqObj "list" us.toArray 0)).get? b=some u:=fun b u q=>get?_push_of_some _ (keep1 b u q)
 generalize hDa:h1.objs.size=Da at hD size1
 have neD:∀b u,s.heap.get? b=some u→b≠Da:=fun b u q=>ne_of_lt (lt_of_lt_of_le (Heap.lt_size q) size1)
 generalize hh2:h1.push (seqObj "list" us.toArray 0)=h2 at hD keep2
 have ltD:Da<h2.objs.size:=Heap.lt_size hD
 refine wpAny_bind (wpAny_holding (wpAny_call_entry_kw (rest:=[]) slot_list_sort ⟨_,hD,rfl⟩ entry_list_sort ?_ (ksk_l1 _ _)))
 show wpAny (model X.prog X.w) X.A.in1.in1 (Builtin.«list.sort» ⟨[.ref Da],[(Str.ofString "key", .ref f)]⟩) _ _ _
 rw[ksk_t1 f Da]
 unfold ksk_tree
 refine wpAny_bind (listItems_at hD rfl ?_)
 refine wpAny_bind (listUpdate_at hD rfl ?_ (by rw[size_toArray];exact sz) (zero_le _))
 have keep3:∀b u,s.heap.get? b=some u→(h2.update Da (Obj.mapSeq fun _=>(#[]:Array Value))).get? b=some u:=fun b u q=>by
  rw[Heap.get?_update_ne _ _ _ _ (neD b u q)];exact keep2 b u q
 obtain⟨e1,hD3⟩:∃e1,(h2.update Da (Obj.mapSeq fun _=>(#[]:Array Value))).get? Da=some (seqObj "list" #[] e1):=⟨_,get?_update_seq hD fun _=>#[]⟩
 generalize h2.update Da (Obj.mapSeq fun _=>(#[]:Array Value))=h3 at keep3 hD3
 refine wpAny_bind (seqEpoch_at hD3 rfl ?_)
 refine wpAny_bind (wpAny_newTuple ?_ (by show us.length≤sizeLine;exact sz))
 refine wpAny_bind (wpAny_newList ?_ (zero_le _))
 refine wpAny_holding ?_
 have hDa0:s.heap.objs.size≤Da:=size1
 have nH:H Da=none:=I.hok.fresh hDa0
 have neL:Da≠X.env.locals:=(ne_of_lt (lt_of_lt_of_le I.lt hDa0)).symm
 have pinD:∀q∈X.pn++pins,q.1≠Da:=fun q hq=>neD _ _ (I.pin q hq).1
 have cellD:∀x c,X.env.cells.lookup x=some c→c≠Da:=fun x c e=>by
  refine X21 (I.cell x c e) fun v oc hoc _=>?_
  exact neD _ _ hoc
 have I1:Inv X pins σ H { s with heap:=h3.push (seqObj "tuple" us.toArray 0) }:=I.kept (t':=s.toks) fun b u q=>get?_push_of_some _ (keep3 b u q)
 have I2:Inv X (pins++[(Da,seqObj "list" #[] e1)]) σ H { s with heap:=h3.push (seqObj "tuple" us.toArray 0) }:=I1.pins_of fun q hq=>by
  rcases mem_append.mp hq with hq|hq
  ·exact I1.pin q (mem_append_right _ hq)
  ·have:q=(Da,seqObj "list" #[] e1):=by simpa using hq
   subst this
   exact⟨get?_push_of_some _ hD3,nH,neL,I.nofs hDa0,fun v z=>nomatch z⟩
 have szk:s.heap.objs.size≤(h3.push (seqObj "tuple" us.toArray 0)).objs.size:=le_of_lt (Nat.lt_of_le_of_lt hDa0 (Heap.lt_size (get?_push_of_some _ hD3)))
 have hkS:H (h3.push (seqObj "tuple" us.toArray 0)).objs.size=none:=I.hok.fresh szk
 have I3:=I2.laid (t':=s.toks) (a:=(h3.push (seqObj "tuple" us.toArray 0)).objs.size) (o:=.lst []) (h':=(h3.push (seqObj "tuple" us.toArray 0)).push (seqObj "list" #[] 0)) (fun b u q=>get?_push_of_some _ q) (le_refl _) ⟨zero_le _,[],0,.nil,Heap.get?_push_size _ rfl⟩
 generalize hkk:(h3.push (seqObj "tuple" us.toArray 0)).objs.size=kS at hkS I3
 have h0D:X.s₀.heap.objs.size≤Da:=le_trans I.sz hDa0
 unfold ksk_rest
 refine wpAny_bind (wpAny_rule ?_)
 first
  | rw[List.forIn_toArray]
  | (rw[← Array.forIn_toList];simp only[List.toList_toArray])
 refine wpAny_bind (ksk_fold (fun i s'=>∃F2 Hm kvs,Ext F H F2 Hm∧Hm kS=none∧Inv X (pins++[(Da,seqObj "list" #[] e1)]) σ (upd Hm kS (.lst kvs)) s'∧Reps X.K F2 ((kz.take i).map fun k=>D.tup (k.map D.int)) kvs) us 0 _
  ⟨F,H,[],Ext.refl fh,hkS,I3,by simpa using Reps.nil⟩ ?step ?done)
 case step=>
  rintro j x s' hx ⟨F2,Hm,kvs,x2,hm,I4,rk⟩
  simp only[zero_add] at rk ⊢
  have hj:j<us.length:=(List.getElem?_eq_some_iff.mp hx).1
  obtain⟨d,hd⟩:∃d,ds[j]?=some d:=⟨_,getElem?_eq_getElem (by lia)⟩
  obtain⟨k,hkj⟩:∃k,kz[j]?=some k:=⟨_,getElem?_eq_getElem (by lia)⟩
  refine X11 (rs.get hd) fun v hv rd=>?_
  refine X11 (rv.get hv) fun u hu ru=>?_
  rw[hx] at hu;replace hu:=sI_ hu;subst hu
  have xo:Ext F2 Hm F2 (upd Hm kS (.lst kvs)):=Ext.open x2.fh hm
  refine wpAny_bind (wpAny_attempt (wpAny_mono (key j d k hd hkj _ s' F2 _ v x (fun kv H''=>∃F'',Ext F2 (upd Hm kS (.lst kvs)) F'' H''∧Rep X.K F'' (.tup (k.map D.int)) kv) I4 (fun p hp=>mem_append_left _ hp) (x2.trans xo) (rd.mono x2.ff) ru (fun kv F'' H'' y r=>Y11 F'' y r)) (fun kval s'' hk''=>?_) fun _ _ z=>z.elim))
  refine X22 hk'' fun kv H'' I5 rkv r38_=>?_;refine X11 r38_ fun F'' x5 rp=>?_
  have hkS5:H'' kS=some (.lst kvs):=x5.hh _ _ zr
  refine X01 (I5.hok kS _ hkS5) fun z1 r37_=>?_;refine X21 r37_ fun its n rki ek=>?_
  have lk:kvs.length=j:=by
   rw[← rk.length,length_map,length_take];lia
  have li:its.length=j:=by rw[← rki.length];exact lk
  have I6:=Inv.relist (g:=(·.push kval)) I5 hkS5 ek (ws:=its++[kval]) (by simp) (rki.append (.cons rkv .nil)) (by rw[length_append,lk];exact le_of_lt (vc (by simp;lia)))
  obtain⟨y1,y2⟩:=Xx x2 hm x5
  try dsimp only
  refine wpAny_bind (listUpdate_at ek rfl ?_ (by rw[size_toArray,li];exact le_of_lt (vc (by lia))) ?_)
  ·refine wpAny_pure ⟨rfl,F'',wx H'' kS,kvs++[kv],y1,vS _ _,by rw[j6];exact I6,?_⟩
   have tk:kz.take (j+1)=kz.take j++[k]:=by
    rw[List.take_add_one,hkj];rfl
   rw[tk,map_append]
   exact(rk.mono x5.ff).append (Reps.cons rp Reps.nil)
  ·rw[Array.size_push,size_toArray,li];exact le_trans (le_of_lt (vc (by lia))) (Nat.le_succ _)
 case done=>
  rintro s' ⟨F2,Hm,kvs,x2,hm,I4,rk⟩
  simp only[zero_add] at rk
  rw[List.take_of_length_le (by lia)] at rk
  refine X01 (I4.hok kS _ zr) fun z1 r36_=>?_;refine X21 r36_ fun ks n rki ek=>?_
  refine wpAny_bind (listItems_at ek rfl ?_)
  have xo:Ext F2 Hm F2 (upd Hm kS (.lst kvs)):=Ext.open x2.fh hm
  refine zm9 I4 zr ek rki xo.fh rk ne nd hk (rs.mono x2.ff) rv (by lia) h0D cellD pinD fun s5 ovs J ro=>?_
  refine Y11 _ rfl (wpAny_pure ⟨_,rfl,.ref Da,_,J,rfl,hQ Da (upd F2 Da (.lst ovs)) _ ?_ ?_⟩)
  ·have hmD:Hm Da=none:=by
    refine X02 (I4.pin (Da,seqObj "list" #[] e1) (by simp)) fun _ nD _=>?_
    by_cases z:Da=kS
    ·rw[z];exact hm
    ·rw[zp z] at nD;exact nD
   have eq1:upd (upd (upd Hm kS (.lst kvs)) kS (.lst [])) Da (.lst ovs)=upd (upd Hm kS (.lst [])) Da (.lst ovs):=by
    congr 1;funext b;unfold upd;split <;> rfl
   rw[eq1]
   have kD:(upd Hm kS (.lst [])) Da=none:=by
    refine X02 (I4.pin (Da,seqObj "list" #[] e1) (by simp)) fun _ nD _=>?_
    by_cases z:Da=kS
    ·rw[z,zr] at nD;nomatch nD
    ·rw[zp z];exact hmD
   exact(x2.trans (Ext.open (o:=.lst []) x2.fh hm)).trans (Ext.new ((x2.trans (Ext.open (o:=.lst []) x2.fh hm)).fh) kD)
  ·have hF:F2 Da=none:=by
    refine X02 (I4.pin (Da,seqObj "list" #[] e1) (by simp)) fun _ nD _=>?_
    exact zO xo.fh nD
   simp only[Rep]
   exact Y22 Da ovs rfl zr (ro.mono (yk hF))
end
open PySem.W
noncomputable def _root_.L2.Cx.lam(X:Cx)(scope:Scope)(N:List Str)(s:Shared)(H:Hp)(qual:Str)(f:Addr)(cd:Value):Cx:=
 { prog:=X.prog,w:=X.w,K:=X.K,mg:=X.mg,base:=X.base,A:=X.A.in1.in1.deeper (envX qual scope s.heap.objs.size f cd (wz scope X.env)),N:=N,s₀:=s,H₀:=H,env:=envX qual scope s.heap.objs.size f cd (wz scope X.env),outer:=X.stack,
   stack:=envX qual scope s.heap.objs.size f cd (wz scope X.env)::X.stack,ex:=[],fn:=fun _=>false,calm:=true,pn:=[],xe:=fun _ _=>False }
section
variable{X:Cx}{scope:Scope}{N':List Str}{pins:List (Addr×Obj)}{σ σ':St}{F H:Hp}{τ:DS}{s:Shared}
theorem LY{h1:Heap}{t:Nat}{qual p:Str}{f:Addr}{cd u:Value}{v:V}(S:xU X scope)(hd:X.A.handled=none)(I:Inv X pins σ H s)(hp:scope.names.lookup p=some .local)(hN:N'[0]?=some p)(rv:RelV v u)
  (hn:h1.Ns s.heap.objs.size fun x=>([(p,u)]:List (Str×Value)).reverse.lookup x) (hsb:∀b o,s.heap.get? b=some o→h1.get? b=some o) (hl:σ'.length=N'.length) (h0:σ'[0]?=some (some v))
  (hσ:∀(i:Nat) (v:V),i≠0→σ'[i]?=some (some v)→∃(x:Str) (j:Nat),N'[i]?=some x∧X.N[j]?=some x∧σ[j]?=some (some v)∧scope.names.lookup x=some .free) :
  Inv (X.lam scope N' s H qual f cd) [] σ' H { s with heap:=h1,toks:=t }:=by
 have hH:H s.heap.objs.size=none:=I.hok.fresh (le_refl _)
 have cl:∀{x c},(wz scope X.env).lookup x=some c→X.env.cells.lookup x=some c:=fun h=>Z4 S I.ok h
 have kept:∀{c v},s.heap.IsCell c v→h1.IsCell c v:=fun ⟨o,e,d⟩=>Y11 o (hsb _ o e) d
 have noA:∀b:Addr,b∉(X.lam scope N' s H qual f cd).ex:=fun b z=>absurd (show b∈([]:List Addr) from z) (by simp)
 refine⟨⟨I.ok.mod,S.kind,rfl,rfl,le_refl _,fun x y c e1 e2=>I.ok.inj x y c (cl e1) (cl e2),fun x hx=>?_,fun x c hf _=>absurd hf (by simp[Cx.lam]),fun _=>hd,Around.frames_deeper (show X.A.in1.in1.frames=some X.stack from I.ok.frames),.inr ⟨rfl,rfl⟩,fun b z=>absurd z (noA b),I.bs,le_trans I.ok.bsz I.sz,fun b _ _=>noA b,fun b z=>absurd z (noA b),I.stack,I.stkFree⟩,
  I.os.symm ▸ rfl,I.bare,Un.kept hsb,⟨_,hn,fun i x v' e1 e2 e3=>?_⟩,fun x c e=>?_,hH,fun x c e=>I.freeC x c (cl e),fun p hp=>absurd (show p∈([]:List (Addr×Obj)) from hp) (by simp),I.hok.kept hsb,hl⟩
 ·have hx:scope.names.lookup x=some .cell∨scope.names.lookup x=some .free:=hx
  rcases hx with z|z
  ·exact absurd rfl (S.nocell _ (PySem.mem_of_lookup z))
  ·exact jd (.inl ⟨_,PySem.mem_of_lookup z,rfl,rfl⟩)
 ·have e1:N'[i]?=some x:=e1
  by_cases hi:i=0
  ·subst hi
   rw[hN] at e1;replace e1:=sI_ e1;subst e1
   rw[h0] at e2;replace e2:=uI_ e2;subst e2
   exact Y11 u rv (.inl ⟨hp,by simp[List.lookup]⟩)
  ·refine X23 (hσ i v' hi e2) fun x' j e4 e5 e6 e9=>?_
   have hy:=PySem.mem_of_lookup e9
   rw[e1] at e4;replace e4:=sI_ e4;subst e4
   have kd:=S.free _ hy rfl
   refine X11 I.loc fun m hm hl=>?_
   refine X11 (hl j x v' e5 e6 (kd.elim (fun z=>.inr (.inl z)) fun z=>.inr (.inr z))) fun u' ru lk=>?_
   refine Y11 u' ru ?_
   rcases lk with ⟨z,_⟩|⟨z,c,hc,hcell⟩
   ·rcases kd with k|k <;> rw[k] at z <;> cases z
   ·obtain⟨c',hc'⟩:=jd (env:=X.env) (names:=scope.names) (cs:=[]) (x:=x) (.inl ⟨_,hy,rfl,rfl⟩)
    have:=cl hc'
    rw[hc] at this;replace this:=sI_ this;subst this
    exact .inr ⟨.inr e9,c,hc',kept hcell⟩
 ·obtain⟨v,z⟩:=I.cell x c (cl e)
  exact⟨v,kept z⟩
noncomputable def Q6(idx:List Nat)(fb:FE)(τ:DS)(d:D):Rs D:=fb ((vX 1 idx τ).set 0 (some (.val d)))
theorem MR{f c':Addr}{qual p:Str}{params:Arguments}{body:Expr}{pm ctv u:Value}{v:V}{d dk:D}{fr:List Str}{idx:List Nat}{fb:FE}{Q:VK}(S:xU X scope)(hr:Room 3 X.A)(hfr:FreeOk scope X.N fr idx)(hp:scope.names.lookup p=some .local)
  (hco:scope.isCoroutine=false) (hgen:scope.isGenerator=false) (hbind:∀(pm cd ct:Value) (cl:List (Str×Addr)) (u:Value),bindArgs (kla_fn "<lambda>" qual params body scope cl pm cd ct) ⟨[u],[]⟩=pure [(p,u)])
  (hb:∀s H f cd,PDE (X.lam scope (p::fr) s H qual f cd) body fb)
  (I:Inv X pins σ H s) (R:RV X.K F τ σ H) (ho:s.heap.get? f=some (kla_obj "<lambda>" qual params body scope (wz scope X.env) pm c' ctv)) (hc:H c'=some (.ext (XF c' qual))) (rd:Rep X.K F d v) (ru:RelV v u) (hk:Q6 idx fb τ d=.ok dk)
  (hQ:∀kv F1 H1,Ext F H F1 H1→Rep X.K F1 dk kv→Q kv H1):wpAny (model X.prog X.w) X.A.in1.in1 (call (.ref f) [u]) (EP X pins σ Q) (fun _ _=>False) s:=by
 have hcd:s.heap.CodeRec (.ref c') qual:=(I.hok c' _ hc).1
 refine wpAny_call (kla_callFunE (args:=⟨[u],[]⟩) (hr.in1.in1).depth ho rfl hco hgen rfl hcd ?_)
 rw[hbind]
 refine wpAny_pure (wpAny_newFunctionEnv S.nocell (fun y hy=>?_) (fun h1 hns hsb=>⟨(I.mod.nolimit.keeps I.bk).fresh _ hsb,?_⟩) S.kind)
 ·have:y=(p,u):=by simpa using hy
  subst this;exact hp
 have keep3:∀b o,s.heap.get? b=some o→h1.get? b=some o:=fun b o e=>hsb.extBut b o (ne_of_lt (Heap.lt_size e)) (get?_push_of_some _ e)
 show codeAny _ _ (.expr body (envX qual scope s.heap.objs.size f (.ref c') (wz scope X.env))) _ _
 have hlen:(wQ 1 idx σ).length=(p::fr).length:=by simp[wQ,hfr.len]
 have hl0:0<(wQ 1 idx σ).length:=by rw[hlen];simp
 have J:Inv (X.lam scope (p::fr) s H qual f (.ref c')) [] ((wQ 1 idx σ).set 0 (some v)) H { s with heap:=h1,toks:=s.toks+([(p,u)]:List (Str×Value)).length }:=
  LY S hr.hd I hp rfl ru hns keep3 (by rw[List.length_set];exact hlen) (by rw[getElem?_set_self hl0]) fun i v' hi e=>by
   rw[getElem?_set_ne (Ne.symm hi)] at e
   exact jn (tn:=[p]) hfr σ i v' e
 refine kla_codeExpr (wpAny_mono (hb s H f (.ref c') [] _ _ H (fun kv H1=>∃F1,Ext F H F1 H1∧Rep X.K F1 dk kv) J ⟨F,(vX 1 idx τ).set 0 (some (.val d)),(WQ 1 idx R).set rd,?_⟩) (fun w s5 h5=>?_) fun _ _ z=>z.elim)
 ·have hk:fb ((vX 1 idx τ).set 0 (some (.val d)))=.ok dk:=hk
  rw[hk]
  exact fun kv F1 H1 x r=>Y11 F1 x r
 ·refine X22 h5 fun kv H5 I5 r5 r35_=>?_;refine X11 r35_ fun F5 x5 rk=>?_
  exact Y22 kv H5 (I.call' (ch:=[]) I5.os I5.base I5.hok I5.bare (fun b z=>absurd z (by simp))) r5 (hQ kv F5 H5 x5 rk)
end
open PySem.W
noncomputable def TabsU:Prop:=∀r∈Tabs.rows,∀r'∈Tabs.rows,r.1=r'.1→r=r'
theorem Xh{α β:Type}{f:α→β}:∀{l:List α},(l.map f).Nodup→∀r∈l,∀r'∈l,f r=f r'→r=r'
 |[],_,_,h,_,_,_=>by cases h
 |a::l,nd,r,h,r',h',e=>by
  rw[map_cons,nodup_cons] at nd
  rcases mem_cons.mp h with z|z
  ·rcases mem_cons.mp h' with z' | z'
   ·rw[z,z']
   ·rw[z] at e
    exact absurd (mem_map.mpr ⟨r',z',e.symm⟩) nd.1
  ·rcases mem_cons.mp h' with z' | z'
   ·rw[z'] at e
    exact absurd (mem_map.mpr ⟨r,z,e⟩) nd.1
   ·exact Xh nd.2 r z r' z' e
theorem TabsU.of(h:(Tabs.rows.map (·.1)).Nodup):TabsU:=Xh h
section
variable{X:Cx}{scope:Scope}{pins:List (Addr×Obj)}{σ:St}{F H:Hp}{τ:DS}{s:Shared}
theorem MQ{params:Arguments}{body:Expr}{lpos:Pos}{P c:Addr}{E:Value→Shared→Prop}{Q:Value→Shared→Prop}(tu:TabsU)(S:xU X scope)(bm:BM X.mg X.base)(hcode:X.env.code=.ref c)(hcd:codeHdIn X.K c P=true)(hrow:(P,lpos.line,lpos.col,X.env.qual ++ "<lambda>")∈Tabs.rows)
  (hdef:defaultsOf params X.env=([],[])) (I:Inv X pins σ H s) (fh:Same F H) (tt:TbT F H)
  (h:∀(f c':Addr) (pm ctv:Value) (H':Hp) (s':Shared),Inv X (pins++[(f,kla_obj "<lambda>" (X.env.qual ++ "<lambda>") params body scope (wz scope X.env) pm c' ctv)]) σ H' s'→Ext F H F H'→H' c'=some (.ext (XF c' (X.env.qual ++ "<lambda>")))→Q (.ref f) s') :
  wpAny (model X.prog X.w) X.A (eval (.Lambda params body scope lpos) X.env) Q E s:=by
 refine X25 bm fun bma ob b1 b2 b3 b4 b5 b6=>?_
 obtain⟨b3,bH⟩:=I.bs _ _ b3
 have hgs:s.heap.Ns mainGlobals X.mg:=I.mod.glob.keeps I.bk
 have C:CodeHd s.heap c P:=codeHd_of_K (I.mod.kin.keeps I.bk) hcd
 have hcl:closureFor scope X.env=pure (wz scope X.env):=v4 fun y hy e=>by
  obtain⟨c,hc⟩:=I.ok.has _ (S.free y hy e)
  rw[hc];rfl
 have hbG:bma≠mainGlobals:=fun q=>by
  refine X32 hgs fun o es ep e hd _=>?_
  rw[← q,b3] at e;replace e:=sI_ e;subst e;rw[b6] at hd;nomatch hd
 obtain⟨tF,tt0⟩:=tt.1 _ hrow
 have hPs:∃ps,H P=some (.tbl ps):=by
  rcases tt0 with e|⟨c',e,_⟩
  ·exact⟨_,e⟩
  ·exact⟨_,e⟩
 obtain⟨ps0,hP0⟩:=hPs
 have hbP:bma≠P:=fun q=>by rw[q,hP0] at bH;nomatch bH
 have B:s.heap.BuiltinsAt X.mg P:=⟨bma,ob,b1,b2,hbG,hbP,b3,b4,b5,b6⟩
 refine kla_eval hdef ?_
 rcases tt0 with e|⟨c',e,ec⟩
 ·-- the first time
  have e:H P=some (.tbl #[]):=e
  have hP:s.heap.get? P=some (tabObj #[]):=I.hok P _ e
  have hgP:mainGlobals≠P:=fun q=>by
   refine X32 hgs fun o es ep e' hd _=>?_
   rw[q,hP] at e';replace e':=sI_ e';subst e';nomatch hd
  refine kla_makeFunction (mg:=X.mg) hcl I.ok.glob hgs hcode C hP trivial rfl hgP B fun c' ctv h' tk hx hge hlt hrec htb=>?_
  have hc0:H c'=none:=I.hok.fresh hge
  have hPc:P≠c':=fun z=>by rw[z,hc0] at e;nomatch e
  have hsz:s.heap.objs.size≤h'.objs.size:=le_trans hge (le_of_lt hlt)
  have htb:h'.get? P=some (tabObj #[rawInt lpos.line,rawInt lpos.col,.ref c']):=by simpa using htb
  let H':Hp:=upd (upd H P (.tbl #[rawInt lpos.line,rawInt lpos.col,.ref c'])) c' (.ext (XF c' (X.env.qual ++ "<lambda>")))
  have hne:∀b,b≠P→b≠c'→H' b=H b:=fun b z1 z2=>by show upd (upd H P _) c' _ b=H b;rw[zp z2,zp z1]
  have hP':H' P=some (.tbl #[rawInt lpos.line,rawInt lpos.col,.ref c']):=by show upd (upd H P _) c' _ P=_;rw[zp hPc,zr]
  have hc':H' c'=some (.ext (XF c' (X.env.qual ++ "<lambda>"))):=zr
  let fo:Obj:=kla_obj "<lambda>" (X.env.qual ++ "<lambda>") params body scope (wz scope X.env) ((X.mg "__name__").getD .none) c' ctv
  have kp:∀b o,b≠P→s.heap.get? b=some o→(h'.push fo).get? b=some o:=fun b o z q=>get?_push_of_some _ (hx b o z q)
  have nc:∀b o,s.heap.get? b=some o→b≠c':=fun b o q=>ne_of_lt (lt_of_lt_of_le (Heap.lt_size q) hge)
  have nP:∀b,H b=none→b≠P:=fun b q z=>by rw[z,e] at q;nomatch q
  have J:Inv X pins σ H' { s with heap:=h'.push fo,toks:=tk }:=by
   refine I.un (t':=tk) ⟨fun b o q n _ _=>kp b o (nP b n) q,fun b o q n _ _=>⟨o.slots,kp b o (nP b n) q⟩,fun b o q n _=>by rw[hne b (nP b n) (nc b o q)];exact n,fun b o q _=>?_,fun b xs q=>?_,fun b o u q=>?_,fun b ps q=>?_⟩ fun b u q=>?_
   ·by_cases z:b=P
    ·subst z;exact⟨_,get?_push_of_some _ htb⟩
    ·exact⟨o,kp b o z q⟩
   ·rw[hne b (fun z=>by rw[z,e] at q;nomatch q) (fun z=>by rw[z,hc0] at q;nomatch q)];exact q
   ·rw[hne b (fun z=>by rw[z,e] at q;nomatch q) (fun z=>by rw[z,hc0] at q;nomatch q)];exact q
   ·by_cases z:b=P
    ·subst z
     rw[e] at q;replace q:=L2.HO.tbl.inj (Option.some.inj q);subst q
     exact⟨#[rawInt lpos.line,rawInt lpos.col,.ref c'],by rw[hP'];simp⟩
    ·exact⟨#[],by rw[hne b z (fun z=>by rw[z,hc0] at q;nomatch q),q];simp⟩
   ·by_cases z2:b=c'
    ·subst z2
     rw[hc'] at q;replace q:=sI_ q;subst q
     have hr2:(h'.push fo).CodeRec (.ref b) (X.env.qual ++ "<lambda>"):=by
      refine X43 hrec fun c2 oc vs t g1 g2 g3 g4=>?_
      exact Y43 c2 oc vs t g1 (get?_push_of_some _ g2) g3 g4
     refine⟨hr2,?_,fun h1 h2 g k=>?_⟩
     ·refine X43 hr2 fun c2 oc vs t g1 g2 g3 g4=>?_
      replace g1:=PySem.Value.ref.inj g1;subst g1
      exact⟨oc,g2⟩
     ·refine X43 g fun c2 oc vs t g1 g2 g3 g4=>?_
      replace g1:=PySem.Value.ref.inj g1;subst g1
      exact Y43 _ oc vs t rfl (k _ g2) g3 g4
    ·by_cases z:b=P
     ·subst z
      rw[hP'] at q;replace q:=sI_ q;subst q
      exact get?_push_of_some _ htb
     ·rw[hne b z z2] at q
      refine(I.hok b u q).stay (fun d v hd qd=>kp d v ?_ qd) (fun d qd=>?_) fun d xs qd=>?_
      ·rcases hd with y|y
       ·rw[y];exact z
       ·exact fun y'=>by rw[y',e] at y;nomatch y
      ·rw[hne d (fun y=>by rw[y,e] at qd;nomatch qd) (fun y=>by rw[y,hc0] at qd;nomatch qd)];exact qd
      ·rw[hne d (fun y=>by rw[y,e] at qd;nomatch qd) (fun y=>by rw[y,hc0] at qd;nomatch qd)];exact qd
  have hfz:s.heap.objs.size≤h'.objs.size:=hsz
  have nf:H' h'.objs.size=none:=by
   rw[hne _ (ne_of_gt (lt_of_lt_of_le (Heap.lt_size hP) hfz)) (ne_of_gt hlt)]
   exact I.hok.fresh hfz
  refine h h'.objs.size c' ((X.mg "__name__").getD .none) ctv H' _ (J.pins_of fun q hq=>?_) ⟨Same.refl F,fun b o q=>?_,fun b o q=>?_,fun _ _ q=>.inl q,fun t=>⟨fun r hr=>?_,fun d b q=>?_⟩⟩ hc'
  ·rcases mem_append.mp hq with hq|hq
   ·exact J.pin q (mem_append_right _ hq)
   ·have:q=(h'.objs.size,fo):=by simpa using hq
    subst this
    exact⟨Heap.get?_push_size _ rfl,nf,(ne_of_lt (lt_of_lt_of_le I.lt hfz)).symm,I.nofs hfz,fun v z=>nomatch z⟩
  ·by_cases z:b=P
   ·subst z;rw[e] at q;replace q:=sI_ q;subst q;exact⟨_,hP'⟩
   ·exact .of (by rw[hne b z (fun z=>by rw[z,hc0] at q;nomatch q)];exact q)
  ·have q':=fh b o q
   rw[hne b (fun z=>by rw[z,show F P=none from tF] at q;nomatch q) (fun z=>by rw[z,hc0] at q';nomatch q')]
   exact q'
  ·by_cases z:r.1=P
   ·obtain rfl:=tu r hr _ hrow z
    exact⟨tF,.inr ⟨c',hP',hc'⟩⟩
   ·obtain⟨t1,t2⟩:=t.1 r hr
    refine⟨t1,?_⟩
    rcases t2 with q|⟨c2,q,q2⟩
    ·exact .inl (by rw[hne _ z (fun z=>by rw[z,hc0] at q;nomatch q)];exact q)
    ·exact .inr ⟨c2,by rw[hne _ z (fun z=>by rw[z,hc0] at q;nomatch q)];exact q,by rw[hne _ (fun z=>by rw[z,e] at q2;nomatch q2) (fun z=>by rw[z,hc0] at q2;nomatch q2)];exact q2⟩
  ·have q:H d=some (.own b):=by
    by_cases z2:d=c'
    ·rw[z2,hc'] at q;nomatch q
    ·by_cases z:d=P
     ·rw[z,hP'] at q;nomatch q
     ·rw[hne d z z2] at q;exact q
   refine X30 (t.2 d b q) fun C dx vs q2=>?_
   exact Y30 C dx vs (by rw[hne b (fun z=>by rw[z,e] at q2;nomatch q2) (fun z=>by rw[z,hc0] at q2;nomatch q2)];exact q2)
 ·-- again
  have e:H P=some (.tbl #[rawInt lpos.line,rawInt lpos.col,.ref c']):=e
  have hP:s.heap.get? P=some (tabObj #[rawInt lpos.line,rawInt lpos.col,.ref c']):=I.hok P _ e
  refine kla_makeFunctionHit (mg:=X.mg) (cv:=.ref c') hcl I.ok.glob hgs hcode C hP trivial (codeAmong_snoc (c:=.ref c') [] trivial rfl) B fun ctv h' tk hk hsz=>?_
  let fo:Obj:=kla_obj "<lambda>" (X.env.qual ++ "<lambda>") params body scope (wz scope X.env) ((X.mg "__name__").getD .none) c' ctv
  have J:Inv X pins σ H { s with heap:=h'.push fo,toks:=tk }:=I.kept (t':=tk) fun b u q=>get?_push_of_some _ (hk b u q)
  refine h h'.objs.size c' ((X.mg "__name__").getD .none) ctv H _ (J.pins_of fun q hq=>?_) (Ext.refl fh) ec
  rcases mem_append.mp hq with hq|hq
  ·exact J.pin q (mem_append_right _ hq)
  ·have:q=(h'.objs.size,fo):=by simpa using hq
   subst this
   exact⟨Heap.get?_push_size _ rfl,I.hok.fresh hsz,(ne_of_lt (lt_of_lt_of_le I.lt hsz)).symm,I.nofs hsz,fun v z=>nomatch z⟩
noncomputable def vq(idx:List Nat)(fb:FE)(τ:DS):List D→Rs (List D)
 |[]=>.ok []
 |d::r=>match Q6 idx fb τ d with
  |.ok k=>match vq idx fb τ r with
   |.ok ks=>.ok (k::ks)
   |_=>.no
  |_=>.no
theorem Yf{idx:List Nat}{fb:FE}{τ:DS}:∀{ds ks:List D},vq idx fb τ ds=.ok ks→ks.length=ds.length∧∀(i:Nat) (d k:D),ds[i]?=some d→ks[i]?=some k→Q6 idx fb τ d=.ok k
 |[],ks,h=>by cases h;exact⟨rfl,fun i d k e=>by simp at e⟩
 |d::r,ks,h=>by
  unfold vq at h
  cases q:Q6 idx fb τ d with
  |no=>rw[q] at h;nomatch h
  |ex c=>rw[q] at h;nomatch h
  |ok k=>
   rw[q] at h
   simp only at h
   cases q2:vq idx fb τ r with
   |no=>rw[q2] at h;nomatch h
   |ex c=>rw[q2] at h;nomatch h
   |ok ks'=>
    rw[q2] at h;replace h:=oI_ h;subst h
    obtain⟨l,g⟩:=Yf q2
    refine⟨by simp[l],fun i d' k' e1 e2=>?_⟩
    cases i with
    |zero=>simp at e1 e2;subst e1;subst e2;exact q
    |succ i=>exact g i d' k' (by simpa using e1) (by simpa using e2)
noncomputable def ZF(ks ds:List D):Rs D:=match Yg ks with
 |some kz=>if ds.length<64∧kz.Nodup∧(∀k∈kz,k≠[]) then .ok (.lst ((wP (kz.zip ds)).map (·.2))) else .no
 |none=>.no
noncomputable def XC(idx:List Nat)(fe fb:FE):FE:=fun τ=>(fe τ).bind fun d=>match d with
 |.lst ds=>match vq idx fb τ ds with
  |.ok ks=>ZF ks ds
  |_=>.no
 |_=>.no
theorem QA{X:Cx}{ks ds:List D}{P:D→Prop}(h:Ok X (ZF ks ds) P):∃kz:List (List Int),ks=kz.map (fun k=>D.tup (k.map D.int))∧ds.length<64∧kz.Nodup∧(∀k∈kz,k≠[])∧P (.lst ((wP (kz.zip ds)).map (·.2))):=by
 unfold ZF at h
 rcases q:Yg ks with _|kz
 ·rw[q] at h;exact h.elim
 ·rw[q] at h
  simp only at h
  by_cases z:ds.length<64∧kz.Nodup∧(∀k∈kz,k≠[])
  ·rw[if_pos z] at h
   exact Y14 kz (Uj q) z.1 z.2.1 z.2.2 h
  ·rw[if_neg z] at h;exact h.elim
theorem QP{x p:Str}{pp pos lpos kp:Pos}{e body:Expr}{params:Arguments}{fr:List Str}{idx:List Nat}{fe fb:FE}{P c:Addr}(hg:Gl X x)(hm:X.mg x=none)(hv:bootBuiltins x=some (.builtin "sorted"))(he:PDE X e fe)
  (hr:Room 3 X.A) (tu:TabsU) (bm:BM X.mg X.base) (hcode:X.env.code=.ref c) (hcd:codeHdIn X.K c P=true) (hrow:(P,lpos.line,lpos.col,X.env.qual ++ "<lambda>")∈Tabs.rows)
  (hsc:vU X.env.scope scope=true) (hfr:FreeOk scope X.N fr idx) (hp:scope.names.lookup p=some .local) (hco:scope.isCoroutine=false) (hgen:scope.isGenerator=false)
  (hbind:∀(pm cd ct:Value) (cl:List (Str×Addr)) (u:Value),bindArgs (kla_fn "<lambda>" (X.env.qual ++ "<lambda>") params body scope cl pm cd ct) ⟨[u],[]⟩=pure [(p,u)])
  (hb:∀s H f cd,PDE (X.lam scope (p::fr) s H (X.env.qual ++ "<lambda>") f cd) body fb) (hdef:defaultsOf params X.env=([],[]):=by rfl)
  (hn:x ≠ "__name__" := by decide) (hdb:(x==("__debug__" : Str))=false:=by decide) (h1:starEach [e] X.env=(false,eval e X.env)::starEach [] X.env:=by rfl) :
  PDE X (.Call (.Name x pp) [e] [⟨some "key", .Lambda params body scope lpos,kp⟩] pos) (XC idx fe fb):=by
 rintro pins s σ H Q I ⟨F,τ,R,hq⟩
 have S:xU X scope:=wu hsc
 refine wpAny_Call_Name_kw (uG I hg hm hv ?_ hn hdb)
 refine callWith_kw ?_ (by rw[h1];rfl) (by rw[h1];rfl)
 have hqb:=hq.bind
 have ha:PDA X [e] (za fe zi):=zb he zm (by rw[h1])
 refine thn (ha pos pins s σ H (fun vs H1=>∃F1 d v,vs=[v]∧Ext F H F1 H1∧Rep X.K F1 d v∧fe τ=.ok d) I ⟨F,τ,R,?_⟩) fun us s1 hA=>?_
 ·unfold za zi
  cases z:fe τ with
  |no=>rw[z] at hqb;exact hqb.elim
  |ex cc=>rw[z] at hqb;exact hqb
  |ok d=>
   intro vs F1 H1 x1 rr
   obtain⟨v,rfl,rd⟩:=Reps.one rr
   exact Y33 F1 d v rfl x1 rd rfl
 obtain⟨vs,H1,I1,rvs,F1,d,v,rfl,x1,rd,ed⟩:=hA
 obtain⟨u,rfl,ru⟩:=Vals.one rvs
 rw[ed] at hqb
 have hqb:Ok X (match d with
  |.lst ds=>match vq idx fb τ ds with
   |.ok ks=>ZF ks ds
   |_=>.no
  |_=>.no) (Ev X.K F H Q):=hqb
 cases d with
 |lst ds=>
  simp only at hqb
  cases z:vq idx fb τ ds with
  |no=>rw[z] at hqb;exact hqb.elim
  |ex cc=>rw[z] at hqb;exact hqb.elim
  |ok ks=>
   rw[z] at hqb
   refine X14 (QA (X:=X) hqb) fun kz ek h64 nd ne hq=>?_
   obtain⟨lk,hkeys⟩:=Yf z
   simp only[Rep] at rd
   obtain⟨l,ws,rfl,hF1,rs⟩:=rd
   obtain rfl:u=Value.ref l:=ru
   refine kws_cons ?_
   refine MQ (P:=P) (c:=c) tu S bm hcode hcd hrow hdef I1 x1.fh (x1.tt R.tt) fun f c' pm ctv H2 s2 I2 x2 hc2=>?_
   refine kws_nil ?_
   have R2:RV X.K F1 τ σ H2:=(R.ext x1).ext x2
   refine wpAny_mono (UM (E:=X.xe) (Q:=Q) (F:=F1) (kz:=kz) I2 x2.fh hF1 rs h64 (by rw[← lk,ek,length_map]) nd ne (fun i d k hd hk pins' s' F' H' v u Q' I' hpin x' rd' ru' hQ'=>?_) fun Da F' H' x' r'=>?_) (fun w s3 ⟨v3,H3,I3,r3,q3⟩=>Y22 v3 H3 (I3.pins_of fun q hq=>I3.pin q (mem_append_right _ (mem_append_left _ hq))) r3 q3) fun _ _ z=>z
   ·refine MR S hr hfr hp hco hgen hbind hb I' (R2.ext x') (I'.pin _ (mem_append_right _ (hpin _ (mem_append_right _ (List.mem_singleton.mpr rfl))))).1 (x'.hh _ _ hc2) rd' ru' (hkeys i d _ hd ?_) hQ'
    rw[ek,getElem?_map,hk];rfl
   ·exact hq _ F' H' ((x1.trans x2).trans x') r'
 |_=>exact hqb.elim
end
section
variable{prog:Program}{w:World}{A:Around}{R:Result→Shared→Prop}{E:Value→Shared→Prop}{I S:Addr}{fp wr:List Addr}{n:Nat}{P:Nat→Value→Prop}{St:Nat→Heap→Prop}{kw:List (Str×Value)}
end
section
variable{X:Cx}{pos pp kp:Pos}{e e2:Expr}{fe f2:FE}
end
section
variable{K:Frag}{B Z F H:Hp}{τ:DS}{σ:St}
end
section
variable{X:Cx}{pos:Pos}{e tg:Expr}{st:Stmt}{ss:List Stmt}{fe:FE}{fs:FA}{f:FS}
noncomputable def scal:D→Bool
 |.non=>true
 |.bl _=>true
 |.int _=>true
 |.str _=>true
 |_=>false
end
open PySem.W
section
variable{X:Cx}{pins:List (Addr×Obj)}{σ:St}{F H:Hp}{τ:DS}{s:Shared}{Q:VK}{E:Value→Shared→Prop}
end
open PySem.W
structure Jo(K:Frag)(mg:Str→Option Value)(x:Str)(st:Stmt)(f c T:Addr):Prop where
 ex:∃(oc:Value) (od:Option Addr) (kV doc pm:Value) (an:Option Addr) (ct:Value) (osl:Array (Option Value)),K.lookup f=some ⟨oc,od,.func (fnOf x x (zG st) (zC st) (zh st) .none kV doc pm an (.ref c) ct),osl⟩
 cd:codeIn K (.ref c) x=true
 kp:keepIn K (.ref f)=true
 at_:mg x=some (.ref f)
 tab:codeHdIn K c T=true
section
variable{P:Program}{w:World}{K:Frag}{mg:Str→Option Value}{base:Heap}
theorem DefOk.mkL{x:Str}{st:Stmt}{f c T:Addr}{N ps:List Str}{k n:Nat}{fb:FS}(D:Jo K mg x st f c T)(S:zF N ps (zh st))(hn:ps.length=n)
  (hb:∀(kV doc pm:Value) (an:Option Addr) (cdv ct:Value) (us:List Value),us.length=ps.length→bindArgs (fnOf x x (zG st) (zC st) (zh st) .none kV doc pm an cdv ct) ⟨us,[]⟩=pure (ps.zip us))
  (hbody:∀(A:Around) (outer:List Env) (s:Shared) (H:Hp) (E:XK),Room k (A.deeper (envOfC x (zh st) s.heap.objs.size f (.ref c))) →
   vh (v0 CX0 P w K mg base N x (zh st) f (.ref c) A outer s H E).nox (zC st) fb):DefOk P w K mg base x (k+1) n ps (wo N.length fb):=by
 obtain⟨oc,od,kV,doc,pm,an,ct,osl,lk⟩:=D.ex
 refine Y23 f _ ?_ (.all (hb kV doc pm an (.ref c) ct)) D.kp D.at_
 refine M5 lk D.cd S (fun vs H Q E h=>by rw[hn];exact h.1) fun A outer s H vs Q E hr h=>⟨_,(show PSs _ _ _ from hbody A outer s H E hr).nox,?_⟩
 obtain⟨hl,ds,Fz,fh,tt,r,h⟩:=h
 refine Y41 H Fz Fz (yg N.length ds) (VM fh tt r) ?_
 unfold wo at h
 cases q:fb (yg N.length ds) with
 |nx τ=>rw[q] at h;exact fun σ F' H' ff RR=>h .non F' H' RR.out (by simp only[Rep])
 |rt d=>rw[q] at h;exact fun v F' H' x rr=>h v F' H' x rr
 |ro d τ=>rw[q] at h;exact fun v σ F' H' ff RR rr=>h v F' H' RR.out rr
 |rb d τ=>rw[q] at h;exact h.elim
 |bk τ=>rw[q] at h;exact h.elim
 |ct τ=>rw[q] at h;exact h.elim
 |ex c=>rw[q] at h;exact h.elim
 |no=>rw[q] at h;exact h.elim
 |rs c τ=>rw[q] at h;exact h.elim
end
section
variable{X:Cx}{pos:Pos}{e a b:Expr}{es:List Expr}{fe fa fb:FE}{fs:FA}
end
noncomputable abbrev Fs:=List (Str×D)
noncomputable def wY(f:Str)(d:D):Fs→Fs
 |[]=>[(f,d)]
 | (g,x)::r=>if g=f then (g,d)::r else (g,x)::wY f d r
noncomputable def xh(f:Str):Fs→Option D
 |[]=>none
 | (g,x)::r=>if f=g then some x else xh f r
theorem Flds.look{K:Frag}{F H:Hp}{c f:Str}:∀{fs:Fs} {vs:List (Str×V)},Flds K F H c fs vs→match xh f fs with
  |some d=>∃v,vs.lookup f=some v∧Jn K F H c f d v
  |none=>vs.lookup f=none
 |[],[],_=>rfl
 | (g,d)::r,(g',v)::s,q=>by
  obtain⟨rfl,q2,q3⟩:=q
  have ih:=Flds.look (f:=f) q3
  unfold xh
  by_cases h:f=g
  ·have hb:(f==g)=true:=beq_iff_eq.mpr h
   rw[if_pos h]
   subst h
   exact Y11 v (by simp only[List.lookup,hb]) q2
  ·have hb:(f==g)=false:=beq_eq_false_iff_ne.mpr h
   rw[if_neg h]
   have e:List.lookup f ((g,v)::s)=List.lookup f s:=by simp only[List.lookup,hb]
   rw[e];exact ih
 |[],_::_,q=>q.elim
 |_::_,[],q=>q.elim
theorem Flds.length{K:Frag}{F H:Hp}{c:Str}:∀{fs:Fs} {vs:List (Str×V)},Flds K F H c fs vs→fs.length=vs.length
 |[],[],_=>rfl
 |_::r,_::s,q=>by rw[length_cons,length_cons,Flds.length q.2.2]
 |[],_::_,q=>q.elim
 |_::_,[],q=>q.elim
theorem Flds.put{K:Frag}{F H:Hp}{c f:Str}{d:D}{v:V}(r:Jn K F H c f d v):∀{fs:Fs} {vs:List (Str×V)},Flds K F H c fs vs→Flds K F H c (wY f d fs) (vn f v vs)
 |[],[],_=>⟨rfl,r,trivial⟩
 | (g,x)::t,(g',y)::s,q=>by
  obtain⟨rfl,q2,q3⟩:=q
  have ih:=Flds.put (f:=f) r q3
  unfold wY vn
  by_cases h:g=f
  ·rw[if_pos h,if_pos h];subst h;exact⟨rfl,r,q3⟩
  ·rw[if_neg h,if_neg h];exact⟨rfl,q2,ih⟩
 |[],_::_,q=>q.elim
 |_::_,[],q=>q.elim
theorem ZM{c f:Str}{v:V}(h:Tabs.own c f=false):∀vs:List (Str×V),wG c (vn f v vs)=wG c vs:=by
 intro l_
 induction l_ with
 |nil=>
  show(if Tabs.own c f=true then _ else ([]:List Addr))=[];rw[if_neg (by rw[h];simp)]
 |cons p_ r ih_=>
  obtain⟨g,x⟩:=p_
  rw[show vn f v ((g,x)::r)=(if g=f then (g,v)::r else (g,x)::vn f v r) from rfl]
  by_cases z:g=f
  ·subst z
   rw[if_pos rfl]
   show(if Tabs.own c g=true then _ else wG c r)=(if Tabs.own c g=true then _ else wG c r)
   rw[if_neg (by rw[h];simp),if_neg (by rw[h];simp)]
  ·rw[if_neg z]
   have ih:=ih_
   unfold wG
   rw[ih]
noncomputable def vY(τ:DS)(i:Nat)(c:Str):Rs Fs:=match τ[i]? with
 | some (some (.obj _ c' fs))=>if c'=c then .ok fs else .no
 | some (some (.obr c' fs))=>if c'=c then .ok fs else .no
 |_=>.no
noncomputable def vp(τ:DS)(i:Nat)(c:Str):Rs (Nat×Fs):=match τ[i]? with
 | some (some (.obj n c' fs))=>if c'=c then .ok (n,fs) else .no
 |_=>.no
theorem Yw{X:Cx}{τ:DS}{i:Nat}{c:Str}{P:Nat×Fs→Prop}(h:Ok X (vp τ i c) P):∃n fs,τ[i]?=some (some (.obj n c fs))∧P (n,fs):=by
 unfold vp at h
 split at h
 ·rename_i n c' fs e
  by_cases z:c'=c
  ·subst z;rw[if_pos rfl] at h;exact Y21 n fs e h
  ·rw[if_neg z] at h;exact h.elim
 ·exact h.elim
theorem Yy{X:Cx}{F H:Hp}{τ:DS}{σ:St}{i:Nat}{c:Str}{P:Fs→Prop}(R:RV X.K F τ σ H)(h:Ok X (vY τ i c) P) :
  ∃fs a C dx vs,σ[i]?=some (some (.ref a))∧H a=some (.ins C dx vs)∧nsIn X.K mainGlobals c=some (some (.ref C))∧Flds X.K F H c fs vs∧P fs:=by
 unfold vY at h
 split at h
 ·rename_i n c' fs e
  by_cases z:c'=c
  ·subst z;rw[if_pos rfl] at h
   refine X11 (R.ob.at_ i n c' fs e) fun a h1 r34_=>?_;refine X34 r34_ fun C dx vs h2 h3 h4 h5 _=>?_
   exact Y54 fs a C dx vs h1 h2 h4 h5 h
  ·rw[if_neg z] at h;exact h.elim
 ·rename_i c' fs e
  by_cases z:c'=c
  ·subst z;rw[if_pos rfl] at h
   refine X43 (R.ob.rd i c' fs e) fun a C dx vs h1 h2 h4 h5=>?_
   exact Y54 fs a C dx vs h1 h2 h4 h5 h
  ·rw[if_neg z] at h;exact h.elim
 ·exact h.elim
noncomputable def eAt(i:Nat)(c f:Str):FE:=fun τ=>(vY τ i c).bind fun fs=>match xh f fs with
 |some d=>.ok d
 |none=>.no
section
variable{X:Cx}{pos:Pos}{e:Expr}{es:List Expr}{fe:FE}{fs:FA}{C:Addr}{c f x:Str}{i:Nat}
theorem xk{p1:Pos}(hx:PE X (.Name x p1) (uW i))(hC:nsIn X.K mainGlobals c=some (some (.ref C)))(cl:Cls X.K C)(na:NoAttr X.K C f)(ho:Tabs.own c f=false:=by rfl)
  (hb:attributeBase (.Name x p1) f X.env (eval (.Name x p1) X.env)=eval (.Name x p1) X.env:=by rfl):PDE X (.Attribute (.Name x p1) f pos) (eAt i c f):=
 PE.imp (zh8 hx hb) fun σ H Q z_=>by
  refine X21 z_ fun F τ R h=>?_
  refine X54 (Yy R h.bind) fun fs a C' dx vs h1 h2 h3 h4 h5=>?_
  rw[hC] at h3
  obtain rfl:C=C':=by replace h3:=PySem.Value.ref.inj (Option.some.inj (Option.some.inj h3));subst h3;rfl
  have l:=h4.look (f:=f)
  rcases q:xh f fs with _|d
  ·rw[q] at h5;exact h5.elim
  ·rw[q] at h5 l
   refine X11 l fun v l1 l2=>?_
   unfold Jn at l2
   rw[if_neg (by rw[ho];simp)] at l2
   exact⟨_,h1,a,C,dx,vs,v,rfl,h2,cl,na,l1,h5 v F H (Ext.refl R.fh) l2⟩
end
theorem MT{o:HO}{r r':Option HO}(a:Kp o r)(b:∀u:HO,r=Option.some u→Kp u r'):Kp o r':=by
 cases o <;> first|exact b _ a | (obtain⟨ps,q⟩:=a;have h2:=b (HO.tbl ps) q;exact h2)
theorem RV.objset{K:Frag}{F F' H H':Hp}{τ:DS}{σ:St}{i n:Nat}{c:Str}{fs fs':Fs}{a C dx:Addr}{vs:List (Str×V)}(R:RV K F τ σ H)(hi:τ[i]?=some (some (.obj n c fs)))(ha:σ[i]?=some (some (.ref a)))(he:H a=some (.ins C dx vs))
  (ff:Same F F') (fh:Same F' H') (tt:TbT F' H') (kp:∀b u,b≠a→b∉wG c vs→H b=some u→Kp u (H' b)) (nwF:∀b o,F' b=some o→F b=some o∨H b=none∨b=a∨b∈wG c vs)
  (ob:ZC K F' H' c fs' a) (nw:∀l∈Lof H' c a,l∈wG c vs∨H l=none):RV K F' (τ.set i (some (.obj n c fs'))) σ H':=by
 have hl:i<τ.length:=(List.getElem?_eq_some_iff.mp hi).1
 have hfl:Flds K F H c fs vs:=by
  refine X11 (R.ob.at_ i n c fs hi) fun a' q1 r33_=>?_;refine X34 r33_ fun C' dx' vs' q2 _ _ q5 _=>?_
  rw[ha] at q1;replace q1:=tI_ q1;subst q1
  rw[he] at q2;cases q2;exact q5
 have nl:∀{b:Addr} {u:HO},H b=some u→(∀ws,u≠.lst ws)→b∉wG c vs:=fun {b u} e m z=>by
  refine X01 (hfl.own z) fun _ r32_=>?_;refine X10 r32_ fun ws q=>?_
  rw[e] at q;replace q:=sJ_ q;subst q;exact m _ rfl
 have na:∀{b:Addr} {u:HO},H b=some u→(∀C dx vs,u≠.ins C dx vs)→b≠a:=fun {b u} e m z=>by
  subst z;rw[he] at e;replace e:=sI_ e;subst e;exact m _ _ _ rfl
 have nf:∀{b:Addr} {u:HO},b≠a→b∉wG c vs→H b=some u→F b=none→F' b=none:=fun {b u} h1 h2 e h3=>by
  rcases q:F' b with _|w
  ·rfl
  ·rcases nwF b w q with z|z|z|z
   ·rw[h3] at z;nomatch z
   ·rw[e] at z;nomatch z
   ·exact absurd z h1
   ·exact absurd z h2
 have bk:∀{j:Nat} {s:Option Sl},(∀m c1 g,s≠some (.obj m c1 g))→(τ.set i (some (.obj n c fs')))[j]?=some s→i≠j∧τ[j]?=some s:=fun {j s} m h=>by
  by_cases e:i=j
  ·subst e;rw[getElem?_set_self hl] at h;replace h:=sI_ h;subst h;exact absurd rfl (m _ _ _)
  ·rw[getElem?_set_ne e] at h;exact⟨e,h⟩
 have bs:∀{j:Nat} {c1:Str},i≠j→ObS (τ.set i (some (.obj n c fs')))[j]? c1→ObS τ[j]? c1:=fun {j c1} e h=>by
  rw[getElem?_set_ne e] at h;exact h
 have oth:∀{j:Nat} {c1:Str} {a':Addr},i≠j→ObS τ[j]? c1→σ[j]?=some (some (.ref a'))→a'≠a∧Lof H' c1 a'=Lof H c1 a'∧∀l∈Lof H c1 a',l≠a∧l∉wG c vs:=fun {j c1 a'} e h ea=>by
  have n1:a'≠a:=fun z=>by subst z;exact R.ob.dis i j n c c1 fs a' e hi h ha ea
  refine X52 (R.ob.get h) fun a2 C' dx' vs' gs h1 h2 h3=>?_
  rw[ea] at h1;replace h1:=tI_ h1;subst h1
  refine⟨n1,?_,fun l hl2=>⟨fun z=>?_,fun z=>?_⟩⟩
  ·rw[Lof.ins h2,Lof.ins (show H' a'=some (.ins C' dx' vs') from kp a' _ n1 (nl h2 fun _ z=>nomatch z) h2)]
  ·subst z
   rw[Lof.ins h2] at hl2
   refine X01 (h3.own hl2) fun _ r31_=>?_;refine X10 r31_ fun ws q=>?_
   rw[he] at q;nomatch q
  ·exact R.ob.ll i j n c c1 fs a a' l e hi h ha ea (by rw[Lof.ins he];exact z) hl2
 refine⟨fh,by simp[R.len],fun j d h=>?_,fun j ds h=>?_,fun j k ds es b hjk h1 h2 h3 h4=>R.dis j k ds es b hjk (bk (fun _ _ _ z=>by nomatch z) h1).2 (bk (fun _ _ _ z=>by nomatch z) h2).2 h3 h4,tt,⟨fun j m c1 g h=>?_,fun j k m c1 c2 g1 b hjk h1 h2 h3 h4=>?_,fun j c1 g h=>?_,fun j k m c1 c2 g1 b b' l hjk h1 h2 h3 h4 h5 h6=>?_,fun j k c1 ds b l h1 h2 h3 h4 h5=>?_⟩⟩
 ·refine X11 (R.val j d (bk (fun _ _ _ z=>by nomatch z) h).2) fun v h1 h2=>?_
  exact Y11 v h1 (h2.mono ff)
 ·have h:=(bk (fun _ _ _ z=>by nomatch z) h).2
  refine X23 (R.own j ds h) fun b ws q1 q2 q3 q4=>?_
  have n1:=na q2 fun _ _ _ z=>nomatch z
  have n2:b∉wG c vs:=fun z=>R.ob.lo i j c ds a b (.inl ⟨n,fs,hi⟩) h ha q1 (by rw[Lof.ins he];exact z)
  exact Y23 b ws q1 (kp b _ n1 n2 q2) (nf n1 n2 q2 q3) (q4.mono ff)
 ·by_cases e:i=j
  ·subst e;rw[getElem?_set_self hl] at h;cases h;exact Y11 a ha ob
  ·rw[getElem?_set_ne e] at h
   refine X11 (R.ob.at_ j m c1 g h) fun a' q1 r30_=>?_;refine X35 r30_ fun C' dx' vs' q2 q3 q4 q5 q6 q7=>?_
   refine X02 (oth e (.inl ⟨m,g,h⟩) q1) fun n1 _ n3=>?_
   have n2:=nl q2 fun _ z=>nomatch z
   refine⟨a',q1,C',dx',vs',kp a' _ n1 n2 q2,nf n1 n2 q2 q3,q4,q5.keep ff fun l ws hl2 e3 e4=>?_,kp dx' _ (na q6 fun _ _ _ z=>nomatch z) (nl q6 fun _ z=>nomatch z) q6,q7⟩
   obtain⟨m1,m2⟩:=n3 l (by rw[Lof.ins q2];exact hl2)
   exact⟨kp l _ m1 m2 e3,nf m1 m2 e3 e4⟩
 ·by_cases e1:i=j
  ·subst e1
   have h2:=bs hjk h2
   exact R.ob.dis i k n c c2 fs b hjk hi h2 h3 h4
  ·rw[getElem?_set_ne e1] at h1
   by_cases e2:i=k
   ·subst e2
    have:b=a:=by rw[ha] at h4;replace h4:=tI_ h4;subst h4;rfl
    subst this
    exact(oth e1 (.inl ⟨m,g1,h1⟩) h3).1 rfl
   ·exact R.ob.dis j k m c1 c2 g1 b hjk h1 (bs e2 h2) h3 h4
 ·obtain⟨e,h⟩:=bk (fun _ _ _ z=>by nomatch z) h
  refine X43 (R.ob.rd j c1 g h) fun a' C' dx' vs' q1 q2 q4 q5=>?_
  refine X02 (oth e (.inr ⟨g,h⟩) q1) fun n1 _ n3=>?_
  refine Y43 a' C' dx' vs' q1 (kp a' _ n1 (nl q2 fun _ z=>nomatch z) q2) q4 (q5.keep ff fun l ws hl2 e3 e4=>?_)
  obtain⟨m1,m2⟩:=n3 l (by rw[Lof.ins q2];exact hl2)
  exact⟨kp l _ m1 m2 e3,nf m1 m2 e3 e4⟩
 ·-- own lists of two
  have self:∀{k:Nat} {c2:Str} {b':Addr},i≠k→ObS τ[k]? c2→σ[k]?=some (some (.ref b'))→l∈Lof H' c a→l∈Lof H c2 b'→False:=fun {k c2 b'} e h eb m1 m2=>by
   rcases nw l m1 with z|z
   ·exact((oth e h eb).2.2 l m2).2 z
   ·refine X52 (R.ob.get h) fun a2 C' dx' vs' gs g1 g2 g3=>?_
    rw[eb] at g1;replace g1:=tI_ g1;subst g1
    rw[Lof.ins g2] at m2
    refine X01 (g3.own m2) fun _ r29_=>?_;refine X10 r29_ fun ws q=>?_
    rw[z] at q;nomatch q
  by_cases e1:i=j
  ·subst e1
   rw[getElem?_set_self hl] at h1
   have ec:c=c1:=by cases h1;rfl
   subst ec
   have:b=a:=by rw[ha] at h3;replace h3:=tI_ h3;subst h3;rfl
   subst this
   have h2:=bs hjk h2
   rw[(oth hjk h2 h4).2.1] at h6
   exact self hjk h2 h4 h5 h6
  ·rw[getElem?_set_ne e1] at h1
   rw[(oth e1 (.inl ⟨m,g1,h1⟩) h3).2.1] at h5
   by_cases e2:i=k
   ·subst e2
    have ec:c=c2:=by
     rw[getElem?_set_self hl] at h2
     rcases h2 with ⟨_,_,h2⟩|⟨_,h2⟩
     ·cases h2;rfl
     ·nomatch h2
    subst ec
    have:b'=a:=by rw[ha] at h4;replace h4:=tI_ h4;subst h4;rfl
    subst this
    exact self e1 (.inl ⟨m,g1,h1⟩) h3 h6 h5
   ·have h2:=bs e2 h2
    rw[(oth e2 h2 h4).2.1] at h6
    exact R.ob.ll j k m c1 c2 g1 b b' l hjk h1 h2 h3 h4 h5 h6
 ·have h2:=(bk (fun _ _ _ z=>by nomatch z) h2).2
  by_cases e1:i=j
  ·subst e1
   have ec:c=c1:=by
    rw[getElem?_set_self hl] at h1
    rcases h1 with ⟨_,_,h1⟩|⟨_,h1⟩
    ·cases h1;rfl
    ·nomatch h1
   subst ec
   have:b=a:=by rw[ha] at h3;replace h3:=tI_ h3;subst h3;rfl
   subst this
   rcases nw l h5 with z|z
   ·exact R.ob.lo i k c ds b l (.inl ⟨n,fs,hi⟩) h2 ha h4 (by rw[Lof.ins he];exact z)
   ·refine X22 (R.own k ds h2) fun p ws q1 q2 _=>?_
    rw[h4] at q1;replace q1:=tI_ q1;subst q1
    rw[z] at q2;nomatch q2
  ·have h1:=bs e1 h1
   rw[(oth e1 h1 h3).2.1] at h5
   exact R.ob.lo j k c1 ds b l h1 h2 h3 h4 h5
theorem RS.objset{K:Frag}{B Z F F' H H':Hp}{τ:DS}{σ:St}{i n:Nat}{c:Str}{fs fs':Fs}{a C dx:Addr}{vs:List (Str×V)}(R:RS K B Z F τ σ H)(hi:τ[i]?=some (some (.obj n c fs)))(ha:σ[i]?=some (some (.ref a)))(he:H a=some (.ins C dx vs))
  (ff:Same F F') (fh:Same F' H') (tt:TbT F' H') (kp:∀b u,b≠a→b∉wG c vs→H b=some u→Kp u (H' b)) (nwF:∀b o,F' b=some o→F b=some o∨H b=none∨b=a∨b∈wG c vs)
  (ob:ZC K F' H' c fs' a) (nw:∀l∈Lof H' c a,l∈wG c vs∨H l=none):RS K B Z F' (τ.set i (some (.obj n c fs'))) σ H':=by
 have hl:i<τ.length:=(List.getElem?_eq_some_iff.mp hi).1
 obtain⟨hB,hBl⟩:=R.oo i n c fs a hi ha
 rw[Lof.ins he] at hBl
 have rv:=R.rv.objset hi ha he ff fh tt kp nwF ob nw
 refine⟨rv,fun b o e=>?_,R.zf.trans ff,fun b o e=>?_,fun j ds b h1 h2=>?_,fun j m c1 g b h1 h2=>?_,fun a0 d0 b1 b2 j m c1 g h=>?_,fun j c1 g b h1 h2=>?_⟩
 ·have n1:b≠a:=fun z=>by subst z;rw[hB] at e;nomatch e
  have n2:b∉wG c vs:=fun z=>by rw[hBl b z] at e;nomatch e
  exact MT (R.bh b o e) fun u hu=>kp b u n1 n2 hu
 ·rcases nwF b o e with z|z|z|z
  ·exact R.nb b o z
  ·exact .inr (yU R.bh z)
  ·exact .inr (by rw[z];exact hB)
  ·exact .inr (hBl b z)
 ·by_cases e:i=j
  ·subst e;rw[getElem?_set_self hl] at h1;nomatch h1
  ·rw[getElem?_set_ne e] at h1;exact R.ob j ds b h1 h2
 ·by_cases e:i=j
  ·subst e
   rw[getElem?_set_self hl] at h1
   have ec:c=c1:=by cases h1;rfl
   subst ec
   have:b=a:=by rw[ha] at h2;replace h2:=tI_ h2;subst h2;rfl
   subst this
   refine⟨hB,fun l hl=>?_⟩
   rcases nw l hl with z|z
   ·exact hBl l z
   ·exact yU R.bh z
  ·rw[getElem?_set_ne e] at h1
   obtain⟨q1,q2⟩:=R.oo j m c1 g b h1 h2
   refine⟨q1,fun l hl=>q2 l ?_⟩
   refine X11 (R.rv.ob.at_ j m c1 g h1) fun a' p1 r28_=>?_;refine X31 r28_ fun C' dx' vs' p2 _=>?_
   rw[h2] at p1;replace p1:=tI_ p1;subst p1
   have n1:b≠a:=fun z=>by subst z;exact R.rv.ob.dis i j n c c1 fs b e hi (.inl ⟨m,g,h1⟩) ha h2
   have n2:b∉wG c vs:=fun z=>by
    refine X11 (R.rv.ob.at_ i n c fs hi) fun a2 p1 r27_=>?_;refine X34 r27_ fun C2 dx2 vs2 p3 _ _ p5 _=>?_
    rw[ha] at p1;replace p1:=tI_ p1;subst p1
    rw[he] at p3;cases p3
    refine X01 (p5.own z) fun _ r26_=>?_;refine X10 r26_ fun ws q=>?_
    rw[p2] at q;nomatch q
   rw[Lof.ins p2]
   rw[Lof.ins (show H' b=some (.ins C' dx' vs') from kp b _ n1 n2 p2)] at hl
   exact hl
 ·by_cases e:i=j
  ·subst e
   rw[getElem?_set_self hl] at h
   have em:n=m+1:=by cases h;rfl
   subst em
   exact R.sf a0 d0 b1 b2 i m c fs hi
  ·rw[getElem?_set_ne e] at h;exact R.sf a0 d0 b1 b2 j m c1 g h
 ·by_cases e:i=j
  ·subst e;rw[getElem?_set_self hl] at h1;nomatch h1
  ·rw[getElem?_set_ne e] at h1;exact R.ro j c1 g b h1 h2
theorem TOk.stepI{F H H':Hp}{r:Addr×Nat×Nat×Str}(t:TOk F H r)(k:∀a o,H a=some o→(∀C dx vs,o≠.ins C dx vs)→H' a=some o):TOk F H' r:=by
 refine⟨t.1,?_⟩
 rcases t.2 with e|⟨c,e,e2⟩
 ·exact .inl (k _ _ e fun _ _ _ z=>nomatch z)
 ·exact .inr ⟨c,k _ _ e (fun _ _ _ z=>nomatch z),k _ _ e2 fun _ _ _ z=>nomatch z⟩
theorem TbT.ins{F H:Hp}{a C dx:Addr}{vs vs':List (Str×V)}(t:TbT F H)(he:H a=some (.ins C dx vs)):TbT F (L2.upd H a (.ins C dx vs')):=
 ⟨fun r hr=>(t.1 r hr).stepI fun b o e n=>by
  have:b≠a:=fun z=>by subst z;rw[he] at e;replace e:=sI_ e;subst e;exact n _ _ _ rfl
  rw[zp this];exact e,fun d b e=>by
  have e:=uC (fun _ z=>by nomatch z) d b e
  refine X30 (t.2 d b e) fun C' dx' vs'' h=>?_
  by_cases z:b=a
  ·subst z;exact Y30 C dx vs' zr
  ·exact⟨C',dx',vs'',by rw[zp z];exact h⟩⟩
theorem RS.attV{K:Frag}{B Z F H:Hp}{τ:DS}{σ:St}{i n:Nat}{c f:Str}{fs:Fs}{a C dx:Addr}{vs:List (Str×V)}{d:D}{v:V}(R:RS K B Z F τ σ H)(hi:τ[i]?=some (some (.obj n c fs)))(ha:σ[i]?=some (some (.ref a)))(he:H a=some (.ins C dx vs))(ho:Tabs.own c f=false)(r:Rep K F d v) :
  RS K B Z F (τ.set i (some (.obj n c (wY f d fs)))) σ (L2.upd H a (.ins C dx (vn f v vs))):=by
 refine X11 (R.rv.ob.at_ i n c fs hi) fun a' q1 r25_=>?_;refine X35 r25_ fun C' dx' vs' q2 q3 q4 q5 q6 q7=>?_
 rw[ha] at q1;replace q1:=tI_ q1;subst q1
 rw[he] at q2;cases q2
 have hd:dx≠a:=fun z=>by subst z;rw[he] at q6;nomatch q6
 have hL:Lof (L2.upd H a (.ins C dx (vn f v vs))) c a=wG c vs:=by rw[Lof.ins zr,ZM ho]
 refine R.objset hi ha he (Same.refl F) (fun b o e=>?_) (R.rv.tt.ins he) (fun b u h1 _ e=>.of (by rw[zp h1];exact e)) (fun b o e=>.inl e) ⟨C,dx,vn f v vs,zr,q3,q4,?_,by rw[zp hd];exact q6,by rw[ZM ho];exact q7⟩ fun l hl=>.inl (by rw[hL] at hl;exact hl)
 ·have:b≠a:=fun z=>by subst z;rw[q3] at e;nomatch e
  rw[zp this];exact R.rv.fh b o e
 ·refine(q5.put (f:=f) (d:=d) (v:=v) (by unfold Jn;rw[if_neg (by rw[ho];simp)];exact r)).keep (Same.refl F) fun l ws hl e1 e2=>⟨?_,e2⟩
  have:l≠a:=fun z=>by subst z;rw[he] at e1;nomatch e1
  rw[zp this];exact e1
noncomputable def sAt(i:Nat)(c f:Str)(fe:FE):FS:=fun τ=>Fl.of (fe τ) fun d=>Fl.of (vp τ i c) fun p=>if p.2.length<1000 then .nx (τ.set i (some (.obj p.1 c (wY f d p.2)))) else .no
section
variable{X:Cx}{pos:Pos}{e:Expr}{es:List Expr}{fe:FE}{fs:FA}{C:Addr}{c f x:Str}{i:Nat}
theorem uy{p1 pos':Pos}(hx:PE X (.Name x p1) (uW i))(hC:nsIn X.K mainGlobals c=some (some (.ref C)))(cl:Cls X.K C)(na:NoAttr X.K C f)(he:PDE X e fe)(ho:Tabs.own c f=false:=by rfl)
  (hs:swapsWith e (some (.Attribute (.Name x p1) f pos')) pos.line X.env=pure false:=by rfl):PDS X (.Assign [.Attribute (.Name x p1) f pos'] e pos) (sAt i c f fe):=
 PS.imp (zg5 hx he hs) fun E σ H z_=>by
  refine X41 z_ fun B Z F τ R h=>?_
  refine tE.at R h.of fun d v F1 H1 g x R1 r=>?_
  refine X21 (Yw (X:=X) (Post.of g)) fun n fs h1 h2=>?_
  refine X11 (R1.rv.ob.at_ i n c fs h1) fun a q1 r24_=>?_;refine X34 r24_ fun C' dx vs q2 q3 q4 q5 q6=>?_
  rw[hC] at q4
  obtain rfl:C=C':=by replace q4:=PySem.Value.ref.inj (Option.some.inj (Option.some.inj q4));subst q4;rfl
  by_cases z:fs.length<1000
  ·dsimp only at h2
   rw[if_pos z] at h2
   exact⟨_,q1,a,C,dx,vs,rfl,q2,cl,na,by rw[← q5.length];exact z,h2 σ F1 _ x.ff (R1.attV h1 q1 q2 ho r)⟩
  ·dsimp only at h2
   rw[if_neg z] at h2;exact h2.elim
end
section
variable{X:Cx}{pos:Pos}{e:Expr}{es:List Expr}{fe:FE}{ff:FA}{C:Addr}{c f x:Str}{i:Nat}
end
section
variable{X:Cx}{pos:Pos}{e:Expr}{es:List Expr}{fe:FE}{ff:FA}{C:Addr}{c f x:Str}{i:Nat}
end
structure TC(F B F' H':Hp):Prop where
 ff:Same F F'
 hh:Hh B H'
 fh:Same F' H'
 nw:∀a o,F' a=some o→F a=some o∨B a=none
 tt:TbT F' H'
theorem RS.outO{K:Frag}{B Z F H:Hp}{τ:DS}{σ:St}(R:RS K B Z F τ σ H):TC Z B F H:=⟨R.zf,R.bh,R.rv.fh,R.nb,R.rv.tt⟩
noncomputable def xR(H:Hp)(c:Str)(a:Addr):Hp:=fun b=>if b=a∨b∈Lof H c a then none else H b
theorem Zp(H:Hp)(c:Str)(a:Addr):xR H c a a=none:=if_pos (.inl rfl)
theorem Qf{H:Hp}{c:Str}{a l:Addr}(h:l∈Lof H c a):xR H c a l=none:=if_pos (.inr h)
theorem vE{H:Hp}{c:Str}{a b:Addr}(h1:b≠a)(h2:b∉Lof H c a):xR H c a b=H b:=if_neg fun z=>z.elim h1 h2
theorem uI{H:Hp}{c:Str}{a b:Addr}{o:HO}(h:xR H c a b=some o):H b=some o:=by
 unfold xR at h
 split at h
 ·nomatch h
 ·exact h
theorem vD{H:Hp}{c:Str}{a b:Addr}(h:xR H c a b=none):b=a∨b∈Lof H c a∨H b=none:=by
 unfold xR at h
 split at h
 ·rename_i z;exact z.elim .inl fun z=>.inr (.inl z)
 ·exact .inr (.inr h)
noncomputable def spM(K:Frag)(c:Str)(j n:Nat)(g:Fs→List D→Rs (D×Fs)):Sp:=fun vs H Q E=>vs.length=n+1∧∃a us1 us2 ds1 ds2 fs F,vs=us1 ++ .ref a::us2∧us1.length=j∧ZC K F H c fs a∧Same F H∧TbT F H∧Reps K F ds1 us1∧Reps K F ds2 us2∧match g fs (ds1++ds2) with
 | .ok (d,fs')=>∀v F' H',TC F (xR H c a) F' H'→ZC K F' H' c fs' a→(∀l∈Lof H' c a,l∈Lof H c a∨H l=none)→Rep K F' d v→Q v H'
 |_=>False
noncomputable def spR(K:Frag)(c:Str)(j n:Nat)(g:Fs→List D→Rs D):Sp:=fun vs H Q E=>vs.length=n+1∧∃a us1 us2 ds1 ds2 fs F C dx ws,vs=us1 ++ .ref a::us2∧us1.length=j∧H a=some (.ins C dx ws)∧nsIn K mainGlobals c=some (some (.ref C))∧Flds K F H c fs ws∧Same F H∧TbT F H∧Reps K F ds1 us1∧Reps K F ds2 us2∧match g fs (ds1++ds2) with
 |.ok d=>Ev K F H Q d
 |_=>False
theorem RS.meth{K:Frag}{B Z F H F' H':Hp}{τ:DS}{σ:St}{i n:Nat}{c:Str}{fs fs':Fs}{a:Addr}(R:RS K B Z F τ σ H)(hi:τ[i]?=some (some (.obj n c fs)))(ha:σ[i]?=some (some (.ref a)))(x:TC F (xR H c a) F' H')(o:ZC K F' H' c fs' a)(nw:∀l∈Lof H' c a,l∈Lof H c a∨H l=none) :
  RS K B Z F' (τ.set i (some (.obj n c fs'))) σ H':=by
 refine X11 (R.rv.ob.at_ i n c fs hi) fun a' q1 r23_=>?_;refine X31 r23_ fun C dx vs he _=>?_
 rw[ha] at q1;replace q1:=tI_ q1;subst q1
 have hL:Lof H c a=wG c vs:=Lof.ins he
 refine R.objset hi ha he x.ff x.fh x.tt (fun b u h1 h2 e=>x.hh b u (by rw[vE h1 (by rw[hL];exact h2)];exact e)) (fun b u e=>?_) o fun l hl=>by rw[← hL];exact nw l hl
 rcases x.nw b u e with z|z
 ·exact .inl z
 ·rcases vD z with z|z|z
  ·exact .inr (.inr (.inl z))
  ·exact .inr (.inr (.inr (by rw[← hL];exact z)))
  ·exact .inr (.inl z)
noncomputable def xG(s0:Sl)(j N:Nat)(ds:List D):DS:=(ds.take j).map (fun d=>some (.val d))++some s0::((ds.drop j).map (fun d=>some (.val d))++List.replicate (N-(ds.length+1)) none)
noncomputable def v7(s0:Sl)(ds1 ds2:List D)(N:Nat):DS:=ds1.map (fun d=>some (.val d))++some s0::(ds2.map (fun d=>some (.val d))++List.replicate (N-(ds1.length+ds2.length+1)) none)
theorem jl{s0:Sl}{j N:Nat}{ds1 ds2:List D}(h:ds1.length=j):xG s0 j N (ds1++ds2)=v7 s0 ds1 ds2 N:=by
 unfold xG v7
 subst h
 rw[List.take_left,List.drop_left,length_append]
theorem XM{s0:Sl}{N:Nat}{ds1 ds2:List D}{i:Nat}{o:Sl}(h:(v7 s0 ds1 ds2 N)[i]?=some (some o)):(i=ds1.length∧o=s0)∨(∃d,ds1[i]?=some d∧o=.val d)∨∃k d,i=ds1.length+1+k∧ds2[k]?=some d∧o=.val d:=by
 unfold v7 at h
 by_cases h1:i<ds1.length
 ·rw[getElem?_append_left (by simpa using h1),getElem?_map] at h
  rcases e:ds1[i]? with _|d
  ·rw[e] at h;cases h
  ·rw[e] at h;cases h;exact .inr (.inl ⟨d,rfl,rfl⟩)
 ·rw[getElem?_append_right (by simpa using h1),length_map] at h
  cases e:i-ds1.length with
  |zero=>rw[e] at h;simp at h;exact .inl ⟨by lia,h.symm⟩
  |succ k=>
   rw[e,getElem?_cons_succ] at h
   by_cases h2:k<ds2.length
   ·rw[getElem?_append_left (by simpa using h2),getElem?_map] at h
    rcases e2:ds2[k]? with _|d
    ·rw[e2] at h;cases h
    ·rw[e2] at h;cases h;exact .inr (.inr ⟨k,d,by lia,e2,rfl⟩)
   ·rw[getElem?_append_right (by simpa using h2),getElem?_replicate] at h
    split at h <;> cases h
theorem jp{K:Frag}{F H B:Hp}{N:List Str}{ds1 ds2:List D}{us1 us2:List V}{a:Addr}{s0:Sl}(hs:Ul (some s0)=true)(fh:Same F H)(tt:TbT F H)(r1:Reps K F ds1 us1)(r2:Reps K F ds2 us2)
  (h1:∀n c fs,s0=.obj n c fs→ZC K F H c fs a∧B=xR H c a) (h2:∀c fs,s0=.obr c fs→(∃C dx vs,H a=some (.ins C dx vs)∧nsIn K mainGlobals c=some (some (.ref C))∧Flds K F H c fs vs)) (hb:Hh B H) (hnb:∀b o,B b=some o→H b=some o) (h3:∀c fs,s0=.obr c fs→B=H) :
  RS K B F F (v7 s0 ds1 ds2 N.length) (L2.start N (us1 ++ .ref a::us2)) H:=by
 have hl1:=r1.length
 have hl2:=r2.length
 have s1:∀{i:Nat} {v:V},us1[i]?=some v→(L2.start N (us1 ++ .ref a::us2))[i]?=some (some v):=fun {i v} q=>by
  have hi:i<us1.length:=(List.getElem?_eq_some_iff.mp q).1
  unfold L2.start
  rw[getElem?_append_left (by simp;lia),getElem?_map,getElem?_append_left hi,q];rfl
 have s2:∀{k:Nat} {v:V},us2[k]?=some v→(L2.start N (us1 ++ .ref a::us2))[us1.length+1+k]?=some (some v):=fun {k v} q=>by
  have hi:k<us2.length:=(List.getElem?_eq_some_iff.mp q).1
  unfold L2.start
  rw[getElem?_append_left (by simp;lia),getElem?_map,getElem?_append_right (by lia),show us1.length+1+k-us1.length=k+1 by lia,getElem?_cons_succ,q];rfl
 have s0':(L2.start N (us1 ++ .ref a::us2))[ds1.length]?=some (some (.ref a)):=by
  unfold L2.start
  rw[getElem?_append_left (by simp;lia),getElem?_map,getElem?_append_right (by lia),hl1];simp
 have only:∀{i:Nat} {o:Sl},Ul (some o)=true→(v7 s0 ds1 ds2 N.length)[i]?=some (some o)→i=ds1.length∧o=s0:=fun {i o} ho h=>by
  rcases XM h with e|⟨d,_,e⟩|⟨k,d,_,_,e⟩
  ·exact e
  ·subst e;cases ho
  ·subst e;cases ho
 have onlyS:∀{i:Nat} {c:Str},ObS (v7 s0 ds1 ds2 N.length)[i]? c→i=ds1.length:=fun {i c} h=>by
  rcases h with ⟨n,fs,h⟩|⟨fs,h⟩
  ·exact(only rfl h).1
  ·exact(only rfl h).1
 have noown:∀{i:Nat} {es:List D},(v7 s0 ds1 ds2 N.length)[i]?=some (some (.own es))→False:=fun {i es} h=>by
  rcases XM h with ⟨_,e⟩|⟨d,_,e⟩|⟨k,d,_,_,e⟩
  ·rw[← e] at hs;cases hs
  ·nomatch e
  ·nomatch e
 refine⟨⟨fh,?_,fun i d h=>?_,fun i es h=>(noown h).elim,fun i j es es' b _ h1=>(noown h1).elim,tt,⟨fun i n c fs h=>?_,fun i j n c c' fs b hij g1 g2 _ _=>?_,fun i c fs h=>?_,fun i j n c c' fs b b' l hij g1 g2=>?_,fun i j c ds b l _ g2=>(noown g2).elim⟩⟩,hb,Same.refl F,fun a o e=>.inl e,fun i es b g1=>(noown g1).elim,fun i n c fs b g1 g2=>?_,fun a0 dx b1 b2 i n c fs g1=>?_,fun i c fs b g1 g2=>?_⟩
 ·simp[v7,L2.start,hl1,hl2];lia
 ·rcases XM h with ⟨_,e⟩|⟨d',e1,e⟩|⟨k,d',rfl,e1,e⟩
  ·rw[← e] at hs;cases hs
  ·replace e:=FD.Sl.val.inj e;subst e
   refine X11 (r1.get e1) fun v q1 q2=>?_
   exact Y11 v (s1 q1) q2
  ·replace e:=FD.Sl.val.inj e;subst e
   refine X11 (r2.get e1) fun v q1 q2=>?_
   exact Y11 v (by rw[hl1];exact s2 q1) q2
 ·obtain⟨rfl,e⟩:=only rfl h
  exact Y11 a s0' ((h1 n c fs e.symm).1)
 ·exact hij ((only rfl g1).1.trans (onlyS g2).symm)
 ·obtain⟨rfl,e⟩:=only rfl h
  refine X32 (h2 c fs e.symm) fun C dx vs q1 q2 q3=>?_
  exact Y43 a C dx vs s0' q1 q2 q3
 ·exact absurd ((only rfl g1).1.trans (onlyS g2).symm) hij
 ·obtain⟨rfl,e⟩:=only rfl g1
  rw[s0'] at g2;replace g2:=tI_ g2;subst g2
  rw[(h1 n c fs e.symm).2]
  exact⟨Zp _ _ _,fun l hl=>Qf hl⟩
 ·obtain⟨rfl,e⟩:=only rfl g1
  obtain⟨p1,p2⟩:=h1 (n+1) c fs e.symm
  refine X30 (tt.2 dx a0 (hnb _ _ b1)) fun C dx' vs q2=>?_
  by_cases z:a0=a
  ·rw[z];exact s0'
  ·have:a0∉Lof H c a:=fun y=>by
    refine X34 p1 fun C2 dx2 vs2 o1 _ _ o4 _=>?_
    rw[Lof.ins o1] at y
    refine X01 (o4.own y) fun _ r22_=>?_;refine X10 r22_ fun ws q=>?_
    rw[q2] at q;nomatch q
   rw[p2,vE z this,q2] at b2;nomatch b2
 ·obtain⟨rfl,e⟩:=only rfl g1
  rw[s0'] at g2;replace g2:=tI_ g2;subst g2
  refine X32 (h2 c fs e.symm) fun C dx vs q1 q2 q3=>?_
  rw[h3 c fs e.symm]
  exact Y31 C dx vs q1 (fun l hl=>(q3.own hl).2)
noncomputable def flM(j:Nat)(c:Str):Fl→Rs (D×Fs)
 |.ro d τ=>(vp τ j c).bind fun p=>if p.1=1 then .ok (d,p.2) else .no
 |.nx τ=>(vp τ j c).bind fun p=>if p.1=1 then .ok (.non,p.2) else .no
 |_=>.no
noncomputable def YQ(N j:Nat)(c:Str)(fb:FS)(fs:Fs)(ds:List D):Rs (D×Fs):=flM j c (fb (xG (.obj 1 c fs) j N ds))
noncomputable def XS(N j:Nat)(c:Str)(fb:FS)(fs:Fs)(ds:List D):Rs D:=Zr (fb (xG (.obr c fs) j N ds))
theorem Yx{τ:DS}{i n:Nat}{c:Str}{fs:Fs}(h:vp τ i c=.ok (n,fs)):τ[i]?=some (some (.obj n c fs)):=by
 unfold vp at h
 split at h
 ·rename_i m c' gs e
  by_cases z:c'=c
  ·subst z;rw[if_pos rfl] at h;cases h;exact e
  ·rw[if_neg z] at h;nomatch h
 ·nomatch h
section
variable{P:Program}{w:World}{K:Frag}{mg:Str→Option Value}{base:Heap}
theorem Zo(H:Hp)(c:Str)(a:Addr):Hh (xR H c a) H:=fun b o e=>.of (uI e)
theorem fnM{x qual c:Str}{st:Stmt}{f:Addr}{fd:FuncData}{N ps:List Str}{k n j:Nat}{fb:FS}(F:Fun K x qual st f fd)(S:zF N ps (zh st))(hn:ps.length=n+1)
  (hbody:∀(cdv:Value) (A:Around) (outer:List Env) (s:Shared) (H:Hp) (E:XK),Room k (A.deeper (envOfC qual (zh st) s.heap.objs.size f cdv)) →
   vh (v0 CX0 P w K mg base N qual (zh st) f cdv A outer s H E).nox (zC st) fb):FnOk P w K mg base CX0 (k+1) f fd ps (spM K c j n (YQ N.length j c fb)):=by
 refine F.ok S (fun vs H Q E h=>by rw[hn];exact h.1) fun cdv A outer s H vs Q E hr h=>⟨_,hbody cdv A outer s H E hr,?_⟩
 obtain⟨hl,a,us1,us2,ds1,ds2,fs,Fz,rfl,hj,ob,fh,tt,r1,r2,h⟩:=h
 have hd1:ds1.length=j:=r1.length.trans hj
 have st:xG (.obj 1 c fs) j N.length (ds1++ds2)=v7 (.obj 1 c fs) ds1 ds2 N.length:=jl hd1
 refine Y41 (xR H c a) Fz Fz (v7 (.obj 1 c fs) ds1 ds2 N.length) (jp rfl fh tt r1 r2 (fun n' c' fs' e=>by cases e;exact⟨ob,rfl⟩) (fun c' fs' e=>by nomatch e) (Zo H c a) (fun b o e=>uI e) (fun c' fs' e=>by nomatch e)) ?_
 refine X35 ob fun C dx ws o1 o2 o3 o4 o5 o6=>?_
 have hdx:xR H c a dx=some (.own a):=by
  have n1:dx≠a:=fun z=>by subst z;rw[o1] at o5;nomatch o5
  have n2:dx∉Lof H c a:=fun z=>by
   rw[Lof.ins o1] at z
   refine X01 (o4.own z) fun _ r21_=>?_;refine X10 r21_ fun ws' q=>?_
   rw[o5] at q;nomatch q
  rw[vE n1 n2];exact o5
 have fin:∀{τ:DS} {σ:St} {F' H':Hp} {fs':Fs},vp τ j c=.ok (1,fs')→RS K (xR H c a) Fz F' τ σ H'→ZC K F' H' c fs' a∧∀l∈Lof H' c a,l∈Lof H c a∨H l=none:=fun {τ σ F' H' fs'} q RR=>by
  have z:=Yx q
  refine X11 (RR.rv.ob.at_ j 1 c fs' z) fun a' p1 p2=>?_
  have:=RR.sf a dx hdx (Zp _ _ _) j 0 c fs' z
  rw[p1] at this;replace this:=tJ_ this;subst this
  refine⟨p2,fun l hl=>?_⟩
  rcases vD ((RR.oo j 1 c fs' a z p1).2 l hl) with y|y|y
  ·subst y
   refine X34 p2 fun C' dx' vs' g1 _ _ g4 _=>?_
   rw[Lof.ins g1] at hl
   refine X01 (g4.own hl) fun _ r20_=>?_;refine X10 r20_ fun ws' q=>?_
   rw[g1] at q;nomatch q
  ·exact .inl y
  ·exact .inr y
 unfold YQ at h
 rw[st] at h
 cases q:fb (v7 (.obj 1 c fs) ds1 ds2 N.length) with
 |nx τ=>
  rw[q] at h
  cases z:vp τ j c with
  |ok p=>
   obtain⟨m,fs'⟩:=p
   simp only[flM,z,Rs.bind] at h
   by_cases hm:m=1
   ·subst hm
    rw[if_pos rfl] at h
    exact fun σ F' H' ff RR=>h .non F' H' RR.outO (fin z RR).1 (fin z RR).2 (by simp only[Rep])
   ·rw[if_neg hm] at h;exact h.elim
  |ex c=>simp only[flM,z,Rs.bind] at h
  |no=>simp only[flM,z,Rs.bind] at h
 |ro d τ=>
  rw[q] at h
  cases z:vp τ j c with
  |ok p=>
   obtain⟨m,fs'⟩:=p
   simp only[flM,z,Rs.bind] at h
   by_cases hm:m=1
   ·subst hm
    rw[if_pos rfl] at h
    exact fun v σ F' H' ff RR rr=>h v F' H' RR.outO (fin z RR).1 (fin z RR).2 rr
   ·rw[if_neg hm] at h;exact h.elim
  |ex c=>simp only[flM,z,Rs.bind] at h
  |no=>simp only[flM,z,Rs.bind] at h
 |rb d τ=>rw[q] at h;exact h.elim
 |rt d=>rw[q] at h;exact h.elim
 |bk τ=>rw[q] at h;exact h.elim
 |ct τ=>rw[q] at h;exact h.elim
 |ex c=>rw[q] at h;exact h.elim
 |no=>rw[q] at h;exact h.elim
 |rs c τ=>rw[q] at h;exact h.elim
theorem fnR{x qual c:Str}{st:Stmt}{f:Addr}{fd:FuncData}{N ps:List Str}{k n j:Nat}{fb:FS}(F:Fun K x qual st f fd)(S:zF N ps (zh st))(hn:ps.length=n+1)
  (hbody:∀(cdv:Value) (A:Around) (outer:List Env) (s:Shared) (H:Hp) (E:XK),Room k (A.deeper (envOfC qual (zh st) s.heap.objs.size f cdv)) →
   vh (v0 CX0 P w K mg base N qual (zh st) f cdv A outer s H E).nox (zC st) fb):FnOk P w K mg base CX0 (k+1) f fd ps (spR K c j n (XS N.length j c fb)):=by
 refine F.ok S (fun vs H Q E h=>by rw[hn];exact h.1) fun cdv A outer s H vs Q E hr h=>⟨_,hbody cdv A outer s H E hr,?_⟩
 obtain⟨hl,a,us1,us2,ds1,ds2,fs,Fz,C,dx,ws,rfl,hj,o1,o2,o3,fh,tt,r1,r2,h⟩:=h
 have hd1:ds1.length=j:=r1.length.trans hj
 have st:xG (.obr c fs) j N.length (ds1++ds2)=v7 (.obr c fs) ds1 ds2 N.length:=jl hd1
 refine Y41 H Fz Fz (v7 (.obr c fs) ds1 ds2 N.length) (jp rfl fh tt r1 r2 (fun n' c' fs' e=>by nomatch e) (fun c' fs' e=>by cases e;exact Y32 C dx ws o1 o2 o3) (Hh.refl H) (fun _ _ e=>e) (fun _ _ _=>rfl)) ?_
 unfold XS at h
 rw[st] at h
 cases q:fb (v7 (.obr c fs) ds1 ds2 N.length) with
 |nx τ=>rw[q] at h;exact fun σ F' H' ff RR=>h .non F' H' RR.out (by simp only[Rep])
 |rt d=>rw[q] at h;exact fun v F' H' x rr=>h v F' H' x rr
 |ro d τ=>rw[q] at h;exact fun v σ F' H' ff RR rr=>h v F' H' RR.out rr
 |rb d τ=>rw[q] at h;exact h.elim
 |bk τ=>rw[q] at h;exact h.elim
 |ct τ=>rw[q] at h;exact h.elim
 |ex c=>rw[q] at h;exact h.elim
 |no=>rw[q] at h;exact h.elim
 |rs c τ=>rw[q] at h;exact h.elim
end
noncomputable abbrev FOb:=DS→Rs (D×DS)
noncomputable abbrev Gm:=DS→Rs (Bool×DS)
noncomputable def tOb(X:Cx)(f:FOb):TE:=fun σ H Q=>∃B Z F τ,RS X.K B Z F τ σ H∧Ok X (f τ) fun p=>∀v F' H',Same F F'→RS X.K B Z F' p.2 σ H'→Rep X.K F' p.1 v→Q v H'
noncomputable def tObT(X:Cx)(f:Gm):TT:=fun σ H Q=>∃B Z F τ,RS X.K B Z F τ σ H∧Ok X (f τ) fun p=>∀F' H',Same F F'→RS X.K B Z F' p.2 σ H'→Q p.1 H'
noncomputable def jj(X:Cx)(e:Expr)(f:FOb):Prop:=PE X e (tOb X f)
noncomputable def zf0(X:Cx)(e:Expr)(f:Gm):Prop:=PT X e (tObT X f)
noncomputable def MetM(P:Program)(w:World)(K:Frag)(mg:Str→Option Value)(base:Heap)(c m:Str)(k n:Nat)(ps:List Str)(g:Fs→List D→Rs (D×Fs)):Prop:=
 ∃C f fd,nsIn K mainGlobals c=some (some (.ref C))∧Cls K C∧jk K C m f∧FnOk P w K mg base CX0 k f fd ps (spM K c 0 n g)∧Binds K fd ps []
noncomputable def MetR(P:Program)(w:World)(K:Frag)(mg:Str→Option Value)(base:Heap)(c m:Str)(k n:Nat)(ps:List Str)(g:Fs→List D→Rs D):Prop:=
 ∃C f fd,nsIn K mainGlobals c=some (some (.ref C))∧Cls K C∧jk K C m f∧FnOk P w K mg base CX0 k f fd ps (spR K c 0 n g)∧Binds K fd ps []
noncomputable def ClsM(P:Program)(w:World)(K:Frag)(mg:Str→Option Value)(base:Heap)(c:Str)(k n:Nat)(ps:List Str)(g:Fs→List D→Rs (D×Fs)):Prop:=
 ∃C f fd,nsIn K mainGlobals c=some (some (.ref C))∧mg c=some (.ref C)∧Mk K C f∧FnOk P w K mg base CX0 k f fd ps (spM K c 0 n g)∧Binds K fd ps []
noncomputable def DefM(P:Program)(w:World)(K:Frag)(mg:Str→Option Value)(base:Heap)(x c:Str)(k j n:Nat)(ps:List Str)(g:Fs→List D→Rs (D×Fs)):Prop:=
 ∃f fd,FnOk P w K mg base CX0 k f fd ps (spM K c j n g)∧Binds K fd ps []∧keepIn K (.ref f)=true∧mg x=some (.ref f)
noncomputable def DefR(P:Program)(w:World)(K:Frag)(mg:Str→Option Value)(base:Heap)(x c:Str)(k j n:Nat)(ps:List Str)(g:Fs→List D→Rs D):Prop:=
 ∃f fd,FnOk P w K mg base CX0 k f fd ps (spR K c j n g)∧Binds K fd ps []∧keepIn K (.ref f)=true∧mg x=some (.ref f)
section
variable{X:Cx}{pos:Pos}{e a b:Expr}{es rest:List Expr}{fe fb:FE}{fs:FA}{c m x:Str}{i k n:Nat}{ps:List Str}{fo:FOb}{ga gb:Gm}
noncomputable def yO(i:Nat)(c m:Str)(g:Fs→List D→Rs D)(fs:FA):FE:=fun τ=>(vY τ i c).bind fun o=>if (xh m o).isNone=true then (fs τ).bind fun ds=>X4 (g o ds) else .no
theorem ME{C:Addr}{g:Fs→List D→Rs D}(hC:nsIn X.K mainGlobals c=some (some (.ref C)))(hfs:∀τ ds,fs τ=.ok ds→ds.length=n){σ:St}{H:Hp}{Q:VK}(h:tE X (yO i c m g fs) σ H Q):VB C m (spR X.K c 0 n g) [] E0 (uW i) (tAs X fs) σ H Q:=by
 obtain⟨F,τ,R,h⟩:=h
 refine X54 (Yy R h.bind) fun o a C' dx vs h1 h2 h3 h4 h5=>?_
 obtain rfl:C=C':=by rw[hC] at h3;replace h3:=PySem.Value.ref.inj (Option.some.inj (Option.some.inj h3));subst h3;rfl
 have l:=h4.look (f:=m)
 rcases z:xh m o with _|d
 ·rw[z] at l h5
  rw[if_pos (by rfl)] at h5
  refine⟨_,h1,a,dx,vs,rfl,h2,l,F,τ,R,?_⟩
  have hb:=h5.bind
  cases q:fs τ with
  |no=>rw[q] at hb;exact hb
  |ex c=>rw[q] at hb;exact hb
  |ok ds=>
   rw[q] at hb
   intro us F1 H1 x r
   rw[append_nil]
   refine⟨by rw[length_cons,← r.length,hfs τ ds q],a,[],us,[],ds,o,F1,C,dx,vs,rfl,rfl,x.hh _ _ h2,h3,h4.keep x.ff fun l ws _ e1 e2=>⟨x.hh _ _ e1,?_⟩,x.fh,x.tt R.tt,Reps.nil,r,?_⟩
   ·rcases y:F1 l with _|u
    ·rfl
    ·rcases x.nw l u y with z|z
     ·rw[e2] at z;nomatch z
     ·rw[e1] at z;nomatch z
   show match g o ds with
    |.ok d=>Ev X.K F1 H1 Q d
    |_=>False
   have hb:Ok X (X4 (g o ds)) (Ev X.K F H Q):=hb
   cases z:g o ds with
   |ok d=>rw[z] at hb;exact Ev.ext hb x
   |ex c=>rw[z] at hb;exact hb.elim
   |no=>rw[z] at hb;exact hb.elim
 ·rw[z,if_neg (by simp)] at h5;exact h5.elim
theorem zj9{σ:St}{H:Hp}{Q:List V→Hp→Prop}(h:tAs X zi σ H Q):TV σ H Q:=by
 obtain⟨F,τ,R,h⟩:=h
 exact h [] F H (Ext.refl R.fh) Reps.nil
theorem wa{g:Fs→List D→Rs D}{p1 apos:Pos}{pl:Sem Bool}(M:MetR X.prog X.w X.K X.mg X.base c m k 0 ps g)(hr:Room k X.A)(hx:PE X (.Name x p1) (uW i))
  (ht:eval (.Call (.Attribute (.Name x p1) m apos) [] [] pos) X.env=(do
   let ov ← eval (.Name x p1) X.env
   standAt apos.atName
   let (f,first) ← holding [ov] (getMethod ov m pl)
   callWith pos f first (backTo pos (starEach [] X.env)) (backToKw pos (keywordEach [] X.env))):=by rfl) :
  PDE X (.Call (.Attribute (.Name x p1) m apos) [] [] pos) (yO i c m g zi):=by
 refine X34 M fun C f fd hC cl hm F hb=>?_
 refine PE.imp (VT hx cl hm F hr hb .nil (E:=E0) Z9 ht) fun σ H Q h=>?_
 refine X11 (ME (n:=0) hC (fun τ ds h=>by cases h;rfl) h) fun v h1 r19_=>?_;refine X33 r19_ fun a dx vs h2 h3 h4 h5=>?_
 exact⟨v,h1,a,dx,vs,h2,h3,h4,zj9 h5⟩
noncomputable def Zl(i:Nat)(c m:Str)(g:Fs→List D→Rs (D×Fs))(fs:FA):FOb:=fun τ=>(vp τ i c).bind fun p=>if (xh m p.2).isNone=true then (fs τ).bind fun ds=>(match g p.2 ds with
 | .ok (d,o')=>.ok (d,τ.set i (some (.obj p.1 c o')))
 |_=>.no) else .no
theorem LK{C:Addr}{g:Fs→List D→Rs (D×Fs)}(hC:nsIn X.K mainGlobals c=some (some (.ref C)))(hfs:∀τ ds,fs τ=.ok ds→ds.length=n){σ:St}{H:Hp}{Q:VK}(h:tOb X (Zl i c m g fs) σ H Q):VB C m (spM X.K c 0 n g) [] E0 (uW i) (tAs X fs) σ H Q:=by
 obtain⟨B,Z,F,τ,R,h⟩:=h
 refine X21 (Yw (X:=X) h.bind) fun t o h1 h5=>?_
 dsimp only at h5
 refine X11 (R.rv.ob.at_ i t c o h1) fun a q1 r18_=>?_;refine X34 r18_ fun C' dx vs q2 q3 q4 q5 q6=>?_
 obtain rfl:C=C':=by rw[hC] at q4;replace q4:=PySem.Value.ref.inj (Option.some.inj (Option.some.inj q4));subst q4;rfl
 have l:=q5.look (f:=m)
 rcases z:xh m o with _|d
 ·rw[z] at l h5
  rw[if_pos (by rfl)] at h5
  refine⟨_,q1,a,dx,vs,rfl,q2,l,F,τ,R.rv,?_⟩
  have hb:=h5.bind
  cases q:fs τ with
  |no=>rw[q] at hb;exact hb
  |ex c=>rw[q] at hb;exact hb
  |ok ds=>
   rw[q] at hb
   intro us F1 H1 x r
   have R1:=R.ext x
   refine X11 (R1.rv.ob.at_ i t c o h1) fun a' p1 ob=>?_
   obtain rfl:a'=a:=by rw[q1] at p1;replace p1:=tI_ p1;subst p1;rfl
   rw[append_nil]
   refine⟨by rw[length_cons,← r.length,hfs τ ds q],a',[],us,[],ds,o,F1,rfl,rfl,ob,x.fh,R1.rv.tt,Reps.nil,r,?_⟩
   rw[nil_append]
   dsimp only [Ok] at hb
   cases z:g o ds with
   |ok p=>
    obtain⟨d,o'⟩:=p
    rw[z] at hb
    exact fun v F' H' xo ob' nw rep=>hb v F' H' (x.ff.trans xo.ff) (R1.meth h1 q1 xo ob' nw) rep
   |ex c=>rw[z] at hb;exact hb.elim
   |no=>rw[z] at hb;exact hb.elim
 ·rw[z,if_neg (by simp)] at h5;exact h5.elim
theorem VX{g:Fs→List D→Rs (D×Fs)}{p1 apos:Pos}{pl:Sem Bool}(M:MetM X.prog X.w X.K X.mg X.base c m k n ps g)(hr:Room k X.A)(hx:PE X (.Name x p1) (uW i))(ha:PDA X (e::es) fs)(hfs:∀τ ds,fs τ=.ok ds→ds.length=n)
  (hst:starEach (e::es) X.env=(false,eval e X.env)::starEach es X.env:=by rfl) (hpl:(backTo pos (starEach es X.env)).any (·.1)=false:=by rfl)
  (ht:eval (.Call (.Attribute (.Name x p1) m apos) (e::es) [] pos) X.env=(do
   let ov ← eval (.Name x p1) X.env
   standAt apos.atName
   let (f,first) ← holding [ov] (getMethod ov m pl)
   callWith pos f first (backTo pos (starEach (e::es) X.env)) (backToKw pos (keywordEach [] X.env))):=by rfl) :
  jj X (.Call (.Attribute (.Name x p1) m apos) (e::es) [] pos) (Zl i c m g fs):=by
 refine X34 M fun C f fd hC cl hm F hb=>?_
 exact PE.imp (Ln hx cl hm F hr hb .nil (E:=E0) Z9 ha hst hpl ht) fun σ H Q h=>LK hC hfs h
noncomputable def oOf(fe:FE):FOb:=fun τ=>(fe τ).bind fun d=>.ok (d,τ)
theorem zi2(h:PDE X e fe):jj X e (oOf fe):=PE.imp h fun σ H Q z_=>by refine X41 z_ fun B Z F τ R q=>?_;exact tE.at R q.bind fun d v F1 H1 g x R1 r=>g v F1 H1 x.ff R1 r
noncomputable def oOp(op:D→D→Rs D)(fo:FOb)(fb:FE):FOb:=fun τ=>(fo τ).bind fun p=>(fb p.2).bind fun y=>(op p.1 y).bind fun z=>.ok (z,p.2)
theorem Mq{r:R2}{op:D→D→Rs D}(hl:∀F H x y dx dy Q,Same F H→Rep X.K F dx x→Rep X.K F dy y→Ok X (op dx dy) (Ev X.K F H Q)→r x y H Q)
  (σ:St) (H:Hp) (Q:VK) (h:tOb X (oOp op fo fb) σ H Q):tOp r (tOb X fo) (tE X fb) σ H Q:=by
 obtain⟨B,Z,F,τ,R,h⟩:=h
 refine Y41 B Z F τ R (h.bind.imp fun p g v F1 H1 f1 R1 r1=>?_)
 refine tE.at R1 g.bind fun y w F2 H2 g2 x2 R2 r2=>?_
 exact hl F2 H2 v w p.1 y Q R2.rv.fh (r1.mono x2.ff) r2 (g2.bind.imp fun z gz u F3 H3 x3 r3=>gz u F3 H3 (f1.trans (x2.ff.trans x3.ff)) (R2.ext x3) r3)
theorem Ls{o:CmpOp}{op:D→D→Rs D}(ho:OpD X (compareOp o) op)(ha:jj X a fo)(hb:PDE X b fb)(hm:behindInMarks o b=false):jj X (.Compare a [o] [b] pos) (oOp op fo fb):=by
 refine X11 ho fun r h1 h2=>?_
 exact(JJ h1 ha hb hm).imp (Mq h2)
noncomputable def oB(f:FOb):Gm:=fun τ=>(f τ).bind fun p=>match p.1 with
 |.bl b=>.ok (b,p.2)
 |_=>.no
theorem u6{o:CmpOp}{op:D→D→Rs D}(ho:OpD X (compareOp o) op)(ha:jj X a fo)(hb:PDE X b fb)(hm:behindInMarks o b=false):zf0 X (.Compare a [o] [b] pos) (oB (oOp op fo fb)):=by
 refine X11 ho fun r h1 h2=>?_
 refine(JE h1 ha hb hm).imp fun σ H Q h=>?_
 obtain⟨B,Z,F,τ,R,h⟩:=h
 refine Mq h2 σ H _ ⟨B,Z,F,τ,R,h.bind.imp fun p g v F1 H1 f1 R1 r1=>?_⟩
 obtain⟨d,τ'⟩:=p
 cases d with
 |bl k=>simp only[Rep] at r1;exact Y11 k r1 (g F1 H1 f1 R1)
 |_=>exact g.elim
noncomputable def ZI(gc:Gm)(f g:FS):FS:=fun τ=>Fl.of (gc τ) fun p=>if p.1=true then f p.2 else g p.2
theorem Zf{s1 s2:List Stmt}{f g:FS}(hc:zf0 X e ga)(h1:vh X s1 f)(h2:vh X s2 g):PDS X (.If e s1 s2 pos) (ZI ga f g):=
 PS.imp (zd6 hc h1 h2) fun E σ H ⟨B,Z,F,τ,R,h⟩=>Y41 B Z F τ R (h.of.imp fun p q F1 H1 f1 R1=>by
  obtain⟨k,τ'⟩:=p
  cases k with
  |true=>rw[if_pos rfl] at q ⊢;exact Y41 B Z F1 τ' R1 (q.same f1)
  |false=>rw[if_neg (by simp)] at q ⊢;exact⟨B,Z,F1,τ',R1,q.same f1⟩)
noncomputable def YO(fo:FOb):FS:=fun τ=>Fl.of (fo τ) fun p=>.nx p.2
theorem QL(he:jj X e fo)(hs:swapsWith e none pos.line X.env=pure false:=by rfl):PDS X (.Expr e pos) (YO fo):=
 PS.imp (WU he hs) fun E σ H z_=>by refine X41 z_ fun B Z F τ R h=>?_;exact Y41 B Z F τ R (h.of.imp fun p q v F1 H1 f1 R1 r=>q σ F1 H1 f1 R1)
noncomputable def VI(i:Nat)(fo:FOb):FS:=fun τ=>Fl.of (fo τ) fun p=>.nx (p.2.set i (some (.val p.1)))
noncomputable def uR(fe:FE):FS:=fun τ=>Fl.of (fe τ) fun d=>.ro d τ
theorem YZ(he:PDE X e fe):PDS X (.Return (some e) pos) (uR fe):=
 PS.imp (ZK he) fun E σ H z_=>by refine X41 z_ fun B Z F τ R h=>?_;exact tE.at R h.of fun d v F1 H1 g x R1 r=>g v σ F1 H1 x.ff R1 r
noncomputable def Wl(fo:FOb):FS:=fun τ=>Fl.of (fo τ) fun p=>.rt p.1
theorem Mb(he:jj X e fo):PDS X (.Return (some e) pos) (Wl fo):=
 PS.imp (ZK he) fun E σ H z_=>by refine X41 z_ fun B Z F τ R h=>?_;exact Y41 B Z F τ R (h.of.imp fun p q v F1 H1 f1 R1 r=>q v F1 H1 R1.out r)
end
section
variable{X:Cx}{pos:Pos}{e a b:Expr}{es rest:List Expr}{fe fb:FE}{fs f1 f2:FA}{c m x y:Str}{i k n j:Nat}{ps:List Str}{fo:FOb}
noncomputable def tAm(X:Cx)(i:Nat)(f1 f2:FA):TA:=fun σ H Q=>∃F τ v,RV X.K F τ σ H∧σ[i]?=some (some v)∧Ok X (f1 τ) fun ds1=>Ok X (f2 τ) fun ds2=>∀us1 us2 F' H',Ext F H F' H'→Reps X.K F' ds1 us1→Reps X.K F' ds2 us2→Q (us1++v::us2) H'
noncomputable def PDM(X:Cx)(es:List Expr)(i:Nat)(f1 f2:FA):Prop:=PA X es (tAm X i f1 f2)
theorem wA{p1:Pos}(hx:PE X (.Name x p1) (uW i))(hr:PDA X es fs)(hs:starEach (.Name x p1::es) X.env=(false,eval (.Name x p1) X.env)::starEach es X.env:=by rfl):PDM X (.Name x p1::es) i zi fs:=
 PA.imp (uA hx hr hs) fun σ H Q z_=>by
  refine X32 z_ fun F τ v R hv h=>?_
  refine⟨v,hv,F,τ,R,?_⟩
  have h:Ok X (fs τ) fun ds2=>∀us1 us2 F' H',Ext F H F' H'→Reps X.K F' [] us1→Reps X.K F' ds2 us2→Q (us1++v::us2) H':=h
  exact h.imp fun ds2 g us F' H' x r=>g [] us F' H' x Reps.nil r
noncomputable def vQ(i:Nat)(c:Str)(g:Fs→List D→Rs (D×Fs))(f1 f2:FA):FOb:=fun τ=>(vp τ i c).bind fun p=>(f1 τ).bind fun ds1=>(f2 τ).bind fun ds2=>match g p.2 (ds1++ds2) with
 | .ok (d,o')=>.ok (d,τ.set i (some (.obj p.1 c o')))
 |_=>.no
theorem uz{g:Fs→List D→Rs (D×Fs)}{p:Pos}(D:DefM X.prog X.w X.K X.mg X.base y c k j n ps g)(hr:Room k X.A)(ha:PDM X (e::es) i f1 f2)(hl1:∀τ ds,f1 τ=.ok ds→ds.length=j)(hl2:∀τ ds,f2 τ=.ok ds→j+ds.length=n)(hg:Gl X y:=by rfl)(hdb:(y==("__debug__" : Str))=false:=by decide)
  (he:starEach (e::es) X.env=(false,eval e X.env)::starEach es X.env:=by rfl) (hpl:(backTo pos (starEach es X.env)).any (·.1)=false:=by rfl):jj X (.Call (.Name y p) (e::es) [] pos) (vQ i c g f1 f2):=by
 refine X23 D fun f fd F hb hk hm=>?_
 refine PE.imp (WY F hr hg hm hk hb .nil (E:=E0) Z9 ha hdb he hpl) fun σ H Q z_=>?_
 refine X41 z_ fun B Z Fz τ R h=>?_
 refine X21 (Yw (X:=X) (Ok.bind h)) fun t o h1 h5=>?_
 dsimp only at h5
 refine X11 (R.rv.ob.at_ i t c o h1) fun a q1 r17_=>?_;refine X34 r17_ fun C' dx vs q2 q3 q4 q5 q6=>?_
 refine Y32 Fz τ (.ref a) R.rv q1 ?_
 have hb:=Ok.bind h5
 cases e1:f1 τ with
 |no=>rw[e1] at hb;exact hb
 |ex c=>rw[e1] at hb;exact hb
 |ok ds1=>
  rw[e1] at hb
  have hb2:Ok X ((f2 τ).bind fun ds2=>match g o (ds1++ds2) with
   | .ok (d,o')=>.ok (d,τ.set i (some (.obj t c o')))
   |_=>.no) fun p=>∀v F' H',Same Fz F'→RS X.K B Z F' p.2 σ H'→Rep X.K F' p.1 v→Q v H':=hb
  have hb:=Ok.bind hb2
  show Ok X (f2 τ) _
  cases e2:f2 τ with
  |no=>rw[e2] at hb;exact hb
  |ex c=>rw[e2] at hb;exact hb
  |ok ds2=>
   rw[e2] at hb
   intro us1 us2 F1 H1 x r1 r2
   have R1:=R.ext x
   refine X11 (R1.rv.ob.at_ i t c o h1) fun a' p1 ob=>?_
   obtain rfl:a'=a:=by rw[q1] at p1;replace p1:=tI_ p1;subst p1;rfl
   rw[append_nil]
   have l1:=hl1 τ ds1 e1
   have l2:=hl2 τ ds2 e2
   refine⟨by rw[length_append,length_cons,← r1.length,← r2.length];lia,a',us1,us2,ds1,ds2,o,F1,rfl,by rw[← r1.length];exact l1,ob,x.fh,R1.rv.tt,r1,r2,?_⟩
   dsimp only [Ok] at hb
   cases z:g o (ds1++ds2) with
   |ok p=>
    obtain⟨d,o'⟩:=p
    rw[z] at hb
    exact fun v F' H' xo ob' nw rep=>hb v F' H' (x.ff.trans xo.ff) (R1.meth h1 q1 xo ob' nw) rep
   |ex c=>rw[z] at hb;exact hb.elim
   |no=>rw[z] at hb;exact hb.elim
noncomputable def Zv(i:Nat)(c:Str)(g:Fs→List D→Rs D)(f1 f2:FA):FE:=fun τ=>(vY τ i c).bind fun o=>(f1 τ).bind fun ds1=>(f2 τ).bind fun ds2=>X4 (g o (ds1++ds2))
theorem Y4{g:Fs→List D→Rs D}{p:Pos}(D:DefR X.prog X.w X.K X.mg X.base y c k j n ps g)(hr:Room k X.A)(ha:PDM X (e::es) i f1 f2)(hl1:∀τ ds,f1 τ=.ok ds→ds.length=j)(hl2:∀τ ds,f2 τ=.ok ds→j+ds.length=n)(hg:Gl X y:=by rfl)(hdb:(y==("__debug__" : Str))=false:=by decide)
  (he:starEach (e::es) X.env=(false,eval e X.env)::starEach es X.env:=by rfl) (hpl:(backTo pos (starEach es X.env)).any (·.1)=false:=by rfl):PDE X (.Call (.Name y p) (e::es) [] pos) (Zv i c g f1 f2):=by
 refine X23 D fun f fd F hb hk hm=>?_
 refine PE.imp (WY F hr hg hm hk hb .nil (E:=E0) Z9 ha hdb he hpl) fun σ H Q z_=>?_
 refine X21 z_ fun Fz τ R h=>?_
 refine X54 (Yy R (Ok.bind h)) fun o a C dx vs h1 h2 h3 h4 h5=>?_
 refine Y32 Fz τ (.ref a) R h1 ?_
 have hb:=Ok.bind h5
 cases e1:f1 τ with
 |no=>rw[e1] at hb;exact hb
 |ex c=>rw[e1] at hb;exact hb
 |ok ds1=>
  rw[e1] at hb
  have hb2:Ok X ((f2 τ).bind fun ds2=>X4 (g o (ds1++ds2))) (Ev X.K Fz H Q):=hb
  have hb:=Ok.bind hb2
  show Ok X (f2 τ) _
  cases e2:f2 τ with
  |no=>rw[e2] at hb;exact hb
  |ex c=>rw[e2] at hb;exact hb
  |ok ds2=>
   rw[e2] at hb
   intro us1 us2 F1 H1 x r1 r2
   rw[append_nil]
   have l1:=hl1 τ ds1 e1
   have l2:=hl2 τ ds2 e2
   refine⟨by rw[length_append,length_cons,← r1.length,← r2.length];lia,a,us1,us2,ds1,ds2,o,F1,C,dx,vs,rfl,by rw[← r1.length];exact l1,x.hh _ _ h2,h3,h4.keep x.ff fun l ws _ e3 e4=>⟨x.hh _ _ e3,?_⟩,x.fh,x.tt R.tt,r1,r2,?_⟩
   ·rcases w:F1 l with _|u
    ·rfl
    ·rcases x.nw l u w with z|z
     ·rw[e4] at z;nomatch z
     ·rw[e3] at z;nomatch z
   ·have hb:Ok X (X4 (g o (ds1++ds2))) (Ev X.K Fz H Q):=hb
    cases z:g o (ds1++ds2) with
    |ok d=>rw[z] at hb;exact Ev.ext hb x
    |ex c=>rw[z] at hb;exact hb.elim
    |no=>rw[z] at hb;exact hb.elim
end
theorem RS.setObj{K:Frag}{B Z F1 F H1 H:Hp}{τ:DS}{σ:St}{i:Nat}{c:Str}{fs:Fs}{a:Addr}(R1:RS K B Z F1 τ σ H1)(ex:Ext F1 H1 F H)(ob:ZC K F H c fs a)(ha:H1 a=none)(hf:∀l∈Lof H c a,H1 l=none) :
  RS K B Z F (τ.set i (some (.obj 0 c fs))) (σ.set i (some (.ref a))) H:=by
 have R:=R1.ext ex
 have len:=R.rv.len
 have lt:∀{j:Nat} {s:Option Sl},(τ.set i (some (.obj 0 c fs)))[j]?=some s→(i=j∧s=some (.obj 0 c fs)∧(σ.set i (some (.ref a)))[j]?=some (some (.ref a)))∨(i≠j∧τ[j]?=some s∧(σ.set i (some (.ref a)))[j]?=σ[j]?):=fun {j s} h=>by
  by_cases e:i=j
  ·subst e
   have hl:i<τ.length:=by
    rcases lt_or_ge i τ.length with z|z
    ·exact z
    ·rw[List.getElem?_eq_none_iff.mpr (by simpa using z)] at h;nomatch h
   rw[getElem?_set_self hl] at h;replace h:=sI_ h;subst h
   exact .inl ⟨rfl,rfl,getElem?_set_self (by rw[← len];exact hl)⟩
  ·rw[getElem?_set_ne e] at h
   exact .inr ⟨e,h,getElem?_set_ne e⟩
 have ltS:∀{j:Nat} {c':Str},ObS (τ.set i (some (.obj 0 c fs)))[j]? c'→(i=j∧c'=c∧(σ.set i (some (.ref a)))[j]?=some (some (.ref a)))∨(i≠j∧ObS τ[j]? c'∧(σ.set i (some (.ref a)))[j]?=σ[j]?):=fun {j c'} h=>by
  rcases h with ⟨m,gs,h⟩|⟨gs,h⟩
  ·rcases lt h with ⟨e,z,q⟩|⟨e,z,q⟩
   ·cases z;exact .inl ⟨e,rfl,q⟩
   ·exact .inr ⟨e,.inl ⟨m,gs,z⟩,q⟩
  ·rcases lt h with ⟨e,z,q⟩|⟨e,z,q⟩
   ·nomatch z
   ·exact .inr ⟨e,.inr ⟨gs,z⟩,q⟩
 have old:∀{j:Nat} {c':Str} {b:Addr},ObS τ[j]? c'→σ[j]?=some (some (.ref b))→b≠a∧∀l∈Lof H c' b,H1 l≠none:=fun {j c' b} h e=>by
  refine X52 (R1.rv.ob.get h) fun b' C dx vs gs h1 h2 h3=>?_
  rw[e] at h1;replace h1:=tI_ h1;subst h1
  refine⟨fun z=>(by subst z;rw[ha] at h2;nomatch h2),fun l hl z=>?_⟩
  rw[Lof.ins (ex.hh _ _ h2:H b=some (.ins C dx vs))] at hl
  refine X01 (h3.own hl) fun _ r16_=>?_;refine X10 r16_ fun ws q=>?_
  rw[z] at q;nomatch q
 refine⟨⟨R.rv.fh,by simp[len],fun j d h=>?_,fun j ds h=>?_,fun j k ds es b hjk h1 h2 h3 h4=>?_,R.rv.tt,⟨fun j m c1 g h=>?_,fun j k m c1 c2 g1 b hjk h1 h2 h3 h4=>?_,fun j c1 g h=>?_,fun j k m c1 c2 g1 b b' l hjk h1 h2 h3 h4 h5 h6=>?_,fun j k c1 ds b l h1 h2 h3 h4 h5=>?_⟩⟩,R.bh,R.zf,R.nb,fun j ds b h1 h2=>?_,fun j m c1 g b h1 h2=>?_,fun a0 dx b1 b2 j m c1 g h=>?_,fun j c1 g b h1 h2=>?_⟩
 ·rcases lt h with ⟨_,z,_⟩|⟨_,z,q⟩
  ·nomatch z
  ·rw[q];exact R.rv.val j d z
 ·rcases lt h with ⟨_,z,_⟩|⟨_,z,q⟩
  ·nomatch z
  ·rw[q];exact R.rv.own j ds z
 ·rcases lt h1 with ⟨_,z,_⟩|⟨_,z1,q1⟩
  ·nomatch z
  ·rcases lt h2 with ⟨_,z,_⟩|⟨_,z2,q2⟩
   ·nomatch z
   ·rw[q1] at h3;rw[q2] at h4
    exact R.rv.dis j k ds es b hjk z1 z2 h3 h4
 ·rcases lt h with ⟨_,z,q⟩|⟨_,z,q⟩
  ·cases z;exact Y11 a q ob
  ·rw[q];exact R.rv.ob.at_ j m c1 g z
 ·rcases lt h1 with ⟨e1,z,q1⟩|⟨_,z1,q1⟩
  ·rw[q1] at h3;replace h3:=tI_ h3;subst h3
   rcases ltS h2 with ⟨e2,_,_⟩|⟨_,z2,q2⟩
   ·exact hjk (e1.symm.trans e2)
   ·rw[q2] at h4;exact(old z2 h4).1 rfl
  ·rw[q1] at h3
   rcases ltS h2 with ⟨_,_,q2⟩|⟨_,z2,q2⟩
   ·rw[q2] at h4;replace h4:=tI_ h4;subst h4
    exact(old (.inl ⟨m,g1,z1⟩) h3).1 rfl
   ·rw[q2] at h4
    exact R.rv.ob.dis j k m c1 c2 g1 b hjk z1 z2 h3 h4
 ·rcases lt h with ⟨_,z,q⟩|⟨_,z,q⟩
  ·nomatch z
  ·refine X40 (R.rv.ob.rd j c1 g z) fun a' C dx vs r=>?_
   exact Y41 a' C dx vs (by rw[q];exact r.1) r.2
 ·rcases lt h1 with ⟨e1,z,q1⟩|⟨_,z1,q1⟩
  ·cases z
   rw[q1] at h3;replace h3:=tI_ h3;subst h3
   rcases ltS h2 with ⟨e2,_,_⟩|⟨_,z2,q2⟩
   ·exact hjk (e1.symm.trans e2)
   ·rw[q2] at h4;exact(old z2 h4).2 l h6 (hf l h5)
  ·rw[q1] at h3
   rcases ltS h2 with ⟨_,ec,q2⟩|⟨_,z2,q2⟩
   ·subst ec
    rw[q2] at h4;replace h4:=tI_ h4;subst h4
    exact(old (.inl ⟨m,g1,z1⟩) h3).2 l h5 (hf l h6)
   ·rw[q2] at h4
    exact R.rv.ob.ll j k m c1 c2 g1 b b' l hjk z1 z2 h3 h4 h5 h6
 ·rcases lt h2 with ⟨_,z,_⟩|⟨_,z2,q2⟩
  ·nomatch z
  ·rw[q2] at h4
   rcases ltS h1 with ⟨_,ec,q1⟩|⟨_,z1,q1⟩
   ·subst ec
    rw[q1] at h3;replace h3:=tI_ h3;subst h3
    refine X22 (R1.rv.own k ds z2) fun p ws g1 g2 _=>?_
    rw[h4] at g1;replace g1:=tI_ g1;subst g1
    rw[hf l h5] at g2;nomatch g2
   ·rw[q1] at h3
    exact R.rv.ob.lo j k c1 ds b l z1 z2 h3 h4 h5
 ·rcases lt h1 with ⟨_,z,_⟩|⟨_,z,q⟩
  ·nomatch z
  ·rw[q] at h2;exact R.ob j ds b z h2
 ·rcases lt h1 with ⟨_,z,q⟩|⟨_,z,q⟩
  ·cases z
   rw[q] at h2;replace h2:=tI_ h2;subst h2
   exact⟨yU R1.bh ha,fun l hl=>yU R1.bh (hf l hl)⟩
  ·rw[q] at h2;exact R.oo j m c1 g b z h2
 ·rcases lt h with ⟨_,z,_⟩|⟨_,z,q⟩
  ·cases z
  ·rw[q];exact R.sf a0 dx b1 b2 j m c1 g z
 ·rcases lt h1 with ⟨_,z,_⟩|⟨_,z,q⟩
  ·nomatch z
  ·rw[q] at h2;exact R.ro j c1 g b z h2
noncomputable def jI(i:Nat)(c:Str)(g:Fs→List D→Rs (D×Fs))(fs:FA):FS:=fun τ=>Fl.of (fs τ) fun ds=>match g [] ds with
 | .ok (.non,o)=>.nx (τ.set i (some (.obj 0 c o)))
 |_=>.no
section
variable{X:Cx}{pos:Pos}{e:Expr}{es:List Expr}{fs:FA}{c x:Str}{i k n:Nat}{ps:List Str}
theorem LM{C:Addr}{g:Fs→List D→Rs (D×Fs)}(hC:nsIn X.K mainGlobals c=some (some (.ref C)))(hfs:∀τ ds,fs τ=.ok ds→ds.length=n){σ:St}{H B Z F:Hp}{τ:DS}{E:X9}(R:RS X.K B Z F τ σ H)(h:Post X B Z F E (jI i c g fs τ)) :
  zd1 C (spM X.K c 0 n g) [] E0 (tAs X fs) σ H fun v H'=>E.nx (σ.set i (some v)) H':=by
 have hb:=Post.of h
 refine Y21 F τ R.rv ?_
 cases q:fs τ with
 |no=>rw[q] at hb;exact hb
 |ex c=>rw[q] at hb;exact hb
 |ok ds=>
  rw[q] at hb
  intro us F1 H1 x r y dx hy hdx hne
  have R1:=R.ext x
  have hFy:=zO x.fh hy
  rw[append_nil]
  have hk:∀{b:Addr} {u:HO},H1 b=some u→upd (upd H1 dx (.own y)) y (.ins C dx []) b=some u:=fun {b u} e=>by
   rw[zp (zI e hy),zp (zI e hdx)];exact e
  have hD:upd (upd H1 dx (.own y)) y (.ins C dx []) dx=some (.own y):=by rw[zp hne,zr]
  have hL:Lof (upd (upd H1 dx (.own y)) y (.ins C dx [])) c y=[]:=by rw[Lof.ins zr];rfl
  refine⟨by rw[length_cons,← r.length,hfs τ ds q],y,[],us,[],ds,[],F1,rfl,rfl,⟨C,dx,[],zr,hFy,hC,trivial,hD,by show([]:List Addr).Nodup;exact List.nodup_nil⟩,fun b u e=>hk (x.fh b u e),⟨fun t ht=>?_,fun d b e=>?_⟩,Reps.nil,r,?_⟩
  ·obtain⟨t1,t2⟩:=R1.rv.tt.1 t ht
   refine⟨t1,?_⟩
   rcases t2 with z|⟨c',z,z2⟩
   ·exact .inl (hk z)
   ·exact .inr ⟨c',hk z,hk z2⟩
  ·by_cases zd:d=dx
   ·subst zd;rw[hD] at e;replace e:=L2.HO.own.inj (Option.some.inj e);subst e;exact Y30 C d [] zr
   ·by_cases zy:d=y
    ·subst zy;rw[zr] at e;nomatch e
    ·rw[zp zy,zp zd] at e
     refine X30 (R1.rv.tt.2 d b e) fun C' dx' vs h=>?_
     exact Y30 C' dx' vs (hk h)
  ·rw[nil_append]
   dsimp only [Ok] at hb
   cases z:g [] ds with
   |ex c=>rw[z] at hb;exact hb.elim
   |no=>rw[z] at hb;exact hb.elim
   |ok p=>
    obtain⟨d,o⟩:=p
    rw[z] at hb
    cases d with
    |non=>
     dsimp only at hb
     intro v F' H' xo ob nw rep
     simp only[Rep] at rep
     refine⟨rep,?_⟩
     have hF':F' y=none:=by refine X32 ob fun _ _ _ _ h _=>?_;exact h
     have ex:Ext F1 H1 F' H':=⟨xo.ff,Hh.trans (fun b u e=>.of (by rw[vE (zI e hy) (by rw[hL];simp)];exact hk e)) xo.hh,xo.fh,fun b u e=>by
      rcases xo.nw b u e with z|z
      ·exact .inl z
      ·rcases vD z with z|z|z
       ·subst z;rw[hF'] at e;nomatch e
       ·rw[hL] at z;cases z
       ·by_cases n:b=y
        ·subst n;rw[zr] at z;nomatch z
        ·rw[zp n] at z
         by_cases n2:b=dx
         ·subst n2;rw[zr] at z;nomatch z
         ·rw[zp n2] at z;exact .inr z,fun _=>xo.tt⟩
     refine hb _ F' H' (x.ff.trans xo.ff) (R1.setObj ex ob hy fun l hl=>?_)
     rcases nw l hl with z|z
     ·rw[hL] at z;cases z
     ·by_cases n:l=y
      ·subst n;exact hy
      ·rw[zp n] at z
       by_cases n2:l=dx
       ·subst n2;exact hdx
       ·rw[zp n2] at z;exact z
    |_=>exact hb.elim
theorem Y1{g:Fs→List D→Rs (D×Fs)}{p1 pos' cpos:Pos}(M:ClsM X.prog X.w X.K X.mg X.base c k n ps g)(hr:Room (k+1) X.A)(hg:Gl X c)(ha:PDA X (e::es) fs)(hfs:∀τ ds,fs τ=.ok ds→ds.length=n)
  (hN:X.N.Nodup) (hi:X.N[i]?=some x) (hx:Loc X.env.scope x) (hdb:(c==("__debug__" : Str))=false:=by decide) (hst:starEach (e::es) X.env=(false,eval e X.env)::starEach es X.env:=by rfl) (hpl:(backTo cpos (starEach es X.env)).any (·.1)=false:=by rfl)
  (hs:swapsWith (.Call (.Name c p1) (e::es) [] cpos) (some (.Name x pos')) pos.line X.env=pure false:=by rfl) (hf:X.fn x=true∨X.env.scope.names.lookup x=some .local:=by first|exact .inl rfl|exact .inr rfl|assumption) :
  PDS X (.Assign [.Name x pos'] (.Call (.Name c p1) (e::es) [] cpos) pos) (jI i c g fs):=by
 obtain⟨C,f,fd,hC,hm,M,F,hb⟩:=M
 exact PS.imp (UT hN hi hx (Lo M F hr hg hm hb .nil (E:=E0) Z9 ha hdb hst hpl) hs hf) fun E σ H z_=>by refine X41 z_ fun B Z F τ R h=>?_;exact LM hC hfs R h
end
structure ClsAt(K:Frag)(mg:Str→Option Value)(c:Str)(C:Addr):Prop where
 ns:nsIn K mainGlobals c=some (some (.ref C))
 cls:Cls K C
 at_:mg c=some (.ref C)
section
variable{P:Program}{w:World}{K:Frag}{mg:Str→Option Value}{base:Heap}
theorem MetM.mk{c m qual:Str}{C:Addr}{st:Stmt}{f:Addr}{fd:FuncData}{N ps:List Str}{k n:Nat}{fb:FS}(A:ClsAt K mg c C)(hm:jk K C m f)(D:Fun K m qual st f fd)(S:zF N ps (zh st))(hn:ps.length=n+1)
  (hb:∀(kV doc pm:Value) (an:Option Addr) (cdv ct:Value) (us:List Value),us.length=ps.length→bindArgs (fnOf m qual (zG st) (zC st) (zh st) .none kV doc pm an cdv ct) ⟨us,[]⟩=pure (ps.zip us))
  (hbody:∀(cdv:Value) (A:Around) (outer:List Env) (s:Shared) (H:Hp) (E:XK),Room k (A.deeper (envOfC qual (zh st) s.heap.objs.size f cdv)) →
   vh (v0 CX0 P w K mg base N qual (zh st) f cdv A outer s H E).nox (zC st) fb):MetM P w K mg base c m (k+1) n ps (YQ N.length 0 c fb):=
 ⟨C,f,fd,A.ns,A.cls,hm,fnM D S hn hbody,D.binds hb⟩
theorem MetR.mk{c m qual:Str}{C:Addr}{st:Stmt}{f:Addr}{fd:FuncData}{N ps:List Str}{k n:Nat}{fb:FS}(A:ClsAt K mg c C)(hm:jk K C m f)(D:Fun K m qual st f fd)(S:zF N ps (zh st))(hn:ps.length=n+1)
  (hb:∀(kV doc pm:Value) (an:Option Addr) (cdv ct:Value) (us:List Value),us.length=ps.length→bindArgs (fnOf m qual (zG st) (zC st) (zh st) .none kV doc pm an cdv ct) ⟨us,[]⟩=pure (ps.zip us))
  (hbody:∀(cdv:Value) (A:Around) (outer:List Env) (s:Shared) (H:Hp) (E:XK),Room k (A.deeper (envOfC qual (zh st) s.heap.objs.size f cdv)) →
   vh (v0 CX0 P w K mg base N qual (zh st) f cdv A outer s H E).nox (zC st) fb):MetR P w K mg base c m (k+1) n ps (XS N.length 0 c fb):=
 ⟨C,f,fd,A.ns,A.cls,hm,fnR D S hn hbody,D.binds hb⟩
theorem ClsM.mk{c qual:Str}{C:Addr}{st:Stmt}{f:Addr}{fd:FuncData}{N ps:List Str}{k n:Nat}{fb:FS}(A:ClsAt K mg c C)(hm:Mk K C f)(D:Fun K "__init__" qual st f fd)(S:zF N ps (zh st))(hn:ps.length=n+1)
  (hb:∀(kV doc pm:Value) (an:Option Addr) (cdv ct:Value) (us:List Value),us.length=ps.length→bindArgs (fnOf "__init__" qual (zG st) (zC st) (zh st) .none kV doc pm an cdv ct) ⟨us,[]⟩=pure (ps.zip us))
  (hbody:∀(cdv:Value) (A:Around) (outer:List Env) (s:Shared) (H:Hp) (E:XK),Room k (A.deeper (envOfC qual (zh st) s.heap.objs.size f cdv)) →
   vh (v0 CX0 P w K mg base N qual (zh st) f cdv A outer s H E).nox (zC st) fb):ClsM P w K mg base c (k+1) n ps (YQ N.length 0 c fb):=
 ⟨C,f,fd,A.ns,A.at_,hm,fnM D S hn hbody,D.binds hb⟩
theorem DefM.mk{x c:Str}{st:Stmt}{f:Addr}{fd:FuncData}{N ps:List Str}{k n j:Nat}{fb:FS}(D:yc K mg x st f fd)(S:zF N ps (zh st))(hn:ps.length=n+1)
  (hb:∀(kV doc pm:Value) (an:Option Addr) (cdv ct:Value) (us:List Value),us.length=ps.length→bindArgs (fnOf x x (zG st) (zC st) (zh st) .none kV doc pm an cdv ct) ⟨us,[]⟩=pure (ps.zip us))
  (hbody:∀(cdv:Value) (A:Around) (outer:List Env) (s:Shared) (H:Hp) (E:XK),Room k (A.deeper (envOfC x (zh st) s.heap.objs.size f cdv)) →
   vh (v0 CX0 P w K mg base N x (zh st) f cdv A outer s H E).nox (zC st) fb):DefM P w K mg base x c (k+1) j n ps (YQ N.length j c fb):=
 ⟨f,fd,fnM D.fn S hn hbody,D.fn.binds hb,D.fn.kp,D.at_⟩
theorem DefR.mk{x c:Str}{st:Stmt}{f:Addr}{fd:FuncData}{N ps:List Str}{k n j:Nat}{fb:FS}(D:yc K mg x st f fd)(S:zF N ps (zh st))(hn:ps.length=n+1)
  (hb:∀(kV doc pm:Value) (an:Option Addr) (cdv ct:Value) (us:List Value),us.length=ps.length→bindArgs (fnOf x x (zG st) (zC st) (zh st) .none kV doc pm an cdv ct) ⟨us,[]⟩=pure (ps.zip us))
  (hbody:∀(cdv:Value) (A:Around) (outer:List Env) (s:Shared) (H:Hp) (E:XK),Room k (A.deeper (envOfC x (zh st) s.heap.objs.size f cdv)) →
   vh (v0 CX0 P w K mg base N x (zh st) f cdv A outer s H E).nox (zC st) fb):DefR P w K mg base x c (k+1) j n ps (XS N.length j c fb):=
 ⟨f,fd,fnR D.fn S hn hbody,D.fn.binds hb,D.fn.kp,D.at_⟩
end
section
variable{X:Cx}{scope:Scope}{tn fr:List Str}{idx:List Nat}{tg iter elt:Expr}{ifs:List Expr}{pos:Pos}{fi:FA}{set:FG}{ft:FT}{fe:FE}
end
section
variable{X:Cx}{pos:Pos}{e tg:Expr}{es:List Expr}{fe:FE}{fs:FA}{c f x:Str}{i:Nat}{C:Addr}
end
section
variable{P:Program}{w:World}{K:Frag}{mg:Str→Option Value}{base:Heap}
end
section
variable{X:Cx}{pos:Pos}{e:Expr}{es:List Expr}{fs:FA}{c c2 m x y:Str}{i k n h_:Nat}{ps:List Str}
end
section
variable{X:Cx}{pos:Pos}{e a b:Expr}{es:List Expr}{fe fa fb fi:FE}{C:Addr}{c f x:Str}{i:Nat}
end
noncomputable def Vf:List D→Option (List Int)
 |[]=>some []
 |.int i::r=>(Vf r).map (i :: ·)
 |_::_=>none
theorem Qb:∀{ds:List D} {ns:List Int},Vf ds=some ns→ds=ns.map D.int
 |[],ns,h=>by cases h;rfl
 |.int i::r,ns,h=>by
  simp only[Vf] at h
  rcases q:Vf r with _|m
  ·rw[q] at h;cases h
  ·rw[q] at h;cases h;rw[map_cons,← Qb q]
 |.non::r,ns,h=>by cases h
 |.bl _::r,ns,h=>by cases h
 |.str _::r,ns,h=>by cases h
 |.lst _::r,ns,h=>by cases h
 |.tup _::r,ns,h=>by cases h
 |.scr _::r,ns,h=>by cases h
 |.raw _::r,ns,h=>by cases h
 |.exc _::r,ns,h=>by cases h
 |.dct _ _::r,ns,h=>by cases h
theorem vals_ints:∀{vs:List Value} {ns:List Int},IntsAre vs ns→Vals (ns.map V.int) vs
 |_,_,.nil=>.nil
 |_,_,.cons n t r=>.cons ⟨t,rfl⟩ (vals_ints r)
noncomputable def MG:D→List D→Option (List Int×Int)
 |.lst xs,[.int k]=>(Vf xs).map (·,k)
 |_,_=>none
theorem LQ{d:D}{ds:List D}{ns:List Int}{k:Int}(h:MG d ds=some (ns,k)):d=.lst (ns.map D.int)∧ds=[.int k]:=by
 unfold MG at h
 split at h
 ·rename_i xs k'
  rcases q:Vf xs with _|b
  ·rw[q] at h;cases h
  ·rw[q] at h;cases h;exact⟨by rw[Qb q],rfl⟩
 ·nomatch h
noncomputable def Uk(d:D)(ds:List D):Rs D:=match MG d ds with
 | some (ns,k)=>if k∈ns∧ns.length≤1000 then .ok (.int (ns.idxOf k:Nat)) else .no
 |none=>.no
section
variable{X:Cx}{pins:List (Addr×Obj)}{σ:St}{F H:Hp}{s:Shared}{Q:VK}{E:Value→Shared→Prop}
theorem zk4:MtR X "list.index" (fun v vs H Q=>∃(l:Addr) (ws:List V) (F:Hp) (ns:List Int) (k:Int),v=.ref l∧vs=[.int k]∧H l=some (.lst ws)∧Reps X.K F (ns.map D.int) ws∧(k∈ns∧ns.length≤1000)∧Q (.int (ns.idxOf k:Nat)) H):=by
 rintro pins s σ H v vs u us Q I r rs ⟨l,ws,F,ns,k,e1,e2,e3,t,⟨hk,hz⟩,q⟩
 subst e1;subst e2
 cases r
 obtain⟨u',rfl,ru⟩:=vals1 rs
 obtain⟨tk,rfl⟩:=ru
 refine X01 (I.hok l _ e3) fun _ r15_=>?_;refine X21 r15_ fun its n rv eo=>?_
 have hi:IntsAre its ns:=Xq t rv
 have hlen:=hi.length
 have hlt:ns.idxOf k<ns.length:=List.idxOf_lt_length_of_mem hk
 refine call_meets PySem.F.slot_list_index ⟨_,eo,rfl⟩ PySem.F.entry_list_index (PySem.F.args_list_index_2 _ _) (SeqAt.list_indexAt l its.toArray n none #[] (.int k tk) (isInt k) (ns.idxOf k) (by simpa[hlen] using hlt) (by lia) ?_ (fun m hm hlt'=>?_)) ⟨eo,fun y hy=>(eq_isInt k tk hi y (by simpa using hy)).at _ _,⟨.int _,H,I.tok _,⟨_,rfl⟩,q⟩⟩
 ·have z:ns.idxOf k<its.length:=by lia
  have:its.toArray[ns.idxOf k]'(by simpa using z)=its[ns.idxOf k]:=by simp
  rw[this,isInt_at k hi _ z hlt]
  simpa using List.getElem_idxOf hlt
 ·have z:m<its.length:=by simpa using hm
  have:its.toArray[m]'hm=its[m]:=by simp
  rw[this,isInt_at k hi m z (by lia)]
  exact ne_of_lt_idxOf hlt' _
theorem zk6:MtD X "list.index" Uk:=Y11 _ zk4 (fun F H v vs d ds Q fh r rs h=>by
 unfold Uk at h
 cases q:MG d ds with
 |none=>rw[q] at h;exact h.elim
 |some bk=>
  obtain⟨ns,k⟩:=bk
  rw[q] at h
  obtain⟨rfl,rfl⟩:=LQ q
  simp only[Rep] at r
  obtain⟨l,ws,rfl,e,t⟩:=r
  obtain⟨w,rfl,e2⟩:=rs.one
  simp only[Rep] at e2;subst e2
  obtain⟨z,h⟩:=yZ h
  exact⟨l,ws,F,ns,k,rfl,rfl,fh _ _ e,t,z,h _ F H (Ext.refl fh) (by simp only[Rep])⟩)
end
section
variable{X:Cx}{pos:Pos}{C:Addr}{c f x:Str}{i:Nat}
end
open PySem.W
section
variable{P:Program}{w:World}{K:Frag}{mg:Str→Option Value}{base:Heap}
end
noncomputable def spF(K:Frag)(c:Str)(j n:Nat)(g:Fs→List D→Rs (List D)):Sp:=fun vs H Q E=>vs.length=n+1∧∃a us1 us2 ds1 ds2 fs F C dx ws,vs=us1 ++ .ref a::us2∧us1.length=j∧H a=some (.ins C dx ws)∧nsIn K mainGlobals c=some (some (.ref C))∧Flds K F H c fs ws∧Same F H∧TbT F H∧Reps K F ds1 us1∧Reps K F ds2 us2∧match g fs (ds1++ds2) with
 |.ok ds=>∀p xs F' H',Ext F H F' H'→H' p=none→Reps K F' ds xs→Q (.ref p) (upd H' p (.lst xs))
 |_=>False
noncomputable def flF:Fl→Rs (List D)
 |.rb i τ=>vP τ i
 |_=>.no
noncomputable def VN(N j:Nat)(c:Str)(fb:FS)(fs:Fs)(ds:List D):Rs (List D):=flF (fb (xG (.obr c fs) j N ds))
theorem _root_.oJ_{α:Type}{a b:α}(h:FD.Rs.ok a=FD.Rs.ok b):b=a:=(FD.Rs.ok.inj h).symm
theorem Mm{τ:DS}{i:Nat}{ds:List D}(h:vP τ i=.ok ds):τ[i]?=some (some (.own ds)):=by
 unfold vP at h
 split at h
 ·replace h:=oJ_ h;subst h;assumption
 ·nomatch h
section
variable{P:Program}{w:World}{K:Frag}{mg:Str→Option Value}{base:Heap}
theorem fnF{x qual c:Str}{st:Stmt}{f:Addr}{fd:FuncData}{N ps:List Str}{k n j:Nat}{fb:FS}(F:Fun K x qual st f fd)(S:zF N ps (zh st))(hn:ps.length=n+1)
  (hbody:∀(cdv:Value) (A:Around) (outer:List Env) (s:Shared) (H:Hp) (E:XK),Room k (A.deeper (envOfC qual (zh st) s.heap.objs.size f cdv)) →
   vh (v0 CX0 P w K mg base N qual (zh st) f cdv A outer s H E).nox (zC st) fb):FnOk P w K mg base CX0 (k+1) f fd ps (spF K c j n (VN N.length j c fb)):=by
 refine F.ok S (fun vs H Q E h=>by rw[hn];exact h.1) fun cdv A outer s H vs Q E hr h=>⟨_,hbody cdv A outer s H E hr,?_⟩
 obtain⟨hl,a,us1,us2,ds1,ds2,fs,Fz,C,dx,ws,rfl,hj,o1,o2,o3,fh,tt,r1,r2,h⟩:=h
 have hd1:ds1.length=j:=r1.length.trans hj
 have st:xG (.obr c fs) j N.length (ds1++ds2)=v7 (.obr c fs) ds1 ds2 N.length:=jl hd1
 refine Y41 H Fz Fz (v7 (.obr c fs) ds1 ds2 N.length) (jp rfl fh tt r1 r2 (fun n' c' fs' e=>by nomatch e) (fun c' fs' e=>by cases e;exact Y32 C dx ws o1 o2 o3) (Hh.refl H) (fun _ _ e=>e) (fun _ _ _=>rfl)) ?_
 unfold VN at h
 rw[st] at h
 cases q:fb (v7 (.obr c fs) ds1 ds2 N.length) with
 |rb i τ=>
  rw[q] at h
  cases z:vP τ i with
  |ok ds=>
   simp only[flF,z] at h
   have zz:=Mm z
   intro v σ F' H' ff RR e
   refine X23 (RR.rv.own i ds zz) fun p xs p1 p2 p3 p4=>?_
   rw[p1] at e;replace e:=uI_ e;subst e
   have pb:=RR.ob i ds p zz p1
   have x:Ext Fz H F' (wx H' p):=⟨RR.zf,fun c o e=>by
     have n:c≠p:=fun z=>by subst z;rw[pb] at e;nomatch e
     rw[vt n];exact RR.bh c o e,fun c o e=>by
     have n:c≠p:=fun z=>by subst z;rw[p3] at e;nomatch e
     rw[vt n];exact RR.rv.fh c o e,RR.nb,fun _=>RR.rv.tt.step (fun _ _ e=>.inl e) (fun c o e n=>by
     have:c≠p:=fun z=>by subst z;rw[p2] at e;replace e:=sI_ e;subst e;exact n _ rfl
     rw[vt this];exact e) fun d a e=>by
     unfold wx at e
     split at e
     ·nomatch e
     ·exact e⟩
   have eH:upd (wx H' p) p (.lst xs)=H':=by
    rw[j6];funext b;unfold upd;split
    ·rename_i z;subst z;exact p2.symm
    ·rfl
   have:=h p xs F' (wx H' p) x (vS _ _) p4
   rw[eH] at this
   exact this
  |ex c=>simp only[flF,z] at h
  |no=>simp only[flF,z] at h
 |nx τ=>rw[q] at h;exact h.elim
 |rt d=>rw[q] at h;exact h.elim
 |ro d τ=>rw[q] at h;exact h.elim
 |bk τ=>rw[q] at h;exact h.elim
 |ct τ=>rw[q] at h;exact h.elim
 |ex c=>rw[q] at h;exact h.elim
 |no=>rw[q] at h;exact h.elim
 |rs c τ=>rw[q] at h;exact h.elim
noncomputable def MetF(P:Program)(w:World)(K:Frag)(mg:Str→Option Value)(base:Heap)(c m:Str)(k n:Nat)(ps:List Str)(g:Fs→List D→Rs (List D)):Prop:=
 ∃C f fd,nsIn K mainGlobals c=some (some (.ref C))∧Cls K C∧jk K C m f∧FnOk P w K mg base CX0 k f fd ps (spF K c 0 n g)∧Binds K fd ps []
theorem MetF.mk{c m qual:Str}{C:Addr}{st:Stmt}{f:Addr}{fd:FuncData}{N ps:List Str}{k n:Nat}{fb:FS}(A:ClsAt K mg c C)(hm:jk K C m f)(D:Fun K m qual st f fd)(S:zF N ps (zh st))(hn:ps.length=n+1)
  (hb:∀(kV doc pm:Value) (an:Option Addr) (cdv ct:Value) (us:List Value),us.length=ps.length→bindArgs (fnOf m qual (zG st) (zC st) (zh st) .none kV doc pm an cdv ct) ⟨us,[]⟩=pure (ps.zip us))
  (hbody:∀(cdv:Value) (A:Around) (outer:List Env) (s:Shared) (H:Hp) (E:XK),Room k (A.deeper (envOfC qual (zh st) s.heap.objs.size f cdv)) →
   vh (v0 CX0 P w K mg base N qual (zh st) f cdv A outer s H E).nox (zC st) fb):MetF P w K mg base c m (k+1) n ps (VN N.length 0 c fb):=
 ⟨C,f,fd,A.ns,A.cls,hm,fnF D S hn hbody,D.binds hb⟩
noncomputable def frD(g:Fs→List D→Rs (List D))(fs:Fs)(ds:List D):Rs D:=(g fs ds).bind fun xs=>.ok (.lst xs)
theorem MetF.r{c m:Str}{k n:Nat}{ps:List Str}{g:Fs→List D→Rs (List D)}(M:MetF P w K mg base c m k n ps g):MetR P w K mg base c m k n ps (frD g):=by
 refine X34 M fun C f fd h1 h2 h3 F hb=>?_
 refine Y34 C f fd h1 h2 h3 (F.imp fun vs H Q E ⟨hl,a,us1,us2,ds1,ds2,fs,Fz,C,dx,ws,e,hj,o1,o2,o3,fh,tt,r1,r2,h⟩=>⟨hl,a,us1,us2,ds1,ds2,fs,Fz,C,dx,ws,e,hj,o1,o2,o3,fh,tt,r1,r2,?_⟩) hb
 unfold frD at h
 cases q:g fs (ds1++ds2) with
 |ok ds=>
  rw[q] at h
  intro p xs F' H' x hp r
  refine h (.ref p) (upd F' p (.lst xs)) _ (x.trans (Ext.new x.fh hp)) ?_
  simp only[Rep]
  exact Y22 p xs rfl zr (r.mono (yk (zO x.fh hp)))
 |ex c=>rw[q] at h;exact h.elim
 |no=>rw[q] at h;exact h.elim
end
theorem yo{α:Type}{l:List (Option α)}{i:Nat}{a:α}(h:(l++[none])[i]?=some (some a)):l[i]?=some (some a):=by
 by_cases z:i<l.length
 ·rwa [getElem?_append_left z] at h
 ·rw[getElem?_append_right (by lia)] at h
  cases q:i-l.length with
  |zero=>rw[q] at h;simp at h
  |succ n=>rw[q] at h;simp at h
theorem Zj{α:Type}{l:List (Option α)}{i:Nat}{a:α}(h:l[i]?=some (some a)):(l++[none])[i]?=some (some a):=by
 rw[getElem?_append_left (List.getElem?_eq_some_iff.mp h).1];exact h
theorem UX{τ:DS}{i:Nat}{c:Str}(h:ObS (τ++[none])[i]? c):ObS τ[i]? c:=by
 rcases h with ⟨n,fs,h⟩|⟨fs,h⟩
 ·exact .inl ⟨n,fs,yo h⟩
 ·exact .inr ⟨fs,yo h⟩
theorem RS.pad{K:Frag}{B Z F H:Hp}{τ:DS}{σ:St}(R:RS K B Z F τ σ H):RS K B Z F (τ++[none]) (σ++[none]) H:=
 ⟨⟨R.rv.fh,by rw[length_append,length_append,R.rv.len];rfl,fun i d h=>by
   refine X11 (R.rv.val i d (yo h)) fun v h1 h2=>?_
   exact⟨v,Zj h1,h2⟩,fun i ds h=>by
   refine X21 (R.rv.own i ds (yo h)) fun a vs h1 h2=>?_
   exact⟨a,vs,Zj h1,h2⟩,fun i j ds es a hij h1 h2 h3 h4=>R.rv.dis i j ds es a hij (yo h1) (yo h2) (yo h3) (yo h4),R.rv.tt,
   ⟨fun i n c fs h=>by
    refine X11 (R.rv.ob.at_ i n c fs (yo h)) fun a h1 h2=>?_
    exact⟨a,Zj h1,h2⟩,fun i j n c c' fs a hij h1 h2 h3 h4=>R.rv.ob.dis i j n c c' fs a hij (yo h1) (UX h2) (yo h3) (yo h4),fun i c fs h=>by
    refine X41 (R.rv.ob.rd i c fs (yo h)) fun a C dx vs h1 h2=>?_
    exact⟨a,C,dx,vs,Zj h1,h2⟩,fun i j n c c' fs a a' l hij h1 h2 h3 h4=>R.rv.ob.ll i j n c c' fs a a' l hij (yo h1) (UX h2) (yo h3) (yo h4),fun i j c ds a l h1 h2 h3 h4=>R.rv.ob.lo i j c ds a l (UX h1) (yo h2) (yo h3) (yo h4)⟩⟩,
  R.bh,R.zf,R.nb,fun i ds a h1 h2=>R.ob i ds a (yo h1) (yo h2),fun i n c fs a h1 h2=>R.oo i n c fs a (yo h1) (yo h2),fun a0 dx e1 e2 i n c fs h=>Zj (R.sf a0 dx e1 e2 i n c fs (yo h)),fun i c fs a h1 h2=>R.ro i c fs a (yo h1) (yo h2)⟩
theorem RS.other{K:Frag}{B Z F H F3 H3:Hp}{τ:DS}{σ:St}{p:Addr}{ws vs:List V}(R:RS K B Z F τ σ H)(x:Ext F H F3 H3)(hp:H p=none)(hF:F3 p=none)(hl:H3 p=some (.lst ws)):RS K B Z F3 τ σ (upd H3 p (.lst vs)):=by
 have R3:=R.ext x
 have hb:B p=none:=yU R.bh hp
 have hq:∀(i:Nat) (c:Str) (a:Addr),ObS τ[i]? c→σ[i]?=some (some (.ref a))→p∉Lof H3 c a∧a≠p:=fun i c a h e=>by
  refine X52 (R.rv.ob.get h) fun a' C dx us fs h1 h2 h3=>?_
  rw[e] at h1;replace h1:=tI_ h1;subst h1
  rw[Lof.ins (x.hh _ _ h2:H3 a=some (.ins C dx us))]
  refine⟨fun hm=>?_,fun z=>by subst z;rw[hp] at h2;nomatch h2⟩
  refine X01 (h3.own hm) fun _ r14_=>?_;refine X10 r14_ fun ws' h4=>?_
  rw[hp] at h4;nomatch h4
 refine⟨⟨fun b u e=>?_,R3.rv.len,R3.rv.val,fun i es h=>?_,R3.rv.dis,R3.rv.tt.step (fun _ _ e=>.inl e) (fun b o e n=>?_) (uC fun _ z=>nomatch z),R3.rv.ob.updL (.inr ⟨ws,hl⟩) fun i c a h e=>(hq i c a h e).1⟩,fun a o e=>?_,R3.zf,R3.nb,R3.ob,fun i n c fs a h1 h2=>?_,R3.sf,R3.ro⟩
 ·have:b≠p:=fun z=>by subst z;rw[hF] at e;nomatch e
  rw[zp this];exact R3.rv.fh b u e
 ·refine X23 (R3.rv.own i es h) fun a us h1 h2 h3 h4=>?_
  have:a≠p:=fun z=>by
   subst z
   refine X22 (R.rv.own i es h) fun a' us' g1 g2 _=>?_
   rw[h1] at g1;replace g1:=tI_ g1;subst g1
   rw[hp] at g2;nomatch g2
  exact Y23 a us h1 (by rw[zp this];exact h2) h3 h4
 ·have:b≠p:=fun z=>by subst z;rw[hl] at e;replace e:=sI_ e;subst e;exact n _ rfl
  rw[zp this];exact e
 ·have:a≠p:=fun z=>by subst z;rw[hb] at e;nomatch e
  rw[zp this];exact R3.bh a o e
 ·obtain⟨q1,q2⟩:=R3.oo i n c fs a h1 h2
  refine⟨q1,fun l hm=>q2 l ?_⟩
  have ne:=(hq i c a (.inl ⟨n,fs,h1⟩) h2).2
  unfold Lof at hm ⊢
  rw[zp ne] at hm
  exact hm
section
variable{X:Cx}{pos:Pos}{e:Expr}{es:List Expr}{fe:FE}{ff:FA}{c m x:Str}{i k n h_:Nat}{ps:List Str}
noncomputable def JA(ff:FA):FS:=fun τ=>Fl.of (ff τ) fun ds=>.rb τ.length (τ++[some (.own ds)])
theorem Ma(h:PDF X e ff):PDS X (.Return (some e) pos) (JA ff):=
 PS.imp (ZK h) fun E σ H z_=>by
  refine X41 z_ fun B Z F τ R h=>?_
  refine Y21 F τ R.rv ((Post.of h).imp fun ds g p vs F1 H1 x hp r=>?_)
  have R1:=(((R.ext x).pad).setO (i:=τ.length) hp r)
  have e1:(τ++[none]).set τ.length (some (.own ds))=τ++[some (.own ds)]:=by simp
  have e2:(σ++[none]).set τ.length (some (V.ref p))=σ++[some (.ref p)]:=by rw[R.rv.len];simp
  rw[e1,e2] at R1
  exact g _ _ F1 _ x.ff R1 (by rw[R.rv.len];simp)
noncomputable def VJ(h_:Nat)(c m:Str)(g:Fs→List D→Rs (List D))(fe:FE):FS:=fun τ=>Fl.of (vY τ h_ c) fun o=>if (xh m o).isNone=true then (match g o [] with
 |.ok ds=>Fl.of (fe τ) fun _=>if ds.length<sizeLine then .nx τ else .no
 |_=>.no) else .no
theorem Mc{g:Fs→List D→Rs (List D)}{p1 mpos cpos1 apos cpos:Pos}{pl:Sem Bool}(M:MetF X.prog X.w X.K X.mg X.base c m k 0 ps g)(hr:Room k X.A)(ho:PE X (.Name x p1) (uW h_))(he:PDE X e fe)
  (ht:eval (.Call (.Attribute (.Name x p1) m mpos) [] [] cpos1) X.env=(do
   let ov ← eval (.Name x p1) X.env
   standAt mpos.atName
   let (f,first) ← holding [ov] (getMethod ov m pl)
   callWith cpos1 f first (backTo cpos1 (starEach [] X.env)) (backToKw cpos1 (keywordEach [] X.env))):=by rfl)
  (hfew:((backTo cpos (starEach [e] X.env)).all (fun x=>!x.1)&&(backToKw cpos (keywordEach [] X.env)).all (fun x=>x.1.isSome)
   && decide ([e].length+([]:List Keyword).length+(if ([]:List Keyword).isEmpty then 0 else 1)<30))=true:=by rfl)
  (hline:(apos.endLine==cpos.line)=true:=by rfl) (hs:starEach [e] X.env=[(false,eval e X.env)]:=by rfl) (hplain:(backTo cpos (starEach [] X.env)).any (·.1)=false:=by rfl)
  (hbase:attributeBase (.Call (.Attribute (.Name x p1) m mpos) [] [] cpos1) "append" X.env (eval (.Call (.Attribute (.Name x p1) m mpos) [] [] cpos1) X.env)=eval (.Call (.Attribute (.Name x p1) m mpos) [] [] cpos1) X.env:=by rfl)
  (hsw:swapsWith (.Call (.Attribute (.Call (.Attribute (.Name x p1) m mpos) [] [] cpos1) "append" apos) [e] [] cpos) none pos.line X.env=pure false:=by rfl) :
  PDS X (.Expr (.Call (.Attribute (.Call (.Attribute (.Name x p1) m mpos) [] [] cpos1) "append" apos) [e] [] cpos) pos) (VJ h_ c m g fe):=by
 refine X34 M fun C f fd hC cl hm F hb=>?_
 refine PS.imp (WU (G8 PySem.F.plainAttrs_list PySem.F.slot_list_append PySem.F.type_list_append ZS (VT ho cl hm F hr hb .nil (E:=E0) Z9 ht) (uA he Y7 (by rw[hs];rfl)) hbase hfew hline (by rw[hs];rfl) hplain) hsw) fun E σ H z_=>?_
 refine X41 z_ fun B Z Fz τ R h=>?_
 refine X54 (Yy R.rv (Post.of h)) fun o a C' dx vs h1 h2 h3 h4 h5=>?_
 obtain rfl:C=C':=by rw[hC] at h3;replace h3:=PySem.Value.ref.inj (Option.some.inj (Option.some.inj h3));subst h3;rfl
 have l:=h4.look (f:=m)
 rcases z:xh m o with _|d
 ·rw[z] at l h5
  rw[if_pos (by rfl)] at h5
  refine⟨_,h1,a,dx,vs,rfl,h2,l,?_⟩
  refine⟨rfl,a,[],[],[],[],o,Fz,C,dx,vs,rfl,rfl,h2,h3,h4,R.rv.fh,R.rv.tt,Reps.nil,Reps.nil,?_⟩
  cases q:g o [] with
  |ex c=>rw[q] at h5;exact h5.elim
  |no=>rw[q] at h5;exact h5.elim
  |ok ds=>
   rw[q] at h5
   show match g o ([]++[]) with
    |.ok ds=>_
    |_=>False
   rw[nil_append,q]
   intro p xs F' H' ex hp r
   have x2:Ext Fz H F' (upd H' p (.lst xs)):=ex.trans (Ext.open ex.fh hp)
   have hpH:H p=none:=yU ex.hh hp
   refine⟨.inl ⟨rfl,xs,SqL.of zr⟩,?_⟩
   refine tE.at (R.ext x2) (Post.of (h5.same x2.ff)) fun d v F3 H3 g3 x3 R3 r3=>?_
   by_cases zz:ds.length<sizeLine
   ·rw[if_pos zz] at g3
    refine Y34 p xs v rfl rfl (x3.hh _ _ zr) (by rw[← r.length];exact zz) ?_
    have x13:=x2.trans x3
    refine g3 _ F3 _ x3.ff (R.other x13 hpH ?_ (x3.hh _ _ zr))
    rcases qq:F3 p with _|w
    ·rfl
    ·rcases x3.nw p w qq with z|z
     ·rw[zO ex.fh hp] at z;nomatch z
     ·rw[zr] at z;nomatch z
   ·rw[if_neg zz] at g3;exact g3.elim
 ·rw[z,if_neg (by simp)] at h5;exact h5.elim
end
end FD
set_option Elab.async false
set_option linter.all false
namespace STW
open PySem
noncomputable abbrev Ris(l:List Nat):Prop:=l.Pairwise (· < ·)
noncomputable def TT(L:Bool)(t:SetTable):Prop:=t.led=L∧t.dummies = #[]∧Ris t.place.toList
section
variable{prog:Program}{w:World}{K:Type}[DecidableEq K]{knd:KeyKind prog w K}{A:Around}{E:Value→Shared→Prop}{s:Shared}{L:Bool}{a:Addr}{S:K→Bool}{n:Nat}{k:K}{x:Value}
noncomputable def SetT(knd:KeyKind prog w K)(L:Bool)(h:Heap)(a:Addr)(S:K→Bool)(n:Nat):Prop:=
 ∃o es ep t,h.get? a=some o∧o.ExactSet∧o.data=.set es ep t∧ElemsOf knd es.toList∧(∀k,S k=true↔∃e∈es.toList,knd.is k e.2=true)∧es.size<scanBound∧t.fits es.size=true∧es.size=n∧TT L t
theorem stored{h:Heap}{o:Obj}{es:Array (Int×Value)}{ep:Nat}{t:SetTable}(ho:h.get? a=some o)(hx:o.ExactSet)(hd:o.data=.set es ep t){es':Array (Int×Value)}{t':SetTable}{S':K→Bool}(p1:ElemsOf knd es'.toList)
  (p2:∀k,S' k=true↔∃e∈es'.toList,knd.is k e.2=true) (p3:es'.size<scanBound) (p4:t'.fits es'.size=true) (p5:TT L t') :
  (h.update a (Obj.putSet es' t')).get? a=some { o with data:=.set es' (ep+1) t' }∧SetT knd L (h.update a (Obj.putSet es' t')) a S' es'.size:=by
 obtain⟨g,_⟩:=SetOf_store (knd:=knd) ho hx hd p1 p2 p3 p4
 exact⟨g,_,es',ep+1,t',g,hx,rfl,p1,p2,p3,p4,rfl,p5⟩
end
open PyProof.Rows
section
variable{prog:Program}{w:World}{A:Around}{R:Result→Shared→Prop}{I:Addr}{fp wr:List Addr}{G:Array GenState→Array GenState→Prop}{n:Nat}{P:Nat→Value→Prop}{St:Nat→Shared→Prop}{L:Bool}
end
section
variable{prog:Program}{w:World}{A:Around}{E:Value→Shared→Prop}{s:Shared}
end
open PyProof.Rows
section
variable{prog:Program}{w:World}{A:Around}{E:Value→Shared→Prop}{s:Shared}
end
open PyProof.Rows
namespace FS
end FS
section
variable{prog:Program}{w:World}{A:Around}{E:Value→Shared→Prop}{s:Shared}
end
open PySem PyProof.Rows
section
variable{prog:Program}{w:World}{A:Around}{E:Value→Shared→Prop}{s:Shared}{I a:Addr}{es:Array (Int×Value)}{ep:Nat}{t:SetTable}{Q:Option Value→Shared→Prop}
end
open PySem PyProof.Rows
section
variable{prog:Program}{w:World}{A:Around}{E:Value→Shared→Prop}{s:Shared}{I a:Addr}{es:Array (Int×Value)}{ep:Nat}{t:SetTable}
end
open PySem PyProof.Rows
section
variable{prog:Program}{w:World}{A:Around}{E:Value→Shared→Prop}{s:Shared}{I a T:Addr}{es:Array (Int×Value)}{ep:Nat}{t:SetTable}{Q:Option Value→Shared→Prop}
end
open PySem PyProof.Rows
section
variable{prog:Program}{w:World}{A:Around}{E:Value→Shared→Prop}{s:Shared}{a:Addr}{es:Array (Int×Value)}{ep:Nat}{t:SetTable}
end
open PySem PyProof.Rows
section
variable{prog:Program}{w:World}{A:Around}{E:Value→Shared→Prop}{s:Shared}{a:Addr}{es:Array (Int×Value)}{ep:Nat}{t:SetTable}
end
open PySem PyProof.Rows
section
variable{prog:Program}{w:World}{A:Around}{E:Value→Shared→Prop}{s:Shared}{a:Addr}{es:Array (Int×Value)}{ep:Nat}{t:SetTable}
end
open PySem PyProof.Rows
section
variable{prog:Program}{w:World}{A:Around}{E:Value→Shared→Prop}{s:Shared}{a:Addr}{ns:List Int}{n:Nat}
end
end STW
set_option Elab.async false
set_option linter.all false
set_option maxRecDepth 100000
namespace FD
open PySem PySem.Spec PyProof.Rows L2
section
variable{X:Cx}{e:Expr}{pos:Pos}{fs:FA}
end
section
variable{X:Cx}
end
end FD
set_option Elab.async false
set_option linter.all false
namespace L2
open PySem PySem.Spec PyProof.Rows
section
variable{κ:Type}[DecidableEq κ]
end
section
variable{P:Program}{w:World}{H:Hp}{h:Heap}{a:Addr}
end
section
variable{X:Cx}{pins:List (Addr×Obj)}{σ:St}{H:Hp}{s:Shared}{a:Addr}{y v:V}{u r:Value}{o:Option V}{A:Around}{E:Value→Shared→Prop}
end
section
variable{X:Cx}{pins:List (Addr×Obj)}{σ:St}{H:Hp}{s:Shared}{a:Addr}{kvs:List (Key×V)}{k:Key}{u:Value}{A:Around}{E:Value→Shared→Prop}
end
section
variable{X:Cx}{o i e value:Expr}{pos pos' tpos:Pos}{td ty tv:TE}
end
section
variable{X:Cx}{pos:Pos}
end
section
variable{X:Cx}{pins:List (Addr×Obj)}{σ:St}{H:Hp}{s:Shared}{a:Addr}{y d:V}{u r:Value}{o:Option V}{A:Around}{E:Value→Shared→Prop}
end
section
variable{X:Cx}{o e f:Expr}{apos cpos:Pos}{td ty tx:TE}
end
section
variable{X:Cx}{pins:List (Addr×Obj)}{σ:St}{H:Hp}{s:Shared}{a:Addr}{kvs:List (Key×V)}{A:Around}{E:Value→Shared→Prop}
end
section
variable{X:Cx}{pins:List (Addr×Obj)}{σ:St}{H:Hp}{s:Shared}{a:Addr}{y:V}{u:Value}{A:Around}{E:Value→Shared→Prop}
end
section
variable{κ:Type}[DecidableEq κ]
end
end L2
set_option Elab.async false
set_option linter.all false
set_option maxRecDepth 100000
namespace STW
open PySem PyProof.Rows
section
variable{prog:Program}{w:World}{K:Type}[DecidableEq K]{knd:KeyKind prog w K}{A:Around}{E:Value→Shared→Prop}{s:Shared}{d:Addr}{kvs:List (K×Value)}{ep:Nat}
end
section
variable{prog:Program}{w:World}{K:Type}[DecidableEq K]{knd:KeyKind prog w K}{A:Around}{E:Value→Shared→Prop}{s:Shared}{d:Addr}{kvs:List (K×Value)}{ep:Nat}{ns:List Int}{b:Bool}
end
end STW
set_option Elab.async false
set_option linter.all false
set_option maxRecDepth 100000
namespace FD
open PySem PySem.Spec PyProof.Rows L2
section
variable{X:Cx}{pos pp kp p1 p2:Pos}{kk:Nat}
end
section
variable{X:Cx}{i:Nat}{y:Str}{e0 e0' e0'' e1:Expr}{f0 f1:FE}{q1 q2 q3 cp sp sp2 lp ap ip atp callp xp:Pos}
end
section
variable{X:Cx}{i r:Nat}{x y:Str}{e0 e0' e0'' e1 iter:Expr}{fi:FA}{q1 q2 q3 cp sp sp2 lp ap ip atp callp xp tp pos:Pos}
end
section
variable{X:Cx}{i r:Nat}{x y c:Str}{iter elt:Expr}{fi:FA}{body:List Stmt}{scope:Scope}{yp tp dp a1 fp rp cpos cp sp p1 p2 kp:Pos}{kk:Nat}
end
end FD
set_option Elab.async false
set_option linter.all false
set_option maxRecDepth 100000
namespace STW
open PySem PyProof.Rows
section
variable{prog:Program}{w:World}{K:Type}[DecidableEq K]{knd:PySem.KeyKind prog w K}{A:Around}{E:Value→Shared→Prop}{s:Shared}{d:Addr}{kvs:List (K×Value)}{ep:Nat}{ss:List Str}
end
end STW
set_option Elab.async false
set_option linter.all false
set_option maxRecDepth 100000
namespace FD
open PySem PySem.Spec PyProof.Rows L2
section
variable{X:Cx}
end
noncomputable abbrev FG2:=DS→List Str→Option (DS×List Str)
section
variable{X:Cx}{i r:Nat}{x y:Str}{e0 iter:Expr}{fk:FE}{fi:FA}{f:FG2}{q1 sp bp ap tp pos:Pos}{kk:Nat}{body:List Stmt}
end
section
variable{X:Cx}{i r:Nat}{x y sx:Str}{iter:Expr}{f:FG2}{st:Stmt}{yp dp a1 rp p1 pos pp:Pos}
end
end FD
set_option Elab.async false
set_option linter.all false
set_option maxRecDepth 100000
namespace STW
open PySem PyProof.Rows
section
variable{prog:Program}{w:World}{A:Around}{R:Result→Shared→Prop}{I:Addr}{fp wr:List Addr}{G:Array GenState→Array GenState→Prop}{n:Nat}{P:Nat→Value→Prop}{St:Nat→Shared→Prop}{L:Bool}
end
section
variable{prog:Program}{w:World}{A:Around}{E:Value→Shared→Prop}{s:Shared}
end
section
variable{prog:Program}{w:World}{A:Around}{E:Value→Shared→Prop}{s:Shared}{a:Addr}{ns:List Str}{n:Nat}
end
end STW
set_option Elab.async false
set_option linter.all false
set_option maxRecDepth 100000
namespace FD
open PySem PySem.Spec PyProof.Rows L2
section
variable{X:Cx}{e:Expr}{pos:Pos}{fs:FA}
end
end FD
set_option Elab.async false
set_option linter.all false
set_option maxRecDepth 100000
namespace STW
open PySem PyProof.Rows
section
variable{prog:Program}{w:World}{K:Type}[DecidableEq K]{knd:KeyKind prog w K}{A:Around}{E:Value→Shared→Prop}{s:Shared}{d:Addr}{kvs:List (K×Value)}{ep:Nat}
end
end STW
set_option Elab.async false
set_option linter.all false
set_option maxRecDepth 100000
namespace FD
open PySem PySem.Spec PyProof.Rows L2
section
variable{X:Cx}{pos apos cpos:Pos}{e o f tg:Expr}{fe fo ff:FE}
end
noncomputable abbrev SI:=List (Str×Int)
noncomputable abbrev FG3:=DS→SI→Option (DS×SI)
section
variable{X:Cx}{i r:Nat}{x y:Str}{e0 e0' ev iter:Expr}{fk fv:FE}{fi:FA}{f:FG3}{q1 q2 sp bp ap tp pos gp gc c0 c1 cp ip:Pos}{k0 k1:Nat}{body:List Stmt}
end
section
variable{X:Cx}{i:Nat}{y:Str}{f:FG3}{st:Stmt}{yp dp a1 rp p1:Pos}
end
section
variable{X:Cx}{pos p1 p2:Pos}{k1 k2:Nat}{x:Str}{n:Int}
end
section
variable{prog:Program}{w:World}{A:Around}{R:Result→Shared→Prop}{E:Value→Shared→Prop}{I S:Addr}{fp wr:List Addr}{n:Nat}{P:Nat→Value→Prop}{St:Nat→Heap→Prop}{kw:List (Str×Value)}{Ph:Heap→Prop}
end
section
variable{X:Cx}{pos pp kp:Pos}{e e2:Expr}{fe f2:FE}
end
section
open PySem.SeqAt
open PySem.AutoSeq1 (wpAny_loadPart')
open PySem.MeetsSeq PySem.MeetsSeq2 PySem.MeetsSeq3
end
section
variable{prog:Program}{w:World}{A:Around}{E:Value→Shared→Prop}{s:Shared}
end
section
variable{X:Cx}
end
section
variable{X:Cx}
end
section
variable{X:Cx}
end
end FD
set_option Elab.async false
set_option linter.all false
set_option maxRecDepth 100000
namespace STW
open PySem PyProof.Rows
section
variable{prog:Program}{w:World}{K:Type}[DecidableEq K]{knd:KeyKind prog w K}{A:Around}{R:Result→Shared→Prop}{I d:Addr}{fp wr:List Addr}{n:Nat}{P:Nat→Value→Prop}{St:Nat→Heap→Prop}
end
section
variable{prog:Program}{w:World}{K:Type}[DecidableEq K]{knd:KeyKind prog w K}{A:Around}{E:Value→Shared→Prop}{s:Shared}
end
end STW
set_option Elab.async false
set_option linter.all false
set_option maxRecDepth 100000
namespace FD
open PySem PySem.Spec PyProof.Rows L2
section
variable{X:Cx}
end
section
variable{X:Cx}{e:Expr}{pos:Pos}{fs:FA}
end
open PySem.W
section
variable{n:Nat}{κ:Nat→List Int}
end
section
variable{prog:Program}{w:World}{A:Around}{E:Value→Shared→Prop}{s:Shared}
end
section
variable{X:Cx}{pins:List (Addr×Obj)}{σ:St}{F H:Hp}{τ:DS}{s:Shared}{Q:VK}{E:Value→Shared→Prop}
end
inductive RsM
 | ok (d:D) (fs:Fs)
 | ex (c:Str) (fs:Fs)
 | no
noncomputable def TY(K:Frag)(c:Str)(j n:Nat)(g:Fs→List D→RsM):Sp:=fun vs H Q E=>vs.length=n+1∧∃a us1 us2 ds1 ds2 fs F,vs=us1 ++ .ref a::us2∧us1.length=j∧ZC K F H c fs a∧Same F H∧TbT F H∧Reps K F ds1 us1∧Reps K F ds2 us2∧match g fs (ds1++ds2) with
 |.ok d fs'=>∀v F' H',TC F (xR H c a) F' H'→ZC K F' H' c fs' a→(∀l∈Lof H' c a,l∈Lof H c a∨H l=none)→Rep K F' d v→Q v H'
 |.ex e fs'=>∀F' H' cls,TC F (xR H c a) F' H'→ZC K F' H' c fs' a→(∀l∈Lof H' c a,l∈Lof H c a∨H l=none)→nsIn K mainGlobals e=some (some cls)→E cls none H'
 |.no=>False
noncomputable def Vk(j:Nat)(c:Str):Fl→RsM
 |.ro d τ=>match vp τ j c with
  | .ok (1,fs)=>.ok d fs
  |_=>.no
 |.nx τ=>match vp τ j c with
  | .ok (1,fs)=>.ok .non fs
  |_=>.no
 |.rs e τ=>match vp τ j c with
  | .ok (1,fs)=>.ex e fs
  |_=>.no
 |_=>.no
noncomputable def Z6(N j:Nat)(c:Str)(fb:FS)(fs:Fs)(ds:List D):RsM:=Vk j c (fb (xG (.obj 1 c fs) j N ds))
section
variable{P:Program}{w:World}{K:Frag}{mg:Str→Option Value}{base:Heap}
theorem fnMX{x qual c:Str}{st:Stmt}{f:Addr}{fd:FuncData}{N ps:List Str}{k n j:Nat}{fb:FS}(F:Fun K x qual st f fd)(S:zF N ps (zh st))(hn:ps.length=n+1)
  (hbody:∀(cdv:Value) (A:Around) (outer:List Env) (s:Shared) (H:Hp) (E:XK),Room k (A.deeper (envOfC qual (zh st) s.heap.objs.size f cdv)) →
   vh (v0 (CXD P w) P w K mg base N qual (zh st) f cdv A outer s H E) (zC st) fb):FnOk P w K mg base (CXD P w) (k+1) f fd ps (TY K c j n (Z6 N.length j c fb)):=by
 obtain⟨oc,od,kV,doc,pm,an,cdv,ct,osl,rfl,lk,hcd⟩:=F.ex
 refine M5 lk hcd S (fun vs H Q E h=>by rw[hn];exact h.1) fun A outer s H vs Q E hr h=>⟨_,hbody cdv A outer s H E hr,?_⟩
 obtain⟨hl,a,us1,us2,ds1,ds2,fs,Fz,rfl,hj,ob,fh,tt,r1,r2,h⟩:=h
 have hd1:ds1.length=j:=r1.length.trans hj
 have hst:xG (.obj 1 c fs) j N.length (ds1++ds2)=v7 (.obj 1 c fs) ds1 ds2 N.length:=jl hd1
 refine Y41 (xR H c a) Fz Fz (v7 (.obj 1 c fs) ds1 ds2 N.length) (jp rfl fh tt r1 r2 (fun n' c' fs' e=>by cases e;exact⟨ob,rfl⟩) (fun c' fs' e=>by nomatch e) (Zo H c a) (fun b o e=>uI e) (fun c' fs' e=>by nomatch e)) ?_
 refine X35 ob fun C dx ws o1 o2 o3 o4 o5 o6=>?_
 have hdx:xR H c a dx=some (.own a):=by
  have n1:dx≠a:=fun z=>by subst z;rw[o1] at o5;nomatch o5
  have n2:dx∉Lof H c a:=fun z=>by
   rw[Lof.ins o1] at z
   refine X01 (o4.own z) fun _ r13_=>?_;refine X10 r13_ fun ws' q=>?_
   rw[o5] at q;nomatch q
  rw[vE n1 n2];exact o5
 have fin:∀{τ:DS} {σ:St} {F' H':Hp} {fs':Fs},vp τ j c=.ok (1,fs')→RS K (xR H c a) Fz F' τ σ H'→ZC K F' H' c fs' a∧∀l∈Lof H' c a,l∈Lof H c a∨H l=none:=fun {τ σ F' H' fs'} q RR=>by
  have z:=Yx q
  refine X11 (RR.rv.ob.at_ j 1 c fs' z) fun a' p1 p2=>?_
  have:=RR.sf a dx hdx (Zp _ _ _) j 0 c fs' z
  rw[p1] at this;replace this:=tJ_ this;subst this
  refine⟨p2,fun l hl=>?_⟩
  rcases vD ((RR.oo j 1 c fs' a z p1).2 l hl) with y|y|y
  ·subst y
   refine X34 p2 fun C' dx' vs' g1 _ _ g4 _=>?_
   rw[Lof.ins g1] at hl
   refine X01 (g4.own hl) fun _ r12_=>?_;refine X10 r12_ fun ws' q=>?_
   rw[g1] at q;nomatch q
  ·exact .inl y
  ·exact .inr y
 unfold Z6 at h
 rw[hst] at h
 cases q:fb (v7 (.obj 1 c fs) ds1 ds2 N.length) with
 |nx τ=>
  rw[q] at h
  unfold Vk at h
  dsimp only at h
  split at h
  ·rename_i h0
   split at h0
   ·rename_i fs' z
    cases h0
    exact fun σ F' H' ff RR=>h .non F' H' RR.outO (fin z RR).1 (fin z RR).2 (by simp only[Rep])
   ·nomatch h0
  ·rename_i h0
   split at h0 <;> cases h0
  ·exact h.elim
 |ro d τ=>
  rw[q] at h
  unfold Vk at h
  dsimp only at h
  split at h
  ·rename_i h0
   split at h0
   ·rename_i fs' z
    cases h0
    exact fun v σ F' H' ff RR rr=>h v F' H' RR.outO (fin z RR).1 (fin z RR).2 rr
   ·nomatch h0
  ·rename_i h0
   split at h0 <;> cases h0
  ·exact h.elim
 |rb d τ=>rw[q] at h;exact h.elim
 |rt d=>rw[q] at h;exact h.elim
 |bk τ=>rw[q] at h;exact h.elim
 |ct τ=>rw[q] at h;exact h.elim
 |ex c=>rw[q] at h;exact h.elim
 |no=>rw[q] at h;exact h.elim
 |rs e τ=>
  rw[q] at h
  unfold Vk at h
  dsimp only at h
  split at h
  ·rename_i h0
   split at h0 <;> cases h0
  ·rename_i h0
   split at h0
   ·rename_i fs' z
    cases h0
    intro σ F' H' ff RR s2 a2 cls hc I x
    let X:Cx:=v0 (CXD P w) P w K mg base N qual (zh st) f cdv A outer s H E
    have D:Fst X:=⟨rfl,rfl,rfl⟩
    refine MN (X:=X) I.ok.frames D I x fun h3 J t=>?_
    refine X01 t fun na r11_=>?_;refine X59 r11_ fun oe vs T oT ts g1 g2 g0 g3 g4 g5 g6 g7 g8 g9=>?_
    exact⟨a2,cls,H',rfl,J.os,J.bare,J.base,J.hok,⟨oe,vs,T,oT,ts,g1,g2,g0,g3,g4,g6,g7,g8,g9.1,na.1,na.2.1,g5.1,g5.2.1,g9.2⟩,h F' H' cls RR.outO (fin z RR).1 (fin z RR).2 hc⟩
   ·nomatch h0
  ·exact h.elim
noncomputable def MetMX(P:Program)(w:World)(K:Frag)(mg:Str→Option Value)(base:Heap)(c m:Str)(k n:Nat)(ps:List Str)(g:Fs→List D→RsM):Prop:=
 ∃C f fd,nsIn K mainGlobals c=some (some (.ref C))∧Cls K C∧jk K C m f∧FnOk P w K mg base (CXD P w) k f fd ps (TY K c 0 n g)∧Binds K fd ps []
theorem MetMX.mk{c m qual:Str}{C:Addr}{st:Stmt}{f:Addr}{fd:FuncData}{N ps:List Str}{k n:Nat}{fb:FS}(A:ClsAt K mg c C)(hm:jk K C m f)(D:Fun K m qual st f fd)(S:zF N ps (zh st))(hn:ps.length=n+1)
  (hb:∀(kV doc pm:Value) (an:Option Addr) (cdv ct:Value) (us:List Value),us.length=ps.length→bindArgs (fnOf m qual (zG st) (zC st) (zh st) .none kV doc pm an cdv ct) ⟨us,[]⟩=pure (ps.zip us))
  (hbody:∀(cdv:Value) (A:Around) (outer:List Env) (s:Shared) (H:Hp) (E:XK),Room k (A.deeper (envOfC qual (zh st) s.heap.objs.size f cdv)) →
   vh (v0 (CXD P w) P w K mg base N qual (zh st) f cdv A outer s H E) (zC st) fb):MetMX P w K mg base c m (k+1) n ps (Z6 N.length 0 c fb):=
 ⟨C,f,fd,A.ns,A.cls,hm,fnMX D S hn hbody,D.binds hb⟩
end
inductive RsO
 | ok (d:D) (τ:DS)
 | ex (c:Str) (τ:DS)
 | no
noncomputable def tObX(X:Cx)(f:DS→RsO):TE:=fun σ H Q=>∃B Z F τ,RS X.K B Z F τ σ H∧match f τ with
 |.ok d τ'=>∀v F' H',Same F F'→RS X.K B Z F' τ' σ H'→Rep X.K F' d v→Q v H'
 |.ex c τ'=>∀F' H',Same F F'→RS X.K B Z F' τ' σ H'→XA X c σ H'
 |.no=>False
noncomputable def PDX(X:Cx)(e:Expr)(f:DS→RsO):Prop:=PE X e (tObX X f)
noncomputable def wU(i:Nat)(c m:Str)(g:Fs→List D→RsM)(fs:FA):DS→RsO:=fun τ=>match vp τ i c with
 |.ok p=>if (xh m p.2).isNone=true then (match fs τ with
  |.ok ds=>match g p.2 ds with
   |.ok d o'=>.ok d (τ.set i (some (.obj p.1 c o')))
   |.ex e o'=>.ex e (τ.set i (some (.obj p.1 c o')))
   |.no=>.no
  |_=>.no) else .no
 |_=>.no
section
variable{X:Cx}{pos:Pos}{e a b:Expr}{es rest:List Expr}{fe fb:FE}{fs:FA}{c m x:Str}{i k n:Nat}{ps:List Str}{fo:FOb}
theorem T6{pins:List (Addr×Obj)}{σ:St}{H:Hp}{s:Shared}{Q:VK}{us:List Value}{vs:List V}{f:Addr}{fd:FuncData}{sp:Sp}(F:FnOk X.prog X.w X.K X.mg X.base (CXD X.prog X.w) k f fd ps sp)(hx:X.ex=[])(hr:Room k X.A)(hb:Binds X.K fd ps [])
  (I:Inv X pins σ H s) (r:Vals vs us) (h:sp vs H Q (XV X σ)):wpAny (model X.prog X.w) X.A (call (.ref f) us) (EP X pins σ Q) X.xe s:=by
 have hl:us.length=ps.length:=by rw[← r.length];exact F.len _ _ _ _ h
 have bt:=hb s us I.kIn (by rw[append_nil];exact hl)
 rw[append_nil] at bt
 refine wpAny_call (codeAny_mono (F.run X.A X.stack s H ⟨us,[]⟩ us vs Q (XV X σ) hr I.env0 bt r h) fun r s' hq=>?_)
 cases r with
 |error e=>exact passX hx H s I hq
 |ok fl=>
  cases fl with
  |ret u=>exact I.after hq
  |next=>exact False.elim hq
  |brk=>exact False.elim hq
  |cont=>exact False.elim hq
theorem MD{C:Addr}{g:Fs→List D→RsM}(hC:nsIn X.K mainGlobals c=some (some (.ref C)))(hfs:∀τ ds,fs τ=.ok ds→ds.length=n){σ:St}{H:Hp}{Q:VK}(h:tObX X (wU i c m g fs) σ H Q):VB C m (TY X.K c 0 n g) [] (XV X σ) (uW i) (tAs X fs) σ H Q:=by
 obtain⟨B,Z,F,τ,R,h⟩:=h
 unfold wU at h
 cases ho:vp τ i c with
 |no=>rw[ho] at h;exact h.elim
 |ex z=>rw[ho] at h;exact h.elim
 |ok p=>
  obtain⟨t,o⟩:=p
  rw[ho] at h
  dsimp only at h
  have h1:=Yx ho
  refine X11 (R.rv.ob.at_ i t c o h1) fun a q1 r10_=>?_;refine X34 r10_ fun C' dx vs q2 q3 q4 q5 q6=>?_
  obtain rfl:C=C':=by rw[hC] at q4;replace q4:=PySem.Value.ref.inj (Option.some.inj (Option.some.inj q4));subst q4;rfl
  have l:=q5.look (f:=m)
  rcases z:xh m o with _|d
  ·rw[z] at l h
   simp only[Option.isNone_none,if_true] at h
   refine⟨_,q1,a,dx,vs,rfl,q2,l,F,τ,R.rv,?_⟩
   cases q:fs τ with
   |no=>rw[q] at h;exact h.elim
   |ex z=>rw[q] at h;exact h.elim
   |ok ds=>
    rw[q] at h
    dsimp only at h
    intro us F1 H1 x r
    have R1:=R.ext x
    refine X11 (R1.rv.ob.at_ i t c o h1) fun a' p1 ob=>?_
    obtain rfl:a'=a:=by rw[q1] at p1;replace p1:=tI_ p1;subst p1;rfl
    rw[append_nil]
    refine⟨by rw[length_cons,← r.length,hfs τ ds q],a',[],us,[],ds,o,F1,rfl,rfl,ob,x.fh,R1.rv.tt,Reps.nil,r,?_⟩
    rw[nil_append]
    cases z:g o ds with
    |ok d o'=>
     rw[z] at h
     exact fun v F' H' xo ob' nw rep=>h v F' H' (x.ff.trans xo.ff) (R1.meth h1 q1 xo ob' nw) rep
    |ex e o'=>
     rw[z] at h
     exact fun F' H' cls xo ob' nw hc=>(h F' H' (x.ff.trans xo.ff) (R1.meth h1 q1 xo ob' nw)).xv hc
    |no=>rw[z] at h;exact h.elim
  ·rw[z] at h;simp only[Option.isNone_some,Bool.false_eq_true,if_false] at h
theorem VU{g:Fs→List D→RsM}{p1 apos:Pos}{pl:Sem Bool}(M:MetMX X.prog X.w X.K X.mg X.base c m k n ps g)(hex:X.ex=[])(hr:Room k X.A)(hx:PE X (.Name x p1) (uW i))(ha:PDA X (e::es) fs)(hfs:∀τ ds,fs τ=.ok ds→ds.length=n)
  (hst:starEach (e::es) X.env=(false,eval e X.env)::starEach es X.env:=by rfl) (hpl:(backTo pos (starEach es X.env)).any (·.1)=false:=by rfl)
  (ht:eval (.Call (.Attribute (.Name x p1) m apos) (e::es) [] pos) X.env=(do
   let ov ← eval (.Name x p1) X.env
   standAt apos.atName
   let (f,first) ← holding [ov] (getMethod ov m pl)
   callWith pos f first (backTo pos (starEach (e::es) X.env)) (backToKw pos (keywordEach [] X.env))):=by rfl) :
  PDX X (.Call (.Attribute (.Name x p1) m apos) (e::es) [] pos) (wU i c m g fs):=by
 refine X34 M fun C f fd hC cl hm F hb=>?_
 intro pins s σ H Q I h
 have h:=MD hC hfs h
 refine methodCall_KW (pl:=pl) (thn (hx pins s σ H _ I h) fun u s1 z_=>?_) ht
 refine X22 z_ fun x H1 I1 rx r9_=>?_;refine X33 r9_ fun a dx fs ex ea l q=>?_
 subst ex
 obtain rfl:u=Value.ref a:=rx
 refine j0 I1 ea cl hm l ?_
 refine callWith_K (first:=[.ref a]) (h₀:=X.base) I.ok.mod.kin hm.kp (thn (ha pos pins s1 σ H1 _ I1 q) fun us s2 ⟨vs,H2,I2,r,q2⟩=>⟨I2.kIn,?_⟩) hst hpl
 have q2:TY X.K c 0 n g (V.ref a::(vs++[])) H2 Q (XV X σ):=q2
 rw[append_nil] at q2
 exact T6 (us:=.ref a::us) (vs:=.ref a::vs) F hex hr hb I2 (.cons rfl r) q2
noncomputable def xOf(fo:FOb):DS→RsO:=fun τ=>match fo τ with
 | .ok (d,τ')=>.ok d τ'
 |_=>.no
theorem zi1(h:jj X e fo):PDX X e (xOf fo):=PE.imp h fun σ H Q ⟨B,Z,F,τ,R,q⟩=>Y41 B Z F τ R (by
 unfold xOf at q
 cases z:fo τ with
 |ok p=>obtain⟨d,τ'⟩:=p;rw[z] at q;exact q
 |ex c=>rw[z] at q;exact q.elim
 |no=>rw[z] at q;exact q.elim)
noncomputable def ww(f:DS→RsO):FS:=fun τ=>match f τ with
 |.ok d τ'=>.ro d τ'
 |.ex c τ'=>.rs c τ'
 |.no=>.no
theorem ZL{f:DS→RsO}(he:PDX X e f):PDS X (.Return (some e) pos) (ww f):=
 PS.imp (ZK he) fun E σ H ⟨B,Z,F,τ,R,h⟩=>Y41 B Z F τ R (by
  unfold ww at h
  cases z:f τ with
  |ok d τ'=>rw[z] at h;exact fun v F' H' ff RR r=>h v σ F' H' ff RR r
  |ex c τ'=>rw[z] at h;exact fun F' H' ff RR=>h σ F' H' ff RR
  |no=>rw[z] at h;exact h)
end
section
variable{X:Cx}{pins:List (Addr×Obj)}{σ:St}{H:Hp}{s:Shared}{a:Addr}{cls:Value}
noncomputable def Zb(fb:FS)(ok:Str→Bool)(i:Nat)(fe:FS):FS:=fun τ=>if Vb τ=true then (match fb τ with
 |.rs c τ'=>if ok c=true then (match fe (τ'.set i (some (.val (.exc c)))) with
  |.rt d=>.rt d
  |.ro d τ2=>.ro d τ2
  |_=>.no) else .no
 |.ex _=>.no
 |r=>r) else .no
theorem G9{body suite:List Stmt}{b₀:Stmt}{fb fe:FS}{ok:Str→Bool}{n hc:Str}{Ch:Addr}{i:Nat}{np hpos pos:Pos}(D:Fst X)(TH:EC X.K X.mg hc Ch)(hN:X.N.Nodup)(hi:X.N[i]?=some n)(hk:X.env.kindOf n=some .local)
  (hb:∀pins E,vh (Vx X pins E) body fb) (hs:∀a,vh (UK X a) (b₀::suite) fe)
  (hok:∀c cls,ok c=true→nsIn X.K mainGlobals c=some (some cls)→exmOne X.K cls (.ref Ch)=some true)
  (hg:Gl X hc:=by rfl) (hd:(hc==("__debug__" : Str))=false:=by decide):PDS X (.Try body [.ExceptHandler (some (.Name hc np)) (some n) (b₀::suite) hpos] [] [] pos) (Zb fb ok i fe):=by
 rintro pins s σ H E I ⟨B,Z,F,τ,R,h⟩
 unfold Zb at h
 by_cases hno:Vb τ=true
 rotate_left
 ·rw[if_neg hno] at h;exact h.elim
 rw[if_pos hno] at h
 refine wpAny_Try_except ?_
 have R0:RS X.K B Z F τ σ H:=R
 have lift:∀{σ':St} {F' H':Hp} {τ':DS},RS X.K B Z F' τ' σ' H'→RS X.K B Z F' τ' σ' H':=fun RR=>RR
 refine wpAny_mono (Q:=SP (Vx X pins _) [] E) (hb pins _ [] s σ H E (Inv.tryI I _) ⟨B,Z,F,τ,R0,?_⟩) (fun f s' sp=>?_) (fun _ _ q=>q)
 ·cases q:fb τ with
  |nx τ'=>rw[q] at h;exact fun σ' F' H' ff RR=>h σ' F' H' ff (lift RR)
  |bk τ'=>rw[q] at h;exact fun σ' F' H' ff RR=>h σ' F' H' ff (lift RR)
  |ct τ'=>rw[q] at h;exact fun σ' F' H' ff RR=>h σ' F' H' ff (lift RR)
  |rt d=>rw[q] at h;exact fun v F' H' x r=>h v F' H' x r
  |ro d τ'=>rw[q] at h;exact fun v σ' F' H' ff RR r=>h v σ' F' H' ff (lift RR) r
  |rb d τ'=>rw[q] at h;exact fun v σ' F' H' ff RR r=>h v σ' F' H' ff (lift RR) r
  |ex c=>rw[q] at h;exact h.elim
  |no=>rw[q] at h;exact h
  |rs c τ'=>
   rw[q] at h
   intro σ' F' H' ff RR s1 a cls hcn J x
   have RR:RS X.K B Z F' τ' σ' H':=RR
   by_cases hoc:ok c=true
   rotate_left
   ·simp only[if_neg hoc] at h;exact h.elim
   simp only[if_pos hoc] at h
   have D1:∀E',Fst (Vx X pins E'):=fun _=>⟨D.ex,D.stk,D.fr⟩
   refine JU (X:=Vx X pins _) I.ok.frames (D1 _) J x fun h1 J1 x1=>?_
   refine Z2 (X:=Vx X pins _) (s:={ s1 with heap:=h1 }) (D1 _) J1 x1 fun h2 J2 x2=>?_
   refine wpAny_handleBy_cons ?_ (by intro z;cases z)
   refine codeAny_handlers_test ?_
   have JS:=Inv.suite J2 a
   refine jw JS hg TH.mgl ?_ hd
   refine X01 (id x2) fun na r8_=>?_;refine X59 r8_ fun oe vs T oT ts g1 g2 g0 g3 g4 g5 g6 g7 g8 g9=>?_
   have lk:PySem.W.Looks (model X.prog X.w) h2 (excMatches (.ref a) (.ref Ch)) true:=PySem.W.exm_one J2.kIn (Q1 g1) (by rw[g2];exact hok c cls hoc hcn)
   refine PySem.W.Looks.at lk ?_
   refine codeAny_handlers_suite_as ?_
   refine Z2 (X:=Vx X pins _) (s:={ s1 with heap:=h2 }) (D1 _) J2 x2 fun h3 J3 x3=>?_
   refine X01 (id x3) fun na r7_=>?_;refine X59 r7_ fun oe vs T oT ts g1 g2 g0 g3 g4 g5 g6 g7 g8 g9=>?_
   have JT:=track (o:=.ext (WA X.K a c)) (D1 _) J3 na (FD.np a) g1 g3 ⟨⟨oe,cls,vs,g1,g2,g0,g3,hcn⟩,⟨oe,g1⟩,fun k1 k2 ⟨o1,c1,v1,p1,p2⟩ kk=>Y31 o1 c1 v1 (kk _ p1) p2⟩
   refine YK (Inv.untry I.ok JT) hN hi (Or.inl hk) (show RelV (.ref a) (.ref a) from rfl) (fun s4 J4=>?_) (.inr hk)
   have RR2:RS X.K B Z (upd F' a (.ext (WA X.K a c))) (τ'.set i (some (.val (.exc c)))) (σ'.set i (some (.ref a))) (upd H' a (.ext (WA X.K a c))):=((lift RR).ext (Ext.new (lift RR).rv.fh na.1)).set (by simp only[Rep];exact Y11 a rfl zr)
   refine wpAny_mono (hs a pins s4 _ _ { nx:=fun _ _=>False,rt:=E.rt } (Inv.suite J4 a) ⟨B,Z,_,_,RR2,?_⟩) (fun f s5 sp=>?_) (fun _ _ z=>False.elim z)
   ·cases q2:fe (τ'.set i (some (.val (.exc c)))) with
    |rt d=>rw[q2] at h;exact h
    |ro d τ2=>rw[q2] at h;exact fun v σ2 F2 H2 f2 R2 r2=>h v σ2 F2 H2 (ff.trans ((Ext.new (o:=.ext (WA X.K a c)) (lift RR).rv.fh na.1).ff.trans f2)) R2 r2
    |rb _ _=>rw[q2] at h;exact h.elim
    |nx _=>rw[q2] at h;exact h.elim
    |bk _=>rw[q2] at h;exact h.elim
    |ct _=>rw[q2] at h;exact h.elim
    |ex _=>rw[q2] at h;exact h.elim
    |no=>rw[q2] at h;exact h.elim
    |rs _ _=>rw[q2] at h;exact h.elim
   ·cases f with
    |next=>refine X21 sp fun _ _ _ z=>?_;exact z.elim
    |brk=>refine X21 sp fun _ _ _ z=>?_;exact z.elim
    |cont=>refine X21 sp fun _ _ _ z=>?_;exact z.elim
    |ret u=>
     refine X32 sp fun v σ5 H5 I5 r5 q5=>?_
     have I5:=Inv.unsuite I.ok I5
     refine X11 (id I5.loc) fun m hm _=>?_
     exact wpAny_nameGoes hk hm (by rw[I.ok.kind];rfl) fun h6 m6 hn6 sb=>Y32 v _ H5 (goes I5 hn6 sb) r5 q5
 ·cases f with
  |next=>refine X21 sp fun σ' H' I' q'=>?_;exact wpAny_execs_nil ⟨σ',H',Inv.untry I.ok I',q'⟩
  |brk=>refine X21 sp fun σ' H' I' q'=>?_;exact Y21 σ' H' (Inv.untry I.ok I') q'
  |cont=>refine X21 sp fun σ' H' I' q'=>?_;exact Y21 σ' H' (Inv.untry I.ok I') q'
  |ret u=>refine X32 sp fun v σ' H' I' r' q'=>?_;exact Y32 v σ' H' (Inv.untry I.ok I') r' q'
end
section
variable{X:Cx}
noncomputable def QS(X:Cx)(st:Stmt)(t:TS):Prop:=∀(pins:List (Addr×Obj)) (s:Shared) (σ:St) (H:Hp) (D:X9),0<s.toks→Inv X pins σ H s→t D σ H→wpAny (model X.prog X.w) X.A (exec st X.env) (SP X pins D) X.xe s
variable{e a b o:Expr}{rest:List Expr}{pos apos cpos:Pos}{t u:TS}{te ta tb:TE}{tA tB':TT}
end
section
variable{X:Cx}{e a b o c:Expr}{es rest:List Expr}{pos apos cpos:Pos}{fe fa fb:FE}{ga gb:FT}{f g:FS}{st:Stmt}{sts:List Stmt}
end
section
variable{X:Cx}{pos:Pos}{i j:Nat}{c f x y:Str}{C:Addr}{sts:List Stmt}{g:FS}
end
section
variable{P:Program}{w:World}{K:Frag}{mg:Str→Option Value}{base:Heap}
end
section
variable{X:Cx}{pos:Pos}{c x y:Str}{i j k:Nat}{ps:List Str}
end
section
variable{X:Cx}{pos p3:Pos}{e:Expr}{fe:FE}
end
noncomputable def vV(set:FG)(fo:FOb):List D→DS→Rs (List D×DS)
 |[],τ=>.ok ([],τ)
 |d::r,τ=>match set d τ with
  |.ok τ1=>match fo τ1 with
   | .ok (x,τ2)=>match vV set fo r τ2 with
    | .ok (xs,τ3)=>.ok (x::xs,τ3)
    |_=>.no
   |_=>.no
  |_=>.no
noncomputable def zd8:Option (Option Sl)→Option Sl
 | some (some (.val d))=>some (.val d)
 |_=>none
noncomputable def YJ(k:Nat)(idx:List Nat)(p:Nat)(s:Sl)(τ:DS):DS:=(List.replicate k none++idx.map fun j=>zd8 τ[j]?).set p (some s)
noncomputable def Ya(k:Nat)(idx:List Nat)(i p:Nat)(c:Str)(fi:FA)(set:FG)(fo:FOb):FOb:=fun τ=>(vp τ i c).bind fun o=>(fi τ).bind fun ds=>
 match vV set fo ds (YJ k idx p (.obj 1 c o.2) τ) with
 | .ok (xs,τe)=>(match vp τe p c with
  | .ok (m,fs')=>if m=1∧xs.length≤sizeLine then .ok (.lst xs,τ.set i (some (.obj o.1 c fs'))) else .no
  |_=>.no)
 |_=>.no
noncomputable def wK(τ:DS):Prop:=∀(i:Nat) c fs,τ[i]?≠some (some (.obr c fs))
theorem Wp{τ:DS}{i:Nat}{s:Option Sl}(h:wK τ)(hs:∀c fs,s≠some (.obr c fs)):wK (τ.set i s):=fun j c fs e=>by
 by_cases hij:i=j
 ·subst hij
  rw[getElem?_set] at e
  simp only[if_true] at e
  split at e
  ·injection e with e;exact hs c fs e
  ·nomatch e
 ·rw[getElem?_set_ne hij] at e;exact h j c fs e
theorem Xe(i:Nat):∀d τ τ',gNm i d τ=.ok τ'→wK τ→wK τ':=fun d τ τ' h n=>by
 unfold gNm at h;replace h:=oI_ h;subst h;exact Wp n (fun _ _ h=>by nomatch h)
theorem ZR{i:Nat}{c:Str}{g:Fs→List D→Rs (D×Fs)}{f1 f2:FA}:∀τ d τ',vQ i c g f1 f2 τ=.ok (d,τ')→wK τ→wK τ':=fun τ d τ' h n=>by
 unfold vQ at h
 cases e:vp τ i c with
 |ok p=>
  rw[e] at h
  cases e1:f1 τ with
  |ok d1=>
   cases e2:f2 τ with
   |ok d2=>
    simp only[Rs.bind,e1,e2] at h
    split at h
    ·cases h;exact Wp n (fun _ _ h=>by nomatch h)
    ·nomatch h
   |ex _=>simp only[Rs.bind,e1,e2] at h;nomatch h
   |no=>simp only[Rs.bind,e1,e2] at h;nomatch h
  |ex _=>simp only[Rs.bind,e1] at h;nomatch h
  |no=>simp only[Rs.bind,e1] at h;nomatch h
 |ex _=>rw[e] at h;cases h
 |no=>rw[e] at h;cases h
theorem v9{k p q:Nat}{idx:List Nat}{s0 s:Sl}{τ:DS}(h:(YJ k idx p s0 τ)[q]?=some (some s)):(q=p∧s=s0)∨(q≠p∧∃d j,s=.val d∧k≤q∧idx[q-k]?=some j∧τ[j]?=some (some (.val d))):=by
 unfold YJ at h
 by_cases e:p=q
 ·subst e
  rw[getElem?_set] at h
  simp only[if_true] at h
  split at h
  ·replace h:=uI_ h;subst h;exact .inl ⟨rfl,rfl⟩
  ·nomatch h
 ·rw[getElem?_set_ne e] at h
  refine .inr ⟨fun z=>e z.symm,?_⟩
  by_cases hi:q<k
  ·rw[getElem?_append_left (by simpa using hi),getElem?_replicate] at h
   simp[hi] at h
  ·rw[getElem?_append_right (by simpa using hi),getElem?_map] at h
   simp only[length_replicate] at h
   rcases z:idx[q-k]? with _|j
   ·rw[z] at h;cases h
   ·rw[z] at h
    simp only[Option.map_some,Option.some.injEq] at h
    unfold zd8 at h
    split at h
    ·rename_i d hd;replace h:=sI_ h;subst h;exact Y23 d j rfl (by lia) rfl hd
    ·nomatch h
theorem VD{k q j:Nat}{idx:List Nat}{σ:St}{v:V}(hk:k≤q)(hj:idx[q-k]?=some j)(h:σ[j]?=some (some v)):(wQ k idx σ)[q]?=some (some v):=by
 unfold wQ
 rw[getElem?_append_right (by simpa using hk),getElem?_map]
 simp[hj,h]
theorem QF{K:Frag}{F H:Hp}{τ:DS}{σ:St}{k i p n:Nat}{idx:List Nat}{c:Str}{o:Fs}{a:Addr}(R:RV K F τ σ H)(hk:k≤p)(hp:idx[p-k]?=some i)(hi:τ[i]?=some (some (.obj n c o)))(ha:σ[i]?=some (some (.ref a))) :
  RS K (xR H c a) F F (YJ k idx p (.obj 1 c o) τ) (wQ k idx σ) H:=by
 refine X11 (R.ob.at_ i n c o hi) fun a' q1 ob=>?_
 obtain rfl:a'=a:=by rw[ha] at q1;replace q1:=tI_ q1;subst q1;rfl
 have sp:(wQ k idx σ)[p]?=some (some (.ref a')):=VD hk hp ha
 have only:∀{j:Nat} {s:Sl},Ul (some s)=true→(YJ k idx p (.obj 1 c o) τ)[j]?=some (some s)→j=p∧s=.obj 1 c o:=fun {j s} hs h=>by
  rcases v9 h with e|⟨_,d,j',e,_⟩
  ·exact e
  ·subst e;cases hs
 have onlyS:∀{j:Nat} {c':Str},ObS (YJ k idx p (.obj 1 c o) τ)[j]? c'→j=p:=fun {j c'} h=>by
  rcases h with ⟨n,fs,h⟩|⟨fs,h⟩
  ·exact(only rfl h).1
  ·exact(only rfl h).1
 have noown:∀{j:Nat} {es:List D},(YJ k idx p (.obj 1 c o) τ)[j]?=some (some (.own es))→False:=fun {j es} h=>by
  rcases v9 h with ⟨_,e⟩|⟨_,d,j',e,_⟩ <;> cases e
 have noobr:∀{j:Nat} {c':Str} {fs:Fs},(YJ k idx p (.obj 1 c o) τ)[j]?=some (some (.obr c' fs))→False:=fun {j c' fs} h=>by
  rcases v9 h with ⟨_,e⟩|⟨_,d,j',e,_⟩ <;> cases e
 refine⟨⟨R.fh,by simp[YJ,wQ],fun j d h=>?_,fun j es h=>(noown h).elim,fun j l es es' b _ h1=>(noown h1).elim,R.tt,⟨fun j m c' fs h=>?_,fun j l m c1 c2 fs b hij g1 g2 _ _=>?_,fun j c' fs h=>(noobr h).elim,fun j l m c1 c2 fs b b' u hij g1 g2=>?_,fun j l c' ds b u _ g2=>(noown g2).elim⟩⟩,Zo H c a',Same.refl F,fun b u e=>.inl e,fun j es b g1=>(noown g1).elim,fun j m c' fs b g1 g2=>?_,fun a0 dx b1 b2 j m c' fs g1=>?_,fun j c' fs b g1 g2=>(noobr g1).elim⟩
 ·rcases v9 h with ⟨_,e⟩|⟨_,d',j',e,e1,e2,e3⟩
  ·nomatch e
  ·replace e:=FD.Sl.val.inj e;subst e
   refine X11 (R.val j' d e3) fun v v1 v2=>?_
   exact Y11 v (VD e1 e2 v1) v2
 ·obtain⟨rfl,e⟩:=only rfl h
  cases e
  exact Y11 a' sp ob
 ·exact hij ((only rfl g1).1.trans (onlyS g2).symm)
 ·exact absurd ((only rfl g1).1.trans (onlyS g2).symm) hij
 ·obtain⟨rfl,e⟩:=only rfl g1
  cases e
  rw[sp] at g2;replace g2:=tI_ g2;subst g2
  exact⟨Zp _ _ _,fun l hl=>Qf hl⟩
 ·obtain⟨rfl,e⟩:=only rfl g1
  cases e
  refine X30 (R.tt.2 dx a0 (uI b1)) fun C dx' vs q2=>?_
  by_cases z:a0=a'
  ·rw[z];exact sp
  ·have:a0∉Lof H c a':=fun y=>by
    refine X34 ob fun C2 dx2 vs2 o1 _ _ o4 _=>?_
    rw[Lof.ins o1] at y
    refine X01 (o4.own y) fun _ r6_=>?_;refine X10 r6_ fun ws q=>?_
    rw[q2] at q;nomatch q
   rw[vE z this,q2] at b2;nomatch b2
theorem RS.acc{K:Frag}{B Z F H:Hp}{τ:DS}{σ:St}{p:Addr}{vs:List V}(R:RS K B Z F τ σ H)(nr:wK τ)(hz:Z p=none)(hp:(B p=none∧H p=none)∨∃ws,B p=some (.lst ws)):RS K (upd B p (.lst vs)) Z F τ σ (upd H p (.lst vs)):=by
 have hl:H p=none∨∃ws,H p=some (.lst ws):=by
  rcases hp with ⟨_,h⟩|⟨ws,h⟩
  ·exact .inl h
  ·exact .inr ⟨ws,R.bh p _ h⟩
 have hF:F p=none:=by
  rcases hp with ⟨_,h⟩|⟨ws,h⟩
  ·exact zO R.rv.fh h
  ·rcases q:F p with _|o
   ·rfl
   ·rcases R.nb p o q with z|z
    ·rw[hz] at z;nomatch z
    ·rw[h] at z;nomatch z
 have ne:∀b,B b=none→H b≠none→b≠p:=fun b h1 h2 z=>by
  subst z
  rcases hp with ⟨_,h⟩|⟨ws,h⟩
  ·exact h2 h
  ·rw[h] at h1;nomatch h1
 have hn:∀(b:Addr),b≠p→B b=none→upd B p (.lst vs) b=none:=fun b h1 h2=>by rw[zp h1];exact h2
 have apart:∀(i:Nat) (c:Str) (a:Addr),ObS τ[i]? c→σ[i]?=some (some (.ref a))→p∉Lof H c a:=fun i c a h e hm=>by
  rcases h with ⟨m,fs,h⟩|⟨fs,h⟩
  ·refine X11 (R.rv.ob.at_ i m c fs h) fun a' z1 r5_=>?_;refine X34 r5_ fun C dx ws z2 _ _ z5 _=>?_
   obtain rfl:a'=a:=by rw[e] at z1;replace z1:=tI_ z1;subst z1;rfl
   have:=(R.oo i m c fs a' h e).2 p hm
   rw[Lof.ins z2] at hm
   refine X01 (z5.own hm) fun _ r4_=>?_;refine X10 r4_ fun us z6=>?_
   exact ne p this (by rw[z6];simp) rfl
  ·exact nr i c fs h
 have kl:∀(i m:Nat) (c:Str) (fs:Fs) (a:Addr),τ[i]?=some (some (.obj m c fs))→σ[i]?=some (some (.ref a))→H a≠none∧a≠p:=fun i m c fs a h e=>by
  refine X11 (R.rv.ob.at_ i m c fs h) fun a' z1 r3_=>?_;refine X34 r3_ fun C dx ws z2 _ _ z5 _=>?_
  obtain rfl:a'=a:=by rw[e] at z1;replace z1:=tI_ z1;subst z1;rfl
  refine⟨by rw[z2];simp,fun z=>?_⟩
  subst z
  rcases hl with y|⟨_,y⟩ <;> rw[z2] at y <;> cases y
 have fh:Same F (upd H p (.lst vs)):=fun b u e=>by
  have:b≠p:=fun z=>by subst z;rw[hF] at e;nomatch e
  rw[zp this];exact R.rv.fh b u e
 refine⟨⟨fh,R.rv.len,R.rv.val,fun i es h=>?_,R.rv.dis,R.rv.tt.step (fun _ _ e=>.inl e) (fun b o e n=>?_) (uC fun _ z=>nomatch z),R.rv.ob.updL hl apart⟩,fun b o e=>?_,R.zf,fun b o e=>?_,fun i ds a h1 h2=>?_,fun i m c fs a h1 h2=>?_,fun a0 dx b1 b2 i m c fs h1=>?_,fun i c fs a h=>absurd h (nr i c fs)⟩
 ·refine X23 (R.rv.own i es h) fun a ws z1 z2 z3 z4=>?_
  have:a≠p:=ne a (R.ob i es a h z1) (by rw[z2];simp)
  exact Y23 a ws z1 (by rw[zp this];exact z2) z3 z4
 ·have:b≠p:=fun z=>by
   subst z
   rcases hl with y|⟨us,y⟩
   ·rw[y] at e;nomatch e
   ·rw[y] at e;replace e:=sI_ e;subst e;exact n _ rfl
  rw[zp this];exact e
 ·by_cases z:b=p
  ·subst z;rw[zr] at e;replace e:=sI_ e;subst e;exact .of zr
  ·rw[zp z] at e ⊢;exact R.bh b o e
 ·rcases R.nb b o e with y|y
  ·exact .inl y
  ·refine .inr (hn b (fun z=>?_) y)
   subst z;rw[hF] at e;nomatch e
 ·refine X23 (R.rv.own i ds h1) fun a' ws z1 z2 z3 z4=>?_
  obtain rfl:a'=a:=by rw[h2] at z1;replace z1:=tI_ z1;subst z1;rfl
  have hb:=R.ob i ds a' h1 h2
  exact hn a' (ne a' hb (by rw[z2];simp)) hb
 ·obtain⟨k1,k2⟩:=kl i m c fs a h1 h2
  obtain⟨o1,o2⟩:=R.oo i m c fs a h1 h2
  refine⟨hn a k2 o1,fun l hl'=>?_⟩
  have e:Lof (upd H p (.lst vs)) c a=Lof H c a:=by unfold Lof;rw[zp k2]
  rw[e] at hl'
  exact hn l (fun z=>apart i c a (.inl ⟨m,fs,h1⟩) h2 (z ▸ hl')) (o2 l hl')
 ·have n1:dx≠p:=fun z=>by subst z;rw[zr] at b1;nomatch b1
  rw[zp n1] at b1
  have n2:a0≠p:=fun z=>by subst z;rw[zr] at b2;nomatch b2
  rw[zp n2] at b2
  exact R.sf a0 dx b1 b2 i m c fs h1
theorem upd_upd(H:Hp)(p:Addr)(x y:HO):upd (upd H p x) p y=upd H p y:=by
 funext b;unfold upd;split <;> rfl
section
variable{X:Cx}{scope:Scope}{tn fr:List Str}{idx:List Nat}{tg iter elt:Expr}{pos:Pos}{fi:FA}{set:FG}{fo:FOb}{i p:Nat}{c:Str}
structure CWE(K:Frag)(set:FG)(fo:FOb)(c:Str)(a acc:Addr)(F1 H1:Hp)(ds xs:List D)(τe:DS)(j:Nat)(σ1:St)(Hc F2:Hp)(τ1:DS)(dn rs:List D)(vs:List V):Prop where
 a1:Reps K F2 dn vs
 a2:RS K (upd (xR H1 c a) acc (.lst vs)) F1 F2 τ1 σ1 Hc
 a3:wK τ1
 a4:vV set fo (ds.drop j) τ1=.ok (rs,τe)
 a5:xs=dn++rs
theorem XD(hk:tn.length≤p)(hp:idx[p-tn.length]?=some i)(ns:∀d τ τ',set d τ=.ok τ'→wK τ→wK τ')(no:∀τ d τ',fo τ=.ok (d,τ')→wK τ→wK τ'){Y:Cx}(hK:Y.K=X.K)(σ:St)(H:Hp)(Q:VK)(h:tOb X (Ya tn.length idx i p c fi set fo) σ H Q) :
  Jt (wQ tn.length idx) (tI X fi) (tG Y set) (tTs Y fun _=>.ok true) (tOb Y fo) σ H Q:=by
 obtain⟨B,Z,F,τ,R,h⟩:=h
 refine X21 (Yw (X:=X) (Ok.bind h)) fun t o h1 h5=>?_
 dsimp only at h5
 refine Y21 F τ R.rv (h5.bind.imp fun ds gds J F1 H1 x io acc hacc=>?_)
 have R1:=R.ext x
 refine X11 (R1.rv.ob.at_ i t c o h1) fun a q1 ob=>?_
 have obn:=ob
 refine X35 ob fun C dx ws o1 o2 o3 o4 o5 o6=>?_
 cases q:vV set fo ds (YJ tn.length idx p (.obj 1 c o) τ) with
 |no=>rw[q] at gds;exact gds.elim
 |ex c=>rw[q] at gds;exact gds.elim
 |ok xt=>
  obtain⟨xs,τe⟩:=xt
  rw[q] at gds
  dsimp only at gds
  cases qo:vp τe p c with
  |no=>rw[qo] at gds;exact gds.elim
  |ex c=>rw[qo] at gds;exact gds.elim
  |ok mf=>
   obtain⟨m,fs'⟩:=mf
   rw[qo] at gds
   dsimp only at gds
   by_cases hm:m=1∧xs.length≤sizeLine
   ·rw[if_pos hm] at gds
    obtain⟨rfl,hz⟩:=hm
    have na:a≠acc:=fun z=>by subst z;rw[o1] at hacc;nomatch hacc
    have nd:dx≠acc:=fun z=>by subst z;rw[o5] at hacc;nomatch hacc
    have hF1:F1 acc=none:=zO x.fh hacc
    have hA:xR H1 c a acc=none:=yU (Zo H1 c a) hacc
    refine⟨fun j m σ1 Hc=>m=ds.length-j∧j≤ds.length∧∃F2 τ1 dn rs vs,CWE X.K set fo c a acc F1 H1 ds xs τe j σ1 Hc F2 τ1 dn rs vs,⟨ds.length,by simp,zero_le _,F1,_,[],xs,[],Reps.nil,(QF R1.rv hk hp h1 q1).acc ?_ hF1 (.inl ⟨hA,hacc⟩),?_,q,rfl⟩,?_⟩
    ·intro j c' fs e;rcases v9 e with ⟨_,e⟩|⟨_,d,j',e,_⟩ <;> cases e
    ·intro j c' fs e;rcases v9 e with ⟨_,e⟩|⟨_,d,j',e,_⟩ <;> cases e
    rintro j m σ1 Hc ⟨rfl,hj,F2,τ1,dn,rs,vs,r2,R2,nr,cl,ex⟩
    obtain⟨i1,i2⟩:=io j F2 _ R2.zf R2.rv.fh
    by_cases hlt:j<ds.length
    ·have hd:ds.drop j=ds[j]::ds.drop (j+1):=drop_eq_getElem_cons hlt
     rw[hd,vV] at cl
     obtain⟨go,yl⟩:=i2 ds[j] (by simp[hlt])
     refine .inr ⟨go,fun y H' yy=>?_⟩
     refine X11 (yl y H' yy) fun F3 x3 r3=>?_
     refine Y32 F3 τ1 (ds[j]) (by rw[hK];exact(R2.ext x3).rv) (by rw[hK];exact r3) ?_
     cases e1:set ds[j] τ1 with
     |no=>rw[e1] at cl;nomatch cl
     |ex c=>rw[e1] at cl;nomatch cl
     |ok τ2=>
      rw[e1] at cl
      simp only at cl
      intro σ2 _ RR _
      rw[hK] at RR
      have RR:=RR _ _ (R2.ext x3)
      have n3:=ns _ _ _ e1 nr
      refine Y21 F3 τ2 (by rw[hK];exact RR.rv) ?_
      intro F4 H4 x4
      rw[if_pos rfl]
      cases e3:fo τ2 with
      |no=>rw[e3] at cl;nomatch cl
      |ex c=>rw[e3] at cl;nomatch cl
      |ok zt=>
       obtain⟨z,τ3⟩:=zt
       rw[e3] at cl
       simp only at cl
       have n4:=no _ _ _ e3 n3
       cases e4:vV set fo (ds.drop (j+1)) τ3 with
       |no=>rw[e4] at cl;nomatch cl
       |ex c=>rw[e4] at cl;nomatch cl
       |ok rt=>
        obtain⟨rs',τ4⟩:=rt
        rw[e4] at cl
        have ers:z::rs'=rs∧τ4=τe:=by simpa using cl
        obtain⟨ers,rfl⟩:=ers
        refine Y41 (upd (xR H1 c a) acc (.lst vs)) F1 F4 τ2 (by rw[hK];exact RR.ext x4) ?_
        rw[e3]
        intro v F5 H5 f5 R5 r5
        rw[hK] at r5 R5
        have ff:Same F2 F5:=x3.ff.trans (x4.ff.trans f5)
        refine⟨vs,R5.bh acc _ zr,?_,ds.length-(j+1),by lia,rfl,hlt,F5,τ3,dn++[z],rs',vs++[v],(r2.mono ff).append (Reps.cons r5 Reps.nil),?_,n4,e4,?_⟩
        ·have:=congrArg List.length ex
         rw[← ers,length_append,length_cons,r2.length] at this
         lia
        ·have:=R5.acc (vs:=vs++[v]) n4 hF1 (.inr ⟨vs,zr⟩)
         rw[upd_upd] at this
         exact this
        ·rw[ex,← ers,List.append_assoc];rfl
    ·have e:j=ds.length:=by lia
     subst e
     rw[drop_length,vV] at cl
     cases cl
     rw[append_nil] at ex
     subst ex
     refine .inl ⟨i1 (le_refl _),?_⟩
     have z:=Yx qo
     refine X11 (R2.rv.ob.at_ p 1 c fs' z) fun a' p1 p2=>?_
     have hdx:upd (xR H1 c a) acc (.lst vs) dx=some (.own a):=by
      have n1:dx≠a:=fun z=>by subst z;rw[o1] at o5;nomatch o5
      have n2:dx∉Lof H1 c a:=fun z=>by
       rw[Lof.ins o1] at z
       refine X01 (o4.own z) fun _ r2_=>?_;refine X10 r2_ fun ws' q=>?_
       rw[o5] at q;nomatch q
      rw[zp nd,vE n1 n2];exact o5
     have hBa:upd (xR H1 c a) acc (.lst vs) a=none:=by rw[zp na];exact Zp _ _ _
     have:=R2.sf a dx hdx hBa p 0 c fs' z
     obtain rfl:a'=a:=by rw[p1] at this;replace this:=tJ_ this;subst this;rfl
     obtain⟨oo1,oo2⟩:=R2.oo p 1 c fs' a' z p1
     have hF2:F2 acc=none:=by
      rcases y:F2 acc with _|u
      ·rfl
      ·rcases R2.nb acc u y with w|w
       ·rw[hF1] at w;nomatch w
       ·rw[zr] at w;nomatch w
     have hHc:Hc acc=some (.lst vs):=R2.bh acc _ zr
     have sm:Same F2 (upd F2 acc (.lst vs)):=yk hF2
     have lacc:∀l∈Lof Hc c a',l≠acc:=fun l hl w=>by
      subst w
      have:=oo2 l hl
      rw[zr] at this;nomatch this
     have ob':ZC X.K (upd F2 acc (.lst vs)) Hc c fs' a':=by
      refine X35 p2 fun C' dx' us g1 g2 g3 g4 g5 g6=>?_
      refine Y35 C' dx' us g1 (by rw[zp na];exact g2) g3 (g4.keep sm fun l ws' hl e1 e2=>⟨e1,?_⟩) g5 g6
      rw[zp (lacc l (by rw[Lof.ins g1];exact hl))];exact e2
     have fh':Same (upd F2 acc (.lst vs)) Hc:=fun b u e=>by
      by_cases y:b=acc
      ·subst y;rw[zr] at e;replace e:=sI_ e;subst e;exact hHc
      ·rw[zp y] at e;exact R2.rv.fh b u e
     refine gds (.ref acc) (upd F2 acc (.lst vs)) Hc (x.ff.trans (R2.zf.trans sm)) (R1.meth h1 q1 ⟨R2.zf.trans sm,fun b u e=>?_,fh',fun b u e=>?_,R2.rv.tt.freeze hHc⟩ ob' fun l hl=>?_) ?_
     ·have:b≠acc:=fun y=>by subst y;rw[hA] at e;nomatch e
      exact R2.bh b u (by rw[zp this];exact e)
     ·by_cases y:b=acc
      ·subst y;exact .inr hA
      ·rw[zp y] at e
       rcases R2.nb b u e with w|w
       ·exact .inl w
       ·rw[zp y] at w;exact .inr w
     ·have w:=oo2 l hl
      rw[zp (lacc l hl)] at w
      rcases vD w with y|y|y
      ·subst y
       refine X34 p2 fun C' dx' vs' g1 _ _ g4 _=>?_
       rw[Lof.ins g1] at hl
       refine X01 (g4.own hl) fun _ r1_=>?_;refine X10 r1_ fun ws' q=>?_
       rw[g1] at q;nomatch q
      ·exact .inl y
      ·exact .inr y
     ·simp only[Rep]
      exact Y22 acc vs rfl zr (r2.mono sm)
   ·rw[if_neg hm] at gds;exact gds.elim
theorem VY(hb:vU X.env.scope scope=true)(hc:X.calm=true)(hfr:FreeOk scope X.N fr idx)(hk:tn.length≤p)(hp:idx[p-tn.length]?=some i)(ns:∀d τ τ',set d τ=.ok τ'→wK τ→wK τ')(no:∀τ d τ',fo τ=.ok (d,τ')→wK τ→wK τ')(hi:PDI X tg iter fi)
  (hg:∀s H C fp,PDG (X.comp scope (tn++fr) s H C fp) tg set) (he:∀s H C fp,jj (X.comp scope (tn++fr) s H C fp) elt fo)
  (hs:∀x,foldedSetIterable iter X.env x=pure x:=by intro _;rfl):jj X (.ListComp elt [⟨tg,iter,[],0⟩] scope pos) (Ya tn.length idx i p c fi set fo):=
 PE.imp (JI (s0:=wQ tn.length idx) (g:=tG (X.comp scope (tn++fr) X.s₀ X.H₀ 0 []) set) (ti:=tTs (X.comp scope (tn++fr) X.s₀ X.H₀ 0 []) fun _=>.ok true) (te:=tOb (X.comp scope (tn++fr) X.s₀ X.H₀ 0 []) fo)
  (wu hb) hc (fun σ _=>by simp[wQ,hfr.len]) (jn hfr) hi hg (fun _ _ _ _=>vA) he hs) (XD hk hp ns no rfl)
theorem QN{l:Nat}{y:Str}{py spos:Pos}(hN:X.N.Nodup)(hiN:X.N[l]?=some y)(hy:X.env.scope.names.lookup y=some .local)
  (hsw:swapsWith (.ListComp elt [⟨tg,iter,[],0⟩] scope pos) (some (.Name y py)) spos.line X.env=pure true)
  (hb:vU X.env.scope scope=true) (hc:X.calm=true) (hfr:FreeOk scope X.N fr idx) (hk:tn.length≤p) (hp:idx[p-tn.length]?=some i) (ns:∀d τ τ',set d τ=.ok τ'→wK τ→wK τ') (no:∀τ d τ',fo τ=.ok (d,τ')→wK τ→wK τ') (hi:PDI X tg iter fi)
  (hg:∀s H C fp,PDG (X.comp scope (tn++fr) s H C fp) tg set) (he:∀s H C fp,jj (X.comp scope (tn++fr) s H C fp) elt fo)
  (hs:∀x,foldedSetIterable iter X.env x=pure x:=by intro _;rfl):PDS X (.Assign [.Name y py] (.ListComp elt [⟨tg,iter,[],0⟩] scope pos) spos) (VI l (Ya tn.length idx i p c fi set fo)):=
 PS.imp (WV (s0:=wQ tn.length idx) (g:=tG (X.comp scope (tn++fr) X.s₀ X.H₀ 0 []) set) (ti:=tTs (X.comp scope (tn++fr) X.s₀ X.H₀ 0 []) fun _=>.ok true) (te:=tOb (X.comp scope (tn++fr) X.s₀ X.H₀ 0 []) fo) hN hiN hy hsw
  (wu hb) hc (fun σ _=>by simp[wQ,hfr.len]) (jn hfr) hi hg (fun _ _ _ _=>vA) he hs) fun E σ H ⟨B,Z,F,τ,R,h⟩=>
  XD (X:=X) (tn:=tn) (idx:=idx) (fi:=fi) hk hp ns no (Y:=X.comp scope (tn++fr) X.s₀ X.H₀ 0 []) rfl σ H (fun x H1=>Xu l x σ H1 E.nx) ⟨B,Z,F,τ,R,h.of.imp fun q g v F1 H1 f1 R1 r=>g _ F1 H1 f1 (R1.set r)⟩
end
noncomputable def V8(fa fb:FOb):FOb:=fun τ=>(fa τ).bind fun p=>match p.1 with
 |.bl true=>fb p.2
 |.bl false=>.ok (.bl false,p.2)
 |_=>.no
theorem Lr{X:Cx}{a:Expr}{pos:Pos}{op}{fa:FOb}(h:jj X a fa):jj X (.BoolOp op [a] pos) fa:=G4 h
theorem Lu{X:Cx}{a b:Expr}{rest:List Expr}{pos:Pos}{fa fb:FOb}(ha:jj X a fa)(hb:jj X (.BoolOp .And (b::rest) pos) fb):jj X (.BoolOp .And (a::b::rest) pos) (V8 fa fb):=
 PE.imp (zi0 ha hb) fun σ H Q ⟨B,Z,F,τ,R,h⟩=>Y41 B Z F τ R (h.bind.imp fun p g v F1 H1 f1 R1 r1=>by
  obtain⟨d,τ'⟩:=p
  cases d with
  |bl k=>
   simp only[Rep] at r1
   refine Y11 k r1 ?_
   rcases k with _|_
   ·rw[if_neg (by simp)];exact g (.bl false) F1 H1 f1 R1 (by simp only[Rep])
   ·rw[if_pos rfl];exact Y41 B Z F1 τ' R1 (Ok.imp g fun p e v F' H' f'=>e v F' H' (f1.trans f'))
  |_=>exact g.elim)
theorem Mh{X:Cx}{pos:Pos}{k:Nat}{ps:List Str}{g:List D→Rs D}{x:Str}{p:Pos}(D:DefOk X.prog X.w X.K X.mg X.base x k 0 ps g)(hr:Room k X.A)(hg:Gl X x:=by rfl)(hdb:(x==("__debug__" : Str))=false:=by decide):PDE X (.Call (.Name x p) [] [] pos) (zB g zi):=by
 refine X23 D fun f fd F hb hk hm=>?_
 refine PE.imp (G7 F hr hg hm hk hb .nil (E:=E0) Z9 hdb) fun σ H Q z_=>?_
 refine X21 z_ fun Fz τ R h=>?_
 have hb:Ok X (X4 (g [])) (Ev X.K Fz H Q):=h
 refine⟨rfl,[],Fz,R.fh,R.tt,Reps.nil,?_⟩
 cases z:g [] with
 |ok d=>rw[z] at hb;exact hb
 |ex c=>rw[z] at hb;exact hb.elim
 |no=>rw[z] at hb;exact hb.elim
section
variable{τ:DS}{fa fb fc fe fi:FE}{fs:FA}{op:D→D→Rs D}{d x y:D}{i j k:Int}{n m:Nat}
noncomputable def getV:Option (Option Sl)→Rs D
 | some (some (.val d))=>.ok d
 |_=>.no
noncomputable def Uv:Option (Option Sl)→Rs (List D)
 | some (some (.own d))=>.ok d
 |_=>.no
@[simp] theorem zM:getV (some (some (.val d)))=.ok d:=rfl
@[simp] theorem wf{ds:List D}:Uv (some (some (.own ds)))=.ok ds:=rfl
theorem zW:ze n τ=getV τ[n]?:=rfl
theorem vB:vP τ n=Uv τ[n]?:=rfl
theorem yQ:eC d τ=.ok d:=rfl
theorem yB:eOp op fa fb τ=(fa τ).bind fun x=>(fb τ).bind fun y=>op x y:=rfl
theorem zD:zi τ=.ok []:=rfl
theorem zE:za fa fs τ=(fa τ).bind fun x=>(fs τ).bind fun r=>.ok (x::r):=rfl
theorem Vl:xP fs τ=(fs τ).bind fun ds=>if ds.length≤sizeLine then .ok (.lst ds) else .no:=rfl
theorem Qk:xS fs τ=(fs τ).bind fun ds=>if ds.length≤sizeLine then .ok (.tup ds) else .no:=rfl
theorem yW{g:List D→Rs D}:zB g fs τ=(fs τ).bind fun ds=>X4 (g ds):=rfl
theorem jB{g:List D→Rs D}:ya g fs τ=(fs τ).bind g:=rfl
theorem Td{g:FT}:eIf g fa fb τ=(g τ).bind fun b=>if b=true then fa τ else fb τ:=rfl
theorem Vm:Ji fa fb τ=(fa τ).bind fun x=>(ZE x).bind fun b=>if b=true then fb τ else .ok x:=rfl
theorem Tb:eOr fa fb τ=(fa τ).bind fun x=>(ZE x).bind fun b=>if b=true then .ok x else fb τ:=rfl
noncomputable def boolOf:D→Rs Bool
 |.bl b=>.ok b
 |_=>.no
@[simp] theorem yi{b:Bool}:boolOf (.bl b)=.ok b:=rfl
theorem wI:FD.tB fe τ=(fe τ).bind boolOf:=rfl
theorem j7:jC fe τ=(fe τ).bind ZE:=rfl
theorem uo{f g:FT}:wZ f g τ=(f τ).bind fun b=>if b=true then g τ else .ok false:=rfl
theorem um{f g:FT}:jD f g τ=(f τ).bind fun b=>if b=true then .ok true else g τ:=rfl
theorem TR{f:FT}:uY f τ=(f τ).bind fun b=>.ok (!b):=rfl
theorem Ql{T:String}{g:D→List D→Rs D}:Jh T g fa τ=(fa τ).bind fun d=>if Xo T d=true then g d [] else .no:=rfl
theorem Jg{fl fh:FO}:eSl fe fl fh τ=(fe τ).bind fun d=>(fl τ).bind fun l=>(fh τ).bind fun u=>slD d l u:=rfl
noncomputable def Jy:D→Rs (Option Int)
 |.int i=>.ok (some i)
 |_=>.no
@[simp] theorem VC:Jy (.int i)=.ok (some i):=rfl
theorem V6:w5 fe τ=(fe τ).bind Jy:=rfl
noncomputable def Fl.thn(r:Fl)(g:FS):Fl:=match r with
 |.nx τ=>g τ
 |r=>r
@[simp] theorem yz{g:FS}:(Fl.nx τ).thn g=g τ:=rfl
@[simp] theorem jO{g:FS}:(Fl.rt d).thn g=.rt d:=rfl
theorem zV{f g:FS}:zA f g τ=(f τ).thn g:=rfl
theorem ye:zU n fe τ=Fl.of (fe τ) fun d=>.nx (τ.set n (some (.val d))):=rfl
theorem vx:uQ n fs τ=Fl.of (fs τ) fun ds=>.nx (τ.set n (some (.own ds))):=rfl
theorem yT{g:FT}{f h:FS}:sIf g f h τ=Fl.of (g τ) fun b=>if b=true then f τ else h τ:=rfl
theorem yf:yx fe τ=Fl.of (fe τ) fun d=>.rt d:=rfl
theorem vy:u0 n τ=Fl.of (vP τ n) fun ds=>.rt (.lst ds):=rfl
theorem ym:zS τ=.nx τ:=rfl
theorem vK{set:FG}{body:FS}:uu fs set body τ=Fl.of (fs τ) fun ds=>xB set body ds τ:=rfl
@[simp] theorem yb:Zr (.rt d)=.ok d:=rfl
@[simp] theorem wB:X4 (.ok d)=.ok d:=rfl
@[simp] theorem yI:zN (.int i) (.int j)=.ok (.int (i+j)):=rfl
theorem Tw{a b:Str}(h:a.length+b.length≤sizeLine):zN (.str a) (.str b)=.ok (.str (a++b)):=if_pos h
@[simp] theorem vw:jE (.int i) (.int j)=.ok (.int (i-j)):=rfl
theorem wH(h:(-(18446744073709551616)<i∧i<18446744073709551616)∨(-(18446744073709551616)<j∧j<18446744073709551616)):xY (.int i) (.int j)=.ok (.int (i*j)):=if_pos h
theorem jb(h:0<j):uX (.int i) (.int j)=.ok (.int (i%j)):=by
 show(if decide (0<j)=true then _ else _)=_
 rw[if_pos (by simpa using h)]
theorem wW(h:0<j∧j<1073741824):xW (.int i) (.int j)=.ok (.int (i / j)):=by
 show(if decide (0<j∧j<1073741824)=true then _ else _)=_
 rw[if_pos (by simpa using h)]
@[simp] theorem ze1:ltI (.int i) (.int j)=.ok (.bl (decide (i<j))):=rfl
@[simp] theorem leD_i:leD (.int i) (.int j)=.ok (.bl (decide (i≤j))):=rfl
@[simp] theorem Ut:gtD (.int i) (.int j)=.ok (.bl (decide (j<i))):=rfl
@[simp] theorem geD_i:geD (.int i) (.int j)=.ok (.bl (decide (j≤i))):=rfl
@[simp] theorem va:eqD (.int i) (.int j)=.ok (.bl (i==j)):=rfl
@[simp] theorem Ta{a b:Str}:eqD (.str a) (.str b)=.ok (.bl (a==b)):=rfl
@[simp] theorem neD_i:neD (.int i) (.int j)=.ok (.bl (!(i==j))):=rfl
@[simp] theorem Xt{a b:Str}:inD (.str a) (.str b)=.ok (.bl (Jv a b)):=rfl
theorem vb(c:Nat)(x:Str):Jv ⟨#[c]⟩ x=decide (c∈x.cps.toList):=StrLaws.found_one x c
@[simp] theorem MM{ns:List Int}:yA [.scr ns]=.ok (.int ns.length):=rfl
@[simp] theorem wd{ds:List D}:yA [.lst ds]=.ok (.int ds.length):=rfl
theorem Uh{a:Str}(h:a.length≤sizeLine):yA [.str a]=.ok (.int a.length):=if_pos h
theorem L5{ns:List Int}{a:Int}(h:atI ns k=some a):ixD (.scr ns) (.int k)=.ok (.int a):=by
 show(match atI ns k with|some d=>Rs.ok (D.int d) | none=>.no)=_
 rw[h]
theorem YB{ds:List D}{a:D}(h:atI ds k=some a):ixD (.lst ds) (.int k)=.ok a:=by
 show(match atI ds k with|some d=>Rs.ok d|none=>.no)=_
 rw[h]
theorem YA{a:Str}{c:Nat}(h:atI a.cps.toList k=some c)(hz:a.length≤sizeLine):ixD (.str a) (.int k)=.ok (yj c):=by
 show(match atI a.cps.toList k with|some c=>if a.length≤sizeLine then Rs.ok (D.str ⟨#[c]⟩) else .no|none=>.no)=_
 rw[h]
 exact if_pos hz
theorem XJ{α:Type}{xs:List α}{a:α}(h0:0≤k)(h:xs[k.toNat]?=some a):atI xs k=some a:=by
 have:=YH (j:=k.toNat) h
 rwa [Int.toNat_of_nonneg h0] at this
@[simp] theorem ul{b:Bool}:ZE (.bl b)=.ok b:=rfl
theorem Gz{a:Str}(h:a.length≤sizeLine):ZE (.str a)=.ok ((a.length:Int) != 0):=if_pos h
theorem yv{b:FS}{ds:List D}:wo n b ds=Zr (b (yg n ds)):=rfl
end
theorem Xz(l:List PyData):PyData.eqvAll l []=l.isEmpty:=by cases l <;> simp[PyData.eqvAll]
theorem LF(ns:List Int):okD (.scr ns)=true:=by
 have c:∀l:List Int,PyData.canLayAll0 (l.map PyData.int)=true:=fun l=>by
  induction l with
  |nil=>rfl
  |cons a r ih=>simp[PyData.canLayAll0,PyData.canLay0,ih]
 have d:∀l:List Int,PyData.depthAll (l.map PyData.int)=0:=fun l=>by
  induction l with
  |nil=>rfl
  |cons a r ih=>simp[PyData.depthAll,PyData.depth,ih]
 simp[okD,xf,yG,PyData.canLay0,PyData.depth,c,d]
theorem Ux(ns:List Int):eqD (.scr ns) (.lst [])=.ok (.bl ns.isEmpty):=by
 have o2:okD (.lst [])=true:=by decide
 have:wO (.scr ns) (.lst [])=ns.isEmpty:=by
  simp only[wO,yG,toPys,PyData.eqv,Xz]
  cases ns <;> rfl
 simp only[eqD,LF,o2,this,and_self,if_true]
end FD
set_option Elab.async false
set_option linter.all false
set_option maxRecDepth 100000
namespace Law
open PySem PySem.Spec PyProof.Rows L2 FD
noncomputable def Yl:FS:=(zA (sIf (tB (eOp eqD (ze 0) (xP zi))) (yx (eOp xY (eC (.int 7)) (ze 1))) zS)
  (yx (eOp zN (eOp ixD (ze 0) (eOp uX (ze 1) (ya yA (za (ze 0) zi)))) (eOp xY (eC (.int 6553)) (eOp xW (ze 1) (ya yA (za (ze 0) zi)))))))
noncomputable def wL(ds:List D):Rs D:=wo 2 Yl ds
noncomputable def Zz:FS:=(zA (zU 3 (eOp uX (eOp zN (eOp xY (eOp uX (zB wL (za (ze 0) (za (ze 1) zi))) (eC (.int 2147483563))) (eC (.int 69069))) (eOp xY (eC (.int 104723)) (eOp zN (ze 1) (eC (.int 1))))) (eC (.int 2147483563))))
  (zA (zU 3 (eOp uX (eOp zN (eOp xY (ze 3) (ze 3)) (eOp xW (ze 3) (eC (.int 3)))) (eC (.int 2147483399))))
  (yx (eOp uX (eOp xW (eOp uX (eOp zN (eOp xY (ze 3) (ze 3)) (eOp xW (ze 3) (eC (.int 7)))) (eC (.int 2147483647))) (eC (.int 11))) (ze 2)))))
noncomputable def zx(ds:List D):Rs D:=wo 4 Zz ds
noncomputable def Yj:FS:=(zA (zU 2 (eC (.str "")))
  (zA (uu (vJ (za (eOp zN (eC (.int 1)) (zB zx (za (ze 0) (za (ze 1) (za (eC (.int 10)) zi))))) zi)) (gNm 3) (zU 2 (eOp zN (ze 2) (eOp ixD (eC (.str "abcabABCab1_-./xyz")) (zB zx (za (ze 0) (za (eOp zN (eOp zN (ze 1) (eC (.int 1))) (ze 3)) (za (eC (.int 18)) zi))))))))
  (yx (ze 2))))
noncomputable def xE(ds:List D):Rs D:=wo 4 Yj ds
noncomputable def uL:FS:=(zA (uQ 3 (wv 1 [0,1] (vJ (za (zB zx (za (ze 0) (za (ze 1) (za (eOp zN (ze 2) (eC (.int 1))) zi)))) zi)) (gNm 0) (fun _=>.ok true) (zB xE (za (ze 1) (za (eOp zN (eOp zN (ze 2) (eC (.int 1))) (eOp xY (eC (.int 12)) (ze 0))) zi)))))
  (zA (sIf (wZ (tB (eOp gtD (Uz 3) (eC (.int 1)))) (tB (eOp eqD (zB zx (za (ze 0) (za (eOp zN (ze 1) (eC (.int 12))) (za (eC (.int 5)) zi)))) (eC (.int 0))))) (QE 3 (eC (.int 0)) (Gf 3 (wy (eC (.int 1))))) zS)
  (u0 3)))
noncomputable def xO(ds:List D):Rs D:=wo 4 uL ds
noncomputable def j3:FS:=(yx (XC [0] (ze 1) (xS (za (wy (eOp ixD (ze 0) (eC (.int 0)))) (za (ya yA (za (eOp ixD (ze 1) (eOp ixD (ze 0) (eC (.int 1)))) zi)) (za (eOp ixD (ze 0) (eC (.int 1))) zi))))))
noncomputable def wb(ds:List D):Rs D:=wo 2 j3 ds
noncomputable def uJ:FS:=(yx (eSl (zB wb (za (ze 0) (za (ze 1) zi))) JR (w5 (ya ud (za (ze 2) (za (eC (.int 0)) zi))))))
noncomputable def xn(ds:List D):Rs D:=wo 3 uJ ds
noncomputable def vH:FS:=(zA (sIf (tB (eOp eqD (ze 1) (eC (.int 0)))) (yx (eC (.int 8))) zS)
  (zA (zU 2 (eOp ixD (ze 0) (eOp jE (ze 1) (eC (.int 1)))))
  (zA (sIf (tB (eOp inD (ze 2) (eC (.str "_-./")))) (yx (eC (.int 6))) zS)
  (zA (sIf (wZ (tB (eOp inD (eOp ixD (ze 0) (ze 1)) (eC (.str "ABCDEFGHIJKLMNOPQRSTUVWXYZ")))) (jD (tB (eOp inD (ze 2) (eC (.str "abcdefghijklmnopqrstuvwxyz")))) (tB (eOp inD (ze 2) (eC (.str "0123456789")))))) (yx (eC (.int 5))) zS)
  (yx (eC (.int 0)))))))
noncomputable def yH(ds:List D):Rs D:=wo 3 vH ds
noncomputable def Zx:FS:=(zA (zU 3 (eIf (tB (eOp eqD (eOp ixD (ze 1) (ze 2)) (ze 0))) (eC (.int 1)) (eC (.int 0))))
  (yx (eOp zN (eOp zN (eC (.int 10)) (zB yH (za (ze 1) (za (ze 2) zi)))) (ze 3))))
noncomputable def yE(ds:List D):Rs D:=wo 4 Zx ds
noncomputable def Qq:FS:=(yx (eOr (eOp eqD (ze 0) (ze 1)) (Ji (eOp inD (ze 0) (eC (.str "abcdefghijklmnopqrstuvwxyz"))) (eOp eqD (Jh "str" upD (ze 0)) (ze 1)))))
noncomputable def wV(ds:List D):Rs D:=wo 2 Qq ds
noncomputable def vW:FS:=(yx (fun τ=>((wv 1 [0,1] (vJ (za (ya yA (za (ze 1) zi)) zi)) (gNm 0) (jC (zB wV (za (ze 1) (za (eOp ixD (ze 2) (ze 0)) zi)))) (xS (za (zB yE (za (ze 1) (za (ze 2) (za (ze 0) zi)))) (za (xP (za (ze 0) zi)) zi)))) τ).bind fun ds=>.ok (.lst ds)))
noncomputable def yq(ds:List D):Rs D:=wo 2 vW ds
noncomputable def uV:FS:=(zA (zU 1 (eC .non))
  (zA (uu (wN (ze 0)) (gNm 2) (sIf (jD (tB (eOp isD (ze 1) (eC .non))) (tB (eOp gtD (eOp ixD (ze 2) (eC (.int 0))) (eOp ixD (ze 1) (eC (.int 0)))))) (zU 1 (ze 2)) zS))
  (yx (ze 1))))
noncomputable def z8(ds:List D):Rs D:=wo 3 uV ds
noncomputable def jM:FS:=(zA (zU 2 (eOp jE (eOp jE (ze 1) (ze 0)) (eC (.int 1))))
  (zA (sIf (tB (eOp eqD (ze 2) (eC (.int 0)))) (yx (eC (.int 7))) zS)
  (yx (wy (ya uT (za (ze 2) (za (eC (.int 5)) zi)))))))
noncomputable def xz(ds:List D):Rs D:=wo 3 jM ds
noncomputable def je:FS:=(yx (fun τ=>((wv 1 [0] (wN (ze 1)) (gNm 0) (tB (eOp gtD (eOp ixD (eOp ixD (ze 0) (eC (.int 1))) (eC (.int 0))) (ze 1))) (xS (za (eOp zN (eOp ixD (ze 0) (eC (.int 0))) (zB xz (za (ze 1) (za (eOp ixD (eOp ixD (ze 0) (eC (.int 1))) (eC (.int 0))) zi)))) (za (eOp ixD (ze 0) (eC (.int 1))) zi)))) τ).bind fun ds=>.ok (.lst ds)))
noncomputable def yM(ds:List D):Rs D:=wo 2 je ds
noncomputable def vF:FS:=(zA (uQ 3 (fun τ=>(zi τ).bind fun ds=>if ds.length≤sizeLine then .ok ds else .no))
  (zA (uu (vJ (za (ya yA (za (ze 1) zi)) zi)) (gNm 4) (sIf (jC (zB wV (za (ze 0) (za (eOp ixD (ze 1) (ze 4)) zi)))) (zA (zU 5 (zB z8 (za (zB yM (za (ze 4) (za (ze 2) zi))) zi)))
  (sIf (tB (eOp we (ze 5) (eC .non))) (VL 3 (xS (za (eOp zN (zB yE (za (ze 0) (za (ze 1) (za (ze 4) zi)))) (eOp ixD (ze 5) (eC (.int 0)))) (za (eOp zN (xP (za (ze 4) zi)) (eOp ixD (ze 5) (eC (.int 1)))) zi)))) zS)) zS))
  (u0 3)))
noncomputable def xg(ds:List D):Rs D:=wo 6 vF ds
noncomputable def jN:FS:=(yx (wy (ya uT (za (ze 0) (za (eC (.int 3)) zi)))))
noncomputable def y3(ds:List D):Rs D:=wo 1 jN ds
noncomputable def Jk:FS:=(zA (sIf (tB (eOp eqD (ya yA (za (ze 0) zi)) (eC (.int 0)))) (yx (xS (za (eC (.int 0)) (za (xP zi) zi)))) zS)
  (zA (zU 2 (zB yq (za (eOp ixD (ze 0) (wy (eC (.int 1)))) (za (ze 1) zi))))
  (zA (uu (Q9 (za (eOp jE (ya yA (za (ze 0) zi)) (eC (.int 2))) (za (wy (eC (.int 1))) (za (wy (eC (.int 1))) zi)))) (gNm 3) (zU 2 (zB xg (za (eOp ixD (ze 0) (ze 3)) (za (ze 1) (za (ze 2) zi))))))
  (yx (zB z8 (za (fun τ=>((wv 1 [] (wN (ze 2)) (gNm 0) (fun _=>.ok true) (xS (za (eOp zN (eOp ixD (ze 0) (eC (.int 0))) (zB y3 (za (eOp ixD (eOp ixD (ze 0) (eC (.int 1))) (eC (.int 0))) zi))) (za (eOp ixD (ze 0) (eC (.int 1))) zi)))) τ).bind fun ds=>.ok (.lst ds)) zi))))))
noncomputable def vZ(ds:List D):Rs D:=wo 4 Jk ds
noncomputable def vG:FS:=(zA (uQ 3 (fun τ=>(zi τ).bind fun ds=>if ds.length≤sizeLine then .ok ds else .no))
  (zA (uu (wN (ze 2)) (gNm 4) (zA (zU 5 (zB vZ (za (ze 1) (za (eOp ixD (ze 0) (ze 4)) zi))))
  (sIf (tB (eOp we (ze 5) (eC .non))) (VL 3 (xS (za (eOp ixD (ze 5) (eC (.int 0))) (za (ze 4) zi)))) zS)))
  (u0 3)))
noncomputable def yN(ds:List D):Rs D:=wo 6 vG ds
noncomputable def j4:FS:=(yx (zB yN (za (ze 0) (za (ze 1) (za (fun τ=>((Ud (vJ (za (ya yA (za (ze 0) zi)) zi))) τ).bind fun ds=>.ok (.lst ds)) zi)))))
noncomputable def wc(ds:List D):Rs D:=wo 2 j4 ds
noncomputable def Vq:FS:=(yx (zB xn (za (ze 0) (za (zB wc (za (ze 0) (za (ze 1) zi))) (za (ze 2) zi)))))
noncomputable def yF(ds:List D):Rs D:=wo 3 Vq ds
noncomputable def vg:FS:=(zA (sAt 0 "Pager" "names" (ya MJ (za (ze 1) zi)))
  (zA (sAt 0 "Pager" "size" (ya ud (za (ze 2) (za (eC (.int 1)) zi))))
  (zA (sAt 0 "Pager" "rows" (zB yF (za (eAt 0 "Pager" "names") (za (eC (.str "")) (za (ya yA (za (eAt 0 "Pager" "names") zi)) zi)))))
  (sAt 0 "Pager" "place" (eC (.int 0))))))
noncomputable def z9(fs:Fs)(ds:List D):Rs (D×Fs):=YQ 3 0 "Pager" vg fs ds
noncomputable def uN:FS:=(zA (zU 1 (eOp xY (eOp xW (eAt 0 "Pager" "place") (eAt 0 "Pager" "size")) (eAt 0 "Pager" "size")))
  (JA (wv 2 [] (wN (eSl (eAt 0 "Pager" "rows") (w5 (ze 1)) (w5 (eOp zN (ze 1) (eAt 0 "Pager" "size"))))) (gPr 0 1) (fun _=>.ok true) (xS (za (ze 0) (za (ze 1) zi))))))
noncomputable def yK(fs:Fs)(ds:List D):Rs (List D):=VN 2 0 "Pager" uN fs ds
noncomputable def yd(fs:Fs)(ds:List D):Rs D:=frD yK fs ds
noncomputable def v6:FS:=(yx (eOp xW (eOp jE (eOp zN (ya yA (za (eAt 0 "Pager" "rows") zi)) (eAt 0 "Pager" "size")) (eC (.int 1))) (eAt 0 "Pager" "size")))
noncomputable def yt(fs:Fs)(ds:List D):Rs D:=XS 1 0 "Pager" v6 fs ds
noncomputable def uM:FS:=(zA (wF (zU 2 (eOp zN (eOp xW (eAt 0 "Pager" "place") (eAt 0 "Pager" "size")) (ze 1))))
  (zA (sIf (jD (tB (eOp ltI (ze 2) (eC (.int 0)))) (tB (eOp geD (ze 2) (yO 0 "Pager" "pages" yt zi)))) (ZH "NoNumber") zS)
  (wF (zA (sAt 0 "Pager" "place" (eOp xY (ze 2) (eAt 0 "Pager" "size")))
  (uR (yO 0 "Pager" "page" yd zi))))))
noncomputable def y0(fs:Fs)(ds:List D):RsM:=Z6 3 0 "Pager" uM fs ds
noncomputable def vj:FS:=(zA (sIf (tB (eOp eqD (ya yA (za (eAt 0 "Pager" "rows") zi)) (eC (.int 0)))) (yx (eC .non)) zS)
  (zA (zU 1 (eOp ixD (eAt 0 "Pager" "rows") (eAt 0 "Pager" "place")))
  (yx (xS (za (eOp ixD (ze 1) (eC (.int 0))) (za (eOp ixD (ze 1) (eC (.int 1))) zi))))))
noncomputable def zX(fs:Fs)(ds:List D):Rs D:=XS 2 0 "Pager" vj fs ds
noncomputable def jh:FS:=(zA (zU 2 (yO 0 "Pager" "pointed" zX zi))
  (zA (sAt 0 "Pager" "rows" (zB yF (za (eAt 0 "Pager" "names") (za (ze 1) (za (ya yA (za (eAt 0 "Pager" "names") zi)) zi)))))
  (zA (sAt 0 "Pager" "place" (eC (.int 0)))
  (uu (iEn (za (eAt 0 "Pager" "rows") zi)) (gPr 3 4) (sIf (wZ (tB (eOp we (ze 2) (eC .non))) (tB (eOp eqD (eOp ixD (ze 4) (eC (.int 1))) (eOp ixD (ze 2) (eC (.int 1)))))) (sAt 0 "Pager" "place" (ze 3)) zS)))))
noncomputable def y4(fs:Fs)(ds:List D):Rs (D×Fs):=YQ 5 0 "Pager" jh fs ds
noncomputable def uO:FS:=(zA (sIf (tB (eOp eqD (ya yA (za (eAt 0 "Pager" "rows") zi)) (eC (.int 0)))) (ZH "NoNumber") zS)
  (wF (zA (sAt 0 "Pager" "place" (eOp uX (eOp zN (eAt 0 "Pager" "place") (ze 1)) (ya yA (za (eAt 0 "Pager" "rows") zi))))
  (uR (yO 0 "Pager" "pointed" zX zi)))))
noncomputable def yJ(fs:Fs)(ds:List D):RsM:=Z6 2 0 "Pager" uO fs ds
noncomputable def jf:FS:=(Zb (zA (sIf (tB (eOp eqD (ze 1) (eC (.int 0)))) (ww (xOf (Zl 0 "Pager" "ask" y4 (za (ze 2) zi)))) zS)
  (zA (sIf (tB (eOp eqD (ze 1) (eC (.int 1)))) (ww (wU 0 "Pager" "move" yJ (za (ze 2) zi))) zS)
  (ww (wU 0 "Pager" "turn" y0 (za (ze 2) zi))))) (fun c=>c == "NoNumber") 3 (zA (zU 4 (xP (za (j1 [("NoNumber", true)] (ze 3)) (za (j1 [("NoNumber", false)] (ze 3)) (za (j1 [("NoNumber", false)] (ze 3)) zi)))))
  (uR (Ji (j1 [("NoNumber", true)] (ze 3)) (eOp eqD (ze 4) (xP (za (eC (.bl true)) (za (eC (.bl false)) (za (eC (.bl false)) zi)))))))))
noncomputable def zK(fs:Fs)(ds:List D):Rs (D×Fs):=YQ 5 0 "Pager" jf fs ds
noncomputable def jg:FS:=(yx (fun τ=>((wv 2 [2,1] (iEn (za (ze 0) zi)) (gPr 0 1) (tB (eOp eqD (eOp xW (ze 0) (ze 2)) (eOp xW (ze 3) (ze 2)))) (ze 1)) τ).bind fun ds=>.ok (.lst ds)))
noncomputable def yr(ds:List D):Rs D:=wo 3 jg ds
noncomputable def uK:FS:=(zA (zU 0 (xP (za (eC (.str "a")) (za (eC (.str "ab")) (za (eC (.str "ba")) (za (eC (.str "xa")) (za (eC (.str "aa")) zi)))))))
  (zA (jI 1 "Pager" z9 (za (ze 0) (za (eC (.int 2)) zi)))
  (zA (YO (Zl 1 "Pager" "ask" y4 (za (eC (.str "a")) zi)))
  (zA (zU 2 (zB yF (za (ze 0) (za (eC (.str "a")) (za (eC (.int 99)) zi)))))
  (zA (ZI (oB (oOp neD (Ya 1 [1] 1 1 "Pager" (wN (xS (za (eC (.int 1)) (za (eC (.int 2)) (za (wy (eC (.int 4))) (za (eC (.int 7)) zi)))))) (gNm 0) (vQ 1 "Pager" zK zi (za (eC (.int 1)) (za (ze 0) zi)))) (xP (za (eOp ixD (ze 2) (eC (.int 1))) (za (eOp ixD (ze 2) (eC (.int 3))) (za (eOp ixD (ze 2) (eC (.int 4))) (za (eOp ixD (ze 2) (eC (.int 1))) zi))))))) (yx (eC (.bl false))) zS)
  (zA (VI 3 (Ya 1 [1] 1 1 "Pager" (wN (xS (za (eC (.int 2)) (za (wy (eC (.int 2))) (za (eC (.int 0)) (za (eC (.int 1)) (za (wy (eC (.int 1))) zi))))))) (gNm 0) (vQ 1 "Pager" zK zi (za (eC (.int 2)) (za (ze 0) zi)))))
  (zA (zU 4 fun τ=>((wv 1 [2] (wN (xS (za (eC (.int 4)) (za (eC (.int 0)) (za (eC (.int 0)) (za (eC (.int 2)) (za (eC (.int 0)) zi))))))) (gNm 0) (fun _=>.ok true) (zB yr (za (ze 1) (za (ze 0) (za (eC (.int 2)) zi))))) τ).bind fun ds=>.ok (.lst ds))
  (Wl (V8 (oOf (eOp eqD (ze 3) (ze 4))) (oOp eqD (Ya 1 [1] 1 1 "Pager" (wN (xS (za (wy (eC (.int 1))) (za (eC (.int 3)) zi)))) (gNm 0) (vQ 1 "Pager" zK zi (za (eC (.int 2)) (za (ze 0) zi)))) (xP (za (eC (.bl true)) (za (eC (.bl true)) zi)))))))))))))
noncomputable def xq(ds:List D):Rs D:=wo 5 uK ds
noncomputable def v5:FS:=(zA (zU 4 (eOp zN (eOp xW (ya yA (za (ze 1) zi)) (ze 3)) (ya intD (za (eOp gtD (eOp uX (ya yA (za (ze 1) zi)) (ze 3)) (eC (.int 0))) zi))))
  (zA (zU 5 (eOp ixD (eOp zN (ze 1) (xP (za (eC .non) zi))) (ze 2)))
  (zA (sIf (jD (tB (eOp neD (yO 0 "Pager" "pointed" zX zi) (ze 5))) (jD (tB (eOp neD (yO 0 "Pager" "page" yd zi) (zB yr (za (ze 1) (za (ze 2) (za (ze 3) zi)))))) (tB (eOp neD (yO 0 "Pager" "pages" yt zi) (ze 4))))) (yx (eC (.bl false))) zS)
  (zA (VJ 0 "Pager" "page" yK (eC .non))
  (yx (eOp eqD (yO 0 "Pager" "page" yd zi) (zB yr (za (ze 1) (za (ze 2) (za (ze 3) zi))))))))))
noncomputable def yC(fs:Fs)(ds:List D):Rs D:=XS 6 0 "Pager" v5 fs ds
noncomputable def Yk:FS:=(yx (eOp inD (ze 0) (eC (.str "_-./"))))
noncomputable def xF(ds:List D):Rs D:=wo 1 Yk ds
noncomputable def Zy:FS:=(zA (zU 4 (eC (.str "")))
  (zA (zU 5 (eC (.int 0)))
  (zA (uu (vJ (za (zB zx (za (ze 0) (za (ze 1) (za (eOp zN (ze 3) (eC (.int 1))) zi)))) zi)) (gNm 6) (zA (zU 5 (ya uT (za (eOp jE (ya yA (za (ze 2) zi)) (eC (.int 1))) (za (eOp zN (ze 5) (zB zx (za (ze 0) (za (eOp zN (eOp zN (ze 1) (eC (.int 1))) (eOp xY (eC (.int 3)) (ze 6))) (za (eC (.int 3)) zi))))) zi))))
  (zA (zU 7 (Jh "str" loD (eOr (eSl (ze 2) (w5 (ze 5)) (w5 (eOp zN (ze 5) (eC (.int 1))))) (eC (.str "a")))))
  (zA (zU 5 (eOp zN (ze 5) (eC (.int 1))))
  (zA (sIf (tB (eOp eqD (zB zx (za (ze 0) (za (eOp zN (eOp zN (ze 1) (eC (.int 2))) (eOp xY (eC (.int 3)) (ze 6))) (za (eC (.int 5)) zi)))) (eC (.int 0)))) (zU 7 (eOp ixD (eC (.str "abAB1c")) (zB zx (za (ze 0) (za (eOp zN (eOp zN (ze 1) (eC (.int 3))) (eOp xY (eC (.int 3)) (ze 6))) (za (eC (.int 6)) zi)))))) zS)
  (sIf (uY (jC (zB xF (za (ze 7) zi)))) (zU 4 (eOp zN (ze 4) (ze 7))) zS))))))
  (yx (ze 4)))))
noncomputable def xN(ds:List D):Rs D:=wo 8 Zy ds
noncomputable def Tr:FS:=(zA (zU 1 (zB xO (za (ze 0) (za (eC (.int 0)) (za (eC (.int 5)) zi)))))
  (zA (zU 2 (eOp zN (eC (.int 1)) (zB zx (za (ze 0) (za (eC (.int 78)) (za (eC (.int 3)) zi))))))
  (zA (jI 3 "Pager" z9 (za (ze 1) (za (ze 2) zi)))
  (zA (jI 4 "Pager" z9 (za (ze 1) (za (ze 2) zi)))
  (zA (zU 5 (zB yF (za (ze 1) (za (eC (.str "")) (za (eC (.int 99)) zi)))))
  (zA (zU 6 (eC (.int 0)))
  (zA (uu (vJ (za (ya ud (za (eC (.int 1)) (za (ya uT (za (eC (.int 6)) (za (ya yA (za (ze 0) zi)) zi))) zi))) zi)) (gNm 7) (zA (sIf (uY (jC (Zv 3 "Pager" yC zi (za (ze 5) (za (ze 6) (za (ze 2) zi)))))) (yx (eC (.bl false))) zS)
  (zA (zU 8 (zB zx (za (ze 0) (za (eOp zN (eC (.int 80)) (eOp xY (eC (.int 30)) (ze 7))) (za (eC (.int 3)) zi)))))
  (zA (zU 9 (eOp jE (zB zx (za (ze 0) (za (eOp zN (eC (.int 81)) (eOp xY (eC (.int 30)) (ze 7))) (za (eC (.int 9)) zi)))) (eC (.int 4))))
  (sIf (tB (eOp eqD (ze 8) (eC (.int 0)))) (zA (zU 10 (eOp zN (ze 1) (xP (za (eC (.str "abc")) zi))))
  (zA (zU 11 (zB xN (za (ze 0) (za (eOp zN (eC (.int 83)) (eOp xY (eC (.int 30)) (ze 7))) (za (eOp ixD (ze 10) (zB zx (za (ze 0) (za (eOp zN (eC (.int 82)) (eOp xY (eC (.int 30)) (ze 7))) (za (ya yA (za (ze 10) zi)) zi))))) (za (eC (.int 2)) zi))))))
  (zA (zU 12 (eOp ixD (eOp zN (ze 5) (xP (za (eC .non) zi))) (ze 6)))
  (zA (zU 5 (zB yF (za (ze 1) (za (ze 11) (za (eC (.int 99)) zi)))))
  (zA (zU 13 fun τ=>((wv 1 [] (wN (ze 5)) (gNm 0) (fun _=>.ok true) (eOp ixD (ze 0) (eC (.int 1)))) τ).bind fun ds=>.ok (.lst ds))
  (zA (zU 6 (eC (.int 0)))
  (zA (sIf (wZ (tB (eOp we (ze 12) (eC .non))) (tB (eOp inD (eOp ixD (ze 12) (eC (.int 1))) (ze 13)))) (zU 6 (eMt "list" Uk (ze 13) (za (eOp ixD (ze 12) (eC (.int 1))) zi))) zS)
  (ZI (oB (oOp we (vQ 3 "Pager" zK zi (za (eC (.int 0)) (za (ze 11) zi))) (eC .non))) (yx (eC (.bl false))) zS)))))))) (sIf (wZ (tB (eOp eqD (ze 8) (eC (.int 1)))) (tB (eOp neD (ze 5) (xP zi)))) (zA (zU 6 (eOp uX (eOp zN (ze 6) (ze 9)) (ya yA (za (ze 5) zi))))
  (ZI (oB (oOp neD (vQ 3 "Pager" zK zi (za (eC (.int 1)) (za (ze 9) zi))) (eOp ixD (ze 5) (ze 6)))) (yx (eC (.bl false))) zS)) (sIf (wZ (tB (eOp eqD (ze 8) (eC (.int 2)))) (tB (j2 leD ltI (eC (.int 0)) (eOp xY (eOp zN (eOp xW (ze 6) (ze 2)) (ze 9)) (ze 2)) (ya yA (za (ze 5) zi))))) (zA (zU 6 (eOp xY (eOp zN (eOp xW (ze 6) (ze 2)) (ze 9)) (ze 2)))
  (ZI (oB (oOp neD (vQ 3 "Pager" zK zi (za (eC (.int 2)) (za (ze 9) zi))) (zB yr (za (ze 5) (za (ze 6) (za (ze 2) zi)))))) (yx (eC (.bl false))) zS)) (ZI (oB (oOp YC (vQ 3 "Pager" zK zi (za (ze 8) (za (ze 9) zi))) (eC (.bl true)))) (yx (eC (.bl false))) zS))))))))
  (zA (sIf (uY (jC (zB xq zi))) (yx (eC (.bl false))) zS)
  (yx (Ji (Zv 3 "Pager" yC zi (za (ze 5) (za (ze 6) (za (ze 2) zi)))) (Zv 4 "Pager" yC zi (za (zB yF (za (ze 1) (za (eC (.str "")) (za (eC (.int 99)) zi)))) (za (eC (.int 0)) (za (ze 2) zi))))))))))))))
noncomputable def JY(ds:List D):Rs D:=wo 14 Tr ds
noncomputable def Yi(ns:List Int)(k:Int):Int:=if ns=[] then 7*k else ns.getD (k%ns.length).toNat 0+6553*(k / ns.length)
theorem zZ:sizeLine=16777216:=sizeLine_eq
theorem zb3(ns:List Int)(k:Int)(h63:ns.length≤63)(h0:0≤k):wL [.scr ns,.int k]=.ok (.int (Yi ns k)):=by
 have st:yg 2 [D.scr ns,.int k]=[some (.val (.scr ns)),some (.val (.int k))]:=rfl
 unfold wL Yl
 rw[yv,st]
 simp only[zV,yT,wI,yB,zW,Vl,zD,getElem?_cons_zero,zM,Rs.bind_ok,List.length_nil,zero_le,if_true,Ux,yi,Fl.of_ok]
 rcases ns with _|⟨a,r⟩
 ·simp only[List.isEmpty_nil,if_true,yf,yB,yQ,zW,getElem?_cons_zero,getElem?_cons_succ,zM,Rs.bind_ok,wH (i:=7) (j:=k) (.inl ⟨by decide,by decide⟩),Fl.of_ok,jO,yb,Yi]
 ·have hl:(0:Int)<((a::r).length:Int):=by simp only[length_cons];lia
  have hm0:=emod_nonneg k (show((a::r).length:Int)≠0 by lia)
  have hm1:=emod_lt_of_pos k hl
  have hat:atI (a::r) (k%((a::r).length:Int))=some ((a::r).getD (k%((a::r).length:Int)).toNat 0):=by
   refine XJ hm0 ?_
   have:(k%((a::r).length:Int)).toNat<(a::r).length:=by lia
   rw[getD_eq_getElem?_getD,getElem?_eq_getElem this];rfl
  have hdv:xW (.int k) (.int ((a::r).length:Int))=.ok (.int (k / ((a::r).length:Int))):=wW ⟨hl,by lia⟩
  have hmd:uX (.int k) (.int ((a::r).length:Int))=.ok (.int (k%((a::r).length:Int))):=jb hl
  have hml:=wH (i:=6553) (j:=k / ((a::r).length:Int)) (.inl ⟨by decide,by decide⟩)
  simp only[List.isEmpty_cons,Bool.false_eq_true,if_false,ym,yz,yf,yB,yQ,zW,jB,zE,zD,getElem?_cons_zero,getElem?_cons_succ,zM,Rs.bind_ok,MM,hmd,hdv,hml,L5 hat,yI,Fl.of_ok,yb]
  simp[Yi]
noncomputable def d1(ns:List Int)(k:Int):Int:=(Yi ns k%2147483563*69069+104723*(k+1))%2147483563
noncomputable def d2(ns:List Int)(k:Int):Int:=(d1 ns k*d1 ns k+d1 ns k / 3)%2147483399
noncomputable def xX(ns:List Int)(k m:Int):Int:=(d2 ns k*d2 ns k+d2 ns k / 7)%2147483647 / 11%m
theorem wD(ns:List Int)(k m:Int)(h63:ns.length≤63)(h0:0≤k)(hk:k<1000000)(hm:0<m):zx [.scr ns,.int k,.int m]=.ok (.int (xX ns k m)):=by
 have st:yg 4 [D.scr ns,.int k,.int m]=[some (.val (.scr ns)),some (.val (.int k)),some (.val (.int m)),none]:=rfl
 have b1:0≤d1 ns k∧d1 ns k<2147483563:=⟨emod_nonneg _ (by decide),emod_lt_of_pos _ (by decide)⟩
 have b2:0≤d2 ns k∧d2 ns k<2147483399:=⟨emod_nonneg _ (by decide),emod_lt_of_pos _ (by decide)⟩
 have c0:=emod_lt_of_pos (Yi ns k) (show(0:Int)<2147483563 by decide)
 have c1:=emod_nonneg (Yi ns k) (show(2147483563:Int)≠0 by decide)
 have q1:=wH (i:=Yi ns k%2147483563) (j:=69069) (.inr ⟨by decide,by decide⟩)
 have q2:=wH (i:=104723) (j:=k+1) (.inl ⟨by decide,by decide⟩)
 have q3:=wH (i:=d1 ns k) (j:=d1 ns k) (.inl ⟨by lia,by lia⟩)
 have q4:=wH (i:=d2 ns k) (j:=d2 ns k) (.inl ⟨by lia,by lia⟩)
 have e1:(Yi ns k%2147483563*69069+104723*(k+1))%2147483563=d1 ns k:=rfl
 have e2:(d1 ns k*d1 ns k+d1 ns k / 3)%2147483399=d2 ns k:=rfl
 have m1:=fun i=>jb (i:=i) (j:=2147483563) (by decide)
 have m2:=fun i=>jb (i:=i) (j:=2147483399) (by decide)
 have m3:=fun i=>jb (i:=i) (j:=2147483647) (by decide)
 have m4:=fun i=>jb (i:=i) (j:=m) hm
 have f3:=fun i=>wW (i:=i) (j:=3) ⟨by decide,by decide⟩
 have f7:=fun i=>wW (i:=i) (j:=7) ⟨by decide,by decide⟩
 have f11:=fun i=>wW (i:=i) (j:=11) ⟨by decide,by decide⟩
 unfold zx Zz
 rw[yv,st]
 simp only[zV,ye,yf,yB,zW,yQ,yW,zE,zD,getElem?_cons_zero,getElem?_cons_succ,zM,Rs.bind_ok,zb3 ns k h63 h0,wB,m1,q1,yI,q2,e1,Fl.of_ok,yz,set_cons_succ,set_cons_zero,q3,f3,m2,e2,q4,f7,m3,f11,m4,yb]
 rfl
theorem wX(ns:List Int)(k:Int){m:Int}(hm:0<m):0≤xX ns k m∧xX ns k m<m:=⟨emod_nonneg _ (by lia),emod_lt_of_pos _ hm⟩
end Law
set_option Elab.async false
set_option linter.all false
namespace FD
open PySem PySem.Spec PyProof.Rows L2
theorem Wr{set:FG}{body:FS}(f:Nat→D)(S:Nat→DS):∀(m j:Nat),(∀k,j≤k→k<j+m→∃τ1,set (f k) (S k)=.ok τ1∧body τ1=.nx (S (k+1)))→xB set body ((List.range' j m).map f) (S j)=.nx (S (j+m)):=by
 intro l_
 induction l_ with
 |zero=>
  rintro j _
  exact rfl
 |succ m ih_=>
  rintro j h
  refine X11 (h j (le_refl _) (by lia)) fun τ1 h1 h2=>?_
  rw[List.range'_succ,map_cons,xB,h1,Fl.of_ok]
  simp only[h2]
  rw[ih_ (j+1) fun k hk hk2=>h k (by lia) (by lia)]
  congr 2;lia
theorem U7{set:FG}{body:FS}(f:Nat→D)(S:Nat→DS)(n:Nat)(h:∀k,k<n→∃τ1,set (f k) (S k)=.ok τ1∧body τ1=.nx (S (k+1))):xB set body ((List.range n).map f) (S 0)=.nx (S n):=by
 have:=Wr f S n 0 fun k _ hk=>h k (by lia)
 rw[zero_add] at this
 rwa [List.range_eq_range']
theorem UR{fs:FA}{τ:DS}{j:Int}(h:fs τ=.ok [.int j])(h1 : -(2 ^ 62)≤j)(h2:j<2 ^ 62):vJ fs τ=.ok (jR 0 j.toNat):=by
 unfold vJ
 rw[h]
 simp only[Rs.bind_ok,Ja]
 rw[if_pos ⟨h1,h2⟩]
theorem Ju(a:List Nat)(c:Nat):(⟨a.toArray⟩:Str)++(⟨#[c]⟩:Str)=⟨(a++[c]).toArray⟩:=by
 show Str.mk _=_
 simp
theorem Z0{n:Nat}{d:D}{τ:DS}:gNm n d τ=.ok (τ.set n (some (.val d))):=rfl
end FD
namespace Law
open PySem PySem.Spec PyProof.Rows L2 FD
noncomputable def A18:List Nat:=[97,98,99,97,98,65,66,67,97,98,49,95,45,46,47,120,121,122]
noncomputable def Wq(ns:List Int)(a:Int):Nat:=(1+xX ns a 10).toNat
noncomputable def MB(ns:List Int)(a:Int)(k:Nat):Nat:=A18.getD (xX ns (a+1+k) 18).toNat 0
noncomputable def vR(ns:List Int)(a:Int)(n:Nat):List Nat:=(List.range n).map (MB ns a)
theorem a18:("abcabABCab1_-./xyz" : Str).cps.toList=A18:=by decide +kernel
theorem LH(ns:List Int)(a:Int)(h63:ns.length≤63)(h0:0≤a)(ha:a<900000):xE [.scr ns,.int a]=.ok (.str ⟨(vR ns a (Wq ns a)).toArray⟩):=by
 have st:yg 4 [D.scr ns,.int a]=[some (.val (.scr ns)),some (.val (.int a)),none,none]:=rfl
 have dl:=wX ns a (m:=10) (by decide)
 unfold xE Yj
 rw[yv,st,zV,ye,yQ,Fl.of_ok,yz,zV,vK]
 have r1:=UR (fs:=za (eOp zN (eC (.int 1)) (zB zx (za (ze 0) (za (ze 1) (za (eC (.int 10)) zi))))) zi) (τ:=[some (.val (.scr ns)),some (.val (.int a)),some (.val (.str "")),none]) (j:=1+xX ns a 10)
  (by simp only[zE,zD,yB,yQ,yW,zW,getElem?_cons_zero,getElem?_cons_succ,zM,Rs.bind_ok,wD ns a 10 h63 h0 (by lia) (by decide),wB,yI]) (by lia) (by lia)
 simp only[set_cons_succ,set_cons_zero]
 rw[r1,Fl.of_ok]
 let S:Nat→DS:=fun k=>[some (.val (.scr ns)),some (.val (.int a)),some (.val (.str ⟨(vR ns a k).toArray⟩)),if k=0 then none else some (.val (.int ((k:Int)-1)))]
 have s0:S 0=[some (.val (.scr ns)),some (.val (.int a)),some (.val (.str "")),none]:=by
  simp only[S,vR,List.range_zero,map_nil,if_true]
  rfl
 rw[← s0]
 have lp:=U7 (set:=gNm 3) (body:=(zU 2 (eOp zN (ze 2) (eOp ixD (eC (.str "abcabABCab1_-./xyz")) (zB zx (za (ze 0) (za (eOp zN (eOp zN (ze 1) (eC (.int 1))) (ze 3)) (za (eC (.int 18)) zi)))))))) (fun (k:Nat)=>D.int (0+k)) S (1+xX ns a 10).toNat fun k hk=>by
  refine Y11 _ Z0 ?_
  have hk':(k:Int)<20:=by lia
  have dk:=wX ns (a+1+(0+(k:Int))) (m:=18) (by decide)
  have hd:=wD ns (a+1+(0+(k:Int))) 18 h63 (by lia) (by lia) (by decide)
  have hix:=YA (a := "abcabABCab1_-./xyz") (k:=xX ns (a+1+(0+(k:Int))) 18) (c:=A18.getD (xX ns (a+1+(0+(k:Int))) 18).toNat 0) (XJ dk.1 (by
   rw[a18]
   have:(xX ns (a+1+(0+(k:Int))) 18).toNat<A18.length:=by
    have:A18.length=18:=rfl
    lia
   rw[getD_eq_getElem?_getD,getElem?_eq_getElem this];rfl)) (by decide +kernel)
  have hadd:=Tw (a:=⟨(vR ns a k).toArray⟩) (b:=⟨#[A18.getD (xX ns (a+1+(0+(k:Int))) 18).toNat 0]⟩) (by
   show(vR ns a k).toArray.size+1≤sizeLine
   rw[zZ,size_toArray]
   simp only[vR,length_map,length_range];lia)
  simp only[S,set_cons_succ,set_cons_zero,ye,yB,yQ,yW,zE,zD,zW,getElem?_cons_zero,getElem?_cons_succ,zM,Rs.bind_ok,yI,hd,wB,hix,yj,hadd,Fl.of_ok,Ju]
  have e1:vR ns a k++[A18.getD (xX ns (a+1+(0+(k:Int))) 18).toNat 0]=vR ns a (k+1):=by
   simp only[vR,List.range_succ,map_append,map_cons,map_nil,MB,Int.zero_add]
  rw[e1]
  simp
 unfold jR
 rw[lp,yz]
 simp only[S,yf,zW,getElem?_cons_zero,getElem?_cons_succ,zM,Fl.of_ok,yb]
 rfl
end Law
set_option Elab.async false
set_option linter.all false
namespace FD
open PySem PySem.Spec PyProof.Rows L2
theorem Ue{set:FG}{body:FS}(f:Nat→D)(I:Nat→DS→Prop):∀(m j:Nat) (τ:DS),I j τ→(∀k τ,j≤k→k<j+m→I k τ→∃τ1 τ2,set (f k) τ=.ok τ1∧body τ1=.nx τ2∧I (k+1) τ2)→∃τ',xB set body ((List.range' j m).map f) τ=.nx τ'∧I (j+m) τ':=by
 intro l_
 induction l_ with
 |zero=>
  rintro j τ h _
  exact Y11 τ rfl h
 |succ m ih_=>
  rintro j τ h hs
  refine X22 (hs j τ (le_refl _) (by lia) h) fun τ1 τ2 h1 h2 h3=>?_
  refine X11 (ih_ (j+1) τ2 h3 fun k τ hk hk2=>hs k τ (by lia) (by lia)) fun τ' h4 h5=>?_
  refine Y11 τ' ?_ (by rw[show j+(m+1)=j+1+m by lia];exact h5)
  rw[List.range'_succ,map_cons,xB,h1,Fl.of_ok]
  simp only[h2,h4]
theorem ZT{set:FG}{body:FS}(f:Nat→D)(I:Nat→DS→Prop)(n:Nat)(τ:DS)(h0:I 0 τ)(h:∀k τ,k<n→I k τ→∃τ1 τ2,set (f k) τ=.ok τ1∧body τ1=.nx τ2∧I (k+1) τ2):∃τ',xB set body ((List.range n).map f) τ=.nx τ'∧I n τ':=by
 refine X11 (Ue f I n 0 τ h0 fun k τ _ hk hi=>h k τ (by lia) hi) fun τ' h1 h2=>?_
 rw[zero_add] at h2
 exact Y11 τ' (by rw[List.range_eq_range'];exact h1) h2
end FD
namespace Law
open PySem PySem.Spec PyProof.Rows L2 FD
noncomputable def QS:List Nat:=[97,98,99,120,121,122,65,66,49]
noncomputable def MK:List Nat:=[95,45,46,47]
theorem QY:("_-./" : Str).cps.toList=MK:=by decide +kernel
theorem LL(c:Nat):xF [yj c]=.ok (.bl (decide (c∈MK))):=by
 have st:yg 1 [yj c]=[some (.val (yj c))]:=rfl
 unfold xF Yk
 rw[yv,st]
 simp only[yf,yB,zW,yQ,getElem?_cons_zero,zM,Rs.bind_ok,yj,Xt,vb,QY,Fl.of_ok,yb]
theorem GJ(x:List Nat){i j:Int}(h0:0≤i)(h1:i≤j)(h2:j≤x.length):Txt.slice (⟨x.toArray⟩:Str) (some i) (some j)=⟨((x.drop i.toNat).take (j-i).toNat).toArray⟩:=by
 have:=slice_closesL (x:=⟨x.toArray⟩) (i:=i) (j:=j) h0 h1 (by show j≤((x.toArray.size:Nat):Int);simpa using h2)
 exact eq_of_beq this
theorem QB(x:List Nat)(p:Nat)(hp:p<x.length):Txt.slice (⟨x.toArray⟩:Str) (some (p:Int)) (some ((p:Int)+1))=⟨#[x[p]]⟩:=by
 rw[GJ x (by lia) (by lia) (by lia)]
 have e1:((p:Int)+1-(p:Int)).toNat=1:=by lia
 have e2:((p:Int)).toNat=p:=by lia
 rw[e1,e2,drop_eq_getElem_cons hp]
 rfl
theorem Q0(c:Nat)(h:c<128):Txt.lower (⟨#[c]⟩:Str)=⟨#[lo1 c]⟩:=by
 rw[lower_ascii (x:=⟨#[c]⟩) (by intro d hd;have e:d=c:=(by simpa using hd);lia)]
 simp
noncomputable def NS:List Nat:=[97,98,99,65,66,67,49,95,45,46,47,120,121,122]
theorem QX(ns:List Int)(a:Int)(k:Nat)(h:0≤a+1+k):MB ns a k∈NS:=by
 have d:=wX ns (a+1+k) (m:=18) (by decide)
 have hall:∀n,n<18→A18.getD n 0∈NS:=by decide
 exact hall _ (by lia)
noncomputable def S6:List Nat:=[97,98,65,66,49,99]
theorem s6_l:("abAB1c" : Str).cps.toList=S6:=by decide +kernel
theorem J6:∀c∈NS,c<128∧(lo1 c∈QS∨lo1 c∈MK):=by decide
theorem T4:∀n,n<6→S6.getD n 0∈QS:=by decide
set_option maxHeartbeats 1000000
noncomputable def VP:FS:=(zA (zU 5 (ya uT (za (eOp jE (ya yA (za (ze 2) zi)) (eC (.int 1))) (za (eOp zN (ze 5) (zB zx (za (ze 0) (za (eOp zN (eOp zN (ze 1) (eC (.int 1))) (eOp xY (eC (.int 3)) (ze 6))) (za (eC (.int 3)) zi))))) zi))))
  (zA (zU 7 (Jh "str" loD (eOr (eSl (ze 2) (w5 (ze 5)) (w5 (eOp zN (ze 5) (eC (.int 1))))) (eC (.str "a")))))
  (zA (zU 5 (eOp zN (ze 5) (eC (.int 1))))
  (zA (sIf (FD.tB (eOp eqD (zB zx (za (ze 0) (za (eOp zN (eOp zN (ze 1) (eC (.int 2))) (eOp xY (eC (.int 3)) (ze 6))) (za (eC (.int 5)) zi)))) (eC (.int 0)))) (zU 7 (eOp ixD (eC (.str "abAB1c")) (zB zx (za (ze 0) (za (eOp zN (eOp zN (ze 1) (eC (.int 3))) (eOp xY (eC (.int 3)) (ze 6))) (za (eC (.int 6)) zi)))))) zS)
  (sIf (uY (jC (zB xF (za (ze 7) zi)))) (zU 4 (eOp zN (ze 4) (ze 7))) zS)))))
noncomputable def qSt(ns:List Int)(a:Int)(x:List Nat)(most:Int)(q:List Nat)(p:Int)(s1 s2:Option Sl):DS:=
 [some (.val (.scr ns)),some (.val (.int a)),some (.val (.str ⟨x.toArray⟩)),some (.val (.int most)),some (.val (.str ⟨q.toArray⟩)),some (.val (.int p)),s1,s2]
theorem US(ns:List Int)(a:Int)(x:List Nat)(most:Int)(q:List Nat)(p:Int)(k:Nat)(s2:Option Sl)(h63:ns.length≤63)(h0:0≤a)(ha:a<900000)(hk:k<100)(hx0:0<x.length)(hx1:x.length≤100)(hx:∀c∈x,c∈NS)(hq:q.length≤100)(hqs:∀c∈q,c∈QS)(hp:0≤p) :
  ∃q' p' s',VP (qSt ns a x most q p (some (.val (.int (0+k)))) s2)=.nx (qSt ns a x most q' p' (some (.val (.int (0+k)))) s')∧q'.length≤q.length+1∧(∀c∈q',c∈QS)∧0≤p':=by
 have hl:((⟨x.toArray⟩:Str).length:Int)=x.length:=by show((x.toArray.size:Nat):Int)=_;simp
 have hsz:(⟨x.toArray⟩:Str).length≤sizeLine:=by rw[zZ];show x.toArray.size≤_;simp;lia
 have m3:=wH (i:=3) (j:=0+(k:Int)) (.inl ⟨by decide,by decide⟩)
 have g1:=wD ns (a+1+3*(0+(k:Int))) 3 h63 (by lia) (by lia) (by decide)
 have g2:=wD ns (a+2+3*(0+(k:Int))) 5 h63 (by lia) (by lia) (by decide)
 have g3:=wD ns (a+3+3*(0+(k:Int))) 6 h63 (by lia) (by lia) (by decide)
 have b1:=wX ns (a+1+3*(0+(k:Int))) (m:=3) (by decide)
 have b3:=wX ns (a+3+3*(0+(k:Int))) (m:=6) (by decide)
 generalize xX ns (a+1+3*(0+(k:Int))) 3=e1 at *
 generalize xX ns (a+2+3*(0+(k:Int))) 5=e2 at *
 generalize xX ns (a+3+3*(0+(k:Int))) 6=e3 at *
 obtain⟨n,hn,hmin⟩:∃n:Nat,n<x.length∧(if p+e1<(x.length:Int)-1 then p+e1 else (x.length:Int)-1)=(n:Int):=by
  by_cases h:p+e1<(x.length:Int)-1
  ·exact Y11 ((p+e1).toNat) (by lia) (by rw[if_pos h];lia)
  ·exact Y11 (x.length-1) (by lia) (by rw[if_neg h];lia)
 have hmn:uT [.int ((x.length:Int)-1),.int (p+e1)]=.ok (.int n):=by
  simp only[uT,U9];rw[hmin]
 have hsl:slD (.str ⟨x.toArray⟩) (some (n:Int)) (some ((n:Int)+1))=.ok (.str ⟨#[x[n]]⟩):=by
  simp only[slD]
  rw[if_pos hsz,QB x n hn]
 have hxn:=hx x[n] (List.getElem_mem hn)
 have hlo:loD (.str ⟨#[x[n]]⟩) []=.ok (.str ⟨#[lo1 x[n]]⟩):=by
  simp only[loD]
  rw[if_pos (by show 1≤5000000;decide),Q0 _ (J6 _ hxn).1]
 have htr:ZE (.str ⟨#[x[n]]⟩)=.ok true:=by
  rw[Gz (by rw[zZ];show 1≤_;decide)];rfl
 have hix:ixD (.str "abAB1c") (.int e3)=.ok (yj (S6.getD e3.toNat 0)):=YA (XJ b3.1 (by
   rw[s6_l]
   have:e3.toNat<S6.length:=by show e3.toNat<6;lia
   rw[getD_eq_getElem?_getD,getElem?_eq_getElem this];rfl)) (by decide +kernel)
 have key:∀c:Nat,(c∈QS∨c∈MK)→∃q' s',(sIf (uY (jC (zB xF (za (ze 7) zi)))) (zU 4 (eOp zN (ze 4) (ze 7))) zS) (qSt ns a x most q ((n:Int)+1) (some (.val (.int (0+k)))) (some (.val (yj c))))=.nx (qSt ns a x most q' ((n:Int)+1) (some (.val (.int (0+k)))) s')∧q'.length≤q.length+1∧∀c∈q',c∈QS:=fun c hc=>by
  have hadd:=Tw (a:=⟨q.toArray⟩) (b:=⟨#[c]⟩) (by
   show q.toArray.size+1≤sizeLine
   rw[zZ,size_toArray];lia)
  simp only[qSt,yT,TR,j7,yW,zE,zD,zW,getElem?_cons_zero,getElem?_cons_succ,zM,Rs.bind_ok,LL,wB,ul,Fl.of_ok]
  by_cases hm:c∈MK
  ·exact Y22 q (some (.val (yj c))) (by simp only[hm,decide_true,Bool.not_true,Bool.false_eq_true,if_false,ym]) (by lia) hqs
  ·refine Y22 (q++[c]) (some (.val (yj c))) (by simp only[hm,decide_false,Bool.not_false,if_true,ye,yB,zW,getElem?_cons_zero,getElem?_cons_succ,zM,Rs.bind_ok,yj,hadd,Fl.of_ok,set_cons_succ,set_cons_zero,Ju]) (by simp) (fun d hd=>?_)
   rcases mem_append.mp hd with h|h
   ·exact hqs d h
   ·have:d=c:=by simpa using h
    subst this
    exact hc.resolve_right hm
 unfold VP
 simp only[qSt,zV,ye,jB,zE,zD,yB,zW,yQ,yW,getElem?_cons_zero,getElem?_cons_succ,zM,Rs.bind_ok,Uh hsz,hl,vw,yI,m3,g1,wB,hmn,Fl.of_ok,set_cons_succ,set_cons_zero,yz,
  Ql,Tb,Jg,V6,VC,hsl,htr,if_true,Xo,decide_true,hlo,yT,wI,g2,va,yi]
 by_cases hz:e2=0
 ·subst hz
  refine X22 (key (S6.getD e3.toNat 0) (.inl (T4 _ (by lia)))) fun q' s' h1 h2 h3=>?_
  simp only[qSt] at h1
  refine Y33 q' ((n:Int)+1) s' ?_ h2 h3 (by lia)
  simp only[beq_self_eq_true,if_true,g3,wB,Rs.bind_ok,hix,Fl.of_ok,yz]
  exact h1
 ·refine X22 (key (lo1 x[n]) (J6 _ hxn).2) fun q' s' h1 h2 h3=>?_
  simp only[qSt] at h1
  refine Y33 q' ((n:Int)+1) s' ?_ h2 h3 (by lia)
  have hb:(e2==0)=false:=by simpa using hz
  simp only[hb,Bool.false_eq_true,if_false,ym,yz]
  exact h1
theorem GS(ns:List Int)(a:Int)(x:List Nat)(most:Int)(h63:ns.length≤63)(h0:0≤a)(ha:a<900000)(hm0:0≤most)(hm1:most<50)(hx0:0<x.length)(hx1:x.length≤100)(hx:∀c∈x,c∈NS) :
  ∃q:List Nat,(q.length:Int)≤most∧(∀c∈q,c∈QS)∧xN [.scr ns,.int a,.str ⟨x.toArray⟩,.int most]=.ok (.str ⟨q.toArray⟩):=by
 have st:yg 8 [D.scr ns,.int a,.str ⟨x.toArray⟩,.int most]=[some (.val (.scr ns)),some (.val (.int a)),some (.val (.str ⟨x.toArray⟩)),some (.val (.int most)),none,none,none,none]:=rfl
 have dl:=wX ns a (m:=most+1) (by lia)
 have dk:=wD ns a (most+1) h63 h0 (by lia) (by lia)
 generalize hN:xX ns a (most+1)=N at *
 have r1:=UR (fs:=za (zB zx (za (ze 0) (za (ze 1) (za (eOp zN (ze 3) (eC (.int 1))) zi)))) zi) (τ:=qSt ns a x most [] 0 none none) (j:=N)
  (by simp only[qSt,zE,zD,yB,yQ,yW,zW,getElem?_cons_zero,getElem?_cons_succ,zM,Rs.bind_ok,yI,dk,wB]) (by lia) (by lia)
 obtain⟨τ',l1,q,p,s1,s2,rfl,l2,l3,l4⟩:=ZT (set:=gNm 6) (body:=VP) (fun (k:Nat)=>D.int (0+k)) (fun k τ=>∃q p s1 s2,τ=qSt ns a x most q p s1 s2∧q.length≤k∧(∀c∈q,c∈QS)∧0≤p) N.toNat (qSt ns a x most [] 0 none none)
  ⟨[],0,none,none,rfl,le_refl _,(fun _ h=>nomatch h),Int.le_refl _⟩ fun k τ hk z_=>by
   refine X43 z_ fun q p s1 s2 e h1 h2 h3=>?_
   subst e
   refine X33 (US ns a x most q p k s2 h63 h0 ha (by lia) hx0 hx1 hx (by lia) h2 h3) fun q' p' s' g1 g2 g3 g4=>?_
   exact⟨_,_,Z0,g1,q',p',_,s',rfl,by lia,g3,g4⟩
 refine Y12 q (by lia) l3 ?_
 have s0:qSt ns a x most [] 0 none none=[some (.val (.scr ns)),some (.val (.int a)),some (.val (.str ⟨x.toArray⟩)),some (.val (.int most)),some (.val (.str "")),some (.val (.int 0)),none,none]:=rfl
 unfold xN Zy
 rw[yv,st,zV,ye,yQ,Fl.of_ok,yz,zV,ye,yQ,Fl.of_ok,yz,zV,vK]
 simp only[set_cons_succ,set_cons_zero]
 rw[← s0,r1,Fl.of_ok]
 unfold jR
 have l1':xB (gNm 6) VP ((List.range N.toNat).map fun (k:Nat)=>D.int (0+k)) (qSt ns a x most [] 0 none none)=.nx (qSt ns a x most q p s1 s2):=l1
 unfold VP at l1'
 rw[l1',yz]
 simp only[qSt,yf,zW,getElem?_cons_zero,getElem?_cons_succ,zM,Fl.of_ok,yb]
noncomputable def w6(c d:Nat):Bool:=c==d||(decide (97≤c∧c≤122)&&up1 c==d)
theorem T0:("abcdefghijklmnopqrstuvwxyz" : Str).cps.toList=(List.range 26).map (· + 97):=by decide +kernel
theorem jm(c:Nat):decide (c∈("abcdefghijklmnopqrstuvwxyz" : Str).cps.toList)=decide (97≤c∧c≤122):=by
 rw[T0]
 apply decide_eq_decide.mpr
 rw[mem_map]
 constructor
 ·rintro⟨i,hi,rfl⟩
  have:=mem_range.mp hi
  lia
 ·intro h
  exact Y11 (c-97) (mem_range.mpr (by lia)) (by lia)
theorem Qu(c:Nat)(h:c<128):Txt.upper (⟨#[c]⟩:Str)=⟨#[up1 c]⟩:=by
 rw[upper_ascii (x:=⟨#[c]⟩) (by intro d hd;have e:d=c:=(by simpa using hd);lia)]
 simp
theorem U0(c d:Nat):((⟨#[c]⟩:Str)==⟨#[d]⟩)=(c==d):=by
 rw[Bool.eq_iff_iff]
 simp
theorem Uc(c d:Nat)(hc:c<128):wV [yj c,yj d]=.ok (.bl (w6 c d)):=by
 have st:yg 2 [yj c,yj d]=[some (.val (yj c)),some (.val (yj d))]:=rfl
 have hup:upD (.str ⟨#[c]⟩) []=.ok (.str ⟨#[up1 c]⟩):=by
  simp only[upD]
  rw[if_pos (by show 1≤5000000;decide),Qu _ hc]
 unfold wV Qq
 rw[yv,st]
 simp only[yf,Tb,Vm,yB,zW,yQ,Ql,getElem?_cons_zero,getElem?_cons_succ,zM,Rs.bind_ok,yj,Ta,U0,ul,Xt,vb,jm,Xo,decide_true,if_true,hup]
 unfold w6
 by_cases h:c=d
 ·subst h;simp
 ·have hb:(c==d)=false:=by simpa using h
  simp only[hb,Bool.false_eq_true,if_false,Bool.false_or]
  by_cases h2:97≤c∧c≤122
  ·simp[h2]
  ·simp[h2]
end Law
set_option Elab.async false
set_option linter.all false
set_option maxHeartbeats 1000000
namespace FD
open PySem PySem.Spec PyProof.Rows L2
section
variable{τ:DS}{fa fb fe fi:FE}{fs:FA}{n:Nat}{i:Int}
theorem Tc:Uz n τ=(Uv τ[n]?).bind fun ds=>.ok (.int ds.length):=rfl
theorem Zc:VL n fe τ=Fl.of (Uv τ[n]?) fun ds=>Fl.of (fe τ) fun d=>if ds.length<sizeLine then .nx (τ.set n (some (.own (ds++[d])))) else .no:=rfl
theorem Qe:wN fe τ=(fe τ).bind J8:=rfl
@[simp] theorem MV{ds:List D}:J8 (.lst ds)=.ok ds:=rfl
noncomputable def putAt(n:Nat)(ds:List D)(d:D)(τ:DS):D→Fl
 |.int k=>match ixN ds.length k with
  |some j=>.nx (τ.set n (some (.own (ds.set j d))))
  |none=>.no
 |_=>.no
theorem WP:QE n fi fe τ=Fl.of (fe τ) fun d=>Fl.of (Uv τ[n]?) fun ds=>Fl.of (fi τ) (putAt n ds d τ):=by
 unfold QE vP
 cases fe τ <;> rfl
theorem GV{ds:List D}{d:D}{j:Nat}(h:j<ds.length):putAt n ds d τ (.int j)=.nx (τ.set n (some (.own (ds.set j d)))):=by
 have:ixN ds.length (j:Int)=some j:=by
  unfold ixN
  rw[if_pos (by lia),if_pos (by lia)]
  simp
 simp only[putAt,this]
noncomputable def ixO(ds:List D):D→Rs D
 |.int k=>match atI ds k with
  |some d=>.ok d
  |none=>.no
 |_=>.no
theorem zb0:Gf n fi τ=(Uv τ[n]?).bind fun ds=>(fi τ).bind (ixO ds):=by
 unfold Gf
 show(Uv τ[n]?).bind _=_
 cases Uv τ[n]? <;> rfl
end
end FD
namespace Law
open PySem PySem.Spec PyProof.Rows L2 FD
noncomputable abbrev tx(x:List Nat):D:=.str ⟨x.toArray⟩
noncomputable abbrev nts(x:List Nat):D:=.lst (x.map fun (k:Nat)=>D.int k)
theorem ZD(x:List Nat)(h:x.length≤1000):yA [tx x]=.ok (.int x.length):=by
 rw[Uh (by rw[zZ];show x.toArray.size≤_;simp;lia)]
 show Rs.ok (D.int ((x.toArray.size:Nat):Int))=_
 simp
theorem tx_ix(x:List Nat)(j:Nat)(c:Nat)(h:x[j]?=some c)(hl:x.length≤1000):ixD (tx x) (.int j)=.ok (yj c):=by
 refine YA (XJ (by lia) (by simpa using h)) (by rw[zZ];show x.toArray.size≤_;simp;lia)
noncomputable abbrev its(x:List Int):D:=.lst (x.map D.int)
theorem uh{set:FG}{fe:FE}{τ:DS}{α β:Type}(f:α→D)(g:β→D)(h:α→β):∀(xs:List α),(∀a∈xs,∃τ1,set (f a) τ=.ok τ1∧fe τ1=.ok (g (h a)))→vm set (fun _=>.ok true) fe τ (xs.map f)=.ok ((xs.map h).map g):=by
 intro l_
 induction l_ with
 |nil=>
  rintro _
  exact rfl
 |cons a xs ih_=>
  rintro hs
  refine X11 (hs a (mem_cons_self ..)) fun τ1 h1 h2=>?_
  rw[map_cons,vm,h1]
  simp only[h2,ih_ fun b hb=>hs b (mem_cons_of_mem _ hb),Rs.bind_ok,map_cons]
end Law
set_option Elab.async false
set_option linter.all false
set_option maxHeartbeats 1000000
namespace FD
open PySem PySem.Spec PyProof.Rows L2
theorem zk5(x:List Nat):(⟨x.toArray⟩:Str).length=x.length:=by show x.toArray.size=_;simp
theorem jc{set:FG}{ft:FT}{fe:FE}{τ:DS}{α:Type}(f g:α→D)(p:α→Bool):∀(xs:List α),(∀a∈xs,∃τ1,set (f a) τ=.ok τ1∧ft τ1=.ok (p a)∧fe τ1=.ok (g a))→vm set ft fe τ (xs.map f)=.ok ((xs.filter p).map g):=by
 intro l_
 induction l_ with
 |nil=>
  rintro _
  exact rfl
 |cons a xs ih_=>
  rintro hs
  refine X12 (hs a (mem_cons_self ..)) fun τ1 h1 h2 h3=>?_
  have ih:=ih_ fun b hb=>hs b (mem_cons_of_mem _ hb)
  rw[map_cons,vm,h1]
  cases hp:p a
  ·rw[hp] at h2
   simp only[h2,ih,List.filter_cons,hp,Bool.false_eq_true,if_false]
  ·rw[hp] at h2
   simp only[h2,h3,ih,List.filter_cons,hp,if_true,Rs.bind_ok,map_cons]
end FD
namespace Law
open PySem PySem.Spec PyProof.Rows L2 FD
theorem f1:∀a∈QS,∀c∈NS,w6 (lo1 a) c=w6 (lo1 a) (lo1 c):=by decide
theorem f2:∀a∈QS,∀c∈NS,w6 a c=true→w6 (lo1 a) c=true:=by decide
theorem f3:∀a∈QS,∀c∈NS,w6 a c=true→lo1 c=lo1 a:=by decide
theorem f5:∀c∈NS,c<128∧lo1 c<128:=by decide
theorem f6:∀c∈QS,c<128∧lo1 c<128:=by decide
structure Lay(q x l:List Nat):Prop where
 len:l.length=q.length
 ris:∀j,j+1<l.length→l.getD j 0<l.getD (j+1) 0
 inn:∀j,j<l.length→l.getD j 0<x.length
 met:∀j,j<l.length→w6 (q.getD j 0) (x.getD (l.getD j 0) 0)=true
noncomputable def zc1(x:List Nat)(p:Nat):Int:=if p=0 then 8 else if x.getD (p-1) 0∈MK then 6 else if (65≤x.getD p 0∧x.getD p 0≤90)∧((97≤x.getD (p-1) 0∧x.getD (p-1) 0≤122)∨(48≤x.getD (p-1) 0∧x.getD (p-1) 0≤57)) then 5 else 0
noncomputable def Y8(a:Nat)(x:List Nat)(p:Nat):Int:=10+zc1 x p+(if x.getD p 0=a then 1 else 0)
noncomputable def MP(p:Nat):Int:=-(if (p:Int)<3 then (p:Int) else 3)
noncomputable def Xl(r p:Nat):Int:=if (p:Int)-r-1=0 then 7 else -(if (p:Int)-r-1<5 then (p:Int)-r-1 else 5)
noncomputable abbrev Tl:=Int×List Nat
noncomputable def jL:List Tl→Option Tl→Option Tl
 |[],c=>c
 |t::r,none=>jL r (some t)
 |t::r,some c=>jL r (some (if c.1<t.1 then t else c))
noncomputable def Xm(a:Nat)(x:List Nat):List Tl:=((List.range x.length).filter fun p=>w6 a (x.getD p 0)).map fun p=>(Y8 a x p,[p])
noncomputable def Zm(p:Nat)(ts:List Tl):List Tl:=(ts.filter fun t=>decide (p<t.2.getD 0 0)).map fun t=>(t.1+Xl p (t.2.getD 0 0),t.2)
noncomputable def Xk(a:Nat)(x:List Nat)(ts:List Tl)(p:Nat):Option Tl:=if w6 a (x.getD p 0)=true then (jL (Zm p ts) none).map fun t=>(Y8 a x p+t.1,p::t.2) else none
noncomputable def Wt(a:Nat)(x:List Nat)(ts:List Tl):List Tl:=(List.range x.length).filterMap (Xk a x ts)
noncomputable def y8:List Nat→List Nat→List Tl
 |[],_=>[]
 |[a],x=>Xm a x
 |a::b::q,x=>Wt a x (y8 (b::q) x)
noncomputable def MO(t:Tl):Tl:=(t.1+MP (t.2.getD 0 0),t.2)
noncomputable def Tq(q x:List Nat):Option Tl:=jL ((y8 q x).map MO) none
theorem jz:∀(ts:List Tl) (c:Option Tl) (t:Tl),jL ts c=some t→t∈ts∨c=some t
 |[],c,t,h=>.inr h
 |u::r,none,t,h=>by
  rcases jz r (some u) t h with h|h
  ·exact .inl (mem_cons_of_mem _ h)
  ·replace h:=sI_ h;subst h;exact .inl (mem_cons_self ..)
 |u::r,some c,t,h=>by
  rcases jz r _ t h with h|h
  ·exact .inl (mem_cons_of_mem _ h)
  ·by_cases g:c.1<u.1
   ·rw[if_pos g] at h;replace h:=sI_ h;subst h;exact .inl (mem_cons_self ..)
   ·rw[if_neg g] at h;exact .inr h
noncomputable def sm(f:Nat→Int):Nat→Int
 |0=>0
 |n+1=>sm f n+f n
theorem Jz(f:Nat→Int):∀n,sm f (n+1)=f 0+sm (fun j=>f (j+1)) n:=by
 intro l_
 induction l_ with
 |zero=>
  simp[sm]
 |succ n ih_=>
  rw[sm,ih_,sm];lia
noncomputable def trk(x:List Nat)(r:Nat)(q l:List Nat)(j:Nat):Int:=Y8 (q.getD j 0) x (l.getD j 0)+Xl (if j=0 then r else l.getD (j-1) 0) (l.getD j 0)
theorem GA(a p r:Nat)(q x l:List Nat)(j:Nat):trk x r (a::q) (p::l) (j+1)=trk x p q l j:=by
 simp only[trk,List.getD_cons_succ,Nat.succ_ne_zero,if_false,Nat.add_sub_cancel]
 cases j with
 |zero=>rw[if_pos rfl,List.getD_cons_zero]
 |succ j=>rw[if_neg (Nat.succ_ne_zero j),List.getD_cons_succ,Nat.add_sub_cancel]
noncomputable def VA(x:List Nat):List Nat→List Nat→Int
 |a::q,p::l=>Y8 a x p+sm (trk x p q l) l.length
 |_,_=>0
theorem Qz(a b p r:Nat)(q x l:List Nat):VA x (a::b::q) (p::r::l)=Y8 a x p+Xl p r+VA x (b::q) (r::l):=by
 simp only[VA,length_cons]
 rw[Jz,funext (GA b r p q x l)]
 simp only[trk,if_true,List.getD_cons_zero]
 lia
theorem Lay.one{a p:Nat}{x:List Nat}(h1:p<x.length)(h2:w6 a (x.getD p 0)=true):Lay [a] x [p]:=by
 have z:∀j,j<[p].length→j=0:=fun j hj=>by simpa using hj
 exact⟨rfl,fun j hj=>by simp at hj,fun j hj=>by rw[z j hj];exact h1,fun j hj=>by rw[z j hj];exact h2⟩
theorem Lay.cons{a p:Nat}{q x l:List Nat}(h:Lay q x l)(h1:p<x.length)(h2:w6 a (x.getD p 0)=true)(h3:0<l.length→p<l.getD 0 0):Lay (a::q) x (p::l):=by
 refine⟨by simp[h.len],fun j hj=>?_,fun j hj=>?_,fun j hj=>?_⟩
 ·cases j with
  |zero=>simpa using h3 (by simpa using hj)
  |succ j=>simpa using h.ris j (by simpa using hj)
 ·cases j with
  |zero=>simpa using h1
  |succ j=>simpa using h.inn j (by simpa using hj)
 ·cases j with
  |zero=>exact h2
  |succ j=>simpa using h.met j (by simpa using hj)
theorem Z5(x:List Nat):∀(q:List Nat) (t:Tl),t∈y8 q x→Lay q x t.2∧t.1=VA x q t.2
 |[],t,h=>by simp[y8] at h
 |[a],t,h=>by
  simp only[y8,Xm,mem_map,mem_filter,mem_range] at h
  obtain⟨p,⟨h1,h2⟩,rfl⟩:=h
  exact⟨Lay.one h1 h2,by simp[VA,sm]⟩
 |a::b::q,t,h=>by
  simp only[y8,Wt,List.mem_filterMap,mem_range] at h
  refine X11 h fun p h1 h2=>?_
  unfold Xk at h2
  split at h2
  ·rename_i hm
   rcases e:jL (Zm p (y8 (b::q) x)) none with _|u
   ·rw[e] at h2;cases h2
   ·rw[e] at h2
    have h2:some (Y8 a x p+u.1,p::u.2)=some t:=h2
    replace h2:=sI_ h2;subst h2
    rcases jz _ _ _ e with g|g
    ·simp only[Zm,mem_map,mem_filter,decide_eq_true_eq] at g
     obtain⟨v,⟨g1,g2⟩,rfl⟩:=g
     obtain⟨k1,k2⟩:=Z5 x (b::q) v g1
     refine⟨k1.cons h1 hm fun _=>g2,?_⟩
     have hl:=k1.len
     rcases e2:v.2 with _|⟨r,l⟩
     ·rw[e2] at hl;simp at hl
     ·rw[e2] at k2
      simp only[List.getD_cons_zero]
      rw[Qz,k2]
      lia
    ·nomatch g
  ·nomatch h2
end Law
set_option Elab.async false
set_option linter.all false
set_option maxHeartbeats 1000000
namespace FD
open PySem PySem.Spec PyProof.Rows L2
noncomputable def negI:D→Rs D
 |.int i=>.ok (.int (-i))
 |_=>.no
@[simp] theorem My{i:Int}:negI (.int i)=.ok (.int (-i)):=rfl
theorem YD{fa:FE}{τ:DS}:wy fa τ=(fa τ).bind negI:=by
 unfold wy
 show(fa τ).bind _=_
 cases fa τ with
 |ok d=>cases d <;> rfl
 |_=>rfl
theorem U2(i j:Int):uT [.int i,.int j]=.ok (.int (if j<i then j else i)):=rfl
end FD
namespace Law
open PySem PySem.Spec PyProof.Rows L2 FD
noncomputable abbrev tlD(t:Tl):D:=.tup [.int t.1,nts t.2]
noncomputable def jF:Option Tl→D
 |none=>.non
 |some t=>tlD t
theorem Qy(t:Tl):ixD (tlD t) (.int 0)=.ok (.int t.1):=rfl
theorem Qx(t:Tl):ixD (tlD t) (.int 1)=.ok (nts t.2):=rfl
theorem zj7(l:List Nat)(j:Nat)(h:j<l.length):ixD (nts l) (.int (j:Int))=.ok (.int (l.getD j 0:Nat)):=by
 refine YB (XJ (by lia) ?_)
 simp[getD_eq_getElem?_getD,getElem?_eq_getElem h]
theorem Va(l:List Nat)(h:0<l.length):ixD (nts l) (.int 0)=.ok (.int (l.getD 0 0:Nat)):=zj7 l 0 h
theorem Zq(x:List Nat)(j:Nat)(h:j<x.length):x[j]?=some (x.getD j 0):=by
 rw[getD_eq_getElem?_getD,getElem?_eq_getElem h];rfl
theorem Wb(x:List Nat)(j:Nat)(h:j<x.length)(hx:x.length≤1000):ixD (tx x) (.int (j:Int))=.ok (yj (x.getD j 0)):=tx_ix x j _ (Zq x j h) hx
theorem za1:("ABCDEFGHIJKLMNOPQRSTUVWXYZ" : Str).cps.toList=(List.range 26).map (· + 65):=by decide +kernel
theorem zm7:("0123456789" : Str).cps.toList=(List.range 10).map (· + 48):=by decide +kernel
theorem JB(c n a:Nat):decide (c∈(List.range (n+1)).map (· + a))=decide (a≤c∧c≤n+a):=by
 apply decide_eq_decide.mpr
 rw[mem_map]
 constructor
 ·rintro⟨i,hi,rfl⟩
  have:=mem_range.mp hi
  lia
 ·intro h
  exact Y11 (c-a) (mem_range.mpr (by lia)) (by lia)
theorem jy(c:Nat):decide (c∈("ABCDEFGHIJKLMNOPQRSTUVWXYZ" : Str).cps.toList)=decide (65≤c∧c≤90):=by
 rw[za1];exact JB c 25 65
theorem Xw(c:Nat):decide (c∈("0123456789" : Str).cps.toList)=decide (48≤c∧c≤57):=by
 rw[zm7];exact JB c 9 48
theorem zn4(x:List Nat)(p:Nat)(hx:x.length≤1000)(hp:p<x.length):yH [tx x,.int (p:Int)]=.ok (.int (zc1 x p)):=by
 have st:yg 3 [tx x,.int (p:Int)]=[some (.val (tx x)),some (.val (.int (p:Int))),none]:=rfl
 unfold yH vH
 rw[yv,st]
 cases p with
 |zero=>
  simp only[zV,yT,yf,ym,wI,yB,zW,yQ,getElem?_cons_zero,getElem?_cons_succ,zM,Rs.bind_ok,Fl.of_ok,jO,yb,yi,va,if_true,show((((0:Nat):Int))==0)=true from rfl]
  rfl
 |succ k=>
  have e0:(((k+1:Nat):Int)==0)=false:=by simp;lia
  have e1:((k+1:Nat):Int)-1=(k:Int):=by lia
  have hk:=Wb x k (by lia) hx
  have hk1:=Wb x (k+1) hp hx
  have hb:zc1 x (k+1)=if x.getD k 0∈MK then 6 else if (65≤x.getD (k+1) 0∧x.getD (k+1) 0≤90)∧((97≤x.getD k 0∧x.getD k 0≤122)∨(48≤x.getD k 0∧x.getD k 0≤57)) then 5 else 0:=by
   unfold zc1;rw[if_neg (Nat.succ_ne_zero k)];rfl
  rw[hb]
  generalize x.getD k 0=c at *
  generalize x.getD (k+1) 0=d at *
  simp only[yj] at hk hk1
  by_cases h1:c∈MK
  ·simp only[zV,ye,yT,yf,ym,wI,yB,zW,yQ,getElem?_cons_zero,getElem?_cons_succ,set_cons_succ,set_cons_zero,zM,Rs.bind_ok,Fl.of_ok,yz,jO,yb,yi,vw,va,if_true,Bool.false_eq_true,if_false,e0,e1,hk,Xt,vb,QY,h1,decide_true]
  ·by_cases h2:65≤d∧d≤90
   ·by_cases h3:97≤c∧c≤122
    ·have h4:(65≤d∧d≤90)∧((97≤c∧c≤122)∨(48≤c∧c≤57)):=⟨h2,.inl h3⟩
     rw[if_neg h1,if_pos h4]
     simp only[zV,ye,yT,yf,ym,wI,uo,um,yB,zW,yQ,getElem?_cons_zero,getElem?_cons_succ,set_cons_succ,set_cons_zero,zM,Rs.bind_ok,Fl.of_ok,yz,jO,yb,yi,vw,va,if_true,Bool.false_eq_true,if_false,e0,e1,hk,hk1,Xt,vb,QY,h1,decide_false,jy,jm,Xw,h2,h3,and_self,decide_true]
    ·by_cases h5:48≤c∧c≤57
     ·have h4:(65≤d∧d≤90)∧((97≤c∧c≤122)∨(48≤c∧c≤57)):=⟨h2,.inr h5⟩
      rw[if_neg h1,if_pos h4]
      simp only[zV,ye,yT,yf,ym,wI,uo,um,yB,zW,yQ,getElem?_cons_zero,getElem?_cons_succ,set_cons_succ,set_cons_zero,zM,Rs.bind_ok,Fl.of_ok,yz,jO,yb,yi,vw,va,if_true,Bool.false_eq_true,if_false,e0,e1,hk,hk1,Xt,vb,QY,h1,decide_false,jy,jm,Xw,decide_eq_true h2,decide_eq_false h3,decide_eq_true h5]
     ·have h4:¬ ((65≤d∧d≤90)∧((97≤c∧c≤122)∨(48≤c∧c≤57))):=fun h=>by rcases h.2 with h|h;exact h3 h;exact h5 h
      rw[if_neg h1,if_neg h4]
      simp only[zV,ye,yT,yf,ym,wI,uo,um,yB,zW,yQ,getElem?_cons_zero,getElem?_cons_succ,set_cons_succ,set_cons_zero,zM,Rs.bind_ok,Fl.of_ok,yz,yb,yi,vw,va,if_true,Bool.false_eq_true,if_false,e0,e1,hk,hk1,Xt,vb,QY,h1,decide_false,jy,jm,Xw,decide_eq_true h2,decide_eq_false h3,decide_eq_false h5]
   ·have h4:¬ ((65≤d∧d≤90)∧((97≤c∧c≤122)∨(48≤c∧c≤57))):=fun h=>h2 h.1
    rw[if_neg h1,if_neg h4]
    simp only[zV,ye,yT,yf,ym,wI,uo,um,yB,zW,yQ,getElem?_cons_zero,getElem?_cons_succ,set_cons_succ,set_cons_zero,zM,Rs.bind_ok,Fl.of_ok,yz,yb,yi,vw,va,Bool.false_eq_true,if_false,e0,e1,hk,hk1,Xt,vb,QY,h1,decide_false,jy,decide_eq_false h2]
theorem Ml(a:Nat)(x:List Nat)(p:Nat)(hx:x.length≤1000)(hp:p<x.length):yE [yj a,tx x,.int (p:Int)]=.ok (.int (Y8 a x p)):=by
 have st:yg 4 [yj a,tx x,.int (p:Int)]=[some (.val (yj a)),some (.val (tx x)),some (.val (.int (p:Int))),none]:=rfl
 have hk:=Wb x p hp hx
 have hb:=zn4 x p hx hp
 unfold yE Zx Y8
 rw[yv,st]
 simp only[yj] at hk ⊢
 by_cases h:x.getD p 0=a
 ·have h':(x.getD p 0==a)=true:=by simpa using h
  rw[if_pos h]
  simp only[zV,ye,yf,wI,yB,zW,yQ,zD,zE,yW,Td,getElem?_cons_zero,getElem?_cons_succ,set_cons_succ,set_cons_zero,zM,Rs.bind_ok,Fl.of_ok,yz,yb,wB,yi,yI,Ta,if_true,hk,U0,h',hb]
 ·have h':(x.getD p 0==a)=false:=by simpa using h
  rw[if_neg h]
  simp only[zV,ye,yf,wI,yB,zW,yQ,zD,zE,yW,Td,getElem?_cons_zero,getElem?_cons_succ,set_cons_succ,set_cons_zero,zM,Rs.bind_ok,Fl.of_ok,yz,yb,wB,yi,yI,Ta,Bool.false_eq_true,if_false,hk,U0,h',hb]
theorem LX(p:Nat):y3 [.int (p:Int)]=.ok (.int (MP p)):=by
 have st:yg 1 [.int (p:Int)]=[some (.val (.int (p:Int)))]:=rfl
 unfold y3 jN MP
 rw[yv,st]
 simp only[yf,zW,yQ,zD,zE,jB,getElem?_cons_zero,zM,Rs.bind_ok,Fl.of_ok,yb,U2,YD,My]
 congr 3
 split <;> split <;> lia
theorem LS(r p:Nat):xz [.int (r:Int),.int (p:Int)]=.ok (.int (Xl r p)):=by
 have st:yg 3 [.int (r:Int),.int (p:Int)]=[some (.val (.int (r:Int))),some (.val (.int (p:Int))),none]:=rfl
 unfold xz jM Xl
 rw[yv,st]
 by_cases h:(p:Int)-r-1=0
 ·have h':((p:Int)-r-1==0)=true:=by simpa using h
  rw[if_pos h]
  simp only[zV,ye,yT,yf,ym,wI,yB,zW,yQ,getElem?_cons_zero,getElem?_cons_succ,set_cons_succ,set_cons_zero,zM,Rs.bind_ok,Fl.of_ok,yz,jO,yb,yi,vw,va,if_true,h']
 ·have h':((p:Int)-r-1==0)=false:=by simpa using h
  rw[if_neg h]
  simp only[zV,ye,yT,yf,ym,wI,yB,zW,yQ,zD,zE,jB,getElem?_cons_zero,getElem?_cons_succ,set_cons_succ,set_cons_zero,zM,Rs.bind_ok,Fl.of_ok,yz,yb,yi,vw,va,Bool.false_eq_true,if_false,h',U2,YD,My]
  congr 3
  split <;> split <;> lia
end Law
set_option Elab.async false
set_option linter.all false
set_option maxHeartbeats 1000000
namespace FD
open PySem PySem.Spec PyProof.Rows L2
theorem zf8{fs:FA}{τ:DS}{i j:Int}(h:fs τ=.ok [.int i,.int j,.int (-1)])(h1 : -(2 ^ 62)≤i)(h2:i<2 ^ 62)(h3 : -(2 ^ 62)≤j)(h4:j<2 ^ 62):Q9 fs τ=.ok (Z8 i (i-j).toNat):=by
 unfold Q9
 rw[h]
 simp only[Rs.bind_ok,Up]
 rw[if_pos ⟨⟨h1,h2⟩,h3,h4⟩]
end FD
namespace Law
open PySem PySem.Spec PyProof.Rows L2 FD
noncomputable def Z1:FS:=(sIf (jD (FD.tB (eOp isD (ze 1) (eC .non))) (FD.tB (eOp gtD (eOp ixD (ze 2) (eC (.int 0))) (eOp ixD (ze 1) (eC (.int 0)))))) (zU 1 (ze 2)) zS)
theorem zl9:isD .non .non=.ok (.bl true):=rfl
theorem ze3(t:Tl):isD (tlD t) .non=.ok (.bl false):=rfl
theorem uf:we .non .non=.ok (.bl false):=rfl
theorem Um(t:Tl):we (tlD t) .non=.ok (.bl true):=rfl
theorem Vj(z:D):∀(ts:List Tl) (c:Option Tl) (s:Option Sl),∃s',xB (gNm 2) Z1 (ts.map tlD) [some (.val z),some (.val (jF c)),s]=.nx [some (.val z),some (.val (jF (jL ts c))),s']
 |[],c,s=>⟨s,rfl⟩
 |t::ts,none,s=>by
  obtain⟨s',ih⟩:=Vj z ts (some t) (some (.val (tlD t)))
  refine⟨s',?_⟩
  have:Z1 [some (.val z),some (.val (jF none)),some (.val (tlD t))]=.nx [some (.val z),some (.val (jF (some t))),some (.val (tlD t))]:=by
   unfold Z1 jF
   simp only[ye,yT,ym,wI,um,yB,zW,yQ,getElem?_cons_zero,getElem?_cons_succ,set_cons_succ,set_cons_zero,zM,Rs.bind_ok,Fl.of_ok,yi,if_true,zl9]
  rw[map_cons,xB,Z0,Fl.of_ok]
  simp only[set_cons_succ,set_cons_zero,this]
  rw[ih]
  rfl
 |t::ts,some c,s=>by
  obtain⟨s',ih⟩:=Vj z ts (some (if c.1<t.1 then t else c)) (some (.val (tlD t)))
  refine⟨s',?_⟩
  have:Z1 [some (.val z),some (.val (jF (some c))),some (.val (tlD t))]=.nx [some (.val z),some (.val (jF (some (if c.1<t.1 then t else c)))),some (.val (tlD t))]:=by
   unfold Z1 jF
   by_cases h:c.1<t.1
   ·rw[if_pos h]
    simp only[ye,yT,ym,wI,um,yB,zW,yQ,getElem?_cons_zero,getElem?_cons_succ,set_cons_succ,set_cons_zero,zM,Rs.bind_ok,Fl.of_ok,yi,Ut,if_true,Bool.false_eq_true,if_false,ze3,Qy,h,decide_true]
   ·rw[if_neg h]
    simp only[ye,yT,ym,wI,um,yB,zW,yQ,getElem?_cons_zero,getElem?_cons_succ,set_cons_succ,set_cons_zero,zM,Rs.bind_ok,Fl.of_ok,yi,Ut,Bool.false_eq_true,if_false,ze3,Qy,h,decide_false]
  rw[map_cons,xB,Z0,Fl.of_ok]
  simp only[set_cons_succ,set_cons_zero,this]
  rw[ih]
  rfl
theorem ze7(ts:List Tl):z8 [.lst (ts.map tlD)]=.ok (jF (jL ts none)):=by
 have st:yg 3 [.lst (ts.map tlD)]=[some (.val (.lst (ts.map tlD))),none,none]:=rfl
 obtain⟨s',h⟩:=Vj (.lst (ts.map tlD)) ts none none
 unfold Z1 at h
 unfold z8 uV
 rw[yv,st]
 simp only[jF] at h
 simp only[zV,ye,yf,vK,Qe,MV,zW,yQ,getElem?_cons_zero,getElem?_cons_succ,set_cons_succ,set_cons_zero,zM,Rs.bind_ok,Fl.of_ok,yz,yb,h]
 rfl
theorem size2:∀a b:D,([a,b]:List D).length≤sizeLine:=fun a b=>by rw[zZ];exact Nat.le_of_ble_eq_true rfl
theorem size1:∀a:D,([a]:List D).length≤sizeLine:=fun a=>by rw[zZ];exact Nat.le_of_ble_eq_true rfl
theorem Vw{fa fb:FE}{τ:DS}{a b:D}(h1:fa τ=.ok a)(h2:fb τ=.ok b):xS (za fa (za fb zi)) τ=.ok (.tup [a,b]):=by
 rw[Qk,zE,h1,Rs.bind_ok,zE,h2,Rs.bind_ok,zD,Rs.bind_ok,Rs.bind_ok,Rs.bind_ok]
 exact if_pos (size2 a b)
theorem J0{fa:FE}{τ:DS}{a:D}(h1:fa τ=.ok a):xP (za fa zi) τ=.ok (.lst [a]):=by
 rw[Vl,zE,h1,Rs.bind_ok,zD,Rs.bind_ok,Rs.bind_ok]
 exact if_pos (size1 a)
theorem ze9{f:List D→Rs D}{fa:FE}{τ:DS}{a d:D}(h1:fa τ=.ok a)(h:f [a]=.ok d):zB f (za fa zi) τ=.ok d:=by
 rw[yW,zE,h1,Rs.bind_ok,zD,Rs.bind_ok,Rs.bind_ok,h];rfl
theorem XG{f:List D→Rs D}{fa fb:FE}{τ:DS}{a b d:D}(h1:fa τ=.ok a)(h2:fb τ=.ok b)(h:f [a,b]=.ok d):zB f (za fa (za fb zi)) τ=.ok d:=by
 rw[yW,zE,h1,Rs.bind_ok,zE,h2,Rs.bind_ok,zD,Rs.bind_ok,Rs.bind_ok,Rs.bind_ok,h];rfl
theorem wM{f:List D→Rs D}{fa fb fc:FE}{τ:DS}{a b c d:D}(h1:fa τ=.ok a)(h2:fb τ=.ok b)(h3:fc τ=.ok c)(h:f [a,b,c]=.ok d):zB f (za fa (za fb (za fc zi))) τ=.ok d:=by
 rw[yW,zE,h1,Rs.bind_ok,zE,h2,Rs.bind_ok,zE,h3,Rs.bind_ok,zD,Rs.bind_ok,Rs.bind_ok,Rs.bind_ok,Rs.bind_ok,h];rfl
theorem op2{op:D→D→Rs D}{fa fb:FE}{τ:DS}{a b:D}{r:Rs D}(h1:fa τ=.ok a)(h2:fb τ=.ok b)(h:op a b=r):eOp op fa fb τ=r:=by
 rw[yB,h1,Rs.bind_ok,h2,Rs.bind_ok,h]
theorem zk{n:Nat}{τ:DS}{d:D}(h:τ[n]?=some (some (.val d))):ze n τ=.ok d:=by rw[zW,h];rfl
theorem vT{k:Nat}{idx:List Nat}{fi:FA}{set:FG}{ft:FT}{fe:FE}{τ:DS}{ds xs:List D}(h1:fi τ=.ok ds)(h2:vm set ft fe (vX k idx τ) ds=.ok xs)(h3:xs.length≤1000):wv k idx fi set ft fe τ=.ok xs:=by
 unfold wv
 rw[h1,Rs.bind_ok,h2]
 exact if_pos (by rw[zZ];lia)
theorem tru_ok{fe:FE}{τ:DS}{b:Bool}(h:fe τ=.ok (.bl b)):jC fe τ=.ok b:=by rw[j7,h];rfl
theorem xV{fe:FE}{τ:DS}{b:Bool}(h:fe τ=.ok (.bl b)):FD.tB fe τ=.ok b:=by rw[wI,h];rfl
theorem YR{fa:FE}{τ:DS}{n:Nat}(h:fa τ=.ok (.int (n:Int)))(hn:n≤1000):vJ (za fa zi) τ=.ok ((List.range n).map fun (k:Nat)=>D.int (0+k)):=by
 rw[UR (j:=(n:Int)) (by rw[zE,h,Rs.bind_ok,zD,Rs.bind_ok]) (by lia) (by lia),Int.toNat_natCast];rfl
theorem uk{g:List D→Rs D}{fa:FE}{τ:DS}{a d:D}(h1:fa τ=.ok a)(h:g [a]=.ok d):ya g (za fa zi) τ=.ok d:=by
 rw[jB,zE,h1,Rs.bind_ok,zD,Rs.bind_ok,Rs.bind_ok,h]
theorem X5(a:Nat)(x:List Nat)(ha:a<128)(hx:x.length≤1000):yq [yj a,tx x]=.ok (.lst ((Xm a x).map tlD)):=by
 have st:yg 2 [yj a,tx x]=[some (.val (yj a)),some (.val (tx x))]:=rfl
 have cf:=jc (set:=gNm 0) (ft:=(jC (zB wV (za (ze 1) (za (eOp ixD (ze 2) (ze 0)) zi))))) (fe:=(xS (za (zB yE (za (ze 1) (za (ze 2) (za (ze 0) zi)))) (za (xP (za (ze 0) zi)) zi)))) (τ:=[none,some (.val (yj a)),some (.val (tx x))])
  (fun (k:Nat)=>D.int (0+k)) (fun (p:Nat)=>tlD (Y8 a x p,[p])) (fun p=>w6 a (x.getD p 0)) (List.range x.length) fun p hp=>by
   have hp:=mem_range.mp hp
   refine Y12 [some (.val (.int (p:Int))),some (.val (yj a)),some (.val (tx x))] (by rw[Int.zero_add];rfl) ?_ ?_
   ·exact tru_ok (XG (zk rfl) (op2 (zk rfl) (zk rfl) (Wb x p hp hx)) (Uc a _ ha))
   ·exact Vw (wM (zk rfl) (zk rfl) (zk rfl) (Ml a x p hx hp)) (J0 (zk rfl))
 have hlen:(((List.range x.length).filter fun p=>w6 a (x.getD p 0)).map fun (p:Nat)=>tlD (Y8 a x p,[p])).length≤1000:=by
  rw[length_map]
  have:=List.length_filter_le (fun p=>w6 a (x.getD p 0)) (List.range x.length)
  rw[length_range] at this;lia
 have ec:=vT (k:=1) (idx:=[0,1]) (fi:=vJ (za (ya yA (za (ze 1) zi)) zi)) (τ:=[some (.val (yj a)),some (.val (tx x))]) (YR (uk (zk rfl) (ZD x hx)) hx) cf hlen
 unfold yq vW
 rw[yv,st,yf]
 simp only[ec,Rs.bind_ok,Fl.of_ok,yb]
 unfold Xm
 rw[map_map]
 rfl
theorem Q4(p:Nat)(ts:List Tl)(hs:ts.length≤1000)(hn:∀t∈ts,0<t.2.length):yM [.int (p:Int),.lst (ts.map tlD)]=.ok (.lst ((Zm p ts).map tlD)):=by
 have st:yg 2 [.int (p:Int),.lst (ts.map tlD)]=[some (.val (.int (p:Int))),some (.val (.lst (ts.map tlD)))]:=rfl
 have cf:=jc (set:=gNm 0) (ft:=(FD.tB (eOp gtD (eOp ixD (eOp ixD (ze 0) (eC (.int 1))) (eC (.int 0))) (ze 1)))) (fe:=(xS (za (eOp zN (eOp ixD (ze 0) (eC (.int 0))) (zB xz (za (ze 1) (za (eOp ixD (eOp ixD (ze 0) (eC (.int 1))) (eC (.int 0))) zi)))) (za (eOp ixD (ze 0) (eC (.int 1))) zi)))) (τ:=[none,some (.val (.int (p:Int)))])
  tlD (fun t=>tlD (t.1+Xl p (t.2.getD 0 0),t.2)) (fun t=>decide (p<t.2.getD 0 0)) ts fun t ht=>by
   refine Y12 [some (.val (tlD t)),some (.val (.int (p:Int)))] rfl ?_ ?_
   ·have:=Va t.2 (hn t ht)
    refine xV (op2 (op2 (op2 (zk rfl) rfl (Qx t)) rfl this) (zk rfl) ?_)
    rw[Ut]
    congr 2
    exact decide_eq_decide.mpr (by lia)
   ·have:=Va t.2 (hn t ht)
    exact Vw (op2 (op2 (zk rfl) rfl (Qy t)) (XG (zk rfl) (op2 (op2 (zk rfl) rfl (Qx t)) rfl this) (LS p _)) (yI)) (op2 (zk rfl) rfl (Qx t))
 have hlen:((ts.filter fun t=>decide (p<t.2.getD 0 0)).map fun t=>tlD (t.1+Xl p (t.2.getD 0 0),t.2)).length≤1000:=by
  rw[length_map]
  have:=List.length_filter_le (fun t:Tl=>decide (p<t.2.getD 0 0)) ts
  lia
 have it:wN (ze 1) [some (.val (.int (p:Int))),some (.val (.lst (ts.map tlD)))]=.ok (ts.map tlD):=rfl
 have ec:=vT (k:=1) (idx:=[0]) (τ:=[some (.val (.int (p:Int))),some (.val (.lst (ts.map tlD)))]) it cf hlen
 unfold yM je
 rw[yv,st,yf]
 simp only[ec,Rs.bind_ok,Fl.of_ok,yb]
 unfold Zm
 rw[map_map]
 rfl
noncomputable def ZU:FS:=(sIf (jC (zB wV (za (ze 0) (za (eOp ixD (ze 1) (ze 4)) zi)))) (zA (zU 5 (zB z8 (za (zB yM (za (ze 4) (za (ze 2) zi))) zi)))
  (sIf (FD.tB (eOp we (ze 5) (eC .non))) (VL 3 (xS (za (eOp zN (zB yE (za (ze 0) (za (ze 1) (za (ze 4) zi)))) (eOp ixD (ze 5) (eC (.int 0)))) (za (eOp zN (xP (za (ze 4) zi)) (eOp ixD (ze 5) (eC (.int 1)))) zi)))) zS)) zS)
theorem Gi(p:Nat)(l:List Nat)(h:l.length≤1000):zN (.lst [.int (p:Int)]) (nts l)=.ok (nts (p::l)):=by
 show(if _ then Rs.ok (D.lst _) else Rs.no)=_
 rw[if_pos (by rw[zZ,length_map,length_singleton];lia)]
 rfl
theorem ML(p:Nat)(ts:List Tl):∀t,jL (Zm p ts) none=some t→∃u∈ts,t.2=u.2:=fun t h=>by
 rcases jz _ _ _ h with g|g
 ·simp only[Zm,mem_map,mem_filter] at g
  obtain⟨u,⟨g1,_⟩,rfl⟩:=g
  exact Y11 u g1 rfl
 ·nomatch g
theorem LU(a:Nat)(x:List Nat)(ts acc:List Tl)(p:Nat)(s5:Option Sl)(ha:a<128)(hx:x.length≤1000)(hs:ts.length≤1000)(hn:∀t∈ts,0<t.2.length∧t.2.length≤1000)(hp:p<x.length)(hc:acc.length≤1000) :
  ∃s',ZU [some (.val (yj a)),some (.val (tx x)),some (.val (.lst (ts.map tlD))),some (.own (acc.map tlD)),some (.val (.int (p:Int))),s5]=.nx [some (.val (yj a)),some (.val (tx x)),some (.val (.lst (ts.map tlD))),some (.own ((acc++(Xk a x ts p).toList).map tlD)),some (.val (.int (p:Int))),s']:=by
 have hm:=Uc a (x.getD p 0) ha
 have hlk:=Q4 p ts hs fun t ht=>(hn t ht).1
 have hfm:=ze7 (Zm p ts)
 have how:=Ml a x p hx hp
 have hix:=Wb x p hp hx
 have hsz:(acc.map tlD).length<sizeLine:=by rw[zZ,length_map];lia
 unfold ZU Xk
 generalize wV=fa at hm ⊢
 generalize yM=fb at hlk ⊢
 generalize z8=fc at hfm ⊢
 generalize yE=fd at how ⊢
 by_cases h:w6 a (x.getD p 0)=true
 ·rw[if_pos h]
  rw[h] at hm
  rcases e:jL (Zm p ts) none with _|t
  ·rw[e] at hfm
   refine⟨some (.val .non),?_⟩
   simp only[zV,ye,yT,ym,Zc,wI,j7,yB,zW,yQ,zD,zE,yW,getElem?_cons_zero,getElem?_cons_succ,set_cons_succ,set_cons_zero,zM,wf,Rs.bind_ok,Fl.of_ok,yz,wB,yi,ul,if_true,Bool.false_eq_true,if_false,hix,hm,hlk,hfm,jF,uf,Option.map_none,Option.toList_none,append_nil]
  ·rw[e] at hfm
   refine X11 (ML p ts t e) fun u u1 u2=>?_
   have hct:=Gi p t.2 (by rw[u2];exact(hn u u1).2)
   refine⟨some (.val (tlD t)),?_⟩
   have tp:xS (za (eOp zN (zB fd (za (ze 0) (za (ze 1) (za (ze 4) zi)))) (eOp ixD (ze 5) (eC (.int 0)))) (za (eOp zN (xP (za (ze 4) zi)) (eOp ixD (ze 5) (eC (.int 1)))) zi)) [some (.val (yj a)),some (.val (tx x)),some (.val (.lst (ts.map tlD))),some (.own (acc.map tlD)),some (.val (.int (p:Int))),some (.val (tlD t))]=.ok (tlD (Y8 a x p+t.1,p::t.2)):=
    Vw (op2 (wM (zk rfl) (zk rfl) (zk rfl) how) (op2 (zk rfl) rfl (Qy t)) yI) (op2 (J0 (zk rfl)) (op2 (zk rfl) rfl (Qx t)) hct)
   simp only[zV,ye,yT,ym,Zc,wI,j7,yB,zW,yQ,zD,zE,yW,getElem?_cons_zero,getElem?_cons_succ,set_cons_succ,set_cons_zero,zM,wf,Rs.bind_ok,Fl.of_ok,yz,wB,yi,ul,if_true,hix,hm,hlk,hfm,jF,Um,tp,hsz,Option.map_some,Option.toList_some,map_append,map_cons,map_nil]
 ·have h':w6 a (x.getD p 0)=false:=by simpa using h
  rw[h'] at hm
  rw[if_neg h]
  refine⟨s5,?_⟩
  simp only[zV,ye,yT,ym,j7,yB,zW,zD,zE,yW,getElem?_cons_zero,getElem?_cons_succ,set_cons_succ,set_cons_zero,zM,Rs.bind_ok,Fl.of_ok,wB,ul,Bool.false_eq_true,if_false,hix,hm,Option.toList_none,append_nil]
theorem Xv(f:Nat→Option Tl)(k:Nat):(List.range (k+1)).filterMap f=(List.range k).filterMap f++(f k).toList:=by
 rw[List.range_succ,List.filterMap_append]
 simp only[filterMap_cons,List.filterMap_nil]
 cases h:f k <;> rfl
theorem Ws(f:Nat→Option Tl)(k:Nat):((List.range k).filterMap f).length≤k:=by
 have:=List.length_filterMap_le f (List.range k)
 rwa [length_range] at this
theorem LV(a:Nat)(x:List Nat)(ts:List Tl)(ha:a<128)(hx:x.length≤1000)(hs:ts.length≤1000)(hn:∀t∈ts,0<t.2.length∧t.2.length≤1000) :
  ∃s4 s5,xB (gNm 4) ZU ((List.range x.length).map fun (k:Nat)=>D.int (0+k)) [some (.val (yj a)),some (.val (tx x)),some (.val (.lst (ts.map tlD))),some (.own []),none,none]=.nx [some (.val (yj a)),some (.val (tx x)),some (.val (.lst (ts.map tlD))),some (.own ((Wt a x ts).map tlD)),s4,s5]:=by
 refine X11 (ZT (set:=gNm 4) (body:=ZU) (fun (k:Nat)=>D.int (0+k)) (fun k τ=>∃s4 s5,τ=[some (.val (yj a)),some (.val (tx x)),some (.val (.lst (ts.map tlD))),some (.own (((List.range k).filterMap (Xk a x ts)).map tlD)),s4,s5]) x.length
  [some (.val (yj a)),some (.val (tx x)),some (.val (.lst (ts.map tlD))),some (.own []),none,none] ⟨_,_,rfl⟩ fun k τ hk z_=>by
   refine X20 z_ fun s4 s5 e=>?_
   subst e
   obtain⟨s',g⟩:=LU a x ts ((List.range k).filterMap (Xk a x ts)) k s5 ha hx hs hn hk (by have:=Ws (Xk a x ts) k;lia)
   have e0:(0:Int)+(k:Int)=(k:Int):=by lia
   rw[Xv]
   exact⟨_,_,by rw[e0];exact Z0,g,_,_,rfl⟩) fun τ' h1 r0_=>?_;refine X20 r0_ fun s4 s5 h2=>?_
 subst h2
 exact Y20 s4 s5 h1
theorem zm4(bd:FS)(ri:FA)(A B C:D)(n:Nat)(P:List D)(s4 s5:Option Sl)(r1:ri [some (.val A),some (.val B),some (.val C),some (.own []),none,none]=.ok ((List.range n).map fun (k:Nat)=>D.int (0+k)))
  (h1:xB (gNm 4) bd ((List.range n).map fun (k:Nat)=>D.int (0+k)) [some (.val A),some (.val B),some (.val C),some (.own []),none,none]=.nx [some (.val A),some (.val B),some (.val C),some (.own P),s4,s5]) :
  wo 6 (zA (uQ 3 (fun τ=>(zi τ).bind fun ds=>if ds.length≤sizeLine then .ok ds else .no)) (zA (uu ri (gNm 4) bd) (u0 3))) [A,B,C]=.ok (.lst P):=by
 have st:yg 6 [A,B,C]=[some (.val A),some (.val B),some (.val C),none,none,none]:=rfl
 rw[yv,st]
 simp only[zV,vx,vy,vB,vK,zD,getElem?_cons_zero,getElem?_cons_succ,set_cons_succ,set_cons_zero,wf,Rs.bind_ok,Fl.of_ok,yz,yb,if_true,List.length_nil,zero_le,r1,h1]
theorem MH:vF=(zA (uQ 3 (fun τ=>(zi τ).bind fun ds=>if ds.length≤sizeLine then .ok ds else .no)) (zA (uu (vJ (za (ya yA (za (ze 1) zi)) zi)) (gNm 4) ZU) (u0 3))):=by unfold vF ZU;rfl
theorem Q3(a:Nat)(x:List Nat)(ts:List Tl)(ha:a<128)(hx:x.length≤1000)(hs:ts.length≤1000)(hn:∀t∈ts,0<t.2.length∧t.2.length≤1000):xg [yj a,tx x,.lst (ts.map tlD)]=.ok (.lst ((Wt a x ts).map tlD)):=by
 refine X20 (LV a x ts ha hx hs hn) fun s4 s5 h1=>?_
 unfold xg
 rw[MH]
 exact zm4 _ _ _ _ _ x.length _ _ _ (YR (uk (zk rfl) (ZD x hx)) hx) h1
theorem Wg(x:List Nat):∀q:List Nat,(y8 q x).length≤x.length
 |[]=>by simp[y8]
 |[a]=>by
  simp only[y8,Xm,length_map]
  have:=List.length_filter_le (fun p=>w6 a (x.getD p 0)) (List.range x.length)
  rwa [length_range] at this
 |a::b::q=>by simp only[y8,Wt];exact Ws _ _
theorem Vz(q x:List Nat)(hq:q≠[])(hl:q.length≤1000):∀t∈y8 q x,0<t.2.length∧t.2.length≤1000:=fun t ht=>by
 have:=(Z5 x q t ht).1.len
 have:0<q.length:=List.length_pos_iff.mpr hq
 lia
noncomputable def XH:FS:=(zU 2 (zB xg (za (eOp ixD (ze 0) (ze 3)) (za (ze 1) (za (ze 2) zi)))))
theorem zb7(q x:List Nat)(m:Nat)(hm:q.length=m+1)(hq:q.length≤1000)(hx:x.length≤1000)(ha:∀c∈q,c<128) :
  ∃s,xB (gNm 3) XH (Z8 ((m:Int)-1) m) [some (.val (tx q)),some (.val (tx x)),some (.val (.lst ((y8 (q.drop m) x).map tlD))),none]=.nx [some (.val (tx q)),some (.val (tx x)),some (.val (.lst ((y8 q x).map tlD))),s]:=by
 obtain⟨τ',h1,s,h2⟩:=ZT (set:=gNm 3) (body:=XH) (fun (k:Nat)=>D.int ((m:Int)-1-k)) (fun k τ=>∃s,τ=[some (.val (tx q)),some (.val (tx x)),some (.val (.lst ((y8 (q.drop (m-k)) x).map tlD))),s]) m
  [some (.val (tx q)),some (.val (tx x)),some (.val (.lst ((y8 (q.drop m) x).map tlD))),none] ⟨_,rfl⟩ fun k τ hk z_=>by
   obtain⟨s,e⟩:=z_
   subst e
   obtain⟨j,hj⟩:∃j,m=j+1+k:=⟨m-1-k,by lia⟩
   have e0:(m:Int)-1-(k:Int)=(j:Int):=by lia
   have d1:q.drop (m-k)=q.drop (j+1):=by congr 1;lia
   have d2:q.drop (m-(k+1))=q.drop j:=by congr 1;lia
   have hjq:j<q.length:=by lia
   have hne:q.drop (j+1)≠[]:=fun h=>by
    have:=congrArg List.length h
    rw[length_drop] at this;simp at this;lia
   have hlg:=Q3 (q.getD j 0) x (y8 (q.drop (j+1)) x) (ha _ (List.mem_of_getElem? (Zq q j hjq))) hx (by have:=Wg x (q.drop (j+1));lia) (Vz _ x hne (by rw[length_drop];lia))
   have ht:Wt (q.getD j 0) x (y8 (q.drop (j+1)) x)=y8 (q.drop j) x:=by
    have e1:q.drop j=q.getD j 0::q.drop (j+1):=by
     rw[drop_eq_getElem_cons hjq,getD_eq_getElem?_getD,getElem?_eq_getElem hjq];rfl
    rw[e1]
    rcases e2:q.drop (j+1) with _|⟨b,r⟩
    ·exact absurd e2 hne
    ·rfl
   rw[ht] at hlg
   rw[d1,d2]
   refine⟨[some (.val (tx q)),some (.val (tx x)),some (.val (.lst ((y8 (q.drop (j+1)) x).map tlD))),some (.val (.int (j:Int)))],[some (.val (tx q)),some (.val (tx x)),some (.val (.lst ((y8 (q.drop j) x).map tlD))),some (.val (.int (j:Int)))],by rw[e0];rfl,?_,_,rfl⟩
   unfold XH
   rw[ye,wM (op2 (zk rfl) (zk rfl) (Wb q j hjq hq)) (zk rfl) (zk rfl) hlg,Fl.of_ok]
   rfl
 subst h2
 refine⟨s,?_⟩
 rw[Nat.sub_self,drop_zero] at h1
 exact h1
noncomputable def ldE:FE:=(fun τ=>((wv 1 [] (wN (ze 2)) (gNm 0) (fun _=>.ok true) (xS (za (eOp zN (eOp ixD (ze 0) (eC (.int 0))) (zB y3 (za (eOp ixD (eOp ixD (ze 0) (eC (.int 1))) (eC (.int 0))) zi))) (za (eOp ixD (ze 0) (eC (.int 1))) zi)))) τ).bind fun ds=>.ok (.lst ds))
theorem ld_ok(A B:D)(ts:List Tl)(s:Option Sl)(hs:ts.length≤1000)(hn:∀t∈ts,0<t.2.length):ldE [some (.val A),some (.val B),some (.val (.lst (ts.map tlD))),s]=.ok (.lst ((ts.map MO).map tlD)):=by
 have cf:=uh (set:=gNm 0) (fe:=(xS (za (eOp zN (eOp ixD (ze 0) (eC (.int 0))) (zB y3 (za (eOp ixD (eOp ixD (ze 0) (eC (.int 1))) (eC (.int 0))) zi))) (za (eOp ixD (ze 0) (eC (.int 1))) zi)))) (τ:=[none]) tlD tlD MO ts fun t ht=>by
   refine Y11 [some (.val (tlD t))] rfl ?_
   have:=Va t.2 (hn t ht)
   exact Vw (op2 (op2 (zk rfl) rfl (Qy t)) (ze9 (op2 (op2 (zk rfl) rfl (Qx t)) rfl this) (LX _)) yI) (op2 (zk rfl) rfl (Qx t))
 have it:wN (ze 2) [some (.val A),some (.val B),some (.val (.lst (ts.map tlD))),s]=.ok (ts.map tlD):=rfl
 have ec:=vT (k:=1) (idx:=[]) (τ:=[some (.val A),some (.val B),some (.val (.lst (ts.map tlD))),s]) it cf (by simpa using hs)
 unfold ldE
 simp only[ec,Rs.bind_ok]
theorem Tp:Jk=(zA (sIf (FD.tB (eOp eqD (ya yA (za (ze 0) zi)) (eC (.int 0)))) (yx (xS (za (eC (.int 0)) (za (xP zi) zi)))) zS)
  (zA (zU 2 (zB yq (za (eOp ixD (ze 0) (wy (eC (.int 1)))) (za (ze 1) zi))))
  (zA (uu (Q9 (za (eOp jE (ya yA (za (ze 0) zi)) (eC (.int 2))) (za (wy (eC (.int 1))) (za (wy (eC (.int 1))) zi)))) (gNm 3) XH)
  (yx (zB z8 (za ldE zi)))))):=by unfold Jk XH ldE;rfl
theorem zk0(q:List Nat)(m:Nat)(hm:q.length=m+1)(hq:q.length≤1000):ixD (tx q) (.int (-1))=.ok (yj (q.getD m 0)):=by
 refine YA ?_ (by rw[zk5,zZ];lia)
 have e:ixN q.length (-1)=some m:=by
  unfold ixN
  rw[if_neg (by lia),if_pos (by lia)]
  congr 1;lia
 unfold atI
 show(ixN q.length (-1)).bind _=_
 rw[e]
 exact Zq q m (by lia)
theorem bs_r3(q x:List Nat)(T:D)(m:Nat)(hm:q.length=m+1)(hq:q.length≤1000):Q9 (za (eOp jE (ya yA (za (ze 0) zi)) (eC (.int 2))) (za (wy (eC (.int 1))) (za (wy (eC (.int 1))) zi))) [some (.val (tx q)),some (.val (tx x)),some (.val T),none]=.ok (Z8 ((m:Int)-1) m):=by
 have a1:eOp jE (ya yA (za (ze 0) zi)) (eC (.int 2)) [some (.val (tx q)),some (.val (tx x)),some (.val T),none]=.ok (.int ((m:Int)-1)):=by
  refine op2 (uk (zk rfl) (ZD q hq)) rfl ?_
  rw[vw];congr 2;lia
 have a2:∀τ,wy (eC (.int 1)) τ=.ok (.int (-1)):=fun τ=>rfl
 have r3:=zf8 (fs:=za (eOp jE (ya yA (za (ze 0) zi)) (eC (.int 2))) (za (wy (eC (.int 1))) (za (wy (eC (.int 1))) zi))) (τ:=[some (.val (tx q)),some (.val (tx x)),some (.val T),none]) (i:=(m:Int)-1) (j:=-1)
  (by rw[zE,a1,Rs.bind_ok,zE,a2,Rs.bind_ok,zE,a2,Rs.bind_ok,zD,Rs.bind_ok,Rs.bind_ok,Rs.bind_ok]) (by lia) (by lia) (by lia) (by lia)
 rw[r3]
 congr 2
 lia
theorem zm5(g1:FT)(g2:FS)(e1 e2:FE)(r3:FA)(bd:FS)(A B T T' R:D)(L:List D)(s:Option Sl)(h0:g1 [some (.val A),some (.val B),none,none]=.ok false)(h1:e1 [some (.val A),some (.val B),none,none]=.ok T)(h2:r3 [some (.val A),some (.val B),some (.val T),none]=.ok L)(h3:xB (gNm 3) bd L [some (.val A),some (.val B),some (.val T),none]=.nx [some (.val A),some (.val B),some (.val T'),s])(h4:e2 [some (.val A),some (.val B),some (.val T'),s]=.ok R) :
  wo 4 (zA (sIf g1 g2 zS) (zA (zU 2 e1) (zA (uu r3 (gNm 3) bd) (yx e2)))) [A,B]=.ok R:=by
 have st:yg 4 [A,B]=[some (.val A),some (.val B),none,none]:=rfl
 rw[yv,st]
 simp only[zV,ye,yT,yf,ym,vK,set_cons_succ,set_cons_zero,Fl.of_ok,yz,yb,Bool.false_eq_true,if_false,h0,h1,h2,h3,h4]
theorem zc0(q x:List Nat)(hne:q≠[])(hq:q.length≤1000)(hx:x.length≤1000)(ha:∀c∈q,c<128):vZ [tx q,tx x]=.ok (jF (Tq q x)):=by
 have hpos:0<q.length:=List.length_pos_iff.mpr hne
 obtain⟨m,hm⟩:∃m,q.length=m+1:=⟨q.length-1,by lia⟩
 obtain⟨s,hl⟩:=zb7 q x m hm hq hx ha
 have hmem:q.getD m 0∈q:=List.mem_of_getElem? (Zq q m (by lia))
 have d:y8 (q.drop m) x=Xm (q.getD m 0) x:=by
  have e1:q.drop m=[q.getD m 0]:=by
   rw[drop_eq_getElem_cons (by lia),getD_eq_getElem?_getD,getElem?_eq_getElem (by lia:m<q.length),List.drop_eq_nil_of_le (by lia)];rfl
  rw[e1];rfl
 rw[d] at hl
 have h0:FD.tB (eOp eqD (ya yA (za (ze 0) zi)) (eC (.int 0))) [some (.val (tx q)),some (.val (tx x)),none,none]=.ok false:=by
  refine xV (op2 (uk (zk rfl) (ZD q hq)) rfl ?_)
  rw[va]
  congr 2
  simp;exact hne
 have h1:zB yq (za (eOp ixD (ze 0) (wy (eC (.int 1)))) (za (ze 1) zi)) [some (.val (tx q)),some (.val (tx x)),none,none]=.ok (.lst ((Xm (q.getD m 0) x).map tlD)):=
  XG (op2 (zk rfl) rfl (zk0 q m hm hq)) (zk rfl) (X5 _ x (ha _ hmem) hx)
 have h4:zB z8 (za ldE zi) [some (.val (tx q)),some (.val (tx x)),some (.val (.lst ((y8 q x).map tlD))),s]=.ok (jF (Tq q x)):=
  ze9 (ld_ok _ _ _ _ (by have:=Wg x q;lia) fun t ht=>(Vz q x hne hq t ht).1) (ze7 _)
 unfold vZ
 rw[Tp]
 exact zm5 _ _ _ _ _ _ _ _ _ _ _ _ _ h0 h1 (bs_r3 q x _ m hm hq) hl h4
noncomputable abbrev hd0(t:Tl):Nat:=t.2.getD 0 0
noncomputable def Srt(ts:List Tl):Prop:=ts.Pairwise fun a b=>hd0 a<hd0 b
noncomputable def WF(q x:List Nat):Option Tl:=if q=[] then some (0,[]) else Tq q x
end Law
set_option Elab.async false
set_option linter.all false
set_option maxHeartbeats 1000000
namespace FD
open PySem PySem.Spec PyProof.Rows L2
theorem sl_ok{fe:FE}{fl fh:FO}{τ:DS}{d r:D}{l u:Option Int}(h1:fe τ=.ok d)(h2:fl τ=.ok l)(h3:fh τ=.ok u)(h:slD d l u=.ok r):eSl fe fl fh τ=.ok r:=by
 rw[Jg,h1,Rs.bind_ok,h2,Rs.bind_ok,h3,Rs.bind_ok,h]
theorem or_tl{f g:FT}{τ:DS}(h1:f τ=.ok true):jD f g τ=.ok true:=by rw[um,h1,Rs.bind_ok,if_pos rfl]
theorem Mo{f g:FT}{τ:DS}{b:Bool}(h1:f τ=.ok false)(h2:g τ=.ok b):jD f g τ=.ok b:=by rw[um,h1,Rs.bind_ok,if_neg (by simp),h2]
end FD
namespace Law
open PySem PySem.Spec PyProof.Rows L2 FD
theorem nilE{τ:DS}:xP zi τ=.ok (.lst []):=by
 rw[Vl,zD,Rs.bind_ok];exact if_pos (zero_le _)
theorem Tx(q x:List Nat)(hq:q.length≤1000)(hx:x.length≤1000)(ha:∀c∈q,c<128):vZ [tx q,tx x]=.ok (jF (WF q x)):=by
 by_cases z:q=[]
 ·subst z
  have st:yg 4 [tx [],tx x]=[some (.val (tx [])),some (.val (tx x)),none,none]:=rfl
  have hl:=ZD [] (by simp)
  have hg:FD.tB (eOp eqD (ya yA (za (ze 0) zi)) (eC (.int 0))) [some (.val (tx [])),some (.val (tx x)),none,none]=.ok true:=xV (op2 (uk (zk rfl) hl) rfl rfl)
  have he:xS (za (eC (.int 0)) (za (xP zi) zi)) [some (.val (tx [])),some (.val (tx x)),none,none]=.ok (.tup [.int 0,.lst []]):=Vw rfl nilE
  unfold vZ
  rw[Tp,yv,st,zV,yT,hg,Fl.of_ok,if_pos rfl,yf,he]
  rfl
 ·have:=zc0 q x z hq hx ha
  rw[this]
  unfold WF
  rw[if_neg z]
theorem Gc(fc:FA)(g:FT)(fx:FE)(A B C:D)(L:List D)(b:Bool)(d:D)(h1:fc [some (.val A),some (.val B),some (.val C),none]=.ok L)(h2:g [some (.val A),some (.val B),some (.val C),some (.own L)]=.ok b)
  (h3:b=true→fx [some (.val A),some (.val B),some (.val C),some (.own L)]=.ok d∧0<L.length) :
  wo 4 (zA (uQ 3 fc) (zA (sIf g (QE 3 (eC (.int 0)) fx) zS) (u0 3))) [A,B,C]=.ok (.lst (if b=true then L.set 0 d else L)):=by
 have st:yg 4 [A,B,C]=[some (.val A),some (.val B),some (.val C),none]:=rfl
 rw[yv,st]
 rcases b with _|_
 ·simp only[zV,vx,yT,vy,vB,ym,WP,yQ,getElem?_cons_zero,getElem?_cons_succ,set_cons_succ,set_cons_zero,wf,Fl.of_ok,yz,yb,Bool.false_eq_true,if_false,h1,h2,vx,vy,vB,wf,Bool.false_eq_true,if_false]
 ·obtain⟨h3,h4⟩:=h3 rfl
  have hp:=GV (n:=3) (τ:=[some (.val A),some (.val B),some (.val C),some (.own L)]) (d:=d) (j:=0) h4
  have e0:(((0:Nat):Int))=0:=rfl
  rw[e0] at hp
  simp only[zV,vx,yT,vy,vB,ym,WP,yQ,getElem?_cons_zero,getElem?_cons_succ,set_cons_succ,set_cons_zero,wf,Fl.of_ok,yz,yb,if_true,h1,h2,h3,vx,vy,vB,wf,WP,hp]
theorem zk2:uL=(zA (uQ 3 (wv 1 [0,1] (vJ (za (zB zx (za (ze 0) (za (ze 1) (za (eOp zN (ze 2) (eC (.int 1))) zi)))) zi)) (gNm 0) (fun _=>.ok true) (zB xE (za (ze 1) (za (eOp zN (eOp zN (ze 2) (eC (.int 1))) (eOp xY (eC (.int 12)) (ze 0))) zi)))))
  (zA (sIf (wZ (FD.tB (eOp gtD (Uz 3) (eC (.int 1)))) (FD.tB (eOp eqD (zB zx (za (ze 0) (za (eOp zN (ze 1) (eC (.int 12))) (za (eC (.int 5)) zi)))) (eC (.int 0))))) (QE 3 (eC (.int 0)) (Gf 3 (wy (eC (.int 1))))) zS)
  (u0 3))):=by unfold uL;rfl
noncomputable def UE(x:List Nat):Prop:=0<x.length∧x.length≤10∧∀c∈x,c∈NS
theorem MA(ns:List Int)(a:Int)(h0:0≤a):UE (vR ns a (Wq ns a)):=by
 have d:=wX ns a (m:=10) (by decide)
 have hl:(vR ns a (Wq ns a)).length=(1+xX ns a 10).toNat:=by simp[vR,Wq]
 refine⟨by rw[hl];lia,by rw[hl];lia,fun c hc=>?_⟩
 obtain⟨k,_,rfl⟩:=mem_map.mp hc
 exact QX ns a k (by lia)
theorem and_b{f g:FT}{τ:DS}{b c:Bool}(h1:f τ=.ok b)(h2:b=true→g τ=.ok c):wZ f g τ=.ok (b&&c):=by
 rw[uo,h1,Rs.bind_ok]
 rcases b with _|_
 ·rfl
 ·rw[if_pos rfl,h2 rfl];rfl
theorem Mz(ns:List Int)(a most:Int)(h63:ns.length≤63)(h0:0≤a)(ha:a<800000)(hm0:0≤most)(hm1:most<50) :
  ∃X:List (List Nat),xO [.scr ns,.int a,.int most]=.ok (.lst (X.map tx))∧(X.length:Int)≤most∧∀x∈X,UE x:=by
 have dl:=wX ns a (m:=most+1) (by lia)
 have dk:=wD ns a (most+1) h63 h0 (by lia) (by lia)
 have dk2:=wD ns (a+12) 5 h63 (by lia) (by lia) (by decide)
 generalize hN:xX ns a (most+1)=N at *
 generalize xX ns (a+12) 5=M at *
 have cf:=uh (set:=gNm 0) (fe:=(zB xE (za (ze 1) (za (eOp zN (eOp zN (ze 2) (eC (.int 1))) (eOp xY (eC (.int 12)) (ze 0))) zi)))) (τ:=[none,some (.val (.scr ns)),some (.val (.int a))]) (fun (k:Nat)=>D.int (0+k)) tx
  (fun k=>vR ns (a+1+12*(k:Int)) (Wq ns (a+1+12*(k:Int)))) (List.range N.toNat) fun k hk=>by
   have hk:=mem_range.mp hk
   refine Y11 [some (.val (.int (k:Int))),some (.val (.scr ns)),some (.val (.int a))] (by rw[Int.zero_add];rfl) ?_
   exact XG (zk rfl) (op2 (op2 (zk rfl) rfl yI) (op2 rfl (zk rfl) (wH (by lia))) yI) (LH ns _ h63 (by lia) (by lia))
 have it:vJ (za (zB zx (za (ze 0) (za (ze 1) (za (eOp zN (ze 2) (eC (.int 1))) zi)))) zi) [some (.val (.scr ns)),some (.val (.int a)),some (.val (.int most)),none]=.ok ((List.range N.toNat).map fun (k:Nat)=>D.int (0+k)):=
  YR (n:=N.toNat) (by rw[Int.toNat_of_nonneg dl.1];exact wM (zk rfl) (zk rfl) (op2 (zk rfl) rfl yI) dk) (by lia)
 have ec:=vT (k:=1) (idx:=[0,1]) it cf (by simp;lia)
 generalize hX0:(List.range N.toNat).map (fun (k:Nat)=>vR ns (a+1+12*(k:Int)) (Wq ns (a+1+12*(k:Int))))=X0 at ec cf
 have l0:X0.length=N.toNat:=by rw[← hX0];simp
 have ok0:∀x∈X0,UE x:=fun x hx=>by
  rw[← hX0] at hx
  obtain⟨k,_,rfl⟩:=mem_map.mp hx
  exact MA ns _ (by lia)
 have hg:wZ (FD.tB (eOp gtD (Uz 3) (eC (.int 1)))) (FD.tB (eOp eqD (zB zx (za (ze 0) (za (eOp zN (ze 1) (eC (.int 12))) (za (eC (.int 5)) zi)))) (eC (.int 0)))) [some (.val (.scr ns)),some (.val (.int a)),some (.val (.int most)),some (.own (X0.map tx))]=.ok (decide (1<(X0.length:Int))&&(M==0)):=
  and_b (xV (op2 (a:=.int (X0.length:Int)) (by rw[Tc];show Rs.ok (D.int ((X0.map tx).length:Int))=_;rw[length_map]) rfl Ut)) fun _=>xV (op2 (wM (zk rfl) (op2 (zk rfl) rfl yI) rfl dk2) rfl va)
 have hne:(decide (1<(X0.length:Int))&&(M==0))=true→0<X0.length:=fun h=>by
  rw[Bool.and_eq_true,decide_eq_true_eq] at h;lia
 have e:=Gc _ _ (Gf 3 (wy (eC (.int 1)))) (.scr ns) (.int a) (.int most) (X0.map tx) _ (tx (X0.getD (X0.length-1) [])) ec hg fun h=>by
  have hp:=hne h
  refine⟨?_,by rw[length_map];exact hp⟩
  rw[zb0]
  show(Rs.ok (X0.map tx)).bind (fun ds=>(wy (eC (.int 1)) _).bind (ixO ds))=_
  rw[Rs.bind_ok,YD,yQ,Rs.bind_ok]
  show(Rs.ok (D.int (-1))).bind _=_
  rw[Rs.bind_ok]
  unfold ixO
  have:atI (X0.map tx) (-1)=some (tx (X0.getD (X0.length-1) [])):=by
   have e:ixN (X0.map tx).length (-1)=some (X0.length-1):=by
    unfold ixN
    rw[length_map,if_neg (by lia),if_pos (by lia)]
    congr 1;lia
   unfold atI
   rw[e]
   show(X0.map tx)[X0.length-1]?=_
   rw[getElem?_map,getElem?_eq_getElem (by lia)]
   simp[show X0.length-1<X0.length by lia]
  simp only[this]
 unfold xO
 rw[zk2,e]
 rcases hb:(decide (1<(X0.length:Int))&&(M==0)) with _|_
 ·exact Y12 X0 (by rw[if_neg (by simp)]) (by lia) ok0
 ·have hp:=hne hb
  refine Y12 (X0.set 0 (X0.getD (X0.length-1) [])) (by rw[if_pos rfl,List.map_set]) (by rw[List.length_set];lia) (fun x hx=>?_)
  rcases List.mem_or_eq_of_mem_set hx with h|h
  ·exact ok0 x h
  ·rw[h]
   have:X0.getD (X0.length-1) []=X0[X0.length-1]'(by lia):=by simp[show X0.length-1<X0.length by lia]
   rw[this]
   exact ok0 _ (List.getElem_mem _)
theorem Ur{α β:Type}(f:α→β)(x:List Int×α):∀l:List (List Int×α),Xs (x.1,f x.2) (l.map fun p=>(p.1,f p.2))=(Xs x l).map fun p=>(p.1,f p.2):=by
 intro l_
 induction l_ with
 |nil=>
  exact rfl
 |cons y r ih_=>
  rw[map_cons,Xs,Xs]
  split
  ·rfl
  ·rw[ih_];rfl
theorem Wk{α β:Type}(f:α→β):∀l:List (List Int×α),wP (l.map fun p=>(p.1,f p.2))=(wP l).map fun p=>(p.1,f p.2):=by
 intro l_
 induction l_ with
 |nil=>
  exact rfl
 |cons x r ih_=>
  rw[map_cons,wP,wP,ih_,Ur]
noncomputable def uZ{α:Type}(key:α→List Int)(rs:List α):List α:=(wP (rs.map fun r=>(key r,r))).map (·.2)
theorem TX{α:Type}(key:α→List Int)(f:α→D)(rs:List α):(wP ((rs.map key).zip (rs.map f))).map (·.2)=(uZ key rs).map f:=by
 have e:(rs.map key).zip (rs.map f)=(rs.map fun r=>(key r,r)).map fun p=>(p.1,f p.2):=by
  induction rs with
  |nil=>rfl
  |cons r rs ih=>simp only[map_cons,List.zip_cons_cons,ih]
 rw[e,Wk]
 unfold uZ
 rw[map_map,map_map];rfl
theorem UL{α:Type}(key:α→List Int)(rs:List α):(uZ key rs).Perm rs:=by
 have:=(up (rs.map fun r=>(key r,r))).map (·.2)
 rw[map_map] at this
 have e:rs.map ((fun p:List Int×α=>p.2) ∘ fun r=>(key r,r))=rs:=by
  rw[show((fun p:List Int×α=>p.2) ∘ fun r=>(key r,r))=id from rfl,map_id]
 rw[e] at this
 exact this
noncomputable def kD(k:List Int):D:=.tup (k.map D.int)
theorem Wy:∀k:List Int,Xr (k.map D.int)=some k:=by
 intro l_
 induction l_ with
 |nil=>
  exact rfl
 |cons i k ih_=>
  show(Xr (k.map D.int)).map (i :: ·)=_
  rw[ih_];rfl
theorem zl3(k:List Int):L3 (kD k)=some k:=Wy k
theorem Ww{α:Type}(key:α→List Int):∀rs:List α,Yg (rs.map fun r=>kD (key r))=some (rs.map key):=by
 intro l_
 induction l_ with
 |nil=>
  exact rfl
 |cons r rs ih_=>
  rw[map_cons,Yg,zl3,ih_];rfl
theorem UP{α:Type}(key:α→List Int)(f:α→D)(rs:List α)(h64:rs.length<64)(nd:(rs.map key).Nodup)(ne:∀r,key r≠[]):ZF (rs.map fun r=>kD (key r)) (rs.map f)=.ok (.lst ((uZ key rs).map f)):=by
 unfold ZF
 rw[Ww]
 simp only
 rw[if_pos ⟨by simpa using h64,nd,fun k hk=>by obtain⟨r,_,rfl⟩:=mem_map.mp hk;exact ne r⟩,TX]
theorem Ye{α:Type}{idx:List Nat}{fb:FE}{τ:DS}(key:α→List Int)(f:α→D):∀rs:List α,(∀r∈rs,Q6 idx fb τ (f r)=.ok (kD (key r)))→vq idx fb τ (rs.map f)=.ok (rs.map fun r=>kD (key r)):=by
 intro l_
 induction l_ with
 |nil=>
  rintro _
  exact rfl
 |cons r rs ih_=>
  rintro h
  rw[map_cons,vq,h r mem_cons_self]
  simp only[ih_ fun s hs=>h s (mem_cons_of_mem _ hs),map_cons]
theorem Jf{α:Type}{idx:List Nat}{fe fb:FE}{τ:DS}(key:α→List Int)(f:α→D)(rs:List α)(h:fe τ=.ok (.lst (rs.map f)))(hk:∀r∈rs,Q6 idx fb τ (f r)=.ok (kD (key r)))(h64:rs.length<64)(nd:(rs.map key).Nodup)(ne:∀r,key r≠[]) :
  XC idx fe fb τ=.ok (.lst ((uZ key rs).map f)):=by
 unfold XC
 rw[h,Rs.bind_ok]
 simp only[Ye key f rs hk]
 exact UP key f rs h64 nd ne
noncomputable abbrev Rw:=Int×Nat
noncomputable def zv(r:Rw):D:=.tup [.int r.1,.int (r.2:Int)]
theorem zd5(r:Rw):ixD (zv r) (.int 0)=.ok (.int r.1):=rfl
theorem Z7(r:Rw):ixD (zv r) (.int 1)=.ok (.int (r.2:Int)):=rfl
theorem Wo{key:Rw→List Int}(hk:∀r s,key r=key s→r.2=s.2):∀rs:List Rw,(rs.map (·.2)).Nodup→(rs.map key).Nodup:=by
 intro l_
 induction l_ with
 |nil=>
  rintro _
  exact List.nodup_nil
 |cons r rs ih_=>
  rintro h
  rw[map_cons,nodup_cons] at h ⊢
  refine⟨fun hm=>h.1 ?_,ih_ h.2⟩
  refine X11 (mem_map.mp hm) fun s hs e=>?_
  exact mem_map.mpr ⟨s,hs,hk s r e⟩
noncomputable def Xn(X:List (List Nat))(r:Rw):List Int:=[-r.1,((X.getD r.2 []).length:Int),(r.2:Int)]
theorem MU(X:List (List Nat))(r s:Rw)(h:Xn X r=Xn X s):r.2=s.2:=by
 unfold Xn at h
 injection h with h1 h2
 injection h2 with h2 h3
 injection h3 with h3 _
 lia
theorem size3:∀a b c:D,([a,b,c]:List D).length≤sizeLine:=fun a b c=>by rw[zZ];exact Nat.le_of_ble_eq_true rfl
theorem tup3{fa fb fc:FE}{τ:DS}{a b c:D}(h1:fa τ=.ok a)(h2:fb τ=.ok b)(h3:fc τ=.ok c):xS (za fa (za fb (za fc zi))) τ=.ok (.tup [a,b,c]):=by
 rw[Qk,zE,h1,Rs.bind_ok,zE,h2,Rs.bind_ok,zE,h3,Rs.bind_ok,zD,Rs.bind_ok,Rs.bind_ok,Rs.bind_ok,Rs.bind_ok]
 exact if_pos (size3 a b c)
theorem Xf{fa:FE}{τ:DS}{i:Int}(h:fa τ=.ok (.int i)):wy fa τ=.ok (.int (-i)):=by rw[YD,h];rfl
theorem Xg(X:List (List Nat))(i:Nat)(h:i<X.length):ixD (.lst (X.map tx)) (.int (i:Int))=.ok (tx (X.getD i [])):=by
 refine YB (YH ?_)
 rw[getElem?_map,getElem?_eq_getElem h]
 simp[h]
theorem TQ(ds:List D)(n:Nat):slD (.lst ds) none (some (n:Int))=.ok (.lst (ds.take n)):=by
 have:FD.cutD ds none (some (n:Int))=ds.take n:=by
  have e0:HT.sIx ds.length 0 none=0:=rfl
  have e1:HT.sIx ds.length ds.length (some (n:Int))=min n ds.length:=by
   unfold HT.sIx
   have:¬ ((n:Int)<0):=by lia
   simp[this]
  unfold FD.cutD
  rw[e0,e1,drop_zero,Nat.sub_zero]
  rcases Nat.le_total n ds.length with z|z
  ·rw[Nat.min_eq_left z]
  ·rw[Nat.min_eq_right z,List.take_length,List.take_of_length_le z]
 show Rs.ok (D.lst (FD.cutD ds none (some (n:Int))))=_
 rw[this]
theorem Lz:j3=(yx (XC [0] (ze 1) (xS (za (wy (eOp ixD (ze 0) (eC (.int 0)))) (za (ya yA (za (eOp ixD (ze 1) (eOp ixD (ze 0) (eC (.int 1)))) zi)) (za (eOp ixD (ze 0) (eC (.int 1))) zi)))))):=by unfold j3;rfl
structure zn9(X:List (List Nat))(rs:List Rw):Prop where
 few:rs.length<64
 nd:(rs.map (·.2)).Nodup
 lt:∀r∈rs,r.2<X.length
 sz:∀x∈X,x.length≤1000
theorem getD_mem{X:List (List Nat)}{i:Nat}(h:i<X.length):X.getD i []∈X:=by
 have:X.getD i []=X[i]:=by simp[h]
 rw[this];exact List.getElem_mem _
theorem Mn(X:List (List Nat))(rs:List Rw)(h:zn9 X rs):wb [.lst (X.map tx),.lst (rs.map zv)]=.ok (.lst ((uZ (Xn X) rs).map zv)):=by
 have st:yg 2 [.lst (X.map tx),.lst (rs.map zv)]=[some (.val (.lst (X.map tx))),some (.val (.lst (rs.map zv)))]:=rfl
 unfold wb
 rw[Lz,yv,st,yf,Jf (Xn X) zv rs (zk rfl) (fun r hr=>?_) h.few (Wo (MU X) rs h.nd) (fun r z=>nomatch z)]
 ·rfl
 ·have hlt:=h.lt r hr
  have hsz:=h.sz _ (getD_mem hlt)
  have:xS (za (wy (eOp ixD (ze 0) (eC (.int 0)))) (za (ya yA (za (eOp ixD (ze 1) (eOp ixD (ze 0) (eC (.int 1)))) zi)) (za (eOp ixD (ze 0) (eC (.int 1))) zi))) [some (.val (zv r)),some (.val (.lst (X.map tx)))]=.ok (kD (Xn X r)):=tup3 (Xf (op2 (zk rfl) rfl (zd5 r))) (uk (op2 (zk rfl) (op2 (zk rfl) rfl (Z7 r)) (Xg X r.2 hlt)) (ZD _ hsz)) (op2 (zk rfl) rfl (Z7 r))
  exact this
theorem U3(i j:Int):ud [.int i,.int j]=.ok (.int (if i<j then j else i)):=rfl
theorem za6:uJ=(yx (eSl (zB wb (za (ze 0) (za (ze 1) zi))) JR (w5 (ya ud (za (ze 2) (za (eC (.int 0)) zi)))))):=by unfold uJ;rfl
theorem zb9{g:List D→Rs D}{fa fb:FE}{τ:DS}{a b d:D}(h1:fa τ=.ok a)(h2:fb τ=.ok b)(h:g [a,b]=.ok d):ya g (za fa (za fb zi)) τ=.ok d:=by
 rw[jB,zE,h1,Rs.bind_ok,zE,h2,Rs.bind_ok,zD,Rs.bind_ok,Rs.bind_ok,Rs.bind_ok,h]
theorem UY{fa:FE}{τ:DS}{i:Int}(h:fa τ=.ok (.int i)):w5 fa τ=.ok (some i):=by rw[V6,h];rfl
theorem M7(X:List (List Nat))(rs:List Rw)(many:Nat)(h:zn9 X rs):xn [.lst (X.map tx),.lst (rs.map zv),.int (many:Int)]=.ok (.lst (((uZ (Xn X) rs).take many).map zv)):=by
 have st:yg 3 [.lst (X.map tx),.lst (rs.map zv),.int (many:Int)]=[some (.val (.lst (X.map tx))),some (.val (.lst (rs.map zv))),some (.val (.int (many:Int)))]:=rfl
 have hm:ud [.int (many:Int),.int 0]=.ok (.int (many:Int)):=by
  rw[U3];rw[if_neg (by lia)]
 have e:eSl (zB wb (za (ze 0) (za (ze 1) zi))) JR (w5 (ya ud (za (ze 2) (za (eC (.int 0)) zi)))) [some (.val (.lst (X.map tx))),some (.val (.lst (rs.map zv))),some (.val (.int (many:Int)))]=.ok (.lst (((uZ (Xn X) rs).take many).map zv)):=
  sl_ok (XG (zk rfl) (zk rfl) (Mn X rs h)) rfl (UY (zb9 (zk rfl) rfl hm)) (by rw[TQ,List.map_take])
 unfold xn
 rw[za6,yv,st,yf,e];rfl
noncomputable def fr1(X:List (List Nat))(q:List Nat)(i:Nat):Option Rw:=(WF q (X.getD i [])).map fun t=>(t.1,i)
noncomputable def Zs:FS:=(zA (zU 5 (zB vZ (za (ze 1) (za (eOp ixD (ze 0) (ze 4)) zi))))
  (sIf (FD.tB (eOp we (ze 5) (eC .non))) (VL 3 (xS (za (eOp ixD (ze 5) (eC (.int 0))) (za (ze 4) zi)))) zS))
theorem fit_b:vG=(zA (uQ 3 (fun τ=>(zi τ).bind fun ds=>if ds.length≤sizeLine then .ok ds else .no)) (zA (uu (wN (ze 2)) (gNm 4) Zs) (u0 3))):=by unfold vG Zs;rfl
theorem M2(e e2:FE)(a0 a1 a2 a3 a4 a5:Option Sl)(h:e [a0,a1,a2,a3,a4,a5]=.ok .non) :
  (zA (zU 5 e) (sIf (FD.tB (eOp we (ze 5) (eC .non))) (VL 3 e2) zS)) [a0,a1,a2,a3,a4,a5]=.nx [a0,a1,a2,a3,a4,some (.val .non)]:=by
 simp only[zV,ye,yT,ym,Zc,wI,yB,zW,yQ,getElem?_cons_zero,getElem?_cons_succ,set_cons_succ,set_cons_zero,zM,Rs.bind_ok,Fl.of_ok,yz,yi,Bool.false_eq_true,if_false,h,uf]
theorem M1(e e2:FE)(a0 a1 a2 a4 a5:Option Sl)(L:List D)(t:Tl)(R:D)(h:e [a0,a1,a2,some (.own L),a4,a5]=.ok (tlD t))(h2:e2 [a0,a1,a2,some (.own L),a4,some (.val (tlD t))]=.ok R)(hl:L.length<sizeLine) :
  (zA (zU 5 e) (sIf (FD.tB (eOp we (ze 5) (eC .non))) (VL 3 e2) zS)) [a0,a1,a2,some (.own L),a4,a5]=.nx [a0,a1,a2,some (.own (L++[R])),a4,some (.val (tlD t))]:=by
 simp only[zV,ye,yT,ym,Zc,wI,yB,zW,yQ,getElem?_cons_zero,getElem?_cons_succ,set_cons_succ,set_cons_zero,zM,wf,Rs.bind_ok,Fl.of_ok,yz,yi,if_true,h,Um,h2,Zc,wf]
 rw[if_pos hl]
theorem M6(X:List (List Nat))(q:List Nat)(i:Nat)(a2 a5:Option Sl)(acc:List Rw)(hi:i<X.length)(hq:q.length≤1000)(hX:∀x∈X,x.length≤1000)(ha:∀c∈q,c<128)(hc:acc.length≤1000) :
  ∃t5,Zs [some (.val (.lst (X.map tx))),some (.val (tx q)),a2,some (.own (acc.map zv)),some (.val (.int (i:Int))),a5]=.nx [some (.val (.lst (X.map tx))),some (.val (tx q)),a2,some (.own ((acc++(fr1 X q i).toList).map zv)),some (.val (.int (i:Int))),t5]:=by
 have hb:=Tx q (X.getD i []) hq (hX _ (getD_mem hi)) ha
 have he:zB vZ (za (ze 1) (za (eOp ixD (ze 0) (ze 4)) zi)) [some (.val (.lst (X.map tx))),some (.val (tx q)),a2,some (.own (acc.map zv)),some (.val (.int (i:Int))),a5]=.ok (jF (WF q (X.getD i []))):=
  XG (zk rfl) (op2 (zk rfl) (zk rfl) (Xg X i hi)) hb
 unfold Zs fr1
 rcases z:WF q (X.getD i []) with _|t
 ·rw[z] at he
  exact⟨some (.val .non),(M2 _ _ _ _ _ _ _ _ he).trans (by simp)⟩
 ·rw[z] at he
  have h2:xS (za (eOp ixD (ze 5) (eC (.int 0))) (za (ze 4) zi)) [some (.val (.lst (X.map tx))),some (.val (tx q)),a2,some (.own (acc.map zv)),some (.val (.int (i:Int))),some (.val (tlD t))]=.ok (zv (t.1,i)):=Vw (op2 (zk rfl) rfl (Qy t)) (zk rfl)
  exact⟨some (.val (tlD t)),(M1 _ _ _ _ _ _ _ _ t _ he h2 (by rw[zZ,length_map];lia)).trans (by simp)⟩
noncomputable def Je(X:List (List Nat))(q:List Nat)(is:List Nat):List Rw:=is.flatMap fun i=>(fr1 X q i).toList
theorem Uw(X:List (List Nat))(q:List Nat)(a2:Option Sl)(hq:q.length≤1000)(hX:∀x∈X,x.length≤1000)(ha:∀c∈q,c<128):∀(is:List Nat) (acc:List Rw) (a4 a5:Option Sl),(∀i∈is,i<X.length)→acc.length+is.length≤1000 →
  ∃t4 t5,xB (gNm 4) Zs (is.map fun (i:Nat)=>D.int i) [some (.val (.lst (X.map tx))),some (.val (tx q)),a2,some (.own (acc.map zv)),a4,a5]=.nx [some (.val (.lst (X.map tx))),some (.val (tx q)),a2,some (.own ((acc++Je X q is).map zv)),t4,t5]:=by
 intro l_
 induction l_ with
 |nil=>
  rintro acc a4 a5 _ _
  exact Y20 a4 a5 (by unfold Je;simp[xB])
 |cons i is ih_=>
  rintro acc a4 a5 hi hc
  rw[length_cons] at hc
  obtain⟨t5,e⟩:=M6 X q i a2 a5 acc (hi i mem_cons_self) hq hX ha (by lia)
  have hl:(acc++(fr1 X q i).toList).length+is.length≤1000:=by
   rw[length_append]
   have:(fr1 X q i).toList.length≤1:=by cases fr1 X q i <;> simp
   lia
  refine X20 (ih_ (acc++(fr1 X q i).toList) (some (.val (.int (i:Int)))) t5 (fun j hj=>hi j (mem_cons_of_mem _ hj)) hl) fun u4 u5 ih=>?_
  refine Y20 u4 u5 ?_
  rw[map_cons,xB,Z0,Fl.of_ok]
  simp only[set_cons_succ,set_cons_zero,e]
  rw[ih]
  unfold Je
  rw[List.flatMap_cons,List.append_assoc]
theorem nilO(τ:DS):(fun τ=>(zi τ).bind fun ds=>if ds.length≤sizeLine then Rs.ok ds else Rs.no) τ=.ok []:=by
 show(if ([]:List D).length≤sizeLine then Rs.ok [] else Rs.no)=_
 exact if_pos (zero_le sizeLine)
theorem M0(e:FA)(b:FS)(A B C:D)(L R:List D)(t4 t5:Option Sl)(h0:e [some (.val A),some (.val B),some (.val C),none,none,none]=.ok [])(hi:J8 C=.ok L)
  (h1:xB (gNm 4) b L [some (.val A),some (.val B),some (.val C),some (.own []),none,none]=.nx [some (.val A),some (.val B),some (.val C),some (.own R),t4,t5]) :
  wo 6 (zA (uQ 3 e) (zA (uu (wN (ze 2)) (gNm 4) b) (u0 3))) [A,B,C]=.ok (.lst R):=by
 have st:yg 6 [A,B,C]=[some (.val A),some (.val B),some (.val C),none,none,none]:=rfl
 rw[yv,st]
 simp only[zV,vx,vy,vB,vK,Qe,zW,getElem?_cons_zero,getElem?_cons_succ,set_cons_succ,set_cons_zero,zM,wf,Rs.bind_ok,Fl.of_ok,yz,yb,h0,hi,h1,vx,vy,vB,wf]
theorem za5(X:List (List Nat))(q:List Nat)(is:List Nat)(hq:q.length≤1000)(hX:∀x∈X,x.length≤1000)(ha:∀c∈q,c<128)(hi:∀i∈is,i<X.length)(hl:is.length≤1000) :
  yN [.lst (X.map tx),tx q,.lst (is.map fun (i:Nat)=>D.int i)]=.ok (.lst ((Je X q is).map zv)):=by
 refine X20 (Uw X q (some (.val (.lst (is.map fun (i:Nat)=>D.int i)))) hq hX ha is [] none none hi (by simpa using hl)) fun t4 t5 h=>?_
 unfold yN
 rw[fit_b]
 exact M0 _ _ _ _ _ _ _ _ _ (nilO _) rfl (by simpa using h)
theorem or_b{f g:FT}{τ:DS}{b c:Bool}(h1:f τ=.ok b)(h2:b=false→g τ=.ok c):jD f g τ=.ok (b||c):=by
 rcases b with _|_
 ·exact Mo h1 (h2 rfl)
 ·exact or_tl h1
theorem jA:∀rs:List Rw,plainDs (rs.map zv)=true∧PyData.canLayAll0 (toPys (rs.map zv))=true∧PyData.depthAll (toPys (rs.map zv))≤1:=by
 intro l_
 induction l_ with
 |nil=>
  exact⟨rfl,rfl,zero_le _⟩
 |cons r rs ih_=>
  refine X02 ih_ fun h1 h2 h3=>?_
  refine⟨by simp[plainDs,xf,zv,h1],by simp[toPys,yG,zv,PyData.canLayAll0,PyData.canLay0,h2],?_⟩
  simp only[map_cons,toPys,yG,zv,PyData.depthAll,PyData.depth]
  lia
theorem Xy:∀rs:List Rw,PyData.eqvAll (toPys (rs.map zv)) (toPys (rs.map zv))=true:=by
 intro l_
 induction l_ with
 |nil=>
  rfl
 |cons r rs ih_=>
  have:=ih_
  simp[toPys,yG,zv,PyData.eqvAll,PyData.eqv,this]
noncomputable def abcN:List Nat:=[97,98,99]
theorem abc_s:("abc" : Str)=⟨abcN.toArray⟩:=by decide +kernel
theorem zn6:UE abcN:=⟨by decide,by decide,by decide⟩
theorem zb6(X:List (List Nat))(h:X.length≤1000):zN (.lst (X.map tx)) (.lst [.str "abc"])=.ok (.lst ((X++[abcN]).map tx)):=by
 show(if _ then Rs.ok (D.lst _) else Rs.no)=_
 rw[if_pos (by rw[zZ,length_map,length_singleton];lia),map_append,abc_s]
 rfl
theorem zn0{f:List D→Rs D}{fa fb fc fd:FE}{τ:DS}{a b c d r:D}(h1:fa τ=.ok a)(h2:fb τ=.ok b)(h3:fc τ=.ok c)(h4:fd τ=.ok d)(h:f [a,b,c,d]=.ok r):zB f (za fa (za fb (za fc (za fd zi)))) τ=.ok r:=by
 rw[yW,zE,h1,Rs.bind_ok,zE,h2,Rs.bind_ok,zE,h3,Rs.bind_ok,zE,h4,Rs.bind_ok,zD,Rs.bind_ok,Rs.bind_ok,Rs.bind_ok,Rs.bind_ok,Rs.bind_ok,h];rfl
noncomputable def Vs(X:List (List Nat))(q:List Nat):List Rw:=Je X q (List.range X.length)
theorem ZB(X:List (List Nat))(q:List Nat):∀is:List Nat,((Je X q is).map (·.2)).Sublist is:=by
 intro l_
 induction l_ with
 |nil=>
  exact List.Sublist.refl _
 |cons i is ih_=>
  have ih:=ih_
  unfold Je at ih ⊢
  rw[List.flatMap_cons,map_append]
  unfold fr1 at ih ⊢
  rcases z:WF q (X.getD i []) with _|t
  ·simp;exact List.Sublist.cons _ (by simpa using ih)
  ·simp;exact(by simpa using ih)
theorem zc5(X:List (List Nat))(q:List Nat)(hX:∀x∈X,x.length≤1000)(hl:X.length<64):zn9 X (Vs X q):=by
 have s:=ZB X q (List.range X.length)
 refine⟨?_,s.nodup List.nodup_range,fun r hr=>?_,hX⟩
 ·have:=s.length_le
  rw[length_map,length_range] at this
  unfold Vs;lia
 ·have:=s.mem (mem_map.mpr ⟨r,hr,rfl⟩)
  simpa using this
theorem JC(n:Nat):((List.range n).map fun (k:Nat)=>D.int (0+k))=(List.range n).map fun (i:Nat)=>D.int i:=List.map_congr_left fun k _=>by rw[Int.zero_add]
theorem all_b:j4=(yx (zB yN (za (ze 0) (za (ze 1) (za (fun τ=>((Ud (vJ (za (ya yA (za (ze 0) zi)) zi))) τ).bind fun ds=>.ok (.lst ds)) zi))))):=by unfold j4;rfl
theorem zn5(X:List (List Nat))(q:List Nat)(hq:q.length≤1000)(hX:∀x∈X,x.length≤1000)(ha:∀c∈q,c<128)(hl:X.length<64):wc [.lst (X.map tx),tx q]=.ok (.lst ((Vs X q).map zv)):=by
 have st:yg 2 [.lst (X.map tx),tx q]=[some (.val (.lst (X.map tx))),some (.val (tx q))]:=rfl
 have r1:vJ (za (ya yA (za (ze 0) zi)) zi) [some (.val (.lst (X.map tx))),some (.val (tx q))]=.ok ((List.range X.length).map fun (i:Nat)=>D.int i):=by
  rw[← JC]
  exact YR (uk (zk rfl) (by rw[wd,length_map])) (by lia)
 have e:zB yN (za (ze 0) (za (ze 1) (za (fun τ=>((Ud (vJ (za (ya yA (za (ze 0) zi)) zi))) τ).bind fun ds=>.ok (.lst ds)) zi))) [some (.val (.lst (X.map tx))),some (.val (tx q))]=.ok (.lst ((Vs X q).map zv)):=by
  refine wM (zk rfl) (zk rfl) ?_ (za5 X q (List.range X.length) hq hX ha (fun i hi=>mem_range.mp hi) (by rw[length_range];lia))
  unfold Ud
  rw[r1,Rs.bind_ok,if_pos (by rw[length_map,length_range];lia)];rfl
 unfold wc
 rw[all_b,yv,st,yf,e];rfl
theorem za7:Vq=(yx (zB xn (za (ze 0) (za (zB wc (za (ze 0) (za (ze 1) zi))) (za (ze 2) zi))))):=by unfold Vq;rfl
theorem M8(X:List (List Nat))(q:List Nat)(many:Nat)(hq:q.length≤1000)(hX:∀x∈X,x.length≤1000)(ha:∀c∈q,c<128)(hl:X.length<64):yF [.lst (X.map tx),tx q,.int (many:Int)]=.ok (.lst (((uZ (Xn X) (Vs X q)).take many).map zv)):=by
 have st:yg 3 [.lst (X.map tx),tx q,.int (many:Int)]=[some (.val (.lst (X.map tx))),some (.val (tx q)),some (.val (.int (many:Int)))]:=rfl
 have e:zB xn (za (ze 0) (za (zB wc (za (ze 0) (za (ze 1) zi))) (za (ze 2) zi))) [some (.val (.lst (X.map tx))),some (.val (tx q)),some (.val (.int (many:Int)))]=.ok (.lst (((uZ (Xn X) (Vs X q)).take many).map zv)):=
  wM (zk rfl) (XG (zk rfl) (zk rfl) (zn5 X q hq hX ha hl)) (zk rfl) (M7 X _ many (zc5 X q hX hl))
 unfold yF
 rw[za7,yv,st,yf,e];rfl
theorem Vc(rs:List Rw):neD (.lst (rs.map zv)) (.lst (rs.map zv))=.ok (.bl false):=by
 refine X02 (jA rs) fun a b c=>?_
 have ok:okD (.lst (rs.map zv))=true:=by
  simp[okD,xf,yG,PyData.canLay0,PyData.depth,a,b]
  lia
 have ev:wO (.lst (rs.map zv)) (.lst (rs.map zv))=true:=by
  simp[wO,yG,PyData.eqv,Xy]
 unfold neD
 simp only[ok,and_self,if_true,ev,Bool.not_true]
theorem Qs{f g:FT}{τ:DS}(h1:f τ=.ok false):wZ f g τ=.ok false:=by rw[uo,h1,Rs.bind_ok,if_neg (by simp)]
theorem Qr{f g:FT}{τ:DS}{b:Bool}(h1:f τ=.ok true)(h2:g τ=.ok b):wZ f g τ=.ok b:=by rw[uo,h1,Rs.bind_ok,if_pos rfl,h2]
theorem zQ{f g:FS}{τ τ':DS}(h:f τ=.nx τ'):zA f g τ=g τ':=by rw[zV,h,yz]
theorem Jb{g:FT}{a b:FS}{τ:DS}(h:g τ=.ok false):sIf g a b τ=b τ:=by rw[yT,h,Fl.of_ok,if_neg (by simp)]
theorem X6{g:FT}{a b:FS}{τ:DS}(h:g τ=.ok true):sIf g a b τ=a τ:=by rw[yT,h,Fl.of_ok,if_pos rfl]
theorem ZZ{g:FT}{a:FS}{τ:DS}(h:g τ=.ok false):sIf g a zS τ=.nx τ:=Jb h
theorem yR{i:Nat}{fe:FE}{τ:DS}{d:D}(h:fe τ=.ok d):zU i fe τ=.nx (τ.set i (some (.val d))):=by rw[ye,h,Fl.of_ok]
theorem ZJ{fe:FE}{τ:DS}{d:D}(h:fe τ=.ok d):yx fe τ=.rt d:=by rw[yf,h,Fl.of_ok]
theorem WS{fe:FE}{τ:DS}{d:D}(h:fe τ=.ok d):uR fe τ=.ro d τ:=by unfold uR;rw[h,Fl.of_ok]
theorem jX{τ:DS}{i n:Nat}{c:Str}{fs:Fs}(h:τ[i]?=some (some (.obj n c fs))):vY τ i c=.ok fs:=by unfold vY;rw[h];exact if_pos rfl
theorem V5{τ:DS}{i:Nat}{c:Str}{fs:Fs}(h:τ[i]?=some (some (.obr c fs))):vY τ i c=.ok fs:=by unfold vY;rw[h];exact if_pos rfl
theorem W2{τ:DS}{i n:Nat}{c:Str}{fs:Fs}(h:τ[i]?=some (some (.obj n c fs))):vp τ i c=.ok (n,fs):=by unfold vp;rw[h];exact if_pos rfl
theorem wg{τ:DS}{i:Nat}{c f:Str}{fs:Fs}{d:D}(h:vY τ i c=.ok fs)(hf:xh f fs=some d):eAt i c f τ=.ok d:=by unfold eAt;rw[h,Rs.bind_ok,hf]
theorem uq{τ:DS}{i n:Nat}{c f:Str}{fs:Fs}{d:D}{fe:FE}(he:fe τ=.ok d)(h:τ[i]?=some (some (.obj n c fs)))(hl:fs.length<1000):sAt i c f fe τ=.nx (τ.set i (some (.obj n c (wY f d fs)))):=by
 unfold sAt;rw[he,Fl.of_ok,W2 h,Fl.of_ok];exact if_pos hl
theorem vC{τ:DS}{i:Nat}{c m:Str}{g:Fs→List D→Rs D}{fa:FA}{o:Fs}{ds:List D}{d:D}(h:vY τ i c=.ok o)(hm:xh m o=none)(ha:fa τ=.ok ds)(hg:g o ds=.ok d):yO i c m g fa τ=.ok d:=by
 unfold yO;rw[h,Rs.bind_ok,hm,if_pos (by rfl),ha,Rs.bind_ok,hg];rfl
theorem JW{τ:DS}{i n:Nat}{c m:Str}{g:Fs→List D→Rs (D×Fs)}{fa:FA}{o o':Fs}{ds:List D}{d:D}(h:τ[i]?=some (some (.obj n c o)))(hm:xh m o=none)(ha:fa τ=.ok ds)(hg:g o ds=.ok (d,o')):Zl i c m g fa τ=.ok (d,τ.set i (some (.obj n c o'))):=by
 unfold Zl;rw[W2 h,Rs.bind_ok];show(if (xh m o).isNone=true then _ else _)=_;rw[hm,if_pos (by rfl),ha,Rs.bind_ok,hg]
theorem Zw{τ:DS}{i n:Nat}{c:Str}{g:Fs→List D→Rs (D×Fs)}{f1 f2:FA}{o o':Fs}{ds1 ds2:List D}{d:D}(h:τ[i]?=some (some (.obj n c o)))(h1:f1 τ=.ok ds1)(h2:f2 τ=.ok ds2)(hg:g o (ds1++ds2)=.ok (d,o')):vQ i c g f1 f2 τ=.ok (d,τ.set i (some (.obj n c o'))):=by
 unfold vQ;rw[W2 h,Rs.bind_ok,h1,Rs.bind_ok,h2,Rs.bind_ok];show(match g o (ds1++ds2) with | .ok (d,o')=>Rs.ok (d,τ.set i (some (Sl.obj n c o'))) | _=>.no)=_;rw[hg]
theorem Qn{τ:DS}{i:Nat}{c:Str}{g:Fs→List D→Rs D}{f1 f2:FA}{o:Fs}{ds1 ds2:List D}{d:D}(h:vY τ i c=.ok o)(h1:f1 τ=.ok ds1)(h2:f2 τ=.ok ds2)(hg:g o (ds1++ds2)=.ok d):Zv i c g f1 f2 τ=.ok d:=by
 unfold Zv;rw[h,Rs.bind_ok,h1,Rs.bind_ok,h2,Rs.bind_ok,hg];rfl
theorem uP{fa:FE}{τ:DS}{a:D}(h:fa τ=.ok a):za fa zi τ=.ok [a]:=by rw[zE,h,Rs.bind_ok,zD,Rs.bind_ok]
theorem M9{fo:FOb}{τ τ':DS}{d:D}(h:fo τ=.ok (d,τ')):YO fo τ=.nx τ':=by unfold YO;rw[h,Fl.of_ok]
theorem T3{i:Nat}{fo:FOb}{τ τ':DS}{d:D}(h:fo τ=.ok (d,τ')):VI i fo τ=.nx (τ'.set i (some (.val d))):=by unfold VI;rw[h,Fl.of_ok]
theorem Ve{i:Nat}{c:Str}{g:Fs→List D→Rs (D×Fs)}{fa:FA}{τ:DS}{ds:List D}{o:Fs}(ha:fa τ=.ok ds)(hg:g [] ds=.ok (.non,o)):jI i c g fa τ=.nx (τ.set i (some (.obj 0 c o))):=by
 unfold jI;rw[ha,Fl.of_ok,hg]
theorem ZP{op:D→D→Rs D}{fo:FOb}{fb:FE}{τ τ':DS}{a b r:D}(h1:fo τ=.ok (a,τ'))(h2:fb τ'=.ok b)(h3:op a b=.ok r):oOp op fo fb τ=.ok (r,τ'):=by
 unfold oOp;rw[h1,Rs.bind_ok];show(fb τ').bind _=_;rw[h2,Rs.bind_ok];show(op a b).bind _=_;rw[h3];rfl
theorem V7{fo:FOb}{τ τ':DS}{b:Bool}(h:fo τ=.ok (.bl b,τ')):oB fo τ=.ok (b,τ'):=by unfold oB;rw[h];rfl
theorem Us{g:Gm}{a:FS}{τ τ':DS}(h:g τ=.ok (false,τ')):ZI g a zS τ=.nx τ':=by
 unfold ZI;rw[h,Fl.of_ok];show(if false=true then _ else zS τ')=_;rw[if_neg (by simp)];rfl
theorem sl_ok(ds:List D)(a b:Nat):slD (.lst ds) (some (a:Int)) (some ((a:Int)+(b:Int)))=.ok (.lst ((ds.drop a).take b)):=by
 have e0:HT.sIx ds.length 0 (some (a:Int))=min a ds.length:=by
  unfold HT.sIx
  have:¬ ((a:Int)<0):=by lia
  simp[this]
 have e1:HT.sIx ds.length ds.length (some ((a:Int)+(b:Int)))=min (a+b) ds.length:=by
  unfold HT.sIx
  have:¬ ((a:Int)+(b:Int)<0):=by lia
  simp[this]
  lia
 have:FD.cutD ds (some (a:Int)) (some ((a:Int)+(b:Int)))=(ds.drop a).take b:=by
  unfold FD.cutD
  rw[e0,e1]
  rcases Nat.le_total ds.length a with z|z
  ·rw[Nat.min_eq_right z,Nat.min_eq_right (by lia),drop_length,List.drop_of_length_le z];simp
  ·rw[Nat.min_eq_left z]
   rcases Nat.le_total (a+b) ds.length with y|y
   ·rw[Nat.min_eq_left y,Nat.add_sub_cancel_left]
   ·rw[Nat.min_eq_right y,List.take_of_length_le (by rw[length_drop];lia),List.take_of_length_le (by rw[length_drop];lia)]
 show Rs.ok (D.lst (FD.cutD ds _ _))=_
 rw[this]
noncomputable def PG(X:List (List Nat))(z:Nat)(rs:List Rw)(p:Nat):Fs:=[("names", .lst (X.map tx)),("size", .int (z:Int)),("rows", .lst (rs.map zv)),("place", .int (p:Int))]
theorem YU(X:List (List Nat))(z:Nat)(rs:List Rw)(p:Nat):(PG X z rs p).length<1000:=by unfold PG;simp only[length_cons,List.length_nil];lia
theorem jq(rs:List Rw)(p:Nat)(hp:p<rs.length):ixD (.lst (rs.map zv)) (.int (p:Int))=.ok (zv rs[p]):=by
 refine YB (YH ?_)
 rw[getElem?_map,getElem?_eq_getElem hp];rfl
theorem VS(X:List (List Nat))(z:Nat)(rs:List Rw)(p:Nat):xh "names" (PG X z rs p)=some (.lst (X.map tx)):=by unfold PG;rw[xh,if_pos rfl]
theorem ux(X:List (List Nat))(z:Nat)(rs:List Rw)(p:Nat):xh "size" (PG X z rs p)=some (.int (z:Int)):=by unfold PG;rw[xh,if_neg (by decide +kernel),xh,if_pos rfl]
theorem vL(X:List (List Nat))(z:Nat)(rs:List Rw)(p:Nat):xh "rows" (PG X z rs p)=some (.lst (rs.map zv)):=by unfold PG;rw[xh,if_neg (by decide +kernel),xh,if_neg (by decide +kernel),xh,if_pos rfl]
theorem Zd(X:List (List Nat))(z:Nat)(rs:List Rw)(p:Nat):xh "place" (PG X z rs p)=some (.int (p:Int)):=by unfold PG;rw[xh,if_neg (by decide +kernel),xh,if_neg (by decide +kernel),xh,if_neg (by decide +kernel),xh,if_pos rfl]
theorem jt(m:Str)(h1:m ≠ "names")(h2:m ≠ "size")(h3:m ≠ "rows")(h4:m ≠ "place")(X:List (List Nat))(z:Nat)(rs:List Rw)(p:Nat):xh m (PG X z rs p)=none:=by unfold PG;rw[xh,if_neg h1,xh,if_neg h2,xh,if_neg h3,xh,if_neg h4,xh]
theorem jT(X:List (List Nat))(z:Nat)(rs:List Rw)(p:Nat):xh "pointed" (PG X z rs p)=none:=jt _ (by decide +kernel) (by decide +kernel) (by decide +kernel) (by decide +kernel) X z rs p
theorem WW(X:List (List Nat))(z:Nat)(rs:List Rw)(p:Nat):xh "page" (PG X z rs p)=none:=jt _ (by decide +kernel) (by decide +kernel) (by decide +kernel) (by decide +kernel) X z rs p
theorem VR(X:List (List Nat))(z:Nat)(rs:List Rw)(p:Nat):xh "pages" (PG X z rs p)=none:=jt _ (by decide +kernel) (by decide +kernel) (by decide +kernel) (by decide +kernel) X z rs p
theorem JG(X:List (List Nat))(z:Nat)(rs:List Rw)(p:Nat):xh "move" (PG X z rs p)=none:=jt _ (by decide +kernel) (by decide +kernel) (by decide +kernel) (by decide +kernel) X z rs p
theorem JF(X:List (List Nat))(z:Nat)(rs:List Rw)(p:Nat):xh "turn" (PG X z rs p)=none:=jt _ (by decide +kernel) (by decide +kernel) (by decide +kernel) (by decide +kernel) X z rs p
theorem G2(X:List (List Nat))(z:Nat)(rs:List Rw)(p:Nat):xh "ask" (PG X z rs p)=none:=jt _ (by decide +kernel) (by decide +kernel) (by decide +kernel) (by decide +kernel) X z rs p
theorem jr(X:List (List Nat))(z:Nat)(rs:List Rw)(p p':Nat):wY "place" (.int (p':Int)) (PG X z rs p)=PG X z rs p':=by
 unfold PG;rw[wY,if_neg (by decide +kernel),wY,if_neg (by decide +kernel),wY,if_neg (by decide +kernel),wY,if_pos rfl]
theorem GU(X:List (List Nat))(z:Nat)(rs rs':List Rw)(p:Nat):wY "rows" (.lst (rs'.map zv)) (PG X z rs p)=PG X z rs' p:=by
 unfold PG;rw[wY,if_neg (by decide +kernel),wY,if_neg (by decide +kernel),wY,if_pos rfl]
noncomputable def ptd(rs:List Rw)(p:Nat):D:=match rs[p]? with
 |some r=>zv r
 |none=>.non
theorem GX{rs:List Rw}{p:Nat}(h:p<rs.length):ptd rs p=zv rs[p]:=by unfold ptd;rw[getElem?_eq_getElem h]
theorem Ld{p:Nat}:ptd [] p=.non:=by unfold ptd;rw[List.getElem?_nil]
theorem zk7(rs:List Rw){e:FE}{τ:DS}(h:e τ=.ok (.lst (rs.map zv))):FD.tB (eOp eqD (ya yA (za e zi)) (eC (.int 0))) τ=.ok (rs.length==0):=by
 refine xV ((op2 (uk h wd) rfl va).trans ?_)
 rw[length_map]
 rcases rs with _|⟨a,b⟩
 ·rfl
 ·have:(((a::b).length:Int)==0)=false:=by rw[beq_eq_false_iff_ne];simp only[length_cons];lia
  rw[this];rfl
theorem ptd_b:vj=(zA (sIf (FD.tB (eOp eqD (ya yA (za (eAt 0 "Pager" "rows") zi)) (eC (.int 0)))) (yx (eC .non)) zS)
  (zA (zU 1 (eOp ixD (eAt 0 "Pager" "rows") (eAt 0 "Pager" "place")))
  (yx (xS (za (eOp ixD (ze 1) (eC (.int 0))) (za (eOp ixD (ze 1) (eC (.int 1))) zi)))))):=by unfold vj;rfl
theorem jS(X:List (List Nat))(z:Nat)(rs:List Rw)(p:Nat)(hp:rs=[]∨p<rs.length):zX (PG X z rs p) []=.ok (ptd rs p):=by
 have st:xG (.obr "Pager" (PG X z rs p)) 0 2 []=[some (.obr "Pager" (PG X z rs p)),none]:=rfl
 have o1:vY [some (.obr "Pager" (PG X z rs p)),none] 0 "Pager" = .ok (PG X z rs p):=V5 rfl
 unfold zX XS
 rw[ptd_b,st]
 have g:=zk7 rs (wg o1 (vL X z rs p))
 rcases hp with rfl|hp
 ·rw[zV,X6 g,ZJ (d:=.non) rfl,jO,Ld];rfl
 ·have hne:(rs.length==0)=false:=by rw[beq_eq_false_iff_ne];lia
  rw[hne] at g
  rw[zQ (ZZ g),GX hp,zQ (yR (op2 (wg o1 (vL X z rs p)) (wg o1 (Zd X z rs p)) (jq rs p hp)))]
  rw[ZJ (Vw (op2 (zk rfl) rfl (zd5 rs[p])) (op2 (zk rfl) rfl (Z7 rs[p])))];rfl
theorem Lx:v6=(yx (eOp xW (eOp jE (eOp zN (ya yA (za (eAt 0 "Pager" "rows") zi)) (eAt 0 "Pager" "size")) (eC (.int 1))) (eAt 0 "Pager" "size"))):=by unfold v6;rfl
noncomputable def pgs(rs:List Rw)(z:Nat):Nat:=(rs.length+z-1) / z
theorem V1(X:List (List Nat))(z:Nat)(rs:List Rw)(p:Nat)(hz:0<z)(hz2:z<1000):yt (PG X z rs p) []=.ok (.int (pgs rs z:Int)):=by
 have st:xG (.obr "Pager" (PG X z rs p)) 0 1 []=[some (.obr "Pager" (PG X z rs p))]:=rfl
 have o1:vY [some (.obr "Pager" (PG X z rs p))] 0 "Pager" = .ok (PG X z rs p):=V5 rfl
 unfold yt XS
 rw[Lx,st,ZJ (op2 (op2 (op2 (uk (wg o1 (vL X z rs p)) wd) (wg o1 (ux X z rs p)) yI) rfl vw) (wg o1 (ux X z rs p)) (wW ⟨by lia,by lia⟩))]
 have:((rs.map zv).length:Int)+(z:Int)-1=((rs.length+z-1:Nat):Int):=by rw[length_map];lia
 rw[this]
 unfold pgs
 rw[natCast_ediv];rfl
noncomputable def pgO(rs:List Rw)(z p:Nat):List Rw:=(rs.drop (p / z*z)).take z
theorem zi5:uN=(zA (zU 1 (eOp xY (eOp xW (eAt 0 "Pager" "place") (eAt 0 "Pager" "size")) (eAt 0 "Pager" "size")))
  (JA (wv 2 [] (wN (eSl (eAt 0 "Pager" "rows") (w5 (ze 1)) (w5 (eOp zN (ze 1) (eAt 0 "Pager" "size"))))) (gPr 0 1) (fun _=>.ok true) (xS (za (ze 0) (za (ze 1) zi)))))):=by unfold uN;rfl
theorem V2(X:List (List Nat))(z:Nat)(rs:List Rw)(p:Nat)(hz:0<z)(hz2:z<1000)(hl:rs.length≤1000):yK (PG X z rs p) []=.ok ((pgO rs z p).map zv):=by
 have st:xG (.obr "Pager" (PG X z rs p)) 0 2 []=[some (.obr "Pager" (PG X z rs p)),none]:=rfl
 unfold yK VN
 have o1:vY [some (.obr "Pager" (PG X z rs p)),none] 0 "Pager" = .ok (PG X z rs p):=V5 rfl
 have e1:eOp xY (eOp xW (eAt 0 "Pager" "place") (eAt 0 "Pager" "size")) (eAt 0 "Pager" "size") [some (.obr "Pager" (PG X z rs p)),none]=.ok (.int ((p / z*z:Nat):Int)):=by
  rw[natCast_mul,natCast_ediv]
  exact op2 (op2 (wg o1 (Zd X z rs p)) (wg o1 (ux X z rs p)) (wW ⟨by lia,by lia⟩)) (wg o1 (ux X z rs p)) (wH (.inr ⟨by lia,by lia⟩))
 rw[zi5,st,zQ (yR e1)]
 have o2:vY (([some (.obr "Pager" (PG X z rs p)),none]:DS).set 1 (some (.val (.int ((p / z*z:Nat):Int))))) 0 "Pager" = .ok (PG X z rs p):=V5 rfl
 have e2:eSl (eAt 0 "Pager" "rows") (w5 (ze 1)) (w5 (eOp zN (ze 1) (eAt 0 "Pager" "size"))) (([some (.obr "Pager" (PG X z rs p)),none]:DS).set 1 (some (.val (.int ((p / z*z:Nat):Int)))))=.ok (.lst ((pgO rs z p).map zv)):=by
  rw[Jg,wg o2 (vL X z rs p),Rs.bind_ok,UY (zk rfl),Rs.bind_ok,UY (op2 (zk rfl) (wg o2 (ux X z rs p)) yI),Rs.bind_ok,sl_ok]
  unfold pgO
  rw[List.map_take,List.map_drop]
 have cm:=uh (set:=gPr 0 1) (fe:=(xS (za (ze 0) (za (ze 1) zi)))) (τ:=[none,none]) zv zv id (pgO rs z p) fun r hr=>
  ⟨[some (.val (.int r.1)),some (.val (.int (r.2:Int)))],rfl,Vw (zk rfl) (zk rfl)⟩
 rw[map_id] at cm
 have ec:=vT (k:=2) (idx:=[]) (fi:=wN (eSl (eAt 0 "Pager" "rows") (w5 (ze 1)) (w5 (eOp zN (ze 1) (eAt 0 "Pager" "size"))))) (τ:=([some (.obr "Pager" (PG X z rs p)),none]:DS).set 1 (some (.val (.int ((p / z*z:Nat):Int))))) (by unfold wN;rw[e2];rfl) cm (by
  rw[length_map];unfold pgO;rw[length_take,length_drop];lia)
 unfold JA
 rw[ec,Fl.of_ok];rfl
theorem JN(X:List (List Nat))(z:Nat)(rs:List Rw)(p:Nat)(hz:0<z)(hz2:z<1000)(hl:rs.length≤1000):yd (PG X z rs p) []=.ok (.lst ((pgO rs z p).map zv)):=by
 unfold yd frD;rw[V2 X z rs p hz hz2 hl];rfl
noncomputable def mvd(rs:List Rw)(p:Nat)(by_:Int):Nat:=(((p:Int)+by_)%(rs.length:Int)).toNat
theorem U1(rs:List Rw)(p:Nat)(by_:Int)(h:0<rs.length):mvd rs p by_<rs.length:=by
 have:=emod_lt_of_pos ((p:Int)+by_) (b:=(rs.length:Int)) (by lia)
 have:=emod_nonneg ((p:Int)+by_) (b:=(rs.length:Int)) (by lia)
 unfold mvd;lia
theorem JV(rs:List Rw)(p:Nat)(by_:Int)(h:0<rs.length):(mvd rs p by_:Int)=((p:Int)+by_)%(rs.length:Int):=by
 have:=emod_nonneg ((p:Int)+by_) (b:=(rs.length:Int)) (by lia)
 unfold mvd;lia
theorem VO{f:FS}{τ τ':DS}{d:D}(h:f τ=.ro d τ'):wF f τ=.ro d τ':=by unfold wF;rw[h]
theorem GR{f:FS}{τ τ':DS}(h:f τ=.nx τ'):wF f τ=.nx τ':=by unfold wF;rw[h]
theorem Qi{j:Nat}{c:Str}{d:D}{τ:DS}{fs:Fs}(h:τ[j]?=some (some (.obj 1 c fs))):Vk j c (.ro d τ)=.ok d fs:=by unfold Vk;dsimp only;rw[W2 h];rfl
theorem Qh{j:Nat}{c e:Str}{τ:DS}{fs:Fs}(h:τ[j]?=some (some (.obj 1 c fs))):Vk j c (.rs e τ)=.ex e fs:=by unfold Vk;dsimp only;rw[W2 h];rfl
theorem MC:uO=(zA (sIf (FD.tB (eOp eqD (ya yA (za (eAt 0 "Pager" "rows") zi)) (eC (.int 0)))) (ZH "NoNumber") zS)
  (wF (zA (sAt 0 "Pager" "place" (eOp uX (eOp zN (eAt 0 "Pager" "place") (ze 1)) (ya yA (za (eAt 0 "Pager" "rows") zi))))
  (uR (yO 0 "Pager" "pointed" zX zi))))):=by unfold uO;rfl
theorem LI(X:List (List Nat))(z:Nat)(rs:List Rw)(p:Nat)(by_:Int)(h:0<rs.length):yJ (PG X z rs p) [.int by_]=.ok (ptd rs (mvd rs p by_)) (PG X z rs (mvd rs p by_)):=by
 have st:xG (.obj 1 "Pager" (PG X z rs p)) 0 2 [.int by_]=[some (.obj 1 "Pager" (PG X z rs p)),some (.val (.int by_))]:=rfl
 have o1:vY [some (.obj 1 "Pager" (PG X z rs p)),some (.val (.int by_))] 0 "Pager" = .ok (PG X z rs p):=jX rfl
 unfold yJ Z6
 rw[MC,st]
 have g:=zk7 rs (wg o1 (vL X z rs p))
 have hne:(rs.length==0)=false:=by rw[beq_eq_false_iff_ne];lia
 rw[hne] at g
 have e:eOp uX (eOp zN (eAt 0 "Pager" "place") (ze 1)) (ya yA (za (eAt 0 "Pager" "rows") zi)) [some (.obj 1 "Pager" (PG X z rs p)),some (.val (.int by_))]=.ok (.int (mvd rs p by_:Int)):=by
  rw[JV rs p by_ h]
  refine op2 (op2 (wg o1 (Zd X z rs p)) (zk rfl) yI) (uk (wg o1 (vL X z rs p)) (by rw[wd,length_map])) (jb (by lia))
 rw[zQ (ZZ g)]
 have e2:zA (sAt 0 "Pager" "place" (eOp uX (eOp zN (eAt 0 "Pager" "place") (ze 1)) (ya yA (za (eAt 0 "Pager" "rows") zi))))
   (uR (yO 0 "Pager" "pointed" zX zi)) [some (.obj 1 "Pager" (PG X z rs p)),some (.val (.int by_))]=.ro (ptd rs (mvd rs p by_)) [some (.obj 1 "Pager" (PG X z rs (mvd rs p by_))),some (.val (.int by_))]:=by
  rw[zQ (uq e rfl (YU X z rs p)),jr]
  exact WS (vC (jX rfl) (jT X z rs _) zD (jS X z rs _ (.inr (U1 rs p by_ h))))
 rw[VO e2]
 exact Qi rfl
theorem LJ(X:List (List Nat))(z:Nat)(p:Nat)(by_:Int):yJ (PG X z [] p) [.int by_]=.ex "NoNumber" (PG X z [] p):=by
 have st:xG (.obj 1 "Pager" (PG X z [] p)) 0 2 [.int by_]=[some (.obj 1 "Pager" (PG X z [] p)),some (.val (.int by_))]:=rfl
 have o1:vY [some (.obj 1 "Pager" (PG X z [] p)),some (.val (.int by_))] 0 "Pager" = .ok (PG X z [] p):=jX rfl
 unfold yJ Z6
 rw[MC,st,zV,X6 (zk7 [] (wg o1 (vL X z [] p)))]
 exact Qh rfl
theorem zf3:uM=(zA (wF (zU 2 (eOp zN (eOp xW (eAt 0 "Pager" "place") (eAt 0 "Pager" "size")) (ze 1))))
  (zA (sIf (jD (FD.tB (eOp ltI (ze 2) (eC (.int 0)))) (FD.tB (eOp geD (ze 2) (yO 0 "Pager" "pages" yt zi)))) (ZH "NoNumber") zS)
  (wF (zA (sAt 0 "Pager" "place" (eOp xY (ze 2) (eAt 0 "Pager" "size")))
  (uR (yO 0 "Pager" "page" yd zi)))))):=by unfold uM;rfl
noncomputable def tno(p z:Nat)(b:Int):Int:=((p / z:Nat):Int)+b
theorem Gw(X:List (List Nat))(z:Nat)(rs:List Rw)(p:Nat)(b:Int)(hz:0<z)(hz2:z<1000) :
  y0 (PG X z rs p) [.int b]=Vk 0 "Pager" ((zA (sIf (jD (FD.tB (eOp ltI (ze 2) (eC (.int 0)))) (FD.tB (eOp geD (ze 2) (yO 0 "Pager" "pages" yt zi)))) (ZH "NoNumber") zS)
   (wF (zA (sAt 0 "Pager" "place" (eOp xY (ze 2) (eAt 0 "Pager" "size")))
   (uR (yO 0 "Pager" "page" yd zi))))) [some (.obj 1 "Pager" (PG X z rs p)),some (.val (.int b)),some (.val (.int (tno p z b)))]):=by
 have st:xG (.obj 1 "Pager" (PG X z rs p)) 0 3 [.int b]=[some (.obj 1 "Pager" (PG X z rs p)),some (.val (.int b)),none]:=rfl
 have o1:vY [some (.obj 1 "Pager" (PG X z rs p)),some (.val (.int b)),none] 0 "Pager" = .ok (PG X z rs p):=jX rfl
 unfold y0 Z6
 rw[zf3,st]
 have e:eOp zN (eOp xW (eAt 0 "Pager" "place") (eAt 0 "Pager" "size")) (ze 1) [some (.obj 1 "Pager" (PG X z rs p)),some (.val (.int b)),none]=.ok (.int (tno p z b)):=by
  unfold tno
  rw[natCast_ediv]
  exact op2 (op2 (wg o1 (Zd X z rs p)) (wg o1 (ux X z rs p)) (wW ⟨by lia,by lia⟩)) (zk rfl) yI
 rw[zQ (GR (yR e))]
 rfl
theorem Gu(X:List (List Nat))(z:Nat)(rs:List Rw)(p:Nat)(b n:Int)(hz:0<z)(hz2:z<1000):jD (FD.tB (eOp ltI (ze 2) (eC (.int 0)))) (FD.tB (eOp geD (ze 2) (yO 0 "Pager" "pages" yt zi))) [some (.obj 1 "Pager" (PG X z rs p)),some (.val (.int b)),some (.val (.int n))]=.ok (decide (n<0)||decide (n ≥ (pgs rs z:Int))):=
 or_b (xV (op2 (zk rfl) rfl ze1)) fun _=>xV (op2 (zk rfl) (vC (jX rfl) (VR X z rs p) zD (V1 X z rs p hz hz2)) geD_i)
theorem TJ(X:List (List Nat))(z:Nat)(rs:List Rw)(p:Nat)(b:Int)(n:Nat)(hz:0<z)(hz2:z<1000)(hl:rs.length≤1000)(hn:tno p z b=(n:Int))(ht:n<pgs rs z):y0 (PG X z rs p) [.int b]=.ok (.lst ((pgO rs z (n*z)).map zv)) (PG X z rs (n*z)):=by
 rw[Gw X z rs p b hz hz2,hn]
 have g:=Gu X z rs p b (n:Int) hz hz2
 have:(decide ((n:Int)<0)||decide ((n:Int) ≥ (pgs rs z:Int)))=false:=by
  rw[decide_eq_false (by lia),decide_eq_false (by lia)];rfl
 rw[this] at g
 have o2:vY [some (.obj 1 "Pager" (PG X z rs p)),some (.val (.int b)),some (.val (.int (n:Int)))] 0 "Pager" = .ok (PG X z rs p):=jX rfl
 have hm:eOp xY (ze 2) (eAt 0 "Pager" "size") [some (.obj 1 "Pager" (PG X z rs p)),some (.val (.int b)),some (.val (.int (n:Int)))]=.ok (.int ((n*z:Nat):Int)):=by
  rw[natCast_mul]
  exact op2 (zk rfl) (wg o2 (ux X z rs p)) (wH (.inr ⟨by lia,by lia⟩))
 rw[zQ (ZZ g)]
 have e2:zA (sAt 0 "Pager" "place" (eOp xY (ze 2) (eAt 0 "Pager" "size"))) (uR (yO 0 "Pager" "page" yd zi)) [some (.obj 1 "Pager" (PG X z rs p)),some (.val (.int b)),some (.val (.int (n:Int)))]=.ro (.lst ((pgO rs z (n*z)).map zv)) [some (.obj 1 "Pager" (PG X z rs (n*z))),some (.val (.int b)),some (.val (.int (n:Int)))]:=by
  rw[zQ (uq hm rfl (YU X z rs p)),jr]
  exact WS (vC (jX rfl) (WW X z rs _) zD (JN X z rs _ hz hz2 hl))
 rw[VO e2]
 exact Qi rfl
theorem TM(X:List (List Nat))(z:Nat)(rs:List Rw)(p:Nat)(b:Int)(hz:0<z)(hz2:z<1000)(ht:tno p z b<0∨(pgs rs z:Int)≤tno p z b):y0 (PG X z rs p) [.int b]=.ex "NoNumber" (PG X z rs p):=by
 rw[Gw X z rs p b hz hz2]
 have g:=Gu X z rs p b (tno p z b) hz hz2
 have:(decide (tno p z b<0)||decide (tno p z b ≥ (pgs rs z:Int)))=true:=by
  rcases ht with h|h
  ·rw[decide_eq_true h];rfl
  ·rw[decide_eq_true (show tno p z b ≥ (pgs rs z:Int) from h),Bool.or_true]
 rw[this] at g
 rw[zV,X6 g]
 exact Qh rfl
noncomputable def SR(X:List (List Nat))(q:List Nat):List Rw:=uZ (Xn X) (Vs X q)
theorem Jw(X:List (List Nat))(q:List Nat):(SR X q).Perm (Vs X q):=UL _ _
theorem WK(X:List (List Nat))(q:List Nat):(SR X q).length≤X.length:=by
 rw[(Jw X q).length_eq]
 have:=(ZB X q (List.range X.length)).length_le
 rw[length_map,length_range] at this
 unfold Vs;exact this
theorem zd4(X:List (List Nat))(q:List Nat):((SR X q).map (·.2)).Nodup:=by
 have:=(ZB X q (List.range X.length)).nodup List.nodup_range
 exact((Jw X q).map (·.2)).nodup_iff.mpr this
theorem ug(X:List (List Nat))(q:List Nat)(many:Nat)(hm:X.length≤many)(hq:q.length≤1000)(hX:∀x∈X,x.length≤1000)(ha:∀c∈q,c<128)(hl:X.length<64):yF [.lst (X.map tx),tx q,.int (many:Int)]=.ok (.lst ((SR X q).map zv)):=by
 rw[M8 X q many hq hX ha hl]
 have:=WK X q
 unfold SR at this ⊢
 rw[List.take_of_length_le (by lia)]
noncomputable def g1(X:List (List Nat)):Fs:=[("names", .lst (X.map tx))]
noncomputable def g2(X:List (List Nat))(z:Nat):Fs:=[("names", .lst (X.map tx)),("size", .int (z:Int))]
noncomputable def g3(X:List (List Nat))(z:Nat):Fs:=[("names", .lst (X.map tx)),("size", .int (z:Int)),("rows", .lst ((SR X []).map zv))]
theorem zm1:vg=(zA (sAt 0 "Pager" "names" (ya MJ (za (ze 1) zi)))
  (zA (sAt 0 "Pager" "size" (ya ud (za (ze 2) (za (eC (.int 1)) zi))))
  (zA (sAt 0 "Pager" "rows" (zB yF (za (eAt 0 "Pager" "names") (za (eC (.str "")) (za (ya yA (za (eAt 0 "Pager" "names") zi)) zi)))))
  (sAt 0 "Pager" "place" (eC (.int 0)))))):=by unfold vg;rfl
theorem Vh(X:List (List Nat))(z:Nat)(hz:0<z)(hX:∀x∈X,x.length≤1000)(hl:X.length<64):z9 [] [.lst (X.map tx),.int (z:Int)]=.ok (.non,PG X z (SR X []) 0):=by
 have st:xG (.obj 1 "Pager" []) 0 3 [.lst (X.map tx),.int (z:Int)]=[some (.obj 1 "Pager" []),some (.val (.lst (X.map tx))),some (.val (.int (z:Int)))]:=rfl
 unfold z9 YQ
 have hmx:ud [.int (z:Int),.int 1]=.ok (.int (z:Int)):=by
  rw[U3]
  by_cases h:(z:Int)<1
  ·have:(z:Int)=0:=by lia
   lia
  ·rw[if_neg h]
 have f1:xh "names" (g2 X z)=some (.lst (X.map tx)):=by unfold g2;rw[xh,if_pos rfl]
 have p1:wY "names" (.lst (X.map tx)) []=(g1 X):=rfl
 have p2:wY "size" (.int (z:Int)) (g1 X)=(g2 X z):=by unfold g1 g2;rw[wY,if_neg (by decide +kernel),wY]
 have p3:wY "rows" (.lst ((SR X []).map zv)) (g2 X z)=(g3 X z):=by unfold g2 g3;rw[wY,if_neg (by decide +kernel),wY,if_neg (by decide +kernel),wY]
 have p4:wY "place" (.int 0) (g3 X z)=PG X z (SR X []) 0:=by unfold g3 PG;rw[wY,if_neg (by decide +kernel),wY,if_neg (by decide +kernel),wY,if_neg (by decide +kernel),wY];rfl
 rw[zm1,st,zQ (uq (d:=.lst (X.map tx)) (uk (zk rfl) rfl) rfl (by decide)),p1]
 rw[zQ (uq (d:=.int (z:Int)) (fs:=(g1 X)) (zb9 (zk rfl) rfl hmx) rfl (by unfold g1;simp)),p2]
 rw[zQ (uq (d:=.lst ((SR X []).map zv)) (fs:=(g2 X z)) (wM (wg (jX rfl) f1) rfl (uk (wg (jX rfl) f1) (by rw[wd,length_map])) (ug X [] X.length (le_refl _) (by simp) hX (by simp) hl)) rfl (by unfold g2;simp)),p3]
 rw[uq (d:=.int 0) (fs:=(g3 X z)) rfl rfl (by unfold g3;simp),p4]
 rfl
noncomputable def gd:Nat→D→Prop
 |_,.str x=>PyData.strOk x=true
 |_,.int _=>True
 |_,.bl _=>True
 |_,.non=>True
 |n+1,.lst ds=>∀d∈ds,gd n d
 |n+1,.tup ds=>∀d∈ds,gd n d
 |_,_=>False
theorem Jd{n:Nat}(ih:∀d,gd n d→xf d=true∧(yG d).canLay0=true∧(yG d).depth≤n∧PyData.eqv (yG d) (yG d)=true):∀ds:List D,(∀d∈ds,gd n d)→plainDs ds=true∧PyData.canLayAll0 (toPys ds)=true∧PyData.depthAll (toPys ds)≤n∧PyData.eqvAll (toPys ds) (toPys ds)=true:=by
 intro l_
 induction l_ with
 |nil=>
  rintro _
  exact⟨rfl,rfl,zero_le _,by simp[toPys,PyData.eqvAll]⟩
 |cons d ds ih_=>
  rintro h
  refine X03 (ih d (h d mem_cons_self)) fun a1 a2 a3 a4=>?_
  refine X03 (ih_ fun e he=>h e (mem_cons_of_mem _ he)) fun b1 b2 b3 b4=>?_
  refine⟨by simp[plainDs,a1,b1],by simp[toPys,PyData.canLayAll0,a2,b2],?_,by simp[toPys,PyData.eqvAll,a4,b4]⟩
  simp only[toPys,PyData.depthAll]
  lia
theorem M4:∀(n:Nat) (d:D),gd n d→xf d=true∧(yG d).canLay0=true∧(yG d).depth≤n∧PyData.eqv (yG d) (yG d)=true
 |n,.str x,h=>⟨by simp[xf],by simpa[yG,PyData.canLay0,gd] using h,by simp[yG,PyData.depth],by simp[yG,PyData.eqv]⟩
 |n,.int _,h=>⟨by simp[xf],by simp[yG,PyData.canLay0],by simp[yG,PyData.depth],by simp[yG,PyData.eqv]⟩
 |n,.bl _,h=>⟨by simp[xf],by simp[yG,PyData.canLay0],by simp[yG,PyData.depth],by simp[yG,PyData.eqv]⟩
 |n,.non,h=>⟨by simp[xf],by simp[yG,PyData.canLay0],by simp[yG,PyData.depth],by simp[yG,PyData.eqv]⟩
 |n+1,.lst ds,h=>by
  refine X03 (Jd (M4 n) ds (by simpa[gd] using h)) fun b1 b2 b3 b4=>?_
  exact⟨by simpa[xf] using b1,by simpa[yG,PyData.canLay0] using b2,by simpa[yG,PyData.depth] using b3,by simpa[yG,PyData.eqv] using b4⟩
 |n+1,.tup ds,h=>by
  refine X03 (Jd (M4 n) ds (by simpa[gd] using h)) fun b1 b2 b3 b4=>?_
  exact⟨by simpa[xf] using b1,by simpa[yG,PyData.canLay0] using b2,by simpa[yG,PyData.depth] using b3,by simpa[yG,PyData.eqv] using b4⟩
 |0,.lst ds,h=>by simp[gd] at h
 |0,.tup ds,h=>by simp[gd] at h
 |0,.scr ds,h=>by simp[gd] at h
 |0,.raw ds,h=>by simp[gd] at h
 |0,.exc ds,h=>by simp[gd] at h
 |n+1,.scr ds,h=>by simp[gd] at h
 |n+1,.raw ds,h=>by simp[gd] at h
 |n+1,.exc ds,h=>by simp[gd] at h
 |0,.dct _ _,h=>by simp[gd] at h
 |n+1,.dct _ _,h=>by simp[gd] at h
theorem M3{n:Nat}{d:D}(h:gd n d)(hn:n≤60):okD d=true∧wO d d=true:=by
 refine X03 (M4 n d h) fun a b c e=>?_
 refine⟨?_,e⟩
 have:(yG d).depth≤60:=by lia
 simp[okD,a,b,this]
theorem Ms(r:Rw):okD (zv r)=true:=by simp[okD,zv,xf,plainDs,yG,toPys,PyData.canLay0,PyData.canLayAll0,PyData.depth,PyData.depthAll]
theorem W3(rs:List Rw):okD (.lst (rs.map zv))=true:=by
 refine X02 (jA rs) fun a b c=>?_
 simp[okD,xf,yG,PyData.canLay0,PyData.depth,a,b]
 lia
theorem za8(r s:Rw):wO (zv r) (zv s)=(r.1==s.1&&r.2==s.2):=by
 have:((r.2:Int)==(s.2:Int))=(r.2==s.2):=by
  by_cases h:r.2=s.2
  ·rw[h];simp
  ·have:¬ (r.2:Int)=(s.2:Int):=by lia
   rw[beq_eq_false_iff_ne.mpr this,beq_eq_false_iff_ne.mpr h]
 simp[wO,zv,yG,toPys,PyData.eqv,PyData.eqvAll,this]
theorem zk1(r s:Rw):neD (zv r) (zv s)=.ok (.bl (!(r.1==s.1&&r.2==s.2))):=by
 have h:neD (zv r) (zv s)=if okD (zv r)=true∧okD (zv s)=true then .ok (.bl (!wO (zv r) (zv s))) else .no:=rfl
 rw[h,if_pos ⟨Ms r,Ms s⟩,za8]
theorem Yb(r:Rw):neD (zv r) (zv r)=.ok (.bl false):=by rw[zk1];simp
noncomputable def ZA:FS:=(sIf (wZ (FD.tB (eOp we (ze 2) (eC .non))) (FD.tB (eOp eqD (eOp ixD (ze 4) (eC (.int 1))) (eOp ixD (ze 2) (eC (.int 1)))))) (sAt 0 "Pager" "place" (ze 3)) zS)
theorem ask_b:jh=(zA (zU 2 (yO 0 "Pager" "pointed" zX zi))
  (zA (sAt 0 "Pager" "rows" (zB yF (za (eAt 0 "Pager" "names") (za (ze 1) (za (ya yA (za (eAt 0 "Pager" "names") zi)) zi)))))
  (zA (sAt 0 "Pager" "place" (eC (.int 0)))
  (uu (iEn (za (eAt 0 "Pager" "rows") zi)) (gPr 3 4) ZA)))):=by unfold jh ZA;rfl
noncomputable def oR:Option Rw→D
 |some r=>zv r
 |none=>.non
theorem GW(rs:List Rw)(p:Nat):ptd rs p=oR rs[p]?:=by unfold ptd oR;cases rs[p]? <;> rfl
theorem Wx(r:Rw):we (zv r) .non=.ok (.bl true):=rfl
noncomputable def za0(o:Option Rw)(r:Rw)(k p:Nat):Nat:=match o with|some t=>if r.2=t.2 then k else p|none=>p
theorem jx(t r:Rw)(k p:Nat):za0 (some t) r k p=if r.2=t.2 then k else p:=rfl
noncomputable def uU(o:Option Rw):List Rw→Nat→Nat→Nat
 |[],_,p=>p
 |r::l,k,p=>uU o l (k+1) (za0 o r k p)
theorem Tt(X:List (List Nat))(z:Nat)(rs:List Rw)(p k:Nat)(r:Rw)(o:Option Rw)(a1:Option Sl):ZA [some (.obj 1 "Pager" (PG X z rs p)),a1,some (.val (oR o)),some (.val (.int (k:Int))),some (.val (zv r))]=.nx [some (.obj 1 "Pager" (PG X z rs (za0 o r k p))),a1,some (.val (oR o)),some (.val (.int (k:Int))),some (.val (zv r))]:=by
 unfold ZA
 rcases o with _|t
 ·exact ZZ (Qs (xV (op2 (zk rfl) rfl uf)))
 ·have g2:=xV ((op2 (τ:=[some (.obj 1 "Pager" (PG X z rs p)),a1,some (.val (oR (some t))),some (.val (.int (k:Int))),some (.val (zv r))]) (fa:=(eOp ixD (ze 4) (eC (.int 1)))) (fb:=(eOp ixD (ze 2) (eC (.int 1)))) (op2 (zk rfl) rfl (Z7 r)) (op2 (zk rfl) rfl (Z7 t)) va))
  have g:=Qr (xV (op2 (τ:=[some (.obj 1 "Pager" (PG X z rs p)),a1,some (.val (oR (some t))),some (.val (.int (k:Int))),some (.val (zv r))]) (zk (n:=2) rfl) (fb:=eC .non) rfl (Wx t))) g2
  by_cases h:r.2=t.2
  ·have h':((r.2:Int)==(t.2:Int))=true:=by rw[h];simp
   rw[h'] at g
   rw[jx,if_pos h,X6 g,uq (d:=.int (k:Int)) (fs:=PG X z rs p) (zk rfl) rfl (YU X z rs p),jr];rfl
  ·have h':((r.2:Int)==(t.2:Int))=false:=by rw[beq_eq_false_iff_ne];lia
   rw[h'] at g
   rw[jx,if_neg h]
   exact ZZ g
theorem UD(X:List (List Nat))(z:Nat)(rs:List Rw)(o:Option Rw)(a1:Option Sl):∀(l:List Rw) (k p:Nat) (t3 t4:Option Sl),∃t3' t4',xB (gPr 3 4) ZA (xi k (l.map zv)) [some (.obj 1 "Pager" (PG X z rs p)),a1,some (.val (oR o)),t3,t4]=.nx [some (.obj 1 "Pager" (PG X z rs (uU o l k p))),a1,some (.val (oR o)),t3',t4']:=by
 intro l_
 induction l_ with
 |nil=>
  rintro k p t3 t4
  exact Y20 t3 t4 rfl
 |cons r l ih_=>
  rintro k p t3 t4
  have e1:=Tt X z rs p k r o a1
  refine X20 (ih_ (k+1) (za0 o r k p) (some (.val (.int (k:Int)))) (some (.val (zv r)))) fun u3 u4 e2=>?_
  refine Y20 u3 u4 ?_
  have hset:gPr 3 4 (.tup [.int (k:Int),zv r]) [some (.obj 1 "Pager" (PG X z rs p)),a1,some (.val (oR o)),t3,t4]=.ok [some (.obj 1 "Pager" (PG X z rs p)),a1,some (.val (oR o)),some (.val (.int (k:Int))),some (.val (zv r))]:=rfl
  rw[map_cons,xi,xB,hset,Fl.of_ok,e1]
  exact e2
theorem Tu(X:List (List Nat))(z:Nat)(rs:List Rw)(p:Nat)(q:List Nat)(hp:rs=[]∨p<rs.length)(hq:q.length≤1000)(hX:∀x∈X,x.length≤1000)(ha:∀c∈q,c<128)(hl:X.length<64) :
  y4 (PG X z rs p) [tx q]=.ok (.non,PG X z (SR X q) (uU rs[p]? (SR X q) 0 0)):=by
 have st:xG (.obj 1 "Pager" (PG X z rs p)) 0 5 [tx q]=[some (.obj 1 "Pager" (PG X z rs p)),some (.val (tx q)),none,none,none]:=rfl
 refine X20 (UD X z (SR X q) rs[p]? (some (.val (tx q))) (SR X q) 0 0 none none) fun t3 t4 e=>?_
 unfold y4 YQ
 rw[ask_b,st,zQ (yR (vC (jX rfl) (jT X z rs p) zD (jS X z rs p hp))),GW]
 rw[zQ (uq (d:=.lst ((SR X q).map zv)) (fs:=PG X z rs p) (wM (wg (jX rfl) (VS X z rs p)) (zk rfl) (uk (wg (jX rfl) (VS X z rs p)) (by rw[wd,length_map])) (ug X q X.length (le_refl _) hq hX ha hl)) rfl (YU X z rs p)),GU]
 rw[zQ (uq (d:=.int ((0:Nat):Int)) (fs:=PG X z (SR X q) p) rfl rfl (YU X z _ p)),jr]
 have hi:iEn (za (eAt 0 "Pager" "rows") zi) [some (.obj 1 "Pager" (PG X z (SR X q) 0)),some (.val (tx q)),some (.val (oR rs[p]?)),none,none]=.ok (xi 0 ((SR X q).map zv)):=by
  unfold iEn;rw[uP (wg (jX rfl) (vL X z (SR X q) 0)),Rs.bind_ok];rfl
 show flM 0 "Pager" (uu _ _ _ [some (.obj 1 "Pager" (PG X z (SR X q) 0)),some (.val (tx q)),some (.val (oR rs[p]?)),none,none])=_
 rw[vK,hi,Fl.of_ok,e]
 rfl
theorem ZV(t:Rw):∀(l:List Rw) (k p:Nat),t.2∉l.map (·.2)→uU (some t) l k p=p:=by
 intro l_
 induction l_ with
 |nil=>
  rintro _ _ _
  exact rfl
 |cons r l ih_=>
  rintro k p h
  rw[uU]
  have h1:¬ r.2=t.2:=fun z=>h (by rw[map_cons,z];exact mem_cons_self)
  rw[jx,if_neg h1]
  exact ih_ (k+1) p fun z=>h (by rw[map_cons];exact mem_cons_of_mem _ z)
theorem Ui(t:Rw):∀(l:List Rw) (k p:Nat),(l.map (·.2)).Nodup→t.2∈l.map (·.2)→uU (some t) l k p=k+(l.map (·.2)).idxOf t.2:=by
 intro l_
 induction l_ with
 |nil=>
  rintro _ _ _ h
  cases h
 |cons r l ih_=>
  rintro k p nd h
  rw[map_cons,nodup_cons] at nd
  rw[uU,map_cons,List.idxOf_cons,jx]
  by_cases z:r.2=t.2
  ·rw[if_pos z,ZV t l (k+1) k (by rw[← z];exact nd.1),z];simp
  ·rw[if_neg z]
   have hm:t.2∈l.map (·.2):=by
    rw[map_cons] at h
    rcases mem_cons.mp h with y|y
    ·exact absurd y.symm z
    ·exact y
   rw[ih_ (k+1) p nd.2 hm]
   have:(r.2==t.2)=false:=by rw[beq_eq_false_iff_ne];exact z
   rw[this];simp;lia
theorem Wv:∀(l:List Rw) (k p:Nat),uU none l k p=p:=by
 intro l_
 induction l_ with
 |nil=>
  rintro _ _
  exact rfl
 |cons r l ih_=>
  rintro k p
  rw[uU];exact ih_ (k+1) p
noncomputable def vI(R:List Rw):List Nat:=R.map (·.2)
noncomputable def plc(o:Option Rw)(R:List Rw):Nat:=match o with
 |some t=>if t.2∈vI R then (vI R).idxOf t.2 else 0
 |none=>0
theorem Wu(o:Option Rw)(R:List Rw)(nd:(vI R).Nodup):uU o R 0 0=plc o R:=by
 unfold plc
 rcases o with _|t
 ·exact Wv R 0 0
 ·dsimp only
  by_cases h:t.2∈vI R
  ·rw[if_pos h,Ui t R 0 0 nd h,zero_add];rfl
  ·rw[if_neg h];exact ZV t R 0 0 h
theorem zg9(o:Option Rw)(R:List Rw)(h:R≠[]):plc o R<R.length:=by
 have h0:0<R.length:=List.length_pos_iff.mpr h
 unfold plc
 rcases o with _|t
 ·exact h0
 ·dsimp only
  by_cases h:t.2∈vI R
  ·rw[if_pos h]
   have:=List.idxOf_lt_length_of_mem h
   unfold vI at this ⊢
   rw[length_map] at this
   exact this
  ·rw[if_neg h];exact h0
theorem Li(o:Option Rw):plc o []=0:=by
 unfold plc vI;cases o <;> simp
theorem isx(b:Bool):Qj [("NoNumber", b)] (.exc "NoNumber")=.ok (.bl b):=by simp[Qj,List.lookup]
noncomputable def Ym:FS:=(zA (sIf (FD.tB (eOp eqD (ze 1) (eC (.int 0)))) (ww (xOf (Zl 0 "Pager" "ask" y4 (za (ze 2) zi)))) zS)
  (zA (sIf (FD.tB (eOp eqD (ze 1) (eC (.int 1)))) (ww (wU 0 "Pager" "move" yJ (za (ze 2) zi))) zS)
  (ww (wU 0 "Pager" "turn" y0 (za (ze 2) zi)))))
noncomputable def Vy:FS:=(zA (zU 4 (xP (za (j1 [("NoNumber", true)] (ze 3)) (za (j1 [("NoNumber", false)] (ze 3)) (za (j1 [("NoNumber", false)] (ze 3)) zi)))))
  (uR (Ji (j1 [("NoNumber", true)] (ze 3)) (eOp eqD (ze 4) (xP (za (eC (.bl true)) (za (eC (.bl false)) (za (eC (.bl false)) zi))))))))
theorem zf4:jf=Zb Ym (fun c=>c == "NoNumber") 3 Vy:=by unfold jf Ym Vy;rfl
theorem lst3{fa fb fc:FE}{τ:DS}{a b c:D}(h1:fa τ=.ok a)(h2:fb τ=.ok b)(h3:fc τ=.ok c):xP (za fa (za fb (za fc zi))) τ=.ok (.lst [a,b,c]):=by
 have:za fa (za fb (za fc zi)) τ=.ok [a,b,c]:=by rw[zE,h1,Rs.bind_ok,zE,h2,Rs.bind_ok,zE,h3,Rs.bind_ok,zD,Rs.bind_ok,Rs.bind_ok,Rs.bind_ok]
 show(za fa (za fb (za fc zi)) τ).bind _=_
 rw[this,Rs.bind_ok,if_pos (by rw[zZ];simp)]
theorem GE(A B C:Option Sl):Vy [A,B,C,some (.val (.exc "NoNumber")),none]=.ro (.bl true) [A,B,C,some (.val (.exc "NoNumber")),some (.val (.lst [.bl true,.bl false,.bl false]))]:=by
 have ix:∀(b:Bool) (τ:DS),τ[3]?=some (some (.val (.exc "NoNumber")))→j1 [("NoNumber", b)] (ze 3) τ=.ok (.bl b):=fun b τ h=>by
  unfold j1
  rw[zk h,Rs.bind_ok,isx]
 have e1:xP (za (j1 [("NoNumber", true)] (ze 3)) (za (j1 [("NoNumber", false)] (ze 3)) (za (j1 [("NoNumber", false)] (ze 3)) zi))) [A,B,C,some (.val (.exc "NoNumber")),none]=.ok (.lst [.bl true,.bl false,.bl false]):=lst3 (ix true _ rfl) (ix false _ rfl) (ix false _ rfl)
 unfold Vy
 rw[zQ (yR e1)]
 refine WS ?_
 rw[Vm,ix true _ rfl,Rs.bind_ok,ul,Rs.bind_ok,if_pos rfl]
 exact op2 (zk rfl) (lst3 rfl rfl rfl) rfl
section
variable(X:List (List Nat))(z:Nat)(R:List Rw)(p:Nat)
noncomputable abbrev T5(o:Fs)(w d:D):DS:=[some (.obj 1 "Pager" o),some (.val w),some (.val d),none,none]
theorem Jp(o:Fs)(w d:D):zK o [w,d]=flM 0 "Pager" (Zb Ym (fun c=>c == "NoNumber") 3 Vy (T5 o w d)):=by
 unfold zK YQ;rw[zf4];rfl
theorem WI{o o':Fs}{w d a:D}(h:Ym (T5 o w d)=.ro a (T5 o' w d)):zK o [w,d]=.ok (a,o'):=by
 rw[Jp]
 have:Zb Ym (fun c=>c == "NoNumber") 3 Vy (T5 o w d)=.ro a (T5 o' w d):=by
  unfold Zb
  rw[if_pos (show Vb (T5 o w d)=true from rfl),h]
 rw[this];rfl
theorem Jq{o o':Fs}{w d:D}(h:Ym (T5 o w d)=.rs "NoNumber" (T5 o' w d)):zK o [w,d]=.ok (.bl true,o'):=by
 rw[Jp]
 have:Zb Ym (fun c=>c == "NoNumber") 3 Vy (T5 o w d)=.ro (.bl true) [some (.obj 1 "Pager" o'),some (.val w),some (.val d),some (.val (.exc "NoNumber")),some (.val (.lst [.bl true,.bl false,.bl false]))]:=by
  unfold Zb
  rw[if_pos (show Vb (T5 o w d)=true from rfl),h]
  dsimp only
  rw[if_pos (by decide +kernel)]
  show(match Vy [some (.obj 1 "Pager" o'),some (.val w),some (.val d),some (.val (.exc "NoNumber")),none] with
   |.rt d=>Fl.rt d
   |.ro d τ2=>.ro d τ2
   |_=>.no)=_
  rw[GE]
 rw[this];rfl
theorem eq0(w k:Int)(o:Fs)(d:D):FD.tB (eOp eqD (ze 1) (eC (.int k))) (T5 o (.int w) d)=.ok (w==k):=xV (op2 (zk rfl) rfl va)
theorem told0(q:List Nat)(hp:R=[]∨p<R.length)(hq:q.length≤1000)(hX:∀x∈X,x.length≤1000)(ha:∀c∈q,c<128)(hl:X.length<64):zK (PG X z R p) [.int 0,tx q]=.ok (.non,PG X z (SR X q) (uU R[p]? (SR X q) 0 0)):=by
 refine WI ?_
 have e:Zl 0 "Pager" "ask" y4 (za (ze 2) zi) (T5 (PG X z R p) (.int 0) (tx q))=.ok (.non,T5 (PG X z (SR X q) (uU R[p]? (SR X q) 0 0)) (.int 0) (tx q)):=JW rfl (G2 X z R p) (uP (zk rfl)) (Tu X z R p q hp hq hX ha hl)
 unfold Ym
 rw[zV,X6 (eq0 0 0 _ _)]
 unfold ww xOf
 rw[e];rfl
theorem Gy(b:Int):Ym (T5 (PG X z R p) (.int 1) (.int b))=ww (wU 0 "Pager" "move" yJ (za (ze 2) zi)) (T5 (PG X z R p) (.int 1) (.int b)):=by
 unfold Ym
 rw[zQ (ZZ (eq0 1 0 _ _)),zV,X6 (eq0 1 1 _ _)]
 generalize wU 0 "Pager" "move" yJ (za (ze 2) zi)=f
 unfold ww
 cases f (T5 (PG X z R p) (.int 1) (.int b)) <;> rfl
theorem Gx(b:Int):Ym (T5 (PG X z R p) (.int 2) (.int b))=ww (wU 0 "Pager" "turn" y0 (za (ze 2) zi)) (T5 (PG X z R p) (.int 2) (.int b)):=by
 unfold Ym
 rw[zQ (ZZ (eq0 2 0 _ _)),zQ (ZZ (eq0 2 1 _ _))]
theorem Ua{τ:DS}{i n:Nat}{c m:Str}{g:Fs→List D→RsM}{fa:FA}{o o':Fs}{ds:List D}{d:D}(h:τ[i]?=some (some (.obj n c o)))(hm:xh m o=none)(ha:fa τ=.ok ds)(hg:g o ds=.ok d o'):wU i c m g fa τ=.ok d (τ.set i (some (.obj n c o'))):=by
 unfold wU;rw[W2 h];dsimp only;rw[hm,if_pos (by rfl),ha];dsimp only;rw[hg]
theorem Ub{τ:DS}{i n:Nat}{c m e:Str}{g:Fs→List D→RsM}{fa:FA}{o o':Fs}{ds:List D}(h:τ[i]?=some (some (.obj n c o)))(hm:xh m o=none)(ha:fa τ=.ok ds)(hg:g o ds=.ex e o'):wU i c m g fa τ=.ex e (τ.set i (some (.obj n c o'))):=by
 unfold wU;rw[W2 h];dsimp only;rw[hm,if_pos (by rfl),ha];dsimp only;rw[hg]
theorem zc9(b:Int)(h:0<R.length):zK (PG X z R p) [.int 1,.int b]=.ok (ptd R (mvd R p b),PG X z R (mvd R p b)):=by
 refine WI ?_
 rw[Gy]
 unfold ww
 rw[Ua rfl (JG X z R p) (uP (zk rfl)) (LI X z R p b h)];rfl
theorem zf5(b:Int):zK (PG X z [] p) [.int 1,.int b]=.ok (.bl true,PG X z [] p):=by
 refine Jq ?_
 rw[Gy]
 unfold ww
 rw[Ub rfl (JG X z [] p) (uP (zk rfl)) (LJ X z p b)];rfl
theorem Wd(b:Int)(n:Nat)(hz:0<z)(hz2:z<1000)(hl:R.length≤1000)(hn:tno p z b=(n:Int))(ht:n<pgs R z):zK (PG X z R p) [.int 2,.int b]=.ok (.lst ((pgO R z (n*z)).map zv),PG X z R (n*z)):=by
 refine WI ?_
 rw[Gx]
 unfold ww
 rw[Ua rfl (JF X z R p) (uP (zk rfl)) (TJ X z R p b n hz hz2 hl hn ht)];rfl
theorem UJ(b:Int)(hz:0<z)(hz2:z<1000)(ht:tno p z b<0∨(pgs R z:Int)≤tno p z b):zK (PG X z R p) [.int 2,.int b]=.ok (.bl true,PG X z R p):=by
 refine Jq ?_
 rw[Gx]
 unfold ww
 rw[Ub rfl (JF X z R p) (uP (zk rfl)) (TM X z R p b hz hz2 ht)];rfl
end
noncomputable def pgF(z c:Nat):Nat→List Rw→List Rw
 |_,[]=>[]
 |k,r::l=>if k / z=c then r::pgF z c (k+1) l else pgF z c (k+1) l
theorem Tf{z:Nat}(hz:0<z)(k c:Nat):k / z=c↔c*z≤k∧k<c*z+z:=by
 constructor
 ·intro h
  subst h
  have h1:=Nat.div_mul_le_self k z
  have h2:=Nat.lt_div_mul_add hz (a:=k)
  exact⟨h1,h2⟩
 ·rintro⟨h1,h2⟩
  refine Nat.le_antisymm ?_ ((Nat.le_div_iff_mul_le hz).mpr h1)
  refine Nat.lt_succ_iff.mp ((Nat.div_lt_iff_lt_mul hz).mpr ?_)
  rw[Nat.succ_mul];exact h2
theorem UU{z:Nat}(hz:0<z)(c:Nat):∀(l:List Rw) (k:Nat),pgF z c k l=(l.drop (c*z-k)).take (c*z+z-max k (c*z)):=by
 intro l_
 induction l_ with
 |nil=>
  rintro k
  simp[pgF]
 |cons r l ih_=>
  rintro k
  rw[pgF]
  by_cases h:k / z=c
  ·rw[if_pos h,ih_ (k+1)]
   obtain⟨h1,h2⟩:=(Tf hz k c).mp h
   have e1:c*z-k=0:=by lia
   have e2:c*z-(k+1)=0:=by lia
   have e3:max k (c*z)=k:=by lia
   have e4:max (k+1) (c*z)=k+1:=by lia
   rw[e1,e2,e3,e4,drop_zero,drop_zero]
   obtain⟨n,hn⟩:∃n,c*z+z-k=n+1:=⟨c*z+z-k-1,by lia⟩
   rw[hn,List.take_succ_cons]
   congr 2
   lia
  ·rw[if_neg h,ih_ (k+1)]
   have h':¬ (c*z≤k∧k<c*z+z):=fun y=>h ((Tf hz k c).mpr y)
   by_cases h3:k<c*z
   ·have e3:max k (c*z)=c*z:=by lia
    have e4:max (k+1) (c*z)=c*z:=by lia
    rw[e3,e4]
    obtain⟨n,hn⟩:∃n,c*z-k=n+1:=⟨c*z-k-1,by lia⟩
    have:c*z-(k+1)=n:=by lia
    rw[hn,this,List.drop_succ_cons]
   ·have e5:c*z+z-max k (c*z)=0:=by lia
    have e6:c*z+z-max (k+1) (c*z)=0:=by lia
    rw[e5,e6,List.take_zero,List.take_zero]
theorem Lm{z:Nat}(hz:0<z)(R:List Rw)(p:Nat):pgF z (p / z) 0 R=pgO R z p:=by
 rw[UU hz]
 unfold pgO
 rw[Nat.sub_zero]
 congr 1
 lia
noncomputable def pgT:FT:=(FD.tB (eOp eqD (eOp xW (ze 0) (ze 2)) (eOp xW (ze 3) (ze 2))))
theorem Ly:jg=(yx (fun τ=>((wv 2 [2,1] (iEn (za (ze 0) zi)) (gPr 0 1) pgT (ze 1)) τ).bind fun ds=>.ok (.lst ds))):=by unfold jg pgT;rfl
theorem JH(z p:Nat)(hz:0<z)(hz2:z<1000):∀(l:List Rw) (k:Nat),vm (gPr 0 1) pgT (ze 1) [none,none,some (.val (.int (z:Int))),some (.val (.int (p:Int)))] (xi k (l.map zv))=.ok ((pgF z (p / z) k l).map zv):=by
 intro l_
 induction l_ with
 |nil=>
  rintro k
  exact rfl
 |cons r l ih_=>
  rintro k
  have hset:gPr 0 1 (.tup [.int (k:Int),zv r]) [none,none,some (.val (.int (z:Int))),some (.val (.int (p:Int)))]=.ok [some (.val (.int (k:Int))),some (.val (zv r)),some (.val (.int (z:Int))),some (.val (.int (p:Int)))]:=rfl
  have ht:pgT [some (.val (.int (k:Int))),some (.val (zv r)),some (.val (.int (z:Int))),some (.val (.int (p:Int)))]=.ok (decide (k / z=p / z)):=by
   unfold pgT
   refine xV ((op2 (op2 (zk rfl) (zk rfl) (wW ⟨by lia,by lia⟩)) (op2 (zk rfl) (zk rfl) (wW ⟨by lia,by lia⟩)) va).trans ?_)
   congr 2
   rw[← natCast_ediv,← natCast_ediv,Bool.eq_iff_iff]
   simp
   lia
  have he:ze 1 [some (.val (.int (k:Int))),some (.val (zv r)),some (.val (.int (z:Int))),some (.val (.int (p:Int)))]=.ok (zv r):=zk rfl
  rw[map_cons,xi,vm,hset]
  dsimp only
  rw[ht,ih_ (k+1),pgF]
  by_cases h:k / z=p / z
  ·rw[if_pos h,decide_eq_true h]
   dsimp only
   rw[he];rfl
  ·rw[if_neg h,decide_eq_false h]
theorem Xj(R:List Rw)(z p:Nat)(hz:0<z)(hz2:z<1000)(hl:R.length≤1000):yr [.lst (R.map zv),.int (p:Int),.int (z:Int)]=.ok (.lst ((pgO R z p).map zv)):=by
 have st:yg 3 [.lst (R.map zv),.int (p:Int),.int (z:Int)]=[some (.val (.lst (R.map zv))),some (.val (.int (p:Int))),some (.val (.int (z:Int)))]:=rfl
 have cm:=JH z p hz hz2 R 0
 rw[Lm hz] at cm
 have hi:iEn (za (ze 0) zi) [some (.val (.lst (R.map zv))),some (.val (.int (p:Int))),some (.val (.int (z:Int)))]=.ok (xi 0 (R.map zv)):=by
  unfold iEn;rw[uP (zk rfl),Rs.bind_ok];rfl
 have ec:=vT (k:=2) (idx:=[2,1]) (fi:=iEn (za (ze 0) zi)) (τ:=[some (.val (.lst (R.map zv))),some (.val (.int (p:Int))),some (.val (.int (z:Int)))]) hi cm (by
  rw[length_map];unfold pgO;rw[length_take,length_drop];lia)
 unfold yr
 rw[Ly,yv,st,ZJ (d:=.lst ((pgO R z p).map zv)) (by rw[ec];rfl)];rfl
theorem zm0(b:Bool):intD [.bl b]=.ok (.int (if b then 1 else 0)):=rfl
theorem Lk(R:List Rw){z:Nat}(hz:0<z):pgs R z=R.length / z+(if 0<R.length%z then 1 else 0):=by
 unfold pgs
 have h1:=Nat.div_add_mod R.length z
 have h2:=Nat.mod_lt R.length hz
 generalize R.length / z=q at *
 generalize R.length%z=r at *
 rw[← h1]
 by_cases h:0<r
 ·rw[if_pos h]
  have:z*q+r+z-1=(r-1)+z*(q+1):=by rw[Nat.mul_add,Nat.mul_one];lia
  rw[this,Nat.add_mul_div_left _ _ hz,Nat.div_eq_of_lt (by lia)];lia
 ·rw[if_neg h]
  have:z*q+r+z-1=(z-1)+z*q:=by lia
  rw[this,Nat.add_mul_div_left _ _ hz,Nat.div_eq_of_lt (by lia)];lia
theorem Te(R:List Rw)(p:Nat)(h:p≤R.length)(hl:R.length≤1000){e f:FE}{τ:DS}(he:e τ=.ok (.lst (R.map zv)))(hf:f τ=.ok (.int (p:Int))):eOp ixD (eOp zN e (xP (za (eC .non) zi))) f τ=.ok (oR R[p]?):=by
 have h1:zN (.lst (R.map zv)) (.lst [.non])=.ok (.lst (R.map zv++[.non])):=by
  show(if _ then Rs.ok (D.lst _) else Rs.no)=_
  rw[if_pos (by rw[zZ,length_map,length_singleton];lia)]
 have h2:xP (za (eC .non) zi) τ=.ok (.lst [.non]):=J0 (a:=.non) (fa:=eC .non) rfl
 refine op2 (op2 he h2 h1) hf (YB (YH ?_))
 ·by_cases hp:p<R.length
  ·rw[getElem?_append_left (by rw[length_map];exact hp),getElem?_map,getElem?_eq_getElem hp];rfl
  ·have:p=R.length:=by lia
   subst this
   rw[getElem?_append_right (by rw[length_map];exact le_refl _),length_map,Nat.sub_self,List.getElem?_eq_none (le_refl R.length)];rfl
theorem ne_oR(o:Option Rw):neD (oR o) (oR o)=.ok (.bl false):=by
 rcases o with _|r
 ·rfl
 ·exact Yb r
theorem za9(rs:List Rw):eqD (.lst (rs.map zv)) (.lst (rs.map zv))=.ok (.bl true):=by
 refine X02 (jA rs) fun a b c=>?_
 have ok:=W3 rs
 have ev:wO (.lst (rs.map zv)) (.lst (rs.map zv))=true:=by
  simp[wO,yG,PyData.eqv,Xy]
 unfold eqD
 simp only[ok,and_self,if_true,ev]
noncomputable def V(R:List Rw)(p:Nat):Prop:=(R=[]∧p=0)∨p<R.length
theorem V.le{R:List Rw}{p:Nat}(h:V R p):p≤R.length:=by
 rcases h with ⟨rfl,rfl⟩|h
 ·exact le_refl _
 ·lia
theorem V.or{R:List Rw}{p:Nat}(h:V R p):R=[]∨p<R.length:=h.imp And.left id
noncomputable def JX:FE:=(eOp zN (eOp xW (ya yA (za (ze 1) zi)) (ze 3)) (ya intD (za (eOp gtD (eOp uX (ya yA (za (ze 1) zi)) (ze 3)) (eC (.int 0))) zi)))
noncomputable def lpE:FE:=(zB yr (za (ze 1) (za (ze 2) (za (ze 3) zi))))
noncomputable def stT:FT:=(jD (FD.tB (eOp neD (yO 0 "Pager" "pointed" zX zi) (ze 5))) (jD (FD.tB (eOp neD (yO 0 "Pager" "page" yd zi) lpE)) (FD.tB (eOp neD (yO 0 "Pager" "pages" yt zi) (ze 4)))))
theorem GF:v5=(zA (zU 4 JX)
  (zA (zU 5 (eOp ixD (eOp zN (ze 1) (xP (za (eC .non) zi))) (ze 2)))
  (zA (sIf stT (yx (eC (.bl false))) zS)
  (zA (VJ 0 "Pager" "page" yK (eC .non))
  (yx (eOp eqD (yO 0 "Pager" "page" yd zi) lpE)))))):=by unfold v5 stT JX lpE;rfl
theorem Wi(X:List (List Nat))(z:Nat)(R:List Rw)(p:Nat)(hz:0<z)(hz2:z<1000)(hl:R.length≤1000)(hv:V R p):yC (PG X z R p) [.lst (R.map zv),.int (p:Int),.int (z:Int)]=.ok (.bl true):=by
 have st:xG (.obr "Pager" (PG X z R p)) 0 6 [.lst (R.map zv),.int (p:Int),.int (z:Int)]=[some (.obr "Pager" (PG X z R p)),some (.val (.lst (R.map zv))),some (.val (.int (p:Int))),some (.val (.int (z:Int))),none,none]:=rfl
 have e1:JX [some (.obr "Pager" (PG X z R p)),some (.val (.lst (R.map zv))),some (.val (.int (p:Int))),some (.val (.int (z:Int))),none,none]=.ok (.int (pgs R z:Int)):=by
  unfold JX
  refine(op2 (op2 (uk (zk rfl) wd) (zk rfl) (wW ⟨by lia,by lia⟩)) (uk (op2 (op2 (uk (zk rfl) wd) (zk rfl) (jb (by lia))) rfl Ut) (zm0 _)) yI).trans ?_
  rw[Lk R hz,length_map]
  congr 2
  rw[← natCast_ediv,← Int.natCast_emod,Int.natCast_add]
  congr 1
  by_cases h:0<R.length%z
  ·rw[if_pos h,decide_eq_true (by lia)];rfl
  ·rw[if_neg h,decide_eq_false (by lia)];rfl
 have lp:∀a4 a5,lpE [some (.obr "Pager" (PG X z R p)),some (.val (.lst (R.map zv))),some (.val (.int (p:Int))),some (.val (.int (z:Int))),a4,a5]=.ok (.lst ((pgO R z p).map zv)):=fun a4 a5=>wM (zk rfl) (zk rfl) (zk rfl) (Xj R z p hz hz2 hl)
 have pp:∀a4 a5,yO 0 "Pager" "page" yd zi [some (.obr "Pager" (PG X z R p)),some (.val (.lst (R.map zv))),some (.val (.int (p:Int))),some (.val (.int (z:Int))),a4,a5]=.ok (.lst ((pgO R z p).map zv)):=fun a4 a5=>vC (V5 rfl) (WW X z R p) zD (JN X z R p hz hz2 hl)
 unfold yC XS
 rw[GF,st,zQ (yR e1)]
 rw[zQ (yR (Te R p hv.le hl (zk rfl) (zk rfl)))]
 have g:stT [some (.obr "Pager" (PG X z R p)),some (.val (.lst (R.map zv))),some (.val (.int (p:Int))),some (.val (.int (z:Int))),some (.val (.int (pgs R z:Int))),some (.val (oR R[p]?))]=.ok false:=by
  unfold stT
  refine Mo (xV (op2 (vC (V5 rfl) (jT X z R p) zD (jS X z R p hv.or)) (zk rfl) ?_)) (Mo (xV (op2 (pp _ _) (lp _ _) (Vc _))) (xV ((op2 (vC (V5 rfl) (VR X z R p) zD (V1 X z R p hz hz2)) (zk rfl) neD_i).trans ?_)))
  ·rw[GW];exact ne_oR _
  ·simp
 show Zr (zA _ _ [some (.obr "Pager" (PG X z R p)),some (.val (.lst (R.map zv))),some (.val (.int (p:Int))),some (.val (.int (z:Int))),some (.val (.int (pgs R z:Int))),some (.val (oR R[p]?))])=_
 rw[zQ (ZZ g)]
 have ap:VJ 0 "Pager" "page" yK (eC .non) [some (.obr "Pager" (PG X z R p)),some (.val (.lst (R.map zv))),some (.val (.int (p:Int))),some (.val (.int (z:Int))),some (.val (.int (pgs R z:Int))),some (.val (oR R[p]?))]=.nx [some (.obr "Pager" (PG X z R p)),some (.val (.lst (R.map zv))),some (.val (.int (p:Int))),some (.val (.int (z:Int))),some (.val (.int (pgs R z:Int))),some (.val (oR R[p]?))]:=by
  unfold VJ
  rw[V5 rfl,Fl.of_ok,WW X z R p,if_pos (show(none:Option D).isNone=true from rfl),V2 X z R p hz hz2 hl]
  dsimp only
  show Fl.of (Rs.ok D.non) _=_
  rw[Fl.of_ok,if_pos]
  rw[zZ,length_map];unfold pgO;rw[length_take,length_drop];lia
 rw[zQ ap,ZJ (op2 (pp _ _) (lp _ _) (za9 _))];rfl
theorem ac{fe:FE}{fr:FA}{τ:DS}{a:D}{ds:List D}(h1:fe τ=.ok a)(h2:fr τ=.ok ds):za fe fr τ=.ok (a::ds):=by rw[zE,h1,Rs.bind_ok,h2,Rs.bind_ok]
theorem TN{fs:FA}{τ:DS}{ds:List D}(h:fs τ=.ok ds)(hl:ds.length≤1000):xS fs τ=.ok (.tup ds):=by
 unfold xS;rw[h,Rs.bind_ok,if_pos (by rw[zZ];lia)]
theorem LP{fs:FA}{τ:DS}{ds:List D}(h:fs τ=.ok ds)(hl:ds.length≤1000):xP fs τ=.ok (.lst ds):=by
 unfold xP;rw[h,Rs.bind_ok,if_pos (by rw[zZ];lia)]
theorem zc4{fe:FE}{τ:DS}{ds:List D}(h:fe τ=.ok (.tup ds)):wN fe τ=.ok ds:=by unfold wN;rw[h];rfl
noncomputable def jH(w:Int):FOb:=(vQ 1 "Pager" zK zi (za (eC (.int w)) (za (ze 0) zi)))
noncomputable def Wf(w:Int)(fi:FA):FOb:=Ya 1 [1] 1 1 "Pager" fi (gNm 0) (jH w)
theorem xC{o o1:Fs}{w b:Int}{d:D}{r xs:List D}{τe:DS}{a0:Option Sl}(h:zK o [.int w,.int b]=.ok (d,o1))(h2:vV (gNm 0) (jH w) r [some (.val (.int b)),some (.obj 1 "Pager" o1)]=.ok (xs,τe)):vV (gNm 0) (jH w) (.int b::r) [a0,some (.obj 1 "Pager" o)]=.ok (d::xs,τe):=by
 have hs:gNm 0 (.int b) [a0,some (.obj 1 "Pager" o)]=.ok [some (.val (.int b)),some (.obj 1 "Pager" o)]:=rfl
 have he:jH w [some (.val (.int b)),some (.obj 1 "Pager" o)]=.ok (d,[some (.val (.int b)),some (.obj 1 "Pager" o1)]):=by
  unfold jH
  exact Zw rfl zD (ac (a:=.int w) rfl (uP (zk rfl))) h
 rw[vV,hs]
 dsimp only
 rw[he]
 dsimp only
 rw[h2]
theorem YI{w:Int}{fi:FA}{τ:DS}{n:Nat}{o o':Fs}{ds xs:List D}{a:Option Sl}(h:τ[1]?=some (some (.obj n "Pager" o)))(hi:fi τ=.ok ds)(hc:vV (gNm 0) (jH w) ds [none,some (.obj 1 "Pager" o)]=.ok (xs,[a,some (.obj 1 "Pager" o')]))(hl:xs.length≤1000):Wf w fi τ=.ok (.lst xs,τ.set 1 (some (.obj n "Pager" o'))):=by
 unfold Wf Ya
 rw[W2 h,Rs.bind_ok,hi,Rs.bind_ok]
 have e:YJ 1 [1] 1 (.obj 1 "Pager" o) τ=[none,some (.obj 1 "Pager" o)]:=rfl
 dsimp only
 rw[e,hc]
 dsimp only
 rw[W2 (i:=1) (n:=1) (fs:=o') rfl]
 dsimp only
 rw[if_pos ⟨rfl,by rw[zZ];lia⟩]
noncomputable def X0:List (List Nat):=[[97],[97,98],[98,97],[120,97],[97,97]]
theorem a_s:("a" : Str)=⟨([97]:List Nat).toArray⟩:=by decide +kernel
theorem ab_s:("ab" : Str)=⟨([97,98]:List Nat).toArray⟩:=by decide +kernel
theorem ba_s:("ba" : Str)=⟨([98,97]:List Nat).toArray⟩:=by decide +kernel
theorem xa_s:("xa" : Str)=⟨([120,97]:List Nat).toArray⟩:=by decide +kernel
theorem aa_s:("aa" : Str)=⟨([97,97]:List Nat).toArray⟩:=by decide +kernel
theorem x0_e:D.lst [.str "a", .str "ab", .str "ba", .str "xa", .str "aa"]=.lst (X0.map tx):=by rw[a_s,ab_s,ba_s,xa_s,aa_s];rfl
theorem sr0:(SR X0 [])[0]?=some (0,0):=by decide +kernel
theorem sr1:(SR X0 [97]).length=5∧(vI (SR X0 [97])).idxOf 0=0:=by decide +kernel
theorem zm8{n:Nat}{ds:List D}(h:gd n (.lst ds))(hn:n≤60):eqD (.lst ds) (.lst ds)=.ok (.bl true):=by
 obtain⟨a,b⟩:=M3 h hn
 unfold eqD
 simp only[a,and_self,if_true,b]
theorem za3(rs:List Rw):gd 2 (.lst (rs.map zv)):=by
 intro d hd
 obtain⟨r,_,rfl⟩:=mem_map.mp hd
 intro e he
 rcases mem_cons.mp he with rfl|he
 ·trivial
 ·rcases mem_cons.mp he with rfl|he
  ·trivial
  ·cases he
noncomputable def zb1:FE:=(xP (za (eOp ixD (ze 2) (eC (.int 1))) (za (eOp ixD (ze 2) (eC (.int 3))) (za (eOp ixD (ze 2) (eC (.int 4))) (za (eOp ixD (ze 2) (eC (.int 1))) zi)))))
noncomputable def mvs:FA:=(wN (xS (za (eC (.int 1)) (za (eC (.int 2)) (za (wy (eC (.int 4))) (za (eC (.int 7)) zi))))))
noncomputable def tns:FA:=(wN (xS (za (eC (.int 2)) (za (wy (eC (.int 2))) (za (eC (.int 0)) (za (eC (.int 1)) (za (wy (eC (.int 1))) zi)))))))
noncomputable def nos:FA:=(wN (xS (za (wy (eC (.int 1))) (za (eC (.int 3)) zi))))
noncomputable def LR:FE:=(zB yr (za (ze 1) (za (ze 0) (za (eC (.int 2)) zi))))
noncomputable def pls:FA:=(wN (xS (za (eC (.int 4)) (za (eC (.int 0)) (za (eC (.int 0)) (za (eC (.int 2)) (za (eC (.int 0)) zi)))))))
theorem TD:uK=(zA (zU 0 (xP (za (eC (.str "a")) (za (eC (.str "ab")) (za (eC (.str "ba")) (za (eC (.str "xa")) (za (eC (.str "aa")) zi)))))))
  (zA (jI 1 "Pager" z9 (za (ze 0) (za (eC (.int 2)) zi)))
  (zA (YO (Zl 1 "Pager" "ask" y4 (za (eC (.str "a")) zi)))
  (zA (zU 2 (zB yF (za (ze 0) (za (eC (.str "a")) (za (eC (.int 99)) zi)))))
  (zA (ZI (oB (oOp neD (Wf 1 mvs) zb1)) (yx (eC (.bl false))) zS)
  (zA (VI 3 (Wf 2 tns))
  (zA (zU 4 fun τ=>((wv 1 [2] pls (gNm 0) (fun _=>.ok true) LR) τ).bind fun ds=>.ok (.lst ds))
  (Wl (V8 (oOf (eOp eqD (ze 3) (ze 4))) (oOp eqD (Wf 2 nos) (xP (za (eC (.bl true)) (za (eC (.bl true)) zi))))))))))))):=by
 unfold uK Wf jH mvs zb1 tns pls LR nos;rfl
theorem zk3{τ:DS}:mvs τ=.ok [.int 1,.int 2,.int (-4),.int 7]:=zc4 (TN (ac rfl (ac rfl (ac (Xf rfl) (ac rfl zD)))) (by simp))
theorem zf6{τ:DS}:tns τ=.ok [.int 2,.int (-2),.int 0,.int 1,.int (-1)]:=zc4 (TN (ac rfl (ac (Xf rfl) (ac rfl (ac rfl (ac (Xf rfl) zD))))) (by simp))
theorem zj8{τ:DS}:nos τ=.ok [.int (-1),.int 3]:=zc4 (TN (ac (Xf rfl) (ac rfl zD)) (by simp))
theorem zg8{τ:DS}:pls τ=.ok (([4,0,0,2,0]:List Nat).map fun (p:Nat)=>D.int p):=zc4 (TN (ac rfl (ac rfl (ac rfl (ac rfl (ac rfl zD))))) (by simp))
theorem WJ(X:List (List Nat))(z:Nat)(R:List Rw)(p p':Nat)(b:Int)(h:0<R.length)(hm:mvd R p b=p'):zK (PG X z R p) [.int 1,.int b]=.ok (ptd R p',PG X z R p'):=by rw[← hm];exact zc9 X z R p b h
section
variable(r0 r1 r2 r3 r4:Rw)
noncomputable abbrev R5:List Rw:=[r0,r1,r2,r3,r4]
theorem mvs_c(a0:Option Sl):vV (gNm 0) (jH 1) [.int 1,.int 2,.int (-4),.int 7] [a0,some (.obj 1 "Pager" (PG X0 2 (R5 r0 r1 r2 r3 r4) 0))]=.ok ([r1,r3,r4,r1].map zv,[some (.val (.int 7)),some (.obj 1 "Pager" (PG X0 2 (R5 r0 r1 r2 r3 r4) 1))]):=
 xC (WJ X0 2 (R5 r0 r1 r2 r3 r4) 0 1 1 (by simp) (by simp[mvd])) (xC (WJ X0 2 (R5 r0 r1 r2 r3 r4) 1 3 2 (by simp) (by simp[mvd])) (xC (WJ X0 2 (R5 r0 r1 r2 r3 r4) 3 4 (-4) (by simp) (by simp[mvd])) (xC (WJ X0 2 (R5 r0 r1 r2 r3 r4) 4 1 7 (by simp) (by simp[mvd])) rfl)))
theorem tns_c(a0:Option Sl):vV (gNm 0) (jH 2) [.int 2,.int (-2),.int 0,.int 1,.int (-1)] [a0,some (.obj 1 "Pager" (PG X0 2 (R5 r0 r1 r2 r3 r4) 1))]=.ok (([4,0,0,2,0]:List Nat).map fun (p:Nat)=>D.lst ((pgO (R5 r0 r1 r2 r3 r4) 2 p).map zv),[some (.val (.int (-1))),some (.obj 1 "Pager" (PG X0 2 (R5 r0 r1 r2 r3 r4) 0))]):=
 xC (Wd X0 2 (R5 r0 r1 r2 r3 r4) 1 2 2 (by decide) (by decide) (by simp) rfl (by simp[pgs])) (xC (Wd X0 2 (R5 r0 r1 r2 r3 r4) 4 (-2) 0 (by decide) (by decide) (by simp) rfl (by simp[pgs])) (xC (Wd X0 2 (R5 r0 r1 r2 r3 r4) 0 0 0 (by decide) (by decide) (by simp) rfl (by simp[pgs])) (xC (Wd X0 2 (R5 r0 r1 r2 r3 r4) 0 1 1 (by decide) (by decide) (by simp) rfl (by simp[pgs])) (xC (Wd X0 2 (R5 r0 r1 r2 r3 r4) 2 (-1) 0 (by decide) (by decide) (by simp) rfl (by simp[pgs])) rfl))))
theorem nos_c(a0:Option Sl):vV (gNm 0) (jH 2) [.int (-1),.int 3] [a0,some (.obj 1 "Pager" (PG X0 2 (R5 r0 r1 r2 r3 r4) 0))]=.ok ([.bl true,.bl true],[some (.val (.int 3)),some (.obj 1 "Pager" (PG X0 2 (R5 r0 r1 r2 r3 r4) 0))]):=
 xC (UJ X0 2 (R5 r0 r1 r2 r3 r4) 0 (-1) (by decide) (by decide) (.inl (by decide))) (xC (UJ X0 2 (R5 r0 r1 r2 r3 r4) 0 3 (by decide) (by decide) (.inr (by simp[pgs,tno]))) rfl)
theorem due_c(a0:Option Sl):vm (gNm 0) (fun _=>.ok true) LR [none,some (.val (.lst ((R5 r0 r1 r2 r3 r4).map zv)))] (([4,0,0,2,0]:List Nat).map fun (p:Nat)=>D.int p)=.ok ((([4,0,0,2,0]:List Nat).map id).map fun (p:Nat)=>D.lst ((pgO (R5 r0 r1 r2 r3 r4) 2 p).map zv)):=
 uh (fun (p:Nat)=>D.int p) (fun (p:Nat)=>D.lst ((pgO (R5 r0 r1 r2 r3 r4) 2 p).map zv)) id [4,0,0,2,0] fun p _=>Y11 [some (.val (.int (p:Int))),some (.val (.lst ((R5 r0 r1 r2 r3 r4).map zv)))] rfl (wM (zk rfl) (zk rfl) rfl (Xj (R5 r0 r1 r2 r3 r4) 2 p (by decide) (by decide) (by simp)))
end
theorem zj6{fa fb:FOb}{τ τ' τ2:DS}{d:D}(h1:fa τ=.ok (.bl true,τ'))(h2:fb τ'=.ok (d,τ2)):V8 fa fb τ=.ok (d,τ2):=by unfold V8;rw[h1,Rs.bind_ok];exact h2
theorem zj5{fe:FE}{τ:DS}{d:D}(h:fe τ=.ok d):oOf fe τ=.ok (d,τ):=by unfold oOf;rw[h];rfl
theorem T8{fo:FOb}{τ τ':DS}{d:D}(h:fo τ=.ok (d,τ')):Wl fo τ=.rt d:=by unfold Wl;rw[h,Fl.of_ok]
theorem Gs:xq []=.ok (.bl true):=by
 have st:yg 5 []=[none,none,none,none,none]:=rfl
 have hx:∀x∈X0,x.length≤1000:=by decide
 have ha:∀c∈([97]:List Nat),c<128:=by decide
 unfold xq
 rw[TD,yv,st]
 have e0:xP (za (eC (.str "a")) (za (eC (.str "ab")) (za (eC (.str "ba")) (za (eC (.str "xa")) (za (eC (.str "aa")) zi))))) [none,none,none,none,none]=.ok (.lst (X0.map tx)):=by
  rw[← x0_e];exact LP (ac rfl (ac rfl (ac rfl (ac rfl (ac rfl zD))))) (by simp)
 have ea:(.str "a" : D)=tx [97]:=by rw[a_s]
 rw[zQ (yR e0)]
 rw[zQ (Ve (ds:=[.lst (X0.map tx),.int ((2:Nat):Int)]) (ac (zk rfl) (uP rfl)) (Vh X0 2 (by decide) hx (by decide)))]
 have hv:SR X0 []=[]∨0<(SR X0 []).length:=.inr (by
  have:=sr0
  cases h:SR X0 [] with
  |nil=>rw[h] at this;cases this
  |cons a b=>simp)
 have am:=Tu X0 2 (SR X0 []) 0 [97] hv (by decide) hx ha (by decide)
 rw[Wu _ _ (zd4 X0 [97]),sr0] at am
 have hp:plc (some (0,0)) (SR X0 [97])=0:=by
  unfold plc;dsimp only
  split
  ·exact sr1.2
  ·rfl
 rw[hp] at am
 have hlen:=sr1.1
 have hf:=ug X0 [97] 99 (by decide) (by decide) hx ha (by decide)
 generalize SR X0 [97]=R at am hlen hf
 obtain⟨r0,r1,r2,r3,r4,rfl⟩:∃r0 r1 r2 r3 r4,R=R5 r0 r1 r2 r3 r4:=by
  match R,hlen with
  |[r0,r1,r2,r3,r4],_=>exact⟨r0,r1,r2,r3,r4,rfl⟩
 rw[← ea] at am hf
 rw[zQ (M9 (JW (n:=0) (o:=PG X0 2 (SR X0 []) 0) rfl (G2 X0 2 _ 0) (uP rfl) am))]
 rw[zQ (yR (wM (zk rfl) rfl rfl hf))]
 show Zr (zA _ _ [some (.val (.lst (X0.map tx))),some (.obj 0 "Pager" (PG X0 2 (R5 r0 r1 r2 r3 r4) 0)),some (.val (.lst ((R5 r0 r1 r2 r3 r4).map zv))),none,none])=_
 have t1:=YI (w:=1) (fi:=mvs) (τ:=[some (.val (.lst (X0.map tx))),some (.obj 0 "Pager" (PG X0 2 (R5 r0 r1 r2 r3 r4) 0)),some (.val (.lst ((R5 r0 r1 r2 r3 r4).map zv))),none,none]) rfl zk3 (mvs_c r0 r1 r2 r3 r4 none) (by simp)
 have d1:zb1 [some (.val (.lst (X0.map tx))),some (.obj 0 "Pager" (PG X0 2 (R5 r0 r1 r2 r3 r4) 1)),some (.val (.lst ((R5 r0 r1 r2 r3 r4).map zv))),none,none]=.ok (.lst ([r1,r3,r4,r1].map zv)):=by
  unfold zb1
  exact LP (ac (op2 (zk rfl) rfl (jq (R5 r0 r1 r2 r3 r4) 1 (by simp))) (ac (op2 (zk rfl) rfl (jq (R5 r0 r1 r2 r3 r4) 3 (by simp))) (ac (op2 (zk rfl) rfl (jq (R5 r0 r1 r2 r3 r4) 4 (by simp))) (ac (op2 (zk rfl) rfl (jq (R5 r0 r1 r2 r3 r4) 1 (by simp))) zD)))) (by simp)
 rw[zQ (Us (V7 (ZP t1 d1 (Vc [r1,r3,r4,r1]))))]
 show Zr (zA _ _ [some (.val (.lst (X0.map tx))),some (.obj 0 "Pager" (PG X0 2 (R5 r0 r1 r2 r3 r4) 1)),some (.val (.lst ((R5 r0 r1 r2 r3 r4).map zv))),none,none])=_
 have t2:=YI (w:=2) (fi:=tns) (τ:=[some (.val (.lst (X0.map tx))),some (.obj 0 "Pager" (PG X0 2 (R5 r0 r1 r2 r3 r4) 1)),some (.val (.lst ((R5 r0 r1 r2 r3 r4).map zv))),none,none]) rfl zf6 (tns_c r0 r1 r2 r3 r4 none) (by simp)
 rw[zQ (T3 t2)]
 have ec:=vT (k:=1) (idx:=[2]) (fi:=pls) (τ:=[some (.val (.lst (X0.map tx))),some (.obj 0 "Pager" (PG X0 2 (R5 r0 r1 r2 r3 r4) 0)),some (.val (.lst ((R5 r0 r1 r2 r3 r4).map zv))),some (.val (.lst (([4,0,0,2,0]:List Nat).map fun (p:Nat)=>D.lst ((pgO (R5 r0 r1 r2 r3 r4) 2 p).map zv)))),none]) zg8 (due_c r0 r1 r2 r3 r4 none) (by simp)
 rw[map_id] at ec
 rw[zQ (yR (d:=.lst (([4,0,0,2,0]:List Nat).map fun (p:Nat)=>D.lst ((pgO (R5 r0 r1 r2 r3 r4) 2 p).map zv))) (by
  show Rs.bind (wv 1 [2] pls (gNm 0) (fun _=>.ok true) LR [some (.val (.lst (X0.map tx))),some (.obj 0 "Pager" (PG X0 2 (R5 r0 r1 r2 r3 r4) 0)),some (.val (.lst ((R5 r0 r1 r2 r3 r4).map zv))),some (.val (.lst (([4,0,0,2,0]:List Nat).map fun (p:Nat)=>D.lst ((pgO (R5 r0 r1 r2 r3 r4) 2 p).map zv)))),none]) _=_
  rw[ec];rfl))]
 have gq:gd 3 (.lst (([4,0,0,2,0]:List Nat).map fun (p:Nat)=>D.lst ((pgO (R5 r0 r1 r2 r3 r4) 2 p).map zv))):=by
  intro d hd
  obtain⟨p,_,rfl⟩:=mem_map.mp hd
  exact za3 _
 generalize ((([4,0,0,2,0]:List Nat).map fun (p:Nat)=>D.lst ((pgO (R5 r0 r1 r2 r3 r4) 2 p).map zv)))=L at gq ⊢
 show Zr (Wl _ [some (.val (.lst (X0.map tx))),some (.obj 0 "Pager" (PG X0 2 (R5 r0 r1 r2 r3 r4) 0)),some (.val (.lst ((R5 r0 r1 r2 r3 r4).map zv))),some (.val (.lst L)),some (.val (.lst L))])=_
 have t3:=YI (w:=2) (fi:=nos) (τ:=[some (.val (.lst (X0.map tx))),some (.obj 0 "Pager" (PG X0 2 (R5 r0 r1 r2 r3 r4) 0)),some (.val (.lst ((R5 r0 r1 r2 r3 r4).map zv))),some (.val (.lst L)),some (.val (.lst L))]) rfl zj8 (nos_c r0 r1 r2 r3 r4 none) (by simp)
 rw[T8 (zj6 (zj5 (op2 (zk rfl) (zk rfl) (zm8 gq (by decide)))) (ZP t3 (LP (ac rfl (ac rfl zD)) (by simp)) (show eqD (.lst [.bl true,.bl true]) (.lst [.bl true,.bl true])=.ok (.bl true) from rfl)))]
 rfl
theorem MW(l:List Nat):Vf (l.map fun (k:Nat)=>D.int k)=some (l.map fun (k:Nat)=>(k:Int)):=by
 induction l with
 |nil=>rfl
 |cons a l ih=>rw[map_cons,Vf,ih];rfl
theorem L8(l:List Nat)(k:Nat):(l.map fun (k:Nat)=>(k:Int)).idxOf (k:Int)=l.idxOf k:=by
 induction l with
 |nil=>rfl
 |cons a l ih=>
  rw[map_cons,List.idxOf_cons,List.idxOf_cons,ih]
  have:((a:Int)==(k:Int))=(a==k):=by rw[Bool.eq_iff_iff];simp;lia
  rw[this]
theorem L4(l:List Nat)(k:Nat)(hk:k∈l)(h:l.length≤1000):Uk (.lst (l.map fun (k:Nat)=>D.int k)) [.int (k:Int)]=.ok (.int (l.idxOf k:Nat)):=by
 have e:MG (.lst (l.map fun (k:Nat)=>D.int k)) [.int (k:Int)]=some (l.map fun (k:Nat)=>(k:Int),(k:Int)):=by
  show(Vf (l.map fun (k:Nat)=>D.int k)).map (·,(k:Int))=_
  rw[MW];rfl
 unfold Uk
 rw[e]
 show(if (k:Int)∈(l.map fun (k:Nat)=>(k:Int))∧(l.map fun (k:Nat)=>(k:Int)).length≤1000 then Rs.ok (D.int ((l.map fun (k:Nat)=>(k:Int)).idxOf (k:Int):Nat)) else .no)=_
 rw[if_pos ⟨mem_map.mpr ⟨k,hk,rfl⟩,by rw[length_map];exact h⟩,L8]
theorem za4(l:List Nat):gd 1 (.lst (l.map fun (k:Nat)=>D.int k)):=by
 intro d hd
 obtain⟨k,_,rfl⟩:=mem_map.mp hd
 trivial
theorem zm2(l:List Nat)(k:Nat):inD (.int (k:Int)) (.lst (l.map fun (k:Nat)=>D.int k))=.ok (.bl (decide (k∈l))):=by
 have o1:okD (.int (k:Int))=true:=by simp[okD,xf,yG,PyData.canLay0,PyData.depth]
 have o2:okD (.lst (l.map fun (k:Nat)=>D.int k))=true:=(M3 (za4 l) (by decide)).1
 show(if okD (.int (k:Int))=true∧okD (.lst (l.map fun (k:Nat)=>D.int k))=true then Rs.ok (D.bl ((l.map fun (k:Nat)=>D.int k).any fun y=>wO y (.int (k:Int)))) else .no)=_
 rw[if_pos ⟨o1,o2⟩,List.any_map]
 congr 2
 rw[Bool.eq_iff_iff,List.any_eq_true,decide_eq_true_eq]
 constructor
 ·rintro⟨a,ha,h⟩
  have h':(a:Int)=(k:Int):=by simpa[wO,yG,PyData.eqv] using h
  have:a=k:=by lia
  subst this;exact ha
 ·intro h
  exact Y11 k h (by simp[wO,yG,PyData.eqv])
noncomputable abbrev vv(d:D):Option Sl:=some (.val d)
noncomputable abbrev pg(X:List (List Nat))(z:Nat)(R:List Rw)(p:Nat):Option Sl:=some (.obj 0 "Pager" (PG X z R p))
noncomputable abbrev S14(a0 a1 a2 a3 a4 a5 a6 a7 a8 a9 a10 a11 a12 a13:Option Sl):DS:=[a0,a1,a2,a3,a4,a5,a6,a7,a8,a9,a10,a11,a12,a13]
noncomputable def stE:FE:=(Zv 3 "Pager" yC zi (za (ze 5) (za (ze 6) (za (ze 2) zi))))
noncomputable def Go:FE:=(zB zx (za (ze 0) (za (eOp zN (eC (.int 80)) (eOp xY (eC (.int 30)) (ze 7))) (za (eC (.int 3)) zi))))
noncomputable def byE:FE:=(eOp jE (zB zx (za (ze 0) (za (eOp zN (eC (.int 81)) (eOp xY (eC (.int 30)) (ze 7))) (za (eC (.int 9)) zi)))) (eC (.int 4)))
noncomputable def quE:FE:=(zB xN (za (ze 0) (za (eOp zN (eC (.int 83)) (eOp xY (eC (.int 30)) (ze 7))) (za (eOp ixD (ze 10) (zB zx (za (ze 0) (za (eOp zN (eC (.int 82)) (eOp xY (eC (.int 30)) (ze 7))) (za (ya yA (za (ze 10) zi)) zi))))) (za (eC (.int 2)) zi)))))
noncomputable def v8(w t:FE):FOb:=(vQ 3 "Pager" zK zi (za w (za t zi)))
noncomputable def fw0:FS:=(zA (zU 10 (eOp zN (ze 1) (xP (za (eC (.str "abc")) zi))))
  (zA (zU 11 quE)
  (zA (zU 12 (eOp ixD (eOp zN (ze 5) (xP (za (eC .non) zi))) (ze 6)))
  (zA (zU 5 (zB yF (za (ze 1) (za (ze 11) (za (eC (.int 99)) zi)))))
  (zA (zU 13 fun τ=>((wv 1 [] (wN (ze 5)) (gNm 0) (fun _=>.ok true) (eOp ixD (ze 0) (eC (.int 1)))) τ).bind fun ds=>.ok (.lst ds))
  (zA (zU 6 (eC (.int 0)))
  (zA (sIf (wZ (FD.tB (eOp we (ze 12) (eC .non))) (FD.tB (eOp inD (eOp ixD (ze 12) (eC (.int 1))) (ze 13)))) (zU 6 (eMt "list" Uk (ze 13) (za (eOp ixD (ze 12) (eC (.int 1))) zi))) zS)
  (ZI (oB (oOp we (v8 (eC (.int 0)) (ze 11)) (eC .non))) (yx (eC (.bl false))) zS))))))))
noncomputable def fw1:FS:=(zA (zU 6 (eOp uX (eOp zN (ze 6) (ze 9)) (ya yA (za (ze 5) zi))))
  (ZI (oB (oOp neD (v8 (eC (.int 1)) (ze 9)) (eOp ixD (ze 5) (ze 6)))) (yx (eC (.bl false))) zS))
noncomputable def wt1:FT:=(wZ (FD.tB (eOp eqD (ze 8) (eC (.int 1)))) (FD.tB (eOp neD (ze 5) (xP zi))))
noncomputable def toE:FE:=(eOp xY (eOp zN (eOp xW (ze 6) (ze 2)) (ze 9)) (ze 2))
noncomputable def wt2:FT:=(wZ (FD.tB (eOp eqD (ze 8) (eC (.int 2)))) (FD.tB (j2 leD ltI (eC (.int 0)) toE (ya yA (za (ze 5) zi)))))
noncomputable def fw2:FS:=(zA (zU 6 toE)
  (ZI (oB (oOp neD (v8 (eC (.int 2)) (ze 9)) (zB yr (za (ze 5) (za (ze 6) (za (ze 2) zi)))))) (yx (eC (.bl false))) zS))
noncomputable def fw3:FS:=(ZI (oB (oOp YC (v8 (ze 8) (ze 9)) (eC (.bl true)))) (yx (eC (.bl false))) zS)
noncomputable def Wc:FS:=(zA (sIf (uY (jC stE)) (yx (eC (.bl false))) zS)
  (zA (zU 8 Go)
  (zA (zU 9 byE)
  (sIf (FD.tB (eOp eqD (ze 8) (eC (.int 0)))) fw0 (sIf wt1 fw1 (sIf wt2 fw2 fw3))))))
theorem law_b:Tr=(zA (zU 1 (zB xO (za (ze 0) (za (eC (.int 0)) (za (eC (.int 5)) zi)))))
  (zA (zU 2 (eOp zN (eC (.int 1)) (zB zx (za (ze 0) (za (eC (.int 78)) (za (eC (.int 3)) zi))))))
  (zA (jI 3 "Pager" z9 (za (ze 1) (za (ze 2) zi)))
  (zA (jI 4 "Pager" z9 (za (ze 1) (za (ze 2) zi)))
  (zA (zU 5 (zB yF (za (ze 1) (za (eC (.str "")) (za (eC (.int 99)) zi)))))
  (zA (zU 6 (eC (.int 0)))
  (zA (uu (vJ (za (ya ud (za (eC (.int 1)) (za (ya uT (za (eC (.int 6)) (za (ya yA (za (ze 0) zi)) zi))) zi))) zi)) (gNm 7) Wc)
  (zA (sIf (uY (jC (zB xq zi))) (yx (eC (.bl false))) zS)
  (yx (Ji stE (Zv 4 "Pager" yC zi (za (zB yF (za (ze 1) (za (eC (.str "")) (za (eC (.int 99)) zi)))) (za (eC (.int 0)) (za (ze 2) zi)))))))))))))):=by
 unfold Tr Wc fw0 fw1 fw2 fw3 wt1 wt2 toE v8 quE byE Go stE;rfl
theorem ze0{g:FT}{τ:DS}(h:g τ=.ok true):uY g τ=.ok false:=by unfold uY;rw[h];rfl
theorem zc8{fe:FE}{τ:DS}(h:fe τ=.ok (.bl true)):jC fe τ=.ok true:=by unfold jC;rw[h];rfl
section
variable(ns:List Int)(X:List (List Nat))(z:Nat)(R:List Rw)(p:Nat)(a4 a7 a8 a9 a10 a11 a12 a13:Option Sl)
theorem zd3(hz:0<z)(hz2:z<1000)(hl:R.length≤1000)(hv:V R p):stE (S14 (vv (.scr ns)) (vv (.lst (X.map tx))) (vv (.int (z:Int))) (pg X z R p) a4 (vv (.lst (R.map zv))) (vv (.int (p:Int))) a7 a8 a9 a10 a11 a12 a13)=.ok (.bl true):=by
 unfold stE
 exact Qn (jX rfl) zD (ac (zk rfl) (ac (zk rfl) (uP (zk rfl)))) (Wi X z R p hz hz2 hl hv)
theorem f0_ok(k:Nat)(hk:k≤100)(h63:ns.length≤63)(hX:∀x∈X,UE x)(hXl:X.length≤5)(hl:R.length≤5)(hv:V R p):∃q b10 b11 b12 b13,(∀c∈q,c<128)∧q.length≤10 ∧
  fw0 (S14 (vv (.scr ns)) (vv (.lst (X.map tx))) (vv (.int (z:Int))) (pg X z R p) a4 (vv (.lst (R.map zv))) (vv (.int (p:Int))) (vv (.int (k:Int))) a8 a9 a10 a11 a12 a13)
  = .nx (S14 (vv (.scr ns)) (vv (.lst (X.map tx))) (vv (.int (z:Int))) (pg X z (SR X q) (plc R[p]? (SR X q))) a4 (vv (.lst ((SR X q).map zv))) (vv (.int (plc R[p]? (SR X q):Nat))) (vv (.int (k:Int))) a8 a9 b10 b11 b12 b13):=by
 have dl:=wX ns (82+30*(k:Int)) (m:=(X.length:Int)+1) (by lia)
 have dk:=wD ns (82+30*(k:Int)) ((X.length:Int)+1) h63 (by lia) (by lia) (by lia)
 generalize xX ns (82+30*(k:Int)) ((X.length:Int)+1)=M at dl dk
 have hi:M.toNat<(X++[abcN]).length:=by rw[length_append,length_singleton];lia
 have hm':(X++[abcN]).getD M.toNat []∈X++[abcN]:=getD_mem hi
 have hn:UE ((X++[abcN]).getD M.toNat []):=by
  rcases mem_append.mp hm' with z|z
  ·exact hX _ z
  ·have:(X++[abcN]).getD M.toNat []=abcN:=by simpa using z
   rw[this];exact zn6
 refine X12 (GS ns (83+30*(k:Int)) ((X++[abcN]).getD M.toNat []) 2 h63 (by lia) (by lia) (by decide) (by decide) hn.1 (le_trans hn.2.1 (by decide)) hn.2.2) fun q q1 q2 q3=>?_
 have ix:=Xg (X++[abcN]) M.toNat hi
 rw[Int.toNat_of_nonneg dl.1] at ix
 have ha:∀c∈q,c<128:=fun c hc=>(f6 c (q2 c hc)).1
 have hx:∀x∈X,x.length≤1000:=fun x hx=>le_trans (hX x hx).2.1 (by decide)
 refine Y52 q (vv (.lst ((X++[abcN]).map tx))) (vv (tx q)) (vv (oR R[p]?)) (vv (.lst ((vI (SR X q)).map fun (k:Nat)=>D.int k))) ha (by lia) ?_
 unfold fw0
 rw[zQ (yR (op2 (zk rfl) (J0 (a:=.str "abc") rfl) (zb6 X (by lia))))]
 show zA _ _ (S14 (vv (.scr ns)) (vv (.lst (X.map tx))) (vv (.int (z:Int))) (pg X z R p) a4 (vv (.lst (R.map zv))) (vv (.int (p:Int))) (vv (.int (k:Int))) a8 a9 (vv (.lst ((X++[abcN]).map tx))) a11 a12 a13)=_
 have eq:quE (S14 (vv (.scr ns)) (vv (.lst (X.map tx))) (vv (.int (z:Int))) (pg X z R p) a4 (vv (.lst (R.map zv))) (vv (.int (p:Int))) (vv (.int (k:Int))) a8 a9 (vv (.lst ((X++[abcN]).map tx))) a11 a12 a13)=.ok (tx q):=by
  unfold quE
  have hlen:yA [.lst ((X++[abcN]).map tx)]=.ok (.int ((X.length:Int)+1)):=by rw[wd,length_map,length_append,length_singleton,Int.natCast_add];rfl
  refine zn0 (zk rfl) (op2 rfl (op2 rfl (zk rfl) (wH (.inl ⟨by lia,by lia⟩))) yI) (op2 (zk rfl) (wM (zk rfl) (op2 rfl (op2 rfl (zk rfl) (wH (.inl ⟨by lia,by lia⟩))) yI) (uk (zk rfl) hlen) dk) ix) rfl q3
 rw[zQ (yR eq)]
 rw[zQ (yR (Te R p hv.le (by lia) (zk rfl) (zk rfl)))]
 rw[zQ (yR (wM (zk rfl) (zk rfl) rfl (ug X q 99 (by lia) (by lia) hx ha (by lia))))]
 show zA _ _ (S14 (vv (.scr ns)) (vv (.lst (X.map tx))) (vv (.int (z:Int))) (pg X z R p) a4 (vv (.lst ((SR X q).map zv))) (vv (.int (p:Int))) (vv (.int (k:Int))) a8 a9 (vv (.lst ((X++[abcN]).map tx))) (vv (tx q)) (vv (oR R[p]?)) a13)=_
 have hS:=WK X q
 have nd:=zd4 X q
 have tl:=told0 X z R p q hv.or (by lia) hx ha (by lia)
 rw[Wu _ _ nd] at tl
 generalize SR X q=S at hS nd tl
 have cm:=uh (set:=gNm 0) (fe:=(eOp ixD (ze 0) (eC (.int 1)))) (τ:=[none]) zv (fun (k:Nat)=>D.int k) (fun r:Rw=>r.2) S fun r _=>Y11 [some (.val (zv r))] rfl (op2 (zk rfl) rfl (Z7 r))
 have ec:=vT (k:=1) (idx:=[]) (fi:=wN (ze 5)) (τ:=S14 (vv (.scr ns)) (vv (.lst (X.map tx))) (vv (.int (z:Int))) (pg X z R p) a4 (vv (.lst (S.map zv))) (vv (.int (p:Int))) (vv (.int (k:Int))) a8 a9 (vv (.lst ((X++[abcN]).map tx))) (vv (tx q)) (vv (oR R[p]?)) a13) (ds:=S.map zv) (by unfold wN;rw[zk rfl];rfl) cm (by rw[length_map,length_map];lia)
 rw[zQ (yR (d:=.lst ((vI S).map fun (k:Nat)=>D.int k)) (by
  show Rs.bind (wv 1 [] (wN (ze 5)) (gNm 0) (fun _=>.ok true) (eOp ixD (ze 0) (eC (.int 1))) (S14 (vv (.scr ns)) (vv (.lst (X.map tx))) (vv (.int (z:Int))) (pg X z R p) a4 (vv (.lst (S.map zv))) (vv (.int (p:Int))) (vv (.int (k:Int))) a8 a9 (vv (.lst ((X++[abcN]).map tx))) (vv (tx q)) (vv (oR R[p]?)) a13)) _=_
  rw[ec];rfl))]
 rw[zQ (yR (d:=.int ((0:Nat):Int)) rfl)]
 show zA _ _ (S14 (vv (.scr ns)) (vv (.lst (X.map tx))) (vv (.int (z:Int))) (pg X z R p) a4 (vv (.lst (S.map zv))) (vv (.int ((0:Nat):Int))) (vv (.int (k:Int))) a8 a9 (vv (.lst ((X++[abcN]).map tx))) (vv (tx q)) (vv (oR R[p]?)) (vv (.lst ((vI S).map fun (k:Nat)=>D.int k))))=_
 have hif:sIf (wZ (FD.tB (eOp we (ze 12) (eC .non))) (FD.tB (eOp inD (eOp ixD (ze 12) (eC (.int 1))) (ze 13)))) (zU 6 (eMt "list" Uk (ze 13) (za (eOp ixD (ze 12) (eC (.int 1))) zi))) zS (S14 (vv (.scr ns)) (vv (.lst (X.map tx))) (vv (.int (z:Int))) (pg X z R p) a4 (vv (.lst (S.map zv))) (vv (.int ((0:Nat):Int))) (vv (.int (k:Int))) a8 a9 (vv (.lst ((X++[abcN]).map tx))) (vv (tx q)) (vv (oR R[p]?)) (vv (.lst ((vI S).map fun (k:Nat)=>D.int k))))
   = .nx (S14 (vv (.scr ns)) (vv (.lst (X.map tx))) (vv (.int (z:Int))) (pg X z R p) a4 (vv (.lst (S.map zv))) (vv (.int (plc R[p]? S:Nat))) (vv (.int (k:Int))) a8 a9 (vv (.lst ((X++[abcN]).map tx))) (vv (tx q)) (vv (oR R[p]?)) (vv (.lst ((vI S).map fun (k:Nat)=>D.int k)))):=by
  generalize R[p]?=o
  rcases o with _|t
  ·exact ZZ (Qs (xV (op2 (zk rfl) rfl uf)))
  ·have g:=Qr (xV (op2 (τ:=S14 (vv (.scr ns)) (vv (.lst (X.map tx))) (vv (.int (z:Int))) (pg X z R p) a4 (vv (.lst (S.map zv))) (vv (.int ((0:Nat):Int))) (vv (.int (k:Int))) a8 a9 (vv (.lst ((X++[abcN]).map tx))) (vv (tx q)) (vv (oR (some t))) (vv (.lst ((vI S).map fun (k:Nat)=>D.int k)))) (fa:=ze 12) (fb:=eC .non) (zk rfl) rfl (Wx t)))
    (xV (op2 (fa:=(eOp ixD (ze 12) (eC (.int 1)))) (fb:=ze 13) (op2 (zk rfl) rfl (Z7 t)) (zk rfl) (zm2 (vI S) t.2)))
   unfold plc
   dsimp only
   by_cases h:t.2∈vI S
   ·rw[decide_eq_true h] at g
    rw[if_pos h,X6 g]
    refine yR ?_
    have:eMt "list" Uk (ze 13) (za (eOp ixD (ze 12) (eC (.int 1))) zi) (S14 (vv (.scr ns)) (vv (.lst (X.map tx))) (vv (.int (z:Int))) (pg X z R p) a4 (vv (.lst (S.map zv))) (vv (.int ((0:Nat):Int))) (vv (.int (k:Int))) a8 a9 (vv (.lst ((X++[abcN]).map tx))) (vv (tx q)) (vv (oR (some t))) (vv (.lst ((vI S).map fun (k:Nat)=>D.int k))))=.ok (.int ((vI S).idxOf t.2:Nat)):=by
     unfold eMt
     rw[zk rfl,Rs.bind_ok,uP (op2 (zk rfl) rfl (Z7 t)),Rs.bind_ok]
     rw[L4 (vI S) t.2 h (by unfold vI;rw[length_map];lia)];rfl
    exact this
   ·rw[decide_eq_false h] at g
    rw[if_neg h]
    exact ZZ g
 rw[zQ hif]
 have te:v8 (eC (.int 0)) (ze 11) (S14 (vv (.scr ns)) (vv (.lst (X.map tx))) (vv (.int (z:Int))) (pg X z R p) a4 (vv (.lst (S.map zv))) (vv (.int (plc R[p]? S:Nat))) (vv (.int (k:Int))) a8 a9 (vv (.lst ((X++[abcN]).map tx))) (vv (tx q)) (vv (oR R[p]?)) (vv (.lst ((vI S).map fun (k:Nat)=>D.int k))))
   = .ok (.non,S14 (vv (.scr ns)) (vv (.lst (X.map tx))) (vv (.int (z:Int))) (pg X z S (plc R[p]? S)) a4 (vv (.lst (S.map zv))) (vv (.int (plc R[p]? S:Nat))) (vv (.int (k:Int))) a8 a9 (vv (.lst ((X++[abcN]).map tx))) (vv (tx q)) (vv (oR R[p]?)) (vv (.lst ((vI S).map fun (k:Nat)=>D.int k)))):=by
  unfold v8
  exact Zw rfl zD (ac (a:=.int 0) rfl (uP (zk rfl))) tl
 exact Us (V7 (ZP te rfl uf))
theorem f1_ok(b:Int)(h:0<R.length):fw1 (S14 (vv (.scr ns)) (vv (.lst (X.map tx))) (vv (.int (z:Int))) (pg X z R p) a4 (vv (.lst (R.map zv))) (vv (.int (p:Int))) a7 a8 (vv (.int b)) a10 a11 a12 a13)
  = .nx (S14 (vv (.scr ns)) (vv (.lst (X.map tx))) (vv (.int (z:Int))) (pg X z R (mvd R p b)) a4 (vv (.lst (R.map zv))) (vv (.int (mvd R p b:Nat))) a7 a8 (vv (.int b)) a10 a11 a12 a13):=by
 unfold fw1
 have e:eOp uX (eOp zN (ze 6) (ze 9)) (ya yA (za (ze 5) zi)) (S14 (vv (.scr ns)) (vv (.lst (X.map tx))) (vv (.int (z:Int))) (pg X z R p) a4 (vv (.lst (R.map zv))) (vv (.int (p:Int))) a7 a8 (vv (.int b)) a10 a11 a12 a13)=.ok (.int (mvd R p b:Int)):=by
  rw[JV R p b h]
  exact op2 (op2 (zk rfl) (zk rfl) yI) (uk (zk rfl) (by rw[wd,length_map])) (jb (by lia))
 rw[zQ (yR e)]
 have te:v8 (eC (.int 1)) (ze 9) (S14 (vv (.scr ns)) (vv (.lst (X.map tx))) (vv (.int (z:Int))) (pg X z R p) a4 (vv (.lst (R.map zv))) (vv (.int (mvd R p b:Nat))) a7 a8 (vv (.int b)) a10 a11 a12 a13)=.ok (ptd R (mvd R p b),S14 (vv (.scr ns)) (vv (.lst (X.map tx))) (vv (.int (z:Int))) (pg X z R (mvd R p b)) a4 (vv (.lst (R.map zv))) (vv (.int (mvd R p b:Nat))) a7 a8 (vv (.int b)) a10 a11 a12 a13):=by
  unfold v8
  exact Zw rfl zD (ac (a:=.int 1) rfl (uP (zk rfl))) (zc9 X z R p b h)
 have hlt:=U1 R p b h
 rw[GX hlt] at te
 exact Us (V7 (ZP te (op2 (zk rfl) (zk rfl) (jq R (mvd R p b) hlt)) (Yb _)))
theorem zd0(b:Int)(hz:0<z)(hz2:z<1000)(a5:Option Sl):toE (S14 (vv (.scr ns)) (vv (.lst (X.map tx))) (vv (.int (z:Int))) (pg X z R p) a4 a5 (vv (.int (p:Int))) a7 a8 (vv (.int b)) a10 a11 a12 a13)=.ok (.int (tno p z b*(z:Int))):=by
 unfold toE tno
 rw[natCast_ediv]
 exact op2 (op2 (op2 (zk rfl) (zk rfl) (wW ⟨by lia,by lia⟩)) (zk rfl) yI) (zk rfl) (wH (.inr ⟨by lia,by lia⟩))
theorem f2_ok(b:Int)(n:Nat)(hz:0<z)(hz2:z<1000)(hl:R.length≤1000)(hn:tno p z b=(n:Int))(ht:n<pgs R z):fw2 (S14 (vv (.scr ns)) (vv (.lst (X.map tx))) (vv (.int (z:Int))) (pg X z R p) a4 (vv (.lst (R.map zv))) (vv (.int (p:Int))) a7 a8 (vv (.int b)) a10 a11 a12 a13)
  = .nx (S14 (vv (.scr ns)) (vv (.lst (X.map tx))) (vv (.int (z:Int))) (pg X z R (n*z)) a4 (vv (.lst (R.map zv))) (vv (.int ((n*z:Nat):Int))) a7 a8 (vv (.int b)) a10 a11 a12 a13):=by
 unfold fw2
 have e:=zd0 ns X z R p a4 a7 a8 a10 a11 a12 a13 b hz hz2 (vv (.lst (R.map zv)))
 rw[hn,← natCast_mul] at e
 rw[zQ (yR e)]
 have te:v8 (eC (.int 2)) (ze 9) (S14 (vv (.scr ns)) (vv (.lst (X.map tx))) (vv (.int (z:Int))) (pg X z R p) a4 (vv (.lst (R.map zv))) (vv (.int ((n*z:Nat):Int))) a7 a8 (vv (.int b)) a10 a11 a12 a13)=.ok (.lst ((pgO R z (n*z)).map zv),S14 (vv (.scr ns)) (vv (.lst (X.map tx))) (vv (.int (z:Int))) (pg X z R (n*z)) a4 (vv (.lst (R.map zv))) (vv (.int ((n*z:Nat):Int))) a7 a8 (vv (.int b)) a10 a11 a12 a13):=by
  unfold v8
  exact Zw rfl zD (ac (a:=.int 2) rfl (uP (zk rfl))) (Wd X z R p b n hz hz2 hl hn ht)
 exact Us (V7 (ZP te (wM (zk rfl) (zk rfl) (zk rfl) (Xj R z (n*z) hz hz2 hl)) (Vc _)))
theorem ze8(w b:Int)(ht:zK (PG X z R p) [.int w,.int b]=.ok (.bl true,PG X z R p)):fw3 (S14 (vv (.scr ns)) (vv (.lst (X.map tx))) (vv (.int (z:Int))) (pg X z R p) a4 (vv (.lst (R.map zv))) (vv (.int (p:Int))) a7 (vv (.int w)) (vv (.int b)) a10 a11 a12 a13)
  = .nx (S14 (vv (.scr ns)) (vv (.lst (X.map tx))) (vv (.int (z:Int))) (pg X z R p) a4 (vv (.lst (R.map zv))) (vv (.int (p:Int))) a7 (vv (.int w)) (vv (.int b)) a10 a11 a12 a13):=by
 unfold fw3
 have te:v8 (ze 8) (ze 9) (S14 (vv (.scr ns)) (vv (.lst (X.map tx))) (vv (.int (z:Int))) (pg X z R p) a4 (vv (.lst (R.map zv))) (vv (.int (p:Int))) a7 (vv (.int w)) (vv (.int b)) a10 a11 a12 a13)=.ok (.bl true,S14 (vv (.scr ns)) (vv (.lst (X.map tx))) (vv (.int (z:Int))) (pg X z R p) a4 (vv (.lst (R.map zv))) (vv (.int (p:Int))) a7 (vv (.int w)) (vv (.int b)) a10 a11 a12 a13):=by
  unfold v8
  exact Zw rfl zD (ac (zk rfl) (uP (zk rfl))) ht
 exact Us (V7 (ZP te (b:=.bl true) rfl rfl))
end
theorem JO(R:List Rw){z:Nat}(hz:0<z)(n:Nat):n*z<R.length↔n<pgs R z:=by
 unfold pgs
 constructor
 ·intro h
  exact(Nat.le_div_iff_mul_le hz).mpr (by rw[Nat.succ_mul];lia)
 ·intro h
  have:=(Nat.le_div_iff_mul_le hz).mp (Nat.succ_le_of_lt h)
  rw[Nat.succ_mul] at this;lia
theorem zb2{fa fb fc:FE}{τ:DS}{i j k:Int}(h1:fa τ=.ok (.int i))(h2:fb τ=.ok (.int j))(h3:fc τ=.ok (.int k)):j2 leD ltI fa fb fc τ=.ok (.bl (decide (i≤j)&&decide (j<k))):=by
 unfold j2
 rw[h1,Rs.bind_ok,h2,Rs.bind_ok,leD_i,Rs.bind_ok]
 by_cases h:i≤j
 ·rw[decide_eq_true h]
  simp only[Rs.bind_ok,if_true,h3,ze1,Bool.true_and]
 ·rw[decide_eq_false h]
  simp only[Bool.false_and];rfl
section
variable(ns:List Int)(X:List (List Nat))(z:Nat)(a4:Option Sl)
noncomputable abbrev T14(R:List Rw)(p:Nat)(a7 a8 a9 a10 a11 a12 a13:Option Sl):DS:=S14 (vv (.scr ns)) (vv (.lst (X.map tx))) (vv (.int (z:Int))) (pg X z R p) a4 (vv (.lst (R.map zv))) (vv (.int (p:Int))) a7 a8 a9 a10 a11 a12 a13
theorem TL(R:List Rw)(p k:Nat)(a8 a9 a10 a11 a12 a13:Option Sl)(hk:k≤100)(h63:ns.length≤63)(hX:∀x∈X,UE x)(hXl:X.length≤5)(hz:0<z)(hz2:z<1000)(hl:R.length≤5)(hv:V R p) :
  ∃R' p' b8 b9 b10 b11 b12 b13,R'.length≤5∧V R' p'∧Wc (T14 ns X z a4 R p (vv (.int (k:Int))) a8 a9 a10 a11 a12 a13)=.nx (T14 ns X z a4 R' p' (vv (.int (k:Int))) b8 b9 b10 b11 b12 b13):=by
 have wl:=wX ns (80+30*(k:Int)) (m:=3) (by decide)
 have wk:=wD ns (80+30*(k:Int)) 3 h63 (by lia) (by lia) (by decide)
 have bk:=wD ns (81+30*(k:Int)) 9 h63 (by lia) (by lia) (by decide)
 generalize xX ns (80+30*(k:Int)) 3=w at wl wk
 generalize xX ns (81+30*(k:Int)) 9=M at bk
 have s1:=zQ (g:=(zA (zU 8 Go)
   (zA (zU 9 byE)
   (sIf (FD.tB (eOp eqD (ze 8) (eC (.int 0)))) fw0 (sIf wt1 fw1 (sIf wt2 fw2 fw3)))))) (ZZ (a:=yx (eC (.bl false))) (ze0 (zc8 (zd3 ns X z R p a4 (vv (.int (k:Int))) a8 a9 a10 a11 a12 a13 hz hz2 (by lia) hv))))
 have ew:Go (T14 ns X z a4 R p (vv (.int (k:Int))) a8 a9 a10 a11 a12 a13)=.ok (.int w):=by
  unfold Go
  exact wM (zk rfl) (op2 rfl (op2 rfl (zk rfl) (wH (.inl ⟨by lia,by lia⟩))) yI) rfl wk
 have eb:byE (T14 ns X z a4 R p (vv (.int (k:Int))) (vv (.int w)) a9 a10 a11 a12 a13)=.ok (.int (M-4)):=by
  unfold byE
  exact op2 (wM (zk rfl) (op2 rfl (op2 rfl (zk rfl) (wH (.inl ⟨by lia,by lia⟩))) yI) rfl bk) rfl vw
 generalize M-4=b at eb
 have s2:Wc (T14 ns X z a4 R p (vv (.int (k:Int))) a8 a9 a10 a11 a12 a13)=sIf (FD.tB (eOp eqD (ze 8) (eC (.int 0)))) fw0 (sIf wt1 fw1 (sIf wt2 fw2 fw3)) (T14 ns X z a4 R p (vv (.int (k:Int))) (vv (.int w)) (vv (.int b)) a10 a11 a12 a13):=by
  unfold Wc
  refine s1.trans ?_
  rw[zQ (yR ew)]
  exact zQ (yR eb)
 rw[s2]
 have g0:FD.tB (eOp eqD (ze 8) (eC (.int 0))) (T14 ns X z a4 R p (vv (.int (k:Int))) (vv (.int w)) (vv (.int b)) a10 a11 a12 a13)=.ok (w==0):=xV (op2 (zk rfl) rfl va)
 have g1:FD.tB (eOp eqD (ze 8) (eC (.int 1))) (T14 ns X z a4 R p (vv (.int (k:Int))) (vv (.int w)) (vv (.int b)) a10 a11 a12 a13)=.ok (w==1):=xV (op2 (zk rfl) rfl va)
 have g2:FD.tB (eOp eqD (ze 8) (eC (.int 2))) (T14 ns X z a4 R p (vv (.int (k:Int))) (vv (.int w)) (vv (.int b)) a10 a11 a12 a13)=.ok (w==2):=xV (op2 (zk rfl) rfl va)
 have gn:FD.tB (eOp neD (ze 5) (xP zi)) (T14 ns X z a4 R p (vv (.int (k:Int))) (vv (.int w)) (vv (.int b)) a10 a11 a12 a13)=.ok (!R.isEmpty):=by
  refine xV (op2 (zk rfl) (LP zD (by simp)) ?_)
  have h:neD (.lst (R.map zv)) (.lst [])=if okD (.lst (R.map zv))=true∧okD (.lst [])=true then .ok (.bl (!wO (.lst (R.map zv)) (.lst []))) else .no:=rfl
  rw[h,if_pos ⟨W3 R,W3 []⟩]
  rcases R with _|⟨a,b⟩
  ·rfl
  ·simp[wO,yG,toPys,PyData.eqv,Xz]
 have gc:FD.tB (j2 leD ltI (eC (.int 0)) toE (ya yA (za (ze 5) zi))) (T14 ns X z a4 R p (vv (.int (k:Int))) (vv (.int w)) (vv (.int b)) a10 a11 a12 a13)=.ok (decide (0≤tno p z b*(z:Int))&&decide (tno p z b*(z:Int)<(R.length:Int))):=
  xV (zb2 rfl (zd0 ns X z R p a4 (vv (.int (k:Int))) (vv (.int w)) a10 a11 a12 a13 b hz hz2 _) (uk (zk rfl) (by rw[wd,length_map])))
 obtain rfl|rfl|rfl:w=0∨w=1∨w=2:=by lia
 ·refine X52 (f0_ok ns X z R p a4 (vv (.int 0)) (vv (.int b)) a10 a11 a12 a13 k hk h63 hX hXl hl hv) fun q b10 b11 b12 b13 h1 h2 h3=>?_
  have hS:=WK X q
  refine Y82 (SR X q) (plc R[p]? (SR X q)) _ _ b10 b11 b12 b13 (by lia) ?_ ((X6 g0).trans h3)
  by_cases h:SR X q=[]
  ·left;exact⟨h,by rw[h,Li]⟩
  ·exact .inr (zg9 _ _ h)
 ·rw[Jb (show FD.tB (eOp eqD (ze 8) (eC (.int 0))) (T14 ns X z a4 R p (vv (.int (k:Int))) (vv (.int 1)) (vv (.int b)) a10 a11 a12 a13)=.ok false from g0)]
  have ht:wt1 (T14 ns X z a4 R p (vv (.int (k:Int))) (vv (.int 1)) (vv (.int b)) a10 a11 a12 a13)=.ok (!R.isEmpty):=Qr g1 gn
  rcases hv with ⟨rfl,rfl⟩|hp
  ·have ht2:wt2 (T14 ns X z a4 [] 0 (vv (.int (k:Int))) (vv (.int 1)) (vv (.int b)) a10 a11 a12 a13)=.ok false:=Qs g2
   rw[Jb ht,Jb ht2]
   exact Y82 [] 0 _ _ _ _ _ _ (by simp) (.inl ⟨rfl,rfl⟩) (ze8 ns X z [] 0 a4 (vv (.int (k:Int))) a10 a11 a12 a13 1 b (zf5 X z 0 b))
  ·have hne:(!R.isEmpty)=true:=by cases R with|nil=>simp at hp|cons _ _=>rfl
   rw[hne] at ht
   rw[X6 ht]
   exact Y82 R (mvd R p b) _ _ _ _ _ _ hl (.inr (U1 R p b (by lia))) (f1_ok ns X z R p a4 (vv (.int (k:Int))) (vv (.int 1)) a10 a11 a12 a13 b (by lia))
 ·rw[Jb (show FD.tB (eOp eqD (ze 8) (eC (.int 0))) (T14 ns X z a4 R p (vv (.int (k:Int))) (vv (.int 2)) (vv (.int b)) a10 a11 a12 a13)=.ok false from g0)]
  have ht1:wt1 (T14 ns X z a4 R p (vv (.int (k:Int))) (vv (.int 2)) (vv (.int b)) a10 a11 a12 a13)=.ok false:=Qs g1
  rw[Jb ht1]
  have ht:wt2 (T14 ns X z a4 R p (vv (.int (k:Int))) (vv (.int 2)) (vv (.int b)) a10 a11 a12 a13)=.ok (decide (0≤tno p z b*(z:Int))&&decide (tno p z b*(z:Int)<(R.length:Int))):=Qr g2 gc
  have hzi:(0:Int)<(z:Int):=by lia
  by_cases hc:0≤tno p z b∧tno p z b*(z:Int)<(R.length:Int)
  ·obtain⟨n,hn⟩:∃n:Nat,tno p z b=(n:Int):=⟨(tno p z b).toNat,by lia⟩
   have h0:0≤tno p z b*(z:Int):=Int.mul_nonneg hc.1 (by lia)
   rw[decide_eq_true h0,decide_eq_true hc.2] at ht
   rw[X6 ht]
   have hlt:n*z<R.length:=by
    have:=hc.2
    rw[hn,← natCast_mul] at this
    lia
   exact Y82 R (n*z) _ _ _ _ _ _ hl (.inr hlt) (f2_ok ns X z R p a4 (vv (.int (k:Int))) (vv (.int 2)) a10 a11 a12 a13 b n hz hz2 (by lia) hn ((JO R hz n).mp hlt))
  ·have hf:(decide (0≤tno p z b*(z:Int))&&decide (tno p z b*(z:Int)<(R.length:Int)))=false:=by
    rw[Bool.and_eq_false_iff,decide_eq_false_iff_not,decide_eq_false_iff_not]
    by_cases h:0≤tno p z b
    ·right;exact fun y=>hc ⟨h,y⟩
    ·left
     intro y
     have:=Int.mul_neg_of_neg_of_pos (Int.not_le.mp h) hzi
     lia
   rw[hf] at ht
   rw[Jb ht]
   refine Y82 R p _ _ _ _ _ _ hl hv (ze8 ns X z R p a4 (vv (.int (k:Int))) a10 a11 a12 a13 2 b (UJ X z R p b hz hz2 ?_))
   by_cases h:0≤tno p z b
   ·right
    obtain⟨n,hn⟩:∃n:Nat,tno p z b=(n:Int):=⟨(tno p z b).toNat,by lia⟩
    rw[hn]
    have:¬ n<pgs R z:=fun y=>hc ⟨h,by
     have:=(JO R hz n).mpr y
     rw[hn,← natCast_mul];lia⟩
    lia
   ·left;lia
theorem J5(h63:ns.length≤63)(hX:∀x∈X,UE x)(hXl:X.length≤5)(hz:0<z)(hz2:z<1000):∀(l:List Nat) (R:List Rw) (p:Nat) (a7 a8 a9 a10 a11 a12 a13:Option Sl),(∀k∈l,k≤100)→R.length≤5→V R p →
  ∃R' p' b7 b8 b9 b10 b11 b12 b13,R'.length≤5∧V R' p'∧xB (gNm 7) Wc (l.map fun (k:Nat)=>D.int k) (T14 ns X z a4 R p a7 a8 a9 a10 a11 a12 a13)=.nx (T14 ns X z a4 R' p' b7 b8 b9 b10 b11 b12 b13):=by
 intro l_
 induction l_ with
 |nil=>
  rintro R p a7 a8 a9 a10 a11 a12 a13 _ hl hv
  exact Y92 R p a7 a8 a9 a10 a11 a12 a13 hl hv rfl
 |cons k l ih_=>
  rintro R p a7 a8 a9 a10 a11 a12 a13 hk hl hv
  obtain⟨R1,p1,b8,b9,b10,b11,b12,b13,h1,h2,h3⟩:=TL ns X z a4 R p k a8 a9 a10 a11 a12 a13 (hk k mem_cons_self) h63 hX hXl hz hz2 hl hv
  refine X92 (ih_ R1 p1 (vv (.int (k:Int))) b8 b9 b10 b11 b12 b13 (fun j hj=>hk j (mem_cons_of_mem _ hj)) h1 h2) fun R2 p2 c7 c8 c9 c10 c11 c12 c13 h4 h5 h6=>?_
  refine Y92 R2 p2 c7 c8 c9 c10 c11 c12 c13 h4 h5 ?_
  have hset:gNm 7 (.int (k:Int)) (T14 ns X z a4 R p a7 a8 a9 a10 a11 a12 a13)=.ok (T14 ns X z a4 R p (vv (.int (k:Int))) a8 a9 a10 a11 a12 a13):=rfl
  rw[map_cons,xB,hset,Fl.of_ok,h3]
  exact h6
end
theorem main:∀ns:List Int,ns.length≤63→JY [.scr ns]=.ok (.bl true):=fun ns h63=>by
 refine X12 (Mz ns 0 5 h63 (by decide) (by decide) (by decide) (by decide)) fun X hN hXl hX=>?_
 have dl:=wX ns 78 (m:=3) (by decide)
 have dk:=wD ns 78 3 h63 (by decide) (by decide) (by decide)
 obtain⟨z,hz⟩:∃z:Nat,1+xX ns 78 3=(z:Int):=⟨(1+xX ns 78 3).toNat,by lia⟩
 have z1:0<z:=by lia
 have z2:z<1000:=by lia
 have hx:∀x∈X,x.length≤1000:=fun x hx=>le_trans (hX x hx).2.1 (by decide)
 have st:yg 14 [.scr ns]=S14 (vv (.scr ns)) none none none none none none none none none none none none none:=rfl
 have hS:=WK X []
 have hv:V (SR X []) 0:=by
  rcases h:SR X [] with _|⟨a,b⟩
  ·exact .inl ⟨rfl,rfl⟩
  ·right;simp
 have hf:∀τ:DS,τ[1]?=some (vv (.lst (X.map tx)))→zB yF (za (ze 1) (za (eC (.str "")) (za (eC (.int 99)) zi))) τ=.ok (.lst ((SR X []).map zv)):=fun τ h=>wM (zk h) (show eC (.str "") τ=.ok (tx []) from rfl) rfl (ug X [] 99 (by lia) (by simp) hx (by simp) (by lia))
 unfold JY
 rw[law_b,yv,st]
 rw[zQ (yR (wM (zk rfl) rfl rfl hN))]
 rw[zQ (yR (d:=.int (z:Int)) (by rw[← hz];exact op2 rfl (wM (zk rfl) rfl rfl dk) yI))]
 rw[zQ (Ve (ds:=[.lst (X.map tx),.int (z:Int)]) (ac (zk rfl) (uP (zk rfl))) (Vh X z z1 hx (by lia)))]
 rw[zQ (Ve (ds:=[.lst (X.map tx),.int (z:Int)]) (ac (zk rfl) (uP (zk rfl))) (Vh X z z1 hx (by lia)))]
 rw[zQ (yR (hf _ rfl))]
 rw[zQ (yR (d:=.int ((0:Nat):Int)) rfl)]
 show Zr (zA _ _ (T14 ns X z (pg X z (SR X []) 0) (SR X []) 0 none none none none none none none))=_
 obtain⟨m,hm,hm2⟩:∃m:Nat,vJ (za (ya ud (za (eC (.int 1)) (za (ya uT (za (eC (.int 6)) (za (ya yA (za (ze 0) zi)) zi))) zi))) zi) (T14 ns X z (pg X z (SR X []) 0) (SR X []) 0 none none none none none none none)=.ok ((List.range m).map fun (k:Nat)=>D.int k)∧m≤6:=by
  have e1:ya yA (za (ze 0) zi) (T14 ns X z (pg X z (SR X []) 0) (SR X []) 0 none none none none none none none)=.ok (.int (ns.length:Int)):=uk (zk rfl) rfl
  refine Y11 (max 1 (min 6 ns.length)) ?_ (by lia)
  rw[← JC]
  refine YR ?_ (by lia)
  refine(zb9 (a:=.int 1) rfl (zb9 (a:=.int 6) rfl e1 (U2 6 (ns.length:Int))) (U3 1 _)).trans ?_
  congr 2
  split <;> split <;> lia
 refine X92 (J5 ns X z (pg X z (SR X []) 0) h63 hX (by lia) z1 z2 (List.range m) (SR X []) 0 none none none none none none none (fun k hk=>by have:=mem_range.mp hk;lia) (by lia) hv) fun R' p' b7 b8 b9 b10 b11 b12 b13 h4 h5 h6=>?_
 rw[zQ (by rw[vK,hm,Fl.of_ok];exact h6)]
 rw[zQ (ZZ (ze0 (zc8 (show zB xq zi _=.ok (.bl true) by rw[yW,zD,Rs.bind_ok,Gs];rfl))))]
 have s2:Zv 4 "Pager" yC zi (za (zB yF (za (ze 1) (za (eC (.str "")) (za (eC (.int 99)) zi)))) (za (eC (.int 0)) (za (ze 2) zi))) (T14 ns X z (pg X z (SR X []) 0) R' p' b7 b8 b9 b10 b11 b12 b13)=.ok (.bl true):=
  Qn (o:=PG X z (SR X []) 0) (jX (n:=0) rfl) zD (ac (hf _ rfl) (ac (a:=.int ((0:Nat):Int)) rfl (uP (zk rfl)))) (Wi X z (SR X []) 0 z1 z2 (by lia) hv)
 rw[ZJ (d:=.bl true) (by
  rw[Vm,zd3 ns X z R' p' (pg X z (SR X []) 0) b7 b8 b9 b10 b11 b12 b13 z1 z2 (by lia) h5,Rs.bind_ok,ul,Rs.bind_ok,if_pos rfl,s2])]
 rfl
set_option maxHeartbeats 4000000
noncomputable def top(i:Nat):Stmt:=PySem.Challenge.pw_fewfind_k86_pagers.main.body.getD i (.Pass ⟨0,0,0,0⟩)
section
variable{P:Program}{w:World}{K:Frag}{mg:Str→Option Value}{base:Heap}
noncomputable abbrev x9:Stmt:=top 38
theorem WO:zF ["_law_script", "_law_k"] ["_law_script", "_law_k"] (zh x9):=⟨rfl,rfl,rfl,by decide +kernel,rfl,by decide +kernel,by decide +kernel⟩
theorem W8{f:Addr}{fd:FuncData}(A_:yc K mg "_law_cell" x9 f fd)(ae:mg "len" = none):DefOk P w K mg base "_law_cell" 1 2 ["_law_script", "_law_k"] wL:=by
 refine DefOk.mk (k:=0) A_ WO rfl (fun _ _ _ _ _ _ us hl=>by obtain⟨_,_,rfl⟩:=lnz2 hl;rfl) (fun cdv A outer s H E hr=>?_) fun _ _ _ h=>h
 exact(zn (yL (zY (xl hr.units) (zc (pv 0)) (wt zm) (z7 _)) (zo (zR (zu xj zj (zc (pv 1))))) z0) (zo (zR (zu zH (zT yh (zc (pv 0)) (zu vo (zc (pv 1)) (zP xA rfl ae PySem.boot_len (zb (zc (pv 0)) zm)))) (zu xj zj (zu xQ (zc (pv 1)) (zP xA rfl ae PySem.boot_len (zb (zc (pv 0)) zm))))))))
noncomputable abbrev xM:Stmt:=top 39
theorem sc__law_drawn:zF ["_law_script", "_law_k", "_law_many", "_law_cell_here"] ["_law_script", "_law_k", "_law_many"] (zh xM):=⟨rfl,rfl,rfl,by decide +kernel,rfl,by decide +kernel,by decide +kernel⟩
theorem XZ{f:Addr}{fd:FuncData}(A_:yc K mg "_law_drawn" xM f fd)(aI:DefOk P w K mg base "_law_cell" 1 2 ["_law_script", "_law_k"] wL):DefOk P w K mg base "_law_drawn" 2 3 ["_law_script", "_law_k", "_law_many"] zx:=by
 refine DefOk.mk (k:=1) A_ sc__law_drawn rfl (fun _ _ _ _ _ _ us hl=>by obtain⟨_,_,_,rfl⟩:=lnz3 hl;rfl) (fun cdv A outer s H E hr=>?_) fun _ _ _ h=>h
 exact(zn (zL (i:=3) sc__law_drawn.nd rfl (Or.inl rfl) (zu vo (zu zH (zu xj (zu vo (zJ aI (hr.mono (by decide)) (zb (zc (pv 0)) (zb (zc (pv 1)) zm)) (zg (zg zq))) zj) zj) (zu xj zj (zu zH (zc (pv 1)) zj))) zj)) (zn (zL (i:=3) sc__law_drawn.nd rfl (Or.inl rfl) (zu vo (zu zH (zu xj (zc (pv 3)) (zc (pv 3))) (zu xQ (zc (pv 3)) zj)) zj)) (zo (zR (zu vo (zu xQ (zu vo (zu zH (zu xj (zc (pv 3)) (zc (pv 3))) (zu xQ (zc (pv 3)) zj)) zj) zj) (zc (pv 2)))))))
noncomputable abbrev x6:Stmt:=top 40
theorem sc__law_name:zF ["_law_script", "_law_at", "_law_found", "_law_k"] ["_law_script", "_law_at"] (zh x6):=⟨rfl,rfl,rfl,by decide +kernel,rfl,by decide +kernel,by decide +kernel⟩
theorem W6{f:Addr}{fd:FuncData}(A_:yc K mg "_law_name" x6 f fd)(ai:DefOk P w K mg base "_law_drawn" 2 3 ["_law_script", "_law_k", "_law_many"] zx)(af:mg "range" = none):DefOk P w K mg base "_law_name" 3 2 ["_law_script", "_law_at"] xE:=by
 refine DefOk.mk (k:=2) A_ sc__law_name rfl (fun _ _ _ _ _ _ us hl=>by obtain⟨_,_,rfl⟩:=lnz2 hl;rfl) (fun cdv A outer s H E hr=>?_) fun _ _ _ h=>h
 exact(zn (zL (i:=2) sc__law_name.nd rfl (Or.inl rfl) yY) (zn (vM PassesOwn.never rfl (ve rfl af (zb (zu zH zj (zJ ai (hr.mono (by decide)) (zb (zc (pv 0)) (zb (zc (pv 1)) (zb zj zm))) (zg (zg (zg zq))))) zm)) (yV sc__law_name.nd rfl (Or.inl rfl)) (zo (zL (i:=2) sc__law_name.nd rfl (Or.inl rfl) (zu zH (zc (pv 2)) (zT yh yY (zJ ai (hr.mono (by decide)) (zb (zc (pv 0)) (zb (zu zH (zu zH (zc (pv 1)) zj) (zc (pv 3))) (zb zj zm))) (zg (zg (zg zq))))))))) (zo (zR (zc (pv 2))))))
noncomputable abbrev xL:Stmt:=top 42
theorem sc__law_names:zF ["_law_script", "_law_at", "_law_most", "_law_found"] ["_law_script", "_law_at", "_law_most"] (zh xL):=⟨rfl,rfl,rfl,by decide +kernel,rfl,by decide +kernel,by decide +kernel⟩
theorem XY{f:Addr}{fd:FuncData}(A_:yc K mg "_law_names" xL f fd)(ai:DefOk P w K mg base "_law_drawn" 2 3 ["_law_script", "_law_k", "_law_many"] zx)(aJ:DefOk P w K mg base "_law_name" 3 2 ["_law_script", "_law_at"] xE)(ae:mg "len" = none)(af:mg "range" = none):DefOk P w K mg base "_law_names" 4 3 ["_law_script", "_law_at", "_law_most"] xO:=by
 refine DefOk.mk (k:=3) A_ sc__law_names rfl (fun _ _ _ _ _ _ us hl=>by obtain⟨_,_,_,rfl⟩:=lnz3 hl;rfl) (fun cdv A outer s H E hr=>?_) fun _ _ _ h=>h
 exact(zn (QM (i:=3) sc__law_names.nd rfl rfl rfl (tn:=["_law_k"]) (fr:=["_law_script", "_law_at"]) (idx:=[0,1]) rfl rfl ⟨rfl,rfl,⟨rfl,rfl,trivial⟩⟩ (ua 0) (ve rfl af (zb (zJ ai (hr.mono (by decide)) (zb (zc (pv 0)) (zb (zc (pv 1)) (zb (zu zH (zc (pv 2)) zj) zm))) (zg (zg (zg zq)))) zm)) (fun s H C fp=>(yV (show List.Nodup (["_law_k", "_law_script", "_law_at"]:List Str) by decide +kernel) rfl (Or.inl rfl))) (fun s H C fp=>vA) (fun s H C fp=>(zJ aJ (hr.mono (by decide)) (zb (zc (pv 1)) (zb (zu zH (zu zH (zc (pv 2)) zj) (zu xj zj (zc (pv 0)))) zm)) (zg (zg zq))))) (zn (yL (jJ (ju (zY W1 (Mf (pv 3) rfl ae) zj (z7 _)) (ub (zY (xl hr.units) (zJ ai (hr.mono (by decide)) (zb (zc (pv 0)) (zb (zu zH (zc (pv 1)) zj) (zb zj zm))) (zg (zg (zg zq)))) zj (z7 _))))) (zo (Lq (pv 3) zj (Lv (pv 3) (wS zj)))) z0) (zo (YY (pv 3)))))
noncomputable abbrev vd:Stmt:=top 31
theorem VG:zF ["names", "rows"] ["names", "rows"] (zh vd):=⟨rfl,rfl,rfl,by decide +kernel,rfl,by decide +kernel,by decide +kernel⟩
theorem V3{f c:Addr}(A_:Jo K mg "in_order" vd f c 136)(bm:BM mg base)(ae:mg "len" = none)(aK:mg "sorted" = none):DefOk P w K mg base "in_order" 4 2 ["names", "rows"] wb:=by
 refine DefOk.mkL (k:=3) A_ VG rfl (fun _ _ _ _ _ _ us hl=>by obtain⟨_,_,rfl⟩:=lnz2 hl;rfl) (fun A outer s H E hr=>?_)
 exact(zo (zR (QP (P:=136) (p := "row") (fr:=["names"]) (idx:=[0]) rfl aK PyProof.Rows.boot_sorted (zc (pv 1)) (hr.mono (by decide)) (TabsU.of (by decide)) bm rfl A_.tab (.head _) rfl ⟨rfl,rfl,trivial⟩ rfl rfl rfl (fun _ _ _ _ _=>rfl) (fun s H f cd=>(wq (zb (wS (zT yh (zc (pv 0)) zj)) (zb (zP xA rfl ae PySem.boot_len (zb (zT yh (zc (pv 1)) (zT yh (zc (pv 0)) zj)) zm)) (zb (zT yh (zc (pv 0)) zj) zm))))))))
noncomputable abbrev xI:Stmt:=top 32
theorem XQ:zF ["names", "rows", "many"] ["names", "rows", "many"] (zh xI):=⟨rfl,rfl,rfl,by decide +kernel,rfl,by decide +kernel,by decide +kernel⟩
theorem XU{f:Addr}{fd:FuncData}(A_:yc K mg "first_rows" xI f fd)(aL:DefOk P w K mg base "in_order" 4 2 ["names", "rows"] wb)(ar:mg "max" = none):DefOk P w K mg base "first_rows" 5 3 ["names", "rows", "many"] xn:=by
 refine DefOk.mk (k:=4) A_ XQ rfl (fun _ _ _ _ _ _ us hl=>by obtain⟨_,_,_,rfl⟩:=lnz3 hl;rfl) (fun cdv A outer s H E hr=>?_) fun _ _ _ h=>h
 exact(zo (zR (UW (zJ aL (hr.mono (by decide)) (zb (zc (pv 0)) (zb (zc (pv 1)) zm)) (zg (zg zq))) Md (u7 (zP (Vn rfl) rfl ar boot_max (zb (zc (pv 2)) (zb zj zm)))))))
noncomputable abbrev yw:Stmt:=top 20
theorem sc_beginning_points:zF ["name", "place", "ahead"] ["name", "place"] (zh yw):=⟨rfl,rfl,rfl,by decide +kernel,rfl,by decide +kernel,by decide +kernel⟩
theorem jG{f:Addr}{fd:FuncData}(A_:yc K mg "beginning_points" yw f fd){t_FIGURES:Tok}(aM:mg "FIGURES" = some (.str "0123456789" t_FIGURES)){t_SMALL:Tok}(ay:mg "SMALL" = some (.str "abcdefghijklmnopqrstuvwxyz" t_SMALL)){t_GREAT:Tok}(aN:mg "GREAT" = some (.str "ABCDEFGHIJKLMNOPQRSTUVWXYZ" t_GREAT)){t_AT_GREAT:Tok}(aO:mg "AT_GREAT" = some (.int 5 t_AT_GREAT)){t_MARKS:Tok}(aP:mg "MARKS" = some (.str "_-./" t_MARKS)){t_BEHIND_MARK:Tok}(aQ:mg "BEHIND_MARK" = some (.int 6 t_BEHIND_MARK)){t_AT_BEGINNING:Tok}(aR:mg "AT_BEGINNING" = some (.int 8 t_AT_BEGINNING)):DefOk P w K mg base "beginning_points" 1 2 ["name", "place"] yH:=by
 refine DefOk.mk (k:=0) A_ sc_beginning_points rfl (fun _ _ _ _ _ _ us hl=>by obtain⟨_,_,rfl⟩:=lnz2 hl;rfl) (fun cdv A outer s H E hr=>?_) fun _ _ _ h=>h
 exact(zn (yL (zY (xl hr.units) (zc (pv 1)) zj (z7 _)) (zo (zR (vN rfl aR))) z0) (zn (zL (i:=2) sc_beginning_points.nd rfl (Or.inl rfl) (zT yh (zc (pv 0)) (zu uB (zc (pv 1)) zj))) (zn (yL (zY (jV (uv hr)) (zc (pv 2)) (Zi rfl aP) (by with_unfolding_all rfl)) (zo (zR (vN rfl aQ))) z0) (zn (yL (jJ (ju (zY (jV (uv hr)) (zT yh (zc (pv 0)) (zc (pv 1))) (Zi rfl aN) (by with_unfolding_all rfl)) (ub (jJ (YV (zY (jV (uv hr)) (zc (pv 2)) (Zi rfl ay) (by with_unfolding_all rfl)) (Yv (zY (jV (uv hr)) (zc (pv 2)) (Zi rfl aM) (by with_unfolding_all rfl)))))))) (zo (zR (vN rfl aO))) z0) (zo (zR zj))))))
noncomputable abbrev xH:Stmt:=top 21
theorem sc_own_points:zF ["sign", "name", "place", "same"] ["sign", "name", "place"] (zh xH):=⟨rfl,rfl,rfl,by decide +kernel,rfl,by decide +kernel,by decide +kernel⟩
theorem XT{f:Addr}{fd:FuncData}(A_:yc K mg "own_points" xH f fd)(aS:DefOk P w K mg base "beginning_points" 1 2 ["name", "place"] yH){t_EACH_PLACE:Tok}(aT:mg "EACH_PLACE" = some (.int 10 t_EACH_PLACE)){t_SAME_SIGN:Tok}(aU:mg "SAME_SIGN" = some (.int 1 t_SAME_SIGN)):DefOk P w K mg base "own_points" 2 3 ["sign", "name", "place"] yE:=by
 refine DefOk.mk (k:=1) A_ sc_own_points rfl (fun _ _ _ _ _ _ us hl=>by obtain⟨_,_,_,rfl⟩:=lnz3 hl;rfl) (fun cdv A outer s H E hr=>?_) fun _ _ _ h=>h
 exact(zn (zL (i:=3) sc_own_points.nd rfl (Or.inl rfl) (zi4 (zY (xl hr.units) (zT yh (zc (pv 1)) (zc (pv 2))) (zc (pv 0)) (z7 _)) (vN rfl aU) zj)) (zo (zR (zu zH (zu zH (vN rfl aT) (zJ aS (hr.mono (by decide)) (zb (zc (pv 1)) (zb (zc (pv 2)) zm)) (zg (zg zq)))) (zc (pv 3))))))
noncomputable abbrev ur:Stmt:=top 10
theorem GL:zF ["sign", "other"] ["sign", "other"] (zh ur):=⟨rfl,rfl,rfl,by decide +kernel,rfl,by decide +kernel,by decide +kernel⟩
theorem Mt{f:Addr}{fd:FuncData}(A_:yc K mg "meets" ur f fd){t_SMALL:Tok}(ay:mg "SMALL" = some (.str "abcdefghijklmnopqrstuvwxyz" t_SMALL)):DefOk P w K mg base "meets" 1 2 ["sign", "other"] wV:=by
 refine DefOk.mk (k:=0) A_ GL rfl (fun _ _ _ _ _ _ us hl=>by obtain⟨_,_,rfl⟩:=lnz2 hl;rfl) (fun cdv A outer s H E hr=>?_) fun _ _ _ h=>h
 exact(zo (zR (Me (vO (xl hr.units) (zc (pv 0)) (zc (pv 1)) (z7 _)) (Zg (W0 (vO (jV (uv hr)) (zc (pv 0)) (Zi rfl ay) (by with_unfolding_all rfl)) (Zg (vO (xl hr.units) (QO (zc (pv 0))) (zc (pv 1)) (z7 _))))))))
noncomputable abbrev yD:Stmt:=top 25
theorem jP:zF ["sign", "name"] ["sign", "name"] (zh yD):=⟨rfl,rfl,rfl,by decide +kernel,rfl,by decide +kernel,by decide +kernel⟩
theorem jW{f:Addr}{fd:FuncData}(A_:yc K mg "last_sign_tails" yD f fd)(az:DefOk P w K mg base "meets" 1 2 ["sign", "other"] wV)(aA:DefOk P w K mg base "own_points" 2 3 ["sign", "name", "place"] yE)(ae:mg "len" = none)(af:mg "range" = none):DefOk P w K mg base "last_sign_tails" 3 2 ["sign", "name"] yq:=by
 refine DefOk.mk (k:=2) A_ jP rfl (fun _ _ _ _ _ _ us hl=>by obtain⟨_,_,rfl⟩:=lnz2 hl;rfl) (fun cdv A outer s H E hr=>?_) fun _ _ _ h=>h
 exact(zo (zR (Y3 (u8 (tn:=["place"]) (fr:=["sign", "name"]) (idx:=[0,1]) rfl rfl ⟨rfl,rfl,⟨rfl,rfl,trivial⟩⟩ (ua 0) (ve rfl af (zb (zP xA rfl ae PySem.boot_len (zb (zc (pv 1)) zm)) zm)) (fun s H C fp=>(yV (show List.Nodup (["place", "sign", "name"]:List Str) by decide +kernel) rfl (Or.inl rfl))) (fun s H C fp=>(YW (Ze (zJ az (hr.mono (by decide)) (zb (zc (pv 1)) (zb (zT yh (zc (pv 2)) (zc (pv 0))) zm)) (zg (zg zq)))))) (fun s H C fp=>(wq (zb (zJ aA (hr.mono (by decide)) (zb (zc (pv 1)) (zb (zc (pv 2)) (zb (zc (pv 0)) zm))) (zg (zg (zg zq)))) (zb (wt (zb (zc (pv 0)) zm)) zm))))))))
noncomputable abbrev yS:Stmt:=top 24
theorem sc_first_of_most:zF ["tails", "chosen", "tail"] ["tails"] (zh yS):=⟨rfl,rfl,rfl,by decide +kernel,rfl,by decide +kernel,by decide +kernel⟩
theorem ZN{f:Addr}{fd:FuncData}(A_:yc K mg "first_of_most" yS f fd):DefOk P w K mg base "first_of_most" 1 1 ["tails"] z8:=by
 refine DefOk.mk (k:=0) A_ sc_first_of_most rfl (fun _ _ _ _ _ _ us hl=>by obtain⟨_,rfl⟩:=lnz1 hl;rfl) (fun cdv A outer s H E hr=>?_) fun _ _ _ h=>h
 exact(zn (zL (i:=1) sc_first_of_most.nd rfl (Or.inl rfl) wR) (zn (vM PassesOwn.never rfl (vi (zc (pv 0))) (yV sc_first_of_most.nd rfl (Or.inl rfl)) (zo (yL (jJ (YV (zY zi7 (zc (pv 1)) wR (z7 _)) (Yv (zY W1 (zT yh (zc (pv 2)) zj) (zT yh (zc (pv 1)) zj) (z7 _))))) (zo (zL (i:=1) sc_first_of_most.nd rfl (Or.inl rfl) (zc (pv 2)))) z0))) (zo (zR (zc (pv 1))))))
noncomputable abbrev xu:Stmt:=top 23
theorem sc_link_points:zF ["ahead", "place", "between"] ["ahead", "place"] (zh xu):=⟨rfl,rfl,rfl,by decide +kernel,rfl,by decide +kernel,by decide +kernel⟩
theorem Y9{f:Addr}{fd:FuncData}(A_:yc K mg "link_points" xu f fd){t_MOST_BETWEEN:Tok}(aV:mg "MOST_BETWEEN" = some (.int 5 t_MOST_BETWEEN)){t_BESIDE:Tok}(aW:mg "BESIDE" = some (.int 7 t_BESIDE))(al:mg "min" = none):DefOk P w K mg base "link_points" 1 2 ["ahead", "place"] xz:=by
 refine DefOk.mk (k:=0) A_ sc_link_points rfl (fun _ _ _ _ _ _ us hl=>by obtain⟨_,_,rfl⟩:=lnz2 hl;rfl) (fun cdv A outer s H E hr=>?_) fun _ _ _ h=>h
 exact(zn (zL (i:=2) sc_link_points.nd rfl (Or.inl rfl) (zu uB (zu uB (zc (pv 1)) (zc (pv 0))) zj)) (zn (yL (zY (xl hr.units) (zc (pv 2)) zj (z7 _)) (zo (zR (vN rfl aW))) z0) (zo (zR (wS (zP (YG rfl) rfl al boot_min (zb (zc (pv 2)) (zb (vN rfl aV) zm))))))))
noncomputable abbrev xb:Stmt:=top 26
theorem Yn:zF ["place", "tails"] ["place", "tails"] (zh xb):=⟨rfl,rfl,rfl,by decide +kernel,rfl,by decide +kernel,by decide +kernel⟩
theorem Yq{f:Addr}{fd:FuncData}(A_:yc K mg "linked_tails" xb f fd)(aX:DefOk P w K mg base "link_points" 1 2 ["ahead", "place"] xz):DefOk P w K mg base "linked_tails" 2 2 ["place", "tails"] yM:=by
 refine DefOk.mk (k:=1) A_ Yn rfl (fun _ _ _ _ _ _ us hl=>by obtain⟨_,_,rfl⟩:=lnz2 hl;rfl) (fun cdv A outer s H E hr=>?_) fun _ _ _ h=>h
 exact(zo (zR (Y3 (u8 (tn:=["tail"]) (fr:=["place"]) (idx:=[0]) rfl rfl ⟨rfl,rfl,trivial⟩ (ua 0) (vi (zc (pv 1))) (fun s H C fp=>(yV (show List.Nodup (["tail", "place"]:List Str) by decide +kernel) rfl (Or.inl rfl))) (fun s H C fp=>(YW (zY W1 (zT yh (zT yh (zc (pv 0)) zj) zj) (zc (pv 1)) (z7 _)))) (fun s H C fp=>(wq (zb (zu zH (zT yh (zc (pv 0)) zj) (zJ aX (hr.mono (by decide)) (zb (zc (pv 1)) (zb (zT yh (zT yh (zc (pv 0)) zj) zj) zm)) (zg (zg zq)))) (zb (zT yh (zc (pv 0)) zj) zm))))))))
noncomputable abbrev y9:Stmt:=top 27
theorem sc_longer_tails:zF ["sign", "name", "tails", "longer", "place", "chosen"] ["sign", "name", "tails"] (zh y9):=⟨rfl,rfl,rfl,by decide +kernel,rfl,by decide +kernel,by decide +kernel⟩
theorem Yp{f:Addr}{fd:FuncData}(A_:yc K mg "longer_tails" y9 f fd)(az:DefOk P w K mg base "meets" 1 2 ["sign", "other"] wV)(aA:DefOk P w K mg base "own_points" 2 3 ["sign", "name", "place"] yE)(aY:DefOk P w K mg base "linked_tails" 2 2 ["place", "tails"] yM)(aB:DefOk P w K mg base "first_of_most" 1 1 ["tails"] z8)(ae:mg "len" = none)(af:mg "range" = none):DefOk P w K mg base "longer_tails" 3 3 ["sign", "name", "tails"] xg:=by
 refine DefOk.mk (k:=2) A_ sc_longer_tails rfl (fun _ _ _ _ _ _ us hl=>by obtain⟨_,_,_,rfl⟩:=lnz3 hl;rfl) (fun cdv A outer s H E hr=>?_) fun _ _ _ h=>h
 exact(zn (VV (i:=3) sc_longer_tails.nd rfl (Or.inl rfl) (JL zm)) (zn (vM PassesOwn.never rfl (ve rfl af (zb (zP xA rfl ae PySem.boot_len (zb (zc (pv 1)) zm)) zm)) (yV sc_longer_tails.nd rfl (Or.inl rfl)) (zo (yL (Ze (zJ az (hr.mono (by decide)) (zb (zc (pv 0)) (zb (zT yh (zc (pv 1)) (zc (pv 4))) zm)) (zg (zg zq)))) (zn (zL (i:=5) sc_longer_tails.nd rfl (Or.inl rfl) (zJ aB (hr.mono (by decide)) (zb (zJ aY (hr.mono (by decide)) (zb (zc (pv 4)) (zb (zc (pv 2)) zm)) (zg (zg zq))) zm) (zg zq))) (zo (yL (zY uc (zc (pv 5)) wR (z7 _)) (zo (JK (pv 3) (wq (zb (zu zH (zJ aA (hr.mono (by decide)) (zb (zc (pv 0)) (zb (zc (pv 1)) (zb (zc (pv 4)) zm))) (zg (zg (zg zq)))) (zT yh (zc (pv 5)) zj)) (zb (zu zH (wt (zb (zc (pv 4)) zm)) (zT yh (zc (pv 5)) zj)) zm))))) z0))) z0))) (zo (YY (pv 3)))))
noncomputable abbrev xw:Stmt:=top 22
theorem YM:zF ["place"] ["place"] (zh xw):=⟨rfl,rfl,rfl,by decide +kernel,rfl,by decide +kernel,by decide +kernel⟩
theorem Xa{f:Addr}{fd:FuncData}(A_:yc K mg "lead_points" xw f fd){t_MOST_AHEAD:Tok}(aZ:mg "MOST_AHEAD" = some (.int 3 t_MOST_AHEAD))(al:mg "min" = none):DefOk P w K mg base "lead_points" 1 1 ["place"] y3:=by
 refine DefOk.mk (k:=0) A_ YM rfl (fun _ _ _ _ _ _ us hl=>by obtain⟨_,rfl⟩:=lnz1 hl;rfl) (fun cdv A outer s H E hr=>?_) fun _ _ _ h=>h
 exact(zo (zR (wS (zP (YG rfl) rfl al boot_min (zb (zc (pv 0)) (zb (vN rfl aZ) zm))))))
noncomputable abbrev jQ:Stmt:=top 28
theorem sc_best:zF ["query", "name", "tails", "number"] ["query", "name"] (zh jQ):=⟨rfl,rfl,rfl,by decide +kernel,rfl,by decide +kernel,by decide +kernel⟩
theorem LD{f:Addr}{fd:FuncData}(A_:yc K mg "best" jQ f fd)(b0:DefOk P w K mg base "lead_points" 1 1 ["place"] y3)(aB:DefOk P w K mg base "first_of_most" 1 1 ["tails"] z8)(bb:DefOk P w K mg base "longer_tails" 3 3 ["sign", "name", "tails"] xg)(bc:DefOk P w K mg base "last_sign_tails" 3 2 ["sign", "name"] yq)(ae:mg "len" = none)(af:mg "range" = none):DefOk P w K mg base "best" 4 2 ["query", "name"] vZ:=by
 refine DefOk.mk (k:=3) A_ sc_best rfl (fun _ _ _ _ _ _ us hl=>by obtain⟨_,_,rfl⟩:=lnz2 hl;rfl) (fun cdv A outer s H E hr=>?_) fun _ _ _ h=>h
 exact(zn (yL (zY (xl hr.units) (zP xA rfl ae PySem.boot_len (zb (zc (pv 0)) zm)) zj (z7 _)) (zo (zR (wq (zb zj (zb (wt zm) zm))))) z0) (zn (zL (i:=2) sc_best.nd rfl (Or.inl rfl) (zJ bc (hr.mono (by decide)) (zb (zT yh (zc (pv 0)) (wS zj)) (zb (zc (pv 1)) zm)) (zg (zg zq)))) (zn (vM PassesOwn.never rfl (UV rfl af (zb (zu uB (zP xA rfl ae PySem.boot_len (zb (zc (pv 0)) zm)) zj) (zb (wS zj) (zb (wS zj) zm)))) (yV sc_best.nd rfl (Or.inl rfl)) (zo (zL (i:=2) sc_best.nd rfl (Or.inl rfl) (zJ bb (hr.mono (by decide)) (zb (zT yh (zc (pv 0)) (zc (pv 3))) (zb (zc (pv 1)) (zb (zc (pv 2)) zm))) (zg (zg (zg zq))))))) (zo (zR (zJ aB (hr.mono (by decide)) (zb (Y3 (u8 (tn:=["tail"]) (fr:=[]) (idx:=[]) rfl rfl trivial (ua 0) (vi (zc (pv 2))) (fun s H C fp=>(yV (show List.Nodup (["tail"]:List Str) by decide +kernel) rfl (Or.inl rfl))) (fun s H C fp=>vA) (fun s H C fp=>(wq (zb (zu zH (zT yh (zc (pv 0)) zj) (zJ b0 (hr.mono (by decide)) (zb (zT yh (zT yh (zc (pv 0)) zj) zj) zm) (zg zq))) (zb (zT yh (zc (pv 0)) zj) zm)))))) zm) (zg zq)))))))
noncomputable abbrev xc:Stmt:=top 30
theorem sc_fitting_rows:zF ["names", "query", "numbers", "rows", "number", "laid"] ["names", "query", "numbers"] (zh xc):=⟨rfl,rfl,rfl,by decide +kernel,rfl,by decide +kernel,by decide +kernel⟩
theorem Yr{f:Addr}{fd:FuncData}(A_:yc K mg "fitting_rows" xc f fd)(be:DefOk P w K mg base "best" 4 2 ["query", "name"] vZ):DefOk P w K mg base "fitting_rows" 5 3 ["names", "query", "numbers"] yN:=by
 refine DefOk.mk (k:=4) A_ sc_fitting_rows rfl (fun _ _ _ _ _ _ us hl=>by obtain⟨_,_,_,rfl⟩:=lnz3 hl;rfl) (fun cdv A outer s H E hr=>?_) fun _ _ _ h=>h
 exact(zn (VV (i:=3) sc_fitting_rows.nd rfl (Or.inl rfl) (JL zm)) (zn (vM PassesOwn.never rfl (vi (zc (pv 2))) (yV sc_fitting_rows.nd rfl (Or.inl rfl)) (zn (zL (i:=5) sc_fitting_rows.nd rfl (Or.inl rfl) (zJ be (hr.mono (by decide)) (zb (zc (pv 1)) (zb (zT yh (zc (pv 0)) (zc (pv 4))) zm)) (zg (zg zq)))) (zo (yL (zY uc (zc (pv 5)) wR (z7 _)) (zo (JK (pv 3) (wq (zb (zT yh (zc (pv 5)) zj) (zb (zc (pv 4)) zm))))) z0)))) (zo (YY (pv 3)))))
noncomputable abbrev wE:Stmt:=top 33
theorem VH:zF ["names", "query"] ["names", "query"] (zh wE):=⟨rfl,rfl,rfl,by decide +kernel,rfl,by decide +kernel,by decide +kernel⟩
theorem V4{f:Addr}{fd:FuncData}(A_:yc K mg "all_rows" wE f fd)(bf:DefOk P w K mg base "fitting_rows" 5 3 ["names", "query", "numbers"] yN)(ae:mg "len" = none)(aC:mg "list" = none)(af:mg "range" = none):DefOk P w K mg base "all_rows" 6 2 ["names", "query"] wc:=by
 refine DefOk.mk (k:=5) A_ VH rfl (fun _ _ _ _ _ _ us hl=>by obtain⟨_,_,rfl⟩:=lnz2 hl;rfl) (fun cdv A outer s H E hr=>?_) fun _ _ _ h=>h
 exact(zo (zR (zJ bf (hr.mono (by decide)) (zb (zc (pv 0)) (zb (zc (pv 1)) (zb (Y3 (Yo rfl rfl aC rfl af (zb (zP xA rfl ae PySem.boot_len (zb (zc (pv 0)) zm)) zm))) zm))) (zg (zg (zg zq))))))
noncomputable abbrev ut:Stmt:=top 34
theorem GM:zF ["names", "query", "many"] ["names", "query", "many"] (zh ut):=⟨rfl,rfl,rfl,by decide +kernel,rfl,by decide +kernel,by decide +kernel⟩
theorem Mu{f:Addr}{fd:FuncData}(A_:yc K mg "finds" ut f fd)(bg:DefOk P w K mg base "all_rows" 6 2 ["names", "query"] wc)(bi:DefOk P w K mg base "first_rows" 5 3 ["names", "rows", "many"] xn):DefOk P w K mg base "finds" 7 3 ["names", "query", "many"] yF:=by
 refine DefOk.mk (k:=6) A_ GM rfl (fun _ _ _ _ _ _ us hl=>by obtain⟨_,_,_,rfl⟩:=lnz3 hl;rfl) (fun cdv A outer s H E hr=>?_) fun _ _ _ h=>h
 exact(zo (zR (zJ bi (hr.mono (by decide)) (zb (zc (pv 0)) (zb (zJ bg (hr.mono (by decide)) (zb (zc (pv 0)) (zb (zc (pv 1)) zm)) (zg (zg zq))) (zb (zc (pv 2)) zm))) (zg (zg (zg zq))))))
noncomputable abbrev y7:Stmt:=uH (top 36) 0
theorem j9:zF ["self", "names", "size"] ["self", "names", "size"] (zh y7):=⟨rfl,rfl,rfl,by decide +kernel,rfl,by decide +kernel,by decide +kernel⟩
theorem Zk{C_Pager:Addr}(ad:ClsAt K mg "Pager" C_Pager)(ag:NoAttr K C_Pager "place")(au:NoAttr K C_Pager "names")(ah:NoAttr K C_Pager "rows")(aj:NoAttr K C_Pager "size")(ak:DefOk P w K mg base "finds" 7 3 ["names", "query", "many"] yF)(ae:mg "len" = none)(ar:mg "max" = none)(aC:mg "list" = none){f:Addr}{fd:FuncData}(M_:Mk K C_Pager f)(D_:Fun K "__init__" "Pager.__init__" y7 f fd):ClsM P w K mg base "Pager" 8 2 ["self", "names", "size"] z9:=by
 refine ClsM.mk (k:=7) ad M_ D_ j9 rfl (fun _ _ _ _ _ _ us hl=>by obtain⟨_,_,_,rfl⟩:=lnz3 hl;rfl) (fun cdv A outer s H E hr=>?_)
 exact(zn (uy (pv 0) ad.ns ad.cls au (Y5 (zb4 rfl) rfl aC boot_list (zb (zc (pv 1)) zm)) (by decide +kernel)) (zn (uy (pv 0) ad.ns ad.cls aj (zP (Vn rfl) rfl ar boot_max (zb (zc (pv 2)) (zb zj zm))) (by decide +kernel)) (zn (uy (pv 0) ad.ns ad.cls ah (zJ ak (hr.mono (by decide)) (zb (xk (pv 0) ad.ns ad.cls au (by decide +kernel)) (zb yY (zb (zP xA rfl ae PySem.boot_len (zb (xk (pv 0) ad.ns ad.cls au (by decide +kernel)) zm)) zm))) (zg (zg (zg zq)))) (by decide +kernel)) (zo (uy (pv 0) ad.ns ad.cls ag zj (by decide +kernel))))))
noncomputable abbrev wm:Stmt:=uH (top 36) 4
theorem sc_Pager_page:zF ["self", "first"] ["self"] (zh wm):=⟨rfl,rfl,rfl,by decide +kernel,rfl,by decide +kernel,by decide +kernel⟩
theorem X2{C_Pager:Addr}(ad:ClsAt K mg "Pager" C_Pager)(ah:NoAttr K C_Pager "rows")(aj:NoAttr K C_Pager "size")(ag:NoAttr K C_Pager "place"){f:Addr}{fd:FuncData}(M_:jk K C_Pager "page" f)(D_:Fun K "page" "Pager.page" wm f fd):MetF P w K mg base "Pager" "page" 1 0 ["self"] yK:=by
 refine MetF.mk (k:=0) ad M_ D_ sc_Pager_page rfl (fun _ _ _ _ _ _ us hl=>by obtain⟨_,rfl⟩:=lnz1 hl;rfl) (fun cdv A outer s H E hr=>?_)
 exact(zn (zL (i:=1) sc_Pager_page.nd rfl (Or.inl rfl) (zu xj (zu xQ (xk (pv 0) ad.ns ad.cls ag (by decide +kernel)) (xk (pv 0) ad.ns ad.cls aj (by decide +kernel))) (xk (pv 0) ad.ns ad.cls aj (by decide +kernel)))) (zo (Ma (u8 (tn:=["counted", "number"]) (fr:=[]) (idx:=[]) rfl rfl trivial (VF 0 1) (vi (UW (xk (pv 0) ad.ns ad.cls ah (by decide +kernel)) (u7 (zc (pv 1))) (u7 (zu zH (zc (pv 1)) (xk (pv 0) ad.ns ad.cls aj (by decide +kernel)))))) (fun s H C fp=>(Y2 rfl (show List.Nodup (["counted", "number"]:List Str) by decide +kernel) rfl (Or.inl rfl) rfl (Or.inl rfl))) (fun s H C fp=>vA) (fun s H C fp=>(wq (zb (zc (pv 0)) (zb (zc (pv 1)) zm))))))))
noncomputable abbrev xT:Stmt:=uH (top 36) 5
theorem YN:zF ["self"] ["self"] (zh xT):=⟨rfl,rfl,rfl,by decide +kernel,rfl,by decide +kernel,by decide +kernel⟩
theorem Xc{C_Pager:Addr}(ad:ClsAt K mg "Pager" C_Pager)(ah:NoAttr K C_Pager "rows")(aj:NoAttr K C_Pager "size")(ae:mg "len" = none){f:Addr}{fd:FuncData}(M_:jk K C_Pager "pages" f)(D_:Fun K "pages" "Pager.pages" xT f fd):MetR P w K mg base "Pager" "pages" 1 0 ["self"] yt:=by
 refine MetR.mk (k:=0) ad M_ D_ YN rfl (fun _ _ _ _ _ _ us hl=>by obtain⟨_,rfl⟩:=lnz1 hl;rfl) (fun cdv A outer s H E hr=>?_)
 exact(zo (zR (zu xQ (zu uB (zu zH (zP xA rfl ae PySem.boot_len (zb (xk (pv 0) ad.ns ad.cls ah (by decide +kernel)) zm)) (xk (pv 0) ad.ns ad.cls aj (by decide +kernel))) zj) (xk (pv 0) ad.ns ad.cls aj (by decide +kernel)))))
noncomputable abbrev wj:Stmt:=uH (top 36) 6
theorem sc_Pager_turn:zF ["self", "by", "number"] ["self", "by"] (zh wj):=⟨rfl,rfl,rfl,by decide +kernel,rfl,by decide +kernel,by decide +kernel⟩
theorem X1{C_Pager:Addr}(ad:ClsAt K mg "Pager" C_Pager)(ag:NoAttr K C_Pager "place")(aj:NoAttr K C_Pager "size")(aD:MetR P w K mg base "Pager" "pages" 1 0 ["self"] yt)(aw:MetR P w K mg base "Pager" "page" 1 0 ["self"] yd)(f_Pager_page:MetF P w K mg base "Pager" "page" 1 0 ["self"] yK){C_NoNumber:Addr}(t_NoNumber:EC K mg "NoNumber" C_NoNumber){f:Addr}{fd:FuncData}(M_:jk K C_Pager "turn" f)(D_:Fun K "turn" "Pager.turn" wj f fd):MetMX P w K mg base "Pager" "turn" 2 1 ["self", "by"] y0:=by
 refine MetMX.mk (k:=1) ad M_ D_ sc_Pager_turn rfl (fun _ _ _ _ _ _ us hl=>by obtain⟨_,_,rfl⟩:=lnz2 hl;rfl) (fun cdv A outer s H E hr=>?_)
 exact(zn (QK (zL (i:=2) sc_Pager_turn.nd rfl (Or.inl rfl) (zu zH (zu xQ (xk (pv 0) ad.ns ad.cls ag (by decide +kernel)) (xk (pv 0) ad.ns ad.cls aj (by decide +kernel))) (zc (pv 1))))) (zn (yL (jJ (YV (zY Mp (zc (pv 2)) zj (z7 _)) (Yv (zY zi8 (zc (pv 2)) (wa aD (hr.mono (by decide)) (pv 0)) (z7 _))))) (zo (Wn t_NoNumber rfl hr.hd yY)) z0) (YX (zn (uy (pv 0) ad.ns ad.cls ag (zu xj (zc (pv 2)) (xk (pv 0) ad.ns ad.cls aj (by decide +kernel))) (by decide +kernel)) (zo (YZ (wa aw (hr.mono (by decide)) (pv 0))))))))
noncomputable abbrev xm:Stmt:=uH (top 36) 2
theorem sc_Pager_pointed:zF ["self", "row"] ["self"] (zh xm):=⟨rfl,rfl,rfl,by decide +kernel,rfl,by decide +kernel,by decide +kernel⟩
theorem ZO{C_Pager:Addr}(ad:ClsAt K mg "Pager" C_Pager)(ag:NoAttr K C_Pager "place")(ah:NoAttr K C_Pager "rows")(ae:mg "len" = none){f:Addr}{fd:FuncData}(M_:jk K C_Pager "pointed" f)(D_:Fun K "pointed" "Pager.pointed" xm f fd):MetR P w K mg base "Pager" "pointed" 1 0 ["self"] zX:=by
 refine MetR.mk (k:=0) ad M_ D_ sc_Pager_pointed rfl (fun _ _ _ _ _ _ us hl=>by obtain⟨_,rfl⟩:=lnz1 hl;rfl) (fun cdv A outer s H E hr=>?_)
 exact(zn (yL (zY (xl hr.units) (zP xA rfl ae PySem.boot_len (zb (xk (pv 0) ad.ns ad.cls ah (by decide +kernel)) zm)) zj (z7 _)) (zo (zR wR)) z0) (zn (zL (i:=1) sc_Pager_pointed.nd rfl (Or.inl rfl) (zT yh (xk (pv 0) ad.ns ad.cls ah (by decide +kernel)) (xk (pv 0) ad.ns ad.cls ag (by decide +kernel)))) (zo (zR (wq (zb (zT yh (zc (pv 1)) zj) (zb (zT yh (zc (pv 1)) zj) zm)))))))
noncomputable abbrev wJ:Stmt:=uH (top 36) 1
theorem sc_Pager_ask:zF ["self", "query", "ahead", "place", "row"] ["self", "query"] (zh wJ):=⟨rfl,rfl,rfl,by decide +kernel,rfl,by decide +kernel,by decide +kernel⟩
theorem W9{C_Pager:Addr}(ad:ClsAt K mg "Pager" C_Pager)(ah:NoAttr K C_Pager "rows")(ag:NoAttr K C_Pager "place")(au:NoAttr K C_Pager "names")(av:MetR P w K mg base "Pager" "pointed" 1 0 ["self"] zX)(ak:DefOk P w K mg base "finds" 7 3 ["names", "query", "many"] yF)(aE:mg "enumerate" = none)(ae:mg "len" = none){f:Addr}{fd:FuncData}(M_:jk K C_Pager "ask" f)(D_:Fun K "ask" "Pager.ask" wJ f fd):MetM P w K mg base "Pager" "ask" 8 1 ["self", "query"] y4:=by
 refine MetM.mk (k:=7) ad M_ D_ sc_Pager_ask rfl (fun _ _ _ _ _ _ us hl=>by obtain⟨_,_,rfl⟩:=lnz2 hl;rfl) (fun cdv A outer s H E hr=>?_)
 exact(zn (zL (i:=2) sc_Pager_ask.nd rfl (Or.inl rfl) (wa av (hr.mono (by decide)) (pv 0))) (zn (uy (pv 0) ad.ns ad.cls ah (zJ ak (hr.mono (by decide)) (zb (xk (pv 0) ad.ns ad.cls au (by decide +kernel)) (zb (zc (pv 1)) (zb (zP xA rfl ae PySem.boot_len (zb (xk (pv 0) ad.ns ad.cls au (by decide +kernel)) zm)) zm))) (zg (zg (zg zq)))) (by decide +kernel)) (zn (uy (pv 0) ad.ns ad.cls ag zj (by decide +kernel)) (zo (vM PassesOwn.never rfl (VZ rfl aE (zb (xk (pv 0) ad.ns ad.cls ah (by decide +kernel)) zm)) (Y2 rfl sc_Pager_ask.nd rfl (Or.inl rfl) rfl (Or.inl rfl)) (zo (yL (jJ (ju (zY uc (zc (pv 2)) wR (z7 _)) (ub (zY (xl hr.units) (zT yh (zc (pv 4)) zj) (zT yh (zc (pv 2)) zj) (z7 _))))) (zo (uy (pv 0) ad.ns ad.cls ag (zc (pv 3)) (by decide +kernel))) z0)))))))
noncomputable abbrev wn:Stmt:=uH (top 36) 3
theorem XR:zF ["self", "by"] ["self", "by"] (zh wn):=⟨rfl,rfl,rfl,by decide +kernel,rfl,by decide +kernel,by decide +kernel⟩
theorem X3{C_Pager:Addr}(ad:ClsAt K mg "Pager" C_Pager)(ah:NoAttr K C_Pager "rows")(ag:NoAttr K C_Pager "place")(av:MetR P w K mg base "Pager" "pointed" 1 0 ["self"] zX){C_NoNumber:Addr}(t_NoNumber:EC K mg "NoNumber" C_NoNumber)(ae:mg "len" = none){f:Addr}{fd:FuncData}(M_:jk K C_Pager "move" f)(D_:Fun K "move" "Pager.move" wn f fd):MetMX P w K mg base "Pager" "move" 2 1 ["self", "by"] yJ:=by
 refine MetMX.mk (k:=1) ad M_ D_ XR rfl (fun _ _ _ _ _ _ us hl=>by obtain⟨_,_,rfl⟩:=lnz2 hl;rfl) (fun cdv A outer s H E hr=>?_)
 exact(zn (yL (zY (xl hr.units) (zP xA rfl ae PySem.boot_len (zb (xk (pv 0) ad.ns ad.cls ah (by decide +kernel)) zm)) zj (z7 _)) (zo (Wn t_NoNumber rfl hr.hd yY)) z0) (YX (zn (uy (pv 0) ad.ns ad.cls ag (zu vo (zu zH (xk (pv 0) ad.ns ad.cls ag (by decide +kernel)) (zc (pv 1))) (zP xA rfl ae PySem.boot_len (zb (xk (pv 0) ad.ns ad.cls ah (by decide +kernel)) zm))) (by decide +kernel)) (zo (YZ (wa av (hr.mono (by decide)) (pv 0)))))))
noncomputable abbrev xZ:Stmt:=top 44
theorem sc__law_told:zF ["_law_pager", "_law_way", "_law_thing", "e", "_law_flags"] ["_law_pager", "_law_way", "_law_thing"] (zh xZ):=⟨rfl,rfl,rfl,by decide +kernel,rfl,by decide +kernel,by decide +kernel⟩
theorem W4{f:Addr}{fd:FuncData}(D_:yc K mg "_law_told" xZ f fd)(bj:MetMX P w K mg base "Pager" "turn" 2 1 ["self", "by"] y0)(bn:MetMX P w K mg base "Pager" "move" 2 1 ["self", "by"] yJ)(aF:MetM P w K mg base "Pager" "ask" 8 1 ["self", "query"] y4){C_NoNumber:Addr}(t_NoNumber:EC K mg "NoNumber" C_NoNumber)(q_NoNumber_ValueError:kitOne K (.ref C_NoNumber) (.type "ValueError")=some true)(k_NoNumber:ECK K C_NoNumber){C_NoText:Addr}(t_NoText:EC K mg "NoText" C_NoText)(q_NoNumber_NoText:kitOne K (.ref C_NoNumber) (.ref C_NoText)=some false){C_NoFit:Addr}(t_NoFit:EC K mg "NoFit" C_NoFit)(q_NoNumber_NoFit:kitOne K (.ref C_NoNumber) (.ref C_NoFit)=some false)(q_NoNumber_NoNumber:kitOne K (.ref C_NoNumber) (.ref C_NoNumber)=some true){C_FindError:Addr}(t_FindError:EC K mg "FindError" C_FindError)(x_NoNumber_FindError:exmOne K (.ref C_NoNumber) (.ref C_FindError)=some true)(aG:mg "isinstance" = none)(bo:mg "ValueError" = none):DefM P w K mg base "_law_told" "Pager" 9 0 2 ["_law_pager", "_law_way", "_law_thing"] zK:=by
 refine DefM.mk (k:=8) D_ sc__law_told rfl (fun _ _ _ _ _ _ us hl=>by obtain⟨_,_,_,rfl⟩:=lnz3 hl;rfl) (fun cdv A outer s H E hr=>?_)
 exact(zo (G9 ⟨rfl,rfl,rfl⟩ t_FindError sc__law_told.nd rfl rfl (fun pins E=>(zn (yL (zY (xl hr.units) (zc (pv 1)) zj (z7 _)) (zo (ZL (zi1 (VX aF (hr.mono (by decide)) (pv 0) (zb (zc (pv 2)) zm) (zg zq))))) z0) (zn (yL (zY (xl hr.units) (zc (pv 1)) zj (z7 _)) (zo (ZL (VU bn rfl (hr.mono (by decide)) (pv 0) (zb (zc (pv 2)) zm) (zg zq)))) z0) (zo (ZL (VU bj rfl (hr.mono (by decide)) (pv 0) (zb (zc (pv 2)) zm) (zg zq))))))) (fun a=>(zn (zL (i:=4) sc__law_told.nd rfl (Or.inl rfl) (wt (zb (Zh t_NoNumber k_NoNumber (zc (pv 3)) (Yu rfl t_NoNumber.mgl (show RelV (V.ref C_NoNumber) (Value.ref C_NoNumber) from rfl)) WT q_NoNumber_NoNumber aG) (zb (Zh t_NoNumber k_NoNumber (zc (pv 3)) (Yu rfl t_NoFit.mgl (show RelV (V.ref C_NoFit) (Value.ref C_NoFit) from rfl)) WT q_NoNumber_NoFit aG) (zb (Zh t_NoNumber k_NoNumber (zc (pv 3)) (Yu rfl t_NoText.mgl (show RelV (V.ref C_NoText) (Value.ref C_NoText) from rfl)) WT q_NoNumber_NoText aG) zm))))) (zo (YZ (W0 (Zh t_NoNumber k_NoNumber (zc (pv 3)) (Lp rfl bo zb8 (show RelV (V.ty "ValueError") (Value.type "ValueError") from rfl)) zf9 q_NoNumber_ValueError aG) (Zg (vO (xl hr.units) (zc (pv 4)) (wt (by refine zb ?_ ?_ ?_;exact wT;(rotate_left;exact xD);refine zb ?_ ?_ ?_;exact wT;(rotate_left;exact xD);refine zb ?_ ?_ ?_;exact wT;(rotate_left;exact xD);exact zm)) (z7 _)))))))) (ok1 t_NoNumber x_NoNumber_FindError)))
noncomputable abbrev x0:Stmt:=top 45
theorem WM:zF ["_law_rows", "_law_place", "_law_size"] ["_law_rows", "_law_place", "_law_size"] (zh x0):=⟨rfl,rfl,rfl,by decide +kernel,rfl,by decide +kernel,by decide +kernel⟩
theorem W5{f:Addr}{fd:FuncData}(A_:yc K mg "_law_page" x0 f fd)(aE:mg "enumerate" = none):DefOk P w K mg base "_law_page" 1 3 ["_law_rows", "_law_place", "_law_size"] yr:=by
 refine DefOk.mk (k:=0) A_ WM rfl (fun _ _ _ _ _ _ us hl=>by obtain⟨_,_,_,rfl⟩:=lnz3 hl;rfl) (fun cdv A outer s H E hr=>?_) fun _ _ _ h=>h
 exact(zo (zR (Y3 (u8 (tn:=["_law_at", "_law_row"]) (fr:=["_law_size", "_law_place"]) (idx:=[2,1]) rfl rfl ⟨rfl,rfl,⟨rfl,rfl,trivial⟩⟩ (VF 0 1) (VZ rfl aE (zb (zc (pv 0)) zm)) (fun s H C fp=>(Y2 rfl (show List.Nodup (["_law_at", "_law_row", "_law_size", "_law_place"]:List Str) by decide +kernel) rfl (Or.inl rfl) rfl (Or.inl rfl))) (fun s H C fp=>(YW (zY (xl hr.units) (zu xQ (zc (pv 0)) (zc (pv 2))) (zu xQ (zc (pv 3)) (zc (pv 2))) (z7 _)))) (fun s H C fp=>(zc (pv 1)))))))
noncomputable abbrev xJ:Stmt:=top 47
theorem sc__law_turns:zF ["_law_names_here", "_law_pager", "_law_rows", "_law_told_here", "_law_due"] [] (zh xJ):=⟨rfl,rfl,rfl,by decide +kernel,rfl,by decide +kernel,by decide +kernel⟩
theorem XW{f:Addr}{fd:FuncData}(A_:yc K mg "_law_turns" xJ f fd)(ao:DefM P w K mg base "_law_told" "Pager" 9 0 2 ["_law_pager", "_law_way", "_law_thing"] zK)(aF:MetM P w K mg base "Pager" "ask" 8 1 ["self", "query"] y4)(ax:ClsM P w K mg base "Pager" 8 2 ["self", "names", "size"] z9)(aq:DefOk P w K mg base "_law_page" 1 3 ["_law_rows", "_law_place", "_law_size"] yr)(ak:DefOk P w K mg base "finds" 7 3 ["names", "query", "many"] yF):DefOk P w K mg base "_law_turns" 10 0 [] xq:=by
 refine DefOk.mk (k:=9) A_ sc__law_turns rfl (fun _ _ _ _ _ _ us hl=>match us,hl with | [],_=>rfl) (fun cdv A outer s H E hr=>?_) fun _ _ _ h=>h
 exact(zn (zL (i:=0) sc__law_turns.nd rfl (Or.inl rfl) (wt (by refine zb ?_ ?_ ?_;exact yY;(rotate_left;exact xD);refine zb ?_ ?_ ?_;exact yY;(rotate_left;exact xD);refine zb ?_ ?_ ?_;exact yY;(rotate_left;exact xD);refine zb ?_ ?_ ?_;exact yY;(rotate_left;exact xD);refine zb ?_ ?_ ?_;exact yY;(rotate_left;exact xD);exact zm))) (zn (Y1 (i:=1) ax (hr.mono (by decide)) rfl (zb (zc (pv 0)) (zb zj zm)) (zg (zg zq)) sc__law_turns.nd rfl (Or.inr rfl)) (zn (QL (VX aF (hr.mono (by decide)) (pv 1) (zb yY zm) (zg zq))) (zn (zL (i:=2) sc__law_turns.nd rfl (Or.inr rfl) (zJ ak (hr.mono (by decide)) (zb (zc (pv 0)) (zb yY (zb zj zm))) (zg (zg (zg zq))))) (zn (Zf (u6 (jU hr.units) (VY (tn:=["_law_by"]) (fr:=["_law_pager"]) (idx:=[1]) (i:=1) (p:=1) (c := "Pager") rfl rfl ⟨rfl,rfl,trivial⟩ (by decide) rfl (Xe 0) ZR (vi (wq (zb zj (zb zj (zb (wS zj) (zb zj zm)))))) (fun s H C fp=>(yV (show List.Nodup (["_law_by", "_law_pager"]:List Str) by decide +kernel) rfl (Or.inl rfl))) (fun s H C fp=>(uz ao (hr.mono (by decide)) (wA (pv 1) (zb zj (zb (zc (pv 0)) zm))) zq (fun τ ds h=>by have:=(zg (zg zq)) τ ds h;lia)))) (wt (zb (zT yh (zc (pv 2)) zj) (zb (zT yh (zc (pv 2)) zj) (zb (zT yh (zc (pv 2)) zj) (zb (zT yh (zc (pv 2)) zj) zm))))) (z7 _)) (zo (zR wT)) z0) (zn (QN (l:=3) sc__law_turns.nd rfl rfl rfl (tn:=["_law_by"]) (fr:=["_law_pager"]) (idx:=[1]) (i:=1) (p:=1) (c := "Pager") rfl rfl ⟨rfl,rfl,trivial⟩ (by decide) rfl (Xe 0) ZR (vi (wq (zb zj (zb (wS zj) (zb zj (zb zj (zb (wS zj) zm))))))) (fun s H C fp=>(yV (show List.Nodup (["_law_by", "_law_pager"]:List Str) by decide +kernel) rfl (Or.inl rfl))) (fun s H C fp=>(uz ao (hr.mono (by decide)) (wA (pv 1) (zb zj (zb (zc (pv 0)) zm))) zq (fun τ ds h=>by have:=(zg (zg zq)) τ ds h;lia)))) (zn (VW (i:=4) sc__law_turns.nd rfl rfl rfl (tn:=["_law_place"]) (fr:=["_law_rows"]) (idx:=[2]) rfl rfl ⟨rfl,rfl,trivial⟩ (ua 0) (vi (wq (by refine zb ?_ ?_ ?_;exact zj;(rotate_left;exact xD);refine zb ?_ ?_ ?_;exact zj;(rotate_left;exact xD);refine zb ?_ ?_ ?_;exact zj;(rotate_left;exact xD);refine zb ?_ ?_ ?_;exact zj;(rotate_left;exact xD);refine zb ?_ ?_ ?_;exact zj;(rotate_left;exact xD);exact zm))) (fun s H C fp=>(yV (show List.Nodup (["_law_place", "_law_rows"]:List Str) by decide +kernel) rfl (Or.inl rfl))) (fun s H C fp=>vA) (fun s H C fp=>(zJ aq (hr.mono (by decide)) (zb (zc (pv 1)) (zb (zc (pv 0)) (zb zj zm))) (zg (zg (zg zq)))))) (zo (Mb (Lu (zi2 (vO (xl hr.units) (zc (pv 3)) (zc (pv 4)) (z7 _))) (Lr (Ls (xl hr.units) (VY (tn:=["_law_by"]) (fr:=["_law_pager"]) (idx:=[1]) (i:=1) (p:=1) (c := "Pager") rfl rfl ⟨rfl,rfl,trivial⟩ (by decide) rfl (Xe 0) ZR (vi (wq (zb (wS zj) (zb zj zm)))) (fun s H C fp=>(yV (show List.Nodup (["_law_by", "_law_pager"]:List Str) by decide +kernel) rfl (Or.inl rfl))) (fun s H C fp=>(uz ao (hr.mono (by decide)) (wA (pv 1) (zb zj (zb (zc (pv 0)) zm))) zq (fun τ ds h=>by have:=(zg (zg zq)) τ ds h;lia)))) (wt (zb wT (zb wT zm))) (z7 _)))))))))))))
noncomputable abbrev xx:Stmt:=top 46
theorem sc__law_stands:zF ["_law_pager", "_law_rows", "_law_place", "_law_size", "_law_many", "_law_due"] ["_law_pager", "_law_rows", "_law_place", "_law_size"] (zh xx):=⟨rfl,rfl,rfl,by decide +kernel,rfl,by decide +kernel,by decide +kernel⟩
theorem Xb{f:Addr}{fd:FuncData}(D_:yc K mg "_law_stands" xx f fd)(aw:MetR P w K mg base "Pager" "page" 1 0 ["self"] yd)(aD:MetR P w K mg base "Pager" "pages" 1 0 ["self"] yt)(av:MetR P w K mg base "Pager" "pointed" 1 0 ["self"] zX)(f_Pager_page:MetF P w K mg base "Pager" "page" 1 0 ["self"] yK)(aq:DefOk P w K mg base "_law_page" 1 3 ["_law_rows", "_law_place", "_law_size"] yr)(ae:mg "len" = none)(bq:mg "int" = none):DefR P w K mg base "_law_stands" "Pager" 2 0 3 ["_law_pager", "_law_rows", "_law_place", "_law_size"] yC:=by
 refine DefR.mk (k:=1) D_ sc__law_stands rfl (fun _ _ _ _ _ _ us hl=>by obtain⟨_,_,_,_,rfl⟩:=lnz4 hl;rfl) (fun cdv A outer s H E hr=>?_)
 exact(zn (zL (i:=4) sc__law_stands.nd rfl (Or.inl rfl) (zu zH (zu xQ (zP xA rfl ae PySem.boot_len (zb (zc (pv 1)) zm)) (zc (pv 3))) (Y5 zb5 rfl bq PyProof.Rows.boot_int (zb (vO W1 (zu vo (zP xA rfl ae PySem.boot_len (zb (zc (pv 1)) zm)) (zc (pv 3))) zj (z7 _)) zm)))) (zn (zL (i:=5) sc__law_stands.nd rfl (Or.inl rfl) (zT yh (zu zH (zc (pv 1)) (wt (zb wR zm))) (zc (pv 2)))) (zn (yL (jJ (YV (zY (jU hr.units) (wa av (hr.mono (by decide)) (pv 0)) (zc (pv 5)) (z7 _)) (YV (zY (jU hr.units) (wa aw (hr.mono (by decide)) (pv 0)) (zJ aq (hr.mono (by decide)) (zb (zc (pv 1)) (zb (zc (pv 2)) (zb (zc (pv 3)) zm))) (zg (zg (zg zq)))) (z7 _)) (Yv (zY (jU hr.units) (wa aD (hr.mono (by decide)) (pv 0)) (zc (pv 4)) (z7 _)))))) (zo (zR wT)) z0) (zn (Mc f_Pager_page (hr.mono (by decide)) (pv 0) wR) (zo (zR (vO (xl hr.units) (wa aw (hr.mono (by decide)) (pv 0)) (zJ aq (hr.mono (by decide)) (zb (zc (pv 1)) (zb (zc (pv 2)) (zb (zc (pv 3)) zm))) (zg (zg (zg zq)))) (z7 _))))))))
noncomputable abbrev x8:Stmt:=top 41
theorem WN:zF ["_law_sign"] ["_law_sign"] (zh x8):=⟨rfl,rfl,rfl,by decide +kernel,rfl,by decide +kernel,by decide +kernel⟩
theorem W7{f:Addr}{fd:FuncData}(A_:yc K mg "_law_mark" x8 f fd):DefOk P w K mg base "_law_mark" 1 1 ["_law_sign"] xF:=by
 refine DefOk.mk (k:=0) A_ WN rfl (fun _ _ _ _ _ _ us hl=>by obtain⟨_,rfl⟩:=lnz1 hl;rfl) (fun cdv A outer s H E hr=>?_) fun _ _ _ h=>h
 exact(zo (zR (vO (jV (uv hr)) (zc (pv 0)) yY (by with_unfolding_all rfl))))
noncomputable abbrev xK:Stmt:=top 43
theorem sc__law_query:zF ["_law_script", "_law_at", "_law_name_here", "_law_most", "_law_found", "_law_place", "_law_k", "_law_sign"] ["_law_script", "_law_at", "_law_name_here", "_law_most"] (zh xK):=⟨rfl,rfl,rfl,by decide +kernel,rfl,by decide +kernel,by decide +kernel⟩
theorem XX{f:Addr}{fd:FuncData}(A_:yc K mg "_law_query" xK f fd)(ai:DefOk P w K mg base "_law_drawn" 2 3 ["_law_script", "_law_k", "_law_many"] zx)(br:DefOk P w K mg base "_law_mark" 1 1 ["_law_sign"] xF)(af:mg "range" = none)(ae:mg "len" = none)(al:mg "min" = none):DefOk P w K mg base "_law_query" 3 4 ["_law_script", "_law_at", "_law_name_here", "_law_most"] xN:=by
 refine DefOk.mk (k:=2) A_ sc__law_query rfl (fun _ _ _ _ _ _ us hl=>by obtain⟨_,_,_,_,rfl⟩:=lnz4 hl;rfl) (fun cdv A outer s H E hr=>?_) fun _ _ _ h=>h
 exact(zn (zL (i:=4) sc__law_query.nd rfl (Or.inl rfl) yY) (zn (zL (i:=5) sc__law_query.nd rfl (Or.inl rfl) zj) (zn (vM PassesOwn.never rfl (ve rfl af (zb (zJ ai (hr.mono (by decide)) (zb (zc (pv 0)) (zb (zc (pv 1)) (zb (zu zH (zc (pv 3)) zj) zm))) (zg (zg (zg zq)))) zm)) (yV sc__law_query.nd rfl (Or.inl rfl)) (zn (zL (i:=5) sc__law_query.nd rfl (Or.inl rfl) (zP (YG rfl) rfl al boot_min (zb (zu uB (zP xA rfl ae PySem.boot_len (zb (zc (pv 2)) zm)) zj) (zb (zu zH (zc (pv 5)) (zJ ai (hr.mono (by decide)) (zb (zc (pv 0)) (zb (zu zH (zu zH (zc (pv 1)) zj) (zu xj zj (zc (pv 6)))) (zb zj zm))) (zg (zg (zg zq))))) zm)))) (zn (zL (i:=7) sc__law_query.nd rfl (Or.inl rfl) (QR (Me (UW (zc (pv 2)) (u7 (zc (pv 5))) (u7 (zu zH (zc (pv 5)) zj))) (Zg yY)))) (zn (zL (i:=5) sc__law_query.nd rfl (Or.inl rfl) (zu zH (zc (pv 5)) zj)) (zn (yL (zY (xl hr.units) (zJ ai (hr.mono (by decide)) (zb (zc (pv 0)) (zb (zu zH (zu zH (zc (pv 1)) zj) (zu xj zj (zc (pv 6)))) (zb zj zm))) (zg (zg (zg zq)))) zj (z7 _)) (zo (zL (i:=7) sc__law_query.nd rfl (Or.inl rfl) (zT yh yY (zJ ai (hr.mono (by decide)) (zb (zc (pv 0)) (zb (zu zH (zu zH (zc (pv 1)) zj) (zu xj zj (zc (pv 6)))) (zb zj zm))) (zg (zg (zg zq))))))) z0) (zo (yL (WZ (Ze (zJ br (hr.mono (by decide)) (zb (zc (pv 7)) zm) (zg zq)))) (zo (zL (i:=4) sc__law_query.nd rfl (Or.inl rfl) (zu zH (zc (pv 4)) (zc (pv 7))))) z0))))))) (zo (zR (zc (pv 4)))))))
noncomputable abbrev Za:Stmt:=top 48
theorem sc_law:zF ["_law_script", "_law_names_here", "_law_size", "_law_pager", "_law_other", "_law_rows", "_law_place", "_law_k", "_law_way", "_law_by", "_law_some", "_law_query_here", "_law_before", "_law_numbers"] ["_law_script"] (zh Za):=⟨rfl,rfl,rfl,by decide +kernel,rfl,by decide +kernel,by decide +kernel⟩
theorem zj4{f:Addr}{fd:FuncData}(A_:Fun K "law" "law" Za f fd)(aH:DefR P w K mg base "_law_stands" "Pager" 2 0 3 ["_law_pager", "_law_rows", "_law_place", "_law_size"] yC)(ao:DefM P w K mg base "_law_told" "Pager" 9 0 2 ["_law_pager", "_law_way", "_law_thing"] zK)(ax:ClsM P w K mg base "Pager" 8 2 ["self", "names", "size"] z9)(ak:DefOk P w K mg base "finds" 7 3 ["names", "query", "many"] yF)(bu:DefOk P w K mg base "_law_turns" 10 0 [] xq)(ai:DefOk P w K mg base "_law_drawn" 2 3 ["_law_script", "_law_k", "_law_many"] zx)(bv:DefOk P w K mg base "_law_query" 3 4 ["_law_script", "_law_at", "_law_name_here", "_law_most"] xN)(aq:DefOk P w K mg base "_law_page" 1 3 ["_law_rows", "_law_place", "_law_size"] yr)(bw:DefOk P w K mg base "_law_names" 4 3 ["_law_script", "_law_at", "_law_most"] xO)(ae:mg "len" = none)(al:mg "min" = none)(ar:mg "max" = none)(af:mg "range" = none):FnOk P w K mg base CX0 11 f fd ["_law_script"] (spD K 1 JY):=by
 refine fnD (k:=10) A_ sc_law rfl fun cdv A outer s H E hr=>?_
 exact(zn (zL (i:=1) sc_law.nd rfl (Or.inl rfl) (zJ bw (hr.mono (by decide)) (zb (zc (pv 0)) (zb zj (zb zj zm))) (zg (zg (zg zq))))) (zn (zL (i:=2) sc_law.nd rfl (Or.inl rfl) (zu zH zj (zJ ai (hr.mono (by decide)) (zb (zc (pv 0)) (zb zj (zb zj zm))) (zg (zg (zg zq)))))) (zn (Y1 (i:=3) ax (hr.mono (by decide)) rfl (zb (zc (pv 1)) (zb (zc (pv 2)) zm)) (zg (zg zq)) sc_law.nd rfl (Or.inl rfl)) (zn (Y1 (i:=4) ax (hr.mono (by decide)) rfl (zb (zc (pv 1)) (zb (zc (pv 2)) zm)) (zg (zg zq)) sc_law.nd rfl (Or.inl rfl)) (zn (zL (i:=5) sc_law.nd rfl (Or.inl rfl) (zJ ak (hr.mono (by decide)) (zb (zc (pv 1)) (zb yY (zb zj zm))) (zg (zg (zg zq))))) (zn (zL (i:=6) sc_law.nd rfl (Or.inl rfl) zj) (zn (vM PassesOwn.never rfl (ve rfl af (zb (zP (Vn rfl) rfl ar boot_max (zb zj (zb (zP (YG rfl) rfl al boot_min (zb zj (zb (zP xA rfl ae PySem.boot_len (zb (zc (pv 0)) zm)) zm))) zm))) zm)) (yV sc_law.nd rfl (Or.inl rfl)) (zn (yL (WZ (Ze (Y4 aH (hr.mono (by decide)) (wA (pv 3) (zb (zc (pv 5)) (zb (zc (pv 6)) (zb (zc (pv 2)) zm)))) zq (fun τ ds h=>by have:=(zg (zg (zg zq))) τ ds h;lia)))) (zo (zR wT)) z0) (zn (zL (i:=8) sc_law.nd rfl (Or.inl rfl) (zJ ai (hr.mono (by decide)) (zb (zc (pv 0)) (zb (zu zH zj (zu xj zj (zc (pv 7)))) (zb zj zm))) (zg (zg (zg zq))))) (zn (zL (i:=9) sc_law.nd rfl (Or.inl rfl) (zu uB (zJ ai (hr.mono (by decide)) (zb (zc (pv 0)) (zb (zu zH zj (zu xj zj (zc (pv 7)))) (zb zj zm))) (zg (zg (zg zq)))) zj)) (zo (yL (zY (xl hr.units) (zc (pv 8)) zj (z7 _)) (zn (zL (i:=10) sc_law.nd rfl (Or.inl rfl) (zu zH (zc (pv 1)) (wt (zb yY zm)))) (zn (zL (i:=11) sc_law.nd rfl (Or.inl rfl) (zJ bv (hr.mono (by decide)) (zb (zc (pv 0)) (zb (zu zH zj (zu xj zj (zc (pv 7)))) (zb (zT yh (zc (pv 10)) (zJ ai (hr.mono (by decide)) (zb (zc (pv 0)) (zb (zu zH zj (zu xj zj (zc (pv 7)))) (zb (zP xA rfl ae PySem.boot_len (zb (zc (pv 10)) zm)) zm))) (zg (zg (zg zq))))) (zb zj zm)))) (zg (zg (zg (zg zq)))))) (zn (zL (i:=12) sc_law.nd rfl (Or.inl rfl) (zT yh (zu zH (zc (pv 5)) (wt (zb wR zm))) (zc (pv 6)))) (zn (zL (i:=5) sc_law.nd rfl (Or.inl rfl) (zJ ak (hr.mono (by decide)) (zb (zc (pv 1)) (zb (zc (pv 11)) (zb zj zm))) (zg (zg (zg zq))))) (zn (VW (i:=13) sc_law.nd rfl rfl rfl (tn:=["_law_row"]) (fr:=[]) (idx:=[]) rfl rfl trivial (ua 0) (vi (zc (pv 5))) (fun s H C fp=>(yV (show List.Nodup (["_law_row"]:List Str) by decide +kernel) rfl (Or.inl rfl))) (fun s H C fp=>vA) (fun s H C fp=>(zT yh (zc (pv 0)) zj))) (zn (zL (i:=6) sc_law.nd rfl (Or.inl rfl) zj) (zn (yL (jJ (ju (zY uc (zc (pv 12)) wR (z7 _)) (ub (zY (jV (uv hr)) (zT yh (zc (pv 12)) zj) (zc (pv 13)) (by with_unfolding_all rfl))))) (zo (zL (i:=6) sc_law.nd rfl (Or.inl rfl) (zi3 F.plainAttrs_list F.slot_list_index F.type_list_index zk6 (zc (pv 13)) (zb (zT yh (zc (pv 12)) zj) zm)))) z0) (zo (Zf (u6 uc (uz ao (hr.mono (by decide)) (wA (pv 3) (zb zj (zb (zc (pv 11)) zm))) zq (fun τ ds h=>by have:=(zg (zg zq)) τ ds h;lia)) wR (z7 _)) (zo (zR wT)) z0))))))))) (zo (yL (jJ (ju (zY (xl hr.units) (zc (pv 8)) zj (z7 _)) (ub (zY (jU hr.units) (zc (pv 5)) (wt zm) (z7 _))))) (zn (zL (i:=6) sc_law.nd rfl (Or.inl rfl) (zu vo (zu zH (zc (pv 6)) (zc (pv 9))) (zP xA rfl ae PySem.boot_len (zb (zc (pv 5)) zm)))) (zo (Zf (u6 (jU hr.units) (uz ao (hr.mono (by decide)) (wA (pv 3) (zb zj (zb (zc (pv 9)) zm))) zq (fun τ ds h=>by have:=(zg (zg zq)) τ ds h;lia)) (zT yh (zc (pv 5)) (zc (pv 6))) (z7 _)) (zo (zR wT)) z0))) (zo (yL (jJ (ju (zY (xl hr.units) (zc (pv 8)) zj (z7 _)) (ub (QJ zi6 Mp zj (zu xj (zu zH (zu xQ (zc (pv 6)) (zc (pv 2))) (zc (pv 9))) (zc (pv 2))) (zP xA rfl ae PySem.boot_len (zb (zc (pv 5)) zm)))))) (zn (zL (i:=6) sc_law.nd rfl (Or.inl rfl) (zu xj (zu zH (zu xQ (zc (pv 6)) (zc (pv 2))) (zc (pv 9))) (zc (pv 2)))) (zo (Zf (u6 (jU hr.units) (uz ao (hr.mono (by decide)) (wA (pv 3) (zb zj (zb (zc (pv 9)) zm))) zq (fun τ ds h=>by have:=(zg (zg zq)) τ ds h;lia)) (zJ aq (hr.mono (by decide)) (zb (zc (pv 5)) (zb (zc (pv 6)) (zb (zc (pv 2)) zm))) (zg (zg (zg zq)))) (z7 _)) (zo (zR wT)) z0))) (zo (Zf (u6 UZ (uz ao (hr.mono (by decide)) (wA (pv 3) (zb (zc (pv 8)) (zb (zc (pv 9)) zm))) zq (fun τ ds h=>by have:=(zg (zg zq)) τ ds h;lia)) wT (z7 _)) (zo (zR wT)) z0)))))))))))) (zn (yL (WZ (Ze (Mh bu (hr.mono (by decide))))) (zo (zR wT)) z0) (zo (zR (W0 (Y4 aH (hr.mono (by decide)) (wA (pv 3) (zb (zc (pv 5)) (zb (zc (pv 6)) (zb (zc (pv 2)) zm)))) zq (fun τ ds h=>by have:=(zg (zg (zg zq))) τ ds h;lia)) (Zg (Y4 aH (hr.mono (by decide)) (wA (pv 4) (zb (zJ ak (hr.mono (by decide)) (zb (zc (pv 1)) (zb yY (zb zj zm))) (zg (zg (zg zq)))) (zb zj (zb (zc (pv 2)) zm)))) zq (fun τ ds h=>by have:=(zg (zg (zg zq))) τ ds h;lia))))))))))))))
end
theorem all_mk{l:PySem.W.OpenLaw}{w:World}{K:Frag}{h:Heap}{mg:Str→Option Value}{fa:Addr}(X:K.In h)(G:h.Ns mainGlobals mg)(hfa:mg "law" = some (.ref fa))(hl:∀ns:List Int,ns.length≤63→JY [.scr ns]=.ok (.bl true))
  {f0 f1 f2 f3 f4 f5 f6 f7 f8 f9 f10 f11 f12 f13 f14 f15 f16 f17 f18 f19 f20 f21 f22 f23 f24 f25 f26 f27 f28 f29 f30 f31 f32:Addr} {od0 an0 od1 an1 od2 an2 od3 an3 od4 an4 od5 an5 od6 an6 od7 an7 od8 an8 od9 an9 od10 an10 od11 an11 od12 an12 od13 an13 od14 an14 od15 an15 od16 an16 od17 an17 od18 an18 od19 an19 od20 an20 od21 an21 od22 an22 od23 an23 od24 an24 od25 an25 od26 an26 od27 an27 od28 an28 od29 an29 od30 an30 od31 an31 od32 an32:Option Addr} {sl0 sl1 sl2 sl3 sl4 sl5 sl6 sl7 sl8 sl9 sl10 sl11 sl12 sl13 sl14 sl15 sl16 sl17 sl18 sl19 sl20 sl21 sl22 sl23 sl24 sl25 sl26 sl27 sl28 sl29 sl30 sl31 sl32:Array (Option Value)} {oc0 kV0 dc0 pm0 ct0 cd0 oc1 kV1 dc1 pm1 ct1 cd1 oc2 kV2 dc2 pm2 ct2 cd2 oc3 kV3 dc3 pm3 ct3 cd3 oc4 kV4 dc4 pm4 ct4 oc5 kV5 dc5 pm5 ct5 cd5 oc6 kV6 dc6 pm6 ct6 cd6 oc7 kV7 dc7 pm7 ct7 cd7 oc8 kV8 dc8 pm8 ct8 cd8 oc9 kV9 dc9 pm9 ct9 cd9 oc10 kV10 dc10 pm10 ct10 cd10 oc11 kV11 dc11 pm11 ct11 cd11 oc12 kV12 dc12 pm12 ct12 cd12 oc13 kV13 dc13 pm13 ct13 cd13 oc14 kV14 dc14 pm14 ct14 cd14 oc15 kV15 dc15 pm15 ct15 cd15 oc16 kV16 dc16 pm16 ct16 cd16 oc17 kV17 dc17 pm17 ct17 cd17 oc18 kV18 dc18 pm18 ct18 cd18 oc19 kV19 dc19 pm19 ct19 cd19 oc20 kV20 dc20 pm20 ct20 cd20 oc21 kV21 dc21 pm21 ct21 cd21 oc22 kV22 dc22 pm22 ct22 cd22 oc23 kV23 dc23 pm23 ct23 cd23 oc24 kV24 dc24 pm24 ct24 cd24 oc25 kV25 dc25 pm25 ct25 cd25 oc26 kV26 dc26 pm26 ct26 cd26 oc27 kV27 dc27 pm27 ct27 cd27 oc28 kV28 dc28 pm28 ct28 cd28 oc29 kV29 dc29 pm29 ct29 cd29 oc30 kV30 dc30 pm30 ct30 cd30 oc31 kV31 dc31 pm31 ct31 cd31 oc32 kV32 dc32 pm32 ct32 cd32:Value} {t_FIGURES t_SMALL t_GREAT t_AT_GREAT t_MARKS t_BEHIND_MARK t_AT_BEGINNING t_EACH_PLACE t_SAME_SIGN t_MOST_BETWEEN t_BESIDE t_MOST_AHEAD:Tok}
  {cc4:Addr}
  {C_Pager:Addr}
  (ns_Pager:nsIn K mainGlobals "Pager" = some (some (.ref C_Pager)))
  (pg_Pager:plainGet K C_Pager Str.empty=true)
  (hd_Pager:hasDictIn K C_Pager=true)
  (po_Pager:plainOver K C_Pager=true)
  (sa_Pager:findIn K (.ref C_Pager) "__setattr__" = some (some (.builtin "object.__setattr__")))
  (mk_Pager:makesIn K C_Pager=true)
  (kc_Pager:keepIn K (.ref C_Pager)=true)
  (ag:findIn K (.ref C_Pager) "place" = some none)
  (au:findIn K (.ref C_Pager) "names" = some none)
  (ah:findIn K (.ref C_Pager) "rows" = some none)
  (aj:findIn K (.ref C_Pager) "size" = some none)
  (a0:nsIn K mainGlobals "_law_cell" = some (some (.ref f0))) (l0:K.lookup f0=some ⟨oc0,od0,.func (fnOf "_law_cell" "_law_cell" (zG x9) (zC x9) (zh x9) .none kV0 dc0 pm0 an0 cd0 ct0),sl0⟩) (c0:codeIn K cd0 "_law_cell" = true) (k0:keepIn K (.ref f0)=true)
  (a1:nsIn K mainGlobals "_law_drawn" = some (some (.ref f1))) (l1:K.lookup f1=some ⟨oc1,od1,.func (fnOf "_law_drawn" "_law_drawn" (zG xM) (zC xM) (zh xM) .none kV1 dc1 pm1 an1 cd1 ct1),sl1⟩) (c1:codeIn K cd1 "_law_drawn" = true) (k1:keepIn K (.ref f1)=true)
  (a2:nsIn K mainGlobals "_law_name" = some (some (.ref f2))) (l2:K.lookup f2=some ⟨oc2,od2,.func (fnOf "_law_name" "_law_name" (zG x6) (zC x6) (zh x6) .none kV2 dc2 pm2 an2 cd2 ct2),sl2⟩) (c2:codeIn K cd2 "_law_name" = true) (k2:keepIn K (.ref f2)=true)
  (a3:nsIn K mainGlobals "_law_names" = some (some (.ref f3))) (l3:K.lookup f3=some ⟨oc3,od3,.func (fnOf "_law_names" "_law_names" (zG xL) (zC xL) (zh xL) .none kV3 dc3 pm3 an3 cd3 ct3),sl3⟩) (c3:codeIn K cd3 "_law_names" = true) (k3:keepIn K (.ref f3)=true)
  (a4:nsIn K mainGlobals "in_order" = some (some (.ref f4))) (l4:K.lookup f4=some ⟨oc4,od4,.func (fnOf "in_order" "in_order" (zG vd) (zC vd) (zh vd) .none kV4 dc4 pm4 an4 (.ref cc4) ct4),sl4⟩) (c4:codeIn K (.ref cc4) "in_order" = true) (k4:keepIn K (.ref f4)=true) (tb4:PySem.W.codeHdIn K cc4 136=true)
  (a5:nsIn K mainGlobals "first_rows" = some (some (.ref f5))) (l5:K.lookup f5=some ⟨oc5,od5,.func (fnOf "first_rows" "first_rows" (zG xI) (zC xI) (zh xI) .none kV5 dc5 pm5 an5 cd5 ct5),sl5⟩) (c5:codeIn K cd5 "first_rows" = true) (k5:keepIn K (.ref f5)=true)
  (a6:nsIn K mainGlobals "beginning_points" = some (some (.ref f6))) (l6:K.lookup f6=some ⟨oc6,od6,.func (fnOf "beginning_points" "beginning_points" (zG yw) (zC yw) (zh yw) .none kV6 dc6 pm6 an6 cd6 ct6),sl6⟩) (c6:codeIn K cd6 "beginning_points" = true) (k6:keepIn K (.ref f6)=true)
  (a7:nsIn K mainGlobals "own_points" = some (some (.ref f7))) (l7:K.lookup f7=some ⟨oc7,od7,.func (fnOf "own_points" "own_points" (zG xH) (zC xH) (zh xH) .none kV7 dc7 pm7 an7 cd7 ct7),sl7⟩) (c7:codeIn K cd7 "own_points" = true) (k7:keepIn K (.ref f7)=true)
  (a8:nsIn K mainGlobals "meets" = some (some (.ref f8))) (l8:K.lookup f8=some ⟨oc8,od8,.func (fnOf "meets" "meets" (zG ur) (zC ur) (zh ur) .none kV8 dc8 pm8 an8 cd8 ct8),sl8⟩) (c8:codeIn K cd8 "meets" = true) (k8:keepIn K (.ref f8)=true)
  (a9:nsIn K mainGlobals "last_sign_tails" = some (some (.ref f9))) (l9:K.lookup f9=some ⟨oc9,od9,.func (fnOf "last_sign_tails" "last_sign_tails" (zG yD) (zC yD) (zh yD) .none kV9 dc9 pm9 an9 cd9 ct9),sl9⟩) (c9:codeIn K cd9 "last_sign_tails" = true) (k9:keepIn K (.ref f9)=true)
  (a10:nsIn K mainGlobals "first_of_most" = some (some (.ref f10))) (l10:K.lookup f10=some ⟨oc10,od10,.func (fnOf "first_of_most" "first_of_most" (zG yS) (zC yS) (zh yS) .none kV10 dc10 pm10 an10 cd10 ct10),sl10⟩) (c10:codeIn K cd10 "first_of_most" = true) (k10:keepIn K (.ref f10)=true)
  (a11:nsIn K mainGlobals "link_points" = some (some (.ref f11))) (l11:K.lookup f11=some ⟨oc11,od11,.func (fnOf "link_points" "link_points" (zG xu) (zC xu) (zh xu) .none kV11 dc11 pm11 an11 cd11 ct11),sl11⟩) (c11:codeIn K cd11 "link_points" = true) (k11:keepIn K (.ref f11)=true)
  (a12:nsIn K mainGlobals "linked_tails" = some (some (.ref f12))) (l12:K.lookup f12=some ⟨oc12,od12,.func (fnOf "linked_tails" "linked_tails" (zG xb) (zC xb) (zh xb) .none kV12 dc12 pm12 an12 cd12 ct12),sl12⟩) (c12:codeIn K cd12 "linked_tails" = true) (k12:keepIn K (.ref f12)=true)
  (a13:nsIn K mainGlobals "longer_tails" = some (some (.ref f13))) (l13:K.lookup f13=some ⟨oc13,od13,.func (fnOf "longer_tails" "longer_tails" (zG y9) (zC y9) (zh y9) .none kV13 dc13 pm13 an13 cd13 ct13),sl13⟩) (c13:codeIn K cd13 "longer_tails" = true) (k13:keepIn K (.ref f13)=true)
  (a14:nsIn K mainGlobals "lead_points" = some (some (.ref f14))) (l14:K.lookup f14=some ⟨oc14,od14,.func (fnOf "lead_points" "lead_points" (zG xw) (zC xw) (zh xw) .none kV14 dc14 pm14 an14 cd14 ct14),sl14⟩) (c14:codeIn K cd14 "lead_points" = true) (k14:keepIn K (.ref f14)=true)
  (a15:nsIn K mainGlobals "best" = some (some (.ref f15))) (l15:K.lookup f15=some ⟨oc15,od15,.func (fnOf "best" "best" (zG jQ) (zC jQ) (zh jQ) .none kV15 dc15 pm15 an15 cd15 ct15),sl15⟩) (c15:codeIn K cd15 "best" = true) (k15:keepIn K (.ref f15)=true)
  (a16:nsIn K mainGlobals "fitting_rows" = some (some (.ref f16))) (l16:K.lookup f16=some ⟨oc16,od16,.func (fnOf "fitting_rows" "fitting_rows" (zG xc) (zC xc) (zh xc) .none kV16 dc16 pm16 an16 cd16 ct16),sl16⟩) (c16:codeIn K cd16 "fitting_rows" = true) (k16:keepIn K (.ref f16)=true)
  (a17:nsIn K mainGlobals "all_rows" = some (some (.ref f17))) (l17:K.lookup f17=some ⟨oc17,od17,.func (fnOf "all_rows" "all_rows" (zG wE) (zC wE) (zh wE) .none kV17 dc17 pm17 an17 cd17 ct17),sl17⟩) (c17:codeIn K cd17 "all_rows" = true) (k17:keepIn K (.ref f17)=true)
  (a18:nsIn K mainGlobals "finds" = some (some (.ref f18))) (l18:K.lookup f18=some ⟨oc18,od18,.func (fnOf "finds" "finds" (zG ut) (zC ut) (zh ut) .none kV18 dc18 pm18 an18 cd18 ct18),sl18⟩) (c18:codeIn K cd18 "finds" = true) (k18:keepIn K (.ref f18)=true)
  (a19:findIn K (.ref C_Pager) "__init__" = some (some (.ref f19))) (i19:isFn K (.ref f19)=true) (l19:K.lookup f19=some ⟨oc19,od19,.func (fnOf "__init__" "Pager.__init__" (zG y7) (zC y7) (zh y7) .none kV19 dc19 pm19 an19 cd19 ct19),sl19⟩) (c19:codeIn K cd19 "Pager.__init__" = true) (k19:keepIn K (.ref f19)=true)
  (a20:findIn K (.ref C_Pager) "page" = some (some (.ref f20))) (i20:isFn K (.ref f20)=true) (l20:K.lookup f20=some ⟨oc20,od20,.func (fnOf "page" "Pager.page" (zG wm) (zC wm) (zh wm) .none kV20 dc20 pm20 an20 cd20 ct20),sl20⟩) (c20:codeIn K cd20 "Pager.page" = true) (k20:keepIn K (.ref f20)=true)
  (a21:findIn K (.ref C_Pager) "pages" = some (some (.ref f21))) (i21:isFn K (.ref f21)=true) (l21:K.lookup f21=some ⟨oc21,od21,.func (fnOf "pages" "Pager.pages" (zG xT) (zC xT) (zh xT) .none kV21 dc21 pm21 an21 cd21 ct21),sl21⟩) (c21:codeIn K cd21 "Pager.pages" = true) (k21:keepIn K (.ref f21)=true)
  (a22:findIn K (.ref C_Pager) "turn" = some (some (.ref f22))) (i22:isFn K (.ref f22)=true) (l22:K.lookup f22=some ⟨oc22,od22,.func (fnOf "turn" "Pager.turn" (zG wj) (zC wj) (zh wj) .none kV22 dc22 pm22 an22 cd22 ct22),sl22⟩) (c22:codeIn K cd22 "Pager.turn" = true) (k22:keepIn K (.ref f22)=true)
  (a23:findIn K (.ref C_Pager) "pointed" = some (some (.ref f23))) (i23:isFn K (.ref f23)=true) (l23:K.lookup f23=some ⟨oc23,od23,.func (fnOf "pointed" "Pager.pointed" (zG xm) (zC xm) (zh xm) .none kV23 dc23 pm23 an23 cd23 ct23),sl23⟩) (c23:codeIn K cd23 "Pager.pointed" = true) (k23:keepIn K (.ref f23)=true)
  (a24:findIn K (.ref C_Pager) "ask" = some (some (.ref f24))) (i24:isFn K (.ref f24)=true) (l24:K.lookup f24=some ⟨oc24,od24,.func (fnOf "ask" "Pager.ask" (zG wJ) (zC wJ) (zh wJ) .none kV24 dc24 pm24 an24 cd24 ct24),sl24⟩) (c24:codeIn K cd24 "Pager.ask" = true) (k24:keepIn K (.ref f24)=true)
  (a25:findIn K (.ref C_Pager) "move" = some (some (.ref f25))) (i25:isFn K (.ref f25)=true) (l25:K.lookup f25=some ⟨oc25,od25,.func (fnOf "move" "Pager.move" (zG wn) (zC wn) (zh wn) .none kV25 dc25 pm25 an25 cd25 ct25),sl25⟩) (c25:codeIn K cd25 "Pager.move" = true) (k25:keepIn K (.ref f25)=true)
  (a26:nsIn K mainGlobals "_law_told" = some (some (.ref f26))) (l26:K.lookup f26=some ⟨oc26,od26,.func (fnOf "_law_told" "_law_told" (zG xZ) (zC xZ) (zh xZ) .none kV26 dc26 pm26 an26 cd26 ct26),sl26⟩) (c26:codeIn K cd26 "_law_told" = true) (k26:keepIn K (.ref f26)=true)
  (a27:nsIn K mainGlobals "_law_page" = some (some (.ref f27))) (l27:K.lookup f27=some ⟨oc27,od27,.func (fnOf "_law_page" "_law_page" (zG x0) (zC x0) (zh x0) .none kV27 dc27 pm27 an27 cd27 ct27),sl27⟩) (c27:codeIn K cd27 "_law_page" = true) (k27:keepIn K (.ref f27)=true)
  (a28:nsIn K mainGlobals "_law_turns" = some (some (.ref f28))) (l28:K.lookup f28=some ⟨oc28,od28,.func (fnOf "_law_turns" "_law_turns" (zG xJ) (zC xJ) (zh xJ) .none kV28 dc28 pm28 an28 cd28 ct28),sl28⟩) (c28:codeIn K cd28 "_law_turns" = true) (k28:keepIn K (.ref f28)=true)
  (a29:nsIn K mainGlobals "_law_stands" = some (some (.ref f29))) (l29:K.lookup f29=some ⟨oc29,od29,.func (fnOf "_law_stands" "_law_stands" (zG xx) (zC xx) (zh xx) .none kV29 dc29 pm29 an29 cd29 ct29),sl29⟩) (c29:codeIn K cd29 "_law_stands" = true) (k29:keepIn K (.ref f29)=true)
  (a30:nsIn K mainGlobals "_law_mark" = some (some (.ref f30))) (l30:K.lookup f30=some ⟨oc30,od30,.func (fnOf "_law_mark" "_law_mark" (zG x8) (zC x8) (zh x8) .none kV30 dc30 pm30 an30 cd30 ct30),sl30⟩) (c30:codeIn K cd30 "_law_mark" = true) (k30:keepIn K (.ref f30)=true)
  (a31:nsIn K mainGlobals "_law_query" = some (some (.ref f31))) (l31:K.lookup f31=some ⟨oc31,od31,.func (fnOf "_law_query" "_law_query" (zG xK) (zC xK) (zh xK) .none kV31 dc31 pm31 an31 cd31 ct31),sl31⟩) (c31:codeIn K cd31 "_law_query" = true) (k31:keepIn K (.ref f31)=true)
  (a32:nsIn K mainGlobals "law" = some (some (.ref f32))) (l32:K.lookup f32=some ⟨oc32,od32,.func (fnOf "law" "law" (zG Za) (zC Za) (zh Za) .none kV32 dc32 pm32 an32 cd32 ct32),sl32⟩) (c32:codeIn K cd32 "law" = true) (k32:keepIn K (.ref f32)=true)
  {C_NoNumber:Addr}
  {C_NoText:Addr}
  {C_NoFit:Addr}
  {C_FindError:Addr}
  (bx:nsIn K mainGlobals "NoNumber" = some (some (.ref C_NoNumber)))
  (e_NoNumber:excIn K C_NoNumber VE "ValueError.__new__" = true)
  (bz:nsIn K mainGlobals "NoText" = some (some (.ref C_NoText)))
  (e_NoText:excIn K C_NoText VE "ValueError.__new__" = true)
  (bA:nsIn K mainGlobals "NoFit" = some (some (.ref C_NoFit)))
  (e_NoFit:excIn K C_NoFit VE "ValueError.__new__" = true)
  (bB:nsIn K mainGlobals "FindError" = some (some (.ref C_FindError)))
  (e_FindError:excIn K C_FindError VE "ValueError.__new__" = true)
  (ka_NoNumber:findIn K (.ref C_NoNumber) "__getattribute__" = some (some (.builtin "BaseException.__getattribute__")))
  (kb_NoNumber:findIn K (.ref C_NoNumber) "__getattr__" = some none)
  (kc_NoNumber:findObj K C_NoNumber none "__class__" = some (Builtin.ObjectAttr.Found.bind (.builtin "getset_descriptor.__get__") (.builtin "object.__class__")))
  (kd_NoNumber:mroIn K C_NoNumber (.type "object")=some true)
  (ke_NoNumber:mroIn K C_NoNumber (.type "BaseException")=some true)
  (kf_NoNumber:typeIn K (.ref C_NoNumber)=some (.type "type"))
  (kg_NoNumber:kitCls K (.ref C_NoNumber) (.ref C_NoNumber)=some true)
  (q_NoNumber_ValueError:kitOne K (.ref C_NoNumber) (.type "ValueError")=some true)
  (q_NoNumber_NoText:kitOne K (.ref C_NoNumber) (.ref C_NoText)=some false)
  (q_NoNumber_NoFit:kitOne K (.ref C_NoNumber) (.ref C_NoFit)=some false)
  (q_NoNumber_NoNumber:kitOne K (.ref C_NoNumber) (.ref C_NoNumber)=some true)
  (x_NoNumber_FindError:exmOne K (.ref C_NoNumber) (.ref C_FindError)=some true)
  (aM:nsIn K mainGlobals "FIGURES" = some (some (.str "0123456789" t_FIGURES)))
  (ay:nsIn K mainGlobals "SMALL" = some (some (.str "abcdefghijklmnopqrstuvwxyz" t_SMALL)))
  (aN:nsIn K mainGlobals "GREAT" = some (some (.str "ABCDEFGHIJKLMNOPQRSTUVWXYZ" t_GREAT)))
  (aO:nsIn K mainGlobals "AT_GREAT" = some (some (.int 5 t_AT_GREAT)))
  (aP:nsIn K mainGlobals "MARKS" = some (some (.str "_-./" t_MARKS)))
  (aQ:nsIn K mainGlobals "BEHIND_MARK" = some (some (.int 6 t_BEHIND_MARK)))
  (aR:nsIn K mainGlobals "AT_BEGINNING" = some (some (.int 8 t_AT_BEGINNING)))
  (aT:nsIn K mainGlobals "EACH_PLACE" = some (some (.int 10 t_EACH_PLACE)))
  (aU:nsIn K mainGlobals "SAME_SIGN" = some (some (.int 1 t_SAME_SIGN)))
  (aV:nsIn K mainGlobals "MOST_BETWEEN" = some (some (.int 5 t_MOST_BETWEEN)))
  (aW:nsIn K mainGlobals "BESIDE" = some (some (.int 7 t_BESIDE)))
  (aZ:nsIn K mainGlobals "MOST_AHEAD" = some (some (.int 3 t_MOST_AHEAD)))
  (ae:nsIn K mainGlobals "len" = some none)
  (af:nsIn K mainGlobals "range" = some none)
  (aK:nsIn K mainGlobals "sorted" = some none)
  (ar:nsIn K mainGlobals "max" = some none)
  (al:nsIn K mainGlobals "min" = some none)
  (aC:nsIn K mainGlobals "list" = some none)
  (aE:nsIn K mainGlobals "enumerate" = some none)
  (aG:nsIn K mainGlobals "isinstance" = some none)
  (bo:nsIn K mainGlobals "ValueError" = some none)
  (bq:nsIn K mainGlobals "int" = some none)
  : Tz K∧∃fd:FuncData,(∀(s:Shared) (v:Value),BindsTo s fd ⟨[v],[]⟩ [("_law_script", v)])∧∀base:Heap,K.In base→base.Ns mainGlobals mg→BM mg base→FnOk l.prog w K mg base CX0 11 fa fd ["_law_script"] (Jx K):=by
 have e:=hfa.symm.trans (mg_of X G a32)
 replace e:=PySem.Value.ref.inj (Option.some.inj e);subst e
 refine⟨fun r hr=>?_,?_⟩
 ·rcases hr with _|⟨_,hr⟩
  ·exact⟨_,tb4⟩
  ·cases hr
 have ad:ClsAt K mg "Pager" C_Pager:=⟨ns_Pager,⟨pg_Pager,hd_Pager,po_Pager,sa_Pager⟩,mg_of X G ns_Pager⟩
 have D0:yc K mg "_law_cell" x9 f0 _:=⟨yu (st:=x9) l0 c0 k0,mg_of X G a0⟩
 have D1:yc K mg "_law_drawn" xM f1 _:=⟨yu (st:=xM) l1 c1 k1,mg_of X G a1⟩
 have D2:yc K mg "_law_name" x6 f2 _:=⟨yu (st:=x6) l2 c2 k2,mg_of X G a2⟩
 have D3:yc K mg "_law_names" xL f3 _:=⟨yu (st:=xL) l3 c3 k3,mg_of X G a3⟩
 have D4:Jo K mg "in_order" vd f4 cc4 136:=⟨⟨_,_,_,_,_,_,_,_,l4⟩,c4,k4,mg_of X G a4,tb4⟩
 have D5:yc K mg "first_rows" xI f5 _:=⟨yu (st:=xI) l5 c5 k5,mg_of X G a5⟩
 have D6:yc K mg "beginning_points" yw f6 _:=⟨yu (st:=yw) l6 c6 k6,mg_of X G a6⟩
 have D7:yc K mg "own_points" xH f7 _:=⟨yu (st:=xH) l7 c7 k7,mg_of X G a7⟩
 have D8:yc K mg "meets" ur f8 _:=⟨yu (st:=ur) l8 c8 k8,mg_of X G a8⟩
 have D9:yc K mg "last_sign_tails" yD f9 _:=⟨yu (st:=yD) l9 c9 k9,mg_of X G a9⟩
 have D10:yc K mg "first_of_most" yS f10 _:=⟨yu (st:=yS) l10 c10 k10,mg_of X G a10⟩
 have D11:yc K mg "link_points" xu f11 _:=⟨yu (st:=xu) l11 c11 k11,mg_of X G a11⟩
 have D12:yc K mg "linked_tails" xb f12 _:=⟨yu (st:=xb) l12 c12 k12,mg_of X G a12⟩
 have D13:yc K mg "longer_tails" y9 f13 _:=⟨yu (st:=y9) l13 c13 k13,mg_of X G a13⟩
 have D14:yc K mg "lead_points" xw f14 _:=⟨yu (st:=xw) l14 c14 k14,mg_of X G a14⟩
 have D15:yc K mg "best" jQ f15 _:=⟨yu (st:=jQ) l15 c15 k15,mg_of X G a15⟩
 have D16:yc K mg "fitting_rows" xc f16 _:=⟨yu (st:=xc) l16 c16 k16,mg_of X G a16⟩
 have D17:yc K mg "all_rows" wE f17 _:=⟨yu (st:=wE) l17 c17 k17,mg_of X G a17⟩
 have D18:yc K mg "finds" ut f18 _:=⟨yu (st:=ut) l18 c18 k18,mg_of X G a18⟩
 have D26:yc K mg "_law_told" xZ f26 _:=⟨yu (st:=xZ) l26 c26 k26,mg_of X G a26⟩
 have D27:yc K mg "_law_page" x0 f27 _:=⟨yu (st:=x0) l27 c27 k27,mg_of X G a27⟩
 have D28:yc K mg "_law_turns" xJ f28 _:=⟨yu (st:=xJ) l28 c28 k28,mg_of X G a28⟩
 have D29:yc K mg "_law_stands" xx f29 _:=⟨yu (st:=xx) l29 c29 k29,mg_of X G a29⟩
 have D30:yc K mg "_law_mark" x8 f30 _:=⟨yu (st:=x8) l30 c30 k30,mg_of X G a30⟩
 have D31:yc K mg "_law_query" xK f31 _:=⟨yu (st:=xK) l31 c31 k31,mg_of X G a31⟩
 refine Y11 (fnOf "law" "law" (zG Za) (zC Za) (zh Za) .none kV32 dc32 pm32 an32 cd32 ct32) (fun s v=>.of_eq rfl) (fun base _ _ bm=>?_)
 have t_NoNumber:EC K mg "NoNumber" C_NoNumber:=⟨bx,mg_of X G bx,e_NoNumber⟩
 have t_NoText:EC K mg "NoText" C_NoText:=⟨bz,mg_of X G bz,e_NoText⟩
 have t_NoFit:EC K mg "NoFit" C_NoFit:=⟨bA,mg_of X G bA,e_NoFit⟩
 have t_FindError:EC K mg "FindError" C_FindError:=⟨bB,mg_of X G bB,e_FindError⟩
 have k_NoNumber:ECK K C_NoNumber:=⟨ka_NoNumber,kb_NoNumber,kc_NoNumber,kd_NoNumber,ke_NoNumber,kf_NoNumber,kg_NoNumber⟩
 have aI:DefOk l.prog w K mg base "_law_cell" 1 2 ["_law_script", "_law_k"] wL:=W8 D0 (mg_none_of X G ae)
 have ai:DefOk l.prog w K mg base "_law_drawn" 2 3 ["_law_script", "_law_k", "_law_many"] zx:=XZ D1 aI
 have aJ:DefOk l.prog w K mg base "_law_name" 3 2 ["_law_script", "_law_at"] xE:=W6 D2 ai (mg_none_of X G af)
 have bw:DefOk l.prog w K mg base "_law_names" 4 3 ["_law_script", "_law_at", "_law_most"] xO:=XY D3 ai aJ (mg_none_of X G ae) (mg_none_of X G af)
 have aL:DefOk l.prog w K mg base "in_order" 4 2 ["names", "rows"] wb:=V3 D4 bm (mg_none_of X G ae) (mg_none_of X G aK)
 have bi:DefOk l.prog w K mg base "first_rows" 5 3 ["names", "rows", "many"] xn:=XU D5 aL (mg_none_of X G ar)
 have aS:DefOk l.prog w K mg base "beginning_points" 1 2 ["name", "place"] yH:=jG D6 (mg_of X G aM) (mg_of X G ay) (mg_of X G aN) (mg_of X G aO) (mg_of X G aP) (mg_of X G aQ) (mg_of X G aR)
 have aA:DefOk l.prog w K mg base "own_points" 2 3 ["sign", "name", "place"] yE:=XT D7 aS (mg_of X G aT) (mg_of X G aU)
 have az:DefOk l.prog w K mg base "meets" 1 2 ["sign", "other"] wV:=Mt D8 (mg_of X G ay)
 have bc:DefOk l.prog w K mg base "last_sign_tails" 3 2 ["sign", "name"] yq:=jW D9 az aA (mg_none_of X G ae) (mg_none_of X G af)
 have aB:DefOk l.prog w K mg base "first_of_most" 1 1 ["tails"] z8:=ZN D10
 have aX:DefOk l.prog w K mg base "link_points" 1 2 ["ahead", "place"] xz:=Y9 D11 (mg_of X G aV) (mg_of X G aW) (mg_none_of X G al)
 have aY:DefOk l.prog w K mg base "linked_tails" 2 2 ["place", "tails"] yM:=Yq D12 aX
 have bb:DefOk l.prog w K mg base "longer_tails" 3 3 ["sign", "name", "tails"] xg:=Yp D13 az aA aY aB (mg_none_of X G ae) (mg_none_of X G af)
 have b0:DefOk l.prog w K mg base "lead_points" 1 1 ["place"] y3:=Xa D14 (mg_of X G aZ) (mg_none_of X G al)
 have be:DefOk l.prog w K mg base "best" 4 2 ["query", "name"] vZ:=LD D15 b0 aB bb bc (mg_none_of X G ae) (mg_none_of X G af)
 have bf:DefOk l.prog w K mg base "fitting_rows" 5 3 ["names", "query", "numbers"] yN:=Yr D16 be
 have bg:DefOk l.prog w K mg base "all_rows" 6 2 ["names", "query"] wc:=V4 D17 bf (mg_none_of X G ae) (mg_none_of X G aC) (mg_none_of X G af)
 have ak:DefOk l.prog w K mg base "finds" 7 3 ["names", "query", "many"] yF:=Mu D18 bg bi
 have ax:=Zk (P:=l.prog) (w:=w) (base:=base) ad ag au ah aj ak (mg_none_of X G ae) (mg_none_of X G ar) (mg_none_of X G aC) ⟨mk_Pager,a19,i19,kc_Pager⟩ (yu (st:=y7) l19 c19 k19)
 have f_Pager_page:=X2 (P:=l.prog) (w:=w) (base:=base) ad ah aj ag ⟨a20,i20,k20⟩ (yu (st:=wm) l20 c20 k20)
 have aw:MetR l.prog w K mg base "Pager" "page" 1 0 ["self"] yd:=MetF.r f_Pager_page
 have aD:=Xc (P:=l.prog) (w:=w) (base:=base) ad ah aj (mg_none_of X G ae) ⟨a21,i21,k21⟩ (yu (st:=xT) l21 c21 k21)
 have bj:=X1 (P:=l.prog) (w:=w) (base:=base) ad ag aj aD aw f_Pager_page t_NoNumber ⟨a22,i22,k22⟩ (yu (st:=wj) l22 c22 k22)
 have av:=ZO (P:=l.prog) (w:=w) (base:=base) ad ag ah (mg_none_of X G ae) ⟨a23,i23,k23⟩ (yu (st:=xm) l23 c23 k23)
 have aF:=W9 (P:=l.prog) (w:=w) (base:=base) ad ah ag au av ak (mg_none_of X G aE) (mg_none_of X G ae) ⟨a24,i24,k24⟩ (yu (st:=wJ) l24 c24 k24)
 have bn:=X3 (P:=l.prog) (w:=w) (base:=base) ad ah ag av t_NoNumber (mg_none_of X G ae) ⟨a25,i25,k25⟩ (yu (st:=wn) l25 c25 k25)
 have ao:=W4 (P:=l.prog) (w:=w) (base:=base) D26 bj bn aF t_NoNumber q_NoNumber_ValueError k_NoNumber t_NoText q_NoNumber_NoText t_NoFit q_NoNumber_NoFit q_NoNumber_NoNumber t_FindError x_NoNumber_FindError (mg_none_of X G aG) (mg_none_of X G bo)
 have aq:DefOk l.prog w K mg base "_law_page" 1 3 ["_law_rows", "_law_place", "_law_size"] yr:=W5 D27 (mg_none_of X G aE)
 have bu:DefOk l.prog w K mg base "_law_turns" 10 0 [] xq:=XW D28 ao aF ax aq ak
 have aH:=Xb (P:=l.prog) (w:=w) (base:=base) D29 aw aD av f_Pager_page aq (mg_none_of X G ae) (mg_none_of X G bq)
 have br:DefOk l.prog w K mg base "_law_mark" 1 1 ["_law_sign"] xF:=W7 D30
 have bv:DefOk l.prog w K mg base "_law_query" 3 4 ["_law_script", "_law_at", "_law_name_here", "_law_most"] xN:=XX D31 ai br (mg_none_of X G af) (mg_none_of X G ae) (mg_none_of X G al)
 exact zk8 (zj4 (yu (st:=Za) l32 c32 k32) aH ao ax ak bu ai bv aq bw (mg_none_of X G ae) (mg_none_of X G al) (mg_none_of X G ar) (mg_none_of X G af)) hl
end Law
open PySem PySem.W PyProof.Rows
set_option maxRecDepth 100000 in
set_option maxHeartbeats 0 in
theorem PySem.Challenge.cw_fewfind_k86_pagers_holds : PySem.Challenge.rw_fewfind_k86_pagers.Holds := by
 w_on;o_law;k_head;(case hw=>w_witness2)
 k_fill
 refine FD.walkM (l:=PySem.Challenge.rw_fewfind_k86_pagers) (k:=11) (p := "_law_script") rfl rfl ⟨rfl,by decide,by decide⟩ ?T ?F
 case F=>
  intro w mg fa h KX G hmg
  refine' Law.all_mk KX G hmg Law.main ..
  any_goals first|k_is|k_exc|with_unfolding_all rfl
 case T=>decide
