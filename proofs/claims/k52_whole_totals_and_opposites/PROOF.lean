import PyProof.Rows.All
import Wide.All
import OpenK.AllK
import Wide.FinOn
import Lean
import PyProof.EqAt
import PyProof.EqKinds
import PyProof.TupleCall
import PyProof.CallFns
import PyProof.Draws
import PyProof.EnumMake
import PyProof.ExcArgsOwn
import PyProof.FactsAll.dict_1
import PyProof.FactsAll.dict_4
import PyProof.FactsAll.subtypes_4
import PyProof.FactsAll.tuple_2
import PyProof.ListMulRoad
import PyProof.ListRange
import PyProof.MaxThree
import PyProof.NeKinds
import PyProof.ReprRoads
import PyProof.Rows.CallKwBuiltin
import PyProof.Rows.EnumRows
import PyProof.Rows.SetFrom
import PyProof.Rows.SortRev
import PyProof.TupleOfStr
import PySem.Challenge.RW_tienumbers_k52_whole_totals_and_opposite
set_option Elab.async false
set_option linter.all false
set_option maxRecDepth 100000
set_option maxHeartbeats 4000000
section
open PySem PySem.Spec PyProof.Rows
abbrev AN:=@List.getElem?_eq_getElem
abbrev AO:=@List.length_map
abbrev AQ:=@wpAny_bind
abbrev AR:=@Heap.get?_push_of_some
abbrev AS:=@List.getD_eq_getElem?_getD
abbrev AT:=@List.mem_append_right
abbrev AU:=@List.mem_append_left
abbrev AV:=@List.mem_cons_of_mem
abbrev AW:=@List.size_toArray
abbrev AX:=@wpAny_pure
abbrev AY:=@List.mem_cons_self
abbrev AZ:=@Heap.get?_push_size
abbrev A3:=@List.length_cons
abbrev A4:=@List.map_cons
abbrev A5:=@Heap.lt_size
abbrev A6:=@of_decide_eq_true
abbrev A7:=@List.length_append
abbrev A8:=@Nat.le_refl
abbrev A9:=@List.mem_cons
abbrev Ba:=@decide_eq_true
abbrev Bb:=@List.mem_singleton
abbrev Bc:=@List.mem_of_getElem?
abbrev Bd:=@List.mem_append
abbrev Be:=@List.getElem?_eq_some_iff
abbrev Bf:=@List.getElem?_map
abbrev Bg:=@List.all_eq_true
abbrev Bh:=@Bool.and_eq_true
abbrev Bi:=@Nat.ne_of_lt
abbrev Bj:=@Bool.false_ne_true
abbrev Bk:=@decide_eq_false
abbrev Bl:=@List.getElem?_cons_zero
abbrev Bm:=@List.map_append
abbrev Bn:=@List.mem_map
abbrev Bo:=@List.map_map
abbrev Bp:=@List.map_congr_left
abbrev Bq:=@Nat.lt_of_lt_of_le
abbrev Br:=@List.sum_cons
abbrev Bs:=@List.getElem?_cons_succ
abbrev Bt:=@List.getElem?_append_left
abbrev Bu:=@PySem.W.mg_none_of
abbrev Bv:=@List.nodup_cons
abbrev Bw:=@Heap.size_push
abbrev Bx:=@wpAny_pyIter_tuple
abbrev By:=@wpAny_callSpecial?_slot
abbrev Bz:=@List.pairwise_cons
abbrev BA:=@Nat.zero_add
abbrev BB:=@List.getElem?_set_ne
abbrev BC:=@wpAny_newObj_type
abbrev BD:=@Array.getD_eq_getD_getElem?
abbrev BE:=@List.length_pos_iff
abbrev BF:=@wpAny_call_entry
abbrev BG:=@List.getElem_mem
abbrev BH:=@List.getElem_map
abbrev BI:=@Option.map_eq_some_iff
abbrev BJ:=@List.mem_filter
abbrev BK:=@List.length_replicate
abbrev BL:=@Array.length_toList
abbrev BM:=@List.ext_getElem
abbrev BN:=@List.nil_append
abbrev BO:=@List.mem_range
abbrev BP:=@List.cons_append
abbrev BQ:=@PySem.mem_of_lookup
abbrev BR:=@List.length_range
abbrev BS:=@Heap.get?_update_self
abbrev BU:=@wpAny_field
abbrev BV:=@List.set_cons_zero
abbrev BW:=@List.set_cons_succ
abbrev BX:=@List.length_set
abbrev BY:=@List.length_take
abbrev BZ:=@List.getElem?_append_right
abbrev B0:=@List.getElem?_set_self
abbrev B1:=@Nat.lt_succ_of_lt
abbrev B2:=@List.replicate_succ
abbrev B3:=@List.append_assoc
abbrev B4:=@Bool.and_false
abbrev B5:=@Nat.le_trans
abbrev B6:=@List.length_nil
abbrev B7:=@List.Nodup.length_le_of_subset
abbrev B8:=@Array.getElem?_toList
abbrev B9:=@wpAny_mono
abbrev Ca:=@wpAny_holding
abbrev Cb:=@Bool.and_true
abbrev Cc:=@List.length_zip
abbrev Cd:=@wpAny_setField
abbrev Ce:=@List.pairwise_iff_getElem
abbrev Cf:=@Array.getElem?_eq_getElem
abbrev Cg:=@List.mem_iff_getElem
abbrev Ch:=@wpAny_truthy_bool
abbrev Ci:=@wpAny_pyIter_list
abbrev Cj:=@List.flatten_cons
abbrev Ck:=@Nat.ne_of_gt
abbrev Cm:=@List.getElem?_replicate
abbrev Cn:=@Bool.true_and
abbrev Co:=@wpAny_typeNameOfWhole_keyiter
abbrev Cp:=@Nat.lt_succ_self
abbrev Cq:=@List.not_mem_nil
abbrev Cr:=@List.lookup_cons
abbrev Cs:=@List.nodup_nil
abbrev Ct:=@Heap.get?_update_other
abbrev Cu:=@wpAny_passesOwn
abbrev Cv:=@Nat.zero_le
abbrev Cw:=@Nat.min_self
abbrev Cy:=@List.map_nil
abbrev Cz:=@List.append_nil
abbrev CA:=@List.perm_append_singleton
abbrev CB:=@wpAny_seqItems
abbrev CC:=@List.getElem?_zip_eq_some
abbrev CD:=@Bool.false_and
abbrev CF:=@beq_eq_false_iff_ne
abbrev CG:=@PySem.W.hideAll_get
abbrev CH:=@List.getElem_of_mem
abbrev CI:=@Int.mul_add
abbrev CJ:=@wpAny_typeNameOf_keyiter
abbrev CK:=@Nat.sub_self
abbrev CL:=@Bool.or_true
abbrev CM:=@of_decide_eq_false
abbrev CN:=@Nat.lt_irrefl
abbrev CO:=@List.zip_cons_cons
abbrev CP:=@List.length_eq_zero_iff
abbrev CQ:=@List.find?_cons
abbrev CS:=@Bool.or_false
abbrev CT:=@Bool.false_or
abbrev CU:=@Bool.false_eq_true
abbrev CV:=@List.take_of_length_le
abbrev CW:=@Nat.le_succ
abbrev CY:=@List.nodup_append
abbrev CZ:=@Int.toNat_natCast
abbrev C0:=@Int.mul_one
abbrev C1:=@List.getElem?_eq_none
abbrev C3:=@Bool.true_or
abbrev C4:=@beq_self_eq_true
abbrev C5:=@Nat.le_add_right
abbrev C6:=@wpAny_newList
abbrev C7:=@List.foldl_cons
abbrev C8:=@List.filterMap_cons
abbrev C9:=@List.Perm.of_eq
abbrev Da:=@wpAny_Call_Name_kw
abbrev Db:=@Obj.data_mapFields
abbrev Dc:=@List.mem_filterMap
abbrev Dd:=@wpAny_runValue
abbrev De:=@List.ne_nil_of_length_pos
abbrev Df:=@PySem.W.Frag
end
namespace L2
open PySem PySem.Spec PyProof.Rows
abbrev Key:=Sum Int Str
def mB:Key->Value->Bool
 | .inl k,v=>Value.isInt k v
 | .inr x,v=>Value.isStrOf x v
def keyH(w:World):Key->Int
 | .inl k=>hashInt k
 | .inr x=>hashStr w x
theorem bb:∀ {k:Key} {v:Value},mB k v=true->(∃ i t,k=Sum.inl i/\v=Value.int i t)\/(∃ x t,k=Sum.inr x/\v=Value.str x t)
 | .inl i,v,h=>by
  obtain ⟨t,e⟩:=Value.isInt_shape (k:=i) (v:=v) h;exact .inl ⟨i,t,rfl,e⟩
 | .inr x,v,h=>by
  obtain ⟨t,e⟩:=Value.isStrOf_shape (x:=x) (v:=v) h;exact .inr ⟨x,t,rfl,e⟩
theorem tZ(i:Int)(t:Tok):mB (.inl i) (.int i t)=true:=by simp [mB,Value.isInt]
theorem tY(x:Str)(t:Tok):mB (.inr x) (.str x t)=true:=by simp [mB,Value.isStrOf]
theorem key_ll(a b:Int):decide ((Sum.inl a:Key)=Sum.inl b)=(a == b):=by
 by_cases e:a=b
 ·subst e;simp
 ·have h:¬ (Sum.inl a:Key)=Sum.inl b:=fun q=>e (Sum.inl.inj q)
  rw [Bk h];exact (CF.mpr e).symm
theorem key_rr(a b:Str):decide ((Sum.inr a:Key)=Sum.inr b)=decide (a=b):=by
 by_cases e:a=b
 ·subst e;simp
 ·have h:¬ (Sum.inr a:Key)=Sum.inr b:=fun q=>e (Sum.inr.inj q)
  rw [Bk h,Bk e]
theorem key_lr(a:Int)(b:Str):decide ((Sum.inl a:Key)=Sum.inr b)=false:=Bk (fun q=>nomatch q)
theorem key_rl(a:Str)(b:Int):decide ((Sum.inr a:Key)=Sum.inl b)=false:=Bk (fun q=>nomatch q)
def bj(prog:Program)(w:World):PySem.KeyKind prog w Key where
 is:=mB
 hash:=keyH w
 inj:=fun v a b ha hb=>by
  rcases bb ha with ⟨i,t,rfl,rfl⟩ | ⟨x,t,rfl,rfl⟩
  ·rcases bb hb with ⟨j,u,rfl,e⟩ | ⟨y,u,rfl,e⟩
   ·injection e with e1 _;rw [e1]
   ·exact nomatch e
  ·rcases bb hb with ⟨j,u,rfl,e⟩ | ⟨y,u,rfl,e⟩
   ·exact nomatch e
   ·injection e with e1 _;rw [e1]
 byValue:=fun k v h=>by
  rcases bb h with ⟨i,t,rfl,rfl⟩ | ⟨x,t,rfl,rfl⟩<;>rfl
 pyHash:=fun hv h=>by
  rcases bb hv with ⟨i,t,rfl,rfl⟩ | ⟨x,t,rfl,rfl⟩
  ·exact wpAny_pyHash_int h
  ·exact wpAny_pyHash_str h
 eqBool:=fun hu hv h=>by
  rcases bb hu with ⟨i,t,rfl,rfl⟩ | ⟨x,t,rfl,rfl⟩
  ·rcases bb hv with ⟨j,u,rfl,rfl⟩ | ⟨y,u,rfl,rfl⟩
   ·rw [key_ll] at h;exact wpAny_eqBool_int h
   ·rw [key_lr] at h;exact SeqAt.EqAt.int_str i t y u _ _ _ _ h
  ·rcases bb hv with ⟨j,u,rfl,rfl⟩ | ⟨y,u,rfl,rfl⟩
   ·rw [key_rl] at h;exact SeqAt.EqAt.str_int x t j u _ _ _ _ h
   ·rw [key_rr] at h;exact wpAny_eqBool_str h
 «strs»:=fun k x t v h=>by
  rcases bb h with ⟨i,u,rfl,e⟩ | ⟨y,u,rfl,e⟩
  ·exact nomatch e
  ·injection e with e1 _
   subst e1;cases v<;>rfl
theorem pF(prog:Program)(w:World)(i:Int)(t:Tok):(bj prog w).is (.inl i) (.int i t)=true:=tZ i t
theorem pE(prog:Program)(w:World)(x:Str)(t:Tok):(bj prog w).is (.inr x) (.str x t)=true:=tY x t
inductive V where
 | non | bl (b:Bool) | int (i:Int) | str (x:Str) | byt (b:Array UInt8) | flt (b:UInt64) | ref (a:Addr) | ty (n:String)
 deriving DecidableEq
def aB:V->Value->Prop
 | .non,u=>u=Value.none
 | .bl b,u=>u=Value.bool b
 | .int i,u=>∃ t,u=Value.int i t
 | .str x,u=>∃ t,u=Value.str x t
 | .byt b,u=>∃ t,u=Value.bytes b t
 | .flt b,u=>∃ t,u=Value.float b t
 | .ref a,u=>u=Value.ref a
 | .ty n,u=>u=Value.type n
abbrev ar:List V->List Value->Prop:=Paired aB
theorem ar.length{xs:List V}{us:List Value}(r:ar xs us):xs.length=us.length:=Paired.length r
theorem ar.get:∀ {xs:List V} {us:List Value} {i:Nat} {x:V},ar xs us->xs[i]?=some x->∃ u,us[i]?=some u/\aB x u
 | _,_,_,_,.nil,e=>by simp at e
 | _,_,0,_,.cons r _,e=>by simp at e;subst e;exact ⟨_,rfl,r⟩
 | _,_,i+1,x,.cons _ t,e=>by
  obtain ⟨u,h1,h2⟩:=ar.get (i:=i) (x:=x) t (by simpa using e);exact ⟨u,by simpa using h1,h2⟩
theorem ar.set{x:V}{u:Value}(r:aB x u):∀ {xs:List V} {us:List Value} (i:Nat),ar xs us->ar (xs.set i x) (us.set i u)
 | _,_,_,.nil=> .nil
 | _,_,0,.cons _ t=> .cons r t
 | _,_,i+1,.cons q t=> .cons q (ar.set r i t)
theorem ar.append:∀ {xs ys:List V} {us ws:List Value},ar xs us->ar ys ws->ar (xs++ys) (us++ws)
 | _,_,_,_,.nil,s=>s
 | _,_,_,_,.cons r t,s=> .cons r (ar.append t s)
theorem ar.take:∀ {xs:List V} {us:List Value} (n:Nat),ar xs us->ar (xs.take n) (us.take n)
 | _,_,0,_=> .nil
 | _,_,_+1,.nil=> .nil
 | _,_,n+1,.cons r t=> .cons r (ar.take n t)
theorem ar.drop:∀ {xs:List V} {us:List Value} (n:Nat),ar xs us->ar (xs.drop n) (us.drop n)
 | _,_,0,r=>r
 | _,_,_+1,.nil=> .nil
 | _,_,n+1,.cons _ t=>ar.drop n t
def l5:Option V->Option Value->Prop
 | some v,some u=>aB v u
 | none,none=>True
 | _,_=>False
def KV{κ:Type}:List (κ×V)->List (κ×Value)->Prop:=Paired fun (p:κ×V) (q:κ×Value)=>p.1=q.1/\aB p.2 q.2
def kV:Key->V
 | .inl i=> .int i
 | .inr x=> .str x
inductive HO where
 | lst (xs:List V)
 | tup (xs:List V)
 | dK (kvs:List (Key×V)) | dT (kvs:List (List Key×V))
 | set (S:Int->Bool) (n:Nat)
 | ins (C dx:Addr) (fs:List (Str×V))
 | own (x:Addr)
 | xd (fs:List (Str×V))
 | met (f x:Addr)
 | rng (lo hi:Int)
 | frz (o:Obj) (u:HO)
 | tbl (ps:Array Value)
 | ext (φ:Heap->Prop)
abbrev Hp:=Addr->Option HO
def upd(H:Hp)(a:Addr)(o:HO):Hp:=fun b=>if b=a then some o else H b
theorem ao{H:Hp}{a:Addr}{o:HO}:upd H a o a=some o:=by unfold upd;rw [if_pos rfl]
theorem ag{H:Hp}{a b:Addr}{o:HO}(h:b≠a):upd H a o b=H b:=by unfold upd;rw [if_neg h]
theorem ne_of{H:Hp}{a b:Addr}{o u:HO}(h:H a=some o)(h':H b=some u)(d:o≠u):a≠b:=by
 intro e;subst e;rw [h] at h';exact d (Option.some.inj h')
theorem ah{H:Hp}{a b:Addr}{o:HO}(h:H a=some o)(h':H b=none):a≠b:=by
 intro e;subst e;rw [h] at h';cases h'
section
variable(P:Program)(w:World)
def bf(H:Hp)(h:Heap)(a:Addr):HO->Prop
 | .lst xs=>xs.length<=sizeLine/\∃ (its:List Value) (n:Nat),ar xs its/\h.get? a=some { cls:= .type "list",data:= .seq its.toArray n }
 | .tup xs=>xs.length<=sizeLine/\∃ its:List Value,ar xs its/\IsTup h a its.toArray
 | .dK kvs=>kvs.length<=sizeLine/\(a == sysModules)=false/\∃ vs,KV kvs vs/\h.DictOf (bj P w) a vs
 | .dT kvs=>kvs.length<=sizeLine/\(a == sysModules)=false/\∃ xs:List (List Key×Addr×Value),
  Paired (fun (p:List Key×V) (q:List Key×Addr×Value)=>p.1=q.1/\H q.2.1=some (.tup (p.1.map kV))/\aB p.2 q.2.2) kvs xs /\
  ∃ o es ep,h.get? a=some o/\o.ExactDict/\o.data = .dict es ep/\es.toList=xs.map (entryOfKey (tupleKind (bj P w)))/\(xs.map (·.1)).Nodup
 | .set S n=>h.SetOf (intKind P w) a S n
 | .ins C dx fs=>H dx=some (.own a)/\fs.length<=1000/\dx≠a/\h.get? a=some (PySem.W.instObj C dx) /\
  ∃ mA,h.Ns1 dx mA/\(∀ f,l5 (fs.lookup f) (mA f))/\PySem.Within mA (fs.map (·.1))
 | .own _=>∃ o,h.get? a=some o
 | .xd fs=>∃ mA,h.Ns1 a mA/\∀ f,l5 (fs.lookup f) (mA f)
 | .rng lo hi=>∃ t u v,h.get? a=some { cls:= .type "range",data:= .fields #[.int lo t,.int hi u,.int 1 v] }
 | .frz o u=>h.get? a=some o/\bf H h a u
 | .tbl ps=>h.get? a=some { cls:= .none,data:= .fields ps }
 | .met f x=>h.get? a=some (PySem.W.methodObj (.ref f) (.ref x))
 | .ext φ=>φ h/\(∃ o,h.get? a=some o)/\∀ h1 h2:Heap,φ h1->(∀ o,h1.get? a=some o->h2.get? a=some o)->φ h2
def HOk(H:Hp)(h:Heap):Prop:=∀ a o,H a=some o->bf P w H h a o
end
section
variable{P:Program}{w:World}{H H':Hp}{h h':Heap}{a:Addr}{o:HO}
theorem bf.lt(x:bf P w H h a o):a < h.objs.size:=by
 cases o with
 | lst xs=>obtain ⟨_,_,_,_,e⟩:=x;exact A5 e
 | tup xs=>obtain ⟨_,_,_,p⟩:=x;exact p.lt
 | dK kvs=>obtain ⟨_,_,_,_,o,_,_,e,_⟩:=x;exact A5 e
 | dT kvs=>obtain ⟨_,_,_,_,o,_,_,e,_⟩:=x;exact A5 e
 | set S n=>obtain ⟨o,_,_,_,e,_⟩:=x;exact A5 e
 | ins C dx fs=>obtain ⟨_,_,_,e,_⟩:=x;exact A5 e
 | own y=>obtain ⟨_,e⟩:=x;exact A5 e
 | xd fs=>obtain ⟨_,⟨_,_,_,e,_⟩,_⟩:=x;exact A5 e
 | rng lo hi=>obtain ⟨_,_,_,e⟩:=x;exact A5 e
 | frz ob u=>obtain ⟨e,_⟩:=x;exact A5 e
 | tbl ps=>exact A5 (show h.get? a=some _ from x)
 | met f y=>exact A5 (show h.get? a=some _ from x)
 | ext φ=>obtain ⟨_,⟨_,e⟩,_⟩:=x;exact A5 e
theorem Paired.mapP{α β:Type}{F G:α->β->Prop}:∀ {l₁:List α} {l₂:List β},Paired F l₁ l₂->(∀ a b,F a b->G a b)->Paired G l₁ l₂
 | _,_,.nil,_=> .nil
 | _,_,.cons r t,f=> .cons (f _ _ r) (Paired.mapP t f)
theorem bf.stay(x:bf P w H h a o)(k:∀ b u,(b=a\/H b=some (.own a))->h.get? b=some u->h'.get? b=some u)
 (ho:∀ b,H b=some (.own a)->H' b=some (.own a)) (ht:∀ b xs,H b=some (.tup xs)->H' b=some (.tup xs)):bf P w H' h' a o:=by
 induction o with
 | lst xs=>obtain ⟨z,its,n,r,e⟩:=x;exact ⟨z,its,n,r,k _ _ (.inl rfl) e⟩
 | tup xs=>obtain ⟨z,its,r,ob,e,c⟩:=x;exact ⟨z,its,r,ob,k _ _ (.inl rfl) e,c⟩
 | dK kvs=>obtain ⟨z,y,vs,r,ob,es,ep,e,c⟩:=x;exact ⟨z,y,vs,r,ob,es,ep,k _ _ (.inl rfl) e,c⟩
 | dT kvs =>
  obtain ⟨z,y,xs,r,ob,es,ep,e,c⟩:=x;exact ⟨z,y,xs,Paired.mapP r fun p q z=>⟨z.1,ht _ _ z.2.1,z.2.2⟩,ob,es,ep,k _ _ (.inl rfl) e,c⟩
 | set S n=>obtain ⟨ob,es,ep,t,e,c⟩:=x;exact ⟨ob,es,ep,t,k _ _ (.inl rfl) e,c⟩
 | ins C dx fs =>
  obtain ⟨d,z,ne,e,mA,⟨od,es,ep,e2,c⟩,r⟩:=x;exact ⟨ho _ d,z,ne,k _ _ (.inl rfl) e,mA,⟨od,es,ep,k _ _ (.inr d) e2,c⟩,r⟩
 | own y=>obtain ⟨ob,e⟩:=x;exact ⟨ob,k _ _ (.inl rfl) e⟩
 | xd fs=>obtain ⟨mA,⟨od,es,ep,e,c⟩,r⟩:=x;exact ⟨mA,⟨od,es,ep,k _ _ (.inl rfl) e,c⟩,r⟩
 | rng lo hi=>obtain ⟨t,u,v,e⟩:=x;exact ⟨t,u,v,k _ _ (.inl rfl) e⟩
 | frz ob u ih=>obtain ⟨e,q⟩:=x;exact ⟨k _ _ (.inl rfl) e,ih q⟩
 | tbl ps =>
  have e:h.get? a=some { cls:= .none,data:= .fields ps }:=x
  show h'.get? a=some { cls:= .none,data:= .fields ps }
  exact k a _ (.inl rfl) e
 | met f y =>
  have e:h.get? a=some (PySem.W.methodObj (.ref f) (.ref y)):=x
  show h'.get? a=some (PySem.W.methodObj (.ref f) (.ref y))
  exact k a _ (.inl rfl) e
 | ext φ=>obtain ⟨p,⟨o,e⟩,st⟩:=x;exact ⟨st _ _ p fun o q=>k _ _ (.inl rfl) q,⟨o,k _ _ (.inl rfl) e⟩,st⟩
theorem HOk.lt(x:HOk P w H h)(e:H a=some o):a < h.objs.size:=(x a o e).lt
theorem HOk.fresh(x:HOk P w H h)(e:h.objs.size<=a):H a=none:=by
 cases q:H a with
 | none=>rfl
 | some u=>exact absurd (Bq (x.lt q) e) (CN _)
theorem HOk.kept(x:HOk P w H h)(k:∀ b u,h.get? b=some u->h'.get? b=some u):HOk P w H h':=fun a o e =>
 (x a o e).stay (fun b u _ q=>k b u q) (fun _ q=>q) fun _ _ q=>q
theorem HOk.laid(x:HOk P w H h)(k:∀ b u,h.get? b=some u->h'.get? b=some u)(hp:h.objs.size<=a)(new:bf P w (upd H a o) h' a o):HOk P w (upd H a o) h':=fun b u e=>by
 have hn:=x.fresh hp
 by_cases hb:b=a
 ·subst hb;rw [ao] at e;cases e;exact new
 ·rw [ag hb] at e
  exact (x b u e).stay (fun c v _ q=>k c v q) (fun c q=>by rw [ag (ah q hn)];exact q) fun c xs q=>by rw [ag (ah q hn)];exact q
end
def Rd(H:Hp)(a:Addr)(u:HO):Prop:=H a=some u\/∃ o,H a=some (.frz o u)
theorem Rd.ok{P:Program}{w:World}{H:Hp}{h:Heap}{a:Addr}{u:HO}(r:Rd H a u)(x:HOk P w H h):bf P w H h a u:=by
 rcases r with r | ⟨o,r⟩
 ·exact x a u r
 ·obtain ⟨_,q⟩:=x a _ r
  exact q
def Mut:Option HO->Prop
 | some (.lst _)=>True
 | some (.dK _)=>True
 | some (.dT _)=>True
 | some (.set _ _)=>True
 | some (.ins _ _ _)=>True
 | some (.ext _)=>True
 | _=>False
section
variable{P:Program}{w:World}{H:Hp}{h h':Heap}{x e:Addr}{o':HO}
theorem HOk.write(ok:HOk P w H h)(mu:Mut (H x))(he:e=x\/H e=some (.own x))(k:∀ b u,b≠e->h.get? b=some u->h'.get? b=some u)(heo:∃ u,h'.get? e=some u)
 (new:bf P w (upd H x o') h' x o'):HOk P w (upd H x o') h':=fun b u q=>by
 have nown:∀ c y,H c=some (.own y)->c≠x:=fun c y r z=>by subst z;rw [r] at mu;exact mu
 have ntup:∀ c xs,H c=some (.tup xs)->c≠x:=fun c xs r z=>by subst z;rw [r] at mu;exact mu
 by_cases hb:b=x
 ·subst hb;rw [ao] at q;cases q;exact new
 ·rw [ag hb] at q
  by_cases hbe:b=e
  ·have q':H b=some (.own x):=by
    rcases he with z | z
    ·exact absurd (hbe.trans z) hb
    ·rw [hbe];exact z
   rw [q] at q';cases q';obtain ⟨v,hv⟩:=heo;exact ⟨v,by rw [hbe];exact hv⟩
  ·refine (ok b u q).stay (fun c v hc r=>k c v ?_ r) (fun c r=>by rw [ag (nown c b r)];exact r) fun c xs r=>by rw [ag (ntup c xs r)];exact r
   rcases hc with rfl | hc
   ·exact hbe
   ·rintro rfl
    rcases he with z | z
    ·exact nown c b hc z
    ·rw [hc] at z;cases z;exact hb rfl
end
structure Un(fs ex:List Addr)(H H':Hp)(h h':Heap):Prop where
 keep:∀ b o,h.get? b=some o->H b=none->b∉fs->b∉ex->h'.get? b=some o
 slot:∀ b o,h.get? b=some o->H b=none->b∈fs->b∉ex->∃ sl,h'.get? b=some { o with slots:=sl }
 free:∀ b o,h.get? b=some o->H b=none->b∉ex->H' b=none
 there:∀ b o,h.get? b=some o->b∉ex->∃ o',h'.get? b=some o'
 tups:∀ b xs,H b=some (.tup xs)->H' b=some (.tup xs)
 frzs:∀ b o u,H b=some (.frz o u)->H' b=some (.frz o u)
 tbls:∀ b ps,H b=some (.tbl ps)->∃ more,H' b=some (.tbl (ps++more))
section
variable{fs fs' ex ex':List Addr}{H H1 H2:Hp}{h h1 h2 h':Heap}{a x e:Addr}{o:HO}
theorem Un.any(u:Un fs ex H H1 h h1){b:Addr}{ob:Obj}(q:h.get? b=some ob)(n:H b=none)(hx:b∉ex):∃ sl,h1.get? b=some { ob with slots:=sl }:=by
 by_cases hb:b∈fs
 ·exact u.slot b ob q n hb hx
 ·exact ⟨ob.slots,u.keep b ob q n hb hx⟩
theorem Un.kept(k:∀ b u,h.get? b=some u->h'.get? b=some u):Un fs ex H H h h' :=
 ⟨fun b ob q _ _ _=>k b ob q,fun b ob q _ _ _=>⟨ob.slots,k b ob q⟩,fun _ _ _ n _=>n,fun b ob q _=>⟨ob,k b ob q⟩,fun _ _ q=>q,fun _ _ _ q=>q,fun _ ps q=>⟨#[],by rw [q];simp⟩⟩
theorem Un.refl:Un fs ex H H h h:=Un.kept fun _ _ q=>q
theorem Un.laid(k:∀ b u,h.get? b=some u->h'.get? b=some u)(hp:h.objs.size<=a)(hn:H a=none):Un fs ex H (upd H a o) h h' where
 keep:=fun b u q _ _ _=>k b u q
 slot:=fun b u q _ _ _=>⟨u.slots,k b u q⟩
 free:=fun b u q n _=>by rw [ag (Bi (Bq (A5 q) hp))];exact n
 there:=fun b u q _=>⟨u,k b u q⟩
 tups:=fun b xs q=>by rw [ag (ah q hn)];exact q
 frzs:=fun b u xs q=>by rw [ag (ah q hn)];exact q
 tbls:=fun b ps q=>⟨#[],by rw [ag (ah q hn),q];simp⟩
theorem Un.write(mu:Mut (H x))(he:e=x\/H e=some (.own x))(k:∀ b u,b≠e->h.get? b=some u->h'.get? b=some u)(heo:∃ u,h'.get? e=some u):Un fs ex H (upd H x o) h h':=by
 have hx:∀ b,H b=none->b≠x:=fun b n z=>by subst z;rw [n] at mu;exact mu
 have hb:∀ b,H b=none->b≠e:=fun b n z=>by
  subst z
  rcases he with r | r
  ·exact hx b n r
  ·rw [n] at r;cases r
 have hm:∀ b u,H b=some u->¬ Mut (some u)->b≠x:=fun b u q nm z=>by subst z;rw [q] at mu;exact nm mu
 refine ⟨fun b u q n _ _=>k b u (hb b n) q,fun b u q n _ _=>⟨u.slots,k b u (hb b n) q⟩,fun b u q n _=>by rw [ag (hx b n)];exact n,fun b u q _=> ?_,
  fun b xs q=>by rw [ag (hm b _ q fun z=>z)];exact q,fun b u xs q=>by rw [ag (hm b _ q fun z=>z)];exact q,fun b ps q=>⟨#[],by rw [ag (hm b _ q fun z=>z),q];simp⟩⟩
 by_cases hbe:b=e
 ·subst hbe;exact heo
 ·exact ⟨u,k b u hbe q⟩
end
def trk(h:Heap)(H:Hp):List Addr:=(List.range h.objs.size).filter fun a=>(H a).isSome
def nQ(h:Heap)(H:Hp):Heap:=PySem.W.hideAll h (trk h H)
theorem t4(h:Heap)(H:Hp):(nQ h H).objs.size=h.objs.size:=PySem.W.hideAll_size _ _
theorem wV{h:Heap}{H:Hp}{b:Addr}{o:Obj}(e:h.get? b=some o)(n:H b=none):(nQ h H).get? b=some o :=
 CG _ e fun hm=>by
  have q:(H b).isSome=true:=(BJ.mp hm).2;rw [n] at q;simp at q
theorem zi{h:Heap}{H:Hp}{b:Addr}{o:Obj}(e:(nQ h H).get? b=some o):h.get? b=some o/\H b=none:=by
 have e':h.get? b=some o:=PySem.W.of_hideAll (trk h H) e;refine ⟨e',?_⟩
 cases q:H b with
 | none=>rfl
 | some x =>
  have hm:b∈trk h H:=BJ.mpr ⟨BO.mpr (A5 e'),by simp [q]⟩;have z:(nQ h H).get? b=none:=PySem.W.hideAll_none (trk h H) hm;rw [z] at e;cases e
structure Mod(K:Df)(mg:Str->Option Value)(base:Heap):Prop where
 kin:K.In base
 glob:base.Ns mainGlobals mg
 blt:∃ mb,base.Ns builtinsNs mb/\∀ x:Str,x ≠ "__name__" -> mb x=bootBuiltins x
 nolimit:base.NoLimit
structure Cx where
 prog:Program
 w:World
 K:Df
 mg:Str->Option Value
 base:Heap
 A:Around
 N:List Str
 s₀:Shared
 H₀:Hp
 env:Env
 outer:List Env
 stack:List Env
 ex:List Addr
 fn:Str->Bool
 calm:Bool
 pn:List (Addr×Obj)
 xe:Value->Shared->Prop
def frs(l:List Env):List Addr:=l.filterMap (·.frame)
abbrev Cx.fs(X:Cx):List Addr:=frs X.outer
def Vis(sc:Scope)(x:Str):Prop:=sc.names.lookup x=some .local\/sc.names.lookup x=some .cell\/sc.names.lookup x=some .free
def Loc(sc:Scope)(x:Str):Prop:=sc.names.lookup x=some .local\/sc.names.lookup x=some .cell
def Look(env:Env)(h:Heap)(m:Str->Option Value)(x:Str)(u:Value):Prop :=
 (env.kindOf x=some .local/\m x=some u)\/((env.kindOf x=some .cell\/env.kindOf x=some .free)/\∃ c,env.cells.lookup x=some c/\h.IsCell c (some u))
structure Cx.Ok(X:Cx):Prop where
 mod:Mod X.K X.mg X.base
 kind:X.env.scope.kind = .function
 glob:X.env.globals=mainGlobals
 blt:X.env.builtins=builtinsNs
 above:X.s₀.heap.objs.size<=X.env.locals
 inj:∀ x y c,X.env.cells.lookup x=some c->X.env.cells.lookup y=some c->x=y
 has:∀ x,(X.env.kindOf x=some .cell\/X.env.kindOf x=some .free)->∃ c,X.env.cells.lookup x=some c
 cab:∀ x c,X.fn x=true->X.env.cells.lookup x=some c->X.s₀.heap.objs.size<=c
 hd:X.calm=true->X.A.handled=none
 frames:X.A.frames=some X.stack
 stk:X.stack=X.outer\/(X.stack=X.env::X.outer/\X.env.frame=some X.env.locals)
 exf:∀ b∈X.ex,b≠X.env.locals/\∀ x c,X.env.cells.lookup x=some c->c≠b
 bs:∀ b o,X.base.get? b=some o->X.s₀.heap.get? b=some o/\X.H₀ b=none
 bsz:X.base.objs.size<=X.s₀.heap.objs.size
 noex:∀ b o,X.base.get? b=some o->b∉X.ex
 exfs:∀ b∈X.ex,b∉X.fs
 funs:X.s₀.heap.FunFrames X.base X.outer
 frf:∀ b∈X.fs,X.H₀ b=none
structure Inv(X:Cx)(pins:List (Addr×Obj))(σ:List (Option V))(H:Hp)(s:Shared):Prop where
 ok:X.Ok
 os:s.os=X.s₀.os
 bare:AllBare s.gens
 base:Un X.fs X.ex X.H₀ H X.s₀.heap s.heap
 loc:∃ m,s.heap.Ns X.env.locals m/\∀ (i:Nat) (x:Str) (v:V),X.N[i]?=some x->σ[i]?=some (some v)->Vis X.env.scope x->∃ u,aB v u/\Look X.env s.heap m x u
 cell:∀ x c,X.env.cells.lookup x=some c->∃ v,s.heap.IsCell c v
 free:H X.env.locals=none
 freeC:∀ x c,X.env.cells.lookup x=some c->H c=none
 pin:∀ p∈X.pn++pins,s.heap.get? p.1=some p.2/\H p.1=none/\p.1≠X.env.locals/\p.1∉X.fs/\∀ v,p.2.data ≠ .cell v
 hok:HOk X.prog X.w H s.heap
 len:σ.length=X.N.length
section
variable{X:Cx}{pins:List (Addr×Obj)}{σ:List (Option V)}{H H':Hp}{s:Shared}{h':Heap}
theorem Cx.Ok.nofr(ok:X.Ok){b:Addr}{o:Obj}(e:X.base.get? b=some o):b∉X.fs:=fun hb=>by
 have:=(ok.funs.mem hb).1;rw [e] at this;cases this
theorem Inv.bs(I:Inv X pins σ H s):∀ b o,X.base.get? b=some o->s.heap.get? b=some o/\H b=none:=fun b o e =>
 ⟨I.base.keep b o (I.ok.bs b o e).1 (I.ok.bs b o e).2 (I.ok.nofr e) (I.ok.noex b o e),I.base.free b o (I.ok.bs b o e).1 (I.ok.bs b o e).2 (I.ok.noex b o e)⟩
theorem Inv.bk(I:Inv X pins σ H s):∀ b o,X.base.get? b=some o->s.heap.get? b=some o:=fun b o e=>(I.bs b o e).1
theorem Inv.mod(I:Inv X pins σ H s):Mod X.K X.mg X.base:=I.ok.mod
theorem Inv.kIn(I:Inv X pins σ H s):X.K.In s.heap:=I.ok.mod.kin.keeps I.bk
theorem Inv.fr(I:Inv X pins σ H s):∃ m,Fr X.base X.env.locals s.heap m :=
 let ⟨m,hn,_⟩:=I.loc
 ⟨m,hn,I.bk,B5 I.ok.bsz I.ok.above⟩
theorem Inv.lt(I:Inv X pins σ H s):X.env.locals < s.heap.objs.size:=let ⟨_,hn,_⟩:=I.loc;hn.lt
theorem Inv.sz(I:Inv X pins σ H s):X.s₀.heap.objs.size<=s.heap.objs.size:=B5 I.ok.above (Nat.le_of_lt I.lt)
theorem Inv.nofs(I:Inv X pins σ H s){a:Addr}(h:s.heap.objs.size<=a):a∉X.fs:=fun hb=>by
 obtain ⟨_,o,ho,_⟩:=I.ok.funs.mem hb;exact absurd (Bq (A5 ho) (B5 I.sz h)) (CN _)
theorem Inv.cne(I:Inv X pins σ H s):∀ x c,X.env.cells.lookup x=some c->c≠X.env.locals:=fun x c e z=>by
 obtain ⟨v,o,ho,hd⟩:=I.cell x c e;obtain ⟨m,⟨o',es,ep,ho',hd',_⟩,_⟩:=I.loc;rw [z,ho'] at ho;cases ho;rw [hd'] at hd;cases hd
theorem Inv.funs(I:Inv X pins σ H s):s.heap.FunFrames X.base X.outer:=by
 have all:∀ (l:List Env),(∀ b∈frs l,b∈X.fs)->X.s₀.heap.FunFrames X.base l->s.heap.FunFrames X.base l:=by
  intro l
  induction l with
  | nil=>intro _ _;trivial
  | cons env r ih =>
   intro hs hl;obtain ⟨hk,⟨L,o,hf,hn,ho,hd⟩,hr⟩:=hl;have hL:L∈X.fs:=hs L (by unfold frs;rw [C8,hf];exact AY)
   obtain ⟨sl,e⟩:=I.base.slot L o ho (I.ok.frf L hL) hL fun z=>I.ok.exfs L z hL
   exact ⟨hk,⟨L,_,hf,hn,e,hd⟩,ih (fun b hb=>hs b (by unfold frs;rw [C8,hf];exact AV _ hb)) hr⟩
 exact all X.outer (fun _ hb=>hb) I.ok.funs
theorem Inv.stack(I:Inv X pins σ H s):s.heap.FunFrames X.base X.stack:=by
 rcases I.ok.stk with e | ⟨e,hf⟩
 ·rw [e];exact I.funs
 ·rw [e]
  obtain ⟨m,hn,_⟩:=I.loc;refine .cons (by rw [I.ok.kind];decide) hf hn ?_ I.funs;exact Heap.get?_none_of_le (B5 I.ok.bsz I.ok.above)
theorem Inv.stkSub(I:Inv X pins σ H s):∀ b∈frs X.stack,b∈X.env.locals::X.fs:=fun b hb=>by
 rcases I.ok.stk with e | ⟨e,hf⟩
 ·rw [e] at hb;exact AV _ hb
 ·rw [e] at hb
  unfold frs at hb;rw [C8,hf] at hb;exact hb
theorem Inv.stkFree(I:Inv X pins σ H s):∀ b∈frs X.stack,H b=none:=fun b hb=>by
 rcases A9.mp (I.stkSub b hb) with e | hb
 ·rw [e];exact I.free
 ·obtain ⟨_,o,ho,_⟩:=I.ok.funs.mem hb
  exact I.base.free b o ho (I.ok.frf b hb) fun z=>I.ok.exfs b z hb
theorem Inv.step{g':Array GenState}{t':Nat}{d':Drawn}{ch:List Addr}(I:Inv X pins σ H s)
 (hch:∀ b∈ch,(b∈X.ex\/X.s₀.heap.objs.size<=b)/\b≠X.env.locals/\(∀ x c,X.env.cells.lookup x=some c->c≠b)/\∀ p∈X.pn++pins,p.1≠b)
 (keep:∀ b o,b≠X.env.locals->b∉X.fs->b∉ch->s.heap.get? b=some o->H b=none->h'.get? b=some o)
 (slot:∀ b o,b≠X.env.locals->b∈X.fs->b∉ch->s.heap.get? b=some o->H b=none->∃ sl,h'.get? b=some { o with slots:=sl }) (free:∀ b o,b∉ch->s.heap.get? b=some o->H b=none->H' b=none)
 (there:∀ b o,b∉ch->s.heap.get? b=some o->∃ o',h'.get? b=some o')
 (tups:∀ b xs,H b=some (.tup xs)->H' b=some (.tup xs)) (frzs:∀ b o u,H b=some (.frz o u)->H' b=some (.frz o u)) (tbls:∀ b ps,H b=some (.tbl ps)->∃ more,H' b=some (.tbl (ps++more)))
 (ns:∀ m,s.heap.Ns X.env.locals m->h'.Ns X.env.locals m) (hok:HOk X.prog X.w H' h') (hg:AllBare g') :
 Inv X pins σ H' { s with heap:=h',gens:=g',drawn:=d',toks:=t' }:=by
 have neL:∀ b o,X.s₀.heap.get? b=some o->b≠X.env.locals:=fun b o e=>Bi (Bq (A5 e) I.ok.above)
 have neC:∀ b o,X.s₀.heap.get? b=some o->b∉X.ex->b∉ch:=fun b o e hx hb=>by
  rcases (hch b hb).1 with z | z
  ·exact hx z
  ·exact absurd (Bq (A5 e) z) (CN _)
 have cellK:∀ x c,X.env.cells.lookup x=some c->∀ v,s.heap.IsCell c v->h'.IsCell c v:=fun x c e v ⟨o,ho,hd⟩=>by
  have nch:c∉ch:=fun z=>(hch c z).2.2.1 x c e rfl
  by_cases hc:c∈X.fs
  ·obtain ⟨sl,q⟩:=slot c o (I.cne x c e) hc nch ho (I.freeC x c e)
   exact ⟨_,q,hd⟩
  ·exact ⟨o,keep c o (I.cne x c e) hc nch ho (I.freeC x c e),hd⟩
 refine ⟨I.ok,I.os,hg,⟨fun b o e n hb hx=> ?_,fun b o e n hb hx=> ?_,fun b o e n hx=> ?_,fun b o e hx=> ?_,fun b xs e=>tups b xs (I.base.tups b xs e),fun b o xs e=>frzs b o xs (I.base.frzs b o xs e),fun b ps e=> ?_⟩,?_,fun x c e=> ?_,?_,fun x c e=> ?_,fun p hp=> ?_,hok,I.len⟩
 ·exact keep b o (neL b o e) hb (neC b o e hx) (I.base.keep b o e n hb hx) (I.base.free b o e n hx)
 ·obtain ⟨sl,e1⟩:=I.base.slot b o e n hb hx
  obtain ⟨sl',e2⟩:=slot b _ (neL b o e) hb (neC b o e hx) e1 (I.base.free b o e n hx);exact ⟨sl',e2⟩
 ·obtain ⟨o',e1⟩:=I.base.there b o e hx
  exact free b o' (neC b o e hx) e1 (I.base.free b o e n hx)
 ·obtain ⟨o',e1⟩:=I.base.there b o e hx
  exact there b o' (neC b o e hx) e1
 ·obtain ⟨m1,e1⟩:=I.base.tbls b ps e
  obtain ⟨m2,e2⟩:=tbls b _ e1;exact ⟨m1++m2,by rw [e2,Array.append_assoc]⟩
 ·obtain ⟨m,hn,hl⟩:=I.loc
  refine ⟨m,ns m hn,fun i x v e1 e2 e3=> ?_⟩;obtain ⟨u,r,l⟩:=hl i x v e1 e2 e3;refine ⟨u,r,?_⟩
  rcases l with l | ⟨k,c,e,z⟩
  ·exact .inl l
  ·exact .inr ⟨k,c,e,cellK x c e _ z⟩
 ·obtain ⟨v,z⟩:=I.cell x c e
  exact ⟨v,cellK x c e v z⟩
 ·obtain ⟨m,⟨o,_,_,ho,_⟩,_⟩:=I.loc
  exact free _ o (fun z=>(hch _ z).2.1 rfl) ho I.free
 ·obtain ⟨v,o,ho,hd⟩:=I.cell x c e
  exact free c o (fun z=>(hch c z).2.2.1 x c e rfl) ho (I.freeC x c e)
 ·obtain ⟨e,n,ne,nf,d⟩:=I.pin p hp
  have nch:p.1∉ch:=fun z=>(hch p.1 z).2.2.2 p hp rfl
  exact ⟨keep p.1 p.2 ne nf nch e n,free p.1 p.2 nch e n,ne,nf,d⟩
theorem Inv.un{t':Nat}(I:Inv X pins σ H s)(u:Un X.fs [] H H' s.heap h')(hok:HOk X.prog X.w H' h'):Inv X pins σ H' { s with heap:=h',toks:=t' }:=by
 obtain ⟨m,⟨o,es,ep,ho,r⟩,_⟩:=id I.loc;obtain ⟨sl,hL⟩:=u.any ho I.free (by simp)
 exact I.step (g':=s.gens) (d':=s.drawn) (ch:=[]) (fun _ z=>nomatch z) (fun b o _ hb _ e n=>u.keep b o e n hb (by simp)) (fun b o _ hb _ e n=>u.slot b o e n hb (by simp)) (fun b o _ e n=>u.free b o e n (by simp)) (fun b o _ e=>u.there b o e (by simp)) u.tups u.frzs u.tbls (fun m' hm=>by
  obtain ⟨o',es',ep',ho',r'⟩:=hm;rw [ho] at ho';cases ho'
  exact ⟨_,es',ep',hL,r'⟩) hok I.bare
theorem Inv.call{g':Array GenState}{t':Nat}{d':Drawn}{ch:List Addr}(I:Inv X pins σ H s)(u:Un (frs X.stack) ch H H' s.heap h')(hok:HOk X.prog X.w H' h')(hg:AllBare g')
 (hch:∀ b∈ch,(b∈X.ex\/X.s₀.heap.objs.size<=b)/\b≠X.env.locals/\(∀ x c,X.env.cells.lookup x=some c->c≠b)/\∀ p∈X.pn++pins,p.1≠b) :
 Inv X pins σ H' { s with heap:=h',gens:=g',drawn:=d',toks:=t' }:=by
 obtain ⟨m,⟨o,es,ep,ho,r⟩,_⟩:=id I.loc
 obtain ⟨sl,hL⟩:=u.any ho I.free fun z=>(hch _ z).2.1 rfl
 exact I.step (ch:=ch) hch (fun b o hL hb hc e n=>u.keep b o e n (fun z=>(A9.mp (I.stkSub b z)).elim hL hb) hc) (fun b o _ _ hc e n=>u.any e n hc) (fun b o hc e n=>u.free b o e n hc) (fun b o hc e=>u.there b o e hc) u.tups u.frzs u.tbls (fun m' hm=>by
  obtain ⟨o',es',ep',ho',r'⟩:=hm;rw [ho] at ho';cases ho'
  exact ⟨_,es',ep',hL,r'⟩) hok hg
theorem Inv.turned{t':Nat}{it:Addr}(I:Inv X pins σ H s)(k:∀ b o,b≠it->s.heap.get? b=some o->h'.get? b=some o)(hn:H it=none)(hL:it≠X.env.locals)
 (h1:it∈X.ex\/X.s₀.heap.objs.size<=it) (h2:∀ x c,X.env.cells.lookup x=some c->c≠it) (h3:∀ p∈X.pn++pins,p.1≠it):Inv X pins σ H { s with heap:=h',toks:=t' }:=by
 have nit:∀ b u,H b=some u->b≠it:=fun b u e z=>by rw [z,hn] at e;cases e
 refine I.step (g':=s.gens) (d':=s.drawn) (ch:=[it]) (fun b hb=> ?_) (fun b o _ _ hc e _=>k b o (fun z=>hc (by simp [z])) e) (fun b o _ _ hc e _=>⟨o.slots,k b o (fun z=>hc (by simp [z])) e⟩) (fun _ _ _ _ n=>n)
  (fun b o hc e=>⟨o,k b o (fun z=>hc (by simp [z])) e⟩) (fun _ _ e=>e) (fun _ _ _ e=>e) (fun b ps e=>⟨#[],by rw [e];simp⟩) (fun m hm=> ?_) (fun b u e=> ?_) I.bare
 ·have e:b=it:=by simpa using hb
  subst e;exact ⟨h1,hL,h2,h3⟩
 ·obtain ⟨o,es,ep,ho,r⟩:=hm
  exact ⟨o,es,ep,k _ o (Ne.symm hL) ho,r⟩
 ·refine (I.hok b u e).stay (fun c v hc q=>k c v ?_ q) (fun _ q=>q) fun _ _ q=>q
  rcases hc with z | z
  ·rw [z];exact nit b u e
  ·exact nit c _ z
theorem Inv.tok(I:Inv X pins σ H s)(t:Nat):Inv X pins σ H { s with toks:=t }:=I.un (h':=s.heap) (t':=t) Un.refl I.hok
theorem Inv.kept{t':Nat}(I:Inv X pins σ H s)(k:∀ b u,s.heap.get? b=some u->h'.get? b=some u):Inv X pins σ H { s with heap:=h',toks:=t' }:=I.un (Un.kept k) (I.hok.kept k)
theorem Inv.laid{a:Addr}{o:HO}{t':Nat}(I:Inv X pins σ H s)(k:∀ b u,s.heap.get? b=some u->h'.get? b=some u)(hp:s.heap.objs.size<=a)(new:bf X.prog X.w (upd H a o) h' a o) :
 Inv X pins σ (upd H a o) { s with heap:=h',toks:=t' }:=I.un (Un.laid k hp (I.hok.fresh hp)) (I.hok.laid k hp new)
theorem Inv.write{x e:Addr}{o:HO}{t':Nat}(I:Inv X pins σ H s)(mu:Mut (H x))(he:e=x\/H e=some (.own x))(k:∀ b u,b≠e->s.heap.get? b=some u->h'.get? b=some u)(heo:∃ u,h'.get? e=some u)
 (new:bf X.prog X.w (upd H x o) h' x o):Inv X pins σ (upd H x o) { s with heap:=h',toks:=t' }:=I.un (Un.write mu he k heo) (I.hok.write mu he k heo new)
theorem Inv.weak{σ':List (Option V)}(I:Inv X pins σ H s)(hl:σ'.length=σ.length)(w:∀ (i:Nat) v,σ'[i]?=some (some v)->σ[i]?=some (some v)):Inv X pins σ' H s :=
 ⟨I.ok,I.os,I.bare,I.base,let ⟨m,hn,hl'⟩:=I.loc;⟨m,hn,fun i x v e1 e2 e3=>hl' i x v e1 (w i v e2) e3⟩,I.cell,I.free,I.freeC,I.pin,I.hok,hl.trans I.len⟩
theorem Inv.pins_of{pins':List (Addr×Obj)}(I:Inv X pins σ H s)(h:∀ p∈pins',s.heap.get? p.1=some p.2/\H p.1=none/\p.1≠X.env.locals/\p.1∉X.fs/\∀ v,p.2.data ≠ .cell v):Inv X pins' σ H s :=
 ⟨I.ok,I.os,I.bare,I.base,I.loc,I.cell,I.free,I.freeC,fun p hp=>(Bd.mp hp).elim (fun z=>I.pin p (AU _ z)) (h p),I.hok,I.len⟩
theorem pA{N:List Str}(hN:N.Nodup){i j:Nat}{x:Str}(a:N[i]?=some x)(b:N[j]?=some x):i=j:=by
 obtain ⟨h1,e1⟩:=Be.mp a;obtain ⟨h2,e2⟩:=Be.mp b;exact (List.getElem_inj hN).mp (e1.trans e2.symm)
theorem md{M:Model}{A:Around}{E:Value->Shared->Prop}{i:Nat}{x:Str}{v:V}{u:Value}{Q:Unit->Shared->Prop}(I:Inv X pins σ H s)(hN:X.N.Nodup)(hi:X.N[i]?=some x)(hx:Loc X.env.scope x)(r:aB v u)
 (h:∀ s',Inv X pins (σ.set i (some v)) H s'->(∃ a,Heap.SameBut a s.heap s'.heap/\(a=X.env.locals\/X.env.cells.lookup x=some a))->Q () s') (hf:X.fn x=true\/X.env.scope.names.lookup x=some .local:=by first | exact .inl rfl | exact .inr rfl | assumption):wpAny M A (storeName X.env x u) Q E s:=by
 obtain ⟨m,hn,hl⟩:=id I.loc
 have hcls:(X.env.scope.kind == .class||(X.env.scope.kind == .module&&X.env.locals != X.env.globals))=false:=by rw [I.ok.kind];rfl
 have hiσ:i < σ.length:=by rw [I.len];exact (Be.mp hi).1
 have cne:=I.cne
 have tracked:∀ {a:Addr} {h':Heap},(∃ o,s.heap.get? a=some o/\H a=none)->Heap.SameBut a s.heap h'->HOk X.prog X.w H h':=fun {a h'} ha hs b ob e=>by
  obtain ⟨_,_,hfree⟩:=ha
  refine (I.hok b ob e).stay (fun c w' hc q=>(hs.2 c ?_).trans q) (fun _ q=>q) fun _ _ q=>q
  rintro rfl
  rcases hc with rfl | hc
  ·rw [hfree] at e;cases e
  ·rw [hfree] at hc;cases hc
 rcases hx with hk | hk
 ·refine wpAny_storeName_local hk hn (fun h' hn' hs=> ?_) hcls
  obtain ⟨oL,_,_,hoL,_⟩:=id hn;refine h _ ⟨I.ok,I.os,I.bare,⟨fun b o e n hb hx=> ?_,fun b o e n hb hx=> ?_,I.base.free,fun b o e hx=> ?_,I.base.tups,I.base.frzs,I.base.tbls⟩,⟨_,hn',fun j y v' e1 e2 e3=> ?_⟩,fun y c e=> ?_,I.free,I.freeC,fun p hp=> ?_,tracked ⟨oL,hoL,I.free⟩ hs,by simpa using I.len⟩ ⟨_,hs,.inl rfl⟩
  ·exact (hs.2 b (Bi (Bq (A5 e) I.ok.above))).trans (I.base.keep b o e n hb hx)
  ·obtain ⟨sl,e1⟩:=I.base.slot b o e n hb hx
   exact ⟨sl,(hs.2 b (Bi (Bq (A5 e) I.ok.above))).trans e1⟩
  ·obtain ⟨o',e1⟩:=I.base.there b o e hx
   exact ⟨o',(hs.2 b (Bi (Bq (A5 e) I.ok.above))).trans e1⟩
  ·by_cases hj:j=i
   ·subst hj
    rw [hi] at e1;cases e1;rw [B0 hiσ] at e2;cases e2;exact ⟨u,r,.inl ⟨hk,by simp⟩⟩
   ·rw [BB (Ne.symm hj)] at e2
    obtain ⟨u',r',q⟩:=hl j y v' e1 e2 e3;refine ⟨u',r',?_⟩
    rcases q with ⟨k,e⟩ | ⟨k,c,e,z⟩
    ·refine .inl ⟨k,?_⟩
     have:y≠x:=fun e=>hj (pA hN e1 (e ▸ hi))
     simp [this,e]
    ·exact .inr ⟨k,c,e,z.sameBut hs (cne y c e)⟩
  ·obtain ⟨w',z⟩:=I.cell y c e
   exact ⟨w',z.sameBut hs (cne y c e)⟩
  ·obtain ⟨e,n,ne,nf,d⟩:=I.pin p hp
   exact ⟨(hs.2 p.1 ne).trans e,n,ne,nf,d⟩
 ·have hfn:X.fn x=true:=by
   rcases hf with z | z
   ·exact z
   ·rw [z] at hk;cases hk
  obtain ⟨c,hc⟩:=I.ok.has x (.inl hk);obtain ⟨w',z⟩:=I.cell x c hc;refine wpAny_storeName_cell I.ok.kind hk hc z (fun h' hc' hs=> ?_);obtain ⟨oc,hoc,hocd⟩:=id z;refine h { s with heap:=h' } ⟨I.ok,I.os,I.bare,⟨fun b o e n hb hx=> ?_,fun b o e n hb hx=> ?_,I.base.free,fun b o e hx=> ?_,I.base.tups,I.base.frzs,I.base.tbls⟩,⟨m,hn.sameBut hs (Ne.symm (cne x c hc)),fun j y v' e1 e2 e3=> ?_⟩,fun y c' e=> ?_,I.free,I.freeC,fun p hp=> ?_,tracked ⟨oc,hoc,I.freeC x c hc⟩ hs,by simpa using I.len⟩ ⟨c,hs,.inr hc⟩
  ·exact (hs.2 b (Bi (Bq (A5 e) (I.ok.cab x c hfn hc)))).trans (I.base.keep b o e n hb hx)
  ·obtain ⟨sl,e1⟩:=I.base.slot b o e n hb hx
   exact ⟨sl,(hs.2 b (Bi (Bq (A5 e) (I.ok.cab x c hfn hc)))).trans e1⟩
  ·obtain ⟨o',e1⟩:=I.base.there b o e hx
   exact ⟨o',(hs.2 b (Bi (Bq (A5 e) (I.ok.cab x c hfn hc)))).trans e1⟩
  ·by_cases hj:j=i
   ·subst hj
    rw [hi] at e1;cases e1;rw [B0 hiσ] at e2;cases e2;exact ⟨u,r,.inr ⟨.inl hk,c,hc,hc'⟩⟩
   ·rw [BB (Ne.symm hj)] at e2
    obtain ⟨u',r',q⟩:=hl j y v' e1 e2 e3;refine ⟨u',r',?_⟩
    rcases q with q | ⟨k,c',e,z'⟩
    ·exact .inl q
    ·refine .inr ⟨k,c',e,z'.sameBut hs ?_⟩
     rintro rfl;exact hj (pA hN e1 (I.ok.inj _ _ _ e hc ▸ hi))
  ·by_cases hcc:c'=c
   ·subst hcc;exact ⟨_,hc'⟩
   ·obtain ⟨w2,z2⟩:=I.cell y c' e
    exact ⟨w2,z2.sameBut hs hcc⟩
  ·obtain ⟨e,n,ne,nf,d⟩:=I.pin p hp
   refine ⟨(hs.2 p.1 ?_).trans e,n,ne,nf,d⟩;intro q;rw [q,hoc] at e;have q':oc=p.2:=Option.some.inj e;exact d w' (by rw [<- q'];exact hocd)
theorem oR{M:Model}{A:Around}{E:Value->Shared->Prop}{i:Nat}{x:Str}{v:V}{u:Value}{Q:Unit->Shared->Prop}(I:Inv X pins σ H s)(hN:X.N.Nodup)(hi:X.N[i]?=some x)(hx:Loc X.env.scope x)(r:aB v u)
 (h:∀ s',Inv X pins (σ.set i (some v)) H s'->Q () s') (hf:X.fn x=true\/X.env.scope.names.lookup x=some .local:=by first | exact .inl rfl | exact .inr rfl | assumption):wpAny M A (storeName X.env x u) Q E s :=
 md I hN hi hx r (fun s' I' _=>h s' I') hf
theorem Inv.call'{s':Shared}{ch:List Addr}(I:Inv X pins σ H s)(ho:s'.os=s.os)(u:Un (frs X.stack) ch H H' s.heap s'.heap)(hok:HOk X.prog X.w H' s'.heap)(hg:AllBare s'.gens)
 (hch:∀ b∈ch,(b∈X.ex\/X.s₀.heap.objs.size<=b)/\b≠X.env.locals/\(∀ x c,X.env.cells.lookup x=some c->c≠b)/\∀ p∈X.pn++pins,p.1≠b):Inv X pins σ H' s':=by
 obtain ⟨h',g',d',t',o'⟩:=s';have e:o'=s.os:=ho;subst e;exact I.call (g':=g') (t':=t') (d':=d') u hok hg hch
end
abbrev XK:=Value->Option Addr->Hp->Prop
abbrev St:=List (Option V)
abbrev VK:=V->Hp->Prop
abbrev TE:=St->Hp->VK->Prop
abbrev TT:=St->Hp->(Bool->Hp->Prop)->Prop
abbrev TA:=St->Hp->(List V->Hp->Prop)->Prop
structure j8 where
 nx:St->Hp->Prop
 rt:VK
 bk:St->Hp->Prop:=fun _ _=>False
 ct:St->Hp->Prop:=fun _ _=>False
abbrev TS:=j8->St->Hp->Prop
def EP(X:Cx)(pins:List (Addr×Obj))(σ:St)(Q:VK)(u:Value)(s':Shared):Prop:=∃ v H',Inv X pins σ H' s'/\aB v u/\Q v H'
def TP(X:Cx)(pins:List (Addr×Obj))(σ:St)(Q:Bool->Hp->Prop)(b:Bool)(s':Shared):Prop:=∃ H',Inv X pins σ H' s'/\Q b H'
def AP(X:Cx)(pins:List (Addr×Obj))(σ:St)(Q:List V->Hp->Prop)(us:List Value)(s':Shared):Prop:=∃ vs H',Inv X pins σ H' s'/\ar vs us/\Q vs H'
def SP(X:Cx)(pins:List (Addr×Obj))(D:j8)(f:Flow)(s':Shared):Prop :=
 match f with
 | .next=>∃ σ' H',Inv X pins σ' H' s'/\D.nx σ' H'
 | .brk=>∃ σ' H',Inv X pins σ' H' s'/\D.bk σ' H'
 | .cont=>∃ σ' H',Inv X pins σ' H' s'/\D.ct σ' H'
 | .ret u=>∃ v σ' H',Inv X pins σ' H' s'/\aB v u/\D.rt v H'
def PE(X:Cx)(e:Expr)(t:TE):Prop :=
 ∀ (pins:List (Addr×Obj)) (s:Shared) (σ:St) (H:Hp) (Q:VK),Inv X pins σ H s->t σ H Q->wpAny (model X.prog X.w) X.A (eval e X.env) (EP X pins σ Q) X.xe s
def PT(X:Cx)(e:Expr)(t:TT):Prop :=
 ∀ (pins:List (Addr×Obj)) (s:Shared) (σ:St) (H:Hp) (Q:Bool->Hp->Prop),Inv X pins σ H s->t σ H Q->wpAny (model X.prog X.w) X.A (isTrue e X.env (eval e X.env)) (TP X pins σ Q) X.xe s
def PW(X:Cx)(e:Expr)(t:TT):Prop :=
 ∀ (whole:Sem Value) (pins:List (Addr×Obj)) (s:Shared) (σ:St) (H:Hp) (Q:Bool->Hp->Prop),Inv X pins σ H s->t σ H Q->wpAny (model X.prog X.w) X.A (isTrue e X.env whole) (TP X pins σ Q) X.xe s
theorem PW.pt{X:Cx}{e:Expr}{t:TT}(h:PW X e t):PT X e t:=h _
def PA(X:Cx)(es:List Expr)(t:TA):Prop :=
 ∀ (pos:Pos) (pins:List (Addr×Obj)) (s:Shared) (σ:St) (H:Hp) (Q:List V->Hp->Prop),Inv X pins σ H s->t σ H Q->wpAny (model X.prog X.w) X.A (spliced (backTo pos (starEach es X.env))) (AP X pins σ Q) X.xe s
def PS(X:Cx)(st:Stmt)(t:TS):Prop :=
 ∀ (pins:List (Addr×Obj)) (s:Shared) (σ:St) (H:Hp) (D:j8),Inv X pins σ H s->t D σ H->wpAny (model X.prog X.w) X.A (exec st X.env) (SP X pins D) X.xe s
def PSs(X:Cx)(st:List Stmt)(t:TS):Prop :=
 ∀ (pins:List (Addr×Obj)) (s:Shared) (σ:St) (H:Hp) (D:j8),Inv X pins σ H s->t D σ H->wpAny (model X.prog X.w) X.A (execs st X.env) (SP X pins D) X.xe s
theorem thn{α:Type}{t:Sem α}{Q Q':α->Shared->Prop}{M:Model}{A:Around}{E:Value->Shared->Prop}{s:Shared}(h:wpAny M A t Q E s)(hQ:∀ a s,Q a s->Q' a s):wpAny M A t Q' E s:=B9 h hQ fun _ _ x=>x
section
variable{X:Cx}
theorem bin{a b:Expr}{ta tb:TE}(ha:PE X a ta)(hb:PE X b tb){pins:List (Addr×Obj)}{s:Shared}{σ:St}{H:Hp}{R:V->V->Hp->Prop}(I:Inv X pins σ H s)(h:ta σ H fun x H1=>tb σ H1 fun y H2=>R x y H2)
 {α:Type} {Q:α->Shared->Prop} {f:Value->Value->Sem α}
 (hf:∀ v u s2 x y H2,Inv X pins σ H2 s2->aB x v->aB y u->R x y H2->wpAny (model X.prog X.w) X.A (f v u) Q X.xe s2) :
 wpAny (model X.prog X.w) X.A (eval a X.env) (fun v s₁=>wpAny (model X.prog X.w) X.A (eval b X.env) (fun u s₂=>wpAny (model X.prog X.w) X.A (f v u) Q X.xe s₂) X.xe s₁) X.xe s:=by
 refine thn (ha pins s σ H _ I h) fun v s1 ⟨x,H1,I1,r1,q1⟩=> ?_
 refine thn (hb pins s1 σ H1 _ I1 q1) fun u s2 ⟨y,H2,I2,r2,q2⟩=> ?_
 exact hf v u s2 x y H2 I2 r1 r2 q2
def vm(i:Nat):TE:=fun σ H Q=>∃ v,σ[i]?=some (some v)/\Q v H
def tC(v:V):TE:=fun _ H Q=>Q v H
theorem hX{i:Nat}{x:Str}{pos:Pos}(hN:X.N[i]?=some x)(hv:Vis X.env.scope x)(hd:(x == ("__debug__" : Str))=false:=by decide)(hcd:(x == ("__classdict__" : Str))=false:=by decide):PE X (.Name x pos) (vm i):=by
 intro pins s σ H Q I h;obtain ⟨v,e,h⟩:=h;obtain ⟨m,hn,hl⟩:=I.loc;obtain ⟨u,r,l⟩:=hl i x v hN e hv;have fin:EP X pins σ Q u s:=⟨v,H,I,r,h⟩
 rcases l with ⟨hk,hm⟩ | ⟨hk,c,hc,hcell⟩
 ·exact wpAny_Name (wpAny_loadName_local I.ok.kind hk hn hm fin) hd
 ·rcases hk with hk | hk
  ·exact wpAny_Name (wpAny_loadName_cell I.ok.kind hk hc hcell fin) hd
  ·exact wpAny_Name (wpAny_loadName_free I.ok.kind hk hc hcell fin hcd) hd
theorem kO{i j pos}:PE X (.Constant (.int i) j pos) (tC (.int i)):=fun _ _ _ H _ I h=>wpAny_Constant_int ⟨.int i,H,I.tok _,⟨_,rfl⟩,h⟩
theorem AA{b j pos}:PE X (.Constant (.bool b) j pos) (tC (.bl b)):=fun _ _ _ H _ I h=>Constant_bool ⟨.bl b,H,I,rfl,h⟩
theorem pe_non{j pos}:PE X (.Constant .none j pos) (tC .non):=fun _ _ _ H _ I h=>Constant_none ⟨.non,H,I,rfl,h⟩
theorem pe_str{x j pos}:PE X (.Constant (.str x) j pos) (tC (.str x)):=fun _ _ _ H _ I h=>Calls.Constant_str ⟨.str x,H,I.tok _,⟨_,rfl⟩,h⟩
def Gl(X:Cx)(x:Str):Prop:=X.env.kindOf x=some .globalImplicit
theorem nN{E:Value->Shared->Prop}{pins:List (Addr×Obj)}{s:Shared}{σ:St}{H:Hp}{x:Str}{u:Value}{pos:Pos}{Q:Value->Shared->Prop}(I:Inv X pins σ H s)(hg:Gl X x)(hm:X.mg x=some u)(h:Q u s)
 (hd:(x == ("__debug__" : Str))=false:=by decide):wpAny (model X.prog X.w) X.A (eval (.Name x pos) X.env) Q E s :=
 Calls.Name_function_global I.ok.kind hg (Calls.loadGlobal_global (by rw [I.ok.glob];exact I.mod.glob.keeps I.bk) hm h) hd
theorem f8{E:Value->Shared->Prop}{pins:List (Addr×Obj)}{s:Shared}{σ:St}{H:Hp}{x:Str}{u:Value}{pos:Pos}{Q:Value->Shared->Prop}(I:Inv X pins σ H s)(hg:Gl X x)(hm:X.mg x=none)(hv:bootBuiltins x=some u)(h:Q u s)
 (hn:x ≠ "__name__" := by decide) (hd:(x == ("__debug__" : Str))=false:=by decide):wpAny (model X.prog X.w) X.A (eval (.Name x pos) X.env) Q E s:=by
 obtain ⟨mb,h1,h2⟩:=I.mod.blt;exact Calls.Name_function_global I.ok.kind hg (Calls.loadGlobal_builtin (by rw [I.ok.glob];exact I.mod.glob.keeps I.bk) hm (by rw [I.ok.blt];exact h1.keeps I.bk) ((h2 x hn).trans hv) h) hd
theorem yP{x:Str}{v:V}{u:Value}{pos:Pos}(hg:Gl X x)(hm:X.mg x=some u)(r:aB v u)(hd:(x == ("__debug__" : Str))=false:=by decide):PE X (.Name x pos) (tC v) :=
 fun _ _ _ H _ I h=>nN I hg hm ⟨v,H,I,r,h⟩ hd
theorem yT{x:Str}{v:V}{u:Value}{pos:Pos}(hg:Gl X x)(hm:X.mg x=none)(hv:bootBuiltins x=some u)(r:aB v u)(hn:x ≠ "__name__" := by decide)(hd:(x == ("__debug__" : Str))=false:=by decide):PE X (.Name x pos) (tC v) :=
 fun _ _ _ H _ I h=>f8 I hg hm hv ⟨v,H,I,r,h⟩ hn hd
variable{a b:Expr}{ta tb:TE}{pos:Pos}
variable{tA tB':TT}{rest:List Expr}
def tAnd(t u:TT):TT:=fun σ H Q=>t σ H fun c H1=>if c=true then u σ H1 Q else Q false H1
def tOr(t u:TT):TT:=fun σ H Q=>t σ H fun c H1=>if c=true then Q true H1 else u σ H1 Q
def tNot(t:TT):TT:=fun σ H Q=>t σ H fun c H1=>Q (!c) H1
theorem yF(ha:PT X a tA):PW X (.BoolOp .And [a] pos) tA:=by
 intro wh pins s σ H Q I h;refine isTrue_and (thn (ha pins s σ H Q I h) fun c s1 e=> ?_)
 cases c with
 | true=>exact isTrue_and_nil e
 | false=>exact e
theorem pw_or1(ha:PT X a tA):PW X (.BoolOp .Or [a] pos) tA:=by
 intro wh pins s σ H Q I h;refine isTrue_or (thn (ha pins s σ H Q I h) fun c s1 e=> ?_)
 cases c with
 | false=>exact isTrue_or_nil e
 | true=>exact e
theorem pw_and(ha:PT X a tA)(hb:PW X (.BoolOp .And (b::rest) pos) tB'):PW X (.BoolOp .And (a::b::rest) pos) (tAnd tA tB'):=by
 intro wh pins s σ H Q I h;refine isTrue_and (thn (ha pins s σ H _ I h) fun c s1 ⟨H1,I1,q1⟩=> ?_)
 cases c with
 | true=>exact hb wh pins s1 σ H1 Q I1 q1
 | false=>exact ⟨H1,I1,q1⟩
theorem pw_or(ha:PT X a tA)(hb:PW X (.BoolOp .Or (b::rest) pos) tB'):PW X (.BoolOp .Or (a::b::rest) pos) (tOr tA tB'):=by
 intro wh pins s σ H Q I h;refine isTrue_or (thn (ha pins s σ H _ I h) fun c s1 ⟨H1,I1,q1⟩=> ?_)
 cases c with
 | true=>exact ⟨H1,I1,q1⟩
 | false=>exact hb wh pins s1 σ H1 Q I1 q1
theorem pt_not(ha:PT X a tA):PT X (.UnaryOp .Not a pos) (tNot tA):=by
 intro pins s σ H Q I h;exact isTrue_not (ha pins s σ H (fun c H1=>Q (!c) H1) I h)
def tAndV(ta tb:TE):TE:=fun σ H Q=>ta σ H fun x H1=>∃ c,x = .bl c/\if c=true then tb σ H1 Q else Q (.bl false) H1
def tOrV(ta tb:TE):TE:=fun σ H Q=>ta σ H fun x H1=>∃ c,x = .bl c/\if c=true then Q (.bl true) H1 else tb σ H1 Q
def tNotV(ta:TE):TE:=fun σ H Q=>ta σ H fun x H1=>∃ c,x = .bl c/\Q (.bl (!c)) H1
theorem pe_one{op}{t:TE}(h:PE X a t):PE X (.BoolOp op [a] pos) t:=fun pins s σ H Q I hw=>BoolOp_one (h pins s σ H Q I hw)
theorem pe_and(ha:PE X a ta)(hb:PE X (.BoolOp .And (b::rest) pos) tb):PE X (.BoolOp .And (a::b::rest) pos) (tAndV ta tb):=by
 intro pins s σ H Q I h;refine BoolOp_and (thn (ha pins s σ H _ I h) fun v s1 ⟨x,H1,I1,r1,q1⟩=> ?_);obtain ⟨c,rfl,q1⟩:=q1;cases r1;refine Ch ?_
 cases c with
 | true=>exact hb pins s1 σ H1 Q I1 q1
 | false=>exact ⟨.bl false,H1,I1,rfl,q1⟩
theorem pe_or(ha:PE X a ta)(hb:PE X (.BoolOp .Or (b::rest) pos) tb):PE X (.BoolOp .Or (a::b::rest) pos) (tOrV ta tb):=by
 intro pins s σ H Q I h;refine BoolOp_or (thn (ha pins s σ H _ I h) fun v s1 ⟨x,H1,I1,r1,q1⟩=> ?_);obtain ⟨c,rfl,q1⟩:=q1;cases r1;refine Ch ?_
 cases c with
 | false=>exact hb pins s1 σ H1 Q I1 q1
 | true=>exact ⟨.bl true,H1,I1,rfl,q1⟩
theorem pe_not(ha:PE X a ta):PE X (.UnaryOp .Not a pos) (tNotV ta):=by
 intro pins s σ H Q I h;refine UnaryOp_ (thn (ha pins s σ H _ I h) fun v s1 ⟨x,H1,I1,r1,q1⟩=> ?_);obtain ⟨c,rfl,q1⟩:=q1;cases r1;exact not_of (Ch ⟨.bl (!c),H1,I1,rfl,q1⟩)
end
def SqL(K:Df)(H:Hp)(a:Addr)(xs:List V):Prop :=
 Rd H a (.lst xs) \/
  ∃ (o:Obj) (its:Array Value) (n:Nat),K.lookup a=some o/\o.cls = .type "list" /\ o.dict=none/\o.data = .seq its n/\its.size<=sizeLine/\ar xs its.toList
def SqT(K:Df)(H:Hp)(a:Addr)(xs:List V):Prop :=
 Rd H a (.tup xs) \/
  ∃ (o:Obj) (its:Array Value) (n:Nat),K.lookup a=some o/\o.cls = .type "tuple" /\ o.data = .seq its n/\its.size<=sizeLine/\ar xs its.toList
def absV:Value->Option V
 | .none=>some .non
 | .bool b=>some (.bl b)
 | .int i _=>some (.int i)
 | .str x _=>some (.str x)
 | .bytes b _=>some (.byt b)
 | .float b _=>some (.flt b)
 | .ref a=>some (.ref a)
 | .type n=>some (.ty n)
 | _=>none
theorem aB.abs{x:V}{u:Value}(r:aB x u):absV u=some x:=by
 cases x with
 | non=>cases r;rfl
 | bl _=>cases r;rfl
 | int _=>obtain ⟨t,rfl⟩:=r;rfl
 | str _=>obtain ⟨t,rfl⟩:=r;rfl
 | byt _=>obtain ⟨t,rfl⟩:=r;rfl
 | flt _=>obtain ⟨t,rfl⟩:=r;rfl
 | ref _=>cases r;rfl
 | ty _=>cases r;rfl
theorem aB.inj{x y:V}{u:Value}(r:aB x u)(q:aB y u):x=y:=Option.some.inj (r.abs.symm.trans q.abs)
theorem ar.inj:∀ {xs ys:List V} {us:List Value},ar xs us->ar ys us->xs=ys
 | _,_,_,.nil,.nil=>rfl
 | _,_,_,.cons r t,.cons r' t'=>by rw [r.inj r',ar.inj t t']
section
variable{X:Cx}{pins:List (Addr×Obj)}{σ:St}{H:Hp}{s:Shared}{a:Addr}{xs ys:List V}
theorem Inv.list(I:Inv X pins σ H s)(h:SqL X.K H a xs):∃ its:List Value,ar xs its/\PlainL s.heap a its.toArray/\xs.length<=sizeLine:=by
 rcases h with h | ⟨o,its,n,hk,hc,hd,hs,hz,r⟩
 ·obtain ⟨z,its,n,r,e⟩:=h.ok I.hok
  exact ⟨its,r,⟨_,n,e,rfl,rfl,rfl⟩,z⟩
 ·refine ⟨its.toList,r,⟨o,n,I.kIn a o hk,hc,hd,by simpa using hs⟩,?_⟩
  have e:=r.length;simp only [BL] at e;omega
theorem Inv.tuple(I:Inv X pins σ H s)(h:SqT X.K H a xs):∃ its:List Value,ar xs its/\IsTup s.heap a its.toArray/\xs.length<=sizeLine:=by
 rcases h with h | ⟨o,its,n,hk,hc,hs,hz,r⟩
 ·obtain ⟨z,its,r,p⟩:=h.ok I.hok
  exact ⟨its,r,p,z⟩
 ·refine ⟨its.toList,r,⟨o,I.kIn a o hk,hc,n,by simpa using hs⟩,?_⟩
  have e:=r.length;simp only [BL] at e;omega
theorem Inv.list_inj(I:Inv X pins σ H s)(h:SqL X.K H a xs)(h':SqL X.K H a ys):xs=ys:=by
 obtain ⟨its,r,⟨o,n,e,_,_,d⟩,_⟩:=I.list h;obtain ⟨its',r',⟨o',n',e',_,_,d'⟩,_⟩:=I.list h';rw [e] at e';cases e';rw [d] at d'
 injection d' with d1 _
 have:its=its':=by simpa using congrArg Array.toList d1
 subst this;exact r.inj r'
theorem Inv.tuple_inj(I:Inv X pins σ H s)(h:SqT X.K H a xs)(h':SqT X.K H a ys):xs=ys:=by
 obtain ⟨its,r,⟨o,e,_,n,d⟩,_⟩:=I.tuple h;obtain ⟨its',r',⟨o',e',_,n',d'⟩,_⟩:=I.tuple h';rw [e] at e';cases e';rw [d] at d'
 injection d' with d1 _
 have:its=its':=by simpa using congrArg Array.toList d1
 subst this;exact r.inj r'
end
abbrev Cx.wish(X:Cx)(E:Value->Shared->Prop):Cx:={ X with xe:=E }
abbrev Cx.nox(X:Cx):Cx:=X.wish fun _ _=>False
theorem Cx.Ok.wish{X:Cx}(ok:X.Ok)(E:Value->Shared->Prop):(X.wish E).Ok :=
 ⟨ok.mod,ok.kind,ok.glob,ok.blt,ok.above,ok.inj,ok.has,ok.cab,ok.hd,ok.frames,ok.stk,ok.exf,ok.bs,ok.bsz,ok.noex,ok.exfs,ok.funs,ok.frf⟩
theorem Cx.Ok.unwish{X:Cx}{E:Value->Shared->Prop}(ok:(X.wish E).Ok):X.Ok :=
 ⟨ok.mod,ok.kind,ok.glob,ok.blt,ok.above,ok.inj,ok.has,ok.cab,ok.hd,ok.frames,ok.stk,ok.exf,ok.bs,ok.bsz,ok.noex,ok.exfs,ok.funs,ok.frf⟩
section
variable{X:Cx}{pins:List (Addr×Obj)}{σ:St}{H:Hp}{s:Shared}{E:Value->Shared->Prop}
theorem Inv.wish(I:Inv X pins σ H s)(E:Value->Shared->Prop):Inv (X.wish E) pins σ H s:=⟨I.ok.wish E,I.os,I.bare,I.base,I.loc,I.cell,I.free,I.freeC,I.pin,I.hok,I.len⟩
theorem Inv.unwish(I:Inv (X.wish E) pins σ H s):Inv X pins σ H s:=⟨I.ok.unwish,I.os,I.bare,I.base,I.loc,I.cell,I.free,I.freeC,I.pin,I.hok,I.len⟩
theorem SP.unwish{D:j8}{f:Flow}{s':Shared}(h:SP (X.wish E) pins D f s'):SP X pins D f s':=by
 cases f with
 | next=>obtain ⟨σ',H',I,q⟩:=h;exact ⟨σ',H',I.unwish,q⟩
 | brk=>obtain ⟨σ',H',I,q⟩:=h;exact ⟨σ',H',I.unwish,q⟩
 | cont=>obtain ⟨σ',H',I,q⟩:=h;exact ⟨σ',H',I.unwish,q⟩
 | ret u=>obtain ⟨v,σ',H',I,r,q⟩:=h;exact ⟨v,σ',H',I.unwish,r,q⟩
theorem PSs.nox{st:List Stmt}{t:TS}(h:PSs X.nox st t):PSs X st t:=fun pins s σ H D I hw =>
 B9 (h pins s σ H D (I.wish _) hw) (fun _ _ q=>q.unwish) fun _ _ z=>False.elim z
end
section
variable{X:Cx}{st:Stmt}{rest:List Stmt}{t u:TS}{e:Expr}{te:TE}{pos:Pos}
def tNext:TS:=fun D σ H=>D.nx σ H
def tSeq(t u:TS):TS:=fun D σ H=>t { D with nx:=u D } σ H
theorem yJ:PSs X [] tNext:=fun _ _ σ H _ I h=>wpAny_execs_nil ⟨σ,H,I,h⟩
theorem iP(h1:PS X st t)(h2:PSs X rest u):PSs X (st::rest) (tSeq t u):=by
 intro pins s σ H D I h;refine wpAny_execs_cons (thn (h1 pins s σ H { D with nx:=u D } I h) fun f s1 q=> ?_)
 cases f with
 | next =>
  obtain ⟨σ',H',I',q⟩:=q;exact h2 pins s1 σ' H' D I' q
 | ret v=>exact q
 | brk=>exact q
 | cont=>exact q
theorem nv(h1:PS X st t):PSs X [st] t:=by
 intro pins s σ H D I h;refine wpAny_execs_cons (thn (h1 pins s σ H D I h) fun f s1 q=> ?_)
 cases f with
 | next=>exact wpAny_execs_nil q
 | ret v=>exact q
 | brk=>exact q
 | cont=>exact q
theorem Inv.quiet{pins:List (Addr×Obj)}{σ:St}{H:Hp}{s:Shared}(I:Inv X pins σ H s):interactive X.env=false:=by simp [interactive,I.ok.kind]
def tDrop(te:TE):TS:=fun D σ H=>te σ H fun _ H1=>D.nx σ H1
theorem nA(he:PE X e te)(hs:swapsWith e none pos.line X.env=pure false:=by rfl):PS X (.Expr e pos) (tDrop te):=by
 intro pins s σ H D I h;exact wpAny_Expr_any (thn (he pins s σ H _ I h) fun v s1 ⟨x,H1,I1,r1,q1⟩=>⟨σ,H1,I1,q1⟩) I.quiet hs
def tRet(te:TE):TS:=fun D σ H=>te σ H D.rt
theorem qJ(he:PE X e te):PS X (.Return (some e) pos) (tRet te):=by
 intro pins s σ H D I h;exact wpAny_Return_some (thn (he pins s σ H _ I h) fun v s1 ⟨x,H1,I1,r1,q1⟩=>⟨x,σ,H1,I1,r1,q1⟩)
def tIfS(c:TT)(t u:TS):TS:=fun D σ H=>c σ H fun b H1=>if b=true then t D σ H1 else u D σ H1
theorem ps_if{c:Expr}{a b:List Stmt}{tc:TT}(hc:PT X c tc)(ha:PSs X a t)(hb:PSs X b u):PS X (.If c a b pos) (tIfS tc t u):=by
 intro pins s σ H D I h;refine wpAny_If (thn (hc pins s σ H _ I h) fun d s1 ⟨H1,I1,q1⟩=> ?_)
 cases d with
 | true=>exact ha pins s1 σ H1 D I1 q1
 | false=>exact hb pins s1 σ H1 D I1 q1
end
abbrev TG:=V->St->Hp->(St->Hp->Prop)->Prop
abbrev TGs:=List V->St->Hp->(St->Hp->Prop)->Prop
def PG(X:Cx)(target:Expr)(t:TG):Prop :=
 ∀ (pins:List (Addr×Obj)) (s:Shared) (σ:St) (H:Hp) (v:V) (u:Value) (Q:St->Hp->Prop),Inv X pins σ H s->aB v u->t v σ H Q ->
  wpAny (model X.prog X.w) X.A (assign target X.env u) (fun _ s'=>∃ σ' H',Inv X pins σ' H' s'/\Q σ' H') X.xe s
def PGs(X:Cx)(ts:List Expr)(t:TGs):Prop :=
 ∀ (pins:List (Addr×Obj)) (s:Shared) (σ:St) (H:Hp) (vs:List V) (us:List Value) (Q:St->Hp->Prop),Inv X pins σ H s->ar vs us->t vs σ H Q ->
  wpAny (model X.prog X.w) X.A (assignInOrder ((assignEach ts X.env).map (·.2)) us) (fun _ s'=>∃ σ' H',Inv X pins σ' H' s'/\Q σ' H') X.xe s
abbrev TSet:=V->V->V->Hp->(Hp->Prop)->Prop
def PSet(X:Cx)(t:TSet):Prop :=
 ∀ (pins:List (Addr×Obj)) (s:Shared) (σ:St) (H:Hp) (o i v:V) (ov iv u:Value) (Q:Hp->Prop),Inv X pins σ H s->aB o ov->aB i iv->aB v u->t o i v H Q ->
  wpAny (model X.prog X.w) X.A (setItem ov iv u) (fun _ s'=>∃ H',Inv X pins σ H' s'/\Q H') X.xe s
section
variable{X:Cx}{pos:Pos}
def sQ(i:Nat):TG:=fun v σ H Q=>Q (σ.set i (some v)) H
theorem kd{i:Nat}{x:Str}(hN:X.N.Nodup)(hi:X.N[i]?=some x)(hx:Loc X.env.scope x)(hf:X.fn x=true\/X.env.scope.names.lookup x=some .local:=by first | exact .inl rfl | exact .inr rfl | assumption):PG X (.Name x pos) (sQ i):=by
 intro pins s σ H v u Q I r h;exact wpAny_assign_Name (oR I hN hi hx r (fun s' I'=>⟨_,H,I',h⟩) hf)
def gNil:TGs:=fun vs σ H Q=>vs=[]/\Q σ H
def AG(t:TG)(u:TGs):TGs:=fun vs σ H Q=>∃ v r,vs=v::r/\t v σ H fun σ' H'=>u r σ' H' Q
theorem sw:PGs X [] gNil:=by
 intro pins s σ H vs us Q I r h;obtain ⟨e,h⟩:=h;subst e;cases r;exact assignInOrder_nil ⟨σ,H,I,h⟩
theorem kK{e:Expr}{es:List Expr}{t:TG}{u:TGs}(h1:PG X e t)(h2:PGs X es u)
 (hs:(assignEach (e::es) X.env).map (·.2)=assign e X.env::(assignEach es X.env).map (·.2):=by rfl):PGs X (e::es) (AG t u):=by
 intro pins s σ H vs us Q I r h;obtain ⟨v,vr,e1,h⟩:=h;subst e1
 cases r with
 | cons r rr =>
  rw [hs];refine assignInOrder_cons (thn (h1 pins s σ H _ _ _ I r h) fun _ s1 ⟨σ1,H1,I1,q1⟩=> ?_);exact h2 pins s1 σ1 H1 _ _ Q I1 rr q1
def gTup(K:Df)(n:Nat)(t:TGs):TG:=fun v σ H Q=>∃ a xs,v = .ref a/\SqT K H a xs/\xs.length=n/\t xs σ H Q
theorem v8{es:List Expr}{k:Nat}{t:TGs}{n:Nat}(hc:X.calm=true)(h:PGs X es t)
 (hn:(assignEach es X.env).length=n:=by rfl) (hst:(assignEach es X.env).findIdx? (·.1)=none:=by rfl):PG X (.Tuple es k pos) (gTup X.K n t):=by
 intro pins s σ H v u Q I r hw;obtain ⟨a,xs,e1,hq,hl,hw⟩:=hw;subst e1;cases r;obtain ⟨its,rv,ht,hz⟩:=I.tuple hq
 refine assign_Tuple_tuple (I.ok.hd hc) ht (by simp [hn,<- hl,rv.length]) hst fun h' hx=> ?_
 have I1:Inv X pins σ H { s with heap:=h' }:=I.kept (t':=s.toks) fun b o e=>hx b o (Bi (A5 e)) e
 exact h pins _ σ H xs _ Q I1 (by simpa using rv) hw
def gSub(to ti:TE)(t:TSet):TG:=fun v σ H Q=>to σ H fun o H1=>ti σ H1 fun i H2=>t o i v H2 fun H3=>Q σ H3
theorem pg_sub{o i:Expr}{to ti:TE}{t:TSet}(ho:PE X o to)(hi:PE X i ti)(hs:PSet X t)
 (ha:∀ v,assign (.Subscript o i pos) X.env v=(do
   let ov <- holding [v] (eval o X.env)
   let iv <- holding [v,ov] (eval i X.env)
   standAt pos
   holding [v,ov,iv] (setItem ov iv v)
   release [v,ov,iv] []):=by intro _;rfl):PG X (.Subscript o i pos) (gSub to ti t):=by
 intro pins s σ H v u Q I r h;rw [ha];refine AQ (Ca (thn (ho pins s σ H _ I h) fun ov s1 ⟨x,H1,I1,r1,q1⟩=> ?_));refine AQ (Ca (thn (hi pins s1 σ H1 _ I1 q1) fun iv s2 ⟨y,H2,I2,r2,q2⟩=> ?_));refine AQ (wpAny_standAt (AQ (Ca (thn (hs pins s2 σ H2 x y v ov iv u _ I2 r1 r2 r q2) fun _ s3 ⟨H3,I3,q3⟩=> ?_))));exact wpAny_release ⟨σ,H3,I3,q3⟩
def yc(te:TE)(g:TG):TS:=fun D σ H=>te σ H fun x H1=>g x σ H1 D.nx
theorem vZ{tg e:Expr}{te:TE}{g:TG}(he:PE X e te)(hg:PG X tg g)(hs:swapsWithSole [tg] e pos.line X.env=pure false:=by rfl)(hw:swappedStores [tg] e X.env=pure none:=by rfl)
 (h1:(assignEach [tg] X.env).map (·.2)=[assign tg X.env]:=by rfl):PS X (.Assign [tg] e pos) (yc te g):=by
 intro pins s σ H D I h;refine wpAny_Assign_stores (thn (he pins s σ H _ I h) fun v s1 ⟨x,H1,I1,r1,q1⟩=> ?_) hs hw;rw [h1]
 exact thn (hg pins s1 σ H1 x v _ I1 r1 q1) fun _ s2 q=>q
theorem ps_set{i:Nat}{x:Str}{e:Expr}{te:TE}{pos':Pos}(hN:X.N.Nodup)(hi:X.N[i]?=some x)(hx:Loc X.env.scope x)(he:PE X e te)(hs:swapsWith e (some (.Name x pos')) pos.line X.env=pure false:=by rfl)(hf:X.fn x=true\/X.env.scope.names.lookup x=some .local:=by first | exact .inl rfl | exact .inr rfl | assumption) :
 PS X (.Assign [.Name x pos'] e pos) (yc te (sQ i)):=by
 intro pins s σ H D I h;refine wpAny_Assign_Name (thn (he pins s σ H _ I h) fun v s1 ⟨y,H1,I1,r1,q1⟩=> ?_) hs;exact oR I1 hN hi hx r1 (fun s2 I2=>⟨_,H1,I2,q1⟩) hf
end
section
variable{X:Cx}{pos:Pos}
def tWhile(c:TT)(tb:TS):TS:=fun D σ H=>∃ W:Nat->St->Hp->Prop,(∃ m,W m σ H)/\∀ m σ H,W m σ H ->
 c σ H fun b H1=>if b=true then ∃ N:St->Hp->Prop,(∀ σ' H',N σ' H'->∃ m',m' < m/\W m' σ' H')/\tb { D with nx:=N,ct:=N,bk:=D.nx } σ H1 else D.nx σ H1
theorem vX{c:Expr}{body:List Stmt}{tc:TT}{tb:TS}(hp:PassesOwn (model X.prog X.w) X.A X.env X.xe)(hc:PT X c tc)(hb:PSs X body tb):PS X (.While c body [] pos) (tWhile tc tb):=by
 intro pins s σ H D I h;obtain ⟨W,⟨m0,w0⟩,turn⟩:=h;refine wpAny_While (codeAny_whileLoop (fun n s'=>∃ σ' H',Inv X pins σ' H' s'/\W n σ' H') ?_ m0 ⟨σ,H,I,w0⟩);rintro n s1 ⟨σ1,H1,I1,w1⟩;refine Cu hp (thn (hc pins s1 σ1 H1 _ I1 (turn n σ1 H1 w1)) fun b s2 ⟨H2,I2,q2⟩=> ?_)
 cases b with
 | true =>
  obtain ⟨N,hN,q2⟩:=q2;rw [if_pos rfl];refine Cu hp (thn (hb pins s2 σ1 H2 _ I2 q2) fun f s3 q3=> ?_)
  cases f with
  | next =>
   obtain ⟨σ3,H3,I3,n3⟩:=q3;obtain ⟨m',hm,w3⟩:=hN σ3 H3 n3;exact ⟨m',hm,σ3,H3,I3,w3⟩
  | cont =>
   obtain ⟨σ3,H3,I3,n3⟩:=q3;obtain ⟨m',hm,w3⟩:=hN σ3 H3 n3;exact ⟨m',hm,σ3,H3,I3,w3⟩
  | brk=>exact q3
  | ret v=>exact q3
 | false =>
  rw [if_neg Bj];exact wpAny_execs_nil ⟨σ1,H2,I2,q2⟩
end
structure It where
 go:Nat->Hp->Prop
 yld:Nat->Hp->V->Hp->Prop
 stop:Nat->Hp->Prop
def qv(X:Cx)(pins:List (Addr×Obj))(H:Hp)(b:Addr):Prop :=
 H b=none/\b≠X.env.locals/\b∉X.fs/\(b∈X.ex\/X.s₀.heap.objs.size<=b)/\(∀ x c,X.env.cells.lookup x=some c->c≠b)/\∀ p∈X.pn++pins,p.1≠b
theorem Inv.fpOk{X:Cx}{pins:List (Addr×Obj)}{σ:St}{H H':Hp}{s:Shared}{b:Addr}(I:Inv X pins σ H s)(hb:s.heap.objs.size<=b)(hn:H' b=none):qv X pins H' b:=by
 refine ⟨hn,Ck (Bq I.lt hb),I.nofs hb,.inr (B5 I.sz hb),fun x c e z=> ?_,fun p hp z=> ?_⟩
 ·obtain ⟨v,q⟩:=I.cell x c e
  exact absurd (Bq q.lt (by rw [z];exact hb)) (CN _)
 ·exact absurd (Bq (A5 (I.pin p hp).1) (by rw [z];exact hb)) (CN _)
structure uR(P:Program)(w:World)(K:Df)(tg:Expr)(J:It)(fp:List Addr)(it:Addr)(tn:Nat->Heap->Prop):Prop where
 mem:it∈fp
 obj:∀ i h,tn i h->∀ b∈fp,∃ o,h.get? b=some o/\∀ v,o.data ≠ .cell v
 keep:∀ i h h',tn i h->(∀ b∈fp,∀ o,h.get? b=some o->h'.get? b=some o)->tn i h'
 item:∀ (X:Cx),X.prog=P->X.w=w->X.K=K->X.calm=true->∀ (i:Nat) (pins:List (Addr×Obj)) (s:Shared) (σ:St) (H:Hp) (E:Value->Shared->Prop),Inv X pins σ H s->(∀ b∈fp,qv X pins H b)->tn i s.heap->J.go i H ->
  wpAny (model P w) X.A (pyNext (.ref it)) (fun r s1=>∃ u,r=some u /\
   wpAny (model P w) X.A (letOwnedTupleGo tg (.ref it) u) (fun _ s2=>∃ x H',Inv X pins σ H' s2/\aB x u/\J.yld i H x H'/\tn (i+1) s2.heap/\∀ b∈fp,H' b=none) E s1) E s
 done:∀ (X:Cx),X.prog=P->X.w=w->X.K=K->X.calm=true->∀ (i:Nat) (pins:List (Addr×Obj)) (s:Shared) (σ:St) (H:Hp) (E:Value->Shared->Prop),Inv X pins σ H s->(∀ b∈fp,qv X pins H b)->tn i s.heap->J.stop i H ->
  wpAny (model P w) X.A (pyNext (.ref it)) (fun r s1=>r=none/\Inv X pins σ H s1) E s
 self:∀ (A:Around) (i:Nat) (s:Shared) (Q:Value->Shared->Prop) (E:Value->Shared->Prop),tn i s.heap->Q (.ref it) s->wpAny (model P w) A (pyIter (.ref it)) Q E s
abbrev TI:=St->Hp->(It->Hp->Prop)->Prop
def PIE(X:Cx)(pins:List (Addr×Obj))(σ:St)(tg:Expr)(R:It->Hp->Prop)(itv:Value)(s2:Shared):Prop :=
 ∃ (it:Addr) (fp:List Addr) (tn:Nat->Heap->Prop) (J:It) (H':Hp),itv = .ref it/\Inv X pins σ H' s2/\uR X.prog X.w X.K tg J fp it tn/\tn 0 s2.heap/\(∀ b∈fp,qv X pins H' b)/\R J H'
def PI(X:Cx)(tg iter:Expr)(wi:TI):Prop :=
 ∀ (pins:List (Addr×Obj)) (s:Shared) (σ:St) (H:Hp) (R:It->Hp->Prop),Inv X pins σ H s->wi σ H R ->
  wpAny (model X.prog X.w) X.A (eval iter X.env) (fun v s1=>wpAny (model X.prog X.w) X.A (pyIter v) (PIE X pins σ tg R) X.xe s1) X.xe s
theorem wX{M:Model}{A:Around}{E:Value->Shared->Prop}{s:Shared}{tg:Expr}{it:Addr}{u:Value}{o:Obj}{n:String}{vs:Array Value}{Q:Unit->Shared->Prop}(ho:s.heap.get? it=some o)(hc:o.cls = .type n)(hd:o.data = .fields vs)
 (hn:["enumerate", "zip", "dict_itemiterator", "dict_reverseitemiterator", "odict_iterator", "itertools.zip_longest", "itertools.pairwise"].contains n=false) (hQ:Q () s):wpAny M A (letOwnedTupleGo tg (.ref it) u) Q E s:=by
 unfold letOwnedTupleGo
 cases tg<;>first
  | exact AX hQ
  | (cases u<;>first
      | exact AX hQ
      | (refine AQ (wpAny_load ho ?_)
         rw [hc,hd]
         show wpAny M A (if (["enumerate", "zip", "dict_itemiterator", "dict_reverseitemiterator", "odict_iterator", "itertools.zip_longest", "itertools.pairwise"].contains n&&vs[0]? == some (rawInt _))=true then _ else _) Q E s
         rw [if_neg (by intro h;rw [hn,CD] at h;cases h)]
         exact AX hQ))
def Itl(K:Df)(a:Addr):It :=
 ⟨fun i H=>∃ xs x,SqL K H a xs/\xs[i]?=some x,fun i H x H'=>H'=H/\∀ xs,SqL K H a xs->xs[i]?=some x,fun i H=>∃ xs,SqL K H a xs/\xs.length<=i⟩
def Itt(K:Df)(a:Addr):It :=
 ⟨fun i H=>∃ xs x,SqT K H a xs/\xs[i]?=some x,fun i H x H'=>H'=H/\∀ xs,SqT K H a xs->xs[i]?=some x,fun i H=>∃ xs,SqT K H a xs/\xs.length<=i⟩
def Itr(lo:Int)(n:Nat):It:=⟨fun i _=>i < n,fun i H x H'=>H'=H/\x = .int (lo+i),fun i _=>n<=i⟩
theorem tf{P:Program}{w:World}{K:Df}{tg:Expr}(a it:Addr):uR P w K tg (Itl K a) [it] it (fun i h=>h.IsListIter it a i) where
 mem:=by simp
 obj:=fun i h st b hb=>by
  have e:b=it:=by simpa using hb
  subst e;obtain ⟨o,e,c,d⟩:=st;exact ⟨o,e,fun v z=>by rw [d] at z;cases z⟩
 keep:=fun i h h' st k=>st.at fun o e=>k it (by simp) o e
 item:=by
  intro X hP hw hK hc i pins s σ H E I hf st hg;subst hP hw hK;obtain ⟨xs,x,hq,hx⟩:=hg;obtain ⟨its,rv,p,hz⟩:=I.list hq;obtain ⟨u,hu,ru⟩:=rv.get hx;obtain ⟨f0,f1,f2,f3,f4,f5⟩:=hf it (by simp)
  refine wpAny_pyNext_list_item st p.isList (x:=u) (by simpa using hu) fun h' st' sb=> ?_
  have I1:Inv X pins σ H { s with heap:=h' }:=I.turned (t':=s.toks) (fun b o hb e=>(sb.2 b hb).trans e) f0 f1 f3 f4 f5;obtain ⟨o,e,c,d⟩:=id st';exact ⟨u,rfl,wX (s:={ s with heap:=h' }) e c d (by decide) ⟨x,H,I1,ru,⟨rfl,fun ys hy=>by rw [I.list_inj hy hq];exact hx⟩,st',fun b hb=>(hf b hb).1⟩⟩
 done:=by
  intro X hP hw hK hc i pins s σ H E I hf st hg;subst hP hw hK;obtain ⟨xs,hq,hx⟩:=hg;obtain ⟨its,rv,p,hz⟩:=I.list hq;obtain ⟨f0,f1,f2,f3,f4,f5⟩:=hf it (by simp);have hl:=rv.length
  exact wpAny_pyNext_list_end (I.ok.hd hc) st p.isList (by simp;omega) fun h' eb=>⟨rfl,I.turned (t':=s.toks) (fun b o hb e=>eb b o hb e) f0 f1 f3 f4 f5⟩
 self:=fun _ _ _ _ _ st h=>wpAny_pyIter_listiter st h
theorem ki{P:Program}{w:World}{K:Df}{tg:Expr}(a it:Addr):uR P w K tg (Itt K a) [it] it (fun i h=>h.IsTupleIter it a i) where
 mem:=by simp
 obj:=fun i h st b hb=>by
  have e:b=it:=by simpa using hb
  subst e;obtain ⟨o,e,c,d⟩:=st;exact ⟨o,e,fun v z=>by rw [d] at z;cases z⟩
 keep:=fun i h h' st k=>st.at fun o e=>k it (by simp) o e
 item:=by
  intro X hP hw hK hc i pins s σ H E I hf st hg;subst hP hw hK;obtain ⟨xs,x,hq,hx⟩:=hg;obtain ⟨its,rv,p,hz⟩:=I.tuple hq;obtain ⟨u,hu,ru⟩:=rv.get hx;obtain ⟨f0,f1,f2,f3,f4,f5⟩:=hf it (by simp)
  refine wpAny_pyNext_tuple_item st (show s.heap.IsTuple a its.toArray from p) (x:=u) (by simpa using hu) fun h' st' sb=> ?_
  have I1:Inv X pins σ H { s with heap:=h' }:=I.turned (t':=s.toks) (fun b o hb e=>(sb.2 b hb).trans e) f0 f1 f3 f4 f5;obtain ⟨o,e,c,d⟩:=id st';exact ⟨u,rfl,wX (s:={ s with heap:=h' }) e c d (by decide) ⟨x,H,I1,ru,⟨rfl,fun ys hy=>by rw [I.tuple_inj hy hq];exact hx⟩,st',fun b hb=>(hf b hb).1⟩⟩
 done:=by
  intro X hP hw hK hc i pins s σ H E I hf st hg;subst hP hw hK;obtain ⟨xs,hq,hx⟩:=hg;obtain ⟨its,rv,p,hz⟩:=I.tuple hq;obtain ⟨f0,f1,f2,f3,f4,f5⟩:=hf it (by simp);have hl:=rv.length
  exact wpAny_pyNext_tuple_end (I.ok.hd hc) st (show s.heap.IsTuple a its.toArray from p) (by simp;omega) fun h' eb=>⟨rfl,I.turned (t':=s.toks) (fun b o hb e=>eb b o hb e) f0 f1 f3 f4 f5⟩
 self:=fun _ _ _ _ _ st h=>wpAny_pyIter_tupleiter st h
theorem qw{P:Program}{w:World}{K:Df}{tg:Expr}(it:Addr)(lo:Int)(n:Nat):uR P w K tg (Itr lo n) [it] it (fun i h=>IsRangeIter h it (lo+(i:Nat) * 1) ((n:Int) - (i:Nat)) 1) where
 mem:=by simp
 obj:=fun i h st b hb=>by
  have e:b=it:=by simpa using hb
  subst e
  exact ⟨_,st,fun v z=>by
   have z':Data.fields _=Data.cell v:=z
   cases z'⟩
 keep:=fun i h h' st k=>k it (by simp) _ st
 item:=by
  intro X hP hw hK hc i pins s σ H E I hf st hg;subst hP hw hK;obtain ⟨f0,f1,f2,f3,f4,f5⟩:=hf it (by simp);have W:=Walks.range (prog:=X.prog) (w:=X.w) (I.ok.hd hc) it lo 1 n
  refine W.item i s _ _ hg st fun v h' tk hv st' kk=> ?_
  obtain ⟨t,rfl⟩:=hv;have I1:Inv X pins σ H { s with heap:=h',toks:=tk }:=I.turned (fun b o hb e=>kk b o (by simpa using hb) e) f0 f1 f3 f4 f5;refine ⟨_,rfl,wX (s:={ s with heap:=h',toks:=tk }) (n := "range_iterator") st' rfl rfl (by decide) ⟨.int (lo+i),H,I1,⟨t,?_⟩,⟨rfl,rfl⟩,st',fun b hb=>(hf b hb).1⟩⟩;rw [C0]
 done:=by
  intro X hP hw hK hc i pins s σ H E I hf st hg;subst hP hw hK;obtain ⟨f0,f1,f2,f3,f4,f5⟩:=hf it (by simp)
  exact wpAny_pyNext_range_end (I.ok.hd hc) st (by have:n<=i:=hg;omega) fun h' eb=>⟨rfl,I.turned (t':=s.toks) (fun b o hb e=>eb b o hb e) f0 f1 f3 f4 f5⟩
 self:=fun _ _ _ _ _ st h=>wpAny_pyIter_rangeiter st h
section
variable{X:Cx}{tg:Expr}
def iTup(K:Df)(tl:TE):TI:=fun σ H R=>tl σ H fun x H1=>∃ a,x = .ref a/\(∃ xs,SqT K H1 a xs)/\R (Itt K a) H1
theorem pi_tup{l:Expr}{tl:TE}(hl:PE X l tl):PI X tg l (iTup X.K tl):=by
 intro pins s σ H R I h
 refine thn (hl pins s σ H _ I h) fun v s1 ⟨x,H1,I1,r1,q1⟩=> ?_
 obtain ⟨a,e,⟨xs,hq⟩,q⟩:=q1;subst e;cases r1;obtain ⟨its,rv,p,hz⟩:=I1.tuple hq;refine Bx (show s1.heap.IsTuple a its.toArray from p) ?_;refine ⟨s1.heap.objs.size,[s1.heap.objs.size],_,_,H1,rfl,I1.kept (t':=s1.toks) fun b o e=>AR _ e,ki a _,⟨_,AZ _ rfl,rfl,rfl⟩,fun b hb=> ?_,q⟩
 have e:b=s1.heap.objs.size:=by simpa using hb
 subst e;exact I1.fpOk (A8 _) (I1.hok.fresh (A8 _))
theorem o0{pins:List (Addr×Obj)}{σ:St}{H:Hp}{s:Shared}{R:It->Hp->Prop}{E:Value->Shared->Prop}{lo hi:Int}{t u v:Tok}{tk:Nat}(I:Inv X pins σ H s)(h1 : -(2 ^ 62)<=lo)(h2:lo < 2 ^ 62)(h3 : -(2 ^ 62)<=hi)(h4:hi < 2 ^ 62)
 (q:R (Itr lo (hi - lo).toNat) H):wpAny (model X.prog X.w) X.A (pyIter (.ref s.heap.objs.size)) (PIE X pins σ tg R) E { s with heap:=s.heap.push { cls:= .type "range",data:= .fields #[.int lo t,.int hi u,.int 1 v] },toks:=tk }:=by
 refine wpAny_pyIter_range (IsRange.new ..) (small_one h1 h2 h3 h4) ?_
 have I1:Inv X pins σ H { s with heap:=s.heap.push { cls:= .type "range",data:= .fields #[.int lo t,.int hi u,.int 1 v] },toks:=tk }:=I.kept fun b o e=>AR _ e
 refine ⟨(s.heap.push { cls:= .type "range",data:= .fields #[.int lo t,.int hi u,.int 1 v] }).objs.size,[(s.heap.push { cls:= .type "range",data:= .fields #[.int lo t,.int hi u,.int 1 v] }).objs.size],_,_,H,rfl,
  I1.kept (t':=tk) fun b o e=>AR _ e,qw _ lo (hi - lo).toNat,?_,fun b hb=> ?_,q⟩
 ·have e1:lo+((0:Nat):Int) * 1=lo:=by simp
  have e2:(((hi - lo).toNat:Nat):Int) - ((0:Nat):Int)=Builtin.Range.rangeSize lo hi 1:=by rw [rangeSize_one];split<;>omega
  show IsRangeIter _ _ (lo+((0:Nat):Int) * 1) ((((hi - lo).toNat:Nat):Int) - ((0:Nat):Int)) 1
  rw [e1,e2];exact AZ _ rfl
 ·have e:b=(s.heap.push { cls:= .type "range",data:= .fields #[.int lo t,.int hi u,.int 1 v] }).objs.size:=by simpa using hb
  subst e;exact I1.fpOk (A8 _) (I1.hok.fresh (A8 _))
def iRng1(ta:TA):TI:=fun σ H R=>ta σ H fun vs H1=>∃ j:Int,vs=[.int j] /\ -(2 ^ 62)<=j/\j < 2 ^ 62/\R (Itr 0 j.toNat) H1
def iRng2(ta:TA):TI:=fun σ H R=>ta σ H fun vs H1=>∃ i j:Int,vs=[.int i,.int j]/\(-(2 ^ 62)<=i/\i < 2 ^ 62 /\ -(2 ^ 62)<=j/\j < 2 ^ 62)/\R (Itr i (j - i).toNat) H1
theorem mm{a:Expr}{ta:TA}{p pos:Pos}(hg:Gl X "range")(hm:X.mg "range" = none)(ha:PA X [a] ta)(hs:starEach [a] X.env=[(false,eval a X.env)]:=by rfl):PI X tg (.Call (.Name "range" p) [a] [] pos) (iRng1 ta):=by
 intro pins s σ H R I h;refine Call_ (f8 I hg hm boot_range (PyProof.Rows.callWith_type1 (thn (ha pos pins s σ H _ I h) fun us s1 ⟨vs,H1,I1,r1,q1⟩=> ?_) hs rfl));obtain ⟨j,e,q1,q2,q⟩:=q1;subst e
 cases r1 with
 | cons r rr =>
  cases rr;obtain ⟨t,rfl⟩:=r;exact call_range_1 (o0 I1 (by omega) (by omega) q1 q2 (by simpa using q))
theorem tF{a b:Expr}{ta:TA}{p pos:Pos}(hg:Gl X "range")(hm:X.mg "range" = none)(ha:PA X [a,b] ta)(hs:starEach [a,b] X.env=[(false,eval a X.env),(false,eval b X.env)]:=by rfl)(hs2:starEach [b] X.env=[(false,eval b X.env)]:=by rfl) :
 PI X tg (.Call (.Name "range" p) [a,b] [] pos) (iRng2 ta):=by
 intro pins s σ H R I h;refine Call_ (f8 I hg hm boot_range (PyProof.Rows.callWith_type1 (thn (ha pos pins s σ H _ I h) fun us s1 ⟨vs,H1,I1,r1,q1⟩=> ?_) (by rw [hs,hs2]) (by rw [hs2];rfl)));obtain ⟨i,j,e,⟨q1,q2,q3,q4⟩,q⟩:=q1;subst e
 cases r1 with
 | cons r rr =>
  cases rr with
  | cons r' rr =>
   cases rr;obtain ⟨t,rfl⟩:=r;obtain ⟨t',rfl⟩:=r';exact call_range_2 (o0 I1 q1 q2 q3 q4 q)
def tFor(wi:TI)(g:TG)(tb:TS):TS:=fun D σ H=>wi σ H fun J H1=>∃ W:Nat->Nat->St->Hp->Prop,(∃ m,W 0 m σ H1)/\∀ i m σ H,W i m σ H ->
 (J.stop i H/\D.nx σ H)\/(J.go i H/\∃ N:St->Hp->Prop,(∀ σ' H',N σ' H'->∃ m',m' < m/\W (i+1) m' σ' H')/\∀ x H',J.yld i H x H'->g x σ H' fun σ2 H2=>tb { D with nx:=N,ct:=N,bk:=D.nx } σ2 H2)
def kJ(fp:List Addr)(h:Heap):List (Addr×Obj):=fp.filterMap fun b=>(h.get? b).map fun o=>(b,o)
theorem eZ{fp:List Addr}{h:Heap}{b:Addr}{o:Obj}(hb:b∈fp)(e:h.get? b=some o):(b,o)∈kJ fp h:=Dc.mpr ⟨b,hb,by rw [e];rfl⟩
theorem tR{fp:List Addr}{h:Heap}{p:Addr×Obj}(hp:p∈kJ fp h):p.1∈fp/\h.get? p.1=some p.2:=by
 obtain ⟨b,hb,e⟩:=Dc.mp hp
 cases q:h.get? b with
 | none=>rw [q] at e;cases e
 | some o =>
  rw [q] at e;have e':(b,o)=p:=Option.some.inj e;subst e';exact ⟨hb,q⟩
theorem Inv.pinned{pins:List (Addr×Obj)}{σ:St}{H:Hp}{s:Shared}{fp:List Addr}(I:Inv X pins σ H s)(hf:∀ b∈fp,qv X pins H b)(ho:∀ b∈fp,∃ o,s.heap.get? b=some o/\∀ v,o.data ≠ .cell v):Inv X (pins++kJ fp s.heap) σ H s :=
 I.pins_of fun p hp=>(Bd.mp hp).elim (fun z=>I.pin p (AT _ z)) fun z=>by
  obtain ⟨hb,e⟩:=tR z;obtain ⟨f0,f1,f2,_⟩:=hf p.1 hb;obtain ⟨o,e',d⟩:=ho p.1 hb;rw [e] at e';cases e';exact ⟨e,f0,f1,f2,d⟩
theorem Inv.unpinned{pins pl:List (Addr×Obj)}{σ:St}{H:Hp}{s:Shared}(I:Inv X (pins++pl) σ H s):Inv X pins σ H s:=I.pins_of fun p hp=>I.pin p (AT _ (AU _ hp))
theorem vY{iter:Expr}{body:List Stmt}{wi:TI}{g:TG}{tb:TS}{pos:Pos}(hp:PassesOwn (model X.prog X.w) X.A X.env X.xe)(hc:X.calm=true)(hi:PI X tg iter wi)(hg:PG X tg g)(hb:PSs X body tb)
 (hs:∀ x,foldedSetIterable iter X.env x=pure x:=by intro _;rfl):PS X (.For tg iter body [] pos) (tFor wi g tb):=by
 intro pins s σ H D I h;refine wpAny_For (thn (hi pins s σ H _ I h) fun v s1 h1=>thn h1 fun itv s2 h2=> ?_) hs;obtain ⟨it,fp,tn,J,H2,e,I2,T,st2,f2,W,⟨m0,w0⟩,turn⟩:=h2;subst e
 have stat:∀ {H':Hp},(∀ b∈fp,H' b=none)->∀ b∈fp,qv X pins H' b:=fun hn b hb=>⟨hn b hb,(f2 b hb).2⟩
 refine codeAny_forLoop_any (fun n s'=>∃ i σ' H',Inv X pins σ' H' s'/\tn i s'.heap/\(∀ b∈fp,H' b=none)/\W i n σ' H') ?_ m0 ⟨0,σ,H2,I2,st2,fun b hb=>(f2 b hb).1,w0⟩;rintro n s3 ⟨i,σ3,H3,I3,st3,fr3,w3⟩
 rcases turn i n σ3 H3 w3 with ⟨stop,qn⟩ | ⟨go,N,hN,step⟩
 ·refine Cu hp (thn (T.done X rfl rfl rfl hc i pins s3 σ3 H3 X.xe I3 (stat fr3) st3 stop) fun r s4 ⟨hr,I4⟩=> ?_)
  subst hr;exact wpAny_execs_nil ⟨σ3,H3,I4,qn⟩
 ·refine Cu hp (thn (T.item X rfl rfl rfl hc i pins s3 σ3 H3 X.xe I3 (stat fr3) st3 go) fun r s4 ⟨u,hr,h4⟩=> ?_)
  subst hr;refine Cu hp (thn h4 fun _ s5 ⟨x,H5,I5,r5,y5,st5,fr5⟩=> ?_);have I5':=I5.pinned (stat fr5) (T.obj _ _ st5);refine Cu hp (thn (hg _ s5 σ3 H5 x u _ I5' r5 (step x H5 y5)) fun _ s6 ⟨σ6,H6,I6,q6⟩=> ?_);refine Cu hp (thn (hb _ s6 σ6 H6 _ I6 q6) fun f s7 q7=> ?_)
  have again:∀ {σ7:St} {H7:Hp},Inv X (pins++kJ fp s5.heap) σ7 H7 s7->N σ7 H7->∃ m,m < n/\∃ i σ' H',Inv X pins σ' H' s7/\tn i s7.heap/\(∀ b∈fp,H' b=none)/\W i m σ' H':=fun {σ7 H7} I7 n7=>by
   obtain ⟨m',hm,w7⟩:=hN σ7 H7 n7;refine ⟨m',hm,i+1,σ7,H7,I7.unpinned,T.keep _ _ _ st5 fun b hb o e=>(I7.pin (b,o) (AT _ (AT _ (eZ hb e)))).1,fun b hb=> ?_,w7⟩;obtain ⟨o,e,d⟩:=T.obj _ _ st5 b hb;exact (I7.pin (b,o) (AT _ (AT _ (eZ hb e)))).2.1
  cases f with
  | next=>obtain ⟨σ7,H7,I7,n7⟩:=q7;exact again I7 n7
  | cont=>obtain ⟨σ7,H7,I7,n7⟩:=q7;exact again I7 n7
  | brk=>obtain ⟨σ7,H7,I7,q7⟩:=q7;exact ⟨σ7,H7,I7.unpinned,q7⟩
  | ret v=>obtain ⟨x7,σ7,H7,I7,r7,q7⟩:=q7;exact ⟨x7,σ7,H7,I7.unpinned,r7,q7⟩
end
theorem for_list{K:Df}{a:Addr}{xs:List V}{g:TG}{tb:TS}{D:j8}{σ:St}{H:Hp}(Pv:Nat->St->Hp->Prop)(h0:Pv 0 σ H)(hl:∀ i σ H,i<=xs.length->Pv i σ H->SqL K H a xs)
 (hs:∀ i x σ H,xs[i]?=some x->Pv i σ H->g x σ H fun σ2 H2=>tb { D with nx:=Pv (i+1),ct:=Pv (i+1),bk:=D.nx } σ2 H2) (hd:∀ σ H,Pv xs.length σ H->D.nx σ H) :
 ∃ W:Nat->Nat->St->Hp->Prop,(∃ m,W 0 m σ H)/\∀ i m σ H,W i m σ H ->
  ((Itl K a).stop i H/\D.nx σ H)\/((Itl K a).go i H/\∃ N:St->Hp->Prop,(∀ σ' H',N σ' H'->∃ m',m' < m/\W (i+1) m' σ' H')/\∀ x H',(Itl K a).yld i H x H'->g x σ H' fun σ2 H2=>tb { D with nx:=N,ct:=N,bk:=D.nx } σ2 H2):=by
 refine ⟨fun i m σ H=>m=xs.length - i/\i<=xs.length/\Pv i σ H,⟨xs.length,by simp,Cv _,h0⟩,?_⟩;rintro i m σ H ⟨rfl,hi,p⟩;have q:=hl i σ H hi p
 by_cases hlt:i < xs.length
 ·refine .inr ⟨⟨xs,xs[i],q,by simp [hlt]⟩,Pv (i+1),fun σ' H' p'=>⟨xs.length - (i+1),by omega,rfl,hlt,p'⟩,fun x H' y=> ?_⟩
  obtain ⟨e,y⟩:=y;subst e;exact hs i x σ _ (y xs q) p
 ·have e:i=xs.length:=by omega
  subst e;exact .inl ⟨⟨xs,q,A8 _⟩,hd σ H p⟩
theorem zO{K:Df}{a:Addr}{xs:List V}{g:TG}{tb:TS}{D:j8}{σ:St}{H:Hp}(Pv:Nat->St->Hp->Prop)(h0:Pv 0 σ H)(hl:∀ i σ H,i<=xs.length->Pv i σ H->SqT K H a xs)
 (hs:∀ i x σ H,xs[i]?=some x->Pv i σ H->g x σ H fun σ2 H2=>tb { D with nx:=Pv (i+1),ct:=Pv (i+1),bk:=D.nx } σ2 H2) (hd:∀ σ H,Pv xs.length σ H->D.nx σ H) :
 ∃ W:Nat->Nat->St->Hp->Prop,(∃ m,W 0 m σ H)/\∀ i m σ H,W i m σ H ->
  ((Itt K a).stop i H/\D.nx σ H)\/((Itt K a).go i H/\∃ N:St->Hp->Prop,(∀ σ' H',N σ' H'->∃ m',m' < m/\W (i+1) m' σ' H')/\∀ x H',(Itt K a).yld i H x H'->g x σ H' fun σ2 H2=>tb { D with nx:=N,ct:=N,bk:=D.nx } σ2 H2):=by
 refine ⟨fun i m σ H=>m=xs.length - i/\i<=xs.length/\Pv i σ H,⟨xs.length,by simp,Cv _,h0⟩,?_⟩;rintro i m σ H ⟨rfl,hi,p⟩;have q:=hl i σ H hi p
 by_cases hlt:i < xs.length
 ·refine .inr ⟨⟨xs,xs[i],q,by simp [hlt]⟩,Pv (i+1),fun σ' H' p'=>⟨xs.length - (i+1),by omega,rfl,hlt,p'⟩,fun x H' y=> ?_⟩
  obtain ⟨e,y⟩:=y;subst e;exact hs i x σ _ (y xs q) p
 ·have e:i=xs.length:=by omega
  subst e;exact .inl ⟨⟨xs,q,A8 _⟩,hd σ H p⟩
abbrev R2:=V->V->Hp->VK->Prop
def OpR(X:Cx)(f:Value->Value->Sem Value)(r:R2):Prop :=
 ∀ (pins:List (Addr×Obj)) (s:Shared) (σ:St) (H:Hp) (x y:V) (v u:Value) (Q:VK),Inv X pins σ H s->aB x v->aB y u->r x y H Q ->
  wpAny (model X.prog X.w) X.A (f v u) (EP X pins σ Q) X.xe s
def aw(X:Cx)(f:Value)(r:List V->Hp->VK->Prop):Prop :=
 ∀ (pins:List (Addr×Obj)) (s:Shared) (σ:St) (H:Hp) (xs:List V) (us:List Value) (Q:VK),Inv X pins σ H s->ar xs us->r xs H Q ->
  wpAny (model X.prog X.w) X.A (call f us) (EP X pins σ Q) X.xe s
def TruR(X:Cx)(r:V->Hp->(Bool->Hp->Prop)->Prop):Prop :=
 ∀ (pins:List (Addr×Obj)) (s:Shared) (σ:St) (H:Hp) (x:V) (v:Value) (Q:Bool->Hp->Prop),Inv X pins σ H s->aB x v->r x H Q ->
  wpAny (model X.prog X.w) X.A (truthy v) (TP X pins σ Q) X.xe s
def tOp(r:R2)(ta tb:TE):TE:=fun σ H Q=>ta σ H fun x H1=>tb σ H1 fun y H2=>r x y H2 Q
def rI(C:Int->Int->Prop)(g:Int->Int->V):R2:=fun x y H Q=>∃ i j,x = .int i/\y = .int j/\C i j/\Q (g i j) H
def rI0(g:Int->Int->V):R2:=fun x y H Q=>∃ i j,x = .int i/\y = .int j/\Q (g i j) H
section
variable{X:Cx}{a b c:Expr}{ta tb tc:TE}{pos:Pos}
theorem binT(ha:PE X a ta)(hb:PE X b tb){pins:List (Addr×Obj)}{s:Shared}{σ:St}{H:Hp}{R:V->V->Hp->Prop}(I:Inv X pins σ H s)
 (h:ta σ H fun x H1=>tb σ H1 fun y H2=>R x y H2) {Q:Value->Shared->Prop} {f:Value->Value->Sem Value}
 (hf:∀ v u s2 x y H2,Inv X pins σ H2 s2->aB x v->aB y u->R x y H2->wpAny (model X.prog X.w) X.A (f v u) Q X.xe s2) :
 wpAny (model X.prog X.w) X.A (eval a X.env) (fun v s₁=>wpAny (model X.prog X.w) X.A (eval b X.env) (fun u s₂=>wpAny (model X.prog X.w) X.A (f v u) Q X.xe s₂) X.xe s₁) X.xe s:=by
 refine thn (ha pins s σ H _ I h) fun v s1 ⟨x,H1,I1,r1,q1⟩=> ?_
 refine thn (hb pins s1 σ H1 _ I1 q1) fun u s2 ⟨y,H2,I2,r2,q2⟩=> ?_
 exact hf v u s2 x y H2 I2 r1 r2 q2
theorem pe_op{op:Operator}{r:R2}(ho:OpR X (binaryOp op) r)(ha:PE X a ta)(hb:PE X b tb):PE X (.BinOp a op b pos) (tOp r ta tb):=by
 intro pins s σ H Q I h;exact wpAny_BinOp (binT ha hb I h fun v u s2 x y H2 I2 rx ry q=>ho pins s2 σ H2 x y v u Q I2 rx ry q)
theorem opI{f:Value->Value->Sem Value}{C:Int->Int->Prop}{g:Int->Int->Int}
 (rule:∀ (i j:Int) (t u:Tok) (s:Shared) (Q:Value->Shared->Prop) (E:Value->Shared->Prop),C i j->Q (.int (g i j) s.toks) { s with toks:=s.toks+1 }->wpAny (model X.prog X.w) X.A (f (.int i t) (.int j u)) Q E s) :
 OpR X f (rI C fun i j=> .int (g i j)):=by
 intro pins s σ H x y v u Q I rx ry h;obtain ⟨i,j,rfl,rfl,hc,q⟩:=h;obtain ⟨t,rfl⟩:=rx;obtain ⟨t',rfl⟩:=ry;exact rule i j t t' s _ _ hc ⟨.int (g i j),H,I.tok _,⟨_,rfl⟩,q⟩
theorem opI0{f:Value->Value->Sem Value}{g:Int->Int->Int}
 (rule:∀ (i j:Int) (t u:Tok) (s:Shared) (Q:Value->Shared->Prop) (E:Value->Shared->Prop),Q (.int (g i j) s.toks) { s with toks:=s.toks+1 }->wpAny (model X.prog X.w) X.A (f (.int i t) (.int j u)) Q E s) :
 OpR X f (rI0 fun i j=> .int (g i j)):=by
 intro pins s σ H x y v u Q I rx ry h;obtain ⟨i,j,rfl,rfl,q⟩:=h;obtain ⟨t,rfl⟩:=rx;obtain ⟨t',rfl⟩:=ry;exact rule i j t t' s _ _ ⟨.int (g i j),H,I.tok _,⟨_,rfl⟩,q⟩
theorem zf{f:Value->Value->Sem Value}{g:Int->Int->Bool}
 (rule:∀ (i j:Int) (t u:Tok) (s:Shared) (Q:Value->Shared->Prop) (E:Value->Shared->Prop),Q (.bool (g i j)) s->wpAny (model X.prog X.w) X.A (f (.int i t) (.int j u)) Q E s) :
 OpR X f (rI0 fun i j=> .bl (g i j)):=by
 intro pins s σ H x y v u Q I rx ry h;obtain ⟨i,j,rfl,rfl,q⟩:=h;obtain ⟨t,rfl⟩:=rx;obtain ⟨t',rfl⟩:=ry;exact rule i j t t' s _ _ ⟨.bl (g i j),H,I,rfl,q⟩
def CDiv(i j:Int):Prop:=0 < j/\j < 1073741824
def CPow(i j:Int):Prop:=0<=j/\j<=1000000/\i.natAbs < 2 ^ 64
def xO(i j:Int):Prop:=(-(2 ^ 64) < i/\i < 2 ^ 64)\/(-(2 ^ 64) < j/\j < 2 ^ 64)
theorem xO.ok{i j:Int}(h:xO i j):IntMulOk i j:=by
 rcases h with ⟨h1,h2⟩ | ⟨h1,h2⟩
 ·exact .of_left (intBits_le_64 h1 h2)
 ·exact .of_right (intBits_le_64 h1 h2)
theorem op_add:OpR X (binaryOp .Add) (rI0 fun i j=> .int (i+j)):=opI0 fun _ _ _ _ _ _ _ q=>add_int q
theorem op_sub:OpR X (binaryOp .Sub) (rI0 fun i j=> .int (i - j)):=opI0 fun _ _ _ _ _ _ _ q=>sub_int q
theorem op_mul:OpR X (binaryOp .Mult) (rI xO fun i j=> .int (i * j)):=opI fun _ _ _ _ _ _ _ hc q=>mul_int q hc.ok
theorem zb:OpR X (binaryOp .FloorDiv) (rI CDiv fun i j=> .int (i / j)):=opI fun i j _ _ _ _ _ hc q=>by
 have h1:(0:Int) < j:=hc.1;have h2:j < 1073741824:=hc.2;exact floordiv_int (by omega) (by rw [Int.fdiv_eq_ediv_of_nonneg i (by omega)];exact q) (.inl (PyProof.noPylong_small (by omega)))
theorem op_mod:OpR X (binaryOp .Mod) (rI (fun _ j=>0 < j) fun i j=> .int (i % j)):=opI fun i j _ _ _ _ _ hc q=>by
 have h1:(0:Int) < j:=hc;exact mod_int' (by omega) (by rw [Int.fmod_eq_emod_of_nonneg i (by omega)];exact q)
theorem op_pow:OpR X (binaryOp .Pow) (rI CPow fun i j=> .int (i ^ j.toNat)):=opI fun _ _ _ _ _ _ _ hc q=>pow_int_small hc.1 hc.2.1 hc.2.2 q
end
section
variable{X:Cx}{a b c:Expr}{ta tb tc:TE}{pos:Pos}
theorem op_lt:OpR X (compareOp .Lt) (rI0 fun i j=> .bl (decide (i < j))):=zf fun _ _ _ _ _ _ _ q=>lt_int q
theorem AD:OpR X (compareOp .LtE) (rI0 fun i j=> .bl (decide (i<=j))):=zf fun _ _ _ _ _ _ _ q=>le_int q
theorem op_gt:OpR X (compareOp .Gt) (rI0 fun i j=> .bl (decide (j < i))):=zf fun _ _ _ _ _ _ _ q=>gt_int q
theorem op_ge:OpR X (compareOp .GtE) (rI0 fun i j=> .bl (decide (j<=i))):=zf fun _ _ _ _ _ _ _ q=>ge_int q
theorem OpR.or{f:Value->Value->Sem Value}{r r':R2}(h:OpR X f r)(h':OpR X f r'):OpR X f (fun x y H Q=>r x y H Q\/r' x y H Q):=by
 intro pins s σ H x y v u Q I rx ry q
 rcases q with q | q
 ·exact h pins s σ H x y v u Q I rx ry q
 ·exact h' pins s σ H x y v u Q I rx ry q
theorem js(b:Expr){op:CmpOp}(h:op ≠ .In:=by decide)(h2:op ≠ .NotIn:=by decide):behindInMarks op b=false:=by
 have e1:(op == CmpOp.In)=false:=by cases op<;>first | rfl | exact absurd rfl h
 have e2:(op == CmpOp.NotIn)=false:=by cases op<;>first | rfl | exact absurd rfl h2
 cases b<;>simp [behindInMarks,e1,e2]
theorem yS{op:CmpOp}{r:R2}(ho:OpR X (compareOp op) r)(ha:PE X a ta)(hb:PE X b tb)(hm:behindInMarks op b=false):PE X (.Compare a [op] [b] pos) (tOp r ta tb):=by
 intro pins s σ H Q I h;exact wpAny_Compare1 (binT ha hb I h fun v u s2 x y H2 I2 rx ry q=>ho pins s2 σ H2 x y v u Q I2 rx ry q) hm
def tTest(t:TE):TT:=fun σ H Q=>t σ H fun x H'=>∃ k,x = .bl k/\Q k H'
theorem yI{op:CmpOp}{r:R2}(ho:OpR X (compareOp op) r)(ha:PE X a ta)(hb:PE X b tb)(hm:behindInMarks op b=false):PT X (.Compare a [op] [b] pos) (tTest (tOp r ta tb)):=by
 intro pins s σ H Q I h
 refine wpAny_isTrue_Compare1 (thn (ha pins s σ H _ I h) fun v s1 ⟨x,H1,I1,r1,q1⟩=>thn (hb pins s1 σ H1 _ I1 q1) fun u s2 ⟨y,H2,I2,r2,q2⟩ =>
  thn (ho pins s2 σ H2 x y v u _ I2 r1 r2 q2) fun c s3 ⟨z,H3,I3,r3,k,e,q3⟩=> ?_) hm
 subst e;cases r3;exact Ch ⟨H3,I3,q3⟩
def vo(r r':R2)(ta tb tc:TE):TE:=fun σ H Q=>ta σ H fun x H1=>tb σ H1 fun y H2=>r x y H2 fun z H3=>∃ k,z = .bl k /\
 (if k=true then tc σ H3 fun w' H4=>r' y w' H4 Q else Q (.bl false) H3)
theorem we{op op':CmpOp}{r r':R2}(ho:OpR X (compareOp op) r)(ho':OpR X (compareOp op') r')(ha:PE X a ta)(hb:PE X b tb)(hc:PE X c tc)
 (hm:lastMarks [op,op'] [b,c]=false:=by with_unfolding_all rfl):PE X (.Compare a [op,op'] [b,c] pos) (vo r r' ta tb tc):=by
 intro pins s σ H Q I h
 refine Compare_chain (thn (ha pins s σ H _ I h) fun v s1 ⟨x,H1,I1,r1,q1⟩=>chain_link (thn (hb pins s1 σ H1 _ I1 q1) fun u s2 ⟨y,H2,I2,r2,q2⟩ =>
  thn (ho pins s2 σ H2 x y v u _ I2 r1 r2 q2) fun d s3 ⟨z,H3,I3,r3,k,e,q3⟩=> ?_)) hm
 subst e;cases r3;refine Ch ?_
 cases k with
 | false=>exact ite_ff ⟨.bl false,H3,I3,rfl,q3⟩
 | true=>exact ite_tt (chain_last (thn (hc pins s3 σ H3 _ I3 q3) fun w' s4 ⟨z',H4,I4,r4,q4⟩=>ho' pins s4 σ H4 y z' u w' Q I4 r2 r4 q4))
def Ag(K:Df)(x:V)(H:Hp)(k:Bool):Prop :=
 match x with
 | .non=>k=false
 | .bl b=>k=b
 | .int i=>k=(i != 0)
 | .str y=>y.length<=sizeLine/\k=((y.length:Int) != 0)
 | .byt y=>y.size<=sizeLine/\k=((y.size:Int) != 0)
 | .ref p=>(∃ xs,SqL K H p xs/\k = !xs.isEmpty)\/(∃ xs,SqT K H p xs/\k = !xs.isEmpty)\/∃ kvs,H p=some (.dK kvs)/\k = !kvs.isEmpty
 | _=>False
theorem qV{κ:Type}{kvs:List (κ×V)}{vs:List (κ×Value)}(r:KV kvs vs):(!vs.isEmpty) = !kvs.isEmpty:=by
 cases r<;>rfl
theorem k9{xs:List V}{its:List Value}(r:ar xs its):(!its.toArray.isEmpty) = !xs.isEmpty:=by
 cases r<;>simp
theorem jy:(sizeLine:Nat) < 2 ^ 63:=by rw [sizeLine_eq];decide
theorem tru_ok:TruR X (fun x H Q=>∃ k,Ag X.K x H k/\Q k H):=by
 intro pins s σ H x v Q I rx h;obtain ⟨k,e,q⟩:=h;have hl:=jy;have hs:sizeLine=16777216:=sizeLine_eq
 cases x with
 | non =>
  cases rx;have e':k=false:=e;subst e';exact truthy_none ⟨H,I,q⟩
 | bl b =>
  cases rx;have e':k=b:=e;subst e';exact Ch ⟨H,I,q⟩
 | int i =>
  obtain ⟨t,rfl⟩:=rx;have e':k=(i != 0):=e;subst e';exact PySem.P.truthy_int ⟨H,I,q⟩
 | str y =>
  obtain ⟨t,rfl⟩:=rx;obtain ⟨hy,e'⟩:y.length<=sizeLine/\k=((y.length:Int) != 0):=e;subst e';exact PySem.P.truthy_str (by omega) ⟨H,I.tok _,q⟩
 | byt y =>
  obtain ⟨t,rfl⟩:=rx;obtain ⟨hy,e'⟩:y.size<=sizeLine/\k=((y.size:Int) != 0):=e;subst e';exact PySem.W.truthy_bytes (by omega) ⟨H,I.tok _,q⟩
 | ref p =>
  cases rx;have e':(∃ xs,SqL X.K H p xs/\k = !xs.isEmpty)\/(∃ xs,SqT X.K H p xs/\k = !xs.isEmpty)\/∃ kvs,H p=some (.dK kvs)/\k = !kvs.isEmpty:=e
  rcases e' with ⟨xs,hx,e'⟩ | ⟨xs,hx,e'⟩ | ⟨kvs,hx,e'⟩
  ·subst e'
   obtain ⟨its,r,pl,hz⟩:=I.list hx;have hlen:=r.length;exact wpAny_truthy_list pl.isList (by simp only [AW];omega) ⟨H,I.tok _,by rw [k9 r];exact q⟩
  ·subst e'
   obtain ⟨its,r,pl,hz⟩:=I.tuple hx;have hlen:=r.length;exact truthy_tuple pl (by simp only [AW];omega) ⟨H,I.tok _,by rw [k9 r];exact q⟩
  ·subst e'
   obtain ⟨hz,hS,vs,r,m⟩:kvs.length<=sizeLine/\(p == sysModules)=false/\∃ vs,KV kvs vs/\s.heap.DictOf (bj X.prog X.w) p vs:=I.hok p _ hx;have hlen:kvs.length=vs.length:=Paired.length r;exact wpAny_truthy_dict hS m (by omega) ⟨H,I.tok _,by rw [qV r];exact q⟩
 | _=>exact (show False from e).elim
theorem vW(ha:PE X a ta)(he:∀ whole,isTrue a X.env whole=(do let v <- whole;standAt a.pos;holding [v] (truthy v))) :
 PT X a (fun σ H Q=>ta σ H fun x H'=>∃ k,Ag X.K x H' k/\Q k H'):=by
 intro pins s σ H Q I h;exact isTrue_plain (thn (ha pins s σ H _ I h) fun v s1 ⟨x,H1,I1,r1,q1⟩=>tru_ok pins s1 σ H1 x v Q I1 r1 q1) (he _)
theorem bn{x:V}{us:List Value}(r:ar [x] us):∃ u,us=[u]/\aB x u:=by
 cases r with
 | cons r1 r2=>cases r2;exact ⟨_,rfl,r1⟩
theorem oF{x y:V}{us:List Value}(r:ar [x,y] us):∃ u w',us=[u,w']/\aB x u/\aB y w':=by
 cases r with
 | cons r1 r2 =>
  cases r2 with
  | cons r3 r4=>cases r4;exact ⟨_,_,rfl,r1,r3⟩
theorem uF(hc:X.calm=true):aw X (.builtin "max") (fun xs H Q=>∃ i j,xs=[.int i,.int j]/\Q (.int (if j > i then j else i)) H):=by
 intro pins s σ H xs us Q I r h;obtain ⟨i,j,rfl,q⟩:=h;obtain ⟨u,w',rfl,⟨t,rfl⟩,⟨t',rfl⟩⟩:=oF r
 refine max_two_ints (I.ok.hd hc) fun h' tk k=>⟨_,H,I.kept k,?_,q⟩
 by_cases hj:j > i
 ·rw [if_pos hj,if_pos hj];exact ⟨_,rfl⟩
 ·rw [if_neg hj,if_neg hj];exact ⟨_,rfl⟩
theorem uA(hc:X.calm=true):aw X (.builtin "min") (fun xs H Q=>∃ i j,xs=[.int i,.int j]/\Q (.int (if j < i then j else i)) H):=by
 intro pins s σ H xs us Q I r h;obtain ⟨i,j,rfl,q⟩:=h;obtain ⟨u,w',rfl,⟨t,rfl⟩,⟨t',rfl⟩⟩:=oF r
 refine min_two_ints (I.ok.hd hc) fun h' tk k=>⟨_,H,I.kept k,?_,q⟩
 by_cases hj:j < i
 ·rw [if_pos hj,if_pos hj];exact ⟨_,rfl⟩
 ·rw [if_neg hj,if_neg hj];exact ⟨_,rfl⟩
theorem uK:aw X (.type "int") (fun xs H Q=>(∃ i,xs=[.int i]/\Q (.int i) H)\/∃ k,xs=[.bl k]/\Q (.int (if k then 1 else 0)) H):=by
 intro pins s σ H xs us Q I r h
 rcases h with ⟨i,rfl,q⟩ | ⟨k,rfl,q⟩
 ·obtain ⟨u,rfl,t,rfl⟩:=bn r
  exact call_int_int ⟨.int i,H,I,⟨_,rfl⟩,q⟩
 ·obtain ⟨u,rfl,r1⟩:=bn r
  cases r1;exact call_int_bool ⟨.int (if k then 1 else 0),H,I.tok _,⟨_,rfl⟩,q⟩
end
section
variable{prog:Program}{w:World}{A:Around}{E:Value->Shared->Prop}{s:Shared}{K:Df}{x dx C f:Addr}{mA:Str->Option Value}{name:Str}{v:Value}
end
theorem l5.some_of{v:V}{o:Option Value}(r:l5 (some v) o):∃ u,o=some u/\aB v u:=by
 cases o with
 | none=>exact (show False from r).elim
 | some u=>exact ⟨u,rfl,r⟩
section
variable{P:Program}{w:World}{H H':Hp}{h h':Heap}{a C dx:Addr}{fs fs':List (Str×V)}
end
structure Cls(K:Df)(C:Addr):Prop where
 pg:PySem.W.plainGet K C Str.empty=true
 hd:PySem.W.hasDictIn K C=true
 po:PySem.W.plainOver K C=true
 sa:PySem.W.findIn K (.ref C) "__setattr__" = some (some (.builtin "object.__setattr__"))
section
variable{X:Cx}{pins:List (Addr×Obj)}{σ:St}{H:Hp}{s:Shared}{a C dx:Addr}{fs:List (Str×V)}{f:Str}{v:V}{A:Around}{E:Value->Shared->Prop}
end
section
variable{X:Cx}{o e value:Expr}{f:Str}{pos pos' tpos:Pos}{ta tv:TE}
end
section
variable{X:Cx}{pins:List (Addr×Obj)}{σ:St}{H:Hp}{s:Shared}{A:Around}{E:Value->Shared->Prop}{Q:Value->Shared->Prop}{c:Value}{b:Bool}
inductive lI(K:Df)(H:Hp):V->Value->Prop where
 | non:lI K H .non (.type "NoneType")
 | bl (x:Bool):lI K H (.bl x) (.type "bool")
 | int (i:Int):lI K H (.int i) (.type "int")
 | str (x:Str):lI K H (.str x) (.type "str")
 | flt (x:UInt64):lI K H (.flt x) (.type "float")
 | lst {a:Addr} {xs:List V} (e:H a=some (.lst xs)):lI K H (.ref a) (.type "list")
 | frz {a:Addr} {o:Obj} {xs:List V} (e:H a=some (.frz o (.lst xs))):lI K H (.ref a) (.type "list")
 | tup {a:Addr} {xs:List V} (e:H a=some (.tup xs)):lI K H (.ref a) (.type "tuple")
 | dK {a:Addr} {kvs:List (Key×V)} (e:H a=some (.dK kvs)):lI K H (.ref a) (.type "dict")
 | dT {a:Addr} {kvs:List (List Key×V)} (e:H a=some (.dT kvs)):lI K H (.ref a) (.type "dict")
 | ins {a C dx:Addr} {fs:List (Str×V)} (e:H a=some (.ins C dx fs)) (cl:Cls K C) (ha:PySem.W.findIn K (.ref C) "__class__" = some (some (.builtin "object.__class__")))
  (hn:PySem.W.specialIn K (.builtin "object.__class__") "__get__" = some (some (.builtin "getset_descriptor.__get__"))) (htk:PySem.W.takesIn K (.builtin "object.__class__")=some true)
  (hm:PySem.W.mroIn K C (.type "object")=some true):lI K H (.ref a) (.ref C)
end
structure cq(k:Nat)(A:Around):Prop where
 hd:A.handled=none
 dp:A.depth+3 * k+5 < recursionLimit
 un:A.units+16 * k+200 < cLine
 gd:A.guards=some []:=by rfl
theorem cq.mono{j k:Nat}{A:Around}(r:cq k A)(h:j<=k):cq j A:=⟨r.hd,by have:=r.dp;omega,by have:=r.un;omega,r.gd⟩
theorem cq.deeper{k:Nat}{A:Around}(r:cq (k+1) A)(env:Env):cq k (A.deeper env) :=
 ⟨r.hd,by have:=r.dp;show A.depth+1+3 * k+5 < _;omega,by have:=r.un;show A.units+3+16 * k+200 < _;omega,r.gd⟩
theorem cq.depth{k:Nat}{A:Around}(r:cq k A):A.depth < recursionLimit:=by have:=r.dp;omega
theorem cq.units{k:Nat}{A:Around}(r:cq k A):A.units+64 < cLine:=by have:=r.un;omega
def yb:TA:=fun _ H Q=>Q [] H
def rX(ta:TE)(tr:TA):TA:=fun σ H Q=>ta σ H fun x H1=>tr σ H1 fun xs H2=>Q (x::xs) H2
section
variable{X:Cx}{e:Expr}{es:List Expr}{te:TE}{t:TA}{pos:Pos}
theorem eY:PA X [] yb:=fun _ _ _ _ H Q I h=>Calls.spliced_nil ⟨[],H,I,.nil,h⟩
theorem cQ(ha:PE X e te)(hr:PA X es t)(hs:starEach (e::es) X.env=(false,eval e X.env)::starEach es X.env:=by rfl):PA X (e::es) (rX te t):=by
 intro pos pins s σ H Q I h;rw [hs]
 show wpAny _ _ (spliced ((false,eval e X.env)::backTo pos (starEach es X.env))) _ _ s
 refine Calls.spliced_cons (thn (ha pins s σ H _ I h) fun u s1 ⟨x,H1,I1,r1,q1⟩=> ?_)
 exact thn (hr pos pins s1 σ H1 _ I1 q1) fun us s2 ⟨xs,H2,I2,r2,q2⟩=>⟨x::xs,H2,I2,.cons r1 r2,q2⟩
def tTup(t:TA):TE:=fun σ H Q=>t σ H fun xs H1=>xs.length<=sizeLine/\∀ p,H1 p=none->Q (.ref p) (upd H1 p (.tup xs))
def tLst(t:TA):TE:=fun σ H Q=>t σ H fun xs H1=>xs.length<=sizeLine/\∀ p,H1 p=none->Q (.ref p) (upd H1 p (.lst xs))
theorem pe_tup{x1}(h:PA X es t):PE X (.Tuple es x1 pos) (tTup t):=by
 intro pins s σ H Q I hq;refine wpAny_Tuple_spliced (thn (h pos pins s σ H _ I hq) fun us s1 ⟨xs,H1,I1,r,z,q⟩=>⟨by rw [<- r.length];exact z,?_⟩);have hf:H1 s1.heap.objs.size=none:=I1.hok.fresh (A8 _);refine ⟨.ref s1.heap.objs.size,upd H1 s1.heap.objs.size (.tup xs),I1.laid (t':=s1.toks) (fun b u e=>AR _ e) (A8 _) ?_,rfl,q _ hf⟩;exact ⟨z,us,r,⟨_,AZ _ rfl,rfl,_,rfl⟩⟩
theorem wa(h:PA X es t):PE X (.List es pos) (tLst t):=by
 intro pins s σ H Q I hq;refine wpAny_List_spliced (thn (h pos pins s σ H _ I hq) fun us s1 ⟨xs,H1,I1,r,z,q⟩=>⟨by rw [<- r.length];exact z,?_⟩);have hf:H1 s1.heap.objs.size=none:=I1.hok.fresh (A8 _);refine ⟨.ref s1.heap.objs.size,upd H1 s1.heap.objs.size (.lst xs),I1.laid (t':=s1.toks) (fun b u e=>AR _ e) (A8 _) ?_,rfl,q _ hf⟩;exact ⟨z,us,0,r,AZ _ rfl⟩
end
abbrev Sp:=List V->Hp->VK->XK->Prop
abbrev CXT:=List Env->Hp->Shared->XK->Value->Shared->Prop
structure Ah(P:Program)(w:World)(K:Df)(mg:Str->Option Value)(base:Heap)(A:Around)(outer:List Env)(s:Shared)(H:Hp):Prop where
 frames:A.frames=some outer
 mod:Mod K mg base
 bs:∀ b o,base.get? b=some o->s.heap.get? b=some o/\H b=none
 bsz:base.objs.size<=s.heap.objs.size
 funs:s.heap.FunFrames base outer
 frf:∀ b∈frs outer,H b=none
 hok:HOk P w H s.heap
 bare:AllBare s.gens
def CE(outer:List Env)(P:Program)(w:World)(H:Hp)(s:Shared)(Q:VK)(u:Value)(s':Shared):Prop :=
 ∃ v H',s'.os=s.os/\AllBare s'.gens/\Un (frs outer) [] H H' s.heap s'.heap/\HOk P w H' s'.heap/\aB v u/\Q v H'
def CR(CX:CXT)(outer:List Env)(P:Program)(w:World)(H:Hp)(s:Shared)(Q:VK)(E:XK)(r:Result)(s':Shared):Prop :=
 match r with
 | .ok (.ret u)=>CE outer P w H s Q u s'
 | .ok _=>False
 | .error e=>CX outer H s E e s'
structure jE(P:Program)(w:World)(K:Df)(mg:Str->Option Value)(base:Heap)(CX:CXT)(k:Nat)(f:Addr)(fd:FuncData)(ps:List Str)(sp:Sp):Prop where
 len:∀ vs H Q E,sp vs H Q E->vs.length=ps.length
 run:∀ (A:Around) (outer:List Env) (s:Shared) (H:Hp) (args:Args) (us:List Value) (vs:List V) (Q:VK) (E:XK),cq k A->Ah P w K mg base A outer s H->BindsTo s fd args (ps.zip us)->ar vs us->sp vs H Q E ->
  codeAny (model P w) A (.call (.ref f) args) (CR CX outer P w H s Q E) s
section
variable{X:Cx}{pins:List (Addr×Obj)}{σ:St}{H:Hp}{s s':Shared}
theorem Inv.env0(I:Inv X pins σ H s):Ah X.prog X.w X.K X.mg X.base X.A X.stack s H :=
 ⟨I.ok.frames,I.ok.mod,I.bs,B5 I.ok.bsz I.sz,I.stack,I.stkFree,I.hok,I.bare⟩
theorem Inv.after{Q:VK}{u:Value}(I:Inv X pins σ H s)(h:CE X.stack X.prog X.w H s Q u s'):EP X pins σ Q u s':=by
 obtain ⟨v,H',os,bare,un,hok,r,q⟩:=h;obtain ⟨hh,g,d,t,os'⟩:=s';obtain rfl:os'=s.os:=os;exact ⟨v,H',I.call (h':=hh) (g':=g) (d':=d) (t':=t) (ch:=[]) un hok bare (fun b z=>absurd z (by simp)),r,q⟩
end
def vp(sp:Sp)(dvs:List V)(E:XK)(t:TA):TE:=fun σ H Q=>t σ H fun vs H1=>sp (vs++dvs) H1 Q E
def jY(K:Df)(fd:FuncData)(ps:List Str)(ds:List Value):Prop :=
 ∀ (s:Shared) (us:List Value),K.In s.heap->(us++ds).length=ps.length->BindsTo s fd ⟨us,[]⟩ (ps.zip (us++ds))
theorem jY.all{K:Df}{fd:FuncData}{ps:List Str}(h:∀ us:List Value,us.length=ps.length->bindArgs fd ⟨us,[]⟩=pure (ps.zip us)):jY K fd ps []:=fun s us _ hl=>by
 rw [Cz] at hl ⊢;exact .of_eq (h us hl)
def rS(CX:CXT)(X:Cx)(E:XK):Prop:=∀ (pins:List (Addr×Obj)) (σ:St) (H:Hp) (s:Shared) (e:Value) (s':Shared),Inv X pins σ H s->CX X.stack H s E e s'->X.xe e s'
section
variable{X:Cx}{CX:CXT}{k:Nat}{f C:Addr}{fd:FuncData}{ps:List Str}{sp:Sp}{dvs:List V}{ds:List Value}{E:XK}{x m:Str}{p pos apos:Pos}{e o:Expr}{es:List Expr}{ta:TE}{t:TA}
theorem run_fn{pins:List (Addr×Obj)}{σ:St}{H:Hp}{s:Shared}{Q:VK}{us:List Value}{vs:List V}(F:jE X.prog X.w X.K X.mg X.base CX k f fd ps sp)(hr:cq k X.A)(hb:jY X.K fd ps ds)(hd:ar dvs ds)(hx:rS CX X E)
 (I:Inv X pins σ H s) (r:ar vs us) (h:sp (vs++dvs) H Q E):wpAny (model X.prog X.w) X.A (call (.ref f) us) (EP X pins σ Q) X.xe s:=by
 have r2:ar (vs++dvs) (us++ds):=r.append hd
 have hl:(us++ds).length=ps.length:=by rw [<- r2.length];exact F.len _ _ _ _ h
 refine wpAny_call (codeAny_mono (F.run X.A X.stack s H ⟨us,[]⟩ (us++ds) (vs++dvs) Q E hr I.env0 (hb s us I.kIn hl) r2 h) fun r s' hq=> ?_)
 cases r with
 | error e=>exact hx pins σ H s e s' I hq
 | ok fl =>
  cases fl with
  | ret u=>exact I.after hq
  | next=>exact False.elim hq
  | brk=>exact False.elim hq
  | cont=>exact False.elim hq
theorem sy(F:jE X.prog X.w X.K X.mg X.base CX k f fd ps sp)(hr:cq k X.A)(hg:Gl X x)(hm:X.mg x=some (.ref f))(hk:PySem.W.keepIn X.K (.ref f)=true)(hb:jY X.K fd ps ds)(hd:ar dvs ds)(hx:rS CX X E)
 (ha:PA X (e::es) t) (hdb:(x == ("__debug__" : Str))=false:=by decide) (he:starEach (e::es) X.env=(false,eval e X.env)::starEach es X.env:=by rfl) (hpl:(backTo pos (starEach es X.env)).any (·.1)=false:=by rfl) :
 PE X (.Call (.Name x p) (e::es) [] pos) (vp sp dvs E t):=by
 intro pins s σ H Q I h;refine Da (nN I hg hm ?_ hdb);refine PySem.W.callWith_K (h₀:=X.base) I.ok.mod.kin hk (thn (ha pos pins s σ H _ I h) fun us s1 ⟨vs,H1,I1,r,q⟩=>⟨I1.kIn,?_⟩) he hpl;exact run_fn F hr hb hd hx I1 r q
end
def PK(X:Cx)(kws:List Keyword)(t:TA):Prop :=
 ∀ (pos:Pos) (pins:List (Addr×Obj)) (s:Shared) (σ:St) (H:Hp) (Q:List V->Hp->Prop),Inv X pins σ H s->t σ H Q->wpAny (model X.prog X.w) X.A (evalAll ((backToKw pos (keywordEach kws X.env)).map (·.2))) (AP X pins σ Q) X.xe s
section
variable{X:Cx}{CX:CXT}{k:Nat}{f C:Addr}{fd:FuncData}{ps ks:List Str}{sp:Sp}{E:XK}{x m:Str}{p pos apos kpos:Pos}{e o:Expr}{es:List Expr}{kws:List Keyword}{te ta:TE}{t tk:TA}{nm:Option Str}
theorem pk_nil:PK X [] yb:=fun _ _ _ _ H Q I h=>wpAny_evalAll_nil ⟨[],H,I,.nil,h⟩
theorem yM(ha:PE X e te)(hr:PK X kws t):PK X (⟨nm,e,kpos⟩::kws) (rX te t):=by
 intro pos pins s σ H Q I h
 show wpAny _ _ (evalAll ((do let v <- eval e X.env;standAt pos;pure v)::(backToKw pos (keywordEach kws X.env)).map (·.2))) _ _ s
 refine wpAny_evalAll_cons (AQ (thn (ha pins s σ H _ I h) fun u s1 ⟨x,H1,I1,r1,q1⟩=>AQ (wpAny_standAt (AX ?_))))
 exact thn (hr pos pins s1 σ H1 _ I1 q1) fun us s2 ⟨xs,H2,I2,r2,q2⟩=>⟨x::xs,H2,I2,.cons r1 r2,q2⟩
variable{g:List Value->List Value->List Value}{gV:List V->List V->List V}
end
structure cI(N P:List Str)(sc:Scope):Prop where
 kind:sc.kind = .function
 co:sc.isCoroutine=false
 gen:sc.isGenerator=false
 nd:N.Nodup
 pre:N.take P.length=P
 par:∀ x∈P,sc.names.lookup x=some .local\/sc.names.lookup x=some .cell
 nofree:∀ y∈sc.names,y.2 ≠ .free
theorem mP{kindOf:Str->Option NameKind}{x:Str}:∀ {binds:List (Str×Value)} {m:Str->Option Value},(∀ v,(x,v)∉binds)->bindL kindOf binds m x=m x
 | [],_,_=>rfl
 | (n,v)::r,m,h=>by
  unfold bindL;rw [mP fun w hw=>h w (AV _ hw)]
  split
  ·have:x≠n:=by rintro rfl;exact h v AY
   simp [this]
  ·rfl
theorem mR{kindOf:Str->Option NameKind}{x:Str}:∀ {binds:List (Str×Value)} {m:Str->Option Value},(∀ v,(x,v)∉binds)->bindC kindOf binds m x=m x
 | [],_,_=>rfl
 | (n,v)::r,m,h=>by
  unfold bindC;rw [mR fun w hw=>h w (AV _ hw)]
  split
  ·rfl
  ·have:x≠n:=by rintro rfl;exact h v AY
   simp [this]
theorem mQ{kindOf:Str->Option NameKind}{x:Str}{v:Value}:∀ {P:List Str} {vs:List Value} {i:Nat} {m:Str->Option Value},P.Nodup->P[i]?=some x->vs[i]?=some v->kindOf x=some .local ->
 bindL kindOf (P.zip vs) m x=some v
 | [],_,_,_,_,h,_,_=>by simp at h
 | _::_,[],_,_,_,_,h,_=>by simp at h
 | p::P,w::vs,0,m,nd,h1,h2,hk=>by
  simp at h1 h2;subst h1;subst h2
  show bindL kindOf ((p,w)::P.zip vs) m p=_
  unfold bindL;rw [mP fun v hv=>(Bv.mp nd).1 (List.of_mem_zip hv).1,if_pos hk];simp
 | p::P,w::vs,i+1,m,nd,h1,h2,hk=>by
  show bindL kindOf ((p,w)::P.zip vs) m x=_
  unfold bindL;exact mQ (i:=i) (Bv.mp nd).2 (by simpa using h1) (by simpa using h2) hk
theorem mS{kindOf:Str->Option NameKind}{x:Str}{v:Value}:∀ {P:List Str} {vs:List Value} {i:Nat} {m:Str->Option Value},P.Nodup->P[i]?=some x->vs[i]?=some v->kindOf x≠some .local ->
 bindC kindOf (P.zip vs) m x=some v
 | [],_,_,_,_,h,_,_=>by simp at h
 | _::_,[],_,_,_,_,h,_=>by simp at h
 | p::P,w::vs,0,m,nd,h1,h2,hk=>by
  simp at h1 h2;subst h1;subst h2
  show bindC kindOf ((p,w)::P.zip vs) m p=_
  unfold bindC;rw [mR fun v hv=>(Bv.mp nd).1 (List.of_mem_zip hv).1,if_neg hk];simp
 | p::P,w::vs,i+1,m,nd,h1,h2,hk=>by
  show bindC kindOf ((p,w)::P.zip vs) m x=_
  unfold bindC;exact mS (i:=i) (Bv.mp nd).2 (by simpa using h1) (by simpa using h2) hk
def dA(N:List Str)(vs:List V):St:=vs.map some++List.replicate (N.length - vs.length) none
def bQ(CX:CXT)(P:Program)(w:World)(K:Df)(mg:Str->Option Value)(base:Heap)(N:List Str)(qual:Str)(scope:Scope)(f:Addr)(cd:Value)(A:Around)(outer:List Env)(s:Shared)(H:Hp)(E:XK):Cx where
 prog:=P
 w:=w
 K:=K
 mg:=mg
 base:=base
 A:=A.deeper (envOfC qual scope s.heap.objs.size f cd)
 N:=N
 s₀:=s
 H₀:=H
 env:=envOfC qual scope s.heap.objs.size f cd
 outer:=outer
 stack:=envOfC qual scope s.heap.objs.size f cd::outer
 ex:=[]
 calm:=true
 fn:=fun _=>true
 pn:=[]
 xe:=fun e s'=>wpAny (model P w) (A.deeper (envOfC qual scope s.heap.objs.size f cd)) (leaving (envOfC qual scope s.heap.objs.size f cd) e) (fun _ s''=>CX outer H s E e s'') (fun e' s''=>CX outer H s E e' s'') s'
theorem qh{sc:Scope}{n:Nat}{x:Str}(h:sc.names.lookup x=some .cell):∃ c,(cellsFrom n sc.names []).lookup x=some c:=by
 have q:=PySem.W.cellsFrom_some sc.names n [] (.inl h);exact Option.isSome_iff_exists.mp q
theorem t3{CX:CXT}{P:Program}{w:World}{K:Df}{mg:Str->Option Value}{base:Heap}{N ps:List Str}{qual:Str}{scope:Scope}{f:Addr}{cd:Value}{A:Around}{outer:List Env}{s s1:Shared}{H:Hp}{E:XK}{us:List Value}{vs:List V}
 (S:cI N ps scope) (hd:A.handled=none) (e0:Ah P w K mg base A outer s H) (hl:vs.length=ps.length) (r:ar vs us)
 (x:InCallC s s.heap.objs.size (bindL (envOfC qual scope s.heap.objs.size f cd).kindOf (ps.zip us) fun _=>none) (cellsFrom (s.heap.objs.size+1) scope.names []) (bindC (envOfC qual scope s.heap.objs.size f cd).kindOf (ps.zip us) fun _=>none) s1) :
 Inv (bQ CX P w K mg base N qual scope f cd A outer s H E) [] (dA N vs) H s1:=by
 have hpl:ps.length<=N.length:=by have:=congrArg List.length S.pre;rw [BY] at this;omega
 obtain ⟨h1,tk,rfl,hk⟩:=x.done
 have noA:∀ b:Addr,b∉(bQ CX P w K mg base N qual scope f cd A outer s H E).ex:=fun b z=>absurd (show b∈([]:List Addr) from z) (by simp)
 refine ⟨⟨e0.mod,S.kind,rfl,rfl,A8 _,fun y z c h1 h2=> ?_,fun y hy=> ?_,fun y c _ h=> ?_,fun _=>hd,Around.frames_deeper e0.frames,.inr ⟨rfl,rfl⟩,fun b z=>absurd z (noA b),e0.bs,e0.bsz,fun b _ _=>noA b,fun b z=>absurd z (noA b),e0.funs,e0.frf⟩,
  rfl,e0.bare,Un.kept hk,⟨_,x.toInCall.ns,fun i y v h1 h2 h3=> ?_⟩,fun y c h=>⟨_,x.cell y c h⟩,e0.hok.fresh (A8 _),fun y c h=> ?_,fun p hp=>absurd (show p∈([]:List (Addr×Obj)) from hp) (by simp),e0.hok.kept hk,?_⟩
 ·exact name_of_addr x.apart (BQ h1) (BQ h2)
 ·have hy:scope.names.lookup y=some .cell\/scope.names.lookup y=some .free:=hy
  rcases hy with hy | hy
  ·exact qh hy
  ·exact absurd rfl (S.nofree _ (BQ hy))
 ·exact Nat.le_of_lt (x.above y c (BQ h))
 ·have hi:i < vs.length:=by
   unfold dA at h2
   by_cases hi:i < vs.length
   ·exact hi
   ·rw [BZ (by simpa using hi)] at h2
    rw [Cm] at h2
    split at h2<;>cases h2
  have ha:vs[i]?=some v:=by
   unfold dA at h2;rw [Bt (by simpa using hi),Bf] at h2
   cases e:vs[i]? with
   | none=>rw [e] at h2;cases h2
   | some a=>rw [e] at h2;cases h2;rfl
  obtain ⟨u,hu,rv⟩:=r.get ha
  have hp:ps[i]?=some y:=by
   rw [<- S.pre,List.getElem?_take_of_lt (by omega)];exact h1
  have ndP:ps.Nodup:=by rw [<- S.pre];exact S.nd.sublist (List.take_sublist _ _)
  refine ⟨u,rv,?_⟩
  rcases S.par y (Bc hp) with k | k
  ·exact .inl ⟨k,mQ ndP hp hu k⟩
  ·obtain ⟨c,e⟩:=qh (n:=s.heap.objs.size+1) k
   refine .inr ⟨.inl k,c,e,?_⟩;have q:=x.cell y c e;rw [mS ndP hp hu (by show scope.names.lookup y≠_;rw [k];decide)] at q;exact q
 ·exact e0.hok.fresh (Nat.le_of_lt (x.above y c (BQ h)))
 ·unfold dA
  show _=N.length
  rw [A7,AO,BK];omega
theorem xk{CX:CXT}{P:Program}{w:World}{K:Df}{mg:Str->Option Value}{base:Heap}{k:Nat}{f:Addr}{name qual:Str}{params:Arguments}{body:List Stmt}{scope:Scope}{dV kV doc pm cdv ct oc:Value}{an od:Option Addr}
 {osl:Array (Option Value)} {N ps:List Str} {sp:Sp} (lk:K.lookup f=some ⟨oc,od,.func (PySem.W.fnOf name qual params body scope dV kV doc pm an cdv ct),osl⟩) (hcd:PySem.W.codeIn K cdv qual=true) (S:cI N ps scope)
 (len:∀ vs H Q E,sp vs H Q E->vs.length=ps.length)
 (hbody:∀ (A:Around) (outer:List Env) (s:Shared) (H:Hp) (vs:List V) (Q:VK) (E:XK),cq k (A.deeper (envOfC qual scope s.heap.objs.size f cdv))->sp vs H Q E ->
   ∃ t,PSs (bQ CX P w K mg base N qual scope f cdv A outer s H E) body t/\t { nx:=fun _ H'=>Q .non H',rt:=Q } (dA N vs) H) :
 jE P w K mg base CX (k+1) f (PySem.W.fnOf name qual params body scope dV kV doc pm an cdv ct) ps sp:=by
 refine ⟨len,fun A outer s H args us vs Q E hr e0 hb r hsp=> ?_⟩;have hl:=len _ _ _ _ hsp
 have KX:K.In s.heap:=e0.mod.kin.keeps fun b o e=>(e0.bs b o e).1
 have lim:s.heap.NoLimit:=e0.mod.nolimit.keeps fun b o e=>(e0.bs b o e).1
 have hkind:∀ y∈ps.zip us,scope.names.lookup y.1=some .local\/(scope.names.lookup y.1=some .cell/\((cellsFrom (s.heap.objs.size+1) scope.names []).lookup y.1).isSome=true):=fun ⟨n,v⟩ hy=>by
  rcases S.par n (List.of_mem_zip hy).1 with q | q
  ·exact .inl q
  ·exact .inr ⟨q,PySem.W.cellsFrom_some _ _ _ (.inl q)⟩
 refine codeAny_call_function hr.depth (KX _ _ lk) rfl S.co S.gen rfl (PySem.W.codeRec_of KX hcd) (hb _ _ _ _ ?_)
 refine wpAny_newFunctionEnv_cells S.kind hkind fun env he s1 x=> ?_
 subst he;refine ⟨lim.keeps x.toInCall.keep,codeAny_func ?_⟩;obtain ⟨t,ht,hq⟩:=hbody A outer s H vs Q E (hr.deeper _) hsp;have I:Inv (bQ CX P w K mg base N qual scope f cdv A outer s H E) [] (dA N vs) H s1:=t3 S hr.hd e0 hl r x
 refine B9 (ht [] s1 (dA N vs) H _ I hq) (fun fl s' hs=> ?_) fun e s' hs=>hs
 have fin:∀ {σ':St} {H':Hp} {v:V} {u:Value},Inv (bQ CX P w K mg base N qual scope f cdv A outer s H E) [] σ' H' s'->aB v u->Q v H'->CE outer P w H s Q u s' :=
  fun {σ' H' v u} J rv q=>⟨v,H',J.os,J.bare,J.base,J.hok,rv,q⟩
 cases fl with
 | ret u =>
  obtain ⟨v,σ',H',J,rv,q⟩:=hs;exact fin J rv q
 | next =>
  obtain ⟨σ',H',J,q⟩:=hs;exact fin (v:=V.non) (u:=Value.none) J rfl q
 | brk =>
  obtain ⟨_,_,_,q⟩:=hs;exact False.elim q
 | cont =>
  obtain ⟨_,_,_,q⟩:=hs;exact False.elim q
section
variable{X:Cx}{x:Str}{p pos:Pos}{e:Expr}{es:List Expr}{t:TA}{id T:String}{r:List V->Hp->VK->Prop}
def tCB(r:List V->Hp->VK->Prop)(t:TA):TE:=fun σ H Q=>t σ H fun vs H1=>r vs H1 Q
theorem pe(hc:aw X (.builtin id) r)(hg:Gl X x)(hm:X.mg x=none)(hv:bootBuiltins x=some (.builtin id))(ha:PA X (e::es) t)(hn:x ≠ "__name__" := by decide)(hdb:(x == ("__debug__" : Str))=false:=by decide)
 (he:starEach (e::es) X.env=(false,eval e X.env)::starEach es X.env:=by rfl) (hpl:(backTo pos (starEach es X.env)).any (·.1)=false:=by rfl):PE X (.Call (.Name x p) (e::es) [] pos) (tCB r t):=by
 intro pins s σ H Q I h;refine Da (f8 I hg hm hv ?_ hn hdb);exact PyProof.Rows.callWith_builtin1 (thn (ha pos pins s σ H _ I h) fun us s1 ⟨vs,H1,I1,r1,q1⟩=>hc pins s1 σ H1 vs us Q I1 r1 q1) he hpl
theorem tH(hc:aw X (.type T) r)(hg:Gl X x)(hm:X.mg x=none)(hv:bootBuiltins x=some (.type T))(ha:PA X (e::es) t)(hn:x ≠ "__name__" := by decide)(hdb:(x == ("__debug__" : Str))=false:=by decide)
 (he:starEach (e::es) X.env=(false,eval e X.env)::starEach es X.env:=by rfl) (hpl:(backTo pos (starEach es X.env)).any (·.1)=false:=by rfl):PE X (.Call (.Name x p) (e::es) [] pos) (tCB r t):=by
 intro pins s σ H Q I h;refine Da (f8 I hg hm hv ?_ hn hdb);exact PyProof.Rows.callWith_type1 (thn (ha pos pins s σ H _ I h) fun us s1 ⟨vs,H1,I1,r1,q1⟩=>hc pins s1 σ H1 vs us Q I1 r1 q1) he hpl
end
section
variable{κ:Type}[DecidableEq κ]
def iB(kvs:List (κ×V))(k:κ):Option V:=(kvs.find? fun kv=>decide (kv.1=k)).map (·.2)
def hV(kvs:List (κ×V))(k:κ)(v:V):List (κ×V) :=
 if (kvs.any fun kv=>decide (kv.1=k))=true then kvs.map (fun kv=>if kv.1=k then (kv.1,v) else kv) else kvs++[(k,v)]
theorem iz{p:κ×V}{r:List (κ×V)}{k:κ}(e:p.1=k):iB (p::r) k=some p.2:=by simp [iB,CQ,e]
theorem iA{p:κ×V}{r:List (κ×V)}{k:κ}(e:¬ p.1=k):iB (p::r) k=iB r k:=by simp [iB,CQ,e]
theorem oG(k:κ):∀ kvs:List (κ×V),(kvs.any fun kv=>decide (kv.1=k))=(iB kvs k).isSome
 | []=>rfl
 | p::r=>by
  rw [List.any_cons]
  by_cases e:p.1=k
  ·simp only [iz e,Ba e,C3,Option.isSome_some]
  ·rw [iA e,Bk e,CT];exact oG k r
theorem jO(kvs:List (κ×V))(k:κ)(v:V):(hV kvs k v).length<=kvs.length+1:=by
 unfold hV
 split
 ·rw [AO];omega
 ·rw [A7,A3,B6];omega
theorem l5.isSome_eq{o:Option V}{u:Option Value}(r:l5 o u):o.isSome=u.isSome:=by
 cases o with
 | none=>cases u with
  | none=>rfl
  | some _=>exact (show False from r).elim
 | some _=>cases u with
  | none=>exact (show False from r).elim
  | some _=>rfl
theorem KV.val{kvs:List (κ×V)}{vs:List (κ×Value)}(r:KV kvs vs)(k:κ):l5 (iB kvs k) (valueAt vs k):=by
 unfold KV at r
 induction r with
 | nil=>exact True.intro
 | @cons p q ps qs h t ih =>
  obtain ⟨h1,h2⟩:=h
  by_cases e:p.1=k
  ·have e':q.1=k:=h1.symm.trans e
   have b:valueAt (q::qs) k=some q.2:=by simp [valueAt,CQ,e']
   rw [iz e,b];exact h2
  ·have e':¬ q.1=k:=fun z=>e (h1.trans z)
   have b:valueAt (q::qs) k=valueAt qs k:=by simp [valueAt,CQ,e']
   rw [iA e,b];exact ih
theorem KV.any{kvs:List (κ×V)}{vs:List (κ×Value)}(r:KV kvs vs)(k:κ):(kvs.any fun kv=>decide (kv.1=k))=vs.any fun kv=>decide (kv.1=k):=by
 unfold KV at r
 induction r with
 | nil=>rfl
 | cons h t ih=>rw [List.any_cons,List.any_cons,ih,h.1]
theorem KV.repl{kvs:List (κ×V)}{vs:List (κ×Value)}(r:KV kvs vs)(k:κ){y:V}{u:Value}(ry:aB y u) :
 KV (kvs.map fun kv=>if kv.1=k then (kv.1,y) else kv) (vs.map fun kv=>if kv.1=k then (kv.1,u) else kv):=by
 unfold KV at r ⊢
 induction r with
 | nil=>exact .nil
 | @cons p q ps qs h t ih =>
  rw [A4,A4];refine .cons ?_ ih;obtain ⟨h1,h2⟩:=h
  by_cases e:p.1=k
  ·rw [if_pos e,if_pos (h1.symm.trans e)];exact ⟨h1,ry⟩
  ·rw [if_neg e,if_neg (fun z=>e (h1.trans z))];exact ⟨h1,h2⟩
theorem KV.put{kvs:List (κ×V)}{vs:List (κ×Value)}(r:KV kvs vs)(k:κ){y:V}{u:Value}(ry:aB y u):KV (hV kvs k y) (stored vs k u):=by
 unfold hV stored;rw [r.any k]
 by_cases e:(vs.any fun kv=>decide (kv.1=k))=true
 ·rw [if_pos e,if_pos e];exact r.repl k ry
 ·rw [if_neg e,if_neg e];exact Paired.snoc r ⟨rfl,ry⟩
theorem KV.length{kvs:List (κ×V)}{vs:List (κ×Value)}(r:KV kvs vs):kvs.length=vs.length:=Paired.length r
end
theorem pK{P:Program}{w:World}{k:Key}{u:Value}(r:aB (kV k) u):(bj P w).is k u=true:=by
 cases k with
 | inl i=>obtain ⟨t,e⟩:=(show ∃ t,u=Value.int i t from r);subst e;exact pF P w i t
 | inr x=>obtain ⟨t,e⟩:=(show ∃ t,u=Value.str x t from r);subst e;exact pE P w x t
theorem mC{P:Program}{w:World}:∀ {ks:List Key} {us:List Value},ar (ks.map kV) us->ItemsAre (bj P w) ks us
 | [],_,r=>by rw [Cy] at r;cases r;exact .nil
 | k::ks,_,r=>by
  rw [A4] at r
  cases r with
  | cons h t=>exact .cons (pK h) (mC t)
abbrev KT(H:Hp):List (List Key×V)->List (List Key×Addr×Value)->Prop:=Paired fun p q=>p.1=q.1/\H q.2.1=some (.tup (p.1.map kV))/\aB p.2 q.2.2
theorem KT.val{H:Hp}{kvs:List (List Key×V)}{xs:List (List Key×Addr×Value)}(r:KT H kvs xs)(k:List Key):l5 (iB kvs k) ((atKey xs k).map (·.2)):=by
 induction r with
 | nil=>exact True.intro
 | @cons p q ps qs h t ih =>
  obtain ⟨h1,_,h2⟩:=h
  by_cases e:p.1=k
  ·have e':q.1=k:=h1.symm.trans e
   have b:atKey (q::qs) k=some q.2:=by simp [atKey,CQ,e']
   rw [iz e,b];exact h2
  ·have e':¬ q.1=k:=fun z=>e (h1.trans z)
   have b:atKey (q::qs) k=atKey qs k:=by simp [atKey,CQ,e']
   rw [iA e,b];exact ih
theorem KT.repl{H:Hp}{kvs:List (List Key×V)}{xs:List (List Key×Addr×Value)}(r:KT H kvs xs)(k:List Key){y:V}{u:Value}(ry:aB y u) :
 KT H (kvs.map fun kv=>if kv.1=k then (kv.1,y) else kv) (xs.map (putAt k u)):=by
 induction r with
 | nil=>exact .nil
 | @cons p q ps qs h t ih =>
  rw [A4,A4];refine .cons ?_ ih;obtain ⟨h1,h2,h3⟩:=h;unfold putAt
  by_cases e:p.1=k
  ·rw [if_pos e,if_pos (h1.symm.trans e)];exact ⟨h1,h2,ry⟩
  ·rw [if_neg e,if_neg (fun z=>e (h1.trans z))];exact ⟨h1,h2,h3⟩
theorem KT.put{H:Hp}{kvs:List (List Key×V)}{xs:List (List Key×Addr×Value)}(r:KT H kvs xs)(k:List Key){b:Addr}{y:V}{u:Value}(hb:H b=some (.tup (k.map kV)))(ry:aB y u) :
 KT H (hV kvs k y) (storedH xs k b u):=by
 have e:(kvs.any fun kv=>decide (kv.1=k))=(atKey xs k).isSome:=by
  rw [oG,(r.val k).isSome_eq,Option.isSome_map]
 unfold hV storedH;rw [e]
 by_cases q:(atKey xs k).isSome=true
 ·rw [if_pos q,if_pos q];exact r.repl k ry
 ·rw [if_neg q,if_neg q];exact Paired.snoc r ⟨rfl,hb,ry⟩
theorem KT.keeps{H H':Hp}{kvs:List (List Key×V)}{xs:List (List Key×Addr×Value)}(r:KT H kvs xs)(ht:∀ b ys,H b=some (.tup ys)->H' b=some (.tup ys)):KT H' kvs xs :=
 Paired.mapP r fun _ _ z=>⟨z.1,ht _ _ z.2.1,z.2.2⟩
section
variable{P:Program}{w:World}{H:Hp}{h:Heap}{a:Addr}
theorem As{u:HO}(ok:HOk P w H h)(e:Rd H a u):bf P w H h a u:=e.ok ok
theorem mL{kvs:List (Key×V)}(ok:HOk P w H h)(e:Rd H a (.dK kvs)):kvs.length<=sizeLine/\(a == sysModules)=false/\∃ vs,KV kvs vs/\h.DictOf (bj P w) a vs :=
 show bf P w H h a (.dK kvs) from As ok e
theorem dk_of{kvs:List (Key×V)}(ok:HOk P w H h)(e:H a=some (.dK kvs)):kvs.length<=sizeLine/\(a == sysModules)=false/\∃ vs,KV kvs vs/\h.DictOf (bj P w) a vs:=mL ok (.inl e)
theorem k8{ks:List Key}(ok:HOk P w H h)(e:H a=some (.tup (ks.map kV))):(tupleKind (bj P w)).is h ks a:=by
 obtain ⟨_,its,r,o,h1,h2,n,h3⟩:=(show bf P w H h a (.tup (ks.map kV)) from ok a _ e);exact ⟨o,its.toArray,n,h1,h2,h3,by simpa using mC r⟩
theorem p9{kvs:List (List Key×V)}(ok:HOk P w H h)(e:Rd H a (.dT kvs)):kvs.length<=sizeLine/\(a == sysModules)=false /\
 ∃ xs,KT H kvs xs/\h.DictOfH (tupleKind (bj P w)) a xs:=by
 obtain ⟨z,y,xs,r,o,es,ep,h1,h2,h3,h4,h5⟩:=(show bf P w H h a (.dT kvs) from As ok e);refine ⟨z,y,xs,r,o,es,ep,h1,h2,h3,h4,fun x hx=> ?_,h5⟩
 have all:∀ {l:List (List Key×V)} {m:List (List Key×Addr×Value)},KT H l m->∀ x∈m,(tupleKind (bj P w)).is h x.1 x.2.1:=by
  intro l m q
  induction q with
  | nil=>intro x hx;exact nomatch hx
  | @cons p q ps qs hq t ih =>
   intro x hx
   rcases A9.mp hx with e | hx
   ·subst e
    exact k8 ok (by rw [<- hq.1];exact hq.2.1)
   ·exact ih x hx
 exact all r x hx
theorem dt_of{kvs:List (List Key×V)}(ok:HOk P w H h)(e:H a=some (.dT kvs)):kvs.length<=sizeLine/\(a == sysModules)=false /\
 ∃ xs,KT H kvs xs/\h.DictOfH (tupleKind (bj P w)) a xs:=p9 ok (.inl e)
end
def iw(H:Hp)(a:Addr)(y:V)(r:Option V):Prop :=
 (∃ kvs k,Rd H a (.dK kvs)/\y=kV k/\r=iB kvs k)\/∃ kvs k b,Rd H a (.dT kvs)/\y = .ref b/\H b=some (.tup (k.map kV))/\r=iB kvs k
def oB(H:Hp)(a:Addr)(y v:V)(H':Hp):Prop :=
 (∃ kvs k,H a=some (.dK kvs)/\y=kV k/\kvs.length < sizeLine/\H'=upd H a (.dK (hV kvs k v))) \/
 ∃ kvs k b,H a=some (.dT kvs)/\y = .ref b/\H b=some (.tup (k.map kV))/\kvs.length < sizeLine/\H'=upd H a (.dT (hV kvs k v))
theorem iw.k{H:Hp}{a:Addr}{kvs:List (Key×V)}{k:Key}(e:H a=some (.dK kvs)):iw H a (kV k) (iB kvs k):= .inl ⟨kvs,k,.inl e,rfl,rfl⟩
theorem iw.t{H:Hp}{a b:Addr}{kvs:List (List Key×V)}{k:List Key}(e:H a=some (.dT kvs))(eb:H b=some (.tup (k.map kV))):iw H a (.ref b) (iB kvs k):= .inr ⟨kvs,k,b,.inl e,rfl,eb,rfl⟩
theorem oB.k{H:Hp}{a:Addr}{kvs:List (Key×V)}{k:Key}{v:V}(e:H a=some (.dK kvs))(hl:kvs.length < sizeLine):oB H a (kV k) v (upd H a (.dK (hV kvs k v))):= .inl ⟨kvs,k,e,rfl,hl,rfl⟩
theorem oB.t{H:Hp}{a b:Addr}{kvs:List (List Key×V)}{k:List Key}{v:V}(e:H a=some (.dT kvs))(eb:H b=some (.tup (k.map kV)))(hl:kvs.length < sizeLine) :
 oB H a (.ref b) v (upd H a (.dT (hV kvs k v))):= .inr ⟨kvs,k,b,e,rfl,eb,hl,rfl⟩
section
variable{X:Cx}{pins:List (Addr×Obj)}{σ:St}{H:Hp}{s:Shared}{a:Addr}{y v:V}{u r:Value}{o:Option V}{A:Around}{E:Value->Shared->Prop}
theorem Inv.big(I:Inv X pins σ H s):sysModules < s.heap.objs.size:=by
 have h:mainGlobals < s.heap.objs.size:=(I.mod.glob.keeps I.bk).lt;exact Nat.lt_trans (by decide) h
theorem ul{Q:Value->Shared->Prop}(hu:A.units+1 < cLine)(I:Inv X pins σ H s)(g:iw H a y (some v))(ry:aB y u)(h:∀ w' s',Inv X pins σ H s'->aB v w'->Q w' s') :
 wpAny (model X.prog X.w) A (getItem (.ref a) u) Q E s:=by
 rcases g with ⟨kvs,k,e,ey,l⟩ | ⟨kvs,k,b,e,ey,eb,l⟩
 ·subst ey
  obtain ⟨z,hd,vs,rel,dd⟩:=mL I.hok e;obtain ⟨w',hw,rw'⟩:=l5.some_of (v:=v) (o:=valueAt vs k) (by rw [l];exact rel.val k);exact wpAny_getItem_of (pK ry) dd.mapOf hw (h w' _ (I.tok _) rw')
 ·subst ey
  cases (show u=Value.ref b from ry);obtain ⟨z,hd,xs,rel,dd⟩:=p9 I.hok e;obtain ⟨w',hw,rw'⟩:=l5.some_of (v:=v) (o:=(atKey xs k).map (·.2)) (by rw [l];exact rel.val k);obtain ⟨p,hp,hp2⟩:=BI.mp hw;refine wpAny_getItem_heap (tupleKind_room_in1 hu) (k8 I.hok eb) dd hp ?_;rw [hp2];exact h w' _ (I.tok _) rw'
theorem d_in{Q:Value->Shared->Prop}(hu:A.units+1 < cLine)(I:Inv X pins σ H s)(g:iw H a y o)(ry:aB y u)(h:∀ s',Inv X pins σ H s'->Q (.bool o.isSome) s') :
 wpAny (model X.prog X.w) A (compareOp .In u (.ref a)) Q E s:=by
 rcases g with ⟨kvs,k,e,ey,l⟩ | ⟨kvs,k,b,e,ey,eb,l⟩
 ·subst ey
  obtain ⟨z,hd,vs,rel,dd⟩:=mL I.hok e;refine wpAny_in_of (pK ry) hd dd.mapOf ?_;rw [<- (rel.val k).isSome_eq,<- l];exact h _ (I.tok _)
 ·subst ey
  cases (show u=Value.ref b from ry);obtain ⟨z,hd,xs,rel,dd⟩:=p9 I.hok e;refine wpAny_in_heap (tupleKind_room_in1 hu) (k8 I.hok eb) hd dd ?_;have q:=(rel.val k).isSome_eq;rw [Option.isSome_map] at q;rw [<- q,<- l];exact h _ (I.tok _)
theorem zS{Q:Value->Shared->Prop}(hu:A.units+1 < cLine)(I:Inv X pins σ H s)(g:iw H a y o)(ry:aB y u)(h:∀ s',Inv X pins σ H s'->Q (.bool (!o.isSome)) s') :
 wpAny (model X.prog X.w) A (compareOp .NotIn u (.ref a)) Q E s:=by
 rcases g with ⟨kvs,k,e,ey,l⟩ | ⟨kvs,k,b,e,ey,eb,l⟩
 ·subst ey
  obtain ⟨z,hd,vs,rel,dd⟩:=mL I.hok e;refine wpAny_notIn_of (pK ry) hd dd.mapOf ?_;rw [<- (rel.val k).isSome_eq,<- l];exact h _ (I.tok _)
 ·subst ey
  cases (show u=Value.ref b from ry);obtain ⟨z,hd,xs,rel,dd⟩:=p9 I.hok e;refine wpAny_notIn_heap (tupleKind_room_in1 hu) (k8 I.hok eb) hd dd ?_;have q:=(rel.val k).isSome_eq;rw [Option.isSome_map] at q;rw [<- q,<- l];exact h _ (I.tok _)
theorem sU{h':Heap}{t':Nat}{ob:HO}(I:Inv X pins σ H s)(mu:Mut (H a))(hs:Heap.SameBut a s.heap h')(he:∃ q,h'.get? a=some q)(new:bf X.prog X.w (upd H a ob) h' a ob) :
 Inv X pins σ (upd H a ob) { s with heap:=h',toks:=t' } :=
 I.write (x:=a) (e:=a) mu (.inl rfl) (fun b q hb z=>(hs.2 b hb).trans z) he new
theorem dk_new{P:Program}{w:World}{H':Hp}{h':Heap}{kvs:List (Key×V)}{vs:List (Key×Value)}(z:kvs.length<=sizeLine)(hd:(a == sysModules)=false)(rel:KV kvs vs)(dd:h'.DictOf (bj P w) a vs) :
 bf P w H' h' a (.dK kvs):=⟨z,hd,vs,rel,dd⟩
theorem uk{H':Hp}{Q:Unit->Shared->Prop}(hu:A.units+1 < cLine)(I:Inv X pins σ H s)(g:oB H a y v H')(ry:aB y u)(rv:aB v r)(h:∀ s',Inv X pins σ H' s'->Q () s') :
 wpAny (model X.prog X.w) A (setItem (.ref a) u r) Q E s:=by
 rcases g with ⟨kvs,k,e,ey,l,eH⟩ | ⟨kvs,k,b,e,ey,eb,l,eH⟩
 ·subst ey eH
  obtain ⟨z,hd,vs,rel,dd⟩:=dk_of I.hok e
  have hz:vs.length<=sizeLine:=by rw [<- rel.length];exact z
  have hl:(hV kvs k v).length<=sizeLine:=by have:=jO kvs k v;omega
  refine wpAny_setItem_pairs (hsz:=hz) (pK ry) dd fun h' dd' hs=>h _ ?_
  have he:∃ q,h'.get? a=some q:=let ⟨q,_,_,hq,_⟩:=dd';⟨q,hq⟩;exact sU I (by rw [e];exact True.intro) hs he (dk_new hl hd (rel.put k rv) dd')
 ·subst ey eH
  cases (show u=Value.ref b from ry);obtain ⟨z,hd,xs,rel,dd⟩:=dt_of I.hok e
  have hz:xs.length<=sizeLine:=by rw [<- Paired.length rel];exact z
  have hl:(hV kvs k v).length<=sizeLine:=by have:=jO kvs k v;omega
  refine wpAny_setItem_heap (hsz:=hz) (tupleKind_room_in1 hu) (k8 I.hok eb) dd fun h' dd' hs=>h _ ?_
  obtain ⟨q,es,ep,hq,h2,h3,h4,_,h5⟩:=dd';refine sU I (by rw [e];exact True.intro) hs ⟨q,hq⟩ ⟨hl,hd,_,(rel.put k eb rv).keeps fun c ys ec=> ?_,q,es,ep,hq,h2,h3,h4,h5⟩;rw [ag (ne_of ec e (fun z=>nomatch z))];exact ec
end
section
variable{X:Cx}{pins:List (Addr×Obj)}{σ:St}{H:Hp}{s:Shared}{a:Addr}{kvs:List (Key×V)}{k:Key}{u:Value}{A:Around}{E:Value->Shared->Prop}
theorem d_len{Q:Value->Shared->Prop}(I:Inv X pins σ H s)(e:Rd H a (.dK kvs))(h:∀ t s',Inv X pins σ H s'->Q (.int kvs.length t) s'):wpAny (model X.prog X.w) A (call (.builtin "len") [.ref a]) Q E s:=by
 obtain ⟨z,hd,vs,rel,dd⟩:=mL I.hok e;refine call_len_dict hd dd (by rw [<- rel.length];rw [sizeLine_eq] at z;omega) ?_;rw [<- rel.length];exact h _ _ (I.tok _)
end
def NoSl(i:Expr):Prop:=∀ ov iv,subscripted i false ov iv=operate [ov,iv] (getItem ov iv)
theorem yd{prog:Program}{w:World}{A:Around}{E:Value->Shared->Prop}{s:Shared}{env:Env}{value slice:Expr}{pos:Pos}{T id:String}{Q:Value->Shared->Prop}
 (hl:typeLookup (.type T) "__getitem__" = pure (some (.builtin id))) (hs:NoSl slice)
 (h:wpAny (model prog w) A (eval value env) (fun o s₁=>wpAny (model prog w) A (eval slice env) (fun i s₂=>s₂.TypeIs o T/\wpAny (model prog w) A (getItem o i) Q E s₂) E s₁) E s) :
 wpAny (model prog w) A (eval (.Subscript value slice pos) env) Q E s:=by
 refine Subscript_ (B9 h (fun o s₁ h₁=>B9 h₁ (fun i s₂ h₂=> ?_) fun _ _ x=>x) fun _ _ x=>x);obtain ⟨hT,h₂⟩:=h₂;unfold subscriptTail;refine AQ ?_;rw [getitemInPython_of_ne hT.not_modules];refine AQ (wpAny_specialOf hT hl ?_)
 have fin:wpAny (model prog w) A (subscripted slice false o i) (fun r s₃=>wpAny (model prog w) A (letTemporaryGo value o r >>= fun _=>pure r) Q E s₃) E s₂:=by
  rw [hs o i];exact wpAny_operating (B9 h₂ (fun r s₃ h₃=>AQ (wpAny_letTemporaryGo (AX h₃))) fun _ _ x=>x)
 first
  | exact AX (AQ fin)
  | exact AQ (AX (AQ fin))
  | exact AQ fin
theorem qb{X:Cx}{pins:List (Addr×Obj)}{σ:St}{H:Hp}{s:Shared}{a:Addr}{y:V}{o:Option V}(I:Inv X pins σ H s)(g:iw H a y o):s.TypeIs (.ref a) "dict" := by
 rcases g with ⟨kvs,k,e,_,_⟩ | ⟨kvs,k,b,e,_,_,_⟩
 ·obtain ⟨_,_,vs,_,dd⟩:=mL I.hok e
  exact dd.typeIs
 ·obtain ⟨_,_,xs,_,dd⟩:=p9 I.hok e
  exact dd.typeIs
def tDGet(td ty:TE):TE:=fun σ H Q=>td σ H fun x H1=>ty σ H1 fun y H2=>∃ a v,x = .ref a/\iw H2 a y (some v)/\Q v H2
def sDPut(td ty tv:TE):TS:=fun D σ H=>tv σ H fun v H1=>td σ H1 fun x H2=>ty σ H2 fun y H3=>∃ a H4,x = .ref a/\oB H3 a y v H4/\D.nx σ H4
section
variable{X:Cx}{o i e value:Expr}{pos pos' tpos:Pos}{td ty tv:TE}
theorem yQ(hu:X.A.units+1 < cLine)(ho:PE X o td)(hi:PE X i ty)(hs:NoSl i):PE X (.Subscript o i pos) (tDGet td ty):=by
 intro pins s σ H Q I h;refine yd PySem.F.slot_dict_getitem.lookup hs (thn (ho pins s σ H _ I h) fun u s1 ⟨x,H1,I1,rx,q1⟩=>thn (hi pins s1 σ H1 _ I1 q1) fun iv s2 ⟨y,H2,I2,ry,a,v,ex,g,q2⟩=> ?_);subst ex;obtain rfl:u=Value.ref a:=rx;exact ⟨qb I2 g,ul hu I2 g ry fun w' s3 I3 rw'=>⟨v,H2,I3,rw',q2⟩⟩
theorem yK(hu:X.A.units+1 < cLine)(ho:PE X o td)(hi:PE X i ty)(hv:PE X value tv)(hs:swapsWith value (some (.Subscript o i pos')) pos.line X.env=pure false) :
 PS X (.Assign [.Subscript o i pos'] value pos) (sDPut td ty tv):=by
 intro pins s σ H D I h;refine wpAny_Assign_Subscript (thn (hv pins s σ H _ I h) fun r s1 ⟨v,H1,I1,rv,q1⟩=>thn (ho pins s1 σ H1 _ I1 q1) fun u s2 ⟨x,H2,I2,rx,q2⟩=>thn (hi pins s2 σ H2 _ I2 q2) fun iv s3 ⟨y,H3,I3,ry,a,H4,ex,g,q3⟩=> ?_) hs;subst ex;obtain rfl:u=Value.ref a:=rx
 exact uk hu I3 g ry rv fun s4 I4=>⟨σ,H4,I4,q3⟩
end
theorem xx{P:Program}{w:World}{H:Hp}(h:Heap)(hb:sysModules < h.objs.size):bf P w H (h.push { cls:= .type "dict",data:= .dict #[] }) h.objs.size (.dT []) :=
 ⟨Cv _,CF.mpr (Ne.symm (Bi hb)),[],.nil,_,#[],0,AZ _ rfl,⟨rfl,rfl,rfl⟩,rfl,rfl,Cs⟩
def tDNewT:TE:=fun _ H Q=>∀ p,H p=none->Q (.ref p) (upd H p (.dT []))
section
variable{X:Cx}{pos:Pos}
theorem wc:PE X (.Dict [] [] pos) tDNewT:=fun pins s σ H Q I h =>
 wpAny_Dict_empty ⟨.ref s.heap.objs.size,_,I.laid (a:=s.heap.objs.size) (o:= .dT []) (t':=s.toks) (fun _ _ q=>AR _ q) (A8 _) (xx s.heap I.big),rfl,h _ (I.hok.fresh (A8 _))⟩
end
section
variable{X:Cx}{pins:List (Addr×Obj)}{σ:St}{H:Hp}{s:Shared}{a:Addr}{y d:V}{u r:Value}{o:Option V}{A:Around}{E:Value->Shared->Prop}
end
section
variable{X:Cx}{o e f:Expr}{apos cpos:Pos}{td ty tx:TE}
end
section
variable{X:Cx}{pins:List (Addr×Obj)}{σ:St}{H:Hp}{s:Shared}{a:Addr}{kvs:List (Key×V)}{A:Around}{E:Value->Shared->Prop}
end
section
variable{X:Cx}{pins:List (Addr×Obj)}{σ:St}{H:Hp}{s:Shared}{a:Addr}{y:V}{u:Value}{A:Around}{E:Value->Shared->Prop}
end
end L2
namespace HT
open PySem PyProof.Rows
theorem xt(A:Around)(s:Shared)(a:Int)(t:Tok)(c:Int)(u:Tok):∃ e,SeqAt.EqAt A s (.int a t) (.int c u) e/\(e=true↔a=c) :=
 ⟨(a == c),SeqAt.EqAt.int_int a t c u,by simp⟩
section
open PySem.SeqAt
open PySem.AutoSeq1 (wpAny_loadPart')
open PySem.MeetsSeq PySem.MeetsSeq2 PySem.MeetsSeq3
end
section
variable{prog:Program}{w:World}{A:Around}{E:Value->Shared->Prop}{s:Shared}
theorem zU{t b:Addr}{vs ws:List Value}{Q:Value->Shared->Prop}(ht:IsTup s.heap t vs.toArray)(hb:IsTup s.heap b ws.toArray)(hv:vs≠[])
 (h1:ws=[]->Q (.ref t) s) (h2:ws≠[]->Q (.ref s.heap.objs.size) { s with heap:=s.heap.push { cls:= .type "tuple",data:= .seq (vs++ws).toArray } })
 (hsz:vs.length+ws.length<=sizeLine):wpAny (model prog w) A (binaryOp .Add (.ref t) (.ref b)) Q E s:=by
 obtain ⟨⟨cls,dd,data,sl⟩,ho,hc,n,hd⟩:=id ht;obtain ⟨⟨cls2,dd2,data2,sl2⟩,ho2,hc2,n2,hd2⟩:=id hb;simp only at hc hd hc2 hd2;subst hc hd hc2 hd2
 have e:vs.toArray++ws.toArray=(vs++ws).toArray:=by simp
 by_cases hw:ws=[]
 ·exact concat_meets ⟨_,ho,rfl⟩ ⟨_,ho2,rfl⟩ noFill_tuple_add seq_tuple_add PySem.F.slot_tuple_add PySem.F.entry_tuple_add (PySem.F.args_tuple_add_2 _ _)
   (tuple_addW1 t b vs.toArray ws.toArray n n2 dd dd2 sl sl2 (by simpa using hv) (by simp [hw])) ⟨ho,ho2,h1 hw⟩
 ·refine concat_meets ⟨_,ho,rfl⟩ ⟨_,ho2,rfl⟩ noFill_tuple_add seq_tuple_add PySem.F.slot_tuple_add PySem.F.entry_tuple_add (PySem.F.args_tuple_add_2 _ _)
   (tuple_addW2 t b vs.toArray ws.toArray n n2 dd dd2 sl sl2 (by simpa using hv) (by simpa using hw) (by rw [AW,AW];exact hsz)) ⟨ho,ho2,?_⟩
  rw [e];exact h2 hw
def sIx(n d:Nat):Option Int->Nat
 | none=>d
 | some v=>if v < 0 then (v+(n:Int)).toNat else min v.toNat n
theorem qA(n d:Nat)(hd:d<=n)(o:Option Int):sIx n d o<=n:=by
 cases o with
 | none=>exact hd
 | some v =>
  show (if v < 0 then (v+(n:Int)).toNat else min v.toNat n)<=n
  by_cases hv:v < 0
  ·rw [if_pos hv];omega
  ·rw [if_neg hv];exact Nat.min_le_right _ _
theorem sW(v:Int)(n d:Nat):(if v < 0 then max (v+(n:Int)) 0 else min v (n:Int))=((sIx n d (some v):Nat):Int):=by
 show (if v < 0 then max (v+(n:Int)) 0 else min v (n:Int))=(((if v < 0 then (v+(n:Int)).toNat else min v.toNat n):Nat):Int)
 by_cases hv:v < 0
 ·simp only [if_pos hv];omega
 ·simp only [if_neg hv];omega
theorem rP(lo hi:Option Int)(n:Nat):Builtin.Slice.sliceAdjust lo hi 1 (n:Int)=(((sIx n 0 lo:Nat):Int),((sIx n n hi:Nat):Int)):=by
 have h1:¬ ((1:Int) < 0):=by omega
 unfold Builtin.Slice.sliceAdjust;simp only [h1,if_false];refine Prod.ext ?_ ?_
 ·cases lo with
  | none=>rfl
  | some v=>exact sW v n 0
 ·cases hi with
  | none=>rfl
  | some v=>exact sW v n n
theorem qK(i j:Nat):Builtin.Slice.slicePlaces (i:Int) (j:Int) 1=j - i:=by
 unfold Builtin.Slice.slicePlaces
 have h1:(1:Int) > 0:=by omega
 simp only [h1,if_true,Int.ediv_one]
 split<;>omega
theorem kn{v:Value}{o:Option Int}{Q:Option Int->Shared->Prop}(p:IsPart v o)(h:Q o s):wpAny (model prog w) A (Builtin.Slice.slicePartIndex v) Q E s:=by
 cases p with
 | none=>exact slicePart_none h
 | int i t=>exact slicePart_int h
theorem eE{sl:Addr}{vl vu:Value}{lo hi:Option Int}{n:Nat}{Q:Int×Int×Nat->Shared->Prop}(hs:s.heap.IsSliceOf sl vl vu .none)(pl:IsPart vl lo)(pu:IsPart vu hi)
 (h:Q (((sIx n 0 lo:Nat):Int),1,sIx n n hi - sIx n 0 lo) s):wpAny (model prog w) A (Builtin.Slice.sliceApplied (.ref sl) (pure (n:Int))) Q E s:=by
 obtain ⟨os,hos,hcs,hds⟩:=id hs;unfold Builtin.Slice.sliceApplied Builtin.Slice.sliceFields;refine AQ (AQ (BU hos hds (x:=vl) rfl (AQ (BU hos hds (x:=vu) rfl (AQ (BU hos hds (x:= .none) rfl (AX ?_)))))));refine AQ (slicePart_none ?_)
 show wpAny _ _ (if ((1:Int) == 0)=true then _ else _) _ _ s
 rw [if_neg (by decide)];refine AQ (kn pl (AQ (kn pu (AQ (AX ?_)))))
 show wpAny _ _ (match Builtin.Slice.sliceAdjust lo hi 1 (n:Int) with | (lo,hi)=>pure (lo,(1:Int),Builtin.Slice.slicePlaces lo hi 1)) _ _ s
 rw [rP lo hi n]
 show wpAny _ _ (pure (((sIx n 0 lo:Nat):Int),(1:Int),Builtin.Slice.slicePlaces ((sIx n 0 lo:Nat):Int) ((sIx n n hi:Nat):Int) 1)) _ _ s
 rw [qK];exact AX h
theorem v6(xs:Array Value)(i k:Nat):((List.range k).filterMap fun (m:Nat)=>xs[((i:Int)+(m:Int) * 1).toNat]?).toArray=((xs.toList.drop i).take k).toArray:=by
 have e:(fun (m:Nat)=>xs[((i:Int)+(m:Int) * 1).toNat]?)=fun m=>xs[i+m]?:=by
  funext m
  have:((i:Int)+(m:Int) * 1).toNat=i+m:=by omega
  rw [this]
 rw [e];have:=pick_run xs i k;rw [List.filterMap_map] at this
 have e2:((fun x=>xs[x]?) ∘ fun x=>i+x)=fun m=>xs[i+m]?:=rfl
 rw [e2] at this;rw [this]
theorem i5{t sl:Addr}{items:Array Value}{vl vu:Value}{lo hi:Option Int}{Q:Value->Shared->Prop}(ht:IsTup s.heap t items)(hs:s.heap.IsSliceOf sl vl vu .none)(pl:IsPart vl lo)(pu:IsPart vu hi)
 (hw:¬ (sIx items.size 0 lo=0/\sIx items.size items.size hi=items.size))
 (h:Q (.ref s.heap.objs.size) { s with heap:=s.heap.push { cls:= .type "tuple",data:= .seq ((items.toList.drop (sIx items.size 0 lo)).take (sIx items.size items.size hi - sIx items.size 0 lo)).toArray } })
 (hsz:items.size<=sizeLine):wpAny (model prog w) A (getItem (.ref t) (.ref sl)) Q E s:=by
 have htake:sizeOk (.seq ((items.toList.drop (sIx items.size 0 lo)).take (sIx items.size items.size hi - sIx items.size 0 lo)).toArray):=by
  show ((items.toList.drop (sIx items.size 0 lo)).take (sIx items.size items.size hi - sIx items.size 0 lo)).toArray.size<=sizeLine
  rw [AW,BY,List.length_drop,BL];omega
 have hj:sIx items.size items.size hi<=items.size:=qA _ _ (A8 _) hi;obtain ⟨os,hos,hcs,hds⟩:=id hs;have hTs:s.TypeIs (.ref sl) "slice" := ⟨os,hos,hcs⟩;unfold getItem
 try with_reducible refine Ca ?_
 first | refine AQ (AX ?_) | skip
 refine AQ (wpAny_sequenceKey ht.typeIs (by decide) ?_)
 refine AQ (By (name:=Str.ofString "__getitem__") ht.typeIs PyProof.Rows.slot_tuple_getitem
  (BF PyProof.Rows.slot_tuple_getitem ht.typeIs entry_tuple_getitem ?_ (args_tuple_getitem _ _)))
 show wpAny _ _ (Builtin.Tuple.tupleItemsOf (.ref t) >>= _) _ _ s
 refine AQ (tupleItemsOf_ ht ?_);refine AQ (wpAny_typeOf hTs ?_);rw [if_pos (by decide)];refine AQ (eE hs pl pu ?_)
 have hno:¬ ((((sIx items.size 0 lo:Nat):Int) == 0&&(1:Int) == 1&&(sIx items.size items.size hi - sIx items.size 0 lo) == items.size)=true):=by
  intro q;rw [Bh,Bh] at q;have q1:((sIx items.size 0 lo:Nat):Int)=0:=eq_of_beq q.1.1;have q2:sIx items.size items.size hi - sIx items.size 0 lo=items.size:=eq_of_beq q.2;exact hw ⟨by omega,by omega⟩
 show wpAny _ _ (if (((sIx items.size 0 lo:Nat):Int) == 0&&(1:Int) == 1&&(sIx items.size items.size hi - sIx items.size 0 lo) == items.size)=true then _ else _) _ _ s
 rw [if_neg hno,v6]
 first
  | exact AQ (m:=Builtin.Tuple.tupleExact _) (BC (AX ⟨_,rfl,AX h⟩) htake)
  | exact AQ (m:=Builtin.Tuple.tupleExact _) (BC (AQ (AX (AX ⟨_,rfl,AX h⟩))) htake)
  | exact AQ (AQ (m:=Builtin.Tuple.tupleExact _) (BC (AX (AX ⟨_,rfl,AX h⟩)) htake))
  | exact AQ (AQ (m:=Builtin.Tuple.tupleExact _) (BC (AX ⟨_,rfl,AX h⟩) htake))
end
end HT
namespace L2
open PySem PySem.Spec PyProof.Rows
abbrev TO:=St->Hp->(Option Int->Hp->Prop)->Prop
def PO(X:Cx)(e:Option Expr)(t:TO):Prop :=
 ∀ (pins:List (Addr×Obj)) (s:Shared) (σ:St) (H:Hp) (Q:Option Int->Hp->Prop),Inv X pins σ H s->t σ H Q ->
  wpAny (model X.prog X.w) X.A (evalPart e X.env) (fun u s'=>∃ o H',Inv X pins σ H' s'/\IsPart u o/\Q o H') X.xe s
def ya:TO:=fun _ H Q=>Q none H
def tPart(t:TE):TO:=fun σ H Q=>t σ H fun x H1=>∃ i,x = .int i/\Q (some i) H1
theorem cf{ns:List Int}:∀ {us:List Value},ar (ns.map V.int) us->IntsAre us ns:=by
 induction ns with
 | nil=>intro us r;rw [Cy] at r;cases r;exact .nil
 | cons n ns ih =>
  intro us r;rw [A4] at r
  cases r with
  | cons r1 r2 =>
   obtain ⟨t,e⟩:=r1;subst e;exact .cons n t (ih r2)
section
variable{X:Cx}{e:Expr}{te:TE}{lo hi:Option Expr}{tl th:TO}{pos p2:Pos}
theorem yL:PO X none ya:=by
 intro pins s σ H Q I h;rw [evalPart_none];exact AX ⟨none,H,I,.none,h⟩
theorem nB(h:PE X e te):PO X (some e) (tPart te):=by
 intro pins s σ H Q I hw;rw [evalPart_some]
 refine thn (h pins s σ H _ I hw) fun u s1 ⟨x,H1,I1,r1,q1⟩=> ?_
 obtain ⟨i,rfl,q⟩:=q1;obtain ⟨t,rfl⟩:=r1;exact ⟨some i,H1,I1,.int i t,q⟩
def SlR(X:Cx)(r:V->Option Int->Option Int->Hp->VK->Prop):Prop :=
 ∀ (pins:List (Addr×Obj)) (s:Shared) (σ:St) (H:Hp) (x:V) (v vl vu:Value) (lo hi:Option Int) (sl:Addr) (Q:VK),Inv X pins σ H s->aB x v->s.heap.IsSliceOf sl vl vu .none->IsPart vl lo->IsPart vu hi->r x lo hi H Q ->
  ∃ T id,typeLookup (.type T) "__getitem__" = pure (some (.builtin id))/\s.TypeIs v T/\wpAny (model X.prog X.w) X.A (getItem v (.ref sl)) (EP X pins σ Q) X.xe s
theorem SlR.or{r r':V->Option Int->Option Int->Hp->VK->Prop}(h:SlR X r)(h':SlR X r'):SlR X (fun x lo hi H Q=>r x lo hi H Q\/r' x lo hi H Q):=by
 intro pins s σ H x v vl vu lo hi sl Q I rx hs pl pu q
 rcases q with q | q
 ·exact h pins s σ H x v vl vu lo hi sl Q I rx hs pl pu q
 ·exact h' pins s σ H x v vl vu lo hi sl Q I rx hs pl pu q
def tSl(r:V->Option Int->Option Int->Hp->VK->Prop)(te:TE)(tl th:TO):TE:=fun σ H Q=>te σ H fun x H1=>tl σ H1 fun l H2=>th σ H2 fun u H3=>r x l u H3 Q
theorem pc{r:V->Option Int->Option Int->Hp->VK->Prop}(hr:SlR X r)(he:PE X e te)(hl:PO X lo tl)(hu:PO X hi th):PE X (.Subscript e (.Slice lo hi none p2) pos) (tSl r te tl th):=by
 intro pins s σ H Q I h;refine Subscript_ (thn (he pins s σ H _ I h) fun v s1 ⟨x,H1,I1,r1,q1⟩=> ?_);refine wpAny_Slice (thn (hl pins s1 σ H1 _ I1 q1) fun vl s2 ⟨l,H2,I2,pl,q2⟩=>thn (hu pins s2 σ H2 _ I2 q2) fun vu s3 ⟨u,H3,I3,pu,q3⟩=> ?_);rw [evalPart_none];refine AX ?_
 have I4:Inv X pins σ H3 { s3 with heap:=s3.heap.push { cls:= .type "slice",data:= .fields #[vl,vu,.none] } }:=I3.kept (t':=s3.toks) fun b ob q=>AR _ q
 obtain ⟨T,id,hT,ht,hg⟩:=hr pins { s3 with heap:=s3.heap.push { cls:= .type "slice",data:= .fields #[vl,vu,.none] } } σ H3 x v vl vu l u s3.heap.objs.size Q I4 r1 (Heap.IsSliceOf.new ..) pl pu q3
 show wpAny (model X.prog X.w) X.A (subscriptTail e (.Slice lo hi none p2) v (.ref s3.heap.objs.size)) (EP X pins σ Q) X.xe { s3 with heap:=s3.heap.push { cls:= .type "slice",data:= .fields #[vl,vu,.none] } }
 exact tail_any (ops:=[.ref s3.heap.objs.size,v]) ht hT hg (by with_unfolding_all rfl)
def lx(xs:List V)(lo hi:Option Int):List V:=(xs.drop (HT.sIx xs.length 0 lo)).take (HT.sIx xs.length xs.length hi - HT.sIx xs.length 0 lo)
theorem jT(xs:List V)(lo hi:Option Int):(lx xs lo hi).length<=xs.length:=by
 unfold lx;rw [BY,List.length_drop];omega
def rSlT(K:Df):V->Option Int->Option Int->Hp->VK->Prop:=fun x lo hi H Q=>∃ a xs,x = .ref a/\SqT K H a xs /\
 ¬ (HT.sIx xs.length 0 lo=0/\HT.sIx xs.length xs.length hi=xs.length)/\∀ p,H p=none->Q (.ref p) (upd H p (.tup (lx xs lo hi)))
theorem sl_tup:SlR X (rSlT X.K):=by
 intro pins s σ H x v vl vu lo hi sl Q I rx hs pl pu h;obtain ⟨a,xs,rfl,hx,hw,q⟩:=h;cases rx;obtain ⟨its,r,ht,hz⟩:=I.tuple hx
 have hlen:its.toArray.size=xs.length:=by rw [AW];exact r.length.symm
 refine ⟨"tuple",_,PyProof.Rows.slot_tuple_getitem.lookup,ht.typeIs,?_⟩;refine HT.i5 ht hs pl pu (by rw [hlen];exact hw) ?_ (by rw [hlen];exact hz);rw [hlen];refine ⟨.ref s.heap.objs.size,_,I.laid (t':=s.toks) (o:= .tup (lx xs lo hi)) (fun b ob q=>AR _ q) (A8 _) ?_,rfl,q _ (I.hok.fresh (A8 _))⟩;exact ⟨B5 (jT xs lo hi) hz,_,(r.drop (HT.sIx xs.length 0 lo)).take (HT.sIx xs.length xs.length hi - HT.sIx xs.length 0 lo),IsTup.new _ _⟩
def rCatT(K:Df):R2:=fun x y H Q=>∃ a b xs ys,x = .ref a/\y = .ref b/\SqT K H a xs/\SqT K H b ys/\xs≠[]/\xs.length+ys.length<=sizeLine /\
 (ys=[]->Q (.ref a) H)/\(ys≠[]->∀ p,H p=none->Q (.ref p) (upd H p (.tup (xs++ys))))
theorem ar.nil_iff{xs:List V}{us:List Value}(r:ar xs us):us=[]↔xs=[]:=by
 cases r with
 | nil=>simp
 | cons _ _=>simp
theorem zc:OpR X (binaryOp .Add) (rCatT X.K):=by
 intro pins s σ H x y v u Q I rx ry h;obtain ⟨a,b,xs,ys,rfl,rfl,ha,hb,hx,hz,q1,q2⟩:=h;cases rx;cases ry;obtain ⟨its,r1,p1,_⟩:=I.tuple ha;obtain ⟨its2,r2,p2,_⟩:=I.tuple hb;refine HT.zU p1 p2 (fun z=>hx (r1.nil_iff.mp z)) (fun z=>⟨.ref a,H,I,rfl,q1 (r2.nil_iff.mp z)⟩) (fun z=> ?_) (by rw [<- r1.length,<- r2.length];exact hz);refine ⟨.ref s.heap.objs.size,_,I.laid (t':=s.toks) (o:= .tup (xs++ys)) (fun b ob q=>AR _ q) (A8 _) ?_,rfl,q2 (fun w=>z (r2.nil_iff.mpr w)) _ (I.hok.fresh (A8 _))⟩;exact ⟨by rw [A7];exact hz,_,r1.append r2,IsTup.new _ _⟩
end
def ixN(n:Nat)(i:Int):Option Nat:=if 0<=i then (if i < n then some i.toNat else none) else if -(n:Int)<=i then some (i+n).toNat else none
def atI{α:Type}(xs:List α)(i:Int):Option α:=(ixN xs.length i).bind fun j=>xs[j]?
theorem sK{n:Nat}{i:Int}{j:Nat}(h:ixN n i=some j):seqIndex? i n=some j/\j < n /\ -(n:Int)<=i/\i < n:=by
 unfold ixN at h
 by_cases h0:0<=i
 ·rw [if_pos h0] at h
  by_cases h1:i < n
  ·rw [if_pos h1] at h
   have e:i.toNat=j:=Option.some.inj h;exact ⟨by rw [seqIndex_of h0 h1,e],by omega,by omega,h1⟩
  ·rw [if_neg h1] at h;cases h
 ·rw [if_neg h0] at h
  by_cases h1 : -(n:Int)<=i
  ·rw [if_pos h1] at h
   have e:(i+n).toNat=j:=Option.some.inj h;exact ⟨by rw [seqIndex_neg (by omega) h1,e],by omega,h1,by omega⟩
  ·rw [if_neg h1] at h;cases h
theorem ot{α:Type}{xs:List α}{i:Int}{v:α}(h:atI xs i=some v):∃ j,seqIndex? i xs.length=some j/\xs[j]?=some v/\j < xs.length /\ -(xs.length:Int)<=i/\i < xs.length:=by
 unfold atI at h
 cases e:ixN xs.length i with
 | none=>rw [e] at h;cases h
 | some j =>
  rw [e] at h;obtain ⟨h1,h2,h3,h4⟩:=sK e;exact ⟨j,h1,h,h2,h3,h4⟩
theorem sX{α:Type}{xs:List α}{j:Nat}{v:α}(h:xs[j]?=some v):atI xs (j:Int)=some v:=by
 have hj:j < xs.length:=(Be.mp h).1
 have e:ixN xs.length (j:Int)=some j:=by
  unfold ixN;rw [if_pos (by omega),if_pos (by omega)];simp
 unfold atI;rw [e];exact h
def oA(b:Expr):Prop:=∀ o i,subscripted b false o i=operate [o,i] (getItem o i)
def IxR(X:Cx)(r:R2):Prop :=
 ∀ (value slice:Expr) (pins:List (Addr×Obj)) (s:Shared) (σ:St) (H:Hp) (x y:V) (v u:Value) (Q:VK),Inv X pins σ H s->aB x v->aB y u->r x y H Q ->
  subscripted slice false v u=operate [v,u] (getItem v u)->wpAny (model X.prog X.w) X.A (subscriptTail value slice v u) (EP X pins σ Q) X.xe s
def MtR(X:Cx)(id:String)(r:V->List V->Hp->VK->Prop):Prop :=
 ∀ (pins:List (Addr×Obj)) (s:Shared) (σ:St) (H:Hp) (x:V) (xs:List V) (v:Value) (us:List Value) (Q:VK),Inv X pins σ H s->aB x v->ar xs us->r x xs H Q ->
  wpAny (model X.prog X.w) X.A (call (.builtin id) (v::us)) (EP X pins σ Q) X.xe s
section
variable{X:Cx}{a b:Expr}{ta tb:TE}{pos:Pos}
theorem IxR.or{r r':R2}(h:IxR X r)(h':IxR X r'):IxR X (fun x y H Q=>r x y H Q\/r' x y H Q):=by
 intro value slice pins s σ H x y v u Q I rx ry q hs
 rcases q with q | q
 ·exact h value slice pins s σ H x y v u Q I rx ry q hs
 ·exact h' value slice pins s σ H x y v u Q I rx ry q hs
theorem pd{r:R2}(hr:IxR X r)(ha:PE X a ta)(hb:PE X b tb)(hs:oA b):PE X (.Subscript a b pos) (tOp r ta tb):=by
 intro pins s σ H Q I h;exact Subscript_ (binT ha hb I h fun v u s2 x y H2 I2 rx ry q=>hr a b pins s2 σ H2 x y v u Q I2 rx ry q (hs _ _))
def rIxL(K:Df):R2:=fun x y H Q=>∃ p xs i v,x = .ref p/\y = .int i/\SqL K H p xs/\atI xs i=some v/\Q v H
def rIxT(K:Df):R2:=fun x y H Q=>∃ p xs i v,x = .ref p/\y = .int i/\SqT K H p xs/\atI xs i=some v/\Q v H
def rIxS:R2:=fun x y H Q=>∃ z i c,x = .str z/\y = .int i/\z.length<=sizeLine/\atI z.cps.toList i=some c/\Q (.str ⟨#[c]⟩) H
theorem nO:IxR X (rIxL X.K):=by
 intro value slice pins s σ H x y v u Q I rx ry h hs;obtain ⟨p,xs,i,z,rfl,rfl,hq,he,q⟩:=h;cases rx;obtain ⟨t,rfl⟩:=ry;obtain ⟨its,r,pl,hz⟩:=I.list hq;obtain ⟨j,h1,h2,h3,h4,h5⟩:=ot he;obtain ⟨w,ew,rw'⟩:=r.get h2;have hl:=r.length;have hn:=jy;have fin:EP X pins σ Q w s:=⟨z,H,I,rw',q⟩
 by_cases h0:0<=i
 ·have hj:i.toNat=j:=by
   rw [seqIndex_of h0 h5] at h1;exact Option.some.inj h1
  exact item_listR pl.isList h0 (by omega) (by rw [hj];simpa using ew) fin hs
 ·have hj:(i+(its.toArray.size:Int)).toNat=j:=by
   rw [seqIndex_neg (by omega) h4] at h1;rw [AW,<- hl];exact Option.some.inj h1
  exact subscriptTail_builtinR (x:=w) pl.isList.typeIs slot_list_getitem.lookup
   (wpAny_getItem_list_neg (Q:=fun r s'=>r=w/\EP X pins σ Q r s') pl.isList (by omega) (by rw [AW]<;>omega) (by omega) (by rw [hj];simpa using ew) ⟨rfl,fin⟩) hs
theorem qT:IxR X (rIxT X.K):=by
 intro value slice pins s σ H x y v u Q I rx ry h hs;obtain ⟨p,xs,i,z,rfl,rfl,hq,he,q⟩:=h;cases rx;obtain ⟨t,rfl⟩:=ry;obtain ⟨its,r,pl,hz⟩:=I.tuple hq;obtain ⟨j,h1,h2,h3,h4,h5⟩:=ot he;obtain ⟨w,ew,rw'⟩:=r.get h2;have hl:=r.length;have hn:=jy;have fin:EP X pins σ Q w s:=⟨z,H,I,rw',q⟩
 exact subscriptTail_builtinR (x:=w) pl.typeIs slot_tuple_getitem.lookup
  (getItem_tuple (j:=j) (Q:=fun r s'=>r=w/\EP X pins σ Q r s') pl (by omega) (by omega) (by rw [AW,<- hl];exact h1) (by simpa using ew) ⟨rfl,fin⟩) hs
theorem ix_str:IxR X rIxS:=by
 intro value slice pins s σ H x y v u Q I rx ry h hs;obtain ⟨z,i,c,rfl,rfl,hz,he,q⟩:=h;obtain ⟨t,rfl⟩:=rx;obtain ⟨t',rfl⟩:=ry;obtain ⟨j,h1,h2,h3,h4,h5⟩:=ot he
 have hl:z.cps.toList.length=z.length:=by simp [Str.length]
 rw [hl] at h1 h4 h5;have hn:=jy
 exact tail_any (typeIs_str s z t) slot_str_getitem.lookup (getItem_str (c:=c) (by
  have e1:decide (i < -(2 ^ 63:Int))=false:=Bk (by omega);have e2:decide (i>=2 ^ 63)=false:=Bk (by omega)
  rw [e1,e2,CS]) (by rw [h1];simpa using h2) ⟨.str ⟨#[c]⟩,H,I.tok _,⟨_,rfl⟩,q⟩) hs
def rIx(K:Df):R2:=fun x y H Q=>rIxL K x y H Q\/rIxT K x y H Q\/rIxS x y H Q
theorem ix_seq:IxR X (rIx X.K):=nO.or (qT.or ix_str)
theorem qR(its:List Value)(n j:Nat)(u:Value):Obj.mapSeq (·.setIfInBounds j u) { cls:= .type "list",data:= .seq its.toArray n }={ cls:= .type "list",data:= .seq (its.set j u).toArray n }:=by
 simp [Obj.mapSeq]
theorem Inv.lst{pins:List (Addr×Obj)}{σ:St}{H:Hp}{s:Shared}{p:Addr}{xs:List V}(I:Inv X pins σ H s)(h:H p=some (.lst xs)) :
 ∃ (its:List Value) (n:Nat),ar xs its/\s.heap.get? p=some { cls:= .type "list",data:= .seq its.toArray n }/\xs.length<=sizeLine:=by
 obtain ⟨z,its,n,r,e⟩:=I.hok p _ h;exact ⟨its,n,r,e,z⟩
theorem Inv.lstUpd{pins:List (Addr×Obj)}{σ:St}{H:Hp}{s:Shared}{p:Addr}{xs ys:List V}{its its':List Value}{n n':Nat}{f:Obj->Obj}(I:Inv X pins σ H s)(h:H p=some (.lst xs))
 (ho:s.heap.get? p=some { cls:= .type "list",data:= .seq its.toArray n }) (hf:f { cls:= .type "list",data:= .seq its.toArray n }={ cls:= .type "list",data:= .seq its'.toArray n' }) (r:ar ys its') (hz:ys.length<=sizeLine) (t:Nat) :
 Inv X pins σ (upd H p (.lst ys)) { s with heap:=s.heap.update p f,toks:=t }:=by
 have e:(s.heap.update p f).get? p=some { cls:= .type "list",data:= .seq its'.toArray n' }:=by
  rw [BS f ho (by rw [hf]<;>rfl),hf]
 refine I.write (x:=p) (e:=p) (by rw [h];trivial) (.inl rfl) (fun b u hb q=>(Ct _ _ (Ne.symm hb)).trans q) ⟨_,e⟩ ?_;exact ⟨hz,its',n',r,e⟩
def Av:V->V->V->Hp->(Hp->Prop)->Prop:=fun o i v H Q=>∃ p xs k j,o = .ref p/\i = .int k/\H p=some (.lst xs)/\ixN xs.length k=some j/\Q (upd H p (.lst (xs.set j v)))
theorem ko:PSet X Av:=by
 intro pins s σ H o i v ov iv u Q I ro ri rv h;obtain ⟨p,xs,k,j,rfl,rfl,hp,hj,q⟩:=h;cases ro;obtain ⟨t,rfl⟩:=ri;obtain ⟨its,n,r,ho,hz⟩:=I.lst hp;obtain ⟨h1,h2,h3,h4⟩:=sK hj;have hl:=r.length;have hn:=jy
 have I':Inv X pins σ (upd H p (.lst (xs.set j v))) { s with heap:=s.heap.update p (Obj.mapSeq (·.setIfInBounds j u)) } :=
  I.lstUpd hp ho (qR its n j u) (r.set rv j) (by rw [BX];exact hz) s.toks
 by_cases h0:0<=k
 ·have hk:k.toNat=j:=by
   rw [seqIndex_of h0 h4] at h1;exact Option.some.inj h1
  exact PySem.W.ki_setAt ho h0 (by omega) (by rw [AW,<- hl];exact h4) (by rw [hk];exact ⟨_,I',q⟩)
 ·have hk:(k+(its.toArray.size:Int)).toNat=j:=by
   rw [seqIndex_neg (by omega) h3] at h1;rw [AW,<- hl];exact Option.some.inj h1
  exact PySem.W.ki_setBack ho (by omega) (by rw [AW,<- hl];exact h3) (by omega) (by rw [hk];exact ⟨_,I',q⟩)
theorem ng(lo hi:Option Int)(n:Nat):(sliceBounds lo hi none n).1=((HT.sIx n 0 lo:Nat):Int)/\(sliceBounds lo hi none n).2.1=((HT.sIx n n hi:Nat):Int)/\(sliceBounds lo hi none n).2.2=1:=by
 refine ⟨?_,?_,rfl⟩
 ·cases lo with
  | none=>simp [sliceBounds,HT.sIx]
  | some i =>
   simp only [sliceBounds,HT.sIx,Option.getD_none,show (1:Int) > 0 by decide,if_true]
   by_cases h:i < 0
   ·simp only [h,if_true]<;>omega
   ·simp only [h,if_false]<;>omega
 ·cases hi with
  | none=>simp [sliceBounds,HT.sIx]
  | some i =>
   simp only [sliceBounds,HT.sIx,Option.getD_none,show (1:Int) > 0 by decide,if_true]
   by_cases h:i < 0
   ·simp only [h,if_true]<;>omega
   ·simp only [h,if_false]<;>omega
theorem lK(its:List Value)(lo hi:Option Int):slicePick its.toArray lo hi none=((its.drop (HT.sIx its.length 0 lo)).take (HT.sIx its.length its.length hi - HT.sIx its.length 0 lo)).toArray:=by
 obtain ⟨h1,h2,h3⟩:=ng lo hi its.toArray.size;unfold slicePick;rw [h1,h2,h3]
 simp only [sliceRange_one,pick_run,AW]<;>rfl
def rSlL(K:Df):V->Option Int->Option Int->Hp->VK->Prop:=fun x lo hi H Q=>∃ a xs,x = .ref a/\SqL K H a xs/\∀ p,H p=none->Q (.ref p) (upd H p (.lst (lx xs lo hi)))
theorem yj:SlR X (rSlL X.K):=by
 intro pins s σ H x v vl vu lo hi sl Q I rx hs pl pu h;obtain ⟨a,xs,rfl,hx,q⟩:=h;cases rx;obtain ⟨its,r,ht,hz⟩:=I.list hx;have hlen:=r.length;refine ⟨"list",_,slot_list_getitem.lookup,ht.isList.typeIs,?_⟩;refine wpAny_getItem_list_slice ht.isList hs pl pu .none (by simp) ?_ (by rw [AW]<;>omega);rw [lK,<- hlen];refine ⟨.ref s.heap.objs.size,_,I.laid (t':=s.toks) (o:= .lst (lx xs lo hi)) (fun b ob q=>AR _ q) (A8 _) ?_,rfl,q _ (I.hok.fresh (A8 _))⟩;exact ⟨B5 (jT xs lo hi) hz,_,0,(r.drop (HT.sIx xs.length 0 lo)).take (HT.sIx xs.length xs.length hi - HT.sIx xs.length 0 lo),AZ _ rfl⟩
theorem oj:aw X (.builtin "len") (fun xs H Q=>∃ p ys,xs=[.ref p]/\(SqL X.K H p ys\/SqT X.K H p ys)/\Q (.int ys.length) H):=by
 intro pins s σ H xs us Q I r h;obtain ⟨p,ys,rfl,hq,q⟩:=h;obtain ⟨u,rfl,rx⟩:=bn r;cases rx;have hn:=jy
 rcases hq with hq | hq
 ·obtain ⟨its,r',pl,hz⟩:=I.list hq
  have hlen:=r'.length;exact Calls.call_len_list pl.isList (by simp only [AW]<;>omega) ⟨.int ys.length,H,I.tok _,⟨s.toks+1,by rw [AW,hlen]⟩,q⟩
 ·obtain ⟨its,r',pl,hz⟩:=I.tuple hq
  have hlen:=r'.length;exact len_tuple pl (by simp only [AW]<;>omega) ⟨.int ys.length,H,I.tok _,⟨s.toks+1,by rw [AW,hlen]⟩,q⟩
theorem aw.or{f:Value}{r r':List V->Hp->VK->Prop}(h:aw X f r)(h':aw X f r'):aw X f (fun xs H Q=>r xs H Q\/r' xs H Q):=by
 intro pins s σ H xs us Q I rs q
 rcases q with q | q
 ·exact h pins s σ H xs us Q I rs q
 ·exact h' pins s σ H xs us Q I rs q
theorem oh:aw X (.type "list") (fun xs H Q=>∃ p ys,xs=[.ref p]/\(SqL X.K H p ys\/SqT X.K H p ys)/\∀ l,H l=none->Q (.ref l) (upd H l (.lst ys))):=by
 intro pins s σ H xs us Q I r h;obtain ⟨p,ys,rfl,hq,q⟩:=h;obtain ⟨u,rfl,rx⟩:=bn r;cases rx
 have fin:∀ (its:List Value),ar ys its->ys.length<=sizeLine->∀ (h':Heap) (c':Nat),(∀ b o',s.heap.get? b=some o'->h'.get? b=some o') ->
  h'.get? s.heap.objs.size=some { cls:= .type "list",dict:=none,data:= .seq its.toArray c',slots := #[] }->EP X pins σ Q (.ref s.heap.objs.size) { s with heap:=h' }:=fun its r' hz h' c' kp e =>
  ⟨.ref s.heap.objs.size,_,I.laid (t':=s.toks) kp (A8 _) (show bf X.prog X.w _ h' _ (.lst ys) from ⟨hz,its,c',r',e⟩),rfl,q _ (I.hok.fresh (A8 _))⟩
 rcases hq with hq | hq
 ·obtain ⟨its,r',pl,hz⟩:=I.list hq
  have hlen:=r'.length;obtain ⟨o,ho,hc,n,hd⟩:=pl.isList;exact call_list_seq p (.inl rfl) ho hc hd (fun h' c' kp e=>fin its r' hz h' c' kp e) (by simp only [AW]<;>omega)
 ·obtain ⟨its,r',pl,hz⟩:=I.tuple hq
  have hlen:=r'.length;obtain ⟨o,ho,hc,n,hd⟩:=pl;exact call_list_seq p (.inr rfl) ho hc hd (fun h' c' kp e=>fin its r' hz h' c' kp e) (by simp only [AW]<;>omega)
theorem l0:aw X (.type "tuple") (fun xs H Q=>∃ p ys,xs=[.ref p]/\((SqL X.K H p ys/\∀ l,H l=none->Q (.ref l) (upd H l (.tup ys)))\/(SqT X.K H p ys/\Q (.ref p) H))):=by
 intro pins s σ H xs us Q I r h;obtain ⟨p,ys,rfl,h⟩:=h;obtain ⟨u,rfl,rx⟩:=bn r;cases rx
 rcases h with ⟨hq,q⟩ | ⟨hq,q⟩
 ·obtain ⟨its,r',pl,hz⟩:=I.list hq
  have hlen:=r'.length;refine call_tuple_list pl.isList (fun h' kp=> ?_) (by simp only [AW]<;>omega);have I1:Inv X pins σ H { s with heap:=h' }:=I.kept (t':=s.toks) kp
  have I2:Inv X pins σ (upd H h'.objs.size (.tup ys)) { s with heap:=h'.push { cls:= .type "tuple",data:= .seq its.toArray } } :=
   I1.laid (t':=s.toks) (fun b o e=>AR _ e) (A8 _) (show bf X.prog X.w _ _ _ (.tup ys) from ⟨hz,its,r',IsTup.new _ _⟩)
  exact ⟨.ref h'.objs.size,_,I2,rfl,q _ (I1.hok.fresh (A8 _))⟩
 ·obtain ⟨its,r',pl,hz⟩:=I.tuple hq
  exact call_tuple_same pl ⟨.ref p,H,I,rfl,q⟩
def tyV(K:Df)(T:String)(x:V)(H:Hp):Prop:=match x with
 | .str _=>T = "str"
 | .int _=>T = "int"
 | .ref p=>(T = "list" /\ ∃ xs,SqL K H p xs)\/(T = "tuple" /\ ∃ o,K.lookup p=some o/\o.cls = .type "tuple" /\ o.dict=none) \/
  (T = "dict" /\ ((∃ kvs,H p=some (.dK kvs))\/∃ kvs,H p=some (.dT kvs)))\/(T = "set" /\ ∃ S n,H p=some (.set S n))
 | _=>False
theorem tyV_is{pins:List (Addr×Obj)}{σ:St}{H:Hp}{s:Shared}{T:String}{x:V}{v:Value}(I:Inv X pins σ H s)(r:aB x v)(ty:tyV X.K T x H) :
 s.TypeIs v T/\∀ a,v = .ref a->∃ ob,s.heap.get? a=some ob/\ob.dict=none:=by
 cases x with
 | str z =>
  obtain ⟨t,rfl⟩:=r;cases (show T = "str" from ty);exact ⟨typeIs_str s z t,fun _ e=>nomatch e⟩
 | int i =>
  obtain ⟨t,rfl⟩:=r;cases (show T = "int" from ty);exact ⟨typeIs_int s i t,fun _ e=>nomatch e⟩
 | ref p =>
  cases r
  rcases ty with ⟨rfl,xs,hq⟩ | ⟨rfl,o,hk,hc,hd⟩ | ⟨rfl,hk⟩ | ⟨rfl,S,n,hk⟩
  ·obtain ⟨its,_,pl,_⟩:=I.list hq
   refine ⟨pl.isList.typeIs,fun a e=> ?_⟩;cases e;obtain ⟨o,n,e,c,hd,_⟩:=pl;exact ⟨o,e,hd⟩
  ·refine ⟨⟨o,I.kIn p o hk,hc⟩,fun a e=> ?_⟩
   cases e;exact ⟨o,I.kIn _ o hk,hd⟩
  ·have z:∃ o,s.heap.get? p=some o/\o.ExactDict:=by
    rcases hk with ⟨kvs,hk⟩ | ⟨kvs,hk⟩
    ·obtain ⟨_,_,_,_,o,_,_,e,ex,_⟩:=I.hok p _ hk
     exact ⟨o,e,ex⟩
    ·obtain ⟨_,_,_,_,o,_,_,e,ex,_⟩:=I.hok p _ hk
     exact ⟨o,e,ex⟩
   obtain ⟨o,e,ex⟩:=z;refine ⟨⟨o,e,ex.1⟩,fun a e2=> ?_⟩;cases e2;exact ⟨o,e,ex.2.1⟩
  ·obtain ⟨o,_,_,_,e,ex,_⟩:=I.hok p _ hk
   refine ⟨⟨o,e,ex.1⟩,fun a e2=> ?_⟩;cases e2;exact ⟨o,e,ex.2.1⟩
 | _=>exact False.elim ty
def tBM(K:Df)(T:String)(r:V->List V->Hp->VK->Prop)(to:TE)(t:TA):TE:=fun σ H Q=>to σ H fun x H1=>tyV K T x H1/\t σ H1 fun xs H2=>r x xs H2 Q
variable{o e:Expr}{es:List Expr}{to:TE}{t:TA}{name:Str}{apos cpos:Pos}{T id:String}{r:V->List V->Hp->VK->Prop}
theorem wf(pa:PlainAttrs T)(slot:Slot T name id)(hty:typeOf (.builtin id)=pure (.type "method_descriptor"))(hm:MtR X id r)(ho:PE X o to)(ha:PA X (e::es) t)
 (hbase:attributeBase o name X.env (eval o X.env)=eval o X.env:=by rfl)
 (hfew:((backTo cpos (starEach (e::es) X.env)).all (fun x => !x.1)&&(backToKw cpos (keywordEach [] X.env)).all (fun x=>x.1.isSome)
   && decide ((e::es).length+([]:List Keyword).length+(if ([]:List Keyword).isEmpty then 0 else 1) < 30))=true:=by rfl)
 (hline:(apos.endLine == cpos.line)=true:=by rfl) (hs:starEach (e::es) X.env=(false,eval e X.env)::starEach es X.env:=by rfl) (hplain:(backTo cpos (starEach es X.env)).any (·.1)=false:=by rfl) :
 PE X (.Call (.Attribute o name apos) (e::es) [] cpos) (tBM X.K T r to t):=by
 intro pins s σ H Q I h;refine wpAny_Call_method_late hbase hfew hline rfl (thn (ho pins s σ H _ I h) fun v s1 ⟨x,H1,I1,r1,ty,q1⟩=> ?_);obtain ⟨h1,h2⟩:=tyV_is I1 r1 ty;refine ⟨T,id,pa,slot,hty,h1,h2,?_⟩;have hA:=ha cpos pins s1 σ H1 _ I1 q1;rw [hs] at hA ⊢;refine Calls.callWith_builtin (by show (false||(backTo cpos (starEach es X.env)).any (·.1))=false;rw [hplain]<;>rfl) (Calls.evalArgs_plain ?_)
 exact thn hA fun us s2 ⟨vs,H2,I2,r2,q2⟩=>hm pins s2 σ H2 x vs v us Q I2 r1 r2 q2
end
def MtM(X:Cx)(id:String)(r:V->List V->Hp->VK->Prop):Prop :=
 ∀ (pins:List (Addr×Obj)) (s:Shared) (σ:St) (H:Hp) (x:V) (xs:List V) (v:Value) (us:List Value) (Q:VK),Inv X pins σ H s->aB x v->ar xs us->r x xs H Q ->
  wpAny (model X.prog X.w) X.A (call (.builtin id) (v::us)) (EP X pins σ Q) X.xe s
theorem ar.one:∀ {x:V} {us:List Value},ar [x] us->∃ u,us=[u]/\aB x u
 | _,_,.cons r .nil=>⟨_,rfl,r⟩
theorem ar.eraseIdx:∀ {xs:List V} {us:List Value} (i:Nat),ar xs us->ar (xs.eraseIdx i) (us.eraseIdx i)
 | _,_,_,.nil=> .nil
 | _,_,0,.cons _ t=>t
 | _,_,i+1,.cons r t=> .cons r (ar.eraseIdx i t)
theorem ar.rep{xs:List V}{us:List Value}(h:ar xs us):∀ k:Nat,ar (List.replicate k xs).flatten (List.replicate k us).flatten
 | 0=> .nil
 | k+1=>by
  rw [B2,B2,Cj,Cj];exact ar.append h (ar.rep h k)
theorem my{α:Type}:∀ (l:List α) (i:Nat),(l.eraseIdx i).length<=l.length
 | [],_=>A8 _
 | _::_,0=>CW _
 | _::r,i+1=>Nat.succ_le_succ (my r i)
theorem mI(its:List Value):∀ (k:Nat) (acc:List Value),
 List.foldl (fun x1 x2=>x1++x2) acc.toArray (List.replicate k its.toArray)=(acc++(List.replicate k its).flatten).toArray
 | 0,acc=>by simp
 | k+1,acc=>by
  have e:acc.toArray++its.toArray=(acc++its).toArray:=by simp
  have e2:(acc++its)++(List.replicate k its).flatten=acc++(List.replicate (k+1) its).flatten:=by
   rw [B2,Cj,B3]
  rw [<- e2,<- mI its k (acc++its),<- e,B2,C7]
section
variable{X:Cx}{pins:List (Addr×Obj)}{σ:St}{H:Hp}{s:Shared}{l b:Addr}{xs ys zs:List V}
theorem Inv.lset{its its':List Value}{n:Nat}{f:Array Value->Array Value}{t':Nat}(I:Inv X pins σ H s)(hH:H l=some (.lst xs))
 (e:s.heap.get? l=some { cls:= .type "list",data:= .seq its.toArray n }) (hf:f its.toArray=its'.toArray) (hv:ar ys its') (hz:ys.length<=sizeLine) :
 Inv X pins σ (upd H l (.lst ys)) { s with heap:=s.heap.update l (Obj.mapSeq f),toks:=t' }:=by
 have q:=PySem.IsL.update e f;rw [hf] at q;refine I.write (x:=l) (e:=l) (by rw [hH];exact trivial) (.inl rfl) (fun b' u hb hu=>(Ct s.heap (Obj.mapSeq f) (Ne.symm hb)).trans hu) ⟨_,q⟩ ?_;exact ⟨hz,its',_,hv,q⟩
theorem Inv.lnew{its:List Value}{t':Nat}(I:Inv X pins σ H s)(hv:ar ys its)(hz:ys.length<=sizeLine) :
 Inv X pins σ (upd H s.heap.objs.size (.lst ys)) { s with heap:=s.heap.push { cls:= .type "list",data:= .seq its.toArray },toks:=t' } :=
 I.laid (fun _ _ q=>AR _ q) (A8 _) ⟨hz,its,0,hv,AZ _ rfl⟩
theorem Inv.fresh(I:Inv X pins σ H s):H s.heap.objs.size=none:=I.hok.fresh (A8 _)
theorem Inv.lstM(I:Inv X pins σ H s)(hH:H l=some (.lst xs)):xs.length<=sizeLine/\∃ (its:List Value) (n:Nat),ar xs its/\xs.length=its.length/\s.heap.get? l=some { cls:= .type "list",data:= .seq its.toArray n }:=by
 obtain ⟨z,its,n,r,e⟩:=I.hok l _ hH;exact ⟨z,its,n,r,r.length,e⟩
theorem kZ{n:Nat}(h:n<=sizeLine):Builtin.List.listTooLong n=false:=by
 unfold Builtin.List.listTooLong;exact Bk (by omega)
end
section
variable{X:Cx}
def sv:V->List V->Hp->VK->Prop:=fun x vs H Q=>∃ l xs y,x = .ref l/\vs=[y]/\H l=some (.lst xs)/\xs.length < sizeLine/\Q .non (upd H l (.lst (xs++[y])))
theorem jt:MtM X "list.append" sv:=by
 intro pins s σ H x vs v us Q I rx rv h;obtain ⟨l,xs,y,rfl,rfl,hH,hz,q⟩:=h;cases rx;obtain ⟨u,rfl,ru⟩:=rv.one;obtain ⟨z,its,n,r,hl,e⟩:=I.lstM hH;refine call_meets F.slot_list_append ⟨_,e,rfl⟩ F.entry_list_append (F.args_list_append_2 _ _) (PySem.list_append l its.toArray n u (by rw [AW];omega)) ⟨e,?_⟩;refine ⟨.non,_,I.lset (its':=its++[u]) hH e (by simp) (r.append (.cons ru .nil)) ?_,rfl,q⟩;rw [A7,List.length_singleton];omega
def su:V->List V->Hp->VK->Prop:=fun x vs H Q=>∃ l b xs zs,x = .ref l/\vs=[.ref b]/\H l=some (.lst xs)/\H b=some (.lst zs)/\xs.length+zs.length<=sizeLine/\Q .non (upd H l (.lst (xs++zs)))
theorem tS:MtM X "list.extend" su:=by
 intro pins s σ H x vs v us Q I rx rv h;obtain ⟨l,b,xs,zs,rfl,rfl,hH,hB,hz,q⟩:=h;cases rx;obtain ⟨u,rfl,ru⟩:=rv.one;cases ru;obtain ⟨z,its,n,r,hl,e⟩:=I.lstM hH;obtain ⟨z2,its2,n2,r2,hl2,e2⟩:=I.lstM hB
 have hsz:its.toArray.size+its2.toArray.size<=sizeLine:=by rw [AW,AW];omega
 have hlong:¬ (!its.toArray.isEmpty&&Builtin.List.listTooLong (its.toArray.size+its2.toArray.size))=true:=by
  rw [kZ hsz,B4];exact Bj
 refine call_meets F.slot_list_extend ⟨_,e,rfl⟩ F.entry_list_extend (F.args_list_extend_2 _ _)
  (AutoSeq1.list_extend_list_list_0 l its.toArray n b its2.toArray n2 hlong (by rw [AW];omega) (by omega)) ⟨e,e2,?_⟩
 refine ⟨.non,_,I.lset (its':=its++its2) hH e (by simp) (r.append r2) ?_,rfl,q⟩;rw [A7];omega
def vP:V->List V->Hp->VK->Prop:=fun x vs H Q=>∃ l xs i k y,x = .ref l/\vs=[.int i]/\H l=some (.lst xs) /\ -(2 ^ 63)<=i/\i < 2 ^ 63/\seqIndex? i xs.length=some k/\xs[k]?=some y/\Q y (upd H l (.lst (xs.eraseIdx k)))
theorem wD:MtM X "list.pop" vP:=by
 intro pins s σ H x vs v us Q I rx rv h;obtain ⟨l,xs,i,k,y,rfl,rfl,hH,h1,h2,hk,hy,q⟩:=h;cases rx;obtain ⟨u,rfl,ru⟩:=rv.one;obtain ⟨t,rfl⟩:=ru;obtain ⟨z,its,n,r,hl,e⟩:=I.lstM hH;obtain ⟨w,hw,rw'⟩:=r.get hy
 refine call_meets F.slot_list_pop ⟨_,e,rfl⟩ F.entry_list_pop (F.args_list_pop_2 _ _)
  (MeetsSeq.list_pop_at l its.toArray n i t k w (fitsIndex_both h1 h2) (by rw [AW,<- hl];exact hk) (by rw [<- B8];exact hw) (by rw [AW];omega)) ⟨e,?_⟩
 refine ⟨y,_,I.lset (its':=its.eraseIdx k) hH e ?_ (r.eraseIdx k) ?_,rw',q⟩
 ·show its.toArray.eraseIdxIfInBounds k=(its.eraseIdx k).toArray
  rw [List.eraseIdxIfInBounds_toArray]
 ·have:=my xs k
  omega
def rCat:R2:=fun x y H Q=>∃ l b xs zs,x = .ref l/\y = .ref b/\H l=some (.lst xs)/\H b=some (.lst zs)/\xs.length+zs.length<=sizeLine/\∀ p,H p=none->Q (.ref p) (upd H p (.lst (xs++zs)))
theorem op_cat:OpR X (binaryOp .Add) rCat:=by
 intro pins s σ H x y v u Q I rx ry h;obtain ⟨l,b,xs,zs,rfl,rfl,hH,hB,hz,q⟩:=h;cases rx;cases ry;obtain ⟨z,its,n,r,hl,e⟩:=I.lstM hH;obtain ⟨z2,its2,n2,r2,hl2,e2⟩:=I.lstM hB;refine PySem.P.add_list e e2 ?_ (by rw [AW,AW];omega)
 have ea:its.toArray++its2.toArray=(its++its2).toArray:=by simp
 rw [ea];exact ⟨.ref _,_,I.lnew (t':=s.toks) (r.append r2) (by rw [A7];omega),rfl,q _ I.fresh⟩
def rRep:R2:=fun x y H Q=>∃ l k xs,x = .ref l/\y = .int k/\H l=some (.lst xs) /\ -(2 ^ 63)<=k/\k < 2 ^ 63/\xs.length * k.toNat<=sizeLine /\
 ∀ p,H p=none->Q (.ref p) (upd H p (.lst (List.replicate k.toNat xs).flatten))
theorem zq{α:Type}(xs:List α)(k:Nat):(List.replicate k xs).flatten.length=k * xs.length:=by
 induction k with
 | zero=>simp
 | succ k ih=>rw [B2,Cj,A7,ih,Nat.succ_mul,Nat.add_comm]
theorem op_rep:OpR X (binaryOp .Mult) rRep:=by
 intro pins s σ H x y v u Q I rx ry h;obtain ⟨l,k,xs,rfl,rfl,hH,h1,h2,hz,q⟩:=h;cases rx;obtain ⟨t,rfl⟩:=ry;obtain ⟨z,its,n,r,hl,e⟩:=I.lstM hH
 have hlen:its.toArray.size * k.toNat<=sizeLine:=by rw [AW,<- hl];exact hz
 have hcap:¬ its.toArray.size * k.toNat > (2 ^ 63 - 1) / 8:=by
  have:(sizeLine:Nat)<=(2 ^ 63 - 1) / 8:=by decide
  omega
 have hfit:¬ (!Builtin.List.listFitsIndex k)=true:=by
  rw [fitsIndex_both h1 h2];exact Bj
 have hlong:¬ Builtin.List.listTooLong (its.toArray.size * k.toNat)=true:=by
  rw [kZ hlen];exact Bj
 have hnew:List.foldl (fun x1 x2=>x1++x2) #[] (List.replicate (if its.toArray.isEmpty=true then 0 else k.toNat) its.toArray)=(List.replicate k.toNat its).flatten.toArray:=by
  have f0:∀ m:Nat,List.foldl (fun x1 x2=>x1++x2) #[] (List.replicate m its.toArray)=(List.replicate m its).flatten.toArray:=fun m=>by
   have:=mI its m [];rw [BN] at this;exact this
  rw [f0]
  cases its with
  | nil=>simp
  | cons a r'=>rw [if_neg (by simp)]
 refine wpAny_binaryOp_repeat_ref (T := "list") (U := "int") (by decide) ⟨_,e,rfl⟩ (fun s'=>typeIs_int s' k t) noFill_list_mul F.fills_int_mul F.slot_int_rmul repeat_list F.slot_int_index.lookup
  (call_meets F.slot_int_rmul (typeIs_int s k t) F.entry_int_rmul (F.args_int_rmul_2 _ _) (int___rmul___int_list k t l its.toArray n)
    ⟨e,rfl,⟨_,e,rfl⟩,call_meets F.slot_list_mul ⟨_,e,rfl⟩ F.entry_list_mul (F.args_list_mul_2 _ _) (AutoListH.list___mul___list_int_3 l its.toArray n k t hfit hcap hlong) ⟨e,?_⟩⟩)
 rw [hnew];exact ⟨.ref _,_,I.lnew (t':=s.toks) (r.rep k.toNat) (by rw [zq,Nat.mul_comm];exact hz),rfl,q _ I.fresh⟩
end
section
variable{prog:Program}{w:World}{A:Around}{E:Value->Shared->Prop}{s:Shared}
end
section
variable{X:Cx}
end
end L2
namespace Att
open PySem PySem.W PySem.Calls PyProof.Rows
theorem j7{P:Params}{h:Heap}:∀ (ns:List Int) (vs:List Value),WellAll P h vs (ns.map WData.int)->IntsAre vs ns:=by
 intro ns
 induction ns with
 | nil =>
  intro vs w;rw [Cy] at w;cases w;exact .nil
 | cons n ns ih =>
  intro vs w;rw [A4] at w
  cases w with
  | cons a b =>
   cases a;exact .cons _ _ (ih _ b)
theorem tm{l:OpenLaw}{n:Nat}(hn:l.most=some n){P:Params}{h:Heap}{args:List WData}{vals:List Value}
 (hpre:l.row.toRowW.claim.pre args=true) (hwl:WellAll P h vals args) :
 ∃ a vs ns,vals=[Value.ref a]/\args=[WData.list (ns.map WData.int)]/\h.get? a=some { cls:= .type "list",data:= .seq vs.toArray }/\IntsAre vs ns/\ns.length<=n:=by
 have hsh:WShape.hasAll [] args [.list .int]=true:=(pre_splitW hpre).1;have hc:l.pre.holds [] { args:=args }=true:=(pre_splitW hpre).2;obtain ⟨d,r,rfl,h1,h2⟩:=hasAllW_cons hsh;obtain rfl:=hasAllW_nil h2;obtain ⟨xs,rfl,h3⟩:=hasW_list h1;obtain ⟨ns,rfl⟩:=items_int h3
 have hlen:ns.length<=n:=by
  unfold OpenLaw.pre at hc
  have h4:(WTm.not (.lt (.lit (.int (n:Int))) (.len (.arg 0)))).holds [] { args:=[.list (ns.map .int)] }=true:=by
   have h4:=(holds_andW hc).1;rw [hn] at h4;exact h4
  have h5:=condW_of h4 (w_not (w_lt w_lit (w_len_list (w_arg rfl))));rw [AO] at h5
  refine Nat.le_of_not_lt fun q=> ?_
  have q':(n:Int) < ((ns.length:Nat):Int):=by omega
  first
   | (rw [Ba q'] at h5;exact absurd h5 (by decide))
   | (simp at h5;omega)
 cases hwl with
 | cons w1 w2 =>
  cases w2
  cases w1 with
  | list ho hall=>exact ⟨_,_,ns,rfl,rfl,ho,j7 ns _ hall,hlen⟩
theorem tE(l:OpenLaw)(args:List WData):l.row.toRowW.claim.post args (.bool true) args=true :=
 postW_of (r:=l.row.toRowW) (X:=(true == true))
  (show WShape.has [] (.bool true) .bool=true by first | rfl | decide | simp [WShape.has,WShape.arms,WShape.armsAll])
  (show (WTm.eq .res (.lit (.bool true))).value [] { args:=args,res:=some (.bool true),after:=args }=some (.bool (true == true)) from w_eq_bool (w_res rfl) w_lit) rfl
theorem qq{l:OpenLaw}{n:Nat}{q:Program}{loose:List Str}{XP:(Str->Option Value)->Heap->Prop}{YP:World->Heap->Prop}{d:DefRec}
 (hn:l.most=some n) (hdf:d.params.defaults=[])
 (call:∀ (w:World) (s₀ s₁:Shared) (mg mb:Str->Option Value) (fa:Addr) (o:Obj) (pm cd doc:Value) (a:Addr) (vs:List Value) (ns:List Int),
   Ground q loose [] XP w s₀ mg mb s₁.heap->YP w s₁.heap ->
   s₁.heap.get? fa=some o->o.data = .func (docDef d.name d.params d.body d.scope pm cd doc)->s₁.heap.CodeRec cd d.name->mg d.name=some (.ref fa) ->
   s₁.heap.get? a=some { cls:= .type "list",data:= .seq vs.toArray }->IntsAre vs ns->ns.length<=n->s₁.gens = #[] ->
   codeAny (model l.prog w) callerA (.call (.ref fa) ⟨[.ref a],[]⟩) (fun r s'=>r = .ok (.ret (.bool true))/\OldK s₁.heap s'.heap/\s'.os=s₁.os/\AllBare s'.gens) s₁) :
 WalkO q loose XP YP l.row.toRowW d [] (fun f vs=>PySem.call f vs):=by
 intro w s₀ s₁ mg mb G Y fa o pm cd doc dV kV ho hd hcd hD hmg hg args vals as hpre hlay hrd hwl hlo;obtain rfl:dV = .none:=Dflts.none hD hdf;obtain rfl:kV = .none:=Dflts.noKw hD;obtain ⟨a,vs,ns,rfl,rfl,hobj,hints,hlen⟩:=tm hn hpre hwl;refine enter_call (codeAny_mono (call w s₀ s₁ mg mb fa o pm cd doc a vs ns G Y ho (fd_plain hd) hcd hmg hobj hints hlen hg) fun r s' hq=> ?_);obtain ⟨rfl,h2,h3,h4⟩:=hq;exact ⟨.inl ⟨.bool true,.bool true,[],rfl,fun _=>rfl,.bool true,tE l _,fun _=>⟨List.Pairwise.nil,fun _ hm=>(nomatch hm)⟩⟩,h2,h3,h4⟩
section
variable{prog:Program}{w:World}{A:Around}{E:Value->Shared->Prop}{s:Shared}{K:Frag}
end
end Att
namespace L2
open PySem PySem.Spec PyProof.Rows
theorem l7:∀ {vs:List Value} {ns:List Int},IntsAre vs ns->ar (ns.map V.int) vs
 | _,_,.nil=> .nil
 | _,_,.cons n t h=> .cons ⟨t,rfl⟩ (l7 h)
def Only(H:Hp):Prop:=∀ b,H b=none\/∃ o xs,H b=some (.frz o (.lst xs))
theorem wL{P:Program}{w:World}{K:Df}{mg mb:Str->Option Value}{CX:CXT}{k:Nat}{fa a:Addr}{fd:FuncData}{x:Str}{sp:Sp}{s₁:Shared}{vs:List Value}{ns:List Int}
 (KX:K.In s₁.heap) (hns:s₁.heap.Ns mainGlobals mg) (hb:s₁.heap.Ns builtinsNs mb) (hbb:∀ x:Str,x ≠ "__name__" -> mb x=bootBuiltins x) (hlim:s₁.heap.NoLimit) (hg:s₁.gens = #[])
 (ha:s₁.heap.get? a=some { cls:= .type "list",data:= .seq vs.toArray }) (hi:IntsAre vs ns) (hl:ns.length<=sizeLine) (hr:cq k callerA)
 (F:∀ base:Heap,K.In base->base.Ns mainGlobals mg->jE P w K mg base CX k fa fd [x] sp) (hbind:∀ (s:Shared) (u:Value),BindsTo s fd ⟨[u],[]⟩ [(x,u)])
 (hsp:∀ H:Hp,Only H->SqL K H a (ns.map V.int)->sp [.ref a] H (fun v _=>v = .bl true) fun _ _ _=>False)
 (hCX:∀ H e s',CX [] H s₁ (fun _ _ _=>False) e s'->False) :
 codeAny (model P w) callerA (.call (.ref fa) ⟨[.ref a],[]⟩) (fun r s'=>r = .ok (.ret (.bool true))/\OldK s₁.heap s'.heap/\s'.os=s₁.os/\AllBare s'.gens) s₁:=by
 have rv:=l7 hi;have lenV:=hi.length
 have core:∀ H:Hp,Only H->SqL K H a (ns.map V.int)->HOk P w H s₁.heap->(∀ b,H b≠none->b=a)->(H a≠none->K.lookup a=none) ->
  codeAny (model P w) callerA (.call (.ref fa) ⟨[.ref a],[]⟩) (fun r s'=>r = .ok (.ret (.bool true))/\OldK s₁.heap s'.heap/\s'.os=s₁.os/\AllBare s'.gens) s₁:=by
  intro H hO hS hok hA hK
  have base_of:∀ {b:Addr} {o:Obj},s₁.heap.get? b=some o->H b=none->(nQ s₁.heap H).get? b=some o:=fun e n=>wV e n
  have noA:∀ {b:Addr} {o:Obj} {es:Array DictEntry} {ep:Nat},s₁.heap.get? b=some o->o.data = .dict es ep->H b=none:=fun {b o es ep} e d=>by
   cases q:H b with
   | none=>rfl
   | some u =>
    have e':b=a:=hA b (by rw [q];simp);subst e';rw [ha] at e;cases e;have d':Data.seq vs.toArray _=Data.dict es ep:=d;cases d'
  have nsK:∀ {b:Addr} {m:Str->Option Value},s₁.heap.Ns b m->(nQ s₁.heap H).Ns b m:=fun {b m} ⟨o,es,ep,e,d,r⟩=>⟨o,es,ep,base_of e (noA e d),d,r⟩
  have hKb:K.In (nQ s₁.heap H):=fun b o e=>base_of (KX b o e) (by
   cases q:H b with
   | none=>rfl
   | some u =>
    have e':b=a:=hA b (by rw [q];simp);subst e'
    rw [hK (by rw [q];simp)] at e;cases e)
  have hM:Mod K mg (nQ s₁.heap H):=⟨hKb,nsK hns,⟨mb,nsK hb,hbb⟩,let ⟨mc,h1,h2⟩:=hlim;⟨mc,nsK h1,h2⟩⟩;have e0:Ah P w K mg (nQ s₁.heap H) callerA [] s₁ H:=⟨rfl,hM,fun b o e=>zi e,Nat.le_of_eq (t4 _ _),trivial,fun b hb=>absurd (show b∈([]:List Addr) from hb) (by simp),hok,.of_eq hg⟩
  refine codeAny_mono ((F _ hKb (nsK hns)).run callerA [] s₁ H ⟨[.ref a],[]⟩ [.ref a] [.ref a] _ _ hr e0 (hbind s₁ (.ref a)) (.cons rfl .nil) (hsp H hO hS)) fun r s' h=> ?_
  cases r with
  | error e=>exact (hCX H e s' h).elim
  | ok fl =>
   cases fl with
   | next=>exact False.elim h
   | brk=>exact False.elim h
   | cont=>exact False.elim h
   | ret u =>
    obtain ⟨v,H',os,bare,un,hok',r',q⟩:=h;have q':v = .bl true:=q;subst q';obtain rfl:u=Value.bool true:=r';refine ⟨rfl,OldK.of_keep fun b o e=> ?_,os,bare⟩
    cases q:H b with
    | none=>exact un.keep b o e q (by intro z;exact absurd (show b∈([]:List Addr) from z) (by simp)) (by simp)
    | some u =>
     rcases hO b with z | ⟨ob,xs,z⟩
     ·rw [q] at z;cases z
     ·have z2:=un.frzs b ob _ z
      obtain ⟨e1,_⟩:=hok b _ z;obtain ⟨e2,_⟩:=hok' b _ z2;rw [e] at e1;cases e1;exact e2
 cases hk:K.lookup a with
 | some o =>
  have e:=KX a o hk;rw [ha] at e;cases e
  refine core (fun _=>none) (fun _=> .inl rfl) (.inr ⟨_,vs.toArray,_,hk,rfl,rfl,rfl,by rw [AW,lenV];exact hl,by simpa using rv⟩) (fun b u z=>by have z':(none:Option HO)=some u:=z;cases z') (fun b z=>absurd rfl z) fun z=>absurd rfl z
 | none =>
  refine core (fun b=>if b=a then some (.frz { cls:= .type "list",data:= .seq vs.toArray } (.lst (ns.map V.int))) else none) (fun b=> ?_) (.inl (.inr ⟨{ cls:= .type "list",data:= .seq vs.toArray },if_pos rfl⟩)) (fun b u z=> ?_) (fun b z=> ?_) fun _=>hk
  ·by_cases hb:b=a
   ·exact .inr ⟨_,_,if_pos hb⟩
   ·exact .inl (if_neg hb)
  ·by_cases hb:b=a
   ·have z':=(if_pos hb).symm.trans z
    cases z';subst hb;exact ⟨ha,by rw [AO];exact hl,vs,_,rv,ha⟩
   ·have z':=(if_neg hb).symm.trans z
    cases z'
  ·by_cases hb:b=a
   ·exact hb
   ·exact absurd (if_neg hb) z
abbrev KOf{K:Df}{h:Heap}(_:K.In h):Df:=K
theorem xQ{l:PySem.W.OpenLaw}{n k:Nat}{q:Program}{loose:List Str}{XP:(Str->Option Value)->Heap->Prop}{YP:World->Heap->Prop}{d:DefRec}{K:Params->Df}{CX:World->CXT}{sp:World->Sp}{x:Str}
 (hn:l.most=some n) (hn2:n<=sizeLine) (hdf:d.params.defaults=[]) (hr:cq k callerA)
 (hY:∀ (w:World) (h:Heap),YP w h->(K w.params).In h)
 (F:∀ (w:World) (mg:Str->Option Value) (fa:Addr) (h:Heap),(K w.params).In h->h.Ns mainGlobals mg->mg d.name=some (.ref fa) ->
   ∃ fd:FuncData,(∀ (s:Shared) (u:Value),BindsTo s fd ⟨[u],[]⟩ [(x,u)]) /\
    ∀ base:Heap,(K w.params).In base->base.Ns mainGlobals mg->jE l.prog w (K w.params) mg base (CX w) k fa fd [x] (sp w))
 (hsp:∀ (w:World) (H:Hp) (a:Addr) (ns:List Int),ns.length<=n->Only H->SqL (K w.params) H a (ns.map V.int)->sp w [.ref a] H (fun v _=>v = .bl true) fun _ _ _=>False)
 (hCX:∀ (w:World) (H:Hp) (s:Shared) (e:Value) (s':Shared),CX w [] H s (fun _ _ _=>False) e s'->False) :
 PySem.W.WalkO q loose XP YP l.row.toRowW d [] (fun f vs=>PySem.call f vs):=by
 refine Att.qq hn hdf fun w s₀ s₁ mg mb fa o pm cd doc a vs ns G Y ho hd hcd hmg hobj hints hlen hg=> ?_
 have KX:=hY w _ Y;obtain ⟨fd,hb,hF⟩:=F w mg fa _ KX G.T.g hmg
 exact wL KX G.T.g G.T.b G.T.builtins G.T.nolimit hg hobj hints (B5 hlen hn2) hr hF hb (fun H hO hS=>hsp w H a ns hlen hO hS) fun H e s'=>hCX w H s₁ e s'
def cb(s:Stmt):Arguments:=match s with
 | .FunctionDef _ a _ _ _ _ _ _ _ _=>a
 | _=>{ posonlyargs:=[],args:=[],vararg:=none,kwonlyargs:=[],kw_defaults:=[],kwarg:=none,defaults:=[] }
def aR(s:Stmt):List Stmt:=match s with
 | .FunctionDef _ _ b _ _ _ _ _ _ _=>b
 | _=>[]
def aa(s:Stmt):Scope:=match s with
 | .FunctionDef _ _ _ _ _ _ sc _ _ _=>sc
 | _=>{ kind:= .function,names:=[],isGenerator:=false,isCoroutine:=false }
abbrev CX0:CXT:=fun _ _ _ _ _ _=>False
structure Fun(K:Df)(x qual:Str)(st:Stmt)(f:Addr)(fd:FuncData):Prop where
 ex:∃ (oc:Value) (od:Option Addr) (kV doc pm:Value) (an:Option Addr) (cdv ct:Value) (osl:Array (Option Value)),
  fd=PySem.W.fnOf x qual (cb st) (aR st) (aa st) .none kV doc pm an cdv ct/\K.lookup f=some ⟨oc,od,.func fd,osl⟩/\PySem.W.codeIn K cdv qual=true
 kp:PySem.W.keepIn K (.ref f)=true
section
variable{P:Program}{w:World}{K:Df}{mg:Str->Option Value}{base:Heap}
theorem Fun.ok{x qual:Str}{st:Stmt}{f:Addr}{fd:FuncData}{N ps:List Str}{k:Nat}{sp:Sp}(F:Fun K x qual st f fd)(S:cI N ps (aa st))(len:∀ vs H Q E,sp vs H Q E->vs.length=ps.length)
 (hbody:∀ (cdv:Value) (A:Around) (outer:List Env) (s:Shared) (H:Hp) (vs:List V) (Q:VK) (E:XK),cq k (A.deeper (envOfC qual (aa st) s.heap.objs.size f cdv))->sp vs H Q E ->
   ∃ t,PSs (bQ CX0 P w K mg base N qual (aa st) f cdv A outer s H E).nox (aR st) t/\t { nx:=fun _ H'=>Q .non H',rt:=Q } (dA N vs) H):jE P w K mg base CX0 (k+1) f fd ps sp:=by
 obtain ⟨oc,od,kV,doc,pm,an,cdv,ct,osl,rfl,lk,hcd⟩:=F.ex
 refine xk lk hcd S len fun A outer s H vs Q E hr hsp=> ?_
 obtain ⟨t,h,q⟩:=hbody cdv A outer s H vs Q E hr hsp;exact ⟨t,h.nox,q⟩
theorem Fun.binds{x qual:Str}{st:Stmt}{f:Addr}{fd:FuncData}{ps:List Str}(F:Fun K x qual st f fd)
 (h:∀ (kV doc pm:Value) (an:Option Addr) (cdv ct:Value) (us:List Value),us.length=ps.length->bindArgs (PySem.W.fnOf x qual (cb st) (aR st) (aa st) .none kV doc pm an cdv ct) ⟨us,[]⟩=pure (ps.zip us)):jY K fd ps []:=by
 obtain ⟨oc,od,kV,doc,pm,an,cdv,ct,osl,rfl,lk,hcd⟩:=F.ex;exact .all (h kV doc pm an cdv ct)
theorem rl{x qual:Str}{st:Stmt}{f:Addr}{oc:Value}{od an:Option Addr}{osl:Array (Option Value)}{kV doc pm cdv ct:Value}(l:K.lookup f=some ⟨oc,od,.func (PySem.W.fnOf x qual (cb st) (aR st) (aa st) .none kV doc pm an cdv ct),osl⟩)
 (c:PySem.W.codeIn K cdv qual=true) (k:PySem.W.keepIn K (.ref f)=true):Fun K x qual st f (PySem.W.fnOf x qual (cb st) (aR st) (aa st) .none kV doc pm an cdv ct):=⟨⟨oc,od,kV,doc,pm,an,cdv,ct,osl,rfl,l,c⟩,k⟩
end
theorem cK{n:Nat}(h:n<=1000):n < sizeLine:=Nat.lt_of_le_of_lt h (by decide)
section
variable{X:Cx}
theorem pv(i:Nat){x:Str}{pos:Pos}(hN:X.N[i]?=some x:=by rfl)(hv:Vis X.env.scope x:=by first | exact Or.inl rfl | exact Or.inr (Or.inl rfl) | exact Or.inr (Or.inr rfl))(hd:(x == ("__debug__" : Str))=false:=by decide)
 (hcd:(x == ("__classdict__" : Str))=false:=by decide):PE X (.Name x pos) (vm i):=hX hN hv hd hcd
theorem uH:aw X (.builtin "len") (fun xs H Q=>∃ a kvs,xs=[V.ref a]/\H a=some (.dK kvs)/\Q (.int kvs.length) H):=by
 intro pins s σ H xs us Q I r h;obtain ⟨a,kvs,rfl,ha,q⟩:=h;obtain ⟨u,rfl,ru⟩:=bn r;cases ru
 exact d_len I (.inl ha) fun t s' I'=>⟨.int kvs.length,H,I',⟨t,rfl⟩,q⟩
end
def ad(H H':Hp):Prop:=∀ b o,H b=some o->H' b=some o
theorem ad.refl(H:Hp):ad H H:=fun _ _ h=>h
theorem ad.trans{H H1 H2:Hp}(a:ad H H1)(b:ad H1 H2):ad H H2:=fun c o h=>b c o (a c o h)
theorem ad.free{H H':Hp}(e:ad H H'){l:Addr}(h:H' l=Option.none):H l=Option.none:=by
 cases q:H l with
 | none=>rfl
 | some o =>
  rw [e l o q] at h;cases h
theorem ad.seq{K:Df}{H H':Hp}{a:Addr}{xs:List V}(e:ad H H')(h:SqL K H a xs):SqL K H' a xs:=by
 rcases h with (h | ⟨o,h⟩) | h
 ·exact .inl (.inl (e _ _ h))
 ·exact .inl (.inr ⟨o,e _ _ h⟩)
 ·exact .inr h
section
variable{κ:Type}[DecidableEq κ]
end
def clF(env:Env):List (Str×NameKind)->List (Str×Addr)->List (Str×Addr)
 | [],acc=>acc
 | (n,k)::r,acc=>clF env r (if k == NameKind.free then (n,(env.cells.lookup n).getD 0)::acc else acc)
theorem rB{env:Env}{scope:Scope}(h:∀ y∈scope.names,y.2 = .free->∃ c,env.cells.lookup y.1=some c):closureFor scope env=pure (clF env scope.names []):=by
 have go:∀ (names:List (Str×NameKind)) (acc:List (Str×Addr)),(∀ y∈names,y.2 = .free->∃ c,env.cells.lookup y.1=some c) ->
  (forIn names acc fun (x:Str×NameKind) (r:List (Str×Addr))=>(match x with
    | (name,kind)=>if (kind == NameKind.free)=true then do let a <- cellOf env name;pure (ForInStep.yield ((name,a)::r)) else pure (ForInStep.yield r):Sem (ForInStep (List (Str×Addr)))))=(pure (clF env names acc):Sem (List (Str×Addr))):=by
  intro names
  induction names with
  | nil=>intro acc _;rfl
  | cons x r ih =>
   intro acc hy;obtain ⟨n,k⟩:=x
   have ih':=fun a=>ih a fun y m=>hy y (AV _ m)
   rw [List.forIn_cons]
   cases hk:(k == NameKind.free) with
   | false =>
    dsimp only;rw [hk,if_neg Bj,pure_bind]
    show _=pure (clF env r (if (k == NameKind.free)=true then _ else acc))
    rw [hk,if_neg Bj];exact ih' acc
   | true =>
    obtain ⟨c,hc⟩:=hy (n,k) AY (by simpa using hk)
    have e:cellOf env n=pure c:=by unfold cellOf;rw [hc]
    dsimp only;rw [hk,if_pos rfl,e,pure_bind,pure_bind]
    show _=pure (clF env r (if (k == NameKind.free)=true then _ else acc))
    rw [hk,if_pos rfl,hc];exact ih' _
 unfold closureFor;have e:=go scope.names [] h
 show (forIn scope.names [] _ >>= _)=_
 refine (congrArg (fun z=>z >>= fun cs=>pure cs) e).trans ?_;rfl
theorem nZ{env:Env}:∀ (names:List (Str×NameKind)) (acc:List (Str×Addr)),(∀ y∈names,y.2 = .free->∃ c,env.cells.lookup y.1=some c) ->
 (∀ x c,acc.lookup x=some c->env.cells.lookup x=some c)->∀ x c,(clF env names acc).lookup x=some c->env.cells.lookup x=some c
 | [],acc,_,h,x,c,e=>h x c e
 | (n,k)::r,acc,hy,h,x,c,e=>by
  refine nZ r _ (fun y m=>hy y (AV _ m)) (fun y d z=> ?_) x c e
  cases hk:(k == NameKind.free) with
  | false=>rw [hk,if_neg Bj] at z;exact h y d z
  | true =>
   rw [hk,if_pos rfl] at z;obtain ⟨c',hc⟩:=hy (n,k) AY (by simpa using hk);rw [Cr] at z
   cases q:y == n with
   | true =>
    rw [q] at z
    have q':y=n:=by simpa using q
    subst q';have hc':env.cells.lookup y=some c':=hc;rw [hc'] at z ⊢;exact z
   | false=>rw [q] at z;exact h y d z
theorem n5{env:Env}:∀ (names:List (Str×NameKind)) (acc:List (Str×Addr)) (x:Str),((x,NameKind.free)∈names\/∃ c,acc.lookup x=some c)->∃ c,(clF env names acc).lookup x=some c
 | [],acc,x,h=>by
  rcases h with h | h
  ·cases h
  ·exact h
 | (n,k)::r,acc,x,h=>by
  refine n5 r _ x ?_
  have keep:(∃ c,acc.lookup x=some c)->∃ c,(if (k == NameKind.free)=true then (n,(env.cells.lookup n).getD 0)::acc else acc).lookup x=some c:=fun hZ=>by
   obtain ⟨c,hc⟩:=hZ
   split
   ·rw [Cr]
    split
    ·exact ⟨_,rfl⟩
    ·exact ⟨c,hc⟩
   ·exact ⟨c,hc⟩
  rcases h with h | h
  ·rcases A9.mp h with e | e
   ·have e1:x=n:=congrArg Prod.fst e
    have e2:NameKind.free=k:=congrArg Prod.snd e;subst e1 e2;refine .inr ⟨(List.lookup x env.cells).getD 0,?_⟩;rw [if_pos (by rfl),Cr,C4]
   ·exact .inl e
  ·exact .inr (keep h)
theorem fV{env:Env}:∀ {names:List (Str×NameKind)} {x:Str} {k:NameKind},
 (names.map fun (n,k)=>if (k == NameKind.free&&env.scope.kind == .function&&env.kindOf n == some .cell) then (n,NameKind.cell) else (n,k)).lookup x=some k ->
 (names.lookup x=some k)\/(k = .cell/\names.lookup x=some .free)
 | [],_,_,h=>by simp at h
 | (n,k')::r,x,k,h=>by
  have ih := @fV env r x k;have h:List.lookup x ((if (k' == NameKind.free&&env.scope.kind == .function&&env.kindOf n == some .cell)=true then (n,NameKind.cell) else (n,k'))::_)=some k:=h
  by_cases hc:(k' == NameKind.free&&env.scope.kind == .function&&env.kindOf n == some .cell)=true
  ·rw [if_pos hc,Cr] at h
   rw [Cr]
   cases hx:x == n with
   | true =>
    rw [hx] at h;have h':some NameKind.cell=some k:=h;cases h'
    have:k'=NameKind.free:=by
     have:=(Bh _ _).mp ((Bh _ _).mp hc).1;simpa using this.1
    subst this;exact .inr ⟨rfl,rfl⟩
   | false=>rw [hx] at h;exact ih h
  ·rw [if_neg hc,Cr] at h
   rw [Cr]
   cases hx:x == n with
   | true=>rw [hx] at h;exact .inl h
   | false=>rw [hx] at h;exact ih h
def blk(X:Cx)(sc:Scope)(cl:List (Str×Addr))(C:Addr)(fp:List Addr)(s:Shared)(H:Hp)(N:List Str):Cx :=
 { X with env:=compEnvC sc cl C X.env,N:=N,s₀:=s,H₀:=H,outer:=X.stack,ex:=fp,fn:=fun _=>false,pn:=[],xe:=fun _ _=>False }
structure lJ(X:Cx)(sc:Scope)(M tgs:List Str):Prop where
 kind:sc.kind = .function
 names:∀ y∈sc.names,y.2 = .local->sc.names.lookup y.1=some .local
 nocell:∀ y∈sc.names,y.2 ≠ .cell
 free:∀ y∈sc.names,y.2 = .free->X.env.kindOf y.1=some .cell\/X.env.kindOf y.1=some .free
 len:M.length=X.N.length
 same:∀ p∈M.zip X.N,p.1=p.2\/p.1=("" : Str)
 dummy:sc.names.lookup ("" : Str)=none
 hid:∀ x∈M,sc.names.lookup x≠some .local
section
variable{X:Cx}
theorem Inv.blk{pins:List (Addr×Obj)}{σ:St}{H:Hp}{s s4:Shared}{sc:Scope}{M tgs:List Str}{C:Addr}{fp:List Addr}{m:Str->Option Value}(I:Inv X pins σ H s)(B:lJ X sc M tgs)(hf:∀ b∈fp,qv X pins H b)(hfl:∀ b∈fp,b < s.heap.objs.size)
 (hC:s.heap.objs.size<=C) (hn:s4.heap.Ns C m) (hk:∀ b o,s.heap.get? b=some o->s4.heap.get? b=some o) (ho:s4.os=s.os) (hg:s4.gens=s.gens) :
 Inv (blk X sc (clF X.env sc.names []) C fp s H (M++tgs)) [] (σ++List.replicate tgs.length none) H s4:=by
 have hfr:∀ y∈sc.names,y.2 = .free->∃ c,X.env.cells.lookup y.1=some c:=fun y hy e=>I.ok.has _ (B.free y hy e)
 have hsub:∀ x c,(clF X.env sc.names []).lookup x=some c->X.env.cells.lookup x=some c:=nZ sc.names [] hfr fun _ _ z=>by simp at z
 have hin:∀ x c,(clF X.env sc.names []).lookup x=some c->c < s.heap.objs.size:=fun x c e=>by
  obtain ⟨v,q⟩:=I.cell x c (hsub x c e);exact q.lt
 have hfree:∀ x,((relabel sc X.env).names.lookup x=some .cell\/(relabel sc X.env).names.lookup x=some .free)->sc.names.lookup x=some .free:=fun x hx=>by
  rcases hx with q | q
  ·rcases fV q with z | z
   ·exact absurd rfl (B.nocell _ (BQ z))
   ·exact z.2
  ·rcases fV q with z | z
   ·exact z
   ·exact absurd z.1 (by decide)
 refine ⟨⟨I.ok.mod,B.kind,I.ok.glob,I.ok.blt,hC,fun x y c h1 h2=>I.ok.inj x y c (hsub x c h1) (hsub y c h2),fun x hx=> ?_,fun x c z=>absurd z Bj,I.ok.hd,I.ok.frames,.inl rfl,fun b hb=>⟨?_,fun x c e=> ?_⟩,I.bs,?_,fun b o e z=> ?_,fun b hb=> ?_,I.stack,I.stkFree⟩,
  ho,?_,Un.kept hk,⟨m,hn,fun i x v h1 h2 h3=> ?_⟩,fun x c e=> ?_,I.hok.fresh hC,fun x c e=>I.freeC x c (hsub x c e),fun p hp=>absurd (show p∈([]:List (Addr×Obj)) from hp) (by simp),I.hok.kept hk,?_⟩
 ·exact n5 sc.names [] x (.inl (BQ (hfree x hx)))
 ·exact Bi (Bq (hfl b hb) hC)
 ·exact (hf b hb).2.2.2.2.1 x c (hsub x c e)
 ·exact B5 I.ok.bsz I.sz
 ·rcases (hf b z).2.2.2.1 with q | q
  ·exact I.ok.noex b o e q
  ·exact absurd (Bq (A5 e) I.ok.bsz) (Nat.not_lt.mpr q)
 ·intro z
  rcases A9.mp (I.stkSub b z) with q | q
  ·exact (hf b hb).2.1 q
  ·exact (hf b hb).2.2.1 q
 ·rw [hg];exact I.bare
 ·have hl:M.length=σ.length:=B.len.trans I.len.symm
  have hi:i < σ.length:=by
   by_cases hi:i < σ.length
   ·exact hi
   ·rw [BZ (by omega),Cm] at h2
    split at h2<;>cases h2
  rw [Bt hi] at h2;have h1:(M++tgs)[i]?=some x:=h1;rw [Bt (by omega)] at h1;have hmem:x∈M:=Bc h1
  have hx:sc.names.lookup x=some .free:=by
   rcases h3 with q | q | q
   ·rcases fV q with z | z
    ·exact absurd z (B.hid x hmem)
    ·exact absurd z.1 (by decide)
   ·exact hfree x (.inl q)
   ·exact hfree x (.inr q)
  have hNi:X.N[i]?=some x:=by
   have hi2:i < X.N.length:=by rw [<- I.len];exact hi
   have hz:(M.zip X.N)[i]?=some (x,X.N[i]):=by
    rw [CC];exact ⟨h1,AN hi2⟩
   rcases B.same _ (Bc hz) with q | q
   ·have q':x=X.N[i]:=q
    rw [AN hi2,q']
   ·have q':x=("" : Str):=q
    rw [q',B.dummy] at hx;cases hx
  have hk2:=B.free (x,.free) (BQ hx) rfl;obtain ⟨m0,_,hl0⟩:=I.loc;obtain ⟨u,r,l⟩:=hl0 i x v hNi h2 (.inr hk2);refine ⟨u,r,.inr ?_⟩
  rcases l with ⟨k,_⟩ | ⟨_,c,ec,hcell⟩
  ·have k':X.env.kindOf x=some .local:=k
   rcases hk2 with q | q
   ·have q':X.env.kindOf x=some .cell:=q
    rw [k'] at q';cases q'
   ·have q':X.env.kindOf x=some .free:=q
    rw [k'] at q';cases q'
  ·obtain ⟨c',ec'⟩:=n5 (env:=X.env) sc.names [] x (.inl (BQ hx))
   have:c'=c:=by
    have:=hsub x c' ec';rw [ec] at this;exact (Option.some.inj this).symm
   subst this;refine ⟨?_,c',ec',?_⟩
   ·rcases h3 with q | q | q
    ·rcases fV q with z | z
     ·rw [hx] at z;cases z
     ·exact absurd z.1 (by decide)
    ·exact .inl q
    ·exact .inr q
   ·obtain ⟨o,e1,e2⟩:=hcell
    exact ⟨o,hk _ _ e1,e2⟩
 ·obtain ⟨v,o,e1,e2⟩:=I.cell x c (hsub x c e)
  exact ⟨v,o,hk _ _ e1,e2⟩
 ·show (σ++_).length=(M++tgs).length
  rw [A7,A7,BK,B.len,I.len]
def uT(X:Cx)(ifs:List Expr)(t:TT):Prop :=
 ∀ (pins:List (Addr×Obj)) (s:Shared) (σ:St) (H:Hp) (Q:Bool->Hp->Prop),Inv X pins σ H s->t σ H Q ->
  wpAny (model X.prog X.w) X.A (forIn ifs true fun c r=>if r=true then do let ok <- isTrue c X.env (eval c X.env);pure (ForInStep.yield ok) else pure (ForInStep.yield r)) (TP X pins σ Q) X.xe s
def Ao:TT:=fun _ H Q=>Q true H
theorem pif0:uT X [] Ao:=fun pins s σ H Q I h=>wpAny_tests_nil ⟨H,I,h⟩
theorem pif1{c:Expr}{t:TT}(h:PT X c t):uT X [c] t:=fun pins s σ H Q I hw=>wpAny_tests_one (h pins s σ H Q I hw)
theorem nX{prog:Program}{w:World}{A:Around}{R:Result->Shared->Prop}{s:Shared}{elt target iter:Expr}{ifs:List Expr}{scope:Scope}{pos:Pos}{it acc:Value}{env:Env}(I:Nat->Shared->Prop)
 (turn:∀ n s,I n s->wpAny (model prog w) A (pyNext it) (fun r s₁=>match r with
   | none=>R (.ok .next) s₁
   | some v=>wpAny (model prog w) A (letOwnedTupleGo target it v) (fun _ s₁'=>wpAny (model prog w) A (assign target env v) (fun _ s₂ =>
    wpAny (model prog w) A (forIn ifs true fun c r=>if r=true then do let ok <- isTrue c env (eval c env);pure (ForInStep.yield ok) else pure (ForInStep.yield r)) (fun ok s₃ =>
     if ok=true then wpAny (model prog w) A (eval elt env) (fun x s₄ =>
      wpAny (model prog w) A (call (.builtin "list.append") [acc,x]) (fun _ s₅=>∃ m,m < n/\I m s₅) (fun _ _=>False) s₄) (fun _ _=>False) s₃
     else ∃ m,m < n/\I m s₃) (fun _ _=>False) s₂) (fun _ _=>False) s₁') (fun _ _=>False) s₁) (fun _ _=>False) s)
 (n:Nat) (h:I n s) :
 codeAny (model prog w) A (.compLoop (.ListComp elt [⟨target,iter,ifs,0⟩] scope pos) 0 it acc env) R s:=by
 refine codeAny_loop rfl I (fun n s hI=> ?_) n h
 show wpAny _ A ((compTurn (.ListComp elt [⟨target,iter,ifs,0⟩] scope pos) 0 it acc env).onRaise (fun x=>do noteFrame x env;theTreesLotGoes x)) _ _ s
 refine wpAny_noted ?_;rw [compTurn_list];refine AQ (wpAny_standAt (AQ (B9 (turn n s hI) (fun r s₁ h₁=> ?_) fun _ _ z=>z.elim)))
 cases r with
 | none=>exact AX h₁
 | some v =>
  refine AQ (B9 h₁ (fun _ s₁' h₁'=> ?_) fun _ _ z=>z.elim);refine AQ (B9 h₁' (fun _ s₂ h₂=>AQ (B9 h₂ (fun ok s₃ h₃=> ?_) fun _ _ z=>z.elim)) fun _ _ z=>z.elim)
  cases ok with
  | false=>exact AX ⟨rfl,h₃⟩
  | true =>
   exact AQ (AQ (B9 h₃ (fun x s₄ h₄=>AQ (B9 h₄ (fun _ s₅ h₅=>AX (AX ⟨rfl,h₅⟩)) fun _ _ z=>z.elim)) fun _ _ z=>z.elim))
def AM(J:It)(k:Nat)(g:TG)(tt:TT)(te:TE)(σ:St)(Q:VK)(H1:Hp):Prop:=∃ W:Nat->Nat->List V->Hp->Prop,(∃ m,W 0 m [] H1)/\∀ i m ys H,W i m ys H->ys.length<=sizeLine /\
 ((J.stop i H/\∀ l,H l=none->Q (.ref l) (upd H l (.lst ys)))\/(J.go i H/\∀ x H',J.yld i H x H'->g x (σ++List.replicate k none) H' fun σ2 H2=>σ2.take σ.length=σ/\tt σ2 H2 fun b H3 =>
   if b=true then te σ2 H3 fun y H4=>∃ m',m' < m/\W (i+1) m' (ys++[y]) H4 else ∃ m',m' < m/\W (i+1) m' ys H3))
def oP(wi:TI)(k:Nat)(g:TG)(tt:TT)(te:TE):TE:=fun σ H Q=>wi σ H fun J H1=>AM J k g tt te σ Q H1
theorem HOk.track{P:Program}{w:World}{H:Hp}{h:Heap}{a:Addr}{o:HO}(x:HOk P w H h)(hn:H a=none)(new:bf P w (upd H a o) h a o):HOk P w (upd H a o) h:=fun b u e=>by
 by_cases hb:b=a
 ·subst hb
  rw [ao] at e;cases e;exact new
 ·rw [ag hb] at e
  exact (x b u e).stay (fun _ _ _ q=>q) (fun c q=>by rw [ag (ah q hn)];exact q) fun c xs q=>by rw [ag (ah q hn)];exact q
theorem ye{σ σ':St}{k:Nat}(h:σ'.take σ.length=σ):∀ (i:Nat) v,(σ++List.replicate k (none:Option V))[i]?=some (some v)->σ'[i]?=some (some v):=fun i v e=>by
 by_cases hi:i < σ.length
 ·rw [Bt hi,<- h,List.getElem?_take_of_lt hi] at e
  exact e
 ·rw [BZ (by omega),Cm] at e
  split at e<;>cases e
theorem mM{elt tg iter:Expr}{ifs:List Expr}{sc:Scope}{M tgs:List Str}{pos pos':Pos}{wi:TI}{g:TG}{tt:TT}{te:TE}{use:Option (Value->Sem Unit)}{Qf:Value->Shared->Prop}{pins:List (Addr×Obj)}{s:Shared}{σ:St}{H:Hp}{Q:VK}(hc:X.calm=true)(B:lJ X sc M tgs)(hi:PI X tg iter wi)
 (hg:∀ cl C fp s H,PG (blk X sc cl C fp s H (M++tgs)) tg g) (ht:∀ cl C fp s H,uT (blk X sc cl C fp s H (M++tgs)) ifs tt) (he:∀ cl C fp s H,PE (blk X sc cl C fp s H (M++tgs)) elt te)
 (hs:∀ x,foldedSetIterable iter X.env x=pure x) (I:Inv X pins σ H s) (h:oP wi tgs.length g tt te σ H Q)
 (fin:∀ (C D:Addr) (m:Str->Option Value) (s6:Shared) (H':Hp),Inv X pins σ H' s6->s6.heap.Ns C m->H' C=none->X.env.locals < C->X.s₀.heap.objs.size<=C->(∀ x c,X.env.cells.lookup x=some c->c≠C)->(∀ p∈X.pn++pins,p.1≠C)->Q (.ref D) H'->∀ f,compPost (model X.prog X.w) X.A X.xe use Qf (.ref D) C (.ok f) s6) :
 wpAny (model X.prog X.w) X.A (comprehension (.ListComp elt [⟨tg,iter,ifs,0⟩] sc pos) sc X.env pos' (newList []) false (eval iter X.env) use) Qf X.xe s:=by
 have hfr:∀ y∈sc.names,y.2 = .free->∃ c,X.env.cells.lookup y.1=some c:=fun y hy e=>I.ok.has _ (B.free y hy e)
 have hsub:∀ x c,(clF X.env sc.names []).lookup x=some c->X.env.cells.lookup x=some c:=nZ sc.names [] hfr fun _ _ z=>by simp at z
 refine wpAny_comprehension_free (use:=use) rfl hs (rB hfr) B.kind B.names (thn (hi pins s σ H _ I h) fun xv s₁ h₁=>thn h₁ fun itv s₂ h₂=> ?_);obtain ⟨it,fp,tn,J,H2,rfl,I2,T,st2,f2,W,⟨m0,w0⟩,turn⟩:=h₂
 have hfl:∀ b∈fp,b < s₂.heap.objs.size:=fun b hb=>by
  obtain ⟨o,e,_⟩:=T.obj _ _ st2 b hb;exact A5 e
 refine BC (wpAny_newFunctionEnv B.nocell (by intro y hy;simp at hy) (fun h₁ hns₁ hsb₁=> ?_) B.kind);dsimp only at hns₁ hsb₁ ⊢
 generalize hH2:s₂.heap.push { cls:= .type "list",dict:=none,data:= .seq ([]:List Value).toArray }=HH at hns₁ hsb₁ ⊢
 have hC:HH.objs.size=s₂.heap.objs.size+1:=by rw [<- hH2,Bw]
 generalize hCC:HH.objs.size=C at hC hns₁ hsb₁ ⊢
 generalize hDD:s₂.heap.objs.size=D at hC ⊢
 have hDC:D≠C:=by omega
 have below:∀ b,b < D->b≠C/\b≠D:=fun b hb=>⟨by omega,by omega⟩
 have old:∀ b o,s₂.heap.get? b=some o->h₁.get? b=some o:=fun b o e=>hsb₁.extBut b o (below b (hDD ▸ A5 e)).1 (AR _ (hH2 ▸ AR _ e))
 have hacc:h₁.PlainList D #[]:=⟨_,hsb₁.extBut _ _ hDC (AR _ (by rw [<- hH2,<- hDD];exact AZ _ rfl))⟩
 have hCs:s₂.heap.objs.size<=C:=by omega
 generalize hS4:({ s₂ with heap:=h₁,toks:=s₂.toks+([]:List (Str×Value)).length }:Shared)=s₄
 have I4:Inv (blk X sc (clF X.env sc.names []) C fp s₂ H2 (M++tgs)) [] (σ++List.replicate tgs.length none) H2 s₄ :=
  I2.blk B f2 hfl hCs (by rw [<- hS4];exact hns₁) (by rw [<- hS4];exact old) (by rw [<- hS4]) (by rw [<- hS4])
 have hD4:s₄.heap.PlainList D #[]:=by rw [<- hS4];exact hacc
 have st4:tn 0 s₄.heap:=by rw [<- hS4];exact T.keep _ _ _ st2 fun b _ o e=>old b o e
 let X':=blk X sc (clF X.env sc.names []) C fp s₂ H2 (M++tgs)
 have nfs:∀ b,s₂.heap.objs.size<=b->b∉frs X.stack:=fun b hb z=>by
  rcases A9.mp (I2.stkSub b z) with q | q
  ·rw [q] at hb;exact absurd I2.lt (Nat.not_lt.mpr hb)
  ·exact I2.nofs hb q
 have Dpin:∀ {s':Shared} {H':Hp} {its:Array Value} {n:Nat},s'.heap.get? D=some { cls:= .type "list",data:= .seq its n }->H' D=none ->
  ∀ p∈[(D,({ cls:= .type "list",data:= .seq its n }:Obj))],s'.heap.get? p.1=some p.2/\H' p.1=none/\p.1≠X'.env.locals/\p.1∉X'.fs/\∀ v,p.2.data ≠ .cell v:=fun {s' H' its n} e hn p hp=>by
  have e1:p=(D,({ cls:= .type "list",data:= .seq its n }:Obj)):=by simpa using hp
  subst e1;exact ⟨e,hn,hDC,nfs D (by omega),fun v z=>by cases z⟩
 have fpk:∀ {pl:List (Addr×Obj)} {H':Hp},(∀ p∈pl,p.1=D)->(∀ b∈fp,H' b=none)->∀ b∈fp,qv X' pl H' b:=fun {pl H'} hpl hn b hb=>by
  refine ⟨hn b hb,(below b (hDD ▸ hfl b hb)).1,fun z=> ?_,.inl hb,fun x c e=>(f2 b hb).2.2.2.2.1 x c (hsub x c e),fun p hp=> ?_⟩
  ·rcases A9.mp (I2.stkSub b z) with q | q
   ·exact (f2 b hb).2.1 q
   ·exact (f2 b hb).2.2.1 q
  ·have hp':p∈pl:=by simpa [X',blk] using hp
   rw [hpl p hp'];exact Ne.symm (below b (hDD ▸ hfl b hb)).2
 have cellD:∀ x c,X'.env.cells.lookup x=some c->c≠D:=fun x c e z=>by
  obtain ⟨v,q⟩:=I2.cell x c (hsub x c e);have q:=q.lt;rw [z,hDD] at q;exact CN _ q
 have zo:codeAny (model X.prog X.w) X.A (.compLoop (.ListComp elt [⟨tg,iter,ifs,0⟩] sc pos) 0 (.ref it) (.ref D) (compEnvC sc (clF X.env sc.names []) C X.env))
  (compPost (model X.prog X.w) X.A X.xe use Qf (.ref D) C) s₄:=by
  refine nX (fun n s'=>∃ i ys its k H',Inv X' [(D,{ cls:= .type "list",data:= .seq its k })] (σ++List.replicate tgs.length none) H' s'/\ar ys its.toList/\tn i s'.heap/\(∀ b∈fp,H' b=none)/\W i n ys H') ?_ m0 ?_
  ·rintro n s5 ⟨i,ys,its,k,H5,I5,hv,st5,fr5,w5⟩
   obtain ⟨hz,w5⟩:=turn i n ys H5 w5;have hD5:=I5.pin (D,{ cls:= .type "list",data:= .seq its k }) (AT _ (by simp))
   have one:∀ p∈[(D,({ cls:= .type "list",data:= .seq its k }:Obj))],p.1=D:=fun p hp=>by
    have:p=(D,({ cls:= .type "list",data:= .seq its k }:Obj)):=by simpa using hp
    rw [this]
   rcases w5 with ⟨stop,qn⟩ | ⟨go,step⟩
   ·refine thn (T.done X' rfl rfl rfl hc i _ s5 _ H5 _ I5 (fpk one fr5) st5 stop) fun r s6 ⟨hr,I6⟩=> ?_
    subst hr;obtain ⟨m6,hn6,_⟩:=I6.loc;have hn6:s6.heap.Ns C m6:=hn6;obtain ⟨e6,n6,_⟩:=I6.pin (D,{ cls:= .type "list",data:= .seq its k }) (AT _ (by simp));have hC6:H5 C=none:=I6.free;have hln:ys.length<=sizeLine:=hz;have ok8:HOk X.prog X.w (upd H5 D (.lst ys)) s6.heap:=I6.hok.track n6 ⟨hln,its.toList,k,hv,by simpa using e6⟩;have un:Un (frs X.stack) fp H2 H5 s₂.heap s6.heap:=I6.base
    have neC:∀ b o,s₂.heap.get? b=some o->b≠C/\b≠D:=fun b o e=>below b (hDD ▸ A5 e)
    have un7:Un (frs X.stack) fp H2 (upd H5 D (.lst ys)) s₂.heap s6.heap:=by
     refine ⟨un.keep,un.slot,fun b o e n hx=> ?_,un.there,fun b xs e=> ?_,fun b o u e=> ?_,fun b ps e=> ?_⟩
     ·rw [ag (neC b o e).2];exact un.free b o e n hx
     ·have q:=un.tups b xs e
      rw [ag (ah q n6)];exact q
     ·have q:=un.frzs b o u e
      rw [ag (ah q n6)];exact q
     ·obtain ⟨more,q⟩:=un.tbls b ps e
      exact ⟨more,by rw [ag (ah q n6)];exact q⟩
    have I8:Inv X pins σ (upd H5 D (.lst ys)) s6:=I2.call' (ch:=fp) I6.os un7 ok8 I6.bare (fun b hb=>⟨(f2 b hb).2.2.2.1,(f2 b hb).2.1,(f2 b hb).2.2.2.2.1,(f2 b hb).2.2.2.2.2⟩);have hLC:X.env.locals < C:=Bq I2.lt hCs
    have hcC:∀ x c,X.env.cells.lookup x=some c->c≠C:=fun x c e z=>by
     obtain ⟨v,q⟩:=I2.cell x c e;have q:=q.lt;rw [z] at q;exact absurd q (Nat.not_lt.mpr hCs)
    exact fin C D m6 s6 _ I8 hn6 (by rw [ag (Ne.symm hDC)];exact hC6) hLC (B5 I2.sz hCs) hcC (fun p hp z=>by
     have:=A5 (I2.pin p hp).1;rw [z] at this
     exact absurd this (Nat.not_lt.mpr hCs)) (qn D n6) _
   ·refine thn (T.item X' rfl rfl rfl hc i _ s5 _ H5 _ I5 (fpk one fr5) st5 go) fun r s6 ⟨u,hr,h6⟩=> ?_
    subst hr
    refine thn h6 fun _ s7 ⟨x,H7,I7,r7,y7,st7,fr7⟩=> ?_
    have I7':=I7.pinned (fpk one fr7) (T.obj _ _ st7)
    refine thn (hg _ _ _ _ _ _ s7 _ H7 x u _ I7' r7 (step x H7 y7)) fun _ s8 ⟨σ8,H8,I8,tk8,q8⟩=> ?_
    refine thn (ht _ _ _ _ _ _ s8 σ8 H8 _ I8 q8) fun b s9 ⟨H9,I9,q9⟩=> ?_
    have weak:∀ {pl:List (Addr×Obj)} {H':Hp} {s':Shared},Inv X' pl σ8 H' s'->Inv X' pl (σ++List.replicate tgs.length none) H' s':=fun {pl H' s'} J=>J.weak (by
     have e1:σ8.length=(M++tgs).length:=J.len
     rw [e1,A7,A7,BK,B.len,I2.len]) (ye tk8)
    have fin:∀ {H':Hp} {s':Shared},Inv X' ([(D,{ cls:= .type "list",data:= .seq its k })]++kJ fp s7.heap) σ8 H' s'->tn (i+1) s'.heap/\∀ b∈fp,H' b=none:=fun {H' s'} J=>by
     refine ⟨T.keep _ _ _ st7 fun b hb o e=>(J.pin (b,o) (AT _ (AT _ (eZ hb e)))).1,fun b hb=> ?_⟩;obtain ⟨o,e,d⟩:=T.obj _ _ st7 b hb;exact (J.pin (b,o) (AT _ (AT _ (eZ hb e)))).2.1
    cases b with
    | false =>
     rw [if_neg Bj] at q9 ⊢;obtain ⟨m',hm,w9⟩:=q9;exact ⟨m',hm,i+1,ys,its,k,H9,weak I9.unpinned,hv,(fin I9).1,(fin I9).2,w9⟩
    | true =>
     rw [if_pos rfl] at q9 ⊢
     refine thn (he _ _ _ _ _ _ s9 σ8 H9 _ I9 q9) fun y s10 ⟨yv,H10,I10,r10,q10⟩=> ?_
     obtain ⟨m',hm,w10⟩:=q10;obtain ⟨e10,n10,_⟩:=I10.pin (D,{ cls:= .type "list",data:= .seq its k }) (AT _ (AU _ (by simp)))
     have hsz:its.size<=sizeLine:=by
      have e1:=hv.length
      have e2:its.toList.length=its.size:=by simp
      omega
     refine wpAny_list_append_plain (hsz:=hsz) ⟨k,e10⟩ fun h11 hl11 hs11=> ?_
     obtain ⟨k',e11⟩:=hl11
     have J0:Inv X' [] σ8 H10 s10:=I10.pins_of fun p hp=>by simp at hp
     have J1:Inv X' [] σ8 H10 { s10 with heap:=h11 }:=J0.turned (t':=s10.toks) (it:=D) (fun b o hb e=>(hs11.2 b hb).trans e) n10 hDC (.inr (by show s₂.heap.objs.size<=D;omega)) cellD (fun p hp=>by
      have hp':p∈([]:List (Addr×Obj)):=by simpa [X',blk] using hp
      simp at hp')
     have J2:Inv X' [(D,{ cls:= .type "list",data:= .seq (its.push y) k' })] σ8 H10 { s10 with heap:=h11 }:=J1.pins_of (Dpin e11 n10);refine ⟨m',hm,i+1,ys++[yv],its.push y,k',H10,weak J2,?_,?_,(fin I10).2,w10⟩
     ·rw [Array.toList_push]
      exact hv.append (.cons r10 .nil)
     ·refine T.keep _ _ _ (fin I10).1 fun b hb o e=>(hs11.2 b ?_).trans e
      exact (below b (hDD ▸ hfl b hb)).2
  ·obtain ⟨k,e⟩:=hD4
   exact ⟨0,[],#[],k,H2,I4.pins_of (Dpin e (I2.hok.fresh (by omega))),.nil,st4,fun b hb=>(f2 b hb).1,w0⟩
 exact codeAny_compStart_list zo (T.self _ _ _ _ _ st4 zo)
theorem yR{elt tg iter:Expr}{ifs:List Expr}{sc:Scope}{M tgs:List Str}{pos:Pos}{wi:TI}{g:TG}{tt:TT}{te:TE}(hc:X.calm=true)(B:lJ X sc M tgs)(hi:PI X tg iter wi)
 (hg:∀ cl C fp s H,PG (blk X sc cl C fp s H (M++tgs)) tg g) (ht:∀ cl C fp s H,uT (blk X sc cl C fp s H (M++tgs)) ifs tt) (he:∀ cl C fp s H,PE (blk X sc cl C fp s H (M++tgs)) elt te)
 (hs:∀ x,foldedSetIterable iter X.env x=pure x:=by intro _;rfl):PE X (.ListComp elt [⟨tg,iter,ifs,0⟩] sc pos) (oP wi tgs.length g tt te):=by
 intro pins s σ H Q I h;rw [eval_ListComp]
 exact mM hc B hi hg ht he hs I h fun C D m s6 H' I8 hn hC hLC hsz hcC hp q f=>⟨m,hn,fun h' hs'=>⟨.ref D,H',I8.turned (t':=s6.toks) (it:=C) (fun b o hb e=>(hs'.2 b hb).trans e) hC (Ck hLC) (.inr hsz) hcC hp,rfl,q⟩⟩
end
end L2
namespace HT
open PySem PySem.Spec PyProof.Rows PySem.SeqAt
section
open PySem.SeqAt
open PySem.AutoSeq1 (wpAny_loadPart')
open PySem.MeetsSeq PySem.MeetsSeq2 PySem.MeetsSeq3
end
section
variable{prog:Program}{w:World}{A:Around}{E:Value->Shared->Prop}{s:Shared}
end
end HT
namespace L2
open PySem PySem.Spec PyProof.Rows
section
variable{X:Cx}
def AE(K:Df)(H:Hp)(T:String):V->Prop
 | .non=>T = "NoneType"
 | .bl _=>T = "bool"
 | .int _=>T = "int"
 | .str _=>T = "str"
 | .ref p=>(T = "list" /\ ∃ xs,SqL K H p xs)\/(T = "tuple" /\ ∃ xs,SqT K H p xs)\/(T = "dict" /\ ((∃ kvs,H p=some (.dK kvs))\/∃ kvs,H p=some (.dT kvs)))
 | _=>False
def zv(T C:String):Bool:=T == C||(T == "bool" && C == "int")
def isiC(C:String):Prop:=C = "int" \/ C = "bool" \/ C = "tuple" \/ C = "list" \/ C = "str"
def rIsi(K:Df):List V->Hp->VK->Prop:=fun xs H Q=>∃ x T C,xs=[x,.ty C]/\isiC C/\AE K H T x/\Q (.bl (zv T C)) H
theorem xE:aw X (.builtin "isinstance") (rIsi X.K):=by
 intro pins s σ H xs us Q I r h;obtain ⟨x,T,C,rfl,hC,hk,q⟩:=h;obtain ⟨u,w',rfl,rx,rc⟩:=oF r;cases rc
 have fin:∀ (b:Bool) (t:Nat),b=zv T C->EP X pins σ Q (.bool b) { s with toks:=t }:=fun b t e=>⟨.bl b,H,I.tok t,rfl,by rw [e];exact q⟩
 have fin0:∀ (b:Bool),b=zv T C->EP X pins σ Q (.bool b) s:=fun b e=>⟨.bl b,H,I,rfl,by rw [e];exact q⟩
 cases x with
 | non =>
  cases rx;cases (show T = "NoneType" from hk)
  rcases hC with rfl | rfl | rfl | rfl | rfl
  ·exact IsiPair.NoneType_int (fin _ _ rfl)
  ·exact IsiPair.NoneType_bool (fin _ _ rfl)
  ·exact IsiPair.NoneType_tuple (fin _ _ rfl)
  ·exact IsiPair.NoneType_list (fin _ _ rfl)
  ·exact IsiPair.NoneType_str (fin _ _ rfl)
 | bl b =>
  cases rx;cases (show T = "bool" from hk)
  rcases hC with rfl | rfl | rfl | rfl | rfl
  ·exact IsiPair.bool_int (fin0 _ rfl)
  ·exact IsiPair.bool_bool (fin0 _ rfl)
  ·exact IsiPair.bool_tuple (fin _ _ rfl)
  ·exact IsiPair.bool_list (fin _ _ rfl)
  ·exact IsiPair.bool_str (fin _ _ rfl)
 | int i =>
  obtain ⟨t,rfl⟩:=rx;cases (show T = "int" from hk)
  rcases hC with rfl | rfl | rfl | rfl | rfl
  ·exact IsiPair.int_int (fin0 _ rfl)
  ·exact IsiPair.int_bool (fin _ _ rfl)
  ·exact IsiPair.int_tuple (fin _ _ rfl)
  ·exact IsiPair.int_list (fin _ _ rfl)
  ·exact IsiPair.int_str (fin _ _ rfl)
 | str z =>
  obtain ⟨t,rfl⟩:=rx;cases (show T = "str" from hk)
  rcases hC with rfl | rfl | rfl | rfl | rfl
  ·exact IsiPair.str_int (fin _ _ rfl)
  ·exact IsiPair.str_bool (fin _ _ rfl)
  ·exact IsiPair.str_tuple (fin _ _ rfl)
  ·exact IsiPair.str_list (fin _ _ rfl)
  ·exact IsiPair.str_str (fin0 _ rfl)
 | ref p =>
  cases rx
  rcases hk with ⟨rfl,xs,hq⟩ | ⟨rfl,xs,hq⟩ | ⟨rfl,hk⟩
  ·obtain ⟨its,_,pl,_⟩:=I.list hq
   obtain ⟨o,n,e,c,hd,_⟩:=pl
   rcases hC with rfl | rfl | rfl | rfl | rfl
   ·exact IsiPair.list_int e c (fin _ _ rfl)
   ·exact IsiPair.list_bool e c (fin _ _ rfl)
   ·exact IsiPair.list_tuple e c (fin _ _ rfl)
   ·exact IsiPair.list_list e c (fin0 _ rfl)
   ·exact IsiPair.list_str e c (fin _ _ rfl)
  ·obtain ⟨its,_,⟨o,e,c,_⟩,_⟩:=I.tuple hq
   rcases hC with rfl | rfl | rfl | rfl | rfl
   ·exact IsiPair.tuple_int e c (fin _ _ rfl)
   ·exact IsiPair.tuple_bool e c (fin _ _ rfl)
   ·exact IsiPair.tuple_tuple e c (fin0 _ rfl)
   ·exact IsiPair.tuple_list e c (fin _ _ rfl)
   ·exact IsiPair.tuple_str e c (fin _ _ rfl)
  ·have z:∃ o,s.heap.get? p=some o/\o.cls = .type "dict" := by
    rcases hk with ⟨kvs,hk⟩ | ⟨kvs,hk⟩
    ·obtain ⟨_,_,_,_,o,_,_,e,ex,_⟩:=I.hok p _ hk
     exact ⟨o,e,ex.1⟩
    ·obtain ⟨_,_,_,_,o,_,_,e,ex,_⟩:=I.hok p _ hk
     exact ⟨o,e,ex.1⟩
   obtain ⟨o,e,c⟩:=z
   rcases hC with rfl | rfl | rfl | rfl | rfl
   ·exact IsiPair.dict_int e c (fin _ _ rfl)
   ·exact IsiPair.dict_bool e c (fin _ _ rfl)
   ·exact IsiPair.dict_tuple e c (fin _ _ rfl)
   ·exact IsiPair.dict_list e c (fin _ _ rfl)
   ·exact IsiPair.dict_str e c (fin _ _ rfl)
 | _=>exact False.elim hk
end
end L2
namespace RawD
open PySem PySem.Spec PyProof.Rows PySem.W
def At(h:Heap)(d:Addr)(es:Array DictEntry)(ep:Nat):Prop:=∃ o,h.get? d=some o/\o.ExactDict/\o.data = .dict es ep
theorem At.keep{h h':Heap}{d:Addr}{es:Array DictEntry}{ep:Nat}(x:At h d es ep)(k:∀ o,h.get? d=some o->h'.get? d=some o):At h' d es ep:=let ⟨o,a,r⟩:=x;⟨o,k o a,r⟩
theorem At.ty{s:Shared}{d:Addr}{es:Array DictEntry}{ep:Nat}(x:At s.heap d es ep):s.TypeIs (.ref d) "dict" := let ⟨o,a,b,_⟩:=x;⟨o,a,b.1⟩
theorem At.lt{h:Heap}{d:Addr}{es:Array DictEntry}{ep:Nat}(x:At h d es ep):d < h.objs.size:=let ⟨_,a,_⟩:=x;A5 a
section
variable{prog:Program}{w:World}{A:Around}{E:Value->Shared->Prop}{s:Shared}{d it:Addr}{es:Array DictEntry}{ep i:Nat}
theorem iter{Q:Value->Shared->Prop}(lo:(d == sysModules)=false)(x:At s.heap d es ep)
 (q:Q (.ref s.heap.objs.size) { s with heap:=s.heap.push { cls:= .type "dict_keyiterator",data:= .fields #[.ref d,.int 0 0,.int es.size 0,.int ep 0] } }) :
 wpAny (model prog w) A (pyIter (.ref d)) Q E s:=by
 have ty:=x.ty;obtain ⟨o,a1,a2,a3⟩:=x;refine wpAny_pyIter_slot ty F.slot_dict_iter (BF F.slot_dict_iter ty F.entry_dict_iter ?_ (F.args_dict_iter_1 _));unfold Builtin.«dict.__iter__»;refine AQ ?_;unfold Builtin.Dict.dictSlotNone;refine AQ (wpAny_notOrdered_dict ty ?_)
 show wpAny _ _ (pure (Value.ref d)) _ _ s
 refine AX ?_
 show wpAny _ _ (Builtin.Dict.showsAll d >>= _) _ _ s
 unfold Builtin.Dict.showsAll;rw [if_neg (by rw [lo];exact Bj)];refine AQ (AX ?_);refine AQ (wpAny_dictEntries a1 a3 (AQ (wpAny_dictEpoch a1 a3 ?_)));exact AQ (BC (AX ⟨_,rfl, "dict_keyiterator",_,⟨_,AZ _ rfl,rfl⟩,F.slot_dict_keyiterator_next.lookup,q⟩))
theorem item{Q:Option Value->Shared->Prop}(hit:s.heap.IsKeyIter it d i es.size ep)(x:At s.heap d es ep)(hi:i < es.size)
 (q:∀ h',h'.IsKeyIter it d (i+1) es.size ep->Heap.SameBut it s.heap h'->Q (some es[i].key) { s with heap:=h' }):wpAny (model prog w) A (pyNext (.ref it)) Q E s:=by
 obtain ⟨oi,b1,b2,b3⟩:=id hit;obtain ⟨o,a1,a2,a3⟩:=x;unfold pyNext
 refine AQ (wpAny_attempt (By (name:=Str.ofString "__next__") hit.typeIs F.slot_dict_keyiterator_next
  (BF F.slot_dict_keyiterator_next hit.typeIs F.entry_dict_keyiterator_next ?_ (F.args_dict_keyiterator_next_1 _))))
 refine AQ (AX (AQ (AQ ?_)))
 first | refine AQ (Co hit.typeIs (AX ?_)) | refine AQ (CJ hit.typeIs (AX ?_))
 refine AQ (wpAny_fieldsOf b1 b3 ?_)
 have no:Builtin.Dict_items.ownsTuple "dict_keyiterator" = false:=by decide
 simp only [no,CU,if_false]
 show wpAny _ _ (if (Value.ref d == Value.none)=true then _ else _) _ _ s
 rw [if_neg (show ¬ ((Value.ref d == Value.none)=true) from Bj)];refine AQ (AX (AQ (wpAny_dictEntries a1 a3 ?_)));rw [if_neg (by simp)];refine AQ (AX (AQ (wpAny_dictEpoch a1 a3 ?_)));rw [if_neg (by simp)];refine AX ?_;simp only [show ¬ ((i:Int) < 0) from by omega,if_false,CZ,Cf hi];refine AQ ?_
 first | refine AQ (Co hit.typeIs (AX ?_)) | refine AQ (CJ hit.typeIs (AX ?_))
 refine AQ (wpAny_isOneOf_keyiter hit.typeIs ?_)
 show wpAny _ _ (setField (.ref it) 1 (rawInt ((i:Int)+1)) >>= _) _ _ s
 refine AQ (Cd b1 b3 (by simp) ?_)
 have on:(s.heap.update it (Obj.mapFields (·.setIfInBounds 1 (rawInt ((i:Int)+1))))).IsKeyIter it d (i+1) es.size ep :=
  ⟨_,BS _ b1 (Obj.isFreed_of_fields (Db b3 _)),(Obj.cls_mapFields ..).trans b2,by rw [Db b3];simp [rawInt]⟩
 refine AQ (Ca (AQ (wpAny_isOneOf_keyiter (s:={ s with heap:=s.heap.update it (Obj.mapFields (·.setIfInBounds 1 (rawInt ((i:Int)+1)))) }) on.typeIs ?_)))
 show wpAny _ _ (pure es[i].key) _ _ _
 exact AX (AX ⟨_,rfl,AX (q _ on (Heap.SameBut.update ..))⟩)
theorem stop{Q:Option Value->Shared->Prop}(hh:A.handled=none)(hit:s.heap.IsKeyIter it d i es.size ep)(x:At s.heap d es ep)(hi:es.size<=i)
 (q:∀ h',Heap.ExtBut it s.heap h'->Q none { s with heap:=h' }):wpAny (model prog w) A (pyNext (.ref it)) Q E s:=by
 obtain ⟨oi,b1,b2,b3⟩:=id hit;obtain ⟨o,a1,a2,a3⟩:=x;unfold pyNext
 refine AQ (wpAny_attempt (By (name:=Str.ofString "__next__") hit.typeIs F.slot_dict_keyiterator_next
  (BF F.slot_dict_keyiterator_next hit.typeIs F.entry_dict_keyiterator_next ?_ (F.args_dict_keyiterator_next_1 _))))
 refine AQ (AX (AQ (AQ ?_)))
 first | refine AQ (Co hit.typeIs (AX ?_)) | refine AQ (CJ hit.typeIs (AX ?_))
 refine AQ (wpAny_fieldsOf b1 b3 ?_)
 have no:Builtin.Dict_items.ownsTuple "dict_keyiterator" = false:=by decide
 simp only [no,CU,if_false]
 show wpAny _ _ (if (Value.ref d == Value.none)=true then _ else _) _ _ s
 rw [if_neg (show ¬ ((Value.ref d == Value.none)=true) from Bj)];refine AQ (AX (AQ (wpAny_dictEntries a1 a3 ?_)));rw [if_neg (by simp)];refine AQ (AX (AQ (wpAny_dictEpoch a1 a3 ?_)));rw [if_neg (by simp)];refine AX ?_;simp only [show ¬ ((i:Int) < 0) from by omega,if_false,CZ,Array.getElem?_eq_none hi];refine AQ ?_
 first | refine AQ (Co hit.typeIs (AX ?_)) | refine AQ (CJ hit.typeIs (AX ?_))
 show wpAny _ _ (setField (.ref it) 0 .none >>= _) _ _ s
 refine AQ (Cd b1 b3 (by simp) ?_)
 show wpAny _ _ (newExc (.type "StopIteration") [] >>= _) _ _ _
 refine AQ ?_;simp only [newExc,newTuple];refine AQ (BC ?_ (by size_fits));refine AQ (m:=firstArgMember _ _) (wpAny_of_eq (a:=Value.none) (by first | rfl | (simp only [firstArgMember];rfl)) ?_);refine BC ?_ (by size_fits);simp only [raiseNew];refine AQ (wpAny_handled ?_);rw [show A.in1.handled=none from hh];refine AQ (AX (wpAny_throw ?_));refine AQ (wpAny_isInstance (T := "StopIteration") (b:=true) ⟨_,AZ _ rfl,rfl⟩ isSubtype_stop ?_);exact AX (q _ (((Heap.SameBut.update ..).extBut.push _).push _))
theorem walks(hh:A.handled=none)(I d:Addr)(hne:d≠I)(es:Array DictEntry)(ep:Nat) :
 Walks prog w A I [I,d] [I] es.size (fun i v=>∃ h:i < es.size,v=es[i].key) (fun i h=>h.IsKeyIter I d i es.size ep/\At h d es ep) where
 sub:=fun b hb=>by simp at hb;simp [hb]
 frame:=fun _ _ _ st hk=>⟨st.1.at fun o e=>hk I (by simp) o e,st.2.keep fun o e=>hk d (by simp) o e⟩
 item:=fun i s Q E hi st hQ=>item st.1 st.2 hi fun h' a b=>hQ _ h' s.toks ⟨hi,rfl⟩ ⟨a,st.2.keep fun o e=>b.extBut d o hne e⟩ fun b' o hb e=>b.extBut b' o (fun h=>hb (by simp [h])) e
 done:=fun s Q E st hQ=>stop hh st.1 st.2 (A8 _) fun h' he'=>hQ h' s.toks fun b o hb e=>he' b o (fun h=>hb (by simp [h])) e
 self:=fun _ _ _ _ st hQ=>wpAny_pyIter_keyiter st.1 hQ
theorem src(lo:(d == sysModules)=false):KdlSrc prog w "dict" d d es.size (fun i v=>∃ h:i < es.size,v=es[i].key) (fun h=>At h d es ep) where
 type:=fun _ x=>x.ty
 there:=fun _ x=>⟨x.lt,x.lt⟩
 keep:=fun _ _ x hk=>x.keep fun o e=>hk d (.inl rfl) o e
 notList:=by decide
 notTuple:=by decide
 hint:=fun _ _ _ _ x q=>kdl_hint_dict x.ty q
 iter:=fun _ _ hh x=>⟨_,_,(fun _ _ q=>iter lo x q),walks hh _ d (Bi x.lt) es ep,⟨⟨_,AZ _ rfl,rfl,rfl⟩,x.keep fun _ e=>AR _ e⟩⟩
end
end RawD
namespace RawD
open PySem PySem.Spec PyProof.Rows PySem.W
section
variable{prog:Program}{w:World}{A:Around}{E:Value->Shared->Prop}{s:Shared}{d:Addr}{es:Array DictEntry}{ep:Nat}
theorem tT(lo:(d == sysModules)=false) :
 MeetsIn prog w (Builtin.«dict.__len__» ⟨[.ref d],[]⟩) (fun _ R s=>∃ es ep,At s.heap d es ep/\R (.ok (.ret (.int es.size s.toks))) { s with toks:=s.toks+1 }) :=
 .of_wp fun A R s hZ=>by
  obtain ⟨es,ep,x,h⟩:=hZ;obtain ⟨o,a1,a2,a3⟩:=x
  show wpAny _ _ (dictSize d >>= _) _ _ s
  unfold dictSize;refine AQ (AQ (wpAny_dictEntries a1 a3 (AX ?_)))
  show wpAny _ _ (Builtin.Dict.pendingCount d >>= _) _ _ s
  refine AQ (wpAny_pendingCount_other lo (wpAny_ret_mkInt ?_));rw [Nat.add_zero];exact h
theorem len{Q:Value->Shared->Prop}(lo:(d == sysModules)=false)(x:At s.heap d es ep)(fit:(es.size:Int) < 2 ^ 63)
 (h:Q (.int es.size (s.toks+1)) { s with toks:=s.toks+1+1 }):wpAny (model prog w) A (call (.builtin "len") [.ref d]) Q E s:=by
 refine Calls.call_function_entry kind_len plain_len entry_len (args_len1 _) ?_;unfold Builtin.«len»;refine AQ (m:=oneArg "len" _) (AX ?_)
 refine AQ (m:=callSpecial? (.ref d) (Str.ofString "__len__")) (By (name:=Str.ofString "__len__") x.ty F.slot_dict_len
  (call_meetsIn F.slot_dict_len x.ty F.entry_dict_len (F.args_dict_len_1 _) (tT lo) ⟨es,ep,x,?_⟩))
 show wpAny _ _ _ _ _ { s with toks:=s.toks+1 }
 refine AQ (Ca (AX (AQ (wpAny_letGo ?_))))
 show wpAny _ _ (if ((es.size:Nat):Int) < 0 then _ else _) _ _ _
 rw [if_neg (by omega)]
 show wpAny _ _ (if ((es.size:Nat):Int)>=2 ^ 63 then _ else _) _ _ _
 rw [if_neg (by omega)];exact AQ (wpAny_mkInt (AX ⟨_,rfl,h⟩))
end
end RawD
namespace L2
open PySem PySem.Spec PyProof.Rows
section
variable{X:Cx}
theorem qE{P:Program}{w:World}{H:Hp}{h:Heap}{a:Addr}{kvs:List (List Key×V)}(ok:HOk P w H h)(e:H a=some (.dT kvs)) :
 kvs.length<=sizeLine/\(a == sysModules)=false/\(kvs.map (·.1)).Nodup/\∃ es ep,RawD.At h a es ep/\es.size=kvs.length/\∀ i (hi:i < es.size),∃ b k v,es[i].key = .ref b/\kvs[i]?=some (k,v)/\H b=some (.tup (k.map kV)):=by
 obtain ⟨z,y,xs,r,o,es,ep,h1,h2,h3,h4,h5⟩:=(show bf P w H h a (.dT kvs) from ok a _ e);have hl:=r.length
 have hl2:es.size=xs.length:=by
  have:=congrArg List.length h4;simpa using this
 have keys:∀ {l:List (List Key×V)} {m:List (List Key×Addr×Value)},
  Paired (fun (p:List Key×V) (q:List Key×Addr×Value)=>p.1=q.1/\H q.2.1=some (.tup (p.1.map kV))/\aB p.2 q.2.2) l m->l.map (·.1)=m.map (·.1):=by
  intro l m pr
  induction pr with
  | nil=>rfl
  | cons hd _ ih=>rw [A4,A4,ih,hd.1]
 refine ⟨z,y,by rw [keys r];exact h5,es,ep,⟨o,h1,h2,h3⟩,hl2.trans hl.symm,fun i hi=> ?_⟩
 have hx:i < xs.length:=by omega
 have get:∀ {l:List (List Key×V)} {m:List (List Key×Addr×Value)} {i:Nat} {q:List Key×Addr×Value},
  Paired (fun (p:List Key×V) (q:List Key×Addr×Value)=>p.1=q.1/\H q.2.1=some (.tup (p.1.map kV))/\aB p.2 q.2.2) l m->m[i]?=some q->∃ p,l[i]?=some p/\p.1=q.1/\H q.2.1=some (.tup (p.1.map kV)):=by
  intro l m i q pr
  induction pr generalizing i with
  | nil=>intro e;simp at e
  | cons hd _ ih =>
   intro e
   cases i with
   | zero=>simp at e;subst e;exact ⟨_,rfl,hd.1,hd.2.1⟩
   | succ i=>simp at e;exact ih e
 obtain ⟨p,e1,_,e2⟩:=get (i:=i) r (AN hx);refine ⟨xs[i].2.1,p.1,p.2,?_,e1,e2⟩
 have:es[i]=entryOfKey (tupleKind (bj P w)) xs[i]:=by
  have q:es.toList[i]?=some (entryOfKey (tupleKind (bj P w)) xs[i]):=by rw [h4];simp [hx]
  rw [B8,Cf hi] at q;exact Option.some.inj q
 rw [this];rfl
theorem uG:aw X (.builtin "len") (fun xs H Q=>∃ a kvs,xs=[V.ref a]/\H a=some (.dT kvs)/\Q (.int kvs.length) H):=by
 intro pins s σ H xs us Q I r h;obtain ⟨a,kvs,rfl,ha,q⟩:=h;obtain ⟨u,rfl,ru⟩:=bn r;cases ru;obtain ⟨z,lo,_,es,ep,x,hl,_⟩:=qE I.hok ha;exact RawD.len lo x (by rw [hl];rw [sizeLine_eq] at z;omega) ⟨.int kvs.length,H,I.tok _,⟨_,by rw [hl]⟩,q⟩
theorem rH(hc:X.calm=true):aw X (.type "list") (fun xs H Q=>∃ a kvs,xs=[V.ref a]/\H a=some (.dT kvs) /\
 ∀ l bs,H l=none->(kvs.map (·.1)).Nodup->bs.length=kvs.length->(∀ (i:Nat) k v,kvs[i]?=some (k,v)->∃ b,bs[i]?=some (V.ref b)/\H b=some (.tup (k.map kV)))->Q (.ref l) (upd H l (.lst bs))):=by
 intro pins s σ H xs us Q I r h;obtain ⟨a,kvs,rfl,ha,q⟩:=h;obtain ⟨u,rfl,ru⟩:=bn r;cases ru;obtain ⟨z,lo,nd,es,ep,x,hl,hk⟩:=qE I.hok ha
 refine PySem.W.kdl_call (RawD.src (ep:=ep) (es:=es) lo) (I.ok.hd hc) x (by rw [hl];exact z) fun h' tk acc c keep hD hacc=> ?_
 have hf:H s.heap.objs.size=none:=I.hok.fresh (A8 _);have hlen:acc.size=es.size:=hacc.1
 let bs:List V:=acc.toList.map fun u=>match u with | .ref b=>V.ref b | _=>V.non
 have key:∀ i (hi:i < acc.size),∃ b k v,acc[i] = .ref b/\kvs[i]?=some (k,v)/\H b=some (.tup (k.map kV)):=fun i hi=>by
  obtain ⟨hi',e⟩:=hacc.2 i acc[i] (by simp [hi]);obtain ⟨b,k,v,e1,e2,e3⟩:=hk i hi';exact ⟨b,k,v,e.trans e1,e2,e3⟩
 have hv:ar bs acc.toList:=by
  have gen:∀ (l:List Value),(∀ u∈l,∃ b,u = .ref b)->ar (l.map fun u=>match u with | .ref b=>V.ref b | _=>V.non) l:=by
   intro l
   induction l with
   | nil=>intro _;exact .nil
   | cons u l ih =>
    intro h;obtain ⟨b,rfl⟩:=h u AY;exact .cons rfl (ih fun v hv=>h v (AV _ hv))
  refine gen acc.toList fun u hu=> ?_
  obtain ⟨i,hi,e⟩:=Cg.mp hu
  have hi':i < acc.size:=by simpa using hi
  obtain ⟨b,k,v,e1,_⟩:=key i hi';exact ⟨b,by rw [<- e];simpa using e1⟩
 have hbl:bs.length=kvs.length:=by
  show (acc.toList.map _).length=_
  rw [AO,BL,hlen,hl]
 refine ⟨.ref s.heap.objs.size,upd H s.heap.objs.size (.lst bs),?_,rfl,q _ bs hf nd hbl fun i k v e=> ?_⟩
 ·exact I.laid (t':=tk) keep (A8 _) ⟨by rw [hbl];exact z,acc.toList,c,hv,by simpa using hD⟩
 ·have hi:i < acc.size:=by
   have:=(Be.mp e).1;omega
  obtain ⟨b,k',v',e1,e2,e3⟩:=key i hi;rw [e] at e2;cases e2;refine ⟨b,?_,e3⟩
  show (acc.toList.map _)[i]?=_
  rw [Bf,B8,Cf hi,e1];rfl
theorem uQ:∀ (bs:List Bool),(List.range bs.length).all (fun i=>bs.getD i false)=bs.all id:=fun bs=>by
 rw [Bool.eq_iff_iff];simp only [Bg,BO]
 constructor
 ·intro h b hb
  obtain ⟨i,hi,e⟩:=Cg.mp hb;have:=h i hi;rw [AS,AN hi,e] at this;exact this
 ·intro h i hi
  rw [AS,AN hi];exact h _ (BG hi)
theorem xF(hc:X.calm=true):aw X (.builtin "all") (fun xs H Q=>∃ (p:Addr) (bs:List Bool),xs=[V.ref p]/\SqL X.K H p (bs.map V.bl)/\Q (.bl (bs.all id)) H):=by
 intro pins s σ H xs us Q I r h;obtain ⟨p,bs,rfl,hq,q⟩:=h;obtain ⟨u,rfl,ru⟩:=bn r;cases ru;obtain ⟨its,rv,pl,hz⟩:=I.list hq;have hlen:=rv.length;rw [AO] at hlen
 have hlt:p < s.heap.objs.size:=by
  obtain ⟨o,n,e,_⟩:=pl;exact A5 e
 refine call_all_walk (Ci pl.isList ⟨s.heap.objs.size,_,_,its.toArray.size,_,_,fun i=>bs.getD i false,rfl,Walks.list (show X.A.in1.handled=none from I.ok.hd hc) s.heap.objs.size p (Bi hlt) its.toArray,
  ⟨⟨_,AZ _ rfl,rfl,rfl⟩,pl.isList.at fun o e=>AR _ e⟩,fun i v s' Q' E' hP hQ'=> ?_,fun h' tk hk=> ?_⟩)
 ·have hP:its.toArray[i]?=some v:=hP
  have hi:i < bs.length:=by
   have:=(Array.getElem?_eq_some_iff.mp hP).1;rw [AW] at this;omega
  obtain ⟨u,e1,e2⟩:=rv.get (i:=i) (x:=V.bl bs[i]) (by simp [hi])
  have:v = .bool bs[i]:=by
   rw [show its.toArray[i]?=its[i]? by simp,e1] at hP;cases hP;exact e2
  subst this;have hQ':Q' (bs.getD i false) s':=hQ';rw [show bs.getD i false=bs[i] by simp [AS,hi]] at hQ';exact Ch hQ'
 ·refine ⟨.bl (bs.all id),H,?_,?_,q⟩
  ·exact I.kept (h':=h') (t':=tk) fun b o e=>hk b o (by have:=A5 e;simp;exact Bi this) (AR _ e)
  ·show Value.bool _=Value.bool _
   rw [AW,<- hlen,uQ]
theorem xD:aw X (.type "range") (fun xs H Q=>(∃ j:Int,xs=[V.int j]/\∀ l,H l=none->Q (.ref l) (upd H l (.rng 0 j)))\/(∃ i j:Int,xs=[V.int i,V.int j]/\∀ l,H l=none->Q (.ref l) (upd H l (.rng i j)))):=by
 intro pins s σ H xs us Q I r h;have hf:H s.heap.objs.size=none:=I.hok.fresh (A8 _)
 rcases h with ⟨j,rfl,q⟩ | ⟨i,j,rfl,q⟩
 ·obtain ⟨u,rfl,t,rfl⟩:=bn r
  exact call_range_1 ⟨.ref s.heap.objs.size,_,I.laid (o:= .rng 0 j) (fun _ _ e=>AR _ e) (A8 _) ⟨_,_,_,AZ _ rfl⟩,rfl,q _ hf⟩
 ·obtain ⟨u,w',rfl,⟨t,rfl⟩,⟨t',rfl⟩⟩:=oF r
  exact call_range_2 ⟨.ref s.heap.objs.size,_,I.laid (o:= .rng i j) (fun _ _ e=>AR _ e) (A8 _) ⟨_,_,_,AZ _ rfl⟩,rfl,q _ hf⟩
theorem v4(lo hi i:Int):(Builtin.Range.rangePlace? lo hi 1 i).isSome=decide (lo<=i/\i < hi):=by
 unfold Builtin.Range.rangePlace?
 by_cases h:lo<=i/\i < hi
 ·rw [Ba h]
  simp [h.1,h.2,Int.emod_one]
 ·rw [Bk h]
  by_cases h1:lo<=i
  ·have h2:¬ i < hi:=fun q=>h ⟨h1,q⟩
   simp [h1,h2]
  ·simp [h1]
section
open PySem.SeqAt
open PySem.AutoSeq1 (wpAny_loadPart')
open PySem.MeetsSeq PySem.MeetsSeq2 PySem.MeetsSeq3
theorem ml(l:Addr)(lo hi i:Int)(a b c t:Tok):Meets (Builtin.«range.__contains__» ⟨[.ref l,.int i t],[]⟩)
 (fun _ R s=>s.heap.get? l=some { cls:= .type "range",data:= .fields #[.int lo a,.int hi b,.int 1 c] }/\R (.ok (.ret (.bool (decide (lo<=i/\i < hi))))) s) :=
 .of_wp fun prog w A R s h=>by
  obtain ⟨hp,g,d,tk,os⟩:=s;obtain ⟨hl,h⟩:=h;rw [<- v4] at h
  wp_walk using wpAny_loadPart' hl
  exact ⟨_,rfl,h⟩
end
def rInR(neg:Bool):R2:=fun x y H Q=>∃ (l:Addr) (i lo hi:Int),x = .int i/\y = .ref l/\H l=some (.rng lo hi)/\Q (.bl (if neg then !decide (lo<=i/\i < hi) else decide (lo<=i/\i < hi))) H
theorem op_inR:OpR X (compareOp .In) (rInR false):=by
 intro pins s σ H x y v u Q I rx ry h;obtain ⟨l,i,lo,hi,rfl,rfl,hl,q⟩:=h;obtain ⟨t,rfl⟩:=rx;cases ry;obtain ⟨a,b,c,e⟩:=(show bf X.prog X.w H s.heap l (.rng lo hi) from I.hok l _ hl);exact PySem.SeqRoads2.in_meets ⟨_,e,rfl⟩ F.slot_range_contains F.entry_range_contains (F.args_range_contains_2 _ _) (ml l lo hi i a b c t) ⟨e,_,rfl,⟨.bl _,H,I,rfl,q⟩⟩
theorem tN:OpR X (compareOp .NotIn) (rInR true):=by
 intro pins s σ H x y v u Q I rx ry h;obtain ⟨l,i,lo,hi,rfl,rfl,hl,q⟩:=h;obtain ⟨t,rfl⟩:=rx;cases ry;obtain ⟨a,b,c,e⟩:=(show bf X.prog X.w H s.heap l (.rng lo hi) from I.hok l _ hl);exact PySem.SeqRoads2.notIn_meets ⟨_,e,rfl⟩ F.slot_range_contains F.entry_range_contains (F.args_range_contains_2 _ _) (ml l lo hi i a b c t) ⟨e,_,rfl,⟨.bl _,H,I,rfl,q⟩⟩
theorem zV{prog:Program}{w:World}{A:Around}{E:Value->Shared->Prop}{s:Shared}{t b:Addr}{ws:List Value}{Q:Value->Shared->Prop}(ht:IsTup s.heap t #[])(hb:IsTup s.heap b ws.toArray)(h:Q (.ref b) s) :
 wpAny (model prog w) A (binaryOp .Add (.ref t) (.ref b)) Q E s:=by
 obtain ⟨⟨cls,dd,data,sl⟩,ho,hc,n,hd⟩:=id ht;obtain ⟨⟨cls2,dd2,data2,sl2⟩,ho2,hc2,n2,hd2⟩:=id hb;simp only at hc hd hc2 hd2;subst hc hd hc2 hd2
 exact concat_meets ⟨_,ho,rfl⟩ ⟨_,ho2,rfl⟩ noFill_tuple_add seq_tuple_add PySem.F.slot_tuple_add PySem.F.entry_tuple_add (PySem.F.args_tuple_add_2 _ _)
  (tuple_addW0 t b #[] ws.toArray n n2 dd dd2 sl sl2 (by simp)) ⟨ho,ho2,h⟩
end
end L2
namespace HT
open PySem PySem.Spec PyProof.Rows
section
variable{prog:Program}{w:World}{A:Around}{E:Value->Shared->Prop}{s:Shared}
theorem gK{t sl:Addr}{items:Array Value}{vl vu:Value}{lo hi:Option Int}{Q:Value->Shared->Prop}(ht:IsTup s.heap t items)(hs:s.heap.IsSliceOf sl vl vu .none)(pl:IsPart vl lo)(pu:IsPart vu hi)
 (hw:sIx items.size 0 lo=0/\sIx items.size items.size hi=items.size) (h:Q (.ref t) s):wpAny (model prog w) A (getItem (.ref t) (.ref sl)) Q E s:=by
 obtain ⟨os,hos,hcs,hds⟩:=id hs;have hTs:s.TypeIs (.ref sl) "slice" := ⟨os,hos,hcs⟩;unfold getItem
 try with_reducible refine Ca ?_
 first | refine AQ (AX ?_) | skip
 refine AQ (wpAny_sequenceKey ht.typeIs (by decide) ?_)
 refine AQ (By (name:=Str.ofString "__getitem__") ht.typeIs PyProof.Rows.slot_tuple_getitem
  (BF PyProof.Rows.slot_tuple_getitem ht.typeIs entry_tuple_getitem ?_ (args_tuple_getitem _ _)))
 show wpAny _ _ (Builtin.Tuple.tupleItemsOf (.ref t) >>= _) _ _ s
 refine AQ (tupleItemsOf_ ht (AQ (wpAny_typeOf hTs ?_)));rw [if_pos (by decide)];refine AQ (eE hs pl pu ?_)
 show wpAny _ _ (if (((sIx items.size 0 lo:Nat):Int) == 0&&(1:Int) == 1&&(sIx items.size items.size hi - sIx items.size 0 lo) == items.size)=true then _ else _) _ _ s
 rw [if_pos (by rw [hw.1,hw.2];simp)];unfold Builtin.Tuple.tupleIsExact;refine AQ (AQ (wpAny_typeOf ht.typeIs (AX ?_)));rw [if_pos (by decide)];exact AQ (wpAny_rule (AX ⟨_,rfl,AX h⟩))
end
end HT
namespace L2
open PySem PySem.Spec PyProof.Rows
section
variable{X:Cx}
end
end L2
namespace Srt
open PySem PySem.W PyProof.Rows
def All{α:Type}(n:Nat)(P:α->Prop):KasT α->Prop
 | .ret a=>P a
 | .ask i j k=>i < n/\j < n/\∀ b,All n P (k b)
theorem All.bind{α β:Type}{n:Nat}{P:β->Prop}{f:α->KasT β}:∀ {t:KasT α},All n (fun a=>All n P (f a)) t->All n P (t.bind f)
 | .ret _,h=>h
 | .ask _ _ _,⟨h1,h2,h3⟩=>⟨h1,h2,fun b=>All.bind (h3 b)⟩
theorem All.mono{α:Type}{n:Nat}{P P':α->Prop}(hp:∀ a,P a->P' a):∀ {t:KasT α},All n P t->All n P' t
 | .ret a,h=>hp a h
 | .ask _ _ _,⟨h1,h2,h3⟩=>⟨h1,h2,fun b=>All.mono hp (h3 b)⟩
def de(n:Nat)(p:Array Nat):Prop:=0 < n/\p.toList.Perm (List.range n)
theorem de.lt{n:Nat}{p:Array Nat}(g:de n p)(k:Nat):p.getD k 0 < n:=by
 by_cases h:k < p.size
 ·have e:p.getD k 0=p[k]:=by simp [Array.getD,h]
  rw [e];have m:p[k]∈List.range n:=g.2.mem_iff.mp (by simp);simpa using m
 ·have e:p.getD k 0=0:=by simp [Array.getD,h]
  rw [e];exact g.1
theorem de.perm{n:Nat}{p p':Array Nat}(g:de n p)(h:p'.Perm p):de n p':=⟨g.1,(Array.perm_iff_toList_perm.mp h).trans g.2⟩
theorem de.rev{n:Nat}{p:Array Nat}(g:de n p)(i j:Nat):de n (kas_rev p i j):=g.perm (mirror_perm _ _ _ _)
theorem asc{n:Nat}{p:Array Nat}(g:de n p):∀ f k,All n (fun _=>True) (kas_asc p f k)
 | 0,_=>trivial
 | f+1,k=>⟨g.lt _,g.lt _,fun b=>by
  cases b with
  | true=>show All n _ (if true=true then _ else _);rw [if_pos rfl];trivial
  | false=>show All n _ (if false=true then _ else _);rw [if_neg Bj];exact asc g f (k+1)⟩
theorem zR{n:Nat}:∀ f {p:Array Nat} (k q:Nat),de n p->All n (fun r=>de n r.1) (kas_desc f p k q)
 | 0,p,_,_,g=>g
 | f+1,p,k,q,g=>⟨g.lt _,g.lt _,fun b=>by
  cases b with
  | true =>
   show All n _ (if true=true then _ else _)
   rw [if_pos rfl]
   by_cases hq:q > 0
   ·rw [if_pos hq];exact zR f _ _ (g.rev _ _)
   ·rw [if_neg hq];exact zR f _ _ g
  | false =>
   show All n _ (if false=true then _ else _)
   rw [if_neg Bj];refine ⟨g.lt _,g.lt _,fun b=> ?_⟩
   cases b with
   | true=>show All n _ (if true=true then _ else _);rw [if_pos rfl];exact g
   | false=>show All n _ (if false=true then _ else _);rw [if_neg Bj];exact zR f _ _ g⟩
theorem Aj{n:Nat}{p:Array Nat}(g:de n p)(k nrem:Nat):All n (fun r:Nat×Array Nat=>de n r.2) (kas_tail3 k nrem p):=by
 unfold kas_tail3;exact ((asc (g.rev _ _) _ _).mono fun m _=>(show All n (fun r:Nat×Array Nat=>de n r.2) (KasT.ret (m,kas_rev p 0 k)) from g.rev _ _)).bind
theorem qc{n:Nat}{p:Array Nat}(g:de n p)(k nrem:Nat):All n (fun r:Nat×Array Nat=>de n r.2) (kas_descPart k nrem p):=by
 unfold kas_descPart;refine ((zR _ _ _ g).mono fun r hr=> ?_).bind
 by_cases h:r.2.2 > 0
 ·rw [if_pos h];exact Aj (hr.rev _ _) _ _
 ·rw [if_neg h];exact Aj hr _ _
theorem count{n:Nat}{p:Array Nat}(g:de n p)(nrem:Nat):All n (fun r:Nat×Array Nat=>de n r.2) (kas_count nrem p):=by
 unfold kas_count;refine ((asc g _ _).mono fun k _=> ?_).bind
 by_cases h:(k == nrem)=true
 ·rw [if_pos h];exact g
 ·rw [if_neg h]
  by_cases h2:k > 1
  ·rw [if_pos h2]
   refine ⟨g.lt _,g.lt _,fun b=> ?_⟩
   cases b with
   | true=>show All n _ (if true=true then _ else _);rw [if_pos rfl];exact g
   | false=>show All n _ (if false=true then _ else _);rw [if_neg Bj];exact qc (g.rev _ _) _ _
  ·rw [if_neg h2];exact qc g _ _
theorem v5{n:Nat}{p:Array Nat}(g:de n p)(k:Nat):∀ f l r,All n (fun _=>True) (kas_place p k f l r)
 | 0,_,_=>trivial
 | f+1,l,r=>by
  unfold kas_place
  by_cases h:l>=r
  ·rw [if_pos h];trivial
  ·rw [if_neg h]
   refine ⟨g.lt _,g.lt _,fun b=> ?_⟩
   cases b with
   | true=>show All n _ (if true=true then _ else _);rw [if_pos rfl];exact v5 g k f _ _
   | false=>show All n _ (if false=true then _ else _);rw [if_neg Bj];exact v5 g k f _ _
theorem bin{n:Nat}:∀ f {p:Array Nat} (k:Nat),de n p->All n (de n) (kas_bin f p k)
 | 0,_,_,g=>g
 | f+1,p,k,g=>((v5 g k k 0 k).mono fun l _=>bin f (k+1) (g.perm (bubble_perm _ _ _))).bind
theorem sort{n:Nat}(h:0 < n):All n (de n) (kas_sort n):=by
 unfold kas_sort;have g:de n (List.toArray (List.range n)):=⟨h,by simp⟩;refine ((count g n).mono fun r hr=> ?_).bind
 by_cases h:r.1 < n
 ·rw [if_pos h];exact bin _ _ hr
 ·rw [if_neg h];exact hr
section
variable{prog:Program}{w:World}{A:Around}{E:Value->Shared->Prop}{s:Shared}
def Tups(h:Heap)(vs:List Value):Prop:=∀ v∈vs,∃ a items ns,v = .ref a/\IsTup h a items/\IntsAre items.toList ns/\ns≠[]
theorem xn{M:Model}{h:Heap}:∀ {vs:List Value},Tups h vs->∃ fs,fs.length=vs.length/\KatTups h vs fs/\∀ v∈fs,Looks M h (typeOf v) (.type "int")
 | [],_=>⟨[],rfl,.nil,fun v hv=>by cases hv⟩
 | v::vs,t=>by
  obtain ⟨fs,h1,h2,h3⟩:=xn (M:=M) (vs:=vs) fun u hu=>t u (AV _ hu)
  obtain ⟨a,items,ns,rfl,⟨o,g1,g2,n,g3⟩,i,ne⟩:=t v AY
  cases hi:items.toList with
  | nil =>
   rw [hi] at i;cases i;exact absurd rfl ne
  | cons f r =>
   rw [hi] at i
   cases i with
   | cons x tk _ =>
    refine ⟨.int x tk::fs,by simp [h1],.cons g1 g2 g3 (by rw [<- B8,hi];rfl) h2,fun u hu=> ?_⟩
    rcases A9.mp hu with rfl | hu
    ·exact .now
    ·exact h3 u hu
end
end Srt
namespace L2
open PySem PySem.Spec PyProof.Rows
def oZ:Value->V
 | .ref b=> .ref b
 | _=> .non
theorem jg:∀ {l:List Value},(∀ u∈l,∃ b,u = .ref b)->ar (l.map oZ) l
 | [],_=> .nil
 | u::l,h=>by
  obtain ⟨b,rfl⟩:=h u AY;exact .cons rfl (jg fun v hv=>h v (AV _ hv))
theorem mj:∀ {bs:List V} {l:List Value},ar bs l->(∀ b∈bs,∃ a,b = .ref a)->bs=l.map oZ/\∀ u∈l,∃ b,u = .ref b
 | _,_,.nil,_=>⟨rfl,fun u hu=>by cases hu⟩
 | _,_,.cons r t,h=>by
  obtain ⟨a,rfl⟩:=h _ AY;cases r
  obtain ⟨e,q⟩:=mj t fun b hb=>h b (AV _ hb)
  refine ⟨by rw [A4,<- e];rfl,fun u hu=> ?_⟩
  rcases A9.mp hu with rfl | hu
  ·exact ⟨a,rfl⟩
  ·exact q u hu
section
variable{X:Cx}
end
inductive Dt where
 | non | bl (b:Bool) | int (i:Int) | str (x:Str) | lst | dct | tup (ds:List Dt)
mutual
def Rep(K:Df)(H:Hp):Dt->V->Prop
 | .non,v=>v = .non
 | .bl b,v=>v = .bl b
 | .int i,v=>v = .int i
 | .str x,v=>v = .str x
 | .lst,v=>∃ p xs,v = .ref p/\SqL K H p xs
 | .dct,v=>∃ p,v = .ref p/\((∃ kvs,H p=some (.dK kvs))\/∃ kvs,H p=some (.dT kvs))
 | .tup ds,v=>∃ p xs,v = .ref p/\SqT K H p xs/\xN K H ds xs
def xN(K:Df)(H:Hp):List Dt->List V->Prop
 | [],[]=>True
 | d::ds,x::xs=>Rep K H d x/\xN K H ds xs
 | _,_=>False
end
theorem ad.tup{K:Df}{H H':Hp}{a:Addr}{xs:List V}(e:ad H H')(h:SqT K H a xs):SqT K H' a xs:=by
 rcases h with (h | ⟨o,h⟩) | h
 ·exact .inl (.inl (e _ _ h))
 ·exact .inl (.inr ⟨o,e _ _ h⟩)
 ·exact .inr h
theorem ad.upd{H:Hp}{p:Addr}{o:HO}(h:H p=none):ad H (L2.upd H p o):=fun b u e=>by rw [ag (ah e h)];exact e
mutual
theorem ad.rep{K:Df}{H H':Hp}(e:ad H H'):∀ {d:Dt} {v:V},Rep K H d v->Rep K H' d v
 | .non,_,h=>h
 | .bl _,_,h=>h
 | .int _,_,h=>h
 | .str _,_,h=>h
 | .lst,_,⟨p,xs,h1,h2⟩=>⟨p,xs,h1,e.seq h2⟩
 | .dct,_,⟨p,h1,h2⟩=>⟨p,h1,h2.elim (fun hZ=>(by obtain ⟨k,q⟩:=hZ;exact .inl ⟨k,e _ _ q⟩)) fun hZ=>(by obtain ⟨k,q⟩:=hZ;exact .inr ⟨k,e _ _ q⟩)⟩
 | .tup _,_,⟨p,xs,h1,h2,h3⟩=>⟨p,xs,h1,e.tup h2,e.repL h3⟩
theorem ad.repL{K:Df}{H H':Hp}(e:ad H H'):∀ {ds:List Dt} {xs:List V},xN K H ds xs->xN K H' ds xs
 | [],[],_=>trivial
 | _::_,_::_,h=>⟨e.rep h.1,e.repL h.2⟩
 | [],_::_,h=>h.elim
 | _::_,[],h=>h.elim
end
structure Has(K:Df)(mg:Str->Option Value)(x:Str)(st:Stmt)(ps:List Str):Prop where
 ex:∃ f fd,Fun K x x st f fd/\mg x=some (.ref f)/\jY K fd ps []
structure Ok(P:Program)(w:World)(K:Df)(mg:Str->Option Value)(base:Heap)(x:Str)(ps:List Str)(k:Nat)(sp:Sp):Prop where
 ex:∃ f fd,mg x=some (.ref f)/\PySem.W.keepIn K (.ref f)=true/\jY K fd ps []/\jE P w K mg base CX0 k f fd ps sp
theorem Has.ok{P:Program}{w:World}{K:Df}{mg:Str->Option Value}{base:Heap}{x:Str}{st:Stmt}{N ps:List Str}{k:Nat}{sp:Sp}(h:Has K mg x st ps)(S:cI N ps (aa st))(len:∀ vs H Q E,sp vs H Q E->vs.length=ps.length)
 (hbody:∀ (f:Addr) (cdv:Value) (A:Around) (outer:List Env) (s:Shared) (H:Hp) (vs:List V) (Q:VK) (E:XK),cq k (A.deeper (envOfC x (aa st) s.heap.objs.size f cdv))->sp vs H Q E ->
   ∃ t,PSs (bQ CX0 P w K mg base N x (aa st) f cdv A outer s H E).nox (aR st) t/\t { nx:=fun _ H'=>Q .non H',rt:=Q } (dA N vs) H):Ok P w K mg base x ps (k+1) sp:=by
 obtain ⟨f,fd,F,hm,hb⟩:=h.ex;exact ⟨f,fd,hm,F.kp,hb,F.ok S len (hbody f)⟩
section
variable{X:Cx}{e:Expr}{es:List Expr}{t:TA}{x:Str}{ps:List Str}{k:Nat}{sp:Sp}{p pos:Pos}
end
section
variable{X:Cx}{Pre:St->Hp->Prop}
end
structure eC(osc:Scope)(N:List Str)(sc:Scope)(M tgs:List Str):Prop where
 kind:sc.kind = .function
 names:∀ y∈sc.names,y.2 = .local->sc.names.lookup y.1=some .local
 nocell:∀ y∈sc.names,y.2 ≠ .cell
 free:∀ y∈sc.names,y.2 = .free->osc.names.lookup y.1=some .cell\/osc.names.lookup y.1=some .free
 len:M.length=N.length
 same:∀ p∈M.zip N,p.1=p.2\/p.1=("" : Str)
 dummy:sc.names.lookup ("" : Str)=none
 hid:∀ x∈M,sc.names.lookup x≠some .local
 nd:(M++tgs).Nodup
theorem eC.ok{X:Cx}{osc:Scope}{N:List Str}{sc:Scope}{M tgs:List Str}(b:eC osc N sc M tgs)(h1:X.env.scope=osc:=by rfl)(h2:X.N=N:=by rfl):lJ X sc M tgs:=by
 subst h1 h2;exact ⟨b.kind,b.names,b.nocell,b.free,b.len,b.same,b.dummy,b.hid⟩
def Nx(n i:Nat)(Pv:Nat->List V->Hp->Prop)(ys:List V)(H:Hp):Prop:=∃ m',m' < n - i/\(m'=n - (i+1)/\i+1<=n/\Pv (i+1) ys H)
theorem Nx.mk{n i:Nat}{Pv:Nat->List V->Hp->Prop}{ys:List V}{H:Hp}(hi:i < n)(h:Pv (i+1) ys H):Nx n i Pv ys H:=⟨n - (i+1),by omega,rfl,hi,h⟩
theorem rA{lo:Int}{n:Nat}{k:Nat}{g:TG}{tt:TT}{te:TE}{σ:St}{H:Hp}{Q:VK}(Pv:Nat->List V->Hp->Prop)(h0:Pv 0 [] H)(hl:∀ i ys H,i<=n->Pv i ys H->ys.length<=sizeLine)
 (hs:∀ i ys H,i < n->Pv i ys H->g (.int (lo+i)) (σ++List.replicate k none) H fun σ2 H2=>σ2.take σ.length=σ/\tt σ2 H2 fun b H3 =>
   if b=true then te σ2 H3 fun y H4=>Nx n i Pv (ys++[y]) H4 else Nx n i Pv ys H3)
 (hd:∀ ys H,Pv n ys H->∀ l,H l=none->Q (.ref l) (upd H l (.lst ys))):AM (Itr lo n) k g tt te σ Q H:=by
 refine ⟨fun i m ys H=>m=n - i/\i<=n/\Pv i ys H,⟨n,by simp,Cv _,h0⟩,?_⟩;rintro i m ys H ⟨rfl,hi,p⟩;refine ⟨hl i ys H hi p,?_⟩
 by_cases hlt:i < n
 ·refine .inr ⟨hlt,fun x H' y=> ?_⟩
  obtain ⟨e,y⟩:=y;subst e y;exact hs i ys _ hlt p
 ·have e:i=n:=by omega
  subst e;exact .inl ⟨A8 _,hd ys H p⟩
section
variable{κ:Type}[DecidableEq κ]
end
def xM(K:Df)(H:Hp)(b:V)(t:Int×Int):Prop:=∃ a,b = .ref a/\H a=some (.tup [.int t.1,.int t.2])
structure WebAt(K:Df)(H:Hp)(w:Addr)(many:Int)(ties:List (Int×Int)):Prop where
 at_:∃ t bs,H w=some (.tup [.int many,.ref t])/\H t=some (.tup bs)/\Paired (xM K H) bs ties
 len:ties.length<=60
 good:∀ t∈ties,0<=t.1/\t.1 < t.2/\t.2 < many
 nd:ties.Nodup
theorem bf.there{P:Program}{w:World}{H:Hp}{h:Heap}{a:Addr}{o:HO}(x:bf P w H h a o):∃ ob,h.get? a=some ob:=by
 cases o with
 | lst xs=>obtain ⟨_,_,_,_,e⟩:=x;exact ⟨_,e⟩
 | tup xs=>obtain ⟨_,_,_,ob,e,_⟩:=x;exact ⟨ob,e⟩
 | dK kvs=>obtain ⟨_,_,_,_,o,_,_,e,_⟩:=x;exact ⟨_,e⟩
 | dT kvs=>obtain ⟨_,_,_,_,o,_,_,e,_⟩:=x;exact ⟨_,e⟩
 | set S n=>obtain ⟨o,_,_,_,e,_⟩:=x;exact ⟨_,e⟩
 | ins C dx fs=>obtain ⟨_,_,_,e,_⟩:=x;exact ⟨_,e⟩
 | own y=>exact x
 | xd fs=>obtain ⟨_,⟨_,_,_,e,_⟩,_⟩:=x;exact ⟨_,e⟩
 | rng lo hi=>obtain ⟨_,_,_,e⟩:=x;exact ⟨_,e⟩
 | frz ob u=>obtain ⟨e,_⟩:=x;exact ⟨_,e⟩
 | tbl ps=>exact ⟨_,(show h.get? a=some _ from x)⟩
 | met f y=>exact ⟨_,(show h.get? a=some _ from x)⟩
 | ext φ=>obtain ⟨_,e,_⟩:=x;exact e
theorem HOk.none_of{P:Program}{w:World}{H:Hp}{h:Heap}{a:Addr}(x:HOk P w H h)(e:h.get? a=none):H a=none:=by
 cases q:H a with
 | none=>rfl
 | some u =>
  obtain ⟨ob,z⟩:=(x a u q).there;rw [e] at z;cases z
structure Af(fs:List Addr)(ea T:Addr)(h h':Heap):Prop where
 keep:∀ b o,h.get? b=some o->b∉fs->b≠ea->b≠T->h'.get? b=some o
 slot:∀ b o,h.get? b=some o->b∈fs->∃ sl,h'.get? b=some { o with slots:=sl }
structure gZ(g:Heap)(H:Hp)(ea T:Addr)(cls:Value)(h:Heap):Prop where
 obj:∃ (oe:Obj) (vs:Array Value) (oT:Obj) (ts:Array Value) (a0:Value),h.get? ea=some oe/\(oe.cls=cls/\vs[0]?=some a0)/\oe.data = .fields vs/\vs[1]?=some (.ref T)/\T≠ea/\h.get? T=some oT/\oT.data = .fields ts/\ts[3]?=some .none
 he:H ea=none
 hT:H T=none
 ge:g.get? ea=none
 gT:g.get? T=none
section
variable{P:Program}{w:World}{fs fs' ex:List Addr}{H₀ H:Hp}{g g₀ h h' base:Heap}{ea T:Addr}{cls:Value}{l l':List Env}
theorem gZ.older(F:gZ g H ea T cls h)(k:∀ b o,g₀.get? b=some o->∃ o',g.get? b=some o'):gZ g₀ H ea T cls h:=by
 refine ⟨F.obj,F.he,F.hT,?_,?_⟩
 ·cases q:g₀.get? ea with
  | none=>rfl
  | some o=>obtain ⟨o',z⟩:=k _ _ q;rw [F.ge] at z;cases z
 ·cases q:g₀.get? T with
  | none=>rfl
  | some o=>obtain ⟨o',z⟩:=k _ _ q;rw [F.gT] at z;cases z
theorem gZ.flyingW(F:gZ g H ea T cls h)(hl:h.FunFrames base l):∃ a0,Heap.FlyingW (PySem.W.hideAll h (ea::T::frs l)) l ea cls a0 h:=by
 obtain ⟨oe,vs,oT,ts,a0,h1,h2,h3,h4,h5,h6,h7,h8⟩:=F.obj;refine ⟨a0,fun b o e=>PySem.W.of_hideAll _ e,PySem.W.hideAll_none _ AY,PySem.W.funFrames_hide hl (fun env he a hf=> ?_),oe,vs,T,oT,ts,h1,h2,h3,h4,PySem.W.hideAll_none _ (AV _ AY),h5,h6,h7,h8⟩;exact AV _ (AV _ (Dc.mpr ⟨env,he,hf⟩))
theorem xl(F:gZ g H ea T cls h)(hl:h.FunFrames base l)(hok:HOk P w H h)(hg:∀ b o,g.get? b=some o->∃ o',h.get? b=some o'){a0:Value}
 (x:Heap.FlyingW (PySem.W.hideAll h (ea::T::frs l)) l' ea cls a0 h') (up:h.UpToSlots h'):Af (frs l) ea T h h'/\∃ T',gZ g H ea T' cls h':=by
 obtain ⟨x1,x2,x3,oe,vs,T',oT,ts,y1,y2,y3,y4,y5,y6,y7,y8,y9⟩:=x
 have slot:∀ b o,h.get? b=some o->b∈frs l->∃ sl,h'.get? b=some { o with slots:=sl }:=fun b o e hb=>by
  obtain ⟨_,o',ho',nf⟩:=hl.mem hb;rw [e] at ho';cases ho';exact up b o e nf
 refine ⟨⟨fun b o e n1 n2 n3=>x1 b o (CG _ e (by simp [n1,n2,n3])),slot⟩,T',?_⟩
 have fr:H T'=none/\g.get? T'=none:=by
  by_cases q:T'=T
  ·subst q;exact ⟨F.hT,F.gT⟩
  ·have nf:T'∉frs l:=fun hb=>by
    obtain ⟨_,o,ho,nf⟩:=hl.mem hb;obtain ⟨sl,z⟩:=slot T' o ho hb;rw [y7] at z;cases z;exact nf ts y8
   have hn:h.get? T'=none:=by
    cases z:h.get? T' with
    | none=>rfl
    | some o =>
     have:=CG (ea::T::frs l) z (by simp [nf,q,y6]);rw [y5] at this;cases this
   refine ⟨hok.none_of hn,?_⟩
   cases z:g.get? T' with
   | none=>rfl
   | some o=>obtain ⟨o',z'⟩:=hg _ _ z;rw [hn] at z';cases z'
 exact ⟨⟨oe,vs,oT,ts,a0,y1,y2,y3,y4,y6,y7,y8,y9⟩,F.he,fr.1,F.ge,fr.2⟩
theorem Un.turn(u:Un fs ex H₀ H g h)(t:Af fs' ea T h h')(ge:g.get? ea=none)(gT:g.get? T=none)(h1:∀ b∈fs,b∈fs')(h2:∀ b∈fs',b∉fs->g.get? b=none):Un fs ex H₀ H g h' where
 keep:=fun b o q n hb hx=>t.keep b o (u.keep b o q n hb hx) (fun z=>by rw [h2 b z hb] at q;cases q) (fun z=>by rw [z,ge] at q;cases q) (fun z=>by rw [z,gT] at q;cases q)
 slot:=fun b o q n hb hx=>by
  obtain ⟨sl,e⟩:=u.slot b o q n hb hx;obtain ⟨sl',e'⟩:=t.slot b _ e (h1 b hb);exact ⟨sl',e'⟩
 free:=u.free
 there:=fun b o q hx=>by
  obtain ⟨o',e⟩:=u.there b o q hx
  by_cases hb:b∈fs'
  ·obtain ⟨sl,e'⟩:=t.slot b o' e hb
   exact ⟨_,e'⟩
  ·exact ⟨o',t.keep b o' e hb (fun z=>by rw [z,ge] at q;cases q) (fun z=>by rw [z,gT] at q;cases q)⟩
 tups:=u.tups
 frzs:=u.frzs
 tbls:=u.tbls
theorem HOk.turn(x:HOk P w H h)(t:Af fs ea T h h')(he:H ea=none)(hT:H T=none)(hf:∀ b∈fs,H b=none):HOk P w H h':=fun a o e=>by
 have ne:∀ b,(b=a\/H b=some (.own a))->H b≠none:=fun b hb z=>by
  rcases hb with rfl | hb
  ·rw [z] at e;cases e
  ·rw [z] at hb;cases hb
 exact (x a o e).stay (fun b u hb q=>t.keep b u q (fun z=>ne b hb (hf b z)) (fun z=>ne b hb (z ▸ he)) (fun z=>ne b hb (z ▸ hT))) (fun _ q=>q) fun _ _ q=>q
end
def CXr(P:Program)(w:World):CXT:=fun outer H s E e s'=>∃ ea T cls H',e = .ref ea/\s'.os=s.os/\AllBare s'.gens/\Un (frs outer) [] H H' s.heap s'.heap/\HOk P w H' s'.heap/\gZ s.heap H' ea T cls s'.heap/\E cls none H'
section
variable{P:Program}{w:World}{K:Df}{mg:Str->Option Value}{base:Heap}{N:List Str}{qual:Str}{scope:Scope}{f:Addr}{cd:Value}{A:Around}{outer:List Env}{s:Shared}{H:Hp}{E E':XK}
theorem pW{env:Env}{L:Addr}{l:List Env}(h:env.frame=some L):frs (env::l)=L::frs l:=by unfold frs;rw [C8,h]
theorem wg(himp:∀ c d H,E' c d H->E c d H):rS (CXr P w) (bQ (CXr P w) P w K mg base N qual scope f cd A outer s H E) E':=by
 intro pins σ H1 s1 e s2 I hx;obtain ⟨ea,T,cls,H2,rfl,os,bare,un,hok,fl,e1⟩:=hx
 have I2:Inv (bQ (CXr P w) P w K mg base N qual scope f cd A outer s H E) pins σ H2 s2:=I.call' (ch:=[]) os un hok bare fun b z=>absurd z (by simp)
 have fl:=fl.older (g₀:=s.heap) fun b o q=>I.base.there b o q (by show b∉[];simp)
 obtain ⟨a0,fw⟩:=fl.flyingW I2.stack
 refine wpAny_leaves_onW I2.ok.frames rfl fw fun h' x1 x2=> ?_
 obtain ⟨tn,T',fl'⟩:=xl fl I2.stack hok (fun b o q=>I2.base.there b o q (by show b∉[];simp)) x1 x2;have e2:frs (bQ (CXr P w) P w K mg base N qual scope f cd A outer s H E).stack=s.heap.objs.size::frs outer:=pW rfl;refine ⟨ea,T',cls,H2,rfl,I2.os,bare,Un.turn I2.base tn fl.ge fl.gT (fun b hb=> ?_) (fun b hb nb=> ?_),hok.turn tn fl.he fl.hT I2.stkFree,fl',himp _ _ _ e1⟩
 ·rw [e2];exact AV _ hb
 ·rw [e2] at hb
  rcases A9.mp hb with rfl | hb
  ·exact Heap.get?_none_of_le (A8 _)
  ·exact absurd hb nb
def tRaise(C:Addr)(E:XK):TS:=fun _ _ H=>E (.ref C) none H
theorem tB{x:Str}{C:Addr}{bm:List Value}{B newId initId:String}{np cpos pos:Pos}(O:OwnCls x C bm newId mg base)(FB:ExcBaseFacts B newId initId bm)(hh:(A.deeper (envOfC qual scope s.heap.objs.size f cd)).handled=none)
 (hg:Gl (bQ (CXr P w) P w K mg base N qual scope f cd A outer s H E) x) (hd:(x == ("__debug__" : Str))=false:=by decide):PS (bQ (CXr P w) P w K mg base N qual scope f cd A outer s H E) (.Raise (some (.Call (.Name x np) [] [] cpos)) none pos) (tRaise C E):=by
 intro pins s1 σ H1 D I h;obtain ⟨tl,N',nm,q,bs,hdct,sn,sub,ab,col,dd,k0,k1,k2,k3,k5,mN,hC,hN,hni,T⟩:=O.obj
 refine wpAny_Raise_call_subT (C:=C) (nm:=nm) (q:=q) (N:=N') (bs:=bs) (bm:=tl) (hdct:=hdct) (sn:=sn) (sub:=sub) (ab:=ab) (col:=col) (dd:=dd) (k0:=k0) (k1:=k1) (k2:=k2) (k3:=k3) (k5:=k5)
  FB (mN:=mN) (T.hasType FB.hasBase) hh rfl hni (nN I hg O.bound ⟨rfl,?_⟩ hd)
 refine evalArgs_empty ⟨rfl,Cv _,I.bk _ _ hC,hN.keeps I.bk,T.keeps I.bk,fun h' e hm=> ?_⟩
 have hin:∀ env∈(bQ (CXr P w) P w K mg base N qual scope f cd A outer s H E).stack,∀ b,env.frame=some b->b∈frs (bQ (CXr P w) P w K mg base N qual scope f cd A outer s H E).stack:=fun env he b hb=>Dc.mpr ⟨env,he,hb⟩
 refine wpAny_leaves_madeW (base:=PySem.W.hideAll s1.heap (frs (bQ (CXr P w) P w K mg base N qual scope f cd A outer s H E).stack)) (h:=s1.heap) I.ok.frames rfl (fun b o q=>PySem.W.of_hideAll _ q) (PySem.W.funFrames_hide I.stack hin) hm fun h'' t x1 x2 x3 x4=> ?_
 obtain ⟨y1,y2,y3,oe,vs,T',oT,ts,z1,z2,z3,z4,z5,z6,z7,z8,z9⟩:=x1
 have tn:Af (frs (bQ (CXr P w) P w K mg base N qual scope f cd A outer s H E).stack) e T' s1.heap h'':=by
  refine ⟨fun b o q n1 _ _=>y1 b o (CG _ q n1),fun b o q hb=> ?_⟩;obtain ⟨_,o',ho',nf⟩:=I.stack.mem hb;rw [q] at ho';cases ho';exact x4 b o (hm.keeps b o q) nf
 have hT:s1.heap.get? T'=none:=by
  have nf:T'∉frs (bQ (CXr P w) P w K mg base N qual scope f cd A outer s H E).stack:=fun hb=>by
   obtain ⟨_,o,ho,nf⟩:=I.stack.mem hb;obtain ⟨sl,z⟩:=tn.slot T' o ho hb;rw [z7] at z;cases z;exact nf ts z8
  cases z:s1.heap.get? T' with
  | none=>rfl
  | some o =>
   have:=CG _ z nf;rw [z5] at this;cases this
 have e2:frs (bQ (CXr P w) P w K mg base N qual scope f cd A outer s H E).stack=s.heap.objs.size::frs outer:=pW rfl
 have fl:gZ s.heap H1 e T' (.ref C) h'':=by
  refine gZ.older (g:=s1.heap) ⟨⟨oe,vs,oT,ts,_,z1,z2,z3,z4,z6,z7,z8,z9⟩,I.hok.none_of hm.new,I.hok.none_of hT,hm.new,hT⟩ fun b o q=>I.base.there b o q (by show b∉[];simp)
 refine ⟨e,T',.ref C,H1,rfl,I.os,I.bare,Un.turn I.base tn fl.ge fl.gT (fun b hb=> ?_) (fun b hb nb=> ?_),I.hok.turn tn fl.he fl.hT I.stkFree,fl,h⟩
 ·rw [e2];exact AV _ hb
 ·rw [e2] at hb
  rcases A9.mp hb with rfl | hb
  ·exact Heap.get?_none_of_le (A8 _)
  ·exact absurd hb nb
end
structure OkX(P:Program)(w:World)(K:Df)(mg:Str->Option Value)(base:Heap)(x:Str)(ps:List Str)(k:Nat)(sp:Sp):Prop where
 ex:∃ f fd,mg x=some (.ref f)/\PySem.W.keepIn K (.ref f)=true/\jY K fd ps []/\jE P w K mg base (CXr P w) k f fd ps sp
theorem Has.okX{P:Program}{w:World}{K:Df}{mg:Str->Option Value}{base:Heap}{x:Str}{st:Stmt}{N ps:List Str}{k:Nat}{sp:Sp}(h:Has K mg x st ps)(S:cI N ps (aa st))(len:∀ vs H Q E,sp vs H Q E->vs.length=ps.length)
 (hbody:∀ (f:Addr) (cdv:Value) (A:Around) (outer:List Env) (s:Shared) (H:Hp) (vs:List V) (Q:VK) (E:XK),cq k (A.deeper (envOfC x (aa st) s.heap.objs.size f cdv))->sp vs H Q E ->
   ∃ t,PSs (bQ (CXr P w) P w K mg base N x (aa st) f cdv A outer s H E) (aR st) t/\t { nx:=fun _ H'=>Q .non H',rt:=Q } (dA N vs) H):OkX P w K mg base x ps (k+1) sp:=by
 obtain ⟨f,fd,F,hm,hb⟩:=h.ex;obtain ⟨oc,od,kV,doc,pm,an,cdv,ct,osl,rfl,lk,hcd⟩:=F.ex;exact ⟨f,_,hm,F.kp,hb,xk lk hcd S len fun A outer s H vs Q E hr hsp=>hbody f cdv A outer s H vs Q E hr hsp⟩
section
variable{X:Cx}{e:Expr}{es:List Expr}{t:TA}{x:Str}{ps:List Str}{k:Nat}{sp:Sp}{p pos:Pos}
end
def excO(ea C:Addr):HO:= .ext fun h=>∃ o,h.get? ea=some o/\o.cls = .ref C
section
variable{X:Cx}
end
end L2
namespace EnT
open PySem PySem.Spec PyProof.Rows
open AutoSeq1 (wpAny_loadPart')
theorem ju(l:Addr)(items:Array Value)(n:Nat)(dct:Option Addr)(sl:Array (Option Value)) :
 Meets (Builtin.«enumerate.__new__» ⟨[.type "enumerate",.ref l],[]⟩) (fun _ R s=>s.heap.get? l=some { cls:= .type "tuple",dict:=dct,data:= .seq items n,slots:=sl } /\
  R (.ok (.ret (.ref (s.heap.push { cls:= .type "tuple_iterator",data:= .fields #[.ref l,.int 0 0] }).objs.size)))
   { s with heap:=(s.heap.push { cls:= .type "tuple_iterator",data:= .fields #[.ref l,.int 0 0] }).push { cls:= .type "enumerate",data:= .fields #[.none,.bool false,.ref s.heap.objs.size,rawInt 0,.none,.none] } }) :=
 .of_wp fun prog w A R s h=>by
  obtain ⟨hp,g,d,tk,os⟩:=s;obtain ⟨hl,h⟩:=h;have hsub:=sub_enumerate;have hL:Heap.IsTuple (Shared.heap ⟨hp,g,d,tk,os⟩) l items:=⟨_,hl,rfl,n,rfl⟩
  wp_walk using wpAny_loadPart' hl
  refine wpAny_stack_any fun st=>AX ?_
  split
  ·rename_i c _ _ _ _ _
   cases (c == Value.type "enumerate")
   ·wp_walk using wpAny_loadPart' hl,Bx hL
    exact ⟨_,rfl,h⟩
   ·wp_walk using wpAny_loadPart' hl,Bx hL
    exact ⟨_,rfl,h⟩
  ·wp_walk using wpAny_loadPart' hl,Bx hL
   exact ⟨_,rfl,h⟩
section
variable{prog:Program}{w:World}{A:Around}{E:Value->Shared->Prop}{s:Shared}
theorem lC{l:Addr}{items:Array Value}{Q:Value->Shared->Prop}(hL:s.heap.IsTuple l items)
 (h:∀ h',IsEnum h' (s.heap.objs.size+1) s.heap.objs.size 0 .none->h'.IsTupleIter s.heap.objs.size l 0->h'.objs.size=s.heap.objs.size+2 ->
   (∀ b o,s.heap.get? b=some o->h'.get? b=some o)->Q (.ref (s.heap.objs.size+1)) { s with heap:=h' }) :
 wpAny (model prog w) A (call (.type "enumerate") [.ref l]) Q E s:=by
 obtain ⟨⟨c,dct,dt,sl⟩,hl,hc,n,hd⟩:=hL
 replace hc:c = .type "tuple" := hc
 replace hd:dt = .seq items n:=hd
 subst hc hd
 refine callType_new F.called_enumerate (by decide) (F.typeCall_enumerate_1 _) (F.newCall_enumerate_1 _) (fun obj=>F.args_object_init_2 obj _) F.entry_enumerate_new
  (ju l items n dct sl) ⟨hl,?_⟩
 have hz:(s.heap.push { cls:= .type "tuple_iterator",data:= .fields #[.ref l,.int 0 0] }).objs.size=s.heap.objs.size+1:=Bw ..
 show _/\_
 rw [hz]
 have he:IsEnum ((s.heap.push { cls:= .type "tuple_iterator",data:= .fields #[.ref l,.int 0 0] }).push
  { cls:= .type "enumerate",data:= .fields #[.none,.bool false,.ref s.heap.objs.size,rawInt 0,.none,.none] }) (s.heap.objs.size+1) s.heap.objs.size 0 .none:=by
  have:=AZ (s.heap.push { cls:= .type "tuple_iterator",data:= .fields #[.ref l,.int 0 0] })
   (o:={ cls:= .type "enumerate",data:= .fields #[.none,.bool false,.ref s.heap.objs.size,rawInt 0,.none,.none] }) rfl
  rw [hz] at this;exact this
 refine ⟨⟨_,he,rfl⟩,h _ he ⟨_,AR _ (AZ _ rfl),rfl,rfl⟩ (by rw [Bw,hz]) fun b o x=>AR _ (AR _ x)⟩
theorem eP{it l:Addr}{i:Nat}{items}{x:Value}{Q:Value->Shared->Prop}(hit:s.heap.IsTupleIter it l i)
 (hl:s.heap.IsTuple l items) (hx:items[i]?=some x)
 (hQ:∀ h',h'.IsTupleIter it l (i+1)->Heap.SameBut it s.heap h'->Q x { s with heap:=h' }) :
 wpAny (model prog w) A (Builtin.SmallTypes.nextOf (.ref it)) Q E s:=by
 obtain ⟨o,ho,hc,hd⟩:=id hit;obtain ⟨ol,hol,_,nl,hdl⟩:=hl;unfold Builtin.SmallTypes.nextOf
 refine AQ (By (name:=Str.ofString "__next__") hit.typeIs F.slot_tuple_iterator_next
  (BF F.slot_tuple_iterator_next hit.typeIs F.entry_tuple_iterator_next ?_ (F.args_tuple_iterator_next_1 _)))
 show wpAny _ _ (field (.ref it) 0 >>= _) _ _ s
 refine AQ (BU ho hd (x:= .ref l) rfl ?_)
 show wpAny _ _ (if (Value.ref l == Value.none)=true then _ else _) _ _ s
 rw [if_neg (show ¬ ((Value.ref l == Value.none)=true) from Bj)]
 show wpAny _ _ (field (.ref it) 1 >>= _) _ _ s
 refine AQ (BU ho hd (x:= .int i 0) rfl ?_)
 show wpAny _ _ (seqItems? (.ref l) >>= _) _ _ s
 refine AQ (CB hol hdl ?_);simp only [CZ,hx];refine AQ (Cd ho hd (by simp) (AX ⟨x,rfl,AX (hQ _ ?_ (Heap.SameBut.update ..))⟩))
 exact ⟨_,BS _ ho (Obj.isFreed_of_fields (Db hd _)),(Obj.cls_mapFields ..).trans hc,by
  rw [Db hd];simp [rawInt]⟩
theorem fY{it l:Addr}{i:Nat}{items}{Q:Value->Shared->Prop}(hh:A.handled=none)
 (hit:s.heap.IsTupleIter it l i) (hl:s.heap.IsTuple l items) (hx:items[i]?=none)
 (hE:∀ h' e,Heap.ExtBut it s.heap h'->(∃ o,h'.get? e=some o/\o.cls = .type "StopIteration")->E (.ref e) { s with heap:=h' }) :
 wpAny (model prog w) A (Builtin.SmallTypes.nextOf (.ref it)) Q E s:=by
 obtain ⟨o,ho,hc,hd⟩:=id hit;obtain ⟨ol,hol,_,nl,hdl⟩:=hl;unfold Builtin.SmallTypes.nextOf
 refine AQ (By (name:=Str.ofString "__next__") hit.typeIs F.slot_tuple_iterator_next
  (BF F.slot_tuple_iterator_next hit.typeIs F.entry_tuple_iterator_next ?_ (F.args_tuple_iterator_next_1 _)))
 show wpAny _ _ (field (.ref it) 0 >>= _) _ _ s
 refine AQ (BU ho hd (x:= .ref l) rfl ?_)
 show wpAny _ _ (if (Value.ref l == Value.none)=true then _ else _) _ _ s
 rw [if_neg (show ¬ ((Value.ref l == Value.none)=true) from Bj)]
 show wpAny _ _ (field (.ref it) 1 >>= _) _ _ s
 refine AQ (BU ho hd (x:= .int i 0) rfl ?_)
 show wpAny _ _ (seqItems? (.ref l) >>= _) _ _ s
 refine AQ (CB hol hdl ?_);simp only [CZ,hx];refine AQ (wpAny_rule (AQ (Cd ho hd (by simp) ?_)))
 show wpAny _ _ (newExc (.type "StopIteration") [] >>= _) _ _ _
 refine AQ ?_;simp only [newExc,newTuple];refine AQ (BC ?_ (by size_fits));refine AQ (m:=firstArgMember _ _) (wpAny_of_eq (a:=Value.none) (by first | rfl | (simp only [firstArgMember];rfl)) ?_);refine BC ?_ (by size_fits);simp only [raiseNew];refine AQ (wpAny_handled ?_)
 first | rw [show A.in1.handled=none from hh] | rw [hh]
 refine AQ (AX (wpAny_throw ?_));exact hE _ _ (((Heap.SameBut.update ..).extBut.push _).push _) ⟨_,AZ _ rfl,rfl⟩
end
end EnT
namespace L2
open PySem PySem.Spec PyProof.Rows
section
variable{X:Cx}
end
end L2
namespace XK
open PySem PySem.W PySem.Spec PySem.Calls PyProof.Rows PySem.Builtin PySem.Builtin.ObjectAttr PySem.Builtin.Getset_descriptor
section
variable{prog:Program}{w:World}{A:Around}{E:Value->Shared->Prop}{h:Heap}{g:Array GenState}{d:Drawn}{t:Nat}{os:OsState}{a:Addr}{o:Obj}{C:Addr}{K:Frag}
end
end XK
namespace L2
open PySem PySem.Spec PyProof.Rows
section
variable{X:Cx}{e:Expr}{te:TE}{x:Str}{p1 p2 pos:Pos}
end
section
variable{X:Cx}
theorem kH{elt tg iter:Expr}{ifs:List Expr}{sc:Scope}{M tgs:List Str}{pos:Pos}{wi:TI}{g:TG}{tt:TT}{te:TE}{j:Nat}{y:Str}{py spos:Pos}(hc:X.calm=true)(B:lJ X sc M tgs)(hi:PI X tg iter wi)
 (hg:∀ cl C fp s H,PG (blk X sc cl C fp s H (M++tgs)) tg g) (ht:∀ cl C fp s H,uT (blk X sc cl C fp s H (M++tgs)) ifs tt) (he:∀ cl C fp s H,PE (blk X sc cl C fp s H (M++tgs)) elt te)
 (hN:X.N.Nodup) (hjy:X.N[j]?=some y) (hy:X.env.scope.names.lookup y=some .local) (hsw:swapsWith (.ListComp elt [⟨tg,iter,ifs,0⟩] sc pos) (some (.Name y py)) spos.line X.env=pure true:=by rfl)
 (hs:∀ x,foldedSetIterable iter X.env x=pure x:=by intro _;rfl):PS X (.Assign [.Name y py] (.ListComp elt [⟨tg,iter,ifs,0⟩] sc pos) spos) (yc (oP wi tgs.length g tt te) (sQ j)):=by
 intro pins s σ H Dn I h
 let Q:VK:=fun x H1=>Dn.nx (σ.set j (some x)) H1
 have h:oP wi tgs.length g tt te σ H Q:=h;rw [exec_Assign_Name_used _ _ _ _ hsw];refine AQ (wpAny_standAt (AQ ?_));refine AQ (B9 (mM (use:=some (assign (.Name y py) X.env)) (Qf:=fun _ s'=>SP X pins Dn .next s') hc B hi hg ht he hs I h fun C D m s6 H' I8 hn hC hLC hsz hcC hp q f=> ?_) (fun _ s' hq=>AX (AX hq)) fun _ _ e=>e)
 show wpAny _ _ (assign (.Name y py) X.env (.ref D)) _ _ _
 refine wpAny_assign_Name (md I8 hN hjy (.inl hy) (v:= .ref D) rfl (fun s9 I9 hsb=> ?_) (.inr hy));obtain ⟨a,sb,ha⟩:=hsb
 have haC:C≠a:=by
  rcases ha with rfl | ha
  ·exact Ck hLC
  ·exact Ne.symm (hcC _ _ ha)
 exact ⟨m,hn.sameBut sb haC,fun h' hs'=>⟨_,H',I9.turned (t':=s9.toks) (it:=C) (fun b o hb e=>(hs'.2 b hb).trans e) hC (Ck hLC) (.inr hsz) hcC hp,q⟩⟩
end
section
variable{X:Cx}
def hU(K:Df):List V->Hp->(V->Hp->Prop)->Prop:=fun xs H Q=>∃ (p:Addr) (ns:List Int),xs=[V.ref p]/\SqL K H p (ns.map V.int)/\ns.length < 64 /\
 ∀ l (ms:List Int),H l=none->List.Perm ms ns->ms.Pairwise (·<= ·)->Q (.ref l) (upd H l (.lst (ms.map V.int)))
theorem fI{us:List Value}{ns:List Int}(h:IntsAre us ns):ar (ns.map V.int) us:=by
 induction h with
 | nil=>exact .nil
 | cons a t _ ih=>exact .cons ⟨t,rfl⟩ ih
theorem n9:aw X (.builtin "sorted") (hU X.K):=by
 intro pins s σ H xs us Q I r h;obtain ⟨p,ns,rfl,hq,h64,q⟩:=h;obtain ⟨u,rfl,ru⟩:=bn r;cases ru;obtain ⟨its,rv,pl,hz⟩:=I.list hq;have hlen:=rv.length;rw [AO] at hlen
 refine sorted_ints pl.isList (cf rv) (by omega) fun out ms hi hp hs=> ?_
 have hf:H (s.heap.objs.size+1)=none:=I.hok.fresh (CW _);obtain ⟨e,he⟩:=sortedAll_at s.heap its out;refine ⟨.ref (s.heap.objs.size+1),upd H (s.heap.objs.size+1) (.lst (ms.map V.int)),I.laid (t':=s.toks) (fun b o=>sortedAll_old) (CW _) ⟨?_,out.toList,e,fI hi,by simpa using he⟩,rfl,q _ _ hf hp hs⟩;rw [AO,hp.length_eq]
 rwa [AO] at hz
def kE:List V->Hp->(V->Hp->Prop)->Prop:=fun xs H Q=>∃ (p:Addr) (lo hi:Int),xs=[V.ref p]/\H p=some (.rng lo hi) /\ -(2 ^ 62)<=lo/\lo < 2 ^ 62 /\ -(2 ^ 62)<=hi/\hi < 2 ^ 62/\(hi - lo).toNat<=1000 /\
 ∀ l,H l=none->Q (.ref l) (upd H l (.lst ((List.range (hi - lo).toNat).map fun k=>V.int (lo+(k:Nat)))))
theorem fH:∀ {xs:List V} {us:List Value},xs.length=us.length->(∀ (i:Nat) (x:V) (u:Value),xs[i]?=some x->us[i]?=some u->aB x u)->ar xs us
 | [],[],_,_=> .nil
 | x::xs,u::us,h,q=> .cons (q 0 x u rfl rfl) (fH (by simpa using h) fun i x' u' h1 h2=>q (i+1) x' u' (by simpa using h1) (by simpa using h2))
 | [],_::_,h,_=>by simp at h
 | _::_,[],h,_=>by simp at h
theorem rJ(hc:X.calm=true):aw X (.type "list") kE:=by
 intro pins s σ H xs us Q I r h;obtain ⟨p,lo,hi,rfl,hp,h1,h2,h3,h4,hn,q⟩:=h;obtain ⟨u,rfl,ru⟩:=bn r;cases ru;obtain ⟨t,u,v,e⟩:=(show bf X.prog X.w H s.heap p (.rng lo hi) from I.hok p _ hp)
 have hsz:Builtin.Range.rangeSize lo hi 1=((hi - lo).toNat:Nat):=by rw [rangeSize_one];split<;>omega
 refine call_list_range (n:=(hi - lo).toNat) (I.ok.hd hc) (show IsRange s.heap p lo hi 1 t u v from e) (small_one h1 h2 h3 h4) hsz (by omega) fun h' tk acc c hk hS hacc=> ?_
 have hf:H s.heap.objs.size=none:=I.hok.fresh (A8 _);refine ⟨.ref s.heap.objs.size,_,I.laid (o:= .lst ((List.range (hi - lo).toNat).map fun k=>V.int (lo+(k:Nat)))) hk (A8 _) ⟨?_,acc.toList,c,fH ?_ ?_,by simpa using hS⟩,rfl,q _ hf⟩
 ·rw [AO,BR];exact Nat.le_of_lt (cK hn)
 ·rw [AO,BR,BL,hacc.1]
 ·intro i x w hx hw
  rw [Bf] at hx;obtain ⟨k,hk',rfl⟩:=BI.mp hx
  have ek:i=k:=by
   rw [Be] at hk';obtain ⟨z,e⟩:=hk';simpa using e
  subst ek;obtain ⟨t',rfl⟩:=hacc.2 i w (by simpa using hw);refine ⟨t',?_⟩;rw [C0]
end
end L2
namespace St2
open PySem PyProof.Rows
abbrev dF(ns:List Int)(k:Nat):List Int:=firstMet (fun j=>ns.getD j 0) k
abbrev fZ(led:Bool):Obj:={ cls:= .type "set",dict:=none,data:= .set #[] 0 (.fresh 0 0 led) }
section
variable{prog:Program}{w:World}{A:Around}{E:Value->Shared->Prop}{s:Shared}
theorem tj{a:Addr}{its:Array Value}{ns:List Int}{Q:Value->Shared->Prop}(calm:A.handled=none)(tu:IsTup s.heap a its)(inz:IntsAre its.toList ns)(few:its.size+1 < scanBound)
 (q:∀ (h':Heap) (tk:Nat),h'.SetOf (intKind prog w) s.heap.objs.size (fun x=>(dF ns its.size).any (·== x)) (dF ns its.size).length->(∀ b o,b < s.heap.objs.size->s.heap.get? b=some o->h'.get? b=some o)->Q (.ref s.heap.objs.size) { s with heap:=h',toks:=tk }) :
 wpAny (model prog w) A (call (.type "set") [.ref a]) Q E s:=by
 obtain ⟨c0,tl0,mro0⟩:=F.called_set.mro;have m1:=F.called_set.made;have m2:=F.called_set.sub;have m3:=F.called_set.notType;have m4:=F.called_set.canCreate;have m5:=F.typeCall_set_1 (.ref a);refine wpAny_call (codeAny_of_tree ?_)
 show wpAny _ _ (callAny (.type "set") _) _ _ _
 refine AX ⟨Code.quiet_builtin _ (by decide +kernel),codeAny_builtin F.entry_type_call ?_⟩;rw [Around.under_plain (weight_type_call_type "set" [.ref a] []) rfl]
 repeat (any_goals (first | assumption | wp_step))
 refine codeAny_mono (code_set_new_1 (.ref a) (E:=E) (Q₁:=fun ob t1=>∃ led:Bool,ob = .ref s.heap.objs.size/\t1={ s with heap:=s.heap.push (fZ led) }) fun led=>⟨led,rfl,rfl⟩) fun res t1 hres=> ?_
 cases res with
 | error x=>exact hres
 | ok fl =>
  cases fl with
  | next=>exact hres.elim
  | brk=>exact hres.elim
  | cont=>exact hres.elim
  | ret ob =>
   obtain ⟨led,rfl,rfl⟩:=hres;have atS:(s.heap.push (fZ led)).get? s.heap.objs.size=some (fZ led):=AZ _ rfl;have tyS:Shared.TypeIs { s with heap:=s.heap.push (fZ led) } (.ref s.heap.objs.size) "set" := ⟨_,atS,rfl⟩;have i1:=F.called_set.init.lookup;have i2:=F.called_set.init.bind (.ref s.heap.objs.size)
   repeat (any_goals (first | assumption | wp_step))
   refine codeAny_mono (codeAny_call_builtin (R:=wants (fun r t2=>r = .none/\∃ h' tk,t2={ s with heap:=h',toks:=tk }/\h'.SetOf (intKind prog w) s.heap.objs.size (fun x=>(dF ns its.size).any (·== x)) (dF ns its.size).length /\
    (∀ b o,b < s.heap.objs.size->s.heap.get? b=some o->h'.get? b=some o)) E) F.called_set.init.plain F.entry_set_init (check_set_init_1 tyS ?_)) fun r2 t2 hr2=> ?_
   ·obtain ⟨⟨k1,k2,k3,k4⟩,e0,e1,n0,e2⟩:=id tu
    simp only at e1 e2;subst e1 e2;have e0':(s.heap.push (fZ led)).get? a=some ⟨.type "tuple",k2,.seq its n0,k4⟩:=AR _ e0;have j1:=F.sub_tuple_set;have j2:=F.sub_tuple_frozenset
    have j3:(Value.type "tuple" == Value.type "dict")=false:=by decide
    have tu1:IsTup (s.heap.push (fZ led)) a its:=⟨_,e0',rfl,n0,rfl⟩;unfold Builtin.«set.__init__» noKeywords Builtin.Frozenset.updateFrom
    generalize hPy:pyIter=PY
    wp_walk
    subst hPy;refine Bx (show (s.heap.push (fZ led)).IsTuple a its from tu1) ?_;refine AQ (Dd ?_);have lt:a < s.heap.objs.size:=A5 e0
    have calm3:A.in1.in1.in1.handled=none:=by simp [calm]
    have ne1:a≠(s.heap.push (fZ led)).objs.size:=by rw [Bw];exact Bi (B1 lt)
    have out:s.heap.objs.size∉[(s.heap.push (fZ led)).objs.size,a]:=by
     rw [Bw];simp only [A9,Cq,or_false,not_or];exact ⟨Bi (Cp _),Ck lt⟩
    refine codeAny_set_update_loopS ((Walks.tuple calm3 _ a ne1 its).toS) s.heap.objs.size out (fun j=>ns.getD j 0) (fun i v hv=>IntsAre.int_at inz i v (by rw [B8];exact hv)) few (its.size - 0) 0 _ (by omega) (Cv _) ⟨⟨_,AZ _ rfl,rfl,rfl⟩,?T⟩ ?S ?R
    case T=>exact ⟨_,AR _ e0',rfl,n0,rfl⟩
    case S=>exact SetOf_congr ((setObjOf_fresh (knd:=intKind prog w) led).setOf (AR _ atS) (by unfold scanBound;omega)) (fun _=>rfl) rfl
    case R =>
     rintro ⟨h',g',d',tk',os'⟩ mv st;have w1:g'=s.gens:=mv.gens;have w2:d'=s.drawn:=mv.drawn;have w3:os'=s.os:=mv.os;subst w1 w2 w3;refine AX ?_
     show wpAny _ _ (ret Value.none) _ _ _
     refine AX ⟨rfl,h',tk',rfl,st,fun b o lb e=>mv.heap b o ?_ (AR _ (AR _ e))⟩;rw [Bw];simp only [A9,Cq,or_false,not_or];exact ⟨Bi lb,Bi (B1 lb)⟩
   ·cases r2 with
    | error x=>exact hr2
    | ok f2 =>
     cases f2 with
     | ret r =>
      obtain ⟨rfl,h',tk,rfl,st,kp⟩:=hr2
      repeat (any_goals (first | assumption | wp_step))
      exact q _ _ st kp
     | next=>exact hr2.elim
     | brk=>exact hr2.elim
     | cont=>exact hr2.elim
end
end St2
namespace L2
open PySem PySem.Spec PyProof.Rows
section
variable{X:Cx}
def sr:List V->Hp->VK->Prop:=fun xs H Q=>∃ (p:Addr) (S:Int->Bool) (n:Nat),xs=[V.ref p]/\H p=some (.set S n)/\n<=1000/\Q (.int (n:Nat)) H
theorem ql:aw X (.builtin "len") sr:=by
 intro pins s σ H xs us Q I r h;obtain ⟨p,S,n,rfl,hp,hn,q⟩:=h;obtain ⟨u,rfl,ru⟩:=bn r;cases ru;obtain ⟨o,es,ep,t,ho,ex,hd,_,_,_,hf,rfl⟩:=(show s.heap.SetOf (intKind X.prog X.w) p S n from I.hok p _ hp);exact call_len_set ho ex hd hf (by omega) ⟨.int (es.size:Nat),H,I.tok _,⟨_,rfl⟩,q⟩
end
end L2
namespace St2
open PySem PyProof.Rows
theorem oM(ns:List Int):∀ i,i<=ns.length->(List.range i).map (fun j=>ns.getD j 0)=ns.take i
 | 0,_=>rfl
 | i+1,h=>by
  have hi:i < ns.length:=by omega
  rw [List.range_succ,Bm,oM ns i (by omega),List.take_add_one,AN hi];simp [hi]
end St2
namespace Tr2
open PySem PyProof.Rows
section
variable{prog:Program}{w:World}{A:Around}{E:Value->Shared->Prop}{s:Shared}
theorem zD{R:Result->Shared->Prop}{r:Addr}{a b:Int}{t u v:Tok}{k:Nat}(calm:A.handled=none)(rg:IsRange s.heap r a b 1 t u v)(sm:Builtin.Range.small a b 1=true)(sz:Builtin.Range.rangeSize a b 1=k)(few:k<=1000)
 (q:∀ (h':Heap) (tk:Nat) (acc:Array Value) (c0:Nat),(∀ x o,s.heap.get? x=some o->h'.get? x=some o)->h'.get? s.heap.objs.size=some { cls:= .type "list",dict:=none,data:= .seq acc c0,slots := #[] }->ItemsOf (fun i v=>∃ t,v = .int (a+i * 1) t) acc k->R (.ok (.ret (.ref s.heap.objs.size))) { s with heap:=h',toks:=tk }) :
 codeAny (model prog w) A (.builtin "proto.collect" ⟨[.ref r],[]⟩) R s:=by
 refine (codeAny_builtin PySem.F.entry_proto_collect ?_);rw [(Around.under_plainId PySem.F.plain_proto_collect _)]
 show wpAny _ A.in1 (newList [] >>= fun l=>again (.builtin "list.__iadd__" ⟨[l,.ref r],[]⟩)) (_) _ s
 refine AQ (BC (AX ⟨plainId_quiet PySem.F.plain_list_iadd _,codeAny_builtin PySem.F.entry_list_iadd ?_⟩));rw [(Around.under_plainId PySem.F.plain_list_iadd _)];have at_:(s.heap.push { cls:= .type "list",data:= .seq ([]:List Value).toArray }).get? s.heap.objs.size=some { cls:= .type "list",data:= .seq #[] 0 }:=AZ _ rfl
 show wpAny _ A.in1 (Builtin.List.listExtendWith (.ref s.heap.objs.size) (.ref r) (.ref s.heap.objs.size)) (_) _ _
 exact wpAny_extend_range (A:=A) (R:=R) (s:={ s with heap:=s.heap.push { cls:= .type "list",data:= .seq ([]:List Value).toArray } }) calm (AR _ rg) sm sz (by omega) s.heap.objs.size (.ref s.heap.objs.size) 0 at_ fun h' tk acc c0 kp hS it =>
  q h' tk acc c0 (fun x o e=>kp x o (Bi (A5 e)) (AR _ e)) hS it
theorem gather{Q:List Value->Shared->Prop}{r:Addr}{a b:Int}{t u v:Tok}{k:Nat}(calm:A.handled=none)(rg:IsRange s.heap r a b 1 t u v)(sm:Builtin.Range.small a b 1=true)(sz:Builtin.Range.rangeSize a b 1=k)(few:k<=1000)
 (q:∀ (h':Heap) (tk:Nat) (acc:Array Value),s.heap.objs.size < h'.objs.size->(∀ x o,s.heap.get? x=some o->h'.get? x=some o)->ItemsOf (fun i v=>∃ t,v = .int (a+i * 1) t) acc k->Q acc.toList { s with heap:=h',toks:=tk }):wpAny (model prog w) A (collect (.ref r)) Q E s:=by
 unfold collect;refine AQ (Dd (zD calm rg sm sz few fun h' tk acc c0 kp hS it=> ?_))
 show wpAny _ A (load s.heap.objs.size >>= _) (_) _ _
 refine AQ (wpAny_load hS ?_);exact AX (q h' tk acc (A5 hS) kp it)
theorem made{r:Addr}{a b:Int}{t u v:Tok}{k:Nat}(sm:Builtin.Range.small a b 1=true)(sz:Builtin.Range.rangeSize a b 1=k)(few:k<=1000):Meets (Builtin.«tuple.__new__» ⟨[.type "tuple",.ref r],[]⟩)
 (fun A R s=>A.handled=none/\IsRange s.heap r a b 1 t u v/\∀ (h':Heap) (tk:Nat) (acc:Array Value),s.heap.objs.size < h'.objs.size->(∀ x o,s.heap.get? x=some o->h'.get? x=some o)->ItemsOf (fun i v=>∃ t,v = .int (a+i * 1) t) acc k->R (.ok (.ret (.ref h'.objs.size))) { s with heap:=h'.push { cls:= .type "tuple",data:= .seq acc },toks:=tk }) :=
 .of_wp fun prog w A R s h=>by
  obtain ⟨calm,rg,h⟩:=h;have f1:=sub_tuple_self;have f2:=init_tuple_lookup;have f3:=madeHere_tuple;have ty:s.TypeIs (.ref r) "range" := ⟨_,rg,rfl⟩;have calm1:A.in1.handled=none:=calm
  wp_walk using wpAny_typeOf ty,gather calm1 rg sm sz few
  intro h' tk acc lz kp it
  show wpAny _ _ (Builtin.Tuple.tupleExact acc.toList.toArray >>= fun v=>ret v) (_) _ _
  unfold Builtin.Tuple.tupleExact;refine (AQ (BC ?_ (show acc.toList.toArray.size<=sizeLine by simp only [Array.toArray_toList];rw [it.1,sizeLine_eq];omega)));refine AX ⟨_,rfl,?_⟩;rw [show acc.toList.toArray=acc by simp];exact h h' tk acc lz kp it
theorem oI{Q:Value->Shared->Prop}{r:Addr}{a b:Int}{t u v:Tok}{k:Nat}(calm:A.handled=none)(rg:IsRange s.heap r a b 1 t u v)(sm:Builtin.Range.small a b 1=true)(sz:Builtin.Range.rangeSize a b 1=k)(few:k<=1000)
 (q:∀ (h':Heap) (tk:Nat) (acc:Array Value),s.heap.objs.size < h'.objs.size->(∀ x o,s.heap.get? x=some o->h'.get? x=some o)->ItemsOf (fun i v=>∃ t,v = .int (a+i * 1) t) acc k->Q (.ref h'.objs.size) { s with heap:=h'.push { cls:= .type "tuple",data:= .seq acc },toks:=tk }):wpAny (model prog w) A (call (.type "tuple") [.ref r]) Q E s :=
 callType_new PySem.F.called_tuple (by decide) (PySem.F.typeCall_tuple_1 _) (PySem.F.newCall_tuple_1 _) (fun obj=>PySem.F.args_object_init_2 obj _) PySem.F.entry_tuple_new (made sm sz few) ⟨calm,rg,fun h' tk acc lz kp it=>⟨⟨_,AZ _ rfl,rfl⟩,q h' tk acc lz kp it⟩⟩
end
end Tr2
namespace L2
open PySem PySem.Spec PyProof.Rows
section
variable{X:Cx}
def vM:List V->Hp->VK->Prop:=fun xs H Q=>∃ (p:Addr) (lo hi:Int),xs=[V.ref p]/\H p=some (.rng lo hi) /\ -(2 ^ 62)<=lo/\lo < 2 ^ 62 /\ -(2 ^ 62)<=hi/\hi < 2 ^ 62/\(hi - lo).toNat<=1000 /\
 ∀ l,H l=none->Q (.ref l) (upd H l (.tup ((List.range (hi - lo).toNat).map fun k=>V.int (lo+(k:Nat)))))
theorem uq(hc:X.calm=true):aw X (.type "tuple") vM:=by
 intro pins s σ H xs us Q I r h;obtain ⟨p,lo,hi,rfl,hp,h1,h2,h3,h4,hn,q⟩:=h;obtain ⟨u,rfl,ru⟩:=bn r;cases ru;obtain ⟨t,u,v,e⟩:=(show bf X.prog X.w H s.heap p (.rng lo hi) from I.hok p _ hp)
 have hsz:Builtin.Range.rangeSize lo hi 1=((hi - lo).toNat:Nat):=by rw [rangeSize_one];split<;>omega
 refine Tr2.oI (k:=(hi - lo).toNat) (I.ok.hd hc) (show IsRange s.heap p lo hi 1 t u v from e) (small_one h1 h2 h3 h4) hsz hn fun h' tk acc lz kp it=> ?_
 have ge:s.heap.objs.size<=h'.objs.size:=Nat.le_of_lt lz;have hf:H h'.objs.size=none:=I.hok.fresh ge;refine ⟨.ref h'.objs.size,_,I.laid (o:= .tup ((List.range (hi - lo).toNat).map fun k=>V.int (lo+(k:Nat)))) (fun b o z=>AR _ (kp b o z)) ge ⟨?_,acc.toList,fH ?_ ?_,⟨_,AZ _ rfl,rfl,_,rfl⟩⟩,rfl,q _ hf⟩
 ·rw [AO,BR];exact Nat.le_of_lt (cK hn)
 ·rw [AO,BR,BL,it.1]
 ·intro i x w hx hw
  rw [Bf] at hx;obtain ⟨k,hk',rfl⟩:=BI.mp hx
  have ek:i=k:=by
   rw [Be] at hk';obtain ⟨z,e⟩:=hk';simpa using e
  subst ek;obtain ⟨t',rfl⟩:=it.2 i w (by simpa using hw);refine ⟨t',?_⟩;rw [C0]
end
section
variable{X:Cx}
end
section
variable{X:Cx}
end
theorem cJ:∀ {ns:List Int} {us:List Value},ar (ns.map V.int) us->∃ ps:List (Int×Tok),us=ps.map (fun p=>Value.int p.1 p.2)/\ps.map (·.1)=ns
 | [],_,.nil=>⟨[],rfl,rfl⟩
 | n::ns,_,.cons r1 r2=>by
  obtain ⟨t,rfl⟩:=r1;obtain ⟨ps,rfl,e⟩:=cJ r2;exact ⟨(n,t)::ps,rfl,by rw [A4,e]⟩
theorem cm{ps:List (Int×Tok)}{ns:List Int}(e:ps.map (·.1)=ns){i:Nat}(h:i < ns.length):numAt ps.toArray i=ns[i]:=by
 subst e;rw [AO] at h;unfold numAt;simp [h]
section
variable{X:Cx}
def o7(K:Df):List V->Hp->(V->Hp->Prop)->Prop:=fun xs H Q=>∃ (p:Addr) (ns:List Int),xs=[V.ref p]/\SqL K H p (ns.map V.int)/\ns≠[]/\∀ M,M∈ns->(∀ a∈ns,a<=M)->Q (.int M) H
def o5(K:Df):List V->Hp->(V->Hp->Prop)->Prop:=fun xs H Q=>∃ (p:Addr) (ns:List Int),xs=[V.ref p]/\SqL K H p (ns.map V.int)/\ns≠[]/\∀ M,M∈ns->(∀ a∈ns,M<=a)->Q (.int M) H
theorem uC(hc:X.calm=true):aw X (.builtin "max") (o7 X.K):=by
 intro pins s σ H xs us Q I r h;obtain ⟨p,ns,rfl,hq,ne,q⟩:=h;obtain ⟨u,rfl,ru⟩:=bn r;cases ru;obtain ⟨its,rv,pl,hz⟩:=I.list hq;obtain ⟨ps,rfl,e⟩:=cJ rv
 have lp:ps.length=ns.length:=by rw [<- e,AO]
 have n0:0 < ns.length:=BE.mpr ne
 have ei:intItems ps.toArray=(ps.map fun p=>Value.int p.1 p.2).toArray:=by unfold intItems;simp
 obtain ⟨b1,b2⟩:=argBest_gt (numAt ps.toArray) (ps.toArray.size - 1)
 have sz:ps.toArray.size=ns.length:=by simp [lp]
 refine max_intList (xs:=ps.toArray) (I.ok.hd hc) (by rw [ei];exact pl.isList) (by rw [sz];exact n0) fun v h' tk hv k=> ?_
 obtain ⟨t,rfl⟩:=intItems_at hv;rw [sz] at b1 b2 ⊢;refine ⟨.int _,H,I.kept k,⟨t,rfl⟩,q _ ?_ fun a ha=> ?_⟩
 ·rw [cm e (by omega)]
  exact BG _
 ·obtain ⟨j,hj,rfl⟩:=CH ha
  have:=b2 j (by omega);rw [cm e hj] at this;exact this
theorem ux(hc:X.calm=true):aw X (.builtin "min") (o5 X.K):=by
 intro pins s σ H xs us Q I r h;obtain ⟨p,ns,rfl,hq,ne,q⟩:=h;obtain ⟨u,rfl,ru⟩:=bn r;cases ru;obtain ⟨its,rv,pl,hz⟩:=I.list hq;obtain ⟨ps,rfl,e⟩:=cJ rv
 have lp:ps.length=ns.length:=by rw [<- e,AO]
 have n0:0 < ns.length:=BE.mpr ne
 have ei:intItems ps.toArray=(ps.map fun p=>Value.int p.1 p.2).toArray:=by unfold intItems;simp
 obtain ⟨b1,b2⟩:=argBest_lt (numAt ps.toArray) (ps.toArray.size - 1)
 have sz:ps.toArray.size=ns.length:=by simp [lp]
 refine min_intList (xs:=ps.toArray) (I.ok.hd hc) (by rw [ei];exact pl.isList) (by rw [sz];exact n0) fun v h' tk hv k=> ?_
 obtain ⟨t,rfl⟩:=intItems_at hv;rw [sz] at b1 b2 ⊢;refine ⟨.int _,H,I.kept k,⟨t,rfl⟩,q _ ?_ fun a ha=> ?_⟩
 ·rw [cm e (by omega)]
  exact BG _
 ·obtain ⟨j,hj,rfl⟩:=CH ha
  have:=b2 j (by omega);rw [cm e hj] at this;exact this
end
section
variable{X:Cx}
end
end L2
namespace ZpT
open PySem PySem.Spec PyProof.Rows
section
variable{prog:Program}{w:World}{A:Around}{E:Value->Shared->Prop}{s:Shared}
end
open AutoSeq1 (wpAny_loadPart')
section
variable{prog:Program}{w:World}{A:Around}{E:Value->Shared->Prop}{s:Shared}
end
end ZpT
namespace L2
open PySem PySem.Spec PyProof.Rows
section
variable{X:Cx}
end
end L2
namespace St2
open PySem PySem.Spec PyProof.Rows
section
variable{prog:Program}{w:World}{A:Around}{E:Value->Shared->Prop}{s:Shared}
theorem ko{a:Addr}{its:Array Value}{ns:List Int}{Q:Value->Shared->Prop}(calm:A.handled=none)(tu:s.heap.IsList a its)(inz:IntsAre its.toList ns)(few:its.size+1 < scanBound)
 (q:∀ (h':Heap) (tk:Nat),h'.SetOf (intKind prog w) s.heap.objs.size (fun x=>(dF ns its.size).any (·== x)) (dF ns its.size).length->(∀ b o,b < s.heap.objs.size->s.heap.get? b=some o->h'.get? b=some o)->Q (.ref s.heap.objs.size) { s with heap:=h',toks:=tk }) :
 wpAny (model prog w) A (call (.type "set") [.ref a]) Q E s:=by
 obtain ⟨c0,tl0,mro0⟩:=F.called_set.mro;have m1:=F.called_set.made;have m2:=F.called_set.sub;have m3:=F.called_set.notType;have m4:=F.called_set.canCreate;have m5:=F.typeCall_set_1 (.ref a);refine wpAny_call (codeAny_of_tree ?_)
 show wpAny _ _ (callAny (.type "set") _) _ _ _
 refine AX ⟨Code.quiet_builtin _ (by decide +kernel),codeAny_builtin F.entry_type_call ?_⟩;rw [Around.under_plain (weight_type_call_type "set" [.ref a] []) rfl]
 repeat (any_goals (first | assumption | wp_step))
 refine codeAny_mono (code_set_new_1 (.ref a) (E:=E) (Q₁:=fun ob t1=>∃ led:Bool,ob = .ref s.heap.objs.size/\t1={ s with heap:=s.heap.push (fZ led) }) fun led=>⟨led,rfl,rfl⟩) fun res t1 hres=> ?_
 cases res with
 | error x=>exact hres
 | ok fl =>
  cases fl with
  | next=>exact hres.elim
  | brk=>exact hres.elim
  | cont=>exact hres.elim
  | ret ob =>
   obtain ⟨led,rfl,rfl⟩:=hres;have atS:(s.heap.push (fZ led)).get? s.heap.objs.size=some (fZ led):=AZ _ rfl;have tyS:Shared.TypeIs { s with heap:=s.heap.push (fZ led) } (.ref s.heap.objs.size) "set" := ⟨_,atS,rfl⟩;have i1:=F.called_set.init.lookup;have i2:=F.called_set.init.bind (.ref s.heap.objs.size)
   repeat (any_goals (first | assumption | wp_step))
   refine codeAny_mono (codeAny_call_builtin (R:=wants (fun r t2=>r = .none/\∃ h' tk,t2={ s with heap:=h',toks:=tk }/\h'.SetOf (intKind prog w) s.heap.objs.size (fun x=>(dF ns its.size).any (·== x)) (dF ns its.size).length /\
    (∀ b o,b < s.heap.objs.size->s.heap.get? b=some o->h'.get? b=some o)) E) F.called_set.init.plain F.entry_set_init (check_set_init_1 tyS ?_)) fun r2 t2 hr2=> ?_
   ·obtain ⟨⟨k1,k2,k3,k4⟩,e0,e1,n0,e2⟩:=id tu
    simp only at e1 e2;subst e1 e2;have e0':(s.heap.push (fZ led)).get? a=some ⟨.type "list",k2,.seq its n0,k4⟩:=AR _ e0;have j1:=F.sub_list_set;have j2:=F.sub_list_frozenset
    have j3:(Value.type "list" == Value.type "dict")=false:=by decide
    have tu1:(s.heap.push (fZ led)).IsList a its:=⟨_,e0',rfl,n0,rfl⟩;unfold Builtin.«set.__init__» noKeywords Builtin.Frozenset.updateFrom
    generalize hPy:pyIter=PY
    wp_walk
    subst hPy;refine Ci tu1 ?_;refine AQ (Dd ?_);have lt:a < s.heap.objs.size:=A5 e0
    have calm3:A.in1.in1.in1.handled=none:=by simp [calm]
    have ne1:a≠(s.heap.push (fZ led)).objs.size:=by rw [Bw];exact Bi (B1 lt)
    have out:s.heap.objs.size∉[(s.heap.push (fZ led)).objs.size,a]:=by
     rw [Bw];simp only [A9,Cq,or_false,not_or];exact ⟨Bi (Cp _),Ck lt⟩
    refine codeAny_set_update_loopS ((Walks.list calm3 _ a ne1 its).toS) s.heap.objs.size out (fun j=>ns.getD j 0) (fun i v hv=>IntsAre.int_at inz i v (by rw [B8];exact hv)) few (its.size - 0) 0 _ (by omega) (Cv _) ⟨⟨_,AZ _ rfl,rfl,rfl⟩,?T⟩ ?S ?R
    case T=>exact ⟨_,AR _ e0',rfl,n0,rfl⟩
    case S=>exact SetOf_congr ((setObjOf_fresh (knd:=intKind prog w) led).setOf (AR _ atS) (by unfold scanBound;omega)) (fun _=>rfl) rfl
    case R =>
     rintro ⟨h',g',d',tk',os'⟩ mv st;have w1:g'=s.gens:=mv.gens;have w2:d'=s.drawn:=mv.drawn;have w3:os'=s.os:=mv.os;subst w1 w2 w3;refine AX ?_
     show wpAny _ _ (ret Value.none) _ _ _
     refine AX ⟨rfl,h',tk',rfl,st,fun b o lb e=>mv.heap b o ?_ (AR _ (AR _ e))⟩;rw [Bw];simp only [A9,Cq,or_false,not_or];exact ⟨Bi lb,Bi (B1 lb)⟩
   ·cases r2 with
    | error x=>exact hr2
    | ok f2 =>
     cases f2 with
     | ret r =>
      obtain ⟨rfl,h',tk,rfl,st,kp⟩:=hr2
      repeat (any_goals (first | assumption | wp_step))
      exact q _ _ st kp
     | next=>exact hr2.elim
     | brk=>exact hr2.elim
     | cont=>exact hr2.elim
theorem lZ{l:Addr}{vs:List Value}{Q:List Value->Shared->Prop}(hl:s.heap.IsTuple l vs.toArray)
 (h:Q vs { s with heap:=(s.heap.push (seqObj "list" #[] 0)).update s.heap.objs.size (Obj.mapSeq (·++ vs.toArray)) }) (hz:vs.length<=sizeLine):wpAny (model prog w) A (collect (.ref l)) Q E s:=by
 unfold collect;refine AQ (Dd (codeAny_builtin F.entry_proto_collect ?_));unfold Builtin.«proto.collect»
 show wpAny _ _ (newList [] >>= _) _ _ _
 refine AQ (C6 ?_ (by simp));refine AX ⟨Code.quiet_builtin _ (by decide +kernel),codeAny_builtin F.entry_list_iadd ?_⟩;obtain ⟨o,ho,hc,n,hd⟩:=id hl;have ho':(s.heap.push { cls:=Value.type "list",data:=Data.seq #[] }).get? l=some o:=AR _ ho;have hn:(s.heap.push { cls:=Value.type "list",data:=Data.seq #[] }).get? s.heap.objs.size=some { cls:=Value.type "list",data:=Data.seq #[] }:=AZ _ rfl;have hT:Shared.TypeIs { s with heap:=s.heap.push { cls:=Value.type "list",data:=Data.seq #[] } } (.ref l) "tuple" := ⟨o,ho',hc⟩
 show wpAny _ _ (Builtin.List.listExtendWith (.ref s.heap.objs.size) (.ref l) (.ref s.heap.objs.size)) _ _ _
 unfold Builtin.List.listExtendWith;refine AQ (wpAny_typeOf hT ?_)
 have hb:(Builtin.List.listSameRef (.ref s.heap.objs.size) (.ref l)||Value.type "tuple" == Value.type "list" || Value.type "tuple" == Value.type "tuple")=true:=by
  rw [show (Value.type "tuple" == Value.type "tuple")=true by decide,CL]
 rw [if_pos hb];refine AQ (listItems_at ho' hd (AQ (listItems_at hn rfl ?_)))
 show wpAny _ _ (Builtin.List.listUpdate (.ref s.heap.objs.size) (fun x=>x++vs.toArray) >>= _) _ _ _
 refine AQ (listUpdate_at hn rfl ?_ (by simp) (by simp;omega));refine AX ?_;have e:=BS (Obj.mapSeq (·++ vs.toArray)) hn rfl
 show wpAny _ _ (load s.heap.objs.size >>= _) _ _ _
 refine AQ (wpAny_load e ?_)
 show wpAny _ _ (pure (#[]++vs.toArray).toList) _ _ _
 refine AX ?_;simpa using h
end
end St2
namespace L2
open PySem PySem.Spec PyProof.Rows
section
variable{X:Cx}
def g9(K:Df):List V->Hp->(V->Hp->Prop)->Prop:=fun xs H Q=>∃ (p:Addr) (ns:List Int),xs=[V.ref p]/\SqT K H p (ns.map V.int)/\ns.length < 64 /\
 ∀ l (ms:List Int),H l=none->List.Perm ms ns->ms.Pairwise (·<= ·)->Q (.ref l) (upd H l (.lst (ms.map V.int)))
theorem n8:aw X (.builtin "sorted") (g9 X.K):=by
 intro pins s σ H xs us Q I r h;obtain ⟨p,ns,rfl,hq,h64,q⟩:=h;obtain ⟨u,rfl,ru⟩:=bn r;cases ru;obtain ⟨its,rv,pl,hz⟩:=I.tuple hq;have hlen:=rv.length;rw [AO] at hlen;refine Calls.call_function_entry kind_sorted plain_sorted entry_sorted (args_sorted1 _) ?_;unfold Builtin.«sorted»;refine AQ (m:=checkCount "sorted" 1 1 _) (AX ?_);have lsz:sizeLine=16777216:=sizeLine_eq;refine AQ (St2.lZ (show s.heap.IsTuple p its.toArray from pl) (AQ (C6 ?_ (by omega))) (by omega))
 generalize hh1:(s.heap.push (seqObj "list" #[] 0)).update s.heap.objs.size (Obj.mapSeq (·++ its.toArray))=h1
 have hsz:h1.objs.size=s.heap.objs.size+1:=by rw [<- hh1,Heap.size_update,size_push']
 have k1:∀ b o,s.heap.get? b=some o->h1.get? b=some o:=fun b o q=>by
  rw [<- hh1];exact (Ct _ _ (Ne.symm (Bi (A5 q)))).trans (AR _ q)
 show wpAny _ _ _ _ _ { s with heap:=h1.push (seqObj "list" its.toArray 0) }
 have oL:(h1.push (seqObj "list" its.toArray 0)).get? h1.objs.size=some (seqObj "list" its.toArray 0):=AZ _ rfl;refine AQ (Ca (BF slot_list_sort ⟨_,oL,rfl⟩ entry_list_sort (list_sort_tree oL (cf rv) (by omega) fun out ms hi hp hs=>⟨_,rfl,?_⟩) (args_list_sort _)))
 have hle:s.heap.objs.size<=h1.objs.size:=by rw [hsz];exact CW _
 have hf:H h1.objs.size=none:=I.hok.fresh hle;obtain ⟨e,he⟩:=sortedHeap_at (out:=out) oL;refine AX ⟨_,rfl,.ref h1.objs.size,upd H h1.objs.size (.lst (ms.map V.int)),I.laid (t':=s.toks) (fun b o q=> ?_) hle ⟨?_,out.toList,e,fI hi,by simpa using he⟩,rfl,q _ _ hf hp hs⟩
 ·have lb:=A5 (k1 b o q)
  rw [sortedHeap_old (Bi lb) (by rw [Bw];exact B1 lb)];exact AR _ (k1 b o q)
 ·rw [AO,hp.length_eq]
  rwa [AO] at hz
end
section
variable{X:Cx}
def vO(K:Df):List V->Hp->(V->Hp->Prop)->Prop:=fun xs H Q=>∃ (p:Addr) (ns:List Int),xs=[V.ref p]/\SqL K H p (ns.map V.int)/\Q (.int ns.sum) H
theorem ut(hc:X.calm=true):aw X (.builtin "sum") (vO X.K):=by
 intro pins s σ H xs us Q I r h;obtain ⟨p,ns,rfl,hq,q⟩:=h;obtain ⟨u,rfl,ru⟩:=bn r;cases ru;obtain ⟨its,rv,pl,hz⟩:=I.list hq;obtain ⟨ps,rfl,e⟩:=cJ rv
 have ei:intItems ps.toArray=(ps.map fun p=>Value.int p.1 p.2).toArray:=by unfold intItems;simp
 refine sum_intListG (xs:=ps.toArray) (I.ok.hd hc) (by rw [ei];exact pl.isList) fun h' tk t' k=> ?_
 have es:preSum (numAt ps.toArray) ps.toArray.size=ns.sum:=by
  rw [preSum_eq,CV (by simp),<- e]
 rw [es];exact ⟨.int _,H,I.kept k,⟨t',rfl⟩,q⟩
def vN(K:Df):List V->Hp->(V->Hp->Prop)->Prop:=fun xs H Q=>∃ (p:Addr) (ns:List Int),xs=[V.ref p]/\SqT K H p (ns.map V.int)/\Q (.int ns.sum) H
theorem ur(hc:X.calm=true):aw X (.builtin "sum") (vN X.K):=by
 intro pins s σ H xs us Q I r h;obtain ⟨p,ns,rfl,hq,q⟩:=h;obtain ⟨u,rfl,ru⟩:=bn r;cases ru;obtain ⟨its,rv,pl,hz⟩:=I.tuple hq;obtain ⟨ps,rfl,e⟩:=cJ rv
 have ei:intItems ps.toArray=(ps.map fun p=>Value.int p.1 p.2).toArray:=by unfold intItems;simp
 have ht:s.heap.IsTuple p (intItems ps.toArray):=by rw [ei];exact pl
 have hlt:p < s.heap.objs.size:=by obtain ⟨_,e,_⟩:=ht;exact A5 e
 have sz:(intItems ps.toArray).size=ps.toArray.size:=by unfold intItems;simp
 have es:preSum (numAt ps.toArray) (intItems ps.toArray).size=ns.sum:=by
  rw [sz,preSum_eq,CV (by simp),<- e]
 refine call_sum_walkG (Bx ht ?_);refine ⟨s.heap.objs.size,_,_,_,_,_,numAt ps.toArray,rfl,Walks.tuple (A:=X.A.in1) (I.ok.hd hc) _ p (Bi hlt) (intItems ps.toArray),⟨⟨_,AZ _ rfl,rfl,rfl⟩,ht.push _⟩,fun b hb=> ?_,fun _ _=>intItems_at,fun h' tk t' hk=> ?_⟩
 ·show b < (s.heap.push _).objs.size
  rw [Bw]
  have hb':b=s.heap.objs.size\/b=p:=by simpa using hb
  rcases hb' with rfl | rfl
  ·exact Cp _
  ·exact B1 hlt
 ·rw [es]
  exact ⟨.int _,H,I.kept fun b o hb=>hk b o (by have:=Bi (A5 hb);simpa using this) (AR _ hb),⟨t',rfl⟩,q⟩
theorem p6(l:Addr)(items:Array Value)(n:Nat)(b:Addr)(items2:Array Value)(n2:Nat)(dd:Option Addr)(ss:Array (Option Value))(hs0:¬(!items.isEmpty&&Builtin.List.listTooLong (items.size+items2.size))=true)(hs1:items.size<=sizeLine)(hs2:items.size+items2.size<=sizeLine+1) :
 Meets (Builtin.«list.extend» ⟨[.ref l,.ref b],[]⟩) (fun _ R s=>s.heap.get? l=some { cls:= .type "list",dict:=none,data:= .seq items n,slots := #[] }/\s.heap.get? b=some { cls:= .type "tuple",dict:=dd,data:= .seq items2 n2,slots:=ss }/\R (.ok (.ret Value.none)) { s with heap:=s.heap.update l (Obj.mapSeq fun x=>x++items2),toks:=s.toks }) :=
 .of_wp fun prog w A R s h=>by
  obtain ⟨hp,g,d,tk,os⟩:=s;obtain ⟨hl,hb,h⟩:=h;have f1:=AutoSeq1.idx_int;have f2:=AutoSeq1.sub_tuple_tuple;have f3:=AutoSeq1.sub_list_list;have f4:=AutoSeq1.sub_tuple_list;have f5:=AutoSeq1.sub_list_tuple;
  have hz':(items++items2).size<=sizeLine+1:=by rw [Array.size_append];exact hs2
  wp_walk using (wpAny_updateSeq hl rfl (hz:=hs1) (_hz':=hz')),AutoSeq1.wpAny_loadPart' hl,AutoSeq1.wpAny_loadPart' hb;exact ⟨_,rfl,h⟩
def o8:V->List V->Hp->VK->Prop:=fun x vs H Q=>∃ l b xs zs,x = .ref l/\vs=[.ref b]/\H l=some (.lst xs)/\H b=some (.tup zs)/\xs.length+zs.length<=sizeLine/\Q .non (upd H l (.lst (xs++zs)))
theorem qP:MtM X "list.extend" o8:=by
 intro pins s σ H x vs v us Q I rx rv h;obtain ⟨l,b,xs,zs,rfl,rfl,hH,hB,hz,q⟩:=h;cases rx;obtain ⟨u,rfl,ru⟩:=rv.one;cases ru;obtain ⟨z,its,n,r,hl,e⟩:=I.lstM hH;obtain ⟨z2,its2,r2,⟨cl,dd,dt,ss⟩,e2,ec,n2,ed⟩:=I.hok b _ hB;dsimp only at ec ed;subst ec ed;have hl2:=r2.length
 have hsz:its.toArray.size+its2.toArray.size<=sizeLine:=by rw [AW,AW];omega
 have hlong:¬ (!its.toArray.isEmpty&&Builtin.List.listTooLong (its.toArray.size+its2.toArray.size))=true:=by
  rw [kZ hsz,B4];exact Bj
 refine call_meets F.slot_list_extend ⟨_,e,rfl⟩ F.entry_list_extend (F.args_list_extend_2 _ _)
  (p6 l its.toArray n b its2.toArray n2 dd ss hlong (by rw [AW];omega) (by omega)) ⟨e,e2,?_⟩
 refine ⟨.non,_,I.lset (its':=its++its2) hH e (by simp) (r.append r2) ?_,rfl,q⟩;rw [A7];omega
end
section
variable{X:Cx}
end
section
variable{X:Cx}
end
section
variable{X:Cx}{o i:Expr}{pos:Pos}{td ty:TE}
end
section
variable{X:Cx}{Pre:St->Hp->Prop}{R:Hp->V->Prop}
end
section
variable{X:Cx}{Pre:St->Hp->Prop}{R:Hp->V->Prop}
end
section
variable{X:Cx}
end
section
variable{X:Cx}
end
end L2
namespace St2
open PySem PySem.Spec PyProof.Rows
section
variable{prog:Program}{w:World}{A:Around}{E:Value->Shared->Prop}{s:Shared}
end
end St2
namespace L2
open PySem PySem.Spec PyProof.Rows
section
variable{X:Cx}
end
end L2
namespace St3
open PySem PySem.Spec PyProof.Rows PySem.SeqAt PySem.MeetsSeq PySem.MeetsSeq2 PySem.MeetsSeq3
theorem jz(ns:List Int)(x:Int):(St2.dF ns ns.length).any (·== x)=true↔x∈ns:=by
 have e:=firstMet_any (fun j=>ns.getD j 0) ns.length x;rw [show (St2.dF ns ns.length).any (·== x)=(firstMet (fun j=>ns.getD j 0) ns.length).any (·== x) from rfl,e,St2.oM ns ns.length (A8 _),List.take_length];simp
end St3
namespace L2
open PySem PySem.Spec PyProof.Rows
section
variable{X:Cx}
def qG(K:Df):List V->Hp->VK->Prop:=fun xs H Q=>∃ (p:Addr) (ns:List Int),xs=[V.ref p]/\SqL K H p (ns.map V.int)/\ns.length<=1000 /\
 ∀ l S,H l=none->(∀ x,S x=true↔x∈ns)->Q (.ref l) (upd H l (.set S (St2.dF ns ns.length).length))
theorem rG(hc:X.calm=true):aw X (.type "set") (qG X.K):=by
 intro pins s σ H xs us Q I r h;obtain ⟨p,ns,rfl,hq,hn,q⟩:=h;obtain ⟨u,rfl,ru⟩:=bn r;cases ru;obtain ⟨its,rv,pt,_⟩:=I.list hq
 have ln:its.length=ns.length:=by rw [<- rv.length,AO]
 refine St2.ko (ns:=ns) (I.ok.hd hc) pt.isList (by simpa using cf rv) (by rw [AW,ln];unfold scanBound;omega) fun h' tk st kp=> ?_
 have sz:its.toArray.size=ns.length:=by rw [AW,ln]
 rw [sz] at st;have hf:H s.heap.objs.size=none:=I.hok.fresh (A8 _);exact ⟨.ref s.heap.objs.size,_,I.laid (o:= .set _ _) (fun b o e=>kp b o (A5 e) e) (A8 _) st,rfl,q _ _ hf (St3.jz ns)⟩
end
section
variable{X:Cx}
end
section
variable{X:Cx}
end
end L2
namespace St4
open PySem PySem.Spec PyProof.Rows PySem.W
section
variable{prog:Program}{w:World}{A:Around}{E:Value->Shared->Prop}{s:Shared}{T:String}{r d:Addr}{n:Nat}{P:Nat->Value->Prop}{OK:Heap->Prop}
end
end St4
namespace L2
open PySem PySem.Spec PyProof.Rows PySem.W
section
variable{X:Cx}
end
section
variable{X:Cx}
end
end L2
namespace L2
open PySem PySem.Spec PyProof.Rows
section
variable{X:Cx}
end
section
variable{X:Cx}
end
section
variable{X:Cx}
variable{o e:Expr}{es:List Expr}{to:TE}{t:TA}{name:Str}{apos cpos:Pos}{id:String}{r:V->List V->Hp->VK->Prop}
end
section
variable{X:Cx}{Pre:St->Hp->Prop}{R R':Hp->V->Prop}
end
mutual
def rR(K:Df)(H:Hp):PyData->V->Prop
 | .none,v=>v = .non
 | .bool b,v=>v = .bl b
 | .int i,v=>v = .int i
 | .str x,v=>v = .str x
 | .list ds,v=>∃ p xs,v = .ref p/\SqL K H p xs/\gY K H ds xs
 | .tuple ds,v=>∃ p xs,v = .ref p/\SqT K H p xs/\gY K H ds xs
 | .dict kvs,v=>kvs=[]/\∃ p,v = .ref p/\(H p=some (.dK [])\/H p=some (.dT []))
def gY(K:Df)(H:Hp):List PyData->List V->Prop
 | [],[]=>True
 | d::ds,x::xs=>rR K H d x/\gY K H ds xs
 | _,_=>False
end
mutual
theorem ad.repP{K:Df}{H H':Hp}(e:ad H H'):∀ {d:PyData} {v:V},rR K H d v->rR K H' d v
 | .none,_,h=>h
 | .bool _,_,h=>h
 | .int _,_,h=>h
 | .str _,_,h=>h
 | .list _,_,⟨p,xs,h1,h2,h3⟩=>⟨p,xs,h1,e.seq h2,e.repPL h3⟩
 | .tuple _,_,⟨p,xs,h1,h2,h3⟩=>⟨p,xs,h1,e.tup h2,e.repPL h3⟩
 | .dict _,_,⟨h0,p,h1,h2⟩=>⟨h0,p,h1,h2.elim (fun z=> .inl (e _ _ z)) fun z=> .inr (e _ _ z)⟩
theorem ad.repPL{K:Df}{H H':Hp}(e:ad H H'):∀ {ds:List PyData} {xs:List V},gY K H ds xs->gY K H' ds xs
 | [],[],_=>trivial
 | _::_,_::_,h=>⟨e.repP h.1,e.repPL h.2⟩
 | [],_::_,h=>h.elim
 | _::_,[],h=>h.elim
end
def l6:PyData->Dt
 | .none=> .non | .bool b=> .bl b | .int i=> .int i | .str x=> .str x | .list _=> .lst | .dict _=> .dct | .tuple ds=> .tup (ds.map l6)
mutual
theorem rR.rep{K:Df}{H:Hp}:∀ {d:PyData} {v:V},rR K H d v->Rep K H (l6 d) v
 | .none,_,h=>by unfold l6;exact h
 | .bool _,_,h=>by unfold l6;exact h
 | .int _,_,h=>by unfold l6;exact h
 | .str _,_,h=>by unfold l6;exact h
 | .list _,_,⟨p,xs,h1,h2,_⟩=>by unfold l6;exact ⟨p,xs,h1,h2⟩
 | .tuple _,_,⟨p,xs,h1,h2,h3⟩=>by unfold l6;exact ⟨p,xs,h1,h2,gY.rep h3⟩
 | .dict _,_,⟨_,p,h1,h2⟩=>by unfold l6;exact ⟨p,h1,h2.elim (fun z=> .inl ⟨_,z⟩) fun z=> .inr ⟨_,z⟩⟩
theorem gY.rep{K:Df}{H:Hp}:∀ {ds:List PyData} {xs:List V},gY K H ds xs->xN K H (ds.map l6) xs
 | [],[],_=>trivial
 | _::_,_::_,h=>⟨rR.rep h.1,gY.rep h.2⟩
 | [],_::_,h=>h.elim
 | _::_,[],h=>h.elim
end
section
variable{X:Cx}{pins:List (Addr×Obj)}{σ:St}{H:Hp}{s:Shared}
mutual
theorem vJ(I:Inv X pins σ H s):∀ {d:PyData} {v:V} {u:Value},rR X.K H d v->aB v u->∃ as,Reads s.heap u d as/\((d = .dict []\/d.hasDict=false)->d.hasDict=true->sysModules∉as)
 | .none,_,_,h,r=>by cases h;cases r;exact ⟨[],.none,fun _ z=>by simp [PyData.hasDict] at z⟩
 | .bool b,_,_,h,r=>by cases h;cases r;exact ⟨[],.bool b,fun _ z=>by simp [PyData.hasDict] at z⟩
 | .int i,_,_,h,r=>by cases h;obtain ⟨t,rfl⟩:=r;exact ⟨[],.int i t,fun _ z=>by simp [PyData.hasDict] at z⟩
 | .str x,_,_,h,r=>by cases h;obtain ⟨t,rfl⟩:=r;exact ⟨[],.str x t,fun _ z=>by simp [PyData.hasDict] at z⟩
 | .list ds,_,_,⟨p,xs,h1,h2,h3⟩,r=>by
  subst h1;cases r;obtain ⟨its,rv,pl,_⟩:=I.list h2;obtain ⟨o,e1,e2,n,e3⟩:=pl.isList;obtain ⟨as,ra⟩:=fW I h3 rv;refine ⟨p::as,.list e1 e2 e3 (by simpa using ra),fun z1 z2=> ?_⟩
  rcases z1 with z1 | z1
  ·cases z1
  ·rw [z2] at z1;cases z1
 | .tuple ds,_,_,⟨p,xs,h1,h2,h3⟩,r=>by
  subst h1;cases r;obtain ⟨its,rv,pl,_⟩:=I.tuple h2;obtain ⟨o,e1,e2,n,e3⟩:=pl;obtain ⟨as,ra⟩:=fW I h3 rv;refine ⟨as,.tuple e1 e2 e3 (by simpa using ra),fun z1 z2=> ?_⟩
  rcases z1 with z1 | z1
  ·cases z1
  ·rw [z2] at z1;cases z1
 | .dict kvs,_,_,⟨h0,p,h1,h2⟩,r=>by
  subst h1 h0;cases r
  have z:∃ o es ep,s.heap.get? p=some o/\o.cls = .type "dict" /\ o.data = .dict es ep/\es.toList=[]/\(p == sysModules)=false:=by
   rcases h2 with h2 | h2
   ·obtain ⟨_,ne,vs,kv,o,es,ep,e,ex,hd,_,pr,_⟩:=I.hok p _ h2
    cases kv;refine ⟨o,es,ep,e,ex.1,hd,?_,ne⟩
    cases hes:es.toList with
    | nil=>rfl
    | cons a l=>rw [hes] at pr;cases pr
   ·obtain ⟨_,ne,xs,pr,o,es,ep,e,ex,hd,hl,_⟩:=I.hok p _ h2
    cases pr;exact ⟨o,es,ep,e,ex.1,hd,hl,ne⟩
  obtain ⟨o,es,ep,e1,e2,e3,e4,ne⟩:=z;refine ⟨_,.dict (as:=[]) (bs:=[]) e1 e2 e3 (by rw [e4];exact .nil) (by rw [e4];exact .nil),fun _ _ hm=> ?_⟩
  have:sysModules=p:=by simpa using hm
  rw [this] at ne;simp at ne
theorem fW(I:Inv X pins σ H s):∀ {ds:List PyData} {xs:List V} {us:List Value},gY X.K H ds xs->ar xs us->∃ as,ReadsAll s.heap us ds as
 | [],[],_,_,r=>by cases r;exact ⟨[],.nil⟩
 | _::_,_::_,_,h,r=>by
  cases r with
  | cons r t =>
   obtain ⟨a1,r1,_⟩:=vJ I h.1 r;obtain ⟨a2,r2⟩:=fW I h.2 t;exact ⟨a1++a2,.cons r1 r2⟩
 | [],_::_,_,h,_=>h.elim
 | _::_,[],_,h,_=>h.elim
end
end
section
variable{X:Cx}
end
section
variable{X:Cx}{a b c d:Expr}{ta tb tc td:TE}{pos:Pos}
end
section
open PySem.SeqAt PySem.MeetsSeq
open AutoSeq1 (wpAny_loadPart')
variable{A:Around}{s:Shared}
end
section
variable{X:Cx}
end
section
variable{X:Cx}{tg:Expr}
end
end L2
namespace ZpA
open PySem PySem.Spec PyProof.Rows
inductive Kd where
 | L | T
def nm:Kd->String
 | .L => "list"
 | .T => "tuple"
def It:Kd->Heap->Addr->Addr->Nat->Prop
 | .L=>fun h it l i=>h.IsListIter it l i
 | .T=>fun h it l i=>h.IsTupleIter it l i
def Sq:Kd->Heap->Addr->Array Value->Prop
 | .L=>fun h l xs=>h.IsList l xs
 | .T=>fun h l xs=>h.IsTuple l xs
def wQ:Kd->Addr->Obj
 | .L=>fun l=>{ cls:= .type "list_iterator",data:= .fields #[.ref l,.int 0 0] }
 | .T=>fun l=>{ cls:= .type "tuple_iterator",data:= .fields #[.ref l,.int 0 0] }
theorem It.at{c:Kd}{h h':Heap}{it l:Addr}{i:Nat}(x:It c h it l i)(k:∀ o,h.get? it=some o->h'.get? it=some o):It c h' it l i:=by
 cases c with
 | L=>exact Heap.IsListIter.at (show h.IsListIter it l i from x) k
 | T=>exact Heap.IsTupleIter.at (show h.IsTupleIter it l i from x) k
theorem It.obj{c:Kd}{h:Heap}{it l:Addr}{i:Nat}(x:It c h it l i):∃ o,h.get? it=some o/\(∃ vs,o.data = .fields vs)/\(o.cls = .type "list_iterator" \/ o.cls = .type "tuple_iterator"):=by
 cases c with
 | L=>obtain ⟨o,ho,hc,hd⟩:=(show h.IsListIter it l i from x);exact ⟨o,ho,⟨_,hd⟩,.inl hc⟩
 | T=>obtain ⟨o,ho,hc,hd⟩:=(show h.IsTupleIter it l i from x);exact ⟨o,ho,⟨_,hd⟩,.inr hc⟩
theorem Sq.at{c:Kd}{h h':Heap}{l:Addr}{xs:Array Value}(x:Sq c h l xs)(k:∀ o,h.get? l=some o->h'.get? l=some o):Sq c h' l xs:=by
 cases c with
 | L=>obtain ⟨o,ho,r⟩:=(show h.IsList l xs from x);exact ⟨o,k o ho,r⟩
 | T=>obtain ⟨o,ho,r⟩:=(show h.IsTuple l xs from x);exact ⟨o,k o ho,r⟩
theorem Sq.obj{c:Kd}{h:Heap}{l:Addr}{xs:Array Value}(x:Sq c h l xs):∃ o,h.get? l=some o/\(o.cls = .type "list" \/ o.cls = .type "tuple"):=by
 cases c with
 | L=>obtain ⟨o,ho,r,_⟩:=(show h.IsList l xs from x);exact ⟨o,ho,.inl r⟩
 | T=>obtain ⟨o,ho,r,_⟩:=(show h.IsTuple l xs from x);exact ⟨o,ho,.inr r⟩
theorem It.new{c:Kd}{h:Heap}{l:Addr}:It c (h.push (wQ c l)) h.objs.size l 0:=by
 cases c with
 | L=>exact ⟨_,AZ _ rfl,rfl,rfl⟩
 | T=>exact ⟨_,AZ _ rfl,rfl,rfl⟩
section
variable{prog:Program}{w:World}{A:Around}{E:Value->Shared->Prop}{s:Shared}
theorem eP{c:Kd}{it l:Addr}{i:Nat}{items}{x:Value}{Q:Value->Shared->Prop}(hit:It c s.heap it l i)(hl:Sq c s.heap l items)(hx:items[i]?=some x)
 (hQ:∀ h',It c h' it l (i+1)->Heap.SameBut it s.heap h'->Q x { s with heap:=h' }):wpAny (model prog w) A (Builtin.SmallTypes.nextOf (.ref it)) Q E s:=by
 cases c with
 | L=>exact wpAny_nextOf_list_item (show s.heap.IsListIter it l i from hit) (show s.heap.IsList l items from hl) hx hQ
 | T=>exact EnT.eP (show s.heap.IsTupleIter it l i from hit) (show s.heap.IsTuple l items from hl) hx hQ
theorem fY{c:Kd}{it l:Addr}{i:Nat}{items}{Q:Value->Shared->Prop}(hh:A.handled=none)(hit:It c s.heap it l i)(hl:Sq c s.heap l items)(hx:items[i]?=none)
 (hE:∀ h' e,Heap.ExtBut it s.heap h'->(∃ o,h'.get? e=some o/\o.cls = .type "StopIteration")->E (.ref e) { s with heap:=h' }):wpAny (model prog w) A (Builtin.SmallTypes.nextOf (.ref it)) Q E s:=by
 cases c with
 | L=>exact wpAny_nextOf_list_end hh (show s.heap.IsListIter it l i from hit) (show s.heap.IsList l items from hl) hx hE
 | T=>exact EnT.fY hh (show s.heap.IsTupleIter it l i from hit) (show s.heap.IsTuple l items from hl) hx hE
end
theorem draws{prog:Program}{w:World}{A:Around}{c:Kd}(hh:A.handled=none)(it l:Addr)(hne:l≠it)(items:Array Value) :
 Draws prog w A it [it,l] items.size (fun i v=>items[i]?=some v) (fun i h=>It c h it l i/\Sq c h l items) where
 live:=fun _ _ st=>let ⟨o,ho,_⟩:=st.1.obj;⟨o,ho⟩
 frame:=fun _ _ _ st hk=>⟨st.1.at fun o e=>hk it (by simp) o e,st.2.at fun o e=>hk l (by simp) o e⟩
 item:=fun i s Q E hi st hQ=>by
  refine eP st.1 st.2 (x:=items[i]) (by simp [hi]) fun h' hit' hs'=> ?_
  exact hQ _ h' s.toks (by simp [hi]) ⟨hit',st.2.at fun o e=>hs'.extBut _ _ hne e⟩ hs'
 done:=fun s Q E st hE=>fY hh st.1 st.2 (by simp) hE
section
variable{prog:Program}{w:World}{A:Around}{E:Value->Shared->Prop}{s:Shared}
theorem uU{c1 c2:Kd}{z TI TO i1 i2 l1 l2:Addr}{k:Nat}{xs ys:Array Value}{x y a b:Value}{Q:Option Value->Shared->Prop}(ap:ZipApart z TI TO i1 i2 l1 l2)(hz:IsZip s.heap z TI TO .none)(hTI:IsPair s.heap TI (.ref i1) (.ref i2))(hTO:IsPair s.heap TO a b)
 (h1:It c1 s.heap i1 l1 k) (h2:It c2 s.heap i2 l2 k) (t1:Sq c1 s.heap l1 xs) (t2:Sq c2 s.heap l2 ys) (hx:xs[k]?=some x) (hy:ys[k]?=some y)
 (hQ:∀ h',IsZip h' z TI TO (rawInt s.heap.objs.size)->IsPair h' TO x y->It c1 h' i1 l1 (k+1)->It c2 h' i2 l2 (k+1)->IsPair h' s.heap.objs.size x y->(∀ c o,c≠z->c≠TO->c≠i1->c≠i2->s.heap.get? c=some o->h'.get? c=some o)->Q (some (.ref s.heap.objs.size)) { s with heap:=h' }) :
 wpAny (model prog w) A (pyNext (.ref z)) Q E s:=by
 have hT:s.TypeIs (.ref z) "zip" := ⟨_,hz,rfl⟩;unfold pyNext
 refine AQ (wpAny_attempt (By (name:=Str.ofString "__next__") hT F.slot_zip_next
  (BF F.slot_zip_next hT F.entry_zip_next ?_ (F.args_zip_next_1 _))))
 show wpAny _ _ (field (.ref z) 2 >>= _) _ _ _
 refine AQ (BU hz rfl (x:= .bool false) rfl ?_)
 show wpAny _ _ (field (.ref z) 3 >>= _) _ _ _
 refine AQ (BU hz rfl (x:= .ref TI) rfl ?_)
 show wpAny _ _ (seqItems? (.ref TI) >>= _) _ _ _
 refine AQ (CB hTI rfl ?_)
 show wpAny _ _ (Builtin.SmallTypes.ownedTupleIsFree (.ref z) >>= _) _ _ _
 unfold Builtin.SmallTypes.ownedTupleIsFree;refine AQ (AQ (BU hz rfl (x:= .none) rfl (AX ?_)))
 show wpAny _ _ (rule "zip.__next__.owned-tuple-again" >>= _) _ _ _
 refine AQ (wpAny_rule ?_)
 show wpAny _ _ (field (.ref z) 4 >>= _) _ _ _
 refine AQ (BU hz rfl (x:= .ref TO) rfl ?_)
 show wpAny _ _ (setField (.ref z) 0 .ellipsis >>= _) _ _ _
 refine AQ (Cd hz rfl (show 0 < 5 by decide) ?_);have zA:IsZip (s.heap.update z (Obj.mapFields fun q=>q.setIfInBounds 0 .ellipsis)) z TI TO .ellipsis:=BS _ hz rfl;have sA:Heap.SameBut z s.heap (s.heap.update z (Obj.mapFields fun q=>q.setIfInBounds 0 .ellipsis)):=Heap.SameBut.update ..
 generalize s.heap.update z (Obj.mapFields fun q=>q.setIfInBounds 0 .ellipsis)=hA at zA sA ⊢
 have ksA:∀ c o,c≠z->s.heap.get? c=some o->hA.get? c=some o:=fun c o n q=>(sA.2 c n).trans q
 have toA:IsPair hA TO a b:=ksA _ _ ap.TOz hTO
 have i1A:It c1 hA i1 l1 k:=h1.at fun o q=>ksA i1 o ap.i1z q
 have i2A:It c2 hA i2 l2 k:=h2.at fun o q=>ksA i2 o ap.i2z q
 have t1A:Sq c1 hA l1 xs:=t1.at fun o ho=>ksA l1 o ap.l1z ho
 have t2A:Sq c2 hA l2 ys:=t2.at fun o ho=>ksA l2 o ap.l2z ho
 show wpAny _ _ (forIn [(Value.ref i1,0),(Value.ref i2,1)] ((none:Option Fin),()) _ >>= _) _ _ _
 rw [List.forIn_cons];refine AQ (AQ (AQ (wpAny_onRaise ?_)))
 show wpAny _ _ (Builtin.SmallTypes.nextOf (.ref i1) >>= fun v=>pure (some v)) _ _ _
 refine AQ (eP (s:={ s with heap:=hA }) i1A t1A hx fun hB i1B sB=>AX ?_)
 have ksB:∀ c o,c≠i1->hA.get? c=some o->hB.get? c=some o:=fun c o n q=>(sB.2 c n).trans q
 have toB:IsPair hB TO a b:=ksB _ _ ap.TOi1 toA
 show wpAny _ _ (seqItems? (.ref TO) >>= _) _ _ _
 refine AQ (CB toB rfl ?_)
 show wpAny _ _ (updateSeq TO (fun q=>q.setIfInBounds 0 x) >>= _) _ _ _
 refine AQ (wpAny_updateSeq_pair (s:={ s with heap:=hB }) toB fun hC toC sC=> ?_);refine AQ (wpAny_letGo (AX ?_))
 have ksC:∀ c o,c≠TO->hB.get? c=some o->hC.get? c=some o:=fun c o n q=>(sC.2 c n).trans q
 have i1C:It c1 hC i1 l1 (k+1):=i1B.at fun o q=>ksC i1 o (Ne.symm ap.TOi1) q
 have i2C:It c2 hC i2 l2 k:=(i2A.at fun o q=>ksB i2 o (Ne.symm ap.i12) q).at fun o q=>ksC i2 o (Ne.symm ap.TOi2) q
 have t2C:Sq c2 hC l2 ys:=t2A.at fun o ho=>ksC l2 o ap.l2TO (ksB l2 o ap.l2i1 ho)
 have zC:IsZip hC z TI TO .ellipsis:=ksC _ _ (Ne.symm ap.TOz) (ksB _ _ (Ne.symm ap.i1z) zA);have toC:IsPair hC TO x b:=toC
 show wpAny _ _ (forIn [(Value.ref i2,1)] ((none:Option Fin),()) _) _ _ _
 rw [List.forIn_cons];refine AQ (AQ (wpAny_onRaise ?_))
 show wpAny _ _ (Builtin.SmallTypes.nextOf (.ref i2) >>= fun v=>pure (some v)) _ _ _
 refine AQ (eP (s:={ s with heap:=hC }) i2C t2C hy fun hD i2D sD=>AX ?_)
 have ksD:∀ c o,c≠i2->hC.get? c=some o->hD.get? c=some o:=fun c o n q=>(sD.2 c n).trans q
 have toD:IsPair hD TO x b:=ksD _ _ ap.TOi2 toC
 show wpAny _ _ (seqItems? (.ref TO) >>= _) _ _ _
 refine AQ (CB toD rfl ?_)
 show wpAny _ _ (updateSeq TO (fun q=>q.setIfInBounds 1 y) >>= _) _ _ _
 refine AQ (wpAny_updateSeq_pair (s:={ s with heap:=hD }) toD fun hF toF sF=> ?_);refine AQ (wpAny_letGo (AX ?_))
 have ksF:∀ c o,c≠TO->hD.get? c=some o->hF.get? c=some o:=fun c o n q=>(sF.2 c n).trans q
 have toF:IsPair hF TO x y:=toF;have zF:IsZip hF z TI TO .ellipsis:=ksF _ _ (Ne.symm ap.TOz) (ksD _ _ (Ne.symm ap.i2z) zC)
 have i1F:It c1 hF i1 l1 (k+1):=(i1C.at fun o q=>ksD i1 o ap.i12 q).at fun o q=>ksF i1 o (Ne.symm ap.TOi1) q
 have i2F:It c2 hF i2 l2 (k+1):=i2D.at fun o q=>ksF i2 o (Ne.symm ap.TOi2) q
 show wpAny _ _ (forIn ([]:List (Value×Nat)) ((none:Option Fin),()) _) _ _ _
 rw [List.forIn_nil];refine AX ?_
 show wpAny _ _ (seqItems? (.ref TO) >>= _) _ _ _
 refine AQ (CB toF rfl ?_)
 show wpAny _ _ (newTuple [x,y] >>= _) _ _ _
 unfold newTuple;have sz:hF.objs.size=s.heap.objs.size:=sF.1.trans (sD.1.trans (sC.1.trans (sB.1.trans sA.1)));refine AQ (BC ?_ (by size_fits))
 show wpAny _ _ (Builtin.SmallTypes.ownedTupleHandOut (.ref z) (.ref hF.objs.size) >>= _) _ _ { s with heap:=hF.push { cls:= .type "tuple",data:= .seq #[x,y] } }
 have zG:IsZip (hF.push { cls:= .type "tuple",data:= .seq #[x,y] }) z TI TO .ellipsis:=AR _ zF;have pG:IsPair (hF.push { cls:= .type "tuple",data:= .seq #[x,y] }) hF.objs.size x y:=AZ _ rfl
 have ksG:∀ c o,hF.get? c=some o->(hF.push { cls:= .type "tuple",data:= .seq #[x,y] }).get? c=some o:=fun c o q=>AR _ q
 generalize hF.push { cls:= .type "tuple",data:= .seq #[x,y] }=hG at zG pG ksG ⊢
 unfold Builtin.SmallTypes.ownedTupleHandOut
 show wpAny _ _ ((setField (.ref z) 0 (rawInt hF.objs.size) >>= fun _=>setField (.ref z) 1 (.bool false)) >>= _) _ _ _
 refine AQ (AQ (Cd zG rfl (show 0 < 5 by decide) ?_));have zH:IsZip (hG.update z (Obj.mapFields fun q=>q.setIfInBounds 0 (rawInt hF.objs.size))) z TI TO (rawInt hF.objs.size):=BS _ zG rfl;have sH:Heap.SameBut z hG (hG.update z (Obj.mapFields fun q=>q.setIfInBounds 0 (rawInt hF.objs.size))):=Heap.SameBut.update ..
 generalize hG.update z (Obj.mapFields fun q=>q.setIfInBounds 0 (rawInt hF.objs.size))=hH at zH sH ⊢
 refine Cd zH rfl (show 1 < 5 by decide) ?_;have zJ:IsZip (hH.update z (Obj.mapFields fun q=>q.setIfInBounds 1 (.bool false))) z TI TO (rawInt hF.objs.size):=BS _ zH rfl;have sJ:Heap.SameBut z hH (hH.update z (Obj.mapFields fun q=>q.setIfInBounds 1 (.bool false))):=Heap.SameBut.update ..
 generalize hH.update z (Obj.mapFields fun q=>q.setIfInBounds 1 (.bool false))=hJ at zJ sJ ⊢
 have ksJ:∀ c o,c≠z->hF.get? c=some o->hJ.get? c=some o:=fun c o n q=>(sJ.2 c n).trans ((sH.2 c n).trans (ksG c o q))
 have nz:hF.objs.size≠z:=fun e=>absurd (A5 zF) (by rw [e];exact CN _)
 have pJ:IsPair hJ hF.objs.size x y:=(sJ.2 _ nz).trans ((sH.2 _ nz).trans pG);refine AX ⟨_,rfl,AX ?_⟩;rw [sz] at zJ pJ ⊢
 refine hQ hJ zJ (ksJ _ _ ap.TOz toF) (i1F.at fun o q=>ksJ i1 o ap.i1z q) (i2F.at fun o q=>ksJ i2 o ap.i2z q) pJ fun c o n1 n2 n3 n4 q=> ?_
 exact ksJ _ _ n1 (ksF _ _ n2 (ksD _ _ n4 (ksC _ _ n2 (ksB _ _ n3 (ksA _ _ n1 q)))))
theorem xP{c1:Kd}{z TI TO i1 i2 l1 l2:Addr}{k:Nat}{xs:Array Value}{a b:Value}{Q:Option Value->Shared->Prop}(hh:A.handled=none)(ap:ZipApart z TI TO i1 i2 l1 l2)(hz:IsZip s.heap z TI TO .none)(hTI:IsPair s.heap TI (.ref i1) (.ref i2))(hTO:IsPair s.heap TO a b)
 (h1:It c1 s.heap i1 l1 k) (t1:Sq c1 s.heap l1 xs) (hx:xs[k]?=none)
 (hQ:∀ h',(∀ c o,c≠z->c≠i1->s.heap.get? c=some o->h'.get? c=some o)->Q none { s with heap:=h' }) :
 wpAny (model prog w) A (pyNext (.ref z)) Q E s:=by
 have hT:s.TypeIs (.ref z) "zip" := ⟨_,hz,rfl⟩;unfold pyNext
 refine AQ (wpAny_attempt (By (name:=Str.ofString "__next__") hT F.slot_zip_next
  (BF F.slot_zip_next hT F.entry_zip_next ?_ (F.args_zip_next_1 _))))
 show wpAny _ _ (field (.ref z) 2 >>= _) _ _ _
 refine AQ (BU hz rfl (x:= .bool false) rfl ?_)
 show wpAny _ _ (field (.ref z) 3 >>= _) _ _ _
 refine AQ (BU hz rfl (x:= .ref TI) rfl ?_)
 show wpAny _ _ (seqItems? (.ref TI) >>= _) _ _ _
 refine AQ (CB hTI rfl ?_)
 show wpAny _ _ (Builtin.SmallTypes.ownedTupleIsFree (.ref z) >>= _) _ _ _
 unfold Builtin.SmallTypes.ownedTupleIsFree;refine AQ (AQ (BU hz rfl (x:= .none) rfl (AX ?_)))
 show wpAny _ _ (rule "zip.__next__.owned-tuple-again" >>= _) _ _ _
 refine AQ (wpAny_rule ?_)
 show wpAny _ _ (field (.ref z) 4 >>= _) _ _ _
 refine AQ (BU hz rfl (x:= .ref TO) rfl ?_)
 show wpAny _ _ (setField (.ref z) 0 .ellipsis >>= _) _ _ _
 refine AQ (Cd hz rfl (show 0 < 5 by decide) ?_);have zA:IsZip (s.heap.update z (Obj.mapFields fun q=>q.setIfInBounds 0 .ellipsis)) z TI TO .ellipsis:=BS _ hz rfl;have sA:Heap.SameBut z s.heap (s.heap.update z (Obj.mapFields fun q=>q.setIfInBounds 0 .ellipsis)):=Heap.SameBut.update ..
 generalize s.heap.update z (Obj.mapFields fun q=>q.setIfInBounds 0 .ellipsis)=hA at zA sA ⊢
 have ksA:∀ c o,c≠z->s.heap.get? c=some o->hA.get? c=some o:=fun c o n q=>(sA.2 c n).trans q
 have i1A:It c1 hA i1 l1 k:=h1.at fun o q=>ksA i1 o ap.i1z q
 have t1A:Sq c1 hA l1 xs:=t1.at fun o ho=>ksA l1 o ap.l1z ho
 show wpAny _ _ (forIn [(Value.ref i1,0),(Value.ref i2,1)] ((none:Option Fin),()) _ >>= _) _ _ _
 rw [List.forIn_cons];refine AQ (AQ (AQ (wpAny_onRaise ?_)))
 show wpAny _ _ (Builtin.SmallTypes.nextOf (.ref i1) >>= fun v=>pure (some v)) _ _ _
 refine AQ (fY (s:={ s with heap:=hA }) hh i1A t1A hx fun h' e eb he=> ?_);have zB:IsZip h' z TI TO .ellipsis:=eb _ _ (Ne.symm ap.i1z) zA;refine Cd zB rfl (show 0 < 5 by decide) ?_;have sC:Heap.SameBut z h' (h'.update z (Obj.mapFields fun q=>q.setIfInBounds 0 .none)):=Heap.SameBut.update ..;obtain ⟨o,ho,hc⟩:=he
 have ez:e≠z:=fun q=>by
  rw [q,zB] at ho;cases ho;exact absurd (show Value.type "zip" = Value.type "StopIteration" from hc) (by decide)
 have ho2:(h'.update z (Obj.mapFields fun q=>q.setIfInBounds 0 .none)).get? e=some o:=(sC.2 e ez).trans ho;refine AQ (wpAny_isInstance (T := "StopIteration") (b:=true) ⟨o,ho2,hc⟩ isSubtype_stop ?_);refine AX (hQ _ fun c o n1 n2 q=>(sC.2 c n1).trans (eb c o n2 (ksA c o n1 q)))
end
abbrev H1(c1:Kd)(h:Heap)(l1:Addr):Heap:=h.push (wQ c1 l1)
abbrev H2(c1 c2:Kd)(h:Heap)(l1 l2:Addr):Heap:=(H1 c1 h l1).push (wQ c2 l2)
abbrev H3(c1 c2:Kd)(h:Heap)(l1 l2:Addr):Heap:=(H2 c1 c2 h l1 l2).push { cls:= .type "tuple",data:= .seq #[.ref h.objs.size,.ref (H1 c1 h l1).objs.size] }
abbrev H4(c1 c2:Kd)(h:Heap)(l1 l2:Addr):Heap:=(H3 c1 c2 h l1 l2).push { cls:= .type "tuple",data:= .seq #[.none,.none] }
abbrev H5(c1 c2:Kd)(h:Heap)(l1 l2:Addr):Heap:=(H4 c1 c2 h l1 l2).push { cls:= .type "zip",data:= .fields #[.none,.bool false,.bool false,.ref (H2 c1 c2 h l1 l2).objs.size,.ref (H3 c1 c2 h l1 l2).objs.size] }
theorem ju(c1 c2:Kd)(l1 l2:Addr)(xs ys:Array Value) :
 Meets (Builtin.«zip.__new__» ⟨[.type "zip",.ref l1,.ref l2],[]⟩) (fun _ R s=>Sq c1 s.heap l1 xs/\Sq c2 s.heap l2 ys /\
  R (.ok (.ret (.ref (H4 c1 c2 s.heap l1 l2).objs.size))) { s with heap:=H5 c1 c2 s.heap l1 l2 }):=by
 cases c1 with
 | T =>
  cases c2 with
  | T =>
   refine .of_wp fun prog w A R s h=> ?_
   obtain ⟨hp,g,d,tk,os⟩:=s;obtain ⟨hL1,hL2,h⟩:=h;have hsub:=sub_zip;have hL1:hp.IsTuple l1 xs:=hL1;have hL2':Heap.IsTuple (H1 .T hp l1) l2 ys:=let ⟨o,ho,r⟩:=(show hp.IsTuple l2 ys from hL2);⟨o,AR _ ho,r⟩
   wp_walk using Bx hL1,Bx hL2'
   exact ⟨_,rfl,h⟩
  | L =>
   refine .of_wp fun prog w A R s h=> ?_
   obtain ⟨hp,g,d,tk,os⟩:=s;obtain ⟨hL1,hL2,h⟩:=h;have hsub:=sub_zip;have hL1:hp.IsTuple l1 xs:=hL1;have hL2':Heap.IsList (H1 .T hp l1) l2 ys:=let ⟨o,ho,r⟩:=(show hp.IsList l2 ys from hL2);⟨o,AR _ ho,r⟩
   wp_walk using Bx hL1,Ci hL2'
   exact ⟨_,rfl,h⟩
 | L =>
  cases c2 with
  | T =>
   refine .of_wp fun prog w A R s h=> ?_
   obtain ⟨hp,g,d,tk,os⟩:=s;obtain ⟨hL1,hL2,h⟩:=h;have hsub:=sub_zip;have hL1:hp.IsList l1 xs:=hL1;have hL2':Heap.IsTuple (H1 .L hp l1) l2 ys:=let ⟨o,ho,r⟩:=(show hp.IsTuple l2 ys from hL2);⟨o,AR _ ho,r⟩
   wp_walk using Ci hL1,Bx hL2'
   exact ⟨_,rfl,h⟩
  | L =>
   refine .of_wp fun prog w A R s h=> ?_
   obtain ⟨hp,g,d,tk,os⟩:=s;obtain ⟨hL1,hL2,h⟩:=h;have hsub:=sub_zip;have hL1:hp.IsList l1 xs:=hL1;have hL2':Heap.IsList (H1 .L hp l1) l2 ys:=let ⟨o,ho,r⟩:=(show hp.IsList l2 ys from hL2);⟨o,AR _ ho,r⟩
   wp_walk using Ci hL1,Ci hL2'
   exact ⟨_,rfl,h⟩
section
variable{prog:Program}{w:World}{A:Around}{E:Value->Shared->Prop}{s:Shared}
theorem lC{c1 c2:Kd}{l1 l2:Addr}{xs ys:Array Value}{Q:Value->Shared->Prop}(h1:Sq c1 s.heap l1 xs)(h2:Sq c2 s.heap l2 ys)
 (h:∀ h',IsZip h' (s.heap.objs.size+4) (s.heap.objs.size+2) (s.heap.objs.size+3) .none->IsPair h' (s.heap.objs.size+2) (.ref s.heap.objs.size) (.ref (s.heap.objs.size+1))->IsPair h' (s.heap.objs.size+3) .none .none ->
   It c1 h' s.heap.objs.size l1 0->It c2 h' (s.heap.objs.size+1) l2 0->(∀ b o,s.heap.get? b=some o->h'.get? b=some o)->Q (.ref (s.heap.objs.size+4)) { s with heap:=h' }) :
 wpAny (model prog w) A (call (.type "zip") [.ref l1,.ref l2]) Q E s:=by
 refine callType_new F.called_zip (by decide) (F.typeCall_zip_2 _ _) (F.newCall_zip_2 _ _) (fun obj=>F.args_object_init_3 obj _ _) F.entry_zip_new (ju c1 c2 l1 l2 xs ys) ⟨h1,h2,?_⟩;have z1:(H1 c1 s.heap l1).objs.size=s.heap.objs.size+1:=Bw ..;have z2:(H2 c1 c2 s.heap l1 l2).objs.size=s.heap.objs.size+2:=(Bw ..).trans (by rw [z1]);have z3:(H3 c1 c2 s.heap l1 l2).objs.size=s.heap.objs.size+3:=(Bw ..).trans (by rw [z2]);have z4:(H4 c1 c2 s.heap l1 l2).objs.size=s.heap.objs.size+4:=(Bw ..).trans (by rw [z3])
 have kz:∀ {h0:Heap} {o:Obj} (b:Addr) (u:Obj),h0.get? b=some u->(h0.push o).get? b=some u:=fun b u q=>AR _ q
 have hz:IsZip (H5 c1 c2 s.heap l1 l2) (s.heap.objs.size+4) (s.heap.objs.size+2) (s.heap.objs.size+3) .none:=by
  have:=AZ (H4 c1 c2 s.heap l1 l2) (o:={ cls:= .type "zip",data:= .fields #[.none,.bool false,.bool false,.ref (H2 c1 c2 s.heap l1 l2).objs.size,.ref (H3 c1 c2 s.heap l1 l2).objs.size] }) rfl;rw [z4] at this
  show (H5 c1 c2 s.heap l1 l2).get? _=_
  rw [show H5 c1 c2 s.heap l1 l2=(H4 c1 c2 s.heap l1 l2).push { cls:= .type "zip",data:= .fields #[.none,.bool false,.bool false,.ref (H2 c1 c2 s.heap l1 l2).objs.size,.ref (H3 c1 c2 s.heap l1 l2).objs.size] } from rfl,this,z2,z3]
 have hTO:IsPair (H5 c1 c2 s.heap l1 l2) (s.heap.objs.size+3) .none .none:=by
  have:=AZ (H3 c1 c2 s.heap l1 l2) (o:={ cls:= .type "tuple",data:= .seq #[.none,.none] }) rfl;rw [z3] at this;exact kz _ _ this
 have hTI:IsPair (H5 c1 c2 s.heap l1 l2) (s.heap.objs.size+2) (.ref s.heap.objs.size) (.ref (s.heap.objs.size+1)):=by
  have:=AZ (H2 c1 c2 s.heap l1 l2) (o:={ cls:= .type "tuple",data:= .seq #[.ref s.heap.objs.size,.ref (H1 c1 s.heap l1).objs.size] }) rfl;rw [z2,z1] at this;have e:=kz (o:={ cls:= .type "zip",data:= .fields #[.none,.bool false,.bool false,.ref (H2 c1 c2 s.heap l1 l2).objs.size,.ref (H3 c1 c2 s.heap l1 l2).objs.size] }) _ _ (kz (o:={ cls:= .type "tuple",data:= .seq #[.none,.none] }) _ _ this);rw [<- z1] at e ⊢;exact e
 have hi2:It c2 (H5 c1 c2 s.heap l1 l2) (s.heap.objs.size+1) l2 0:=by
  have:=It.new (c:=c2) (h:=H1 c1 s.heap l1) (l:=l2);rw [z1] at this
  exact this.at fun o q=>kz _ _ (kz _ _ (kz _ _ q))
 have hi1:It c1 (H5 c1 c2 s.heap l1 l2) s.heap.objs.size l1 0:=(It.new (c:=c1) (h:=s.heap) (l:=l1)).at fun o q=>kz _ _ (kz _ _ (kz _ _ (kz _ _ q)))
 show _/\_
 rw [z4];exact ⟨⟨_,hz,rfl⟩,h _ hz hTI hTO hi1 hi2 fun b o q=>kz _ _ (kz _ _ (kz _ _ (kz _ _ (kz _ _ q))))⟩
end
end ZpA
namespace L2
open PySem PySem.Spec PyProof.Rows ZpA
def SqA:Kd->Df->Hp->Addr->List V->Prop
 | .L=>SqL
 | .T=>SqT
theorem Inv.seqA{X:Cx}{pins:List (Addr×Obj)}{σ:St}{H:Hp}{s:Shared}{c:Kd}{a:Addr}{xs:List V}(I:Inv X pins σ H s)(h:SqA c X.K H a xs):∃ its:List Value,ar xs its/\Sq c s.heap a its.toArray/\xs.length<=sizeLine:=by
 cases c with
 | L=>obtain ⟨its,r,p,z⟩:=I.list h;exact ⟨its,r,p.isList,z⟩
 | T=>obtain ⟨its,r,p,z⟩:=I.tuple h;exact ⟨its,r,(show s.heap.IsTuple a its.toArray from p),z⟩
theorem Inv.seqA_inj{X:Cx}{pins:List (Addr×Obj)}{σ:St}{H:Hp}{s:Shared}{c:Kd}{a:Addr}{xs ys:List V}(I:Inv X pins σ H s)(h:SqA c X.K H a xs)(h':SqA c X.K H a ys):xs=ys:=by
 cases c with
 | L=>exact I.list_inj h h'
 | T=>exact I.tuple_inj h h'
theorem ui{prog:Program}{w:World}{A:Around}{E:Value->Shared->Prop}{s:Shared}{c:Kd}{e it l:Addr}{i:Nat}{j:Int}{items:Array Value}{old:Value}{Q:Option Value->Shared->Prop}(hh:A.handled=none)
 (he:IsEnum s.heap e it j old) (hit:ZpA.It c s.heap it l i) (hl:Sq c s.heap l items) (hx:items[i]?=none)
 (hQ:∀ h',Heap.ExtBut it s.heap h'->Q none { s with heap:=h' }):wpAny (model prog w) A (pyNext (.ref e)) Q E s:=by
 have hT:s.TypeIs (.ref e) "enumerate" := ⟨_,he,rfl⟩;unfold pyNext
 refine AQ (wpAny_attempt (By (name:=Str.ofString "__next__") hT F.slot_enumerate_next
  (BF F.slot_enumerate_next hT F.entry_enumerate_next ?_ (F.args_enumerate_next_1 _))))
 show wpAny _ _ (field (.ref e) 2 >>= _) _ _ _
 refine AQ (BU he rfl (x:= .ref it) rfl ?_);refine AQ (ZpA.fY hh hit hl hx fun h' x he' hx'=> ?_);obtain ⟨o,ho,hc⟩:=hx';refine AQ (wpAny_isInstance (T := "StopIteration") (b:=true) ⟨o,ho,hc⟩ isSubtype_stop ?_);exact AX (hQ _ he')
theorem xu{prog:Program}{w:World}{A:Around}{E:Value->Shared->Prop}{s:Shared}{c:Kd}{l:Addr}{items:Array Value}{Q:Value->Shared->Prop}(hL:Sq c s.heap l items)
 (h:∀ h',IsEnum h' (s.heap.objs.size+1) s.heap.objs.size 0 .none->ZpA.It c h' s.heap.objs.size l 0->h'.objs.size=s.heap.objs.size+2 ->
   (∀ b o,s.heap.get? b=some o->h'.get? b=some o)->Q (.ref (s.heap.objs.size+1)) { s with heap:=h' }) :
 wpAny (model prog w) A (call (.type "enumerate") [.ref l]) Q E s:=by
 cases c with
 | L=>exact call_enumerate_list (show s.heap.IsList l items from hL) h
 | T=>exact EnT.lC (show s.heap.IsTuple l items from hL) h
def IteA(c:Kd)(K:Df)(a:Addr):L2.It :=
 ⟨fun i H=>∃ xs x,SqA c K H a xs/\xs[i]?=some x,fun i H x H'=>∃ p y,x = .ref p/\H p=none/\H'=upd H p (.tup [.int (i:Nat),y])/\∀ xs,SqA c K H a xs->xs[i]?=some y,fun i H=>∃ xs,SqA c K H a xs/\xs.length<=i⟩
theorem qx{c:Kd}{P:Program}{w:World}{K:Df}{elts:List Expr}{k}{tpos:Pos}(a e it:Addr)(hei:e≠it):uR P w K (.Tuple elts k tpos) (IteA c K a) [e,it] e (fun i h=>(∃ old,IsEnum h e it (i:Nat) old)/\ZpA.It c h it a i) where
 mem:=by simp
 obj:=fun i h st b hb=>by
  obtain ⟨⟨old,he⟩,hit⟩:=st;obtain ⟨o,ho,⟨vs,hd⟩,hc⟩:=hit.obj
  have hb':b=e\/b=it:=by simpa using hb
  rcases hb' with rfl | rfl
  ·exact ⟨_,he,fun v z=>by
    have z':Data.fields _=Data.cell v:=z
    cases z'⟩
  ·exact ⟨o,ho,fun v z=>by rw [hd] at z;cases z⟩
 keep:=fun i h h' st k=>by
  obtain ⟨⟨old,he⟩,hit⟩:=st;exact ⟨⟨old,k e (by simp) _ he⟩,hit.at fun o x=>k it (by simp) o x⟩
 item:=by
  intro X hP hw hK hc i pins s σ H E I hf st hg;subst hP hw hK;obtain ⟨xs,y,hq,hx⟩:=hg;obtain ⟨its,rv,p,hz⟩:=I.seqA hq;obtain ⟨u,hu,ru⟩:=rv.get hx;obtain ⟨⟨old,he⟩,hit⟩:=st;have pt:=p
  have hea:e≠a:=fun z=>by
   obtain ⟨o,ho,hc⟩:=p.obj;rw [<- z,he] at ho;cases ho
   rcases hc with hc | hc
   ·exact absurd (show Value.type "enumerate" = Value.type "list" from hc) (by decide)
   ·exact absurd (show Value.type "enumerate" = Value.type "tuple" from hc) (by decide)
  have hia:a≠it:=fun z=>by
   obtain ⟨o,ho,hc⟩:=p.obj;obtain ⟨o',ho',_,hc'⟩:=hit.obj;rw [z,ho'] at ho;cases ho
   rcases hc with hc | hc<;>rcases hc' with hc' | hc'<;>(rw [hc] at hc';exact absurd hc' (by decide))
  have hil:i < its.toArray.size:=by
   have:=(Be.mp hu).1;simpa using this
  refine wpAny_pyNext_enum_itemD (ZpA.draws (c:=c) (prog:=X.prog) (w:=X.w) (A:=X.A.in1) (I.ok.hd hc) it a hia its.toArray) he ⟨hit,pt⟩ hil hei (by simp [hea,hei]) fun x h' tk hPx ho st' hT hsz hk=> ?_
  have hxu:x=u:=by
   have:its.toArray[i]?=some u:=by simpa using hu
   rw [this] at hPx;exact (Option.some.inj hPx).symm
  subst hxu;refine ⟨_,rfl,wpAny_letOwnedTupleGo_enum ho fun h'' he' hs'=> ?_⟩
  replace hs':Heap.SameBut e h' h'':=hs'
  have hel:e < s.heap.objs.size:=A5 he
  have hil':it < s.heap.objs.size:=by obtain ⟨o,ho,_⟩:=hit.obj;exact A5 ho
  have kp:∀ b o,b≠e->b≠it->s.heap.get? b=some o->h''.get? b=some o:=fun b o n1 n2 q=>(hs'.2 b n1).trans (hk b o n1 n2 q)
  have hT2:h''.get? s.heap.objs.size=some { cls:= .type "tuple",data:= .seq #[.int (i:Nat) tk,x] }:=(hs'.2 _ (Ck hel)).trans hT;have hTn:H s.heap.objs.size=none:=I.hok.fresh (A8 _);have fe:=hf e (by simp);have fi:=hf it (by simp)
  have nte:∀ b u,H b=some u->b≠e:=fun b u q z=>by rw [z,fe.1] at q;cases q
  have nti:∀ b u,H b=some u->b≠it:=fun b u q z=>by rw [z,fi.1] at q;cases q
  have hok:HOk X.prog X.w (upd H s.heap.objs.size (.tup [.int (i:Nat),y])) h'':=fun b ob q=>by
   by_cases hb:b=s.heap.objs.size
   ·subst hb
    rw [ao] at q;cases q;exact ⟨by show 2<=sizeLine;decide,[.int (i:Nat) tk,x],.cons ⟨tk,rfl⟩ (.cons ru .nil),⟨_,hT2,rfl,_,rfl⟩⟩
   ·rw [ag hb] at q
    refine (I.hok b ob q).stay (fun c v hc q'=> ?_) (fun c q'=>by rw [ag (ah q' hTn)];exact q') fun c xs q'=>by rw [ag (ah q' hTn)];exact q'
    rcases hc with rfl | hc
    ·exact kp _ _ (nte _ _ q) (nti _ _ q) q'
    ·exact kp _ _ (nte _ _ hc) (nti _ _ hc) q'
  have mem2:∀ b,b∉[e,it]->b≠e/\b≠it:=fun b hb=>by
   have:=hb;simp at this;exact this
  have I2:Inv X pins σ (upd H s.heap.objs.size (.tup [.int (i:Nat),y])) { s with heap:=h'',toks:=tk+1 } :=
   I.step (g':=s.gens) (d':=s.drawn) (ch:=[e,it]) (fun b hb=>by
    have hb':b=e\/b=it:=by simpa using hb
    rcases hb' with rfl | rfl
    ·exact ⟨fe.2.2.2.1,fe.2.1,fe.2.2.2.2.1,fe.2.2.2.2.2⟩
    ·exact ⟨fi.2.2.2.1,fi.2.1,fi.2.2.2.2.1,fi.2.2.2.2.2⟩)
    (fun b o _ _ hc q _=>kp b o (mem2 b hc).1 (mem2 b hc).2 q) (fun b o _ _ hc q _=>⟨o.slots,kp b o (mem2 b hc).1 (mem2 b hc).2 q⟩)
    (fun b o _ q n=>by rw [ag (Bi (A5 q))];exact n) (fun b o hc q=>⟨o,kp b o (mem2 b hc).1 (mem2 b hc).2 q⟩)
    (fun b xs q=>by rw [ag (ah q hTn)];exact q) (fun b o u q=>by rw [ag (ah q hTn)];exact q) (fun b ps q=>⟨#[],by rw [ag (ah q hTn),q];simp⟩)
    (fun m hm=>by obtain ⟨o,es,ep,ho,r⟩:=hm;exact ⟨o,es,ep,kp _ o (Ne.symm fe.2.1) (Ne.symm fi.2.1) ho,r⟩) hok I.bare
  refine ⟨.ref s.heap.objs.size,_,I2,rfl,⟨_,y,rfl,hTn,rfl,fun ys hy=>by rw [I.seqA_inj hy hq];exact hx⟩,⟨⟨x,?_⟩,?_⟩,fun b hb=> ?_⟩
  ·have:((i+1:Nat):Int)=(i:Int)+1:=by push_cast;rfl
   rw [this];exact he'
  ·exact st'.1.at fun o q=>(hs'.2 it (Ne.symm hei)).trans q
  ·have hb':b=e\/b=it:=by simpa using hb
   rcases hb' with rfl | rfl
   ·rw [ag (Bi hel)];exact fe.1
   ·rw [ag (Bi hil')];exact fi.1
 done:=by
  intro X hP hw hK hc i pins s σ H E I hf st hg;subst hP hw hK;obtain ⟨xs,hq,hx⟩:=hg;obtain ⟨its,rv,p,hz⟩:=I.seqA hq;obtain ⟨⟨old,he⟩,hit⟩:=st;obtain ⟨f0,f1,f2,f3,f4,f5⟩:=hf it (by simp);have hl:=rv.length
  have hia:a≠it:=fun z=>by
   obtain ⟨o,ho,hc⟩:=p.obj;obtain ⟨o',ho',_,hc'⟩:=hit.obj;rw [z,ho'] at ho;cases ho
   rcases hc with hc | hc<;>rcases hc' with hc' | hc'<;>(rw [hc] at hc';exact absurd hc' (by decide))
  refine ui (I.ok.hd hc) he hit p (by simp;omega) fun h' eb=>⟨rfl,I.turned (t':=s.toks) (fun b o hb e=>eb b o hb e) f0 f1 f3 f4 f5⟩
 self:=fun _ _ _ _ _ st h=>by
  obtain ⟨⟨old,he⟩,_⟩:=st;exact wpAny_pyIter_enum he h
section
variable{X:Cx}
def iEnumA(K:Df)(ta:TA):TI:=fun σ H R=>ta σ H fun vs H1=>∃ a c,vs=[.ref a]/\(∃ xs,SqA c K H1 a xs/\(xs.length<=sizeLine->R (IteA c K a) H1))
theorem v7{elts:List Expr}{k}{tpos:Pos}{l:Expr}{ta:TA}{p pos:Pos}(hg:Gl X "enumerate")(hm:X.mg "enumerate" = none)(ha:PA X [l] ta)(hs:starEach [l] X.env=[(false,eval l X.env)]:=by rfl) :
 PI X (.Tuple elts k tpos) (.Call (.Name "enumerate" p) [l] [] pos) (iEnumA X.K ta):=by
 intro pins s σ H R I h;refine Call_ (f8 I hg hm boot_enumerate (PyProof.Rows.callWith_type1 (thn (ha pos pins s σ H _ I h) fun us s1 ⟨vs,H1,I1,r1,q1⟩=> ?_) hs rfl));obtain ⟨a,c,e,xs,hq,q⟩:=q1;subst e
 cases r1 with
 | cons r rr =>
  cases rr;cases r;obtain ⟨its,rv,p,hz⟩:=I1.seqA hq
  refine xu p fun h' he hit hsz hk=> ?_
  refine wpAny_pyIter_enum he ?_;refine ⟨s1.heap.objs.size+1,[s1.heap.objs.size+1,s1.heap.objs.size],_,_,H1,rfl,I1.kept (t':=s1.toks) hk,qx a _ s1.heap.objs.size (Ck (Cp _)),⟨⟨.none,he⟩,hit⟩,fun b hb=> ?_,q hz⟩
  have hb':b=s1.heap.objs.size+1\/b=s1.heap.objs.size:=by simpa using hb
  rcases hb' with rfl | rfl
  ·exact I1.fpOk (by omega) (I1.hok.fresh (by omega))
  ·exact I1.fpOk (A8 _) (I1.hok.fresh (A8 _))
end
def ItzA(c1 c2:Kd)(K:Df)(a b:Addr):L2.It :=
 ⟨fun i H=>∃ xs ys x y,SqA c1 K H a xs/\SqA c2 K H b ys/\xs[i]?=some x/\ys[i]?=some y,fun i H x H'=>∃ p y z,x = .ref p/\H p=none/\H'=upd H p (.tup [y,z])/\(∀ xs,SqA c1 K H a xs->xs[i]?=some y)/\∀ ys,SqA c2 K H b ys->ys[i]?=some z,fun i H=>∃ xs,SqA c1 K H a xs/\xs.length<=i⟩
def ZipStA(c1 c2:Kd)(a b z TI TO i1 i2:Addr)(i:Nat)(h:Heap):Prop:=IsZip h z TI TO .none/\IsPair h TI (.ref i1) (.ref i2)/\(∃ x y,IsPair h TO x y)/\ZpA.It c1 h i1 a i/\ZpA.It c2 h i2 b i
theorem sZ{c1 c2:Kd}{P:Program}{w:World}{K:Df}{elts:List Expr}{k}{tpos:Pos}(a b z TI TO i1 i2:Addr)(ap:ZipApart z TI TO i1 i2 a b) :
 uR P w K (.Tuple elts k tpos) (ItzA c1 c2 K a b) [z,TI,TO,i1,i2] z (ZipStA c1 c2 a b z TI TO i1 i2) where
 mem:=by simp
 obj:=fun i h st c hc=>by
  obtain ⟨hz,hTI,⟨x,y,hTO⟩,j1,j2⟩:=st;obtain ⟨o1,ho1,⟨v1,hd1⟩,hc1⟩:=j1.obj;obtain ⟨o2,ho2,⟨v2,hd2⟩,hc2⟩:=j2.obj
  have hc':c=z\/c=TI\/c=TO\/c=i1\/c=i2:=by simpa using hc
  rcases hc' with rfl | rfl | rfl | rfl | rfl
  ·exact ⟨_,hz,fun v q=>by have q':Data.fields _=Data.cell v:=q;cases q'⟩
  ·exact ⟨_,hTI,fun v q=>by have q':Data.seq _ _=Data.cell v:=q;cases q'⟩
  ·exact ⟨_,hTO,fun v q=>by have q':Data.seq _ _=Data.cell v:=q;cases q'⟩
  ·exact ⟨o1,ho1,fun v q=>by rw [hd1] at q;cases q⟩
  ·exact ⟨o2,ho2,fun v q=>by rw [hd2] at q;cases q⟩
 keep:=fun i h h' st k=>by
  obtain ⟨hz,hTI,⟨x,y,hTO⟩,h1,h2⟩:=st;exact ⟨k z (by simp) _ hz,k TI (by simp) _ hTI,⟨x,y,k TO (by simp) _ hTO⟩,h1.at fun o q=>k i1 (by simp) o q,h2.at fun o q=>k i2 (by simp) o q⟩
 item:=by
  intro X hP hw hK hc i pins s σ H E I hf st hg;subst hP hw hK;obtain ⟨xs,ys,y,y',hq,hq',hx,hx'⟩:=hg;obtain ⟨its,rv,p,hz'⟩:=I.seqA hq;obtain ⟨its',rv',p',hz''⟩:=I.seqA hq';obtain ⟨u,hu,ru⟩:=rv.get hx;obtain ⟨u',hu',ru'⟩:=rv'.get hx';obtain ⟨hz,hTI,⟨x0,y0,hTO⟩,h1,h2⟩:=st
  have hn:∀ c,c∈[z,TI,TO,i1,i2]->H c=none:=fun c hc=>(hf c hc).1
  have hTn:H s.heap.objs.size=none:=I.hok.fresh (A8 _)
  refine ZpA.uU ap hz hTI hTO h1 h2 p p' (x:=u) (y:=u') (by simpa using hu) (by simpa using hu') fun h' z' to' i1' i2' pT ks=>⟨_,rfl,wpAny_letOwnedTupleGo_zip z' fun h'' zz hs=> ?_⟩
  replace hs:Heap.SameBut z h' h'':=hs
  have lz:z < s.heap.objs.size:=A5 hz;have lTI:TI < s.heap.objs.size:=A5 hTI;have lTO:TO < s.heap.objs.size:=A5 hTO
  have li1:i1 < s.heap.objs.size:=by obtain ⟨o,ho,_⟩:=h1.obj;exact A5 ho
  have li2:i2 < s.heap.objs.size:=by obtain ⟨o,ho,_⟩:=h2.obj;exact A5 ho
  have kp:∀ c o,c≠z->c≠TO->c≠i1->c≠i2->s.heap.get? c=some o->h''.get? c=some o:=fun c o n1 n2 n3 n4 q=>(hs.2 c n1).trans (ks c o n1 n2 n3 n4 q)
  have hT2:IsPair h'' s.heap.objs.size u u':=(hs.2 _ (Ck lz)).trans pT
  have nt:∀ c o,H c=some o->c≠z/\c≠TO/\c≠i1/\c≠i2:=fun c o q=>⟨fun e=>(by rw [e,hn z (by simp)] at q;cases q),fun e=>(by rw [e,hn TO (by simp)] at q;cases q),fun e=>(by rw [e,hn i1 (by simp)] at q;cases q),fun e=>(by rw [e,hn i2 (by simp)] at q;cases q)⟩
  have kp':∀ c o u,H c=some u->s.heap.get? c=some o->h''.get? c=some o:=fun c o u q q'=>by
   obtain ⟨n1,n2,n3,n4⟩:=nt c u q;exact kp c o n1 n2 n3 n4 q'
  have hok:HOk X.prog X.w (upd H s.heap.objs.size (.tup [y,y'])) h'':=fun c ob q=>by
   by_cases hb:c=s.heap.objs.size
   ·subst hb
    rw [ao] at q;cases q;exact ⟨by show 2<=sizeLine;decide,[u,u'],.cons ru (.cons ru' .nil),⟨_,hT2,rfl,_,rfl⟩⟩
   ·rw [ag hb] at q
    refine (I.hok c ob q).stay (fun e v he q'=> ?_) (fun e q'=>by rw [ag (ah q' hTn)];exact q') fun e xs q'=>by rw [ag (ah q' hTn)];exact q'
    rcases he with rfl | he
    ·exact kp' _ _ _ q q'
    ·exact kp' _ _ _ he q'
  have mem4:∀ c,c∉[z,TO,i1,i2]->c≠z/\c≠TO/\c≠i1/\c≠i2:=fun c hc=>by
   have:=hc;simp at this;exact this
  have I2:Inv X pins σ (upd H s.heap.objs.size (.tup [y,y'])) { s with heap:=h'' } :=
   I.step (g':=s.gens) (d':=s.drawn) (t':=s.toks) (ch:=[z,TO,i1,i2]) (fun c hc=>by
    have hc':c∈[z,TI,TO,i1,i2]:=by simp at hc ⊢;rcases hc with e | e | e | e<;>simp [e]
    have f:=hf c hc'
    exact ⟨f.2.2.2.1,f.2.1,f.2.2.2.2.1,f.2.2.2.2.2⟩)
    (fun c o _ _ hc q _=>by obtain ⟨n1,n2,n3,n4⟩:=mem4 c hc;exact kp c o n1 n2 n3 n4 q) (fun c o _ _ hc q _=>by obtain ⟨n1,n2,n3,n4⟩:=mem4 c hc;exact ⟨o.slots,kp c o n1 n2 n3 n4 q⟩)
    (fun c o _ q n=>by rw [ag (Bi (A5 q))];exact n) (fun c o hc q=>by obtain ⟨n1,n2,n3,n4⟩:=mem4 c hc;exact ⟨o,kp c o n1 n2 n3 n4 q⟩)
    (fun c xs q=>by rw [ag (ah q hTn)];exact q) (fun c o u q=>by rw [ag (ah q hTn)];exact q) (fun c ps q=>⟨#[],by rw [ag (ah q hTn),q];simp⟩)
    (fun m hm=>by obtain ⟨o,es,ep,ho,r⟩:=hm;exact ⟨o,es,ep,kp _ o (Ne.symm (hf z (by simp)).2.1) (Ne.symm (hf TO (by simp)).2.1) (Ne.symm (hf i1 (by simp)).2.1) (Ne.symm (hf i2 (by simp)).2.1) ho,r⟩) hok I.bare
  refine ⟨.ref s.heap.objs.size,_,I2,rfl,⟨_,y,y',rfl,hTn,rfl,fun zs hy=>by rw [I.seqA_inj hy hq];exact hx,fun zs hy=>by rw [I.seqA_inj hy hq'];exact hx'⟩,⟨zz,?_,⟨u,u',?_⟩,?_,?_⟩,fun c hc=> ?_⟩
  ·exact kp TI _ ap.TIz ap.TITO ap.TIi1 ap.TIi2 hTI
  ·exact (hs.2 TO ap.TOz).trans to'
  ·exact i1'.at fun o q=>(hs.2 i1 ap.i1z).trans q
  ·exact i2'.at fun o q=>(hs.2 i2 ap.i2z).trans q
  ·have hc':c=z\/c=TI\/c=TO\/c=i1\/c=i2:=by simpa using hc
   have lc:c < s.heap.objs.size:=by rcases hc' with rfl | rfl | rfl | rfl | rfl<;>assumption
   rw [ag (Bi lc)];exact hn c hc
 done:=by
  intro X hP hw hK hc i pins s σ H E I hf st hg;subst hP hw hK;obtain ⟨xs,hq,hx⟩:=hg;obtain ⟨its,rv,p,hz'⟩:=I.seqA hq;obtain ⟨hz,hTI,⟨x0,y0,hTO⟩,h1,h2⟩:=st;have hl:=rv.length
  have hn:∀ c,c∈[z,TI,TO,i1,i2]->H c=none:=fun c hc=>(hf c hc).1
  refine ZpA.xP (I.ok.hd hc) ap hz hTI hTO h1 p (by simp;omega) fun h' ks=>⟨rfl,?_⟩
  have nt:∀ c o,H c=some o->c≠z/\c≠i1:=fun c o q=>⟨fun e=>(by rw [e,hn z (by simp)] at q;cases q),fun e=>(by rw [e,hn i1 (by simp)] at q;cases q)⟩
  have kp':∀ c o u,H c=some u->s.heap.get? c=some o->h'.get? c=some o:=fun c o u q q'=>by
   obtain ⟨n1,n3⟩:=nt c u q;exact ks c o n1 n3 q'
  have hok:HOk X.prog X.w H h':=fun c ob q=>by
   refine (I.hok c ob q).stay (fun e v he q'=> ?_) (fun e q'=>q') fun e xs q'=>q'
   rcases he with rfl | he
   ·exact kp' _ _ _ q q'
   ·exact kp' _ _ _ he q'
  have mem2:∀ c,c∉[z,i1]->c≠z/\c≠i1:=fun c hc=>by
   have:=hc;simp at this;exact this
  exact I.step (g':=s.gens) (d':=s.drawn) (t':=s.toks) (ch:=[z,i1]) (fun c hc=>by
   have hc':c∈[z,TI,TO,i1,i2]:=by simp at hc ⊢;rcases hc with e | e<;>simp [e]
   have f:=hf c hc'
   exact ⟨f.2.2.2.1,f.2.1,f.2.2.2.2.1,f.2.2.2.2.2⟩)
   (fun c o _ _ hc q _=>by obtain ⟨n1,n3⟩:=mem2 c hc;exact ks c o n1 n3 q) (fun c o _ _ hc q _=>by obtain ⟨n1,n3⟩:=mem2 c hc;exact ⟨o.slots,ks c o n1 n3 q⟩)
   (fun c o _ q n=>n) (fun c o hc q=>by obtain ⟨n1,n3⟩:=mem2 c hc;exact ⟨o,ks c o n1 n3 q⟩)
   (fun c xs q=>q) (fun c o u q=>q) (fun c ps q=>⟨#[],by rw [q];simp⟩)
   (fun m hm=>by obtain ⟨o,es,ep,ho,r⟩:=hm;exact ⟨o,es,ep,ks _ o (Ne.symm (hf z (by simp)).2.1) (Ne.symm (hf i1 (by simp)).2.1) ho,r⟩) hok I.bare
 self:=fun _ _ _ _ _ st h=>wpAny_pyIter_zip st.1 h
section
variable{X:Cx}
def iZipA(K:Df)(ta:TA):TI:=fun σ H R=>ta σ H fun vs H1=>∃ a b c1 c2,vs=[.ref a,.ref b]/\(∃ xs,SqA c1 K H1 a xs/\(xs.length<=sizeLine->(∃ ys,SqA c2 K H1 b ys)/\R (ItzA c1 c2 K a b) H1))
theorem yN{elts:List Expr}{k}{tpos:Pos}{l l':Expr}{ta:TA}{p pos:Pos}(hg:Gl X "zip")(hm:X.mg "zip" = none)(ha:PA X [l,l'] ta)(hs:starEach [l,l'] X.env=[(false,eval l X.env),(false,eval l' X.env)]:=by rfl)(hs2:starEach [l'] X.env=[(false,eval l' X.env)]:=by rfl) :
 PI X (.Tuple elts k tpos) (.Call (.Name "zip" p) [l,l'] [] pos) (iZipA X.K ta):=by
 intro pins s σ H R I h;refine Call_ (f8 I hg hm boot_zip (PyProof.Rows.callWith_type1 (thn (ha pos pins s σ H _ I h) fun us s1 ⟨vs,H1,I1,r1,q1⟩=> ?_) (by rw [hs,hs2]) (by rw [hs2];rfl)));obtain ⟨a,b,c1,c2,e,xs,hq,q⟩:=q1;subst e;obtain ⟨u,u',rfl,ru,ru'⟩:=oF r1;cases ru;cases ru';obtain ⟨its,rv,p,hz⟩:=I1.seqA hq;obtain ⟨⟨ys,hq'⟩,q⟩:=q hz;obtain ⟨its',rv',p',hz'⟩:=I1.seqA hq'
 have la:a < s1.heap.objs.size:=by obtain ⟨o,ho,_⟩:=p.obj;exact A5 ho
 have lb:b < s1.heap.objs.size:=by obtain ⟨o,ho,_⟩:=p'.obj;exact A5 ho
 refine ZpA.lC p p' fun h' hz hTI hTO h1 h2 hk=> ?_
 refine wpAny_pyIter_zip hz ?_;refine ⟨s1.heap.objs.size+4,[s1.heap.objs.size+4,s1.heap.objs.size+2,s1.heap.objs.size+3,s1.heap.objs.size,s1.heap.objs.size+1],_,_,H1,rfl,I1.kept (t':=s1.toks) hk,sZ a b _ _ _ _ _ (zipApart_new la lb),⟨hz,hTI,⟨_,_,hTO⟩,h1,h2⟩,fun c hc=> ?_,q⟩
 have hc':c=s1.heap.objs.size+4\/c=s1.heap.objs.size+2\/c=s1.heap.objs.size+3\/c=s1.heap.objs.size\/c=s1.heap.objs.size+1:=by simpa using hc
 have lc:s1.heap.objs.size<=c:=by
  rcases hc' with rfl | rfl | rfl | rfl | rfl
  ·exact C5 _ _
  ·exact C5 _ _
  ·exact C5 _ _
  ·exact A8 _
  ·exact C5 _ _
 exact I1.fpOk lc (I1.hok.fresh lc)
end
end L2
namespace L2
open PySem PySem.Spec PyProof.Rows
inductive D where
 | non | bl (b:Bool) | int (i:Int) | str (x:Str) | tup (l:List D) | lst (l:List D) | ktup (l:List D) | klst (l:List D)
 | dK (ks:List Key) (vs:List D) | dT (ks:List (List Key)) (vs:List D) | set (l:List Int) | rng (lo hi:Int) | exc (C:Str)
def nY(K:Df)(nm:Str)(C:Addr):Prop:=PySem.W.nsIn K mainGlobals nm=some (some (.ref C))
mutual
def av(K:Df)(H:Hp):D->V->Prop
 | .non,v=>v = .non
 | .bl b,v=>v = .bl b
 | .int i,v=>v = .int i
 | .str x,v=>v = .str x
 | .tup ds,v=>∃ p xs,v = .ref p/\H p=some (.tup xs)/\ae K H ds xs
 | .lst ds,v=>∃ p xs,v = .ref p/\H p=some (.lst xs)/\ae K H ds xs
 | .klst ds,v=>∃ p xs,v = .ref p/\SqL K H p xs/\ae K H ds xs
 | .ktup ds,v=>∃ p xs,v = .ref p/\SqT K (fun _=>none) p xs/\ae K H ds xs
 | .dK ks ds,v=>∃ p xs,v = .ref p/\H p=some (.dK (ks.zip xs))/\ks.length=xs.length/\ae K H ds xs
 | .dT ks ds,v=>∃ p xs,v = .ref p/\H p=some (.dT (ks.zip xs))/\ks.length=xs.length/\ae K H ds xs
 | .set l,v=>∃ p S,v = .ref p/\H p=some (.set S l.length)/\∀ x,S x=true↔x∈l
 | .rng lo hi,v=>∃ p,v = .ref p/\H p=some (.rng lo hi)
 | .exc nm,v=>∃ p C,v = .ref p/\nY K nm C/\H p=some (excO p C)
def ae(K:Df)(H:Hp):List D->List V->Prop
 | [],[]=>True
 | d::ds,x::xs=>av K H d x/\ae K H ds xs
 | _,_=>False
end
mutual
theorem ad.repD{K:Df}{H H':Hp}(e:ad H H'):∀ {d:D} {v:V},av K H d v->av K H' d v
 | .non,_,h=>h
 | .bl _,_,h=>h
 | .int _,_,h=>h
 | .str _,_,h=>h
 | .tup _,_,⟨p,xs,h1,h2,h3⟩=>⟨p,xs,h1,e _ _ h2,e.repDs h3⟩
 | .lst _,_,⟨p,xs,h1,h2,h3⟩=>⟨p,xs,h1,e _ _ h2,e.repDs h3⟩
 | .klst _,_,⟨p,xs,h1,h2,h3⟩=>⟨p,xs,h1,e.seq h2,e.repDs h3⟩
 | .ktup _,_,⟨p,xs,h1,h2,h3⟩=>⟨p,xs,h1,h2,e.repDs h3⟩
 | .dK _ _,_,⟨p,xs,h1,h2,h3,h4⟩=>⟨p,xs,h1,e _ _ h2,h3,e.repDs h4⟩
 | .dT _ _,_,⟨p,xs,h1,h2,h3,h4⟩=>⟨p,xs,h1,e _ _ h2,h3,e.repDs h4⟩
 | .set _,_,⟨p,S,h1,h2,h3⟩=>⟨p,S,h1,e _ _ h2,h3⟩
 | .rng _ _,_,⟨p,h1,h2⟩=>⟨p,h1,e _ _ h2⟩
 | .exc _,_,⟨p,C,h1,h2,h3⟩=>⟨p,C,h1,h2,e _ _ h3⟩
theorem ad.repDs{K:Df}{H H':Hp}(e:ad H H'):∀ {ds:List D} {xs:List V},ae K H ds xs->ae K H' ds xs
 | [],[],_=>trivial
 | _::_,_::_,h=>⟨e.repD h.1,e.repDs h.2⟩
 | [],_::_,h=>h.elim
 | _::_,[],h=>h.elim
end
theorem ae.len{K:Df}{H:Hp}:∀ {ds:List D} {xs:List V},ae K H ds xs->ds.length=xs.length
 | [],[],_=>rfl
 | _::_,_::_,h=>by rw [A3,A3,ae.len h.2]
 | [],_::_,h=>h.elim
 | _::_,[],h=>h.elim
theorem ae.get{K:Df}{H:Hp}:∀ {ds:List D} {xs:List V} {i:Nat} {d:D},ae K H ds xs->ds[i]?=some d->∃ x,xs[i]?=some x/\av K H d x
 | _::_,x::_,0,d,h,e=>⟨x,rfl,by have:_=d:=Option.some.inj e;rw [<- this];exact h.1⟩
 | _::_,_::_,i+1,d,h,e=>ae.get (i:=i) h.2 (by simpa using e)
 | [],[],_,_,_,e=>by simp at e
 | [],_::_,_,_,h,_=>h.elim
 | _::_,[],_,_,h,_=>h.elim
theorem ae.get'{K:Df}{H:Hp}{ds:List D}{xs:List V}{i:Nat}{x:V}(h:ae K H ds xs)(e:xs[i]?=some x):∃ d,ds[i]?=some d/\av K H d x:=by
 have hi:i < ds.length:=by rw [h.len];exact (Be.mp e).1
 obtain ⟨y,e2,r⟩:=h.get (AN hi);rw [e] at e2;cases e2;exact ⟨_,AN hi,r⟩
theorem ae.app{K:Df}{H:Hp}:∀ {ds es:List D} {xs ys:List V},ae K H ds xs->ae K H es ys->ae K H (ds++es) (xs++ys)
 | [],_,[],_,_,h=>h
 | _::_,_,_::_,_,g,h=>⟨g.1,ae.app g.2 h⟩
 | [],_,_::_,_,g,_=>g.elim
 | _::_,_,[],_,g,_=>g.elim
theorem ae.take{K:Df}{H:Hp}:∀ {ds:List D} {xs:List V} (n:Nat),ae K H ds xs->ae K H (ds.take n) (xs.take n)
 | [],[],n,_=>by simp;exact trivial
 | _::_,_::_,0,_=>trivial
 | _::_,_::_,n+1,h=>⟨h.1,ae.take n h.2⟩
 | [],_::_,_,h=>h.elim
 | _::_,[],_,h=>h.elim
theorem ae.drop{K:Df}{H:Hp}:∀ {ds:List D} {xs:List V} (n:Nat),ae K H ds xs->ae K H (ds.drop n) (xs.drop n)
 | [],[],n,_=>by simp;exact trivial
 | _::_,_::_,0,h=>h
 | _::_,_::_,n+1,h=>ae.drop n h.2
 | [],_::_,_,h=>h.elim
 | _::_,[],_,h=>h.elim
theorem ae.set{K:Df}{H:Hp}{d:D}{x:V}(r:av K H d x):∀ {ds:List D} {xs:List V} (n:Nat),ae K H ds xs->ae K H (ds.set n d) (xs.set n x)
 | [],[],n,_=>by simp;exact trivial
 | _::_,_::_,0,h=>⟨r,h.2⟩
 | _::_,_::_,n+1,h=>⟨h.1,ae.set r n h.2⟩
 | [],_::_,_,h=>h.elim
 | _::_,[],_,h=>h.elim
theorem ae.erase{K:Df}{H:Hp}:∀ {ds:List D} {xs:List V} (n:Nat),ae K H ds xs->ae K H (ds.eraseIdx n) (xs.eraseIdx n)
 | [],[],n,_=>by simp;exact trivial
 | _::_,_::_,0,h=>h.2
 | _::_,_::_,n+1,h=>⟨h.1,ae.erase n h.2⟩
 | [],_::_,_,h=>h.elim
 | _::_,[],_,h=>h.elim
theorem ce{K:Df}{H:Hp}:∀ (ns:List Int),ae K H (ns.map D.int) (ns.map V.int)
 | []=>trivial
 | _::ns=>⟨rfl,ce ns⟩
theorem aP{K:Df}{H:Hp}:∀ {ns:List Int} {xs:List V},ae K H (ns.map D.int) xs->xs=ns.map V.int
 | [],[],_=>rfl
 | _::_,_::_,h=>by rw [h.1,aP h.2];rfl
 | [],_::_,h=>h.elim
 | _::_,[],h=>h.elim
theorem mO{K:Df}{H:Hp}:∀ {ns:List Bool} {xs:List V},ae K H (ns.map D.bl) xs->xs=ns.map V.bl
 | [],[],_=>rfl
 | _::_,_::_,h=>by rw [h.1,mO h.2];rfl
 | [],_::_,h=>h.elim
 | _::_,[],h=>h.elim
def hid(L:List Addr)(H:Hp):Hp:=fun a=>if a∈L then none else H a
theorem ai{L:List Addr}{H:Hp}{b:Addr}{o:HO}(h:hid L H b=some o):b∉L/\H b=some o:=by
 unfold hid at h
 split at h
 ·cases h
 ·exact ⟨‹_›,h⟩
theorem aA{L:List Addr}{H:Hp}{b:Addr}(h:b∉L):hid L H b=H b:=if_neg h
theorem aI{L L':List Addr}{H H':Hp}(hL:∀ b,b∈L'->b∈L\/H b=none)(h:∀ b o,b∉L->H b=some o->H' b=some o):ad (hid L H) (hid L' H'):=fun b o e=>by
 obtain ⟨h1,h2⟩:=ai e;rw [aA (fun z=>(hL b z).elim h1 fun n=>by rw [n] at h2;cases h2)];exact h b o h1 h2
theorem am{L:List Addr}{H:Hp}:ad (hid L H) H:=fun b o e=>(ai e).2
theorem sN{L:List Addr}{H:Hp}{p:Addr}{o:HO}(h:p∈L):hid L (upd H p o)=hid L H:=by
 funext b
 unfold hid
 split
 ·rfl
 ·rw [ag (fun z=>by subst z;exact absurd h ‹_›)]
inductive Md where
 | fz | ow | io
 deriving DecidableEq
abbrev Rho:=List (Option (D×Md))
structure Fx where
 Z:List Addr
 io:Nat->Option Addr
def aD(K:Df)(H Hh:Hp)(p:Addr):D->Prop
 | .lst ds=>∃ xs,H p=some (.lst xs)/\ae K Hh ds xs
 | .dK ks ds=>∃ xs,H p=some (.dK (ks.zip xs))/\ks.length=xs.length/\ae K Hh ds xs
 | .dT ks ds=>∃ xs,H p=some (.dT (ks.zip xs))/\ks.length=xs.length/\ae K Hh ds xs
 | _=>False
def dO:Option HO->Prop
 | some (.lst _)=>True
 | some (.dK _)=>True
 | some (.dT _)=>True
 | _=>False
theorem aD.mu{K:Df}{H Hh:Hp}{p:Addr}{d:D}(h:aD K H Hh p d):dO (H p):=by
 cases d<;>first | exact h.elim | (obtain ⟨xs,e,_⟩:=h;rw [e];trivial)
theorem aD.at{K:Df}{H H' Hh Hh':Hp}{p:Addr}{d:D}(h:aD K H Hh p d)(e:H' p=H p)(s:ad Hh Hh'):aD K H' Hh' p d:=by
 cases d<;>first
  | exact h.elim
  | (obtain ⟨xs,h1,h2,h3⟩:=h;exact ⟨xs,e.trans h1,h2,s.repDs h3⟩)
  | (obtain ⟨xs,h1,h2⟩:=h;exact ⟨xs,e.trans h1,s.repDs h2⟩)
theorem aD.rep{K:Df}{H Hh Hh':Hp}{p:Addr}{d:D}(h:aD K H Hh p d)(e:Hh' p=H p)(s:ad Hh Hh'):av K Hh' d (.ref p):=by
 cases d<;>first
  | exact h.elim
  | (obtain ⟨xs,h1,h2,h3⟩:=h;exact ⟨p,xs,rfl,e.trans h1,h2,s.repDs h3⟩)
  | (obtain ⟨xs,h1,h2⟩:=h;exact ⟨p,xs,rfl,e.trans h1,s.repDs h2⟩)
def rQ(K:Df)(F:Fx)(H:Hp)(W:List Addr)(i:Nat)(d:D)(v:V):Md->Prop
 | .fz=>av K (hid (W++F.Z) H) d v
 | .ow=>∃ p,v = .ref p/\p∈W/\aD K H (hid (W++F.Z) H) p d
 | .io=>∃ p,v = .ref p/\p∈W/\aD K H (hid (W++F.Z) H) p d/\F.io i=some p
structure Rel(K:Df)(F:Fx)(σ:St)(H:Hp)(ρ:Rho)(W:List Addr):Prop where
 slot:∀ (i:Nat) (d:D) (m:Md),ρ[i]?=some (some (d,m))->∃ v,σ[i]?=some (some v)/\rQ K F H W i d v m
 apart:∀ (i j:Nat) (d e:D) (m n:Md) (p:Addr),ρ[i]?=some (some (d,m))->m ≠ .fz->ρ[j]?=some (some (e,n))->n ≠ .fz->σ[i]?=some (some (.ref p))->σ[j]?=some (some (.ref p))->i=j
 wz:∀ p∈W,p∉F.Z
 mt:∀ p∈W++F.Z,dO (H p)
 len:σ.length=ρ.length
structure Fr(W:List Addr)(H H':Hp):Prop where
 keep:∀ b o,b∉W->H b=some o->H' b=some o
 dom:∀ b,H' b=none->H b=none
theorem Fr.refl{W:List Addr}{H:Hp}:Fr W H H:=⟨fun _ _ _ h=>h,fun _ h=>h⟩
theorem ad.fr{W:List Addr}{H H':Hp}(e:ad H H'):Fr W H H':=⟨fun b o _ h=>e b o h,fun b h=>e.free h⟩
theorem Fr.trans{W W1:List Addr}{H H1 H2:Hp}(a:Fr W H H1)(b:Fr W1 H1 H2)(h:∀ p∈W1,p∈W\/H p=none):Fr W H H2 :=
 ⟨fun c o n e=>b.keep c o (fun z=>(h c z).elim n fun q=>by rw [q] at e;cases e) (a.keep c o n e),fun c e=>a.dom c (b.dom c e)⟩
theorem Fr.hid{W W' Z:List Addr}{H H':Hp}(f:Fr W H H')(s:∀ p∈W',p∈W\/H p=none):ad (L2.hid (W++Z) H) (L2.hid (W'++Z) H') :=
 aI (fun b hb=>by
  rcases Bd.mp hb with q | q
  ·exact (s b q).imp (fun z=>AU _ z) id
  ·exact .inl (AT _ q)) fun b o n e=>f.keep b o (fun z=>n (AU _ z)) e
section
variable{K:Df}{F:Fx}{σ:St}{H H':Hp}{ρ:Rho}{W:List Addr}
theorem dO.some{o:Option HO}(h:dO o):∃ u,o=Option.some u:=by
 cases o with
 | none=>exact h.elim
 | some u=>exact ⟨u,rfl⟩
theorem Rel.same(R:Rel K F σ H ρ W)(e:ad H H'):Rel K F σ H' ρ W:=by
 have eq:∀ p,dO (H p)->H' p=H p:=fun p h=>by obtain ⟨u,q⟩:=h.some;rw [q];exact e _ _ q
 have sh:ad (hid (W++F.Z) H) (hid (W++F.Z) H'):=aI (fun b hb=> .inl hb) fun b o _ q=>e b o q
 refine ⟨fun i d m h=> ?_,R.apart,R.wz,fun p hp=>by rw [eq p (R.mt p hp)];exact R.mt p hp,R.len⟩;obtain ⟨v,h1,h2⟩:=R.slot i d m h;refine ⟨v,h1,?_⟩
 cases m with
 | fz=>exact sh.repD h2
 | ow=>obtain ⟨p,e1,e2,e3⟩:=h2;exact ⟨p,e1,e2,e3.at (eq p e3.mu) sh⟩
 | io=>obtain ⟨p,e1,e2,e3,e4⟩:=h2;exact ⟨p,e1,e2,e3.at (eq p e3.mu) sh,e4⟩
theorem Rel.fresh(R:Rel K F σ H ρ W){p:Addr}(h:H p=none):p∉W++F.Z:=fun z=>by
 have:=R.mt p z;rw [h] at this;exact this
theorem a7{α:Type}{l:List (Option α)}{i j:Nat}{o:Option α}{x:α}(h:(l.set i o)[j]?=some (some x)):(j=i/\o=some x)\/(j≠i/\l[j]?=some (some x)):=by
 by_cases e:j=i
 ·subst e
  rw [List.getElem?_set] at h
  split at h
  ·split at h
   ·exact .inl ⟨rfl,Option.some.inj h⟩
   ·cases h
  ·exact absurd rfl ‹_›
 ·rw [BB (Ne.symm e)] at h
  exact .inr ⟨e,h⟩
theorem Rel.freeze(R:Rel K F σ H ρ W){i:Nat}{d:D}{p:Addr}(h:ρ[i]?=some (some (d,.ow)))(hp:σ[i]?=some (some (.ref p))) :
 Rel K F σ H (ρ.set i (some (d,.fz))) (W.filter fun a=>decide (a≠p))/\av K (hid ((W.filter fun a=>decide (a≠p))++F.Z) H) d (.ref p):=by
 obtain ⟨v,hv,q,rfl,hq,hO⟩:=R.slot i d .ow h;rw [hp] at hv;cases hv
 have sub:∀ b,b∈W.filter (fun a=>decide (a≠p))->b∈W/\b≠p:=fun b hb=>by
  have:=BJ.mp hb;exact ⟨this.1,A6 this.2⟩
 have sh:ad (hid (W++F.Z) H) (hid ((W.filter fun a=>decide (a≠p))++F.Z) H):=aI (fun b hb=>by
  rcases Bd.mp hb with q | q
  ·exact .inl (AU _ (sub b q).1)
  ·exact .inl (AT _ q)) fun b o _ e=>e
 have pn:p∉(W.filter fun a=>decide (a≠p))++F.Z:=fun z=>by
  rcases Bd.mp z with q | q
  ·exact (sub p q).2 rfl
  ·exact R.wz p hq q
 have rep:av K (hid ((W.filter fun a=>decide (a≠p))++F.Z) H) d (.ref p):=hO.rep (aA pn) sh;refine ⟨⟨fun j e m hj=> ?_,fun j k e f m n r h1 h2 h3 h4 h5 h6=> ?_,fun r hr=>R.wz r (sub r hr).1,fun r hr=> ?_,by rw [BX];exact R.len⟩,rep⟩
 ·rcases a7 hj with ⟨rfl,e1⟩ | ⟨ne,e1⟩
  ·cases e1
   exact ⟨_,hp,rep⟩
  ·obtain ⟨v,g1,g2⟩:=R.slot j e m e1
   refine ⟨v,g1,?_⟩
   have other:∀ r,v = .ref r->m ≠ .fz->r≠p:=fun r er hm z=>by
    subst er z;exact ne (R.apart j i _ _ _ _ _ e1 hm h (by decide) g1 hp)
   cases m with
   | fz=>exact sh.repD g2
   | ow=>obtain ⟨r,e2,e3,e4⟩:=g2;exact ⟨r,e2,BJ.mpr ⟨e3,Ba (other r e2 (by decide))⟩,e4.at rfl sh⟩
   | io=>obtain ⟨r,e2,e3,e4,e5⟩:=g2;exact ⟨r,e2,BJ.mpr ⟨e3,Ba (other r e2 (by decide))⟩,e4.at rfl sh,e5⟩
 ·rcases a7 h1 with ⟨rfl,z⟩ | ⟨_,z⟩
  ·cases z;exact absurd rfl h2
  ·rcases a7 h3 with ⟨rfl,z'⟩ | ⟨_,z'⟩
   ·cases z';exact absurd rfl h4
   ·exact R.apart j k _ _ _ _ _ z h2 z' h4 h5 h6
 ·rcases Bd.mp hr with q | q
  ·exact R.mt r (AU _ (sub r q).1)
  ·exact R.mt r (AT _ q)
theorem Rel.write(R:Rel K F σ H ρ W){i:Nat}{d d':D}{m:Md}{p:Addr}{o:HO}(h:ρ[i]?=some (some (d,m)))(hm:m ≠ .fz)(hp:σ[i]?=some (some (.ref p)))(new:aD K (upd H p o) (hid (W++F.Z) H) p d') :
 Rel K F σ (upd H p o) (ρ.set i (some (d',m))) W/\Fr W H (upd H p o):=by
 obtain ⟨v,hv,hS⟩:=R.slot i d m h;rw [hp] at hv;cases hv
 have hw:p∈W:=by
  cases m with
  | fz=>exact absurd rfl hm
  | ow=>obtain ⟨r,e2,e3,_⟩:=hS;cases e2;exact e3
  | io=>obtain ⟨r,e2,e3,_⟩:=hS;cases e2;exact e3
 have hh:hid (W++F.Z) (upd H p o)=hid (W++F.Z) H:=sN (AU _ hw);refine ⟨⟨fun j e n hj=> ?_,fun j k e f n n' r h1 h2 h3 h4 h5 h6=> ?_,R.wz,fun r hr=> ?_,by rw [BX];exact R.len⟩,fun b u nb e=> ?_,fun b e=> ?_⟩
 ·rcases a7 hj with ⟨rfl,e1⟩ | ⟨ne,e1⟩
  ·cases e1
   refine ⟨_,hp,?_⟩
   cases m with
   | fz=>exact absurd rfl hm
   | ow=>exact ⟨p,rfl,hw,by rw [hh];exact new⟩
   | io=>obtain ⟨r,e2,e3,e4,e5⟩:=hS;cases e2;exact ⟨p,rfl,hw,by rw [hh];exact new,e5⟩
  ·obtain ⟨v,g1,g2⟩:=R.slot j e n e1
   refine ⟨v,g1,?_⟩
   have other:∀ r,v = .ref r->n ≠ .fz->r≠p:=fun r er hn z=>by
    subst er z;exact ne (R.apart j i _ _ _ _ _ e1 hn h hm g1 hp)
   cases n with
   | fz=>show av K (hid (W++F.Z) (upd H p o)) e v;rw [hh];exact g2
   | ow=>obtain ⟨r,e2,e3,e4⟩:=g2;exact ⟨r,e2,e3,e4.at (ag (other r e2 (by decide))) (by rw [hh];exact ad.refl _)⟩
   | io=>obtain ⟨r,e2,e3,e4,e5⟩:=g2;exact ⟨r,e2,e3,e4.at (ag (other r e2 (by decide))) (by rw [hh];exact ad.refl _),e5⟩
 ·have fnd:∀ {j:Nat} {e:D} {n:Md},(ρ.set i (some (d',m)))[j]?=some (some (e,n))->n ≠ .fz->∃ e',ρ[j]?=some (some (e',n)):=fun {j e n} hj hn=>by
   rcases a7 hj with ⟨rfl,e1⟩ | ⟨_,e1⟩
   ·cases e1;exact ⟨d,h⟩
   ·exact ⟨_,e1⟩
  obtain ⟨_,z1⟩:=fnd h1 h2;obtain ⟨_,z2⟩:=fnd h3 h4;exact R.apart j k _ _ _ _ _ z1 h2 z2 h4 h5 h6
 ·by_cases e:r=p
  ·subst e;exact new.mu
  ·rw [ag e];exact R.mt r hr
 ·rw [ag (fun z=>by subst z;exact nb hw)];exact e
 ·by_cases z:b=p
  ·subst z;rw [ao] at e;cases e
  ·rw [ag z] at e;exact e
theorem Rel.put(R:Rel K F σ H ρ W){i:Nat}{d:D}{v:V}(hi:i < σ.length)(r:av K (hid (W++F.Z) H) d v):Rel K F (σ.set i (some v)) H (ρ.set i (some (d,.fz))) W:=by
 refine ⟨fun j e m hj=> ?_,fun j k e f m n p h1 h2 h3 h4 h5 h6=> ?_,R.wz,R.mt,by rw [BX,BX];exact R.len⟩
 ·rcases a7 hj with ⟨rfl,e1⟩ | ⟨ne,e1⟩
  ·cases e1
   exact ⟨v,B0 hi,r⟩
  ·obtain ⟨v',g1,g2⟩:=R.slot j e m e1
   exact ⟨v',by rw [BB (Ne.symm ne)];exact g1,g2⟩
 ·rcases a7 h1 with ⟨rfl,z⟩ | ⟨n1,z⟩
  ·cases z;exact absurd rfl h2
  ·rcases a7 h3 with ⟨rfl,z'⟩ | ⟨n2,z'⟩
   ·cases z';exact absurd rfl h4
   ·rw [BB (Ne.symm n1)] at h5
    rw [BB (Ne.symm n2)] at h6;exact R.apart j k _ _ _ _ _ z h2 z' h4 h5 h6
theorem Rel.own{p:Addr}(R:Rel K F σ (hid [p] H) ρ W){i:Nat}{d:D}(hi:i < σ.length)(hp:p∉W++F.Z)(r:aD K H (hid (p::(W++F.Z)) H) p d):Rel K F (σ.set i (some (.ref p))) H (ρ.set i (some (d,.ow))) (p::W):=by
 have hh:hid (W++F.Z) (hid [p] H)=hid ((p::W)++F.Z) H:=by
  funext b
  unfold hid
  by_cases z:b=p
  ·subst z
   rw [if_neg hp];simp
  ·by_cases z2:b∈W++F.Z
   ·rw [if_pos z2,if_pos (by rw [BP];exact AV _ z2)]
   ·rw [if_neg z2,if_neg (by simpa using z),if_neg (by rw [BP];exact fun q=>(A9.mp q).elim z z2)]
 have neq:∀ r,r∈W++F.Z->hid [p] H r=H r:=fun r hr=>aA (by
  intro z
  have z:r=p:=by simpa using z
  subst z;exact hp hr)
 refine ⟨fun j e m hj=> ?_,fun j k e f m n q h1 h2 h3 h4 h5 h6=> ?_,fun q hq=> ?_,fun q hq=> ?_,by rw [BX,BX];exact R.len⟩
 ·rcases a7 hj with ⟨rfl,e1⟩ | ⟨ne,e1⟩
  ·cases e1
   exact ⟨_,B0 hi,p,rfl,AY,r⟩
  ·obtain ⟨v',g1,g2⟩:=R.slot j e m e1
   refine ⟨v',by rw [BB (Ne.symm ne)];exact g1,?_⟩
   cases m with
   | fz=>show av K (hid ((p::W)++F.Z) H) e v';rw [<- hh];exact g2
   | ow=>obtain ⟨r,e2,e3,e4⟩:=g2;exact ⟨r,e2,AV _ e3,e4.at (neq r (AU _ e3)).symm (by rw [hh];exact ad.refl _)⟩
   | io=>obtain ⟨r,e2,e3,e4,e5⟩:=g2;exact ⟨r,e2,AV _ e3,e4.at (neq r (AU _ e3)).symm (by rw [hh];exact ad.refl _),e5⟩
 ·have inW:∀ {j:Nat} {e:D} {m:Md},ρ[j]?=some (some (e,m))->m ≠ .fz->σ[j]?=some (some (.ref p))->False:=fun {j e m} h1 h2 h3=>by
   obtain ⟨v,g1,g2⟩:=R.slot j e m h1;rw [h3] at g1;cases g1
   cases m with
   | fz=>exact h2 rfl
   | ow=>obtain ⟨r,e2,e3,_⟩:=g2;cases e2;exact hp (AU _ e3)
   | io=>obtain ⟨r,e2,e3,_⟩:=g2;cases e2;exact hp (AU _ e3)
  rcases a7 h1 with ⟨rfl,z⟩ | ⟨n1,z⟩
  ·rw [B0 hi] at h5
   cases h5
   rcases a7 h3 with ⟨rfl,z'⟩ | ⟨n2,z'⟩
   ·rfl
   ·rw [BB (Ne.symm n2)] at h6
    exact (inW z' h4 h6).elim
  ·rw [BB (Ne.symm n1)] at h5
   rcases a7 h3 with ⟨rfl,z'⟩ | ⟨n2,z'⟩
   ·rw [B0 hi] at h6
    cases h6;exact (inW z h2 h5).elim
   ·rw [BB (Ne.symm n2)] at h6
    exact R.apart j k _ _ _ _ _ z h2 z' h4 h5 h6
 ·rcases A9.mp hq with rfl | hq
  ·exact fun z=>hp (AT _ z)
  ·exact R.wz q hq
 ·rcases A9.mp (show q∈p::(W++F.Z) from hq) with rfl | hq
  ·exact r.mu
  ·have:=R.mt q hq
   rw [neq q hq] at this;exact this
end
theorem PE.by{X:Cx}{e:Expr}{t t':TE}(h:PE X e t)(hi:∀ σ H Q,t' σ H Q->t σ H Q):PE X e t':=fun pins s σ H Q I hw=>h pins s σ H Q I (hi σ H Q hw)
theorem PT.by{X:Cx}{e:Expr}{t t':TT}(h:PT X e t)(hi:∀ σ H Q,t' σ H Q->t σ H Q):PT X e t':=fun pins s σ H Q I hw=>h pins s σ H Q I (hi σ H Q hw)
inductive Res where
 | ok (d:D) (nw:Bool) | ex (C:Str)
inductive oz where
 | ok (ds:List D) | ex (C:Str)
inductive uS where
 | ok (b:Bool) | ex (C:Str)
abbrev SE:=Rho->Option (Res×Rho)
abbrev ST:=Rho->Option (uS×Rho)
abbrev EXT:=Str->St->Hp->Prop
section
variable(K:Df)(F:Fx)(EX:EXT)(σ:St)(H:Hp)(W:List Addr)
def fF(H':Hp)(ρ':Rho)(W':List Addr)(d:D):Bool->V->Prop
 | false,v=>av K (hid (W'++F.Z) H') d v/\Rel K F σ H' ρ' W'
 | true,v=>∃ p,v = .ref p/\H p=none/\p∉W'++F.Z/\aD K H' (hid (p::(W'++F.Z)) H') p d/\Rel K F σ (hid [p] H') ρ' W'
def OkV(o:Option (Res×Rho))(Q:VK):Prop:=match o with
 | some (.ok d nw,ρ')=>∀ v H' W',Fr W H H'->(∀ p∈W',p∈W)->fF K F σ H H' ρ' W' d nw v->Q v H'
 | some (.ex C,ρ')=>∀ H' W',Fr W H H'->(∀ p∈W',p∈W)->Rel K F σ H' ρ' W'->EX C σ H'
 | none=>False
def OkT(o:Option (uS×Rho))(Q:Bool->Hp->Prop):Prop:=match o with
 | some (.ok b,ρ')=>∀ H' W',Fr W H H'->(∀ p∈W',p∈W)->Rel K F σ H' ρ' W'->Q b H'
 | some (.ex C,ρ')=>∀ H' W',Fr W H H'->(∀ p∈W',p∈W)->Rel K F σ H' ρ' W'->EX C σ H'
 | none=>False
end
def tV(K:Df)(EX:EXT)(f:SE):TE:=fun σ H Q=>∃ F ρ W,Rel K F σ H ρ W/\OkV K F EX σ H W (f ρ) Q
def tVT(K:Df)(EX:EXT)(f:ST):TT:=fun σ H Q=>∃ F ρ W,Rel K F σ H ρ W/\OkT K F EX σ H W (f ρ) Q
structure JE(X:Cx)(EX:EXT)(e:Expr)(f:SE):Prop where
 p:PE X e (tV X.K EX f)
structure JT(X:Cx)(EX:EXT)(e:Expr)(f:ST):Prop where
 p:PT X e (tVT X.K EX f)
structure JW(X:Cx)(EX:EXT)(e:Expr)(f:ST):Prop where
 p:PW X e (tVT X.K EX f)
inductive Arg where
 | ex (f:SE) | bor (i:Nat)
def tArg(K:Df)(EX:EXT):Arg->TE
 | .ex f=>tV K EX f
 | .bor i=>vm i
def tAs(K:Df)(EX:EXT):List Arg->TA
 | []=>yb
 | a::as=>rX (tArg K EX a) (tAs K EX as)
structure JB(X:Cx)(EX:EXT)(e:Expr)(a:Arg):Prop where
 p:PE X e (tArg X.K EX a)
structure JA(X:Cx)(EX:EXT)(es:List Expr)(as:List Arg):Prop where
 p:PA X es (tAs X.K EX as)
def evA:List Arg->Rho->Option (oz×Rho)
 | [],ρ=>some (.ok [],ρ)
 | .ex f::as,ρ=>match f ρ with
  | some (.ok d _,ρ1)=>match evA as ρ1 with
   | some (.ok ds,ρ2)=>some (.ok (d::ds),ρ2)
   | some (.ex C,ρ2)=>some (.ex C,ρ2)
   | none=>none
  | some (.ex C,ρ1)=>some (.ex C,ρ1)
  | none=>none
 | .bor i::as,ρ=>match ρ[i]? with
  | some (some _)=>match evA as ρ with
   | some (.ok ds,ρ2)=>match ρ2[i]? with
    | some (some (d,_))=>some (.ok (d::ds),ρ2)
    | _=>none
   | some (.ex C,ρ2)=>some (.ex C,ρ2)
   | none=>none
  | _=>none
def gM(K:Df)(H Hh:Hp):D->V->Prop
 | .lst ds,v=>∃ p xs,v = .ref p/\H p=some (.lst xs)/\ae K Hh ds xs
 | .dK ks ds,v=>∃ p xs,v = .ref p/\H p=some (.dK (ks.zip xs))/\ks.length=xs.length/\ae K Hh ds xs
 | .dT ks ds,v=>∃ p xs,v = .ref p/\H p=some (.dT (ks.zip xs))/\ks.length=xs.length/\ae K Hh ds xs
 | d,v=>av K Hh d v
def jX(K:Df)(H Hh:Hp):List D->List V->Prop
 | [],[]=>True
 | d::ds,x::xs=>gM K H Hh d x/\jX K H Hh ds xs
 | _,_=>False
section
variable{K:Df}{F:Fx}{EX:EXT}{σ:St}{H H' Hh Hh':Hp}{ρ ρ':Rho}{W W':List Addr}
theorem av.b{d:D}{v:V}(r:av K Hh d v)(s:ad Hh H):gM K H Hh d v:=by
 cases d<;>first
  | exact r
  | (obtain ⟨p,xs,h1,h2,h3,h4⟩:=r;exact ⟨p,xs,h1,s _ _ h2,h3,h4⟩)
  | (obtain ⟨p,xs,h1,h2,h3⟩:=r;exact ⟨p,xs,h1,s _ _ h2,h3⟩)
theorem aD.b{p:Addr}{d:D}(h:aD K H Hh p d):gM K H Hh d (.ref p):=by
 cases d<;>first
  | exact h.elim
  | (obtain ⟨xs,h1,h2,h3⟩:=h;exact ⟨p,xs,rfl,h1,h2,h3⟩)
  | (obtain ⟨xs,h1,h2⟩:=h;exact ⟨p,xs,rfl,h1,h2⟩)
theorem gM.d{d:D}{v:V}(r:gM K H Hh d v)(s:ad Hh H):av K H d v:=by
 cases d<;>first
  | exact s.repD r
  | (obtain ⟨p,xs,h1,h2,h3,h4⟩:=r;exact ⟨p,xs,h1,h2,h3,s.repDs h4⟩)
  | (obtain ⟨p,xs,h1,h2,h3⟩:=r;exact ⟨p,xs,h1,h2,s.repDs h3⟩)
theorem rQ.b{i:Nat}{d:D}{v:V}{m:Md}(h:rQ K F H W i d v m):gM K H (hid (W++F.Z) H) d v:=by
 cases m with
 | fz=>exact av.b h am
 | ow=>obtain ⟨p,rfl,_,h⟩:=h;exact h.b
 | io=>obtain ⟨p,rfl,_,h,_⟩:=h;exact h.b
theorem fF.plain{H0:Hp}{d:D}{nw:Bool}{v:V}(h:fF K F σ H0 H ρ W d nw v):av K (hid (W++F.Z) H) d v/\Rel K F σ H ρ W:=by
 cases nw with
 | false=>exact h
 | true =>
  obtain ⟨p,rfl,_,hp,hO,R⟩:=h;refine ⟨hO.rep (aA hp) (aI (fun b hb=> .inl (AV _ hb)) fun b o _ e=>e),R.same am⟩
variable(K F EX) in
def OkAs(σ:St)(H:Hp)(W:List Addr)(o:Option (oz×Rho))(Q:List V->Hp->Prop):Prop:=match o with
 | some (.ok ds,ρ')=>∀ vs H' W',Fr W H H'->(∀ p∈W',p∈W)->Rel K F σ H' ρ' W'->jX K H' (hid (W'++F.Z) H') ds vs->Q vs H'
 | some (.ex C,ρ')=>∀ H' W',Fr W H H'->(∀ p∈W',p∈W)->Rel K F σ H' ρ' W'->EX C σ H'
 | none=>False
theorem mU:∀ (as:List Arg) {H:Hp} {ρ:Rho} {W:List Addr} {Q:List V->Hp->Prop},Rel K F σ H ρ W->OkAs K F EX σ H W (evA as ρ) Q->tAs K EX as σ H Q
 | [],H,ρ,W,Q,R,h=>h [] H W .refl (fun _ z=>z) R trivial
 | .ex f::as,H,ρ,W,Q,R,h=>by
  refine ⟨F,ρ,W,R,?_⟩;unfold evA at h
  revert h
  cases f ρ with
  | none=>exact fun h=>h
  | some r =>
   obtain ⟨r,ρ1⟩:=r
   cases r with
   | ex C=>exact fun h=>h
   | ok d nw =>
    intro h v H1 W1 fr sub post;obtain ⟨rd,R1⟩:=post.plain;refine mU as R1 ?_
    revert h
    dsimp only
    cases evA as ρ1 with
    | none=>exact fun h=>h
    | some q =>
     obtain ⟨q,ρ2⟩:=q
     cases q with
     | ex C=>exact fun h H2 W2 fr2 sub2 R2=>h H2 W2 (fr.trans fr2 fun p hp=> .inl (sub p hp)) (fun p hp=>sub p (sub2 p hp)) R2
     | ok ds =>
      intro h vs H2 W2 fr2 sub2 R2 reps;exact h (v::vs) H2 W2 (fr.trans fr2 fun p hp=> .inl (sub p hp)) (fun p hp=>sub p (sub2 p hp)) R2 ⟨av.b ((fr2.hid fun p hp=> .inl (sub2 p hp)).repD rd) am,reps⟩
 | .bor i::as,H,ρ,W,Q,R,h=>by
  unfold evA at h
  revert h
  cases e:ρ[i]? with
  | none=>exact fun h=>h.elim
  | some z =>
   cases z with
   | none=>exact fun h=>h.elim
   | some dm =>
    obtain ⟨d0,m0⟩:=dm;obtain ⟨v,hv,_⟩:=R.slot i d0 m0 e;intro h;refine ⟨v,hv,mU as R ?_⟩
    revert h
    dsimp only
    cases evA as ρ with
    | none=>exact fun h=>h
    | some q =>
     obtain ⟨q,ρ2⟩:=q
     cases q with
     | ex C=>exact fun h=>h
     | ok ds =>
      dsimp only
      cases e2:ρ2[i]? with
      | none=>exact fun h=>h.elim
      | some z =>
       cases z with
       | none=>exact fun h=>h.elim
       | some dm =>
        obtain ⟨d,m⟩:=dm;intro h vs H2 W2 fr2 sub2 R2 reps;obtain ⟨v2,hv2,ok2⟩:=R2.slot i d m e2;rw [hv] at hv2;cases hv2;exact h (v::vs) H2 W2 fr2 sub2 R2 ⟨ok2.b,reps⟩
variable(K F EX) in
def OkFs(σ:St)(H:Hp)(W:List Addr)(o:Option (oz×Rho))(Q:List V->Hp->Prop):Prop:=match o with
 | some (.ok ds,ρ')=>∀ vs H' W',Fr W H H'->(∀ p∈W',p∈W)->Rel K F σ H' ρ' W'->ae K (hid (W'++F.Z) H') ds vs->Q vs H'
 | some (.ex C,ρ')=>∀ H' W',Fr W H H'->(∀ p∈W',p∈W)->Rel K F σ H' ρ' W'->EX C σ H'
 | none=>False
theorem mH:∀ (fs:List SE) {H:Hp} {ρ:Rho} {W:List Addr} {Q:List V->Hp->Prop},Rel K F σ H ρ W->OkFs K F EX σ H W (evA (fs.map Arg.ex) ρ) Q->tAs K EX (fs.map Arg.ex) σ H Q
 | [],H,ρ,W,Q,R,h=>h [] H W .refl (fun _ z=>z) R trivial
 | f::fs,H,ρ,W,Q,R,h=>by
  refine ⟨F,ρ,W,R,?_⟩;rw [A4] at h;unfold evA at h
  revert h
  cases f ρ with
  | none=>exact fun h=>h
  | some r =>
   obtain ⟨r,ρ1⟩:=r
   cases r with
   | ex C=>exact fun h=>h
   | ok d nw =>
    intro h v H1 W1 fr sub post;obtain ⟨rd,R1⟩:=post.plain;refine mH fs R1 ?_
    revert h
    dsimp only
    cases evA (fs.map Arg.ex) ρ1 with
    | none=>exact fun h=>h
    | some q =>
     obtain ⟨q,ρ2⟩:=q
     cases q with
     | ex C=>exact fun h H2 W2 fr2 sub2 R2=>h H2 W2 (fr.trans fr2 fun p hp=> .inl (sub p hp)) (fun p hp=>sub p (sub2 p hp)) R2
     | ok ds =>
      intro h vs H2 W2 fr2 sub2 R2 reps;exact h (v::vs) H2 W2 (fr.trans fr2 fun p hp=> .inl (sub p hp)) (fun p hp=>sub p (sub2 p hp)) R2 ⟨(fr2.hid fun p hp=> .inl (sub2 p hp)).repD rd,reps⟩
end
def gz(K:Df)(H H':Hp)(L:List Addr)(d:D):Bool->V->Prop
 | false,v=>av K (hid L H') d v
 | true,v=>∃ p,v = .ref p/\H p=none/\aD K H' (hid (p::L) H') p d
def OpS(K:Df)(r:List V->Hp->VK->Prop)(g:List D->Option (D×Bool)):Prop :=
 ∀ vs ds H L Q d nw,(∀ p∈L,dO (H p))->jX K H (hid L H) ds vs->g ds=some (d,nw)->(∀ v H',ad H H'->gz K H H' L d nw v->Q v H')->r vs H Q
def sOp(g:List D->Option (D×Bool))(as:List Arg):SE:=fun ρ=>match evA as ρ with
 | some (.ok ds,ρ')=>match g ds with
  | some (d,nw)=>some (.ok d nw,ρ')
  | none=>none
 | some (.ex C,ρ')=>some (.ex C,ρ')
 | none=>none
section
variable{K:Df}{F:Fx}{EX:EXT}{σ:St}{H H':Hp}{ρ ρ':Rho}{W W':List Addr}{Q:VK}
theorem gz.e{d:D}{nw:Bool}{v:V}(h:gz K H H' (W++F.Z) d nw v)(R:Rel K F σ H ρ W)(s:ad H H'):fF K F σ H H' ρ W d nw v:=by
 cases nw with
 | false=>exact ⟨h,R.same s⟩
 | true =>
  obtain ⟨p,rfl,hp,hO⟩:=h;refine ⟨p,rfl,hp,R.fresh hp,hO,R.same fun b o e=> ?_⟩
  rw [aA (by intro z;have z:b=p:=by simpa using z
             subst z;rw [hp] at e;cases e)]
  exact s b o e
theorem fF.back{H0:Hp}{d:D}{nw:Bool}{v:V}(h:fF K F σ H H' ρ W d nw v)(fr:∀ b,H b=none->H0 b=none):fF K F σ H0 H' ρ W d nw v:=by
 cases nw with
 | false=>exact h
 | true=>obtain ⟨p,h1,h2,h3⟩:=h;exact ⟨p,h1,fr p h2,h3⟩
theorem cA{r:List V->Hp->VK->Prop}{g:List D->Option (D×Bool)}{as:List Arg}(hs:OpS K r g)(R:Rel K F σ H ρ W)(h:OkV K F EX σ H W (sOp g as ρ) Q):tAs K EX as σ H (fun vs H2=>r vs H2 Q):=by
 refine mU as R ?_;unfold sOp at h
 revert h
 cases evA as ρ with
 | none=>exact fun h=>h
 | some q =>
  obtain ⟨q,ρ2⟩:=q
  cases q with
  | ex C=>exact fun h=>h
  | ok ds =>
   dsimp only
   cases e:g ds with
   | none=>exact fun h=>h.elim
   | some z =>
    obtain ⟨d,nw⟩:=z;intro h vs H2 W2 fr2 sub2 R2 reps
    exact hs vs ds H2 (W2++F.Z) Q d nw R2.mt reps e fun v H3 s3 post=>h v H3 W2 (fr2.trans (s3.fr (W:=W2)) fun p hp=> .inl (sub2 p hp)) sub2 ((post.e R2 s3).back fr2.dom)
end
def r2(r:R2):List V->Hp->VK->Prop
 | [x,y],H,Q=>r x y H Q
 | _,_,_=>False
section
variable{X:Cx}{EX:EXT}{a b e:Expr}{es:List Expr}{pos:Pos}{x y:Arg}{as:List Arg}
theorem ca_nil:JA X EX [] []:=⟨eY⟩
theorem zX(h:JB X EX e x)(t:JA X EX es as)(hs:starEach (e::es) X.env=(false,eval e X.env)::starEach es X.env:=by rfl):JA X EX (e::es) (x::as):=⟨cQ h.p t.p hs⟩
theorem cb_ex{f:SE}(h:JE X EX e f):JB X EX e (.ex f):=⟨h.p⟩
theorem cb_var{i:Nat}{n:Str}(hN:X.N[i]?=some n)(hv:Vis X.env.scope n)(hd:(n == ("__debug__" : Str))=false:=by decide)(hcd:(n == ("__classdict__" : Str))=false:=by decide):JB X EX (.Name n pos) (.bor i):=⟨hX hN hv hd hcd⟩
def sC(d:D):SE:=fun ρ=>some (.ok d false,ρ)
theorem oQ{v:V}{d:D}(h:∀ H,av X.K H d v){σ:St}{H:Hp}{Q:VK}(hw:tV X.K EX (sC d) σ H Q):tC v σ H Q:=by
 obtain ⟨F,ρ,W,R,h2⟩:=hw;exact h2 v H W .refl (fun _ z=>z) ⟨h _,R⟩
theorem c_int{i:Int}{j pos}:JE X EX (.Constant (.int i) j pos) (sC (.int i)):=⟨kO.by fun _ _ _=>oQ (d:=(.int i)) (v:=(.int i)) fun _=>rfl⟩
theorem c_bl{i:Bool}{j pos}:JE X EX (.Constant (.bool i) j pos) (sC (.bl i)):=⟨AA.by fun _ _ _=>oQ (d:=(.bl i)) (v:=(.bl i)) fun _=>rfl⟩
theorem c_non{j pos}:JE X EX (.Constant .none j pos) (sC .non):=⟨pe_non.by fun _ _ _=>oQ (d:= .non) (v:= .non) fun _=>rfl⟩
theorem c_str{i:Str}{j pos}:JE X EX (.Constant (.str i) j pos) (sC (.str i)):=⟨pe_str.by fun _ _ _=>oQ (d:=(.str i)) (v:=(.str i)) fun _=>rfl⟩
def aG(i:Nat):SE:=fun ρ=>match ρ[i]? with
 | some (some (d,.fz))=>some (.ok d false,ρ)
 | some (some (d,.ow))=>some (.ok d false,ρ.set i (some (d,.fz)))
 | _=>none
theorem c_var{i:Nat}{n:Str}(hN:X.N[i]?=some n)(hv:Vis X.env.scope n)(hd:(n == ("__debug__" : Str))=false:=by decide)(hcd:(n == ("__classdict__" : Str))=false:=by decide):JE X EX (.Name n pos) (aG i):=by
 refine ⟨(hX hN hv hd hcd).by fun σ H Q hw=> ?_⟩;obtain ⟨F,ρ,W,R,h⟩:=hw;unfold aG at h
 revert h
 cases e:ρ[i]? with
 | none=>exact fun h=>h.elim
 | some z =>
  cases z with
  | none=>exact fun h=>h.elim
  | some z =>
   obtain ⟨d,m⟩:=z;obtain ⟨v,hv,ok⟩:=R.slot i d m e
   cases m with
   | io=>exact fun h=>h.elim
   | fz=>exact fun h=>⟨v,hv,h v H W .refl (fun _ z=>z) ⟨ok,R⟩⟩
   | ow =>
    intro h;obtain ⟨p,rfl,hp,hO⟩:=ok;obtain ⟨R',rp⟩:=R.freeze e hv;exact ⟨_,hv,h _ H _ .refl (fun q hq=>(BJ.mp hq).1) ⟨rp,R'⟩⟩
theorem uN{op:Operator}{r:R2}{g:List D->Option (D×Bool)}(ho:OpR X (binaryOp op) r)(hs:OpS X.K (r2 r) g)(ha:JB X EX a x)(hb:JB X EX b y):JE X EX (.BinOp a op b pos) (sOp g [x,y]) :=
 ⟨(pe_op ho ha.p hb.p).by fun σ H Q ⟨F,ρ,W,R,h⟩=>cA hs R h⟩
theorem qm{op:CmpOp}{r:R2}{g:List D->Option (D×Bool)}(ho:OpR X (compareOp op) r)(hs:OpS X.K (r2 r) g)(ha:JB X EX a x)(hb:JB X EX b y)(hm:behindInMarks op b=false):JE X EX (.Compare a [op] [b] pos) (sOp g [x,y]) :=
 ⟨(yS ho ha.p hb.p hm).by fun σ H Q ⟨F,ρ,W,R,h⟩=>cA hs R h⟩
theorem c_ix{r:R2}{g:List D->Option (D×Bool)}(ho:IxR X r)(hs:OpS X.K (r2 r) g)(ha:JB X EX a x)(hb:JB X EX b y)(hp:oA b:=by exact fun _ _=>rfl):JE X EX (.Subscript a b pos) (sOp g [x,y]) :=
 ⟨(pd ho ha.p hb.p hp).by fun σ H Q ⟨F,ρ,W,R,h⟩=>cA hs R h⟩
theorem gI{id:String}{n:Str}{p:Pos}{r:List V->Hp->VK->Prop}{g:List D->Option (D×Bool)}(ho:aw X (.builtin id) r)(hs:OpS X.K r g)(hg:Gl X n)(hm:X.mg n=none)(hv:bootBuiltins n=some (.builtin id))(ha:JA X EX (e::es) as)(hn:n ≠ "__name__" := by decide)(hdb:(n == ("__debug__" : Str))=false:=by decide)
 (he:starEach (e::es) X.env=(false,eval e X.env)::starEach es X.env:=by rfl) (hpl:(backTo pos (starEach es X.env)).any (·.1)=false:=by rfl):JE X EX (.Call (.Name n p) (e::es) [] pos) (sOp g as) :=
 ⟨(pe ho hg hm hv ha.p hn hdb he hpl).by fun σ H Q ⟨F,ρ,W,R,h⟩=>cA hs R h⟩
theorem gk{T:String}{n:Str}{p:Pos}{r:List V->Hp->VK->Prop}{g:List D->Option (D×Bool)}(ho:aw X (.type T) r)(hs:OpS X.K r g)(hg:Gl X n)(hm:X.mg n=none)(hv:bootBuiltins n=some (.type T))(ha:JA X EX (e::es) as)(hn:n ≠ "__name__" := by decide)(hdb:(n == ("__debug__" : Str))=false:=by decide)
 (he:starEach (e::es) X.env=(false,eval e X.env)::starEach es X.env:=by rfl) (hpl:(backTo pos (starEach es X.env)).any (·.1)=false:=by rfl):JE X EX (.Call (.Name n p) (e::es) [] pos) (sOp g as) :=
 ⟨(tH ho hg hm hv ha.p hn hdb he hpl).by fun σ H Q ⟨F,ρ,W,R,h⟩=>cA hs R h⟩
def cc(fs:List SE):SE:=fun ρ=>match evA (fs.map Arg.ex) ρ with
 | some (.ok ds,ρ')=>some (.ok (.tup ds) false,ρ')
 | some (.ex C,ρ')=>some (.ex C,ρ')
 | none=>none
def cM(fs:List SE):SE:=fun ρ=>match evA (fs.map Arg.ex) ρ with
 | some (.ok ds,ρ')=>some (.ok (.lst ds) true,ρ')
 | some (.ex C,ρ')=>some (.ex C,ρ')
 | none=>none
inductive JF(X:Cx)(EX:EXT):List Expr->List SE->Prop where
 | nil:JF X EX [] []
 | cons {e:Expr} {es:List Expr} {f:SE} {fs:List SE} (h:JE X EX e f) (t:JF X EX es fs) (hs:starEach (e::es) X.env=(false,eval e X.env)::starEach es X.env:=by rfl):JF X EX (e::es) (f::fs)
theorem JF.p{fs:List SE}(h:JF X EX es fs):PA X es (tAs X.K EX (fs.map Arg.ex)):=by
 induction h with
 | nil=>exact eY
 | cons h t hs ih=>exact cQ h.p ih hs
theorem nW:∀ {fs:List SE} {ρ ρ':Rho} {ds:List D},evA (fs.map Arg.ex) ρ=some (.ok ds,ρ')->ds.length=fs.length
 | [],ρ,ρ',ds,h=>by
  have h:some (oz.ok [],ρ)=some (.ok ds,ρ'):=h;cases h;rfl
 | f::fs,ρ,ρ',ds,h=>by
  rw [A4] at h;unfold evA at h
  revert h
  cases f ρ with
  | none=>intro h;cases h
  | some r =>
   obtain ⟨r,ρ1⟩:=r
   cases r with
   | ex C=>intro h;cases h
   | ok d nw =>
    dsimp only
    cases e:evA (fs.map Arg.ex) ρ1 with
    | none=>intro h;cases h
    | some q =>
     obtain ⟨q,ρ2⟩:=q
     cases q with
     | ex C=>intro h;cases h
     | ok ds2=>intro h;cases h;rw [A3,A3,nW e]
theorem c_tup{fs:List SE}{x1}(h:JF X EX es fs)(hl:fs.length<=1000:=by decide):JE X EX (.Tuple es x1 pos) (cc fs) :=
 ⟨(pe_tup h.p).by fun σ H Q ⟨F,ρ,W,R,h⟩=>by
   refine mH fs R ?_;unfold cc at h
   revert h
   cases e:evA (fs.map Arg.ex) ρ with
   | none=>exact fun h=>h
   | some q =>
    obtain ⟨q,ρ2⟩:=q
    cases q with
    | ex C=>exact fun h=>h
    | ok ds =>
     intro h vs H2 W2 fr2 sub2 R2 reps
     have lv:vs.length<=1000:=by rw [<- reps.len,nW e];exact hl
     refine ⟨Nat.le_of_lt (cK lv),fun p hp=>h _ _ W2 (fr2.trans ((ad.upd hp).fr (W:=W2)) fun p hp=> .inl (sub2 p hp)) sub2 ⟨⟨p,vs,rfl,?_,?_⟩,R2.same (ad.upd hp)⟩⟩
     ·rw [aA (R2.fresh hp)];exact ao
     ·exact (aI (fun b hb=> .inl hb) fun b o _ e=>ad.upd hp b o e:ad (hid (W2++F.Z) H2) _).repDs reps⟩
theorem c_lst{fs:List SE}(h:JF X EX es fs)(hl:fs.length<=1000:=by decide):JE X EX (.List es pos) (cM fs) :=
 ⟨(wa h.p).by fun σ H Q ⟨F,ρ,W,R,h⟩=>by
   refine mH fs R ?_;unfold cM at h
   revert h
   cases e:evA (fs.map Arg.ex) ρ with
   | none=>exact fun h=>h
   | some q =>
    obtain ⟨q,ρ2⟩:=q
    cases q with
    | ex C=>exact fun h=>h
    | ok ds =>
     intro h vs H2 W2 fr2 sub2 R2 reps
     have lv:vs.length<=1000:=by rw [<- reps.len,nW e];exact hl
     refine ⟨Nat.le_of_lt (cK lv),fun p hp=>h _ _ W2 (fr2.trans ((ad.upd hp).fr (W:=W2)) fun p hp=> .inl (sub2 p hp)) sub2 ?_⟩;refine fF.back (gz.e (nw:=true) ⟨p,rfl,hp,vs,ao,?_⟩ R2 (ad.upd hp)) fr2.dom
     exact (aI (fun b hb=>(A9.mp hb).elim (fun z=> .inr (by rw [z];exact hp)) .inl) fun b o _ e=>ad.upd hp b o e:ad (hid (W2++F.Z) H2) _).repDs reps⟩
end
section
variable{K:Df}{F:Fx}{EX:EXT}{σ:St}{H H1:Hp}{ρ ρ':Rho}{W W1:List Addr}{Q:VK}
theorem OkV.go{o:Option (Res×Rho)}(h:OkV K F EX σ H W o Q)(fr:Fr W H H1)(sub:∀ p∈W1,p∈W):OkV K F EX σ H1 W1 o Q:=by
 cases o with
 | none=>exact h
 | some r =>
  obtain ⟨r,ρ1⟩:=r
  cases r with
  | ex C=>exact fun H2 W2 f2 s2 R2=>h H2 W2 (fr.trans f2 fun p hp=> .inl (sub p hp)) (fun p hp=>sub p (s2 p hp)) R2
  | ok d nw=>exact fun v H2 W2 f2 s2 P2=>h v H2 W2 (fr.trans f2 fun p hp=> .inl (sub p hp)) (fun p hp=>sub p (s2 p hp)) (P2.back fr.dom)
theorem OkT.go{o:Option (uS×Rho)}{Q:Bool->Hp->Prop}(h:OkT K F EX σ H W o Q)(fr:Fr W H H1)(sub:∀ p∈W1,p∈W):OkT K F EX σ H1 W1 o Q:=by
 cases o with
 | none=>exact h
 | some r =>
  obtain ⟨r,ρ1⟩:=r
  cases r with
  | ex C=>exact fun H2 W2 f2 s2 R2=>h H2 W2 (fr.trans f2 fun p hp=> .inl (sub p hp)) (fun p hp=>sub p (s2 p hp)) R2
  | ok d=>exact fun H2 W2 f2 s2 P2=>h H2 W2 (fr.trans f2 fun p hp=> .inl (sub p hp)) (fun p hp=>sub p (s2 p hp)) P2
end
def bE(g:List D->Option (D×Bool))(as:List Arg):ST:=fun ρ=>match sOp g as ρ with
 | some (.ok (.bl b) _,ρ')=>some (.ok b,ρ')
 | some (.ok _ _,_)=>none
 | some (.ex C,ρ')=>some (.ex C,ρ')
 | none=>none
theorem bl_of {K:Df} {F:Fx} {EX:EXT} {σ:St} {H:Hp} {ρ:Rho} {W:List Addr} {f:SE} {Q:Bool->Hp->Prop} (h:OkT K F EX σ H W (match f ρ with
 | some (.ok (.bl b) _,ρ')=>some (.ok b,ρ')
 | some (.ok _ _,_)=>none
 | some (.ex C,ρ')=>some (.ex C,ρ')
 | none=>none) Q):OkV K F EX σ H W (f ρ) fun x H'=>∃ k,x = .bl k/\Q k H':=by
 revert h
 cases f ρ with
 | none=>exact fun h=>h
 | some r =>
  obtain ⟨r,ρ1⟩:=r
  cases r with
  | ex C=>exact fun h=>h
  | ok d nw =>
   cases d<;>first
    | exact fun h=>h.elim
    | exact fun h v H' W' fr sub post=>⟨_,post.plain.1,h H' W' fr sub post.plain.2⟩
def sBl(f:SE):ST:=fun ρ=>match f ρ with
 | some (.ok (.bl b) _,ρ')=>some (.ok b,ρ')
 | some (.ok _ _,_)=>none
 | some (.ex C,ρ')=>some (.ex C,ρ')
 | none=>none
def kj:D->Option Bool
 | .non=>some false
 | .bl b=>some b
 | .int i=>some (i != 0)
 | .lst ds=>some (!ds.isEmpty)
 | .tup ds=>some (!ds.isEmpty)
 | .dK ks _=>some (!ks.isEmpty)
 | _=>none
def cy(a:Arg):ST:=fun ρ=>match evA [a] ρ with
 | some (.ok [d],ρ')=>match kj d with
  | some b=>some (.ok b,ρ')
  | none=>none
 | some (.ok _,_)=>none
 | some (.ex C,ρ')=>some (.ex C,ρ')
 | none=>none
def jl(f g:ST):ST:=fun ρ=>match f ρ with
 | some (.ok true,ρ1)=>g ρ1
 | some (.ok false,ρ1)=>some (.ok false,ρ1)
 | some (.ex C,ρ')=>some (.ex C,ρ')
 | none=>none
def sOr(f g:ST):ST:=fun ρ=>match f ρ with
 | some (.ok false,ρ1)=>g ρ1
 | some (.ok true,ρ1)=>some (.ok true,ρ1)
 | some (.ex C,ρ')=>some (.ex C,ρ')
 | none=>none
def dg(f:ST):ST:=fun ρ=>match f ρ with
 | some (.ok b,ρ1)=>some (.ok (!b),ρ1)
 | some (.ex C,ρ')=>some (.ex C,ρ')
 | none=>none
def sIf(c:ST)(f g:SE):SE:=fun ρ=>match c ρ with
 | some (.ok true,ρ1)=>f ρ1
 | some (.ok false,ρ1)=>g ρ1
 | some (.ex C,ρ')=>some (.ex C,ρ')
 | none=>none
def ck(f g:SE):SE:=fun ρ=>match f ρ with
 | some (.ok (.bl true) _,ρ1)=>g ρ1
 | some (.ok (.bl false) _,ρ1)=>some (.ok (.bl false) false,ρ1)
 | some (.ok _ _,_)=>none
 | some (.ex C,ρ')=>some (.ex C,ρ')
 | none=>none
def jk(f g:SE):SE:=fun ρ=>match f ρ with
 | some (.ok (.bl false) _,ρ1)=>g ρ1
 | some (.ok (.bl true) _,ρ1)=>some (.ok (.bl true) false,ρ1)
 | some (.ok _ _,_)=>none
 | some (.ex C,ρ')=>some (.ex C,ρ')
 | none=>none
def fx(f:SE):SE:=fun ρ=>match f ρ with
 | some (.ok (.bl b) _,ρ1)=>some (.ok (.bl (!b)) false,ρ1)
 | some (.ok _ _,_)=>none
 | some (.ex C,ρ')=>some (.ex C,ρ')
 | none=>none
section
variable{X:Cx}{EX:EXT}{a b c e:Expr}{rest es:List Expr}{pos:Pos}{x y z:Arg}{as:List Arg}
theorem wN{op:CmpOp}{r:R2}{g:List D->Option (D×Bool)}(ho:OpR X (compareOp op) r)(hs:OpS X.K (r2 r) g)(ha:JB X EX a x)(hb:JB X EX b y)(hm:behindInMarks op b=false):JT X EX (.Compare a [op] [b] pos) (bE g [x,y]) :=
 ⟨(yI ho ha.p hb.p hm).by fun σ H Q ⟨F,ρ,W,R,h⟩=>cA hs R (bl_of h)⟩
theorem tru_of{K:Df}{H Hh:Hp}{d:D}{v:V}{k:Bool}(r:gM K H Hh d v)(s:ad Hh H)(e:kj d=some k):Ag K v H k:=by
 cases d<;>simp only [kj] at e<;>first
  | cases e;done
  | (cases e;cases r;first | rfl | trivial)
  | skip
 ·obtain ⟨p,xs,rfl,h1,h2⟩:=r
  cases e;exact .inr (.inl ⟨xs,.inl (.inl (s _ _ h1)),by have:=h2.len;cases xs<;>cases ‹List D› <;> simp_all⟩)
 ·obtain ⟨p,xs,rfl,h1,h2⟩:=r
  cases e;exact .inl ⟨xs,.inl (.inl h1),by have:=h2.len;cases xs<;>cases ‹List D› <;> simp_all⟩
 ·obtain ⟨p,xs,rfl,h1,h2,h3⟩:=r
  cases e;refine .inr (.inr ⟨_,h1,?_⟩);rename_i ks vs;cases ks<;>cases xs<;>simp_all
theorem k_tru(ha:JB X EX e x)(he:∀ whole,isTrue e X.env whole=(do let v <- whole;standAt e.pos;holding [v] (truthy v)):=by intro _;rfl):JT X EX e (cy x) :=
 ⟨(vW ha.p he).by fun σ H Q ⟨F,ρ,W,R,h⟩=>by
   have z:tAs X.K EX [x] σ H (fun vs H2=>match vs with | [v]=>∃ k,Ag X.K v H2 k/\Q k H2 | _=>False):=by
    refine mU [x] R ?_;unfold cy at h
    revert h
    cases evA [x] ρ with
    | none=>exact fun h=>h
    | some q =>
     obtain ⟨q,ρ2⟩:=q
     cases q with
     | ex C=>exact fun h=>h
     | ok ds =>
      match ds with
      | []=>exact fun h=>h.elim
      | _::_::_=>exact fun h=>h.elim
      | [d] =>
       dsimp only
       cases e:kj d with
       | none=>exact fun h=>h.elim
       | some k =>
        intro h vs H2 W2 fr2 sub2 R2 reps
        match vs,reps with
        | [v],reps=>exact ⟨k,tru_of reps.1 am e,h H2 W2 fr2 sub2 R2⟩
   exact z⟩
theorem JW.t{f:ST}(h:JW X EX e f):JT X EX e f:=⟨h.p.pt⟩
theorem w_and1{f:ST}(h:JT X EX a f):JW X EX (.BoolOp .And [a] pos) f:=⟨yF h.p⟩
theorem w_or1{f:ST}(h:JT X EX a f):JW X EX (.BoolOp .Or [a] pos) f:=⟨pw_or1 h.p⟩
theorem w_and{f g:ST}(ha:JT X EX a f)(hb:JW X EX (.BoolOp .And (b::rest) pos) g):JW X EX (.BoolOp .And (a::b::rest) pos) (jl f g) :=
 ⟨fun wh pins s σ H Q I ⟨F,ρ,W,R,h⟩=>pw_and ha.p hb.p wh pins s σ H Q I ⟨F,ρ,W,R,by
  unfold jl at h
  revert h
  cases f ρ with
  | none=>exact fun h=>h
  | some q =>
   obtain ⟨q,ρ2⟩:=q
   cases q with
   | ex C=>exact fun h=>h
   | ok k =>
    cases k with
    | true=>exact fun h H2 W2 fr2 sub2 R2=>⟨F,ρ2,W2,R2,OkT.go h fr2 sub2⟩
    | false=>exact fun h=>h⟩⟩
theorem w_or{f g:ST}(ha:JT X EX a f)(hb:JW X EX (.BoolOp .Or (b::rest) pos) g):JW X EX (.BoolOp .Or (a::b::rest) pos) (sOr f g) :=
 ⟨fun wh pins s σ H Q I ⟨F,ρ,W,R,h⟩=>pw_or ha.p hb.p wh pins s σ H Q I ⟨F,ρ,W,R,by
  unfold sOr at h
  revert h
  cases f ρ with
  | none=>exact fun h=>h
  | some q =>
   obtain ⟨q,ρ2⟩:=q
   cases q with
   | ex C=>exact fun h=>h
   | ok k =>
    cases k with
    | false=>exact fun h H2 W2 fr2 sub2 R2=>⟨F,ρ2,W2,R2,OkT.go h fr2 sub2⟩
    | true=>exact fun h=>h⟩⟩
theorem k_not{f:ST}(h:JT X EX a f):JT X EX (.UnaryOp .Not a pos) (dg f) :=
 ⟨(pt_not h.p).by fun σ H Q ⟨F,ρ,W,R,h⟩=>⟨F,ρ,W,R,by
   unfold dg at h
   revert h
   cases f ρ with
   | none=>exact fun h=>h
   | some q =>
    obtain ⟨q,ρ2⟩:=q
    cases q with
    | ex C=>exact fun h=>h
    | ok k=>exact fun h=>h⟩⟩
theorem c_one{op}{f:SE}(h:JE X EX a f):JE X EX (.BoolOp op [a] pos) f:=⟨pe_one h.p⟩
theorem c_and{f g:SE}(ha:JE X EX a f)(hb:JE X EX (.BoolOp .And (b::rest) pos) g):JE X EX (.BoolOp .And (a::b::rest) pos) (ck f g) :=
 ⟨(pe_and ha.p hb.p).by fun σ H Q ⟨F,ρ,W,R,h⟩=>⟨F,ρ,W,R,by
   unfold ck at h
   revert h
   cases f ρ with
   | none=>exact fun h=>h
   | some q =>
    obtain ⟨q,ρ2⟩:=q
    cases q with
    | ex C=>exact fun h=>h
    | ok d nw =>
     cases d<;>first | exact fun h=>h.elim | skip
     rename_i k
     cases k with
     | true=>exact fun h v H2 W2 fr2 sub2 P2=>⟨true,P2.plain.1,F,ρ2,W2,P2.plain.2,OkV.go h fr2 sub2⟩
     | false=>exact fun h v H2 W2 fr2 sub2 P2=>⟨false,P2.plain.1,h (.bl false) H2 W2 fr2 sub2 ⟨rfl,P2.plain.2⟩⟩⟩⟩
theorem c_or{f g:SE}(ha:JE X EX a f)(hb:JE X EX (.BoolOp .Or (b::rest) pos) g):JE X EX (.BoolOp .Or (a::b::rest) pos) (jk f g) :=
 ⟨(pe_or ha.p hb.p).by fun σ H Q ⟨F,ρ,W,R,h⟩=>⟨F,ρ,W,R,by
   unfold jk at h
   revert h
   cases f ρ with
   | none=>exact fun h=>h
   | some q =>
    obtain ⟨q,ρ2⟩:=q
    cases q with
    | ex C=>exact fun h=>h
    | ok d nw =>
     cases d<;>first | exact fun h=>h.elim | skip
     rename_i k
     cases k with
     | false=>exact fun h v H2 W2 fr2 sub2 P2=>⟨false,P2.plain.1,F,ρ2,W2,P2.plain.2,OkV.go h fr2 sub2⟩
     | true=>exact fun h v H2 W2 fr2 sub2 P2=>⟨true,P2.plain.1,h (.bl true) H2 W2 fr2 sub2 ⟨rfl,P2.plain.2⟩⟩⟩⟩
theorem c_not{f:SE}(ha:JE X EX a f):JE X EX (.UnaryOp .Not a pos) (fx f) :=
 ⟨(pe_not ha.p).by fun σ H Q ⟨F,ρ,W,R,h⟩=>⟨F,ρ,W,R,by
   unfold fx at h
   revert h
   cases f ρ with
   | none=>exact fun h=>h
   | some q =>
    obtain ⟨q,ρ2⟩:=q
    cases q with
    | ex C=>exact fun h=>h
    | ok d nw =>
     cases d<;>first | exact fun h=>h.elim | skip
     exact fun h v H2 W2 fr2 sub2 P2=>⟨_,P2.plain.1,h _ H2 W2 fr2 sub2 ⟨rfl,P2.plain.2⟩⟩⟩⟩
abbrev RSl:=V->Option Int->Option Int->Hp->VK->Prop
def rS00(r:RSl):List V->Hp->VK->Prop
 | [x],H,Q=>r x none none H Q
 | _,_,_=>False
def rS10(r:RSl):List V->Hp->VK->Prop
 | [x,y],H,Q=>∃ i,y = .int i/\r x (some i) none H Q
 | _,_,_=>False
def rS11(r:RSl)(i j:Int):List V->Hp->VK->Prop
 | [x],H,Q=>∃ i',V.int i = .int i'/\∃ j',V.int j = .int j'/\r x (some i') (some j') H Q
 | _,_,_=>False
theorem c_sl10{p2:Pos}{r:RSl}{g:List D->Option (D×Bool)}(ho:SlR X r)(hs:OpS X.K (rS10 r) g)(ha:JB X EX a x)(hb:JB X EX b y):JE X EX (.Subscript a (.Slice (some b) none none p2) pos) (sOp g [x,y]) :=
 ⟨(pc ho ha.p (nB hb.p) yL).by fun σ H Q ⟨F,ρ,W,R,h⟩=>cA hs R h⟩
theorem c_sl11{p2 p3 p4:Pos}{r:RSl}{g:List D->Option (D×Bool)}{i j:Int}{k1 k2}(ho:SlR X r)(hs:OpS X.K (rS11 r i j) g)(ha:JB X EX a x):JE X EX (.Subscript a (.Slice (some (.Constant (.int i) k1 p3)) (some (.Constant (.int j) k2 p4)) none p2) pos) (sOp g [x]) :=
 ⟨(pc ho ha.p (nB kO) (nB kO)).by fun σ H Q ⟨F,ρ,W,R,h⟩=>cA hs R h⟩
end
theorem PS.by{X:Cx}{e:Stmt}{t t':TS}(h:PS X e t)(hi:∀ D σ H,t' D σ H->t D σ H):PS X e t':=fun pins s σ H D I hw=>h pins s σ H D I (hi D σ H hw)
theorem PSs.by{X:Cx}{e:List Stmt}{t t':TS}(h:PSs X e t)(hi:∀ D σ H,t' D σ H->t D σ H):PSs X e t':=fun pins s σ H D I hw=>h pins s σ H D I (hi D σ H hw)
inductive Out where
 | nx | rt (d:D) (nw:Bool) | ex (C:Str) | bk | ct
abbrev SS:=Rho->Option (Out×Rho)
section
variable(K:Df)(F:Fx)(EX:EXT)(σ:St)(H:Hp)(W:List Addr)
def qu(σ':St)(H':Hp)(ρ':Rho)(W':List Addr)(d:D):Bool->V->Prop
 | false,v=>av K (hid (W'++F.Z) H') d v/\Rel K F σ' H' ρ' W'
 | true,v=>∃ p,v = .ref p/\(p∈W\/H p=none)/\p∉W'++F.Z/\aD K H' (hid (p::(W'++F.Z)) H') p d/\Rel K F σ' (hid [p] H') ρ' W'
def OkS(o:Option (Out×Rho))(D:j8):Prop:=match o with
 | some (.nx,ρ')=>∀ σ' H' W',Fr W H H'->(∀ p∈W',p∈W\/H p=none)->Rel K F σ' H' ρ' W'->D.nx σ' H'
 | some (.bk,ρ')=>∀ σ' H' W',Fr W H H'->(∀ p∈W',p∈W\/H p=none)->Rel K F σ' H' ρ' W'->D.bk σ' H'
 | some (.ct,ρ')=>∀ σ' H' W',Fr W H H'->(∀ p∈W',p∈W\/H p=none)->Rel K F σ' H' ρ' W'->D.ct σ' H'
 | some (.ex C,ρ')=>∀ σ' H' W',Fr W H H'->(∀ p∈W',p∈W\/H p=none)->Rel K F σ' H' ρ' W'->EX C σ' H'
 | some (.rt d nw,ρ')=>∀ σ' v H' W',Fr W H H'->(∀ p∈W',p∈W\/H p=none)->qu K F H W σ' H' ρ' W' d nw v->D.rt v H'
 | none=>False
end
def tVS(K:Df)(EX:EXT)(f:SS):TS:=fun D σ H=>∃ F ρ W,Rel K F σ H ρ W/\OkS K F EX H W (f ρ) D
structure JS(X:Cx)(EX:EXT)(e:Stmt)(f:SS):Prop where
 p:PS X e (tVS X.K EX f)
structure JSs(X:Cx)(EX:EXT)(e:List Stmt)(f:SS):Prop where
 p:PSs X e (tVS X.K EX f)
section
variable{K:Df}{F:Fx}{EX:EXT}{σ σ1:St}{H H1:Hp}{ρ ρ':Rho}{W W1:List Addr}{D:j8}
theorem qu.back{σ':St}{H':Hp}{ρ':Rho}{W':List Addr}{d:L2.D}{nw:Bool}{v:V}(h:qu K F H1 W1 σ' H' ρ' W' d nw v)(fr:∀ b,H1 b=none->H b=none)(sub:∀ p∈W1,p∈W\/H p=none):qu K F H W σ' H' ρ' W' d nw v:=by
 cases nw with
 | false=>exact h
 | true=>obtain ⟨p,h1,h2,h3⟩:=h;exact ⟨p,h1,h2.elim (sub p) fun z=> .inr (fr p z),h3⟩
theorem OkS.go{o:Option (Out×Rho)}(h:OkS K F EX H W o D)(fr:Fr W H H1)(sub:∀ p∈W1,p∈W\/H p=none):OkS K F EX H1 W1 o D:=by
 have sub2:∀ {W2:List Addr},(∀ p∈W2,p∈W1\/H1 p=none)->∀ p∈W2,p∈W\/H p=none:=fun {W2} s2 p hp=>(s2 p hp).elim (sub p) fun z=> .inr (fr.dom p z)
 cases o with
 | none=>exact h
 | some r =>
  obtain ⟨r,ρ1⟩:=r
  cases r with
  | ex C=>exact fun σ2 H2 W2 f2 s2 R2=>h σ2 H2 W2 (fr.trans f2 sub) (sub2 s2) R2
  | nx=>exact fun σ2 H2 W2 f2 s2 R2=>h σ2 H2 W2 (fr.trans f2 sub) (sub2 s2) R2
  | bk=>exact fun σ2 H2 W2 f2 s2 R2=>h σ2 H2 W2 (fr.trans f2 sub) (sub2 s2) R2
  | ct=>exact fun σ2 H2 W2 f2 s2 R2=>h σ2 H2 W2 (fr.trans f2 sub) (sub2 s2) R2
  | rt d nw=>exact fun σ2 v H2 W2 f2 s2 P2=>h σ2 v H2 W2 (fr.trans f2 sub) (sub2 s2) (P2.back fr.dom sub)
theorem fF.r{H':Hp}{ρ':Rho}{W':List Addr}{d:L2.D}{nw:Bool}{v:V}(h:fF K F σ H H' ρ' W' d nw v):qu K F H W σ H' ρ' W' d nw v:=by
 cases nw with
 | false=>exact h
 | true=>obtain ⟨p,h1,h2,h3⟩:=h;exact ⟨p,h1,.inr h2,h3⟩
end
def cp:SS:=fun ρ=>some (.nx,ρ)
def al(f g:SS):SS:=fun ρ=>match f ρ with
 | some (.nx,ρ1)=>g ρ1
 | r=>r
def aO(i:Nat)(f:SE):SS:=fun ρ=>match f ρ with
 | some (.ok d nw,ρ')=>match ρ'[i]? with
  | some _=>some (.nx,ρ'.set i (some (d,if nw then .ow else .fz)))
  | none=>none
 | some (.ex C,ρ')=>some (.ex C,ρ')
 | none=>none
def aF(f:SE):SS:=fun ρ=>match f ρ with
 | some (.ok d nw,ρ')=>some (.rt d nw,ρ')
 | some (.ex C,ρ')=>some (.ex C,ρ')
 | none=>none
def me:SS:=fun ρ=>some (.rt .non false,ρ)
def cU(f:SE):SS:=fun ρ=>match f ρ with
 | some (.ok _ _,ρ')=>some (.nx,ρ')
 | some (.ex C,ρ')=>some (.ex C,ρ')
 | none=>none
def bM(c:ST)(f g:SS):SS:=fun ρ=>match c ρ with
 | some (.ok true,ρ1)=>f ρ1
 | some (.ok false,ρ1)=>g ρ1
 | some (.ex C,ρ')=>some (.ex C,ρ')
 | none=>none
def fv(i:Nat):SS:=fun ρ=>match ρ[i]? with
 | some (some (d,.fz))=>some (.rt d false,ρ)
 | some (some (d,.ow))=>some (.rt d true,ρ.set i none)
 | _=>none
theorem Rel.move{K:Df}{F:Fx}{σ:St}{H:Hp}{ρ:Rho}{W:List Addr}(R:Rel K F σ H ρ W){i:Nat}{d:D}{p:Addr}(h:ρ[i]?=some (some (d,.ow)))(hp:σ[i]?=some (some (.ref p))) :
 Rel K F σ (hid [p] H) (ρ.set i none) (W.filter fun a=>decide (a≠p))/\p∈W/\p∉(W.filter fun a=>decide (a≠p))++F.Z/\aD K H (hid (p::((W.filter fun a=>decide (a≠p))++F.Z)) H) p d:=by
 obtain ⟨v,hv,q,rfl,hq,hO⟩:=R.slot i d .ow h;rw [hp] at hv;cases hv
 have sub:∀ b,b∈W.filter (fun a=>decide (a≠p))->b∈W/\b≠p:=fun b hb=>by
  have:=BJ.mp hb;exact ⟨this.1,A6 this.2⟩
 have pn:p∉(W.filter fun a=>decide (a≠p))++F.Z:=fun z=>by
  rcases Bd.mp z with q | q
  ·exact (sub p q).2 rfl
  ·exact R.wz p hq q
 have sh:ad (hid (W++F.Z) H) (hid ((W.filter fun a=>decide (a≠p))++F.Z) (hid [p] H)):=fun b o e=>by
  obtain ⟨h1,h2⟩:=ai e
  have bp:b≠p:=fun z=>h1 (AU _ (z ▸ hq))
  rw [aA (fun z=>h1 (by
   rcases Bd.mp z with q | q
   ·exact AU _ (sub b q).1
   ·exact AT _ q)),aA (by simpa using bp)]
  exact h2
 have sh2:ad (hid (W++F.Z) H) (hid (p::((W.filter fun a=>decide (a≠p))++F.Z)) H):=fun b o e=>by
  obtain ⟨h1,h2⟩:=ai e
  have bp:b≠p:=fun z=>h1 (AU _ (z ▸ hq))
  rw [aA (fun z=>by
   rcases A9.mp z with q | q
   ·exact bp q
   ·rcases Bd.mp q with q | q
    ·exact h1 (AU _ (sub b q).1)
    ·exact h1 (AT _ q))]
  exact h2
 have neq:∀ r,r≠p->hid [p] H r=H r:=fun r hr=>aA (by simpa using hr)
 refine ⟨⟨fun j e m hj=> ?_,fun j k e f m n r h1 h2 h3 h4 h5 h6=> ?_,fun r hr=>R.wz r (sub r hr).1,fun r hr=> ?_,by rw [BX];exact R.len⟩,hq,pn,hO.at rfl sh2⟩
 ·rcases a7 hj with ⟨rfl,e1⟩ | ⟨ne,e1⟩
  ·cases e1
  ·obtain ⟨v,g1,g2⟩:=R.slot j e m e1
   refine ⟨v,g1,?_⟩
   have other:∀ r,v = .ref r->m ≠ .fz->r≠p:=fun r er hm z=>by
    subst er z;exact ne (R.apart j i _ _ _ _ _ e1 hm h (by decide) g1 hp)
   cases m with
   | fz=>exact sh.repD g2
   | ow=>obtain ⟨r,e2,e3,e4⟩:=g2;exact ⟨r,e2,BJ.mpr ⟨e3,Ba (other r e2 (by decide))⟩,e4.at (neq r (other r e2 (by decide))) sh⟩
   | io=>obtain ⟨r,e2,e3,e4,e5⟩:=g2;exact ⟨r,e2,BJ.mpr ⟨e3,Ba (other r e2 (by decide))⟩,e4.at (neq r (other r e2 (by decide))) sh,e5⟩
 ·rcases a7 h1 with ⟨rfl,z⟩ | ⟨_,z⟩
  ·cases z
  ·rcases a7 h3 with ⟨rfl,z'⟩ | ⟨_,z'⟩
   ·cases z'
   ·exact R.apart j k _ _ _ _ _ z h2 z' h4 h5 h6
 ·have rp:r≠p:=fun z=>by subst z;exact pn hr
  rw [neq r rp]
  rcases Bd.mp hr with q | q
  ·exact R.mt r (AU _ (sub r q).1)
  ·exact R.mt r (AT _ q)
inductive Tg where
 | nm (i:Nat) | tp (ts:List Tg)
mutual
def bv:Tg->D->Rho->Option Rho
 | .nm i,d,ρ=>match ρ[i]? with
  | some _=>some (ρ.set i (some (d,.fz)))
  | none=>none
 | .tp ts,.tup ds,ρ=>cn ts ds ρ
 | .tp ts,.ktup ds,ρ=>cn ts ds ρ
 | .tp _,_,_=>none
def cn:List Tg->List D->Rho->Option Rho
 | [],[],ρ=>some ρ
 | t::ts,d::ds,ρ=>match bv t d ρ with
  | some ρ1=>cn ts ds ρ1
  | none=>none
 | _,_,_=>none
end
mutual
def gT(K:Df):Tg->TG
 | .nm i=>sQ i
 | .tp ts=>gTup K ts.length (gTs K ts)
def gTs(K:Df):List Tg->TGs
 | []=>gNil
 | t::ts=>AG (gT K t) (gTs K ts)
end
mutual
def Tg.ge(n:Nat):Tg->Bool
 | .nm i=>decide (n<=i)
 | .tp ts=>Tg.geL n ts
def Tg.geL(n:Nat):List Tg->Bool
 | []=>true
 | t::ts=>Tg.ge n t&&Tg.geL n ts
end
section
variable{K:Df}{F:Fx}{EX:EXT}{H:Hp}{W:List Addr}{Q:St->Hp->Prop}{n:Nat}
theorem dS{H:Hp}{p:Addr}{xs:List V}(h:SqT K (fun _=>none) p xs):SqT K H p xs:=by
 rcases h with (h | ⟨o,h⟩) | h
 ·cases h
 ·cases h
 ·exact .inr h
theorem mT:∀ {ts:List Tg} {ds:List D} {ρ ρ':Rho},cn ts ds ρ=some ρ'->ds.length=ts.length
 | [],[],_,_,_=>rfl
 | [],_::_,_,_,h=>by unfold cn at h;cases h
 | _::_,[],_,_,h=>by unfold cn at h;cases h
 | t::ts,d::ds,ρ,ρ',h=>by
  unfold cn at h
  cases e:bv t d ρ with
  | none=>rw [e] at h;cases h
  | some ρ1=>rw [e] at h;rw [A3,A3,mT h]
mutual
theorem sP:∀ (T:Tg) {d:D} {v:V} {σ:St} {ρ ρ':Rho} {Q:St->Hp->Prop},Rel K F σ H ρ W->av K (hid (W++F.Z) H) d v->bv T d ρ=some ρ'->(∀ σ',(Tg.ge n T=true->σ'.take n=σ.take n)->Rel K F σ' H ρ' W->Q σ' H)->gT K T v σ H Q
 | .nm i,d,v,σ,ρ,ρ',Q,R,r,e,q=>by
  unfold bv at e;unfold gT
  cases h:ρ[i]? with
  | none=>rw [h] at e;cases e
  | some z =>
   rw [h] at e;cases e
   have hi:i < σ.length:=by rw [R.len];exact (Be.mp h).1
   refine q _ (fun hg=> ?_) (R.put hi r);unfold Tg.ge at hg;exact List.take_set_of_le (A6 hg)
 | .tp ts,d,v,σ,ρ,ρ',Q,R,r,e,q=>by
  unfold gT
  have two:∀ ds p xs,v = .ref p->SqT K H p xs->ae K (hid (W++F.Z) H) ds xs->cn ts ds ρ=some ρ'->gTup K ts.length (gTs K ts) v σ H Q:=fun ds p xs e1 e2 e3 e4 =>
   ⟨p,xs,e1,e2,by rw [<- e3.len];exact mT e4,wY ts R e3 e4 fun σ' h1 h2=>q σ' (fun hg=>h1 (by unfold Tg.ge at hg;exact hg)) h2⟩
  cases d<;>first
   | (unfold bv at e;cases e;done)
   | (obtain ⟨p,xs,e1,e2,e3⟩:=r;unfold bv at e;exact two _ p xs e1 (.inl (.inl (ai e2).2)) e3 e)
   | (obtain ⟨p,xs,e1,e2,e3⟩:=r;unfold bv at e;exact two _ p xs e1 (dS e2) e3 e)
theorem wY:∀ (ts:List Tg) {ds:List D} {vs:List V} {σ:St} {ρ ρ':Rho} {Q:St->Hp->Prop},Rel K F σ H ρ W->ae K (hid (W++F.Z) H) ds vs->cn ts ds ρ=some ρ'->(∀ σ',(Tg.geL n ts=true->σ'.take n=σ.take n)->Rel K F σ' H ρ' W->Q σ' H)->gTs K ts vs σ H Q
 | [],ds,vs,σ,ρ,ρ',Q,R,r,e,q=>by
  unfold gTs
  cases ds with
  | cons _ _=>unfold cn at e;cases e
  | nil =>
   unfold cn at e;cases e
   cases vs with
   | cons _ _=>exact r.elim
   | nil=>exact ⟨rfl,q σ (fun _=>rfl) R⟩
 | t::ts,ds,vs,σ,ρ,ρ',Q,R,r,e,q=>by
  unfold gTs
  cases ds with
  | nil=>unfold cn at e;cases e
  | cons d ds =>
   cases vs with
   | nil=>exact r.elim
   | cons v vs =>
    unfold cn at e
    cases h:bv t d ρ with
    | none=>rw [h] at e;cases e
    | some ρ1 =>
     rw [h] at e;refine ⟨v,vs,rfl,sP t R r.1 h fun σ1 h1 R1=>wY ts R1 r.2 e fun σ2 h2 R2=>q σ2 (fun hg=> ?_) R2⟩;unfold Tg.geL at hg;have:=(Bh _ _).mp hg;exact (h2 this.2).trans (h1 this.1)
end
end
structure JG(X:Cx)(e:Expr)(T:Tg):Prop where
 p:PG X e (gT X.K T)
structure JGs(X:Cx)(es:List Expr)(ts:List Tg):Prop where
 p:PGs X es (gTs X.K ts)
def g8(T:Tg)(f:SE):SS:=fun ρ=>match f ρ with
 | some (.ok d _,ρ')=>match bv T d ρ' with
  | some ρ2=>some (.nx,ρ2)
  | none=>none
 | some (.ex C,ρ')=>some (.ex C,ρ')
 | none=>none
def tq(i:Nat)(op:Int->Int->Int)(f:SE):SS:=fun ρ=>match ρ[i]? with
 | some (some (.int a,.fz))=>match f ρ with
  | some (.ok (.int b) _,ρ')=>match ρ'[i]? with
   | some _=>some (.nx,ρ'.set i (some (.int (op a b),.fz)))
   | none=>none
  | some (.ok _ _,_)=>none
  | some (.ex C,ρ')=>some (.ex C,ρ')
  | none=>none
 | _=>none
section
variable{X:Cx}{EX:EXT}{a b c e:Expr}{es:List Expr}{st:Stmt}{rest:List Stmt}{pos:Pos}
theorem s_nil:JSs X EX [] cp:=⟨yJ.by fun D σ H ⟨F,ρ,W,R,h⟩=>h σ H W .refl (fun _ z=> .inl z) R⟩
theorem s_cons{f g:SS}(h1:JS X EX st f)(h2:JSs X EX rest g):JSs X EX (st::rest) (al f g) :=
 ⟨(iP h1.p h2.p).by fun D σ H ⟨F,ρ,W,R,h⟩=>⟨F,ρ,W,R,by
   unfold al at h
   revert h
   cases f ρ with
   | none=>exact fun h=>h
   | some q =>
    obtain ⟨q,ρ2⟩:=q
    cases q with
    | nx=>exact fun h σ2 H2 W2 fr2 sub2 R2=>⟨F,ρ2,W2,R2,OkS.go h fr2 sub2⟩
    | _=>exact fun h=>h⟩⟩
theorem s_one{f:SS}(h:JS X EX st f):JSs X EX [st] f:=⟨nv h.p⟩
theorem set_ok{K:Df}{F:Fx}{σ:St}{H H':Hp}{ρ':Rho}{W':List Addr}{d:D}{nw:Bool}{v:V}{i:Nat}(P:fF K F σ H H' ρ' W' d nw v)(hi:i < ρ'.length) :
 ∃ W2,(∀ p∈W2,p∈W'\/H p=none)/\Rel K F (σ.set i (some v)) H' (ρ'.set i (some (d,if nw then .ow else .fz))) W2:=by
 cases nw with
 | false=>exact ⟨W',fun p hp=> .inl hp,P.2.put (by rw [P.2.len];exact hi) P.1⟩
 | true =>
  obtain ⟨p,rfl,hp,hn,hO,R⟩:=P;exact ⟨p::W',fun q hq=>(A9.mp hq).elim (fun z=> .inr (by rw [z];exact hp)) .inl,R.own (by rw [R.len];exact hi) hn hO⟩
theorem xL{i:Nat}{f:SE}{D:j8}{σ:St}{H:Hp}(h:tVS X.K EX (aO i f) D σ H):tV X.K EX f σ H fun x H1=>D.nx (σ.set i (some x)) H1:=by
 obtain ⟨F,ρ,W,R,h⟩:=h;refine ⟨F,ρ,W,R,?_⟩;unfold aO at h
 revert h
 cases f ρ with
 | none=>exact fun h=>h
 | some q =>
  obtain ⟨q,ρ2⟩:=q
  cases q with
  | ex C=>exact fun h H2 W2 fr2 sub2 R2=>h σ H2 W2 fr2 (fun p hp=> .inl (sub2 p hp)) R2
  | ok d nw =>
   dsimp only
   cases e:ρ2[i]? with
   | none=>exact fun h=>h.elim
   | some z =>
    intro h v H2 W2 fr2 sub2 P2;obtain ⟨W3,s3,R3⟩:=set_ok P2 (Be.mp e).1;exact h _ H2 W3 fr2 (fun p hp=>(s3 p hp).imp (sub2 p) id) R3
theorem Ar{i:Nat}{x:Str}{f:SE}{pos':Pos}(hN:X.N.Nodup)(hi:X.N[i]?=some x)(hx:Loc X.env.scope x)(he:JE X EX e f)(hs:swapsWith e (some (.Name x pos')) pos.line X.env=pure false:=by rfl)(hf:X.fn x=true\/X.env.scope.names.lookup x=some .local:=by first | exact .inl rfl | exact .inr rfl | assumption) :
 JS X EX (.Assign [.Name x pos'] e pos) (aO i f):=⟨(ps_set hN hi hx he.p hs hf).by fun D σ H h=>xL h⟩
theorem qX{i:Nat}{x:Str}(hN:X.N.Nodup)(hi:X.N[i]?=some x)(hx:Loc X.env.scope x)(hf:X.fn x=true\/X.env.scope.names.lookup x=some .local:=by first | exact .inl rfl | exact .inr rfl | assumption):JG X (.Name x pos) (.nm i):=⟨by unfold gT;exact kd hN hi hx hf⟩
theorem g_nil:JGs X [] []:=⟨by unfold gTs;exact sw⟩
theorem g_cons{T:Tg}{ts:List Tg}(h1:JG X e T)(h2:JGs X es ts)(hs:(assignEach (e::es) X.env).map (·.2)=assign e X.env::(assignEach es X.env).map (·.2):=by rfl):JGs X (e::es) (T::ts):=⟨by unfold gTs;exact kK h1.p h2.p hs⟩
theorem g_tup{k:Nat}{ts:List Tg}(hc:X.calm=true)(h:JGs X es ts)(hn:(assignEach es X.env).length=ts.length:=by rfl)(hst:(assignEach es X.env).findIdx? (·.1)=none:=by rfl):JG X (.Tuple es k pos) (.tp ts):=⟨by unfold gT;exact v8 hc h.p hn hst⟩
theorem s_asg{f:SE}{T:Tg}(he:JE X EX e f)(hg:JG X a T)(hs:swapsWithSole [a] e pos.line X.env=pure false:=by rfl)(hw:swappedStores [a] e X.env=pure none:=by rfl)
 (h1:(assignEach [a] X.env).map (·.2)=[assign a X.env]:=by rfl):JS X EX (.Assign [a] e pos) (g8 T f) :=
 ⟨(vZ he.p hg.p hs hw h1).by fun D σ H ⟨F,ρ,W,R,h⟩=>⟨F,ρ,W,R,by
   unfold g8 at h
   revert h
   cases f ρ with
   | none=>exact fun h=>h
   | some q =>
    obtain ⟨q,ρ2⟩:=q
    cases q with
    | ex C=>exact fun h H2 W2 fr2 sub2 R2=>h σ H2 W2 fr2 (fun p hp=> .inl (sub2 p hp)) R2
    | ok d nw =>
     dsimp only
     cases e:bv T d ρ2 with
     | none=>exact fun h=>h.elim
     | some ρ3 =>
      intro h v H2 W2 fr2 sub2 P2
      exact sP (n:=0) T P2.plain.2 P2.plain.1 e fun σ' _ R'=>h σ' H2 W2 fr2 (fun p hp=> .inl (sub2 p hp)) R'⟩⟩
theorem s_ret{f:SE}(he:JE X EX e f):JS X EX (.Return (some e) pos) (aF f) :=
 ⟨(qJ he.p).by fun D σ H ⟨F,ρ,W,R,h⟩=>⟨F,ρ,W,R,by
   unfold aF at h
   revert h
   cases f ρ with
   | none=>exact fun h=>h
   | some q =>
    obtain ⟨q,ρ2⟩:=q
    cases q with
    | ex C=>exact fun h H2 W2 fr2 sub2 R2=>h σ H2 W2 fr2 (fun p hp=> .inl (sub2 p hp)) R2
    | ok d nw=>exact fun h v H2 W2 fr2 sub2 P2=>h σ v H2 W2 fr2 (fun p hp=> .inl (sub2 p hp)) P2.r⟩⟩
theorem s_retV{i:Nat}{n:Str}{p2:Pos}(hN:X.N[i]?=some n)(hv:Vis X.env.scope n)(hd:(n == ("__debug__" : Str))=false:=by decide)(hcd:(n == ("__classdict__" : Str))=false:=by decide):JS X EX (.Return (some (.Name n p2)) pos) (fv i) :=
 ⟨(qJ (hX hN hv hd hcd)).by fun D σ H ⟨F,ρ,W,R,h⟩=>by
   unfold fv at h
   revert h
   cases e:ρ[i]? with
   | none=>exact fun h=>h.elim
   | some z =>
    cases z with
    | none=>exact fun h=>h.elim
    | some z =>
     obtain ⟨d,m⟩:=z;obtain ⟨v,hv,ok⟩:=R.slot i d m e
     cases m with
     | io=>exact fun h=>h.elim
     | fz=>exact fun h=>⟨v,hv,h σ v H W .refl (fun _ z=> .inl z) ⟨ok,R⟩⟩
     | ow =>
      intro h;obtain ⟨p,rfl,hp,hO⟩:=ok;obtain ⟨R',m1,m2,m3⟩:=R.move e hv
      exact ⟨_,hv,h σ _ H _ .refl (fun q hq=> .inl (BJ.mp hq).1) ⟨p,rfl,.inl m1,m2,m3,R'⟩⟩⟩
theorem s_expr{f:SE}(he:JE X EX e f)(hs:swapsWith e none pos.line X.env=pure false:=by rfl):JS X EX (.Expr e pos) (cU f) :=
 ⟨(nA he.p hs).by fun D σ H ⟨F,ρ,W,R,h⟩=>⟨F,ρ,W,R,by
   unfold cU at h
   revert h
   cases f ρ with
   | none=>exact fun h=>h
   | some q =>
    obtain ⟨q,ρ2⟩:=q
    cases q with
    | ex C=>exact fun h H2 W2 fr2 sub2 R2=>h σ H2 W2 fr2 (fun p hp=> .inl (sub2 p hp)) R2
    | ok d nw=>exact fun h v H2 W2 fr2 sub2 P2=>h σ H2 W2 fr2 (fun p hp=> .inl (sub2 p hp)) P2.plain.2⟩⟩
theorem s_if{t:ST}{f g:SS}{as bs:List Stmt}(hc:JT X EX c t)(ha:JSs X EX as f)(hb:JSs X EX bs g):JS X EX (.If c as bs pos) (bM t f g) :=
 ⟨(ps_if hc.p ha.p hb.p).by fun D σ H ⟨F,ρ,W,R,h⟩=>⟨F,ρ,W,R,by
   unfold bM at h
   revert h
   cases t ρ with
   | none=>exact fun h=>h
   | some q =>
    obtain ⟨q,ρ2⟩:=q
    cases q with
    | ex C=>exact fun h H2 W2 fr2 sub2 R2=>h σ H2 W2 fr2 (fun p hp=> .inl (sub2 p hp)) R2
    | ok k =>
     cases k with
     | true=>exact fun h H2 W2 fr2 sub2 R2=>⟨F,ρ2,W2,R2,OkS.go h fr2 fun p hp=> .inl (sub2 p hp)⟩
     | false=>exact fun h H2 W2 fr2 sub2 R2=>⟨F,ρ2,W2,R2,OkS.go h fr2 fun p hp=> .inl (sub2 p hp)⟩⟩⟩
end
mutual
def dJ:D->Bool
 | .lst _=>false
 | .klst _=>false
 | .dK _ _=>false
 | .dT _ _=>false
 | .tup ds=>bA ds
 | .ktup ds=>bA ds
 | _=>true
def bA:List D->Bool
 | []=>true
 | d::ds=>dJ d&&bA ds
end
def bV:D->Bool
 | .lst ds=>bA ds
 | .dK _ ds=>bA ds
 | .dT _ ds=>bA ds
 | _=>false
section
variable{K:Df}{H:Hp}{L1 L2:List Addr}
theorem iZ{p:Addr}{o:HO}(h:hid L1 H p=some o)(hm:∀ p∈L2,dO (H p))(no:¬ dO (some o)):hid L2 H p=some o:=by
 have e:=(ai h).2;rw [aA fun z=>no (by have:=hm p z;rw [e] at this;exact this)];exact e
mutual
theorem av.flat(hm:∀ p∈L2,dO (H p)):∀ {d:D} {v:V},dJ d=true->av K (hid L1 H) d v->av K (hid L2 H) d v
 | .non,_,_,h=>h
 | .bl _,_,_,h=>h
 | .int _,_,_,h=>h
 | .str _,_,_,h=>h
 | .tup _,_,f,⟨p,xs,h1,h2,h3⟩=>⟨p,xs,h1,iZ h2 hm (fun z=>z),ae.flat hm (by unfold dJ at f;exact f) h3⟩
 | .ktup _,_,f,⟨p,xs,h1,h2,h3⟩=>⟨p,xs,h1,h2,ae.flat hm (by unfold dJ at f;exact f) h3⟩
 | .lst _,_,f,_=>by unfold dJ at f;cases f
 | .klst _,_,f,_=>by unfold dJ at f;cases f
 | .dK _ _,_,f,_=>by unfold dJ at f;cases f
 | .dT _ _,_,f,_=>by unfold dJ at f;cases f
 | .set _,_,_,⟨p,S,h1,h2,h3⟩=>⟨p,S,h1,iZ h2 hm (fun z=>z),h3⟩
 | .rng _ _,_,_,⟨p,h1,h2⟩=>⟨p,h1,iZ h2 hm (fun z=>z)⟩
 | .exc _,_,_,⟨p,C,h1,h2,h3⟩=>⟨p,C,h1,h2,iZ h3 hm (fun z=>z)⟩
theorem ae.flat(hm:∀ p∈L2,dO (H p)):∀ {ds:List D} {xs:List V},bA ds=true->ae K (hid L1 H) ds xs->ae K (hid L2 H) ds xs
 | [],[],_,_=>trivial
 | _::_,_::_,f,h=>by
  unfold bA at f;have f:=(Bh _ _).mp f;exact ⟨av.flat hm f.1 h.1,ae.flat hm f.2 h.2⟩
 | [],_::_,_,h=>h.elim
 | _::_,[],_,h=>h.elim
end
theorem aD.flat{H':Hp}{p:Addr}{d:D}(hm:∀ p∈L2,dO (H p))(f:bV d=true)(h:aD K H' (hid L1 H) p d):aD K H' (hid L2 H) p d:=by
 cases d<;>first
  | exact h.elim
  | (obtain ⟨xs,h1,h2,h3⟩:=h;exact ⟨xs,h1,h2,ae.flat hm f h3⟩)
  | (obtain ⟨xs,h1,h2⟩:=h;exact ⟨xs,h1,ae.flat hm f h2⟩)
end
abbrev FS:=List D->Option (Res×D)
def spF(K:Df)(io:Option Nat)(run:FS):Sp:=fun vs H Q E=>∃ (Z W:List Addr) (ds:List D),
 vs.length=ds.length/\(∀ p∈W,p∉Z)/\(∀ p∈W++Z,dO (H p)) /\
 (∀ (j:Nat) (d:D) (v:V),io≠some j->ds[j]?=some d->vs[j]?=some v->av K (hid (W++Z) H) d v) /\
 (∀ k,io=some k->∃ p d,vs[k]?=some (V.ref p)/\ds[k]?=some d/\W=[p]/\aD K H (hid (W++Z) H) p d) /\
 (io=none->W=[]) /\
 match run ds with
 | some (.ok d false,dio)=>∀ v H',Fr W H H'->av K (hid (W++Z) H') d v->(∀ p,W=[p]->aD K H' (hid (W++Z) H') p dio)->Q v H'
 | some (.ok d true,dio)=>∀ q H',Fr W H H'->H q=none->aD K H' (hid (q::(W++Z)) H') q d->(∀ p,W=[p]->aD K H' (hid (q::(W++Z)) H') p dio)->Q (.ref q) H'
 | some (.ex C,dio)=>∀ H',Fr W H H'->(∀ p,W=[p]->aD K H' (hid (W++Z) H') p dio)->∀ a,nY K C a->∀ x,E (.ref a) x H'
 | none=>False
def il(io:Option Nat):Nat->List D->Rho
 | _,[]=>[]
 | j,d::ds=>some (d,if io=some j then .io else .fz)::il io (j+1) ds
def ini(n:Nat)(io:Option Nat)(ds:List D):Rho:=il io 0 ds++List.replicate (n - ds.length) none
def ioD(io:Option Nat)(ρ:Rho):Option D:=match io with
 | none=>some .non
 | some k=>match ρ[k]? with
  | some (some (d,.io))=>some d
  | _=>none
def aq(np n:Nat)(io:Option Nat)(body:SS):FS:=fun ds=>if ds.length=np then
 match body (ini n io ds) with
 | some (.rt d nw,ρ')=>match ioD io ρ' with
  | some x=>some (.ok d nw,x)
  | none=>none
 | some (.nx,ρ')=>match ioD io ρ' with
  | some x=>some (.ok .non false,x)
  | none=>none
 | some (.ex C,ρ')=>match ioD io ρ' with
  | some x=>some (.ex C,x)
  | none=>none
 | _=>none else none
theorem iX{io:Option Nat}:∀ {j:Nat} {ds:List D},(il io j ds).length=ds.length
 | _,[]=>rfl
 | j,_::ds=>by unfold il;rw [A3,A3,iX]
theorem pN{io:Option Nat}:∀ {j i:Nat} {ds:List D} {d:D} {m:Md},(il io j ds)[i]?=some (some (d,m))->ds[i]?=some d/\m=if io=some (j+i) then .io else .fz
 | j,i,[],d,m,h=>by unfold il at h;simp at h
 | j,0,x::ds,d,m,h=>by
  unfold il at h;simp only [Bl,Option.some.injEq,Prod.mk.injEq] at h;exact ⟨by rw [<- h.1];rfl,by rw [<- h.2];rfl⟩
 | j,i+1,x::ds,d,m,h=>by
  unfold il at h;simp only [Bs] at h;obtain ⟨h1,h2⟩:=pN h;exact ⟨by simpa using h1,by rw [h2,show j+1+i=j+(i+1) by omega]⟩
theorem nP{n:Nat}{io:Option Nat}{i:Nat}{ds:List D}{d:D}{m:Md}(h:(ini n io ds)[i]?=some (some (d,m))):ds[i]?=some d/\m=if io=some i then .io else .fz:=by
 unfold ini at h
 by_cases hi:i < ds.length
 ·rw [Bt (by rw [iX];exact hi)] at h
  have:=pN h;rw [BA] at this;exact this
 ·rw [BZ (by rw [iX];omega),Cm] at h
  split at h<;>cases h
def EXf(K:Df)(E:XK):EXT:=fun nm _ H=>∀ C,nY K nm C->∀ x,E (.ref C) x H
theorem Fun.okX{P:Program}{w:World}{K:Df}{mg:Str->Option Value}{base:Heap}{x:Str}{st:Stmt}{N ps:List Str}{k:Nat}{sp:Sp}{f:Addr}{fd:FuncData}(F:Fun K x x st f fd)(S:cI N ps (aa st))(len:∀ vs H Q E,sp vs H Q E->vs.length=ps.length)
 (hbody:∀ (f:Addr) (cdv:Value) (A:Around) (outer:List Env) (s:Shared) (H:Hp) (vs:List V) (Q:VK) (E:XK),cq k (A.deeper (envOfC x (aa st) s.heap.objs.size f cdv))->sp vs H Q E ->
   ∃ t,PSs (bQ (CXr P w) P w K mg base N x (aa st) f cdv A outer s H E) (aR st) t/\t { nx:=fun _ H'=>Q .non H',rt:=Q } (dA N vs) H):jE P w K mg base (CXr P w) (k+1) f fd ps sp:=by
 obtain ⟨oc,od,kV,doc,pm,an,cdv,ct,osl,rfl,lk,hcd⟩:=F.ex
 exact xk lk hcd S len fun A outer s H vs Q E hr hsp=>hbody f cdv A outer s H vs Q E hr hsp
theorem xj{f0:Addr}{fd0:FuncData}{P:Program}{w:World}{K:Df}{mg:Str->Option Value}{base:Heap}{x:Str}{st:Stmt}{N ps:List Str}{k:Nat}{io:Option Nat}{body:SS}(h:Fun K x x st f0 fd0)(S:cI N ps (aa st))
 (hb:∀ (f:Addr) (cdv:Value) (A:Around) (outer:List Env) (s:Shared) (H:Hp) (E:XK),cq k (A.deeper (envOfC x (aa st) s.heap.objs.size f cdv)) ->
   JSs (bQ (CXr P w) P w K mg base N x (aa st) f cdv A outer s H E) (EXf K E) (aR st) body) (hps:ps.length<=N.length:=by decide):jE P w K mg base (CXr P w) (k+1) f0 fd0 ps (spF K io (aq ps.length N.length io body)):=by
 have run_len:∀ {ds:List D} {r:Res×D},aq ps.length N.length io body ds=some r->ds.length=ps.length:=fun {ds r} e=>by
  unfold aq at e
  split at e
  ·assumption
  ·cases e
 refine Fun.okX h S (fun vs H Q E hs=> ?_) (fun f cdv A outer s H vs Q E hr hs=> ?_)
 ·obtain ⟨Z,W,ds,h1,_,_,_,_,_,hm⟩:=hs
  cases e:aq ps.length N.length io body ds with
  | none=>rw [e] at hm;exact hm.elim
  | some r=>rw [h1];exact run_len e
 ·obtain ⟨Z,W,ds,h1,hwz,hmt,hfz,hio,hno,hm⟩:=hs
  refine ⟨_,(hb f cdv A outer s H E hr).p,?_⟩
  have hlen:ds.length=ps.length:=by
   cases e:aq ps.length N.length io body ds with
   | none=>rw [e] at hm;exact hm.elim
   | some r=>exact run_len e
  let F:Fx:=⟨Z,fun j=>if io=some j then W.head? else none⟩
  have st_get:∀ {j:Nat} {v:V},vs[j]?=some v->(dA N vs)[j]?=some (some v):=fun {j v} e=>by
   unfold dA;rw [Bt (by rw [AO];exact (Be.mp e).1),Bf,e];rfl
  have R0:Rel K F (dA N vs) H (ini N.length io ds) W:=by
   refine ⟨fun i d m hi=> ?_,fun i j d e m n p g1 g2 g3 g4 _ _=> ?_,hwz,hmt,?_⟩
   ·obtain ⟨hd,rfl⟩:=nP hi
    have hv:i < vs.length:=by rw [h1];exact (Be.mp hd).1
    refine ⟨vs[i],st_get (AN hv),?_⟩
    by_cases e:io=some i
    ·rw [if_pos e]
     obtain ⟨p,d',q1,q2,q3,q4⟩:=hio i e;rw [AN hv] at q1;rw [hd] at q2;cases q2;refine ⟨p,Option.some.inj q1,by rw [q3];exact AY,q4,?_⟩
     show (if io=some i then W.head? else none)=some p
     rw [if_pos e,q3];rfl
    ·rw [if_neg e]
     exact hfz i d _ e hd (AN hv)
   ·obtain ⟨_,e1⟩:=nP g1
    obtain ⟨_,e2⟩:=nP g3
    by_cases z1:io=some i
    ·by_cases z2:io=some j
     ·rw [z1] at z2;exact Option.some.inj z2
     ·rw [if_neg z2] at e2;exact absurd e2 g4
    ·rw [if_neg z1] at e1;exact absurd e1 g2
   ·unfold dA ini
    rw [A7,A7,AO,BK,BK,iX,h1]
  refine ⟨F,_,W,R0,?_⟩
  have ioR:∀ {σ':St} {H':Hp} {ρ':Rho} {W':List Addr} {x:D} {p:Addr},Rel K F σ' H' ρ' W'->ioD io ρ'=some x->W=[p]->p∈W'/\aD K H' (hid (W'++Z) H') p x:=fun {σ' H' ρ' W' x p} R e hW=>by
   cases hk:io with
   | none=>rw [hno hk] at hW;cases hW
   | some k =>
    unfold ioD at e;rw [hk] at e;dsimp only at e
    split at e
    ·rename_i d0 e0
     cases e;obtain ⟨v,g1,q,g2,g3,g4,g5⟩:=R.slot k _ _ e0;have g5:(if io=some k then W.head? else none)=some q:=g5;rw [if_pos hk,hW] at g5;have:p=q:=Option.some.inj g5;subst this;exact ⟨g3,g4⟩
    ·cases e
  have wsub:∀ {σ':St} {H':Hp} {ρ':Rho} {W':List Addr} {x:D},Rel K F σ' H' ρ' W'->ioD io ρ'=some x->∀ b,b∈W++Z->b∈W'++Z:=fun {σ' H' ρ' W' x} R e b hb=>by
   rcases Bd.mp hb with z | z
   ·cases hk:io with
    | none=>rw [hno hk] at z;cases z
    | some k =>
     obtain ⟨p,d,_,_,q3,_⟩:=hio k hk;rw [q3] at z;rw [Bb.mp z];exact AU _ (ioR R e q3).1
   ·exact AT _ z
  have toW:∀ {σ':St} {H' H2:Hp} {ρ':Rho} {W':List Addr} {x:D},Rel K F σ' H2 ρ' W'->ioD io ρ'=some x->ad (hid (W'++Z) H') (hid (W++Z) H'):=fun R e=>aI (fun b hb=> .inl (wsub R e b hb)) fun b o _ z=>z
  revert hm
  unfold aq;rw [if_pos hlen]
  cases body (ini N.length io ds) with
  | none=>exact fun h=>h.elim
  | some r =>
   obtain ⟨r,ρ'⟩:=r
   cases r with
   | bk=>exact fun h=>h.elim
   | ct=>exact fun h=>h.elim
   | nx =>
    dsimp only
    cases e:ioD io ρ' with
    | none=>exact fun h=>h.elim
    | some x =>
     intro hm σ' H' W' fr sub R
     exact hm .non H' fr rfl fun p hp=>(ioR R e hp).2.at rfl (toW R e)
   | ex C =>
    dsimp only
    cases e:ioD io ρ' with
    | none=>exact fun h=>h.elim
    | some x =>
     intro hm σ' H' W' fr sub R
     exact hm H' fr fun p hp=>(ioR R e hp).2.at rfl (toW R e)
   | rt d nw =>
    dsimp only
    cases e:ioD io ρ' with
    | none=>exact fun h=>h.elim
    | some x =>
     cases nw with
     | false =>
      intro hm σ' v H' W' fr sub P
      exact hm v H' fr ((toW P.2 e).repD P.1) fun p hp=>(ioR P.2 e hp).2.at rfl (toW P.2 e)
     | true =>
      intro hm σ' v H' W' fr sub P;obtain ⟨q,rfl,hq,hn,hO,R⟩:=P
      have hq0:H q=none:=by
       rcases hq with z | z
       ·cases hk:io with
        | none=>rw [hno hk] at z;cases z
        | some k =>
         obtain ⟨p,d',_,_,q3,_⟩:=hio k hk;rw [q3] at z;have:q=p:=Bb.mp z;subst this;exact absurd (AU _ (ioR R e q3).1) hn
       ·exact z
      have cs:ad (hid (q::(W'++Z)) H') (hid (q::(W++Z)) H'):=aI (fun b hb=> .inl (by
       rcases A9.mp hb with z | z
       ·rw [z];exact AY
       ·exact AV _ (wsub R e b z))) fun b o _ z=>z
      refine hm q H' fr hq0 (hO.at rfl cs) fun p hp=> ?_
      obtain ⟨m1,m2⟩:=ioR R e hp
      have pq:p≠q:=fun z=>by subst z;exact hn (AU _ m1)
      refine m2.at (aA (by simpa using pq)).symm fun b o z=> ?_
      obtain ⟨z1,z2⟩:=ai z;obtain ⟨z3,z4⟩:=ai z2
      rw [aA (fun y=>by
       rcases A9.mp y with y | y
       ·exact z3 (by simpa using y)
       ·exact z1 (wsub R e b y))]
      exact z4
theorem fn_ok{P:Program}{w:World}{K:Df}{mg:Str->Option Value}{base:Heap}{x:Str}{st:Stmt}{N ps:List Str}{k:Nat}{io:Option Nat}{body:SS}(h:Has K mg x st ps)(S:cI N ps (aa st))
 (hb:∀ (f:Addr) (cdv:Value) (A:Around) (outer:List Env) (s:Shared) (H:Hp) (E:XK),cq k (A.deeper (envOfC x (aa st) s.heap.objs.size f cdv)) ->
   JSs (bQ (CXr P w) P w K mg base N x (aa st) f cdv A outer s H E) (EXf K E) (aR st) body) (hps:ps.length<=N.length:=by decide):OkX P w K mg base x ps (k+1) (spF K io (aq ps.length N.length io body)):=by
 obtain ⟨f,fd,F,hm,hb'⟩:=h.ex;exact ⟨f,fd,hm,F.kp,hb',xj F S hb hps⟩
section
variable{K:Df}{F:Fx}{EX:EXT}{σ:St}{H H2:Hp}{ρ:Rho}{W:List Addr}
theorem Rel.wrote(R:Rel K F σ H ρ W){i:Nat}{d d':D}{m:Md}{p:Addr}(h:ρ[i]?=some (some (d,m)))(hm:m ≠ .fz)(hp:σ[i]?=some (some (.ref p)))(fr:Fr [p] H H2)(new:aD K H2 (hid (W++F.Z) H2) p d') :
 Rel K F σ H2 (ρ.set i (some (d',m))) W:=by
 obtain ⟨v,hv,hS⟩:=R.slot i d m h;rw [hp] at hv;cases hv
 have hw:p∈W:=by
  cases m with
  | fz=>exact absurd rfl hm
  | ow=>obtain ⟨r,e2,e3,_⟩:=hS;cases e2;exact e3
  | io=>obtain ⟨r,e2,e3,_⟩:=hS;cases e2;exact e3
 have sh:ad (hid (W++F.Z) H) (hid (W++F.Z) H2):=aI (fun b hb=> .inl hb) fun b o n e=>fr.keep b o (fun z=>n (by rw [Bb.mp z];exact AU _ hw)) e
 have eq:∀ r,r≠p->dO (H r)->H2 r=H r:=fun r hr hM=>by
  obtain ⟨u,q⟩:=hM.some;rw [q];exact fr.keep r u (by simpa using hr) q
 refine ⟨fun j e n hj=> ?_,fun j k e f n n' r h1 h2 h3 h4 h5 h6=> ?_,R.wz,fun r hr=> ?_,by rw [BX];exact R.len⟩
 ·rcases a7 hj with ⟨rfl,e1⟩ | ⟨ne,e1⟩
  ·cases e1
   refine ⟨_,hp,?_⟩
   cases m with
   | fz=>exact absurd rfl hm
   | ow=>exact ⟨p,rfl,hw,new⟩
   | io=>obtain ⟨r,e2,e3,e4,e5⟩:=hS;cases e2;exact ⟨p,rfl,hw,new,e5⟩
  ·obtain ⟨v,g1,g2⟩:=R.slot j e n e1
   refine ⟨v,g1,?_⟩
   have other:∀ r,v = .ref r->n ≠ .fz->r≠p:=fun r er hn z=>by
    subst er z;exact ne (R.apart j i _ _ _ _ _ e1 hn h hm g1 hp)
   cases n with
   | fz=>exact sh.repD g2
   | ow=>obtain ⟨r,e2,e3,e4⟩:=g2;exact ⟨r,e2,e3,e4.at (eq r (other r e2 (by decide)) e4.mu) sh⟩
   | io=>obtain ⟨r,e2,e3,e4,e5⟩:=g2;exact ⟨r,e2,e3,e4.at (eq r (other r e2 (by decide)) e4.mu) sh,e5⟩
 ·have fnd:∀ {j:Nat} {e:D} {n:Md},(ρ.set i (some (d',m)))[j]?=some (some (e,n))->n ≠ .fz->∃ e',ρ[j]?=some (some (e',n)):=fun {j e n} hj hn=>by
   rcases a7 hj with ⟨rfl,e1⟩ | ⟨_,e1⟩
   ·cases e1;exact ⟨d,h⟩
   ·exact ⟨_,e1⟩
  obtain ⟨_,z1⟩:=fnd h1 h2;obtain ⟨_,z2⟩:=fnd h3 h4;exact R.apart j k _ _ _ _ _ z1 h2 z2 h4 h5 h6
 ·by_cases e:r=p
  ·subst e;exact new.mu
  ·rw [eq r e (R.mt r hr)];exact R.mt r hr
variable(K F σ H ρ W) in
def ArgR:Arg->D->V->Prop
 | .ex _,d,v=>av K (hid (W++F.Z) H) d v
 | .bor i,d,v=>σ[i]?=some (some v)/\∃ m,ρ[i]?=some (some (d,m))
variable(K F σ H ρ W) in
def dP:List Arg->List D->List V->Prop
 | [],[],[]=>True
 | a::as,d::ds,v::vs=>ArgR K F σ H ρ W a d v/\dP as ds vs
 | _,_,_=>False
theorem dP.len:∀ {as:List Arg} {ds:List D} {vs:List V},dP K F σ H ρ W as ds vs->vs.length=ds.length
 | [],[],[],_=>rfl
 | _::_,_::_,_::_,h=>by rw [A3,A3,dP.len h.2]
 | [],_::_,_,h=>h.elim
 | [],[],_::_,h=>h.elim
 | _::_,[],_,h=>h.elim
 | _::_,_::_,[],h=>h.elim
theorem dP.get:∀ {as:List Arg} {ds:List D} {vs:List V} {j:Nat} {d:D} {v:V},dP K F σ H ρ W as ds vs->ds[j]?=some d->vs[j]?=some v->∃ a,as[j]?=some a/\ArgR K F σ H ρ W a d v
 | a::_,_::_,_::_,0,d,v,h,e1,e2=>by
  simp only [Bl,Option.some.injEq] at e1 e2;subst e1 e2;exact ⟨a,rfl,h.1⟩
 | _::_,_::_,_::_,j+1,d,v,h,e1,e2=>by
  simp only [Bs] at e1 e2 ⊢;exact dP.get h.2 e1 e2
 | [],[],[],_,_,_,_,e,_=>by simp at e
 | [],_::_,_,_,_,_,h,_,_=>h.elim
 | [],[],_::_,_,_,_,h,_,_=>h.elim
 | _::_,[],_,_,_,_,h,_,_=>h.elim
 | _::_,_::_,[],_,_,_,h,_,_=>h.elim
theorem dP.at:∀ {as:List Arg} {ds:List D} {vs:List V} {j:Nat} {a:Arg},dP K F σ H ρ W as ds vs->as[j]?=some a->∃ d v,ds[j]?=some d/\vs[j]?=some v/\ArgR K F σ H ρ W a d v
 | a::_,d::_,v::_,0,b,h,e1=>by
  simp only [Bl,Option.some.injEq] at e1;subst e1;exact ⟨d,v,rfl,rfl,h.1⟩
 | _::_,_::_,_::_,j+1,a,h,e1=>by
  simp only [Bs] at e1 ⊢;exact dP.at h.2 e1
 | [],[],[],_,_,_,e=>by simp at e
 | [],_::_,_,_,_,h,_=>h.elim
 | [],[],_::_,_,_,h,_=>h.elim
 | _::_,[],_,_,_,h,_=>h.elim
 | _::_,_::_,[],_,_,h,_=>h.elim
variable(K F EX) in
def OkA2(σ:St)(H:Hp)(W:List Addr)(as:List Arg)(o:Option (oz×Rho))(Q:List V->Hp->Prop):Prop:=match o with
 | some (.ok ds,ρ')=>∀ vs H' W',Fr W H H'->(∀ p∈W',p∈W)->Rel K F σ H' ρ' W'->dP K F σ H' ρ' W' as ds vs->Q vs H'
 | some (.ex C,ρ')=>∀ H' W',Fr W H H'->(∀ p∈W',p∈W)->Rel K F σ H' ρ' W'->EX C σ H'
 | none=>False
theorem ou:∀ (as:List Arg) {H:Hp} {ρ:Rho} {W:List Addr} {Q:List V->Hp->Prop},Rel K F σ H ρ W->OkA2 K F EX σ H W as (evA as ρ) Q->tAs K EX as σ H Q
 | [],H,ρ,W,Q,R,h=>h [] H W .refl (fun _ z=>z) R trivial
 | .ex f::as,H,ρ,W,Q,R,h=>by
  refine ⟨F,ρ,W,R,?_⟩;unfold evA at h
  revert h
  cases f ρ with
  | none=>exact fun h=>h
  | some r =>
   obtain ⟨r,ρ1⟩:=r
   cases r with
   | ex C=>exact fun h=>h
   | ok d nw =>
    intro h v H1 W1 fr sub post;obtain ⟨rd,R1⟩:=post.plain;refine ou as R1 ?_
    revert h
    dsimp only
    cases evA as ρ1 with
    | none=>exact fun h=>h
    | some q =>
     obtain ⟨q,ρ2⟩:=q
     cases q with
     | ex C=>exact fun h H2 W2 fr2 sub2 R2=>h H2 W2 (fr.trans fr2 fun p hp=> .inl (sub p hp)) (fun p hp=>sub p (sub2 p hp)) R2
     | ok ds =>
      intro h vs H2 W2 fr2 sub2 R2 reps;exact h (v::vs) H2 W2 (fr.trans fr2 fun p hp=> .inl (sub p hp)) (fun p hp=>sub p (sub2 p hp)) R2 ⟨(fr2.hid fun p hp=> .inl (sub2 p hp)).repD rd,reps⟩
 | .bor i::as,H,ρ,W,Q,R,h=>by
  unfold evA at h
  revert h
  cases e:ρ[i]? with
  | none=>exact fun h=>h.elim
  | some z =>
   cases z with
   | none=>exact fun h=>h.elim
   | some dm =>
    obtain ⟨d0,m0⟩:=dm;obtain ⟨v,hv,_⟩:=R.slot i d0 m0 e;intro h;refine ⟨v,hv,ou as R ?_⟩
    revert h
    dsimp only
    cases evA as ρ with
    | none=>exact fun h=>h
    | some q =>
     obtain ⟨q,ρ2⟩:=q
     cases q with
     | ex C=>exact fun h=>h
     | ok ds =>
      dsimp only
      cases e2:ρ2[i]? with
      | none=>exact fun h=>h.elim
      | some z =>
       cases z with
       | none=>exact fun h=>h.elim
       | some dm =>
        obtain ⟨d,m⟩:=dm;intro h vs H2 W2 fr2 sub2 R2 reps;exact h (v::vs) H2 W2 fr2 sub2 R2 ⟨⟨hv,m,e2⟩,reps⟩
end
structure je(X:Cx)(EX:EXT):Prop where
 call:∀ {x:Str} {ps:List Str} {k:Nat} {sp:Sp} {e:Expr} {es:List Expr} {t:TA} {p pos:Pos} (h:OkX X.prog X.w X.K X.mg X.base x ps k sp) (hr:cq k X.A) (hg:Gl X x) (ha:PA X (e::es) t) (hdb:(x == ("__debug__" : Str))=false)
  (he:starEach (e::es) X.env=(false,eval e X.env)::starEach es X.env) (hpl:(backTo pos (starEach es X.env)).any (·.1)=false),PE X (.Call (.Name x p) (e::es) [] pos) (fun σ H Q=>t σ H fun vs H1=>sp vs H1 Q fun c _ H'=>∃ nm C,c = .ref C/\nY X.K nm C/\EX nm σ H')
def EXn:EXT:=fun _ _ _=>False
theorem lF{sp:Sp}{Q:VK}{E:XK}:(fun (vs:List V) H1=>sp (vs++[]) H1 Q E)=fun vs H1=>sp vs H1 Q E:=by
 funext vs H1
 rw [Cz]
theorem lB{X:Cx}:je X EXn:=⟨fun {x ps k sp e es t p pos} h hr hg ha hdb he hpl=>by
 obtain ⟨f,fd,hm,hk,hb,F⟩:=h.ex
 refine (sy F hr hg hm hk hb .nil (E:=fun c _ H'=>∃ nm C,c=Value.ref C/\nY X.K nm C/\False) (fun _ _ _ _ _ _ _ hZ=>(by obtain ⟨_,_,_,_,_,_,_,_,_,_,_,_,_,_,z⟩:=hZ;exact z.elim)) ha hdb he hpl).by fun σ H Q h=> ?_
 unfold vp;rw [lF]
 exact h⟩
theorem rC{P:Program}{w:World}{K:Df}{mg:Str->Option Value}{base:Heap}{N:List Str}{qual:Str}{scope:Scope}{f:Addr}{cd:Value}{A:Around}{outer:List Env}{s:Shared}{H:Hp}{E:XK} :
 je (bQ (CXr P w) P w K mg base N qual scope f cd A outer s H E) (EXf K E):=⟨fun {x ps k sp e es t p pos} h hr hg ha hdb he hpl=>by
 obtain ⟨f',fd,hm,hk,hb,F⟩:=h.ex
 refine (sy (X:=bQ (CXr P w) P w K mg base N qual scope f cd A outer s H E) F hr hg hm hk hb .nil (E:=fun c _ H'=>∃ nm C,c=Value.ref C/\nY K nm C/\∀ C',nY K nm C'->∀ x,E (.ref C') x H') (wg fun c d H' z=>by obtain ⟨nm,C,rfl,hc,z⟩:=z;exact z C hc d) ha hdb he hpl).by fun σ H Q h=> ?_
 unfold vp;rw [lF]
 exact h⟩
def bF(io:Option Nat):Nat->List Arg->Rho->Bool
 | _,[],_=>true
 | j,.ex _::as,ρ=>bF io (j+1) as ρ
 | j,.bor i::as,ρ=>(if io=some j then true else match ρ[i]? with
  | some (some (_,.fz))=>true
  | _=>false)&&bF io (j+1) as ρ
def gp(i k:Nat):Nat->List Arg->Bool
 | _,[]=>true
 | j,.ex _::as=>gp i k (j+1) as
 | j,.bor i'::as=>(decide (j=k)||decide (i'≠i))&&gp i k (j+1) as
def ioOk(io:Option Nat)(as:List Arg)(slot:Option Nat):Bool:=match io,slot with
 | none,none=>true
 | some k,some i=>(match as[k]? with
  | some (.bor i')=>decide (i'=i)
  | _=>false)&&gp i k 0 as
 | _,_=>false
def dC(slot:Option Nat)(dio:D)(ρ:Rho):Option Rho:=match slot with
 | none=>some ρ
 | some i=>match ρ[i]? with
  | some (some (_,.ow))=>some (ρ.set i (some (dio,.ow)))
  | some (some (_,.io))=>some (ρ.set i (some (dio,.io)))
  | _=>none
def fA(d:D)(nw:Bool):Bool:=if nw then bV d else dJ d
def af(io slot:Option Nat)(run:FS)(as:List Arg):SE:=fun ρ=>match evA as ρ with
 | some (.ok ds,ρ1)=>match run ds with
  | some (.ok d nw,dio)=>if (bF io 0 as ρ1||(fA d nw&&(io.isNone||bV dio)))=true then
   match dC slot dio ρ1 with
   | some ρ2=>some (.ok d nw,ρ2)
   | none=>none
   else none
  | some (.ex C,dio)=>if (bF io 0 as ρ1||(io.isNone||bV dio))=true then
   match dC slot dio ρ1 with
   | some ρ2=>some (.ex C,ρ2)
   | none=>none
   else none
  | none=>none
 | some (.ex C,ρ')=>some (.ex C,ρ')
 | none=>none
theorem eO{io:Option Nat}{ρ:Rho}:∀ {as:List Arg} {j n:Nat} {i:Nat},bF io n as ρ=true->as[j]?=some (.bor i)->io≠some (n+j)->∃ d,ρ[i]?=some (some (d,.fz))
 | [],j,n,i,h,e,_=>by simp at e
 | .ex _::as,0,n,i,h,e,_=>by simp at e
 | .bor i'::as,0,n,i,h,e,ne=>by
  simp only [Bl,Option.some.injEq,Arg.bor.injEq] at e;subst e;unfold bF at h;have h:=((Bh _ _).mp h).1;rw [if_neg (by simpa using ne)] at h
  split at h
  ·exact ⟨_,by assumption⟩
  ·cases h
 | .ex _::as,j+1,n,i,h,e,ne=>by
  unfold bF at h;exact eO (j:=j) (n:=n+1) h (by simpa using e) (by rw [show n+1+j=n+(j+1) by omega];exact ne)
 | .bor _::as,j+1,n,i,h,e,ne=>by
  unfold bF at h;exact eO (j:=j) (n:=n+1) ((Bh _ _).mp h).2 (by simpa using e) (by rw [show n+1+j=n+(j+1) by omega];exact ne)
theorem iq{i k:Nat}:∀ {as:List Arg} {j n:Nat} {i':Nat},gp i k n as=true->as[j]?=some (.bor i')->n+j≠k->i'≠i
 | [],j,n,i',h,e,_=>by simp at e
 | .ex _::as,0,n,i',h,e,_=>by simp at e
 | .bor i2::as,0,n,i',h,e,ne=>by
  simp only [Bl,Option.some.injEq,Arg.bor.injEq] at e;subst e;unfold gp at h;have h:=((Bh _ _).mp h).1
  rcases (Bool.or_eq_true _ _).mp h with z | z
  ·exact absurd (by simpa using A6 z) ne
  ·exact A6 z
 | .ex _::as,j+1,n,i',h,e,ne=>by
  unfold gp at h;exact iq (j:=j) (n:=n+1) h (by simpa using e) (by omega)
 | .bor _::as,j+1,n,i',h,e,ne=>by
  unfold gp at h;exact iq (j:=j) (n:=n+1) ((Bh _ _).mp h).2 (by simpa using e) (by omega)
section
variable{K:Df}{F:Fx}{σ:St}{H:Hp}{ρ:Rho}{W:List Addr}
theorem zW{io slot:Option Nat}{as:List Arg}{ds:List D}{vs:List V}{dio:D}{ρ2:Rho}(R:Rel K F σ H ρ W)(A:dP K F σ H ρ W as ds vs)(hio:ioOk io as slot=true)(hput:dC slot dio ρ=some ρ2) :
 ∃ Wc Zc,(∀ p∈Wc,p∉Zc)/\(∀ b,b∈Wc++Zc->b∈W++F.Z)/\(∀ p∈Wc,p∈W)/\(bF io 0 as ρ=true->∀ b,b∈W++F.Z->b∈Wc++Zc) /\
  (∀ (j:Nat) (d:D) (v:V),io≠some j->ds[j]?=some d->vs[j]?=some v->av K (hid (Wc++Zc) H) d v) /\
  (∀ k,io=some k->∃ p d,vs[k]?=some (V.ref p)/\ds[k]?=some d/\Wc=[p]/\aD K H (hid (Wc++Zc) H) p d)/\(io=none->Wc=[]) /\
  ∀ H2,Fr Wc H H2->(∀ p,Wc=[p]->aD K H2 (hid (W++F.Z) H2) p dio)->Rel K F σ H2 ρ2 W:=by
 cases io with
 | none =>
  cases slot with
  | some i=>cases hio
  | none =>
   cases hput
   have fin:∀ H2,Fr [] H H2->Rel K F σ H2 ρ W:=fun H2 fr=>R.same fun b o e=>fr.keep b o (by simp) e
   by_cases hn:bF none 0 as ρ=true
   ·refine ⟨[],W++F.Z,fun p hp=>by simp at hp,fun b hb=>by simpa using hb,fun p hp=>by simp at hp,fun _ b hb=>by simpa using hb,fun j d v _ e1 e2=> ?_,fun k z=>(by cases z),fun _=>rfl,fun H2 fr _=>fin H2 fr⟩
    obtain ⟨a,ea,ra⟩:=A.get e1 e2
    cases a with
    | ex f=>exact ra
    | bor i =>
     obtain ⟨d',hd'⟩:=eO hn ea (by simp);obtain ⟨q1,m,q2⟩:=ra;rw [hd'] at q2;cases q2;obtain ⟨v',q3,q4⟩:=R.slot i _ _ hd';rw [q1] at q3;cases q3;exact q4
   ·refine ⟨[],F.Z,fun p hp=>by simp at hp,fun b hb=>AT _ (by simpa using hb),fun p hp=>by simp at hp,fun z=>absurd z hn,fun j d v _ e1 e2=> ?_,fun k z=>(by cases z),fun _=>rfl,fun H2 fr _=>fin H2 fr⟩
    have sh:ad (hid (W++F.Z) H) (hid ([]++F.Z) H):=aI (fun b hb=> .inl (AT _ (by simpa using hb))) fun b o _ e=>e
    obtain ⟨a,ea,ra⟩:=A.get e1 e2
    cases a with
    | ex f=>exact sh.repD ra
    | bor i =>
     obtain ⟨q1,m,q2⟩:=ra;obtain ⟨v',q3,q4⟩:=R.slot i _ _ q2;rw [q1] at q3;cases q3
     cases m with
     | fz=>exact sh.repD q4
     | ow=>obtain ⟨p,rfl,hp,hO⟩:=q4;exact hO.rep (aA (by simpa using R.wz p hp)) sh
     | io=>obtain ⟨p,rfl,hp,hO,_⟩:=q4;exact hO.rep (aA (by simpa using R.wz p hp)) sh
 | some k =>
  cases slot with
  | none=>cases hio
  | some i =>
   have hio:((match as[k]? with
    | some (.bor i')=>decide (i'=i)
    | _=>false)&&gp i k 0 as)=true:=hio
   obtain ⟨h1,hap⟩:=(Bh _ _).mp hio
   have hk:as[k]?=some (.bor i):=by
    split at h1
    ·rename_i i' e
     rw [e,A6 h1]
    ·cases h1
   have hm:∃ d0 m,ρ[i]?=some (some (d0,m))/\m ≠ .fz/\ρ2=ρ.set i (some (dio,m)):=by
    unfold dC at hput;dsimp only at hput
    split at hput
    ·rename_i d0 e;cases hput;exact ⟨d0,_,e,by decide,rfl⟩
    ·rename_i d0 e;cases hput;exact ⟨d0,_,e,by decide,rfl⟩
    ·cases hput
   obtain ⟨d0,m,e0,hmf,rfl⟩:=hm;obtain ⟨v0,g1,g2⟩:=R.slot i d0 m e0
   have own:∃ p,v0 = .ref p/\p∈W/\aD K H (hid (W++F.Z) H) p d0:=by
    cases m with
    | fz=>exact absurd rfl hmf
    | ow=>exact g2
    | io=>obtain ⟨p,z1,z2,z3,_⟩:=g2;exact ⟨p,z1,z2,z3⟩
   obtain ⟨p,rfl,hpW,hO⟩:=own;obtain ⟨dk,vk,f1,f2,f3,mk,f4⟩:=A.at hk;rw [g1] at f3;cases f3;rw [e0] at f4;cases f4
   have fin:∀ H2,Fr [p] H H2->(∀ q,[p]=[q]->aD K H2 (hid (W++F.Z) H2) q dio)->Rel K F σ H2 (ρ.set i (some (dio,m))) W:=fun H2 fr new=>R.wrote e0 hmf g1 fr (new p rfl)
   have oth:∀ (j:Nat) (i':Nat) (d:D) (v:V) (m':Md),some k≠some j->as[j]?=some (.bor i')->σ[i']?=some (some v)->ρ[i']?=some (some (d,m'))->m' ≠ .fz->v ≠ .ref p:=fun j i' d v m' ne ea q1 q2 hm' z=>by
    have ni:i'≠i:=iq hap ea (fun z=>ne (by rw [<- z,BA]));subst z;exact ni (R.apart i' i _ _ _ _ _ q2 hm' e0 hmf q1 g1)
   by_cases hn:bF (some k) 0 as ρ=true
   ·have m1:∀ b,b∈[p]++(W.filter (fun a=>decide (a≠p))++F.Z)->b∈W++F.Z:=fun b hb=>by
     rcases Bd.mp hb with z | z
     ·rw [Bb.mp z];exact AU _ hpW
     ·rcases Bd.mp z with z | z
      ·exact AU _ (BJ.mp z).1
      ·exact AT _ z
    have m2:∀ b,b∈W++F.Z->b∈[p]++(W.filter (fun a=>decide (a≠p))++F.Z):=fun b hb=>by
     by_cases z:b=p
     ·rw [z];exact AU _ (Bb.mpr rfl)
     ·refine AT _ ?_
      rcases Bd.mp hb with y | y
      ·exact AU _ (BJ.mpr ⟨y,Ba z⟩)
      ·exact AT _ y
    have sh:ad (hid (W++F.Z) H) (hid ([p]++(W.filter (fun a=>decide (a≠p))++F.Z)) H):=aI (fun b hb=> .inl (m1 b hb)) fun b o _ e=>e
    refine ⟨[p],W.filter (fun a=>decide (a≠p))++F.Z,fun q hq z=> ?_,m1,fun q hq=>by rw [Bb.mp hq];exact hpW,fun _=>m2,fun j d v ne e1 e2=> ?_,fun k' z=> ?_,fun z=>(by cases z),fin⟩
    ·rw [Bb.mp hq] at z
     rcases Bd.mp z with y | y
     ·exact absurd rfl (A6 (BJ.mp y).2)
     ·exact R.wz p hpW y
    ·obtain ⟨a,ea,ra⟩:=A.get e1 e2
     cases a with
     | ex f=>exact sh.repD ra
     | bor i' =>
      obtain ⟨d',hd'⟩:=eO hn ea (by rw [BA];exact ne);obtain ⟨q1,m',q2⟩:=ra;rw [hd'] at q2;cases q2;obtain ⟨v',q3,q4⟩:=R.slot i' _ _ hd';rw [q1] at q3;cases q3;exact sh.repD q4
    ·cases z
     exact ⟨p,_,f2,f1,rfl,hO.at rfl sh⟩
   ·have m1:∀ b,b∈[p]++F.Z->b∈W++F.Z:=fun b hb=>by
     rcases Bd.mp hb with z | z
     ·rw [Bb.mp z];exact AU _ hpW
     ·exact AT _ z
    have sh:ad (hid (W++F.Z) H) (hid ([p]++F.Z) H):=aI (fun b hb=> .inl (m1 b hb)) fun b o _ e=>e
    refine ⟨[p],F.Z,fun q hq z=>by rw [Bb.mp hq] at z;exact R.wz p hpW z,m1,fun q hq=>by rw [Bb.mp hq];exact hpW,fun z=>absurd z hn,fun j d v ne e1 e2=> ?_,fun k' z=> ?_,fun z=>(by cases z),fin⟩
    ·obtain ⟨a,ea,ra⟩:=A.get e1 e2
     cases a with
     | ex f=>exact sh.repD ra
     | bor i' =>
      obtain ⟨q1,m',q2⟩:=ra;obtain ⟨v',q3,q4⟩:=R.slot i' _ _ q2;rw [q1] at q3;cases q3
      have out:∀ r,v = .ref r->m' ≠ .fz->r∈W->r∉[p]++F.Z:=fun r er hm' hr z=>by
       rcases Bd.mp z with y | y
       ·rw [Bb.mp y] at er
        exact oth j i' _ _ _ ne ea q1 q2 hm' er
       ·exact R.wz r hr y
      cases m' with
      | fz=>exact sh.repD q4
      | ow=>obtain ⟨r,rfl,hr,hO'⟩:=q4;exact hO'.rep (aA (out r rfl (by decide) hr)) sh
      | io=>obtain ⟨r,rfl,hr,hO',_⟩:=q4;exact hO'.rep (aA (out r rfl (by decide) hr)) sh
    ·cases z
     exact ⟨p,_,f2,f1,rfl,hO.at rfl sh⟩
end
section
variable{X:Cx}{EX:EXT}{e:Expr}{es:List Expr}{as:List Arg}
theorem cS{L L':List Addr}{H:Hp}(h:∀ b,b∈L'->b∈L):ad (hid L H) (hid L' H):=aI (fun b hb=> .inl (h b hb)) fun b o _ e=>e
theorem xH{x:Str}{ps:List Str}{k k':Nat}{io slot:Option Nat}{run:FS}{p pos:Pos}(C:je X EX)(h:OkX X.prog X.w X.K X.mg X.base x ps k (spF X.K io run))(hr:cq k' X.A)(hk:k<=k')(hg:Gl X x)(ha:JA X EX (e::es) as)
 (hio:ioOk io as slot=true:=by rfl) (hdb:(x == ("__debug__" : Str))=false:=by decide) (he:starEach (e::es) X.env=(false,eval e X.env)::starEach es X.env:=by rfl) (hpl:(backTo pos (starEach es X.env)).any (·.1)=false:=by rfl) :
 JE X EX (.Call (.Name x p) (e::es) [] pos) (af io slot run as) :=
 ⟨(C.call h (hr.mono hk) hg ha.p hdb he hpl).by fun σ H Q ⟨F,ρ,W,R,h⟩=>by
   refine ou as R ?_;unfold af at h
   revert h
   cases evA as ρ with
   | none=>exact fun h=>h
   | some q =>
    obtain ⟨q,ρ1⟩:=q
    cases q with
    | ex C=>exact fun h=>h
    | ok ds =>
     dsimp only
     cases er:run ds with
     | none=>exact fun h=>h.elim
     | some r =>
      obtain ⟨r,dio⟩:=r
      have key:∀ {ρ2:Rho} {vs:List V} {H1:Hp} {W1:List Addr} (b:Bool),Rel X.K F σ H1 ρ1 W1->dP X.K F σ H1 ρ1 W1 as ds vs->dC slot dio ρ1=some ρ2->(bF io 0 as ρ1||(b&&(io.isNone||bV dio)))=true ->
       ∃ Wc Zc,(∀ p∈Wc,p∉Zc)/\(∀ p∈Wc++Zc,dO (H1 p))/\(∀ p∈Wc,p∈W1) /\
        (∀ (j:Nat) (d:D) (v:V),io≠some j->ds[j]?=some d->vs[j]?=some v->av X.K (hid (Wc++Zc) H1) d v) /\
        (∀ k,io=some k->∃ p d,vs[k]?=some (V.ref p)/\ds[k]?=some d/\Wc=[p]/\aD X.K H1 (hid (Wc++Zc) H1) p d)/\(io=none->Wc=[]) /\
        ∀ H2 Q',Fr Wc H1 H2->(∀ b,b∈Q'->H1 b=none)->(∀ p,Wc=[p]->aD X.K H2 (hid (Q'++(Wc++Zc)) H2) p dio) ->
         Rel X.K F σ (hid Q' H2) ρ2 W1/\(∀ p∈W1++F.Z,dO (H2 p))/\((∀ b,b∈W1++F.Z->b∈Wc++Zc)\/b=true):=fun {ρ2 vs H1 W1} b R1 A1 hput hc=>by
       obtain ⟨Wc,Zc,c1,c2,c3,c4,c5,c6,c7,c8⟩:=zW R1 A1 hio hput;refine ⟨Wc,Zc,c1,fun p hp=>R1.mt p (c2 p hp),c3,c5,c6,c7,fun H2 Q' fr hQ own=> ?_⟩
       have wc1:∀ p∈Wc,Wc=[p]:=fun p hp=>by
        cases hz:io with
        | none=>rw [c7 hz] at hp;cases hp
        | some k =>
         obtain ⟨p',_,_,_,e,_⟩:=c6 k hz;rw [e] at hp ⊢;rw [Bb.mp hp]
       have mt2:∀ p∈W1++F.Z,dO (H2 p):=fun p hp=>by
        by_cases z:p∈Wc
        ·exact (own p (wc1 p z)).mu
        ·obtain ⟨u,q⟩:=(R1.mt p hp).some
         rw [fr.keep p u z q,<- q];exact R1.mt p hp
       have qn:∀ p∈W1++F.Z,p∉Q':=fun p hp z=>by
        have:=R1.mt p hp;rw [hQ p z] at this;exact this
       have fr2:Fr Wc H1 (hid Q' H2):=⟨fun b o n e=>by
        rw [aA (fun z=>by rw [hQ b z] at e;cases e)]
        exact fr.keep b o n e,fun b e=>by
        by_cases z:b∈Q'
        ·exact hQ b z
        ·rw [aA z] at e;exact fr.dom b e⟩
       have or1:(∀ b,b∈W1++F.Z->b∈Wc++Zc)\/(b=true/\(io.isNone||bV dio)=true):=by
        rcases (Bool.or_eq_true _ _).mp hc with z | z
        ·exact .inl (c4 z)
        ·exact .inr ((Bh _ _).mp z)
       refine ⟨c8 _ fr2 fun p hp=> ?_,mt2,or1.imp id (·.1)⟩;have hpW:p∈W1++F.Z:=AU _ (c3 p (by rw [hp];exact Bb.mpr rfl));have o1:=own p hp
       have sg:ad (hid (Q'++(W1++F.Z)) H2) (hid (W1++F.Z) (hid Q' H2)):=fun b o e=>by
        obtain ⟨z1,z2⟩:=ai e;rw [aA (fun z=>z1 (AT _ z)),aA (fun z=>z1 (AU _ z))];exact z2
       rcases or1 with z | ⟨_,z⟩
       ·refine o1.at (aA (qn p hpW)) (ad.trans (cS fun b hb=> ?_) sg)
        rcases Bd.mp hb with y | y
        ·exact AU _ y
        ·exact AT _ (z b y)
       ·have hf:bV dio=true:=by
         cases hz:io with
         | none=>rw [c7 hz] at hp;cases hp
         | some k=>rw [hz] at z;exact z
        have hnf:aD X.K H2 (hid (W1++F.Z) H2) p dio:=o1.flat mt2 hf
        have o2:aD X.K (hid Q' H2) (hid (Wc++Zc) (hid Q' H2)) p dio:=o1.at (aA (qn p hpW)) fun b o e=>by
         obtain ⟨z1,z2⟩:=ai e;rw [aA (fun z=>z1 (AT _ z)),aA (fun z=>z1 (AU _ z))];exact z2
        exact o2.flat (fun p hp=>by rw [aA (qn p hp)];exact mt2 p hp) hf
      cases r with
      | ex C =>
       dsimp only
       split
       ·rename_i hc
        cases ep:dC slot dio ρ1 with
        | none=>exact fun h=>h.elim
        | some ρ2 =>
         intro h vs H1 W1 fr1 sub1 R1 A1;obtain ⟨Wc,Zc,c1,c2,c3,c5,c6,c7,c8⟩:=key true R1 A1 ep (by simpa using hc);refine ⟨Zc,Wc,ds,A1.len,c1,c2,c5,c6,c7,?_⟩;rw [er];intro H2 fr2 own ca hca x;obtain ⟨R2,_,_⟩:=c8 H2 [] fr2 (fun b hb=>by simp at hb) own;exact ⟨C,ca,rfl,hca,h H2 W1 (fr1.trans fr2 fun p hp=> .inl (sub1 p (c3 p hp))) sub1 (R2.same am)⟩
       ·exact fun h=>h.elim
      | ok d nw =>
       dsimp only
       split
       ·rename_i hc
        cases ep:dC slot dio ρ1 with
        | none=>exact fun h=>h.elim
        | some ρ2 =>
         intro h vs H1 W1 fr1 sub1 R1 A1;obtain ⟨Wc,Zc,c1,c2,c3,c5,c6,c7,c8⟩:=key (fA d nw) R1 A1 ep hc;refine ⟨Zc,Wc,ds,A1.len,c1,c2,c5,c6,c7,?_⟩;rw [er]
         cases nw with
         | false =>
          intro v H2 fr2 rep own;obtain ⟨R2,mt2,z⟩:=c8 H2 [] fr2 (fun b hb=>by simp at hb) own;refine h v H2 W1 (fr1.trans fr2 fun p hp=> .inl (sub1 p (c3 p hp))) sub1 ⟨?_,R2.same am⟩
          rcases z with z | z
          ·exact (cS z).repD rep
          ·exact av.flat mt2 z rep
         | true =>
          intro q H2 fr2 hq hO own;obtain ⟨R2,mt2,z⟩:=c8 H2 [q] fr2 (fun b hb=>by rw [Bb.mp hb];exact hq) own;refine h (.ref q) H2 W1 (fr1.trans fr2 fun p hp=> .inl (sub1 p (c3 p hp))) sub1 ⟨q,rfl,fr1.dom q hq,R1.fresh hq,?_,R2⟩
          rcases z with z | z
          ·refine hO.at rfl (cS fun b hb=> ?_)
           rcases A9.mp hb with y | y
           ·rw [y];exact AY
           ·exact AV _ (z b y)
          ·refine hO.flat (fun p hp=> ?_) z
           rcases A9.mp hp with y | y
           ·rw [y];exact hO.mu
           ·exact mt2 p y
       ·exact fun h=>h.elim⟩
end
theorem PS.nox{X:Cx}{st:Stmt}{t:TS}(h:PS X.nox st t):PS X st t:=fun pins s σ H D I hw =>
 B9 (h pins s σ H D (I.wish _) hw) (fun _ _ q=>q.unwish) fun _ _ z=>False.elim z
abbrev SI:=Rho->Option (oz×Rho)
structure ItOk(K:Df)(L0:List Addr)(ds:List D)(J:It)(H0:Hp):Prop where
 go:∀ (H:Hp) (L:List Addr) (i:Nat) (d:D),ad (hid L0 H0) (hid L H)->(∀ p∈L,dO (H p))->ds[i]?=some d->J.go i H/\∀ x H',J.yld i H x H'->ad H H'/\av K (hid L H') d x
 stop:∀ H,ad (hid L0 H0) H->J.stop ds.length H
 few:ds.length<=sizeLine
section
variable(K:Df)(F:Fx)(EX:EXT)(σ:St)(H:Hp)(W:List Addr)
def OkI(o:Option (oz×Rho))(R:It->Hp->Prop):Prop:=match o with
 | some (.ok ds,ρ')=>∀ J H' W',Fr W H H'->(∀ p∈W',p∈W)->Rel K F σ H' ρ' W'->ItOk K (W'++F.Z) ds J H'->R J H'
 | some (.ex C,ρ')=>∀ H' W',Fr W H H'->(∀ p∈W',p∈W)->Rel K F σ H' ρ' W'->EX C σ H'
 | none=>False
end
def tI(K:Df)(EX:EXT)(f:SI):TI:=fun σ H R=>∃ F ρ W,Rel K F σ H ρ W/\OkI K F EX σ H W (f ρ) R
structure JI(X:Cx)(EX:EXT)(tg iter:Expr)(f:SI):Prop where
 p:PI X tg iter (tI X.K EX f)
def bY(T:Tg)(f:SS):List D->Rho->Option (Out×Rho)
 | [],ρ=>some (.nx,ρ)
 | d::ds,ρ=>match bv T d ρ with
  | none=>none
  | some ρ1=>match f ρ1 with
   | some (.nx,ρ2)=>bY T f ds ρ2
   | some (.ct,ρ2)=>bY T f ds ρ2
   | some (.bk,ρ2)=>some (.nx,ρ2)
   | some (.rt d nw,ρ2)=>some (.rt d nw,ρ2)
   | some (.ex _,_)=>none
   | none=>none
def gJ(it:SI)(T:Tg)(f:SS):SS:=fun ρ=>match it ρ with
 | some (.ok ds,ρ1)=>bY T f ds ρ1
 | some (.ex _,_)=>none
 | none=>none
def cx:Nat->ST->SS->SS
 | 0,_,_=>fun _=>none
 | n+1,c,f=>fun ρ=>match c ρ with
  | some (.ok false,ρ1)=>some (.nx,ρ1)
  | some (.ok true,ρ1)=>match f ρ1 with
   | some (.nx,ρ2)=>cx n c f ρ2
   | some (.ct,ρ2)=>cx n c f ρ2
   | some (.bk,ρ2)=>some (.nx,ρ2)
   | some (.rt d nw,ρ2)=>some (.rt d nw,ρ2)
   | some (.ex _,_)=>none
   | none=>none
  | some (.ex _,_)=>none
  | none=>none
section
variable{X:Cx}{EX:EXT}{tg iter c:Expr}{body:List Stmt}{pos:Pos}
theorem s_for{it:SI}{T:Tg}{f:SS}(hc:X.calm=true)(hi:JI X.nox EXn tg iter it)(hg:JG X.nox tg T)(hb:JSs X.nox EXn body f)(hs:∀ x,foldedSetIterable iter X.env x=pure x:=by intro _;rfl):JS X EX (.For tg iter body [] pos) (gJ it T f) :=
 ⟨(PS.nox (vY (X:=X.nox) PassesOwn.never hc hi.p hg.p hb.p hs)).by fun D σ H ⟨F,ρ,W,R,h⟩=>⟨F,ρ,W,R,by
   unfold gJ at h
   revert h
   cases it ρ with
   | none=>exact fun h=>h
   | some q =>
    obtain ⟨q,ρ1⟩:=q
    cases q with
    | ex C=>exact fun h=>h.elim
    | ok ds =>
     intro h J H1 W1 fr1 sub1 R1 ok;have h:OkS X.K F EX H W (bY T f ds ρ1) D:=h
     refine ⟨fun i m σ H2=>m=ds.length - i/\i<=ds.length/\∃ ρ2 W2,Rel X.K F σ H2 ρ2 W2/\Fr W1 H1 H2/\(∀ p∈W2,p∈W1\/H1 p=none)/\OkS X.K F EX H2 W2 (bY T f (ds.drop i) ρ2) D,
      ⟨ds.length,by simp,Cv _,ρ1,W1,R1,.refl,fun _ z=> .inl z,OkS.go h fr1 fun p hp=> .inl (sub1 p hp)⟩,?_⟩
     rintro i m σ2 H2 ⟨rfl,hi,ρ2,W2,R2,fr2,sub2,h2⟩
     by_cases hlt:i < ds.length
     ·have hd:ds.drop i=ds[i]::ds.drop (i+1):=List.drop_eq_getElem_cons hlt
      rw [hd] at h2;unfold bY at h2;obtain ⟨g1,g2⟩:=ok.go H2 (W2++F.Z) i ds[i] (fr2.hid sub2) R2.mt (AN hlt);refine .inr ⟨g1,fun σ3 H3=>ds.length - (i+1)=ds.length - (i+1)/\i+1<=ds.length/\∃ ρ3 W3,Rel X.K F σ3 H3 ρ3 W3/\Fr W1 H1 H3/\(∀ p∈W3,p∈W1\/H1 p=none)/\OkS X.K F EX H3 W3 (bY T f (ds.drop (i+1)) ρ3) D,fun σ3 H3 z=>⟨_,by omega,z⟩,fun x H3 y=> ?_⟩;obtain ⟨s3,rx⟩:=g2 x H3 y
      revert h2
      cases ea:bv T ds[i] ρ2 with
      | none=>exact fun h=>h.elim
      | some ρ3 =>
       intro h2
       refine sP (n:=0) T (R2.same s3) rx ea fun σ4 _ R4=>⟨F,ρ3,W2,R4,?_⟩
       have fr3:Fr W1 H1 H3:=fr2.trans (s3.fr (W:=W2)) sub2
       have h3:OkS X.K F EX H3 W2 _ D:=OkS.go h2 (s3.fr (W:=W2)) fun p hp=> .inl hp
       have sub3:∀ {W4:List Addr},(∀ p∈W4,p∈W2\/H3 p=none)->∀ p∈W4,p∈W1\/H1 p=none:=fun {W4} s p hp=>(s p hp).elim (sub2 p) fun z=> .inr (fr3.dom p z)
       revert h3
       dsimp only
       cases f ρ3 with
       | none=>exact fun h=>h
       | some q =>
        obtain ⟨q,ρ4⟩:=q
        cases q with
        | nx=>exact fun h3 σ5 H5 W5 fr5 sub5 R5=>⟨rfl,hlt,ρ4,W5,R5,fr3.trans fr5 sub2,sub3 sub5,OkS.go h3 fr5 sub5⟩
        | ct=>exact fun h3 σ5 H5 W5 fr5 sub5 R5=>⟨rfl,hlt,ρ4,W5,R5,fr3.trans fr5 sub2,sub3 sub5,OkS.go h3 fr5 sub5⟩
        | bk=>exact fun h3=>h3
        | ex C=>exact fun h3=>h3.elim
        | rt d nw=>exact fun h3=>h3
     ·have e:i=ds.length:=by omega
      subst e;rw [List.drop_length] at h2
      exact .inl ⟨ok.stop H2 ((fr2.hid sub2).trans am),h2 σ2 H2 W2 .refl (fun _ z=> .inl z) R2⟩⟩⟩
theorem yl{n:Nat}{t:ST}{f:SS}(hc:JT X.nox EXn c t)(hb:JSs X.nox EXn body f):JS X EX (.While c body [] pos) (cx n t f) :=
 ⟨(PS.nox (vX (X:=X.nox) PassesOwn.never hc.p hb.p)).by fun D σ H ⟨F,ρ,W,R,h⟩=>by
   refine ⟨fun m σ H2=>∃ ρ2 W2,Rel X.K F σ H2 ρ2 W2/\OkS X.K F EX H2 W2 (cx m t f ρ2) D,⟨n,ρ,W,R,h⟩,?_⟩;rintro m σ2 H2 ⟨ρ2,W2,R2,h2⟩
   cases m with
   | zero=>exact h2.elim
   | succ m =>
    refine ⟨F,ρ2,W2,R2,?_⟩;unfold cx at h2
    revert h2
    cases t ρ2 with
    | none=>exact fun h=>h
    | some q =>
     obtain ⟨q,ρ3⟩:=q
     cases q with
     | ex C=>exact fun h=>h.elim
     | ok k =>
      cases k with
      | false=>exact fun h H3 W3 fr3 sub3 R3=>h σ2 H3 W3 fr3 (fun p hp=> .inl (sub3 p hp)) R3
      | true =>
       intro h H3 W3 fr3 sub3 R3;refine ⟨fun σ' H'=>∃ ρ4 W4,Rel X.K F σ' H' ρ4 W4/\OkS X.K F EX H' W4 (cx m t f ρ4) D,fun σ' H' z=>⟨m,Cp m,z⟩,F,ρ3,W3,R3,?_⟩
       have h3:OkS X.K F EX H3 W3 _ D:=OkS.go h fr3 fun p hp=> .inl (sub3 p hp)
       revert h3
       dsimp only
       cases f ρ3 with
       | none=>exact fun h=>h
       | some q =>
        obtain ⟨q,ρ4⟩:=q
        cases q with
        | nx=>exact fun h3 σ5 H5 W5 fr5 sub5 R5=>⟨ρ4,W5,R5,OkS.go h3 fr5 sub5⟩
        | ct=>exact fun h3 σ5 H5 W5 fr5 sub5 R5=>⟨ρ4,W5,R5,OkS.go h3 fr5 sub5⟩
        | bk=>exact fun h3=>h3
        | ex C=>exact fun h3=>h3.elim
        | rt d nw=>exact fun h3=>h3⟩
end
def evC(c:Option ST)(ρ:Rho):Option (uS×Rho):=match c with
 | none=>some (.ok true,ρ)
 | some c=>c ρ
def aT(k:Nat)(T:Tg)(c:Option ST)(f:SE):List D->Rho->Option (List D×Rho)
 | [],ρ=>some ([],ρ)
 | d::ds,ρ=>match bv T d (ρ++List.replicate k none) with
  | none=>none
  | some ρ1=>match evC c ρ1 with
   | some (.ok true,ρ2)=>match f ρ2 with
    | some (.ok y _,ρ3)=>match aT k T c f ds (ρ3.take ρ.length) with
     | some (ys,ρ4)=>some (y::ys,ρ4)
     | none=>none
    | some (.ex _,_)=>none
    | none=>none
   | some (.ok false,ρ2)=>aT k T c f ds (ρ2.take ρ.length)
   | some (.ex _,_)=>none
   | none=>none
def aH(k:Nat)(it:SI)(T:Tg)(c:Option ST)(f:SE):SE:=fun ρ=>match it ρ with
 | some (.ok ds,ρ1)=>if Tg.ge ρ1.length T=true then
  match aT k T c f ds ρ1 with
  | some (ys,ρ2)=>some (.ok (.lst ys) true,ρ2)
  | none=>none
  else none
 | some (.ex C,ρ1)=>some (.ex C,ρ1)
 | none=>none
def tIfC(K:Df)(c:Option ST):TT:=match c with
 | none=>Ao
 | some c=>tVT K EXn c
section
variable{K:Df}{F:Fx}{EX:EXT}{σ:St}{H:Hp}{ρ:Rho}{W:List Addr}
theorem Rel.ext(R:Rel K F σ H ρ W)(k:Nat):Rel K F (σ++List.replicate k none) H (ρ++List.replicate k none) W:=by
 have old:∀ {i:Nat} {d:D} {m:Md},(ρ++List.replicate k none)[i]?=some (some (d,m))->ρ[i]?=some (some (d,m))/\i < ρ.length:=fun {i d m} h=>by
  by_cases hi:i < ρ.length
  ·rw [Bt hi] at h
   exact ⟨h,hi⟩
  ·rw [BZ (by omega),Cm] at h
   split at h<;>cases h
 refine ⟨fun i d m h=> ?_,fun i j d e m n p h1 h2 h3 h4 h5 h6=> ?_,R.wz,R.mt,by rw [A7,A7,BK,BK,R.len]⟩
 ·obtain ⟨h,hi⟩:=old h
  obtain ⟨v,g1,g2⟩:=R.slot i d m h;exact ⟨v,by rw [Bt (by rw [R.len];exact hi)];exact g1,g2⟩
 ·obtain ⟨h1,i1⟩:=old h1
  obtain ⟨h3,i3⟩:=old h3;rw [Bt (by rw [R.len];exact i1)] at h5;rw [Bt (by rw [R.len];exact i3)] at h6;exact R.apart i j _ _ _ _ _ h1 h2 h3 h4 h5 h6
theorem Rel.cut{σ2:St}(R:Rel K F σ2 H ρ W)(h:σ2.take σ.length=σ)(hl:σ.length<=σ2.length):Rel K F σ H (ρ.take σ.length) W:=by
 have old:∀ {i:Nat} {d:D} {m:Md},(ρ.take σ.length)[i]?=some (some (d,m))->ρ[i]?=some (some (d,m))/\i < σ.length:=fun {i d m} h=>by
  rw [List.getElem?_take] at h
  split at h
  ·exact ⟨h,by assumption⟩
  ·cases h
 have eq:∀ {i:Nat},i < σ.length->σ2[i]?=σ[i]?:=fun {i} hi=>by
  have e:=List.getElem?_take_of_lt (l:=σ2) hi;rw [h] at e;exact e.symm
 refine ⟨fun i d m h=> ?_,fun i j d e m n p h1 h2 h3 h4 h5 h6=> ?_,R.wz,R.mt,by rw [BY,<- R.len];omega⟩
 ·obtain ⟨h,hi⟩:=old h
  obtain ⟨v,g1,g2⟩:=R.slot i d m h;exact ⟨v,by rw [<- eq hi];exact g1,g2⟩
 ·obtain ⟨h1,i1⟩:=old h1
  obtain ⟨h3,i3⟩:=old h3;rw [<- eq i1] at h5;rw [<- eq i3] at h6;exact R.apart i j _ _ _ _ _ h1 h2 h3 h4 h5 h6
theorem sV{k:Nat}{it:SI}{T:Tg}{c:Option ST}{f:SE}{Q:VK}(hw:tV K EX (aH k it T c f) σ H Q):oP (tI K EX it) k (gT K T) (tIfC K c) (tV K EXn f) σ H Q:=by
 obtain ⟨F,ρ,W,R,h⟩:=hw;refine ⟨F,ρ,W,R,?_⟩;unfold aH at h
 revert h
 cases it ρ with
 | none=>exact fun h=>h
 | some q =>
  obtain ⟨q,ρ1⟩:=q
  cases q with
  | ex C=>exact fun h=>h
  | ok ds =>
   dsimp only
   split
   ·rename_i hge
    cases es:aT k T c f ds ρ1 with
    | none=>exact fun h=>h.elim
    | some z =>
     obtain ⟨tot,ρe⟩:=z;intro h J H1 W1 fr1 sub1 R1 ok
     refine ⟨fun i m ys H2=>m=ds.length - i/\i<=ds.length/\∃ ρ2 W2 acc rest,Rel K F σ H2 ρ2 W2/\Fr W1 H1 H2/\(∀ p∈W2,p∈W1)/\ae K (hid (W2++F.Z) H2) acc ys/\acc.length<=i/\aT k T c f (ds.drop i) ρ2=some (rest,ρe)/\acc++rest=tot,
      ⟨ds.length,by simp,Cv _,ρ1,W1,[],tot,R1,.refl,fun _ z=>z,trivial,Cv _,es,rfl⟩,?_⟩
     rintro i m ys H2 ⟨rfl,hi,ρ2,W2,acc,rest,R2,fr2,sub2,rp,la,e2,et⟩
     have sub2':∀ p∈W2,p∈W1\/H1 p=none:=fun p hp=> .inl (sub2 p hp)
     have few:=ok.few;have ly:=rp.len;refine ⟨by omega,?_⟩
     by_cases hlt:i < ds.length
     ·have hd:ds.drop i=ds[i]::ds.drop (i+1):=List.drop_eq_getElem_cons hlt
      rw [hd] at e2;unfold aT at e2;obtain ⟨g1,g2⟩:=ok.go H2 (W2++F.Z) i ds[i] (fr2.hid sub2') R2.mt (AN hlt);refine .inr ⟨g1,fun x H3 y=> ?_⟩;obtain ⟨s3,rx⟩:=g2 x H3 y
      cases ea:bv T ds[i] (ρ2++List.replicate k none) with
      | none=>rw [ea] at e2;cases e2
      | some ρ3 =>
       rw [ea] at e2;dsimp only at e2;have lenσ:σ.length=ρ1.length:=R1.len;have lenσ2:σ.length=ρ2.length:=R2.len
       refine sP (n:=σ.length) T ((R2.same s3).ext k) rx ea fun σ4 tk R4=> ?_
       have tk:=tk (by rw [lenσ];exact hge);rw [List.take_left] at tk
       have l4:σ.length<=σ4.length:=by
        have:=congrArg List.length tk;rw [BY] at this;omega
       refine ⟨tk,?_⟩;have fr3:Fr W1 H1 H3:=fr2.trans (s3.fr (W:=W2)) sub2'
       have rest:∀ b ρ4,evC c ρ3=some (.ok b,ρ4)->∀ H4 W4,Fr W2 H3 H4->(∀ p∈W4,p∈W2)->Rel K F σ4 H4 ρ4 W4 ->
        (if b=true then tV K EXn f σ4 H4 fun y H5=>∃ m',m' < ds.length - i/\(m'=ds.length - (i+1)/\i+1<=ds.length/\∃ ρ2 W2 acc rest,Rel K F σ H5 ρ2 W2/\Fr W1 H1 H5/\(∀ p∈W2,p∈W1)/\ae K (hid (W2++F.Z) H5) acc (ys++[y])/\acc.length<=i+1/\aT k T c f (ds.drop (i+1)) ρ2=some (rest,ρe)/\acc++rest=tot)
        else ∃ m',m' < ds.length - i/\(m'=ds.length - (i+1)/\i+1<=ds.length/\∃ ρ2 W2 acc rest,Rel K F σ H4 ρ2 W2/\Fr W1 H1 H4/\(∀ p∈W2,p∈W1)/\ae K (hid (W2++F.Z) H4) acc ys/\acc.length<=i+1/\aT k T c f (ds.drop (i+1)) ρ2=some (rest,ρe)/\acc++rest=tot)):=fun b ρ4 ec H4 W4 fr4 sub4 R4=>by
        rw [ec] at e2;have frA:Fr W1 H1 H4:=fr3.trans fr4 sub2';have sA:ad (hid (W2++F.Z) H2) (hid (W4++F.Z) H4):=ad.trans (aI (fun b hb=> .inl hb) fun b o _ e=>s3 b o e:ad (hid (W2++F.Z) H2) (hid (W2++F.Z) H3)) (fr4.hid fun p hp=> .inl (sub4 p hp))
        cases b with
        | false =>
         dsimp only at e2;rw [if_neg Bj];exact ⟨_,by omega,rfl,hlt,ρ4.take σ.length,W4,acc,_,R4.cut tk l4,frA,fun p hp=>sub2 p (sub4 p hp),sA.repDs rp,by omega,by rw [lenσ2];exact e2,et⟩
        | true =>
         dsimp only at e2;rw [if_pos rfl];refine ⟨F,ρ4,W4,R4,?_⟩
         cases ef:f ρ4 with
         | none=>rw [ef] at e2;cases e2
         | some q =>
          obtain ⟨q,ρ5⟩:=q;rw [ef] at e2
          cases q with
          | ex C=>cases e2
          | ok y nw =>
           dsimp only at e2
           cases e3:aT k T c f (ds.drop (i+1)) (ρ5.take ρ2.length) with
           | none=>rw [e3] at e2;cases e2
           | some z =>
            obtain ⟨rest',ρe'⟩:=z;rw [e3] at e2;cases e2;intro v H5 W5 fr5 sub5 P5;obtain ⟨rv,R5⟩:=P5.plain;refine ⟨_,by omega,rfl,hlt,ρ5.take σ.length,W5,acc++[y],rest',R5.cut tk l4,frA.trans fr5 fun p hp=> .inl (sub2 p (sub4 p hp)),fun p hp=>sub2 p (sub4 p (sub5 p hp)),ae.app ((fr5.hid fun p hp=> .inl (sub5 p hp)).repDs (sA.repDs rp)) ⟨rv,trivial⟩,?_,by rw [lenσ2];exact e3,?_⟩
            ·rw [A7];simp;omega
            ·rw [<- et,B3];rfl
       cases c with
       | none=>exact rest true ρ3 rfl H3 W2 .refl (fun _ z=>z) R4
       | some c =>
        refine ⟨F,ρ3,W2,R4,?_⟩;have e2':=e2;unfold evC at e2';dsimp only at e2'
        cases ec:c ρ3 with
        | none=>rw [ec] at e2';cases e2'
        | some q =>
         obtain ⟨q,ρ4⟩:=q
         cases q with
         | ex C=>rw [ec] at e2';cases e2'
         | ok b=>exact fun H4 W4 fr4 sub4 R4=>rest b ρ4 ec H4 W4 fr4 sub4 R4
     ·have e:i=ds.length:=by omega
      subst e;rw [List.drop_length] at e2;have e2:some (([]:List D),ρ2)=some (rest,ρe):=e2;cases e2;rw [Cz] at et;subst et;refine .inl ⟨ok.stop H2 ((fr2.hid sub2').trans am),fun l hl=> ?_⟩;refine h (.ref l) _ W2 ((fr1.trans fr2 fun p hp=> .inl (sub1 p hp)).trans ((ad.upd hl).fr (W:=W2)) fun p hp=> .inl (sub1 p (sub2 p hp))) (fun p hp=>sub1 p (sub2 p hp)) ?_
      refine fF.back (gz.e (nw:=true) ⟨l,rfl,hl,ys,ao,?_⟩ R2 (ad.upd hl)) fun b hb=>fr1.dom b (fr2.dom b hb)
      exact (aI (fun b hb=>(A9.mp hb).elim (fun z=> .inr (by rw [z];exact hl)) .inl) fun b o _ e=>ad.upd hl b o e:ad (hid (W2++F.Z) H2) _).repDs rp
   ·exact fun h=>h.elim
end
inductive JC(X:Cx):List Expr->Option ST->Prop where
 | no:JC X [] none
 | one {c:Expr} {t:ST} (h:JT X EXn c t):JC X [c] (some t)
theorem JC.p{X:Cx}{ifs:List Expr}{c:Option ST}(h:JC X ifs c):uT X ifs (tIfC X.K c):=by
 cases h with
 | no=>exact pif0
 | one h=>exact pif1 h.p
section
variable{X:Cx}{EX:EXT}{elt tg iter:Expr}{ifs:List Expr}{sc:Scope}{M tgs:List Str}{pos:Pos}{it:SI}{T:Tg}{c:Option ST}{f:SE}
theorem bh(hc:X.calm=true)(B:lJ X sc M tgs)(hi:JI X EX tg iter it)(hg:∀ cl C fp s H,JG (blk X sc cl C fp s H (M++tgs)) tg T)(ht:∀ cl C fp s H,JC (blk X sc cl C fp s H (M++tgs)) ifs c)(he:∀ cl C fp s H,JE (blk X sc cl C fp s H (M++tgs)) EXn elt f)
 (hs:∀ x,foldedSetIterable iter X.env x=pure x:=by intro _;rfl):JE X EX (.ListComp elt [⟨tg,iter,ifs,0⟩] sc pos) (aH tgs.length it T c f) :=
 ⟨(yR hc B hi.p (fun cl C fp s H=>(hg cl C fp s H).p) (fun cl C fp s H=>(ht cl C fp s H).p) (fun cl C fp s H=>(he cl C fp s H).p) hs).by fun σ H Q h=>sV h⟩
theorem eI{j:Nat}{y:Str}{py spos:Pos}(hc:X.calm=true)(B:lJ X sc M tgs)(hi:JI X EX tg iter it)(hg:∀ cl C fp s H,JG (blk X sc cl C fp s H (M++tgs)) tg T)(ht:∀ cl C fp s H,JC (blk X sc cl C fp s H (M++tgs)) ifs c)(he:∀ cl C fp s H,JE (blk X sc cl C fp s H (M++tgs)) EXn elt f)
 (hN:X.N.Nodup) (hjy:X.N[j]?=some y) (hy:X.env.scope.names.lookup y=some .local) (hsw:swapsWith (.ListComp elt [⟨tg,iter,ifs,0⟩] sc pos) (some (.Name y py)) spos.line X.env=pure true:=by rfl)
 (hs:∀ x,foldedSetIterable iter X.env x=pure x:=by intro _;rfl):JS X EX (.Assign [.Name y py] (.ListComp elt [⟨tg,iter,ifs,0⟩] sc pos) spos) (aO j (aH tgs.length it T c f)) :=
 ⟨(kH hc B hi.p (fun cl C fp s H=>(hg cl C fp s H).p) (fun cl C fp s H=>(ht cl C fp s H).p) (fun cl C fp s H=>(he cl C fp s H).p) hN hjy hy hsw hs).by fun D σ H h=>sV (xL h)⟩
end
mutual
def nrm:D->D
 | .ktup ds=> .tup (b0 ds)
 | .tup ds=> .tup (b0 ds)
 | .klst ds=> .lst (b0 ds)
 | .lst ds=> .lst (b0 ds)
 | d=>d
def b0:List D->List D
 | []=>[]
 | d::ds=>nrm d::b0 ds
end
mutual
def eqN:D->D->Bool
 | .non,.non=>true
 | .bl a,.bl b=>a == b
 | .bl a,.int b=>(if a then 1 else 0) == b
 | .int a,.bl b=>a == (if b then 1 else 0)
 | .int a,.int b=>a == b
 | .str a,.str b=>a == b
 | .tup a,.tup b=>fh a b
 | .lst a,.lst b=>fh a b
 | _,_=>false
def fh:List D->List D->Bool
 | [],[]=>true
 | a::as,b::bs=>eqN a b&&fh as bs
 | _,_=>false
end
def eqD(d e:D):Bool:=eqN (nrm d) (nrm e)
def ac:Nat->D->Bool
 | _,.non=>true
 | _,.bl _=>true
 | _,.int _=>true
 | _,.str _=>true
 | n+1,.tup ds=>ds.all (ac n)
 | n+1,.ktup ds=>ds.all (ac n)
 | n+1,.lst ds=>ds.all (ac n)
 | n+1,.klst ds=>ds.all (ac n)
 | _,_=>false
theorem kX:∀ {ds:List D},(b0 ds).length=ds.length
 | []=>rfl
 | _::ds=>by unfold b0;rw [A3,A3,kX]
theorem dE:∀ {ds:List D} {j:Nat},(b0 ds)[j]?=ds[j]?.map nrm
 | [],j=>by unfold b0;simp
 | d::ds,0=>by unfold b0;simp
 | d::ds,j+1=>by unfold b0;simp;exact dE
theorem lr:∀ {as bs:List D},fh as bs=((List.range (min as.length bs.length)).all (fun j=>match as[j]?,bs[j]? with | some a,some b=>eqN a b | _,_=>true)&&as.length == bs.length)
 | [],[]=>rfl
 | [],b::bs=>by unfold fh;simp
 | a::as,[]=>by unfold fh;simp
 | a::as,b::bs=>by
  unfold fh;rw [lr (as:=as) (bs:=bs)]
  have e1:min (a::as).length (b::bs).length=min as.length bs.length+1:=by simp only [A3];omega
  have e2:((a::as).length == (b::bs).length)=(as.length == bs.length):=by simp
  rw [e1,e2,List.range_succ_eq_map,List.all_cons,List.all_map,Bool.and_assoc]
  congr 1
mutual
theorem gf:∀ (n:Nat) {d:D},ac n d=true->eqN (nrm d) (nrm d)=true
 | n,.non,_=>rfl
 | n,.bl _,_=>by unfold nrm eqN;simp
 | n,.int _,_=>by unfold nrm eqN;simp
 | n,.str _,_=>by unfold nrm eqN;simp
 | n+1,.tup ds,h=>by unfold nrm eqN;exact eS n (by unfold ac at h;exact h)
 | n+1,.ktup ds,h=>by unfold nrm eqN;exact eS n (by unfold ac at h;exact h)
 | n+1,.lst ds,h=>by unfold nrm eqN;exact eS n (by unfold ac at h;exact h)
 | n+1,.klst ds,h=>by unfold nrm eqN;exact eS n (by unfold ac at h;exact h)
 | 0,.tup _,h=>by unfold ac at h;cases h
 | 0,.ktup _,h=>by unfold ac at h;cases h
 | 0,.lst _,h=>by unfold ac at h;cases h
 | 0,.klst _,h=>by unfold ac at h;cases h
 | _,.dK _ _,h=>by unfold ac at h;cases h
 | _,.dT _ _,h=>by unfold ac at h;cases h
 | _,.set _,h=>by unfold ac at h;cases h
 | _,.rng _ _,h=>by unfold ac at h;cases h
 | _,.exc _,h=>by unfold ac at h;cases h
theorem eS:∀ (n:Nat) {ds:List D},ds.all (ac n)=true->fh (b0 ds) (b0 ds)=true
 | n,[],_=>rfl
 | n,d::ds,h=>by
  rw [List.all_cons] at h;have h:=(Bh _ _).mp h;unfold b0 fh;rw [gf n h.1,eS n h.2];rfl
end
section
variable{X:Cx}{pins:List (Addr×Obj)}{σ:St}{H:Hp}{s:Shared}
inductive Vw(K:Df)(H:Hp)(s:Shared):Nat->D->V->Value->Prop where
 | non {n}:Vw K H s n .non .non .none
 | bl {n} (b:Bool):Vw K H s n (.bl b) (.bl b) (.bool b)
 | int {n} (i:Int) (t:Tok):Vw K H s n (.int i) (.int i) (.int i t)
 | str {n} (x:Str) (t:Tok):Vw K H s n (.str x) (.str x) (.str x t)
 | tu {n} {d:D} {ds:List D} {p:Addr} {xs:List V} {its:List Value} (hd:nrm d = .tup (b0 ds)) (ht:s.heap.IsTuple p its.toArray) (hv:ar xs its) (hr:ae K H ds xs) (he:ds.all (ac n)=true):Vw K H s (n+1) d (.ref p) (.ref p)
 | li {n} {d:D} {ds:List D} {p:Addr} {xs:List V} {its:List Value} (hd:nrm d = .lst (b0 ds)) (ht:s.heap.IsList p its.toArray) (hv:ar xs its) (hr:ae K H ds xs) (he:ds.all (ac n)=true):Vw K H s (n+1) d (.ref p) (.ref p)
theorem jF(I:Inv X pins σ H s){n:Nat}{d:D}{v:V}{u:Value}(he:ac n d=true)(r:av X.K H d v)(ru:aB v u):Vw X.K H s n d v u:=by
 have z0:n=0\/∃ m,n=m+1:=by cases n with | zero=>exact .inl rfl | succ m=>exact .inr ⟨m,rfl⟩
 cases d with
 | non=>cases r;cases ru;exact .non
 | bl b=>cases r;cases ru;exact .bl b
 | int i=>cases r;obtain ⟨t,rfl⟩:=ru;exact .int i t
 | str x=>cases r;obtain ⟨t,rfl⟩:=ru;exact .str x t
 | tup ds =>
  obtain ⟨p,xs,rfl,h1,h2⟩:=r;cases ru
  rcases z0 with rfl | ⟨m,rfl⟩
  ·unfold ac at he;cases he
  ·obtain ⟨its,rv,pl,_⟩:=I.tuple (X:=X) (.inl (.inl h1))
   exact .tu (by unfold nrm;rfl) pl rv h2 (by unfold ac at he;exact he)
 | ktup ds =>
  obtain ⟨p,xs,rfl,h1,h2⟩:=r;cases ru
  rcases z0 with rfl | ⟨m,rfl⟩
  ·unfold ac at he;cases he
  ·obtain ⟨its,rv,pl,_⟩:=I.tuple (X:=X) (dS h1)
   exact .tu (by unfold nrm;rfl) pl rv h2 (by unfold ac at he;exact he)
 | lst ds =>
  obtain ⟨p,xs,rfl,h1,h2⟩:=r;cases ru
  rcases z0 with rfl | ⟨m,rfl⟩
  ·unfold ac at he;cases he
  ·obtain ⟨its,rv,pl,_⟩:=I.list (X:=X) (.inl (.inl h1))
   exact .li (by unfold nrm;rfl) pl.isList rv h2 (by unfold ac at he;exact he)
 | klst ds =>
  obtain ⟨p,xs,rfl,h1,h2⟩:=r;cases ru
  rcases z0 with rfl | ⟨m,rfl⟩
  ·unfold ac at he;cases he
  ·obtain ⟨its,rv,pl,_⟩:=I.list h1
   exact .li (by unfold nrm;rfl) pl.isList rv h2 (by unfold ac at he;exact he)
 | dK _ _=>unfold ac at he;cases he
 | dT _ _=>unfold ac at he;cases he
 | set _=>unfold ac at he;cases he
 | rng _ _=>unfold ac at he;cases he
 | exc _=>unfold ac at he;cases he
theorem pM{p:Addr}{a b:List Value}(h1:s.heap.IsTuple p a.toArray)(h2:s.heap.IsTuple p b.toArray):a=b:=by
 obtain ⟨o,e1,_,n,d1⟩:=h1;obtain ⟨o2,e2,_,n2,d2⟩:=h2;rw [e1] at e2;cases e2;rw [d1] at d2;have:=(Data.seq.inj d2).1;simpa using congrArg Array.toList this
theorem qU{p:Addr}{a b:List Value}(h1:s.heap.IsList p a.toArray)(h2:s.heap.IsList p b.toArray):a=b:=by
 obtain ⟨o,e1,_,n,d1⟩:=h1;obtain ⟨o2,e2,_,n2,d2⟩:=h2;rw [e1] at e2;cases e2;rw [d1] at d2;have:=(Data.seq.inj d2).1;simpa using congrArg Array.toList this
theorem aS{xs:List V}{its:List Value}(r:ar xs its){j:Nat}(h:j < its.length):∃ x,xs[j]?=some x/\aB x its[j]:=by
 have hx:j < xs.length:=by rw [r.length];exact h
 obtain ⟨u,e,ru⟩:=r.get (AN hx);rw [AN h] at e;cases e;exact ⟨_,AN hx,ru⟩
theorem fU(I:Inv X pins σ H s):∀ (n m:Nat) {d e:D} {v:V} {u:Value},ac n d=true->ac m e=true->av X.K H d v->av X.K H e v->aB v u->nrm d=nrm e
 | n,m,d,e,v,u,h1,h2,r1,r2,ru=>by
  have v1:=jF I h1 r1 ru;have v2:=jF I h2 r2 ru
  cases v1 with
  | non=>cases v2;rfl
  | bl b=>cases v2;rfl
  | int i t=>cases v2;rfl
  | str x t=>cases v2;rfl
  | @tu n _ ds p xs its hd ht hv hr he =>
   cases v2 with
   | @tu m _ es _ ys jts hd2 ht2 hv2 hr2 he2 =>
    have:=pM ht ht2;subst this;have exy:xs=ys:=hv.inj hv2;subst exy;rw [hd,hd2]
    congr 1
    apply List.ext_getElem?;intro j;rw [dE,dE];have l1:=hr.len;have l2:=hr2.len
    by_cases hj:j < xs.length
    ·obtain ⟨d',e1,q1⟩:=hr.get' (AN hj)
     obtain ⟨e',e2,q2⟩:=hr2.get' (AN hj);rw [e1,e2]
     have hji:j < its.length:=by rw [<- hv.length];exact hj
     obtain ⟨x,ex,rx⟩:=aS hv hji;rw [AN hj] at ex;cases ex;exact congrArg some (fU I n m (Bg.mp he _ (Bc e1)) (Bg.mp he2 _ (Bc e2)) q1 q2 rx)
    ·rw [C1 (by omega),C1 (by omega)]
   | li hd2 ht2 hv2 hr2 he2=>exact absurd rfl (SeqAt.ne_of_list_tuple ht2 ht)
  | @li n _ ds p xs its hd ht hv hr he =>
   cases v2 with
   | tu hd2 ht2 hv2 hr2 he2=>exact absurd rfl (SeqAt.ne_of_list_tuple ht ht2)
   | @li m _ es _ ys jts hd2 ht2 hv2 hr2 he2 =>
    have:=qU ht ht2;subst this;have exy:xs=ys:=hv.inj hv2;subst exy;rw [hd,hd2]
    congr 1
    apply List.ext_getElem?;intro j;rw [dE,dE];have l1:=hr.len;have l2:=hr2.len
    by_cases hj:j < xs.length
    ·obtain ⟨d',e1,q1⟩:=hr.get' (AN hj)
     obtain ⟨e',e2,q2⟩:=hr2.get' (AN hj);rw [e1,e2]
     have hji:j < its.length:=by rw [<- hv.length];exact hj
     obtain ⟨x,ex,rx⟩:=aS hv hji;rw [AN hj] at ex;cases ex;exact congrArg some (fU I n m (Bg.mp he _ (Bc e1)) (Bg.mp he2 _ (Bc e2)) q1 q2 rx)
    ·rw [C1 (by omega),C1 (by omega)]
 termination_by n=>n
theorem jZ{n:Nat}{f g:Nat->Bool}(h:∀ j,j < n->f j=g j):(List.range n).all f=(List.range n).all g:=by
 rw [Bool.eq_iff_iff,Bg,Bg]
 constructor
 ·intro z x hx;rw [<- h x (BO.mp hx)];exact z x hx
 ·intro z x hx;rw [h x (BO.mp hx)];exact z x hx
def bq(ds es:List D)(j:Nat):Bool:=match ds[j]?,es[j]? with
 | some a,some b=>eqD a b
 | _,_=>true
theorem dj{ds es:List D}:fh (b0 ds) (b0 es)=((List.range (min ds.length es.length)).all (bq ds es)&&ds.length == es.length):=by
 rw [lr,kX,kX]
 congr 1
 refine jZ fun j hj=> ?_
 have h1:j < ds.length:=by omega
 have h2:j < es.length:=by omega
 rw [dE,dE];unfold bq eqD;rw [AN h1,AN h2];rfl
theorem rq(I:Inv X pins σ H s):∀ (n:Nat) {A:Around} {d e:D} {v v':V} {u w:Value},A.units+n < cLine->ac n d=true->ac n e=true->av X.K H d v->av X.K H e v'->aB v u->aB v' w->SeqAt.EqAt A s u w (eqD d e)
 | n,A,d,e,v,v',u,w,hu0,h1,h2,r1,r2,ru,rw'=>by
  have hu:A.units < cLine:=by omega
  have v1:=jF I h1 r1 ru;have v2:=jF I h2 r2 rw';unfold eqD
  cases v1 with
  | non =>
   cases v2 with
   | non=>exact SeqAt.EqAt.same _
   | bl b2=>exact SeqAt.EqAt.none_bool b2
   | int i2 t2=>exact SeqAt.EqAt.none_int i2 t2
   | str x2 t2=>exact SeqAt.EqAt.none_str x2 t2
   | tu hd2 ht2 hv2 hr2 he2=>rw [hd2];exact SeqAt.EqAt.none_tuple ht2 hu
   | li hd2 ht2 hv2 hr2 he2=>rw [hd2];exact SeqAt.EqAt.none_list ht2 hu
  | bl b1 =>
   cases v2 with
   | non=>exact SeqAt.EqAt.bool_none b1
   | bl b2=>exact SeqAt.EqAt.bool_bool b1 b2
   | int i2 t2=>exact SeqAt.EqAt.bool_int b1 i2 t2
   | str x2 t2=>exact SeqAt.EqAt.bool_str b1 x2 t2
   | tu hd2 ht2 hv2 hr2 he2=>rw [hd2];exact SeqAt.EqAt.bool_tuple b1 ht2 hu
   | li hd2 ht2 hv2 hr2 he2=>rw [hd2];exact SeqAt.EqAt.bool_list b1 ht2 hu
  | int i1 t1 =>
   cases v2 with
   | non=>exact SeqAt.EqAt.int_none i1 t1
   | bl b2=>exact SeqAt.EqAt.int_bool i1 t1 b2
   | int i2 t2=>exact SeqAt.EqAt.int_int i1 t1 i2 t2
   | str x2 t2=>exact SeqAt.EqAt.int_str i1 t1 x2 t2
   | tu hd2 ht2 hv2 hr2 he2=>rw [hd2];exact SeqAt.EqAt.int_tuple i1 t1 ht2 hu
   | li hd2 ht2 hv2 hr2 he2=>rw [hd2];exact SeqAt.EqAt.int_list i1 t1 ht2 hu
  | str x1 t1 =>
   cases v2 with
   | non=>exact SeqAt.EqAt.str_none x1 t1
   | bl b2=>exact SeqAt.EqAt.str_bool x1 t1 b2
   | int i2 t2=>exact SeqAt.EqAt.str_int x1 t1 i2 t2
   | str x2 t2=>exact SeqAt.EqAt.str_str x1 t1 x2 t2
   | tu hd2 ht2 hv2 hr2 he2=>rw [hd2];exact SeqAt.EqAt.str_tuple x1 t1 ht2 hu
   | li hd2 ht2 hv2 hr2 he2=>rw [hd2];exact SeqAt.EqAt.str_list x1 t1 ht2 hu
  | @tu n _ ds p xs its hd ht hv hr he =>
   cases v2 with
   | non=>rw [hd];exact SeqAt.EqAt.tuple_none ht hu
   | bl b2=>rw [hd];exact SeqAt.EqAt.tuple_bool b2 ht hu
   | int i2 t2=>rw [hd];exact SeqAt.EqAt.tuple_int i2 t2 ht hu
   | str x2 t2=>rw [hd];exact SeqAt.EqAt.tuple_str x2 t2 ht hu
   | @tu _ _ es q ys jts hd2 ht2 hv2 hr2 he2 =>
    by_cases epq:p=q
    ·subst epq
     have z:nrm d=nrm e:=fU I (n+1) (n+1) h1 h2 r1 r2 rfl;rw [<- z,gf (n+1) h1];exact SeqAt.EqAt.same _
    ·refine SeqAt.EqAt.of_refs epq ?_
     have hhe:∀ j (h1:j < its.toArray.size) (h2:j < jts.toArray.size),SeqAt.EqAt A.in1 s its.toArray[j] jts.toArray[j] (bq ds es j):=fun j h1 h2=>by
      have h1':j < its.length:=by simpa using h1
      have h2':j < jts.length:=by simpa using h2
      obtain ⟨x,ex,rx⟩:=aS hv h1';obtain ⟨y,ey,ry⟩:=aS hv2 h2';obtain ⟨d',e1,q1⟩:=hr.get' ex;obtain ⟨e',e2,q2⟩:=hr2.get' ey;have z:=rq I n (A:=A.in1) (by show A.units+1+n < cLine;omega) (Bg.mp he _ (Bc e1)) (Bg.mp he2 _ (Bc e2)) q1 q2 rx ry
      have e3:bq ds es j=eqD d' e':=by unfold bq;rw [e1,e2]
      rw [e3];simpa using z
     have l1:its.toArray.size=ds.length:=by rw [AW,<- hv.length,<- hr.len]
     have l2:jts.toArray.size=es.length:=by rw [AW,<- hv2.length,<- hr2.len]
     have z:=SeqAt.RcAt.tuples ht ht2 hu hhe;rw [l1,l2] at z;rw [hd,hd2]
     show SeqAt.RcAt A s (.ref p) (.ref q) ((fh (b0 ds) (b0 es)))
     rw [dj];exact z
   | li hd2 ht2 hv2 hr2 he2=>rw [hd,hd2];exact SeqAt.EqAt.tuple_list ht ht2 hu
  | @li n _ ds p xs its hd ht hv hr he =>
   cases v2 with
   | non=>rw [hd];exact SeqAt.EqAt.list_none ht hu
   | bl b2=>rw [hd];exact SeqAt.EqAt.list_bool b2 ht hu
   | int i2 t2=>rw [hd];exact SeqAt.EqAt.list_int i2 t2 ht hu
   | str x2 t2=>rw [hd];exact SeqAt.EqAt.list_str x2 t2 ht hu
   | tu hd2 ht2 hv2 hr2 he2=>rw [hd,hd2];exact SeqAt.EqAt.list_tuple ht ht2 hu
   | @li _ _ es q ys jts hd2 ht2 hv2 hr2 he2 =>
    by_cases epq:p=q
    ·subst epq
     have z:nrm d=nrm e:=fU I (n+1) (n+1) h1 h2 r1 r2 rfl;rw [<- z,gf (n+1) h1];exact SeqAt.EqAt.same _
    ·refine SeqAt.EqAt.of_refs epq ?_
     have hhe:∀ j (h1:j < its.toArray.size) (h2:j < jts.toArray.size),SeqAt.EqAt A.in1 s its.toArray[j] jts.toArray[j] (bq ds es j):=fun j h1 h2=>by
      have h1':j < its.length:=by simpa using h1
      have h2':j < jts.length:=by simpa using h2
      obtain ⟨x,ex,rx⟩:=aS hv h1';obtain ⟨y,ey,ry⟩:=aS hv2 h2';obtain ⟨d',e1,q1⟩:=hr.get' ex;obtain ⟨e',e2,q2⟩:=hr2.get' ey;have z:=rq I n (A:=A.in1) (by show A.units+1+n < cLine;omega) (Bg.mp he _ (Bc e1)) (Bg.mp he2 _ (Bc e2)) q1 q2 rx ry
      have e3:bq ds es j=eqD d' e':=by unfold bq;rw [e1,e2]
      rw [e3];simpa using z
     have l1:its.toArray.size=ds.length:=by rw [AW,<- hv.length,<- hr.len]
     have l2:jts.toArray.size=es.length:=by rw [AW,<- hv2.length,<- hr2.len]
     rw [hd,hd2]
     show SeqAt.RcAt A s (.ref p) (.ref q) ((fh (b0 ds) (b0 es)))
     by_cases hl:ds.length=es.length
     ·have z:=SeqAt.RcAt.lists ht ht2 (by rw [l1,l2];exact hl) hu hhe
      rw [l1] at z;rw [dj,<- hl,Cw,C4,Cb];exact z
     ·have z:=SeqAt.RcAt.lists_lengths ht ht2 (by rw [l1,l2];simpa using hl) hu
      rw [dj,CF.mpr hl,B4];exact z
 termination_by n=>n
theorem rcAt(I:Inv X pins σ H s)(n:Nat){A:Around}{d e:D}{v v':V}{u w:Value}(hu0:A.units+n < cLine)(h1:ac n d=true)(h2:ac n e=true)(r1:av X.K H d v)(r2:av X.K H e v')(ru:aB v u)(rw':aB v' w):SeqAt.RcAt A s u w (eqD d e):=by
 have hu:A.units < cLine:=by omega
 have v1:=jF I h1 r1 ru;have v2:=jF I h2 r2 rw';unfold eqD
 cases v1 with
 | non =>
  cases v2 with
  | non=>exact SeqAt.RcAt.none_none
  | bl b2=>exact SeqAt.RcAt.none_bool b2
  | int i2 t2=>exact SeqAt.RcAt.none_int i2 t2
  | str x2 t2=>exact SeqAt.RcAt.none_str x2 t2
  | tu hd2 ht2 hv2 hr2 he2=>rw [hd2];exact SeqAt.RcAt.none_tuple ht2 hu
  | li hd2 ht2 hv2 hr2 he2=>rw [hd2];exact SeqAt.RcAt.none_list ht2 hu
 | bl b1 =>
  cases v2 with
  | non=>exact SeqAt.RcAt.bool_none b1
  | bl b2=>exact SeqAt.RcAt.bool_bool b1 b2
  | int i2 t2=>exact SeqAt.RcAt.bool_int b1 i2 t2
  | str x2 t2=>exact SeqAt.RcAt.bool_str b1 x2 t2
  | tu hd2 ht2 hv2 hr2 he2=>rw [hd2];exact SeqAt.RcAt.bool_tuple b1 ht2 hu
  | li hd2 ht2 hv2 hr2 he2=>rw [hd2];exact SeqAt.RcAt.bool_list b1 ht2 hu
 | int i1 t1 =>
  cases v2 with
  | non=>exact SeqAt.RcAt.int_none i1 t1
  | bl b2=>exact SeqAt.RcAt.int_bool i1 t1 b2
  | int i2 t2=>exact SeqAt.RcAt.int_int i1 t1 i2 t2
  | str x2 t2=>exact SeqAt.RcAt.int_str i1 t1 x2 t2
  | tu hd2 ht2 hv2 hr2 he2=>rw [hd2];exact SeqAt.RcAt.int_tuple i1 t1 ht2 hu
  | li hd2 ht2 hv2 hr2 he2=>rw [hd2];exact SeqAt.RcAt.int_list i1 t1 ht2 hu
 | str x1 t1 =>
  cases v2 with
  | non=>exact SeqAt.RcAt.str_none x1 t1
  | bl b2=>exact SeqAt.RcAt.str_bool x1 t1 b2
  | int i2 t2=>exact SeqAt.RcAt.str_int x1 t1 i2 t2
  | str x2 t2=>exact SeqAt.RcAt.str_str x1 t1 x2 t2
  | tu hd2 ht2 hv2 hr2 he2=>rw [hd2];exact SeqAt.RcAt.str_tuple x1 t1 ht2 hu
  | li hd2 ht2 hv2 hr2 he2=>rw [hd2];exact SeqAt.RcAt.str_list x1 t1 ht2 hu
 | @tu n _ ds p xs its hd ht hv hr he =>
  cases v2 with
  | non=>rw [hd];exact SeqAt.RcAt.tuple_none ht hu
  | bl b2=>rw [hd];exact SeqAt.RcAt.tuple_bool b2 ht hu
  | int i2 t2=>rw [hd];exact SeqAt.RcAt.tuple_int i2 t2 ht hu
  | str x2 t2=>rw [hd];exact SeqAt.RcAt.tuple_str x2 t2 ht hu
  | @tu _ _ es q ys jts hd2 ht2 hv2 hr2 he2 =>
   have hhe:∀ j (h1:j < its.toArray.size) (h2:j < jts.toArray.size),SeqAt.EqAt A.in1 s its.toArray[j] jts.toArray[j] (bq ds es j):=fun j h1 h2=>by
    have h1':j < its.length:=by simpa using h1
    have h2':j < jts.length:=by simpa using h2
    obtain ⟨x,ex,rx⟩:=aS hv h1';obtain ⟨y,ey,ry⟩:=aS hv2 h2';obtain ⟨d',e1,q1⟩:=hr.get' ex;obtain ⟨e',e2,q2⟩:=hr2.get' ey;have z:=rq I n (A:=A.in1) (by show A.units+1+n < cLine;omega) (Bg.mp he _ (Bc e1)) (Bg.mp he2 _ (Bc e2)) q1 q2 rx ry
    have e3:bq ds es j=eqD d' e':=by unfold bq;rw [e1,e2]
    rw [e3];simpa using z
   have l1:its.toArray.size=ds.length:=by rw [AW,<- hv.length,<- hr.len]
   have l2:jts.toArray.size=es.length:=by rw [AW,<- hv2.length,<- hr2.len]
   have z:=SeqAt.RcAt.tuples ht ht2 hu hhe;rw [l1,l2] at z;rw [hd,hd2]
   show SeqAt.RcAt A s (.ref p) (.ref q) ((fh (b0 ds) (b0 es)))
   rw [dj];exact z
  | li hd2 ht2 hv2 hr2 he2=>rw [hd,hd2];exact SeqAt.RcAt.tuple_list ht ht2 hu
 | @li n _ ds p xs its hd ht hv hr he =>
  cases v2 with
  | non=>rw [hd];exact SeqAt.RcAt.list_none ht hu
  | bl b2=>rw [hd];exact SeqAt.RcAt.list_bool b2 ht hu
  | int i2 t2=>rw [hd];exact SeqAt.RcAt.list_int i2 t2 ht hu
  | str x2 t2=>rw [hd];exact SeqAt.RcAt.list_str x2 t2 ht hu
  | tu hd2 ht2 hv2 hr2 he2=>rw [hd,hd2];exact SeqAt.RcAt.list_tuple ht ht2 hu
  | @li _ _ es q ys jts hd2 ht2 hv2 hr2 he2 =>
   have hhe:∀ j (h1:j < its.toArray.size) (h2:j < jts.toArray.size),SeqAt.EqAt A.in1 s its.toArray[j] jts.toArray[j] (bq ds es j):=fun j h1 h2=>by
    have h1':j < its.length:=by simpa using h1
    have h2':j < jts.length:=by simpa using h2
    obtain ⟨x,ex,rx⟩:=aS hv h1';obtain ⟨y,ey,ry⟩:=aS hv2 h2';obtain ⟨d',e1,q1⟩:=hr.get' ex;obtain ⟨e',e2,q2⟩:=hr2.get' ey;have z:=rq I n (A:=A.in1) (by show A.units+1+n < cLine;omega) (Bg.mp he _ (Bc e1)) (Bg.mp he2 _ (Bc e2)) q1 q2 rx ry
    have e3:bq ds es j=eqD d' e':=by unfold bq;rw [e1,e2]
    rw [e3];simpa using z
   have l1:its.toArray.size=ds.length:=by rw [AW,<- hv.length,<- hr.len]
   have l2:jts.toArray.size=es.length:=by rw [AW,<- hv2.length,<- hr2.len]
   rw [hd,hd2]
   show SeqAt.RcAt A s (.ref p) (.ref q) ((fh (b0 ds) (b0 es)))
   by_cases hl:ds.length=es.length
   ·have z:=SeqAt.RcAt.lists ht ht2 (by rw [l1,l2];exact hl) hu hhe
    rw [l1] at z;rw [dj,<- hl,Cw,C4,Cb];exact z
   ·have z:=SeqAt.RcAt.lists_lengths ht ht2 (by rw [l1,l2];simpa using hl) hu
    rw [dj,CF.mpr hl,B4];exact z
theorem neAt(I:Inv X pins σ H s)(n:Nat){A:Around}{d e:D}{v v':V}{u w:Value}(hu0:A.units+n < cLine)(h1:ac n d=true)(h2:ac n e=true)(r1:av X.K H d v)(r2:av X.K H e v')(ru:aB v u)(rw':aB v' w):SeqAt.RcNeAt A s u w (!(eqD d e)):=by
 have hu:A.units < cLine:=by omega
 have v1:=jF I h1 r1 ru;have v2:=jF I h2 r2 rw';unfold eqD
 cases v1 with
 | non =>
  cases v2 with
  | non=>exact SeqAt.RcNeAt.none_none
  | bl b2=>exact SeqAt.RcNeAt.none_bool b2
  | int i2 t2=>exact SeqAt.RcNeAt.none_int i2 t2
  | str x2 t2=>exact SeqAt.RcNeAt.none_str x2 t2
  | tu hd2 ht2 hv2 hr2 he2=>rw [hd2];exact SeqAt.RcNeAt.none_tuple ht2 hu
  | li hd2 ht2 hv2 hr2 he2=>rw [hd2];exact SeqAt.RcNeAt.none_list ht2 hu
 | bl b1 =>
  cases v2 with
  | non=>exact SeqAt.RcNeAt.bool_none b1
  | bl b2=>exact SeqAt.RcNeAt.bool_bool b1 b2
  | int i2 t2=>exact SeqAt.RcNeAt.bool_int b1 i2 t2
  | str x2 t2=>exact SeqAt.RcNeAt.bool_str b1 x2 t2
  | tu hd2 ht2 hv2 hr2 he2=>rw [hd2];exact SeqAt.RcNeAt.bool_tuple b1 ht2 hu
  | li hd2 ht2 hv2 hr2 he2=>rw [hd2];exact SeqAt.RcNeAt.bool_list b1 ht2 hu
 | int i1 t1 =>
  cases v2 with
  | non=>exact SeqAt.RcNeAt.int_none i1 t1
  | bl b2=>exact SeqAt.RcNeAt.int_bool i1 t1 b2
  | int i2 t2=>exact SeqAt.RcNeAt.int_int i1 t1 i2 t2
  | str x2 t2=>exact SeqAt.RcNeAt.int_str i1 t1 x2 t2
  | tu hd2 ht2 hv2 hr2 he2=>rw [hd2];exact SeqAt.RcNeAt.int_tuple i1 t1 ht2 hu
  | li hd2 ht2 hv2 hr2 he2=>rw [hd2];exact SeqAt.RcNeAt.int_list i1 t1 ht2 hu
 | str x1 t1 =>
  cases v2 with
  | non=>exact SeqAt.RcNeAt.str_none x1 t1
  | bl b2=>exact SeqAt.RcNeAt.str_bool x1 t1 b2
  | int i2 t2=>exact SeqAt.RcNeAt.str_int x1 t1 i2 t2
  | str x2 t2=>exact SeqAt.RcNeAt.str_str x1 t1 x2 t2
  | tu hd2 ht2 hv2 hr2 he2=>rw [hd2];exact SeqAt.RcNeAt.str_tuple x1 t1 ht2 hu
  | li hd2 ht2 hv2 hr2 he2=>rw [hd2];exact SeqAt.RcNeAt.str_list x1 t1 ht2 hu
 | @tu n _ ds p xs its hd ht hv hr he =>
  cases v2 with
  | non=>rw [hd];exact SeqAt.RcNeAt.tuple_none ht hu
  | bl b2=>rw [hd];exact SeqAt.RcNeAt.tuple_bool b2 ht hu
  | int i2 t2=>rw [hd];exact SeqAt.RcNeAt.tuple_int i2 t2 ht hu
  | str x2 t2=>rw [hd];exact SeqAt.RcNeAt.tuple_str x2 t2 ht hu
  | @tu _ _ es q ys jts hd2 ht2 hv2 hr2 he2 =>
   have hhe:∀ j (h1:j < its.toArray.size) (h2:j < jts.toArray.size),SeqAt.EqAt A.in1 s its.toArray[j] jts.toArray[j] (bq ds es j):=fun j h1 h2=>by
    have h1':j < its.length:=by simpa using h1
    have h2':j < jts.length:=by simpa using h2
    obtain ⟨x,ex,rx⟩:=aS hv h1';obtain ⟨y,ey,ry⟩:=aS hv2 h2';obtain ⟨d',e1,q1⟩:=hr.get' ex;obtain ⟨e',e2,q2⟩:=hr2.get' ey;have z:=rq I n (A:=A.in1) (by show A.units+1+n < cLine;omega) (Bg.mp he _ (Bc e1)) (Bg.mp he2 _ (Bc e2)) q1 q2 rx ry
    have e3:bq ds es j=eqD d' e':=by unfold bq;rw [e1,e2]
    rw [e3];simpa using z
   have l1:its.toArray.size=ds.length:=by rw [AW,<- hv.length,<- hr.len]
   have l2:jts.toArray.size=es.length:=by rw [AW,<- hv2.length,<- hr2.len]
   have z:=SeqAt.RcNeAt.tuples ht ht2 hu hhe;rw [l1,l2] at z;rw [hd,hd2]
   show SeqAt.RcNeAt A s (.ref p) (.ref q) (!(fh (b0 ds) (b0 es)))
   rw [dj];exact z
  | li hd2 ht2 hv2 hr2 he2=>rw [hd,hd2];exact SeqAt.RcNeAt.tuple_list ht ht2 hu
 | @li n _ ds p xs its hd ht hv hr he =>
  cases v2 with
  | non=>rw [hd];exact SeqAt.RcNeAt.list_none ht hu
  | bl b2=>rw [hd];exact SeqAt.RcNeAt.list_bool b2 ht hu
  | int i2 t2=>rw [hd];exact SeqAt.RcNeAt.list_int i2 t2 ht hu
  | str x2 t2=>rw [hd];exact SeqAt.RcNeAt.list_str x2 t2 ht hu
  | tu hd2 ht2 hv2 hr2 he2=>rw [hd,hd2];exact SeqAt.RcNeAt.list_tuple ht ht2 hu
  | @li _ _ es q ys jts hd2 ht2 hv2 hr2 he2 =>
   have hhe:∀ j (h1:j < its.toArray.size) (h2:j < jts.toArray.size),SeqAt.EqAt A.in1 s its.toArray[j] jts.toArray[j] (bq ds es j):=fun j h1 h2=>by
    have h1':j < its.length:=by simpa using h1
    have h2':j < jts.length:=by simpa using h2
    obtain ⟨x,ex,rx⟩:=aS hv h1';obtain ⟨y,ey,ry⟩:=aS hv2 h2';obtain ⟨d',e1,q1⟩:=hr.get' ex;obtain ⟨e',e2,q2⟩:=hr2.get' ey;have z:=rq I n (A:=A.in1) (by show A.units+1+n < cLine;omega) (Bg.mp he _ (Bc e1)) (Bg.mp he2 _ (Bc e2)) q1 q2 rx ry
    have e3:bq ds es j=eqD d' e':=by unfold bq;rw [e1,e2]
    rw [e3];simpa using z
   have l1:its.toArray.size=ds.length:=by rw [AW,<- hv.length,<- hr.len]
   have l2:jts.toArray.size=es.length:=by rw [AW,<- hv2.length,<- hr2.len]
   rw [hd,hd2]
   show SeqAt.RcNeAt A s (.ref p) (.ref q) (!(fh (b0 ds) (b0 es)))
   by_cases hl:ds.length=es.length
   ·have z:=SeqAt.RcNeAt.lists ht ht2 (by rw [l1,l2];exact hl) hu hhe
    rw [l1] at z;rw [dj,<- hl,Cw,C4,Cb];exact z
   ·have z:=SeqAt.RcNeAt.lists_lengths ht ht2 (by rw [l1,l2];simpa using hl) hu
    rw [dj,CF.mpr hl,B4];exact z
end
def gEq:List D->Option (D×Bool)
 | [d,e]=>if (ac 9 d&&ac 9 e)=true then some (.bl (eqD d e),false) else none
 | _=>none
def gNe:List D->Option (D×Bool)
 | [d,e]=>if (ac 9 d&&ac 9 e)=true then some (.bl (!(eqD d e)),false) else none
 | _=>none
def rEqD(K:Df):R2:=fun x y H Q=>∃ d e,ac 9 d=true/\ac 9 e=true/\av K H d x/\av K H e y/\Q (.bl (eqD d e)) H
def rNeD(K:Df):R2:=fun x y H Q=>∃ d e,ac 9 d=true/\ac 9 e=true/\av K H d x/\av K H e y/\Q (.bl (!(eqD d e))) H
section
variable{X:Cx}
theorem ww(hu:X.A.units+9 < cLine):OpR X (compareOp .Eq) (rEqD X.K):=by
 intro pins s σ H x y v u Q I rx ry h;obtain ⟨d,e,h1,h2,r1,r2,q⟩:=h;exact rcAt I 9 hu h1 h2 r1 r2 rx ry _ _ _ _ ⟨.bl _,H,I,rfl,q⟩
theorem op_neD(hu:X.A.units+9 < cLine):OpR X (compareOp .NotEq) (rNeD X.K):=by
 intro pins s σ H x y v u Q I rx ry h;obtain ⟨d,e,h1,h2,r1,r2,q⟩:=h;exact neAt I 9 hu h1 h2 r1 r2 rx ry _ _ _ _ ⟨.bl _,H,I,rfl,q⟩
end
theorem aM{K:Df}{H Hh:Hp}{a b:D}{vs:List V}(h:jX K H Hh [a,b] vs):∃ x y,vs=[x,y]/\gM K H Hh a x/\gM K H Hh b y:=by
 match vs,h with
 | [x,y],h=>exact ⟨x,y,rfl,h.1,h.2.1⟩
theorem az{K:Df}{H Hh:Hp}{a:D}{vs:List V}(h:jX K H Hh [a] vs):∃ x,vs=[x]/\gM K H Hh a x:=by
 match vs,h with
 | [x],h=>exact ⟨x,rfl,h.1⟩
theorem AC{K:Df}:OpS K (r2 (rEqD K)) gEq:=by
 intro vs ds H L Q d nw hm r e q
 match ds,e with
 | [a,b],e =>
  obtain ⟨x,y,rfl,ra,rb⟩:=aM r;have e:(if (ac 9 a&&ac 9 b)=true then some (D.bl (eqD a b),false) else none)=some (d,nw):=e
  split at e
  ·rename_i hc
   have hc:=(Bh _ _).mp hc;cases e;exact ⟨a,b,hc.1,hc.2,ra.d am,rb.d am,q _ H (ad.refl _) rfl⟩
  ·cases e
theorem os_ne{K:Df}:OpS K (r2 (rNeD K)) gNe:=by
 intro vs ds H L Q d nw hm r e q
 match ds,e with
 | [a,b],e =>
  obtain ⟨x,y,rfl,ra,rb⟩:=aM r;have e:(if (ac 9 a&&ac 9 b)=true then some (D.bl (!(eqD a b)),false) else none)=some (d,nw):=e
  split at e
  ·rename_i hc
   have hc:=(Bh _ _).mp hc;cases e;exact ⟨a,b,hc.1,hc.2,ra.d am,rb.d am,q _ H (ad.refl _) rfl⟩
  ·cases e
section
variable{X:Cx}
def vU:R2:=fun x y H Q=>∃ a b xs ys,x = .ref a/\y = .ref b/\H a=some (.tup xs)/\H b=some (.tup ys)/\xs.length+ys.length<=sizeLine /\
 ∀ p H',H' p=some (.tup (xs++ys))->ad H H'->Q (.ref p) H'
theorem zd:OpR X (binaryOp .Add) vU:=by
 intro pins s σ H x y v u Q I rx ry h;obtain ⟨a,b,xs,ys,rfl,rfl,ha,hb,hz,q⟩:=h
 by_cases hx:xs=[]
 ·subst hx
  cases rx;cases ry;obtain ⟨its,r1,p1,_⟩:=I.tuple (X:=X) (.inl (.inl ha));obtain ⟨its2,r2,p2,_⟩:=I.tuple (X:=X) (.inl (.inl hb));cases r1;exact zV p1 p2 ⟨.ref b,H,I,rfl,q b H hb (ad.refl H)⟩
 ·refine zc pins s σ H _ _ v u Q I rx ry ⟨a,b,xs,ys,rfl,rfl,.inl (.inl ha),.inl (.inl hb),hx,hz,fun e=> ?_,fun e p hp=> ?_⟩
  ·subst e
   exact q a H (by rw [Cz];exact ha) (ad.refl H)
  ·exact q p _ ao fun c o e'=>by rw [ag (ah e' hp)];exact e'
def rSlD:RSl:=fun x lo hi H Q=>∃ a xs,x = .ref a/\H a=some (.tup xs)/\∀ p H',H' p=some (.tup (lx xs lo hi))->ad H H'->Q (.ref p) H'
theorem yi:SlR X rSlD:=by
 intro pins s σ H x v vl vu lo hi sl Q I rx hs pl pu h;obtain ⟨a,xs,rfl,hx,q⟩:=h
 by_cases hw:HT.sIx xs.length 0 lo=0/\HT.sIx xs.length xs.length hi=xs.length
 ·cases rx
  obtain ⟨its,r,ht,hz⟩:=I.tuple (X:=X) (.inl (.inl hx))
  have hlen:its.toArray.size=xs.length:=by rw [AW];exact r.length.symm
  refine ⟨"tuple",_,PyProof.Rows.slot_tuple_getitem.lookup,ht.typeIs,?_⟩;refine HT.gK ht hs pl pu (by rw [hlen];exact hw) ⟨.ref a,H,I,rfl,q a H ?_ (ad.refl H)⟩
  have:lx xs lo hi=xs:=by
   unfold lx;rw [hw.1,hw.2,List.drop_zero,Nat.sub_zero,List.take_length]
  rw [this];exact hx
 ·exact sl_tup pins s σ H _ v vl vu lo hi sl Q I rx hs pl pu ⟨a,xs,rfl,.inl (.inl hx),hw,fun p hp=>q p _ ao (ad.upd hp)⟩
end
def small(n:Nat):Bool:=decide (n<=1000000)
theorem fN{n:Nat}(h:small n=true):n<=sizeLine:=B5 (A6 h) (by decide)
theorem km{n:Nat}(h:small n=true):n < sizeLine:=Nat.lt_of_le_of_lt (A6 h) (by decide)
def qf(xs:List D)(lo hi:Option Int):List D:=(xs.drop (HT.sIx xs.length 0 lo)).take (HT.sIx xs.length xs.length hi - HT.sIx xs.length 0 lo)
theorem ae.cut{K:Df}{H:Hp}{ds:List D}{xs:List V}(h:ae K H ds xs)(lo hi:Option Int):ae K H (qf ds lo hi) (lx xs lo hi):=by
 unfold qf lx;rw [h.len];exact (h.drop _).take _
def jM(a b:Int):Bool:=decide (-(2 ^ 64) < a/\a < 2 ^ 64)||decide (-(2 ^ 64) < b/\b < 2 ^ 64)
def ay:List D->Option (D×Bool)
 | [.int a,.int b]=>some (.int (a+b),false)
 | [.lst a,.lst b]=>if small (a.length+b.length)=true then some (.lst (a++b),true) else none
 | [.tup a,.tup b]=>if small (a.length+b.length)=true then some (.tup (a++b),false) else none
 | _=>none
def bG:List D->Option (D×Bool)
 | [.int a,.int b]=>some (.int (a - b),false)
 | _=>none
def repL(n:Nat)(l:List D):List D:=(List.replicate n l).flatten
def cC:List D->Option (D×Bool)
 | [.int a,.int b]=>if jM a b=true then some (.int (a * b),false) else none
 | [.lst a,.int k]=>if (decide (-1000000<=k/\k<=1000000)&&small (a.length * k.toNat))=true then some (.lst (repL k.toNat a),true) else none
 | _=>none
def dI:List D->Option (D×Bool)
 | [.int a,.int b]=>if decide (0 < b/\b < 1073741824)=true then some (.int (a / b),false) else none
 | _=>none
def ff:List D->Option (D×Bool)
 | [.int a,.int b]=>if decide (0 < b)=true then some (.int (a % b),false) else none
 | _=>none
def w8:List D->Option (D×Bool)
 | [.int a,.int b]=>if decide (0<=b/\b<=1000000/\a.natAbs < 2 ^ 64)=true then some (.int (a ^ b.toNat),false) else none
 | _=>none
def aN:List D->Option (List Int)
 | []=>some []
 | .int i::ds=>match aN ds with
  | some l=>some (i::l)
  | none=>none
 | _=>none
def gQ:List D->Option (List Bool)
 | []=>some []
 | .bl i::ds=>match gQ ds with
  | some l=>some (i::l)
  | none=>none
 | _=>none
theorem aV:∀ {ds:List D} {l:List Int},aN ds=some l->ds=l.map D.int
 | [],l,h=>by unfold aN at h;cases h;rfl
 | d::ds,l,h=>by
  cases d<;>first | (unfold aN at h;cases h;done) | skip
  unfold aN at h
  cases e:aN ds with
  | none=>rw [e] at h;cases h
  | some l'=>rw [e] at h;cases h;rw [aV e];rfl
theorem bz(l:List Int):aN (l.map D.int)=some l:=by
 induction l with
 | nil=>rfl
 | cons i l ih=>rw [A4];unfold aN;rw [ih]
theorem qo:∀ {ds:List D} {l:List Bool},gQ ds=some l->ds=l.map D.bl
 | [],l,h=>by unfold gQ at h;cases h;rfl
 | d::ds,l,h=>by
  cases d<;>first | (unfold gQ at h;cases h;done) | skip
  unfold gQ at h
  cases e:gQ ds with
  | none=>rw [e] at h;cases h
  | some l'=>rw [e] at h;cases h;rw [qo e];rfl
theorem uO(l:List Bool):gQ (l.map D.bl)=some l:=by
 induction l with
 | nil=>rfl
 | cons i l ih=>rw [A4];unfold gQ;rw [ih]
def gLt:List D->Option (D×Bool)
 | [.int a,.int b]=>some (.bl (decide (a < b)),false)
 | _=>none
def gLe:List D->Option (D×Bool)
 | [.int a,.int b]=>some (.bl (decide (a<=b)),false)
 | _=>none
def gGt:List D->Option (D×Bool)
 | [.int a,.int b]=>some (.bl (decide (b < a)),false)
 | _=>none
def gGe:List D->Option (D×Bool)
 | [.int a,.int b]=>some (.bl (decide (b<=a)),false)
 | _=>none
section
variable{K:Df}
theorem bN{H Hh:Hp}{i:Int}{v:V}(r:gM K H Hh (.int i) v):v = .int i:=r
theorem yq{H Hh:Hp}{i:Bool}{v:V}(r:gM K H Hh (.bl i) v):v = .bl i:=r
theorem bS{H:Hp}{L:List Addr}{ds:List D}{xs:List V}(r:ae K (hid L H) ds xs){p:Addr}(hp:H p=none):gz K H (upd H p (.lst xs)) L (.lst ds) true (.ref p) :=
 ⟨p,rfl,hp,xs,ao,(aI (fun b hb=>(A9.mp hb).elim (fun z=> .inr (by rw [z];exact hp)) .inl) fun b o _ e=>ad.upd hp b o e:ad (hid L H) _).repDs r⟩
theorem iU{H H':Hp}{L:List Addr}{ds:List D}{xs:List V}(hm:∀ p∈L,dO (H p))(r:ae K (hid L H) ds xs){p:Addr}(s:ad H H')(hp:H' p=some (.tup xs)):gz K H H' L (.tup ds) false (.ref p):=by
 refine ⟨p,xs,rfl,?_,(aI (fun b hb=> .inl hb) fun b o _ e=>s b o e:ad (hid L H) _).repDs r⟩;rw [aA (fun z=> ?_)]
 ·exact hp
 ·obtain ⟨u,q⟩:=(hm p z).some
  have e:=s p u q;rw [hp] at e;cases e;have:=hm p z;rw [q] at this;exact this
theorem os_add:OpS K (r2 fun x y H Q=>rI0 (fun i j=> .int (i+j)) x y H Q\/rCat x y H Q\/vU x y H Q) ay:=by
 intro vs ds H L Q d nw hm r e q;unfold ay at e
 split at e
 ·obtain ⟨x,y,rfl,ra,rb⟩:=aM r
  cases e;exact .inl ⟨_,_,ra,rb,q _ H (ad.refl _) rfl⟩
 ·obtain ⟨x,y,rfl,⟨p,xs,rfl,h1,h2⟩,⟨p',ys,rfl,h3,h4⟩⟩:=aM r
  split at e
  ·rename_i hs
   cases e;refine .inr (.inl ⟨p,p',xs,ys,rfl,rfl,h1,h3,fN (by rw [<- h2.len,<- h4.len];exact hs),fun l hl=>q _ _ (ad.upd hl) (bS (h2.app h4) hl)⟩)
  ·cases e
 ·obtain ⟨x,y,rfl,⟨p,xs,rfl,h1,h2⟩,⟨p',ys,rfl,h3,h4⟩⟩:=aM r
  split at e
  ·rename_i hs
   cases e;exact .inr (.inr ⟨p,p',xs,ys,rfl,rfl,(ai h1).2,(ai h3).2,fN (by rw [<- h2.len,<- h4.len];exact hs),fun l H' hl s=>q _ _ s (iU hm (h2.app h4) s hl)⟩)
  ·cases e
 ·cases e
theorem os_sub:OpS K (r2 (rI0 fun i j=> .int (i - j))) bG:=by
 intro vs ds H L Q d nw hm r e q;unfold bG at e
 split at e
 ·obtain ⟨x,y,rfl,ra,rb⟩:=aM r
  cases e;exact ⟨_,_,ra,rb,q _ H (ad.refl _) rfl⟩
 ·cases e
theorem oX:∀ {H:Hp} {ds:List D} {xs:List V} (n:Nat),ae K H ds xs->ae K H (repL n ds) (List.replicate n xs).flatten
 | _,_,_,0,_=>trivial
 | _,_,_,n+1,h=>by
  unfold repL;rw [B2,B2,Cj,Cj];exact h.app (oX n h)
theorem os_mul:OpS K (r2 fun x y H Q=>rI xO (fun i j=> .int (i * j)) x y H Q\/rRep x y H Q) cC:=by
 intro vs ds H L Q d nw hm r e q;unfold cC at e
 split at e
 ·obtain ⟨x,y,rfl,ra,rb⟩:=aM r
  split at e
  ·rename_i hs
   cases e;refine .inl ⟨_,_,ra,rb,?_,q _ H (ad.refl _) rfl⟩
   rcases (Bool.or_eq_true _ _).mp hs with z | z
   ·exact .inl (A6 z)
   ·exact .inr (A6 z)
  ·cases e
 ·rename_i a k
  obtain ⟨x,y,rfl,⟨p,xs,rfl,h1,h2⟩,rb⟩:=aM r
  split at e
  ·rename_i hs
   cases e;have hs:=(Bh _ _).mp hs;have hb:=A6 hs.1;refine .inr ⟨p,k,xs,rfl,rb,h1,by omega,by omega,?_,fun l hl=>q _ _ (ad.upd hl) (bS (oX k.toNat h2) hl)⟩;rw [<- h2.len];exact fN hs.2
  ·cases e
 ·cases e
theorem yX:OpS K (r2 (rI CDiv fun i j=> .int (i / j))) dI:=by
 intro vs ds H L Q d nw hm r e q;unfold dI at e
 split at e
 ·obtain ⟨x,y,rfl,ra,rb⟩:=aM r
  split at e
  ·rename_i hs
   cases e;exact ⟨_,_,ra,rb,(by have z:=A6 hs;exact z),q _ H (ad.refl _) rfl⟩
  ·cases e
 ·cases e
theorem os_mod:OpS K (r2 (rI (fun _ j=>0 < j) fun i j=> .int (i % j))) ff:=by
 intro vs ds H L Q d nw hm r e q;unfold ff at e
 split at e
 ·obtain ⟨x,y,rfl,ra,rb⟩:=aM r
  split at e
  ·rename_i hs
   cases e;exact ⟨_,_,ra,rb,A6 hs,q _ H (ad.refl _) rfl⟩
  ·cases e
 ·cases e
theorem os_pow:OpS K (r2 (rI CPow fun i j=> .int (i ^ j.toNat))) w8:=by
 intro vs ds H L Q d nw hm r e q;unfold w8 at e
 split at e
 ·obtain ⟨x,y,rfl,ra,rb⟩:=aM r
  split at e
  ·rename_i hs
   cases e;exact ⟨_,_,ra,rb,(by have z:=A6 hs;exact z),q _ H (ad.refl _) rfl⟩
  ·cases e
 ·cases e
theorem os_lt:OpS K (r2 (rI0 fun i j=> .bl (decide (i < j)))) gLt:=by
 intro vs ds H L Q d nw hm r e q;unfold gLt at e
 split at e
 ·obtain ⟨x,y,rfl,ra,rb⟩:=aM r
  cases e;exact ⟨_,_,ra,rb,q _ H (ad.refl _) rfl⟩
 ·cases e
theorem AB:OpS K (r2 (rI0 fun i j=> .bl (decide (i<=j)))) gLe:=by
 intro vs ds H L Q d nw hm r e q;unfold gLe at e
 split at e
 ·obtain ⟨x,y,rfl,ra,rb⟩:=aM r
  cases e;exact ⟨_,_,ra,rb,q _ H (ad.refl _) rfl⟩
 ·cases e
theorem os_gt:OpS K (r2 (rI0 fun i j=> .bl (decide (j < i)))) gGt:=by
 intro vs ds H L Q d nw hm r e q;unfold gGt at e
 split at e
 ·obtain ⟨x,y,rfl,ra,rb⟩:=aM r
  cases e;exact ⟨_,_,ra,rb,q _ H (ad.refl _) rfl⟩
 ·cases e
theorem os_ge:OpS K (r2 (rI0 fun i j=> .bl (decide (j<=i)))) gGe:=by
 intro vs ds H L Q d nw hm r e q;unfold gGe at e
 split at e
 ·obtain ⟨x,y,rfl,ra,rb⟩:=aM r
  cases e;exact ⟨_,_,ra,rb,q _ H (ad.refl _) rfl⟩
 ·cases e
end
def gIx:List D->Option (D×Bool)
 | [.lst ds,.int i]=>match atI ds i with
  | some d=>some (d,false)
  | none=>none
 | [.klst ds,.int i]=>match atI ds i with
  | some d=>some (d,false)
  | none=>none
 | [.tup ds,.int i]=>match atI ds i with
  | some d=>some (d,false)
  | none=>none
 | [.ktup ds,.int i]=>match atI ds i with
  | some d=>some (d,false)
  | none=>none
 | _=>none
def gSl(lo hi:Option Int):D->Option (D×Bool)
 | .lst ds=>some (.lst (qf ds lo hi),true)
 | .klst ds=>some (.lst (qf ds lo hi),true)
 | .tup ds=>some (.tup (qf ds lo hi),false)
 | _=>none
def wZ:List D->Option (D×Bool)
 | [d,.int i]=>gSl (some i) none d
 | _=>none
def zE(i j:Int):List D->Option (D×Bool)
 | [d]=>gSl (some i) (some j) d
 | _=>none
def yD(K:Df):RSl:=fun x lo hi H Q=>rSlL K x lo hi H Q\/rSlD x lo hi H Q
section
variable{K:Df}
theorem oq{H:Hp}{ds:List D}{xs:List V}{i:Int}{d:D}(r:ae K H ds xs)(e:atI ds i=some d):∃ v,atI xs i=some v/\av K H d v:=by
 unfold atI at e ⊢;rw [<- r.len]
 cases h:ixN ds.length i with
 | none=>rw [h] at e;cases e
 | some j =>
  rw [h] at e;obtain ⟨x,e1,e2⟩:=r.get (show ds[j]?=some d from e);exact ⟨x,e1,e2⟩
theorem os_ix:OpS K (r2 (rIx K)) gIx:=by
 intro vs ds H L Q d nw hm r e q;unfold gIx at e
 split at e
 ·rename_i es i
  obtain ⟨x,y,rfl,⟨p,xs,rfl,h1,h2⟩,rb⟩:=aM r
  cases ea:atI es i with
  | none=>rw [ea] at e;cases e
  | some d' =>
   rw [ea] at e;cases e;obtain ⟨v,e1,e2⟩:=oq h2 ea;exact .inl ⟨p,xs,i,v,rfl,rb,.inl (.inl h1),e1,q v H (ad.refl _) e2⟩
 ·rename_i es i
  obtain ⟨x,y,rfl,⟨p,xs,rfl,h1,h2⟩,rb⟩:=aM r
  cases ea:atI es i with
  | none=>rw [ea] at e;cases e
  | some d' =>
   rw [ea] at e;cases e;obtain ⟨v,e1,e2⟩:=oq h2 ea;exact .inl ⟨p,xs,i,v,rfl,rb,am.seq h1,e1,q v H (ad.refl _) e2⟩
 ·rename_i es i
  obtain ⟨x,y,rfl,⟨p,xs,rfl,h1,h2⟩,rb⟩:=aM r
  cases ea:atI es i with
  | none=>rw [ea] at e;cases e
  | some d' =>
   rw [ea] at e;cases e;obtain ⟨v,e1,e2⟩:=oq h2 ea;exact .inr (.inl ⟨p,xs,i,v,rfl,rb,.inl (.inl (ai h1).2),e1,q v H (ad.refl _) e2⟩)
 ·rename_i es i
  obtain ⟨x,y,rfl,⟨p,xs,rfl,h1,h2⟩,rb⟩:=aM r
  cases ea:atI es i with
  | none=>rw [ea] at e;cases e
  | some d' =>
   rw [ea] at e;cases e;obtain ⟨v,e1,e2⟩:=oq h2 ea;exact .inr (.inl ⟨p,xs,i,v,rfl,rb,dS h1,e1,q v H (ad.refl _) e2⟩)
 ·cases e
theorem Aq{H:Hp}{L:List Addr}{lo hi:Option Int}{x:V}{c d:D}{nw:Bool}{Q:VK}(hm:∀ p∈L,dO (H p))(r:gM K H (hid L H) c x)(e:gSl lo hi c=some (d,nw))(q:∀ v H',ad H H'->gz K H H' L d nw v->Q v H'):yD K x lo hi H Q:=by
 unfold gSl at e
 split at e
 ·obtain ⟨p,xs,rfl,h1,h2⟩:=r
  cases e;exact .inl ⟨p,xs,rfl,.inl (.inl h1),fun l hl=>q _ _ (ad.upd hl) (bS (h2.cut lo hi) hl)⟩
 ·obtain ⟨p,xs,rfl,h1,h2⟩:=r
  cases e;exact .inl ⟨p,xs,rfl,am.seq h1,fun l hl=>q _ _ (ad.upd hl) (bS (h2.cut lo hi) hl)⟩
 ·obtain ⟨p,xs,rfl,h1,h2⟩:=r
  cases e;exact .inr ⟨p,xs,rfl,(ai h1).2,fun l H' hl s=>q _ _ s (iU hm (h2.cut lo hi) s hl)⟩
 ·cases e
theorem os_s10:OpS K (rS10 (yD K)) wZ:=by
 intro vs ds H L Q d nw hm r e q;unfold wZ at e
 split at e
 ·obtain ⟨x,y,rfl,ra,rb⟩:=aM r
  exact ⟨_,rb,Aq hm ra e q⟩
 ·cases e
theorem os_s11{i j:Int}:OpS K (rS11 (yD K) i j) (zE i j):=by
 intro vs ds H L Q d nw hm r e q;unfold zE at e
 split at e
 ·obtain ⟨x,rfl,ra⟩:=az r
  exact ⟨i,rfl,j,rfl,Aq hm ra e q⟩
 ·cases e
end
section
variable{X:Cx}
theorem ze:OpR X (binaryOp .Add) (fun x y H Q=>rI0 (fun i j=> .int (i+j)) x y H Q\/rCat x y H Q\/vU x y H Q):=op_add.or (op_cat.or zd)
theorem yZ:OpR X (binaryOp .Mult) (fun x y H Q=>rI xO (fun i j=> .int (i * j)) x y H Q\/rRep x y H Q):=op_mul.or op_rep
theorem vw:SlR X (yD X.K):=yj.or yi
end
def ins(x:Int):List Int->List Int
 | []=>[x]
 | y::l=>if x<=y then x::y::l else y::ins x l
def aC:List Int->List Int
 | []=>[]
 | x::l=>ins x (aC l)
theorem iW(x:Int):∀ l:List Int,(ins x l).Perm (x::l)
 | []=> .refl _
 | y::l=>by
  unfold ins
  split
  ·exact .refl _
  ·exact ((iW x l).cons y).trans (.swap x y l)
theorem aX:∀ l:List Int,(aC l).Perm l
 | []=> .refl _
 | x::l=>(iW x _).trans ((aX l).cons x)
theorem ik(x:Int):∀ {l:List Int},l.Pairwise (·<= ·)->(ins x l).Pairwise (·<= ·)
 | [],_=>by unfold ins;simp
 | y::l,h=>by
  unfold ins;have hy:=Bz.mp h
  split
  ·rename_i hxy
   exact Bz.mpr ⟨fun z hz=>(A9.mp hz).elim (fun e=>e ▸ hxy) fun hz=>Int.le_trans hxy (hy.1 z hz),h⟩
  ·rename_i hxy
   refine Bz.mpr ⟨fun z hz=> ?_,ik x hy.2⟩
   rcases A9.mp ((iW x l).mem_iff.mp hz) with e | hz
   ·rw [e];omega
   ·exact hy.1 z hz
theorem bT:∀ l:List Int,(aC l).Pairwise (·<= ·)
 | []=> .nil
 | x::l=>ik x (bT l)
theorem bg:∀ {a b:List Int},a.Pairwise (·<= ·)->b.Pairwise (·<= ·)->a.Perm b->a=b
 | [],b,_,_,h=>(h.symm.eq_nil).symm ▸ rfl
 | x::a,[],_,_,h=>absurd h.eq_nil (by simp)
 | x::a,y::b,h1,h2,h=>by
  have g1:=Bz.mp h1;have g2:=Bz.mp h2
  have e:x=y:=by
   have m1:x∈y::b:=h.mem_iff.mp AY;have m2:y∈x::a:=h.mem_iff.mpr AY;have l1:y<=x:=(A9.mp m1).elim (fun e=>e ▸ Int.le_refl _) (g2.1 x);have l2:x<=y:=(A9.mp m2).elim (fun e=>e ▸ Int.le_refl _) (g1.1 y);omega
  subst e;rw [bg g1.2 g2.2 h.cons_inv]
def dQ:List Int->Int
 | []=>0
 | [x]=>x
 | x::y::l=>if dQ (y::l)<=x then x else dQ (y::l)
def fG:List Int->Int
 | []=>0
 | [x]=>x
 | x::y::l=>if x<=fG (y::l) then x else fG (y::l)
theorem gB:∀ {l:List Int},l≠[]->dQ l∈l/\∀ a∈l,a<=dQ l
 | [],h=>absurd rfl h
 | [x],_=>by unfold dQ;simp
 | x::y::l,_=>by
  obtain ⟨h1,h2⟩:=gB (l:=y::l) (by simp);unfold dQ
  split
  ·rename_i hx
   exact ⟨AY,fun a ha=>(A9.mp ha).elim (fun e=>e ▸ Int.le_refl _) fun ha=>Int.le_trans (h2 a ha) hx⟩
  ·rename_i hx
   exact ⟨AV _ h1,fun a ha=>(A9.mp ha).elim (fun e=>by rw [e];omega) (h2 a)⟩
theorem iV:∀ {l:List Int},l≠[]->fG l∈l/\∀ a∈l,fG l<=a
 | [],h=>absurd rfl h
 | [x],_=>by unfold fG;simp
 | x::y::l,_=>by
  obtain ⟨h1,h2⟩:=iV (l:=y::l) (by simp);unfold fG
  split
  ·rename_i hx
   exact ⟨AY,fun a ha=>(A9.mp ha).elim (fun e=>e ▸ Int.le_refl _) fun ha=>Int.le_trans hx (h2 a ha)⟩
  ·rename_i hx
   exact ⟨AV _ h1,fun a ha=>(A9.mp ha).elim (fun e=>by rw [e];omega) (h2 a)⟩
def dd(ns:List Int):List Int:=ns.foldl step_dedup []
theorem pH(ns:List Int):St2.dF ns ns.length=dd ns:=by
 unfold St2.dF firstMet dd
 congr 1
 apply BM
 ·simp
 ·intro i h1 h2
  simp [h2]
theorem dd_any(ns:List Int)(x:Int):(dd ns).any (·== x)=true↔x∈ns:=by rw [<- pH];exact St3.jz ns x
theorem jD(ns:List Int)(x:Int):x∈dd ns↔x∈ns:=by
 rw [<- dd_any ns x];simp
section
variable{X:Cx}
def qF(K:Df):List V->Hp->VK->Prop:=fun xs H Q=>∃ (p:Addr) (ns:List Int),xs=[V.ref p]/\SqT K H p (ns.map V.int)/\ns.length<=1000 /\
 ∀ l S,H l=none->(∀ x,S x=true↔x∈ns)->Q (.ref l) (upd H l (.set S (St2.dF ns ns.length).length))
theorem rF(hc:X.calm=true):aw X (.type "set") (qF X.K):=by
 intro pins s σ H xs us Q I r h;obtain ⟨p,ns,rfl,hq,hn,q⟩:=h;obtain ⟨u,rfl,ru⟩:=bn r;cases ru;obtain ⟨its,rv,pt,_⟩:=I.tuple hq
 have ln:its.length=ns.length:=by rw [<- rv.length,AO]
 refine St2.tj (ns:=ns) (I.ok.hd hc) pt (by simpa using cf rv) (by rw [AW,ln];unfold scanBound;omega) fun h' tk st kp=> ?_
 have sz:its.toArray.size=ns.length:=by rw [AW,ln]
 rw [sz] at st;have hf:H s.heap.objs.size=none:=I.hok.fresh (A8 _);exact ⟨.ref s.heap.objs.size,_,I.laid (o:= .set _ _) (fun b o e=>kp b o (A5 e) e) (A8 _) st,rfl,q _ _ hf (St3.jz ns)⟩
end
def bH:List D->Option (D×Bool)
 | [.lst ds]=>some (.int ds.length,false)
 | [.klst ds]=>some (.int ds.length,false)
 | [.tup ds]=>some (.int ds.length,false)
 | [.ktup ds]=>some (.int ds.length,false)
 | [.dK ks _]=>some (.int ks.length,false)
 | [.dT ks _]=>some (.int ks.length,false)
 | [.set l]=>if decide (l.length<=1000)=true then some (.int l.length,false) else none
 | _=>none
def Ax(X:Cx):List V->Hp->VK->Prop:=fun xs H Q=>(∃ p ys,xs=[V.ref p]/\(SqL X.K H p ys\/SqT X.K H p ys)/\Q (.int ys.length) H)\/(∃ a kvs,xs=[V.ref a]/\H a=some (.dK kvs)/\Q (.int kvs.length) H)\/(∃ a kvs,xs=[V.ref a]/\H a=some (.dT kvs)/\Q (.int kvs.length) H)\/sr xs H Q
theorem uI{X:Cx}:aw X (.builtin "len") (Ax X):=oj.or (uH.or (uG.or ql))
theorem os_len{X:Cx}:OpS X.K (Ax X) bH:=by
 intro vs ds H L Q d nw hm r e q;unfold bH at e
 split at e
 ·obtain ⟨x,rfl,⟨p,xs,rfl,h1,h2⟩⟩:=az r
  cases e;exact .inl ⟨p,xs,rfl,.inl (.inl (.inl h1)),by rw [<- h2.len];exact q _ H (ad.refl _) rfl⟩
 ·obtain ⟨x,rfl,⟨p,xs,rfl,h1,h2⟩⟩:=az r
  cases e;exact .inl ⟨p,xs,rfl,.inl (am.seq h1),by rw [<- h2.len];exact q _ H (ad.refl _) rfl⟩
 ·obtain ⟨x,rfl,⟨p,xs,rfl,h1,h2⟩⟩:=az r
  cases e;exact .inl ⟨p,xs,rfl,.inr (.inl (.inl (ai h1).2)),by rw [<- h2.len];exact q _ H (ad.refl _) rfl⟩
 ·obtain ⟨x,rfl,⟨p,xs,rfl,h1,h2⟩⟩:=az r
  cases e;exact .inl ⟨p,xs,rfl,.inr (dS h1),by rw [<- h2.len];exact q _ H (ad.refl _) rfl⟩
 ·rename_i ks vs'
  obtain ⟨x,rfl,⟨p,xs,rfl,h1,h2,h3⟩⟩:=az r;cases e;exact .inr (.inl ⟨p,_,rfl,h1,by rw [Cc,<- h2,Cw];exact q _ H (ad.refl _) rfl⟩)
 ·rename_i ks vs'
  obtain ⟨x,rfl,⟨p,xs,rfl,h1,h2,h3⟩⟩:=az r;cases e;exact .inr (.inr (.inl ⟨p,_,rfl,h1,by rw [Cc,<- h2,Cw];exact q _ H (ad.refl _) rfl⟩))
 ·obtain ⟨x,rfl,⟨p,S,rfl,h1,h2⟩⟩:=az r
  split at e
  ·rename_i hl
   cases e;exact .inr (.inr (.inr ⟨p,S,_,rfl,(ai h1).2,A6 hl,q _ H (ad.refl _) rfl⟩))
  ·cases e
 ·cases e
def qY:List D->Option (D×Bool)
 | [.lst ds]=>match aN ds with
  | some ns=>some (.int ns.sum,false)
  | none=>none
 | [.tup ds]=>match aN ds with
  | some ns=>some (.int ns.sum,false)
  | none=>none
 | _=>none
theorem uu{X:Cx}(hc:X.calm=true):aw X (.builtin "sum") (fun xs H Q=>vO X.K xs H Q\/vN X.K xs H Q):=(ut hc).or (ur hc)
theorem os_sum{K:Df}:OpS K (fun xs H Q=>vO K xs H Q\/vN K xs H Q) qY:=by
 intro vs ds H L Q d nw hm r e q;unfold qY at e
 split at e
 ·rename_i es
  obtain ⟨x,rfl,⟨p,xs,rfl,h1,h2⟩⟩:=az r
  cases en:aN es with
  | none=>rw [en] at e;cases e
  | some ns =>
   rw [en] at e;cases e;rw [aV en] at h2;rw [aP h2] at h1;exact .inl ⟨p,ns,rfl,.inl (.inl h1),q _ H (ad.refl _) rfl⟩
 ·rename_i es
  obtain ⟨x,rfl,⟨p,xs,rfl,h1,h2⟩⟩:=az r
  cases en:aN es with
  | none=>rw [en] at e;cases e
  | some ns =>
   rw [en] at e;cases e;rw [aV en] at h2;rw [aP h2] at h1;exact .inr ⟨p,ns,rfl,.inl (.inl (ai h1).2),q _ H (ad.refl _) rfl⟩
 ·cases e
def nU:List D->Option (D×Bool)
 | [.lst ds]=>match gQ ds with
  | some bs=>some (.bl (bs.all id),false)
  | none=>none
 | _=>none
def Az(K:Df):List V->Hp->VK->Prop:=fun xs H Q=>∃ (p:Addr) (bs:List Bool),xs=[V.ref p]/\SqL K H p (bs.map V.bl)/\Q (.bl (bs.all id)) H
theorem uL{X:Cx}(hc:X.calm=true):aw X (.builtin "all") (Az X.K):=xF hc
theorem os_all{K:Df}:OpS K (Az K) nU:=by
 intro vs ds H L Q d nw hm r e q;unfold nU at e
 split at e
 ·rename_i es
  obtain ⟨x,rfl,⟨p,xs,rfl,h1,h2⟩⟩:=az r
  cases en:gQ es with
  | none=>rw [en] at e;cases e
  | some ns =>
   rw [en] at e;cases e;rw [qo en] at h2;rw [mO h2] at h1;exact ⟨p,ns,rfl,.inl (.inl h1),q _ H (ad.refl _) rfl⟩
 ·cases e
def tyD:D->Option String
 | .non=>some "NoneType"
 | .bl _=>some "bool"
 | .int _=>some "int"
 | .str _=>some "str"
 | .lst _=>some "list"
 | .klst _=>some "list"
 | .tup _=>some "tuple"
 | .ktup _=>some "tuple"
 | .dK _ _=>some "dict"
 | .dT _ _=>some "dict"
 | _=>none
def ip(C:String):List D->Option (D×Bool)
 | [d]=>match tyD d with
  | some T=>some (.bl (zv T C),false)
  | none=>none
 | _=>none
theorem u5{K:Df}{H Hh:Hp}{d:D}{v:V}{T:String}(r:gM K H Hh d v)(s:ad Hh H)(e:tyD d=some T):AE K H T v:=by
 cases d<;>first
  | (unfold tyD at e;cases e;done)
  | (unfold tyD at e;cases e;have r:v=_:=r;subst r;rfl)
  | (unfold tyD at e;cases e;obtain ⟨p,xs,rfl,h1,h2,h3⟩:=r;exact .inr (.inr ⟨rfl,.inl ⟨_,h1⟩⟩))
  | (unfold tyD at e;cases e;obtain ⟨p,xs,rfl,h1,h2,h3⟩:=r;exact .inr (.inr ⟨rfl,.inr ⟨_,h1⟩⟩))
  | (unfold tyD at e;cases e;obtain ⟨p,xs,rfl,h1,h2⟩:=r;exact .inr (.inl ⟨rfl,xs,.inl (.inl (s _ _ h1))⟩))
  | (unfold tyD at e;cases e;obtain ⟨p,xs,rfl,h1,h2⟩:=r;exact .inr (.inl ⟨rfl,xs,dS h1⟩))
  | (unfold tyD at e;cases e;obtain ⟨p,xs,rfl,h1,h2⟩:=r;exact .inl ⟨rfl,xs,.inl (.inl h1)⟩)
  | (unfold tyD at e;cases e;obtain ⟨p,xs,rfl,h1,h2⟩:=r;exact .inl ⟨rfl,xs,s.seq h1⟩)
def rIsiC(K:Df)(C:String):List V->Hp->VK->Prop
 | [x],H,Q=>rIsi K [x,.ty C] H Q
 | _,_,_=>False
theorem os_isi{K:Df}{C:String}(hC:isiC C):OpS K (rIsiC K C) (ip C):=by
 intro vs ds H L Q d nw hm r e q;unfold ip at e
 split at e
 ·rename_i c
  obtain ⟨x,rfl,ra⟩:=az r
  cases et:tyD c with
  | none=>rw [et] at e;cases e
  | some T =>
   rw [et] at e;cases e;exact ⟨x,T,C,rfl,hC,u5 ra am et,q _ H (ad.refl _) rfl⟩
 ·cases e
theorem xG{X:Cx}{EX:EXT}{e:Expr}{a:Arg}{C:String}{nC:Str}{p1 p2 pos:Pos}(hC:isiC C)(he:JB X EX e a)(g1:Gl X "isinstance")(m1:X.mg "isinstance" = none)(g2:Gl X nC)(m2:X.mg nC=none)(b2:bootBuiltins nC=some (.type C))
 (hn:nC ≠ "__name__" := by decide) (hdb:(nC == ("__debug__" : Str))=false:=by decide)
 (hs:starEach [e,.Name nC p1] X.env=(false,eval e X.env)::starEach [.Name nC p1] X.env:=by rfl):JE X EX (.Call (.Name "isinstance" p2) [e,.Name nC p1] [] pos) (sOp (ip C) [a]) :=
 ⟨(pe xE g1 m1 boot_isinstance (cQ he.p (cQ (yT (v:= .ty C) g2 m2 b2 rfl hn hdb) eY) hs) (he:=hs)).by fun σ H Q ⟨F,ρ,W,R,h⟩=>cA (os_isi hC) R h⟩
def xb:List D->Option (D×Bool)
 | [.int a,.int b]=>some (.int (if b > a then b else a),false)
 | [.lst ds]=>match aN ds with
  | some (n::ns)=>some (.int (dQ (n::ns)),false)
  | _=>none
 | _=>none
def zL:List D->Option (D×Bool)
 | [.int a,.int b]=>some (.int (if b < a then b else a),false)
 | [.lst ds]=>match aN ds with
  | some (n::ns)=>some (.int (fG (n::ns)),false)
  | _=>none
 | _=>none
def so:List V->Hp->VK->Prop:=fun xs H Q=>∃ i j,xs=[.int i,.int j]/\Q (.int (if j > i then j else i)) H
def sk:List V->Hp->VK->Prop:=fun xs H Q=>∃ i j,xs=[.int i,.int j]/\Q (.int (if j < i then j else i)) H
theorem uE{X:Cx}(hc:X.calm=true):aw X (.builtin "max") (fun xs H Q=>so xs H Q\/o7 X.K xs H Q):=(uF hc).or (uC hc)
theorem uz{X:Cx}(hc:X.calm=true):aw X (.builtin "min") (fun xs H Q=>sk xs H Q\/o5 X.K xs H Q):=(uA hc).or (ux hc)
theorem lD{M N:Int}{l:List Int}(h1:M∈l)(h2:∀ a∈l,a<=M)(h3:N∈l)(h4:∀ a∈l,a<=N):M=N:=by have:=h2 N h3;have:=h4 M h1;omega
theorem k7{M N:Int}{l:List Int}(h1:M∈l)(h2:∀ a∈l,M<=a)(h3:N∈l)(h4:∀ a∈l,N<=a):M=N:=by have:=h2 N h3;have:=h4 M h1;omega
theorem os_max{K:Df}:OpS K (fun xs H Q=>so xs H Q\/o7 K xs H Q) xb:=by
 intro vs ds H L Q d nw hm r e q;unfold xb at e
 split at e
 ·obtain ⟨x,y,rfl,ra,rb⟩:=aM r
  cases e;exact .inl ⟨_,_,by rw [bN ra,bN rb],q _ H (ad.refl _) rfl⟩
 ·rename_i es
  obtain ⟨x,rfl,⟨p,xs,rfl,h1,h2⟩⟩:=az r
  split at e
  ·rename_i n ns en
   cases e;rw [aV en] at h2;rw [aP h2] at h1;refine .inr ⟨p,n::ns,rfl,.inl (.inl h1),by simp,fun M m1 m2=> ?_⟩;obtain ⟨z1,z2⟩:=gB (l:=n::ns) (by simp);rw [lD m1 m2 z1 z2];exact q _ H (ad.refl _) rfl
  ·cases e
 ·cases e
theorem os_min{K:Df}:OpS K (fun xs H Q=>sk xs H Q\/o5 K xs H Q) zL:=by
 intro vs ds H L Q d nw hm r e q;unfold zL at e
 split at e
 ·obtain ⟨x,y,rfl,ra,rb⟩:=aM r
  cases e;exact .inl ⟨_,_,by rw [bN ra,bN rb],q _ H (ad.refl _) rfl⟩
 ·rename_i es
  obtain ⟨x,rfl,⟨p,xs,rfl,h1,h2⟩⟩:=az r
  split at e
  ·rename_i n ns en
   cases e;rw [aV en] at h2;rw [aP h2] at h1;refine .inr ⟨p,n::ns,rfl,.inl (.inl h1),by simp,fun M m1 m2=> ?_⟩;obtain ⟨z1,z2⟩:=iV (l:=n::ns) (by simp);rw [k7 m1 m2 z1 z2];exact q _ H (ad.refl _) rfl
  ·cases e
 ·cases e
def fc:List D->Option (D×Bool)
 | [.lst ds]=>match aN ds with
  | some ns=>if decide (ns.length < 64)=true then some (.lst ((aC ns).map D.int),true) else none
  | none=>none
 | [.tup ds]=>match aN ds with
  | some ns=>if decide (ns.length < 64)=true then some (.lst ((aC ns).map D.int),true) else none
  | none=>none
 | _=>none
theorem og{X:Cx}:aw X (.builtin "sorted") (fun xs H Q=>hU X.K xs H Q\/g9 X.K xs H Q):=n9.or n8
theorem tK{K:Df}:OpS K (fun xs H Q=>hU K xs H Q\/g9 K xs H Q) fc:=by
 intro vs ds H L Q d nw hm r e q;unfold fc at e
 have fin:∀ (ns:List Int) l (ms:List Int),H l=none->List.Perm ms ns->ms.Pairwise (·<= ·)->(∀ v H',ad H H'->gz K H H' L (.lst ((aC ns).map D.int)) true v->Q v H')->Q (.ref l) (upd H l (.lst (ms.map V.int))):=fun ns l ms hl hp hs q=>by
  have:ms=aC ns:=bg hs (bT ns) (hp.trans (aX ns).symm);subst this;exact q _ _ (ad.upd hl) (bS (ce _) hl)
 split at e
 ·rename_i es
  obtain ⟨x,rfl,⟨p,xs,rfl,h1,h2⟩⟩:=az r
  cases en:aN es with
  | none=>rw [en] at e;cases e
  | some ns =>
   rw [en] at e;dsimp only at e
   split at e
   ·rename_i hl
    cases e;rw [aV en] at h2;rw [aP h2] at h1;exact .inl ⟨p,ns,rfl,.inl (.inl h1),A6 hl,fun l ms a b c=>fin ns l ms a b c q⟩
   ·cases e
 ·rename_i es
  obtain ⟨x,rfl,⟨p,xs,rfl,h1,h2⟩⟩:=az r
  cases en:aN es with
  | none=>rw [en] at e;cases e
  | some ns =>
   rw [en] at e;dsimp only at e
   split at e
   ·rename_i hl
    cases e;rw [aV en] at h2;rw [aP h2] at h1;exact .inr ⟨p,ns,rfl,.inl (.inl (ai h1).2),A6 hl,fun l ms a b c=>fin ns l ms a b c q⟩
   ·cases e
 ·cases e
def fS(lo:Int)(n:Nat):List D:=(List.range n).map fun k=> .int (lo+(k:Nat))
def rngV(lo:Int)(n:Nat):List V:=(List.range n).map fun k=> .int (lo+(k:Nat))
theorem oV{K:Df}{H:Hp}(lo:Int)(n:Nat):ae K H (fS lo n) (rngV lo n):=by
 have:=ce (K:=K) (H:=H) ((List.range n).map fun k=>lo+((k:Nat):Int));rw [Bo,Bo] at this;exact this
def oU(lo hi:Int):Bool:=decide (-1000000000<=lo/\lo<=1000000000 /\ -1000000000<=hi/\hi<=1000000000/\(hi - lo).toNat<=1000)
def xc:List D->Option (D×Bool)
 | [.lst ds]=>some (.lst ds,true)
 | [.tup ds]=>some (.lst ds,true)
 | [.ktup ds]=>some (.lst ds,true)
 | [.rng lo hi]=>if oU lo hi=true then some (.lst (fS lo (hi - lo).toNat),true) else none
 | _=>none
def fb:List D->Option (D×Bool)
 | [.lst ds]=>some (.tup ds,false)
 | [.tup ds]=>some (.tup ds,false)
 | [.rng lo hi]=>if oU lo hi=true then some (.tup (fS lo (hi - lo).toNat),false) else none
 | _=>none
def kc(K:Df):List V->Hp->VK->Prop:=fun xs H Q=>∃ p ys,xs=[.ref p]/\(SqL K H p ys\/SqT K H p ys)/\∀ l,H l=none->Q (.ref l) (upd H l (.lst ys))
def o3(K:Df):List V->Hp->VK->Prop:=fun xs H Q=>∃ p ys,xs=[.ref p]/\((SqL K H p ys/\∀ l,H l=none->Q (.ref l) (upd H l (.tup ys)))\/(SqT K H p ys/\Q (.ref p) H))
theorem rK{X:Cx}(hc:X.calm=true):aw X (.type "list") (fun xs H Q=>kc X.K xs H Q\/kE xs H Q):=oh.or (rJ hc)
theorem qi{X:Cx}(hc:X.calm=true):aw X (.type "tuple") (fun xs H Q=>o3 X.K xs H Q\/vM xs H Q):=l0.or (uq hc)
theorem yW{K:Df}:OpS K (fun xs H Q=>kc K xs H Q\/kE xs H Q) xc:=by
 intro vs ds H L Q d nw hm r e q;unfold xc at e
 split at e
 ·obtain ⟨x,rfl,⟨p,xs,rfl,h1,h2⟩⟩:=az r
  cases e;exact .inl ⟨p,xs,rfl,.inl (.inl (.inl h1)),fun l hl=>q _ _ (ad.upd hl) (bS h2 hl)⟩
 ·obtain ⟨x,rfl,⟨p,xs,rfl,h1,h2⟩⟩:=az r
  cases e;exact .inl ⟨p,xs,rfl,.inr (.inl (.inl (ai h1).2)),fun l hl=>q _ _ (ad.upd hl) (bS h2 hl)⟩
 ·obtain ⟨x,rfl,⟨p,xs,rfl,h1,h2⟩⟩:=az r
  cases e;exact .inl ⟨p,xs,rfl,.inr (dS h1),fun l hl=>q _ _ (ad.upd hl) (bS h2 hl)⟩
 ·rename_i lo hi
  obtain ⟨x,rfl,⟨p,rfl,h1⟩⟩:=az r
  split at e
  ·rename_i hk
   cases e;have hk:=A6 hk;exact .inr ⟨p,lo,hi,rfl,(ai h1).2,by omega,by omega,by omega,by omega,hk.2.2.2.2,fun l hl=>q _ _ (ad.upd hl) (bS (oV _ _) hl)⟩
  ·cases e
 ·cases e
theorem wk{K:Df}:OpS K (fun xs H Q=>o3 K xs H Q\/vM xs H Q) fb:=by
 intro vs ds H L Q d nw hm r e q;unfold fb at e
 split at e
 ·obtain ⟨x,rfl,⟨p,xs,rfl,h1,h2⟩⟩:=az r
  cases e;exact .inl ⟨p,xs,rfl,.inl ⟨.inl (.inl h1),fun l hl=>q _ _ (ad.upd hl) (iU hm h2 (ad.upd hl) ao)⟩⟩
 ·obtain ⟨x,rfl,⟨p,xs,rfl,h1,h2⟩⟩:=az r
  cases e;exact .inl ⟨p,xs,rfl,.inr ⟨.inl (.inl (ai h1).2),q _ _ (ad.refl _) ⟨p,xs,rfl,h1,h2⟩⟩⟩
 ·rename_i lo hi
  obtain ⟨x,rfl,⟨p,rfl,h1⟩⟩:=az r
  split at e
  ·rename_i hk
   cases e;have hk:=A6 hk;exact .inr ⟨p,lo,hi,rfl,(ai h1).2,by omega,by omega,by omega,by omega,hk.2.2.2.2,fun l hl=>q _ _ (ad.upd hl) (iU hm (oV _ _) (ad.upd hl) ao)⟩
  ·cases e
 ·cases e
def nS:List D->Option (D×Bool)
 | [.lst ds]=>match aN ds with
  | some ns=>if decide (ns.length<=1000)=true then some (.set (dd ns),false) else none
  | none=>none
 | [.tup ds]=>match aN ds with
  | some ns=>if decide (ns.length<=1000)=true then some (.set (dd ns),false) else none
  | none=>none
 | _=>none
theorem uv{X:Cx}(hc:X.calm=true):aw X (.type "set") (fun xs H Q=>qG X.K xs H Q\/qF X.K xs H Q):=(rG hc).or (rF hc)
theorem ig{K:Df}{H:Hp}{L:List Addr}{p:Addr}{o:HO}(hm:∀ p∈L,dO (H p))(hp:H p=none):hid L (upd H p o) p=some o:=by
 rw [aA (fun z=>by have:=hm p z;rw [hp] at this;exact this)];exact ao
theorem os_set{K:Df}:OpS K (fun xs H Q=>qG K xs H Q\/qF K xs H Q) nS:=by
 intro vs ds H L Q d nw hm r e q;unfold nS at e
 have fin:∀ (ns:List Int) l (S:Int->Bool),H l=none->(∀ x,S x=true↔x∈ns)->(∀ v H',ad H H'->gz K H H' L (.set (dd ns)) false v->Q v H')->Q (.ref l) (upd H l (.set S (St2.dF ns ns.length).length)):=fun ns l S hl hS q=>by
  rw [pH];exact q _ _ (ad.upd hl) ⟨l,S,rfl,ig (K:=K) hm hl,fun x=>(hS x).trans (jD ns x).symm⟩
 split at e
 ·rename_i es
  obtain ⟨x,rfl,⟨p,xs,rfl,h1,h2⟩⟩:=az r
  cases en:aN es with
  | none=>rw [en] at e;cases e
  | some ns =>
   rw [en] at e;dsimp only at e
   split at e
   ·rename_i hl
    cases e;rw [aV en] at h2;rw [aP h2] at h1;exact .inl ⟨p,ns,rfl,.inl (.inl h1),A6 hl,fun l S a b=>fin ns l S a b q⟩
   ·cases e
 ·rename_i es
  obtain ⟨x,rfl,⟨p,xs,rfl,h1,h2⟩⟩:=az r
  cases en:aN es with
  | none=>rw [en] at e;cases e
  | some ns =>
   rw [en] at e;dsimp only at e
   split at e
   ·rename_i hl
    cases e;rw [aV en] at h2;rw [aP h2] at h1;exact .inr ⟨p,ns,rfl,.inl (.inl (ai h1).2),A6 hl,fun l S a b=>fin ns l S a b q⟩
   ·cases e
 ·cases e
def ud:List D->Option (D×Bool)
 | [.int i]=>some (.int i,false)
 | [.bl b]=>some (.int (if b then 1 else 0),false)
 | _=>none
def Ay:List V->Hp->VK->Prop:=fun xs H Q=>(∃ i,xs=[.int i]/\Q (.int i) H)\/∃ k,xs=[.bl k]/\Q (.int (if k then 1 else 0)) H
theorem uJ{X:Cx}:aw X (.type "int") Ay:=uK
theorem os_int{K:Df}:OpS K Ay ud:=by
 intro vs ds H L Q d nw hm r e q;unfold ud at e
 split at e
 ·obtain ⟨x,rfl,ra⟩:=az r
  cases e;exact .inl ⟨_,by rw [bN ra],q _ H (ad.refl _) rfl⟩
 ·obtain ⟨x,rfl,ra⟩:=az r
  cases e;exact .inr ⟨_,by rw [yq ra],q _ H (ad.refl _) rfl⟩
 ·cases e
def jA:List D->Option (D×Bool)
 | [.int j]=>some (.rng 0 j,false)
 | [.int i,.int j]=>some (.rng i j,false)
 | _=>none
def Aw:List V->Hp->VK->Prop:=fun xs H Q=>(∃ j:Int,xs=[V.int j]/\∀ l,H l=none->Q (.ref l) (upd H l (.rng 0 j)))\/(∃ i j:Int,xs=[V.int i,V.int j]/\∀ l,H l=none->Q (.ref l) (upd H l (.rng i j)))
theorem qj{X:Cx}:aw X (.type "range") Aw:=xD
theorem wr{K:Df}:OpS K Aw jA:=by
 intro vs ds H L Q d nw hm r e q;unfold jA at e
 split at e
 ·obtain ⟨x,rfl,ra⟩:=az r
  cases e;exact .inl ⟨_,by rw [bN ra],fun l hl=>q _ _ (ad.upd hl) ⟨l,rfl,ig (K:=K) hm hl⟩⟩
 ·obtain ⟨x,y,rfl,ra,rb⟩:=aM r
  cases e;exact .inr ⟨_,_,by rw [bN ra,bN rb],fun l hl=>q _ _ (ad.upd hl) ⟨l,rfl,ig (K:=K) hm hl⟩⟩
 ·cases e
def jP:D->Option Key
 | .int i=>some (.inl i)
 | .str x=>some (.inr x)
 | _=>none
def f9:List D->Option (List Key)
 | []=>some []
 | d::ds=>match jP d,f9 ds with
  | some k,some l=>some (k::l)
  | _,_=>none
theorem gC{K:Df}{H:Hp}{d:D}{v:V}{k:Key}(e:jP d=some k)(r:av K H d v):v=kV k:=by
 cases d<;>first | (unfold jP at e;cases e;done) | (unfold jP at e;cases e;exact r)
theorem e9{K:Df}{H:Hp}:∀ {ds:List D} {xs:List V} {k:List Key},f9 ds=some k->ae K H ds xs->xs=k.map kV
 | [],[],k,e,_=>by unfold f9 at e;cases e;rfl
 | d::ds,x::xs,k,e,h=>by
  unfold f9 at e
  cases e1:jP d with
  | none=>rw [e1] at e;cases e
  | some k1 =>
   cases e2:f9 ds with
   | none=>rw [e1,e2] at e;cases e
   | some l =>
    rw [e1,e2] at e;cases e;rw [gC e1 h.1,e9 e2 h.2];rfl
 | [],_::_,_,_,h=>h.elim
 | _::_,[],_,_,h=>h.elim
section
variable{κ:Type}[DecidableEq κ]
def a6:List κ->List D->κ->Option D
 | k::ks,d::ds,x=>if k=x then some d else a6 ks ds x
 | _,_,_=>none
def jn:List κ->List D->κ->D->List κ×List D
 | k::ks,d::ds,x,y=>if k=x then (k::ks,y::ds) else ((k::(jn ks ds x y).1),d::(jn ks ds x y).2)
 | _,_,x,y=>([x],[y])
theorem jw{K:Df}{H:Hp}:∀ {ks:List κ} {ds:List D} {xs:List V} {x:κ},ks.length=xs.length->ae K H ds xs ->
 (∀ d,a6 ks ds x=some d->∃ v,iB (ks.zip xs) x=some v/\av K H d v)/\(a6 ks ds x=none->iB (ks.zip xs) x=none)
 | [],[],[],_,_,_=>⟨fun d h=>(by unfold a6 at h;cases h),fun _=>rfl⟩
 | k::ks,d::ds,y::xs,x,hl,h=>by
  obtain ⟨i1,i2⟩:=jw (x:=x) (Nat.succ.inj hl) h.2;have hl:ks.length=xs.length:=Nat.succ.inj hl;rw [CO]
  by_cases e:k=x
  ·rw [iz (p:=(k,y)) e]
   refine ⟨fun d' hd=> ?_,fun hd=> ?_⟩
   ·unfold a6 at hd;rw [if_pos e] at hd;cases hd;exact ⟨y,rfl,h.1⟩
   ·unfold a6 at hd;rw [if_pos e] at hd;cases hd
  ·rw [iA (p:=(k,y)) e]
   refine ⟨fun d' hd=> ?_,fun hd=> ?_⟩
   ·unfold a6 at hd;rw [if_neg e] at hd;exact i1 d' hd
   ·unfold a6 at hd;rw [if_neg e] at hd;exact i2 hd
 | [],_::_,[],_,_,h=>h.elim
 | [],[],_::_,_,_,h=>h.elim
 | [],_::_,_::_,_,hl,_=>by simp at hl
 | _::_,[],[],_,hl,_=>by simp at hl
 | _::_,[],_::_,_,_,h=>h.elim
 | _::_,_::_,[],_,_,h=>h.elim
def iO:List κ->List V->κ->V->List κ×List V
 | k::ks,d::ds,x,y=>if k=x then (k::ks,y::ds) else ((k::(iO ks ds x y).1),d::(iO ks ds x y).2)
 | _,_,x,y=>([x],[y])
theorem kG{K:Df}{H:Hp}{d:D}{v:V}(r:av K H d v):∀ {ks:List κ} {ds:List D} {xs:List V} {x:κ},ks.length=xs.length->ae K H ds xs ->
 (iO ks xs x v).1=(jn ks ds x d).1/\ae K H (jn ks ds x d).2 (iO ks xs x v).2/\(iO ks xs x v).1.length=(iO ks xs x v).2.length
 | [],[],[],_,_,_=>⟨rfl,⟨r,trivial⟩,rfl⟩
 | k::ks,e::ds,y::xs,x,hl,h=>by
  obtain ⟨i1,i2,i3⟩:=kG (x:=x) r (Nat.succ.inj hl) h.2;unfold iO jn;have hl:ks.length=xs.length:=Nat.succ.inj hl
  by_cases z:k=x
  ·rw [if_pos z,if_pos z]
   exact ⟨rfl,⟨r,h.2⟩,by simp [hl]⟩
  ·rw [if_neg z,if_neg z]
   exact ⟨by show k::_=k::_;rw [i1],⟨h.1,i2⟩,by show (k::_).length=(y::_).length;rw [A3,A3,i3]⟩
 | [],_::_,[],_,_,h=>h.elim
 | [],[],_::_,_,_,h=>h.elim
 | [],_::_,_::_,_,hl,_=>by simp at hl
 | _::_,[],[],_,hl,_=>by simp at hl
 | _::_,[],_::_,_,_,h=>h.elim
 | _::_,_::_,[],_,_,h=>h.elim
theorem kF{v:V}:∀ {ks:List κ} {xs:List V} {x:κ},ks.length=xs.length->ks.Nodup->(iO ks xs x v).1.zip (iO ks xs x v).2=hV (ks.zip xs) x v
 | [],[],x,_,_=>rfl
 | k::ks,y::xs,x,hl,nd=>by
  have hl:ks.length=xs.length:=Nat.succ.inj hl;have nd:=Bv.mp nd;have ih:=kF (v:=v) (x:=x) hl nd.2;unfold iO;rw [CO]
  by_cases z:k=x
  ·rw [if_pos z,CO]
   unfold hV;rw [if_pos (by simp [z]),A4,if_pos z]
   congr 1
   symm
   have:∀ p∈ks.zip xs,(if p.1=x then (p.1,v) else p)=p:=fun p hp=>by
    rw [if_neg (fun e=>nd.1 (by rw [z,<- e];exact (List.of_mem_zip (show (p.1,p.2)∈_ from hp)).1))]
   exact (Bp this).trans (List.map_id' _)
  ·rw [if_neg z]
   show ((k,y)::(iO ks xs x v).1.zip (iO ks xs x v).2)=_
   rw [ih];unfold hV
   have:(((k,y)::ks.zip xs).any fun kv=>decide (kv.1=x))=(ks.zip xs).any fun kv=>decide (kv.1=x):=by rw [List.any_cons];simp [z]
   rw [this]
   split
   ·rw [A4,if_neg z]
   ·rfl
 | [],_::_,_,hl,_=>by simp at hl
 | _::_,[],_,hl,_=>by simp at hl
end
def jU(ds:List D)(d:D):Bool:=ds.any fun e=>eqD e d
def zN:D->D->Option Bool
 | d,.lst ds=>if (ac 9 d&&ds.all (ac 9))=true then some (jU ds d) else none
 | d,.tup ds=>if (ac 9 d&&ds.all (ac 9))=true then some (jU ds d) else none
 | d,.ktup ds=>if (ac 9 d&&ds.all (ac 9))=true then some (jU ds d) else none
 | .int i,.rng lo hi=>some (decide (lo<=i/\i < hi))
 | d,.dK ks vs=>match jP d with
  | some k=>some (a6 ks vs k).isSome
  | none=>none
 | .tup ds,.dT ks vs=>match f9 ds with
  | some k=>some (a6 ks vs k).isSome
  | none=>none
 | _,_=>none
def gIn:List D->Option (D×Bool)
 | [d,c]=>match zN d c with
  | some b=>some (.bl b,false)
  | none=>none
 | _=>none
def lf:List D->Option (D×Bool)
 | [d,c]=>match zN d c with
  | some b=>some (.bl (!b),false)
  | none=>none
 | _=>none
def rInS(K:Df)(neg:Bool):R2:=fun x y H Q=>∃ (d:D) (p:Addr) (xs:List V) (ds:List D),y = .ref p/\(SqL K H p xs\/SqT K H p xs)/\ae K H ds xs/\ds.all (ac 9)=true/\av K H d x/\ac 9 d=true/\Q (.bl (if neg then !jU ds d else jU ds d)) H
def vT(neg:Bool):R2:=fun y x H Q=>∃ a o,x = .ref a/\iw H a y o/\Q (.bl (if neg then !o.isSome else o.isSome)) H
def tz(K:Df)(neg:Bool):R2:=fun x y H Q=>rInS K neg x y H Q\/rInR neg x y H Q\/vT neg x y H Q
section
variable{X:Cx}
open Classical in
theorem iY{pins:List (Addr×Obj)}{σ:St}{H:Hp}{s:Shared}(I:Inv X pins σ H s)(hu:X.A.units+10 < cLine){d:D}{ds:List D}{x:V}{u:Value}{xs:List V}{its:List Value}(rd:ae X.K H ds xs)(rv:ar xs its)(hds:ds.all (ac 9)=true)(r:av X.K H d x)(hd:ac 9 d=true)(ru:aB x u) :
 ∃ e:Value->Bool,(∀ y,y∈its.toArray->SeqAt.EqAt X.A.in1 s y u (e y))/\its.toArray.any e=jU ds d:=by
 refine ⟨fun y=>decide (∃ (j:Nat) (d':D),ds[j]?=some d'/\its[j]?=some y/\eqD d' d=true),fun y hy=> ?_,?_⟩
 ·have hy:y∈its:=by simpa using hy
  obtain ⟨j,hj,rfl⟩:=Cg.mp hy;obtain ⟨v,ev,rv1⟩:=aS rv hj;obtain ⟨d',e1,q1⟩:=rd.get' ev;have hd':=Bg.mp hds _ (Bc e1);have z:=rq I 9 (A:=X.A.in1) (by show X.A.units+1+9 < cLine;omega) hd' hd q1 r rv1 ru
  have e:decide (∃ (j':Nat) (d':D),ds[j']?=some d'/\its[j']?=some its[j]/\eqD d' d=true)=eqD d' d:=by
   cases hq:eqD d' d with
   | true=>exact Ba ⟨j,d',e1,AN hj,hq⟩
   | false =>
    refine Bk fun hZ=> ?_
    obtain ⟨j2,d2,g1,g2,g3⟩:=hZ;obtain ⟨hj2,g2'⟩:=Be.mp g2;obtain ⟨v2,ev2,rv2⟩:=aS rv hj2;rw [g2'] at rv2;have:v2=v:=rv2.inj rv1;subst this;obtain ⟨d3,e3,q3⟩:=rd.get' ev2;rw [g1] at e3;cases e3;have hn:=fU I 9 9 (Bg.mp hds _ (Bc g1)) hd' q3 q1 rv1;unfold eqD at g3 hq;rw [hn,hq] at g3;cases g3
  dsimp only;rw [e];exact z
 ·rw [Bool.eq_iff_iff]
  unfold jU;simp only [List.any_toArray,List.any_eq_true]
  constructor
  ·rintro ⟨y,hy,hq⟩
   obtain ⟨j,d',g1,g2,g3⟩:=A6 hq;exact ⟨d',Bc g1,g3⟩
  ·rintro ⟨d',hd',hq⟩
   obtain ⟨j,hj,rfl⟩:=Cg.mp hd'
   have hji:j < its.length:=by rw [<- rv.length,<- rd.len];exact hj
   exact ⟨its[j],BG hji,Ba ⟨j,_,AN hj,AN hji,hq⟩⟩
theorem op_inS(hu:X.A.units+10 < cLine):OpR X (compareOp .In) (rInS X.K false):=by
 intro pins s σ H x y v u Q I rx ry h;obtain ⟨d,p,xs,ds,rfl,hq,rd,hds,r,hd,q⟩:=h;cases ry
 rcases hq with hq | hq
 ·obtain ⟨its,rv,pl,_⟩:=I.list hq
  obtain ⟨e,he,ee⟩:=iY I hu rd rv hds r hd rx;refine SeqAt.in_listAt e pl.isList he ⟨.bl _,H,I,rfl,?_⟩;rw [ee];exact q
 ·obtain ⟨its,rv,pl,_⟩:=I.tuple hq
  obtain ⟨e,he,ee⟩:=iY I hu rd rv hds r hd rx;refine SeqAt.in_tupleAt e (show s.heap.IsTuple p its.toArray from pl) he ⟨.bl _,H,I,rfl,?_⟩;rw [ee];exact q
theorem tM(hu:X.A.units+10 < cLine):OpR X (compareOp .NotIn) (rInS X.K true):=by
 intro pins s σ H x y v u Q I rx ry h;obtain ⟨d,p,xs,ds,rfl,hq,rd,hds,r,hd,q⟩:=h;cases ry
 rcases hq with hq | hq
 ·obtain ⟨its,rv,pl,_⟩:=I.list hq
  obtain ⟨e,he,ee⟩:=iY I hu rd rv hds r hd rx;refine SeqAt.notIn_listAt e pl.isList he ⟨.bl _,H,I,rfl,?_⟩;rw [ee];exact q
 ·obtain ⟨its,rv,pl,_⟩:=I.tuple hq
  obtain ⟨e,he,ee⟩:=iY I hu rd rv hds r hd rx;refine SeqAt.notIn_tupleAt e (show s.heap.IsTuple p its.toArray from pl) he ⟨.bl _,H,I,rfl,?_⟩;rw [ee];exact q
theorem za(hu:X.A.units+1 < cLine):OpR X (compareOp .In) (vT false):=by
 intro pins s σ H y x u v Q I ry rx h;obtain ⟨a,o,rfl,g,q⟩:=h;cases rx
 exact d_in hu I g ry fun s3 I3=>⟨.bl o.isSome,H,I3,rfl,q⟩
theorem qN(hu:X.A.units+1 < cLine):OpR X (compareOp .NotIn) (vT true):=by
 intro pins s σ H y x u v Q I ry rx h;obtain ⟨a,o,rfl,g,q⟩:=h;cases rx
 exact zS hu I g ry fun s3 I3=>⟨.bl (!o.isSome),H,I3,rfl,q⟩
theorem op_inA(hu:X.A.units+10 < cLine):OpR X (compareOp .In) (tz X.K false):=(op_inS hu).or (op_inR.or (za (by omega)))
theorem tO(hu:X.A.units+10 < cLine):OpR X (compareOp .NotIn) (tz X.K true):=(tM hu).or (tN.or (qN (by omega)))
end
section
variable{K:Df}
theorem xz{H Hh:Hp}{p:Addr}{ks:List Key}{ds:List D}{xs:List V}{k:Key}{y:V}(h1:H p=some (.dK (ks.zip xs)))(hl:ks.length=xs.length)(h2:ae K Hh ds xs)(hy:y=kV k) :
 ∃ o,iw H p y o/\o.isSome=(a6 ks ds k).isSome/\∀ d,a6 ks ds k=some d->∃ v,o=some v/\av K Hh d v:=by
 subst hy;obtain ⟨i1,i2⟩:=jw (x:=k) hl h2;refine ⟨_,iw.k (k:=k) h1,?_,fun d hd=>i1 d hd⟩
 cases e:a6 ks ds k with
 | none=>rw [i2 e];rfl
 | some d=>obtain ⟨v,e1,_⟩:=i1 d e;rw [e1];rfl
theorem xy{H Hh:Hp}{p b:Addr}{ks:List (List Key)}{ds:List D}{xs:List V}{k:List Key}(h1:H p=some (.dT (ks.zip xs)))(hl:ks.length=xs.length)(h2:ae K Hh ds xs)(hb:H b=some (.tup (k.map kV))) :
 ∃ o,iw H p (.ref b) o/\o.isSome=(a6 ks ds k).isSome/\∀ d,a6 ks ds k=some d->∃ v,o=some v/\av K Hh d v:=by
 obtain ⟨i1,i2⟩:=jw (x:=k) hl h2;refine ⟨_,iw.t (k:=k) h1 hb,?_,fun d hd=>i1 d hd⟩
 cases e:a6 ks ds k with
 | none=>rw [i2 e];rfl
 | some d=>obtain ⟨v,e1,_⟩:=i1 d e;rw [e1];rfl
theorem AF{H:Hp}{L:List Addr}{d c:D}{x y:V}{b neg:Bool}{Q:VK}(ra:gM K H (hid L H) d x)(rb:gM K H (hid L H) c y)(e:zN d c=some b)(q:Q (.bl (if neg then !b else b)) H):tz K neg x y H Q:=by
 have seq:∀ (p:Addr) (xs:List V) (ds:List D),y = .ref p->(SqL K H p xs\/SqT K H p xs)->ae K (hid L H) ds xs->(if (ac 9 d&&ds.all (ac 9))=true then some (jU ds d) else none)=some b->tz K neg x y H Q:=fun p xs ds hy hs hr e=>by
  split at e
  ·rename_i hc
   have hc:=(Bh _ _).mp hc;cases e;exact .inl ⟨d,p,xs,ds,hy,hs,am.repDs hr,hc.2,ra.d am,hc.1,q⟩
  ·cases e
 unfold zN at e
 split at e
 ·obtain ⟨p,xs,rfl,h1,h2⟩:=rb
  exact seq p xs _ rfl (.inl (.inl (.inl h1))) h2 e
 ·obtain ⟨p,xs,rfl,h1,h2⟩:=rb
  exact seq p xs _ rfl (.inr (.inl (.inl (ai h1).2))) h2 e
 ·obtain ⟨p,xs,rfl,h1,h2⟩:=rb
  exact seq p xs _ rfl (.inr (dS h1)) h2 e
 ·obtain ⟨p,rfl,h1⟩:=rb
  cases e;exact .inr (.inl ⟨p,_,_,_,ra,rfl,(ai h1).2,q⟩)
 ·obtain ⟨p,xs,rfl,h1,h2,h3⟩:=rb
  split at e
  ·rename_i k ek
   cases e;obtain ⟨o,g1,g2,_⟩:=xz (k:=k) h1 h2 h3 (gC ek (ra.d am));exact .inr (.inr ⟨p,o,rfl,g1,by rw [g2];exact q⟩)
  ·cases e
 ·obtain ⟨p,xs,rfl,h1,h2,h3⟩:=rb
  obtain ⟨b',ys,rfl,h4,h5⟩:=ra
  split at e
  ·rename_i k ek
   cases e;have h4:=(ai h4).2;rw [e9 ek h5] at h4;obtain ⟨o,g1,g2,_⟩:=xy (k:=k) h1 h2 h3 h4;exact .inr (.inr ⟨p,o,rfl,g1,by rw [g2];exact q⟩)
  ·cases e
 ·cases e
theorem os_in:OpS K (r2 (tz K false)) gIn:=by
 intro vs ds H L Q d nw hm r e q;unfold gIn at e
 split at e
 ·obtain ⟨x,y,rfl,ra,rb⟩:=aM r
  split at e
  ·rename_i b eb
   cases e;exact AF ra rb eb (q _ H (ad.refl _) rfl)
  ·cases e
 ·cases e
theorem wu:OpS K (r2 (tz K true)) lf:=by
 intro vs ds H L Q d nw hm r e q;unfold lf at e
 split at e
 ·obtain ⟨x,y,rfl,ra,rb⟩:=aM r
  split at e
  ·rename_i b eb
   cases e;exact AF ra rb eb (q _ H (ad.refl _) rfl)
  ·cases e
 ·cases e
end
def mF:List D->Option (D×Bool)
 | [.dK ks vs,k]=>match jP k with
  | some k=>match a6 ks vs k with
   | some d=>some (d,false)
   | none=>none
  | none=>none
 | [.dT ks vs,.tup l]=>match f9 l with
  | some k=>match a6 ks vs k with
   | some d=>some (d,false)
   | none=>none
  | none=>none
 | _=>none
def rDGet:R2:=fun x y H Q=>∃ a v,x = .ref a/\iw H a y (some v)/\Q v H
theorem c_dget{X:Cx}{EX:EXT}{o i:Expr}{a b:Arg}{pos:Pos}(hu:X.A.units+1 < cLine)(ho:JB X EX o a)(hi:JB X EX i b)(hs:NoSl i:=by exact fun _ _=>rfl):JE X EX (.Subscript o i pos) (sOp mF [a,b]) :=
 ⟨(yQ hu ho.p hi.p hs).by fun σ H Q ⟨F,ρ,W,R,h⟩=>by
   have os:OpS X.K (r2 rDGet) mF:=by
    intro vs ds H L Q d nw hm r e q;unfold mF at e
    split at e
    ·obtain ⟨x,y,rfl,⟨p,xs,rfl,h1,h2,h3⟩,rb⟩:=aM r
     split at e
     ·rename_i k ek
      split at e
      ·rename_i d' ed
       cases e;obtain ⟨o,g1,_,g3⟩:=xz (k:=k) h1 h2 h3 (gC ek (rb.d am));obtain ⟨v,rfl,rv⟩:=g3 _ ed;exact ⟨p,v,rfl,g1,q v H (ad.refl _) rv⟩
      ·cases e
     ·cases e
    ·obtain ⟨x,y,rfl,⟨p,xs,rfl,h1,h2,h3⟩,⟨b',ys,rfl,h4,h5⟩⟩:=aM r
     split at e
     ·rename_i k ek
      split at e
      ·rename_i d' ed
       cases e;have h4:=(ai h4).2;rw [e9 ek h5] at h4;obtain ⟨o,g1,_,g3⟩:=xy (k:=k) h1 h2 h3 h4;obtain ⟨v,rfl,rv⟩:=g3 _ ed;exact ⟨p,v,rfl,g1,q v H (ad.refl _) rv⟩
      ·cases e
     ·cases e
    ·cases e
   exact cA os R h⟩
def cj(j:Nat)(u:D->List D->Option (D×D))(fs:List SE):SE:=fun ρ=>match ρ[j]? with
 | some (some (_,.fz))=>none
 | some (some (.lst _,_))=>match evA (fs.map Arg.ex) ρ with
  | some (.ok ds,ρ1)=>match ρ1[j]? with
   | some (some (c,.ow))=>match u c ds with
    | some (c',d)=>some (.ok d false,ρ1.set j (some (c',.ow)))
    | none=>none
   | some (some (c,.io))=>match u c ds with
    | some (c',d)=>some (.ok d false,ρ1.set j (some (c',.io)))
    | none=>none
   | _=>none
  | some (.ex C,ρ1)=>some (.ex C,ρ1)
  | none=>none
 | _=>none
def MeS(K:Df)(r:V->List V->Hp->VK->Prop)(u:D->List D->Option (D×D)):Prop :=
 ∀ (H:Hp) (L:List Addr) (p:Addr) (c:D) (ds:List D) (vs:List V) (c' d:D) (Q:VK),aD K H (hid L H) p c->p∈L->ae K (hid L H) ds vs->u c ds=some (c',d) ->
  (∀ v o,aD K (upd H p o) (hid L H) p c'->av K (hid L H) d v->Q v (upd H p o))->r (.ref p) vs H Q
section
variable{K:Df}{EX:EXT}{σ:St}{H:Hp}{Q:VK}
theorem zj{j:Nat}{u:D->List D->Option (D×D)}{fs:List SE}{r:V->List V->Hp->VK->Prop}(hs:MeS K r u)(hw:tV K EX (cj j u fs) σ H Q):tBM K "list" r (vm j) (tAs K EX (fs.map Arg.ex)) σ H Q:=by
 obtain ⟨F,ρ,W,R,h⟩:=hw;unfold cj at h
 revert h
 cases e0:ρ[j]? with
 | none=>exact fun h=>h.elim
 | some z =>
  cases z with
  | none=>exact fun h=>h.elim
  | some z =>
   obtain ⟨c0,m0⟩:=z
   have go:m0 ≠ .fz->∀ es,c0 = .lst es->OkV K F EX σ H W (match evA (fs.map Arg.ex) ρ with
    | some (.ok ds,ρ1)=>match ρ1[j]? with
     | some (some (c,.ow))=>match u c ds with
      | some (c',d)=>some (.ok d false,ρ1.set j (some (c',.ow)))
      | none=>none
     | some (some (c,.io))=>match u c ds with
      | some (c',d)=>some (.ok d false,ρ1.set j (some (c',.io)))
      | none=>none
     | _=>none
    | some (.ex C,ρ1)=>some (.ex C,ρ1)
    | none=>none) Q->tBM K "list" r (vm j) (tAs K EX (fs.map Arg.ex)) σ H Q:=fun hm0 es hc0 h=>by
    subst hc0;obtain ⟨v,hv,ok0⟩:=R.slot j _ _ e0
    have own0:∃ p,v = .ref p/\p∈W/\aD K H (hid (W++F.Z) H) p (.lst es):=by
     cases m0 with
     | fz=>exact absurd rfl hm0
     | ow=>exact ok0
     | io=>obtain ⟨p,a,b,c,_⟩:=ok0;exact ⟨p,a,b,c⟩
    obtain ⟨p,rfl,hp,xs,hx,_⟩:=own0;refine ⟨_,hv,.inl ⟨rfl,xs,.inl (.inl hx)⟩,mH fs R ?_⟩
    revert h
    cases evA (fs.map Arg.ex) ρ with
    | none=>exact fun h=>h
    | some q =>
     obtain ⟨q,ρ1⟩:=q
     cases q with
     | ex C=>exact fun h=>h
     | ok ds =>
      dsimp only;intro h vs H1 W1 fr1 sub1 R1 reps
      have step:∀ (c:D) (m:Md),m ≠ .fz->ρ1[j]?=some (some (c,m))->∀ c' d,u c ds=some (c',d)->OkV K F EX σ H W (some (.ok d false,ρ1.set j (some (c',m)))) Q->r (.ref p) vs H1 Q:=fun c m hm e1 c' d eu h=>by
       obtain ⟨v1,hv1,ok1⟩:=R1.slot j c m e1;rw [hv] at hv1;cases hv1
       have own1:p∈W1/\aD K H1 (hid (W1++F.Z) H1) p c:=by
        cases m with
        | fz=>exact absurd rfl hm
        | ow=>obtain ⟨p',a,b,c⟩:=ok1;cases a;exact ⟨b,c⟩
        | io=>obtain ⟨p',a,b,c,_⟩:=ok1;cases a;exact ⟨b,c⟩
       refine hs H1 (W1++F.Z) p c ds vs c' d Q own1.2 (AU _ own1.1) reps eu fun v2 o new rd=> ?_
       obtain ⟨R2,fr2⟩:=R1.write e1 hm hv new;refine h v2 _ W1 (fr1.trans fr2 fun q hq=> .inl (sub1 q hq)) sub1 ⟨?_,R2⟩;rw [sN (AU _ own1.1)];exact rd
      revert h
      split
      ·rename_i c e1
       split
       ·rename_i c' d eu
        exact fun h=>step c .ow (by decide) e1 c' d eu h
       ·exact fun h=>h.elim
      ·rename_i c e1
       split
       ·rename_i c' d eu
        exact fun h=>step c .io (by decide) e1 c' d eu h
       ·exact fun h=>h.elim
      ·exact fun h=>h.elim
   cases m0 with
   | fz=>exact fun h=>h.elim
   | ow=>cases c0<;>first | exact fun h=>h.elim | exact fun h=>go (by decide) _ rfl h
   | io=>cases c0<;>first | exact fun h=>h.elim | exact fun h=>go (by decide) _ rfl h
end
def bR:D->List D->Option (D×D)
 | .lst ds,[d]=>if small ds.length=true then some (.lst (ds++[d]),.non) else none
 | _,_=>none
def iC:D->List D->Option (D×D)
 | .lst ds,[.lst es]=>if small (ds.length+es.length)=true then some (.lst (ds++es),.non) else none
 | .lst ds,[.tup es]=>if small (ds.length+es.length)=true then some (.lst (ds++es),.non) else none
 | _,_=>none
def uPop:D->List D->Option (D×D)
 | .lst ds,[]=>match ds[ds.length - 1]? with
  | some d=>some (.lst ds.dropLast,d)
  | none=>none
 | _,_=>none
def kh:D->List D->Option (D×D)
 | .lst ds,[.int i]=>if (decide (-1000000000<=i/\i<=1000000000))=true then match seqIndex? i ds.length with
  | some k=>match ds[k]? with
   | some d=>some (.lst (ds.eraseIdx k),d)
   | none=>none
  | none=>none
  else none
 | _,_=>none
section
variable{K:Df}
theorem tW:MeS K sv bR:=by
 intro H L p c ds vs c' d Q hO hp hr e q;unfold bR at e
 split at e
 ·obtain ⟨xs,h1,h2⟩:=hO
  split at e
  ·rename_i hs
   cases e
   match vs,hr with
   | [v],hr =>
    refine ⟨p,xs,v,rfl,rfl,h1,km (by rw [<- h2.len];exact hs),q _ _ ⟨_,ao,h2.app ⟨hr.1,trivial⟩⟩ rfl⟩
  ·cases e
 ·cases e
def o9(K:Df):V->List V->Hp->VK->Prop:=fun x vs H Q=>su x vs H Q\/o8 x vs H Q
theorem qQ{X:Cx}:MtM X "list.extend" (o9 X.K):=by
 intro pins s σ H x xs v us Q I rx r h
 rcases h with h | h
 ·exact tS pins s σ H x xs v us Q I rx r h
 ·exact qP pins s σ H x xs v us Q I rx r h
theorem tU:MeS K (o9 K) iC:=by
 intro H L p c ds vs c' d Q hO hp hr e q;unfold iC at e
 split at e
 ·obtain ⟨xs,h1,h2⟩:=hO
  split at e
  ·rename_i hs
   cases e
   match vs,hr with
   | [v],hr =>
    obtain ⟨b,ys,rfl,h3,h4⟩:=hr.1;exact .inl ⟨p,b,xs,ys,rfl,rfl,h1,(ai h3).2,fN (by rw [<- h2.len,<- h4.len];exact hs),q _ _ ⟨_,ao,h2.app h4⟩ rfl⟩
  ·cases e
 ·obtain ⟨xs,h1,h2⟩:=hO
  split at e
  ·rename_i hs
   cases e
   match vs,hr with
   | [v],hr =>
    obtain ⟨b,ys,rfl,h3,h4⟩:=hr.1;exact .inr ⟨p,b,xs,ys,rfl,rfl,h1,(ai h3).2,fN (by rw [<- h2.len,<- h4.len];exact hs),q _ _ ⟨_,ao,h2.app h4⟩ rfl⟩
  ·cases e
 ·cases e
theorem wF:MeS K vP kh:=by
 intro H L p c ds vs c' d Q hO hp hr e q;unfold kh at e
 split at e
 ·rename_i es i
  obtain ⟨xs,h1,h2⟩:=hO
  split at e
  ·rename_i hi
   have hi:=A6 hi
   split at e
   ·rename_i k ek
    split at e
    ·rename_i d' ed
     cases e
     match vs,hr with
     | [v],hr =>
      obtain ⟨x,ex,rx⟩:=h2.get ed;exact ⟨p,xs,i,k,x,rfl,by rw [show v = .int i from hr.1],h1,by omega,by omega,by rw [<- h2.len];exact ek,ex,q _ _ ⟨_,ao,h2.erase k⟩ rx⟩
    ·cases e
   ·cases e
  ·cases e
 ·cases e
end
section
variable{X:Cx}{EX:EXT}{e:Expr}{es:List Expr}{pos p1 apos cpos:Pos}{n:Str}{j:Nat}
theorem rL{name:Str}{id:String}{u:D->List D->Option (D×D)}{fs:List SE}{r:V->List V->Hp->VK->Prop}(hs:MeS X.K r u)(hm:MtM X id r)(slot:Slot "list" name id)(hty:typeOf (.builtin id)=pure (.type "method_descriptor"))(hN:X.N[j]?=some n)(hv:Vis X.env.scope n)(ha:JF X EX (e::es) fs)
 (hbase:attributeBase (.Name n p1) name X.env (eval (.Name n p1) X.env)=eval (.Name n p1) X.env:=by rfl)
 (hfew:((backTo cpos (starEach (e::es) X.env)).all (fun x => !x.1)&&(backToKw cpos (keywordEach [] X.env)).all (fun x=>x.1.isSome)
   && decide ((e::es).length+([]:List Keyword).length+(if ([]:List Keyword).isEmpty then 0 else 1) < 30))=true:=by rfl)
 (hline:(apos.endLine == cpos.line)=true:=by rfl) (hst:starEach (e::es) X.env=(false,eval e X.env)::starEach es X.env:=by rfl) (hplain:(backTo cpos (starEach es X.env)).any (·.1)=false:=by rfl)
 (hd:(n == ("__debug__" : Str))=false:=by decide) (hcd:(n == ("__classdict__" : Str))=false:=by decide):JE X EX (.Call (.Attribute (.Name n p1) name apos) (e::es) [] cpos) (cj j u fs) :=
 ⟨(wf PySem.F.plainAttrs_list slot hty hm (hX hN hv hd hcd) ha.p hbase hfew hline hst hplain).by fun σ H Q h=>zj hs h⟩
end
def cT(u:D->D->D->Option D)(j:Nat)(f fi:SE):SS:=fun ρ=>match f ρ with
 | some (.ok d _,ρ1)=>match ρ1[j]? with
  | some (some _)=>match fi ρ1 with
   | some (.ok i _,ρ2)=>match ρ2[j]? with
    | some (some (c,.ow))=>match u c i d with
     | some c'=>some (.nx,ρ2.set j (some (c',.ow)))
     | none=>none
    | some (some (c,.io))=>match u c i d with
     | some c'=>some (.nx,ρ2.set j (some (c',.io)))
     | none=>none
    | _=>none
   | some (.ex C,ρ2)=>some (.ex C,ρ2)
   | none=>none
  | _=>none
 | some (.ex C,ρ1)=>some (.ex C,ρ1)
 | none=>none
def PuS(K:Df)(r:V->V->V->Hp->(Hp->Prop)->Prop)(u:D->D->D->Option D):Prop :=
 ∀ (H:Hp) (L:List Addr) (p:Addr) (c i d c':D) (vi vd:V) (Q:Hp->Prop),aD K H (hid L H) p c->p∈L->av K (hid L H) i vi->av K (hid L H) d vd->u c i d=some c' ->
  (∀ o,aD K (upd H p o) (hid L H) p c'->Q (upd H p o))->r (.ref p) vi vd H Q
theorem sM{K:Df}{EX:EXT}{u:D->D->D->Option D}{r:V->V->V->Hp->(Hp->Prop)->Prop}{j:Nat}{f fi:SE}{E:j8}{σ:St}{H:Hp}(hs:PuS K r u)(h:tVS K EX (cT u j f fi) E σ H) :
 tV K EX f σ H fun v H1=>∃ o,σ[j]?=some (some o)/\tV K EX fi σ H1 fun i H2=>r o i v H2 fun H3=>E.nx σ H3:=by
 obtain ⟨F,ρ,W,R,h⟩:=h;refine ⟨F,ρ,W,R,?_⟩;unfold cT at h
 revert h
 cases f ρ with
 | none=>exact fun h=>h
 | some q =>
  obtain ⟨q,ρ1⟩:=q
  cases q with
  | ex C=>exact fun h H2 W2 fr2 sub2 R2=>h σ H2 W2 fr2 (fun p hp=> .inl (sub2 p hp)) R2
  | ok d nw =>
   dsimp only
   cases e1:ρ1[j]? with
   | none=>exact fun h=>h.elim
   | some z =>
    cases z with
    | none=>exact fun h=>h.elim
    | some z =>
     obtain ⟨c1,m1⟩:=z;intro h v H1 W1 fr1 sub1 P1;obtain ⟨rd,R1⟩:=P1.plain;obtain ⟨o,ho,_⟩:=R1.slot j _ _ e1;refine ⟨o,ho,F,ρ1,W1,R1,?_⟩
     revert h
     dsimp only
     cases fi ρ1 with
     | none=>exact fun h=>h
     | some q =>
      obtain ⟨q,ρ2⟩:=q
      cases q with
      | ex C=>exact fun h H2 W2 fr2 sub2 R2=>h σ H2 W2 (fr1.trans fr2 fun p hp=> .inl (sub1 p hp)) (fun p hp=> .inl (sub1 p (sub2 p hp))) R2
      | ok i nw2 =>
       dsimp only;intro h vi H2 W2 fr2 sub2 P2;obtain ⟨ri,R2⟩:=P2.plain
       have step:∀ (c:D) (m:Md),m ≠ .fz->ρ2[j]?=some (some (c,m))->∀ c',u c i d=some c'->OkS K F EX H W (some (.nx,ρ2.set j (some (c',m)))) E->r o vi v H2 fun H3=>E.nx σ H3:=fun c m hm e2 c' eu h=>by
        obtain ⟨v1,hv1,ok1⟩:=R2.slot j c m e2;rw [ho] at hv1;cases hv1
        have own1:∃ p,o = .ref p/\p∈W2/\aD K H2 (hid (W2++F.Z) H2) p c:=by
         cases m with
         | fz=>exact absurd rfl hm
         | ow=>exact ok1
         | io=>obtain ⟨p',a,b,c,_⟩:=ok1;exact ⟨p',a,b,c⟩
        obtain ⟨p,rfl,hp,hO⟩:=own1
        refine hs H2 (W2++F.Z) p c i d c' vi v _ hO (AU _ hp) ri ((fr2.hid fun p hp=> .inl (sub2 p hp)).repD rd) eu fun o' new=> ?_
        obtain ⟨R3,fr3⟩:=R2.write e2 hm ho new;exact h σ _ W2 ((fr1.trans fr2 fun p hp=> .inl (sub1 p hp)).trans fr3 fun p hp=> .inl (sub1 p (sub2 p hp))) (fun p hp=> .inl (sub1 p (sub2 p hp))) R3
       revert h
       split
       ·rename_i c e2
        split
        ·rename_i c' eu
         exact fun h=>step c .ow (by decide) e2 c' eu h
        ·exact fun h=>h.elim
       ·rename_i c e2
        split
        ·rename_i c' eu
         exact fun h=>step c .io (by decide) e2 c' eu h
        ·exact fun h=>h.elim
       ·exact fun h=>h.elim
def eD:D->D->D->Option D
 | .lst ds,.int k,d=>match ixN ds.length k with
  | some n=>some (.lst (ds.set n d))
  | none=>none
 | _,_,_=>none
theorem yG{K:Df}:PuS K Av eD:=by
 intro H L p c i d c' vi vd Q hO hp ri rd e q;unfold eD at e
 split at e
 ·rename_i ds k
  obtain ⟨xs,h1,h2⟩:=hO
  split at e
  ·rename_i n en
   cases e;exact ⟨p,xs,k,n,rfl,ri,h1,by rw [<- h2.len];exact en,q _ ⟨_,ao,h2.set rd n⟩⟩
  ·cases e
 ·cases e
section
variable{X:Cx}{EX:EXT}{e i:Expr}{pos pos' p1:Pos}{n:Str}{j:Nat}{f fi:SE}
theorem s_item(he:JE X EX e f)(hi:JE X EX i fi)(hN:X.N[j]?=some n)(hv:Vis X.env.scope n)(hs:swapsWithSole [.Subscript (.Name n p1) i pos'] e pos.line X.env=pure false:=by rfl)(hw:swappedStores [.Subscript (.Name n p1) i pos'] e X.env=pure none:=by rfl)
 (h1:(assignEach [.Subscript (.Name n p1) i pos'] X.env).map (·.2)=[assign (.Subscript (.Name n p1) i pos') X.env]:=by rfl)
 (ha:∀ v,assign (.Subscript (.Name n p1) i pos') X.env v=(do
   let ov <- holding [v] (eval (.Name n p1) X.env)
   let iv <- holding [v,ov] (eval i X.env)
   standAt pos'
   holding [v,ov,iv] (setItem ov iv v)
   release [v,ov,iv] []):=by intro _;rfl)
 (hd:(n == ("__debug__" : Str))=false:=by decide) (hcd:(n == ("__classdict__" : Str))=false:=by decide):JS X EX (.Assign [.Subscript (.Name n p1) i pos'] e pos) (cT eD j f fi) :=
 ⟨(vZ he.p (pg_sub (hX hN hv hd hcd) hi.p ko ha) hs hw h1).by fun D σ H h=>sM yG h⟩
end
def l8:D->D->D->Option D
 | .dK ks vs,k,d=>match jP k with
  | some k=>if (small ks.length&&decide ks.Nodup)=true then some (.dK (jn ks vs k d).1 (jn ks vs k d).2) else none
  | none=>none
 | .dT ks vs,.tup l,d=>match f9 l with
  | some k=>if (small ks.length&&decide ks.Nodup)=true then some (.dT (jn ks vs k d).1 (jn ks vs k d).2) else none
  | none=>none
 | _,_,_=>none
def rPutD:V->V->V->Hp->(Hp->Prop)->Prop:=fun x y v H Q=>∃ a H',x = .ref a/\oB H a y v H'/\Q H'
theorem yH{K:Df}:PuS K rPutD l8:=by
 intro H L p c i d c' vi vd Q hO hp ri rd e q;unfold l8 at e
 split at e
 ·rename_i ks vs
  obtain ⟨xs,h1,h2,h3⟩:=hO
  split at e
  ·rename_i k ek
   split at e
   ·rename_i hsn
    have hsn:=(Bh _ _).mp hsn;cases e;obtain ⟨i1,i2,i3⟩:=kG (x:=k) rd h2 h3;refine ⟨p,_,rfl,by rw [gC ek ri];exact oB.k (k:=k) h1 (by rw [Cc,<- h2,Cw];exact km hsn.1),q _ ⟨(iO ks xs k vd).2,?_,?_,i2⟩⟩
    ·rw [<- i1,kF h2 (A6 hsn.2)]
     exact ao
    ·rw [<- i1];exact i3
   ·cases e
  ·cases e
 ·rename_i ks vs l
  obtain ⟨xs,h1,h2,h3⟩:=hO;obtain ⟨b,ys,rfl,h4,h5⟩:=ri
  split at e
  ·rename_i k ek
   split at e
   ·rename_i hsn
    have hsn:=(Bh _ _).mp hsn;cases e;obtain ⟨i1,i2,i3⟩:=kG (x:=k) rd h2 h3;have h4:=(ai h4).2;rw [e9 ek h5] at h4;refine ⟨p,_,rfl,oB.t (k:=k) h1 h4 (by rw [Cc,<- h2,Cw];exact km hsn.1),q _ ⟨(iO ks xs k vd).2,?_,?_,i2⟩⟩
    ·rw [<- i1,kF h2 (A6 hsn.2)]
     exact ao
    ·rw [<- i1];exact i3
   ·cases e
  ·cases e
 ·cases e
section
variable{X:Cx}{EX:EXT}{e i:Expr}{pos pos' p1:Pos}{n:Str}{j:Nat}{f fi:SE}
theorem s_dput(hu:X.A.units+1 < cLine)(he:JE X EX e f)(hi:JE X EX i fi)(hN:X.N[j]?=some n)(hv:Vis X.env.scope n)(hs:swapsWith e (some (.Subscript (.Name n p1) i pos')) pos.line X.env=pure false:=by rfl)
 (hd:(n == ("__debug__" : Str))=false:=by decide) (hcd:(n == ("__classdict__" : Str))=false:=by decide):JS X EX (.Assign [.Subscript (.Name n p1) i pos'] e pos) (cT l8 j f fi) :=
 ⟨(yK hu (hX hN hv hd hcd) hi.p he.p hs).by fun D σ H h=>sM yH h⟩
def vB(d:D):SE:=fun ρ=>some (.ok d true,ρ)
theorem zY:JE X EX (.Dict [] [] pos) (vB (.dT [] [])):=⟨wc.by fun σ H Q ⟨F,ρ,W,R,h⟩ p hp=>h _ _ W ((ad.upd hp).fr) (fun _ z=>z) (gz.e (nw:=true) ⟨p,rfl,hp,[],ao,rfl,trivial⟩ R (ad.upd hp))⟩
end
end L2
namespace L2
open PySem PySem.Spec PyProof.Rows ZpA
def bX:D->Option (List D)
 | .lst ds=>some ds
 | .klst ds=>some ds
 | .tup ds=>some ds
 | .ktup ds=>some ds
 | _=>none
def ItsA:Kd->Df->Addr->L2.It
 | .L=>Itl
 | .T=>Itt
theorem SqA.same{c:Kd}{K:Df}{H H':Hp}{a:Addr}{xs:List V}(e:ad H H')(h:SqA c K H a xs):SqA c K H' a xs:=by
 cases c with
 | L=>exact e.seq h
 | T=>exact e.tup h
theorem ka{K:Df}{H:Hp}{d:D}{v:V}{ds:List D}(e:bX d=some ds)(r:av K H d v):∃ a c xs,v = .ref a/\SqA c K H a xs/\ae K H ds xs:=by
 cases d<;>first
  | (unfold bX at e;cases e;done)
  | (unfold bX at e;cases e;obtain ⟨p,xs,h1,h2,h3⟩:=r;exact ⟨p,.L,xs,h1,.inl (.inl h2),h3⟩)
  | (unfold bX at e;cases e;obtain ⟨p,xs,h1,h2,h3⟩:=r;exact ⟨p,.T,xs,h1,.inl (.inl h2),h3⟩)
  | (unfold bX at e;cases e;obtain ⟨p,xs,h1,h2,h3⟩:=r;exact ⟨p,.L,xs,h1,h2,h3⟩)
  | (unfold bX at e;cases e;obtain ⟨p,xs,h1,h2,h3⟩:=r;exact ⟨p,.T,xs,h1,dS h2,h3⟩)
def iSeqA(K:Df)(tl:TE):TI:=fun σ H R=>tl σ H fun x H1=>∃ a c,x = .ref a/\∃ xs,SqA c K H1 a xs/\(xs.length<=sizeLine->R (ItsA c K a) H1)
section
variable{X:Cx}{EX:EXT}{tg l:Expr}
theorem yO{tl:TE}(hl:PE X l tl):PI X tg l (iSeqA X.K tl):=by
 intro pins s σ H R I h
 refine thn (hl pins s σ H _ I h) fun v s1 ⟨x,H1,I1,r1,q1⟩=> ?_
 obtain ⟨a,c,e,xs,hq,q⟩:=q1;subst e;cases r1
 cases c with
 | L =>
  obtain ⟨its,rv,p,hz⟩:=I1.list hq;refine Ci p.isList ?_;refine ⟨s1.heap.objs.size,[s1.heap.objs.size],_,_,H1,rfl,I1.kept (t':=s1.toks) fun b o e=>AR _ e,tf a _,⟨_,AZ _ rfl,rfl,rfl⟩,fun b hb=> ?_,q hz⟩
  have e:b=s1.heap.objs.size:=by simpa using hb
  subst e;exact I1.fpOk (A8 _) (I1.hok.fresh (A8 _))
 | T =>
  obtain ⟨its,rv,p,hz⟩:=I1.tuple hq;refine Bx (show s1.heap.IsTuple a its.toArray from p) ?_;refine ⟨s1.heap.objs.size,[s1.heap.objs.size],_,_,H1,rfl,I1.kept (t':=s1.toks) fun b o e=>AR _ e,ki a _,⟨_,AZ _ rfl,rfl,rfl⟩,fun b hb=> ?_,q hz⟩
  have e:b=s1.heap.objs.size:=by simpa using hb
  subst e;exact I1.fpOk (A8 _) (I1.hok.fresh (A8 _))
theorem wP{K:Df}{L0:List Addr}{H0:Hp}{ds:List D}{xs:List V}{a:Addr}{c:Kd}(hs:SqA c K (hid L0 H0) a xs)(hr:ae K (hid L0 H0) ds xs)(hf:xs.length<=sizeLine):ItOk K L0 ds (ItsA c K a) H0 where
 go:=fun H L i d sm hm hd=>by
  obtain ⟨x0,e0,r0⟩:=hr.get hd;have sq:SqA c K H a xs:=hs.same (sm.trans am)
  cases c with
  | L=>exact ⟨⟨xs,x0,sq,e0⟩,fun x H' y=>by obtain ⟨rfl,y⟩:=y;have e:=y xs sq;rw [e0] at e;cases e;exact ⟨ad.refl _,sm.repD r0⟩⟩
  | T=>exact ⟨⟨xs,x0,sq,e0⟩,fun x H' y=>by obtain ⟨rfl,y⟩:=y;have e:=y xs sq;rw [e0] at e;cases e;exact ⟨ad.refl _,sm.repD r0⟩⟩
 stop:=fun H sm=>by
  have sq:SqA c K H a xs:=hs.same sm
  cases c with
  | L=>exact ⟨xs,sq,by rw [hr.len];exact A8 _⟩
  | T=>exact ⟨xs,sq,by rw [hr.len];exact A8 _⟩
 few:=by rw [hr.len];exact hf
def aZ(f:SE):SI:=fun ρ=>match f ρ with
 | some (.ok d _,ρ')=>match bX d with
  | some ds=>some (.ok ds,ρ')
  | none=>none
 | some (.ex C,ρ')=>some (.ex C,ρ')
 | none=>none
theorem i_seq{f:SE}(h:JE X EX l f):JI X EX tg l (aZ f) :=
 ⟨fun pins s σ H R I hw=>yO h.p pins s σ H R I (by
  obtain ⟨F,ρ,W,R0,h⟩:=hw;refine ⟨F,ρ,W,R0,?_⟩;unfold aZ at h
  revert h
  cases f ρ with
  | none=>exact fun h=>h
  | some q =>
   obtain ⟨q,ρ1⟩:=q
   cases q with
   | ex C=>exact fun h=>h
   | ok d nw =>
    dsimp only
    cases e:bX d with
    | none=>exact fun h=>h.elim
    | some ds =>
     intro h v H1 W1 fr1 sub1 P1;obtain ⟨rd,R1⟩:=P1.plain;obtain ⟨a,c,xs,rfl,hs,hr⟩:=ka e rd
     exact ⟨a,c,rfl,xs,hs.same am,fun hf=>h _ H1 W1 fr1 sub1 R1 (wP hs hr hf)⟩)⟩
def okR(lo hi:Int):Bool:=decide (-1000000000<=lo/\lo<=1000000000 /\ -1000000000<=hi/\hi<=1000000000/\(hi - lo).toNat<=1000000)
def lY:List D->Option Int
 | [.int j]=>some j
 | _=>none
def lX:List D->Option (Int×Int)
 | [.int i,.int j]=>some (i,j)
 | _=>none
theorem wS{K:Df}{H Hh:Hp}{ds:List D}{vs:List V}{j:Int}(e:lY ds=some j)(r:jX K H Hh ds vs):vs=[.int j]:=by
 unfold lY at e
 split at e
 ·cases e
  obtain ⟨y,rfl,ry⟩:=az r;rw [bN ry]
 ·cases e
theorem wR{K:Df}{H Hh:Hp}{ds:List D}{vs:List V}{i j:Int}(e:lX ds=some (i,j))(r:jX K H Hh ds vs):vs=[.int i,.int j]:=by
 unfold lX at e
 split at e
 ·cases e
  obtain ⟨y,z,rfl,ry,rz⟩:=aM r;rw [bN ry,bN rz]
 ·cases e
def ci(x:Arg):SI:=fun ρ=>match evA [x] ρ with
 | some (.ok ds,ρ')=>match lY ds with
  | some j=>if okR 0 j=true then some (.ok (fS 0 j.toNat),ρ') else none
  | none=>none
 | some (.ex C,ρ')=>some (.ex C,ρ')
 | none=>none
def eK(x y:Arg):SI:=fun ρ=>match evA [x,y] ρ with
 | some (.ok ds,ρ')=>match lX ds with
  | some (i,j)=>if okR i j=true then some (.ok (fS i (j - i).toNat),ρ') else none
  | none=>none
 | some (.ex C,ρ')=>some (.ex C,ρ')
 | none=>none
theorem oW{lo:Int}{n:Nat}:(fS lo n).length=n:=by unfold fS;simp
theorem vE{lo:Int}{n i:Nat}{d:D}(h:(fS lo n)[i]?=some d):i < n/\d = .int (lo+(i:Nat)):=by
 unfold fS at h;rw [Bf] at h;obtain ⟨k,hk,rfl⟩:=BI.mp h;obtain ⟨h1,h2⟩:=Be.mp hk;simp at h1 h2;subst h2;exact ⟨h1,rfl⟩
theorem pL{K:Df}{L0:List Addr}{H0:Hp}{lo:Int}{n:Nat}(hf:n<=1000000):ItOk K L0 (fS lo n) (Itr lo n) H0 where
 go:=fun H L i d sm hm hd=>by
  obtain ⟨h1,rfl⟩:=vE hd;exact ⟨h1,fun x H' y=>by obtain ⟨rfl,rfl⟩:=y;exact ⟨ad.refl _,rfl⟩⟩
 stop:=fun H sm=>by rw [oW];exact A8 n
 few:=by rw [oW];exact B5 hf (by decide)
theorem i_rng1{a:Expr}{x:Arg}{p pos:Pos}(hg:Gl X "range")(hm:X.mg "range" = none)(ha:JA X EX [a] [x])(hs:starEach [a] X.env=[(false,eval a X.env)]:=by rfl):JI X EX tg (.Call (.Name "range" p) [a] [] pos) (ci x) :=
 ⟨fun pins s σ H R I hw=>mm hg hm ha.p hs pins s σ H R I (by
  obtain ⟨F,ρ,W,R0,h⟩:=hw;refine mU [x] R0 ?_;unfold ci at h
  revert h
  cases evA [x] ρ with
  | none=>exact fun h=>h
  | some q =>
   obtain ⟨q,ρ1⟩:=q
   cases q with
   | ex C=>exact fun h=>h
   | ok ds =>
    dsimp only
    cases e:lY ds with
    | none=>exact fun h=>h.elim
    | some j =>
     dsimp only
     split
     ·rename_i hj
      have hj:=A6 hj;intro h vs H1 W1 fr1 sub1 R1 reps;exact ⟨j,wS e reps,by omega,by omega,h _ H1 W1 fr1 sub1 R1 (pL (by have:=hj.2.2.2.2;omega))⟩
     ·exact fun h=>h.elim)⟩
theorem i_rng2{a b:Expr}{x y:Arg}{p pos:Pos}(hg:Gl X "range")(hm:X.mg "range" = none)(ha:JA X EX [a,b] [x,y])(hs:starEach [a,b] X.env=[(false,eval a X.env),(false,eval b X.env)]:=by rfl)(hs2:starEach [b] X.env=[(false,eval b X.env)]:=by rfl):JI X EX tg (.Call (.Name "range" p) [a,b] [] pos) (eK x y) :=
 ⟨fun pins s σ H R I hw=>tF hg hm ha.p hs hs2 pins s σ H R I (by
  obtain ⟨F,ρ,W,R0,h⟩:=hw;refine mU [x,y] R0 ?_;unfold eK at h
  revert h
  cases evA [x,y] ρ with
  | none=>exact fun h=>h
  | some q =>
   obtain ⟨q,ρ1⟩:=q
   cases q with
   | ex C=>exact fun h=>h
   | ok ds =>
    dsimp only
    cases e:lX ds with
    | none=>exact fun h=>h.elim
    | some ij =>
     obtain ⟨i,j⟩:=ij;dsimp only
     split
     ·rename_i hj
      have hj:=A6 hj;intro h vs H1 W1 fr1 sub1 R1 reps;exact ⟨i,j,wR e reps,⟨by omega,by omega,by omega,by omega⟩,h _ H1 W1 fr1 sub1 R1 (pL hj.2.2.2.2)⟩
     ·exact fun h=>h.elim)⟩
def gh:Nat->List D->List D
 | _,[]=>[]
 | i,d::ds=> .tup [.int (i:Nat),d]::gh (i+1) ds
theorem jC:∀ {i:Nat} {ds:List D},(gh i ds).length=ds.length
 | _,[]=>rfl
 | i,d::ds=>by unfold gh;rw [A3,A3,jC]
theorem mK:∀ {i j:Nat} {ds:List D} {e:D},(gh i ds)[j]?=some e->∃ d,ds[j]?=some d/\e = .tup [.int ((i+j:Nat)),d]
 | i,j,[],e,h=>by unfold gh at h;simp at h
 | i,0,d::ds,e,h=>by
  unfold gh at h;simp only [Bl,Option.some.injEq] at h;exact ⟨d,rfl,h.symm⟩
 | i,j+1,d::ds,e,h=>by
  unfold gh at h;simp only [Bs] at h ⊢;obtain ⟨d',h1,h2⟩:=mK h;exact ⟨d',h1,by rw [h2,show i+1+j=i+(j+1) by omega]⟩
def jf:List D->List D->List D
 | a::as,b::bs=> .tup [a,b]::jf as bs
 | _,_=>[]
theorem kg:∀ {as bs:List D},as.length<=bs.length->(jf as bs).length=as.length
 | [],_,_=>by unfold jf;rfl
 | a::as,b::bs,h=>by unfold jf;rw [A3,A3,kg (by simpa using h)]
 | _::_,[],h=>by simp at h
theorem oD:∀ {as bs:List D} {j:Nat} {e:D},(jf as bs)[j]?=some e->∃ a b,as[j]?=some a/\bs[j]?=some b/\e = .tup [a,b]
 | [],_,j,e,h=>by unfold jf at h;simp at h
 | _::_,[],j,e,h=>by unfold jf at h;simp at h
 | a::as,b::bs,0,e,h=>by
  unfold jf at h;simp only [Bl,Option.some.injEq] at h;exact ⟨a,b,rfl,rfl,h.symm⟩
 | a::as,b::bs,j+1,e,h=>by
  unfold jf at h;simp only [Bs] at h ⊢;exact oD h
def fy(f:SE):SI:=fun ρ=>match f ρ with
 | some (.ok d _,ρ')=>match bX d with
  | some ds=>some (.ok (gh 0 ds),ρ')
  | none=>none
 | some (.ex C,ρ')=>some (.ex C,ρ')
 | none=>none
theorem ph{K:Df}{H:Hp}{L:List Addr}{p:Addr}{a b:D}{x y:V}(hm:∀ p∈L,dO (H p))(hp:H p=none)(ra:av K (hid L H) a x)(rb:av K (hid L H) b y):av K (hid L (upd H p (.tup [x,y]))) (.tup [a,b]) (.ref p) :=
 iU hm (show ae K (hid L H) [a,b] [x,y] from ⟨ra,rb,trivial⟩) (ad.upd hp) ao
theorem i_enum{elts:List Expr}{k}{tpos:Pos}{f:SE}{p pos:Pos}(hg:Gl X "enumerate")(hm:X.mg "enumerate" = none)(h:JE X EX l f)(hs:starEach [l] X.env=[(false,eval l X.env)]:=by rfl):JI X EX (.Tuple elts k tpos) (.Call (.Name "enumerate" p) [l] [] pos) (fy f) :=
 ⟨fun pins s σ H R I hw=>v7 hg hm (cQ h.p eY hs) hs pins s σ H R I (by
  obtain ⟨F,ρ,W,R0,h⟩:=hw;refine ⟨F,ρ,W,R0,?_⟩;unfold fy at h
  revert h
  cases f ρ with
  | none=>exact fun h=>h
  | some q =>
   obtain ⟨q,ρ1⟩:=q
   cases q with
   | ex C=>exact fun h=>h
   | ok d nw =>
    dsimp only
    cases e:bX d with
    | none=>exact fun h=>h.elim
    | some ds =>
     intro h v H1 W1 fr1 sub1 P1;obtain ⟨rd,R1⟩:=P1.plain;obtain ⟨a,c,xs,rfl,hq,hr⟩:=ka e rd;refine ⟨a,c,rfl,xs,hq.same am,fun hf=>h _ H1 W1 fr1 sub1 R1 ⟨fun H L i d sm hm hd=> ?_,fun H sm=> ?_,?_⟩⟩
     ·obtain ⟨d0,e0,rfl⟩:=mK hd
      obtain ⟨x0,ex,r0⟩:=hr.get e0;have sq:SqA c X.K H a xs:=hq.same (sm.trans am);refine ⟨⟨xs,x0,sq,ex⟩,fun x H' y=> ?_⟩;obtain ⟨p,y,rfl,hp,rfl,hy⟩:=y;have e1:=hy xs sq;rw [ex] at e1;cases e1;refine ⟨ad.upd hp,?_⟩;have:=ph (K:=X.K) (a:= .int ((i:Nat):Int)) (x:= .int (i:Nat)) hm hp rfl (sm.repD r0);rw [BA];exact this
     ·rw [jC,hr.len]
      exact ⟨xs,hq.same sm,A8 _⟩
     ·rw [jC,hr.len];exact hf)⟩
def vy:List D->Option (List D×List D)
 | [a,b]=>match bX a,bX b with
  | some x,some y=>some (x,y)
  | _,_=>none
 | _=>none
def jj(fs:List SE):SI:=fun ρ=>match evA (fs.map Arg.ex) ρ with
 | some (.ok ds,ρ')=>match vy ds with
  | some (a,b)=>if decide (a.length<=b.length)=true then some (.ok (jf a b),ρ') else none
  | none=>none
 | some (.ex C,ρ')=>some (.ex C,ρ')
 | none=>none
theorem i_zip{elts:List Expr}{k}{tpos:Pos}{l l':Expr}{fs:List SE}{p pos:Pos}(hg:Gl X "zip")(hm:X.mg "zip" = none)(h:JF X EX [l,l'] fs)(hs:starEach [l,l'] X.env=[(false,eval l X.env),(false,eval l' X.env)]:=by rfl)(hs2:starEach [l'] X.env=[(false,eval l' X.env)]:=by rfl) :
 JI X EX (.Tuple elts k tpos) (.Call (.Name "zip" p) [l,l'] [] pos) (jj fs) :=
 ⟨fun pins s σ H R I hw=>yN hg hm h.p hs hs2 pins s σ H R I (by
  obtain ⟨F,ρ,W,R0,h⟩:=hw;refine mH fs R0 ?_;unfold jj at h
  revert h
  cases evA (fs.map Arg.ex) ρ with
  | none=>exact fun h=>h
  | some q =>
   obtain ⟨q,ρ1⟩:=q
   cases q with
   | ex C=>exact fun h=>h
   | ok ds =>
    dsimp only
    cases e:vy ds with
    | none=>exact fun h=>h.elim
    | some ab =>
     obtain ⟨as,bs⟩:=ab;dsimp only
     split
     ·rename_i hl
      have hl:=A6 hl;intro h vs H1 W1 fr1 sub1 R1 reps;unfold vy at e
      split at e
      ·rename_i da db
       split at e
       ·rename_i x y ea eb
        cases e
        match vs,reps with
        | [va,vb],reps =>
         obtain ⟨a,c1,xs,rfl,hq,hr⟩:=ka ea reps.1;obtain ⟨b,c2,ys,rfl,hq2,hr2⟩:=ka eb reps.2.1;refine ⟨a,b,c1,c2,rfl,xs,hq.same am,fun hf=>⟨⟨ys,hq2.same am⟩,h _ H1 W1 fr1 sub1 R1 ⟨fun H L i d sm hm hd=> ?_,fun H sm=> ?_,?_⟩⟩⟩
         ·obtain ⟨d1,d2,e1,e2,rfl⟩:=oD hd
          obtain ⟨x0,ex,r0⟩:=hr.get e1;obtain ⟨y0,ey,r1⟩:=hr2.get e2;have sq:SqA c1 X.K H a xs:=hq.same (sm.trans am);have sq2:SqA c2 X.K H b ys:=hq2.same (sm.trans am);refine ⟨⟨xs,ys,x0,y0,sq,sq2,ex,ey⟩,fun x H' y=> ?_⟩;obtain ⟨p,y,z,rfl,hp,rfl,hy,hz⟩:=y;have e3:=hy xs sq;have e4:=hz ys sq2;rw [ex] at e3;rw [ey] at e4;cases e3;cases e4;exact ⟨ad.upd hp,ph hm hp (sm.repD r0) (sm.repD r1)⟩
         ·rw [kg hl,hr.len]
          exact ⟨xs,hq.same sm,A8 _⟩
         ·rw [kg hl,hr.len];exact hf
       ·cases e
      ·cases e
     ·exact fun h=>h.elim)⟩
end
def cN(g g':List D->Option (D×Bool))(f1 f2 f3:SE):SE:=fun ρ=>match evA [.ex f1,.ex f2] ρ with
 | some (.ok [a,b],ρ1)=>match g [a,b] with
  | some (.bl true,false)=>match f3 ρ1 with
   | some (.ok c _,ρ2)=>match g' [b,c] with
    | some (d,false)=>some (.ok d false,ρ2)
    | _=>none
   | some (.ex C,ρ2)=>some (.ex C,ρ2)
   | none=>none
  | some (.bl false,false)=>some (.ok (.bl false) false,ρ1)
  | _=>none
 | some (.ok _,_)=>none
 | some (.ex C,ρ')=>some (.ex C,ρ')
 | none=>none
theorem xB{K:Df}{EX:EXT}{σ:St}{H:Hp}{Q:VK}{r r':R2}{g g':List D->Option (D×Bool)}{f1 f2 f3:SE}(hs:OpS K (r2 r) g)(hs':OpS K (r2 r') g')(hw:tV K EX (cN g g' f1 f2 f3) σ H Q):vo r r' (tV K EX f1) (tV K EX f2) (tV K EX f3) σ H Q:=by
 obtain ⟨F,ρ,W,R,h⟩:=hw
 have z:tAs K EX (([f1,f2]:List SE).map Arg.ex) σ H (fun vs H2=>match vs with
  | [x,y]=>r x y H2 fun z H3=>∃ k,z = .bl k/\(if k=true then tV K EX f3 σ H3 fun w' H4=>r' y w' H4 Q else Q (.bl false) H3)
  | _=>False):=by
  refine mH [f1,f2] R ?_;unfold cN at h
  revert h
  show OkV K F EX σ H W (match evA (([f1,f2]:List SE).map Arg.ex) ρ with
   | some (.ok [a,b],ρ1)=>match g [a,b] with
    | some (.bl true,false)=>match f3 ρ1 with
     | some (.ok c _,ρ2)=>match g' [b,c] with
      | some (d,false)=>some (.ok d false,ρ2)
      | _=>none
     | some (.ex C,ρ2)=>some (.ex C,ρ2)
     | none=>none
    | some (.bl false,false)=>some (.ok (.bl false) false,ρ1)
    | _=>none
   | some (.ok _,_)=>none
   | some (.ex C,ρ')=>some (.ex C,ρ')
   | none=>none) Q->_
  cases evA (([f1,f2]:List SE).map Arg.ex) ρ with
  | none=>exact fun h=>h
  | some q =>
   obtain ⟨q,ρ1⟩:=q
   cases q with
   | ex C=>exact fun h=>h
   | ok ds =>
    match ds with
    | []=>exact fun h=>h.elim
    | [_]=>exact fun h=>h.elim
    | _::_::_::_=>exact fun h=>h.elim
    | [a,b] =>
     dsimp only;intro h vs H1 W1 fr1 sub1 R1 reps
     match vs,reps with
     | [x,y],reps =>
      have rb:jX K H1 (hid (W1++F.Z) H1) [a,b] [x,y]:=⟨av.b reps.1 am,av.b reps.2.1 am,trivial⟩
      cases eg:g [a,b] with
      | none=>rw [eg] at h;exact h.elim
      | some dn =>
       obtain ⟨d,nw⟩:=dn;rw [eg] at h
       refine hs [x,y] [a,b] H1 (W1++F.Z) _ d nw R1.mt rb eg fun z H2 s2 p2=> ?_
       have fr2:Fr W H H2:=fr1.trans (s2.fr (W:=W1)) fun p hp=> .inl (sub1 p hp)
       cases d<;>first | (exact h.elim) | skip
       rename_i k
       cases nw with
       | true=>cases k<;>exact h.elim
       | false =>
        have hz:z = .bl k:=p2;refine ⟨k,hz,?_⟩;have R2:=R1.same s2
        cases k with
        | false =>
         rw [if_neg Bj];exact h _ H2 W1 fr2 sub1 ⟨rfl,R2⟩
        | true =>
         rw [if_pos rfl];refine ⟨F,ρ1,W1,R2,?_⟩
         revert h
         dsimp only
         cases f3 ρ1 with
         | none=>exact fun h=>h
         | some q =>
          obtain ⟨q,ρ2⟩:=q
          cases q with
          | ex C=>exact fun h H3 W3 fr3 sub3 R3=>h H3 W3 (fr2.trans fr3 fun p hp=> .inl (sub1 p hp)) (fun p hp=>sub1 p (sub3 p hp)) R3
          | ok c nw2 =>
           dsimp only;intro h w' H3 W3 fr3 sub3 P3;obtain ⟨rc,R3⟩:=P3.plain;have ry:av K (hid (W3++F.Z) H3) b y:=(fr3.hid fun p hp=> .inl (sub3 p hp)).repD ((aI (fun b hb=> .inl hb) fun b o _ e=>s2 b o e:ad (hid (W1++F.Z) H1) (hid (W1++F.Z) H2)).repD reps.2.1)
           cases eg2:g' [b,c] with
           | none=>rw [eg2] at h;exact h.elim
           | some dn =>
            obtain ⟨d2,nw3⟩:=dn;rw [eg2] at h
            cases nw3 with
            | true=>exact h.elim
            | false =>
             refine hs' [y,w'] [b,c] H3 (W3++F.Z) _ d2 false R3.mt ⟨av.b ry am,av.b rc am,trivial⟩ eg2 fun v H4 s4 p4=> ?_
             exact h v H4 W3 ((fr2.trans fr3 fun p hp=> .inl (sub1 p hp)).trans (s4.fr (W:=W3)) fun p hp=> .inl (sub1 p (sub3 p hp))) (fun p hp=>sub1 p (sub3 p hp)) ⟨p4,R3.same s4⟩
 exact z
section
variable{X:Cx}{EX:EXT}{a b c:Expr}{pos:Pos}
theorem zZ{op op':CmpOp}{r r':R2}{g g':List D->Option (D×Bool)}{f1 f2 f3:SE}(ho:OpR X (compareOp op) r)(ho':OpR X (compareOp op') r')(hs:OpS X.K (r2 r) g)(hs':OpS X.K (r2 r') g')(ha:JE X EX a f1)(hb:JE X EX b f2)(hc:JE X EX c f3)
 (hm:lastMarks [op,op'] [b,c]=false:=by with_unfolding_all rfl):JE X EX (.Compare a [op,op'] [b,c] pos) (cN g g' f1 f2 f3) :=
 ⟨(we ho ho' ha.p hb.p hc.p hm).by fun σ H Q h=>xB hs hs' h⟩
end
def o4(K:Df):List V->Hp->VK->Prop:=fun xs H Q=>∃ (p:Addr) (ns:List Int),xs=[V.ref p]/\SqL K H p (ns.map V.int)/\ns.length < 64 /\
 ∀ l (ms:List Int),H l=none->List.Perm ms ns->ms.Pairwise (·>= ·)->Q (.ref l) (upd H l (.lst (ms.map V.int)))
def eQ:List D->Option (D×Bool)
 | [.lst ds]=>match aN ds with
  | some ns=>if decide (ns.length < 64)=true then some (.lst ((aC ns).reverse.map D.int),true) else none
  | none=>none
 | _=>none
theorem qM{K:Df}:OpS K (o4 K) eQ:=by
 intro vs ds H L Q d nw hm r e q;unfold eQ at e
 split at e
 ·rename_i es
  obtain ⟨x,rfl,⟨p,xs,rfl,h1,h2⟩⟩:=az r
  cases en:aN es with
  | none=>rw [en] at e;cases e
  | some ns =>
   rw [en] at e;dsimp only at e
   split at e
   ·rename_i hl
    cases e;rw [aV en] at h2;rw [aP h2] at h1;refine ⟨p,ns,rfl,.inl (.inl h1),A6 hl,fun l ms hl' hp hs=> ?_⟩;have h1:ms.reverse.Pairwise (·<= ·):=List.pairwise_reverse.mpr hs;have:ms.reverse=aC ns:=bg h1 (bT ns) ((List.reverse_perm ms).trans (hp.trans (aX ns).symm))
    have:ms=(aC ns).reverse:=by rw [<- this,List.reverse_reverse]
    subst this;exact q _ _ (ad.upd hl') (bS (ce _) hl')
   ·cases e
 ·cases e
theorem qL{X:Cx}{e:Expr}{te:TE}{p pos kp kpos:Pos}{j}(hg:Gl X "sorted")(hm:X.mg "sorted" = none)(he:PE X e te)(hs:starEach [e] X.env=[(false,eval e X.env)]:=by rfl) :
 PE X (.Call (.Name "sorted" p) [e] [⟨some "reverse",.Constant (.bool true) j kp,kpos⟩] pos) (tCB (o4 X.K) (rX te yb)):=by
 intro pins s σ H Q I h;refine Da (f8 I hg hm PyProof.Rows.boot_sorted ?_ (by decide) (by decide));refine PyProof.Rows.callWith_kw (thn (cQ (es:=[]) he eY hs pos pins s σ H _ I h) fun us s1 ⟨vs,H1,I1,r1,q1⟩=> ?_) (by rw [hs];rfl) (by rw [hs];rfl) rfl rfl;obtain ⟨pp,ns,rfl,hq,h64,q⟩:=q1;obtain ⟨u,rfl,ru⟩:=bn r1;cases ru
 refine thn (yM (kws:=[]) (nm:=some "reverse") (kpos:=kpos) AA pk_nil pos pins s1 σ H1 (fun zs H2=>zs=[.bl true]/\H2=H1) I1 ⟨rfl,rfl⟩) fun kvs s2 ⟨zs,H2,I2,r2,hzs,hH⟩=> ?_
 subst hzs hH;obtain ⟨u2,rfl,ru2⟩:=bn r2;cases ru2;obtain ⟨its,rv,pl,hz⟩:=I2.list hq;have hlen:=rv.length;rw [AO] at hlen
 refine PyProof.Rows.sorted_ints_rev (b:=true) pl.isList (cf rv) (by omega) fun out ms hi hp ho=> ?_
 have hf:H2 (s2.heap.objs.size+1)=none:=I2.hok.fresh (CW _);obtain ⟨e',he'⟩:=sortedAll_at s2.heap its out;refine ⟨.ref (s2.heap.objs.size+1),upd H2 (s2.heap.objs.size+1) (.lst (ms.map V.int)),I2.laid (t':=s2.toks) (fun b o=>sortedAll_old) (CW _) ⟨?_,out.toList,e',fI hi,by simpa using he'⟩,rfl,q _ _ hf hp (by unfold Ordered at ho;rw [if_pos rfl] at ho;exact ho)⟩;rw [AO,hp.length_eq]
 rwa [AO] at hz
theorem uM{X:Cx}{EX:EXT}{e:Expr}{x:Arg}{p pos kp kpos:Pos}{j}(hg:Gl X "sorted")(hm:X.mg "sorted" = none)(he:JB X EX e x)(hs:starEach [e] X.env=[(false,eval e X.env)]:=by rfl) :
 JE X EX (.Call (.Name "sorted" p) [e] [⟨some "reverse",.Constant (.bool true) j kp,kpos⟩] pos) (sOp eQ [x]) :=
 ⟨(qL hg hm he.p hs).by fun σ H Q ⟨F,ρ,W,R,h⟩=>cA qM R h⟩
end L2
namespace L2
open PySem PySem.Spec PyProof.Rows
section
variable{X:Cx}
def vR(K:Df):List V->Hp->(V->Hp->Prop)->Prop:=fun xs H Q=>∃ (p:Addr) (ns:List Int),xs=[V.ref p]/\SqT K H p (ns.map V.int)/\ns≠[]/\∀ M,M∈ns->(∀ a∈ns,a<=M)->Q (.int M) H
def vQ(K:Df):List V->Hp->(V->Hp->Prop)->Prop:=fun xs H Q=>∃ (p:Addr) (ns:List Int),xs=[V.ref p]/\SqT K H p (ns.map V.int)/\ns≠[]/\∀ M,M∈ns->(∀ a∈ns,M<=a)->Q (.int M) H
theorem uB(hc:X.calm=true):aw X (.builtin "max") (vR X.K):=by
 intro pins s σ H xs us Q I r h;obtain ⟨p,ns,rfl,hq,ne,q⟩:=h;obtain ⟨u,rfl,ru⟩:=bn r;cases ru;obtain ⟨its,rv,pl,hz⟩:=I.tuple hq;obtain ⟨ps,rfl,e⟩:=cJ rv
 have lp:ps.length=ns.length:=by rw [<- e,AO]
 have n0:0 < ns.length:=BE.mpr ne
 have ei:intItems ps.toArray=(ps.map fun p=>Value.int p.1 p.2).toArray:=by unfold intItems;simp
 have ht:s.heap.IsTuple p (intItems ps.toArray):=by rw [ei];exact pl
 have hlt:p < s.heap.objs.size:=by obtain ⟨_,e,_⟩:=ht;exact A5 e
 have sz:ps.toArray.size=ns.length:=by simp [lp]
 obtain ⟨b1,b2⟩:=argBest_gt (numAt ps.toArray) (ps.toArray.size - 1);refine call_max_walk (Bx ht ⟨s.heap.objs.size,_,_,_,_,_,_,rfl,Walks.tuple (A:=X.A.in1) (I.ok.hd hc) _ p (Bi hlt) (intItems ps.toArray),⟨⟨_,AZ _ rfl,rfl,rfl⟩,ht.push _⟩,fun c hcm=> ?_,by simpa [intItems,lp] using n0,CmpOf.ints_gt (numAt ps.toArray) (fun _ _=>intItems_at),fun v h' tk hP hk=> ?_⟩)
 ·have e1:c=s.heap.objs.size\/c=p:=by simpa using hcm
  show c < (s.heap.push _).objs.size
  rw [Bw]
  rcases e1 with e1 | e1
  ·rw [e1];exact Cp _
  ·rw [e1];exact B1 hlt
 ·have hv:(intItems ps.toArray)[argBest (fun i j=>decide (numAt ps.toArray i > numAt ps.toArray j)) (ps.toArray.size - 1)]?=some v:=by simpa [intItems] using hP
  obtain ⟨t,rfl⟩:=intItems_at hv;rw [sz] at b1 b2 ⊢;refine ⟨.int _,H,I.kept (h':=h') (t':=tk) fun b' o e=>hk b' o (by have:=A5 e;simp;exact Bi this) (AR _ e),⟨t,rfl⟩,q _ ?_ fun a ha=> ?_⟩
  ·rw [cm e (by omega)]
   exact BG _
  ·obtain ⟨j,hj,rfl⟩:=CH ha
   have:=b2 j (by omega);rw [cm e hj] at this;exact this
theorem uw(hc:X.calm=true):aw X (.builtin "min") (vQ X.K):=by
 intro pins s σ H xs us Q I r h;obtain ⟨p,ns,rfl,hq,ne,q⟩:=h;obtain ⟨u,rfl,ru⟩:=bn r;cases ru;obtain ⟨its,rv,pl,hz⟩:=I.tuple hq;obtain ⟨ps,rfl,e⟩:=cJ rv
 have lp:ps.length=ns.length:=by rw [<- e,AO]
 have n0:0 < ns.length:=BE.mpr ne
 have ei:intItems ps.toArray=(ps.map fun p=>Value.int p.1 p.2).toArray:=by unfold intItems;simp
 have ht:s.heap.IsTuple p (intItems ps.toArray):=by rw [ei];exact pl
 have hlt:p < s.heap.objs.size:=by obtain ⟨_,e,_⟩:=ht;exact A5 e
 have sz:ps.toArray.size=ns.length:=by simp [lp]
 obtain ⟨b1,b2⟩:=argBest_lt (numAt ps.toArray) (ps.toArray.size - 1);refine call_min_walk (Bx ht ⟨s.heap.objs.size,_,_,_,_,_,_,rfl,Walks.tuple (A:=X.A.in1) (I.ok.hd hc) _ p (Bi hlt) (intItems ps.toArray),⟨⟨_,AZ _ rfl,rfl,rfl⟩,ht.push _⟩,fun c hcm=> ?_,by simpa [intItems,lp] using n0,CmpOf.ints_lt (numAt ps.toArray) (fun _ _=>intItems_at),fun v h' tk hP hk=> ?_⟩)
 ·have e1:c=s.heap.objs.size\/c=p:=by simpa using hcm
  show c < (s.heap.push _).objs.size
  rw [Bw]
  rcases e1 with e1 | e1
  ·rw [e1];exact Cp _
  ·rw [e1];exact B1 hlt
 ·have hv:(intItems ps.toArray)[argBest (fun i j=>decide (numAt ps.toArray i < numAt ps.toArray j)) (ps.toArray.size - 1)]?=some v:=by simpa [intItems] using hP
  obtain ⟨t,rfl⟩:=intItems_at hv;rw [sz] at b1 b2 ⊢;refine ⟨.int _,H,I.kept (h':=h') (t':=tk) fun b' o e=>hk b' o (by have:=A5 e;simp;exact Bi this) (AR _ e),⟨t,rfl⟩,q _ ?_ fun a ha=> ?_⟩
  ·rw [cm e (by omega)]
   exact BG _
  ·obtain ⟨j,hj,rfl⟩:=CH ha
   have:=b2 j (by omega);rw [cm e hj] at this;exact this
end
def dH:List D->Option (D×Bool)
 | [.tup ds]=>match aN ds with
  | some (n::ns)=>some (.int (dQ (n::ns)),false)
  | _=>none
 | ds=>xb ds
def gc:List D->Option (D×Bool)
 | [.tup ds]=>match aN ds with
  | some (n::ns)=>some (.int (fG (n::ns)),false)
  | _=>none
 | ds=>zL ds
theorem uD{X:Cx}(hc:X.calm=true):aw X (.builtin "max") (fun xs H Q=>(so xs H Q\/o7 X.K xs H Q)\/vR X.K xs H Q):=(uE hc).or (uB hc)
theorem uy{X:Cx}(hc:X.calm=true):aw X (.builtin "min") (fun xs H Q=>(sk xs H Q\/o5 X.K xs H Q)\/vQ X.K xs H Q):=(uz hc).or (uw hc)
theorem yV{K:Df}:OpS K (fun xs H Q=>(so xs H Q\/o7 K xs H Q)\/vR K xs H Q) dH:=by
 intro vs ds H L Q d nw hm r e q;unfold dH at e
 split at e
 ·rename_i es
  obtain ⟨x,rfl,⟨p,xs,rfl,h1,h2⟩⟩:=az r
  split at e
  ·rename_i n ns en
   cases e;rw [aV en] at h2;rw [aP h2] at h1;refine .inr ⟨p,n::ns,rfl,.inl (.inl (ai h1).2),by simp,fun M m1 m2=> ?_⟩;obtain ⟨z1,z2⟩:=gB (l:=n::ns) (by simp);rw [lD m1 m2 z1 z2];exact q _ H (ad.refl _) rfl
  ·cases e
 ·exact .inl (os_max vs _ H L Q d nw hm r e q)
theorem yU{K:Df}:OpS K (fun xs H Q=>(sk xs H Q\/o5 K xs H Q)\/vQ K xs H Q) gc:=by
 intro vs ds H L Q d nw hm r e q;unfold gc at e
 split at e
 ·rename_i es
  obtain ⟨x,rfl,⟨p,xs,rfl,h1,h2⟩⟩:=az r
  split at e
  ·rename_i n ns en
   cases e;rw [aV en] at h2;rw [aP h2] at h1;refine .inr ⟨p,n::ns,rfl,.inl (.inl (ai h1).2),by simp,fun M m1 m2=> ?_⟩;obtain ⟨z1,z2⟩:=iV (l:=n::ns) (by simp);rw [k7 m1 m2 z1 z2];exact q _ H (ad.refl _) rfl
  ·cases e
 ·exact .inl (os_min vs _ H L Q d nw hm r e q)
def ky(nm:Str):SS:=fun ρ=>some (.ex nm,ρ)
theorem ym{P:Program}{w:World}{K:Df}{mg:Str->Option Value}{base:Heap}{N:List Str}{qual:Str}{scope:Scope}{f:Addr}{cd:Value}{A:Around}{outer:List Env}{s:Shared}{H:Hp}{E:XK}{x:Str}{C:Addr}{bm:List Value}{B newId initId:String}{np cpos pos:Pos}{k:Nat}
 (O:OwnCls x C bm newId mg base) (FB:ExcBaseFacts B newId initId bm) (hc:nY K x C) (hr:cq k (A.deeper (envOfC qual scope s.heap.objs.size f cd)))
 (hg:Gl (bQ (CXr P w) P w K mg base N qual scope f cd A outer s H E) x) (hd:(x == ("__debug__" : Str))=false:=by decide):JS (bQ (CXr P w) P w K mg base N qual scope f cd A outer s H E) (EXf K E) (.Raise (some (.Call (.Name x np) [] [] cpos)) none pos) (ky x) :=
 ⟨(tB O FB hr.hd hg hd).by fun D σ H ⟨F,ρ,W,R,h⟩=>h σ H W .refl (fun _ z=> .inl z) R C hc none⟩
theorem Ok.x{P:Program}{w:World}{K:Df}{mg:Str->Option Value}{base:Heap}{x:Str}{ps:List Str}{k:Nat}{sp sp':Sp}(h:Ok P w K mg base x ps k sp)(hi:∀ vs H Q E,sp' vs H Q E->sp vs H Q E):OkX P w K mg base x ps k sp':=by
 obtain ⟨f,fd,h1,h2,h3,F⟩:=h.ex;refine ⟨f,fd,h1,h2,h3,⟨fun vs H Q E q=>F.len vs H Q E (hi _ _ _ _ q),fun A outer s H args us vs Q E hr he hb hv hs=> ?_⟩⟩
 refine codeAny_mono (F.run A outer s H args us vs Q E hr he hb hv (hi _ _ _ _ hs)) fun r s' q=> ?_
 cases r with
 | ok f=>cases f<;>exact q
 | error e=>exact q.elim
theorem yf{K:Df}{run:FS}{H:Hp}{a:Addr}{ns:List Int}(hrun:∃ x,run [.klst (ns.map D.int)]=some (.ok (.bl true) false,x))(hS:SqL K H a (ns.map V.int)):spF K none run [.ref a] H (fun v _=>v = .bl true) fun _ _ _=>False:=by
 obtain ⟨x,hx⟩:=hrun;refine ⟨[],[],[.klst (ns.map D.int)],rfl,(fun p hp=>by cases hp),(fun p hp=>by cases hp),fun j d v _ h1 h2=> ?_,(fun k z=>by cases z),fun _=>rfl,?_⟩
 ·have hh:hid ([]++[]) H=H:=by funext b;unfold hid;simp
  rw [hh]
  match j,h1,h2 with
  | 0,h1,h2 =>
   simp only [Bl,Option.some.injEq] at h1 h2;subst h1 h2;exact ⟨a,_,rfl,hS,ce ns⟩
  | j+1,h1,h2=>simp at h1
 ·rw [hx]
  exact fun v H' _ rv _=>rv
theorem um{P:Program}{w:World}{H:Hp}{s:Shared}{e:Value}{s':Shared}(h:CXr P w [] H s (fun _ _ _=>False) e s'):False:=by
 obtain ⟨_,_,_,_,_,_,_,_,_,_,z⟩:=h;exact z
section
variable{X:Cx}{EX:EXT}{a b e:Expr}{es:List Expr}{pos p:Pos}{x y:Arg}{as:List Arg}
theorem c_gk{n:Str}{d:D}(hg:Gl X n)(hm:∃ a,X.mg n=some (.ref a)/\∀ H,av X.K H d (.ref a))(hd:(n == ("__debug__" : Str))=false:=by decide):JE X EX (.Name n pos) (sC d):=by
 obtain ⟨a,hm,hr⟩:=hm;exact ⟨(yP (v:= .ref a) hg hm rfl hd).by fun _ _ _=>oQ hr⟩
theorem v(i:Nat){n:Str}(hN:X.N[i]?=some n:=by rfl)(hv:Vis X.env.scope n:=by first | exact Or.inl rfl | exact Or.inr (Or.inl rfl) | exact Or.inr (Or.inr rfl))(hd:(n == ("__debug__" : Str))=false:=by decide)(hcd:(n == ("__classdict__" : Str))=false:=by decide):JE X EX (.Name n pos) (aG i):=c_var hN hv hd hcd
theorem vb(i:Nat){n:Str}(hN:X.N[i]?=some n:=by rfl)(hv:Vis X.env.scope n:=by first | exact Or.inl rfl | exact Or.inr (Or.inl rfl) | exact Or.inr (Or.inr rfl))(hd:(n == ("__debug__" : Str))=false:=by decide)(hcd:(n == ("__classdict__" : Str))=false:=by decide):JB X EX (.Name n pos) (.bor i):=cb_var hN hv hd hcd
theorem b_add(ha:JB X EX a x)(hb:JB X EX b y):JE X EX (.BinOp a .Add b pos) (sOp ay [x,y]):=uN ze os_add ha hb
theorem b_sub(ha:JB X EX a x)(hb:JB X EX b y):JE X EX (.BinOp a .Sub b pos) (sOp bG [x,y]):=uN op_sub os_sub ha hb
theorem b_mul(ha:JB X EX a x)(hb:JB X EX b y):JE X EX (.BinOp a .Mult b pos) (sOp cC [x,y]):=uN yZ os_mul ha hb
theorem b_fdiv(ha:JB X EX a x)(hb:JB X EX b y):JE X EX (.BinOp a .FloorDiv b pos) (sOp dI [x,y]):=uN zb yX ha hb
theorem b_mod(ha:JB X EX a x)(hb:JB X EX b y):JE X EX (.BinOp a .Mod b pos) (sOp ff [x,y]):=uN op_mod os_mod ha hb
theorem b_pow(ha:JB X EX a x)(hb:JB X EX b y):JE X EX (.BinOp a .Pow b pos) (sOp w8 [x,y]):=uN op_pow os_pow ha hb
theorem b_ix(ha:JB X EX a x)(hb:JB X EX b y)(hp:oA b:=by exact fun _ _=>rfl):JE X EX (.Subscript a b pos) (sOp gIx [x,y]):=c_ix ix_seq os_ix ha hb hp
theorem q_eq(hu:X.A.units+10 < cLine)(ha:JB X EX a x)(hb:JB X EX b y):JE X EX (.Compare a [.Eq] [b] pos) (sOp gEq [x,y]):=qm (ww (by omega)) AC ha hb (js _)
theorem q_gt(ha:JB X EX a x)(hb:JB X EX b y):JE X EX (.Compare a [.Gt] [b] pos) (sOp gGt [x,y]):=qm op_gt os_gt ha hb (js _)
theorem q_ge(ha:JB X EX a x)(hb:JB X EX b y):JE X EX (.Compare a [.GtE] [b] pos) (sOp gGe [x,y]):=qm op_ge os_ge ha hb (js _)
theorem q_in(hu:X.A.units+10 < cLine)(ha:JB X EX a x)(hb:JB X EX b y)(hm:behindInMarks .In b=false:=by with_unfolding_all rfl):JE X EX (.Compare a [.In] [b] pos) (sOp gIn [x,y]):=qm (op_inA hu) os_in ha hb hm
theorem yE(hu:X.A.units+10 < cLine)(ha:JB X EX a x)(hb:JB X EX b y)(hm:behindInMarks .NotIn b=false:=by with_unfolding_all rfl):JE X EX (.Compare a [.NotIn] [b] pos) (sOp lf [x,y]):=qm (tO hu) wu ha hb hm
theorem t_eq(hu:X.A.units+10 < cLine)(ha:JB X EX a x)(hb:JB X EX b y):JT X EX (.Compare a [.Eq] [b] pos) (bE gEq [x,y]):=wN (ww (by omega)) AC ha hb (js _)
theorem t_ne(hu:X.A.units+10 < cLine)(ha:JB X EX a x)(hb:JB X EX b y):JT X EX (.Compare a [.NotEq] [b] pos) (bE gNe [x,y]):=wN (op_neD (by omega)) os_ne ha hb (js _)
theorem t_lt(ha:JB X EX a x)(hb:JB X EX b y):JT X EX (.Compare a [.Lt] [b] pos) (bE gLt [x,y]):=wN op_lt os_lt ha hb (js _)
variable(he:starEach (e::es) X.env=(false,eval e X.env)::starEach es X.env:=by rfl)(hpl:(backTo pos (starEach es X.env)).any (·.1)=false:=by rfl)
include he hpl
theorem b_len(m:X.mg "len" = none)(ha:JA X EX (e::es) as)(hg:Gl X "len" := by rfl):JE X EX (.Call (.Name "len" p) (e::es) [] pos) (sOp bH as):=gI uI os_len hg m PySem.boot_len ha (by decide) (by decide) he hpl
theorem b_sum(m:X.mg "sum" = none)(ha:JA X EX (e::es) as)(hg:Gl X "sum" := by rfl)(hc:X.calm=true:=by rfl):JE X EX (.Call (.Name "sum" p) (e::es) [] pos) (sOp qY as):=gI (uu hc) os_sum hg m PyProof.Rows.boot_sum ha (by decide) (by decide) he hpl
theorem b_all(m:X.mg "all" = none)(ha:JA X EX (e::es) as)(hg:Gl X "all" := by rfl)(hc:X.calm=true:=by rfl):JE X EX (.Call (.Name "all" p) (e::es) [] pos) (sOp nU as):=gI (uL hc) os_all hg m PyProof.Rows.boot_all ha (by decide) (by decide) he hpl
theorem b_max(m:X.mg "max" = none)(ha:JA X EX (e::es) as)(hg:Gl X "max" := by rfl)(hc:X.calm=true:=by rfl):JE X EX (.Call (.Name "max" p) (e::es) [] pos) (sOp dH as):=gI (uD hc) yV hg m PyProof.Rows.boot_max ha (by decide) (by decide) he hpl
theorem b_min(m:X.mg "min" = none)(ha:JA X EX (e::es) as)(hg:Gl X "min" := by rfl)(hc:X.calm=true:=by rfl):JE X EX (.Call (.Name "min" p) (e::es) [] pos) (sOp gc as):=gI (uy hc) yU hg m PyProof.Rows.boot_min ha (by decide) (by decide) he hpl
theorem Ab(m:X.mg "tuple" = none)(ha:JA X EX (e::es) as)(hg:Gl X "tuple" := by rfl)(hc:X.calm=true:=by rfl):JE X EX (.Call (.Name "tuple" p) (e::es) [] pos) (sOp fb as):=gk (qi hc) wk hg m PyProof.Rows.boot_tuple ha (by decide) (by decide) he hpl
theorem b_set(m:X.mg "set" = none)(ha:JA X EX (e::es) as)(hg:Gl X "set" := by rfl)(hc:X.calm=true:=by rfl):JE X EX (.Call (.Name "set" p) (e::es) [] pos) (sOp nS as):=gk (uv hc) os_set hg m PyProof.Rows.boot_set ha (by decide) (by decide) he hpl
theorem b_int(m:X.mg "int" = none)(ha:JA X EX (e::es) as)(hg:Gl X "int" := by rfl):JE X EX (.Call (.Name "int" p) (e::es) [] pos) (sOp ud as):=gk uJ os_int hg m PyProof.Rows.boot_int ha (by decide) (by decide) he hpl
theorem Ad(m:X.mg "range" = none)(ha:JA X EX (e::es) as)(hg:Gl X "range" := by rfl):JE X EX (.Call (.Name "range" p) (e::es) [] pos) (sOp jA as):=gk qj wr hg m PyProof.Rows.boot_range ha (by decide) (by decide) he hpl
end
section
variable{X:Cx}{EX:EXT}{e:Expr}{a:Arg}{p1 p2 pos:Pos}
theorem uP(he:JB X EX e a)(m1:X.mg "isinstance" = none)(m2:X.mg "int" = none)(g1:Gl X "isinstance" := by rfl)(g2:Gl X "int" := by rfl)(hs:starEach [e,.Name "int" p1] X.env=(false,eval e X.env)::starEach [.Name "int" p1] X.env:=by rfl):JE X EX (.Call (.Name "isinstance" p2) [e,.Name "int" p1] [] pos) (sOp (ip "int") [a]):=xG (.inl rfl) he g1 m1 g2 m2 PyProof.Rows.boot_int (by decide) (by decide) hs
theorem rN(he:JB X EX e a)(m1:X.mg "isinstance" = none)(m2:X.mg "bool" = none)(g1:Gl X "isinstance" := by rfl)(g2:Gl X "bool" := by rfl)(hs:starEach [e,.Name "bool" p1] X.env=(false,eval e X.env)::starEach [.Name "bool" p1] X.env:=by rfl):JE X EX (.Call (.Name "isinstance" p2) [e,.Name "bool" p1] [] pos) (sOp (ip "bool") [a]):=xG (.inr (.inl rfl)) he g1 m1 g2 m2 PyProof.Rows.boot_bool (by decide) (by decide) hs
theorem qp(he:JB X EX e a)(m1:X.mg "isinstance" = none)(m2:X.mg "tuple" = none)(g1:Gl X "isinstance" := by rfl)(g2:Gl X "tuple" := by rfl)(hs:starEach [e,.Name "tuple" p1] X.env=(false,eval e X.env)::starEach [.Name "tuple" p1] X.env:=by rfl):JE X EX (.Call (.Name "isinstance" p2) [e,.Name "tuple" p1] [] pos) (sOp (ip "tuple") [a]):=xG (.inr (.inr (.inl rfl))) he g1 m1 g2 m2 PyProof.Rows.boot_tuple (by decide) (by decide) hs
end
section
variable{X:Cx}{EX:EXT}{e:Expr}{pos p1 apos cpos:Pos}{n:Str}{f:SE}
theorem wI(j:Nat)(h:JE X EX e f)(hN:X.N[j]?=some n:=by rfl)(hv:Vis X.env.scope n:=by first | exact Or.inl rfl | exact Or.inr (Or.inl rfl) | exact Or.inr (Or.inr rfl))(hst:starEach [e] X.env=(false,eval e X.env)::starEach [] X.env:=by rfl)
 (hbase:attributeBase (.Name n p1) "append" X.env (eval (.Name n p1) X.env)=eval (.Name n p1) X.env:=by rfl) (hfew:((backTo cpos (starEach [e] X.env)).all (fun x => !x.1)&&(backToKw cpos (keywordEach [] X.env)).all (fun x=>x.1.isSome)&&decide ([e].length+([]:List Keyword).length+(if ([]:List Keyword).isEmpty then 0 else 1) < 30))=true:=by rfl)
 (hline:(apos.endLine == cpos.line)=true:=by rfl) (hplain:(backTo cpos (starEach [] X.env)).any (·.1)=false:=by rfl) (hd:(n == ("__debug__" : Str))=false:=by decide) (hcd:(n == ("__classdict__" : Str))=false:=by decide) :
 JE X EX (.Call (.Attribute (.Name n p1) "append" apos) [e] [] cpos) (cj j bR [f]):=rL tW jt PySem.F.slot_list_append PySem.F.type_list_append hN hv (.cons h .nil hst) hbase hfew hline hst hplain hd hcd
theorem wH(j:Nat)(h:JE X EX e f)(hN:X.N[j]?=some n:=by rfl)(hv:Vis X.env.scope n:=by first | exact Or.inl rfl | exact Or.inr (Or.inl rfl) | exact Or.inr (Or.inr rfl))(hst:starEach [e] X.env=(false,eval e X.env)::starEach [] X.env:=by rfl)
 (hbase:attributeBase (.Name n p1) "extend" X.env (eval (.Name n p1) X.env)=eval (.Name n p1) X.env:=by rfl) (hfew:((backTo cpos (starEach [e] X.env)).all (fun x => !x.1)&&(backToKw cpos (keywordEach [] X.env)).all (fun x=>x.1.isSome)&&decide ([e].length+([]:List Keyword).length+(if ([]:List Keyword).isEmpty then 0 else 1) < 30))=true:=by rfl)
 (hline:(apos.endLine == cpos.line)=true:=by rfl) (hplain:(backTo cpos (starEach [] X.env)).any (·.1)=false:=by rfl) (hd:(n == ("__debug__" : Str))=false:=by decide) (hcd:(n == ("__classdict__" : Str))=false:=by decide) :
 JE X EX (.Call (.Attribute (.Name n p1) "extend" apos) [e] [] cpos) (cj j iC [f]):=rL tU qQ PySem.F.slot_list_extend PySem.F.type_list_extend hN hv (.cons h .nil hst) hbase hfew hline hst hplain hd hcd
theorem zk(j:Nat)(h:JE X EX e f)(hN:X.N[j]?=some n:=by rfl)(hv:Vis X.env.scope n:=by first | exact Or.inl rfl | exact Or.inr (Or.inl rfl) | exact Or.inr (Or.inr rfl))(hst:starEach [e] X.env=(false,eval e X.env)::starEach [] X.env:=by rfl)
 (hbase:attributeBase (.Name n p1) "pop" X.env (eval (.Name n p1) X.env)=eval (.Name n p1) X.env:=by rfl) (hfew:((backTo cpos (starEach [e] X.env)).all (fun x => !x.1)&&(backToKw cpos (keywordEach [] X.env)).all (fun x=>x.1.isSome)&&decide ([e].length+([]:List Keyword).length+(if ([]:List Keyword).isEmpty then 0 else 1) < 30))=true:=by rfl)
 (hline:(apos.endLine == cpos.line)=true:=by rfl) (hplain:(backTo cpos (starEach [] X.env)).any (·.1)=false:=by rfl) (hd:(n == ("__debug__" : Str))=false:=by decide) (hcd:(n == ("__classdict__" : Str))=false:=by decide) :
 JE X EX (.Call (.Attribute (.Name n p1) "pop" apos) [e] [] cpos) (cj j kh [f]):=rL wF wD PySem.F.slot_list_pop PySem.F.type_list_pop hN hv (.cons h .nil hst) hbase hfew hline hst hplain hd hcd
end
end L2
namespace L2
namespace Td
open PySem L2 PyProof.Rows
def nb(j:Int):List (Int×Int)->List Int
 | []=>[]
 | t::r=>(if j=t.1 then [t.2] else if j=t.2 then [t.1] else [])++nb j r
theorem mq(j:Int):∀ (a b:List (Int×Int)),nb j (a++b)=nb j a++nb j b
 | [],b=>rfl
 | t::r,b=>by
  show _++nb j (r++b)=_
  rw [mq j r b]
  show _=(_++nb j r)++nb j b
  rw [B3]
theorem wC(j:Int):∀ (a:List (Int×Int)),(nb j a).length<=a.length
 | []=>A8 _
 | t::r=>by
  have:=wC j r
  show (_++nb j r).length<=r.length+1
  rw [A7]
  split
  ·simp;omega
  ·split
   ·simp;omega
   ·simp;omega
structure Adj(H:Hp)(p:Addr)(ls:List Addr)(done:List (Int×Int))(H':Hp):Prop where
 same:ad H H'
 at_:H' p=some (.lst (ls.map V.ref))
 nd:ls.Nodup
 np:p∉ls
 pn:H p=none
 ln:∀ l∈ls,H l=none
 lst:∀ (j:Nat) (l:Addr),ls[j]?=some l->H' l=some (.lst ((nb j done).map V.int))
theorem Adj.inj{H:Hp}{p:Addr}{ls:List Addr}{done:List (Int×Int)}{H':Hp}(A:Adj H p ls done H'){i j:Nat}{l:Addr}(h1:ls[i]?=some l)(h2:ls[j]?=some l):i=j:=by
 obtain ⟨a1,e1⟩:=Be.mp h1;obtain ⟨a2,e2⟩:=Be.mp h2;exact (List.getElem_inj A.nd).mp (e1.trans e2.symm)
theorem Adj.step{H:Hp}{p:Addr}{ls:List Addr}{done:List (Int×Int)}{H1:Hp}(A:Adj H p ls done H1){a b:Nat}{la lb:Addr}(ha:ls[a]?=some la)(hb:ls[b]?=some lb)(hab:a≠b) :
 Adj H p ls (done++[((a:Int),(b:Int))]) (upd (upd H1 la (.lst ((nb a done++[(b:Int)]).map V.int))) lb (.lst ((nb b done++[(a:Int)]).map V.int))):=by
 have nab:la≠lb:=fun z=>hab (A.inj ha (z ▸ hb))
 have ma:la∈ls:=Bc ha;have mb:lb∈ls:=Bc hb;refine ⟨fun c o q=> ?_,?_,A.nd,A.np,A.pn,A.ln,fun j l hj=> ?_⟩
 ·rw [ag (ah q (A.ln lb mb)),ag (ah q (A.ln la ma))]
  exact A.same c o q
 ·rw [ag (fun z:p=lb=>A.np (by rw [z];exact mb)),ag (fun z:p=la=>A.np (by rw [z];exact ma))]
  exact A.at_
 ·rw [mq]
  by_cases e1:l=lb
  ·subst e1
   have:j=b:=A.inj hj hb;subst this;rw [ao]
   have:nb (j:Int) [((a:Int),(j:Int))]=[(a:Int)]:=by
    show (if (j:Int)=(a:Int) then _ else if (j:Int)=(j:Int) then _ else _)++_=_
    rw [if_neg (by omega),if_pos rfl];rfl
   rw [this]
  ·rw [ag e1]
   by_cases e2:l=la
   ·subst e2
    have:j=a:=A.inj hj ha;subst this;rw [ao]
    have:nb (j:Int) [((j:Int),(b:Int))]=[(b:Int)]:=by
     show (if (j:Int)=(j:Int) then _ else _)++_=_
     rw [if_pos rfl];rfl
    rw [this]
   ·rw [ag e2,A.lst j l hj]
    have:nb (j:Int) [((a:Int),(b:Int))]=[]:=by
     have n1:j≠a:=fun z=>by subst z;rw [hj] at ha;exact e2 (Option.some.inj ha)
     have n2:j≠b:=fun z=>by subst z;rw [hj] at hb;exact e1 (Option.some.inj hb)
     show (if (j:Int)=(a:Int) then _ else if (j:Int)=(b:Int) then _ else _)++_=_
     rw [if_neg (by omega),if_neg (by omega)];rfl
    rw [this,Cz]
theorem Paired.get{α β:Type}{R:α->β->Prop}:∀ {l1:List α} {l2:List β} {i:Nat} {a:α},Paired R l1 l2->l1[i]?=some a->∃ b,l2[i]?=some b/\R a b
 | _,_,_,_,.nil,e=>by simp at e
 | _,_,0,_,.cons r _,e=>by simp at e;subst e;exact ⟨_,rfl,r⟩
 | _,_,i+1,a,.cons _ t,e=>by
  obtain ⟨u,h1,h2⟩:=Paired.get (i:=i) (a:=a) t (by simpa using e);exact ⟨u,by simpa using h1,h2⟩
def vv(K:Df):Sp:=fun vs H Q _=>∃ wb many ties,vs=[.ref wb]/\WebAt K H wb many ties/\1<=many/\many<=40/\∀ p ls H',ls.length=many.toNat->Adj H p ls ties H'->Q (.ref p) H'
def sE:D->Option (Int×Int)
 | .tup [.int a,.int b]=>some (a,b)
 | _=>none
def h9:List D->Option (List (Int×Int))
 | []=>some []
 | d::r=>match sE d,h9 r with
  | some p,some ps=>some (p::ps)
  | _,_=>none
def pO(many:Int)(ts:List (Int×Int)):Bool:=decide (1<=many)&&decide (many<=40)&&decide (ts.length<=60)&&ts.all (fun t=>decide (0<=t.1)&&decide (t.1 < t.2)&&decide (t.2 < many))&&decide ts.Nodup
def adjD(many:Int)(ts:List (Int×Int)):D:= .lst ((List.range many.toNat).map fun j=> .lst ((nb (j:Nat) ts).map D.int))
def lq:FS:=fun ds=>match ds with
 | [.tup [.int many,.tup ties]]=>match h9 ties with
  | some ts=>if pO many ts then some (.ok (adjD many ts) false,.non) else none
  | none=>none
 | _=>none
theorem tJ{K:Df}{H:Hp}{d:D}{t:Int×Int}(h:sE d=some t){v:V}(r:av K H d v):xM K H v t:=by
 unfold sE at h
 split at h
 ·cases h
  obtain ⟨p,xs,rfl,h2,h3⟩:=r;refine ⟨p,rfl,?_⟩
  match xs,h3 with
  | [x,y],⟨r1,r2,_⟩=>rw [h2,show x=_ from r1,show y=_ from r2]
  | [],h3=>exact h3.elim
  | [_],⟨_,h3⟩=>exact h3.elim
  | _::_::_::_,⟨_,_,h3⟩=>exact h3.elim
 ·cases h
theorem kP{K:Df}{H:Hp}:∀ {ds:List D} {ts:List (Int×Int)} {xs:List V},h9 ds=some ts->ae K H ds xs->Paired (xM K H) xs ts
 | [],ts,[],h,_=>by cases h;exact .nil
 | d::ds,ts,x::xs,h,r=>by
  unfold h9 at h
  split at h
  ·rename_i p ps h1 h2
   cases h;exact .cons (tJ h1 r.1) (kP h2 r.2)
  ·cases h
 | [],_,_::_,_,r=>r.elim
 | _::_,_,[],_,r=>r.elim
theorem se{K:Df}{H:Hp}{ls:List Addr}{g:Nat->List Int}:∀ (n:Nat) (k:Nat),ls.length=n->(∀ (j:Nat) (l:Addr),ls[j]?=some l->H l=some (.lst ((g (k+j)).map V.int)))->ae K H ((List.range' k n).map fun j=> .lst ((g j).map D.int)) (ls.map V.ref)
 | 0,k,hl,h=>by
  have:ls=[]:=CP.mp hl;subst this;exact trivial
 | n+1,k,hl,h=>by
  cases ls with
  | nil=>cases hl
  | cons l ls =>
   refine ⟨⟨l,_,rfl,h 0 l rfl,ce _⟩,?_⟩
   exact se n (k+1) (by simpa using hl) fun j l' e=>by
    have:=h (j+1) l' (by simpa using e);rw [show k+1+j=k+(j+1) by omega];exact this
theorem rn{ds:List D}{r:Res×D}(h:lq ds=some r):∃ many ties ts,ds=[.tup [.int many,.tup ties]]/\h9 ties=some ts/\pO many ts=true/\r=(.ok (adjD many ts) false,.non):=by
 unfold lq at h
 split at h
 ·split at h
  ·split at h
   ·cases h;exact ⟨_,_,_,rfl,‹_›,‹_›,rfl⟩
   ·cases h
  ·cases h
 ·cases h
theorem two{K:Df}{H:Hp}{a b:D}{xs:List V}(h:ae K H [a,b] xs):∃ x y,xs=[x,y]/\av K H a x/\av K H b y:=by
 match xs,h with
 | [x,y],⟨r1,r2,_⟩=>exact ⟨x,y,rfl,r1,r2⟩
 | [],h3=>exact h3.elim
 | [_],⟨_,h3⟩=>exact h3.elim
 | _::_::_::_,⟨_,_,h3⟩=>exact h3.elim
theorem tied_x{P:Program}{w:World}{K:Df}{mg:Str->Option Value}{base:Heap}(h:Ok P w K mg base "tied_places" ["web"] 1 (vv K)):OkX P w K mg base "tied_places" ["web"] 1 (spF K none lq) :=
 Ok.x h fun vs H Q E q=>by
  obtain ⟨Z,W,ds,hlen,_,hmt,hf,_,hW,hm⟩:=q;have hW:=hW rfl;subst hW
  cases e:lq ds with
  | none=>rw [e] at hm;exact hm.elim
  | some r =>
   obtain ⟨many,ties,ts,rfl,e1,hg,rfl⟩:=rn e;rw [e] at hm;have hm:∀ v H',Fr [] H H'->av K (hid ([]++Z) H') (adjD many ts) v->(∀ p,([]:List Addr)=[p]->aD K H' (hid ([]++Z) H') p .non)->Q v H':=hm
   obtain ⟨v,rfl⟩:∃ v,vs=[v]:=by
    match vs,hlen with
    | [v],_=>exact ⟨v,rfl⟩
   obtain ⟨wb,xs,rfl,h2,h3⟩:=hf 0 _ _ (by intro z;cases z) rfl rfl;obtain ⟨x,y,rfl,r1,r2⟩:=two h3;have r1:x = .int many:=r1;subst r1;obtain ⟨t,bs,rfl,h4,h5⟩:=r2;unfold pO at hg;simp only [Bh,decide_eq_true_eq,Bg] at hg;obtain ⟨⟨⟨⟨g1,g2⟩,g3⟩,g4⟩,g5⟩:=hg;refine ⟨wb,many,ts,rfl,⟨⟨t,bs,am _ _ h2,am _ _ h4,kP e1 (ad.repDs am h5)⟩,g3,fun t ht=> ?_,g5⟩,g1,g2,fun p ls H' el A=> ?_⟩
   ·have:=g4 t ht
    exact ⟨this.1.1,this.1.2,this.2⟩
   ·have nz:∀ b,H b=none->b∉[]++Z:=fun b e z=>by
     have:=hmt b z;rw [e] at this;exact this
    refine hm (.ref p) H' A.same.fr ⟨p,_,rfl,(aA (nz p A.pn)).trans A.at_,?_⟩ fun p z=>by cases z
    have:=se (K:=K) (H:=hid ([]++Z) H') (ls:=ls) (g:=fun j=>nb (j:Nat) ts) many.toNat 0 el fun j l e=>by
     rw [aA (nz l (A.ln l (Bc e))),BA];exact A.lst j l e
    rw [<- List.range_eq_range'] at this;exact this
end Td
end L2
namespace L2
open PySem
def dB:SS:=(al (bM (bE gLt [.bor 1,.ex (sOp bH [.bor 0])]) (aF (sOp gIx [.bor 0,.bor 1])) cp) (aF (sC (.int 0))))
def aY:FS:=aq 2 2 none dB
def jK:SS:=(al (aO 0 (sOp ff [.ex (sOp ay [.bor 0,.ex (sC (.int 7919))]),.ex (sC (.int 2147483647))])) (aF (sOp ff [.ex (sOp ay [.ex (sOp ay [.ex (sOp cC [.bor 0,.bor 0]),.ex (sOp cC [.ex (sC (.int 48271)),.bor 0])]),.ex (sC (.int 12345))]),.ex (sC (.int 2147483629))])))
def cY:FS:=aq 1 1 none jK
def gO:SS:=(al (aO 1 (sOp dH [.bor 0,.ex (sOp bG [.ex (sC (.int 0)),.bor 0])])) (aF (cM [(aG 1),(sOp ud [.ex (sOp gGe [.bor 1,.ex (sOp w8 [.ex (sC (.int 10)),.ex (sC (.int 18))])])]),(sOp ff [.bor 1,.ex (sC (.int 1000003))])])))
def bJ:FS:=aq 1 2 none gO
def fQ:SS:=(al (bM (bE gEq [.ex (sOp gIx [.bor 0,.ex (sC (.int 1))]),.ex (sC (.int 1))]) (al (aO 2 (sOp ff [.ex (sOp gIx [.bor 0,.ex (sC (.int 0))]),.bor 1])) (al (cT eD 0 (sOp dI [.ex (sOp gIx [.bor 0,.ex (sC (.int 0))]),.bor 1]) (sC (.int 0))) (fv 2))) cp) (al (cT eD 0 (af none none cY [.ex (sOp ay [.ex (af none none cY [.ex (sOp gIx [.bor 0,.ex (sC (.int 2))])]),.ex (sC (.int 7))])]) (sC (.int 2))) (aF (sOp ff [.ex (sOp dI [.ex (sOp gIx [.bor 0,.ex (sC (.int 2))]),.ex (sC (.int 64))]),.bor 1]))))
def ax:FS:=aq 2 3 (some 0) fQ
theorem nK{a b:Int}(h1 : -(2 ^ 64) < a)(h2:a < 2 ^ 64):jM a b=true:=by unfold jM;rw [Ba ⟨h1,h2⟩];rfl
def pC(s:Int):Int:=(((s+7919) % 2147483647) * ((s+7919) % 2147483647)+48271 * ((s+7919) % 2147483647)+12345) % 2147483629
theorem xo(s:Int):cY [.int s]=some (.ok (.int (pC s)) false,.non):=by
 have m1:jM ((s+7919) % 2147483647) ((s+7919) % 2147483647)=true:=nK (by omega) (by omega);have m2:jM 48271 ((s+7919) % 2147483647)=true:=nK (by omega) (by omega);unfold cY jK;simp only [aq,ini,il,ioD,cp,al,aO,aF,me,fv,cU,bM,g8,tq,cT,cj,af,sOp,bE,sC,aG,cc,cM,evA,A4,Cy,cy,kj,dg,sIf,jl,sOr,ck,jk,fx,sBl,bv,cn,dC,bF,fA,bV,dJ,bA,cN,gJ,aH,aZ,ci,eK,fy,jj,bX,lY,lX,Tg.ge,A3,B6,Bl,Bs,BV,BW,BP,BN,List.replicate,CK,Nat.reduceSub,Nat.reduceAdd,BA,Option.isNone,if_true,reduceIte,decide_true,Cn,Cb,C3,CL,CT,CS,CD,B4,reduceCtorEq,ff,ay,cC,Int.reduceLT,m1,m2];rfl
theorem sL{n i:Nat}(h:i < n):ixN n (i:Int)=some i:=by
 unfold ixN;rw [if_pos (by omega),if_pos (by omega)];rfl
theorem lE{α:Type}{l:List α}{i:Nat}{x:α}(h:l[i]?=some x):atI l (i:Int)=some x:=by
 unfold atI;rw [sL (Be.mp h).1];exact h
section
variable{α:Type}{a b c d:α}{l:List α}
theorem AL:atI (a::l) 0=some a:=lE (i:=0) rfl
theorem AK:atI (a::b::l) 1=some b:=lE (i:=1) rfl
theorem atI_2:atI (a::b::c::l) 2=some c:=lE (i:=2) rfl
end
theorem gH{ds:List D}{i:Int}{d:D}(h:atI ds i=some d):gIx [.lst ds,.int i]=some (d,false):=by unfold gIx;simp only [h]
theorem xh{ds:List D}{i:Int}{d:D}(h:atI ds i=some d):gIx [.klst ds,.int i]=some (d,false):=by unfold gIx;simp only [h]
theorem sR{ds:List D}{i:Int}{d:D}(h:atI ds i=some d):gIx [.tup ds,.int i]=some (d,false):=by unfold gIx;simp only [h]
theorem dU(a b:Int):gEq [.int a,.int b]=some (.bl (decide (a=b)),false):=by
 unfold gEq;simp only [ac,Bool.and_self,if_true,eqD,nrm,eqN];rw [show (a == b)=decide (a=b) from rfl]
theorem gE(a b:Int):gNe [.int a,.int b]=some (.bl (!decide (a=b)),false):=by
 unfold gNe;simp only [ac,Bool.and_self,if_true,eqD,nrm,eqN];rw [show (a == b)=decide (a=b) from rfl]
theorem gF{a b:Int}(h:0 < b):ff [.int a,.int b]=some (.int (a % b),false):=by unfold ff;simp only [h,decide_true,if_true]
theorem eR{a b:Int}(h:0 < b)(h2:b < 1073741824):dI [.int a,.int b]=some (.int (a / b),false):=by unfold dI;simp only [h,h2,and_self,decide_true,if_true]
theorem zI:w8 [.int 10,.int 18]=some (.int 1000000000000000000,false):=rfl
def tG(a f s:Int):D:= .lst [.int a,.int f,.int s]
theorem zQ(c:Int):∃ a f s,bJ [.int c]=some (.ok (tG a f s) true,.non):=by
 refine ⟨if 0 - c > c then 0 - c else c,if decide (1000000000000000000<=(if 0 - c > c then 0 - c else c)) then 1 else 0,(if 0 - c > c then 0 - c else c) % 1000003,?_⟩;unfold bJ gO;simp only [aq,ini,il,ioD,cp,al,aO,aF,me,fv,cU,bM,g8,tq,cT,cj,af,sOp,bE,sC,aG,cc,cM,evA,A4,Cy,cy,kj,dg,sIf,jl,sOr,ck,jk,fx,sBl,bv,cn,dC,bF,fA,bV,dJ,bA,cN,gJ,aH,aZ,ci,eK,fy,jj,bX,lY,lX,Tg.ge,A3,B6,Bl,Bs,BV,BW,BP,BN,List.replicate,CK,Nat.reduceSub,Nat.reduceAdd,BA,Option.isNone,if_true,reduceIte,decide_true,Cn,Cb,C3,CL,CT,CS,CD,B4,reduceCtorEq,dH,xb,bG,ud,gGe,zI,ff,Int.reduceLT];rfl
theorem p5(ns:List Int)(k:Nat):∃ c:Int,aY [.klst (ns.map D.int),.int k]=some (.ok (.int c) false,.non):=by
 by_cases h:k < ns.length
 ·refine ⟨ns[k],?_⟩
  have e:atI (ns.map D.int) (k:Int)=some (.int ns[k]):=lE (by rw [Bf,AN h];rfl)
  have h':(k:Int) < ((ns.map D.int).length:Nat):=by rw [AO];omega
  unfold aY dB;simp only [aq,ini,il,ioD,cp,al,aO,aF,me,fv,cU,bM,g8,tq,cT,cj,af,sOp,bE,sC,aG,cc,cM,evA,A4,Cy,cy,kj,dg,sIf,jl,sOr,ck,jk,fx,sBl,bv,cn,dC,bF,fA,bV,dJ,bA,cN,gJ,aH,aZ,ci,eK,fy,jj,bX,lY,lX,Tg.ge,A3,B6,Bl,Bs,BV,BW,BP,BN,List.replicate,CK,Nat.reduceSub,Nat.reduceAdd,BA,Option.isNone,if_true,reduceIte,decide_true,Cn,Cb,C3,CL,CT,CS,CD,B4,reduceCtorEq,bH,gLt,xh e,h']
 ·refine ⟨0,?_⟩
  have h':¬ (k:Int) < ((ns.map D.int).length:Nat):=by rw [AO];omega
  unfold aY dB;simp only [aq,ini,il,ioD,cp,al,aO,aF,me,fv,cU,bM,g8,tq,cT,cj,af,sOp,bE,sC,aG,cc,cM,evA,A4,Cy,cy,kj,dg,sIf,jl,sOr,ck,jk,fx,sBl,bv,cn,dC,bF,fA,bV,dJ,bA,cN,gJ,aH,aZ,ci,eK,fy,jj,bX,lY,lX,Tg.ge,A3,B6,Bl,Bs,BV,BW,BP,BN,List.replicate,CK,Nat.reduceSub,Nat.reduceAdd,BA,Option.isNone,if_true,reduceIte,decide_true,Cn,Cb,C3,CL,CT,CS,CD,B4,reduceCtorEq,bH,gLt,h',decide_false]
theorem xS{a b c d:D}:eD (.lst [a,b,c]) (.int 0) d=some (.lst [d,b,c]):=rfl
theorem xR{a b c d:D}:eD (.lst [a,b,c]) (.int 2) d=some (.lst [a,b,d]):=rfl
theorem xq(a f s m:Int)(h:0 < m)(h2:m < 1073741824):∃ r a' f' s':Int,ax [tG a f s,.int m]=some (.ok (.int r) false,tG a' f' s')/\0<=r/\r < m:=by
 by_cases hf:f=1
 ·refine ⟨a % m,a / m,f,s,?_,Int.emod_nonneg _ (by omega),Int.emod_lt_of_pos _ h⟩
  unfold ax fQ tG;simp only [aq,ini,il,ioD,cp,al,aO,aF,me,fv,cU,bM,g8,tq,cT,cj,af,sOp,bE,sC,aG,cc,cM,evA,A4,Cy,cy,kj,dg,sIf,jl,sOr,ck,jk,fx,sBl,bv,cn,dC,bF,fA,bV,dJ,bA,cN,gJ,aH,aZ,ci,eK,fy,jj,bX,lY,lX,Tg.ge,A3,B6,Bl,Bs,BV,BW,BP,BN,List.replicate,CK,Nat.reduceSub,Nat.reduceAdd,BA,Option.isNone,if_true,reduceIte,decide_true,Cn,Cb,C3,CL,CT,CS,CD,B4,reduceCtorEq,dU,gH AL,gH AK,gF h,eR h h2,xS,hf]
 ·refine ⟨pC (pC s+7) / 64 % m,a,f,pC (pC s+7),?_,Int.emod_nonneg _ (by omega),Int.emod_lt_of_pos _ h⟩
  unfold ax fQ tG;simp only [aq,ini,il,ioD,cp,al,aO,aF,me,fv,cU,bM,g8,tq,cT,cj,af,sOp,bE,sC,aG,cc,cM,evA,A4,Cy,cy,kj,dg,sIf,jl,sOr,ck,jk,fx,sBl,bv,cn,dC,bF,fA,bV,dJ,bA,cN,gJ,aH,aZ,ci,eK,fy,jj,bX,lY,lX,Tg.ge,A3,B6,Bl,Bs,BV,BW,BP,BN,List.replicate,CK,Nat.reduceSub,Nat.reduceAdd,BA,Option.isNone,if_true,reduceIte,decide_true,Cn,Cb,C3,CL,CT,CS,CD,B4,reduceCtorEq,dU,gH AL,gH AK,gH atI_2,gF h,eR (show (0:Int) < 64 by decide) (by decide),ay,xR,hf,decide_false,xo]
theorem mh{T:Tg}{f:SS}(I:Nat->Rho->Prop):∀ (ds:List D) (k:Nat) (ρ:Rho),I k ρ->(∀ i d ρ,ds[i]?=some d->I (k+i) ρ->∃ ρ1 ρ2,bv T d ρ=some ρ1/\f ρ1=some (.nx,ρ2)/\I (k+i+1) ρ2)->∃ ρ',bY T f ds ρ=some (.nx,ρ')/\I (k+ds.length) ρ'
 | [],k,ρ,h,_=>⟨ρ,rfl,h⟩
 | d::ds,k,ρ,h,hs=>by
  obtain ⟨ρ1,ρ2,e1,e2,h2⟩:=hs 0 d ρ rfl h
  obtain ⟨ρ',e3,h3⟩:=mh I ds (k+1) ρ2 h2 fun i d ρ e hi=>by
   have:=hs (i+1) d ρ (by simpa using e) (by rw [show k+(i+1)=k+1+i by omega];exact hi);rw [show k+(i+1)+1=k+1+i+1 by omega] at this;exact this
  refine ⟨ρ',?_,by rw [A3,show k+(ds.length+1)=k+1+ds.length by omega];exact h3⟩;unfold bY;simp only [e1,e2,e3]
end L2
namespace L2
open PySem PySem.Spec PyProof.Rows
section
variable{ρ ρ1 ρ2:Rho}{d c c' i:D}{ds:List D}{nw b:Bool}{f g:SE}{p q:ST}{s t:SS}{C:Str}
theorem r_set{j:Nat}{x:Option (D×Md)}(h:f ρ=some (.ok d nw,ρ1))(hx:ρ1[j]?=some x)(hn:ρ1.set j (some (d,if nw then .ow else .fz))=ρ2):aO j f ρ=some (.nx,ρ2):=by subst hn;unfold aO;rw [h];show (match ρ1[j]? with | some _=>_ | none=>_)=_;rw [hx]
theorem r_ret(h:f ρ=some (.ok d nw,ρ1)):aF f ρ=some (.rt d nw,ρ1):=by unfold aF;rw [h]
theorem r_expr(h:f ρ=some (.ok d nw,ρ1)):cU f ρ=some (.nx,ρ1):=by unfold cU;rw [h]
theorem vK{r:Option (Out×Rho)}(h:s ρ=some (.nx,ρ1))(h2:t ρ1=r):al s t ρ=r:=by unfold al;rw [h];exact h2
theorem r_seqR(h:s ρ=some (.rt d nw,ρ1)):al s t ρ=some (.rt d nw,ρ1):=by unfold al;rw [h]
theorem r_ifT{r:Option (Out×Rho)}(h:p ρ=some (.ok b,ρ1))(hb:b=true)(h2:s ρ1=r):bM p s t ρ=r:=by unfold bM;subst hb;rw [h];exact h2
theorem r_ifF{r:Option (Out×Rho)}(h:p ρ=some (.ok b,ρ1))(hb:b=false)(h2:t ρ1=r):bM p s t ρ=r:=by unfold bM;subst hb;rw [h];exact h2
theorem r_nil:cp ρ=some (.nx,ρ):=rfl
theorem r_asg{T:Tg}(h:f ρ=some (.ok d nw,ρ1))(h2:bv T d ρ1=some ρ2):g8 T f ρ=some (.nx,ρ2):=by unfold g8;rw [h];show (match bv T d ρ1 with | some ρ2=>_ | none=>_)=_;rw [h2]
theorem yw{u:D->D->D->Option D}{j:Nat}{x:D×Md}{nw2:Bool}(h:f ρ=some (.ok d nw,ρ1))(h1:ρ1[j]?=some (some x))(h2:g ρ1=some (.ok i nw2,ρ2))(h3:ρ2[j]?=some (some (c,.ow)))(h4:u c i d=some c'){ρ3:Rho}(hn:ρ2.set j (some (c',.ow))=ρ3):cT u j f g ρ=some (.nx,ρ3):=by subst hn;unfold cT;simp only [h,h1,h2,h3,h4]
theorem r_for{it:SI}{T:Tg}{r:Option (Out×Rho)}(h:it ρ=some (.ok ds,ρ1))(h2:bY T s ds ρ1=r):gJ it T s ρ=r:=by unfold gJ;rw [h];exact h2
theorem yu{j:Nat}{u:D->List D->Option (D×D)}{fs:List SE}{l:List D}(h0:ρ[j]?=some (some (.lst l,.ow)))(h1:evA (fs.map Arg.ex) ρ=some (.ok ds,ρ1))(h2:ρ1[j]?=some (some (c,.ow)))(h3:u c ds=some (c',d))(hn:ρ1.set j (some (c',.ow))=ρ2):cj j u fs ρ=some (.ok d false,ρ2):=by subst hn;unfold cj;simp only [h0,h1,h2,h3]
theorem r_nilA:evA [] ρ=some (.ok [],ρ):=rfl
theorem Au{as:List Arg}(h:f ρ=some (.ok d nw,ρ1))(h2:evA as ρ1=some (.ok ds,ρ2)):evA (.ex f::as) ρ=some (.ok (d::ds),ρ2):=by unfold evA;simp only [h,h2]
theorem r_nilM:evA (List.map Arg.ex []) ρ=some (.ok [],ρ):=rfl
theorem r_exM{fs:List SE}(h:f ρ=some (.ok d nw,ρ1))(h2:evA (List.map Arg.ex fs) ρ1=some (.ok ds,ρ2)):evA (List.map Arg.ex (f::fs)) ρ=some (.ok (d::ds),ρ2):=Au h h2
theorem r_borA{as:List Arg}{j:Nat}{x:D×Md}{m:Md}(h:ρ[j]?=some (some x))(h2:evA as ρ=some (.ok ds,ρ2))(h3:ρ2[j]?=some (some (d,m))):evA (.bor j::as) ρ=some (.ok (d::ds),ρ2):=by unfold evA;simp only [h,h2,h3]
theorem r_op{o:List D->Option (D×Bool)}{as:List Arg}(h:evA as ρ=some (.ok ds,ρ1))(h2:o ds=some (d,nw)):sOp o as ρ=some (.ok d nw,ρ1):=by unfold sOp;simp only [h,h2]
theorem r_opT{o:List D->Option (D×Bool)}{as:List Arg}(h:evA as ρ=some (.ok ds,ρ1))(h2:o ds=some (.bl b,nw)):bE o as ρ=some (.ok b,ρ1):=by unfold bE;rw [r_op h h2]
theorem r_tru{a:Arg}(h:evA [a] ρ=some (.ok [d],ρ1))(h2:kj d=some b):cy a ρ=some (.ok b,ρ1):=by unfold cy;simp only [h,h2]
theorem r_not(h:p ρ=some (.ok b,ρ1)):dg p ρ=some (.ok (!b),ρ1):=by unfold dg;rw [h]
theorem r_andT{r:Option (uS×Rho)}(h:p ρ=some (.ok b,ρ1))(hb:b=true)(h2:q ρ1=r):jl p q ρ=r:=by unfold jl;subst hb;rw [h];exact h2
theorem r_andF(h:p ρ=some (.ok b,ρ1))(hb:b=false):jl p q ρ=some (.ok false,ρ1):=by unfold jl;subst hb;rw [h]
theorem r_orF{r:Option (uS×Rho)}(h:p ρ=some (.ok b,ρ1))(hb:b=false)(h2:q ρ1=r):sOr p q ρ=r:=by unfold sOr;subst hb;rw [h];exact h2
theorem r_orT(h:p ρ=some (.ok b,ρ1))(hb:b=true):sOr p q ρ=some (.ok true,ρ1):=by unfold sOr;subst hb;rw [h]
theorem r_c:sC d ρ=some (.ok d false,ρ):=rfl
theorem r_varF{j:Nat}(h:ρ[j]?=some (some (d,.fz))):aG j ρ=some (.ok d false,ρ):=by unfold aG;rw [h]
theorem r_varO{j:Nat}(h:ρ[j]?=some (some (d,.ow)))(hn:ρ.set j (some (d,.fz))=ρ1):aG j ρ=some (.ok d false,ρ1):=by subst hn;unfold aG;rw [h]
theorem r_retO{j:Nat}(h:ρ[j]?=some (some (d,.ow)))(hn:ρ.set j none=ρ1):fv j ρ=some (.rt d true,ρ1):=by subst hn;unfold fv;rw [h]
theorem r_tup{fs:List SE}(h:evA (fs.map Arg.ex) ρ=some (.ok ds,ρ1)):cc fs ρ=some (.ok (.tup ds) false,ρ1):=by unfold cc;rw [h]
theorem r_lst{fs:List SE}(h:evA (fs.map Arg.ex) ρ=some (.ok ds,ρ1)):cM fs ρ=some (.ok (.lst ds) true,ρ1):=by unfold cM;rw [h]
theorem r_seqI{l:List D}(h:f ρ=some (.ok d nw,ρ1))(h2:bX d=some l):aZ f ρ=some (.ok l,ρ1):=by unfold aZ;simp only [h,h2]
theorem r_enum{l:List D}(h:f ρ=some (.ok d nw,ρ1))(h2:bX d=some l):fy f ρ=some (.ok (gh 0 l),ρ1):=by unfold fy;simp only [h,h2]
theorem r_zip{fs:List SE}{l l':List D}(h:evA (fs.map Arg.ex) ρ=some (.ok ds,ρ1))(h2:vy ds=some (l,l'))(h3:l.length<=l'.length):jj fs ρ=some (.ok (jf l l'),ρ1):=by unfold jj;simp only [h,h2,h3,decide_true,if_true]
theorem r_rng1{x:Arg}{j:Int}(h:evA [x] ρ=some (.ok [.int j],ρ1))(o:okR 0 j=true):ci x ρ=some (.ok (fS 0 j.toNat),ρ1):=by
 unfold ci;rw [h];show (if okR 0 j=true then some (oz.ok (fS 0 j.toNat),ρ1) else none)=_;rw [if_pos o]
theorem r_rng2{x y:Arg}{j k:Int}(h:evA [x,y] ρ=some (.ok [.int j,.int k],ρ1))(o:okR j k=true):eK x y ρ=some (.ok (fS j (k - j).toNat),ρ1):=by
 unfold eK;rw [h];show (if okR j k=true then some (oz.ok (fS j (k - j).toNat),ρ1) else none)=_;rw [if_pos o]
theorem r_comp{k:Nat}{it:SI}{T:Tg}{e:Option ST}{ys:List D}(h1:it ρ=some (.ok ds,ρ1))(h2:Tg.ge ρ1.length T=true)(h3:aT k T e f ds ρ1=some (ys,ρ2)):aH k it T e f ρ=some (.ok (.lst ys) true,ρ2):=by
 unfold aH;rw [h1];show (if Tg.ge ρ1.length T=true then _ else none)=_;rw [if_pos h2,h3]
theorem r_call{as:List Arg}{run:FS}{x:D}(h:evA as ρ=some (.ok ds,ρ1))(h2:run ds=some (.ok d nw,x))(h3:(bF none 0 as ρ1||(fA d nw&&((none:Option Nat).isNone||bV x)))=true):af none none run as ρ=some (.ok d nw,ρ1):=by
 unfold af;simp only [h,h2];rw [if_pos h3];rfl
theorem vL{k j:Nat}{as:List Arg}{run:FS}{x:D}(h:evA as ρ=some (.ok ds,ρ1))(h2:run ds=some (.ok d nw,x))(h3:(bF (some k) 0 as ρ1||(fA d nw&&((some k).isNone||bV x)))=true)(h4:dC (some j) x ρ1=some ρ2):af (some k) (some j) run as ρ=some (.ok d nw,ρ2):=by
 unfold af;simp only [h,h2];rw [if_pos h3,h4]
theorem yA{o o':List D->Option (D×Bool)}{f3:SE}{x y z:D}{b2:Bool}(h:evA [.ex f,.ex g] ρ=some (.ok [x,y],ρ1))(h1:o [x,y]=some (.bl b,false))(h2:f3 ρ1=some (.ok z nw,ρ1))(h3:o' [y,z]=some (.bl b2,false)):cN o o' f g f3 ρ=some (.ok (.bl (b&&b2)) false,ρ1):=by
 unfold cN;simp only [h,h1]
 cases b with
 | true=>simp only [h2,h3,Cn]
 | false=>rfl
theorem yC{r:Option (Res×Rho)}(h:f ρ=some (.ok (.bl b) nw,ρ1))(hb:b=true)(h2:g ρ1=r):ck f g ρ=r:=by unfold ck;subst hb;rw [h];exact h2
theorem r_andV{b2:Bool}(h:f ρ=some (.ok (.bl b) nw,ρ1))(h2:g ρ1=some (.ok (.bl b2) false,ρ1)):ck f g ρ=some (.ok (.bl (b&&b2)) false,ρ1):=by
 unfold ck;rw [h]
 cases b with
 | true=>exact h2
 | false=>rfl
theorem r_orVF{r:Option (Res×Rho)}(h:f ρ=some (.ok (.bl b) nw,ρ1))(hb:b=false)(h2:g ρ1=r):jk f g ρ=r:=by unfold jk;subst hb;rw [h];exact h2
theorem r_orVT(h:f ρ=some (.ok (.bl b) nw,ρ1))(hb:b=true):jk f g ρ=some (.ok (.bl true) false,ρ1):=by unfold jk;subst hb;rw [h]
theorem r_notV(h:f ρ=some (.ok (.bl b) nw,ρ1)):fx f ρ=some (.ok (.bl (!b)) false,ρ1):=by unfold fx;rw [h]
section
variable{np n:Nat}{body:SS}{io:Option Nat}{x:D}
theorem r_fn(hi:ini n io ds=ρ)(h:body ρ=some (.rt d nw,ρ1))(hx:ioD io ρ1=some x)(hl:ds.length=np):aq np n io body ds=some (.ok d nw,x):=by subst hi;unfold aq;rw [if_pos hl,h];show (match ioD io ρ1 with | some x=>_ | none=>_)=_;rw [hx]
theorem r_fnN(hi:ini n io ds=ρ)(h:body ρ=some (.nx,ρ1))(hx:ioD io ρ1=some x)(hl:ds.length=np):aq np n io body ds=some (.ok .non false,x):=by subst hi;unfold aq;rw [if_pos hl,h];show (match ioD io ρ1 with | some x=>_ | none=>_)=_;rw [hx]
end
end
theorem eL{α:Type}{k:Nat}{T:Tg}{f:SE}{ρ:Rho}{inj g:α->D}:∀ (xs:List α),(∀ x∈xs,∃ ρ1 ρ3 nw,bv T (inj x) (ρ++List.replicate k none)=some ρ1/\f ρ1=some (.ok (g x) nw,ρ3)/\ρ3.take ρ.length=ρ)->aT k T none f (xs.map inj) ρ=some (xs.map g,ρ)
 | [],_=>rfl
 | x::xs,h=>by
  obtain ⟨ρ1,ρ3,nw,e1,e2,e3⟩:=h x AY;rw [A4];unfold aT;simp only [e1,evC,e2,e3,eL xs fun d hd=>h d (AV _ hd),A4]
theorem kB{α:Type}{k:Nat}{T:Tg}{c:ST}{f:SE}{ρ:Rho}{inj g:α->D}{p:α->Bool}:∀ (xs:List α),(∀ x∈xs,∃ ρ1 ρ2,bv T (inj x) (ρ++List.replicate k none)=some ρ1/\c ρ1=some (.ok (p x),ρ2)/\ρ2.take ρ.length=ρ/\(p x=true->∃ ρ3 nw,f ρ2=some (.ok (g x) nw,ρ3)/\ρ3.take ρ.length=ρ))->aT k T (some c) f (xs.map inj) ρ=some ((xs.filter p).map g,ρ)
 | [],_=>rfl
 | x::xs,h=>by
  obtain ⟨ρ1,ρ2,e1,e2,e3,e4⟩:=h x AY
  have ih:=kB xs fun d hd=>h d (AV _ hd)
  rw [A4];unfold aT
  cases hp:p x with
  | true =>
   obtain ⟨ρ3,nw,e5,e6⟩:=e4 hp;rw [hp] at e2;simp only [e1,evC,e2,e5,e6,ih,A4,List.filter_cons,hp,if_true]
  | false =>
   rw [hp] at e2;simp only [e1,evC,e2,e3,ih,List.filter_cons,hp];rfl
theorem pV(bs:List Bool):nU [.lst (bs.map D.bl)]=some (.bl (bs.all id),false):=by unfold nU;simp only [uO]
theorem t8(ns:List Int)(h:ns.length<=1000):nS [.tup (ns.map D.int)]=some (.set (dd ns),false):=by unfold nS;simp only [bz,h,decide_true,if_true]
theorem qZ(ns:List Int)(h:ns.length<=1000):nS [.lst (ns.map D.int)]=some (.set (dd ns),false):=by unfold nS;simp only [bz,h,decide_true,if_true]
theorem dd_len(ns:List Int):(dd ns).length<=ns.length:=by
 unfold dd
 have:∀ (l acc:List Int),(l.foldl step_dedup acc).length<=acc.length+l.length:=by
  intro l
  induction l with
  | nil=>intro acc;simp
  | cons x l ih =>
   intro acc
   have h1:(step_dedup acc x).length<=acc.length+1:=by
    unfold step_dedup
    split<;>simp
   have:=ih (step_dedup acc x);rw [C7,A3];omega
 have:=this ns [];simpa using this
theorem pS(ns:List Int)(h:ns.length<=1000):bH [.set (dd ns)]=some (.int (dd ns).length,false):=by
 have:=dd_len ns;unfold bH;simp only [show (dd ns).length<=1000 by omega,decide_true,if_true]
theorem ub(ns:List Int)(h:ns≠[]):dH [.tup (ns.map D.int)]=some (.int (dQ ns),false):=by
 unfold dH
 cases ns with
 | nil=>exact absurd rfl h
 | cons n ns=>simp only [bz]
theorem uc(ns:List Int)(h:ns≠[]):dH [.lst (ns.map D.int)]=some (.int (dQ ns),false):=by
 unfold dH xb
 cases ns with
 | nil=>exact absurd rfl h
 | cons n ns=>simp only [bz]
theorem t9(ns:List Int)(h:ns≠[]):gc [.lst (ns.map D.int)]=some (.int (fG ns),false):=by
 unfold gc zL
 cases ns with
 | nil=>exact absurd rfl h
 | cons n ns=>simp only [bz]
theorem qr{ns:List Int}{i:Int}(h0:0<=i)(h1:i < ns.length):atI (ns.map D.int) i=some (.int (ns.getD i.toNat 0)):=by
 obtain ⟨k,rfl⟩:∃ k:Nat,i=k:=⟨i.toNat,by omega⟩
 have hk:k < ns.length:=by omega
 refine lE ?_;rw [Bf,AN hk];simp [hk]
theorem bW{n:Nat}(h:n<=1000):small n=true:=by unfold small;exact Ba (by omega)
theorem wy{lo hi:Int}(h1 : -1000000<=lo)(h2:lo<=1000000)(h3 : -1000000<=hi)(h4:hi<=1000000)(h5:hi - lo<=1000000):okR lo hi=true:=by
 unfold okR
 refine Ba ⟨?_,?_,?_,?_,?_⟩<;>omega
theorem el_mk{k:Nat}{T:Tg}{f:SE}{ρ ρ1 ρ3:Rho}{d y y':D}{nw:Bool}(h1:bv T d (ρ++List.replicate k none)=some ρ1)(h2:f ρ1=some (.ok y' nw,ρ3))(h3:ρ3.take ρ.length=ρ)(hy:y'=y):∃ ρ1 ρ3 nw,bv T d (ρ++List.replicate k none)=some ρ1/\f ρ1=some (.ok y nw,ρ3)/\ρ3.take ρ.length=ρ:=⟨ρ1,ρ3,nw,h1,by rw [<- hy];exact h2,h3⟩
theorem el_mkF{k:Nat}{T:Tg}{c:ST}{f:SE}{ρ ρ1 ρ2 ρ3:Rho}{d y y':D}{b b' nw:Bool}(h1:bv T d (ρ++List.replicate k none)=some ρ1)(h2:c ρ1=some (.ok b',ρ2))(h3:ρ2.take ρ.length=ρ)(hb:b'=b)(h4:f ρ2=some (.ok y' nw,ρ3))(h5:ρ3.take ρ.length=ρ)(hy:y'=y):∃ ρ1 ρ2,bv T d (ρ++List.replicate k none)=some ρ1/\c ρ1=some (.ok b,ρ2)/\ρ2.take ρ.length=ρ/\(b=true->∃ ρ3 nw,f ρ2=some (.ok y nw,ρ3)/\ρ3.take ρ.length=ρ):=⟨ρ1,ρ2,h1,by rw [<- hb];exact h2,h3,fun z=>⟨ρ3,nw,by rw [<- hy];exact h4,h5⟩⟩
theorem lp_mk{T:Tg}{f:SS}{ρ ρ1 ρ2:Rho}{d:D}{I:Rho->Prop}(h1:bv T d ρ=some ρ1)(h2:f ρ1=some (.nx,ρ2))(h3:I ρ2):∃ ρ1 ρ2,bv T d ρ=some ρ1/\f ρ1=some (.nx,ρ2)/\I ρ2:=⟨ρ1,ρ2,h1,h2,h3⟩
end L2
namespace Srt
open PySem PySem.W PyProof.Rows
def Tru{α:Type}(lt:Nat->Nat->Bool)(P:α->Prop):KasT α->Prop
 | .ret a=>P a
 | .ask i j k=>Tru lt P (k (lt i j))
theorem Tru.bind{α β:Type}{lt:Nat->Nat->Bool}{P:β->Prop}{f:α->KasT β}:∀ {t:KasT α},Tru lt (fun a=>Tru lt P (f a)) t->Tru lt P (t.bind f)
 | .ret _,h=>h
 | .ask i j k,h=>Tru.bind (t:=k (lt i j)) h
theorem Tru.mono{α:Type}{lt:Nat->Nat->Bool}{P P':α->Prop}(hp:∀ a,P a->P' a):∀ {t:KasT α},Tru lt P t->Tru lt P' t
 | .ret a,h=>hp a h
 | .ask i j k,h=>Tru.mono hp (t:=k (lt i j)) h
theorem both{α:Type}{n:Nat}{lt:Nat->Nat->Bool}{P P':α->Prop}{cmp:Nat->Nat->(Bool->Shared->Prop)->Shared->Prop}{Q:α->Shared->Prop}{s:Shared}
 (hc:∀ i j C,i < n->j < n->C (lt i j) s->cmp i j C s) (hq:∀ a,P a->P' a->Q a s):∀ {t:KasT α},All n P t->Tru lt P' t->t.kasWp cmp Q s
 | .ret a,h,g=>hq a h g
 | .ask i j k,⟨h1,h2,h3⟩,g=>hc i j _ h1 h2 (both hc hq (h3 _) g)
structure Ord(lt:Nat->Nat->Bool):Prop where
 asym:∀ a b,lt a b=true->lt b a=false
 trans:∀ a b c,lt b a=false->lt c b=false->lt c a=false
section
variable{lt:Nat->Nat->Bool}(O:Ord lt)
theorem Ord.refl(O:Ord lt)(a:Nat):lt a a=false:=by
 cases h:lt a a with
 | false=>rfl
 | true=>exact absurd (O.asym a a h) (by rw [h];decide)
abbrev Le(lt:Nat->Nat->Bool)(a b:Nat):Prop:=lt b a=false
abbrev at_(p:Array Nat)(i:Nat):Nat:=p.getD i 0
def Asc(lt:Nat->Nat->Bool)(p:Array Nat)(m:Nat):Prop:=∀ i j,i<=j->j < m->Le lt (at_ p i) (at_ p j)
def Des(lt:Nat->Nat->Bool)(p:Array Nat)(m:Nat):Prop:=∀ i j,i<=j->j < m->Le lt (at_ p j) (at_ p i)
def Eqv(lt:Nat->Nat->Bool)(p:Array Nat)(a b:Nat):Prop:=∀ i j,a<=i->i < b->a<=j->j < b->Le lt (at_ p i) (at_ p j)
theorem om{p:Array Nat}{i j:Nat}(hj:j<=p.size)(k:Nat):at_ (kas_rev p i j) k=if i<=k/\k < j then at_ p (i+j - 1 - k) else at_ p k:=by
 have h:=getElem?_mirror_all (xs:=p) (i:=i) hj k
 show (kas_rev p i j).getD k 0=_
 unfold kas_rev at_;rw [BD,h]
 split<;>rw [BD]
theorem at_bub{p:Array Nat}{k l:Nat}(hk:k < p.size)(hl:l<=k)(t:Nat):at_ (bubble p k (k - l)) t=if t=l then at_ p k else if l < t/\t<=k then at_ p (t - 1) else at_ p t:=by
 have h:=getElem?_bubble (xs:=p) hk (k - l) (by omega) t;rw [show k - (k - l)=l by omega] at h
 show (bubble p k (k - l)).getD t 0=_
 rw [BD,h]
 by_cases h1:t=l
 ·rw [if_pos h1,if_pos h1,<- BD]
 ·rw [if_neg h1,if_neg h1]
  by_cases h2:l < t/\t<=k
  ·rw [if_pos h2,if_pos h2,<- BD]
  ·rw [if_neg h2,if_neg h2,<- BD]
include O
theorem Asc.snoc{p:Array Nat}{n:Nat}(h:Asc lt p n)(h1:1<=n)(hn:Le lt (at_ p (n - 1)) (at_ p n)):Asc lt p (n+1):=fun i j hij hj=>by
 by_cases e:j=n
 ·subst e
  by_cases e2:i=j
  ·subst e2;exact O.refl _
  ·exact O.trans _ _ _ (h i (j - 1) (by omega) (by omega)) hn
 ·exact h i j hij (by omega)
theorem Des.snoc{p:Array Nat}{n:Nat}(h:Des lt p n)(h1:1<=n)(hn:Le lt (at_ p n) (at_ p (n - 1))):Des lt p (n+1):=fun i j hij hj=>by
 by_cases e:j=n
 ·subst e
  by_cases e2:i=j
  ·subst e2;exact O.refl _
  ·exact O.trans _ _ _ hn (h i (j - 1) (by omega) (by omega))
 ·exact h i j hij (by omega)
theorem rO{p:Array Nat}:∀ f n,1<=n->Asc lt p n->Tru lt (fun m=>n<=m/\m<=n+f/\Asc lt p m/\(m=n+f\/lt (at_ p m) (at_ p (m - 1))=true)) (kas_asc p f n)
 | 0,n,h1,h=>⟨A8 _,A8 _,h,.inl rfl⟩
 | f+1,n,h1,h=>by
  show Tru lt _ (if lt (at_ p n) (at_ p (n - 1))=true then KasT.ret n else kas_asc p f (n+1))
  by_cases c:lt (at_ p n) (at_ p (n - 1))=true
  ·rw [if_pos c]
   exact ⟨A8 _,by omega,h,.inr c⟩
  ·rw [if_neg c]
   exact (rO f (n+1) (by omega) (h.snoc O h1 (by simpa using c))).mono fun m ⟨a,b,c,d⟩=>⟨by omega,by omega,c,d.imp (fun z=>by omega) id⟩
theorem kf:∀ f (p:Array Nat) n q,1<=n->q+1<=n->n+f<=p.size->Des lt p n->Eqv lt p (n - (q+1)) n ->
 Tru lt (fun r=>n<=r.2.1/\r.2.1<=n+f/\r.2.2+1<=r.2.1/\r.1.size=p.size/\Des lt r.1 r.2.1/\Eqv lt r.1 (r.2.1 - (r.2.2+1)) r.2.1) (kas_desc f p n q)
 | 0,p,n,q,h1,hq,hs,hd,he=>⟨A8 _,A8 _,hq,rfl,hd,he⟩
 | f+1,p,n,q,h1,hq,hs,hd,he=>by
  have one:∀ (p':Array Nat),Eqv lt p' (n+1 - (0+1)) (n+1):=fun p' i j a b c d=>by
   have:i=j:=by omega
   subst this;exact O.refl _
  show Tru lt _ (if lt (at_ p n) (at_ p (n - 1))=true then (if q > 0 then kas_desc f (kas_rev p (n - (q+1)) n) (n+1) 0 else kas_desc f p (n+1) 0)
   else KasT.ask (at_ p (n - 1)) (at_ p n) fun d=>if d=true then .ret (p,n,q) else kas_desc f p (n+1) (q+1))
  by_cases c:lt (at_ p n) (at_ p (n - 1))=true
  ·rw [if_pos c]
   have hle:Le lt (at_ p n) (at_ p (n - 1)):=O.asym _ _ c
   by_cases q0:q > 0
   ·rw [if_pos q0]
    have hn:n<=p.size:=by omega
    have sz:(kas_rev p (n - (q+1)) n).size=p.size:=mirror_size _ _ _ _;have R:=om (p:=p) (i:=n - (q+1)) hn
    have D:Des lt (kas_rev p (n - (q+1)) n) (n+1):=fun i j hij hj=>by
     rw [R i,R j]
     by_cases ej:j=n
     ·subst ej
      rw [if_neg (by omega:¬ (j - (q+1)<=j/\j < j))]
      split
      ·exact O.trans _ _ _ hle (hd _ (j - 1) (by omega) (by omega))
      ·by_cases ei:i=j
       ·subst ei;exact O.refl _
       ·exact O.trans _ _ _ hle (hd _ (j - 1) (by omega) (by omega))
     ·by_cases si:n - (q+1)<=i/\i < n
      ·rw [if_pos si,if_pos (by omega:n - (q+1)<=j/\j < n)]
       exact he _ _ (by omega) (by omega) (by omega) (by omega)
      ·rw [if_neg si]
       split
       ·exact hd _ _ (by omega) (by omega)
       ·exact hd _ _ hij (by omega)
    exact (kf f _ (n+1) 0 (by omega) (by omega) (by rw [sz];omega) D (one _)).mono fun r ⟨a,b,c,d,e,g⟩=>⟨by omega,by omega,c,d.trans sz,e,g⟩
   ·rw [if_neg q0]
    exact (kf f p (n+1) 0 (by omega) (by omega) (by omega) (hd.snoc O h1 hle) (one _)).mono fun r ⟨a,b,c,d,e,g⟩=>⟨by omega,by omega,c,d,e,g⟩
  ·rw [if_neg c]
   have c:lt (at_ p n) (at_ p (n - 1))=false:=by simpa using c
   show Tru lt _ (if lt (at_ p (n - 1)) (at_ p n)=true then KasT.ret (p,n,q) else kas_desc f p (n+1) (q+1))
   by_cases d:lt (at_ p (n - 1)) (at_ p n)=true
   ·rw [if_pos d]
    exact ⟨A8 _,C5 _ _,hq,rfl,hd,he⟩
   ·rw [if_neg d]
    have d:lt (at_ p (n - 1)) (at_ p n)=false:=by simpa using d
    have E:Eqv lt p (n+1 - (q+1+1)) (n+1):=fun i j a b a2 b2=>by
     by_cases ei:i=n
     ·by_cases ej:j=n
      ·rw [ei,ej];exact O.refl _
      ·rw [ei]
       exact O.trans _ _ _ d (he (n - 1) j (by omega) (by omega) (by omega) (by omega))
     ·by_cases ej:j=n
      ·rw [ej]
       exact O.trans _ _ _ (he i (n - 1) (by omega) (by omega) (by omega) (by omega)) c
      ·exact he i j (by omega) (by omega) (by omega) (by omega)
    exact (kf f p (n+1) (q+1) (by omega) (by omega) (by omega) (hd.snoc O h1 d) E).mono fun r ⟨a,b,c,d,e,g⟩=>⟨by omega,by omega,c,d,e,g⟩
theorem oN{p:Array Nat}{n N:Nat}(h1:1<=n)(hn:n<=N)(hs:p.size=N)(hd:Des lt p n):Tru lt (fun r:Nat×Array Nat=>1<=r.1/\r.1<=N/\r.2.size=N/\Asc lt r.2 r.1) (kas_tail3 n N p):=by
 unfold kas_tail3;have sz:(kas_rev p 0 n).size=p.size:=mirror_size _ _ _ _;have R:=om (p:=p) (i:=0) (j:=n) (by omega)
 have A:Asc lt (kas_rev p 0 n) n:=fun i j hij hj=>by
  rw [R i,R j,if_pos (by omega),if_pos (by omega)];exact hd _ _ (by omega) (by omega)
 exact ((rO O (N - n) n h1 A).mono fun m ⟨a,b,c,_⟩=>(show 1<=m/\m<=N/\(kas_rev p 0 n).size=N/\Asc lt (kas_rev p 0 n) m from ⟨by omega,by omega,sz.trans hs,c⟩)).bind
theorem jR{p:Array Nat}{n N:Nat}(h1:1<=n)(hn:n+1<=N)(hs:p.size=N)(hd:Des lt p (n+1)):Tru lt (fun r:Nat×Array Nat=>1<=r.1/\r.1<=N/\r.2.size=N/\Asc lt r.2 r.1) (kas_descPart n N p):=by
 unfold kas_descPart
 refine ((kf O (N - (n+1)) p (n+1) 0 (by omega) (by omega) (by omega) hd (fun i j a b c d=>by
  have:i=j:=by omega
  subst this
  exact O.refl _)).mono fun r ⟨a,b,c,d,e,g⟩=> ?_).bind
 by_cases q:r.2.2 > 0
 ·rw [if_pos q]
  have hz:r.2.1<=r.1.size:=by omega
  have R:=om (p:=r.1) (i:=r.2.1 - (r.2.2+1)) (j:=r.2.1) hz
  refine oN O (by omega) (by omega) ((mirror_size _ _ _ _).trans (d.trans hs)) fun i j hij hj=> ?_
  rw [R i,R j]
  by_cases si:r.2.1 - (r.2.2+1)<=i/\i < r.2.1
  ·rw [if_pos si,if_pos (by omega)]
   exact g _ _ (by omega) (by omega) (by omega) (by omega)
  ·rw [if_neg si]
   split
   ·exact e _ _ (by omega) (by omega)
   ·exact e _ _ hij hj
 ·rw [if_neg q]
  exact oN O (by omega) (by omega) (d.trans hs) e
theorem xA{p:Array Nat}{N:Nat}(hN:1<=N)(hs:p.size=N):Tru lt (fun r:Nat×Array Nat=>1<=r.1/\r.1<=N/\r.2.size=N/\Asc lt r.2 r.1) (kas_count N p):=by
 unfold kas_count
 refine ((rO O (p:=p) (N - 1) 1 (A8 _) (fun i j a b=>by
  have:i=j:=by omega
  subst this
  exact O.refl _)).mono fun n ⟨a,b,c,d⟩=> ?_).bind
 by_cases e:(n == N)=true
 ·rw [if_pos e]
  exact ⟨a,by omega,hs,c⟩
 ·rw [if_neg e]
  have ne:n≠N:=by simpa using e
  have hl:lt (at_ p n) (at_ p (n - 1))=true:=d.resolve_left (by omega)
  by_cases n1:n > 1
  ·rw [if_pos n1]
   show Tru lt _ (if lt (at_ p 0) (at_ p (n - 1))=true then _ else _)
   by_cases z:lt (at_ p 0) (at_ p (n - 1))=true
   ·rw [if_pos z]
    exact ⟨a,by omega,hs,c⟩
   ·rw [if_neg z]
    have z:lt (at_ p 0) (at_ p (n - 1))=false:=by simpa using z
    have R:=om (p:=p) (i:=0) (j:=n) (by omega)
    have ev:∀ i j,i < n->j < n->Le lt (at_ p i) (at_ p j):=fun i j hi hj =>
     O.trans _ _ _ (c i (n - 1) (by omega) (by omega)) (O.trans _ _ _ z (c 0 j (by omega) hj))
    refine jR O (by omega) (by omega) ((mirror_size _ _ _ _).trans hs) fun i j hij hj=> ?_
    rw [R i,R j]
    by_cases ej:j=n
    ·subst ej
     rw [if_neg (by omega:¬ (0<=j/\j < j))]
     split
     ·exact O.trans _ _ _ (O.asym _ _ hl) (ev _ _ (by omega) (by omega))
     ·have:i=j:=by omega
      subst this;exact O.refl _
    ·rw [if_pos (by omega:0<=i/\i < n),if_pos (by omega:0<=j/\j < n)]
     exact ev _ _ (by omega) (by omega)
  ·rw [if_neg n1]
   have:n=1:=by omega
   subst this
   refine jR O (by omega) (by omega) hs fun i j hij hj=> ?_
   by_cases e:i=j
   ·subst e;exact O.refl _
   ·have hi:i=0:=by omega
    have hj:j=1:=by omega
    subst hi hj;exact O.asym _ _ hl
theorem kI{p:Array Nat}{k:Nat}(h:Asc lt p k):∀ f l r,l<=r->r<=k->r<=l+f->(∀ i,i < l->Le lt (at_ p i) (at_ p k))->(∀ i,r<=i->i < k->Le lt (at_ p k) (at_ p i)) ->
 Tru lt (fun m=>m<=k/\(∀ i,i < m->Le lt (at_ p i) (at_ p k))/\∀ i,m<=i->i < k->Le lt (at_ p k) (at_ p i)) (kas_place p k f l r)
 | 0,l,r,h1,h2,h3,h4,h5=>⟨by omega,h4,fun i a b=>h5 i (by omega) b⟩
 | f+1,l,r,h1,h2,h3,h4,h5=>by
  unfold kas_place
  by_cases g:l>=r
  ·rw [if_pos g]
   exact ⟨by omega,h4,fun i a b=>h5 i (by omega) b⟩
  ·rw [if_neg g]
   show Tru lt _ (if lt (at_ p k) (at_ p ((l+r) / 2))=true then _ else _)
   by_cases c:lt (at_ p k) (at_ p ((l+r) / 2))=true
   ·rw [if_pos c]
    exact kI h f l ((l+r) / 2) (by omega) (by omega) (by omega) h4 fun i a b=>O.trans _ _ _ (O.asym _ _ c) (h _ i a b)
   ·rw [if_neg c]
    have c:lt (at_ p k) (at_ p ((l+r) / 2))=false:=by simpa using c
    exact kI h f ((l+r) / 2+1) r (by omega) h2 (by omega) (fun i a=>O.trans _ _ _ (h i _ (by omega) (by omega)) c) h5
theorem xJ{N:Nat}:∀ f (p:Array Nat) k,1<=k->k+f=N->p.size=N->Asc lt p k->Tru lt (fun r:Array Nat=>r.size=N/\Asc lt r N) (kas_bin f p k)
 | 0,p,k,h1,h2,hs,h=>⟨hs,by rw [<- h2];exact h⟩
 | f+1,p,k,h1,h2,hs,h=>by
  unfold kas_bin;refine ((kI O h k 0 k (by omega) (A8 _) (by omega) (fun i z=>by omega) (fun i a b=>by omega)).mono fun l ⟨a,b,c⟩=> ?_).bind;have B:=at_bub (p:=p) (k:=k) (l:=l) (by omega) a
  refine xJ f _ (k+1) (by omega) (by omega) ((bubble_size _ _ _).trans hs) fun i j hij hj=> ?_
  rw [B i,B j]
  by_cases ei:i=l
  ·rw [if_pos ei]
   by_cases ej:j=l
   ·rw [if_pos ej];exact O.refl _
   ·rw [if_neg ej,if_pos (by omega)]
    exact c _ (by omega) (by omega)
  ·rw [if_neg ei]
   by_cases ej:j=l
   ·rw [if_pos ej,if_neg (by omega)]
    exact b i (by omega)
   ·rw [if_neg ej]
    split
    ·rw [if_pos (by omega)]
     exact h _ _ (by omega) (by omega)
    ·split
     ·exact h _ _ (by omega) (by omega)
     ·exact h _ _ hij (by omega)
theorem yh{n:Nat}(h:1<=n):Tru lt (fun r:Array Nat=>r.size=n/\Asc lt r n) (kas_sort n):=by
 unfold kas_sort;refine ((xA O h (by simp)).mono fun r ⟨a,b,c,d⟩=> ?_).bind
 by_cases e:r.1 < n
 ·rw [if_pos e,show max r.1 1=r.1 by omega]
  exact xJ O _ _ _ a (by omega) c d
 ·rw [if_neg e]
  have:r.1=n:=by omega
  exact ⟨c,by rw [<- this];exact d⟩
end
end Srt
namespace Srt
open PySem PySem.W PyProof.Rows
def cV:List Int->List Int->Bool
 | [],[]=>false
 | [],_::_=>true
 | _::_,[]=>false
 | a::as,b::bs=>if a=b then cV as bs else decide (a < b)
theorem ii:∀ a b:List Int,cV a b=true->cV b a=false
 | [],[],h=>by cases h
 | [],_::_,_=>rfl
 | _::_,[],h=>by cases h
 | a::as,b::bs,h=>by
  unfold cV at h ⊢
  by_cases e:a=b
  ·rw [if_pos e] at h
   rw [if_pos e.symm];exact ii as bs h
  ·rw [if_neg e] at h
   rw [if_neg (Ne.symm e)];have:=A6 h;exact Bk (by omega)
theorem k6:∀ a b:List Int,cV a b=false->cV b a=false->a=b
 | [],[],_,_=>rfl
 | [],_::_,h,_=>by cases h
 | _::_,[],_,h=>by cases h
 | a::as,b::bs,h,g=>by
  unfold cV at h g
  by_cases e:a=b
  ·rw [if_pos e] at h
   rw [if_pos e.symm] at g;rw [e,k6 as bs h g]
  ·rw [if_neg e] at h
   rw [if_neg (Ne.symm e)] at g;have h:=CM h;have g:=CM g;omega
theorem f7:∀ a b c:List Int,cV b a=false->cV c b=false->cV c a=false
 | [],_,[],_,_=>rfl
 | [],[],_::_,_,_=>rfl
 | [],_::_,_::_,_,_=>rfl
 | _::_,[],_,h,_=>by cases h
 | _::_,_::_,[],_,h=>by cases h
 | a::as,b::bs,c::cs,h,g=>by
  unfold cV at h g ⊢
  by_cases e1:b=a
  ·rw [if_pos e1] at h
   by_cases e2:c=b
   ·rw [if_pos e2] at g
    rw [if_pos (e2.trans e1)];exact f7 as bs cs h g
   ·rw [if_neg e2] at g
    have g:=CM g;rw [if_neg (fun z=>e2 (z.trans e1.symm))];exact Bk (by omega)
  ·rw [if_neg e1] at h
   have h:=CM h
   by_cases e2:c=b
   ·rw [if_neg (fun z=>e1 (e2.symm.trans z))]
    exact Bk (by omega)
   ·rw [if_neg e2] at g
    have g:=CM g;rw [if_neg (by omega)];exact Bk (by omega)
def tX(x:List Int):List (List Int)->List (List Int)
 | []=>[x]
 | y::l=>if cV y x=true then y::tX x l else x::y::l
def f6:List (List Int)->List (List Int)
 | []=>[]
 | x::l=>tX x (f6 l)
theorem jx(x:List Int):∀ l,(tX x l).Perm (x::l)
 | []=> .refl _
 | y::l=>by
  unfold tX
  split
  ·exact ((jx x l).cons y).trans (.swap _ _ _)
  ·exact .refl _
theorem cO:∀ l,(f6 l).Perm l
 | []=> .refl _
 | x::l=>(jx x _).trans ((cO l).cons x)
abbrev LeL(a b:List Int):Prop:=cV b a=false
theorem jN(x:List Int):∀ l:List (List Int),l.Pairwise LeL->(tX x l).Pairwise LeL
 | [],_=>List.pairwise_singleton _ _
 | y::l,h=>by
  have hc:=Bz.mp h;unfold tX
  split
  ·rename_i hl
   refine Bz.mpr ⟨fun z hz=> ?_,jN x l hc.2⟩
   rcases A9.mp ((jx x l).mem_iff.mp hz) with rfl | hz
   ·exact ii _ _ hl
   ·exact hc.1 z hz
  ·rename_i hl
   have hl:cV y x=false:=by simpa using hl
   refine Bz.mpr ⟨fun z hz=> ?_,h⟩
   rcases A9.mp hz with rfl | hz
   ·exact hl
   ·exact f7 _ _ _ hl (hc.1 z hz)
theorem e8:∀ l,(f6 l).Pairwise LeL
 | []=> .nil
 | x::l=>jN x _ (e8 l)
theorem bg:∀ {a b:List (List Int)},a.Pairwise LeL->b.Pairwise LeL->a.Perm b->a=b
 | [],b,_,_,p=>by rw [p.nil_eq]
 | x::a,[],_,_,p=>absurd p.symm.nil_eq (by simp)
 | x::a,y::b,ha,hb,p=>by
  have ha':=Bz.mp ha;have hb':=Bz.mp hb
  have exy:x=y:=by
   have hx:x∈y::b:=p.mem_iff.mp AY;have hy:y∈x::a:=p.mem_iff.mpr AY
   rcases A9.mp hx with e | hx
   ·exact e
   ·rcases A9.mp hy with e | hy
    ·exact e.symm
    ·exact k6 _ _ (hb'.1 x hx) (ha'.1 y hy)
  subst exy;rw [bg ha'.2 hb'.2 (List.Perm.cons_inv p)]
theorem lexE{prog:Program}{w:World}{A:Around}{fin:Bool}{C:Bool->Shared->Prop}{s:Shared}:∀ {vs ws:List Value} {ns ms:List Int} (i:Nat),IntsAre vs ns->IntsAre ws ms->fin=decide (ns.length < ms.length)->C (cV ns ms) s->KatLex prog w A true fin C (vs.zip ws) i s
 | [],[],_,_,i,.nil,.nil,hf,hC=>kat_nil (by subst hf;exact hC)
 | [],_::_,_,_,i,.nil,.cons _ _ _,hf,hC=>kat_nil (by subst hf;rw [Ba (by simp)];exact hC)
 | _::_,[],_,_,i,.cons _ _ _,.nil,hf,hC=>kat_nil (by subst hf;rw [Bk (by simp)];exact hC)
 | _::vs,_::ws,_::ns,_::ms,i,.cons a t h1,.cons c u h2,hf,hC=>by
  rw [CO];refine kat_cons ?_;obtain ⟨e,he,h3⟩:=HT.xt A s a t c u;refine he prog w _ _ ?_;unfold cV at hC
  cases e with
  | true =>
   rw [if_pos (h3.mp rfl)] at hC;exact kat_yes (lexE (i+1) h1 h2 (by rw [hf];simp) hC)
  | false =>
   rw [if_neg (fun z=>by cases h3.mpr z)] at hC;refine kat_no ?_
   cases i with
   | zero=>exact oneLt_int hC
   | succ i=>exact kat_one _ _ (lt_int hC)
section
variable{prog:Program}{w:World}{A:Around}{E:Value->Shared->Prop}{s:Shared}
def gX(h:Heap)(vs:List Value)(ks:List (List Int)):Prop:=vs.length=ks.length/\∀ (i:Nat) (hi:i < vs.length),∃ a items,vs[i] = .ref a/\IsTup h a items/\IntsAre items.toList (ks.getD i [])/\ks.getD i []≠[]
theorem gX.tups{h:Heap}{vs:List Value}{ks:List (List Int)}(t:gX h vs ks):Tups h vs:=fun v hv=>by
 obtain ⟨i,hi,rfl⟩:=Cg.mp hv;obtain ⟨a,items,h1,h2,h3,h4⟩:=t.2 i hi;exact ⟨a,items,_,h1,h2,h3,h4⟩
theorem gX.keep{h h':Heap}{vs:List Value}{ks:List (List Int)}(t:gX h vs ks)(k:∀ b o,h.get? b=some o->o.cls = .type "tuple" -> h'.get? b=some o):gX h' vs ks:=⟨t.1,fun i hi=>by
 obtain ⟨a,items,e,⟨o,h1,h2,n,h3⟩,i,ne⟩:=t.2 i hi
 exact ⟨a,items,e,⟨o,k a o h1 h2,h2,n,h3⟩,i,ne⟩⟩
abbrev klt(ks:List (List Int))(i j:Nat):Bool:=cV (ks.getD i []) (ks.getD j [])
theorem zr(ks:List (List Int)):Ord (klt ks):=⟨fun _ _ h=>ii _ _ h,fun _ _ _ h g=>f7 _ _ _ h g⟩
theorem asc_pw{lt:Nat->Nat->Bool}{p:Array Nat}(h:Asc lt p p.size):p.toList.Pairwise (Le lt):=by
 rw [Ce];intro i j hi hj hij;have:=h i j (Nat.le_of_lt hij) (by simpa using hj);unfold Le at_ at this
 have gi:i < p.size:=by simpa using hi
 have gj:j < p.size:=by simpa using hj
 rw [BD,BD,Cf gi,Cf gj] at this;simpa using this
end
end Srt
namespace Srt
open PySem PySem.W PyProof.Rows
section
variable{prog:Program}{w:World}{A:Around}{E:Value->Shared->Prop}{s:Shared}
theorem _root_.L2.IntsAre_len{vs:List Value}{ns:List Int}(h:IntsAre vs ns):vs.length=ns.length:=by
 induction h with
 | nil=>rfl
 | cons _ _ _ ih=>rw [A3,A3,ih]
theorem Ai{a:Addr}{vs:List Value}{ks:List (List Int)}{n:Nat}{P:PySem.Fin->Shared->Prop}(ho:s.heap.get? a=some (seqObj "list" vs.toArray n))(ht:gX s.heap vs ks)(h64:vs.length < 64)
 (h:∀ p:List Nat,p.Perm (List.range vs.length)->p.Pairwise (Le (klt ks))->P (.done (.ret .none)) { s with heap:=sortedHeap s.heap a vs (p.map fun i=>vs.getD i Value.none).toArray }):wpAny (model prog w) A (Builtin.«list.sort» ⟨[.ref a],[]⟩) P E s:=by
 rw [list_sort_plain];have ha:a < s.heap.objs.size:=A5 ho;refine AQ (listItems_at ho rfl (AQ (listUpdate_at ho rfl ?_)));obtain ⟨e1,o1⟩:∃ e1,(s.heap.update a (Obj.mapSeq fun _ => #[])).get? a=some (seqObj "list" #[] e1):=⟨_,get?_update_seq ho (fun _ => #[])⟩;refine AQ (seqEpoch_at o1 rfl (AQ (wpAny_newTuple (AQ (C6 ?_)))));refine Ca ?_;have o6:(((s.heap.update a (Obj.mapSeq fun _ => #[])).push (seqObj "tuple" vs.toArray 0)).push (seqObj "list" #[] 0)).get? a=some (seqObj "list" #[] e1):=AR _ (AR _ o1)
 show wpAny (model prog w) A _ P E { s with heap:=((s.heap.update a (Obj.mapSeq fun _ => #[])).push (seqObj "tuple" vs.toArray 0)).push (seqObj "list" #[] 0) }
 dsimp only
 have hsz:vs.toArray.size=vs.length:=by simp
 have t6:gX (((s.heap.update a (Obj.mapSeq fun _ => #[])).push (seqObj "tuple" vs.toArray 0)).push (seqObj "list" #[] 0)) vs ks:=ht.keep fun b o e c=>by
  refine AR _ (AR _ ((Ct _ _ ?_).trans e));rintro rfl;rw [ho] at e;cases e;exact absurd c (by simp [seqObj])
 by_cases h2:vs.toArray.size < 2
 ·rw [if_pos h2,if_pos h2]
  refine AQ (AX ?_);rw [StateT.run_pure];refine AQ (AX ?_);dsimp only;refine AQ (seqEpoch_at o6 rfl (AQ (listUpdate_at o6 rfl ?_ (hsz2:=by rw [Array.size_map];show (pairsOf vs).size<=_;rw [pairsOf_size,sizeLine_eq];omega))));simp only [bne_self_eq_false,CU,if_false];refine AX ?_
  have e:((vs.toArray.zip vs.toArray).map (·.2))=vs.toArray:=by
   apply Array.toList_inj.mp;rw [Array.toList_map,Array.toList_zip];exact List.map_snd_zip (A8 _)
  have q:=h (List.range vs.length) (List.Perm.refl _) (Ce.mpr fun i j hi hj hij=>by
   rw [BR] at hi hj
   omega)
  rw [show ((List.range vs.length).map fun i=>vs.getD i Value.none)=vs by
   apply BM
   ·simp
   ·intro i h1 h2
    simp [h2]] at q
  rw [<- e] at q;exact q
 ·rw [if_neg h2,if_neg h2]
  have h2':2<=vs.length:=by omega
  obtain ⟨fs,f1,f2,f3⟩:=xn (M:=model prog w) t6.tups;refine AQ (kat_kind (T:= .type "int") f2 (by omega) f3 (by decide) ?_);rw [show ((Value.type "int" != Value.type "tuple")=true) from by decide]
  refine AQ (B9 (kat_run (Q:=fun st' s'=>∃ p:Array Nat,(de vs.length p/\p.size=vs.length/\Asc (klt ks) p vs.length)/\arrOf st'=p.map (kas_item (vs.toArray.zip vs.toArray))/\failedOf st'=none/\s'=_) (G:=fun p s'=>(de vs.length p/\p.size=vs.length/\Asc (klt ks) p vs.length)/\s'=_) (ks:=vs) rfl h2' h64
   (fun p st' s' _ a2 a3 a4=>⟨p,a4.1,a2,a3,a4.2⟩) (both (lt:=klt ks) (P:=de vs.length) (P':=fun p:Array Nat=>p.size=vs.length/\Asc (klt ks) p vs.length) (fun i j C hi hj hC=> ?_) (fun p hp hp2=>⟨⟨hp,hp2⟩,rfl⟩) (sort (by omega)) (yh (zr ks) (by omega)))) ?_ fun _ _ x=>x)
  ·show wpAny (model prog w) A (keyLt' (tuples' true) (vs.getD i Value.none) (vs.getD j Value.none)) C (fun _ _=>False) _
   have gi:vs.getD i Value.none=vs[i]:=by simp [hi]
   have gj:vs.getD j Value.none=vs[j]:=by simp [hj]
   rw [gi,gj];obtain ⟨x,xs,ex,⟨ox,x1,x2,nx,x3⟩,ix,_⟩:=t6.2 i hi;obtain ⟨y,ys,ey,⟨oy,y1,y2,ny,y3⟩,iy,_⟩:=t6.2 j hj;rw [ex,ey];refine kat_lt x1 x3 y1 y3 (lexE 0 ix iy ?_ hC);rw [<- BL,<- BL,L2.IntsAre_len ix,L2.IntsAre_len iy]
  ·rintro ⟨⟨⟩,st'⟩ s' ⟨p,⟨hp,hpz,hpa⟩,har,hf,rfl⟩
   dsimp only;have hout:=kat_snds (vs:=vs) (ks:=vs) rfl har
   have hperm:(p.toList.map fun i=>vs.getD i Value.none).Perm vs:=by
    have e:=hp.2.map fun i=>vs.getD i Value.none
    refine e.trans (C9 ?_);apply BM
    ·simp
    ·intro i h1 h2
     simp [h2]
   rw [hout];refine AQ (seqEpoch_at o6 rfl (AQ (listUpdate_at o6 rfl ?_ (hsz2:=by rw [AW,hperm.length_eq,sizeLine_eq];omega))));rw [hf];simp only [bne_self_eq_false,CU,if_false];exact AX (h p.toList hp.2 (asc_pw (by rw [hpz];exact hpa)))
theorem yg{l:Addr}{vs:List Value}{ks:List (List Int)}{Q:Value->Shared->Prop}(hl:s.heap.IsList l vs.toArray)(ht:gX s.heap vs ks)(h64:vs.length < 64)
 (h:∀ p:List Nat,p.Perm (List.range vs.length)->p.Pairwise (Le (klt ks))->Q (.ref (s.heap.objs.size+1)) { s with heap:=sortedAll s.heap vs (p.map fun i=>vs.getD i Value.none).toArray }):wpAny (model prog w) A (call (.builtin "sorted") [.ref l]) Q E s:=by
 refine Calls.call_function_entry kind_sorted plain_sorted entry_sorted (args_sorted1 _) ?_;unfold Builtin.«sorted»;refine AQ (m:=checkCount "sorted" 1 1 _) (AX ?_);refine AQ (collect_list hl (AQ (C6 ?_)))
 have hsz:((s.heap.push (seqObj "list" #[] 0)).update s.heap.objs.size (Obj.mapSeq (·++ vs.toArray))).objs.size=s.heap.objs.size+1:=by
  rw [Heap.size_update,size_push']
 have oL:(((s.heap.push (seqObj "list" #[] 0)).update s.heap.objs.size (Obj.mapSeq (·++ vs.toArray))).push (seqObj "list" vs.toArray 0)).get? (s.heap.objs.size+1)=some (seqObj "list" vs.toArray 0):=by
  rw [<- hsz];exact AZ _ rfl
 show wpAny _ _ _ _ _ { s with heap:=((s.heap.push (seqObj "list" #[] 0)).update s.heap.objs.size (Obj.mapSeq (·++ vs.toArray))).push (seqObj "list" vs.toArray 0) }
 rw [hsz]
 have tL:gX (((s.heap.push (seqObj "list" #[] 0)).update s.heap.objs.size (Obj.mapSeq (·++ vs.toArray))).push (seqObj "list" vs.toArray 0)) vs ks:=ht.keep fun b o e _ =>
  AR _ ((Ct _ _ (Ne.symm (Bi (A5 e)))).trans (AR _ e))
 refine AQ (Ca (BF slot_list_sort ⟨_,oL,rfl⟩ entry_list_sort (Ai oL tL h64 fun p hp hs=>⟨_,rfl,?_⟩) (args_list_sort _)));exact AX ⟨_,rfl,h p hp hs⟩
end
end Srt
namespace L2
open PySem PySem.Spec PyProof.Rows
section
variable{X:Cx}
def jm(K:Df):List V->Hp->VK->Prop:=fun xs H Q=>∃ (p:Addr) (bs:List V) (ks:List (List Int)),xs=[V.ref p]/\SqL K H p bs/\bs.length < 64/\bs.length=ks.length/\(∀ (i:Nat) (k:List Int),ks[i]?=some k->∃ a:Addr,bs[i]?=some (.ref a)/\SqT K H a (k.map V.int)/\k≠[]) /\
 ∀ l (q:List Nat),H l=none->q.Perm (List.range bs.length)->q.map (fun i=>ks.getD i [])=Srt.f6 ks->Q (.ref l) (upd H l (.lst (q.map fun i=>bs.getD i .non)))
theorem oa:aw X (.builtin "sorted") (jm X.K):=by
 intro pins s σ H xs us Q I r h;obtain ⟨p,bs,ks,rfl,hq,h64,hlk,ht,q⟩:=h;obtain ⟨u,rfl,ru⟩:=bn r;cases ru;obtain ⟨its,rv,pl,hz⟩:=I.list hq;have hlen:=rv.length
 have isref:∀ b∈bs,∃ a,b = .ref a:=fun b hb=>by
  obtain ⟨i,hi,rfl⟩:=Cg.mp hb;obtain ⟨a,e,_⟩:=ht i _ (AN (by omega));rw [AN hi] at e;exact ⟨a,Option.some.inj e⟩
 obtain ⟨eb,refs⟩:=mj rv isref
 refine Srt.yg (ks:=ks) pl.isList ⟨by omega,fun i hi=> ?_⟩ (by omega) fun p hp hs=> ?_
 ·obtain ⟨a,e,hS,ne⟩:=ht i _ (AN (by omega))
  have hv:its[i] = .ref a:=by
   obtain ⟨b,hb⟩:=refs its[i] (BG hi)
   have:(its.map oZ)[i]?=some (.ref a):=by rw [<- eb];exact e
   rw [Bf,AN hi,hb] at this;rw [hb];have:=Option.some.inj this;cases this;rfl
  obtain ⟨items,ri,pt,_⟩:=I.tuple hS
  have hk:ks.getD i []=ks[i]'(by omega):=by simp [AS,AN (show i < ks.length by omega)]
  rw [hk];exact ⟨a,items.toArray,hv,pt,cf ri,ne⟩
 ·have hf:H (s.heap.objs.size+1)=none:=I.hok.fresh (CW _)
  have perm:(p.map fun i=>its.getD i Value.none).Perm its:=by
   refine (hp.map _).trans (C9 ?_);apply BM
   ·simp
   ·intro i h1 h2
    simp [h2]
  have ro:∀ u∈(p.map fun i=>its.getD i Value.none),∃ b,u = .ref b:=fun u hu=>refs u (perm.mem_iff.mp hu)
  have eo:(p.map fun i=>its.getD i Value.none).map oZ=p.map fun i=>bs.getD i .non:=by
   rw [Bo];apply Bp;intro i hi
   have hi':i < its.length:=by
    have:=hp.mem_iff.mp hi;simpa using this
   show oZ (its.getD i Value.none)=_
   rw [eb];simp [AS,hi']
  have es:p.map (fun i=>ks.getD i [])=Srt.f6 ks:=by
   refine Srt.bg ?_ (Srt.e8 ks) (((hp.map _).trans (C9 ?_)).trans (Srt.cO ks).symm)
   ·rw [List.pairwise_map]
    exact hs.imp fun h=>h
   ·rw [hlen.symm.trans hlk]
    apply BM
    ·simp
    ·intro i h1 h2
     simp [h2]
  obtain ⟨e,he⟩:=sortedAll_at s.heap its (p.map fun i=>its.getD i Value.none).toArray;refine ⟨.ref (s.heap.objs.size+1),upd H (s.heap.objs.size+1) (.lst (p.map fun i=>bs.getD i .non)),I.laid (t':=s.toks) (fun b o=>sortedAll_old) (CW _) ⟨?_,_,e,by rw [<- eo];exact jg ro,he⟩,rfl,q _ p hf (by rw [hlen];exact hp) es⟩;rw [AO,hp.length_eq,BR,<- hlen];exact hz
end
def xU:D->Option (List Int)
 | .tup ds=>match aN ds with
  | some (n::ns)=>some (n::ns)
  | _=>none
 | _=>none
def jG:List D->Option (List (List Int))
 | []=>some []
 | d::ds=>match xU d,jG ds with
  | some k,some ks=>some (k::ks)
  | _,_=>none
abbrev mW(k:List Int):D:= .tup (k.map D.int)
theorem xT{d:D}{k:List Int}(h:xU d=some k):d=mW k/\k≠[]:=by
 unfold xU at h
 split at h
 ·rename_i ds
  split at h
  ·rename_i n ns e
   cases h;exact ⟨by rw [aV e],by simp⟩
  ·cases h
 ·cases h
theorem oH:∀ {ds:List D} {ks:List (List Int)},jG ds=some ks->ds=ks.map mW/\∀ k∈ks,k≠[]
 | [],_,h=>by cases h;exact ⟨rfl,fun k hk=>by cases hk⟩
 | d::ds,ks,h=>by
  unfold jG at h
  split at h
  ·rename_i k ks' h1 h2
   cases h;obtain ⟨e1,n1⟩:=xT h1;obtain ⟨e2,n2⟩:=oH h2;exact ⟨by rw [e1,e2];rfl,fun k hk=>(A9.mp hk).elim (fun e=>e ▸ n1) (n2 k)⟩
  ·cases h
def le:List D->Option (D×Bool)
 | [.lst ds]=>match jG ds with
  | some ks=>if decide (ks.length < 64)=true then some (.lst ((Srt.f6 ks).map mW),true) else none
  | none=>none
 | _=>none
theorem mi{K:Df}{H:Hp}{ds:List D}{xs:List V}(h:ae K H ds xs):∀ (q:List Nat),(∀ i∈q,i < ds.length)->ae K H (q.map fun i=>ds.getD i .non) (q.map fun i=>xs.getD i .non)
 | [],_=>trivial
 | i::q,hq=>by
  have hi:=hq i AY;obtain ⟨x,hx,r⟩:=h.get (AN hi);refine ⟨?_,mi h q fun j hj=>hq j (AV _ hj)⟩
  show av K H (ds.getD i .non) (xs.getD i .non)
  rw [AS,AS,hx,AN hi];exact r
theorem wm{K:Df}:OpS K (jm K) le:=by
 intro vs ds H L Q d nw hm r e q;unfold le at e
 split at e
 ·rename_i es
  obtain ⟨x,rfl,⟨p,xs,rfl,h1,h2⟩⟩:=az r
  cases ek:jG es with
  | none=>rw [ek] at e;cases e
  | some ks =>
   rw [ek] at e;simp only at e
   split at e
   ·rename_i hk
    cases e;have hk:=A6 hk;obtain ⟨ee,hne⟩:=oH ek
    have hl:ks.length=xs.length:=by rw [<- h2.len,ee,AO]
    refine ⟨p,xs,ks,rfl,.inl (.inl h1),by omega,hl.symm,fun i k hi=> ?_,fun l p' hl' hp hs=>q _ _ (ad.upd hl') (bS ?_ hl')⟩
    ·obtain ⟨v,hv,a,ys,rfl,g1,g2⟩:=h2.get (i:=i) (d:=mW k) (by rw [ee,Bf,hi];rfl)
     exact ⟨a,hv,.inl (.inl (by rw [(ai g1).2,aP g2])),hne k (Bc hi)⟩
    ·have:=mi h2 p' fun i hi=>by
      have:=hp.mem_iff.mp hi;rw [BO,<- h2.len] at this;exact this
     rw [<- hs,Bo]
     have e2:(p'.map fun i=>es.getD i .non)=p'.map (mW ∘ fun i=>ks.getD i []):=by
      apply Bp;intro i hi
      have hi':i < ks.length:=by
       have:=hp.mem_iff.mp hi;rw [BO] at this;omega
      rw [ee];simp [AS,hi']
     rw [<- e2];exact this
   ·cases e
 ·cases e
def im(ds:List D):Option (D×Bool):=match fc ds with
 | some r=>some r
 | none=>le ds
theorem wq{K:Df}:OpS K (fun xs H Q=>(hU K xs H Q\/g9 K xs H Q)\/jm K xs H Q) im:=by
 intro vs ds H L Q d nw hm r e q;unfold im at e
 cases es:fc ds with
 | some z =>
  rw [es] at e;cases e;exact .inl (tK vs ds H L Q d nw hm r es q)
 | none =>
  rw [es] at e;exact .inr (wm vs ds H L Q d nw hm r e q)
theorem rE{X:Cx}:aw X (.builtin "sorted") (fun xs H Q=>(hU X.K xs H Q\/g9 X.K xs H Q)\/jm X.K xs H Q):=og.or oa
section
variable{X:Cx}{EX:EXT}{e:Expr}{es:List Expr}{pos p:Pos}{as:List Arg}
end
section
variable{K:Df}{F:Fx}{EX:EXT}{σ:St}{H:Hp}{ρ:Rho}{W:List Addr}
end
end L2
namespace L2
namespace Kd
open PySem L2 PyProof.Rows
def words:List Str:=["web", "place", "kind", "share", "square", "number", "text", "row", "great"]
section
variable{X:Cx}{e:Expr}{te:TE}{pos p1 p2:Pos}
end
def names:List Str:=["NoWeb", "NoPlace", "NoKind", "NoShare", "NoSquare", "NoNumber", "NoText", "NoRow", "TooGreat"]
end Kd
end L2
namespace L2
open PySem PySem.Spec PyProof.Rows
def zu:Key->D
 | .inl i=> .int i
 | .inr x=> .str x
theorem wM{K:Df}{H:Hp}:∀ (k:Key),av K H (zu k) (kV k)
 | .inl _=>rfl
 | .inr _=>rfl
theorem mz{K:Df}{H:Hp}:∀ (k:List Key),ae K H (k.map zu) (k.map kV)
 | []=>trivial
 | k::ks=>⟨wM k,mz ks⟩
def cD(ds:List D):Option (D×Bool):=match ds with
 | [.dT ks _]=>some (.lst (ks.map fun k=> .tup (k.map zu)),true)
 | ds=>xc ds
def vS:List V->Hp->VK->Prop:=fun xs H Q=>∃ a kvs,xs=[V.ref a]/\H a=some (.dT kvs) /\
 ∀ l bs,H l=none->(kvs.map (·.1)).Nodup->bs.length=kvs.length->(∀ (i:Nat) k v,kvs[i]?=some (k,v)->∃ b,bs[i]?=some (V.ref b)/\H b=some (.tup (k.map kV)))->Q (.ref l) (upd H l (.lst bs))
theorem nr{K:Df}{H:Hp}:∀ {ds:List D} {xs:List V},ds.length=xs.length->(∀ (i:Nat) (d:D),ds[i]?=some d->∃ x,xs[i]?=some x/\av K H d x)->ae K H ds xs
 | [],[],_,_=>trivial
 | d::ds,x::xs,hl,h=>by
  obtain ⟨y,e,r⟩:=h 0 d rfl;cases e
  exact ⟨r,nr (by simpa using hl) fun i d' hd=>by
   obtain ⟨y,e,r⟩:=h (i+1) d' (by simpa using hd)
   exact ⟨y,by simpa using e,r⟩⟩
 | [],_::_,hl,_=>by simp at hl
 | _::_,[],hl,_=>by simp at hl
theorem wv{K:Df}:OpS K (fun xs H Q=>(kc K xs H Q\/kE xs H Q)\/vS xs H Q) cD:=by
 intro vs ds H L Q d nw hm r e q;unfold cD at e
 split at e
 ·rename_i ks es
  cases e;obtain ⟨x,rfl,⟨p,xs,rfl,h1,hl,h2⟩⟩:=az r;refine .inr ⟨p,_,rfl,h1,fun l bs hf _ hb hk=>q _ _ (ad.upd hf) (bS (nr ?_ fun i d hd=> ?_) hf)⟩
  ·rw [AO,hb,Cc,hl,Cw]
  ·rw [Bf] at hd
   obtain ⟨k,hk1,rfl⟩:=BI.mp hd
   have hi:i < xs.length:=by rw [<- hl];exact (Be.mp hk1).1
   obtain ⟨b,e1,e2⟩:=hk i k xs[i] (by rw [CC];exact ⟨hk1,AN hi⟩);refine ⟨_,e1,b,_,rfl,?_,mz k⟩;rw [aA fun z=>by have:=hm b z;rw [e2] at this;exact this];exact e2
 ·exact .inl (yW vs ds H L Q d nw hm r e q)
theorem qk{X:Cx}(hc:X.calm=true):aw X (.type "list") (fun xs H Q=>(kc X.K xs H Q\/kE xs H Q)\/vS xs H Q):=(rK hc).or (rH hc)
section
variable{X:Cx}{EX:EXT}{e:Expr}{es:List Expr}{pos p:Pos}{as:List Arg}
theorem Ae(he:starEach (e::es) X.env=(false,eval e X.env)::starEach es X.env:=by rfl)(hpl:(backTo pos (starEach es X.env)).any (·.1)=false:=by rfl)(m:X.mg "list" = none)(ha:JA X EX (e::es) as)(hg:Gl X "list" := by rfl)(hc:X.calm=true:=by rfl):JE X EX (.Call (.Name "list" p) (e::es) [] pos) (sOp cD as):=gk (qk hc) wv hg m PyProof.Rows.boot_list ha (by decide) (by decide) he hpl
end
end L2
namespace St2
open PySem PySem.Spec PyProof.Rows
section
variable{prog:Program}{w:World}{A:Around}{E:Value->Shared->Prop}{s:Shared}
theorem qg{T:String}{d:Addr}{n:Nat}{P:Nat->Value->Prop}{OK:Heap->Prop}{Q:List Value->Shared->Prop}(K:PySem.W.KdlSrc prog w T d d n P OK)(hh:A.handled=none)(hd:OK s.heap)(hz:n<=sizeLine)
 (h:∀ h' tk (acc:Array Value) c,(∀ b o,s.heap.get? b=some o->h'.get? b=some o)->h'.get? s.heap.objs.size=some { cls:= .type "list",dict:=none,data:= .seq acc c,slots := #[] }->ItemsOf P acc n->Q acc.toList { s with heap:=h',toks:=tk }) :
 wpAny (model prog w) A (collect (.ref d)) Q E s:=by
 unfold collect;refine AQ (Dd (codeAny_builtin F.entry_proto_collect ?_));unfold Builtin.«proto.collect»
 show wpAny _ _ (newList [] >>= _) _ _ _
 refine AQ (C6 ?_ (by simp));refine AX ⟨Code.quiet_builtin _ (by decide +kernel),codeAny_builtin F.entry_list_iadd ?_⟩;have hn:(s.heap.push { cls:=Value.type "list",data:=Data.seq #[] }).get? s.heap.objs.size=some { cls:=Value.type "list",data:=Data.seq #[] }:=AZ _ rfl
 show wpAny _ _ (Builtin.List.listExtendWith (.ref s.heap.objs.size) (.ref d) (.ref s.heap.objs.size)) _ _ _
 have nd:s.heap.objs.size≠d:=Ck (K.there _ hd).1
 have key:=PySem.W.kdl_extend (A:=A) (s:={ s with heap:=s.heap.push { cls:=Value.type "list",data:=Data.seq #[] } }) (R:=fun r s'=>∃ h' tk acc c,r = .ok (.ret (.ref s.heap.objs.size))/\s'={ s with heap:=h',toks:=tk }/\(∀ b o,s.heap.get? b=some o->h'.get? b=some o)/\h'.get? s.heap.objs.size=some { cls:= .type "list",dict:=none,data:= .seq acc c,slots := #[] }/\ItemsOf P acc n)
  K hh (K.keep _ _ hd fun b _ o e=>AR _ e) _ nd nd (.ref s.heap.objs.size) 0 hn (fun h' tk acc c keep hS items=>⟨h',tk,acc,c,rfl,rfl,fun b o e=>keep b o (Bi (A5 e)) (AR _ e),hS,items⟩) hz
 refine B9 key (fun f s' hf=> ?_) (fun e s' he=> ?_)
 ·cases f with
  | done f =>
   obtain ⟨h',tk,acc,c,e1,rfl,keep,hS,items⟩:=hf;cases e1
   show wpAny _ _ (load s.heap.objs.size >>= _) _ _ _
   refine AQ (wpAny_load hS ?_)
   show wpAny _ _ (pure acc.toList) _ _ _
   exact AX (h h' tk acc c keep hS items)
  | again c' =>
   refine ⟨hf.1,codeAny_mono hf.2 fun r s' z=> ?_⟩;obtain ⟨h',tk,acc,c,e1,rfl,keep,hS,items⟩:=z;cases e1
   show wpAny _ _ (load s.heap.objs.size >>= _) _ _ _
   refine AQ (wpAny_load hS ?_)
   show wpAny _ _ (pure acc.toList) _ _ _
   exact AX (h h' tk acc c keep hS items)
 ·obtain ⟨_,_,_,_,e1,_⟩:=he
  cases e1
end
end St2
namespace L2
open PySem PySem.Spec PyProof.Rows
section
variable{X:Cx}
def nu:List V->Hp->VK->Prop:=fun xs H Q=>∃ (a:Addr) (ks:List (List Int)) (vs:List V),xs=[V.ref a]/\H a=some (.dT ((ks.map fun k=>k.map Sum.inl).zip vs))/\ks.length=vs.length/\ks.length < 64/\(∀ k∈ks,k≠[]) /\
 ∀ l (bs:List V),H l=none->bs.length=ks.length->(∀ (i:Nat) k,(Srt.f6 ks)[i]?=some k->∃ b,bs[i]?=some (V.ref b)/\H b=some (.tup (k.map V.int)))->Q (.ref l) (upd H l (.lst bs))
theorem inl_kV(k:List Int):(k.map (Sum.inl:Int->Key)).map kV=k.map V.int:=by rw [Bo];rfl
theorem l3(hc:X.calm=true):aw X (.builtin "sorted") nu:=by
 intro pins s σ H xs us Q I r h;obtain ⟨a,ks,vs,rfl,ha,hlv,h64,hne,q⟩:=h;obtain ⟨u,rfl,ru⟩:=bn r;cases ru;obtain ⟨z,lo,nd,es,ep,x,hl,hk⟩:=qE I.hok ha;have lsz:sizeLine=16777216:=sizeLine_eq
 have hlz:((ks.map fun k=>k.map (Sum.inl:Int->Key)).zip vs).length=ks.length:=by rw [Cc,AO,hlv,Cw]
 have hes:es.size=ks.length:=hl.trans hlz;refine Calls.call_function_entry kind_sorted plain_sorted entry_sorted (args_sorted1 _) ?_;unfold Builtin.«sorted»;refine AQ (m:=checkCount "sorted" 1 1 _) (AX ?_);refine AQ (St2.qg (RawD.src (ep:=ep) (es:=es) lo) (I.ok.hd hc) x (by omega) fun h1 tk acc c keep hS items=>AQ (C6 ?_ (by rw [BL,items.1];omega)));have hsz:s.heap.objs.size+1<=h1.objs.size:=A5 hS
 have lacc:acc.toList.length=ks.length:=by rw [BL,items.1,hes]
 have at_:∀ (i:Nat) (hi:i < acc.toList.length),∃ b,acc.toList[i] = .ref b/\H b=some (.tup ((ks.getD i []).map V.int))/\ks.getD i []≠[]:=fun i hi=>by
  obtain ⟨hi',e⟩:=items.2 i acc.toList[i] (by rw [<- B8];exact AN hi);obtain ⟨b,k,v,e1,e2,e3⟩:=hk i hi'
  have hi2:i < ks.length:=by omega
  have ek:k=(ks.getD i []).map Sum.inl:=by
   rw [CC] at e2;have:=e2.1;rw [Bf,AN hi2] at this;have this:ks[i].map Sum.inl=k:=Option.some.inj this;rw [<- this];simp [AS,hi2]
  refine ⟨b,e.trans e1,by rw [e3,ek,inl_kV],hne _ ?_⟩;rw [AS,AN hi2];exact BG _
 show wpAny _ _ _ _ _ { s with heap:=h1.push (seqObj "list" acc.toList.toArray 0),toks:=tk }
 have oL:(h1.push (seqObj "list" acc.toList.toArray 0)).get? h1.objs.size=some (seqObj "list" acc.toList.toArray 0):=AZ _ rfl
 have tk1:Srt.gX (h1.push (seqObj "list" acc.toList.toArray 0)) acc.toList ks:=⟨lacc,fun i hi=>by
  obtain ⟨b,e1,e2,e3⟩:=at_ i hi;obtain ⟨items',ri,⟨o,g1,g2,n,g3⟩,_⟩:=I.tuple (X:=X) (.inl (.inl e2))
  exact ⟨b,items'.toArray,e1,⟨o,AR _ (keep b o g1),g2,n,g3⟩,cf ri,e3⟩⟩
 refine AQ (Ca (BF slot_list_sort ⟨_,oL,rfl⟩ entry_list_sort (Srt.Ai oL tk1 (by omega) fun p hp hs=>⟨_,rfl,?_⟩) (args_list_sort _)))
 have hle:s.heap.objs.size<=h1.objs.size:=by omega
 have hf:H h1.objs.size=none:=I.hok.fresh hle
 have hin:∀ i∈p,i < acc.toList.length:=fun i hi=>by
  have:=hp.mem_iff.mp hi
  rwa [BO] at this
 have refs:∀ u∈(p.map fun i=>acc.toList.getD i Value.none),∃ b,u = .ref b:=fun u hu=>by
  obtain ⟨i,hi,rfl⟩:=Bn.mp hu;obtain ⟨b,e1,_⟩:=at_ i (hin i hi);exact ⟨b,by rw [AS,AN (hin i hi)];exact e1⟩
 have es':p.map (fun i=>ks.getD i [])=Srt.f6 ks:=by
  refine Srt.bg ?_ (Srt.e8 ks) (((hp.map _).trans (C9 ?_)).trans (Srt.cO ks).symm)
  ·rw [List.pairwise_map]
   exact hs.imp fun h=>h
  ·rw [lacc]
   apply BM
   ·simp
   ·intro i h1 h2
    simp [h2]
 obtain ⟨e,he⟩:=sortedHeap_at (out:=(p.map fun i=>acc.toList.getD i Value.none).toArray) oL
 have lp:p.length=ks.length:=by rw [hp.length_eq,BR,lacc]
 refine AX ⟨_,rfl,.ref h1.objs.size,upd H h1.objs.size (.lst ((p.map fun i=>acc.toList.getD i Value.none).map oZ)),I.laid (t':=tk) (fun b o q=> ?_) hle ⟨?_,_,e,jg refs,by simpa using he⟩,rfl,q _ _ hf (by rw [AO,AO,lp]) fun i k hik=> ?_⟩
 ·have lb:=A5 (keep b o q)
  rw [sortedHeap_old (Bi lb) (by rw [Bw];exact B1 lb)];exact AR _ (keep b o q)
 ·rw [AO,AO,lp]
  omega
 ·rw [<- es',Bf] at hik
  obtain ⟨j,hj,rfl⟩:=BI.mp hik;have hj':=hin j (Bc hj);obtain ⟨b,e1,e2,_⟩:=at_ j hj';refine ⟨b,?_,e2⟩;rw [Bf,Bf,hj]
  show some (oZ (acc.toList.getD j Value.none))=_
  rw [AS,AN hj']
  show some (oZ acc.toList[j])=_
  rw [e1];rfl
end
def zt:List Key->Option (List Int)
 | []=>some []
 | .inl i::ks=>match zt ks with
  | some l=>some (i::l)
  | none=>none
 | .inr _::_=>none
def sG:List (List Key)->Option (List (List Int))
 | []=>some []
 | k::ks=>match zt k,sG ks with
  | some (i::l),some r=>some ((i::l)::r)
  | _,_=>none
theorem sI:∀ {k:List Key} {l:List Int},zt k=some l->k=l.map Sum.inl
 | [],_,h=>by cases h;rfl
 | .inl i::ks,l,h=>by
  unfold zt at h
  split at h
  ·rename_i l' e
   cases h;rw [sI e];rfl
  ·cases h
 | .inr _::_,_,h=>by cases h
theorem pI:∀ {ks:List (List Key)} {r:List (List Int)},sG ks=some r->ks=(r.map fun k=>k.map Sum.inl)/\∀ k∈r,k≠[]
 | [],_,h=>by cases h;exact ⟨rfl,fun k hk=>by cases hk⟩
 | k::ks,r,h=>by
  unfold sG at h
  split at h
  ·rename_i i l r' e1 e2
   cases h;obtain ⟨g1,g2⟩:=pI e2;exact ⟨by rw [g1,sI e1];rfl,fun k hk=>(A9.mp hk).elim (fun e=>by rw [e];simp) (g2 k)⟩
  ·cases h
def dG(ds:List D):Option (D×Bool):=match ds with
 | [.dT ks _]=>match sG ks with
  | some r=>if decide (r.length < 64)=true then some (.lst ((Srt.f6 r).map mW),true) else none
  | none=>none
 | ds=>im ds
theorem wp{K:Df}:OpS K (fun xs H Q=>((hU K xs H Q\/g9 K xs H Q)\/jm K xs H Q)\/nu xs H Q) dG:=by
 intro vs ds H L Q d nw hm r e q;unfold dG at e
 split at e
 ·rename_i ks es
  split at e
  ·rename_i ns hk
   split at e
   ·rename_i h64
    cases e;have h64:=A6 h64;obtain ⟨g1,g2⟩:=pI hk;obtain ⟨x,rfl,⟨p,xs,rfl,h1,hl,h2⟩⟩:=az r
    have ll:ns.length=xs.length:=by rw [<- hl,g1,AO]
    refine .inr ⟨p,ns,xs,rfl,by rw [<- g1];exact h1,ll,h64,g2,fun l bs hf hb hk'=>q _ _ (ad.upd hf) (bS (nr ?_ fun i d hd=> ?_) hf)⟩
    ·rw [AO,hb,(Srt.cO ns).length_eq]
    ·rw [Bf] at hd
     obtain ⟨k,hk1,rfl⟩:=BI.mp hd;obtain ⟨b,e1,e2⟩:=hk' i k hk1;refine ⟨_,e1,b,_,rfl,?_,ce k⟩;rw [aA fun z=>by have:=hm b z;rw [e2] at this;exact this];exact e2
   ·cases e
  ·cases e
 ·exact .inl (wq vs ds H L Q d nw hm r e q)
theorem rD{X:Cx}(hc:X.calm=true):aw X (.builtin "sorted") (fun xs H Q=>((hU X.K xs H Q\/g9 X.K xs H Q)\/jm X.K xs H Q)\/nu xs H Q):=rE.or (l3 hc)
section
variable{X:Cx}{EX:EXT}{e:Expr}{es:List Expr}{pos p:Pos}{as:List Arg}
theorem Ac(he:starEach (e::es) X.env=(false,eval e X.env)::starEach es X.env:=by rfl)(hpl:(backTo pos (starEach es X.env)).any (·.1)=false:=by rfl)(m:X.mg "sorted" = none)(ha:JA X EX (e::es) as)(hg:Gl X "sorted" := by rfl)(hc:X.calm=true:=by rfl):JE X EX (.Call (.Name "sorted" p) (e::es) [] pos) (sOp dG as):=gI (rD hc) wp hg m PyProof.Rows.boot_sorted ha (by decide) (by decide) he hpl
end
end L2
namespace L2
open PySem
section
variable{ρ ρ1 ρ2 ρ3:Rho}{d:D}{nw b:Bool}{f g:SE}{s t:SS}{C:Str}{nms:List Str}{i:Nat}
theorem r_dnew:vB d ρ=some (.ok d true,ρ):=rfl
end
abbrev nD(l:List Int):List D:=l.map D.int
abbrev bD(l:List Bool):List D:=l.map D.bl
abbrev xW(t:Int×Int):D:= .tup [.int t.1,.int t.2]
abbrev tD(ts:List (Int×Int)):List D:=ts.map xW
abbrev bL(n:Int)(ts:List (Int×Int)):D:= .tup [.int n,.tup (tD ts)]
def rgI(lo:Int)(n:Nat):List Int:=(List.range n).map fun k=>lo+(k:Nat)
theorem aj(lo:Int)(n:Nat):(rgI lo n).length=n:=by unfold rgI;simp
theorem ak{lo:Int}{n:Nat}{x:Int}:x∈rgI lo n↔lo<=x/\x < lo+n:=by
 unfold rgI;rw [Bn]
 constructor
 ·rintro ⟨k,hk,rfl⟩
  have:=BO.mp hk;omega
 ·rintro ⟨a,b⟩
  exact ⟨(x - lo).toNat,BO.mpr (by omega),by omega⟩
theorem yp{lo:Int}{n i:Nat}{x:Int}(h:(rgI lo n)[i]?=some x):i < n/\x=lo+i:=by
 unfold rgI at h;rw [Bf] at h;obtain ⟨k,hk,rfl⟩:=BI.mp h;obtain ⟨a,b⟩:=Be.mp hk;simp at a b;subst b;exact ⟨a,rfl⟩
theorem bZ(lo:Int)(n:Nat):rgI lo (n+1)=rgI lo n++[lo+(n:Nat)]:=by unfold rgI;rw [List.range_succ,Bm];rfl
theorem vH(lo:Int)(n:Nat):rgI lo (n+1)=lo::rgI (lo+1) n:=by
 unfold rgI;rw [List.range_succ_eq_map,A4,Bo]
 congr 1
 ·simp
 ·refine Bp fun k _=> ?_
  show lo+((k+1:Nat):Int)=lo+1+(k:Nat)
  omega
theorem nn(lo:Int)(n:Nat):fS lo n=nD (rgI lo n):=by unfold fS rgI;rw [nD,Bo];rfl
theorem mJ{α:Type}{inj:α->D}:∀ (xs:List α) (k:Nat),gh k (xs.map inj)=(xs.zipIdx k).map fun p=> .tup [.int (p.2:Nat),inj p.1]
 | [],_=>rfl
 | x::xs,k=>by rw [A4,List.zipIdx_cons,A4];show _::gh (k+1) _=_;rw [mJ xs (k+1)]
theorem oC{α β:Type}{i1:α->D}{i2:β->D}:∀ (xs:List α) (ys:List β),jf (xs.map i1) (ys.map i2)=(xs.zip ys).map fun p=> .tup [i1 p.1,i2 p.2]
 | [],ys=>by cases ys<;>rfl
 | _::_,[]=>rfl
 | x::xs,y::ys=>by rw [A4,A4,CO,A4];show _::jf _ _=_;rw [oC xs ys]
section
variable{ρ ρ1 ρ2 ρ3 ρ4:Rho}{d y:D}{ds ys:List D}{nw b:Bool}{f g:SE}{p:ST}{s:SS}{T:Tg}{k:Nat}
theorem sf{x:Arg}{j:Int}(h:evA [x] ρ=some (.ok [.int j],ρ1))(h1 : -1000000<=j)(h2:j<=1000000):ci x ρ=some (.ok (nD (rgI 0 j.toNat)),ρ1):=by rw [r_rng1 h (wy (by omega) (by omega) h1 h2 (by omega)),nn]
theorem yt{x:Arg}{n:Nat}(h:evA [x] ρ=some (.ok [.int (n:Nat)],ρ1))(h2:n<=1000000):ci x ρ=some (.ok (nD (rgI 0 n)),ρ1):=by rw [sf h (by omega) (by omega),CZ]
theorem yr{x z:Arg}{i j:Int}(h:evA [x,z] ρ=some (.ok [.int i,.int j],ρ1))(h0 : -1000000<=i)(h0':i<=1000000)(h1 : -1000000<=j)(h2:j<=1000000)(h3:j - i<=1000000):eK x z ρ=some (.ok (nD (rgI i (j - i).toNat)),ρ1):=by rw [r_rng2 h (wy h0 h0' h1 h2 h3),nn]
theorem yx{α:Type}{inj:α->D}{xs:List α}(h:f ρ=some (.ok d nw,ρ1))(hs:bX d=some (xs.map inj)):fy f ρ=some (.ok (xs.zipIdx.map fun p=> .tup [.int (p.2:Nat),inj p.1]),ρ1):=by
 rw [r_enum h hs,mJ]
theorem r_zipM{α β:Type}{i1:α->D}{i2:β->D}{xs:List α}{zs:List β}{fs:List SE}(h:evA (fs.map Arg.ex) ρ=some (.ok ds,ρ1))(hs:vy ds=some (xs.map i1,zs.map i2))(hl:xs.length<=zs.length):jj fs ρ=some (.ok ((xs.zip zs).map fun p=> .tup [i1 p.1,i2 p.2]),ρ1):=by
 rw [r_zip h hs (by rw [AO,AO];exact hl),oC]
theorem yy{e:Option ST}:aT k T e f [] ρ=some ([],ρ):=rfl
theorem yz(h1:bv T d (ρ++List.replicate k none)=some ρ1)(h2:f ρ1=some (.ok y nw,ρ2))(h3:ρ2.take ρ.length=ρ3)(h4:aT k T none f ds ρ3=some (ys,ρ4)):aT k T none f (d::ds) ρ=some (y::ys,ρ4):=by
 subst h3;unfold aT;simp only [h1,evC,h2,h4]
theorem sj{r:Option (Out×Rho)}(h1:bv T d ρ=some ρ1)(h2:s ρ1=some (.nx,ρ2))(h3:bY T s ds ρ2=r):bY T s (d::ds) ρ=r:=by
 unfold bY;simp only [h1,h2];exact h3
end
section
variable{α:Type}{k:Nat}{T:Tg}{f:SE}{c:ST}{ρ:Rho}{inj:α->D}{q:α->Bool}
theorem qC{g:α->Int}(xs:List α)(h:∀ x∈xs,∃ ρ1 ρ3 nw,bv T (inj x) (ρ++List.replicate k none)=some ρ1/\f ρ1=some (.ok (.int (g x)) nw,ρ3)/\ρ3.take ρ.length=ρ):aT k T none f (xs.map inj) ρ=some (nD (xs.map g),ρ):=by
 rw [eL (g:=fun x=>D.int (g x)) xs h,nD,Bo];rfl
theorem qD{g:α->Bool}(xs:List α)(h:∀ x∈xs,∃ ρ1 ρ3 nw,bv T (inj x) (ρ++List.replicate k none)=some ρ1/\f ρ1=some (.ok (.bl (g x)) nw,ρ3)/\ρ3.take ρ.length=ρ):aT k T none f (xs.map inj) ρ=some (bD (xs.map g),ρ):=by
 rw [eL (g:=fun x=>D.bl (g x)) xs h,bD,Bo];rfl
theorem qB{g1 g2:α->Int}(xs:List α)(h:∀ x∈xs,∃ ρ1 ρ3 nw,bv T (inj x) (ρ++List.replicate k none)=some ρ1/\f ρ1=some (.ok (.tup [.int (g1 x),.int (g2 x)]) nw,ρ3)/\ρ3.take ρ.length=ρ):aT k T none f (xs.map inj) ρ=some (tD (xs.map fun x=>(g1 x,g2 x)),ρ):=by
 rw [eL (g:=fun x=> .tup [.int (g1 x),.int (g2 x)]) xs h,tD,Bo];rfl
end
def sY(o:Option (Out×Rho))(Q:Rho->Prop):Prop:=∃ ρ',o=some (.nx,ρ')/\Q ρ'
theorem ex_seq{s t:SS}{ρ ρ1:Rho}{Q:Rho->Prop}(h1:s ρ=some (.nx,ρ1))(h2:sY (t ρ1) Q):sY (al s t ρ) Q:=by obtain ⟨ρ',e,q⟩:=h2;exact ⟨ρ',vK h1 e,q⟩
theorem ex_one{s:SS}{ρ ρ1:Rho}{Q:Rho->Prop}(h1:s ρ=some (.nx,ρ1))(h2:Q ρ1):sY (s ρ) Q:=⟨ρ1,h1,h2⟩
section
variable{α σ:Type}{T:Tg}{f:SS}{inj:α->D}
theorem jL(R:σ->Rho->Prop)(step:σ->α->σ):∀ (xs:List α) (s:σ) (ρ:Rho),R s ρ->(∀ x∈xs,∀ s ρ,R s ρ->∃ ρ1 ρ2,bv T (inj x) ρ=some ρ1/\f ρ1=some (.nx,ρ2)/\R (step s x) ρ2)->∃ ρ',bY T f (xs.map inj) ρ=some (.nx,ρ')/\R (xs.foldl step s) ρ'
 | [],s,ρ,h,_=>⟨ρ,rfl,h⟩
 | x::xs,s,ρ,h,hs=>by
  obtain ⟨ρ1,ρ2,e1,e2,h2⟩:=hs x AY s ρ h
  obtain ⟨ρ',e3,h3⟩:=jL R step xs _ ρ2 h2 fun x hx=>hs x (AV _ hx)
  exact ⟨ρ',sj e1 e2 e3,h3⟩
theorem mf{lo:Int}(I:Nat->Rho->Prop)(n:Nat)(ρ:Rho)(h0:I 0 ρ)(hs:∀ i,i < n->∀ ρ,I i ρ->∃ ρ1 ρ2,bv T (.int (lo+(i:Nat))) ρ=some ρ1/\f ρ1=some (.nx,ρ2)/\I (i+1) ρ2):∃ ρ',bY T f (nD (rgI lo n)) ρ=some (.nx,ρ')/\I n ρ':=by
 obtain ⟨ρ',e,h⟩:=mh (T:=T) (f:=f) I (nD (rgI lo n)) 0 ρ h0 fun i d ρ hd hI=>by
  rw [nD,Bf] at hd;obtain ⟨x,hx,rfl⟩:=BI.mp hd;obtain ⟨h1,rfl⟩:=yp hx;rw [BA] at hI ⊢;exact hs i h1 ρ hI
 rw [AO,aj,BA] at h;exact ⟨ρ',e,h⟩
theorem kA(I:Nat->Rho->Prop)(n:Nat)(ρ:Rho)(h0:I 0 ρ)(hs:∀ i,i < n->∀ ρ,I i ρ->∃ ρ1 ρ2,bv T (.int (i:Nat)) ρ=some ρ1/\f ρ1=some (.nx,ρ2)/\I (i+1) ρ2):∃ ρ',bY T f (nD (rgI 0 n)) ρ=some (.nx,ρ')/\I n ρ' :=
 mf I n ρ h0 fun i hi ρ hI=>by rw [Int.zero_add];exact hs i hi ρ hI
theorem fR(R:Nat->σ->Rho->Prop)(step:σ->α->σ):∀ (xs:List α) (n:Nat) (s:σ) (ρ:Rho),R n s ρ->(∀ i x,xs[i]?=some x->∀ s ρ,R (n+i) s ρ->∃ ρ1 ρ2,bv T (inj x) ρ=some ρ1/\f ρ1=some (.nx,ρ2)/\R (n+i+1) (step s x) ρ2)->∃ ρ',bY T f (xs.map inj) ρ=some (.nx,ρ')/\R (n+xs.length) (xs.foldl step s) ρ'
 | [],n,s,ρ,h,_=>⟨ρ,rfl,h⟩
 | x::xs,n,s,ρ,h,hs=>by
  obtain ⟨ρ1,ρ2,e1,e2,h2⟩:=hs 0 x rfl s ρ h
  obtain ⟨ρ',e3,h3⟩:=fR R step xs (n+1) _ ρ2 h2 fun i x hx s ρ hR=>by
   have:=hs (i+1) x (by simpa using hx) s ρ (by rw [show n+(i+1)=n+1+i by omega];exact hR);rw [show n+(i+1)+1=n+1+i+1 by omega] at this;exact this
  refine ⟨ρ',sj e1 e2 e3,?_⟩;rw [A3,show n+(xs.length+1)=n+1+xs.length by omega];exact h3
end
section
variable{α:Type}{inj:α->D}{xs ys:List α}{ns ms:List Int}{i a b:Int}
theorem gG:bH [.lst (xs.map inj)]=some (.int (xs.length:Nat),false):=by show some (D.int ((xs.map inj).length:Nat),false)=_;rw [AO]
theorem mE:bH [.tup (xs.map inj)]=some (.int (xs.length:Nat),false):=by show some (D.int ((xs.map inj).length:Nat),false)=_;rw [AO]
theorem pU(h0:0<=i)(h1:i < ns.length):gIx [.tup (nD ns),.int i]=some (.int (ns.getD i.toNat 0),false):=sR (qr h0 h1)
theorem bO(h0:0<=i)(h1:i < ns.length):gIx [.lst (nD ns),.int i]=some (.int (ns.getD i.toNat 0),false):=gH (qr h0 h1)
theorem xf{c:Bool}:gIx [.lst [.int a,.int b],.int (if c=true then 1 else 0)]=some (.int (if c=true then b else a),false):=by cases c<;>rfl
theorem t5:qY [.lst (nD ns)]=some (.int ns.sum,false):=by unfold qY;simp only [bz]
theorem re(h:ns≠[]):dH [.tup (nD ns)]=some (.int (dQ ns),false):=ub ns h
theorem rf(h:ns≠[]):dH [.lst (nD ns)]=some (.int (dQ ns),false):=uc ns h
theorem lm(h:ns≠[]):gc [.lst (nD ns)]=some (.int (fG ns),false):=t9 ns h
theorem zM:dH [.int a,.int b]=some (.int (max a b),false):=by
 show some (D.int (if b > a then b else a),false)=_
 congr 3
 rw [Int.max_def]
 split<;>split<;>omega
theorem zK:gc [.int a,.int b]=some (.int (min a b),false):=by
 show some (D.int (if b < a then b else a),false)=_
 congr 3
 rw [Int.min_def]
 split<;>split<;>omega
theorem vD(h : -1000000<=a)(h2:b<=1000000)(h3:a<=1000000)(h4 : -1000000<=b)(h5:b - a<=1000):oU a b=true:=by
 unfold oU
 refine Ba ⟨?_,?_,?_,?_,?_⟩<;>omega
theorem jB(h : -1000000<=a)(h2:b<=1000000)(h3:a<=1000000)(h4 : -1000000<=b)(h5:b - a<=1000):cD [.rng a b]=some (.lst (nD (rgI a (b - a).toNat)),true):=by
 show (if oU a b=true then some (D.lst (fS a (b - a).toNat),true) else none)=_
 rw [if_pos (vD h h2 h3 h4 h5),nn]
theorem rh{n:Nat}(h:n<=1000):cD [.rng 0 (n:Nat)]=some (.lst (nD (rgI 0 n)),true):=by rw [jB (by omega) (by omega) (by omega) (by omega) (by omega),show ((n:Int) - 0).toNat=n by omega]
theorem jQ(h:ns.length < 64):dG [.lst (nD ns)]=some (.lst (nD (aC ns)),true):=by
 have:fc [.lst (nD ns)]=some (.lst (nD (aC ns)),true):=by unfold fc;simp only [bz,h,decide_true,if_true]
 show im _=_
 unfold im;rw [this]
def dD(ts:List (Int×Int)):List (Int×Int):=(Srt.f6 (ts.map fun t=>[t.1,t.2])).map fun k=>(k.getD 0 0,k.getD 1 0)
theorem qH(ts:List (Int×Int)):(dD ts).Perm ts:=by
 unfold dD;refine ((Srt.cO _).map _).trans ?_;rw [Bo];refine C9 ?_;exact (Bp (fun t _=>rfl)).trans (List.map_id' _)
theorem qI(ts:List (Int×Int)):(dD ts).map (fun t=>[t.1,t.2])=Srt.f6 (ts.map fun t=>[t.1,t.2]):=by
 unfold dD;rw [Bo];refine (Bp fun k hk=> ?_).trans (List.map_id' _);obtain ⟨t,_,rfl⟩:=Bn.mp ((Srt.cO _).mem_iff.mp hk);rfl
theorem vn(ts:List (Int×Int)):tD ts=(ts.map fun t=>[t.1,t.2]).map mW:=by rw [tD,Bo];rfl
theorem l9:∀ (ks:List (List Int)),(∀ k∈ks,k≠[])->jG (ks.map mW)=some ks
 | [],_=>rfl
 | k::ks,h=>by
  have e:xU (mW k)=some k:=by
   cases k with
   | nil=>exact absurd rfl (h _ AY)
   | cons n ns=>show (match aN ((n::ns).map D.int) with | some (n::ns)=>some (n::ns) | _=>none)=_;rw [bz]
  rw [A4];unfold jG;rw [e,l9 ks fun k hk=>h k (AV _ hk)]
theorem t7{ts:List (Int×Int)}(h:ts.length < 64):dG [.lst (tD ts)]=some (.lst (tD (dD ts)),true):=by
 cases hts:ts with
 | nil=>rfl
 | cons t r =>
  rw [<- hts]
  have e0:fc [.lst (tD ts)]=none:=by rw [hts];rfl
  have e1:jG (tD ts)=some (ts.map fun t=>[t.1,t.2]):=by
   rw [vn]
   refine l9 _ fun k hk=> ?_
   obtain ⟨t,_,rfl⟩:=Bn.mp hk
   exact fun z=>nomatch z
  show im _=_
  unfold im;rw [e0]
  show le _=_
  unfold le;simp only [e1,AO,h,decide_true,if_true];rw [<- qI,vn]
theorem p8:∀ (a b:List Int),fh (a.map D.int) (b.map D.int)=decide (a=b)
 | [],[]=>rfl
 | [],_::_=>rfl
 | _::_,[]=>rfl
 | x::a,y::b=>by
  show ((x == y)&&fh (a.map D.int) (b.map D.int))=_
  rw [p8 a b,Bool.eq_iff_iff];simp
theorem kY:∀ (a:List Int),b0 (a.map D.int)=a.map D.int
 | []=>rfl
 | x::a=>by show nrm (.int x)::b0 (a.map D.int)=_;rw [kY a];rfl
theorem dN(n:Nat):∀ (a:List Int),(a.map D.int).all (ac n)=true
 | []=>rfl
 | x::a=>by rw [A4,List.all_cons,dN n a];unfold ac;rfl
theorem dX(n:Nat)(a:List Int):ac (n+1) (.tup (nD a))=true:=by unfold ac;exact dN n a
theorem p7(n:Nat)(a:List Int):ac (n+1) (.lst (nD a))=true:=by unfold ac;exact dN n a
theorem xr(a b:List Int):eqD (.lst (nD a)) (.lst (nD b))=decide (a=b):=by unfold eqD nrm;rw [kY,kY];show fh _ _=_;exact p8 a b
theorem lh:gNe [.lst (nD ns),.lst (nD ms)]=some (.bl (!decide (ns=ms)),false):=by unfold gNe;simp only [p7,Bool.and_self,if_true,xr]
theorem mG(h:xs.length+ys.length<=1000):ay [.lst (xs.map inj),.lst (ys.map inj)]=some (.lst ((xs++ys).map inj),true):=by
 unfold ay;simp only [bW (show (xs.map inj).length+(ys.map inj).length<=1000 by rw [AO,AO];exact h),if_true,Bm]
theorem ue(h:xs.length+ys.length<=1000):ay [.tup (xs.map inj),.tup (ys.map inj)]=some (.tup ((xs++ys).map inj),false):=by
 unfold ay;simp only [bW (show (xs.map inj).length+(ys.map inj).length<=1000 by rw [AO,AO];exact h),if_true,Bm]
theorem rj(h:ns.length<=999):ay [.lst [.int a],.lst (nD ns)]=some (.lst (nD (a::ns)),true):=mG (inj:=D.int) (xs:=[a]) (ys:=ns) (by simp;omega)
theorem uf{ts:List (Int×Int)}(h:ts.length<=999):ay [.lst (tD ts),.lst [.tup [.int a,.int b]]]=some (.lst (tD (ts++[(a,b)])),true):=mG (inj:=xW) (xs:=ts) (ys:=[(a,b)]) (by simp;omega)
theorem iD(h:ns.length<=1000):bR (.lst (nD ns)) [.int a]=some (.lst (nD (ns++[a])),.non):=by
 show (if small (nD ns).length=true then some (D.lst (nD ns++[.int a]),D.non) else none)=_
 rw [if_pos (bW (by rw [AO];exact h)),nD,nD,Bm];rfl
theorem uZ{ts:List (Int×Int)}(h:ts.length<=1000):bR (.lst (tD ts)) [.tup [.int a,.int b]]=some (.lst (tD (ts++[(a,b)])),.non):=by
 show (if small (tD ts).length=true then some (D.lst (tD ts++[.tup [.int a,.int b]]),D.non) else none)=_
 rw [if_pos (bW (by rw [AO];exact h)),tD,tD,Bm];rfl
theorem uSetI(h0:0<=i)(h1:i < ns.length):eD (.lst (nD ns)) (.int i) (.int a)=some (.lst (nD (ns.set i.toNat a))):=by
 obtain ⟨k,rfl⟩:∃ k:Nat,i=k:=⟨i.toNat,by omega⟩
 show (match ixN (nD ns).length (k:Int) with | some n=>some (D.lst ((nD ns).set n (.int a))) | none=>none)=_
 rw [sL (by rw [AO];omega)];simp [nD,List.map_set]
theorem lj(h1 : -(2 ^ 64) < a)(h2:a < 2 ^ 64):cC [.int a,.int b]=some (.int (a * b),false):=by
 show (if jM a b=true then some (D.int (a * b),false) else none)=_
 rw [if_pos (nK h1 h2)]
theorem nT(h1 : -(2 ^ 64) < b)(h2:b < 2 ^ 64):cC [.int a,.int b]=some (.int (a * b),false):=by
 show (if jM a b=true then some (D.int (a * b),false) else none)=_
 rw [if_pos (by unfold jM;rw [Ba (show -(2 ^ 64) < b/\b < 2 ^ 64 from ⟨h1,h2⟩),CL])]
theorem oY(d:D):∀ n,repL n [d]=List.replicate n d
 | 0=>rfl
 | n+1=>by
  have:=oY d n;unfold repL at this ⊢;rw [B2,Cj,this];rfl
theorem xa(h1 : -1000000<=b)(h2:b<=1000000):cC [.lst [.int a],.int b]=some (.lst (nD (List.replicate b.toNat a)),true):=by
 show (if (decide (-1000000<=b/\b<=1000000)&&small ([D.int a].length * b.toNat))=true then some (D.lst (repL b.toNat [.int a]),true) else none)=_
 have:small ([D.int a].length * b.toNat)=true:=Ba (by simp;omega);rw [if_pos (by rw [this,Ba ⟨h1,h2⟩];rfl),oY,nD,List.map_replicate]
end
def qe(xs:List Int)(lo hi:Option Int):List Int:=(xs.drop (HT.sIx xs.length 0 lo)).take (HT.sIx xs.length xs.length hi - HT.sIx xs.length 0 lo)
theorem cut_nD(ns:List Int)(lo hi:Option Int):qf (nD ns) lo hi=nD (qe ns lo hi):=by
 unfold qf qe;rw [AO,nD,nD,List.map_take,List.map_drop]
theorem qA{n d:Nat}{i:Int}(h:0<=i):HT.sIx n d (some i)<=i.toNat:=by
 unfold HT.sIx;simp
 split<;>omega
theorem zT{ns:List Int}{lo:Option Int}{j:Int}(h:0<=j):(qe ns lo (some j)).length<=j.toNat:=by
 unfold qe;rw [BY];have:=qA (n:=ns.length) (d:=ns.length) h;omega
theorem pR{ns:List Int}{i j:Int}:zE i j [.klst (nD ns)]=some (.lst (nD (qe ns (some i) (some j))),true):=by
 show some (D.lst (qf (nD ns) _ _),true)=_
 rw [cut_nD]
theorem rk{ns:List Int}{a i j:Int}(h:0<=j)(h2:j < 100):ay [.lst [.int a],.lst (nD (qe ns (some i) (some j)))]=some (.lst (nD (a::qe ns (some i) (some j))),true):=rj (by have:=zT (ns:=ns) (lo:=some i) h;omega)
structure Pn where
 a:Int
 f:Int
 s:Int
abbrev pD(P:Pn):D:=tG P.a P.f P.s
theorem ke(P:Pn)(m:Int):∃ q:Int×Pn,(0 < m->m < 1073741824->ax [pD P,.int m]=some (.ok (.int q.1) false,pD q.2))/\(0 < m->m < 1073741824->0<=q.1/\q.1 < m):=by
 by_cases h:0 < m/\m < 1073741824
 ·obtain ⟨r,a,f,s,e,h1,h2⟩:=xq P.a P.f P.s m h.1 h.2
  exact ⟨(r,⟨a,f,s⟩),fun _ _=>e,fun _ _=>⟨h1,h2⟩⟩
 ·exact ⟨(0,P),fun a b=>absurd ⟨a,b⟩ h,fun a b=>absurd ⟨a,b⟩ h⟩
noncomputable def dr(P:Pn)(m:Int):Int:=(Classical.choose (ke P m)).1
noncomputable def nx(P:Pn)(m:Int):Pn:=(Classical.choose (ke P m)).2
theorem Ap{P:Pn}{m:Int}(h:0 < m)(h2:m < 1073741824):ax [pD P,.int m]=some (.ok (.int (dr P m)) false,pD (nx P m)):=(Classical.choose_spec (ke P m)).1 h h2
theorem qa(P:Pn){m:Int}(h:0 < m)(h2:m < 1073741824):0<=dr P m/\dr P m < m:=(Classical.choose_spec (ke P m)).2 h h2
theorem v9(c:Int):∃ P:Pn,bJ [.int c]=some (.ok (pD P) true,.non):=by
 obtain ⟨a,f,s,e⟩:=zQ c;exact ⟨⟨a,f,s⟩,e⟩
noncomputable def pen0(c:Int):Pn:=Classical.choose (v9 c)
theorem tPen{c:Int}:bJ [.int c]=some (.ok (pD (pen0 c)) true,.non):=Classical.choose_spec (v9 c)
noncomputable def xC(ns:List Int)(k:Nat):Int:=Classical.choose (p5 ns k)
theorem tCell{ns:List Int}{k:Nat}:aY [.klst (nD ns),.int k]=some (.ok (.int (xC ns k)) false,.non):=Classical.choose_spec (p5 ns k)
theorem tCell0{ns:List Int}:aY [.klst (nD ns),.int 0]=some (.ok (.int (xC ns 0)) false,.non):=tCell (k:=0)
end L2
namespace L2
open PySem PySem.Spec PyProof.Rows
section
variable{K:Df}{F:Fx}{σ:St}{H H1 H2:Hp}{ρ:Rho}{W:List Addr}{p:Addr}
abbrev Fx.more(F:Fx)(p:Addr):Fx:=⟨p::F.Z,F.io⟩
theorem zx(L M:List Addr)(H:Hp):hid L (hid M H)=hid (M++L) H:=by
 funext b
 unfold hid
 by_cases h1:b∈L
 ·rw [if_pos h1,if_pos (AT _ h1)]
 ·rw [if_neg h1]
  by_cases h2:b∈M
  ·rw [if_pos h2,if_pos (AU _ h2)]
  ·rw [if_neg h2,if_neg (fun z=>(Bd.mp z).elim h2 h1)]
theorem Rel.more(R:Rel K F σ (hid [p] H) ρ W)(hp:p∉W++F.Z)(hm:dO (H p)):Rel K (F.more p) σ H ρ W:=by
 have neq:∀ r,r∈W++F.Z->hid [p] H r=H r:=fun r hr=>aA (fun z=>hp (by rw [<- Bb.mp z];exact hr))
 have sh:ad (hid (W++F.Z) (hid [p] H)) (hid (W++(F.more p).Z) H):=by
  rw [zx]
  exact cS fun b hb=>by
   rcases Bd.mp hb with z | z
   ·exact AT _ (AU _ z)
   ·rcases A9.mp z with z | z
    ·rw [z];exact AU _ (Bb.mpr rfl)
    ·exact AT _ (AT _ z)
 refine ⟨fun i d m h=> ?_,R.apart,fun q hq z=> ?_,fun q hq=> ?_,R.len⟩
 ·obtain ⟨v,h1,h2⟩:=R.slot i d m h
  refine ⟨v,h1,?_⟩
  cases m with
  | fz=>exact sh.repD h2
  | ow=>obtain ⟨r,e1,e2,e3⟩:=h2;exact ⟨r,e1,e2,e3.at (neq r (AU _ e2)).symm sh⟩
  | io=>obtain ⟨r,e1,e2,e3,e4⟩:=h2;exact ⟨r,e1,e2,e3.at (neq r (AU _ e2)).symm sh,e4⟩
 ·rcases A9.mp z with z | z
  ·rw [z] at hq;exact hp (AU _ hq)
  ·exact R.wz q hq z
 ·rcases Bd.mp hq with z | z
  ·have:=R.mt q (AU _ z)
   rw [neq q (AU _ z)] at this;exact this
  ·rcases A9.mp z with z | z
   ·rw [z];exact hm
   ·have:=R.mt q (AT _ z)
    rw [neq q (AT _ z)] at this;exact this
theorem Rel.less(R:Rel K (F.more p) σ H1 ρ W)(hz:p∉F.Z)(fr:∀ b o,b∉[p]->H1 b=some o->H2 b=some o):Rel K F σ H2 ρ W:=by
 have hpW:p∉W:=fun z=>R.wz p z AY
 have keep:∀ b,b∈W++F.Z->b≠p->H2 b=H1 b:=fun b hb ne=>by
  obtain ⟨u,q⟩:=(R.mt b (by
   rcases Bd.mp hb with z | z
   ·exact AU _ z
   ·exact AT _ (AV _ z))).some
  rw [q];exact fr b u (fun z=>ne (Bb.mp z)) q
 have sh:ad (hid (W++(F.more p).Z) H1) (hid (W++F.Z) H2):=aI (fun b hb=> .inl (by
  rcases Bd.mp hb with z | z
  ·exact AU _ z
  ·exact AT _ (AV _ z))) fun b o n e=>fr b o (fun z=>n (by rw [Bb.mp z];exact AT _ AY)) e
 have ne:∀ r∈W,r≠p:=fun r hr z=>hpW (by rw [<- z];exact hr)
 refine ⟨fun i d m h=> ?_,R.apart,fun q hq z=>R.wz q hq (AV _ z),fun q hq=> ?_,R.len⟩
 ·obtain ⟨v,h1,h2⟩:=R.slot i d m h
  refine ⟨v,h1,?_⟩
  cases m with
  | fz=>exact sh.repD h2
  | ow=>obtain ⟨r,e1,e2,e3⟩:=h2;exact ⟨r,e1,e2,e3.at (keep r (AU _ e2) (ne r e2)) sh⟩
  | io=>obtain ⟨r,e1,e2,e3,e4⟩:=h2;exact ⟨r,e1,e2,e3.at (keep r (AU _ e2) (ne r e2)) sh,e4⟩
 ·have m1:dO (H1 q):=R.mt q (by
   rcases Bd.mp hq with z | z
   ·exact AU _ z
   ·exact AT _ (AV _ z))
  by_cases e:q=p
  ·rw [e] at hq
   rcases Bd.mp hq with z | z
   ·exact absurd z hpW
   ·exact absurd z hz
  ·rw [keep q hq e];exact m1
theorem Fr.hide{q:Addr}(fr:Fr W H1 H2)(hq:H1 q=none):Fr W H1 (L2.hid [q] H2):=⟨fun b o n e=>by
 rw [aA (fun z=>by rw [Bb.mp z,hq] at e;cases e)]
 exact fr.keep b o n e,fun b e=>by
 by_cases z:b∈[q]
 ·rw [Bb.mp z];exact hq
 ·rw [aA z] at e;exact fr.dom b e⟩
end
def kC(run:FS)(f:SE)(as:List Arg):SE:=fun ρ=>match f ρ with
 | some (.ok d true,ρ1)=>match evA as ρ1 with
  | some (.ok ds,ρ2)=>if bF none 0 as ρ2=true then
   match run (d::ds) with
   | some (.ok r nw,_)=>some (.ok r nw,ρ2)
   | some (.ex C,_)=>some (.ex C,ρ2)
   | none=>none
   else none
  | _=>none
 | some (.ok _ false,_)=>none
 | some (.ex C,ρ1)=>some (.ex C,ρ1)
 | none=>none
section
variable{X:Cx}{EX:EXT}{e:Expr}{es:List Expr}{as:List Arg}
theorem dP.reps{K:Df}{F:Fx}{σ:St}{H:Hp}{ρ:Rho}{W:List Addr}{ds:List D}{vs:List V}(R:Rel K F σ H ρ W)(A:dP K F σ H ρ W as ds vs)(hn:bF none 0 as ρ=true){j:Nat}{d:D}{v:V}(e1:ds[j]?=some d)(e2:vs[j]?=some v):av K (hid (W++F.Z) H) d v:=by
 obtain ⟨a,ea,ra⟩:=A.get e1 e2
 cases a with
 | ex f=>exact ra
 | bor i =>
  obtain ⟨d',hd'⟩:=eO hn ea (by simp);obtain ⟨q1,m,q2⟩:=ra;rw [hd'] at q2;cases q2;obtain ⟨v',q3,q4⟩:=R.slot i _ _ hd';rw [q1] at q3;cases q3;exact q4
theorem Aa{x:Str}{ps:List Str}{k k':Nat}{run:FS}{f:SE}{p pos:Pos}(C:je X EX)(h:OkX X.prog X.w X.K X.mg X.base x ps k (spF X.K (some 0) run))(hr:cq k' X.A)(hk:k<=k')(hg:Gl X x)(hf:JE X EX e f)(ha:JA X EX es as)
 (hdb:(x == ("__debug__" : Str))=false:=by decide) (he:starEach (e::es) X.env=(false,eval e X.env)::starEach es X.env:=by rfl) (hpl:(backTo pos (starEach es X.env)).any (·.1)=false:=by rfl) :
 JE X EX (.Call (.Name x p) (e::es) [] pos) (kC run f as) :=
 ⟨(C.call h (hr.mono hk) hg (cQ hf.p ha.p he) hdb he hpl).by fun σ H Q ⟨F,ρ,W,R,h⟩=>by
   refine ⟨F,ρ,W,R,?_⟩;unfold kC at h
   revert h
   cases f ρ with
   | none=>exact fun h=>h
   | some q =>
    obtain ⟨q,ρ1⟩:=q
    cases q with
    | ex C=>exact fun h=>h
    | ok d nw =>
     cases nw with
     | false=>exact fun h=>h.elim
     | true =>
      intro h v H1 W1 fr1 sub1 post;obtain ⟨p,rfl,hp0,hpW,hO,R1⟩:=post;have R1':=R1.more hpW hO.mu;refine ou as R1' ?_
      revert h
      dsimp only
      cases evA as ρ1 with
      | none=>exact fun h=>h
      | some q =>
       obtain ⟨q,ρ2⟩:=q
       cases q with
       | ex C=>exact fun h=>h.elim
       | ok ds =>
        dsimp only
        split
        ·rename_i hn
         intro h vs H2 W2 fr2 sub2 R2 A2
         have hpW2:p∉W2:=fun z=>R2.wz p z AY
         have hpZ:p∉F.Z:=fun z=>hpW (AT _ z)
         obtain ⟨u,hu⟩:=hO.mu.some
         have hp2:H2 p=H1 p:=by rw [hu];exact fr2.keep p u (fun z=>hpW (AU _ z)) hu
         have sA:ad (hid (W2++(F.more p).Z) H2) (hid ([p]++(W2++F.Z)) H2):=cS fun b hb=>by
          rcases Bd.mp hb with z | z
          ·rw [Bb.mp z];exact AT _ AY
          ·rcases Bd.mp z with z | z
           ·exact AU _ z
           ·exact AT _ (AV _ z)
         have sB:ad (hid (p::(W1++F.Z)) H1) (hid ([p]++(W2++F.Z)) H2):=by
          refine ad.trans ?_ sA;refine ad.trans (cS (L':=W1++(F.more p).Z) fun b hb=> ?_) (fr2.hid fun q hq=> .inl (sub2 q hq))
          rcases Bd.mp hb with z | z
          ·exact AV _ (AU _ z)
          ·rcases A9.mp z with z | z
           ·rw [z];exact AY
           ·exact AV _ (AT _ z)
         have frW:Fr W H H2:=fr1.trans fr2 fun q hq=> .inl (sub1 q hq)
         refine ⟨W2++F.Z,[p],d::ds,by rw [A3,A3,A2.len],fun q hq z=> ?_,fun q hq=> ?_,fun j d' v' nj e1 e2=> ?_,fun k hk=> ?_,fun z=>(by cases z),?_⟩
         ·rw [Bb.mp hq] at z
          exact (Bd.mp z).elim hpW2 hpZ
         ·rcases Bd.mp hq with z | z
          ·rw [Bb.mp z];exact R2.mt p (AT _ AY)
          ·rcases Bd.mp z with z | z
           ·exact R2.mt q (AU _ z)
           ·exact R2.mt q (AT _ (AV _ z))
         ·cases j with
          | zero=>exact absurd rfl nj
          | succ j=>exact sA.repD (A2.reps R2 hn (by simpa using e1) (by simpa using e2))
         ·cases hk
          exact ⟨p,d,rfl,rfl,rfl,hO.at hp2 sB⟩
         ·cases er:run (d::ds) with
          | none=>rw [er] at h;exact h.elim
          | some r =>
           obtain ⟨r,dio⟩:=r;rw [er] at h
           cases r with
           | ex C =>
            intro H3 fr3 own ca hca x;exact ⟨C,ca,rfl,hca,h H3 W2 (frW.trans fr3 fun q hq=> .inr (by rw [Bb.mp hq];exact hp0)) (fun q hq=>sub1 q (sub2 q hq)) (R2.less hpZ fr3.keep)⟩
           | ok r nw =>
            cases nw with
            | false =>
             intro v' H3 fr3 rep own;exact h v' H3 W2 (frW.trans fr3 fun q hq=> .inr (by rw [Bb.mp hq];exact hp0)) (fun q hq=>sub1 q (sub2 q hq)) ⟨(cS fun b hb=>AT _ hb).repD rep,R2.less hpZ fr3.keep⟩
            | true =>
             intro q H3 fr3 hq hO3 own;refine h (.ref q) H3 W2 (frW.trans fr3 fun q hq=> .inr (by rw [Bb.mp hq];exact hp0)) (fun q hq=>sub1 q (sub2 q hq)) ⟨q,rfl,frW.dom q hq,fun z=> ?_,?_,R2.less hpZ (fr3.hide hq).keep⟩
             ·refine R2.fresh hq ?_
              rcases Bd.mp z with z | z
              ·exact AU _ z
              ·exact AT _ (AV _ z)
             ·refine hO3.at rfl (cS fun b hb=> ?_)
              rcases A9.mp hb with z | z
              ·rw [z];exact AY
              ·exact AV _ (AT _ z)
        ·exact fun h=>h.elim⟩
end
theorem yB{run:FS}{f:SE}{as:List Arg}{ρ ρ1 ρ2:Rho}{d r x:D}{ds:List D}{nw:Bool}(h1:f ρ=some (.ok d true,ρ1))(h2:evA as ρ1=some (.ok ds,ρ2))(h3:run (d::ds)=some (.ok r nw,x))(h4:bF none 0 as ρ2=true):kC run f as ρ=some (.ok r nw,ρ2):=by
 unfold kC;simp only [h1,h2,h3];rw [if_pos h4]
def constK:Key->Const
 | .inl i=> .int i
 | .inr x=> .str x
inductive JP(X:Cx)(EX:EXT)(pos:Pos):List (Option Expr)->List Expr->List Key->List SE->Prop where
 | nil:JP X EX pos [] [] [] []
 | cons {k:Key} {j:Nat} {p:Pos} {e:Expr} {f:SE} {es:List (Option Expr)} {vs:List Expr} {ks:List Key} {fs:List SE} (h:JE X EX e f) (t:JP X EX pos es vs ks fs):JP X EX pos (some (.Constant (constK k) j p)::es) (e::vs) (k::ks) (f::fs)
section
variable{X:Cx}{EX:EXT}{i:Expr}{pos p:Pos}{y:Arg}{n:Str}{ks:List Key}{ds:List D}
end
def qt(o:Option (Out×Rho))(Q:D->Bool->Rho->Prop):Prop:=∃ d nw ρ',o=some (.rt d nw,ρ')/\Q d nw ρ'
section
variable{s t:SS}{p:ST}{ρ ρ1:Rho}{Q:D->Bool->Rho->Prop}{b:Bool}
theorem rq_seq(h1:s ρ=some (.nx,ρ1))(h2:qt (t ρ1) Q):qt (al s t ρ) Q:=by obtain ⟨d,nw,ρ',e,q⟩:=h2;exact ⟨d,nw,ρ',vK h1 e,q⟩
theorem rq_ret{d:D}{nw:Bool}(h:s ρ=some (.rt d nw,ρ1))(q:Q d nw ρ1):qt (s ρ) Q:=⟨d,nw,ρ1,h,q⟩
end
theorem r_whT{n:Nat}{c:ST}{f:SS}{ρ ρ1 ρ2:Rho}{b:Bool}{r:Option (Out×Rho)}(h:c ρ=some (.ok b,ρ1))(hb:b=true)(h2:f ρ1=some (.nx,ρ2))(h3:cx n c f ρ2=r):cx (n+1) c f ρ=r:=by
 subst hb;unfold cx;simp only [h,h2];exact h3
theorem r_whF{n:Nat}{c:ST}{f:SS}{ρ ρ1:Rho}{b:Bool}(h:c ρ=some (.ok b,ρ1))(hb:b=false):cx (n+1) c f ρ=some (.nx,ρ1):=by
 subst hb;unfold cx;simp only [h]
section
variable{X:Cx}{EX:EXT}{a b:Expr}{x y:Arg}{pos:Pos}{K:Df}
end
section
variable{P:Program}{w:World}{K:Df}{mg:Str->Option Value}{base:Heap}{x:Str}{st:Stmt}{N ps:List Str}{k:Nat}{io:Option Nat}{body:SS}
theorem zw{f:Addr}{cdv:Value}{A:Around}{outer:List Env}{s:Shared}{H:Hp}{E:XK}{c:Nat}(h:c<=10)(hr:cq k (A.deeper (envOfC x (aa st) s.heap.objs.size f cdv))):(bQ (CXr P w) P w K mg base N x (aa st) f cdv A outer s H E).A.units+c < cLine:=by
 have:=hr.units
 show (A.deeper _).units+c < cLine
 omega
theorem aE(h:Has K mg x st ps)(S:cI N ps (aa st))
 (hb:∀ (f:Addr) (cdv:Value) (A:Around) (outer:List Env) (s:Shared) (H:Hp) (E:XK),cq k (A.deeper (envOfC x (aa st) s.heap.objs.size f cdv))->N.Nodup ->
   (bQ (CXr P w) P w K mg base N x (aa st) f cdv A outer s H E).A.units+10 < cLine->(bQ (CXr P w) P w K mg base N x (aa st) f cdv A outer s H E).A.units+1 < cLine ->
   JSs (bQ (CXr P w) P w K mg base N x (aa st) f cdv A outer s H E) (EXf K E) (aR st) body) (hps:ps.length<=N.length:=by decide):OkX P w K mg base x ps (k+1) (spF K io (aq ps.length N.length io body)) :=
 fn_ok h S (fun f cdv A outer s H E hr=>hb f cdv A outer s H E hr S.nd (zw (by decide) hr) (zw (by decide) hr)) hps
theorem fn_okV{f0:Addr}{fd0:FuncData}(h:Fun K x x st f0 fd0)(S:cI N ps (aa st))
 (hb:∀ (f:Addr) (cdv:Value) (A:Around) (outer:List Env) (s:Shared) (H:Hp) (E:XK),cq k (A.deeper (envOfC x (aa st) s.heap.objs.size f cdv))->N.Nodup ->
   (bQ (CXr P w) P w K mg base N x (aa st) f cdv A outer s H E).A.units+10 < cLine->(bQ (CXr P w) P w K mg base N x (aa st) f cdv A outer s H E).A.units+1 < cLine ->
   JSs (bQ (CXr P w) P w K mg base N x (aa st) f cdv A outer s H E) (EXf K E) (aR st) body) (hps:ps.length<=N.length:=by decide):jE P w K mg base (CXr P w) (k+1) f0 fd0 ps (spF K io (aq ps.length N.length io body)) :=
 xj h S (fun f cdv A outer s H E hr=>hb f cdv A outer s H E hr S.nd (zw (by decide) hr) (zw (by decide) hr)) hps
end
theorem nd_k{l:List Str}(h:decide l.Nodup=true):l.Nodup:=A6 h
abbrev OkY(x:Str)(ps:List Str)(k:Nat)(io:Option Nat)(f:FS)(P:Program)(w:World)(K:Df)(mg:Str->Option Value)(base:Heap):Prop:=OkX P w K mg base x ps k (spF K io f)
structure jd(K:Df)(mg:Str->Option Value)(base:Heap)(x:Str):Prop where
 ex:∃ C bm B newId initId,OwnCls x C bm newId mg base/\ExcBaseFacts B newId initId bm/\nY K x C
theorem vz{P:Program}{w:World}{K:Df}{mg:Str->Option Value}{base:Heap}{N:List Str}{qual:Str}{scope:Scope}{f:Addr}{cd:Value}{A:Around}{outer:List Env}{s:Shared}{H:Hp}{E:XK}{x:Str}{np cpos pos:Pos}{k:Nat}
 (O:jd K mg base x) (hr:cq k (A.deeper (envOfC qual scope s.heap.objs.size f cd)))
 (hg:Gl (bQ (CXr P w) P w K mg base N qual scope f cd A outer s H E) x) (hd:(x == ("__debug__" : Str))=false:=by decide):JS (bQ (CXr P w) P w K mg base N qual scope f cd A outer s H E) (EXf K E) (.Raise (some (.Call (.Name x np) [] [] cpos)) none pos) (ky x):=by
 obtain ⟨C,bm,B,nI,iI,h1,h2,h3⟩:=O.ex;exact ym h1 h2 h3 hr hg hd
section
variable{X:Cx}{EX:EXT}{e i1 i2:Expr}{pos pos1 pos2 tpos p1 p2:Pos}{n:Str}{j k:Nat}{f f1 f2:SE}
end
section
variable{X:Cx}{EX:EXT}{a b:Expr}{x y:Arg}{pos:Pos}
end
end L2
namespace L2.Od
open PySem PySem.Spec PyProof.Rows L2
section
variable{K:Df}{Z:List Addr}{p0:Addr}{H0 H H':Hp}{q r p:Addr}{xs ys:List V}{a b:List D}{pen pen':D}
def dw(fd:FS)(pen:D)(n:Int):Option (Int×D):=match fd [pen,.int n] with
 | some (.ok (.int k) false,p)=>some (k,p)
 | _=>none
end
def vC(s:Int)(a b:List D):Option (List D):=if s=0 then some a else if s=1 then some b else none
def em(s:Int)(a b x:List D):List D×List D:=if s=0 then (x,b) else (a,x)
def oddL(a b:List D)(a0:D):List D:=[.int 0,.int (-1),.int ((a.length:Int)+(b.length:Int)+1),.bl true,.non,.str "1",.tup [.int 1],.lst [.int 1],.int (10 ^ 20),.int 1,a0]
def f1a(fd:FS)(s t:Int)(a b x:List D)(pen:D):Option (Res×D):=(dw fd pen 11).bind fun k=>(a[0]?).bind fun a0=>(x[t.toNat]?).bind fun _=>((oddL a b a0)[k.1.toNat]?).bind fun d =>
 if 0<=k.1 then some (.ok (.tup [.tup (em s a b (x.set t.toNat d)).1,.tup (em s a b (x.set t.toNat d)).2]) false,k.2) else none
def f1b(fd:FS)(s t:Int)(a b x:List D)(pen:D):Option (Res×D):=(dw fd pen 2).bind fun o=>(vC o.1 a b).bind fun y=>(dw fd o.2 (y.length:Nat)).bind fun j=>(x[t.toNat]?).bind fun kept=>(y[j.1.toNat]?).bind fun d =>
 (vC o.1 (em s a b (x.set t.toNat d)).1 (em s a b (x.set t.toNat d)).2).bind fun y1 =>
 if 0<=j.1 then some (.ok (.tup [.tup (em o.1 (em s a b (x.set t.toNat d)).1 (em s a b (x.set t.toNat d)).2 (y1.set j.1.toNat kept)).1,.tup (em o.1 (em s a b (x.set t.toNat d)).1 (em s a b (x.set t.toNat d)).2 (y1.set j.1.toNat kept)).2]) false,j.2) else none
def f1(fd:FS):FS
 | [pen,_,.tup [.tup a,.tup b]]=>(dw fd pen 4).bind fun w=>if w.1=0 then none else (dw fd w.2 2).bind fun s=>(vC s.1 a b).bind fun x=>(dw fd s.2 (x.length:Nat)).bind fun t =>
  if 0<=t.1 then (if w.1=1 then f1a fd s.1 t.1 a b x t.2 else f1b fd s.1 t.1 a b x t.2) else none
 | _=>none
section
variable{K:Df}{Z:List Addr}{p0:Addr}{H0 H H':Hp}{q r p:Addr}{a b x:List D}{pen pen':D}{s:Int}{σ:St}
end
section
variable{K:Df}{Z:List Addr}{p0:Addr}{H0 H H':Hp}{q r p:Addr}{a b x:List D}{pen pen':D}{s:Int}{σ:St}{fd:FS}{E:XK}
end
section
variable{K:Df}{Z:List Addr}{p0:Addr}{H0 H H':Hp}{q r p:Addr}{a b x:List D}{pen pen':D}{s t:Int}{σ:St}{fd:FS}{E:XK}{Q:St->Hp->Prop}{D0:j8}
theorem sA{te:TE}{g:TG}{u:TS}(h:te σ H fun x H1=>g x σ H1 (u D0)):tSeq (yc te g) u D0 σ H:=h
end
end L2.Od
namespace L2
open PySem PySem.Spec PyProof.Rows
end L2
namespace L2
open PyProof.Rows
theorem fM:∀ {a b:List Int},a.Pairwise (·<= ·)->b.Pairwise (·<= ·)->a.Perm b->a=b
 | [],b,_,_,p=>by rw [p.nil_eq]
 | x::a,[],_,_,p=>absurd p.symm.nil_eq (by simp)
 | x::a,y::b,ha,hb,p=>by
  have ha':=Bz.mp ha;have hb':=Bz.mp hb
  have e:x=y:=by
   have h1:x∈y::b:=p.mem_iff.mp AY;have h2:y∈x::a:=p.mem_iff.mpr AY
   rcases A9.mp h1 with h | h
   ·exact h
   ·rcases A9.mp h2 with g | g
    ·exact g.symm
    ·have:=hb'.1 x h
     have:=ha'.1 y g;omega
  subst e;rw [fM ha'.2 hb'.2 (List.Perm.cons_inv p)]
theorem kD(lo:Int):∀ n,(rgI lo n).Pairwise (·<= ·)
 | 0=>List.Pairwise.nil
 | n+1=>by
  rw [bZ,List.pairwise_append];refine ⟨kD lo n,List.pairwise_singleton _ _,fun a ha b hb=> ?_⟩;rw [Bb.mp hb];have:=ak.mp ha;omega
theorem aJ(lo:Int):∀ n,(rgI lo n).Nodup
 | 0=>Cs
 | n+1=>by
  rw [bZ,CY];refine ⟨aJ lo n,List.pairwise_singleton _ _,fun a ha b hb=> ?_⟩;rw [Bb.mp hb];have:=ak.mp ha;omega
theorem r9(lo:Int)(m:Nat):∀ n,rgI lo (m+n)=rgI lo m++rgI (lo+(m:Nat)) n
 | 0=>by simp [rgI]
 | n+1=>by
  rw [<- Nat.add_assoc,bZ,r9 lo m n,bZ,B3]
  congr 3
  omega
theorem gP{l m:List Int}(h:l.Perm m)(hm:m.Pairwise (·<= ·)):aC l=m:=fM (bT l) hm ((aX l).trans h)
theorem t0{l:List Int}{lo:Int}{n:Nat}(h:l.Perm (rgI lo n)):aC l=rgI lo n:=gP h (kD lo n)
theorem jS:∀ (l acc:List Int),(l++acc).Nodup->(l.foldl step_dedup acc).length=acc.length+l.length
 | [],acc,_=>rfl
 | x::l,acc,h=>by
  have h':=Bv.mp h
  have e:(step_dedup acc x).length=acc.length+1/\(step_dedup acc x).Perm (x::acc):=by
   unfold step_dedup;rw [if_neg]
   ·exact ⟨by simp,by first | exact List.Perm.refl _ | exact CA x acc⟩
   ·intro z
    refine h'.1 (AT _ ?_)
    first
     | (obtain ⟨y,hy,e⟩:=List.any_eq_true.mp z;rw [<- eq_of_beq e];exact hy)
     | simpa using z
  have nd:(l++step_dedup acc x).Nodup:=by
   refine ((List.Perm.append_left l e.2).trans ?_).nodup_iff.mpr h;exact List.perm_middle
  rw [C7,jS l _ nd,e.1,A3];omega
theorem i6{l:List Int}(h:l.Nodup):(dd l).length=l.length:=by
 have:=jS l [] (by simpa using h);unfold dd;simpa using this
theorem qd:∀ (l acc:List Int),acc.Nodup->(l.foldl step_dedup acc).Nodup
 | [],acc,h=>h
 | x::l,acc,h=>by
  rw [C7];refine qd l _ ?_;unfold step_dedup
  split
  ·exact h
  ·rename_i hn
   have hx:x∉acc:=fun z=>hn (by
    first
     | exact List.any_eq_true.mpr ⟨x,z,C4 x⟩
     | simpa using z)
   first
    | exact Bv.mpr ⟨hx,h⟩
    | exact (CA x acc).nodup_iff.mpr (Bv.mpr ⟨hx,h⟩)
theorem AI(l:List Int):(dd l).Nodup:=qd l [] Cs
theorem uj{l m:List Int}(hm:m.Nodup)(h:∀ x,x∈l↔x∈m):(dd l).length=m.length:=by
 have h1:(dd l).length<=m.length:=by
  have:(dd l).Subset m:=fun x hx=>(h x).mp ((jD l x).mp hx)
  exact B7 (AI l) this
 have h2:m.length<=(dd l).length:=by
  have:m.Subset (dd l):=fun x hx=>(jD l x).mpr ((h x).mpr hx)
  exact B7 hm this
 omega
theorem cz{l:List Int}{lo:Int}{n:Nat}(nd:l.Nodup)(hl:l.length=n)(hb:∀ x∈l,lo<=x/\x < lo+n):l.Perm (rgI lo n):=by
 refine (List.perm_ext_iff_of_nodup nd (aJ lo n)).mpr fun a=>⟨fun ha=>ak.mpr (hb a ha),fun ha=> ?_⟩
 by_cases h:a∈l
 ·exact h
 ·have sub:(a::l) ⊆ rgI lo n:=fun x hx=>by
   rcases A9.mp hx with rfl | hx
   ·exact ha
   ·exact ak.mpr (hb x hx)
  have:=B7 (Bv.mpr ⟨h,nd⟩) sub;rw [A3,aj] at this;omega
end L2
namespace L2
def dnI(hi:Int)(n:Nat):List Int:=(List.range n).map fun k=>hi - (k:Nat)
def cL(b:Bool)(lo hi:Int):List Nat->List Int
 | []=>[]
 | l::r=>if b then dnI hi l++cL false lo (hi - l - 1) r else rgI lo l++cL true (lo+l+1) hi r
end L2
namespace L2
theorem aQ{α β:Type}{f:α->β}:∀ {l:List α},l.Nodup->(∀ x∈l,∀ y∈l,f x=f y->x=y)->(l.map f).Nodup
 | [],_,_=>Cs
 | x::l,nd,h=>by
  have nd:=Bv.mp nd;rw [A4,Bv];refine ⟨fun z=> ?_,aQ nd.2 fun a ha b hb=>h a (AV _ ha) b (AV _ hb)⟩;obtain ⟨y,hy,e⟩:=Bn.mp z;have:=h y (AV _ hy) x AY e;subst this;exact nd.1 hy
abbrev stG(ps:List Int)(t:Int×Int):Int:=((ps.getD t.1.toNat 0 - ps.getD t.2.toNat 0).natAbs:Nat)
structure Prt(ts:List (Int×Int))(q:Nat)(ps:List Int)(P:Int):Prop where
 p:ps.Perm (rgI 0 (q+1))
 s:(ts.map (stG ps)).Perm (rgI 1 q)
 m:∀ t∈ts,min (ps.getD t.1.toNat 0) (ps.getD t.2.toNat 0)<=P/\P < max (ps.getD t.1.toNat 0) (ps.getD t.2.toNat 0)
 r:∀ t∈ts,0<=t.1/\t.1 < (q:Int)+1/\0<=t.2/\t.2 < (q:Int)+1
 q0:0 < q
theorem Prt.len{ts:List (Int×Int)}{q:Nat}{ps:List Int}{P:Int}(h:Prt ts q ps P):ps.length=q+1:=by rw [h.p.length_eq,aj]
theorem Prt.tlen{ts:List (Int×Int)}{q:Nat}{ps:List Int}{P:Int}(h:Prt ts q ps P):ts.length=q:=by have:=h.s.length_eq;rwa [AO,aj] at this
theorem cB{l:List Int}{i:Nat}(h:i < l.length):l.getD i 0∈l:=by rw [AS,AN h];exact BG h
theorem Prt.at{ts:List (Int×Int)}{q:Nat}{ps:List Int}{P:Int}(h:Prt ts q ps P){i:Int}(h0:0<=i)(h1:i < (q:Int)+1):0<=ps.getD i.toNat 0/\ps.getD i.toNat 0<=q:=by
 have:=ak.mp (h.p.mem_iff.mp (cB (l:=ps) (i:=i.toNat) (by rw [h.len];omega)));omega
theorem Prt.one{ts:List (Int×Int)}{q:Nat}{ps:List Int}{P:Int}(h:Prt ts q ps P):∃ t∈ts,min (ps.getD t.1.toNat 0) (ps.getD t.2.toNat 0)=P/\max (ps.getD t.1.toNat 0) (ps.getD t.2.toNat 0)=P+1:=by
 have:(1:Int)∈ts.map (stG ps):=h.s.mem_iff.mpr (ak.mpr (by have:=h.q0;omega));obtain ⟨t,ht,e⟩:=Bn.mp this;have:=h.m t ht;have e:(((ps.getD t.1.toNat 0 - ps.getD t.2.toNat 0).natAbs:Nat):Int)=1:=e;exact ⟨t,ht,by omega,by omega⟩
theorem Prt.P0{ts:List (Int×Int)}{q:Nat}{ps:List Int}{P:Int}(h:Prt ts q ps P):0<=P/\P < q:=by
 obtain ⟨t,ht,e1,e2⟩:=h.one;obtain ⟨r1,r2,r3,r4⟩:=h.r t ht;have a1:=h.at r1 r2;have a2:=h.at r3 r4;omega
theorem Prt.max{ts:List (Int×Int)}{q:Nat}{ps:List Int}{P:Int}(h:Prt ts q ps P):dQ (ts.map fun t=>min (ps.getD t.1.toNat 0) (ps.getD t.2.toNat 0))=P:=by
 obtain ⟨t,ht,e1,e2⟩:=h.one
 have ne:(ts.map fun t=>min (ps.getD t.1.toNat 0) (ps.getD t.2.toNat 0))≠[]:=fun z=>by rw [List.map_eq_nil_iff] at z;rw [z] at ht;exact absurd ht Cq
 obtain ⟨m1,m2⟩:=gB ne;have:=m2 P (Bn.mpr ⟨t,ht,e1⟩);obtain ⟨u,hu,e⟩:=Bn.mp m1;have:=h.m u hu;omega
theorem gD{f:Int->Int}{l:List Int}{i:Nat}(h:i < l.length):(l.map f).getD i 0=f (l.getD i 0):=by
 simp [AS,Bf,AN h]
end L2
namespace L2
structure cH(n:Nat)(ts:List (Int×Int)):Prop where
 r:∀ t∈ts,0<=t.1/\t.1 < t.2/\t.2 < n
 d:ts.Nodup
 l:ts.length<=60
 n0:1<=n
 n:n<=40
theorem iT{α β:Type}{f:α->β}:∀ {l:List α},(l.map f).Nodup->l.Nodup
 | [],_=>Cs
 | x::l,h=>by
  rw [A4] at h;have h:=Bv.mp h;exact Bv.mpr ⟨fun z=>h.1 (Bn.mpr ⟨x,z,rfl⟩),iT h.2⟩
end L2
namespace L2
end L2
namespace L2
end L2
namespace L2
def lA(n:Nat)(ts:List (Int×Int)):List Int:=(List.range n).map fun j=>((Td.nb (j:Nat) ts).length:Int)
theorem mn:∀ ts:List (Int×Int),Td.h9 (tD ts)=some ts
 | []=>rfl
 | t::ts=>by
  show (match Td.sE (xW t),Td.h9 (tD ts) with | some p,some ps=>some (p::ps) | _,_=>none)=_
  rw [mn ts];rfl
theorem wW{n:Nat}{ts:List (Int×Int)}(O:cH n ts):Td.pO (n:Nat) ts=true:=by
 unfold Td.pO;have a:=O.n0;have b:=O.n;rw [Ba (show (1:Int)<=(n:Nat) by omega),Ba (show ((n:Nat):Int)<=40 by omega),Ba O.l,Ba O.d];simp only [Cn,Cb,Bg];intro t ht;have:=O.r t ht;rw [Ba this.1,Ba this.2.1,Ba this.2.2];rfl
theorem xV{n:Nat}{ts:List (Int×Int)}(O:cH n ts):Td.lq [bL (n:Nat) ts]=some (.ok (.lst ((List.range n).map fun j=> .lst (nD (Td.nb (j:Nat) ts)))) false,.non):=by
 unfold Td.lq;simp only [mn,wW O,if_true];rfl
end L2
namespace L2
abbrev smT(ps:List Int)(t:Int×Int):Int:=ps.getD t.1.toNat 0+ps.getD t.2.toNat 0
structure Tot(n:Nat)(ts:List (Int×Int))(ps us:List Int)(c:Int):Prop where
 lp:ps.length=n
 lu:us.length=ts.length
 b:∀ x∈ps++us,1<=x/\x<=(n:Int)+ts.length
 d:(ps++us).Nodup
 s:∀ i,i < ts.length->smT ps (ts.getD i (0,0))+us.getD i 0=c
abbrev pY(n:Nat)(ts:List (Int×Int))(ps:List Int)(L:Int):List Int:=(ts.map (smT ps)).map fun x=>L+(n:Int)+ts.length - x
theorem zP{c:Int}{ts:List (Int×Int)}{ps:List Int}{i:Nat}(h:i < ts.length):smT ps (ts.getD i (0,0))+((ts.map (smT ps)).map fun x=>c - x).getD i 0=c:=by
 have e:((ts.map (smT ps)).map fun x=>c - x).getD i 0=c - smT ps (ts.getD i (0,0)):=by
  rw [AS,Bf,Bf,AS,AN h];rfl
 rw [e];omega
theorem nL{n:Nat}{ts:List (Int×Int)}{ps:List Int}{L:Int}(hp:ps.Perm (rgI 1 n))(hs:(ts.map (smT ps)).Perm (rgI L ts.length)):Tot n ts ps (pY n ts ps L) (L+n+ts.length):=by
 have hb:∀ x∈pY n ts ps L,(n:Int) < x/\x<=(n:Int)+ts.length:=fun x hx=>by
  obtain ⟨y,hy,rfl⟩:=Bn.mp hx;have:=ak.mp (hs.mem_iff.mp hy);omega
 have ha:∀ x∈ps,1<=x/\x<=(n:Int):=fun x hx=>by
  have:=ak.mp (hp.mem_iff.mp hx);omega
 refine ⟨by rw [hp.length_eq,aj],by rw [AO,AO],fun x hx=> ?_,?_,fun i hi=>zP hi⟩
 ·rcases Bd.mp hx with h | h
  ·have:=ha x h;omega
  ·have:=hb x h;omega
 ·refine CY.mpr ⟨hp.nodup_iff.mpr (aJ _ _),aQ (hs.nodup_iff.mpr (aJ _ _)) fun x _ y _ e=>by omega,fun x hx y hy e=> ?_⟩
  have h1:=ha x hx;have h2:=hb y hy;omega
def upT(q P x:Int):Int:=if x<=P then x else q+P+1 - x
theorem Prt.upT_perm{ts:List (Int×Int)}{q:Nat}{ps:List Int}{P:Int}(h:Prt ts q ps P):((ps.map (upT q P)).map fun x=>x+1).Perm (rgI 1 (q+1)):=by
 have P0:=h.P0;rw [Bo]
 refine cz (aQ (h.p.nodup_iff.mpr (aJ _ _)) fun x hx y hy e=> ?_) (by rw [AO,h.len]) fun x hx=> ?_
 ·have hx:=ak.mp (h.p.mem_iff.mp hx)
  have hy:=ak.mp (h.p.mem_iff.mp hy);have e:upT q P x+1=upT q P y+1:=e;unfold upT at e
  split at e<;>split at e<;>omega
 ·obtain ⟨y,hy,rfl⟩:=Bn.mp hx
  have hy:=ak.mp (h.p.mem_iff.mp hy)
  show 1<=upT q P y+1/\upT q P y+1 < 1+((q+1:Nat):Int)
  unfold upT
  split<;>omega
theorem Prt.upT_sums{ts:List (Int×Int)}{q:Nat}{ps:List Int}{P:Int}(h:Prt ts q ps P):(ts.map (smT ((ps.map (upT q P)).map fun x=>x+1))).Perm (rgI (P+3) ts.length):=by
 have P0:=h.P0;have tl:=h.tlen
 have e:(ts.map (smT ((ps.map (upT q P)).map fun x=>x+1)))=(ts.map (stG ps)).map fun s=>(q:Int)+P+3 - s:=by
  rw [Bo (l:=ts)]
  refine Bp fun t ht=> ?_
  obtain ⟨r1,r2,r3,r4⟩:=h.r t ht;have hl:=h.len
  show smT ((ps.map (upT q P)).map fun x=>x+1) t=(q:Int)+P+3 - (((ps.getD t.1.toNat 0 - ps.getD t.2.toNat 0).natAbs:Nat):Int)
  unfold smT;rw [gD (by rw [AO];omega),gD (by omega),gD (by rw [AO];omega),gD (by omega)];have:=h.m t ht;unfold upT
  split<;>split<;>omega
 rw [e,tl];refine (h.s.map _).trans ?_
 refine cz (aQ (aJ _ _) fun x hx y hy z=>by omega) (by rw [AO,aj]) fun x hx=> ?_
 obtain ⟨y,hy,rfl⟩:=Bn.mp hx;have hy:=ak.mp hy;omega
def sx(l:List Int)(lo:Int):Bool:=decide (aC l=rgI lo l.length)
theorem kN{l:List Int}{lo:Int}(h:sx l lo=true):l.Perm (rgI lo l.length):=by
 have:=A6 h;rw [<- this];exact (aX l).symm
end L2
namespace L2
theorem ji{a b:List Int}(h:a.Perm b):a.sum=b.sum:=by
 induction h with
 | nil=>rfl
 | cons x _ ih=>rw [Br,Br,ih]
 | swap x y l=>rw [Br,Br,Br,Br];omega
 | trans _ _ ih1 ih2=>rw [ih1,ih2]
theorem iF:∀ (a b:List Int),(a++b).sum=a.sum+b.sum
 | [],b=>by simp
 | x::a,b=>by rw [BP,Br,Br,iF a b];omega
theorem vt{x:Int}:∀ {l:List Int},(∀ z∈l,x<=z)->x * (l.length:Int)<=l.sum
 | [],_=>by simp
 | y::l,h=>by
  have h1:=h y AY
  have h2:=vt (x:=x) (l:=l) fun z hz=>h z (AV _ hz)
  rw [Br,A3,Int.natCast_add,CI]
  show x * (l.length:Int)+x * 1<=_
  omega
def wo(o:Int):List Int->Int
 | []=>0
 | x::r=>x * (o+1)+wo (o+1) r
theorem uW:∀ (o:Int) (r:List Int),wo (o+1) r=wo o r+r.sum
 | o,[]=>by simp [wo]
 | o,x::r=>by
  show x * (o+1+1)+wo (o+1+1) r=x * (o+1)+wo (o+1) r+(x::r).sum
  rw [uW (o+1) r,Br,CI x (o+1) 1];omega
theorem uY{x:Int}:∀ {r:List Int} (o:Int),r.Pairwise (·<= ·)->wo o r+x * (o+(r.length:Int)+1)<=wo o (ins x r)
 | [],o,_=>by
  show 0+x * (o+0+1)<=x * (o+1)+0
  rw [Int.add_zero o];omega
 | y::r,o,h=>by
  have hy:=Bz.mp h;unfold ins
  split
  ·rename_i hxy
   show _<=x * (o+1)+wo (o+1) (y::r)
   rw [uW o (y::r)]
   have s:=vt (x:=x) (l:=y::r) fun z hz=>(A9.mp hz).elim (fun e=>e ▸ hxy) fun hz=>Int.le_trans hxy (hy.1 z hz)
   have e:x * (o+((y::r).length:Int)+1)=x * (o+1)+x * ((y::r).length:Int):=by
    rw [show o+((y::r).length:Int)+1=(o+1)+((y::r).length:Int) by omega,CI]
   omega
  ·show y * (o+1)+wo (o+1) r+_<=y * (o+1)+wo (o+1) (ins x r)
   have ih:=uY (x:=x) (r:=r) (o+1) hy.2;rw [show o+((y::r).length:Int)+1=o+1+(r.length:Int)+1 by rw [A3];omega];omega
theorem vI:∀ (N:Nat) (L:List (Int×Int)),(L.map (·.2)).Perm (rgI 1 N)->(L.map fun p=>p.1 * p.2).sum<=wo 0 (aC (L.map (·.1)))
 | 0,L,h=>by
  have:L=[]:=by have:=h.length_eq;rw [AO,aj] at this;exact CP.mp this
  subst this;exact Int.le_refl 0
 | N+1,L,h=>by
  have hm:(N:Int)+1∈L.map (·.2):=h.mem_iff.mpr (ak.mpr (by omega));obtain ⟨p,hp,e⟩:=Bn.mp hm;obtain ⟨A,B,rfl⟩:=List.append_of_mem hp;have pm:(A++p::B).Perm (p::(A++B)):=List.perm_middle
  have h2:((A++B).map (·.2)).Perm (rgI 1 N):=by
   have h3:=(pm.map (·.2)).symm.trans h;rw [A4,bZ] at h3;have h3:=h3.trans (CA _ _);rw [e,show (1:Int)+(N:Nat)=(N:Int)+1 by omega] at h3;exact (List.perm_cons _).mp h3
  have ih:=vI N (A++B) h2
  have hs:((A++p::B).map fun p=>p.1 * p.2).sum=p.1 * p.2+((A++B).map fun p=>p.1 * p.2).sum:=by
   rw [ji (pm.map fun p=>p.1 * p.2),A4,Br]
  have hi:aC ((A++p::B).map (·.1))=ins p.1 (aC ((A++B).map (·.1))):=by
   refine gP ?_ (ik _ (bT _));refine (pm.map (·.1)).trans ?_;rw [A4];exact ((aX _).symm.cons _).trans (iW _ _).symm
  have hl:(aC ((A++B).map (·.1))).length=N:=by
   rw [(aX _).length_eq,AO];have:=h2.length_eq;rw [AO,aj] at this;exact this
  have w:=uY (x:=p.1) 0 (bT ((A++B).map (·.1)));rw [hl,Int.zero_add] at w;rw [hs,hi,e];omega
theorem rT:∀ (o:Int) (l:List Int) (x:Int),wo o (l++[x])=wo o l+x * (o+(l.length:Int)+1)
 | o,[],x=>by
  show x * (o+1)+0=0+x * (o+0+1)
  rw [Int.add_zero o];omega
 | o,y::l,x=>by
  show y * (o+1)+wo (o+1) (l++[x])=y * (o+1)+wo (o+1) l+_
  rw [rT (o+1) l x,show o+((y::l).length:Int)+1=o+1+(l.length:Int)+1 by rw [A3];omega];omega
theorem uX:∀ l:List Int,wo 0 l.reverse+wo 0 l=((l.length:Int)+1) * l.sum
 | []=>by simp [wo]
 | x::l=>by
  have ih:=uX l;rw [List.reverse_cons,rT,List.length_reverse]
  show wo 0 l.reverse+x * (0+(l.length:Int)+1)+(x * (0+1)+wo (0+1) l)=_
  have e1:x * (0+(l.length:Int)+1)=x * (l.length:Int)+x:=by rw [Int.zero_add,CI,C0]
  have e2:∀ a s:Int,(a+1+1) * (x+s)=(a+1) * s+s+x * a+x+x:=fun a s=>by
   rw [CI,Int.add_mul (a+1) 1 x,Int.add_mul (a+1) 1 s,Int.add_mul a 1 x,Int.mul_comm a x];omega
  have e3:x * (0+1)=x:=by rw [Int.zero_add,C0]
  rw [uW 0 l,Br,A3,show ((l.length+1:Nat):Int)=(l.length:Int)+1 by omega,e2,e1,e3];omega
theorem tw{N:Nat}{L:List (Int×Int)}(h:(L.map (·.2)).Perm (rgI 1 N)):wo 0 (aC (L.map (·.1))).reverse<=(L.map fun p=>p.1 * p.2).sum:=by
 have lN:L.length=N:=by have:=h.length_eq;rw [AO,aj] at this;exact this
 have h2:((L.map fun p=>(p.1,(N:Int)+1 - p.2)).map (·.2)).Perm (rgI 1 N):=by
  rw [Bo,show ((fun p:Int×Int=>p.2) ∘ fun p:Int×Int=>(p.1,(N:Int)+1 - p.2))=(fun x=>(N:Int)+1 - x) ∘ (fun p:Int×Int=>p.2) from rfl,<- Bo]
  refine cz (aQ (h.nodup_iff.mpr (aJ _ _)) fun x _ y _ e=>by omega) (by rw [AO,AO];exact lN) fun x hx=> ?_
  obtain ⟨y,hy,rfl⟩:=Bn.mp hx;have:=ak.mp (h.mem_iff.mp hy);omega
 have r:=vI N _ h2;rw [Bo,Bo] at r;have e1:(L.map ((fun p:Int×Int=>p.1) ∘ fun p:Int×Int=>(p.1,(N:Int)+1 - p.2)))=L.map (·.1):=rfl;rw [e1] at r
 have e2:∀ K:List (Int×Int),(K.map ((fun p:Int×Int=>p.1 * p.2) ∘ fun p:Int×Int=>(p.1,(N:Int)+1 - p.2))).sum=((N:Int)+1) * (K.map (·.1)).sum - (K.map fun p=>p.1 * p.2).sum:=by
  intro K
  induction K with
  | nil=>simp
  | cons p K ih =>
   rw [A4,Br,ih,A4,Br,A4,Br]
   show p.1 * ((N:Int)+1 - p.2)+_=_
   rw [Int.mul_sub,CI ((N:Int)+1) p.1,Int.mul_comm p.1 ((N:Int)+1)];omega
 rw [e2] at r;have w:=uX (aC (L.map (·.1)));rw [(aX _).length_eq,AO,lN,ji (aX _)] at w;omega
theorem fK{α:Type}{f g:α->Int}:∀ l:List α,(l.map fun x=>f x+g x).sum=(l.map f).sum+(l.map g).sum
 | []=>rfl
 | x::l=>by rw [A4,Br,fK l,A4,Br,A4,Br];omega
theorem kl{α:Type}{f:α->Int}:∀ {l:List α},(∀ x∈l,f x=0)->(l.map f).sum=0
 | [],_=>rfl
 | x::l,h=>by rw [A4,Br,h x AY,kl fun y hy=>h y (AV _ hy)];rfl
theorem jh{a:Int}{f:Nat->Int}(h0:0<=a):∀ {n:Nat},a < n->((List.range n).map fun j=>if ((j:Nat):Int)=a then f j else 0).sum=f a.toNat
 | 0,h=>by omega
 | n+1,h=>by
  rw [List.range_succ,Bm,iF]
  show _+((if ((n:Nat):Int)=a then f n else 0)+0)=_
  by_cases e:((n:Nat):Int)=a
  ·rw [if_pos e,kl fun j hj=>by rw [if_neg (by have:=BO.mp hj;omega)],show a.toNat=n by omega]
   omega
  ·rw [if_neg e,jh h0 (n:=n) (by omega)]
   omega
theorem AJ{n:Nat}{ps:List Int}:∀ {ts:List (Int×Int)},(∀ t∈ts,0<=t.1/\t.1 < t.2/\t.2 < n)->((List.range n).map fun j=>((Td.nb (j:Nat) ts).length:Int) * ps.getD j 0).sum=(ts.map (smT ps)).sum
 | [],_=>kl fun j _=>by show (0:Int) * _=0;rw [Int.zero_mul]
 | t::ts,h=>by
  have ht:=h t AY
  have ih:=AJ (ps:=ps) (ts:=ts) fun s hs=>h s (AV _ hs)
  have e:((List.range n).map fun j=>((Td.nb (j:Nat) (t::ts)).length:Int) * ps.getD j 0)=(List.range n).map fun j=>((if ((j:Nat):Int)=t.1 then ps.getD j 0 else 0)+(if ((j:Nat):Int)=t.2 then ps.getD j 0 else 0))+((Td.nb (j:Nat) ts).length:Int) * ps.getD j 0:=by
   refine Bp fun j _=> ?_
   show ((((if ((j:Nat):Int)=t.1 then [t.2] else if ((j:Nat):Int)=t.2 then [t.1] else [])++Td.nb (j:Nat) ts).length:Nat):Int) * ps.getD j 0=_
   by_cases e1:((j:Nat):Int)=t.1
   ·rw [if_pos e1,if_pos e1,if_neg (by omega),A7,Int.natCast_add,Int.add_mul]
    show (1:Int) * _+_=_
    rw [Int.one_mul];omega
   ·rw [if_neg e1,if_neg e1]
    by_cases e2:((j:Nat):Int)=t.2
    ·rw [if_pos e2,if_pos e2,A7,Int.natCast_add,Int.add_mul]
     show (1:Int) * _+_=_
     rw [Int.one_mul];omega
    ·rw [if_neg e2,if_neg e2,BN];omega
  rw [e,fK,fK,jh ht.1 (by omega),jh (by omega) (by omega),ih,A4,Br]
theorem qW{ps:List Int}{n:Nat}(h:ps.length=n):(List.range n).map (fun j=>ps.getD j 0)=ps:=by
 refine BM (by rw [AO,BR,h]) fun j h1 h2=> ?_
 rw [BH,List.getElem_range,AS,AN h2];rfl
abbrev mo(n:Nat)(ts:List (Int×Int))(ps us:List Int):List (Int×Int):=((List.range n).map fun j=>(((Td.nb (j:Nat) ts).length:Int),ps.getD j 0))++us.map fun u=>(1,u)
abbrev oft(n:Nat)(ts:List (Int×Int)):List Int:=lA n ts++ts.map fun _=>1
theorem ones{α β:Type}:∀ {a:List α} {b:List β},a.length=b.length->(a.map fun _=>(1:Int))=b.map fun _=>(1:Int)
 | [],[],_=>rfl
 | _::a,_::b,h=>by rw [A4,A4,ones (Nat.succ.inj h)]
 | [],_::_,h=>by simp at h
 | _::_,[],h=>by simp at h
section
variable{n:Nat}{ts:List (Int×Int)}{ps us:List Int}{c:Int}
theorem wj(hu:us.length=ts.length):(mo n ts ps us).map (·.1)=oft n ts:=by
 rw [Bm,Bo,Bo]
 show _++(us.map fun _=>(1:Int))=_
 rw [ones hu];rfl
theorem pf(hp:ps.length=n):(mo n ts ps us).map (·.2)=ps++us:=by
 rw [Bm,Bo,Bo]
 show ((List.range n).map fun j=>ps.getD j 0)++(us.map fun u=>u)=_
 rw [qW hp,List.map_id']
theorem rY(c:Int):∀ l:List Int,(l.map fun x=>c - x).sum=c * (l.length:Int) - l.sum
 | []=>by simp
 | x::l=>by
  rw [A4,Br,rY c l,Br,A3,show ((l.length+1:Nat):Int)=(l.length:Int)+1 by omega,CI,C0];omega
theorem Tot.sm(T:Tot n ts ps us c):ts.map (smT ps)=us.map fun x=>c - x:=by
 refine BM (by rw [AO,AO,T.lu]) fun i h1 h2=> ?_
 rw [AO] at h1 h2;rw [BH,BH];have s:=T.s i h1;rw [AS,AN h1,AS,AN h2] at s;have s:smT ps ts[i]+us[i]=c:=s;omega
theorem Tot.wt(T:Tot n ts ps us c)(hr:∀ t∈ts,0<=t.1/\t.1 < t.2/\t.2 < n):((mo n ts ps us).map fun p=>p.1 * p.2).sum=c * (ts.length:Int):=by
 rw [Bm,iF,Bo,Bo]
 show ((List.range n).map fun j=>((Td.nb (j:Nat) ts).length:Int) * ps.getD j 0).sum+(us.map fun u=>(1:Int) * u).sum=_
 have e:(us.map fun u=>(1:Int) * u)=us:=by
  have:(us.map fun u=>(1:Int) * u)=us.map id:=Bp fun x _=>by rw [Int.one_mul];rfl
  rw [this,List.map_id]
 rw [AJ hr,T.sm,rY,e,T.lu];omega
theorem Tot.perm(T:Tot n ts ps us c):(ps++us).Perm (rgI 1 (n+ts.length)):=cz T.d (by rw [A7,T.lp,T.lu]) fun x hx=>by have:=T.b x hx;omega
theorem Tot.span(T:Tot n ts ps us c)(hr:∀ t∈ts,0<=t.1/\t.1 < t.2/\t.2 < n):wo 0 (aC (oft n ts)).reverse<=c * (ts.length:Int)/\c * (ts.length:Int)<=wo 0 (aC (oft n ts)):=by
 have p:((mo n ts ps us).map (·.2)).Perm (rgI 1 (n+ts.length)):=by rw [pf T.lp];exact T.perm
 have a:=vI _ _ p;have b:=tw p;rw [wj T.lu,T.wt hr] at a b;exact ⟨b,a⟩
theorem vq:∀ N:Nat,2 * (rgI 1 N).sum=(N:Int) * ((N:Int)+1)
 | 0=>rfl
 | N+1=>by
  have ih:=vq N;rw [bZ,iF]
  show 2 * ((rgI 1 N).sum+(1+(N:Nat)+0))=((N+1:Nat):Int) * (((N+1:Nat):Int)+1)
  rw [show ((N+1:Nat):Int)=(N:Int)+1 by omega,CI ((N:Int)+1),C0,CI ((N:Int)+1),C0,Int.mul_comm ((N:Int)+1) (N:Int)];omega
theorem xw{d:Int}:∀ {L:List (Int×Int)},(∀ p∈L,d ∣ p.1 - 1)->d ∣ (L.map fun p=>p.1 * p.2).sum - (L.map (·.2)).sum
 | [],_=>by simp
 | p::L,h=>by
  have ih:=xw (d:=d) (L:=L) fun q hq=>h q (AV _ hq)
  have hp:=h p AY;rw [A4,Br,A4,Br,show p.1 * p.2+(L.map fun p=>p.1 * p.2).sum - (p.2+(L.map (·.2)).sum)=(p.1 - 1) * p.2+((L.map fun p=>p.1 * p.2).sum - (L.map (·.2)).sum) by rw [Int.sub_mul,Int.one_mul];omega];exact Int.dvd_add (Int.dvd_trans hp (Int.dvd_mul_right _ _)) ih
theorem Tot.share(T:Tot n ts ps us c)(hr:∀ t∈ts,0<=t.1/\t.1 < t.2/\t.2 < n){d:Int}(h1:(ts.length:Int) % d=0)(h2:∀ x∈lA n ts,(x - 1) % d=0):((n:Int)+ts.length) * ((n:Int)+ts.length+1) / 2 % d=0:=by
 have a:d ∣ ((mo n ts ps us).map fun p=>p.1 * p.2).sum - ((mo n ts ps us).map (·.2)).sum:=xw fun p hp=>by
  rcases Bd.mp hp with hp | hp
  ·obtain ⟨j,hj,rfl⟩:=Bn.mp hp
   exact Int.dvd_of_emod_eq_zero (h2 _ (Bn.mpr ⟨j,hj,rfl⟩))
  ·obtain ⟨u,_,rfl⟩:=Bn.mp hp
   exact ⟨0,by rw [Int.mul_zero];rfl⟩
 rw [T.wt hr,pf T.lp,ji T.perm] at a;have b:d ∣ c * (ts.length:Int):=Int.dvd_trans (Int.dvd_of_emod_eq_zero h1) (Int.dvd_mul_left _ _)
 have e:((n:Int)+ts.length) * ((n:Int)+ts.length+1) / 2=(rgI 1 (n+ts.length)).sum:=by
  have:=vq (n+ts.length);rw [show ((n+ts.length:Nat):Int)=(n:Int)+ts.length by omega] at this;omega
 rw [e];refine Int.emod_eq_zero_of_dvd ?_;have:=Int.dvd_sub b a;rw [show c * (ts.length:Int) - (c * (ts.length:Int) - (rgI 1 (n+ts.length)).sum)=(rgI 1 (n+ts.length)).sum by omega] at this;exact this
end
end L2
namespace L2
end L2
set_option linter.all false
private def xp(r:Array String):Nat->Char->List Nat
 | 0,_=>[]
 | k+1,c=>let x:=c.toNat;if x < 80 then [x - 33 - (if x < 35 then 0 else 1)] else if 255 < x&&x < 1024 then [x - 210] else (r.getD (if x < 127 then x - 80 - (if x < 93 then 0 else 1) else x - 978) "").toList.flatMap (xp r k)
set_option hygiene false
set_option compiler.extract_closed false
private def ta:Lean.MacroM (Lean.TSyntax `tactic) := `(tactic| (exact .nil;(simp only [BV,BW,reduceIte,CU];exact rfl);refine .cons ?_ ?_;(with_reducible assumption);omega;(simp only [bv,cn,xW,Bl,Bs,BV,BW,List.replicate,BP,BN,BA];exact rfl);exact ⟨rfl,rfl,rfl,by decide +kernel,rfl,by decide +kernel,by decide +kernel⟩;exact ⟨rfl,by decide +kernel,by decide +kernel,by decide +kernel,rfl,by decide +kernel,by decide +kernel,by decide +kernel,by decide +kernel⟩;refine t_eq hu ?_ ?_;intros;refine g_tup rfl ?_;intro x0 hx0;(first | exact Or.inl rfl | exact Or.inr (Or.inl rfl) | exact Or.inr (Or.inr rfl));refine Ab (m:=T.tuple) (ha:= ?_);refine b_len (m:=T.len) (ha:= ?_);refine s_for rfl ?_ ?_ ?_;refine q_eq hu ?_ ?_;refine aE (N:=["web", "thing"]) h ?_ fun f cdv A outer s H E hr nd hu hu1=> ?_;refine Ae (m:=T.list) (ha:= ?_);exact qX nd rfl (Or.inl rfl);refine qp ?_ T.isi T.tuple;refine t_ne hu ?_ ?_;refine eC.ok (osc:=aa (top 43)) (N:=["pen", "most", "one", "other", "many", "ties", "numbers", "places", "top"]) ?_;exact Bk (by omega);refine b_max (m:=T.max) (ha:= ?_);exact qX nd rfl (Or.inr rfl);refine b_min (m:=T.min) (ha:= ?_);refine s_item ?_ ?_ rfl ?_;refine wI _ ?_;refine eC.ok (osc:=aa (top 41)) (N:=["pen", "most", "many", "ties", "places", "numbers", "low", "one"]) ?_;(with_reducible apply pV _);(with_reducible apply dU _ _);refine Ad (m:=T.range) (ha:= ?_);refine Ac (m:=T.sorted) (ha:= ?_);refine b_all (m:=T.all) (ha:= ?_);exact vz R_NoNumber hr (by rfl);(simp only [ini,il,A3,B6,List.replicate,BP,BN,Cz,Nat.reduceSub,CK,Nat.reduceAdd,BA,reduceCtorEq,reduceIte,Option.some.injEq,Nat.reduceEqDiff,Nat.zero_ne_one,Nat.one_ne_zero];exact rfl);(simp only [A3,B6,List.take_succ_cons,List.take_zero,BA];exact rfl);refine i_rng2 (by rfl) T.range ?_;exact qX (nd_k (by kernel_rfl)) rfl (Or.inl rfl);refine Ar nd rfl (Or.inl rfl) ?_;refine b_int (m:=T.int) (ha:= ?_);refine i_rng1 (by rfl) T.range ?_;refine bh (M:=["one", "other", "ties", "a"]) (tgs:=["b"]) rfl ?_ ?_ ?_ ?_ ?_;refine eC.ok (osc:=aa (top 39)) (N:=["one", "other", "ties", "a"]) ?_;refine eC.ok (osc:=aa (top 40)) (N:=["many", "ties", "places", "sums", "top"]) ?_;refine i_zip (by rfl) T.zip ?_;refine zZ AD AD AB AB ?_ ?_ ?_;refine aE (N:=["web"]) h ?_ fun f cdv A outer s H E hr nd hu hu1=> ?_;refine s_retV rfl ?_;refine b_set (m:=T.set) (ha:= ?_);refine .one ?_;(with_reducible apply t8 _);(with_reducible apply pS _);(simp only [dC,Bl,Bs,BV,BW];exact rfl);exact Ba (by omega);have hy0:=ak.mp hx0;(simp only [AO,A7,BR,A3,B6,BK,BX,aj,List.length_zipIdx,Cc,List.length_reverse] at *;omega);(with_reducible apply gE _ _);have hy0:=List.mem_zipIdx' hx0;refine aE (N:=["thing"]) h ?_ fun f cdv A outer s H E hr nd hu hu1=> ?_;refine uP ?_ T.isi T.int;refine rN ?_ T.isi T.bool;refine aE (N:=["most"]) h ?_ fun f cdv A outer s H E hr nd hu hu1=> ?_;refine bh (M:=["most"]) (tgs:=["share"]) rfl ?_ ?_ ?_ ?_ ?_;refine eC.ok (osc:=aa (top 7)) (N:=["most"]) ?_;exact .no;refine aE (N:=["web", "numbers"]) h ?_ fun f cdv A outer s H E hr nd hu hu1=> ?_;refine bh (M:=["web", "numbers"]) (tgs:=["a", "b"]) rfl ?_ ?_ ?_ ?_ ?_;refine eC.ok (osc:=aa (top 18)) (N:=["web", "numbers"]) ?_;refine aE (N:=["whole", "numbers"]) h ?_ fun f cdv A outer s H E hr nd hu hu1=> ?_;refine bh (M:=["whole", "numbers"]) (tgs:=["number"]) rfl ?_ ?_ ?_ ?_ ?_;refine eC.ok (osc:=aa (top 23)) (N:=["whole", "numbers"]) ?_;refine aE (N:=["often"]) h ?_ fun f cdv A outer s H E hr nd hu hu1=> ?_;refine b_sum (m:=T.sum) (ha:= ?_);refine bh (M:=["often"]) (tgs:=["k", "times"]) rfl ?_ ?_ ?_ ?_ ?_;refine eC.ok (osc:=aa (top 28)) (N:=["often"]) ?_;refine i_enum (by rfl) T.enumerate ?_;refine aE (N:=["script", "k"]) h ?_ fun f cdv A outer s H E hr nd hu hu1=> ?_;refine aE (N:=["seed"]) h ?_ fun f cdv A outer s H E hr nd hu hu1=> ?_;refine aE (N:=["cell", "left"]) h ?_ fun f cdv A outer s H E hr nd hu hu1=> ?_;refine aE (N:=["one", "other", "ties", "a"]) h ?_ fun f cdv A outer s H E hr nd hu hu1=> ?_;refine wH _ ?_;refine aE (N:=["many", "ties", "places", "sums", "top"]) h ?_ fun f cdv A outer s H E hr nd hu hu1=> ?_;refine eI (M:=["many", "ties", "places", "sums", "top"]) (tgs:=["a", "b"]) rfl ?_ ?_ ?_ ?_ ?_ nd rfl rfl;refine Ar nd rfl (Or.inr rfl) ?_;refine bh (M:=["many", "ties", "places", "sums", "top"]) (tgs:=["one"]) rfl ?_ ?_ ?_ ?_ ?_;refine aE (N:=["many", "ties", "places", "numbers", "order", "found", "a", "b", "number", "given", "place", "rows"]) h ?_ fun f cdv A outer s H E hr nd hu hu1=> ?_;refine s_dput hu1 ?_ ?_ rfl ?_;refine bh (M:=["many", "ties", "places", "numbers", "order", "found", "a", "b", "number", "given", "place", "rows"]) (tgs:=["tie"]) rfl ?_ ?_ ?_ ?_ ?_;refine eC.ok (osc:=aa (top 42)) (N:=["many", "ties", "places", "numbers", "order", "found", "a", "b", "number", "given", "place", "rows"]) ?_;refine c_dget hu1 ?_ ?_;refine aE (N:=["thing", "least", "most"]) h ?_ fun f cdv A outer s H E hr nd hu hu1=> ?_;refine aE (N:=["forms", "thing"]) h ?_ fun f cdv A outer s H E hr nd hu hu1=> ?_;refine q_in hu ?_ ?_;refine bh (M:=["forms", "thing"]) (tgs:=["number"]) rfl ?_ ?_ ?_ ?_ ?_;refine eC.ok (osc:=aa (top 6)) (N:=["forms", "thing"]) ?_;refine c_sl10 vw os_s10 ?_ ?_;refine bh (M:=["web"]) (tgs:=["others"]) rfl ?_ ?_ ?_ ?_ ?_;refine eC.ok (osc:=aa (top 12)) (N:=["web"]) ?_;refine aE (N:=["web", "numbering"]) h ?_ fun f cdv A outer s H E hr nd hu hu1=> ?_;refine bh (M:=["web", "numbering"]) (tgs:=["end", "tie"]) rfl ?_ ?_ ?_ ?_ ?_;refine eC.ok (osc:=aa (top 17)) (N:=["web", "numbering"]) ?_;refine aE (N:=["web", "numbers", "total"]) h ?_ fun f cdv A outer s H E hr nd hu hu1=> ?_;refine aE (N:=["pen", "many", "found"]) h ?_ fun f cdv A outer s H E hr nd hu hu1=> ?_;refine aE (N:=["things", "least", "most"]) h ?_ fun f cdv A outer s H E hr nd hu hu1=> ?_;refine bh (M:=["things", "least", "most"]) (tgs:=["thing"]) rfl ?_ ?_ ?_ ?_ ?_;refine eC.ok (osc:=aa (top 3)) (N:=["things", "least", "most"]) ?_;refine aE (N:=["web", "often", "least", "most", "q"]) h ?_ fun f cdv A outer s H E hr nd hu hu1=> ?_;refine bh (M:=["web", "often", "least", "most", "q"]) (tgs:=["tie"]) rfl ?_ ?_ ?_ ?_ ?_;refine eC.ok (osc:=aa (top 27)) (N:=["web", "often", "least", "most", "q"]) ?_;refine uM (by rfl) T.sorted ?_;refine aE (N:=["web", "share", "numbers"]) h ?_ fun f cdv A outer s H E hr nd hu hu1=> ?_;refine bh (M:=["web", "share", "numbers"]) (tgs:=["count"]) rfl ?_ ?_ ?_ ?_ ?_;refine eC.ok (osc:=aa (top 30)) (N:=["web", "share", "numbers"]) ?_;refine aE (N:=["pen", "many", "left", "found"]) h ?_ fun f cdv A outer s H E hr nd hu hu1=> ?_;refine zk _ ?_;refine aE (N:=["pen", "last", "ties", "numbers", "hub", "ends", "side", "place"]) h ?_ fun f cdv A outer s H E hr nd hu hu1=> ?_;refine aE (N:=["things", "most"]) h ?_ fun f cdv A outer s H E hr nd hu hu1=> ?_;exact c_gk (by rfl) T.TOTAL_FORMS;refine aE (N:=["pen", "most", "many", "ties", "places", "numbers", "low", "one"]) h ?_ fun f cdv A outer s H E hr nd hu hu1=> ?_;refine bh (M:=["pen", "most", "many", "ties", "places", "numbers", "low", "one"]) (tgs:=["place"]) rfl ?_ ?_ ?_ ?_ ?_;refine eI (M:=["pen", "most", "many", "ties", "places", "numbers", "low", "one"]) (tgs:=["place"]) rfl ?_ ?_ ?_ ?_ ?_ nd rfl rfl;refine bh (M:=["pen", "most", "many", "ties", "places", "numbers", "low", "one"]) (tgs:=["a", "b"]) rfl ?_ ?_ ?_ ?_ ?_;refine eI (M:=["pen", "most", "many", "ties", "places", "numbers", "low", ""]) (tgs:=["one"]) rfl ?_ ?_ ?_ ?_ ?_ nd rfl rfl;refine aE (N:=["web", "total", "low", "high"]) h ?_ fun f cdv A outer s H E hr nd hu hu1=> ?_;refine aE (N:=["web", "thing", "places", "ties"]) h ?_ fun f cdv A outer s H E hr nd hu hu1=> ?_;refine aE (N:=["web", "numbers", "sums", "q", "least"]) h ?_ fun f cdv A outer s H E hr nd hu hu1=> ?_;refine bh (M:=["web"]) (tgs:=["bar"]) rfl ?_ ?_ ?_ ?_ ?_;refine eC.ok (osc:=aa (top 31)) (N:=["web"]) ?_;refine aE (N:=["pen", "most", "one", "other", "many", "ties", "numbers", "places", "top"]) h ?_ fun f cdv A outer s H E hr nd hu hu1=> ?_;refine bh (M:=["pen", "most", "one", "other", "many", "ties", "numbers", "places", "top"]) (tgs:=["a"]) rfl ?_ ?_ ?_ ?_ ?_;refine bh (M:=["pen", "most", "one", "other", "many", "ties", "numbers", "places", "top"]) (tgs:=["b"]) rfl ?_ ?_ ?_ ?_ ?_;refine eI (M:=["pen", "most", "one", "other", "many", "ties", "numbers", "places", "top"]) (tgs:=["a", "b"]) rfl ?_ ?_ ?_ ?_ ?_ nd rfl rfl;refine bh (M:=["pen", "most", "", "other", "many", "ties", "numbers", "places", "top"]) (tgs:=["one"]) rfl ?_ ?_ ?_ ?_ ?_;refine eI (M:=["pen", "most", "", "other", "many", "ties", "numbers", "places", "top"]) (tgs:=["one"]) rfl ?_ ?_ ?_ ?_ ?_ nd rfl rfl;refine bh (M:=["web", "thing"]) (tgs:=["numbers"]) rfl ?_ ?_ ?_ ?_ ?_;refine eC.ok (osc:=aa (top 22)) (N:=["web", "thing"]) ?_;refine aE (N:=["web", "good", "other"]) h ?_ fun f cdv A outer s H E hr nd hu hu1=> ?_;refine yE hu ?_ ?_;refine aE (N:=["web", "good", "total", "other"]) h ?_ fun f cdv A outer s H E hr nd hu hu1=> ?_;refine bh (M:=["web", "good", "total", "other"]) (tgs:=["bar"]) rfl ?_ ?_ ?_ ?_ ?_;refine eC.ok (osc:=aa (top 46)) (N:=["web", "good", "total", "other"]) ?_;refine fn_okV (N:=["script", "cell", "web", "good"]) h ?_ fun f cdv A outer s H E hr nd hu hu1=> ?_;refine c_sl11 vw os_s11 ?_;refine Aa lB G22 hr (by decide) (by rfl) ?_ ?_;skip))
private def tb(k:Nat)(i:Lean.Ident):Lean.MacroM (Lean.TSyntax `tactic):=match k with | 0 => `(tactic| with_reducible apply $i) | 1 => `(tactic| exact $i) | 2 => `(tactic| refine $i ?_) | 3 => `(tactic| refine $i ?_ ?_) | 4 => `(tactic| refine $i ?_ ?_ ?_) | 5 => `(tactic| exact $i _) | 6 => `(tactic| apply $i) | 7 => `(tactic| intro $i:ident) | 8 => `(tactic| refine xH rC $i hr (by decide) (by rfl) ?_) | _ => `(tactic| refine xH lB $i hr (by decide) (by rfl) ?_)
private def tc:Array (Nat×Lean.Name) := #[(1,`rfl),(2,`cb_ex),(0,`r_nilA),(5,`vb),(1,`ca_nil),(0,`Au),(0,`r_opT),(0,`r_op),(0,`r_nilM),(2,`s_one),(3,`s_cons),(0,`r_ret),(0,`r_exM),(3,`b_sub),(0,`vK),(1,`c_int),(5,`v),(1,`e),(0,`r_c),(0,`rq_seq),(0,`r_varF),(0,`r_orF),(3,`b_add),(0,`r_call),(0,`r_comp),(1,`g),(1,`g2),(0,`r_set),(2,`c_one),(3,`b_mod),(0,`yC),(1,`gm),(1,`ix),(3,`c_and),(2,`w_or1),(1,`h),(1,`ge),(3,`b_mul),(2,`s_expr),(3,`b_fdiv),(0,`r_tru),(1,`ga),(0,`r_for),(3,`b_ix),(3,`g_cons),(0,`r_notV),(1,`gr),(0,`r_ifT),(1,`u),(0,`yw),(0,`lj),(0,`yt),(0,`r_asg),(1,`o1),(1,`ba),(1,`c_str),(1,`s_nil),(3,`w_or),(3,`s_asg),(8,`G5),(6,`Eq.trans),(0,`h),(0,`qD),(0,`mE),(0,`h1),(0,`h2),(0,`r_ifF),(1,`gl),(1,`gs),(0,`r_seqR),(1,`u1),(1,`u2),(1,`us),(1,`gb),(1,`b),(1,`g4),(1,`op),(1,`g'),(1,`s1),(1,`s2),(1,`oo),(1,`gq),(1,`bc),(1,`l2),(1,`l1),(1,`eo),(0,`tp),(4,`s_if),(8,`G4),(0,`r_seqI),(1,`o),(0,`r_nil),(0,`r_andVF),(1,`q),(1,`c),(0,`r_expr),(1,`gg),(1,`gx),(0,`sf),(0,`zK),(1,`g3),(1,`g5),(1,`k),(1,`n1),(3,`zX),(2,`i_seq),(1,`g_nil),(2,`c_lst),(8,`G2),(8,`G19),(8,`G0),(0,`yA),(0,`r_andV),(0,`g),(1,`gn),(1,`f),(0,`r_lst),(0,`yr),(0,`gG),(0,`xf),(0,`iD),(0,`qB),(0,`eR),(0,`zM),(1,`up),(1,`g1),(0,`r_zipM),(1,`e1),(1,`e2),(0,`yz),(1,`gd),(1,`n2),(0,`g1),(0,`r_andT),(1,`r2),(0,`r_orVF),(1,`r1),(0,`r_andF),(0,`r_orVT),(1,`lt),(2,`c_not),(3,`t_lt),(2,`JW.t),(1,`c_bl),(8,`G16),(8,`G7),(8,`G17),(8,`G34),(9,`G6),(3,`q_gt),(8,`G8),(8,`G10),(8,`G23),(8,`G26),(8,`G18),(8,`G33),(8,`G35),(8,`G32),(0,`r_fn),(0,`r_borA),(6,`el_mk),(0,`sR),(0,`qC),(0,`r_tup),(0,`r_not),(0,`yu),(0,`vL),(1,`ln),(1,`td),(1,`pa),(1,`ua),(1,`e'),(0,`r_retO),(6,`lp_mk),(0,`Ap),(0,`r_varO),(0,`rq_ret),(0,`uf),(0,`gF),(1,`e7),(0,`r_dnew),(1,`hz'),(1,`gL),(1,`gS),(0,`gg),(1,`hz),(1,`gl2),(1,`gn2),(1,`g6),(1,`g7),(0,`r_fnN),(1,`a),(0,`yy),(1,`m),(1,`g0),(0,`yx),(1,`w1),(1,`w2),(1,`f1),(1,`f2),(1,`s),(0,`g2),(0,`r_orT),(1,`c1),(6,`el_mkF),(1,`sb),(1,`lo),(1,`lg),(1,`b1),(1,`b2),(1,`o2),(1,`gi),(1,`ll),(1,`ex),(0,`gm),(0,`ex_seq),(0,`yB),(0,`tPen),(0,`ex_one),(1,`r),(0,`tCell0),(0,`pR),(0,`rk),(2,`s_ret),(2,`c_tup),(3,`q_ge),(3,`b_pow),(1,`zY),(8,`G3),(2,`k_not),(2,`k_tru),(9,`G3),(8,`G24),(9,`G27),(3,`yl),(8,`G31),(8,`G14),(8,`G37),(8,`G6),(8,`G13),(8,`G28),(8,`G20),(1,`c_non),(8,`G9),(8,`G15),(9,`G36),(8,`G12),(8,`G29),(8,`G1),(8,`G30),(9,`G16),(3,`w_and),(2,`w_and1),(3,`c_or),(9,`G25),(9,`G21),(9,`G11)]
private def xg(q:Array Lean.Syntax):List Nat->Lean.MacroM (Array (Lean.TSyntax `tactic))
 | []=>return #[]
 | i::l=>do let a <- (match tc[i]? with | some (k,n)=>tb k (Lean.mkIdent n) | none=>pure ⟨q.getD (2 * (i - tc.size)) .missing⟩);let b <- xg q l;return #[a]++b
local macro_rules
 | `(tactic| trace $s:str)=>do
  let q <- ta
  let a <- xg q.raw[1][0][0].getArgs (s.getString.toList.flatMap (xp #["Q!", "!!", "#1", "ĺ#", "$!", "`Y", "`T", "pb", "8#", "T!", "zU", "", ",ǻ", "!Y", "r$", "ű!", "rT", "p&", ")`", "t-", "%R", ":ī", "*!", "+Ʊ", "!ǔ", "'Z", "ǗǗ", "cU", ")Ј", "ЈT", "')", "ĺ%", "Qǔ", "'4", "0=", "ĎŰǷ", "%%", "ŵ.", "zT", "ts", "ѧj", "9`", "Me", "rY", ")'", ",ĩ", "ƲǕ", "^ĭ", "Ǚh", "ѯѷ", "QQ", "ЈU", "vѫ", "ıѻ", "o`", "oЈ", "S{&", "з7", "Mu", ")Љ", "or", "$A", "Ʒѱ", "qs", "is", "#и", "b&", "#{", "ѣ!", "Ųǘ", "шЗ", "ѹđ", "ЈЖ", "NǦ", "Иl", "Ѱ-", "ņ*", "ǔ0", "ņ.", "Ј|", "Ƃ-", "Ѱз", "jƤ", "Ǚ~", "Ѫb", "Ǚ]", "pS", "!ȉ", "ǚĻ", "!*", "ſǘ", "Ċh", "!T", "6Q", "YQ", "oU", "й.", "ѭЃ", ",Ȩ", "ĽǕ", "Ǩ#", "0Ĕ", "8e", "Ɓi", "6P", "Ǖ2", "Ѥк", "mU", "$ń", "6Ы", "4.", "ŏ!", "!V", "#G", "ǽb", "ѪЊ", "ҀѲ", "'Ѩ", "ŴǞ", "z`", "щѥ", "Ћѧ", "ѳz", "КT", "$K", "Ѵs", "ѵĭ", "c|", "Yǔ", "ȋЗ", "Ьă", "oҁa", "(o", "('", "лǓ", "ǜǝѼѼļѷ", "ĽǓ", "Ѐ2", "8%", "Лļ", "SЌ", "ѶА", "ѽЭ", "W&", "ѽĊ", "aų", "}f", "U!", "!.", "ŶJ", "Ÿ`", "чaѸ", "#ǡ", "6Ѧ", "ĺR", "Ъ2", "ЉЖ", "ǜǺ", "!ĭ", "Ƹ#", "Ѿ&", "ѧ'", "āѺȊ", "ĔѺǪ", "Šċ", "ǜȕǜ", "ƀkЩ", "Ѯ$", "(ѩ_ǲ", "ŷѦ", "NǺ", "hš", "pѬ", "ЙT", "#ǀ", "Ѯѿ"] 99))
  `(tactic| ($[$a];*))
set_option compiler.extract_closed true
set_option hygiene true
namespace K52
open PySem L2 PyProof.Rows
def top(i:Nat):Stmt:=PySem.Challenge.pw_tienumbers_k52_whole_totals_and_opposite.main.body.getD i (.Pass ⟨0,0,0,0⟩)
def bI:D:= .ktup [.ktup [.str "share",.int 1],.ktup [.str "ties",.int 0]]
structure Txt(K:Df)(mg:Str->Option Value):Prop where
 all:mg "all" = none
 bool:mg "bool" = none
 enumerate:mg "enumerate" = none
 int:mg "int" = none
 isi:mg "isinstance" = none
 len:mg "len" = none
 list:mg "list" = none
 max:mg "max" = none
 min:mg "min" = none
 range:mg "range" = none
 set:mg "set" = none
 sorted:mg "sorted" = none
 sum:mg "sum" = none
 tuple:mg "tuple" = none
 zip:mg "zip" = none
 TOTAL_FORMS:∃ a,mg "TOTAL_FORMS" = some (.ref a)/\∀ H,av K H bI (.ref a)
section
variable{P:Program}{w:World}{K:Df}{mg:Str->Option Value}{base:Heap}
noncomputable def ku:SS:=(aF (ck (sOp (ip "int") [.bor 0]) (fx (sOp (ip "bool") [.bor 0]))))
noncomputable def dM:FS:=aq 1 1 none ku
abbrev iu:=OkY "is_whole" ["thing"] 1 none dM
theorem pk(h:Has K mg "is_whole" (top 1) ["thing"])(T:Txt K mg):iu P w K mg base:=by
 trace "ȏЂCȐ%>Şȑ%"
noncomputable def iL:SS:=(aF (aH 1 (eK (.ex (sC (.int 2))) (.ex (sOp ay [.bor 0,.ex (sC (.int 1))]))) (.nm 1) none (cc [(sC (.str "share")),(aG 1)])))
noncomputable def dq:FS:=aq 1 1 none iL
abbrev i8:=OkY "share_bars" ["most"] 1 none dq
theorem lS(h:Has K mg "share_bars" (top 7) ["most"])(T:Txt K mg):i8 P w K mg base:=by
 trace "ȒЂȓȔǚǹѬSи&ЃЀĉј"
open L2.Td in
theorem nk:cI ["web", "tied", "a", "b"] ["web"] (aa (top 13)):=⟨rfl,rfl,rfl,by decide +kernel,rfl,by decide +kernel,by decide +kernel⟩
open L2.Td in
def yk:Scope:={ kind:= .function,names:=[(".0",.local),("place",.local)],isGenerator:=false,isCoroutine:=false,more:=[] }
open L2.Td in
theorem xI:eC (aa (top 13)) ["web", "tied", "a", "b"] yk ["web", "tied", "a", "b"] ["place"]:=⟨rfl,by decide +kernel,by decide +kernel,by decide +kernel,rfl,by decide +kernel,by decide +kernel,by decide +kernel,by decide +kernel⟩
open L2.Td in
theorem zg(h:Has K mg "tied_places" (top 13) ["web"])(T:Txt K mg):Ok P w K mg base "tied_places" ["web"] 1 (vv K):=by
 refine h.ok nk (fun vs H Q E h=> ?_) (fun f cdv A outer s H vs Q E hr h=> ?_)
 ·obtain ⟨wb,many,ties,rfl,_⟩:=h;rfl
 ·obtain ⟨wb,many,ties,rfl,web,m0,m1,q⟩:=h
  obtain ⟨t,bs,h1,h2,h3⟩:=web.at_;have bl:bs.length=ties.length:=Paired.length h3;have lt60:ties.length<=60:=web.len
  refine ⟨_,iP (kH (j:=1) (M:=["web", "tied", "a", "b"]) (tgs:=["place"]) rfl xI.ok (mm (by rfl) T.range (cQ (pd qT (pv 0) kO (fun _ _=>rfl)) eY))
   (fun cl C fp s H=>kd (i:=4) xI.nd rfl (Or.inl rfl)) (fun cl C fp s H=>pif0) (fun cl C fp s H=>wa eY) nk.nd rfl rfl)
   (iP (vY PassesOwn.never rfl (pi_tup (pd qT (pv 0) kO (fun _ _=>rfl))) (v8 rfl (kK (kd (i:=2) nk.nd rfl (Or.inl rfl)) (kK (kd (i:=3) nk.nd rfl (Or.inl rfl)) sw)))
     (iP (nA (wf PySem.F.plainAttrs_list PySem.F.slot_list_append PySem.F.type_list_append jt (pd nO (pv 1) (pv 2) (fun _ _=>rfl)) (cQ (pv 3) eY)))
     (nv (nA (wf PySem.F.plainAttrs_list PySem.F.slot_list_append PySem.F.type_list_append jt (pd nO (pv 1) (pv 3) (fun _ _=>rfl)) (cQ (pv 2) eY))))))
   (nv (qJ (pv 1)))),?_⟩
  refine ⟨_,rfl,wb,[.int many,.ref t],0,_,rfl,rfl,.inl (.inl h1),rfl,many,rfl,by omega,by omega,?_⟩;refine rA (n:=many.toNat) (fun k ys H'=>ad H H'/\∃ ls:List Addr,ys=ls.map V.ref/\ls.length=k/\ls.Nodup/\∀ l∈ls,H l=none/\H' l=some (.lst [])) ⟨ad.refl H,[],rfl,rfl,Cs,fun l hl=>by cases hl⟩ (fun k ys H' hk pv=> ?_) (fun k ys H' hk pv=> ?_) (fun ys H' pv p hp=> ?_)
  ·obtain ⟨_,ls,rfl,e,_⟩:=pv
   rw [AO,e];exact Nat.le_of_lt (cK (by omega))
  ·obtain ⟨e,ls,rfl,el,nd,ea⟩:=pv
   refine ⟨rfl,by show 0<=sizeLine;decide,fun l hl=> .mk hk ⟨e.trans (ad.upd hl),ls++[l],by simp,by simp [el],?_,fun l' hl'=> ?_⟩⟩
   ·refine CY.mpr ⟨nd,by simp,fun a ha b hb=> ?_⟩
    have:b=l:=by simpa using hb
    subst this;exact ah (ea a ha).2 hl
   ·rcases Bd.mp hl' with hl' | hl'
    ·exact ⟨(ea l' hl').1,ad.upd hl _ _ (ea l' hl').2⟩
    ·have:l'=l:=by simpa using hl'
     subst this;exact ⟨e.free hl,ao⟩
  ·obtain ⟨e,ls,rfl,el,nd,ea⟩:=pv
   have A0:Adj H p ls [] (upd H' p (.lst (ls.map V.ref))):=by
    have np:∀ l∈ls,l≠p:=fun l hl=>ah (ea l hl).2 hp
    refine ⟨e.trans (ad.upd hp),ao,nd,fun z=>np p z rfl,e.free hp,fun l hl=>(ea l hl).1,fun j l hj=> ?_⟩;have hl:=Bc hj;rw [ag (np l hl)];exact (ea l hl).2
   have s0:=A0.same;refine ⟨_,rfl,wb,[.int many,.ref t],1,_,rfl,rfl,.inl (.inl (s0 _ _ h1)),rfl,t,rfl,⟨bs,.inl (.inl (s0 _ _ h2))⟩,?_⟩;refine zO (K:=K) (a:=t) (xs:=bs) (fun k σ H'=>∃ v2 v3,σ=[some (.ref wb),some (.ref p),v2,v3]/\Adj H p ls (ties.take k) H') ⟨none,none,rfl,A0⟩ (fun k σ H' hk ⟨_,_,_,A⟩=> .inl (.inl (A.same _ _ h2))) ?_ ?_
   ·rintro k x σ H2 hk ⟨v2,v3,rfl,A⟩
    obtain ⟨tt,ht,a,rfl,ha⟩:=Paired.get h3 hk;obtain ⟨g1,g2,g3⟩:=web.good tt (Bc ht);obtain ⟨na,ea'⟩:∃ n:Nat,tt.1=n:=⟨tt.1.toNat,by omega⟩;obtain ⟨nb',eb'⟩:∃ n:Nat,tt.2=n:=⟨tt.2.toNat,by omega⟩;have la:ls[na]?=some ls[na]:=AN (by omega);have lb:ls[nb']?=some ls[nb']:=AN (by omega);have hla:=A.lst na _ la;have hlb:=A.lst nb' _ lb
    have nab:ls[na]≠ls[nb']:=fun z=>by
     have:=A.inj la (z ▸ lb);omega
    have lenN:∀ j:Int,(nb j (ties.take k)).length<=60:=fun j=>by
     have:=wC j (ties.take k);rw [BY] at this;omega
    refine ⟨a,[.int tt.1,.int tt.2],rfl,.inl (.inl (A.same _ _ ha)),rfl,_,_,rfl,_,_,rfl,rfl,?_⟩;refine ⟨_,rfl,_,rfl,p,ls.map V.ref,tt.1,.ref ls[na],rfl,rfl,.inl (.inl A.at_),by rw [ea'];exact sX (by rw [Bf,la];rfl),?_⟩;refine ⟨.inl ⟨rfl,_,.inl (.inl hla)⟩,_,rfl,ls[na],_,_,rfl,rfl,hla,cK (by rw [AO];have:=lenN na;omega),?_⟩
    have p2:(upd H2 ls[na] (.lst ((nb na (ties.take k)).map V.int++[.int tt.2]))) p=some (.lst (ls.map V.ref)):=by
     rw [ag (fun z:p=ls[na]=>A.np (by rw [z];exact BG _))];exact A.at_
    have hlb2:(upd H2 ls[na] (.lst ((nb na (ties.take k)).map V.int++[.int tt.2]))) ls[nb']=some (.lst ((nb nb' (ties.take k)).map V.int)):=by
     rw [ag (Ne.symm nab)];exact hlb
    refine ⟨_,rfl,_,rfl,p,ls.map V.ref,tt.2,.ref ls[nb'],rfl,rfl,.inl (.inl p2),by rw [eb'];exact sX (by rw [Bf,lb];rfl),?_⟩;refine ⟨.inl ⟨rfl,_,.inl (.inl hlb2)⟩,_,rfl,ls[nb'],_,_,rfl,rfl,hlb2,cK (by rw [AO];have:=lenN nb';omega),?_⟩;refine ⟨_,_,rfl,?_⟩;have st:=A.step la lb (by omega)
    have e1:ties.take (k+1)=ties.take k++[((na:Int),(nb':Int))]:=by
     rw [List.take_add_one,ht]
     show _++[tt]=_
     rw [<- ea',<- eb']
    rw [e1,ea',eb'];rw [Bm,Bm] at st;exact st
   ·rintro σ H2 ⟨v2,v3,rfl,A⟩
    refine ⟨_,rfl,q p ls H2 el ?_⟩;rw [bl,List.take_length] at A;exact A
noncomputable def eA:FS:=Td.lq
abbrev gR:=OkY "tied_places" ["web"] 1 none eA
theorem kR(h:Has K mg "tied_places" (top 13) ["web"])(T:Txt K mg):gR P w K mg base:=Td.tied_x (zg h T)
noncomputable def kw:SS:=(aF (aH 2 (aZ (sOp gIx [.bor 0,.ex (sC (.int 1))])) (.tp [(.nm 2),(.nm 3)]) none (sOp ay [.ex (sOp gIx [.bor 1,.bor 2]),.ex (sOp gIx [.bor 1,.bor 3])])))
noncomputable def cP:FS:=aq 2 2 none kw
abbrev fo:=OkY "end_sums" ["web", "numbers"] 1 none cP
theorem px(h:Has K mg "end_sums" (top 18) ["web", "numbers"])(T:Txt K mg):fo P w K mg base:=by
 trace "ȖЂȗȘЪ{љXЌ#Ќ"
noncomputable def eW:SS:=(aF (sOp fb [.ex (aH 1 (aZ (aG 1)) (.nm 2) none (sOp bG [.bor 0,.bor 2]))]))
noncomputable def bd:FS:=aq 2 2 none eW
abbrev dz:=OkY "taken_from" ["whole", "numbers"] 1 none bd
theorem lR(h:Has K mg "taken_from" (top 23) ["whole", "numbers"])(T:Txt K mg):dz P w K mg base:=by
 trace "șЂǠSȚțг/u&"
noncomputable def eF:SS:=(aF (sOp qY [.ex (aH 2 (fy (aG 0)) (.tp [(.nm 1),(.nm 2)]) none (sOp cC [.bor 2,.ex (sOp ay [.bor 1,.ex (sC (.int 1))])]))]))
noncomputable def br:FS:=aq 1 1 none eF
abbrev eT:=OkY "worth_in_order" ["often"] 1 none br
theorem iQ(h:Has K mg "worth_in_order" (top 28) ["often"])(T:Txt K mg):eT P w K mg base:=by
 trace "ȜЂȝSȞȟǚȠ2љG%Г&"
abbrev gy:=OkY "_law_cell_at" ["script", "k"] 1 none aY
theorem j6(h:Has K mg "_law_cell_at" (top 33) ["script", "k"])(T:Txt K mg):gy P w K mg base:=by
 trace "ȡХş%ЦhЌЭ1"
abbrev jW:=OkY "_law_next" ["seed"] 1 none cY
theorem nH(h:Has K mg "_law_next" (top 34) ["seed"])(T:Txt K mg):jW P w K mg base:=by
 trace "ȢЧ?ГRh?#XXGuуReR"
abbrev gW:=OkY "_law_pen_of" ["cell"] 1 none bJ
theorem kW(h:Has K mg "_law_pen_of" (top 35) ["cell"])(T:Txt K mg):gW P w K mg base:=by
 trace "ȣЧǫШ/R%&hĽлǕǼSƳ%#ƴRR&Ǖ?eǓ"
noncomputable def cu:SS:=(cU (cj 2 iC [(aH 1 (ci (.bor 1)) (.nm 4) none (cc [(aG 3),(sOp ay [.bor 0,.bor 4])]))]))
noncomputable def iN:SS:=(al (aO 2 (cM [])) (al (gJ (ci (.bor 0)) (.nm 3) cu) (aF (cc [(sOp ay [.bor 0,.bor 1]),(aG 2),(sOp ay [.ex (sOp cD [.ex (sOp jA [.bor 0])]),.ex (aH 1 (ci (.bor 1)) (.nm 4) none (sOp cC [.bor 0,.ex (sOp ay [.bor 4,.ex (sC (.int 1))])]))])]))))
noncomputable def dv:FS:=aq 2 4 none iN
abbrev jb:=OkY "_law_sides" ["one", "other"] 1 none dv
theorem lV(h:Has K mg "_law_sides" (top 39) ["one", "other"])(T:Txt K mg):jb P w K mg base:=by
 trace "ȤЧњ,ǢфǬ+HȥǾǿǚфЃћǕ8uǓhЀ8uлǕXǥSǳД#ǾǿǚфЃG%ГǓ"
noncomputable def fu:SS:=(al (aO 3 (aH 2 (aZ (aG 1)) (.tp [(.nm 5),(.nm 6)]) none (sOp ay [.ex (sOp gIx [.bor 2,.bor 5]),.ex (sOp gIx [.bor 2,.bor 6])]))) (al (aO 4 (sOp ay [.ex (sOp ay [.bor 0,.ex (sOp bH [.bor 1])]),.ex (sOp gc [.bor 3])])) (aF (aH 1 (aZ (aG 3)) (.nm 5) none (sOp bG [.bor 4,.bor 5])))))
noncomputable def b9:FS:=aq 3 5 none fu
abbrev fE:=OkY "_law_from_low" ["many", "ties", "places"] 1 none b9
theorem jr(h:Has K mg "_law_from_low" (top 40) ["many", "ties", "places"])(T:Txt K mg):fE P w K mg base:=by
 trace "ȦǙ,ȧȀѭљXЌ#ЌдXќЦ#ǭbhȩȀг/u"
noncomputable def cw:SS:=(cT l8 5 (aG 8) (cc [(sOp gc [.ex (sOp gIx [.bor 4,.bor 6]),.ex (sOp gIx [.bor 4,.bor 7])]),(sOp dH [.ex (sOp gIx [.bor 4,.bor 6]),.ex (sOp gIx [.bor 4,.bor 7])])]))
noncomputable def bw:SS:=(cT eD 9 (sOp gIx [.bor 2,.bor 10]) (sOp gIx [.bor 4,.bor 10]))
noncomputable def kx:SS:=(al (aO 5 (vB (.dT [] []))) (al (gJ (jj [(aG 1),(aG 3)]) (.tp [(.tp [(.nm 6),(.nm 7)]),(.nm 8)]) cw) (al (aO 9 (sOp cC [.ex (cM [(sC (.int 0))]),.bor 0])) (al (gJ (ci (.bor 0)) (.nm 10) bw) (al (aO 11 (sOp fb [.ex (sOp dG [.ex (sOp cD [.bor 5])])])) (aF (cc [(cc [(aG 0),(aG 11)]),(cc [(sOp fb [.bor 9]),(sOp fb [.ex (aH 1 (aZ (aG 11)) (.nm 12) none (sOp mF [.bor 5,.bor 12]))])])])))))))
noncomputable def fg:FS:=aq 5 12 none kx
abbrev lH:=OkY "_law_put" ["many", "ties", "places", "numbers", "order"] 1 none fg
theorem pz(h:Has K mg "_law_put" (top 42) ["many", "ties", "places", "numbers", "order"])(T:Txt K mg):lH P w K mg base:=by
 trace "ȪǙдƵ,ǢȁлјǝNǝЛѝѝ+ȫ2Ѐǭўў&Ǖǫўў&Ǔǟ]G#е1Ǔ%,ǢфǦ+ǮЌЌǟ]ǠSǴSǥД&hЀћјǕЀǠbǕǠSȬȭгȮu&ǓǓ"
noncomputable def fO:SS:=(aF (ck (af none none dM [.bor 0]) (cN gLe gLe (aG 1) (aG 0) (aG 2))))
noncomputable def cE:FS:=aq 3 3 none fO
abbrev gt:=OkY "whole_within" ["thing", "least", "most"] 2 none cE
theorem j4(h:Has K mg "whole_within" (top 2) ["thing", "least", "most"])(T:Txt K mg)(G3:iu P w K mg base):gt P w K mg base:=by
 trace "ȯЂCƶb>Ȃ222"
noncomputable def eX:SS:=(al (bM (sOr (dg (cy (.ex (sOp (ip "tuple") [.bor 1])))) (bE gEq [.ex (sOp bH [.bor 1]),.ex (sC (.int 0))])) (aF (sC (.bl false))) cp) (aF (ck (sOp gIn [.ex (cc [(sOp gIx [.bor 1,.ex (sC (.int 0))]),(sOp bG [.ex (sOp bH [.bor 1]),.ex (sC (.int 1))])]),.bor 0]) (sOp nU [.ex (aH 1 (aZ (sOp wZ [.bor 1,.ex (sC (.int 1))])) (.nm 2) none (af none none dM [.bor 2]))]))))
noncomputable def bU:FS:=aq 2 2 none eX
abbrev i9:=OkY "bar_formed" ["forms", "thing"] 2 none bU
theorem lT(h:Has K mg "bar_formed" (top 6) ["forms", "thing"])(T:Txt K mg)(G3:iu P w K mg base):i9 P w K mg base:=by
 trace "ȰХџǧ%DǛЦRѠCȱ#Ѐ{Ǖ/ЦRǓ%>ǵSȲȳЪȴeЃƹД"
noncomputable def iK:SS:=(aF (sOp fb [.ex (aH 1 (aZ (af none none eA [.bor 0])) (.nm 1) none (sOp bH [.bor 1]))]))
noncomputable def cG:FS:=aq 1 1 none iK
abbrev fk:=OkY "tie_counts" ["web"] 2 none cG
theorem lQ(h:Has K mg "tie_counts" (top 12) ["web"])(T:Txt K mg)(G24:gR P w K mg base):fk P w K mg base:=by
 trace "ȃЂǠSȵȶЪƺbЃǡД"
noncomputable def jH:SS:=(aF (aH 2 (jj [(af none none cP [.bor 0,.ex (sOp gIx [.bor 1,.ex (sC (.int 0))])]),(sOp gIx [.bor 1,.ex (sC (.int 1))])]) (.tp [(.nm 2),(.nm 3)]) none (sOp ay [.bor 2,.bor 3])))
noncomputable def cW:FS:=aq 2 2 none jH
abbrev gu:=OkY "totals_by" ["web", "numbering"] 2 none cW
theorem nE(h:Has K mg "totals_by" (top 17) ["web", "numbering"])(T:Txt K mg)(G2:fo P w K mg base):gu P w K mg base:=by
 trace "ȷЂȸȹǚȁǕľpЊǕ{Ǔљ8u"
noncomputable def jI:SS:=(aF (cc [(aG 1),(af none none bd [.bor 2,.ex (af none none cP [.bor 0,.bor 1])])]))
noncomputable def dW:FS:=aq 3 3 none jI
abbrev jV:=OkY "filled_to" ["web", "numbers", "total"] 2 none dW
theorem nF(h:Has K mg "filled_to" (top 25) ["web", "numbers", "total"])(T:Txt K mg)(G16:dz P w K mg base)(G2:fo P w K mg base):jV P w K mg base:=by
 trace "ȺЂћǕŢШľѡǓ"
abbrev cZ:=OkY "_law_draw" ["pen", "many"] 2 (some 0) ax
theorem nJ(h:Has K mg "_law_draw" (top 36) ["pen", "many"])(T:Txt K mg)(G7:jW P w K mg base):cZ P w K mg base:=by
 trace "ȻХǛЕR]?Е%,ǮIЕ%1ǟ+ȄǟĊ,ǮţSXţЊR&1ǟh?#IЕR%"
noncomputable def fq:SS:=(aF (ck (sOp nU [.ex (aH 1 (aZ (aG 0)) (.nm 3) none (af none none cE [.bor 3,.bor 1,.bor 2]))]) (sOp gEq [.ex (sOp bH [.ex (sOp nS [.bor 0])]),.ex (sOp bH [.bor 0])])))
noncomputable def b6:FS:=aq 3 3 none fq
abbrev fB:=OkY "unlike_within" ["things", "least", "most"] 3 none b6
theorem jo(h:Has K mg "unlike_within" (top 3) ["things", "least", "most"])(T:Txt K mg)(G27:gt P w K mg base):fB P w K mg base:=by
 trace "ȼЂCǵSȽȾгƻpѡ>ǣѪSȅДЦ"
noncomputable def iG:SS:=(al (aO 1 (sOp ay [.ex (sOp cD [.ex (af none none cG [.bor 0])]),.ex (aH 1 (aZ (sOp gIx [.bor 0,.ex (sC (.int 1))])) (.nm 5) none (sC (.int 1)))])) (al (aO 2 (af none none br [.ex (sOp eQ [.bor 1])])) (al (aO 3 (af none none br [.ex (sOp dG [.bor 1])])) (al (aO 4 (sOp bH [.ex (sOp gIx [.bor 0,.ex (sC (.int 1))])])) (aF (cc [(sOp dI [.ex (sOp bG [.ex (sOp ay [.bor 2,.bor 4]),.ex (sC (.int 1))]),.bor 4]),(sOp dI [.bor 3,.bor 4])]))))))
noncomputable def dl:FS:=aq 1 5 none iG
abbrev i7:=OkY "total_span" ["web"] 3 none dl
theorem lM(h:Has K mg "total_span" (top 27) ["web"])(T:Txt K mg)(G17:fk P w K mg base)(G34:eT P w K mg base):i7 P w K mg base:=by
 trace "ȿЧXǥSŤД#ɀɁЪ{Ѓ1]ťSɂ%&]ťSǴД]ǡЊhЀI#/#ќe%ǕIuǓ"
noncomputable def bi:SS:=(al (aO 2 (sOp ay [.ex (sOp gIx [.bor 0,.ex (sC (.int 0))]),.ex (sOp bH [.ex (sOp gIx [.bor 0,.ex (sC (.int 1))])])])) (al (bM (sOr (bE gLt [.bor 1,.ex (sC (.int 2))]) (sOr (bE gNe [.ex (sOp ff [.ex (sOp bH [.ex (sOp gIx [.bor 0,.ex (sC (.int 1))])]),.bor 1]),.ex (sC (.int 0))]) (bE gEq [.ex (sOp ff [.ex (sOp dI [.ex (sOp cC [.bor 2,.ex (sOp ay [.bor 2,.ex (sC (.int 1))])]),.ex (sC (.int 2))]),.bor 1]),.ex (sC (.int 0))]))) (aF (sC (.bl false))) cp) (aF (sOp nU [.ex (aH 1 (aZ (af none none cG [.bor 0])) (.nm 3) none (sOp gEq [.ex (sOp ff [.ex (sOp bG [.bor 3,.ex (sC (.int 1))]),.bor 1]),.ex (sC (.int 0))]))]))))
noncomputable def aK:FS:=aq 2 3 none bi
abbrev dh:=OkY "share_bars_totals" ["web", "share"] 3 none aK
theorem fX(h:Has K mg "share_bars_totals" (top 30) ["web", "share"])(T:Txt K mg)(G17:fk P w K mg base):dh P w K mg base:=by
 trace "ɃЧX{х~Ѷşeċж?хeDǛ#?#Iу%ГReѠǵSɄɅЪŤbЃǣ#?#/ee&"
noncomputable def a8:SS:=(cU (cj 3 bR [(cj 2 kh [(af (some 0) (some 0) ax [.bor 0,.ex (sOp bH [.bor 2])])])]))
noncomputable def ft:SS:=(al (aO 2 (sOp cD [.ex (sOp jA [.bor 1])])) (al (aO 3 (cM [])) (al (cx 100 (bE gNe [.bor 2,.ex (cM [])]) a8) (fv 3))))
noncomputable def b7:FS:=aq 2 4 (some 0) ft
abbrev fC:=OkY "_law_order_of" ["pen", "many"] 3 (some 0) b7
theorem jp(h:Has K mg "_law_order_of" (top 37) ["pen", "many"])(T:Txt K mg)(G6:cZ P w K mg base):fC P w K mg base:=by
 trace "ɆЧǥSǳД]њ,ƼǨ%#њ+HǯɇŦШǡД+Ȅǟ"
noncomputable def bo:SS:=(al (cU (cj 2 bR [(cc [(aG 4),(aG 7)])])) (al (cU (cj 3 bR [(sOp gIx [.bor 5,.bor 6])])) (al (cT eD 5 (sOp bG [.ex (sOp ay [.ex (sOp gIx [.bor 5,.bor 6]),.ex (sC (.int 1))]),.ex (sOp cC [.ex (sC (.int 2)),.bor 6])]) (aG 6)) (bM (bE gEq [.ex (af (some 0) (some 0) ax [.bor 0,.ex (sC (.int 3))]),.ex (sC (.int 0))]) (al (aO 4 (aG 7)) (aO 6 (sOp bG [.ex (sC (.int 1)),.bor 6]))) cp))))
noncomputable def iM:SS:=(al (aO 2 (cM [])) (al (aO 3 (cM [(sC (.int 0))])) (al (aO 4 (sC (.int 0))) (al (aO 5 (cM [(sC (.int 1)),(aG 1)])) (al (aO 6 (sC (.int 1))) (al (gJ (eK (.ex (sC (.int 1))) (.ex (sOp ay [.bor 1,.ex (sC (.int 1))]))) (.nm 7) bo) (aF (cc [(sOp ay [.bor 1,.ex (sC (.int 1))]),(aG 2),(aG 3)]))))))))
noncomputable def du:FS:=aq 2 8 (some 0) iM
abbrev ja:=OkY "_law_spine" ["pen", "last"] 3 (some 0) du
theorem lU(h:Has K mg "_law_spine" (top 38) ["pen", "last"])(T:Txt K mg)(G6:cZ P w K mg base):ja P w K mg base:=by
 trace "ɈЧњ]е1Ǔ]1]е1ј]1,ǢǹѬSи&Ǧ,Hǯћј,HǯЌ,Ǯ/#XM%eуR%2ǟ+ĩǛ#ŦѲR]2+ǻ/R%ЭЀилј"
noncomputable def jJ:SS:=(aF (ck (sOp gEq [.ex (sOp bH [.bor 0]),.bor 1]) (af none none b6 [.bor 0,.ex (sC (.int 1)),.bor 1])))
noncomputable def cX:FS:=aq 2 2 none jJ
abbrev gw:=OkY "each_once" ["things", "most"] 4 none cX
theorem nG(h:Has K mg "each_once" (top 4) ["things", "most"])(T:Txt K mg)(G31:fB P w K mg base):gw P w K mg base:=by
 trace "ɉЂCǣЦ%>ƽѾb"
noncomputable def cr:SS:=(al (bM (dg (cy (.ex (af none none bU [.ex (sC bI),.bor 1])))) (aF (sC (.bl false))) cp) (al (bM (bE gEq [.ex (sOp gIx [.bor 1,.ex (sC (.int 0))]),.ex (sC (.str "ties"))]) (aF (sOp gGt [.ex (sOp bH [.ex (sOp gIx [.bor 0,.ex (sC (.int 1))])]),.ex (sOp bG [.ex (sOp cC [.ex (sC (.int 2)),.ex (sOp gIx [.bor 0,.ex (sC (.int 0))])]),.ex (sC (.int 3))])])) cp) (aF (af none none aK [.bor 0,.ex (sOp gIx [.bor 1,.ex (sC (.int 1))])]))))
noncomputable def au:FS:=aq 2 2 none cr
abbrev dY:=OkY "total_bar_holds" ["web", "thing"] 4 none au
theorem ic(h:Has K mg "total_bar_holds" (top 29) ["web", "thing"])(T:Txt K mg)(G14:i9 P w K mg base)(G37:dh P w K mg base):dY P w K mg base:=by
 trace "ǤХАƾSɊbѢ~ǛЕ#ĉhŧх#/уRЕRЭƿpЊ"
noncomputable def a9:SS:=(cU (cj 4 bR [(sOp gIx [.ex (cM [(sOp ay [.bor 7,.ex (sC (.int 1))]),(sOp bG [.ex (sOp ay [.ex (sOp ay [.bor 2,.bor 6]),.ex (sC (.int 1))]),.bor 7])]),.ex (sOp ud [.ex (sOp gGt [.bor 7,.bor 6])])])]))
noncomputable def bx:SS:=(al (bM (bE gEq [.ex (af (some 0) (some 0) ax [.bor 0,.ex (sC (.int 2))]),.ex (sC (.int 0))]) (aO 4 (aH 1 (aZ (aG 4)) (.nm 8) none (sOp bG [.ex (sOp ay [.bor 2,.ex (sC (.int 1))]),.bor 8]))) cp) (aF (cc [(aG 2),(aG 3),(aG 4),(af none none b9 [.bor 2,.bor 3,.bor 4])])))
noncomputable def df:SS:=(al (bM (bE gEq [.ex (af (some 0) (some 0) ax [.bor 0,.ex (sC (.int 3))]),.ex (sC (.int 0))]) (al (aO 2 (sOp gIx [.ex (cM [(sC (.int 3)),(sC (.int 5)),(sC (.int 7)),(sC (.int 9)),(sC (.int 11))]),.ex (af (some 0) (some 0) ax [.bor 0,.ex (sC (.int 5))])])) (al (aO 3 (sOp ay [.ex (aH 1 (ci (.ex (sOp bG [.bor 2,.ex (sC (.int 1))]))) (.nm 8) none (cc [(aG 8),(sOp ay [.bor 8,.ex (sC (.int 1))])])),.ex (cM [(cc [(sC (.int 0)),(sOp bG [.bor 2,.ex (sC (.int 1))])])])])) (aO 4 (aH 1 (ci (.bor 2)) (.nm 8) none (sOp ay [.ex (sOp ay [.ex (sOp dI [.bor 8,.ex (sC (.int 2))]),.ex (sC (.int 1))]),.ex (sOp cC [.ex (sOp dI [.ex (sOp ay [.bor 2,.ex (sC (.int 1))]),.ex (sC (.int 2))]),.ex (sOp ff [.bor 8,.ex (sC (.int 2))])])]))))) (al (g8 (.tp [(.nm 2),(.nm 3),(.nm 5)]) (af (some 0) (some 0) du [.bor 0,.ex (sOp ay [.ex (sC (.int 1)),.ex (af (some 0) (some 0) ax [.bor 0,.bor 1])])])) (al (aO 6 (sOp dH [.ex (aH 2 (aZ (aG 3)) (.tp [(.nm 8),(.nm 9)]) none (sOp gc [.ex (sOp gIx [.bor 5,.bor 8]),.ex (sOp gIx [.bor 5,.bor 9])]))])) (al (aO 4 (cM [])) (gJ (aZ (aG 5)) (.nm 7) a9))))) bx)
noncomputable def b8:FS:=aq 2 8 (some 0) df
abbrev fD:=OkY "_law_low_made" ["pen", "most"] 4 (some 0) b8
theorem jq(h:Has K mg "_law_low_made" (top 41) ["pen", "most"])(T:Txt K mg)(G6:cZ P w K mg base)(G13:ja P w K mg base)(G28:fE P w K mg base):fD P w K mg base:=by
 trace "ɋХǛцRдM#е1Ǖ1Ǖ1Ǖ1Ǖ1Ǔц]XɌǰǚǽS/e&ЃћǕиǓ#еЀ1Ǖ/eǓǓ+ɍǰǚфЃXXIeRу#IГR#?e,ČǁШ8RҀѡǝNǬЛNǬļ]ǫSɎǰѭљǭўў&&]њ+ǢĻ2Ǧ+HǯM#еиǕ/#Xќe%Ǔ#ǼSŧu&~ǛцR+ɏǰг/Г%ЭћллǕǂpWǓ"
noncomputable def dR:SS:=(al (g8 (.tp [(.nm 2),(.nm 3)]) (af none none dl [.bor 0])) (aF (cN gLe gLe (aG 2) (aG 1) (aG 3))))
noncomputable def be:FS:=aq 2 4 none dR
abbrev dZ:=OkY "_law_span_holds" ["web", "total"] 4 none be
theorem ie(h:Has K mg "_law_span_holds" (top 44) ["web", "total"])(T:Txt K mg)(G20:i7 P w K mg base):dZ P w K mg base:=by
 trace "ɐǙ,ČǃbǝЛѝhȂ222"
noncomputable def iH:SS:=(al (bM (sOr (dg (cy (.ex (sOp (ip "tuple") [.bor 1])))) (bE gNe [.ex (sOp bH [.bor 1]),.ex (sC (.int 2))])) (aF (sC (.bl false))) cp) (al (aO 2 (sOp gIx [.bor 1,.ex (sC (.int 0))])) (al (aO 3 (sOp gIx [.bor 1,.ex (sC (.int 1))])) (al (bM (sOr (dg (cy (.ex (sOp (ip "tuple") [.bor 2])))) (sOr (dg (cy (.ex (sOp (ip "tuple") [.bor 3])))) (bE gNe [.ex (sOp bH [.bor 2]),.ex (sOp gIx [.bor 0,.ex (sC (.int 0))])]))) (aF (sC (.bl false))) cp) (aF (ck (af none none cX [.ex (sOp ay [.bor 2,.bor 3]),.ex (sOp ay [.ex (sOp gIx [.bor 0,.ex (sC (.int 0))]),.ex (sOp bH [.ex (sOp gIx [.bor 0,.ex (sC (.int 1))])])])]) (sOp gEq [.ex (sOp bH [.ex (sOp nS [.ex (af none none cW [.bor 0,.bor 1])])]),.ex (sC (.int 1))])))))))
noncomputable def bB:FS:=aq 2 4 none iH
abbrev dy:=OkY "total_good" ["web", "thing"] 5 none bB
theorem lO(h:Has K mg "total_good" (top 16) ["web", "thing"])(T:Txt K mg)(G8:gw P w K mg base)(G10:gu P w K mg base):dy P w K mg base:=by
 trace "ɑХџǧ%DǨЦRѢ]{]{~џǧ%ċАǧ%DǨЦЕѠCŨS8uSX{х&>ǣѪSȅSũѡ&R"
noncomputable def kt:SS:=(al (bM (sOr (dg (cy (.ex (sOp (ip "tuple") [.bor 1])))) (dg (cy (.ex (af none none cX [.bor 1,.ex (sOp gIx [.bor 0,.ex (sC (.int 0))])]))))) (ky "NoNumber") cp) (al (aO 2 (af none none cP [.bor 0,.bor 1])) (al (aO 3 (sOp bH [.bor 2])) (al (aO 4 (sOp gc [.bor 2])) (al (bM (bE gNe [.ex (sOp dG [.bor 2]),.ex (sOp cD [.ex (sOp jA [.bor 4,.ex (sOp ay [.bor 4,.bor 3])])])]) (aF (sC .non)) cp) (aF (af none none dW [.bor 0,.bor 1,.ex (sOp ay [.ex (sOp ay [.bor 4,.ex (sOp gIx [.bor 0,.ex (sC (.int 0))])]),.bor 3])])))))))
noncomputable def dL:FS:=aq 2 5 none kt
abbrev lG:=OkY "low_by" ["web", "numbers"] 5 none dL
theorem tQ(h:Has K mg "low_by" (top 24) ["web", "numbers"])(T:Txt K mg)(G8:gw P w K mg base)(G2:fo P w K mg base)(G9:jV P w K mg base)(R_NoNumber:jd K mg base "NoNumber"):lG P w K mg base:=by
 trace "ɒХџǧ%DАŨpЊ+ǶĊ]ľW]ǡb]ǭb~жǴb#ǥSǳШ8u&&hǄЭǅpШXќЕ%&"
noncomputable def iJ:SS:=(aF (aH 1 (aZ (sOp ay [.ex (af none none dq [.ex (sOp bH [.ex (sOp gIx [.bor 0,.ex (sC (.int 1))])])]),.ex (cM [(cc [(sC (.str "ties"))])])])) (.nm 1) (some (cy (.ex (af none none au [.bor 0,.bor 1])))) (aG 1)))
noncomputable def cF:FS:=aq 1 1 none iJ
abbrev fj:=OkY "total_bars" ["web"] 5 none cF
theorem lP(h:Has K mg "total_bars" (top 31) ["web"])(T:Txt K mg)(G15:i8 P w K mg base)(G36:dY P w K mg base):fj P w K mg base:=by
 trace "ȃЂɓɔЪXǆSǡЊ&#еЀĉǓǓѯǜȆѱǇWǜ2"
noncomputable def aU:SS:=(al (bM (bE gEq [.ex (af (some 0) (some 0) ax [.bor 0,.ex (sC (.int 3))]),.ex (sC (.int 0))]) (al (aO 8 (sOp ay [.ex (sOp ay [.bor 4,.ex (sOp bH [.bor 5])]),.ex (sC (.int 1))])) (al (aO 7 (aH 1 (aZ (aG 7)) (.nm 9) none (sOp bG [.bor 8,.bor 9]))) (aO 6 (aH 1 (aZ (aG 6)) (.nm 9) none (sOp bG [.bor 8,.bor 9]))))) cp) (aF (af none none fg [.bor 4,.bor 5,.bor 7,.bor 6,.ex (af (some 0) (some 0) b7 [.bor 0,.bor 4])])))
noncomputable def eh:SS:=(al (bM (bE gEq [.ex (af (some 0) (some 0) ax [.bor 0,.ex (sC (.int 3))]),.ex (sC (.int 0))]) (al (aO 2 (sOp ay [.ex (sC (.int 1)),.ex (af (some 0) (some 0) ax [.bor 0,.ex (sC (.int 4))])])) (al (aO 3 (sOp ay [.ex (sC (.int 1)),.ex (af (some 0) (some 0) ax [.bor 0,.ex (sC (.int 5))])])) (al (g8 (.tp [(.nm 4),(.nm 5),(.nm 6)]) (af none none dv [.bor 2,.bor 3])) (al (aO 7 (sOp ay [.ex (aH 1 (ci (.bor 2)) (.nm 9) none (sOp cC [.ex (sOp ay [.bor 9,.ex (sC (.int 1))]),.ex (sOp ay [.bor 3,.ex (sC (.int 1))])])),.ex (aH 1 (ci (.bor 3)) (.nm 9) none (sOp ay [.bor 9,.ex (sC (.int 1))]))])) (aO 6 (aH 2 (aZ (aG 5)) (.tp [(.nm 9),(.nm 10)]) none (sOp bG [.ex (sOp bG [.ex (sOp cC [.ex (sOp ay [.bor 2,.ex (sC (.int 2))]),.ex (sOp ay [.bor 3,.ex (sC (.int 1))])]),.ex (sOp gIx [.bor 7,.bor 9])]),.ex (sOp gIx [.bor 7,.bor 10])]))))))) (g8 (.tp [(.nm 4),(.nm 5),(.nm 7),(.nm 6)]) (af (some 0) (some 0) b8 [.bor 0,.bor 1]))) aU)
noncomputable def cR:FS:=aq 2 9 (some 0) eh
abbrev gU:=OkY "_law_totals" ["pen", "most"] 5 (some 0) cR
theorem kU(h:Has K mg "_law_totals" (top 43) ["pen", "most"])(T:Txt K mg)(G6:cZ P w K mg base)(G12:jb P w K mg base)(G29:fD P w K mg base)(G1:lH P w K mg base)(G30:fC P w K mg base):gU P w K mg base:=by
 trace "ɕХǛцRд8Rцд8Rц,ČǈWǝЛЛѝдXɖǩǚфЃGГГ#ɗǩǚфЃи+ɘǩѭљ/#/уГГ#Ќ#Ќ+ČǉWǝЛЛNǬѝ~ǛцRдXќЦRдəǩг/u+ɚǩг/uЭǊpppШǋѡ"
noncomputable def kr:SS:=(aF (ck (af none none bB [.bor 0,.bor 1]) (sOp gEq [.ex (sOp dH [.ex (sOp gIx [.bor 1,.ex (sC (.int 0))])]),.ex (sOp gIx [.bor 0,.ex (sC (.int 0))])])))
noncomputable def cg:FS:=aq 2 2 none kr
abbrev fm:=OkY "low_good" ["web", "thing"] 6 none cg
theorem pj(h:Has K mg "low_good" (top 19) ["web", "thing"])(T:Txt K mg)(G19:dy P w K mg base):fm P w K mg base:=by
 trace "ǤЂCĿW>ǣ#ǫЊЕ"
noncomputable def gN:SS:=(bM (dg (cy (.ex (af none none bB [.bor 0,.bor 1])))) (ky "NoNumber") cp)
noncomputable def b5:FS:=aq 2 2 none gN
abbrev eB:=OkY "check_total" ["web", "thing"] 6 none b5
theorem kS(h:Has K mg "check_total" (top 21) ["web", "thing"])(T:Txt K mg)(G19:dy P w K mg base)(R_NoNumber:jd K mg base "NoNumber"):eB P w K mg base:=by
 trace "ǤǙ+ĩАĿW+ǶĊ"
noncomputable def kq:SS:=(al (cU (af none none b5 [.bor 0,.bor 1])) (aF (sOp gIx [.ex (af none none cW [.bor 0,.bor 1]),.ex (sC (.int 0))])))
noncomputable def bP:FS:=aq 2 2 none kq
abbrev ir:=OkY "total_of" ["web", "thing"] 7 none bP
theorem pi(h:Has K mg "total_of" (top 20) ["web", "thing"])(T:Txt K mg)(G23:eB P w K mg base)(G10:gu P w K mg base):ir P w K mg base:=by
 trace "ǤǙ,HŪWhM#ũWR"
noncomputable def eG:SS:=(al (cU (af none none b5 [.bor 0,.bor 1])) (aF (sOp fb [.ex (aH 1 (aZ (aG 1)) (.nm 2) none (af none none bd [.ex (sOp ay [.ex (sOp ay [.ex (sOp gIx [.bor 0,.ex (sC (.int 0))]),.ex (sOp bH [.ex (sOp gIx [.bor 0,.ex (sC (.int 1))])])]),.ex (sC (.int 1))]),.bor 2]))])))
noncomputable def aW:FS:=aq 2 2 none eG
abbrev eU:=OkY "opposite_total" ["web", "thing"] 7 none aW
theorem iR(h:Has K mg "opposite_total" (top 22) ["web", "thing"])(T:Txt K mg)(G23:eB P w K mg base)(G16:dz P w K mg base):eU P w K mg base:=by
 trace "ǤǙ,HŪWhǠSɛɜгǌSXX{хRД"
noncomputable def fP:SS:=(al (bM (dg (cy (.ex (af none none cg [.bor 0,.bor 1])))) (ky "NoNumber") cp) (aF (af none none dL [.bor 0,.ex (af none none bd [.ex (sOp ay [.ex (sOp gIx [.bor 0,.ex (sC (.int 0))]),.ex (sC (.int 1))]),.ex (sOp gIx [.bor 1,.ex (sC (.int 0))])])])))
noncomputable def bt:FS:=aq 2 2 none fP
abbrev gv:=OkY "low_opposite" ["web", "thing"] 7 none bt
theorem j5(h:Has K mg "low_opposite" (top 26) ["web", "thing"])(T:Txt K mg)(G4:fm P w K mg base)(G0:lG P w K mg base)(G16:dz P w K mg base)(R_NoNumber:jd K mg base "NoNumber"):gv P w K mg base:=by
 trace "ǤХАĪW+ǶЭŀШŢSX{RЊ&"
noncomputable def eJ:SS:=(al (aO 2 (af none none bt [.bor 0,.bor 1])) (al (bM (sOr (dg (cy (.ex (af none none cg [.bor 0,.bor 2])))) (sOr (bE gNe [.ex (af none none dL [.bor 0,.ex (sOp gIx [.bor 1,.ex (sC (.int 0))])]),.bor 1]) (bE gNe [.ex (af none none dL [.bor 0,.ex (sOp gIx [.bor 2,.ex (sC (.int 0))])]),.bor 2]))) (aF (sC (.bl false))) cp) (al (bM (bE gNe [.ex (sOp ay [.ex (af none none bP [.bor 0,.bor 1]),.ex (af none none bP [.bor 0,.bor 2])]),.ex (sOp ay [.ex (sOp ay [.ex (sOp cC [.ex (sC (.int 4)),.ex (sOp gIx [.bor 0,.ex (sC (.int 0))])]),.ex (sOp bH [.ex (sOp gIx [.bor 0,.ex (sC (.int 1))])])]),.ex (sC (.int 3))])]) (aF (sC (.bl false))) cp) (aF (ck (sOp lf [.ex (cc [(sC (.str "ties"))]),.ex (af none none cF [.bor 0])]) (sOp gEq [.ex (af none none bt [.bor 0,.bor 2]),.bor 1]))))))
noncomputable def bu:FS:=aq 2 3 none eJ
abbrev eV:=OkY "_law_low_right" ["web", "good"] 8 none bu
theorem iS(h:Has K mg "_law_low_right" (top 45) ["web", "good"])(T:Txt K mg)(G26:gv P w K mg base)(G4:fm P w K mg base)(G0:lG P w K mg base)(G5:ir P w K mg base)(G18:fj P w K mg base):eV P w K mg base:=by
 trace "ɝЧūW~џĪWċжŀpЊ%DжŀpЊ%Ѣ~жXčW#čW#XXGRЕхRѠCɞ#ЀĉǓ#Ŭb>ǣ#ūW%"
noncomputable def cv:SS:=(al (aO 2 (af none none bP [.bor 0,.bor 1])) (al (aO 3 (af none none aW [.bor 0,.bor 1])) (al (bM (sOr (dg (cy (.ex (af none none bB [.bor 0,.bor 3])))) (sOr (dg (cy (.ex (af none none be [.bor 0,.bor 2])))) (dg (cy (.ex (af none none be [.bor 0,.ex (af none none bP [.bor 0,.bor 3])])))))) (aF (sC (.bl false))) cp) (al (bM (sOr (bE gNe [.ex (sOp ay [.bor 2,.ex (af none none bP [.bor 0,.bor 3])]),.ex (sOp cC [.ex (sC (.int 3)),.ex (sOp ay [.ex (sOp ay [.ex (sOp gIx [.bor 0,.ex (sC (.int 0))]),.ex (sOp bH [.ex (sOp gIx [.bor 0,.ex (sC (.int 1))])])]),.ex (sC (.int 1))])])]) (bE gNe [.ex (af none none aW [.bor 0,.bor 3]),.bor 1])) (aF (sC (.bl false))) cp) (al (bM (bE gNe [.ex (aH 1 (aZ (af none none cF [.bor 0])) (.nm 4) (some (bE gNe [.bor 4,.ex (cc [(sC (.str "ties"))])])) (aG 4)),.ex (cM [])]) (aF (sC (.bl false))) cp) (al (bM (jl (cy (.ex (af none none cg [.bor 0,.bor 3]))) (dg (cy (.ex (af none none bu [.bor 0,.bor 3]))))) (aF (sC (.bl false))) cp) (aF (jk (fx (af none none cg [.bor 0,.bor 1])) (af none none bu [.bor 0,.bor 1])))))))))
noncomputable def bC:FS:=aq 2 4 none cv
abbrev jc:=OkY "_law_right" ["web", "good"] 9 none bC
theorem lW(h:Has K mg "_law_right" (top 46) ["web", "good"])(T:Txt K mg)(G5:ir P w K mg base)(G33:eU P w K mg base)(G19:dy P w K mg base)(G35:dZ P w K mg base)(G18:fj P w K mg base)(G4:fm P w K mg base)(G32:eV P w K mg base):jc P w K mg base:=by
 trace "ɟЧčW]ŭW~џĿWċАŮWDАŮШčѡѢ~Ѷжќ#čWуR#XX{хRDжŭW%Ѣ~жɠɡЪŬbѯǜȆǨ%#ЀĉǓǜ2#њѢ~ŠǍѱĪWǎАůWѠǏŞĪW>ůW"
noncomputable def kb:SS:=(al (g8 (.tp [(.nm 2),(.nm 3)]) (kC cR (af none none bJ [.bor 1]) [.ex (sC (.int 24))])) (bM (dg (cy (.ex (af none none bC [.bor 2,.bor 3])))) (aF (sC (.bl false))) cp))
noncomputable def vA:SS:=(al (gJ (aZ (sOp ay [.ex (cM [(af none none aY [.bor 0,.ex (sC (.int 0))])]),.ex (sOp (zE 1 5) [.bor 0])])) (.nm 1) kb) (aF (sC (.bl true))))
noncomputable def pZ:FS:=aq 1 4 none vA
theorem ok_law{f0:Addr}{fd0:FuncData}(h:Fun K "law" "law" (top 47) f0 fd0)(T:Txt K mg)(G25:gy P w K mg base)(G22:gU P w K mg base)(G21:gW P w K mg base)(G11:jc P w K mg base):jE P w K mg base (CXr P w) 10 f0 fd0 ["script"] (spF K none pZ):=by
 trace "ɢǙ,ǢĻXеǐѲǓ#ɣ%Ǧ,ČɤǑbѬ&ǝЛѝ+ĩАǒWѠš"
end
end K52
namespace K52
open PySem L2
theorem mY{i:Int}:dM [.int i]=some (.ok (.bl true) false,.non):=by
 unfold dM ku
 trace "d@)ѥO)UP"
theorem u7{i lo hi:Int}:cE [.int i,.int lo,.int hi]=some (.ok (.bl (decide (lo<=i)&&decide (i<=hi))) false,.non):=by
 have h := @mY;unfold cE fO
 trace "d@wďQŁ'6!'6ЮЯP"
def mV(ns:List Int)(lo hi:Int):Bool:=(ns.map fun i=>decide (lo<=i)&&decide (i<=hi)).all id&&decide (((dd ns).length:Int)=ns.length)
theorem u8{ns:List Int}{lo hi:Int}(hl:ns.length<=1000):b6 [.tup (nD ns),.int lo,.int hi]=some (.ok (.bl (mV ns lo hi)) false,.non):=by
 have h := @u7;unfold b6 fq
 trace "dłмĐǞЗъďP$ǱЍTȇǖ$Ȉǖnđ$ǲP"
def qO(ns:List Int)(m:Int):Bool:=decide ((ns.length:Int)=m)&&mV ns 1 m
theorem vc{ns:List Int}{m:Int}(hl:ns.length<=1000):cX [.tup (nD ns),.int m]=some (.ok (.bl (qO ns m)) false,.non):=by
 have h:=u8 (ns:=ns) (lo:=1) (hi:=m) hl;unfold cX jJ
 trace "dłmTđVǲzrUEЄ"
theorem tP{ns:List Int}{n:Nat}(h:ns.Perm (rgI 1 n)):qO ns (n:Nat)=true:=by
 unfold qO mV
 have hl:ns.length=n:=by rw [h.length_eq,aj]
 rw [Ba (by omega),i6 (h.nodup_iff.mpr (aJ _ _)),Ba rfl];simp only [Cn,Cb,List.all_map,Bg];intro x hx;have:=ak.mp (h.mem_iff.mp hx);simp;omega
structure We(n:Nat)(ts:List (Int×Int)):Prop where
 r:∀ t∈ts,0<=t.1/\t.1 < n/\0<=t.2/\t.2 < n
 l:ts.length<=60
 n:n<=40
theorem vh{n:Nat}{m:Int}{ts:List (Int×Int)}(W:We n ts){ps:List Int}(hp:ps.length=n):cP [bL m ts,.tup (nD ps)]=some (.ok (.lst (nD (ts.map (smT ps)))) true,.non):=by
 have h1:∀ t∈ts,gIx [.tup (nD ps),.int t.1]=some (.int (ps.getD t.1.toNat 0),false):=fun t ht=>pU (W.r t ht).1 (by have:=W.r t ht;omega)
 have h2:∀ t∈ts,gIx [.tup (nD ps),.int t.2]=some (.int (ps.getD t.2.toNat 0),false):=fun t ht=>pU (W.r t ht).2.2.1 (by have:=W.r t ht;omega)
 unfold cP kw
 trace "dfcѣPИнĒǖЅēǖYЄ"
theorem t_from{w:Int}{l:List Int}:bd [.int w,.lst (nD l)]=some (.ok (.tup (nD (l.map fun x=>w - x))) false,.non):=by
 unfold bd eW
 trace "dмМPа"
abbrev thD(ps us:List Int):D:= .tup [.tup (nD ps),.tup (nD us)]
theorem vg{n:Nat}{m:Int}{ts:List (Int×Int)}(W:We n ts){ps:List Int}(hp:ps.length=n){c:Int}:dW [bL m ts,.tup (nD ps),.int c]=some (.ok (thD ps ((ts.map (smT ps)).map fun x=>c - x)) false,.non):=by
 have h:=vh (m:=m) W hp
 have g := @t_from
 unfold dW jI
 trace "dІzjEЮŃЫP"
def zn(n:Nat)(ts:List (Int×Int))(ps:List Int):D:=if aC (ts.map (smT ps))=rgI (fG (ts.map (smT ps))) ts.length then thD ps (pY n ts ps (fG (ts.map (smT ps)))) else .non
theorem vf{n:Nat}{ts:List (Int×Int)}(W:We n ts){ps:List Int}(hp:ps.Perm (rgI 1 n))(ne:ts≠[]):dL [bL (n:Nat) ts,.tup (nD ps)]=some (.ok (zn n ts ps) false,.non):=by
 have hl:ps.length=n:=by rw [hp.length_eq,aj]
 have wn:=W.n;have wl:=W.l;have o:=vc (ns:=ps) (m:=(n:Nat)) (by omega);rw [tP hp] at o;have e:=vh (m:=(n:Nat)) W hl
 have ne':ts.map (smT ps)≠[]:=by simpa using ne
 have mb : -1000<=fG (ts.map (smT ps))/\fG (ts.map (smT ps))<=1000:=by
  obtain ⟨t,ht,et⟩:=Bn.mp (iV ne').1;have r:=W.r t ht;have a1:=ak.mp (hp.mem_iff.mp (cB (l:=ps) (i:=t.1.toNat) (by omega)));have a2:=ak.mp (hp.mem_iff.mp (cB (l:=ps) (i:=t.2.toNat) (by omega)));rw [<- et];unfold smT;omega
 have gm:=lm ne'
 have gl:bH [.lst (nD (ts.map (smT ps)))]=some (.int (ts.length:Nat),false):=by rw [gG,AO]
 have gs:dG [.lst (nD (ts.map (smT ps)))]=some (.lst (nD (aC (ts.map (smT ps)))),true):=jQ (by rw [AO];omega)
 generalize hL:fG (ts.map (smT ps))=L at *
 have gr:cD [.rng L (L+(ts.length:Nat))]=some (.lst (nD (rgI L ts.length)),true):=by
  rw [jB (by omega) (by omega) (by omega) (by omega) (by omega),show (L+(ts.length:Nat) - L).toNat=ts.length by omega]
 have f:=vg (m:=(n:Nat)) W hl (c:=L+(n:Nat)+(ts.length:Nat));unfold zn;rw [hL]
 by_cases h:aC (ts.map (smT ps))=rgI L ts.length
 ·have gn:gNe [.lst (nD (aC (ts.map (smT ps)))),.lst (nD (rgI L ts.length))]=some (.bl false,false):=by rw [lh,Ba h];rfl
  rw [if_pos h];unfold dL kt
  trace "tыбYьэĬЁsZ3БcTĕВcTAiз(nĖЉЅ^$ĀоНщЉКYUYŅЄ"
 ·have gn:gNe [.lst (nD (aC (ts.map (smT ps)))),.lst (nD (rgI L ts.length))]=some (.bl true,false):=by rw [lh,Bk h];rfl
  rw [if_neg h];unfold dL kt
  trace "tыбYьэĬЁsZ3БcTĕВcTAiėā(nĖЉЅ^$Āо!-4P"
end K52
namespace K52
open PySem L2
theorem gEq_th(ps us:List Int):gEq [thD ps us,thD ps us]=some (.bl true,false):=by
 have e:ac 9 (thD ps us)=true:=by
  unfold ac
  show (ac 8 (.tup (nD ps))&&(ac 8 (.tup (nD us))&&true))=true
  rw [dX,dX];rfl
 show (if (ac 9 (thD ps us)&&ac 9 (thD ps us))=true then some (D.bl (eqD (thD ps us) (thD ps us)),false) else none)=_
 rw [e,show eqD (thD ps us) (thD ps us)=true from gf 9 e];rfl
end K52
namespace K52
open PySem L2
end K52
namespace K52
open PySem L2
section
variable{n:Nat}{ts:List (Int×Int)}
abbrev rp(ps:List Int)(sp:Nat)(d:D):List D:=nD (ps.take sp)++[d]++nD (ps.drop (sp+1))
end
end K52
namespace K52
open PySem L2
section
variable{n:Nat}{ts:List (Int×Int)}
end
end K52
namespace K52
open PySem L2
section
variable{x1:Option (D×Md)}
abbrev sOc:ST:=bE gNe [.bor 2,.ex (cM [])]
theorem mr{α β:Type}{f:α->β}:∀ (l:List α) (k:Nat),(l.map f).eraseIdx k=(l.eraseIdx k).map f
 | [],_=>by simp
 | _::_,0=>rfl
 | a::l,k+1=>by
  show f a::(l.map f).eraseIdx k=f a::(l.eraseIdx k).map f
  rw [mr l k]
theorem kM{α:Type}:∀ (l:List α) (k:Nat) (h:k < l.length),((l[k]'h)::l.eraseIdx k).Perm l
 | [],_,h=>absurd h (Nat.not_lt_zero _)
 | _::_,0,_=> .refl _
 | a::l,k+1,h=>((List.Perm.swap a _ _).trans (List.Perm.cons a (kM l k (by simpa using h))))
theorem pop_at{l:List Int}{k:Nat}(hk:k < l.length)(hl:l.length<=1000):kh (.lst (nD l)) [.int (k:Nat)]=some (.lst (nD (l.eraseIdx k)),.int (l[k]'hk)):=by
 have e:seqIndex? ((k:Nat):Int) (nD l).length=some k:=by
  rw [AO];unfold seqIndex?;simp;omega
 show (if (decide (-1000000000<=((k:Nat):Int)/\((k:Nat):Int)<=1000000000))=true then match seqIndex? ((k:Nat):Int) (nD l).length with
  | some k=>match (nD l)[k]? with
   | some d=>some (D.lst ((nD l).eraseIdx k),d)
   | none=>none
  | none=>none
  else none)=_
 rw [if_pos (Ba (by omega)),e]
 have g:(nD l)[k]?=some (.int (l[k]'hk)):=by rw [nD,Bf,AN hk];rfl
 have h:(nD l).eraseIdx k=nD (l.eraseIdx k):=mr l k;simp only [g,h]
theorem oE:∀ (m:Nat) (left found:List Int) (k:Nat) (P:Pn),left.length=m->m < k->found.length+m<=100->∃ (P':Pn) (os:List Int),os.Perm left/\cx k sOc a8 [some (pD P,.io),x1,some (.lst (nD left),.ow),some (.lst (nD found),.ow)]=some (.nx,[some (pD P',.io),x1,some (.lst (nD []),.ow),some (.lst (nD (found++os)),.ow)])
 | _,_,_,0,_,_,h,_=>absurd h (Nat.not_lt_zero _)
 | 0,left,found,k+1,P,hl,_,_=>by
  have:left=[]:=CP.mp hl;subst this;have c:sOc [some (pD P,.io),x1,some (.lst (nD []),.ow),some (.lst (nD found),.ow)]=some (.ok false,[some (pD P,.io),x1,some (.lst (nD []),.ow),some (.lst (nD found),.ow)]):=rfl;exact ⟨P,[],.nil,by rw [Cz];exact r_whF c rfl⟩
 | m+1,left,found,k+1,P,hl,hk,hb=>by
  have b:=qa P (m:=((m+1:Nat):Int)) (by omega) (by omega);obtain ⟨j,hj⟩:∃ j:Nat,dr P ((m+1:Nat):Int)=(j:Nat):=⟨(dr P ((m+1:Nat):Int)).toNat,by omega⟩
  have hjl:j < left.length:=by omega
  have ln:bH [.lst (nD left)]=some (.int ((m+1:Nat):Int),false):=by rw [gG,hl]
  have td:=Ap (P:=P) (m:=((m+1:Nat):Int)) (by omega) (by omega);rw [hj] at td;have pa:=pop_at hjl (by omega)
  have gn:gNe [.lst (nD left),.lst []]=some (.bl true,false):=by
   have:=lh (ns:=left) (ms:=[]);rw [Bk (fun z=>by rw [z] at hl;simp at hl)] at this;exact this
  have c:sOc [some (pD P,.io),x1,some (.lst (nD left),.ow),some (.lst (nD found),.ow)]=some (.ok true,[some (pD P,.io),x1,some (.lst (nD left),.ow),some (.lst (nD found),.ow)]):=by
   unfold sOc
   trace "Ď(`'ОTń!"
  have ua:bR (.lst (nD found)) [.int (left[j]'hjl)]=some (.lst (nD (found++[left[j]'hjl])),.non):=iD (by omega)
  have e0:a8 [some (pD P,.io),x1,some (.lst (nD left),.ow),some (.lst (nD found),.ow)]=some (.nx,[some (pD (nx P ((m+1:Nat):Int)),.io),x1,some (.lst (nD (left.eraseIdx j)),.ow),some (.lst (nD (found++[left[j]'hjl])),.ow)]):=by
   unfold a8
   trace "ĎЇѻѨnŹTźЩgŻǔgżǔ!"
  obtain ⟨P',os,hp,e⟩:=oE m (left.eraseIdx j) (found++[left[j]'hjl]) k (nx P ((m+1:Nat):Int)) (by rw [List.length_eraseIdx,if_pos hjl];omega) (by omega) (by rw [A7];simp;omega);refine ⟨P',(left[j]'hjl)::os,((List.Perm.cons _ hp).trans (kM left j hjl)),?_⟩;rw [B3] at e;exact r_whT c rfl e0 e
end
theorem rV{m:Nat}(h:m<=90)(P:Pn):∃ (P':Pn) (os:List Int),os.Perm (rgI 0 m)/\b7 [pD P,.int (m:Nat)]=some (.ok (.lst (nD os)) true,pD P'):=by
 obtain ⟨P',os,hp,e⟩:=oE (x1:=some (.int (m:Nat),.fz)) m (rgI 0 m) [] 100 P (by rw [aj]) (by omega) (by simp;omega);refine ⟨P',os,hp,?_⟩;have gr:=rh (n:=m) (by omega);have e':cx 100 (bE gNe [.bor 2,.ex (cM [])]) a8 [some (pD P,.io),some (.int (m:Nat),.fz),some (.lst (nD (rgI 0 m)),.ow),some (.lst [],.ow)]=some (.nx,[some (pD P',.io),some (.int (m:Nat),.fz),some (.lst (nD []),.ow),some (.lst (nD os),.ow)]):=e;unfold b7 ft
 trace "x)б$ĀВОi0ŽžiP"
end K52
namespace K52
open PySem L2
structure Sp(last i:Nat)(ts:List (Int×Int))(ps:List Int)(lo hi hub:Int):Prop where
 tl:ts.length=i
 pl:ps.length=i+1
 c:lo+(last - hi)=(i:Int)+1
 l1:1<=lo
 l2:lo<=hi+1
 h2:hi<=last
 p:ps.Perm (rgI 0 lo.toNat++rgI (hi+1) (last - hi).toNat)
 t:∀ t∈ts,0<=t.1/\t.1 < t.2/\t.2<=(i:Int)
 h0:0<=hub
 h1:hub<=(i:Int)
theorem yo(lo:Int)(n:Nat):rgI (lo - 1) (n+1)=(lo - 1)::rgI lo n:=by rw [vH,show lo - 1+1=lo by omega]
theorem Sp.up{last i:Nat}{ts:List (Int×Int)}{ps:List Int}{lo hi hub hub':Int}(h:Sp last i ts ps lo hi hub)(hi':i < last)(hb:hub'=hub\/hub'=1+(i:Int)):Sp last (i+1) (ts++[(hub,1+(i:Int))]) (ps++[hi]) lo (hi - 1) hub':=by
 have:=h.c;have:=h.l1;have:=h.l2;have:=h.h2;have:=h.h0;have:=h.h1;refine ⟨by rw [A7,h.tl];rfl,by rw [A7,h.pl];rfl,by omega,h.l1,by omega,by omega,?_,fun t ht=> ?_,by omega,by omega⟩
 ·refine (List.Perm.append_right _ h.p).trans ?_
  rw [B3];refine List.Perm.append_left _ ?_;rw [show (last - (hi - 1)).toNat=(last - hi).toNat+1 by omega,show hi - 1+1=(hi+1) - 1 by omega,yo,show hi+1 - 1=hi by omega];exact CA _ _
 ·rcases Bd.mp ht with ht | ht
  ·have:=h.t t ht;omega
  ·rw [Bb.mp ht]
   exact ⟨h.h0,by show hub < 1+(i:Int);omega,by show 1+(i:Int)<=_;omega⟩
theorem Sp.dn{last i:Nat}{ts:List (Int×Int)}{ps:List Int}{lo hi hub hub':Int}(h:Sp last i ts ps lo hi hub)(hi':i < last)(hb:hub'=hub\/hub'=1+(i:Int)):Sp last (i+1) (ts++[(hub,1+(i:Int))]) (ps++[lo]) (lo+1) hi hub':=by
 have:=h.c;have:=h.l1;have:=h.l2;have:=h.h2;have:=h.h0;have:=h.h1;refine ⟨by rw [A7,h.tl];rfl,by rw [A7,h.pl];rfl,by omega,by omega,by omega,by omega,?_,fun t ht=> ?_,by omega,by omega⟩
 ·refine (List.Perm.append_right _ h.p).trans ?_
  rw [show (lo+1).toNat=lo.toNat+1 by omega,bZ,show (0:Int)+(lo.toNat:Nat)=lo by omega,B3,B3];exact List.Perm.append_left _ (List.perm_append_comm)
 ·rcases Bd.mp ht with ht | ht
  ·have:=h.t t ht;omega
  ·rw [Bb.mp ht]
   exact ⟨h.h0,by show hub < 1+(i:Int);omega,by show 1+(i:Int)<=_;omega⟩
theorem Sp.fin{last:Nat}{ts:List (Int×Int)}{ps:List Int}{lo hi hub:Int}(h:Sp last last ts ps lo hi hub):ps.Perm (rgI 0 (last+1)):=by
 have:=h.c;have:=h.l1;have:=h.l2;have:=h.h2
 have e:rgI 0 (last+1)=rgI 0 lo.toNat++rgI (hi+1) (last - hi).toNat:=by
  rw [show last+1=lo.toNat+(last - hi).toNat by omega,r9,show (0:Int)+(lo.toNat:Nat)=hi+1 by omega]
 rw [e];exact h.p
structure Sp2(last i:Nat)(ts:List (Int×Int))(ps:List Int)(lo hi hub sd:Int):Prop where
 b:Sp last i ts ps lo hi hub
 n:ps.getD hub.toNat 0=if sd=1 then lo - 1 else hi+1
 st:ts.map (stG ps)=(rgI 0 i).map fun k=>(last:Int) - k
 pt:∀ t∈ts,min (ps.getD t.1.toNat 0) (ps.getD t.2.toNat 0)<=lo - 1/\hi+1<=max (ps.getD t.1.toNat 0) (ps.getD t.2.toNat 0)
theorem b4{ps:List Int}{x:Int}{j:Nat}(h:j < ps.length):(ps++[x]).getD j 0=ps.getD j 0:=by
 rw [AS,AS,Bt h]
theorem mD{ps:List Int}{x:Int}{j:Nat}(h:j=ps.length):(ps++[x]).getD j 0=x:=by
 rw [AS,h,BZ (A8 _),CK];rfl
theorem Sp2.up{last i:Nat}{ts:List (Int×Int)}{ps:List Int}{lo hi hub hub' sd':Int}(h:Sp2 last i ts ps lo hi hub 1)(hi':i < last)(hb:(hub'=hub/\sd'=1)\/(hub'=1+(i:Int)/\sd'=0)):Sp2 last (i+1) (ts++[(hub,1+(i:Int))]) (ps++[hi]) lo (hi - 1) hub' sd':=by
 have B:=h.b;have:=B.c;have:=B.l1;have:=B.l2;have:=B.h2;have:=B.h0;have:=B.h1;have pl:=B.pl;have hn:=h.n;rw [if_pos rfl] at hn
 have e1:(ps++[hi]).getD hub.toNat 0=lo - 1:=by rw [b4 (by omega)];exact hn
 have e2:(ps++[hi]).getD (1+(i:Int)).toNat 0=hi:=mD (by omega);refine ⟨B.up hi' (by omega),?_,?_,fun t ht=> ?_⟩
 ·rcases hb with ⟨rfl,rfl⟩ | ⟨rfl,rfl⟩
  ·rw [if_pos rfl,e1]
  ·rw [if_neg (by omega),e2];omega
 ·rw [Bm,bZ,Bm,<- h.st]
  congr 1
  ·refine Bp fun t ht=> ?_
   have:=B.t t ht;unfold stG;rw [b4 (by omega),b4 (by omega)]
  ·show [stG (ps++[hi]) (hub,1+(i:Int))]=[(last:Int) - (0+(i:Nat))]
   unfold stG;rw [e1,e2]
   congr 1
   omega
 ·rcases Bd.mp ht with ht | ht
  ·have:=B.t t ht
   have:=h.pt t ht;rw [b4 (by omega),b4 (by omega)];omega
  ·rw [Bb.mp ht]
   show min ((ps++[hi]).getD hub.toNat 0) ((ps++[hi]).getD (1+(i:Int)).toNat 0)<=lo - 1/\hi - 1+1<=max ((ps++[hi]).getD hub.toNat 0) ((ps++[hi]).getD (1+(i:Int)).toNat 0)
   rw [e1,e2];omega
theorem Sp2.dn{last i:Nat}{ts:List (Int×Int)}{ps:List Int}{lo hi hub hub' sd':Int}(h:Sp2 last i ts ps lo hi hub 0)(hi':i < last)(hb:(hub'=hub/\sd'=0)\/(hub'=1+(i:Int)/\sd'=1)):Sp2 last (i+1) (ts++[(hub,1+(i:Int))]) (ps++[lo]) (lo+1) hi hub' sd':=by
 have B:=h.b;have:=B.c;have:=B.l1;have:=B.l2;have:=B.h2;have:=B.h0;have:=B.h1;have pl:=B.pl;have hn:=h.n;rw [if_neg (by omega)] at hn
 have e1:(ps++[lo]).getD hub.toNat 0=hi+1:=by rw [b4 (by omega)];exact hn
 have e2:(ps++[lo]).getD (1+(i:Int)).toNat 0=lo:=mD (by omega);refine ⟨B.dn hi' (by omega),?_,?_,fun t ht=> ?_⟩
 ·rcases hb with ⟨rfl,rfl⟩ | ⟨rfl,rfl⟩
  ·rw [if_neg (by omega),e1]
  ·rw [if_pos rfl,e2];omega
 ·rw [Bm,bZ,Bm,<- h.st]
  congr 1
  ·refine Bp fun t ht=> ?_
   have:=B.t t ht;unfold stG;rw [b4 (by omega),b4 (by omega)]
  ·show [stG (ps++[lo]) (hub,1+(i:Int))]=[(last:Int) - (0+(i:Nat))]
   unfold stG;rw [e1,e2]
   congr 1
   omega
 ·rcases Bd.mp ht with ht | ht
  ·have:=B.t t ht
   have:=h.pt t ht;rw [b4 (by omega),b4 (by omega)];omega
  ·rw [Bb.mp ht]
   show min ((ps++[lo]).getD hub.toNat 0) ((ps++[lo]).getD (1+(i:Int)).toNat 0)<=lo+1 - 1/\hi+1<=max ((ps++[lo]).getD hub.toNat 0) ((ps++[lo]).getD (1+(i:Int)).toNat 0)
   rw [e1,e2];omega
theorem Sp2.prt{last:Nat}{ts:List (Int×Int)}{ps:List Int}{lo hi hub sd:Int}(h:Sp2 last last ts ps lo hi hub sd)(h0:0 < last):Prt ts last ps hi:=by
 have B:=h.b;have:=B.c;have:=B.l1;have:=B.l2;have:=B.h2;refine ⟨B.fin,?_,fun t ht=> ?_,fun t ht=>by have:=B.t t ht;omega,h0⟩
 ·rw [h.st]
  refine cz (aQ (aJ _ _) fun x _ y _ e=>by omega) (by rw [AO,aj]) fun x hx=> ?_
  obtain ⟨y,hy,rfl⟩:=Bn.mp hx;have:=ak.mp hy;omega
 ·have:=h.pt t ht
  omega
theorem Sp2.nd{last i:Nat}{ts:List (Int×Int)}{ps:List Int}{lo hi hub sd:Int}(h:Sp2 last i ts ps lo hi hub sd):ts.Nodup:=by
 refine iT (f:=stG ps) ?_;rw [h.st]
 exact aQ (aJ _ _) fun x _ y _ e=>by omega
theorem xX{last:Nat}(h1:1<=last)(h2:last<=30)(P:Pn):∃ (P':Pn) (ts:List (Int×Int)) (ps:List Int),du [pD P,.int (last:Nat)]=some (.ok (.tup [.int ((last:Nat)+1),.lst (tD ts),.lst (nD ps)]) false,pD P')/\(∃ lw,Prt ts last ps lw)/\ts.length=last/\(∀ t∈ts,0<=t.1/\t.1 < t.2/\t.2<=(last:Int))/\ts.Nodup:=by
 obtain ⟨ρ',e,P',ts,ps,lo,hi,hub,sd,y7,hS,hsd,rfl⟩:=mf (T:= .nm 7) (f:=bo) (lo:=1) (fun i ρ=>∃ (P:Pn) (ts:List (Int×Int)) (ps:List Int) (lo hi hub sd:Int) (y7:Option (D×Md)),Sp2 last i ts ps lo hi hub sd/\(sd=0\/sd=1)/\ρ=[some (pD P,.io),some (.int (last:Nat),.fz),some (.lst (tD ts),.ow),some (.lst (nD ps),.ow),some (.int hub,.fz),some (.lst [.int lo,.int hi],.ow),some (.int sd,.fz),y7]) last [some (pD P,.io),some (.int (last:Nat),.fz),some (.lst [],.ow),some (.lst [.int 0],.ow),some (.int 0,.fz),some (.lst [.int 1,.int (last:Nat)],.ow),some (.int 1,.fz),none]
  ⟨P,[],[0],1,(last:Nat),0,1,none,⟨⟨rfl,rfl,by omega,by omega,by omega,by omega,by
   rw [show ((last:Int) - (last:Nat)).toNat=0 by omega]
   exact .refl _,fun t ht=>absurd ht Cq,by omega,by omega⟩,rfl,rfl,fun t ht=>absurd ht Cq⟩,.inr rfl,rfl⟩ (by
  rintro i hi' ρ ⟨P,ts,ps,lo,hi,hub,sd,y7,hS,hsd,rfl⟩;have tl:=hS.b.tl;have pl:=hS.b.pl;have u1:bR (.lst (tD ts)) [.tup [.int hub,.int (1+(i:Nat))]]=some (.lst (tD (ts++[(hub,1+(i:Int))])),.non):=uZ (by omega)
  rcases hsd with rfl | rfl
  ·have ix:gIx [.lst [.int lo,.int hi],.int 0]=some (.int lo,false):=rfl
   have u2:bR (.lst (nD ps)) [.int lo]=some (.lst (nD (ps++[lo])),.non):=iD (by omega)
   have gm:bG [.int (lo+1),.int (2 * 0)]=some (.int (lo+1),false):=by show some (D.int (lo+1 - 2 * 0),false)=_;rw [show lo+1 - 2 * 0=lo+1 by omega]
   have us:eD (.lst [.int lo,.int hi]) (.int 0) (.int (lo+1))=some (.lst [.int (lo+1),.int hi]):=rfl
   by_cases h3:dr P 3=0
   ·unfold bo
    trace "Ь0ЇІпgĘПЇlBgęПăЍUBaЎVĄkЏ!ЯĚǔя6q=)rUi"
    exact ⟨_,_,_,_,_,_,_,_,hS.dn hi' (.inr ⟨rfl,rfl⟩),.inr rfl,rfl⟩
   ·unfold bo
    trace "Ь0ЇІпgĘПЇlBgęПăЍUBaЎVĄkЏ!ЯĚǔѐ"
    exact ⟨_,_,_,_,_,_,_,_,hS.dn hi' (.inl ⟨rfl,rfl⟩),.inl rfl,rfl⟩
  ·have ix:gIx [.lst [.int lo,.int hi],.int 1]=some (.int hi,false):=rfl
   have u2:bR (.lst (nD ps)) [.int hi]=some (.lst (nD (ps++[hi])),.non):=iD (by omega)
   have gm:bG [.int (hi+1),.int (2 * 1)]=some (.int (hi - 1),false):=by show some (D.int (hi+1 - 2 * 1),false)=_;rw [show hi+1 - 2 * 1=hi - 1 by omega]
   have us:eD (.lst [.int lo,.int hi]) (.int 1) (.int (hi - 1))=some (.lst [.int lo,.int (hi - 1)]):=rfl
   by_cases h3:dr P 3=0
   ·unfold bo
    trace "Ь0ЇІпgĘПЇlBgęПăЍUBaЎVĄkЏ!ЯĚǔя6q=)rUi"
    exact ⟨_,_,_,_,_,_,_,_,hS.up hi' (.inr ⟨rfl,rfl⟩),.inl rfl,rfl⟩
   ·unfold bo
    trace "Ь0ЇІпgĘПЇlBgęПăЍUBaЎVĄkЏ!ЯĚǔѐ"
    exact ⟨_,_,_,_,_,_,_,_,hS.up hi' (.inl ⟨rfl,rfl⟩),.inr rfl,rfl⟩)
 refine ⟨P',ts,ps,?_,⟨_,hS.prt (by omega)⟩,hS.b.tl,hS.b.t,hS.nd⟩;rw [show last=((last:Int)+1 - 1).toNat by omega] at e;simp only [show ((((last:Int)+1 - 1).toNat:Nat):Int)=(last:Int) by omega] at e;unfold du iM
 trace "xОВР4*В4ВРрпВ4i0LŇrС$kkǗ3-vё.вй*P"
end K52
namespace K52
open PySem L2
section
variable{n:Nat}{ts:List (Int×Int)}{ps us:List Int}{c w:Int}
theorem ld{i:Nat}(h:i < ps.length):(ps.map fun x=>w - x).getD i 0=w - ps.getD i 0:=by
 rw [AS,Bf,AS,AN h];rfl
theorem r6(W:We n ts)(hp:ps.length=n){t:Int×Int}(ht:t∈ts):smT (ps.map fun x=>w - x) t=2 * w - smT ps t:=by
 have r:=W.r t ht;unfold smT;rw [ld (by omega),ld (by omega)];omega
theorem zy{i:Nat}(h:i < ts.length):ts.getD i (0,0)∈ts:=by
 rw [AS,AN h];exact BG _
theorem wA(h:ps.Nodup):(ps.map fun x=>w - x).Nodup:=aQ h fun x _ y _ e=>by omega
theorem nc(l:List Int):(l.map fun x=>w - x).map (fun x=>w - x)=l:=by
 rw [Bo]
 conv=>rhs;rw [<- List.map_id l]
 exact Bp fun x _=>by show w - (w - x)=x;omega
theorem mX(W:We n ts)(T:Tot n ts ps us c):Tot n ts (ps.map fun x=>(n:Int)+(ts.length:Int)+1 - x) (us.map fun x=>(n:Int)+(ts.length:Int)+1 - x) (3 * ((n:Int)+(ts.length:Int)+1) - c):=by
 refine ⟨by rw [AO];exact T.lp,by rw [AO];exact T.lu,fun x hx=> ?_,?_,fun i hi=> ?_⟩
 ·rw [<- Bm] at hx
  obtain ⟨y,hy,rfl⟩:=Bn.mp hx;have:=T.b y hy;omega
 ·rw [<- Bm]
  exact wA T.d
 ·rw [r6 W T.lp (zy hi),ld (by rw [T.lu];exact hi)]
  have:=T.s i hi;omega
theorem fT{l:List Int}{a:Int}{m:Nat}(h:l.Perm (rgI a m)):(l.map fun x=>w - x).Perm (rgI (w - a - m+1) m):=by
 refine cz (wA (h.nodup_iff.mpr (aJ _ _))) (by rw [AO,h.length_eq,aj]) fun x hx=> ?_
 obtain ⟨y,hy,rfl⟩:=Bn.mp hx;have:=ak.mp (h.mem_iff.mp hy);omega
theorem wE{l:List Int}{a:Int}{m:Nat}(h:l.Perm (rgI a m))(h0:0 < m):fG l=a:=by
 have ne:l≠[]:=fun z=>by have:=h.length_eq;rw [z,aj] at this;simp at this;omega
 have h1:=iV ne;have h2:=ak.mp (h.mem_iff.mp h1.1);have h3:=h1.2 a (h.mem_iff.mpr (ak.mpr (by omega)));omega
theorem wG{l:List Int}{a:Int}{m:Nat}(h:l.Perm (rgI a m))(h0:0 < m):dQ l=a+m - 1:=by
 have ne:l≠[]:=fun z=>by have:=h.length_eq;rw [z,aj] at this;simp at this;omega
 have h1:=gB ne;have h2:=ak.mp (h.mem_iff.mp h1.1);have h3:=h1.2 (a+m - 1) (h.mem_iff.mpr (ak.mpr (by omega)));omega
theorem oJ(T:Tot n ts ps us c):ts.map (smT ps)=us.map fun x=>c - x:=by
 refine BM (by rw [AO,AO,T.lu]) fun i h1 h2=> ?_
 rw [AO] at h1 h2;rw [BH,BH];have s:=T.s i h1;rw [AS,AN h1,AS,AN h2] at s;have s:smT ps ts[i]+us[i]=c:=s;omega
theorem gA(T:Tot n ts ps us c)(h:∀ x∈ps,x<=(n:Int)):ps.Perm (rgI 1 n)/\us.Perm (rgI ((n:Int)+1) ts.length):=by
 have nd:=CY.mp T.d
 have p1:ps.Perm (rgI 1 n):=cz nd.1 T.lp fun x hx=>by have:=T.b x (AU _ hx);have:=h x hx;omega
 refine ⟨p1,cz nd.2.1 T.lu fun x hx=> ?_⟩;have b:=T.b x (AT _ hx)
 by_cases z:x<=n
 ·exact absurd rfl (nd.2.2 x (p1.mem_iff.mpr (ak.mpr (by omega))) x hx)
 ·omega
theorem fJ(T:Tot n ts ps us c)(h:∀ x∈ps,x<=(n:Int)):(ts.map (smT ps)).Perm (rgI (c - n - ts.length) ts.length):=by
 have:=fT (w:=c) (gA T h).2;rw [oJ T];rw [show c - ((n:Int)+1) - (ts.length:Int)+1=c - n - ts.length by omega] at this;exact this
theorem oK(T:Tot n ts ps us c):pY n ts ps (c - n - ts.length)=us:=by
 show (ts.map (smT ps)).map _=us
 rw [oJ T,Bo]
 conv=>rhs;rw [<- List.map_id us]
 exact Bp fun x _=>by show c - n - ts.length+(n:Int)+ts.length - (c - x)=x;omega
theorem iE(W:We n ts)(hp:ps.length=n):ts.map (smT (ps.map fun x=>w - x))=(ts.map (smT ps)).map fun x=>2 * w - x:=by
 rw [Bo]
 exact Bp fun t ht=>r6 W hp ht
end
theorem m9{n:Nat}{ts:List (Int×Int)}(W:We n ts){ps:List Int}(hp:ps.length=n)(ne:ts≠[]):b9 [.int (n:Nat),.lst (tD ts),.lst (nD ps)]=some (.ok (.lst (nD ((ts.map (smT ps)).map fun x=>(n:Int)+ts.length+fG (ts.map (smT ps)) - x))) true,.non):=by
 have h1:∀ t∈ts,gIx [.lst (nD ps),.int t.1]=some (.int (ps.getD t.1.toNat 0),false):=fun t ht=>bO (W.r t ht).1 (by have:=W.r t ht;omega)
 have h2:∀ t∈ts,gIx [.lst (nD ps),.int t.2]=some (.int (ps.getD t.2.toNat 0),false):=fun t ht=>bO (W.r t ht).2.2.1 (by have:=W.r t ht;omega)
 have ne':ts.map (smT ps)≠[]:=by simpa using ne
 have gm:=lm ne';unfold b9 fu
 trace "xfкИнĒǖЅēǖYБmnňYnAђ-fйQМЄQ"
def Mk(d:D)(nw:Bool)(ρ:Rho):Prop:=∃ (n:Nat) (ts:List (Int×Int)) (ps us:List Int) (c:Int) (P:Pn),We n ts/\(∀ t∈ts,t.1 < t.2)/\ts.Nodup/\(ts.length<=40/\n+ts.length<=60)/\ts≠[]/\Tot n ts ps us c/\d = .tup [.int (n:Nat),.lst (tD ts),.lst (nD ps),.lst (nD us)]/\nw=false/\ρ[0]?=some (some (pD P,.io))
theorem uo{n:Nat}{ps:List Int}(h:ps.Perm (rgI 1 n)):(ps.map fun x=>(n:Int)+1 - x).Perm (rgI 1 n):=by
 refine cz (aQ (h.nodup_iff.mpr (aJ _ _)) fun x hx y hy e=>by omega) (by rw [AO,h.length_eq,aj]) fun x hx=> ?_
 obtain ⟨y,hy,rfl⟩:=Bn.mp hx;have:=ak.mp (h.mem_iff.mp hy);omega
theorem pX{n:Nat}{ts:List (Int×Int)}{ps:List Int}{L:Int}(ne:ts≠[])(hp:ps.Perm (rgI 1 n))(hs:(ts.map (smT ps)).Perm (rgI L ts.length)):Tot n ts ps ((ts.map (smT ps)).map fun x=>(n:Int)+ts.length+fG (ts.map (smT ps)) - x) (L+n+ts.length):=by
 have T:=nL hp hs;rw [wE hs (BE.mpr ne)]
 have e:((ts.map (smT ps)).map fun x=>(n:Int)+ts.length+L - x)=pY n ts ps L:=Bp fun x _=>by omega
 rw [e];exact T
theorem tail{n:Nat}{ts:List (Int×Int)}{ps:List Int}{L:Int}{P:Pn}{x1 x5 x6 x7:Option (D×Md)}{m3:Md}(hm:m3 = .ow\/m3 = .fz)(W:We n ts)(h1:∀ t∈ts,t.1 < t.2)(nd:ts.Nodup)(h2:ts.length<=40/\n+ts.length<=60)(ne:ts≠[])(hp:ps.Perm (rgI 1 n))(hs:(ts.map (smT ps)).Perm (rgI L ts.length)):qt (bx [some (pD P,.io),x1,some (.int (n:Nat),.fz),some (.lst (tD ts),m3),some (.lst (nD ps),.ow),x5,x6,x7]) Mk:=by
 have hl:ps.length=n:=by rw [hp.length_eq,aj]
 have hs2:=fT (w:=2 * ((n:Int)+1)) hs;rw [<- iE W hl] at hs2;have T1:=pX ne (uo hp) hs2;have T2:=pX ne hp hs
 rcases hm with rfl | rfl
 ·unfold bx
  by_cases h:dr P 2=0
  ·have g:=m9 (ps:=ps.map fun x=>(n:Int)+1 - x) W (by rw [AO,hl]) ne
   trace "5Ѵ=fйQИm|UPǔ"
   trace "ТІввъ;Ы"
   exact ⟨n,ts,_,_,_,_,W,h1,nd,h2,ne,T1,rfl,rfl,rfl⟩
  ·have g:=m9 (ps:=ps) W hl ne
   trace "5ѐ"
   trace "ТІввъ;Ы"
   exact ⟨n,ts,_,_,_,_,W,h1,nd,h2,ne,T2,rfl,rfl,rfl⟩
 ·unfold bx
  by_cases h:dr P 2=0
  ·have g:=m9 (ps:=ps.map fun x=>(n:Int)+1 - x) W (by rw [AO,hl]) ne
   trace "5Ѵ=fйQИm|UPǔ"
   trace "ТІѫвъ;Ы"
   exact ⟨n,ts,_,_,_,_,W,h1,nd,h2,ne,T1,rfl,rfl,rfl⟩
  ·have g:=m9 (ps:=ps) W hl ne
   trace "5ѐ"
   trace "ТІѫвъ;Ы"
   exact ⟨n,ts,_,_,_,_,W,h1,nd,h2,ne,T2,rfl,rfl,rfl⟩
end K52
namespace K52
open PySem L2
abbrev upV(n:Nat)(l x:Int):Int:=if x > l then (n:Int)+l+1 - x else x+1
theorem sS{α β:Type}{f:α->β}:∀ (xs:List α) (s:List β),xs.foldl (fun s x=>s++[f x]) s=s++xs.map f
 | [],s=>by simp
 | x::xs,s=>by rw [C7,sS xs,A4,B3];rfl
theorem zo{n:Nat}{l:Int}{P:D}{x1 x3 x5:Option (D×Md)}(ns:List Int)(qs:List Int)(x7:Option (D×Md))(hl:qs.length+ns.length<=100):∃ y7,bY (.nm 7) a9 (nD ns) [some (P,.io),x1,some (.int (n:Nat),.fz),x3,some (.lst (nD qs),.ow),x5,some (.int l,.fz),x7]=some (.nx,[some (P,.io),x1,some (.int (n:Nat),.fz),x3,some (.lst (nD (qs++ns.map (upV n l))),.ow),x5,some (.int l,.fz),y7]):=by
 obtain ⟨ρ',e,y7,hq,h⟩:=fR (T:= .nm 7) (f:=a9) (inj:=D.int) (fun i (s:List Int) ρ=>∃ y7,s.length=qs.length+i/\ρ=[some (P,.io),x1,some (.int (n:Nat),.fz),x3,some (.lst (nD s),.ow),x5,some (.int l,.fz),y7]) (fun s x=>s++[upV n l x]) ns 0 qs _ ⟨x7,rfl,rfl⟩ (by
  rintro i x hx s ρ ⟨y7,hs,rfl⟩;have hi:i < ns.length:=(Be.mp hx).1
  by_cases h:x > l
  ·have gg:gGt [.int x,.int l]=some (.bl true,false):=by
    show some (D.bl (decide (x > l)),false)=_
    rw [Ba h]
   have u:upV n l x=_:=if_pos h;have gi:gIx [.lst [.int (x+1),.int ((n:Nat)+l+1 - x)],.int 1]=some (.int ((n:Nat)+l+1 - x),false):=rfl;unfold a9
   trace "ЬЇ}Рё.ЍѥaU*ЉUĲT$ŉgŊǗǔ"
   exact ⟨_,by rw [A7,hs];rfl,by rw [u]⟩
  ·have gg:gGt [.int x,.int l]=some (.bl false,false):=by
    show some (D.bl (decide (x > l)),false)=_
    rw [Bk h]
   have u:upV n l x=_:=if_neg h;have gi:gIx [.lst [.int (x+1),.int ((n:Nat)+l+1 - x)],.int 0]=some (.int (x+1),false):=rfl;unfold a9
   trace "ЬЇ}Рё.ЍѥaU*ЉUĲT$ŉgŊǗǔ"
   exact ⟨_,by rw [A7,hs];rfl,by rw [u]⟩)
 rw [sS] at h;subst h;exact ⟨y7,e⟩
theorem pick5{d:Int}(h0:0<=d)(h1:d < 5):∃ k:Nat,k < 5/\gIx [.lst [.int 3,.int 5,.int 7,.int 9,.int 11],.int d]=some (.int ((2 * k+3:Nat):Int),false):=by
 have:d=0\/d=1\/d=2\/d=3\/d=4:=by omega
 rcases this with rfl | rfl | rfl | rfl | rfl
 ·exact ⟨0,by decide,rfl⟩
 ·exact ⟨1,by decide,rfl⟩
 ·exact ⟨2,by decide,rfl⟩
 ·exact ⟨3,by decide,rfl⟩
 ·exact ⟨4,by decide,rfl⟩
def rgT(n:Nat):List (Int×Int):=((rgI 0 (n - 1)).map fun x=>(x,x+1))++[(0,(n:Int) - 1)]
def rgP(n:Nat):List Int:=(rgI 0 n).map fun x=>x / 2+1+((n:Int)+1) / 2 * (x % 2)
theorem vF:((List.range 5).all fun k=>sx (rgP (2 * k+3)) 1&&(sx ((rgT (2 * k+3)).map (smT (rgP (2 * k+3)))) ((k:Int)+3)&&(decide (rgT (2 * k+3)).Nodup&&(rgT (2 * k+3)).all fun t=>decide (0<=t.1/\t.1 < t.2/\t.2 < 2 * k+3))))=true:=by decide +kernel
theorem yn(n:Nat):(rgP n).length=n:=by unfold rgP;rw [AO,aj]
theorem nq{n:Nat}(h:1<=n):(rgT n).length=n:=by unfold rgT;rw [A7,AO,aj,List.length_singleton];omega
theorem ring_k{k:Nat}(h:k < 5):(rgP (2 * k+3)).Perm (rgI 1 (2 * k+3))/\((rgT (2 * k+3)).map (smT (rgP (2 * k+3)))).Perm (rgI ((k:Int)+3) (rgT (2 * k+3)).length)/\We (2 * k+3) (rgT (2 * k+3))/\(∀ t∈rgT (2 * k+3),t.1 < t.2)/\(rgT (2 * k+3)).Nodup/\rgT (2 * k+3)≠[]:=by
 have a:=Bg.mp vF k (BO.mpr h);have ⟨b,a⟩:=(Bh _ _).mp a;have ⟨s,a⟩:=(Bh _ _).mp a;have ⟨nd,c⟩:=(Bh _ _).mp a;have b:=kN b;rw [yn] at b;have s:=kN s;rw [AO] at s
 have c:∀ t∈rgT (2 * k+3),(0<=t.1/\t.1 < t.2/\t.2 < 2 * k+3):=fun t ht=>A6 (Bg.mp c t ht)
 refine ⟨b,s,⟨fun t ht=> ?_,by rw [nq (by omega)];omega,by omega⟩,fun t ht=>(c t ht).2.1,A6 nd,De (by rw [nq (by omega)];omega)⟩;have:=c t ht;omega
theorem t_made(P:Pn):qt (df [some (pD P,.io),some (.int 24,.fz),none,none,none,none,none,none]) Mk:=by
 unfold df
 by_cases h3:dr P 3=0
 ·have b:=qa (nx P 3) (m:=5) (by omega) (by omega)
  obtain ⟨k,hk,gx⟩:=pick5 b.1 b.2;obtain ⟨hp,hs,W,hn,nd,ne⟩:=ring_k hk;have l:=nq (n:=2 * k+3) (by omega)
  trace "5я}Ррррр4*ѩ$ĳВ}:ĴС$k!ŋǞѓІё*Q'Рvрё**$ƃȌi=:ąVǗ!шѓЍaŌkaoЉ|_ŌkЈaƄǗ$ĄkYq"
  have e1:(((2 * k+3:Nat):Int) - 1).toNat=2 * k+3 - 1:=by omega
  rw [e1];exact tail (n:=2 * k+3) (ts:=rgT (2 * k+3)) (ps:=rgP (2 * k+3)) (.inl rfl) W hn nd (by omega) ne hp hs
 ·have b:=qa (nx P 3) (m:=24) (by omega) (by omega)
  obtain ⟨P',ts,ps,e,⟨lw,pr⟩,tl,ht,nd⟩:=xX (last:=(1+dr (nx P 3) 24).toNat) (by omega) (by omega) (nx (nx P 3) 24)
  generalize hq:(1+dr (nx P 3) 24).toNat=q at *
  have hq':1+dr (nx P 3) 24=(q:Int):=by omega
  rw [show (q:Int)+1=((q+1:Nat):Int) by omega] at e;rw [<- hq'] at e;have hl:ps.length=q+1:=pr.len
  have h1:∀ t∈ts,gIx [.lst (nD ps),.int t.1]=some (.int (ps.getD t.1.toNat 0),false):=fun t h=>bO (by have:=ht t h;omega) (by have:=ht t h;omega)
  have h2:∀ t∈ts,gIx [.lst (nD ps),.int t.2]=some (.int (ps.getD t.2.toNat 0),false):=fun t h=>bO (by have:=ht t h;omega) (by have:=ht t h;omega)
  have ne:ts≠[]:=De (by omega)
  have ne':(ts.map fun t=>min (ps.getD t.1.toNat 0) (ps.getD t.2.toNat 0))≠[]:=by simpa using ne
  have gm:=rf ne';rw [pr.max] at gm;have ups:=pr.upT_sums;have upp:=pr.upT_perm
  have eup:(ps.map (upT q lw)).map (fun x=>x+1)=ps.map (upV (q+1) lw):=by
   rw [Bo]
   refine Bp fun x _=> ?_
   show upT q lw x+1=upV (q+1) lw x
   unfold upT upV
   split<;>split<;>omega
  rw [eup] at ups upp
  generalize lw=l at *
  have ll:=fun (x7:Option (D×Md)) (x1 x3 x5:Option (D×Md))=>zo (n:=q+1) (l:=l) (P:=pD P') (x1:=x1) (x3:=x3) (x5:=x5) ps [] x7 (by rw [hl];show 0+(q+1)<=100;omega)
  have wd:We (q+1) ts:=⟨fun t h=>by have:=ht t h;omega,by omega,by omega⟩;obtain ⟨y7,e7⟩:=ll none (some (.int 24,.fz)) (some (.lst (tD ts),.fz)) (some (.lst (nD ps),.fz));rw [show nD []=[] from rfl,BN] at e7
  trace "5ѵ0ĆѨЎчUѸTT3ЩǘsмИнĒǖЅēǖ$ĵQЏВОiLīЯƅ"
  exact tail (n:=q+1) (ts:=ts) (ps:=ps.map (upV (q+1) l)) (.inr rfl) wd (fun t h=>by have:=ht t h;omega) nd (by omega) ne upp ups
end K52
namespace K52
open PySem L2
def kT(t:Int×Int):List Key:=[.inl t.1,.inl t.2]
theorem qS{a b:Int×Int}(h:kT a=kT b):a=b:=by
 unfold kT at h;simp at h;exact Prod.ext h.1 h.2
theorem wO{ts:List (Int×Int)}(h:ts.Nodup):(ts.map kT).Nodup:=by
 induction ts with
 | nil=>exact Cs
 | cons u ts ih =>
  have h:=Bv.mp h;rw [A4];refine Bv.mpr ⟨fun z=> ?_,ih h.2⟩;obtain ⟨v,hv,e⟩:=Bn.mp z;exact h.1 (by rw [<- qS e];exact hv)
theorem pb{t:Int×Int}{d:D}:∀ (tk:List (Int×Int)) (vs:List D),vs.length=tk.length->t∉tk->jn (tk.map kT) vs (kT t) d=((tk++[t]).map kT,vs++[d])
 | [],[],_,_=>rfl
 | u::tk,w::vs,hl,h=>by
  rw [A4];unfold jn;rw [if_neg (fun e=>h (by rw [qS e];exact AY)),pb tk vs (Nat.succ.inj hl) fun z=>h (AV _ z)];rfl
 | [],_::_,hl,_=>by simp at hl
 | _::_,[],hl,_=>by simp at hl
theorem uPutT{tk:List (Int×Int)}{vs:List D}{t:Int×Int}{d:D}(hl:vs.length=tk.length)(h:t∉tk)(nd:tk.Nodup)(h2:tk.length<=900):l8 (.dT (tk.map kT) vs) (.tup [.int t.1,.int t.2]) d=some (.dT ((tk++[t]).map kT) (vs++[d])):=by
 show (if (small (tk.map kT).length&&decide (tk.map kT).Nodup)=true then some (D.dT (jn (tk.map kT) vs (kT t) d).1 (jn (tk.map kT) vs (kT t) d).2) else none)=_
 rw [pb tk vs hl h,if_pos];rw [bW (by rw [AO];omega),Ba (wO nd)];rfl
def lk(tk:List (Int×Int))(us:List Int)(t:Int×Int):Int:=match a6 (tk.map kT) (nD us) (kT t) with
 | some (.int i)=>i
 | _=>0
theorem wK:∀ {tk:List (Int×Int)} {us:List Int},tk.Nodup->us.length=tk.length->tk.map (lk tk us)=us
 | [],[],_,_=>rfl
 | t::tk,u::us,nd,hl=>by
  have nd:=Bv.mp nd
  have e1:lk (t::tk) (u::us) t=u:=by
   unfold lk
   show (match a6 (kT t::tk.map kT) (.int u::nD us) (kT t) with | some (.int i)=>i | _=>0)=u
   unfold a6;rw [if_pos rfl]
  have e2:∀ s∈tk,lk (t::tk) (u::us) s=lk tk us s:=fun s hs=>by
   have e3:a6 (kT t::tk.map kT) (.int u::nD us) (kT s)=a6 (tk.map kT) (nD us) (kT s):=by
    have:a6 (kT t::tk.map kT) (.int u::nD us) (kT s)=(if kT t=kT s then some (.int u) else a6 (tk.map kT) (nD us) (kT s)):=rfl;rw [this,if_neg (fun e=>nd.1 (by rw [qS e];exact hs))]
   unfold lk
   show (match a6 (kT t::tk.map kT) (.int u::nD us) (kT s) with | some (.int i)=>i | _=>0)=_
   rw [e3]
  rw [A4,e1,Bp e2,wK nd.2 (Nat.succ.inj hl)]
 | [],_::_,_,hl=>by simp at hl
 | _::_,[],_,hl=>by simp at hl
theorem mw{t:Int×Int}:∀ {tk:List (Int×Int)} {us:List Int},us.length=tk.length->t∈tk->∃ i:Int,a6 (tk.map kT) (nD us) (kT t)=some (.int i)
 | u::tk,w::us,hl,h=>by
  show ∃ i:Int,a6 (kT u::tk.map kT) (.int w::nD us) (kT t)=some (.int i)
  unfold a6
  by_cases e:kT u=kT t
  ·rw [if_pos e];exact ⟨w,rfl⟩
  ·rw [if_neg e]
   exact mw (Nat.succ.inj hl) ((A9.mp h).resolve_left fun z=>e (by rw [z]))
 | [],_,_,h=>by cases h
 | _::_,[],hl,_=>by simp at hl
theorem xi{tk:List (Int×Int)}{us:List Int}{t:Int×Int}(hl:us.length=tk.length)(h:t∈tk):mF [.dT (tk.map kT) (nD us),.tup [.int t.1,.int t.2]]=some (.int (lk tk us t),false):=by
 obtain ⟨i,e⟩:=mw hl h
 show (match a6 (tk.map kT) (nD us) (kT t) with | some d=>some (d,false) | none=>none)=_
 unfold lk;rw [e]
theorem zp(ts:List (Int×Int))(vs:List D):cD [.dT (ts.map kT) vs]=some (.lst (tD ts),true):=by
 show some (D.lst ((ts.map kT).map fun k=> .tup (k.map zu)),true)=_
 rw [Bo];rfl
theorem gl_get{n:Nat}{g ps os:List Int}(hg:g.length=n)(hp:ps.length=n)(ho:os.Perm (rgI 0 n))(h:∀ j,j < n->g.getD (os.getD j 0).toNat 0=ps.getD j 0):g.Perm ps:=by
 have ol:os.length=n:=by rw [ho.length_eq,aj]
 have e1:ps=os.map fun o=>g.getD o.toNat 0:=by
  refine BM (by rw [AO,hp,ol]) fun j a b=> ?_
  have:=h j (by omega);rw [BH];rw [AS (l:=os),AN (by omega),AS (l:=ps),AN a] at this;exact this.symm
 have e2:(rgI 0 n).map (fun o=>g.getD o.toNat 0)=g:=by
  refine BM (by rw [AO,aj,hg]) fun j a b=> ?_
  rw [BH];unfold rgI;rw [BH,List.getElem_range,show ((0:Int)+(j:Nat)).toNat=j by omega,AS,AN b];rfl
 rw [e1];refine List.Perm.trans ?_ (ho.map _).symm;rw [e2]
def mnx(os:List Int)(t:Int×Int):Int×Int:=(min (os.getD t.1.toNat 0) (os.getD t.2.toNat 0),max (os.getD t.1.toNat 0) (os.getD t.2.toNat 0))
theorem kQ{n:Nat}{os:List Int}(ho:os.Perm (rgI 0 n)){i j:Nat}(hi:i < n)(hj:j < n)(h:os.getD i 0=os.getD j 0):i=j:=by
 have ol:os.length=n:=by rw [ho.length_eq,aj]
 have nd:os.Nodup:=ho.nodup_iff.mpr (aJ _ _);rw [AS,AS,AN (by omega),AN (by omega)] at h;have pw:=Ce.mp nd
 rcases Nat.lt_trichotomy i j with z | z | z
 ·exact absurd h (pw i j (by omega) (by omega) z)
 ·exact z
 ·exact absurd h.symm (pw j i (by omega) (by omega) z)
theorem mnx_nd{n:Nat}{ts:List (Int×Int)}{os:List Int}(W:We n ts)(ho:os.Perm (rgI 0 n))(h1:∀ t∈ts,t.1 < t.2)(nd:ts.Nodup):(ts.map (mnx os)).Nodup:=by
 refine aQ nd fun s hs t ht e=> ?_
 have a:=W.r s hs;have b:=W.r t ht;have s1:=h1 s hs;have t1:=h1 t ht;have e1:min (os.getD s.1.toNat 0) (os.getD s.2.toNat 0)=min (os.getD t.1.toNat 0) (os.getD t.2.toNat 0):=congrArg Prod.fst e;have e2:max (os.getD s.1.toNat 0) (os.getD s.2.toNat 0)=max (os.getD t.1.toNat 0) (os.getD t.2.toNat 0):=congrArg Prod.snd e
 have c:(os.getD s.1.toNat 0=os.getD t.1.toNat 0/\os.getD s.2.toNat 0=os.getD t.2.toNat 0)\/(os.getD s.1.toNat 0=os.getD t.2.toNat 0/\os.getD s.2.toNat 0=os.getD t.1.toNat 0):=by omega
 rcases c with ⟨c1,c2⟩ | ⟨c1,c2⟩
 ·have d1:=kQ ho (by omega) (by omega) c1
  have d2:=kQ ho (by omega) (by omega) c2;exact Prod.ext (by omega) (by omega)
 ·have d1:=kQ ho (by omega) (by omega) c1
  have d2:=kQ ho (by omega) (by omega) c2;omega
theorem vV{n:Nat}{ts:List (Int×Int)}{us os:List Int}(W:We n ts)(h2:ts.length<=40)(hl:us.length=ts.length)(ho:os.Perm (rgI 0 n))(nd:(ts.map (mnx os)).Nodup){x0 x1 x2 x3:Option (D×Md)}{m4:Md}(hm:m4 = .ow\/m4 = .fz):∃ (a b c:Option (D×Md)),bY (.tp [(.tp [(.nm 6),(.nm 7)]),(.nm 8)]) cw ((ts.zip us).map fun p=> .tup [.tup [.int p.1.1,.int p.1.2],.int p.2]) [x0,x1,x2,x3,some (.lst (nD os),m4),some (.dT [] [],.ow),none,none,none,none,none,none]=some (.nx,[x0,x1,x2,x3,some (.lst (nD os),m4),some (.dT ((ts.map (mnx os)).map kT) (nD us),.ow),a,b,c,none,none,none]):=by
 have ol:os.length=n:=by rw [ho.length_eq,aj]
 obtain ⟨ρ',e,a,b,c,rfl⟩:=fR (T:= .tp [(.tp [(.nm 6),(.nm 7)]),(.nm 8)]) (f:=cw) (inj:=fun p:(Int×Int)×Int=>D.tup [.tup [.int p.1.1,.int p.1.2],.int p.2]) (fun i (_:Unit) ρ=>∃ (a b c:Option (D×Md)),ρ=[x0,x1,x2,x3,some (.lst (nD os),m4),some (.dT (((ts.map (mnx os)).take i).map kT) (nD (us.take i)),.ow),a,b,c,none,none,none]) (fun _ _=>()) (ts.zip us) 0 () [x0,x1,x2,x3,some (.lst (nD os),m4),some (.dT [] [],.ow),none,none,none,none,none,none] ⟨none,none,none,rfl⟩ (by
  rintro i ⟨⟨a,b⟩,u⟩ hx ⟨⟩ ρ ⟨x6,x7,x8,rfl⟩;rw [BA] at *;obtain ⟨hx1,hx2⟩:=CC.mp hx;have hx1:ts[i]?=some (a,b):=hx1;have hx2:us[i]?=some u:=hx2;have hi:i < ts.length:=(Be.mp hx1).1;have mt:(a,b)∈ts:=Bc hx1;have ra:=W.r _ mt;have ga:gIx [.lst (nD os),.int a]=some (.int (os.getD a.toNat 0),false):=bO (by omega) (by omega);have gb:gIx [.lst (nD os),.int b]=some (.int (os.getD b.toNat 0),false):=bO (by omega) (by omega)
  have tk:(ts.map (mnx os)).take (i+1)=(ts.map (mnx os)).take i++[mnx os (a,b)]:=by rw [List.take_add_one,Bf,hx1];rfl
  have tu:us.take (i+1)=us.take i++[u]:=by rw [List.take_add_one,hx2];rfl
  have nd1:((ts.map (mnx os)).take i++[mnx os (a,b)]).Nodup:=by rw [<- tk];exact nd.sublist (List.take_sublist _ _)
  have ni:mnx os (a,b)∉(ts.map (mnx os)).take i:=fun z=>by
   rw [CY] at nd1;exact nd1.2.2 _ z _ (Bb.mpr rfl) rfl
  have up:=uPutT (vs:=nD (us.take i)) (d:= .int u) (by rw [AO,BY,BY,AO];omega) ni (nd.sublist (List.take_sublist _ _)) (by rw [BY,AO];omega);rw [<- tk,show nD (us.take i)++[D.int u]=nD (us.take (i+1)) by rw [tu,nD,nD,Bm];rfl] at up;have up:l8 (.dT (((ts.map (mnx os)).take i).map kT) (nD (us.take i))) (.tup [.int (min (os.getD a.toNat 0) (os.getD b.toNat 0)),.int (max (os.getD a.toNat 0) (os.getD b.toNat 0))]) (.int u)=some (.dT (((ts.map (mnx os)).take (i+1)).map kT) (nD (us.take (i+1)))):=up
  rcases hm with rfl | rfl
  ·unfold cw
   trace "єЯvнKЅě$ĵ.нKЅě$ōgŎǔ"
   exact ⟨_,_,_,rfl⟩
  ·unfold cw
   trace "єЯvнKЅě$ĵ.нKЅě$ōgŎǔ"
   exact ⟨_,_,_,rfl⟩)
 have zl:(ts.zip us).length=ts.length:=by rw [Cc];omega
 rw [zl,BA,CV (by rw [AO];omega),CV (by omega)] at e;exact ⟨a,b,c,e⟩
end K52
namespace K52
open PySem L2
theorem pP{l:List Int}{i j:Nat}{x:Int}(h:j≠i):(l.set i x).getD j 0=l.getD j 0:=by
 rw [AS,BB (Ne.symm h),AS]
theorem pQ{l:List Int}{i:Nat}{x:Int}(h:i < l.length):(l.set i x).getD i 0=x:=by
 rw [AS,B0 h];rfl
theorem given{n:Nat}{ps os:List Int}(hn:n<=40)(hp:ps.length=n)(ho:os.Perm (rgI 0 n)){x0 x1 x3 x5 x6 x7 x8:Option (D×Md)}{m2 m4:Md}(hm2:m2 = .ow\/m2 = .fz)(hm:m4 = .ow\/m4 = .fz):∃ (g:List Int) (y:Option (D×Md)),g.Perm ps/\(∀ j,j < n->g.getD (os.getD j 0).toNat 0=ps.getD j 0)/\bY (.nm 10) bw (nD (rgI 0 n)) [x0,x1,some (.lst (nD ps),m2),x3,some (.lst (nD os),m4),x5,x6,x7,x8,some (.lst (nD (List.replicate n 0)),.ow),none,none]=some (.nx,[x0,x1,some (.lst (nD ps),m2),x3,some (.lst (nD os),m4),x5,x6,x7,x8,some (.lst (nD g),.ow),y,none]):=by
 have ol:os.length=n:=by rw [ho.length_eq,aj]
 have nd:os.Nodup:=ho.nodup_iff.mpr (aJ _ _)
 obtain ⟨ρ',e,g,y,gl,ge,rfl⟩:=kA (T:= .nm 10) (f:=bw) (fun i ρ=>∃ (g:List Int) (y:Option (D×Md)),g.length=n/\(∀ j,j < i->g.getD (os.getD j 0).toNat 0=ps.getD j 0)/\ρ=[x0,x1,some (.lst (nD ps),m2),x3,some (.lst (nD os),m4),x5,x6,x7,x8,some (.lst (nD g),.ow),y,none]) n [x0,x1,some (.lst (nD ps),m2),x3,some (.lst (nD os),m4),x5,x6,x7,x8,some (.lst (nD (List.replicate n 0)),.ow),none,none] ⟨_,none,BK,fun j h=>absurd h (Nat.not_lt_zero _),rfl⟩ (by
  rintro i hi ρ ⟨g,y,gl,ge,rfl⟩;have i0:=ak.mp (ho.mem_iff.mp (cB (l:=os) (i:=i) (by omega)));have g1:gIx [.lst (nD ps),.int (i:Nat)]=some (.int (ps.getD i 0),false):=bO (by omega) (by omega);have g2:gIx [.lst (nD os),.int (i:Nat)]=some (.int (os.getD i 0),false):=bO (by omega) (by omega);have u:eD (.lst (nD g)) (.int (os.getD i 0)) (.int (ps.getD i 0))=some (.lst (nD (g.set (os.getD i 0).toNat (ps.getD i 0)))):=uSetI (by omega) (by omega)
  have fin:∀ j,j < i+1->(g.set (os.getD i 0).toNat (ps.getD i 0)).getD (os.getD j 0).toNat 0=ps.getD j 0:=fun j hj=>by
   by_cases e:j=i
   ·rw [e]
    exact pQ (by omega)
   ·have j0:=ak.mp (ho.mem_iff.mp (cB (l:=os) (i:=j) (by omega)))
    rw [pP]
    ·exact ge j (by omega)
    ·intro h
     have h:os.getD j 0=os.getD i 0:=by omega
     rw [AS,AS,AN (by omega),AN (by omega)] at h;have pw:=Ce.mp nd
     rcases Nat.lt_or_gt_of_ne e with z | z
     ·exact pw j i (by omega) (by omega) z h
     ·exact pw i j (by omega) (by omega) z h.symm
  have gl':(g.set (os.getD i 0).toNat (ps.getD i 0)).length=n:=by rw [BX,gl]
  rcases hm with rfl | rfl<;>rcases hm2 with rfl | rfl
  ·unfold bw
   trace "єlсl<!Ăǔ"
   exact ⟨_,_,gl',fin,rfl⟩
  ·unfold bw
   trace "єlсl<!Ăǔ"
   exact ⟨_,_,gl',fin,rfl⟩
  ·unfold bw
   trace "єlсl<!Ăǔ"
   exact ⟨_,_,gl',fin,rfl⟩
  ·unfold bw
   trace "єlсl<!Ăǔ"
   exact ⟨_,_,gl',fin,rfl⟩)
 exact ⟨g,y,gl_get gl hp ho ge,ge,e⟩
theorem Am{n:Nat}{ts:List (Int×Int)}{ps us os:List Int}{c:Int}(W:We n ts)(h1:∀ t∈ts,t.1 < t.2)(nd:ts.Nodup)(h2:ts.length<=40)(T:Tot n ts ps us c)(ho:os.Perm (rgI 0 n))(ne:ts≠[]):∃ (rs:List (Int×Int)) (gs vs:List Int),fg [.int (n:Nat),.lst (tD ts),.lst (nD ps),.lst (nD us),.lst (nD os)]=some (.ok (.tup [bL (n:Nat) rs,thD gs vs]) false,.non)/\We n rs/\rs≠[]/\Tot n rs gs vs c/\cH n rs/\rs.length=ts.length:=by
 have wn:=W.n;have pl:=T.lp;have hl:=T.lu;have mnd:=mnx_nd W ho h1 nd
 have ol:os.length=n:=by rw [ho.length_eq,aj]
 obtain ⟨a,b,d,e1⟩:=vV (x0:=some (.int (n:Nat),.fz)) (x1:=some (.lst (tD ts),.fz)) (x2:=some (.lst (nD ps),.fz)) (x3:=some (.lst (nD us),.fz)) W h2 hl ho mnd (.inr rfl);have mlen:(ts.map (mnx os)).length=ts.length:=AO _
 have minn:∀ r∈ts.map (mnx os),0<=r.1/\r.1 < n/\0<=r.2/\r.2 < n:=fun r hr=>by
  obtain ⟨t,ht,rfl⟩:=Bn.mp hr;have:=W.r t ht;have ia:=ak.mp (ho.mem_iff.mp (cB (l:=os) (i:=t.1.toNat) (by omega)));have ib:=ak.mp (ho.mem_iff.mp (cB (l:=os) (i:=t.2.toNat) (by omega)));unfold mnx;dsimp only;omega
 have mlt:∀ r∈ts.map (mnx os),r.1 < r.2:=fun r hr=>by
  obtain ⟨t,ht,rfl⟩:=Bn.mp hr;have:=W.r t ht;have lt:=h1 t ht
  have ni:os.getD t.1.toNat 0≠os.getD t.2.toNat 0:=fun z=>by have:=kQ ho (by omega) (by omega) z;omega
  unfold mnx;dsimp only;omega
 have hat:∀ j,(hj:j < ts.length)->(ts.map (mnx os))[j]'(by rw [mlen];exact hj)=mnx os (ts[j]'hj):=fun j hj=>BH _
 generalize hk:ts.map (mnx os)=tk at *
 obtain ⟨g,y,hg,ge,e2⟩:=given (x0:=some (.int (n:Nat),.fz)) (x1:=some (.lst (tD ts),.fz)) (x3:=some (.lst (nD us),.fz)) (x5:=some (.dT (tk.map kT) (nD us),.ow)) (x6:=a) (x7:=b) (x8:=d) wn pl ho (.inr rfl) (.inr rfl)
 have hz:us.length>=ts.length:=by omega
 have hz':ts.length<=us.length:=by omega
 have gL:=zp tk (nD us);have gS:dG [.lst (tD tk)]=some (.lst (tD (dD tk)),true):=t7 (by omega)
 have gm:cC [.lst [.int 0],.int (n:Nat)]=some (.lst (nD (List.replicate n 0)),true):=by
  rw [xa (by omega) (by omega),show ((n:Nat):Int).toNat=n by omega]
 have pm:=qH tk;have lkm:=wK mnd (us:=us) (by omega)
 have gg:∀ t∈dD tk,mF [.dT (tk.map kT) (nD us),.tup [.int t.1,.int t.2]]=some (.int (lk tk us t),false):=fun t ht=>xi (by omega) (pm.mem_iff.mp ht)
 have hvp:((dD tk).map (lk tk us)).Perm us:=by
  have:=pm.map (lk tk us);rw [lkm] at this;exact this
 have pall:(g++(dD tk).map (lk tk us)).Perm (ps++us):=hg.append hvp
 refine ⟨dD tk,g,(dD tk).map (lk tk us),?_,⟨fun t ht=>minn t (pm.mem_iff.mp ht),by rw [pm.length_eq];omega,wn⟩,fun z=> ?_,⟨by rw [hg.length_eq];exact pl,AO _,fun x hx=> ?_,pall.nodup_iff.mpr T.d,fun i hi=> ?_⟩,⟨fun t ht=>by have a:=minn t (pm.mem_iff.mp ht);have b:=mlt t (pm.mem_iff.mp ht);exact ⟨a.1,b,a.2.2.2⟩,pm.nodup_iff.mpr mnd,by rw [pm.length_eq];omega,by
  obtain ⟨t,ht⟩:=List.exists_mem_of_ne_nil _ ne;have:=W.r t ht
  omega,wn⟩,by rw [pm.length_eq];exact mlen⟩
 ·unfold fg kx
  trace "xƆi0LŐ.ѫ6!gƇős}Р4*VAi0LąVǗŒsЍTƈ$Ɖђ-vІп.v)U.мМƊǖQT**P"
 ·rw [z] at pm
  have:=pm.length_eq;rw [mlen] at this;exact ne (CP.mp this.symm)
 ·have:=T.b x (pall.mem_iff.mp hx)
  rw [pm.length_eq,mlen];exact this
 ·have hr:(dD tk)[i]'hi∈tk:=pm.mem_iff.mp (BG hi)
  rw [AS,AN hi,AS,Bf,AN hi]
  show smT g ((dD tk)[i]'hi)+lk tk us ((dD tk)[i]'hi)=c
  generalize (dD tk)[i]'hi=r at *
  obtain ⟨j,hj,rfl⟩:=CH hr
  have hj':j < ts.length:=by omega
  have lu:lk tk us tk[j]=us[j]'(by omega):=by
   have:(tk.map (lk tk us))[j]'(by rw [AO];exact hj)=us[j]'(by omega):=by simp only [lkm]
   rw [BH] at this;exact this
  have s:=T.s j hj';rw [AS,AN hj',AS,AN (by omega:j < us.length)] at s;have s:smT ps (ts[j]'hj')+us[j]'(by omega)=c:=s;rw [lu,hat j hj'];have rt:=W.r _ (BG hj')
  generalize ts[j]'hj'=t at *
  have g1:=ge t.1.toNat (by omega);have g2:=ge t.2.toNat (by omega)
  have:smT g (mnx os t)=smT ps t:=by
   unfold smT mnx;dsimp only;rw [<- g1,<- g2]
   by_cases z:os.getD t.1.toNat 0<=os.getD t.2.toNat 0
   ·rw [Int.min_eq_left z,Int.max_eq_right z]
   ·rw [Int.min_eq_right (by omega),Int.max_eq_left (by omega),Int.add_comm]
  rw [this];exact s
end K52
namespace K52
open PySem L2
section
variable{n:Nat}{ts:List (Int×Int)}{ps us:List Int}
theorem wB:∀ {l:List Int},(dd l).length=l.length->l.Nodup:=by
 intro l h
 by_cases nd:l.Nodup
 ·exact nd
 ·exfalso
  have key:∀ {l:List Int},¬ l.Nodup->∃ m:List Int,m.length < l.length/\∀ x,x∈l->x∈m:=by
   intro l
   induction l with
   | nil=>intro h;exact absurd Cs h
   | cons a l ih =>
    intro h
    by_cases ha:a∈l
    ·exact ⟨l,by rw [A3];omega,fun x hx=>(A9.mp hx).elim (fun z=>z ▸ ha) id⟩
    ·obtain ⟨m,h1,h2⟩:=ih fun z=>h (Bv.mpr ⟨ha,z⟩)
     exact ⟨a::m,by rw [A3,A3];omega,fun x hx=>(A9.mp hx).elim (fun z=>by rw [z];exact AY) fun z=>AV _ (h2 x z)⟩
  obtain ⟨m,h1,h2⟩:=key nd;have:=B7 (AI l) (fun x hx=>h2 x ((jD l x).mp hx):dd l ⊆ m);omega
abbrev tot(ts:List (Int×Int))(ps us:List Int):List Int:=((ts.map (smT ps)).zip us).map fun p=>p.1+p.2
theorem Al{m:Int}(W:We n ts)(hp:ps.length=n)(hu:us.length=ts.length):cW [bL m ts,thD ps us]=some (.ok (.lst (nD (tot ts ps us))) true,.non):=by
 have e:=vh (m:=m) W hp
 have hz:(ts.map (smT ps)).length<=us.length:=by rw [AO];omega
 unfold cW jH
 trace "d:Ő.zэ3ѦcЖgƋ!МЄQ"
theorem j9(hu:us.length=ts.length):(tot ts ps us).length=ts.length:=by
 rw [AO,Cc,AO];omega
theorem t_tg(W:We n ts)(hp:ps.length=n)(hu:us.length=ts.length)(ho:qO (ps++us) ((n:Int)+(ts.length:Int))=true):bB [bL (n:Nat) ts,thD ps us]=some (.ok (.bl (decide (((dd (tot ts ps us)).length:Int)=1))) false,.non):=by
 have wn:=W.n;have wl:=W.l;have e:=Al (m:=(n:Nat)) W hp hu;have o:=vc (ns:=ps++us) (m:=(n:Int)+(ts.length:Int)) (by rw [A7];omega);rw [ho] at o;have g2:ip "tuple" [.tup (nD ps)]=some (.bl true,false):=rfl;have g3:ip "tuple" [.tup (nD us)]=some (.bl true,false):=rfl
 have gl2:bH [.tup (nD ps)]=some (.int (n:Nat),false):=by rw [mE,hp]
 have gn2:gNe [.int (n:Nat),.int (n:Nat)]=some (.bl false,false):=by rw [gE,Ba rfl];rfl
 have ga:ay [.tup (nD ps),.tup (nD us)]=some (.tup (nD (ps++us)),false):=by rw [ue (by omega)]
 have g5:=qZ (tot ts ps us) (by rw [j9 hu];omega);have g6:=pS (tot ts ps us) (by rw [j9 hu];omega)
 have g7:gEq [.int ((dd (tot ts ps us)).length:Nat),.int 1]=some (.bl (decide (((dd (tot ts ps us)).length:Int)=1)),false):=by rw [dU]
 unfold bB iH
 trace "tыбY(б_ȍѰscѣБcѣqыn<Y7ѧnĶY(nƌК$ƍН@9ЅKҁ$ĬQ)ooj3!$ķ$Ǝ_ƏP"
theorem wx{l:List Int}{m:Nat}:qO l (m:Nat)=true↔l.length=m/\(∀ x∈l,1<=x/\x<=(m:Int))/\l.Nodup:=by
 unfold qO mV;rw [Bh,Bh,List.all_map,Bg,decide_eq_true_iff,decide_eq_true_iff]
 constructor
 ·rintro ⟨h1,h2,h3⟩
  refine ⟨by omega,fun x hx=> ?_,?_⟩
  ·have:=h2 x hx
   have:=(Bh _ _).mp (show (decide (1<=x)&&decide (x<=(m:Int)))=true from this);exact ⟨A6 this.1,A6 this.2⟩
  ·have e:(dd l).length=l.length:=by omega
   exact wB e
 ·rintro ⟨h1,h2,h3⟩
  refine ⟨by omega,fun x hx=> ?_,?_⟩
  ·have:=h2 x hx
   show (decide (1<=x)&&decide (x<=(m:Int)))=true
   rw [Ba this.1,Ba this.2];rfl
  ·rw [i6 h3]
variable{c:Int}
abbrev fl(ts:List (Int×Int))(ps us:List Int):List Int:=ts.zipIdx.map fun p:(Int×Int)×Nat=>smT ps p.1+us.getD p.2 0
theorem rm:(fl ts ps us).length=ts.length:=by rw [AO,List.length_zipIdx]
theorem u6(hu:us.length=ts.length):tot ts ps us=fl ts ps us:=by
 refine BM (by rw [j9 hu,rm]) fun i h1 h2=> ?_
 rw [BH,BH,List.getElem_zip,BH,List.getElem_zipIdx]
 have hi:i < us.length:=by rw [j9 hu] at h1;omega
 show smT ps _+us[i]=smT ps _+us.getD (0+i) 0
 rw [BA,AS,AN hi];rfl
theorem dd_one{l:List Int}(ne:l≠[]):(dd l).length=1↔∀ x∈l,x=l.getD 0 0:=by
 obtain ⟨a,l',rfl⟩:=List.exists_cons_of_ne_nil ne
 show (dd (a::l')).length=1↔∀ x∈a::l',x=a
 constructor
 ·intro h x hx
  by_cases e:x=a
  ·exact e
  ·exfalso
   have nd:[x,a].Nodup:=by simp [e]
   have:=B7 nd (fun y hy=>by
    rcases A9.mp hy with rfl | hy
    ·exact (jD _ _).mpr hx
    ·rw [Bb.mp hy];exact (jD _ _).mpr AY:[x,a] ⊆ dd (a::l'))
   rw [h] at this;simp at this
 ·intro h
  exact uj (m:=[a]) (by simp) fun x=>⟨fun hx=>by rw [h x hx];simp,fun hx=>by rw [Bb.mp hx];exact AY⟩
theorem AH{i:Nat}(h:i < ts.length):(fl ts ps us).getD i 0=smT ps (ts.getD i (0,0))+us.getD i 0:=by
 rw [AS,Bf,List.getElem?_zipIdx,AS (l:=ts),AN h]
 show smT ps _+us.getD (0+i) 0=_
 rw [BA];rfl
theorem qy(W:We n ts)(ne:ts≠[])(T:Tot n ts ps us c):bB [bL (n:Nat) ts,thD ps us]=some (.ok (.bl true) false,.non):=by
 have tp:0 < ts.length:=BE.mpr ne;have ho:qO (ps++us) ((n+ts.length:Nat):Int)=true:=wx.mpr ⟨by rw [A7,T.lp,T.lu],fun x hx=>by have:=T.b x hx;omega,T.d⟩
 have hc:(fl ts ps us).getD 0 0=c:=by rw [AH tp];exact T.s 0 tp
 have ha:∀ x∈fl ts ps us,x=(fl ts ps us).getD 0 0:=fun x hx=>by
  rw [hc];obtain ⟨p,hp,rfl⟩:=Bn.mp hx;obtain ⟨t,k⟩:=p;obtain ⟨hk1,hk2⟩:=List.mem_zipIdx' hp;have hk1:k < ts.length:=hk1;have hk2:t=ts[k]'hk1:=hk2;have s:=T.s k hk1;rw [AS,AN hk1,<- hk2] at s;exact s
 rw [t_tg W T.lp T.lu (by rw [show (n:Int)+(ts.length:Int)=((n+ts.length:Nat):Int) by omega];exact ho),u6 T.lu,Ba];have:=(dd_one (l:=fl ts ps us) (fun z=>by have:=rm (ts:=ts) (ps:=ps) (us:=us);rw [z] at this;simp at this;omega)).mpr ha;omega
end
end K52
namespace K52
open PySem L2
section
variable{n:Nat}{ts:List (Int×Int)}{ps us:List Int}{c:Int}
theorem nM{L:Int}(ne:ts≠[])(hs:(ts.map (smT ps)).Perm (rgI L ts.length)):zn n ts ps=thD ps (pY n ts ps L):=by
 unfold zn;rw [wE hs (BE.mpr ne),if_pos (t0 hs)]
theorem m8{w:Int}{l:List Int}:bd [.int w,.tup (nD l)]=some (.ok (.tup (nD (l.map fun x=>w - x))) false,.non):=by
 unfold bd eW
 trace "dмМPа"
theorem rW(W:We n ts)(ne:ts≠[])(T:Tot n ts ps us c):b5 [bL (n:Nat) ts,thD ps us]=some (.ok .non false,.non):=by
 have g:=qy W ne T;unfold b5 gN
 trace "ĎƐǷĔy;ЁP"
abbrev opD(n:Nat)(ts:List (Int×Int))(ps us:List Int):D:=thD (ps.map fun x=>(n:Int)+(ts.length:Int)+1 - x) (us.map fun x=>(n:Int)+(ts.length:Int)+1 - x)
theorem An(W:We n ts)(ne:ts≠[])(T:Tot n ts ps us c):aW [bL (n:Nat) ts,thD ps us]=some (.ok (opD n ts ps us) false,.non):=by
 have k:=rW W ne T;have a:=m8 (w:=(n:Int)+(ts.length:Int)+1) (l:=ps);have b:=m8 (w:=(n:Int)+(ts.length:Int)+1) (l:=us);unfold aW eG
 trace "t0ıZĸ!-мœǘ9ѕVƑ!Ǹœǘ9ѕVĜ!Ǹƒа"
theorem mZ(W:We n ts)(ne:ts≠[])(T:Tot n ts ps us c)(np:ps≠[]):cg [bL (n:Nat) ts,thD ps us]=some (.ok (.bl (decide (dQ ps=(n:Int)))) false,.non):=by
 have g:=qy W ne T;have m:=re np
 have q:gEq [.int (dQ ps),.int (n:Nat)]=some (.bl (decide (dQ ps=(n:Int))),false):=by rw [dU]
 unfold cg kr
 trace "d@Z;Q)ѹƓК$įP"
abbrev loD(n:Nat)(ts:List (Int×Int))(ps:List Int)(L:Int):D:=thD (ps.map fun x=>(n:Int)+1 - x) (pY n ts (ps.map fun x=>(n:Int)+1 - x) L)
theorem ve(W:We n ts)(ne:ts≠[])(T:Tot n ts ps us c)(np:ps≠[])(hl:∀ x∈ps,x<=(n:Int))(hm:dQ ps=(n:Int)):bt [bL (n:Nat) ts,thD ps us]=some (.ok (loD n ts ps (2 * ((n:Int)+1) - (c - n - ts.length) - ts.length+1)) false,.non):=by
 have g:=mZ W ne T np;rw [Ba hm] at g;have f:=m8 (w:=(n:Int)+1) (l:=ps);have pp:=fT (w:=(n:Int)+1) (gA T hl).1;rw [show (n:Int)+1 - 1 - n+1=1 by omega] at pp;have ss:=fT (w:=2 * ((n:Int)+1)) (fJ T hl);rw [<- iE W T.lp] at ss;have b:=vf W pp ne;rw [nM ne ss] at b;unfold bt fP
 trace "tзy;Ё-z'9ѮaК$ŅЮĜЄ"
theorem q5(ps us:List Int):gNe [thD ps us,thD ps us]=some (.bl false,false):=by
 have e:ac 9 (thD ps us)=true:=by
  unfold ac
  show (ac 8 (.tup (nD ps))&&(ac 8 (.tup (nD us))&&true))=true
  rw [dX,dX];rfl
 show (if (ac 9 (thD ps us)&&ac 9 (thD ps us))=true then some (D.bl (!eqD (thD ps us) (thD ps us)),false) else none)=_
 rw [e,show eqD (thD ps us) (thD ps us)=true from gf 9 e];rfl
theorem yY(W:We n ts)(ne:ts≠[])(T:Tot n ts ps us c):aW [bL (n:Nat) ts,opD n ts ps us]=some (.ok (thD ps us) false,.non):=by
 have:=An W ne (mX W T);rw [this]
 show some (Res.ok (thD _ _) false,D.non)=_
 rw [nc,nc]
theorem zm(W:We n ts)(ne:ts≠[])(T:Tot n ts ps us c)(np:ps≠[])(hl:∀ x∈ps,x<=(n:Int))(n0:0 < n):bt [bL (n:Nat) ts,loD n ts ps (2 * ((n:Int)+1) - (c - n - ts.length) - ts.length+1)]=some (.ok (thD ps us) false,.non):=by
 have pp:=fT (w:=(n:Int)+1) (gA T hl).1;rw [show (n:Int)+1 - 1 - n+1=1 by omega] at pp;have ss:=fT (w:=2 * ((n:Int)+1)) (fJ T hl);rw [<- iE W T.lp] at ss;have T':=nL pp ss
 have hl':∀ x∈ps.map (fun x=>(n:Int)+1 - x),x<=(n:Int):=fun x hx=>by
  have:=ak.mp (pp.mem_iff.mp hx);omega
 have mx:=wG pp n0;have e:=ve W ne T' (by simpa using np) hl' (by omega);rw [show 2 * ((n:Int)+1) - (2 * ((n:Int)+1) - (c - n - ts.length) - ts.length+1+n+ts.length - n - ts.length) - ts.length+1=c - n - ts.length by omega] at e;rw [e];unfold loD;rw [nc,oK T]
theorem xZ(W:We n ts)(ne:ts≠[])(T:Tot n ts ps us c):bP [bL (n:Nat) ts,thD ps us]=some (.ok (.int c) false,.non):=by
 have tp:0 < ts.length:=BE.mpr ne;have k:=rW W ne T;have e:=Al (m:=(n:Nat)) W T.lp T.lu
 have g0:gIx [.lst (nD (tot ts ps us)),.int 0]=some (.int c,false):=by
  rw [u6 T.lu,bO (by omega) (by rw [rm];omega)]
  show some (D.int ((fl ts ps us).getD 0 0),false)=_
  rw [AH tp,T.s 0 tp]
 unfold bP kq
 trace "t0ıZĸ!-)j3!_ƔP"
end
end K52
namespace K52
open PySem L2
theorem uV:∀ (l:List Int) (k:Nat),((l.zipIdx k).map fun p=>p.1 * ((p.2:Int)+1)).sum=wo (k:Int) l
 | [],_=>rfl
 | x::l,k=>by
  rw [List.zipIdx_cons,A4,Br,uV l (k+1)]
  show x * ((k:Int)+1)+wo ((k+1:Nat):Int) l=x * ((k:Int)+1)+wo ((k:Int)+1) l
  rfl
theorem rU{l:List Int}(hl:l.length<=100):br [.lst (nD l)]=some (.ok (.int (wo 0 l)) false,.non):=by
 have g:∀ p∈l.zipIdx,cC [.int p.1,.int ((p.2:Nat)+1)]=some (.int (p.1 * ((p.2:Int)+1)),false):=fun p hp=>by
  have:=(List.mem_zipIdx' (x:=p.1) (i:=p.2) hp).1;exact nT (by omega) (by omega)
 have e:=uV l 0
 have gs:qY [.lst (nD (l.zipIdx.map fun p=>p.1 * ((p.2:Int)+1)))]=some (.int (wo 0 l),false):=by
  rw [t5,e];rfl
 unfold br eF
 trace "d}:ƕкшȎЗcСTŃǖQ$ĖP"
section
variable{n:Nat}{ts:List (Int×Int)}{ps us:List Int}{c:Int}
theorem oO(O:cH n ts):cG [bL (n:Nat) ts]=some (.ok (.tup (nD (lA n ts))) false,.non):=by
 have h:eA [bL (n:Nat) ts]=some (.ok (.lst ((List.range n).map fun j=> .lst (nD (Td.nb (j:Nat) ts)))) false,.non):=xV O;unfold cG iK
 trace "dѤwEPИcTňQа"
theorem zh:(oft n ts).length=n+ts.length:=by
 rw [A7,AO];unfold lA;rw [AO,BR]
theorem t_span(O:cH n ts)(hb:n+ts.length<=60)(ne:ts≠[]):dl [bL (n:Nat) ts]=some (.ok (.tup [.int ((wo 0 (aC (oft n ts)).reverse+ts.length - 1) / ts.length),.int (wo 0 (aC (oft n ts)) / ts.length)]) false,.non):=by
 have tp:0 < ts.length:=BE.mpr ne;have c:=oO O;have ol:=zh (n:=n) (ts:=ts);have gl:cD [.tup (nD (lA n ts))]=some (.lst (nD (lA n ts)),true):=rfl
 have ga:ay [.lst (nD (lA n ts)),.lst (nD (ts.map fun _=>(1:Int)))]=some (.lst (nD (oft n ts)),true):=by
  show (if small _=true then _ else _)=_
  rw [if_pos (bW (by rw [<- A7,<- Bm,AO];exact (show (oft n ts).length<=1000 by omega))),nD,nD,nD,<- Bm]
 have gs:dG [.lst (nD (oft n ts))]=some (.lst (nD (aC (oft n ts))),true):=jQ (by omega)
 have gr:eQ [.lst (nD (oft n ts))]=some (.lst (nD (aC (oft n ts)).reverse),true):=by
  unfold eQ;simp only [bz];rw [if_pos (Ba (by omega))]
 have w1:=rU (l:=(aC (oft n ts)).reverse) (by rw [List.length_reverse,(aX _).length_eq];omega);have w2:=rU (l:=aC (oft n ts)) (by rw [(aX _).length_eq];omega)
 generalize oft n ts=of at *
 have f1:dI [.int (wo 0 (aC of).reverse+(ts.length:Nat) - 1),.int (ts.length:Nat)]=some (.int ((wo 0 (aC of).reverse+ts.length - 1) / ts.length),false):=eR (by omega) (by omega);have f2:dI [.int (wo 0 (aC of)),.int (ts.length:Nat)]=some (.int (wo 0 (aC of) / ts.length),false):=eR (by omega) (by omega);unfold dl iG
 trace "x)o'wİ!$ĕ'fcѣPИ4QюВ9nĀ$ƖБ9nĖ$ƗБmЖ$đi-vЍѥaVƘ.lƙ*P"
end
end K52
namespace K52
open PySem L2
section
variable{n:Nat}{ts:List (Int×Int)}{ps us:List Int}{c:Int}
theorem rZ(O:cH n ts)(hb:n+ts.length<=60)(ne:ts≠[])(T:Tot n ts ps us c):be [bL (n:Nat) ts,.int c]=some (.ok (.bl true) false,.non):=by
 have tp:(0:Int) < ts.length:=by have:=BE.mpr ne;omega
 have s:=t_span O hb ne;have w:=T.span O.r
 have h1:(wo 0 (aC (oft n ts)).reverse+ts.length - 1) / ts.length<=c:=by
  have:(wo 0 (aC (oft n ts)).reverse+ts.length - 1) / ts.length < c+1:=Int.ediv_lt_of_lt_mul tp (by rw [Int.add_mul,Int.one_mul];omega);omega
 have h2:c<=wo 0 (aC (oft n ts)) / ts.length:=(Int.le_ediv_iff_mul_le tp).mpr w.2
 generalize (wo 0 (aC (oft n ts)).reverse+ts.length - 1) / ts.length=lo at *
 generalize wo 0 (aC (oft n ts)) / ts.length=hi at *
 have g1:gLe [.int lo,.int c]=some (.bl true,false):=by show some (D.bl (decide (lo<=c)),false)=_;rw [Ba h1]
 have g2:gLe [.int c,.int hi]=some (.bl true,false):=by show some (D.bl (decide (c<=hi)),false)=_;rw [Ba h2]
 unfold be dR
 trace "t0Ćwƚ!ǘ-Ł'6!'6!$ŏ6!<P"
theorem vx(O:cH n ts)(T:Tot n ts ps us c){s:Int}(hs:2<=s)(hs2:s<=1000):aK [bL (n:Nat) ts,.int s]=some (.ok (.bl false) false,.non):=by
 have on:=O.n;have ol:=O.l;have k:=oO O;have gm:ff [.int (ts.length:Nat),.int s]=some (.int ((ts.length:Int) % s),false):=gF (by omega);have gx:cC [.int ((n:Int)+(ts.length:Int)),.int ((n:Int)+(ts.length:Int)+1)]=some (.int (((n:Int)+(ts.length:Int)) * ((n:Int)+(ts.length:Int)+1)),false):=nT (by omega) (by omega);have gd:dI [.int (((n:Int)+(ts.length:Int)) * ((n:Int)+(ts.length:Int)+1)),.int 2]=some (.int (((n:Int)+(ts.length:Int)) * ((n:Int)+(ts.length:Int)+1) / 2),false):=eR (by omega) (by omega);have ge:ff [.int (((n:Int)+(ts.length:Int)) * ((n:Int)+(ts.length:Int)+1) / 2),.int s]=some (.int (((n:Int)+(ts.length:Int)) * ((n:Int)+(ts.length:Int)+1) / 2 % s),false):=gF (by omega)
 have q0:¬ s < 2:=by omega
 by_cases h1:(ts.length:Int) % s=0
 ·have n1:gNe [.int ((ts.length:Int) % s),.int 0]=some (.bl false,false):=by rw [gE,Ba h1];rfl
  by_cases h2:((n:Int)+(ts.length:Int)) * ((n:Int)+(ts.length:Int)+1) / 2 % s=0
  ·have n2:gEq [.int (((n:Int)+(ts.length:Int)) * ((n:Int)+(ts.length:Int)+1) / 2 % s),.int 0]=some (.bl true,false):=by rw [dU,Ba h2]
   unfold aK bi
   trace "xmЖЙђėā7(`|Ǫ7іЙVA_Ĺ!іЉСTĳ_ŔVF_ŕ!-4P"
  ·have n2:gEq [.int (((n:Int)+(ts.length:Int)) * ((n:Int)+(ts.length:Int)+1) / 2 % s),.int 0]=some (.bl false,false):=by rw [dU,Bk h2]
   have h3:((lA n ts).map fun x=>decide ((x - 1) % s=0)).all id=false:=by
    rw [List.all_map]
    refine Bool.eq_false_iff.mpr fun z=>h2 (T.share O.r h1 fun x hx=> ?_)
    exact A6 (Bg.mp z x hx)
   have g1:∀ x∈lA n ts,ff [.int (x - 1),.int s]=some (.int ((x - 1) % s),false):=fun x _=>gF (by omega)
   have g2:∀ x∈lA n ts,gEq [.int ((x - 1) % s),.int 0]=some (.bl (decide ((x - 1) % s=0)),false):=fun x _=>by rw [dU]
   have ga:nU [.lst (bD ((lA n ts).map fun x=>decide ((x - 1) % s=0)))]=some (.bl false,false):=by rw [pV,h3]
   unfold aK bi
   trace "xmЖЙђЋ(`|Ǫ7іЙVA_Ĺ!іЉСTĳ_ŔVF_ŕНѤwĸPĐǞЗЍ|VŖǖ_ƛǖQюP"
 ·have n1:gNe [.int ((ts.length:Int) % s),.int 0]=some (.bl true,false):=by rw [gE,Bk h1];rfl
  unfold aK bi
  trace "xmЖЙђėā7(`|ǪƜіЙVA_ĹQ-4P"
end
end K52
namespace K52
open PySem L2
abbrev shD(s:Int):D:= .tup [.str "share",.int s]
abbrev tiD:D:= .tup [.str "ties"]
theorem uh(s:Int):bU [bI,shD s]=some (.ok (.bl true) false,.non):=by
 have h := @mY;have g1:gIn [.tup [.str "share",.int 1],bI]=some (.bl true,false):=rfl;have g2:wZ [.tup [.str "share",.int s],.int 1]=some (.tup (nD [s]),false):=rfl;have g3:bG [.int 2,.int 1]=some (.int 1,false):=rfl;have g4:bH [.tup [.str "share",.int s]]=some (.int 2,false):=rfl;have g5:gEq [.int 2,.int 0]=some (.bl false,false):=rfl;unfold bU eX
 trace "tыбY(nĝ_ķН@}vcЖ.mTĝ_Ķ*VсѤca<QĐǞЗwďP$ǱP"
theorem ug:bU [bI,tiD]=some (.ok (.bl true) false,.non):=by
 have h := @mY;have g1:gIn [.tup [.str "ties",.int 0],bI]=some (.bl true,false):=rfl;have g2:wZ [.tup [.str "ties"],.int 1]=some (.tup (nD []),false):=rfl;have g3:bG [.int 1,.int 1]=some (.int 0,false):=rfl;have g4:bH [.tup [.str "ties"]]=some (.int 1,false):=rfl;have g5:gEq [.int 1,.int 0]=some (.bl false,false):=rfl;unfold bU eX
 trace "tыбY(nĝ_ķН@}vcЖ.mTĝ_Ķ*VсѤca<QĐǞЗwďP$ǱP"
section
variable{n:Nat}{ts:List (Int×Int)}{ps us:List Int}{c:Int}
theorem wU(O:cH n ts)(T:Tot n ts ps us c){s:Int}(hs:2<=s)(hs2:s<=1000):au [bL (n:Nat) ts,shD s]=some (.ok (.bl false) false,.non):=by
 have b:=uh s;have h:=vx O T hs hs2;have g:gEq [.str "share",.str "ties"]=some (.bl false,false):=rfl;unfold au cr
 trace "tзѳ9rVĜЁз(К_;НzэEЄ"
theorem wT:au [bL (n:Nat) ts,tiD]=some (.ok (.bl (decide ((ts.length:Int) > 2 * (n:Int) - 3))) false,.non):=by
 have b:=ug;have g:gEq [.str "ties",.str "ties"]=some (.bl true,false):=rfl;have gm:cC [.int 2,.int (n:Nat)]=some (.int (2 * (n:Int)),false):=lj (by omega) (by omega);have gg:gGt [.int (ts.length:Nat),.int (2 * (n:Int) - 3)]=some (.bl (decide ((ts.length:Int) > 2 * (n:Int) - 3)),false):=rfl;unfold au cr
 trace "tзѳ9rVĜЁėā(К_;!-)ЙoЎКЏa$ĲP"
abbrev rM(n:Nat)(ts:List (Int×Int)):List D:=if (ts.length:Int) > 2 * (n:Int) - 3 then [tiD] else []
def pB(n:Nat)(ts:List (Int×Int)):D->Bool
 | .tup [.str _]=>decide ((ts.length:Int) > 2 * (n:Int) - 3)
 | _=>false
theorem t_shb{q:Nat}(hq:q<=100):dq [.int (q:Nat)]=some (.ok (.lst ((rgI 2 (q - 1)).map shD)) true,.non):=by
 have e:((q:Int)+1 - 2).toNat=q - 1:=by omega
 rw [<- e]
 have c:∀ m:Nat,aT 1 (.nm 1) none (cc [(sC (.str "share")),(aG 1)]) (nD (rgI 2 m)) [some (.int (q:Nat),.fz)]=some ((rgI 2 m).map shD,[some (.int (q:Nat),.fz)]):=fun m=>by
  have:=eL (k:=1) (T:= .nm 1) (f:=cc [(sC (.str "share")),(aG 1)]) (ρ:=[some (.int (q:Nat),.fz)]) (inj:=D.int) (g:=shD) (rgI 2 m) fun s _=>by trace "ЗvрпQ"
  exact this
 have c1:=c ((q:Int)+1 - 2).toNat;clear e c;unfold dq iL
 trace "d:ŇrС$kkǗ!ƝP"
theorem vj(O:cH n ts)(T:Tot n ts ps us c):cF [bL (n:Nat) ts]=some (.ok (.lst (rM n ts)) true,.non):=by
 have ol:=O.l;have sb:=t_shb (q:=ts.length) (by omega)
 have hs:∀ s∈rgI 2 (ts.length - 1),au [bL (n:Nat) ts,shD s]=some (.ok (.bl false) false,.non):=fun s hs=>by
  have:=ak.mp hs;exact wU O T (by omega) (by omega)
 have ht:=wT (n:=n) (ts:=ts)
 have ga:ay [.lst ((rgI 2 (ts.length - 1)).map shD),.lst [tiD]]=some (.lst ((rgI 2 (ts.length - 1)).map shD++[tiD]),true):=by
  show (if small _=true then _ else _)=_
  rw [if_pos (bW (by rw [AO,aj];show _+1<=_;omega))]
 have all:∀ d∈(rgI 2 (ts.length - 1)).map shD++[tiD],au [bL (n:Nat) ts,d]=some (.ok (.bl (pB n ts d)) false,.non):=fun d hd=>by
  rcases Bd.mp hd with hd | hd
  ·obtain ⟨s,h,rfl⟩:=Bn.mp hd
   exact hs s h
  ·rw [Bb.mp hd];exact ht
 have fl:((rgI 2 (ts.length - 1)).map shD++[tiD]).filter (pB n ts)=rM n ts:=by
  rw [List.filter_append,List.filter_eq_nil_iff.mpr (fun d hd=>by
   obtain ⟨s,_,rfl⟩:=Bn.mp hd
   show ¬ false=true
   decide),BN]
  unfold rM
  by_cases h:(ts.length:Int) > 2 * (n:Int) - 3
  ·rw [if_pos h,List.filter_cons_of_pos (by show decide _=true;exact Ba h)]
   rfl
  ·rw [if_neg h,List.filter_cons_of_neg (by show ¬ decide _=true;rw [Bk h];decide)]
   rfl
 have c:aT 1 (.nm 1) (some (cy (.ex (af none none au [.bor 0,.bor 1])))) (aG 1) ((rgI 2 (ts.length - 1)).map shD++[tiD]) [some (bL (n:Nat) ts,.fz)]=some (rM n ts,[some (bL (n:Nat) ts,.fz)]):=by
  have:=kB (k:=1) (T:= .nm 1) (c:=cy (.ex (af none none au [.bor 0,.bor 1]))) (f:=aG 1) (ρ:=[some (bL (n:Nat) ts,.fz)]) (inj:=id) (g:=id) (p:=pB n ts) ((rgI 2 (ts.length - 1)).map shD++[tiD]) fun d hd=>by
   have h:=all d hd;dsimp only [id]
   trace "ƞǘJjE^!к"
  rw [List.map_id,List.map_id,fl] at this;exact this
 unfold cF iJ
 trace "df}9Й$Ɵ!'Рv4**юQİP"
end
end K52
namespace K52
open PySem L2
section
variable{n:Nat}{ts:List (Int×Int)}{ps us:List Int}{c:Int}
theorem wJ{L:Int}(O:cH n ts)(hp:ps.Perm (rgI 1 n))(ne:ts≠[])(hs:(ts.map (smT ps)).Perm (rgI L ts.length)):¬ (ts.length:Int) > 2 * (n:Int) - 3:=by
 have tp:0 < ts.length:=BE.mpr ne
 have pl:ps.length=n:=by rw [hp.length_eq,aj]
 have nd:ps.Nodup:=hp.nodup_iff.mpr (aJ _ _)
 have key:∀ t∈ts,3<=smT ps t/\smT ps t<=2 * (n:Int) - 1:=fun t ht=>by
  have r:=O.r t ht;have a1:=ak.mp (hp.mem_iff.mp (cB (l:=ps) (i:=t.1.toNat) (by omega)));have a2:=ak.mp (hp.mem_iff.mp (cB (l:=ps) (i:=t.2.toNat) (by omega)))
  have a3:ps.getD t.1.toNat 0≠ps.getD t.2.toNat 0:=fun z=>by
   rw [AS,AS,AN (by omega),AN (by omega)] at z;exact Ce.mp nd t.1.toNat t.2.toNat (by omega) (by omega) (by omega) z
  unfold smT;omega
 obtain ⟨t1,h1,e1⟩:=Bn.mp (hs.mem_iff.mpr (ak.mpr (show L<=L/\L < L+ts.length by omega)));obtain ⟨t2,h2,e2⟩:=Bn.mp (hs.mem_iff.mpr (ak.mpr (show L<=L+ts.length - 1/\L+ts.length - 1 < L+ts.length by omega)));have k1:=key t1 h1;have k2:=key t2 h2;omega
theorem jv(W:We n ts)(O:cH n ts)(ne:ts≠[])(T:Tot n ts ps us c)(np:ps≠[])(n0:0 < n)(hm:dQ ps=(n:Int)):bu [bL (n:Nat) ts,thD ps us]=some (.ok (.bl true) false,.non):=by
 have wn:=W.n
 have hl:∀ x∈ps,x<=(n:Int):=fun x hx=>by have:=(gB np).2 x hx;omega
 have lo:=ve W ne T np hl hm;have ll:=zm W ne T np hl n0;have pp:=fT (w:=(n:Int)+1) (gA T hl).1;rw [show (n:Int)+1 - 1 - n+1=1 by omega] at pp;have ss:=fT (w:=2 * ((n:Int)+1)) (fJ T hl);rw [<- iE W T.lp] at ss;have T':=nL pp ss
 have np':(ps.map fun x=>(n:Int)+1 - x)≠[]:=by simpa using np
 have lg:=mZ W ne T' np';rw [Ba (by have:=wG pp n0;omega)] at lg;have b1:=vf W (gA T hl).1 ne;rw [nM ne (fJ T hl),oK T] at b1;have b2:=vf W pp ne;rw [nM ne ss] at b2;have g1:=q5 ps us;have o1:=xZ W ne T;have o2:=xZ W ne T';have ba:=vj O T;rw [show rM n ts=[] from if_neg (wJ O (gA T hl).1 ne (fJ T hl))] at ba;have gi:lf [tiD,.lst []]=some (.bl true,false):=rfl;have gm:cC [.int 4,.int (n:Nat)]=some (.int (4 * (n:Int)),false):=lj (by omega) (by omega);have ge:=gEq_th ps us
 generalize hL:2 * ((n:Int)+1) - (c - n - ts.length) - ts.length+1=L at *
 have g2:=q5 (ps.map fun x=>(n:Int)+1 - x) (pY n ts (ps.map fun x=>(n:Int)+1 - x) L)
 have gn:gNe [.int (c+(L+n+ts.length)),.int (4 * (n:Int)+(ts.length:Int)+3)]=some (.bl false,false):=by rw [gE,Ba (by omega)];rfl
 unfold bu eJ
 trace "xZƠqЋyơ^7їzэƢтсїzэƣт<Уіjć!ФЮooЎКЏѿaоН@}v4*'wĈ!$ƥ!)jƦтFP"
theorem xK{x1 x2 x3:Option (D×Md)}:aT 1 (.nm 4) (some (bE gNe [.bor 4,.ex (cc [(sC (.str "ties"))])])) (aG 4) (rM n ts) [some (bL (n:Nat) ts,.fz),x1,x2,x3]=some ([],[some (bL (n:Nat) ts,.fz),x1,x2,x3]):=by
 unfold rM
 split
 ·rfl
 ·rfl
theorem vG(W:We n ts)(O:cH n ts)(hb:n+ts.length<=60)(ne:ts≠[])(T:Tot n ts ps us c):bC [bL (n:Nat) ts,thD ps us]=some (.ok (.bl true) false,.non):=by
 have n0:=O.n0
 have np:ps≠[]:=fun z=>by have:=T.lp;rw [z] at this;simp at this;omega
 have T':=mX W T
 have np':(ps.map fun x=>(n:Int)+(ts.length:Int)+1 - x)≠[]:=by simpa using np
 have o1:=xZ W ne T;have o2:=xZ W ne T';have op:=An W ne T;have oo:=yY W ne T;have g':=qy W ne T';have s1:=rZ O hb ne T;have s2:=rZ O hb ne T';have gq:=q5 ps us;have gm:cC [.int 3,.int ((n:Int)+(ts.length:Int)+1)]=some (.int (3 * ((n:Int)+(ts.length:Int)+1)),false):=lj (by omega) (by omega)
 have gn:gNe [.int (c+(3 * ((n:Int)+(ts.length:Int)+1) - c)),.int (3 * ((n:Int)+(ts.length:Int)+1))]=some (.bl false,false):=by rw [gE,Ba (by omega)];rfl
 have ba:=vj O T;have bc:=xK (n:=n) (ts:=ts) (x1:=some (thD ps us,.fz)) (x2:=some (.int c,.fz)) (x3:=some (opD n ts ps us,.fz));have ge:gNe [.lst [],.lst []]=some (.bl false,false):=rfl;have l1:=mZ W ne T np;have l2:=mZ W ne T' np'
 by_cases h1:dQ ps=(n:Int)
 ·have r1:=jv W O ne T np n0 h1
  rw [Ba h1] at l1
  by_cases h2:dQ (ps.map fun x=>(n:Int)+(ts.length:Int)+1 - x)=(n:Int)
  ·have r2:=jv W O ne T' np' n0 h2
   rw [Ba h2] at l2;unfold bC cv
   trace "xZćБZĞqЋyğ^7yĠ^ьФЮġЁЋ(ЈФ^ЎѕЏо!(jĢтģУїfwĈPĤ'О$FУŗJjĥ^yŘЁ-řOZĦQZŚЄ"
  ·rw [Bk h2] at l2
   unfold bC cv
   trace "xZćБZĞqЋyğ^7yĠ^ьФЮġЁЋ(ЈФ^ЎѕЏо!(jĢтģУїfwĈPĤ'О$FУśJjĥ^НřOZĦQZŚЄ"
 ·rw [Bk h1] at l1
  by_cases h2:dQ (ps.map fun x=>(n:Int)+(ts.length:Int)+1 - x)=(n:Int)
  ·have r2:=jv W O ne T' np' n0 h2
   rw [Ba h2] at l2;unfold bC cv
   trace "xZćБZĞqЋyğ^7yĠ^ьФЮġЁЋ(ЈФ^ЎѕЏо!(jĢтģУїfwĈPĤ'О$FУŗJjĥ^yŘЁ-ŜOZĦQP"
  ·rw [Bk h2] at l2
   unfold bC cv
   trace "xZćБZĞqЋyğ^7yĠ^ьФЮġЁЋ(ЈФ^ЎѕЏо!(jĢтģУїfwĈPĤ'О$FУśJjĥ^НŜOZĦQP"
end
end K52
namespace K52
open PySem L2
abbrev di(m n i:Nat):List (Int×Int):=(rgI 0 i).flatMap fun a=>(rgI 0 n).map fun b=>(a,(m:Int)+b)
theorem oS(m n i:Nat):di m n (i+1)=di m n i++(rgI 0 n).map fun b=>((i:Int),(m:Int)+b):=by
 unfold di;rw [bZ,List.flatMap_append];simp
theorem nh(m n:Nat):∀ i,(di m n i).length=i * n
 | 0=>by simp [di,rgI]
 | i+1=>by rw [oS,A7,nh m n i,AO,aj,Nat.succ_mul]
theorem sid_in{m n i:Nat}(h:i<=m):∀ t∈di m n i,0<=t.1/\t.1 < m/\(m:Int)<=t.2/\t.2 < (m:Int)+n:=fun t ht=>by
 obtain ⟨a,ha,h3⟩:=List.mem_flatMap.mp ht;obtain ⟨b,hb,rfl⟩:=Bn.mp h3;have h1:=ak.mp ha;have h2:=ak.mp hb
 show 0<=a/\a < m/\(m:Int)<=(m:Int)+b/\(m:Int)+b < (m:Int)+n
 omega
theorem qz{m n:Nat}(hm:m<=4)(hn:n<=5)(y:Option (D×Md)):∃ y',bY (.nm 3) cu (nD (rgI 0 m)) [some (.int (m:Nat),.fz),some (.int (n:Nat),.fz),some (.lst [],.ow),y]=some (.nx,[some (.int (m:Nat),.fz),some (.int (n:Nat),.fz),some (.lst (tD (di m n m)),.ow),y']):=by
 obtain ⟨ρ',e,y',rfl⟩:=kA (T:= .nm 3) (f:=cu) (fun i ρ=>∃ y,ρ=[some (.int (m:Nat),.fz),some (.int (n:Nat),.fz),some (.lst (tD (di m n i)),.ow),y]) m [some (.int (m:Nat),.fz),some (.int (n:Nat),.fz),some (.lst [],.ow),y] ⟨y,rfl⟩ (by
  rintro i hi ρ ⟨y,rfl⟩;have hl:=nh m n i;have hb:i * n<=4 * 5:=Nat.mul_le_mul (by omega) hn
  have eN:((n:Nat):Int).toNat=n:=by omega
  have ex:iC (.lst (tD (di m n i))) [.lst (tD ((rgI 0 n).map fun b=>((i:Int),(m:Int)+b)))]=some (.lst (tD (di m n (i+1))),.non):=by
   rw [oS]
   show (if small _=true then _ else _)=_
   rw [if_pos (bW (by rw [AO,AO,AO,aj];omega)),tD,tD,tD,Bm]
  unfold cu
  trace "ЬЇ:ąVǗ!ŋǞѓІlЫQgƧǔ"
  exact ⟨_,rfl⟩)
 exact ⟨_,e⟩
theorem xY{m n:Nat}(hm:m<=4)(hn:n<=5):dv [.int (m:Nat),.int (n:Nat)]=some (.ok (.tup [.int ((m:Nat)+(n:Nat)),.lst (tD (di m n m)),.lst (nD (rgI 0 m++(rgI 0 n).map fun b=>(m:Int) * (b+1)))]) false,.non):=by
 obtain ⟨y,e⟩:=qz hm hn none
 have eM:((m:Nat):Int).toNat=m:=by omega
 have eN:((n:Nat):Int).toNat=n:=by omega
 have gm:∀ b∈rgI 0 n,cC [.int (m:Nat),.int (b+1)]=some (.int ((m:Int) * (b+1)),false):=fun b hb=>lj (by omega) (by omega)
 have gr:cD [.rng 0 (m:Nat)]=some (.lst (nD (rgI 0 m)),true):=by
  rw [jB (by omega) (by omega) (by omega) (by omega) (by omega),show ((m:Nat) - (0:Int)).toNat=m by omega]
 have ga:ay [.lst (nD (rgI 0 m)),.lst (nD ((rgI 0 n).map fun b=>(m:Int) * (b+1)))]=some (.lst (nD (rgI 0 m++(rgI 0 n).map fun b=>(m:Int) * (b+1))),true):=by
  show (if small _=true then _ else _)=_
  rw [if_pos (bW (by rw [AO,AO,AO,aj,aj];omega)),nD,nD,nD,Bm]
 unfold dv iN
 trace "xОi0LąVǗ3-vlѦв)oб$Ā':ąVǗ!шѓcСTƨǖQю*P"
theorem nV:∀ l:List Int,bA (nD l)=true
 | []=>rfl
 | _::l=>nV l
theorem sT:∀ l:List (Int×Int),bA (tD l)=true
 | []=>rfl
 | _::l=>sT l
theorem xm(n:Nat)(rs:List (Int×Int))(gs vs:List Int):fA (D.tup [bL (n:Nat) rs,thD gs vs]) false=true:=by
 show (((true&&((bA (tD rs))&&true))&&((bA (nD gs)&&(bA (nD vs)&&true))&&true)))=true
 rw [nV,nV,sT];rfl
theorem tr_put(n:Nat)(rs:List (Int×Int))(gs vs:List Int)(as:List L2.Arg)(ρ:Rho):(bF none 0 as ρ||(fA (D.tup [bL (n:Nat) rs,thD gs vs]) false&&((none:Option Nat).isNone||bV D.non)))=true:=by
 rw [xm];cases bF none 0 as ρ<;>rfl
def Mt(d:D)(nw:Bool)(ρ:Rho):Prop:=∃ (n:Nat) (rs:List (Int×Int)) (gs vs:List Int) (c:Int) (P:Pn),We n rs/\cH n rs/\n+rs.length<=60/\rs≠[]/\Tot n rs gs vs c/\d = .tup [bL (n:Nat) rs,thD gs vs]/\nw=false/\ρ[0]?=some (some (pD P,.io))
theorem Ak{n:Nat}{ts:List (Int×Int)}{ps us:List Int}{c:Int}{P:Pn}{x1 x2 x3:Option (D×Md)}{m6 m7:Md}(hm:(m6 = .ow/\m7 = .ow)\/(m6 = .fz/\m7 = .fz))(W:We n ts)(h1:∀ t∈ts,t.1 < t.2)(nd:ts.Nodup)(h2:ts.length<=40/\n+ts.length<=60)(ne:ts≠[])(T:Tot n ts ps us c):qt (aU [some (pD P,.io),x1,x2,x3,some (.int (n:Nat),.fz),some (.lst (tD ts),.fz),some (.lst (nD us),m6),some (.lst (nD ps),m7),none]) Mt:=by
 have wn:=W.n;have tp := @tr_put
 have lt:bH [.lst (tD ts)]=some (.int (ts.length:Nat),false):=by rw [gG]
 by_cases h:dr P 3=0
 ·obtain ⟨P',os,ho,eo⟩:=rV (m:=n) (by omega) (nx P 3)
  obtain ⟨rs,gs,vs',e,W',ne',T',O',hl'⟩:=Am W h1 nd h2.1 (mX W T) ho ne
  rcases hm with ⟨rfl,rfl⟩ | ⟨rfl,rfl⟩
  ·unfold aU
   trace "5яmnŝY|ǔsfйQМQq=fйQМQq"
   trace "Тщ``чUħЩа3Ĩ"
   exact ⟨n,rs,gs,vs',_,P',W',O',by rw [hl'];exact h2.2,ne',T',rfl,rfl,rfl⟩
  ·unfold aU
   trace "5яmnŝY|ǔsfкМQq=fкМQq"
   trace "Тщ``чUħЩа3Ĩ"
   exact ⟨n,rs,gs,vs',_,P',W',O',by rw [hl'];exact h2.2,ne',T',rfl,rfl,rfl⟩
 ·obtain ⟨P',os,ho,eo⟩:=rV (m:=n) (by omega) (nx P 3)
  obtain ⟨rs,gs,vs',e,W',ne',T',O',hl'⟩:=Am W h1 nd h2.1 T ho ne
  rcases hm with ⟨rfl,rfl⟩ | ⟨rfl,rfl⟩
  ·unfold aU
   trace "5ѐ"
   trace "Тщ``чUħЩа3Ĩ"
   exact ⟨n,rs,gs,vs',_,P',W',O',by rw [hl'];exact h2.2,ne',T',rfl,rfl,rfl⟩
  ·unfold aU
   trace "5ѐ"
   trace "Тщ``чUħЩа3Ĩ"
   exact ⟨n,rs,gs,vs',_,P',W',O',by rw [hl'];exact h2.2,ne',T',rfl,rfl,rfl⟩
abbrev sdQ(m n:Nat):List Int:=((rgI 0 m).map fun a=>(a+1) * ((n:Int)+1))++(rgI 0 n).map fun b=>b+1
abbrev sdV(m n:Nat):List Int:=(di m n m).map fun t=>((m:Int)+2) * ((n:Int)+1) - (sdQ m n).getD t.1.toNat 0 - (sdQ m n).getD t.2.toNat 0
def sdG(m n:Nat):Bool:=sx (sdQ m n++sdV m n) 1&&decide (di m n m).Nodup
theorem sd_all:((List.range 4).all fun m=>(List.range 5).all fun n=>sdG (m+1) (n+1))=true:=by decide +kernel
theorem r8(m n:Nat):(sdQ m n).length=m+n:=by rw [A7,AO,AO,aj,aj]
theorem sd_is{m n:Nat}(h1:1<=m)(h2:m<=4)(h3:1<=n)(h4:n<=5):Tot (m+n) (di m n m) (sdQ m n) (sdV m n) (((m:Int)+2) * ((n:Int)+1))/\(di m n m).Nodup:=by
 have a:=Bg.mp (Bg.mp sd_all (m - 1) (BO.mpr (by omega))) (n - 1) (BO.mpr (by omega));rw [show m - 1+1=m by omega,show n - 1+1=n by omega] at a;have ⟨b,c⟩:=(Bh _ _).mp a;have p:=kN b;have lv:(sdV m n).length=(di m n m).length:=AO _
 have ll:(sdQ m n++sdV m n).length=m+n+(di m n m).length:=by rw [A7,r8,lv]
 refine ⟨⟨r8 m n,lv,fun x hx=> ?_,p.nodup_iff.mpr (aJ _ _),fun i hi=> ?_⟩,A6 c⟩
 ·have:=ak.mp (p.mem_iff.mp hx)
  rw [ll] at this;omega
 ·rw [AS,AN hi,AS,Bf,AN hi]
  show (sdQ m n).getD ((di m n m)[i]'hi).1.toNat 0+(sdQ m n).getD ((di m n m)[i]'hi).2.toNat 0+(((m:Int)+2) * ((n:Int)+1) - (sdQ m n).getD ((di m n m)[i]'hi).1.toNat 0 - (sdQ m n).getD ((di m n m)[i]'hi).2.toNat 0)=_
  omega
theorem x9(P:Pn):∃ (n:Nat) (ts:List (Int×Int)) (ps us:List Int) (c:Int) (P':Pn),b8 [pD P,.int 24]=some (.ok (.tup [.int (n:Nat),.lst (tD ts),.lst (nD ps),.lst (nD us)]) false,pD P')/\We n ts/\(∀ t∈ts,t.1 < t.2)/\ts.Nodup/\(ts.length<=40/\n+ts.length<=60)/\ts≠[]/\Tot n ts ps us c:=by
 obtain ⟨d,nw,ρ',e,n,ts,ps,us,c,P',W,h1,nd,h2,ne,T,rfl,rfl,h0⟩:=t_made P;refine ⟨n,ts,ps,us,c,P',?_,W,h1,nd,h2,ne,T⟩;unfold b8;refine r_fn (ρ1:=ρ') rfl e ?_ rfl;unfold ioD;simp only [h0]
theorem u9(P:Pn):qt (eh [some (pD P,.io),some (.int 24,.fz),none,none,none,none,none,none,none]) Mt:=by
 unfold eh
 by_cases h:dr P 3=0
 ·have b1:=qa (nx P 3) (m:=4) (by omega) (by omega)
  have b2:=qa (nx (nx P 3) 4) (m:=5) (by omega) (by omega);obtain ⟨m,hm⟩:∃ m:Nat,(1+dr (nx P 3) 4)=(m:Int):=⟨(1+dr (nx P 3) 4).toNat,by omega⟩;obtain ⟨n,hn⟩:∃ n:Nat,(1+dr (nx (nx P 3) 4) 5)=(n:Int):=⟨(1+dr (nx (nx P 3) 4) 5).toNat,by omega⟩
  have eM:(1+dr (nx P 3) 4).toNat=m:=by omega
  have eN:(1+dr (nx (nx P 3) 4) 5).toNat=n:=by omega
  have e:=xY (m:=m) (n:=n) (by omega) (by omega);rw [<- hm,<- hn] at e
  have g1:∀ a∈rgI 0 (1+dr (nx P 3) 4).toNat,cC [.int (a+1),.int ((1+dr (nx (nx P 3) 4) 5)+1)]=some (.int ((a+1) * ((1+dr (nx (nx P 3) 4) 5)+1)),false):=fun a _=>nT (by omega) (by omega)
  have g2:cC [.int ((1+dr (nx P 3) 4)+2),.int ((1+dr (nx (nx P 3) 4) 5)+1)]=some (.int (((1+dr (nx P 3) 4)+2) * ((1+dr (nx (nx P 3) 4) 5)+1)),false):=nT (by omega) (by omega)
  have ga:ay [.lst (nD ((rgI 0 (1+dr (nx P 3) 4).toNat).map fun a=>(a+1) * ((1+dr (nx (nx P 3) 4) 5)+1))),.lst (nD ((rgI 0 (1+dr (nx (nx P 3) 4) 5).toNat).map fun b=>b+1))]=some (.lst (nD (((rgI 0 (1+dr (nx P 3) 4).toNat).map fun a=>(a+1) * ((1+dr (nx (nx P 3) 4) 5)+1))++(rgI 0 (1+dr (nx (nx P 3) 4) 5).toNat).map fun b=>b+1)),true):=by
   show (if small _=true then _ else _)=_
   rw [if_pos (bW (by rw [AO,AO,AO,AO,aj,aj];omega)),nD,nD,nD,Bm]
  have lps:(((rgI 0 (1+dr (nx P 3) 4).toNat).map fun a=>(a+1) * ((1+dr (nx (nx P 3) 4) 5)+1))++(rgI 0 (1+dr (nx (nx P 3) 4) 5).toNat).map fun b=>b+1).length=m+n:=by
   rw [A7,AO,AO,aj,aj,eM,eN]
  generalize hps:(((rgI 0 (1+dr (nx P 3) 4).toNat).map fun a=>(a+1) * ((1+dr (nx (nx P 3) 4) 5)+1))++(rgI 0 (1+dr (nx (nx P 3) 4) 5).toNat).map fun b=>b+1)=ps at *
  obtain ⟨T,snd⟩:=sd_is (m:=m) (n:=n) (by omega) (by omega) (by omega) (by omega)
  have hpq:sdQ m n=ps:=by
   rw [<- hps,eM,eN,hn]
  unfold sdV at T;rw [hpq,<- hm,<- hn] at T;have hin:=sid_in (m:=m) (n:=n) (i:=m) (A8 m)
  have h1:∀ t∈di m n m,gIx [.lst (nD ps),.int t.1]=some (.int (ps.getD t.1.toNat 0),false):=fun t h=>bO (by have:=hin t h;omega) (by have:=hin t h;omega)
  have h2:∀ t∈di m n m,gIx [.lst (nD ps),.int t.2]=some (.int (ps.getD t.2.toNat 0),false):=fun t h=>bO (by have:=hin t h;omega) (by have:=hin t h;omega)
  have sl:=nh m n m;have mb:m * n<=4 * 5:=Nat.mul_le_mul (by omega) (by omega);have mp:1 * 1<=m * n:=Nat.mul_le_mul (by omega) (by omega)
  generalize hts:di m n m=ts at *
  trace "5я)rѩђs)rѩYПĆZ3!ǘs}:ĴVk!шѓm|С$ŖǖQ':ĴVk!шѓёQюi=fкИ)oЉ|С$<ЅĒǖTЅēǖYq"
  have hN:(1+dr (nx P 3) 4)+(1+dr (nx (nx P 3) 4) 5)=((m+n:Nat):Int):=by omega
  rw [hN];exact Ak (n:=m+n) (.inl ⟨rfl,rfl⟩) ⟨fun t h=>by have:=hin t h;omega,by omega,by omega⟩ (fun t h=>by have:=hin t h;omega) snd (by omega) (De (by omega)) T
 ·obtain ⟨n,ts,ps,us,c,P',e,W,h1,nd,h2,ne,T⟩:=x9 (nx P 3)
  trace "5ѵĆѨU3Щǘ"
  exact Ak (.inr ⟨rfl,rfl⟩) W h1 nd h2 ne T
end K52
namespace K52
open PySem L2
theorem t_totF(P:Pn):∃ (n:Nat) (rs:List (Int×Int)) (gs vs:List Int) (c:Int) (P':Pn),cR [pD P,.int 24]=some (.ok (.tup [bL (n:Nat) rs,thD gs vs]) false,pD P')/\We n rs/\cH n rs/\n+rs.length<=60/\rs≠[]/\Tot n rs gs vs c:=by
 obtain ⟨d,nw,ρ',e,n,rs,gs,vs,c,P',W,O,hb,ne,T,rfl,rfl,h0⟩:=u9 P;refine ⟨n,rs,gs,vs,c,P',?_,W,O,hb,ne,T⟩;unfold cR;refine r_fn (ρ1:=ρ') rfl e ?_ rfl;unfold ioD;simp only [h0]
abbrev Z(ns:List Int)(ρ:Rho):Prop:=∃ y1 y2 y3,ρ=[some (.klst (nD ns),.fz),y1,y2,y3]
theorem body(ns:List Int)(c:Int)(x2 x3:Option (D×Md)):sY (kb [some (.klst (nD ns),.fz),some (.int c,.fz),x2,x3]) (Z ns):=by
 obtain ⟨n,rs,gs,us,t,P1,e1,W,O,hb,ne,T⟩:=t_totF (pen0 c);have r:=vG W O hb ne T;unfold kb
 trace "ƩĆƪwƫ!_ő!ǘ"
 trace "ƬĔyƭЁ"
 exact ⟨_,_,_,rfl⟩
theorem law_ok(ns:List Int):pZ [.klst (nD ns)]=some (.ok (.bl true) false,.non):=by
 have R:qt (vA [some (.klst (nD ns),.fz),none,none,none]) (fun d nw ρ=>d = .bl true/\nw=false):=by
  unfold vA
  obtain ⟨ρ',e,y1,y2,y3,rfl⟩:=jL (T:= .nm 1) (f:=kb) (inj:=D.int) (fun (_:Unit) ρ=>Z ns ρ) (fun _ _=>()) (xC ns 0::qe ns (some 1) (some 5)) () [some (.klst (nD ns),.fz),none,none,none] ⟨_,_,_,rfl⟩ (by
   rintro c hc _ ρ ⟨y1,y2,y3,rfl⟩;obtain ⟨ρ',e,hq⟩:=body ns c y2 y3
   exact ⟨_,_,rfl,e,hq⟩)
  trace "5Lī}РzaƮЫnƯ$ưk!3"
  trace "Т4"
  exact ⟨rfl,rfl⟩
 obtain ⟨d,nw,ρ',e2,rfl,rfl⟩:=R;unfold pZ
 trace "tŒP"
end K52
namespace K52
open PySem L2 PyProof.Rows
def DIn(K:Df)(x:Str)(i:Nat):Prop:=∃ (f:Addr) (od an:Option Addr) (sl:Array (Option Value)) (oc kV dc pm cd ct:Value),PySem.W.nsIn K mainGlobals x=some (some (.ref f))/\K.lookup f=some ⟨oc,od,.func (PySem.W.fnOf x x (cb (top i)) (aR (top i)) (aa (top i)) .none kV dc pm an cd ct),sl⟩/\PySem.W.codeIn K cd x=true/\PySem.W.keepIn K (.ref f)=true
theorem din_mk{K:Df}{x:Str}{i:Nat}{f:Addr}{od an:Option Addr}{sl:Array (Option Value)}{oc kV dc pm cd ct:Value}(a:PySem.W.nsIn K mainGlobals x=some (some (.ref f)))(l:K.lookup f=some ⟨oc,od,.func (PySem.W.fnOf x x (cb (top i)) (aR (top i)) (aa (top i)) .none kV dc pm an cd ct),sl⟩)(c:PySem.W.codeIn K cd x=true)(k:PySem.W.keepIn K (.ref f)=true):DIn K x i:=⟨f,od,an,sl,oc,kV,dc,pm,cd,ct,a,l,c,k⟩
theorem nR{K:Df}{mg:Str->Option Value}{h:Heap}(X:K.In h)(G:h.Ns mainGlobals mg){x:Str}{i:Nat}{ps:List Str}(d:DIn K x i)
 (hb:∀ (kV doc pm:Value) (an:Option Addr) (cdv ct:Value) (us:List Value),us.length=ps.length->bindArgs (PySem.W.fnOf x x (cb (top i)) (aR (top i)) (aa (top i)) .none kV doc pm an cdv ct) ⟨us,[]⟩=pure (ps.zip us)):Has K mg x (top i) ps:=by
 obtain ⟨f,od,an,sl,oc,kV,dc,pm,cd,ct,a,l,c,k⟩:=d;exact ⟨f,_,rl l c k,PySem.W.mg_of X G a,(rl (st:=top i) l c k).binds hb⟩
theorem own_of{K:Df}{mg:Str->Option Value}{h:Heap}{x:Str}{C:Addr}{bs:List Value}{ni:String}(X:K.In h)(G:h.Ns mainGlobals mg)(e:PySem.W.nsIn K mainGlobals x=some (some (.ref C)))(q:PySem.W.excIn K C bs ni=true):OwnCls x C bs ni mg h where
 bound:=PySem.W.mg_of X G e
 obj:=by
  unfold PySem.W.excIn at q
  split at q
  case h_2=>cases q
  case h_1 d1 cl ss look =>
   split at q
   case h_2=>cases q
   case h_1 C2 rest a0 a1 a2 a3 nw a5 hmro hslots =>
    rcases cl with ⟨c1,c2,c3,c4,c5,c6,c7,c8,c9,c10,c11⟩
    rcases ss with ⟨ss⟩
    simp only [Bh,beq_iff_eq,Bool.not_eq_true'] at q
    rcases q with ⟨⟨⟨⟨⟨w1,w2⟩,w3⟩,w4⟩,w5⟩,w6⟩
    dsimp only at hmro hslots w3 w5 w6;cases w1;cases w2;cases hmro;cases w3;cases hslots;exact ⟨rest,c4,c1,c5,c2,c6,c7,c8,c9,c10,d1,a0,a1,a2,a3,a5,_,X _ _ look,.of_isNs (PySem.W.isNs_of_in X w5),PySem.W.nsMap_none_of_in X w5 w6,PySem.W.tail_of_in X w4⟩
theorem i4{K:Df}{mg:Str->Option Value}{h:Heap}(X:K.In h)(G:h.Ns mainGlobals mg){x:Str}{i:Nat}(p0:Str)(d:DIn K x i)(hb:∀ (kV doc pm:Value) (an:Option Addr) (cdv ct u0:Value),bindArgs (PySem.W.fnOf x x (cb (top i)) (aR (top i)) (aa (top i)) .none kV doc pm an cdv ct) ⟨[u0],[]⟩=pure ([p0].zip [u0])):Has K mg x (top i) [p0]:=nR X G d fun _ _ _ _ _ _ us hl=>match us,hl with | [u0],_=>hb _ _ _ _ _ _ _
theorem bK{K:Df}{mg:Str->Option Value}{h:Heap}(X:K.In h)(G:h.Ns mainGlobals mg){x:Str}{i:Nat}(p0 p1:Str)(d:DIn K x i)(hb:∀ (kV doc pm:Value) (an:Option Addr) (cdv ct u0 u1:Value),bindArgs (PySem.W.fnOf x x (cb (top i)) (aR (top i)) (aa (top i)) .none kV doc pm an cdv ct) ⟨[u0,u1],[]⟩=pure ([p0,p1].zip [u0,u1])):Has K mg x (top i) [p0,p1]:=nR X G d fun _ _ _ _ _ _ us hl=>match us,hl with | [u0,u1],_=>hb _ _ _ _ _ _ _ _
theorem sO{K:Df}{mg:Str->Option Value}{h:Heap}(X:K.In h)(G:h.Ns mainGlobals mg){x:Str}{i:Nat}(p0 p1 p2:Str)(d:DIn K x i)(hb:∀ (kV doc pm:Value) (an:Option Addr) (cdv ct u0 u1 u2:Value),bindArgs (PySem.W.fnOf x x (cb (top i)) (aR (top i)) (aa (top i)) .none kV doc pm an cdv ct) ⟨[u0,u1,u2],[]⟩=pure ([p0,p1,p2].zip [u0,u1,u2])):Has K mg x (top i) [p0,p1,p2]:=nR X G d fun _ _ _ _ _ _ us hl=>match us,hl with | [u0,u1,u2],_=>hb _ _ _ _ _ _ _ _ _
theorem hasN5{K:Df}{mg:Str->Option Value}{h:Heap}(X:K.In h)(G:h.Ns mainGlobals mg){x:Str}{i:Nat}(p0 p1 p2 p3 p4:Str)(d:DIn K x i)(hb:∀ (kV doc pm:Value) (an:Option Addr) (cdv ct u0 u1 u2 u3 u4:Value),bindArgs (PySem.W.fnOf x x (cb (top i)) (aR (top i)) (aa (top i)) .none kV doc pm an cdv ct) ⟨[u0,u1,u2,u3,u4],[]⟩=pure ([p0,p1,p2,p3,p4].zip [u0,u1,u2,u3,u4])):Has K mg x (top i) [p0,p1,p2,p3,p4]:=nR X G d fun _ _ _ _ _ _ us hl=>match us,hl with | [u0,u1,u2,u3,u4],_=>hb _ _ _ _ _ _ _ _ _ _ _
theorem all_mk{l:PySem.W.OpenLaw}{w:World}{K:Df}{h:Heap}{mg:Str->Option Value}{fa:Addr}(X:K.In h)(G:h.Ns mainGlobals mg)(hfa:mg "law" = some (.ref fa))
 {f1:Addr}
 {bb0:Addr} {db0:Option Addr} {nb0:Nat} {sb0:Array (Option Value)} {bb1:Addr} {db1:Option Addr} {nb1:Nat} {sb1:Array (Option Value)} {tb1_0:Tok} {tb1_1:Tok} {bb2:Addr} {db2:Option Addr} {nb2:Nat} {sb2:Array (Option Value)} {tb2_0:Tok} {tb2_1:Tok}
 (d0:DIn K "is_whole" 1)
 (d1:DIn K "whole_within" 2)
 (d2:DIn K "unlike_within" 3)
 (d3:DIn K "each_once" 4)
 (d4:DIn K "bar_formed" 6)
 (d5:DIn K "share_bars" 7)
 (d6:DIn K "tie_counts" 12)
 (d7:DIn K "tied_places" 13)
 (d8:DIn K "total_good" 16)
 (d9:DIn K "totals_by" 17)
 (d10:DIn K "end_sums" 18)
 (d11:DIn K "low_good" 19)
 (d12:DIn K "total_of" 20)
 (d13:DIn K "check_total" 21)
 (d14:DIn K "opposite_total" 22)
 (d15:DIn K "taken_from" 23)
 (d16:DIn K "low_by" 24)
 (d17:DIn K "filled_to" 25)
 (d18:DIn K "low_opposite" 26)
 (d19:DIn K "total_span" 27)
 (d20:DIn K "worth_in_order" 28)
 (d21:DIn K "total_bar_holds" 29)
 (d22:DIn K "share_bars_totals" 30)
 (d23:DIn K "total_bars" 31)
 (d24:DIn K "_law_cell_at" 33)
 (d25:DIn K "_law_next" 34)
 (d26:DIn K "_law_pen_of" 35)
 (d27:DIn K "_law_draw" 36)
 (d28:DIn K "_law_order_of" 37)
 (d29:DIn K "_law_spine" 38)
 (d30:DIn K "_law_sides" 39)
 (d31:DIn K "_law_from_low" 40)
 (d32:DIn K "_law_low_made" 41)
 (d33:DIn K "_law_put" 42)
 (d34:DIn K "_law_totals" 43)
 (d35:DIn K "_law_span_holds" 44)
 (d36:DIn K "_law_low_right" 45)
 (d37:DIn K "_law_right" 46)
 (d38:DIn K "law" 47)
 (g2:PySem.W.nsIn K mainGlobals "all" = some none)
 (c2:PySem.W.nsIn K mainGlobals "bool" = some none)
 (c1:PySem.W.nsIn K mainGlobals "enumerate" = some none)
 (i2:PySem.W.nsIn K mainGlobals "int" = some none)
 (b1:PySem.W.nsIn K mainGlobals "isinstance" = some none)
 (j2:PySem.W.nsIn K mainGlobals "len" = some none)
 (f2:PySem.W.nsIn K mainGlobals "list" = some none)
 (k2:PySem.W.nsIn K mainGlobals "max" = some none)
 (m2:PySem.W.nsIn K mainGlobals "min" = some none)
 (a2:PySem.W.nsIn K mainGlobals "range" = some none)
 (a3:PySem.W.nsIn K mainGlobals "set" = some none)
 (m1:PySem.W.nsIn K mainGlobals "sorted" = some none)
 (b3:PySem.W.nsIn K mainGlobals "sum" = some none)
 (b2:PySem.W.nsIn K mainGlobals "tuple" = some none)
 (c3:PySem.W.nsIn K mainGlobals "zip" = some none)
 (a1:PySem.W.nsIn K mainGlobals "TOTAL_FORMS" = some (some (.ref bb0)))
 (lb0:K.lookup bb0=some ⟨.type "tuple",db0,.seq #[.ref bb1,.ref bb2] nb0,sb0⟩)
 (lb1:K.lookup bb1=some ⟨.type "tuple",db1,.seq #[.str "share" tb1_0,.int 1 tb1_1] nb1,sb1⟩)
 (lb2:K.lookup bb2=some ⟨.type "tuple",db2,.seq #[.str "ties" tb2_0,.int 0 tb2_1] nb2,sb2⟩)
 (j1:PySem.W.nsIn K mainGlobals "NoNumber" = some (some (.ref f1)))
 (k1:PySem.W.excIn K f1 [.type "ValueError",.type "Exception",.type "BaseException",.type "object"] "ValueError.__new__" = true)
 : ∃ fd:FuncData,(∀ (s:Shared) (v:Value),BindsTo s fd ⟨[v],[]⟩ [("script",v)])/\∀ base:Heap,K.In base->base.Ns mainGlobals mg->jE l.prog w K mg base (CXr l.prog w) 10 fa fd ["script"] (spF K none pZ):=by
 obtain ⟨fL,odL,anL,slL,ocL,kVL,dcL,pmL,cdL,ctL,aL,lL,cL,kL⟩:=d38;cases hfa.symm.trans (PySem.W.mg_of X G aL);have T:Txt K mg:=⟨Bu X G g2,Bu X G c2,Bu X G c1,Bu X G i2,Bu X G b1,Bu X G j2,Bu X G f2,Bu X G k2,Bu X G m2,Bu X G a2,Bu X G a3,Bu X G m1,Bu X G b3,Bu X G b2,Bu X G c3,⟨bb0,PySem.W.mg_of X G a1,fun H=>⟨bb0,[.ref bb1,.ref bb2],rfl,.inr ⟨_,#[.ref bb1,.ref bb2],nb0,lb0,rfl,rfl,by show 2<=sizeLine;decide,(.cons rfl (.cons rfl .nil))⟩,⟨bb1,[.str "share",.int 1],rfl,.inr ⟨_,#[.str "share" tb1_0,.int 1 tb1_1],nb1,lb1,rfl,rfl,by show 2<=sizeLine;decide,(.cons ⟨_,rfl⟩ (.cons ⟨_,rfl⟩ .nil))⟩,rfl,rfl,trivial⟩,⟨bb2,[.str "ties",.int 0],rfl,.inr ⟨_,#[.str "ties" tb2_0,.int 0 tb2_1],nb2,lb2,rfl,rfl,by show 2<=sizeLine;decide,(.cons ⟨_,rfl⟩ (.cons ⟨_,rfl⟩ .nil))⟩,rfl,rfl,trivial⟩,trivial⟩⟩⟩;have D0:=i4 X G "thing" d0 (by intros;rfl);have D1:=sO X G "thing" "least" "most" d1 (by intros;rfl);have D2:=sO X G "things" "least" "most" d2 (by intros;rfl);have D3:=bK X G "things" "most" d3 (by intros;rfl);have D4:=bK X G "forms" "thing" d4 (by intros;rfl);have D5:=i4 X G "most" d5 (by intros;rfl);have D6:=i4 X G "web" d6 (by intros;rfl);have D7:=i4 X G "web" d7 (by intros;rfl);have D8:=bK X G "web" "thing" d8 (by intros;rfl);have D9:=bK X G "web" "numbering" d9 (by intros;rfl);have D10:=bK X G "web" "numbers" d10 (by intros;rfl);have D11:=bK X G "web" "thing" d11 (by intros;rfl);have D12:=bK X G "web" "thing" d12 (by intros;rfl);have D13:=bK X G "web" "thing" d13 (by intros;rfl);have D14:=bK X G "web" "thing" d14 (by intros;rfl);have D15:=bK X G "whole" "numbers" d15 (by intros;rfl);have D16:=bK X G "web" "numbers" d16 (by intros;rfl);have D17:=sO X G "web" "numbers" "total" d17 (by intros;rfl)
 have D18:=bK X G "web" "thing" d18 (by intros;rfl);have D19:=i4 X G "web" d19 (by intros;rfl);have D20:=i4 X G "often" d20 (by intros;rfl);have D21:=bK X G "web" "thing" d21 (by intros;rfl);have D22:=bK X G "web" "share" d22 (by intros;rfl);have D23:=i4 X G "web" d23 (by intros;rfl);have D24:=bK X G "script" "k" d24 (by intros;rfl);have D25:=i4 X G "seed" d25 (by intros;rfl);have D26:=i4 X G "cell" d26 (by intros;rfl);have D27:=bK X G "pen" "many" d27 (by intros;rfl);have D28:=bK X G "pen" "many" d28 (by intros;rfl);have D29:=bK X G "pen" "last" d29 (by intros;rfl);have D30:=bK X G "one" "other" d30 (by intros;rfl);have D31:=sO X G "many" "ties" "places" d31 (by intros;rfl);have D32:=bK X G "pen" "most" d32 (by intros;rfl);have D33:=hasN5 X G "many" "ties" "places" "numbers" "order" d33 (by intros;rfl);have D34:=bK X G "pen" "most" d34 (by intros;rfl);have D35:=bK X G "web" "total" d35 (by intros;rfl);have D36:=bK X G "web" "good" d36 (by intros;rfl);have D37:=bK X G "web" "good" d37 (by intros;rfl);refine ⟨PySem.W.fnOf "law" "law" (cb (top 47)) (aR (top 47)) (aa (top 47)) .none kVL dcL pmL anL cdL ctL,fun s v=> .of_eq rfl,fun base KB GB=> ?_⟩;have g1:OwnCls "NoNumber" f1 [.type "ValueError",.type "Exception",.type "BaseException",.type "object"] "ValueError.__new__" mg base:=own_of KB GB j1 k1;have i1:jd K mg base "NoNumber" := ⟨_,_,_,_,_,g1,PySem.F.excBase_ValueError,j1⟩;have G3:=pk (P:=l.prog) (w:=w) (base:=base) D0 T;have G15:=lS (P:=l.prog) (w:=w) (base:=base) D5 T;have G24:=kR (P:=l.prog) (w:=w) (base:=base) D7 T;have G2:=px (P:=l.prog) (w:=w) (base:=base) D10 T;have G16:=lR (P:=l.prog) (w:=w) (base:=base) D15 T;have G34:=iQ (P:=l.prog) (w:=w) (base:=base) D20 T;have G25:=j6 (P:=l.prog) (w:=w) (base:=base) D24 T
 have G7:=nH (P:=l.prog) (w:=w) (base:=base) D25 T;have G21:=kW (P:=l.prog) (w:=w) (base:=base) D26 T;have G12:=lV (P:=l.prog) (w:=w) (base:=base) D30 T;have G28:=jr (P:=l.prog) (w:=w) (base:=base) D31 T;have G1:=pz (P:=l.prog) (w:=w) (base:=base) D33 T;have G27:=j4 (P:=l.prog) (w:=w) (base:=base) D1 T G3;have G14:=lT (P:=l.prog) (w:=w) (base:=base) D4 T G3;have G17:=lQ (P:=l.prog) (w:=w) (base:=base) D6 T G24;have G10:=nE (P:=l.prog) (w:=w) (base:=base) D9 T G2;have G9:=nF (P:=l.prog) (w:=w) (base:=base) D17 T G16 G2;have G6:=nJ (P:=l.prog) (w:=w) (base:=base) D27 T G7;have G31:=jo (P:=l.prog) (w:=w) (base:=base) D2 T G27;have G20:=lM (P:=l.prog) (w:=w) (base:=base) D19 T G17 G34;have G37:=fX (P:=l.prog) (w:=w) (base:=base) D22 T G17;have G30:=jp (P:=l.prog) (w:=w) (base:=base) D28 T G6;have G13:=lU (P:=l.prog) (w:=w) (base:=base) D29 T G6;have G8:=nG (P:=l.prog) (w:=w) (base:=base) D3 T G31;have G36:=ic (P:=l.prog) (w:=w) (base:=base) D21 T G14 G37;have G29:=jq (P:=l.prog) (w:=w) (base:=base) D32 T G6 G13 G28;have G35:=ie (P:=l.prog) (w:=w) (base:=base) D35 T G20;have G19:=lO (P:=l.prog) (w:=w) (base:=base) D8 T G8 G10;have G0:=tQ (P:=l.prog) (w:=w) (base:=base) D16 T G8 G2 G9 i1;have G18:=lP (P:=l.prog) (w:=w) (base:=base) D23 T G15 G36;have G22:=kU (P:=l.prog) (w:=w) (base:=base) D34 T G6 G12 G29 G1 G30;have G4:=pj (P:=l.prog) (w:=w) (base:=base) D11 T G19;have G23:=kS (P:=l.prog) (w:=w) (base:=base) D13 T G19 i1;have G5:=pi (P:=l.prog) (w:=w) (base:=base) D12 T G23 G10;have G33:=iR (P:=l.prog) (w:=w) (base:=base) D14 T G23 G16
 have G26:=j5 (P:=l.prog) (w:=w) (base:=base) D18 T G4 G0 G16 i1;have G32:=iS (P:=l.prog) (w:=w) (base:=base) D36 T G26 G4 G0 G5 G18;have G11:=lW (P:=l.prog) (w:=w) (base:=base) D37 T G5 G33 G19 G35 G18 G4 G32;exact ok_law (P:=l.prog) (w:=w) (base:=base) (rl lL cL kL) T G25 G22 G21 G11
end K52
open PySem PySem.W PyProof.Rows
def PySem.W.Fast.tw1176975735165151067:=0
def PySem.W.Fast.tw9515242367644423802:=0
def PySem.W.Fast.tw10426125643436316091:=0
def PySem.W.Fast.tw11187973929812520656:=0
def PySem.W.Fast.tw3101917741504857134:=0
def PySem.W.Fast.tw7523194637212750777:=0
def PySem.W.Fast.tw13840814423707232359:=0
def PySem.W.Fast.tw11519117686961666697:=0
def PySem.W.Fast.tw16915470645016011554:=0
def PySem.W.Fast.tw16472409268878238316:=0
def PySem.W.Fast.tw10335527622381539264:=0
def PySem.W.Fast.tw6436848712300024549:=0
def PySem.W.Fast.tw16131593051203169754:=0
def PySem.W.Fast.tw5623994078177797194:=0
def PySem.W.Fast.tw18328624421678722478:=0
def PySem.W.Fast.tw14187241462645197571:=0
def PySem.W.Fast.tw10155365746132046468:=0
def PySem.W.Fast.tw16172578528114110199:=0
def PySem.W.Fast.tw15622835117965313283:=0
def PySem.W.Fast.tw3094701115853657799:=0
def PySem.W.Fast.tw15213048550514571353:=0
def PySem.W.Fast.tw4033379813872489195:=0
def PySem.W.Fast.tw10097012582147076362:=0
def PySem.W.Fast.tw7470021291188754609:=0
def PySem.W.Fast.tw16629561534657121264:=0
def PySem.W.Fast.tw11922880511716936681:=0
def PySem.W.Fast.tw5904261775270647668:=0
def PySem.W.Fast.tw11990459337992974956:=0
def PySem.W.Fast.tw10042499479572932358:=0
def PySem.W.Fast.tw17213273101264320529:=0
def PySem.W.Fast.tw7042659310547366237:=0
def PySem.W.Fast.tw14347909398734512454:=0
def PySem.W.Fast.tw742600151237704484:=0
def PySem.W.Fast.tw6315216371427503177:=0
def PySem.W.Fast.tw14199714164133228370:=0
def PySem.W.Fast.tw15137687247720179910:=0
def PySem.W.Fast.tw13553050674002434610:=0
def PySem.W.Fast.tw1647960591809683682:=0
def PySem.W.Fast.tw8667492640987031791:=0
def PySem.W.Fast.tw11320351676317602388:=0
def PySem.W.Fast.tw18167724695441219349:=0
def PySem.W.Fast.tw13887902116395311400:=0
def PySem.W.Fast.tw10846345724684618374:=0
def PySem.W.Fast.tw10497823618577955822:=0
def PySem.W.Fast.tw1267704075650749254:=0
def PySem.W.Fast.tw4177351759533223642:=0
def PySem.W.Fast.tw7090585071989052306:=0
def PySem.W.Fast.tw12325562205625792791:=0
def PySem.W.Fast.tw9161490523856799436:=0
def PySem.W.Fast.tw6617870633205967057:=0
def PySem.W.Fast.tw12079628635447562283:=0
def PySem.W.Fast.tw11586196018267737339:=0
def PySem.W.Fast.tw6999941293234460784:=0
def PySem.W.Fast.tw12319047049370110589:=0
def PySem.W.Fast.tw16286715671046524454:=0
def PySem.W.Fast.tw6788773261714906821:=0
def PySem.W.Fast.tw2484844197603217540:=0
def PySem.W.Fast.tw7717702957765121957:=0
def PySem.W.Fast.tw5674458297940323589:=0
def PySem.W.Fast.tw10319584323125186696:=0
def PySem.W.Fast.tw14245618210516037357:=0
def PySem.W.Fast.tw16970792351503237766:=0
def PySem.W.Fast.tw3016012700857477809:=0
def PySem.W.Fast.tw12555990437303512365:=0
open_top head for PySem.Challenge.rw_tienumbers_k52_whole_totals_and_opposite
set_option maxRecDepth 100000 in
set_option maxHeartbeats 0 in
theorem PySem.Challenge.cw_tienumbers_k52_whole_totals_and_opposite_holds : PySem.Challenge.rw_tienumbers_k52_whole_totals_and_opposite.Holds := by
 refine head ?_
 k_fill
 refine L2.xQ (l:=PySem.Challenge.rw_tienumbers_k52_whole_totals_and_opposite) (n:=63) (k:=10) (x := "script") (CX:=fun w=>L2.CXr (PySem.Challenge.rw_tienumbers_k52_whole_totals_and_opposite).prog w) (sp:=fun w=>L2.spF _ none K52.pZ) rfl (by decide) rfl ⟨rfl,by decide,by decide,rfl⟩ (fun w h Y=>PySem.W.kIn_of Y) ?F (fun _ _ a ns hl _ hS=>L2.yf ⟨_,K52.law_ok ns⟩ hS) fun _ _ _ _ _ z=>L2.um z
 case F =>
  intro w mg fa h KX G hmg;refine' K52.all_mk KX G hmg ?_ ?_ ?_ ?_ ?_ ?_ ?_ ?_ ?_ ?_ ?_ ?_ ?_ ?_ ?_ ?_ ?_ ?_ ?_ ?_ ?_ ?_ ?_ ?_ ?_ ?_ ?_ ?_ ?_ ?_ ?_ ?_ ?_ ?_ ?_ ?_ ?_ ?_ ?_ ?_ ?_ ?_ ?_ ?_ ?_ ?_ ?_ ?_ ?_ ?_ ?_ ?_ ?_ ?_ ?_ ?_ ?_ ?_ ?_ ?_
  all_goals first | (apply K52.din_mk<;>k_is) | k_is | k_exc | decide | skip
