import PyProof.Rows.All
import Wide.All
import OpenK.AllK
import Wide.FinOn
import Lean
import PyProof.EqAt
import PyProof.EqKinds
import PyProof.TupleCall
import PyProof.CallFns
import PyProof.Draws
import PyProof.EnumMake
import PyProof.ExcArgsOwn
import PyProof.FactsAll.dict_1
import PyProof.FactsAll.dict_4
import PyProof.FactsAll.subtypes_4
import PyProof.FactsAll.tuple_2
import PyProof.ListMulRoad
import PyProof.ListRange
import PyProof.MaxThree
import PyProof.NeKinds
import PyProof.ReprRoads
import PyProof.Rows.CallKwBuiltin
import PyProof.Rows.EnumRows
import PyProof.Rows.SetFrom
import PyProof.Rows.SortRev
import PyProof.TupleOfStr
import PySem.Challenge.RW_tienumbers_k07_what_is_no_kind
set_option Elab.async false
set_option linter.all false
set_option maxRecDepth 100000
set_option maxHeartbeats 4000000
section
open PySem PySem.Spec PyProof.Rows
abbrev A9:=@wpAny_bind
abbrev Ba:=@Heap.get?_push_of_some
abbrev Bb:=@List.getElem?_eq_getElem
abbrev Bc:=@List.mem_append_left
abbrev Be:=@List.length_map
abbrev Bf:=@List.mem_append_right
abbrev Bg:=@wpAny_pure
abbrev Bh:=@List.size_toArray
abbrev Bi:=@List.mem_cons_of_mem
abbrev Bj:=@List.length_cons
abbrev Bk:=@Heap.lt_size
abbrev Bl:=@decide_eq_true
abbrev Bm:=@Heap.get?_push_size
abbrev Bn:=@List.mem_cons_self
abbrev Bo:=@Bool.false_ne_true
abbrev Bp:=@List.mem_cons
abbrev Bq:=@Nat.le_refl
abbrev Br:=@decide_eq_false
abbrev Bs:=@List.getElem?_eq_some_iff
abbrev Bt:=@of_decide_eq_true
abbrev Bu:=@List.map_cons
abbrev Bv:=@List.mem_of_getElem?
abbrev Bw:=@List.mem_singleton
abbrev Bx:=@List.all_eq_true
abbrev By:=@Bool.and_eq_true
abbrev Bz:=@List.length_append
abbrev BA:=@List.mem_append
abbrev BB:=@List.getElem?_cons_zero
abbrev BC:=@Nat.ne_of_lt
abbrev BD:=@Nat.lt_of_lt_of_le
abbrev BE:=@List.getD_eq_getElem?_getD
abbrev BF:=@List.getElem?_cons_succ
abbrev BG:=@List.getElem?_set_ne
abbrev BH:=@PySem.W.mg_none_of
abbrev BI:=@List.getElem?_map
abbrev BJ:=@List.getElem?_append_left
abbrev BK:=@List.mem_range
abbrev BL:=@wpAny_callSpecial?_slot
abbrev BM:=@Option.map_eq_some_iff
abbrev BN:=@wpAny_newObj_type
abbrev BO:=@Array.getD_eq_getD_getElem?
abbrev BP:=@List.length_pos_iff
abbrev BQ:=@Array.length_toList
abbrev BR:=@wpAny_call_entry
abbrev BS:=@Bool.and_false
abbrev BU:=@wpAny_pyIter_tuple
abbrev BV:=@PySem.W.mg_of
abbrev BW:=@Nat.zero_add
abbrev BX:=@List.nil_append
abbrev BY:=@List.mem_filter
abbrev BZ:=@List.append_nil
abbrev B0:=@List.pairwise_cons
abbrev B1:=@List.getElem?_set_self
abbrev B2:=@List.nodup_cons
abbrev B3:=@List.length_set
abbrev B4:=@Bool.false_and
abbrev B5:=@List.cons_append
abbrev B6:=@PySem.mem_of_lookup
abbrev B7:=@List.replicate_succ
abbrev B8:=@List.map_map
abbrev B9:=@List.length_replicate
abbrev Ca:=@Heap.get?_update_self
abbrev Cb:=@Heap.size_push
abbrev Cc:=@wpAny_loadPart'
abbrev Cd:=@wpAny_field
abbrev Ce:=@List.set_cons_zero
abbrev Cf:=@List.set_cons_succ
abbrev Cg:=@List.length_nil
abbrev Ch:=@Int.eq_ofNat_of_zero_le
abbrev Ci:=@wpAny_mono
abbrev Cj:=@List.not_mem_nil
abbrev Ck:=@List.getElem_mem
abbrev Cm:=@wpAny_holding
abbrev Cn:=@Bool.true_and
abbrev Co:=@wpAny_truthy_bool
abbrev Cp:=@List.length_range
abbrev Cq:=@List.map_congr_left
abbrev Cr:=@List.getElem?_append_right
abbrev Cs:=@Nat.le_of_lt
abbrev Ct:=@wpAny_setField
abbrev Cu:=@Array.getElem?_eq_getElem
abbrev Cv:=@List.mem_iff_getElem
abbrev Cw:=@List.length_zip
abbrev Cy:=@List.flatten_cons
abbrev Cz:=@Bool.eq_iff_iff
abbrev CA:=@List.mem_map
abbrev CB:=@List.map_nil
abbrev CC:=@beq_eq_false_iff_ne
abbrev CD:=@List.getElem?_replicate
abbrev CF:=@Bool.and_true
abbrev CG:=@wpAny_typeNameOfWhole_keyiter
abbrev CH:=@List.lookup_cons
abbrev CI:=@List.length_take
abbrev CJ:=@Heap.get?_update_other
abbrev CK:=@wpAny_passesOwn
abbrev CL:=@Nat.min_self
abbrev CM:=@wpAny_pyIter_list
abbrev CN:=@decide_eq_true_eq
abbrev CO:=@Bool.false_or
abbrev CP:=@wpAny_seqItems
abbrev CQ:=@PySem.W.hideAll_get
abbrev CS:=@List.flatMap_append
abbrev CT:=@wpAny_typeNameOf_keyiter
abbrev CU:=@Nat.ne_of_gt
abbrev CV:=@wpAny_Call_Name_kw
abbrev CW:=@of_decide_eq_false
abbrev CY:=@PySem.F.plainAttrs_list
abbrev CZ:=@Nat.lt_irrefl
abbrev C0:=@List.zip_cons_cons
abbrev C1:=@List.find?_cons
abbrev C3:=@Bool.or_false
abbrev C4:=@Bool.or_eq_true
abbrev C5:=@Nat.lt_succ_of_lt
abbrev C6:=@List.append_assoc
abbrev C7:=@Int.toNat_natCast
abbrev C8:=@Nat.sub_self
abbrev C9:=@List.getElem?_eq_none
abbrev Da:=@Bool.true_or
abbrev Db:=@Bool.or_true
abbrev Dd:=@Array.getElem?_toList
abbrev De:=@Nat.lt_succ_self
abbrev Df:=@Nat.le_add_right
abbrev Dg:=@List.ext_getElem
abbrev Dh:=@wpAny_newList
abbrev Di:=@List.sum_cons
abbrev Dj:=@List.all_cons
abbrev Dk:=@wpAny_execs_nil
abbrev Dl:=@List.perm_iff_count
abbrev Dm:=@List.of_mem_zip
abbrev Do:=@List.map_append
abbrev Dp:=@List.getElem_of_mem
abbrev Dq:=@List.forIn_cons
abbrev Dr:=@List.filterMap_cons
abbrev Ds:=@List.Perm.of_eq
abbrev Du:=@Obj.data_mapFields
abbrev Dv:=@List.mem_filterMap
abbrev Dw:=@List.nodup_nil
abbrev Dx:=@List.getElem?_zip_eq_some
abbrev Dy:=@PySem.W.Frag
end
namespace L2
open PySem PySem.Spec PyProof.Rows
abbrev Key:=Sum Int Str
def mU:Key->Value->Bool
 | .inl k,v=>Value.isInt k v
 | .inr x,v=>Value.isStrOf x v
def keyH(w:World):Key->Int
 | .inl k=>hashInt k
 | .inr x=>hashStr w x
theorem bz:∀ {k:Key} {v:Value},mU k v=true->(∃ i t,k=Sum.inl i/\v=Value.int i t)\/(∃ x t,k=Sum.inr x/\v=Value.str x t)
 | .inl i,v,h=>by
  obtain ⟨t,e⟩:=Value.isInt_shape (k:=i) (v:=v) h;exact .inl ⟨i,t,rfl,e⟩
 | .inr x,v,h=>by
  obtain ⟨t,e⟩:=Value.isStrOf_shape (x:=x) (v:=v) h;exact .inr ⟨x,t,rfl,e⟩
theorem uD(i:Int)(t:Tok):mU (.inl i) (.int i t)=true:=by simp [mU,Value.isInt]
theorem uC(x:Str)(t:Tok):mU (.inr x) (.str x t)=true:=by simp [mU,Value.isStrOf]
theorem key_ll(a b:Int):decide ((Sum.inl a:Key)=Sum.inl b)=(a == b):=by
 by_cases e:a=b
 ·subst e;simp
 ·have h:¬ (Sum.inl a:Key)=Sum.inl b:=fun q=>e (Sum.inl.inj q)
  rw [Br h];exact (CC.mpr e).symm
theorem key_rr(a b:Str):decide ((Sum.inr a:Key)=Sum.inr b)=decide (a=b):=by
 by_cases e:a=b
 ·subst e;simp
 ·have h:¬ (Sum.inr a:Key)=Sum.inr b:=fun q=>e (Sum.inr.inj q)
  rw [Br h,Br e]
theorem key_lr(a:Int)(b:Str):decide ((Sum.inl a:Key)=Sum.inr b)=false:=Br (fun q=>nomatch q)
theorem key_rl(a:Str)(b:Int):decide ((Sum.inr a:Key)=Sum.inl b)=false:=Br (fun q=>nomatch q)
def aU(prog:Program)(w:World):PySem.KeyKind prog w Key where
 is:=mU
 hash:=keyH w
 inj:=fun v a b ha hb=>by
  rcases bz ha with ⟨i,t,rfl,rfl⟩ | ⟨x,t,rfl,rfl⟩
  ·rcases bz hb with ⟨j,u,rfl,e⟩ | ⟨y,u,rfl,e⟩
   ·injection e with e1 _;rw [e1]
   ·exact nomatch e
  ·rcases bz hb with ⟨j,u,rfl,e⟩ | ⟨y,u,rfl,e⟩
   ·exact nomatch e
   ·injection e with e1 _;rw [e1]
 byValue:=fun k v h=>by
  rcases bz h with ⟨i,t,rfl,rfl⟩ | ⟨x,t,rfl,rfl⟩<;>rfl
 pyHash:=fun hv h=>by
  rcases bz hv with ⟨i,t,rfl,rfl⟩ | ⟨x,t,rfl,rfl⟩
  ·exact wpAny_pyHash_int h
  ·exact wpAny_pyHash_str h
 eqBool:=fun hu hv h=>by
  rcases bz hu with ⟨i,t,rfl,rfl⟩ | ⟨x,t,rfl,rfl⟩
  ·rcases bz hv with ⟨j,u,rfl,rfl⟩ | ⟨y,u,rfl,rfl⟩
   ·rw [key_ll] at h;exact wpAny_eqBool_int h
   ·rw [key_lr] at h;exact SeqAt.EqAt.int_str i t y u _ _ _ _ h
  ·rcases bz hv with ⟨j,u,rfl,rfl⟩ | ⟨y,u,rfl,rfl⟩
   ·rw [key_rl] at h;exact SeqAt.EqAt.str_int x t j u _ _ _ _ h
   ·rw [key_rr] at h;exact wpAny_eqBool_str h
 «strs»:=fun k x t v h=>by
  rcases bz h with ⟨i,u,rfl,e⟩ | ⟨y,u,rfl,e⟩
  ·exact nomatch e
  ·injection e with e1 _
   subst e1;cases v<;>rfl
theorem pY(prog:Program)(w:World)(i:Int)(t:Tok):(aU prog w).is (.inl i) (.int i t)=true:=uD i t
theorem dU(prog:Program)(w:World)(x:Str)(t:Tok):(aU prog w).is (.inr x) (.str x t)=true:=uC x t
inductive V where
 | non | bl (b:Bool) | int (i:Int) | str (x:Str) | byt (b:Array UInt8) | flt (b:UInt64) | ref (a:Addr) | ty (n:String)
 deriving DecidableEq
def az:V->Value->Prop
 | .non,u=>u=Value.none
 | .bl b,u=>u=Value.bool b
 | .int i,u=>∃ t,u=Value.int i t
 | .str x,u=>∃ t,u=Value.str x t
 | .byt b,u=>∃ t,u=Value.bytes b t
 | .flt b,u=>∃ t,u=Value.float b t
 | .ref a,u=>u=Value.ref a
 | .ty n,u=>u=Value.type n
abbrev aA:List V->List Value->Prop:=Paired az
theorem aA.length{xs:List V}{us:List Value}(r:aA xs us):xs.length=us.length:=Paired.length r
theorem aA.get:∀ {xs:List V} {us:List Value} {i:Nat} {x:V},aA xs us->xs[i]?=some x->∃ u,us[i]?=some u/\az x u
 | _,_,_,_,.nil,e=>by simp at e
 | _,_,0,_,.cons r _,e=>by simp at e;subst e;exact ⟨_,rfl,r⟩
 | _,_,i+1,x,.cons _ t,e=>by
  obtain ⟨u,h1,h2⟩:=aA.get (i:=i) (x:=x) t (by simpa using e);exact ⟨u,by simpa using h1,h2⟩
theorem aA.set{x:V}{u:Value}(r:az x u):∀ {xs:List V} {us:List Value} (i:Nat),aA xs us->aA (xs.set i x) (us.set i u)
 | _,_,_,.nil=> .nil
 | _,_,0,.cons _ t=> .cons r t
 | _,_,i+1,.cons q t=> .cons q (aA.set r i t)
theorem aA.append:∀ {xs ys:List V} {us ws:List Value},aA xs us->aA ys ws->aA (xs++ys) (us++ws)
 | _,_,_,_,.nil,s=>s
 | _,_,_,_,.cons r t,s=> .cons r (aA.append t s)
theorem aA.take:∀ {xs:List V} {us:List Value} (n:Nat),aA xs us->aA (xs.take n) (us.take n)
 | _,_,0,_=> .nil
 | _,_,_+1,.nil=> .nil
 | _,_,n+1,.cons r t=> .cons r (aA.take n t)
theorem aA.drop:∀ {xs:List V} {us:List Value} (n:Nat),aA xs us->aA (xs.drop n) (us.drop n)
 | _,_,0,r=>r
 | _,_,_+1,.nil=> .nil
 | _,_,n+1,.cons _ t=>aA.drop n t
def ji:Option V->Option Value->Prop
 | some v,some u=>az v u
 | none,none=>True
 | _,_=>False
def KV{κ:Type}:List (κ×V)->List (κ×Value)->Prop:=Paired fun (p:κ×V) (q:κ×Value)=>p.1=q.1/\az p.2 q.2
def kV:Key->V
 | .inl i=> .int i
 | .inr x=> .str x
inductive HO where
 | lst (xs:List V)
 | tup (xs:List V)
 | dK (kvs:List (Key×V)) | dT (kvs:List (List Key×V))
 | set (S:Int->Bool) (n:Nat)
 | ins (C dx:Addr) (fs:List (Str×V))
 | own (x:Addr)
 | xd (fs:List (Str×V))
 | met (f x:Addr)
 | rng (lo hi:Int)
 | frz (o:Obj) (u:HO)
 | tbl (ps:Array Value)
 | ext (φ:Heap->Prop)
abbrev Hp:=Addr->Option HO
def upd(H:Hp)(a:Addr)(o:HO):Hp:=fun b=>if b=a then some o else H b
theorem am{H:Hp}{a:Addr}{o:HO}:upd H a o a=some o:=by unfold upd;rw [if_pos rfl]
theorem ak{H:Hp}{a b:Addr}{o:HO}(h:b≠a):upd H a o b=H b:=by unfold upd;rw [if_neg h]
theorem x9{H:Hp}{a:Addr}{o u:HO}:upd (upd H a o) a u=upd H a u:=by
 funext b;unfold upd;split<;>rfl
theorem ne_of{H:Hp}{a b:Addr}{o u:HO}(h:H a=some o)(h':H b=some u)(d:o≠u):a≠b:=by
 intro e;subst e;rw [h] at h';exact d (Option.some.inj h')
theorem au{H:Hp}{a b:Addr}{o:HO}(h:H a=some o)(h':H b=none):a≠b:=by
 intro e;subst e;rw [h] at h';cases h'
structure qC(h:Heap)(a:Addr)(items:Array Value):Prop where
 t:IsTup h a items
 nd:∀ o,h.get? a=some o->o.dict=none
theorem qC.new(h:Heap)(items:Array Value):qC (h.push { cls:= .type "tuple",data:= .seq items }) h.objs.size items:=⟨IsTup.new _ _,fun o e=>by rw [Bm _ rfl] at e;cases e;rfl⟩
section
variable(P:Program)(w:World)
def bB(H:Hp)(h:Heap)(a:Addr):HO->Prop
 | .lst xs=>xs.length<=sizeLine/\∃ (its:List Value) (n:Nat),aA xs its/\h.get? a=some { cls:= .type "list",data:= .seq its.toArray n }
 | .tup xs=>xs.length<=sizeLine/\∃ its:List Value,aA xs its/\qC h a its.toArray
 | .dK kvs=>kvs.length<=sizeLine/\(a == sysModules)=false/\∃ vs,KV kvs vs/\h.DictOf (aU P w) a vs
 | .dT kvs=>kvs.length<=sizeLine/\(a == sysModules)=false/\∃ xs:List (List Key×Addr×Value),
  Paired (fun (p:List Key×V) (q:List Key×Addr×Value)=>p.1=q.1/\H q.2.1=some (.tup (p.1.map kV))/\az p.2 q.2.2) kvs xs /\
  ∃ o es ep,h.get? a=some o/\o.ExactDict/\o.data = .dict es ep/\es.toList=xs.map (entryOfKey (tupleKind (aU P w)))/\(xs.map (·.1)).Nodup
 | .set S n=>h.SetOf (intKind P w) a S n
 | .ins C dx fs=>H dx=some (.own a)/\fs.length<=1000/\dx≠a/\h.get? a=some (PySem.W.instObj C dx) /\
  ∃ mA,h.Ns1 dx mA/\(∀ f,ji (fs.lookup f) (mA f))/\PySem.Within mA (fs.map (·.1))
 | .own _=>∃ o,h.get? a=some o
 | .xd fs=>∃ mA,h.Ns1 a mA/\∀ f,ji (fs.lookup f) (mA f)
 | .rng lo hi=>∃ t u v,h.get? a=some { cls:= .type "range",data:= .fields #[.int lo t,.int hi u,.int 1 v] }
 | .frz o u=>h.get? a=some o/\bB H h a u
 | .tbl ps=>h.get? a=some { cls:= .none,data:= .fields ps }
 | .met f x=>h.get? a=some (PySem.W.methodObj (.ref f) (.ref x))
 | .ext φ=>φ h/\(∃ o,h.get? a=some o)/\∀ h1 h2:Heap,φ h1->(∀ o,h1.get? a=some o->h2.get? a=some o)->φ h2
def HOk(H:Hp)(h:Heap):Prop:=∀ a o,H a=some o->bB P w H h a o
end
section
variable{P:Program}{w:World}{H H':Hp}{h h':Heap}{a:Addr}{o:HO}
theorem bB.lt(x:bB P w H h a o):a < h.objs.size:=by
 cases o with
 | lst xs=>obtain ⟨_,_,_,_,e⟩:=x;exact Bk e
 | tup xs=>obtain ⟨_,_,_,p⟩:=x;exact p.t.lt
 | dK kvs=>obtain ⟨_,_,_,_,o,_,_,e,_⟩:=x;exact Bk e
 | dT kvs=>obtain ⟨_,_,_,_,o,_,_,e,_⟩:=x;exact Bk e
 | set S n=>obtain ⟨o,_,_,_,e,_⟩:=x;exact Bk e
 | ins C dx fs=>obtain ⟨_,_,_,e,_⟩:=x;exact Bk e
 | own y=>obtain ⟨_,e⟩:=x;exact Bk e
 | xd fs=>obtain ⟨_,⟨_,_,_,e,_⟩,_⟩:=x;exact Bk e
 | rng lo hi=>obtain ⟨_,_,_,e⟩:=x;exact Bk e
 | frz ob u=>obtain ⟨e,_⟩:=x;exact Bk e
 | tbl ps=>exact Bk (show h.get? a=some _ from x)
 | met f y=>exact Bk (show h.get? a=some _ from x)
 | ext φ=>obtain ⟨_,⟨_,e⟩,_⟩:=x;exact Bk e
theorem Paired.mapP{α β:Type}{F G:α->β->Prop}:∀ {l₁:List α} {l₂:List β},Paired F l₁ l₂->(∀ a b,F a b->G a b)->Paired G l₁ l₂
 | _,_,.nil,_=> .nil
 | _,_,.cons r t,f=> .cons (f _ _ r) (Paired.mapP t f)
theorem bB.stay(x:bB P w H h a o)(k:∀ b u,(b=a\/H b=some (.own a))->h.get? b=some u->h'.get? b=some u)
 (ho:∀ b,H b=some (.own a)->H' b=some (.own a)) (ht:∀ b xs,H b=some (.tup xs)->H' b=some (.tup xs)):bB P w H' h' a o:=by
 induction o with
 | lst xs=>obtain ⟨z,its,n,r,e⟩:=x;exact ⟨z,its,n,r,k _ _ (.inl rfl) e⟩
 | tup xs=>obtain ⟨z,its,r,⟨ob,e,c⟩,nd⟩:=x;exact ⟨z,its,r,⟨ob,k _ _ (.inl rfl) e,c⟩,fun o' e'=>by rw [k _ _ (.inl rfl) e] at e';cases e';exact nd _ e⟩
 | dK kvs=>obtain ⟨z,y,vs,r,ob,es,ep,e,c⟩:=x;exact ⟨z,y,vs,r,ob,es,ep,k _ _ (.inl rfl) e,c⟩
 | dT kvs =>
  obtain ⟨z,y,xs,r,ob,es,ep,e,c⟩:=x;exact ⟨z,y,xs,Paired.mapP r fun p q z=>⟨z.1,ht _ _ z.2.1,z.2.2⟩,ob,es,ep,k _ _ (.inl rfl) e,c⟩
 | set S n=>obtain ⟨ob,es,ep,t,e,c⟩:=x;exact ⟨ob,es,ep,t,k _ _ (.inl rfl) e,c⟩
 | ins C dx fs =>
  obtain ⟨d,z,ne,e,mA,⟨od,es,ep,e2,c⟩,r⟩:=x;exact ⟨ho _ d,z,ne,k _ _ (.inl rfl) e,mA,⟨od,es,ep,k _ _ (.inr d) e2,c⟩,r⟩
 | own y=>obtain ⟨ob,e⟩:=x;exact ⟨ob,k _ _ (.inl rfl) e⟩
 | xd fs=>obtain ⟨mA,⟨od,es,ep,e,c⟩,r⟩:=x;exact ⟨mA,⟨od,es,ep,k _ _ (.inl rfl) e,c⟩,r⟩
 | rng lo hi=>obtain ⟨t,u,v,e⟩:=x;exact ⟨t,u,v,k _ _ (.inl rfl) e⟩
 | frz ob u ih=>obtain ⟨e,q⟩:=x;exact ⟨k _ _ (.inl rfl) e,ih q⟩
 | tbl ps =>
  have e:h.get? a=some { cls:= .none,data:= .fields ps }:=x
  show h'.get? a=some { cls:= .none,data:= .fields ps }
  exact k a _ (.inl rfl) e
 | met f y =>
  have e:h.get? a=some (PySem.W.methodObj (.ref f) (.ref y)):=x
  show h'.get? a=some (PySem.W.methodObj (.ref f) (.ref y))
  exact k a _ (.inl rfl) e
 | ext φ=>obtain ⟨p,⟨o,e⟩,st⟩:=x;exact ⟨st _ _ p fun o q=>k _ _ (.inl rfl) q,⟨o,k _ _ (.inl rfl) e⟩,st⟩
theorem HOk.lt(x:HOk P w H h)(e:H a=some o):a < h.objs.size:=(x a o e).lt
theorem HOk.fresh(x:HOk P w H h)(e:h.objs.size<=a):H a=none:=by
 cases q:H a with
 | none=>rfl
 | some u=>exact absurd (BD (x.lt q) e) (CZ _)
theorem HOk.kept(x:HOk P w H h)(k:∀ b u,h.get? b=some u->h'.get? b=some u):HOk P w H h':=fun a o e =>
 (x a o e).stay (fun b u _ q=>k b u q) (fun _ q=>q) fun _ _ q=>q
theorem HOk.laid(x:HOk P w H h)(k:∀ b u,h.get? b=some u->h'.get? b=some u)(hp:h.objs.size<=a)(new:bB P w (upd H a o) h' a o):HOk P w (upd H a o) h':=fun b u e=>by
 have hn:=x.fresh hp
 by_cases hb:b=a
 ·subst hb;rw [am] at e;cases e;exact new
 ·rw [ak hb] at e
  exact (x b u e).stay (fun c v _ q=>k c v q) (fun c q=>by rw [ak (au q hn)];exact q) fun c xs q=>by rw [ak (au q hn)];exact q
end
def Rd(H:Hp)(a:Addr)(u:HO):Prop:=H a=some u\/∃ o,H a=some (.frz o u)
theorem Rd.ok{P:Program}{w:World}{H:Hp}{h:Heap}{a:Addr}{u:HO}(r:Rd H a u)(x:HOk P w H h):bB P w H h a u:=by
 rcases r with r | ⟨o,r⟩
 ·exact x a u r
 ·obtain ⟨_,q⟩:=x a _ r
  exact q
def Mut:Option HO->Prop
 | some (.lst _)=>True
 | some (.dK _)=>True
 | some (.dT _)=>True
 | some (.set _ _)=>True
 | some (.ins _ _ _)=>True
 | some (.ext _)=>True
 | _=>False
section
variable{P:Program}{w:World}{H:Hp}{h h':Heap}{x e:Addr}{o':HO}
theorem HOk.write(ok:HOk P w H h)(mu:Mut (H x))(he:e=x\/H e=some (.own x))(k:∀ b u,b≠e->h.get? b=some u->h'.get? b=some u)(heo:∃ u,h'.get? e=some u)
 (new:bB P w (upd H x o') h' x o'):HOk P w (upd H x o') h':=fun b u q=>by
 have nown:∀ c y,H c=some (.own y)->c≠x:=fun c y r z=>by subst z;rw [r] at mu;exact mu
 have ntup:∀ c xs,H c=some (.tup xs)->c≠x:=fun c xs r z=>by subst z;rw [r] at mu;exact mu
 by_cases hb:b=x
 ·subst hb;rw [am] at q;cases q;exact new
 ·rw [ak hb] at q
  by_cases hbe:b=e
  ·have q':H b=some (.own x):=by
    rcases he with z | z
    ·exact absurd (hbe.trans z) hb
    ·rw [hbe];exact z
   rw [q] at q';cases q';obtain ⟨v,hv⟩:=heo;exact ⟨v,by rw [hbe];exact hv⟩
  ·refine (ok b u q).stay (fun c v hc r=>k c v ?_ r) (fun c r=>by rw [ak (nown c b r)];exact r) fun c xs r=>by rw [ak (ntup c xs r)];exact r
   rcases hc with rfl | hc
   ·exact hbe
   ·rintro rfl
    rcases he with z | z
    ·exact nown c b hc z
    ·rw [hc] at z;cases z;exact hb rfl
end
structure Un(fs ex:List Addr)(H H':Hp)(h h':Heap):Prop where
 keep:∀ b o,h.get? b=some o->H b=none->b∉fs->b∉ex->h'.get? b=some o
 slot:∀ b o,h.get? b=some o->H b=none->b∈fs->b∉ex->∃ sl,h'.get? b=some { o with slots:=sl }
 free:∀ b o,h.get? b=some o->H b=none->b∉ex->H' b=none
 there:∀ b o,h.get? b=some o->b∉ex->∃ o',h'.get? b=some o'
 tups:∀ b xs,H b=some (.tup xs)->H' b=some (.tup xs)
 frzs:∀ b o u,H b=some (.frz o u)->H' b=some (.frz o u)
 tbls:∀ b ps,H b=some (.tbl ps)->∃ more,H' b=some (.tbl (ps++more))
section
variable{fs fs' ex ex':List Addr}{H H1 H2:Hp}{h h1 h2 h':Heap}{a x e:Addr}{o:HO}
theorem Un.any(u:Un fs ex H H1 h h1){b:Addr}{ob:Obj}(q:h.get? b=some ob)(n:H b=none)(hx:b∉ex):∃ sl,h1.get? b=some { ob with slots:=sl }:=by
 by_cases hb:b∈fs
 ·exact u.slot b ob q n hb hx
 ·exact ⟨ob.slots,u.keep b ob q n hb hx⟩
theorem Un.kept(k:∀ b u,h.get? b=some u->h'.get? b=some u):Un fs ex H H h h' :=
 ⟨fun b ob q _ _ _=>k b ob q,fun b ob q _ _ _=>⟨ob.slots,k b ob q⟩,fun _ _ _ n _=>n,fun b ob q _=>⟨ob,k b ob q⟩,fun _ _ q=>q,fun _ _ _ q=>q,fun _ ps q=>⟨#[],by rw [q];simp⟩⟩
theorem Un.refl:Un fs ex H H h h:=Un.kept fun _ _ q=>q
theorem Un.laid(k:∀ b u,h.get? b=some u->h'.get? b=some u)(hp:h.objs.size<=a)(hn:H a=none):Un fs ex H (upd H a o) h h' where
 keep:=fun b u q _ _ _=>k b u q
 slot:=fun b u q _ _ _=>⟨u.slots,k b u q⟩
 free:=fun b u q n _=>by rw [ak (BC (BD (Bk q) hp))];exact n
 there:=fun b u q _=>⟨u,k b u q⟩
 tups:=fun b xs q=>by rw [ak (au q hn)];exact q
 frzs:=fun b u xs q=>by rw [ak (au q hn)];exact q
 tbls:=fun b ps q=>⟨#[],by rw [ak (au q hn),q];simp⟩
theorem Un.write(mu:Mut (H x))(he:e=x\/H e=some (.own x))(k:∀ b u,b≠e->h.get? b=some u->h'.get? b=some u)(heo:∃ u,h'.get? e=some u):Un fs ex H (upd H x o) h h':=by
 have hx:∀ b,H b=none->b≠x:=fun b n z=>by subst z;rw [n] at mu;exact mu
 have hb:∀ b,H b=none->b≠e:=fun b n z=>by
  subst z
  rcases he with r | r
  ·exact hx b n r
  ·rw [n] at r;cases r
 have hm:∀ b u,H b=some u->¬ Mut (some u)->b≠x:=fun b u q nm z=>by subst z;rw [q] at mu;exact nm mu
 refine ⟨fun b u q n _ _=>k b u (hb b n) q,fun b u q n _ _=>⟨u.slots,k b u (hb b n) q⟩,fun b u q n _=>by rw [ak (hx b n)];exact n,fun b u q _=> ?_,
  fun b xs q=>by rw [ak (hm b _ q fun z=>z)];exact q,fun b u xs q=>by rw [ak (hm b _ q fun z=>z)];exact q,fun b ps q=>⟨#[],by rw [ak (hm b _ q fun z=>z),q];simp⟩⟩
 by_cases hbe:b=e
 ·subst hbe;exact heo
 ·exact ⟨u,k b u hbe q⟩
end
def trk(h:Heap)(H:Hp):List Addr:=(List.range h.objs.size).filter fun a=>(H a).isSome
def oC(h:Heap)(H:Hp):Heap:=PySem.W.hideAll h (trk h H)
theorem uE(h:Heap)(H:Hp):(oC h H).objs.size=h.objs.size:=PySem.W.hideAll_size _ _
theorem xf{h:Heap}{H:Hp}{b:Addr}{o:Obj}(e:h.get? b=some o)(n:H b=none):(oC h H).get? b=some o :=
 CQ _ e fun hm=>by
  have q:(H b).isSome=true:=(BY.mp hm).2;rw [n] at q;simp at q
theorem zu{h:Heap}{H:Hp}{b:Addr}{o:Obj}(e:(oC h H).get? b=some o):h.get? b=some o/\H b=none:=by
 have e':h.get? b=some o:=PySem.W.of_hideAll (trk h H) e;refine ⟨e',?_⟩
 cases q:H b with
 | none=>rfl
 | some x =>
  have hm:b∈trk h H:=BY.mpr ⟨BK.mpr (Bk e'),by simp [q]⟩;have z:(oC h H).get? b=none:=PySem.W.hideAll_none (trk h H) hm;rw [z] at e;cases e
structure Mod(K:Dy)(mg:Str->Option Value)(base:Heap):Prop where
 kin:K.In base
 glob:base.Ns mainGlobals mg
 blt:∃ mb,base.Ns builtinsNs mb/\∀ x:Str,x ≠ "__name__" -> mb x=bootBuiltins x
 nolimit:base.NoLimit
structure Cx where
 prog:Program
 w:World
 K:Dy
 mg:Str->Option Value
 base:Heap
 A:Around
 N:List Str
 s₀:Shared
 H₀:Hp
 env:Env
 outer:List Env
 stack:List Env
 ex:List Addr
 fn:Str->Bool
 calm:Bool
 pn:List (Addr×Obj)
 xe:Value->Shared->Prop
def frs(l:List Env):List Addr:=l.filterMap (·.frame)
abbrev Cx.fs(X:Cx):List Addr:=frs X.outer
def Vis(sc:Scope)(x:Str):Prop:=sc.names.lookup x=some .local\/sc.names.lookup x=some .cell\/sc.names.lookup x=some .free
def Loc(sc:Scope)(x:Str):Prop:=sc.names.lookup x=some .local\/sc.names.lookup x=some .cell
def Look(env:Env)(h:Heap)(m:Str->Option Value)(x:Str)(u:Value):Prop :=
 (env.kindOf x=some .local/\m x=some u)\/((env.kindOf x=some .cell\/env.kindOf x=some .free)/\∃ c,env.cells.lookup x=some c/\h.IsCell c (some u))
structure Cx.Ok(X:Cx):Prop where
 mod:Mod X.K X.mg X.base
 kind:X.env.scope.kind = .function
 glob:X.env.globals=mainGlobals
 blt:X.env.builtins=builtinsNs
 above:X.s₀.heap.objs.size<=X.env.locals
 inj:∀ x y c,X.env.cells.lookup x=some c->X.env.cells.lookup y=some c->x=y
 has:∀ x,(X.env.kindOf x=some .cell\/X.env.kindOf x=some .free)->∃ c,X.env.cells.lookup x=some c
 cab:∀ x c,X.fn x=true->X.env.cells.lookup x=some c->X.s₀.heap.objs.size<=c
 hd:X.calm=true->X.A.handled=none
 frames:X.A.frames=some X.stack
 stk:X.stack=X.outer\/(X.stack=X.env::X.outer/\X.env.frame=some X.env.locals)
 exf:∀ b∈X.ex,b≠X.env.locals/\∀ x c,X.env.cells.lookup x=some c->c≠b
 bs:∀ b o,X.base.get? b=some o->X.s₀.heap.get? b=some o/\X.H₀ b=none
 bsz:X.base.objs.size<=X.s₀.heap.objs.size
 noex:∀ b o,X.base.get? b=some o->b∉X.ex
 exfs:∀ b∈X.ex,b∉X.fs
 funs:X.s₀.heap.FunFrames X.base X.outer
 frf:∀ b∈X.fs,X.H₀ b=none
structure Inv(X:Cx)(pins:List (Addr×Obj))(σ:List (Option V))(H:Hp)(s:Shared):Prop where
 ok:X.Ok
 os:s.os=X.s₀.os
 bare:AllBare s.gens
 base:Un X.fs X.ex X.H₀ H X.s₀.heap s.heap
 loc:∃ m,s.heap.Ns X.env.locals m/\∀ (i:Nat) (x:Str) (v:V),X.N[i]?=some x->σ[i]?=some (some v)->Vis X.env.scope x->∃ u,az v u/\Look X.env s.heap m x u
 cell:∀ x c,X.env.cells.lookup x=some c->∃ v,s.heap.IsCell c v
 free:H X.env.locals=none
 freeC:∀ x c,X.env.cells.lookup x=some c->H c=none
 pin:∀ p∈X.pn++pins,s.heap.get? p.1=some p.2/\H p.1=none/\p.1≠X.env.locals/\p.1∉X.fs/\∀ v,p.2.data ≠ .cell v
 hok:HOk X.prog X.w H s.heap
 len:σ.length=X.N.length
section
variable{X:Cx}{pins:List (Addr×Obj)}{σ:List (Option V)}{H H':Hp}{s:Shared}{h':Heap}
theorem Cx.Ok.nofr(ok:X.Ok){b:Addr}{o:Obj}(e:X.base.get? b=some o):b∉X.fs:=fun hb=>by
 have:=(ok.funs.mem hb).1;rw [e] at this;cases this
theorem Inv.bs(I:Inv X pins σ H s):∀ b o,X.base.get? b=some o->s.heap.get? b=some o/\H b=none:=fun b o e =>
 ⟨I.base.keep b o (I.ok.bs b o e).1 (I.ok.bs b o e).2 (I.ok.nofr e) (I.ok.noex b o e),I.base.free b o (I.ok.bs b o e).1 (I.ok.bs b o e).2 (I.ok.noex b o e)⟩
theorem Inv.bk(I:Inv X pins σ H s):∀ b o,X.base.get? b=some o->s.heap.get? b=some o:=fun b o e=>(I.bs b o e).1
theorem Inv.mod(I:Inv X pins σ H s):Mod X.K X.mg X.base:=I.ok.mod
theorem Inv.kIn(I:Inv X pins σ H s):X.K.In s.heap:=I.ok.mod.kin.keeps I.bk
theorem Inv.fr(I:Inv X pins σ H s):∃ m,Fr X.base X.env.locals s.heap m :=
 let ⟨m,hn,_⟩:=I.loc
 ⟨m,hn,I.bk,Nat.le_trans I.ok.bsz I.ok.above⟩
theorem Inv.lt(I:Inv X pins σ H s):X.env.locals < s.heap.objs.size:=let ⟨_,hn,_⟩:=I.loc;hn.lt
theorem Inv.sz(I:Inv X pins σ H s):X.s₀.heap.objs.size<=s.heap.objs.size:=Nat.le_trans I.ok.above (Cs I.lt)
theorem Inv.nofs(I:Inv X pins σ H s){a:Addr}(h:s.heap.objs.size<=a):a∉X.fs:=fun hb=>by
 obtain ⟨_,o,ho,_⟩:=I.ok.funs.mem hb;exact absurd (BD (Bk ho) (Nat.le_trans I.sz h)) (CZ _)
theorem Inv.cne(I:Inv X pins σ H s):∀ x c,X.env.cells.lookup x=some c->c≠X.env.locals:=fun x c e z=>by
 obtain ⟨v,o,ho,hd⟩:=I.cell x c e;obtain ⟨m,⟨o',es,ep,ho',hd',_⟩,_⟩:=I.loc;rw [z,ho'] at ho;cases ho;rw [hd'] at hd;cases hd
theorem Inv.funs(I:Inv X pins σ H s):s.heap.FunFrames X.base X.outer:=by
 have all:∀ (l:List Env),(∀ b∈frs l,b∈X.fs)->X.s₀.heap.FunFrames X.base l->s.heap.FunFrames X.base l:=by
  intro l
  induction l with
  | nil=>intro _ _;trivial
  | cons env r ih =>
   intro hs hl;obtain ⟨hk,⟨L,o,hf,hn,ho,hd⟩,hr⟩:=hl;have hL:L∈X.fs:=hs L (by unfold frs;rw [Dr,hf];exact Bn)
   obtain ⟨sl,e⟩:=I.base.slot L o ho (I.ok.frf L hL) hL fun z=>I.ok.exfs L z hL
   exact ⟨hk,⟨L,_,hf,hn,e,hd⟩,ih (fun b hb=>hs b (by unfold frs;rw [Dr,hf];exact Bi _ hb)) hr⟩
 exact all X.outer (fun _ hb=>hb) I.ok.funs
theorem Inv.stack(I:Inv X pins σ H s):s.heap.FunFrames X.base X.stack:=by
 rcases I.ok.stk with e | ⟨e,hf⟩
 ·rw [e];exact I.funs
 ·rw [e]
  obtain ⟨m,hn,_⟩:=I.loc;refine .cons (by rw [I.ok.kind];decide) hf hn ?_ I.funs;exact Heap.get?_none_of_le (Nat.le_trans I.ok.bsz I.ok.above)
theorem Inv.stkSub(I:Inv X pins σ H s):∀ b∈frs X.stack,b∈X.env.locals::X.fs:=fun b hb=>by
 rcases I.ok.stk with e | ⟨e,hf⟩
 ·rw [e] at hb;exact Bi _ hb
 ·rw [e] at hb
  unfold frs at hb;rw [Dr,hf] at hb;exact hb
theorem Inv.stkFree(I:Inv X pins σ H s):∀ b∈frs X.stack,H b=none:=fun b hb=>by
 rcases Bp.mp (I.stkSub b hb) with e | hb
 ·rw [e];exact I.free
 ·obtain ⟨_,o,ho,_⟩:=I.ok.funs.mem hb
  exact I.base.free b o ho (I.ok.frf b hb) fun z=>I.ok.exfs b z hb
theorem Inv.step{g':Array GenState}{t':Nat}{d':Drawn}{ch:List Addr}(I:Inv X pins σ H s)
 (hch:∀ b∈ch,(b∈X.ex\/X.s₀.heap.objs.size<=b)/\b≠X.env.locals/\(∀ x c,X.env.cells.lookup x=some c->c≠b)/\∀ p∈X.pn++pins,p.1≠b)
 (keep:∀ b o,b≠X.env.locals->b∉X.fs->b∉ch->s.heap.get? b=some o->H b=none->h'.get? b=some o)
 (slot:∀ b o,b≠X.env.locals->b∈X.fs->b∉ch->s.heap.get? b=some o->H b=none->∃ sl,h'.get? b=some { o with slots:=sl }) (free:∀ b o,b∉ch->s.heap.get? b=some o->H b=none->H' b=none)
 (there:∀ b o,b∉ch->s.heap.get? b=some o->∃ o',h'.get? b=some o')
 (tups:∀ b xs,H b=some (.tup xs)->H' b=some (.tup xs)) (frzs:∀ b o u,H b=some (.frz o u)->H' b=some (.frz o u)) (tbls:∀ b ps,H b=some (.tbl ps)->∃ more,H' b=some (.tbl (ps++more)))
 (ns:∀ m,s.heap.Ns X.env.locals m->h'.Ns X.env.locals m) (hok:HOk X.prog X.w H' h') (hg:AllBare g') :
 Inv X pins σ H' { s with heap:=h',gens:=g',drawn:=d',toks:=t' }:=by
 have neL:∀ b o,X.s₀.heap.get? b=some o->b≠X.env.locals:=fun b o e=>BC (BD (Bk e) I.ok.above)
 have neC:∀ b o,X.s₀.heap.get? b=some o->b∉X.ex->b∉ch:=fun b o e hx hb=>by
  rcases (hch b hb).1 with z | z
  ·exact hx z
  ·exact absurd (BD (Bk e) z) (CZ _)
 have cellK:∀ x c,X.env.cells.lookup x=some c->∀ v,s.heap.IsCell c v->h'.IsCell c v:=fun x c e v ⟨o,ho,hd⟩=>by
  have nch:c∉ch:=fun z=>(hch c z).2.2.1 x c e rfl
  by_cases hc:c∈X.fs
  ·obtain ⟨sl,q⟩:=slot c o (I.cne x c e) hc nch ho (I.freeC x c e)
   exact ⟨_,q,hd⟩
  ·exact ⟨o,keep c o (I.cne x c e) hc nch ho (I.freeC x c e),hd⟩
 refine ⟨I.ok,I.os,hg,⟨fun b o e n hb hx=> ?_,fun b o e n hb hx=> ?_,fun b o e n hx=> ?_,fun b o e hx=> ?_,fun b xs e=>tups b xs (I.base.tups b xs e),fun b o xs e=>frzs b o xs (I.base.frzs b o xs e),fun b ps e=> ?_⟩,?_,fun x c e=> ?_,?_,fun x c e=> ?_,fun p hp=> ?_,hok,I.len⟩
 ·exact keep b o (neL b o e) hb (neC b o e hx) (I.base.keep b o e n hb hx) (I.base.free b o e n hx)
 ·obtain ⟨sl,e1⟩:=I.base.slot b o e n hb hx
  obtain ⟨sl',e2⟩:=slot b _ (neL b o e) hb (neC b o e hx) e1 (I.base.free b o e n hx);exact ⟨sl',e2⟩
 ·obtain ⟨o',e1⟩:=I.base.there b o e hx
  exact free b o' (neC b o e hx) e1 (I.base.free b o e n hx)
 ·obtain ⟨o',e1⟩:=I.base.there b o e hx
  exact there b o' (neC b o e hx) e1
 ·obtain ⟨m1,e1⟩:=I.base.tbls b ps e
  obtain ⟨m2,e2⟩:=tbls b _ e1;exact ⟨m1++m2,by rw [e2,Array.append_assoc]⟩
 ·obtain ⟨m,hn,hl⟩:=I.loc
  refine ⟨m,ns m hn,fun i x v e1 e2 e3=> ?_⟩;obtain ⟨u,r,l⟩:=hl i x v e1 e2 e3;refine ⟨u,r,?_⟩
  rcases l with l | ⟨k,c,e,z⟩
  ·exact .inl l
  ·exact .inr ⟨k,c,e,cellK x c e _ z⟩
 ·obtain ⟨v,z⟩:=I.cell x c e
  exact ⟨v,cellK x c e v z⟩
 ·obtain ⟨m,⟨o,_,_,ho,_⟩,_⟩:=I.loc
  exact free _ o (fun z=>(hch _ z).2.1 rfl) ho I.free
 ·obtain ⟨v,o,ho,hd⟩:=I.cell x c e
  exact free c o (fun z=>(hch c z).2.2.1 x c e rfl) ho (I.freeC x c e)
 ·obtain ⟨e,n,ne,nf,d⟩:=I.pin p hp
  have nch:p.1∉ch:=fun z=>(hch p.1 z).2.2.2 p hp rfl
  exact ⟨keep p.1 p.2 ne nf nch e n,free p.1 p.2 nch e n,ne,nf,d⟩
theorem Inv.un{t':Nat}(I:Inv X pins σ H s)(u:Un X.fs [] H H' s.heap h')(hok:HOk X.prog X.w H' h'):Inv X pins σ H' { s with heap:=h',toks:=t' }:=by
 obtain ⟨m,⟨o,es,ep,ho,r⟩,_⟩:=id I.loc;obtain ⟨sl,hL⟩:=u.any ho I.free (by simp)
 exact I.step (g':=s.gens) (d':=s.drawn) (ch:=[]) (fun _ z=>nomatch z) (fun b o _ hb _ e n=>u.keep b o e n hb (by simp)) (fun b o _ hb _ e n=>u.slot b o e n hb (by simp)) (fun b o _ e n=>u.free b o e n (by simp)) (fun b o _ e=>u.there b o e (by simp)) u.tups u.frzs u.tbls (fun m' hm=>by
  obtain ⟨o',es',ep',ho',r'⟩:=hm;rw [ho] at ho';cases ho'
  exact ⟨_,es',ep',hL,r'⟩) hok I.bare
theorem Inv.call{g':Array GenState}{t':Nat}{d':Drawn}{ch:List Addr}(I:Inv X pins σ H s)(u:Un (frs X.stack) ch H H' s.heap h')(hok:HOk X.prog X.w H' h')(hg:AllBare g')
 (hch:∀ b∈ch,(b∈X.ex\/X.s₀.heap.objs.size<=b)/\b≠X.env.locals/\(∀ x c,X.env.cells.lookup x=some c->c≠b)/\∀ p∈X.pn++pins,p.1≠b) :
 Inv X pins σ H' { s with heap:=h',gens:=g',drawn:=d',toks:=t' }:=by
 obtain ⟨m,⟨o,es,ep,ho,r⟩,_⟩:=id I.loc
 obtain ⟨sl,hL⟩:=u.any ho I.free fun z=>(hch _ z).2.1 rfl
 exact I.step (ch:=ch) hch (fun b o hL hb hc e n=>u.keep b o e n (fun z=>(Bp.mp (I.stkSub b z)).elim hL hb) hc) (fun b o _ _ hc e n=>u.any e n hc) (fun b o hc e n=>u.free b o e n hc) (fun b o hc e=>u.there b o e hc) u.tups u.frzs u.tbls (fun m' hm=>by
  obtain ⟨o',es',ep',ho',r'⟩:=hm;rw [ho] at ho';cases ho'
  exact ⟨_,es',ep',hL,r'⟩) hok hg
theorem Inv.turned{t':Nat}{it:Addr}(I:Inv X pins σ H s)(k:∀ b o,b≠it->s.heap.get? b=some o->h'.get? b=some o)(hn:H it=none)(hL:it≠X.env.locals)
 (h1:it∈X.ex\/X.s₀.heap.objs.size<=it) (h2:∀ x c,X.env.cells.lookup x=some c->c≠it) (h3:∀ p∈X.pn++pins,p.1≠it):Inv X pins σ H { s with heap:=h',toks:=t' }:=by
 have nit:∀ b u,H b=some u->b≠it:=fun b u e z=>by rw [z,hn] at e;cases e
 refine I.step (g':=s.gens) (d':=s.drawn) (ch:=[it]) (fun b hb=> ?_) (fun b o _ _ hc e _=>k b o (fun z=>hc (by simp [z])) e) (fun b o _ _ hc e _=>⟨o.slots,k b o (fun z=>hc (by simp [z])) e⟩) (fun _ _ _ _ n=>n)
  (fun b o hc e=>⟨o,k b o (fun z=>hc (by simp [z])) e⟩) (fun _ _ e=>e) (fun _ _ _ e=>e) (fun b ps e=>⟨#[],by rw [e];simp⟩) (fun m hm=> ?_) (fun b u e=> ?_) I.bare
 ·have e:b=it:=by simpa using hb
  subst e;exact ⟨h1,hL,h2,h3⟩
 ·obtain ⟨o,es,ep,ho,r⟩:=hm
  exact ⟨o,es,ep,k _ o (Ne.symm hL) ho,r⟩
 ·refine (I.hok b u e).stay (fun c v hc q=>k c v ?_ q) (fun _ q=>q) fun _ _ q=>q
  rcases hc with z | z
  ·rw [z];exact nit b u e
  ·exact nit c _ z
theorem Inv.tok(I:Inv X pins σ H s)(t:Nat):Inv X pins σ H { s with toks:=t }:=I.un (h':=s.heap) (t':=t) Un.refl I.hok
theorem Inv.kept{t':Nat}(I:Inv X pins σ H s)(k:∀ b u,s.heap.get? b=some u->h'.get? b=some u):Inv X pins σ H { s with heap:=h',toks:=t' }:=I.un (Un.kept k) (I.hok.kept k)
theorem Inv.laid{a:Addr}{o:HO}{t':Nat}(I:Inv X pins σ H s)(k:∀ b u,s.heap.get? b=some u->h'.get? b=some u)(hp:s.heap.objs.size<=a)(new:bB X.prog X.w (upd H a o) h' a o) :
 Inv X pins σ (upd H a o) { s with heap:=h',toks:=t' }:=I.un (Un.laid k hp (I.hok.fresh hp)) (I.hok.laid k hp new)
theorem Inv.write{x e:Addr}{o:HO}{t':Nat}(I:Inv X pins σ H s)(mu:Mut (H x))(he:e=x\/H e=some (.own x))(k:∀ b u,b≠e->s.heap.get? b=some u->h'.get? b=some u)(heo:∃ u,h'.get? e=some u)
 (new:bB X.prog X.w (upd H x o) h' x o):Inv X pins σ (upd H x o) { s with heap:=h',toks:=t' }:=I.un (Un.write mu he k heo) (I.hok.write mu he k heo new)
theorem Inv.weak{σ':List (Option V)}(I:Inv X pins σ H s)(hl:σ'.length=σ.length)(w:∀ (i:Nat) v,σ'[i]?=some (some v)->σ[i]?=some (some v)):Inv X pins σ' H s :=
 ⟨I.ok,I.os,I.bare,I.base,let ⟨m,hn,hl'⟩:=I.loc;⟨m,hn,fun i x v e1 e2 e3=>hl' i x v e1 (w i v e2) e3⟩,I.cell,I.free,I.freeC,I.pin,I.hok,hl.trans I.len⟩
theorem Inv.pins_of{pins':List (Addr×Obj)}(I:Inv X pins σ H s)(h:∀ p∈pins',s.heap.get? p.1=some p.2/\H p.1=none/\p.1≠X.env.locals/\p.1∉X.fs/\∀ v,p.2.data ≠ .cell v):Inv X pins' σ H s :=
 ⟨I.ok,I.os,I.bare,I.base,I.loc,I.cell,I.free,I.freeC,fun p hp=>(BA.mp hp).elim (fun z=>I.pin p (Bc _ z)) (h p),I.hok,I.len⟩
theorem kW{N:List Str}(hN:N.Nodup){i j:Nat}{x:Str}(a:N[i]?=some x)(b:N[j]?=some x):i=j:=by
 obtain ⟨h1,e1⟩:=Bs.mp a;obtain ⟨h2,e2⟩:=Bs.mp b;exact (List.getElem_inj hN).mp (e1.trans e2.symm)
theorem mI{M:Model}{A:Around}{E:Value->Shared->Prop}{i:Nat}{x:Str}{v:V}{u:Value}{Q:Unit->Shared->Prop}(I:Inv X pins σ H s)(hN:X.N.Nodup)(hi:X.N[i]?=some x)(hx:Loc X.env.scope x)(r:az v u)
 (h:∀ s',Inv X pins (σ.set i (some v)) H s'->(∃ a,Heap.SameBut a s.heap s'.heap/\(a=X.env.locals\/X.env.cells.lookup x=some a))->Q () s') (hf:X.fn x=true\/X.env.scope.names.lookup x=some .local:=by first | exact .inl rfl | exact .inr rfl | assumption):wpAny M A (storeName X.env x u) Q E s:=by
 obtain ⟨m,hn,hl⟩:=id I.loc
 have hcls:(X.env.scope.kind == .class||(X.env.scope.kind == .module&&X.env.locals != X.env.globals))=false:=by rw [I.ok.kind];rfl
 have hiσ:i < σ.length:=by rw [I.len];exact (Bs.mp hi).1
 have cne:=I.cne
 have tracked:∀ {a:Addr} {h':Heap},(∃ o,s.heap.get? a=some o/\H a=none)->Heap.SameBut a s.heap h'->HOk X.prog X.w H h':=fun {a h'} ha hs b ob e=>by
  obtain ⟨_,_,hfree⟩:=ha
  refine (I.hok b ob e).stay (fun c w' hc q=>(hs.2 c ?_).trans q) (fun _ q=>q) fun _ _ q=>q
  rintro rfl
  rcases hc with rfl | hc
  ·rw [hfree] at e;cases e
  ·rw [hfree] at hc;cases hc
 rcases hx with hk | hk
 ·refine wpAny_storeName_local hk hn (fun h' hn' hs=> ?_) hcls
  obtain ⟨oL,_,_,hoL,_⟩:=id hn;refine h _ ⟨I.ok,I.os,I.bare,⟨fun b o e n hb hx=> ?_,fun b o e n hb hx=> ?_,I.base.free,fun b o e hx=> ?_,I.base.tups,I.base.frzs,I.base.tbls⟩,⟨_,hn',fun j y v' e1 e2 e3=> ?_⟩,fun y c e=> ?_,I.free,I.freeC,fun p hp=> ?_,tracked ⟨oL,hoL,I.free⟩ hs,by simpa using I.len⟩ ⟨_,hs,.inl rfl⟩
  ·exact (hs.2 b (BC (BD (Bk e) I.ok.above))).trans (I.base.keep b o e n hb hx)
  ·obtain ⟨sl,e1⟩:=I.base.slot b o e n hb hx
   exact ⟨sl,(hs.2 b (BC (BD (Bk e) I.ok.above))).trans e1⟩
  ·obtain ⟨o',e1⟩:=I.base.there b o e hx
   exact ⟨o',(hs.2 b (BC (BD (Bk e) I.ok.above))).trans e1⟩
  ·by_cases hj:j=i
   ·subst hj
    rw [hi] at e1;cases e1;rw [B1 hiσ] at e2;cases e2;exact ⟨u,r,.inl ⟨hk,by simp⟩⟩
   ·rw [BG (Ne.symm hj)] at e2
    obtain ⟨u',r',q⟩:=hl j y v' e1 e2 e3;refine ⟨u',r',?_⟩
    rcases q with ⟨k,e⟩ | ⟨k,c,e,z⟩
    ·refine .inl ⟨k,?_⟩
     have:y≠x:=fun e=>hj (kW hN e1 (e ▸ hi))
     simp [this,e]
    ·exact .inr ⟨k,c,e,z.sameBut hs (cne y c e)⟩
  ·obtain ⟨w',z⟩:=I.cell y c e
   exact ⟨w',z.sameBut hs (cne y c e)⟩
  ·obtain ⟨e,n,ne,nf,d⟩:=I.pin p hp
   exact ⟨(hs.2 p.1 ne).trans e,n,ne,nf,d⟩
 ·have hfn:X.fn x=true:=by
   rcases hf with z | z
   ·exact z
   ·rw [z] at hk;cases hk
  obtain ⟨c,hc⟩:=I.ok.has x (.inl hk);obtain ⟨w',z⟩:=I.cell x c hc;refine wpAny_storeName_cell I.ok.kind hk hc z (fun h' hc' hs=> ?_);obtain ⟨oc,hoc,hocd⟩:=id z;refine h { s with heap:=h' } ⟨I.ok,I.os,I.bare,⟨fun b o e n hb hx=> ?_,fun b o e n hb hx=> ?_,I.base.free,fun b o e hx=> ?_,I.base.tups,I.base.frzs,I.base.tbls⟩,⟨m,hn.sameBut hs (Ne.symm (cne x c hc)),fun j y v' e1 e2 e3=> ?_⟩,fun y c' e=> ?_,I.free,I.freeC,fun p hp=> ?_,tracked ⟨oc,hoc,I.freeC x c hc⟩ hs,by simpa using I.len⟩ ⟨c,hs,.inr hc⟩
  ·exact (hs.2 b (BC (BD (Bk e) (I.ok.cab x c hfn hc)))).trans (I.base.keep b o e n hb hx)
  ·obtain ⟨sl,e1⟩:=I.base.slot b o e n hb hx
   exact ⟨sl,(hs.2 b (BC (BD (Bk e) (I.ok.cab x c hfn hc)))).trans e1⟩
  ·obtain ⟨o',e1⟩:=I.base.there b o e hx
   exact ⟨o',(hs.2 b (BC (BD (Bk e) (I.ok.cab x c hfn hc)))).trans e1⟩
  ·by_cases hj:j=i
   ·subst hj
    rw [hi] at e1;cases e1;rw [B1 hiσ] at e2;cases e2;exact ⟨u,r,.inr ⟨.inl hk,c,hc,hc'⟩⟩
   ·rw [BG (Ne.symm hj)] at e2
    obtain ⟨u',r',q⟩:=hl j y v' e1 e2 e3;refine ⟨u',r',?_⟩
    rcases q with q | ⟨k,c',e,z'⟩
    ·exact .inl q
    ·refine .inr ⟨k,c',e,z'.sameBut hs ?_⟩
     rintro rfl;exact hj (kW hN e1 (I.ok.inj _ _ _ e hc ▸ hi))
  ·by_cases hcc:c'=c
   ·subst hcc;exact ⟨_,hc'⟩
   ·obtain ⟨w2,z2⟩:=I.cell y c' e
    exact ⟨w2,z2.sameBut hs hcc⟩
  ·obtain ⟨e,n,ne,nf,d⟩:=I.pin p hp
   refine ⟨(hs.2 p.1 ?_).trans e,n,ne,nf,d⟩;intro q;rw [q,hoc] at e;have q':oc=p.2:=Option.some.inj e;exact d w' (by rw [<- q'];exact hocd)
theorem fu{M:Model}{A:Around}{E:Value->Shared->Prop}{i:Nat}{x:Str}{v:V}{u:Value}{Q:Unit->Shared->Prop}(I:Inv X pins σ H s)(hN:X.N.Nodup)(hi:X.N[i]?=some x)(hx:Loc X.env.scope x)(r:az v u)
 (h:∀ s',Inv X pins (σ.set i (some v)) H s'->Q () s') (hf:X.fn x=true\/X.env.scope.names.lookup x=some .local:=by first | exact .inl rfl | exact .inr rfl | assumption):wpAny M A (storeName X.env x u) Q E s :=
 mI I hN hi hx r (fun s' I' _=>h s' I') hf
theorem Inv.call'{s':Shared}{ch:List Addr}(I:Inv X pins σ H s)(ho:s'.os=s.os)(u:Un (frs X.stack) ch H H' s.heap s'.heap)(hok:HOk X.prog X.w H' s'.heap)(hg:AllBare s'.gens)
 (hch:∀ b∈ch,(b∈X.ex\/X.s₀.heap.objs.size<=b)/\b≠X.env.locals/\(∀ x c,X.env.cells.lookup x=some c->c≠b)/\∀ p∈X.pn++pins,p.1≠b):Inv X pins σ H' s':=by
 obtain ⟨h',g',d',t',o'⟩:=s';have e:o'=s.os:=ho;subst e;exact I.call (g':=g') (t':=t') (d':=d') u hok hg hch
end
abbrev XK:=Value->Option Addr->Hp->Prop
abbrev St:=List (Option V)
abbrev VK:=V->Hp->Prop
abbrev TE:=St->Hp->VK->Prop
abbrev TT:=St->Hp->(Bool->Hp->Prop)->Prop
abbrev TA:=St->Hp->(List V->Hp->Prop)->Prop
structure mE where
 nx:St->Hp->Prop
 rt:VK
 bk:St->Hp->Prop:=fun _ _=>False
 ct:St->Hp->Prop:=fun _ _=>False
abbrev TS:=mE->St->Hp->Prop
def EP(X:Cx)(pins:List (Addr×Obj))(σ:St)(Q:VK)(u:Value)(s':Shared):Prop:=∃ v H',Inv X pins σ H' s'/\az v u/\Q v H'
def TP(X:Cx)(pins:List (Addr×Obj))(σ:St)(Q:Bool->Hp->Prop)(b:Bool)(s':Shared):Prop:=∃ H',Inv X pins σ H' s'/\Q b H'
def AP(X:Cx)(pins:List (Addr×Obj))(σ:St)(Q:List V->Hp->Prop)(us:List Value)(s':Shared):Prop:=∃ vs H',Inv X pins σ H' s'/\aA vs us/\Q vs H'
def SP(X:Cx)(pins:List (Addr×Obj))(D:mE)(f:Flow)(s':Shared):Prop :=
 match f with
 | .next=>∃ σ' H',Inv X pins σ' H' s'/\D.nx σ' H'
 | .brk=>∃ σ' H',Inv X pins σ' H' s'/\D.bk σ' H'
 | .cont=>∃ σ' H',Inv X pins σ' H' s'/\D.ct σ' H'
 | .ret u=>∃ v σ' H',Inv X pins σ' H' s'/\az v u/\D.rt v H'
def PE(X:Cx)(e:Expr)(t:TE):Prop :=
 ∀ (pins:List (Addr×Obj)) (s:Shared) (σ:St) (H:Hp) (Q:VK),Inv X pins σ H s->t σ H Q->wpAny (model X.prog X.w) X.A (eval e X.env) (EP X pins σ Q) X.xe s
def PT(X:Cx)(e:Expr)(t:TT):Prop :=
 ∀ (pins:List (Addr×Obj)) (s:Shared) (σ:St) (H:Hp) (Q:Bool->Hp->Prop),Inv X pins σ H s->t σ H Q->wpAny (model X.prog X.w) X.A (isTrue e X.env (eval e X.env)) (TP X pins σ Q) X.xe s
def PW(X:Cx)(e:Expr)(t:TT):Prop :=
 ∀ (whole:Sem Value) (pins:List (Addr×Obj)) (s:Shared) (σ:St) (H:Hp) (Q:Bool->Hp->Prop),Inv X pins σ H s->t σ H Q->wpAny (model X.prog X.w) X.A (isTrue e X.env whole) (TP X pins σ Q) X.xe s
theorem PW.pt{X:Cx}{e:Expr}{t:TT}(h:PW X e t):PT X e t:=h _
def PA(X:Cx)(es:List Expr)(t:TA):Prop :=
 ∀ (pos:Pos) (pins:List (Addr×Obj)) (s:Shared) (σ:St) (H:Hp) (Q:List V->Hp->Prop),Inv X pins σ H s->t σ H Q->wpAny (model X.prog X.w) X.A (spliced (backTo pos (starEach es X.env))) (AP X pins σ Q) X.xe s
def PS(X:Cx)(st:Stmt)(t:TS):Prop :=
 ∀ (pins:List (Addr×Obj)) (s:Shared) (σ:St) (H:Hp) (D:mE),Inv X pins σ H s->t D σ H->wpAny (model X.prog X.w) X.A (exec st X.env) (SP X pins D) X.xe s
def PSs(X:Cx)(st:List Stmt)(t:TS):Prop :=
 ∀ (pins:List (Addr×Obj)) (s:Shared) (σ:St) (H:Hp) (D:mE),Inv X pins σ H s->t D σ H->wpAny (model X.prog X.w) X.A (execs st X.env) (SP X pins D) X.xe s
theorem thn{α:Type}{t:Sem α}{Q Q':α->Shared->Prop}{M:Model}{A:Around}{E:Value->Shared->Prop}{s:Shared}(h:wpAny M A t Q E s)(hQ:∀ a s,Q a s->Q' a s):wpAny M A t Q' E s:=Ci h hQ fun _ _ x=>x
section
variable{X:Cx}
theorem bin{a b:Expr}{ta tb:TE}(ha:PE X a ta)(hb:PE X b tb){pins:List (Addr×Obj)}{s:Shared}{σ:St}{H:Hp}{R:V->V->Hp->Prop}(I:Inv X pins σ H s)(h:ta σ H fun x H1=>tb σ H1 fun y H2=>R x y H2)
 {α:Type} {Q:α->Shared->Prop} {f:Value->Value->Sem α}
 (hf:∀ v u s2 x y H2,Inv X pins σ H2 s2->az x v->az y u->R x y H2->wpAny (model X.prog X.w) X.A (f v u) Q X.xe s2) :
 wpAny (model X.prog X.w) X.A (eval a X.env) (fun v s₁=>wpAny (model X.prog X.w) X.A (eval b X.env) (fun u s₂=>wpAny (model X.prog X.w) X.A (f v u) Q X.xe s₂) X.xe s₁) X.xe s:=by
 refine thn (ha pins s σ H _ I h) fun v s1 ⟨x,H1,I1,r1,q1⟩=> ?_
 refine thn (hb pins s1 σ H1 _ I1 q1) fun u s2 ⟨y,H2,I2,r2,q2⟩=> ?_
 exact hf v u s2 x y H2 I2 r1 r2 q2
def vB(i:Nat):TE:=fun σ H Q=>∃ v,σ[i]?=some (some v)/\Q v H
def tC(v:V):TE:=fun _ H Q=>Q v H
theorem fI{i:Nat}{x:Str}{pos:Pos}(hN:X.N[i]?=some x)(hv:Vis X.env.scope x)(hd:(x == ("__debug__" : Str))=false:=by decide)(hcd:(x == ("__classdict__" : Str))=false:=by decide):PE X (.Name x pos) (vB i):=by
 intro pins s σ H Q I h;obtain ⟨v,e,h⟩:=h;obtain ⟨m,hn,hl⟩:=I.loc;obtain ⟨u,r,l⟩:=hl i x v hN e hv;have fin:EP X pins σ Q u s:=⟨v,H,I,r,h⟩
 rcases l with ⟨hk,hm⟩ | ⟨hk,c,hc,hcell⟩
 ·exact wpAny_Name (wpAny_loadName_local I.ok.kind hk hn hm fin) hd
 ·rcases hk with hk | hk
  ·exact wpAny_Name (wpAny_loadName_cell I.ok.kind hk hc hcell fin) hd
  ·exact wpAny_Name (wpAny_loadName_free I.ok.kind hk hc hcell fin hcd) hd
theorem kO{i j pos}:PE X (.Constant (.int i) j pos) (tC (.int i)):=fun _ _ _ H _ I h=>wpAny_Constant_int ⟨.int i,H,I.tok _,⟨_,rfl⟩,h⟩
theorem wp{b j pos}:PE X (.Constant (.bool b) j pos) (tC (.bl b)):=fun _ _ _ H _ I h=>Constant_bool ⟨.bl b,H,I,rfl,h⟩
theorem pe_non{j pos}:PE X (.Constant .none j pos) (tC .non):=fun _ _ _ H _ I h=>Constant_none ⟨.non,H,I,rfl,h⟩
theorem de{x j pos}:PE X (.Constant (.str x) j pos) (tC (.str x)):=fun _ _ _ H _ I h=>Calls.Constant_str ⟨.str x,H,I.tok _,⟨_,rfl⟩,h⟩
def Gl(X:Cx)(x:Str):Prop:=X.env.kindOf x=some .globalImplicit
theorem gv{E:Value->Shared->Prop}{pins:List (Addr×Obj)}{s:Shared}{σ:St}{H:Hp}{x:Str}{u:Value}{pos:Pos}{Q:Value->Shared->Prop}(I:Inv X pins σ H s)(hg:Gl X x)(hm:X.mg x=some u)(h:Q u s)
 (hd:(x == ("__debug__" : Str))=false:=by decide):wpAny (model X.prog X.w) X.A (eval (.Name x pos) X.env) Q E s :=
 Calls.Name_function_global I.ok.kind hg (Calls.loadGlobal_global (by rw [I.ok.glob];exact I.mod.glob.keeps I.bk) hm h) hd
theorem hU{E:Value->Shared->Prop}{pins:List (Addr×Obj)}{s:Shared}{σ:St}{H:Hp}{x:Str}{u:Value}{pos:Pos}{Q:Value->Shared->Prop}(I:Inv X pins σ H s)(hg:Gl X x)(hm:X.mg x=none)(hv:bootBuiltins x=some u)(h:Q u s)
 (hn:x ≠ "__name__" := by decide) (hd:(x == ("__debug__" : Str))=false:=by decide):wpAny (model X.prog X.w) X.A (eval (.Name x pos) X.env) Q E s:=by
 obtain ⟨mb,h1,h2⟩:=I.mod.blt;exact Calls.Name_function_global I.ok.kind hg (Calls.loadGlobal_builtin (by rw [I.ok.glob];exact I.mod.glob.keeps I.bk) hm (by rw [I.ok.blt];exact h1.keeps I.bk) ((h2 x hn).trans hv) h) hd
theorem ka{x:Str}{v:V}{u:Value}{pos:Pos}(hg:Gl X x)(hm:X.mg x=some u)(r:az v u)(hd:(x == ("__debug__" : Str))=false:=by decide):PE X (.Name x pos) (tC v) :=
 fun _ _ _ H _ I h=>gv I hg hm ⟨v,H,I,r,h⟩ hd
theorem tf{x:Str}{v:V}{u:Value}{pos:Pos}(hg:Gl X x)(hm:X.mg x=none)(hv:bootBuiltins x=some u)(r:az v u)(hn:x ≠ "__name__" := by decide)(hd:(x == ("__debug__" : Str))=false:=by decide):PE X (.Name x pos) (tC v) :=
 fun _ _ _ H _ I h=>hU I hg hm hv ⟨v,H,I,r,h⟩ hn hd
variable{a b:Expr}{ta tb:TE}{pos:Pos}
def PC(X:Cx)(op:CmpOp)(a b:Expr)(t:TE):Prop :=
 ∀ (pins:List (Addr×Obj)) (s:Shared) (σ:St) (H:Hp) (Q:VK),Inv X pins σ H s->t σ H Q ->
  wpAny (model X.prog X.w) X.A (eval a X.env) (fun v s₁=>wpAny (model X.prog X.w) X.A (eval b X.env) (fun u s₂=>wpAny (model X.prog X.w) X.A (compareOp op v u) (EP X pins σ Q) X.xe s₂) X.xe s₁) X.xe s
theorem wI(b:Expr){op:CmpOp}(h:op ≠ .In)(h2:op ≠ .NotIn):behindInMarks op b=false:=by
 have e1:(op == CmpOp.In)=false:=by cases op<;>first | rfl | exact absurd rfl h
 have e2:(op == CmpOp.NotIn)=false:=by cases op<;>first | rfl | exact absurd rfl h2
 cases b<;>simp [behindInMarks,e1,e2]
def tB(t:TE):TT:=fun σ H Q=>t σ H fun x H1=>∃ c,x = .bl c/\Q c H1
theorem pt_cmp{op:CmpOp}{t:TE}(h:PC X op a b t)(h1:behindInMarks op b=false:=by first | exact wI _ (by decide) (by decide) | rfl):PT X (.Compare a [op] [b] pos) (tB t):=by
 intro pins s σ H Q I hw;refine wpAny_isTrue_Compare1 (thn (h pins s σ H _ I hw) fun v s1 h1=>thn h1 fun u s2 h2=>thn h2 fun c s3 ⟨x,H1,I1,r1,q1⟩=> ?_) h1;obtain ⟨d,rfl,q⟩:=q1;cases r1;exact Co ⟨H1,I1,q⟩
theorem pt_val{e:Expr}{t:TE}(h:PE X e t)(he:∀ whole,isTrue e X.env whole=(do let v <- whole;standAt e.pos;holding [v] (truthy v)):=by intro _;rfl):PT X e (tB t):=by
 intro pins s σ H Q I hw;refine isTrue_plain (thn (h pins s σ H _ I hw) fun v s1 ⟨x,H1,I1,r1,q1⟩=> ?_) (he _);obtain ⟨d,rfl,q⟩:=q1;cases r1;exact Co ⟨H1,I1,q⟩
variable{tA tB':TT}{rest:List Expr}
def tOr(t u:TT):TT:=fun σ H Q=>t σ H fun c H1=>if c=true then Q true H1 else u σ H1 Q
def tNot(t:TT):TT:=fun σ H Q=>t σ H fun c H1=>Q (!c) H1
theorem v5(ha:PT X a tA):PW X (.BoolOp .Or [a] pos) tA:=by
 intro wh pins s σ H Q I h;refine isTrue_or (thn (ha pins s σ H Q I h) fun c s1 e=> ?_)
 cases c with
 | false=>exact isTrue_or_nil e
 | true=>exact e
theorem AL(ha:PT X a tA)(hb:PW X (.BoolOp .Or (b::rest) pos) tB'):PW X (.BoolOp .Or (a::b::rest) pos) (tOr tA tB'):=by
 intro wh pins s σ H Q I h;refine isTrue_or (thn (ha pins s σ H _ I h) fun c s1 ⟨H1,I1,q1⟩=> ?_)
 cases c with
 | true=>exact ⟨H1,I1,q1⟩
 | false=>exact hb wh pins s1 σ H1 Q I1 q1
theorem v7(ha:PT X a tA):PT X (.UnaryOp .Not a pos) (tNot tA):=by
 intro pins s σ H Q I h;exact isTrue_not (ha pins s σ H (fun c H1=>Q (!c) H1) I h)
def tAndV(ta tb:TE):TE:=fun σ H Q=>ta σ H fun x H1=>∃ c,x = .bl c/\if c=true then tb σ H1 Q else Q (.bl false) H1
def tNotV(ta:TE):TE:=fun σ H Q=>ta σ H fun x H1=>∃ c,x = .bl c/\Q (.bl (!c)) H1
theorem pe_one{op}{t:TE}(h:PE X a t):PE X (.BoolOp op [a] pos) t:=fun pins s σ H Q I hw=>BoolOp_one (h pins s σ H Q I hw)
theorem pe_and(ha:PE X a ta)(hb:PE X (.BoolOp .And (b::rest) pos) tb):PE X (.BoolOp .And (a::b::rest) pos) (tAndV ta tb):=by
 intro pins s σ H Q I h;refine BoolOp_and (thn (ha pins s σ H _ I h) fun v s1 ⟨x,H1,I1,r1,q1⟩=> ?_);obtain ⟨c,rfl,q1⟩:=q1;cases r1;refine Co ?_
 cases c with
 | true=>exact hb pins s1 σ H1 Q I1 q1
 | false=>exact ⟨.bl false,H1,I1,rfl,q1⟩
theorem pe_not(ha:PE X a ta):PE X (.UnaryOp .Not a pos) (tNotV ta):=by
 intro pins s σ H Q I h;refine UnaryOp_ (thn (ha pins s σ H _ I h) fun v s1 ⟨x,H1,I1,r1,q1⟩=> ?_);obtain ⟨c,rfl,q1⟩:=q1;cases r1;exact not_of (Co ⟨.bl (!c),H1,I1,rfl,q1⟩)
end
def SqL(K:Dy)(H:Hp)(a:Addr)(xs:List V):Prop :=
 Rd H a (.lst xs) \/
  ∃ (o:Obj) (its:Array Value) (n:Nat),K.lookup a=some o/\o.cls = .type "list" /\ o.dict=none/\o.data = .seq its n/\its.size<=sizeLine/\aA xs its.toList
def SqT(K:Dy)(H:Hp)(a:Addr)(xs:List V):Prop :=
 Rd H a (.tup xs) \/
  ∃ (o:Obj) (its:Array Value) (n:Nat),K.lookup a=some o/\o.cls = .type "tuple" /\ o.data = .seq its n/\its.size<=sizeLine/\aA xs its.toList
def absV:Value->Option V
 | .none=>some .non
 | .bool b=>some (.bl b)
 | .int i _=>some (.int i)
 | .str x _=>some (.str x)
 | .bytes b _=>some (.byt b)
 | .float b _=>some (.flt b)
 | .ref a=>some (.ref a)
 | .type n=>some (.ty n)
 | _=>none
theorem az.abs{x:V}{u:Value}(r:az x u):absV u=some x:=by
 cases x with
 | non=>cases r;rfl
 | bl _=>cases r;rfl
 | int _=>obtain ⟨t,rfl⟩:=r;rfl
 | str _=>obtain ⟨t,rfl⟩:=r;rfl
 | byt _=>obtain ⟨t,rfl⟩:=r;rfl
 | flt _=>obtain ⟨t,rfl⟩:=r;rfl
 | ref _=>cases r;rfl
 | ty _=>cases r;rfl
theorem az.inj{x y:V}{u:Value}(r:az x u)(q:az y u):x=y:=Option.some.inj (r.abs.symm.trans q.abs)
theorem aA.inj:∀ {xs ys:List V} {us:List Value},aA xs us->aA ys us->xs=ys
 | _,_,_,.nil,.nil=>rfl
 | _,_,_,.cons r t,.cons r' t'=>by rw [r.inj r',aA.inj t t']
section
variable{X:Cx}{pins:List (Addr×Obj)}{σ:St}{H:Hp}{s:Shared}{a:Addr}{xs ys:List V}
theorem Inv.list(I:Inv X pins σ H s)(h:SqL X.K H a xs):∃ its:List Value,aA xs its/\PlainL s.heap a its.toArray/\xs.length<=sizeLine:=by
 rcases h with h | ⟨o,its,n,hk,hc,hd,hs,hz,r⟩
 ·obtain ⟨z,its,n,r,e⟩:=h.ok I.hok
  exact ⟨its,r,⟨_,n,e,rfl,rfl,rfl⟩,z⟩
 ·refine ⟨its.toList,r,⟨o,n,I.kIn a o hk,hc,hd,by simpa using hs⟩,?_⟩
  have e:=r.length;simp only [BQ] at e;omega
theorem Inv.tuple(I:Inv X pins σ H s)(h:SqT X.K H a xs):∃ its:List Value,aA xs its/\IsTup s.heap a its.toArray/\xs.length<=sizeLine:=by
 rcases h with h | ⟨o,its,n,hk,hc,hs,hz,r⟩
 ·obtain ⟨z,its,r,p⟩:=h.ok I.hok
  exact ⟨its,r,p.t,z⟩
 ·refine ⟨its.toList,r,⟨o,I.kIn a o hk,hc,n,by simpa using hs⟩,?_⟩
  have e:=r.length;simp only [BQ] at e;omega
theorem Inv.list_inj(I:Inv X pins σ H s)(h:SqL X.K H a xs)(h':SqL X.K H a ys):xs=ys:=by
 obtain ⟨its,r,⟨o,n,e,_,_,d⟩,_⟩:=I.list h;obtain ⟨its',r',⟨o',n',e',_,_,d'⟩,_⟩:=I.list h';rw [e] at e';cases e';rw [d] at d'
 injection d' with d1 _
 have:its=its':=by simpa using congrArg Array.toList d1
 subst this;exact r.inj r'
theorem Inv.tuple_inj(I:Inv X pins σ H s)(h:SqT X.K H a xs)(h':SqT X.K H a ys):xs=ys:=by
 obtain ⟨its,r,⟨o,e,_,n,d⟩,_⟩:=I.tuple h;obtain ⟨its',r',⟨o',e',_,n',d'⟩,_⟩:=I.tuple h';rw [e] at e';cases e';rw [d] at d'
 injection d' with d1 _
 have:its=its':=by simpa using congrArg Array.toList d1
 subst this;exact r.inj r'
end
abbrev Cx.wish(X:Cx)(E:Value->Shared->Prop):Cx:={ X with xe:=E }
abbrev Cx.nox(X:Cx):Cx:=X.wish fun _ _=>False
theorem Cx.Ok.wish{X:Cx}(ok:X.Ok)(E:Value->Shared->Prop):(X.wish E).Ok :=
 ⟨ok.mod,ok.kind,ok.glob,ok.blt,ok.above,ok.inj,ok.has,ok.cab,ok.hd,ok.frames,ok.stk,ok.exf,ok.bs,ok.bsz,ok.noex,ok.exfs,ok.funs,ok.frf⟩
theorem Cx.Ok.unwish{X:Cx}{E:Value->Shared->Prop}(ok:(X.wish E).Ok):X.Ok :=
 ⟨ok.mod,ok.kind,ok.glob,ok.blt,ok.above,ok.inj,ok.has,ok.cab,ok.hd,ok.frames,ok.stk,ok.exf,ok.bs,ok.bsz,ok.noex,ok.exfs,ok.funs,ok.frf⟩
section
variable{X:Cx}{pins:List (Addr×Obj)}{σ:St}{H:Hp}{s:Shared}{E:Value->Shared->Prop}
theorem Inv.wish(I:Inv X pins σ H s)(E:Value->Shared->Prop):Inv (X.wish E) pins σ H s:=⟨I.ok.wish E,I.os,I.bare,I.base,I.loc,I.cell,I.free,I.freeC,I.pin,I.hok,I.len⟩
theorem Inv.unwish(I:Inv (X.wish E) pins σ H s):Inv X pins σ H s:=⟨I.ok.unwish,I.os,I.bare,I.base,I.loc,I.cell,I.free,I.freeC,I.pin,I.hok,I.len⟩
theorem SP.unwish{D:mE}{f:Flow}{s':Shared}(h:SP (X.wish E) pins D f s'):SP X pins D f s':=by
 cases f with
 | next=>obtain ⟨σ',H',I,q⟩:=h;exact ⟨σ',H',I.unwish,q⟩
 | brk=>obtain ⟨σ',H',I,q⟩:=h;exact ⟨σ',H',I.unwish,q⟩
 | cont=>obtain ⟨σ',H',I,q⟩:=h;exact ⟨σ',H',I.unwish,q⟩
 | ret u=>obtain ⟨v,σ',H',I,r,q⟩:=h;exact ⟨v,σ',H',I.unwish,r,q⟩
end
section
variable{X:Cx}{st:Stmt}{rest:List Stmt}{t u:TS}{e:Expr}{te:TE}{pos:Pos}
def tNext:TS:=fun D σ H=>D.nx σ H
def tSeq(t u:TS):TS:=fun D σ H=>t { D with nx:=u D } σ H
theorem sW:PSs X [] tNext:=fun _ _ σ H _ I h=>Dk ⟨σ,H,I,h⟩
theorem eF(h1:PS X st t)(h2:PSs X rest u):PSs X (st::rest) (tSeq t u):=by
 intro pins s σ H D I h;refine wpAny_execs_cons (thn (h1 pins s σ H { D with nx:=u D } I h) fun f s1 q=> ?_)
 cases f with
 | next =>
  obtain ⟨σ',H',I',q⟩:=q;exact h2 pins s1 σ' H' D I' q
 | ret v=>exact q
 | brk=>exact q
 | cont=>exact q
theorem nS(h1:PS X st t):PSs X [st] t:=by
 intro pins s σ H D I h;refine wpAny_execs_cons (thn (h1 pins s σ H D I h) fun f s1 q=> ?_)
 cases f with
 | next=>exact Dk q
 | ret v=>exact q
 | brk=>exact q
 | cont=>exact q
theorem Inv.quiet{pins:List (Addr×Obj)}{σ:St}{H:Hp}{s:Shared}(I:Inv X pins σ H s):interactive X.env=false:=by simp [interactive,I.ok.kind]
def tDrop(te:TE):TS:=fun D σ H=>te σ H fun _ H1=>D.nx σ H1
theorem sX(he:PE X e te)(hs:swapsWith e none pos.line X.env=pure false:=by rfl):PS X (.Expr e pos) (tDrop te):=by
 intro pins s σ H D I h;exact wpAny_Expr_any (thn (he pins s σ H _ I h) fun v s1 ⟨x,H1,I1,r1,q1⟩=>⟨σ,H1,I1,q1⟩) I.quiet hs
def tRet(te:TE):TS:=fun D σ H=>te σ H D.rt
theorem nV(he:PE X e te):PS X (.Return (some e) pos) (tRet te):=by
 intro pins s σ H D I h;exact wpAny_Return_some (thn (he pins s σ H _ I h) fun v s1 ⟨x,H1,I1,r1,q1⟩=>⟨x,σ,H1,I1,r1,q1⟩)
def tIfS(c:TT)(t u:TS):TS:=fun D σ H=>c σ H fun b H1=>if b=true then t D σ H1 else u D σ H1
theorem AM{c:Expr}{a b:List Stmt}{tc:TT}(hc:PT X c tc)(ha:PSs X a t)(hb:PSs X b u):PS X (.If c a b pos) (tIfS tc t u):=by
 intro pins s σ H D I h;refine wpAny_If (thn (hc pins s σ H _ I h) fun d s1 ⟨H1,I1,q1⟩=> ?_)
 cases d with
 | true=>exact ha pins s1 σ H1 D I1 q1
 | false=>exact hb pins s1 σ H1 D I1 q1
end
abbrev TG:=V->St->Hp->(St->Hp->Prop)->Prop
abbrev TGs:=List V->St->Hp->(St->Hp->Prop)->Prop
def PG(X:Cx)(target:Expr)(t:TG):Prop :=
 ∀ (pins:List (Addr×Obj)) (s:Shared) (σ:St) (H:Hp) (v:V) (u:Value) (Q:St->Hp->Prop),Inv X pins σ H s->az v u->t v σ H Q ->
  wpAny (model X.prog X.w) X.A (assign target X.env u) (fun _ s'=>∃ σ' H',Inv X pins σ' H' s'/\Q σ' H') X.xe s
def PGs(X:Cx)(ts:List Expr)(t:TGs):Prop :=
 ∀ (pins:List (Addr×Obj)) (s:Shared) (σ:St) (H:Hp) (vs:List V) (us:List Value) (Q:St->Hp->Prop),Inv X pins σ H s->aA vs us->t vs σ H Q ->
  wpAny (model X.prog X.w) X.A (assignInOrder ((assignEach ts X.env).map (·.2)) us) (fun _ s'=>∃ σ' H',Inv X pins σ' H' s'/\Q σ' H') X.xe s
abbrev TSet:=V->V->V->Hp->(Hp->Prop)->Prop
def PSet(X:Cx)(t:TSet):Prop :=
 ∀ (pins:List (Addr×Obj)) (s:Shared) (σ:St) (H:Hp) (o i v:V) (ov iv u:Value) (Q:Hp->Prop),Inv X pins σ H s->az o ov->az i iv->az v u->t o i v H Q ->
  wpAny (model X.prog X.w) X.A (setItem ov iv u) (fun _ s'=>∃ H',Inv X pins σ H' s'/\Q H') X.xe s
abbrev TIp:=V->V->Hp->VK->Prop
def PIp(X:Cx)(op:Operator)(t:TIp):Prop :=
 ∀ (pins:List (Addr×Obj)) (s:Shared) (σ:St) (H:Hp) (x y:V) (v u:Value) (Q:VK),Inv X pins σ H s->az x v->az y u->t x y H Q ->
  wpAny (model X.prog X.w) X.A (inplaceOp op v u) (EP X pins σ Q) X.xe s
section
variable{X:Cx}{pos:Pos}
def tO(i:Nat):TG:=fun v σ H Q=>Q (σ.set i (some v)) H
theorem yW{i:Nat}{x:Str}(hN:X.N.Nodup)(hi:X.N[i]?=some x)(hx:Loc X.env.scope x)(hf:X.fn x=true\/X.env.scope.names.lookup x=some .local:=by first | exact .inl rfl | exact .inr rfl | assumption):PG X (.Name x pos) (tO i):=by
 intro pins s σ H v u Q I r h;exact wpAny_assign_Name (fu I hN hi hx r (fun s' I'=>⟨_,H,I',h⟩) hf)
def gNil:TGs:=fun vs σ H Q=>vs=[]/\Q σ H
def A0(t:TG)(u:TGs):TGs:=fun vs σ H Q=>∃ v r,vs=v::r/\t v σ H fun σ' H'=>u r σ' H' Q
theorem yV:PGs X [] gNil:=by
 intro pins s σ H vs us Q I r h;obtain ⟨e,h⟩:=h;subst e;cases r;exact assignInOrder_nil ⟨σ,H,I,h⟩
theorem wf{e:Expr}{es:List Expr}{t:TG}{u:TGs}(h1:PG X e t)(h2:PGs X es u)
 (hs:(assignEach (e::es) X.env).map (·.2)=assign e X.env::(assignEach es X.env).map (·.2):=by rfl):PGs X (e::es) (A0 t u):=by
 intro pins s σ H vs us Q I r h;obtain ⟨v,vr,e1,h⟩:=h;subst e1
 cases r with
 | cons r rr =>
  rw [hs];refine assignInOrder_cons (thn (h1 pins s σ H _ _ _ I r h) fun _ s1 ⟨σ1,H1,I1,q1⟩=> ?_);exact h2 pins s1 σ1 H1 _ _ Q I1 rr q1
def gTup(K:Dy)(n:Nat)(t:TGs):TG:=fun v σ H Q=>∃ a xs,v = .ref a/\SqT K H a xs/\xs.length=n/\t xs σ H Q
theorem pg_tup{es:List Expr}{k:Nat}{t:TGs}{n:Nat}(hc:X.calm=true)(h:PGs X es t)
 (hn:(assignEach es X.env).length=n:=by rfl) (hst:(assignEach es X.env).findIdx? (·.1)=none:=by rfl):PG X (.Tuple es k pos) (gTup X.K n t):=by
 intro pins s σ H v u Q I r hw;obtain ⟨a,xs,e1,hq,hl,hw⟩:=hw;subst e1;cases r;obtain ⟨its,rv,ht,hz⟩:=I.tuple hq
 refine assign_Tuple_tuple (I.ok.hd hc) ht (by simp [hn,<- hl,rv.length]) hst fun h' hx=> ?_
 have I1:Inv X pins σ H { s with heap:=h' }:=I.kept (t':=s.toks) fun b o e=>hx b o (BC (Bk e)) e
 exact h pins _ σ H xs _ Q I1 (by simpa using rv) hw
def gSub(to ti:TE)(t:TSet):TG:=fun v σ H Q=>to σ H fun o H1=>ti σ H1 fun i H2=>t o i v H2 fun H3=>Q σ H3
theorem pg_sub{o i:Expr}{to ti:TE}{t:TSet}(ho:PE X o to)(hi:PE X i ti)(hs:PSet X t)
 (ha:∀ v,assign (.Subscript o i pos) X.env v=(do
   let ov <- holding [v] (eval o X.env)
   let iv <- holding [v,ov] (eval i X.env)
   standAt pos
   holding [v,ov,iv] (setItem ov iv v)
   release [v,ov,iv] []):=by intro _;rfl):PG X (.Subscript o i pos) (gSub to ti t):=by
 intro pins s σ H v u Q I r h;rw [ha];refine A9 (Cm (thn (ho pins s σ H _ I h) fun ov s1 ⟨x,H1,I1,r1,q1⟩=> ?_));refine A9 (Cm (thn (hi pins s1 σ H1 _ I1 q1) fun iv s2 ⟨y,H2,I2,r2,q2⟩=> ?_));refine A9 (wpAny_standAt (A9 (Cm (thn (hs pins s2 σ H2 x y v ov iv u _ I2 r1 r2 r q2) fun _ s3 ⟨H3,I3,q3⟩=> ?_))));exact wpAny_release ⟨σ,H3,I3,q3⟩
def tAsg(te:TE)(g:TG):TS:=fun D σ H=>te σ H fun x H1=>g x σ H1 D.nx
theorem v9{tg e:Expr}{te:TE}{g:TG}(he:PE X e te)(hg:PG X tg g)(hs:swapsWithSole [tg] e pos.line X.env=pure false:=by rfl)(hw:swappedStores [tg] e X.env=pure none:=by rfl)
 (h1:(assignEach [tg] X.env).map (·.2)=[assign tg X.env]:=by rfl):PS X (.Assign [tg] e pos) (tAsg te g):=by
 intro pins s σ H D I h;refine wpAny_Assign_stores (thn (he pins s σ H _ I h) fun v s1 ⟨x,H1,I1,r1,q1⟩=> ?_) hs hw;rw [h1]
 exact thn (hg pins s1 σ H1 x v _ I1 r1 q1) fun _ s2 q=>q
theorem nU{i:Nat}{x:Str}{e:Expr}{te:TE}{pos':Pos}(hN:X.N.Nodup)(hi:X.N[i]?=some x)(hx:Loc X.env.scope x)(he:PE X e te)(hs:swapsWith e (some (.Name x pos')) pos.line X.env=pure false:=by rfl)(hf:X.fn x=true\/X.env.scope.names.lookup x=some .local:=by first | exact .inl rfl | exact .inr rfl | assumption) :
 PS X (.Assign [.Name x pos'] e pos) (tAsg te (tO i)):=by
 intro pins s σ H D I h;refine wpAny_Assign_Name (thn (he pins s σ H _ I h) fun v s1 ⟨y,H1,I1,r1,q1⟩=> ?_) hs;exact fu I1 hN hi hx r1 (fun s2 I2=>⟨_,H1,I2,q1⟩) hf
def tAug(i:Nat)(te:TE)(ti:TIp):TS:=fun D σ H=>∃ x,σ[i]?=some (some x)/\te σ H fun y H1=>ti x y H1 fun z H2=>D.nx (σ.set i (some z)) H2
theorem ps_aug{i:Nat}{x:Str}{e:Expr}{te:TE}{op:Operator}{ti:TIp}{pos':Pos}(hN:X.N.Nodup)(hi:X.N[i]?=some x)(hx:Loc X.env.scope x)(he:PE X e te)(ho:PIp X op ti)(hf:X.fn x=true\/X.env.scope.names.lookup x=some .local:=by first | exact .inl rfl | exact .inr rfl | assumption) :
 PS X (.AugAssign (.Name x pos') op e pos) (tAug i te ti):=by
 intro pins s σ H D I h;obtain ⟨v,e1,h⟩:=h;obtain ⟨m,hn,hl⟩:=I.loc
 have vis:Vis X.env.scope x:=by rcases hx with k | k;exact .inl k;exact .inr (.inl k)
 obtain ⟨u,r,l⟩:=hl i x v hi e1 vis;refine wpAny_AugAssign_Name ?_
 have go:wpAny (model X.prog X.w) X.A (eval e X.env) (fun w s₂=>wpAny (model X.prog X.w) X.A (inplaceOp op u w) (fun r s₃=>wpAny (model X.prog X.w) X.A (storeName X.env x r) (fun _=>SP X pins D .next) X.xe s₃) X.xe s₂) X.xe s:=by
  refine thn (he pins s σ H _ I h) fun w s1 ⟨y,H1,I1,r1,q1⟩=> ?_
  refine thn (ho pins s1 σ H1 v y u w _ I1 r r1 q1) fun z s2 ⟨zv,H2,I2,r2,q2⟩=> ?_
  exact fu I2 hN hi hx r2 (fun s3 I3=>⟨_,H2,I3,q2⟩) hf
 rcases l with ⟨hk,hm⟩ | ⟨hk,c,hc,hcell⟩
 ·exact wpAny_loadName_local I.ok.kind hk hn hm go
 ·rcases hk with hk | hk
  ·exact wpAny_loadName_cell I.ok.kind hk hc hcell go
  ·rcases hx with k | k
   ·have:X.env.scope.names.lookup x=some .free:=hk
    rw [k] at this;cases this
   ·have:X.env.scope.names.lookup x=some .free:=hk
    rw [k] at this;cases this
def ipI(f:Int->Int->Int):TIp:=fun x y H Q=>∃ i j,x = .int i/\y = .int j/\Q (.int (f i j)) H
theorem ip_add:PIp X .Add (ipI fun i j=>i+j):=by
 intro pins s σ H x y v u Q I r1 r2 h;obtain ⟨i,j,e1,e2,q⟩:=h;subst e1;subst e2;obtain ⟨t,rfl⟩:=r1;obtain ⟨t',rfl⟩:=r2;exact iadd_int ⟨.int _,H,I.tok _,⟨_,rfl⟩,q⟩
end
section
variable{X:Cx}{pos:Pos}
def tWhile(c:TT)(tb:TS):TS:=fun D σ H=>∃ W:Nat->St->Hp->Prop,(∃ m,W m σ H)/\∀ m σ H,W m σ H ->
 c σ H fun b H1=>if b=true then ∃ N:St->Hp->Prop,(∀ σ' H',N σ' H'->∃ m',m' < m/\W m' σ' H')/\tb { D with nx:=N,ct:=N,bk:=D.nx } σ H1 else D.nx σ H1
theorem v8{c:Expr}{body:List Stmt}{tc:TT}{tb:TS}(hp:PassesOwn (model X.prog X.w) X.A X.env X.xe)(hc:PT X c tc)(hb:PSs X body tb):PS X (.While c body [] pos) (tWhile tc tb):=by
 intro pins s σ H D I h;obtain ⟨W,⟨m0,w0⟩,turn⟩:=h;refine wpAny_While (codeAny_whileLoop (fun n s'=>∃ σ' H',Inv X pins σ' H' s'/\W n σ' H') ?_ m0 ⟨σ,H,I,w0⟩);rintro n s1 ⟨σ1,H1,I1,w1⟩;refine CK hp (thn (hc pins s1 σ1 H1 _ I1 (turn n σ1 H1 w1)) fun b s2 ⟨H2,I2,q2⟩=> ?_)
 cases b with
 | true =>
  obtain ⟨N,hN,q2⟩:=q2;rw [if_pos rfl];refine CK hp (thn (hb pins s2 σ1 H2 _ I2 q2) fun f s3 q3=> ?_)
  cases f with
  | next =>
   obtain ⟨σ3,H3,I3,n3⟩:=q3;obtain ⟨m',hm,w3⟩:=hN σ3 H3 n3;exact ⟨m',hm,σ3,H3,I3,w3⟩
  | cont =>
   obtain ⟨σ3,H3,I3,n3⟩:=q3;obtain ⟨m',hm,w3⟩:=hN σ3 H3 n3;exact ⟨m',hm,σ3,H3,I3,w3⟩
  | brk=>exact q3
  | ret v=>exact q3
 | false =>
  rw [if_neg Bo];exact Dk ⟨σ1,H2,I2,q2⟩
end
structure It where
 go:Nat->Hp->Prop
 yld:Nat->Hp->V->Hp->Prop
 stop:Nat->Hp->Prop
def qE(X:Cx)(pins:List (Addr×Obj))(H:Hp)(b:Addr):Prop :=
 H b=none/\b≠X.env.locals/\b∉X.fs/\(b∈X.ex\/X.s₀.heap.objs.size<=b)/\(∀ x c,X.env.cells.lookup x=some c->c≠b)/\∀ p∈X.pn++pins,p.1≠b
theorem Inv.fpOk{X:Cx}{pins:List (Addr×Obj)}{σ:St}{H H':Hp}{s:Shared}{b:Addr}(I:Inv X pins σ H s)(hb:s.heap.objs.size<=b)(hn:H' b=none):qE X pins H' b:=by
 refine ⟨hn,CU (BD I.lt hb),I.nofs hb,.inr (Nat.le_trans I.sz hb),fun x c e z=> ?_,fun p hp z=> ?_⟩
 ·obtain ⟨v,q⟩:=I.cell x c e
  exact absurd (BD q.lt (by rw [z];exact hb)) (CZ _)
 ·exact absurd (BD (Bk (I.pin p hp).1) (by rw [z];exact hb)) (CZ _)
structure vj(P:Program)(w:World)(K:Dy)(tg:Expr)(J:It)(fp:List Addr)(it:Addr)(tn:Nat->Heap->Prop):Prop where
 mem:it∈fp
 obj:∀ i h,tn i h->∀ b∈fp,∃ o,h.get? b=some o/\∀ v,o.data ≠ .cell v
 keep:∀ i h h',tn i h->(∀ b∈fp,∀ o,h.get? b=some o->h'.get? b=some o)->tn i h'
 item:∀ (X:Cx),X.prog=P->X.w=w->X.K=K->X.calm=true->∀ (i:Nat) (pins:List (Addr×Obj)) (s:Shared) (σ:St) (H:Hp) (E:Value->Shared->Prop),Inv X pins σ H s->(∀ b∈fp,qE X pins H b)->tn i s.heap->J.go i H ->
  wpAny (model P w) X.A (pyNext (.ref it)) (fun r s1=>∃ u,r=some u /\
   wpAny (model P w) X.A (letOwnedTupleGo tg (.ref it) u) (fun _ s2=>∃ x H',Inv X pins σ H' s2/\az x u/\J.yld i H x H'/\tn (i+1) s2.heap/\∀ b∈fp,H' b=none) E s1) E s
 done:∀ (X:Cx),X.prog=P->X.w=w->X.K=K->X.calm=true->∀ (i:Nat) (pins:List (Addr×Obj)) (s:Shared) (σ:St) (H:Hp) (E:Value->Shared->Prop),Inv X pins σ H s->(∀ b∈fp,qE X pins H b)->tn i s.heap->J.stop i H ->
  wpAny (model P w) X.A (pyNext (.ref it)) (fun r s1=>r=none/\Inv X pins σ H s1) E s
 self:∀ (A:Around) (i:Nat) (s:Shared) (Q:Value->Shared->Prop) (E:Value->Shared->Prop),tn i s.heap->Q (.ref it) s->wpAny (model P w) A (pyIter (.ref it)) Q E s
abbrev TI:=St->Hp->(It->Hp->Prop)->Prop
def PIE(X:Cx)(pins:List (Addr×Obj))(σ:St)(tg:Expr)(R:It->Hp->Prop)(itv:Value)(s2:Shared):Prop :=
 ∃ (it:Addr) (fp:List Addr) (tn:Nat->Heap->Prop) (J:It) (H':Hp),itv = .ref it/\Inv X pins σ H' s2/\vj X.prog X.w X.K tg J fp it tn/\tn 0 s2.heap/\(∀ b∈fp,qE X pins H' b)/\R J H'
def PI(X:Cx)(tg iter:Expr)(wi:TI):Prop :=
 ∀ (pins:List (Addr×Obj)) (s:Shared) (σ:St) (H:Hp) (R:It->Hp->Prop),Inv X pins σ H s->wi σ H R ->
  wpAny (model X.prog X.w) X.A (eval iter X.env) (fun v s1=>wpAny (model X.prog X.w) X.A (pyIter v) (PIE X pins σ tg R) X.xe s1) X.xe s
theorem xh{M:Model}{A:Around}{E:Value->Shared->Prop}{s:Shared}{tg:Expr}{it:Addr}{u:Value}{o:Obj}{n:String}{vs:Array Value}{Q:Unit->Shared->Prop}(ho:s.heap.get? it=some o)(hc:o.cls = .type n)(hd:o.data = .fields vs)
 (hn:["enumerate", "zip", "dict_itemiterator", "dict_reverseitemiterator", "odict_iterator", "itertools.zip_longest", "itertools.pairwise"].contains n=false) (hQ:Q () s):wpAny M A (letOwnedTupleGo tg (.ref it) u) Q E s:=by
 unfold letOwnedTupleGo
 cases tg<;>first
  | exact Bg hQ
  | (cases u<;>first
      | exact Bg hQ
      | (refine A9 (wpAny_load ho ?_)
         rw [hc,hd]
         show wpAny M A (if (["enumerate", "zip", "dict_itemiterator", "dict_reverseitemiterator", "odict_iterator", "itertools.zip_longest", "itertools.pairwise"].contains n&&vs[0]? == some (rawInt _))=true then _ else _) Q E s
         rw [if_neg (by intro h;rw [hn,B4] at h;cases h)]
         exact Bg hQ))
def Itl(K:Dy)(a:Addr):It :=
 ⟨fun i H=>∃ xs x,SqL K H a xs/\xs[i]?=some x,fun i H x H'=>H'=H/\∀ xs,SqL K H a xs->xs[i]?=some x,fun i H=>∃ xs,SqL K H a xs/\xs.length<=i⟩
def Itt(K:Dy)(a:Addr):It :=
 ⟨fun i H=>∃ xs x,SqT K H a xs/\xs[i]?=some x,fun i H x H'=>H'=H/\∀ xs,SqT K H a xs->xs[i]?=some x,fun i H=>∃ xs,SqT K H a xs/\xs.length<=i⟩
def Itr(lo:Int)(n:Nat):It:=⟨fun i _=>i < n,fun i H x H'=>H'=H/\x = .int (lo+i),fun i _=>n<=i⟩
theorem t7{P:Program}{w:World}{K:Dy}{tg:Expr}(a it:Addr):vj P w K tg (Itl K a) [it] it (fun i h=>h.IsListIter it a i) where
 mem:=by simp
 obj:=fun i h st b hb=>by
  have e:b=it:=by simpa using hb
  subst e;obtain ⟨o,e,c,d⟩:=st;exact ⟨o,e,fun v z=>by rw [d] at z;cases z⟩
 keep:=fun i h h' st k=>st.at fun o e=>k it (by simp) o e
 item:=by
  intro X hP hw hK hc i pins s σ H E I hf st hg;subst hP hw hK;obtain ⟨xs,x,hq,hx⟩:=hg;obtain ⟨its,rv,p,hz⟩:=I.list hq;obtain ⟨u,hu,ru⟩:=rv.get hx;obtain ⟨f0,f1,f2,f3,f4,f5⟩:=hf it (by simp)
  refine wpAny_pyNext_list_item st p.isList (x:=u) (by simpa using hu) fun h' st' sb=> ?_
  have I1:Inv X pins σ H { s with heap:=h' }:=I.turned (t':=s.toks) (fun b o hb e=>(sb.2 b hb).trans e) f0 f1 f3 f4 f5;obtain ⟨o,e,c,d⟩:=id st';exact ⟨u,rfl,xh (s:={ s with heap:=h' }) e c d (by decide) ⟨x,H,I1,ru,⟨rfl,fun ys hy=>by rw [I.list_inj hy hq];exact hx⟩,st',fun b hb=>(hf b hb).1⟩⟩
 done:=by
  intro X hP hw hK hc i pins s σ H E I hf st hg;subst hP hw hK;obtain ⟨xs,hq,hx⟩:=hg;obtain ⟨its,rv,p,hz⟩:=I.list hq;obtain ⟨f0,f1,f2,f3,f4,f5⟩:=hf it (by simp);have hl:=rv.length
  exact wpAny_pyNext_list_end (I.ok.hd hc) st p.isList (by simp;omega) fun h' eb=>⟨rfl,I.turned (t':=s.toks) (fun b o hb e=>eb b o hb e) f0 f1 f3 f4 f5⟩
 self:=fun _ _ _ _ _ st h=>wpAny_pyIter_listiter st h
theorem qH{P:Program}{w:World}{K:Dy}{tg:Expr}(a it:Addr):vj P w K tg (Itt K a) [it] it (fun i h=>h.IsTupleIter it a i) where
 mem:=by simp
 obj:=fun i h st b hb=>by
  have e:b=it:=by simpa using hb
  subst e;obtain ⟨o,e,c,d⟩:=st;exact ⟨o,e,fun v z=>by rw [d] at z;cases z⟩
 keep:=fun i h h' st k=>st.at fun o e=>k it (by simp) o e
 item:=by
  intro X hP hw hK hc i pins s σ H E I hf st hg;subst hP hw hK;obtain ⟨xs,x,hq,hx⟩:=hg;obtain ⟨its,rv,p,hz⟩:=I.tuple hq;obtain ⟨u,hu,ru⟩:=rv.get hx;obtain ⟨f0,f1,f2,f3,f4,f5⟩:=hf it (by simp)
  refine wpAny_pyNext_tuple_item st (show s.heap.IsTuple a its.toArray from p) (x:=u) (by simpa using hu) fun h' st' sb=> ?_
  have I1:Inv X pins σ H { s with heap:=h' }:=I.turned (t':=s.toks) (fun b o hb e=>(sb.2 b hb).trans e) f0 f1 f3 f4 f5;obtain ⟨o,e,c,d⟩:=id st';exact ⟨u,rfl,xh (s:={ s with heap:=h' }) e c d (by decide) ⟨x,H,I1,ru,⟨rfl,fun ys hy=>by rw [I.tuple_inj hy hq];exact hx⟩,st',fun b hb=>(hf b hb).1⟩⟩
 done:=by
  intro X hP hw hK hc i pins s σ H E I hf st hg;subst hP hw hK;obtain ⟨xs,hq,hx⟩:=hg;obtain ⟨its,rv,p,hz⟩:=I.tuple hq;obtain ⟨f0,f1,f2,f3,f4,f5⟩:=hf it (by simp);have hl:=rv.length
  exact wpAny_pyNext_tuple_end (I.ok.hd hc) st (show s.heap.IsTuple a its.toArray from p) (by simp;omega) fun h' eb=>⟨rfl,I.turned (t':=s.toks) (fun b o hb e=>eb b o hb e) f0 f1 f3 f4 f5⟩
 self:=fun _ _ _ _ _ st h=>wpAny_pyIter_tupleiter st h
theorem qI{P:Program}{w:World}{K:Dy}{tg:Expr}(it:Addr)(lo:Int)(n:Nat):vj P w K tg (Itr lo n) [it] it (fun i h=>IsRangeIter h it (lo+(i:Nat) * 1) ((n:Int) - (i:Nat)) 1) where
 mem:=by simp
 obj:=fun i h st b hb=>by
  have e:b=it:=by simpa using hb
  subst e
  exact ⟨_,st,fun v z=>by
   have z':Data.fields _=Data.cell v:=z
   cases z'⟩
 keep:=fun i h h' st k=>k it (by simp) _ st
 item:=by
  intro X hP hw hK hc i pins s σ H E I hf st hg;subst hP hw hK;obtain ⟨f0,f1,f2,f3,f4,f5⟩:=hf it (by simp);have W:=Walks.range (prog:=X.prog) (w:=X.w) (I.ok.hd hc) it lo 1 n
  refine W.item i s _ _ hg st fun v h' tk hv st' kk=> ?_
  obtain ⟨t,rfl⟩:=hv;have I1:Inv X pins σ H { s with heap:=h',toks:=tk }:=I.turned (fun b o hb e=>kk b o (by simpa using hb) e) f0 f1 f3 f4 f5;refine ⟨_,rfl,xh (s:={ s with heap:=h',toks:=tk }) (n := "range_iterator") st' rfl rfl (by decide) ⟨.int (lo+i),H,I1,⟨t,?_⟩,⟨rfl,rfl⟩,st',fun b hb=>(hf b hb).1⟩⟩;rw [Int.mul_one]
 done:=by
  intro X hP hw hK hc i pins s σ H E I hf st hg;subst hP hw hK;obtain ⟨f0,f1,f2,f3,f4,f5⟩:=hf it (by simp)
  exact wpAny_pyNext_range_end (I.ok.hd hc) st (by have:n<=i:=hg;omega) fun h' eb=>⟨rfl,I.turned (t':=s.toks) (fun b o hb e=>eb b o hb e) f0 f1 f3 f4 f5⟩
 self:=fun _ _ _ _ _ st h=>wpAny_pyIter_rangeiter st h
section
variable{X:Cx}{tg:Expr}
theorem pH{pins:List (Addr×Obj)}{σ:St}{H:Hp}{s:Shared}{R:It->Hp->Prop}{E:Value->Shared->Prop}{lo hi:Int}{t u v:Tok}{tk:Nat}(I:Inv X pins σ H s)(h1 : -(2 ^ 62)<=lo)(h2:lo < 2 ^ 62)(h3 : -(2 ^ 62)<=hi)(h4:hi < 2 ^ 62)
 (q:R (Itr lo (hi - lo).toNat) H):wpAny (model X.prog X.w) X.A (pyIter (.ref s.heap.objs.size)) (PIE X pins σ tg R) E { s with heap:=s.heap.push { cls:= .type "range",data:= .fields #[.int lo t,.int hi u,.int 1 v] },toks:=tk }:=by
 refine wpAny_pyIter_range (IsRange.new ..) (small_one h1 h2 h3 h4) ?_
 have I1:Inv X pins σ H { s with heap:=s.heap.push { cls:= .type "range",data:= .fields #[.int lo t,.int hi u,.int 1 v] },toks:=tk }:=I.kept fun b o e=>Ba _ e
 refine ⟨(s.heap.push { cls:= .type "range",data:= .fields #[.int lo t,.int hi u,.int 1 v] }).objs.size,[(s.heap.push { cls:= .type "range",data:= .fields #[.int lo t,.int hi u,.int 1 v] }).objs.size],_,_,H,rfl,
  I1.kept (t':=tk) fun b o e=>Ba _ e,qI _ lo (hi - lo).toNat,?_,fun b hb=> ?_,q⟩
 ·have e1:lo+((0:Nat):Int) * 1=lo:=by simp
  have e2:(((hi - lo).toNat:Nat):Int) - ((0:Nat):Int)=Builtin.Range.rangeSize lo hi 1:=by rw [rangeSize_one];split<;>omega
  show IsRangeIter _ _ (lo+((0:Nat):Int) * 1) ((((hi - lo).toNat:Nat):Int) - ((0:Nat):Int)) 1
  rw [e1,e2];exact Bm _ rfl
 ·have e:b=(s.heap.push { cls:= .type "range",data:= .fields #[.int lo t,.int hi u,.int 1 v] }).objs.size:=by simpa using hb
  subst e;exact I1.fpOk (Bq _) (I1.hok.fresh (Bq _))
def iRng1(ta:TA):TI:=fun σ H R=>ta σ H fun vs H1=>∃ j:Int,vs=[.int j] /\ -(2 ^ 62)<=j/\j < 2 ^ 62/\R (Itr 0 j.toNat) H1
def iRng2(ta:TA):TI:=fun σ H R=>ta σ H fun vs H1=>∃ i j:Int,vs=[.int i,.int j]/\(-(2 ^ 62)<=i/\i < 2 ^ 62 /\ -(2 ^ 62)<=j/\j < 2 ^ 62)/\R (Itr i (j - i).toNat) H1
theorem ul{a:Expr}{ta:TA}{p pos:Pos}(hg:Gl X "range")(hm:X.mg "range" = none)(ha:PA X [a] ta)(hs:starEach [a] X.env=[(false,eval a X.env)]:=by rfl):PI X tg (.Call (.Name "range" p) [a] [] pos) (iRng1 ta):=by
 intro pins s σ H R I h;refine Call_ (hU I hg hm boot_range (PyProof.Rows.callWith_type1 (thn (ha pos pins s σ H _ I h) fun us s1 ⟨vs,H1,I1,r1,q1⟩=> ?_) hs rfl));obtain ⟨j,e,q1,q2,q⟩:=q1;subst e
 cases r1 with
 | cons r rr =>
  cases rr;obtain ⟨t,rfl⟩:=r;exact call_range_1 (pH I1 (by omega) (by omega) q1 q2 (by simpa using q))
theorem uk{a b:Expr}{ta:TA}{p pos:Pos}(hg:Gl X "range")(hm:X.mg "range" = none)(ha:PA X [a,b] ta)(hs:starEach [a,b] X.env=[(false,eval a X.env),(false,eval b X.env)]:=by rfl)(hs2:starEach [b] X.env=[(false,eval b X.env)]:=by rfl) :
 PI X tg (.Call (.Name "range" p) [a,b] [] pos) (iRng2 ta):=by
 intro pins s σ H R I h;refine Call_ (hU I hg hm boot_range (PyProof.Rows.callWith_type1 (thn (ha pos pins s σ H _ I h) fun us s1 ⟨vs,H1,I1,r1,q1⟩=> ?_) (by rw [hs,hs2]) (by rw [hs2];rfl)));obtain ⟨i,j,e,⟨q1,q2,q3,q4⟩,q⟩:=q1;subst e
 cases r1 with
 | cons r rr =>
  cases rr with
  | cons r' rr =>
   cases rr;obtain ⟨t,rfl⟩:=r;obtain ⟨t',rfl⟩:=r';exact call_range_2 (pH I1 q1 q2 q3 q4 q)
def tFor(wi:TI)(g:TG)(tb:TS):TS:=fun D σ H=>wi σ H fun J H1=>∃ W:Nat->Nat->St->Hp->Prop,(∃ m,W 0 m σ H1)/\∀ i m σ H,W i m σ H ->
 (J.stop i H/\D.nx σ H)\/(J.go i H/\∃ N:St->Hp->Prop,(∀ σ' H',N σ' H'->∃ m',m' < m/\W (i+1) m' σ' H')/\∀ x H',J.yld i H x H'->g x σ H' fun σ2 H2=>tb { D with nx:=N,ct:=N,bk:=D.nx } σ2 H2)
def kM(fp:List Addr)(h:Heap):List (Addr×Obj):=fp.filterMap fun b=>(h.get? b).map fun o=>(b,o)
theorem eR{fp:List Addr}{h:Heap}{b:Addr}{o:Obj}(hb:b∈fp)(e:h.get? b=some o):(b,o)∈kM fp h:=Dv.mpr ⟨b,hb,by rw [e];rfl⟩
theorem ut{fp:List Addr}{h:Heap}{p:Addr×Obj}(hp:p∈kM fp h):p.1∈fp/\h.get? p.1=some p.2:=by
 obtain ⟨b,hb,e⟩:=Dv.mp hp
 cases q:h.get? b with
 | none=>rw [q] at e;cases e
 | some o =>
  rw [q] at e;have e':(b,o)=p:=Option.some.inj e;subst e';exact ⟨hb,q⟩
theorem Inv.pinned{pins:List (Addr×Obj)}{σ:St}{H:Hp}{s:Shared}{fp:List Addr}(I:Inv X pins σ H s)(hf:∀ b∈fp,qE X pins H b)(ho:∀ b∈fp,∃ o,s.heap.get? b=some o/\∀ v,o.data ≠ .cell v):Inv X (pins++kM fp s.heap) σ H s :=
 I.pins_of fun p hp=>(BA.mp hp).elim (fun z=>I.pin p (Bf _ z)) fun z=>by
  obtain ⟨hb,e⟩:=ut z;obtain ⟨f0,f1,f2,_⟩:=hf p.1 hb;obtain ⟨o,e',d⟩:=ho p.1 hb;rw [e] at e';cases e';exact ⟨e,f0,f1,f2,d⟩
theorem Inv.unpinned{pins pl:List (Addr×Obj)}{σ:St}{H:Hp}{s:Shared}(I:Inv X (pins++pl) σ H s):Inv X pins σ H s:=I.pins_of fun p hp=>I.pin p (Bf _ (Bc _ hp))
theorem ps_for{iter:Expr}{body:List Stmt}{wi:TI}{g:TG}{tb:TS}{pos:Pos}(hp:PassesOwn (model X.prog X.w) X.A X.env X.xe)(hc:X.calm=true)(hi:PI X tg iter wi)(hg:PG X tg g)(hb:PSs X body tb)
 (hs:∀ x,foldedSetIterable iter X.env x=pure x:=by intro _;rfl):PS X (.For tg iter body [] pos) (tFor wi g tb):=by
 intro pins s σ H D I h;refine wpAny_For (thn (hi pins s σ H _ I h) fun v s1 h1=>thn h1 fun itv s2 h2=> ?_) hs;obtain ⟨it,fp,tn,J,H2,e,I2,T,st2,f2,W,⟨m0,w0⟩,turn⟩:=h2;subst e
 have stat:∀ {H':Hp},(∀ b∈fp,H' b=none)->∀ b∈fp,qE X pins H' b:=fun hn b hb=>⟨hn b hb,(f2 b hb).2⟩
 refine codeAny_forLoop_any (fun n s'=>∃ i σ' H',Inv X pins σ' H' s'/\tn i s'.heap/\(∀ b∈fp,H' b=none)/\W i n σ' H') ?_ m0 ⟨0,σ,H2,I2,st2,fun b hb=>(f2 b hb).1,w0⟩;rintro n s3 ⟨i,σ3,H3,I3,st3,fr3,w3⟩
 rcases turn i n σ3 H3 w3 with ⟨stop,qn⟩ | ⟨go,N,hN,step⟩
 ·refine CK hp (thn (T.done X rfl rfl rfl hc i pins s3 σ3 H3 X.xe I3 (stat fr3) st3 stop) fun r s4 ⟨hr,I4⟩=> ?_)
  subst hr;exact Dk ⟨σ3,H3,I4,qn⟩
 ·refine CK hp (thn (T.item X rfl rfl rfl hc i pins s3 σ3 H3 X.xe I3 (stat fr3) st3 go) fun r s4 ⟨u,hr,h4⟩=> ?_)
  subst hr;refine CK hp (thn h4 fun _ s5 ⟨x,H5,I5,r5,y5,st5,fr5⟩=> ?_);have I5':=I5.pinned (stat fr5) (T.obj _ _ st5);refine CK hp (thn (hg _ s5 σ3 H5 x u _ I5' r5 (step x H5 y5)) fun _ s6 ⟨σ6,H6,I6,q6⟩=> ?_);refine CK hp (thn (hb _ s6 σ6 H6 _ I6 q6) fun f s7 q7=> ?_)
  have again:∀ {σ7:St} {H7:Hp},Inv X (pins++kM fp s5.heap) σ7 H7 s7->N σ7 H7->∃ m,m < n/\∃ i σ' H',Inv X pins σ' H' s7/\tn i s7.heap/\(∀ b∈fp,H' b=none)/\W i m σ' H':=fun {σ7 H7} I7 n7=>by
   obtain ⟨m',hm,w7⟩:=hN σ7 H7 n7;refine ⟨m',hm,i+1,σ7,H7,I7.unpinned,T.keep _ _ _ st5 fun b hb o e=>(I7.pin (b,o) (Bf _ (Bf _ (eR hb e)))).1,fun b hb=> ?_,w7⟩;obtain ⟨o,e,d⟩:=T.obj _ _ st5 b hb;exact (I7.pin (b,o) (Bf _ (Bf _ (eR hb e)))).2.1
  cases f with
  | next=>obtain ⟨σ7,H7,I7,n7⟩:=q7;exact again I7 n7
  | cont=>obtain ⟨σ7,H7,I7,n7⟩:=q7;exact again I7 n7
  | brk=>obtain ⟨σ7,H7,I7,q7⟩:=q7;exact ⟨σ7,H7,I7.unpinned,q7⟩
  | ret v=>obtain ⟨x7,σ7,H7,I7,r7,q7⟩:=q7;exact ⟨x7,σ7,H7,I7.unpinned,r7,q7⟩
end
abbrev R2:=V->V->Hp->VK->Prop
def OpR(X:Cx)(f:Value->Value->Sem Value)(r:R2):Prop :=
 ∀ (pins:List (Addr×Obj)) (s:Shared) (σ:St) (H:Hp) (x y:V) (v u:Value) (Q:VK),Inv X pins σ H s->az x v->az y u->r x y H Q ->
  wpAny (model X.prog X.w) X.A (f v u) (EP X pins σ Q) X.xe s
def UnR(X:Cx)(f:Value->Sem Value)(r:V->Hp->VK->Prop):Prop :=
 ∀ (pins:List (Addr×Obj)) (s:Shared) (σ:St) (H:Hp) (x:V) (v:Value) (Q:VK),Inv X pins σ H s->az x v->r x H Q ->
  wpAny (model X.prog X.w) X.A (f v) (EP X pins σ Q) X.xe s
def aJ(X:Cx)(f:Value)(r:List V->Hp->VK->Prop):Prop :=
 ∀ (pins:List (Addr×Obj)) (s:Shared) (σ:St) (H:Hp) (xs:List V) (us:List Value) (Q:VK),Inv X pins σ H s->aA xs us->r xs H Q ->
  wpAny (model X.prog X.w) X.A (call f us) (EP X pins σ Q) X.xe s
def TruR(X:Cx)(r:V->Hp->(Bool->Hp->Prop)->Prop):Prop :=
 ∀ (pins:List (Addr×Obj)) (s:Shared) (σ:St) (H:Hp) (x:V) (v:Value) (Q:Bool->Hp->Prop),Inv X pins σ H s->az x v->r x H Q ->
  wpAny (model X.prog X.w) X.A (truthy v) (TP X pins σ Q) X.xe s
def tOp(r:R2)(ta tb:TE):TE:=fun σ H Q=>ta σ H fun x H1=>tb σ H1 fun y H2=>r x y H2 Q
def tUn(r:V->Hp->VK->Prop)(ta:TE):TE:=fun σ H Q=>ta σ H fun x H1=>r x H1 Q
def rI(C:Int->Int->Prop)(g:Int->Int->V):R2:=fun x y H Q=>∃ i j,x = .int i/\y = .int j/\C i j/\Q (g i j) H
def rI0(g:Int->Int->V):R2:=fun x y H Q=>∃ i j,x = .int i/\y = .int j/\Q (g i j) H
def rU(g:Int->V):V->Hp->VK->Prop:=fun x H Q=>∃ i,x = .int i/\Q (g i) H
section
variable{X:Cx}{a b c:Expr}{ta tb tc:TE}{pos:Pos}
theorem binT(ha:PE X a ta)(hb:PE X b tb){pins:List (Addr×Obj)}{s:Shared}{σ:St}{H:Hp}{R:V->V->Hp->Prop}(I:Inv X pins σ H s)
 (h:ta σ H fun x H1=>tb σ H1 fun y H2=>R x y H2) {Q:Value->Shared->Prop} {f:Value->Value->Sem Value}
 (hf:∀ v u s2 x y H2,Inv X pins σ H2 s2->az x v->az y u->R x y H2->wpAny (model X.prog X.w) X.A (f v u) Q X.xe s2) :
 wpAny (model X.prog X.w) X.A (eval a X.env) (fun v s₁=>wpAny (model X.prog X.w) X.A (eval b X.env) (fun u s₂=>wpAny (model X.prog X.w) X.A (f v u) Q X.xe s₂) X.xe s₁) X.xe s:=by
 refine thn (ha pins s σ H _ I h) fun v s1 ⟨x,H1,I1,r1,q1⟩=> ?_
 refine thn (hb pins s1 σ H1 _ I1 q1) fun u s2 ⟨y,H2,I2,r2,q2⟩=> ?_
 exact hf v u s2 x y H2 I2 r1 r2 q2
theorem AO{op:Operator}{r:R2}(ho:OpR X (binaryOp op) r)(ha:PE X a ta)(hb:PE X b tb):PE X (.BinOp a op b pos) (tOp r ta tb):=by
 intro pins s σ H Q I h;exact wpAny_BinOp (binT ha hb I h fun v u s2 x y H2 I2 rx ry q=>ho pins s2 σ H2 x y v u Q I2 rx ry q)
theorem pe_un{op:UnaryOp}{r:V->Hp->VK->Prop}(ho:UnR X (unaryOp op) r)(ha:PE X a ta):PE X (.UnaryOp op a pos) (tUn r ta):=by
 intro pins s σ H Q I h;exact UnaryOp_ (thn (ha pins s σ H _ I h) fun v s1 ⟨x,H1,I1,r1,q1⟩=>ho pins s1 σ H1 x v Q I1 r1 q1)
theorem opI{f:Value->Value->Sem Value}{C:Int->Int->Prop}{g:Int->Int->Int}
 (rule:∀ (i j:Int) (t u:Tok) (s:Shared) (Q:Value->Shared->Prop) (E:Value->Shared->Prop),C i j->Q (.int (g i j) s.toks) { s with toks:=s.toks+1 }->wpAny (model X.prog X.w) X.A (f (.int i t) (.int j u)) Q E s) :
 OpR X f (rI C fun i j=> .int (g i j)):=by
 intro pins s σ H x y v u Q I rx ry h;obtain ⟨i,j,rfl,rfl,hc,q⟩:=h;obtain ⟨t,rfl⟩:=rx;obtain ⟨t',rfl⟩:=ry;exact rule i j t t' s _ _ hc ⟨.int (g i j),H,I.tok _,⟨_,rfl⟩,q⟩
theorem opI0{f:Value->Value->Sem Value}{g:Int->Int->Int}
 (rule:∀ (i j:Int) (t u:Tok) (s:Shared) (Q:Value->Shared->Prop) (E:Value->Shared->Prop),Q (.int (g i j) s.toks) { s with toks:=s.toks+1 }->wpAny (model X.prog X.w) X.A (f (.int i t) (.int j u)) Q E s) :
 OpR X f (rI0 fun i j=> .int (g i j)):=by
 intro pins s σ H x y v u Q I rx ry h;obtain ⟨i,j,rfl,rfl,q⟩:=h;obtain ⟨t,rfl⟩:=rx;obtain ⟨t',rfl⟩:=ry;exact rule i j t t' s _ _ ⟨.int (g i j),H,I.tok _,⟨_,rfl⟩,q⟩
theorem zp{f:Value->Value->Sem Value}{g:Int->Int->Bool}
 (rule:∀ (i j:Int) (t u:Tok) (s:Shared) (Q:Value->Shared->Prop) (E:Value->Shared->Prop),Q (.bool (g i j)) s->wpAny (model X.prog X.w) X.A (f (.int i t) (.int j u)) Q E s) :
 OpR X f (rI0 fun i j=> .bl (g i j)):=by
 intro pins s σ H x y v u Q I rx ry h;obtain ⟨i,j,rfl,rfl,q⟩:=h;obtain ⟨t,rfl⟩:=rx;obtain ⟨t',rfl⟩:=ry;exact rule i j t t' s _ _ ⟨.bl (g i j),H,I,rfl,q⟩
def CDiv(i j:Int):Prop:=0 < j/\j < 1073741824
def CPow(i j:Int):Prop:=0<=j/\j<=1000000/\i.natAbs < 2 ^ 64
def su(i j:Int):Prop:=(-(2 ^ 64) < i/\i < 2 ^ 64)\/(-(2 ^ 64) < j/\j < 2 ^ 64)
theorem su.ok{i j:Int}(h:su i j):IntMulOk i j:=by
 rcases h with ⟨h1,h2⟩ | ⟨h1,h2⟩
 ·exact .of_left (intBits_le_64 h1 h2)
 ·exact .of_right (intBits_le_64 h1 h2)
theorem op_add:OpR X (binaryOp .Add) (rI0 fun i j=> .int (i+j)):=opI0 fun _ _ _ _ _ _ _ q=>add_int q
theorem op_sub:OpR X (binaryOp .Sub) (rI0 fun i j=> .int (i - j)):=opI0 fun _ _ _ _ _ _ _ q=>sub_int q
theorem op_mul:OpR X (binaryOp .Mult) (rI su fun i j=> .int (i * j)):=opI fun _ _ _ _ _ _ _ hc q=>mul_int q hc.ok
theorem zl:OpR X (binaryOp .FloorDiv) (rI CDiv fun i j=> .int (i / j)):=opI fun i j _ _ _ _ _ hc q=>by
 have h1:(0:Int) < j:=hc.1;have h2:j < 1073741824:=hc.2;exact floordiv_int (by omega) (by rw [Int.fdiv_eq_ediv_of_nonneg i (by omega)];exact q) (.inl (PyProof.noPylong_small (by omega)))
theorem op_mod:OpR X (binaryOp .Mod) (rI (fun _ j=>0 < j) fun i j=> .int (i % j)):=opI fun i j _ _ _ _ _ hc q=>by
 have h1:(0:Int) < j:=hc;exact mod_int' (by omega) (by rw [Int.fmod_eq_emod_of_nonneg i (by omega)];exact q)
theorem op_pow:OpR X (binaryOp .Pow) (rI CPow fun i j=> .int (i ^ j.toNat)):=opI fun _ _ _ _ _ _ _ hc q=>pow_int_small hc.1 hc.2.1 hc.2.2 q
theorem unI{f:Value->Sem Value}{g:Int->Int}
 (rule:∀ (i:Int) (t:Tok) (s:Shared) (Q:Value->Shared->Prop) (E:Value->Shared->Prop),Q (.int (g i) s.toks) { s with toks:=s.toks+1 }->wpAny (model X.prog X.w) X.A (f (.int i t)) Q E s) :
 UnR X f (rU fun i=> .int (g i)):=by
 intro pins s σ H x v Q I rx h;obtain ⟨i,rfl,q⟩:=h;obtain ⟨t,rfl⟩:=rx;exact rule i t s _ _ ⟨.int (g i),H,I.tok _,⟨_,rfl⟩,q⟩
theorem un_neg:UnR X (unaryOp .USub) (rU fun i=> .int (-i)):=unI fun _ _ _ _ _ q=>neg_int q
end
def scal:V->V->Bool
 | .non,.non=>true | .non,.int _=>true | .int _,.non=>true | .non,.bl _=>true | .bl _,.non=>true | .non,.str _=>true | .str _,.non=>true
 | .int _,.int _=>true | .bl _,.bl _=>true | .str _,.str _=>true | .byt _,.byt _=>true
 | .int _,.str _=>true | .str _,.int _=>true | .bl _,.str _=>true | .str _,.bl _=>true
 | _,_=>false
def rNe:R2:=fun x y H Q=>scal x y=true/\Q (.bl (!decide (x=y))) H
theorem Ab{i j:Int}:decide (V.int i=V.int j)=(i == j):=by
 rw [Cz];simp
theorem dec_bl{i j:Bool}:decide (V.bl i=V.bl j)=(i == j):=by
 rw [Cz];simp
theorem Aa{i j:Str}:decide (V.str i=V.str j)=(i == j):=by
 rw [Cz];simp
theorem Ac{i j:Array UInt8}:decide (V.byt i=V.byt j)=(i.toList == j.toList):=by
 rw [Cz];cases i;cases j;simp
section
variable{X:Cx}{a b c:Expr}{ta tb tc:TE}{pos:Pos}
theorem cb{pins:List (Addr×Obj)}{σ:St}{H:Hp}{s:Shared}{Q:VK}{k k':Bool}(I:Inv X pins σ H s)(q:Q (.bl k) H)(e:k=k'):EP X pins σ Q (.bool k') s:=by
 subst e;exact ⟨.bl k,H,I,rfl,q⟩
theorem op_ne:OpR X (compareOp .NotEq) rNe:=by
 intro pins s σ H x y v u Q I rx ry h;obtain ⟨hs,q⟩:=h
 cases x with
 | non =>
  cases rx
  cases y with
  | non=>cases ry;exact PySem.EqNone.ne_none_none (cb I q (by simp))
  | bl j=>cases ry;exact PySem.EqNone.ne_none_bool (cb I q (by simp))
  | int j=>obtain ⟨t',rfl⟩:=ry;exact PySem.EqNone.ne_none_int (cb I q (by simp))
  | str j=>obtain ⟨t',rfl⟩:=ry;exact PySem.EqNone.ne_none_str (cb I q (by simp))
  | _=>exact absurd (show false=true from hs) Bo
 | bl i =>
  cases rx
  cases y with
  | non=>cases ry;exact PySem.EqNone.ne_bool_none (cb I q (by simp))
  | bl j=>cases ry;exact ne_bool (cb I q (congrArg not dec_bl))
  | str j=>obtain ⟨t',rfl⟩:=ry;exact PySem.EqMixed.ne_bool_str (cb I q (by simp))
  | _=>exact absurd (show false=true from hs) Bo
 | int i =>
  obtain ⟨t,rfl⟩:=rx
  cases y with
  | non=>cases ry;exact PySem.EqNone.ne_int_none (cb I q (by simp))
  | int j=>obtain ⟨t',rfl⟩:=ry;exact ne_int (cb I q (congrArg not Ab))
  | str j=>obtain ⟨t',rfl⟩:=ry;exact PySem.EqMixed.ne_int_str (cb I q (by simp))
  | _=>exact absurd (show false=true from hs) Bo
 | str i =>
  obtain ⟨t,rfl⟩:=rx
  cases y with
  | non=>cases ry;exact PySem.EqNone.ne_str_none (cb I q (by simp))
  | bl j=>cases ry;exact PySem.EqMixed.ne_str_bool (cb I q (by simp))
  | int j=>obtain ⟨t',rfl⟩:=ry;exact PySem.EqMixed.ne_str_int (cb I q (by simp))
  | str j=>obtain ⟨t',rfl⟩:=ry;exact ne_str (cb I q (congrArg not Aa))
  | _=>exact absurd (show false=true from hs) Bo
 | byt i =>
  obtain ⟨t,rfl⟩:=rx
  cases y with
  | byt j=>obtain ⟨t',rfl⟩:=ry;exact PySem.W.ne_bytes (cb I q (congrArg not Ac))
  | _=>exact absurd (show false=true from hs) Bo
 | _=>cases y<;>exact absurd (show false=true from hs) Bo
theorem op_lt:OpR X (compareOp .Lt) (rI0 fun i j=> .bl (decide (i < j))):=zp fun _ _ _ _ _ _ _ q=>lt_int q
theorem wB:OpR X (compareOp .LtE) (rI0 fun i j=> .bl (decide (i<=j))):=zp fun _ _ _ _ _ _ _ q=>le_int q
theorem op_gt:OpR X (compareOp .Gt) (rI0 fun i j=> .bl (decide (j < i))):=zp fun _ _ _ _ _ _ _ q=>gt_int q
theorem AU:OpR X (compareOp .GtE) (rI0 fun i j=> .bl (decide (j<=i))):=zp fun _ _ _ _ _ _ _ q=>ge_int q
theorem op_isN:OpR X (compareOp .Is) (fun x y H Q=>y = .non/\Q (.bl (decide (x = .non))) H):=by
 intro pins s σ H x y v u Q I rx ry h;obtain ⟨rfl,q⟩:=h;cases ry;refine is_none_gen (cb I q ?_)
 cases x<;>first
  | (cases rx;rfl)
  | (obtain ⟨t,rfl⟩:=rx;rfl)
theorem OpR.or{f:Value->Value->Sem Value}{r r':R2}(h:OpR X f r)(h':OpR X f r'):OpR X f (fun x y H Q=>r x y H Q\/r' x y H Q):=by
 intro pins s σ H x y v u Q I rx ry q
 rcases q with q | q
 ·exact h pins s σ H x y v u Q I rx ry q
 ·exact h' pins s σ H x y v u Q I rx ry q
theorem dL(b:Expr){op:CmpOp}(h:op ≠ .In:=by decide)(h2:op ≠ .NotIn:=by decide):behindInMarks op b=false:=by
 have e1:(op == CmpOp.In)=false:=by cases op<;>first | rfl | exact absurd rfl h
 have e2:(op == CmpOp.NotIn)=false:=by cases op<;>first | rfl | exact absurd rfl h2
 cases b<;>simp [behindInMarks,e1,e2]
theorem zb{op:CmpOp}{r:R2}(ho:OpR X (compareOp op) r)(ha:PE X a ta)(hb:PE X b tb)(hm:behindInMarks op b=false):PE X (.Compare a [op] [b] pos) (tOp r ta tb):=by
 intro pins s σ H Q I h;exact wpAny_Compare1 (binT ha hb I h fun v u s2 x y H2 I2 rx ry q=>ho pins s2 σ H2 x y v u Q I2 rx ry q) hm
def tTest(t:TE):TT:=fun σ H Q=>t σ H fun x H'=>∃ k,x = .bl k/\Q k H'
theorem sV{op:CmpOp}{r:R2}(ho:OpR X (compareOp op) r)(ha:PE X a ta)(hb:PE X b tb)(hm:behindInMarks op b=false):PT X (.Compare a [op] [b] pos) (tTest (tOp r ta tb)):=by
 intro pins s σ H Q I h
 refine wpAny_isTrue_Compare1 (thn (ha pins s σ H _ I h) fun v s1 ⟨x,H1,I1,r1,q1⟩=>thn (hb pins s1 σ H1 _ I1 q1) fun u s2 ⟨y,H2,I2,r2,q2⟩ =>
  thn (ho pins s2 σ H2 x y v u _ I2 r1 r2 q2) fun c s3 ⟨z,H3,I3,r3,k,e,q3⟩=> ?_) hm
 subst e;cases r3;exact Co ⟨H3,I3,q3⟩
def vC(r r':R2)(ta tb tc:TE):TE:=fun σ H Q=>ta σ H fun x H1=>tb σ H1 fun y H2=>r x y H2 fun z H3=>∃ k,z = .bl k /\
 (if k=true then tc σ H3 fun w' H4=>r' y w' H4 Q else Q (.bl false) H3)
theorem wm{op op':CmpOp}{r r':R2}(ho:OpR X (compareOp op) r)(ho':OpR X (compareOp op') r')(ha:PE X a ta)(hb:PE X b tb)(hc:PE X c tc)
 (hm:lastMarks [op,op'] [b,c]=false:=by with_unfolding_all rfl):PE X (.Compare a [op,op'] [b,c] pos) (vC r r' ta tb tc):=by
 intro pins s σ H Q I h
 refine Compare_chain (thn (ha pins s σ H _ I h) fun v s1 ⟨x,H1,I1,r1,q1⟩=>chain_link (thn (hb pins s1 σ H1 _ I1 q1) fun u s2 ⟨y,H2,I2,r2,q2⟩ =>
  thn (ho pins s2 σ H2 x y v u _ I2 r1 r2 q2) fun d s3 ⟨z,H3,I3,r3,k,e,q3⟩=> ?_)) hm
 subst e;cases r3;refine Co ?_
 cases k with
 | false=>exact ite_ff ⟨.bl false,H3,I3,rfl,q3⟩
 | true=>exact ite_tt (chain_last (thn (hc pins s3 σ H3 _ I3 q3) fun w' s4 ⟨z',H4,I4,r4,q4⟩=>ho' pins s4 σ H4 y z' u w' Q I4 r2 r4 q4))
def Aq(K:Dy)(x:V)(H:Hp)(k:Bool):Prop :=
 match x with
 | .non=>k=false
 | .bl b=>k=b
 | .int i=>k=(i != 0)
 | .str y=>y.length<=sizeLine/\k=((y.length:Int) != 0)
 | .byt y=>y.size<=sizeLine/\k=((y.size:Int) != 0)
 | .ref p=>(∃ xs,SqL K H p xs/\k = !xs.isEmpty)\/(∃ xs,SqT K H p xs/\k = !xs.isEmpty)\/∃ kvs,H p=some (.dK kvs)/\k = !kvs.isEmpty
 | _=>False
theorem rC{κ:Type}{kvs:List (κ×V)}{vs:List (κ×Value)}(r:KV kvs vs):(!vs.isEmpty) = !kvs.isEmpty:=by
 cases r<;>rfl
theorem lr{xs:List V}{its:List Value}(r:aA xs its):(!its.toArray.isEmpty) = !xs.isEmpty:=by
 cases r<;>simp
theorem jb:(sizeLine:Nat) < 2 ^ 63:=by rw [sizeLine_eq];decide
theorem tru_ok:TruR X (fun x H Q=>∃ k,Aq X.K x H k/\Q k H):=by
 intro pins s σ H x v Q I rx h;obtain ⟨k,e,q⟩:=h;have hl:=jb;have hs:sizeLine=16777216:=sizeLine_eq
 cases x with
 | non =>
  cases rx;have e':k=false:=e;subst e';exact truthy_none ⟨H,I,q⟩
 | bl b =>
  cases rx;have e':k=b:=e;subst e';exact Co ⟨H,I,q⟩
 | int i =>
  obtain ⟨t,rfl⟩:=rx;have e':k=(i != 0):=e;subst e';exact PySem.P.truthy_int ⟨H,I,q⟩
 | str y =>
  obtain ⟨t,rfl⟩:=rx;obtain ⟨hy,e'⟩:y.length<=sizeLine/\k=((y.length:Int) != 0):=e;subst e';exact PySem.P.truthy_str (by omega) ⟨H,I.tok _,q⟩
 | byt y =>
  obtain ⟨t,rfl⟩:=rx;obtain ⟨hy,e'⟩:y.size<=sizeLine/\k=((y.size:Int) != 0):=e;subst e';exact PySem.W.truthy_bytes (by omega) ⟨H,I.tok _,q⟩
 | ref p =>
  cases rx;have e':(∃ xs,SqL X.K H p xs/\k = !xs.isEmpty)\/(∃ xs,SqT X.K H p xs/\k = !xs.isEmpty)\/∃ kvs,H p=some (.dK kvs)/\k = !kvs.isEmpty:=e
  rcases e' with ⟨xs,hx,e'⟩ | ⟨xs,hx,e'⟩ | ⟨kvs,hx,e'⟩
  ·subst e'
   obtain ⟨its,r,pl,hz⟩:=I.list hx;have hlen:=r.length;exact wpAny_truthy_list pl.isList (by simp only [Bh];omega) ⟨H,I.tok _,by rw [lr r];exact q⟩
  ·subst e'
   obtain ⟨its,r,pl,hz⟩:=I.tuple hx;have hlen:=r.length;exact truthy_tuple pl (by simp only [Bh];omega) ⟨H,I.tok _,by rw [lr r];exact q⟩
  ·subst e'
   obtain ⟨hz,hS,vs,r,m⟩:kvs.length<=sizeLine/\(p == sysModules)=false/\∃ vs,KV kvs vs/\s.heap.DictOf (aU X.prog X.w) p vs:=I.hok p _ hx;have hlen:kvs.length=vs.length:=Paired.length r;exact wpAny_truthy_dict hS m (by omega) ⟨H,I.tok _,by rw [rC r];exact q⟩
 | _=>exact (show False from e).elim
theorem v6(ha:PE X a ta)(he:∀ whole,isTrue a X.env whole=(do let v <- whole;standAt a.pos;holding [v] (truthy v))) :
 PT X a (fun σ H Q=>ta σ H fun x H'=>∃ k,Aq X.K x H' k/\Q k H'):=by
 intro pins s σ H Q I h;exact isTrue_plain (thn (ha pins s σ H _ I h) fun v s1 ⟨x,H1,I1,r1,q1⟩=>tru_ok pins s1 σ H1 x v Q I1 r1 q1) (he _)
theorem bV{x:V}{us:List Value}(r:aA [x] us):∃ u,us=[u]/\az x u:=by
 cases r with
 | cons r1 r2=>cases r2;exact ⟨_,rfl,r1⟩
theorem o5{x y:V}{us:List Value}(r:aA [x,y] us):∃ u w',us=[u,w']/\az x u/\az y w':=by
 cases r with
 | cons r1 r2 =>
  cases r2 with
  | cons r3 r4=>cases r4;exact ⟨_,_,rfl,r1,r3⟩
theorem u3(hc:X.calm=true):aJ X (.builtin "max") (fun xs H Q=>∃ i j,xs=[.int i,.int j]/\Q (.int (if j > i then j else i)) H):=by
 intro pins s σ H xs us Q I r h;obtain ⟨i,j,rfl,q⟩:=h;obtain ⟨u,w',rfl,⟨t,rfl⟩,⟨t',rfl⟩⟩:=o5 r
 refine max_two_ints (I.ok.hd hc) fun h' tk k=>⟨_,H,I.kept k,?_,q⟩
 by_cases hj:j > i
 ·rw [if_pos hj,if_pos hj];exact ⟨_,rfl⟩
 ·rw [if_neg hj,if_neg hj];exact ⟨_,rfl⟩
theorem uV(hc:X.calm=true):aJ X (.builtin "min") (fun xs H Q=>∃ i j,xs=[.int i,.int j]/\Q (.int (if j < i then j else i)) H):=by
 intro pins s σ H xs us Q I r h;obtain ⟨i,j,rfl,q⟩:=h;obtain ⟨u,w',rfl,⟨t,rfl⟩,⟨t',rfl⟩⟩:=o5 r
 refine min_two_ints (I.ok.hd hc) fun h' tk k=>⟨_,H,I.kept k,?_,q⟩
 by_cases hj:j < i
 ·rw [if_pos hj,if_pos hj];exact ⟨_,rfl⟩
 ·rw [if_neg hj,if_neg hj];exact ⟨_,rfl⟩
theorem u8:aJ X (.type "int") (fun xs H Q=>(∃ i,xs=[.int i]/\Q (.int i) H)\/∃ k,xs=[.bl k]/\Q (.int (if k then 1 else 0)) H):=by
 intro pins s σ H xs us Q I r h
 rcases h with ⟨i,rfl,q⟩ | ⟨k,rfl,q⟩
 ·obtain ⟨u,rfl,t,rfl⟩:=bV r
  exact call_int_int ⟨.int i,H,I,⟨_,rfl⟩,q⟩
 ·obtain ⟨u,rfl,r1⟩:=bV r
  cases r1;exact call_int_bool ⟨.int (if k then 1 else 0),H,I.tok _,⟨_,rfl⟩,q⟩
end
section
variable{prog:Program}{w:World}{A:Around}{E:Value->Shared->Prop}{s:Shared}{K:Dy}{x dx C f:Addr}{mA:Str->Option Value}{name:Str}{v:Value}
end
theorem ji.some_of{v:V}{o:Option Value}(r:ji (some v) o):∃ u,o=some u/\az v u:=by
 cases o with
 | none=>exact (show False from r).elim
 | some u=>exact ⟨u,rfl,r⟩
section
variable{P:Program}{w:World}{H H':Hp}{h h':Heap}{a C dx:Addr}{fs fs':List (Str×V)}
end
structure Cls(K:Dy)(C:Addr):Prop where
 pg:PySem.W.plainGet K C Str.empty=true
 hd:PySem.W.hasDictIn K C=true
 po:PySem.W.plainOver K C=true
 sa:PySem.W.findIn K (.ref C) "__setattr__" = some (some (.builtin "object.__setattr__"))
section
variable{X:Cx}{pins:List (Addr×Obj)}{σ:St}{H:Hp}{s:Shared}{a C dx:Addr}{fs:List (Str×V)}{f:Str}{v:V}{A:Around}{E:Value->Shared->Prop}
end
section
variable{X:Cx}{o e value:Expr}{f:Str}{pos pos' tpos:Pos}{ta tv:TE}
end
section
variable{X:Cx}{pins:List (Addr×Obj)}{σ:St}{H:Hp}{s:Shared}{A:Around}{E:Value->Shared->Prop}{Q:Value->Shared->Prop}{c:Value}{b:Bool}
inductive l0(K:Dy)(H:Hp):V->Value->Prop where
 | non:l0 K H .non (.type "NoneType")
 | bl (x:Bool):l0 K H (.bl x) (.type "bool")
 | int (i:Int):l0 K H (.int i) (.type "int")
 | str (x:Str):l0 K H (.str x) (.type "str")
 | flt (x:UInt64):l0 K H (.flt x) (.type "float")
 | lst {a:Addr} {xs:List V} (e:H a=some (.lst xs)):l0 K H (.ref a) (.type "list")
 | frz {a:Addr} {o:Obj} {xs:List V} (e:H a=some (.frz o (.lst xs))):l0 K H (.ref a) (.type "list")
 | tup {a:Addr} {xs:List V} (e:H a=some (.tup xs)):l0 K H (.ref a) (.type "tuple")
 | dK {a:Addr} {kvs:List (Key×V)} (e:H a=some (.dK kvs)):l0 K H (.ref a) (.type "dict")
 | dT {a:Addr} {kvs:List (List Key×V)} (e:H a=some (.dT kvs)):l0 K H (.ref a) (.type "dict")
 | ins {a C dx:Addr} {fs:List (Str×V)} (e:H a=some (.ins C dx fs)) (cl:Cls K C) (ha:PySem.W.findIn K (.ref C) "__class__" = some (some (.builtin "object.__class__")))
  (hn:PySem.W.specialIn K (.builtin "object.__class__") "__get__" = some (some (.builtin "getset_descriptor.__get__"))) (htk:PySem.W.takesIn K (.builtin "object.__class__")=some true)
  (hm:PySem.W.mroIn K C (.type "object")=some true):l0 K H (.ref a) (.ref C)
end
structure cj(k:Nat)(A:Around):Prop where
 hd:A.handled=none
 dp:A.depth+3 * k+5 < recursionLimit
 un:A.units+16 * k+200 < cLine
 gd:A.guards=some []:=by rfl
theorem cj.mono{j k:Nat}{A:Around}(r:cj k A)(h:j<=k):cj j A:=⟨r.hd,by have:=r.dp;omega,by have:=r.un;omega,r.gd⟩
theorem cj.deeper{k:Nat}{A:Around}(r:cj (k+1) A)(env:Env):cj k (A.deeper env) :=
 ⟨r.hd,by have:=r.dp;show A.depth+1+3 * k+5 < _;omega,by have:=r.un;show A.units+3+16 * k+200 < _;omega,r.gd⟩
theorem cj.depth{k:Nat}{A:Around}(r:cj k A):A.depth < recursionLimit:=by have:=r.dp;omega
theorem cj.units{k:Nat}{A:Around}(r:cj k A):A.units+64 < cLine:=by have:=r.un;omega
def yg:TA:=fun _ H Q=>Q [] H
def mH(ta:TE)(tr:TA):TA:=fun σ H Q=>ta σ H fun x H1=>tr σ H1 fun xs H2=>Q (x::xs) H2
section
variable{X:Cx}{e:Expr}{es:List Expr}{te:TE}{t:TA}{pos:Pos}
theorem cG:PA X [] yg:=fun _ _ _ _ H Q I h=>Calls.spliced_nil ⟨[],H,I,.nil,h⟩
theorem aH(ha:PE X e te)(hr:PA X es t)(hs:starEach (e::es) X.env=(false,eval e X.env)::starEach es X.env:=by rfl):PA X (e::es) (mH te t):=by
 intro pos pins s σ H Q I h;rw [hs]
 show wpAny _ _ (spliced ((false,eval e X.env)::backTo pos (starEach es X.env))) _ _ s
 refine Calls.spliced_cons (thn (ha pins s σ H _ I h) fun u s1 ⟨x,H1,I1,r1,q1⟩=> ?_)
 exact thn (hr pos pins s1 σ H1 _ I1 q1) fun us s2 ⟨xs,H2,I2,r2,q2⟩=>⟨x::xs,H2,I2,.cons r1 r2,q2⟩
def tTup(t:TA):TE:=fun σ H Q=>t σ H fun xs H1=>xs.length<=sizeLine/\∀ p,H1 p=none->Q (.ref p) (upd H1 p (.tup xs))
def tLst(t:TA):TE:=fun σ H Q=>t σ H fun xs H1=>xs.length<=sizeLine/\∀ p,H1 p=none->Q (.ref p) (upd H1 p (.lst xs))
theorem pe_tup{x1}(h:PA X es t):PE X (.Tuple es x1 pos) (tTup t):=by
 intro pins s σ H Q I hq;refine wpAny_Tuple_spliced (thn (h pos pins s σ H _ I hq) fun us s1 ⟨xs,H1,I1,r,z,q⟩=>⟨by rw [<- r.length];exact z,?_⟩);have hf:H1 s1.heap.objs.size=none:=I1.hok.fresh (Bq _);refine ⟨.ref s1.heap.objs.size,upd H1 s1.heap.objs.size (.tup xs),I1.laid (t':=s1.toks) (fun b u e=>Ba _ e) (Bq _) ?_,rfl,q _ hf⟩;exact ⟨z,us,r,qC.new _ _⟩
theorem nW(h:PA X es t):PE X (.List es pos) (tLst t):=by
 intro pins s σ H Q I hq;refine wpAny_List_spliced (thn (h pos pins s σ H _ I hq) fun us s1 ⟨xs,H1,I1,r,z,q⟩=>⟨by rw [<- r.length];exact z,?_⟩);have hf:H1 s1.heap.objs.size=none:=I1.hok.fresh (Bq _);refine ⟨.ref s1.heap.objs.size,upd H1 s1.heap.objs.size (.lst xs),I1.laid (t':=s1.toks) (fun b u e=>Ba _ e) (Bq _) ?_,rfl,q _ hf⟩;exact ⟨z,us,0,r,Bm _ rfl⟩
end
abbrev Sp:=List V->Hp->VK->XK->Prop
abbrev CXT:=List Env->Hp->Shared->XK->Value->Shared->Prop
structure vn(P:Program)(w:World)(K:Dy)(mg:Str->Option Value)(base:Heap)(A:Around)(outer:List Env)(s:Shared)(H:Hp):Prop where
 frames:A.frames=some outer
 mod:Mod K mg base
 bs:∀ b o,base.get? b=some o->s.heap.get? b=some o/\H b=none
 bsz:base.objs.size<=s.heap.objs.size
 funs:s.heap.FunFrames base outer
 frf:∀ b∈frs outer,H b=none
 hok:HOk P w H s.heap
 bare:AllBare s.gens
def CE(outer:List Env)(P:Program)(w:World)(H:Hp)(s:Shared)(Q:VK)(u:Value)(s':Shared):Prop :=
 ∃ v H',s'.os=s.os/\AllBare s'.gens/\Un (frs outer) [] H H' s.heap s'.heap/\HOk P w H' s'.heap/\az v u/\Q v H'
def CR(CX:CXT)(outer:List Env)(P:Program)(w:World)(H:Hp)(s:Shared)(Q:VK)(E:XK)(r:Result)(s':Shared):Prop :=
 match r with
 | .ok (.ret u)=>CE outer P w H s Q u s'
 | .ok _=>False
 | .error e=>CX outer H s E e s'
structure l9(P:Program)(w:World)(K:Dy)(mg:Str->Option Value)(base:Heap)(CX:CXT)(k:Nat)(f:Addr)(fd:FuncData)(ps:List Str)(sp:Sp):Prop where
 len:∀ vs H Q E,sp vs H Q E->vs.length=ps.length
 run:∀ (A:Around) (outer:List Env) (s:Shared) (H:Hp) (args:Args) (us:List Value) (vs:List V) (Q:VK) (E:XK),cj k A->vn P w K mg base A outer s H->BindsTo s fd args (ps.zip us)->aA vs us->sp vs H Q E ->
  codeAny (model P w) A (.call (.ref f) args) (CR CX outer P w H s Q E) s
section
variable{X:Cx}{pins:List (Addr×Obj)}{σ:St}{H:Hp}{s s':Shared}
theorem Inv.env0(I:Inv X pins σ H s):vn X.prog X.w X.K X.mg X.base X.A X.stack s H :=
 ⟨I.ok.frames,I.ok.mod,I.bs,Nat.le_trans I.ok.bsz I.sz,I.stack,I.stkFree,I.hok,I.bare⟩
theorem Inv.after{Q:VK}{u:Value}(I:Inv X pins σ H s)(h:CE X.stack X.prog X.w H s Q u s'):EP X pins σ Q u s':=by
 obtain ⟨v,H',os,bare,un,hok,r,q⟩:=h;obtain ⟨hh,g,d,t,os'⟩:=s';obtain rfl:os'=s.os:=os;exact ⟨v,H',I.call (h':=hh) (g':=g) (d':=d) (t':=t) (ch:=[]) un hok bare (fun b z=>absurd z (by simp)),r,q⟩
end
def sG(sp:Sp)(dvs:List V)(E:XK)(t:TA):TE:=fun σ H Q=>t σ H fun vs H1=>sp (vs++dvs) H1 Q E
def jL(K:Dy)(fd:FuncData)(ps:List Str)(ds:List Value):Prop :=
 ∀ (s:Shared) (us:List Value),K.In s.heap->(us++ds).length=ps.length->BindsTo s fd ⟨us,[]⟩ (ps.zip (us++ds))
theorem jL.all{K:Dy}{fd:FuncData}{ps:List Str}(h:∀ us:List Value,us.length=ps.length->bindArgs fd ⟨us,[]⟩=pure (ps.zip us)):jL K fd ps []:=fun s us _ hl=>by
 rw [BZ] at hl ⊢;exact .of_eq (h us hl)
def sk(CX:CXT)(X:Cx)(E:XK):Prop:=∀ (pins:List (Addr×Obj)) (σ:St) (H:Hp) (s:Shared) (e:Value) (s':Shared),Inv X pins σ H s->CX X.stack H s E e s'->X.xe e s'
section
variable{X:Cx}{CX:CXT}{k:Nat}{f C:Addr}{fd:FuncData}{ps:List Str}{sp:Sp}{dvs:List V}{ds:List Value}{E:XK}{x m:Str}{p pos apos:Pos}{e o:Expr}{es:List Expr}{ta:TE}{t:TA}
theorem run_fn{pins:List (Addr×Obj)}{σ:St}{H:Hp}{s:Shared}{Q:VK}{us:List Value}{vs:List V}(F:l9 X.prog X.w X.K X.mg X.base CX k f fd ps sp)(hr:cj k X.A)(hb:jL X.K fd ps ds)(hd:aA dvs ds)(hx:sk CX X E)
 (I:Inv X pins σ H s) (r:aA vs us) (h:sp (vs++dvs) H Q E):wpAny (model X.prog X.w) X.A (call (.ref f) us) (EP X pins σ Q) X.xe s:=by
 have r2:aA (vs++dvs) (us++ds):=r.append hd
 have hl:(us++ds).length=ps.length:=by rw [<- r2.length];exact F.len _ _ _ _ h
 refine wpAny_call (codeAny_mono (F.run X.A X.stack s H ⟨us,[]⟩ (us++ds) (vs++dvs) Q E hr I.env0 (hb s us I.kIn hl) r2 h) fun r s' hq=> ?_)
 cases r with
 | error e=>exact hx pins σ H s e s' I hq
 | ok fl =>
  cases fl with
  | ret u=>exact I.after hq
  | next=>exact False.elim hq
  | brk=>exact False.elim hq
  | cont=>exact False.elim hq
theorem sZ(F:l9 X.prog X.w X.K X.mg X.base CX k f fd ps sp)(hr:cj k X.A)(hg:Gl X x)(hm:X.mg x=some (.ref f))(hk:PySem.W.keepIn X.K (.ref f)=true)(hb:jL X.K fd ps ds)(hd:aA dvs ds)(hx:sk CX X E)
 (ha:PA X (e::es) t) (hdb:(x == ("__debug__" : Str))=false:=by decide) (he:starEach (e::es) X.env=(false,eval e X.env)::starEach es X.env:=by rfl) (hpl:(backTo pos (starEach es X.env)).any (·.1)=false:=by rfl) :
 PE X (.Call (.Name x p) (e::es) [] pos) (sG sp dvs E t):=by
 intro pins s σ H Q I h;refine CV (gv I hg hm ?_ hdb);refine PySem.W.callWith_K (h₀:=X.base) I.ok.mod.kin hk (thn (ha pos pins s σ H _ I h) fun us s1 ⟨vs,H1,I1,r,q⟩=>⟨I1.kIn,?_⟩) he hpl;exact run_fn F hr hb hd hx I1 r q
end
section
variable{X:Cx}{CX:CXT}{k:Nat}{f C:Addr}{fd:FuncData}{ps ks:List Str}{sp:Sp}{E:XK}{x m:Str}{p pos apos kpos:Pos}{e o:Expr}{es:List Expr}{kws:List Keyword}{te ta:TE}{t tk:TA}{nm:Option Str}
variable{g:List Value->List Value->List Value}{gV:List V->List V->List V}
end
structure cN(N P:List Str)(sc:Scope):Prop where
 kind:sc.kind = .function
 co:sc.isCoroutine=false
 gen:sc.isGenerator=false
 nd:N.Nodup
 pre:N.take P.length=P
 par:∀ x∈P,sc.names.lookup x=some .local\/sc.names.lookup x=some .cell
 nofree:∀ y∈sc.names,y.2 ≠ .free
theorem nk{kindOf:Str->Option NameKind}{x:Str}:∀ {binds:List (Str×Value)} {m:Str->Option Value},(∀ v,(x,v)∉binds)->bindL kindOf binds m x=m x
 | [],_,_=>rfl
 | (n,v)::r,m,h=>by
  unfold bindL;rw [nk fun w hw=>h w (Bi _ hw)]
  split
  ·have:x≠n:=by rintro rfl;exact h v Bn
   simp [this]
  ·rfl
theorem nq{kindOf:Str->Option NameKind}{x:Str}:∀ {binds:List (Str×Value)} {m:Str->Option Value},(∀ v,(x,v)∉binds)->bindC kindOf binds m x=m x
 | [],_,_=>rfl
 | (n,v)::r,m,h=>by
  unfold bindC;rw [nq fun w hw=>h w (Bi _ hw)]
  split
  ·rfl
  ·have:x≠n:=by rintro rfl;exact h v Bn
   simp [this]
theorem nn{kindOf:Str->Option NameKind}{x:Str}{v:Value}:∀ {P:List Str} {vs:List Value} {i:Nat} {m:Str->Option Value},P.Nodup->P[i]?=some x->vs[i]?=some v->kindOf x=some .local ->
 bindL kindOf (P.zip vs) m x=some v
 | [],_,_,_,_,h,_,_=>by simp at h
 | _::_,[],_,_,_,_,h,_=>by simp at h
 | p::P,w::vs,0,m,nd,h1,h2,hk=>by
  simp at h1 h2;subst h1;subst h2
  show bindL kindOf ((p,w)::P.zip vs) m p=_
  unfold bindL;rw [nk fun v hv=>(B2.mp nd).1 (Dm hv).1,if_pos hk];simp
 | p::P,w::vs,i+1,m,nd,h1,h2,hk=>by
  show bindL kindOf ((p,w)::P.zip vs) m x=_
  unfold bindL;exact nn (i:=i) (B2.mp nd).2 (by simpa using h1) (by simpa using h2) hk
theorem nr{kindOf:Str->Option NameKind}{x:Str}{v:Value}:∀ {P:List Str} {vs:List Value} {i:Nat} {m:Str->Option Value},P.Nodup->P[i]?=some x->vs[i]?=some v->kindOf x≠some .local ->
 bindC kindOf (P.zip vs) m x=some v
 | [],_,_,_,_,h,_,_=>by simp at h
 | _::_,[],_,_,_,_,h,_=>by simp at h
 | p::P,w::vs,0,m,nd,h1,h2,hk=>by
  simp at h1 h2;subst h1;subst h2
  show bindC kindOf ((p,w)::P.zip vs) m p=_
  unfold bindC;rw [nq fun v hv=>(B2.mp nd).1 (Dm hv).1,if_neg hk];simp
 | p::P,w::vs,i+1,m,nd,h1,h2,hk=>by
  show bindC kindOf ((p,w)::P.zip vs) m x=_
  unfold bindC;exact nr (i:=i) (B2.mp nd).2 (by simpa using h1) (by simpa using h2) hk
def cP(N:List Str)(vs:List V):St:=vs.map some++List.replicate (N.length - vs.length) none
def bT(CX:CXT)(P:Program)(w:World)(K:Dy)(mg:Str->Option Value)(base:Heap)(N:List Str)(qual:Str)(scope:Scope)(f:Addr)(cd:Value)(A:Around)(outer:List Env)(s:Shared)(H:Hp)(E:XK):Cx where
 prog:=P
 w:=w
 K:=K
 mg:=mg
 base:=base
 A:=A.deeper (envOfC qual scope s.heap.objs.size f cd)
 N:=N
 s₀:=s
 H₀:=H
 env:=envOfC qual scope s.heap.objs.size f cd
 outer:=outer
 stack:=envOfC qual scope s.heap.objs.size f cd::outer
 ex:=[]
 calm:=true
 fn:=fun _=>true
 pn:=[]
 xe:=fun e s'=>wpAny (model P w) (A.deeper (envOfC qual scope s.heap.objs.size f cd)) (leaving (envOfC qual scope s.heap.objs.size f cd) e) (fun _ s''=>CX outer H s E e s'') (fun e' s''=>CX outer H s E e' s'') s'
theorem qq{sc:Scope}{n:Nat}{x:Str}(h:sc.names.lookup x=some .cell):∃ c,(cellsFrom n sc.names []).lookup x=some c:=by
 have q:=PySem.W.cellsFrom_some sc.names n [] (.inl h);exact Option.isSome_iff_exists.mp q
theorem mW{CX:CXT}{P:Program}{w:World}{K:Dy}{mg:Str->Option Value}{base:Heap}{N ps:List Str}{qual:Str}{scope:Scope}{f:Addr}{cd:Value}{A:Around}{outer:List Env}{s s1:Shared}{H:Hp}{E:XK}{us:List Value}{vs:List V}
 (S:cN N ps scope) (hd:A.handled=none) (e0:vn P w K mg base A outer s H) (hl:vs.length=ps.length) (r:aA vs us)
 (x:InCallC s s.heap.objs.size (bindL (envOfC qual scope s.heap.objs.size f cd).kindOf (ps.zip us) fun _=>none) (cellsFrom (s.heap.objs.size+1) scope.names []) (bindC (envOfC qual scope s.heap.objs.size f cd).kindOf (ps.zip us) fun _=>none) s1) :
 Inv (bT CX P w K mg base N qual scope f cd A outer s H E) [] (cP N vs) H s1:=by
 have hpl:ps.length<=N.length:=by have:=congrArg List.length S.pre;rw [CI] at this;omega
 obtain ⟨h1,tk,rfl,hk⟩:=x.done
 have noA:∀ b:Addr,b∉(bT CX P w K mg base N qual scope f cd A outer s H E).ex:=fun b z=>absurd (show b∈([]:List Addr) from z) (by simp)
 refine ⟨⟨e0.mod,S.kind,rfl,rfl,Bq _,fun y z c h1 h2=> ?_,fun y hy=> ?_,fun y c _ h=> ?_,fun _=>hd,Around.frames_deeper e0.frames,.inr ⟨rfl,rfl⟩,fun b z=>absurd z (noA b),e0.bs,e0.bsz,fun b _ _=>noA b,fun b z=>absurd z (noA b),e0.funs,e0.frf⟩,
  rfl,e0.bare,Un.kept hk,⟨_,x.toInCall.ns,fun i y v h1 h2 h3=> ?_⟩,fun y c h=>⟨_,x.cell y c h⟩,e0.hok.fresh (Bq _),fun y c h=> ?_,fun p hp=>absurd (show p∈([]:List (Addr×Obj)) from hp) (by simp),e0.hok.kept hk,?_⟩
 ·exact name_of_addr x.apart (B6 h1) (B6 h2)
 ·have hy:scope.names.lookup y=some .cell\/scope.names.lookup y=some .free:=hy
  rcases hy with hy | hy
  ·exact qq hy
  ·exact absurd rfl (S.nofree _ (B6 hy))
 ·exact Cs (x.above y c (B6 h))
 ·have hi:i < vs.length:=by
   unfold cP at h2
   by_cases hi:i < vs.length
   ·exact hi
   ·rw [Cr (by simpa using hi)] at h2
    rw [CD] at h2
    split at h2<;>cases h2
  have ha:vs[i]?=some v:=by
   unfold cP at h2;rw [BJ (by simpa using hi),BI] at h2
   cases e:vs[i]? with
   | none=>rw [e] at h2;cases h2
   | some a=>rw [e] at h2;cases h2;rfl
  obtain ⟨u,hu,rv⟩:=r.get ha
  have hp:ps[i]?=some y:=by
   rw [<- S.pre,List.getElem?_take_of_lt (by omega)];exact h1
  have ndP:ps.Nodup:=by rw [<- S.pre];exact S.nd.sublist (List.take_sublist _ _)
  refine ⟨u,rv,?_⟩
  rcases S.par y (Bv hp) with k | k
  ·exact .inl ⟨k,nn ndP hp hu k⟩
  ·obtain ⟨c,e⟩:=qq (n:=s.heap.objs.size+1) k
   refine .inr ⟨.inl k,c,e,?_⟩;have q:=x.cell y c e;rw [nr ndP hp hu (by show scope.names.lookup y≠_;rw [k];decide)] at q;exact q
 ·exact e0.hok.fresh (Cs (x.above y c (B6 h)))
 ·unfold cP
  show _=N.length
  rw [Bz,Be,B9];omega
theorem A3{CX:CXT}{P:Program}{w:World}{K:Dy}{mg:Str->Option Value}{base:Heap}{k:Nat}{f:Addr}{name qual:Str}{params:Arguments}{body:List Stmt}{scope:Scope}{dV kV doc pm cdv ct oc:Value}{an od:Option Addr}
 {osl:Array (Option Value)} {N ps:List Str} {sp:Sp} (lk:K.lookup f=some ⟨oc,od,.func (PySem.W.fnOf name qual params body scope dV kV doc pm an cdv ct),osl⟩) (hcd:PySem.W.codeIn K cdv qual=true) (S:cN N ps scope)
 (len:∀ vs H Q E,sp vs H Q E->vs.length=ps.length)
 (hbody:∀ (A:Around) (outer:List Env) (s:Shared) (H:Hp) (vs:List V) (Q:VK) (E:XK),cj k (A.deeper (envOfC qual scope s.heap.objs.size f cdv))->sp vs H Q E ->
   ∃ t,PSs (bT CX P w K mg base N qual scope f cdv A outer s H E) body t/\t { nx:=fun _ H'=>Q .non H',rt:=Q } (cP N vs) H) :
 l9 P w K mg base CX (k+1) f (PySem.W.fnOf name qual params body scope dV kV doc pm an cdv ct) ps sp:=by
 refine ⟨len,fun A outer s H args us vs Q E hr e0 hb r hsp=> ?_⟩;have hl:=len _ _ _ _ hsp
 have KX:K.In s.heap:=e0.mod.kin.keeps fun b o e=>(e0.bs b o e).1
 have lim:s.heap.NoLimit:=e0.mod.nolimit.keeps fun b o e=>(e0.bs b o e).1
 have hkind:∀ y∈ps.zip us,scope.names.lookup y.1=some .local\/(scope.names.lookup y.1=some .cell/\((cellsFrom (s.heap.objs.size+1) scope.names []).lookup y.1).isSome=true):=fun ⟨n,v⟩ hy=>by
  rcases S.par n (Dm hy).1 with q | q
  ·exact .inl q
  ·exact .inr ⟨q,PySem.W.cellsFrom_some _ _ _ (.inl q)⟩
 refine codeAny_call_function hr.depth (KX _ _ lk) rfl S.co S.gen rfl (PySem.W.codeRec_of KX hcd) (hb _ _ _ _ ?_)
 refine wpAny_newFunctionEnv_cells S.kind hkind fun env he s1 x=> ?_
 subst he;refine ⟨lim.keeps x.toInCall.keep,codeAny_func ?_⟩;obtain ⟨t,ht,hq⟩:=hbody A outer s H vs Q E (hr.deeper _) hsp;have I:Inv (bT CX P w K mg base N qual scope f cdv A outer s H E) [] (cP N vs) H s1:=mW S hr.hd e0 hl r x
 refine Ci (ht [] s1 (cP N vs) H _ I hq) (fun fl s' hs=> ?_) fun e s' hs=>hs
 have fin:∀ {σ':St} {H':Hp} {v:V} {u:Value},Inv (bT CX P w K mg base N qual scope f cdv A outer s H E) [] σ' H' s'->az v u->Q v H'->CE outer P w H s Q u s' :=
  fun {σ' H' v u} J rv q=>⟨v,H',J.os,J.bare,J.base,J.hok,rv,q⟩
 cases fl with
 | ret u =>
  obtain ⟨v,σ',H',J,rv,q⟩:=hs;exact fin J rv q
 | next =>
  obtain ⟨σ',H',J,q⟩:=hs;exact fin (v:=V.non) (u:=Value.none) J rfl q
 | brk =>
  obtain ⟨_,_,_,q⟩:=hs;exact False.elim q
 | cont =>
  obtain ⟨_,_,_,q⟩:=hs;exact False.elim q
section
variable{X:Cx}{x:Str}{p pos:Pos}{e:Expr}{es:List Expr}{t:TA}{id T:String}{r:List V->Hp->VK->Prop}
def tCB(r:List V->Hp->VK->Prop)(t:TA):TE:=fun σ H Q=>t σ H fun vs H1=>r vs H1 Q
theorem iA(hc:aJ X (.builtin id) r)(hg:Gl X x)(hm:X.mg x=none)(hv:bootBuiltins x=some (.builtin id))(ha:PA X (e::es) t)(hn:x ≠ "__name__" := by decide)(hdb:(x == ("__debug__" : Str))=false:=by decide)
 (he:starEach (e::es) X.env=(false,eval e X.env)::starEach es X.env:=by rfl) (hpl:(backTo pos (starEach es X.env)).any (·.1)=false:=by rfl):PE X (.Call (.Name x p) (e::es) [] pos) (tCB r t):=by
 intro pins s σ H Q I h;refine CV (hU I hg hm hv ?_ hn hdb);exact PyProof.Rows.callWith_builtin1 (thn (ha pos pins s σ H _ I h) fun us s1 ⟨vs,H1,I1,r1,q1⟩=>hc pins s1 σ H1 vs us Q I1 r1 q1) he hpl
theorem uo(hc:aJ X (.type T) r)(hg:Gl X x)(hm:X.mg x=none)(hv:bootBuiltins x=some (.type T))(ha:PA X (e::es) t)(hn:x ≠ "__name__" := by decide)(hdb:(x == ("__debug__" : Str))=false:=by decide)
 (he:starEach (e::es) X.env=(false,eval e X.env)::starEach es X.env:=by rfl) (hpl:(backTo pos (starEach es X.env)).any (·.1)=false:=by rfl):PE X (.Call (.Name x p) (e::es) [] pos) (tCB r t):=by
 intro pins s σ H Q I h;refine CV (hU I hg hm hv ?_ hn hdb);exact PyProof.Rows.callWith_type1 (thn (ha pos pins s σ H _ I h) fun us s1 ⟨vs,H1,I1,r1,q1⟩=>hc pins s1 σ H1 vs us Q I1 r1 q1) he hpl
end
section
variable{κ:Type}[DecidableEq κ]
def dA(kvs:List (κ×V))(k:κ):Option V:=(kvs.find? fun kv=>decide (kv.1=k)).map (·.2)
def dP(kvs:List (κ×V))(k:κ)(v:V):List (κ×V) :=
 if (kvs.any fun kv=>decide (kv.1=k))=true then kvs.map (fun kv=>if kv.1=k then (kv.1,v) else kv) else kvs++[(k,v)]
theorem ie{p:κ×V}{r:List (κ×V)}{k:κ}(e:p.1=k):dA (p::r) k=some p.2:=by simp [dA,C1,e]
theorem ig{p:κ×V}{r:List (κ×V)}{k:κ}(e:¬ p.1=k):dA (p::r) k=dA r k:=by simp [dA,C1,e]
theorem o7(k:κ):∀ kvs:List (κ×V),(kvs.any fun kv=>decide (kv.1=k))=(dA kvs k).isSome
 | []=>rfl
 | p::r=>by
  rw [List.any_cons]
  by_cases e:p.1=k
  ·simp only [ie e,Bl e,Da,Option.isSome_some]
  ·rw [ig e,Br e,CO];exact o7 k r
theorem fO(kvs:List (κ×V))(k:κ)(v:V):(dP kvs k v).length<=kvs.length+1:=by
 unfold dP
 split
 ·rw [Be];omega
 ·rw [Bz,Bj,Cg];omega
theorem ji.isSome_eq{o:Option V}{u:Option Value}(r:ji o u):o.isSome=u.isSome:=by
 cases o with
 | none=>cases u with
  | none=>rfl
  | some _=>exact (show False from r).elim
 | some _=>cases u with
  | none=>exact (show False from r).elim
  | some _=>rfl
theorem ji.getD{o:Option V}{u:Option Value}{d:V}{d':Value}(r:ji o u)(rd:az d d'):az (o.getD d) (u.getD d'):=by
 cases o with
 | none=>cases u with
  | none=>exact rd
  | some _=>exact (show False from r).elim
 | some _=>cases u with
  | none=>exact (show False from r).elim
  | some _=>exact r
theorem KV.val{kvs:List (κ×V)}{vs:List (κ×Value)}(r:KV kvs vs)(k:κ):ji (dA kvs k) (valueAt vs k):=by
 unfold KV at r
 induction r with
 | nil=>exact True.intro
 | @cons p q ps qs h t ih =>
  obtain ⟨h1,h2⟩:=h
  by_cases e:p.1=k
  ·have e':q.1=k:=h1.symm.trans e
   have b:valueAt (q::qs) k=some q.2:=by simp [valueAt,C1,e']
   rw [ie e,b];exact h2
  ·have e':¬ q.1=k:=fun z=>e (h1.trans z)
   have b:valueAt (q::qs) k=valueAt qs k:=by simp [valueAt,C1,e']
   rw [ig e,b];exact ih
theorem KV.any{kvs:List (κ×V)}{vs:List (κ×Value)}(r:KV kvs vs)(k:κ):(kvs.any fun kv=>decide (kv.1=k))=vs.any fun kv=>decide (kv.1=k):=by
 unfold KV at r
 induction r with
 | nil=>rfl
 | cons h t ih=>rw [List.any_cons,List.any_cons,ih,h.1]
theorem KV.repl{kvs:List (κ×V)}{vs:List (κ×Value)}(r:KV kvs vs)(k:κ){y:V}{u:Value}(ry:az y u) :
 KV (kvs.map fun kv=>if kv.1=k then (kv.1,y) else kv) (vs.map fun kv=>if kv.1=k then (kv.1,u) else kv):=by
 unfold KV at r ⊢
 induction r with
 | nil=>exact .nil
 | @cons p q ps qs h t ih =>
  rw [Bu,Bu];refine .cons ?_ ih;obtain ⟨h1,h2⟩:=h
  by_cases e:p.1=k
  ·rw [if_pos e,if_pos (h1.symm.trans e)];exact ⟨h1,ry⟩
  ·rw [if_neg e,if_neg (fun z=>e (h1.trans z))];exact ⟨h1,h2⟩
theorem KV.put{kvs:List (κ×V)}{vs:List (κ×Value)}(r:KV kvs vs)(k:κ){y:V}{u:Value}(ry:az y u):KV (dP kvs k y) (stored vs k u):=by
 unfold dP stored;rw [r.any k]
 by_cases e:(vs.any fun kv=>decide (kv.1=k))=true
 ·rw [if_pos e,if_pos e];exact r.repl k ry
 ·rw [if_neg e,if_neg e];exact Paired.snoc r ⟨rfl,ry⟩
theorem KV.length{kvs:List (κ×V)}{vs:List (κ×Value)}(r:KV kvs vs):kvs.length=vs.length:=Paired.length r
end
theorem iD{P:Program}{w:World}{k:Key}{u:Value}(r:az (kV k) u):(aU P w).is k u=true:=by
 cases k with
 | inl i=>obtain ⟨t,e⟩:=(show ∃ t,u=Value.int i t from r);subst e;exact pY P w i t
 | inr x=>obtain ⟨t,e⟩:=(show ∃ t,u=Value.str x t from r);subst e;exact dU P w x t
theorem mV{P:Program}{w:World}:∀ {ks:List Key} {us:List Value},aA (ks.map kV) us->ItemsAre (aU P w) ks us
 | [],_,r=>by rw [CB] at r;cases r;exact .nil
 | k::ks,_,r=>by
  rw [Bu] at r
  cases r with
  | cons h t=>exact .cons (iD h) (mV t)
abbrev KT(H:Hp):List (List Key×V)->List (List Key×Addr×Value)->Prop:=Paired fun p q=>p.1=q.1/\H q.2.1=some (.tup (p.1.map kV))/\az p.2 q.2.2
theorem KT.val{H:Hp}{kvs:List (List Key×V)}{xs:List (List Key×Addr×Value)}(r:KT H kvs xs)(k:List Key):ji (dA kvs k) ((atKey xs k).map (·.2)):=by
 induction r with
 | nil=>exact True.intro
 | @cons p q ps qs h t ih =>
  obtain ⟨h1,_,h2⟩:=h
  by_cases e:p.1=k
  ·have e':q.1=k:=h1.symm.trans e
   have b:atKey (q::qs) k=some q.2:=by simp [atKey,C1,e']
   rw [ie e,b];exact h2
  ·have e':¬ q.1=k:=fun z=>e (h1.trans z)
   have b:atKey (q::qs) k=atKey qs k:=by simp [atKey,C1,e']
   rw [ig e,b];exact ih
theorem KT.repl{H:Hp}{kvs:List (List Key×V)}{xs:List (List Key×Addr×Value)}(r:KT H kvs xs)(k:List Key){y:V}{u:Value}(ry:az y u) :
 KT H (kvs.map fun kv=>if kv.1=k then (kv.1,y) else kv) (xs.map (putAt k u)):=by
 induction r with
 | nil=>exact .nil
 | @cons p q ps qs h t ih =>
  rw [Bu,Bu];refine .cons ?_ ih;obtain ⟨h1,h2,h3⟩:=h;unfold putAt
  by_cases e:p.1=k
  ·rw [if_pos e,if_pos (h1.symm.trans e)];exact ⟨h1,h2,ry⟩
  ·rw [if_neg e,if_neg (fun z=>e (h1.trans z))];exact ⟨h1,h2,h3⟩
theorem KT.put{H:Hp}{kvs:List (List Key×V)}{xs:List (List Key×Addr×Value)}(r:KT H kvs xs)(k:List Key){b:Addr}{y:V}{u:Value}(hb:H b=some (.tup (k.map kV)))(ry:az y u) :
 KT H (dP kvs k y) (storedH xs k b u):=by
 have e:(kvs.any fun kv=>decide (kv.1=k))=(atKey xs k).isSome:=by
  rw [o7,(r.val k).isSome_eq,Option.isSome_map]
 unfold dP storedH;rw [e]
 by_cases q:(atKey xs k).isSome=true
 ·rw [if_pos q,if_pos q];exact r.repl k ry
 ·rw [if_neg q,if_neg q];exact Paired.snoc r ⟨rfl,hb,ry⟩
theorem KT.keeps{H H':Hp}{kvs:List (List Key×V)}{xs:List (List Key×Addr×Value)}(r:KT H kvs xs)(ht:∀ b ys,H b=some (.tup ys)->H' b=some (.tup ys)):KT H' kvs xs :=
 Paired.mapP r fun _ _ z=>⟨z.1,ht _ _ z.2.1,z.2.2⟩
section
variable{P:Program}{w:World}{H:Hp}{h:Heap}{a:Addr}
theorem AA{u:HO}(ok:HOk P w H h)(e:Rd H a u):bB P w H h a u:=e.ok ok
theorem lO{kvs:List (Key×V)}(ok:HOk P w H h)(e:Rd H a (.dK kvs)):kvs.length<=sizeLine/\(a == sysModules)=false/\∃ vs,KV kvs vs/\h.DictOf (aU P w) a vs :=
 show bB P w H h a (.dK kvs) from AA ok e
theorem A5{kvs:List (Key×V)}(ok:HOk P w H h)(e:H a=some (.dK kvs)):kvs.length<=sizeLine/\(a == sysModules)=false/\∃ vs,KV kvs vs/\h.DictOf (aU P w) a vs:=lO ok (.inl e)
theorem lh{ks:List Key}(ok:HOk P w H h)(e:H a=some (.tup (ks.map kV))):(tupleKind (aU P w)).is h ks a:=by
 obtain ⟨_,its,r,⟨o,h1,h2,n,h3⟩,_⟩:=(show bB P w H h a (.tup (ks.map kV)) from ok a _ e);exact ⟨o,its.toArray,n,h1,h2,h3,by simpa using mV r⟩
theorem ng{kvs:List (List Key×V)}(ok:HOk P w H h)(e:Rd H a (.dT kvs)):kvs.length<=sizeLine/\(a == sysModules)=false /\
 ∃ xs,KT H kvs xs/\h.DictOfH (tupleKind (aU P w)) a xs:=by
 obtain ⟨z,y,xs,r,o,es,ep,h1,h2,h3,h4,h5⟩:=(show bB P w H h a (.dT kvs) from AA ok e);refine ⟨z,y,xs,r,o,es,ep,h1,h2,h3,h4,fun x hx=> ?_,h5⟩
 have all:∀ {l:List (List Key×V)} {m:List (List Key×Addr×Value)},KT H l m->∀ x∈m,(tupleKind (aU P w)).is h x.1 x.2.1:=by
  intro l m q
  induction q with
  | nil=>intro x hx;exact nomatch hx
  | @cons p q ps qs hq t ih =>
   intro x hx
   rcases Bp.mp hx with e | hx
   ·subst e
    exact lh ok (by rw [<- hq.1];exact hq.2.1)
   ·exact ih x hx
 exact all r x hx
theorem dt_of{kvs:List (List Key×V)}(ok:HOk P w H h)(e:H a=some (.dT kvs)):kvs.length<=sizeLine/\(a == sysModules)=false /\
 ∃ xs,KT H kvs xs/\h.DictOfH (tupleKind (aU P w)) a xs:=ng ok (.inl e)
end
def gG(H:Hp)(a:Addr)(y:V)(r:Option V):Prop :=
 (∃ kvs k,Rd H a (.dK kvs)/\y=kV k/\r=dA kvs k)\/∃ kvs k b,Rd H a (.dT kvs)/\y = .ref b/\H b=some (.tup (k.map kV))/\r=dA kvs k
def o0(H:Hp)(a:Addr)(y v:V)(H':Hp):Prop :=
 (∃ kvs k,H a=some (.dK kvs)/\y=kV k/\kvs.length < sizeLine/\H'=upd H a (.dK (dP kvs k v))) \/
 ∃ kvs k b,H a=some (.dT kvs)/\y = .ref b/\H b=some (.tup (k.map kV))/\kvs.length < sizeLine/\H'=upd H a (.dT (dP kvs k v))
theorem gG.k{H:Hp}{a:Addr}{kvs:List (Key×V)}{k:Key}(e:H a=some (.dK kvs)):gG H a (kV k) (dA kvs k):= .inl ⟨kvs,k,.inl e,rfl,rfl⟩
theorem gG.t{H:Hp}{a b:Addr}{kvs:List (List Key×V)}{k:List Key}(e:H a=some (.dT kvs))(eb:H b=some (.tup (k.map kV))):gG H a (.ref b) (dA kvs k):= .inr ⟨kvs,k,b,.inl e,rfl,eb,rfl⟩
theorem o0.k{H:Hp}{a:Addr}{kvs:List (Key×V)}{k:Key}{v:V}(e:H a=some (.dK kvs))(hl:kvs.length < sizeLine):o0 H a (kV k) v (upd H a (.dK (dP kvs k v))):= .inl ⟨kvs,k,e,rfl,hl,rfl⟩
theorem o0.t{H:Hp}{a b:Addr}{kvs:List (List Key×V)}{k:List Key}{v:V}(e:H a=some (.dT kvs))(eb:H b=some (.tup (k.map kV)))(hl:kvs.length < sizeLine) :
 o0 H a (.ref b) v (upd H a (.dT (dP kvs k v))):= .inr ⟨kvs,k,b,e,rfl,eb,hl,rfl⟩
section
variable{X:Cx}{pins:List (Addr×Obj)}{σ:St}{H:Hp}{s:Shared}{a:Addr}{y v:V}{u r:Value}{o:Option V}{A:Around}{E:Value->Shared->Prop}
theorem Inv.big(I:Inv X pins σ H s):sysModules < s.heap.objs.size:=by
 have h:mainGlobals < s.heap.objs.size:=(I.mod.glob.keeps I.bk).lt;exact Nat.lt_trans (by decide) h
theorem uL{Q:Value->Shared->Prop}(hu:A.units+1 < cLine)(I:Inv X pins σ H s)(g:gG H a y (some v))(ry:az y u)(h:∀ w' s',Inv X pins σ H s'->az v w'->Q w' s') :
 wpAny (model X.prog X.w) A (getItem (.ref a) u) Q E s:=by
 rcases g with ⟨kvs,k,e,ey,l⟩ | ⟨kvs,k,b,e,ey,eb,l⟩
 ·subst ey
  obtain ⟨z,hd,vs,rel,dd⟩:=lO I.hok e;obtain ⟨w',hw,rw'⟩:=ji.some_of (v:=v) (o:=valueAt vs k) (by rw [l];exact rel.val k);exact wpAny_getItem_of (iD ry) dd.mapOf hw (h w' _ (I.tok _) rw')
 ·subst ey
  cases (show u=Value.ref b from ry);obtain ⟨z,hd,xs,rel,dd⟩:=ng I.hok e;obtain ⟨w',hw,rw'⟩:=ji.some_of (v:=v) (o:=(atKey xs k).map (·.2)) (by rw [l];exact rel.val k);obtain ⟨p,hp,hp2⟩:=BM.mp hw;refine wpAny_getItem_heap (tupleKind_room_in1 hu) (lh I.hok eb) dd hp ?_;rw [hp2];exact h w' _ (I.tok _) rw'
theorem d_in{Q:Value->Shared->Prop}(hu:A.units+1 < cLine)(I:Inv X pins σ H s)(g:gG H a y o)(ry:az y u)(h:∀ s',Inv X pins σ H s'->Q (.bool o.isSome) s') :
 wpAny (model X.prog X.w) A (compareOp .In u (.ref a)) Q E s:=by
 rcases g with ⟨kvs,k,e,ey,l⟩ | ⟨kvs,k,b,e,ey,eb,l⟩
 ·subst ey
  obtain ⟨z,hd,vs,rel,dd⟩:=lO I.hok e;refine wpAny_in_of (iD ry) hd dd.mapOf ?_;rw [<- (rel.val k).isSome_eq,<- l];exact h _ (I.tok _)
 ·subst ey
  cases (show u=Value.ref b from ry);obtain ⟨z,hd,xs,rel,dd⟩:=ng I.hok e;refine wpAny_in_heap (tupleKind_room_in1 hu) (lh I.hok eb) hd dd ?_;have q:=(rel.val k).isSome_eq;rw [Option.isSome_map] at q;rw [<- q,<- l];exact h _ (I.tok _)
theorem oG{h':Heap}{t':Nat}{ob:HO}(I:Inv X pins σ H s)(mu:Mut (H a))(hs:Heap.SameBut a s.heap h')(he:∃ q,h'.get? a=some q)(new:bB X.prog X.w (upd H a ob) h' a ob) :
 Inv X pins σ (upd H a ob) { s with heap:=h',toks:=t' } :=
 I.write (x:=a) (e:=a) mu (.inl rfl) (fun b q hb z=>(hs.2 b hb).trans z) he new
theorem xE{P:Program}{w:World}{H':Hp}{h':Heap}{kvs:List (Key×V)}{vs:List (Key×Value)}(z:kvs.length<=sizeLine)(hd:(a == sysModules)=false)(rel:KV kvs vs)(dd:h'.DictOf (aU P w) a vs) :
 bB P w H' h' a (.dK kvs):=⟨z,hd,vs,rel,dd⟩
theorem uK{H':Hp}{Q:Unit->Shared->Prop}(hu:A.units+1 < cLine)(I:Inv X pins σ H s)(g:o0 H a y v H')(ry:az y u)(rv:az v r)(h:∀ s',Inv X pins σ H' s'->Q () s') :
 wpAny (model X.prog X.w) A (setItem (.ref a) u r) Q E s:=by
 rcases g with ⟨kvs,k,e,ey,l,eH⟩ | ⟨kvs,k,b,e,ey,eb,l,eH⟩
 ·subst ey eH
  obtain ⟨z,hd,vs,rel,dd⟩:=A5 I.hok e
  have hz:vs.length<=sizeLine:=by rw [<- rel.length];exact z
  have hl:(dP kvs k v).length<=sizeLine:=by have:=fO kvs k v;omega
  refine wpAny_setItem_pairs (hsz:=hz) (iD ry) dd fun h' dd' hs=>h _ ?_
  have he:∃ q,h'.get? a=some q:=let ⟨q,_,_,hq,_⟩:=dd';⟨q,hq⟩;exact oG I (by rw [e];exact True.intro) hs he (xE hl hd (rel.put k rv) dd')
 ·subst ey eH
  cases (show u=Value.ref b from ry);obtain ⟨z,hd,xs,rel,dd⟩:=dt_of I.hok e
  have hz:xs.length<=sizeLine:=by rw [<- Paired.length rel];exact z
  have hl:(dP kvs k v).length<=sizeLine:=by have:=fO kvs k v;omega
  refine wpAny_setItem_heap (hsz:=hz) (tupleKind_room_in1 hu) (lh I.hok eb) dd fun h' dd' hs=>h _ ?_
  obtain ⟨q,es,ep,hq,h2,h3,h4,_,h5⟩:=dd';refine oG I (by rw [e];exact True.intro) hs ⟨q,hq⟩ ⟨hl,hd,_,(rel.put k eb rv).keeps fun c ys ec=> ?_,q,es,ep,hq,h2,h3,h4,h5⟩;rw [ak (ne_of ec e (fun z=>nomatch z))];exact ec
end
section
variable{X:Cx}{pins:List (Addr×Obj)}{σ:St}{H:Hp}{s:Shared}{a:Addr}{kvs:List (Key×V)}{k:Key}{u:Value}{A:Around}{E:Value->Shared->Prop}
theorem d_len{Q:Value->Shared->Prop}(I:Inv X pins σ H s)(e:Rd H a (.dK kvs))(h:∀ t s',Inv X pins σ H s'->Q (.int kvs.length t) s'):wpAny (model X.prog X.w) A (call (.builtin "len") [.ref a]) Q E s:=by
 obtain ⟨z,hd,vs,rel,dd⟩:=lO I.hok e;refine call_len_dict hd dd (by rw [<- rel.length];rw [sizeLine_eq] at z;omega) ?_;rw [<- rel.length];exact h _ _ (I.tok _)
end
def xU(i:Expr):Prop:=∀ ov iv,subscripted i false ov iv=operate [ov,iv] (getItem ov iv)
theorem sI{prog:Program}{w:World}{A:Around}{E:Value->Shared->Prop}{s:Shared}{env:Env}{value slice:Expr}{pos:Pos}{T id:String}{Q:Value->Shared->Prop}
 (hl:typeLookup (.type T) "__getitem__" = pure (some (.builtin id))) (hs:xU slice)
 (h:wpAny (model prog w) A (eval value env) (fun o s₁=>wpAny (model prog w) A (eval slice env) (fun i s₂=>s₂.TypeIs o T/\wpAny (model prog w) A (getItem o i) Q E s₂) E s₁) E s) :
 wpAny (model prog w) A (eval (.Subscript value slice pos) env) Q E s:=by
 refine Subscript_ (Ci h (fun o s₁ h₁=>Ci h₁ (fun i s₂ h₂=> ?_) fun _ _ x=>x) fun _ _ x=>x);obtain ⟨hT,h₂⟩:=h₂;unfold subscriptTail;refine A9 ?_;rw [getitemInPython_of_ne hT.not_modules];refine A9 (wpAny_specialOf hT hl ?_)
 have fin:wpAny (model prog w) A (subscripted slice false o i) (fun r s₃=>wpAny (model prog w) A (letTemporaryGo value o r >>= fun _=>pure r) Q E s₃) E s₂:=by
  rw [hs o i];exact wpAny_operating (Ci h₂ (fun r s₃ h₃=>A9 (wpAny_letTemporaryGo (Bg h₃))) fun _ _ x=>x)
 first
  | exact Bg (A9 fin)
  | exact A9 (Bg (A9 fin))
  | exact A9 fin
theorem qm{X:Cx}{pins:List (Addr×Obj)}{σ:St}{H:Hp}{s:Shared}{a:Addr}{y:V}{o:Option V}(I:Inv X pins σ H s)(g:gG H a y o):s.TypeIs (.ref a) "dict" := by
 rcases g with ⟨kvs,k,e,_,_⟩ | ⟨kvs,k,b,e,_,_,_⟩
 ·obtain ⟨_,_,vs,_,dd⟩:=lO I.hok e
  exact dd.typeIs
 ·obtain ⟨_,_,xs,_,dd⟩:=ng I.hok e
  exact dd.typeIs
def tDGet(td ty:TE):TE:=fun σ H Q=>td σ H fun x H1=>ty σ H1 fun y H2=>∃ a v,x = .ref a/\gG H2 a y (some v)/\Q v H2
def sDPut(td ty tv:TE):TS:=fun D σ H=>tv σ H fun v H1=>td σ H1 fun x H2=>ty σ H2 fun y H3=>∃ a H4,x = .ref a/\o0 H3 a y v H4/\D.nx σ H4
section
variable{X:Cx}{o i e value:Expr}{pos pos' tpos:Pos}{td ty tv:TE}
theorem yZ(hu:X.A.units+1 < cLine)(ho:PE X o td)(hi:PE X i ty)(hs:xU i):PE X (.Subscript o i pos) (tDGet td ty):=by
 intro pins s σ H Q I h;refine sI PySem.F.slot_dict_getitem.lookup hs (thn (ho pins s σ H _ I h) fun u s1 ⟨x,H1,I1,rx,q1⟩=>thn (hi pins s1 σ H1 _ I1 q1) fun iv s2 ⟨y,H2,I2,ry,a,v,ex,g,q2⟩=> ?_);subst ex;obtain rfl:u=Value.ref a:=rx;exact ⟨qm I2 g,uL hu I2 g ry fun w' s3 I3 rw'=>⟨v,H2,I3,rw',q2⟩⟩
theorem yQ(hu:X.A.units+1 < cLine)(ho:PE X o td)(hi:PE X i ty)(hv:PE X value tv)(hs:swapsWith value (some (.Subscript o i pos')) pos.line X.env=pure false) :
 PS X (.Assign [.Subscript o i pos'] value pos) (sDPut td ty tv):=by
 intro pins s σ H D I h;refine wpAny_Assign_Subscript (thn (hv pins s σ H _ I h) fun r s1 ⟨v,H1,I1,rv,q1⟩=>thn (ho pins s1 σ H1 _ I1 q1) fun u s2 ⟨x,H2,I2,rx,q2⟩=>thn (hi pins s2 σ H2 _ I2 q2) fun iv s3 ⟨y,H3,I3,ry,a,H4,ex,g,q3⟩=> ?_) hs;subst ex;obtain rfl:u=Value.ref a:=rx
 exact uK hu I3 g ry rv fun s4 I4=>⟨σ,H4,I4,q3⟩
end
theorem ql{P:Program}{w:World}{H:Hp}(h:Heap)(hb:sysModules < h.objs.size):bB P w H (h.push { cls:= .type "dict",data:= .dict #[] }) h.objs.size (.dK []) :=
 ⟨Nat.zero_le _,CC.mpr (Ne.symm (BC hb)),[],.nil,Heap.DictOf.new h⟩
theorem xD{P:Program}{w:World}{H:Hp}(h:Heap)(hb:sysModules < h.objs.size):bB P w H (h.push { cls:= .type "dict",data:= .dict #[] }) h.objs.size (.dT []) :=
 ⟨Nat.zero_le _,CC.mpr (Ne.symm (BC hb)),[],.nil,_,#[],0,Bm _ rfl,⟨rfl,rfl,rfl⟩,rfl,rfl,Dw⟩
def tDNewK:TE:=fun _ H Q=>∀ p,H p=none->Q (.ref p) (upd H p (.dK []))
def tDNewT:TE:=fun _ H Q=>∀ p,H p=none->Q (.ref p) (upd H p (.dT []))
section
variable{X:Cx}{pos:Pos}
theorem wk:PE X (.Dict [] [] pos) tDNewK:=fun pins s σ H Q I h =>
 wpAny_Dict_empty ⟨.ref s.heap.objs.size,_,I.laid (a:=s.heap.objs.size) (o:= .dK []) (t':=s.toks) (fun _ _ q=>Ba _ q) (Bq _) (ql s.heap I.big),rfl,h _ (I.hok.fresh (Bq _))⟩
theorem wj:PE X (.Dict [] [] pos) tDNewT:=fun pins s σ H Q I h =>
 wpAny_Dict_empty ⟨.ref s.heap.objs.size,_,I.laid (a:=s.heap.objs.size) (o:= .dT []) (t':=s.toks) (fun _ _ q=>Ba _ q) (Bq _) (xD s.heap I.big),rfl,h _ (I.hok.fresh (Bq _))⟩
end
def nH:List (TE×TE)->St->Hp->(List (V×V)->Hp->Prop)->Prop
 | [],_,H,Q=>Q [] H
 | (tk,tv)::r,σ,H,Q=>tk σ H fun x H1=>tv σ H1 fun y H2=>nH r σ H2 fun ps H3=>Q ((x,y)::ps) H3
abbrev VV:List (V×V)->List (Value×Value)->Prop:=Paired fun p q=>az p.1 q.1/\az p.2 q.2
def PPs(X:Cx)(pos:Pos)(keys:List (Option Expr))(values:List Expr)(trs:List (TE×TE)):Prop :=
 ∀ (pins:List (Addr×Obj)) (s:Shared) (σ:St) (H:Hp) (Q:List (V×V)->Hp->Prop),Inv X pins σ H s->nH trs σ H Q ->
  wpAny (model X.prog X.w) X.A (evalPairs (pairTrees keys values X.env pos)) (fun vs s'=>∃ ps H',Inv X pins σ H' s'/\VV ps vs/\Q ps H') X.xe s
theorem yR{X:Cx}{pos:Pos}:PPs X pos [] [] []:=fun pins s σ H Q I h=>pairTrees_nil_walk ⟨[],H,I,.nil,h⟩
theorem wa{X:Cx}{pos:Pos}{k v:Expr}{ks:List (Option Expr)}{vs:List Expr}{tk tv:TE}{trs:List (TE×TE)}(hk:PE X k tk)(hv:PE X v tv)(hr:PPs X pos ks vs trs) :
 PPs X pos (some k::ks) (v::vs) ((tk,tv)::trs):=fun pins s σ H Q I h =>
 pairTrees_cons_walk (thn (hk pins s σ H _ I h) fun u s1 ⟨x,H1,I1,rx,q1⟩=>thn (hv pins s1 σ H1 _ I1 q1) fun w2 s2 ⟨y,H2,I2,ry,q2⟩ =>
  thn (hr pins s2 σ H2 _ I2 q2) fun ws s3 ⟨ps,H3,I3,rel,q3⟩=>⟨(x,y)::ps,H3,I3,.cons ⟨rx,ry⟩ rel,q3⟩)
def fK(kvs more:List (Key×V)):List (Key×V):=more.foldl (fun acc kv=>dP acc kv.1 kv.2) kvs
theorem KV.merge:∀ {more:List (Key×V)} {rs:List (Key×Value)} {kvs:List (Key×V)} {vs:List (Key×Value)},KV more rs->KV kvs vs->KV (fK kvs more) (merged vs rs):=by
 intro more rs kvs vs r;unfold KV at r
 induction r generalizing kvs vs with
 | nil=>intro q;exact q
 | @cons p q ps qs h t ih =>
  intro r0
  have e:KV (dP kvs p.1 p.2) (stored vs q.1 q.2):=by
   have:=r0.put p.1 h.2;rw [<- h.1];exact this
  exact ih e
theorem gI:∀ (more kvs:List (Key×V)),(fK kvs more).length<=kvs.length+more.length
 | [],kvs=>by show kvs.length<=kvs.length+0;omega
 | p::r,kvs=>by
  have h1:=gI r (dP kvs p.1 p.2);have h2:=fO kvs p.1 p.2
  show (fK (dP kvs p.1 p.2) r).length<=_
  rw [Bj];omega
theorem lR{P:Program}{w:World}:∀ {kvs:List (Key×V)} {ws:List (Value×Value)},VV (kvs.map fun kv=>(kV kv.1,kv.2)) ws->∃ rs,Carries (aU P w) ws rs/\KV kvs rs
 | [],_,r=>by rw [CB] at r;cases r;exact ⟨[],True.intro,.nil⟩
 | p::kvs,_,r=>by
  rw [Bu] at r
  cases r with
  | @cons a b as bs h t =>
   obtain ⟨rs,c,q⟩:=lR (P:=P) (w:=w) t;obtain ⟨b1,b2⟩:=b;exact ⟨(p.1,b2)::rs,⟨iD h.1,rfl,c⟩,.cons ⟨rfl,h.2⟩ q⟩
def tDisp(trs:List (TE×TE)):TE:=fun σ H Q=>∀ p,H p=none->nH trs σ (upd H p (.dK [])) fun ps H2=>H2 p=some (.dK [])/\∃ kvs:List (Key×V),ps=kvs.map (fun kv=>(kV kv.1,kv.2))/\kvs.length<=15/\Q (.ref p) (upd H2 p (.dK (fK [] kvs)))
theorem yY{X:Cx}{pos:Pos}{keys:List (Option Expr)}{values:List Expr}{trs:List (TE×TE)}(h:PPs X pos keys values trs)(hall:keys.all (·.isSome)=true)(hl:keys.length=values.length)(h0:keys≠[])
 (h15:keys.length<=15):PE X (.Dict keys values pos) (tDisp trs):=by
 intro pins s σ H Q I q;have hn:=I.hok.fresh (Bq s.heap.objs.size);have I1:=I.laid (a:=s.heap.objs.size) (o:= .dK []) (h':=s.heap.push { cls:= .type "dict",data:= .dict #[] }) (t':=s.toks) (fun _ _ q=>Ba _ q) (Bq _) (ql s.heap I.big);refine wpAny_Dict_walk (knd:=aU X.prog X.w) hall hl h0 h15 (thn (h pins _ σ _ _ I1 (q _ hn)) fun ws s2 ⟨ps,H2,I2,rel,e,kvs,ep,lk,q2⟩=> ?_);subst ep;obtain ⟨rs,c,rk⟩:=lR (P:=X.prog) (w:=X.w) rel;obtain ⟨z,hd,vs0,r0,dd⟩:=A5 I2.hok e;cases r0;refine ⟨rs,c,dd,fun h' dd' hs=>⟨.ref s.heap.objs.size,_,?_,rfl,q2⟩⟩
 have hz:(fK [] kvs).length<=sizeLine:=by
  have h1:=gI kvs [];rw [Cg] at h1;rw [sizeLine_eq];omega
 have he:∃ q,h'.get? s.heap.objs.size=some q:=let ⟨q,_,_,hq,_⟩:=dd';⟨q,hq⟩;exact oG I2 (by rw [e];exact True.intro) hs he (xE hz hd (rk.merge .nil) dd')
structure M2(X:Cx)(o:Expr)(m:Str)(apos:Pos)(e f:Expr)(cpos:Pos):Prop where
 base:attributeBase o m X.env (eval o X.env)=eval o X.env
 few:((backTo cpos (starEach [e,f] X.env)).all (fun x => !x.1)&&(backToKw cpos (keywordEach [] X.env)).all (fun x=>x.1.isSome)
  && decide (([e,f]:List Expr).length+([]:List Keyword).length+(if ([]:List Keyword).isEmpty then 0 else 1) < 30))=true
 line:(apos.endLine == cpos.line)=true
 trees:backTo cpos (starEach [e,f] X.env)=[(false,eval e X.env),(false,eval f X.env)]
def IsD(H:Hp)(a:Addr):Prop:=(∃ kvs,Rd H a (.dK kvs))\/∃ kvs,Rd H a (.dT kvs)
theorem isD_at{X:Cx}{pins:List (Addr×Obj)}{σ:St}{H:Hp}{s:Shared}{a:Addr}(I:Inv X pins σ H s)(d:IsD H a) :
 s.TypeIs (.ref a) "dict" /\ (∀ b,Value.ref a = .ref b->∃ ob,s.heap.get? b=some ob/\ob.dict=none)/\(a == sysModules)=false:=by
 rcases d with ⟨kvs,e⟩ | ⟨kvs,e⟩
 ·obtain ⟨_,hd,vs,_,dd⟩:=lO I.hok e
  refine ⟨dd.typeIs,fun b q=> ?_,hd⟩;cases q;obtain ⟨ob,_,_,h1,h2,_⟩:=dd;exact ⟨ob,h1,h2.2.1⟩
 ·obtain ⟨_,hd,xs,_,dd⟩:=ng I.hok e
  refine ⟨dd.typeIs,fun b q=> ?_,hd⟩;cases q;obtain ⟨ob,_,_,h1,h2,_⟩:=dd;exact ⟨ob,h1,h2.2.1⟩
section
variable{X:Cx}{pins:List (Addr×Obj)}{σ:St}{H:Hp}{s:Shared}{a:Addr}{y d:V}{u r:Value}{o:Option V}{A:Around}{E:Value->Shared->Prop}
theorem d_get2{Q:Value->Shared->Prop}(hu:A.units+1 < cLine)(I:Inv X pins σ H s)(g:gG H a y o)(ry:az y u)(rd:az d r)(h:∀ w' s',Inv X pins σ H s'->az (o.getD d) w'->Q w' s') :
 wpAny (model X.prog X.w) A (call (.builtin "dict.get") [.ref a,u,r]) Q E s:=by
 rcases g with ⟨kvs,k,e,ey,l⟩ | ⟨kvs,k,b,e,ey,eb,l⟩
 ·subst ey
  obtain ⟨z,hd,vs,rel,dd⟩:=lO I.hok e;refine call_meetsIn PySem.F.slot_dict_get dd.typeIs PySem.F.entry_dict_get (PySem.F.args_dict_get_3 _ _ _) (meets_dict_get_default (aU X.prog X.w) a (iD ry) hd r) ⟨_,dd.mapOf,h _ _ (I.tok _) ?_⟩;rw [l];exact (rel.val k).getD rd
 ·subst ey
  cases (show u=Value.ref b from ry);obtain ⟨z,hd,xs,rel,dd⟩:=ng I.hok e;refine call_meetsIn PySem.F.slot_dict_get dd.typeIs PySem.F.entry_dict_get (PySem.F.args_dict_get_3 _ _ _) (meetsH_dict_get_default (tupleKind (aU X.prog X.w)) a b hd r) ⟨tupleKind_room_in1 hu,k,xs,lh I.hok eb,dd,h _ _ (I.tok _) ?_⟩;rw [l];exact (rel.val k).getD rd
end
def tDGet2(td ty tx:TE):TE:=fun σ H Q=>td σ H fun x H1=>∃ a,x = .ref a/\IsD H1 a/\ty σ H1 fun y H2=>tx σ H2 fun z H3=>∃ o,gG H3 a y o/\Q (o.getD z) H3
section
variable{X:Cx}{o e f:Expr}{apos cpos:Pos}{td ty tx:TE}
theorem wl(hu:X.A.units+1 < cLine)(ho:PE X o td)(he:PE X e ty)(hf:PE X f tx)(m:M2 X o "get" apos e f cpos):PE X (.Call (.Attribute o "get" apos) [e,f] [] cpos) (tDGet2 td ty tx):=by
 intro pins s σ H Q I h;refine wpAny_Call_method m.base m.few m.line PySem.F.plainAttrs_dict PySem.F.slot_dict_get PySem.F.type_dict_get (thn (ho pins s σ H _ I h) fun u s1 ⟨x,H1,I1,rx,a,ex,d,q1⟩=> ?_);subst ex;obtain rfl:u=Value.ref a:=rx;obtain ⟨t1,t2,_⟩:=isD_at I1 d;refine ⟨t1,t2,?_⟩;rw [m.trees]
 refine Calls.callWith_builtin rfl (Calls.evalArgs_plain (Calls.spliced_cons (thn (he pins s1 σ H1 _ I1 q1) fun iv s2 ⟨y,H2,I2,ry,q2⟩ =>
  Calls.spliced_cons (thn (hf pins s2 σ H2 _ I2 q2) fun fv s3 ⟨z,H3,I3,rz,ov,g,q3⟩=>Calls.spliced_nil ?_))))
 exact d_get2 hu I3 g ry rz fun w' s4 I4 rw'=>⟨_,H3,I4,rw',q3⟩
end
section
variable{X:Cx}{pins:List (Addr×Obj)}{σ:St}{H:Hp}{s:Shared}{a:Addr}{kvs:List (Key×V)}{A:Around}{E:Value->Shared->Prop}
end
section
variable{X:Cx}{pins:List (Addr×Obj)}{σ:St}{H:Hp}{s:Shared}{a:Addr}{y:V}{u:Value}{A:Around}{E:Value->Shared->Prop}
end
end L2
namespace HT
open PySem PyProof.Rows
theorem xA(A:Around)(s:Shared)(a:Int)(t:Tok)(c:Int)(u:Tok):∃ e,SeqAt.EqAt A s (.int a t) (.int c u) e/\(e=true↔a=c) :=
 ⟨(a == c),SeqAt.EqAt.int_int a t c u,by simp⟩
section
open PySem.SeqAt
open PySem.AutoSeq1 (wpAny_loadPart')
open PySem.MeetsSeq PySem.MeetsSeq2 PySem.MeetsSeq3
end
section
variable{prog:Program}{w:World}{A:Around}{E:Value->Shared->Prop}{s:Shared}
theorem Ae{t b:Addr}{vs ws:List Value}{Q:Value->Shared->Prop}(ht:IsTup s.heap t vs.toArray)(hb:IsTup s.heap b ws.toArray)(hv:vs≠[])
 (h1:ws=[]->Q (.ref t) s) (h2:ws≠[]->Q (.ref s.heap.objs.size) { s with heap:=s.heap.push { cls:= .type "tuple",data:= .seq (vs++ws).toArray } })
 (hsz:vs.length+ws.length<=sizeLine):wpAny (model prog w) A (binaryOp .Add (.ref t) (.ref b)) Q E s:=by
 obtain ⟨⟨cls,dd,data,sl⟩,ho,hc,n,hd⟩:=id ht;obtain ⟨⟨cls2,dd2,data2,sl2⟩,ho2,hc2,n2,hd2⟩:=id hb;simp only at hc hd hc2 hd2;subst hc hd hc2 hd2
 have e:vs.toArray++ws.toArray=(vs++ws).toArray:=by simp
 by_cases hw:ws=[]
 ·exact concat_meets ⟨_,ho,rfl⟩ ⟨_,ho2,rfl⟩ noFill_tuple_add seq_tuple_add PySem.F.slot_tuple_add PySem.F.entry_tuple_add (PySem.F.args_tuple_add_2 _ _)
   (tuple_addW1 t b vs.toArray ws.toArray n n2 dd dd2 sl sl2 (by simpa using hv) (by simp [hw])) ⟨ho,ho2,h1 hw⟩
 ·refine concat_meets ⟨_,ho,rfl⟩ ⟨_,ho2,rfl⟩ noFill_tuple_add seq_tuple_add PySem.F.slot_tuple_add PySem.F.entry_tuple_add (PySem.F.args_tuple_add_2 _ _)
   (tuple_addW2 t b vs.toArray ws.toArray n n2 dd dd2 sl sl2 (by simpa using hv) (by simpa using hw) (by rw [Bh,Bh];exact hsz)) ⟨ho,ho2,?_⟩
  rw [e];exact h2 hw
def sIx(n d:Nat):Option Int->Nat
 | none=>d
 | some v=>if v < 0 then (v+(n:Int)).toNat else min v.toNat n
theorem qP(n d:Nat)(hd:d<=n)(o:Option Int):sIx n d o<=n:=by
 cases o with
 | none=>exact hd
 | some v =>
  show (if v < 0 then (v+(n:Int)).toNat else min v.toNat n)<=n
  by_cases hv:v < 0
  ·rw [if_pos hv];omega
  ·rw [if_neg hv];exact Nat.min_le_right _ _
theorem tX(v:Int)(n d:Nat):(if v < 0 then max (v+(n:Int)) 0 else min v (n:Int))=((sIx n d (some v):Nat):Int):=by
 show (if v < 0 then max (v+(n:Int)) 0 else min v (n:Int))=(((if v < 0 then (v+(n:Int)).toNat else min v.toNat n):Nat):Int)
 by_cases hv:v < 0
 ·simp only [if_pos hv];omega
 ·simp only [if_neg hv];omega
theorem sd(lo hi:Option Int)(n:Nat):Builtin.Slice.sliceAdjust lo hi 1 (n:Int)=(((sIx n 0 lo:Nat):Int),((sIx n n hi:Nat):Int)):=by
 have h1:¬ ((1:Int) < 0):=by omega
 unfold Builtin.Slice.sliceAdjust;simp only [h1,if_false];refine Prod.ext ?_ ?_
 ·cases lo with
  | none=>rfl
  | some v=>exact tX v n 0
 ·cases hi with
  | none=>rfl
  | some v=>exact tX v n n
theorem qZ(i j:Nat):Builtin.Slice.slicePlaces (i:Int) (j:Int) 1=j - i:=by
 unfold Builtin.Slice.slicePlaces
 have h1:(1:Int) > 0:=by omega
 simp only [h1,if_true,Int.ediv_one]
 split<;>omega
theorem kt{v:Value}{o:Option Int}{Q:Option Int->Shared->Prop}(p:IsPart v o)(h:Q o s):wpAny (model prog w) A (Builtin.Slice.slicePartIndex v) Q E s:=by
 cases p with
 | none=>exact slicePart_none h
 | int i t=>exact slicePart_int h
theorem eC{sl:Addr}{vl vu:Value}{lo hi:Option Int}{n:Nat}{Q:Int×Int×Nat->Shared->Prop}(hs:s.heap.IsSliceOf sl vl vu .none)(pl:IsPart vl lo)(pu:IsPart vu hi)
 (h:Q (((sIx n 0 lo:Nat):Int),1,sIx n n hi - sIx n 0 lo) s):wpAny (model prog w) A (Builtin.Slice.sliceApplied (.ref sl) (pure (n:Int))) Q E s:=by
 obtain ⟨os,hos,hcs,hds⟩:=id hs;unfold Builtin.Slice.sliceApplied Builtin.Slice.sliceFields;refine A9 (A9 (Cd hos hds (x:=vl) rfl (A9 (Cd hos hds (x:=vu) rfl (A9 (Cd hos hds (x:= .none) rfl (Bg ?_)))))));refine A9 (slicePart_none ?_)
 show wpAny _ _ (if ((1:Int) == 0)=true then _ else _) _ _ s
 rw [if_neg (by decide)];refine A9 (kt pl (A9 (kt pu (A9 (Bg ?_)))))
 show wpAny _ _ (match Builtin.Slice.sliceAdjust lo hi 1 (n:Int) with | (lo,hi)=>pure (lo,(1:Int),Builtin.Slice.slicePlaces lo hi 1)) _ _ s
 rw [sd lo hi n]
 show wpAny _ _ (pure (((sIx n 0 lo:Nat):Int),(1:Int),Builtin.Slice.slicePlaces ((sIx n 0 lo:Nat):Int) ((sIx n n hi:Nat):Int) 1)) _ _ s
 rw [qZ];exact Bg h
theorem wd(xs:Array Value)(i k:Nat):((List.range k).filterMap fun (m:Nat)=>xs[((i:Int)+(m:Int) * 1).toNat]?).toArray=((xs.toList.drop i).take k).toArray:=by
 have e:(fun (m:Nat)=>xs[((i:Int)+(m:Int) * 1).toNat]?)=fun m=>xs[i+m]?:=by
  funext m
  have:((i:Int)+(m:Int) * 1).toNat=i+m:=by omega
  rw [this]
 rw [e];have:=pick_run xs i k;rw [List.filterMap_map] at this
 have e2:((fun x=>xs[x]?) ∘ fun x=>i+x)=fun m=>xs[i+m]?:=rfl
 rw [e2] at this;rw [this]
theorem iH{t sl:Addr}{items:Array Value}{vl vu:Value}{lo hi:Option Int}{Q:Value->Shared->Prop}(ht:IsTup s.heap t items)(hs:s.heap.IsSliceOf sl vl vu .none)(pl:IsPart vl lo)(pu:IsPart vu hi)
 (hw:¬ (sIx items.size 0 lo=0/\sIx items.size items.size hi=items.size))
 (h:Q (.ref s.heap.objs.size) { s with heap:=s.heap.push { cls:= .type "tuple",data:= .seq ((items.toList.drop (sIx items.size 0 lo)).take (sIx items.size items.size hi - sIx items.size 0 lo)).toArray } })
 (hsz:items.size<=sizeLine):wpAny (model prog w) A (getItem (.ref t) (.ref sl)) Q E s:=by
 have htake:sizeOk (.seq ((items.toList.drop (sIx items.size 0 lo)).take (sIx items.size items.size hi - sIx items.size 0 lo)).toArray):=by
  show ((items.toList.drop (sIx items.size 0 lo)).take (sIx items.size items.size hi - sIx items.size 0 lo)).toArray.size<=sizeLine
  rw [Bh,CI,List.length_drop,BQ];omega
 have hj:sIx items.size items.size hi<=items.size:=qP _ _ (Bq _) hi;obtain ⟨os,hos,hcs,hds⟩:=id hs;have hTs:s.TypeIs (.ref sl) "slice" := ⟨os,hos,hcs⟩;unfold getItem
 try with_reducible refine Cm ?_
 first | refine A9 (Bg ?_) | skip
 refine A9 (wpAny_sequenceKey ht.typeIs (by decide) ?_)
 refine A9 (BL (name:=Str.ofString "__getitem__") ht.typeIs PyProof.Rows.slot_tuple_getitem
  (BR PyProof.Rows.slot_tuple_getitem ht.typeIs entry_tuple_getitem ?_ (args_tuple_getitem _ _)))
 show wpAny _ _ (Builtin.Tuple.tupleItemsOf (.ref t) >>= _) _ _ s
 refine A9 (tupleItemsOf_ ht ?_);refine A9 (wpAny_typeOf hTs ?_);rw [if_pos (by decide)];refine A9 (eC hs pl pu ?_)
 have hno:¬ ((((sIx items.size 0 lo:Nat):Int) == 0&&(1:Int) == 1&&(sIx items.size items.size hi - sIx items.size 0 lo) == items.size)=true):=by
  intro q;rw [By,By] at q;have q1:((sIx items.size 0 lo:Nat):Int)=0:=eq_of_beq q.1.1;have q2:sIx items.size items.size hi - sIx items.size 0 lo=items.size:=eq_of_beq q.2;exact hw ⟨by omega,by omega⟩
 show wpAny _ _ (if (((sIx items.size 0 lo:Nat):Int) == 0&&(1:Int) == 1&&(sIx items.size items.size hi - sIx items.size 0 lo) == items.size)=true then _ else _) _ _ s
 rw [if_neg hno,wd]
 first
  | exact A9 (m:=Builtin.Tuple.tupleExact _) (BN (Bg ⟨_,rfl,Bg h⟩) htake)
  | exact A9 (m:=Builtin.Tuple.tupleExact _) (BN (A9 (Bg (Bg ⟨_,rfl,Bg h⟩))) htake)
  | exact A9 (A9 (m:=Builtin.Tuple.tupleExact _) (BN (Bg (Bg ⟨_,rfl,Bg h⟩)) htake))
  | exact A9 (A9 (m:=Builtin.Tuple.tupleExact _) (BN (Bg ⟨_,rfl,Bg h⟩) htake))
end
end HT
namespace L2
open PySem PySem.Spec PyProof.Rows
abbrev TO:=St->Hp->(Option Int->Hp->Prop)->Prop
def PO(X:Cx)(e:Option Expr)(t:TO):Prop :=
 ∀ (pins:List (Addr×Obj)) (s:Shared) (σ:St) (H:Hp) (Q:Option Int->Hp->Prop),Inv X pins σ H s->t σ H Q ->
  wpAny (model X.prog X.w) X.A (evalPart e X.env) (fun u s'=>∃ o H',Inv X pins σ H' s'/\IsPart u o/\Q o H') X.xe s
def yf:TO:=fun _ H Q=>Q none H
def tPart(t:TE):TO:=fun σ H Q=>t σ H fun x H1=>∃ i,x = .int i/\Q (some i) H1
theorem eW{ns:List Int}:∀ {us:List Value},aA (ns.map V.int) us->IntsAre us ns:=by
 induction ns with
 | nil=>intro us r;rw [CB] at r;cases r;exact .nil
 | cons n ns ih =>
  intro us r;rw [Bu] at r
  cases r with
  | cons r1 r2 =>
   obtain ⟨t,e⟩:=r1;subst e;exact .cons n t (ih r2)
section
variable{X:Cx}{e:Expr}{te:TE}{lo hi:Option Expr}{tl th:TO}{pos p2:Pos}
theorem sY:PO X none yf:=by
 intro pins s σ H Q I h;rw [evalPart_none];exact Bg ⟨none,H,I,.none,h⟩
theorem j0(h:PE X e te):PO X (some e) (tPart te):=by
 intro pins s σ H Q I hw;rw [evalPart_some]
 refine thn (h pins s σ H _ I hw) fun u s1 ⟨x,H1,I1,r1,q1⟩=> ?_
 obtain ⟨i,rfl,q⟩:=q1;obtain ⟨t,rfl⟩:=r1;exact ⟨some i,H1,I1,.int i t,q⟩
def SlR(X:Cx)(r:V->Option Int->Option Int->Hp->VK->Prop):Prop :=
 ∀ (pins:List (Addr×Obj)) (s:Shared) (σ:St) (H:Hp) (x:V) (v vl vu:Value) (lo hi:Option Int) (sl:Addr) (Q:VK),Inv X pins σ H s->az x v->s.heap.IsSliceOf sl vl vu .none->IsPart vl lo->IsPart vu hi->r x lo hi H Q ->
  ∃ T id,typeLookup (.type T) "__getitem__" = pure (some (.builtin id))/\s.TypeIs v T/\wpAny (model X.prog X.w) X.A (getItem v (.ref sl)) (EP X pins σ Q) X.xe s
theorem SlR.or{r r':V->Option Int->Option Int->Hp->VK->Prop}(h:SlR X r)(h':SlR X r'):SlR X (fun x lo hi H Q=>r x lo hi H Q\/r' x lo hi H Q):=by
 intro pins s σ H x v vl vu lo hi sl Q I rx hs pl pu q
 rcases q with q | q
 ·exact h pins s σ H x v vl vu lo hi sl Q I rx hs pl pu q
 ·exact h' pins s σ H x v vl vu lo hi sl Q I rx hs pl pu q
def tSl(r:V->Option Int->Option Int->Hp->VK->Prop)(te:TE)(tl th:TO):TE:=fun σ H Q=>te σ H fun x H1=>tl σ H1 fun l H2=>th σ H2 fun u H3=>r x l u H3 Q
theorem kN{r:V->Option Int->Option Int->Hp->VK->Prop}(hr:SlR X r)(he:PE X e te)(hl:PO X lo tl)(hu:PO X hi th):PE X (.Subscript e (.Slice lo hi none p2) pos) (tSl r te tl th):=by
 intro pins s σ H Q I h;refine Subscript_ (thn (he pins s σ H _ I h) fun v s1 ⟨x,H1,I1,r1,q1⟩=> ?_);refine wpAny_Slice (thn (hl pins s1 σ H1 _ I1 q1) fun vl s2 ⟨l,H2,I2,pl,q2⟩=>thn (hu pins s2 σ H2 _ I2 q2) fun vu s3 ⟨u,H3,I3,pu,q3⟩=> ?_);rw [evalPart_none];refine Bg ?_
 have I4:Inv X pins σ H3 { s3 with heap:=s3.heap.push { cls:= .type "slice",data:= .fields #[vl,vu,.none] } }:=I3.kept (t':=s3.toks) fun b ob q=>Ba _ q
 obtain ⟨T,id,hT,ht,hg⟩:=hr pins { s3 with heap:=s3.heap.push { cls:= .type "slice",data:= .fields #[vl,vu,.none] } } σ H3 x v vl vu l u s3.heap.objs.size Q I4 r1 (Heap.IsSliceOf.new ..) pl pu q3
 show wpAny (model X.prog X.w) X.A (subscriptTail e (.Slice lo hi none p2) v (.ref s3.heap.objs.size)) (EP X pins σ Q) X.xe { s3 with heap:=s3.heap.push { cls:= .type "slice",data:= .fields #[vl,vu,.none] } }
 exact tail_any (ops:=[.ref s3.heap.objs.size,v]) ht hT hg (by with_unfolding_all rfl)
def lP(xs:List V)(lo hi:Option Int):List V:=(xs.drop (HT.sIx xs.length 0 lo)).take (HT.sIx xs.length xs.length hi - HT.sIx xs.length 0 lo)
theorem jB(xs:List V)(lo hi:Option Int):(lP xs lo hi).length<=xs.length:=by
 unfold lP;rw [CI,List.length_drop];omega
def rSlT(K:Dy):V->Option Int->Option Int->Hp->VK->Prop:=fun x lo hi H Q=>∃ a xs,x = .ref a/\SqT K H a xs /\
 ¬ (HT.sIx xs.length 0 lo=0/\HT.sIx xs.length xs.length hi=xs.length)/\∀ p,H p=none->Q (.ref p) (upd H p (.tup (lP xs lo hi)))
theorem sl_tup:SlR X (rSlT X.K):=by
 intro pins s σ H x v vl vu lo hi sl Q I rx hs pl pu h;obtain ⟨a,xs,rfl,hx,hw,q⟩:=h;cases rx;obtain ⟨its,r,ht,hz⟩:=I.tuple hx
 have hlen:its.toArray.size=xs.length:=by rw [Bh];exact r.length.symm
 refine ⟨"tuple",_,PyProof.Rows.slot_tuple_getitem.lookup,ht.typeIs,?_⟩;refine HT.iH ht hs pl pu (by rw [hlen];exact hw) ?_ (by rw [hlen];exact hz);rw [hlen];refine ⟨.ref s.heap.objs.size,_,I.laid (t':=s.toks) (o:= .tup (lP xs lo hi)) (fun b ob q=>Ba _ q) (Bq _) ?_,rfl,q _ (I.hok.fresh (Bq _))⟩;exact ⟨Nat.le_trans (jB xs lo hi) hz,_,(r.drop (HT.sIx xs.length 0 lo)).take (HT.sIx xs.length xs.length hi - HT.sIx xs.length 0 lo),qC.new _ _⟩
def rCatT(K:Dy):R2:=fun x y H Q=>∃ a b xs ys,x = .ref a/\y = .ref b/\SqT K H a xs/\SqT K H b ys/\xs≠[]/\xs.length+ys.length<=sizeLine /\
 (ys=[]->Q (.ref a) H)/\(ys≠[]->∀ p,H p=none->Q (.ref p) (upd H p (.tup (xs++ys))))
theorem aA.nil_iff{xs:List V}{us:List Value}(r:aA xs us):us=[]↔xs=[]:=by
 cases r with
 | nil=>simp
 | cons _ _=>simp
theorem zm:OpR X (binaryOp .Add) (rCatT X.K):=by
 intro pins s σ H x y v u Q I rx ry h;obtain ⟨a,b,xs,ys,rfl,rfl,ha,hb,hx,hz,q1,q2⟩:=h;cases rx;cases ry;obtain ⟨its,r1,p1,_⟩:=I.tuple ha;obtain ⟨its2,r2,p2,_⟩:=I.tuple hb;refine HT.Ae p1 p2 (fun z=>hx (r1.nil_iff.mp z)) (fun z=>⟨.ref a,H,I,rfl,q1 (r2.nil_iff.mp z)⟩) (fun z=> ?_) (by rw [<- r1.length,<- r2.length];exact hz);refine ⟨.ref s.heap.objs.size,_,I.laid (t':=s.toks) (o:= .tup (xs++ys)) (fun b ob q=>Ba _ q) (Bq _) ?_,rfl,q2 (fun w=>z (r2.nil_iff.mpr w)) _ (I.hok.fresh (Bq _))⟩;exact ⟨by rw [Bz];exact hz,_,r1.append r2,qC.new _ _⟩
end
def ixN(n:Nat)(i:Int):Option Nat:=if 0<=i then (if i < n then some i.toNat else none) else if -(n:Int)<=i then some (i+n).toNat else none
def atI{α:Type}(xs:List α)(i:Int):Option α:=(ixN xs.length i).bind fun j=>xs[j]?
theorem tH{n:Nat}{i:Int}{j:Nat}(h:ixN n i=some j):seqIndex? i n=some j/\j < n /\ -(n:Int)<=i/\i < n:=by
 unfold ixN at h
 by_cases h0:0<=i
 ·rw [if_pos h0] at h
  by_cases h1:i < n
  ·rw [if_pos h1] at h
   have e:i.toNat=j:=Option.some.inj h;exact ⟨by rw [seqIndex_of h0 h1,e],by omega,by omega,h1⟩
  ·rw [if_neg h1] at h;cases h
 ·rw [if_neg h0] at h
  by_cases h1 : -(n:Int)<=i
  ·rw [if_pos h1] at h
   have e:(i+n).toNat=j:=Option.some.inj h;exact ⟨by rw [seqIndex_neg (by omega) h1,e],by omega,h1,by omega⟩
  ·rw [if_neg h1] at h;cases h
theorem oV{α:Type}{xs:List α}{i:Int}{v:α}(h:atI xs i=some v):∃ j,seqIndex? i xs.length=some j/\xs[j]?=some v/\j < xs.length /\ -(xs.length:Int)<=i/\i < xs.length:=by
 unfold atI at h
 cases e:ixN xs.length i with
 | none=>rw [e] at h;cases h
 | some j =>
  rw [e] at h;obtain ⟨h1,h2,h3,h4⟩:=tH e;exact ⟨j,h1,h,h2,h3,h4⟩
def oY(b:Expr):Prop:=∀ o i,subscripted b false o i=operate [o,i] (getItem o i)
def IxR(X:Cx)(r:R2):Prop :=
 ∀ (value slice:Expr) (pins:List (Addr×Obj)) (s:Shared) (σ:St) (H:Hp) (x y:V) (v u:Value) (Q:VK),Inv X pins σ H s->az x v->az y u->r x y H Q ->
  subscripted slice false v u=operate [v,u] (getItem v u)->wpAny (model X.prog X.w) X.A (subscriptTail value slice v u) (EP X pins σ Q) X.xe s
def MtR(X:Cx)(id:String)(r:V->List V->Hp->VK->Prop):Prop :=
 ∀ (pins:List (Addr×Obj)) (s:Shared) (σ:St) (H:Hp) (x:V) (xs:List V) (v:Value) (us:List Value) (Q:VK),Inv X pins σ H s->az x v->aA xs us->r x xs H Q ->
  wpAny (model X.prog X.w) X.A (call (.builtin id) (v::us)) (EP X pins σ Q) X.xe s
section
variable{X:Cx}{a b:Expr}{ta tb:TE}{pos:Pos}
theorem IxR.or{r r':R2}(h:IxR X r)(h':IxR X r'):IxR X (fun x y H Q=>r x y H Q\/r' x y H Q):=by
 intro value slice pins s σ H x y v u Q I rx ry q hs
 rcases q with q | q
 ·exact h value slice pins s σ H x y v u Q I rx ry q hs
 ·exact h' value slice pins s σ H x y v u Q I rx ry q hs
theorem AQ{r:R2}(hr:IxR X r)(ha:PE X a ta)(hb:PE X b tb)(hs:oY b):PE X (.Subscript a b pos) (tOp r ta tb):=by
 intro pins s σ H Q I h;exact Subscript_ (binT ha hb I h fun v u s2 x y H2 I2 rx ry q=>hr a b pins s2 σ H2 x y v u Q I2 rx ry q (hs _ _))
def rIxL(K:Dy):R2:=fun x y H Q=>∃ p xs i v,x = .ref p/\y = .int i/\SqL K H p xs/\atI xs i=some v/\Q v H
def rIxT(K:Dy):R2:=fun x y H Q=>∃ p xs i v,x = .ref p/\y = .int i/\SqT K H p xs/\atI xs i=some v/\Q v H
def rIxS:R2:=fun x y H Q=>∃ z i c,x = .str z/\y = .int i/\z.length<=sizeLine/\atI z.cps.toList i=some c/\Q (.str ⟨#[c]⟩) H
theorem tG:IxR X (rIxL X.K):=by
 intro value slice pins s σ H x y v u Q I rx ry h hs;obtain ⟨p,xs,i,z,rfl,rfl,hq,he,q⟩:=h;cases rx;obtain ⟨t,rfl⟩:=ry;obtain ⟨its,r,pl,hz⟩:=I.list hq;obtain ⟨j,h1,h2,h3,h4,h5⟩:=oV he;obtain ⟨w,ew,rw'⟩:=r.get h2;have hl:=r.length;have hn:=jb;have fin:EP X pins σ Q w s:=⟨z,H,I,rw',q⟩
 by_cases h0:0<=i
 ·have hj:i.toNat=j:=by
   rw [seqIndex_of h0 h5] at h1;exact Option.some.inj h1
  exact item_listR pl.isList h0 (by omega) (by rw [hj];simpa using ew) fin hs
 ·have hj:(i+(its.toArray.size:Int)).toNat=j:=by
   rw [seqIndex_neg (by omega) h4] at h1;rw [Bh,<- hl];exact Option.some.inj h1
  exact subscriptTail_builtinR (x:=w) pl.isList.typeIs slot_list_getitem.lookup
   (wpAny_getItem_list_neg (Q:=fun r s'=>r=w/\EP X pins σ Q r s') pl.isList (by omega) (by rw [Bh]<;>omega) (by omega) (by rw [hj];simpa using ew) ⟨rfl,fin⟩) hs
theorem ix_tup:IxR X (rIxT X.K):=by
 intro value slice pins s σ H x y v u Q I rx ry h hs;obtain ⟨p,xs,i,z,rfl,rfl,hq,he,q⟩:=h;cases rx;obtain ⟨t,rfl⟩:=ry;obtain ⟨its,r,pl,hz⟩:=I.tuple hq;obtain ⟨j,h1,h2,h3,h4,h5⟩:=oV he;obtain ⟨w,ew,rw'⟩:=r.get h2;have hl:=r.length;have hn:=jb;have fin:EP X pins σ Q w s:=⟨z,H,I,rw',q⟩
 exact subscriptTail_builtinR (x:=w) pl.typeIs slot_tuple_getitem.lookup
  (getItem_tuple (j:=j) (Q:=fun r s'=>r=w/\EP X pins σ Q r s') pl (by omega) (by omega) (by rw [Bh,<- hl];exact h1) (by simpa using ew) ⟨rfl,fin⟩) hs
theorem ix_str:IxR X rIxS:=by
 intro value slice pins s σ H x y v u Q I rx ry h hs;obtain ⟨z,i,c,rfl,rfl,hz,he,q⟩:=h;obtain ⟨t,rfl⟩:=rx;obtain ⟨t',rfl⟩:=ry;obtain ⟨j,h1,h2,h3,h4,h5⟩:=oV he
 have hl:z.cps.toList.length=z.length:=by simp [Str.length]
 rw [hl] at h1 h4 h5;have hn:=jb
 exact tail_any (typeIs_str s z t) slot_str_getitem.lookup (getItem_str (c:=c) (by
  have e1:decide (i < -(2 ^ 63:Int))=false:=Br (by omega);have e2:decide (i>=2 ^ 63)=false:=Br (by omega)
  rw [e1,e2,C3]) (by rw [h1];simpa using h2) ⟨.str ⟨#[c]⟩,H,I.tok _,⟨_,rfl⟩,q⟩) hs
def rIx(K:Dy):R2:=fun x y H Q=>rIxL K x y H Q\/rIxT K x y H Q\/rIxS x y H Q
theorem ix_seq:IxR X (rIx X.K):=tG.or (ix_tup.or ix_str)
theorem rm(its:List Value)(n j:Nat)(u:Value):Obj.mapSeq (·.setIfInBounds j u) { cls:= .type "list",data:= .seq its.toArray n }={ cls:= .type "list",data:= .seq (its.set j u).toArray n }:=by
 simp [Obj.mapSeq]
theorem Inv.lst{pins:List (Addr×Obj)}{σ:St}{H:Hp}{s:Shared}{p:Addr}{xs:List V}(I:Inv X pins σ H s)(h:H p=some (.lst xs)) :
 ∃ (its:List Value) (n:Nat),aA xs its/\s.heap.get? p=some { cls:= .type "list",data:= .seq its.toArray n }/\xs.length<=sizeLine:=by
 obtain ⟨z,its,n,r,e⟩:=I.hok p _ h;exact ⟨its,n,r,e,z⟩
theorem Inv.lstUpd{pins:List (Addr×Obj)}{σ:St}{H:Hp}{s:Shared}{p:Addr}{xs ys:List V}{its its':List Value}{n n':Nat}{f:Obj->Obj}(I:Inv X pins σ H s)(h:H p=some (.lst xs))
 (ho:s.heap.get? p=some { cls:= .type "list",data:= .seq its.toArray n }) (hf:f { cls:= .type "list",data:= .seq its.toArray n }={ cls:= .type "list",data:= .seq its'.toArray n' }) (r:aA ys its') (hz:ys.length<=sizeLine) (t:Nat) :
 Inv X pins σ (upd H p (.lst ys)) { s with heap:=s.heap.update p f,toks:=t }:=by
 have e:(s.heap.update p f).get? p=some { cls:= .type "list",data:= .seq its'.toArray n' }:=by
  rw [Ca f ho (by rw [hf]<;>rfl),hf]
 refine I.write (x:=p) (e:=p) (by rw [h];trivial) (.inl rfl) (fun b u hb q=>(CJ _ _ (Ne.symm hb)).trans q) ⟨_,e⟩ ?_;exact ⟨hz,its',n',r,e⟩
def AF:V->V->V->Hp->(Hp->Prop)->Prop:=fun o i v H Q=>∃ p xs k j,o = .ref p/\i = .int k/\H p=some (.lst xs)/\ixN xs.length k=some j/\Q (upd H p (.lst (xs.set j v)))
theorem vI:PSet X AF:=by
 intro pins s σ H o i v ov iv u Q I ro ri rv h;obtain ⟨p,xs,k,j,rfl,rfl,hp,hj,q⟩:=h;cases ro;obtain ⟨t,rfl⟩:=ri;obtain ⟨its,n,r,ho,hz⟩:=I.lst hp;obtain ⟨h1,h2,h3,h4⟩:=tH hj;have hl:=r.length;have hn:=jb
 have I':Inv X pins σ (upd H p (.lst (xs.set j v))) { s with heap:=s.heap.update p (Obj.mapSeq (·.setIfInBounds j u)) } :=
  I.lstUpd hp ho (rm its n j u) (r.set rv j) (by rw [B3];exact hz) s.toks
 by_cases h0:0<=k
 ·have hk:k.toNat=j:=by
   rw [seqIndex_of h0 h4] at h1;exact Option.some.inj h1
  exact PySem.W.ki_setAt ho h0 (by omega) (by rw [Bh,<- hl];exact h4) (by rw [hk];exact ⟨_,I',q⟩)
 ·have hk:(k+(its.toArray.size:Int)).toNat=j:=by
   rw [seqIndex_neg (by omega) h3] at h1;rw [Bh,<- hl];exact Option.some.inj h1
  exact PySem.W.ki_setBack ho (by omega) (by rw [Bh,<- hl];exact h3) (by omega) (by rw [hk];exact ⟨_,I',q⟩)
theorem nL(lo hi:Option Int)(n:Nat):(sliceBounds lo hi none n).1=((HT.sIx n 0 lo:Nat):Int)/\(sliceBounds lo hi none n).2.1=((HT.sIx n n hi:Nat):Int)/\(sliceBounds lo hi none n).2.2=1:=by
 refine ⟨?_,?_,rfl⟩
 ·cases lo with
  | none=>simp [sliceBounds,HT.sIx]
  | some i =>
   simp only [sliceBounds,HT.sIx,Option.getD_none,show (1:Int) > 0 by decide,if_true]
   by_cases h:i < 0
   ·simp only [h,if_true]<;>omega
   ·simp only [h,if_false]<;>omega
 ·cases hi with
  | none=>simp [sliceBounds,HT.sIx]
  | some i =>
   simp only [sliceBounds,HT.sIx,Option.getD_none,show (1:Int) > 0 by decide,if_true]
   by_cases h:i < 0
   ·simp only [h,if_true]<;>omega
   ·simp only [h,if_false]<;>omega
theorem mf(its:List Value)(lo hi:Option Int):slicePick its.toArray lo hi none=((its.drop (HT.sIx its.length 0 lo)).take (HT.sIx its.length its.length hi - HT.sIx its.length 0 lo)).toArray:=by
 obtain ⟨h1,h2,h3⟩:=nL lo hi its.toArray.size;unfold slicePick;rw [h1,h2,h3]
 simp only [sliceRange_one,pick_run,Bh]<;>rfl
def rSlL(K:Dy):V->Option Int->Option Int->Hp->VK->Prop:=fun x lo hi H Q=>∃ a xs,x = .ref a/\SqL K H a xs/\∀ p,H p=none->Q (.ref p) (upd H p (.lst (lP xs lo hi)))
theorem yo:SlR X (rSlL X.K):=by
 intro pins s σ H x v vl vu lo hi sl Q I rx hs pl pu h;obtain ⟨a,xs,rfl,hx,q⟩:=h;cases rx;obtain ⟨its,r,ht,hz⟩:=I.list hx;have hlen:=r.length;refine ⟨"list",_,slot_list_getitem.lookup,ht.isList.typeIs,?_⟩;refine wpAny_getItem_list_slice ht.isList hs pl pu .none (by simp) ?_ (by rw [Bh]<;>omega);rw [mf,<- hlen];refine ⟨.ref s.heap.objs.size,_,I.laid (t':=s.toks) (o:= .lst (lP xs lo hi)) (fun b ob q=>Ba _ q) (Bq _) ?_,rfl,q _ (I.hok.fresh (Bq _))⟩;exact ⟨Nat.le_trans (jB xs lo hi) hz,_,0,(r.drop (HT.sIx xs.length 0 lo)).take (HT.sIx xs.length xs.length hi - HT.sIx xs.length 0 lo),Bm _ rfl⟩
def fh:V->Bool
 | .non=>true
 | .bl _=>true
 | .int _=>true
 | .str _=>true
 | _=>false
def eqV:V->V->Bool
 | .non,.non=>true
 | .bl a,.bl b=>a == b
 | .bl a,.int b=>(if a then 1 else 0) == b
 | .int a,.bl b=>a == (if b then 1 else 0)
 | .int a,.int b=>a == b
 | .str a,.str b=>a == b
 | _,_=>false
theorem eqAt_V{A:Around}{s:Shared}{y x:V}{u v:Value}(ry:az y u)(rx:az x v)(fy:fh y=true)(fx:fh x=true):SeqAt.EqAt A s u v (eqV y x):=by
 cases y with
 | non =>
  cases ry
  cases x with
  | non=>cases rx;exact SeqAt.EqAt.same _
  | bl b=>cases rx;exact SeqAt.EqAt.none_bool b
  | int b=>obtain ⟨t,rfl⟩:=rx;exact SeqAt.EqAt.none_int b t
  | str b=>obtain ⟨t,rfl⟩:=rx;exact SeqAt.EqAt.none_str b t
  | _=>exact absurd (show false=true from fx) Bo
 | bl a =>
  cases ry
  cases x with
  | non=>cases rx;exact SeqAt.EqAt.bool_none a
  | bl b=>cases rx;exact SeqAt.EqAt.bool_bool a b
  | int b=>obtain ⟨t,rfl⟩:=rx;exact SeqAt.EqAt.bool_int a b t
  | str b=>obtain ⟨t,rfl⟩:=rx;exact SeqAt.EqAt.bool_str a b t
  | _=>exact absurd (show false=true from fx) Bo
 | int a =>
  obtain ⟨t',rfl⟩:=ry
  cases x with
  | non=>cases rx;exact SeqAt.EqAt.int_none a t'
  | bl b=>cases rx;exact SeqAt.EqAt.int_bool a t' b
  | int b=>obtain ⟨t,rfl⟩:=rx;exact SeqAt.EqAt.int_int a t' b t
  | str b=>obtain ⟨t,rfl⟩:=rx;exact SeqAt.EqAt.int_str a t' b t
  | _=>exact absurd (show false=true from fx) Bo
 | str a =>
  obtain ⟨t',rfl⟩:=ry
  cases x with
  | non=>cases rx;exact SeqAt.EqAt.str_none a t'
  | bl b=>cases rx;exact SeqAt.EqAt.str_bool a t' b
  | int b=>obtain ⟨t,rfl⟩:=rx;exact SeqAt.EqAt.str_int a t' b t
  | str b=>obtain ⟨t,rfl⟩:=rx;exact SeqAt.EqAt.str_str a t' b t
  | _=>exact absurd (show false=true from fx) Bo
 | _=>exact absurd (show false=true from fy) Bo
def eqU(x:V)(u:Value):Bool:=match u with
 | .none=>eqV .non x
 | .bool b=>eqV (.bl b) x
 | .int i _=>eqV (.int i) x
 | .str z _=>eqV (.str z) x
 | _=>false
theorem rL{x y:V}{u:Value}(r:az y u)(f:fh y=true):eqU x u=eqV y x:=by
 cases y with
 | non=>cases r;rfl
 | bl b=>cases r;rfl
 | int i=>obtain ⟨t,rfl⟩:=r;rfl
 | str z=>obtain ⟨t,rfl⟩:=r;rfl
 | _=>exact absurd (show false=true from f) Bo
theorem kY{A:Around}{s:Shared}{x:V}{v:Value}(rx:az x v)(fx:fh x=true):∀ {xs:List V} {us:List Value},aA xs us->xs.all fh=true->∀ u∈us,SeqAt.EqAt A s u v (eqU x u)
 | _,_,.nil,_=>fun u hu=>by cases hu
 | y::xs,u::us,.cons r t,f=>fun u' hu=>by
  rw [Dj,By] at f
  rcases Bp.mp hu with rfl | hu
  ·rw [rL r f.1];exact eqAt_V r rx f.1 fx
  ·exact kY rx fx t f.2 u' hu
theorem oR:aJ X (.builtin "len") (fun xs H Q=>∃ p ys,xs=[.ref p]/\(SqL X.K H p ys\/SqT X.K H p ys)/\Q (.int ys.length) H):=by
 intro pins s σ H xs us Q I r h;obtain ⟨p,ys,rfl,hq,q⟩:=h;obtain ⟨u,rfl,rx⟩:=bV r;cases rx;have hn:=jb
 rcases hq with hq | hq
 ·obtain ⟨its,r',pl,hz⟩:=I.list hq
  have hlen:=r'.length;exact Calls.call_len_list pl.isList (by simp only [Bh]<;>omega) ⟨.int ys.length,H,I.tok _,⟨s.toks+1,by rw [Bh,hlen]⟩,q⟩
 ·obtain ⟨its,r',pl,hz⟩:=I.tuple hq
  have hlen:=r'.length;exact len_tuple pl (by simp only [Bh]<;>omega) ⟨.int ys.length,H,I.tok _,⟨s.toks+1,by rw [Bh,hlen]⟩,q⟩
theorem aJ.or{f:Value}{r r':List V->Hp->VK->Prop}(h:aJ X f r)(h':aJ X f r'):aJ X f (fun xs H Q=>r xs H Q\/r' xs H Q):=by
 intro pins s σ H xs us Q I rs q
 rcases q with q | q
 ·exact h pins s σ H xs us Q I rs q
 ·exact h' pins s σ H xs us Q I rs q
theorem oQ:aJ X (.type "list") (fun xs H Q=>∃ p ys,xs=[.ref p]/\(SqL X.K H p ys\/SqT X.K H p ys)/\∀ l,H l=none->Q (.ref l) (upd H l (.lst ys))):=by
 intro pins s σ H xs us Q I r h;obtain ⟨p,ys,rfl,hq,q⟩:=h;obtain ⟨u,rfl,rx⟩:=bV r;cases rx
 have fin:∀ (its:List Value),aA ys its->ys.length<=sizeLine->∀ (h':Heap) (c':Nat),(∀ b o',s.heap.get? b=some o'->h'.get? b=some o') ->
  h'.get? s.heap.objs.size=some { cls:= .type "list",dict:=none,data:= .seq its.toArray c',slots := #[] }->EP X pins σ Q (.ref s.heap.objs.size) { s with heap:=h' }:=fun its r' hz h' c' kp e =>
  ⟨.ref s.heap.objs.size,_,I.laid (t':=s.toks) kp (Bq _) (show bB X.prog X.w _ h' _ (.lst ys) from ⟨hz,its,c',r',e⟩),rfl,q _ (I.hok.fresh (Bq _))⟩
 rcases hq with hq | hq
 ·obtain ⟨its,r',pl,hz⟩:=I.list hq
  have hlen:=r'.length;obtain ⟨o,ho,hc,n,hd⟩:=pl.isList;exact call_list_seq p (.inl rfl) ho hc hd (fun h' c' kp e=>fin its r' hz h' c' kp e) (by simp only [Bh]<;>omega)
 ·obtain ⟨its,r',pl,hz⟩:=I.tuple hq
  have hlen:=r'.length;obtain ⟨o,ho,hc,n,hd⟩:=pl;exact call_list_seq p (.inr rfl) ho hc hd (fun h' c' kp e=>fin its r' hz h' c' kp e) (by simp only [Bh]<;>omega)
theorem mB:aJ X (.type "tuple") (fun xs H Q=>∃ p ys,xs=[.ref p]/\((SqL X.K H p ys/\∀ l,H l=none->Q (.ref l) (upd H l (.tup ys)))\/(SqT X.K H p ys/\Q (.ref p) H))):=by
 intro pins s σ H xs us Q I r h;obtain ⟨p,ys,rfl,h⟩:=h;obtain ⟨u,rfl,rx⟩:=bV r;cases rx
 rcases h with ⟨hq,q⟩ | ⟨hq,q⟩
 ·obtain ⟨its,r',pl,hz⟩:=I.list hq
  have hlen:=r'.length;refine call_tuple_list pl.isList (fun h' kp=> ?_) (by simp only [Bh]<;>omega);have I1:Inv X pins σ H { s with heap:=h' }:=I.kept (t':=s.toks) kp
  have I2:Inv X pins σ (upd H h'.objs.size (.tup ys)) { s with heap:=h'.push { cls:= .type "tuple",data:= .seq its.toArray } } :=
   I1.laid (t':=s.toks) (fun b o e=>Ba _ e) (Bq _) (show bB X.prog X.w _ _ _ (.tup ys) from ⟨hz,its,r',qC.new _ _⟩)
  exact ⟨.ref h'.objs.size,_,I2,rfl,q _ (I1.hok.fresh (Bq _))⟩
 ·obtain ⟨its,r',pl,hz⟩:=I.tuple hq
  exact call_tuple_same pl ⟨.ref p,H,I,rfl,q⟩
def tyV(K:Dy)(T:String)(x:V)(H:Hp):Prop:=match x with
 | .str _=>T = "str"
 | .int _=>T = "int"
 | .ref p=>(T = "list" /\ ∃ xs,SqL K H p xs)\/(T = "tuple" /\ ∃ o,K.lookup p=some o/\o.cls = .type "tuple" /\ o.dict=none) \/
  (T = "dict" /\ ((∃ kvs,H p=some (.dK kvs))\/∃ kvs,H p=some (.dT kvs)))\/(T = "set" /\ ∃ S n,H p=some (.set S n))
 | _=>False
theorem vw{pins:List (Addr×Obj)}{σ:St}{H:Hp}{s:Shared}{T:String}{x:V}{v:Value}(I:Inv X pins σ H s)(r:az x v)(ty:tyV X.K T x H) :
 s.TypeIs v T/\∀ a,v = .ref a->∃ ob,s.heap.get? a=some ob/\ob.dict=none:=by
 cases x with
 | str z =>
  obtain ⟨t,rfl⟩:=r;cases (show T = "str" from ty);exact ⟨typeIs_str s z t,fun _ e=>nomatch e⟩
 | int i =>
  obtain ⟨t,rfl⟩:=r;cases (show T = "int" from ty);exact ⟨typeIs_int s i t,fun _ e=>nomatch e⟩
 | ref p =>
  cases r
  rcases ty with ⟨rfl,xs,hq⟩ | ⟨rfl,o,hk,hc,hd⟩ | ⟨rfl,hk⟩ | ⟨rfl,S,n,hk⟩
  ·obtain ⟨its,_,pl,_⟩:=I.list hq
   refine ⟨pl.isList.typeIs,fun a e=> ?_⟩;cases e;obtain ⟨o,n,e,c,hd,_⟩:=pl;exact ⟨o,e,hd⟩
  ·refine ⟨⟨o,I.kIn p o hk,hc⟩,fun a e=> ?_⟩
   cases e;exact ⟨o,I.kIn _ o hk,hd⟩
  ·have z:∃ o,s.heap.get? p=some o/\o.ExactDict:=by
    rcases hk with ⟨kvs,hk⟩ | ⟨kvs,hk⟩
    ·obtain ⟨_,_,_,_,o,_,_,e,ex,_⟩:=I.hok p _ hk
     exact ⟨o,e,ex⟩
    ·obtain ⟨_,_,_,_,o,_,_,e,ex,_⟩:=I.hok p _ hk
     exact ⟨o,e,ex⟩
   obtain ⟨o,e,ex⟩:=z;refine ⟨⟨o,e,ex.1⟩,fun a e2=> ?_⟩;cases e2;exact ⟨o,e,ex.2.1⟩
  ·obtain ⟨o,_,_,_,e,ex,_⟩:=I.hok p _ hk
   refine ⟨⟨o,e,ex.1⟩,fun a e2=> ?_⟩;cases e2;exact ⟨o,e,ex.2.1⟩
 | _=>exact False.elim ty
def tBM0(K:Dy)(T:String)(r:V->List V->Hp->VK->Prop)(to:TE):TE:=fun σ H Q=>to σ H fun x H1=>tyV K T x H1/\r x [] H1 Q
def tBM(K:Dy)(T:String)(r:V->List V->Hp->VK->Prop)(to:TE)(t:TA):TE:=fun σ H Q=>to σ H fun x H1=>tyV K T x H1/\t σ H1 fun xs H2=>r x xs H2 Q
variable{o e:Expr}{es:List Expr}{to:TE}{t:TA}{name:Str}{apos cpos:Pos}{T id:String}{r:V->List V->Hp->VK->Prop}
theorem pe_bm0(pa:PlainAttrs T)(slot:Slot T name id)(hty:typeOf (.builtin id)=pure (.type "method_descriptor"))(hm:MtR X id r)(ho:PE X o to)
 (hbase:attributeBase o name X.env (eval o X.env)=eval o X.env:=by rfl) (hline:(apos.endLine == cpos.line)=true:=by rfl):PE X (.Call (.Attribute o name apos) [] [] cpos) (tBM0 X.K T r to):=by
 intro pins s σ H Q I h;refine wpAny_Call_method0_late hbase hline (thn (ho pins s σ H _ I h) fun v s1 ⟨x,H1,I1,r1,ty,q1⟩=> ?_);obtain ⟨h1,h2⟩:=vw I1 r1 ty;exact ⟨T,id,pa,slot,hty,h1,h2,Calls.callWith_builtin rfl (PySem.evalArgs_none (hm pins s1 σ H1 x [] v [] Q I1 r1 .nil q1))⟩
theorem s0(pa:PlainAttrs T)(slot:Slot T name id)(hty:typeOf (.builtin id)=pure (.type "method_descriptor"))(hm:MtR X id r)(ho:PE X o to)(ha:PA X (e::es) t)
 (hbase:attributeBase o name X.env (eval o X.env)=eval o X.env:=by rfl)
 (hfew:((backTo cpos (starEach (e::es) X.env)).all (fun x => !x.1)&&(backToKw cpos (keywordEach [] X.env)).all (fun x=>x.1.isSome)
   && decide ((e::es).length+([]:List Keyword).length+(if ([]:List Keyword).isEmpty then 0 else 1) < 30))=true:=by rfl)
 (hline:(apos.endLine == cpos.line)=true:=by rfl) (hs:starEach (e::es) X.env=(false,eval e X.env)::starEach es X.env:=by rfl) (hplain:(backTo cpos (starEach es X.env)).any (·.1)=false:=by rfl) :
 PE X (.Call (.Attribute o name apos) (e::es) [] cpos) (tBM X.K T r to t):=by
 intro pins s σ H Q I h;refine wpAny_Call_method_late hbase hfew hline rfl (thn (ho pins s σ H _ I h) fun v s1 ⟨x,H1,I1,r1,ty,q1⟩=> ?_);obtain ⟨h1,h2⟩:=vw I1 r1 ty;refine ⟨T,id,pa,slot,hty,h1,h2,?_⟩;have hA:=ha cpos pins s1 σ H1 _ I1 q1;rw [hs] at hA ⊢;refine Calls.callWith_builtin (by show (false||(backTo cpos (starEach es X.env)).any (·.1))=false;rw [hplain]<;>rfl) (Calls.evalArgs_plain ?_)
 exact thn hA fun us s2 ⟨vs,H2,I2,r2,q2⟩=>hm pins s2 σ H2 x vs v us Q I2 r1 r2 q2
end
def MtM(X:Cx)(id:String)(r:V->List V->Hp->VK->Prop):Prop :=
 ∀ (pins:List (Addr×Obj)) (s:Shared) (σ:St) (H:Hp) (x:V) (xs:List V) (v:Value) (us:List Value) (Q:VK),Inv X pins σ H s->az x v->aA xs us->r x xs H Q ->
  wpAny (model X.prog X.w) X.A (call (.builtin id) (v::us)) (EP X pins σ Q) X.xe s
theorem aA.one:∀ {x:V} {us:List Value},aA [x] us->∃ u,us=[u]/\az x u
 | _,_,.cons r .nil=>⟨_,rfl,r⟩
theorem aA.rep{xs:List V}{us:List Value}(h:aA xs us):∀ k:Nat,aA (List.replicate k xs).flatten (List.replicate k us).flatten
 | 0=> .nil
 | k+1=>by
  rw [B7,B7,Cy,Cy];exact aA.append h (aA.rep h k)
theorem gB(its:List Value):∀ (k:Nat) (acc:List Value),
 List.foldl (fun x1 x2=>x1++x2) acc.toArray (List.replicate k its.toArray)=(acc++(List.replicate k its).flatten).toArray
 | 0,acc=>by simp
 | k+1,acc=>by
  have e:acc.toArray++its.toArray=(acc++its).toArray:=by simp
  have e2:(acc++its)++(List.replicate k its).flatten=acc++(List.replicate (k+1) its).flatten:=by
   rw [B7,Cy,C6]
  rw [<- e2,<- gB its k (acc++its),<- e,B7,List.foldl_cons]
section
variable{X:Cx}{pins:List (Addr×Obj)}{σ:St}{H:Hp}{s:Shared}{l b:Addr}{xs ys zs:List V}
theorem Inv.lset{its its':List Value}{n:Nat}{f:Array Value->Array Value}{t':Nat}(I:Inv X pins σ H s)(hH:H l=some (.lst xs))
 (e:s.heap.get? l=some { cls:= .type "list",data:= .seq its.toArray n }) (hf:f its.toArray=its'.toArray) (hv:aA ys its') (hz:ys.length<=sizeLine) :
 Inv X pins σ (upd H l (.lst ys)) { s with heap:=s.heap.update l (Obj.mapSeq f),toks:=t' }:=by
 have q:=PySem.IsL.update e f;rw [hf] at q;refine I.write (x:=l) (e:=l) (by rw [hH];exact trivial) (.inl rfl) (fun b' u hb hu=>(CJ s.heap (Obj.mapSeq f) (Ne.symm hb)).trans hu) ⟨_,q⟩ ?_;exact ⟨hz,its',_,hv,q⟩
theorem Inv.lnew{its:List Value}{t':Nat}(I:Inv X pins σ H s)(hv:aA ys its)(hz:ys.length<=sizeLine) :
 Inv X pins σ (upd H s.heap.objs.size (.lst ys)) { s with heap:=s.heap.push { cls:= .type "list",data:= .seq its.toArray },toks:=t' } :=
 I.laid (fun _ _ q=>Ba _ q) (Bq _) ⟨hz,its,0,hv,Bm _ rfl⟩
theorem Inv.fresh(I:Inv X pins σ H s):H s.heap.objs.size=none:=I.hok.fresh (Bq _)
theorem Inv.lstM(I:Inv X pins σ H s)(hH:H l=some (.lst xs)):xs.length<=sizeLine/\∃ (its:List Value) (n:Nat),aA xs its/\xs.length=its.length/\s.heap.get? l=some { cls:= .type "list",data:= .seq its.toArray n }:=by
 obtain ⟨z,its,n,r,e⟩:=I.hok l _ hH;exact ⟨z,its,n,r,r.length,e⟩
theorem kU{n:Nat}(h:n<=sizeLine):Builtin.List.listTooLong n=false:=by
 unfold Builtin.List.listTooLong;exact Br (by omega)
end
section
variable{X:Cx}
def yM:V->List V->Hp->VK->Prop:=fun x vs H Q=>∃ l xs y,x = .ref l/\vs=[y]/\H l=some (.lst xs)/\xs.length < sizeLine/\Q .non (upd H l (.lst (xs++[y])))
theorem uw:MtM X "list.append" yM:=by
 intro pins s σ H x vs v us Q I rx rv h;obtain ⟨l,xs,y,rfl,rfl,hH,hz,q⟩:=h;cases rx;obtain ⟨u,rfl,ru⟩:=rv.one;obtain ⟨z,its,n,r,hl,e⟩:=I.lstM hH;refine call_meets F.slot_list_append ⟨_,e,rfl⟩ F.entry_list_append (F.args_list_append_2 _ _) (PySem.list_append l its.toArray n u (by rw [Bh];omega)) ⟨e,?_⟩;refine ⟨.non,_,I.lset (its':=its++[u]) hH e (by simp) (r.append (.cons ru .nil)) ?_,rfl,q⟩;rw [Bz,List.length_singleton];omega
def sU:V->List V->Hp->VK->Prop:=fun x vs H Q=>∃ l b xs zs,x = .ref l/\vs=[.ref b]/\H l=some (.lst xs)/\H b=some (.lst zs)/\xs.length+zs.length<=sizeLine/\Q .non (upd H l (.lst (xs++zs)))
theorem uv:MtM X "list.extend" sU:=by
 intro pins s σ H x vs v us Q I rx rv h;obtain ⟨l,b,xs,zs,rfl,rfl,hH,hB,hz,q⟩:=h;cases rx;obtain ⟨u,rfl,ru⟩:=rv.one;cases ru;obtain ⟨z,its,n,r,hl,e⟩:=I.lstM hH;obtain ⟨z2,its2,n2,r2,hl2,e2⟩:=I.lstM hB
 have hsz:its.toArray.size+its2.toArray.size<=sizeLine:=by rw [Bh,Bh];omega
 have hlong:¬ (!its.toArray.isEmpty&&Builtin.List.listTooLong (its.toArray.size+its2.toArray.size))=true:=by
  rw [kU hsz,BS];exact Bo
 refine call_meets F.slot_list_extend ⟨_,e,rfl⟩ F.entry_list_extend (F.args_list_extend_2 _ _)
  (AutoSeq1.list_extend_list_list_0 l its.toArray n b its2.toArray n2 hlong (by rw [Bh];omega) (by omega)) ⟨e,e2,?_⟩
 refine ⟨.non,_,I.lset (its':=its++its2) hH e (by simp) (r.append r2) ?_,rfl,q⟩;rw [Bz];omega
def rCat:R2:=fun x y H Q=>∃ l b xs zs,x = .ref l/\y = .ref b/\H l=some (.lst xs)/\H b=some (.lst zs)/\xs.length+zs.length<=sizeLine/\∀ p,H p=none->Q (.ref p) (upd H p (.lst (xs++zs)))
theorem wD:OpR X (binaryOp .Add) rCat:=by
 intro pins s σ H x y v u Q I rx ry h;obtain ⟨l,b,xs,zs,rfl,rfl,hH,hB,hz,q⟩:=h;cases rx;cases ry;obtain ⟨z,its,n,r,hl,e⟩:=I.lstM hH;obtain ⟨z2,its2,n2,r2,hl2,e2⟩:=I.lstM hB;refine PySem.P.add_list e e2 ?_ (by rw [Bh,Bh];omega)
 have ea:its.toArray++its2.toArray=(its++its2).toArray:=by simp
 rw [ea];exact ⟨.ref _,_,I.lnew (t':=s.toks) (r.append r2) (by rw [Bz];omega),rfl,q _ I.fresh⟩
def yK:R2:=fun x y H Q=>∃ l k xs,x = .ref l/\y = .int k/\H l=some (.lst xs) /\ -(2 ^ 63)<=k/\k < 2 ^ 63/\xs.length * k.toNat<=sizeLine /\
 ∀ p,H p=none->Q (.ref p) (upd H p (.lst (List.replicate k.toNat xs).flatten))
theorem ou{α:Type}(xs:List α)(k:Nat):(List.replicate k xs).flatten.length=k * xs.length:=by
 induction k with
 | zero=>simp
 | succ k ih=>rw [B7,Cy,Bz,ih,Nat.succ_mul,Nat.add_comm]
theorem op_rep:OpR X (binaryOp .Mult) yK:=by
 intro pins s σ H x y v u Q I rx ry h;obtain ⟨l,k,xs,rfl,rfl,hH,h1,h2,hz,q⟩:=h;cases rx;obtain ⟨t,rfl⟩:=ry;obtain ⟨z,its,n,r,hl,e⟩:=I.lstM hH
 have hlen:its.toArray.size * k.toNat<=sizeLine:=by rw [Bh,<- hl];exact hz
 have hcap:¬ its.toArray.size * k.toNat > (2 ^ 63 - 1) / 8:=by
  have:(sizeLine:Nat)<=(2 ^ 63 - 1) / 8:=by decide
  omega
 have hfit:¬ (!Builtin.List.listFitsIndex k)=true:=by
  rw [fitsIndex_both h1 h2];exact Bo
 have hlong:¬ Builtin.List.listTooLong (its.toArray.size * k.toNat)=true:=by
  rw [kU hlen];exact Bo
 have hnew:List.foldl (fun x1 x2=>x1++x2) #[] (List.replicate (if its.toArray.isEmpty=true then 0 else k.toNat) its.toArray)=(List.replicate k.toNat its).flatten.toArray:=by
  have f0:∀ m:Nat,List.foldl (fun x1 x2=>x1++x2) #[] (List.replicate m its.toArray)=(List.replicate m its).flatten.toArray:=fun m=>by
   have:=gB its m [];rw [BX] at this;exact this
  rw [f0]
  cases its with
  | nil=>simp
  | cons a r'=>rw [if_neg (by simp)]
 refine wpAny_binaryOp_repeat_ref (T := "list") (U := "int") (by decide) ⟨_,e,rfl⟩ (fun s'=>typeIs_int s' k t) noFill_list_mul F.fills_int_mul F.slot_int_rmul repeat_list F.slot_int_index.lookup
  (call_meets F.slot_int_rmul (typeIs_int s k t) F.entry_int_rmul (F.args_int_rmul_2 _ _) (int___rmul___int_list k t l its.toArray n)
    ⟨e,rfl,⟨_,e,rfl⟩,call_meets F.slot_list_mul ⟨_,e,rfl⟩ F.entry_list_mul (F.args_list_mul_2 _ _) (AutoListH.list___mul___list_int_3 l its.toArray n k t hfit hcap hlong) ⟨e,?_⟩⟩)
 rw [hnew];exact ⟨.ref _,_,I.lnew (t':=s.toks) (r.rep k.toNat) (by rw [ou,Nat.mul_comm];exact hz),rfl,q _ I.fresh⟩
end
section
variable{prog:Program}{w:World}{A:Around}{E:Value->Shared->Prop}{s:Shared}
end
section
variable{X:Cx}
end
end L2
namespace Att
open PySem PySem.W PySem.Calls PyProof.Rows
theorem jS{P:Params}{h:Heap}:∀ (ns:List Int) (vs:List Value),WellAll P h vs (ns.map WData.int)->IntsAre vs ns:=by
 intro ns
 induction ns with
 | nil =>
  intro vs w;rw [CB] at w;cases w;exact .nil
 | cons n ns ih =>
  intro vs w;rw [Bu] at w
  cases w with
  | cons a b =>
   cases a;exact .cons _ _ (ih _ b)
theorem ub{l:OpenLaw}{n:Nat}(hn:l.most=some n){P:Params}{h:Heap}{args:List WData}{vals:List Value}
 (hpre:l.row.toRowW.claim.pre args=true) (hwl:WellAll P h vals args) :
 ∃ a vs ns,vals=[Value.ref a]/\args=[WData.list (ns.map WData.int)]/\h.get? a=some { cls:= .type "list",data:= .seq vs.toArray }/\IntsAre vs ns/\ns.length<=n:=by
 have hsh:WShape.hasAll [] args [.list .int]=true:=(pre_splitW hpre).1;have hc:l.pre.holds [] { args:=args }=true:=(pre_splitW hpre).2;obtain ⟨d,r,rfl,h1,h2⟩:=hasAllW_cons hsh;obtain rfl:=hasAllW_nil h2;obtain ⟨xs,rfl,h3⟩:=hasW_list h1;obtain ⟨ns,rfl⟩:=items_int h3
 have hlen:ns.length<=n:=by
  unfold OpenLaw.pre at hc
  have h4:(WTm.not (.lt (.lit (.int (n:Int))) (.len (.arg 0)))).holds [] { args:=[.list (ns.map .int)] }=true:=by
   have h4:=(holds_andW hc).1;rw [hn] at h4;exact h4
  have h5:=condW_of h4 (w_not (w_lt w_lit (w_len_list (w_arg rfl))));rw [Be] at h5
  refine Nat.le_of_not_lt fun q=> ?_
  have q':(n:Int) < ((ns.length:Nat):Int):=by omega
  first
   | (rw [Bl q'] at h5;exact absurd h5 (by decide))
   | (simp at h5;omega)
 cases hwl with
 | cons w1 w2 =>
  cases w2
  cases w1 with
  | list ho hall=>exact ⟨_,_,ns,rfl,rfl,ho,jS ns _ hall,hlen⟩
theorem uj(l:OpenLaw)(args:List WData):l.row.toRowW.claim.post args (.bool true) args=true :=
 postW_of (r:=l.row.toRowW) (X:=(true == true))
  (show WShape.has [] (.bool true) .bool=true by first | rfl | decide | simp [WShape.has,WShape.arms,WShape.armsAll])
  (show (WTm.eq .res (.lit (.bool true))).value [] { args:=args,res:=some (.bool true),after:=args }=some (.bool (true == true)) from w_eq_bool (w_res rfl) w_lit) rfl
theorem qA{l:OpenLaw}{n:Nat}{q:Program}{loose:List Str}{XP:(Str->Option Value)->Heap->Prop}{YP:World->Heap->Prop}{d:DefRec}
 (hn:l.most=some n) (hdf:d.params.defaults=[])
 (call:∀ (w:World) (s₀ s₁:Shared) (mg mb:Str->Option Value) (fa:Addr) (o:Obj) (pm cd doc:Value) (a:Addr) (vs:List Value) (ns:List Int),
   Ground q loose [] XP w s₀ mg mb s₁.heap->YP w s₁.heap ->
   s₁.heap.get? fa=some o->o.data = .func (docDef d.name d.params d.body d.scope pm cd doc)->s₁.heap.CodeRec cd d.name->mg d.name=some (.ref fa) ->
   s₁.heap.get? a=some { cls:= .type "list",data:= .seq vs.toArray }->IntsAre vs ns->ns.length<=n->s₁.gens = #[] ->
   codeAny (model l.prog w) callerA (.call (.ref fa) ⟨[.ref a],[]⟩) (fun r s'=>r = .ok (.ret (.bool true))/\OldK s₁.heap s'.heap/\s'.os=s₁.os/\AllBare s'.gens) s₁) :
 WalkO q loose XP YP l.row.toRowW d [] (fun f vs=>PySem.call f vs):=by
 intro w s₀ s₁ mg mb G Y fa o pm cd doc dV kV ho hd hcd hD hmg hg args vals as hpre hlay hrd hwl hlo;obtain rfl:dV = .none:=Dflts.none hD hdf;obtain rfl:kV = .none:=Dflts.noKw hD;obtain ⟨a,vs,ns,rfl,rfl,hobj,hints,hlen⟩:=ub hn hpre hwl;refine enter_call (codeAny_mono (call w s₀ s₁ mg mb fa o pm cd doc a vs ns G Y ho (fd_plain hd) hcd hmg hobj hints hlen hg) fun r s' hq=> ?_);obtain ⟨rfl,h2,h3,h4⟩:=hq;exact ⟨.inl ⟨.bool true,.bool true,[],rfl,fun _=>rfl,.bool true,uj l _,fun _=>⟨List.Pairwise.nil,fun _ hm=>(nomatch hm)⟩⟩,h2,h3,h4⟩
section
variable{prog:Program}{w:World}{A:Around}{E:Value->Shared->Prop}{s:Shared}{K:Frag}
end
end Att
namespace L2
open PySem PySem.Spec PyProof.Rows
theorem mF:∀ {vs:List Value} {ns:List Int},IntsAre vs ns->aA (ns.map V.int) vs
 | _,_,.nil=> .nil
 | _,_,.cons n t h=> .cons ⟨t,rfl⟩ (mF h)
def Only(H:Hp):Prop:=∀ b,H b=none\/∃ o xs,H b=some (.frz o (.lst xs))
theorem wS{P:Program}{w:World}{K:Dy}{mg mb:Str->Option Value}{CX:CXT}{k:Nat}{fa a:Addr}{fd:FuncData}{x:Str}{sp:Sp}{s₁:Shared}{vs:List Value}{ns:List Int}
 (KX:K.In s₁.heap) (hns:s₁.heap.Ns mainGlobals mg) (hb:s₁.heap.Ns builtinsNs mb) (hbb:∀ x:Str,x ≠ "__name__" -> mb x=bootBuiltins x) (hlim:s₁.heap.NoLimit) (hg:s₁.gens = #[])
 (ha:s₁.heap.get? a=some { cls:= .type "list",data:= .seq vs.toArray }) (hi:IntsAre vs ns) (hl:ns.length<=sizeLine) (hr:cj k callerA)
 (F:∀ base:Heap,K.In base->base.Ns mainGlobals mg->l9 P w K mg base CX k fa fd [x] sp) (hbind:∀ (s:Shared) (u:Value),BindsTo s fd ⟨[u],[]⟩ [(x,u)])
 (hsp:∀ H:Hp,Only H->SqL K H a (ns.map V.int)->sp [.ref a] H (fun v _=>v = .bl true) fun _ _ _=>False)
 (hCX:∀ H e s',CX [] H s₁ (fun _ _ _=>False) e s'->False) :
 codeAny (model P w) callerA (.call (.ref fa) ⟨[.ref a],[]⟩) (fun r s'=>r = .ok (.ret (.bool true))/\OldK s₁.heap s'.heap/\s'.os=s₁.os/\AllBare s'.gens) s₁:=by
 have rv:=mF hi;have lenV:=hi.length
 have core:∀ H:Hp,Only H->SqL K H a (ns.map V.int)->HOk P w H s₁.heap->(∀ b,H b≠none->b=a)->(H a≠none->K.lookup a=none) ->
  codeAny (model P w) callerA (.call (.ref fa) ⟨[.ref a],[]⟩) (fun r s'=>r = .ok (.ret (.bool true))/\OldK s₁.heap s'.heap/\s'.os=s₁.os/\AllBare s'.gens) s₁:=by
  intro H hO hS hok hA hK
  have base_of:∀ {b:Addr} {o:Obj},s₁.heap.get? b=some o->H b=none->(oC s₁.heap H).get? b=some o:=fun e n=>xf e n
  have noA:∀ {b:Addr} {o:Obj} {es:Array DictEntry} {ep:Nat},s₁.heap.get? b=some o->o.data = .dict es ep->H b=none:=fun {b o es ep} e d=>by
   cases q:H b with
   | none=>rfl
   | some u =>
    have e':b=a:=hA b (by rw [q];simp);subst e';rw [ha] at e;cases e;have d':Data.seq vs.toArray _=Data.dict es ep:=d;cases d'
  have nsK:∀ {b:Addr} {m:Str->Option Value},s₁.heap.Ns b m->(oC s₁.heap H).Ns b m:=fun {b m} ⟨o,es,ep,e,d,r⟩=>⟨o,es,ep,base_of e (noA e d),d,r⟩
  have hKb:K.In (oC s₁.heap H):=fun b o e=>base_of (KX b o e) (by
   cases q:H b with
   | none=>rfl
   | some u =>
    have e':b=a:=hA b (by rw [q];simp);subst e'
    rw [hK (by rw [q];simp)] at e;cases e)
  have hM:Mod K mg (oC s₁.heap H):=⟨hKb,nsK hns,⟨mb,nsK hb,hbb⟩,let ⟨mc,h1,h2⟩:=hlim;⟨mc,nsK h1,h2⟩⟩;have e0:vn P w K mg (oC s₁.heap H) callerA [] s₁ H:=⟨rfl,hM,fun b o e=>zu e,Nat.le_of_eq (uE _ _),trivial,fun b hb=>absurd (show b∈([]:List Addr) from hb) (by simp),hok,.of_eq hg⟩
  refine codeAny_mono ((F _ hKb (nsK hns)).run callerA [] s₁ H ⟨[.ref a],[]⟩ [.ref a] [.ref a] _ _ hr e0 (hbind s₁ (.ref a)) (.cons rfl .nil) (hsp H hO hS)) fun r s' h=> ?_
  cases r with
  | error e=>exact (hCX H e s' h).elim
  | ok fl =>
   cases fl with
   | next=>exact False.elim h
   | brk=>exact False.elim h
   | cont=>exact False.elim h
   | ret u =>
    obtain ⟨v,H',os,bare,un,hok',r',q⟩:=h;have q':v = .bl true:=q;subst q';obtain rfl:u=Value.bool true:=r';refine ⟨rfl,OldK.of_keep fun b o e=> ?_,os,bare⟩
    cases q:H b with
    | none=>exact un.keep b o e q (by intro z;exact absurd (show b∈([]:List Addr) from z) (by simp)) (by simp)
    | some u =>
     rcases hO b with z | ⟨ob,xs,z⟩
     ·rw [q] at z;cases z
     ·have z2:=un.frzs b ob _ z
      obtain ⟨e1,_⟩:=hok b _ z;obtain ⟨e2,_⟩:=hok' b _ z2;rw [e] at e1;cases e1;exact e2
 cases hk:K.lookup a with
 | some o =>
  have e:=KX a o hk;rw [ha] at e;cases e
  refine core (fun _=>none) (fun _=> .inl rfl) (.inr ⟨_,vs.toArray,_,hk,rfl,rfl,rfl,by rw [Bh,lenV];exact hl,by simpa using rv⟩) (fun b u z=>by have z':(none:Option HO)=some u:=z;cases z') (fun b z=>absurd rfl z) fun z=>absurd rfl z
 | none =>
  refine core (fun b=>if b=a then some (.frz { cls:= .type "list",data:= .seq vs.toArray } (.lst (ns.map V.int))) else none) (fun b=> ?_) (.inl (.inr ⟨{ cls:= .type "list",data:= .seq vs.toArray },if_pos rfl⟩)) (fun b u z=> ?_) (fun b z=> ?_) fun _=>hk
  ·by_cases hb:b=a
   ·exact .inr ⟨_,_,if_pos hb⟩
   ·exact .inl (if_neg hb)
  ·by_cases hb:b=a
   ·have z':=(if_pos hb).symm.trans z
    cases z';subst hb;exact ⟨ha,by rw [Be];exact hl,vs,_,rv,ha⟩
   ·have z':=(if_neg hb).symm.trans z
    cases z'
  ·by_cases hb:b=a
   ·exact hb
   ·exact absurd (if_neg hb) z
abbrev KOf{K:Dy}{h:Heap}(_:K.In h):Dy:=K
theorem xY{l:PySem.W.OpenLaw}{n k:Nat}{q:Program}{loose:List Str}{XP:(Str->Option Value)->Heap->Prop}{YP:World->Heap->Prop}{d:DefRec}{K:Params->Dy}{CX:World->CXT}{sp:World->Sp}{x:Str}
 (hn:l.most=some n) (hn2:n<=sizeLine) (hdf:d.params.defaults=[]) (hr:cj k callerA)
 (hY:∀ (w:World) (h:Heap),YP w h->(K w.params).In h)
 (F:∀ (w:World) (mg:Str->Option Value) (fa:Addr) (h:Heap),(K w.params).In h->h.Ns mainGlobals mg->mg d.name=some (.ref fa) ->
   ∃ fd:FuncData,(∀ (s:Shared) (u:Value),BindsTo s fd ⟨[u],[]⟩ [(x,u)]) /\
    ∀ base:Heap,(K w.params).In base->base.Ns mainGlobals mg->l9 l.prog w (K w.params) mg base (CX w) k fa fd [x] (sp w))
 (hsp:∀ (w:World) (H:Hp) (a:Addr) (ns:List Int),ns.length<=n->Only H->SqL (K w.params) H a (ns.map V.int)->sp w [.ref a] H (fun v _=>v = .bl true) fun _ _ _=>False)
 (hCX:∀ (w:World) (H:Hp) (s:Shared) (e:Value) (s':Shared),CX w [] H s (fun _ _ _=>False) e s'->False) :
 PySem.W.WalkO q loose XP YP l.row.toRowW d [] (fun f vs=>PySem.call f vs):=by
 refine Att.qA hn hdf fun w s₀ s₁ mg mb fa o pm cd doc a vs ns G Y ho hd hcd hmg hobj hints hlen hg=> ?_
 have KX:=hY w _ Y;obtain ⟨fd,hb,hF⟩:=F w mg fa _ KX G.T.g hmg
 exact wS KX G.T.g G.T.b G.T.builtins G.T.nolimit hg hobj hints (Nat.le_trans hlen hn2) hr hF hb (fun H hO hS=>hsp w H a ns hlen hO hS) fun H e s'=>hCX w H s₁ e s'
def cC(s:Stmt):Arguments:=match s with
 | .FunctionDef _ a _ _ _ _ _ _ _ _=>a
 | _=>{ posonlyargs:=[],args:=[],vararg:=none,kwonlyargs:=[],kw_defaults:=[],kwarg:=none,defaults:=[] }
def bw(s:Stmt):List Stmt:=match s with
 | .FunctionDef _ _ b _ _ _ _ _ _ _=>b
 | _=>[]
def ae(s:Stmt):Scope:=match s with
 | .FunctionDef _ _ _ _ _ _ sc _ _ _=>sc
 | _=>{ kind:= .function,names:=[],isGenerator:=false,isCoroutine:=false }
abbrev CX0:CXT:=fun _ _ _ _ _ _=>False
abbrev E0:XK:=fun _ _ _=>False
structure Fun(K:Dy)(x qual:Str)(st:Stmt)(f:Addr)(fd:FuncData):Prop where
 ex:∃ (oc:Value) (od:Option Addr) (kV doc pm:Value) (an:Option Addr) (cdv ct:Value) (osl:Array (Option Value)),
  fd=PySem.W.fnOf x qual (cC st) (bw st) (ae st) .none kV doc pm an cdv ct/\K.lookup f=some ⟨oc,od,.func fd,osl⟩/\PySem.W.codeIn K cdv qual=true
 kp:PySem.W.keepIn K (.ref f)=true
section
variable{P:Program}{w:World}{K:Dy}{mg:Str->Option Value}{base:Heap}
theorem Fun.binds{x qual:Str}{st:Stmt}{f:Addr}{fd:FuncData}{ps:List Str}(F:Fun K x qual st f fd)
 (h:∀ (kV doc pm:Value) (an:Option Addr) (cdv ct:Value) (us:List Value),us.length=ps.length->bindArgs (PySem.W.fnOf x qual (cC st) (bw st) (ae st) .none kV doc pm an cdv ct) ⟨us,[]⟩=pure (ps.zip us)):jL K fd ps []:=by
 obtain ⟨oc,od,kV,doc,pm,an,cdv,ct,osl,rfl,lk,hcd⟩:=F.ex;exact .all (h kV doc pm an cdv ct)
theorem rK{x qual:Str}{st:Stmt}{f:Addr}{oc:Value}{od an:Option Addr}{osl:Array (Option Value)}{kV doc pm cdv ct:Value}(l:K.lookup f=some ⟨oc,od,.func (PySem.W.fnOf x qual (cC st) (bw st) (ae st) .none kV doc pm an cdv ct),osl⟩)
 (c:PySem.W.codeIn K cdv qual=true) (k:PySem.W.keepIn K (.ref f)=true):Fun K x qual st f (PySem.W.fnOf x qual (cC st) (bw st) (ae st) .none kV doc pm an cdv ct):=⟨⟨oc,od,kV,doc,pm,an,cdv,ct,osl,rfl,l,c⟩,k⟩
end
theorem cF{n:Nat}(h:n<=1000):n < sizeLine:=Nat.lt_of_le_of_lt h (by decide)
section
variable{X:Cx}
theorem pv(i:Nat){x:Str}{pos:Pos}(hN:X.N[i]?=some x:=by rfl)(hv:Vis X.env.scope x:=by first | exact Or.inl rfl | exact Or.inr (Or.inl rfl) | exact Or.inr (Or.inr rfl))(hd:(x == ("__debug__" : Str))=false:=by decide)
 (hcd:(x == ("__classdict__" : Str))=false:=by decide):PE X (.Name x pos) (vB i):=fI hN hv hd hcd
theorem u5:aJ X (.builtin "len") (fun xs H Q=>∃ a kvs,xs=[V.ref a]/\H a=some (.dK kvs)/\Q (.int kvs.length) H):=by
 intro pins s σ H xs us Q I r h;obtain ⟨a,kvs,rfl,ha,q⟩:=h;obtain ⟨u,rfl,ru⟩:=bV r;cases ru
 exact d_len I (.inl ha) fun t s' I'=>⟨.int kvs.length,H,I',⟨t,rfl⟩,q⟩
end
theorem iteF{A B:Prop}(h:B):if false=true then A else B:=by
 rw [if_neg Bo];exact h
def ac(H H':Hp):Prop:=∀ b o,H b=some o->H' b=some o
theorem ac.refl(H:Hp):ac H H:=fun _ _ h=>h
theorem ac.trans{H H1 H2:Hp}(a:ac H H1)(b:ac H1 H2):ac H H2:=fun c o h=>b c o (a c o h)
theorem ac.free{H H':Hp}(e:ac H H'){l:Addr}(h:H' l=Option.none):H l=Option.none:=by
 cases q:H l with
 | none=>rfl
 | some o =>
  rw [e l o q] at h;cases h
theorem ac.seq{K:Dy}{H H':Hp}{a:Addr}{xs:List V}(e:ac H H')(h:SqL K H a xs):SqL K H' a xs:=by
 rcases h with (h | ⟨o,h⟩) | h
 ·exact .inl (.inl (e _ _ h))
 ·exact .inl (.inr ⟨o,e _ _ h⟩)
 ·exact .inr h
section
variable{κ:Type}[DecidableEq κ]
end
def clF(env:Env):List (Str×NameKind)->List (Str×Addr)->List (Str×Addr)
 | [],acc=>acc
 | (n,k)::r,acc=>clF env r (if k == NameKind.free then (n,(env.cells.lookup n).getD 0)::acc else acc)
theorem rO{env:Env}{scope:Scope}(h:∀ y∈scope.names,y.2 = .free->∃ c,env.cells.lookup y.1=some c):closureFor scope env=pure (clF env scope.names []):=by
 have go:∀ (names:List (Str×NameKind)) (acc:List (Str×Addr)),(∀ y∈names,y.2 = .free->∃ c,env.cells.lookup y.1=some c) ->
  (forIn names acc fun (x:Str×NameKind) (r:List (Str×Addr))=>(match x with
    | (name,kind)=>if (kind == NameKind.free)=true then do let a <- cellOf env name;pure (ForInStep.yield ((name,a)::r)) else pure (ForInStep.yield r):Sem (ForInStep (List (Str×Addr)))))=(pure (clF env names acc):Sem (List (Str×Addr))):=by
  intro names
  induction names with
  | nil=>intro acc _;rfl
  | cons x r ih =>
   intro acc hy;obtain ⟨n,k⟩:=x
   have ih':=fun a=>ih a fun y m=>hy y (Bi _ m)
   rw [Dq]
   cases hk:(k == NameKind.free) with
   | false =>
    dsimp only;rw [hk,if_neg Bo,pure_bind]
    show _=pure (clF env r (if (k == NameKind.free)=true then _ else acc))
    rw [hk,if_neg Bo];exact ih' acc
   | true =>
    obtain ⟨c,hc⟩:=hy (n,k) Bn (by simpa using hk)
    have e:cellOf env n=pure c:=by unfold cellOf;rw [hc]
    dsimp only;rw [hk,if_pos rfl,e,pure_bind,pure_bind]
    show _=pure (clF env r (if (k == NameKind.free)=true then _ else acc))
    rw [hk,if_pos rfl,hc];exact ih' _
 unfold closureFor;have e:=go scope.names [] h
 show (forIn scope.names [] _ >>= _)=_
 refine (congrArg (fun z=>z >>= fun cs=>pure cs) e).trans ?_;rfl
theorem oJ{env:Env}:∀ (names:List (Str×NameKind)) (acc:List (Str×Addr)),(∀ y∈names,y.2 = .free->∃ c,env.cells.lookup y.1=some c) ->
 (∀ x c,acc.lookup x=some c->env.cells.lookup x=some c)->∀ x c,(clF env names acc).lookup x=some c->env.cells.lookup x=some c
 | [],acc,_,h,x,c,e=>h x c e
 | (n,k)::r,acc,hy,h,x,c,e=>by
  refine oJ r _ (fun y m=>hy y (Bi _ m)) (fun y d z=> ?_) x c e
  cases hk:(k == NameKind.free) with
  | false=>rw [hk,if_neg Bo] at z;exact h y d z
  | true =>
   rw [hk,if_pos rfl] at z;obtain ⟨c',hc⟩:=hy (n,k) Bn (by simpa using hk);rw [CH] at z
   cases q:y == n with
   | true =>
    rw [q] at z
    have q':y=n:=by simpa using q
    subst q';have hc':env.cells.lookup y=some c':=hc;rw [hc'] at z ⊢;exact z
   | false=>rw [q] at z;exact h y d z
theorem oK{env:Env}:∀ (names:List (Str×NameKind)) (acc:List (Str×Addr)) (x:Str),((x,NameKind.free)∈names\/∃ c,acc.lookup x=some c)->∃ c,(clF env names acc).lookup x=some c
 | [],acc,x,h=>by
  rcases h with h | h
  ·cases h
  ·exact h
 | (n,k)::r,acc,x,h=>by
  refine oK r _ x ?_
  have keep:(∃ c,acc.lookup x=some c)->∃ c,(if (k == NameKind.free)=true then (n,(env.cells.lookup n).getD 0)::acc else acc).lookup x=some c:=fun hZ=>by
   obtain ⟨c,hc⟩:=hZ
   split
   ·rw [CH]
    split
    ·exact ⟨_,rfl⟩
    ·exact ⟨c,hc⟩
   ·exact ⟨c,hc⟩
  rcases h with h | h
  ·rcases Bp.mp h with e | e
   ·have e1:x=n:=congrArg Prod.fst e
    have e2:NameKind.free=k:=congrArg Prod.snd e;subst e1 e2;refine .inr ⟨(List.lookup x env.cells).getD 0,?_⟩;rw [if_pos (by rfl),CH,beq_self_eq_true]
   ·exact .inl e
  ·exact .inr (keep h)
theorem fG{env:Env}:∀ {names:List (Str×NameKind)} {x:Str} {k:NameKind},
 (names.map fun (n,k)=>if (k == NameKind.free&&env.scope.kind == .function&&env.kindOf n == some .cell) then (n,NameKind.cell) else (n,k)).lookup x=some k ->
 (names.lookup x=some k)\/(k = .cell/\names.lookup x=some .free)
 | [],_,_,h=>by simp at h
 | (n,k')::r,x,k,h=>by
  have ih := @fG env r x k;have h:List.lookup x ((if (k' == NameKind.free&&env.scope.kind == .function&&env.kindOf n == some .cell)=true then (n,NameKind.cell) else (n,k'))::_)=some k:=h
  by_cases hc:(k' == NameKind.free&&env.scope.kind == .function&&env.kindOf n == some .cell)=true
  ·rw [if_pos hc,CH] at h
   rw [CH]
   cases hx:x == n with
   | true =>
    rw [hx] at h;have h':some NameKind.cell=some k:=h;cases h'
    have:k'=NameKind.free:=by
     have:=(By _ _).mp ((By _ _).mp hc).1;simpa using this.1
    subst this;exact .inr ⟨rfl,rfl⟩
   | false=>rw [hx] at h;exact ih h
  ·rw [if_neg hc,CH] at h
   rw [CH]
   cases hx:x == n with
   | true=>rw [hx] at h;exact .inl h
   | false=>rw [hx] at h;exact ih h
def blk(X:Cx)(sc:Scope)(cl:List (Str×Addr))(C:Addr)(fp:List Addr)(s:Shared)(H:Hp)(N:List Str):Cx :=
 { X with env:=compEnvC sc cl C X.env,N:=N,s₀:=s,H₀:=H,outer:=X.stack,ex:=fp,fn:=fun _=>false,pn:=[],xe:=fun _ _=>False }
structure ma(X:Cx)(sc:Scope)(M tgs:List Str):Prop where
 kind:sc.kind = .function
 names:∀ y∈sc.names,y.2 = .local->sc.names.lookup y.1=some .local
 nocell:∀ y∈sc.names,y.2 ≠ .cell
 free:∀ y∈sc.names,y.2 = .free->X.env.kindOf y.1=some .cell\/X.env.kindOf y.1=some .free
 len:M.length=X.N.length
 same:∀ p∈M.zip X.N,p.1=p.2\/p.1=("" : Str)
 dummy:sc.names.lookup ("" : Str)=none
 hid:∀ x∈M,sc.names.lookup x≠some .local
section
variable{X:Cx}
theorem Inv.blk{pins:List (Addr×Obj)}{σ:St}{H:Hp}{s s4:Shared}{sc:Scope}{M tgs:List Str}{C:Addr}{fp:List Addr}{m:Str->Option Value}(I:Inv X pins σ H s)(B:ma X sc M tgs)(hf:∀ b∈fp,qE X pins H b)(hfl:∀ b∈fp,b < s.heap.objs.size)
 (hC:s.heap.objs.size<=C) (hn:s4.heap.Ns C m) (hk:∀ b o,s.heap.get? b=some o->s4.heap.get? b=some o) (ho:s4.os=s.os) (hg:s4.gens=s.gens) :
 Inv (blk X sc (clF X.env sc.names []) C fp s H (M++tgs)) [] (σ++List.replicate tgs.length none) H s4:=by
 have hfr:∀ y∈sc.names,y.2 = .free->∃ c,X.env.cells.lookup y.1=some c:=fun y hy e=>I.ok.has _ (B.free y hy e)
 have hsub:∀ x c,(clF X.env sc.names []).lookup x=some c->X.env.cells.lookup x=some c:=oJ sc.names [] hfr fun _ _ z=>by simp at z
 have hin:∀ x c,(clF X.env sc.names []).lookup x=some c->c < s.heap.objs.size:=fun x c e=>by
  obtain ⟨v,q⟩:=I.cell x c (hsub x c e);exact q.lt
 have hfree:∀ x,((relabel sc X.env).names.lookup x=some .cell\/(relabel sc X.env).names.lookup x=some .free)->sc.names.lookup x=some .free:=fun x hx=>by
  rcases hx with q | q
  ·rcases fG q with z | z
   ·exact absurd rfl (B.nocell _ (B6 z))
   ·exact z.2
  ·rcases fG q with z | z
   ·exact z
   ·exact absurd z.1 (by decide)
 refine ⟨⟨I.ok.mod,B.kind,I.ok.glob,I.ok.blt,hC,fun x y c h1 h2=>I.ok.inj x y c (hsub x c h1) (hsub y c h2),fun x hx=> ?_,fun x c z=>absurd z Bo,I.ok.hd,I.ok.frames,.inl rfl,fun b hb=>⟨?_,fun x c e=> ?_⟩,I.bs,?_,fun b o e z=> ?_,fun b hb=> ?_,I.stack,I.stkFree⟩,
  ho,?_,Un.kept hk,⟨m,hn,fun i x v h1 h2 h3=> ?_⟩,fun x c e=> ?_,I.hok.fresh hC,fun x c e=>I.freeC x c (hsub x c e),fun p hp=>absurd (show p∈([]:List (Addr×Obj)) from hp) (by simp),I.hok.kept hk,?_⟩
 ·exact oK sc.names [] x (.inl (B6 (hfree x hx)))
 ·exact BC (BD (hfl b hb) hC)
 ·exact (hf b hb).2.2.2.2.1 x c (hsub x c e)
 ·exact Nat.le_trans I.ok.bsz I.sz
 ·rcases (hf b z).2.2.2.1 with q | q
  ·exact I.ok.noex b o e q
  ·exact absurd (BD (Bk e) I.ok.bsz) (Nat.not_lt.mpr q)
 ·intro z
  rcases Bp.mp (I.stkSub b z) with q | q
  ·exact (hf b hb).2.1 q
  ·exact (hf b hb).2.2.1 q
 ·rw [hg];exact I.bare
 ·have hl:M.length=σ.length:=B.len.trans I.len.symm
  have hi:i < σ.length:=by
   by_cases hi:i < σ.length
   ·exact hi
   ·rw [Cr (by omega),CD] at h2
    split at h2<;>cases h2
  rw [BJ hi] at h2;have h1:(M++tgs)[i]?=some x:=h1;rw [BJ (by omega)] at h1;have hmem:x∈M:=Bv h1
  have hx:sc.names.lookup x=some .free:=by
   rcases h3 with q | q | q
   ·rcases fG q with z | z
    ·exact absurd z (B.hid x hmem)
    ·exact absurd z.1 (by decide)
   ·exact hfree x (.inl q)
   ·exact hfree x (.inr q)
  have hNi:X.N[i]?=some x:=by
   have hi2:i < X.N.length:=by rw [<- I.len];exact hi
   have hz:(M.zip X.N)[i]?=some (x,X.N[i]):=by
    rw [Dx];exact ⟨h1,Bb hi2⟩
   rcases B.same _ (Bv hz) with q | q
   ·have q':x=X.N[i]:=q
    rw [Bb hi2,q']
   ·have q':x=("" : Str):=q
    rw [q',B.dummy] at hx;cases hx
  have hk2:=B.free (x,.free) (B6 hx) rfl;obtain ⟨m0,_,hl0⟩:=I.loc;obtain ⟨u,r,l⟩:=hl0 i x v hNi h2 (.inr hk2);refine ⟨u,r,.inr ?_⟩
  rcases l with ⟨k,_⟩ | ⟨_,c,ec,hcell⟩
  ·have k':X.env.kindOf x=some .local:=k
   rcases hk2 with q | q
   ·have q':X.env.kindOf x=some .cell:=q
    rw [k'] at q';cases q'
   ·have q':X.env.kindOf x=some .free:=q
    rw [k'] at q';cases q'
  ·obtain ⟨c',ec'⟩:=oK (env:=X.env) sc.names [] x (.inl (B6 hx))
   have:c'=c:=by
    have:=hsub x c' ec';rw [ec] at this;exact (Option.some.inj this).symm
   subst this;refine ⟨?_,c',ec',?_⟩
   ·rcases h3 with q | q | q
    ·rcases fG q with z | z
     ·rw [hx] at z;cases z
     ·exact absurd z.1 (by decide)
    ·exact .inl q
    ·exact .inr q
   ·obtain ⟨o,e1,e2⟩:=hcell
    exact ⟨o,hk _ _ e1,e2⟩
 ·obtain ⟨v,o,e1,e2⟩:=I.cell x c (hsub x c e)
  exact ⟨v,o,hk _ _ e1,e2⟩
 ·show (σ++_).length=(M++tgs).length
  rw [Bz,Bz,B9,B.len,I.len]
def vm(X:Cx)(ifs:List Expr)(t:TT):Prop :=
 ∀ (pins:List (Addr×Obj)) (s:Shared) (σ:St) (H:Hp) (Q:Bool->Hp->Prop),Inv X pins σ H s->t σ H Q ->
  wpAny (model X.prog X.w) X.A (forIn ifs true fun c r=>if r=true then do let ok <- isTrue c X.env (eval c X.env);pure (ForInStep.yield ok) else pure (ForInStep.yield r)) (TP X pins σ Q) X.xe s
def Av:TT:=fun _ H Q=>Q true H
theorem pif0:vm X [] Av:=fun pins s σ H Q I h=>wpAny_tests_nil ⟨H,I,h⟩
theorem pif1{c:Expr}{t:TT}(h:PT X c t):vm X [c] t:=fun pins s σ H Q I hw=>wpAny_tests_one (h pins s σ H Q I hw)
theorem oI{prog:Program}{w:World}{A:Around}{R:Result->Shared->Prop}{s:Shared}{elt target iter:Expr}{ifs:List Expr}{scope:Scope}{pos:Pos}{it acc:Value}{env:Env}(I:Nat->Shared->Prop)
 (turn:∀ n s,I n s->wpAny (model prog w) A (pyNext it) (fun r s₁=>match r with
   | none=>R (.ok .next) s₁
   | some v=>wpAny (model prog w) A (letOwnedTupleGo target it v) (fun _ s₁'=>wpAny (model prog w) A (assign target env v) (fun _ s₂ =>
    wpAny (model prog w) A (forIn ifs true fun c r=>if r=true then do let ok <- isTrue c env (eval c env);pure (ForInStep.yield ok) else pure (ForInStep.yield r)) (fun ok s₃ =>
     if ok=true then wpAny (model prog w) A (eval elt env) (fun x s₄ =>
      wpAny (model prog w) A (call (.builtin "list.append") [acc,x]) (fun _ s₅=>∃ m,m < n/\I m s₅) (fun _ _=>False) s₄) (fun _ _=>False) s₃
     else ∃ m,m < n/\I m s₃) (fun _ _=>False) s₂) (fun _ _=>False) s₁') (fun _ _=>False) s₁) (fun _ _=>False) s)
 (n:Nat) (h:I n s) :
 codeAny (model prog w) A (.compLoop (.ListComp elt [⟨target,iter,ifs,0⟩] scope pos) 0 it acc env) R s:=by
 refine codeAny_loop rfl I (fun n s hI=> ?_) n h
 show wpAny _ A ((compTurn (.ListComp elt [⟨target,iter,ifs,0⟩] scope pos) 0 it acc env).onRaise (fun x=>do noteFrame x env;theTreesLotGoes x)) _ _ s
 refine wpAny_noted ?_;rw [compTurn_list];refine A9 (wpAny_standAt (A9 (Ci (turn n s hI) (fun r s₁ h₁=> ?_) fun _ _ z=>z.elim)))
 cases r with
 | none=>exact Bg h₁
 | some v =>
  refine A9 (Ci h₁ (fun _ s₁' h₁'=> ?_) fun _ _ z=>z.elim);refine A9 (Ci h₁' (fun _ s₂ h₂=>A9 (Ci h₂ (fun ok s₃ h₃=> ?_) fun _ _ z=>z.elim)) fun _ _ z=>z.elim)
  cases ok with
  | false=>exact Bg ⟨rfl,h₃⟩
  | true =>
   exact A9 (A9 (Ci h₃ (fun x s₄ h₄=>A9 (Ci h₄ (fun _ s₅ h₅=>Bg (Bg ⟨rfl,h₅⟩)) fun _ _ z=>z.elim)) fun _ _ z=>z.elim))
def CompW(J:It)(k:Nat)(g:TG)(tt:TT)(te:TE)(σ:St)(Q:VK)(H1:Hp):Prop:=∃ W:Nat->Nat->List V->Hp->Prop,(∃ m,W 0 m [] H1)/\∀ i m ys H,W i m ys H->ys.length<=sizeLine /\
 ((J.stop i H/\∀ l,H l=none->Q (.ref l) (upd H l (.lst ys)))\/(J.go i H/\∀ x H',J.yld i H x H'->g x (σ++List.replicate k none) H' fun σ2 H2=>σ2.take σ.length=σ/\tt σ2 H2 fun b H3 =>
   if b=true then te σ2 H3 fun y H4=>∃ m',m' < m/\W (i+1) m' (ys++[y]) H4 else ∃ m',m' < m/\W (i+1) m' ys H3))
def pj(wi:TI)(k:Nat)(g:TG)(tt:TT)(te:TE):TE:=fun σ H Q=>wi σ H fun J H1=>CompW J k g tt te σ Q H1
theorem HOk.track{P:Program}{w:World}{H:Hp}{h:Heap}{a:Addr}{o:HO}(x:HOk P w H h)(hn:H a=none)(new:bB P w (upd H a o) h a o):HOk P w (upd H a o) h:=fun b u e=>by
 by_cases hb:b=a
 ·subst hb
  rw [am] at e;cases e;exact new
 ·rw [ak hb] at e
  exact (x b u e).stay (fun _ _ _ q=>q) (fun c q=>by rw [ak (au q hn)];exact q) fun c xs q=>by rw [ak (au q hn)];exact q
theorem yh{σ σ':St}{k:Nat}(h:σ'.take σ.length=σ):∀ (i:Nat) v,(σ++List.replicate k (none:Option V))[i]?=some (some v)->σ'[i]?=some (some v):=fun i v e=>by
 by_cases hi:i < σ.length
 ·rw [BJ hi,<- h,List.getElem?_take_of_lt hi] at e
  exact e
 ·rw [Cr (by omega),CD] at e
  split at e<;>cases e
theorem nh{elt tg iter:Expr}{ifs:List Expr}{sc:Scope}{M tgs:List Str}{pos pos':Pos}{wi:TI}{g:TG}{tt:TT}{te:TE}{use:Option (Value->Sem Unit)}{Qf:Value->Shared->Prop}{pins:List (Addr×Obj)}{s:Shared}{σ:St}{H:Hp}{Q:VK}(hc:X.calm=true)(B:ma X sc M tgs)(hi:PI X tg iter wi)
 (hg:∀ cl C fp s H,PG (blk X sc cl C fp s H (M++tgs)) tg g) (ht:∀ cl C fp s H,vm (blk X sc cl C fp s H (M++tgs)) ifs tt) (he:∀ cl C fp s H,PE (blk X sc cl C fp s H (M++tgs)) elt te)
 (hs:∀ x,foldedSetIterable iter X.env x=pure x) (I:Inv X pins σ H s) (h:pj wi tgs.length g tt te σ H Q)
 (fin:∀ (C D:Addr) (m:Str->Option Value) (s6:Shared) (H':Hp),Inv X pins σ H' s6->s6.heap.Ns C m->H' C=none->X.env.locals < C->X.s₀.heap.objs.size<=C->(∀ x c,X.env.cells.lookup x=some c->c≠C)->(∀ p∈X.pn++pins,p.1≠C)->Q (.ref D) H'->∀ f,compPost (model X.prog X.w) X.A X.xe use Qf (.ref D) C (.ok f) s6) :
 wpAny (model X.prog X.w) X.A (comprehension (.ListComp elt [⟨tg,iter,ifs,0⟩] sc pos) sc X.env pos' (newList []) false (eval iter X.env) use) Qf X.xe s:=by
 have hfr:∀ y∈sc.names,y.2 = .free->∃ c,X.env.cells.lookup y.1=some c:=fun y hy e=>I.ok.has _ (B.free y hy e)
 have hsub:∀ x c,(clF X.env sc.names []).lookup x=some c->X.env.cells.lookup x=some c:=oJ sc.names [] hfr fun _ _ z=>by simp at z
 refine wpAny_comprehension_free (use:=use) rfl hs (rO hfr) B.kind B.names (thn (hi pins s σ H _ I h) fun xv s₁ h₁=>thn h₁ fun itv s₂ h₂=> ?_);obtain ⟨it,fp,tn,J,H2,rfl,I2,T,st2,f2,W,⟨m0,w0⟩,turn⟩:=h₂
 have hfl:∀ b∈fp,b < s₂.heap.objs.size:=fun b hb=>by
  obtain ⟨o,e,_⟩:=T.obj _ _ st2 b hb;exact Bk e
 refine BN (wpAny_newFunctionEnv B.nocell (by intro y hy;simp at hy) (fun h₁ hns₁ hsb₁=> ?_) B.kind);dsimp only at hns₁ hsb₁ ⊢
 generalize hH2:s₂.heap.push { cls:= .type "list",dict:=none,data:= .seq ([]:List Value).toArray }=HH at hns₁ hsb₁ ⊢
 have hC:HH.objs.size=s₂.heap.objs.size+1:=by rw [<- hH2,Cb]
 generalize hCC:HH.objs.size=C at hC hns₁ hsb₁ ⊢
 generalize hDD:s₂.heap.objs.size=D at hC ⊢
 have hDC:D≠C:=by omega
 have below:∀ b,b < D->b≠C/\b≠D:=fun b hb=>⟨by omega,by omega⟩
 have old:∀ b o,s₂.heap.get? b=some o->h₁.get? b=some o:=fun b o e=>hsb₁.extBut b o (below b (hDD ▸ Bk e)).1 (Ba _ (hH2 ▸ Ba _ e))
 have hacc:h₁.PlainList D #[]:=⟨_,hsb₁.extBut _ _ hDC (Ba _ (by rw [<- hH2,<- hDD];exact Bm _ rfl))⟩
 have hCs:s₂.heap.objs.size<=C:=by omega
 generalize hS4:({ s₂ with heap:=h₁,toks:=s₂.toks+([]:List (Str×Value)).length }:Shared)=s₄
 have I4:Inv (blk X sc (clF X.env sc.names []) C fp s₂ H2 (M++tgs)) [] (σ++List.replicate tgs.length none) H2 s₄ :=
  I2.blk B f2 hfl hCs (by rw [<- hS4];exact hns₁) (by rw [<- hS4];exact old) (by rw [<- hS4]) (by rw [<- hS4])
 have hD4:s₄.heap.PlainList D #[]:=by rw [<- hS4];exact hacc
 have st4:tn 0 s₄.heap:=by rw [<- hS4];exact T.keep _ _ _ st2 fun b _ o e=>old b o e
 let X':=blk X sc (clF X.env sc.names []) C fp s₂ H2 (M++tgs)
 have nfs:∀ b,s₂.heap.objs.size<=b->b∉frs X.stack:=fun b hb z=>by
  rcases Bp.mp (I2.stkSub b z) with q | q
  ·rw [q] at hb;exact absurd I2.lt (Nat.not_lt.mpr hb)
  ·exact I2.nofs hb q
 have Dpin:∀ {s':Shared} {H':Hp} {its:Array Value} {n:Nat},s'.heap.get? D=some { cls:= .type "list",data:= .seq its n }->H' D=none ->
  ∀ p∈[(D,({ cls:= .type "list",data:= .seq its n }:Obj))],s'.heap.get? p.1=some p.2/\H' p.1=none/\p.1≠X'.env.locals/\p.1∉X'.fs/\∀ v,p.2.data ≠ .cell v:=fun {s' H' its n} e hn p hp=>by
  have e1:p=(D,({ cls:= .type "list",data:= .seq its n }:Obj)):=by simpa using hp
  subst e1;exact ⟨e,hn,hDC,nfs D (by omega),fun v z=>by cases z⟩
 have fpk:∀ {pl:List (Addr×Obj)} {H':Hp},(∀ p∈pl,p.1=D)->(∀ b∈fp,H' b=none)->∀ b∈fp,qE X' pl H' b:=fun {pl H'} hpl hn b hb=>by
  refine ⟨hn b hb,(below b (hDD ▸ hfl b hb)).1,fun z=> ?_,.inl hb,fun x c e=>(f2 b hb).2.2.2.2.1 x c (hsub x c e),fun p hp=> ?_⟩
  ·rcases Bp.mp (I2.stkSub b z) with q | q
   ·exact (f2 b hb).2.1 q
   ·exact (f2 b hb).2.2.1 q
  ·have hp':p∈pl:=by simpa [X',blk] using hp
   rw [hpl p hp'];exact Ne.symm (below b (hDD ▸ hfl b hb)).2
 have cellD:∀ x c,X'.env.cells.lookup x=some c->c≠D:=fun x c e z=>by
  obtain ⟨v,q⟩:=I2.cell x c (hsub x c e);have q:=q.lt;rw [z,hDD] at q;exact CZ _ q
 have loop:codeAny (model X.prog X.w) X.A (.compLoop (.ListComp elt [⟨tg,iter,ifs,0⟩] sc pos) 0 (.ref it) (.ref D) (compEnvC sc (clF X.env sc.names []) C X.env))
  (compPost (model X.prog X.w) X.A X.xe use Qf (.ref D) C) s₄:=by
  refine oI (fun n s'=>∃ i ys its k H',Inv X' [(D,{ cls:= .type "list",data:= .seq its k })] (σ++List.replicate tgs.length none) H' s'/\aA ys its.toList/\tn i s'.heap/\(∀ b∈fp,H' b=none)/\W i n ys H') ?_ m0 ?_
  ·rintro n s5 ⟨i,ys,its,k,H5,I5,hv,st5,fr5,w5⟩
   obtain ⟨hz,w5⟩:=turn i n ys H5 w5;have hD5:=I5.pin (D,{ cls:= .type "list",data:= .seq its k }) (Bf _ (by simp))
   have one:∀ p∈[(D,({ cls:= .type "list",data:= .seq its k }:Obj))],p.1=D:=fun p hp=>by
    have:p=(D,({ cls:= .type "list",data:= .seq its k }:Obj)):=by simpa using hp
    rw [this]
   rcases w5 with ⟨stop,qn⟩ | ⟨go,step⟩
   ·refine thn (T.done X' rfl rfl rfl hc i _ s5 _ H5 _ I5 (fpk one fr5) st5 stop) fun r s6 ⟨hr,I6⟩=> ?_
    subst hr;obtain ⟨m6,hn6,_⟩:=I6.loc;have hn6:s6.heap.Ns C m6:=hn6;obtain ⟨e6,n6,_⟩:=I6.pin (D,{ cls:= .type "list",data:= .seq its k }) (Bf _ (by simp));have hC6:H5 C=none:=I6.free;have hln:ys.length<=sizeLine:=hz;have ok8:HOk X.prog X.w (upd H5 D (.lst ys)) s6.heap:=I6.hok.track n6 ⟨hln,its.toList,k,hv,by simpa using e6⟩;have un:Un (frs X.stack) fp H2 H5 s₂.heap s6.heap:=I6.base
    have neC:∀ b o,s₂.heap.get? b=some o->b≠C/\b≠D:=fun b o e=>below b (hDD ▸ Bk e)
    have un7:Un (frs X.stack) fp H2 (upd H5 D (.lst ys)) s₂.heap s6.heap:=by
     refine ⟨un.keep,un.slot,fun b o e n hx=> ?_,un.there,fun b xs e=> ?_,fun b o u e=> ?_,fun b ps e=> ?_⟩
     ·rw [ak (neC b o e).2];exact un.free b o e n hx
     ·have q:=un.tups b xs e
      rw [ak (au q n6)];exact q
     ·have q:=un.frzs b o u e
      rw [ak (au q n6)];exact q
     ·obtain ⟨more,q⟩:=un.tbls b ps e
      exact ⟨more,by rw [ak (au q n6)];exact q⟩
    have I8:Inv X pins σ (upd H5 D (.lst ys)) s6:=I2.call' (ch:=fp) I6.os un7 ok8 I6.bare (fun b hb=>⟨(f2 b hb).2.2.2.1,(f2 b hb).2.1,(f2 b hb).2.2.2.2.1,(f2 b hb).2.2.2.2.2⟩);have hLC:X.env.locals < C:=BD I2.lt hCs
    have hcC:∀ x c,X.env.cells.lookup x=some c->c≠C:=fun x c e z=>by
     obtain ⟨v,q⟩:=I2.cell x c e;have q:=q.lt;rw [z] at q;exact absurd q (Nat.not_lt.mpr hCs)
    exact fin C D m6 s6 _ I8 hn6 (by rw [ak (Ne.symm hDC)];exact hC6) hLC (Nat.le_trans I2.sz hCs) hcC (fun p hp z=>by
     have:=Bk (I2.pin p hp).1;rw [z] at this
     exact absurd this (Nat.not_lt.mpr hCs)) (qn D n6) _
   ·refine thn (T.item X' rfl rfl rfl hc i _ s5 _ H5 _ I5 (fpk one fr5) st5 go) fun r s6 ⟨u,hr,h6⟩=> ?_
    subst hr
    refine thn h6 fun _ s7 ⟨x,H7,I7,r7,y7,st7,fr7⟩=> ?_
    have I7':=I7.pinned (fpk one fr7) (T.obj _ _ st7)
    refine thn (hg _ _ _ _ _ _ s7 _ H7 x u _ I7' r7 (step x H7 y7)) fun _ s8 ⟨σ8,H8,I8,tk8,q8⟩=> ?_
    refine thn (ht _ _ _ _ _ _ s8 σ8 H8 _ I8 q8) fun b s9 ⟨H9,I9,q9⟩=> ?_
    have weak:∀ {pl:List (Addr×Obj)} {H':Hp} {s':Shared},Inv X' pl σ8 H' s'->Inv X' pl (σ++List.replicate tgs.length none) H' s':=fun {pl H' s'} J=>J.weak (by
     have e1:σ8.length=(M++tgs).length:=J.len
     rw [e1,Bz,Bz,B9,B.len,I2.len]) (yh tk8)
    have fin:∀ {H':Hp} {s':Shared},Inv X' ([(D,{ cls:= .type "list",data:= .seq its k })]++kM fp s7.heap) σ8 H' s'->tn (i+1) s'.heap/\∀ b∈fp,H' b=none:=fun {H' s'} J=>by
     refine ⟨T.keep _ _ _ st7 fun b hb o e=>(J.pin (b,o) (Bf _ (Bf _ (eR hb e)))).1,fun b hb=> ?_⟩;obtain ⟨o,e,d⟩:=T.obj _ _ st7 b hb;exact (J.pin (b,o) (Bf _ (Bf _ (eR hb e)))).2.1
    cases b with
    | false =>
     rw [if_neg Bo] at q9 ⊢;obtain ⟨m',hm,w9⟩:=q9;exact ⟨m',hm,i+1,ys,its,k,H9,weak I9.unpinned,hv,(fin I9).1,(fin I9).2,w9⟩
    | true =>
     rw [if_pos rfl] at q9 ⊢
     refine thn (he _ _ _ _ _ _ s9 σ8 H9 _ I9 q9) fun y s10 ⟨yv,H10,I10,r10,q10⟩=> ?_
     obtain ⟨m',hm,w10⟩:=q10;obtain ⟨e10,n10,_⟩:=I10.pin (D,{ cls:= .type "list",data:= .seq its k }) (Bf _ (Bc _ (by simp)))
     have hsz:its.size<=sizeLine:=by
      have e1:=hv.length
      have e2:its.toList.length=its.size:=by simp
      omega
     refine wpAny_list_append_plain (hsz:=hsz) ⟨k,e10⟩ fun h11 hl11 hs11=> ?_
     obtain ⟨k',e11⟩:=hl11
     have J0:Inv X' [] σ8 H10 s10:=I10.pins_of fun p hp=>by simp at hp
     have J1:Inv X' [] σ8 H10 { s10 with heap:=h11 }:=J0.turned (t':=s10.toks) (it:=D) (fun b o hb e=>(hs11.2 b hb).trans e) n10 hDC (.inr (by show s₂.heap.objs.size<=D;omega)) cellD (fun p hp=>by
      have hp':p∈([]:List (Addr×Obj)):=by simpa [X',blk] using hp
      simp at hp')
     have J2:Inv X' [(D,{ cls:= .type "list",data:= .seq (its.push y) k' })] σ8 H10 { s10 with heap:=h11 }:=J1.pins_of (Dpin e11 n10);refine ⟨m',hm,i+1,ys++[yv],its.push y,k',H10,weak J2,?_,?_,(fin I10).2,w10⟩
     ·rw [Array.toList_push]
      exact hv.append (.cons r10 .nil)
     ·refine T.keep _ _ _ (fin I10).1 fun b hb o e=>(hs11.2 b ?_).trans e
      exact (below b (hDD ▸ hfl b hb)).2
  ·obtain ⟨k,e⟩:=hD4
   exact ⟨0,[],#[],k,H2,I4.pins_of (Dpin e (I2.hok.fresh (by omega))),.nil,st4,fun b hb=>(f2 b hb).1,w0⟩
 exact codeAny_compStart_list loop (T.self _ _ _ _ _ st4 loop)
theorem za{elt tg iter:Expr}{ifs:List Expr}{sc:Scope}{M tgs:List Str}{pos:Pos}{wi:TI}{g:TG}{tt:TT}{te:TE}(hc:X.calm=true)(B:ma X sc M tgs)(hi:PI X tg iter wi)
 (hg:∀ cl C fp s H,PG (blk X sc cl C fp s H (M++tgs)) tg g) (ht:∀ cl C fp s H,vm (blk X sc cl C fp s H (M++tgs)) ifs tt) (he:∀ cl C fp s H,PE (blk X sc cl C fp s H (M++tgs)) elt te)
 (hs:∀ x,foldedSetIterable iter X.env x=pure x:=by intro _;rfl):PE X (.ListComp elt [⟨tg,iter,ifs,0⟩] sc pos) (pj wi tgs.length g tt te):=by
 intro pins s σ H Q I h;rw [eval_ListComp]
 exact nh hc B hi hg ht he hs I h fun C D m s6 H' I8 hn hC hLC hsz hcC hp q f=>⟨m,hn,fun h' hs'=>⟨.ref D,H',I8.turned (t':=s6.toks) (it:=C) (fun b o hb e=>(hs'.2 b hb).trans e) hC (CU hLC) (.inr hsz) hcC hp,rfl,q⟩⟩
end
end L2
namespace HT
open PySem PySem.Spec PyProof.Rows PySem.SeqAt
def AV:List Int->List Int->Bool
 | [],_=>true
 | _::_,[]=>false
 | x::xs,y::ys=>if x=y then AV xs ys else decide (x<=y)
section
open PySem.SeqAt
open PySem.AutoSeq1 (wpAny_loadPart')
open PySem.MeetsSeq PySem.MeetsSeq2 PySem.MeetsSeq3
end
section
variable{prog:Program}{w:World}{A:Around}{E:Value->Shared->Prop}{s:Shared}
end
end HT
namespace L2
open PySem PySem.Spec PyProof.Rows
section
variable{X:Cx}
def AX(K:Dy)(H:Hp)(T:String):V->Prop
 | .non=>T = "NoneType"
 | .bl _=>T = "bool"
 | .int _=>T = "int"
 | .str _=>T = "str"
 | .ref p=>(T = "list" /\ ∃ xs,SqL K H p xs)\/(T = "tuple" /\ ∃ xs,SqT K H p xs)\/(T = "dict" /\ ((∃ kvs,H p=some (.dK kvs))\/∃ kvs,H p=some (.dT kvs)))
 | _=>False
def zO(T C:String):Bool:=T == C||(T == "bool" && C == "int")
def isiC(C:String):Prop:=C = "int" \/ C = "bool" \/ C = "tuple" \/ C = "list" \/ C = "str"
def rIsi(K:Dy):List V->Hp->VK->Prop:=fun xs H Q=>∃ x T C,xs=[x,.ty C]/\isiC C/\AX K H T x/\Q (.bl (zO T C)) H
theorem xJ:aJ X (.builtin "isinstance") (rIsi X.K):=by
 intro pins s σ H xs us Q I r h;obtain ⟨x,T,C,rfl,hC,hk,q⟩:=h;obtain ⟨u,w',rfl,rx,rc⟩:=o5 r;cases rc
 have fin:∀ (b:Bool) (t:Nat),b=zO T C->EP X pins σ Q (.bool b) { s with toks:=t }:=fun b t e=>⟨.bl b,H,I.tok t,rfl,by rw [e];exact q⟩
 have fin0:∀ (b:Bool),b=zO T C->EP X pins σ Q (.bool b) s:=fun b e=>⟨.bl b,H,I,rfl,by rw [e];exact q⟩
 cases x with
 | non =>
  cases rx;cases (show T = "NoneType" from hk)
  rcases hC with rfl | rfl | rfl | rfl | rfl
  ·exact IsiPair.NoneType_int (fin _ _ rfl)
  ·exact IsiPair.NoneType_bool (fin _ _ rfl)
  ·exact IsiPair.NoneType_tuple (fin _ _ rfl)
  ·exact IsiPair.NoneType_list (fin _ _ rfl)
  ·exact IsiPair.NoneType_str (fin _ _ rfl)
 | bl b =>
  cases rx;cases (show T = "bool" from hk)
  rcases hC with rfl | rfl | rfl | rfl | rfl
  ·exact IsiPair.bool_int (fin0 _ rfl)
  ·exact IsiPair.bool_bool (fin0 _ rfl)
  ·exact IsiPair.bool_tuple (fin _ _ rfl)
  ·exact IsiPair.bool_list (fin _ _ rfl)
  ·exact IsiPair.bool_str (fin _ _ rfl)
 | int i =>
  obtain ⟨t,rfl⟩:=rx;cases (show T = "int" from hk)
  rcases hC with rfl | rfl | rfl | rfl | rfl
  ·exact IsiPair.int_int (fin0 _ rfl)
  ·exact IsiPair.int_bool (fin _ _ rfl)
  ·exact IsiPair.int_tuple (fin _ _ rfl)
  ·exact IsiPair.int_list (fin _ _ rfl)
  ·exact IsiPair.int_str (fin _ _ rfl)
 | str z =>
  obtain ⟨t,rfl⟩:=rx;cases (show T = "str" from hk)
  rcases hC with rfl | rfl | rfl | rfl | rfl
  ·exact IsiPair.str_int (fin _ _ rfl)
  ·exact IsiPair.str_bool (fin _ _ rfl)
  ·exact IsiPair.str_tuple (fin _ _ rfl)
  ·exact IsiPair.str_list (fin _ _ rfl)
  ·exact IsiPair.str_str (fin0 _ rfl)
 | ref p =>
  cases rx
  rcases hk with ⟨rfl,xs,hq⟩ | ⟨rfl,xs,hq⟩ | ⟨rfl,hk⟩
  ·obtain ⟨its,_,pl,_⟩:=I.list hq
   obtain ⟨o,n,e,c,hd,_⟩:=pl
   rcases hC with rfl | rfl | rfl | rfl | rfl
   ·exact IsiPair.list_int e c (fin _ _ rfl)
   ·exact IsiPair.list_bool e c (fin _ _ rfl)
   ·exact IsiPair.list_tuple e c (fin _ _ rfl)
   ·exact IsiPair.list_list e c (fin0 _ rfl)
   ·exact IsiPair.list_str e c (fin _ _ rfl)
  ·obtain ⟨its,_,⟨o,e,c,_⟩,_⟩:=I.tuple hq
   rcases hC with rfl | rfl | rfl | rfl | rfl
   ·exact IsiPair.tuple_int e c (fin _ _ rfl)
   ·exact IsiPair.tuple_bool e c (fin _ _ rfl)
   ·exact IsiPair.tuple_tuple e c (fin0 _ rfl)
   ·exact IsiPair.tuple_list e c (fin _ _ rfl)
   ·exact IsiPair.tuple_str e c (fin _ _ rfl)
  ·have z:∃ o,s.heap.get? p=some o/\o.cls = .type "dict" := by
    rcases hk with ⟨kvs,hk⟩ | ⟨kvs,hk⟩
    ·obtain ⟨_,_,_,_,o,_,_,e,ex,_⟩:=I.hok p _ hk
     exact ⟨o,e,ex.1⟩
    ·obtain ⟨_,_,_,_,o,_,_,e,ex,_⟩:=I.hok p _ hk
     exact ⟨o,e,ex.1⟩
   obtain ⟨o,e,c⟩:=z
   rcases hC with rfl | rfl | rfl | rfl | rfl
   ·exact IsiPair.dict_int e c (fin _ _ rfl)
   ·exact IsiPair.dict_bool e c (fin _ _ rfl)
   ·exact IsiPair.dict_tuple e c (fin _ _ rfl)
   ·exact IsiPair.dict_list e c (fin _ _ rfl)
   ·exact IsiPair.dict_str e c (fin _ _ rfl)
 | _=>exact False.elim hk
end
end L2
namespace RawD
open PySem PySem.Spec PyProof.Rows PySem.W
def At(h:Heap)(d:Addr)(es:Array DictEntry)(ep:Nat):Prop:=∃ o,h.get? d=some o/\o.ExactDict/\o.data = .dict es ep
theorem At.keep{h h':Heap}{d:Addr}{es:Array DictEntry}{ep:Nat}(x:At h d es ep)(k:∀ o,h.get? d=some o->h'.get? d=some o):At h' d es ep:=let ⟨o,a,r⟩:=x;⟨o,k o a,r⟩
theorem At.ty{s:Shared}{d:Addr}{es:Array DictEntry}{ep:Nat}(x:At s.heap d es ep):s.TypeIs (.ref d) "dict" := let ⟨o,a,b,_⟩:=x;⟨o,a,b.1⟩
theorem At.lt{h:Heap}{d:Addr}{es:Array DictEntry}{ep:Nat}(x:At h d es ep):d < h.objs.size:=let ⟨_,a,_⟩:=x;Bk a
section
variable{prog:Program}{w:World}{A:Around}{E:Value->Shared->Prop}{s:Shared}{d it:Addr}{es:Array DictEntry}{ep i:Nat}
theorem iter{Q:Value->Shared->Prop}(lo:(d == sysModules)=false)(x:At s.heap d es ep)
 (q:Q (.ref s.heap.objs.size) { s with heap:=s.heap.push { cls:= .type "dict_keyiterator",data:= .fields #[.ref d,.int 0 0,.int es.size 0,.int ep 0] } }) :
 wpAny (model prog w) A (pyIter (.ref d)) Q E s:=by
 have ty:=x.ty;obtain ⟨o,a1,a2,a3⟩:=x;refine wpAny_pyIter_slot ty F.slot_dict_iter (BR F.slot_dict_iter ty F.entry_dict_iter ?_ (F.args_dict_iter_1 _));unfold Builtin.«dict.__iter__»;refine A9 ?_;unfold Builtin.Dict.dictSlotNone;refine A9 (wpAny_notOrdered_dict ty ?_)
 show wpAny _ _ (pure (Value.ref d)) _ _ s
 refine Bg ?_
 show wpAny _ _ (Builtin.Dict.showsAll d >>= _) _ _ s
 unfold Builtin.Dict.showsAll;rw [if_neg (by rw [lo];exact Bo)];refine A9 (Bg ?_);refine A9 (wpAny_dictEntries a1 a3 (A9 (wpAny_dictEpoch a1 a3 ?_)));exact A9 (BN (Bg ⟨_,rfl, "dict_keyiterator",_,⟨_,Bm _ rfl,rfl⟩,F.slot_dict_keyiterator_next.lookup,q⟩))
theorem item{Q:Option Value->Shared->Prop}(hit:s.heap.IsKeyIter it d i es.size ep)(x:At s.heap d es ep)(hi:i < es.size)
 (q:∀ h',h'.IsKeyIter it d (i+1) es.size ep->Heap.SameBut it s.heap h'->Q (some es[i].key) { s with heap:=h' }):wpAny (model prog w) A (pyNext (.ref it)) Q E s:=by
 obtain ⟨oi,b1,b2,b3⟩:=id hit;obtain ⟨o,a1,a2,a3⟩:=x;unfold pyNext
 refine A9 (wpAny_attempt (BL (name:=Str.ofString "__next__") hit.typeIs F.slot_dict_keyiterator_next
  (BR F.slot_dict_keyiterator_next hit.typeIs F.entry_dict_keyiterator_next ?_ (F.args_dict_keyiterator_next_1 _))))
 refine A9 (Bg (A9 (A9 ?_)))
 first | refine A9 (CG hit.typeIs (Bg ?_)) | refine A9 (CT hit.typeIs (Bg ?_))
 refine A9 (wpAny_fieldsOf b1 b3 ?_)
 have no:Builtin.Dict_items.ownsTuple "dict_keyiterator" = false:=by decide
 simp only [no,Bool.false_eq_true,if_false]
 show wpAny _ _ (if (Value.ref d == Value.none)=true then _ else _) _ _ s
 rw [if_neg (show ¬ ((Value.ref d == Value.none)=true) from Bo)];refine A9 (Bg (A9 (wpAny_dictEntries a1 a3 ?_)));rw [if_neg (by simp)];refine A9 (Bg (A9 (wpAny_dictEpoch a1 a3 ?_)));rw [if_neg (by simp)];refine Bg ?_;simp only [show ¬ ((i:Int) < 0) from by omega,if_false,C7,Cu hi];refine A9 ?_
 first | refine A9 (CG hit.typeIs (Bg ?_)) | refine A9 (CT hit.typeIs (Bg ?_))
 refine A9 (wpAny_isOneOf_keyiter hit.typeIs ?_)
 show wpAny _ _ (setField (.ref it) 1 (rawInt ((i:Int)+1)) >>= _) _ _ s
 refine A9 (Ct b1 b3 (by simp) ?_)
 have on:(s.heap.update it (Obj.mapFields (·.setIfInBounds 1 (rawInt ((i:Int)+1))))).IsKeyIter it d (i+1) es.size ep :=
  ⟨_,Ca _ b1 (Obj.isFreed_of_fields (Du b3 _)),(Obj.cls_mapFields ..).trans b2,by rw [Du b3];simp [rawInt]⟩
 refine A9 (Cm (A9 (wpAny_isOneOf_keyiter (s:={ s with heap:=s.heap.update it (Obj.mapFields (·.setIfInBounds 1 (rawInt ((i:Int)+1)))) }) on.typeIs ?_)))
 show wpAny _ _ (pure es[i].key) _ _ _
 exact Bg (Bg ⟨_,rfl,Bg (q _ on (Heap.SameBut.update ..))⟩)
theorem stop{Q:Option Value->Shared->Prop}(hh:A.handled=none)(hit:s.heap.IsKeyIter it d i es.size ep)(x:At s.heap d es ep)(hi:es.size<=i)
 (q:∀ h',Heap.ExtBut it s.heap h'->Q none { s with heap:=h' }):wpAny (model prog w) A (pyNext (.ref it)) Q E s:=by
 obtain ⟨oi,b1,b2,b3⟩:=id hit;obtain ⟨o,a1,a2,a3⟩:=x;unfold pyNext
 refine A9 (wpAny_attempt (BL (name:=Str.ofString "__next__") hit.typeIs F.slot_dict_keyiterator_next
  (BR F.slot_dict_keyiterator_next hit.typeIs F.entry_dict_keyiterator_next ?_ (F.args_dict_keyiterator_next_1 _))))
 refine A9 (Bg (A9 (A9 ?_)))
 first | refine A9 (CG hit.typeIs (Bg ?_)) | refine A9 (CT hit.typeIs (Bg ?_))
 refine A9 (wpAny_fieldsOf b1 b3 ?_)
 have no:Builtin.Dict_items.ownsTuple "dict_keyiterator" = false:=by decide
 simp only [no,Bool.false_eq_true,if_false]
 show wpAny _ _ (if (Value.ref d == Value.none)=true then _ else _) _ _ s
 rw [if_neg (show ¬ ((Value.ref d == Value.none)=true) from Bo)];refine A9 (Bg (A9 (wpAny_dictEntries a1 a3 ?_)));rw [if_neg (by simp)];refine A9 (Bg (A9 (wpAny_dictEpoch a1 a3 ?_)));rw [if_neg (by simp)];refine Bg ?_;simp only [show ¬ ((i:Int) < 0) from by omega,if_false,C7,Array.getElem?_eq_none hi];refine A9 ?_
 first | refine A9 (CG hit.typeIs (Bg ?_)) | refine A9 (CT hit.typeIs (Bg ?_))
 show wpAny _ _ (setField (.ref it) 0 .none >>= _) _ _ s
 refine A9 (Ct b1 b3 (by simp) ?_)
 show wpAny _ _ (newExc (.type "StopIteration") [] >>= _) _ _ _
 refine A9 ?_;simp only [newExc,newTuple];refine A9 (BN ?_ (by size_fits));refine A9 (m:=firstArgMember _ _) (wpAny_of_eq (a:=Value.none) (by first | rfl | (simp only [firstArgMember];rfl)) ?_);refine BN ?_ (by size_fits);simp only [raiseNew];refine A9 (wpAny_handled ?_);rw [show A.in1.handled=none from hh];refine A9 (Bg (wpAny_throw ?_));refine A9 (wpAny_isInstance (T := "StopIteration") (b:=true) ⟨_,Bm _ rfl,rfl⟩ isSubtype_stop ?_);exact Bg (q _ (((Heap.SameBut.update ..).extBut.push _).push _))
theorem walks(hh:A.handled=none)(I d:Addr)(hne:d≠I)(es:Array DictEntry)(ep:Nat) :
 Walks prog w A I [I,d] [I] es.size (fun i v=>∃ h:i < es.size,v=es[i].key) (fun i h=>h.IsKeyIter I d i es.size ep/\At h d es ep) where
 sub:=fun b hb=>by simp at hb;simp [hb]
 frame:=fun _ _ _ st hk=>⟨st.1.at fun o e=>hk I (by simp) o e,st.2.keep fun o e=>hk d (by simp) o e⟩
 item:=fun i s Q E hi st hQ=>item st.1 st.2 hi fun h' a b=>hQ _ h' s.toks ⟨hi,rfl⟩ ⟨a,st.2.keep fun o e=>b.extBut d o hne e⟩ fun b' o hb e=>b.extBut b' o (fun h=>hb (by simp [h])) e
 done:=fun s Q E st hQ=>stop hh st.1 st.2 (Bq _) fun h' he'=>hQ h' s.toks fun b o hb e=>he' b o (fun h=>hb (by simp [h])) e
 self:=fun _ _ _ _ st hQ=>wpAny_pyIter_keyiter st.1 hQ
theorem src(lo:(d == sysModules)=false):KdlSrc prog w "dict" d d es.size (fun i v=>∃ h:i < es.size,v=es[i].key) (fun h=>At h d es ep) where
 type:=fun _ x=>x.ty
 there:=fun _ x=>⟨x.lt,x.lt⟩
 keep:=fun _ _ x hk=>x.keep fun o e=>hk d (.inl rfl) o e
 notList:=by decide
 notTuple:=by decide
 hint:=fun _ _ _ _ x q=>kdl_hint_dict x.ty q
 iter:=fun _ _ hh x=>⟨_,_,(fun _ _ q=>iter lo x q),walks hh _ d (BC x.lt) es ep,⟨⟨_,Bm _ rfl,rfl,rfl⟩,x.keep fun _ e=>Ba _ e⟩⟩
end
end RawD
namespace RawD
open PySem PySem.Spec PyProof.Rows PySem.W
section
variable{prog:Program}{w:World}{A:Around}{E:Value->Shared->Prop}{s:Shared}{d:Addr}{es:Array DictEntry}{ep:Nat}
theorem ux(lo:(d == sysModules)=false) :
 MeetsIn prog w (Builtin.«dict.__len__» ⟨[.ref d],[]⟩) (fun _ R s=>∃ es ep,At s.heap d es ep/\R (.ok (.ret (.int es.size s.toks))) { s with toks:=s.toks+1 }) :=
 .of_wp fun A R s hZ=>by
  obtain ⟨es,ep,x,h⟩:=hZ;obtain ⟨o,a1,a2,a3⟩:=x
  show wpAny _ _ (dictSize d >>= _) _ _ s
  unfold dictSize;refine A9 (A9 (wpAny_dictEntries a1 a3 (Bg ?_)))
  show wpAny _ _ (Builtin.Dict.pendingCount d >>= _) _ _ s
  refine A9 (wpAny_pendingCount_other lo (wpAny_ret_mkInt ?_));rw [Nat.add_zero];exact h
theorem len{Q:Value->Shared->Prop}(lo:(d == sysModules)=false)(x:At s.heap d es ep)(fit:(es.size:Int) < 2 ^ 63)
 (h:Q (.int es.size (s.toks+1)) { s with toks:=s.toks+1+1 }):wpAny (model prog w) A (call (.builtin "len") [.ref d]) Q E s:=by
 refine Calls.call_function_entry kind_len plain_len entry_len (args_len1 _) ?_;unfold Builtin.«len»;refine A9 (m:=oneArg "len" _) (Bg ?_)
 refine A9 (m:=callSpecial? (.ref d) (Str.ofString "__len__")) (BL (name:=Str.ofString "__len__") x.ty F.slot_dict_len
  (call_meetsIn F.slot_dict_len x.ty F.entry_dict_len (F.args_dict_len_1 _) (ux lo) ⟨es,ep,x,?_⟩))
 show wpAny _ _ _ _ _ { s with toks:=s.toks+1 }
 refine A9 (Cm (Bg (A9 (wpAny_letGo ?_))))
 show wpAny _ _ (if ((es.size:Nat):Int) < 0 then _ else _) _ _ _
 rw [if_neg (by omega)]
 show wpAny _ _ (if ((es.size:Nat):Int)>=2 ^ 63 then _ else _) _ _ _
 rw [if_neg (by omega)];exact A9 (wpAny_mkInt (Bg ⟨_,rfl,h⟩))
end
end RawD
namespace L2
open PySem PySem.Spec PyProof.Rows
section
variable{X:Cx}
theorem qV{P:Program}{w:World}{H:Hp}{h:Heap}{a:Addr}{kvs:List (List Key×V)}(ok:HOk P w H h)(e:H a=some (.dT kvs)) :
 kvs.length<=sizeLine/\(a == sysModules)=false/\(kvs.map (·.1)).Nodup/\∃ es ep,RawD.At h a es ep/\es.size=kvs.length/\∀ i (hi:i < es.size),∃ b k v,es[i].key = .ref b/\kvs[i]?=some (k,v)/\H b=some (.tup (k.map kV)):=by
 obtain ⟨z,y,xs,r,o,es,ep,h1,h2,h3,h4,h5⟩:=(show bB P w H h a (.dT kvs) from ok a _ e);have hl:=r.length
 have hl2:es.size=xs.length:=by
  have:=congrArg List.length h4;simpa using this
 have keys:∀ {l:List (List Key×V)} {m:List (List Key×Addr×Value)},
  Paired (fun (p:List Key×V) (q:List Key×Addr×Value)=>p.1=q.1/\H q.2.1=some (.tup (p.1.map kV))/\az p.2 q.2.2) l m->l.map (·.1)=m.map (·.1):=by
  intro l m pr
  induction pr with
  | nil=>rfl
  | cons hd _ ih=>rw [Bu,Bu,ih,hd.1]
 refine ⟨z,y,by rw [keys r];exact h5,es,ep,⟨o,h1,h2,h3⟩,hl2.trans hl.symm,fun i hi=> ?_⟩
 have hx:i < xs.length:=by omega
 have get:∀ {l:List (List Key×V)} {m:List (List Key×Addr×Value)} {i:Nat} {q:List Key×Addr×Value},
  Paired (fun (p:List Key×V) (q:List Key×Addr×Value)=>p.1=q.1/\H q.2.1=some (.tup (p.1.map kV))/\az p.2 q.2.2) l m->m[i]?=some q->∃ p,l[i]?=some p/\p.1=q.1/\H q.2.1=some (.tup (p.1.map kV)):=by
  intro l m i q pr
  induction pr generalizing i with
  | nil=>intro e;simp at e
  | cons hd _ ih =>
   intro e
   cases i with
   | zero=>simp at e;subst e;exact ⟨_,rfl,hd.1,hd.2.1⟩
   | succ i=>simp at e;exact ih e
 obtain ⟨p,e1,_,e2⟩:=get (i:=i) r (Bb hx);refine ⟨xs[i].2.1,p.1,p.2,?_,e1,e2⟩
 have:es[i]=entryOfKey (tupleKind (aU P w)) xs[i]:=by
  have q:es.toList[i]?=some (entryOfKey (tupleKind (aU P w)) xs[i]):=by rw [h4];simp [hx]
  rw [Dd,Cu hi] at q;exact Option.some.inj q
 rw [this];rfl
theorem u4:aJ X (.builtin "len") (fun xs H Q=>∃ a kvs,xs=[V.ref a]/\H a=some (.dT kvs)/\Q (.int kvs.length) H):=by
 intro pins s σ H xs us Q I r h;obtain ⟨a,kvs,rfl,ha,q⟩:=h;obtain ⟨u,rfl,ru⟩:=bV r;cases ru;obtain ⟨z,lo,_,es,ep,x,hl,_⟩:=qV I.hok ha;exact RawD.len lo x (by rw [hl];rw [sizeLine_eq] at z;omega) ⟨.int kvs.length,H,I.tok _,⟨_,by rw [hl]⟩,q⟩
theorem rV(hc:X.calm=true):aJ X (.type "list") (fun xs H Q=>∃ a kvs,xs=[V.ref a]/\H a=some (.dT kvs) /\
 ∀ l bs,H l=none->(kvs.map (·.1)).Nodup->bs.length=kvs.length->(∀ (i:Nat) k v,kvs[i]?=some (k,v)->∃ b,bs[i]?=some (V.ref b)/\H b=some (.tup (k.map kV)))->Q (.ref l) (upd H l (.lst bs))):=by
 intro pins s σ H xs us Q I r h;obtain ⟨a,kvs,rfl,ha,q⟩:=h;obtain ⟨u,rfl,ru⟩:=bV r;cases ru;obtain ⟨z,lo,nd,es,ep,x,hl,hk⟩:=qV I.hok ha
 refine PySem.W.kdl_call (RawD.src (ep:=ep) (es:=es) lo) (I.ok.hd hc) x (by rw [hl];exact z) fun h' tk acc c keep hD hacc=> ?_
 have hf:H s.heap.objs.size=none:=I.hok.fresh (Bq _);have hlen:acc.size=es.size:=hacc.1
 let bs:List V:=acc.toList.map fun u=>match u with | .ref b=>V.ref b | _=>V.non
 have key:∀ i (hi:i < acc.size),∃ b k v,acc[i] = .ref b/\kvs[i]?=some (k,v)/\H b=some (.tup (k.map kV)):=fun i hi=>by
  obtain ⟨hi',e⟩:=hacc.2 i acc[i] (by simp [hi]);obtain ⟨b,k,v,e1,e2,e3⟩:=hk i hi';exact ⟨b,k,v,e.trans e1,e2,e3⟩
 have hv:aA bs acc.toList:=by
  have gen:∀ (l:List Value),(∀ u∈l,∃ b,u = .ref b)->aA (l.map fun u=>match u with | .ref b=>V.ref b | _=>V.non) l:=by
   intro l
   induction l with
   | nil=>intro _;exact .nil
   | cons u l ih =>
    intro h;obtain ⟨b,rfl⟩:=h u Bn;exact .cons rfl (ih fun v hv=>h v (Bi _ hv))
  refine gen acc.toList fun u hu=> ?_
  obtain ⟨i,hi,e⟩:=Cv.mp hu
  have hi':i < acc.size:=by simpa using hi
  obtain ⟨b,k,v,e1,_⟩:=key i hi';exact ⟨b,by rw [<- e];simpa using e1⟩
 have hbl:bs.length=kvs.length:=by
  show (acc.toList.map _).length=_
  rw [Be,BQ,hlen,hl]
 refine ⟨.ref s.heap.objs.size,upd H s.heap.objs.size (.lst bs),?_,rfl,q _ bs hf nd hbl fun i k v e=> ?_⟩
 ·exact I.laid (t':=tk) keep (Bq _) ⟨by rw [hbl];exact z,acc.toList,c,hv,by simpa using hD⟩
 ·have hi:i < acc.size:=by
   have:=(Bs.mp e).1;omega
  obtain ⟨b,k',v',e1,e2,e3⟩:=key i hi;rw [e] at e2;cases e2;refine ⟨b,?_,e3⟩
  show (acc.toList.map _)[i]?=_
  rw [BI,Dd,Cu hi,e1];rfl
theorem vh:∀ (bs:List Bool),(List.range bs.length).all (fun i=>bs.getD i false)=bs.all id:=fun bs=>by
 rw [Cz];simp only [Bx,BK]
 constructor
 ·intro h b hb
  obtain ⟨i,hi,e⟩:=Cv.mp hb;have:=h i hi;rw [BE,Bb hi,e] at this;exact this
 ·intro h i hi
  rw [BE,Bb hi];exact h _ (Ck hi)
theorem xK(hc:X.calm=true):aJ X (.builtin "all") (fun xs H Q=>∃ (p:Addr) (bs:List Bool),xs=[V.ref p]/\SqL X.K H p (bs.map V.bl)/\Q (.bl (bs.all id)) H):=by
 intro pins s σ H xs us Q I r h;obtain ⟨p,bs,rfl,hq,q⟩:=h;obtain ⟨u,rfl,ru⟩:=bV r;cases ru;obtain ⟨its,rv,pl,hz⟩:=I.list hq;have hlen:=rv.length;rw [Be] at hlen
 have hlt:p < s.heap.objs.size:=by
  obtain ⟨o,n,e,_⟩:=pl;exact Bk e
 refine call_all_walk (CM pl.isList ⟨s.heap.objs.size,_,_,its.toArray.size,_,_,fun i=>bs.getD i false,rfl,Walks.list (show X.A.in1.handled=none from I.ok.hd hc) s.heap.objs.size p (BC hlt) its.toArray,
  ⟨⟨_,Bm _ rfl,rfl,rfl⟩,pl.isList.at fun o e=>Ba _ e⟩,fun i v s' Q' E' hP hQ'=> ?_,fun h' tk hk=> ?_⟩)
 ·have hP:its.toArray[i]?=some v:=hP
  have hi:i < bs.length:=by
   have:=(Array.getElem?_eq_some_iff.mp hP).1;rw [Bh] at this;omega
  obtain ⟨u,e1,e2⟩:=rv.get (i:=i) (x:=V.bl bs[i]) (by simp [hi])
  have:v = .bool bs[i]:=by
   rw [show its.toArray[i]?=its[i]? by simp,e1] at hP;cases hP;exact e2
  subst this;have hQ':Q' (bs.getD i false) s':=hQ';rw [show bs.getD i false=bs[i] by simp [BE,hi]] at hQ';exact Co hQ'
 ·refine ⟨.bl (bs.all id),H,?_,?_,q⟩
  ·exact I.kept (h':=h') (t':=tk) fun b o e=>hk b o (by have:=Bk e;simp;exact BC this) (Ba _ e)
  ·show Value.bool _=Value.bool _
   rw [Bh,<- hlen,vh]
theorem wb(lo hi i:Int):(Builtin.Range.rangePlace? lo hi 1 i).isSome=decide (lo<=i/\i < hi):=by
 unfold Builtin.Range.rangePlace?
 by_cases h:lo<=i/\i < hi
 ·rw [Bl h]
  simp [h.1,h.2,Int.emod_one]
 ·rw [Br h]
  by_cases h1:lo<=i
  ·have h2:¬ i < hi:=fun q=>h ⟨h1,q⟩
   simp [h1,h2]
  ·simp [h1]
section
open PySem.SeqAt
open PySem.AutoSeq1 (wpAny_loadPart')
open PySem.MeetsSeq PySem.MeetsSeq2 PySem.MeetsSeq3
theorem uh(l:Addr)(lo hi i:Int)(a b c t:Tok):Meets (Builtin.«range.__contains__» ⟨[.ref l,.int i t],[]⟩)
 (fun _ R s=>s.heap.get? l=some { cls:= .type "range",data:= .fields #[.int lo a,.int hi b,.int 1 c] }/\R (.ok (.ret (.bool (decide (lo<=i/\i < hi))))) s) :=
 .of_wp fun prog w A R s h=>by
  obtain ⟨hp,g,d,tk,os⟩:=s;obtain ⟨hl,h⟩:=h;rw [<- wb] at h
  wp_walk using Cc hl
  exact ⟨_,rfl,h⟩
end
def rInR(neg:Bool):R2:=fun x y H Q=>∃ (l:Addr) (i lo hi:Int),x = .int i/\y = .ref l/\H l=some (.rng lo hi)/\Q (.bl (if neg then !decide (lo<=i/\i < hi) else decide (lo<=i/\i < hi))) H
theorem op_inR:OpR X (compareOp .In) (rInR false):=by
 intro pins s σ H x y v u Q I rx ry h;obtain ⟨l,i,lo,hi,rfl,rfl,hl,q⟩:=h;obtain ⟨t,rfl⟩:=rx;cases ry;obtain ⟨a,b,c,e⟩:=(show bB X.prog X.w H s.heap l (.rng lo hi) from I.hok l _ hl);exact PySem.SeqRoads2.in_meets ⟨_,e,rfl⟩ F.slot_range_contains F.entry_range_contains (F.args_range_contains_2 _ _) (uh l lo hi i a b c t) ⟨e,_,rfl,⟨.bl _,H,I,rfl,q⟩⟩
theorem Af{prog:Program}{w:World}{A:Around}{E:Value->Shared->Prop}{s:Shared}{t b:Addr}{ws:List Value}{Q:Value->Shared->Prop}(ht:IsTup s.heap t #[])(hb:IsTup s.heap b ws.toArray)(h:Q (.ref b) s) :
 wpAny (model prog w) A (binaryOp .Add (.ref t) (.ref b)) Q E s:=by
 obtain ⟨⟨cls,dd,data,sl⟩,ho,hc,n,hd⟩:=id ht;obtain ⟨⟨cls2,dd2,data2,sl2⟩,ho2,hc2,n2,hd2⟩:=id hb;simp only at hc hd hc2 hd2;subst hc hd hc2 hd2
 exact concat_meets ⟨_,ho,rfl⟩ ⟨_,ho2,rfl⟩ noFill_tuple_add seq_tuple_add PySem.F.slot_tuple_add PySem.F.entry_tuple_add (PySem.F.args_tuple_add_2 _ _)
  (tuple_addW0 t b #[] ws.toArray n n2 dd dd2 sl sl2 (by simp)) ⟨ho,ho2,h⟩
end
end L2
namespace HT
open PySem PySem.Spec PyProof.Rows
section
variable{prog:Program}{w:World}{A:Around}{E:Value->Shared->Prop}{s:Shared}
theorem gE{t sl:Addr}{items:Array Value}{vl vu:Value}{lo hi:Option Int}{Q:Value->Shared->Prop}(ht:IsTup s.heap t items)(hs:s.heap.IsSliceOf sl vl vu .none)(pl:IsPart vl lo)(pu:IsPart vu hi)
 (hw:sIx items.size 0 lo=0/\sIx items.size items.size hi=items.size) (h:Q (.ref t) s):wpAny (model prog w) A (getItem (.ref t) (.ref sl)) Q E s:=by
 obtain ⟨os,hos,hcs,hds⟩:=id hs;have hTs:s.TypeIs (.ref sl) "slice" := ⟨os,hos,hcs⟩;unfold getItem
 try with_reducible refine Cm ?_
 first | refine A9 (Bg ?_) | skip
 refine A9 (wpAny_sequenceKey ht.typeIs (by decide) ?_)
 refine A9 (BL (name:=Str.ofString "__getitem__") ht.typeIs PyProof.Rows.slot_tuple_getitem
  (BR PyProof.Rows.slot_tuple_getitem ht.typeIs entry_tuple_getitem ?_ (args_tuple_getitem _ _)))
 show wpAny _ _ (Builtin.Tuple.tupleItemsOf (.ref t) >>= _) _ _ s
 refine A9 (tupleItemsOf_ ht (A9 (wpAny_typeOf hTs ?_)));rw [if_pos (by decide)];refine A9 (eC hs pl pu ?_)
 show wpAny _ _ (if (((sIx items.size 0 lo:Nat):Int) == 0&&(1:Int) == 1&&(sIx items.size items.size hi - sIx items.size 0 lo) == items.size)=true then _ else _) _ _ s
 rw [if_pos (by rw [hw.1,hw.2];simp)];unfold Builtin.Tuple.tupleIsExact;refine A9 (A9 (wpAny_typeOf ht.typeIs (Bg ?_)));rw [if_pos (by decide)];exact A9 (wpAny_rule (Bg ⟨_,rfl,Bg h⟩))
end
end HT
namespace L2
open PySem PySem.Spec PyProof.Rows
section
variable{X:Cx}
end
end L2
namespace Srt
open PySem PySem.W PyProof.Rows
def All{α:Type}(n:Nat)(P:α->Prop):KasT α->Prop
 | .ret a=>P a
 | .ask i j k=>i < n/\j < n/\∀ b,All n P (k b)
theorem All.bind{α β:Type}{n:Nat}{P:β->Prop}{f:α->KasT β}:∀ {t:KasT α},All n (fun a=>All n P (f a)) t->All n P (t.bind f)
 | .ret _,h=>h
 | .ask _ _ _,⟨h1,h2,h3⟩=>⟨h1,h2,fun b=>All.bind (h3 b)⟩
theorem All.mono{α:Type}{n:Nat}{P P':α->Prop}(hp:∀ a,P a->P' a):∀ {t:KasT α},All n P t->All n P' t
 | .ret a,h=>hp a h
 | .ask _ _ _,⟨h1,h2,h3⟩=>⟨h1,h2,fun b=>All.mono hp (h3 b)⟩
def cY(n:Nat)(p:Array Nat):Prop:=0 < n/\p.toList.Perm (List.range n)
theorem cY.lt{n:Nat}{p:Array Nat}(g:cY n p)(k:Nat):p.getD k 0 < n:=by
 by_cases h:k < p.size
 ·have e:p.getD k 0=p[k]:=by simp [Array.getD,h]
  rw [e];have m:p[k]∈List.range n:=g.2.mem_iff.mp (by simp);simpa using m
 ·have e:p.getD k 0=0:=by simp [Array.getD,h]
  rw [e];exact g.1
theorem cY.perm{n:Nat}{p p':Array Nat}(g:cY n p)(h:p'.Perm p):cY n p':=⟨g.1,(Array.perm_iff_toList_perm.mp h).trans g.2⟩
theorem cY.rev{n:Nat}{p:Array Nat}(g:cY n p)(i j:Nat):cY n (kas_rev p i j):=g.perm (mirror_perm _ _ _ _)
theorem asc{n:Nat}{p:Array Nat}(g:cY n p):∀ f k,All n (fun _=>True) (kas_asc p f k)
 | 0,_=>trivial
 | f+1,k=>⟨g.lt _,g.lt _,fun b=>by
  cases b with
  | true=>show All n _ (if true=true then _ else _);rw [if_pos rfl];trivial
  | false=>show All n _ (if false=true then _ else _);rw [if_neg Bo];exact asc g f (k+1)⟩
theorem zZ{n:Nat}:∀ f {p:Array Nat} (k q:Nat),cY n p->All n (fun r=>cY n r.1) (kas_desc f p k q)
 | 0,p,_,_,g=>g
 | f+1,p,k,q,g=>⟨g.lt _,g.lt _,fun b=>by
  cases b with
  | true =>
   show All n _ (if true=true then _ else _)
   rw [if_pos rfl]
   by_cases hq:q > 0
   ·rw [if_pos hq];exact zZ f _ _ (g.rev _ _)
   ·rw [if_neg hq];exact zZ f _ _ g
  | false =>
   show All n _ (if false=true then _ else _)
   rw [if_neg Bo];refine ⟨g.lt _,g.lt _,fun b=> ?_⟩
   cases b with
   | true=>show All n _ (if true=true then _ else _);rw [if_pos rfl];exact g
   | false=>show All n _ (if false=true then _ else _);rw [if_neg Bo];exact zZ f _ _ g⟩
theorem Au{n:Nat}{p:Array Nat}(g:cY n p)(k nrem:Nat):All n (fun r:Nat×Array Nat=>cY n r.2) (kas_tail3 k nrem p):=by
 unfold kas_tail3;exact ((asc (g.rev _ _) _ _).mono fun m _=>(show All n (fun r:Nat×Array Nat=>cY n r.2) (KasT.ret (m,kas_rev p 0 k)) from g.rev _ _)).bind
theorem qo{n:Nat}{p:Array Nat}(g:cY n p)(k nrem:Nat):All n (fun r:Nat×Array Nat=>cY n r.2) (kas_descPart k nrem p):=by
 unfold kas_descPart;refine ((zZ _ _ _ g).mono fun r hr=> ?_).bind
 by_cases h:r.2.2 > 0
 ·rw [if_pos h];exact Au (hr.rev _ _) _ _
 ·rw [if_neg h];exact Au hr _ _
theorem count{n:Nat}{p:Array Nat}(g:cY n p)(nrem:Nat):All n (fun r:Nat×Array Nat=>cY n r.2) (kas_count nrem p):=by
 unfold kas_count;refine ((asc g _ _).mono fun k _=> ?_).bind
 by_cases h:(k == nrem)=true
 ·rw [if_pos h];exact g
 ·rw [if_neg h]
  by_cases h2:k > 1
  ·rw [if_pos h2]
   refine ⟨g.lt _,g.lt _,fun b=> ?_⟩
   cases b with
   | true=>show All n _ (if true=true then _ else _);rw [if_pos rfl];exact g
   | false=>show All n _ (if false=true then _ else _);rw [if_neg Bo];exact qo (g.rev _ _) _ _
  ·rw [if_neg h2];exact qo g _ _
theorem wc{n:Nat}{p:Array Nat}(g:cY n p)(k:Nat):∀ f l r,All n (fun _=>True) (kas_place p k f l r)
 | 0,_,_=>trivial
 | f+1,l,r=>by
  unfold kas_place
  by_cases h:l>=r
  ·rw [if_pos h];trivial
  ·rw [if_neg h]
   refine ⟨g.lt _,g.lt _,fun b=> ?_⟩
   cases b with
   | true=>show All n _ (if true=true then _ else _);rw [if_pos rfl];exact wc g k f _ _
   | false=>show All n _ (if false=true then _ else _);rw [if_neg Bo];exact wc g k f _ _
theorem bin{n:Nat}:∀ f {p:Array Nat} (k:Nat),cY n p->All n (cY n) (kas_bin f p k)
 | 0,_,_,g=>g
 | f+1,p,k,g=>((wc g k k 0 k).mono fun l _=>bin f (k+1) (g.perm (bubble_perm _ _ _))).bind
theorem sort{n:Nat}(h:0 < n):All n (cY n) (kas_sort n):=by
 unfold kas_sort;have g:cY n (List.toArray (List.range n)):=⟨h,by simp⟩;refine ((count g n).mono fun r hr=> ?_).bind
 by_cases h:r.1 < n
 ·rw [if_pos h];exact bin _ _ hr
 ·rw [if_neg h];exact hr
section
variable{prog:Program}{w:World}{A:Around}{E:Value->Shared->Prop}{s:Shared}
def Tups(h:Heap)(vs:List Value):Prop:=∀ v∈vs,∃ a items ns,v = .ref a/\IsTup h a items/\IntsAre items.toList ns/\ns≠[]
theorem xw{M:Model}{h:Heap}:∀ {vs:List Value},Tups h vs->∃ fs,fs.length=vs.length/\KatTups h vs fs/\∀ v∈fs,Looks M h (typeOf v) (.type "int")
 | [],_=>⟨[],rfl,.nil,fun v hv=>by cases hv⟩
 | v::vs,t=>by
  obtain ⟨fs,h1,h2,h3⟩:=xw (M:=M) (vs:=vs) fun u hu=>t u (Bi _ hu)
  obtain ⟨a,items,ns,rfl,⟨o,g1,g2,n,g3⟩,i,ne⟩:=t v Bn
  cases hi:items.toList with
  | nil =>
   rw [hi] at i;cases i;exact absurd rfl ne
  | cons f r =>
   rw [hi] at i
   cases i with
   | cons x tk _ =>
    refine ⟨.int x tk::fs,by simp [h1],.cons g1 g2 g3 (by rw [<- Dd,hi];rfl) h2,fun u hu=> ?_⟩
    rcases Bp.mp hu with rfl | hu
    ·exact .now
    ·exact h3 u hu
end
end Srt
namespace L2
open PySem PySem.Spec PyProof.Rows
def pF:Value->V
 | .ref b=> .ref b
 | _=> .non
theorem iT:∀ {l:List Value},(∀ u∈l,∃ b,u = .ref b)->aA (l.map pF) l
 | [],_=> .nil
 | u::l,h=>by
  obtain ⟨b,rfl⟩:=h u Bn;exact .cons rfl (iT fun v hv=>h v (Bi _ hv))
theorem mP:∀ {bs:List V} {l:List Value},aA bs l->(∀ b∈bs,∃ a,b = .ref a)->bs=l.map pF/\∀ u∈l,∃ b,u = .ref b
 | _,_,.nil,_=>⟨rfl,fun u hu=>by cases hu⟩
 | _,_,.cons r t,h=>by
  obtain ⟨a,rfl⟩:=h _ Bn;cases r
  obtain ⟨e,q⟩:=mP t fun b hb=>h b (Bi _ hb)
  refine ⟨by rw [Bu,<- e];rfl,fun u hu=> ?_⟩
  rcases Bp.mp hu with rfl | hu
  ·exact ⟨a,rfl⟩
  ·exact q u hu
section
variable{X:Cx}
end
inductive Dt where
 | non | bl (b:Bool) | int (i:Int) | str (x:Str) | lst | dct | tup (ds:List Dt)
mutual
def Rep(K:Dy)(H:Hp):Dt->V->Prop
 | .non,v=>v = .non
 | .bl b,v=>v = .bl b
 | .int i,v=>v = .int i
 | .str x,v=>v = .str x
 | .lst,v=>∃ p xs,v = .ref p/\SqL K H p xs
 | .dct,v=>∃ p,v = .ref p/\((∃ kvs,H p=some (.dK kvs))\/∃ kvs,H p=some (.dT kvs))
 | .tup ds,v=>∃ p xs,v = .ref p/\SqT K H p xs/\xT K H ds xs
def xT(K:Dy)(H:Hp):List Dt->List V->Prop
 | [],[]=>True
 | d::ds,x::xs=>Rep K H d x/\xT K H ds xs
 | _,_=>False
end
theorem ac.tup{K:Dy}{H H':Hp}{a:Addr}{xs:List V}(e:ac H H')(h:SqT K H a xs):SqT K H' a xs:=by
 rcases h with (h | ⟨o,h⟩) | h
 ·exact .inl (.inl (e _ _ h))
 ·exact .inl (.inr ⟨o,e _ _ h⟩)
 ·exact .inr h
theorem ac.upd{H:Hp}{p:Addr}{o:HO}(h:H p=none):ac H (L2.upd H p o):=fun b u e=>by rw [ak (au e h)];exact e
mutual
theorem ac.rep{K:Dy}{H H':Hp}(e:ac H H'):∀ {d:Dt} {v:V},Rep K H d v->Rep K H' d v
 | .non,_,h=>h
 | .bl _,_,h=>h
 | .int _,_,h=>h
 | .str _,_,h=>h
 | .lst,_,⟨p,xs,h1,h2⟩=>⟨p,xs,h1,e.seq h2⟩
 | .dct,_,⟨p,h1,h2⟩=>⟨p,h1,h2.elim (fun hZ=>(by obtain ⟨k,q⟩:=hZ;exact .inl ⟨k,e _ _ q⟩)) fun hZ=>(by obtain ⟨k,q⟩:=hZ;exact .inr ⟨k,e _ _ q⟩)⟩
 | .tup _,_,⟨p,xs,h1,h2,h3⟩=>⟨p,xs,h1,e.tup h2,e.repL h3⟩
theorem ac.repL{K:Dy}{H H':Hp}(e:ac H H'):∀ {ds:List Dt} {xs:List V},xT K H ds xs->xT K H' ds xs
 | [],[],_=>trivial
 | _::_,_::_,h=>⟨e.rep h.1,e.repL h.2⟩
 | [],_::_,h=>h.elim
 | _::_,[],h=>h.elim
end
structure Has(K:Dy)(mg:Str->Option Value)(x:Str)(st:Stmt)(ps:List Str):Prop where
 ex:∃ f fd,Fun K x x st f fd/\mg x=some (.ref f)/\jL K fd ps []
section
variable{X:Cx}{e:Expr}{es:List Expr}{t:TA}{x:Str}{ps:List Str}{k:Nat}{sp:Sp}{p pos:Pos}
end
theorem iteB{c:Bool}{A B:Prop}(h1:c=true->A)(h2:c=false->B):if c=true then A else B:=by
 cases c with
 | true=>rw [if_pos rfl];exact h1 rfl
 | false=>rw [if_neg Bo];exact h2 rfl
section
variable{X:Cx}{Pre:St->Hp->Prop}
end
structure o3(osc:Scope)(N:List Str)(sc:Scope)(M tgs:List Str):Prop where
 kind:sc.kind = .function
 names:∀ y∈sc.names,y.2 = .local->sc.names.lookup y.1=some .local
 nocell:∀ y∈sc.names,y.2 ≠ .cell
 free:∀ y∈sc.names,y.2 = .free->osc.names.lookup y.1=some .cell\/osc.names.lookup y.1=some .free
 len:M.length=N.length
 same:∀ p∈M.zip N,p.1=p.2\/p.1=("" : Str)
 dummy:sc.names.lookup ("" : Str)=none
 hid:∀ x∈M,sc.names.lookup x≠some .local
 nd:(M++tgs).Nodup
theorem o3.ok{X:Cx}{osc:Scope}{N:List Str}{sc:Scope}{M tgs:List Str}(b:o3 osc N sc M tgs)(h1:X.env.scope=osc:=by rfl)(h2:X.N=N:=by rfl):ma X sc M tgs:=by
 subst h1 h2;exact ⟨b.kind,b.names,b.nocell,b.free,b.len,b.same,b.dummy,b.hid⟩
section
variable{κ:Type}[DecidableEq κ]
end
theorem jV{h:Heap}{a:Addr}{items:Array Value}(e:h.get? a=some { cls:= .type "tuple",data:= .seq items }):qC h a items:=⟨⟨_,e,rfl,_,rfl⟩,fun o e'=>by rw [e] at e';cases e';rfl⟩
theorem bB.there{P:Program}{w:World}{H:Hp}{h:Heap}{a:Addr}{o:HO}(x:bB P w H h a o):∃ ob,h.get? a=some ob:=by
 cases o with
 | lst xs=>obtain ⟨_,_,_,_,e⟩:=x;exact ⟨_,e⟩
 | tup xs=>obtain ⟨_,_,_,⟨ob,e,_⟩,_⟩:=x;exact ⟨ob,e⟩
 | dK kvs=>obtain ⟨_,_,_,_,o,_,_,e,_⟩:=x;exact ⟨_,e⟩
 | dT kvs=>obtain ⟨_,_,_,_,o,_,_,e,_⟩:=x;exact ⟨_,e⟩
 | set S n=>obtain ⟨o,_,_,_,e,_⟩:=x;exact ⟨_,e⟩
 | ins C dx fs=>obtain ⟨_,_,_,e,_⟩:=x;exact ⟨_,e⟩
 | own y=>exact x
 | xd fs=>obtain ⟨_,⟨_,_,_,e,_⟩,_⟩:=x;exact ⟨_,e⟩
 | rng lo hi=>obtain ⟨_,_,_,e⟩:=x;exact ⟨_,e⟩
 | frz ob u=>obtain ⟨e,_⟩:=x;exact ⟨_,e⟩
 | tbl ps=>exact ⟨_,(show h.get? a=some _ from x)⟩
 | met f y=>exact ⟨_,(show h.get? a=some _ from x)⟩
 | ext φ=>obtain ⟨_,e,_⟩:=x;exact e
theorem HOk.none_of{P:Program}{w:World}{H:Hp}{h:Heap}{a:Addr}(x:HOk P w H h)(e:h.get? a=none):H a=none:=by
 cases q:H a with
 | none=>rfl
 | some u =>
  obtain ⟨ob,z⟩:=(x a u q).there;rw [e] at z;cases z
structure xR(fs:List Addr)(ea T:Addr)(h h':Heap):Prop where
 keep:∀ b o,h.get? b=some o->b∉fs->b≠ea->b≠T->h'.get? b=some o
 slot:∀ b o,h.get? b=some o->b∈fs->∃ sl,h'.get? b=some { o with slots:=sl }
structure gQ(g:Heap)(H:Hp)(ea T:Addr)(cls:Value)(h:Heap):Prop where
 obj:∃ (oe:Obj) (vs:Array Value) (oT:Obj) (ts:Array Value) (a0:Value),h.get? ea=some oe/\(oe.cls=cls/\vs[0]?=some a0)/\oe.data = .fields vs/\vs[1]?=some (.ref T)/\T≠ea/\h.get? T=some oT/\oT.data = .fields ts/\ts[3]?=some .none
 he:H ea=none
 hT:H T=none
 ge:g.get? ea=none
 gT:g.get? T=none
section
variable{P:Program}{w:World}{fs fs' ex:List Addr}{H₀ H:Hp}{g g₀ h h' base:Heap}{ea T:Addr}{cls:Value}{l l':List Env}
theorem gQ.older(F:gQ g H ea T cls h)(k:∀ b o,g₀.get? b=some o->∃ o',g.get? b=some o'):gQ g₀ H ea T cls h:=by
 refine ⟨F.obj,F.he,F.hT,?_,?_⟩
 ·cases q:g₀.get? ea with
  | none=>rfl
  | some o=>obtain ⟨o',z⟩:=k _ _ q;rw [F.ge] at z;cases z
 ·cases q:g₀.get? T with
  | none=>rfl
  | some o=>obtain ⟨o',z⟩:=k _ _ q;rw [F.gT] at z;cases z
theorem gQ.flyingW(F:gQ g H ea T cls h)(hl:h.FunFrames base l):∃ a0,Heap.FlyingW (PySem.W.hideAll h (ea::T::frs l)) l ea cls a0 h:=by
 obtain ⟨oe,vs,oT,ts,a0,h1,h2,h3,h4,h5,h6,h7,h8⟩:=F.obj;refine ⟨a0,fun b o e=>PySem.W.of_hideAll _ e,PySem.W.hideAll_none _ Bn,PySem.W.funFrames_hide hl (fun env he a hf=> ?_),oe,vs,T,oT,ts,h1,h2,h3,h4,PySem.W.hideAll_none _ (Bi _ Bn),h5,h6,h7,h8⟩;exact Bi _ (Bi _ (Dv.mpr ⟨env,he,hf⟩))
theorem lI(F:gQ g H ea T cls h)(hl:h.FunFrames base l)(hok:HOk P w H h)(hg:∀ b o,g.get? b=some o->∃ o',h.get? b=some o'){a0:Value}
 (x:Heap.FlyingW (PySem.W.hideAll h (ea::T::frs l)) l' ea cls a0 h') (up:h.UpToSlots h'):xR (frs l) ea T h h'/\∃ T',gQ g H ea T' cls h':=by
 obtain ⟨x1,x2,x3,oe,vs,T',oT,ts,y1,y2,y3,y4,y5,y6,y7,y8,y9⟩:=x
 have slot:∀ b o,h.get? b=some o->b∈frs l->∃ sl,h'.get? b=some { o with slots:=sl }:=fun b o e hb=>by
  obtain ⟨_,o',ho',nf⟩:=hl.mem hb;rw [e] at ho';cases ho';exact up b o e nf
 refine ⟨⟨fun b o e n1 n2 n3=>x1 b o (CQ _ e (by simp [n1,n2,n3])),slot⟩,T',?_⟩
 have fr:H T'=none/\g.get? T'=none:=by
  by_cases q:T'=T
  ·subst q;exact ⟨F.hT,F.gT⟩
  ·have nf:T'∉frs l:=fun hb=>by
    obtain ⟨_,o,ho,nf⟩:=hl.mem hb;obtain ⟨sl,z⟩:=slot T' o ho hb;rw [y7] at z;cases z;exact nf ts y8
   have hn:h.get? T'=none:=by
    cases z:h.get? T' with
    | none=>rfl
    | some o =>
     have:=CQ (ea::T::frs l) z (by simp [nf,q,y6]);rw [y5] at this;cases this
   refine ⟨hok.none_of hn,?_⟩
   cases z:g.get? T' with
   | none=>rfl
   | some o=>obtain ⟨o',z'⟩:=hg _ _ z;rw [hn] at z';cases z'
 exact ⟨⟨oe,vs,oT,ts,a0,y1,y2,y3,y4,y6,y7,y8,y9⟩,F.he,fr.1,F.ge,fr.2⟩
theorem Un.turn(u:Un fs ex H₀ H g h)(t:xR fs' ea T h h')(ge:g.get? ea=none)(gT:g.get? T=none)(h1:∀ b∈fs,b∈fs')(h2:∀ b∈fs',b∉fs->g.get? b=none):Un fs ex H₀ H g h' where
 keep:=fun b o q n hb hx=>t.keep b o (u.keep b o q n hb hx) (fun z=>by rw [h2 b z hb] at q;cases q) (fun z=>by rw [z,ge] at q;cases q) (fun z=>by rw [z,gT] at q;cases q)
 slot:=fun b o q n hb hx=>by
  obtain ⟨sl,e⟩:=u.slot b o q n hb hx;obtain ⟨sl',e'⟩:=t.slot b _ e (h1 b hb);exact ⟨sl',e'⟩
 free:=u.free
 there:=fun b o q hx=>by
  obtain ⟨o',e⟩:=u.there b o q hx
  by_cases hb:b∈fs'
  ·obtain ⟨sl,e'⟩:=t.slot b o' e hb
   exact ⟨_,e'⟩
  ·exact ⟨o',t.keep b o' e hb (fun z=>by rw [z,ge] at q;cases q) (fun z=>by rw [z,gT] at q;cases q)⟩
 tups:=u.tups
 frzs:=u.frzs
 tbls:=u.tbls
theorem HOk.turn(x:HOk P w H h)(t:xR fs ea T h h')(he:H ea=none)(hT:H T=none)(hf:∀ b∈fs,H b=none):HOk P w H h':=fun a o e=>by
 have ne:∀ b,(b=a\/H b=some (.own a))->H b≠none:=fun b hb z=>by
  rcases hb with rfl | hb
  ·rw [z] at e;cases e
  ·rw [z] at hb;cases hb
 exact (x a o e).stay (fun b u hb q=>t.keep b u q (fun z=>ne b hb (hf b z)) (fun z=>ne b hb (z ▸ he)) (fun z=>ne b hb (z ▸ hT))) (fun _ q=>q) fun _ _ q=>q
end
def CXr(P:Program)(w:World):CXT:=fun outer H s E e s'=>∃ ea T cls H',e = .ref ea/\s'.os=s.os/\AllBare s'.gens/\Un (frs outer) [] H H' s.heap s'.heap/\HOk P w H' s'.heap/\gQ s.heap H' ea T cls s'.heap/\E cls none H'
section
variable{P:Program}{w:World}{K:Dy}{mg:Str->Option Value}{base:Heap}{N:List Str}{qual:Str}{scope:Scope}{f:Addr}{cd:Value}{A:Around}{outer:List Env}{s:Shared}{H:Hp}{E E':XK}
theorem qe{env:Env}{L:Addr}{l:List Env}(h:env.frame=some L):frs (env::l)=L::frs l:=by unfold frs;rw [Dr,h]
theorem wq(himp:∀ c d H,E' c d H->E c d H):sk (CXr P w) (bT (CXr P w) P w K mg base N qual scope f cd A outer s H E) E':=by
 intro pins σ H1 s1 e s2 I hx;obtain ⟨ea,T,cls,H2,rfl,os,bare,un,hok,fl,e1⟩:=hx
 have I2:Inv (bT (CXr P w) P w K mg base N qual scope f cd A outer s H E) pins σ H2 s2:=I.call' (ch:=[]) os un hok bare fun b z=>absurd z (by simp)
 have fl:=fl.older (g₀:=s.heap) fun b o q=>I.base.there b o q (by show b∉[];simp)
 obtain ⟨a0,fw⟩:=fl.flyingW I2.stack
 refine wpAny_leaves_onW I2.ok.frames rfl fw fun h' x1 x2=> ?_
 obtain ⟨tn,T',fl'⟩:=lI fl I2.stack hok (fun b o q=>I2.base.there b o q (by show b∉[];simp)) x1 x2;have e2:frs (bT (CXr P w) P w K mg base N qual scope f cd A outer s H E).stack=s.heap.objs.size::frs outer:=qe rfl;refine ⟨ea,T',cls,H2,rfl,I2.os,bare,Un.turn I2.base tn fl.ge fl.gT (fun b hb=> ?_) (fun b hb nb=> ?_),hok.turn tn fl.he fl.hT I2.stkFree,fl',himp _ _ _ e1⟩
 ·rw [e2];exact Bi _ hb
 ·rw [e2] at hb
  rcases Bp.mp hb with rfl | hb
  ·exact Heap.get?_none_of_le (Bq _)
  ·exact absurd hb nb
def tRaise(C:Addr)(E:XK):TS:=fun _ _ H=>E (.ref C) none H
theorem ui{x:Str}{C:Addr}{bm:List Value}{B newId initId:String}{np cpos pos:Pos}(O:OwnCls x C bm newId mg base)(FB:ExcBaseFacts B newId initId bm)(hh:(A.deeper (envOfC qual scope s.heap.objs.size f cd)).handled=none)
 (hg:Gl (bT (CXr P w) P w K mg base N qual scope f cd A outer s H E) x) (hd:(x == ("__debug__" : Str))=false:=by decide):PS (bT (CXr P w) P w K mg base N qual scope f cd A outer s H E) (.Raise (some (.Call (.Name x np) [] [] cpos)) none pos) (tRaise C E):=by
 intro pins s1 σ H1 D I h;obtain ⟨tl,N',nm,q,bs,hdct,sn,sub,ab,col,dd,k0,k1,k2,k3,k5,mN,hC,hN,hni,T⟩:=O.obj
 refine wpAny_Raise_call_subT (C:=C) (nm:=nm) (q:=q) (N:=N') (bs:=bs) (bm:=tl) (hdct:=hdct) (sn:=sn) (sub:=sub) (ab:=ab) (col:=col) (dd:=dd) (k0:=k0) (k1:=k1) (k2:=k2) (k3:=k3) (k5:=k5)
  FB (mN:=mN) (T.hasType FB.hasBase) hh rfl hni (gv I hg O.bound ⟨rfl,?_⟩ hd)
 refine evalArgs_empty ⟨rfl,Nat.zero_le _,I.bk _ _ hC,hN.keeps I.bk,T.keeps I.bk,fun h' e hm=> ?_⟩
 have hin:∀ env∈(bT (CXr P w) P w K mg base N qual scope f cd A outer s H E).stack,∀ b,env.frame=some b->b∈frs (bT (CXr P w) P w K mg base N qual scope f cd A outer s H E).stack:=fun env he b hb=>Dv.mpr ⟨env,he,hb⟩
 refine wpAny_leaves_madeW (base:=PySem.W.hideAll s1.heap (frs (bT (CXr P w) P w K mg base N qual scope f cd A outer s H E).stack)) (h:=s1.heap) I.ok.frames rfl (fun b o q=>PySem.W.of_hideAll _ q) (PySem.W.funFrames_hide I.stack hin) hm fun h'' t x1 x2 x3 x4=> ?_
 obtain ⟨y1,y2,y3,oe,vs,T',oT,ts,z1,z2,z3,z4,z5,z6,z7,z8,z9⟩:=x1
 have tn:xR (frs (bT (CXr P w) P w K mg base N qual scope f cd A outer s H E).stack) e T' s1.heap h'':=by
  refine ⟨fun b o q n1 _ _=>y1 b o (CQ _ q n1),fun b o q hb=> ?_⟩;obtain ⟨_,o',ho',nf⟩:=I.stack.mem hb;rw [q] at ho';cases ho';exact x4 b o (hm.keeps b o q) nf
 have hT:s1.heap.get? T'=none:=by
  have nf:T'∉frs (bT (CXr P w) P w K mg base N qual scope f cd A outer s H E).stack:=fun hb=>by
   obtain ⟨_,o,ho,nf⟩:=I.stack.mem hb;obtain ⟨sl,z⟩:=tn.slot T' o ho hb;rw [z7] at z;cases z;exact nf ts z8
  cases z:s1.heap.get? T' with
  | none=>rfl
  | some o =>
   have:=CQ _ z nf;rw [z5] at this;cases this
 have e2:frs (bT (CXr P w) P w K mg base N qual scope f cd A outer s H E).stack=s.heap.objs.size::frs outer:=qe rfl
 have fl:gQ s.heap H1 e T' (.ref C) h'':=by
  refine gQ.older (g:=s1.heap) ⟨⟨oe,vs,oT,ts,_,z1,z2,z3,z4,z6,z7,z8,z9⟩,I.hok.none_of hm.new,I.hok.none_of hT,hm.new,hT⟩ fun b o q=>I.base.there b o q (by show b∉[];simp)
 refine ⟨e,T',.ref C,H1,rfl,I.os,I.bare,Un.turn I.base tn fl.ge fl.gT (fun b hb=> ?_) (fun b hb nb=> ?_),I.hok.turn tn fl.he fl.hT I.stkFree,fl,h⟩
 ·rw [e2];exact Bi _ hb
 ·rw [e2] at hb
  rcases Bp.mp hb with rfl | hb
  ·exact Heap.get?_none_of_le (Bq _)
  ·exact absurd hb nb
end
structure OkX(P:Program)(w:World)(K:Dy)(mg:Str->Option Value)(base:Heap)(x:Str)(ps:List Str)(k:Nat)(sp:Sp):Prop where
 ex:∃ f fd,mg x=some (.ref f)/\PySem.W.keepIn K (.ref f)=true/\jL K fd ps []/\l9 P w K mg base (CXr P w) k f fd ps sp
theorem Has.okX{P:Program}{w:World}{K:Dy}{mg:Str->Option Value}{base:Heap}{x:Str}{st:Stmt}{N ps:List Str}{k:Nat}{sp:Sp}(h:Has K mg x st ps)(S:cN N ps (ae st))(len:∀ vs H Q E,sp vs H Q E->vs.length=ps.length)
 (hbody:∀ (f:Addr) (cdv:Value) (A:Around) (outer:List Env) (s:Shared) (H:Hp) (vs:List V) (Q:VK) (E:XK),cj k (A.deeper (envOfC x (ae st) s.heap.objs.size f cdv))->sp vs H Q E ->
   ∃ t,PSs (bT (CXr P w) P w K mg base N x (ae st) f cdv A outer s H E) (bw st) t/\t { nx:=fun _ H'=>Q .non H',rt:=Q } (cP N vs) H):OkX P w K mg base x ps (k+1) sp:=by
 obtain ⟨f,fd,F,hm,hb⟩:=h.ex;obtain ⟨oc,od,kV,doc,pm,an,cdv,ct,osl,rfl,lk,hcd⟩:=F.ex;exact ⟨f,_,hm,F.kp,hb,A3 lk hcd S len fun A outer s H vs Q E hr hsp=>hbody f cdv A outer s H vs Q E hr hsp⟩
section
variable{X:Cx}{e:Expr}{es:List Expr}{t:TA}{x:Str}{ps:List Str}{k:Nat}{sp:Sp}{p pos:Pos}
end
theorem Inv.frame{X:Cx}{pins:List (Addr×Obj)}{σ σ':St}{H:Hp}{s:Shared}{h':Heap}{t':Nat}{m':Str->Option Value}(I:Inv X pins σ H s)(hn':h'.Ns X.env.locals m')(hs:Heap.SameBut X.env.locals s.heap h')
 (hl:∀ (i:Nat) (x:Str) (v:V),X.N[i]?=some x->σ'[i]?=some (some v)->Vis X.env.scope x->∃ u,az v u/\Look X.env h' m' x u) (len:σ'.length=σ.length):Inv X pins σ' H { s with heap:=h',toks:=t' }:=by
 have neL:∀ b o,X.s₀.heap.get? b=some o->b≠X.env.locals:=fun b o e=>BC (BD (Bk e) I.ok.above)
 have tracked:HOk X.prog X.w H h':=fun b ob e=>by
  refine (I.hok b ob e).stay (fun c w' hc q=>(hs.2 c ?_).trans q) (fun _ q=>q) fun _ _ q=>q
  rintro rfl
  rcases hc with rfl | hc
  ·rw [I.free] at e;cases e
  ·rw [I.free] at hc;cases hc
 refine ⟨I.ok,I.os,I.bare,⟨fun b o e n hb hx=> ?_,fun b o e n hb hx=> ?_,I.base.free,fun b o e hx=> ?_,I.base.tups,I.base.frzs,I.base.tbls⟩,⟨m',hn',hl⟩,fun y c e=> ?_,I.free,I.freeC,fun p hp=> ?_,tracked,len.trans I.len⟩
 ·exact (hs.2 b (neL b o e)).trans (I.base.keep b o e n hb hx)
 ·obtain ⟨sl,e1⟩:=I.base.slot b o e n hb hx
  exact ⟨sl,(hs.2 b (neL b o e)).trans e1⟩
 ·obtain ⟨o',e1⟩:=I.base.there b o e hx
  exact ⟨o',(hs.2 b (neL b o e)).trans e1⟩
 ·obtain ⟨w',z⟩:=I.cell y c e
  exact ⟨w',z.sameBut hs (I.cne y c e)⟩
 ·obtain ⟨e,n,ne,nf,d⟩:=I.pin p hp
  exact ⟨(hs.2 p.1 ne).trans e,n,ne,nf,d⟩
theorem gu{X:Cx}{pins:List (Addr×Obj)}{σ:St}{H:Hp}{s:Shared}{M:Model}{A:Around}{E:Value->Shared->Prop}{Q:Unit->Shared->Prop}{i:Nat}{n:Str}{pos:Pos}(I:Inv X pins σ H s)(hN:X.N.Nodup)(hi:X.N[i]?=some n)(hlo:X.env.scope.names.lookup n=some .local)
 (h:∀ s',Inv X pins (σ.set i none) H s'->Q () s'):wpAny M A (do bindName X.env n .none;unbindBehindTheSuite X.env n pos) Q E s:=by
 have hl:X.env.kindOf n=some .local:=hlo
 have hp:(X.env.scope.kind == .class||(X.env.scope.kind == .module&&X.env.locals != X.env.globals))=false:=by rw [I.ok.kind];rfl
 have hiσ:i < σ.length:=by rw [I.len];exact (Bs.mp hi).1
 refine A9 (wpAny_bindName (fu I hN hi (.inl hlo) (v:= .non) rfl (fun s1 I1=> ?_) (.inr hlo)));obtain ⟨m,hn,hlk⟩:=id I1.loc
 have hmn:m n=some Value.none:=by
  obtain ⟨u,r,q⟩:=hlk i n .non hi (B1 hiσ) (.inl hlo);cases r
  rcases q with ⟨_,z⟩ | ⟨k,_⟩
  ·exact z
  ·rcases k with k | k<;>(rw [hl] at k;cases k)
 unfold unbindBehindTheSuite;refine wpAny_onRaise ?_;unfold unbindName;refine A9 (wpAny_point (A9 ?_));unfold deleteName;simp only [hl,hp];rw [if_neg (by decide)];refine A9 (wpAny_nsDel_keeps hn fun h2 v hn2 hs2=> ?_);rw [hmn];simp only [if_true,Option.isSome_some,Bool.not_true,Bool.false_eq_true,if_false];refine Bg (wpAny_point (h _ ?_));refine I1.frame (t':=s1.toks) hn2 hs2 (fun j y v' e1 e2 e3=> ?_) (by simp)
 have hj:j≠i:=fun z=>by
  subst z;rw [B1 hiσ] at e2;cases e2
 rw [BG (Ne.symm hj)] at e2;obtain ⟨u,r,q⟩:=hlk j y v' e1 (by rw [BG (Ne.symm hj)];exact e2) e3;refine ⟨u,r,?_⟩
 rcases q with ⟨k,e⟩ | ⟨k,c,e,z⟩
 ·refine .inl ⟨k,?_⟩
  have:y≠n:=fun e=>hj (kW hN e1 (e ▸ hi))
  simp [this,e]
 ·exact .inr ⟨k,c,e,z.sameBut hs2 (I1.cne y c e)⟩
abbrev pd(X:Cx)(pn:List (Addr×Obj))(W:Value->St->Hp->Prop):Cx :=
 { X with pn:=pn,xe:=fun e s'=>∃ σ' H1 s1,Inv { X with pn:=pn } [] σ' H1 s1/\CXr X.prog X.w X.stack H1 s1 (fun c _ H'=>W c σ' H') e s' }
abbrev gW(X:Cx)(pn:List (Addr×Obj))(ea:Addr):Cx:={ X with pn:=pn,A:=X.A.mark (some (.ref ea)),calm:=false,xe:=fun _ _=>False }
theorem Cx.Ok.suite{X:Cx}(ok:X.Ok)(pn:List (Addr×Obj))(ea:Addr):(gW X pn ea).Ok :=
 ⟨ok.mod,ok.kind,ok.glob,ok.blt,ok.above,ok.inj,ok.has,ok.cab,(fun z=>by cases z),ok.frames,ok.stk,ok.exf,ok.bs,ok.bsz,ok.noex,ok.exfs,ok.funs,ok.frf⟩
theorem Cx.Ok.try_{X:Cx}(ok:X.Ok)(pn:List (Addr×Obj))(W:Value->St->Hp->Prop):(pd X pn W).Ok :=
 ⟨ok.mod,ok.kind,ok.glob,ok.blt,ok.above,ok.inj,ok.has,ok.cab,ok.hd,ok.frames,ok.stk,ok.exf,ok.bs,ok.bsz,ok.noex,ok.exfs,ok.funs,ok.frf⟩
def lK(ea C:Addr):HO:= .ext fun h=>∃ o,h.get? ea=some o/\o.cls = .ref C
theorem qi{M:Model}{A:Around}{E:Value->Shared->Prop}{s:Shared}{K:Dy}{ea C D:Addr}{ob:Obj}{Q:Bool->Shared->Prop}(XK:K.In s.heap)(ho:s.heap.get? ea=some ob)(hc:ob.cls = .ref C)
 (h1:PySem.W.subIn K (.ref C) (.ref D)=some true) (h2:PySem.W.subIn K (.ref D) (.type "BaseException")=some true) (h3:(PySem.W.clsIn K D).isSome=true) (h4:PySem.W.typeIn K (.ref D)=some (.type "type")) (q:Q true s) :
 wpAny M A (excMatches (.ref ea) (.ref D)) Q E s:=by
 obtain ⟨hp,g,d,tk,os⟩:=s;have L1:PySem.W.Looks M hp (typeOf (.ref ea)) (.ref C):=hc ▸ (PySem.W.Looks.ld ho).andThen .now;have L2:PySem.W.Looks M hp (isSubtype (.ref C) (.ref D)) true:=PySem.W.looks_subIn XK h1;have L3:PySem.W.Looks M hp (typeOf (.ref D)) (.type "type"):=PySem.W.looks_typeIn XK h4;have L4:PySem.W.Looks M hp (isSubtype (.ref D) (.type "BaseException")) true:=PySem.W.looks_subIn XK h2
 have L5:PySem.W.Looks M hp (isType (.ref D)) true:=by
  unfold PySem.W.clsIn at h3
  split at h3
  ·rename_i c' d' cd' sl' ho'
   intro A' Q' E' s' k q;unfold isType loadHead;exact A9 (wpAny_loadPart (k _ _ (XK _ _ ho')) (Bg q))
  ·cases h3
 have f:=tc_notTuple;unfold excMatches isInstance isExcClass;refine A9 (A9 (L3.at ?_));rw [f];refine Bg ?_;simp only [Bool.false_eq_true,if_false];refine A9 (Bg ?_);simp only [Dq,List.forIn_nil,bind_assoc,pure_bind];refine A9 (L5.at ?_);simp only [if_true];refine A9 (L4.at ?_);simp only [Bool.not_true,Bool.false_eq_true,if_false,pure_bind];refine A9 (L1.at (A9 (L2.at ?_)));simp only [if_true,pure_bind];exact Bg q
def tTry(K:Dy)(tb:(Value->St->Hp->Prop)->TS)(ts:TS)(i:Nat)(Dc:Addr):TS:=fun D σ H=>∃ W,tb W D σ H/\∀ cls σ' H',W cls σ' H'->∃ C,cls = .ref C/\PySem.W.subIn K (.ref C) (.ref Dc)=some true /\
 ∀ ea,H' ea=none->ts { nx:=fun σ'' H''=>D.nx (σ''.set i none) H'',rt:=D.rt,bk:=fun σ'' H''=>D.bk (σ''.set i none) H'',ct:=fun σ'' H''=>D.ct (σ''.set i none) H'' } (σ'.set i (some (.ref ea))) (upd H' ea (lK ea C))
structure Hdl(K:Dy)(mg:Str->Option Value)(x:Str)(D:Addr):Prop where
 at_:mg x=some (.ref D)
 sub:PySem.W.subIn K (.ref D) (.type "BaseException")=some true
 cls:(PySem.W.clsIn K D).isSome=true
 ty:PySem.W.typeIn K (.ref D)=some (.type "type")
theorem ps_try{X:Cx}{body:List Stmt}{b0:Stmt}{suite:List Stmt}{n x:Str}{i:Nat}{Dc:Addr}{np hpos pos:Pos}{tb:(Value->St->Hp->Prop)->TS}{ts:TS}
 (hst:X.stack=X.env::X.outer) (hfr:X.env.frame=some X.env.locals) (hb:∀ pn W,PSs (pd X pn W) body (tb W)) (hs:∀ pn ea,PSs (gW X pn ea) (b0::suite) ts)
 (hN:X.N.Nodup) (hi:X.N[i]?=some n) (hlo:X.env.scope.names.lookup n=some .local) (hg:Gl X x) (hD:Hdl X.K X.mg x Dc) (hdb:(x == ("__debug__" : Str))=false:=by decide) :
 PS X (.Try body [.ExceptHandler (some (.Name x np)) (some n) (b0::suite) hpos] [] [] pos) (tTry X.K tb ts i Dc):=by
 intro pins s σ H D I h;obtain ⟨W,hw,hh⟩:=h;have I0:Inv (pd X (X.pn++pins) W) [] σ H s:=⟨I.ok.try_ _ _,I.os,I.bare,I.base,I.loc,I.cell,I.free,I.freeC,fun p hp=>I.pin p (by simpa using hp),I.hok,I.len⟩
 have back:∀ {W':Value->St->Hp->Prop} {σ':St} {H':Hp} {s':Shared},Inv (pd X (X.pn++pins) W') [] σ' H' s'->Inv X pins σ' H' s':=fun {W' σ' H' s'} J =>
  ⟨I.ok,J.os,J.bare,J.base,J.loc,J.cell,J.free,J.freeC,fun p hp=>J.pin p (by simpa using hp),J.hok,J.len⟩
 refine wpAny_Try_except (Ci (hb (X.pn++pins) W [] s σ H D I0 hw) (fun fl s1 q=> ?_) fun e s1 q=> ?_)
 ·cases fl with
  | next=>obtain ⟨σ',H',J,q⟩:=q;exact Dk ⟨σ',H',back J,q⟩
  | brk=>obtain ⟨σ',H',J,q⟩:=q;exact ⟨σ',H',back J,q⟩
  | cont=>obtain ⟨σ',H',J,q⟩:=q;exact ⟨σ',H',back J,q⟩
  | ret u=>obtain ⟨v,σ',H',J,r,q⟩:=q;exact ⟨v,σ',H',back J,r,q⟩
 ·obtain ⟨σ1,H1,s2,I2,ea,T,cls,H',rfl,os,bare,un,hok,fl,hW⟩:=q
  obtain ⟨C,rfl,hsub,hts⟩:=hh _ _ _ hW
  have noch:∀ b∈([]:List Addr),(b∈X.ex\/X.s₀.heap.objs.size<=b)/\b≠X.env.locals/\(∀ x c,X.env.cells.lookup x=some c->c≠b)/\∀ p∈(X.pn++pins)++[],p.1≠b:=fun b z=>absurd z (by simp)
  have I3:Inv { X with pn:=X.pn++pins } [] σ1 H' s1:=I2.call' (ch:=[]) os un hok bare noch
  have there:∀ b o,s2.heap.get? b=some o->∃ o',s1.heap.get? b=some o':=fun b o q=>un.there b o q (by simp)
  have step:∀ h',xR (frs X.stack) ea T s1.heap h'->Inv { X with pn:=X.pn++pins } [] σ1 H' { s1 with heap:=h' }:=fun h' tn =>
   I2.call' (ch:=[]) (s':={ s1 with heap:=h' }) os (Un.turn un tn fl.ge fl.gT (fun b hb=>hb) fun b hb nb=>absurd hb nb) (hok.turn tn fl.he fl.hT I3.stkFree) bare noch
  have fn:s1.heap.FunFrames X.base (X.env::X.outer):=hst ▸ I3.stack;obtain ⟨a0,fw⟩:=fl.flyingW (l:=X.env::X.outer) fn;have fr:X.A.frames=some (X.env::X.outer):=hst ▸ I.ok.frames
  refine wpAny_looks_onW fr hfr fw fun h4 hheld4 sm4=> ?_
  refine wpAny_landsW hheld4 fun h5 fw5 sm5=> ?_
  obtain ⟨tn5,_⟩:=lI fl (l:=X.env::X.outer) fn hok there fw5 (sm4.trans sm5);rw [<- hst] at tn5;have I5:=step h5 tn5;have I5s:Inv (gW X (X.pn++pins) ea) [] σ1 H' { s1 with heap:=h5 }:=⟨I.ok.suite _ _,I5.os,I5.bare,I5.base,I5.loc,I5.cell,I5.free,I5.freeC,I5.pin,I5.hok,I5.len⟩;obtain ⟨ob5,hob5,hoc5⟩:=fw5.there;refine wpAny_handleBy_cons (codeAny_handlers_test (gv I5s hg hD.at_ ?_ hdb)) (by intro q;cases q);refine qi I5s.kIn hob5 hoc5 hsub hD.sub hD.cls hD.ty ?_;refine codeAny_handlers_suite_as ?_
  refine lands_againW fw5 fun h6 fw6 sm6=> ?_
  obtain ⟨tn6,_⟩:=lI fl (l:=X.env::X.outer) fn hok there fw6 ((sm4.trans sm5).trans sm6);rw [<- hst] at tn6;have I6:=step h6 tn6;obtain ⟨ob,hob,hoc⟩:=fw6.there;have hok7:HOk X.prog X.w (upd H' ea (lK ea C)) h6:=HOk.track I6.hok fl.he ⟨⟨ob,hob,hoc⟩,⟨ob,hob⟩,fun h1 h2 hZ k=>(by obtain ⟨o,e,c⟩:=hZ;exact ⟨o,k o e,c⟩)⟩
  have un6:=Un.turn un tn6 fl.ge fl.gT (fun b hb=>hb) fun b hb nb=>absurd hb nb
  have un7:Un (frs X.stack) [] H1 (upd H' ea (lK ea C)) s2.heap h6 :=
   ⟨un6.keep,un6.slot,fun b o q n hx=>by rw [ak (fun z=>by rw [z,fl.ge] at q;cases q)];exact un6.free b o q n hx,un6.there,
    fun b xs q=>by rw [ak (au (un6.tups b xs q) fl.he)];exact un6.tups b xs q,fun b o u q=>by rw [ak (au (un6.frzs b o u q) fl.he)];exact un6.frzs b o u q,
    fun b ps q=>by obtain ⟨m,z⟩:=un6.tbls b ps q;exact ⟨m,by rw [ak (au z fl.he)];exact z⟩⟩
  have I7:Inv { X with pn:=X.pn++pins } [] σ1 (upd H' ea (lK ea C)) { s1 with heap:=h6 }:=I2.call' (ch:=[]) (s':={ s1 with heap:=h6 }) os un7 hok7 bare noch;have I7s:Inv (gW X (X.pn++pins) ea) [] σ1 (upd H' ea (lK ea C)) { s1 with heap:=h6 }:=⟨I.ok.suite _ _,I7.os,I7.bare,I7.base,I7.loc,I7.cell,I7.free,I7.freeC,I7.pin,I7.hok,I7.len⟩;refine fu (X:=gW X (X.pn++pins) ea) I7s hN hi (.inl hlo) (v:= .ref ea) rfl (fun s8 I8=> ?_) (.inr hlo)
  refine Ci (hs (X.pn++pins) ea [] s8 _ _ _ I8 (hts ea fl.he)) (fun fl s9 q=> ?_) fun _ _ z=>z.elim
  have bk2:∀ {σ':St} {H':Hp} {s':Shared},Inv (gW X (X.pn++pins) ea) [] σ' H' s'->Inv X pins σ' H' s':=fun {σ' H' s'} J =>
   ⟨I.ok,J.os,J.bare,J.base,J.loc,J.cell,J.free,J.freeC,fun p hp=>J.pin p (by simpa using hp),J.hok,J.len⟩
  cases fl with
  | next=>obtain ⟨σ9,H9,J,q⟩:=q;exact gu (bk2 J) hN hi hlo fun s' J'=>⟨_,H9,J',q⟩
  | brk=>obtain ⟨σ9,H9,J,q⟩:=q;exact gu (bk2 J) hN hi hlo fun s' J'=>⟨_,H9,J',q⟩
  | cont=>obtain ⟨σ9,H9,J,q⟩:=q;exact gu (bk2 J) hN hi hlo fun s' J'=>⟨_,H9,J',q⟩
  | ret u=>obtain ⟨v,σ9,H9,J,r,q⟩:=q;exact gu (bk2 J) hN hi hlo fun s' J'=>⟨v,_,H9,J',r,q⟩
def tCallT(sp:Sp)(W:Value->St->Hp->Prop)(t:TA):TE:=fun σ H Q=>t σ H fun vs H1=>sp vs H1 Q fun c _ H'=>W c σ H'
theorem wn{X:Cx}{pn:List (Addr×Obj)}{W:Value->St->Hp->Prop}{e:Expr}{es:List Expr}{t:TA}{x:Str}{ps:List Str}{k:Nat}{sp:Sp}{p pos:Pos}
 (h:OkX X.prog X.w X.K X.mg X.base x ps k sp) (hr:cj k X.A) (hg:Gl X x) (ha:PA (pd X pn W) (e::es) t) (hdb:(x == ("__debug__" : Str))=false:=by decide)
 (he:starEach (e::es) X.env=(false,eval e X.env)::starEach es X.env:=by rfl) (hpl:(backTo pos (starEach es X.env)).any (·.1)=false:=by rfl):PE (pd X pn W) (.Call (.Name x p) (e::es) [] pos) (tCallT sp W t):=by
 obtain ⟨f,fd,hm,hk,hb,F⟩:=h.ex;intro pins s σ H Q I hw;refine CV (gv I hg hm ?_ hdb);refine PySem.W.callWith_K (h₀:=X.base) I.ok.mod.kin hk (thn (ha pos pins s σ H _ I hw) fun us s1 ⟨vs,H1,I1,r,q⟩=>⟨I1.kIn,?_⟩) he hpl
 have hl:us.length=ps.length:=by rw [<- r.length];exact F.len _ _ _ _ q
 have hb':BindsTo s1 fd ⟨us,[]⟩ (ps.zip us):=by
  have:=hb s1 us I1.kIn (by simpa using hl)
  rwa [BZ] at this
 refine wpAny_call (codeAny_mono (F.run X.A X.stack s1 H1 ⟨us,[]⟩ us vs Q _ hr I1.env0 hb' r q) fun r s' hq=> ?_)
 cases r with
 | error e =>
  have J:Inv { X with pn:=pn } [] σ H1 s1:=⟨I1.ok.unwish,I1.os,I1.bare,I1.base,I1.loc,I1.cell,I1.free,I1.freeC,fun p hp=>I1.pin p (Bc _ (by simpa using hp)),I1.hok,I1.len⟩;exact ⟨σ,H1,s1,J,hq⟩
 | ok fl =>
  cases fl with
  | ret u=>exact I1.after hq
  | next=>exact False.elim hq
  | brk=>exact False.elim hq
  | cont=>exact False.elim hq
structure eh(k:Nat)(A:Around):Prop where
 dp:A.depth+3 * k+5 < recursionLimit
 un:A.units+16 * k+200 < cLine
 gd:A.guards=some []
theorem cj.any{k:Nat}{A:Around}(r:cj k A):eh k A:=⟨r.dp,r.un,r.gd⟩
theorem eh.mono{j k:Nat}{A:Around}(r:eh k A)(h:j<=k):eh j A:=⟨by have:=r.dp;omega,by have:=r.un;omega,r.gd⟩
theorem eh.mark{k:Nat}{A:Around}{v:Option Value}(r:eh k A):eh k (A.mark v):=⟨r.dp,r.un,r.gd⟩
theorem eh.calm{k:Nat}{A:Around}(r:eh k A):cj k { A with handled:=none }:=⟨rfl,r.dp,r.un,r.gd⟩
abbrev tU(P:Program)(w:World)(K:Dy)(mg:Str->Option Value)(base:Heap)(N:List Str)(qual:Str)(scope:Scope)(f:Addr)(cd:Value)(A:Around)(outer:List Env)(s:Shared)(H:Hp)(E:XK):Cx :=
 { bT CX0 P w K mg base N qual scope f cd A outer s H E with calm:=false,xe:=fun _ _=>False }
structure OkA(P:Program)(w:World)(K:Dy)(mg:Str->Option Value)(base:Heap)(x:Str)(ps:List Str)(k:Nat)(sp:Sp):Prop where
 ex:∃ f fd,mg x=some (.ref f)/\PySem.W.keepIn K (.ref f)=true/\jL K fd ps []/\(∀ vs H Q E,sp vs H Q E->vs.length=ps.length) /\
  ∀ (A:Around) (outer:List Env) (s:Shared) (H:Hp) (args:Args) (us:List Value) (vs:List V) (Q:VK) (E:XK),eh k A->vn P w K mg base A outer s H->BindsTo s fd args (ps.zip us)->aA vs us->sp vs H Q E ->
   codeAny (model P w) A (.call (.ref f) args) (CR CX0 outer P w H s Q E) s
theorem Has.okA{P:Program}{w:World}{K:Dy}{mg:Str->Option Value}{base:Heap}{x:Str}{st:Stmt}{N ps:List Str}{k:Nat}{sp:Sp}(h:Has K mg x st ps)(S:cN N ps (ae st))(len:∀ vs H Q E,sp vs H Q E->vs.length=ps.length)
 (hbody:∀ (f:Addr) (cdv:Value) (A:Around) (outer:List Env) (s:Shared) (H:Hp) (vs:List V) (Q:VK) (E:XK),eh k (A.deeper (envOfC x (ae st) s.heap.objs.size f cdv))->sp vs H Q E ->
   ∃ t,PSs (tU P w K mg base N x (ae st) f cdv A outer s H E) (bw st) t/\t { nx:=fun _ H'=>Q .non H',rt:=Q } (cP N vs) H):OkA P w K mg base x ps (k+1) sp:=by
 obtain ⟨f,fd,F,hm,hb⟩:=h.ex;obtain ⟨oc,od,kV,doc,pm,an,cdv,ct,osl,rfl,lk,hcd⟩:=F.ex;refine ⟨f,_,hm,F.kp,hb,len,fun A outer s H args us vs Q E hr e0 hb r hsp=> ?_⟩;have hl:=len _ _ _ _ hsp
 have KX:K.In s.heap:=e0.mod.kin.keeps fun b o e=>(e0.bs b o e).1
 have lim:s.heap.NoLimit:=e0.mod.nolimit.keeps fun b o e=>(e0.bs b o e).1
 have hkind:∀ y∈ps.zip us,(ae st).names.lookup y.1=some .local\/((ae st).names.lookup y.1=some .cell/\((cellsFrom (s.heap.objs.size+1) (ae st).names []).lookup y.1).isSome=true):=fun hZ hy=>by
  obtain ⟨n,v⟩:=hZ
  rcases S.par n (Dm hy).1 with q | q
  ·exact .inl q
  ·exact .inr ⟨q,PySem.W.cellsFrom_some _ _ _ (.inl q)⟩
 refine codeAny_call_function hr.calm.depth (KX _ _ lk) rfl S.co S.gen rfl (PySem.W.codeRec_of KX hcd) (hb _ _ _ _ ?_)
 refine wpAny_newFunctionEnv_cells S.kind hkind fun env he s1 x1=> ?_
 subst he;refine ⟨lim.keeps x1.toInCall.keep,codeAny_func ?_⟩;have hrd:eh k (A.deeper (envOfC x (ae st) s.heap.objs.size f cdv)):=⟨by have:=hr.dp;show A.depth+1+3 * k+5 < _;omega,by have:=hr.un;show A.units+3+16 * k+200 < _;omega,hr.gd⟩;obtain ⟨t,ht,hq⟩:=hbody f cdv A outer s H vs Q E hrd hsp;have e0':vn P w K mg base { A with handled:=none } outer s H:=⟨e0.frames,e0.mod,e0.bs,e0.bsz,e0.funs,e0.frf,e0.hok,e0.bare⟩;have J:Inv (bT CX0 P w K mg base N x (ae st) f cdv { A with handled:=none } outer s H E) [] (cP N vs) H s1:=mW S rfl e0' hl r x1
 have ok:(tU P w K mg base N x (ae st) f cdv A outer s H E).Ok :=
  ⟨J.ok.mod,J.ok.kind,J.ok.glob,J.ok.blt,J.ok.above,J.ok.inj,J.ok.has,J.ok.cab,(fun z=>by cases z),Around.frames_deeper e0.frames,J.ok.stk,J.ok.exf,J.ok.bs,J.ok.bsz,J.ok.noex,J.ok.exfs,J.ok.funs,J.ok.frf⟩
 have I:Inv (tU P w K mg base N x (ae st) f cdv A outer s H E) [] (cP N vs) H s1:=⟨ok,J.os,J.bare,J.base,J.loc,J.cell,J.free,J.freeC,J.pin,J.hok,J.len⟩
 refine Ci (ht [] s1 (cP N vs) H _ I hq) (fun fl s' hs=> ?_) fun e s' hs=>hs.elim
 have fin:∀ {σ':St} {H':Hp} {v:V} {u:Value},Inv (tU P w K mg base N x (ae st) f cdv A outer s H E) [] σ' H' s'->az v u->Q v H'->CE outer P w H s Q u s' :=
  fun {σ' H' v u} J rv q=>⟨v,H',J.os,J.bare,J.base,J.hok,rv,q⟩
 cases fl with
 | ret u =>
  obtain ⟨v,σ',H',J,rv,q⟩:=hs;exact fin J rv q
 | next =>
  obtain ⟨σ',H',J,q⟩:=hs;exact fin (v:=V.non) (u:=Value.none) J rfl q
 | brk =>
  obtain ⟨_,_,_,q⟩:=hs;exact False.elim q
 | cont =>
  obtain ⟨_,_,_,q⟩:=hs;exact False.elim q
theorem wo{X:Cx}{e:Expr}{es:List Expr}{t:TA}{x:Str}{ps:List Str}{k:Nat}{sp:Sp}{p pos:Pos}(h:OkA X.prog X.w X.K X.mg X.base x ps k sp)(hr:eh k X.A)(hg:Gl X x)(ha:PA X (e::es) t)(hdb:(x == ("__debug__" : Str))=false:=by decide)
 (he:starEach (e::es) X.env=(false,eval e X.env)::starEach es X.env:=by rfl) (hpl:(backTo pos (starEach es X.env)).any (·.1)=false:=by rfl):PE X (.Call (.Name x p) (e::es) [] pos) (sG sp [] E0 t):=by
 obtain ⟨f,fd,hm,hk,hb,hlen,F⟩:=h.ex;intro pins s σ H Q I hw;refine CV (gv I hg hm ?_ hdb);refine PySem.W.callWith_K (h₀:=X.base) I.ok.mod.kin hk (thn (ha pos pins s σ H _ I hw) fun us s1 ⟨vs,H1,I1,r,q⟩=>⟨I1.kIn,?_⟩) he hpl;have q:sp (vs++[]) H1 Q E0:=q;rw [BZ] at q
 have hl:us.length=ps.length:=by rw [<- r.length];exact hlen _ _ _ _ q
 have hb':BindsTo s1 fd ⟨us,[]⟩ (ps.zip us):=by
  have:=hb s1 us I1.kIn (by simpa using hl)
  rwa [BZ] at this
 refine wpAny_call (codeAny_mono (F X.A X.stack s1 H1 ⟨us,[]⟩ us vs Q _ hr I1.env0 hb' r q) fun r s' hq=> ?_)
 cases r with
 | error e=>exact hq.elim
 | ok fl =>
  cases fl with
  | ret u=>exact I1.after hq
  | next=>exact False.elim hq
  | brk=>exact False.elim hq
  | cont=>exact False.elim hq
section
variable{X:Cx}
theorem lQ{x:V}:∀ {xs:List V} {us:List Value},aA xs us->xs.all fh=true->us.countP (eqU x)=xs.countP fun y=>eqV y x
 | _,_,.nil,_=>rfl
 | y::xs,u::us,.cons r t,f=>by
  rw [Dj,By] at f;rw [List.countP_cons,List.countP_cons,rL r f.1,lQ t f.2]
def rCount:V->List V->Hp->VK->Prop:=fun x vs H Q=>∃ l xs y,x = .ref l/\vs=[y]/\H l=some (.lst xs)/\fh y=true/\xs.all fh=true/\Q (.int ((xs.countP fun z=>eqV z y):Nat)) H
theorem wN:MtM X "list.count" rCount:=by
 intro pins s σ H x vs v us Q I rx rv h;obtain ⟨l,xs,y,rfl,rfl,hH,fy,fs,q⟩:=h;cases rx;obtain ⟨u,rfl,ru⟩:=rv.one;obtain ⟨z,its,n,r,hl,e⟩:=I.lstM hH;refine call_meets F.slot_list_count ⟨_,e,rfl⟩ F.entry_list_count (F.args_list_count_2 _ _) (SeqAt.list_countAt l its.toArray n none #[] u (eqU y)) ⟨e,fun w hw=>kY ru fy r fs w (by simpa using hw),?_⟩;refine ⟨.int _,H,I.tok _,⟨_,rfl⟩,?_⟩;rw [List.toList_toArray,lQ r fs];exact q
theorem tR{y:V}{xs:List V}{us:List Value}(r:aA xs us)(f:xs.all fh=true)(m:Nat)(h1:m < us.toArray.size)(h2:m < xs.length):eqU y us.toArray[m]=eqV xs[m] y:=by
 obtain ⟨u,e,ru⟩:=r.get (i:=m) (Bb h2)
 have hm:m < us.length:=by simpa using h1
 rw [Bb hm] at e
 have:us.toArray[m]=u:=by simpa using Option.some.inj e
 rw [this];exact rL ru (Bx.mp f _ (Ck h2))
def rIndex:V->List V->Hp->VK->Prop:=fun x vs H Q=>∃ l xs y j,x = .ref l/\vs=[y]/\H l=some (.lst xs)/\fh y=true/\xs.all fh=true/\(∃ h:j < xs.length,eqV xs[j] y=true)/\(∀ m (hm:m < xs.length),m < j->eqV xs[m] y=false)/\Q (.int (j:Nat)) H
theorem wM:MtM X "list.index" rIndex:=by
 intro pins s σ H x vs v us Q I rx rv h;obtain ⟨l,xs,y,j,rfl,rfl,hH,fy,fs,⟨hj,hit⟩,hno,q⟩:=h;cases rx;obtain ⟨u,rfl,ru⟩:=rv.one;obtain ⟨z,its,n,r,hl,e⟩:=I.lstM hH
 have hz:sizeLine < 2 ^ 63 - 1:=by decide
 refine call_meets F.slot_list_index ⟨_,e,rfl⟩ F.entry_list_index (F.args_list_index_2 _ _) (SeqAt.list_indexAt l its.toArray n none #[] u (eqU y) j (by simp;omega) (by omega)
  (by rw [tR r fs j (by simp;omega) hj];exact hit) (fun m hm h2=>by rw [tR r fs m hm (by simp at hm;omega)];exact hno m _ h2)) ⟨e,fun w hw=>kY ru fy r fs w (by simpa using hw),?_⟩
 exact ⟨.int _,H,I.tok _,⟨_,rfl⟩,q⟩
end
end L2
namespace EnT
open PySem PySem.Spec PyProof.Rows
open AutoSeq1 (wpAny_loadPart')
theorem i0(l:Addr)(items:Array Value)(n:Nat)(dct:Option Addr)(sl:Array (Option Value)) :
 Meets (Builtin.«enumerate.__new__» ⟨[.type "enumerate",.ref l],[]⟩) (fun _ R s=>s.heap.get? l=some { cls:= .type "tuple",dict:=dct,data:= .seq items n,slots:=sl } /\
  R (.ok (.ret (.ref (s.heap.push { cls:= .type "tuple_iterator",data:= .fields #[.ref l,.int 0 0] }).objs.size)))
   { s with heap:=(s.heap.push { cls:= .type "tuple_iterator",data:= .fields #[.ref l,.int 0 0] }).push { cls:= .type "enumerate",data:= .fields #[.none,.bool false,.ref s.heap.objs.size,rawInt 0,.none,.none] } }) :=
 .of_wp fun prog w A R s h=>by
  obtain ⟨hp,g,d,tk,os⟩:=s;obtain ⟨hl,h⟩:=h;have hsub:=sub_enumerate;have hL:Heap.IsTuple (Shared.heap ⟨hp,g,d,tk,os⟩) l items:=⟨_,hl,rfl,n,rfl⟩
  wp_walk using Cc hl
  refine wpAny_stack_any fun st=>Bg ?_
  split
  ·rename_i c _ _ _ _ _
   cases (c == Value.type "enumerate")
   ·wp_walk using Cc hl,BU hL
    exact ⟨_,rfl,h⟩
   ·wp_walk using Cc hl,BU hL
    exact ⟨_,rfl,h⟩
  ·wp_walk using Cc hl,BU hL
   exact ⟨_,rfl,h⟩
section
variable{prog:Program}{w:World}{A:Around}{E:Value->Shared->Prop}{s:Shared}
theorem lS{l:Addr}{items:Array Value}{Q:Value->Shared->Prop}(hL:s.heap.IsTuple l items)
 (h:∀ h',IsEnum h' (s.heap.objs.size+1) s.heap.objs.size 0 .none->h'.IsTupleIter s.heap.objs.size l 0->h'.objs.size=s.heap.objs.size+2 ->
   (∀ b o,s.heap.get? b=some o->h'.get? b=some o)->Q (.ref (s.heap.objs.size+1)) { s with heap:=h' }) :
 wpAny (model prog w) A (call (.type "enumerate") [.ref l]) Q E s:=by
 obtain ⟨⟨c,dct,dt,sl⟩,hl,hc,n,hd⟩:=hL
 replace hc:c = .type "tuple" := hc
 replace hd:dt = .seq items n:=hd
 subst hc hd
 refine callType_new F.called_enumerate (by decide) (F.typeCall_enumerate_1 _) (F.newCall_enumerate_1 _) (fun obj=>F.args_object_init_2 obj _) F.entry_enumerate_new
  (i0 l items n dct sl) ⟨hl,?_⟩
 have hz:(s.heap.push { cls:= .type "tuple_iterator",data:= .fields #[.ref l,.int 0 0] }).objs.size=s.heap.objs.size+1:=Cb ..
 show _/\_
 rw [hz]
 have he:IsEnum ((s.heap.push { cls:= .type "tuple_iterator",data:= .fields #[.ref l,.int 0 0] }).push
  { cls:= .type "enumerate",data:= .fields #[.none,.bool false,.ref s.heap.objs.size,rawInt 0,.none,.none] }) (s.heap.objs.size+1) s.heap.objs.size 0 .none:=by
  have:=Bm (s.heap.push { cls:= .type "tuple_iterator",data:= .fields #[.ref l,.int 0 0] })
   (o:={ cls:= .type "enumerate",data:= .fields #[.none,.bool false,.ref s.heap.objs.size,rawInt 0,.none,.none] }) rfl
  rw [hz] at this;exact this
 refine ⟨⟨_,he,rfl⟩,h _ he ⟨_,Ba _ (Bm _ rfl),rfl,rfl⟩ (by rw [Cb,hz]) fun b o x=>Ba _ (Ba _ x)⟩
theorem eG{it l:Addr}{i:Nat}{items}{x:Value}{Q:Value->Shared->Prop}(hit:s.heap.IsTupleIter it l i)
 (hl:s.heap.IsTuple l items) (hx:items[i]?=some x)
 (hQ:∀ h',h'.IsTupleIter it l (i+1)->Heap.SameBut it s.heap h'->Q x { s with heap:=h' }) :
 wpAny (model prog w) A (Builtin.SmallTypes.nextOf (.ref it)) Q E s:=by
 obtain ⟨o,ho,hc,hd⟩:=id hit;obtain ⟨ol,hol,_,nl,hdl⟩:=hl;unfold Builtin.SmallTypes.nextOf
 refine A9 (BL (name:=Str.ofString "__next__") hit.typeIs F.slot_tuple_iterator_next
  (BR F.slot_tuple_iterator_next hit.typeIs F.entry_tuple_iterator_next ?_ (F.args_tuple_iterator_next_1 _)))
 show wpAny _ _ (field (.ref it) 0 >>= _) _ _ s
 refine A9 (Cd ho hd (x:= .ref l) rfl ?_)
 show wpAny _ _ (if (Value.ref l == Value.none)=true then _ else _) _ _ s
 rw [if_neg (show ¬ ((Value.ref l == Value.none)=true) from Bo)]
 show wpAny _ _ (field (.ref it) 1 >>= _) _ _ s
 refine A9 (Cd ho hd (x:= .int i 0) rfl ?_)
 show wpAny _ _ (seqItems? (.ref l) >>= _) _ _ s
 refine A9 (CP hol hdl ?_);simp only [C7,hx];refine A9 (Ct ho hd (by simp) (Bg ⟨x,rfl,Bg (hQ _ ?_ (Heap.SameBut.update ..))⟩))
 exact ⟨_,Ca _ ho (Obj.isFreed_of_fields (Du hd _)),(Obj.cls_mapFields ..).trans hc,by
  rw [Du hd];simp [rawInt]⟩
theorem fJ{it l:Addr}{i:Nat}{items}{Q:Value->Shared->Prop}(hh:A.handled=none)
 (hit:s.heap.IsTupleIter it l i) (hl:s.heap.IsTuple l items) (hx:items[i]?=none)
 (hE:∀ h' e,Heap.ExtBut it s.heap h'->(∃ o,h'.get? e=some o/\o.cls = .type "StopIteration")->E (.ref e) { s with heap:=h' }) :
 wpAny (model prog w) A (Builtin.SmallTypes.nextOf (.ref it)) Q E s:=by
 obtain ⟨o,ho,hc,hd⟩:=id hit;obtain ⟨ol,hol,_,nl,hdl⟩:=hl;unfold Builtin.SmallTypes.nextOf
 refine A9 (BL (name:=Str.ofString "__next__") hit.typeIs F.slot_tuple_iterator_next
  (BR F.slot_tuple_iterator_next hit.typeIs F.entry_tuple_iterator_next ?_ (F.args_tuple_iterator_next_1 _)))
 show wpAny _ _ (field (.ref it) 0 >>= _) _ _ s
 refine A9 (Cd ho hd (x:= .ref l) rfl ?_)
 show wpAny _ _ (if (Value.ref l == Value.none)=true then _ else _) _ _ s
 rw [if_neg (show ¬ ((Value.ref l == Value.none)=true) from Bo)]
 show wpAny _ _ (field (.ref it) 1 >>= _) _ _ s
 refine A9 (Cd ho hd (x:= .int i 0) rfl ?_)
 show wpAny _ _ (seqItems? (.ref l) >>= _) _ _ s
 refine A9 (CP hol hdl ?_);simp only [C7,hx];refine A9 (wpAny_rule (A9 (Ct ho hd (by simp) ?_)))
 show wpAny _ _ (newExc (.type "StopIteration") [] >>= _) _ _ _
 refine A9 ?_;simp only [newExc,newTuple];refine A9 (BN ?_ (by size_fits));refine A9 (m:=firstArgMember _ _) (wpAny_of_eq (a:=Value.none) (by first | rfl | (simp only [firstArgMember];rfl)) ?_);refine BN ?_ (by size_fits);simp only [raiseNew];refine A9 (wpAny_handled ?_)
 first | rw [show A.in1.handled=none from hh] | rw [hh]
 refine A9 (Bg (wpAny_throw ?_));exact hE _ _ (((Heap.SameBut.update ..).extBut.push _).push _) ⟨_,Bm _ rfl,rfl⟩
end
end EnT
namespace L2
open PySem PySem.Spec PyProof.Rows
section
variable{X:Cx}
end
end L2
namespace XK
open PySem PySem.W PySem.Spec PySem.Calls PyProof.Rows PySem.Builtin PySem.Builtin.ObjectAttr PySem.Builtin.Getset_descriptor
structure qF(K:Frag)(C:Addr):Prop where
 ga:findIn K (.ref C) "__getattribute__" = some (some (.builtin "BaseException.__getattribute__"))
 gh:findIn K (.ref C) "__getattr__" = some none
 sub:mroIn K C (.type "BaseException")=some true
 cl:findIn K (.ref C) "__class__" = some (some (.builtin "object.__class__"))
 ob:mroIn K C (.type "object")=some true
 cls:(clsIn K C).isSome=true
section
variable{prog:Program}{w:World}{A:Around}{E:Value->Shared->Prop}{h:Heap}{g:Array GenState}{d:Drawn}{t:Nat}{os:OsState}{a:Addr}{o:Obj}{C:Addr}{K:Frag}
theorem ty(hx:h.get? a=some o)(hc:o.cls = .ref C){M:Model}:Looks M h (typeOf (.ref a)) (.ref C):=hc ▸ (Looks.ld hx).andThen .now
theorem get_{tp:Value}{R:Result->Shared->Prop}(X:K.In h)(hx:h.get? a=some o)(hc:o.cls = .ref C)(k:qF K C)(hq:R (.ok (.ret (.ref C))) ⟨h,g,d,t,os⟩) :
 codeAny (model prog w) A (.call (.builtin "getset_descriptor.__get__") ⟨[.builtin "object.__class__",.ref a,tp],[]⟩) R ⟨h,g,d,t,os⟩:=by
 have L0:=ty (M:=model prog w) hx hc;have L1:=looks_mroIn (M:=model prog w) X k.ob;refine codeAny_call_builtin KF.slot_gs.plain KF.entry_gs (KF.slot_gs.check _ _ _ _ _ _ _ _ KF.type_class (KF.args_gs _ _ _) ?_);unfold Builtin.«getset_descriptor.__get__» descrGet;rw [dga_obj];refine A9 (Bg ?_);unfold descrGetter descrCheckInstance descrNameAndClass isInstance;simp only [KF.owner_class]
 repeat lk
 refine ⟨Code.quiet_builtin _ (by decide +kernel),codeAny_builtin KF.entry_class ?_⟩;unfold Builtin.«object.__class__» shownTypeOf
 repeat lk
 exact hq
theorem entry_{tk:Tok}{Q:Fin->Shared->Prop}(X:K.In h)(hx:h.get? a=some o)(hc:o.cls = .ref C)(k:qF K C)(hq:Q (.done (.ret (.ref C))) ⟨h,g,d,t,os⟩) :
 wpAny (model prog w) A (Builtin.«object.__getattribute__» ⟨[.ref a,.str "__class__" tk],[]⟩) Q E ⟨h,g,d,t,os⟩:=by
 have hT5:(⟨h,g,d,t,os⟩:Shared).TypeIs (.builtin "object.__class__") "getset_descriptor" := F.typeOf_object_class;have L0:=ty (M:=model prog w) hx hc;have L4:=looks_findIn (M:=model prog w) X k.cl;have f5:=F.typeOf_object_class;have f6:=F.slot_gs_get.lookup;have f7:=F.slot_gs_set.lookup
 repeat (any_goals (first | assumption | with_reducible refine Looks.at L0 ?_ | with_reducible refine Looks.at L4 ?_ | wp_step))
 refine get_ X hx hc k ?_
 repeat (any_goals (first | assumption | wp_step))
theorem check_{M:Model}{nameV:Value}{Q:Unit->Shared->Prop}(X:K.In h)(hx:h.get? a=some o)(hc:o.cls = .ref C)(k:qF K C)(hq:Q () ⟨h,g,d,t,os⟩):wpAny M A (checkBuiltinCall "BaseException.__getattribute__" ⟨[.ref a,nameV],[]⟩) Q E ⟨h,g,d,t,os⟩:=by
 have hk:builtinKind "BaseException.__getattribute__" = some .slot:=by decide +kernel
 have hsplit:splitId "BaseException.__getattribute__" = some ("BaseException", "__getattribute__"):=by decide +kernel
 have L0:=ty (M:=M) hx hc;have L3:=looks_mroIn (M:=M) X k.sub;have ha:=F.args_bexc_ga (.ref a) nameV;simp only [checkBuiltinCall,hk,hsplit];refine A9 ?_;unfold isInstance
 repeat (first | with_reducible refine Looks.at L0 ?_ | with_reducible refine Looks.at L3 ?_ | wp_step)
 exact hq
theorem by_{tk:Tok}{fill expr:Bool}{Q:Value->Shared->Prop}(X:K.In h)(hx:h.get? a=some o)(hc:o.cls = .ref C)(k:qF K C)(hq:Q (.ref C) ⟨h,g,d,t,os⟩) :
 wpAny (model prog w) A (getAttrBy (.ref a) (.str "__class__" tk) fill expr) Q E ⟨h,g,d,t,os⟩:=by
 have f3:=F.excAttr_ValueError.ga.bind (.ref a)
 have hx0:(expr&&onTheHeap (Value.builtin "BaseException.__getattribute__"))=false:=by cases expr<;>rfl
 have hx2:(Value.builtin "BaseException.__getattribute__" == Value.builtin "object.__getattribute__")=false:=by decide +kernel
 have hx1:(onTheHeap (Value.ref C)&&Value.builtin "BaseException.__getattribute__" == Value.builtin "object.__getattribute__")=false:=by rw [hx2];rfl
 have L0:=ty (M:=model prog w) hx hc;have L1:=looks_findIn (M:=model prog w) X k.ga;have L2:=looks_findIn (M:=model prog w) X k.gh
 repeat (any_goals (first | assumption | with_reducible refine Looks.at L0 ?_ | with_reducible refine Looks.at L1 ?_ | with_reducible refine Looks.at L2 ?_ | wp_step))
 refine codeAny_call_builtin F.excAttr_ValueError.ga.plain F.entry_bexc_ga (check_ X hx hc k (entry_ X hx hc k ?_))
 repeat (any_goals (first | assumption | wp_step))
theorem attr_{Q:Option Value->Shared->Prop}(X:K.In h)(hx:h.get? a=some o)(hc:o.cls = .ref C)(k:qF K C)(hq:Q (some (.ref C)) ⟨h,g,d,t+1,os⟩):wpAny (model prog w) A (getAttr? (.ref a) "__class__") Q E ⟨h,g,d,t,os⟩:=by
 unfold getAttr? getAttrBy?
 repeat (any_goals (first | assumption | with_reducible apply by_ X hx hc k | wp_step))
end
theorem kitx{K:Frag}{a C:Addr}(k:qF K C):KitX K (.ref a) (.ref C) (fun h=>∃ o,h.get? a=some o/\o.cls = .ref C) where
 ty:=fun M h X hZ=>(by obtain ⟨o,hx,hc⟩:=hZ;exact ty hx hc)
 it:=fun M h X _=>by
  have z:=k.cls;unfold clsIn at z
  split at z
  ·rename_i c' d' cd' sl' ho
   intro A' Q' E' s' k q;unfold isType loadHead;exact A9 (wpAny_loadPart (k _ _ (X _ _ ho)) (Bg q))
  ·cases z
 ne:=fun h tp dd its n sl X htp=>by
  have z:=k.cls
  refine Bool.eq_false_iff.mpr fun q=> ?_
  have e:C=tp:=Value.ref.inj (beq_iff_eq.mp q);subst e;unfold clsIn at z
  split at z
  ·rename_i c' d' cd' sl' ho
   have z:=(X _ _ ho).symm.trans htp;cases z
  ·cases z
 ca:=fun {prog w A E Q s} X p h=>by
  obtain ⟨hp,g,d,t,os⟩:=s;obtain ⟨o,hx,hc⟩:=p;exact attr_ X hx hc k h
end XK
namespace L2
open PySem PySem.Spec PyProof.Rows
section
variable{X:Cx}{e:Expr}{te:TE}{x:Str}{p1 p2 pos:Pos}
def rIsx(K:Dy):List V->Hp->VK->Prop:=fun xs H Q=>∃ ea C c u b,xs=[.ref ea,c]/\H ea=some (lK ea C)/\XK.qF K C/\az c u/\PySem.W.kitOne K (.ref C) u=some b/\Q (.bl b) H
theorem qv:aJ X (.builtin "isinstance") (rIsx X.K):=by
 intro pins s σ H xs us Q I r h;obtain ⟨ea,C,c,u,b,rfl,hH,k,rc,e,q⟩:=h;obtain ⟨v,u',rfl,rv,ru⟩:=o5 r;cases rv
 have hu:u'=u:=by
  cases c with
  | ref a=>exact (show u' = .ref a from ru).trans (show u = .ref a from rc).symm
  | ty n=>exact (show u' = .type n from ru).trans (show u = .type n from rc).symm
  | non=>exact (show u' = .none from ru).trans (show u = .none from rc).symm
  | bl a=>exact (show u' = .bool a from ru).trans (show u = .bool a from rc).symm
  | int i=>exfalso;obtain ⟨t,rfl⟩:=rc;unfold PySem.W.kitOne PySem.W.kitCls at e;simp at e
  | str i=>exfalso;obtain ⟨t,rfl⟩:=rc;unfold PySem.W.kitOne PySem.W.kitCls at e;simp at e
  | byt i=>exfalso;obtain ⟨t,rfl⟩:=rc;unfold PySem.W.kitOne PySem.W.kitCls at e;simp at e
  | flt i=>exfalso;obtain ⟨t,rfl⟩:=rc;unfold PySem.W.kitOne PySem.W.kitCls at e;simp at e
 subst hu;have ho:∃ o,s.heap.get? ea=some o/\o.cls = .ref C:=(I.hok ea _ hH).1
 exact PySem.W.kia_one (XK.kitx k) I.kIn ho e (fun z=>nomatch z) fun tk=>⟨.bl b,H,I.tok tk,rfl,q⟩
end
section
variable{X:Cx}
theorem qY{elt tg iter:Expr}{ifs:List Expr}{sc:Scope}{M tgs:List Str}{pos:Pos}{wi:TI}{g:TG}{tt:TT}{te:TE}{j:Nat}{y:Str}{py spos:Pos}(hc:X.calm=true)(B:ma X sc M tgs)(hi:PI X tg iter wi)
 (hg:∀ cl C fp s H,PG (blk X sc cl C fp s H (M++tgs)) tg g) (ht:∀ cl C fp s H,vm (blk X sc cl C fp s H (M++tgs)) ifs tt) (he:∀ cl C fp s H,PE (blk X sc cl C fp s H (M++tgs)) elt te)
 (hN:X.N.Nodup) (hjy:X.N[j]?=some y) (hy:X.env.scope.names.lookup y=some .local) (hsw:swapsWith (.ListComp elt [⟨tg,iter,ifs,0⟩] sc pos) (some (.Name y py)) spos.line X.env=pure true:=by rfl)
 (hs:∀ x,foldedSetIterable iter X.env x=pure x:=by intro _;rfl):PS X (.Assign [.Name y py] (.ListComp elt [⟨tg,iter,ifs,0⟩] sc pos) spos) (tAsg (pj wi tgs.length g tt te) (tO j)):=by
 intro pins s σ H Dn I h
 let Q:VK:=fun x H1=>Dn.nx (σ.set j (some x)) H1
 have h:pj wi tgs.length g tt te σ H Q:=h;rw [exec_Assign_Name_used _ _ _ _ hsw];refine A9 (wpAny_standAt (A9 ?_));refine A9 (Ci (nh (use:=some (assign (.Name y py) X.env)) (Qf:=fun _ s'=>SP X pins Dn .next s') hc B hi hg ht he hs I h fun C D m s6 H' I8 hn hC hLC hsz hcC hp q f=> ?_) (fun _ s' hq=>Bg (Bg hq)) fun _ _ e=>e)
 show wpAny _ _ (assign (.Name y py) X.env (.ref D)) _ _ _
 refine wpAny_assign_Name (mI I8 hN hjy (.inl hy) (v:= .ref D) rfl (fun s9 I9 hsb=> ?_) (.inr hy));obtain ⟨a,sb,ha⟩:=hsb
 have haC:C≠a:=by
  rcases ha with rfl | ha
  ·exact CU hLC
  ·exact Ne.symm (hcC _ _ ha)
 exact ⟨m,hn.sameBut sb haC,fun h' hs'=>⟨_,H',I9.turned (t':=s9.toks) (it:=C) (fun b o hb e=>(hs'.2 b hb).trans e) hC (CU hLC) (.inr hsz) hcC hp,q⟩⟩
end
section
variable{X:Cx}
def gZ(K:Dy):List V->Hp->(V->Hp->Prop)->Prop:=fun xs H Q=>∃ (p:Addr) (ns:List Int),xs=[V.ref p]/\SqL K H p (ns.map V.int)/\ns.length < 64 /\
 ∀ l (ms:List Int),H l=none->List.Perm ms ns->ms.Pairwise (·<= ·)->Q (.ref l) (upd H l (.lst (ms.map V.int)))
theorem jk{us:List Value}{ns:List Int}(h:IntsAre us ns):aA (ns.map V.int) us:=by
 induction h with
 | nil=>exact .nil
 | cons a t _ ih=>exact .cons ⟨t,rfl⟩ ih
theorem oN:aJ X (.builtin "sorted") (gZ X.K):=by
 intro pins s σ H xs us Q I r h;obtain ⟨p,ns,rfl,hq,h64,q⟩:=h;obtain ⟨u,rfl,ru⟩:=bV r;cases ru;obtain ⟨its,rv,pl,hz⟩:=I.list hq;have hlen:=rv.length;rw [Be] at hlen
 refine sorted_ints pl.isList (eW rv) (by omega) fun out ms hi hp hs=> ?_
 have hf:H (s.heap.objs.size+1)=none:=I.hok.fresh (Nat.le_succ _);obtain ⟨e,he⟩:=sortedAll_at s.heap its out;refine ⟨.ref (s.heap.objs.size+1),upd H (s.heap.objs.size+1) (.lst (ms.map V.int)),I.laid (t':=s.toks) (fun b o=>sortedAll_old) (Nat.le_succ _) ⟨?_,out.toList,e,jk hi,by simpa using he⟩,rfl,q _ _ hf hp hs⟩;rw [Be,hp.length_eq]
 rwa [Be] at hz
def kH:List V->Hp->(V->Hp->Prop)->Prop:=fun xs H Q=>∃ (p:Addr) (lo hi:Int),xs=[V.ref p]/\H p=some (.rng lo hi) /\ -(2 ^ 62)<=lo/\lo < 2 ^ 62 /\ -(2 ^ 62)<=hi/\hi < 2 ^ 62/\(hi - lo).toNat<=1000 /\
 ∀ l,H l=none->Q (.ref l) (upd H l (.lst ((List.range (hi - lo).toNat).map fun k=>V.int (lo+(k:Nat)))))
theorem fq:∀ {xs:List V} {us:List Value},xs.length=us.length->(∀ (i:Nat) (x:V) (u:Value),xs[i]?=some x->us[i]?=some u->az x u)->aA xs us
 | [],[],_,_=> .nil
 | x::xs,u::us,h,q=> .cons (q 0 x u rfl rfl) (fq (by simpa using h) fun i x' u' h1 h2=>q (i+1) x' u' (by simpa using h1) (by simpa using h2))
 | [],_::_,h,_=>by simp at h
 | _::_,[],h,_=>by simp at h
theorem rW(hc:X.calm=true):aJ X (.type "list") kH:=by
 intro pins s σ H xs us Q I r h;obtain ⟨p,lo,hi,rfl,hp,h1,h2,h3,h4,hn,q⟩:=h;obtain ⟨u,rfl,ru⟩:=bV r;cases ru;obtain ⟨t,u,v,e⟩:=(show bB X.prog X.w H s.heap p (.rng lo hi) from I.hok p _ hp)
 have hsz:Builtin.Range.rangeSize lo hi 1=((hi - lo).toNat:Nat):=by rw [rangeSize_one];split<;>omega
 refine call_list_range (n:=(hi - lo).toNat) (I.ok.hd hc) (show IsRange s.heap p lo hi 1 t u v from e) (small_one h1 h2 h3 h4) hsz (by omega) fun h' tk acc c hk hS hacc=> ?_
 have hf:H s.heap.objs.size=none:=I.hok.fresh (Bq _);refine ⟨.ref s.heap.objs.size,_,I.laid (o:= .lst ((List.range (hi - lo).toNat).map fun k=>V.int (lo+(k:Nat)))) hk (Bq _) ⟨?_,acc.toList,c,fq ?_ ?_,by simpa using hS⟩,rfl,q _ hf⟩
 ·rw [Be,Cp];exact Cs (cF hn)
 ·rw [Be,Cp,BQ,hacc.1]
 ·intro i x w hx hw
  rw [BI] at hx;obtain ⟨k,hk',rfl⟩:=BM.mp hx
  have ek:i=k:=by
   rw [Bs] at hk';obtain ⟨z,e⟩:=hk';simpa using e
  subst ek;obtain ⟨t',rfl⟩:=hacc.2 i w (by simpa using hw);refine ⟨t',?_⟩;rw [Int.mul_one]
end
theorem rh:fillsNumberSlot (.type "tuple") "mul" = pure false :=
 PySem.fillsNumberSlot_seq (id := "tuple.__mul__") (r:=some (.builtin "tuple.__rmul__")) F.slot_tuple_mul.lookup (by decide +kernel) F.slot_tuple_rmul.lookup (by decide +kernel)
theorem qU:seqRepeat? (.type "tuple")=pure (some (.builtin "tuple.__mul__")):=by
 unfold seqRepeat?;rw [PySem.seqSlot_of (T := "tuple") (name := "__mul__") F.slot_tuple_mul.lookup (by decide +kernel),PySem.seqSlot_of (T := "tuple") (name := "__rmul__") F.slot_tuple_rmul.lookup (by decide +kernel)];rfl
theorem vN(a:Int)(t:Tok)(l:Addr)(items:Array Value)(n:Nat)(dd:Option Addr)(sl:Array (Option Value)):Meets (Builtin.«int.__rmul__» ⟨[.int a t,.ref l],[]⟩) (fun _ R s=>s.heap.get? l=some ⟨.type "tuple",dd,.seq items n,sl⟩/\R (.ok (.ret Value.notImplemented)) s) :=
 .of_wp fun prog w A R s h=>by
  obtain ⟨hp,g,d,tk,os⟩:=s;obtain ⟨hl,h⟩:=h
  wp_walk
  exact ⟨_,rfl,h⟩
theorem wJ(l:Addr)(items:Array Value)(n:Nat)(dd:Option Addr)(sl:Array (Option Value))(x:Int)(u:Tok)(h1:2<=x)(h2:items.size * x.toNat<=sizeLine)(h3:items.isEmpty=false):Meets (Builtin.«tuple.__mul__» ⟨[.ref l,.int x u],[]⟩) (fun _ R s=>s.heap.get? l=some ⟨.type "tuple",dd,.seq items n,sl⟩ /\
 R (.ok (.ret (.ref s.heap.objs.size))) { s with heap:=s.heap.push { cls:= .type "tuple",data:= .seq (List.foldl (fun x1 x2=>x1++x2) #[] (List.replicate x.toNat items)) } }) :=
 .of_wp fun prog w A R s h=>by
  have p1:0 < items.size:=by
   rcases Nat.eq_zero_or_pos items.size with z | z
   ·rw [Array.isEmpty,z] at h3;cases h3
   ·exact z
  have hz:=sizeLine_eq;have h4:x.toNat<=sizeLine:=Nat.le_trans (Nat.le_mul_of_pos_left _ p1) h2
  have h5:(items.size:Int) * x<=(sizeLine:Nat):=by
   have e:x=((x.toNat:Nat):Int):=by omega
   rw [e,<- Int.natCast_mul];exact Int.ofNat_le.mpr h2
  have c0:¬(decide (x < -2 ^ 63)||decide (x>=2 ^ 63))=true:=by
   rw [Br (by omega),Br (by omega)];decide
  have c1:¬(items.isEmpty||x == 1)=true:=by
   rw [h3,CO,beq_iff_eq];omega
  have c2:¬(decide (x<=0)||items.isEmpty)=true:=by
   rw [h3,Br (by omega)];decide
  have c3:¬ (items.size:Int) * x > (2 ^ 63 - 1) / 8:=by
   rw [hz] at h5
   have:((16777216:Nat):Int)<=(2 ^ 63 - 1) / 8:=by decide
   omega
  have c4:¬ Builtin.Tuple.tupleTooMany ((items.size:Int) * x)=true:=by
   show ¬ decide ((items.size:Int) * x > (sizeLine:Nat))=true
   rw [Br (by omega)]
   decide
  have c5:(List.foldl (fun x1 x2=>x1++x2) #[] (List.replicate x.toNat items)).size<=sizeLine:=by
   have:=gB items.toList x.toNat [];rw [BX,Array.toArray_toList] at this;rw [this,Bh,ou,BQ,Nat.mul_comm];exact h2
  obtain ⟨hp,g,d,tk,os⟩:=s;obtain ⟨hl,h⟩:=h;have f1:=AutoSeq1.idx_int
  wp_walk using AutoSeq1.wpAny_loadPart' hl
  rw [if_neg c0]
  wp_walk using AutoSeq1.wpAny_loadPart' hl
  rw [if_neg c1]
  wp_walk using AutoSeq1.wpAny_loadPart' hl
  rw [if_neg c2]
  wp_walk using AutoSeq1.wpAny_loadPart' hl
  rw [if_neg c3]
  wp_walk using AutoSeq1.wpAny_loadPart' hl
  rw [if_neg (Nat.not_lt.mpr c5)]
  wp_walk using AutoSeq1.wpAny_loadPart' hl
  exact ⟨_,rfl,h⟩
end L2
namespace St2
open PySem PyProof.Rows
section
variable{prog:Program}{w:World}{A:Around}{E:Value->Shared->Prop}{s:Shared}
end
end St2
namespace L2
open PySem PySem.Spec PyProof.Rows
section
variable{X:Cx}
def sS:List V->Hp->VK->Prop:=fun xs H Q=>∃ (p:Addr) (S:Int->Bool) (n:Nat),xs=[V.ref p]/\H p=some (.set S n)/\n<=1000/\Q (.int (n:Nat)) H
theorem qu:aJ X (.builtin "len") sS:=by
 intro pins s σ H xs us Q I r h;obtain ⟨p,S,n,rfl,hp,hn,q⟩:=h;obtain ⟨u,rfl,ru⟩:=bV r;cases ru;obtain ⟨o,es,ep,t,ho,ex,hd,_,_,_,hf,rfl⟩:=(show s.heap.SetOf (intKind X.prog X.w) p S n from I.hok p _ hp);exact call_len_set ho ex hd hf (by omega) ⟨.int (es.size:Nat),H,I.tok _,⟨_,rfl⟩,q⟩
end
end L2
namespace St2
open PySem PyProof.Rows
end St2
namespace Tr2
open PySem PyProof.Rows
section
variable{prog:Program}{w:World}{A:Around}{E:Value->Shared->Prop}{s:Shared}
theorem zR{R:Result->Shared->Prop}{r:Addr}{a b:Int}{t u v:Tok}{k:Nat}(calm:A.handled=none)(rg:IsRange s.heap r a b 1 t u v)(sm:Builtin.Range.small a b 1=true)(sz:Builtin.Range.rangeSize a b 1=k)(few:k<=1000)
 (q:∀ (h':Heap) (tk:Nat) (acc:Array Value) (c0:Nat),(∀ x o,s.heap.get? x=some o->h'.get? x=some o)->h'.get? s.heap.objs.size=some { cls:= .type "list",dict:=none,data:= .seq acc c0,slots := #[] }->ItemsOf (fun i v=>∃ t,v = .int (a+i * 1) t) acc k->R (.ok (.ret (.ref s.heap.objs.size))) { s with heap:=h',toks:=tk }) :
 codeAny (model prog w) A (.builtin "proto.collect" ⟨[.ref r],[]⟩) R s:=by
 refine (codeAny_builtin PySem.F.entry_proto_collect ?_);rw [(Around.under_plainId PySem.F.plain_proto_collect _)]
 show wpAny _ A.in1 (newList [] >>= fun l=>again (.builtin "list.__iadd__" ⟨[l,.ref r],[]⟩)) (_) _ s
 refine A9 (BN (Bg ⟨plainId_quiet PySem.F.plain_list_iadd _,codeAny_builtin PySem.F.entry_list_iadd ?_⟩));rw [(Around.under_plainId PySem.F.plain_list_iadd _)];have at_:(s.heap.push { cls:= .type "list",data:= .seq ([]:List Value).toArray }).get? s.heap.objs.size=some { cls:= .type "list",data:= .seq #[] 0 }:=Bm _ rfl
 show wpAny _ A.in1 (Builtin.List.listExtendWith (.ref s.heap.objs.size) (.ref r) (.ref s.heap.objs.size)) (_) _ _
 exact wpAny_extend_range (A:=A) (R:=R) (s:={ s with heap:=s.heap.push { cls:= .type "list",data:= .seq ([]:List Value).toArray } }) calm (Ba _ rg) sm sz (by omega) s.heap.objs.size (.ref s.heap.objs.size) 0 at_ fun h' tk acc c0 kp hS it =>
  q h' tk acc c0 (fun x o e=>kp x o (BC (Bk e)) (Ba _ e)) hS it
theorem gather{Q:List Value->Shared->Prop}{r:Addr}{a b:Int}{t u v:Tok}{k:Nat}(calm:A.handled=none)(rg:IsRange s.heap r a b 1 t u v)(sm:Builtin.Range.small a b 1=true)(sz:Builtin.Range.rangeSize a b 1=k)(few:k<=1000)
 (q:∀ (h':Heap) (tk:Nat) (acc:Array Value),s.heap.objs.size < h'.objs.size->(∀ x o,s.heap.get? x=some o->h'.get? x=some o)->ItemsOf (fun i v=>∃ t,v = .int (a+i * 1) t) acc k->Q acc.toList { s with heap:=h',toks:=tk }):wpAny (model prog w) A (collect (.ref r)) Q E s:=by
 unfold collect;refine A9 (wpAny_runValue (zR calm rg sm sz few fun h' tk acc c0 kp hS it=> ?_))
 show wpAny _ A (load s.heap.objs.size >>= _) (_) _ _
 refine A9 (wpAny_load hS ?_);exact Bg (q h' tk acc (Bk hS) kp it)
theorem made{r:Addr}{a b:Int}{t u v:Tok}{k:Nat}(sm:Builtin.Range.small a b 1=true)(sz:Builtin.Range.rangeSize a b 1=k)(few:k<=1000):Meets (Builtin.«tuple.__new__» ⟨[.type "tuple",.ref r],[]⟩)
 (fun A R s=>A.handled=none/\IsRange s.heap r a b 1 t u v/\∀ (h':Heap) (tk:Nat) (acc:Array Value),s.heap.objs.size < h'.objs.size->(∀ x o,s.heap.get? x=some o->h'.get? x=some o)->ItemsOf (fun i v=>∃ t,v = .int (a+i * 1) t) acc k->R (.ok (.ret (.ref h'.objs.size))) { s with heap:=h'.push { cls:= .type "tuple",data:= .seq acc },toks:=tk }) :=
 .of_wp fun prog w A R s h=>by
  obtain ⟨calm,rg,h⟩:=h;have f1:=sub_tuple_self;have f2:=init_tuple_lookup;have f3:=madeHere_tuple;have ty:s.TypeIs (.ref r) "range" := ⟨_,rg,rfl⟩;have calm1:A.in1.handled=none:=calm
  wp_walk using wpAny_typeOf ty,gather calm1 rg sm sz few
  intro h' tk acc lz kp it
  show wpAny _ _ (Builtin.Tuple.tupleExact acc.toList.toArray >>= fun v=>ret v) (_) _ _
  unfold Builtin.Tuple.tupleExact;refine (A9 (BN ?_ (show acc.toList.toArray.size<=sizeLine by simp only [Array.toArray_toList];rw [it.1,sizeLine_eq];omega)));refine Bg ⟨_,rfl,?_⟩;rw [show acc.toList.toArray=acc by simp];exact h h' tk acc lz kp it
theorem pc{Q:Value->Shared->Prop}{r:Addr}{a b:Int}{t u v:Tok}{k:Nat}(calm:A.handled=none)(rg:IsRange s.heap r a b 1 t u v)(sm:Builtin.Range.small a b 1=true)(sz:Builtin.Range.rangeSize a b 1=k)(few:k<=1000)
 (q:∀ (h':Heap) (tk:Nat) (acc:Array Value),s.heap.objs.size < h'.objs.size->(∀ x o,s.heap.get? x=some o->h'.get? x=some o)->ItemsOf (fun i v=>∃ t,v = .int (a+i * 1) t) acc k->Q (.ref h'.objs.size) { s with heap:=h'.push { cls:= .type "tuple",data:= .seq acc },toks:=tk }):wpAny (model prog w) A (call (.type "tuple") [.ref r]) Q E s :=
 callType_new PySem.F.called_tuple (by decide) (PySem.F.typeCall_tuple_1 _) (PySem.F.newCall_tuple_1 _) (fun obj=>PySem.F.args_object_init_2 obj _) PySem.F.entry_tuple_new (made sm sz few) ⟨calm,rg,fun h' tk acc lz kp it=>⟨⟨_,Bm _ rfl,rfl⟩,q h' tk acc lz kp it⟩⟩
end
end Tr2
namespace L2
open PySem PySem.Spec PyProof.Rows
section
variable{X:Cx}
theorem op_isB:OpR X (compareOp .Is) (fun x y H Q=>∃ a b,x = .bl a/\y = .bl b/\Q (.bl (a == b)) H):=by
 intro pins s σ H x y v u Q I rx ry h;obtain ⟨a,b,rfl,rfl,q⟩:=h;cases rx;cases ry;exact is_bool ⟨.bl (a == b),H,I,rfl,q⟩
def vT:List V->Hp->VK->Prop:=fun xs H Q=>∃ (p:Addr) (lo hi:Int),xs=[V.ref p]/\H p=some (.rng lo hi) /\ -(2 ^ 62)<=lo/\lo < 2 ^ 62 /\ -(2 ^ 62)<=hi/\hi < 2 ^ 62/\(hi - lo).toNat<=1000 /\
 ∀ l,H l=none->Q (.ref l) (upd H l (.tup ((List.range (hi - lo).toNat).map fun k=>V.int (lo+(k:Nat)))))
theorem uN(hc:X.calm=true):aJ X (.type "tuple") vT:=by
 intro pins s σ H xs us Q I r h;obtain ⟨p,lo,hi,rfl,hp,h1,h2,h3,h4,hn,q⟩:=h;obtain ⟨u,rfl,ru⟩:=bV r;cases ru;obtain ⟨t,u,v,e⟩:=(show bB X.prog X.w H s.heap p (.rng lo hi) from I.hok p _ hp)
 have hsz:Builtin.Range.rangeSize lo hi 1=((hi - lo).toNat:Nat):=by rw [rangeSize_one];split<;>omega
 refine Tr2.pc (k:=(hi - lo).toNat) (I.ok.hd hc) (show IsRange s.heap p lo hi 1 t u v from e) (small_one h1 h2 h3 h4) hsz hn fun h' tk acc lz kp it=> ?_
 have ge:s.heap.objs.size<=h'.objs.size:=Cs lz;have hf:H h'.objs.size=none:=I.hok.fresh ge;refine ⟨.ref h'.objs.size,_,I.laid (o:= .tup ((List.range (hi - lo).toNat).map fun k=>V.int (lo+(k:Nat)))) (fun b o z=>Ba _ (kp b o z)) ge ⟨?_,acc.toList,fq ?_ ?_,jV (Bm _ rfl)⟩,rfl,q _ hf⟩
 ·rw [Be,Cp];exact Cs (cF hn)
 ·rw [Be,Cp,BQ,it.1]
 ·intro i x w hx hw
  rw [BI] at hx;obtain ⟨k,hk',rfl⟩:=BM.mp hx
  have ek:i=k:=by
   rw [Bs] at hk';obtain ⟨z,e⟩:=hk';simpa using e
  subst ek;obtain ⟨t',rfl⟩:=it.2 i w (by simpa using hw);refine ⟨t',?_⟩;rw [Int.mul_one]
end
section
variable{X:Cx}
end
section
variable{X:Cx}
end
theorem cE:∀ {ns:List Int} {us:List Value},aA (ns.map V.int) us->∃ ps:List (Int×Tok),us=ps.map (fun p=>Value.int p.1 p.2)/\ps.map (·.1)=ns
 | [],_,.nil=>⟨[],rfl,rfl⟩
 | n::ns,_,.cons r1 r2=>by
  obtain ⟨t,rfl⟩:=r1;obtain ⟨ps,rfl,e⟩:=cE r2;exact ⟨(n,t)::ps,rfl,by rw [Bu,e]⟩
theorem cn{ps:List (Int×Tok)}{ns:List Int}(e:ps.map (·.1)=ns){i:Nat}(h:i < ns.length):numAt ps.toArray i=ns[i]:=by
 subst e;rw [Be] at h;unfold numAt;simp [h]
section
variable{X:Cx}
def pL(K:Dy):List V->Hp->(V->Hp->Prop)->Prop:=fun xs H Q=>∃ (p:Addr) (ns:List Int),xs=[V.ref p]/\SqL K H p (ns.map V.int)/\ns≠[]/\∀ M,M∈ns->(∀ a∈ns,a<=M)->Q (.int M) H
def pK(K:Dy):List V->Hp->(V->Hp->Prop)->Prop:=fun xs H Q=>∃ (p:Addr) (ns:List Int),xs=[V.ref p]/\SqL K H p (ns.map V.int)/\ns≠[]/\∀ M,M∈ns->(∀ a∈ns,M<=a)->Q (.int M) H
theorem uX(hc:X.calm=true):aJ X (.builtin "max") (pL X.K):=by
 intro pins s σ H xs us Q I r h;obtain ⟨p,ns,rfl,hq,ne,q⟩:=h;obtain ⟨u,rfl,ru⟩:=bV r;cases ru;obtain ⟨its,rv,pl,hz⟩:=I.list hq;obtain ⟨ps,rfl,e⟩:=cE rv
 have lp:ps.length=ns.length:=by rw [<- e,Be]
 have n0:0 < ns.length:=BP.mpr ne
 have ei:intItems ps.toArray=(ps.map fun p=>Value.int p.1 p.2).toArray:=by unfold intItems;simp
 obtain ⟨b1,b2⟩:=argBest_gt (numAt ps.toArray) (ps.toArray.size - 1)
 have sz:ps.toArray.size=ns.length:=by simp [lp]
 refine max_intList (xs:=ps.toArray) (I.ok.hd hc) (by rw [ei];exact pl.isList) (by rw [sz];exact n0) fun v h' tk hv k=> ?_
 obtain ⟨t,rfl⟩:=intItems_at hv;rw [sz] at b1 b2 ⊢;refine ⟨.int _,H,I.kept k,⟨t,rfl⟩,q _ ?_ fun a ha=> ?_⟩
 ·rw [cn e (by omega)]
  exact Ck _
 ·obtain ⟨j,hj,rfl⟩:=Dp ha
  have:=b2 j (by omega);rw [cn e hj] at this;exact this
theorem uS(hc:X.calm=true):aJ X (.builtin "min") (pK X.K):=by
 intro pins s σ H xs us Q I r h;obtain ⟨p,ns,rfl,hq,ne,q⟩:=h;obtain ⟨u,rfl,ru⟩:=bV r;cases ru;obtain ⟨its,rv,pl,hz⟩:=I.list hq;obtain ⟨ps,rfl,e⟩:=cE rv
 have lp:ps.length=ns.length:=by rw [<- e,Be]
 have n0:0 < ns.length:=BP.mpr ne
 have ei:intItems ps.toArray=(ps.map fun p=>Value.int p.1 p.2).toArray:=by unfold intItems;simp
 obtain ⟨b1,b2⟩:=argBest_lt (numAt ps.toArray) (ps.toArray.size - 1)
 have sz:ps.toArray.size=ns.length:=by simp [lp]
 refine min_intList (xs:=ps.toArray) (I.ok.hd hc) (by rw [ei];exact pl.isList) (by rw [sz];exact n0) fun v h' tk hv k=> ?_
 obtain ⟨t,rfl⟩:=intItems_at hv;rw [sz] at b1 b2 ⊢;refine ⟨.int _,H,I.kept k,⟨t,rfl⟩,q _ ?_ fun a ha=> ?_⟩
 ·rw [cn e (by omega)]
  exact Ck _
 ·obtain ⟨j,hj,rfl⟩:=Dp ha
  have:=b2 j (by omega);rw [cn e hj] at this;exact this
end
section
variable{X:Cx}
end
end L2
namespace ZpT
open PySem PySem.Spec PyProof.Rows
section
variable{prog:Program}{w:World}{A:Around}{E:Value->Shared->Prop}{s:Shared}
end
open AutoSeq1 (wpAny_loadPart')
section
variable{prog:Program}{w:World}{A:Around}{E:Value->Shared->Prop}{s:Shared}
end
end ZpT
namespace L2
open PySem PySem.Spec PyProof.Rows
section
variable{X:Cx}
end
end L2
namespace St2
open PySem PySem.Spec PyProof.Rows
section
variable{prog:Program}{w:World}{A:Around}{E:Value->Shared->Prop}{s:Shared}
theorem mz{l:Addr}{vs:List Value}{Q:List Value->Shared->Prop}(hl:s.heap.IsTuple l vs.toArray)
 (h:Q vs { s with heap:=(s.heap.push (seqObj "list" #[] 0)).update s.heap.objs.size (Obj.mapSeq (·++ vs.toArray)) }) (hz:vs.length<=sizeLine):wpAny (model prog w) A (collect (.ref l)) Q E s:=by
 unfold collect;refine A9 (wpAny_runValue (codeAny_builtin F.entry_proto_collect ?_));unfold Builtin.«proto.collect»
 show wpAny _ _ (newList [] >>= _) _ _ _
 refine A9 (Dh ?_ (by simp));refine Bg ⟨Code.quiet_builtin _ (by decide +kernel),codeAny_builtin F.entry_list_iadd ?_⟩;obtain ⟨o,ho,hc,n,hd⟩:=id hl;have ho':(s.heap.push { cls:=Value.type "list",data:=Data.seq #[] }).get? l=some o:=Ba _ ho;have hn:(s.heap.push { cls:=Value.type "list",data:=Data.seq #[] }).get? s.heap.objs.size=some { cls:=Value.type "list",data:=Data.seq #[] }:=Bm _ rfl;have hT:Shared.TypeIs { s with heap:=s.heap.push { cls:=Value.type "list",data:=Data.seq #[] } } (.ref l) "tuple" := ⟨o,ho',hc⟩
 show wpAny _ _ (Builtin.List.listExtendWith (.ref s.heap.objs.size) (.ref l) (.ref s.heap.objs.size)) _ _ _
 unfold Builtin.List.listExtendWith;refine A9 (wpAny_typeOf hT ?_)
 have hb:(Builtin.List.listSameRef (.ref s.heap.objs.size) (.ref l)||Value.type "tuple" == Value.type "list" || Value.type "tuple" == Value.type "tuple")=true:=by
  rw [show (Value.type "tuple" == Value.type "tuple")=true by decide,Db]
 rw [if_pos hb];refine A9 (listItems_at ho' hd (A9 (listItems_at hn rfl ?_)))
 show wpAny _ _ (Builtin.List.listUpdate (.ref s.heap.objs.size) (fun x=>x++vs.toArray) >>= _) _ _ _
 refine A9 (listUpdate_at hn rfl ?_ (by simp) (by simp;omega));refine Bg ?_;have e:=Ca (Obj.mapSeq (·++ vs.toArray)) hn rfl
 show wpAny _ _ (load s.heap.objs.size >>= _) _ _ _
 refine A9 (wpAny_load e ?_)
 show wpAny _ _ (pure (#[]++vs.toArray).toList) _ _ _
 refine Bg ?_;simpa using h
end
end St2
namespace L2
open PySem PySem.Spec PyProof.Rows
section
variable{X:Cx}
def gY(K:Dy):List V->Hp->(V->Hp->Prop)->Prop:=fun xs H Q=>∃ (p:Addr) (ns:List Int),xs=[V.ref p]/\SqT K H p (ns.map V.int)/\ns.length < 64 /\
 ∀ l (ms:List Int),H l=none->List.Perm ms ns->ms.Pairwise (·<= ·)->Q (.ref l) (upd H l (.lst (ms.map V.int)))
theorem oM:aJ X (.builtin "sorted") (gY X.K):=by
 intro pins s σ H xs us Q I r h;obtain ⟨p,ns,rfl,hq,h64,q⟩:=h;obtain ⟨u,rfl,ru⟩:=bV r;cases ru;obtain ⟨its,rv,pl,hz⟩:=I.tuple hq;have hlen:=rv.length;rw [Be] at hlen;refine Calls.call_function_entry kind_sorted plain_sorted entry_sorted (args_sorted1 _) ?_;unfold Builtin.«sorted»;refine A9 (m:=checkCount "sorted" 1 1 _) (Bg ?_);have lsz:sizeLine=16777216:=sizeLine_eq;refine A9 (St2.mz (show s.heap.IsTuple p its.toArray from pl) (A9 (Dh ?_ (by omega))) (by omega))
 generalize hh1:(s.heap.push (seqObj "list" #[] 0)).update s.heap.objs.size (Obj.mapSeq (·++ its.toArray))=h1
 have hsz:h1.objs.size=s.heap.objs.size+1:=by rw [<- hh1,Heap.size_update,size_push']
 have k1:∀ b o,s.heap.get? b=some o->h1.get? b=some o:=fun b o q=>by
  rw [<- hh1];exact (CJ _ _ (Ne.symm (BC (Bk q)))).trans (Ba _ q)
 show wpAny _ _ _ _ _ { s with heap:=h1.push (seqObj "list" its.toArray 0) }
 have oL:(h1.push (seqObj "list" its.toArray 0)).get? h1.objs.size=some (seqObj "list" its.toArray 0):=Bm _ rfl;refine A9 (Cm (BR slot_list_sort ⟨_,oL,rfl⟩ entry_list_sort (list_sort_tree oL (eW rv) (by omega) fun out ms hi hp hs=>⟨_,rfl,?_⟩) (args_list_sort _)))
 have hle:s.heap.objs.size<=h1.objs.size:=by rw [hsz];exact Nat.le_succ _
 have hf:H h1.objs.size=none:=I.hok.fresh hle;obtain ⟨e,he⟩:=sortedHeap_at (out:=out) oL;refine Bg ⟨_,rfl,.ref h1.objs.size,upd H h1.objs.size (.lst (ms.map V.int)),I.laid (t':=s.toks) (fun b o q=> ?_) hle ⟨?_,out.toList,e,jk hi,by simpa using he⟩,rfl,q _ _ hf hp hs⟩
 ·have lb:=Bk (k1 b o q)
  rw [sortedHeap_old (BC lb) (by rw [Cb];exact C5 lb)];exact Ba _ (k1 b o q)
 ·rw [Be,hp.length_eq]
  rwa [Be] at hz
end
section
variable{X:Cx}
def vV(K:Dy):List V->Hp->(V->Hp->Prop)->Prop:=fun xs H Q=>∃ (p:Addr) (ns:List Int),xs=[V.ref p]/\SqL K H p (ns.map V.int)/\Q (.int ns.sum) H
theorem uP(hc:X.calm=true):aJ X (.builtin "sum") (vV X.K):=by
 intro pins s σ H xs us Q I r h;obtain ⟨p,ns,rfl,hq,q⟩:=h;obtain ⟨u,rfl,ru⟩:=bV r;cases ru;obtain ⟨its,rv,pl,hz⟩:=I.list hq;obtain ⟨ps,rfl,e⟩:=cE rv
 have ei:intItems ps.toArray=(ps.map fun p=>Value.int p.1 p.2).toArray:=by unfold intItems;simp
 refine sum_intListG (xs:=ps.toArray) (I.ok.hd hc) (by rw [ei];exact pl.isList) fun h' tk t' k=> ?_
 have es:preSum (numAt ps.toArray) ps.toArray.size=ns.sum:=by
  rw [preSum_eq,List.take_of_length_le (by simp),<- e]
 rw [es];exact ⟨.int _,H,I.kept k,⟨t',rfl⟩,q⟩
def vU(K:Dy):List V->Hp->(V->Hp->Prop)->Prop:=fun xs H Q=>∃ (p:Addr) (ns:List Int),xs=[V.ref p]/\SqT K H p (ns.map V.int)/\Q (.int ns.sum) H
theorem uO(hc:X.calm=true):aJ X (.builtin "sum") (vU X.K):=by
 intro pins s σ H xs us Q I r h;obtain ⟨p,ns,rfl,hq,q⟩:=h;obtain ⟨u,rfl,ru⟩:=bV r;cases ru;obtain ⟨its,rv,pl,hz⟩:=I.tuple hq;obtain ⟨ps,rfl,e⟩:=cE rv
 have ei:intItems ps.toArray=(ps.map fun p=>Value.int p.1 p.2).toArray:=by unfold intItems;simp
 have ht:s.heap.IsTuple p (intItems ps.toArray):=by rw [ei];exact pl
 have hlt:p < s.heap.objs.size:=by obtain ⟨_,e,_⟩:=ht;exact Bk e
 have sz:(intItems ps.toArray).size=ps.toArray.size:=by unfold intItems;simp
 have es:preSum (numAt ps.toArray) (intItems ps.toArray).size=ns.sum:=by
  rw [sz,preSum_eq,List.take_of_length_le (by simp),<- e]
 refine call_sum_walkG (BU ht ?_);refine ⟨s.heap.objs.size,_,_,_,_,_,numAt ps.toArray,rfl,Walks.tuple (A:=X.A.in1) (I.ok.hd hc) _ p (BC hlt) (intItems ps.toArray),⟨⟨_,Bm _ rfl,rfl,rfl⟩,ht.push _⟩,fun b hb=> ?_,fun _ _=>intItems_at,fun h' tk t' hk=> ?_⟩
 ·show b < (s.heap.push _).objs.size
  rw [Cb]
  have hb':b=s.heap.objs.size\/b=p:=by simpa using hb
  rcases hb' with rfl | rfl
  ·exact De _
  ·exact C5 hlt
 ·rw [es]
  exact ⟨.int _,H,I.kept fun b o hb=>hk b o (by have:=BC (Bk hb);simpa using this) (Ba _ hb),⟨t',rfl⟩,q⟩
theorem qh(l:Addr)(items:Array Value)(n:Nat)(b:Addr)(items2:Array Value)(n2:Nat)(dd:Option Addr)(ss:Array (Option Value))(hs0:¬(!items.isEmpty&&Builtin.List.listTooLong (items.size+items2.size))=true)(hs1:items.size<=sizeLine)(hs2:items.size+items2.size<=sizeLine+1) :
 Meets (Builtin.«list.extend» ⟨[.ref l,.ref b],[]⟩) (fun _ R s=>s.heap.get? l=some { cls:= .type "list",dict:=none,data:= .seq items n,slots := #[] }/\s.heap.get? b=some { cls:= .type "tuple",dict:=dd,data:= .seq items2 n2,slots:=ss }/\R (.ok (.ret Value.none)) { s with heap:=s.heap.update l (Obj.mapSeq fun x=>x++items2),toks:=s.toks }) :=
 .of_wp fun prog w A R s h=>by
  obtain ⟨hp,g,d,tk,os⟩:=s;obtain ⟨hl,hb,h⟩:=h;have f1:=AutoSeq1.idx_int;have f2:=AutoSeq1.sub_tuple_tuple;have f3:=AutoSeq1.sub_list_list;have f4:=AutoSeq1.sub_tuple_list;have f5:=AutoSeq1.sub_list_tuple;
  have hz':(items++items2).size<=sizeLine+1:=by rw [Array.size_append];exact hs2
  wp_walk using (wpAny_updateSeq hl rfl (hz:=hs1) (_hz':=hz')),AutoSeq1.wpAny_loadPart' hl,AutoSeq1.wpAny_loadPart' hb;exact ⟨_,rfl,h⟩
def pM:V->List V->Hp->VK->Prop:=fun x vs H Q=>∃ l b xs zs,x = .ref l/\vs=[.ref b]/\H l=some (.lst xs)/\H b=some (.tup zs)/\xs.length+zs.length<=sizeLine/\Q .non (upd H l (.lst (xs++zs)))
theorem rj:MtM X "list.extend" pM:=by
 intro pins s σ H x vs v us Q I rx rv h;obtain ⟨l,b,xs,zs,rfl,rfl,hH,hB,hz,q⟩:=h;cases rx;obtain ⟨u,rfl,ru⟩:=rv.one;cases ru;obtain ⟨z,its,n,r,hl,e⟩:=I.lstM hH;obtain ⟨z2,its2,r2,⟨⟨cl,dd,dt,ss⟩,e2,ec,n2,ed⟩,_⟩:=I.hok b _ hB;dsimp only at ec ed;subst ec ed;have hl2:=r2.length
 have hsz:its.toArray.size+its2.toArray.size<=sizeLine:=by rw [Bh,Bh];omega
 have hlong:¬ (!its.toArray.isEmpty&&Builtin.List.listTooLong (its.toArray.size+its2.toArray.size))=true:=by
  rw [kU hsz,BS];exact Bo
 refine call_meets F.slot_list_extend ⟨_,e,rfl⟩ F.entry_list_extend (F.args_list_extend_2 _ _)
  (qh l its.toArray n b its2.toArray n2 dd ss hlong (by rw [Bh];omega) (by omega)) ⟨e,e2,?_⟩
 refine ⟨.non,_,I.lset (its':=its++its2) hH e (by simp) (r.append r2) ?_,rfl,q⟩;rw [Bz];omega
end
section
variable{X:Cx}
end
section
variable{X:Cx}
end
section
variable{X:Cx}{o i:Expr}{pos:Pos}{td ty:TE}
end
section
variable{X:Cx}{Pre:St->Hp->Prop}{R:Hp->V->Prop}
end
section
variable{X:Cx}{Pre:St->Hp->Prop}{R:Hp->V->Prop}
end
section
variable{X:Cx}
end
section
variable{X:Cx}
end
end L2
namespace St2
open PySem PySem.Spec PyProof.Rows
section
variable{prog:Program}{w:World}{A:Around}{E:Value->Shared->Prop}{s:Shared}
end
end St2
namespace L2
open PySem PySem.Spec PyProof.Rows
section
variable{X:Cx}
end
end L2
namespace St3
open PySem PySem.Spec PyProof.Rows PySem.SeqAt PySem.MeetsSeq PySem.MeetsSeq2 PySem.MeetsSeq3
end St3
namespace L2
open PySem PySem.Spec PyProof.Rows
section
variable{X:Cx}
end
section
variable{X:Cx}
end
section
variable{X:Cx}
end
end L2
namespace St4
open PySem PySem.Spec PyProof.Rows PySem.W
section
variable{prog:Program}{w:World}{A:Around}{E:Value->Shared->Prop}{s:Shared}{T:String}{r d:Addr}{n:Nat}{P:Nat->Value->Prop}{OK:Heap->Prop}
end
end St4
namespace L2
open PySem PySem.Spec PyProof.Rows PySem.W
section
variable{X:Cx}
end
section
variable{X:Cx}
end
end L2
namespace L2
open PySem PySem.Spec PyProof.Rows
section
variable{X:Cx}
end
section
variable{X:Cx}
end
section
variable{X:Cx}
variable{o e:Expr}{es:List Expr}{to:TE}{t:TA}{name:Str}{apos cpos:Pos}{id:String}{r:V->List V->Hp->VK->Prop}
end
section
variable{X:Cx}{Pre:St->Hp->Prop}{R R':Hp->V->Prop}
end
mutual
def sj(K:Dy)(H:Hp):PyData->V->Prop
 | .none,v=>v = .non
 | .bool b,v=>v = .bl b
 | .int i,v=>v = .int i
 | .str x,v=>v = .str x
 | .list ds,v=>∃ p xs,v = .ref p/\SqL K H p xs/\gP K H ds xs
 | .tuple ds,v=>∃ p xs,v = .ref p/\SqT K H p xs/\gP K H ds xs
 | .dict kvs,v=>kvs=[]/\∃ p,v = .ref p/\(H p=some (.dK [])\/H p=some (.dT []))
def gP(K:Dy)(H:Hp):List PyData->List V->Prop
 | [],[]=>True
 | d::ds,x::xs=>sj K H d x/\gP K H ds xs
 | _,_=>False
end
mutual
theorem ac.repP{K:Dy}{H H':Hp}(e:ac H H'):∀ {d:PyData} {v:V},sj K H d v->sj K H' d v
 | .none,_,h=>h
 | .bool _,_,h=>h
 | .int _,_,h=>h
 | .str _,_,h=>h
 | .list _,_,⟨p,xs,h1,h2,h3⟩=>⟨p,xs,h1,e.seq h2,e.repPL h3⟩
 | .tuple _,_,⟨p,xs,h1,h2,h3⟩=>⟨p,xs,h1,e.tup h2,e.repPL h3⟩
 | .dict _,_,⟨h0,p,h1,h2⟩=>⟨h0,p,h1,h2.elim (fun z=> .inl (e _ _ z)) fun z=> .inr (e _ _ z)⟩
theorem ac.repPL{K:Dy}{H H':Hp}(e:ac H H'):∀ {ds:List PyData} {xs:List V},gP K H ds xs->gP K H' ds xs
 | [],[],_=>trivial
 | _::_,_::_,h=>⟨e.repP h.1,e.repPL h.2⟩
 | [],_::_,h=>h.elim
 | _::_,[],h=>h.elim
end
def mD:PyData->Dt
 | .none=> .non | .bool b=> .bl b | .int i=> .int i | .str x=> .str x | .list _=> .lst | .dict _=> .dct | .tuple ds=> .tup (ds.map mD)
mutual
theorem sj.rep{K:Dy}{H:Hp}:∀ {d:PyData} {v:V},sj K H d v->Rep K H (mD d) v
 | .none,_,h=>by unfold mD;exact h
 | .bool _,_,h=>by unfold mD;exact h
 | .int _,_,h=>by unfold mD;exact h
 | .str _,_,h=>by unfold mD;exact h
 | .list _,_,⟨p,xs,h1,h2,_⟩=>by unfold mD;exact ⟨p,xs,h1,h2⟩
 | .tuple _,_,⟨p,xs,h1,h2,h3⟩=>by unfold mD;exact ⟨p,xs,h1,h2,gP.rep h3⟩
 | .dict _,_,⟨_,p,h1,h2⟩=>by unfold mD;exact ⟨p,h1,h2.elim (fun z=> .inl ⟨_,z⟩) fun z=> .inr ⟨_,z⟩⟩
theorem gP.rep{K:Dy}{H:Hp}:∀ {ds:List PyData} {xs:List V},gP K H ds xs->xT K H (ds.map mD) xs
 | [],[],_=>trivial
 | _::_,_::_,h=>⟨sj.rep h.1,gP.rep h.2⟩
 | [],_::_,h=>h.elim
 | _::_,[],h=>h.elim
end
section
variable{X:Cx}{pins:List (Addr×Obj)}{σ:St}{H:Hp}{s:Shared}
mutual
theorem vP(I:Inv X pins σ H s):∀ {d:PyData} {v:V} {u:Value},sj X.K H d v->az v u->∃ as,Reads s.heap u d as/\((d = .dict []\/d.hasDict=false)->d.hasDict=true->sysModules∉as)
 | .none,_,_,h,r=>by cases h;cases r;exact ⟨[],.none,fun _ z=>by simp [PyData.hasDict] at z⟩
 | .bool b,_,_,h,r=>by cases h;cases r;exact ⟨[],.bool b,fun _ z=>by simp [PyData.hasDict] at z⟩
 | .int i,_,_,h,r=>by cases h;obtain ⟨t,rfl⟩:=r;exact ⟨[],.int i t,fun _ z=>by simp [PyData.hasDict] at z⟩
 | .str x,_,_,h,r=>by cases h;obtain ⟨t,rfl⟩:=r;exact ⟨[],.str x t,fun _ z=>by simp [PyData.hasDict] at z⟩
 | .list ds,_,_,⟨p,xs,h1,h2,h3⟩,r=>by
  subst h1;cases r;obtain ⟨its,rv,pl,_⟩:=I.list h2;obtain ⟨o,e1,e2,n,e3⟩:=pl.isList;obtain ⟨as,ra⟩:=fH I h3 rv;refine ⟨p::as,.list e1 e2 e3 (by simpa using ra),fun z1 z2=> ?_⟩
  rcases z1 with z1 | z1
  ·cases z1
  ·rw [z2] at z1;cases z1
 | .tuple ds,_,_,⟨p,xs,h1,h2,h3⟩,r=>by
  subst h1;cases r;obtain ⟨its,rv,pl,_⟩:=I.tuple h2;obtain ⟨o,e1,e2,n,e3⟩:=pl;obtain ⟨as,ra⟩:=fH I h3 rv;refine ⟨as,.tuple e1 e2 e3 (by simpa using ra),fun z1 z2=> ?_⟩
  rcases z1 with z1 | z1
  ·cases z1
  ·rw [z2] at z1;cases z1
 | .dict kvs,_,_,⟨h0,p,h1,h2⟩,r=>by
  subst h1 h0;cases r
  have z:∃ o es ep,s.heap.get? p=some o/\o.cls = .type "dict" /\ o.data = .dict es ep/\es.toList=[]/\(p == sysModules)=false:=by
   rcases h2 with h2 | h2
   ·obtain ⟨_,ne,vs,kv,o,es,ep,e,ex,hd,_,pr,_⟩:=I.hok p _ h2
    cases kv;refine ⟨o,es,ep,e,ex.1,hd,?_,ne⟩
    cases hes:es.toList with
    | nil=>rfl
    | cons a l=>rw [hes] at pr;cases pr
   ·obtain ⟨_,ne,xs,pr,o,es,ep,e,ex,hd,hl,_⟩:=I.hok p _ h2
    cases pr;exact ⟨o,es,ep,e,ex.1,hd,hl,ne⟩
  obtain ⟨o,es,ep,e1,e2,e3,e4,ne⟩:=z;refine ⟨_,.dict (as:=[]) (bs:=[]) e1 e2 e3 (by rw [e4];exact .nil) (by rw [e4];exact .nil),fun _ _ hm=> ?_⟩
  have:sysModules=p:=by simpa using hm
  rw [this] at ne;simp at ne
theorem fH(I:Inv X pins σ H s):∀ {ds:List PyData} {xs:List V} {us:List Value},gP X.K H ds xs->aA xs us->∃ as,ReadsAll s.heap us ds as
 | [],[],_,_,r=>by cases r;exact ⟨[],.nil⟩
 | _::_,_::_,_,h,r=>by
  cases r with
  | cons r t =>
   obtain ⟨a1,r1,_⟩:=vP I h.1 r;obtain ⟨a2,r2⟩:=fH I h.2 t;exact ⟨a1++a2,.cons r1 r2⟩
 | [],_::_,_,h,_=>h.elim
 | _::_,[],_,h,_=>h.elim
end
end
section
variable{X:Cx}
end
section
variable{X:Cx}{a b c d:Expr}{ta tb tc td:TE}{pos:Pos}
end
section
open PySem.SeqAt PySem.MeetsSeq
open AutoSeq1 (wpAny_loadPart')
variable{A:Around}{s:Shared}
end
section
variable{X:Cx}
end
section
variable{X:Cx}{tg:Expr}
end
end L2
namespace ZpA
open PySem PySem.Spec PyProof.Rows
inductive Kd where
 | L | T
def nm:Kd->String
 | .L => "list"
 | .T => "tuple"
def It:Kd->Heap->Addr->Addr->Nat->Prop
 | .L=>fun h it l i=>h.IsListIter it l i
 | .T=>fun h it l i=>h.IsTupleIter it l i
def Sq:Kd->Heap->Addr->Array Value->Prop
 | .L=>fun h l xs=>h.IsList l xs
 | .T=>fun h l xs=>h.IsTuple l xs
def w8:Kd->Addr->Obj
 | .L=>fun l=>{ cls:= .type "list_iterator",data:= .fields #[.ref l,.int 0 0] }
 | .T=>fun l=>{ cls:= .type "tuple_iterator",data:= .fields #[.ref l,.int 0 0] }
theorem It.at{c:Kd}{h h':Heap}{it l:Addr}{i:Nat}(x:It c h it l i)(k:∀ o,h.get? it=some o->h'.get? it=some o):It c h' it l i:=by
 cases c with
 | L=>exact Heap.IsListIter.at (show h.IsListIter it l i from x) k
 | T=>exact Heap.IsTupleIter.at (show h.IsTupleIter it l i from x) k
theorem It.obj{c:Kd}{h:Heap}{it l:Addr}{i:Nat}(x:It c h it l i):∃ o,h.get? it=some o/\(∃ vs,o.data = .fields vs)/\(o.cls = .type "list_iterator" \/ o.cls = .type "tuple_iterator"):=by
 cases c with
 | L=>obtain ⟨o,ho,hc,hd⟩:=(show h.IsListIter it l i from x);exact ⟨o,ho,⟨_,hd⟩,.inl hc⟩
 | T=>obtain ⟨o,ho,hc,hd⟩:=(show h.IsTupleIter it l i from x);exact ⟨o,ho,⟨_,hd⟩,.inr hc⟩
theorem Sq.at{c:Kd}{h h':Heap}{l:Addr}{xs:Array Value}(x:Sq c h l xs)(k:∀ o,h.get? l=some o->h'.get? l=some o):Sq c h' l xs:=by
 cases c with
 | L=>obtain ⟨o,ho,r⟩:=(show h.IsList l xs from x);exact ⟨o,k o ho,r⟩
 | T=>obtain ⟨o,ho,r⟩:=(show h.IsTuple l xs from x);exact ⟨o,k o ho,r⟩
theorem Sq.obj{c:Kd}{h:Heap}{l:Addr}{xs:Array Value}(x:Sq c h l xs):∃ o,h.get? l=some o/\(o.cls = .type "list" \/ o.cls = .type "tuple"):=by
 cases c with
 | L=>obtain ⟨o,ho,r,_⟩:=(show h.IsList l xs from x);exact ⟨o,ho,.inl r⟩
 | T=>obtain ⟨o,ho,r,_⟩:=(show h.IsTuple l xs from x);exact ⟨o,ho,.inr r⟩
theorem It.new{c:Kd}{h:Heap}{l:Addr}:It c (h.push (w8 c l)) h.objs.size l 0:=by
 cases c with
 | L=>exact ⟨_,Bm _ rfl,rfl,rfl⟩
 | T=>exact ⟨_,Bm _ rfl,rfl,rfl⟩
section
variable{prog:Program}{w:World}{A:Around}{E:Value->Shared->Prop}{s:Shared}
theorem eG{c:Kd}{it l:Addr}{i:Nat}{items}{x:Value}{Q:Value->Shared->Prop}(hit:It c s.heap it l i)(hl:Sq c s.heap l items)(hx:items[i]?=some x)
 (hQ:∀ h',It c h' it l (i+1)->Heap.SameBut it s.heap h'->Q x { s with heap:=h' }):wpAny (model prog w) A (Builtin.SmallTypes.nextOf (.ref it)) Q E s:=by
 cases c with
 | L=>exact wpAny_nextOf_list_item (show s.heap.IsListIter it l i from hit) (show s.heap.IsList l items from hl) hx hQ
 | T=>exact EnT.eG (show s.heap.IsTupleIter it l i from hit) (show s.heap.IsTuple l items from hl) hx hQ
theorem fJ{c:Kd}{it l:Addr}{i:Nat}{items}{Q:Value->Shared->Prop}(hh:A.handled=none)(hit:It c s.heap it l i)(hl:Sq c s.heap l items)(hx:items[i]?=none)
 (hE:∀ h' e,Heap.ExtBut it s.heap h'->(∃ o,h'.get? e=some o/\o.cls = .type "StopIteration")->E (.ref e) { s with heap:=h' }):wpAny (model prog w) A (Builtin.SmallTypes.nextOf (.ref it)) Q E s:=by
 cases c with
 | L=>exact wpAny_nextOf_list_end hh (show s.heap.IsListIter it l i from hit) (show s.heap.IsList l items from hl) hx hE
 | T=>exact EnT.fJ hh (show s.heap.IsTupleIter it l i from hit) (show s.heap.IsTuple l items from hl) hx hE
end
theorem draws{prog:Program}{w:World}{A:Around}{c:Kd}(hh:A.handled=none)(it l:Addr)(hne:l≠it)(items:Array Value) :
 Draws prog w A it [it,l] items.size (fun i v=>items[i]?=some v) (fun i h=>It c h it l i/\Sq c h l items) where
 live:=fun _ _ st=>let ⟨o,ho,_⟩:=st.1.obj;⟨o,ho⟩
 frame:=fun _ _ _ st hk=>⟨st.1.at fun o e=>hk it (by simp) o e,st.2.at fun o e=>hk l (by simp) o e⟩
 item:=fun i s Q E hi st hQ=>by
  refine eG st.1 st.2 (x:=items[i]) (by simp [hi]) fun h' hit' hs'=> ?_
  exact hQ _ h' s.toks (by simp [hi]) ⟨hit',st.2.at fun o e=>hs'.extBut _ _ hne e⟩ hs'
 done:=fun s Q E st hE=>fJ hh st.1 st.2 (by simp) hE
section
variable{prog:Program}{w:World}{A:Around}{E:Value->Shared->Prop}{s:Shared}
theorem vo{c1 c2:Kd}{z TI TO i1 i2 l1 l2:Addr}{k:Nat}{xs ys:Array Value}{x y a b:Value}{Q:Option Value->Shared->Prop}(ap:ZipApart z TI TO i1 i2 l1 l2)(hz:IsZip s.heap z TI TO .none)(hTI:IsPair s.heap TI (.ref i1) (.ref i2))(hTO:IsPair s.heap TO a b)
 (h1:It c1 s.heap i1 l1 k) (h2:It c2 s.heap i2 l2 k) (t1:Sq c1 s.heap l1 xs) (t2:Sq c2 s.heap l2 ys) (hx:xs[k]?=some x) (hy:ys[k]?=some y)
 (hQ:∀ h',IsZip h' z TI TO (rawInt s.heap.objs.size)->IsPair h' TO x y->It c1 h' i1 l1 (k+1)->It c2 h' i2 l2 (k+1)->IsPair h' s.heap.objs.size x y->(∀ c o,c≠z->c≠TO->c≠i1->c≠i2->s.heap.get? c=some o->h'.get? c=some o)->Q (some (.ref s.heap.objs.size)) { s with heap:=h' }) :
 wpAny (model prog w) A (pyNext (.ref z)) Q E s:=by
 have hT:s.TypeIs (.ref z) "zip" := ⟨_,hz,rfl⟩;unfold pyNext
 refine A9 (wpAny_attempt (BL (name:=Str.ofString "__next__") hT F.slot_zip_next
  (BR F.slot_zip_next hT F.entry_zip_next ?_ (F.args_zip_next_1 _))))
 show wpAny _ _ (field (.ref z) 2 >>= _) _ _ _
 refine A9 (Cd hz rfl (x:= .bool false) rfl ?_)
 show wpAny _ _ (field (.ref z) 3 >>= _) _ _ _
 refine A9 (Cd hz rfl (x:= .ref TI) rfl ?_)
 show wpAny _ _ (seqItems? (.ref TI) >>= _) _ _ _
 refine A9 (CP hTI rfl ?_)
 show wpAny _ _ (Builtin.SmallTypes.ownedTupleIsFree (.ref z) >>= _) _ _ _
 unfold Builtin.SmallTypes.ownedTupleIsFree;refine A9 (A9 (Cd hz rfl (x:= .none) rfl (Bg ?_)))
 show wpAny _ _ (rule "zip.__next__.owned-tuple-again" >>= _) _ _ _
 refine A9 (wpAny_rule ?_)
 show wpAny _ _ (field (.ref z) 4 >>= _) _ _ _
 refine A9 (Cd hz rfl (x:= .ref TO) rfl ?_)
 show wpAny _ _ (setField (.ref z) 0 .ellipsis >>= _) _ _ _
 refine A9 (Ct hz rfl (show 0 < 5 by decide) ?_);have zA:IsZip (s.heap.update z (Obj.mapFields fun q=>q.setIfInBounds 0 .ellipsis)) z TI TO .ellipsis:=Ca _ hz rfl;have sA:Heap.SameBut z s.heap (s.heap.update z (Obj.mapFields fun q=>q.setIfInBounds 0 .ellipsis)):=Heap.SameBut.update ..
 generalize s.heap.update z (Obj.mapFields fun q=>q.setIfInBounds 0 .ellipsis)=hA at zA sA ⊢
 have ksA:∀ c o,c≠z->s.heap.get? c=some o->hA.get? c=some o:=fun c o n q=>(sA.2 c n).trans q
 have toA:IsPair hA TO a b:=ksA _ _ ap.TOz hTO
 have i1A:It c1 hA i1 l1 k:=h1.at fun o q=>ksA i1 o ap.i1z q
 have i2A:It c2 hA i2 l2 k:=h2.at fun o q=>ksA i2 o ap.i2z q
 have t1A:Sq c1 hA l1 xs:=t1.at fun o ho=>ksA l1 o ap.l1z ho
 have t2A:Sq c2 hA l2 ys:=t2.at fun o ho=>ksA l2 o ap.l2z ho
 show wpAny _ _ (forIn [(Value.ref i1,0),(Value.ref i2,1)] ((none:Option Fin),()) _ >>= _) _ _ _
 rw [Dq];refine A9 (A9 (A9 (wpAny_onRaise ?_)))
 show wpAny _ _ (Builtin.SmallTypes.nextOf (.ref i1) >>= fun v=>pure (some v)) _ _ _
 refine A9 (eG (s:={ s with heap:=hA }) i1A t1A hx fun hB i1B sB=>Bg ?_)
 have ksB:∀ c o,c≠i1->hA.get? c=some o->hB.get? c=some o:=fun c o n q=>(sB.2 c n).trans q
 have toB:IsPair hB TO a b:=ksB _ _ ap.TOi1 toA
 show wpAny _ _ (seqItems? (.ref TO) >>= _) _ _ _
 refine A9 (CP toB rfl ?_)
 show wpAny _ _ (updateSeq TO (fun q=>q.setIfInBounds 0 x) >>= _) _ _ _
 refine A9 (wpAny_updateSeq_pair (s:={ s with heap:=hB }) toB fun hC toC sC=> ?_);refine A9 (wpAny_letGo (Bg ?_))
 have ksC:∀ c o,c≠TO->hB.get? c=some o->hC.get? c=some o:=fun c o n q=>(sC.2 c n).trans q
 have i1C:It c1 hC i1 l1 (k+1):=i1B.at fun o q=>ksC i1 o (Ne.symm ap.TOi1) q
 have i2C:It c2 hC i2 l2 k:=(i2A.at fun o q=>ksB i2 o (Ne.symm ap.i12) q).at fun o q=>ksC i2 o (Ne.symm ap.TOi2) q
 have t2C:Sq c2 hC l2 ys:=t2A.at fun o ho=>ksC l2 o ap.l2TO (ksB l2 o ap.l2i1 ho)
 have zC:IsZip hC z TI TO .ellipsis:=ksC _ _ (Ne.symm ap.TOz) (ksB _ _ (Ne.symm ap.i1z) zA);have toC:IsPair hC TO x b:=toC
 show wpAny _ _ (forIn [(Value.ref i2,1)] ((none:Option Fin),()) _) _ _ _
 rw [Dq];refine A9 (A9 (wpAny_onRaise ?_))
 show wpAny _ _ (Builtin.SmallTypes.nextOf (.ref i2) >>= fun v=>pure (some v)) _ _ _
 refine A9 (eG (s:={ s with heap:=hC }) i2C t2C hy fun hD i2D sD=>Bg ?_)
 have ksD:∀ c o,c≠i2->hC.get? c=some o->hD.get? c=some o:=fun c o n q=>(sD.2 c n).trans q
 have toD:IsPair hD TO x b:=ksD _ _ ap.TOi2 toC
 show wpAny _ _ (seqItems? (.ref TO) >>= _) _ _ _
 refine A9 (CP toD rfl ?_)
 show wpAny _ _ (updateSeq TO (fun q=>q.setIfInBounds 1 y) >>= _) _ _ _
 refine A9 (wpAny_updateSeq_pair (s:={ s with heap:=hD }) toD fun hF toF sF=> ?_);refine A9 (wpAny_letGo (Bg ?_))
 have ksF:∀ c o,c≠TO->hD.get? c=some o->hF.get? c=some o:=fun c o n q=>(sF.2 c n).trans q
 have toF:IsPair hF TO x y:=toF;have zF:IsZip hF z TI TO .ellipsis:=ksF _ _ (Ne.symm ap.TOz) (ksD _ _ (Ne.symm ap.i2z) zC)
 have i1F:It c1 hF i1 l1 (k+1):=(i1C.at fun o q=>ksD i1 o ap.i12 q).at fun o q=>ksF i1 o (Ne.symm ap.TOi1) q
 have i2F:It c2 hF i2 l2 (k+1):=i2D.at fun o q=>ksF i2 o (Ne.symm ap.TOi2) q
 show wpAny _ _ (forIn ([]:List (Value×Nat)) ((none:Option Fin),()) _) _ _ _
 rw [List.forIn_nil];refine Bg ?_
 show wpAny _ _ (seqItems? (.ref TO) >>= _) _ _ _
 refine A9 (CP toF rfl ?_)
 show wpAny _ _ (newTuple [x,y] >>= _) _ _ _
 unfold newTuple;have sz:hF.objs.size=s.heap.objs.size:=sF.1.trans (sD.1.trans (sC.1.trans (sB.1.trans sA.1)));refine A9 (BN ?_ (by size_fits))
 show wpAny _ _ (Builtin.SmallTypes.ownedTupleHandOut (.ref z) (.ref hF.objs.size) >>= _) _ _ { s with heap:=hF.push { cls:= .type "tuple",data:= .seq #[x,y] } }
 have zG:IsZip (hF.push { cls:= .type "tuple",data:= .seq #[x,y] }) z TI TO .ellipsis:=Ba _ zF;have pG:IsPair (hF.push { cls:= .type "tuple",data:= .seq #[x,y] }) hF.objs.size x y:=Bm _ rfl
 have ksG:∀ c o,hF.get? c=some o->(hF.push { cls:= .type "tuple",data:= .seq #[x,y] }).get? c=some o:=fun c o q=>Ba _ q
 generalize hF.push { cls:= .type "tuple",data:= .seq #[x,y] }=hG at zG pG ksG ⊢
 unfold Builtin.SmallTypes.ownedTupleHandOut
 show wpAny _ _ ((setField (.ref z) 0 (rawInt hF.objs.size) >>= fun _=>setField (.ref z) 1 (.bool false)) >>= _) _ _ _
 refine A9 (A9 (Ct zG rfl (show 0 < 5 by decide) ?_));have zH:IsZip (hG.update z (Obj.mapFields fun q=>q.setIfInBounds 0 (rawInt hF.objs.size))) z TI TO (rawInt hF.objs.size):=Ca _ zG rfl;have sH:Heap.SameBut z hG (hG.update z (Obj.mapFields fun q=>q.setIfInBounds 0 (rawInt hF.objs.size))):=Heap.SameBut.update ..
 generalize hG.update z (Obj.mapFields fun q=>q.setIfInBounds 0 (rawInt hF.objs.size))=hH at zH sH ⊢
 refine Ct zH rfl (show 1 < 5 by decide) ?_;have zJ:IsZip (hH.update z (Obj.mapFields fun q=>q.setIfInBounds 1 (.bool false))) z TI TO (rawInt hF.objs.size):=Ca _ zH rfl;have sJ:Heap.SameBut z hH (hH.update z (Obj.mapFields fun q=>q.setIfInBounds 1 (.bool false))):=Heap.SameBut.update ..
 generalize hH.update z (Obj.mapFields fun q=>q.setIfInBounds 1 (.bool false))=hJ at zJ sJ ⊢
 have ksJ:∀ c o,c≠z->hF.get? c=some o->hJ.get? c=some o:=fun c o n q=>(sJ.2 c n).trans ((sH.2 c n).trans (ksG c o q))
 have nz:hF.objs.size≠z:=fun e=>absurd (Bk zF) (by rw [e];exact CZ _)
 have pJ:IsPair hJ hF.objs.size x y:=(sJ.2 _ nz).trans ((sH.2 _ nz).trans pG);refine Bg ⟨_,rfl,Bg ?_⟩;rw [sz] at zJ pJ ⊢
 refine hQ hJ zJ (ksJ _ _ ap.TOz toF) (i1F.at fun o q=>ksJ i1 o ap.i1z q) (i2F.at fun o q=>ksJ i2 o ap.i2z q) pJ fun c o n1 n2 n3 n4 q=> ?_
 exact ksJ _ _ n1 (ksF _ _ n2 (ksD _ _ n4 (ksC _ _ n2 (ksB _ _ n3 (ksA _ _ n1 q)))))
theorem xX{c1:Kd}{z TI TO i1 i2 l1 l2:Addr}{k:Nat}{xs:Array Value}{a b:Value}{Q:Option Value->Shared->Prop}(hh:A.handled=none)(ap:ZipApart z TI TO i1 i2 l1 l2)(hz:IsZip s.heap z TI TO .none)(hTI:IsPair s.heap TI (.ref i1) (.ref i2))(hTO:IsPair s.heap TO a b)
 (h1:It c1 s.heap i1 l1 k) (t1:Sq c1 s.heap l1 xs) (hx:xs[k]?=none)
 (hQ:∀ h',(∀ c o,c≠z->c≠i1->s.heap.get? c=some o->h'.get? c=some o)->Q none { s with heap:=h' }) :
 wpAny (model prog w) A (pyNext (.ref z)) Q E s:=by
 have hT:s.TypeIs (.ref z) "zip" := ⟨_,hz,rfl⟩;unfold pyNext
 refine A9 (wpAny_attempt (BL (name:=Str.ofString "__next__") hT F.slot_zip_next
  (BR F.slot_zip_next hT F.entry_zip_next ?_ (F.args_zip_next_1 _))))
 show wpAny _ _ (field (.ref z) 2 >>= _) _ _ _
 refine A9 (Cd hz rfl (x:= .bool false) rfl ?_)
 show wpAny _ _ (field (.ref z) 3 >>= _) _ _ _
 refine A9 (Cd hz rfl (x:= .ref TI) rfl ?_)
 show wpAny _ _ (seqItems? (.ref TI) >>= _) _ _ _
 refine A9 (CP hTI rfl ?_)
 show wpAny _ _ (Builtin.SmallTypes.ownedTupleIsFree (.ref z) >>= _) _ _ _
 unfold Builtin.SmallTypes.ownedTupleIsFree;refine A9 (A9 (Cd hz rfl (x:= .none) rfl (Bg ?_)))
 show wpAny _ _ (rule "zip.__next__.owned-tuple-again" >>= _) _ _ _
 refine A9 (wpAny_rule ?_)
 show wpAny _ _ (field (.ref z) 4 >>= _) _ _ _
 refine A9 (Cd hz rfl (x:= .ref TO) rfl ?_)
 show wpAny _ _ (setField (.ref z) 0 .ellipsis >>= _) _ _ _
 refine A9 (Ct hz rfl (show 0 < 5 by decide) ?_);have zA:IsZip (s.heap.update z (Obj.mapFields fun q=>q.setIfInBounds 0 .ellipsis)) z TI TO .ellipsis:=Ca _ hz rfl;have sA:Heap.SameBut z s.heap (s.heap.update z (Obj.mapFields fun q=>q.setIfInBounds 0 .ellipsis)):=Heap.SameBut.update ..
 generalize s.heap.update z (Obj.mapFields fun q=>q.setIfInBounds 0 .ellipsis)=hA at zA sA ⊢
 have ksA:∀ c o,c≠z->s.heap.get? c=some o->hA.get? c=some o:=fun c o n q=>(sA.2 c n).trans q
 have i1A:It c1 hA i1 l1 k:=h1.at fun o q=>ksA i1 o ap.i1z q
 have t1A:Sq c1 hA l1 xs:=t1.at fun o ho=>ksA l1 o ap.l1z ho
 show wpAny _ _ (forIn [(Value.ref i1,0),(Value.ref i2,1)] ((none:Option Fin),()) _ >>= _) _ _ _
 rw [Dq];refine A9 (A9 (A9 (wpAny_onRaise ?_)))
 show wpAny _ _ (Builtin.SmallTypes.nextOf (.ref i1) >>= fun v=>pure (some v)) _ _ _
 refine A9 (fJ (s:={ s with heap:=hA }) hh i1A t1A hx fun h' e eb he=> ?_);have zB:IsZip h' z TI TO .ellipsis:=eb _ _ (Ne.symm ap.i1z) zA;refine Ct zB rfl (show 0 < 5 by decide) ?_;have sC:Heap.SameBut z h' (h'.update z (Obj.mapFields fun q=>q.setIfInBounds 0 .none)):=Heap.SameBut.update ..;obtain ⟨o,ho,hc⟩:=he
 have ez:e≠z:=fun q=>by
  rw [q,zB] at ho;cases ho;exact absurd (show Value.type "zip" = Value.type "StopIteration" from hc) (by decide)
 have ho2:(h'.update z (Obj.mapFields fun q=>q.setIfInBounds 0 .none)).get? e=some o:=(sC.2 e ez).trans ho;refine A9 (wpAny_isInstance (T := "StopIteration") (b:=true) ⟨o,ho2,hc⟩ isSubtype_stop ?_);refine Bg (hQ _ fun c o n1 n2 q=>(sC.2 c n1).trans (eb c o n2 (ksA c o n1 q)))
end
abbrev H1(c1:Kd)(h:Heap)(l1:Addr):Heap:=h.push (w8 c1 l1)
abbrev H2(c1 c2:Kd)(h:Heap)(l1 l2:Addr):Heap:=(H1 c1 h l1).push (w8 c2 l2)
abbrev H3(c1 c2:Kd)(h:Heap)(l1 l2:Addr):Heap:=(H2 c1 c2 h l1 l2).push { cls:= .type "tuple",data:= .seq #[.ref h.objs.size,.ref (H1 c1 h l1).objs.size] }
abbrev H4(c1 c2:Kd)(h:Heap)(l1 l2:Addr):Heap:=(H3 c1 c2 h l1 l2).push { cls:= .type "tuple",data:= .seq #[.none,.none] }
abbrev H5(c1 c2:Kd)(h:Heap)(l1 l2:Addr):Heap:=(H4 c1 c2 h l1 l2).push { cls:= .type "zip",data:= .fields #[.none,.bool false,.bool false,.ref (H2 c1 c2 h l1 l2).objs.size,.ref (H3 c1 c2 h l1 l2).objs.size] }
theorem i0(c1 c2:Kd)(l1 l2:Addr)(xs ys:Array Value) :
 Meets (Builtin.«zip.__new__» ⟨[.type "zip",.ref l1,.ref l2],[]⟩) (fun _ R s=>Sq c1 s.heap l1 xs/\Sq c2 s.heap l2 ys /\
  R (.ok (.ret (.ref (H4 c1 c2 s.heap l1 l2).objs.size))) { s with heap:=H5 c1 c2 s.heap l1 l2 }):=by
 cases c1 with
 | T =>
  cases c2 with
  | T =>
   refine .of_wp fun prog w A R s h=> ?_
   obtain ⟨hp,g,d,tk,os⟩:=s;obtain ⟨hL1,hL2,h⟩:=h;have hsub:=sub_zip;have hL1:hp.IsTuple l1 xs:=hL1;have hL2':Heap.IsTuple (H1 .T hp l1) l2 ys:=let ⟨o,ho,r⟩:=(show hp.IsTuple l2 ys from hL2);⟨o,Ba _ ho,r⟩
   wp_walk using BU hL1,BU hL2'
   exact ⟨_,rfl,h⟩
  | L =>
   refine .of_wp fun prog w A R s h=> ?_
   obtain ⟨hp,g,d,tk,os⟩:=s;obtain ⟨hL1,hL2,h⟩:=h;have hsub:=sub_zip;have hL1:hp.IsTuple l1 xs:=hL1;have hL2':Heap.IsList (H1 .T hp l1) l2 ys:=let ⟨o,ho,r⟩:=(show hp.IsList l2 ys from hL2);⟨o,Ba _ ho,r⟩
   wp_walk using BU hL1,CM hL2'
   exact ⟨_,rfl,h⟩
 | L =>
  cases c2 with
  | T =>
   refine .of_wp fun prog w A R s h=> ?_
   obtain ⟨hp,g,d,tk,os⟩:=s;obtain ⟨hL1,hL2,h⟩:=h;have hsub:=sub_zip;have hL1:hp.IsList l1 xs:=hL1;have hL2':Heap.IsTuple (H1 .L hp l1) l2 ys:=let ⟨o,ho,r⟩:=(show hp.IsTuple l2 ys from hL2);⟨o,Ba _ ho,r⟩
   wp_walk using CM hL1,BU hL2'
   exact ⟨_,rfl,h⟩
  | L =>
   refine .of_wp fun prog w A R s h=> ?_
   obtain ⟨hp,g,d,tk,os⟩:=s;obtain ⟨hL1,hL2,h⟩:=h;have hsub:=sub_zip;have hL1:hp.IsList l1 xs:=hL1;have hL2':Heap.IsList (H1 .L hp l1) l2 ys:=let ⟨o,ho,r⟩:=(show hp.IsList l2 ys from hL2);⟨o,Ba _ ho,r⟩
   wp_walk using CM hL1,CM hL2'
   exact ⟨_,rfl,h⟩
section
variable{prog:Program}{w:World}{A:Around}{E:Value->Shared->Prop}{s:Shared}
theorem lS{c1 c2:Kd}{l1 l2:Addr}{xs ys:Array Value}{Q:Value->Shared->Prop}(h1:Sq c1 s.heap l1 xs)(h2:Sq c2 s.heap l2 ys)
 (h:∀ h',IsZip h' (s.heap.objs.size+4) (s.heap.objs.size+2) (s.heap.objs.size+3) .none->IsPair h' (s.heap.objs.size+2) (.ref s.heap.objs.size) (.ref (s.heap.objs.size+1))->IsPair h' (s.heap.objs.size+3) .none .none ->
   It c1 h' s.heap.objs.size l1 0->It c2 h' (s.heap.objs.size+1) l2 0->(∀ b o,s.heap.get? b=some o->h'.get? b=some o)->Q (.ref (s.heap.objs.size+4)) { s with heap:=h' }) :
 wpAny (model prog w) A (call (.type "zip") [.ref l1,.ref l2]) Q E s:=by
 refine callType_new F.called_zip (by decide) (F.typeCall_zip_2 _ _) (F.newCall_zip_2 _ _) (fun obj=>F.args_object_init_3 obj _ _) F.entry_zip_new (i0 c1 c2 l1 l2 xs ys) ⟨h1,h2,?_⟩;have z1:(H1 c1 s.heap l1).objs.size=s.heap.objs.size+1:=Cb ..;have z2:(H2 c1 c2 s.heap l1 l2).objs.size=s.heap.objs.size+2:=(Cb ..).trans (by rw [z1]);have z3:(H3 c1 c2 s.heap l1 l2).objs.size=s.heap.objs.size+3:=(Cb ..).trans (by rw [z2]);have z4:(H4 c1 c2 s.heap l1 l2).objs.size=s.heap.objs.size+4:=(Cb ..).trans (by rw [z3])
 have kz:∀ {h0:Heap} {o:Obj} (b:Addr) (u:Obj),h0.get? b=some u->(h0.push o).get? b=some u:=fun b u q=>Ba _ q
 have hz:IsZip (H5 c1 c2 s.heap l1 l2) (s.heap.objs.size+4) (s.heap.objs.size+2) (s.heap.objs.size+3) .none:=by
  have:=Bm (H4 c1 c2 s.heap l1 l2) (o:={ cls:= .type "zip",data:= .fields #[.none,.bool false,.bool false,.ref (H2 c1 c2 s.heap l1 l2).objs.size,.ref (H3 c1 c2 s.heap l1 l2).objs.size] }) rfl;rw [z4] at this
  show (H5 c1 c2 s.heap l1 l2).get? _=_
  rw [show H5 c1 c2 s.heap l1 l2=(H4 c1 c2 s.heap l1 l2).push { cls:= .type "zip",data:= .fields #[.none,.bool false,.bool false,.ref (H2 c1 c2 s.heap l1 l2).objs.size,.ref (H3 c1 c2 s.heap l1 l2).objs.size] } from rfl,this,z2,z3]
 have hTO:IsPair (H5 c1 c2 s.heap l1 l2) (s.heap.objs.size+3) .none .none:=by
  have:=Bm (H3 c1 c2 s.heap l1 l2) (o:={ cls:= .type "tuple",data:= .seq #[.none,.none] }) rfl;rw [z3] at this;exact kz _ _ this
 have hTI:IsPair (H5 c1 c2 s.heap l1 l2) (s.heap.objs.size+2) (.ref s.heap.objs.size) (.ref (s.heap.objs.size+1)):=by
  have:=Bm (H2 c1 c2 s.heap l1 l2) (o:={ cls:= .type "tuple",data:= .seq #[.ref s.heap.objs.size,.ref (H1 c1 s.heap l1).objs.size] }) rfl;rw [z2,z1] at this;have e:=kz (o:={ cls:= .type "zip",data:= .fields #[.none,.bool false,.bool false,.ref (H2 c1 c2 s.heap l1 l2).objs.size,.ref (H3 c1 c2 s.heap l1 l2).objs.size] }) _ _ (kz (o:={ cls:= .type "tuple",data:= .seq #[.none,.none] }) _ _ this);rw [<- z1] at e ⊢;exact e
 have hi2:It c2 (H5 c1 c2 s.heap l1 l2) (s.heap.objs.size+1) l2 0:=by
  have:=It.new (c:=c2) (h:=H1 c1 s.heap l1) (l:=l2);rw [z1] at this
  exact this.at fun o q=>kz _ _ (kz _ _ (kz _ _ q))
 have hi1:It c1 (H5 c1 c2 s.heap l1 l2) s.heap.objs.size l1 0:=(It.new (c:=c1) (h:=s.heap) (l:=l1)).at fun o q=>kz _ _ (kz _ _ (kz _ _ (kz _ _ q)))
 show _/\_
 rw [z4];exact ⟨⟨_,hz,rfl⟩,h _ hz hTI hTO hi1 hi2 fun b o q=>kz _ _ (kz _ _ (kz _ _ (kz _ _ (kz _ _ q))))⟩
end
end ZpA
namespace L2
open PySem PySem.Spec PyProof.Rows ZpA
def SqA:Kd->Dy->Hp->Addr->List V->Prop
 | .L=>SqL
 | .T=>SqT
theorem Inv.seqA{X:Cx}{pins:List (Addr×Obj)}{σ:St}{H:Hp}{s:Shared}{c:Kd}{a:Addr}{xs:List V}(I:Inv X pins σ H s)(h:SqA c X.K H a xs):∃ its:List Value,aA xs its/\Sq c s.heap a its.toArray/\xs.length<=sizeLine:=by
 cases c with
 | L=>obtain ⟨its,r,p,z⟩:=I.list h;exact ⟨its,r,p.isList,z⟩
 | T=>obtain ⟨its,r,p,z⟩:=I.tuple h;exact ⟨its,r,(show s.heap.IsTuple a its.toArray from p),z⟩
theorem Inv.seqA_inj{X:Cx}{pins:List (Addr×Obj)}{σ:St}{H:Hp}{s:Shared}{c:Kd}{a:Addr}{xs ys:List V}(I:Inv X pins σ H s)(h:SqA c X.K H a xs)(h':SqA c X.K H a ys):xs=ys:=by
 cases c with
 | L=>exact I.list_inj h h'
 | T=>exact I.tuple_inj h h'
theorem uJ{prog:Program}{w:World}{A:Around}{E:Value->Shared->Prop}{s:Shared}{c:Kd}{e it l:Addr}{i:Nat}{j:Int}{items:Array Value}{old:Value}{Q:Option Value->Shared->Prop}(hh:A.handled=none)
 (he:IsEnum s.heap e it j old) (hit:ZpA.It c s.heap it l i) (hl:Sq c s.heap l items) (hx:items[i]?=none)
 (hQ:∀ h',Heap.ExtBut it s.heap h'->Q none { s with heap:=h' }):wpAny (model prog w) A (pyNext (.ref e)) Q E s:=by
 have hT:s.TypeIs (.ref e) "enumerate" := ⟨_,he,rfl⟩;unfold pyNext
 refine A9 (wpAny_attempt (BL (name:=Str.ofString "__next__") hT F.slot_enumerate_next
  (BR F.slot_enumerate_next hT F.entry_enumerate_next ?_ (F.args_enumerate_next_1 _))))
 show wpAny _ _ (field (.ref e) 2 >>= _) _ _ _
 refine A9 (Cd he rfl (x:= .ref it) rfl ?_);refine A9 (ZpA.fJ hh hit hl hx fun h' x he' hx'=> ?_);obtain ⟨o,ho,hc⟩:=hx';refine A9 (wpAny_isInstance (T := "StopIteration") (b:=true) ⟨o,ho,hc⟩ isSubtype_stop ?_);exact Bg (hQ _ he')
theorem xB{prog:Program}{w:World}{A:Around}{E:Value->Shared->Prop}{s:Shared}{c:Kd}{l:Addr}{items:Array Value}{Q:Value->Shared->Prop}(hL:Sq c s.heap l items)
 (h:∀ h',IsEnum h' (s.heap.objs.size+1) s.heap.objs.size 0 .none->ZpA.It c h' s.heap.objs.size l 0->h'.objs.size=s.heap.objs.size+2 ->
   (∀ b o,s.heap.get? b=some o->h'.get? b=some o)->Q (.ref (s.heap.objs.size+1)) { s with heap:=h' }) :
 wpAny (model prog w) A (call (.type "enumerate") [.ref l]) Q E s:=by
 cases c with
 | L=>exact call_enumerate_list (show s.heap.IsList l items from hL) h
 | T=>exact EnT.lS (show s.heap.IsTuple l items from hL) h
def IteA(c:Kd)(K:Dy)(a:Addr):L2.It :=
 ⟨fun i H=>∃ xs x,SqA c K H a xs/\xs[i]?=some x,fun i H x H'=>∃ p y,x = .ref p/\H p=none/\H'=upd H p (.tup [.int (i:Nat),y])/\∀ xs,SqA c K H a xs->xs[i]?=some y,fun i H=>∃ xs,SqA c K H a xs/\xs.length<=i⟩
theorem qJ{c:Kd}{P:Program}{w:World}{K:Dy}{elts:List Expr}{k}{tpos:Pos}(a e it:Addr)(hei:e≠it):vj P w K (.Tuple elts k tpos) (IteA c K a) [e,it] e (fun i h=>(∃ old,IsEnum h e it (i:Nat) old)/\ZpA.It c h it a i) where
 mem:=by simp
 obj:=fun i h st b hb=>by
  obtain ⟨⟨old,he⟩,hit⟩:=st;obtain ⟨o,ho,⟨vs,hd⟩,hc⟩:=hit.obj
  have hb':b=e\/b=it:=by simpa using hb
  rcases hb' with rfl | rfl
  ·exact ⟨_,he,fun v z=>by
    have z':Data.fields _=Data.cell v:=z
    cases z'⟩
  ·exact ⟨o,ho,fun v z=>by rw [hd] at z;cases z⟩
 keep:=fun i h h' st k=>by
  obtain ⟨⟨old,he⟩,hit⟩:=st;exact ⟨⟨old,k e (by simp) _ he⟩,hit.at fun o x=>k it (by simp) o x⟩
 item:=by
  intro X hP hw hK hc i pins s σ H E I hf st hg;subst hP hw hK;obtain ⟨xs,y,hq,hx⟩:=hg;obtain ⟨its,rv,p,hz⟩:=I.seqA hq;obtain ⟨u,hu,ru⟩:=rv.get hx;obtain ⟨⟨old,he⟩,hit⟩:=st;have pt:=p
  have hea:e≠a:=fun z=>by
   obtain ⟨o,ho,hc⟩:=p.obj;rw [<- z,he] at ho;cases ho
   rcases hc with hc | hc
   ·exact absurd (show Value.type "enumerate" = Value.type "list" from hc) (by decide)
   ·exact absurd (show Value.type "enumerate" = Value.type "tuple" from hc) (by decide)
  have hia:a≠it:=fun z=>by
   obtain ⟨o,ho,hc⟩:=p.obj;obtain ⟨o',ho',_,hc'⟩:=hit.obj;rw [z,ho'] at ho;cases ho
   rcases hc with hc | hc<;>rcases hc' with hc' | hc'<;>(rw [hc] at hc';exact absurd hc' (by decide))
  have hil:i < its.toArray.size:=by
   have:=(Bs.mp hu).1;simpa using this
  refine wpAny_pyNext_enum_itemD (ZpA.draws (c:=c) (prog:=X.prog) (w:=X.w) (A:=X.A.in1) (I.ok.hd hc) it a hia its.toArray) he ⟨hit,pt⟩ hil hei (by simp [hea,hei]) fun x h' tk hPx ho st' hT hsz hk=> ?_
  have hxu:x=u:=by
   have:its.toArray[i]?=some u:=by simpa using hu
   rw [this] at hPx;exact (Option.some.inj hPx).symm
  subst hxu;refine ⟨_,rfl,wpAny_letOwnedTupleGo_enum ho fun h'' he' hs'=> ?_⟩
  replace hs':Heap.SameBut e h' h'':=hs'
  have hel:e < s.heap.objs.size:=Bk he
  have hil':it < s.heap.objs.size:=by obtain ⟨o,ho,_⟩:=hit.obj;exact Bk ho
  have kp:∀ b o,b≠e->b≠it->s.heap.get? b=some o->h''.get? b=some o:=fun b o n1 n2 q=>(hs'.2 b n1).trans (hk b o n1 n2 q)
  have hT2:h''.get? s.heap.objs.size=some { cls:= .type "tuple",data:= .seq #[.int (i:Nat) tk,x] }:=(hs'.2 _ (CU hel)).trans hT;have hTn:H s.heap.objs.size=none:=I.hok.fresh (Bq _);have fe:=hf e (by simp);have fi:=hf it (by simp)
  have nte:∀ b u,H b=some u->b≠e:=fun b u q z=>by rw [z,fe.1] at q;cases q
  have nti:∀ b u,H b=some u->b≠it:=fun b u q z=>by rw [z,fi.1] at q;cases q
  have hok:HOk X.prog X.w (upd H s.heap.objs.size (.tup [.int (i:Nat),y])) h'':=fun b ob q=>by
   by_cases hb:b=s.heap.objs.size
   ·subst hb
    rw [am] at q;cases q;exact ⟨by show 2<=sizeLine;decide,[.int (i:Nat) tk,x],.cons ⟨tk,rfl⟩ (.cons ru .nil),jV hT2⟩
   ·rw [ak hb] at q
    refine (I.hok b ob q).stay (fun c v hc q'=> ?_) (fun c q'=>by rw [ak (au q' hTn)];exact q') fun c xs q'=>by rw [ak (au q' hTn)];exact q'
    rcases hc with rfl | hc
    ·exact kp _ _ (nte _ _ q) (nti _ _ q) q'
    ·exact kp _ _ (nte _ _ hc) (nti _ _ hc) q'
  have mem2:∀ b,b∉[e,it]->b≠e/\b≠it:=fun b hb=>by
   have:=hb;simp at this;exact this
  have I2:Inv X pins σ (upd H s.heap.objs.size (.tup [.int (i:Nat),y])) { s with heap:=h'',toks:=tk+1 } :=
   I.step (g':=s.gens) (d':=s.drawn) (ch:=[e,it]) (fun b hb=>by
    have hb':b=e\/b=it:=by simpa using hb
    rcases hb' with rfl | rfl
    ·exact ⟨fe.2.2.2.1,fe.2.1,fe.2.2.2.2.1,fe.2.2.2.2.2⟩
    ·exact ⟨fi.2.2.2.1,fi.2.1,fi.2.2.2.2.1,fi.2.2.2.2.2⟩)
    (fun b o _ _ hc q _=>kp b o (mem2 b hc).1 (mem2 b hc).2 q) (fun b o _ _ hc q _=>⟨o.slots,kp b o (mem2 b hc).1 (mem2 b hc).2 q⟩)
    (fun b o _ q n=>by rw [ak (BC (Bk q))];exact n) (fun b o hc q=>⟨o,kp b o (mem2 b hc).1 (mem2 b hc).2 q⟩)
    (fun b xs q=>by rw [ak (au q hTn)];exact q) (fun b o u q=>by rw [ak (au q hTn)];exact q) (fun b ps q=>⟨#[],by rw [ak (au q hTn),q];simp⟩)
    (fun m hm=>by obtain ⟨o,es,ep,ho,r⟩:=hm;exact ⟨o,es,ep,kp _ o (Ne.symm fe.2.1) (Ne.symm fi.2.1) ho,r⟩) hok I.bare
  refine ⟨.ref s.heap.objs.size,_,I2,rfl,⟨_,y,rfl,hTn,rfl,fun ys hy=>by rw [I.seqA_inj hy hq];exact hx⟩,⟨⟨x,?_⟩,?_⟩,fun b hb=> ?_⟩
  ·have:((i+1:Nat):Int)=(i:Int)+1:=by push_cast;rfl
   rw [this];exact he'
  ·exact st'.1.at fun o q=>(hs'.2 it (Ne.symm hei)).trans q
  ·have hb':b=e\/b=it:=by simpa using hb
   rcases hb' with rfl | rfl
   ·rw [ak (BC hel)];exact fe.1
   ·rw [ak (BC hil')];exact fi.1
 done:=by
  intro X hP hw hK hc i pins s σ H E I hf st hg;subst hP hw hK;obtain ⟨xs,hq,hx⟩:=hg;obtain ⟨its,rv,p,hz⟩:=I.seqA hq;obtain ⟨⟨old,he⟩,hit⟩:=st;obtain ⟨f0,f1,f2,f3,f4,f5⟩:=hf it (by simp);have hl:=rv.length
  have hia:a≠it:=fun z=>by
   obtain ⟨o,ho,hc⟩:=p.obj;obtain ⟨o',ho',_,hc'⟩:=hit.obj;rw [z,ho'] at ho;cases ho
   rcases hc with hc | hc<;>rcases hc' with hc' | hc'<;>(rw [hc] at hc';exact absurd hc' (by decide))
  refine uJ (I.ok.hd hc) he hit p (by simp;omega) fun h' eb=>⟨rfl,I.turned (t':=s.toks) (fun b o hb e=>eb b o hb e) f0 f1 f3 f4 f5⟩
 self:=fun _ _ _ _ _ st h=>by
  obtain ⟨⟨old,he⟩,_⟩:=st;exact wpAny_pyIter_enum he h
section
variable{X:Cx}
def iEnumA(K:Dy)(ta:TA):TI:=fun σ H R=>ta σ H fun vs H1=>∃ a c,vs=[.ref a]/\(∃ xs,SqA c K H1 a xs/\(xs.length<=sizeLine->R (IteA c K a) H1))
theorem we{elts:List Expr}{k}{tpos:Pos}{l:Expr}{ta:TA}{p pos:Pos}(hg:Gl X "enumerate")(hm:X.mg "enumerate" = none)(ha:PA X [l] ta)(hs:starEach [l] X.env=[(false,eval l X.env)]:=by rfl) :
 PI X (.Tuple elts k tpos) (.Call (.Name "enumerate" p) [l] [] pos) (iEnumA X.K ta):=by
 intro pins s σ H R I h;refine Call_ (hU I hg hm boot_enumerate (PyProof.Rows.callWith_type1 (thn (ha pos pins s σ H _ I h) fun us s1 ⟨vs,H1,I1,r1,q1⟩=> ?_) hs rfl));obtain ⟨a,c,e,xs,hq,q⟩:=q1;subst e
 cases r1 with
 | cons r rr =>
  cases rr;cases r;obtain ⟨its,rv,p,hz⟩:=I1.seqA hq
  refine xB p fun h' he hit hsz hk=> ?_
  refine wpAny_pyIter_enum he ?_;refine ⟨s1.heap.objs.size+1,[s1.heap.objs.size+1,s1.heap.objs.size],_,_,H1,rfl,I1.kept (t':=s1.toks) hk,qJ a _ s1.heap.objs.size (CU (De _)),⟨⟨.none,he⟩,hit⟩,fun b hb=> ?_,q hz⟩
  have hb':b=s1.heap.objs.size+1\/b=s1.heap.objs.size:=by simpa using hb
  rcases hb' with rfl | rfl
  ·exact I1.fpOk (by omega) (I1.hok.fresh (by omega))
  ·exact I1.fpOk (Bq _) (I1.hok.fresh (Bq _))
end
def ItzA(c1 c2:Kd)(K:Dy)(a b:Addr):L2.It :=
 ⟨fun i H=>∃ xs ys x y,SqA c1 K H a xs/\SqA c2 K H b ys/\xs[i]?=some x/\ys[i]?=some y,fun i H x H'=>∃ p y z,x = .ref p/\H p=none/\H'=upd H p (.tup [y,z])/\(∀ xs,SqA c1 K H a xs->xs[i]?=some y)/\∀ ys,SqA c2 K H b ys->ys[i]?=some z,fun i H=>∃ xs,SqA c1 K H a xs/\xs.length<=i⟩
def ZipStA(c1 c2:Kd)(a b z TI TO i1 i2:Addr)(i:Nat)(h:Heap):Prop:=IsZip h z TI TO .none/\IsPair h TI (.ref i1) (.ref i2)/\(∃ x y,IsPair h TO x y)/\ZpA.It c1 h i1 a i/\ZpA.It c2 h i2 b i
theorem t5{c1 c2:Kd}{P:Program}{w:World}{K:Dy}{elts:List Expr}{k}{tpos:Pos}(a b z TI TO i1 i2:Addr)(ap:ZipApart z TI TO i1 i2 a b) :
 vj P w K (.Tuple elts k tpos) (ItzA c1 c2 K a b) [z,TI,TO,i1,i2] z (ZipStA c1 c2 a b z TI TO i1 i2) where
 mem:=by simp
 obj:=fun i h st c hc=>by
  obtain ⟨hz,hTI,⟨x,y,hTO⟩,j1,j2⟩:=st;obtain ⟨o1,ho1,⟨v1,hd1⟩,hc1⟩:=j1.obj;obtain ⟨o2,ho2,⟨v2,hd2⟩,hc2⟩:=j2.obj
  have hc':c=z\/c=TI\/c=TO\/c=i1\/c=i2:=by simpa using hc
  rcases hc' with rfl | rfl | rfl | rfl | rfl
  ·exact ⟨_,hz,fun v q=>by have q':Data.fields _=Data.cell v:=q;cases q'⟩
  ·exact ⟨_,hTI,fun v q=>by have q':Data.seq _ _=Data.cell v:=q;cases q'⟩
  ·exact ⟨_,hTO,fun v q=>by have q':Data.seq _ _=Data.cell v:=q;cases q'⟩
  ·exact ⟨o1,ho1,fun v q=>by rw [hd1] at q;cases q⟩
  ·exact ⟨o2,ho2,fun v q=>by rw [hd2] at q;cases q⟩
 keep:=fun i h h' st k=>by
  obtain ⟨hz,hTI,⟨x,y,hTO⟩,h1,h2⟩:=st;exact ⟨k z (by simp) _ hz,k TI (by simp) _ hTI,⟨x,y,k TO (by simp) _ hTO⟩,h1.at fun o q=>k i1 (by simp) o q,h2.at fun o q=>k i2 (by simp) o q⟩
 item:=by
  intro X hP hw hK hc i pins s σ H E I hf st hg;subst hP hw hK;obtain ⟨xs,ys,y,y',hq,hq',hx,hx'⟩:=hg;obtain ⟨its,rv,p,hz'⟩:=I.seqA hq;obtain ⟨its',rv',p',hz''⟩:=I.seqA hq';obtain ⟨u,hu,ru⟩:=rv.get hx;obtain ⟨u',hu',ru'⟩:=rv'.get hx';obtain ⟨hz,hTI,⟨x0,y0,hTO⟩,h1,h2⟩:=st
  have hn:∀ c,c∈[z,TI,TO,i1,i2]->H c=none:=fun c hc=>(hf c hc).1
  have hTn:H s.heap.objs.size=none:=I.hok.fresh (Bq _)
  refine ZpA.vo ap hz hTI hTO h1 h2 p p' (x:=u) (y:=u') (by simpa using hu) (by simpa using hu') fun h' z' to' i1' i2' pT ks=>⟨_,rfl,wpAny_letOwnedTupleGo_zip z' fun h'' zz hs=> ?_⟩
  replace hs:Heap.SameBut z h' h'':=hs
  have lz:z < s.heap.objs.size:=Bk hz;have lTI:TI < s.heap.objs.size:=Bk hTI;have lTO:TO < s.heap.objs.size:=Bk hTO
  have li1:i1 < s.heap.objs.size:=by obtain ⟨o,ho,_⟩:=h1.obj;exact Bk ho
  have li2:i2 < s.heap.objs.size:=by obtain ⟨o,ho,_⟩:=h2.obj;exact Bk ho
  have kp:∀ c o,c≠z->c≠TO->c≠i1->c≠i2->s.heap.get? c=some o->h''.get? c=some o:=fun c o n1 n2 n3 n4 q=>(hs.2 c n1).trans (ks c o n1 n2 n3 n4 q)
  have hT2:IsPair h'' s.heap.objs.size u u':=(hs.2 _ (CU lz)).trans pT
  have nt:∀ c o,H c=some o->c≠z/\c≠TO/\c≠i1/\c≠i2:=fun c o q=>⟨fun e=>(by rw [e,hn z (by simp)] at q;cases q),fun e=>(by rw [e,hn TO (by simp)] at q;cases q),fun e=>(by rw [e,hn i1 (by simp)] at q;cases q),fun e=>(by rw [e,hn i2 (by simp)] at q;cases q)⟩
  have kp':∀ c o u,H c=some u->s.heap.get? c=some o->h''.get? c=some o:=fun c o u q q'=>by
   obtain ⟨n1,n2,n3,n4⟩:=nt c u q;exact kp c o n1 n2 n3 n4 q'
  have hok:HOk X.prog X.w (upd H s.heap.objs.size (.tup [y,y'])) h'':=fun c ob q=>by
   by_cases hb:c=s.heap.objs.size
   ·subst hb
    rw [am] at q;cases q;exact ⟨by show 2<=sizeLine;decide,[u,u'],.cons ru (.cons ru' .nil),jV hT2⟩
   ·rw [ak hb] at q
    refine (I.hok c ob q).stay (fun e v he q'=> ?_) (fun e q'=>by rw [ak (au q' hTn)];exact q') fun e xs q'=>by rw [ak (au q' hTn)];exact q'
    rcases he with rfl | he
    ·exact kp' _ _ _ q q'
    ·exact kp' _ _ _ he q'
  have mem4:∀ c,c∉[z,TO,i1,i2]->c≠z/\c≠TO/\c≠i1/\c≠i2:=fun c hc=>by
   have:=hc;simp at this;exact this
  have I2:Inv X pins σ (upd H s.heap.objs.size (.tup [y,y'])) { s with heap:=h'' } :=
   I.step (g':=s.gens) (d':=s.drawn) (t':=s.toks) (ch:=[z,TO,i1,i2]) (fun c hc=>by
    have hc':c∈[z,TI,TO,i1,i2]:=by simp at hc ⊢;rcases hc with e | e | e | e<;>simp [e]
    have f:=hf c hc'
    exact ⟨f.2.2.2.1,f.2.1,f.2.2.2.2.1,f.2.2.2.2.2⟩)
    (fun c o _ _ hc q _=>by obtain ⟨n1,n2,n3,n4⟩:=mem4 c hc;exact kp c o n1 n2 n3 n4 q) (fun c o _ _ hc q _=>by obtain ⟨n1,n2,n3,n4⟩:=mem4 c hc;exact ⟨o.slots,kp c o n1 n2 n3 n4 q⟩)
    (fun c o _ q n=>by rw [ak (BC (Bk q))];exact n) (fun c o hc q=>by obtain ⟨n1,n2,n3,n4⟩:=mem4 c hc;exact ⟨o,kp c o n1 n2 n3 n4 q⟩)
    (fun c xs q=>by rw [ak (au q hTn)];exact q) (fun c o u q=>by rw [ak (au q hTn)];exact q) (fun c ps q=>⟨#[],by rw [ak (au q hTn),q];simp⟩)
    (fun m hm=>by obtain ⟨o,es,ep,ho,r⟩:=hm;exact ⟨o,es,ep,kp _ o (Ne.symm (hf z (by simp)).2.1) (Ne.symm (hf TO (by simp)).2.1) (Ne.symm (hf i1 (by simp)).2.1) (Ne.symm (hf i2 (by simp)).2.1) ho,r⟩) hok I.bare
  refine ⟨.ref s.heap.objs.size,_,I2,rfl,⟨_,y,y',rfl,hTn,rfl,fun zs hy=>by rw [I.seqA_inj hy hq];exact hx,fun zs hy=>by rw [I.seqA_inj hy hq'];exact hx'⟩,⟨zz,?_,⟨u,u',?_⟩,?_,?_⟩,fun c hc=> ?_⟩
  ·exact kp TI _ ap.TIz ap.TITO ap.TIi1 ap.TIi2 hTI
  ·exact (hs.2 TO ap.TOz).trans to'
  ·exact i1'.at fun o q=>(hs.2 i1 ap.i1z).trans q
  ·exact i2'.at fun o q=>(hs.2 i2 ap.i2z).trans q
  ·have hc':c=z\/c=TI\/c=TO\/c=i1\/c=i2:=by simpa using hc
   have lc:c < s.heap.objs.size:=by rcases hc' with rfl | rfl | rfl | rfl | rfl<;>assumption
   rw [ak (BC lc)];exact hn c hc
 done:=by
  intro X hP hw hK hc i pins s σ H E I hf st hg;subst hP hw hK;obtain ⟨xs,hq,hx⟩:=hg;obtain ⟨its,rv,p,hz'⟩:=I.seqA hq;obtain ⟨hz,hTI,⟨x0,y0,hTO⟩,h1,h2⟩:=st;have hl:=rv.length
  have hn:∀ c,c∈[z,TI,TO,i1,i2]->H c=none:=fun c hc=>(hf c hc).1
  refine ZpA.xX (I.ok.hd hc) ap hz hTI hTO h1 p (by simp;omega) fun h' ks=>⟨rfl,?_⟩
  have nt:∀ c o,H c=some o->c≠z/\c≠i1:=fun c o q=>⟨fun e=>(by rw [e,hn z (by simp)] at q;cases q),fun e=>(by rw [e,hn i1 (by simp)] at q;cases q)⟩
  have kp':∀ c o u,H c=some u->s.heap.get? c=some o->h'.get? c=some o:=fun c o u q q'=>by
   obtain ⟨n1,n3⟩:=nt c u q;exact ks c o n1 n3 q'
  have hok:HOk X.prog X.w H h':=fun c ob q=>by
   refine (I.hok c ob q).stay (fun e v he q'=> ?_) (fun e q'=>q') fun e xs q'=>q'
   rcases he with rfl | he
   ·exact kp' _ _ _ q q'
   ·exact kp' _ _ _ he q'
  have mem2:∀ c,c∉[z,i1]->c≠z/\c≠i1:=fun c hc=>by
   have:=hc;simp at this;exact this
  exact I.step (g':=s.gens) (d':=s.drawn) (t':=s.toks) (ch:=[z,i1]) (fun c hc=>by
   have hc':c∈[z,TI,TO,i1,i2]:=by simp at hc ⊢;rcases hc with e | e<;>simp [e]
   have f:=hf c hc'
   exact ⟨f.2.2.2.1,f.2.1,f.2.2.2.2.1,f.2.2.2.2.2⟩)
   (fun c o _ _ hc q _=>by obtain ⟨n1,n3⟩:=mem2 c hc;exact ks c o n1 n3 q) (fun c o _ _ hc q _=>by obtain ⟨n1,n3⟩:=mem2 c hc;exact ⟨o.slots,ks c o n1 n3 q⟩)
   (fun c o _ q n=>n) (fun c o hc q=>by obtain ⟨n1,n3⟩:=mem2 c hc;exact ⟨o,ks c o n1 n3 q⟩)
   (fun c xs q=>q) (fun c o u q=>q) (fun c ps q=>⟨#[],by rw [q];simp⟩)
   (fun m hm=>by obtain ⟨o,es,ep,ho,r⟩:=hm;exact ⟨o,es,ep,ks _ o (Ne.symm (hf z (by simp)).2.1) (Ne.symm (hf i1 (by simp)).2.1) ho,r⟩) hok I.bare
 self:=fun _ _ _ _ _ st h=>wpAny_pyIter_zip st.1 h
section
variable{X:Cx}
def iZipA(K:Dy)(ta:TA):TI:=fun σ H R=>ta σ H fun vs H1=>∃ a b c1 c2,vs=[.ref a,.ref b]/\(∃ xs,SqA c1 K H1 a xs/\(xs.length<=sizeLine->(∃ ys,SqA c2 K H1 b ys)/\R (ItzA c1 c2 K a b) H1))
theorem yS{elts:List Expr}{k}{tpos:Pos}{l l':Expr}{ta:TA}{p pos:Pos}(hg:Gl X "zip")(hm:X.mg "zip" = none)(ha:PA X [l,l'] ta)(hs:starEach [l,l'] X.env=[(false,eval l X.env),(false,eval l' X.env)]:=by rfl)(hs2:starEach [l'] X.env=[(false,eval l' X.env)]:=by rfl) :
 PI X (.Tuple elts k tpos) (.Call (.Name "zip" p) [l,l'] [] pos) (iZipA X.K ta):=by
 intro pins s σ H R I h;refine Call_ (hU I hg hm boot_zip (PyProof.Rows.callWith_type1 (thn (ha pos pins s σ H _ I h) fun us s1 ⟨vs,H1,I1,r1,q1⟩=> ?_) (by rw [hs,hs2]) (by rw [hs2];rfl)));obtain ⟨a,b,c1,c2,e,xs,hq,q⟩:=q1;subst e;obtain ⟨u,u',rfl,ru,ru'⟩:=o5 r1;cases ru;cases ru';obtain ⟨its,rv,p,hz⟩:=I1.seqA hq;obtain ⟨⟨ys,hq'⟩,q⟩:=q hz;obtain ⟨its',rv',p',hz'⟩:=I1.seqA hq'
 have la:a < s1.heap.objs.size:=by obtain ⟨o,ho,_⟩:=p.obj;exact Bk ho
 have lb:b < s1.heap.objs.size:=by obtain ⟨o,ho,_⟩:=p'.obj;exact Bk ho
 refine ZpA.lS p p' fun h' hz hTI hTO h1 h2 hk=> ?_
 refine wpAny_pyIter_zip hz ?_;refine ⟨s1.heap.objs.size+4,[s1.heap.objs.size+4,s1.heap.objs.size+2,s1.heap.objs.size+3,s1.heap.objs.size,s1.heap.objs.size+1],_,_,H1,rfl,I1.kept (t':=s1.toks) hk,t5 a b _ _ _ _ _ (zipApart_new la lb),⟨hz,hTI,⟨_,_,hTO⟩,h1,h2⟩,fun c hc=> ?_,q⟩
 have hc':c=s1.heap.objs.size+4\/c=s1.heap.objs.size+2\/c=s1.heap.objs.size+3\/c=s1.heap.objs.size\/c=s1.heap.objs.size+1:=by simpa using hc
 have lc:s1.heap.objs.size<=c:=by
  rcases hc' with rfl | rfl | rfl | rfl | rfl
  ·exact Df _ _
  ·exact Df _ _
  ·exact Df _ _
  ·exact Bq _
  ·exact Df _ _
 exact I1.fpOk lc (I1.hok.fresh lc)
end
end L2
namespace L2
open PySem PySem.Spec PyProof.Rows
inductive D where
 | non | bl (b:Bool) | int (i:Int) | str (x:Str) | tup (l:List D) | lst (l:List D) | ktup (l:List D) | klst (l:List D)
 | dK (ks:List Key) (vs:List D) | dT (ks:List (List Key)) (vs:List D) | set (l:List Int) | rng (lo hi:Int) | exc (C:Str)
def fS(K:Dy)(nm:Str)(C:Addr):Prop:=PySem.W.nsIn K mainGlobals nm=some (some (.ref C))
mutual
def aI(K:Dy)(H:Hp):D->V->Prop
 | .non,v=>v = .non
 | .bl b,v=>v = .bl b
 | .int i,v=>v = .int i
 | .str x,v=>v = .str x
 | .tup ds,v=>∃ p xs,v = .ref p/\H p=some (.tup xs)/\ai K H ds xs
 | .lst ds,v=>∃ p xs,v = .ref p/\H p=some (.lst xs)/\ai K H ds xs
 | .klst ds,v=>∃ p xs,v = .ref p/\SqL K H p xs/\ai K H ds xs
 | .ktup ds,v=>∃ p xs,v = .ref p/\SqT K (fun _=>none) p xs/\ai K H ds xs
 | .dK ks ds,v=>∃ p xs,v = .ref p/\H p=some (.dK (ks.zip xs))/\ks.length=xs.length/\ai K H ds xs
 | .dT ks ds,v=>∃ p xs,v = .ref p/\H p=some (.dT (ks.zip xs))/\ks.length=xs.length/\ai K H ds xs
 | .set l,v=>∃ p S,v = .ref p/\H p=some (.set S l.length)/\∀ x,S x=true↔x∈l
 | .rng lo hi,v=>∃ p,v = .ref p/\H p=some (.rng lo hi)
 | .exc nm,v=>∃ p C,v = .ref p/\fS K nm C/\H p=some (lK p C)
def ai(K:Dy)(H:Hp):List D->List V->Prop
 | [],[]=>True
 | d::ds,x::xs=>aI K H d x/\ai K H ds xs
 | _,_=>False
end
mutual
theorem ac.repD{K:Dy}{H H':Hp}(e:ac H H'):∀ {d:D} {v:V},aI K H d v->aI K H' d v
 | .non,_,h=>h
 | .bl _,_,h=>h
 | .int _,_,h=>h
 | .str _,_,h=>h
 | .tup _,_,⟨p,xs,h1,h2,h3⟩=>⟨p,xs,h1,e _ _ h2,e.repDs h3⟩
 | .lst _,_,⟨p,xs,h1,h2,h3⟩=>⟨p,xs,h1,e _ _ h2,e.repDs h3⟩
 | .klst _,_,⟨p,xs,h1,h2,h3⟩=>⟨p,xs,h1,e.seq h2,e.repDs h3⟩
 | .ktup _,_,⟨p,xs,h1,h2,h3⟩=>⟨p,xs,h1,h2,e.repDs h3⟩
 | .dK _ _,_,⟨p,xs,h1,h2,h3,h4⟩=>⟨p,xs,h1,e _ _ h2,h3,e.repDs h4⟩
 | .dT _ _,_,⟨p,xs,h1,h2,h3,h4⟩=>⟨p,xs,h1,e _ _ h2,h3,e.repDs h4⟩
 | .set _,_,⟨p,S,h1,h2,h3⟩=>⟨p,S,h1,e _ _ h2,h3⟩
 | .rng _ _,_,⟨p,h1,h2⟩=>⟨p,h1,e _ _ h2⟩
 | .exc _,_,⟨p,C,h1,h2,h3⟩=>⟨p,C,h1,h2,e _ _ h3⟩
theorem ac.repDs{K:Dy}{H H':Hp}(e:ac H H'):∀ {ds:List D} {xs:List V},ai K H ds xs->ai K H' ds xs
 | [],[],_=>trivial
 | _::_,_::_,h=>⟨e.repD h.1,e.repDs h.2⟩
 | [],_::_,h=>h.elim
 | _::_,[],h=>h.elim
end
theorem ai.len{K:Dy}{H:Hp}:∀ {ds:List D} {xs:List V},ai K H ds xs->ds.length=xs.length
 | [],[],_=>rfl
 | _::_,_::_,h=>by rw [Bj,Bj,ai.len h.2]
 | [],_::_,h=>h.elim
 | _::_,[],h=>h.elim
theorem ai.get{K:Dy}{H:Hp}:∀ {ds:List D} {xs:List V} {i:Nat} {d:D},ai K H ds xs->ds[i]?=some d->∃ x,xs[i]?=some x/\aI K H d x
 | _::_,x::_,0,d,h,e=>⟨x,rfl,by have:_=d:=Option.some.inj e;rw [<- this];exact h.1⟩
 | _::_,_::_,i+1,d,h,e=>ai.get (i:=i) h.2 (by simpa using e)
 | [],[],_,_,_,e=>by simp at e
 | [],_::_,_,_,h,_=>h.elim
 | _::_,[],_,_,h,_=>h.elim
theorem ai.get'{K:Dy}{H:Hp}{ds:List D}{xs:List V}{i:Nat}{x:V}(h:ai K H ds xs)(e:xs[i]?=some x):∃ d,ds[i]?=some d/\aI K H d x:=by
 have hi:i < ds.length:=by rw [h.len];exact (Bs.mp e).1
 obtain ⟨y,e2,r⟩:=h.get (Bb hi);rw [e] at e2;cases e2;exact ⟨_,Bb hi,r⟩
theorem ai.app{K:Dy}{H:Hp}:∀ {ds es:List D} {xs ys:List V},ai K H ds xs->ai K H es ys->ai K H (ds++es) (xs++ys)
 | [],_,[],_,_,h=>h
 | _::_,_,_::_,_,g,h=>⟨g.1,ai.app g.2 h⟩
 | [],_,_::_,_,g,_=>g.elim
 | _::_,_,[],_,g,_=>g.elim
theorem ai.take{K:Dy}{H:Hp}:∀ {ds:List D} {xs:List V} (n:Nat),ai K H ds xs->ai K H (ds.take n) (xs.take n)
 | [],[],n,_=>by simp;exact trivial
 | _::_,_::_,0,_=>trivial
 | _::_,_::_,n+1,h=>⟨h.1,ai.take n h.2⟩
 | [],_::_,_,h=>h.elim
 | _::_,[],_,h=>h.elim
theorem ai.drop{K:Dy}{H:Hp}:∀ {ds:List D} {xs:List V} (n:Nat),ai K H ds xs->ai K H (ds.drop n) (xs.drop n)
 | [],[],n,_=>by simp;exact trivial
 | _::_,_::_,0,h=>h
 | _::_,_::_,n+1,h=>ai.drop n h.2
 | [],_::_,_,h=>h.elim
 | _::_,[],_,h=>h.elim
theorem ai.set{K:Dy}{H:Hp}{d:D}{x:V}(r:aI K H d x):∀ {ds:List D} {xs:List V} (n:Nat),ai K H ds xs->ai K H (ds.set n d) (xs.set n x)
 | [],[],n,_=>by simp;exact trivial
 | _::_,_::_,0,h=>⟨r,h.2⟩
 | _::_,_::_,n+1,h=>⟨h.1,ai.set r n h.2⟩
 | [],_::_,_,h=>h.elim
 | _::_,[],_,h=>h.elim
theorem dG{K:Dy}{H:Hp}:∀ (ns:List Int),ai K H (ns.map D.int) (ns.map V.int)
 | []=>trivial
 | _::ns=>⟨rfl,dG ns⟩
theorem bC{K:Dy}{H:Hp}:∀ {ns:List Int} {xs:List V},ai K H (ns.map D.int) xs->xs=ns.map V.int
 | [],[],_=>rfl
 | _::_,_::_,h=>by rw [h.1,bC h.2];rfl
 | [],_::_,h=>h.elim
 | _::_,[],h=>h.elim
theorem nj{K:Dy}{H:Hp}:∀ {ns:List Bool} {xs:List V},ai K H (ns.map D.bl) xs->xs=ns.map V.bl
 | [],[],_=>rfl
 | _::_,_::_,h=>by rw [h.1,nj h.2];rfl
 | [],_::_,h=>h.elim
 | _::_,[],h=>h.elim
def hid(L:List Addr)(H:Hp):Hp:=fun a=>if a∈L then none else H a
theorem ar{L:List Addr}{H:Hp}{b:Addr}{o:HO}(h:hid L H b=some o):b∉L/\H b=some o:=by
 unfold hid at h
 split at h
 ·cases h
 ·exact ⟨‹_›,h⟩
theorem aO{L:List Addr}{H:Hp}{b:Addr}(h:b∉L):hid L H b=H b:=if_neg h
theorem aR{L L':List Addr}{H H':Hp}(hL:∀ b,b∈L'->b∈L\/H b=none)(h:∀ b o,b∉L->H b=some o->H' b=some o):ac (hid L H) (hid L' H'):=fun b o e=>by
 obtain ⟨h1,h2⟩:=ar e;rw [aO (fun z=>(hL b z).elim h1 fun n=>by rw [n] at h2;cases h2)];exact h b o h1 h2
theorem aB{L:List Addr}{H:Hp}:ac (hid L H) H:=fun b o e=>(ar e).2
theorem tK{L:List Addr}{H:Hp}{p:Addr}{o:HO}(h:p∈L):hid L (upd H p o)=hid L H:=by
 funext b
 unfold hid
 split
 ·rfl
 ·rw [ak (fun z=>by subst z;exact absurd h ‹_›)]
inductive Md where
 | fz | ow | io
 deriving DecidableEq
abbrev Rho:=List (Option (D×Md))
structure Fx where
 Z:List Addr
 io:Nat->Option Addr
def aQ(K:Dy)(H Hh:Hp)(p:Addr):D->Prop
 | .lst ds=>∃ xs,H p=some (.lst xs)/\ai K Hh ds xs
 | .dK ks ds=>∃ xs,H p=some (.dK (ks.zip xs))/\ks.length=xs.length/\ai K Hh ds xs
 | .dT ks ds=>∃ xs,H p=some (.dT (ks.zip xs))/\ks.length=xs.length/\ai K Hh ds xs
 | _=>False
def dQ:Option HO->Prop
 | some (.lst _)=>True
 | some (.dK _)=>True
 | some (.dT _)=>True
 | _=>False
theorem aQ.mu{K:Dy}{H Hh:Hp}{p:Addr}{d:D}(h:aQ K H Hh p d):dQ (H p):=by
 cases d<;>first | exact h.elim | (obtain ⟨xs,e,_⟩:=h;rw [e];trivial)
theorem aQ.at{K:Dy}{H H' Hh Hh':Hp}{p:Addr}{d:D}(h:aQ K H Hh p d)(e:H' p=H p)(s:ac Hh Hh'):aQ K H' Hh' p d:=by
 cases d<;>first
  | exact h.elim
  | (obtain ⟨xs,h1,h2,h3⟩:=h;exact ⟨xs,e.trans h1,h2,s.repDs h3⟩)
  | (obtain ⟨xs,h1,h2⟩:=h;exact ⟨xs,e.trans h1,s.repDs h2⟩)
theorem aQ.rep{K:Dy}{H Hh Hh':Hp}{p:Addr}{d:D}(h:aQ K H Hh p d)(e:Hh' p=H p)(s:ac Hh Hh'):aI K Hh' d (.ref p):=by
 cases d<;>first
  | exact h.elim
  | (obtain ⟨xs,h1,h2,h3⟩:=h;exact ⟨p,xs,rfl,e.trans h1,h2,s.repDs h3⟩)
  | (obtain ⟨xs,h1,h2⟩:=h;exact ⟨p,xs,rfl,e.trans h1,s.repDs h2⟩)
def se(K:Dy)(F:Fx)(H:Hp)(W:List Addr)(i:Nat)(d:D)(v:V):Md->Prop
 | .fz=>aI K (hid (W++F.Z) H) d v
 | .ow=>∃ p,v = .ref p/\p∈W/\aQ K H (hid (W++F.Z) H) p d
 | .io=>∃ p,v = .ref p/\p∈W/\aQ K H (hid (W++F.Z) H) p d/\F.io i=some p
structure Rel(K:Dy)(F:Fx)(σ:St)(H:Hp)(ρ:Rho)(W:List Addr):Prop where
 slot:∀ (i:Nat) (d:D) (m:Md),ρ[i]?=some (some (d,m))->∃ v,σ[i]?=some (some v)/\se K F H W i d v m
 apart:∀ (i j:Nat) (d e:D) (m n:Md) (p:Addr),ρ[i]?=some (some (d,m))->m ≠ .fz->ρ[j]?=some (some (e,n))->n ≠ .fz->σ[i]?=some (some (.ref p))->σ[j]?=some (some (.ref p))->i=j
 wz:∀ p∈W,p∉F.Z
 mt:∀ p∈W++F.Z,dQ (H p)
 len:σ.length=ρ.length
structure Fr(W:List Addr)(H H':Hp):Prop where
 keep:∀ b o,b∉W->H b=some o->H' b=some o
 dom:∀ b,H' b=none->H b=none
theorem Fr.refl{W:List Addr}{H:Hp}:Fr W H H:=⟨fun _ _ _ h=>h,fun _ h=>h⟩
theorem ac.fr{W:List Addr}{H H':Hp}(e:ac H H'):Fr W H H':=⟨fun b o _ h=>e b o h,fun b h=>e.free h⟩
theorem Fr.trans{W W1:List Addr}{H H1 H2:Hp}(a:Fr W H H1)(b:Fr W1 H1 H2)(h:∀ p∈W1,p∈W\/H p=none):Fr W H H2 :=
 ⟨fun c o n e=>b.keep c o (fun z=>(h c z).elim n fun q=>by rw [q] at e;cases e) (a.keep c o n e),fun c e=>a.dom c (b.dom c e)⟩
theorem Fr.hid{W W' Z:List Addr}{H H':Hp}(f:Fr W H H')(s:∀ p∈W',p∈W\/H p=none):ac (L2.hid (W++Z) H) (L2.hid (W'++Z) H') :=
 aR (fun b hb=>by
  rcases BA.mp hb with q | q
  ·exact (s b q).imp (fun z=>Bc _ z) id
  ·exact .inl (Bf _ q)) fun b o n e=>f.keep b o (fun z=>n (Bc _ z)) e
section
variable{K:Dy}{F:Fx}{σ:St}{H H':Hp}{ρ:Rho}{W:List Addr}
theorem dQ.some{o:Option HO}(h:dQ o):∃ u,o=Option.some u:=by
 cases o with
 | none=>exact h.elim
 | some u=>exact ⟨u,rfl⟩
theorem Rel.same(R:Rel K F σ H ρ W)(e:ac H H'):Rel K F σ H' ρ W:=by
 have eq:∀ p,dQ (H p)->H' p=H p:=fun p h=>by obtain ⟨u,q⟩:=h.some;rw [q];exact e _ _ q
 have sh:ac (hid (W++F.Z) H) (hid (W++F.Z) H'):=aR (fun b hb=> .inl hb) fun b o _ q=>e b o q
 refine ⟨fun i d m h=> ?_,R.apart,R.wz,fun p hp=>by rw [eq p (R.mt p hp)];exact R.mt p hp,R.len⟩;obtain ⟨v,h1,h2⟩:=R.slot i d m h;refine ⟨v,h1,?_⟩
 cases m with
 | fz=>exact sh.repD h2
 | ow=>obtain ⟨p,e1,e2,e3⟩:=h2;exact ⟨p,e1,e2,e3.at (eq p e3.mu) sh⟩
 | io=>obtain ⟨p,e1,e2,e3,e4⟩:=h2;exact ⟨p,e1,e2,e3.at (eq p e3.mu) sh,e4⟩
theorem Rel.fresh(R:Rel K F σ H ρ W){p:Addr}(h:H p=none):p∉W++F.Z:=fun z=>by
 have:=R.mt p z;rw [h] at this;exact this
theorem bg{α:Type}{l:List (Option α)}{i j:Nat}{o:Option α}{x:α}(h:(l.set i o)[j]?=some (some x)):(j=i/\o=some x)\/(j≠i/\l[j]?=some (some x)):=by
 by_cases e:j=i
 ·subst e
  rw [List.getElem?_set] at h
  split at h
  ·split at h
   ·exact .inl ⟨rfl,Option.some.inj h⟩
   ·cases h
  ·exact absurd rfl ‹_›
 ·rw [BG (Ne.symm e)] at h
  exact .inr ⟨e,h⟩
theorem Rel.freeze(R:Rel K F σ H ρ W){i:Nat}{d:D}{p:Addr}(h:ρ[i]?=some (some (d,.ow)))(hp:σ[i]?=some (some (.ref p))) :
 Rel K F σ H (ρ.set i (some (d,.fz))) (W.filter fun a=>decide (a≠p))/\aI K (hid ((W.filter fun a=>decide (a≠p))++F.Z) H) d (.ref p):=by
 obtain ⟨v,hv,q,rfl,hq,hO⟩:=R.slot i d .ow h;rw [hp] at hv;cases hv
 have sub:∀ b,b∈W.filter (fun a=>decide (a≠p))->b∈W/\b≠p:=fun b hb=>by
  have:=BY.mp hb;exact ⟨this.1,Bt this.2⟩
 have sh:ac (hid (W++F.Z) H) (hid ((W.filter fun a=>decide (a≠p))++F.Z) H):=aR (fun b hb=>by
  rcases BA.mp hb with q | q
  ·exact .inl (Bc _ (sub b q).1)
  ·exact .inl (Bf _ q)) fun b o _ e=>e
 have pn:p∉(W.filter fun a=>decide (a≠p))++F.Z:=fun z=>by
  rcases BA.mp z with q | q
  ·exact (sub p q).2 rfl
  ·exact R.wz p hq q
 have rep:aI K (hid ((W.filter fun a=>decide (a≠p))++F.Z) H) d (.ref p):=hO.rep (aO pn) sh;refine ⟨⟨fun j e m hj=> ?_,fun j k e f m n r h1 h2 h3 h4 h5 h6=> ?_,fun r hr=>R.wz r (sub r hr).1,fun r hr=> ?_,by rw [B3];exact R.len⟩,rep⟩
 ·rcases bg hj with ⟨rfl,e1⟩ | ⟨ne,e1⟩
  ·cases e1
   exact ⟨_,hp,rep⟩
  ·obtain ⟨v,g1,g2⟩:=R.slot j e m e1
   refine ⟨v,g1,?_⟩
   have other:∀ r,v = .ref r->m ≠ .fz->r≠p:=fun r er hm z=>by
    subst er z;exact ne (R.apart j i _ _ _ _ _ e1 hm h (by decide) g1 hp)
   cases m with
   | fz=>exact sh.repD g2
   | ow=>obtain ⟨r,e2,e3,e4⟩:=g2;exact ⟨r,e2,BY.mpr ⟨e3,Bl (other r e2 (by decide))⟩,e4.at rfl sh⟩
   | io=>obtain ⟨r,e2,e3,e4,e5⟩:=g2;exact ⟨r,e2,BY.mpr ⟨e3,Bl (other r e2 (by decide))⟩,e4.at rfl sh,e5⟩
 ·rcases bg h1 with ⟨rfl,z⟩ | ⟨_,z⟩
  ·cases z;exact absurd rfl h2
  ·rcases bg h3 with ⟨rfl,z'⟩ | ⟨_,z'⟩
   ·cases z';exact absurd rfl h4
   ·exact R.apart j k _ _ _ _ _ z h2 z' h4 h5 h6
 ·rcases BA.mp hr with q | q
  ·exact R.mt r (Bc _ (sub r q).1)
  ·exact R.mt r (Bf _ q)
theorem Rel.write(R:Rel K F σ H ρ W){i:Nat}{d d':D}{m:Md}{p:Addr}{o:HO}(h:ρ[i]?=some (some (d,m)))(hm:m ≠ .fz)(hp:σ[i]?=some (some (.ref p)))(new:aQ K (upd H p o) (hid (W++F.Z) H) p d') :
 Rel K F σ (upd H p o) (ρ.set i (some (d',m))) W/\Fr W H (upd H p o):=by
 obtain ⟨v,hv,hS⟩:=R.slot i d m h;rw [hp] at hv;cases hv
 have hw:p∈W:=by
  cases m with
  | fz=>exact absurd rfl hm
  | ow=>obtain ⟨r,e2,e3,_⟩:=hS;cases e2;exact e3
  | io=>obtain ⟨r,e2,e3,_⟩:=hS;cases e2;exact e3
 have hh:hid (W++F.Z) (upd H p o)=hid (W++F.Z) H:=tK (Bc _ hw);refine ⟨⟨fun j e n hj=> ?_,fun j k e f n n' r h1 h2 h3 h4 h5 h6=> ?_,R.wz,fun r hr=> ?_,by rw [B3];exact R.len⟩,fun b u nb e=> ?_,fun b e=> ?_⟩
 ·rcases bg hj with ⟨rfl,e1⟩ | ⟨ne,e1⟩
  ·cases e1
   refine ⟨_,hp,?_⟩
   cases m with
   | fz=>exact absurd rfl hm
   | ow=>exact ⟨p,rfl,hw,by rw [hh];exact new⟩
   | io=>obtain ⟨r,e2,e3,e4,e5⟩:=hS;cases e2;exact ⟨p,rfl,hw,by rw [hh];exact new,e5⟩
  ·obtain ⟨v,g1,g2⟩:=R.slot j e n e1
   refine ⟨v,g1,?_⟩
   have other:∀ r,v = .ref r->n ≠ .fz->r≠p:=fun r er hn z=>by
    subst er z;exact ne (R.apart j i _ _ _ _ _ e1 hn h hm g1 hp)
   cases n with
   | fz=>show aI K (hid (W++F.Z) (upd H p o)) e v;rw [hh];exact g2
   | ow=>obtain ⟨r,e2,e3,e4⟩:=g2;exact ⟨r,e2,e3,e4.at (ak (other r e2 (by decide))) (by rw [hh];exact ac.refl _)⟩
   | io=>obtain ⟨r,e2,e3,e4,e5⟩:=g2;exact ⟨r,e2,e3,e4.at (ak (other r e2 (by decide))) (by rw [hh];exact ac.refl _),e5⟩
 ·have fnd:∀ {j:Nat} {e:D} {n:Md},(ρ.set i (some (d',m)))[j]?=some (some (e,n))->n ≠ .fz->∃ e',ρ[j]?=some (some (e',n)):=fun {j e n} hj hn=>by
   rcases bg hj with ⟨rfl,e1⟩ | ⟨_,e1⟩
   ·cases e1;exact ⟨d,h⟩
   ·exact ⟨_,e1⟩
  obtain ⟨_,z1⟩:=fnd h1 h2;obtain ⟨_,z2⟩:=fnd h3 h4;exact R.apart j k _ _ _ _ _ z1 h2 z2 h4 h5 h6
 ·by_cases e:r=p
  ·subst e;exact new.mu
  ·rw [ak e];exact R.mt r hr
 ·rw [ak (fun z=>by subst z;exact nb hw)];exact e
 ·by_cases z:b=p
  ·subst z;rw [am] at e;cases e
  ·rw [ak z] at e;exact e
theorem Rel.put(R:Rel K F σ H ρ W){i:Nat}{d:D}{v:V}(hi:i < σ.length)(r:aI K (hid (W++F.Z) H) d v):Rel K F (σ.set i (some v)) H (ρ.set i (some (d,.fz))) W:=by
 refine ⟨fun j e m hj=> ?_,fun j k e f m n p h1 h2 h3 h4 h5 h6=> ?_,R.wz,R.mt,by rw [B3,B3];exact R.len⟩
 ·rcases bg hj with ⟨rfl,e1⟩ | ⟨ne,e1⟩
  ·cases e1
   exact ⟨v,B1 hi,r⟩
  ·obtain ⟨v',g1,g2⟩:=R.slot j e m e1
   exact ⟨v',by rw [BG (Ne.symm ne)];exact g1,g2⟩
 ·rcases bg h1 with ⟨rfl,z⟩ | ⟨n1,z⟩
  ·cases z;exact absurd rfl h2
  ·rcases bg h3 with ⟨rfl,z'⟩ | ⟨n2,z'⟩
   ·cases z';exact absurd rfl h4
   ·rw [BG (Ne.symm n1)] at h5
    rw [BG (Ne.symm n2)] at h6;exact R.apart j k _ _ _ _ _ z h2 z' h4 h5 h6
theorem Rel.own{p:Addr}(R:Rel K F σ (hid [p] H) ρ W){i:Nat}{d:D}(hi:i < σ.length)(hp:p∉W++F.Z)(r:aQ K H (hid (p::(W++F.Z)) H) p d):Rel K F (σ.set i (some (.ref p))) H (ρ.set i (some (d,.ow))) (p::W):=by
 have hh:hid (W++F.Z) (hid [p] H)=hid ((p::W)++F.Z) H:=by
  funext b
  unfold hid
  by_cases z:b=p
  ·subst z
   rw [if_neg hp];simp
  ·by_cases z2:b∈W++F.Z
   ·rw [if_pos z2,if_pos (by rw [B5];exact Bi _ z2)]
   ·rw [if_neg z2,if_neg (by simpa using z),if_neg (by rw [B5];exact fun q=>(Bp.mp q).elim z z2)]
 have neq:∀ r,r∈W++F.Z->hid [p] H r=H r:=fun r hr=>aO (by
  intro z
  have z:r=p:=by simpa using z
  subst z;exact hp hr)
 refine ⟨fun j e m hj=> ?_,fun j k e f m n q h1 h2 h3 h4 h5 h6=> ?_,fun q hq=> ?_,fun q hq=> ?_,by rw [B3,B3];exact R.len⟩
 ·rcases bg hj with ⟨rfl,e1⟩ | ⟨ne,e1⟩
  ·cases e1
   exact ⟨_,B1 hi,p,rfl,Bn,r⟩
  ·obtain ⟨v',g1,g2⟩:=R.slot j e m e1
   refine ⟨v',by rw [BG (Ne.symm ne)];exact g1,?_⟩
   cases m with
   | fz=>show aI K (hid ((p::W)++F.Z) H) e v';rw [<- hh];exact g2
   | ow=>obtain ⟨r,e2,e3,e4⟩:=g2;exact ⟨r,e2,Bi _ e3,e4.at (neq r (Bc _ e3)).symm (by rw [hh];exact ac.refl _)⟩
   | io=>obtain ⟨r,e2,e3,e4,e5⟩:=g2;exact ⟨r,e2,Bi _ e3,e4.at (neq r (Bc _ e3)).symm (by rw [hh];exact ac.refl _),e5⟩
 ·have inW:∀ {j:Nat} {e:D} {m:Md},ρ[j]?=some (some (e,m))->m ≠ .fz->σ[j]?=some (some (.ref p))->False:=fun {j e m} h1 h2 h3=>by
   obtain ⟨v,g1,g2⟩:=R.slot j e m h1;rw [h3] at g1;cases g1
   cases m with
   | fz=>exact h2 rfl
   | ow=>obtain ⟨r,e2,e3,_⟩:=g2;cases e2;exact hp (Bc _ e3)
   | io=>obtain ⟨r,e2,e3,_⟩:=g2;cases e2;exact hp (Bc _ e3)
  rcases bg h1 with ⟨rfl,z⟩ | ⟨n1,z⟩
  ·rw [B1 hi] at h5
   cases h5
   rcases bg h3 with ⟨rfl,z'⟩ | ⟨n2,z'⟩
   ·rfl
   ·rw [BG (Ne.symm n2)] at h6
    exact (inW z' h4 h6).elim
  ·rw [BG (Ne.symm n1)] at h5
   rcases bg h3 with ⟨rfl,z'⟩ | ⟨n2,z'⟩
   ·rw [B1 hi] at h6
    cases h6;exact (inW z h2 h5).elim
   ·rw [BG (Ne.symm n2)] at h6
    exact R.apart j k _ _ _ _ _ z h2 z' h4 h5 h6
 ·rcases Bp.mp hq with rfl | hq
  ·exact fun z=>hp (Bf _ z)
  ·exact R.wz q hq
 ·rcases Bp.mp (show q∈p::(W++F.Z) from hq) with rfl | hq
  ·exact r.mu
  ·have:=R.mt q hq
   rw [neq q hq] at this;exact this
end
theorem PE.by{X:Cx}{e:Expr}{t t':TE}(h:PE X e t)(hi:∀ σ H Q,t' σ H Q->t σ H Q):PE X e t':=fun pins s σ H Q I hw=>h pins s σ H Q I (hi σ H Q hw)
theorem PT.by{X:Cx}{e:Expr}{t t':TT}(h:PT X e t)(hi:∀ σ H Q,t' σ H Q->t σ H Q):PT X e t':=fun pins s σ H Q I hw=>h pins s σ H Q I (hi σ H Q hw)
inductive Res where
 | ok (d:D) (nw:Bool) | ex (C:Str)
inductive oW where
 | ok (ds:List D) | ex (C:Str)
inductive xS where
 | ok (b:Bool) | ex (C:Str)
abbrev SE:=Rho->Option (Res×Rho)
abbrev ST:=Rho->Option (xS×Rho)
abbrev EXT:=Str->St->Hp->Prop
section
variable(K:Dy)(F:Fx)(EX:EXT)(σ:St)(H:Hp)(W:List Addr)
def fm(H':Hp)(ρ':Rho)(W':List Addr)(d:D):Bool->V->Prop
 | false,v=>aI K (hid (W'++F.Z) H') d v/\Rel K F σ H' ρ' W'
 | true,v=>∃ p,v = .ref p/\H p=none/\p∉W'++F.Z/\aQ K H' (hid (p::(W'++F.Z)) H') p d/\Rel K F σ (hid [p] H') ρ' W'
def OkV(o:Option (Res×Rho))(Q:VK):Prop:=match o with
 | some (.ok d nw,ρ')=>∀ v H' W',Fr W H H'->(∀ p∈W',p∈W)->fm K F σ H H' ρ' W' d nw v->Q v H'
 | some (.ex C,ρ')=>∀ H' W',Fr W H H'->(∀ p∈W',p∈W)->Rel K F σ H' ρ' W'->EX C σ H'
 | none=>False
def OkT(o:Option (xS×Rho))(Q:Bool->Hp->Prop):Prop:=match o with
 | some (.ok b,ρ')=>∀ H' W',Fr W H H'->(∀ p∈W',p∈W)->Rel K F σ H' ρ' W'->Q b H'
 | some (.ex C,ρ')=>∀ H' W',Fr W H H'->(∀ p∈W',p∈W)->Rel K F σ H' ρ' W'->EX C σ H'
 | none=>False
end
def tV(K:Dy)(EX:EXT)(f:SE):TE:=fun σ H Q=>∃ F ρ W,Rel K F σ H ρ W/\OkV K F EX σ H W (f ρ) Q
def tVT(K:Dy)(EX:EXT)(f:ST):TT:=fun σ H Q=>∃ F ρ W,Rel K F σ H ρ W/\OkT K F EX σ H W (f ρ) Q
structure JE(X:Cx)(EX:EXT)(e:Expr)(f:SE):Prop where
 p:PE X e (tV X.K EX f)
structure JT(X:Cx)(EX:EXT)(e:Expr)(f:ST):Prop where
 p:PT X e (tVT X.K EX f)
structure JW(X:Cx)(EX:EXT)(e:Expr)(f:ST):Prop where
 p:PW X e (tVT X.K EX f)
inductive Arg where
 | ex (f:SE) | bor (i:Nat)
def tArg(K:Dy)(EX:EXT):Arg->TE
 | .ex f=>tV K EX f
 | .bor i=>vB i
def tAs(K:Dy)(EX:EXT):List Arg->TA
 | []=>yg
 | a::as=>mH (tArg K EX a) (tAs K EX as)
structure JB(X:Cx)(EX:EXT)(e:Expr)(a:Arg):Prop where
 p:PE X e (tArg X.K EX a)
structure JA(X:Cx)(EX:EXT)(es:List Expr)(as:List Arg):Prop where
 p:PA X es (tAs X.K EX as)
def evA:List Arg->Rho->Option (oW×Rho)
 | [],ρ=>some (.ok [],ρ)
 | .ex f::as,ρ=>match f ρ with
  | some (.ok d _,ρ1)=>match evA as ρ1 with
   | some (.ok ds,ρ2)=>some (.ok (d::ds),ρ2)
   | some (.ex C,ρ2)=>some (.ex C,ρ2)
   | none=>none
  | some (.ex C,ρ1)=>some (.ex C,ρ1)
  | none=>none
 | .bor i::as,ρ=>match ρ[i]? with
  | some (some _)=>match evA as ρ with
   | some (.ok ds,ρ2)=>match ρ2[i]? with
    | some (some (d,_))=>some (.ok (d::ds),ρ2)
    | _=>none
   | some (.ex C,ρ2)=>some (.ex C,ρ2)
   | none=>none
  | _=>none
def fo(K:Dy)(H Hh:Hp):D->V->Prop
 | .lst ds,v=>∃ p xs,v = .ref p/\H p=some (.lst xs)/\ai K Hh ds xs
 | .dK ks ds,v=>∃ p xs,v = .ref p/\H p=some (.dK (ks.zip xs))/\ks.length=xs.length/\ai K Hh ds xs
 | .dT ks ds,v=>∃ p xs,v = .ref p/\H p=some (.dT (ks.zip xs))/\ks.length=xs.length/\ai K Hh ds xs
 | d,v=>aI K Hh d v
def jK(K:Dy)(H Hh:Hp):List D->List V->Prop
 | [],[]=>True
 | d::ds,x::xs=>fo K H Hh d x/\jK K H Hh ds xs
 | _,_=>False
section
variable{K:Dy}{F:Fx}{EX:EXT}{σ:St}{H H' Hh Hh':Hp}{ρ ρ':Rho}{W W':List Addr}
theorem aI.b{d:D}{v:V}(r:aI K Hh d v)(s:ac Hh H):fo K H Hh d v:=by
 cases d<;>first
  | exact r
  | (obtain ⟨p,xs,h1,h2,h3,h4⟩:=r;exact ⟨p,xs,h1,s _ _ h2,h3,h4⟩)
  | (obtain ⟨p,xs,h1,h2,h3⟩:=r;exact ⟨p,xs,h1,s _ _ h2,h3⟩)
theorem aQ.b{p:Addr}{d:D}(h:aQ K H Hh p d):fo K H Hh d (.ref p):=by
 cases d<;>first
  | exact h.elim
  | (obtain ⟨xs,h1,h2,h3⟩:=h;exact ⟨p,xs,rfl,h1,h2,h3⟩)
  | (obtain ⟨xs,h1,h2⟩:=h;exact ⟨p,xs,rfl,h1,h2⟩)
theorem fo.d{d:D}{v:V}(r:fo K H Hh d v)(s:ac Hh H):aI K H d v:=by
 cases d<;>first
  | exact s.repD r
  | (obtain ⟨p,xs,h1,h2,h3,h4⟩:=r;exact ⟨p,xs,h1,h2,h3,s.repDs h4⟩)
  | (obtain ⟨p,xs,h1,h2,h3⟩:=r;exact ⟨p,xs,h1,h2,s.repDs h3⟩)
theorem se.b{i:Nat}{d:D}{v:V}{m:Md}(h:se K F H W i d v m):fo K H (hid (W++F.Z) H) d v:=by
 cases m with
 | fz=>exact aI.b h aB
 | ow=>obtain ⟨p,rfl,_,h⟩:=h;exact h.b
 | io=>obtain ⟨p,rfl,_,h,_⟩:=h;exact h.b
theorem fm.plain{H0:Hp}{d:D}{nw:Bool}{v:V}(h:fm K F σ H0 H ρ W d nw v):aI K (hid (W++F.Z) H) d v/\Rel K F σ H ρ W:=by
 cases nw with
 | false=>exact h
 | true =>
  obtain ⟨p,rfl,_,hp,hO,R⟩:=h;refine ⟨hO.rep (aO hp) (aR (fun b hb=> .inl (Bi _ hb)) fun b o _ e=>e),R.same aB⟩
variable(K F EX) in
def OkAs(σ:St)(H:Hp)(W:List Addr)(o:Option (oW×Rho))(Q:List V->Hp->Prop):Prop:=match o with
 | some (.ok ds,ρ')=>∀ vs H' W',Fr W H H'->(∀ p∈W',p∈W)->Rel K F σ H' ρ' W'->jK K H' (hid (W'++F.Z) H') ds vs->Q vs H'
 | some (.ex C,ρ')=>∀ H' W',Fr W H H'->(∀ p∈W',p∈W)->Rel K F σ H' ρ' W'->EX C σ H'
 | none=>False
theorem nv:∀ (as:List Arg) {H:Hp} {ρ:Rho} {W:List Addr} {Q:List V->Hp->Prop},Rel K F σ H ρ W->OkAs K F EX σ H W (evA as ρ) Q->tAs K EX as σ H Q
 | [],H,ρ,W,Q,R,h=>h [] H W .refl (fun _ z=>z) R trivial
 | .ex f::as,H,ρ,W,Q,R,h=>by
  refine ⟨F,ρ,W,R,?_⟩;unfold evA at h
  revert h
  cases f ρ with
  | none=>exact fun h=>h
  | some r =>
   obtain ⟨r,ρ1⟩:=r
   cases r with
   | ex C=>exact fun h=>h
   | ok d nw =>
    intro h v H1 W1 fr sub post;obtain ⟨rd,R1⟩:=post.plain;refine nv as R1 ?_
    revert h
    dsimp only
    cases evA as ρ1 with
    | none=>exact fun h=>h
    | some q =>
     obtain ⟨q,ρ2⟩:=q
     cases q with
     | ex C=>exact fun h H2 W2 fr2 sub2 R2=>h H2 W2 (fr.trans fr2 fun p hp=> .inl (sub p hp)) (fun p hp=>sub p (sub2 p hp)) R2
     | ok ds =>
      intro h vs H2 W2 fr2 sub2 R2 reps;exact h (v::vs) H2 W2 (fr.trans fr2 fun p hp=> .inl (sub p hp)) (fun p hp=>sub p (sub2 p hp)) R2 ⟨aI.b ((fr2.hid fun p hp=> .inl (sub2 p hp)).repD rd) aB,reps⟩
 | .bor i::as,H,ρ,W,Q,R,h=>by
  unfold evA at h
  revert h
  cases e:ρ[i]? with
  | none=>exact fun h=>h.elim
  | some z =>
   cases z with
   | none=>exact fun h=>h.elim
   | some dm =>
    obtain ⟨d0,m0⟩:=dm;obtain ⟨v,hv,_⟩:=R.slot i d0 m0 e;intro h;refine ⟨v,hv,nv as R ?_⟩
    revert h
    dsimp only
    cases evA as ρ with
    | none=>exact fun h=>h
    | some q =>
     obtain ⟨q,ρ2⟩:=q
     cases q with
     | ex C=>exact fun h=>h
     | ok ds =>
      dsimp only
      cases e2:ρ2[i]? with
      | none=>exact fun h=>h.elim
      | some z =>
       cases z with
       | none=>exact fun h=>h.elim
       | some dm =>
        obtain ⟨d,m⟩:=dm;intro h vs H2 W2 fr2 sub2 R2 reps;obtain ⟨v2,hv2,ok2⟩:=R2.slot i d m e2;rw [hv] at hv2;cases hv2;exact h (v::vs) H2 W2 fr2 sub2 R2 ⟨ok2.b,reps⟩
variable(K F EX) in
def OkFs(σ:St)(H:Hp)(W:List Addr)(o:Option (oW×Rho))(Q:List V->Hp->Prop):Prop:=match o with
 | some (.ok ds,ρ')=>∀ vs H' W',Fr W H H'->(∀ p∈W',p∈W)->Rel K F σ H' ρ' W'->ai K (hid (W'++F.Z) H') ds vs->Q vs H'
 | some (.ex C,ρ')=>∀ H' W',Fr W H H'->(∀ p∈W',p∈W)->Rel K F σ H' ρ' W'->EX C σ H'
 | none=>False
theorem mZ:∀ (fs:List SE) {H:Hp} {ρ:Rho} {W:List Addr} {Q:List V->Hp->Prop},Rel K F σ H ρ W->OkFs K F EX σ H W (evA (fs.map Arg.ex) ρ) Q->tAs K EX (fs.map Arg.ex) σ H Q
 | [],H,ρ,W,Q,R,h=>h [] H W .refl (fun _ z=>z) R trivial
 | f::fs,H,ρ,W,Q,R,h=>by
  refine ⟨F,ρ,W,R,?_⟩;rw [Bu] at h;unfold evA at h
  revert h
  cases f ρ with
  | none=>exact fun h=>h
  | some r =>
   obtain ⟨r,ρ1⟩:=r
   cases r with
   | ex C=>exact fun h=>h
   | ok d nw =>
    intro h v H1 W1 fr sub post;obtain ⟨rd,R1⟩:=post.plain;refine mZ fs R1 ?_
    revert h
    dsimp only
    cases evA (fs.map Arg.ex) ρ1 with
    | none=>exact fun h=>h
    | some q =>
     obtain ⟨q,ρ2⟩:=q
     cases q with
     | ex C=>exact fun h H2 W2 fr2 sub2 R2=>h H2 W2 (fr.trans fr2 fun p hp=> .inl (sub p hp)) (fun p hp=>sub p (sub2 p hp)) R2
     | ok ds =>
      intro h vs H2 W2 fr2 sub2 R2 reps;exact h (v::vs) H2 W2 (fr.trans fr2 fun p hp=> .inl (sub p hp)) (fun p hp=>sub p (sub2 p hp)) R2 ⟨(fr2.hid fun p hp=> .inl (sub2 p hp)).repD rd,reps⟩
end
def gc(K:Dy)(H H':Hp)(L:List Addr)(d:D):Bool->V->Prop
 | false,v=>aI K (hid L H') d v
 | true,v=>∃ p,v = .ref p/\H p=none/\aQ K H' (hid (p::L) H') p d
def OpS(K:Dy)(r:List V->Hp->VK->Prop)(g:List D->Option (D×Bool)):Prop :=
 ∀ vs ds H L Q d nw,(∀ p∈L,dQ (H p))->jK K H (hid L H) ds vs->g ds=some (d,nw)->(∀ v H',ac H H'->gc K H H' L d nw v->Q v H')->r vs H Q
def sOp(g:List D->Option (D×Bool))(as:List Arg):SE:=fun ρ=>match evA as ρ with
 | some (.ok ds,ρ')=>match g ds with
  | some (d,nw)=>some (.ok d nw,ρ')
  | none=>none
 | some (.ex C,ρ')=>some (.ex C,ρ')
 | none=>none
section
variable{K:Dy}{F:Fx}{EX:EXT}{σ:St}{H H':Hp}{ρ ρ':Rho}{W W':List Addr}{Q:VK}
theorem gc.e{d:D}{nw:Bool}{v:V}(h:gc K H H' (W++F.Z) d nw v)(R:Rel K F σ H ρ W)(s:ac H H'):fm K F σ H H' ρ W d nw v:=by
 cases nw with
 | false=>exact ⟨h,R.same s⟩
 | true =>
  obtain ⟨p,rfl,hp,hO⟩:=h;refine ⟨p,rfl,hp,R.fresh hp,hO,R.same fun b o e=> ?_⟩
  rw [aO (by intro z;have z:b=p:=by simpa using z
             subst z;rw [hp] at e;cases e)]
  exact s b o e
theorem fm.back{H0:Hp}{d:D}{nw:Bool}{v:V}(h:fm K F σ H H' ρ W d nw v)(fr:∀ b,H b=none->H0 b=none):fm K F σ H0 H' ρ W d nw v:=by
 cases nw with
 | false=>exact h
 | true=>obtain ⟨p,h1,h2,h3⟩:=h;exact ⟨p,h1,fr p h2,h3⟩
theorem bQ{r:List V->Hp->VK->Prop}{g:List D->Option (D×Bool)}{as:List Arg}(hs:OpS K r g)(R:Rel K F σ H ρ W)(h:OkV K F EX σ H W (sOp g as ρ) Q):tAs K EX as σ H (fun vs H2=>r vs H2 Q):=by
 refine nv as R ?_;unfold sOp at h
 revert h
 cases evA as ρ with
 | none=>exact fun h=>h
 | some q =>
  obtain ⟨q,ρ2⟩:=q
  cases q with
  | ex C=>exact fun h=>h
  | ok ds =>
   dsimp only
   cases e:g ds with
   | none=>exact fun h=>h.elim
   | some z =>
    obtain ⟨d,nw⟩:=z;intro h vs H2 W2 fr2 sub2 R2 reps
    exact hs vs ds H2 (W2++F.Z) Q d nw R2.mt reps e fun v H3 s3 post=>h v H3 W2 (fr2.trans (s3.fr (W:=W2)) fun p hp=> .inl (sub2 p hp)) sub2 ((post.e R2 s3).back fr2.dom)
end
def r2(r:R2):List V->Hp->VK->Prop
 | [x,y],H,Q=>r x y H Q
 | _,_,_=>False
def r1(r:V->Hp->VK->Prop):List V->Hp->VK->Prop
 | [x],H,Q=>r x H Q
 | _,_,_=>False
section
variable{X:Cx}{EX:EXT}{a b e:Expr}{es:List Expr}{pos:Pos}{x y:Arg}{as:List Arg}
theorem ca_nil:JA X EX [] []:=⟨cG⟩
theorem Ah(h:JB X EX e x)(t:JA X EX es as)(hs:starEach (e::es) X.env=(false,eval e X.env)::starEach es X.env:=by rfl):JA X EX (e::es) (x::as):=⟨aH h.p t.p hs⟩
theorem cb_ex{f:SE}(h:JE X EX e f):JB X EX e (.ex f):=⟨h.p⟩
theorem cb_var{i:Nat}{n:Str}(hN:X.N[i]?=some n)(hv:Vis X.env.scope n)(hd:(n == ("__debug__" : Str))=false:=by decide)(hcd:(n == ("__classdict__" : Str))=false:=by decide):JB X EX (.Name n pos) (.bor i):=⟨fI hN hv hd hcd⟩
def sC(d:D):SE:=fun ρ=>some (.ok d false,ρ)
theorem pk{v:V}{d:D}(h:∀ H,aI X.K H d v){σ:St}{H:Hp}{Q:VK}(hw:tV X.K EX (sC d) σ H Q):tC v σ H Q:=by
 obtain ⟨F,ρ,W,R,h2⟩:=hw;exact h2 v H W .refl (fun _ z=>z) ⟨h _,R⟩
theorem c_int{i:Int}{j pos}:JE X EX (.Constant (.int i) j pos) (sC (.int i)):=⟨kO.by fun _ _ _=>pk (d:=(.int i)) (v:=(.int i)) fun _=>rfl⟩
theorem c_bl{i:Bool}{j pos}:JE X EX (.Constant (.bool i) j pos) (sC (.bl i)):=⟨wp.by fun _ _ _=>pk (d:=(.bl i)) (v:=(.bl i)) fun _=>rfl⟩
theorem c_non{j pos}:JE X EX (.Constant .none j pos) (sC .non):=⟨pe_non.by fun _ _ _=>pk (d:= .non) (v:= .non) fun _=>rfl⟩
theorem c_str{i:Str}{j pos}:JE X EX (.Constant (.str i) j pos) (sC (.str i)):=⟨de.by fun _ _ _=>pk (d:=(.str i)) (v:=(.str i)) fun _=>rfl⟩
theorem xM{n:Str}{i:Int}(hg:Gl X n)(hm:∃ t,X.mg n=some (.int i t))(hd:(n == ("__debug__" : Str))=false:=by decide):JE X EX (.Name n pos) (sC (.int i)):=by
 obtain ⟨t,hm⟩:=hm;exact ⟨(ka (v:= .int i) hg hm ⟨t,rfl⟩ hd).by fun _ _ _=>pk (d:= .int i) (v:= .int i) fun _=>rfl⟩
def bt(i:Nat):SE:=fun ρ=>match ρ[i]? with
 | some (some (d,.fz))=>some (.ok d false,ρ)
 | some (some (d,.ow))=>some (.ok d false,ρ.set i (some (d,.fz)))
 | _=>none
theorem c_var{i:Nat}{n:Str}(hN:X.N[i]?=some n)(hv:Vis X.env.scope n)(hd:(n == ("__debug__" : Str))=false:=by decide)(hcd:(n == ("__classdict__" : Str))=false:=by decide):JE X EX (.Name n pos) (bt i):=by
 refine ⟨(fI hN hv hd hcd).by fun σ H Q hw=> ?_⟩;obtain ⟨F,ρ,W,R,h⟩:=hw;unfold bt at h
 revert h
 cases e:ρ[i]? with
 | none=>exact fun h=>h.elim
 | some z =>
  cases z with
  | none=>exact fun h=>h.elim
  | some z =>
   obtain ⟨d,m⟩:=z;obtain ⟨v,hv,ok⟩:=R.slot i d m e
   cases m with
   | io=>exact fun h=>h.elim
   | fz=>exact fun h=>⟨v,hv,h v H W .refl (fun _ z=>z) ⟨ok,R⟩⟩
   | ow =>
    intro h;obtain ⟨p,rfl,hp,hO⟩:=ok;obtain ⟨R',rp⟩:=R.freeze e hv;exact ⟨_,hv,h _ H _ .refl (fun q hq=>(BY.mp hq).1) ⟨rp,R'⟩⟩
theorem qw{op:Operator}{r:R2}{g:List D->Option (D×Bool)}(ho:OpR X (binaryOp op) r)(hs:OpS X.K (r2 r) g)(ha:JB X EX a x)(hb:JB X EX b y):JE X EX (.BinOp a op b pos) (sOp g [x,y]) :=
 ⟨(AO ho ha.p hb.p).by fun σ H Q ⟨F,ρ,W,R,h⟩=>bQ hs R h⟩
theorem c_un{op:UnaryOp}{r:V->Hp->VK->Prop}{g:List D->Option (D×Bool)}(ho:UnR X (unaryOp op) r)(hs:OpS X.K (r1 r) g)(ha:JB X EX a x):JE X EX (.UnaryOp op a pos) (sOp g [x]) :=
 ⟨(pe_un ho ha.p).by fun σ H Q ⟨F,ρ,W,R,h⟩=>bQ hs R h⟩
theorem t0{op:CmpOp}{r:R2}{g:List D->Option (D×Bool)}(ho:OpR X (compareOp op) r)(hs:OpS X.K (r2 r) g)(ha:JB X EX a x)(hb:JB X EX b y)(hm:behindInMarks op b=false):JE X EX (.Compare a [op] [b] pos) (sOp g [x,y]) :=
 ⟨(zb ho ha.p hb.p hm).by fun σ H Q ⟨F,ρ,W,R,h⟩=>bQ hs R h⟩
theorem c_ix{r:R2}{g:List D->Option (D×Bool)}(ho:IxR X r)(hs:OpS X.K (r2 r) g)(ha:JB X EX a x)(hb:JB X EX b y)(hp:oY b:=by exact fun _ _=>rfl):JE X EX (.Subscript a b pos) (sOp g [x,y]) :=
 ⟨(AQ ho ha.p hb.p hp).by fun σ H Q ⟨F,ρ,W,R,h⟩=>bQ hs R h⟩
theorem gC{id:String}{n:Str}{p:Pos}{r:List V->Hp->VK->Prop}{g:List D->Option (D×Bool)}(ho:aJ X (.builtin id) r)(hs:OpS X.K r g)(hg:Gl X n)(hm:X.mg n=none)(hv:bootBuiltins n=some (.builtin id))(ha:JA X EX (e::es) as)(hn:n ≠ "__name__" := by decide)(hdb:(n == ("__debug__" : Str))=false:=by decide)
 (he:starEach (e::es) X.env=(false,eval e X.env)::starEach es X.env:=by rfl) (hpl:(backTo pos (starEach es X.env)).any (·.1)=false:=by rfl):JE X EX (.Call (.Name n p) (e::es) [] pos) (sOp g as) :=
 ⟨(iA ho hg hm hv ha.p hn hdb he hpl).by fun σ H Q ⟨F,ρ,W,R,h⟩=>bQ hs R h⟩
theorem lT{T:String}{n:Str}{p:Pos}{r:List V->Hp->VK->Prop}{g:List D->Option (D×Bool)}(ho:aJ X (.type T) r)(hs:OpS X.K r g)(hg:Gl X n)(hm:X.mg n=none)(hv:bootBuiltins n=some (.type T))(ha:JA X EX (e::es) as)(hn:n ≠ "__name__" := by decide)(hdb:(n == ("__debug__" : Str))=false:=by decide)
 (he:starEach (e::es) X.env=(false,eval e X.env)::starEach es X.env:=by rfl) (hpl:(backTo pos (starEach es X.env)).any (·.1)=false:=by rfl):JE X EX (.Call (.Name n p) (e::es) [] pos) (sOp g as) :=
 ⟨(uo ho hg hm hv ha.p hn hdb he hpl).by fun σ H Q ⟨F,ρ,W,R,h⟩=>bQ hs R h⟩
def aW(fs:List SE):SE:=fun ρ=>match evA (fs.map Arg.ex) ρ with
 | some (.ok ds,ρ')=>some (.ok (.tup ds) false,ρ')
 | some (.ex C,ρ')=>some (.ex C,ρ')
 | none=>none
def bP(fs:List SE):SE:=fun ρ=>match evA (fs.map Arg.ex) ρ with
 | some (.ok ds,ρ')=>some (.ok (.lst ds) true,ρ')
 | some (.ex C,ρ')=>some (.ex C,ρ')
 | none=>none
inductive JF(X:Cx)(EX:EXT):List Expr->List SE->Prop where
 | nil:JF X EX [] []
 | cons {e:Expr} {es:List Expr} {f:SE} {fs:List SE} (h:JE X EX e f) (t:JF X EX es fs) (hs:starEach (e::es) X.env=(false,eval e X.env)::starEach es X.env:=by rfl):JF X EX (e::es) (f::fs)
theorem JF.p{fs:List SE}(h:JF X EX es fs):PA X es (tAs X.K EX (fs.map Arg.ex)):=by
 induction h with
 | nil=>exact cG
 | cons h t hs ih=>exact aH h.p ih hs
theorem ke:∀ {fs:List SE} {ρ ρ':Rho} {ds:List D},evA (fs.map Arg.ex) ρ=some (.ok ds,ρ')->ds.length=fs.length
 | [],ρ,ρ',ds,h=>by
  have h:some (oW.ok [],ρ)=some (.ok ds,ρ'):=h;cases h;rfl
 | f::fs,ρ,ρ',ds,h=>by
  rw [Bu] at h;unfold evA at h
  revert h
  cases f ρ with
  | none=>intro h;cases h
  | some r =>
   obtain ⟨r,ρ1⟩:=r
   cases r with
   | ex C=>intro h;cases h
   | ok d nw =>
    dsimp only
    cases e:evA (fs.map Arg.ex) ρ1 with
    | none=>intro h;cases h
    | some q =>
     obtain ⟨q,ρ2⟩:=q
     cases q with
     | ex C=>intro h;cases h
     | ok ds2=>intro h;cases h;rw [Bj,Bj,ke e]
theorem c_tup{fs:List SE}{x1}(h:JF X EX es fs)(hl:fs.length<=1000:=by decide):JE X EX (.Tuple es x1 pos) (aW fs) :=
 ⟨(pe_tup h.p).by fun σ H Q ⟨F,ρ,W,R,h⟩=>by
   refine mZ fs R ?_;unfold aW at h
   revert h
   cases e:evA (fs.map Arg.ex) ρ with
   | none=>exact fun h=>h
   | some q =>
    obtain ⟨q,ρ2⟩:=q
    cases q with
    | ex C=>exact fun h=>h
    | ok ds =>
     intro h vs H2 W2 fr2 sub2 R2 reps
     have lv:vs.length<=1000:=by rw [<- reps.len,ke e];exact hl
     refine ⟨Cs (cF lv),fun p hp=>h _ _ W2 (fr2.trans ((ac.upd hp).fr (W:=W2)) fun p hp=> .inl (sub2 p hp)) sub2 ⟨⟨p,vs,rfl,?_,?_⟩,R2.same (ac.upd hp)⟩⟩
     ·rw [aO (R2.fresh hp)];exact am
     ·exact (aR (fun b hb=> .inl hb) fun b o _ e=>ac.upd hp b o e:ac (hid (W2++F.Z) H2) _).repDs reps⟩
theorem c_lst{fs:List SE}(h:JF X EX es fs)(hl:fs.length<=1000:=by decide):JE X EX (.List es pos) (bP fs) :=
 ⟨(nW h.p).by fun σ H Q ⟨F,ρ,W,R,h⟩=>by
   refine mZ fs R ?_;unfold bP at h
   revert h
   cases e:evA (fs.map Arg.ex) ρ with
   | none=>exact fun h=>h
   | some q =>
    obtain ⟨q,ρ2⟩:=q
    cases q with
    | ex C=>exact fun h=>h
    | ok ds =>
     intro h vs H2 W2 fr2 sub2 R2 reps
     have lv:vs.length<=1000:=by rw [<- reps.len,ke e];exact hl
     refine ⟨Cs (cF lv),fun p hp=>h _ _ W2 (fr2.trans ((ac.upd hp).fr (W:=W2)) fun p hp=> .inl (sub2 p hp)) sub2 ?_⟩;refine fm.back (gc.e (nw:=true) ⟨p,rfl,hp,vs,am,?_⟩ R2 (ac.upd hp)) fr2.dom
     exact (aR (fun b hb=>(Bp.mp hb).elim (fun z=> .inr (by rw [z];exact hp)) .inl) fun b o _ e=>ac.upd hp b o e:ac (hid (W2++F.Z) H2) _).repDs reps⟩
end
section
variable{K:Dy}{F:Fx}{EX:EXT}{σ:St}{H H1:Hp}{ρ ρ':Rho}{W W1:List Addr}{Q:VK}
theorem OkV.go{o:Option (Res×Rho)}(h:OkV K F EX σ H W o Q)(fr:Fr W H H1)(sub:∀ p∈W1,p∈W):OkV K F EX σ H1 W1 o Q:=by
 cases o with
 | none=>exact h
 | some r =>
  obtain ⟨r,ρ1⟩:=r
  cases r with
  | ex C=>exact fun H2 W2 f2 s2 R2=>h H2 W2 (fr.trans f2 fun p hp=> .inl (sub p hp)) (fun p hp=>sub p (s2 p hp)) R2
  | ok d nw=>exact fun v H2 W2 f2 s2 P2=>h v H2 W2 (fr.trans f2 fun p hp=> .inl (sub p hp)) (fun p hp=>sub p (s2 p hp)) (P2.back fr.dom)
theorem OkT.go{o:Option (xS×Rho)}{Q:Bool->Hp->Prop}(h:OkT K F EX σ H W o Q)(fr:Fr W H H1)(sub:∀ p∈W1,p∈W):OkT K F EX σ H1 W1 o Q:=by
 cases o with
 | none=>exact h
 | some r =>
  obtain ⟨r,ρ1⟩:=r
  cases r with
  | ex C=>exact fun H2 W2 f2 s2 R2=>h H2 W2 (fr.trans f2 fun p hp=> .inl (sub p hp)) (fun p hp=>sub p (s2 p hp)) R2
  | ok d=>exact fun H2 W2 f2 s2 P2=>h H2 W2 (fr.trans f2 fun p hp=> .inl (sub p hp)) (fun p hp=>sub p (s2 p hp)) P2
end
def bd(g:List D->Option (D×Bool))(as:List Arg):ST:=fun ρ=>match sOp g as ρ with
 | some (.ok (.bl b) _,ρ')=>some (.ok b,ρ')
 | some (.ok _ _,_)=>none
 | some (.ex C,ρ')=>some (.ex C,ρ')
 | none=>none
theorem A7 {K:Dy} {F:Fx} {EX:EXT} {σ:St} {H:Hp} {ρ:Rho} {W:List Addr} {f:SE} {Q:Bool->Hp->Prop} (h:OkT K F EX σ H W (match f ρ with
 | some (.ok (.bl b) _,ρ')=>some (.ok b,ρ')
 | some (.ok _ _,_)=>none
 | some (.ex C,ρ')=>some (.ex C,ρ')
 | none=>none) Q):OkV K F EX σ H W (f ρ) fun x H'=>∃ k,x = .bl k/\Q k H':=by
 revert h
 cases f ρ with
 | none=>exact fun h=>h
 | some r =>
  obtain ⟨r,ρ1⟩:=r
  cases r with
  | ex C=>exact fun h=>h
  | ok d nw =>
   cases d<;>first
    | exact fun h=>h.elim
    | exact fun h v H' W' fr sub post=>⟨_,post.plain.1,h H' W' fr sub post.plain.2⟩
def sBl(f:SE):ST:=fun ρ=>match f ρ with
 | some (.ok (.bl b) _,ρ')=>some (.ok b,ρ')
 | some (.ok _ _,_)=>none
 | some (.ex C,ρ')=>some (.ex C,ρ')
 | none=>none
def km:D->Option Bool
 | .non=>some false
 | .bl b=>some b
 | .int i=>some (i != 0)
 | .lst ds=>some (!ds.isEmpty)
 | .tup ds=>some (!ds.isEmpty)
 | .dK ks _=>some (!ks.isEmpty)
 | _=>none
def cQ(a:Arg):ST:=fun ρ=>match evA [a] ρ with
 | some (.ok [d],ρ')=>match km d with
  | some b=>some (.ok b,ρ')
  | none=>none
 | some (.ok _,_)=>none
 | some (.ex C,ρ')=>some (.ex C,ρ')
 | none=>none
def uf(f g:ST):ST:=fun ρ=>match f ρ with
 | some (.ok true,ρ1)=>g ρ1
 | some (.ok false,ρ1)=>some (.ok false,ρ1)
 | some (.ex C,ρ')=>some (.ex C,ρ')
 | none=>none
def sOr(f g:ST):ST:=fun ρ=>match f ρ with
 | some (.ok false,ρ1)=>g ρ1
 | some (.ok true,ρ1)=>some (.ok true,ρ1)
 | some (.ex C,ρ')=>some (.ex C,ρ')
 | none=>none
def cR(f:ST):ST:=fun ρ=>match f ρ with
 | some (.ok b,ρ1)=>some (.ok (!b),ρ1)
 | some (.ex C,ρ')=>some (.ex C,ρ')
 | none=>none
def sIf(c:ST)(f g:SE):SE:=fun ρ=>match c ρ with
 | some (.ok true,ρ1)=>f ρ1
 | some (.ok false,ρ1)=>g ρ1
 | some (.ex C,ρ')=>some (.ex C,ρ')
 | none=>none
def bX(f g:SE):SE:=fun ρ=>match f ρ with
 | some (.ok (.bl true) _,ρ1)=>g ρ1
 | some (.ok (.bl false) _,ρ1)=>some (.ok (.bl false) false,ρ1)
 | some (.ok _ _,_)=>none
 | some (.ex C,ρ')=>some (.ex C,ρ')
 | none=>none
def ud(f g:SE):SE:=fun ρ=>match f ρ with
 | some (.ok (.bl false) _,ρ1)=>g ρ1
 | some (.ok (.bl true) _,ρ1)=>some (.ok (.bl true) false,ρ1)
 | some (.ok _ _,_)=>none
 | some (.ex C,ρ')=>some (.ex C,ρ')
 | none=>none
def ff(f:SE):SE:=fun ρ=>match f ρ with
 | some (.ok (.bl b) _,ρ1)=>some (.ok (.bl (!b)) false,ρ1)
 | some (.ok _ _,_)=>none
 | some (.ex C,ρ')=>some (.ex C,ρ')
 | none=>none
section
variable{X:Cx}{EX:EXT}{a b c e:Expr}{rest es:List Expr}{pos:Pos}{x y z:Arg}{as:List Arg}
theorem lm{op:CmpOp}{r:R2}{g:List D->Option (D×Bool)}(ho:OpR X (compareOp op) r)(hs:OpS X.K (r2 r) g)(ha:JB X EX a x)(hb:JB X EX b y)(hm:behindInMarks op b=false):JT X EX (.Compare a [op] [b] pos) (bd g [x,y]) :=
 ⟨(sV ho ha.p hb.p hm).by fun σ H Q ⟨F,ρ,W,R,h⟩=>bQ hs R (A7 h)⟩
theorem tru_of{K:Dy}{H Hh:Hp}{d:D}{v:V}{k:Bool}(r:fo K H Hh d v)(s:ac Hh H)(e:km d=some k):Aq K v H k:=by
 cases d<;>simp only [km] at e<;>first
  | cases e;done
  | (cases e;cases r;first | rfl | trivial)
  | skip
 ·obtain ⟨p,xs,rfl,h1,h2⟩:=r
  cases e;exact .inr (.inl ⟨xs,.inl (.inl (s _ _ h1)),by have:=h2.len;cases xs<;>cases ‹List D› <;> simp_all⟩)
 ·obtain ⟨p,xs,rfl,h1,h2⟩:=r
  cases e;exact .inl ⟨xs,.inl (.inl h1),by have:=h2.len;cases xs<;>cases ‹List D› <;> simp_all⟩
 ·obtain ⟨p,xs,rfl,h1,h2,h3⟩:=r
  cases e;refine .inr (.inr ⟨_,h1,?_⟩);rename_i ks vs;cases ks<;>cases xs<;>simp_all
theorem k_tru(ha:JB X EX e x)(he:∀ whole,isTrue e X.env whole=(do let v <- whole;standAt e.pos;holding [v] (truthy v)):=by intro _;rfl):JT X EX e (cQ x) :=
 ⟨(v6 ha.p he).by fun σ H Q ⟨F,ρ,W,R,h⟩=>by
   have z:tAs X.K EX [x] σ H (fun vs H2=>match vs with | [v]=>∃ k,Aq X.K v H2 k/\Q k H2 | _=>False):=by
    refine nv [x] R ?_;unfold cQ at h
    revert h
    cases evA [x] ρ with
    | none=>exact fun h=>h
    | some q =>
     obtain ⟨q,ρ2⟩:=q
     cases q with
     | ex C=>exact fun h=>h
     | ok ds =>
      match ds with
      | []=>exact fun h=>h.elim
      | _::_::_=>exact fun h=>h.elim
      | [d] =>
       dsimp only
       cases e:km d with
       | none=>exact fun h=>h.elim
       | some k =>
        intro h vs H2 W2 fr2 sub2 R2 reps
        match vs,reps with
        | [v],reps=>exact ⟨k,tru_of reps.1 aB e,h H2 W2 fr2 sub2 R2⟩
   exact z⟩
theorem JW.t{f:ST}(h:JW X EX e f):JT X EX e f:=⟨h.p.pt⟩
theorem w_or1{f:ST}(h:JT X EX a f):JW X EX (.BoolOp .Or [a] pos) f:=⟨v5 h.p⟩
theorem w_or{f g:ST}(ha:JT X EX a f)(hb:JW X EX (.BoolOp .Or (b::rest) pos) g):JW X EX (.BoolOp .Or (a::b::rest) pos) (sOr f g) :=
 ⟨fun wh pins s σ H Q I ⟨F,ρ,W,R,h⟩=>AL ha.p hb.p wh pins s σ H Q I ⟨F,ρ,W,R,by
  unfold sOr at h
  revert h
  cases f ρ with
  | none=>exact fun h=>h
  | some q =>
   obtain ⟨q,ρ2⟩:=q
   cases q with
   | ex C=>exact fun h=>h
   | ok k =>
    cases k with
    | false=>exact fun h H2 W2 fr2 sub2 R2=>⟨F,ρ2,W2,R2,OkT.go h fr2 sub2⟩
    | true=>exact fun h=>h⟩⟩
theorem k_not{f:ST}(h:JT X EX a f):JT X EX (.UnaryOp .Not a pos) (cR f) :=
 ⟨(v7 h.p).by fun σ H Q ⟨F,ρ,W,R,h⟩=>⟨F,ρ,W,R,by
   unfold cR at h
   revert h
   cases f ρ with
   | none=>exact fun h=>h
   | some q =>
    obtain ⟨q,ρ2⟩:=q
    cases q with
    | ex C=>exact fun h=>h
    | ok k=>exact fun h=>h⟩⟩
theorem c_one{op}{f:SE}(h:JE X EX a f):JE X EX (.BoolOp op [a] pos) f:=⟨pe_one h.p⟩
theorem c_and{f g:SE}(ha:JE X EX a f)(hb:JE X EX (.BoolOp .And (b::rest) pos) g):JE X EX (.BoolOp .And (a::b::rest) pos) (bX f g) :=
 ⟨(pe_and ha.p hb.p).by fun σ H Q ⟨F,ρ,W,R,h⟩=>⟨F,ρ,W,R,by
   unfold bX at h
   revert h
   cases f ρ with
   | none=>exact fun h=>h
   | some q =>
    obtain ⟨q,ρ2⟩:=q
    cases q with
    | ex C=>exact fun h=>h
    | ok d nw =>
     cases d<;>first | exact fun h=>h.elim | skip
     rename_i k
     cases k with
     | true=>exact fun h v H2 W2 fr2 sub2 P2=>⟨true,P2.plain.1,F,ρ2,W2,P2.plain.2,OkV.go h fr2 sub2⟩
     | false=>exact fun h v H2 W2 fr2 sub2 P2=>⟨false,P2.plain.1,h (.bl false) H2 W2 fr2 sub2 ⟨rfl,P2.plain.2⟩⟩⟩⟩
theorem c_not{f:SE}(ha:JE X EX a f):JE X EX (.UnaryOp .Not a pos) (ff f) :=
 ⟨(pe_not ha.p).by fun σ H Q ⟨F,ρ,W,R,h⟩=>⟨F,ρ,W,R,by
   unfold ff at h
   revert h
   cases f ρ with
   | none=>exact fun h=>h
   | some q =>
    obtain ⟨q,ρ2⟩:=q
    cases q with
    | ex C=>exact fun h=>h
    | ok d nw =>
     cases d<;>first | exact fun h=>h.elim | skip
     exact fun h v H2 W2 fr2 sub2 P2=>⟨_,P2.plain.1,h _ H2 W2 fr2 sub2 ⟨rfl,P2.plain.2⟩⟩⟩⟩
abbrev RSl:=V->Option Int->Option Int->Hp->VK->Prop
def rS00(r:RSl):List V->Hp->VK->Prop
 | [x],H,Q=>r x none none H Q
 | _,_,_=>False
def rS10(r:RSl):List V->Hp->VK->Prop
 | [x,y],H,Q=>∃ i,y = .int i/\r x (some i) none H Q
 | _,_,_=>False
def rS01(r:RSl):List V->Hp->VK->Prop
 | [x,y],H,Q=>∃ i,y = .int i/\r x none (some i) H Q
 | _,_,_=>False
def rS11(r:RSl)(i j:Int):List V->Hp->VK->Prop
 | [x],H,Q=>∃ i',V.int i = .int i'/\∃ j',V.int j = .int j'/\r x (some i') (some j') H Q
 | _,_,_=>False
theorem c_sl10{p2:Pos}{r:RSl}{g:List D->Option (D×Bool)}(ho:SlR X r)(hs:OpS X.K (rS10 r) g)(ha:JB X EX a x)(hb:JB X EX b y):JE X EX (.Subscript a (.Slice (some b) none none p2) pos) (sOp g [x,y]) :=
 ⟨(kN ho ha.p (j0 hb.p) sY).by fun σ H Q ⟨F,ρ,W,R,h⟩=>bQ hs R h⟩
theorem c_sl01{p2:Pos}{r:RSl}{g:List D->Option (D×Bool)}(ho:SlR X r)(hs:OpS X.K (rS01 r) g)(ha:JB X EX a x)(hb:JB X EX b y):JE X EX (.Subscript a (.Slice none (some b) none p2) pos) (sOp g [x,y]) :=
 ⟨(kN ho ha.p sY (j0 hb.p)).by fun σ H Q ⟨F,ρ,W,R,h⟩=>bQ hs R h⟩
theorem c_sl11{p2 p3 p4:Pos}{r:RSl}{g:List D->Option (D×Bool)}{i j:Int}{k1 k2}(ho:SlR X r)(hs:OpS X.K (rS11 r i j) g)(ha:JB X EX a x):JE X EX (.Subscript a (.Slice (some (.Constant (.int i) k1 p3)) (some (.Constant (.int j) k2 p4)) none p2) pos) (sOp g [x]) :=
 ⟨(kN ho ha.p (j0 kO) (j0 kO)).by fun σ H Q ⟨F,ρ,W,R,h⟩=>bQ hs R h⟩
end
theorem PS.by{X:Cx}{e:Stmt}{t t':TS}(h:PS X e t)(hi:∀ D σ H,t' D σ H->t D σ H):PS X e t':=fun pins s σ H D I hw=>h pins s σ H D I (hi D σ H hw)
theorem PSs.by{X:Cx}{e:List Stmt}{t t':TS}(h:PSs X e t)(hi:∀ D σ H,t' D σ H->t D σ H):PSs X e t':=fun pins s σ H D I hw=>h pins s σ H D I (hi D σ H hw)
inductive Out where
 | nx | rt (d:D) (nw:Bool) | ex (C:Str) | bk | ct
abbrev SS:=Rho->Option (Out×Rho)
section
variable(K:Dy)(F:Fx)(EX:EXT)(σ:St)(H:Hp)(W:List Addr)
def qD(σ':St)(H':Hp)(ρ':Rho)(W':List Addr)(d:D):Bool->V->Prop
 | false,v=>aI K (hid (W'++F.Z) H') d v/\Rel K F σ' H' ρ' W'
 | true,v=>∃ p,v = .ref p/\(p∈W\/H p=none)/\p∉W'++F.Z/\aQ K H' (hid (p::(W'++F.Z)) H') p d/\Rel K F σ' (hid [p] H') ρ' W'
def OkS(o:Option (Out×Rho))(D:mE):Prop:=match o with
 | some (.nx,ρ')=>∀ σ' H' W',Fr W H H'->(∀ p∈W',p∈W\/H p=none)->Rel K F σ' H' ρ' W'->D.nx σ' H'
 | some (.bk,ρ')=>∀ σ' H' W',Fr W H H'->(∀ p∈W',p∈W\/H p=none)->Rel K F σ' H' ρ' W'->D.bk σ' H'
 | some (.ct,ρ')=>∀ σ' H' W',Fr W H H'->(∀ p∈W',p∈W\/H p=none)->Rel K F σ' H' ρ' W'->D.ct σ' H'
 | some (.ex C,ρ')=>∀ σ' H' W',Fr W H H'->(∀ p∈W',p∈W\/H p=none)->Rel K F σ' H' ρ' W'->EX C σ' H'
 | some (.rt d nw,ρ')=>∀ σ' v H' W',Fr W H H'->(∀ p∈W',p∈W\/H p=none)->qD K F H W σ' H' ρ' W' d nw v->D.rt v H'
 | none=>False
end
def tVS(K:Dy)(EX:EXT)(f:SS):TS:=fun D σ H=>∃ F ρ W,Rel K F σ H ρ W/\OkS K F EX H W (f ρ) D
structure JS(X:Cx)(EX:EXT)(e:Stmt)(f:SS):Prop where
 p:PS X e (tVS X.K EX f)
structure JSs(X:Cx)(EX:EXT)(e:List Stmt)(f:SS):Prop where
 p:PSs X e (tVS X.K EX f)
section
variable{K:Dy}{F:Fx}{EX:EXT}{σ σ1:St}{H H1:Hp}{ρ ρ':Rho}{W W1:List Addr}{D:mE}
theorem qD.back{σ':St}{H':Hp}{ρ':Rho}{W':List Addr}{d:L2.D}{nw:Bool}{v:V}(h:qD K F H1 W1 σ' H' ρ' W' d nw v)(fr:∀ b,H1 b=none->H b=none)(sub:∀ p∈W1,p∈W\/H p=none):qD K F H W σ' H' ρ' W' d nw v:=by
 cases nw with
 | false=>exact h
 | true=>obtain ⟨p,h1,h2,h3⟩:=h;exact ⟨p,h1,h2.elim (sub p) fun z=> .inr (fr p z),h3⟩
theorem OkS.go{o:Option (Out×Rho)}(h:OkS K F EX H W o D)(fr:Fr W H H1)(sub:∀ p∈W1,p∈W\/H p=none):OkS K F EX H1 W1 o D:=by
 have sub2:∀ {W2:List Addr},(∀ p∈W2,p∈W1\/H1 p=none)->∀ p∈W2,p∈W\/H p=none:=fun {W2} s2 p hp=>(s2 p hp).elim (sub p) fun z=> .inr (fr.dom p z)
 cases o with
 | none=>exact h
 | some r =>
  obtain ⟨r,ρ1⟩:=r
  cases r with
  | ex C=>exact fun σ2 H2 W2 f2 s2 R2=>h σ2 H2 W2 (fr.trans f2 sub) (sub2 s2) R2
  | nx=>exact fun σ2 H2 W2 f2 s2 R2=>h σ2 H2 W2 (fr.trans f2 sub) (sub2 s2) R2
  | bk=>exact fun σ2 H2 W2 f2 s2 R2=>h σ2 H2 W2 (fr.trans f2 sub) (sub2 s2) R2
  | ct=>exact fun σ2 H2 W2 f2 s2 R2=>h σ2 H2 W2 (fr.trans f2 sub) (sub2 s2) R2
  | rt d nw=>exact fun σ2 v H2 W2 f2 s2 P2=>h σ2 v H2 W2 (fr.trans f2 sub) (sub2 s2) (P2.back fr.dom sub)
theorem fm.r{H':Hp}{ρ':Rho}{W':List Addr}{d:L2.D}{nw:Bool}{v:V}(h:fm K F σ H H' ρ' W' d nw v):qD K F H W σ H' ρ' W' d nw v:=by
 cases nw with
 | false=>exact h
 | true=>obtain ⟨p,h1,h2,h3⟩:=h;exact ⟨p,h1,.inr h2,h3⟩
end
def bx:SS:=fun ρ=>some (.nx,ρ)
def aw(f g:SS):SS:=fun ρ=>match f ρ with
 | some (.nx,ρ1)=>g ρ1
 | r=>r
def bc(i:Nat)(f:SE):SS:=fun ρ=>match f ρ with
 | some (.ok d nw,ρ')=>match ρ'[i]? with
  | some _=>some (.nx,ρ'.set i (some (d,if nw then .ow else .fz)))
  | none=>none
 | some (.ex C,ρ')=>some (.ex C,ρ')
 | none=>none
def aM(f:SE):SS:=fun ρ=>match f ρ with
 | some (.ok d nw,ρ')=>some (.rt d nw,ρ')
 | some (.ex C,ρ')=>some (.ex C,ρ')
 | none=>none
def mK:SS:=fun ρ=>some (.rt .non false,ρ)
def di(f:SE):SS:=fun ρ=>match f ρ with
 | some (.ok _ _,ρ')=>some (.nx,ρ')
 | some (.ex C,ρ')=>some (.ex C,ρ')
 | none=>none
def bi(c:ST)(f g:SS):SS:=fun ρ=>match c ρ with
 | some (.ok true,ρ1)=>f ρ1
 | some (.ok false,ρ1)=>g ρ1
 | some (.ex C,ρ')=>some (.ex C,ρ')
 | none=>none
def dR(i:Nat):SS:=fun ρ=>match ρ[i]? with
 | some (some (d,.fz))=>some (.rt d false,ρ)
 | some (some (d,.ow))=>some (.rt d true,ρ.set i none)
 | _=>none
theorem Rel.move{K:Dy}{F:Fx}{σ:St}{H:Hp}{ρ:Rho}{W:List Addr}(R:Rel K F σ H ρ W){i:Nat}{d:D}{p:Addr}(h:ρ[i]?=some (some (d,.ow)))(hp:σ[i]?=some (some (.ref p))) :
 Rel K F σ (hid [p] H) (ρ.set i none) (W.filter fun a=>decide (a≠p))/\p∈W/\p∉(W.filter fun a=>decide (a≠p))++F.Z/\aQ K H (hid (p::((W.filter fun a=>decide (a≠p))++F.Z)) H) p d:=by
 obtain ⟨v,hv,q,rfl,hq,hO⟩:=R.slot i d .ow h;rw [hp] at hv;cases hv
 have sub:∀ b,b∈W.filter (fun a=>decide (a≠p))->b∈W/\b≠p:=fun b hb=>by
  have:=BY.mp hb;exact ⟨this.1,Bt this.2⟩
 have pn:p∉(W.filter fun a=>decide (a≠p))++F.Z:=fun z=>by
  rcases BA.mp z with q | q
  ·exact (sub p q).2 rfl
  ·exact R.wz p hq q
 have sh:ac (hid (W++F.Z) H) (hid ((W.filter fun a=>decide (a≠p))++F.Z) (hid [p] H)):=fun b o e=>by
  obtain ⟨h1,h2⟩:=ar e
  have bp:b≠p:=fun z=>h1 (Bc _ (z ▸ hq))
  rw [aO (fun z=>h1 (by
   rcases BA.mp z with q | q
   ·exact Bc _ (sub b q).1
   ·exact Bf _ q)),aO (by simpa using bp)]
  exact h2
 have sh2:ac (hid (W++F.Z) H) (hid (p::((W.filter fun a=>decide (a≠p))++F.Z)) H):=fun b o e=>by
  obtain ⟨h1,h2⟩:=ar e
  have bp:b≠p:=fun z=>h1 (Bc _ (z ▸ hq))
  rw [aO (fun z=>by
   rcases Bp.mp z with q | q
   ·exact bp q
   ·rcases BA.mp q with q | q
    ·exact h1 (Bc _ (sub b q).1)
    ·exact h1 (Bf _ q))]
  exact h2
 have neq:∀ r,r≠p->hid [p] H r=H r:=fun r hr=>aO (by simpa using hr)
 refine ⟨⟨fun j e m hj=> ?_,fun j k e f m n r h1 h2 h3 h4 h5 h6=> ?_,fun r hr=>R.wz r (sub r hr).1,fun r hr=> ?_,by rw [B3];exact R.len⟩,hq,pn,hO.at rfl sh2⟩
 ·rcases bg hj with ⟨rfl,e1⟩ | ⟨ne,e1⟩
  ·cases e1
  ·obtain ⟨v,g1,g2⟩:=R.slot j e m e1
   refine ⟨v,g1,?_⟩
   have other:∀ r,v = .ref r->m ≠ .fz->r≠p:=fun r er hm z=>by
    subst er z;exact ne (R.apart j i _ _ _ _ _ e1 hm h (by decide) g1 hp)
   cases m with
   | fz=>exact sh.repD g2
   | ow=>obtain ⟨r,e2,e3,e4⟩:=g2;exact ⟨r,e2,BY.mpr ⟨e3,Bl (other r e2 (by decide))⟩,e4.at (neq r (other r e2 (by decide))) sh⟩
   | io=>obtain ⟨r,e2,e3,e4,e5⟩:=g2;exact ⟨r,e2,BY.mpr ⟨e3,Bl (other r e2 (by decide))⟩,e4.at (neq r (other r e2 (by decide))) sh,e5⟩
 ·rcases bg h1 with ⟨rfl,z⟩ | ⟨_,z⟩
  ·cases z
  ·rcases bg h3 with ⟨rfl,z'⟩ | ⟨_,z'⟩
   ·cases z'
   ·exact R.apart j k _ _ _ _ _ z h2 z' h4 h5 h6
 ·have rp:r≠p:=fun z=>by subst z;exact pn hr
  rw [neq r rp]
  rcases BA.mp hr with q | q
  ·exact R.mt r (Bc _ (sub r q).1)
  ·exact R.mt r (Bf _ q)
inductive Tg where
 | nm (i:Nat) | tp (ts:List Tg)
mutual
def bJ:Tg->D->Rho->Option Rho
 | .nm i,d,ρ=>match ρ[i]? with
  | some _=>some (ρ.set i (some (d,.fz)))
  | none=>none
 | .tp ts,.tup ds,ρ=>cu ts ds ρ
 | .tp ts,.ktup ds,ρ=>cu ts ds ρ
 | .tp _,_,_=>none
def cu:List Tg->List D->Rho->Option Rho
 | [],[],ρ=>some ρ
 | t::ts,d::ds,ρ=>match bJ t d ρ with
  | some ρ1=>cu ts ds ρ1
  | none=>none
 | _,_,_=>none
end
mutual
def gT(K:Dy):Tg->TG
 | .nm i=>tO i
 | .tp ts=>gTup K ts.length (gTs K ts)
def gTs(K:Dy):List Tg->TGs
 | []=>gNil
 | t::ts=>A0 (gT K t) (gTs K ts)
end
mutual
def Tg.ge(n:Nat):Tg->Bool
 | .nm i=>decide (n<=i)
 | .tp ts=>Tg.geL n ts
def Tg.geL(n:Nat):List Tg->Bool
 | []=>true
 | t::ts=>Tg.ge n t&&Tg.geL n ts
end
section
variable{K:Dy}{F:Fx}{EX:EXT}{H:Hp}{W:List Addr}{Q:St->Hp->Prop}{n:Nat}
theorem dW{H:Hp}{p:Addr}{xs:List V}(h:SqT K (fun _=>none) p xs):SqT K H p xs:=by
 rcases h with (h | ⟨o,h⟩) | h
 ·cases h
 ·cases h
 ·exact .inr h
theorem nu:∀ {ts:List Tg} {ds:List D} {ρ ρ':Rho},cu ts ds ρ=some ρ'->ds.length=ts.length
 | [],[],_,_,_=>rfl
 | [],_::_,_,_,h=>by unfold cu at h;cases h
 | _::_,[],_,_,h=>by unfold cu at h;cases h
 | t::ts,d::ds,ρ,ρ',h=>by
  unfold cu at h
  cases e:bJ t d ρ with
  | none=>rw [e] at h;cases h
  | some ρ1=>rw [e] at h;rw [Bj,Bj,nu h]
mutual
theorem tN:∀ (T:Tg) {d:D} {v:V} {σ:St} {ρ ρ':Rho} {Q:St->Hp->Prop},Rel K F σ H ρ W->aI K (hid (W++F.Z) H) d v->bJ T d ρ=some ρ'->(∀ σ',(Tg.ge n T=true->σ'.take n=σ.take n)->Rel K F σ' H ρ' W->Q σ' H)->gT K T v σ H Q
 | .nm i,d,v,σ,ρ,ρ',Q,R,r,e,q=>by
  unfold bJ at e;unfold gT
  cases h:ρ[i]? with
  | none=>rw [h] at e;cases e
  | some z =>
   rw [h] at e;cases e
   have hi:i < σ.length:=by rw [R.len];exact (Bs.mp h).1
   refine q _ (fun hg=> ?_) (R.put hi r);unfold Tg.ge at hg;exact List.take_set_of_le (Bt hg)
 | .tp ts,d,v,σ,ρ,ρ',Q,R,r,e,q=>by
  unfold gT
  have two:∀ ds p xs,v = .ref p->SqT K H p xs->ai K (hid (W++F.Z) H) ds xs->cu ts ds ρ=some ρ'->gTup K ts.length (gTs K ts) v σ H Q:=fun ds p xs e1 e2 e3 e4 =>
   ⟨p,xs,e1,e2,by rw [<- e3.len];exact nu e4,xj ts R e3 e4 fun σ' h1 h2=>q σ' (fun hg=>h1 (by unfold Tg.ge at hg;exact hg)) h2⟩
  cases d<;>first
   | (unfold bJ at e;cases e;done)
   | (obtain ⟨p,xs,e1,e2,e3⟩:=r;unfold bJ at e;exact two _ p xs e1 (.inl (.inl (ar e2).2)) e3 e)
   | (obtain ⟨p,xs,e1,e2,e3⟩:=r;unfold bJ at e;exact two _ p xs e1 (dW e2) e3 e)
theorem xj:∀ (ts:List Tg) {ds:List D} {vs:List V} {σ:St} {ρ ρ':Rho} {Q:St->Hp->Prop},Rel K F σ H ρ W->ai K (hid (W++F.Z) H) ds vs->cu ts ds ρ=some ρ'->(∀ σ',(Tg.geL n ts=true->σ'.take n=σ.take n)->Rel K F σ' H ρ' W->Q σ' H)->gTs K ts vs σ H Q
 | [],ds,vs,σ,ρ,ρ',Q,R,r,e,q=>by
  unfold gTs
  cases ds with
  | cons _ _=>unfold cu at e;cases e
  | nil =>
   unfold cu at e;cases e
   cases vs with
   | cons _ _=>exact r.elim
   | nil=>exact ⟨rfl,q σ (fun _=>rfl) R⟩
 | t::ts,ds,vs,σ,ρ,ρ',Q,R,r,e,q=>by
  unfold gTs
  cases ds with
  | nil=>unfold cu at e;cases e
  | cons d ds =>
   cases vs with
   | nil=>exact r.elim
   | cons v vs =>
    unfold cu at e
    cases h:bJ t d ρ with
    | none=>rw [h] at e;cases e
    | some ρ1 =>
     rw [h] at e;refine ⟨v,vs,rfl,tN t R r.1 h fun σ1 h1 R1=>xj ts R1 r.2 e fun σ2 h2 R2=>q σ2 (fun hg=> ?_) R2⟩;unfold Tg.geL at hg;have:=(By _ _).mp hg;exact (h2 this.2).trans (h1 this.1)
end
end
structure JG(X:Cx)(e:Expr)(T:Tg):Prop where
 p:PG X e (gT X.K T)
structure JGs(X:Cx)(es:List Expr)(ts:List Tg):Prop where
 p:PGs X es (gTs X.K ts)
def kF(T:Tg)(f:SE):SS:=fun ρ=>match f ρ with
 | some (.ok d _,ρ')=>match bJ T d ρ' with
  | some ρ2=>some (.nx,ρ2)
  | none=>none
 | some (.ex C,ρ')=>some (.ex C,ρ')
 | none=>none
def kE(i:Nat)(op:Int->Int->Int)(f:SE):SS:=fun ρ=>match ρ[i]? with
 | some (some (.int a,.fz))=>match f ρ with
  | some (.ok (.int b) _,ρ')=>match ρ'[i]? with
   | some _=>some (.nx,ρ'.set i (some (.int (op a b),.fz)))
   | none=>none
  | some (.ok _ _,_)=>none
  | some (.ex C,ρ')=>some (.ex C,ρ')
  | none=>none
 | _=>none
section
variable{X:Cx}{EX:EXT}{a b c e:Expr}{es:List Expr}{st:Stmt}{rest:List Stmt}{pos:Pos}
theorem s_nil:JSs X EX [] bx:=⟨sW.by fun D σ H ⟨F,ρ,W,R,h⟩=>h σ H W .refl (fun _ z=> .inl z) R⟩
theorem s_cons{f g:SS}(h1:JS X EX st f)(h2:JSs X EX rest g):JSs X EX (st::rest) (aw f g) :=
 ⟨(eF h1.p h2.p).by fun D σ H ⟨F,ρ,W,R,h⟩=>⟨F,ρ,W,R,by
   unfold aw at h
   revert h
   cases f ρ with
   | none=>exact fun h=>h
   | some q =>
    obtain ⟨q,ρ2⟩:=q
    cases q with
    | nx=>exact fun h σ2 H2 W2 fr2 sub2 R2=>⟨F,ρ2,W2,R2,OkS.go h fr2 sub2⟩
    | _=>exact fun h=>h⟩⟩
theorem s_one{f:SS}(h:JS X EX st f):JSs X EX [st] f:=⟨nS h.p⟩
theorem set_ok{K:Dy}{F:Fx}{σ:St}{H H':Hp}{ρ':Rho}{W':List Addr}{d:D}{nw:Bool}{v:V}{i:Nat}(P:fm K F σ H H' ρ' W' d nw v)(hi:i < ρ'.length) :
 ∃ W2,(∀ p∈W2,p∈W'\/H p=none)/\Rel K F (σ.set i (some v)) H' (ρ'.set i (some (d,if nw then .ow else .fz))) W2:=by
 cases nw with
 | false=>exact ⟨W',fun p hp=> .inl hp,P.2.put (by rw [P.2.len];exact hi) P.1⟩
 | true =>
  obtain ⟨p,rfl,hp,hn,hO,R⟩:=P;exact ⟨p::W',fun q hq=>(Bp.mp hq).elim (fun z=> .inr (by rw [z];exact hp)) .inl,R.own (by rw [R.len];exact hi) hn hO⟩
theorem xP{i:Nat}{f:SE}{D:mE}{σ:St}{H:Hp}(h:tVS X.K EX (bc i f) D σ H):tV X.K EX f σ H fun x H1=>D.nx (σ.set i (some x)) H1:=by
 obtain ⟨F,ρ,W,R,h⟩:=h;refine ⟨F,ρ,W,R,?_⟩;unfold bc at h
 revert h
 cases f ρ with
 | none=>exact fun h=>h
 | some q =>
  obtain ⟨q,ρ2⟩:=q
  cases q with
  | ex C=>exact fun h H2 W2 fr2 sub2 R2=>h σ H2 W2 fr2 (fun p hp=> .inl (sub2 p hp)) R2
  | ok d nw =>
   dsimp only
   cases e:ρ2[i]? with
   | none=>exact fun h=>h.elim
   | some z =>
    intro h v H2 W2 fr2 sub2 P2;obtain ⟨W3,s3,R3⟩:=set_ok P2 (Bs.mp e).1;exact h _ H2 W3 fr2 (fun p hp=>(s3 p hp).imp (sub2 p) id) R3
theorem Ax{i:Nat}{x:Str}{f:SE}{pos':Pos}(hN:X.N.Nodup)(hi:X.N[i]?=some x)(hx:Loc X.env.scope x)(he:JE X EX e f)(hs:swapsWith e (some (.Name x pos')) pos.line X.env=pure false:=by rfl)(hf:X.fn x=true\/X.env.scope.names.lookup x=some .local:=by first | exact .inl rfl | exact .inr rfl | assumption) :
 JS X EX (.Assign [.Name x pos'] e pos) (bc i f):=⟨(nU hN hi hx he.p hs hf).by fun D σ H h=>xP h⟩
theorem xi{i:Nat}{x:Str}(hN:X.N.Nodup)(hi:X.N[i]?=some x)(hx:Loc X.env.scope x)(hf:X.fn x=true\/X.env.scope.names.lookup x=some .local:=by first | exact .inl rfl | exact .inr rfl | assumption):JG X (.Name x pos) (.nm i):=⟨by unfold gT;exact yW hN hi hx hf⟩
theorem g_nil:JGs X [] []:=⟨by unfold gTs;exact yV⟩
theorem g_cons{T:Tg}{ts:List Tg}(h1:JG X e T)(h2:JGs X es ts)(hs:(assignEach (e::es) X.env).map (·.2)=assign e X.env::(assignEach es X.env).map (·.2):=by rfl):JGs X (e::es) (T::ts):=⟨by unfold gTs;exact wf h1.p h2.p hs⟩
theorem g_tup{k:Nat}{ts:List Tg}(hc:X.calm=true)(h:JGs X es ts)(hn:(assignEach es X.env).length=ts.length:=by rfl)(hst:(assignEach es X.env).findIdx? (·.1)=none:=by rfl):JG X (.Tuple es k pos) (.tp ts):=⟨by unfold gT;exact pg_tup hc h.p hn hst⟩
theorem s_asg{f:SE}{T:Tg}(he:JE X EX e f)(hg:JG X a T)(hs:swapsWithSole [a] e pos.line X.env=pure false:=by rfl)(hw:swappedStores [a] e X.env=pure none:=by rfl)
 (h1:(assignEach [a] X.env).map (·.2)=[assign a X.env]:=by rfl):JS X EX (.Assign [a] e pos) (kF T f) :=
 ⟨(v9 he.p hg.p hs hw h1).by fun D σ H ⟨F,ρ,W,R,h⟩=>⟨F,ρ,W,R,by
   unfold kF at h
   revert h
   cases f ρ with
   | none=>exact fun h=>h
   | some q =>
    obtain ⟨q,ρ2⟩:=q
    cases q with
    | ex C=>exact fun h H2 W2 fr2 sub2 R2=>h σ H2 W2 fr2 (fun p hp=> .inl (sub2 p hp)) R2
    | ok d nw =>
     dsimp only
     cases e:bJ T d ρ2 with
     | none=>exact fun h=>h.elim
     | some ρ3 =>
      intro h v H2 W2 fr2 sub2 P2
      exact tN (n:=0) T P2.plain.2 P2.plain.1 e fun σ' _ R'=>h σ' H2 W2 fr2 (fun p hp=> .inl (sub2 p hp)) R'⟩⟩
theorem s_aug{i:Nat}{x:Str}{f:SE}{op:Operator}{fn:Int->Int->Int}{pos':Pos}(ho:PIp X op (ipI fn))(hN:X.N.Nodup)(hi:X.N[i]?=some x)(hx:Loc X.env.scope x)(he:JE X EX e f)(hf:X.fn x=true\/X.env.scope.names.lookup x=some .local:=by first | exact .inl rfl | exact .inr rfl | assumption) :
 JS X EX (.AugAssign (.Name x pos') op e pos) (kE i fn f) :=
 ⟨(ps_aug hN hi hx he.p ho hf).by fun D σ H ⟨F,ρ,W,R,h⟩=>by
   unfold kE at h
   revert h
   split
   ·rename_i a0 e0
    obtain ⟨v0,hv0,hr0⟩:=R.slot i _ _ e0;have hr0:v0 = .int a0:=hr0;subst hr0;intro h;refine ⟨_,hv0,F,ρ,W,R,?_⟩
    revert h
    cases f ρ with
    | none=>exact fun h=>h
    | some q =>
     obtain ⟨q,ρ2⟩:=q
     cases q with
     | ex C=>exact fun h H2 W2 fr2 sub2 R2=>h σ H2 W2 fr2 (fun p hp=> .inl (sub2 p hp)) R2
     | ok d nw =>
      cases d<;>first | exact fun h=>h.elim | skip
      rename_i b0;dsimp only
      cases e:ρ2[i]? with
      | none=>exact fun h=>h.elim
      | some z =>
       intro h v H2 W2 fr2 sub2 P2;have hv:v = .int b0:=P2.plain.1;exact ⟨a0,b0,rfl,hv,h _ H2 W2 fr2 (fun p hp=> .inl (sub2 p hp)) (P2.plain.2.put (by rw [P2.plain.2.len];exact (Bs.mp e).1) rfl)⟩
   ·exact fun h=>h.elim⟩
theorem s_ret{f:SE}(he:JE X EX e f):JS X EX (.Return (some e) pos) (aM f) :=
 ⟨(nV he.p).by fun D σ H ⟨F,ρ,W,R,h⟩=>⟨F,ρ,W,R,by
   unfold aM at h
   revert h
   cases f ρ with
   | none=>exact fun h=>h
   | some q =>
    obtain ⟨q,ρ2⟩:=q
    cases q with
    | ex C=>exact fun h H2 W2 fr2 sub2 R2=>h σ H2 W2 fr2 (fun p hp=> .inl (sub2 p hp)) R2
    | ok d nw=>exact fun h v H2 W2 fr2 sub2 P2=>h σ v H2 W2 fr2 (fun p hp=> .inl (sub2 p hp)) P2.r⟩⟩
theorem s_retV{i:Nat}{n:Str}{p2:Pos}(hN:X.N[i]?=some n)(hv:Vis X.env.scope n)(hd:(n == ("__debug__" : Str))=false:=by decide)(hcd:(n == ("__classdict__" : Str))=false:=by decide):JS X EX (.Return (some (.Name n p2)) pos) (dR i) :=
 ⟨(nV (fI hN hv hd hcd)).by fun D σ H ⟨F,ρ,W,R,h⟩=>by
   unfold dR at h
   revert h
   cases e:ρ[i]? with
   | none=>exact fun h=>h.elim
   | some z =>
    cases z with
    | none=>exact fun h=>h.elim
    | some z =>
     obtain ⟨d,m⟩:=z;obtain ⟨v,hv,ok⟩:=R.slot i d m e
     cases m with
     | io=>exact fun h=>h.elim
     | fz=>exact fun h=>⟨v,hv,h σ v H W .refl (fun _ z=> .inl z) ⟨ok,R⟩⟩
     | ow =>
      intro h;obtain ⟨p,rfl,hp,hO⟩:=ok;obtain ⟨R',m1,m2,m3⟩:=R.move e hv
      exact ⟨_,hv,h σ _ H _ .refl (fun q hq=> .inl (BY.mp hq).1) ⟨p,rfl,.inl m1,m2,m3,R'⟩⟩⟩
theorem s_expr{f:SE}(he:JE X EX e f)(hs:swapsWith e none pos.line X.env=pure false:=by rfl):JS X EX (.Expr e pos) (di f) :=
 ⟨(sX he.p hs).by fun D σ H ⟨F,ρ,W,R,h⟩=>⟨F,ρ,W,R,by
   unfold di at h
   revert h
   cases f ρ with
   | none=>exact fun h=>h
   | some q =>
    obtain ⟨q,ρ2⟩:=q
    cases q with
    | ex C=>exact fun h H2 W2 fr2 sub2 R2=>h σ H2 W2 fr2 (fun p hp=> .inl (sub2 p hp)) R2
    | ok d nw=>exact fun h v H2 W2 fr2 sub2 P2=>h σ H2 W2 fr2 (fun p hp=> .inl (sub2 p hp)) P2.plain.2⟩⟩
theorem s_if{t:ST}{f g:SS}{as bs:List Stmt}(hc:JT X EX c t)(ha:JSs X EX as f)(hb:JSs X EX bs g):JS X EX (.If c as bs pos) (bi t f g) :=
 ⟨(AM hc.p ha.p hb.p).by fun D σ H ⟨F,ρ,W,R,h⟩=>⟨F,ρ,W,R,by
   unfold bi at h
   revert h
   cases t ρ with
   | none=>exact fun h=>h
   | some q =>
    obtain ⟨q,ρ2⟩:=q
    cases q with
    | ex C=>exact fun h H2 W2 fr2 sub2 R2=>h σ H2 W2 fr2 (fun p hp=> .inl (sub2 p hp)) R2
    | ok k =>
     cases k with
     | true=>exact fun h H2 W2 fr2 sub2 R2=>⟨F,ρ2,W2,R2,OkS.go h fr2 fun p hp=> .inl (sub2 p hp)⟩
     | false=>exact fun h H2 W2 fr2 sub2 R2=>⟨F,ρ2,W2,R2,OkS.go h fr2 fun p hp=> .inl (sub2 p hp)⟩⟩⟩
end
mutual
def dN:D->Bool
 | .lst _=>false
 | .klst _=>false
 | .dK _ _=>false
 | .dT _ _=>false
 | .tup ds=>cB ds
 | .ktup ds=>cB ds
 | _=>true
def cB:List D->Bool
 | []=>true
 | d::ds=>dN d&&cB ds
end
def bZ:D->Bool
 | .lst ds=>cB ds
 | .dK _ ds=>cB ds
 | .dT _ ds=>cB ds
 | _=>false
section
variable{K:Dy}{H:Hp}{L1 L2:List Addr}
theorem iG{p:Addr}{o:HO}(h:hid L1 H p=some o)(hm:∀ p∈L2,dQ (H p))(no:¬ dQ (some o)):hid L2 H p=some o:=by
 have e:=(ar h).2;rw [aO fun z=>no (by have:=hm p z;rw [e] at this;exact this)];exact e
mutual
theorem aI.flat(hm:∀ p∈L2,dQ (H p)):∀ {d:D} {v:V},dN d=true->aI K (hid L1 H) d v->aI K (hid L2 H) d v
 | .non,_,_,h=>h
 | .bl _,_,_,h=>h
 | .int _,_,_,h=>h
 | .str _,_,_,h=>h
 | .tup _,_,f,⟨p,xs,h1,h2,h3⟩=>⟨p,xs,h1,iG h2 hm (fun z=>z),ai.flat hm (by unfold dN at f;exact f) h3⟩
 | .ktup _,_,f,⟨p,xs,h1,h2,h3⟩=>⟨p,xs,h1,h2,ai.flat hm (by unfold dN at f;exact f) h3⟩
 | .lst _,_,f,_=>by unfold dN at f;cases f
 | .klst _,_,f,_=>by unfold dN at f;cases f
 | .dK _ _,_,f,_=>by unfold dN at f;cases f
 | .dT _ _,_,f,_=>by unfold dN at f;cases f
 | .set _,_,_,⟨p,S,h1,h2,h3⟩=>⟨p,S,h1,iG h2 hm (fun z=>z),h3⟩
 | .rng _ _,_,_,⟨p,h1,h2⟩=>⟨p,h1,iG h2 hm (fun z=>z)⟩
 | .exc _,_,_,⟨p,C,h1,h2,h3⟩=>⟨p,C,h1,h2,iG h3 hm (fun z=>z)⟩
theorem ai.flat(hm:∀ p∈L2,dQ (H p)):∀ {ds:List D} {xs:List V},cB ds=true->ai K (hid L1 H) ds xs->ai K (hid L2 H) ds xs
 | [],[],_,_=>trivial
 | _::_,_::_,f,h=>by
  unfold cB at f;have f:=(By _ _).mp f;exact ⟨aI.flat hm f.1 h.1,ai.flat hm f.2 h.2⟩
 | [],_::_,_,h=>h.elim
 | _::_,[],_,h=>h.elim
end
theorem aQ.flat{H':Hp}{p:Addr}{d:D}(hm:∀ p∈L2,dQ (H p))(f:bZ d=true)(h:aQ K H' (hid L1 H) p d):aQ K H' (hid L2 H) p d:=by
 cases d<;>first
  | exact h.elim
  | (obtain ⟨xs,h1,h2,h3⟩:=h;exact ⟨xs,h1,h2,ai.flat hm f h3⟩)
  | (obtain ⟨xs,h1,h2⟩:=h;exact ⟨xs,h1,ai.flat hm f h2⟩)
end
abbrev FS:=List D->Option (Res×D)
def spF(K:Dy)(io:Option Nat)(run:FS):Sp:=fun vs H Q E=>∃ (Z W:List Addr) (ds:List D),
 vs.length=ds.length/\(∀ p∈W,p∉Z)/\(∀ p∈W++Z,dQ (H p)) /\
 (∀ (j:Nat) (d:D) (v:V),io≠some j->ds[j]?=some d->vs[j]?=some v->aI K (hid (W++Z) H) d v) /\
 (∀ k,io=some k->∃ p d,vs[k]?=some (V.ref p)/\ds[k]?=some d/\W=[p]/\aQ K H (hid (W++Z) H) p d) /\
 (io=none->W=[]) /\
 match run ds with
 | some (.ok d false,dio)=>∀ v H',Fr W H H'->aI K (hid (W++Z) H') d v->(∀ p,W=[p]->aQ K H' (hid (W++Z) H') p dio)->Q v H'
 | some (.ok d true,dio)=>∀ q H',Fr W H H'->H q=none->aQ K H' (hid (q::(W++Z)) H') q d->(∀ p,W=[p]->aQ K H' (hid (q::(W++Z)) H') p dio)->Q (.ref q) H'
 | some (.ex C,dio)=>∀ H',Fr W H H'->(∀ p,W=[p]->aQ K H' (hid (W++Z) H') p dio)->∀ a,fS K C a->∀ x,E (.ref a) x H'
 | none=>False
def hV(io:Option Nat):Nat->List D->Rho
 | _,[]=>[]
 | j,d::ds=>some (d,if io=some j then .io else .fz)::hV io (j+1) ds
def ini(n:Nat)(io:Option Nat)(ds:List D):Rho:=hV io 0 ds++List.replicate (n - ds.length) none
def ioD(io:Option Nat)(ρ:Rho):Option D:=match io with
 | none=>some .non
 | some k=>match ρ[k]? with
  | some (some (d,.io))=>some d
  | _=>none
def aF(np n:Nat)(io:Option Nat)(body:SS):FS:=fun ds=>if ds.length=np then
 match body (ini n io ds) with
 | some (.rt d nw,ρ')=>match ioD io ρ' with
  | some x=>some (.ok d nw,x)
  | none=>none
 | some (.nx,ρ')=>match ioD io ρ' with
  | some x=>some (.ok .non false,x)
  | none=>none
 | some (.ex C,ρ')=>match ioD io ρ' with
  | some x=>some (.ex C,x)
  | none=>none
 | _=>none else none
theorem iF{io:Option Nat}:∀ {j:Nat} {ds:List D},(hV io j ds).length=ds.length
 | _,[]=>rfl
 | j,_::ds=>by unfold hV;rw [Bj,Bj,iF]
theorem p8{io:Option Nat}:∀ {j i:Nat} {ds:List D} {d:D} {m:Md},(hV io j ds)[i]?=some (some (d,m))->ds[i]?=some d/\m=if io=some (j+i) then .io else .fz
 | j,i,[],d,m,h=>by unfold hV at h;simp at h
 | j,0,x::ds,d,m,h=>by
  unfold hV at h;simp only [BB,Option.some.injEq,Prod.mk.injEq] at h;exact ⟨by rw [<- h.1];rfl,by rw [<- h.2];rfl⟩
 | j,i+1,x::ds,d,m,h=>by
  unfold hV at h;simp only [BF] at h;obtain ⟨h1,h2⟩:=p8 h;exact ⟨by simpa using h1,by rw [h2,show j+1+i=j+(i+1) by omega]⟩
theorem oB{n:Nat}{io:Option Nat}{i:Nat}{ds:List D}{d:D}{m:Md}(h:(ini n io ds)[i]?=some (some (d,m))):ds[i]?=some d/\m=if io=some i then .io else .fz:=by
 unfold ini at h
 by_cases hi:i < ds.length
 ·rw [BJ (by rw [iF];exact hi)] at h
  have:=p8 h;rw [BW] at this;exact this
 ·rw [Cr (by rw [iF];omega),CD] at h
  split at h<;>cases h
def EXf(K:Dy)(E:XK):EXT:=fun nm _ H=>∀ C,fS K nm C->∀ x,E (.ref C) x H
theorem Fun.okX{P:Program}{w:World}{K:Dy}{mg:Str->Option Value}{base:Heap}{x:Str}{st:Stmt}{N ps:List Str}{k:Nat}{sp:Sp}{f:Addr}{fd:FuncData}(F:Fun K x x st f fd)(S:cN N ps (ae st))(len:∀ vs H Q E,sp vs H Q E->vs.length=ps.length)
 (hbody:∀ (f:Addr) (cdv:Value) (A:Around) (outer:List Env) (s:Shared) (H:Hp) (vs:List V) (Q:VK) (E:XK),cj k (A.deeper (envOfC x (ae st) s.heap.objs.size f cdv))->sp vs H Q E ->
   ∃ t,PSs (bT (CXr P w) P w K mg base N x (ae st) f cdv A outer s H E) (bw st) t/\t { nx:=fun _ H'=>Q .non H',rt:=Q } (cP N vs) H):l9 P w K mg base (CXr P w) (k+1) f fd ps sp:=by
 obtain ⟨oc,od,kV,doc,pm,an,cdv,ct,osl,rfl,lk,hcd⟩:=F.ex
 exact A3 lk hcd S len fun A outer s H vs Q E hr hsp=>hbody f cdv A outer s H vs Q E hr hsp
theorem xu{f0:Addr}{fd0:FuncData}{P:Program}{w:World}{K:Dy}{mg:Str->Option Value}{base:Heap}{x:Str}{st:Stmt}{N ps:List Str}{k:Nat}{io:Option Nat}{body:SS}(h:Fun K x x st f0 fd0)(S:cN N ps (ae st))
 (hb:∀ (f:Addr) (cdv:Value) (A:Around) (outer:List Env) (s:Shared) (H:Hp) (E:XK),cj k (A.deeper (envOfC x (ae st) s.heap.objs.size f cdv)) ->
   JSs (bT (CXr P w) P w K mg base N x (ae st) f cdv A outer s H E) (EXf K E) (bw st) body) (hps:ps.length<=N.length:=by decide):l9 P w K mg base (CXr P w) (k+1) f0 fd0 ps (spF K io (aF ps.length N.length io body)):=by
 have run_len:∀ {ds:List D} {r:Res×D},aF ps.length N.length io body ds=some r->ds.length=ps.length:=fun {ds r} e=>by
  unfold aF at e
  split at e
  ·assumption
  ·cases e
 refine Fun.okX h S (fun vs H Q E hs=> ?_) (fun f cdv A outer s H vs Q E hr hs=> ?_)
 ·obtain ⟨Z,W,ds,h1,_,_,_,_,_,hm⟩:=hs
  cases e:aF ps.length N.length io body ds with
  | none=>rw [e] at hm;exact hm.elim
  | some r=>rw [h1];exact run_len e
 ·obtain ⟨Z,W,ds,h1,hwz,hmt,hfz,hio,hno,hm⟩:=hs
  refine ⟨_,(hb f cdv A outer s H E hr).p,?_⟩
  have hlen:ds.length=ps.length:=by
   cases e:aF ps.length N.length io body ds with
   | none=>rw [e] at hm;exact hm.elim
   | some r=>exact run_len e
  let F:Fx:=⟨Z,fun j=>if io=some j then W.head? else none⟩
  have st_get:∀ {j:Nat} {v:V},vs[j]?=some v->(cP N vs)[j]?=some (some v):=fun {j v} e=>by
   unfold cP;rw [BJ (by rw [Be];exact (Bs.mp e).1),BI,e];rfl
  have R0:Rel K F (cP N vs) H (ini N.length io ds) W:=by
   refine ⟨fun i d m hi=> ?_,fun i j d e m n p g1 g2 g3 g4 _ _=> ?_,hwz,hmt,?_⟩
   ·obtain ⟨hd,rfl⟩:=oB hi
    have hv:i < vs.length:=by rw [h1];exact (Bs.mp hd).1
    refine ⟨vs[i],st_get (Bb hv),?_⟩
    by_cases e:io=some i
    ·rw [if_pos e]
     obtain ⟨p,d',q1,q2,q3,q4⟩:=hio i e;rw [Bb hv] at q1;rw [hd] at q2;cases q2;refine ⟨p,Option.some.inj q1,by rw [q3];exact Bn,q4,?_⟩
     show (if io=some i then W.head? else none)=some p
     rw [if_pos e,q3];rfl
    ·rw [if_neg e]
     exact hfz i d _ e hd (Bb hv)
   ·obtain ⟨_,e1⟩:=oB g1
    obtain ⟨_,e2⟩:=oB g3
    by_cases z1:io=some i
    ·by_cases z2:io=some j
     ·rw [z1] at z2;exact Option.some.inj z2
     ·rw [if_neg z2] at e2;exact absurd e2 g4
    ·rw [if_neg z1] at e1;exact absurd e1 g2
   ·unfold cP ini
    rw [Bz,Bz,Be,B9,B9,iF,h1]
  refine ⟨F,_,W,R0,?_⟩
  have ioR:∀ {σ':St} {H':Hp} {ρ':Rho} {W':List Addr} {x:D} {p:Addr},Rel K F σ' H' ρ' W'->ioD io ρ'=some x->W=[p]->p∈W'/\aQ K H' (hid (W'++Z) H') p x:=fun {σ' H' ρ' W' x p} R e hW=>by
   cases hk:io with
   | none=>rw [hno hk] at hW;cases hW
   | some k =>
    unfold ioD at e;rw [hk] at e;dsimp only at e
    split at e
    ·rename_i d0 e0
     cases e;obtain ⟨v,g1,q,g2,g3,g4,g5⟩:=R.slot k _ _ e0;have g5:(if io=some k then W.head? else none)=some q:=g5;rw [if_pos hk,hW] at g5;have:p=q:=Option.some.inj g5;subst this;exact ⟨g3,g4⟩
    ·cases e
  have wsub:∀ {σ':St} {H':Hp} {ρ':Rho} {W':List Addr} {x:D},Rel K F σ' H' ρ' W'->ioD io ρ'=some x->∀ b,b∈W++Z->b∈W'++Z:=fun {σ' H' ρ' W' x} R e b hb=>by
   rcases BA.mp hb with z | z
   ·cases hk:io with
    | none=>rw [hno hk] at z;cases z
    | some k =>
     obtain ⟨p,d,_,_,q3,_⟩:=hio k hk;rw [q3] at z;rw [Bw.mp z];exact Bc _ (ioR R e q3).1
   ·exact Bf _ z
  have toW:∀ {σ':St} {H' H2:Hp} {ρ':Rho} {W':List Addr} {x:D},Rel K F σ' H2 ρ' W'->ioD io ρ'=some x->ac (hid (W'++Z) H') (hid (W++Z) H'):=fun R e=>aR (fun b hb=> .inl (wsub R e b hb)) fun b o _ z=>z
  revert hm
  unfold aF;rw [if_pos hlen]
  cases body (ini N.length io ds) with
  | none=>exact fun h=>h.elim
  | some r =>
   obtain ⟨r,ρ'⟩:=r
   cases r with
   | bk=>exact fun h=>h.elim
   | ct=>exact fun h=>h.elim
   | nx =>
    dsimp only
    cases e:ioD io ρ' with
    | none=>exact fun h=>h.elim
    | some x =>
     intro hm σ' H' W' fr sub R
     exact hm .non H' fr rfl fun p hp=>(ioR R e hp).2.at rfl (toW R e)
   | ex C =>
    dsimp only
    cases e:ioD io ρ' with
    | none=>exact fun h=>h.elim
    | some x =>
     intro hm σ' H' W' fr sub R
     exact hm H' fr fun p hp=>(ioR R e hp).2.at rfl (toW R e)
   | rt d nw =>
    dsimp only
    cases e:ioD io ρ' with
    | none=>exact fun h=>h.elim
    | some x =>
     cases nw with
     | false =>
      intro hm σ' v H' W' fr sub P
      exact hm v H' fr ((toW P.2 e).repD P.1) fun p hp=>(ioR P.2 e hp).2.at rfl (toW P.2 e)
     | true =>
      intro hm σ' v H' W' fr sub P;obtain ⟨q,rfl,hq,hn,hO,R⟩:=P
      have hq0:H q=none:=by
       rcases hq with z | z
       ·cases hk:io with
        | none=>rw [hno hk] at z;cases z
        | some k =>
         obtain ⟨p,d',_,_,q3,_⟩:=hio k hk;rw [q3] at z;have:q=p:=Bw.mp z;subst this;exact absurd (Bc _ (ioR R e q3).1) hn
       ·exact z
      have cs:ac (hid (q::(W'++Z)) H') (hid (q::(W++Z)) H'):=aR (fun b hb=> .inl (by
       rcases Bp.mp hb with z | z
       ·rw [z];exact Bn
       ·exact Bi _ (wsub R e b z))) fun b o _ z=>z
      refine hm q H' fr hq0 (hO.at rfl cs) fun p hp=> ?_
      obtain ⟨m1,m2⟩:=ioR R e hp
      have pq:p≠q:=fun z=>by subst z;exact hn (Bc _ m1)
      refine m2.at (aO (by simpa using pq)).symm fun b o z=> ?_
      obtain ⟨z1,z2⟩:=ar z;obtain ⟨z3,z4⟩:=ar z2
      rw [aO (fun y=>by
       rcases Bp.mp y with y | y
       ·exact z3 (by simpa using y)
       ·exact z1 (wsub R e b y))]
      exact z4
theorem fn_ok{P:Program}{w:World}{K:Dy}{mg:Str->Option Value}{base:Heap}{x:Str}{st:Stmt}{N ps:List Str}{k:Nat}{io:Option Nat}{body:SS}(h:Has K mg x st ps)(S:cN N ps (ae st))
 (hb:∀ (f:Addr) (cdv:Value) (A:Around) (outer:List Env) (s:Shared) (H:Hp) (E:XK),cj k (A.deeper (envOfC x (ae st) s.heap.objs.size f cdv)) ->
   JSs (bT (CXr P w) P w K mg base N x (ae st) f cdv A outer s H E) (EXf K E) (bw st) body) (hps:ps.length<=N.length:=by decide):OkX P w K mg base x ps (k+1) (spF K io (aF ps.length N.length io body)):=by
 obtain ⟨f,fd,F,hm,hb'⟩:=h.ex;exact ⟨f,fd,hm,F.kp,hb',xu F S hb hps⟩
section
variable{K:Dy}{F:Fx}{EX:EXT}{σ:St}{H H2:Hp}{ρ:Rho}{W:List Addr}
theorem Rel.wrote(R:Rel K F σ H ρ W){i:Nat}{d d':D}{m:Md}{p:Addr}(h:ρ[i]?=some (some (d,m)))(hm:m ≠ .fz)(hp:σ[i]?=some (some (.ref p)))(fr:Fr [p] H H2)(new:aQ K H2 (hid (W++F.Z) H2) p d') :
 Rel K F σ H2 (ρ.set i (some (d',m))) W:=by
 obtain ⟨v,hv,hS⟩:=R.slot i d m h;rw [hp] at hv;cases hv
 have hw:p∈W:=by
  cases m with
  | fz=>exact absurd rfl hm
  | ow=>obtain ⟨r,e2,e3,_⟩:=hS;cases e2;exact e3
  | io=>obtain ⟨r,e2,e3,_⟩:=hS;cases e2;exact e3
 have sh:ac (hid (W++F.Z) H) (hid (W++F.Z) H2):=aR (fun b hb=> .inl hb) fun b o n e=>fr.keep b o (fun z=>n (by rw [Bw.mp z];exact Bc _ hw)) e
 have eq:∀ r,r≠p->dQ (H r)->H2 r=H r:=fun r hr hM=>by
  obtain ⟨u,q⟩:=hM.some;rw [q];exact fr.keep r u (by simpa using hr) q
 refine ⟨fun j e n hj=> ?_,fun j k e f n n' r h1 h2 h3 h4 h5 h6=> ?_,R.wz,fun r hr=> ?_,by rw [B3];exact R.len⟩
 ·rcases bg hj with ⟨rfl,e1⟩ | ⟨ne,e1⟩
  ·cases e1
   refine ⟨_,hp,?_⟩
   cases m with
   | fz=>exact absurd rfl hm
   | ow=>exact ⟨p,rfl,hw,new⟩
   | io=>obtain ⟨r,e2,e3,e4,e5⟩:=hS;cases e2;exact ⟨p,rfl,hw,new,e5⟩
  ·obtain ⟨v,g1,g2⟩:=R.slot j e n e1
   refine ⟨v,g1,?_⟩
   have other:∀ r,v = .ref r->n ≠ .fz->r≠p:=fun r er hn z=>by
    subst er z;exact ne (R.apart j i _ _ _ _ _ e1 hn h hm g1 hp)
   cases n with
   | fz=>exact sh.repD g2
   | ow=>obtain ⟨r,e2,e3,e4⟩:=g2;exact ⟨r,e2,e3,e4.at (eq r (other r e2 (by decide)) e4.mu) sh⟩
   | io=>obtain ⟨r,e2,e3,e4,e5⟩:=g2;exact ⟨r,e2,e3,e4.at (eq r (other r e2 (by decide)) e4.mu) sh,e5⟩
 ·have fnd:∀ {j:Nat} {e:D} {n:Md},(ρ.set i (some (d',m)))[j]?=some (some (e,n))->n ≠ .fz->∃ e',ρ[j]?=some (some (e',n)):=fun {j e n} hj hn=>by
   rcases bg hj with ⟨rfl,e1⟩ | ⟨_,e1⟩
   ·cases e1;exact ⟨d,h⟩
   ·exact ⟨_,e1⟩
  obtain ⟨_,z1⟩:=fnd h1 h2;obtain ⟨_,z2⟩:=fnd h3 h4;exact R.apart j k _ _ _ _ _ z1 h2 z2 h4 h5 h6
 ·by_cases e:r=p
  ·subst e;exact new.mu
  ·rw [eq r e (R.mt r hr)];exact R.mt r hr
variable(K F σ H ρ W) in
def ArgR:Arg->D->V->Prop
 | .ex _,d,v=>aI K (hid (W++F.Z) H) d v
 | .bor i,d,v=>σ[i]?=some (some v)/\∃ m,ρ[i]?=some (some (d,m))
variable(K F σ H ρ W) in
def eM:List Arg->List D->List V->Prop
 | [],[],[]=>True
 | a::as,d::ds,v::vs=>ArgR K F σ H ρ W a d v/\eM as ds vs
 | _,_,_=>False
theorem eM.len:∀ {as:List Arg} {ds:List D} {vs:List V},eM K F σ H ρ W as ds vs->vs.length=ds.length
 | [],[],[],_=>rfl
 | _::_,_::_,_::_,h=>by rw [Bj,Bj,eM.len h.2]
 | [],_::_,_,h=>h.elim
 | [],[],_::_,h=>h.elim
 | _::_,[],_,h=>h.elim
 | _::_,_::_,[],h=>h.elim
theorem eM.get:∀ {as:List Arg} {ds:List D} {vs:List V} {j:Nat} {d:D} {v:V},eM K F σ H ρ W as ds vs->ds[j]?=some d->vs[j]?=some v->∃ a,as[j]?=some a/\ArgR K F σ H ρ W a d v
 | a::_,_::_,_::_,0,d,v,h,e1,e2=>by
  simp only [BB,Option.some.injEq] at e1 e2;subst e1 e2;exact ⟨a,rfl,h.1⟩
 | _::_,_::_,_::_,j+1,d,v,h,e1,e2=>by
  simp only [BF] at e1 e2 ⊢;exact eM.get h.2 e1 e2
 | [],[],[],_,_,_,_,e,_=>by simp at e
 | [],_::_,_,_,_,_,h,_,_=>h.elim
 | [],[],_::_,_,_,_,h,_,_=>h.elim
 | _::_,[],_,_,_,_,h,_,_=>h.elim
 | _::_,_::_,[],_,_,_,h,_,_=>h.elim
theorem eM.at:∀ {as:List Arg} {ds:List D} {vs:List V} {j:Nat} {a:Arg},eM K F σ H ρ W as ds vs->as[j]?=some a->∃ d v,ds[j]?=some d/\vs[j]?=some v/\ArgR K F σ H ρ W a d v
 | a::_,d::_,v::_,0,b,h,e1=>by
  simp only [BB,Option.some.injEq] at e1;subst e1;exact ⟨d,v,rfl,rfl,h.1⟩
 | _::_,_::_,_::_,j+1,a,h,e1=>by
  simp only [BF] at e1 ⊢;exact eM.at h.2 e1
 | [],[],[],_,_,_,e=>by simp at e
 | [],_::_,_,_,_,h,_=>h.elim
 | [],[],_::_,_,_,h,_=>h.elim
 | _::_,[],_,_,_,h,_=>h.elim
 | _::_,_::_,[],_,_,h,_=>h.elim
variable(K F EX) in
def OkA2(σ:St)(H:Hp)(W:List Addr)(as:List Arg)(o:Option (oW×Rho))(Q:List V->Hp->Prop):Prop:=match o with
 | some (.ok ds,ρ')=>∀ vs H' W',Fr W H H'->(∀ p∈W',p∈W)->Rel K F σ H' ρ' W'->eM K F σ H' ρ' W' as ds vs->Q vs H'
 | some (.ex C,ρ')=>∀ H' W',Fr W H H'->(∀ p∈W',p∈W)->Rel K F σ H' ρ' W'->EX C σ H'
 | none=>False
theorem r9:∀ (as:List Arg) {H:Hp} {ρ:Rho} {W:List Addr} {Q:List V->Hp->Prop},Rel K F σ H ρ W->OkA2 K F EX σ H W as (evA as ρ) Q->tAs K EX as σ H Q
 | [],H,ρ,W,Q,R,h=>h [] H W .refl (fun _ z=>z) R trivial
 | .ex f::as,H,ρ,W,Q,R,h=>by
  refine ⟨F,ρ,W,R,?_⟩;unfold evA at h
  revert h
  cases f ρ with
  | none=>exact fun h=>h
  | some r =>
   obtain ⟨r,ρ1⟩:=r
   cases r with
   | ex C=>exact fun h=>h
   | ok d nw =>
    intro h v H1 W1 fr sub post;obtain ⟨rd,R1⟩:=post.plain;refine r9 as R1 ?_
    revert h
    dsimp only
    cases evA as ρ1 with
    | none=>exact fun h=>h
    | some q =>
     obtain ⟨q,ρ2⟩:=q
     cases q with
     | ex C=>exact fun h H2 W2 fr2 sub2 R2=>h H2 W2 (fr.trans fr2 fun p hp=> .inl (sub p hp)) (fun p hp=>sub p (sub2 p hp)) R2
     | ok ds =>
      intro h vs H2 W2 fr2 sub2 R2 reps;exact h (v::vs) H2 W2 (fr.trans fr2 fun p hp=> .inl (sub p hp)) (fun p hp=>sub p (sub2 p hp)) R2 ⟨(fr2.hid fun p hp=> .inl (sub2 p hp)).repD rd,reps⟩
 | .bor i::as,H,ρ,W,Q,R,h=>by
  unfold evA at h
  revert h
  cases e:ρ[i]? with
  | none=>exact fun h=>h.elim
  | some z =>
   cases z with
   | none=>exact fun h=>h.elim
   | some dm =>
    obtain ⟨d0,m0⟩:=dm;obtain ⟨v,hv,_⟩:=R.slot i d0 m0 e;intro h;refine ⟨v,hv,r9 as R ?_⟩
    revert h
    dsimp only
    cases evA as ρ with
    | none=>exact fun h=>h
    | some q =>
     obtain ⟨q,ρ2⟩:=q
     cases q with
     | ex C=>exact fun h=>h
     | ok ds =>
      dsimp only
      cases e2:ρ2[i]? with
      | none=>exact fun h=>h.elim
      | some z =>
       cases z with
       | none=>exact fun h=>h.elim
       | some dm =>
        obtain ⟨d,m⟩:=dm;intro h vs H2 W2 fr2 sub2 R2 reps;exact h (v::vs) H2 W2 fr2 sub2 R2 ⟨⟨hv,m,e2⟩,reps⟩
end
structure iR(X:Cx)(EX:EXT):Prop where
 call:∀ {x:Str} {ps:List Str} {k:Nat} {sp:Sp} {e:Expr} {es:List Expr} {t:TA} {p pos:Pos} (h:OkX X.prog X.w X.K X.mg X.base x ps k sp) (hr:cj k X.A) (hg:Gl X x) (ha:PA X (e::es) t) (hdb:(x == ("__debug__" : Str))=false)
  (he:starEach (e::es) X.env=(false,eval e X.env)::starEach es X.env) (hpl:(backTo pos (starEach es X.env)).any (·.1)=false),PE X (.Call (.Name x p) (e::es) [] pos) (fun σ H Q=>t σ H fun vs H1=>sp vs H1 Q fun c _ H'=>∃ nm C,c = .ref C/\fS X.K nm C/\EX nm σ H')
def EXn:EXT:=fun _ _ _=>False
theorem lW{sp:Sp}{Q:VK}{E:XK}:(fun (vs:List V) H1=>sp (vs++[]) H1 Q E)=fun vs H1=>sp vs H1 Q E:=by
 funext vs H1
 rw [BZ]
theorem rQ{X:Cx}:iR X EXn:=⟨fun {x ps k sp e es t p pos} h hr hg ha hdb he hpl=>by
 obtain ⟨f,fd,hm,hk,hb,F⟩:=h.ex
 refine (sZ F hr hg hm hk hb .nil (E:=fun c _ H'=>∃ nm C,c=Value.ref C/\fS X.K nm C/\False) (fun _ _ _ _ _ _ _ hZ=>(by obtain ⟨_,_,_,_,_,_,_,_,_,_,_,_,_,_,z⟩:=hZ;exact z.elim)) ha hdb he hpl).by fun σ H Q h=> ?_
 unfold sG;rw [lW]
 exact h⟩
theorem rR{P:Program}{w:World}{K:Dy}{mg:Str->Option Value}{base:Heap}{N:List Str}{qual:Str}{scope:Scope}{f:Addr}{cd:Value}{A:Around}{outer:List Env}{s:Shared}{H:Hp}{E:XK} :
 iR (bT (CXr P w) P w K mg base N qual scope f cd A outer s H E) (EXf K E):=⟨fun {x ps k sp e es t p pos} h hr hg ha hdb he hpl=>by
 obtain ⟨f',fd,hm,hk,hb,F⟩:=h.ex
 refine (sZ (X:=bT (CXr P w) P w K mg base N qual scope f cd A outer s H E) F hr hg hm hk hb .nil (E:=fun c _ H'=>∃ nm C,c=Value.ref C/\fS K nm C/\∀ C',fS K nm C'->∀ x,E (.ref C') x H') (wq fun c d H' z=>by obtain ⟨nm,C,rfl,hc,z⟩:=z;exact z C hc d) ha hdb he hpl).by fun σ H Q h=> ?_
 unfold sG;rw [lW]
 exact h⟩
theorem rP{X:Cx}{pn:List (Addr×Obj)}{EX:EXT}:iR (pd X pn fun c σ H=>∃ nm C,c = .ref C/\fS X.K nm C/\EX nm σ H) EX:=⟨fun {x ps k sp e es t p pos} h hr hg ha hdb he hpl=>wn h hr hg ha hdb he hpl⟩
def bY(io:Option Nat):Nat->List Arg->Rho->Bool
 | _,[],_=>true
 | j,.ex _::as,ρ=>bY io (j+1) as ρ
 | j,.bor i::as,ρ=>(if io=some j then true else match ρ[i]? with
  | some (some (_,.fz))=>true
  | _=>false)&&bY io (j+1) as ρ
def fT(i k:Nat):Nat->List Arg->Bool
 | _,[]=>true
 | j,.ex _::as=>fT i k (j+1) as
 | j,.bor i'::as=>(decide (j=k)||decide (i'≠i))&&fT i k (j+1) as
def ioOk(io:Option Nat)(as:List Arg)(slot:Option Nat):Bool:=match io,slot with
 | none,none=>true
 | some k,some i=>(match as[k]? with
  | some (.bor i')=>decide (i'=i)
  | _=>false)&&fT i k 0 as
 | _,_=>false
def dH(slot:Option Nat)(dio:D)(ρ:Rho):Option Rho:=match slot with
 | none=>some ρ
 | some i=>match ρ[i]? with
  | some (some (_,.ow))=>some (ρ.set i (some (dio,.ow)))
  | some (some (_,.io))=>some (ρ.set i (some (dio,.io)))
  | _=>none
def gL(d:D)(nw:Bool):Bool:=if nw then bZ d else dN d
def aj(io slot:Option Nat)(run:FS)(as:List Arg):SE:=fun ρ=>match evA as ρ with
 | some (.ok ds,ρ1)=>match run ds with
  | some (.ok d nw,dio)=>if (bY io 0 as ρ1||(gL d nw&&(io.isNone||bZ dio)))=true then
   match dH slot dio ρ1 with
   | some ρ2=>some (.ok d nw,ρ2)
   | none=>none
   else none
  | some (.ex C,dio)=>if (bY io 0 as ρ1||(io.isNone||bZ dio))=true then
   match dH slot dio ρ1 with
   | some ρ2=>some (.ex C,ρ2)
   | none=>none
   else none
  | none=>none
 | some (.ex C,ρ')=>some (.ex C,ρ')
 | none=>none
theorem gr{io:Option Nat}{ρ:Rho}:∀ {as:List Arg} {j n:Nat} {i:Nat},bY io n as ρ=true->as[j]?=some (.bor i)->io≠some (n+j)->∃ d,ρ[i]?=some (some (d,.fz))
 | [],j,n,i,h,e,_=>by simp at e
 | .ex _::as,0,n,i,h,e,_=>by simp at e
 | .bor i'::as,0,n,i,h,e,ne=>by
  simp only [BB,Option.some.injEq,Arg.bor.injEq] at e;subst e;unfold bY at h;have h:=((By _ _).mp h).1;rw [if_neg (by simpa using ne)] at h
  split at h
  ·exact ⟨_,by assumption⟩
  ·cases h
 | .ex _::as,j+1,n,i,h,e,ne=>by
  unfold bY at h;exact gr (j:=j) (n:=n+1) h (by simpa using e) (by rw [show n+1+j=n+(j+1) by omega];exact ne)
 | .bor _::as,j+1,n,i,h,e,ne=>by
  unfold bY at h;exact gr (j:=j) (n:=n+1) ((By _ _).mp h).2 (by simpa using e) (by rw [show n+1+j=n+(j+1) by omega];exact ne)
theorem ib{i k:Nat}:∀ {as:List Arg} {j n:Nat} {i':Nat},fT i k n as=true->as[j]?=some (.bor i')->n+j≠k->i'≠i
 | [],j,n,i',h,e,_=>by simp at e
 | .ex _::as,0,n,i',h,e,_=>by simp at e
 | .bor i2::as,0,n,i',h,e,ne=>by
  simp only [BB,Option.some.injEq,Arg.bor.injEq] at e;subst e;unfold fT at h;have h:=((By _ _).mp h).1
  rcases (C4 _ _).mp h with z | z
  ·exact absurd (by simpa using Bt z) ne
  ·exact Bt z
 | .ex _::as,j+1,n,i',h,e,ne=>by
  unfold fT at h;exact ib (j:=j) (n:=n+1) h (by simpa using e) (by omega)
 | .bor _::as,j+1,n,i',h,e,ne=>by
  unfold fT at h;exact ib (j:=j) (n:=n+1) ((By _ _).mp h).2 (by simpa using e) (by omega)
section
variable{K:Dy}{F:Fx}{σ:St}{H:Hp}{ρ:Rho}{W:List Addr}
theorem Ag{io slot:Option Nat}{as:List Arg}{ds:List D}{vs:List V}{dio:D}{ρ2:Rho}(R:Rel K F σ H ρ W)(A:eM K F σ H ρ W as ds vs)(hio:ioOk io as slot=true)(hput:dH slot dio ρ=some ρ2) :
 ∃ Wc Zc,(∀ p∈Wc,p∉Zc)/\(∀ b,b∈Wc++Zc->b∈W++F.Z)/\(∀ p∈Wc,p∈W)/\(bY io 0 as ρ=true->∀ b,b∈W++F.Z->b∈Wc++Zc) /\
  (∀ (j:Nat) (d:D) (v:V),io≠some j->ds[j]?=some d->vs[j]?=some v->aI K (hid (Wc++Zc) H) d v) /\
  (∀ k,io=some k->∃ p d,vs[k]?=some (V.ref p)/\ds[k]?=some d/\Wc=[p]/\aQ K H (hid (Wc++Zc) H) p d)/\(io=none->Wc=[]) /\
  ∀ H2,Fr Wc H H2->(∀ p,Wc=[p]->aQ K H2 (hid (W++F.Z) H2) p dio)->Rel K F σ H2 ρ2 W:=by
 cases io with
 | none =>
  cases slot with
  | some i=>cases hio
  | none =>
   cases hput
   have fin:∀ H2,Fr [] H H2->Rel K F σ H2 ρ W:=fun H2 fr=>R.same fun b o e=>fr.keep b o (by simp) e
   by_cases hn:bY none 0 as ρ=true
   ·refine ⟨[],W++F.Z,fun p hp=>by simp at hp,fun b hb=>by simpa using hb,fun p hp=>by simp at hp,fun _ b hb=>by simpa using hb,fun j d v _ e1 e2=> ?_,fun k z=>(by cases z),fun _=>rfl,fun H2 fr _=>fin H2 fr⟩
    obtain ⟨a,ea,ra⟩:=A.get e1 e2
    cases a with
    | ex f=>exact ra
    | bor i =>
     obtain ⟨d',hd'⟩:=gr hn ea (by simp);obtain ⟨q1,m,q2⟩:=ra;rw [hd'] at q2;cases q2;obtain ⟨v',q3,q4⟩:=R.slot i _ _ hd';rw [q1] at q3;cases q3;exact q4
   ·refine ⟨[],F.Z,fun p hp=>by simp at hp,fun b hb=>Bf _ (by simpa using hb),fun p hp=>by simp at hp,fun z=>absurd z hn,fun j d v _ e1 e2=> ?_,fun k z=>(by cases z),fun _=>rfl,fun H2 fr _=>fin H2 fr⟩
    have sh:ac (hid (W++F.Z) H) (hid ([]++F.Z) H):=aR (fun b hb=> .inl (Bf _ (by simpa using hb))) fun b o _ e=>e
    obtain ⟨a,ea,ra⟩:=A.get e1 e2
    cases a with
    | ex f=>exact sh.repD ra
    | bor i =>
     obtain ⟨q1,m,q2⟩:=ra;obtain ⟨v',q3,q4⟩:=R.slot i _ _ q2;rw [q1] at q3;cases q3
     cases m with
     | fz=>exact sh.repD q4
     | ow=>obtain ⟨p,rfl,hp,hO⟩:=q4;exact hO.rep (aO (by simpa using R.wz p hp)) sh
     | io=>obtain ⟨p,rfl,hp,hO,_⟩:=q4;exact hO.rep (aO (by simpa using R.wz p hp)) sh
 | some k =>
  cases slot with
  | none=>cases hio
  | some i =>
   have hio:((match as[k]? with
    | some (.bor i')=>decide (i'=i)
    | _=>false)&&fT i k 0 as)=true:=hio
   obtain ⟨h1,hap⟩:=(By _ _).mp hio
   have hk:as[k]?=some (.bor i):=by
    split at h1
    ·rename_i i' e
     rw [e,Bt h1]
    ·cases h1
   have hm:∃ d0 m,ρ[i]?=some (some (d0,m))/\m ≠ .fz/\ρ2=ρ.set i (some (dio,m)):=by
    unfold dH at hput;dsimp only at hput
    split at hput
    ·rename_i d0 e;cases hput;exact ⟨d0,_,e,by decide,rfl⟩
    ·rename_i d0 e;cases hput;exact ⟨d0,_,e,by decide,rfl⟩
    ·cases hput
   obtain ⟨d0,m,e0,hmf,rfl⟩:=hm;obtain ⟨v0,g1,g2⟩:=R.slot i d0 m e0
   have own:∃ p,v0 = .ref p/\p∈W/\aQ K H (hid (W++F.Z) H) p d0:=by
    cases m with
    | fz=>exact absurd rfl hmf
    | ow=>exact g2
    | io=>obtain ⟨p,z1,z2,z3,_⟩:=g2;exact ⟨p,z1,z2,z3⟩
   obtain ⟨p,rfl,hpW,hO⟩:=own;obtain ⟨dk,vk,f1,f2,f3,mk,f4⟩:=A.at hk;rw [g1] at f3;cases f3;rw [e0] at f4;cases f4
   have fin:∀ H2,Fr [p] H H2->(∀ q,[p]=[q]->aQ K H2 (hid (W++F.Z) H2) q dio)->Rel K F σ H2 (ρ.set i (some (dio,m))) W:=fun H2 fr new=>R.wrote e0 hmf g1 fr (new p rfl)
   have oth:∀ (j:Nat) (i':Nat) (d:D) (v:V) (m':Md),some k≠some j->as[j]?=some (.bor i')->σ[i']?=some (some v)->ρ[i']?=some (some (d,m'))->m' ≠ .fz->v ≠ .ref p:=fun j i' d v m' ne ea q1 q2 hm' z=>by
    have ni:i'≠i:=ib hap ea (fun z=>ne (by rw [<- z,BW]));subst z;exact ni (R.apart i' i _ _ _ _ _ q2 hm' e0 hmf q1 g1)
   by_cases hn:bY (some k) 0 as ρ=true
   ·have m1:∀ b,b∈[p]++(W.filter (fun a=>decide (a≠p))++F.Z)->b∈W++F.Z:=fun b hb=>by
     rcases BA.mp hb with z | z
     ·rw [Bw.mp z];exact Bc _ hpW
     ·rcases BA.mp z with z | z
      ·exact Bc _ (BY.mp z).1
      ·exact Bf _ z
    have m2:∀ b,b∈W++F.Z->b∈[p]++(W.filter (fun a=>decide (a≠p))++F.Z):=fun b hb=>by
     by_cases z:b=p
     ·rw [z];exact Bc _ (Bw.mpr rfl)
     ·refine Bf _ ?_
      rcases BA.mp hb with y | y
      ·exact Bc _ (BY.mpr ⟨y,Bl z⟩)
      ·exact Bf _ y
    have sh:ac (hid (W++F.Z) H) (hid ([p]++(W.filter (fun a=>decide (a≠p))++F.Z)) H):=aR (fun b hb=> .inl (m1 b hb)) fun b o _ e=>e
    refine ⟨[p],W.filter (fun a=>decide (a≠p))++F.Z,fun q hq z=> ?_,m1,fun q hq=>by rw [Bw.mp hq];exact hpW,fun _=>m2,fun j d v ne e1 e2=> ?_,fun k' z=> ?_,fun z=>(by cases z),fin⟩
    ·rw [Bw.mp hq] at z
     rcases BA.mp z with y | y
     ·exact absurd rfl (Bt (BY.mp y).2)
     ·exact R.wz p hpW y
    ·obtain ⟨a,ea,ra⟩:=A.get e1 e2
     cases a with
     | ex f=>exact sh.repD ra
     | bor i' =>
      obtain ⟨d',hd'⟩:=gr hn ea (by rw [BW];exact ne);obtain ⟨q1,m',q2⟩:=ra;rw [hd'] at q2;cases q2;obtain ⟨v',q3,q4⟩:=R.slot i' _ _ hd';rw [q1] at q3;cases q3;exact sh.repD q4
    ·cases z
     exact ⟨p,_,f2,f1,rfl,hO.at rfl sh⟩
   ·have m1:∀ b,b∈[p]++F.Z->b∈W++F.Z:=fun b hb=>by
     rcases BA.mp hb with z | z
     ·rw [Bw.mp z];exact Bc _ hpW
     ·exact Bf _ z
    have sh:ac (hid (W++F.Z) H) (hid ([p]++F.Z) H):=aR (fun b hb=> .inl (m1 b hb)) fun b o _ e=>e
    refine ⟨[p],F.Z,fun q hq z=>by rw [Bw.mp hq] at z;exact R.wz p hpW z,m1,fun q hq=>by rw [Bw.mp hq];exact hpW,fun z=>absurd z hn,fun j d v ne e1 e2=> ?_,fun k' z=> ?_,fun z=>(by cases z),fin⟩
    ·obtain ⟨a,ea,ra⟩:=A.get e1 e2
     cases a with
     | ex f=>exact sh.repD ra
     | bor i' =>
      obtain ⟨q1,m',q2⟩:=ra;obtain ⟨v',q3,q4⟩:=R.slot i' _ _ q2;rw [q1] at q3;cases q3
      have out:∀ r,v = .ref r->m' ≠ .fz->r∈W->r∉[p]++F.Z:=fun r er hm' hr z=>by
       rcases BA.mp z with y | y
       ·rw [Bw.mp y] at er
        exact oth j i' _ _ _ ne ea q1 q2 hm' er
       ·exact R.wz r hr y
      cases m' with
      | fz=>exact sh.repD q4
      | ow=>obtain ⟨r,rfl,hr,hO'⟩:=q4;exact hO'.rep (aO (out r rfl (by decide) hr)) sh
      | io=>obtain ⟨r,rfl,hr,hO',_⟩:=q4;exact hO'.rep (aO (out r rfl (by decide) hr)) sh
    ·cases z
     exact ⟨p,_,f2,f1,rfl,hO.at rfl sh⟩
end
section
variable{X:Cx}{EX:EXT}{e:Expr}{es:List Expr}{as:List Arg}
theorem il{L L':List Addr}{H:Hp}(h:∀ b,b∈L'->b∈L):ac (hid L H) (hid L' H):=aR (fun b hb=> .inl (h b hb)) fun b o _ e=>e
theorem rY{x:Str}{ps:List Str}{k k':Nat}{io slot:Option Nat}{run:FS}{p pos:Pos}(C:iR X EX)(h:OkX X.prog X.w X.K X.mg X.base x ps k (spF X.K io run))(hr:cj k' X.A)(hk:k<=k')(hg:Gl X x)(ha:JA X EX (e::es) as)
 (hio:ioOk io as slot=true:=by rfl) (hdb:(x == ("__debug__" : Str))=false:=by decide) (he:starEach (e::es) X.env=(false,eval e X.env)::starEach es X.env:=by rfl) (hpl:(backTo pos (starEach es X.env)).any (·.1)=false:=by rfl) :
 JE X EX (.Call (.Name x p) (e::es) [] pos) (aj io slot run as) :=
 ⟨(C.call h (hr.mono hk) hg ha.p hdb he hpl).by fun σ H Q ⟨F,ρ,W,R,h⟩=>by
   refine r9 as R ?_;unfold aj at h
   revert h
   cases evA as ρ with
   | none=>exact fun h=>h
   | some q =>
    obtain ⟨q,ρ1⟩:=q
    cases q with
    | ex C=>exact fun h=>h
    | ok ds =>
     dsimp only
     cases er:run ds with
     | none=>exact fun h=>h.elim
     | some r =>
      obtain ⟨r,dio⟩:=r
      have key:∀ {ρ2:Rho} {vs:List V} {H1:Hp} {W1:List Addr} (b:Bool),Rel X.K F σ H1 ρ1 W1->eM X.K F σ H1 ρ1 W1 as ds vs->dH slot dio ρ1=some ρ2->(bY io 0 as ρ1||(b&&(io.isNone||bZ dio)))=true ->
       ∃ Wc Zc,(∀ p∈Wc,p∉Zc)/\(∀ p∈Wc++Zc,dQ (H1 p))/\(∀ p∈Wc,p∈W1) /\
        (∀ (j:Nat) (d:D) (v:V),io≠some j->ds[j]?=some d->vs[j]?=some v->aI X.K (hid (Wc++Zc) H1) d v) /\
        (∀ k,io=some k->∃ p d,vs[k]?=some (V.ref p)/\ds[k]?=some d/\Wc=[p]/\aQ X.K H1 (hid (Wc++Zc) H1) p d)/\(io=none->Wc=[]) /\
        ∀ H2 Q',Fr Wc H1 H2->(∀ b,b∈Q'->H1 b=none)->(∀ p,Wc=[p]->aQ X.K H2 (hid (Q'++(Wc++Zc)) H2) p dio) ->
         Rel X.K F σ (hid Q' H2) ρ2 W1/\(∀ p∈W1++F.Z,dQ (H2 p))/\((∀ b,b∈W1++F.Z->b∈Wc++Zc)\/b=true):=fun {ρ2 vs H1 W1} b R1 A1 hput hc=>by
       obtain ⟨Wc,Zc,c1,c2,c3,c4,c5,c6,c7,c8⟩:=Ag R1 A1 hio hput;refine ⟨Wc,Zc,c1,fun p hp=>R1.mt p (c2 p hp),c3,c5,c6,c7,fun H2 Q' fr hQ own=> ?_⟩
       have wc1:∀ p∈Wc,Wc=[p]:=fun p hp=>by
        cases hz:io with
        | none=>rw [c7 hz] at hp;cases hp
        | some k =>
         obtain ⟨p',_,_,_,e,_⟩:=c6 k hz;rw [e] at hp ⊢;rw [Bw.mp hp]
       have mt2:∀ p∈W1++F.Z,dQ (H2 p):=fun p hp=>by
        by_cases z:p∈Wc
        ·exact (own p (wc1 p z)).mu
        ·obtain ⟨u,q⟩:=(R1.mt p hp).some
         rw [fr.keep p u z q,<- q];exact R1.mt p hp
       have qn:∀ p∈W1++F.Z,p∉Q':=fun p hp z=>by
        have:=R1.mt p hp;rw [hQ p z] at this;exact this
       have fr2:Fr Wc H1 (hid Q' H2):=⟨fun b o n e=>by
        rw [aO (fun z=>by rw [hQ b z] at e;cases e)]
        exact fr.keep b o n e,fun b e=>by
        by_cases z:b∈Q'
        ·exact hQ b z
        ·rw [aO z] at e;exact fr.dom b e⟩
       have or1:(∀ b,b∈W1++F.Z->b∈Wc++Zc)\/(b=true/\(io.isNone||bZ dio)=true):=by
        rcases (C4 _ _).mp hc with z | z
        ·exact .inl (c4 z)
        ·exact .inr ((By _ _).mp z)
       refine ⟨c8 _ fr2 fun p hp=> ?_,mt2,or1.imp id (·.1)⟩;have hpW:p∈W1++F.Z:=Bc _ (c3 p (by rw [hp];exact Bw.mpr rfl));have o1:=own p hp
       have sg:ac (hid (Q'++(W1++F.Z)) H2) (hid (W1++F.Z) (hid Q' H2)):=fun b o e=>by
        obtain ⟨z1,z2⟩:=ar e;rw [aO (fun z=>z1 (Bf _ z)),aO (fun z=>z1 (Bc _ z))];exact z2
       rcases or1 with z | ⟨_,z⟩
       ·refine o1.at (aO (qn p hpW)) (ac.trans (il fun b hb=> ?_) sg)
        rcases BA.mp hb with y | y
        ·exact Bc _ y
        ·exact Bf _ (z b y)
       ·have hf:bZ dio=true:=by
         cases hz:io with
         | none=>rw [c7 hz] at hp;cases hp
         | some k=>rw [hz] at z;exact z
        have hnf:aQ X.K H2 (hid (W1++F.Z) H2) p dio:=o1.flat mt2 hf
        have o2:aQ X.K (hid Q' H2) (hid (Wc++Zc) (hid Q' H2)) p dio:=o1.at (aO (qn p hpW)) fun b o e=>by
         obtain ⟨z1,z2⟩:=ar e;rw [aO (fun z=>z1 (Bf _ z)),aO (fun z=>z1 (Bc _ z))];exact z2
        exact o2.flat (fun p hp=>by rw [aO (qn p hp)];exact mt2 p hp) hf
      cases r with
      | ex C =>
       dsimp only
       split
       ·rename_i hc
        cases ep:dH slot dio ρ1 with
        | none=>exact fun h=>h.elim
        | some ρ2 =>
         intro h vs H1 W1 fr1 sub1 R1 A1;obtain ⟨Wc,Zc,c1,c2,c3,c5,c6,c7,c8⟩:=key true R1 A1 ep (by simpa using hc);refine ⟨Zc,Wc,ds,A1.len,c1,c2,c5,c6,c7,?_⟩;rw [er];intro H2 fr2 own ca hca x;obtain ⟨R2,_,_⟩:=c8 H2 [] fr2 (fun b hb=>by simp at hb) own;exact ⟨C,ca,rfl,hca,h H2 W1 (fr1.trans fr2 fun p hp=> .inl (sub1 p (c3 p hp))) sub1 (R2.same aB)⟩
       ·exact fun h=>h.elim
      | ok d nw =>
       dsimp only
       split
       ·rename_i hc
        cases ep:dH slot dio ρ1 with
        | none=>exact fun h=>h.elim
        | some ρ2 =>
         intro h vs H1 W1 fr1 sub1 R1 A1;obtain ⟨Wc,Zc,c1,c2,c3,c5,c6,c7,c8⟩:=key (gL d nw) R1 A1 ep hc;refine ⟨Zc,Wc,ds,A1.len,c1,c2,c5,c6,c7,?_⟩;rw [er]
         cases nw with
         | false =>
          intro v H2 fr2 rep own;obtain ⟨R2,mt2,z⟩:=c8 H2 [] fr2 (fun b hb=>by simp at hb) own;refine h v H2 W1 (fr1.trans fr2 fun p hp=> .inl (sub1 p (c3 p hp))) sub1 ⟨?_,R2.same aB⟩
          rcases z with z | z
          ·exact (il z).repD rep
          ·exact aI.flat mt2 z rep
         | true =>
          intro q H2 fr2 hq hO own;obtain ⟨R2,mt2,z⟩:=c8 H2 [q] fr2 (fun b hb=>by rw [Bw.mp hb];exact hq) own;refine h (.ref q) H2 W1 (fr1.trans fr2 fun p hp=> .inl (sub1 p (c3 p hp))) sub1 ⟨q,rfl,fr1.dom q hq,R1.fresh hq,?_,R2⟩
          rcases z with z | z
          ·refine hO.at rfl (il fun b hb=> ?_)
           rcases Bp.mp hb with y | y
           ·rw [y];exact Bn
           ·exact Bi _ (z b y)
          ·refine hO.flat (fun p hp=> ?_) z
           rcases Bp.mp hp with y | y
           ·rw [y];exact hO.mu
           ·exact mt2 p y
       ·exact fun h=>h.elim⟩
end
theorem PS.nox{X:Cx}{st:Stmt}{t:TS}(h:PS X.nox st t):PS X st t:=fun pins s σ H D I hw =>
 Ci (h pins s σ H D (I.wish _) hw) (fun _ _ q=>q.unwish) fun _ _ z=>False.elim z
abbrev SI:=Rho->Option (oW×Rho)
structure ItOk(K:Dy)(L0:List Addr)(ds:List D)(J:It)(H0:Hp):Prop where
 go:∀ (H:Hp) (L:List Addr) (i:Nat) (d:D),ac (hid L0 H0) (hid L H)->(∀ p∈L,dQ (H p))->ds[i]?=some d->J.go i H/\∀ x H',J.yld i H x H'->ac H H'/\aI K (hid L H') d x
 stop:∀ H,ac (hid L0 H0) H->J.stop ds.length H
 few:ds.length<=sizeLine
section
variable(K:Dy)(F:Fx)(EX:EXT)(σ:St)(H:Hp)(W:List Addr)
def OkI(o:Option (oW×Rho))(R:It->Hp->Prop):Prop:=match o with
 | some (.ok ds,ρ')=>∀ J H' W',Fr W H H'->(∀ p∈W',p∈W)->Rel K F σ H' ρ' W'->ItOk K (W'++F.Z) ds J H'->R J H'
 | some (.ex C,ρ')=>∀ H' W',Fr W H H'->(∀ p∈W',p∈W)->Rel K F σ H' ρ' W'->EX C σ H'
 | none=>False
end
def tI(K:Dy)(EX:EXT)(f:SI):TI:=fun σ H R=>∃ F ρ W,Rel K F σ H ρ W/\OkI K F EX σ H W (f ρ) R
structure JI(X:Cx)(EX:EXT)(tg iter:Expr)(f:SI):Prop where
 p:PI X tg iter (tI X.K EX f)
def bW(T:Tg)(f:SS):List D->Rho->Option (Out×Rho)
 | [],ρ=>some (.nx,ρ)
 | d::ds,ρ=>match bJ T d ρ with
  | none=>none
  | some ρ1=>match f ρ1 with
   | some (.nx,ρ2)=>bW T f ds ρ2
   | some (.ct,ρ2)=>bW T f ds ρ2
   | some (.bk,ρ2)=>some (.nx,ρ2)
   | some (.rt d nw,ρ2)=>some (.rt d nw,ρ2)
   | some (.ex _,_)=>none
   | none=>none
def fD(it:SI)(T:Tg)(f:SS):SS:=fun ρ=>match it ρ with
 | some (.ok ds,ρ1)=>bW T f ds ρ1
 | some (.ex _,_)=>none
 | none=>none
def cz:Nat->ST->SS->SS
 | 0,_,_=>fun _=>none
 | n+1,c,f=>fun ρ=>match c ρ with
  | some (.ok false,ρ1)=>some (.nx,ρ1)
  | some (.ok true,ρ1)=>match f ρ1 with
   | some (.nx,ρ2)=>cz n c f ρ2
   | some (.ct,ρ2)=>cz n c f ρ2
   | some (.bk,ρ2)=>some (.nx,ρ2)
   | some (.rt d nw,ρ2)=>some (.rt d nw,ρ2)
   | some (.ex _,_)=>none
   | none=>none
  | some (.ex _,_)=>none
  | none=>none
section
variable{X:Cx}{EX:EXT}{tg iter c:Expr}{body:List Stmt}{pos:Pos}
theorem s_for{it:SI}{T:Tg}{f:SS}(hc:X.calm=true)(hi:JI X.nox EXn tg iter it)(hg:JG X.nox tg T)(hb:JSs X.nox EXn body f)(hs:∀ x,foldedSetIterable iter X.env x=pure x:=by intro _;rfl):JS X EX (.For tg iter body [] pos) (fD it T f) :=
 ⟨(PS.nox (ps_for (X:=X.nox) PassesOwn.never hc hi.p hg.p hb.p hs)).by fun D σ H ⟨F,ρ,W,R,h⟩=>⟨F,ρ,W,R,by
   unfold fD at h
   revert h
   cases it ρ with
   | none=>exact fun h=>h
   | some q =>
    obtain ⟨q,ρ1⟩:=q
    cases q with
    | ex C=>exact fun h=>h.elim
    | ok ds =>
     intro h J H1 W1 fr1 sub1 R1 ok;have h:OkS X.K F EX H W (bW T f ds ρ1) D:=h
     refine ⟨fun i m σ H2=>m=ds.length - i/\i<=ds.length/\∃ ρ2 W2,Rel X.K F σ H2 ρ2 W2/\Fr W1 H1 H2/\(∀ p∈W2,p∈W1\/H1 p=none)/\OkS X.K F EX H2 W2 (bW T f (ds.drop i) ρ2) D,
      ⟨ds.length,by simp,Nat.zero_le _,ρ1,W1,R1,.refl,fun _ z=> .inl z,OkS.go h fr1 fun p hp=> .inl (sub1 p hp)⟩,?_⟩
     rintro i m σ2 H2 ⟨rfl,hi,ρ2,W2,R2,fr2,sub2,h2⟩
     by_cases hlt:i < ds.length
     ·have hd:ds.drop i=ds[i]::ds.drop (i+1):=List.drop_eq_getElem_cons hlt
      rw [hd] at h2;unfold bW at h2;obtain ⟨g1,g2⟩:=ok.go H2 (W2++F.Z) i ds[i] (fr2.hid sub2) R2.mt (Bb hlt);refine .inr ⟨g1,fun σ3 H3=>ds.length - (i+1)=ds.length - (i+1)/\i+1<=ds.length/\∃ ρ3 W3,Rel X.K F σ3 H3 ρ3 W3/\Fr W1 H1 H3/\(∀ p∈W3,p∈W1\/H1 p=none)/\OkS X.K F EX H3 W3 (bW T f (ds.drop (i+1)) ρ3) D,fun σ3 H3 z=>⟨_,by omega,z⟩,fun x H3 y=> ?_⟩;obtain ⟨s3,rx⟩:=g2 x H3 y
      revert h2
      cases ea:bJ T ds[i] ρ2 with
      | none=>exact fun h=>h.elim
      | some ρ3 =>
       intro h2
       refine tN (n:=0) T (R2.same s3) rx ea fun σ4 _ R4=>⟨F,ρ3,W2,R4,?_⟩
       have fr3:Fr W1 H1 H3:=fr2.trans (s3.fr (W:=W2)) sub2
       have h3:OkS X.K F EX H3 W2 _ D:=OkS.go h2 (s3.fr (W:=W2)) fun p hp=> .inl hp
       have sub3:∀ {W4:List Addr},(∀ p∈W4,p∈W2\/H3 p=none)->∀ p∈W4,p∈W1\/H1 p=none:=fun {W4} s p hp=>(s p hp).elim (sub2 p) fun z=> .inr (fr3.dom p z)
       revert h3
       dsimp only
       cases f ρ3 with
       | none=>exact fun h=>h
       | some q =>
        obtain ⟨q,ρ4⟩:=q
        cases q with
        | nx=>exact fun h3 σ5 H5 W5 fr5 sub5 R5=>⟨rfl,hlt,ρ4,W5,R5,fr3.trans fr5 sub2,sub3 sub5,OkS.go h3 fr5 sub5⟩
        | ct=>exact fun h3 σ5 H5 W5 fr5 sub5 R5=>⟨rfl,hlt,ρ4,W5,R5,fr3.trans fr5 sub2,sub3 sub5,OkS.go h3 fr5 sub5⟩
        | bk=>exact fun h3=>h3
        | ex C=>exact fun h3=>h3.elim
        | rt d nw=>exact fun h3=>h3
     ·have e:i=ds.length:=by omega
      subst e;rw [List.drop_length] at h2
      exact .inl ⟨ok.stop H2 ((fr2.hid sub2).trans aB),h2 σ2 H2 W2 .refl (fun _ z=> .inl z) R2⟩⟩⟩
theorem yr{n:Nat}{t:ST}{f:SS}(hc:JT X.nox EXn c t)(hb:JSs X.nox EXn body f):JS X EX (.While c body [] pos) (cz n t f) :=
 ⟨(PS.nox (v8 (X:=X.nox) PassesOwn.never hc.p hb.p)).by fun D σ H ⟨F,ρ,W,R,h⟩=>by
   refine ⟨fun m σ H2=>∃ ρ2 W2,Rel X.K F σ H2 ρ2 W2/\OkS X.K F EX H2 W2 (cz m t f ρ2) D,⟨n,ρ,W,R,h⟩,?_⟩;rintro m σ2 H2 ⟨ρ2,W2,R2,h2⟩
   cases m with
   | zero=>exact h2.elim
   | succ m =>
    refine ⟨F,ρ2,W2,R2,?_⟩;unfold cz at h2
    revert h2
    cases t ρ2 with
    | none=>exact fun h=>h
    | some q =>
     obtain ⟨q,ρ3⟩:=q
     cases q with
     | ex C=>exact fun h=>h.elim
     | ok k =>
      cases k with
      | false=>exact fun h H3 W3 fr3 sub3 R3=>h σ2 H3 W3 fr3 (fun p hp=> .inl (sub3 p hp)) R3
      | true =>
       intro h H3 W3 fr3 sub3 R3;refine ⟨fun σ' H'=>∃ ρ4 W4,Rel X.K F σ' H' ρ4 W4/\OkS X.K F EX H' W4 (cz m t f ρ4) D,fun σ' H' z=>⟨m,De m,z⟩,F,ρ3,W3,R3,?_⟩
       have h3:OkS X.K F EX H3 W3 _ D:=OkS.go h fr3 fun p hp=> .inl (sub3 p hp)
       revert h3
       dsimp only
       cases f ρ3 with
       | none=>exact fun h=>h
       | some q =>
        obtain ⟨q,ρ4⟩:=q
        cases q with
        | nx=>exact fun h3 σ5 H5 W5 fr5 sub5 R5=>⟨ρ4,W5,R5,OkS.go h3 fr5 sub5⟩
        | ct=>exact fun h3 σ5 H5 W5 fr5 sub5 R5=>⟨ρ4,W5,R5,OkS.go h3 fr5 sub5⟩
        | bk=>exact fun h3=>h3
        | ex C=>exact fun h3=>h3.elim
        | rt d nw=>exact fun h3=>h3⟩
end
def evC(c:Option ST)(ρ:Rho):Option (xS×Rho):=match c with
 | none=>some (.ok true,ρ)
 | some c=>c ρ
def bK(k:Nat)(T:Tg)(c:Option ST)(f:SE):List D->Rho->Option (List D×Rho)
 | [],ρ=>some ([],ρ)
 | d::ds,ρ=>match bJ T d (ρ++List.replicate k none) with
  | none=>none
  | some ρ1=>match evC c ρ1 with
   | some (.ok true,ρ2)=>match f ρ2 with
    | some (.ok y _,ρ3)=>match bK k T c f ds (ρ3.take ρ.length) with
     | some (ys,ρ4)=>some (y::ys,ρ4)
     | none=>none
    | some (.ex _,_)=>none
    | none=>none
   | some (.ok false,ρ2)=>bK k T c f ds (ρ2.take ρ.length)
   | some (.ex _,_)=>none
   | none=>none
def ce(k:Nat)(it:SI)(T:Tg)(c:Option ST)(f:SE):SE:=fun ρ=>match it ρ with
 | some (.ok ds,ρ1)=>if Tg.ge ρ1.length T=true then
  match bK k T c f ds ρ1 with
  | some (ys,ρ2)=>some (.ok (.lst ys) true,ρ2)
  | none=>none
  else none
 | some (.ex C,ρ1)=>some (.ex C,ρ1)
 | none=>none
def tIfC(K:Dy)(c:Option ST):TT:=match c with
 | none=>Av
 | some c=>tVT K EXn c
section
variable{K:Dy}{F:Fx}{EX:EXT}{σ:St}{H:Hp}{ρ:Rho}{W:List Addr}
theorem Rel.ext(R:Rel K F σ H ρ W)(k:Nat):Rel K F (σ++List.replicate k none) H (ρ++List.replicate k none) W:=by
 have old:∀ {i:Nat} {d:D} {m:Md},(ρ++List.replicate k none)[i]?=some (some (d,m))->ρ[i]?=some (some (d,m))/\i < ρ.length:=fun {i d m} h=>by
  by_cases hi:i < ρ.length
  ·rw [BJ hi] at h
   exact ⟨h,hi⟩
  ·rw [Cr (by omega),CD] at h
   split at h<;>cases h
 refine ⟨fun i d m h=> ?_,fun i j d e m n p h1 h2 h3 h4 h5 h6=> ?_,R.wz,R.mt,by rw [Bz,Bz,B9,B9,R.len]⟩
 ·obtain ⟨h,hi⟩:=old h
  obtain ⟨v,g1,g2⟩:=R.slot i d m h;exact ⟨v,by rw [BJ (by rw [R.len];exact hi)];exact g1,g2⟩
 ·obtain ⟨h1,i1⟩:=old h1
  obtain ⟨h3,i3⟩:=old h3;rw [BJ (by rw [R.len];exact i1)] at h5;rw [BJ (by rw [R.len];exact i3)] at h6;exact R.apart i j _ _ _ _ _ h1 h2 h3 h4 h5 h6
theorem Rel.cut{σ2:St}(R:Rel K F σ2 H ρ W)(h:σ2.take σ.length=σ)(hl:σ.length<=σ2.length):Rel K F σ H (ρ.take σ.length) W:=by
 have old:∀ {i:Nat} {d:D} {m:Md},(ρ.take σ.length)[i]?=some (some (d,m))->ρ[i]?=some (some (d,m))/\i < σ.length:=fun {i d m} h=>by
  rw [List.getElem?_take] at h
  split at h
  ·exact ⟨h,by assumption⟩
  ·cases h
 have eq:∀ {i:Nat},i < σ.length->σ2[i]?=σ[i]?:=fun {i} hi=>by
  have e:=List.getElem?_take_of_lt (l:=σ2) hi;rw [h] at e;exact e.symm
 refine ⟨fun i d m h=> ?_,fun i j d e m n p h1 h2 h3 h4 h5 h6=> ?_,R.wz,R.mt,by rw [CI,<- R.len];omega⟩
 ·obtain ⟨h,hi⟩:=old h
  obtain ⟨v,g1,g2⟩:=R.slot i d m h;exact ⟨v,by rw [<- eq hi];exact g1,g2⟩
 ·obtain ⟨h1,i1⟩:=old h1
  obtain ⟨h3,i3⟩:=old h3;rw [<- eq i1] at h5;rw [<- eq i3] at h6;exact R.apart i j _ _ _ _ _ h1 h2 h3 h4 h5 h6
theorem tW{k:Nat}{it:SI}{T:Tg}{c:Option ST}{f:SE}{Q:VK}(hw:tV K EX (ce k it T c f) σ H Q):pj (tI K EX it) k (gT K T) (tIfC K c) (tV K EXn f) σ H Q:=by
 obtain ⟨F,ρ,W,R,h⟩:=hw;refine ⟨F,ρ,W,R,?_⟩;unfold ce at h
 revert h
 cases it ρ with
 | none=>exact fun h=>h
 | some q =>
  obtain ⟨q,ρ1⟩:=q
  cases q with
  | ex C=>exact fun h=>h
  | ok ds =>
   dsimp only
   split
   ·rename_i hge
    cases es:bK k T c f ds ρ1 with
    | none=>exact fun h=>h.elim
    | some z =>
     obtain ⟨tot,ρe⟩:=z;intro h J H1 W1 fr1 sub1 R1 ok
     refine ⟨fun i m ys H2=>m=ds.length - i/\i<=ds.length/\∃ ρ2 W2 acc rest,Rel K F σ H2 ρ2 W2/\Fr W1 H1 H2/\(∀ p∈W2,p∈W1)/\ai K (hid (W2++F.Z) H2) acc ys/\acc.length<=i/\bK k T c f (ds.drop i) ρ2=some (rest,ρe)/\acc++rest=tot,
      ⟨ds.length,by simp,Nat.zero_le _,ρ1,W1,[],tot,R1,.refl,fun _ z=>z,trivial,Nat.zero_le _,es,rfl⟩,?_⟩
     rintro i m ys H2 ⟨rfl,hi,ρ2,W2,acc,rest,R2,fr2,sub2,rp,la,e2,et⟩
     have sub2':∀ p∈W2,p∈W1\/H1 p=none:=fun p hp=> .inl (sub2 p hp)
     have few:=ok.few;have ly:=rp.len;refine ⟨by omega,?_⟩
     by_cases hlt:i < ds.length
     ·have hd:ds.drop i=ds[i]::ds.drop (i+1):=List.drop_eq_getElem_cons hlt
      rw [hd] at e2;unfold bK at e2;obtain ⟨g1,g2⟩:=ok.go H2 (W2++F.Z) i ds[i] (fr2.hid sub2') R2.mt (Bb hlt);refine .inr ⟨g1,fun x H3 y=> ?_⟩;obtain ⟨s3,rx⟩:=g2 x H3 y
      cases ea:bJ T ds[i] (ρ2++List.replicate k none) with
      | none=>rw [ea] at e2;cases e2
      | some ρ3 =>
       rw [ea] at e2;dsimp only at e2;have lenσ:σ.length=ρ1.length:=R1.len;have lenσ2:σ.length=ρ2.length:=R2.len
       refine tN (n:=σ.length) T ((R2.same s3).ext k) rx ea fun σ4 tk R4=> ?_
       have tk:=tk (by rw [lenσ];exact hge);rw [List.take_left] at tk
       have l4:σ.length<=σ4.length:=by
        have:=congrArg List.length tk;rw [CI] at this;omega
       refine ⟨tk,?_⟩;have fr3:Fr W1 H1 H3:=fr2.trans (s3.fr (W:=W2)) sub2'
       have rest:∀ b ρ4,evC c ρ3=some (.ok b,ρ4)->∀ H4 W4,Fr W2 H3 H4->(∀ p∈W4,p∈W2)->Rel K F σ4 H4 ρ4 W4 ->
        (if b=true then tV K EXn f σ4 H4 fun y H5=>∃ m',m' < ds.length - i/\(m'=ds.length - (i+1)/\i+1<=ds.length/\∃ ρ2 W2 acc rest,Rel K F σ H5 ρ2 W2/\Fr W1 H1 H5/\(∀ p∈W2,p∈W1)/\ai K (hid (W2++F.Z) H5) acc (ys++[y])/\acc.length<=i+1/\bK k T c f (ds.drop (i+1)) ρ2=some (rest,ρe)/\acc++rest=tot)
        else ∃ m',m' < ds.length - i/\(m'=ds.length - (i+1)/\i+1<=ds.length/\∃ ρ2 W2 acc rest,Rel K F σ H4 ρ2 W2/\Fr W1 H1 H4/\(∀ p∈W2,p∈W1)/\ai K (hid (W2++F.Z) H4) acc ys/\acc.length<=i+1/\bK k T c f (ds.drop (i+1)) ρ2=some (rest,ρe)/\acc++rest=tot)):=fun b ρ4 ec H4 W4 fr4 sub4 R4=>by
        rw [ec] at e2;have frA:Fr W1 H1 H4:=fr3.trans fr4 sub2';have sA:ac (hid (W2++F.Z) H2) (hid (W4++F.Z) H4):=ac.trans (aR (fun b hb=> .inl hb) fun b o _ e=>s3 b o e:ac (hid (W2++F.Z) H2) (hid (W2++F.Z) H3)) (fr4.hid fun p hp=> .inl (sub4 p hp))
        cases b with
        | false =>
         dsimp only at e2;rw [if_neg Bo];exact ⟨_,by omega,rfl,hlt,ρ4.take σ.length,W4,acc,_,R4.cut tk l4,frA,fun p hp=>sub2 p (sub4 p hp),sA.repDs rp,by omega,by rw [lenσ2];exact e2,et⟩
        | true =>
         dsimp only at e2;rw [if_pos rfl];refine ⟨F,ρ4,W4,R4,?_⟩
         cases ef:f ρ4 with
         | none=>rw [ef] at e2;cases e2
         | some q =>
          obtain ⟨q,ρ5⟩:=q;rw [ef] at e2
          cases q with
          | ex C=>cases e2
          | ok y nw =>
           dsimp only at e2
           cases e3:bK k T c f (ds.drop (i+1)) (ρ5.take ρ2.length) with
           | none=>rw [e3] at e2;cases e2
           | some z =>
            obtain ⟨rest',ρe'⟩:=z;rw [e3] at e2;cases e2;intro v H5 W5 fr5 sub5 P5;obtain ⟨rv,R5⟩:=P5.plain;refine ⟨_,by omega,rfl,hlt,ρ5.take σ.length,W5,acc++[y],rest',R5.cut tk l4,frA.trans fr5 fun p hp=> .inl (sub2 p (sub4 p hp)),fun p hp=>sub2 p (sub4 p (sub5 p hp)),ai.app ((fr5.hid fun p hp=> .inl (sub5 p hp)).repDs (sA.repDs rp)) ⟨rv,trivial⟩,?_,by rw [lenσ2];exact e3,?_⟩
            ·rw [Bz];simp;omega
            ·rw [<- et,C6];rfl
       cases c with
       | none=>exact rest true ρ3 rfl H3 W2 .refl (fun _ z=>z) R4
       | some c =>
        refine ⟨F,ρ3,W2,R4,?_⟩;have e2':=e2;unfold evC at e2';dsimp only at e2'
        cases ec:c ρ3 with
        | none=>rw [ec] at e2';cases e2'
        | some q =>
         obtain ⟨q,ρ4⟩:=q
         cases q with
         | ex C=>rw [ec] at e2';cases e2'
         | ok b=>exact fun H4 W4 fr4 sub4 R4=>rest b ρ4 ec H4 W4 fr4 sub4 R4
     ·have e:i=ds.length:=by omega
      subst e;rw [List.drop_length] at e2;have e2:some (([]:List D),ρ2)=some (rest,ρe):=e2;cases e2;rw [BZ] at et;subst et;refine .inl ⟨ok.stop H2 ((fr2.hid sub2').trans aB),fun l hl=> ?_⟩;refine h (.ref l) _ W2 ((fr1.trans fr2 fun p hp=> .inl (sub1 p hp)).trans ((ac.upd hl).fr (W:=W2)) fun p hp=> .inl (sub1 p (sub2 p hp))) (fun p hp=>sub1 p (sub2 p hp)) ?_
      refine fm.back (gc.e (nw:=true) ⟨l,rfl,hl,ys,am,?_⟩ R2 (ac.upd hl)) fun b hb=>fr1.dom b (fr2.dom b hb)
      exact (aR (fun b hb=>(Bp.mp hb).elim (fun z=> .inr (by rw [z];exact hl)) .inl) fun b o _ e=>ac.upd hl b o e:ac (hid (W2++F.Z) H2) _).repDs rp
   ·exact fun h=>h.elim
end
inductive JC(X:Cx):List Expr->Option ST->Prop where
 | no:JC X [] none
 | one {c:Expr} {t:ST} (h:JT X EXn c t):JC X [c] (some t)
theorem JC.p{X:Cx}{ifs:List Expr}{c:Option ST}(h:JC X ifs c):vm X ifs (tIfC X.K c):=by
 cases h with
 | no=>exact pif0
 | one h=>exact pif1 h.p
section
variable{X:Cx}{EX:EXT}{elt tg iter:Expr}{ifs:List Expr}{sc:Scope}{M tgs:List Str}{pos:Pos}{it:SI}{T:Tg}{c:Option ST}{f:SE}
theorem ia(hc:X.calm=true)(B:ma X sc M tgs)(hi:JI X EX tg iter it)(hg:∀ cl C fp s H,JG (blk X sc cl C fp s H (M++tgs)) tg T)(ht:∀ cl C fp s H,JC (blk X sc cl C fp s H (M++tgs)) ifs c)(he:∀ cl C fp s H,JE (blk X sc cl C fp s H (M++tgs)) EXn elt f)
 (hs:∀ x,foldedSetIterable iter X.env x=pure x:=by intro _;rfl):JE X EX (.ListComp elt [⟨tg,iter,ifs,0⟩] sc pos) (ce tgs.length it T c f) :=
 ⟨(za hc B hi.p (fun cl C fp s H=>(hg cl C fp s H).p) (fun cl C fp s H=>(ht cl C fp s H).p) (fun cl C fp s H=>(he cl C fp s H).p) hs).by fun σ H Q h=>tW h⟩
theorem uc{j:Nat}{y:Str}{py spos:Pos}(hc:X.calm=true)(B:ma X sc M tgs)(hi:JI X EX tg iter it)(hg:∀ cl C fp s H,JG (blk X sc cl C fp s H (M++tgs)) tg T)(ht:∀ cl C fp s H,JC (blk X sc cl C fp s H (M++tgs)) ifs c)(he:∀ cl C fp s H,JE (blk X sc cl C fp s H (M++tgs)) EXn elt f)
 (hN:X.N.Nodup) (hjy:X.N[j]?=some y) (hy:X.env.scope.names.lookup y=some .local) (hsw:swapsWith (.ListComp elt [⟨tg,iter,ifs,0⟩] sc pos) (some (.Name y py)) spos.line X.env=pure true:=by rfl)
 (hs:∀ x,foldedSetIterable iter X.env x=pure x:=by intro _;rfl):JS X EX (.Assign [.Name y py] (.ListComp elt [⟨tg,iter,ifs,0⟩] sc pos) spos) (bc j (ce tgs.length it T c f)) :=
 ⟨(qY hc B hi.p (fun cl C fp s H=>(hg cl C fp s H).p) (fun cl C fp s H=>(ht cl C fp s H).p) (fun cl C fp s H=>(he cl C fp s H).p) hN hjy hy hsw hs).by fun D σ H h=>tW (xP h)⟩
end
mutual
def nrm:D->D
 | .ktup ds=> .tup (cf ds)
 | .tup ds=> .tup (cf ds)
 | .klst ds=> .lst (cf ds)
 | .lst ds=> .lst (cf ds)
 | d=>d
def cf:List D->List D
 | []=>[]
 | d::ds=>nrm d::cf ds
end
mutual
def eqN:D->D->Bool
 | .non,.non=>true
 | .bl a,.bl b=>a == b
 | .bl a,.int b=>(if a then 1 else 0) == b
 | .int a,.bl b=>a == (if b then 1 else 0)
 | .int a,.int b=>a == b
 | .str a,.str b=>a == b
 | .tup a,.tup b=>e7 a b
 | .lst a,.lst b=>e7 a b
 | _,_=>false
def e7:List D->List D->Bool
 | [],[]=>true
 | a::as,b::bs=>eqN a b&&e7 as bs
 | _,_=>false
end
def eqD(d e:D):Bool:=eqN (nrm d) (nrm e)
def af:Nat->D->Bool
 | _,.non=>true
 | _,.bl _=>true
 | _,.int _=>true
 | _,.str _=>true
 | n+1,.tup ds=>ds.all (af n)
 | n+1,.ktup ds=>ds.all (af n)
 | n+1,.lst ds=>ds.all (af n)
 | n+1,.klst ds=>ds.all (af n)
 | _,_=>false
theorem kR:∀ {ds:List D},(cf ds).length=ds.length
 | []=>rfl
 | _::ds=>by unfold cf;rw [Bj,Bj,kR]
theorem dJ:∀ {ds:List D} {j:Nat},(cf ds)[j]?=ds[j]?.map nrm
 | [],j=>by unfold cf;simp
 | d::ds,0=>by unfold cf;simp
 | d::ds,j+1=>by unfold cf;simp;exact dJ
theorem lM:∀ {as bs:List D},e7 as bs=((List.range (min as.length bs.length)).all (fun j=>match as[j]?,bs[j]? with | some a,some b=>eqN a b | _,_=>true)&&as.length == bs.length)
 | [],[]=>rfl
 | [],b::bs=>by unfold e7;simp
 | a::as,[]=>by unfold e7;simp
 | a::as,b::bs=>by
  unfold e7;rw [lM (as:=as) (bs:=bs)]
  have e1:min (a::as).length (b::bs).length=min as.length bs.length+1:=by simp only [Bj];omega
  have e2:((a::as).length == (b::bs).length)=(as.length == bs.length):=by simp
  rw [e1,e2,List.range_succ_eq_map,Dj,List.all_map,Bool.and_assoc]
  congr 1
mutual
theorem lN:∀ (n:Nat) {d:D},af n d=true->eqN (nrm d) (nrm d)=true
 | n,.non,_=>rfl
 | n,.bl _,_=>by unfold nrm eqN;simp
 | n,.int _,_=>by unfold nrm eqN;simp
 | n,.str _,_=>by unfold nrm eqN;simp
 | n+1,.tup ds,h=>by unfold nrm eqN;exact eL n (by unfold af at h;exact h)
 | n+1,.ktup ds,h=>by unfold nrm eqN;exact eL n (by unfold af at h;exact h)
 | n+1,.lst ds,h=>by unfold nrm eqN;exact eL n (by unfold af at h;exact h)
 | n+1,.klst ds,h=>by unfold nrm eqN;exact eL n (by unfold af at h;exact h)
 | 0,.tup _,h=>by unfold af at h;cases h
 | 0,.ktup _,h=>by unfold af at h;cases h
 | 0,.lst _,h=>by unfold af at h;cases h
 | 0,.klst _,h=>by unfold af at h;cases h
 | _,.dK _ _,h=>by unfold af at h;cases h
 | _,.dT _ _,h=>by unfold af at h;cases h
 | _,.set _,h=>by unfold af at h;cases h
 | _,.rng _ _,h=>by unfold af at h;cases h
 | _,.exc _,h=>by unfold af at h;cases h
theorem eL:∀ (n:Nat) {ds:List D},ds.all (af n)=true->e7 (cf ds) (cf ds)=true
 | n,[],_=>rfl
 | n,d::ds,h=>by
  rw [Dj] at h;have h:=(By _ _).mp h;unfold cf e7;rw [lN n h.1,eL n h.2];rfl
end
section
variable{X:Cx}{pins:List (Addr×Obj)}{σ:St}{H:Hp}{s:Shared}
inductive Vw(K:Dy)(H:Hp)(s:Shared):Nat->D->V->Value->Prop where
 | non {n}:Vw K H s n .non .non .none
 | bl {n} (b:Bool):Vw K H s n (.bl b) (.bl b) (.bool b)
 | int {n} (i:Int) (t:Tok):Vw K H s n (.int i) (.int i) (.int i t)
 | str {n} (x:Str) (t:Tok):Vw K H s n (.str x) (.str x) (.str x t)
 | tu {n} {d:D} {ds:List D} {p:Addr} {xs:List V} {its:List Value} (hd:nrm d = .tup (cf ds)) (ht:s.heap.IsTuple p its.toArray) (hv:aA xs its) (hr:ai K H ds xs) (he:ds.all (af n)=true):Vw K H s (n+1) d (.ref p) (.ref p)
 | li {n} {d:D} {ds:List D} {p:Addr} {xs:List V} {its:List Value} (hd:nrm d = .lst (cf ds)) (ht:s.heap.IsList p its.toArray) (hv:aA xs its) (hr:ai K H ds xs) (he:ds.all (af n)=true):Vw K H s (n+1) d (.ref p) (.ref p)
theorem jj(I:Inv X pins σ H s){n:Nat}{d:D}{v:V}{u:Value}(he:af n d=true)(r:aI X.K H d v)(ru:az v u):Vw X.K H s n d v u:=by
 have z0:n=0\/∃ m,n=m+1:=by cases n with | zero=>exact .inl rfl | succ m=>exact .inr ⟨m,rfl⟩
 cases d with
 | non=>cases r;cases ru;exact .non
 | bl b=>cases r;cases ru;exact .bl b
 | int i=>cases r;obtain ⟨t,rfl⟩:=ru;exact .int i t
 | str x=>cases r;obtain ⟨t,rfl⟩:=ru;exact .str x t
 | tup ds =>
  obtain ⟨p,xs,rfl,h1,h2⟩:=r;cases ru
  rcases z0 with rfl | ⟨m,rfl⟩
  ·unfold af at he;cases he
  ·obtain ⟨its,rv,pl,_⟩:=I.tuple (X:=X) (.inl (.inl h1))
   exact .tu (by unfold nrm;rfl) pl rv h2 (by unfold af at he;exact he)
 | ktup ds =>
  obtain ⟨p,xs,rfl,h1,h2⟩:=r;cases ru
  rcases z0 with rfl | ⟨m,rfl⟩
  ·unfold af at he;cases he
  ·obtain ⟨its,rv,pl,_⟩:=I.tuple (X:=X) (dW h1)
   exact .tu (by unfold nrm;rfl) pl rv h2 (by unfold af at he;exact he)
 | lst ds =>
  obtain ⟨p,xs,rfl,h1,h2⟩:=r;cases ru
  rcases z0 with rfl | ⟨m,rfl⟩
  ·unfold af at he;cases he
  ·obtain ⟨its,rv,pl,_⟩:=I.list (X:=X) (.inl (.inl h1))
   exact .li (by unfold nrm;rfl) pl.isList rv h2 (by unfold af at he;exact he)
 | klst ds =>
  obtain ⟨p,xs,rfl,h1,h2⟩:=r;cases ru
  rcases z0 with rfl | ⟨m,rfl⟩
  ·unfold af at he;cases he
  ·obtain ⟨its,rv,pl,_⟩:=I.list h1
   exact .li (by unfold nrm;rfl) pl.isList rv h2 (by unfold af at he;exact he)
 | dK _ _=>unfold af at he;cases he
 | dT _ _=>unfold af at he;cases he
 | set _=>unfold af at he;cases he
 | rng _ _=>unfold af at he;cases he
 | exc _=>unfold af at he;cases he
theorem p7{p:Addr}{a b:List Value}(h1:s.heap.IsTuple p a.toArray)(h2:s.heap.IsTuple p b.toArray):a=b:=by
 obtain ⟨o,e1,_,n,d1⟩:=h1;obtain ⟨o2,e2,_,n2,d2⟩:=h2;rw [e1] at e2;cases e2;rw [d1] at d2;have:=(Data.seq.inj d2).1;simpa using congrArg Array.toList this
theorem rB{p:Addr}{a b:List Value}(h1:s.heap.IsList p a.toArray)(h2:s.heap.IsList p b.toArray):a=b:=by
 obtain ⟨o,e1,_,n,d1⟩:=h1;obtain ⟨o2,e2,_,n2,d2⟩:=h2;rw [e1] at e2;cases e2;rw [d1] at d2;have:=(Data.seq.inj d2).1;simpa using congrArg Array.toList this
theorem bh{xs:List V}{its:List Value}(r:aA xs its){j:Nat}(h:j < its.length):∃ x,xs[j]?=some x/\az x its[j]:=by
 have hx:j < xs.length:=by rw [r.length];exact h
 obtain ⟨u,e,ru⟩:=r.get (Bb hx);rw [Bb h] at e;cases e;exact ⟨_,Bb hx,ru⟩
theorem fF(I:Inv X pins σ H s):∀ (n m:Nat) {d e:D} {v:V} {u:Value},af n d=true->af m e=true->aI X.K H d v->aI X.K H e v->az v u->nrm d=nrm e
 | n,m,d,e,v,u,h1,h2,r1,r2,ru=>by
  have v1:=jj I h1 r1 ru;have v2:=jj I h2 r2 ru
  cases v1 with
  | non=>cases v2;rfl
  | bl b=>cases v2;rfl
  | int i t=>cases v2;rfl
  | str x t=>cases v2;rfl
  | @tu n _ ds p xs its hd ht hv hr he =>
   cases v2 with
   | @tu m _ es _ ys jts hd2 ht2 hv2 hr2 he2 =>
    have:=p7 ht ht2;subst this;have exy:xs=ys:=hv.inj hv2;subst exy;rw [hd,hd2]
    congr 1
    apply List.ext_getElem?;intro j;rw [dJ,dJ];have l1:=hr.len;have l2:=hr2.len
    by_cases hj:j < xs.length
    ·obtain ⟨d',e1,q1⟩:=hr.get' (Bb hj)
     obtain ⟨e',e2,q2⟩:=hr2.get' (Bb hj);rw [e1,e2]
     have hji:j < its.length:=by rw [<- hv.length];exact hj
     obtain ⟨x,ex,rx⟩:=bh hv hji;rw [Bb hj] at ex;cases ex;exact congrArg some (fF I n m (Bx.mp he _ (Bv e1)) (Bx.mp he2 _ (Bv e2)) q1 q2 rx)
    ·rw [C9 (by omega),C9 (by omega)]
   | li hd2 ht2 hv2 hr2 he2=>exact absurd rfl (SeqAt.ne_of_list_tuple ht2 ht)
  | @li n _ ds p xs its hd ht hv hr he =>
   cases v2 with
   | tu hd2 ht2 hv2 hr2 he2=>exact absurd rfl (SeqAt.ne_of_list_tuple ht ht2)
   | @li m _ es _ ys jts hd2 ht2 hv2 hr2 he2 =>
    have:=rB ht ht2;subst this;have exy:xs=ys:=hv.inj hv2;subst exy;rw [hd,hd2]
    congr 1
    apply List.ext_getElem?;intro j;rw [dJ,dJ];have l1:=hr.len;have l2:=hr2.len
    by_cases hj:j < xs.length
    ·obtain ⟨d',e1,q1⟩:=hr.get' (Bb hj)
     obtain ⟨e',e2,q2⟩:=hr2.get' (Bb hj);rw [e1,e2]
     have hji:j < its.length:=by rw [<- hv.length];exact hj
     obtain ⟨x,ex,rx⟩:=bh hv hji;rw [Bb hj] at ex;cases ex;exact congrArg some (fF I n m (Bx.mp he _ (Bv e1)) (Bx.mp he2 _ (Bv e2)) q1 q2 rx)
    ·rw [C9 (by omega),C9 (by omega)]
 termination_by n=>n
theorem jN{n:Nat}{f g:Nat->Bool}(h:∀ j,j < n->f j=g j):(List.range n).all f=(List.range n).all g:=by
 rw [Cz,Bx,Bx]
 constructor
 ·intro z x hx;rw [<- h x (BK.mp hx)];exact z x hx
 ·intro z x hx;rw [h x (BK.mp hx)];exact z x hx
def bI(ds es:List D)(j:Nat):Bool:=match ds[j]?,es[j]? with
 | some a,some b=>eqD a b
 | _,_=>true
theorem dj{ds es:List D}:e7 (cf ds) (cf es)=((List.range (min ds.length es.length)).all (bI ds es)&&ds.length == es.length):=by
 rw [lM,kR,kR]
 congr 1
 refine jN fun j hj=> ?_
 have h1:j < ds.length:=by omega
 have h2:j < es.length:=by omega
 rw [dJ,dJ];unfold bI eqD;rw [Bb h1,Bb h2];rfl
theorem rM(I:Inv X pins σ H s):∀ (n:Nat) {A:Around} {d e:D} {v v':V} {u w:Value},A.units+n < cLine->af n d=true->af n e=true->aI X.K H d v->aI X.K H e v'->az v u->az v' w->SeqAt.EqAt A s u w (eqD d e)
 | n,A,d,e,v,v',u,w,hu0,h1,h2,r1,r2,ru,rw'=>by
  have hu:A.units < cLine:=by omega
  have v1:=jj I h1 r1 ru;have v2:=jj I h2 r2 rw';unfold eqD
  cases v1 with
  | non =>
   cases v2 with
   | non=>exact SeqAt.EqAt.same _
   | bl b2=>exact SeqAt.EqAt.none_bool b2
   | int i2 t2=>exact SeqAt.EqAt.none_int i2 t2
   | str x2 t2=>exact SeqAt.EqAt.none_str x2 t2
   | tu hd2 ht2 hv2 hr2 he2=>rw [hd2];exact SeqAt.EqAt.none_tuple ht2 hu
   | li hd2 ht2 hv2 hr2 he2=>rw [hd2];exact SeqAt.EqAt.none_list ht2 hu
  | bl b1 =>
   cases v2 with
   | non=>exact SeqAt.EqAt.bool_none b1
   | bl b2=>exact SeqAt.EqAt.bool_bool b1 b2
   | int i2 t2=>exact SeqAt.EqAt.bool_int b1 i2 t2
   | str x2 t2=>exact SeqAt.EqAt.bool_str b1 x2 t2
   | tu hd2 ht2 hv2 hr2 he2=>rw [hd2];exact SeqAt.EqAt.bool_tuple b1 ht2 hu
   | li hd2 ht2 hv2 hr2 he2=>rw [hd2];exact SeqAt.EqAt.bool_list b1 ht2 hu
  | int i1 t1 =>
   cases v2 with
   | non=>exact SeqAt.EqAt.int_none i1 t1
   | bl b2=>exact SeqAt.EqAt.int_bool i1 t1 b2
   | int i2 t2=>exact SeqAt.EqAt.int_int i1 t1 i2 t2
   | str x2 t2=>exact SeqAt.EqAt.int_str i1 t1 x2 t2
   | tu hd2 ht2 hv2 hr2 he2=>rw [hd2];exact SeqAt.EqAt.int_tuple i1 t1 ht2 hu
   | li hd2 ht2 hv2 hr2 he2=>rw [hd2];exact SeqAt.EqAt.int_list i1 t1 ht2 hu
  | str x1 t1 =>
   cases v2 with
   | non=>exact SeqAt.EqAt.str_none x1 t1
   | bl b2=>exact SeqAt.EqAt.str_bool x1 t1 b2
   | int i2 t2=>exact SeqAt.EqAt.str_int x1 t1 i2 t2
   | str x2 t2=>exact SeqAt.EqAt.str_str x1 t1 x2 t2
   | tu hd2 ht2 hv2 hr2 he2=>rw [hd2];exact SeqAt.EqAt.str_tuple x1 t1 ht2 hu
   | li hd2 ht2 hv2 hr2 he2=>rw [hd2];exact SeqAt.EqAt.str_list x1 t1 ht2 hu
  | @tu n _ ds p xs its hd ht hv hr he =>
   cases v2 with
   | non=>rw [hd];exact SeqAt.EqAt.tuple_none ht hu
   | bl b2=>rw [hd];exact SeqAt.EqAt.tuple_bool b2 ht hu
   | int i2 t2=>rw [hd];exact SeqAt.EqAt.tuple_int i2 t2 ht hu
   | str x2 t2=>rw [hd];exact SeqAt.EqAt.tuple_str x2 t2 ht hu
   | @tu _ _ es q ys jts hd2 ht2 hv2 hr2 he2 =>
    by_cases epq:p=q
    ·subst epq
     have z:nrm d=nrm e:=fF I (n+1) (n+1) h1 h2 r1 r2 rfl;rw [<- z,lN (n+1) h1];exact SeqAt.EqAt.same _
    ·refine SeqAt.EqAt.of_refs epq ?_
     have hhe:∀ j (h1:j < its.toArray.size) (h2:j < jts.toArray.size),SeqAt.EqAt A.in1 s its.toArray[j] jts.toArray[j] (bI ds es j):=fun j h1 h2=>by
      have h1':j < its.length:=by simpa using h1
      have h2':j < jts.length:=by simpa using h2
      obtain ⟨x,ex,rx⟩:=bh hv h1';obtain ⟨y,ey,ry⟩:=bh hv2 h2';obtain ⟨d',e1,q1⟩:=hr.get' ex;obtain ⟨e',e2,q2⟩:=hr2.get' ey;have z:=rM I n (A:=A.in1) (by show A.units+1+n < cLine;omega) (Bx.mp he _ (Bv e1)) (Bx.mp he2 _ (Bv e2)) q1 q2 rx ry
      have e3:bI ds es j=eqD d' e':=by unfold bI;rw [e1,e2]
      rw [e3];simpa using z
     have l1:its.toArray.size=ds.length:=by rw [Bh,<- hv.length,<- hr.len]
     have l2:jts.toArray.size=es.length:=by rw [Bh,<- hv2.length,<- hr2.len]
     have z:=SeqAt.RcAt.tuples ht ht2 hu hhe;rw [l1,l2] at z;rw [hd,hd2]
     show SeqAt.RcAt A s (.ref p) (.ref q) ((e7 (cf ds) (cf es)))
     rw [dj];exact z
   | li hd2 ht2 hv2 hr2 he2=>rw [hd,hd2];exact SeqAt.EqAt.tuple_list ht ht2 hu
  | @li n _ ds p xs its hd ht hv hr he =>
   cases v2 with
   | non=>rw [hd];exact SeqAt.EqAt.list_none ht hu
   | bl b2=>rw [hd];exact SeqAt.EqAt.list_bool b2 ht hu
   | int i2 t2=>rw [hd];exact SeqAt.EqAt.list_int i2 t2 ht hu
   | str x2 t2=>rw [hd];exact SeqAt.EqAt.list_str x2 t2 ht hu
   | tu hd2 ht2 hv2 hr2 he2=>rw [hd,hd2];exact SeqAt.EqAt.list_tuple ht ht2 hu
   | @li _ _ es q ys jts hd2 ht2 hv2 hr2 he2 =>
    by_cases epq:p=q
    ·subst epq
     have z:nrm d=nrm e:=fF I (n+1) (n+1) h1 h2 r1 r2 rfl;rw [<- z,lN (n+1) h1];exact SeqAt.EqAt.same _
    ·refine SeqAt.EqAt.of_refs epq ?_
     have hhe:∀ j (h1:j < its.toArray.size) (h2:j < jts.toArray.size),SeqAt.EqAt A.in1 s its.toArray[j] jts.toArray[j] (bI ds es j):=fun j h1 h2=>by
      have h1':j < its.length:=by simpa using h1
      have h2':j < jts.length:=by simpa using h2
      obtain ⟨x,ex,rx⟩:=bh hv h1';obtain ⟨y,ey,ry⟩:=bh hv2 h2';obtain ⟨d',e1,q1⟩:=hr.get' ex;obtain ⟨e',e2,q2⟩:=hr2.get' ey;have z:=rM I n (A:=A.in1) (by show A.units+1+n < cLine;omega) (Bx.mp he _ (Bv e1)) (Bx.mp he2 _ (Bv e2)) q1 q2 rx ry
      have e3:bI ds es j=eqD d' e':=by unfold bI;rw [e1,e2]
      rw [e3];simpa using z
     have l1:its.toArray.size=ds.length:=by rw [Bh,<- hv.length,<- hr.len]
     have l2:jts.toArray.size=es.length:=by rw [Bh,<- hv2.length,<- hr2.len]
     rw [hd,hd2]
     show SeqAt.RcAt A s (.ref p) (.ref q) ((e7 (cf ds) (cf es)))
     by_cases hl:ds.length=es.length
     ·have z:=SeqAt.RcAt.lists ht ht2 (by rw [l1,l2];exact hl) hu hhe
      rw [l1] at z;rw [dj,<- hl,CL,beq_self_eq_true,CF];exact z
     ·have z:=SeqAt.RcAt.lists_lengths ht ht2 (by rw [l1,l2];simpa using hl) hu
      rw [dj,CC.mpr hl,BS];exact z
 termination_by n=>n
theorem rcAt(I:Inv X pins σ H s)(n:Nat){A:Around}{d e:D}{v v':V}{u w:Value}(hu0:A.units+n < cLine)(h1:af n d=true)(h2:af n e=true)(r1:aI X.K H d v)(r2:aI X.K H e v')(ru:az v u)(rw':az v' w):SeqAt.RcAt A s u w (eqD d e):=by
 have hu:A.units < cLine:=by omega
 have v1:=jj I h1 r1 ru;have v2:=jj I h2 r2 rw';unfold eqD
 cases v1 with
 | non =>
  cases v2 with
  | non=>exact SeqAt.RcAt.none_none
  | bl b2=>exact SeqAt.RcAt.none_bool b2
  | int i2 t2=>exact SeqAt.RcAt.none_int i2 t2
  | str x2 t2=>exact SeqAt.RcAt.none_str x2 t2
  | tu hd2 ht2 hv2 hr2 he2=>rw [hd2];exact SeqAt.RcAt.none_tuple ht2 hu
  | li hd2 ht2 hv2 hr2 he2=>rw [hd2];exact SeqAt.RcAt.none_list ht2 hu
 | bl b1 =>
  cases v2 with
  | non=>exact SeqAt.RcAt.bool_none b1
  | bl b2=>exact SeqAt.RcAt.bool_bool b1 b2
  | int i2 t2=>exact SeqAt.RcAt.bool_int b1 i2 t2
  | str x2 t2=>exact SeqAt.RcAt.bool_str b1 x2 t2
  | tu hd2 ht2 hv2 hr2 he2=>rw [hd2];exact SeqAt.RcAt.bool_tuple b1 ht2 hu
  | li hd2 ht2 hv2 hr2 he2=>rw [hd2];exact SeqAt.RcAt.bool_list b1 ht2 hu
 | int i1 t1 =>
  cases v2 with
  | non=>exact SeqAt.RcAt.int_none i1 t1
  | bl b2=>exact SeqAt.RcAt.int_bool i1 t1 b2
  | int i2 t2=>exact SeqAt.RcAt.int_int i1 t1 i2 t2
  | str x2 t2=>exact SeqAt.RcAt.int_str i1 t1 x2 t2
  | tu hd2 ht2 hv2 hr2 he2=>rw [hd2];exact SeqAt.RcAt.int_tuple i1 t1 ht2 hu
  | li hd2 ht2 hv2 hr2 he2=>rw [hd2];exact SeqAt.RcAt.int_list i1 t1 ht2 hu
 | str x1 t1 =>
  cases v2 with
  | non=>exact SeqAt.RcAt.str_none x1 t1
  | bl b2=>exact SeqAt.RcAt.str_bool x1 t1 b2
  | int i2 t2=>exact SeqAt.RcAt.str_int x1 t1 i2 t2
  | str x2 t2=>exact SeqAt.RcAt.str_str x1 t1 x2 t2
  | tu hd2 ht2 hv2 hr2 he2=>rw [hd2];exact SeqAt.RcAt.str_tuple x1 t1 ht2 hu
  | li hd2 ht2 hv2 hr2 he2=>rw [hd2];exact SeqAt.RcAt.str_list x1 t1 ht2 hu
 | @tu n _ ds p xs its hd ht hv hr he =>
  cases v2 with
  | non=>rw [hd];exact SeqAt.RcAt.tuple_none ht hu
  | bl b2=>rw [hd];exact SeqAt.RcAt.tuple_bool b2 ht hu
  | int i2 t2=>rw [hd];exact SeqAt.RcAt.tuple_int i2 t2 ht hu
  | str x2 t2=>rw [hd];exact SeqAt.RcAt.tuple_str x2 t2 ht hu
  | @tu _ _ es q ys jts hd2 ht2 hv2 hr2 he2 =>
   have hhe:∀ j (h1:j < its.toArray.size) (h2:j < jts.toArray.size),SeqAt.EqAt A.in1 s its.toArray[j] jts.toArray[j] (bI ds es j):=fun j h1 h2=>by
    have h1':j < its.length:=by simpa using h1
    have h2':j < jts.length:=by simpa using h2
    obtain ⟨x,ex,rx⟩:=bh hv h1';obtain ⟨y,ey,ry⟩:=bh hv2 h2';obtain ⟨d',e1,q1⟩:=hr.get' ex;obtain ⟨e',e2,q2⟩:=hr2.get' ey;have z:=rM I n (A:=A.in1) (by show A.units+1+n < cLine;omega) (Bx.mp he _ (Bv e1)) (Bx.mp he2 _ (Bv e2)) q1 q2 rx ry
    have e3:bI ds es j=eqD d' e':=by unfold bI;rw [e1,e2]
    rw [e3];simpa using z
   have l1:its.toArray.size=ds.length:=by rw [Bh,<- hv.length,<- hr.len]
   have l2:jts.toArray.size=es.length:=by rw [Bh,<- hv2.length,<- hr2.len]
   have z:=SeqAt.RcAt.tuples ht ht2 hu hhe;rw [l1,l2] at z;rw [hd,hd2]
   show SeqAt.RcAt A s (.ref p) (.ref q) ((e7 (cf ds) (cf es)))
   rw [dj];exact z
  | li hd2 ht2 hv2 hr2 he2=>rw [hd,hd2];exact SeqAt.RcAt.tuple_list ht ht2 hu
 | @li n _ ds p xs its hd ht hv hr he =>
  cases v2 with
  | non=>rw [hd];exact SeqAt.RcAt.list_none ht hu
  | bl b2=>rw [hd];exact SeqAt.RcAt.list_bool b2 ht hu
  | int i2 t2=>rw [hd];exact SeqAt.RcAt.list_int i2 t2 ht hu
  | str x2 t2=>rw [hd];exact SeqAt.RcAt.list_str x2 t2 ht hu
  | tu hd2 ht2 hv2 hr2 he2=>rw [hd,hd2];exact SeqAt.RcAt.list_tuple ht ht2 hu
  | @li _ _ es q ys jts hd2 ht2 hv2 hr2 he2 =>
   have hhe:∀ j (h1:j < its.toArray.size) (h2:j < jts.toArray.size),SeqAt.EqAt A.in1 s its.toArray[j] jts.toArray[j] (bI ds es j):=fun j h1 h2=>by
    have h1':j < its.length:=by simpa using h1
    have h2':j < jts.length:=by simpa using h2
    obtain ⟨x,ex,rx⟩:=bh hv h1';obtain ⟨y,ey,ry⟩:=bh hv2 h2';obtain ⟨d',e1,q1⟩:=hr.get' ex;obtain ⟨e',e2,q2⟩:=hr2.get' ey;have z:=rM I n (A:=A.in1) (by show A.units+1+n < cLine;omega) (Bx.mp he _ (Bv e1)) (Bx.mp he2 _ (Bv e2)) q1 q2 rx ry
    have e3:bI ds es j=eqD d' e':=by unfold bI;rw [e1,e2]
    rw [e3];simpa using z
   have l1:its.toArray.size=ds.length:=by rw [Bh,<- hv.length,<- hr.len]
   have l2:jts.toArray.size=es.length:=by rw [Bh,<- hv2.length,<- hr2.len]
   rw [hd,hd2]
   show SeqAt.RcAt A s (.ref p) (.ref q) ((e7 (cf ds) (cf es)))
   by_cases hl:ds.length=es.length
   ·have z:=SeqAt.RcAt.lists ht ht2 (by rw [l1,l2];exact hl) hu hhe
    rw [l1] at z;rw [dj,<- hl,CL,beq_self_eq_true,CF];exact z
   ·have z:=SeqAt.RcAt.lists_lengths ht ht2 (by rw [l1,l2];simpa using hl) hu
    rw [dj,CC.mpr hl,BS];exact z
theorem neAt(I:Inv X pins σ H s)(n:Nat){A:Around}{d e:D}{v v':V}{u w:Value}(hu0:A.units+n < cLine)(h1:af n d=true)(h2:af n e=true)(r1:aI X.K H d v)(r2:aI X.K H e v')(ru:az v u)(rw':az v' w):SeqAt.RcNeAt A s u w (!(eqD d e)):=by
 have hu:A.units < cLine:=by omega
 have v1:=jj I h1 r1 ru;have v2:=jj I h2 r2 rw';unfold eqD
 cases v1 with
 | non =>
  cases v2 with
  | non=>exact SeqAt.RcNeAt.none_none
  | bl b2=>exact SeqAt.RcNeAt.none_bool b2
  | int i2 t2=>exact SeqAt.RcNeAt.none_int i2 t2
  | str x2 t2=>exact SeqAt.RcNeAt.none_str x2 t2
  | tu hd2 ht2 hv2 hr2 he2=>rw [hd2];exact SeqAt.RcNeAt.none_tuple ht2 hu
  | li hd2 ht2 hv2 hr2 he2=>rw [hd2];exact SeqAt.RcNeAt.none_list ht2 hu
 | bl b1 =>
  cases v2 with
  | non=>exact SeqAt.RcNeAt.bool_none b1
  | bl b2=>exact SeqAt.RcNeAt.bool_bool b1 b2
  | int i2 t2=>exact SeqAt.RcNeAt.bool_int b1 i2 t2
  | str x2 t2=>exact SeqAt.RcNeAt.bool_str b1 x2 t2
  | tu hd2 ht2 hv2 hr2 he2=>rw [hd2];exact SeqAt.RcNeAt.bool_tuple b1 ht2 hu
  | li hd2 ht2 hv2 hr2 he2=>rw [hd2];exact SeqAt.RcNeAt.bool_list b1 ht2 hu
 | int i1 t1 =>
  cases v2 with
  | non=>exact SeqAt.RcNeAt.int_none i1 t1
  | bl b2=>exact SeqAt.RcNeAt.int_bool i1 t1 b2
  | int i2 t2=>exact SeqAt.RcNeAt.int_int i1 t1 i2 t2
  | str x2 t2=>exact SeqAt.RcNeAt.int_str i1 t1 x2 t2
  | tu hd2 ht2 hv2 hr2 he2=>rw [hd2];exact SeqAt.RcNeAt.int_tuple i1 t1 ht2 hu
  | li hd2 ht2 hv2 hr2 he2=>rw [hd2];exact SeqAt.RcNeAt.int_list i1 t1 ht2 hu
 | str x1 t1 =>
  cases v2 with
  | non=>exact SeqAt.RcNeAt.str_none x1 t1
  | bl b2=>exact SeqAt.RcNeAt.str_bool x1 t1 b2
  | int i2 t2=>exact SeqAt.RcNeAt.str_int x1 t1 i2 t2
  | str x2 t2=>exact SeqAt.RcNeAt.str_str x1 t1 x2 t2
  | tu hd2 ht2 hv2 hr2 he2=>rw [hd2];exact SeqAt.RcNeAt.str_tuple x1 t1 ht2 hu
  | li hd2 ht2 hv2 hr2 he2=>rw [hd2];exact SeqAt.RcNeAt.str_list x1 t1 ht2 hu
 | @tu n _ ds p xs its hd ht hv hr he =>
  cases v2 with
  | non=>rw [hd];exact SeqAt.RcNeAt.tuple_none ht hu
  | bl b2=>rw [hd];exact SeqAt.RcNeAt.tuple_bool b2 ht hu
  | int i2 t2=>rw [hd];exact SeqAt.RcNeAt.tuple_int i2 t2 ht hu
  | str x2 t2=>rw [hd];exact SeqAt.RcNeAt.tuple_str x2 t2 ht hu
  | @tu _ _ es q ys jts hd2 ht2 hv2 hr2 he2 =>
   have hhe:∀ j (h1:j < its.toArray.size) (h2:j < jts.toArray.size),SeqAt.EqAt A.in1 s its.toArray[j] jts.toArray[j] (bI ds es j):=fun j h1 h2=>by
    have h1':j < its.length:=by simpa using h1
    have h2':j < jts.length:=by simpa using h2
    obtain ⟨x,ex,rx⟩:=bh hv h1';obtain ⟨y,ey,ry⟩:=bh hv2 h2';obtain ⟨d',e1,q1⟩:=hr.get' ex;obtain ⟨e',e2,q2⟩:=hr2.get' ey;have z:=rM I n (A:=A.in1) (by show A.units+1+n < cLine;omega) (Bx.mp he _ (Bv e1)) (Bx.mp he2 _ (Bv e2)) q1 q2 rx ry
    have e3:bI ds es j=eqD d' e':=by unfold bI;rw [e1,e2]
    rw [e3];simpa using z
   have l1:its.toArray.size=ds.length:=by rw [Bh,<- hv.length,<- hr.len]
   have l2:jts.toArray.size=es.length:=by rw [Bh,<- hv2.length,<- hr2.len]
   have z:=SeqAt.RcNeAt.tuples ht ht2 hu hhe;rw [l1,l2] at z;rw [hd,hd2]
   show SeqAt.RcNeAt A s (.ref p) (.ref q) (!(e7 (cf ds) (cf es)))
   rw [dj];exact z
  | li hd2 ht2 hv2 hr2 he2=>rw [hd,hd2];exact SeqAt.RcNeAt.tuple_list ht ht2 hu
 | @li n _ ds p xs its hd ht hv hr he =>
  cases v2 with
  | non=>rw [hd];exact SeqAt.RcNeAt.list_none ht hu
  | bl b2=>rw [hd];exact SeqAt.RcNeAt.list_bool b2 ht hu
  | int i2 t2=>rw [hd];exact SeqAt.RcNeAt.list_int i2 t2 ht hu
  | str x2 t2=>rw [hd];exact SeqAt.RcNeAt.list_str x2 t2 ht hu
  | tu hd2 ht2 hv2 hr2 he2=>rw [hd,hd2];exact SeqAt.RcNeAt.list_tuple ht ht2 hu
  | @li _ _ es q ys jts hd2 ht2 hv2 hr2 he2 =>
   have hhe:∀ j (h1:j < its.toArray.size) (h2:j < jts.toArray.size),SeqAt.EqAt A.in1 s its.toArray[j] jts.toArray[j] (bI ds es j):=fun j h1 h2=>by
    have h1':j < its.length:=by simpa using h1
    have h2':j < jts.length:=by simpa using h2
    obtain ⟨x,ex,rx⟩:=bh hv h1';obtain ⟨y,ey,ry⟩:=bh hv2 h2';obtain ⟨d',e1,q1⟩:=hr.get' ex;obtain ⟨e',e2,q2⟩:=hr2.get' ey;have z:=rM I n (A:=A.in1) (by show A.units+1+n < cLine;omega) (Bx.mp he _ (Bv e1)) (Bx.mp he2 _ (Bv e2)) q1 q2 rx ry
    have e3:bI ds es j=eqD d' e':=by unfold bI;rw [e1,e2]
    rw [e3];simpa using z
   have l1:its.toArray.size=ds.length:=by rw [Bh,<- hv.length,<- hr.len]
   have l2:jts.toArray.size=es.length:=by rw [Bh,<- hv2.length,<- hr2.len]
   rw [hd,hd2]
   show SeqAt.RcNeAt A s (.ref p) (.ref q) (!(e7 (cf ds) (cf es)))
   by_cases hl:ds.length=es.length
   ·have z:=SeqAt.RcNeAt.lists ht ht2 (by rw [l1,l2];exact hl) hu hhe
    rw [l1] at z;rw [dj,<- hl,CL,beq_self_eq_true,CF];exact z
   ·have z:=SeqAt.RcNeAt.lists_lengths ht ht2 (by rw [l1,l2];simpa using hl) hu
    rw [dj,CC.mpr hl,BS];exact z
end
def gEq:List D->Option (D×Bool)
 | [d,e]=>if (af 9 d&&af 9 e)=true then some (.bl (eqD d e),false) else none
 | _=>none
def gNe:List D->Option (D×Bool)
 | [d,e]=>if (af 9 d&&af 9 e)=true then some (.bl (!(eqD d e)),false) else none
 | _=>none
def rEqD(K:Dy):R2:=fun x y H Q=>∃ d e,af 9 d=true/\af 9 e=true/\aI K H d x/\aI K H e y/\Q (.bl (eqD d e)) H
def rNeD(K:Dy):R2:=fun x y H Q=>∃ d e,af 9 d=true/\af 9 e=true/\aI K H d x/\aI K H e y/\Q (.bl (!(eqD d e))) H
section
variable{X:Cx}
theorem wC(hu:X.A.units+9 < cLine):OpR X (compareOp .Eq) (rEqD X.K):=by
 intro pins s σ H x y v u Q I rx ry h;obtain ⟨d,e,h1,h2,r1,r2,q⟩:=h;exact rcAt I 9 hu h1 h2 r1 r2 rx ry _ _ _ _ ⟨.bl _,H,I,rfl,q⟩
theorem wA(hu:X.A.units+9 < cLine):OpR X (compareOp .NotEq) (rNeD X.K):=by
 intro pins s σ H x y v u Q I rx ry h;obtain ⟨d,e,h1,h2,r1,r2,q⟩:=h;exact neAt I 9 hu h1 h2 r1 r2 rx ry _ _ _ _ ⟨.bl _,H,I,rfl,q⟩
end
theorem aV{K:Dy}{H Hh:Hp}{a b:D}{vs:List V}(h:jK K H Hh [a,b] vs):∃ x y,vs=[x,y]/\fo K H Hh a x/\fo K H Hh b y:=by
 match vs,h with
 | [x,y],h=>exact ⟨x,y,rfl,h.1,h.2.1⟩
theorem aN{K:Dy}{H Hh:Hp}{a:D}{vs:List V}(h:jK K H Hh [a] vs):∃ x,vs=[x]/\fo K H Hh a x:=by
 match vs,h with
 | [x],h=>exact ⟨x,rfl,h.1⟩
theorem AT{K:Dy}:OpS K (r2 (rEqD K)) gEq:=by
 intro vs ds H L Q d nw hm r e q
 match ds,e with
 | [a,b],e =>
  obtain ⟨x,y,rfl,ra,rb⟩:=aV r;have e:(if (af 9 a&&af 9 b)=true then some (D.bl (eqD a b),false) else none)=some (d,nw):=e
  split at e
  ·rename_i hc
   have hc:=(By _ _).mp hc;cases e;exact ⟨a,b,hc.1,hc.2,ra.d aB,rb.d aB,q _ H (ac.refl _) rfl⟩
  ·cases e
theorem AR{K:Dy}:OpS K (r2 (rNeD K)) gNe:=by
 intro vs ds H L Q d nw hm r e q
 match ds,e with
 | [a,b],e =>
  obtain ⟨x,y,rfl,ra,rb⟩:=aV r;have e:(if (af 9 a&&af 9 b)=true then some (D.bl (!(eqD a b)),false) else none)=some (d,nw):=e
  split at e
  ·rename_i hc
   have hc:=(By _ _).mp hc;cases e;exact ⟨a,b,hc.1,hc.2,ra.d aB,rb.d aB,q _ H (ac.refl _) rfl⟩
  ·cases e
section
variable{X:Cx}
def v4:R2:=fun x y H Q=>∃ a b xs ys,x = .ref a/\y = .ref b/\H a=some (.tup xs)/\H b=some (.tup ys)/\xs.length+ys.length<=sizeLine /\
 ∀ p H',H' p=some (.tup (xs++ys))->ac H H'->Q (.ref p) H'
theorem zn:OpR X (binaryOp .Add) v4:=by
 intro pins s σ H x y v u Q I rx ry h;obtain ⟨a,b,xs,ys,rfl,rfl,ha,hb,hz,q⟩:=h
 by_cases hx:xs=[]
 ·subst hx
  cases rx;cases ry;obtain ⟨its,r1,p1,_⟩:=I.tuple (X:=X) (.inl (.inl ha));obtain ⟨its2,r2,p2,_⟩:=I.tuple (X:=X) (.inl (.inl hb));cases r1;exact Af p1 p2 ⟨.ref b,H,I,rfl,q b H hb (ac.refl H)⟩
 ·refine zm pins s σ H _ _ v u Q I rx ry ⟨a,b,xs,ys,rfl,rfl,.inl (.inl ha),.inl (.inl hb),hx,hz,fun e=> ?_,fun e p hp=> ?_⟩
  ·subst e
   exact q a H (by rw [BZ];exact ha) (ac.refl H)
  ·exact q p _ am fun c o e'=>by rw [ak (au e' hp)];exact e'
def rSlD:RSl:=fun x lo hi H Q=>∃ a xs,x = .ref a/\H a=some (.tup xs)/\∀ p H',H' p=some (.tup (lP xs lo hi))->ac H H'->Q (.ref p) H'
theorem yn:SlR X rSlD:=by
 intro pins s σ H x v vl vu lo hi sl Q I rx hs pl pu h;obtain ⟨a,xs,rfl,hx,q⟩:=h
 by_cases hw:HT.sIx xs.length 0 lo=0/\HT.sIx xs.length xs.length hi=xs.length
 ·cases rx
  obtain ⟨its,r,ht,hz⟩:=I.tuple (X:=X) (.inl (.inl hx))
  have hlen:its.toArray.size=xs.length:=by rw [Bh];exact r.length.symm
  refine ⟨"tuple",_,PyProof.Rows.slot_tuple_getitem.lookup,ht.typeIs,?_⟩;refine HT.gE ht hs pl pu (by rw [hlen];exact hw) ⟨.ref a,H,I,rfl,q a H ?_ (ac.refl H)⟩
  have:lP xs lo hi=xs:=by
   unfold lP;rw [hw.1,hw.2,List.drop_zero,Nat.sub_zero,List.take_length]
  rw [this];exact hx
 ·exact sl_tup pins s σ H _ v vl vu lo hi sl Q I rx hs pl pu ⟨a,xs,rfl,.inl (.inl hx),hw,fun p hp=>q p _ am (ac.upd hp)⟩
end
def small(n:Nat):Bool:=decide (n<=1000000)
theorem eB{n:Nat}(h:small n=true):n<=sizeLine:=Nat.le_trans (Bt h) (by decide)
theorem pp{n:Nat}(h:small n=true):n < sizeLine:=Nat.lt_of_le_of_lt (Bt h) (by decide)
def jg(xs:List D)(lo hi:Option Int):List D:=(xs.drop (HT.sIx xs.length 0 lo)).take (HT.sIx xs.length xs.length hi - HT.sIx xs.length 0 lo)
theorem ai.cut{K:Dy}{H:Hp}{ds:List D}{xs:List V}(h:ai K H ds xs)(lo hi:Option Int):ai K H (jg ds lo hi) (lP xs lo hi):=by
 unfold jg lP;rw [h.len];exact (h.drop _).take _
def pW(a b:Int):Bool:=decide (-(2 ^ 64) < a/\a < 2 ^ 64)||decide (-(2 ^ 64) < b/\b < 2 ^ 64)
def aY:List D->Option (D×Bool)
 | [.int a,.int b]=>some (.int (a+b),false)
 | [.lst a,.lst b]=>if small (a.length+b.length)=true then some (.lst (a++b),true) else none
 | [.tup a,.tup b]=>if small (a.length+b.length)=true then some (.tup (a++b),false) else none
 | _=>none
def cD:List D->Option (D×Bool)
 | [.int a,.int b]=>some (.int (a - b),false)
 | _=>none
def repL(n:Nat)(l:List D):List D:=(List.replicate n l).flatten
def lC:List D->Option (D×Bool)
 | [.int a,.int b]=>if pW a b=true then some (.int (a * b),false) else none
 | [.lst a,.int k]=>if (decide (-1000000<=k/\k<=1000000)&&small (a.length * k.toNat))=true then some (.lst (repL k.toNat a),true) else none
 | _=>none
def gK:List D->Option (D×Bool)
 | [.int a,.int b]=>if decide (0 < b/\b < 1073741824)=true then some (.int (a / b),false) else none
 | _=>none
def jT:List D->Option (D×Bool)
 | [.int a,.int b]=>if decide (0 < b)=true then some (.int (a % b),false) else none
 | _=>none
def my:List D->Option (D×Bool)
 | [.int a,.int b]=>if decide (0<=b/\b<=1000000/\a.natAbs < 2 ^ 64)=true then some (.int (a ^ b.toNat),false) else none
 | _=>none
def xk:List D->Option (D×Bool)
 | [.int a]=>some (.int (-a),false)
 | _=>none
def bu:List D->Option (List Int)
 | []=>some []
 | .int i::ds=>match bu ds with
  | some l=>some (i::l)
  | none=>none
 | _=>none
def gM:List D->Option (List Bool)
 | []=>some []
 | .bl i::ds=>match gM ds with
  | some l=>some (i::l)
  | none=>none
 | _=>none
theorem bN:∀ {ds:List D} {l:List Int},bu ds=some l->ds=l.map D.int
 | [],l,h=>by unfold bu at h;cases h;rfl
 | d::ds,l,h=>by
  cases d<;>first | (unfold bu at h;cases h;done) | skip
  unfold bu at h
  cases e:bu ds with
  | none=>rw [e] at h;cases h
  | some l'=>rw [e] at h;cases h;rw [bN e];rfl
theorem lu(l:List Int):bu (l.map D.int)=some l:=by
 induction l with
 | nil=>rfl
 | cons i l ih=>rw [Bu];unfold bu;rw [ih]
theorem qx:∀ {ds:List D} {l:List Bool},gM ds=some l->ds=l.map D.bl
 | [],l,h=>by unfold gM at h;cases h;rfl
 | d::ds,l,h=>by
  cases d<;>first | (unfold gM at h;cases h;done) | skip
  unfold gM at h
  cases e:gM ds with
  | none=>rw [e] at h;cases h
  | some l'=>rw [e] at h;cases h;rw [qx e];rfl
theorem vc(l:List Bool):gM (l.map D.bl)=some l:=by
 induction l with
 | nil=>rfl
 | cons i l ih=>rw [Bu];unfold gM;rw [ih]
def gLt:List D->Option (D×Bool)
 | [.int a,.int b]=>some (.bl (decide (a < b)),false)
 | _=>none
def gLe:List D->Option (D×Bool)
 | [.int a,.int b]=>some (.bl (decide (a<=b)),false)
 | _=>none
def gGt:List D->Option (D×Bool)
 | [.int a,.int b]=>some (.bl (decide (b < a)),false)
 | _=>none
def gGe:List D->Option (D×Bool)
 | [.int a,.int b]=>some (.bl (decide (b<=a)),false)
 | _=>none
def AY:D->Bool
 | .non=>true
 | _=>false
def gIs:List D->Option (D×Bool)
 | [d,.non]=>some (.bl (AY d),false)
 | [.bl a,.bl b]=>some (.bl (a == b),false)
 | _=>none
def rIsD:R2:=fun x y H Q=>(y = .non/\Q (.bl (decide (x = .non))) H)\/∃ a b,x = .bl a/\y = .bl b/\Q (.bl (a == b)) H
section
variable{K:Dy}
theorem xa{H Hh:Hp}{d:D}{v:V}(r:fo K H Hh d v):decide (v = .non)=AY d:=by
 cases d<;>first
  | (have r:v=_:=r;subst r;rfl)
  | (obtain ⟨p,xs,rfl,_⟩:=r;rfl)
  | (obtain ⟨p,rfl,_⟩:=r;rfl)
theorem cU{H Hh:Hp}{i:Int}{v:V}(r:fo K H Hh (.int i) v):v = .int i:=r
theorem yx{H Hh:Hp}{i:Bool}{v:V}(r:fo K H Hh (.bl i) v):v = .bl i:=r
theorem cg{H:Hp}{L:List Addr}{ds:List D}{xs:List V}(r:ai K (hid L H) ds xs){p:Addr}(hp:H p=none):gc K H (upd H p (.lst xs)) L (.lst ds) true (.ref p) :=
 ⟨p,rfl,hp,xs,am,(aR (fun b hb=>(Bp.mp hb).elim (fun z=> .inr (by rw [z];exact hp)) .inl) fun b o _ e=>ac.upd hp b o e:ac (hid L H) _).repDs r⟩
theorem gs{H H':Hp}{L:List Addr}{ds:List D}{xs:List V}(hm:∀ p∈L,dQ (H p))(r:ai K (hid L H) ds xs){p:Addr}(s:ac H H')(hp:H' p=some (.tup xs)):gc K H H' L (.tup ds) false (.ref p):=by
 refine ⟨p,xs,rfl,?_,(aR (fun b hb=> .inl hb) fun b o _ e=>s b o e:ac (hid L H) _).repDs r⟩;rw [aO (fun z=> ?_)]
 ·exact hp
 ·obtain ⟨u,q⟩:=(hm p z).some
  have e:=s p u q;rw [hp] at e;cases e;have:=hm p z;rw [q] at this;exact this
theorem os_add:OpS K (r2 fun x y H Q=>rI0 (fun i j=> .int (i+j)) x y H Q\/rCat x y H Q\/v4 x y H Q) aY:=by
 intro vs ds H L Q d nw hm r e q;unfold aY at e
 split at e
 ·obtain ⟨x,y,rfl,ra,rb⟩:=aV r
  cases e;exact .inl ⟨_,_,ra,rb,q _ H (ac.refl _) rfl⟩
 ·obtain ⟨x,y,rfl,⟨p,xs,rfl,h1,h2⟩,⟨p',ys,rfl,h3,h4⟩⟩:=aV r
  split at e
  ·rename_i hs
   cases e;refine .inr (.inl ⟨p,p',xs,ys,rfl,rfl,h1,h3,eB (by rw [<- h2.len,<- h4.len];exact hs),fun l hl=>q _ _ (ac.upd hl) (cg (h2.app h4) hl)⟩)
  ·cases e
 ·obtain ⟨x,y,rfl,⟨p,xs,rfl,h1,h2⟩,⟨p',ys,rfl,h3,h4⟩⟩:=aV r
  split at e
  ·rename_i hs
   cases e;exact .inr (.inr ⟨p,p',xs,ys,rfl,rfl,(ar h1).2,(ar h3).2,eB (by rw [<- h2.len,<- h4.len];exact hs),fun l H' hl s=>q _ _ s (gs hm (h2.app h4) s hl)⟩)
  ·cases e
 ·cases e
theorem os_sub:OpS K (r2 (rI0 fun i j=> .int (i - j))) cD:=by
 intro vs ds H L Q d nw hm r e q;unfold cD at e
 split at e
 ·obtain ⟨x,y,rfl,ra,rb⟩:=aV r
  cases e;exact ⟨_,_,ra,rb,q _ H (ac.refl _) rfl⟩
 ·cases e
theorem kG:∀ {H:Hp} {ds:List D} {xs:List V} (n:Nat),ai K H ds xs->ai K H (repL n ds) (List.replicate n xs).flatten
 | _,_,_,0,_=>trivial
 | _,_,_,n+1,h=>by
  unfold repL;rw [B7,B7,Cy,Cy];exact h.app (kG n h)
theorem ww:OpS K (r2 fun x y H Q=>rI su (fun i j=> .int (i * j)) x y H Q\/yK x y H Q) lC:=by
 intro vs ds H L Q d nw hm r e q;unfold lC at e
 split at e
 ·obtain ⟨x,y,rfl,ra,rb⟩:=aV r
  split at e
  ·rename_i hs
   cases e;refine .inl ⟨_,_,ra,rb,?_,q _ H (ac.refl _) rfl⟩
   rcases (C4 _ _).mp hs with z | z
   ·exact .inl (Bt z)
   ·exact .inr (Bt z)
  ·cases e
 ·rename_i a k
  obtain ⟨x,y,rfl,⟨p,xs,rfl,h1,h2⟩,rb⟩:=aV r
  split at e
  ·rename_i hs
   cases e;have hs:=(By _ _).mp hs;have hb:=Bt hs.1;refine .inr ⟨p,k,xs,rfl,rb,h1,by omega,by omega,?_,fun l hl=>q _ _ (ac.upd hl) (cg (kG k.toNat h2) hl)⟩;rw [<- h2.len];exact eB hs.2
  ·cases e
 ·cases e
theorem zh:OpS K (r2 (rI CDiv fun i j=> .int (i / j))) gK:=by
 intro vs ds H L Q d nw hm r e q;unfold gK at e
 split at e
 ·obtain ⟨x,y,rfl,ra,rb⟩:=aV r
  split at e
  ·rename_i hs
   cases e;exact ⟨_,_,ra,rb,(by have z:=Bt hs;exact z),q _ H (ac.refl _) rfl⟩
  ·cases e
 ·cases e
theorem os_mod:OpS K (r2 (rI (fun _ j=>0 < j) fun i j=> .int (i % j))) jT:=by
 intro vs ds H L Q d nw hm r e q;unfold jT at e
 split at e
 ·obtain ⟨x,y,rfl,ra,rb⟩:=aV r
  split at e
  ·rename_i hs
   cases e;exact ⟨_,_,ra,rb,Bt hs,q _ H (ac.refl _) rfl⟩
  ·cases e
 ·cases e
theorem os_pow:OpS K (r2 (rI CPow fun i j=> .int (i ^ j.toNat))) my:=by
 intro vs ds H L Q d nw hm r e q;unfold my at e
 split at e
 ·obtain ⟨x,y,rfl,ra,rb⟩:=aV r
  split at e
  ·rename_i hs
   cases e;exact ⟨_,_,ra,rb,(by have z:=Bt hs;exact z),q _ H (ac.refl _) rfl⟩
  ·cases e
 ·cases e
theorem os_neg:OpS K (r1 (rU fun i=> .int (-i))) xk:=by
 intro vs ds H L Q d nw hm r e q;unfold xk at e
 split at e
 ·obtain ⟨x,rfl,ra⟩:=aN r
  cases e;exact ⟨_,ra,q _ H (ac.refl _) rfl⟩
 ·cases e
theorem os_lt:OpS K (r2 (rI0 fun i j=> .bl (decide (i < j)))) gLt:=by
 intro vs ds H L Q d nw hm r e q;unfold gLt at e
 split at e
 ·obtain ⟨x,y,rfl,ra,rb⟩:=aV r
  cases e;exact ⟨_,_,ra,rb,q _ H (ac.refl _) rfl⟩
 ·cases e
theorem wy:OpS K (r2 (rI0 fun i j=> .bl (decide (i<=j)))) gLe:=by
 intro vs ds H L Q d nw hm r e q;unfold gLe at e
 split at e
 ·obtain ⟨x,y,rfl,ra,rb⟩:=aV r
  cases e;exact ⟨_,_,ra,rb,q _ H (ac.refl _) rfl⟩
 ·cases e
theorem os_gt:OpS K (r2 (rI0 fun i j=> .bl (decide (j < i)))) gGt:=by
 intro vs ds H L Q d nw hm r e q;unfold gGt at e
 split at e
 ·obtain ⟨x,y,rfl,ra,rb⟩:=aV r
  cases e;exact ⟨_,_,ra,rb,q _ H (ac.refl _) rfl⟩
 ·cases e
theorem AS:OpS K (r2 (rI0 fun i j=> .bl (decide (j<=i)))) gGe:=by
 intro vs ds H L Q d nw hm r e q;unfold gGe at e
 split at e
 ·obtain ⟨x,y,rfl,ra,rb⟩:=aV r
  cases e;exact ⟨_,_,ra,rb,q _ H (ac.refl _) rfl⟩
 ·cases e
theorem os_is:OpS K (r2 rIsD) gIs:=by
 intro vs ds H L Q d nw hm r e q;unfold gIs at e
 split at e
 ·obtain ⟨x,y,rfl,ra,rb⟩:=aV r
  cases e;refine .inl ⟨rb,?_⟩;rw [xa ra];exact q _ H (ac.refl _) rfl
 ·obtain ⟨x,y,rfl,ra,rb⟩:=aV r
  cases e;exact .inr ⟨_,_,ra,rb,q _ H (ac.refl _) rfl⟩
 ·cases e
end
def gIx:List D->Option (D×Bool)
 | [.lst ds,.int i]=>match atI ds i with
  | some d=>some (d,false)
  | none=>none
 | [.klst ds,.int i]=>match atI ds i with
  | some d=>some (d,false)
  | none=>none
 | [.tup ds,.int i]=>match atI ds i with
  | some d=>some (d,false)
  | none=>none
 | [.ktup ds,.int i]=>match atI ds i with
  | some d=>some (d,false)
  | none=>none
 | _=>none
def gSl(lo hi:Option Int):D->Option (D×Bool)
 | .lst ds=>some (.lst (jg ds lo hi),true)
 | .klst ds=>some (.lst (jg ds lo hi),true)
 | .tup ds=>some (.tup (jg ds lo hi),false)
 | _=>none
def eK:List D->Option (D×Bool)
 | [d,.int i]=>gSl (some i) none d
 | _=>none
def uG:List D->Option (D×Bool)
 | [d,.int i]=>gSl none (some i) d
 | _=>none
def zS(i j:Int):List D->Option (D×Bool)
 | [d]=>gSl (some i) (some j) d
 | _=>none
def vW(K:Dy):RSl:=fun x lo hi H Q=>rSlL K x lo hi H Q\/rSlD x lo hi H Q
section
variable{K:Dy}
theorem oU{H:Hp}{ds:List D}{xs:List V}{i:Int}{d:D}(r:ai K H ds xs)(e:atI ds i=some d):∃ v,atI xs i=some v/\aI K H d v:=by
 unfold atI at e ⊢;rw [<- r.len]
 cases h:ixN ds.length i with
 | none=>rw [h] at e;cases e
 | some j =>
  rw [h] at e;obtain ⟨x,e1,e2⟩:=r.get (show ds[j]?=some d from e);exact ⟨x,e1,e2⟩
theorem os_ix:OpS K (r2 (rIx K)) gIx:=by
 intro vs ds H L Q d nw hm r e q;unfold gIx at e
 split at e
 ·rename_i es i
  obtain ⟨x,y,rfl,⟨p,xs,rfl,h1,h2⟩,rb⟩:=aV r
  cases ea:atI es i with
  | none=>rw [ea] at e;cases e
  | some d' =>
   rw [ea] at e;cases e;obtain ⟨v,e1,e2⟩:=oU h2 ea;exact .inl ⟨p,xs,i,v,rfl,rb,.inl (.inl h1),e1,q v H (ac.refl _) e2⟩
 ·rename_i es i
  obtain ⟨x,y,rfl,⟨p,xs,rfl,h1,h2⟩,rb⟩:=aV r
  cases ea:atI es i with
  | none=>rw [ea] at e;cases e
  | some d' =>
   rw [ea] at e;cases e;obtain ⟨v,e1,e2⟩:=oU h2 ea;exact .inl ⟨p,xs,i,v,rfl,rb,aB.seq h1,e1,q v H (ac.refl _) e2⟩
 ·rename_i es i
  obtain ⟨x,y,rfl,⟨p,xs,rfl,h1,h2⟩,rb⟩:=aV r
  cases ea:atI es i with
  | none=>rw [ea] at e;cases e
  | some d' =>
   rw [ea] at e;cases e;obtain ⟨v,e1,e2⟩:=oU h2 ea;exact .inr (.inl ⟨p,xs,i,v,rfl,rb,.inl (.inl (ar h1).2),e1,q v H (ac.refl _) e2⟩)
 ·rename_i es i
  obtain ⟨x,y,rfl,⟨p,xs,rfl,h1,h2⟩,rb⟩:=aV r
  cases ea:atI es i with
  | none=>rw [ea] at e;cases e
  | some d' =>
   rw [ea] at e;cases e;obtain ⟨v,e1,e2⟩:=oU h2 ea;exact .inr (.inl ⟨p,xs,i,v,rfl,rb,dW h1,e1,q v H (ac.refl _) e2⟩)
 ·cases e
theorem vG{H:Hp}{L:List Addr}{lo hi:Option Int}{x:V}{c d:D}{nw:Bool}{Q:VK}(hm:∀ p∈L,dQ (H p))(r:fo K H (hid L H) c x)(e:gSl lo hi c=some (d,nw))(q:∀ v H',ac H H'->gc K H H' L d nw v->Q v H'):vW K x lo hi H Q:=by
 unfold gSl at e
 split at e
 ·obtain ⟨p,xs,rfl,h1,h2⟩:=r
  cases e;exact .inl ⟨p,xs,rfl,.inl (.inl h1),fun l hl=>q _ _ (ac.upd hl) (cg (h2.cut lo hi) hl)⟩
 ·obtain ⟨p,xs,rfl,h1,h2⟩:=r
  cases e;exact .inl ⟨p,xs,rfl,aB.seq h1,fun l hl=>q _ _ (ac.upd hl) (cg (h2.cut lo hi) hl)⟩
 ·obtain ⟨p,xs,rfl,h1,h2⟩:=r
  cases e;exact .inr ⟨p,xs,rfl,(ar h1).2,fun l H' hl s=>q _ _ s (gs hm (h2.cut lo hi) s hl)⟩
 ·cases e
theorem os_s10:OpS K (rS10 (vW K)) eK:=by
 intro vs ds H L Q d nw hm r e q;unfold eK at e
 split at e
 ·obtain ⟨x,y,rfl,ra,rb⟩:=aV r
  exact ⟨_,rb,vG hm ra e q⟩
 ·cases e
theorem os_s01:OpS K (rS01 (vW K)) uG:=by
 intro vs ds H L Q d nw hm r e q;unfold uG at e
 split at e
 ·obtain ⟨x,y,rfl,ra,rb⟩:=aV r
  exact ⟨_,rb,vG hm ra e q⟩
 ·cases e
theorem os_s11{i j:Int}:OpS K (rS11 (vW K) i j) (zS i j):=by
 intro vs ds H L Q d nw hm r e q;unfold zS at e
 split at e
 ·obtain ⟨x,rfl,ra⟩:=aN r
  exact ⟨i,rfl,j,rfl,vG hm ra e q⟩
 ·cases e
end
section
variable{X:Cx}
theorem zo:OpR X (binaryOp .Add) (fun x y H Q=>rI0 (fun i j=> .int (i+j)) x y H Q\/rCat x y H Q\/v4 x y H Q):=op_add.or (wD.or zn)
theorem tj:OpR X (binaryOp .Mult) (fun x y H Q=>rI su (fun i j=> .int (i * j)) x y H Q\/yK x y H Q):=op_mul.or op_rep
theorem qN:SlR X (vW X.K):=yo.or yn
theorem op_isD:OpR X (compareOp .Is) rIsD:=op_isN.or op_isB
end
def ins(x:Int):List Int->List Int
 | []=>[x]
 | y::l=>if x<=y then x::y::l else y::ins x l
def jw:List Int->List Int
 | []=>[]
 | x::l=>ins x (jw l)
theorem lx(x:Int):∀ l:List Int,(ins x l).Perm (x::l)
 | []=> .refl _
 | y::l=>by
  unfold ins
  split
  ·exact .refl _
  ·exact ((lx x l).cons y).trans (.swap x y l)
theorem lq:∀ l:List Int,(jw l).Perm l
 | []=> .refl _
 | x::l=>(lx x _).trans ((lq l).cons x)
theorem lw(x:Int):∀ {l:List Int},l.Pairwise (·<= ·)->(ins x l).Pairwise (·<= ·)
 | [],_=>by unfold ins;simp
 | y::l,h=>by
  unfold ins;have hy:=B0.mp h
  split
  ·rename_i hxy
   exact B0.mpr ⟨fun z hz=>(Bp.mp hz).elim (fun e=>e ▸ hxy) fun hz=>Int.le_trans hxy (hy.1 z hz),h⟩
  ·rename_i hxy
   refine B0.mpr ⟨fun z hz=> ?_,lw x hy.2⟩
   rcases Bp.mp ((lx x l).mem_iff.mp hz) with e | hz
   ·rw [e];omega
   ·exact hy.1 z hz
theorem iE:∀ l:List Int,(jw l).Pairwise (·<= ·)
 | []=> .nil
 | x::l=>lw x (iE l)
theorem bL:∀ {a b:List Int},a.Pairwise (·<= ·)->b.Pairwise (·<= ·)->a.Perm b->a=b
 | [],b,_,_,h=>(h.symm.eq_nil).symm ▸ rfl
 | x::a,[],_,_,h=>absurd h.eq_nil (by simp)
 | x::a,y::b,h1,h2,h=>by
  have g1:=B0.mp h1;have g2:=B0.mp h2
  have e:x=y:=by
   have m1:x∈y::b:=h.mem_iff.mp Bn;have m2:y∈x::a:=h.mem_iff.mpr Bn;have l1:y<=x:=(Bp.mp m1).elim (fun e=>e ▸ Int.le_refl _) (g2.1 x);have l2:x<=y:=(Bp.mp m2).elim (fun e=>e ▸ Int.le_refl _) (g1.1 y);omega
  subst e;rw [bL g1.2 g2.2 h.cons_inv]
def ot:List Int->Int
 | []=>0
 | [x]=>x
 | x::y::l=>if ot (y::l)<=x then x else ot (y::l)
def oo:List Int->Int
 | []=>0
 | [x]=>x
 | x::y::l=>if x<=oo (y::l) then x else oo (y::l)
theorem oq:∀ {l:List Int},l≠[]->ot l∈l/\∀ a∈l,a<=ot l
 | [],h=>absurd rfl h
 | [x],_=>by unfold ot;simp
 | x::y::l,_=>by
  obtain ⟨h1,h2⟩:=oq (l:=y::l) (by simp);unfold ot
  split
  ·rename_i hx
   exact ⟨Bn,fun a ha=>(Bp.mp ha).elim (fun e=>e ▸ Int.le_refl _) fun ha=>Int.le_trans (h2 a ha) hx⟩
  ·rename_i hx
   exact ⟨Bi _ h1,fun a ha=>(Bp.mp ha).elim (fun e=>by rw [e];omega) (h2 a)⟩
theorem om:∀ {l:List Int},l≠[]->oo l∈l/\∀ a∈l,oo l<=a
 | [],h=>absurd rfl h
 | [x],_=>by unfold oo;simp
 | x::y::l,_=>by
  obtain ⟨h1,h2⟩:=om (l:=y::l) (by simp);unfold oo
  split
  ·rename_i hx
   exact ⟨Bn,fun a ha=>(Bp.mp ha).elim (fun e=>e ▸ Int.le_refl _) fun ha=>Int.le_trans hx (h2 a ha)⟩
  ·rename_i hx
   exact ⟨Bi _ h1,fun a ha=>(Bp.mp ha).elim (fun e=>by rw [e];omega) (h2 a)⟩
def dd(ns:List Int):List Int:=ns.foldl step_dedup []
section
variable{X:Cx}
end
def br:List D->Option (D×Bool)
 | [.lst ds]=>some (.int ds.length,false)
 | [.klst ds]=>some (.int ds.length,false)
 | [.tup ds]=>some (.int ds.length,false)
 | [.ktup ds]=>some (.int ds.length,false)
 | [.dK ks _]=>some (.int ks.length,false)
 | [.dT ks _]=>some (.int ks.length,false)
 | [.set l]=>if decide (l.length<=1000)=true then some (.int l.length,false) else none
 | _=>none
def AH(X:Cx):List V->Hp->VK->Prop:=fun xs H Q=>(∃ p ys,xs=[V.ref p]/\(SqL X.K H p ys\/SqT X.K H p ys)/\Q (.int ys.length) H)\/(∃ a kvs,xs=[V.ref a]/\H a=some (.dK kvs)/\Q (.int kvs.length) H)\/(∃ a kvs,xs=[V.ref a]/\H a=some (.dT kvs)/\Q (.int kvs.length) H)\/sS xs H Q
theorem u6{X:Cx}:aJ X (.builtin "len") (AH X):=oR.or (u5.or (u4.or qu))
theorem os_len{X:Cx}:OpS X.K (AH X) br:=by
 intro vs ds H L Q d nw hm r e q;unfold br at e
 split at e
 ·obtain ⟨x,rfl,⟨p,xs,rfl,h1,h2⟩⟩:=aN r
  cases e;exact .inl ⟨p,xs,rfl,.inl (.inl (.inl h1)),by rw [<- h2.len];exact q _ H (ac.refl _) rfl⟩
 ·obtain ⟨x,rfl,⟨p,xs,rfl,h1,h2⟩⟩:=aN r
  cases e;exact .inl ⟨p,xs,rfl,.inl (aB.seq h1),by rw [<- h2.len];exact q _ H (ac.refl _) rfl⟩
 ·obtain ⟨x,rfl,⟨p,xs,rfl,h1,h2⟩⟩:=aN r
  cases e;exact .inl ⟨p,xs,rfl,.inr (.inl (.inl (ar h1).2)),by rw [<- h2.len];exact q _ H (ac.refl _) rfl⟩
 ·obtain ⟨x,rfl,⟨p,xs,rfl,h1,h2⟩⟩:=aN r
  cases e;exact .inl ⟨p,xs,rfl,.inr (dW h1),by rw [<- h2.len];exact q _ H (ac.refl _) rfl⟩
 ·rename_i ks vs'
  obtain ⟨x,rfl,⟨p,xs,rfl,h1,h2,h3⟩⟩:=aN r;cases e;exact .inr (.inl ⟨p,_,rfl,h1,by rw [Cw,<- h2,CL];exact q _ H (ac.refl _) rfl⟩)
 ·rename_i ks vs'
  obtain ⟨x,rfl,⟨p,xs,rfl,h1,h2,h3⟩⟩:=aN r;cases e;exact .inr (.inr (.inl ⟨p,_,rfl,h1,by rw [Cw,<- h2,CL];exact q _ H (ac.refl _) rfl⟩))
 ·obtain ⟨x,rfl,⟨p,S,rfl,h1,h2⟩⟩:=aN r
  split at e
  ·rename_i hl
   cases e;exact .inr (.inr (.inr ⟨p,S,_,rfl,(ar h1).2,Bt hl,q _ H (ac.refl _) rfl⟩))
  ·cases e
 ·cases e
def gF:List D->Option (D×Bool)
 | [.lst ds]=>match bu ds with
  | some ns=>some (.int ns.sum,false)
  | none=>none
 | [.tup ds]=>match bu ds with
  | some ns=>some (.int ns.sum,false)
  | none=>none
 | _=>none
theorem uQ{X:Cx}(hc:X.calm=true):aJ X (.builtin "sum") (fun xs H Q=>vV X.K xs H Q\/vU X.K xs H Q):=(uP hc).or (uO hc)
theorem os_sum{K:Dy}:OpS K (fun xs H Q=>vV K xs H Q\/vU K xs H Q) gF:=by
 intro vs ds H L Q d nw hm r e q;unfold gF at e
 split at e
 ·rename_i es
  obtain ⟨x,rfl,⟨p,xs,rfl,h1,h2⟩⟩:=aN r
  cases en:bu es with
  | none=>rw [en] at e;cases e
  | some ns =>
   rw [en] at e;cases e;rw [bN en] at h2;rw [bC h2] at h1;exact .inl ⟨p,ns,rfl,.inl (.inl h1),q _ H (ac.refl _) rfl⟩
 ·rename_i es
  obtain ⟨x,rfl,⟨p,xs,rfl,h1,h2⟩⟩:=aN r
  cases en:bu es with
  | none=>rw [en] at e;cases e
  | some ns =>
   rw [en] at e;cases e;rw [bN en] at h2;rw [bC h2] at h1;exact .inr ⟨p,ns,rfl,.inl (.inl (ar h1).2),q _ H (ac.refl _) rfl⟩
 ·cases e
def hX:List D->Option (D×Bool)
 | [.lst ds]=>match gM ds with
  | some bs=>some (.bl (bs.all id),false)
  | none=>none
 | _=>none
def AK(K:Dy):List V->Hp->VK->Prop:=fun xs H Q=>∃ (p:Addr) (bs:List Bool),xs=[V.ref p]/\SqL K H p (bs.map V.bl)/\Q (.bl (bs.all id)) H
theorem u9{X:Cx}(hc:X.calm=true):aJ X (.builtin "all") (AK X.K):=xK hc
theorem os_all{K:Dy}:OpS K (AK K) hX:=by
 intro vs ds H L Q d nw hm r e q;unfold hX at e
 split at e
 ·rename_i es
  obtain ⟨x,rfl,⟨p,xs,rfl,h1,h2⟩⟩:=aN r
  cases en:gM es with
  | none=>rw [en] at e;cases e
  | some ns =>
   rw [en] at e;cases e;rw [qx en] at h2;rw [nj h2] at h1;exact ⟨p,ns,rfl,.inl (.inl h1),q _ H (ac.refl _) rfl⟩
 ·cases e
def tyD:D->Option String
 | .non=>some "NoneType"
 | .bl _=>some "bool"
 | .int _=>some "int"
 | .str _=>some "str"
 | .lst _=>some "list"
 | .klst _=>some "list"
 | .tup _=>some "tuple"
 | .ktup _=>some "tuple"
 | .dK _ _=>some "dict"
 | .dT _ _=>some "dict"
 | _=>none
def bR(C:String):List D->Option (D×Bool)
 | [d]=>match tyD d with
  | some T=>some (.bl (zO T C),false)
  | none=>none
 | _=>none
theorem vx{K:Dy}{H Hh:Hp}{d:D}{v:V}{T:String}(r:fo K H Hh d v)(s:ac Hh H)(e:tyD d=some T):AX K H T v:=by
 cases d<;>first
  | (unfold tyD at e;cases e;done)
  | (unfold tyD at e;cases e;have r:v=_:=r;subst r;rfl)
  | (unfold tyD at e;cases e;obtain ⟨p,xs,rfl,h1,h2,h3⟩:=r;exact .inr (.inr ⟨rfl,.inl ⟨_,h1⟩⟩))
  | (unfold tyD at e;cases e;obtain ⟨p,xs,rfl,h1,h2,h3⟩:=r;exact .inr (.inr ⟨rfl,.inr ⟨_,h1⟩⟩))
  | (unfold tyD at e;cases e;obtain ⟨p,xs,rfl,h1,h2⟩:=r;exact .inr (.inl ⟨rfl,xs,.inl (.inl (s _ _ h1))⟩))
  | (unfold tyD at e;cases e;obtain ⟨p,xs,rfl,h1,h2⟩:=r;exact .inr (.inl ⟨rfl,xs,dW h1⟩))
  | (unfold tyD at e;cases e;obtain ⟨p,xs,rfl,h1,h2⟩:=r;exact .inl ⟨rfl,xs,.inl (.inl h1)⟩)
  | (unfold tyD at e;cases e;obtain ⟨p,xs,rfl,h1,h2⟩:=r;exact .inl ⟨rfl,xs,s.seq h1⟩)
def rIsiC(K:Dy)(C:String):List V->Hp->VK->Prop
 | [x],H,Q=>rIsi K [x,.ty C] H Q
 | _,_,_=>False
theorem os_isi{K:Dy}{C:String}(hC:isiC C):OpS K (rIsiC K C) (bR C):=by
 intro vs ds H L Q d nw hm r e q;unfold bR at e
 split at e
 ·rename_i c
  obtain ⟨x,rfl,ra⟩:=aN r
  cases et:tyD c with
  | none=>rw [et] at e;cases e
  | some T =>
   rw [et] at e;cases e;exact ⟨x,T,C,rfl,hC,vx ra aB et,q _ H (ac.refl _) rfl⟩
 ·cases e
theorem tZ{X:Cx}{EX:EXT}{e:Expr}{a:Arg}{C:String}{nC:Str}{p1 p2 pos:Pos}(hC:isiC C)(he:JB X EX e a)(g1:Gl X "isinstance")(m1:X.mg "isinstance" = none)(g2:Gl X nC)(m2:X.mg nC=none)(b2:bootBuiltins nC=some (.type C))
 (hn:nC ≠ "__name__" := by decide) (hdb:(nC == ("__debug__" : Str))=false:=by decide)
 (hs:starEach [e,.Name nC p1] X.env=(false,eval e X.env)::starEach [.Name nC p1] X.env:=by rfl):JE X EX (.Call (.Name "isinstance" p2) [e,.Name nC p1] [] pos) (sOp (bR C) [a]) :=
 ⟨(iA xJ g1 m1 boot_isinstance (aH he.p (aH (tf (v:= .ty C) g2 m2 b2 rfl hn hdb) cG) hs) (he:=hs)).by fun σ H Q ⟨F,ρ,W,R,h⟩=>bQ (os_isi hC) R h⟩
def zW:List D->Option (D×Bool)
 | [.int a,.int b]=>some (.int (if b > a then b else a),false)
 | [.lst ds]=>match bu ds with
  | some (n::ns)=>some (.int (ot (n::ns)),false)
  | _=>none
 | _=>none
def gMin:List D->Option (D×Bool)
 | [.int a,.int b]=>some (.int (if b < a then b else a),false)
 | [.lst ds]=>match bu ds with
  | some (n::ns)=>some (.int (oo (n::ns)),false)
  | _=>none
 | _=>none
def sR:List V->Hp->VK->Prop:=fun xs H Q=>∃ i j,xs=[.int i,.int j]/\Q (.int (if j > i then j else i)) H
def sQ:List V->Hp->VK->Prop:=fun xs H Q=>∃ i j,xs=[.int i,.int j]/\Q (.int (if j < i then j else i)) H
theorem uZ{X:Cx}(hc:X.calm=true):aJ X (.builtin "max") (fun xs H Q=>sR xs H Q\/pL X.K xs H Q):=(u3 hc).or (uX hc)
theorem uU{X:Cx}(hc:X.calm=true):aJ X (.builtin "min") (fun xs H Q=>sQ xs H Q\/pK X.K xs H Q):=(uV hc).or (uS hc)
theorem lU{M N:Int}{l:List Int}(h1:M∈l)(h2:∀ a∈l,a<=M)(h3:N∈l)(h4:∀ a∈l,a<=N):M=N:=by have:=h2 N h3;have:=h4 M h1;omega
theorem lf{M N:Int}{l:List Int}(h1:M∈l)(h2:∀ a∈l,M<=a)(h3:N∈l)(h4:∀ a∈l,N<=a):M=N:=by have:=h2 N h3;have:=h4 M h1;omega
theorem os_max{K:Dy}:OpS K (fun xs H Q=>sR xs H Q\/pL K xs H Q) zW:=by
 intro vs ds H L Q d nw hm r e q;unfold zW at e
 split at e
 ·obtain ⟨x,y,rfl,ra,rb⟩:=aV r
  cases e;exact .inl ⟨_,_,by rw [cU ra,cU rb],q _ H (ac.refl _) rfl⟩
 ·rename_i es
  obtain ⟨x,rfl,⟨p,xs,rfl,h1,h2⟩⟩:=aN r
  split at e
  ·rename_i n ns en
   cases e;rw [bN en] at h2;rw [bC h2] at h1;refine .inr ⟨p,n::ns,rfl,.inl (.inl h1),by simp,fun M m1 m2=> ?_⟩;obtain ⟨z1,z2⟩:=oq (l:=n::ns) (by simp);rw [lU m1 m2 z1 z2];exact q _ H (ac.refl _) rfl
  ·cases e
 ·cases e
theorem os_min{K:Dy}:OpS K (fun xs H Q=>sQ xs H Q\/pK K xs H Q) gMin:=by
 intro vs ds H L Q d nw hm r e q;unfold gMin at e
 split at e
 ·obtain ⟨x,y,rfl,ra,rb⟩:=aV r
  cases e;exact .inl ⟨_,_,by rw [cU ra,cU rb],q _ H (ac.refl _) rfl⟩
 ·rename_i es
  obtain ⟨x,rfl,⟨p,xs,rfl,h1,h2⟩⟩:=aN r
  split at e
  ·rename_i n ns en
   cases e;rw [bN en] at h2;rw [bC h2] at h1;refine .inr ⟨p,n::ns,rfl,.inl (.inl h1),by simp,fun M m1 m2=> ?_⟩;obtain ⟨z1,z2⟩:=om (l:=n::ns) (by simp);rw [lf m1 m2 z1 z2];exact q _ H (ac.refl _) rfl
  ·cases e
 ·cases e
def kb:List D->Option (D×Bool)
 | [.lst ds]=>match bu ds with
  | some ns=>if decide (ns.length < 64)=true then some (.lst ((jw ns).map D.int),true) else none
  | none=>none
 | [.tup ds]=>match bu ds with
  | some ns=>if decide (ns.length < 64)=true then some (.lst ((jw ns).map D.int),true) else none
  | none=>none
 | _=>none
theorem oP{X:Cx}:aJ X (.builtin "sorted") (fun xs H Q=>gZ X.K xs H Q\/gY X.K xs H Q):=oN.or oM
theorem uq{K:Dy}:OpS K (fun xs H Q=>gZ K xs H Q\/gY K xs H Q) kb:=by
 intro vs ds H L Q d nw hm r e q;unfold kb at e
 have fin:∀ (ns:List Int) l (ms:List Int),H l=none->List.Perm ms ns->ms.Pairwise (·<= ·)->(∀ v H',ac H H'->gc K H H' L (.lst ((jw ns).map D.int)) true v->Q v H')->Q (.ref l) (upd H l (.lst (ms.map V.int))):=fun ns l ms hl hp hs q=>by
  have:ms=jw ns:=bL hs (iE ns) (hp.trans (lq ns).symm);subst this;exact q _ _ (ac.upd hl) (cg (dG _) hl)
 split at e
 ·rename_i es
  obtain ⟨x,rfl,⟨p,xs,rfl,h1,h2⟩⟩:=aN r
  cases en:bu es with
  | none=>rw [en] at e;cases e
  | some ns =>
   rw [en] at e;dsimp only at e
   split at e
   ·rename_i hl
    cases e;rw [bN en] at h2;rw [bC h2] at h1;exact .inl ⟨p,ns,rfl,.inl (.inl h1),Bt hl,fun l ms a b c=>fin ns l ms a b c q⟩
   ·cases e
 ·rename_i es
  obtain ⟨x,rfl,⟨p,xs,rfl,h1,h2⟩⟩:=aN r
  cases en:bu es with
  | none=>rw [en] at e;cases e
  | some ns =>
   rw [en] at e;dsimp only at e
   split at e
   ·rename_i hl
    cases e;rw [bN en] at h2;rw [bC h2] at h1;exact .inr ⟨p,ns,rfl,.inl (.inl (ar h1).2),Bt hl,fun l ms a b c=>fin ns l ms a b c q⟩
   ·cases e
 ·cases e
def gD(lo:Int)(n:Nat):List D:=(List.range n).map fun k=> .int (lo+(k:Nat))
def rngV(lo:Int)(n:Nat):List V:=(List.range n).map fun k=> .int (lo+(k:Nat))
theorem pA{K:Dy}{H:Hp}(lo:Int)(n:Nat):ai K H (gD lo n) (rngV lo n):=by
 have:=dG (K:=K) (H:=H) ((List.range n).map fun k=>lo+((k:Nat):Int));rw [B8,B8] at this;exact this
def Az(lo hi:Int):Bool:=decide (-1000000000<=lo/\lo<=1000000000 /\ -1000000000<=hi/\hi<=1000000000/\(hi - lo).toNat<=1000)
def xm:List D->Option (D×Bool)
 | [.lst ds]=>some (.lst ds,true)
 | [.tup ds]=>some (.lst ds,true)
 | [.ktup ds]=>some (.lst ds,true)
 | [.rng lo hi]=>if Az lo hi=true then some (.lst (gD lo (hi - lo).toNat),true) else none
 | _=>none
def lA:List D->Option (D×Bool)
 | [.lst ds]=>some (.tup ds,false)
 | [.tup ds]=>some (.tup ds,false)
 | [.rng lo hi]=>if Az lo hi=true then some (.tup (gD lo (hi - lo).toNat),false) else none
 | _=>none
def jZ(K:Dy):List V->Hp->VK->Prop:=fun xs H Q=>∃ p ys,xs=[.ref p]/\(SqL K H p ys\/SqT K H p ys)/\∀ l,H l=none->Q (.ref l) (upd H l (.lst ys))
def pI(K:Dy):List V->Hp->VK->Prop:=fun xs H Q=>∃ p ys,xs=[.ref p]/\((SqL K H p ys/\∀ l,H l=none->Q (.ref l) (upd H l (.tup ys)))\/(SqT K H p ys/\Q (.ref p) H))
theorem rX{X:Cx}(hc:X.calm=true):aJ X (.type "list") (fun xs H Q=>jZ X.K xs H Q\/kH xs H Q):=oQ.or (rW hc)
theorem qr{X:Cx}(hc:X.calm=true):aJ X (.type "tuple") (fun xs H Q=>pI X.K xs H Q\/vT xs H Q):=mB.or (uN hc)
theorem zg{K:Dy}:OpS K (fun xs H Q=>jZ K xs H Q\/kH xs H Q) xm:=by
 intro vs ds H L Q d nw hm r e q;unfold xm at e
 split at e
 ·obtain ⟨x,rfl,⟨p,xs,rfl,h1,h2⟩⟩:=aN r
  cases e;exact .inl ⟨p,xs,rfl,.inl (.inl (.inl h1)),fun l hl=>q _ _ (ac.upd hl) (cg h2 hl)⟩
 ·obtain ⟨x,rfl,⟨p,xs,rfl,h1,h2⟩⟩:=aN r
  cases e;exact .inl ⟨p,xs,rfl,.inr (.inl (.inl (ar h1).2)),fun l hl=>q _ _ (ac.upd hl) (cg h2 hl)⟩
 ·obtain ⟨x,rfl,⟨p,xs,rfl,h1,h2⟩⟩:=aN r
  cases e;exact .inl ⟨p,xs,rfl,.inr (dW h1),fun l hl=>q _ _ (ac.upd hl) (cg h2 hl)⟩
 ·rename_i lo hi
  obtain ⟨x,rfl,⟨p,rfl,h1⟩⟩:=aN r
  split at e
  ·rename_i hk
   cases e;have hk:=Bt hk;exact .inr ⟨p,lo,hi,rfl,(ar h1).2,by omega,by omega,by omega,by omega,hk.2.2.2.2,fun l hl=>q _ _ (ac.upd hl) (cg (pA _ _) hl)⟩
  ·cases e
 ·cases e
theorem wr{K:Dy}:OpS K (fun xs H Q=>pI K xs H Q\/vT xs H Q) lA:=by
 intro vs ds H L Q d nw hm r e q;unfold lA at e
 split at e
 ·obtain ⟨x,rfl,⟨p,xs,rfl,h1,h2⟩⟩:=aN r
  cases e;exact .inl ⟨p,xs,rfl,.inl ⟨.inl (.inl h1),fun l hl=>q _ _ (ac.upd hl) (gs hm h2 (ac.upd hl) am)⟩⟩
 ·obtain ⟨x,rfl,⟨p,xs,rfl,h1,h2⟩⟩:=aN r
  cases e;exact .inl ⟨p,xs,rfl,.inr ⟨.inl (.inl (ar h1).2),q _ _ (ac.refl _) ⟨p,xs,rfl,h1,h2⟩⟩⟩
 ·rename_i lo hi
  obtain ⟨x,rfl,⟨p,rfl,h1⟩⟩:=aN r
  split at e
  ·rename_i hk
   cases e;have hk:=Bt hk;exact .inr ⟨p,lo,hi,rfl,(ar h1).2,by omega,by omega,by omega,by omega,hk.2.2.2.2,fun l hl=>q _ _ (ac.upd hl) (gs hm (pA _ _) (ac.upd hl) am)⟩
  ·cases e
 ·cases e
def lF:List D->Option (D×Bool)
 | [.int i]=>some (.int i,false)
 | [.bl b]=>some (.int (if b then 1 else 0),false)
 | _=>none
def AI:List V->Hp->VK->Prop:=fun xs H Q=>(∃ i,xs=[.int i]/\Q (.int i) H)\/∃ k,xs=[.bl k]/\Q (.int (if k then 1 else 0)) H
theorem u7{X:Cx}:aJ X (.type "int") AI:=u8
theorem os_int{K:Dy}:OpS K AI lF:=by
 intro vs ds H L Q d nw hm r e q;unfold lF at e
 split at e
 ·obtain ⟨x,rfl,ra⟩:=aN r
  cases e;exact .inl ⟨_,by rw [cU ra],q _ H (ac.refl _) rfl⟩
 ·obtain ⟨x,rfl,ra⟩:=aN r
  cases e;exact .inr ⟨_,by rw [yx ra],q _ H (ac.refl _) rfl⟩
 ·cases e
def dM:D->Option Key
 | .int i=>some (.inl i)
 | .str x=>some (.inr x)
 | _=>none
def fP:List D->Option (List Key)
 | []=>some []
 | d::ds=>match dM d,fP ds with
  | some k,some l=>some (k::l)
  | _,_=>none
theorem eJ{K:Dy}{H:Hp}{d:D}{v:V}{k:Key}(e:dM d=some k)(r:aI K H d v):v=kV k:=by
 cases d<;>first | (unfold dM at e;cases e;done) | (unfold dM at e;cases e;exact r)
theorem eV{K:Dy}{H:Hp}:∀ {ds:List D} {xs:List V} {k:List Key},fP ds=some k->ai K H ds xs->xs=k.map kV
 | [],[],k,e,_=>by unfold fP at e;cases e;rfl
 | d::ds,x::xs,k,e,h=>by
  unfold fP at e
  cases e1:dM d with
  | none=>rw [e1] at e;cases e
  | some k1 =>
   cases e2:fP ds with
   | none=>rw [e1,e2] at e;cases e
   | some l =>
    rw [e1,e2] at e;cases e;rw [eJ e1 h.1,eV e2 h.2];rfl
 | [],_::_,_,_,h=>h.elim
 | _::_,[],_,_,h=>h.elim
section
variable{κ:Type}[DecidableEq κ]
def ba:List κ->List D->κ->Option D
 | k::ks,d::ds,x=>if k=x then some d else ba ks ds x
 | _,_,_=>none
def iX:List κ->List D->κ->D->List κ×List D
 | k::ks,d::ds,x,y=>if k=x then (k::ks,y::ds) else ((k::(iX ks ds x y).1),d::(iX ks ds x y).2)
 | _,_,x,y=>([x],[y])
theorem eI{K:Dy}{H:Hp}:∀ {ks:List κ} {ds:List D} {xs:List V} {x:κ},ks.length=xs.length->ai K H ds xs ->
 (∀ d,ba ks ds x=some d->∃ v,dA (ks.zip xs) x=some v/\aI K H d v)/\(ba ks ds x=none->dA (ks.zip xs) x=none)
 | [],[],[],_,_,_=>⟨fun d h=>(by unfold ba at h;cases h),fun _=>rfl⟩
 | k::ks,d::ds,y::xs,x,hl,h=>by
  obtain ⟨i1,i2⟩:=eI (x:=x) (Nat.succ.inj hl) h.2;have hl:ks.length=xs.length:=Nat.succ.inj hl;rw [C0]
  by_cases e:k=x
  ·rw [ie (p:=(k,y)) e]
   refine ⟨fun d' hd=> ?_,fun hd=> ?_⟩
   ·unfold ba at hd;rw [if_pos e] at hd;cases hd;exact ⟨y,rfl,h.1⟩
   ·unfold ba at hd;rw [if_pos e] at hd;cases hd
  ·rw [ig (p:=(k,y)) e]
   refine ⟨fun d' hd=> ?_,fun hd=> ?_⟩
   ·unfold ba at hd;rw [if_neg e] at hd;exact i1 d' hd
   ·unfold ba at hd;rw [if_neg e] at hd;exact i2 hd
 | [],_::_,[],_,_,h=>h.elim
 | [],[],_::_,_,_,h=>h.elim
 | [],_::_,_::_,_,hl,_=>by simp at hl
 | _::_,[],[],_,hl,_=>by simp at hl
 | _::_,[],_::_,_,_,h=>h.elim
 | _::_,_::_,[],_,_,h=>h.elim
def iz:List κ->List V->κ->V->List κ×List V
 | k::ks,d::ds,x,y=>if k=x then (k::ks,y::ds) else ((k::(iz ks ds x y).1),d::(iz ks ds x y).2)
 | _,_,x,y=>([x],[y])
theorem kJ{K:Dy}{H:Hp}{d:D}{v:V}(r:aI K H d v):∀ {ks:List κ} {ds:List D} {xs:List V} {x:κ},ks.length=xs.length->ai K H ds xs ->
 (iz ks xs x v).1=(iX ks ds x d).1/\ai K H (iX ks ds x d).2 (iz ks xs x v).2/\(iz ks xs x v).1.length=(iz ks xs x v).2.length
 | [],[],[],_,_,_=>⟨rfl,⟨r,trivial⟩,rfl⟩
 | k::ks,e::ds,y::xs,x,hl,h=>by
  obtain ⟨i1,i2,i3⟩:=kJ (x:=x) r (Nat.succ.inj hl) h.2;unfold iz iX;have hl:ks.length=xs.length:=Nat.succ.inj hl
  by_cases z:k=x
  ·rw [if_pos z,if_pos z]
   exact ⟨rfl,⟨r,h.2⟩,by simp [hl]⟩
  ·rw [if_neg z,if_neg z]
   exact ⟨by show k::_=k::_;rw [i1],⟨h.1,i2⟩,by show (k::_).length=(y::_).length;rw [Bj,Bj,i3]⟩
 | [],_::_,[],_,_,h=>h.elim
 | [],[],_::_,_,_,h=>h.elim
 | [],_::_,_::_,_,hl,_=>by simp at hl
 | _::_,[],[],_,hl,_=>by simp at hl
 | _::_,[],_::_,_,_,h=>h.elim
 | _::_,_::_,[],_,_,h=>h.elim
theorem kI{v:V}:∀ {ks:List κ} {xs:List V} {x:κ},ks.length=xs.length->ks.Nodup->(iz ks xs x v).1.zip (iz ks xs x v).2=dP (ks.zip xs) x v
 | [],[],x,_,_=>rfl
 | k::ks,y::xs,x,hl,nd=>by
  have hl:ks.length=xs.length:=Nat.succ.inj hl;have nd:=B2.mp nd;have ih:=kI (v:=v) (x:=x) hl nd.2;unfold iz;rw [C0]
  by_cases z:k=x
  ·rw [if_pos z,C0]
   unfold dP;rw [if_pos (by simp [z]),Bu,if_pos z]
   congr 1
   symm
   have:∀ p∈ks.zip xs,(if p.1=x then (p.1,v) else p)=p:=fun p hp=>by
    rw [if_neg (fun e=>nd.1 (by rw [z,<- e];exact (Dm (show (p.1,p.2)∈_ from hp)).1))]
   exact (Cq this).trans (List.map_id' _)
  ·rw [if_neg z]
   show ((k,y)::(iz ks xs x v).1.zip (iz ks xs x v).2)=_
   rw [ih];unfold dP
   have:(((k,y)::ks.zip xs).any fun kv=>decide (kv.1=x))=(ks.zip xs).any fun kv=>decide (kv.1=x):=by rw [List.any_cons];simp [z]
   rw [this]
   split
   ·rw [Bu,if_neg z]
   ·rfl
 | [],_::_,_,hl,_=>by simp at hl
 | _::_,[],_,hl,_=>by simp at hl
end
def jD(ds:List D)(d:D):Bool:=ds.any fun e=>eqD e d
def gInD:D->D->Option Bool
 | d,.lst ds=>if (af 9 d&&ds.all (af 9))=true then some (jD ds d) else none
 | d,.tup ds=>if (af 9 d&&ds.all (af 9))=true then some (jD ds d) else none
 | d,.ktup ds=>if (af 9 d&&ds.all (af 9))=true then some (jD ds d) else none
 | .int i,.rng lo hi=>some (decide (lo<=i/\i < hi))
 | d,.dK ks vs=>match dM d with
  | some k=>some (ba ks vs k).isSome
  | none=>none
 | .tup ds,.dT ks vs=>match fP ds with
  | some k=>some (ba ks vs k).isSome
  | none=>none
 | _,_=>none
def gIn:List D->Option (D×Bool)
 | [d,c]=>match gInD d c with
  | some b=>some (.bl b,false)
  | none=>none
 | _=>none
def rInS(K:Dy)(neg:Bool):R2:=fun x y H Q=>∃ (d:D) (p:Addr) (xs:List V) (ds:List D),y = .ref p/\(SqL K H p xs\/SqT K H p xs)/\ai K H ds xs/\ds.all (af 9)=true/\aI K H d x/\af 9 d=true/\Q (.bl (if neg then !jD ds d else jD ds d)) H
def AJ(neg:Bool):R2:=fun y x H Q=>∃ a o,x = .ref a/\gG H a y o/\Q (.bl (if neg then !o.isSome else o.isSome)) H
def yL(K:Dy)(neg:Bool):R2:=fun x y H Q=>rInS K neg x y H Q\/rInR neg x y H Q\/AJ neg x y H Q
section
variable{X:Cx}
open Classical in
theorem p9{pins:List (Addr×Obj)}{σ:St}{H:Hp}{s:Shared}(I:Inv X pins σ H s)(hu:X.A.units+10 < cLine){d:D}{ds:List D}{x:V}{u:Value}{xs:List V}{its:List Value}(rd:ai X.K H ds xs)(rv:aA xs its)(hds:ds.all (af 9)=true)(r:aI X.K H d x)(hd:af 9 d=true)(ru:az x u) :
 ∃ e:Value->Bool,(∀ y,y∈its.toArray->SeqAt.EqAt X.A.in1 s y u (e y))/\its.toArray.any e=jD ds d:=by
 refine ⟨fun y=>decide (∃ (j:Nat) (d':D),ds[j]?=some d'/\its[j]?=some y/\eqD d' d=true),fun y hy=> ?_,?_⟩
 ·have hy:y∈its:=by simpa using hy
  obtain ⟨j,hj,rfl⟩:=Cv.mp hy;obtain ⟨v,ev,rv1⟩:=bh rv hj;obtain ⟨d',e1,q1⟩:=rd.get' ev;have hd':=Bx.mp hds _ (Bv e1);have z:=rM I 9 (A:=X.A.in1) (by show X.A.units+1+9 < cLine;omega) hd' hd q1 r rv1 ru
  have e:decide (∃ (j':Nat) (d':D),ds[j']?=some d'/\its[j']?=some its[j]/\eqD d' d=true)=eqD d' d:=by
   cases hq:eqD d' d with
   | true=>exact Bl ⟨j,d',e1,Bb hj,hq⟩
   | false =>
    refine Br fun hZ=> ?_
    obtain ⟨j2,d2,g1,g2,g3⟩:=hZ;obtain ⟨hj2,g2'⟩:=Bs.mp g2;obtain ⟨v2,ev2,rv2⟩:=bh rv hj2;rw [g2'] at rv2;have:v2=v:=rv2.inj rv1;subst this;obtain ⟨d3,e3,q3⟩:=rd.get' ev2;rw [g1] at e3;cases e3;have hn:=fF I 9 9 (Bx.mp hds _ (Bv g1)) hd' q3 q1 rv1;unfold eqD at g3 hq;rw [hn,hq] at g3;cases g3
  dsimp only;rw [e];exact z
 ·rw [Cz]
  unfold jD;simp only [List.any_toArray,List.any_eq_true]
  constructor
  ·rintro ⟨y,hy,hq⟩
   obtain ⟨j,d',g1,g2,g3⟩:=Bt hq;exact ⟨d',Bv g1,g3⟩
  ·rintro ⟨d',hd',hq⟩
   obtain ⟨j,hj,rfl⟩:=Cv.mp hd'
   have hji:j < its.length:=by rw [<- rv.length,<- rd.len];exact hj
   exact ⟨its[j],Ck hji,Bl ⟨j,_,Bb hj,Bb hji,hq⟩⟩
theorem op_inS(hu:X.A.units+10 < cLine):OpR X (compareOp .In) (rInS X.K false):=by
 intro pins s σ H x y v u Q I rx ry h;obtain ⟨d,p,xs,ds,rfl,hq,rd,hds,r,hd,q⟩:=h;cases ry
 rcases hq with hq | hq
 ·obtain ⟨its,rv,pl,_⟩:=I.list hq
  obtain ⟨e,he,ee⟩:=p9 I hu rd rv hds r hd rx;refine SeqAt.in_listAt e pl.isList he ⟨.bl _,H,I,rfl,?_⟩;rw [ee];exact q
 ·obtain ⟨its,rv,pl,_⟩:=I.tuple hq
  obtain ⟨e,he,ee⟩:=p9 I hu rd rv hds r hd rx;refine SeqAt.in_tupleAt e (show s.heap.IsTuple p its.toArray from pl) he ⟨.bl _,H,I,rfl,?_⟩;rw [ee];exact q
theorem zk(hu:X.A.units+1 < cLine):OpR X (compareOp .In) (AJ false):=by
 intro pins s σ H y x u v Q I ry rx h;obtain ⟨a,o,rfl,g,q⟩:=h;cases rx
 exact d_in hu I g ry fun s3 I3=>⟨.bl o.isSome,H,I3,rfl,q⟩
theorem op_inA(hu:X.A.units+10 < cLine):OpR X (compareOp .In) (yL X.K false):=(op_inS hu).or (op_inR.or (zk (by omega)))
end
section
variable{K:Dy}
theorem rN{H Hh:Hp}{p:Addr}{ks:List Key}{ds:List D}{xs:List V}{k:Key}{y:V}(h1:H p=some (.dK (ks.zip xs)))(hl:ks.length=xs.length)(h2:ai K Hh ds xs)(hy:y=kV k) :
 ∃ o,gG H p y o/\o.isSome=(ba ks ds k).isSome/\∀ d,ba ks ds k=some d->∃ v,o=some v/\aI K Hh d v:=by
 subst hy;obtain ⟨i1,i2⟩:=eI (x:=k) hl h2;refine ⟨_,gG.k (k:=k) h1,?_,fun d hd=>i1 d hd⟩
 cases e:ba ks ds k with
 | none=>rw [i2 e];rfl
 | some d=>obtain ⟨v,e1,_⟩:=i1 d e;rw [e1];rfl
theorem xF{H Hh:Hp}{p b:Addr}{ks:List (List Key)}{ds:List D}{xs:List V}{k:List Key}(h1:H p=some (.dT (ks.zip xs)))(hl:ks.length=xs.length)(h2:ai K Hh ds xs)(hb:H b=some (.tup (k.map kV))) :
 ∃ o,gG H p (.ref b) o/\o.isSome=(ba ks ds k).isSome/\∀ d,ba ks ds k=some d->∃ v,o=some v/\aI K Hh d v:=by
 obtain ⟨i1,i2⟩:=eI (x:=k) hl h2;refine ⟨_,gG.t (k:=k) h1 hb,?_,fun d hd=>i1 d hd⟩
 cases e:ba ks ds k with
 | none=>rw [i2 e];rfl
 | some d=>obtain ⟨v,e1,_⟩:=i1 d e;rw [e1];rfl
theorem jx{H:Hp}{L:List Addr}{d c:D}{x y:V}{b neg:Bool}{Q:VK}(ra:fo K H (hid L H) d x)(rb:fo K H (hid L H) c y)(e:gInD d c=some b)(q:Q (.bl (if neg then !b else b)) H):yL K neg x y H Q:=by
 have seq:∀ (p:Addr) (xs:List V) (ds:List D),y = .ref p->(SqL K H p xs\/SqT K H p xs)->ai K (hid L H) ds xs->(if (af 9 d&&ds.all (af 9))=true then some (jD ds d) else none)=some b->yL K neg x y H Q:=fun p xs ds hy hs hr e=>by
  split at e
  ·rename_i hc
   have hc:=(By _ _).mp hc;cases e;exact .inl ⟨d,p,xs,ds,hy,hs,aB.repDs hr,hc.2,ra.d aB,hc.1,q⟩
  ·cases e
 unfold gInD at e
 split at e
 ·obtain ⟨p,xs,rfl,h1,h2⟩:=rb
  exact seq p xs _ rfl (.inl (.inl (.inl h1))) h2 e
 ·obtain ⟨p,xs,rfl,h1,h2⟩:=rb
  exact seq p xs _ rfl (.inr (.inl (.inl (ar h1).2))) h2 e
 ·obtain ⟨p,xs,rfl,h1,h2⟩:=rb
  exact seq p xs _ rfl (.inr (dW h1)) h2 e
 ·obtain ⟨p,rfl,h1⟩:=rb
  cases e;exact .inr (.inl ⟨p,_,_,_,ra,rfl,(ar h1).2,q⟩)
 ·obtain ⟨p,xs,rfl,h1,h2,h3⟩:=rb
  split at e
  ·rename_i k ek
   cases e;obtain ⟨o,g1,g2,_⟩:=rN (k:=k) h1 h2 h3 (eJ ek (ra.d aB));exact .inr (.inr ⟨p,o,rfl,g1,by rw [g2];exact q⟩)
  ·cases e
 ·obtain ⟨p,xs,rfl,h1,h2,h3⟩:=rb
  obtain ⟨b',ys,rfl,h4,h5⟩:=ra
  split at e
  ·rename_i k ek
   cases e;have h4:=(ar h4).2;rw [eV ek h5] at h4;obtain ⟨o,g1,g2,_⟩:=xF (k:=k) h1 h2 h3 h4;exact .inr (.inr ⟨p,o,rfl,g1,by rw [g2];exact q⟩)
  ·cases e
 ·cases e
theorem os_in:OpS K (r2 (yL K false)) gIn:=by
 intro vs ds H L Q d nw hm r e q;unfold gIn at e
 split at e
 ·obtain ⟨x,y,rfl,ra,rb⟩:=aV r
  split at e
  ·rename_i b eb
   cases e;exact jx ra rb eb (q _ H (ac.refl _) rfl)
  ·cases e
 ·cases e
end
def qd:List D->Option (D×Bool)
 | [.dK ks vs,k]=>match dM k with
  | some k=>match ba ks vs k with
   | some d=>some (d,false)
   | none=>none
  | none=>none
 | [.dT ks vs,.tup l]=>match fP l with
  | some k=>match ba ks vs k with
   | some d=>some (d,false)
   | none=>none
  | none=>none
 | _=>none
def rDGet:R2:=fun x y H Q=>∃ a v,x = .ref a/\gG H a y (some v)/\Q v H
theorem c_dget{X:Cx}{EX:EXT}{o i:Expr}{a b:Arg}{pos:Pos}(hu:X.A.units+1 < cLine)(ho:JB X EX o a)(hi:JB X EX i b)(hs:xU i:=by exact fun _ _=>rfl):JE X EX (.Subscript o i pos) (sOp qd [a,b]) :=
 ⟨(yZ hu ho.p hi.p hs).by fun σ H Q ⟨F,ρ,W,R,h⟩=>by
   have os:OpS X.K (r2 rDGet) qd:=by
    intro vs ds H L Q d nw hm r e q;unfold qd at e
    split at e
    ·obtain ⟨x,y,rfl,⟨p,xs,rfl,h1,h2,h3⟩,rb⟩:=aV r
     split at e
     ·rename_i k ek
      split at e
      ·rename_i d' ed
       cases e;obtain ⟨o,g1,_,g3⟩:=rN (k:=k) h1 h2 h3 (eJ ek (rb.d aB));obtain ⟨v,rfl,rv⟩:=g3 _ ed;exact ⟨p,v,rfl,g1,q v H (ac.refl _) rv⟩
      ·cases e
     ·cases e
    ·obtain ⟨x,y,rfl,⟨p,xs,rfl,h1,h2,h3⟩,⟨b',ys,rfl,h4,h5⟩⟩:=aV r
     split at e
     ·rename_i k ek
      split at e
      ·rename_i d' ed
       cases e;have h4:=(ar h4).2;rw [eV ek h5] at h4;obtain ⟨o,g1,_,g3⟩:=xF (k:=k) h1 h2 h3 h4;obtain ⟨v,rfl,rv⟩:=g3 _ ed;exact ⟨p,v,rfl,g1,q v H (ac.refl _) rv⟩
      ·cases e
     ·cases e
    ·cases e
   exact bQ os R h⟩
def dE(j:Nat)(u:D->List D->Option (D×D))(fs:List SE):SE:=fun ρ=>match ρ[j]? with
 | some (some (_,.fz))=>none
 | some (some (.lst _,_))=>match evA (fs.map Arg.ex) ρ with
  | some (.ok ds,ρ1)=>match ρ1[j]? with
   | some (some (c,.ow))=>match u c ds with
    | some (c',d)=>some (.ok d false,ρ1.set j (some (c',.ow)))
    | none=>none
   | some (some (c,.io))=>match u c ds with
    | some (c',d)=>some (.ok d false,ρ1.set j (some (c',.io)))
    | none=>none
   | _=>none
  | some (.ex C,ρ1)=>some (.ex C,ρ1)
  | none=>none
 | _=>none
def MeS(K:Dy)(r:V->List V->Hp->VK->Prop)(u:D->List D->Option (D×D)):Prop :=
 ∀ (H:Hp) (L:List Addr) (p:Addr) (c:D) (ds:List D) (vs:List V) (c' d:D) (Q:VK),aQ K H (hid L H) p c->p∈L->ai K (hid L H) ds vs->u c ds=some (c',d) ->
  (∀ v o,aQ K (upd H p o) (hid L H) p c'->aI K (hid L H) d v->Q v (upd H p o))->r (.ref p) vs H Q
section
variable{K:Dy}{EX:EXT}{σ:St}{H:Hp}{Q:VK}
theorem zx{j:Nat}{u:D->List D->Option (D×D)}{fs:List SE}{r:V->List V->Hp->VK->Prop}(hs:MeS K r u)(hw:tV K EX (dE j u fs) σ H Q):tBM K "list" r (vB j) (tAs K EX (fs.map Arg.ex)) σ H Q:=by
 obtain ⟨F,ρ,W,R,h⟩:=hw;unfold dE at h
 revert h
 cases e0:ρ[j]? with
 | none=>exact fun h=>h.elim
 | some z =>
  cases z with
  | none=>exact fun h=>h.elim
  | some z =>
   obtain ⟨c0,m0⟩:=z
   have go:m0 ≠ .fz->∀ es,c0 = .lst es->OkV K F EX σ H W (match evA (fs.map Arg.ex) ρ with
    | some (.ok ds,ρ1)=>match ρ1[j]? with
     | some (some (c,.ow))=>match u c ds with
      | some (c',d)=>some (.ok d false,ρ1.set j (some (c',.ow)))
      | none=>none
     | some (some (c,.io))=>match u c ds with
      | some (c',d)=>some (.ok d false,ρ1.set j (some (c',.io)))
      | none=>none
     | _=>none
    | some (.ex C,ρ1)=>some (.ex C,ρ1)
    | none=>none) Q->tBM K "list" r (vB j) (tAs K EX (fs.map Arg.ex)) σ H Q:=fun hm0 es hc0 h=>by
    subst hc0;obtain ⟨v,hv,ok0⟩:=R.slot j _ _ e0
    have own0:∃ p,v = .ref p/\p∈W/\aQ K H (hid (W++F.Z) H) p (.lst es):=by
     cases m0 with
     | fz=>exact absurd rfl hm0
     | ow=>exact ok0
     | io=>obtain ⟨p,a,b,c,_⟩:=ok0;exact ⟨p,a,b,c⟩
    obtain ⟨p,rfl,hp,xs,hx,_⟩:=own0;refine ⟨_,hv,.inl ⟨rfl,xs,.inl (.inl hx)⟩,mZ fs R ?_⟩
    revert h
    cases evA (fs.map Arg.ex) ρ with
    | none=>exact fun h=>h
    | some q =>
     obtain ⟨q,ρ1⟩:=q
     cases q with
     | ex C=>exact fun h=>h
     | ok ds =>
      dsimp only;intro h vs H1 W1 fr1 sub1 R1 reps
      have step:∀ (c:D) (m:Md),m ≠ .fz->ρ1[j]?=some (some (c,m))->∀ c' d,u c ds=some (c',d)->OkV K F EX σ H W (some (.ok d false,ρ1.set j (some (c',m)))) Q->r (.ref p) vs H1 Q:=fun c m hm e1 c' d eu h=>by
       obtain ⟨v1,hv1,ok1⟩:=R1.slot j c m e1;rw [hv] at hv1;cases hv1
       have own1:p∈W1/\aQ K H1 (hid (W1++F.Z) H1) p c:=by
        cases m with
        | fz=>exact absurd rfl hm
        | ow=>obtain ⟨p',a,b,c⟩:=ok1;cases a;exact ⟨b,c⟩
        | io=>obtain ⟨p',a,b,c,_⟩:=ok1;cases a;exact ⟨b,c⟩
       refine hs H1 (W1++F.Z) p c ds vs c' d Q own1.2 (Bc _ own1.1) reps eu fun v2 o new rd=> ?_
       obtain ⟨R2,fr2⟩:=R1.write e1 hm hv new;refine h v2 _ W1 (fr1.trans fr2 fun q hq=> .inl (sub1 q hq)) sub1 ⟨?_,R2⟩;rw [tK (Bc _ own1.1)];exact rd
      revert h
      split
      ·rename_i c e1
       split
       ·rename_i c' d eu
        exact fun h=>step c .ow (by decide) e1 c' d eu h
       ·exact fun h=>h.elim
      ·rename_i c e1
       split
       ·rename_i c' d eu
        exact fun h=>step c .io (by decide) e1 c' d eu h
       ·exact fun h=>h.elim
      ·exact fun h=>h.elim
   cases m0 with
   | fz=>exact fun h=>h.elim
   | ow=>cases c0<;>first | exact fun h=>h.elim | exact fun h=>go (by decide) _ rfl h
   | io=>cases c0<;>first | exact fun h=>h.elim | exact fun h=>go (by decide) _ rfl h
end
def uAppend:D->List D->Option (D×D)
 | .lst ds,[d]=>if small ds.length=true then some (.lst (ds++[d]),.non) else none
 | _,_=>none
def cM:D->List D->Option (D×D)
 | .lst ds,[.lst es]=>if small (ds.length+es.length)=true then some (.lst (ds++es),.non) else none
 | .lst ds,[.tup es]=>if small (ds.length+es.length)=true then some (.lst (ds++es),.non) else none
 | _,_=>none
def uPop:D->List D->Option (D×D)
 | .lst ds,[]=>match ds[ds.length - 1]? with
  | some d=>some (.lst ds.dropLast,d)
  | none=>none
 | _,_=>none
def uPopAt:D->List D->Option (D×D)
 | .lst ds,[.int i]=>if (decide (-1000000000<=i/\i<=1000000000))=true then match seqIndex? i ds.length with
  | some k=>match ds[k]? with
   | some d=>some (.lst (ds.eraseIdx k),d)
   | none=>none
  | none=>none
  else none
 | _,_=>none
section
variable{K:Dy}
def pN(K:Dy):V->List V->Hp->VK->Prop:=fun x vs H Q=>sU x vs H Q\/pM x vs H Q
theorem rl{X:Cx}:MtM X "list.extend" (pN X.K):=by
 intro pins s σ H x xs v us Q I rx r h
 rcases h with h | h
 ·exact uv pins s σ H x xs v us Q I rx r h
 ·exact rj pins s σ H x xs v us Q I rx r h
theorem uy:MeS K (pN K) cM:=by
 intro H L p c ds vs c' d Q hO hp hr e q;unfold cM at e
 split at e
 ·obtain ⟨xs,h1,h2⟩:=hO
  split at e
  ·rename_i hs
   cases e
   match vs,hr with
   | [v],hr =>
    obtain ⟨b,ys,rfl,h3,h4⟩:=hr.1;exact .inl ⟨p,b,xs,ys,rfl,rfl,h1,(ar h3).2,eB (by rw [<- h2.len,<- h4.len];exact hs),q _ _ ⟨_,am,h2.app h4⟩ rfl⟩
  ·cases e
 ·obtain ⟨xs,h1,h2⟩:=hO
  split at e
  ·rename_i hs
   cases e
   match vs,hr with
   | [v],hr =>
    obtain ⟨b,ys,rfl,h3,h4⟩:=hr.1;exact .inr ⟨p,b,xs,ys,rfl,rfl,h1,(ar h3).2,eB (by rw [<- h2.len,<- h4.len];exact hs),q _ _ ⟨_,am,h2.app h4⟩ rfl⟩
  ·cases e
 ·cases e
end
section
variable{X:Cx}{EX:EXT}{e:Expr}{es:List Expr}{pos p1 apos cpos:Pos}{n:Str}{j:Nat}
theorem c_meth{name:Str}{id:String}{u:D->List D->Option (D×D)}{fs:List SE}{r:V->List V->Hp->VK->Prop}(hs:MeS X.K r u)(hm:MtM X id r)(slot:Slot "list" name id)(hty:typeOf (.builtin id)=pure (.type "method_descriptor"))(hN:X.N[j]?=some n)(hv:Vis X.env.scope n)(ha:JF X EX (e::es) fs)
 (hbase:attributeBase (.Name n p1) name X.env (eval (.Name n p1) X.env)=eval (.Name n p1) X.env:=by rfl)
 (hfew:((backTo cpos (starEach (e::es) X.env)).all (fun x => !x.1)&&(backToKw cpos (keywordEach [] X.env)).all (fun x=>x.1.isSome)
   && decide ((e::es).length+([]:List Keyword).length+(if ([]:List Keyword).isEmpty then 0 else 1) < 30))=true:=by rfl)
 (hline:(apos.endLine == cpos.line)=true:=by rfl) (hst:starEach (e::es) X.env=(false,eval e X.env)::starEach es X.env:=by rfl) (hplain:(backTo cpos (starEach es X.env)).any (·.1)=false:=by rfl)
 (hd:(n == ("__debug__" : Str))=false:=by decide) (hcd:(n == ("__classdict__" : Str))=false:=by decide):JE X EX (.Call (.Attribute (.Name n p1) name apos) (e::es) [] cpos) (dE j u fs) :=
 ⟨(s0 CY slot hty hm (fI hN hv hd hcd) ha.p hbase hfew hline hst hplain).by fun σ H Q h=>zx hs h⟩
end
def dF(u:D->D->D->Option D)(j:Nat)(f fi:SE):SS:=fun ρ=>match f ρ with
 | some (.ok d _,ρ1)=>match ρ1[j]? with
  | some (some _)=>match fi ρ1 with
   | some (.ok i _,ρ2)=>match ρ2[j]? with
    | some (some (c,.ow))=>match u c i d with
     | some c'=>some (.nx,ρ2.set j (some (c',.ow)))
     | none=>none
    | some (some (c,.io))=>match u c i d with
     | some c'=>some (.nx,ρ2.set j (some (c',.io)))
     | none=>none
    | _=>none
   | some (.ex C,ρ2)=>some (.ex C,ρ2)
   | none=>none
  | _=>none
 | some (.ex C,ρ1)=>some (.ex C,ρ1)
 | none=>none
def PuS(K:Dy)(r:V->V->V->Hp->(Hp->Prop)->Prop)(u:D->D->D->Option D):Prop :=
 ∀ (H:Hp) (L:List Addr) (p:Addr) (c i d c':D) (vi vd:V) (Q:Hp->Prop),aQ K H (hid L H) p c->p∈L->aI K (hid L H) i vi->aI K (hid L H) d vd->u c i d=some c' ->
  (∀ o,aQ K (upd H p o) (hid L H) p c'->Q (upd H p o))->r (.ref p) vi vd H Q
theorem tJ{K:Dy}{EX:EXT}{u:D->D->D->Option D}{r:V->V->V->Hp->(Hp->Prop)->Prop}{j:Nat}{f fi:SE}{E:mE}{σ:St}{H:Hp}(hs:PuS K r u)(h:tVS K EX (dF u j f fi) E σ H) :
 tV K EX f σ H fun v H1=>∃ o,σ[j]?=some (some o)/\tV K EX fi σ H1 fun i H2=>r o i v H2 fun H3=>E.nx σ H3:=by
 obtain ⟨F,ρ,W,R,h⟩:=h;refine ⟨F,ρ,W,R,?_⟩;unfold dF at h
 revert h
 cases f ρ with
 | none=>exact fun h=>h
 | some q =>
  obtain ⟨q,ρ1⟩:=q
  cases q with
  | ex C=>exact fun h H2 W2 fr2 sub2 R2=>h σ H2 W2 fr2 (fun p hp=> .inl (sub2 p hp)) R2
  | ok d nw =>
   dsimp only
   cases e1:ρ1[j]? with
   | none=>exact fun h=>h.elim
   | some z =>
    cases z with
    | none=>exact fun h=>h.elim
    | some z =>
     obtain ⟨c1,m1⟩:=z;intro h v H1 W1 fr1 sub1 P1;obtain ⟨rd,R1⟩:=P1.plain;obtain ⟨o,ho,_⟩:=R1.slot j _ _ e1;refine ⟨o,ho,F,ρ1,W1,R1,?_⟩
     revert h
     dsimp only
     cases fi ρ1 with
     | none=>exact fun h=>h
     | some q =>
      obtain ⟨q,ρ2⟩:=q
      cases q with
      | ex C=>exact fun h H2 W2 fr2 sub2 R2=>h σ H2 W2 (fr1.trans fr2 fun p hp=> .inl (sub1 p hp)) (fun p hp=> .inl (sub1 p (sub2 p hp))) R2
      | ok i nw2 =>
       dsimp only;intro h vi H2 W2 fr2 sub2 P2;obtain ⟨ri,R2⟩:=P2.plain
       have step:∀ (c:D) (m:Md),m ≠ .fz->ρ2[j]?=some (some (c,m))->∀ c',u c i d=some c'->OkS K F EX H W (some (.nx,ρ2.set j (some (c',m)))) E->r o vi v H2 fun H3=>E.nx σ H3:=fun c m hm e2 c' eu h=>by
        obtain ⟨v1,hv1,ok1⟩:=R2.slot j c m e2;rw [ho] at hv1;cases hv1
        have own1:∃ p,o = .ref p/\p∈W2/\aQ K H2 (hid (W2++F.Z) H2) p c:=by
         cases m with
         | fz=>exact absurd rfl hm
         | ow=>exact ok1
         | io=>obtain ⟨p',a,b,c,_⟩:=ok1;exact ⟨p',a,b,c⟩
        obtain ⟨p,rfl,hp,hO⟩:=own1
        refine hs H2 (W2++F.Z) p c i d c' vi v _ hO (Bc _ hp) ri ((fr2.hid fun p hp=> .inl (sub2 p hp)).repD rd) eu fun o' new=> ?_
        obtain ⟨R3,fr3⟩:=R2.write e2 hm ho new;exact h σ _ W2 ((fr1.trans fr2 fun p hp=> .inl (sub1 p hp)).trans fr3 fun p hp=> .inl (sub1 p (sub2 p hp))) (fun p hp=> .inl (sub1 p (sub2 p hp))) R3
       revert h
       split
       ·rename_i c e2
        split
        ·rename_i c' eu
         exact fun h=>step c .ow (by decide) e2 c' eu h
        ·exact fun h=>h.elim
       ·rename_i c e2
        split
        ·rename_i c' eu
         exact fun h=>step c .io (by decide) e2 c' eu h
        ·exact fun h=>h.elim
       ·exact fun h=>h.elim
def ki:D->D->D->Option D
 | .lst ds,.int k,d=>match ixN ds.length k with
  | some n=>some (.lst (ds.set n d))
  | none=>none
 | _,_,_=>none
theorem yO{K:Dy}:PuS K AF ki:=by
 intro H L p c i d c' vi vd Q hO hp ri rd e q;unfold ki at e
 split at e
 ·rename_i ds k
  obtain ⟨xs,h1,h2⟩:=hO
  split at e
  ·rename_i n en
   cases e;exact ⟨p,xs,k,n,rfl,ri,h1,by rw [<- h2.len];exact en,q _ ⟨_,am,h2.set rd n⟩⟩
  ·cases e
 ·cases e
section
variable{X:Cx}{EX:EXT}{e i:Expr}{pos pos' p1:Pos}{n:Str}{j:Nat}{f fi:SE}
theorem s_item(he:JE X EX e f)(hi:JE X EX i fi)(hN:X.N[j]?=some n)(hv:Vis X.env.scope n)(hs:swapsWithSole [.Subscript (.Name n p1) i pos'] e pos.line X.env=pure false:=by rfl)(hw:swappedStores [.Subscript (.Name n p1) i pos'] e X.env=pure none:=by rfl)
 (h1:(assignEach [.Subscript (.Name n p1) i pos'] X.env).map (·.2)=[assign (.Subscript (.Name n p1) i pos') X.env]:=by rfl)
 (ha:∀ v,assign (.Subscript (.Name n p1) i pos') X.env v=(do
   let ov <- holding [v] (eval (.Name n p1) X.env)
   let iv <- holding [v,ov] (eval i X.env)
   standAt pos'
   holding [v,ov,iv] (setItem ov iv v)
   release [v,ov,iv] []):=by intro _;rfl)
 (hd:(n == ("__debug__" : Str))=false:=by decide) (hcd:(n == ("__classdict__" : Str))=false:=by decide):JS X EX (.Assign [.Subscript (.Name n p1) i pos'] e pos) (dF ki j f fi) :=
 ⟨(v9 he.p (pg_sub (fI hN hv hd hcd) hi.p vI ha) hs hw h1).by fun D σ H h=>tJ yO h⟩
end
def o8:D->D->D->Option D
 | .dK ks vs,k,d=>match dM k with
  | some k=>if (small ks.length&&decide ks.Nodup)=true then some (.dK (iX ks vs k d).1 (iX ks vs k d).2) else none
  | none=>none
 | .dT ks vs,.tup l,d=>match fP l with
  | some k=>if (small ks.length&&decide ks.Nodup)=true then some (.dT (iX ks vs k d).1 (iX ks vs k d).2) else none
  | none=>none
 | _,_,_=>none
def rPutD:V->V->V->Hp->(Hp->Prop)->Prop:=fun x y v H Q=>∃ a H',x = .ref a/\o0 H a y v H'/\Q H'
theorem yP{K:Dy}:PuS K rPutD o8:=by
 intro H L p c i d c' vi vd Q hO hp ri rd e q;unfold o8 at e
 split at e
 ·rename_i ks vs
  obtain ⟨xs,h1,h2,h3⟩:=hO
  split at e
  ·rename_i k ek
   split at e
   ·rename_i hsn
    have hsn:=(By _ _).mp hsn;cases e;obtain ⟨i1,i2,i3⟩:=kJ (x:=k) rd h2 h3;refine ⟨p,_,rfl,by rw [eJ ek ri];exact o0.k (k:=k) h1 (by rw [Cw,<- h2,CL];exact pp hsn.1),q _ ⟨(iz ks xs k vd).2,?_,?_,i2⟩⟩
    ·rw [<- i1,kI h2 (Bt hsn.2)]
     exact am
    ·rw [<- i1];exact i3
   ·cases e
  ·cases e
 ·rename_i ks vs l
  obtain ⟨xs,h1,h2,h3⟩:=hO;obtain ⟨b,ys,rfl,h4,h5⟩:=ri
  split at e
  ·rename_i k ek
   split at e
   ·rename_i hsn
    have hsn:=(By _ _).mp hsn;cases e;obtain ⟨i1,i2,i3⟩:=kJ (x:=k) rd h2 h3;have h4:=(ar h4).2;rw [eV ek h5] at h4;refine ⟨p,_,rfl,o0.t (k:=k) h1 h4 (by rw [Cw,<- h2,CL];exact pp hsn.1),q _ ⟨(iz ks xs k vd).2,?_,?_,i2⟩⟩
    ·rw [<- i1,kI h2 (Bt hsn.2)]
     exact am
    ·rw [<- i1];exact i3
   ·cases e
  ·cases e
 ·cases e
section
variable{X:Cx}{EX:EXT}{e i:Expr}{pos pos' p1:Pos}{n:Str}{j:Nat}{f fi:SE}
theorem s_dput(hu:X.A.units+1 < cLine)(he:JE X EX e f)(hi:JE X EX i fi)(hN:X.N[j]?=some n)(hv:Vis X.env.scope n)(hs:swapsWith e (some (.Subscript (.Name n p1) i pos')) pos.line X.env=pure false:=by rfl)
 (hd:(n == ("__debug__" : Str))=false:=by decide) (hcd:(n == ("__classdict__" : Str))=false:=by decide):JS X EX (.Assign [.Subscript (.Name n p1) i pos'] e pos) (dF o8 j f fi) :=
 ⟨(yQ hu (fI hN hv hd hcd) hi.p he.p hs).by fun D σ H h=>tJ yP h⟩
def pz(d:D):SE:=fun ρ=>some (.ok d true,ρ)
theorem Ak:JE X EX (.Dict [] [] pos) (pz (.dK [] [])):=⟨wk.by fun σ H Q ⟨F,ρ,W,R,h⟩ p hp=>h _ _ W ((ac.upd hp).fr) (fun _ z=>z) (gc.e (nw:=true) ⟨p,rfl,hp,[],am,rfl,trivial⟩ R (ac.upd hp))⟩
theorem Aj:JE X EX (.Dict [] [] pos) (pz (.dT [] [])):=⟨wj.by fun σ H Q ⟨F,ρ,W,R,h⟩ p hp=>h _ _ W ((ac.upd hp).fr) (fun _ z=>z) (gc.e (nw:=true) ⟨p,rfl,hp,[],am,rfl,trivial⟩ R (ac.upd hp))⟩
end
end L2
namespace L2
open PySem PySem.Spec PyProof.Rows ZpA
def cc:D->Option (List D)
 | .lst ds=>some ds
 | .klst ds=>some ds
 | .tup ds=>some ds
 | .ktup ds=>some ds
 | _=>none
def ItsA:Kd->Dy->Addr->L2.It
 | .L=>Itl
 | .T=>Itt
theorem SqA.same{c:Kd}{K:Dy}{H H':Hp}{a:Addr}{xs:List V}(e:ac H H')(h:SqA c K H a xs):SqA c K H' a xs:=by
 cases c with
 | L=>exact e.seq h
 | T=>exact e.tup h
theorem jW{K:Dy}{H:Hp}{d:D}{v:V}{ds:List D}(e:cc d=some ds)(r:aI K H d v):∃ a c xs,v = .ref a/\SqA c K H a xs/\ai K H ds xs:=by
 cases d<;>first
  | (unfold cc at e;cases e;done)
  | (unfold cc at e;cases e;obtain ⟨p,xs,h1,h2,h3⟩:=r;exact ⟨p,.L,xs,h1,.inl (.inl h2),h3⟩)
  | (unfold cc at e;cases e;obtain ⟨p,xs,h1,h2,h3⟩:=r;exact ⟨p,.T,xs,h1,.inl (.inl h2),h3⟩)
  | (unfold cc at e;cases e;obtain ⟨p,xs,h1,h2,h3⟩:=r;exact ⟨p,.L,xs,h1,h2,h3⟩)
  | (unfold cc at e;cases e;obtain ⟨p,xs,h1,h2,h3⟩:=r;exact ⟨p,.T,xs,h1,dW h2,h3⟩)
def iSeqA(K:Dy)(tl:TE):TI:=fun σ H R=>tl σ H fun x H1=>∃ a c,x = .ref a/\∃ xs,SqA c K H1 a xs/\(xs.length<=sizeLine->R (ItsA c K a) H1)
section
variable{X:Cx}{EX:EXT}{tg l:Expr}
theorem yU{tl:TE}(hl:PE X l tl):PI X tg l (iSeqA X.K tl):=by
 intro pins s σ H R I h
 refine thn (hl pins s σ H _ I h) fun v s1 ⟨x,H1,I1,r1,q1⟩=> ?_
 obtain ⟨a,c,e,xs,hq,q⟩:=q1;subst e;cases r1
 cases c with
 | L =>
  obtain ⟨its,rv,p,hz⟩:=I1.list hq;refine CM p.isList ?_;refine ⟨s1.heap.objs.size,[s1.heap.objs.size],_,_,H1,rfl,I1.kept (t':=s1.toks) fun b o e=>Ba _ e,t7 a _,⟨_,Bm _ rfl,rfl,rfl⟩,fun b hb=> ?_,q hz⟩
  have e:b=s1.heap.objs.size:=by simpa using hb
  subst e;exact I1.fpOk (Bq _) (I1.hok.fresh (Bq _))
 | T =>
  obtain ⟨its,rv,p,hz⟩:=I1.tuple hq;refine BU (show s1.heap.IsTuple a its.toArray from p) ?_;refine ⟨s1.heap.objs.size,[s1.heap.objs.size],_,_,H1,rfl,I1.kept (t':=s1.toks) fun b o e=>Ba _ e,qH a _,⟨_,Bm _ rfl,rfl,rfl⟩,fun b hb=> ?_,q hz⟩
  have e:b=s1.heap.objs.size:=by simpa using hb
  subst e;exact I1.fpOk (Bq _) (I1.hok.fresh (Bq _))
theorem wZ{K:Dy}{L0:List Addr}{H0:Hp}{ds:List D}{xs:List V}{a:Addr}{c:Kd}(hs:SqA c K (hid L0 H0) a xs)(hr:ai K (hid L0 H0) ds xs)(hf:xs.length<=sizeLine):ItOk K L0 ds (ItsA c K a) H0 where
 go:=fun H L i d sm hm hd=>by
  obtain ⟨x0,e0,r0⟩:=hr.get hd;have sq:SqA c K H a xs:=hs.same (sm.trans aB)
  cases c with
  | L=>exact ⟨⟨xs,x0,sq,e0⟩,fun x H' y=>by obtain ⟨rfl,y⟩:=y;have e:=y xs sq;rw [e0] at e;cases e;exact ⟨ac.refl _,sm.repD r0⟩⟩
  | T=>exact ⟨⟨xs,x0,sq,e0⟩,fun x H' y=>by obtain ⟨rfl,y⟩:=y;have e:=y xs sq;rw [e0] at e;cases e;exact ⟨ac.refl _,sm.repD r0⟩⟩
 stop:=fun H sm=>by
  have sq:SqA c K H a xs:=hs.same sm
  cases c with
  | L=>exact ⟨xs,sq,by rw [hr.len];exact Bq _⟩
  | T=>exact ⟨xs,sq,by rw [hr.len];exact Bq _⟩
 few:=by rw [hr.len];exact hf
def dg(f:SE):SI:=fun ρ=>match f ρ with
 | some (.ok d _,ρ')=>match cc d with
  | some ds=>some (.ok ds,ρ')
  | none=>none
 | some (.ex C,ρ')=>some (.ex C,ρ')
 | none=>none
theorem i_seq{f:SE}(h:JE X EX l f):JI X EX tg l (dg f) :=
 ⟨fun pins s σ H R I hw=>yU h.p pins s σ H R I (by
  obtain ⟨F,ρ,W,R0,h⟩:=hw;refine ⟨F,ρ,W,R0,?_⟩;unfold dg at h
  revert h
  cases f ρ with
  | none=>exact fun h=>h
  | some q =>
   obtain ⟨q,ρ1⟩:=q
   cases q with
   | ex C=>exact fun h=>h
   | ok d nw =>
    dsimp only
    cases e:cc d with
    | none=>exact fun h=>h.elim
    | some ds =>
     intro h v H1 W1 fr1 sub1 P1;obtain ⟨rd,R1⟩:=P1.plain;obtain ⟨a,c,xs,rfl,hs,hr⟩:=jW e rd
     exact ⟨a,c,rfl,xs,hs.same aB,fun hf=>h _ H1 W1 fr1 sub1 R1 (wZ hs hr hf)⟩)⟩
def okR(lo hi:Int):Bool:=decide (-1000000000<=lo/\lo<=1000000000 /\ -1000000000<=hi/\hi<=1000000000/\(hi - lo).toNat<=1000000)
def mw:List D->Option Int
 | [.int j]=>some j
 | _=>none
def mr:List D->Option (Int×Int)
 | [.int i,.int j]=>some (i,j)
 | _=>none
theorem xc{K:Dy}{H Hh:Hp}{ds:List D}{vs:List V}{j:Int}(e:mw ds=some j)(r:jK K H Hh ds vs):vs=[.int j]:=by
 unfold mw at e
 split at e
 ·cases e
  obtain ⟨y,rfl,ry⟩:=aN r;rw [cU ry]
 ·cases e
theorem xb{K:Dy}{H Hh:Hp}{ds:List D}{vs:List V}{i j:Int}(e:mr ds=some (i,j))(r:jK K H Hh ds vs):vs=[.int i,.int j]:=by
 unfold mr at e
 split at e
 ·cases e
  obtain ⟨y,z,rfl,ry,rz⟩:=aV r;rw [cU ry,cU rz]
 ·cases e
def dh(x:Arg):SI:=fun ρ=>match evA [x] ρ with
 | some (.ok ds,ρ')=>match mw ds with
  | some j=>if okR 0 j=true then some (.ok (gD 0 j.toNat),ρ') else none
  | none=>none
 | some (.ex C,ρ')=>some (.ex C,ρ')
 | none=>none
def eD(x y:Arg):SI:=fun ρ=>match evA [x,y] ρ with
 | some (.ok ds,ρ')=>match mr ds with
  | some (i,j)=>if okR i j=true then some (.ok (gD i (j - i).toNat),ρ') else none
  | none=>none
 | some (.ex C,ρ')=>some (.ex C,ρ')
 | none=>none
theorem pB{lo:Int}{n:Nat}:(gD lo n).length=n:=by unfold gD;simp
theorem vM{lo:Int}{n i:Nat}{d:D}(h:(gD lo n)[i]?=some d):i < n/\d = .int (lo+(i:Nat)):=by
 unfold gD at h;rw [BI] at h;obtain ⟨k,hk,rfl⟩:=BM.mp h;obtain ⟨h1,h2⟩:=Bs.mp hk;simp at h1 h2;subst h2;exact ⟨h1,rfl⟩
theorem p6{K:Dy}{L0:List Addr}{H0:Hp}{lo:Int}{n:Nat}(hf:n<=1000000):ItOk K L0 (gD lo n) (Itr lo n) H0 where
 go:=fun H L i d sm hm hd=>by
  obtain ⟨h1,rfl⟩:=vM hd;exact ⟨h1,fun x H' y=>by obtain ⟨rfl,rfl⟩:=y;exact ⟨ac.refl _,rfl⟩⟩
 stop:=fun H sm=>by rw [pB];exact Bq n
 few:=by rw [pB];exact Nat.le_trans hf (by decide)
theorem i_rng1{a:Expr}{x:Arg}{p pos:Pos}(hg:Gl X "range")(hm:X.mg "range" = none)(ha:JA X EX [a] [x])(hs:starEach [a] X.env=[(false,eval a X.env)]:=by rfl):JI X EX tg (.Call (.Name "range" p) [a] [] pos) (dh x) :=
 ⟨fun pins s σ H R I hw=>ul hg hm ha.p hs pins s σ H R I (by
  obtain ⟨F,ρ,W,R0,h⟩:=hw;refine nv [x] R0 ?_;unfold dh at h
  revert h
  cases evA [x] ρ with
  | none=>exact fun h=>h
  | some q =>
   obtain ⟨q,ρ1⟩:=q
   cases q with
   | ex C=>exact fun h=>h
   | ok ds =>
    dsimp only
    cases e:mw ds with
    | none=>exact fun h=>h.elim
    | some j =>
     dsimp only
     split
     ·rename_i hj
      have hj:=Bt hj;intro h vs H1 W1 fr1 sub1 R1 reps;exact ⟨j,xc e reps,by omega,by omega,h _ H1 W1 fr1 sub1 R1 (p6 (by have:=hj.2.2.2.2;omega))⟩
     ·exact fun h=>h.elim)⟩
theorem i_rng2{a b:Expr}{x y:Arg}{p pos:Pos}(hg:Gl X "range")(hm:X.mg "range" = none)(ha:JA X EX [a,b] [x,y])(hs:starEach [a,b] X.env=[(false,eval a X.env),(false,eval b X.env)]:=by rfl)(hs2:starEach [b] X.env=[(false,eval b X.env)]:=by rfl):JI X EX tg (.Call (.Name "range" p) [a,b] [] pos) (eD x y) :=
 ⟨fun pins s σ H R I hw=>uk hg hm ha.p hs hs2 pins s σ H R I (by
  obtain ⟨F,ρ,W,R0,h⟩:=hw;refine nv [x,y] R0 ?_;unfold eD at h
  revert h
  cases evA [x,y] ρ with
  | none=>exact fun h=>h
  | some q =>
   obtain ⟨q,ρ1⟩:=q
   cases q with
   | ex C=>exact fun h=>h
   | ok ds =>
    dsimp only
    cases e:mr ds with
    | none=>exact fun h=>h.elim
    | some ij =>
     obtain ⟨i,j⟩:=ij;dsimp only
     split
     ·rename_i hj
      have hj:=Bt hj;intro h vs H1 W1 fr1 sub1 R1 reps;exact ⟨i,j,xb e reps,⟨by omega,by omega,by omega,by omega⟩,h _ H1 W1 fr1 sub1 R1 (p6 hj.2.2.2.2)⟩
     ·exact fun h=>h.elim)⟩
def fR:Nat->List D->List D
 | _,[]=>[]
 | i,d::ds=> .tup [.int (i:Nat),d]::fR (i+1) ds
theorem jf:∀ {i:Nat} {ds:List D},(fR i ds).length=ds.length
 | _,[]=>rfl
 | i,d::ds=>by unfold fR;rw [Bj,Bj,jf]
theorem nc:∀ {i j:Nat} {ds:List D} {e:D},(fR i ds)[j]?=some e->∃ d,ds[j]?=some d/\e = .tup [.int ((i+j:Nat)),d]
 | i,j,[],e,h=>by unfold fR at h;simp at h
 | i,0,d::ds,e,h=>by
  unfold fR at h;simp only [BB,Option.some.injEq] at h;exact ⟨d,rfl,h.symm⟩
 | i,j+1,d::ds,e,h=>by
  unfold fR at h;simp only [BF] at h ⊢;obtain ⟨d',h1,h2⟩:=nc h;exact ⟨d',h1,by rw [h2,show i+1+j=i+(j+1) by omega]⟩
def gR:List D->List D->List D
 | a::as,b::bs=> .tup [a,b]::gR as bs
 | _,_=>[]
theorem kh:∀ {as bs:List D},as.length<=bs.length->(gR as bs).length=as.length
 | [],_,_=>by unfold gR;rfl
 | a::as,b::bs,h=>by unfold gR;rw [Bj,Bj,kh (by simpa using h)]
 | _::_,[],h=>by simp at h
theorem o4:∀ {as bs:List D} {j:Nat} {e:D},(gR as bs)[j]?=some e->∃ a b,as[j]?=some a/\bs[j]?=some b/\e = .tup [a,b]
 | [],_,j,e,h=>by unfold gR at h;simp at h
 | _::_,[],j,e,h=>by unfold gR at h;simp at h
 | a::as,b::bs,0,e,h=>by
  unfold gR at h;simp only [BB,Option.some.injEq] at h;exact ⟨a,b,rfl,rfl,h.symm⟩
 | a::as,b::bs,j+1,e,h=>by
  unfold gR at h;simp only [BF] at h ⊢;exact o4 h
def eE(f:SE):SI:=fun ρ=>match f ρ with
 | some (.ok d _,ρ')=>match cc d with
  | some ds=>some (.ok (fR 0 ds),ρ')
  | none=>none
 | some (.ex C,ρ')=>some (.ex C,ρ')
 | none=>none
theorem pO{K:Dy}{H:Hp}{L:List Addr}{p:Addr}{a b:D}{x y:V}(hm:∀ p∈L,dQ (H p))(hp:H p=none)(ra:aI K (hid L H) a x)(rb:aI K (hid L H) b y):aI K (hid L (upd H p (.tup [x,y]))) (.tup [a,b]) (.ref p) :=
 gs hm (show ai K (hid L H) [a,b] [x,y] from ⟨ra,rb,trivial⟩) (ac.upd hp) am
theorem i_enum{elts:List Expr}{k}{tpos:Pos}{f:SE}{p pos:Pos}(hg:Gl X "enumerate")(hm:X.mg "enumerate" = none)(h:JE X EX l f)(hs:starEach [l] X.env=[(false,eval l X.env)]:=by rfl):JI X EX (.Tuple elts k tpos) (.Call (.Name "enumerate" p) [l] [] pos) (eE f) :=
 ⟨fun pins s σ H R I hw=>we hg hm (aH h.p cG hs) hs pins s σ H R I (by
  obtain ⟨F,ρ,W,R0,h⟩:=hw;refine ⟨F,ρ,W,R0,?_⟩;unfold eE at h
  revert h
  cases f ρ with
  | none=>exact fun h=>h
  | some q =>
   obtain ⟨q,ρ1⟩:=q
   cases q with
   | ex C=>exact fun h=>h
   | ok d nw =>
    dsimp only
    cases e:cc d with
    | none=>exact fun h=>h.elim
    | some ds =>
     intro h v H1 W1 fr1 sub1 P1;obtain ⟨rd,R1⟩:=P1.plain;obtain ⟨a,c,xs,rfl,hq,hr⟩:=jW e rd;refine ⟨a,c,rfl,xs,hq.same aB,fun hf=>h _ H1 W1 fr1 sub1 R1 ⟨fun H L i d sm hm hd=> ?_,fun H sm=> ?_,?_⟩⟩
     ·obtain ⟨d0,e0,rfl⟩:=nc hd
      obtain ⟨x0,ex,r0⟩:=hr.get e0;have sq:SqA c X.K H a xs:=hq.same (sm.trans aB);refine ⟨⟨xs,x0,sq,ex⟩,fun x H' y=> ?_⟩;obtain ⟨p,y,rfl,hp,rfl,hy⟩:=y;have e1:=hy xs sq;rw [ex] at e1;cases e1;refine ⟨ac.upd hp,?_⟩;have:=pO (K:=X.K) (a:= .int ((i:Nat):Int)) (x:= .int (i:Nat)) hm hp rfl (sm.repD r0);rw [BW];exact this
     ·rw [jf,hr.len]
      exact ⟨xs,hq.same sm,Bq _⟩
     ·rw [jf,hr.len];exact hf)⟩
def vJ:List D->Option (List D×List D)
 | [a,b]=>match cc a,cc b with
  | some x,some y=>some (x,y)
  | _,_=>none
 | _=>none
def jM(fs:List SE):SI:=fun ρ=>match evA (fs.map Arg.ex) ρ with
 | some (.ok ds,ρ')=>match vJ ds with
  | some (a,b)=>if decide (a.length<=b.length)=true then some (.ok (gR a b),ρ') else none
  | none=>none
 | some (.ex C,ρ')=>some (.ex C,ρ')
 | none=>none
theorem i_zip{elts:List Expr}{k}{tpos:Pos}{l l':Expr}{fs:List SE}{p pos:Pos}(hg:Gl X "zip")(hm:X.mg "zip" = none)(h:JF X EX [l,l'] fs)(hs:starEach [l,l'] X.env=[(false,eval l X.env),(false,eval l' X.env)]:=by rfl)(hs2:starEach [l'] X.env=[(false,eval l' X.env)]:=by rfl) :
 JI X EX (.Tuple elts k tpos) (.Call (.Name "zip" p) [l,l'] [] pos) (jM fs) :=
 ⟨fun pins s σ H R I hw=>yS hg hm h.p hs hs2 pins s σ H R I (by
  obtain ⟨F,ρ,W,R0,h⟩:=hw;refine mZ fs R0 ?_;unfold jM at h
  revert h
  cases evA (fs.map Arg.ex) ρ with
  | none=>exact fun h=>h
  | some q =>
   obtain ⟨q,ρ1⟩:=q
   cases q with
   | ex C=>exact fun h=>h
   | ok ds =>
    dsimp only
    cases e:vJ ds with
    | none=>exact fun h=>h.elim
    | some ab =>
     obtain ⟨as,bs⟩:=ab;dsimp only
     split
     ·rename_i hl
      have hl:=Bt hl;intro h vs H1 W1 fr1 sub1 R1 reps;unfold vJ at e
      split at e
      ·rename_i da db
       split at e
       ·rename_i x y ea eb
        cases e
        match vs,reps with
        | [va,vb],reps =>
         obtain ⟨a,c1,xs,rfl,hq,hr⟩:=jW ea reps.1;obtain ⟨b,c2,ys,rfl,hq2,hr2⟩:=jW eb reps.2.1;refine ⟨a,b,c1,c2,rfl,xs,hq.same aB,fun hf=>⟨⟨ys,hq2.same aB⟩,h _ H1 W1 fr1 sub1 R1 ⟨fun H L i d sm hm hd=> ?_,fun H sm=> ?_,?_⟩⟩⟩
         ·obtain ⟨d1,d2,e1,e2,rfl⟩:=o4 hd
          obtain ⟨x0,ex,r0⟩:=hr.get e1;obtain ⟨y0,ey,r1⟩:=hr2.get e2;have sq:SqA c1 X.K H a xs:=hq.same (sm.trans aB);have sq2:SqA c2 X.K H b ys:=hq2.same (sm.trans aB);refine ⟨⟨xs,ys,x0,y0,sq,sq2,ex,ey⟩,fun x H' y=> ?_⟩;obtain ⟨p,y,z,rfl,hp,rfl,hy,hz⟩:=y;have e3:=hy xs sq;have e4:=hz ys sq2;rw [ex] at e3;rw [ey] at e4;cases e3;cases e4;exact ⟨ac.upd hp,pO hm hp (sm.repD r0) (sm.repD r1)⟩
         ·rw [kh hl,hr.len]
          exact ⟨xs,hq.same sm,Bq _⟩
         ·rw [kh hl,hr.len];exact hf
       ·cases e
      ·cases e
     ·exact fun h=>h.elim)⟩
end
def cZ(g g':List D->Option (D×Bool))(f1 f2 f3:SE):SE:=fun ρ=>match evA [.ex f1,.ex f2] ρ with
 | some (.ok [a,b],ρ1)=>match g [a,b] with
  | some (.bl true,false)=>match f3 ρ1 with
   | some (.ok c _,ρ2)=>match g' [b,c] with
    | some (d,false)=>some (.ok d false,ρ2)
    | _=>none
   | some (.ex C,ρ2)=>some (.ex C,ρ2)
   | none=>none
  | some (.bl false,false)=>some (.ok (.bl false) false,ρ1)
  | _=>none
 | some (.ok _,_)=>none
 | some (.ex C,ρ')=>some (.ex C,ρ')
 | none=>none
theorem xI{K:Dy}{EX:EXT}{σ:St}{H:Hp}{Q:VK}{r r':R2}{g g':List D->Option (D×Bool)}{f1 f2 f3:SE}(hs:OpS K (r2 r) g)(hs':OpS K (r2 r') g')(hw:tV K EX (cZ g g' f1 f2 f3) σ H Q):vC r r' (tV K EX f1) (tV K EX f2) (tV K EX f3) σ H Q:=by
 obtain ⟨F,ρ,W,R,h⟩:=hw
 have z:tAs K EX (([f1,f2]:List SE).map Arg.ex) σ H (fun vs H2=>match vs with
  | [x,y]=>r x y H2 fun z H3=>∃ k,z = .bl k/\(if k=true then tV K EX f3 σ H3 fun w' H4=>r' y w' H4 Q else Q (.bl false) H3)
  | _=>False):=by
  refine mZ [f1,f2] R ?_;unfold cZ at h
  revert h
  show OkV K F EX σ H W (match evA (([f1,f2]:List SE).map Arg.ex) ρ with
   | some (.ok [a,b],ρ1)=>match g [a,b] with
    | some (.bl true,false)=>match f3 ρ1 with
     | some (.ok c _,ρ2)=>match g' [b,c] with
      | some (d,false)=>some (.ok d false,ρ2)
      | _=>none
     | some (.ex C,ρ2)=>some (.ex C,ρ2)
     | none=>none
    | some (.bl false,false)=>some (.ok (.bl false) false,ρ1)
    | _=>none
   | some (.ok _,_)=>none
   | some (.ex C,ρ')=>some (.ex C,ρ')
   | none=>none) Q->_
  cases evA (([f1,f2]:List SE).map Arg.ex) ρ with
  | none=>exact fun h=>h
  | some q =>
   obtain ⟨q,ρ1⟩:=q
   cases q with
   | ex C=>exact fun h=>h
   | ok ds =>
    match ds with
    | []=>exact fun h=>h.elim
    | [_]=>exact fun h=>h.elim
    | _::_::_::_=>exact fun h=>h.elim
    | [a,b] =>
     dsimp only;intro h vs H1 W1 fr1 sub1 R1 reps
     match vs,reps with
     | [x,y],reps =>
      have rb:jK K H1 (hid (W1++F.Z) H1) [a,b] [x,y]:=⟨aI.b reps.1 aB,aI.b reps.2.1 aB,trivial⟩
      cases eg:g [a,b] with
      | none=>rw [eg] at h;exact h.elim
      | some dn =>
       obtain ⟨d,nw⟩:=dn;rw [eg] at h
       refine hs [x,y] [a,b] H1 (W1++F.Z) _ d nw R1.mt rb eg fun z H2 s2 p2=> ?_
       have fr2:Fr W H H2:=fr1.trans (s2.fr (W:=W1)) fun p hp=> .inl (sub1 p hp)
       cases d<;>first | (exact h.elim) | skip
       rename_i k
       cases nw with
       | true=>cases k<;>exact h.elim
       | false =>
        have hz:z = .bl k:=p2;refine ⟨k,hz,?_⟩;have R2:=R1.same s2
        cases k with
        | false =>
         rw [if_neg Bo];exact h _ H2 W1 fr2 sub1 ⟨rfl,R2⟩
        | true =>
         rw [if_pos rfl];refine ⟨F,ρ1,W1,R2,?_⟩
         revert h
         dsimp only
         cases f3 ρ1 with
         | none=>exact fun h=>h
         | some q =>
          obtain ⟨q,ρ2⟩:=q
          cases q with
          | ex C=>exact fun h H3 W3 fr3 sub3 R3=>h H3 W3 (fr2.trans fr3 fun p hp=> .inl (sub1 p hp)) (fun p hp=>sub1 p (sub3 p hp)) R3
          | ok c nw2 =>
           dsimp only;intro h w' H3 W3 fr3 sub3 P3;obtain ⟨rc,R3⟩:=P3.plain;have ry:aI K (hid (W3++F.Z) H3) b y:=(fr3.hid fun p hp=> .inl (sub3 p hp)).repD ((aR (fun b hb=> .inl hb) fun b o _ e=>s2 b o e:ac (hid (W1++F.Z) H1) (hid (W1++F.Z) H2)).repD reps.2.1)
           cases eg2:g' [b,c] with
           | none=>rw [eg2] at h;exact h.elim
           | some dn =>
            obtain ⟨d2,nw3⟩:=dn;rw [eg2] at h
            cases nw3 with
            | true=>exact h.elim
            | false =>
             refine hs' [y,w'] [b,c] H3 (W3++F.Z) _ d2 false R3.mt ⟨aI.b ry aB,aI.b rc aB,trivial⟩ eg2 fun v H4 s4 p4=> ?_
             exact h v H4 W3 ((fr2.trans fr3 fun p hp=> .inl (sub1 p hp)).trans (s4.fr (W:=W3)) fun p hp=> .inl (sub1 p (sub3 p hp))) (fun p hp=>sub1 p (sub3 p hp)) ⟨p4,R3.same s4⟩
 exact z
section
variable{X:Cx}{EX:EXT}{a b c:Expr}{pos:Pos}
theorem Al{op op':CmpOp}{r r':R2}{g g':List D->Option (D×Bool)}{f1 f2 f3:SE}(ho:OpR X (compareOp op) r)(ho':OpR X (compareOp op') r')(hs:OpS X.K (r2 r) g)(hs':OpS X.K (r2 r') g')(ha:JE X EX a f1)(hb:JE X EX b f2)(hc:JE X EX c f3)
 (hm:lastMarks [op,op'] [b,c]=false:=by with_unfolding_all rfl):JE X EX (.Compare a [op,op'] [b,c] pos) (cZ g g' f1 f2 f3) :=
 ⟨(wm ho ho' ha.p hb.p hc.p hm).by fun σ H Q h=>xI hs hs' h⟩
end
end L2
namespace L2
open PySem PySem.Spec PyProof.Rows
section
variable{X:Cx}
def vY(K:Dy):List V->Hp->(V->Hp->Prop)->Prop:=fun xs H Q=>∃ (p:Addr) (ns:List Int),xs=[V.ref p]/\SqT K H p (ns.map V.int)/\ns≠[]/\∀ M,M∈ns->(∀ a∈ns,a<=M)->Q (.int M) H
def vX(K:Dy):List V->Hp->(V->Hp->Prop)->Prop:=fun xs H Q=>∃ (p:Addr) (ns:List Int),xs=[V.ref p]/\SqT K H p (ns.map V.int)/\ns≠[]/\∀ M,M∈ns->(∀ a∈ns,M<=a)->Q (.int M) H
theorem uW(hc:X.calm=true):aJ X (.builtin "max") (vY X.K):=by
 intro pins s σ H xs us Q I r h;obtain ⟨p,ns,rfl,hq,ne,q⟩:=h;obtain ⟨u,rfl,ru⟩:=bV r;cases ru;obtain ⟨its,rv,pl,hz⟩:=I.tuple hq;obtain ⟨ps,rfl,e⟩:=cE rv
 have lp:ps.length=ns.length:=by rw [<- e,Be]
 have n0:0 < ns.length:=BP.mpr ne
 have ei:intItems ps.toArray=(ps.map fun p=>Value.int p.1 p.2).toArray:=by unfold intItems;simp
 have ht:s.heap.IsTuple p (intItems ps.toArray):=by rw [ei];exact pl
 have hlt:p < s.heap.objs.size:=by obtain ⟨_,e,_⟩:=ht;exact Bk e
 have sz:ps.toArray.size=ns.length:=by simp [lp]
 obtain ⟨b1,b2⟩:=argBest_gt (numAt ps.toArray) (ps.toArray.size - 1);refine call_max_walk (BU ht ⟨s.heap.objs.size,_,_,_,_,_,_,rfl,Walks.tuple (A:=X.A.in1) (I.ok.hd hc) _ p (BC hlt) (intItems ps.toArray),⟨⟨_,Bm _ rfl,rfl,rfl⟩,ht.push _⟩,fun c hcm=> ?_,by simpa [intItems,lp] using n0,CmpOf.ints_gt (numAt ps.toArray) (fun _ _=>intItems_at),fun v h' tk hP hk=> ?_⟩)
 ·have e1:c=s.heap.objs.size\/c=p:=by simpa using hcm
  show c < (s.heap.push _).objs.size
  rw [Cb]
  rcases e1 with e1 | e1
  ·rw [e1];exact De _
  ·rw [e1];exact C5 hlt
 ·have hv:(intItems ps.toArray)[argBest (fun i j=>decide (numAt ps.toArray i > numAt ps.toArray j)) (ps.toArray.size - 1)]?=some v:=by simpa [intItems] using hP
  obtain ⟨t,rfl⟩:=intItems_at hv;rw [sz] at b1 b2 ⊢;refine ⟨.int _,H,I.kept (h':=h') (t':=tk) fun b' o e=>hk b' o (by have:=Bk e;simp;exact BC this) (Ba _ e),⟨t,rfl⟩,q _ ?_ fun a ha=> ?_⟩
  ·rw [cn e (by omega)]
   exact Ck _
  ·obtain ⟨j,hj,rfl⟩:=Dp ha
   have:=b2 j (by omega);rw [cn e hj] at this;exact this
theorem uR(hc:X.calm=true):aJ X (.builtin "min") (vX X.K):=by
 intro pins s σ H xs us Q I r h;obtain ⟨p,ns,rfl,hq,ne,q⟩:=h;obtain ⟨u,rfl,ru⟩:=bV r;cases ru;obtain ⟨its,rv,pl,hz⟩:=I.tuple hq;obtain ⟨ps,rfl,e⟩:=cE rv
 have lp:ps.length=ns.length:=by rw [<- e,Be]
 have n0:0 < ns.length:=BP.mpr ne
 have ei:intItems ps.toArray=(ps.map fun p=>Value.int p.1 p.2).toArray:=by unfold intItems;simp
 have ht:s.heap.IsTuple p (intItems ps.toArray):=by rw [ei];exact pl
 have hlt:p < s.heap.objs.size:=by obtain ⟨_,e,_⟩:=ht;exact Bk e
 have sz:ps.toArray.size=ns.length:=by simp [lp]
 obtain ⟨b1,b2⟩:=argBest_lt (numAt ps.toArray) (ps.toArray.size - 1);refine call_min_walk (BU ht ⟨s.heap.objs.size,_,_,_,_,_,_,rfl,Walks.tuple (A:=X.A.in1) (I.ok.hd hc) _ p (BC hlt) (intItems ps.toArray),⟨⟨_,Bm _ rfl,rfl,rfl⟩,ht.push _⟩,fun c hcm=> ?_,by simpa [intItems,lp] using n0,CmpOf.ints_lt (numAt ps.toArray) (fun _ _=>intItems_at),fun v h' tk hP hk=> ?_⟩)
 ·have e1:c=s.heap.objs.size\/c=p:=by simpa using hcm
  show c < (s.heap.push _).objs.size
  rw [Cb]
  rcases e1 with e1 | e1
  ·rw [e1];exact De _
  ·rw [e1];exact C5 hlt
 ·have hv:(intItems ps.toArray)[argBest (fun i j=>decide (numAt ps.toArray i < numAt ps.toArray j)) (ps.toArray.size - 1)]?=some v:=by simpa [intItems] using hP
  obtain ⟨t,rfl⟩:=intItems_at hv;rw [sz] at b1 b2 ⊢;refine ⟨.int _,H,I.kept (h':=h') (t':=tk) fun b' o e=>hk b' o (by have:=Bk e;simp;exact BC this) (Ba _ e),⟨t,rfl⟩,q _ ?_ fun a ha=> ?_⟩
  ·rw [cn e (by omega)]
   exact Ck _
  ·obtain ⟨j,hj,rfl⟩:=Dp ha
   have:=b2 j (by omega);rw [cn e hj] at this;exact this
end
def jy:List D->Option (D×Bool)
 | [.tup ds]=>match bu ds with
  | some (n::ns)=>some (.int (ot (n::ns)),false)
  | _=>none
 | ds=>zW ds
def lD:List D->Option (D×Bool)
 | [.tup ds]=>match bu ds with
  | some (n::ns)=>some (.int (oo (n::ns)),false)
  | _=>none
 | ds=>gMin ds
theorem uY{X:Cx}(hc:X.calm=true):aJ X (.builtin "max") (fun xs H Q=>(sR xs H Q\/pL X.K xs H Q)\/vY X.K xs H Q):=(uZ hc).or (uW hc)
theorem uT{X:Cx}(hc:X.calm=true):aJ X (.builtin "min") (fun xs H Q=>(sQ xs H Q\/pK X.K xs H Q)\/vX X.K xs H Q):=(uU hc).or (uR hc)
theorem zf{K:Dy}:OpS K (fun xs H Q=>(sR xs H Q\/pL K xs H Q)\/vY K xs H Q) jy:=by
 intro vs ds H L Q d nw hm r e q;unfold jy at e
 split at e
 ·rename_i es
  obtain ⟨x,rfl,⟨p,xs,rfl,h1,h2⟩⟩:=aN r
  split at e
  ·rename_i n ns en
   cases e;rw [bN en] at h2;rw [bC h2] at h1;refine .inr ⟨p,n::ns,rfl,.inl (.inl (ar h1).2),by simp,fun M m1 m2=> ?_⟩;obtain ⟨z1,z2⟩:=oq (l:=n::ns) (by simp);rw [lU m1 m2 z1 z2];exact q _ H (ac.refl _) rfl
  ·cases e
 ·exact .inl (os_max vs _ H L Q d nw hm r e q)
theorem ze{K:Dy}:OpS K (fun xs H Q=>(sQ xs H Q\/pK K xs H Q)\/vX K xs H Q) lD:=by
 intro vs ds H L Q d nw hm r e q;unfold lD at e
 split at e
 ·rename_i es
  obtain ⟨x,rfl,⟨p,xs,rfl,h1,h2⟩⟩:=aN r
  split at e
  ·rename_i n ns en
   cases e;rw [bN en] at h2;rw [bC h2] at h1;refine .inr ⟨p,n::ns,rfl,.inl (.inl (ar h1).2),by simp,fun M m1 m2=> ?_⟩;obtain ⟨z1,z2⟩:=om (l:=n::ns) (by simp);rw [lf m1 m2 z1 z2];exact q _ H (ac.refl _) rfl
  ·cases e
 ·exact .inl (os_min vs _ H L Q d nw hm r e q)
def nO(nm:Str):SS:=fun ρ=>some (.ex nm,ρ)
theorem yt{P:Program}{w:World}{K:Dy}{mg:Str->Option Value}{base:Heap}{N:List Str}{qual:Str}{scope:Scope}{f:Addr}{cd:Value}{A:Around}{outer:List Env}{s:Shared}{H:Hp}{E:XK}{x:Str}{C:Addr}{bm:List Value}{B newId initId:String}{np cpos pos:Pos}{k:Nat}
 (O:OwnCls x C bm newId mg base) (FB:ExcBaseFacts B newId initId bm) (hc:fS K x C) (hr:cj k (A.deeper (envOfC qual scope s.heap.objs.size f cd)))
 (hg:Gl (bT (CXr P w) P w K mg base N qual scope f cd A outer s H E) x) (hd:(x == ("__debug__" : Str))=false:=by decide):JS (bT (CXr P w) P w K mg base N qual scope f cd A outer s H E) (EXf K E) (.Raise (some (.Call (.Name x np) [] [] cpos)) none pos) (nO x) :=
 ⟨(ui O FB hr.hd hg hd).by fun D σ H ⟨F,ρ,W,R,h⟩=>h σ H W .refl (fun _ z=> .inl z) R C hc none⟩
theorem yk{K:Dy}{run:FS}{H:Hp}{a:Addr}{ns:List Int}(hrun:∃ x,run [.klst (ns.map D.int)]=some (.ok (.bl true) false,x))(hS:SqL K H a (ns.map V.int)):spF K none run [.ref a] H (fun v _=>v = .bl true) fun _ _ _=>False:=by
 obtain ⟨x,hx⟩:=hrun;refine ⟨[],[],[.klst (ns.map D.int)],rfl,(fun p hp=>by cases hp),(fun p hp=>by cases hp),fun j d v _ h1 h2=> ?_,(fun k z=>by cases z),fun _=>rfl,?_⟩
 ·have hh:hid ([]++[]) H=H:=by funext b;unfold hid;simp
  rw [hh]
  match j,h1,h2 with
  | 0,h1,h2 =>
   simp only [BB,Option.some.injEq] at h1 h2;subst h1 h2;exact ⟨a,_,rfl,hS,dG ns⟩
  | j+1,h1,h2=>simp at h1
 ·rw [hx]
  exact fun v H' _ rv _=>rv
theorem uM{P:Program}{w:World}{H:Hp}{s:Shared}{e:Value}{s':Shared}(h:CXr P w [] H s (fun _ _ _=>False) e s'):False:=by
 obtain ⟨_,_,_,_,_,_,_,_,_,_,z⟩:=h;exact z
section
variable{X:Cx}{EX:EXT}{a b e:Expr}{es:List Expr}{pos p:Pos}{x y:Arg}{as:List Arg}
theorem v(i:Nat){n:Str}(hN:X.N[i]?=some n:=by rfl)(hv:Vis X.env.scope n:=by first | exact Or.inl rfl | exact Or.inr (Or.inl rfl) | exact Or.inr (Or.inr rfl))(hd:(n == ("__debug__" : Str))=false:=by decide)(hcd:(n == ("__classdict__" : Str))=false:=by decide):JE X EX (.Name n pos) (bt i):=c_var hN hv hd hcd
theorem vb(i:Nat){n:Str}(hN:X.N[i]?=some n:=by rfl)(hv:Vis X.env.scope n:=by first | exact Or.inl rfl | exact Or.inr (Or.inl rfl) | exact Or.inr (Or.inr rfl))(hd:(n == ("__debug__" : Str))=false:=by decide)(hcd:(n == ("__classdict__" : Str))=false:=by decide):JB X EX (.Name n pos) (.bor i):=cb_var hN hv hd hcd
theorem b_add(ha:JB X EX a x)(hb:JB X EX b y):JE X EX (.BinOp a .Add b pos) (sOp aY [x,y]):=qw zo os_add ha hb
theorem b_sub(ha:JB X EX a x)(hb:JB X EX b y):JE X EX (.BinOp a .Sub b pos) (sOp cD [x,y]):=qw op_sub os_sub ha hb
theorem b_mul(ha:JB X EX a x)(hb:JB X EX b y):JE X EX (.BinOp a .Mult b pos) (sOp lC [x,y]):=qw tj ww ha hb
theorem b_fdiv(ha:JB X EX a x)(hb:JB X EX b y):JE X EX (.BinOp a .FloorDiv b pos) (sOp gK [x,y]):=qw zl zh ha hb
theorem b_mod(ha:JB X EX a x)(hb:JB X EX b y):JE X EX (.BinOp a .Mod b pos) (sOp jT [x,y]):=qw op_mod os_mod ha hb
theorem b_pow(ha:JB X EX a x)(hb:JB X EX b y):JE X EX (.BinOp a .Pow b pos) (sOp my [x,y]):=qw op_pow os_pow ha hb
theorem b_neg(ha:JB X EX a x):JE X EX (.UnaryOp .USub a pos) (sOp xk [x]):=c_un un_neg os_neg ha
theorem b_ix(ha:JB X EX a x)(hb:JB X EX b y)(hp:oY b:=by exact fun _ _=>rfl):JE X EX (.Subscript a b pos) (sOp gIx [x,y]):=c_ix ix_seq os_ix ha hb hp
theorem q_eq(hu:X.A.units+10 < cLine)(ha:JB X EX a x)(hb:JB X EX b y):JE X EX (.Compare a [.Eq] [b] pos) (sOp gEq [x,y]):=t0 (wC (by omega)) AT ha hb (dL _)
theorem q_ne(hu:X.A.units+10 < cLine)(ha:JB X EX a x)(hb:JB X EX b y):JE X EX (.Compare a [.NotEq] [b] pos) (sOp gNe [x,y]):=t0 (wA (by omega)) AR ha hb (dL _)
theorem q_le(ha:JB X EX a x)(hb:JB X EX b y):JE X EX (.Compare a [.LtE] [b] pos) (sOp gLe [x,y]):=t0 wB wy ha hb (dL _)
theorem q_ge(ha:JB X EX a x)(hb:JB X EX b y):JE X EX (.Compare a [.GtE] [b] pos) (sOp gGe [x,y]):=t0 AU AS ha hb (dL _)
theorem t_eq(hu:X.A.units+10 < cLine)(ha:JB X EX a x)(hb:JB X EX b y):JT X EX (.Compare a [.Eq] [b] pos) (bd gEq [x,y]):=lm (wC (by omega)) AT ha hb (dL _)
theorem t_ne(hu:X.A.units+10 < cLine)(ha:JB X EX a x)(hb:JB X EX b y):JT X EX (.Compare a [.NotEq] [b] pos) (bd gNe [x,y]):=lm (wA (by omega)) AR ha hb (dL _)
theorem t_lt(ha:JB X EX a x)(hb:JB X EX b y):JT X EX (.Compare a [.Lt] [b] pos) (bd gLt [x,y]):=lm op_lt os_lt ha hb (dL _)
theorem t_gt(ha:JB X EX a x)(hb:JB X EX b y):JT X EX (.Compare a [.Gt] [b] pos) (bd gGt [x,y]):=lm op_gt os_gt ha hb (dL _)
theorem t_ge(ha:JB X EX a x)(hb:JB X EX b y):JT X EX (.Compare a [.GtE] [b] pos) (bd gGe [x,y]):=lm AU AS ha hb (dL _)
theorem t_is(ha:JB X EX a x)(hb:JB X EX b y):JT X EX (.Compare a [.Is] [b] pos) (bd gIs [x,y]):=lm op_isD os_is ha hb (dL _)
theorem t_in(hu:X.A.units+10 < cLine)(ha:JB X EX a x)(hb:JB X EX b y)(hm:behindInMarks .In b=false:=by with_unfolding_all rfl):JT X EX (.Compare a [.In] [b] pos) (bd gIn [x,y]):=lm (op_inA hu) os_in ha hb hm
variable(he:starEach (e::es) X.env=(false,eval e X.env)::starEach es X.env:=by rfl)(hpl:(backTo pos (starEach es X.env)).any (·.1)=false:=by rfl)
include he hpl
theorem b_len(m:X.mg "len" = none)(ha:JA X EX (e::es) as)(hg:Gl X "len" := by rfl):JE X EX (.Call (.Name "len" p) (e::es) [] pos) (sOp br as):=gC u6 os_len hg m PySem.boot_len ha (by decide) (by decide) he hpl
theorem b_sum(m:X.mg "sum" = none)(ha:JA X EX (e::es) as)(hg:Gl X "sum" := by rfl)(hc:X.calm=true:=by rfl):JE X EX (.Call (.Name "sum" p) (e::es) [] pos) (sOp gF as):=gC (uQ hc) os_sum hg m PyProof.Rows.boot_sum ha (by decide) (by decide) he hpl
theorem b_all(m:X.mg "all" = none)(ha:JA X EX (e::es) as)(hg:Gl X "all" := by rfl)(hc:X.calm=true:=by rfl):JE X EX (.Call (.Name "all" p) (e::es) [] pos) (sOp hX as):=gC (u9 hc) os_all hg m PyProof.Rows.boot_all ha (by decide) (by decide) he hpl
theorem b_max(m:X.mg "max" = none)(ha:JA X EX (e::es) as)(hg:Gl X "max" := by rfl)(hc:X.calm=true:=by rfl):JE X EX (.Call (.Name "max" p) (e::es) [] pos) (sOp jy as):=gC (uY hc) zf hg m PyProof.Rows.boot_max ha (by decide) (by decide) he hpl
theorem b_min(m:X.mg "min" = none)(ha:JA X EX (e::es) as)(hg:Gl X "min" := by rfl)(hc:X.calm=true:=by rfl):JE X EX (.Call (.Name "min" p) (e::es) [] pos) (sOp lD as):=gC (uT hc) ze hg m PyProof.Rows.boot_min ha (by decide) (by decide) he hpl
theorem Am(m:X.mg "tuple" = none)(ha:JA X EX (e::es) as)(hg:Gl X "tuple" := by rfl)(hc:X.calm=true:=by rfl):JE X EX (.Call (.Name "tuple" p) (e::es) [] pos) (sOp lA as):=lT (qr hc) wr hg m PyProof.Rows.boot_tuple ha (by decide) (by decide) he hpl
theorem b_int(m:X.mg "int" = none)(ha:JA X EX (e::es) as)(hg:Gl X "int" := by rfl):JE X EX (.Call (.Name "int" p) (e::es) [] pos) (sOp lF as):=lT u7 os_int hg m PyProof.Rows.boot_int ha (by decide) (by decide) he hpl
end
section
variable{X:Cx}{EX:EXT}{e:Expr}{a:Arg}{p1 p2 pos:Pos}
theorem vg(he:JB X EX e a)(m1:X.mg "isinstance" = none)(m2:X.mg "int" = none)(g1:Gl X "isinstance" := by rfl)(g2:Gl X "int" := by rfl)(hs:starEach [e,.Name "int" p1] X.env=(false,eval e X.env)::starEach [.Name "int" p1] X.env:=by rfl):JE X EX (.Call (.Name "isinstance" p2) [e,.Name "int" p1] [] pos) (sOp (bR "int") [a]):=tZ (.inl rfl) he g1 m1 g2 m2 PyProof.Rows.boot_int (by decide) (by decide) hs
theorem r6(he:JB X EX e a)(m1:X.mg "isinstance" = none)(m2:X.mg "bool" = none)(g1:Gl X "isinstance" := by rfl)(g2:Gl X "bool" := by rfl)(hs:starEach [e,.Name "bool" p1] X.env=(false,eval e X.env)::starEach [.Name "bool" p1] X.env:=by rfl):JE X EX (.Call (.Name "isinstance" p2) [e,.Name "bool" p1] [] pos) (sOp (bR "bool") [a]):=tZ (.inr (.inl rfl)) he g1 m1 g2 m2 PyProof.Rows.boot_bool (by decide) (by decide) hs
theorem qz(he:JB X EX e a)(m1:X.mg "isinstance" = none)(m2:X.mg "tuple" = none)(g1:Gl X "isinstance" := by rfl)(g2:Gl X "tuple" := by rfl)(hs:starEach [e,.Name "tuple" p1] X.env=(false,eval e X.env)::starEach [.Name "tuple" p1] X.env:=by rfl):JE X EX (.Call (.Name "isinstance" p2) [e,.Name "tuple" p1] [] pos) (sOp (bR "tuple") [a]):=tZ (.inr (.inr (.inl rfl))) he g1 m1 g2 m2 PyProof.Rows.boot_tuple (by decide) (by decide) hs
theorem vf(he:JB X EX e a)(m1:X.mg "isinstance" = none)(m2:X.mg "str" = none)(g1:Gl X "isinstance" := by rfl)(g2:Gl X "str" := by rfl)(hs:starEach [e,.Name "str" p1] X.env=(false,eval e X.env)::starEach [.Name "str" p1] X.env:=by rfl):JE X EX (.Call (.Name "isinstance" p2) [e,.Name "str" p1] [] pos) (sOp (bR "str") [a]):=tZ (.inr (.inr (.inr (.inr rfl)))) he g1 m1 g2 m2 PyProof.Rows.boot_str (by decide) (by decide) hs
end
section
variable{X:Cx}{EX:EXT}{e:Expr}{pos p1 apos cpos:Pos}{n:Str}{f:SE}
theorem wQ(j:Nat)(h:JE X EX e f)(hN:X.N[j]?=some n:=by rfl)(hv:Vis X.env.scope n:=by first | exact Or.inl rfl | exact Or.inr (Or.inl rfl) | exact Or.inr (Or.inr rfl))(hst:starEach [e] X.env=(false,eval e X.env)::starEach [] X.env:=by rfl)
 (hbase:attributeBase (.Name n p1) "extend" X.env (eval (.Name n p1) X.env)=eval (.Name n p1) X.env:=by rfl) (hfew:((backTo cpos (starEach [e] X.env)).all (fun x => !x.1)&&(backToKw cpos (keywordEach [] X.env)).all (fun x=>x.1.isSome)&&decide ([e].length+([]:List Keyword).length+(if ([]:List Keyword).isEmpty then 0 else 1) < 30))=true:=by rfl)
 (hline:(apos.endLine == cpos.line)=true:=by rfl) (hplain:(backTo cpos (starEach [] X.env)).any (·.1)=false:=by rfl) (hd:(n == ("__debug__" : Str))=false:=by decide) (hcd:(n == ("__classdict__" : Str))=false:=by decide) :
 JE X EX (.Call (.Attribute (.Name n p1) "extend" apos) [e] [] cpos) (dE j cM [f]):=c_meth uy rl PySem.F.slot_list_extend PySem.F.type_list_extend hN hv (.cons h .nil hst) hbase hfew hline hst hplain hd hcd
end
end L2
namespace L2
namespace Td
open PySem L2 PyProof.Rows
def nb(j:Int):List (Int×Int)->List Int
 | []=>[]
 | t::r=>(if j=t.1 then [t.2] else if j=t.2 then [t.1] else [])++nb j r
end Td
end L2
namespace L2
open PySem
def dD:SS:=(aw (bi (bd gLt [.bor 1,.ex (sOp br [.bor 0])]) (aM (sOp gIx [.bor 0,.bor 1])) bx) (aM (sC (.int 0))))
def bv:FS:=aF 2 2 none dD
def js:SS:=(aw (bc 0 (sOp jT [.ex (sOp aY [.bor 0,.ex (sC (.int 7919))]),.ex (sC (.int 2147483647))])) (aM (sOp jT [.ex (sOp aY [.ex (sOp aY [.ex (sOp lC [.bor 0,.bor 0]),.ex (sOp lC [.ex (sC (.int 48271)),.bor 0])]),.ex (sC (.int 12345))]),.ex (sC (.int 2147483629))])))
def cW:FS:=aF 1 1 none js
def gH:SS:=(aw (bc 1 (sOp jy [.bor 0,.ex (sOp cD [.ex (sC (.int 0)),.bor 0])])) (aM (bP [(bt 1),(sOp lF [.ex (sOp gGe [.bor 1,.ex (sOp my [.ex (sC (.int 10)),.ex (sC (.int 18))])])]),(sOp jT [.bor 1,.ex (sC (.int 1000003))])])))
def bO:FS:=aF 1 2 none gH
def fC:SS:=(aw (bi (bd gEq [.ex (sOp gIx [.bor 0,.ex (sC (.int 1))]),.ex (sC (.int 1))]) (aw (bc 2 (sOp jT [.ex (sOp gIx [.bor 0,.ex (sC (.int 0))]),.bor 1])) (aw (dF ki 0 (sOp gK [.ex (sOp gIx [.bor 0,.ex (sC (.int 0))]),.bor 1]) (sC (.int 0))) (dR 2))) bx) (aw (dF ki 0 (aj none none cW [.ex (sOp aY [.ex (aj none none cW [.ex (sOp gIx [.bor 0,.ex (sC (.int 2))])]),.ex (sC (.int 7))])]) (sC (.int 2))) (aM (sOp jT [.ex (sOp gK [.ex (sOp gIx [.bor 0,.ex (sC (.int 2))]),.ex (sC (.int 64))]),.bor 1]))))
def av:FS:=aF 2 3 (some 0) fC
theorem tw{a b:Int}(h1 : -(2 ^ 64) < a)(h2:a < 2 ^ 64):pW a b=true:=by unfold pW;rw [Bl ⟨h1,h2⟩];rfl
def pX(s:Int):Int:=(((s+7919) % 2147483647) * ((s+7919) % 2147483647)+48271 * ((s+7919) % 2147483647)+12345) % 2147483629
theorem xx(s:Int):cW [.int s]=some (.ok (.int (pX s)) false,.non):=by
 have m1:pW ((s+7919) % 2147483647) ((s+7919) % 2147483647)=true:=tw (by omega) (by omega);have m2:pW 48271 ((s+7919) % 2147483647)=true:=tw (by omega) (by omega);unfold cW js;simp only [aF,ini,hV,ioD,bx,aw,bc,aM,mK,dR,di,bi,kF,kE,dF,dE,aj,sOp,bd,sC,bt,aW,bP,evA,Bu,CB,cQ,km,cR,sIf,uf,sOr,bX,ud,ff,sBl,bJ,cu,dH,bY,gL,bZ,dN,cB,cZ,fD,ce,dg,dh,eD,eE,jM,cc,mw,mr,Tg.ge,Bj,Cg,BB,BF,Ce,Cf,B5,BX,List.replicate,C8,Nat.reduceSub,Nat.reduceAdd,BW,Option.isNone,if_true,reduceIte,decide_true,Cn,CF,Da,Db,CO,C3,B4,BS,reduceCtorEq,jT,aY,lC,Int.reduceLT,m1,m2];rfl
theorem zN{n i:Nat}(h:i < n):ixN n (i:Int)=some i:=by
 unfold ixN;rw [if_pos (by omega),if_pos (by omega)];rfl
theorem lV{α:Type}{l:List α}{i:Nat}{x:α}(h:l[i]?=some x):atI l (i:Int)=some x:=by
 unfold atI;rw [zN (Bs.mp h).1];exact h
section
variable{α:Type}{a b c d:α}{l:List α}
theorem jC:atI (a::l) 0=some a:=lV (i:=0) rfl
theorem A8:atI (a::b::l) 1=some b:=lV (i:=1) rfl
theorem atI_2:atI (a::b::c::l) 2=some c:=lV (i:=2) rfl
end
theorem gz{ds:List D}{i:Int}{d:D}(h:atI ds i=some d):gIx [.lst ds,.int i]=some (d,false):=by unfold gIx;simp only [h]
theorem xn{ds:List D}{i:Int}{d:D}(h:atI ds i=some d):gIx [.klst ds,.int i]=some (d,false):=by unfold gIx;simp only [h]
theorem eX{ds:List D}{i:Int}{d:D}(h:atI ds i=some d):gIx [.tup ds,.int i]=some (d,false):=by unfold gIx;simp only [h]
theorem oD(a b:Int):gEq [.int a,.int b]=some (.bl (decide (a=b)),false):=by
 unfold gEq;simp only [af,Bool.and_self,if_true,eqD,nrm,eqN];rw [show (a == b)=decide (a=b) from rfl]
theorem zU(a b:Int):gNe [.int a,.int b]=some (.bl (!decide (a=b)),false):=by
 unfold gNe;simp only [af,Bool.and_self,if_true,eqD,nrm,eqN];rw [show (a == b)=decide (a=b) from rfl]
theorem tP{a b:Int}(h:0 < b):jT [.int a,.int b]=some (.int (a % b),false):=by unfold jT;simp only [h,decide_true,if_true]
theorem lG{a b:Int}(h:0 < b)(h2:b < 1073741824):gK [.int a,.int b]=some (.int (a / b),false):=by unfold gK;simp only [h,h2,and_self,decide_true,if_true]
theorem zT:my [.int 10,.int 18]=some (.int 1000000000000000000,false):=rfl
def um(a f s:Int):D:= .lst [.int a,.int f,.int s]
theorem zX(c:Int):∃ a f s,bO [.int c]=some (.ok (um a f s) true,.non):=by
 refine ⟨if 0 - c > c then 0 - c else c,if decide (1000000000000000000<=(if 0 - c > c then 0 - c else c)) then 1 else 0,(if 0 - c > c then 0 - c else c) % 1000003,?_⟩;unfold bO gH;simp only [aF,ini,hV,ioD,bx,aw,bc,aM,mK,dR,di,bi,kF,kE,dF,dE,aj,sOp,bd,sC,bt,aW,bP,evA,Bu,CB,cQ,km,cR,sIf,uf,sOr,bX,ud,ff,sBl,bJ,cu,dH,bY,gL,bZ,dN,cB,cZ,fD,ce,dg,dh,eD,eE,jM,cc,mw,mr,Tg.ge,Bj,Cg,BB,BF,Ce,Cf,B5,BX,List.replicate,C8,Nat.reduceSub,Nat.reduceAdd,BW,Option.isNone,if_true,reduceIte,decide_true,Cn,CF,Da,Db,CO,C3,B4,BS,reduceCtorEq,jy,zW,cD,lF,gGe,zT,jT,Int.reduceLT];rfl
theorem qg(ns:List Int)(k:Nat):∃ c:Int,bv [.klst (ns.map D.int),.int k]=some (.ok (.int c) false,.non):=by
 by_cases h:k < ns.length
 ·refine ⟨ns[k],?_⟩
  have e:atI (ns.map D.int) (k:Int)=some (.int ns[k]):=lV (by rw [BI,Bb h];rfl)
  have h':(k:Int) < ((ns.map D.int).length:Nat):=by rw [Be];omega
  unfold bv dD;simp only [aF,ini,hV,ioD,bx,aw,bc,aM,mK,dR,di,bi,kF,kE,dF,dE,aj,sOp,bd,sC,bt,aW,bP,evA,Bu,CB,cQ,km,cR,sIf,uf,sOr,bX,ud,ff,sBl,bJ,cu,dH,bY,gL,bZ,dN,cB,cZ,fD,ce,dg,dh,eD,eE,jM,cc,mw,mr,Tg.ge,Bj,Cg,BB,BF,Ce,Cf,B5,BX,List.replicate,C8,Nat.reduceSub,Nat.reduceAdd,BW,Option.isNone,if_true,reduceIte,decide_true,Cn,CF,Da,Db,CO,C3,B4,BS,reduceCtorEq,br,gLt,xn e,h']
 ·refine ⟨0,?_⟩
  have h':¬ (k:Int) < ((ns.map D.int).length:Nat):=by rw [Be];omega
  unfold bv dD;simp only [aF,ini,hV,ioD,bx,aw,bc,aM,mK,dR,di,bi,kF,kE,dF,dE,aj,sOp,bd,sC,bt,aW,bP,evA,Bu,CB,cQ,km,cR,sIf,uf,sOr,bX,ud,ff,sBl,bJ,cu,dH,bY,gL,bZ,dN,cB,cZ,fD,ce,dg,dh,eD,eE,jM,cc,mw,mr,Tg.ge,Bj,Cg,BB,BF,Ce,Cf,B5,BX,List.replicate,C8,Nat.reduceSub,Nat.reduceAdd,BW,Option.isNone,if_true,reduceIte,decide_true,Cn,CF,Da,Db,CO,C3,B4,BS,reduceCtorEq,br,gLt,h',decide_false]
theorem yb{a b c d:D}:ki (.lst [a,b,c]) (.int 0) d=some (.lst [d,b,c]):=rfl
theorem ya{a b c d:D}:ki (.lst [a,b,c]) (.int 2) d=some (.lst [a,b,d]):=rfl
theorem xy(a f s m:Int)(h:0 < m)(h2:m < 1073741824):∃ r a' f' s':Int,av [um a f s,.int m]=some (.ok (.int r) false,um a' f' s')/\0<=r/\r < m:=by
 by_cases hf:f=1
 ·refine ⟨a % m,a / m,f,s,?_,Int.emod_nonneg _ (by omega),Int.emod_lt_of_pos _ h⟩
  unfold av fC um;simp only [aF,ini,hV,ioD,bx,aw,bc,aM,mK,dR,di,bi,kF,kE,dF,dE,aj,sOp,bd,sC,bt,aW,bP,evA,Bu,CB,cQ,km,cR,sIf,uf,sOr,bX,ud,ff,sBl,bJ,cu,dH,bY,gL,bZ,dN,cB,cZ,fD,ce,dg,dh,eD,eE,jM,cc,mw,mr,Tg.ge,Bj,Cg,BB,BF,Ce,Cf,B5,BX,List.replicate,C8,Nat.reduceSub,Nat.reduceAdd,BW,Option.isNone,if_true,reduceIte,decide_true,Cn,CF,Da,Db,CO,C3,B4,BS,reduceCtorEq,oD,gz jC,gz A8,tP h,lG h h2,yb,hf]
 ·refine ⟨pX (pX s+7) / 64 % m,a,f,pX (pX s+7),?_,Int.emod_nonneg _ (by omega),Int.emod_lt_of_pos _ h⟩
  unfold av fC um;simp only [aF,ini,hV,ioD,bx,aw,bc,aM,mK,dR,di,bi,kF,kE,dF,dE,aj,sOp,bd,sC,bt,aW,bP,evA,Bu,CB,cQ,km,cR,sIf,uf,sOr,bX,ud,ff,sBl,bJ,cu,dH,bY,gL,bZ,dN,cB,cZ,fD,ce,dg,dh,eD,eE,jM,cc,mw,mr,Tg.ge,Bj,Cg,BB,BF,Ce,Cf,B5,BX,List.replicate,C8,Nat.reduceSub,Nat.reduceAdd,BW,Option.isNone,if_true,reduceIte,decide_true,Cn,CF,Da,Db,CO,C3,B4,BS,reduceCtorEq,oD,gz jC,gz A8,gz atI_2,tP h,lG (show (0:Int) < 64 by decide) (by decide),aY,ya,hf,decide_false,xx]
theorem mL{T:Tg}{f:SS}(I:Nat->Rho->Prop):∀ (ds:List D) (k:Nat) (ρ:Rho),I k ρ->(∀ i d ρ,ds[i]?=some d->I (k+i) ρ->∃ ρ1 ρ2,bJ T d ρ=some ρ1/\f ρ1=some (.nx,ρ2)/\I (k+i+1) ρ2)->∃ ρ',bW T f ds ρ=some (.nx,ρ')/\I (k+ds.length) ρ'
 | [],k,ρ,h,_=>⟨ρ,rfl,h⟩
 | d::ds,k,ρ,h,hs=>by
  obtain ⟨ρ1,ρ2,e1,e2,h2⟩:=hs 0 d ρ rfl h
  obtain ⟨ρ',e3,h3⟩:=mL I ds (k+1) ρ2 h2 fun i d ρ e hi=>by
   have:=hs (i+1) d ρ (by simpa using e) (by rw [show k+(i+1)=k+1+i by omega];exact hi);rw [show k+(i+1)+1=k+1+i+1 by omega] at this;exact this
  refine ⟨ρ',?_,by rw [Bj,show k+(ds.length+1)=k+1+ds.length by omega];exact h3⟩;unfold bW;simp only [e1,e2,e3]
end L2
namespace L2
open PySem PySem.Spec PyProof.Rows
section
variable{ρ ρ1 ρ2:Rho}{d c c' i:D}{ds:List D}{nw b:Bool}{f g:SE}{p q:ST}{s t:SS}{C:Str}
theorem AC{j:Nat}{x:Option (D×Md)}(h:f ρ=some (.ok d nw,ρ1))(hx:ρ1[j]?=some x)(hn:ρ1.set j (some (d,if nw then .ow else .fz))=ρ2):bc j f ρ=some (.nx,ρ2):=by subst hn;unfold bc;rw [h];show (match ρ1[j]? with | some _=>_ | none=>_)=_;rw [hx]
theorem r_ret(h:f ρ=some (.ok d nw,ρ1)):aM f ρ=some (.rt d nw,ρ1):=by unfold aM;rw [h]
theorem r_expr(h:f ρ=some (.ok d nw,ρ1)):di f ρ=some (.nx,ρ1):=by unfold di;rw [h]
theorem AD{r:Option (Out×Rho)}(h:s ρ=some (.nx,ρ1))(h2:t ρ1=r):aw s t ρ=r:=by unfold aw;rw [h];exact h2
theorem r_seqR(h:s ρ=some (.rt d nw,ρ1)):aw s t ρ=some (.rt d nw,ρ1):=by unfold aw;rw [h]
theorem r_seqX(h:s ρ=some (.ex C,ρ1)):aw s t ρ=some (.ex C,ρ1):=by unfold aw;rw [h]
theorem r_ifT{r:Option (Out×Rho)}(h:p ρ=some (.ok b,ρ1))(hb:b=true)(h2:s ρ1=r):bi p s t ρ=r:=by unfold bi;subst hb;rw [h];exact h2
theorem r_ifF{r:Option (Out×Rho)}(h:p ρ=some (.ok b,ρ1))(hb:b=false)(h2:t ρ1=r):bi p s t ρ=r:=by unfold bi;subst hb;rw [h];exact h2
theorem r_nil:bx ρ=some (.nx,ρ):=rfl
theorem r_asg{T:Tg}(h:f ρ=some (.ok d nw,ρ1))(h2:bJ T d ρ1=some ρ2):kF T f ρ=some (.nx,ρ2):=by unfold kF;rw [h];show (match bJ T d ρ1 with | some ρ2=>_ | none=>_)=_;rw [h2]
theorem r_aug{j:Nat}{op:Int->Int->Int}{a k:Int}{x:Option (D×Md)}(h0:ρ[j]?=some (some (.int a,.fz)))(h:f ρ=some (.ok (.int k) nw,ρ1))(hx:ρ1[j]?=some x)(hn:ρ1.set j (some (.int (op a k),.fz))=ρ2):kE j op f ρ=some (.nx,ρ2):=by
 subst hn;unfold kE;rw [h0];show (match f ρ with | some (.ok (.int b) _,ρ')=>_ | some (.ok _ _,_)=>_ | some (.ex C,ρ')=>_ | none=>_)=_;rw [h];show (match ρ1[j]? with | some _=>_ | none=>_)=_;rw [hx]
theorem yD{u:D->D->D->Option D}{j:Nat}{x:D×Md}{nw2:Bool}(h:f ρ=some (.ok d nw,ρ1))(h1:ρ1[j]?=some (some x))(h2:g ρ1=some (.ok i nw2,ρ2))(h3:ρ2[j]?=some (some (c,.ow)))(h4:u c i d=some c'){ρ3:Rho}(hn:ρ2.set j (some (c',.ow))=ρ3):dF u j f g ρ=some (.nx,ρ3):=by subst hn;unfold dF;simp only [h,h1,h2,h3,h4]
theorem r_for{it:SI}{T:Tg}{r:Option (Out×Rho)}(h:it ρ=some (.ok ds,ρ1))(h2:bW T s ds ρ1=r):fD it T s ρ=r:=by unfold fD;rw [h];exact h2
theorem yC{j:Nat}{u:D->List D->Option (D×D)}{fs:List SE}{l:List D}(h0:ρ[j]?=some (some (.lst l,.ow)))(h1:evA (fs.map Arg.ex) ρ=some (.ok ds,ρ1))(h2:ρ1[j]?=some (some (c,.ow)))(h3:u c ds=some (c',d))(hn:ρ1.set j (some (c',.ow))=ρ2):dE j u fs ρ=some (.ok d false,ρ2):=by subst hn;unfold dE;simp only [h0,h1,h2,h3]
theorem r_nilA:evA [] ρ=some (.ok [],ρ):=rfl
theorem AE{as:List Arg}(h:f ρ=some (.ok d nw,ρ1))(h2:evA as ρ1=some (.ok ds,ρ2)):evA (.ex f::as) ρ=some (.ok (d::ds),ρ2):=by unfold evA;simp only [h,h2]
theorem r_nilM:evA (List.map Arg.ex []) ρ=some (.ok [],ρ):=rfl
theorem r_exM{fs:List SE}(h:f ρ=some (.ok d nw,ρ1))(h2:evA (List.map Arg.ex fs) ρ1=some (.ok ds,ρ2)):evA (List.map Arg.ex (f::fs)) ρ=some (.ok (d::ds),ρ2):=AE h h2
theorem r_borA{as:List Arg}{j:Nat}{x:D×Md}{m:Md}(h:ρ[j]?=some (some x))(h2:evA as ρ=some (.ok ds,ρ2))(h3:ρ2[j]?=some (some (d,m))):evA (.bor j::as) ρ=some (.ok (d::ds),ρ2):=by unfold evA;simp only [h,h2,h3]
theorem r_op{o:List D->Option (D×Bool)}{as:List Arg}(h:evA as ρ=some (.ok ds,ρ1))(h2:o ds=some (d,nw)):sOp o as ρ=some (.ok d nw,ρ1):=by unfold sOp;simp only [h,h2]
theorem r_opT{o:List D->Option (D×Bool)}{as:List Arg}(h:evA as ρ=some (.ok ds,ρ1))(h2:o ds=some (.bl b,nw)):bd o as ρ=some (.ok b,ρ1):=by unfold bd;rw [r_op h h2]
theorem r_tru{a:Arg}(h:evA [a] ρ=some (.ok [d],ρ1))(h2:km d=some b):cQ a ρ=some (.ok b,ρ1):=by unfold cQ;simp only [h,h2]
theorem r_not(h:p ρ=some (.ok b,ρ1)):cR p ρ=some (.ok (!b),ρ1):=by unfold cR;rw [h]
theorem r_orF{r:Option (xS×Rho)}(h:p ρ=some (.ok b,ρ1))(hb:b=false)(h2:q ρ1=r):sOr p q ρ=r:=by unfold sOr;subst hb;rw [h];exact h2
theorem r_orT(h:p ρ=some (.ok b,ρ1))(hb:b=true):sOr p q ρ=some (.ok true,ρ1):=by unfold sOr;subst hb;rw [h]
theorem r_c:sC d ρ=some (.ok d false,ρ):=rfl
theorem r_varF{j:Nat}(h:ρ[j]?=some (some (d,.fz))):bt j ρ=some (.ok d false,ρ):=by unfold bt;rw [h]
theorem r_varO{j:Nat}(h:ρ[j]?=some (some (d,.ow)))(hn:ρ.set j (some (d,.fz))=ρ1):bt j ρ=some (.ok d false,ρ1):=by subst hn;unfold bt;rw [h]
theorem r_retO{j:Nat}(h:ρ[j]?=some (some (d,.ow)))(hn:ρ.set j none=ρ1):dR j ρ=some (.rt d true,ρ1):=by subst hn;unfold dR;rw [h]
theorem r_tup{fs:List SE}(h:evA (fs.map Arg.ex) ρ=some (.ok ds,ρ1)):aW fs ρ=some (.ok (.tup ds) false,ρ1):=by unfold aW;rw [h]
theorem r_lst{fs:List SE}(h:evA (fs.map Arg.ex) ρ=some (.ok ds,ρ1)):bP fs ρ=some (.ok (.lst ds) true,ρ1):=by unfold bP;rw [h]
theorem r_seqI{l:List D}(h:f ρ=some (.ok d nw,ρ1))(h2:cc d=some l):dg f ρ=some (.ok l,ρ1):=by unfold dg;simp only [h,h2]
theorem r_enum{l:List D}(h:f ρ=some (.ok d nw,ρ1))(h2:cc d=some l):eE f ρ=some (.ok (fR 0 l),ρ1):=by unfold eE;simp only [h,h2]
theorem r_zip{fs:List SE}{l l':List D}(h:evA (fs.map Arg.ex) ρ=some (.ok ds,ρ1))(h2:vJ ds=some (l,l'))(h3:l.length<=l'.length):jM fs ρ=some (.ok (gR l l'),ρ1):=by unfold jM;simp only [h,h2,h3,decide_true,if_true]
theorem r_rng1{x:Arg}{j:Int}(h:evA [x] ρ=some (.ok [.int j],ρ1))(o:okR 0 j=true):dh x ρ=some (.ok (gD 0 j.toNat),ρ1):=by
 unfold dh;rw [h];show (if okR 0 j=true then some (oW.ok (gD 0 j.toNat),ρ1) else none)=_;rw [if_pos o]
theorem r_rng2{x y:Arg}{j k:Int}(h:evA [x,y] ρ=some (.ok [.int j,.int k],ρ1))(o:okR j k=true):eD x y ρ=some (.ok (gD j (k - j).toNat),ρ1):=by
 unfold eD;rw [h];show (if okR j k=true then some (oW.ok (gD j (k - j).toNat),ρ1) else none)=_;rw [if_pos o]
theorem vR{k:Nat}{it:SI}{T:Tg}{e:Option ST}{ys:List D}(h1:it ρ=some (.ok ds,ρ1))(h2:Tg.ge ρ1.length T=true)(h3:bK k T e f ds ρ1=some (ys,ρ2)):ce k it T e f ρ=some (.ok (.lst ys) true,ρ2):=by
 unfold ce;rw [h1];show (if Tg.ge ρ1.length T=true then _ else none)=_;rw [if_pos h2,h3]
theorem r_call{as:List Arg}{run:FS}{x:D}(h:evA as ρ=some (.ok ds,ρ1))(h2:run ds=some (.ok d nw,x))(h3:(bY none 0 as ρ1||(gL d nw&&((none:Option Nat).isNone||bZ x)))=true):aj none none run as ρ=some (.ok d nw,ρ1):=by
 unfold aj;simp only [h,h2];rw [if_pos h3];rfl
theorem yI{as:List Arg}{run:FS}{x:D}(h:evA as ρ=some (.ok ds,ρ1))(h2:run ds=some (.ex C,x))(h3:(bY none 0 as ρ1||((none:Option Nat).isNone||bZ x))=true):aj none none run as ρ=some (.ex C,ρ1):=by
 unfold aj;simp only [h,h2];rw [if_pos h3];rfl
theorem vS{k j:Nat}{as:List Arg}{run:FS}{x:D}(h:evA as ρ=some (.ok ds,ρ1))(h2:run ds=some (.ok d nw,x))(h3:(bY (some k) 0 as ρ1||(gL d nw&&((some k).isNone||bZ x)))=true)(h4:dH (some j) x ρ1=some ρ2):aj (some k) (some j) run as ρ=some (.ok d nw,ρ2):=by
 unfold aj;simp only [h,h2];rw [if_pos h3,h4]
theorem yH{o o':List D->Option (D×Bool)}{f3:SE}{x y z:D}{b2:Bool}(h:evA [.ex f,.ex g] ρ=some (.ok [x,y],ρ1))(h1:o [x,y]=some (.bl b,false))(h2:f3 ρ1=some (.ok z nw,ρ1))(h3:o' [y,z]=some (.bl b2,false)):cZ o o' f g f3 ρ=some (.ok (.bl (b&&b2)) false,ρ1):=by
 unfold cZ;simp only [h,h1]
 cases b with
 | true=>simp only [h2,h3,Cn]
 | false=>rfl
theorem yJ{r:Option (Res×Rho)}(h:f ρ=some (.ok (.bl b) nw,ρ1))(hb:b=true)(h2:g ρ1=r):bX f g ρ=r:=by unfold bX;subst hb;rw [h];exact h2
theorem sP(h:f ρ=some (.ok (.bl b) nw,ρ1))(hb:b=false):bX f g ρ=some (.ok (.bl false) false,ρ1):=by unfold bX;subst hb;rw [h]
theorem r_notV(h:f ρ=some (.ok (.bl b) nw,ρ1)):ff f ρ=some (.ok (.bl (!b)) false,ρ1):=by unfold ff;rw [h]
section
variable{np n:Nat}{body:SS}{io:Option Nat}{x:D}
theorem r_fn(hi:ini n io ds=ρ)(h:body ρ=some (.rt d nw,ρ1))(hx:ioD io ρ1=some x)(hl:ds.length=np):aF np n io body ds=some (.ok d nw,x):=by subst hi;unfold aF;rw [if_pos hl,h];show (match ioD io ρ1 with | some x=>_ | none=>_)=_;rw [hx]
theorem r_fnX(hi:ini n io ds=ρ)(h:body ρ=some (.ex C,ρ1))(hx:ioD io ρ1=some x)(hl:ds.length=np):aF np n io body ds=some (.ex C,x):=by subst hi;unfold aF;rw [if_pos hl,h];show (match ioD io ρ1 with | some x=>_ | none=>_)=_;rw [hx]
end
theorem yB{nm:Str}:nO nm ρ=some (.ex nm,ρ):=rfl
end
theorem iV{α:Type}{k:Nat}{T:Tg}{f:SE}{ρ:Rho}{inj g:α->D}:∀ (xs:List α),(∀ x∈xs,∃ ρ1 ρ3 nw,bJ T (inj x) (ρ++List.replicate k none)=some ρ1/\f ρ1=some (.ok (g x) nw,ρ3)/\ρ3.take ρ.length=ρ)->bK k T none f (xs.map inj) ρ=some (xs.map g,ρ)
 | [],_=>rfl
 | x::xs,h=>by
  obtain ⟨ρ1,ρ3,nw,e1,e2,e3⟩:=h x Bn;rw [Bu];unfold bK;simp only [e1,evC,e2,e3,iV xs fun d hd=>h d (Bi _ hd),Bu]
theorem xq(bs:List Bool):hX [.lst (bs.map D.bl)]=some (.bl (bs.all id),false):=by unfold hX;simp only [vc]
theorem kr{n:Nat}(h:n<=1000):small n=true:=by unfold small;exact Bl (by omega)
theorem cut_lo{l:List D}{n:Nat}(h:n<=l.length):jg l none (some (n:Int))=l.take n:=by
 unfold jg;have e1:HT.sIx l.length 0 none=0:=rfl
 have e2:HT.sIx l.length l.length (some (n:Int))=n:=by
  unfold HT.sIx;simp;rw [if_neg (by omega)];omega
 rw [e1,e2,List.drop_zero,Nat.sub_zero]
theorem cut_hi{l:List D}{n:Nat}(h:n<=l.length):jg l (some (n:Int)) none=l.drop n:=by
 unfold jg;have e1:HT.sIx l.length l.length none=l.length:=rfl
 have e2:HT.sIx l.length 0 (some (n:Int))=n:=by
  unfold HT.sIx;simp;rw [if_neg (by omega)];omega
 rw [e1,e2];apply List.take_of_length_le;rw [List.length_drop];exact Bq _
theorem wG{lo hi:Int}(h1 : -1000000<=lo)(h2:lo<=1000000)(h3 : -1000000<=hi)(h4:hi<=1000000)(h5:hi - lo<=1000000):okR lo hi=true:=by
 unfold okR
 refine Bl ⟨?_,?_,?_,?_,?_⟩<;>omega
theorem el_mk{k:Nat}{T:Tg}{f:SE}{ρ ρ1 ρ3:Rho}{d y y':D}{nw:Bool}(h1:bJ T d (ρ++List.replicate k none)=some ρ1)(h2:f ρ1=some (.ok y' nw,ρ3))(h3:ρ3.take ρ.length=ρ)(hy:y'=y):∃ ρ1 ρ3 nw,bJ T d (ρ++List.replicate k none)=some ρ1/\f ρ1=some (.ok y nw,ρ3)/\ρ3.take ρ.length=ρ:=⟨ρ1,ρ3,nw,h1,by rw [<- hy];exact h2,h3⟩
theorem lp_mk{T:Tg}{f:SS}{ρ ρ1 ρ2:Rho}{d:D}{I:Rho->Prop}(h1:bJ T d ρ=some ρ1)(h2:f ρ1=some (.nx,ρ2))(h3:I ρ2):∃ ρ1 ρ2,bJ T d ρ=some ρ1/\f ρ1=some (.nx,ρ2)/\I ρ2:=⟨ρ1,ρ2,h1,h2,h3⟩
end L2
namespace Srt
open PySem PySem.W PyProof.Rows
def Tru{α:Type}(lt:Nat->Nat->Bool)(P:α->Prop):KasT α->Prop
 | .ret a=>P a
 | .ask i j k=>Tru lt P (k (lt i j))
theorem Tru.bind{α β:Type}{lt:Nat->Nat->Bool}{P:β->Prop}{f:α->KasT β}:∀ {t:KasT α},Tru lt (fun a=>Tru lt P (f a)) t->Tru lt P (t.bind f)
 | .ret _,h=>h
 | .ask i j k,h=>Tru.bind (t:=k (lt i j)) h
theorem Tru.mono{α:Type}{lt:Nat->Nat->Bool}{P P':α->Prop}(hp:∀ a,P a->P' a):∀ {t:KasT α},Tru lt P t->Tru lt P' t
 | .ret a,h=>hp a h
 | .ask i j k,h=>Tru.mono hp (t:=k (lt i j)) h
theorem both{α:Type}{n:Nat}{lt:Nat->Nat->Bool}{P P':α->Prop}{cmp:Nat->Nat->(Bool->Shared->Prop)->Shared->Prop}{Q:α->Shared->Prop}{s:Shared}
 (hc:∀ i j C,i < n->j < n->C (lt i j) s->cmp i j C s) (hq:∀ a,P a->P' a->Q a s):∀ {t:KasT α},All n P t->Tru lt P' t->t.kasWp cmp Q s
 | .ret a,h,g=>hq a h g
 | .ask i j k,⟨h1,h2,h3⟩,g=>hc i j _ h1 h2 (both hc hq (h3 _) g)
structure Ord(lt:Nat->Nat->Bool):Prop where
 asym:∀ a b,lt a b=true->lt b a=false
 trans:∀ a b c,lt b a=false->lt c b=false->lt c a=false
section
variable{lt:Nat->Nat->Bool}(O:Ord lt)
theorem Ord.refl(O:Ord lt)(a:Nat):lt a a=false:=by
 cases h:lt a a with
 | false=>rfl
 | true=>exact absurd (O.asym a a h) (by rw [h];decide)
abbrev Le(lt:Nat->Nat->Bool)(a b:Nat):Prop:=lt b a=false
abbrev at_(p:Array Nat)(i:Nat):Nat:=p.getD i 0
def Asc(lt:Nat->Nat->Bool)(p:Array Nat)(m:Nat):Prop:=∀ i j,i<=j->j < m->Le lt (at_ p i) (at_ p j)
def Des(lt:Nat->Nat->Bool)(p:Array Nat)(m:Nat):Prop:=∀ i j,i<=j->j < m->Le lt (at_ p j) (at_ p i)
def Eqv(lt:Nat->Nat->Bool)(p:Array Nat)(a b:Nat):Prop:=∀ i j,a<=i->i < b->a<=j->j < b->Le lt (at_ p i) (at_ p j)
theorem oS{p:Array Nat}{i j:Nat}(hj:j<=p.size)(k:Nat):at_ (kas_rev p i j) k=if i<=k/\k < j then at_ p (i+j - 1 - k) else at_ p k:=by
 have h:=getElem?_mirror_all (xs:=p) (i:=i) hj k
 show (kas_rev p i j).getD k 0=_
 unfold kas_rev at_;rw [BO,h]
 split<;>rw [BO]
theorem at_bub{p:Array Nat}{k l:Nat}(hk:k < p.size)(hl:l<=k)(t:Nat):at_ (bubble p k (k - l)) t=if t=l then at_ p k else if l < t/\t<=k then at_ p (t - 1) else at_ p t:=by
 have h:=getElem?_bubble (xs:=p) hk (k - l) (by omega) t;rw [show k - (k - l)=l by omega] at h
 show (bubble p k (k - l)).getD t 0=_
 rw [BO,h]
 by_cases h1:t=l
 ·rw [if_pos h1,if_pos h1,<- BO]
 ·rw [if_neg h1,if_neg h1]
  by_cases h2:l < t/\t<=k
  ·rw [if_pos h2,if_pos h2,<- BO]
  ·rw [if_neg h2,if_neg h2,<- BO]
include O
theorem Asc.snoc{p:Array Nat}{n:Nat}(h:Asc lt p n)(h1:1<=n)(hn:Le lt (at_ p (n - 1)) (at_ p n)):Asc lt p (n+1):=fun i j hij hj=>by
 by_cases e:j=n
 ·subst e
  by_cases e2:i=j
  ·subst e2;exact O.refl _
  ·exact O.trans _ _ _ (h i (j - 1) (by omega) (by omega)) hn
 ·exact h i j hij (by omega)
theorem Des.snoc{p:Array Nat}{n:Nat}(h:Des lt p n)(h1:1<=n)(hn:Le lt (at_ p n) (at_ p (n - 1))):Des lt p (n+1):=fun i j hij hj=>by
 by_cases e:j=n
 ·subst e
  by_cases e2:i=j
  ·subst e2;exact O.refl _
  ·exact O.trans _ _ _ hn (h i (j - 1) (by omega) (by omega))
 ·exact h i j hij (by omega)
theorem r8{p:Array Nat}:∀ f n,1<=n->Asc lt p n->Tru lt (fun m=>n<=m/\m<=n+f/\Asc lt p m/\(m=n+f\/lt (at_ p m) (at_ p (m - 1))=true)) (kas_asc p f n)
 | 0,n,h1,h=>⟨Bq _,Bq _,h,.inl rfl⟩
 | f+1,n,h1,h=>by
  show Tru lt _ (if lt (at_ p n) (at_ p (n - 1))=true then KasT.ret n else kas_asc p f (n+1))
  by_cases c:lt (at_ p n) (at_ p (n - 1))=true
  ·rw [if_pos c]
   exact ⟨Bq _,by omega,h,.inr c⟩
  ·rw [if_neg c]
   exact (r8 f (n+1) (by omega) (h.snoc O h1 (by simpa using c))).mono fun m ⟨a,b,c,d⟩=>⟨by omega,by omega,c,d.imp (fun z=>by omega) id⟩
theorem kg:∀ f (p:Array Nat) n q,1<=n->q+1<=n->n+f<=p.size->Des lt p n->Eqv lt p (n - (q+1)) n ->
 Tru lt (fun r=>n<=r.2.1/\r.2.1<=n+f/\r.2.2+1<=r.2.1/\r.1.size=p.size/\Des lt r.1 r.2.1/\Eqv lt r.1 (r.2.1 - (r.2.2+1)) r.2.1) (kas_desc f p n q)
 | 0,p,n,q,h1,hq,hs,hd,he=>⟨Bq _,Bq _,hq,rfl,hd,he⟩
 | f+1,p,n,q,h1,hq,hs,hd,he=>by
  have one:∀ (p':Array Nat),Eqv lt p' (n+1 - (0+1)) (n+1):=fun p' i j a b c d=>by
   have:i=j:=by omega
   subst this;exact O.refl _
  show Tru lt _ (if lt (at_ p n) (at_ p (n - 1))=true then (if q > 0 then kas_desc f (kas_rev p (n - (q+1)) n) (n+1) 0 else kas_desc f p (n+1) 0)
   else KasT.ask (at_ p (n - 1)) (at_ p n) fun d=>if d=true then .ret (p,n,q) else kas_desc f p (n+1) (q+1))
  by_cases c:lt (at_ p n) (at_ p (n - 1))=true
  ·rw [if_pos c]
   have hle:Le lt (at_ p n) (at_ p (n - 1)):=O.asym _ _ c
   by_cases q0:q > 0
   ·rw [if_pos q0]
    have hn:n<=p.size:=by omega
    have sz:(kas_rev p (n - (q+1)) n).size=p.size:=mirror_size _ _ _ _;have R:=oS (p:=p) (i:=n - (q+1)) hn
    have D:Des lt (kas_rev p (n - (q+1)) n) (n+1):=fun i j hij hj=>by
     rw [R i,R j]
     by_cases ej:j=n
     ·subst ej
      rw [if_neg (by omega:¬ (j - (q+1)<=j/\j < j))]
      split
      ·exact O.trans _ _ _ hle (hd _ (j - 1) (by omega) (by omega))
      ·by_cases ei:i=j
       ·subst ei;exact O.refl _
       ·exact O.trans _ _ _ hle (hd _ (j - 1) (by omega) (by omega))
     ·by_cases si:n - (q+1)<=i/\i < n
      ·rw [if_pos si,if_pos (by omega:n - (q+1)<=j/\j < n)]
       exact he _ _ (by omega) (by omega) (by omega) (by omega)
      ·rw [if_neg si]
       split
       ·exact hd _ _ (by omega) (by omega)
       ·exact hd _ _ hij (by omega)
    exact (kg f _ (n+1) 0 (by omega) (by omega) (by rw [sz];omega) D (one _)).mono fun r ⟨a,b,c,d,e,g⟩=>⟨by omega,by omega,c,d.trans sz,e,g⟩
   ·rw [if_neg q0]
    exact (kg f p (n+1) 0 (by omega) (by omega) (by omega) (hd.snoc O h1 hle) (one _)).mono fun r ⟨a,b,c,d,e,g⟩=>⟨by omega,by omega,c,d,e,g⟩
  ·rw [if_neg c]
   have c:lt (at_ p n) (at_ p (n - 1))=false:=by simpa using c
   show Tru lt _ (if lt (at_ p (n - 1)) (at_ p n)=true then KasT.ret (p,n,q) else kas_desc f p (n+1) (q+1))
   by_cases d:lt (at_ p (n - 1)) (at_ p n)=true
   ·rw [if_pos d]
    exact ⟨Bq _,Df _ _,hq,rfl,hd,he⟩
   ·rw [if_neg d]
    have d:lt (at_ p (n - 1)) (at_ p n)=false:=by simpa using d
    have E:Eqv lt p (n+1 - (q+1+1)) (n+1):=fun i j a b a2 b2=>by
     by_cases ei:i=n
     ·by_cases ej:j=n
      ·rw [ei,ej];exact O.refl _
      ·rw [ei]
       exact O.trans _ _ _ d (he (n - 1) j (by omega) (by omega) (by omega) (by omega))
     ·by_cases ej:j=n
      ·rw [ej]
       exact O.trans _ _ _ (he i (n - 1) (by omega) (by omega) (by omega) (by omega)) c
      ·exact he i j (by omega) (by omega) (by omega) (by omega)
    exact (kg f p (n+1) (q+1) (by omega) (by omega) (by omega) (hd.snoc O h1 d) E).mono fun r ⟨a,b,c,d,e,g⟩=>⟨by omega,by omega,c,d,e,g⟩
theorem pe{p:Array Nat}{n N:Nat}(h1:1<=n)(hn:n<=N)(hs:p.size=N)(hd:Des lt p n):Tru lt (fun r:Nat×Array Nat=>1<=r.1/\r.1<=N/\r.2.size=N/\Asc lt r.2 r.1) (kas_tail3 n N p):=by
 unfold kas_tail3;have sz:(kas_rev p 0 n).size=p.size:=mirror_size _ _ _ _;have R:=oS (p:=p) (i:=0) (j:=n) (by omega)
 have A:Asc lt (kas_rev p 0 n) n:=fun i j hij hj=>by
  rw [R i,R j,if_pos (by omega),if_pos (by omega)];exact hd _ _ (by omega) (by omega)
 exact ((r8 O (N - n) n h1 A).mono fun m ⟨a,b,c,_⟩=>(show 1<=m/\m<=N/\(kas_rev p 0 n).size=N/\Asc lt (kas_rev p 0 n) m from ⟨by omega,by omega,sz.trans hs,c⟩)).bind
theorem jA{p:Array Nat}{n N:Nat}(h1:1<=n)(hn:n+1<=N)(hs:p.size=N)(hd:Des lt p (n+1)):Tru lt (fun r:Nat×Array Nat=>1<=r.1/\r.1<=N/\r.2.size=N/\Asc lt r.2 r.1) (kas_descPart n N p):=by
 unfold kas_descPart
 refine ((kg O (N - (n+1)) p (n+1) 0 (by omega) (by omega) (by omega) hd (fun i j a b c d=>by
  have:i=j:=by omega
  subst this
  exact O.refl _)).mono fun r ⟨a,b,c,d,e,g⟩=> ?_).bind
 by_cases q:r.2.2 > 0
 ·rw [if_pos q]
  have hz:r.2.1<=r.1.size:=by omega
  have R:=oS (p:=r.1) (i:=r.2.1 - (r.2.2+1)) (j:=r.2.1) hz
  refine pe O (by omega) (by omega) ((mirror_size _ _ _ _).trans (d.trans hs)) fun i j hij hj=> ?_
  rw [R i,R j]
  by_cases si:r.2.1 - (r.2.2+1)<=i/\i < r.2.1
  ·rw [if_pos si,if_pos (by omega)]
   exact g _ _ (by omega) (by omega) (by omega) (by omega)
  ·rw [if_neg si]
   split
   ·exact e _ _ (by omega) (by omega)
   ·exact e _ _ hij hj
 ·rw [if_neg q]
  exact pe O (by omega) (by omega) (d.trans hs) e
theorem xH{p:Array Nat}{N:Nat}(hN:1<=N)(hs:p.size=N):Tru lt (fun r:Nat×Array Nat=>1<=r.1/\r.1<=N/\r.2.size=N/\Asc lt r.2 r.1) (kas_count N p):=by
 unfold kas_count
 refine ((r8 O (p:=p) (N - 1) 1 (Bq _) (fun i j a b=>by
  have:i=j:=by omega
  subst this
  exact O.refl _)).mono fun n ⟨a,b,c,d⟩=> ?_).bind
 by_cases e:(n == N)=true
 ·rw [if_pos e]
  exact ⟨a,by omega,hs,c⟩
 ·rw [if_neg e]
  have ne:n≠N:=by simpa using e
  have hl:lt (at_ p n) (at_ p (n - 1))=true:=d.resolve_left (by omega)
  by_cases n1:n > 1
  ·rw [if_pos n1]
   show Tru lt _ (if lt (at_ p 0) (at_ p (n - 1))=true then _ else _)
   by_cases z:lt (at_ p 0) (at_ p (n - 1))=true
   ·rw [if_pos z]
    exact ⟨a,by omega,hs,c⟩
   ·rw [if_neg z]
    have z:lt (at_ p 0) (at_ p (n - 1))=false:=by simpa using z
    have R:=oS (p:=p) (i:=0) (j:=n) (by omega)
    have ev:∀ i j,i < n->j < n->Le lt (at_ p i) (at_ p j):=fun i j hi hj =>
     O.trans _ _ _ (c i (n - 1) (by omega) (by omega)) (O.trans _ _ _ z (c 0 j (by omega) hj))
    refine jA O (by omega) (by omega) ((mirror_size _ _ _ _).trans hs) fun i j hij hj=> ?_
    rw [R i,R j]
    by_cases ej:j=n
    ·subst ej
     rw [if_neg (by omega:¬ (0<=j/\j < j))]
     split
     ·exact O.trans _ _ _ (O.asym _ _ hl) (ev _ _ (by omega) (by omega))
     ·have:i=j:=by omega
      subst this;exact O.refl _
    ·rw [if_pos (by omega:0<=i/\i < n),if_pos (by omega:0<=j/\j < n)]
     exact ev _ _ (by omega) (by omega)
  ·rw [if_neg n1]
   have:n=1:=by omega
   subst this
   refine jA O (by omega) (by omega) hs fun i j hij hj=> ?_
   by_cases e:i=j
   ·subst e;exact O.refl _
   ·have hi:i=0:=by omega
    have hj:j=1:=by omega
    subst hi hj;exact O.asym _ _ hl
theorem kK{p:Array Nat}{k:Nat}(h:Asc lt p k):∀ f l r,l<=r->r<=k->r<=l+f->(∀ i,i < l->Le lt (at_ p i) (at_ p k))->(∀ i,r<=i->i < k->Le lt (at_ p k) (at_ p i)) ->
 Tru lt (fun m=>m<=k/\(∀ i,i < m->Le lt (at_ p i) (at_ p k))/\∀ i,m<=i->i < k->Le lt (at_ p k) (at_ p i)) (kas_place p k f l r)
 | 0,l,r,h1,h2,h3,h4,h5=>⟨by omega,h4,fun i a b=>h5 i (by omega) b⟩
 | f+1,l,r,h1,h2,h3,h4,h5=>by
  unfold kas_place
  by_cases g:l>=r
  ·rw [if_pos g]
   exact ⟨by omega,h4,fun i a b=>h5 i (by omega) b⟩
  ·rw [if_neg g]
   show Tru lt _ (if lt (at_ p k) (at_ p ((l+r) / 2))=true then _ else _)
   by_cases c:lt (at_ p k) (at_ p ((l+r) / 2))=true
   ·rw [if_pos c]
    exact kK h f l ((l+r) / 2) (by omega) (by omega) (by omega) h4 fun i a b=>O.trans _ _ _ (O.asym _ _ c) (h _ i a b)
   ·rw [if_neg c]
    have c:lt (at_ p k) (at_ p ((l+r) / 2))=false:=by simpa using c
    exact kK h f ((l+r) / 2+1) r (by omega) h2 (by omega) (fun i a=>O.trans _ _ _ (h i _ (by omega) (by omega)) c) h5
theorem xO{N:Nat}:∀ f (p:Array Nat) k,1<=k->k+f=N->p.size=N->Asc lt p k->Tru lt (fun r:Array Nat=>r.size=N/\Asc lt r N) (kas_bin f p k)
 | 0,p,k,h1,h2,hs,h=>⟨hs,by rw [<- h2];exact h⟩
 | f+1,p,k,h1,h2,hs,h=>by
  unfold kas_bin;refine ((kK O h k 0 k (by omega) (Bq _) (by omega) (fun i z=>by omega) (fun i a b=>by omega)).mono fun l ⟨a,b,c⟩=> ?_).bind;have B:=at_bub (p:=p) (k:=k) (l:=l) (by omega) a
  refine xO f _ (k+1) (by omega) (by omega) ((bubble_size _ _ _).trans hs) fun i j hij hj=> ?_
  rw [B i,B j]
  by_cases ei:i=l
  ·rw [if_pos ei]
   by_cases ej:j=l
   ·rw [if_pos ej];exact O.refl _
   ·rw [if_neg ej,if_pos (by omega)]
    exact c _ (by omega) (by omega)
  ·rw [if_neg ei]
   by_cases ej:j=l
   ·rw [if_pos ej,if_neg (by omega)]
    exact b i (by omega)
   ·rw [if_neg ej]
    split
    ·rw [if_pos (by omega)]
     exact h _ _ (by omega) (by omega)
    ·split
     ·exact h _ _ (by omega) (by omega)
     ·exact h _ _ hij (by omega)
theorem ym{n:Nat}(h:1<=n):Tru lt (fun r:Array Nat=>r.size=n/\Asc lt r n) (kas_sort n):=by
 unfold kas_sort;refine ((xH O h (by simp)).mono fun r ⟨a,b,c,d⟩=> ?_).bind
 by_cases e:r.1 < n
 ·rw [if_pos e,show max r.1 1=r.1 by omega]
  exact xO O _ _ _ a (by omega) c d
 ·rw [if_neg e]
  have:r.1=n:=by omega
  exact ⟨c,by rw [<- this];exact d⟩
end
end Srt
namespace Srt
open PySem PySem.W PyProof.Rows
def cV:List Int->List Int->Bool
 | [],[]=>false
 | [],_::_=>true
 | _::_,[]=>false
 | a::as,b::bs=>if a=b then cV as bs else decide (a < b)
theorem g0:∀ a b:List Int,cV a b=true->cV b a=false
 | [],[],h=>by cases h
 | [],_::_,_=>rfl
 | _::_,[],h=>by cases h
 | a::as,b::bs,h=>by
  unfold cV at h ⊢
  by_cases e:a=b
  ·rw [if_pos e] at h
   rw [if_pos e.symm];exact g0 as bs h
  ·rw [if_neg e] at h
   rw [if_neg (Ne.symm e)];have:=Bt h;exact Br (by omega)
theorem le:∀ a b:List Int,cV a b=false->cV b a=false->a=b
 | [],[],_,_=>rfl
 | [],_::_,h,_=>by cases h
 | _::_,[],_,h=>by cases h
 | a::as,b::bs,h,g=>by
  unfold cV at h g
  by_cases e:a=b
  ·rw [if_pos e] at h
   rw [if_pos e.symm] at g;rw [e,le as bs h g]
  ·rw [if_neg e] at h
   rw [if_neg (Ne.symm e)] at g;have h:=CW h;have g:=CW g;omega
theorem fN:∀ a b c:List Int,cV b a=false->cV c b=false->cV c a=false
 | [],_,[],_,_=>rfl
 | [],[],_::_,_,_=>rfl
 | [],_::_,_::_,_,_=>rfl
 | _::_,[],_,h,_=>by cases h
 | _::_,_::_,[],_,h=>by cases h
 | a::as,b::bs,c::cs,h,g=>by
  unfold cV at h g ⊢
  by_cases e1:b=a
  ·rw [if_pos e1] at h
   by_cases e2:c=b
   ·rw [if_pos e2] at g
    rw [if_pos (e2.trans e1)];exact fN as bs cs h g
   ·rw [if_neg e2] at g
    have g:=CW g;rw [if_neg (fun z=>e2 (z.trans e1.symm))];exact Br (by omega)
  ·rw [if_neg e1] at h
   have h:=CW h
   by_cases e2:c=b
   ·rw [if_neg (fun z=>e1 (e2.symm.trans z))]
    exact Br (by omega)
   ·rw [if_neg e2] at g
    have g:=CW g;rw [if_neg (by omega)];exact Br (by omega)
def uB(x:List Int):List (List Int)->List (List Int)
 | []=>[x]
 | y::l=>if cV y x=true then y::uB x l else x::y::l
def fM:List (List Int)->List (List Int)
 | []=>[]
 | x::l=>uB x (fM l)
theorem ja(x:List Int):∀ l,(uB x l).Perm (x::l)
 | []=> .refl _
 | y::l=>by
  unfold uB
  split
  ·exact ((ja x l).cons y).trans (.swap _ _ _)
  ·exact .refl _
theorem cI:∀ l,(fM l).Perm l
 | []=> .refl _
 | x::l=>(ja x _).trans ((cI l).cons x)
abbrev LeL(a b:List Int):Prop:=cV b a=false
theorem jv(x:List Int):∀ l:List (List Int),l.Pairwise LeL->(uB x l).Pairwise LeL
 | [],_=>List.pairwise_singleton _ _
 | y::l,h=>by
  have hc:=B0.mp h;unfold uB
  split
  ·rename_i hl
   refine B0.mpr ⟨fun z hz=> ?_,jv x l hc.2⟩
   rcases Bp.mp ((ja x l).mem_iff.mp hz) with rfl | hz
   ·exact g0 _ _ hl
   ·exact hc.1 z hz
  ·rename_i hl
   have hl:cV y x=false:=by simpa using hl
   refine B0.mpr ⟨fun z hz=> ?_,h⟩
   rcases Bp.mp hz with rfl | hz
   ·exact hl
   ·exact fN _ _ _ hl (hc.1 z hz)
theorem eU:∀ l,(fM l).Pairwise LeL
 | []=> .nil
 | x::l=>jv x _ (eU l)
theorem bL:∀ {a b:List (List Int)},a.Pairwise LeL->b.Pairwise LeL->a.Perm b->a=b
 | [],b,_,_,p=>by rw [p.nil_eq]
 | x::a,[],_,_,p=>absurd p.symm.nil_eq (by simp)
 | x::a,y::b,ha,hb,p=>by
  have ha':=B0.mp ha;have hb':=B0.mp hb
  have exy:x=y:=by
   have hx:x∈y::b:=p.mem_iff.mp Bn;have hy:y∈x::a:=p.mem_iff.mpr Bn
   rcases Bp.mp hx with e | hx
   ·exact e
   ·rcases Bp.mp hy with e | hy
    ·exact e.symm
    ·exact le _ _ (hb'.1 x hx) (ha'.1 y hy)
  subst exy;rw [bL ha'.2 hb'.2 (List.Perm.cons_inv p)]
theorem lexE{prog:Program}{w:World}{A:Around}{fin:Bool}{C:Bool->Shared->Prop}{s:Shared}:∀ {vs ws:List Value} {ns ms:List Int} (i:Nat),IntsAre vs ns->IntsAre ws ms->fin=decide (ns.length < ms.length)->C (cV ns ms) s->KatLex prog w A true fin C (vs.zip ws) i s
 | [],[],_,_,i,.nil,.nil,hf,hC=>kat_nil (by subst hf;exact hC)
 | [],_::_,_,_,i,.nil,.cons _ _ _,hf,hC=>kat_nil (by subst hf;rw [Bl (by simp)];exact hC)
 | _::_,[],_,_,i,.cons _ _ _,.nil,hf,hC=>kat_nil (by subst hf;rw [Br (by simp)];exact hC)
 | _::vs,_::ws,_::ns,_::ms,i,.cons a t h1,.cons c u h2,hf,hC=>by
  rw [C0];refine kat_cons ?_;obtain ⟨e,he,h3⟩:=HT.xA A s a t c u;refine he prog w _ _ ?_;unfold cV at hC
  cases e with
  | true =>
   rw [if_pos (h3.mp rfl)] at hC;exact kat_yes (lexE (i+1) h1 h2 (by rw [hf];simp) hC)
  | false =>
   rw [if_neg (fun z=>by cases h3.mpr z)] at hC;refine kat_no ?_
   cases i with
   | zero=>exact oneLt_int hC
   | succ i=>exact kat_one _ _ (lt_int hC)
section
variable{prog:Program}{w:World}{A:Around}{E:Value->Shared->Prop}{s:Shared}
def gO(h:Heap)(vs:List Value)(ks:List (List Int)):Prop:=vs.length=ks.length/\∀ (i:Nat) (hi:i < vs.length),∃ a items,vs[i] = .ref a/\IsTup h a items/\IntsAre items.toList (ks.getD i [])/\ks.getD i []≠[]
theorem gO.tups{h:Heap}{vs:List Value}{ks:List (List Int)}(t:gO h vs ks):Tups h vs:=fun v hv=>by
 obtain ⟨i,hi,rfl⟩:=Cv.mp hv;obtain ⟨a,items,h1,h2,h3,h4⟩:=t.2 i hi;exact ⟨a,items,_,h1,h2,h3,h4⟩
theorem gO.keep{h h':Heap}{vs:List Value}{ks:List (List Int)}(t:gO h vs ks)(k:∀ b o,h.get? b=some o->o.cls = .type "tuple" -> h'.get? b=some o):gO h' vs ks:=⟨t.1,fun i hi=>by
 obtain ⟨a,items,e,⟨o,h1,h2,n,h3⟩,i,ne⟩:=t.2 i hi
 exact ⟨a,items,e,⟨o,k a o h1 h2,h2,n,h3⟩,i,ne⟩⟩
abbrev klt(ks:List (List Int))(i j:Nat):Bool:=cV (ks.getD i []) (ks.getD j [])
theorem zD(ks:List (List Int)):Ord (klt ks):=⟨fun _ _ h=>g0 _ _ h,fun _ _ _ h g=>fN _ _ _ h g⟩
theorem asc_pw{lt:Nat->Nat->Bool}{p:Array Nat}(h:Asc lt p p.size):p.toList.Pairwise (Le lt):=by
 rw [List.pairwise_iff_getElem];intro i j hi hj hij;have:=h i j (Cs hij) (by simpa using hj);unfold Le at_ at this
 have gi:i < p.size:=by simpa using hi
 have gj:j < p.size:=by simpa using hj
 rw [BO,BO,Cu gi,Cu gj] at this;simpa using this
end
end Srt
namespace Srt
open PySem PySem.W PyProof.Rows
section
variable{prog:Program}{w:World}{A:Around}{E:Value->Shared->Prop}{s:Shared}
theorem _root_.L2.IntsAre_len{vs:List Value}{ns:List Int}(h:IntsAre vs ns):vs.length=ns.length:=by
 induction h with
 | nil=>rfl
 | cons _ _ _ ih=>rw [Bj,Bj,ih]
theorem As{a:Addr}{vs:List Value}{ks:List (List Int)}{n:Nat}{P:PySem.Fin->Shared->Prop}(ho:s.heap.get? a=some (seqObj "list" vs.toArray n))(ht:gO s.heap vs ks)(h64:vs.length < 64)
 (h:∀ p:List Nat,p.Perm (List.range vs.length)->p.Pairwise (Le (klt ks))->P (.done (.ret .none)) { s with heap:=sortedHeap s.heap a vs (p.map fun i=>vs.getD i Value.none).toArray }):wpAny (model prog w) A (Builtin.«list.sort» ⟨[.ref a],[]⟩) P E s:=by
 rw [list_sort_plain];have ha:a < s.heap.objs.size:=Bk ho;refine A9 (listItems_at ho rfl (A9 (listUpdate_at ho rfl ?_)));obtain ⟨e1,o1⟩:∃ e1,(s.heap.update a (Obj.mapSeq fun _ => #[])).get? a=some (seqObj "list" #[] e1):=⟨_,get?_update_seq ho (fun _ => #[])⟩;refine A9 (seqEpoch_at o1 rfl (A9 (wpAny_newTuple (A9 (Dh ?_)))));refine Cm ?_;have o6:(((s.heap.update a (Obj.mapSeq fun _ => #[])).push (seqObj "tuple" vs.toArray 0)).push (seqObj "list" #[] 0)).get? a=some (seqObj "list" #[] e1):=Ba _ (Ba _ o1)
 show wpAny (model prog w) A _ P E { s with heap:=((s.heap.update a (Obj.mapSeq fun _ => #[])).push (seqObj "tuple" vs.toArray 0)).push (seqObj "list" #[] 0) }
 dsimp only
 have hsz:vs.toArray.size=vs.length:=by simp
 have t6:gO (((s.heap.update a (Obj.mapSeq fun _ => #[])).push (seqObj "tuple" vs.toArray 0)).push (seqObj "list" #[] 0)) vs ks:=ht.keep fun b o e c=>by
  refine Ba _ (Ba _ ((CJ _ _ ?_).trans e));rintro rfl;rw [ho] at e;cases e;exact absurd c (by simp [seqObj])
 by_cases h2:vs.toArray.size < 2
 ·rw [if_pos h2,if_pos h2]
  refine A9 (Bg ?_);rw [StateT.run_pure];refine A9 (Bg ?_);dsimp only;refine A9 (seqEpoch_at o6 rfl (A9 (listUpdate_at o6 rfl ?_ (hsz2:=by rw [Array.size_map];show (pairsOf vs).size<=_;rw [pairsOf_size,sizeLine_eq];omega))));simp only [bne_self_eq_false,Bool.false_eq_true,if_false];refine Bg ?_
  have e:((vs.toArray.zip vs.toArray).map (·.2))=vs.toArray:=by
   apply Array.toList_inj.mp;rw [Array.toList_map,Array.toList_zip];exact List.map_snd_zip (Bq _)
  have q:=h (List.range vs.length) (List.Perm.refl _) (List.pairwise_iff_getElem.mpr fun i j hi hj hij=>by
   rw [Cp] at hi hj
   omega)
  rw [show ((List.range vs.length).map fun i=>vs.getD i Value.none)=vs by
   apply Dg
   ·simp
   ·intro i h1 h2
    simp [h2]] at q
  rw [<- e] at q;exact q
 ·rw [if_neg h2,if_neg h2]
  have h2':2<=vs.length:=by omega
  obtain ⟨fs,f1,f2,f3⟩:=xw (M:=model prog w) t6.tups;refine A9 (kat_kind (T:= .type "int") f2 (by omega) f3 (by decide) ?_);rw [show ((Value.type "int" != Value.type "tuple")=true) from by decide]
  refine A9 (Ci (kat_run (Q:=fun st' s'=>∃ p:Array Nat,(cY vs.length p/\p.size=vs.length/\Asc (klt ks) p vs.length)/\arrOf st'=p.map (kas_item (vs.toArray.zip vs.toArray))/\failedOf st'=none/\s'=_) (G:=fun p s'=>(cY vs.length p/\p.size=vs.length/\Asc (klt ks) p vs.length)/\s'=_) (ks:=vs) rfl h2' h64
   (fun p st' s' _ a2 a3 a4=>⟨p,a4.1,a2,a3,a4.2⟩) (both (lt:=klt ks) (P:=cY vs.length) (P':=fun p:Array Nat=>p.size=vs.length/\Asc (klt ks) p vs.length) (fun i j C hi hj hC=> ?_) (fun p hp hp2=>⟨⟨hp,hp2⟩,rfl⟩) (sort (by omega)) (ym (zD ks) (by omega)))) ?_ fun _ _ x=>x)
  ·show wpAny (model prog w) A (keyLt' (tuples' true) (vs.getD i Value.none) (vs.getD j Value.none)) C (fun _ _=>False) _
   have gi:vs.getD i Value.none=vs[i]:=by simp [hi]
   have gj:vs.getD j Value.none=vs[j]:=by simp [hj]
   rw [gi,gj];obtain ⟨x,xs,ex,⟨ox,x1,x2,nx,x3⟩,ix,_⟩:=t6.2 i hi;obtain ⟨y,ys,ey,⟨oy,y1,y2,ny,y3⟩,iy,_⟩:=t6.2 j hj;rw [ex,ey];refine kat_lt x1 x3 y1 y3 (lexE 0 ix iy ?_ hC);rw [<- BQ,<- BQ,L2.IntsAre_len ix,L2.IntsAre_len iy]
  ·rintro ⟨⟨⟩,st'⟩ s' ⟨p,⟨hp,hpz,hpa⟩,har,hf,rfl⟩
   dsimp only;have hout:=kat_snds (vs:=vs) (ks:=vs) rfl har
   have hperm:(p.toList.map fun i=>vs.getD i Value.none).Perm vs:=by
    have e:=hp.2.map fun i=>vs.getD i Value.none
    refine e.trans (Ds ?_);apply Dg
    ·simp
    ·intro i h1 h2
     simp [h2]
   rw [hout];refine A9 (seqEpoch_at o6 rfl (A9 (listUpdate_at o6 rfl ?_ (hsz2:=by rw [Bh,hperm.length_eq,sizeLine_eq];omega))));rw [hf];simp only [bne_self_eq_false,Bool.false_eq_true,if_false];exact Bg (h p.toList hp.2 (asc_pw (by rw [hpz];exact hpa)))
theorem yl{l:Addr}{vs:List Value}{ks:List (List Int)}{Q:Value->Shared->Prop}(hl:s.heap.IsList l vs.toArray)(ht:gO s.heap vs ks)(h64:vs.length < 64)
 (h:∀ p:List Nat,p.Perm (List.range vs.length)->p.Pairwise (Le (klt ks))->Q (.ref (s.heap.objs.size+1)) { s with heap:=sortedAll s.heap vs (p.map fun i=>vs.getD i Value.none).toArray }):wpAny (model prog w) A (call (.builtin "sorted") [.ref l]) Q E s:=by
 refine Calls.call_function_entry kind_sorted plain_sorted entry_sorted (args_sorted1 _) ?_;unfold Builtin.«sorted»;refine A9 (m:=checkCount "sorted" 1 1 _) (Bg ?_);refine A9 (collect_list hl (A9 (Dh ?_)))
 have hsz:((s.heap.push (seqObj "list" #[] 0)).update s.heap.objs.size (Obj.mapSeq (·++ vs.toArray))).objs.size=s.heap.objs.size+1:=by
  rw [Heap.size_update,size_push']
 have oL:(((s.heap.push (seqObj "list" #[] 0)).update s.heap.objs.size (Obj.mapSeq (·++ vs.toArray))).push (seqObj "list" vs.toArray 0)).get? (s.heap.objs.size+1)=some (seqObj "list" vs.toArray 0):=by
  rw [<- hsz];exact Bm _ rfl
 show wpAny _ _ _ _ _ { s with heap:=((s.heap.push (seqObj "list" #[] 0)).update s.heap.objs.size (Obj.mapSeq (·++ vs.toArray))).push (seqObj "list" vs.toArray 0) }
 rw [hsz]
 have tL:gO (((s.heap.push (seqObj "list" #[] 0)).update s.heap.objs.size (Obj.mapSeq (·++ vs.toArray))).push (seqObj "list" vs.toArray 0)) vs ks:=ht.keep fun b o e _ =>
  Ba _ ((CJ _ _ (Ne.symm (BC (Bk e)))).trans (Ba _ e))
 refine A9 (Cm (BR slot_list_sort ⟨_,oL,rfl⟩ entry_list_sort (As oL tL h64 fun p hp hs=>⟨_,rfl,?_⟩) (args_list_sort _)));exact Bg ⟨_,rfl,h p hp hs⟩
end
end Srt
namespace L2
open PySem PySem.Spec PyProof.Rows
section
variable{X:Cx}
def iW(K:Dy):List V->Hp->VK->Prop:=fun xs H Q=>∃ (p:Addr) (bs:List V) (ks:List (List Int)),xs=[V.ref p]/\SqL K H p bs/\bs.length < 64/\bs.length=ks.length/\(∀ (i:Nat) (k:List Int),ks[i]?=some k->∃ a:Addr,bs[i]?=some (.ref a)/\SqT K H a (k.map V.int)/\k≠[]) /\
 ∀ l (q:List Nat),H l=none->q.Perm (List.range bs.length)->q.map (fun i=>ks.getD i [])=Srt.fM ks->Q (.ref l) (upd H l (.lst (q.map fun i=>bs.getD i .non)))
theorem oO:aJ X (.builtin "sorted") (iW X.K):=by
 intro pins s σ H xs us Q I r h;obtain ⟨p,bs,ks,rfl,hq,h64,hlk,ht,q⟩:=h;obtain ⟨u,rfl,ru⟩:=bV r;cases ru;obtain ⟨its,rv,pl,hz⟩:=I.list hq;have hlen:=rv.length
 have isref:∀ b∈bs,∃ a,b = .ref a:=fun b hb=>by
  obtain ⟨i,hi,rfl⟩:=Cv.mp hb;obtain ⟨a,e,_⟩:=ht i _ (Bb (by omega));rw [Bb hi] at e;exact ⟨a,Option.some.inj e⟩
 obtain ⟨eb,refs⟩:=mP rv isref
 refine Srt.yl (ks:=ks) pl.isList ⟨by omega,fun i hi=> ?_⟩ (by omega) fun p hp hs=> ?_
 ·obtain ⟨a,e,hS,ne⟩:=ht i _ (Bb (by omega))
  have hv:its[i] = .ref a:=by
   obtain ⟨b,hb⟩:=refs its[i] (Ck hi)
   have:(its.map pF)[i]?=some (.ref a):=by rw [<- eb];exact e
   rw [BI,Bb hi,hb] at this;rw [hb];have:=Option.some.inj this;cases this;rfl
  obtain ⟨items,ri,pt,_⟩:=I.tuple hS
  have hk:ks.getD i []=ks[i]'(by omega):=by simp [BE,Bb (show i < ks.length by omega)]
  rw [hk];exact ⟨a,items.toArray,hv,pt,eW ri,ne⟩
 ·have hf:H (s.heap.objs.size+1)=none:=I.hok.fresh (Nat.le_succ _)
  have perm:(p.map fun i=>its.getD i Value.none).Perm its:=by
   refine (hp.map _).trans (Ds ?_);apply Dg
   ·simp
   ·intro i h1 h2
    simp [h2]
  have ro:∀ u∈(p.map fun i=>its.getD i Value.none),∃ b,u = .ref b:=fun u hu=>refs u (perm.mem_iff.mp hu)
  have eo:(p.map fun i=>its.getD i Value.none).map pF=p.map fun i=>bs.getD i .non:=by
   rw [B8];apply Cq;intro i hi
   have hi':i < its.length:=by
    have:=hp.mem_iff.mp hi;simpa using this
   show pF (its.getD i Value.none)=_
   rw [eb];simp [BE,hi']
  have es:p.map (fun i=>ks.getD i [])=Srt.fM ks:=by
   refine Srt.bL ?_ (Srt.eU ks) (((hp.map _).trans (Ds ?_)).trans (Srt.cI ks).symm)
   ·rw [List.pairwise_map]
    exact hs.imp fun h=>h
   ·rw [hlen.symm.trans hlk]
    apply Dg
    ·simp
    ·intro i h1 h2
     simp [h2]
  obtain ⟨e,he⟩:=sortedAll_at s.heap its (p.map fun i=>its.getD i Value.none).toArray;refine ⟨.ref (s.heap.objs.size+1),upd H (s.heap.objs.size+1) (.lst (p.map fun i=>bs.getD i .non)),I.laid (t':=s.toks) (fun b o=>sortedAll_old) (Nat.le_succ _) ⟨?_,_,e,by rw [<- eo];exact iT ro,he⟩,rfl,q _ p hf (by rw [hlen];exact hp) es⟩;rw [Be,hp.length_eq,Cp,<- hlen];exact hz
end
def tupI:D->Option (List Int)
 | .tup ds=>match bu ds with
  | some (n::ns)=>some (n::ns)
  | _=>none
 | _=>none
def pb:List D->Option (List (List Int))
 | []=>some []
 | d::ds=>match tupI d,pb ds with
  | some k,some ks=>some (k::ks)
  | _,_=>none
abbrev qK(k:List Int):D:= .tup (k.map D.int)
theorem yc{d:D}{k:List Int}(h:tupI d=some k):d=qK k/\k≠[]:=by
 unfold tupI at h
 split at h
 ·rename_i ds
  split at h
  ·rename_i n ns e
   cases h;exact ⟨by rw [bN e],by simp⟩
  ·cases h
 ·cases h
theorem o9:∀ {ds:List D} {ks:List (List Int)},pb ds=some ks->ds=ks.map qK/\∀ k∈ks,k≠[]
 | [],_,h=>by cases h;exact ⟨rfl,fun k hk=>by cases hk⟩
 | d::ds,ks,h=>by
  unfold pb at h
  split at h
  ·rename_i k ks' h1 h2
   cases h;obtain ⟨e1,n1⟩:=yc h1;obtain ⟨e2,n2⟩:=o9 h2;exact ⟨by rw [e1,e2];rfl,fun k hk=>(Bp.mp hk).elim (fun e=>e ▸ n1) (n2 k)⟩
  ·cases h
def rE:List D->Option (D×Bool)
 | [.lst ds]=>match pb ds with
  | some ks=>if decide (ks.length < 64)=true then some (.lst ((Srt.fM ks).map qK),true) else none
  | none=>none
 | _=>none
theorem mO{K:Dy}{H:Hp}{ds:List D}{xs:List V}(h:ai K H ds xs):∀ (q:List Nat),(∀ i∈q,i < ds.length)->ai K H (q.map fun i=>ds.getD i .non) (q.map fun i=>xs.getD i .non)
 | [],_=>trivial
 | i::q,hq=>by
  have hi:=hq i Bn;obtain ⟨x,hx,r⟩:=h.get (Bb hi);refine ⟨?_,mO h q fun j hj=>hq j (Bi _ hj)⟩
  show aI K H (ds.getD i .non) (xs.getD i .non)
  rw [BE,BE,hx,Bb hi];exact r
theorem wt{K:Dy}:OpS K (iW K) rE:=by
 intro vs ds H L Q d nw hm r e q;unfold rE at e
 split at e
 ·rename_i es
  obtain ⟨x,rfl,⟨p,xs,rfl,h1,h2⟩⟩:=aN r
  cases ek:pb es with
  | none=>rw [ek] at e;cases e
  | some ks =>
   rw [ek] at e;simp only at e
   split at e
   ·rename_i hk
    cases e;have hk:=Bt hk;obtain ⟨ee,hne⟩:=o9 ek
    have hl:ks.length=xs.length:=by rw [<- h2.len,ee,Be]
    refine ⟨p,xs,ks,rfl,.inl (.inl h1),by omega,hl.symm,fun i k hi=> ?_,fun l p' hl' hp hs=>q _ _ (ac.upd hl') (cg ?_ hl')⟩
    ·obtain ⟨v,hv,a,ys,rfl,g1,g2⟩:=h2.get (i:=i) (d:=qK k) (by rw [ee,BI,hi];rfl)
     exact ⟨a,hv,.inl (.inl (by rw [(ar g1).2,bC g2])),hne k (Bv hi)⟩
    ·have:=mO h2 p' fun i hi=>by
      have:=hp.mem_iff.mp hi;rw [BK,<- h2.len] at this;exact this
     rw [<- hs,B8]
     have e2:(p'.map fun i=>es.getD i .non)=p'.map (qK ∘ fun i=>ks.getD i []):=by
      apply Cq;intro i hi
      have hi':i < ks.length:=by
       have:=hp.mem_iff.mp hi;rw [BK] at this;omega
      rw [ee];simp [BE,hi']
     rw [<- e2];exact this
   ·cases e
 ·cases e
def rF(ds:List D):Option (D×Bool):=match kb ds with
 | some r=>some r
 | none=>rE ds
theorem wv{K:Dy}:OpS K (fun xs H Q=>(gZ K xs H Q\/gY K xs H Q)\/iW K xs H Q) rF:=by
 intro vs ds H L Q d nw hm r e q;unfold rF at e
 cases es:kb ds with
 | some z =>
  rw [es] at e;cases e;exact .inl (uq vs ds H L Q d nw hm r es q)
 | none =>
  rw [es] at e;exact .inr (wt vs ds H L Q d nw hm r e q)
theorem rT{X:Cx}:aJ X (.builtin "sorted") (fun xs H Q=>(gZ X.K xs H Q\/gY X.K xs H Q)\/iW X.K xs H Q):=oP.or oO
section
variable{X:Cx}{EX:EXT}{e:Expr}{es:List Expr}{pos p:Pos}{as:List Arg}
end
def qO(nms:List Str)(i:Nat)(f g:SS):SS:=fun ρ=>match f ρ with
 | some (.ex C,ρ1)=>if nms.elem C=true then match ρ1[i]? with
  | some _=>match g (ρ1.set i (some (.exc C,.fz))) with
   | some (.nx,ρ2)=>some (.nx,ρ2.set i none)
   | some (.bk,ρ2)=>some (.bk,ρ2.set i none)
   | some (.ct,ρ2)=>some (.ct,ρ2.set i none)
   | some (.rt d nw,ρ2)=>some (.rt d nw,ρ2)
   | some (.ex _,_)=>none
   | none=>none
  | none=>none
  else none
 | r=>r
section
variable{K:Dy}{F:Fx}{EX:EXT}{σ:St}{H:Hp}{ρ:Rho}{W:List Addr}
theorem Rel.drop(R:Rel K F σ H ρ W)(i:Nat):Rel K F (σ.set i none) H (ρ.set i none) W:=by
 refine ⟨fun j e m hj=> ?_,fun j k e f m n p h1 h2 h3 h4 h5 h6=> ?_,R.wz,R.mt,by rw [B3,B3];exact R.len⟩
 ·rcases bg hj with ⟨_,e1⟩ | ⟨ne,e1⟩
  ·cases e1
  ·obtain ⟨v',g1,g2⟩:=R.slot j e m e1
   exact ⟨v',by rw [BG (Ne.symm ne)];exact g1,g2⟩
 ·rcases bg h1 with ⟨_,z⟩ | ⟨n1,z⟩
  ·cases z
  ·rcases bg h3 with ⟨_,z'⟩ | ⟨n2,z'⟩
   ·cases z'
   ·rw [BG (Ne.symm n1)] at h5
    rw [BG (Ne.symm n2)] at h6;exact R.apart j k _ _ _ _ _ z h2 z' h4 h5 h6
end
theorem s_try{X:Cx}{EX:EXT}{body:List Stmt}{b0:Stmt}{suite:List Stmt}{n x:Str}{i:Nat}{Dc:Addr}{np hpos pos:Pos}{f g:SS}{nms:List Str}
 (hst:X.stack=X.env::X.outer) (hfr:X.env.frame=some X.env.locals)
 (hb:∀ pn (EX':EXT),JSs (pd X pn fun c σ H=>∃ nm C,c = .ref C/\fS X.K nm C/\EX' nm σ H) EX' body f)
 (hs:∀ pn ea,JSs (gW X pn ea) EXn (b0::suite) g)
 (hN:X.N.Nodup) (hi:X.N[i]?=some n) (hlo:X.env.scope.names.lookup n=some .local) (hg:Gl X x) (hD:Hdl X.K X.mg x Dc)
 (hsub:∀ nm,nms.elem nm=true->∀ C,fS X.K nm C->PySem.W.subIn X.K (.ref C) (.ref Dc)=some true) (hdb:(x == ("__debug__" : Str))=false:=by decide) :
 JS X EX (.Try body [.ExceptHandler (some (.Name x np)) (some n) (b0::suite) hpos] [] [] pos) (qO nms i f g):=by
 refine ⟨(ps_try (ts:=tVS X.K EXn g) (tb:=fun W D σ H=>∃ EX':EXT,(W=fun c σ H=>∃ nm C,c = .ref C/\fS X.K nm C/\EX' nm σ H)/\tVS X.K EX' f D σ H) hst hfr (fun pn W=> ?_) (fun pn ea=>(hs pn ea).p) hN hi hlo hg hD hdb).by fun D σ H ⟨F,ρ,W0,R,h⟩=> ?_⟩
 ·intro pins s σ H D I hw
  obtain ⟨EX',rfl,hw⟩:=hw;exact (hb pn EX').p pins s σ H D I hw
 ·let D':mE:={ nx:=fun σ'' H''=>D.nx (σ''.set i none) H'',rt:=D.rt,bk:=fun σ'' H''=>D.bk (σ''.set i none) H'',ct:=fun σ'' H''=>D.ct (σ''.set i none) H'' }
  let EX':EXT:=fun nm σ' H'=>nms.elem nm=true/\∀ C ea,fS X.K nm C->H' ea=none->tVS X.K EXn g D' (σ'.set i (some (.ref ea))) (upd H' ea (lK ea C))
  refine ⟨_,⟨EX',rfl,F,ρ,W0,R,?_⟩,?_⟩
  ·unfold qO at h
   revert h
   cases f ρ with
   | none=>exact fun h=>h
   | some q =>
    obtain ⟨q,ρ1⟩:=q
    cases q with
    | nx=>exact fun h=>h
    | bk=>exact fun h=>h
    | ct=>exact fun h=>h
    | rt d nw=>exact fun h=>h
    | ex nm =>
     intro h;simp only at h
     by_cases he:nms.elem nm=true
     ·rw [if_pos he] at h
      cases hρ:ρ1[i]? with
      | none=>rw [hρ] at h;exact h.elim
      | some z =>
       rw [hρ] at h;simp only at h;intro σ1 H1 W1 fr sub R1;refine ⟨he,fun C ea hC hea=> ?_⟩
       have hlt:i < σ1.length:=by rw [R1.len];exact (Bs.mp hρ).1
       have R2:=(R1.same (ac.upd hea (o:=lK ea C))).put (d:= .exc nm) (v:= .ref ea) hlt ⟨ea,C,rfl,hC,(aO (R1.fresh hea)).trans am⟩;have fr2:Fr W0 H (upd H1 ea (lK ea C)):=fr.trans (W1:=[]) (ac.fr (ac.upd hea)) (fun p hp=>by cases hp);have h:=OkS.go h fr2 (W1:=W1) sub;refine ⟨F,_,W1,R2,?_⟩
       revert h
       cases g (ρ1.set i (some (.exc nm,.fz))) with
       | none=>exact fun h=>h
       | some q =>
        obtain ⟨q,ρ2⟩:=q
        cases q with
        | nx=>exact fun h σ3 H3 W3 f3 s3 R3=>h _ H3 W3 f3 s3 (R3.drop i)
        | bk=>exact fun h σ3 H3 W3 f3 s3 R3=>h _ H3 W3 f3 s3 (R3.drop i)
        | ct=>exact fun h σ3 H3 W3 f3 s3 R3=>h _ H3 W3 f3 s3 (R3.drop i)
        | rt d nw=>exact fun h=>h
        | ex _=>exact fun h=>h.elim
     ·rw [if_neg he] at h
      exact h.elim
  ·rintro cls σ' H' ⟨nm,C,rfl,hC,he,hh⟩
   exact ⟨C,rfl,hsub nm he C hC,fun ea hea=>hh C ea hC hea⟩
end L2
namespace L2
theorem s_none{X:Cx}{EX:EXT}{s:PySem.Stmt}:JS X EX s (fun _=>none):=⟨fun pins s σ H D I ⟨_,_,_,_,h⟩=>h.elim⟩
namespace Kd
open PySem L2 PyProof.Rows
def vq:List Str:=["web", "place", "kind", "share", "square", "number", "text", "row", "great"]
def eS(j:Nat):List V:=(List.range 9).map fun i=>V.bl (decide (i=j))
structure so(K:Dy)(mg:Str->Option Value)(C:Addr)(j:Nat):Prop where
 exk:XK.qF K C
 lt:j < 9
 ve:PySem.W.kitOne K (.ref C) (.type "ValueError")=some true
 k0:∃ c,mg "NoWeb" = some (.ref c)/\PySem.W.kitOne K (.ref C) (.ref c)=some (decide (0=j))
 k1:∃ c,mg "NoPlace" = some (.ref c)/\PySem.W.kitOne K (.ref C) (.ref c)=some (decide (1=j))
 k2:∃ c,mg "NoKind" = some (.ref c)/\PySem.W.kitOne K (.ref C) (.ref c)=some (decide (2=j))
 k3:∃ c,mg "NoShare" = some (.ref c)/\PySem.W.kitOne K (.ref C) (.ref c)=some (decide (3=j))
 k4:∃ c,mg "NoSquare" = some (.ref c)/\PySem.W.kitOne K (.ref C) (.ref c)=some (decide (4=j))
 k5:∃ c,mg "NoNumber" = some (.ref c)/\PySem.W.kitOne K (.ref C) (.ref c)=some (decide (5=j))
 k6:∃ c,mg "NoText" = some (.ref c)/\PySem.W.kitOne K (.ref C) (.ref c)=some (decide (6=j))
 k7:∃ c,mg "NoRow" = some (.ref c)/\PySem.W.kitOne K (.ref C) (.ref c)=some (decide (7=j))
 k8:∃ c,mg "TooGreat" = some (.ref c)/\PySem.W.kitOne K (.ref C) (.ref c)=some (decide (8=j))
theorem wU{K:Dy}{C:Addr}:PySem.W.kitOne K (.ref C) (.ref C)=some true:=by unfold PySem.W.kitOne;rw [if_pos (by simp)]
theorem cp{K:Dy}{C D:Addr}{cd:ClassData}{b:Bool}(ne:C≠D)(h1:PySem.W.clsIn K D=some cd)(h2:PySem.W.typeIn K (.ref D)=some (.type "type"))(h3:PySem.W.subIn K (.ref C) (.ref D)=some b):PySem.W.kitOne K (.ref C) (.ref D)=some b:=by
 unfold PySem.W.kitOne;rw [if_neg (by simpa using ne)];unfold PySem.W.kitCls;dsimp only;rw [h1,h2];simpa using h3
theorem kit_ve{K:Dy}{C:Addr}(h3:PySem.W.subIn K (.ref C) (.type "ValueError")=some true):PySem.W.kitOne K (.ref C) (.type "ValueError")=some true:=by
 unfold PySem.W.kitOne;rw [if_neg (by simp)];unfold PySem.W.kitCls;dsimp only;rw [if_pos (by decide +kernel)];exact h3
theorem kZ:∀ j,(eS j).all fh=true:=fun j=>rfl
theorem uz:∀ j,j < 9->((eS j).countP fun z=>eqV z (.bl true))=1:=by decide
theorem wP:∀ j,j < 9->∃ h:j < (eS j).length,eqV (eS j)[j] (.bl true)=true:=by decide
theorem wO:∀ j,j < 9->∀ m,(hm:m < (eS j).length)->m < j->eqV (eS j)[m] (.bl true)=false:=by decide
theorem vp{j:Nat}(h:j < 9):atI [V.str "web",.str "place",.str "kind",.str "share",.str "square",.str "number",.str "text",.str "row",.str "great"] (j:Nat)=some (.str (vq.getD j "")):=by
 have:j=0\/j=1\/j=2\/j=3\/j=4\/j=5\/j=6\/j=7\/j=8:=by omega
 rcases this with rfl | rfl | rfl | rfl | rfl | rfl | rfl | rfl | rfl<;>rfl
def qM(K:Dy)(mg:Str->Option Value):Sp:=fun vs H Q _=>∃ ea C j,vs=[.ref ea]/\H ea=some (lK ea C)/\so K mg C j/\∀ H',ac H H'->Q (.str (vq.getD j "")) H'
section
variable{X:Cx}{e:Expr}{te:TE}{pos p1 p2:Pos}
theorem isx(mi:X.mg "isinstance" = none){x:Str}{c:Addr}(hm:X.mg x=some (.ref c))(he:PE X e te)(g1:Gl X "isinstance")(g2:Gl X x)(hd:(x == ("__debug__" : Str))=false:=by decide)(hs:starEach [e,.Name x p1] X.env=(false,eval e X.env)::starEach [.Name x p1] X.env:=by rfl) :
 PE X (.Call (.Name "isinstance" p2) [e,.Name x p1] [] pos) (tCB (rIsx X.K) (mH te (mH (tC (.ref c)) yg))) :=
 iA qv g1 mi boot_isinstance (aH he (aH (ka (v:= .ref c) g2 hm rfl hd) cG) hs) (he:=hs)
theorem isxV(mi:X.mg "isinstance" = none)(mv:X.mg "ValueError" = none)(he:PE X e te)(g1:Gl X "isinstance")(g2:Gl X "ValueError")(hs:starEach [e,.Name "ValueError" p1] X.env=(false,eval e X.env)::starEach [.Name "ValueError" p1] X.env:=by rfl) :
 PE X (.Call (.Name "isinstance" p2) [e,.Name "ValueError" p1] [] pos) (tCB (rIsx X.K) (mH te (mH (tC (.ty "ValueError")) yg))) :=
 iA qv g1 mi boot_isinstance (aH he (aH (tf g2 mv PyProof.Rows.Boot.«ValueError» rfl) cG) hs) (he:=hs)
end
def names:List Str:=["NoWeb", "NoPlace", "NoKind", "NoShare", "NoSquare", "NoNumber", "NoText", "NoRow", "TooGreat"]
def tE(nms:List Str)(C:Str):Option Str:=if nms.elem C=true then match names.findIdx? (·== C) with
 | some j=>some (vq.getD j "")
 | none=>none else none
def px(nms:List Str)(i:Nat):SE:=fun ρ=>match ρ[i]? with
 | some (some (.exc C,.fz))=>match tE nms C with
  | some w=>some (.ok (.str w) false,ρ)
  | none=>none
 | _=>none
structure xV(K:Dy)(mg:Str->Option Value)(nms:List Str):Prop where
 is:∀ nm,nms.elem nm=true->∀ j,names.findIdx? (·== nm)=some j->∀ C,fS K nm C->so K mg C j
theorem c_kind{X:Cx}{EX:EXT}{nms:List Str}{i k:Nat}{n:Str}{p q pos:Pos}(G:OkA X.prog X.w X.K X.mg X.base "_law_kind_of" ["e"] k (qM X.K X.mg))(kn:xV X.K X.mg nms)(hr:eh k X.A)(hg:Gl X "_law_kind_of")(hN:X.N[i]?=some n:=by rfl)(hv:Vis X.env.scope n:=by first | exact Or.inl rfl | exact Or.inr (Or.inl rfl) | exact Or.inr (Or.inr rfl))
 (hd:(n == ("__debug__" : Str))=false:=by decide) (hcd:(n == ("__classdict__" : Str))=false:=by decide) (he:starEach [.Name n q] X.env=(false,eval (.Name n q) X.env)::starEach [] X.env:=by rfl) (hpl:(backTo pos (starEach [] X.env)).any (·.1)=false:=by rfl) :
 JE X EX (.Call (.Name "_law_kind_of" p) [.Name n q] [] pos) (px nms i):=by
 refine ⟨(wo G hr hg (aH (fI hN hv hd hcd) cG he) (he:=he) (hpl:=hpl)).by fun σ H Q ⟨F,ρ,W,R,h⟩=> ?_⟩;unfold px at h
 revert h
 cases e0:ρ[i]? with
 | none=>exact fun h=>h.elim
 | some z =>
  cases z with
  | none=>exact fun h=>h.elim
  | some z =>
   obtain ⟨d,m⟩:=z
   cases d<;>cases m<;>try exact fun h=>h.elim
   rename_i C;intro h;simp only at h
   cases ew:tE nms C with
   | none=>rw [ew] at h;exact h.elim
   | some w =>
    rw [ew] at h;obtain ⟨v,hv',p',A,rfl,hC,hp⟩:=R.slot i _ _ e0;unfold tE at ew
    split at ew
    ·rename_i hel
     split at ew
     ·rename_i j hj
      cases ew;refine ⟨_,hv',p',A,j,rfl,(ar hp).2,kn.is C hel j hj A hC,fun H' s=> ?_⟩;exact h _ H' W s.fr (fun _ z=>z) ⟨rfl,R.same s⟩
     ·cases ew
    ·cases ew
end Kd
end L2
namespace L2
open PySem PySem.Spec PyProof.Rows
def keyD:Key->D
 | .inl i=> .int i
 | .inr x=> .str x
theorem wW{K:Dy}{H:Hp}:∀ (k:Key),aI K H (keyD k) (kV k)
 | .inl _=>rfl
 | .inr _=>rfl
theorem mT{K:Dy}{H:Hp}:∀ (k:List Key),ai K H (k.map keyD) (k.map kV)
 | []=>trivial
 | k::ks=>⟨wW k,mT ks⟩
def lE(ds:List D):Option (D×Bool):=match ds with
 | [.dT ks _]=>some (.lst (ks.map fun k=> .tup (k.map keyD)),true)
 | ds=>xm ds
def vZ:List V->Hp->VK->Prop:=fun xs H Q=>∃ a kvs,xs=[V.ref a]/\H a=some (.dT kvs) /\
 ∀ l bs,H l=none->(kvs.map (·.1)).Nodup->bs.length=kvs.length->(∀ (i:Nat) k v,kvs[i]?=some (k,v)->∃ b,bs[i]?=some (V.ref b)/\H b=some (.tup (k.map kV)))->Q (.ref l) (upd H l (.lst bs))
theorem nP{K:Dy}{H:Hp}:∀ {ds:List D} {xs:List V},ds.length=xs.length->(∀ (i:Nat) (d:D),ds[i]?=some d->∃ x,xs[i]?=some x/\aI K H d x)->ai K H ds xs
 | [],[],_,_=>trivial
 | d::ds,x::xs,hl,h=>by
  obtain ⟨y,e,r⟩:=h 0 d rfl;cases e
  exact ⟨r,nP (by simpa using hl) fun i d' hd=>by
   obtain ⟨y,e,r⟩:=h (i+1) d' (by simpa using hd)
   exact ⟨y,by simpa using e,r⟩⟩
 | [],_::_,hl,_=>by simp at hl
 | _::_,[],hl,_=>by simp at hl
theorem wx{K:Dy}:OpS K (fun xs H Q=>(jZ K xs H Q\/kH xs H Q)\/vZ xs H Q) lE:=by
 intro vs ds H L Q d nw hm r e q;unfold lE at e
 split at e
 ·rename_i ks es
  cases e;obtain ⟨x,rfl,⟨p,xs,rfl,h1,hl,h2⟩⟩:=aN r;refine .inr ⟨p,_,rfl,h1,fun l bs hf _ hb hk=>q _ _ (ac.upd hf) (cg (nP ?_ fun i d hd=> ?_) hf)⟩
  ·rw [Be,hb,Cw,hl,CL]
  ·rw [BI] at hd
   obtain ⟨k,hk1,rfl⟩:=BM.mp hd
   have hi:i < xs.length:=by rw [<- hl];exact (Bs.mp hk1).1
   obtain ⟨b,e1,e2⟩:=hk i k xs[i] (by rw [Dx];exact ⟨hk1,Bb hi⟩);refine ⟨_,e1,b,_,rfl,?_,mT k⟩;rw [aO fun z=>by have:=hm b z;rw [e2] at this;exact this];exact e2
 ·exact .inl (zg vs ds H L Q d nw hm r e q)
theorem qt{X:Cx}(hc:X.calm=true):aJ X (.type "list") (fun xs H Q=>(jZ X.K xs H Q\/kH xs H Q)\/vZ xs H Q):=(rX hc).or (rV hc)
section
variable{X:Cx}{EX:EXT}{e:Expr}{es:List Expr}{pos p:Pos}{as:List Arg}
theorem Ao(he:starEach (e::es) X.env=(false,eval e X.env)::starEach es X.env:=by rfl)(hpl:(backTo pos (starEach es X.env)).any (·.1)=false:=by rfl)(m:X.mg "list" = none)(ha:JA X EX (e::es) as)(hg:Gl X "list" := by rfl)(hc:X.calm=true:=by rfl):JE X EX (.Call (.Name "list" p) (e::es) [] pos) (sOp lE as):=lT (qt hc) wx hg m PyProof.Rows.boot_list ha (by decide) (by decide) he hpl
end
end L2
namespace St2
open PySem PySem.Spec PyProof.Rows
section
variable{prog:Program}{w:World}{A:Around}{E:Value->Shared->Prop}{s:Shared}
theorem qp{T:String}{d:Addr}{n:Nat}{P:Nat->Value->Prop}{OK:Heap->Prop}{Q:List Value->Shared->Prop}(K:PySem.W.KdlSrc prog w T d d n P OK)(hh:A.handled=none)(hd:OK s.heap)(hz:n<=sizeLine)
 (h:∀ h' tk (acc:Array Value) c,(∀ b o,s.heap.get? b=some o->h'.get? b=some o)->h'.get? s.heap.objs.size=some { cls:= .type "list",dict:=none,data:= .seq acc c,slots := #[] }->ItemsOf P acc n->Q acc.toList { s with heap:=h',toks:=tk }) :
 wpAny (model prog w) A (collect (.ref d)) Q E s:=by
 unfold collect;refine A9 (wpAny_runValue (codeAny_builtin F.entry_proto_collect ?_));unfold Builtin.«proto.collect»
 show wpAny _ _ (newList [] >>= _) _ _ _
 refine A9 (Dh ?_ (by simp));refine Bg ⟨Code.quiet_builtin _ (by decide +kernel),codeAny_builtin F.entry_list_iadd ?_⟩;have hn:(s.heap.push { cls:=Value.type "list",data:=Data.seq #[] }).get? s.heap.objs.size=some { cls:=Value.type "list",data:=Data.seq #[] }:=Bm _ rfl
 show wpAny _ _ (Builtin.List.listExtendWith (.ref s.heap.objs.size) (.ref d) (.ref s.heap.objs.size)) _ _ _
 have nd:s.heap.objs.size≠d:=CU (K.there _ hd).1
 have key:=PySem.W.kdl_extend (A:=A) (s:={ s with heap:=s.heap.push { cls:=Value.type "list",data:=Data.seq #[] } }) (R:=fun r s'=>∃ h' tk acc c,r = .ok (.ret (.ref s.heap.objs.size))/\s'={ s with heap:=h',toks:=tk }/\(∀ b o,s.heap.get? b=some o->h'.get? b=some o)/\h'.get? s.heap.objs.size=some { cls:= .type "list",dict:=none,data:= .seq acc c,slots := #[] }/\ItemsOf P acc n)
  K hh (K.keep _ _ hd fun b _ o e=>Ba _ e) _ nd nd (.ref s.heap.objs.size) 0 hn (fun h' tk acc c keep hS items=>⟨h',tk,acc,c,rfl,rfl,fun b o e=>keep b o (BC (Bk e)) (Ba _ e),hS,items⟩) hz
 refine Ci key (fun f s' hf=> ?_) (fun e s' he=> ?_)
 ·cases f with
  | done f =>
   obtain ⟨h',tk,acc,c,e1,rfl,keep,hS,items⟩:=hf;cases e1
   show wpAny _ _ (load s.heap.objs.size >>= _) _ _ _
   refine A9 (wpAny_load hS ?_)
   show wpAny _ _ (pure acc.toList) _ _ _
   exact Bg (h h' tk acc c keep hS items)
  | again c' =>
   refine ⟨hf.1,codeAny_mono hf.2 fun r s' z=> ?_⟩;obtain ⟨h',tk,acc,c,e1,rfl,keep,hS,items⟩:=z;cases e1
   show wpAny _ _ (load s.heap.objs.size >>= _) _ _ _
   refine A9 (wpAny_load hS ?_)
   show wpAny _ _ (pure acc.toList) _ _ _
   exact Bg (h h' tk acc c keep hS items)
 ·obtain ⟨_,_,_,_,e1,_⟩:=he
  cases e1
end
end St2
namespace L2
open PySem PySem.Spec PyProof.Rows
section
variable{X:Cx}
def nR:List V->Hp->VK->Prop:=fun xs H Q=>∃ (a:Addr) (ks:List (List Int)) (vs:List V),xs=[V.ref a]/\H a=some (.dT ((ks.map fun k=>k.map Sum.inl).zip vs))/\ks.length=vs.length/\ks.length < 64/\(∀ k∈ks,k≠[]) /\
 ∀ l (bs:List V),H l=none->bs.length=ks.length->(∀ (i:Nat) k,(Srt.fM ks)[i]?=some k->∃ b,bs[i]?=some (V.ref b)/\H b=some (.tup (k.map V.int)))->Q (.ref l) (upd H l (.lst bs))
theorem inl_kV(k:List Int):(k.map (Sum.inl:Int->Key)).map kV=k.map V.int:=by rw [B8];rfl
theorem mC(hc:X.calm=true):aJ X (.builtin "sorted") nR:=by
 intro pins s σ H xs us Q I r h;obtain ⟨a,ks,vs,rfl,ha,hlv,h64,hne,q⟩:=h;obtain ⟨u,rfl,ru⟩:=bV r;cases ru;obtain ⟨z,lo,nd,es,ep,x,hl,hk⟩:=qV I.hok ha;have lsz:sizeLine=16777216:=sizeLine_eq
 have hlz:((ks.map fun k=>k.map (Sum.inl:Int->Key)).zip vs).length=ks.length:=by rw [Cw,Be,hlv,CL]
 have hes:es.size=ks.length:=hl.trans hlz;refine Calls.call_function_entry kind_sorted plain_sorted entry_sorted (args_sorted1 _) ?_;unfold Builtin.«sorted»;refine A9 (m:=checkCount "sorted" 1 1 _) (Bg ?_);refine A9 (St2.qp (RawD.src (ep:=ep) (es:=es) lo) (I.ok.hd hc) x (by omega) fun h1 tk acc c keep hS items=>A9 (Dh ?_ (by rw [BQ,items.1];omega)));have hsz:s.heap.objs.size+1<=h1.objs.size:=Bk hS
 have lacc:acc.toList.length=ks.length:=by rw [BQ,items.1,hes]
 have at_:∀ (i:Nat) (hi:i < acc.toList.length),∃ b,acc.toList[i] = .ref b/\H b=some (.tup ((ks.getD i []).map V.int))/\ks.getD i []≠[]:=fun i hi=>by
  obtain ⟨hi',e⟩:=items.2 i acc.toList[i] (by rw [<- Dd];exact Bb hi);obtain ⟨b,k,v,e1,e2,e3⟩:=hk i hi'
  have hi2:i < ks.length:=by omega
  have ek:k=(ks.getD i []).map Sum.inl:=by
   rw [Dx] at e2;have:=e2.1;rw [BI,Bb hi2] at this;have this:ks[i].map Sum.inl=k:=Option.some.inj this;rw [<- this];simp [BE,hi2]
  refine ⟨b,e.trans e1,by rw [e3,ek,inl_kV],hne _ ?_⟩;rw [BE,Bb hi2];exact Ck _
 show wpAny _ _ _ _ _ { s with heap:=h1.push (seqObj "list" acc.toList.toArray 0),toks:=tk }
 have oL:(h1.push (seqObj "list" acc.toList.toArray 0)).get? h1.objs.size=some (seqObj "list" acc.toList.toArray 0):=Bm _ rfl
 have tk1:Srt.gO (h1.push (seqObj "list" acc.toList.toArray 0)) acc.toList ks:=⟨lacc,fun i hi=>by
  obtain ⟨b,e1,e2,e3⟩:=at_ i hi;obtain ⟨items',ri,⟨o,g1,g2,n,g3⟩,_⟩:=I.tuple (X:=X) (.inl (.inl e2))
  exact ⟨b,items'.toArray,e1,⟨o,Ba _ (keep b o g1),g2,n,g3⟩,eW ri,e3⟩⟩
 refine A9 (Cm (BR slot_list_sort ⟨_,oL,rfl⟩ entry_list_sort (Srt.As oL tk1 (by omega) fun p hp hs=>⟨_,rfl,?_⟩) (args_list_sort _)))
 have hle:s.heap.objs.size<=h1.objs.size:=by omega
 have hf:H h1.objs.size=none:=I.hok.fresh hle
 have hin:∀ i∈p,i < acc.toList.length:=fun i hi=>by
  have:=hp.mem_iff.mp hi
  rwa [BK] at this
 have refs:∀ u∈(p.map fun i=>acc.toList.getD i Value.none),∃ b,u = .ref b:=fun u hu=>by
  obtain ⟨i,hi,rfl⟩:=CA.mp hu;obtain ⟨b,e1,_⟩:=at_ i (hin i hi);exact ⟨b,by rw [BE,Bb (hin i hi)];exact e1⟩
 have es':p.map (fun i=>ks.getD i [])=Srt.fM ks:=by
  refine Srt.bL ?_ (Srt.eU ks) (((hp.map _).trans (Ds ?_)).trans (Srt.cI ks).symm)
  ·rw [List.pairwise_map]
   exact hs.imp fun h=>h
  ·rw [lacc]
   apply Dg
   ·simp
   ·intro i h1 h2
    simp [h2]
 obtain ⟨e,he⟩:=sortedHeap_at (out:=(p.map fun i=>acc.toList.getD i Value.none).toArray) oL
 have lp:p.length=ks.length:=by rw [hp.length_eq,Cp,lacc]
 refine Bg ⟨_,rfl,.ref h1.objs.size,upd H h1.objs.size (.lst ((p.map fun i=>acc.toList.getD i Value.none).map pF)),I.laid (t':=tk) (fun b o q=> ?_) hle ⟨?_,_,e,iT refs,by simpa using he⟩,rfl,q _ _ hf (by rw [Be,Be,lp]) fun i k hik=> ?_⟩
 ·have lb:=Bk (keep b o q)
  rw [sortedHeap_old (BC lb) (by rw [Cb];exact C5 lb)];exact Ba _ (keep b o q)
 ·rw [Be,Be,lp]
  omega
 ·rw [<- es',BI] at hik
  obtain ⟨j,hj,rfl⟩:=BM.mp hik;have hj':=hin j (Bv hj);obtain ⟨b,e1,e2,_⟩:=at_ j hj';refine ⟨b,?_,e2⟩;rw [BI,BI,hj]
  show some (pF (acc.toList.getD j Value.none))=_
  rw [BE,Bb hj']
  show some (pF acc.toList[j])=_
  rw [e1];rfl
end
def zL:List Key->Option (List Int)
 | []=>some []
 | .inl i::ks=>match zL ks with
  | some l=>some (i::l)
  | none=>none
 | .inr _::_=>none
def mS:List (List Key)->Option (List (List Int))
 | []=>some []
 | k::ks=>match zL k,mS ks with
  | some (i::l),some r=>some ((i::l)::r)
  | _,_=>none
theorem tF:∀ {k:List Key} {l:List Int},zL k=some l->k=l.map Sum.inl
 | [],_,h=>by cases h;rfl
 | .inl i::ks,l,h=>by
  unfold zL at h
  split at h
  ·rename_i l' e
   cases h;rw [tF e];rfl
  ·cases h
 | .inr _::_,_,h=>by cases h
theorem pZ:∀ {ks:List (List Key)} {r:List (List Int)},mS ks=some r->ks=(r.map fun k=>k.map Sum.inl)/\∀ k∈r,k≠[]
 | [],_,h=>by cases h;exact ⟨rfl,fun k hk=>by cases hk⟩
 | k::ks,r,h=>by
  unfold mS at h
  split at h
  ·rename_i i l r' e1 e2
   cases h;obtain ⟨g1,g2⟩:=pZ e2;exact ⟨by rw [g1,tF e1];rfl,fun k hk=>(Bp.mp hk).elim (fun e=>by rw [e];simp) (g2 k)⟩
  ·cases h
def jd(ds:List D):Option (D×Bool):=match ds with
 | [.dT ks _]=>match mS ks with
  | some r=>if decide (r.length < 64)=true then some (.lst ((Srt.fM r).map qK),true) else none
  | none=>none
 | ds=>rF ds
theorem wu{K:Dy}:OpS K (fun xs H Q=>((gZ K xs H Q\/gY K xs H Q)\/iW K xs H Q)\/nR xs H Q) jd:=by
 intro vs ds H L Q d nw hm r e q;unfold jd at e
 split at e
 ·rename_i ks es
  split at e
  ·rename_i ns hk
   split at e
   ·rename_i h64
    cases e;have h64:=Bt h64;obtain ⟨g1,g2⟩:=pZ hk;obtain ⟨x,rfl,⟨p,xs,rfl,h1,hl,h2⟩⟩:=aN r
    have ll:ns.length=xs.length:=by rw [<- hl,g1,Be]
    refine .inr ⟨p,ns,xs,rfl,by rw [<- g1];exact h1,ll,h64,g2,fun l bs hf hb hk'=>q _ _ (ac.upd hf) (cg (nP ?_ fun i d hd=> ?_) hf)⟩
    ·rw [Be,hb,(Srt.cI ns).length_eq]
    ·rw [BI] at hd
     obtain ⟨k,hk1,rfl⟩:=BM.mp hd;obtain ⟨b,e1,e2⟩:=hk' i k hk1;refine ⟨_,e1,b,_,rfl,?_,dG k⟩;rw [aO fun z=>by have:=hm b z;rw [e2] at this;exact this];exact e2
   ·cases e
  ·cases e
 ·exact .inl (wv vs ds H L Q d nw hm r e q)
theorem rS{X:Cx}(hc:X.calm=true):aJ X (.builtin "sorted") (fun xs H Q=>((gZ X.K xs H Q\/gY X.K xs H Q)\/iW X.K xs H Q)\/nR xs H Q):=rT.or (mC hc)
section
variable{X:Cx}{EX:EXT}{e:Expr}{es:List Expr}{pos p:Pos}{as:List Arg}
theorem An(he:starEach (e::es) X.env=(false,eval e X.env)::starEach es X.env:=by rfl)(hpl:(backTo pos (starEach es X.env)).any (·.1)=false:=by rfl)(m:X.mg "sorted" = none)(ha:JA X EX (e::es) as)(hg:Gl X "sorted" := by rfl)(hc:X.calm=true:=by rfl):JE X EX (.Call (.Name "sorted" p) (e::es) [] pos) (sOp jd as):=gC (rS hc) wu hg m PyProof.Rows.boot_sorted ha (by decide) (by decide) he hpl
end
end L2
namespace L2
open PySem
section
variable{ρ ρ1 ρ2 ρ3:Rho}{d:D}{nw b:Bool}{f g:SE}{s t:SS}{C:Str}{nms:List Str}{i:Nat}
theorem r_tryN(h:s ρ=some (.nx,ρ1)):qO nms i s t ρ=some (.nx,ρ1):=by unfold qO;rw [h]
theorem yy{x:Option (D×Md)}{ρ4:Rho}(h:s ρ=some (.ex C,ρ1))(he:nms.elem C=true)(hi:ρ1[i]?=some x)(hn:ρ1.set i (some (.exc C,.fz))=ρ2)(h2:t ρ2=some (.nx,ρ3))(hn2:ρ3.set i none=ρ4):qO nms i s t ρ=some (.nx,ρ4):=by
 subst hn hn2;unfold qO;simp only [h,hi,h2];rw [if_pos he]
theorem r_kind{w:Str}(h:ρ[i]?=some (some (.exc C,.fz)))(hw:Kd.tE nms C=some w):Kd.px nms i ρ=some (.ok (.str w) false,ρ):=by
 unfold Kd.px;simp only [h,hw]
theorem r_dnew:pz d ρ=some (.ok d true,ρ):=rfl
end
abbrev nD(l:List Int):List D:=l.map D.int
abbrev bD(l:List Bool):List D:=l.map D.bl
abbrev yd(t:Int×Int):D:= .tup [.int t.1,.int t.2]
abbrev tD(ts:List (Int×Int)):List D:=ts.map yd
abbrev webD(n:Int)(ts:List (Int×Int)):D:= .tup [.int n,.tup (tD ts)]
def rgI(lo:Int)(n:Nat):List Int:=(List.range n).map fun k=>lo+(k:Nat)
theorem be(lo:Int)(n:Nat):(rgI lo n).length=n:=by unfold rgI;simp
theorem eQ{lo:Int}{n:Nat}{x:Int}:x∈rgI lo n↔lo<=x/\x < lo+n:=by
 unfold rgI;rw [CA]
 constructor
 ·rintro ⟨k,hk,rfl⟩
  have:=BK.mp hk;omega
 ·rintro ⟨a,b⟩
  exact ⟨(x - lo).toNat,BK.mpr (by omega),by omega⟩
theorem yw{lo:Int}{n i:Nat}{x:Int}(h:(rgI lo n)[i]?=some x):i < n/\x=lo+i:=by
 unfold rgI at h;rw [BI] at h;obtain ⟨k,hk,rfl⟩:=BM.mp h;obtain ⟨a,b⟩:=Bs.mp hk;simp at a b;subst b;exact ⟨a,rfl⟩
theorem cA(lo:Int)(n:Nat):rgI lo (n+1)=rgI lo n++[lo+(n:Nat)]:=by unfold rgI;rw [List.range_succ,Do];rfl
theorem pC(lo:Int)(n:Nat):rgI lo (n+1)=lo::rgI (lo+1) n:=by
 unfold rgI;rw [List.range_succ_eq_map,Bu,B8]
 congr 1
 ·simp
 ·refine Cq fun k _=> ?_
  show lo+((k+1:Nat):Int)=lo+1+(k:Nat)
  omega
theorem sK(lo:Int)(n:Nat):gD lo n=nD (rgI lo n):=by unfold gD rgI;rw [nD,B8];rfl
theorem na{α:Type}{inj:α->D}:∀ (xs:List α) (k:Nat),fR k (xs.map inj)=(xs.zipIdx k).map fun p=> .tup [.int (p.2:Nat),inj p.1]
 | [],_=>rfl
 | x::xs,k=>by rw [Bu,List.zipIdx_cons,Bu];show _::fR (k+1) _=_;rw [na xs (k+1)]
section
variable{ρ ρ1 ρ2 ρ3 ρ4:Rho}{d y:D}{ds ys:List D}{nw b:Bool}{f g:SE}{p:ST}{s:SS}{T:Tg}{k:Nat}
theorem sN{x:Arg}{j:Int}(h:evA [x] ρ=some (.ok [.int j],ρ1))(h1 : -1000000<=j)(h2:j<=1000000):dh x ρ=some (.ok (nD (rgI 0 j.toNat)),ρ1):=by rw [r_rng1 h (wG (by omega) (by omega) h1 h2 (by omega)),sK]
theorem yA{x:Arg}{n:Nat}(h:evA [x] ρ=some (.ok [.int (n:Nat)],ρ1))(h2:n<=1000000):dh x ρ=some (.ok (nD (rgI 0 n)),ρ1):=by rw [sN h (by omega) (by omega),C7]
theorem yz{x z:Arg}{i j:Int}(h:evA [x,z] ρ=some (.ok [.int i,.int j],ρ1))(h0 : -1000000<=i)(h0':i<=1000000)(h1 : -1000000<=j)(h2:j<=1000000)(h3:j - i<=1000000):eD x z ρ=some (.ok (nD (rgI i (j - i).toNat)),ρ1):=by rw [r_rng2 h (wG h0 h0' h1 h2 h3),sK]
theorem yF{α:Type}{inj:α->D}{xs:List α}(h:f ρ=some (.ok d nw,ρ1))(hs:cc d=some (xs.map inj)):eE f ρ=some (.ok (xs.zipIdx.map fun p=> .tup [.int (p.2:Nat),inj p.1]),ρ1):=by
 rw [r_enum h hs,na]
theorem yG{e:Option ST}:bK k T e f [] ρ=some ([],ρ):=rfl
theorem sO(h1:bJ T d (ρ++List.replicate k none)=some ρ1)(h2:f ρ1=some (.ok y nw,ρ2))(h3:ρ2.take ρ.length=ρ3)(h4:bK k T none f ds ρ3=some (ys,ρ4)):bK k T none f (d::ds) ρ=some (y::ys,ρ4):=by
 subst h3;unfold bK;simp only [h1,evC,h2,h4]
theorem nQ{r:Option (Out×Rho)}(h1:bJ T d ρ=some ρ1)(h2:s ρ1=some (.nx,ρ2))(h3:bW T s ds ρ2=r):bW T s (d::ds) ρ=r:=by
 unfold bW;simp only [h1,h2];exact h3
end
section
variable{α:Type}{k:Nat}{T:Tg}{f:SE}{c:ST}{ρ:Rho}{inj:α->D}{q:α->Bool}
theorem qR{g:α->Bool}(xs:List α)(h:∀ x∈xs,∃ ρ1 ρ3 nw,bJ T (inj x) (ρ++List.replicate k none)=some ρ1/\f ρ1=some (.ok (.bl (g x)) nw,ρ3)/\ρ3.take ρ.length=ρ):bK k T none f (xs.map inj) ρ=some (bD (xs.map g),ρ):=by
 rw [iV (g:=fun x=>D.bl (g x)) xs h,bD,B8];rfl
theorem qQ{g1 g2:α->Int}(xs:List α)(h:∀ x∈xs,∃ ρ1 ρ3 nw,bJ T (inj x) (ρ++List.replicate k none)=some ρ1/\f ρ1=some (.ok (.tup [.int (g1 x),.int (g2 x)]) nw,ρ3)/\ρ3.take ρ.length=ρ):bK k T none f (xs.map inj) ρ=some (tD (xs.map fun x=>(g1 x,g2 x)),ρ):=by
 rw [iV (g:=fun x=> .tup [.int (g1 x),.int (g2 x)]) xs h,tD,B8];rfl
theorem kD{I:Rho->Prop}{P:D->Prop}:∀ (ds:List D) (ρ:Rho),I ρ->(∀ d∈ds,∀ ρ,I ρ->∃ ρ1 ρ2 y nw,bJ T d (ρ++List.replicate k none)=some ρ1/\f ρ1=some (.ok y nw,ρ2)/\P y/\I (ρ2.take ρ.length))->∃ ys ρ',bK k T none f ds ρ=some (ys,ρ')/\I ρ'/\ys.length=ds.length/\∀ y∈ys,P y
 | [],ρ,hI,_=>⟨[],ρ,rfl,hI,rfl,fun _ h=>absurd h Cj⟩
 | d::ds,ρ,hI,h=>by
  obtain ⟨ρ1,ρ2,y,nw,e1,e2,hP,hI2⟩:=h d Bn ρ hI
  obtain ⟨ys,ρ',e3,hI3,hl,hA⟩:=kD ds _ hI2 fun d hd=>h d (Bi _ hd)
  exact ⟨y::ys,ρ',sO e1 e2 rfl e3,hI3,by rw [Bj,Bj,hl],fun z hz=>by
   rcases Bp.mp hz with rfl | hz
   ·exact hP
   ·exact hA z hz⟩
end
theorem elA_mk{k:Nat}{T:Tg}{f:SE}{ρ ρ1 ρ2:Rho}{d y:D}{nw:Bool}{P:D->Prop}{J:Rho->Prop}(h1:bJ T d (ρ++List.replicate k none)=some ρ1)(h2:f ρ1=some (.ok y nw,ρ2))(h3:P y)(h4:J ρ2):∃ ρ1 ρ2 y nw,bJ T d (ρ++List.replicate k none)=some ρ1/\f ρ1=some (.ok y nw,ρ2)/\P y/\J ρ2:=⟨ρ1,ρ2,y,nw,h1,h2,h3,h4⟩
section
variable{α σ:Type}{T:Tg}{f:SS}{inj:α->D}
theorem dS(R:σ->Rho->Prop)(step:σ->α->σ):∀ (xs:List α) (s:σ) (ρ:Rho),R s ρ->(∀ x∈xs,∀ s ρ,R s ρ->∃ ρ1 ρ2,bJ T (inj x) ρ=some ρ1/\f ρ1=some (.nx,ρ2)/\R (step s x) ρ2)->∃ ρ',bW T f (xs.map inj) ρ=some (.nx,ρ')/\R (xs.foldl step s) ρ'
 | [],s,ρ,h,_=>⟨ρ,rfl,h⟩
 | x::xs,s,ρ,h,hs=>by
  obtain ⟨ρ1,ρ2,e1,e2,h2⟩:=hs x Bn s ρ h
  obtain ⟨ρ',e3,h3⟩:=dS R step xs _ ρ2 h2 fun x hx=>hs x (Bi _ hx)
  exact ⟨ρ',nQ e1 e2 e3,h3⟩
theorem ue{lo:Int}(I:Nat->Rho->Prop)(n:Nat)(ρ:Rho)(h0:I 0 ρ)(hs:∀ i,i < n->∀ ρ,I i ρ->∃ ρ1 ρ2,bJ T (.int (lo+(i:Nat))) ρ=some ρ1/\f ρ1=some (.nx,ρ2)/\I (i+1) ρ2):∃ ρ',bW T f (nD (rgI lo n)) ρ=some (.nx,ρ')/\I n ρ':=by
 obtain ⟨ρ',e,h⟩:=mL (T:=T) (f:=f) I (nD (rgI lo n)) 0 ρ h0 fun i d ρ hd hI=>by
  rw [nD,BI] at hd;obtain ⟨x,hx,rfl⟩:=BM.mp hd;obtain ⟨h1,rfl⟩:=yw hx;rw [BW] at hI ⊢;exact hs i h1 ρ hI
 rw [Be,be,BW] at h;exact ⟨ρ',e,h⟩
theorem kC(I:Nat->Rho->Prop)(n:Nat)(ρ:Rho)(h0:I 0 ρ)(hs:∀ i,i < n->∀ ρ,I i ρ->∃ ρ1 ρ2,bJ T (.int (i:Nat)) ρ=some ρ1/\f ρ1=some (.nx,ρ2)/\I (i+1) ρ2):∃ ρ',bW T f (nD (rgI 0 n)) ρ=some (.nx,ρ')/\I n ρ' :=
 ue I n ρ h0 fun i hi ρ hI=>by rw [Int.zero_add];exact hs i hi ρ hI
theorem jt(R:Nat->σ->Rho->Prop)(step:σ->α->σ):∀ (xs:List α) (n:Nat) (s:σ) (ρ:Rho),R n s ρ->(∀ i x,xs[i]?=some x->∀ s ρ,R (n+i) s ρ->∃ ρ1 ρ2,bJ T (inj x) ρ=some ρ1/\f ρ1=some (.nx,ρ2)/\R (n+i+1) (step s x) ρ2)->∃ ρ',bW T f (xs.map inj) ρ=some (.nx,ρ')/\R (n+xs.length) (xs.foldl step s) ρ'
 | [],n,s,ρ,h,_=>⟨ρ,rfl,h⟩
 | x::xs,n,s,ρ,h,hs=>by
  obtain ⟨ρ1,ρ2,e1,e2,h2⟩:=hs 0 x rfl s ρ h
  obtain ⟨ρ',e3,h3⟩:=jt R step xs (n+1) _ ρ2 h2 fun i x hx s ρ hR=>by
   have:=hs (i+1) x (by simpa using hx) s ρ (by rw [show n+(i+1)=n+1+i by omega];exact hR);rw [show n+(i+1)+1=n+1+i+1 by omega] at this;exact this
  refine ⟨ρ',nQ e1 e2 e3,?_⟩;rw [Bj,show n+(xs.length+1)=n+1+xs.length by omega];exact h3
end
section
variable{α:Type}{inj:α->D}{xs ys:List α}{ns ms:List Int}{i a b:Int}
theorem je:br [.lst (xs.map inj)]=some (.int (xs.length:Nat),false):=by show some (D.int ((xs.map inj).length:Nat),false)=_;rw [Be]
theorem gy:br [.tup (xs.map inj)]=some (.int (xs.length:Nat),false):=by show some (D.int ((xs.map inj).length:Nat),false)=_;rw [Be]
theorem uF:gF [.lst (nD ns)]=some (.int ns.sum,false):=by unfold gF;simp only [lu]
theorem mY:gF [.tup (nD ns)]=some (.int ns.sum,false):=by unfold gF;simp only [lu]
theorem gMaxA_2:jy [.int a,.int b]=some (.int (max a b),false):=by
 show some (D.int (if b > a then b else a),false)=_
 congr 3
 rw [Int.max_def]
 split<;>split<;>omega
theorem zV:lD [.int a,.int b]=some (.int (min a b),false):=by
 show some (D.int (if b < a then b else a),false)=_
 congr 3
 rw [Int.min_def]
 split<;>split<;>omega
def dI(ts:List (Int×Int)):List (Int×Int):=(Srt.fM (ts.map fun t=>[t.1,t.2])).map fun k=>(k.getD 0 0,k.getD 1 0)
theorem qW(ts:List (Int×Int)):(dI ts).Perm ts:=by
 unfold dI;refine ((Srt.cI _).map _).trans ?_;rw [B8];refine Ds ?_;exact (Cq (fun t _=>rfl)).trans (List.map_id' _)
theorem qX(ts:List (Int×Int)):(dI ts).map (fun t=>[t.1,t.2])=Srt.fM (ts.map fun t=>[t.1,t.2]):=by
 unfold dI;rw [B8];refine (Cq fun k hk=> ?_).trans (List.map_id' _);obtain ⟨t,_,rfl⟩:=CA.mp ((Srt.cI _).mem_iff.mp hk);rfl
theorem tD_tup(ts:List (Int×Int)):tD ts=(ts.map fun t=>[t.1,t.2]).map qK:=by rw [tD,B8];rfl
theorem qj:∀ (a b:List Int),e7 (a.map D.int) (b.map D.int)=decide (a=b)
 | [],[]=>rfl
 | [],_::_=>rfl
 | _::_,[]=>rfl
 | x::a,y::b=>by
  show ((x == y)&&e7 (a.map D.int) (b.map D.int))=_
  rw [qj a b,Cz];simp
theorem kS:∀ (a:List Int),cf (a.map D.int)=a.map D.int
 | []=>rfl
 | x::a=>by show nrm (.int x)::cf (a.map D.int)=_;rw [kS a];rfl
theorem fU(n:Nat):∀ (a:List Int),(a.map D.int).all (af n)=true
 | []=>rfl
 | x::a=>by rw [Bu,Dj,fU n a];unfold af;rfl
theorem jz(n:Nat)(a:List Int):af (n+1) (.tup (nD a))=true:=by unfold af;exact fU n a
theorem xz(a b:List Int):eqD (.tup (nD a)) (.tup (nD b))=decide (a=b):=by unfold eqD nrm;rw [kS,kS];show e7 _ _=_;exact qj a b
theorem xo:gEq [.tup (nD ns),.tup (nD ms)]=some (.bl (decide (ns=ms)),false):=by unfold gEq;simp only [jz,Bool.and_self,if_true,xz]
theorem gA(h:xs.length+ys.length<=1000):aY [.lst (xs.map inj),.lst (ys.map inj)]=some (.lst ((xs++ys).map inj),true):=by
 unfold aY;simp only [kr (show (xs.map inj).length+(ys.map inj).length<=1000 by rw [Be,Be];exact h),if_true,Do]
theorem uI(h:ns.length<=999):aY [.lst (nD ns),.lst [.int a]]=some (.lst (nD (ns++[a])),true):=gA (inj:=D.int) (xs:=ns) (ys:=[a]) (by simp;omega)
theorem rG(h:ns.length<=999):aY [.lst [.int a],.lst (nD ns)]=some (.lst (nD (a::ns)),true):=gA (inj:=D.int) (xs:=[a]) (ys:=ns) (by simp;omega)
theorem uH{ts:List (Int×Int)}(h:ts.length<=999):aY [.lst (tD ts),.lst [.tup [.int a,.int b]]]=some (.lst (tD (ts++[(a,b)])),true):=gA (inj:=yd) (xs:=ts) (ys:=[(a,b)]) (by simp;omega)
theorem kj(h:xs.length+ys.length<=1000):cM (.lst (xs.map inj)) [.lst (ys.map inj)]=some (.lst ((xs++ys).map inj),.non):=by
 show (if small ((xs.map inj).length+(ys.map inj).length)=true then some (D.lst (xs.map inj++ys.map inj),D.non) else none)=_
 rw [if_pos (kr (by rw [Be,Be];exact h)),Do]
theorem pE(d:D):∀ n,repL n [d]=List.replicate n d
 | 0=>rfl
 | n+1=>by
  have:=pE d n;unfold repL at this ⊢;rw [B7,Cy,this];rfl
theorem xl(h1 : -1000000<=b)(h2:b<=1000000):lC [.lst [.int a],.int b]=some (.lst (nD (List.replicate b.toNat a)),true):=by
 show (if (decide (-1000000<=b/\b<=1000000)&&small ([D.int a].length * b.toNat))=true then some (D.lst (repL b.toNat [.int a]),true) else none)=_
 have:small ([D.int a].length * b.toNat)=true:=Bl (by simp;omega);rw [if_pos (by rw [this,Bl ⟨h1,h2⟩];rfl),pE,nD,List.map_replicate]
end
def oH(xs:List Int)(lo hi:Option Int):List Int:=(xs.drop (HT.sIx xs.length 0 lo)).take (HT.sIx xs.length xs.length hi - HT.sIx xs.length 0 lo)
theorem cut_nD(ns:List Int)(lo hi:Option Int):jg (nD ns) lo hi=nD (oH ns lo hi):=by
 unfold jg oH;rw [Be,nD,nD,List.map_take,List.map_drop]
theorem qP{n d:Nat}{i:Int}(h:0<=i):HT.sIx n d (some i)<=i.toNat:=by
 unfold HT.sIx;simp
 split<;>omega
theorem Ad{ns:List Int}{lo:Option Int}{j:Int}(h:0<=j):(oH ns lo (some j)).length<=j.toNat:=by
 unfold oH;rw [CI];have:=qP (n:=ns.length) (d:=ns.length) h;omega
theorem qb{ns:List Int}{i j:Int}:zS i j [.klst (nD ns)]=some (.lst (nD (oH ns (some i) (some j))),true):=by
 show some (D.lst (jg (nD ns) _ _),true)=_
 rw [cut_nD]
theorem rH{ns:List Int}{a i j:Int}(h:0<=j)(h2:j < 100):aY [.lst [.int a],.lst (nD (oH ns (some i) (some j)))]=some (.lst (nD (a::oH ns (some i) (some j))),true):=rG (by have:=Ad (ns:=ns) (lo:=some i) h;omega)
structure Pn where
 a:Int
 f:Int
 s:Int
abbrev pD(P:Pn):D:=um P.a P.f P.s
theorem kf(P:Pn)(m:Int):∃ q:Int×Pn,(0 < m->m < 1073741824->av [pD P,.int m]=some (.ok (.int q.1) false,pD q.2))/\(0 < m->m < 1073741824->0<=q.1/\q.1 < m):=by
 by_cases h:0 < m/\m < 1073741824
 ·obtain ⟨r,a,f,s,e,h1,h2⟩:=xy P.a P.f P.s m h.1 h.2
  exact ⟨(r,⟨a,f,s⟩),fun _ _=>e,fun _ _=>⟨h1,h2⟩⟩
 ·exact ⟨(0,P),fun a b=>absurd ⟨a,b⟩ h,fun a b=>absurd ⟨a,b⟩ h⟩
noncomputable def dr(P:Pn)(m:Int):Int:=(Classical.choose (kf P m)).1
noncomputable def nx(P:Pn)(m:Int):Pn:=(Classical.choose (kf P m)).2
theorem tDraw{P:Pn}{m:Int}(h:0 < m)(h2:m < 1073741824):av [pD P,.int m]=some (.ok (.int (dr P m)) false,pD (nx P m)):=(Classical.choose_spec (kf P m)).1 h h2
theorem cr(P:Pn){m:Int}(h:0 < m)(h2:m < 1073741824):0<=dr P m/\dr P m < m:=(Classical.choose_spec (kf P m)).2 h h2
theorem wg(c:Int):∃ P:Pn,bO [.int c]=some (.ok (pD P) true,.non):=by
 obtain ⟨a,f,s,e⟩:=zX c;exact ⟨⟨a,f,s⟩,e⟩
noncomputable def pen0(c:Int):Pn:=Classical.choose (wg c)
theorem tPen{c:Int}:bO [.int c]=some (.ok (pD (pen0 c)) true,.non):=Classical.choose_spec (wg c)
noncomputable def tY(ns:List Int)(k:Nat):Int:=Classical.choose (qg ns k)
theorem tCell{ns:List Int}{k:Nat}:bv [.klst (nD ns),.int k]=some (.ok (.int (tY ns k)) false,.non):=Classical.choose_spec (qg ns k)
theorem tCell0{ns:List Int}:bv [.klst (nD ns),.int 0]=some (.ok (.int (tY ns 0)) false,.non):=tCell (k:=0)
end L2
namespace L2
open PySem PySem.Spec PyProof.Rows
section
variable{K:Dy}{F:Fx}{σ:St}{H H1 H2:Hp}{ρ:Rho}{W:List Addr}{p:Addr}
abbrev Fx.more(F:Fx)(p:Addr):Fx:=⟨p::F.Z,F.io⟩
theorem zQ(L M:List Addr)(H:Hp):hid L (hid M H)=hid (M++L) H:=by
 funext b
 unfold hid
 by_cases h1:b∈L
 ·rw [if_pos h1,if_pos (Bf _ h1)]
 ·rw [if_neg h1]
  by_cases h2:b∈M
  ·rw [if_pos h2,if_pos (Bc _ h2)]
  ·rw [if_neg h2,if_neg (fun z=>(BA.mp z).elim h2 h1)]
theorem Rel.more(R:Rel K F σ (hid [p] H) ρ W)(hp:p∉W++F.Z)(hm:dQ (H p)):Rel K (F.more p) σ H ρ W:=by
 have neq:∀ r,r∈W++F.Z->hid [p] H r=H r:=fun r hr=>aO (fun z=>hp (by rw [<- Bw.mp z];exact hr))
 have sh:ac (hid (W++F.Z) (hid [p] H)) (hid (W++(F.more p).Z) H):=by
  rw [zQ]
  exact il fun b hb=>by
   rcases BA.mp hb with z | z
   ·exact Bf _ (Bc _ z)
   ·rcases Bp.mp z with z | z
    ·rw [z];exact Bc _ (Bw.mpr rfl)
    ·exact Bf _ (Bf _ z)
 refine ⟨fun i d m h=> ?_,R.apart,fun q hq z=> ?_,fun q hq=> ?_,R.len⟩
 ·obtain ⟨v,h1,h2⟩:=R.slot i d m h
  refine ⟨v,h1,?_⟩
  cases m with
  | fz=>exact sh.repD h2
  | ow=>obtain ⟨r,e1,e2,e3⟩:=h2;exact ⟨r,e1,e2,e3.at (neq r (Bc _ e2)).symm sh⟩
  | io=>obtain ⟨r,e1,e2,e3,e4⟩:=h2;exact ⟨r,e1,e2,e3.at (neq r (Bc _ e2)).symm sh,e4⟩
 ·rcases Bp.mp z with z | z
  ·rw [z] at hq;exact hp (Bc _ hq)
  ·exact R.wz q hq z
 ·rcases BA.mp hq with z | z
  ·have:=R.mt q (Bc _ z)
   rw [neq q (Bc _ z)] at this;exact this
  ·rcases Bp.mp z with z | z
   ·rw [z];exact hm
   ·have:=R.mt q (Bf _ z)
    rw [neq q (Bf _ z)] at this;exact this
theorem Rel.less(R:Rel K (F.more p) σ H1 ρ W)(hz:p∉F.Z)(fr:∀ b o,b∉[p]->H1 b=some o->H2 b=some o):Rel K F σ H2 ρ W:=by
 have hpW:p∉W:=fun z=>R.wz p z Bn
 have keep:∀ b,b∈W++F.Z->b≠p->H2 b=H1 b:=fun b hb ne=>by
  obtain ⟨u,q⟩:=(R.mt b (by
   rcases BA.mp hb with z | z
   ·exact Bc _ z
   ·exact Bf _ (Bi _ z))).some
  rw [q];exact fr b u (fun z=>ne (Bw.mp z)) q
 have sh:ac (hid (W++(F.more p).Z) H1) (hid (W++F.Z) H2):=aR (fun b hb=> .inl (by
  rcases BA.mp hb with z | z
  ·exact Bc _ z
  ·exact Bf _ (Bi _ z))) fun b o n e=>fr b o (fun z=>n (by rw [Bw.mp z];exact Bf _ Bn)) e
 have ne:∀ r∈W,r≠p:=fun r hr z=>hpW (by rw [<- z];exact hr)
 refine ⟨fun i d m h=> ?_,R.apart,fun q hq z=>R.wz q hq (Bi _ z),fun q hq=> ?_,R.len⟩
 ·obtain ⟨v,h1,h2⟩:=R.slot i d m h
  refine ⟨v,h1,?_⟩
  cases m with
  | fz=>exact sh.repD h2
  | ow=>obtain ⟨r,e1,e2,e3⟩:=h2;exact ⟨r,e1,e2,e3.at (keep r (Bc _ e2) (ne r e2)) sh⟩
  | io=>obtain ⟨r,e1,e2,e3,e4⟩:=h2;exact ⟨r,e1,e2,e3.at (keep r (Bc _ e2) (ne r e2)) sh,e4⟩
 ·have m1:dQ (H1 q):=R.mt q (by
   rcases BA.mp hq with z | z
   ·exact Bc _ z
   ·exact Bf _ (Bi _ z))
  by_cases e:q=p
  ·rw [e] at hq
   rcases BA.mp hq with z | z
   ·exact absurd z hpW
   ·exact absurd z hz
  ·rw [keep q hq e];exact m1
end
def sCallT(run:FS)(f:SE)(as:List Arg):SE:=fun ρ=>match f ρ with
 | some (.ok d true,ρ1)=>match evA as ρ1 with
  | some (.ok ds,ρ2)=>if bY none 0 as ρ2=true then
   match run (d::ds) with
   | some (.ok r nw,_)=>some (.ok r nw,ρ2)
   | some (.ex C,_)=>some (.ex C,ρ2)
   | none=>none
   else none
  | _=>none
 | some (.ok _ false,_)=>none
 | some (.ex C,ρ1)=>some (.ex C,ρ1)
 | none=>none
section
variable{X:Cx}{EX:EXT}{e:Expr}{es:List Expr}{as:List Arg}
end
def iu(ks:List Key)(fs:List SE):SE:=fun ρ=>match evA (fs.map Arg.ex) ρ with
 | some (.ok ds,ρ')=>some (.ok (.dK ks ds) true,ρ')
 | _=>none
def constK:Key->Const
 | .inl i=> .int i
 | .inr x=> .str x
inductive JP(X:Cx)(EX:EXT)(pos:Pos):List (Option Expr)->List Expr->List Key->List SE->Prop where
 | nil:JP X EX pos [] [] [] []
 | cons {k:Key} {j:Nat} {p:Pos} {e:Expr} {f:SE} {es:List (Option Expr)} {vs:List Expr} {ks:List Key} {fs:List SE} (h:JE X EX e f) (t:JP X EX pos es vs ks fs):JP X EX pos (some (.Constant (constK k) j p)::es) (e::vs) (k::ks) (f::fs)
def prT(K:Dy)(EX:EXT):List Key->List SE->List (TE×TE)
 | k::ks,f::fs=>(tC (kV k),tV K EX f)::prT K EX ks fs
 | _,_=>[]
theorem JP.p{X:Cx}{EX:EXT}{pos:Pos}{es:List (Option Expr)}{vs:List Expr}{ks:List Key}{fs:List SE}(h:JP X EX pos es vs ks fs):PPs X pos es vs (prT X.K EX ks fs):=by
 induction h with
 | nil=>exact yR
 | @cons k j p e f es vs ks fs h t ih =>
  refine wa ?_ h.p ih
  cases k with
  | inl i=>exact kO
  | inr x=>exact de
theorem JP.len{X:Cx}{EX:EXT}{pos:Pos}{es:List (Option Expr)}{vs:List Expr}{ks:List Key}{fs:List SE}(h:JP X EX pos es vs ks fs):es.all (·.isSome)=true/\es.length=vs.length/\ks.length=es.length/\fs.length=es.length:=by
 induction h with
 | nil=>exact ⟨rfl,rfl,rfl,rfl⟩
 | cons h t ih=>exact ⟨by rw [Dj,ih.1];rfl,by rw [Bj,Bj,ih.2.1],by rw [Bj,Bj,ih.2.2.1],by rw [Bj,Bj,ih.2.2.2]⟩
theorem AN{K:Dy}{F:Fx}{EX:EXT}{σ:St}:∀ (ks:List Key) (fs:List SE) {H:Hp} {ρ:Rho} {W:List Addr} {Q:List V->Hp->Prop} {Q':List (V×V)->Hp->Prop},ks.length=fs.length->Rel K F σ H ρ W->OkFs K F EX σ H W (evA (fs.map Arg.ex) ρ) Q ->
 (∀ vs H',vs.length=ks.length->Q vs H'->Q' ((ks.zip vs).map (fun kv=>(kV kv.1,kv.2))) H')->nH (prT K EX ks fs) σ H Q'
 | [],[],H,ρ,W,Q,Q',_,R,h,g=>g [] H rfl (h [] H W .refl (fun _ z=>z) R trivial)
 | k::ks,f::fs,H,ρ,W,Q,Q',hl,R,h,g=>by
  refine ⟨F,ρ,W,R,?_⟩;rw [Bu] at h;unfold evA at h
  revert h
  cases f ρ with
  | none=>exact fun h=>h
  | some r =>
   obtain ⟨r,ρ1⟩:=r
   cases r with
   | ex C=>exact fun h=>h
   | ok d nw =>
    intro h v H1 W1 fr sub post;obtain ⟨rd,R1⟩:=post.plain
    refine AN (K:=K) (F:=F) (EX:=EX) (σ:=σ) ks fs (H:=H1) (ρ:=ρ1) (W:=W1) (Q:=fun vs H2=>Q (v::vs) H2) (Nat.succ.inj hl) R1 ?_ fun vs H2 e q=>g (v::vs) H2 (by rw [Bj,Bj,e]) q
    revert h
    dsimp only
    cases evA (fs.map Arg.ex) ρ1 with
    | none=>exact fun h=>h
    | some q =>
     obtain ⟨q,ρ2⟩:=q
     cases q with
     | ex C=>exact fun h H2 W2 fr2 sub2 R2=>h H2 W2 (fr.trans fr2 fun p hp=> .inl (sub p hp)) (fun p hp=>sub p (sub2 p hp)) R2
     | ok ds =>
      intro h vs H2 W2 fr2 sub2 R2 reps;exact h (v::vs) H2 W2 (fr.trans fr2 fun p hp=> .inl (sub p hp)) (fun p hp=>sub p (sub2 p hp)) R2 ⟨(fr2.hid fun p hp=> .inl (sub2 p hp)).repD rd,reps⟩
 | [],_::_,_,_,_,_,_,hl,_,_,_=>by simp at hl
 | _::_,[],_,_,_,_,_,hl,_,_,_=>by simp at hl
theorem kX:∀ (kvs acc:List (Key×V)),(kvs.map (·.1)).Nodup->(∀ k∈kvs.map (·.1),k∉acc.map (·.1))->fK acc kvs=acc++kvs
 | [],acc,_,_=>by unfold fK;simp
 | p::r,acc,nd,ha=>by
  rw [Bu] at nd ha;have nd:=B2.mp nd
  show fK (dP acc p.1 p.2) r=_
  have e:dP acc p.1 p.2=acc++[p]:=by
   unfold dP;rw [if_neg];intro z;obtain ⟨q,hq,e⟩:=List.any_eq_true.mp z;exact ha p.1 Bn (CA.mpr ⟨q,hq,Bt e⟩)
  rw [e,kX r _ nd.2 fun k hk z=> ?_,C6]
  ·rfl
  ·rw [Do,BA] at z
   rcases z with z | z
   ·exact ha k (Bi _ hk) z
   ·have z:k=p.1:=by simpa using z
    rw [z] at hk;exact nd.1 hk
theorem sv:∀ (ks:List Key) (vs:List V),vs.length=ks.length->(ks.zip vs).map (·.1)=ks
 | [],_,_=>rfl
 | k::ks,[],h=>by simp at h
 | k::ks,v::vs,h=>by rw [C0,Bu,sv ks vs (Nat.succ.inj h)]
theorem c_disp{X:Cx}{EX:EXT}{pos:Pos}{es:List (Option Expr)}{vs:List Expr}{ks:List Key}{fs:List SE}(h:JP X EX pos es vs ks fs)(h0:es≠[])(h15:es.length<=15)(nd:ks.Nodup):JE X EX (.Dict es vs pos) (iu ks fs) :=
 ⟨(yY h.p h.len.1 h.len.2.1 h0 h15).by fun σ H Q ⟨F,ρ,W,R,q⟩=>by
   intro p hp;have hl:=h.len
   have hH:hid [p] (upd H p (.dK []))=H:=by
    funext b
    by_cases z:b=p
    ·subst z;unfold hid;rw [if_pos (Bw.mpr rfl),hp]
    ·rw [aO (fun y=>z (Bw.mp y)),ak z]
   have R1:Rel X.K (F.more p) σ (upd H p (.dK [])) ρ W:=Rel.more (by rw [hH];exact R) (R.fresh hp) (by rw [am];trivial)
   have hpZ:p∉F.Z:=fun z=>R.fresh hp (Bf _ z)
   refine AN (F:=F.more p) (Q:=fun xs H2=>H2 p=some (.dK [])/\Q (.ref p) (upd H2 p (.dK (ks.zip xs)))) ks fs (by omega) R1 ?_ fun xs H2 el hz=>⟨hz.1,ks.zip xs,rfl,by rw [Cw];omega,?_⟩
   ·unfold iu at q
    revert q
    cases ee:evA (fs.map Arg.ex) ρ with
    | none=>exact fun q=>q
    | some o =>
     obtain ⟨o,ρ2⟩:=o
     cases o with
     | ex C=>exact fun q=>q.elim
     | ok ds =>
      intro q xs H2 W2 fr2 sub2 R2 reps;have hp2:H2 p=some (.dK []):=fr2.keep p _ (fun z=>R.fresh hp (Bc _ z)) am
      have fr3:Fr [p] H2 (upd H2 p (.dK (ks.zip xs))):=⟨fun b o n e=>by rw [ak (fun z=>n (Bw.mpr z))];exact e,fun b e=>by
       by_cases z:b=p
       ·subst z;rw [am] at e;cases e
       ·rw [ak z] at e;exact e⟩
      have frU:Fr W H (upd H p (.dK [])):=(ac.upd hp).fr;refine ⟨hp2,q (.ref p) _ W2 ((frU.trans fr2 fun r hr=> .inl hr).trans fr3 fun r hr=> .inr (by rw [Bw.mp hr];exact hp)) sub2 ⟨p,rfl,hp,fun z=> ?_,?_,?_⟩⟩
      ·rcases BA.mp z with z | z
       ·exact R2.wz p z Bn
       ·exact hpZ z
      ·refine ⟨xs,am,?_,?_⟩
       ·have:=reps.len
        have:=ke ee;omega
       ·refine ac.repDs (aR (fun b hb=> .inl ?_) fun b o n e=> ?_:ac (hid (W2++(F.more p).Z) H2) _) reps
        ·rcases Bp.mp hb with z | z
         ·rw [z];exact Bf _ Bn
         ·rcases BA.mp z with z | z
          ·exact Bc _ z
          ·exact Bf _ (Bi _ z)
        ·rw [ak (fun z=>n (by rw [z];exact Bf _ Bn))]
         exact e
      ·refine R2.less hpZ fun b o n e=> ?_
       have nb:b≠p:=fun z=>n (Bw.mpr z)
       rw [aO (fun y=>nb (Bw.mp y)),ak nb];exact e
   ·rw [kX (ks.zip xs) [] (by rw [sv ks xs el];exact nd) (fun k hk z=>absurd z Cj),BX]
    exact hz.2⟩
theorem r_disp{ks:List Key}{fs:List SE}{ρ ρ1:Rho}{ds:List D}(h:evA (fs.map Arg.ex) ρ=some (.ok ds,ρ1)):iu ks fs ρ=some (.ok (.dK ks ds) true,ρ1):=by unfold iu;rw [h]
def FzM(P:Program)(w:World)(K:Dy)(a:Addr)(kvs:List (Key×V)):Prop :=
 (a == sysModules)=false/\∃ (o:Obj) (es:Array DictEntry) (ep:Nat) (vs:List (Key×Value)),K.lookup a=some o/\o.ExactDict/\o.data = .dict es ep /\
   KeysOf (aU P w) es/\Pairs (aU P w) es.toList vs/\(vs.map (·.1)).Nodup/\KV kvs vs
structure t3(w:World)(K:Dy)(mg:Str->Option Value)(n:Str)(ks:List Key)(ds:List D):Prop where
 ex:∃ a xs,mg n=some (.ref a)/\ks.length=xs.length/\(∀ P,FzM P w K a (ks.zip xs))/\∀ H,ai K H ds xs
def fQ(ks:List Key)(ds:List D):List D->Option (D×Bool)
 | [d]=>match dM d with
  | some k=>match ba ks ds k with
   | some d=>some (d,false)
   | none=>none
  | none=>none
 | _=>none
def qc(ks:List Key)(ds:List D)(neg:Bool):List D->Option (D×Bool)
 | [d]=>match dM d with
  | some k=>some (.bl (if neg then !(ba ks ds k).isSome else (ba ks ds k).isSome),false)
  | none=>none
 | _=>none
section
variable{X:Cx}{EX:EXT}{i:Expr}{pos p:Pos}{y:Arg}{n:Str}{ks:List Key}{ds:List D}
theorem FzM.dict{pins:List (Addr×Obj)}{σ:St}{H:Hp}{s:Shared}{a:Addr}{kvs:List (Key×V)}(h:FzM X.prog X.w X.K a kvs)(I:Inv X pins σ H s):∃ vs,KV kvs vs/\s.heap.DictOf (aU X.prog X.w) a vs:=by
 obtain ⟨_,ob,es,ep,vs,h1,h2,h3,h4,h5,h6,h7⟩:=h;exact ⟨vs,h7,ob,es,ep,I.kIn a ob h1,h2,h3,h4,h5,h6⟩
def tMGet(X:Cx)(td ty:TE):TE:=fun σ H Q=>td σ H fun x H1=>ty σ H1 fun y H2=>∃ a kvs k v,x = .ref a/\y=kV k/\FzM X.prog X.w X.K a kvs/\dA kvs k=some v/\Q v H2
def tMIn(X:Cx)(neg:Bool)(ty td:TE):TE:=fun σ H Q=>ty σ H fun y H1=>td σ H1 fun x H2=>∃ a kvs k,x = .ref a/\y=kV k/\FzM X.prog X.w X.K a kvs/\Q (.bl (if neg then !(dA kvs k).isSome else (dA kvs k).isSome)) H2
theorem yX{o:Expr}{td ty:TE}(ho:PE X o td)(hi:PE X i ty)(hs:xU i):PE X (.Subscript o i pos) (tMGet X td ty):=by
 intro pins s σ H Q I h;refine sI PySem.F.slot_dict_getitem.lookup hs (thn (ho pins s σ H _ I h) fun u s1 ⟨x,H1,I1,rx,q1⟩=>thn (hi pins s1 σ H1 _ I1 q1) fun iv s2 ⟨y,H2,I2,ry,a,kvs,j,v,ex,ey,g,e,q2⟩=> ?_);subst ex;subst ey;obtain rfl:u=Value.ref a:=rx;obtain ⟨vs,rel,dd⟩:=g.dict I2;obtain ⟨w',hw,rw'⟩:=ji.some_of (v:=v) (o:=valueAt vs j) (by rw [<- e];exact rel.val j);exact ⟨dd.typeIs,wpAny_getItem_of (iD ry) dd.mapOf hw ⟨v,H2,I2.tok _,rw',q2⟩⟩
theorem pc_min{neg:Bool}{o:Expr}{td ty:TE}(hi:PE X i ty)(ho:PE X o td):PC X (if neg then .NotIn else .In) i o (tMIn X neg ty td):=by
 intro pins s σ H Q I h
 refine thn (hi pins s σ H _ I h) fun iv s1 ⟨y,H1,I1,ry,q1⟩=>thn (ho pins s1 σ H1 _ I1 q1) fun u s2 ⟨x,H2,I2,rx,a,kvs,k,ex,ey,g,q2⟩=> ?_
 subst ex;subst ey;obtain rfl:u=Value.ref a:=rx;obtain ⟨vs,rel,dd⟩:=g.dict I2
 cases neg with
 | false =>
  refine wpAny_in_of (iD ry) g.1 dd.mapOf ⟨.bl (dA kvs k).isSome,H2,I2.tok _,?_,q2⟩;rw [(rel.val k).isSome_eq];rfl
 | true =>
  refine wpAny_notIn_of (iD ry) g.1 dd.mapOf ⟨.bl (!(dA kvs k).isSome),H2,I2.tok _,?_,q2⟩;rw [(rel.val k).isSome_eq];rfl
theorem lj{K:Dy}{H Hh:Hp}{d:D}{v:V}{k:Key}(e:dM d=some k)(r:fo K H Hh d v):v=kV k:=by
 cases d<;>first | (unfold dM at e;cases e;done) | (unfold dM at e;cases e;exact r)
theorem c_kget(M:t3 X.w X.K X.mg n ks ds)(hg:Gl X n)(hi:JB X EX i y)(hd:(n == ("__debug__" : Str))=false:=by decide)(hs:xU i:=by exact fun _ _=>rfl):JE X EX (.Subscript (.Name n p) i pos) (sOp (fQ ks ds) [y]):=by
 obtain ⟨a,xs,hm,hl,fz,rep⟩:=M.ex;refine ⟨(yX (ka (v:= .ref a) hg hm rfl hd) hi.p hs).by fun σ H Q ⟨F,ρ,W,R,h⟩=> ?_⟩
 have os:OpS X.K (r1 fun yv H2 Q=>∃ a' kvs k v,V.ref a = .ref a'/\yv=kV k/\FzM X.prog X.w X.K a' kvs/\dA kvs k=some v/\Q v H2) (fQ ks ds):=by
  intro vs ds' H L Q d nw hm r e q;unfold fQ at e
  split at e
  ·obtain ⟨v,rfl,rb⟩:=aN r
   split at e
   ·rename_i k ek
    split at e
    ·rename_i d' ed
     cases e;obtain ⟨v',h1,h2⟩:=(eI (x:=k) hl (rep (hid L H))).1 _ ed;exact ⟨a,_,k,v',rfl,lj ek rb,fz _,h1,q v' H (ac.refl _) h2⟩
    ·cases e
   ·cases e
  ·cases e
 exact bQ os R h
theorem zE{neg:Bool}{a:Addr}{xs:List V}(hl:ks.length=xs.length)(fz:∀ P,FzM P X.w X.K a (ks.zip xs))(rep:∀ H,ai X.K H ds xs):OpS X.K (r1 fun yv H2 Q=>∃ a' kvs k,V.ref a = .ref a'/\yv=kV k/\FzM X.prog X.w X.K a' kvs/\Q (.bl (if neg then !(dA kvs k).isSome else (dA kvs k).isSome)) H2) (qc ks ds neg):=by
 intro vs ds' H L Q d nw hm r e q;unfold qc at e
 split at e
 ·obtain ⟨v,rfl,rb⟩:=aN r
  split at e
  ·rename_i k ek
   cases e;refine ⟨a,_,k,rfl,lj ek rb,fz _,q _ H (ac.refl _) ?_⟩;have l:=eI (x:=k) hl (rep (hid L H))
   have e2:(dA (ks.zip xs) k).isSome=(ba ks ds k).isSome:=by
    cases h:ba ks ds k with
    | none=>rw [l.2 h];rfl
    | some d=>obtain ⟨v',h1,_⟩:=l.1 d h;rw [h1];rfl
   show V.bl _ = .bl _
   rw [e2]
  ·cases e
 ·cases e
theorem t_kin{neg:Bool}(M:t3 X.w X.K X.mg n ks ds)(hg:Gl X n)(hi:JB X EX i y)(hm2:behindInMarks (if neg then .NotIn else .In) (.Name n p)=false)(hd:(n == ("__debug__" : Str))=false:=by decide):JT X EX (.Compare i [if neg then .NotIn else .In] [.Name n p] pos) (bd (qc ks ds neg) [y]):=by
 obtain ⟨a,xs,hm,hl,fz,rep⟩:=M.ex;exact ⟨(pt_cmp (pc_min (neg:=neg) hi.p (ka (v:= .ref a) hg hm rfl hd)) hm2).by fun σ H Q ⟨F,ρ,W,R,h⟩=>bQ (zE hl fz rep) R (A7 h)⟩
end
theorem fzM_of{w:World}{K:Dy}{a:Addr}{ep:Nat}(xs:List (Str×Tok×Addr))(nd:(a == sysModules)=false)(l:K.lookup a=some ⟨.type "dict",none,.dict (xs.map fun x=>(⟨PyData.keyHash w.params x.1,.str x.1 x.2.1,.ref x.2.2⟩:DictEntry)).toArray ep,#[]⟩)(ndp:(xs.map (·.1)).Nodup):∀ P,FzM P w K a (xs.map fun x=>(Sum.inr x.1,V.ref x.2.2)):=by
 intro P;refine ⟨nd,_,_,ep,xs.map fun x=>(Sum.inr x.1,Value.ref x.2.2),l,⟨rfl,rfl,rfl⟩,rfl,fun e he=> ?_,?_,?_,?_⟩
 ·have he:e∈xs.map fun x=>(⟨PyData.keyHash w.params x.1,.str x.1 x.2.1,.ref x.2.2⟩:DictEntry):=by simpa using he
  obtain ⟨x,_,rfl⟩:=CA.mp he;exact ⟨.inr x.1,dU _ _ x.1 x.2.1,rfl⟩
 ·rw [List.toList_toArray]
  induction xs with
  | nil=>exact .nil
  | cons x xs ih =>
   rw [Bu,Bu];refine .cons (dU _ _ x.1 x.2.1) rfl ?_;clear ih l
   have:∀ ys:List (Str×Tok×Addr),Pairs (aU P w) (ys.map fun x=>(⟨PyData.keyHash w.params x.1,.str x.1 x.2.1,.ref x.2.2⟩:DictEntry)) (ys.map fun x=>(Sum.inr x.1,Value.ref x.2.2)):=by
    intro ys
    induction ys with
    | nil=>exact .nil
    | cons y ys ih=>exact .cons (dU _ _ y.1 y.2.1) rfl ih
   exact this xs
 ·rw [B8]
  have:(xs.map ((fun x:Key×Value=>x.1) ∘ fun x:Str×Tok×Addr=>((Sum.inr x.1:Key),Value.ref x.2.2)))=(xs.map (·.1)).map Sum.inr:=by rw [B8];rfl
  rw [this];refine List.Pairwise.map _ (fun a b h z=>h (Sum.inr.inj z)) ndp
 ·clear l ndp
  induction xs with
  | nil=>exact .nil
  | cons x xs ih=>exact .cons ⟨rfl,rfl⟩ ih
theorem r_zipE{ρ ρ1:Rho}{ds a b zs:List D}{fs:List SE}(h:evA (fs.map Arg.ex) ρ=some (.ok ds,ρ1))(hs:vJ ds=some (a,b))(hl:a.length<=b.length)(hz:gR a b=zs):jM fs ρ=some (.ok zs,ρ1):=by rw [r_zip h hs hl,hz]
theorem yE{f:SE}{ρ ρ1:Rho}{C:Str}(h:f ρ=some (.ex C,ρ1)):di f ρ=some (.ex C,ρ1):=by unfold di;rw [h]
def sf(o:Option (Out×Rho))(Q:D->Bool->Rho->Prop):Prop:=∃ d nw ρ',o=some (.rt d nw,ρ')/\Q d nw ρ'
section
variable{s t:SS}{p:ST}{ρ ρ1:Rho}{Q:D->Bool->Rho->Prop}{b:Bool}
theorem vL(h1:s ρ=some (.nx,ρ1))(h2:sf (t ρ1) Q):sf (aw s t ρ) Q:=by obtain ⟨d,nw,ρ',e,q⟩:=h2;exact ⟨d,nw,ρ',AD h1 e,q⟩
theorem rq_ret{d:D}{nw:Bool}(h:s ρ=some (.rt d nw,ρ1))(q:Q d nw ρ1):sf (s ρ) Q:=⟨d,nw,ρ1,h,q⟩
theorem qS{j n:Nat}{it:SI}{ds:List D}{T:Tg}{f:SE}(I:Rho->Prop)(P:D->Prop)(hit:it ρ=some (.ok ds,ρ1))(hg:Tg.ge ρ1.length T=true)(hI:I ρ1)
 (hs:∀ d∈ds,∀ ρ,I ρ->∃ ρ1 ρ2 y nw,bJ T d (ρ++List.replicate n none)=some ρ1/\f ρ1=some (.ok y nw,ρ2)/\P y/\I (ρ2.take ρ.length))
 (go:∀ ys ρ',I ρ'->ys.length=ds.length->(∀ y∈ys,P y)->∃ x,ρ'[j]?=some x/\sf (s (ρ'.set j (some (.lst ys,.ow)))) Q):sf (aw (bc j (ce n it T none f)) s ρ) Q:=by
 obtain ⟨ys,ρ',e,h1,h2,h3⟩:=kD (k:=n) (T:=T) (f:=f) (I:=I) (P:=P) ds ρ1 hI hs;obtain ⟨x,hx,hr⟩:=go ys ρ' h1 h2 h3;exact vL (AC (vR hit hg e) hx rfl) hr
end
theorem r_whT{n:Nat}{c:ST}{f:SS}{ρ ρ1 ρ2:Rho}{b:Bool}{r:Option (Out×Rho)}(h:c ρ=some (.ok b,ρ1))(hb:b=true)(h2:f ρ1=some (.nx,ρ2))(h3:cz n c f ρ2=r):cz (n+1) c f ρ=r:=by
 subst hb;unfold cz;simp only [h,h2];exact h3
theorem AB{n:Nat}{c:ST}{f:SS}{ρ ρ1:Rho}{b:Bool}(h:c ρ=some (.ok b,ρ1))(hb:b=false):cz (n+1) c f ρ=some (.nx,ρ1):=by
 subst hb;unfold cz;simp only [h]
theorem xr{a b c:List D}(h:small (a.length+b.length)=true)(e:a++b=c):aY [.lst a,.lst b]=some (.lst c,true):=by
 subst e;unfold aY;simp only [h,if_true]
def gLeA:List D->Option (D×Bool)
 | [.tup a,.tup b]=>match bu a,bu b with
  | some x,some y=>some (.bl (HT.AV x y),false)
  | _,_=>none
 | ds=>gLe ds
def lB:List D->Option (D×Bool)
 | [.tup a,.int k]=>if (decide (2<=k/\k<=1000000)&&small (a.length * k.toNat) && !a.isEmpty)=true then some (.tup (repL k.toNat a),false) else none
 | ds=>lC ds
def AG(K:Dy):R2:=fun x y H Q=>∃ a k xs,x = .ref a/\y = .int k/\SqT K H a xs/\xs≠[]/\2<=k/\xs.length * k.toNat<=sizeLine/\∀ p H',H' p=some (.tup (List.replicate k.toNat xs).flatten)->ac H H'->Q (.ref p) H'
theorem zi{X:Cx}:OpR X (binaryOp .Mult) (AG X.K):=by
 intro pins s σ H x y v u Q I rx ry h;obtain ⟨a,k,xs,rfl,rfl,ha,ne,h1,hz,q⟩:=h;cases rx;obtain ⟨t,rfl⟩:=ry;obtain ⟨its,r,⟨⟨cls,dd,data,sl⟩,e,c,n,d⟩,_⟩:=I.tuple ha;dsimp only at c d;subst c d
 have hne:its.toArray.isEmpty=false:=by
  cases r with
  | nil=>exact absurd rfl ne
  | cons _ _=>rfl
 refine wpAny_binaryOp_repeat_ref (T := "tuple") (U := "int") (by decide) ⟨_,e,rfl⟩ (fun s'=>typeIs_int s' k t) rh F.fills_int_mul F.slot_int_rmul qU F.slot_int_index.lookup
  (call_meets F.slot_int_rmul (typeIs_int s k t) F.entry_int_rmul (F.args_int_rmul_2 _ _) (vN k t a its.toArray n dd sl) ⟨e,rfl,⟨_,e,rfl⟩,?_⟩)
 have hl:its.toArray.size * k.toNat<=sizeLine:=by rw [Bh,<- r.length];exact hz
 refine call_meets F.slot_tuple_mul ⟨_,e,rfl⟩ F.entry_tuple_mul (F.args_tuple_mul_2 _ _) (wJ a its.toArray n dd sl k t (by omega) hl hne) ⟨e,?_⟩;have f0:=gB its k.toNat [];rw [BX] at f0;have f1:List.foldl (fun x1 x2=>x1++x2) #[] (List.replicate k.toNat its.toArray)=(List.replicate k.toNat its).flatten.toArray:=f0;rw [f1];have hf:H s.heap.objs.size=none:=I.hok.fresh (Bq _);refine ⟨.ref s.heap.objs.size,_,I.laid (o:= .tup (List.replicate k.toNat xs).flatten) (t':=s.toks) (fun _ _ z=>Ba _ z) (Bq _) ⟨?_,_,r.rep k.toNat,jV (Bm _ rfl)⟩,rfl,q _ _ am (ac.upd hf)⟩;rw [ou,Nat.mul_comm];exact hz
section
variable{X:Cx}{EX:EXT}{a b:Expr}{x y:Arg}{pos:Pos}{K:Dy}
theorem zd:OpS K (r2 fun x y H Q=>(rI su (fun i j=> .int (i * j)) x y H Q\/yK x y H Q)\/AG K x y H Q) lB:=by
 intro vs ds H L Q d nw hm r e q;unfold lB at e
 split at e
 ·rename_i a k
  obtain ⟨x,y,rfl,⟨p,xs,rfl,h1,h2⟩,rb⟩:=aV r
  split at e
  ·rename_i hs
   cases e;simp only [By,CN] at hs;obtain ⟨⟨⟨k1,k2⟩,sm⟩,ne⟩:=hs;refine .inr ⟨p,k,xs,rfl,rb,.inl (.inl (ar h1).2),fun z=> ?_,k1,?_,fun p' H' hp' s=>q _ _ s (gs hm (kG k.toNat h2) s hp')⟩
   ·have:=h2.len
    rw [z] at this
    cases a with
    | nil=>cases ne
    | cons _ _=>simp at this
   ·rw [<- h2.len]
    exact eB sm
  ·cases e
 ·obtain z:=ww vs ds H L Q d nw hm r e q
  match vs,z with
  | [x,y],z=>exact .inl z
theorem b_mulA(ha:JB X EX a x)(hb:JB X EX b y):JE X EX (.BinOp a .Mult b pos) (sOp lB [x,y]):=qw (tj.or zi) zd ha hb
end
section
variable{P:Program}{w:World}{K:Dy}{mg:Str->Option Value}{base:Heap}{x:Str}{st:Stmt}{N ps:List Str}{k:Nat}{io:Option Nat}{body:SS}
theorem zP{f:Addr}{cdv:Value}{A:Around}{outer:List Env}{s:Shared}{H:Hp}{E:XK}{c:Nat}(h:c<=10)(hr:cj k (A.deeper (envOfC x (ae st) s.heap.objs.size f cdv))):(bT (CXr P w) P w K mg base N x (ae st) f cdv A outer s H E).A.units+c < cLine:=by
 have:=hr.units
 show (A.deeper _).units+c < cLine
 omega
theorem bj(h:Has K mg x st ps)(S:cN N ps (ae st))
 (hb:∀ (f:Addr) (cdv:Value) (A:Around) (outer:List Env) (s:Shared) (H:Hp) (E:XK),cj k (A.deeper (envOfC x (ae st) s.heap.objs.size f cdv))->N.Nodup ->
   (bT (CXr P w) P w K mg base N x (ae st) f cdv A outer s H E).A.units+10 < cLine->(bT (CXr P w) P w K mg base N x (ae st) f cdv A outer s H E).A.units+1 < cLine ->
   JSs (bT (CXr P w) P w K mg base N x (ae st) f cdv A outer s H E) (EXf K E) (bw st) body) (hps:ps.length<=N.length:=by decide):OkX P w K mg base x ps (k+1) (spF K io (aF ps.length N.length io body)) :=
 fn_ok h S (fun f cdv A outer s H E hr=>hb f cdv A outer s H E hr S.nd (zP (by decide) hr) (zP (by decide) hr)) hps
theorem fn_okV{f0:Addr}{fd0:FuncData}(h:Fun K x x st f0 fd0)(S:cN N ps (ae st))
 (hb:∀ (f:Addr) (cdv:Value) (A:Around) (outer:List Env) (s:Shared) (H:Hp) (E:XK),cj k (A.deeper (envOfC x (ae st) s.heap.objs.size f cdv))->N.Nodup ->
   (bT (CXr P w) P w K mg base N x (ae st) f cdv A outer s H E).A.units+10 < cLine->(bT (CXr P w) P w K mg base N x (ae st) f cdv A outer s H E).A.units+1 < cLine ->
   JSs (bT (CXr P w) P w K mg base N x (ae st) f cdv A outer s H E) (EXf K E) (bw st) body) (hps:ps.length<=N.length:=by decide):l9 P w K mg base (CXr P w) (k+1) f0 fd0 ps (spF K io (aF ps.length N.length io body)) :=
 xu h S (fun f cdv A outer s H E hr=>hb f cdv A outer s H E hr S.nd (zP (by decide) hr) (zP (by decide) hr)) hps
end
theorem nd_k{l:List Str}(h:decide l.Nodup=true):l.Nodup:=Bt h
abbrev OkY(x:Str)(ps:List Str)(k:Nat)(io:Option Nat)(f:FS)(P:Program)(w:World)(K:Dy)(mg:Str->Option Value)(base:Heap):Prop:=OkX P w K mg base x ps k (spF K io f)
structure oX(K:Dy)(mg:Str->Option Value)(base:Heap)(x:Str):Prop where
 ex:∃ C bm B newId initId,OwnCls x C bm newId mg base/\ExcBaseFacts B newId initId bm/\fS K x C
theorem vK{P:Program}{w:World}{K:Dy}{mg:Str->Option Value}{base:Heap}{N:List Str}{qual:Str}{scope:Scope}{f:Addr}{cd:Value}{A:Around}{outer:List Env}{s:Shared}{H:Hp}{E:XK}{x:Str}{np cpos pos:Pos}{k:Nat}
 (O:oX K mg base x) (hr:cj k (A.deeper (envOfC qual scope s.heap.objs.size f cd)))
 (hg:Gl (bT (CXr P w) P w K mg base N qual scope f cd A outer s H E) x) (hd:(x == ("__debug__" : Str))=false:=by decide):JS (bT (CXr P w) P w K mg base N qual scope f cd A outer s H E) (EXf K E) (.Raise (some (.Call (.Name x np) [] [] cpos)) none pos) (nO x):=by
 obtain ⟨C,bm,B,nI,iI,h1,h2,h3⟩:=O.ex;exact yt h1 h2 h3 hr hg hd
section
variable{X:Cx}{EX:EXT}{e i1 i2:Expr}{pos pos1 pos2 tpos p1 p2:Pos}{n:Str}{j k:Nat}{f f1 f2:SE}
end
section
variable{X:Cx}{EX:EXT}{a b:Expr}{x y:Arg}{pos:Pos}
end
section
variable{X:Cx}
variable{o e:Expr}{es:List Expr}{to:TE}{t:TA}{name:Str}{apos cpos:Pos}{id:String}{r:V->List V->Hp->VK->Prop}
end
section
variable{X:Cx}{EX:EXT}{e:Expr}{f:SE}{n:Str}{i:Nat}{p1 apos cpos:Pos}
end
def ju(f g h:SE):SE:=fun ρ=>match f ρ with
 | some (.ok (.dK ks vs) _,ρ1)=>match g ρ1 with
  | some (.ok k _,ρ2)=>match dM k with
   | some k=>match h ρ2 with
    | some (.ok d _,ρ3)=>some (.ok ((ba ks vs k).getD d) false,ρ3)
    | _=>none
   | none=>none
  | _=>none
 | _=>none
theorem vQ{f g h:SE}{ρ ρ1 ρ2 ρ3:Rho}{ks:List Key}{vs:List D}{n1 n2 n3:Bool}{k d e:D}{ky:Key}(h1:f ρ=some (.ok (.dK ks vs) n1,ρ1))(h2:g ρ1=some (.ok k n2,ρ2))(hk:dM k=some ky)(h3:h ρ2=some (.ok d n3,ρ3))(he:(ba ks vs ky).getD d=e):ju f g h ρ=some (.ok e false,ρ3):=by
 unfold ju;simp only [h1,h2,hk,h3,he]
section
variable{X:Cx}{EX:EXT}{o e x:Expr}{f g h:SE}{apos cpos:Pos}
theorem c_get2(hu:X.A.units+1 < cLine)(ho:JE X EX o f)(he:JE X EX e g)(hx:JE X EX x h)(m:M2 X o "get" apos e x cpos:=by exact ⟨rfl,rfl,rfl,rfl⟩):JE X EX (.Call (.Attribute o "get" apos) [e,x] [] cpos) (ju f g h) :=
 ⟨(wl hu ho.p he.p hx.p m).by fun σ H Q ⟨F,ρ,W,R,z⟩=>by
   refine ⟨F,ρ,W,R,?_⟩;unfold ju at z
   revert z
   split
   ·rename_i ks vs n1 ρ1 e1
    split
    ·rename_i k n2 ρ2 e2
     split
     ·rename_i ky ek
      split
      ·rename_i d n3 ρ3 e3
       intro z;rw [e1];intro v1 H1 W1 fr1 sub1 P1;obtain ⟨⟨p,xs,rfl,hp,hl,rx⟩,R1⟩:=P1.plain;obtain ⟨pn,hp1⟩:=ar hp;refine ⟨p,rfl,.inl ⟨_,.inl hp1⟩,F,ρ1,W1,R1,?_⟩;rw [e2];intro v2 H2 W2 fr2 sub2 P2;obtain ⟨r2,R2⟩:=P2.plain;refine ⟨F,ρ2,W2,R2,?_⟩;rw [e3];intro v3 H3 W3 fr3 sub3 P3;obtain ⟨r3,R3⟩:=P3.plain
       have pn1:p∉W1:=fun y=>pn (Bc _ y)
       have hp2:=fr2.keep p _ pn1 hp1;have hp3:=fr3.keep p _ (fun y=>pn1 (sub2 p y)) hp2;have rx3:ai X.K (hid (W3++F.Z) H3) vs xs:=(fr3.hid fun q hq=> .inl (sub3 q hq)).repDs ((fr2.hid fun q hq=> .inl (sub2 q hq)).repDs rx);obtain ⟨ov,g1,g2,g3⟩:=rN (k:=ky) (y:=v2) hp3 hl rx3 (eJ ek r2);refine ⟨ov,g1,z _ H3 W3 ((fr1.trans fr2 fun q hq=> .inl (sub1 q hq)).trans fr3 fun q hq=> .inl (sub1 q (sub2 q hq))) (fun q hq=>sub1 q (sub2 q (sub3 q hq))) ⟨?_,R3⟩⟩
       cases el:ba ks vs ky with
       | none =>
        rw [el] at g2
        cases ov with
        | none=>exact r3
        | some _=>cases g2
       | some dd =>
        obtain ⟨v,rfl,rv⟩:=g3 dd el;exact rv
      ·exact fun z=>z.elim
     ·exact fun z=>z.elim
    ·exact fun z=>z.elim
   ·exact fun z=>z.elim⟩
end
def upS(z:Str):Str:=⟨(Array.mapIdx (fun _ c=>(Unicode.upperOf c).toArray) z.cps).flatten⟩
theorem xZ(z:Str)(t:Tok)(hz:Builtin.Str.tooLong (upS z).cps.size=false)(hl:(upS z).length<=sizeLine):Meets (Builtin.«str.upper» ⟨[.str z t],[]⟩) (fun A R s=>R (.ok (.ret (.str (upS z) s.toks))) { s with toks:=s.toks+1 }):=by
 intro prog w A R s h;obtain ⟨hp,g,d,tk,os⟩:=s
 wp_walk
 have hz':¬ Builtin.Str.tooLong (Array.mapIdx (fun i c=>((fun x c=>Unicode.upperOf c) i c).toArray) z.cps).flatten.size=true:=by
  show ¬ Builtin.Str.tooLong (upS z).cps.size=true
  rw [hz];decide
 rw [if_neg hz']
 wp_walk
 have hl':¬ Str.length { cps:=(Array.mapIdx (fun i c=>((fun x c=>Unicode.upperOf c) i c).toArray) z.cps).flatten } > sizeLine:=by
  show ¬ (upS z).length > sizeLine
  omega
 rw [if_neg hl']
 wp_walk
 exact h
section
variable{X:Cx}{EX:EXT}{o:Expr}{f:SE}{apos cpos:Pos}
def rUpper:V->List V->Hp->VK->Prop:=fun x vs H Q=>∃ z,x = .str z/\vs=[]/\(Builtin.Str.tooLong (upS z).cps.size=false/\(upS z).length<=1000)/\Q (.str (upS z)) H
theorem wL:MtR X "str.upper" rUpper:=by
 intro pins s σ H x vs v us Q I rx rv h;obtain ⟨z,rfl,rfl,hz,q⟩:=h;obtain ⟨t,rfl⟩:=rx;cases rv;refine call_meets F.slot_str_upper (typeIs_str s z t) F.entry_str_upper (F.args_str_upper_1 _) (xZ z t hz.1 (Cs (cF hz.2))) ?_;exact ⟨.str _,H,I.tok _,⟨_,rfl⟩,q⟩
def sUp(f:SE):SE:=fun ρ=>match f ρ with
 | some (.ok (.str z) _,ρ1)=>if Builtin.Str.tooLong (upS z).cps.size=false/\(upS z).length<=1000 then some (.ok (.str (upS z)) false,ρ1) else none
 | _=>none
theorem r_up{ρ ρ1:Rho}{z y:Str}{nw:Bool}(h:f ρ=some (.ok (.str z) nw,ρ1))(hz:Builtin.Str.tooLong (upS z).cps.size=false/\(upS z).length<=1000)(hy:upS z=y):sUp f ρ=some (.ok (.str y) false,ρ1):=by
 subst hy;unfold sUp;simp only [h];rw [if_pos hz]
theorem Ai(ho:JE X EX o f)(hbase:attributeBase o "upper" X.env (eval o X.env)=eval o X.env:=by rfl)(hline:(apos.endLine == cpos.line)=true:=by rfl):JE X EX (.Call (.Attribute o "upper" apos) [] [] cpos) (sUp f) :=
 ⟨(pe_bm0 PySem.F.plainAttrs_str PySem.F.slot_str_upper PySem.F.type_str_upper wL ho.p hbase hline).by fun σ H Q ⟨F,ρ,W,R,z⟩=>by
   refine ⟨F,ρ,W,R,?_⟩;unfold sUp at z
   revert z
   split
   ·rename_i w nw ρ1 e1
    split
    ·rename_i hz
     intro z;rw [e1];intro v1 H1 W1 fr1 sub1 P1;have hv:v1 = .str w:=P1.plain.1;subst hv;exact ⟨rfl,w,rfl,rfl,hz,z _ H1 W1 fr1 sub1 ⟨rfl,P1.plain.2⟩⟩
    ·exact fun z=>z.elim
   ·exact fun z=>z.elim⟩
theorem vv:upS "spine" = "SPINE" /\ upS "ring" = "RING" /\ upS "sides" = "SIDES" /\ upS "full" = "FULL" /\ upS "wheel" = "WHEEL" /\ upS "fan" = "FAN" := by decide +kernel
end
def oj(a b:Int):Bool:=decide (Builtin.Int.intBits a > shortFactorBits)&&decide (Builtin.Int.intBits b > shortFactorBits)&&Builtin.Int.intTooBig (↑(Builtin.Int.intBits a) + ↑(Builtin.Int.intBits b))
def fg:List D->Option (D×Bool)
 | [.int a,.int b]=>if oj a b=false then some (.int (a * b),false) else none
 | _=>none
theorem zj{X:Cx}:OpR X (binaryOp .Mult) (rI IntMulOk fun i j=> .int (i * j)):=opI fun _ _ _ _ _ _ _ hc q=>mul_int q hc
theorem zc{K:Dy}:OpS K (r2 (rI IntMulOk fun i j=> .int (i * j))) fg:=by
 intro vs ds H L Q d nw hm r e q;unfold fg at e
 split at e
 ·rename_i a b
  split at e
  ·rename_i hz
   cases e
   match vs,r with
   | [x,y],⟨hx,hy,_⟩ =>
    refine ⟨a,b,hx,hy,?_,q _ H (ac.refl _) rfl⟩
    show ¬ oj a b=true
    rw [hz];decide
  ·cases e
 ·cases e
theorem b_mulW{X:Cx}{EX:EXT}{a b:Expr}{x y:Arg}{pos:Pos}(ha:JB X EX a x)(hb:JB X EX b y):JE X EX (.BinOp a .Mult b pos) (sOp fg [x,y]):=qw zj zc ha hb
theorem kc{a b:Int}(h:su a b):fg [.int a,.int b]=some (.int (a * b),false):=by
 have z:¬ oj a b=true:=h.ok
 show (if oj a b=false then _ else _)=_
 rw [if_pos (by cases e:oj a b with | false=>rfl | true=>exact absurd e z)]
theorem mulE_1:oj (10 ^ 40) (10 ^ 40 - 1)=false:=by decide +kernel
theorem mulE_2:oj (10 ^ 40) (10 ^ 40)=false:=by decide +kernel
section
variable{X:Cx}{EX:EXT}{o e:Expr}{f g:SE}{apos cpos:Pos}
end
end L2
namespace L2
open PyProof.Rows
theorem qT(lo:Int):∀ n,(rgI lo n).Pairwise (·<= ·)
 | 0=>List.Pairwise.nil
 | n+1=>by
  rw [cA,List.pairwise_append];refine ⟨qT lo n,List.pairwise_singleton _ _,fun a ha b hb=> ?_⟩;rw [Bw.mp hb];have:=eQ.mp ha;omega
theorem gm(lo:Int):∀ n,(rgI lo n).Nodup
 | 0=>Dw
 | n+1=>by
  rw [cA,List.nodup_append];refine ⟨gm lo n,List.pairwise_singleton _ _,fun a ha b hb=> ?_⟩;rw [Bw.mp hb];have:=eQ.mp ha;omega
theorem sM(lo:Int)(m:Nat):∀ n,rgI lo (m+n)=rgI lo m++rgI (lo+(m:Nat)) n
 | 0=>by simp [rgI]
 | n+1=>by
  rw [<- Nat.add_assoc,cA,sM lo m n,cA,C6]
  congr 3
  omega
end L2
namespace L2
def dnI(hi:Int)(n:Nat):List Int:=(List.range n).map fun k=>hi - (k:Nat)
def rem(legs:List Nat):Nat:=legs.sum+legs.length - 1
def cS(b:Bool)(lo hi:Int):List Nat->List Int
 | []=>[]
 | l::r=>if r=[] then [] else if b then (hi - l)::cS false lo (hi - l - 1) r else (lo+l)::cS true (lo+l+1) hi r
def cL(b:Bool)(lo hi:Int):List Nat->List Int
 | []=>[]
 | l::r=>if b then dnI hi l++cL false lo (hi - l - 1) r else rgI lo l++cL true (lo+l+1) hi r
def cT(k fr:Int):List Nat->List (Int×Int)
 | []=>[]
 | l::r=>(rgI fr l).map (fun x=>(k,x))++(if r=[] then [] else (k,k+1)::cT (k+1) (fr+l) r)
theorem rZ:∀ (legs:List Nat) (k fr:Int),legs≠[]->((cT k fr legs).map Prod.snd).Perm (rgI (k+1) (legs.length - 1)++rgI fr legs.sum)
 | [],_,_,h=>absurd rfl h
 | l::r,k,fr,_=>by
  have e0:((rgI fr l).map (fun x=>(k,x))).map Prod.snd=rgI fr l:=by rw [B8];exact (Cq fun x _=>rfl).trans (List.map_id' _)
  unfold cT
  by_cases hr:r=[]
  ·subst hr
   rw [if_pos rfl,BZ,e0];simp [rgI]
  ·have:=BP.mpr hr
   rw [if_neg hr,Do,e0,Bu,Bj,Di,sM,show r.length+1 - 1=(r.length - 1)+1 by omega,pC];have ih:=rZ r (k+1) (fr+l) hr
   show (rgI fr l++(k+1)::(cT (k+1) (fr+l) r).map Prod.snd).Perm ((k+1)::rgI (k+1+1) (r.length - 1)++(rgI fr l++rgI (fr+(l:Nat)) r.sum))
   rw [Dl];intro a;have:=Dl.mp ih a;simp only [List.count_append,List.count_cons] at this ⊢;omega
theorem cT_len{legs:List Nat}(h:legs≠[])(k fr:Int):(cT k fr legs).length=rem legs:=by
 have:=(rZ legs k fr h).length_eq;rw [Be,Bz,be,be] at this;have:=BP.mpr h;unfold rem;omega
theorem xN:∀ (legs:List Nat) (k fr:Int),k+legs.length<=fr->∀ t∈cT k fr legs,k<=t.1/\t.1 < k+legs.length/\t.1 < t.2/\t.2 < fr+legs.sum
 | [],_,_,_,t,ht=>by unfold cT at ht;exact absurd ht Cj
 | l::r,k,fr,hf,t,ht=>by
  rw [Bj] at hf ⊢;rw [Di];unfold cT at ht
  rcases BA.mp ht with ht | ht
  ·obtain ⟨x,hx,rfl⟩:=CA.mp ht
   obtain ⟨h1,h2⟩:=eQ.mp hx
   show k<=k/\k < _/\k < x/\x < _
   omega
  ·split at ht
   ·exact absurd ht Cj
   ·rename_i hr
    have:=BP.mpr hr
    rcases Bp.mp ht with rfl | ht
    ·show k<=k/\k < _/\k < k+1/\k+1 < _
     omega
    ·have:=xN r (k+1) (fr+l) (by omega) t ht
     omega
end L2
namespace L2
theorem iC{α β:Type}{f:α->β}:∀ {l:List α},l.Nodup->(∀ x∈l,∀ y∈l,f x=f y->x=y)->(l.map f).Nodup
 | [],_,_=>Dw
 | x::l,nd,h=>by
  have nd:=B2.mp nd;rw [Bu,B2];refine ⟨fun z=> ?_,iC nd.2 fun a ha b hb=>h a (Bi _ ha) b (Bi _ hb)⟩;obtain ⟨y,hy,e⟩:=CA.mp z;have:=h y (Bi _ hy) x Bn e;subst this;exact nd.1 hy
end L2
namespace L2
abbrev iL(legs:List Nat):List Int:=legs.map fun (n:Nat)=>(n:Int)
theorem nJ:∀ legs:List Nat,(iL legs).sum=((legs.sum:Nat):Int)
 | []=>rfl
 | l::r=>by show ((l:Nat):Int)+(iL r).sum=_;rw [nJ r,Di];omega
def stT(k fr:Int):List Nat->List (Int×Int)
 | []=>[]
 | l::r=>(rgI fr l).map (fun x=>(k,x))++stT (k+1) (fr+l) r
def fE(a:Int)(n:Nat):List (Int×Int):=(rgI a n).map fun p=>(p,p+1)
theorem A6:∀ (legs:List Nat) (k fr:Int),legs≠[]->(fE k (legs.length - 1)++stT k fr legs).Perm (cT k fr legs)
 | [],_,_,h=>absurd rfl h
 | l::r,k,fr,_=>by
  unfold cT stT
  by_cases hr:r=[]
  ·subst hr
   rw [if_pos rfl,BZ];simp [fE,stT,rgI]
  ·have:=BP.mpr hr
   rw [if_neg hr,Bj,show r.length+1 - 1=(r.length - 1)+1 by omega];have ih:=A6 r (k+1) (fr+l) hr
   have e:fE k ((r.length - 1)+1)=(k,k+1)::fE (k+1) (r.length - 1):=by unfold fE;rw [pC,Bu]
   rw [e];rw [Dl];intro a;have:=Dl.mp ih a;simp only [List.count_append,List.count_cons] at this ⊢;omega
def spT(legs:List Nat):List (Int×Int):=fE 0 (legs.length - 1)++stT 0 (legs.length:Nat) legs
theorem vF{legs:List Nat}(h:legs≠[]):(spT legs).Perm (cT 0 (legs.length:Nat) legs):=A6 legs 0 _ h
def mM(n:Nat):List (Int×Int):=fE 0 (n - 1)++[(0,(n:Int) - 1)]
def fA(m n:Nat):List (Int×Int):=(rgI 0 m).flatMap fun p=>(rgI (m:Nat) n).map fun x=>(p,x)
structure df(n:Nat)(ts:List (Int×Int)):Prop where
 r:∀ t∈ts,0<=t.1/\t.1 < t.2/\t.2 < n
 d:ts.Nodup
 l:ts.length<=60
 n0:1<=n
 n:n<=40
theorem iB{α β:Type}{f:α->β}:∀ {l:List α},(l.map f).Nodup->l.Nodup
 | [],_=>Dw
 | x::l,h=>by
  rw [Bu] at h;have h:=B2.mp h;exact B2.mpr ⟨fun z=>h.1 (CA.mpr ⟨x,z,rfl⟩),iB h.2⟩
theorem df.perm{n:Nat}{a b:List (Int×Int)}(h:df n a)(p:a.Perm b):df n b:=⟨fun t ht=>h.r t (p.mem_iff.mpr ht),p.nodup_iff.mp h.d,by rw [<- p.length_eq];exact h.l,h.n0,h.n⟩
theorem sp_ok{legs:List Nat}(h:legs≠[])(m:legs.length+legs.sum<=40):df (legs.length+legs.sum) (spT legs):=by
 have hl:=BP.mpr h;refine df.perm ⟨fun t ht=> ?_,?_,?_,by omega,m⟩ (vF h).symm
 ·have:=xN legs 0 (legs.length:Nat) (by omega) t ht
  omega
 ·refine iB (f:=Prod.snd) ((rZ legs 0 _ h).nodup_iff.mpr ?_)
  rw [List.nodup_append];refine ⟨gm _ _,gm _ _,fun a ha b hb=> ?_⟩;have:=eQ.mp ha;have:=eQ.mp hb;omega
 ·rw [cT_len h];unfold rem;omega
def eN(n:Nat)(ts:List (Int×Int)):Bool:=ts.all (fun t=>decide (0<=t.1)&&decide (t.1 < t.2)&&decide (t.2 < (n:Int)))&&decide ts.Nodup&&decide (ts.length<=60)&&decide (1<=n)&&decide (n<=40)
theorem gk{n:Nat}{ts:List (Int×Int)}(h:eN n ts=true):df n ts:=by
 unfold eN at h;simp only [By,CN,Bx] at h;obtain ⟨⟨⟨⟨h1,h2⟩,h3⟩,h4⟩,h5⟩:=h;exact ⟨fun t ht=>⟨(h1 t ht).1.1,(h1 t ht).1.2,(h1 t ht).2⟩,h2,h3,h4,h5⟩
theorem ku(m n:Nat):(fA m n).length=m * n:=by
 have:∀ i:Nat,((rgI 0 i).flatMap fun p=>(rgI (m:Nat) n).map fun x=>(p,x)).length=i * n:=by
  intro i
  induction i with
  | zero=>simp [rgI]
  | succ i ih=>rw [cA,CS,Bz,ih];simp [be,Nat.add_mul]
 exact this m
theorem rn:∀ {legs:List Nat} {m:Nat},legs.sum<=m->∀ l∈legs,l<=m
 | [],_,_,_,h=>absurd h Cj
 | x::r,m,hs,l,h=>by
  rw [Di] at hs
  rcases Bp.mp h with rfl | h
  ·omega
  ·exact rn (legs:=r) (by omega) l h
def ko:List Nat->List Nat
 | []=>[]
 | l::r=>if 40 < (l::r).length+(l::r).sum then ko r else l::r
theorem sy:∀ {legs:List Nat},legs≠[]->(∀ l∈legs,l<=39)->ko legs≠[]/\(ko legs).length+(ko legs).sum<=40
 | [],h,_=>absurd rfl h
 | l::r,_,hb=>by
  unfold ko
  split
  ·rename_i h
   by_cases hr:r=[]
   ·subst hr
    have:=hb l Bn;simp at h;omega
   ·exact sy hr fun x hx=>hb x (Bi _ hx)
  ·rename_i h
   exact ⟨by simp,by omega⟩
theorem tz{m:Nat}:∀ (ys:List D),(∀ y∈ys,∃ n:Nat,n<=m/\y = .int (n:Nat))->∃ legs:List Nat,ys=nD (iL legs)/\legs.length=ys.length/\∀ l∈legs,l<=m
 | [],_=>⟨[],rfl,rfl,fun _ h=>absurd h Cj⟩
 | y::ys,h=>by
  obtain ⟨n,hn,rfl⟩:=h _ Bn
  obtain ⟨legs,rfl,e,hl⟩:=tz ys fun y hy=>h y (Bi _ hy)
  exact ⟨n::legs,rfl,by rw [Bj,Bj,e],fun l hl'=>by
   rcases Bp.mp hl' with rfl | hl'
   ·exact hn
   ·exact hl l hl'⟩
theorem pick6{d:Int}(h0:0<=d)(h1:d < 6):∃ n:Nat,n<=3/\gIx [.lst [.int 0,.int 0,.int 1,.int 2,.int 0,.int 3],.int d]=some (.int (n:Nat),false):=by
 obtain rfl | rfl | rfl | rfl | rfl | rfl:d=0\/d=1\/d=2\/d=3\/d=4\/d=5:=by omega
 ·exact ⟨0,by omega,rfl⟩
 ·exact ⟨0,by omega,rfl⟩
 ·exact ⟨1,by omega,rfl⟩
 ·exact ⟨2,by omega,rfl⟩
 ·exact ⟨0,by omega,rfl⟩
 ·exact ⟨3,by omega,rfl⟩
theorem pickL{d:Int}(h0:0<=d)(h1:d < 6):∃ legs:List Nat,(legs≠[]/\legs.length<=40/\∀ l∈legs,l<=39)/\gIx [.lst [.lst (nD (List.replicate (40:Int).toNat 0)),.lst [.int 39],.lst (nD (List.replicate (20:Int).toNat 0++[19])),.lst (nD (List.replicate (20:Int).toNat 1)),.lst [.int 9,.int 9,.int 9,.int 9],.lst [.int 0]],.int d]=some (.lst (nD (iL legs)),false):=by
 obtain rfl | rfl | rfl | rfl | rfl | rfl:d=0\/d=1\/d=2\/d=3\/d=4\/d=5:=by omega
 ·exact ⟨List.replicate 40 0,⟨by decide,by decide,by decide⟩,rfl⟩
 ·exact ⟨[39],⟨by decide,by decide,by decide⟩,rfl⟩
 ·exact ⟨List.replicate 20 0++[19],⟨by decide,by decide,by decide⟩,rfl⟩
 ·exact ⟨List.replicate 20 1,⟨by decide,by decide,by decide⟩,rfl⟩
 ·exact ⟨[9,9,9,9],⟨by decide,by decide,by decide⟩,rfl⟩
 ·exact ⟨[0],⟨by decide,by decide,by decide⟩,rfl⟩
theorem xG(x:Nat)(r:List Nat):eK [.lst (nD (iL (x::r))),.int 1]=some (.lst (nD (iL r)),true):=by
 show some (D.lst (jg (nD (iL (x::r))) (some 1) none),true)=_
 have:=cut_hi (l:=nD (iL (x::r))) (n:=1) (by simp);rw [show (some (1:Int))=some ((1:Nat):Int) from rfl,this];rfl
end L2
namespace L2
def oz(m n:Nat):List (Int×Int):=(rgI 0 (m * n)).map fun k=>(k / (n:Nat),(m:Int)+k % (n:Nat))
def sdN(m n:Nat):List Int:=rgI 0 m++(rgI 0 n).map fun k=>(m:Int) * (k+1)
def sdB(m n:Nat):Bool:=decide (dI (fA m n)=oz m n)&&decide (jw ((oz m n).map fun t=>max ((sdN m n).getD t.1.toNat 0) ((sdN m n).getD t.2.toNat 0) - min ((sdN m n).getD t.1.toNat 0) ((sdN m n).getD t.2.toNat 0))=rgI 1 (m * n))&&decide (ot ((oz m n).map fun t=>min ((sdN m n).getD t.1.toNat 0) ((sdN m n).getD t.2.toNat 0)) < oo ((oz m n).map fun t=>max ((sdN m n).getD t.1.toNat 0) ((sdN m n).getD t.2.toNat 0)))
def Aw:Bool:=(List.range 40).all fun m=>(List.range 40).all fun n=>(decide (m=0)||decide (n=0)||decide (40 < m+n)||decide (60 < m * n))||sdB m n
theorem nM:Aw=true:=by decide +kernel
theorem sd_at{m n:Nat}(h1:1<=m)(h2:1<=n)(h3:m+n<=40)(h4:m * n<=60):sdB m n=true:=by
 have h:=nM;unfold Aw at h;have h:=Bx.mp h m (BK.mpr (by omega));have h:=Bx.mp h n (BK.mpr (by omega))
 rcases (C4 _ _).mp h with h | h
 ·simp only [C4,CN] at h
  omega
 ·exact h
theorem zy{m n:Nat}(h2:1<=n):∀ t∈oz m n,0<=t.1/\t.1 < m/\(m:Int)<=t.2/\t.2 < (m:Int)+n:=fun t ht=>by
 obtain ⟨k,hk,rfl⟩:=CA.mp ht;have hk:=eQ.mp hk;have e:((m * n:Nat):Int)=(m:Int) * n:=Int.natCast_mul m n;have h1:k / (n:Int) < m:=Int.ediv_lt_of_lt_mul (by omega) (by omega);have h3:=Int.emod_nonneg k (b:=(n:Int)) (by omega);have h4:=Int.emod_lt_of_pos k (b:=(n:Int)) (by omega);have h5:0<=k / (n:Int):=Int.ediv_nonneg (by omega) (by omega);exact ⟨h5,h1,by show (m:Int)<=m+k % n;omega,by show (m:Int)+k % n < _;omega⟩
theorem rq{m n:Nat}(h2:1<=n):(oz m n).Nodup:=by
 refine iC (gm _ _) fun x _ y _ e=> ?_
 injection e with e1 e2
 have h1:=Int.mul_ediv_add_emod x n;have h2:=Int.mul_ediv_add_emod y n;rw [e1] at h1;omega
theorem wT(m n:Nat):(oz m n).length=m * n:=by unfold oz;rw [Be,be]
theorem yq{m n:Nat}(h1:1<=m)(h2:1<=n)(h3:m+n<=40)(h4:m * n<=60):dI (fA m n)=oz m n/\df (m+n) (fA m n):=by
 have h:=sd_at h1 h2 h3 h4;unfold sdB at h;simp only [By,CN] at h;refine ⟨h.1.1,df.perm ⟨fun t ht=> ?_,rq h2,by rw [wT];exact h4,by omega,h3⟩ (by rw [<- h.1.1];exact qW _)⟩;have:=zy h2 t ht;omega
end L2
namespace L2
def yu:Bool:=(List.range 38).all fun n=>eN (n+3) (mM (n+3))
theorem vO:yu=true:=by decide +kernel
theorem ug{n:Nat}(h1:3<=n)(h2:n<=40):eN n (mM n)=true:=by
 have:=Bx.mp vO (n - 3) (BK.mpr (by omega));rw [show n - 3+3=n by omega] at this;exact this
end L2
namespace L2
end L2
namespace L2
def lH(n:Nat):List (Int×Int):=(rgI 0 n).flatMap fun p=>(rgI (p+1) ((n:Int) - 1+1 - (p+1)).toNat).map fun x=>(p,x)
def lJ(n:Nat):List (Int×Int):=(rgI 1 n).map (fun x=>(0,x))++fE 1 (n - 1)
def iS(n:Nat):List (Int×Int):=lJ n++[(1,(n:Int))]
def lawF(c:Int->Int->Bool)(m:Nat):List (Int×Int):=(rgI 0 m).flatMap fun one=>((rgI 0 one.toNat).filter fun other=>c other one).map fun other=>(other,one)
def cFull(_ _:Int):Bool:=true
def cFan(o i:Int):Bool:=(decide (o+1=i)&&decide (0 < o))||decide (o=0)
def cWheel(n:Nat)(o i:Int):Bool:=(decide (o+1=i)&&decide (0 < o))||(decide (o=1)&&decide (i=(n:Int)))||decide (o=0)
def tQ:Bool:=((List.range 11).all fun n=>eN (n+1) (lH (n+1))&&decide (dI (lawF cFull (n+1))=dI (lH (n+1)))) &&
 ((List.range 30).all fun n=>eN (n+2) (lJ (n+1))&&decide (dI (lawF cFan (n+2))=dI (lJ (n+1)))) &&
 ((List.range 28).all fun n=>eN (n+4) (iS (n+3))&&decide (dI (lawF (cWheel (n+3)) (n+4))=dI (iS (n+3))))
theorem rJ:tQ=true:=by decide +kernel
end L2
namespace L2
end L2
set_option linter.all false
private def xp(r:Array String):Nat->Char->List Nat
 | 0,_=>[]
 | k+1,c=>let x:=c.toNat;if x < 80 then [x - 33 - (if x < 35 then 0 else 1)] else if 255 < x&&x < 1024 then [x - 210] else (r.getD (if x < 127 then x - 80 - (if x < 93 then 0 else 1) else x - 978) "").toList.flatMap (xp r k)
set_option hygiene false
set_option compiler.extract_closed false
private def ta:Lean.MacroM (Lean.TSyntax `tactic) := `(tactic| (refine .cons ?_ ?_;exact .nil;(simp only [Ce,Cf,reduceIte,Bool.false_eq_true];exact rfl);exact ⟨rfl,rfl,rfl,by decide +kernel,rfl,by decide +kernel,by decide +kernel⟩;(simp only [bJ,cu,yd,BB,BF,Ce,Cf,List.replicate,B5,BX,BW];exact rfl);(simp only [Bj,Cg,List.take_succ_cons,List.take_zero,BW];exact rfl);(with_reducible assumption);exact ⟨rfl,by decide +kernel,by decide +kernel,by decide +kernel,rfl,by decide +kernel,by decide +kernel,by decide +kernel,by decide +kernel⟩;(first | exact Or.inl rfl | exact Or.inr (Or.inl rfl) | exact Or.inr (Or.inr rfl));omega;refine t_eq hu ?_ ?_;intros;exact xi nd rfl (Or.inl rfl);refine t_ne hu ?_ ?_;intro x0 hx0;(simp only [Be,Bz,Cp,Bj,Cg,B9,B3,be,List.length_zipIdx,Cw,List.length_reverse] at *;omega);refine Ax nd rfl (Or.inl rfl) ?_;refine b_len (m:=T.len) (ha:= ?_);refine qz ?_ T.isi T.tuple;refine b_all (m:=T.all) (ha:= ?_);refine c_sl10 qN os_s10 ?_ ?_;exact Bl (by omega);(simp only [B5,BX];exact rfl);refine bj (N:=["thing"]) h ?_ fun f cdv A outer s H E hr nd hu hu1=> ?_;refine b_sum (m:=T.sum) (ha:= ?_);refine c_disp ?_ (by simp) (by decide) (by decide);refine .cons (k:= .inr "ring") ?_ ?_;refine .cons (k:= .inr "full") ?_ ?_;refine .cons (k:= .inr "wheel") ?_ ?_;refine g_tup rfl ?_;refine s_retV rfl ?_;refine i_rng1 (by rfl) T.range ?_;exact xM (by rfl) T.MOST_PLACES;(with_reducible apply xq _);refine r6 ?_ T.isi T.bool;exact xi (nd_k (by kernel_rfl)) rfl (Or.inl rfl);refine wQ _ ?_;refine bj (N:=["n"]) h ?_ fun f cdv A outer s H E hr nd hu hu1=> ?_;refine .cons (k:= .inr "fan") ?_ ?_;(simp only [ini,hV,Bj,Cg,List.replicate,B5,BX,BZ,Nat.reduceSub,C8,Nat.reduceAdd,BW,reduceCtorEq,reduceIte,Option.some.injEq,Nat.reduceEqDiff,Nat.zero_ne_one,Nat.one_ne_zero];exact rfl);(with_reducible apply zU _ _);(with_reducible apply oD _ _);have hy0:=eQ.mp hx0;(simp only [gR];exact rfl);(simp only [Bool.not_eq_true',Bool.not_eq_false',CN,decide_eq_false_iff_not];omega);refine vg ?_ T.isi T.int;refine bj (N:=["kind", "word"]) h ?_ fun f cdv A outer s H E hr nd hu hu1=> ?_;refine i_rng2 (by rfl) T.range ?_;refine b_max (m:=T.max) (ha:= ?_);refine b_int (m:=T.int) (ha:= ?_);refine c_get2 hu1 ?_ ?_ ?_;refine s_for rfl ?_ ?_ ?_;refine i_enum (by rfl) T.enumerate ?_;refine s_item ?_ ?_ rfl ?_;refine vf ?_ T.isi T.str;refine o3.ok (osc:=ae (top 49)) (N:=["thing", "least", "places", "ties"]) ?_;refine q_eq hu ?_ ?_;refine bj (N:=["many", "thing"]) h ?_ fun f cdv A outer s H E hr nd hu hu1=> ?_;refine Am (m:=T.tuple) (ha:= ?_);refine b_min (m:=T.min) (ha:= ?_);refine c_dget hu1 ?_ ?_;refine c_sl01 qN os_s01 ?_ ?_;exact xM (by rfl) T.MOST_TIES;exact Br (by omega);(simp only [Bool.not_eq_true',Bool.not_eq_false',By,C4,Bool.and_eq_false_iff,Bool.or_eq_false_iff,CN,decide_eq_false_iff_not];omega);(simp only [dH,BB,BF,Ce,Cf];exact rfl);decide;refine bj (N:=["first", "last"]) h ?_ fun f cdv A outer s H E hr nd hu hu1=> ?_;refine ia (M:=["first", "last"]) (tgs:=["place"]) rfl ?_ ?_ ?_ ?_ ?_;refine o3.ok (osc:=ae (top 30)) (N:=["first", "last"]) ?_;exact .no;refine bj (N:=["middle", "first", "last"]) h ?_ fun f cdv A outer s H E hr nd hu hu1=> ?_;refine ia (M:=["middle", "first", "last"]) (tgs:=["place"]) rfl ?_ ?_ ?_ ?_ ?_;refine o3.ok (osc:=ae (top 31)) (N:=["middle", "first", "last"]) ?_;refine bj (N:=["script", "k"]) h ?_ fun f cdv A outer s H E hr nd hu hu1=> ?_;refine bj (N:=["seed"]) h ?_ fun f cdv A outer s H E hr nd hu hu1=> ?_;refine bj (N:=["cell", "left"]) h ?_ fun f cdv A outer s H E hr nd hu hu1=> ?_;refine bj (N:=["found"]) h ?_ fun f cdv A outer s H E hr nd hu hu1=> ?_;refine bj (N:=["kind", "size", "tallies"]) h ?_ fun f cdv A outer s H E hr nd hu hu1=> ?_;refine bj (N:=["thing", "least", "most"]) h ?_ fun f cdv A outer s H E hr nd hu hu1=> ?_;refine Al wB wB wy wy ?_ ?_ ?_;refine bj (N:=["legs", "ties", "further", "place", "leg"]) h ?_ fun f cdv A outer s H E hr nd hu hu1=> ?_;refine s_aug ip_add nd rfl (Or.inl rfl) ?_;refine bj (N:=["m", "n", "ties", "place"]) h ?_ fun f cdv A outer s H E hr nd hu hu1=> ?_;refine bj (N:=["n", "ties", "place"]) h ?_ fun f cdv A outer s H E hr nd hu hu1=> ?_;refine bj (N:=["pen", "many", "found"]) h ?_ fun f cdv A outer s H E hr nd hu hu1=> ?_;refine bj (N:=["thing", "least", "places", "ties"]) h ?_ fun f cdv A outer s H E hr nd hu hu1=> ?_;refine ia (M:=["thing", "least", "places", "ties"]) (tgs:=["count"]) rfl ?_ ?_ ?_ ?_ ?_;refine Ax nd rfl (Or.inr rfl) ?_;refine .cons (k:= .inr "sides") ?_ ?_;refine ia (M:=["thing", "least", "places", "ties"]) (tgs:=["size"]) rfl ?_ ?_ ?_ ?_ ?_;refine ia (M:=["thing"]) (tgs:=["leg"]) rfl ?_ ?_ ?_ ?_ ?_;refine o3.ok (osc:=ae (top 26)) (N:=["thing"]) ?_;refine bj (N:=["leasts", "things"]) h ?_ fun f cdv A outer s H E hr nd hu hu1=> ?_;refine ia (M:=["leasts", "things"]) (tgs:=["least", "thing"]) rfl ?_ ?_ ?_ ?_ ?_;refine o3.ok (osc:=ae (top 27)) (N:=["leasts", "things"]) ?_;refine i_zip (by rfl) T.zip ?_;refine bj (N:=["pen", "most", "word", "legs", "one", "other", "least", "great", "size"]) h ?_ fun f cdv A outer s H E hr nd hu hu1=> ?_;refine uc (M:=["pen", "most", "word", "legs", "one", "other", "least", "great", "size"]) (tgs:=["k"]) rfl ?_ ?_ ?_ ?_ ?_ nd rfl rfl;refine o3.ok (osc:=ae (top 46)) (N:=["pen", "most", "word", "legs", "one", "other", "least", "great", "size"]) ?_;refine bj (N:=["kind", "pen", "sizes", "size", "spot", "some", "legs"]) h ?_ fun f cdv A outer s H E hr nd hu hu1=> ?_;refine Ao (m:=T.list) (ha:= ?_);refine ia (M:=["many", "thing"]) (tgs:=["end"]) rfl ?_ ?_ ?_ ?_ ?_;refine o3.ok (osc:=ae (top 18)) (N:=["many", "thing"]) ?_;refine bj (N:=["thing", "word"]) h ?_ fun f cdv A outer s H E hr nd hu hu1=> ?_;refine t_kin (neg:=true) M_LEAST_NUMBERS (by rfl) ?_ (by rfl);refine c_kget M_LEAST_NUMBERS (by rfl) ?_;refine bj (N:=["many", "things", "told", "number", "thing", "tie"]) h ?_ fun f cdv A outer s H E hr nd hu hu1=> ?_;refine t_in hu ?_ ?_;refine s_dput hu1 ?_ ?_ rfl ?_;refine An (m:=T.sorted) (ha:= ?_);refine bj (N:=["kind"]) h ?_ fun f cdv A outer s H E hr nd hu hu1=> ?_;exact vK R_NoKind hr (by rfl);refine bj (N:=["thing", "due", "found", "refused", "e"]) h ?_ fun f cdv A outer s H E hr nd hu hu1=> ?_;refine s_try (nms:=nms) rfl rfl ?_ ?_ nd rfl rfl (by rfl) HT SU;refine rY rP G2 hr (by decide) (by rfl) ?_;exact Kd.c_kind GK KN (hr.any.mono (by decide)).mark (by rfl);refine q_ne hu ?_ ?_;refine fn_okV (N:=["script", "listed", "thing", "cell", "pen", "kind", "turn"]) h ?_ fun f cdv A outer s H E hr nd hu hu1=> ?_;refine c_sl11 qN os_s11 ?_;skip))
private def tb(k:Nat)(i:Lean.Ident):Lean.MacroM (Lean.TSyntax `tactic):=match k with | 0 => `(tactic| with_reducible apply $i) | 1 => `(tactic| exact $i) | 2 => `(tactic| refine $i ?_) | 3 => `(tactic| refine $i ?_ ?_) | 4 => `(tactic| refine $i ?_ ?_ ?_) | 5 => `(tactic| exact $i _) | 6 => `(tactic| apply $i) | 7 => `(tactic| intro $i:ident) | 8 => `(tactic| refine rY rR $i hr (by decide) (by rfl) ?_) | _ => `(tactic| refine rY rQ $i hr (by decide) (by rfl) ?_)
private def tc:Array (Nat×Lean.Name) := #[(1,`rfl),(2,`cb_ex),(0,`r_nilA),(0,`r_nilM),(5,`vb),(0,`r_exM),(1,`ca_nil),(0,`r_ret),(2,`s_one),(0,`r_op),(1,`c_int),(2,`c_lst),(1,`s_nil),(0,`r_lst),(0,`AE),(1,`g1),(0,`r_ifF),(5,`v),(3,`b_sub),(0,`r_call),(0,`sP),(0,`h),(0,`r_nil),(0,`r_ifT),(3,`s_cons),(0,`r_varF),(1,`q1),(3,`b_ix),(3,`b_add),(0,`r_orF),(0,`r_tup),(1,`e),(0,`r_orT),(1,`q7),(3,`c_and),(1,`c_str),(2,`c_tup),(0,`yJ),(0,`AD),(1,`h),(1,`g2),(1,`g),(1,`q5),(2,`c_one),(0,`r_c),(0,`vR),(0,`r_for),(1,`ln),(1,`q0),(6,`Eq.trans),(1,`r),(1,`q4),(1,`c_bl),(2,`i_seq),(1,`c_non),(0,`r_opT),(6,`el_mk),(0,`r_seqR),(1,`h1),(1,`h2),(0,`tDraw),(1,`f),(1,`q2),(1,`q8),(4,`s_if),(2,`w_or1),(3,`b_mod),(3,`b_mul),(8,`G8),(0,`r_notV),(0,`AC),(0,`r_expr),(1,`st),(0,`r_zipE),(1,`sm),(0,`lG),(0,`zV),(0,`gx),(1,`gl),(1,`gg),(1,`q),(1,`g3),(1,`l),(1,`gw),(0,`xr),(3,`w_or),(3,`b_mulW),(3,`b_fdiv),(1,`g_nil),(2,`s_expr),(3,`q_le),(0,`r_seqI),(1,`al),(0,`yC),(1,`ex),(0,`r_retO),(0,`qR),(0,`vL),(0,`xl),(1,`q3),(1,`n),(1,`q9),(3,`Ah),(3,`t_lt),(3,`q_ge),(3,`b_pow),(8,`G6),(3,`g_cons),(9,`G17),(9,`G18),(1,`gi),(0,`r_dnew),(0,`yF),(0,`yz),(0,`qQ),(1,`e2),(0,`uH),(0,`yA),(1,`h3),(0,`sN),(1,`hx),(0,`r_disp),(1,`t),(1,`d),(1,`w),(1,`z),(1,`q6),(1,`gt),(1,`kl),(1,`m2),(1,`g4),(1,`ne),(2,`c_not),(8,`G9),(9,`G20),(8,`G28),(9,`G28),(8,`G3),(2,`b_neg),(3,`b_mulA),(1,`s_none),(8,`G15),(8,`G1),(8,`G12),(0,`r_fn),(0,`r_borA),(0,`yH),(0,`r_not),(0,`r_tru),(0,`sO),(0,`yG),(0,`eX),(1,`mn),(1,`mx),(6,`lp_mk),(0,`tt),(0,`yD),(1,`up),(0,`tm),(1,`sr),(0,`r_aug),(0,`nQ),(1,`e0),(1,`hm),(0,`je),(1,`h4),(1,`ct),(1,`e'),(0,`rq_ret),(0,`vS),(6,`elA_mk),(0,`uI),(1,`hn),(1,`ad),(0,`r_fnX),(0,`r_seqX),(0,`yB),(0,`yy),(0,`yE),(0,`yI),(0,`r_kind),(0,`r_tryN),(1,`gp),(1,`ga),(0,`r_asg),(1,`hs),(1,`m1),(1,`gd),(1,`m),(1,`hi),(1,`k1),(1,`k2),(1,`ga2),(1,`p0),(1,`y1),(1,`y3),(1,`y2),(1,`y4),(1,`gq),(1,`p1),(1,`p2),(1,`l5),(1,`l6),(0,`up),(1,`l7),(0,`l8),(0,`g6),(1,`g5),(0,`tPen),(1,`e3),(0,`r_varO),(0,`tCell0),(0,`qb),(0,`rH),(2,`s_ret),(2,`JW.t),(8,`G5),(8,`G17),(2,`k_not),(2,`k_tru),(3,`s_asg),(8,`G19),(9,`G8),(3,`yr),(3,`t_gt),(2,`Ai),(1,`Ak),(9,`G4),(8,`G13),(8,`G27),(8,`G22),(8,`G16),(8,`G21),(8,`G11),(8,`G23),(8,`G14),(1,`Aj),(9,`G7),(3,`t_is),(3,`t_ge),(8,`G10),(8,`G0),(8,`G29),(9,`G25),(9,`G24),(9,`G26),(9,`G30)]
private def xg(q:Array Lean.Syntax):List Nat->Lean.MacroM (Array (Lean.TSyntax `tactic))
 | []=>return #[]
 | i::l=>do let a <- (match tc[i]? with | some (k,n)=>tb k (Lean.mkIdent n) | none=>pure ⟨q.getD (2 * (i - tc.size)) .missing⟩);let b <- xg q l;return #[a]++b
local macro_rules
 | `(tactic| trace $s:str)=>do
  let q <- ta
  let a <- xg q.raw[1][0][0].getArgs (s.getString.toList.flatMap (xp #["$!", "W!", "#,", "P!", "Ѕ(", "kP", "*ƨ", "!!", "!ǋ", "ĸ#", "+Ђ", "", "!8", "ЂS", "k$", "ЃP", "WW", ":Ǚ", "ZU", "л)", "ї$", "=s", "'@", "HĘ", "ǉ,", ">#", "0N", "ǒǒ", "БP", "&#", "кк", "S8", "kS", "+0", "&R", "yР", "Ҁњ", "#f", "Ҫ.", "ťŦ", "ċ9", "'Z", "ĉЂ", "iǊ", "Gm", "XH", ")r", "ЃU", "ţ!", "0Z", "H2", "ĸ&", "hZ", "к%", "_ǲ", "XЄ", "ЂP", "Ia", "ҁƉ", "ǌV", "ǌb", "ĖҌ", "|ǉ", "5Ђ", "ЃS", "0+", "лҢ", "пS", "Ƭƭ#", "'r", "тњҤҤІЕ", "ќТQ", "!ѿ", "#-", "Wǋ", "҄S", "Fǉ", ":Ē", "ѽ!", "ŧǍ", "ј҈", "+k", "Є?", "P$", "лy", "Ҩў", "ЅY", "џǊ", "ii", "xГ", "Җq", "ҩ(", "ZS", "лЄ", ")G", "ZҐ", "іt", "/Ї", "hУ", "҂Т", "Sѿ", "ҝV", "s(", "|ф", "'N", "ăŢǰ", "!Ȋ", "0Ғ", "?x", "нU҆", "ĸR", "ǉО", "лңҦҧ҆ҘX", "ПǓ", "сE", "Дҥқ", "Ѓq", "0m", "лh", "Ǳ]", "үЉҰѡ", "ѢcąWС", "yЬ", "Ҩҥ҃", "Э.", "ǔǬұ", "О3", ">n", "ҎR", "ǉF", "ҍЖ", "ǉE", "Є҅", "Ѓґ", "'ғ", "Єо", "іі", "0r", ")@", "ǚT", "җq", "ǉ3", "Гk", "+ї", "xҫ", "СБ", "WQ", "ŬǍ", "0/", "%$", "ѣЂq", "хіҢ{SҞ", "J$", "rm", "п$", "9ҬǞĘ", "Ҭҏ", "ҟŌa", "qW", "Җ_", "ŒW", "HƊmƋ!Ǎ", "ҳоГҙҲҠ", "gЇ", "gҡ", ">s", ":Ǽ", "ĽǕ", "&ē", "Ǌ#", "Ǌb", "{q", "҄P", ")NQ", "лҕ", "Қ$", "gк", "Ыҙp", "ĉЃ", "ѽ]", "Ďlм", "oҡ", "ј%", ")5", "Ѕр", "Oĭ", "Ҋ(", "ПƩħ", "#ѝ", "Ȉ8", "Uũ", "Ґ!", "ŻЂ", ";!", "ВS", "ІҐМ", "҄ґ", "ѾŐ", "$K", "їP", "ǎŨ", "8ҕ", "nE", "уҜ", "]҉`", "҉e", "0@", "o%", "љҔ", "hr", "ңŋ҇^X", "Нq", "/o҇", "н^", "Д?", "Yf", "VĆ", "ћҋ", "ĉпЈ", "_Ǳ", "Нҭ", "hő", "җѠћ", "ǔȏǔ", "SҖ", "Ү!"] 99))
  `(tactic| ($[$a];*))
set_option compiler.extract_closed true
set_option hygiene true
namespace K07
open PySem L2 PyProof.Rows
def top(i:Nat):Stmt:=PySem.Challenge.pw_tienumbers_k07_what_is_no_kind.main.body.getD i (.Pass ⟨0,0,0,0⟩)
def ao:List Key:=[.inr "ring",.inr "sides",.inr "full",.inr "wheel",.inr "fan"]
def aq:List D:=[.ktup [.int 3],.ktup [.int 1,.int 1],.ktup [.int 1],.ktup [.int 3],.ktup [.int 1]]
def nms:List Str:=["NoKind"]
structure Txt(K:Dy)(mg:Str->Option Value):Prop where
 ValueError:mg "ValueError" = none
 all:mg "all" = none
 bool:mg "bool" = none
 enumerate:mg "enumerate" = none
 int:mg "int" = none
 isi:mg "isinstance" = none
 len:mg "len" = none
 list:mg "list" = none
 max:mg "max" = none
 min:mg "min" = none
 range:mg "range" = none
 sorted:mg "sorted" = none
 str:mg "str" = none
 sum:mg "sum" = none
 tuple:mg "tuple" = none
 zip:mg "zip" = none
 MOST_PLACES:∃ t,mg "MOST_PLACES" = some (.int 40 t)
 MOST_TIES:∃ t,mg "MOST_TIES" = some (.int 60 t)
section
variable{P:Program}{w:World}{K:Dy}{mg:Str->Option Value}{base:Heap}
noncomputable def eO:SS:=(aM (bX (sOp (bR "int") [.bor 0]) (ff (sOp (bR "bool") [.bor 0]))))
noncomputable def bS:FS:=aF 1 1 none eO
abbrev lY:=OkY "is_whole" ["thing"] 1 none bS
theorem pS(h:Has K mg "is_whole" (top 12) ["thing"])(T:Txt K mg):lY P w K mg base:=by
 trace "ǠЍDǶ&MŖǫ&"
noncomputable def bn:SS:=(aw (bc 1 (sOp gIx [.bor 0,.ex (sC (.int 0))])) (aw (bi (bd gEq [.bor 1,.ex (sC (.str "spine"))]) (aM (sOp aY [.ex (sOp br [.ex (sOp gIx [.bor 0,.ex (sC (.int 1))])]),.ex (sOp gF [.ex (sOp gIx [.bor 0,.ex (sC (.int 1))])])])) bx) (aw (bi (bd gEq [.bor 1,.ex (sC (.str "sides"))]) (aM (sOp aY [.ex (sOp gIx [.bor 0,.ex (sC (.int 1))]),.ex (sOp gIx [.bor 0,.ex (sC (.int 2))])])) bx) (aw (bi (sOr (bd gEq [.bor 1,.ex (sC (.str "wheel"))]) (bd gEq [.bor 1,.ex (sC (.str "fan"))])) (aM (sOp aY [.ex (sOp gIx [.bor 0,.ex (sC (.int 1))]),.ex (sC (.int 1))])) bx) (aM (sOp gIx [.bor 0,.ex (sC (.int 1))]))))))
noncomputable def ax:FS:=aF 1 2 none bn
abbrev fV:=OkY "places_in" ["kind"] 1 none ax
theorem nZ(h:Has K mg "places_in" (top 28) ["kind"])(T:Txt K mg):fV P w K mg base:=by
 trace "ǷЎfзjǚЭ#ǡюзjfv.ҍǓҜēǓҜVjfR.Vf"
noncomputable def kx:SS:=(aM (ce 1 (eD (.bor 0) (.bor 1)) (.nm 2) none (aW [(bt 2),(sOp aY [.bor 2,.ex (sC (.int 1))])])))
noncomputable def cK:FS:=aF 2 2 none kx
abbrev e8:=OkY "row_ties" ["first", "last"] 1 none cK
theorem pR(h:Has K mg "row_ties" (top 30) ["first", "last"])(T:Txt K mg):e8 P w K mg base:=by
 trace "ȌЍȍȎǐǸЅTяѐǉѷǊ"
noncomputable def jo:SS:=(aM (ce 1 (eD (.bor 1) (.ex (sOp aY [.bor 2,.ex (sC (.int 1))]))) (.nm 3) none (aW [(bt 0),(bt 3)])))
noncomputable def bq:FS:=aF 3 3 none jo
abbrev cX:=OkY "star_ties" ["middle", "first", "last"] 1 none bq
theorem nX(h:Has K mg "star_ties" (top 31) ["middle", "first", "last"])(T:Txt K mg):cX P w K mg base:=by
 trace "ȐЍȑȒǐǸШ>ияѐЩ"
abbrev gb:=OkY "_law_cell_at" ["script", "k"] 1 none bv
theorem jR(h:Has K mg "_law_cell_at" (top 39) ["script", "k"])(T:Txt K mg):gb P w K mg base:=by
 trace "ȓǌПĹnѝV=&&.V,"
abbrev jJ:=OkY "_law_next" ["seed"] 1 none cW
theorem og(h:Has K mg "_law_next" (top 40) ["seed"])(T:Txt K mg):jJ P w K mg base:=by
 trace "ȔЎĔ#ѷRVĔ#jjĕ&nĕRsR"
abbrev gN:=OkY "_law_pen_of" ["cell"] 1 none bO
theorem kQ(h:Has K mg "_law_pen_of" (top 41) ["cell"])(T:Txt K mg):gN P w K mg base:=by
 trace "ȕЎǹШ4R&(V-џǉǺYĺnĻRR(ǉĔsǊ"
noncomputable def dl:SS:=(aM (bX (sOp (bR "int") [.bor 0]) (ff (sOp (bR "bool") [.bor 0]))))
noncomputable def aD:FS:=aF 1 1 none dl
abbrev iO:=OkY "_law_whole" ["found"] 1 none aD
theorem mm(h:Has K mg "_law_whole" (top 43) ["found"])(T:Txt K mg):iO P w K mg base:=by
 trace "ȖЍDǶ&MŖǫ&"
open L2.Kd in
theorem nN:cN ["e", "marks", "words"] ["e"] (ae (top 47)):=⟨rfl,rfl,rfl,by decide +kernel,rfl,by decide +kernel,by decide +kernel⟩
open L2.Kd in
theorem zr(h:Has K mg "_law_kind_of" (top 47) ["e"])(T:Txt K mg):OkA P w K mg base "_law_kind_of" ["e"] 1 (qM K mg):=by
 refine h.okA nN (fun vs H Q E h=> ?_) (fun f cdv A outer s H vs Q E hr h=> ?_)
 ·obtain ⟨ea,C,j,rfl,_⟩:=h;rfl
 ·obtain ⟨ea,C,j,rfl,hH,kd,q⟩:=h
  obtain ⟨c0,m0,k0⟩:=kd.k0;obtain ⟨c1,m1,k1⟩:=kd.k1;obtain ⟨c2,m2,k2⟩:=kd.k2;obtain ⟨c3,m3,k3⟩:=kd.k3;obtain ⟨c4,m4,k4⟩:=kd.k4;obtain ⟨c5,m5,k5⟩:=kd.k5;obtain ⟨c6,m6,k6⟩:=kd.k6;obtain ⟨c7,m7,k7⟩:=kd.k7;obtain ⟨c8,m8,k8⟩:=kd.k8
  refine ⟨_,eF (nU (i:=1) nN.nd rfl (Or.inl rfl) (nW (aH (isx T.isi m0 (pv 0) (by rfl) (by rfl)) (aH (isx T.isi m1 (pv 0) (by rfl) (by rfl)) (aH (isx T.isi m2 (pv 0) (by rfl) (by rfl)) (aH (isx T.isi m3 (pv 0) (by rfl) (by rfl)) cG))))))
   (eF (nU (i:=1) nN.nd rfl (Or.inl rfl) (AO wD (pv 1) (nW (aH (isx T.isi m4 (pv 0) (by rfl) (by rfl)) (aH (isx T.isi m5 (pv 0) (by rfl) (by rfl)) (aH (isx T.isi m6 (pv 0) (by rfl) (by rfl)) (aH (isx T.isi m7 (pv 0) (by rfl) (by rfl)) cG)))))))
   (eF (sX (s0 CY PySem.F.slot_list_append PySem.F.type_list_append uw (pv 1) (aH (isx T.isi m8 (pv 0) (by rfl) (by rfl)) cG)))
   (eF (AM (PW.pt (AL (v7 (pt_val (isxV T.isi T.ValueError (pv 0) (by rfl) (by rfl)))) (v5 (sV op_ne (s0 CY PySem.F.slot_list_count PySem.F.type_list_count wN (pv 1) (aH wp cG)) kO (dL _))))) (nS (nV de)) sW)
   (eF (nU (i:=2) nN.nd rfl (Or.inl rfl) (nW (aH de (aH de (aH de (aH de (aH de (aH de (aH de (aH de (aH de cG)))))))))))
   (nS (nV (AQ tG (pv 2) (s0 CY PySem.F.slot_list_index PySem.F.type_list_index wM (pv 1) (aH wp cG)) (fun _ _=>rfl)))))))),?_⟩
  refine ⟨_,rfl,ea,C,.ref c0,.ref c0,_,rfl,hH,kd.exk,rfl,k0,_,rfl,ea,C,.ref c1,.ref c1,_,rfl,hH,kd.exk,rfl,k1,_,rfl,ea,C,.ref c2,.ref c2,_,rfl,hH,kd.exk,rfl,k2,_,rfl,ea,C,.ref c3,.ref c3,_,rfl,hH,kd.exk,rfl,k3,by show 4<=sizeLine;decide,fun l1 hl1=> ?_⟩;have s1:=ac.upd (o:= .lst [.bl (decide (0=j)),.bl (decide (1=j)),.bl (decide (2=j)),.bl (decide (3=j))]) hl1;have h1:=s1 _ _ hH;refine ⟨_,rfl,_,rfl,ea,C,.ref c4,.ref c4,_,rfl,h1,kd.exk,rfl,k4,_,rfl,ea,C,.ref c5,.ref c5,_,rfl,h1,kd.exk,rfl,k5,_,rfl,ea,C,.ref c6,.ref c6,_,rfl,h1,kd.exk,rfl,k6,_,rfl,ea,C,.ref c7,.ref c7,_,rfl,h1,kd.exk,rfl,k7,by show 4<=sizeLine;decide,fun l2 hl2=> ?_⟩;have s2:=s1.trans (ac.upd (o:= .lst [.bl (decide (4=j)),.bl (decide (5=j)),.bl (decide (6=j)),.bl (decide (7=j))]) hl2);refine ⟨l1,l2,_,_,rfl,rfl,ac.upd hl2 _ _ am,am,Cs (cF (by show 4+4<=1000;decide)),fun l3 hl3=> ?_⟩;have s3:=s2.trans (ac.upd (o:= .lst ([.bl (decide (0=j)),.bl (decide (1=j)),.bl (decide (2=j)),.bl (decide (3=j))]++[.bl (decide (4=j)),.bl (decide (5=j)),.bl (decide (6=j)),.bl (decide (7=j))])) hl3);have nl3:H l3=none:=s2.free hl3;refine ⟨_,rfl,.inl ⟨rfl,_,.inl (.inl am)⟩,_,rfl,ea,C,.ref c8,.ref c8,_,rfl,s3 _ _ hH,kd.exk,rfl,k8,l3,_,_,rfl,rfl,am,cF (by show 8<=1000;decide),?_⟩;rw [x9];have s4:ac H (upd (upd (upd H l1 (.lst [.bl (decide (0=j)),.bl (decide (1=j)),.bl (decide (2=j)),.bl (decide (3=j))])) l2 (.lst [.bl (decide (4=j)),.bl (decide (5=j)),.bl (decide (6=j)),.bl (decide (7=j))])) l3 (.lst (eS j))):=s2.trans (ac.upd hl3);refine ⟨_,rfl,ea,C,.ty "ValueError",.type "ValueError",_,rfl,s4 _ _ hH,kd.exk,rfl,kd.ve,_,rfl,iteF ⟨_,rfl,.inl ⟨rfl,_,.inl (.inl am)⟩,l3,eS j,.bl true,rfl,rfl,am,rfl,kZ j,rfl,_,rfl,?_⟩⟩
  rw [uz j kd.lt]
  refine iteB (fun c=>absurd c (by decide)) fun _=> ?_
  refine ⟨by show 9<=sizeLine;decide,fun l5 hl5=> ?_⟩;refine ⟨_,rfl,_,rfl,.inl ⟨rfl,_,.inl (.inl (ac.upd hl5 _ _ am))⟩,l3,eS j,.bl true,j,rfl,rfl,ac.upd hl5 _ _ am,rfl,kZ j,wP j kd.lt,wO j kd.lt,l5,_,_,_,rfl,rfl,.inl (.inl am),vp kd.lt,q _ (s4.trans (ac.upd hl5))⟩
noncomputable def dq:SS:=(aw (bi (bd gEq [.ex (sOp gIx [.bor 0,.ex (sC (.int 0))]),.ex (sC (.str "spine"))]) (aM (aW [(sOp aY [.ex (sOp br [.ex (sOp gIx [.bor 0,.ex (sC (.int 1))])]),.ex (sOp gF [.ex (sOp gIx [.bor 0,.ex (sC (.int 1))])])]),(sOp cD [.ex (sOp aY [.ex (sOp br [.ex (sOp gIx [.bor 0,.ex (sC (.int 1))])]),.ex (sOp gF [.ex (sOp gIx [.bor 0,.ex (sC (.int 1))])])]),.ex (sC (.int 1))])])) bx) (aw (bc 1 (sOp gIx [.bor 0,.ex (sC (.int 1))])) (aw (bi (bd gEq [.ex (sOp gIx [.bor 0,.ex (sC (.int 0))]),.ex (sC (.str "sides"))]) (aM (aW [(sOp aY [.bor 1,.ex (sOp gIx [.bor 0,.ex (sC (.int 2))])]),(sOp fg [.bor 1,.ex (sOp gIx [.bor 0,.ex (sC (.int 2))])])])) bx) (aw (bc 2 (iu [.inr "ring",.inr "full",.inr "wheel"] [(aW [(bt 1),(bt 1)]),(aW [(bt 1),(sOp gK [.ex (sOp fg [.bor 1,.ex (sOp cD [.bor 1,.ex (sC (.int 1))])]),.ex (sC (.int 2))])]),(aW [(sOp aY [.bor 1,.ex (sC (.int 1))]),(sOp fg [.ex (sC (.int 2)),.bor 1])])])) (aM (ju (bt 2) (sOp gIx [.bor 0,.ex (sC (.int 0))]) (aW [(sOp aY [.bor 1,.ex (sC (.int 1))]),(sOp cD [.ex (sOp fg [.ex (sC (.int 2)),.bor 1]),.ex (sC (.int 1))])])))))))
noncomputable def aX:FS:=aF 1 3 none dq
abbrev iP:=OkY "_law_sizes" ["kind"] 1 none aX
theorem mo(h:Has K mg "_law_sizes" (top 48) ["kind"])(T:Txt K mg):iP P w K mg base:=by
 trace "ȗǌуv#EVОjǚЭ#ǡЭǉ4#jǚЭ#ǡЭRǊ.bfуv#EVОёfǉĨnfǊ.bǢǣѐЩǤѐǉĩ#Ĩn4sRǊǥОѷǉĨR&ǊǊVǻ3fОѷǉ4#ĨRsǊ"
noncomputable def dB:SS:=(aM (bX (aj none none bS [.bor 0]) (cZ gLe gLe (bt 1) (bt 0) (bt 2))))
noncomputable def aP:FS:=aF 3 3 none dB
abbrev bU:=OkY "whole_within" ["thing", "least", "most"] 2 none aP
theorem jO(h:Has K mg "whole_within" (top 13) ["thing", "least", "most"])(T:Txt K mg)(G5:lY P w K mg base):bU P w K mg base:=by
 trace "ȘЍDƪTMș333"
noncomputable def cw:SS:=(aw (di (dE 1 cM [(aj none none bq [.bor 3,.bor 2,.ex (sOp cD [.ex (sOp aY [.bor 2,.bor 4]),.ex (sC (.int 1))])])])) (kE 2 (fun i j=>i+j) (bt 4)))
noncomputable def ip:SS:=(aw (bc 1 (aj none none cK [.ex (sC (.int 0)),.ex (sOp cD [.ex (sOp br [.bor 0]),.ex (sC (.int 1))])])) (aw (bc 2 (sOp br [.bor 0])) (aw (fD (eE (bt 0)) (.tp [(.nm 3),(.nm 4)]) cw) (dR 1))))
noncomputable def dw:FS:=aF 1 5 none ip
abbrev iM:=OkY "spine_ties" ["legs"] 2 none dw
theorem mj(h:Has K mg "spine_ties" (top 32) ["legs"])(T:Txt K mg)(G6:e8 P w K mg base)(G17:cX P w K mg base):iM P w K mg base:=by
 trace "ȚЎļрY4ђ(bѝѸǽ3ǦѹѹĪ:īǭľЅШ4#>&и*ț3*ǧǑ"
noncomputable def jp:SS:=(aM (sOp aY [.ex (aj none none cK [.ex (sC (.int 0)),.ex (sOp cD [.bor 0,.ex (sC (.int 1))])]),.ex (bP [(aW [(sC (.int 0)),(sOp cD [.bor 0,.ex (sC (.int 1))])])])]))
noncomputable def dX:FS:=aF 1 1 none jp
abbrev jE:=OkY "ring_ties" ["n"] 2 none dX
theorem nY(h:Has K mg "ring_ties" (top 33) ["n"])(T:Txt K mg)(G6:e8 P w K mg base):jE P w K mg base:=by
 trace "ǮЍjļрY4иЛѓiǉ4sǊǊ"
noncomputable def dC:SS:=(di (dE 2 cM [(aj none none bq [.bor 3,.bor 0,.ex (sOp cD [.ex (sOp aY [.bor 0,.bor 1]),.ex (sC (.int 1))])])]))
noncomputable def iq:SS:=(aw (bc 2 (bP [])) (aw (fD (dh (.bor 0)) (.nm 3) dC) (dR 2)))
noncomputable def dy:FS:=aF 2 4 none iq
abbrev iN:=OkY "sides_ties" ["m", "n"] 2 none dy
theorem ml(h:Has K mg "sides_ties" (top 34) ["m", "n"])(T:Txt K mg)(G17:cX P w K mg base):iN P w K mg base:=by
 trace "ȜЎ-ǊѸǨTǕ*īǭľЅШ4#>&и*ǧǑ"
noncomputable def em:SS:=(di (dE 1 cM [(aj none none bq [.bor 2,.ex (sOp aY [.bor 2,.ex (sC (.int 1))]),.ex (sOp cD [.bor 0,.ex (sC (.int 1))])])]))
noncomputable def jr:SS:=(aw (bc 1 (bP [])) (aw (fD (dh (.bor 0)) (.nm 2) em) (dR 1)))
noncomputable def dZ:FS:=aF 1 3 none jr
abbrev jH:=OkY "full_ties" ["n"] 2 none dZ
theorem oa(h:Has K mg "full_ties" (top 35) ["n"])(T:Txt K mg)(G17:cX P w K mg base):jH P w K mg base:=by
 trace "ȝЎ-ǊѸǨTǕ*īǭľШѷY4и*ǧǑ"
noncomputable def kB:SS:=(aM (sOp aY [.ex (aj none none bq [.ex (sC (.int 0)),.ex (sC (.int 1)),.bor 0]),.ex (aj none none cK [.ex (sC (.int 1)),.bor 0])]))
noncomputable def dO:FS:=aF 1 1 none kB
abbrev ic:=OkY "fan_ties" ["n"] 2 none dO
theorem pV(h:Has K mg "fan_ties" (top 36) ["n"])(T:Txt K mg)(G17:cX P w K mg base)(G6:e8 P w K mg base):ic P w K mg base:=by
 trace "ǮЍjƫррT#ļрT"
abbrev fZ:=OkY "_law_draw" ["pen", "many"] 2 (some 0) av
theorem oh(h:Has K mg "_law_draw" (top 42) ["pen", "many"])(T:Txt K mg)(G9:jJ P w K mg base):fZ P w K mg base:=by
 trace "ȞǌуvRbĔv&:Ǿĩv&,Ǒ*ǧǑ.:ǾŗYjŗЭR(,ǑVĔ#ĩvR&"
noncomputable def ah:SS:=(aw (bi (sOr (cR (cQ (.ex (sOp (bR "tuple") [.bor 0])))) (sOr (bd gLt [.ex (sOp br [.bor 0]),.ex (sC (.int 2))]) (cR (cQ (.ex (sOp (bR "str") [.ex (sOp gIx [.bor 0,.ex (sC (.int 0))])])))))) (aM (sC (.bl false))) bx) (aw (bi (bd gEq [.ex (sOp gIx [.bor 0,.ex (sC (.int 0))]),.ex (sC (.str "spine"))]) (aw (bi (sOr (bd gNe [.ex (sOp br [.bor 0]),.ex (sC (.int 2))]) (sOr (cR (cQ (.ex (sOp (bR "tuple") [.ex (sOp gIx [.bor 0,.ex (sC (.int 1))])])))) (bd gEq [.ex (sOp gIx [.bor 0,.ex (sC (.int 1))]),.ex (aW [])]))) (aM (sC (.bl false))) bx) (bi (cR (cQ (.ex (sOp hX [.ex (ce 1 (dg (sOp gIx [.bor 0,.ex (sC (.int 1))])) (.nm 4) none (bX (aj none none aD [.bor 4]) (sOp gGe [.bor 4,.ex (sC (.int 0))])))])))) (aM (sC (.bl false))) bx)) (aw (bc 1 (ju (iu [.inr "ring",.inr "full",.inr "wheel",.inr "fan",.inr "sides"] [(sC (.int 3)),(sC (.int 1)),(sC (.int 3)),(sC (.int 1)),(sC (.int 1))]) (sOp gIx [.bor 0,.ex (sC (.int 0))]) (sOp my [.ex (sC (.int 10)),.ex (sC (.int 50))]))) (aw (bi (bd gNe [.ex (sOp br [.bor 0]),.ex (sOp aY [.ex (sC (.int 2)),.ex (sOp lF [.ex (sOp gEq [.ex (sOp gIx [.bor 0,.ex (sC (.int 0))]),.ex (sC (.str "sides"))])])])]) (aM (sC (.bl false))) bx) (bi (cR (cQ (.ex (sOp hX [.ex (ce 1 (dg (sOp eK [.bor 0,.ex (sC (.int 1))])) (.nm 4) none (bX (aj none none aD [.bor 4]) (sOp gGe [.bor 4,.bor 1])))])))) (aM (sC (.bl false))) bx)))) (aw (kF (.tp [(.nm 2),(.nm 3)]) (aj none none aX [.bor 0])) (aM (bX (sOp gLe [.bor 2,.ex (sC (.int 40))]) (sOp gLe [.bor 3,.ex (sC (.int 60))]))))))
noncomputable def aa:FS:=aF 1 4 none ah
abbrev fk:=OkY "_law_due_kind" ["thing"] 2 none aa
theorem iZ(h:Has K mg "_law_due_kind" (top 49) ["thing"])(T:Txt K mg)(G20:iO P w K mg base)(G19:iP P w K mg base):fk P w K mg base:=by
 trace "ȟǌєǛ&ħĹђēЖǿvwуv#EҍǖђħЖǛvēǓv#FǊw*ĒЖǜYȠȀǐćfяDŘTMĺиw:ȡǻǢǣ,Ǥ,ǥ,ǯ,Ȣ,ǊfĻRRПǖҎ#>R#ǺYȁv#E(w*ĒЖǜYȣȀǐćǝsяDŘTMĺ&&(w:ƮƯTǦѹѹĪVDĬsMĬs"
noncomputable def jq:SS:=(aM (aj none none aP [.bor 0,.ex (sC (.int 1)),.ex (sC (.int 40))]))
noncomputable def dY:FS:=aF 1 1 none jq
abbrev jF:=OkY "many_good" ["thing"] 3 none dY
theorem n5(h:Has K mg "many_good" (top 17) ["thing"])(T:Txt K mg)(G28:bU P w K mg base):jF P w K mg base:=by
 trace "ǠЍřҊYǩ("
noncomputable def kA:SS:=(aM (aj none none aP [.bor 1,.ex (sC (.int 0)),.ex (sOp cD [.bor 0,.ex (sC (.int 1))])]))
noncomputable def eZ:FS:=aF 2 2 none kA
abbrev lZ:=OkY "is_place" ["many", "thing"] 3 none eZ
theorem pU(h:Has K mg "is_place" (top 19) ["many", "thing"])(T:Txt K mg)(G28:bU P w K mg base):lZ P w K mg base:=by
 trace "ȂЍřҊY4и"
noncomputable def ck:SS:=(aw (bi (sOr (cR (cQ (.ex (sOp (bR "tuple") [.bor 0])))) (bd gEq [.ex (sOp br [.bor 0]),.ex (sC (.int 0))])) (aM (sC (.bl false))) bx) (aM (sOp hX [.ex (ce 1 (dg (bt 0)) (.nm 1) none (aj none none aP [.bor 1,.ex (sC (.int 0)),.ex (sC (.int 40))]))])))
noncomputable def aZ:FS:=aF 1 1 none ck
abbrev jG:=OkY "legs_good" ["thing"] 3 none aZ
theorem n8(h:Has K mg "legs_good" (top 26) ["thing"])(T:Txt K mg)(G28:bU P w K mg base):jG P w K mg base:=by
 trace "ǠǌєǛѺǓђwVǜYȤȥǐć3яŚҊYǩ(("
noncomputable def bF:SS:=(aw (bi (bd gNe [.ex (sOp br [.bor 1]),.ex (sOp br [.bor 0])]) (aM (sC (.bl false))) bx) (aM (sOp hX [.ex (ce 2 (jM [(bt 0),(bt 1)]) (.tp [(.nm 2),(.nm 3)]) none (aj none none aP [.bor 3,.bor 2,.ex (sC (.int 40))]))])))
noncomputable def aG:FS:=aF 2 2 none bF
abbrev fW:=OkY "numbers_good" ["leasts", "things"] 3 none aG
theorem jP(h:Has K mg "numbers_good" (top 27) ["leasts", "things"])(T:Txt K mg)(G28:bU P w K mg base):fW P w K mg base:=by
 trace "ȦǌПǖҎҎwVǜYȧȨǐȩџЩǔǦĽǬĽǬĪұŚЅШǩ(("
noncomputable def im:SS:=(aM (sOp aY [.ex (aj none none dO [.bor 0]),.ex (bP [(aW [(sC (.int 1)),(bt 0)])])]))
noncomputable def dv:FS:=aF 1 1 none im
abbrev iK:=OkY "wheel_ties" ["n"] 3 none dv
theorem mh(h:Has K mg "wheel_ties" (top 37) ["n"])(T:Txt K mg)(G3:ic P w K mg base):iK P w K mg base:=by
 trace "ǮЍjśTЛѓiЩǊ"
noncomputable def bG:SS:=(bc 3 (sOp eK [.bor 3,.ex (sC (.int 1))]))
noncomputable def cx:SS:=(aw (cz 100 (bd gGt [.ex (sOp aY [.ex (sOp br [.bor 3]),.ex (sOp gF [.bor 3])]),.ex (sC (.int 40))]) bG) (aM (aW [(sC (.str "spine")),(sOp lA [.bor 3])])))
noncomputable def cy:SS:=(aw (bc 3 (ce 1 (dh (.ex (sOp aY [.ex (sC (.int 1)),.ex (aj (some 0) (some 0) av [.bor 0,.ex (sC (.int 12))])]))) (.nm 9) none (sOp gIx [.ex (bP [(sC (.int 0)),(sC (.int 0)),(sC (.int 1)),(sC (.int 2)),(sC (.int 0)),(sC (.int 3))]),.ex (aj (some 0) (some 0) av [.bor 0,.ex (sC (.int 6))])]))) (aw (bi (bd gEq [.ex (aj (some 0) (some 0) av [.bor 0,.ex (sC (.int 6))]),.ex (sC (.int 0))]) (bc 3 (sOp gIx [.ex (bP [(sOp lC [.ex (bP [(sC (.int 0))]),.ex (sC (.int 40))]),(bP [(sC (.int 39))]),(sOp aY [.ex (sOp lC [.ex (bP [(sC (.int 0))]),.ex (sC (.int 20))]),.ex (bP [(sC (.int 19))])]),(sOp lC [.ex (bP [(sC (.int 1))]),.ex (sC (.int 20))]),(bP [(sC (.int 9)),(sC (.int 9)),(sC (.int 9)),(sC (.int 9))]),(bP [(sC (.int 0))])]),.ex (aj (some 0) (some 0) av [.bor 0,.ex (sC (.int 6))])])) bx) cx))
noncomputable def aE:SS:=(aw (bc 2 (sOp gIx [.ex (bP [(sC (.str "spine")),(sC (.str "ring")),(sC (.str "sides")),(sC (.str "full")),(sC (.str "wheel")),(sC (.str "fan"))]),.ex (aj (some 0) (some 0) av [.bor 0,.bor 1])])) (aw (bi (bd gEq [.bor 2,.ex (sC (.str "spine"))]) cy bx) (aw (bi (bd gEq [.bor 2,.ex (sC (.str "sides"))]) (aw (bc 4 (sOp aY [.ex (sC (.int 1)),.ex (aj (some 0) (some 0) av [.bor 0,.ex (sC (.int 8))])])) (aw (bc 5 (sOp aY [.ex (sC (.int 1)),.ex (aj (some 0) (some 0) av [.bor 0,.ex (sOp lD [.ex (sOp cD [.ex (sC (.int 40)),.bor 4]),.ex (sOp gK [.ex (sC (.int 60)),.bor 4])])])])) (aM (sOp gIx [.ex (bP [(aW [(sC (.str "sides")),(bt 4),(bt 5)]),(aW [(sC (.str "sides")),(bt 5),(bt 4)])]),.ex (aj (some 0) (some 0) av [.bor 0,.ex (sC (.int 2))])])))) bx) (aw (bc 6 (sOp qd [.ex (iu [.inr "ring",.inr "full",.inr "wheel",.inr "fan"] [(sC (.int 3)),(sC (.int 1)),(sC (.int 3)),(sC (.int 1))]),.bor 2])) (aw (bc 7 (sOp qd [.ex (iu [.inr "ring",.inr "full",.inr "wheel",.inr "fan"] [(sC (.int 40)),(sC (.int 11)),(sC (.int 30)),(sC (.int 30))]),.bor 2])) (aw (bc 8 (sOp aY [.bor 6,.ex (aj (some 0) (some 0) av [.bor 0,.ex (sC (.int 9))])])) (aw (bi (bd gEq [.ex (aj (some 0) (some 0) av [.bor 0,.ex (sC (.int 4))]),.ex (sC (.int 0))]) (bc 8 (sOp cD [.bor 7,.ex (aj (some 0) (some 0) av [.bor 0,.ex (sC (.int 3))])])) bx) (aM (aW [(bt 2),(bt 8)])))))))))
noncomputable def ay:FS:=aF 2 9 (some 0) aE
abbrev fY:=OkY "_law_kind_by" ["pen", "most"] 3 (some 0) ay
theorem jQ(h:Has K mg "_law_kind_by" (top 46) ["pen", "most"])(T:Txt K mg)(G8:fZ P w K mg base):fY P w K mg base:=by
 trace "ȪЎ=ЛѕѕѕѕѕѕѻĖЅTҝ:ȫȬǐǨY>R#Џ(я=ЛЪЪi|#ưҌу#ЏR*Ǚ=ЛǉĕЛ|Rǉ-АjĕЛ|RЛАĕЛ|Rǉ-ЪiА-|ѻЏ.:ƱƲ#jѝ#ǡTR*ǙǝsVОEǉȃTǊ.ҝb>R#Џb>R#ĖШȄY4R&YĩR&((V=ЛфџЩфџЩѻЏ.bȅ#Ǣǣ,Ǥ,ǥ,ǯ,Ǌ&bȅ#Ǣǣ,Ǥ,ǥ,ǯ,Ǌ&bёЏу#ЏR*Ǚ4nЏ.VѐЩ"
noncomputable def fc:SS:=(aw (bc 2 (bP [(sC (.int 0)),(sOp xk [.ex (sC (.int 1))]),(sC (.int 1)),(sC (.int 2)),(sC (.int 3)),(sC (.int 11)),(sC (.int 12)),(sC (.int 30)),(sC (.int 31)),(sC (.int 39)),(sC (.int 40)),(sC (.int 41)),(sC (.int 60)),(sC (.bl true)),(sC .non),(sC (.str "3")),(aW [(sC (.int 3))]),(bP [(sC (.int 3))]),(sOp my [.ex (sC (.int 10)),.ex (sC (.int 40))])])) (aw (bc 3 (sOp gIx [.bor 2,.ex (aj (some 0) (some 1) av [.bor 1,.ex (sC (.int 19))])])) (aw (bc 4 (aj (some 0) (some 1) av [.bor 1,.ex (sOp br [.bor 0])])) (aw (bc 5 (bP [(sOp aY [.ex (sOp aY [.ex (sOp uG [.bor 0,.bor 4]),.ex (aW [(bt 3)])]),.ex (sOp eK [.bor 0,.ex (sOp aY [.bor 4,.ex (sC (.int 1))])])]),(aW [(sOp gIx [.bor 0,.ex (sC (.int 0))]),(bt 3)])])) (aw (bc 5 (sOp aY [.bor 5,.ex (bP [(aW [(sOp gIx [.bor 0,.ex (sC (.int 0))]),(bt 3),(sOp gIx [.bor 2,.ex (aj (some 0) (some 1) av [.bor 1,.ex (sC (.int 19))])])]),(sOp lE [.bor 0])])])) (aw (bc 6 (bP [(sOp lB [.ex (aW [(sC (.int 0))]),.ex (sC (.int 41))]),(aW [(sC (.int 40))]),(bP [(sC (.int 0))]),(aW []),(aW [(sC (.int 0)),(sOp xk [.ex (sC (.int 1))])]),(aW [(sC (.bl true))]),(aW [(sC .non)]),(aW [(sC (.int 39))]),(sOp lB [.ex (aW [(sC (.int 0))]),.ex (sC (.int 40))]),(aW [(sC (.int 10)),(sC (.int 9)),(sC (.int 9)),(sC (.int 9))]),(sC (.int 3)),(aW [(aW [(sC (.int 0))])])])) (aw (bc 5 (sOp aY [.bor 5,.ex (bP [(aW [(sC (.str "spine")),(sOp gIx [.bor 6,.ex (aj (some 0) (some 1) av [.bor 1,.ex (sC (.int 12))])])]),(sOp aY [.bor 0,.ex (aW [(sC (.int 3))])]),(sOp uG [.bor 0,.ex (sC (.int 1))]),(sOp aY [.ex (aW [(sUp (sOp gIx [.bor 0,.ex (sC (.int 0))]))]),.ex (sOp eK [.bor 0,.ex (sC (.int 1))])]),(sC .non)])])) (aw (bc 5 (sOp aY [.bor 5,.ex (bP [(aW [(sC (.str "path")),(sC (.int 3))]),(aW [(sC (.str "sides")),(sC (.int 7)),(sC (.int 8))]),(aW [(sC (.str "sides")),(sC (.int 8)),(sC (.int 8))]),(aW [(sC (.str "sides")),(sC (.int 6)),(sC (.int 11))]),(sOp gIx [.bor 0,.ex (sC (.int 0))]),(pz (.dK [] [])),(aW [(bt 0),(bt 0)])])])) (aM (sOp gIx [.bor 5,.ex (aj (some 0) (some 1) av [.bor 1,.ex (sOp br [.bor 5])])]))))))))))
noncomputable def ci:FS:=aF 2 7 (some 1) fc
abbrev fj:=OkY "_law_odd_kind" ["kind", "pen"] 3 (some 1) ci
theorem iY(h:Has K mg "_law_odd_kind" (top 50) ["kind", "pen"])(T:Txt K mg)(G8:fZ P w K mg base):fj P w K mg base:=by
 trace "ȭЎ-iǉŜRЪЪЪЪЪiǉĆǉĈѕѓА-АĻRRѼ=nЏbĖШѝ(b-ǉjjȆ&nѐѻǝnѷсfЩѼё-сfџǉ=nЏǊǉȮTѼ-ǉŝ#F|RѓА-АFǊѓiǉŜRǊсĆǊсĈǊѓАŝ#F|RѓЪi|iсF|ǊѼё-фǉ=nЏǊǉёFАȆsǉjОƳfѻǝsǉĈѼё-фйiйiйiАfǉƴс3ЩǊV=nĖШѝ("
noncomputable def kw:SS:=(aw (bi (sOr (cR (cQ (.ex (sOp (bR "tuple") [.bor 1])))) (bd gNe [.ex (sOp br [.bor 1]),.ex (sC (.int 2))])) (aM (sC .non)) bx) (aw (bi (sOr (cR (cQ (.ex (sOp hX [.ex (ce 1 (dg (bt 1)) (.nm 2) none (aj none none eZ [.bor 0,.bor 2]))])))) (bd gEq [.ex (sOp gIx [.bor 1,.ex (sC (.int 0))]),.ex (sOp gIx [.bor 1,.ex (sC (.int 1))])])) (aM (sC .non)) bx) (aM (aW [(sOp lD [.bor 1]),(sOp jy [.bor 1])]))))
noncomputable def eY:FS:=aF 2 2 none kw
abbrev lX:=OkY "tie_told" ["many", "thing"] 4 none eY
theorem pQ(h:Has K mg "tie_told" (top 18) ["many", "thing"])(T:Txt K mg)(G4:lZ P w K mg base):lX P w K mg base:=by
 trace "ȂǌєǛѺǖђVĈ.єǜYȯȰǐć3яƵЅT(ēǓvvVĈ.VОȄTǉǹTǊ"
noncomputable def aC:SS:=(aw (bi (sOr (cR (cQ (.ex (sOp (bR "tuple") [.bor 0])))) (bd gLt [.ex (sOp br [.bor 0]),.ex (sC (.int 2))])) (aM (sC (.bl false))) bx) (aw (bc 1 (sOp gIx [.bor 0,.ex (sC (.int 0))])) (aw (bi (bd gEq [.bor 1,.ex (sC (.str "spine"))]) (aM (bX (sOp gEq [.ex (sOp br [.bor 0]),.ex (sC (.int 2))]) (aj none none aZ [.ex (sOp gIx [.bor 0,.ex (sC (.int 1))])]))) bx) (aw (bi (sOr (cR (cQ (.ex (sOp (bR "str") [.bor 1])))) (bd (qc ao aq true) [.bor 1])) (aM (sC (.bl false))) bx) (aM (aj none none aG [.ex (sOp (fQ ao aq) [.bor 1]),.ex (sOp eK [.bor 0,.ex (sC (.int 1))])]))))))
noncomputable def ag:FS:=aF 1 2 none aC
abbrev jI:=OkY "form_good" ["thing"] 4 none ag
theorem of(h:Has K mg "form_good" (top 25) ["thing"])(T:Txt K mg)(G13:jG P w K mg base)(G27:fW P w K mg base)(M_LEAST_NUMBERS:t3 w K mg "LEAST_NUMBERS" ao aq):jI P w K mg base:=by
 trace "ȱǌєǛѺĹђwbfзDȁђMƶюєǿѺȲ&wVƷYȳ&Yǝи"
noncomputable def bM:SS:=(aw (bc 1 (sOp gIx [.bor 0,.ex (sC (.int 0))])) (aw (bi (bd gEq [.bor 1,.ex (sC (.str "spine"))]) (aM (aj none none dw [.ex (sOp gIx [.bor 0,.ex (sC (.int 1))])])) bx) (aw (bi (bd gEq [.bor 1,.ex (sC (.str "ring"))]) (aM (aj none none dX [.ex (sOp gIx [.bor 0,.ex (sC (.int 1))])])) bx) (aw (bi (bd gEq [.bor 1,.ex (sC (.str "sides"))]) (aM (aj none none dy [.ex (sOp gIx [.bor 0,.ex (sC (.int 1))]),.ex (sOp gIx [.bor 0,.ex (sC (.int 2))])])) bx) (aw (bi (bd gEq [.bor 1,.ex (sC (.str "full"))]) (aM (aj none none dZ [.ex (sOp gIx [.bor 0,.ex (sC (.int 1))])])) bx) (aw (bi (bd gEq [.bor 1,.ex (sC (.str "wheel"))]) (aM (aj none none dv [.ex (sOp gIx [.bor 0,.ex (sC (.int 1))])])) bx) (aM (aj none none dO [.ex (sOp gIx [.bor 0,.ex (sC (.int 1))])]))))))))
noncomputable def aS:FS:=aF 1 2 none bM
abbrev jh:=OkY "ties_in" ["kind"] 4 none aS
theorem rf(h:Has K mg "ties_in" (top 29) ["kind"])(T:Txt K mg)(G22:iM P w K mg base)(G16:jE P w K mg base)(G21:iN P w K mg base)(G11:jH P w K mg base)(G23:iK P w K mg base)(G3:ic P w K mg base):jh P w K mg base:=by
 trace "ǷЎfзƸюзƹюзƺҩюзƻюзƼюVśЭ"
noncomputable def gX:SS:=(aw (bc 5 (aj none none eY [.bor 0,.bor 4])) (aw (bi (sOr (bd gIs [.bor 5,.ex (sC .non)]) (sOr (bd gIn [.bor 5,.bor 2]) (bd gGe [.bor 3,.ex (sC (.int 60))]))) (fun _=>none) bx) (dF o8 2 (sC (.bl true)) (bt 5))))
noncomputable def pw:SS:=(aw (bi (cR (cQ (.ex (aj none none dY [.bor 0])))) (fun _=>none) bx) (aw (bc 2 (pz (.dT [] []))) (aw (fD (eE (bt 1)) (.tp [(.nm 3),(.nm 4)]) gX) (aM (aW [(bt 0),(sOp lA [.ex (sOp jd [.bor 2])])])))))
noncomputable def iJ:FS:=aF 2 6 none pw
abbrev qB:=OkY "web_of" ["many", "things"] 5 none iJ
theorem ur(h:Has K mg "web_of" (top 20) ["many", "things"])(T:Txt K mg)(G14:jF P w K mg base)(G7:lX P w K mg base):qB P w K mg base:=by
 trace "ȴǌПЖƽT*Ş.bƾѸǽ3ǦѹѹĪbƿЅTҍǀnĈħȵ&Ѻǁnȇ*Ş.*ȶĆ3ǑVѐǉȃYȷT(Ǌ"
noncomputable def cm:SS:=(aM (bX (aj none none ag [.bor 0]) (bX (sOp gLe [.ex (aj none none ax [.bor 0]),.ex (sC (.int 40))]) (sOp gLe [.ex (sOp br [.ex (aj none none aS [.bor 0])]),.ex (sC (.int 60))]))))
noncomputable def aT:FS:=aF 1 1 none cm
abbrev fX:=OkY "kind_good" ["thing"] 5 none aT
theorem n9(h:Has K mg "kind_good" (top 23) ["thing"])(T:Txt K mg)(G10:jI P w K mg base)(G15:fV P w K mg base)(G1:jh P w K mg base):fX P w K mg base:=by
 trace "ǠЍDǂTDĬ#şT#ǩMĬ#ǚYŠT(#ȇ"
noncomputable def iU:SS:=(aw (bi (cR (cQ (.ex (aj none none aT [.bor 0])))) (nO "NoKind") bx) (aM (aj none none iJ [.ex (aj none none ax [.bor 0]),.ex (aj none none aS [.bor 0])])))
noncomputable def cJ:FS:=aF 1 1 none iU
abbrev nA:=OkY "web_for" ["kind"] 6 none cJ
theorem re(h:Has K mg "web_for" (top 24) ["kind"])(T:Txt K mg)(G12:fX P w K mg base)(G0:qB P w K mg base)(G15:fV P w K mg base)(G1:jh P w K mg base)(R_NoKind:oX K mg base "NoKind"):nA P w K mg base:=by
 trace "ȸǌПЖšT*ȹ.VǃYşTYŠT("
noncomputable def eP:SS:=(aw (bc 1 (aj none none aa [.bor 0])) (aw (bc 2 (aj none none aT [.bor 0])) (aw (bi (sOr (cR (cQ (.ex (sOp (bR "bool") [.bor 2])))) (bd gNe [.bor 2,.bor 1])) (aM (sC (.bl false))) bx) (aw (bc 3 (sC (.bl false))) (aw (qO nms 4 (di (aj none none cJ [.bor 0])) (aw (bi (bd gNe [.ex (Kd.px nms 4),.ex (sC (.str "kind"))]) (aM (sC (.bl false))) bx) (bc 3 (sC (.bl true))))) (aM (sOp gNe [.bor 3,.bor 1])))))))
noncomputable def bA:FS:=aF 1 5 none eP
abbrev iQ:=OkY "_law_right" ["thing"] 7 none bA
theorem mq(h:Has K mg "_law_right" (top 51) ["thing"])(T:Txt K mg)(G29:fk P w K mg base)(G12:fX P w K mg base)(G2:nA P w K mg base){TEa:Addr}(HT:Hdl K mg "TieError" TEa)(SU:∀ nm,nms.elem nm=true->∀ C,fS K nm C->PySem.W.subIn K (.ref C) (.ref TEa)=some true)(GK:OkA P w K mg base "_law_kind_of" ["e"] 1 (Kd.qM K mg))(KN:Kd.xV K mg nms):iQ P w K mg base:=by
 trace "ȺЎǄTbšTєǫѺǖ&&wbĆ:Ȼǔ*īȼTǔПǖ#Ƚ#Ew*ǙĆVȾ&&"
noncomputable def jY:SS:=(bi (cR (cQ (.ex (aj none none bA [.bor 2])))) (aM (sC (.bl false))) bx)
noncomputable def ir:SS:=(bi (cR (cQ (.ex (aj none none bA [.ex (aj (some 1) (some 4) ci [.bor 5,.bor 4])])))) (aM (sC (.bl false))) bx)
noncomputable def jX:SS:=(aw (bc 4 (aj none none bO [.bor 3])) (aw (bc 5 (aj (some 0) (some 4) ay [.bor 4,.ex (sC (.int 6))])) (aw (bi (cR (cQ (.ex (aj none none bA [.bor 5])))) (aM (sC (.bl false))) bx) (fD (dh (.ex (sC (.int 4)))) (.nm 6) ir))))
noncomputable def Ay:SS:=(aw (bc 1 (bP [(aW [(sC (.str "full")),(sC (.int 12))]),(aW [(sC (.str "wheel")),(sC (.int 31))]),(aW [(sC (.str "fan")),(sC (.int 31))]),(aW [(sC (.str "ring")),(sC (.int 41))]),(aW [(sC (.str "sides")),(sC (.int 1)),(sC (.int 40))])])) (aw (bc 1 (sOp aY [.bor 1,.ex (bP [(aW [(sC (.str "sides")),(sC (.int 5)),(sC (.int 12))]),(aW [(sC (.str "ring")),(sC (.int 2))]),(aW [])])])) (aw (fD (dg (bt 1)) (.nm 2) jY) (aw (fD (dg (sOp aY [.ex (bP [(aj none none bv [.bor 0,.ex (sC (.int 0))])]),.ex (sOp (zS 1 6) [.bor 0])])) (.nm 3) jX) (aM (sC (.bl true)))))))
noncomputable def qf:FS:=aF 1 7 none Ay
theorem ok_law{f0:Addr}{fd0:FuncData}(h:Fun K "law" "law" (top 52) f0 fd0)(T:Txt K mg)(G18:iQ P w K mg base)(G25:gb P w K mg base)(G24:gN P w K mg base)(G26:fY P w K mg base)(G30:fj P w K mg base):l9 P w K mg base (CXr P w) 8 f0 fd0 ["script"] (spF K none qf):=by
 trace "ȿЎ-фййййi|Ѽё-фiйАFǊǊѸć3Ǖ*ĒЖĿTwѸćj-ǉǅҌѻɀ&ǕbǆTbǇҌПЖĿTw*ǼǨр(Ǖ*ĒЖĿYǈЅT(wҪ"
end
end K07
namespace K07
open PySem L2
theorem sE{i:Int}:bS [.int i]=some (.ok (.bl true) false,.non):=by
 unfold bS eO
 trace "dGЮ!ėЮQ"
theorem eA{i lo hi:Int}:aP [.int i,.int lo,.int hi]=some (.ok (.bl (decide (lo<=i)&&decide (i<=hi))) false,.non):=by
 have h := @sE;unfold aP dB
 trace "d}7WŤ0ғ0ғP;Ѥ"
theorem t_many{n:Int}:dY [.int n]=some (.ok (.bl (decide (1<=n)&&decide (n<=40))) false,.non):=by
 have h := @eA;unfold dY jq
 trace "dБkU7a"
theorem ye{n i:Int}:eZ [.int n,.int i]=some (.ok (.bl (decide (0<=i)&&decide (i<=n - 1))) false,.non):=by
 have h := @eA;unfold eZ kA
 trace "dБkцP7a"
theorem t_told{n a b:Int}(h0:0<=a)(h1:a < b)(h2:b < n):eY [.int n,.tup [.int a,.int b]]=some (.ok (.tup [.int a,.int b]) false,.non):=by
 have h := @ye
 have mn:lD [.tup [.int a,.int b]]=some (.int a,false):=by
  show some (D.int (if a<=b then a else b),false)=_
  rw [if_pos (by omega)]
 have mx:jy [.tup [.int a,.int b]]=some (.int b,false):=by
  show some (D.int (if b<=a then a else b),false)=_
  rw [if_neg (by omega)]
 have al:hX [.lst [.bl (decide (0<=a)&&decide (a<=n - 1)),.bl (decide (0<=b)&&decide (b<=n - 1))]]=some (.bl true,false):=by
  rw [Bl h0,Bl (show a<=n - 1 by omega),Bl (show 0<=b by omega),Bl (show b<=n - 1 by omega)];rfl
 unfold eY kw
 trace "ДҮ]љҫ;Qѣ^7!ǎѣ^7!ҁĮҲeǲҏќzPŪzPū%Q"
def kT(t:Int×Int):List Key:=[.inl t.1,.inl t.2]
theorem rA{a b:Int×Int}(h:kT a=kT b):a=b:=by
 unfold kT at h;simp at h;exact Prod.ext h.1 h.2
theorem uA{ts:List (Int×Int)}{t:Int×Int}(h:t∉ts):∀ vs:List D,ba (ts.map kT) vs (kT t)=none:=by
 induction ts with
 | nil=>intro vs;cases vs<;>rfl
 | cons u ts ih =>
  intro vs
  cases vs with
  | nil=>rfl
  | cons v vs =>
   rw [Bu];unfold ba;rw [if_neg (fun e=>h (by rw [rA e];exact Bn))];exact ih (fun z=>h (Bi _ z)) vs
theorem yN{ts:List (Int×Int)}{t:Int×Int}(h:t∉ts):iX (ts.map kT) (List.replicate ts.length (.bl true)) (kT t) (.bl true)=((ts++[t]).map kT,List.replicate (ts++[t]).length (.bl true)):=by
 induction ts with
 | nil=>rfl
 | cons u ts ih =>
  rw [Bu,Bj,B7];unfold iX;rw [if_neg (fun e=>h (by rw [rA e];exact Bn)),ih fun z=>h (Bi _ z)];rfl
theorem wY{ts:List (Int×Int)}(h:ts.Nodup):(ts.map kT).Nodup:=by
 induction ts with
 | nil=>exact Dw
 | cons u ts ih =>
  have h:=B2.mp h;rw [Bu];refine B2.mpr ⟨fun z=> ?_,ih h.2⟩;obtain ⟨v,hv,e⟩:=CA.mp z;exact h.1 (by rw [<- rA e];exact hv)
theorem wV(ts:List (Int×Int)):mS (ts.map kT)=some (ts.map fun t=>[t.1,t.2]):=by
 induction ts with
 | nil=>rfl
 | cons u ts ih =>
  rw [Bu];unfold mS;rw [ih];rfl
theorem ua{ts:List (Int×Int)}(h:ts.length < 64){vs:List D}:jd [.dT (ts.map kT) vs]=some (.lst (tD (dI ts)),true):=by
 unfold jd;simp only [wV,Be,h,decide_true,if_true];rw [<- qX,tD_tup]
theorem vy{n:Nat}{ts:List (Int×Int)}(O:df n ts):iJ [.int (n:Nat),.lst (tD ts)]=some (.ok (webD (n:Nat) (dI ts)) false,.non):=by
 have n0:=O.n0;have n1:=O.n;have ll:=O.l;have tm := @t_many;have tt := @t_told;have sr:=ua (ts:=ts) (by omega) (vs:=List.replicate ts.length (.bl true))
 obtain ⟨ρ',e,a,b,c,rfl⟩:=jt (T:= .tp [.nm 3,.nm 4]) (f:=gX) (inj:=fun p:(Int×Int)×Nat=> .tup [.int (p.2:Nat),yd p.1]) (fun i (_:Unit) ρ=>∃ a b c,ρ=[some (.int (n:Nat),.fz),some (.lst (tD ts),.fz),some (.dT ((ts.take i).map kT) (List.replicate (ts.take i).length (.bl true)),.ow),a,b,c]) (fun _ _=>()) ts.zipIdx 0 () [some (.int (n:Nat),.fz),some (.lst (tD ts),.fz),some (.dT [] [],.ow),none,none,none] ⟨none,none,none,rfl⟩ (by
  rintro i ⟨t,j⟩ hx _ ρ ⟨a,b,c,rfl⟩;rw [List.getElem?_zipIdx] at hx;obtain ⟨t',ht,e⟩:=BM.mp hx;cases e;rw [BW] at *;have hi:=(Bs.mp ht).1;have hr:=O.r t (Bv ht)
  have tk:ts.take (i+1)=ts.take i++[t]:=by rw [List.take_add_one,ht];rfl
  have nd:(ts.take i++[t]).Nodup:=by rw [<- tk];exact O.d.sublist (List.take_sublist _ _)
  have ni:t∉ts.take i:=fun z=>by
   rw [List.nodup_append] at nd;exact nd.2.2 t z t (Bw.mpr rfl) rfl
  have gi:gIn [.tup [.int t.1,.int t.2],.dT ((ts.take i).map kT) (List.replicate (ts.take i).length (.bl true))]=some (.bl false,false):=by
   show (match (some (ba ((ts.take i).map kT) (List.replicate (ts.take i).length (.bl true)) (kT t)).isSome) with | some b=>some (D.bl b,false) | none=>none)=_
   rw [uA ni];rfl
  have up:o8 (.dT ((ts.take i).map kT) (List.replicate (ts.take i).length (.bl true))) (.tup [.int t.1,.int t.2]) (.bl true)=some (.dT ((ts.take i++[t]).map kT) (List.replicate (ts.take i++[t]).length (.bl true))):=by
   show (if (small ((ts.take i).map kT).length&&decide ((ts.take i).map kT).Nodup)=true then some (D.dT (iX ((ts.take i).map kT) (List.replicate (ts.take i).length (.bl true)) (kT t) (.bl true)).1 (iX ((ts.take i).map kT) (List.replicate (ts.take i).length (.bl true)) (kT t) (.bl true)).2) else none)=_
   rw [yN ni,if_pos];rw [kr (by rw [Be,CI];omega),Bl (wY (O.d.sublist (List.take_sublist _ _)))];rfl
  unfold gX
  trace "ѥhБ^ŭlǒМФР?{^ŀ!ѽҏŮN!;Wůǋ"
  rw [tk]
  exact ⟨_,_,_,rfl⟩)
 rw [List.length_zipIdx,BW,List.take_length] at e;unfold iJ pw
 trace "ЯxчŰ!Pȉ8hŁ~Āł;WAќј'+`űP%Q"
end K07
namespace K07
open PySem L2
abbrev spK(legs:List Nat):D:= .tup [.str "spine",.tup (nD (iL legs))]
abbrev iw(n:Int):D:= .tup [.str "ring",.int n]
abbrev fB(m n:Int):D:= .tup [.str "sides",.int m,.int n]
theorem vz{a b:Int}(h0:0<=a)(h1:a<=1000)(h2:0<=b)(h3:b<=1000):cK [.int a,.int b]=some (.ok (.lst (tD (fE a (b - a).toNat))) true,.non):=by
 unfold cK kx
 trace "dOŃЂ^llǒ!ńǗǳĊǍ@јzq%Ѥ"
theorem nB{m a b:Int}(h0:0<=a)(h1:a<=1000)(h2 : -1<=b)(h3:b<=1000):bq [.int m,.int a,.int b]=some (.ok (.lst (tD ((rgI a (b+1 - a).toNat).map fun x=>(m,x)))) true,.non):=by
 unfold bq jo
 trace "dOŃЂцPllǒ!ńǗǳĊǍ@ТѤ"
abbrev enD(p:Nat×Nat):D:= .tup [.int (p.2:Nat),.int (p.1:Nat)]
theorem en_iL(legs:List Nat):(iL legs).zipIdx.map (fun p:Int×Nat=>D.tup [.int (p.2:Nat),.int p.1])=legs.zipIdx.map enD:=by
 have:∀ (legs:List Nat) (k:Nat),((iL legs).zipIdx k).map (fun p:Int×Nat=>D.tup [.int (p.2:Nat),.int p.1])=(legs.zipIdx k).map enD:=by
  intro legs
  induction legs with
  | nil=>intro k;rfl
  | cons l r ih=>intro k;show _::_=_::_;rw [<- ih (k+1)]
 exact this legs 0
theorem mJ{L:Option (D×Md)}:∀ (r:List Nat) (k:Nat) (fr:Nat) (ts:List (Int×Int)) (a c:Option (D×Md)),ts.length+r.sum<=1000->fr+r.sum<=1000 ->
 ∃ a' c':Option (D×Md),bW (.tp [.nm 3,.nm 4]) cw ((r.zipIdx k).map enD) [L,some (.lst (tD ts),.ow),some (.int (fr:Nat),.fz),a,c]=some (.nx,[L,some (.lst (tD (ts++stT (k:Nat) (fr:Nat) r)),.ow),some (.int ((fr+r.sum:Nat):Int),.fz),a',c'])
 | [],k,fr,ts,a,c,h,h2=>⟨a,c,by simp [stT];rfl⟩
 | l::r,k,fr,ts,a,c,h,h2=>by
  rw [Di] at h h2;obtain ⟨a',c',e2⟩:=mJ r (k+1) (fr+l) (ts++(rgI (fr:Nat) l).map fun x=>((k:Int),x)) (some (.int (k:Nat),.fz)) (some (.int (l:Nat),.fz)) (by simp [be];omega) (by omega);refine ⟨a',c',?_⟩
  have eT:ts++(rgI (fr:Nat) l).map (fun x=>((k:Int),x))++stT ((k+1:Nat):Int) ((fr+l:Nat):Int) r=ts++stT (k:Nat) (fr:Nat) (l::r):=by
   rw [C6];rfl
  rw [eT,show fr+l+r.sum=fr+(l::r).sum by rw [Di];omega] at e2
  have st:bq [.int (k:Nat),.int (fr:Nat),.int ((fr:Int)+(l:Nat) - 1)]=some (.ok (.lst (tD ((rgI (fr:Nat) l).map fun x=>((k:Int),x)))) true,.non):=by
   rw [nB (by omega) (by omega) (by omega) (by omega),show ((fr:Int)+(l:Nat) - 1+1 - (fr:Nat)).toNat=l by omega]
  have ex:cM (.lst (tD ts)) [.lst (tD ((rgI (fr:Nat) l).map fun x=>((k:Int),x)))]=some (.lst (tD (ts++(rgI (fr:Nat) l).map fun x=>((k:Int),x))),.non):=kj (by rw [Be,be];omega)
  have e0:cw [L,some (.lst (tD ts),.ow),some (.int (fr:Nat),.fz),some (.int (k:Nat),.fz),some (.int (l:Nat),.fz)]=some (.nx,[L,some (.lst (tD (ts++(rgI (fr:Nat) l).map fun x=>((k:Int),x))),.ow),some (.int ((fr:Int)+(l:Nat)),.fz),some (.int (k:Nat),.fz),some (.int (l:Nat),.fz)]):=by
   unfold cw
   trace "ăHęį!'БЂГЃ^!USĚ!%!İǋŲ!;М!"
  rw [List.zipIdx_cons,Bu];rw [show ((fr+l:Nat):Int)=(fr:Int)+(l:Nat) by omega] at e2
  trace "ăųǍŴŅ!"
theorem nE{legs:List Nat}(h0:legs≠[])(hb:legs.length+legs.sum<=900):dw [.tup (nD (iL legs))]=some (.ok (.lst (tD (spT legs))) true,.non):=by
 have hl:=BP.mpr h0;have r:=vz (a:=0) (b:=(legs.length:Int) - 1) (by omega) (by omega) (by omega) (by omega);rw [show ((legs.length:Int) - 1 - 0).toNat=legs.length - 1 by omega] at r;obtain ⟨a',c',e⟩:=mJ (L:=some (.tup (nD (iL legs)),.fz)) legs 0 legs.length (fE 0 (legs.length - 1)) none none (by unfold fE;rw [Be,be];omega) (by omega)
 have ln:br [.tup (nD (iL legs))]=some (.int (legs.length:Nat),false):=by rw [gy,Be]
 rw [<- en_iL] at e;unfold dw ip
 trace "ш5kГ`āU$ĄМІPā~Āł;WAıXQ"
theorem ph{n:Nat}(h0:1<=n)(h1:n<=900):dX [.int (n:Nat)]=some (.ok (.lst (tD (mM n))) true,.non):=by
 have r:=vz (a:=0) (b:=(n:Int) - 1) (by omega) (by omega) (by omega) (by omega);rw [show ((n:Int) - 1 - 0).toNat=n - 1 by omega] at r
 have l:(fE 0 (n - 1)).length=n - 1:=by unfold fE;rw [Be,be]
 unfold dX jp
 trace "dr5kц$Ą!Ѧ҂zq%ѧņǒQ"
theorem nF{m n:Nat}(h1:m<=40)(h2:n<=40)(h3:m * n<=900):dy [.int (m:Nat),.int (n:Nat)]=some (.ok (.lst (tD (fA m n))) true,.non):=by
 have fl:∀ i:Nat,((rgI 0 i).flatMap fun p=>(rgI (m:Nat) n).map fun x=>(p,x)).length=i * n:=by
  intro i
  induction i with
  | zero=>simp [rgI]
  | succ i ih=>rw [cA,CS,Bz,ih];simp [be,Nat.add_mul]
 obtain ⟨ρ',e,a,rfl⟩:=kC (T:= .nm 3) (f:=dC) (fun i ρ=>∃ a,ρ=[some (.int (m:Nat),.fz),some (.int (n:Nat),.fz),some (.lst (tD ((rgI 0 i).flatMap fun p=>(rgI (m:Nat) n).map fun x=>(p,x))),.ow),a]) m [some (.int (m:Nat),.fz),some (.int (n:Nat),.fz),some (.lst [],.ow),none] ⟨none,by simp [rgI]⟩ (by
  rintro i hi ρ ⟨a,rfl⟩
  have st:bq [.int (i:Nat),.int (m:Nat),.int ((m:Int)+(n:Nat) - 1)]=some (.ok (.lst (tD ((rgI (m:Nat) n).map fun x=>((i:Int),x)))) true,.non):=by
   rw [nB (by omega) (by omega) (by omega) (by omega),show ((m:Int)+(n:Nat) - 1+1 - (m:Nat)).toNat=n by omega]
  have lb:i * n<=900:=Nat.le_trans (Nat.mul_le_mul_right n (by omega)) h3;have ex:cM (.lst (tD ((rgI 0 i).flatMap fun p=>(rgI (m:Nat) n).map fun x=>(p,x)))) [.lst (tD ((rgI (m:Nat) n).map fun x=>((i:Int),x)))]=some (.lst (tD (((rgI 0 i).flatMap fun p=>(rgI (m:Nat) n).map fun x=>(p,x))++(rgI (m:Nat) n).map fun x=>((i:Int),x))),.non):=kj (by rw [fl,Be,be];omega);unfold dC
  trace "ѥęį!'БЂГЃ^!USĚ!%!İǋ"
  rw [cA,CS,Int.zero_add,List.flatMap_cons,List.flatMap_nil,BZ]
  exact ⟨_,rfl⟩)
 have hm:m<=1000000:=by omega
 unfold dy iq
 trace "ш/%~ĀŇЊŵAıXQ"
end K07
namespace K07
open PySem L2
theorem t_legs{legs:List Nat}(h0:legs≠[])(hb:∀ l∈legs,l<=40):aZ [.tup (nD (iL legs))]=some (.ok (.bl true) false,.non):=by
 have h := @eA;have hl:=BP.mpr h0
 have ln:br [.tup (nD (iL legs))]=some (.int (legs.length:Nat),false):=by rw [gy,Be]
 have al:((iL legs).map fun x=>decide (0<=x)&&decide (x<=40)).all id=true:=by
  rw [List.all_map,List.all_map,Bx];intro x hx;have:=hb x hx
  show (decide (0<=(x:Int))&&decide ((x:Int)<=40))=true
  rw [Bl (by omega),Bl (by omega)];rfl
 unfold aZ ck
 trace "ДѾāЈҏЀҋ;QĲǗĊǍБkU7Q$ǪW"
 rw [al]
theorem vA{a n:Int}(h1:a<=n)(h2:n<=40):aG [.ktup [.int a],.tup [.int n]]=some (.ok (.bl true) false,.non):=by
 have h := @eA
 have al:hX [.lst [.bl (decide (a<=n)&&decide (n<=40))]]=some (.bl true,false):=by rw [Bl h1,Bl h2];rfl
 unfold aG bF
 trace "ЯНВ$щЀOěТ!ǘǴ!Ѩ7!ҁĮQ"
theorem t_num2{a b n m:Int}(h1:a<=n)(h2:n<=40)(h3:b<=m)(h4:m<=40):aG [.ktup [.int a,.int b],.tup [.int n,.int m]]=some (.ok (.bl true) false,.non):=by
 have h := @eA
 have al:hX [.lst [.bl (decide (a<=n)&&decide (n<=40)),.bl (decide (b<=m)&&decide (m<=40))]]=some (.bl true,false):=by rw [Bl h1,Bl h2,Bl h3,Bl h4];rfl
 unfold aG bF
 trace "ЯНВ$щЀOěТ!ǘǴ!Ѩ7!ǎѨ7!ҁĮQ"
theorem mG{legs:List Nat}(h0:legs≠[])(hb:∀ l∈legs,l<=40):ag [spK legs]=some (.ok (.bl true) false,.non):=by
 have h:=t_legs h0 hb;unfold ag aC
 trace "хtа+ВЈ!5eЋ"
theorem pi{n:Int}(h1:3<=n)(h2:n<=40):ag [iw n]=some (.ok (.bl true) false,.non):=by
 have h:=vA h1 h2;have g1:fQ ao aq [.str "ring"]=some (.ktup [.int 3],false):=rfl;have g2:eK [iw n,.int 1]=some (.tup [.int n],false):=rfl;unfold ag aC
 trace "ѩ1ЁѪЋ"
theorem nG{m n:Int}(h1:1<=m)(h2:m<=40)(h3:1<=n)(h4:n<=40):ag [fB m n]=some (.ok (.bl true) false,.non):=by
 have h:=t_num2 h1 h2 h3 h4;have g1:fQ ao aq [.str "sides"]=some (.ktup [.int 1,.int 1],false):=rfl;have g2:eK [fB m n,.int 1]=some (.tup [.int m,.int n],false):=rfl;unfold ag aC
 trace "ѩ1ЁѪЋ"
theorem jl{legs:List Nat}:ax [spK legs]=some (.ok (.int ((legs.length+legs.sum:Nat):Int)) false,.non):=by
 have ln:br [.tup (nD (iL legs))]=some (.int (legs.length:Nat),false):=by rw [gy,Be]
 have sm:gF [.tup (nD (iL legs))]=some (.int (legs.sum:Nat),false):=by rw [mY,nJ]
 unfold ax bn
 trace "ҀtЀ+eāГeĜSW"
theorem me{n:Int}:ax [iw n]=some (.ok (.int n) false,.non):=by
 unfold ax bn
 trace "uФР҅)бa"
theorem ft{m n:Int}:ax [fB m n]=some (.ok (.int (m+n)) false,.non):=by
 unfold ax bn
 trace "Ҁв)ѡїSW"
theorem t9{legs:List Nat}(h0:legs≠[])(hb:legs.length+legs.sum<=900):aS [spK legs]=some (.ok (.lst (tD (spT legs))) true,.non):=by
 have h:=nE h0 hb;unfold aS bM
 trace "ҀtҟЋ"
theorem pf{n:Nat}(h0:1<=n)(h1:n<=900):aS [iw (n:Nat)]=some (.ok (.lst (tD (mM n))) true,.non):=by
 have h:=ph h0 h1;unfold aS bM
 trace "ҀвҟЋ"
theorem ik{m n:Nat}(h1:m<=40)(h2:n<=40)(h3:m * n<=900):aS [fB (m:Nat) (n:Nat)]=some (.ok (.lst (tD (fA m n))) true,.non):=by
 have h:=nF h1 h2 h3;unfold aS bM
 trace "ut҉їeЋ"
structure e9(k:D)(n:Nat)(ts:List (Int×Int)):Prop where
 f:ag [k]=some (.ok (.bl true) false,.non)
 p:ax [k]=some (.ok (.int (n:Nat)) false,.non)
 t:aS [k]=some (.ok (.lst (tD ts)) true,.non)
 o:df n ts
theorem jm{k:D}{n:Nat}{ts:List (Int×Int)}(O:e9 k n ts):aT [k]=some (.ok (.bl true) false,.non):=by
 have h1:=O.f;have h2:=O.p;have h3:=O.t;have n1:=O.o.n;have l1:=O.o.l;unfold aT cm
 trace "d}ČWGѫč!UǞrѫň!$Ŷq!"
 rw [Bl (show (ts.length:Int)<=60 by omega)]
theorem t8{k:D}{n:Nat}{ts:List (Int×Int)}(O:e9 k n ts):cJ [k]=some (.ok (webD (n:Nat) (dI ts)) false,.non):=by
 have h1:=jm O;have h2:=O.p;have h3:=O.t;have h4:=vy O.o;unfold cJ iU
 trace "ЯxчČ!p҉чč!чň!$ŷa"
theorem ok_sp{legs:List Nat}(h0:legs≠[])(m:legs.length+legs.sum<=40):e9 (spK legs) (legs.length+legs.sum) (spT legs):=⟨mG h0 (rn (by omega)),jl,t9 h0 (by omega),sp_ok h0 m⟩
theorem zq{n:Nat}(h1:3<=n)(h2:n<=40)(o:df n (mM n)):e9 (iw (n:Nat)) n (mM n):=⟨pi (by omega) (by omega),me,pf (by omega) (by omega),o⟩
theorem wF{m n:Nat}(h1:1<=m)(h2:1<=n)(h3:m+n<=40)(o:df (m+n) (fA m n)):e9 (fB (m:Nat) (n:Nat)) (m+n) (fA m n):=⟨nG (by omega) (by omega) (by omega) (by omega),ft,ik (by omega) (by omega) (by have:=o.l;rw [ku] at this;omega),o⟩
end K07
namespace K07
open PySem L2
theorem cO{i:Int}:aD [.int i]=some (.ok (.bl true) false,.non):=by
 unfold aD dl
 trace "dGЮ!ėЮQ"
end K07
namespace K07
open PySem L2
section
variable{x0 x1 x2 x4 x5 x6 x7 x8:Option (D×Md)}
abbrev sWc:ST:=bd gGt [.ex (sOp aY [.ex (sOp br [.bor 3]),.ex (sOp gF [.bor 3])]),.ex (sC (.int 40))]
theorem Ar:∀ (legs:List Nat) (n:Nat) (md:Md),md ≠ .io->legs.length < n->∃ md',md' ≠ .io/\cz n sWc bG [x0,x1,x2,some (.lst (nD (iL legs)),md),x4,x5,x6,x7,x8]=some (.nx,[x0,x1,x2,some (.lst (nD (iL (ko legs))),md'),x4,x5,x6,x7,x8])
 | _,0,_,_,h=>absurd h (Nat.not_lt_zero _)
 | [],n+1,md,hm,_=>⟨md,hm,by
  have c:sWc [x0,x1,x2,some (.lst (nD (iL [])),md),x4,x5,x6,x7,x8]=some (.ok false,[x0,x1,x2,some (.lst (nD (iL [])),md),x4,x5,x6,x7,x8]):=rfl
  exact AB c rfl⟩
 | l::r,n+1,md,hm,h=>by
  have ln:br [.lst (nD (iL (l::r)))]=some (.int ((l::r).length:Nat),false):=by rw [je,Be]
  have sm:gF [.lst (nD (iL (l::r)))]=some (.int ((l::r).sum:Nat),false):=by rw [uF,nJ]
  have c:sWc [x0,x1,x2,some (.lst (nD (iL (l::r))),md),x4,x5,x6,x7,x8]=some (.ok (decide (40 < ((l::r).length:Int)+((l::r).sum:Nat))),[x0,x1,x2,some (.lst (nD (iL (l::r))),md),x4,x5,x6,x7,x8]):=by
   unfold sWc
   trace "ăĉГ`ā`ĜPq"
  by_cases hb:40 < (l::r).length+(l::r).sum
  ·have ct:=xG l r
   obtain ⟨md',h1,e⟩:=Ar r n .ow (by decide) (by rw [Bj] at h;omega);refine ⟨md',h1,?_⟩
   have e0:bG [x0,x1,x2,some (.lst (nD (iL (l::r))),md),x4,x5,x6,x7,x8]=some (.nx,[x0,x1,x2,some (.lst (nD (iL r)),.ow),x4,x5,x6,x7,x8]):=by
    unfold bG
    trace "ăĘcŸX!"
   rw [show ko (l::r)=ko r by rw [ko,if_pos hb]];exact r_whT c (Bl (by omega)) e0 e
  ·refine ⟨md,hm,?_⟩
   rw [show ko (l::r)=l::r by rw [ko,if_neg hb]];exact AB c (Br (by omega))
def IsSp(k:D):Prop:=∃ legs:List Nat,legs≠[]/\legs.length+legs.sum<=40/\k=spK legs
def SpQ(m:D)(d:D)(nw:Bool)(ρ:Rho):Prop:=IsSp d/\nw=false/\∃ (P:Pn) (y1 y2 y3 y4 y5 y6 y7 y8:Option (D×Md)),ρ=[some (pD P,.io),y1,y2,y3,y4,y5,y6,y7,y8]
theorem vE{P:Pn}{m:D}{legs:List Nat}(h0:legs≠[])(h1:legs.length<=40)(h2:∀ l∈legs,l<=39){md:Md}(hm:md ≠ .io):sf (cx [some (pD P,.io),x1,x2,some (.lst (nD (iL legs)),md),x4,x5,x6,x7,x8]) (SpQ m):=by
 obtain ⟨md',hm',e⟩:=Ar (x0:=some (pD P,.io)) (x1:=x1) (x2:=x2) (x4:=x4) (x5:=x5) (x6:=x6) (x7:=x7) (x8:=x8) legs 100 md hm (by omega);obtain ⟨t1,t2⟩:=sy h0 h2;unfold cx;have e':cz 100 (bd gGt [.ex (sOp aY [.ex (sOp br [.bor 3]),.ex (sOp gF [.bor 3])]),.ex (sC (.int 40))]) bG [some (pD P,.io),x1,x2,some (.lst (nD (iL legs)),md),x4,x5,x6,x7,x8]=_:=e
 trace "ĳŹ"
 trace "źќкzS%"
 exact ⟨⟨_,t1,t2,rfl⟩,rfl,P,_,_,_,_,_,_,_,_,rfl⟩
theorem sp_beg{P:Pn}{m:D}{md1 md2:Md}:sf (cy [some (pD P,.io),some (m,.fz),some (.str "spine",.fz),none,none,none,none,none,none]) (SpQ m):=by
 unfold cy;have d12:=cr P (m:=12) (by omega) (by omega);refine qS (fun ρ=>∃ P:Pn,ρ=[some (pD P,.io),some (m,.fz),some (.str "spine",.fz),none,none,none,none,none,none]) (fun y=>∃ n:Nat,n<=3/\y = .int (n:Nat)) (by trace "ŉѠпХl") rfl ⟨_,rfl⟩ ?_ ?_
 ·rintro d hd ρ ⟨P,rfl⟩
  have b:=cr P (m:=6) (by omega) (by omega);obtain ⟨n,hn,hx⟩:=pick6 b.1 b.2
  trace "żǍrҦѬŊ"
  ·exact ⟨n,hn,rfl⟩
  ·exact ⟨_,rfl⟩
 ·rintro ys ρ ⟨P,rfl⟩ hl hy
  obtain ⟨legs,rfl,hl2,hl3⟩:=tz ys hy;rw [Be,Be,Be,be] at hl;refine ⟨_,rfl,?_⟩
  by_cases h6:dr P 6=0
  ·have b:=cr (nx P 6) (m:=6) (by omega) (by omega)
   obtain ⟨legs',⟨L1,L2,L3⟩,hx⟩:=pickL b.1 b.2
   trace "ĳѭr/Зг_Ĵl'гЗrг_Ĵl0г$ŽǘЗг_Ĵl'/҇'г%ѬŊX"
   exact vE L1 L2 L3 (by decide)
  ·trace "ĳ2Ѯ"
   exact vE (List.ne_nil_of_length_pos (by omega)) (by omega) (fun l hl=>Nat.le_trans (hl3 l hl) (by omega)) (by decide)
end
end K07
namespace K07
open PySem L2
def xW(k:D):Prop:=∃ n:Nat,3<=n/\n<=40/\k=iw (n:Nat)
def oZ(k:D):Prop:=∃ m n:Nat,1<=m/\1<=n/\m+n<=40/\m * n<=60/\k=fB (m:Nat) (n:Nat)
theorem sL{i:Int}(h1:3<=i)(h2:i<=40):xW (iw i):=⟨i.toNat,by omega,by omega,by rw [show ((i.toNat:Nat):Int)=i by omega]⟩
theorem vH{a b:Int}(h1:1<=a)(h2:a<=8)(h3:1<=b)(h4:b<=min (40 - a) (60 / a)):oZ (fB a b)/\oZ (fB b a):=by
 have h5:a.toNat * b.toNat<=60/\a+b<=40:=by
  obtain rfl | rfl | rfl | rfl | rfl | rfl | rfl | rfl:a=1\/a=2\/a=3\/a=4\/a=5\/a=6\/a=7\/a=8:=by omega
  all_goals (simp at h4 ⊢;omega)
 refine ⟨⟨a.toNat,b.toNat,by omega,by omega,by omega,h5.1,?_⟩,⟨b.toNat,a.toNat,by omega,by omega,by omega,by rw [Nat.mul_comm];exact h5.1,?_⟩⟩
 ·rw [show ((a.toNat:Nat):Int)=a by omega,show ((b.toNat:Nat):Int)=b by omega]
 ·rw [show ((a.toNat:Nat):Int)=a by omega,show ((b.toNat:Nat):Int)=b by omega]
theorem bnd_of{a:Int}(h1:1<=a)(h2:a<=8):0 < min (40 - a) (60 / a)/\min (40 - a) (60 / a) < 1073741824:=by
 obtain rfl | rfl | rfl | rfl | rfl | rfl | rfl | rfl:a=1\/a=2\/a=3\/a=4\/a=5\/a=6\/a=7\/a=8:=by omega
 all_goals decide
end K07
namespace K07
open PySem L2
abbrev wK(w:Str)(n:Int):D:= .tup [.str w,.int n]
def tri:Nat->Nat
 | 0=>0
 | i+1=>tri i+(39 - i)
theorem tri_le:∀ i∈List.range 41,tri i<=780:=by decide
theorem jn{n:Nat}(h:n<=40):dZ [.int (n:Nat)]=some (.ok (.lst (tD (lH n))) true,.non):=by
 have fl:∀ i:Nat,i<=40->((rgI 0 i).flatMap fun p=>(rgI (p+1) ((n:Int) - 1+1 - (p+1)).toNat).map fun x=>(p,x)).length<=tri i:=by
  intro i
  induction i with
  | zero=>intro _;simp [rgI]
  | succ i ih =>
   intro hi;have:=ih (by omega);rw [cA,CS,Bz,List.flatMap_cons,List.flatMap_nil,BZ,Be,be]
   show _<=tri i+(39 - i)
   omega
 obtain ⟨ρ',e,a,rfl⟩:=kC (T:= .nm 2) (f:=em) (fun i ρ=>∃ a,ρ=[some (.int (n:Nat),.fz),some (.lst (tD ((rgI 0 i).flatMap fun p=>(rgI (p+1) ((n:Int) - 1+1 - (p+1)).toNat).map fun x=>(p,x))),.ow),a]) n [some (.int (n:Nat),.fz),some (.lst [],.ow),none] ⟨none,by simp [rgI]⟩ (by
  rintro i hi ρ ⟨a,rfl⟩;have st:bq [.int (i:Nat),.int ((i:Int)+1),.int ((n:Int) - 1)]=some (.ok (.lst (tD ((rgI ((i:Int)+1) ((n:Int) - 1+1 - ((i:Int)+1)).toNat).map fun x=>((i:Int),x)))) true,.non):=nB (by omega) (by omega) (by omega) (by omega);have lb:=fl i (by omega);have lb2:=tri_le i (BK.mpr (by omega));have ex:cM (.lst (tD ((rgI 0 i).flatMap fun p=>(rgI (p+1) ((n:Int) - 1+1 - (p+1)).toNat).map fun x=>(p,x)))) [.lst (tD ((rgI ((i:Int)+1) ((n:Int) - 1+1 - ((i:Int)+1)).toNat).map fun x=>((i:Int),x)))]=some (.lst (tD (((rgI 0 i).flatMap fun p=>(rgI (p+1) ((n:Int) - 1+1 - (p+1)).toNat).map fun x=>(p,x))++(rgI ((i:Int)+1) ((n:Int) - 1+1 - ((i:Int)+1)).toNat).map fun x=>((i:Int),x))),.non):=kj (by rw [Be,be];omega);unfold em
  trace "ѥęį!'БццPĚ!%!İǋ"
  rw [cA,CS,Int.zero_add,List.flatMap_cons,List.flatMap_nil,BZ]
  exact ⟨_,rfl⟩)
 have hn:n<=1000000:=by omega
 unfold dZ jr
 trace "ш/%~ĀŇЊžAıXQ"
theorem gU{n:Nat}(h0:1<=n)(h:n<=40):dO [.int (n:Nat)]=some (.ok (.lst (tD (lJ n))) true,.non):=by
 have st:=nB (m:=0) (a:=1) (b:=(n:Nat)) (by omega) (by omega) (by omega) (by omega);rw [show ((n:Int)+1 - 1).toNat=n by omega] at st;have r:=vz (a:=1) (b:=(n:Nat)) (by omega) (by omega) (by omega) (by omega);rw [show ((n:Int) - 1).toNat=n - 1 by omega] at r;have ad:aY [.lst (tD ((rgI 1 n).map fun x=>((0:Int),x))),.lst (tD (fE 1 (n - 1)))]=some (.lst (tD (lJ n)),true):=gA (by unfold fE;rw [Be,Be,be,be];omega);unfold dO kB
 trace "dr5kkЊĚ!05kЊĄ!$ſQ"
theorem ii{n:Nat}(h0:1<=n)(h:n<=40):dv [.int (n:Nat)]=some (.ok (.lst (tD (iS n))) true,.non):=by
 have f:=gU h0 h
 have l:(lJ n).length<=999:=by unfold lJ fE;rw [Bz,Be,Be,be,be];omega
 unfold dv im
 trace "dѫď!Ѧ҂҈ѧņǏQ"
theorem kq{w:Str}{a n:Int}(h1:a<=n)(h2:n<=40)(hw:w = "full" \/ w = "wheel" \/ w = "fan")(g1:fQ ao aq [.str w]=some (.ktup [.int a],false)):ag [wK w n]=some (.ok (.bl true) false,.non):=by
 have h:=vA h1 h2;have g2:eK [wK w n,.int 1]=some (.tup [.int n],false):=rfl;unfold ag aC
 rcases hw with rfl | rfl | rfl
 ·trace "ѩ1ЁѪЋ"
 ·trace "ѩ1ЁѪЋ"
 ·trace "ѩ1ЁѪЋ"
theorem zt{n:Nat}(h1:1<=n)(h2:n<=11):e9 (wK "full" (n:Nat)) n (lH n):=by
 have t:=jn (n:=n) (by omega);have fw:=rJ;unfold tQ at fw;simp only [By,Bx] at fw;have o:=(fw.1.1 (n - 1) (BK.mpr (by omega))).1;rw [show n - 1+1=n by omega] at o;refine ⟨kq (a:=1) (by omega) (by omega) (.inl rfl) rfl,?_,?_,gk o⟩
 ·unfold ax bn
  trace "uФР҅)бa"
 ·unfold aS bM
  trace "uвѯ"
theorem ok_fan{n:Nat}(h1:1<=n)(h2:n<=30):e9 (wK "fan" (n:Nat)) (n+1) (lJ n):=by
 have t:=gU (n:=n) h1 (by omega);have fw:=rJ;unfold tQ at fw;simp only [By,Bx] at fw;have o:=(fw.1.2 (n - 1) (BK.mpr (by omega))).1;rw [show n - 1+1=n by omega,show n - 1+2=n+1 by omega] at o;refine ⟨kq (a:=1) (by omega) (by omega) (.inr (.inr rfl)) rfl,?_,?_,gk o⟩
 ·unfold ax bn
  trace "uy?РР)ѡѰ"
 ·unfold aS bM
  trace "uњіѯ"
theorem wE{n:Nat}(h1:3<=n)(h2:n<=30):e9 (wK "wheel" (n:Nat)) (n+1) (iS n):=by
 have t:=ii (n:=n) (by omega) (by omega);have fw:=rJ;unfold tQ at fw;simp only [By,Bx] at fw;have o:=(fw.2 (n - 3) (BK.mpr (by omega))).1;rw [show n - 3+3=n by omega,show n - 3+4=n+1 by omega] at o;refine ⟨kq (a:=3) (by omega) (by omega) (.inr (.inl rfl)) rfl,?_,?_,gk o⟩
 ·unfold ax bn
  trace "uyBѽW)ѡѰ"
 ·unfold aS bM
  trace "uњtѯ"
end K07
namespace K07
open PySem L2
end K07
namespace K07
open PySem L2
section
variable{n:Nat}{x1:Option (D×Md)}
end
end K07
namespace K07
open PySem L2
def IsW(w:Str)(a b:Nat)(k:D):Prop:=∃ n:Nat,a<=n/\n<=b/\k=wK w (n:Nat)
theorem t4{w:Str}{a b:Nat}{i:Int}(h1:a<=i)(h2:i<=b):IsW w a b (wK w i):=⟨i.toNat,by omega,by omega,by rw [show ((i.toNat:Nat):Int)=i by omega]⟩
def Gk(k:D):Prop:=(IsSp k\/xW k\/oZ k)\/IsW "full" 1 11 k\/IsW "wheel" 3 30 k\/IsW "fan" 1 30 k
theorem qL(P:Pn):∃ k P',ay [pD P,.int 6]=some (.ok k false,pD P')/\Gk k:=by
 have d3:=cr P (m:=6) (by omega) (by omega)
 obtain h | h | h | h | h | h:dr P 6=0\/dr P 6=1\/dr P 6=2\/dr P 6=3\/dr P 6=4\/dr P 6=5:=by omega
 ·have g:gIx [.lst [.str "spine",.str "ring",.str "sides",.str "full",.str "wheel",.str "fan"],.int (dr P 6)]=some (.str "spine",false):=by rw [h];rfl
  obtain ⟨d,nw,ρ',e,hk,rfl,P',y1,y2,y3,y4,y5,y6,y7,y8,rfl⟩:=sp_beg (P:=nx P 6) (m:= .int 6) (md1:= .fz) (md2:= .fz);refine ⟨d,P',?_,.inl (.inl hk)⟩;unfold ay aE
  trace "тtAQ"
 ·have g:gIx [.lst [.str "spine",.str "ring",.str "sides",.str "full",.str "wheel",.str "fan"],.int (dr P 6)]=some (.str "ring",false):=by rw [h];rfl
  have b9:=cr (nx P 6) (m:=9) (by omega) (by omega)
  by_cases h4:dr (nx (nx P 6) 9) 4=0
  ·have b3:=cr (nx (nx (nx P 6) 9) 4) (m:=3) (by omega) (by omega)
   refine ⟨iw (40 - dr (nx (nx (nx P 6) 9) 4) 3),nx (nx (nx (nx P 6) 9) 4) 3,?_,.inl (.inr (.inl (sL (by omega) (by omega))))⟩;unfold ay aE
   trace "И~ѭZЕXЙ"
  ·refine ⟨iw (3+dr (nx P 6) 9),nx (nx (nx P 6) 9) 4,?_,.inl (.inr (.inl (sL (by omega) (by omega))))⟩
   unfold ay aE
   trace "ИЉѮЙ"
 ·have g:gIx [.lst [.str "spine",.str "ring",.str "sides",.str "full",.str "wheel",.str "fan"],.int (dr P 6)]=some (.str "sides",false):=by rw [h];rfl
  have b8:=cr (nx P 6) (m:=8) (by omega) (by omega);obtain ⟨q1,q2⟩:=bnd_of (a:=1+dr (nx P 6) 8) (by omega) (by omega);have bo:=cr (nx (nx P 6) 8) q1 q2;have b2:=cr (nx (nx (nx P 6) 8) (min (40 - (1+dr (nx P 6) 8)) (60 / (1+dr (nx P 6) 8)))) (m:=2) (by omega) (by omega);obtain ⟨s1,s2⟩:=vH (a:=1+dr (nx P 6) 8) (b:=1+dr (nx (nx P 6) 8) (min (40 - (1+dr (nx P 6) 8)) (60 / (1+dr (nx P 6) 8)))) (by omega) (by omega) (by omega) (by omega)
  obtain h2 | h2:dr (nx (nx (nx P 6) 8) (min (40 - (1+dr (nx P 6) 8)) (60 / (1+dr (nx P 6) 8)))) 2=0\/dr (nx (nx (nx P 6) 8) (min (40 - (1+dr (nx P 6) 8)) (60 / (1+dr (nx P 6) 8)))) 2=1:=by omega
  ·have gx:∀ a b:D,gIx [.lst [a,b],.int (dr (nx (nx (nx P 6) 8) (min (40 - (1+dr (nx P 6) 8)) (60 / (1+dr (nx P 6) 8)))) 2)]=some (a,false):=fun a b=>by rw [h2];rfl
   refine ⟨_,nx (nx (nx (nx P 6) 8) (min (40 - (1+dr (nx P 6) 8)) (60 / (1+dr (nx P 6) 8)))) 2,?_,.inl (.inr (.inr s1))⟩;unfold ay aE
   trace "твдЕǋднћУ^ѠЊĝl$ĞPĎǏǏмSǋЀ/ее%ѬğQ"
  ·have gx:∀ a b:D,gIx [.lst [a,b],.int (dr (nx (nx (nx P 6) 8) (min (40 - (1+dr (nx P 6) 8)) (60 / (1+dr (nx P 6) 8)))) 2)]=some (b,false):=fun a b=>by rw [h2];rfl
   refine ⟨_,nx (nx (nx (nx P 6) 8) (min (40 - (1+dr (nx P 6) 8)) (60 / (1+dr (nx P 6) 8)))) 2,?_,.inl (.inr (.inr s2))⟩;unfold ay aE
   trace "твдЕǋднћУ^ѠЊĝl$ĞPĎǏǏмSǋЀ/ее%ѬğQ"
 ·have g:gIx [.lst [.str "spine",.str "ring",.str "sides",.str "full",.str "wheel",.str "fan"],.int (dr P 6)]=some (.str "full",false):=by rw [h];rfl
  have b9:=cr (nx P 6) (m:=9) (by omega) (by omega)
  by_cases h4:dr (nx (nx P 6) 9) 4=0
  ·have b3:=cr (nx (nx (nx P 6) 9) 4) (m:=3) (by omega) (by omega)
   refine ⟨wK "full" (11 - dr (nx (nx (nx P 6) 9) 4) 3),nx (nx (nx (nx P 6) 9) 4) 3,?_,.inr (.inl (t4 (by omega) (by omega)))⟩;unfold ay aE
   trace "И~ѭZЕXЙ"
  ·refine ⟨wK "full" (1+dr (nx P 6) 9),nx (nx (nx P 6) 9) 4,?_,.inr (.inl (t4 (by omega) (by omega)))⟩
   unfold ay aE
   trace "ИЉѮЙ"
 ·have g:gIx [.lst [.str "spine",.str "ring",.str "sides",.str "full",.str "wheel",.str "fan"],.int (dr P 6)]=some (.str "wheel",false):=by rw [h];rfl
  have b9:=cr (nx P 6) (m:=9) (by omega) (by omega)
  by_cases h4:dr (nx (nx P 6) 9) 4=0
  ·have b3:=cr (nx (nx (nx P 6) 9) 4) (m:=3) (by omega) (by omega)
   refine ⟨wK "wheel" (30 - dr (nx (nx (nx P 6) 9) 4) 3),nx (nx (nx (nx P 6) 9) 4) 3,?_,.inr (.inr (.inl (t4 (by omega) (by omega))))⟩;unfold ay aE
   trace "И~ѭZЕXЙ"
  ·refine ⟨wK "wheel" (3+dr (nx P 6) 9),nx (nx (nx P 6) 9) 4,?_,.inr (.inr (.inl (t4 (by omega) (by omega))))⟩
   unfold ay aE
   trace "ИЉѮЙ"
 ·have g:gIx [.lst [.str "spine",.str "ring",.str "sides",.str "full",.str "wheel",.str "fan"],.int (dr P 6)]=some (.str "fan",false):=by rw [h];rfl
  have b9:=cr (nx P 6) (m:=9) (by omega) (by omega)
  by_cases h4:dr (nx (nx P 6) 9) 4=0
  ·have b3:=cr (nx (nx (nx P 6) 9) 4) (m:=3) (by omega) (by omega)
   refine ⟨wK "fan" (30 - dr (nx (nx (nx P 6) 9) 4) 3),nx (nx (nx (nx P 6) 9) 4) 3,?_,.inr (.inr (.inr (t4 (by omega) (by omega))))⟩;unfold ay aE
   trace "И~ѭZЕXЙ"
  ·refine ⟨wK "fan" (1+dr (nx P 6) 9),nx (nx (nx P 6) 9) 4,?_,.inr (.inr (.inr (t4 (by omega) (by omega))))⟩
   unfold ay aE
   trace "ИЉѮЙ"
end K07
namespace K07
open PySem L2
def isW:D->Bool
 | .int _=>true
 | _=>false
structure Kn(d:D):Prop where
 l:aD [d]=some (.ok (.bl (isW d)) false,.non)
 p:bS [d]=some (.ok (.bl (isW d)) false,.non)
theorem bH(i:Int):Kn (.int i):=⟨cO,sE⟩
theorem AW(b:Bool):Kn (.bl b):=by
 constructor
 ·unfold aD dl
  trace "dGЮ!ėЮQ"
 ·unfold bS eO
  trace "dGЮ!ėЮQ"
theorem lg{d:D}(h:bR "int" [d]=some (.bl false,false))(hd:isW d=false):Kn d:=by
 constructor
 ·rw [hd]
  unfold aD dl
  trace "d6ZPЋ"
 ·rw [hd]
  unfold bS eO
  trace "d6ZPЋ"
def inW(lo hi:Int):D->Bool
 | .int i=>decide (lo<=i)&&decide (i<=hi)
 | _=>false
def geW(lo:Int):D->Bool
 | .int i=>decide (lo<=i)
 | _=>false
theorem odd_of{d:D}{lo hi:Int}(h:bS [d]=some (.ok (.bl false) false,.non)):aP [d,.int lo,.int hi]=some (.ok (.bl false) false,.non):=by
 unfold aP dB
 trace "d6mIѤ"
theorem jx{d:D}(k:Kn d)(lo hi:Int):aP [d,.int lo,.int hi]=some (.ok (.bl (inW lo hi d)) false,.non):=by
 cases e:isW d with
 | false =>
  have h:=k.p;rw [e] at h
  have:inW lo hi d=false:=by cases d<;>first | rfl | cases e
  rw [this];exact odd_of h
 | true=>cases d<;>first | exact eA | cases e
structure Bd(x:D):Prop where
 g:aT [x]=some (.ok (.bl false) false,.non)
 d:aa [x]=some (.ok (.bl false) false,.non)
structure Gd(x:D):Prop where
 g:aT [x]=some (.ok (.bl true) false,.non)
 d:aa [x]=some (.ok (.bl true) false,.non)
 w:∃ y,cJ [x]=some (.ok y false,.non)
structure Ok(x:D):Prop where
 p:bA [x]=some (.ok (.bl true) false,.non)
theorem aK{x:D}(h:Bd x):Ok x:=by
 have g:=h.g;have d:=h.d
 have w:cJ [x]=some (.ex "NoKind",.non):=by
  unfold cJ iU
  trace "ăƀǰƁ9xчK!SƂQ"
 have q1:bR "bool" [.bl false]=some (.bl true,false):=rfl;have q2:gNe [.bl false,.bl false]=some (.bl false,false):=rfl;have q3:gNe [.str "kind",.str "kind"]=some (.bl false,false):=rfl;have q4:gNe [.bl true,.bl false]=some (.bl true,false):=rfl;refine ⟨?_⟩;unfold bA eP
 trace "шmōМhmKМљ`<S{^Đ]hN~ƃƄƅЊŎWЉĉ0ƆWq8ĘNXǋ)Z^ąQ"
theorem mR{x:D}(h:Gd x):Ok x:=by
 have g:=h.g;have d:=h.d;obtain ⟨y,w⟩:=h.w;have q1:bR "bool" [.bl true]=some (.bl true,false):=rfl;have q2:gNe [.bl true,.bl true]=some (.bl false,false):=rfl;have q4:gNe [.bl false,.bl true]=some (.bl true,false):=rfl;refine ⟨?_⟩;unfold bA eP
 trace "шmōМhmKМљ`<S{^Đ]hN~ƇęmŎ!)Z^ąQ"
theorem bd_nt{x:D}(h:bR "tuple" [x]=some (.bl false,false)):Bd x:=by
 have f:ag [x]=some (.ok (.bl false) false,.non):=by
  unfold ag aC
  trace "ЦBx`ISК"
 constructor
 ·unfold aT cm
  trace "d6mďѤ"
 ·unfold aa ah
  trace "ЦBx`ISК"
theorem bE{x:D}(f:ag [x]=some (.ok (.bl false) false,.non))(d:aa [x]=some (.ok (.bl false) false,.non)):Bd x:=by
 refine ⟨?_,d⟩;unfold aT cm
 trace "d6mďѤ"
theorem qy{l:List D}(h:l.length < 2):Bd (.tup l):=by
 have g:bR "tuple" [.tup l]=some (.bl true,false):=rfl;have gl:br [.tup l]=some (.int (l.length:Nat),false):=rfl
 have q:(l.length:Int) < 2:=by omega
 refine bE ?_ ?_
 ·unfold ag aC
  trace "Цо`KSѾĠUǞѿ"
 ·unfold aa ah
  trace "Цо`KSBѾĠUǞК"
end K07
namespace K07
open PySem L2
theorem Ap(b:Bool):hX [.lst [.bl b]]=some (.bl b,false):=by cases b<;>rfl
theorem num1{a:Int}{d:D}(k:Kn d):aG [.ktup [.int a],.tup [d]]=some (.ok (.bl (inW a 40 d)) false,.non):=by
 have h:=jx k a 40;have g:=Ap (inW a 40 d);have z:gR [D.int a] [d]=[.tup [.int a,d]]:=rfl;unfold aG bF
 trace "ЯНВ$щЀOěТ!ǘŏ!ѨI!ҚҘQ"
theorem xt{w:Str}{a:Int}{d:D}(k:Kn d)(q1:gEq [.str w,.str "spine"]=some (.bl false,false))(q2:qc ao aq true [.str w]=some (.bl false,false))(q3:fQ ao aq [.str w]=some (.ktup [.int a],false)):ag [.tup [.str w,d]]=some (.ok (.bl (inW a 40 d)) false,.non):=by
 have n:=num1 (a:=a) k;have q4:eK [.tup [.str w,d],.int 1]=some (.tup [d],false):=rfl;have q5:bR "str" [.str w]=some (.bl true,false):=rfl;unfold ag aC
 trace "хЄ{U<]љ`LS{PĐҞĵЁą$Ķa"
abbrev lsK:List Key:=[.inr "ring",.inr "full",.inr "wheel",.inr "fan",.inr "sides"]
abbrev lsV:List D:=[.int 3,.int 1,.int 3,.int 1,.int 1]
theorem qa{w:Str}{ds:List D}{L:Int}(h:(ba lsK lsV (.inr w)).getD (.int (10 ^ 50)) = .int L)(y1 y2 y3:Option (D×Md)):ju (iu [.inr "ring",.inr "full",.inr "wheel",.inr "fan",.inr "sides"] [(sC (.int 3)),(sC (.int 1)),(sC (.int 3)),(sC (.int 1)),(sC (.int 1))]) (sOp gIx [.bor 0,.ex (sC (.int 0))]) (sOp my [.ex (sC (.int 10)),.ex (sC (.int 50))]) [some (.tup (.str w::ds),.fz),y1,y2,y3]=some (.ok (.int L) false,[some (.tup (.str w::ds),.fz),y1,y2,y3]):=by
 have gi:gIx [.tup (.str w::ds),.int 0]=some (.str w,false):=eX jC;have gp:my [.int 10,.int 50]=some (.int (10 ^ 50),false):=rfl;refine vQ (ks:=lsK) (vs:=lsV) (k:= .str w) (d:= .int (10 ^ 50)) (ρ1:=[some (.tup (.str w::ds),.fz),y1,y2,y3]) (ρ2:=[some (.tup (.str w::ds),.fz),y1,y2,y3]) (n1:=true) (n2:=false) (n3:=false) ?_ ?_ rfl ?_ h
 ·rfl
 ·trace "cŀ"
 ·trace "У_ƈ"
theorem tS{w:Str}{d:D}{L:Int}(k:Kn d)(q0:gEq [.str w,.str "spine"]=some (.bl false,false))(q1:gEq [.str w,.str "sides"]=some (.bl false,false))(h:(ba lsK lsV (.inr w)).getD (.int (10 ^ 50)) = .int L)(hd:geW L d=false):aa [.tup [.str w,d]]=some (.ok (.bl false) false,.non):=by
 have gt:=qa (ds:=[d]) h none none none;have kl:=k.l;have q4:eK [.tup [.str w,d],.int 1]=some (.tup [d],false):=rfl;have q5:bR "str" [.str w]=some (.bl true,false):=rfl;have q6:br [.tup [.str w,d]]=some (.int 2,false):=rfl;have q7:lF [.bl false]=some (.int 0,false):=rfl;have q8:gNe [.int 2,.int (2+0)]=some (.bl false,false):=rfl;have ga:=Ap false
 cases e:isW d with
 | false =>
  rw [e] at kl;unfold aa ah
  trace "ЧЫeLpċ2ѱĂ!ъ_<$CХđ]9ы6mѲЌж"
 | true =>
  match d,e with
  | .int i,_ =>
   have kl:aD [.int i]=some (.ok (.bl true) false,.non):=cO
   have gg:gGe [.int i,.int L]=some (.bl false,false):=by
    show some (D.bl (decide (L<=i)),false)=_
    rw [show decide (L<=i)=false from hd]
   unfold aa ah
   trace "ЧЫeLpċ2ѱĂ!ъ_<$CХđ]9ы}ѲZ^ġЌж"
theorem qk{w:Str}{i L p t:Int}(q0:gEq [.str w,.str "spine"]=some (.bl false,false))(q1:gEq [.str w,.str "sides"]=some (.bl false,false))(h:(ba lsK lsV (.inr w)).getD (.int (10 ^ 50)) = .int L)(hd:L<=i)(hs:aX [.tup [.str w,.int i]]=some (.ok (.tup [.int p,.int t]) false,.non)):aa [.tup [.str w,.int i]]=some (.ok (.bl (decide (p<=40)&&decide (t<=60))) false,.non):=by
 have gt:=qa (ds:=[.int i]) h none none none;have kl:aD [.int i]=some (.ok (.bl true) false,.non):=cO;have q4:eK [.tup [.str w,.int i],.int 1]=some (.tup [.int i],false):=rfl;have q5:bR "str" [.str w]=some (.bl true,false):=rfl;have q6:br [.tup [.str w,.int i]]=some (.int 2,false):=rfl;have q7:lF [.bl false]=some (.int 0,false):=rfl;have q8:gNe [.int 2,.int (2+0)]=some (.bl false,false):=rfl;have ga:=Ap true
 have gg:gGe [.int i,.int L]=some (.bl true,false):=by
  show some (D.bl (decide (L<=i)),false)=_
  rw [Bl hd]
 have g2:gLe [.int t,.int 60]=some (.bl (decide (t<=60)),false):=rfl
 by_cases hp:p<=40
 ·have g1:gLe [.int p,.int 40]=some (.bl true,false):=by
   show some (D.bl (decide (p<=40)),false)=_
   rw [Bl hp]
  rw [Bl hp,Cn];unfold aa ah
  trace "ЧЫeLpЄѱĂ!ъ_<$CХđ]2ы}ѲZ^ġЌpѳаc1!cJQ"
 ·have g1:gLe [.int p,.int 40]=some (.bl false,false):=by
   show some (D.bl (decide (p<=40)),false)=_
   rw [Br hp]
  rw [Br hp,B4];unfold aa ah
  trace "ЧЫeLpЄѱĂ!ъ_<$CХđ]2ы}ѲZ^ġЌpѳ)6c1a"
end K07
namespace K07
open PySem L2
def Sz(i:Int):Prop:=(-100<=i/\i<=100)\/i=10 ^ 40
theorem mul_a{i:Int}(h:Sz i):fg [.int i,.int (i - 1)]=some (.int (i * (i - 1)),false):=by
 rcases h with h | rfl
 ·exact kc (.inl (by omega))
 ·show (if oj (10 ^ 40) (10 ^ 40 - 1)=false then some (D.int (10 ^ 40 * (10 ^ 40 - 1)),false) else none)=_
  rw [if_pos mulE_1]
theorem mul_2{i:Int}:fg [.int 2,.int i]=some (.int (2 * i),false):=kc (.inl (by omega))
abbrev szK:List Key:=[.inr "ring",.inr "full",.inr "wheel"]
abbrev szV(i:Int):List D:=[.tup [.int i,.int i],.tup [.int i,.int (i * (i - 1) / 2)],.tup [.int (i+1),.int (2 * i)]]
theorem yp{w:Str}{i p t:Int}(q0:gEq [.str w,.str "spine"]=some (.bl false,false))(q1:gEq [.str w,.str "sides"]=some (.bl false,false))(hs:Sz i)(hl:(ba szK (szV i) (.inr w)).getD (.tup [.int (i+1),.int (2 * i - 1)]) = .tup [.int p,.int t]):aX [.tup [.str w,.int i]]=some (.ok (.tup [.int p,.int t]) false,.non):=by
 have m1:=mul_a hs;have m2:=mul_2 (i:=i)
 have gt:ju (bt 2) (sOp gIx [.bor 0,.ex (sC (.int 0))]) (aW [(sOp aY [.bor 1,.ex (sC (.int 1))]),(sOp cD [.ex (sOp fg [.ex (sC (.int 2)),.bor 1]),.ex (sC (.int 1))])]) [some (.tup [.str w,.int i],.fz),some (.int i,.fz),some (.dK [.inr "ring",.inr "full",.inr "wheel"] [.tup [.int i,.int i],.tup [.int i,.int (i * (i - 1) / 2)],.tup [.int (i+1),.int (2 * i)]],.ow)]=some (.ok (.tup [.int p,.int t]) false,[some (.tup [.str w,.int i],.fz),some (.int i,.fz),some (.dK [.inr "ring",.inr "full",.inr "wheel"] [.tup [.int i,.int i],.tup [.int i,.int (i * (i - 1) / 2)],.tup [.int (i+1),.int (2 * i)]],.fz)]):=by
  refine vQ (ks:=szK) (vs:=szV i) (k:= .str w) (d:= .tup [.int (i+1),.int (2 * i - 1)]) (ρ1:=[some (.tup [.str w,.int i],.fz),some (.int i,.fz),some (.dK szK (szV i),.fz)]) (ρ2:=[some (.tup [.str w,.int i],.fz),some (.int i,.fz),some (.dK szK (szV i),.fz)]) (n1:=false) (n2:=false) (n3:=false) ?_ ?_ rfl ?_ hl
  ·rfl
  ·trace "Zґ"
  ·trace "@zqЗУЊœU%"
 have gd:gK [.int (i * (i - 1)),.int 2]=some (.int (i * (i - 1) / 2),false):=rfl;unfold aX dq
 trace "ЯѱĂ]ҕЄѱ<]hŋgТgј'+ЃцPƌ_ƍ%gzq'УЊœ%%X)őQ"
theorem zK{x:D}{p:Int}(f:ag [x]=some (.ok (.bl true) false,.non))(q:ax [x]=some (.ok (.int p) false,.non))(h:40 < p):aT [x]=some (.ok (.bl false) false,.non):=by
 have g:gLe [.int p,.int 40]=some (.bl false,false):=by
  show some (D.bl (decide (p<=40)),false)=_
  rw [Br (by omega)]
 unfold aT cm
 trace "d}ďW6ѫĢ!_Ka"
theorem zI{x:D}{p:Int}{ts:List (Int×Int)}(f:ag [x]=some (.ok (.bl true) false,.non))(q:ax [x]=some (.ok (.int p) false,.non))(h:p<=40)(t:aS [x]=some (.ok (.lst (tD ts)) true,.non))(h2:60 < ts.length):aT [x]=some (.ok (.bl false) false,.non):=by
 have g:gLe [.int p,.int 40]=some (.bl true,false):=by
  show some (D.bl (decide (p<=40)),false)=_
  rw [Bl h]
 have gl:br [.lst (tD ts)]=some (.int (ts.length:Nat),false):=by rw [je]
 have g2:gLe [.int (ts.length:Nat),.int 60]=some (.bl false,false):=by
  show some (D.bl (decide ((ts.length:Int)<=60)),false)=_
  rw [Br (by omega)]
 unfold aT cm
 trace "d}ďWGѫĢ!_K!rѫŌ!$Ġ_JQ"
structure Wd(w:Str)(a:Int):Prop where
 q0:gEq [.str w,.str "spine"]=some (.bl false,false)
 q1:gEq [.str w,.str "sides"]=some (.bl false,false)
 q2:qc ao aq true [.str w]=some (.bl false,false)
 q3:fQ ao aq [.str w]=some (.ktup [.int a],false)
 h:(ba lsK lsV (.inr w)).getD (.int (10 ^ 50)) = .int a
theorem jU:Wd "ring" 3:=⟨rfl,rfl,rfl,rfl,rfl⟩
theorem gf:Wd "full" 1:=⟨rfl,rfl,rfl,rfl,rfl⟩
theorem dz:Wd "wheel" 3:=⟨rfl,rfl,rfl,rfl,rfl⟩
theorem gS:Wd "fan" 1:=⟨rfl,rfl,rfl,rfl,rfl⟩
theorem wR{a:Int}{d:D}(h:geW a d=false):inW a 40 d=false:=by
 cases d<;>first | rfl | (rename_i i;show (decide (a<=i)&&decide (i<=40))=false;rw [show decide (a<=i)=false from h];rfl)
theorem sw{w:Str}{a:Int}{d:D}(W:Wd w a)(k:Kn d)(h:geW a d=false):Bd (.tup [.str w,d]):=by
 have f:=xt k W.q0 W.q2 W.q3;rw [wR h] at f;exact bE f (tS k W.q0 W.q1 W.h h)
theorem sx{w:Str}{a i p t:Int}(W:Wd w a)(h1:a<=i)(h:40 < i)(hp:i<=p)(hs:aX [.tup [.str w,.int i]]=some (.ok (.tup [.int p,.int t]) false,.non)):Bd (.tup [.str w,.int i]):=by
 have f:=xt (bH i) W.q0 W.q2 W.q3;rw [show inW a 40 (.int i)=false by show (decide (a<=i)&&decide (i<=40))=false;rw [Br (show ¬ i<=40 by omega),BS]] at f;have d:=qk W.q0 W.q1 W.h h1 hs;rw [Br (show ¬ p<=40 by omega),B4] at d;exact bE f d
theorem vt{w:Str}{a i:Int}(W:Wd w a)(h1:a<=i)(h:i<=40):ag [.tup [.str w,.int i]]=some (.ok (.bl true) false,.non):=by
 have f:=xt (bH i) W.q0 W.q2 W.q3
 rwa [show inW a 40 (.int i)=true by show (decide (a<=i)&&decide (i<=40))=true;rw [Bl h,Bl h1];rfl] at f
theorem qG{w:Str}{a i p t:Int}{b:Bool}(W:Wd w a)(h1:a<=i)(hs:aX [.tup [.str w,.int i]]=some (.ok (.tup [.int p,.int t]) false,.non))(hb:(decide (p<=40)&&decide (t<=60))=b):aa [.tup [.str w,.int i]]=some (.ok (.bl b) false,.non):=by
 rw [<- hb];exact qk W.q0 W.q1 W.h h1 hs
theorem mX{k:D}{n:Nat}{ts:List (Int×Int)}(O:e9 k n ts)(d:aa [k]=some (.ok (.bl true) false,.non)):Gd k:=⟨jm O,d,_,t8 O⟩
theorem bb{a b:Prop}[Decidable a][Decidable b](h1:a)(h2:b):(decide a&&decide b)=true:=by rw [Bl h1,Bl h2];rfl
theorem bf{a b:Prop}[Decidable a][Decidable b](h2:¬ (a/\b)):(decide a&&decide b)=false:=by
 by_cases h:a
 ·rw [Br (fun q=>h2 ⟨h,q⟩),BS]
 ·rw [Br h,B4]
def SzD:D->Prop
 | .int i=>Sz i
 | _=>True
theorem jc{a:Int}{d:D}(h:geW a d=true):∃ i,d = .int i/\a<=i:=by
 cases d<;>first | (cases h;done) | exact ⟨_,rfl,Bt h⟩
theorem kP{d:D}(k:Kn d)(s:SzD d):Ok (.tup [.str "ring",d]):=by
 cases e:geW 3 d with
 | false=>exact aK (sw jU k e)
 | true =>
  obtain ⟨i,rfl,h⟩:=jc e;have hs:=yp (w := "ring") (p:=i) (t:=i) rfl rfl s rfl
  by_cases h4:40 < i
  ·exact aK (sx jU h h4 (Int.le_refl _) hs)
  ·obtain ⟨n,rfl⟩:=Ch (show 0<=i by omega)
   exact mR (mX (zq (by omega) (by omega) (gk (ug (by omega) (by omega)))) (qG jU h hs (bb (by omega) (by omega))))
theorem full_l:∀ n∈List.range 41,(lH n).length=n * (n - 1) / 2/\(11 < n->60 < (lH n).length):=by decide +kernel
theorem A4{n:Nat}(h:1<=n):(lJ n).length=2 * n - 1:=by unfold lJ fE;rw [Bz,Be,Be,be,be];omega
theorem full_b:∀ n∈List.range 41,(11 < n->60 < (n:Int) * ((n:Int) - 1) / 2)/\(n<=11->(n:Int) * ((n:Int) - 1) / 2<=60):=by decide +kernel
theorem pP{d:D}(k:Kn d)(s:SzD d):Ok (.tup [.str "full",d]):=by
 cases e:geW 1 d with
 | false=>exact aK (sw gf k e)
 | true =>
  obtain ⟨i,rfl,h⟩:=jc e;have hs:=yp (w := "full") (p:=i) (t:=i * (i - 1) / 2) rfl rfl s rfl
  by_cases h4:40 < i
  ·exact aK (sx gf h h4 (Int.le_refl _) hs)
  ·obtain ⟨n,rfl⟩:=Ch (show 0<=i by omega)
   have fb:=full_b n (BK.mpr (by omega))
   by_cases h5:n<=11
   ·exact mR (mX (zt (by omega) h5) (qG gf h hs (bb (by omega) (fb.2 h5))))
   ·have t:=jn (n:=n) (by omega)
    have fl:=(full_l n (BK.mpr (by omega))).2 (by omega);have fb:=fb.1 (by omega);refine aK ⟨zI (ts:=lH n) (p:=(n:Nat)) (vt gf h (by omega)) ?_ (by omega) ?_ fl,qG gf h hs (bf fun q=>by have:=q.2;exact absurd fb (by omega))⟩
    ·unfold ax bn
     trace "uФР҅)бa"
    ·unfold aS bM
     trace "uвѯ"
theorem tq{d:D}(k:Kn d)(s:SzD d):Ok (.tup [.str "fan",d]):=by
 cases e:geW 1 d with
 | false=>exact aK (sw gS k e)
 | true =>
  obtain ⟨i,rfl,h⟩:=jc e;have hs:=yp (w := "fan") (p:=i+1) (t:=2 * i - 1) rfl rfl s rfl
  by_cases h4:40 < i
  ·exact aK (sx gS h h4 (by omega) hs)
  ·obtain ⟨n,rfl⟩:=Ch (show 0<=i by omega)
   by_cases h5:n<=30
   ·exact mR (mX (ok_fan (by omega) h5) (qG gS h hs (bb (by omega) (by omega))))
   ·have t:=gU (n:=n) (by omega) (by omega)
    have pl:ax [.tup [.str "fan",.int (n:Nat)]]=some (.ok (.int ((n:Int)+1)) false,.non):=by
     unfold ax bn
     trace "uy?РР)ѡѰ"
    refine aK ⟨?_,qG gS h hs (bf fun q=>by omega)⟩
    by_cases h6:n=40
    ·exact zK (vt gS h (by omega)) pl (by omega)
    ·refine zI (ts:=lJ n) (p:=(n:Int)+1) (vt gS h (by omega)) pl (by omega) ?_ (by rw [A4 (by omega)];omega)
     unfold aS bM
     trace "uњіѯ"
theorem mQ{d:D}(k:Kn d)(s:SzD d):Ok (.tup [.str "wheel",d]):=by
 cases e:geW 3 d with
 | false=>exact aK (sw dz k e)
 | true =>
  obtain ⟨i,rfl,h⟩:=jc e;have hs:=yp (w := "wheel") (p:=i+1) (t:=2 * i) rfl rfl s rfl
  by_cases h4:40 < i
  ·exact aK (sx dz h h4 (by omega) hs)
  ·obtain ⟨n,rfl⟩:=Ch (show 0<=i by omega)
   by_cases h5:n<=30
   ·exact mR (mX (wE (by omega) h5) (qG dz h hs (bb (by omega) (by omega))))
   ·have t:=ii (n:=n) (by omega) (by omega)
    have pl:ax [.tup [.str "wheel",.int (n:Nat)]]=some (.ok (.int ((n:Int)+1)) false,.non):=by
     unfold ax bn
     trace "uyBѽW)ѡѰ"
    refine aK ⟨?_,qG dz h hs (bf fun q=>by omega)⟩
    by_cases h6:n=40
    ·exact zK (vt dz h (by omega)) pl (by omega)
    ·refine zI (ts:=iS n) (p:=(n:Int)+1) (vt dz h (by omega)) pl (by omega) ?_ (by unfold iS;rw [Bz,A4 (by omega)];simp;omega)
     unfold aS bM
     trace "uњtѯ"
end K07
namespace K07
open PySem L2
theorem num_no{ls:List D}{ds:List D}(h:ds.length≠ls.length):aG [.ktup ls,.tup ds]=some (.ok (.bl false) false,.non):=by
 have g1:br [.tup ds]=some (.int (ds.length:Nat),false):=rfl;have g2:br [.ktup ls]=some (.int (ls.length:Nat),false):=rfl
 have g3:gNe [.int (ds.length:Nat),.int (ls.length:Nat)]=some (.bl true,false):=by
  show some (D.bl (!(decide ((ds.length:Int)=(ls.length:Int)))),false)=_
  rw [Br (by omega)];rfl
 unfold aG bF
 trace "ЦѾ1`ѪģК"
theorem oE{w:Str}{ls:List D}{d:D}{ds:List D}(q1:gEq [.str w,.str "spine"]=some (.bl false,false))(q2:qc ao aq true [.str w]=some (.bl false,false))(q3:fQ ao aq [.str w]=some (.ktup ls,false))(h:(d::ds).length≠ls.length)(q4:eK [.tup (.str w::d::ds),.int 1]=some (.tup (d::ds),false)):ag [.tup (.str w::d::ds)]=some (.ok (.bl false) false,.non):=by
 have n:=num_no h;have q5:bR "str" [.str w]=some (.bl true,false):=rfl;have q6:br [.tup (.str w::d::ds)]=some (.int ((ds.length+2:Nat):Int),false):=rfl;have q7:gIx [.tup (.str w::d::ds),.int 0]=some (.str w,false):=eX jC;unfold ag aC
 trace "Дў8ІUCЉ{U<]љ`LS{PĐҞĵЁą$Ķa"
theorem oF{w:Str}{b:Bool}{z:Int}{d:D}{ds:List D}{L:Int}(q0:gEq [.str w,.str "spine"]=some (.bl false,false))(q1:gEq [.str w,.str "sides"]=some (.bl b,false))(q7:lF [.bl b]=some (.int z,false))(h:(ba lsK lsV (.inr w)).getD (.int (10 ^ 50)) = .int L)(hd:((ds.length+2:Nat):Int)≠2+z):aa [.tup (.str w::d::ds)]=some (.ok (.bl false) false,.non):=by
 have gt:=qa (ds:=d::ds) h none none none;have q5:bR "str" [.str w]=some (.bl true,false):=rfl;have q6:br [.tup (.str w::d::ds)]=some (.int ((ds.length+2:Nat):Int),false):=rfl;have q9:gIx [.tup (.str w::d::ds),.int 0]=some (.str w,false):=eX jC
 have q8:gNe [.int ((ds.length+2:Nat):Int),.int (2+z)]=some (.bl true,false):=by
  show some (D.bl (!(decide (((ds.length+2:Nat):Int)=2+z))),false)=_
  rw [Br hd];rfl
 unfold aa ah
 trace "ЧЫЁķ$Lpċ2҄Uķ_Ă!үXyҰ+Ёķ_<$CХđК"
theorem wd_2{w:Str}{a:Int}{d e:D}(W:Wd w a):Bd (.tup [.str w,d,e]):=bE (oE (ls:=[.int a]) (d:=d) (ds:=[e]) W.q0 W.q2 W.q3 (by show (2:Nat)≠1;decide) rfl) (oF (b:=false) (z:=0) W.q0 W.q1 rfl W.h (by show ((3:Nat):Int)≠2+0;decide))
theorem sd_1{d:D}:Bd (.tup [.str "sides",d]):=bE (oE (ls:=[.int 1,.int 1]) (d:=d) (ds:=[]) rfl rfl rfl (by show (1:Nat)≠2;decide) rfl) (oF (b:=true) (z:=1) (L:=1) rfl rfl rfl rfl (by show ((2:Nat):Int)≠2+1;decide))
theorem sd_3{d e f:D}:Bd (.tup [.str "sides",d,e,f]):=bE (oE (ls:=[.int 1,.int 1]) (d:=d) (ds:=[e,f]) rfl rfl rfl (by show (3:Nat)≠2;decide) rfl) (oF (b:=true) (z:=1) (L:=1) rfl rfl rfl rfl (by show ((4:Nat):Int)≠2+1;decide))
theorem sp_2{d e:D}:Bd (.tup [.str "spine",d,e]):=by
 have q6:br [.tup [.str "spine",d,e]]=some (.int 3,false):=rfl;refine bE ?_ ?_
 ·unfold ag aC
  trace "Дўқt)6+`ŐЈa"
 ·unfold aa ah
  trace "Ч҃ьyBҗҭWѿ"
structure Wo(w:Str):Prop where
 q0:gEq [.str w,.str "spine"]=some (.bl false,false)
 q1:gEq [.str w,.str "sides"]=some (.bl false,false)
 q2:qc ao aq true [.str w]=some (.bl true,false)
 h:(ba lsK lsV (.inr w)).getD (.int (10 ^ 50)) = .int (10 ^ 50)
theorem od_f{w:Str}{d:D}{ds:List D}(W:Wo w):ag [.tup (.str w::d::ds)]=some (.ok (.bl false) false,.non):=by
 have q0:=W.q0;have q2:=W.q2;have q5:bR "str" [.str w]=some (.bl true,false):=rfl;have q6:br [.tup (.str w::d::ds)]=some (.int ((ds.length+2:Nat):Int),false):=rfl;have q7:gIx [.tup (.str w::d::ds),.int 0]=some (.str w,false):=eX jC;unfold ag aC
 trace "Дў8ІUCЉ{UĂ]yо`LS{PĐК"
theorem wH{w:Str}{d:D}(W:Wo w)(k:Kn d)(h:geW (10 ^ 50) d=false):Bd (.tup [.str w,d]):=bE (od_f W) (tS k W.q0 W.q1 W.h h)
theorem od_2{w:Str}{d e:D}(W:Wo w):Bd (.tup [.str w,d,e]):=bE (od_f W) (oF (b:=false) (z:=0) W.q0 W.q1 rfl W.h (by show ((3:Nat):Int)≠2+0;decide))
theorem od_3:Wo "3" := ⟨rfl,rfl,rfl,rfl⟩
theorem zw:Wo "path" := ⟨rfl,rfl,rfl,rfl⟩
theorem od_up{w:Str}(h:w = "spine" \/ w = "ring" \/ w = "sides" \/ w = "full" \/ w = "wheel" \/ w = "fan"):∃ z,upS w=z/\Wo z/\(Builtin.Str.tooLong (upS w).cps.size=false/\(upS w).length<=1000):=by
 obtain ⟨h1,h2,h3,h4,h5,h6⟩:=vv
 rcases h with rfl | rfl | rfl | rfl | rfl | rfl
 ·exact ⟨_,h1,⟨rfl,rfl,rfl,rfl⟩,by rw [h1];decide⟩
 ·exact ⟨_,h2,⟨rfl,rfl,rfl,rfl⟩,by rw [h2];decide⟩
 ·exact ⟨_,h3,⟨rfl,rfl,rfl,rfl⟩,by rw [h3];decide⟩
 ·exact ⟨_,h4,⟨rfl,rfl,rfl,rfl⟩,by rw [h4];decide⟩
 ·exact ⟨_,h5,⟨rfl,rfl,rfl,rfl⟩,by rw [h5];decide⟩
 ·exact ⟨_,h6,⟨rfl,rfl,rfl,rfl⟩,by rw [h6];decide⟩
theorem uu{x d:D}{ds:List D}(h1:bR "str" [x]=some (.bl false,false))(h2:gEq [x,.str "spine"]=some (.bl false,false)):Bd (.tup (x::d::ds)):=by
 have q6:br [.tup (x::d::ds)]=some (.int ((ds.length+2:Nat):Int),false):=rfl;have q7:gIx [.tup (x::d::ds),.int 0]=some (x,false):=eX jC;refine bE ?_ ?_
 ·unfold ag aC
  trace "Дў8ІUCЉ{Uč]yBx`ČSК"
 ·unfold aa ah
  trace "ЦоҔ?ўЫЁC$Čж"
theorem xQ(a b:Bool):hX [.lst [.bl a,.bl b]]=some (.bl (a&&b),false):=by cases a<;>cases b<;>rfl
theorem num2{d e:D}(k:Kn d)(l:Kn e):aG [.ktup [.int 1,.int 1],.tup [d,e]]=some (.ok (.bl (inW 1 40 d&&inW 1 40 e)) false,.non):=by
 have h:=jx k 1 40;have h2:=jx l 1 40;have g:=xQ (inW 1 40 d) (inW 1 40 e);have z:gR [D.int 1,D.int 1] [d,e]=[.tup [.int 1,d],.tup [.int 1,e]]:=rfl;unfold aG bF
 trace "ЯНВ$щЀOěТ!ǘŏ!ѨI!ǎѨč!ҚҘQ"
theorem A2{d e:D}(k:Kn d)(l:Kn e):ag [.tup [.str "sides",d,e]]=some (.ok (.bl (inW 1 40 d&&inW 1 40 e)) false,.non):=by
 have n:=num2 k l;have q4:eK [.tup [.str "sides",d,e],.int 1]=some (.tup [d,e],false):=rfl;have q3:fQ ao aq [.str "sides"]=some (.ktup [.int 1,.int 1],false):=rfl;unfold ag aC
 trace "ѩĵЁą$Ķa"
theorem tM{d:D}{x0 x1 x2 x3:Option (D×Md)}(k:Kn d):bX (aj none none aD [.bor 4]) (sOp gGe [.bor 4,.bor 1]) [x0,some (.int 1,.fz),x2,x3,some (d,.fz)]=some (.ok (.bl (geW 1 d)) false,[x0,some (.int 1,.fz),x2,x3,some (d,.fz)]):=by
 have kl:=k.l
 cases e:isW d with
 | false =>
  rw [e] at kl;rw [show geW 1 d=false by cases d<;>first | rfl | cases e];refine sP (b:=false) (nw:=false) ?_ rfl
  trace "mŒ!"
 | true =>
  match d,e with
  | .int i,_ =>
   have kl:aD [.int i]=some (.ok (.bl true) false,.non):=cO;have gg:gGe [.int i,.int 1]=some (.bl (geW 1 (.int i)),false):=rfl
   trace "!"
theorem zY{d e:D}(k:Kn d)(l:Kn e)(h:(geW 1 d&&geW 1 e)=false):aa [.tup [.str "sides",d,e]]=some (.ok (.bl false) false,.non):=by
 have gt:=qa (w := "sides") (ds:=[d,e]) (L:=1) rfl none none none;have q4:eK [.tup [.str "sides",d,e],.int 1]=some (.tup [d,e],false):=rfl;have q6:br [.tup [.str "sides",d,e]]=some (.int 3,false):=rfl;have q7:lF [.bl true]=some (.int 1,false):=rfl;have q8:gNe [.int 3,.int (2+1)]=some (.bl false,false):=rfl;have ga:=xQ (geW 1 d) (geW 1 e);have g1:=tM (x0:=some (.tup [.str "sides",d,e],.fz)) (x1:=none) (x2:=none) (x3:=none) k;have g2:=tM (x0:=some (.tup [.str "sides",d,e],.fz)) (x1:=none) (x2:=none) (x3:=none) l;rw [h] at ga;unfold aa ah
 trace "Ч҃ċ2ЬъUPХщ9ы1ǎСJЌж"
end K07
namespace K07
open PySem L2
theorem mul_b{i j:Int}(h:Sz i)(g:Sz j):fg [.int i,.int j]=some (.int (i * j),false):=by
 rcases h with h | rfl
 ·exact kc (.inl (by omega))
 ·rcases g with g | rfl
  ·exact kc (.inr (by omega))
  ·show (if oj (10 ^ 40) (10 ^ 40)=false then some (D.int (10 ^ 40 * 10 ^ 40),false) else none)=_
   rw [if_pos mulE_2]
theorem siz2{i j:Int}(hi:Sz i)(hj:Sz j):aX [.tup [.str "sides",.int i,.int j]]=some (.ok (.tup [.int (i+j),.int (i * j)]) false,.non):=by
 have m:=mul_b hi hj;unfold aX dq
 trace "ЯЬқьќzїSzҙƎ%Q"
theorem xC{i j:Int}(hi:Sz i)(hj:Sz j)(h1:1<=i)(h2:1<=j):aa [.tup [.str "sides",.int i,.int j]]=some (.ok (.bl (decide (i+j<=40)&&decide (i * j<=60))) false,.non):=by
 have gt:=qa (w := "sides") (ds:=[.int i,.int j]) (L:=1) rfl none none none;have q4:eK [.tup [.str "sides",.int i,.int j],.int 1]=some (.tup [.int i,.int j],false):=rfl;have q6:br [.tup [.str "sides",.int i,.int j]]=some (.int 3,false):=rfl;have q7:lF [.bl true]=some (.int 1,false):=rfl;have q8:gNe [.int 3,.int (2+1)]=some (.bl false,false):=rfl;have ga:=xQ true true;have e1:geW 1 (.int i)=true:=Bl h1;have e2:geW 1 (.int j)=true:=Bl h2;have g1:=tM (x0:=some (.tup [.str "sides",.int i,.int j],.fz)) (x1:=none) (x2:=none) (x3:=none) (bH i);have g2:=tM (x0:=some (.tup [.str "sides",.int i,.int j],.fz)) (x1:=none) (x2:=none) (x3:=none) (bH j);rw [e1] at g1;rw [e2] at g2;have hs:=siz2 hi hj;have g4:gLe [.int (i * j),.int 60]=some (.bl (decide (i * j<=60)),false):=rfl
 by_cases hp:i+j<=40
 ·have g3:gLe [.int (i+j),.int 40]=some (.bl true,false):=by
   show some (D.bl (decide (i+j<=40)),false)=_
   rw [Bl hp]
  rw [Bl hp,Cn];unfold aa ah
  trace "Ч҃ЄЬъUPХщ2ы1ǎСJЌpѳаcģ!cŔQ"
 ·have g3:gLe [.int (i+j),.int 40]=some (.bl false,false):=by
   show some (D.bl (decide (i+j<=40)),false)=_
   rw [Br hp]
  rw [Br hp,B4];unfold aa ah
  trace "Ч҃ЄЬъUPХщ2ы1ǎСJЌpѳ)6cģa"
theorem gn{d e:D}(k:Kn d)(l:Kn e)(s:SzD d)(s':SzD e):Ok (.tup [.str "sides",d,e]):=by
 cases h:geW 1 d&&geW 1 e with
 | false =>
  have f:=A2 k l
  rw [show (inW 1 40 d&&inW 1 40 e)=false by
   cases h1:geW 1 d with
   | false=>rw [wR h1,B4]
   | true =>
    rw [h1,Cn] at h
    rw [wR h,BS]] at f
  exact aK (bE f (zY k l h))
 | true =>
  rw [By] at h;obtain ⟨i,rfl,hi⟩:=jc h.1;obtain ⟨j,rfl,hj⟩:=jc h.2;have f:ag [.tup [.str "sides",.int i,.int j]]=some (.ok (.bl ((decide (1<=i)&&decide (i<=40))&&(decide (1<=j)&&decide (j<=40)))) false,.non):=A2 k l;have du:=xC s s' hi hj
  by_cases hb:i<=40/\j<=40
  ·rw [bb hi hb.1,bb hj hb.2,Cn] at f
   obtain ⟨m,rfl⟩:=Ch (show 0<=i by omega);obtain ⟨n,rfl⟩:=Ch (show 0<=j by omega);have pl:ax [.tup [.str "sides",.int (m:Nat),.int (n:Nat)]]=some (.ok (.int ((m:Int)+n)) false,.non):=ft
   by_cases hp:m+n<=40
   ·by_cases ht:m * n<=60
    ·have ht':(m:Int) * (n:Int)<=60:=by rw [<- Int.natCast_mul];omega
     rw [bb (by omega) ht'] at du;exact mR (mX (wF (by omega) (by omega) hp (yq (by omega) (by omega) hp ht).2) du)
    ·have ht':¬ (m:Int) * (n:Int)<=60:=by rw [<- Int.natCast_mul];omega
     rw [bf fun q=>ht' q.2] at du
     have h9:m * n<=900:=by
      by_cases h2:m<=20
      ·exact Nat.le_trans (Nat.mul_le_mul h2 (show n<=40 by omega)) (by omega)
      ·exact Nat.le_trans (Nat.mul_le_mul (show m<=40 by omega) (show n<=20 by omega)) (by omega)
     exact aK ⟨zI f pl (by omega) (ik (by omega) (by omega) h9) (by rw [ku];omega),du⟩
   ·rw [bf fun q=>by have:=q.1;omega] at du
    exact aK ⟨zK f pl (by omega),du⟩
  ·rw [show ((decide (1<=i)&&decide (i<=40))&&(decide (1<=j)&&decide (j<=40)))=false by
    by_cases h4:i<=40
    ·rw [bf (a:=1<=j) fun q=>hb ⟨h4,q.2⟩,BS]
    ·rw [bf (a:=1<=i) fun q=>h4 q.2,B4]] at f
   rw [bf fun q=>by have:=q.1;omega] at du;exact aK (bE f du)
theorem vD{d:D}(h:bR "tuple" [d]=some (.bl false,false)):Bd (.tup [.str "spine",d]):=by
 have l:aZ [d]=some (.ok (.bl false) false,.non):=by
  unfold aZ ck
  trace "ЦBx`ISК"
 refine bE ?_ ?_
 ·unfold ag aC
  trace "хtа+ВЈ!5eĤa"
 ·unfold aa ah
  trace "эьy?ҳBЫeISК"
theorem nK{d:D}(k:Kn d)(h:geW 0 d=false)(q:gEq [.tup [d],.tup []]=some (.bl false,false)):Bd (.tup [.str "spine",.tup [d]]):=by
 have hi:=jx k 0 40
 have lo:inW 0 40 d=false:=by cases d<;>first | rfl | (rename_i i;show (decide (0<=i)&&decide (i<=40))=false;rw [show decide (0<=i)=false from h];rfl)
 rw [lo] at hi;have ga:=Ap false
 have l:aZ [.tup [d]]=some (.ok (.bl false) false,.non):=by
  unfold aZ ck
  trace "ДНЈ]Ѐҋ;QѣkUƏ!ЌQ"
 have kl:=k.l;refine bE ?_ ?_
 ·unfold ag aC
  trace "хtа+ВЈ!5eĤa"
 ·cases e:isW d with
  | false =>
   rw [e] at kl;unfold aa ah
   trace "эьФѴѧĢ]9ѢбQС6mѲЌж"
  | true =>
   match d,e with
   | .int i,_ =>
    have kl:aD [.int i]=some (.ok (.bl true) false,.non):=cO
    have gg:gGe [.int i,.int 0]=some (.bl false,false):=by
     show some (D.bl (decide (0<=i)),false)=_
     rw [show decide (0<=i)=false from h]
    unfold aa ah
    trace "эьФѴѧĢ]9ѢбQС}ѲcġЌж"
theorem yi:Bd (.tup [.str "spine",.tup [.int 0,.int (-1)]]):=by
 have h1:=jx (bH 0) 0 40;have h2:=jx (bH (-1)) 0 40;have k1:aD [.int 0]=some (.ok (.bl true) false,.non):=cO;have k2:aD [.int (-1)]=some (.ok (.bl true) false,.non):=cO;have ga:=xQ (inW 0 40 (.int 0)) (inW 0 40 (.int (-1)));have ga2:=xQ true false
 have l:aZ [.tup [.int 0,.int (-1)]]=some (.ok (.bl false) false,.non):=by
  unfold aZ ck
  trace "ДНЈ]Ѐҋ;QѣkUČ!ǎѣkUč!ЌQ"
 have g1:gGe [.int 0,.int 0]=some (.bl true,false):=rfl;have g2:gGe [.int (-1),.int 0]=some (.bl false,false):=rfl;refine bE ?_ ?_
 ·unfold ag aC
  trace "хtа+ВЈ!5eĤa"
 ·unfold aa ah
  trace "эьФѴ%p9ѢбQС}ƐWc1ǎС}ƑWcJҁƒж"
theorem yj:Bd (.tup [.str "spine",.tup []]):=by
 have l:aZ [.tup []]=some (.ok (.bl false) false,.non):=by
  unfold aZ ck
  trace "ЦоҔНЈК"
 refine bE ?_ ?_
 ·unfold ag aC
  trace "хtа+ВЈ!5eĤa"
 ·unfold aa ah
  trace "эьy?Ѵ%ж"
end K07
namespace K07
open PySem L2
theorem siz_sp{legs:List Nat}:aX [spK legs]=some (.ok (.tup [.int ((legs.length:Int)+(legs.sum:Nat)),.int ((legs.length:Int)+(legs.sum:Nat) - 1)]) false,.non):=by
 have ln:br [.tup (nD (iL legs))]=some (.int (legs.length:Nat),false):=by rw [gy,Be]
 have sm:gF [.tup (nD (iL legs))]=some (.int (legs.sum:Nat),false):=by rw [mY,nJ]
 unfold aX dq
 trace "ЦЬќЗ+eāГeĜPЗr+eāГeĜPU%Q"
theorem due_sp{legs:List Nat}(h0:legs≠[]):aa [spK legs]=some (.ok (.bl (decide (legs.length+legs.sum<=40))) false,.non):=by
 have h := @cO;have hs:=siz_sp (legs:=legs)
 have ne:gEq [.tup (nD (iL legs)),.tup []]=some (.bl false,false):=by
  have:=xo (ns:=iL legs) (ms:=[]);rw [Br (by cases legs with | nil=>exact absurd rfl h0 | cons _ _=>exact fun q=>by cases q)] at this;exact this
 have al:((iL legs).map fun x=>decide (0<=x)).all id=true:=by
  rw [List.all_map,List.all_map,Bx];intro x hx;exact Bl (show (0:Int)<=(x:Int) by omega)
 by_cases hp:legs.length+legs.sum<=40
 ·have g1:gLe [.int ((legs.length:Int)+(legs.sum:Nat)),.int 40]=some (.bl true,false):=by
   show some (D.bl (decide ((legs.length:Int)+(legs.sum:Nat)<=40)),false)=_
   rw [Bl (by omega)]
  have g2:gLe [.int ((legs.length:Int)+(legs.sum:Nat) - 1),.int 60]=some (.bl true,false):=by
   show some (D.bl (decide ((legs.length:Int)+(legs.sum:Nat) - 1<=60)),false)=_
   rw [Bl (by omega)]
  rw [Bl hp];unfold aa ah
  trace "эH9ЬФѴѧŕ]2ѢбQĲǗĊǍ}7WZѰ$ǪPǵ8ѳаc1!cJQ"
 ·have g1:gLe [.int ((legs.length:Int)+(legs.sum:Nat)),.int 40]=some (.bl false,false):=by
   show some (D.bl (decide ((legs.length:Int)+(legs.sum:Nat)<=40)),false)=_
   rw [Br (by omega)]
  rw [Br hp];unfold aa ah
  trace "эH9ЬФѴѧŕ]2ѢбQĲǗĊǍ}7WZѰ$ǪPǵ8ѳ)6c1a"
theorem cH{legs:List Nat}(h0:legs≠[])(hb:∀ l∈legs,l<=40):Ok (spK legs):=by
 have d:=due_sp h0
 by_cases hp:legs.length+legs.sum<=40
 ·rw [Bl hp] at d
  exact mR (mX (ok_sp h0 hp) d)
 ·rw [Br hp] at d
  exact aK ⟨zK (mG h0 hb) jl (by omega),d⟩
abbrev szL:List D:=[.int 0,.int (-1),.int 1,.int 2,.int 3,.int 11,.int 12,.int 30,.int 31,.int 39,.int 40,.int 41,.int 60,.bl true,.non,.str "3",.tup [.int 3],.lst [.int 3],.int (10 ^ 40)]
structure Sd(d:D):Prop where
 k:Kn d
 s:SzD d
 t:bR "tuple" [d]=some (.bl false,false)\/d = .tup [.int 3]
 f:d = .str "3" \/ (bR "str" [d]=some (.bl false,false)/\gEq [d,.str "spine"]=some (.bl false,false))
theorem cv{i:Int}(h:Sz i):Sd (.int i):=⟨bH i,h,.inl rfl,.inr ⟨rfl,rfl⟩⟩
theorem nM{d:D}(h:d∈szL):Sd d:=by
 simp only [szL,Bp,Cj,or_false] at h
 rcases h with rfl | rfl | rfl | rfl | rfl | rfl | rfl | rfl | rfl | rfl | rfl | rfl | rfl | rfl | rfl | rfl | rfl | rfl | rfl
 ·exact cv (.inl (by omega))
 ·exact cv (.inl (by omega))
 ·exact cv (.inl (by omega))
 ·exact cv (.inl (by omega))
 ·exact cv (.inl (by omega))
 ·exact cv (.inl (by omega))
 ·exact cv (.inl (by omega))
 ·exact cv (.inl (by omega))
 ·exact cv (.inl (by omega))
 ·exact cv (.inl (by omega))
 ·exact cv (.inl (by omega))
 ·exact cv (.inl (by omega))
 ·exact cv (.inl (by omega))
 ·exact ⟨AW true,trivial,.inl rfl,.inr ⟨rfl,rfl⟩⟩
 ·exact ⟨lg rfl rfl,trivial,.inl rfl,.inr ⟨rfl,rfl⟩⟩
 ·exact ⟨lg rfl rfl,trivial,.inl rfl,.inl rfl⟩
 ·exact ⟨lg rfl rfl,trivial,.inr rfl,.inr ⟨rfl,rfl⟩⟩
 ·exact ⟨lg rfl rfl,trivial,.inl rfl,.inr ⟨rfl,rfl⟩⟩
 ·exact cv (.inr rfl)
abbrev lgL:List D:=[.tup (nD (iL (List.replicate 41 0))),.tup [.int 40],.lst [.int 0],.tup [],.tup [.int 0,.int (-1)],.tup [.bl true],.tup [.non],.tup [.int 39],.tup (nD (iL (List.replicate 40 0))),.tup [.int 10,.int 9,.int 9,.int 9],.int 3,.tup [.tup [.int 0]]]
theorem lg_all{d:D}(h:d∈lgL):Ok (.tup [.str "spine",d]):=by
 simp only [lgL,Bp,Cj,or_false] at h
 rcases h with rfl | rfl | rfl | rfl | rfl | rfl | rfl | rfl | rfl | rfl | rfl | rfl
 ·exact cH (legs:=List.replicate 41 0) (by decide) (by decide)
 ·exact cH (legs:=[40]) (by decide) (by decide)
 ·exact aK (vD rfl)
 ·exact aK yj
 ·exact aK yi
 ·exact aK (nK (AW true) rfl rfl)
 ·exact aK (nK (lg rfl rfl) rfl rfl)
 ·exact cH (legs:=[39]) (by decide) (by decide)
 ·exact cH (legs:=List.replicate 40 0) (by decide) (by decide)
 ·exact cH (legs:=[10,9,9,9]) (by decide) (by decide)
 ·exact aK (vD rfl)
 ·exact aK (nK (lg rfl rfl) rfl rfl)
structure KD(w:Str)(ds:List D):Prop where
 hw:w = "spine" \/ w = "ring" \/ w = "sides" \/ w = "full" \/ w = "wheel" \/ w = "fan"
 l:ds.length=1\/ds.length=2
 z:Ok (.tup (.str w::ds))
 a:∀ d,Sd d->Ok (.tup [.str w,d])
 b:∀ d e,Sd d->Sd e->Ok (.tup [.str w,d,e])
 c0:∀ d,Sd d->Ok (.tup (d::ds))
 c1:∀ d,Sd d->Ok (.tup (.str w::d::ds.drop 1))
 c2:ds.length=2->∀ d,Sd d->Ok (.tup (.str w::(ds.take 1++[d])))
 d:Ok (.tup (.str w::(ds++[.int 3])))
 e:∀ u,Wo u->Ok (.tup (.str u::ds))
 f:Ok (.tup [.tup (.str w::ds),.tup (.str w::ds)])
theorem zM{w:Str}{a:Int}{n:Nat}(hw:w = "spine" \/ w = "ring" \/ w = "sides" \/ w = "full" \/ w = "wheel" \/ w = "fan")(W:Wd w a)(ok:∀ d,Kn d->SzD d->Ok (.tup [.str w,d]))(hn:n<=40):KD w [.int (n:Nat)]:=by
 have s:Sz (n:Nat):= .inl (by omega);have g:geW (10 ^ 50) (.int (n:Nat))=false:=Br (by omega);refine ⟨hw,.inl rfl,ok _ (bH _) s,fun d h=>ok d h.k h.s,fun d e _ _=>aK (wd_2 W),fun d h=> ?_,fun d h=>ok d h.k h.s,fun h=>absurd h (show ¬ (1:Nat)=2 by decide),aK (wd_2 W),fun u U=>aK (wH U (bH _) g),aK (uu rfl rfl)⟩
 rcases h.f with rfl | ⟨h1,h2⟩
 ·exact aK (wH od_3 (bH _) g)
 ·exact aK (uu h1 h2)
theorem p5{m n:Nat}(hm:m<=40)(hn:n<=40):KD "sides" [.int (m:Nat),.int (n:Nat)]:=by
 have s:SzD (.int (n:Nat)):= .inl (by omega);have s':SzD (.int (m:Nat)):= .inl (by omega);refine ⟨.inr (.inr (.inl rfl)),.inr rfl,gn (bH _) (bH _) s' s,fun d h=>aK sd_1,fun d e h h'=>gn h.k h'.k h.s h'.s,fun d h=> ?_,fun d h=>gn h.k (bH _) h.s s,fun _ d h=>gn (bH _) h.k s' h.s,aK sd_3,fun u U=>aK (od_2 U),aK (uu rfl rfl)⟩
 rcases h.f with rfl | ⟨h1,h2⟩
 ·exact aK (od_2 od_3)
 ·exact aK (uu h1 h2)
theorem eq_sp{l:List Int}:gEq [.tup [.str "spine",.tup (nD l)],.str "spine"]=some (.bl false,false):=by
 have h:af 9 (.tup [.str "spine",.tup (nD l)])=true:=by
  unfold af
  show (af 8 (.str "spine")&&(af 8 (.tup (nD l))&&true))=true
  rw [jz];rfl
 show (if (af 9 (.tup [.str "spine",.tup (nD l)])&&af 9 (.str "spine"))=true then some (D.bl (eqD (.tup [.str "spine",.tup (nD l)]) (.str "spine")),false) else none)=_
 rw [h];rfl
theorem wX{legs:List Nat}(h0:legs≠[])(hb:∀ l∈legs,l<=40):KD "spine" [.tup (nD (iL legs))]:=by
 have kn:Kn (.tup (nD (iL legs))):=lg rfl rfl
 have sa:∀ d,Sd d->Ok (.tup [.str "spine",d]):=fun d h=>by
  rcases h.t with t | rfl
  ·exact aK (vD t)
  ·exact cH (legs:=[3]) (by decide) (by decide)
 refine ⟨.inl rfl,.inl rfl,cH h0 hb,sa,fun d e _ _=>aK sp_2,fun d h=> ?_,sa,fun h=>absurd h (show ¬ (1:Nat)=2 by decide),aK sp_2,fun u U=>aK (wH U kn rfl),aK (uu rfl eq_sp)⟩
 rcases h.f with rfl | ⟨h1,h2⟩
 ·exact aK (wH od_3 kn rfl)
 ·exact aK (uu h1 h2)
theorem kd_of{k:D}(h:Gk k):∃ w ds,k = .tup (.str w::ds)/\KD w ds:=by
 rcases h with (⟨legs,h0,hb,rfl⟩ | ⟨n,h1,h2,rfl⟩ | ⟨m,n,h1,h2,h3,h4,rfl⟩) | ⟨n,h1,h2,rfl⟩ | ⟨n,h1,h2,rfl⟩ | ⟨n,h1,h2,rfl⟩
 ·exact ⟨_,_,rfl,wX h0 (rn (by omega))⟩
 ·exact ⟨_,_,rfl,zM (.inr (.inl rfl)) jU (fun _=>kP) h2⟩
 ·exact ⟨_,_,rfl,p5 (by omega) (by omega)⟩
 ·exact ⟨_,_,rfl,zM (.inr (.inr (.inr (.inl rfl)))) gf (fun _=>pP) (by omega)⟩
 ·exact ⟨_,_,rfl,zM (.inr (.inr (.inr (.inr (.inl rfl))))) dz (fun _=>mQ) (by omega)⟩
 ·exact ⟨_,_,rfl,zM (.inr (.inr (.inr (.inr (.inr rfl))))) gS (fun _=>tq) (by omega)⟩
end K07
namespace K07
open PySem L2
theorem oA{l:List D}{i:Int}(h0:0<=i)(h1:i < (l.length:Nat)):∃ d∈l,gIx [.lst l,.int i]=some (d,false):=by
 obtain ⟨n,rfl⟩:=Ch h0
 have hn:n < l.length:=by omega
 exact ⟨l[n],Ck hn,gz (lV (Bb hn))⟩
abbrev smL(k w u:D)(h x s e t:D)(l5 l6 l7:D):List D:=[x,.tup [w,s],.tup [w,s,e],h,.tup [.str "spine",t],l5,l6,l7,.non,.tup [.str "path",.int 3],.tup [.str "sides",.int 7,.int 8],.tup [.str "sides",.int 8,.int 8],.tup [.str "sides",.int 6,.int 11],w,.dK [] [],.tup [k,k]]
theorem xL{a b:Nat}(h:a<=40)(h':b<=40):Ok (.tup [.str "sides",.int (a:Nat),.int (b:Nat)]):=(p5 h h').z
theorem t_odd{w:Str}{ds:List D}(K:KD w ds)(P:Pn):∃ x P',ci [.tup (.str w::ds),pD P]=some (.ok x false,pD P')/\Ok x:=by
 have b1:=cr P (m:=19) (by omega) (by omega);obtain ⟨s,hs,g1⟩:=oA (l:=szL) b1.1 b1.2
 have ll:ds.length<=2:=by rcases K.l with h | h<;>omega
 have gl:br [.tup (.str w::ds)]=some (.int ((ds.length+1:Nat):Int),false):=rfl;have b2:=cr (nx P 19) (m:=((ds.length+1:Nat):Int)) (by omega) (by omega);have b3:=cr (nx (nx P 19) ((ds.length+1:Nat):Int)) (m:=19) (by omega) (by omega);obtain ⟨e,he,g3⟩:=oA (l:=szL) b3.1 b3.2;have b4:=cr (nx (nx (nx P 19) ((ds.length+1:Nat):Int)) 19) (m:=12) (by omega) (by omega);obtain ⟨t,ht,g4⟩:=oA (l:=lgL) b4.1 b4.2;have b5:=cr (nx (nx (nx (nx P 19) ((ds.length+1:Nat):Int)) 19) 12) (m:=16) (by omega) (by omega);have hS:=nM hs;have hE:=nM he
 obtain ⟨l5,l6,l7⟩:aY [.tup (.str w::ds),.tup [.int 3]]=some (.tup (.str w::(ds++[.int 3])),false)/\uG [.tup (.str w::ds),.int 1]=some (.tup [.str w],false)/\eK [.tup (.str w::ds),.int 1]=some (.tup ds,false):=by
  match ds,K.l with
  | [a],_=>exact ⟨rfl,rfl,rfl⟩
  | [a,b],_=>exact ⟨rfl,rfl,rfl⟩
 have l8:∀ u:D,aY [.tup [u],.tup ds]=some (.tup (u::ds),false):=by
  match ds,K.l with
  | [a],_=>exact fun _=>rfl
  | [a,b],_=>exact fun _=>rfl
 obtain ⟨x,hx,a,b,c,y1,y2,y3,y4⟩:∃ x,Ok x/\∃ a b c,uG [.tup (.str w::ds),.int (dr (nx P 19) ((ds.length+1:Nat):Int))]=some (.tup a,false)/\eK [.tup (.str w::ds),.int (dr (nx P 19) ((ds.length+1:Nat):Int)+1)]=some (.tup b,false)/\aY [.tup a,.tup [s]]=some (.tup c,false)/\aY [.tup c,.tup b]=some (x,false):=by
  generalize dr (nx P 19) ((ds.length+1:Nat):Int)=j at b2
  match ds,K,K.l with
  | [a],K,_ =>
   obtain rfl | rfl:j=0\/j=1:=by
    have h:([a]:List D).length=1:=rfl;omega
   ·exact ⟨_,K.c0 s hS,_,_,_,rfl,rfl,rfl,rfl⟩
   ·exact ⟨_,K.c1 s hS,_,_,_,rfl,rfl,rfl,rfl⟩
  | [a,b],K,_ =>
   obtain rfl | rfl | rfl:j=0\/j=1\/j=2:=by
    have h:([a,b]:List D).length=2:=rfl;omega
   ·exact ⟨_,K.c0 s hS,_,_,_,rfl,rfl,rfl,rfl⟩
   ·exact ⟨_,K.c1 s hS,_,_,_,rfl,rfl,rfl,rfl⟩
   ·exact ⟨_,K.c2 rfl s hS,_,_,_,rfl,rfl,rfl,rfl⟩
 obtain ⟨u,hu,U,hu2⟩:=od_up K.hw;have gw:gIx [.tup (.str w::ds),.int 0]=some (.str w,false):=eX jC;have gq:lE [.tup (.str w::ds)]=some (.lst (.str w::ds),true):=rfl
 have up:∀ {m:Md} {z1 z2 z3 z4 z5 z6:Option (D×Md)},sUp (sOp gIx [.bor 0,.ex (sC (.int 0))]) [some (.tup (.str w::ds),.fz),z1,z2,z3,z4,z5,z6]=some (.ok (.str u) false,[some (.tup (.str w::ds),.fz),z1,z2,z3,z4,z5,z6]):=by
  intro m z1 z2 z3 z4 z5 z6;refine r_up (z:=w) (nw:=false) ?_ hu2 hu
  trace "cĥ"
 have up := @up .fz;have p0:my [.int 10,.int 40]=some (.int (10 ^ 40),false):=rfl;have p1:lB [.tup [.int 0],.int 41]=some (.tup (nD (iL (List.replicate 41 0))),false):=rfl;have p2:lB [.tup [.int 0],.int 40]=some (.tup (nD (iL (List.replicate 40 0))),false):=rfl
 have bad:∀ x:D,bR "tuple" [x]=some (.bl false,false)->Ok x:=fun x h=>aK (bd_nt h)
 obtain ⟨r,hr,g5⟩:=oA (l:=smL (.tup (.str w::ds)) (.str w) (.str u) (.lst (.str w::ds)) x s e t (.tup (.str w::(ds++[.int 3]))) (.tup [.str w]) (.tup (.str u::ds))) b5.1 b5.2
 have ok:Ok r:=by
  simp only [smL,Bp,Cj,or_false] at hr
  rcases hr with rfl | rfl | rfl | rfl | rfl | rfl | rfl | rfl | rfl | rfl | rfl | rfl | rfl | rfl | rfl | rfl
  ·exact hx
  ·exact K.a s hS
  ·exact K.b s e hS hE
  ·exact bad _ rfl
  ·exact lg_all ht
  ·exact K.d
  ·exact aK (qy (show (1:Nat) < 2 by decide))
  ·exact K.e u U
  ·exact bad _ rfl
  ·exact aK (wH zw (bH 3) rfl)
  ·exact xL (a:=7) (b:=8) (by decide) (by decide)
  ·exact xL (a:=8) (b:=8) (by decide) (by decide)
  ·exact xL (a:=6) (b:=11) (by decide) (by decide)
  ·exact bad _ rfl
  ·exact bad _ rfl
  ·exact K.f
 refine ⟨r,nx (nx (nx (nx (nx P 19) ((ds.length+1:Nat):Int)) 19) 12) 16,?_,ok⟩
 have g6:∀ a b c d e f g h i j k l m n o p:D,br [.lst [a,b,c,d,e,f,g,h,i,j,k,l,m,n,o,p]]=some (.int 16,false):=fun _ _ _ _ _ _ _ _ _ _ _ _ _ _ _ _=>rfl
 unfold ci fc
 trace "ш/к'+Uoooooooѵ'г'У_Ɠ%XІпP1XhҒ`ĠP҆Xh/З+Ѓ^ƔҠ҈$ƕЃцPƖ$Ɨg'cĥ҈%XІѦg'cĥјzпPģ%zPƘ%PĦ!ǟXh/З@Ї_ƙѵ'гg%҂'+U%ѵѵѵЗ@Ї_ƚg҇кgѵ%%XІѦ҂zпPŔ%zҠЇPƛ'cƜЗ@'Ɲ%Ёƞ$ƟЇPĦ!ǟXІѦѶgoЇgoЇgoЇ'cĥ'ŁgТ%PĦ!ǟX)Zн`ƠP҆PơQ"
end K07
namespace K07
open PySem L2
abbrev ltL:List D:=[.tup [.str "full",.int 12],.tup [.str "wheel",.int 31],.tup [.str "fan",.int 31],.tup [.str "ring",.int 41],.tup [.str "sides",.int 1,.int 40],.tup [.str "sides",.int 5,.int 12],.tup [.str "ring",.int 2],.tup []]
theorem lt_all:∀ d∈ltL,Ok d:=fun d h=>by
 simp only [ltL,Bp,Cj,or_false] at h
 rcases h with rfl | rfl | rfl | rfl | rfl | rfl | rfl | rfl
 ·exact pP (bH _) (.inl (by omega))
 ·exact mQ (bH _) (.inl (by omega))
 ·exact tq (bH _) (.inl (by omega))
 ·exact kP (bH _) (.inl (by omega))
 ·exact xL (a:=1) (b:=40) (by decide) (by decide)
 ·exact xL (a:=5) (b:=12) (by decide) (by decide)
 ·exact kP (bH _) (.inl (by omega))
 ·exact aK (qy (show (0:Nat) < 2 by decide))
section
variable{x0 x1 x3 x4 x5 x6:Option (D×Md)}
theorem lp1:∃ y,bW (.nm 2) jY ltL [x0,x1,none,x3,x4,x5,x6]=some (.nx,[x0,x1,y,x3,x4,x5,x6]):=by
 obtain ⟨ρ',e,y,rfl⟩:=dS (T:= .nm 2) (f:=jY) (inj:=id) (fun (_:Unit) ρ=>∃ y,ρ=[x0,x1,y,x3,x4,x5,x6]) (fun _ _=>()) ltL () [x0,x1,none,x3,x4,x5,x6] ⟨_,rfl⟩ (by
  rintro c hc _ ρ ⟨y,rfl⟩;have r:bA [id c]=_:=(lt_all c hc).p;unfold jY
  trace "ѥ2xчĄ!p"
  exact ⟨_,rfl⟩)
 rw [List.map_id] at e;exact ⟨y,e⟩
theorem lp2{w:Str}{ds:List D}(K:KD w ds)(P:Pn):∃ P' y,bW (.nm 6) ir (nD (rgI 0 4)) [x0,x1,x3,x4,some (pD P,.ow),some (.tup (.str w::ds),.fz),x6]=some (.nx,[x0,x1,x3,x4,some (pD P',.ow),some (.tup (.str w::ds),.fz),y]):=by
 obtain ⟨ρ',e,P',y,rfl⟩:=dS (T:= .nm 6) (f:=ir) (inj:=D.int) (fun (_:Unit) ρ=>∃ (P:Pn) (y:Option (D×Md)),ρ=[x0,x1,x3,x4,some (pD P,.ow),some (.tup (.str w::ds),.fz),y]) (fun _ _=>()) (rgI 0 4) () [x0,x1,x3,x4,some (pD P,.ow),some (.tup (.str w::ds),.fz),x6] ⟨_,_,rfl⟩ (by
  rintro c hc _ ρ ⟨P,y,rfl⟩;obtain ⟨x,P',e,k⟩:=t_odd K P;have r:=k.p;unfold ir
  trace "ѥ2x05ҧAм$Ą!p"
  exact ⟨_,_,rfl⟩)
 exact ⟨P',y,e⟩
theorem lp3(ns:List Int):∃ y4 y5 y6 y7,bW (.nm 3) jX (nD (tY ns 0::oH ns (some 1) (some 6))) [some (.klst (nD ns),.fz),x0,x1,none,none,none,none]=some (.nx,[some (.klst (nD ns),.fz),x0,x1,y4,y5,y6,y7]):=by
 obtain ⟨ρ',e,y4,y5,y6,y7,rfl⟩:=dS (T:= .nm 3) (f:=jX) (inj:=D.int) (fun (_:Unit) ρ=>∃ y4 y5 y6 y7,ρ=[some (.klst (nD ns),.fz),x0,x1,y4,y5,y6,y7]) (fun _ _=>()) (tY ns 0::oH ns (some 1) (some 6)) () [some (.klst (nD ns),.fz),x0,x1,none,none,none,none] ⟨_,_,_,_,rfl⟩ (by
  rintro c hc _ ρ ⟨y4,y5,y6,y7,rfl⟩;obtain ⟨k,P',e,hk⟩:=qL (pen0 c);obtain ⟨w,ds,rfl,K⟩:=kd_of hk;have r:=K.z.p;obtain ⟨P2,y,e2⟩:=lp2 (x0:=some (.klst (nD ns),.fz)) (x1:=x0) (x3:=x1) (x4:=some (.int c,.fz)) (x6:=y7) K P';have e3:bW (.nm 6) ir (nD (rgI 0 (4:Int).toNat)) [some (.klst (nD ns),.fz),x0,x1,some (.int c,.fz),some (pD P',.ow),some (.tup (.str w::ds),.fz),y7]=_:=e2;unfold jX
  trace "ѥhmƢМhҒUAмЉxчĄ!pĀŉ_lƣ"
  exact ⟨_,_,_,_,rfl⟩)
 exact ⟨y4,y5,y6,y7,e⟩
end
theorem law_ok(ns:List Int):qf [.klst (nD ns)]=some (.ok (.bl true) false,.non):=by
 obtain ⟨y,e⟩:=lp1 (x0:=some (.klst (nD ns),.fz)) (x1:=some (.lst ltL,.fz)) (x3:=none) (x4:=none) (x5:=none) (x6:=none);obtain ⟨y4,y5,y6,y7,e2⟩:=lp3 (x0:=some (.lst ltL,.fz)) (x1:=y) ns;unfold qf Ay
 trace "ш/ѶѶѶѶgoЇ%XІѦgoЇѶg%%PĦȋǟ~ĀĭƤX!AHĀĭr/'БUƥ!%`Ʀ$Ƨl!Ņѿ"
end K07
namespace K07
open PySem L2 PyProof.Rows
def DIn(K:Dy)(x:Str)(i:Nat):Prop:=∃ (f:Addr) (od an:Option Addr) (sl:Array (Option Value)) (oc kV dc pm cd ct:Value),PySem.W.nsIn K mainGlobals x=some (some (.ref f))/\K.lookup f=some ⟨oc,od,.func (PySem.W.fnOf x x (cC (top i)) (bw (top i)) (ae (top i)) .none kV dc pm an cd ct),sl⟩/\PySem.W.codeIn K cd x=true/\PySem.W.keepIn K (.ref f)=true
theorem din_mk{K:Dy}{x:Str}{i:Nat}{f:Addr}{od an:Option Addr}{sl:Array (Option Value)}{oc kV dc pm cd ct:Value}(a:PySem.W.nsIn K mainGlobals x=some (some (.ref f)))(l:K.lookup f=some ⟨oc,od,.func (PySem.W.fnOf x x (cC (top i)) (bw (top i)) (ae (top i)) .none kV dc pm an cd ct),sl⟩)(c:PySem.W.codeIn K cd x=true)(k:PySem.W.keepIn K (.ref f)=true):DIn K x i:=⟨f,od,an,sl,oc,kV,dc,pm,cd,ct,a,l,c,k⟩
theorem rD{K:Dy}{mg:Str->Option Value}{h:Heap}(X:K.In h)(G:h.Ns mainGlobals mg){x:Str}{i:Nat}{ps:List Str}(d:DIn K x i)
 (hb:∀ (kV doc pm:Value) (an:Option Addr) (cdv ct:Value) (us:List Value),us.length=ps.length->bindArgs (PySem.W.fnOf x x (cC (top i)) (bw (top i)) (ae (top i)) .none kV doc pm an cdv ct) ⟨us,[]⟩=pure (ps.zip us)):Has K mg x (top i) ps:=by
 obtain ⟨f,od,an,sl,oc,kV,dc,pm,cd,ct,a,l,c,k⟩:=d;exact ⟨f,_,rK l c k,BV X G a,(rK (st:=top i) l c k).binds hb⟩
theorem own_of{K:Dy}{mg:Str->Option Value}{h:Heap}{x:Str}{C:Addr}{bs:List Value}{ni:String}(X:K.In h)(G:h.Ns mainGlobals mg)(e:PySem.W.nsIn K mainGlobals x=some (some (.ref C)))(q:PySem.W.excIn K C bs ni=true):OwnCls x C bs ni mg h where
 bound:=BV X G e
 obj:=by
  unfold PySem.W.excIn at q
  split at q
  case h_2=>cases q
  case h_1 d1 cl ss look =>
   split at q
   case h_2=>cases q
   case h_1 C2 rest a0 a1 a2 a3 nw a5 hmro hslots =>
    rcases cl with ⟨c1,c2,c3,c4,c5,c6,c7,c8,c9,c10,c11⟩
    rcases ss with ⟨ss⟩
    simp only [By,beq_iff_eq,Bool.not_eq_true'] at q
    rcases q with ⟨⟨⟨⟨⟨w1,w2⟩,w3⟩,w4⟩,w5⟩,w6⟩
    dsimp only at hmro hslots w3 w5 w6;cases w1;cases w2;cases hmro;cases w3;cases hslots;exact ⟨rest,c4,c1,c5,c2,c6,c7,c8,c9,c10,d1,a0,a1,a2,a3,a5,_,X _ _ look,.of_isNs (PySem.W.isNs_of_in X w5),PySem.W.nsMap_none_of_in X w5 w6,PySem.W.tail_of_in X w4⟩
theorem cq{K:Dy}{mg:Str->Option Value}{h:Heap}(X:K.In h)(G:h.Ns mainGlobals mg){x:Str}{i:Nat}(p0:Str)(d:DIn K x i)(hb:∀ (kV doc pm:Value) (an:Option Addr) (cdv ct u0:Value),bindArgs (PySem.W.fnOf x x (cC (top i)) (bw (top i)) (ae (top i)) .none kV doc pm an cdv ct) ⟨[u0],[]⟩=pure ([p0].zip [u0])):Has K mg x (top i) [p0]:=rD X G d fun _ _ _ _ _ _ us hl=>match us,hl with | [u0],_=>hb _ _ _ _ _ _ _
theorem gJ{K:Dy}{mg:Str->Option Value}{h:Heap}(X:K.In h)(G:h.Ns mainGlobals mg){x:Str}{i:Nat}(p0 p1:Str)(d:DIn K x i)(hb:∀ (kV doc pm:Value) (an:Option Addr) (cdv ct u0 u1:Value),bindArgs (PySem.W.fnOf x x (cC (top i)) (bw (top i)) (ae (top i)) .none kV doc pm an cdv ct) ⟨[u0,u1],[]⟩=pure ([p0,p1].zip [u0,u1])):Has K mg x (top i) [p0,p1]:=rD X G d fun _ _ _ _ _ _ us hl=>match us,hl with | [u0,u1],_=>hb _ _ _ _ _ _ _ _
theorem AZ{K:Dy}{mg:Str->Option Value}{h:Heap}(X:K.In h)(G:h.Ns mainGlobals mg){x:Str}{i:Nat}(p0 p1 p2:Str)(d:DIn K x i)(hb:∀ (kV doc pm:Value) (an:Option Addr) (cdv ct u0 u1 u2:Value),bindArgs (PySem.W.fnOf x x (cC (top i)) (bw (top i)) (ae (top i)) .none kV doc pm an cdv ct) ⟨[u0,u1,u2],[]⟩=pure ([p0,p1,p2].zip [u0,u1,u2])):Has K mg x (top i) [p0,p1,p2]:=rD X G d fun _ _ _ _ _ _ us hl=>match us,hl with | [u0,u1,u2],_=>hb _ _ _ _ _ _ _ _ _
theorem all_mk{l:PySem.W.OpenLaw}{w:World}{K:Dy}{h:Heap}{mg:Str->Option Value}{fa:Addr}(X:K.In h)(G:h.Ns mainGlobals mg)(hfa:mg "law" = some (.ref fa))
 {c8:Addr} {j8:ClassData}
 {k4:Addr} {b5:ClassData}
 {g6:Addr} {m6:ClassData}
 {a10:Addr} {c10:ClassData}
 {i6:Addr} {a7:ClassData}
 {m4:Addr} {c5:ClassData}
 {f8:Addr} {k8:ClassData}
 {b10:Addr} {f10:ClassData}
 {a5:Addr} {f5:ClassData}
 {TE:Addr} {eT:ClassData}
 {k3:Tok}
 {c4:Tok}
 {c2:Addr} {f2:Nat}
 {a1:Tok} {bb0:Addr} {db0:Option Addr} {nb0:Nat} {sb0:Array (Option Value)} {tb0_0:Tok}
 {b1:Tok} {bb1:Addr} {db1:Option Addr} {nb1:Nat} {sb1:Array (Option Value)} {tb1_0:Tok} {tb1_1:Tok}
 {c1:Tok} {bb2:Addr} {db2:Option Addr} {nb2:Nat} {sb2:Array (Option Value)} {tb2_0:Tok}
 {f1:Tok} {bb3:Addr} {db3:Option Addr} {nb3:Nat} {sb3:Array (Option Value)} {tb3_0:Tok}
 {g1:Tok} {bb4:Addr} {db4:Option Addr} {nb4:Nat} {sb4:Array (Option Value)} {tb4_0:Tok}
 (d0:DIn K "is_whole" 12)
 (d1:DIn K "whole_within" 13)
 (d2:DIn K "many_good" 17)
 (d3:DIn K "tie_told" 18)
 (d4:DIn K "is_place" 19)
 (d5:DIn K "web_of" 20)
 (d6:DIn K "kind_good" 23)
 (d7:DIn K "web_for" 24)
 (d8:DIn K "form_good" 25)
 (d9:DIn K "legs_good" 26)
 (d10:DIn K "numbers_good" 27)
 (d11:DIn K "places_in" 28)
 (d12:DIn K "ties_in" 29)
 (d13:DIn K "row_ties" 30)
 (d14:DIn K "star_ties" 31)
 (d15:DIn K "spine_ties" 32)
 (d16:DIn K "ring_ties" 33)
 (d17:DIn K "sides_ties" 34)
 (d18:DIn K "full_ties" 35)
 (d19:DIn K "fan_ties" 36)
 (d20:DIn K "wheel_ties" 37)
 (d21:DIn K "_law_cell_at" 39)
 (d22:DIn K "_law_next" 40)
 (d23:DIn K "_law_pen_of" 41)
 (d24:DIn K "_law_draw" 42)
 (d25:DIn K "_law_whole" 43)
 (d26:DIn K "_law_kind_by" 46)
 (d27:DIn K "_law_kind_of" 47)
 (d28:DIn K "_law_sizes" 48)
 (d29:DIn K "_law_due_kind" 49)
 (d30:DIn K "_law_odd_kind" 50)
 (d31:DIn K "_law_right" 51)
 (d32:DIn K "law" 52)
 (f4:PySem.W.nsIn K mainGlobals "ValueError" = some none)
 (i11:PySem.W.nsIn K mainGlobals "all" = some none)
 (f11:PySem.W.nsIn K mainGlobals "bool" = some none)
 (j4:PySem.W.nsIn K mainGlobals "enumerate" = some none)
 (j11:PySem.W.nsIn K mainGlobals "int" = some none)
 (g4:PySem.W.nsIn K mainGlobals "isinstance" = some none)
 (k11:PySem.W.nsIn K mainGlobals "len" = some none)
 (g11:PySem.W.nsIn K mainGlobals "list" = some none)
 (m11:PySem.W.nsIn K mainGlobals "max" = some none)
 (a12:PySem.W.nsIn K mainGlobals "min" = some none)
 (b11:PySem.W.nsIn K mainGlobals "range" = some none)
 (m9:PySem.W.nsIn K mainGlobals "sorted" = some none)
 (b12:PySem.W.nsIn K mainGlobals "str" = some none)
 (c12:PySem.W.nsIn K mainGlobals "sum" = some none)
 (c11:PySem.W.nsIn K mainGlobals "tuple" = some none)
 (f12:PySem.W.nsIn K mainGlobals "zip" = some none)
 (b4:PySem.W.nsIn K mainGlobals "MOST_PLACES" = some (some (.int 40 k3)))
 (i4:PySem.W.nsIn K mainGlobals "MOST_TIES" = some (some (.int 60 c4)))
 (c3:PySem.W.nsIn K mainGlobals "LEAST_NUMBERS" = some (some (.ref c2)))
 (g2:K.lookup c2=some ⟨.type "dict",none,.dict #[⟨PyData.keyHash w.params "ring",.str "ring" a1,.ref bb0⟩,⟨PyData.keyHash w.params "sides",.str "sides" b1,.ref bb1⟩,⟨PyData.keyHash w.params "full",.str "full" c1,.ref bb2⟩,⟨PyData.keyHash w.params "wheel",.str "wheel" f1,.ref bb3⟩,⟨PyData.keyHash w.params "fan",.str "fan" g1,.ref bb4⟩] f2,#[]⟩)
 (lb0:K.lookup bb0=some ⟨.type "tuple",db0,.seq #[.int 3 tb0_0] nb0,sb0⟩)
 (lb1:K.lookup bb1=some ⟨.type "tuple",db1,.seq #[.int 1 tb1_0,.int 1 tb1_1] nb1,sb1⟩)
 (lb2:K.lookup bb2=some ⟨.type "tuple",db2,.seq #[.int 1 tb2_0] nb2,sb2⟩)
 (lb3:K.lookup bb3=some ⟨.type "tuple",db3,.seq #[.int 3 tb3_0] nb3,sb3⟩)
 (lb4:K.lookup bb4=some ⟨.type "tuple",db4,.seq #[.int 1 tb4_0] nb4,sb4⟩)
 (i2:(c2 == sysModules)=false)
 (m8:PySem.W.nsIn K mainGlobals "NoKind" = some (some (.ref c8)))
 (i9:PySem.W.excIn K c8 [.type "ValueError",.type "Exception",.type "BaseException",.type "object"] "ValueError.__new__" = true)
 (nT:PySem.W.nsIn K mainGlobals "TieError" = some (some (.ref TE)))
 (yT:PySem.W.clsIn K TE=some eT)
 (tT:PySem.W.typeIn K (.ref TE)=some (.type "type"))
 (sT:PySem.W.subIn K (.ref TE) (.type "BaseException")=some true)
 (g9:PySem.W.subIn K (.ref c8) (.ref TE)=some true)
 (i10:PySem.W.nsIn K mainGlobals "NoWeb" = some (some (.ref b10)))
 (a11:PySem.W.clsIn K b10=some f10)
 (k10:PySem.W.typeIn K (.ref b10)=some (.type "type"))
 (g7:PySem.W.nsIn K mainGlobals "NoPlace" = some (some (.ref g6)))
 (a8:PySem.W.clsIn K g6=some m6)
 (k7:PySem.W.typeIn K (.ref g6)=some (.type "type"))
 (j9:PySem.W.clsIn K c8=some j8)
 (b9:PySem.W.typeIn K (.ref c8)=some (.type "type"))
 (i7:PySem.W.nsIn K mainGlobals "NoShare" = some (some (.ref i6)))
 (b8:PySem.W.clsIn K i6=some a7)
 (m7:PySem.W.typeIn K (.ref i6)=some (.type "type"))
 (i5:PySem.W.nsIn K mainGlobals "NoSquare" = some (some (.ref m4)))
 (c6:PySem.W.clsIn K m4=some c5)
 (m5:PySem.W.typeIn K (.ref m4)=some (.type "type"))
 (g5:PySem.W.nsIn K mainGlobals "NoNumber" = some (some (.ref k4)))
 (b6:PySem.W.clsIn K k4=some b5)
 (k5:PySem.W.typeIn K (.ref k4)=some (.type "type"))
 (a9:PySem.W.nsIn K mainGlobals "NoText" = some (some (.ref f8)))
 (k9:PySem.W.clsIn K f8=some k8)
 (c9:PySem.W.typeIn K (.ref f8)=some (.type "type"))
 (g10:PySem.W.nsIn K mainGlobals "NoRow" = some (some (.ref a10)))
 (m10:PySem.W.clsIn K a10=some c10)
 (j10:PySem.W.typeIn K (.ref a10)=some (.type "type"))
 (j5:PySem.W.nsIn K mainGlobals "TooGreat" = some (some (.ref a5)))
 (f6:PySem.W.clsIn K a5=some f5)
 (a6:PySem.W.typeIn K (.ref a5)=some (.type "type"))
 (j3:PySem.W.subIn K (.ref c8) (.ref b10)=some false)
 (a4:c8≠b10)
 (j2:PySem.W.subIn K (.ref c8) (.ref g6)=some false)
 (m2:c8≠g6)
 (k2:PySem.W.subIn K (.ref c8) (.ref i6)=some false)
 (a3:c8≠i6)
 (j1:PySem.W.subIn K (.ref c8) (.ref m4)=some false)
 (a2:c8≠m4)
 (i1:PySem.W.subIn K (.ref c8) (.ref k4)=some false)
 (m1:c8≠k4)
 (f3:PySem.W.subIn K (.ref c8) (.ref f8)=some false)
 (g3:c8≠f8)
 (i3:PySem.W.subIn K (.ref c8) (.ref a10)=some false)
 (m3:c8≠a10)
 (k1:PySem.W.subIn K (.ref c8) (.ref a5)=some false)
 (b2:c8≠a5)
 (f9:PySem.W.subIn K (.ref c8) (.type "ValueError")=some true)
 (b7:PySem.W.findIn K (.ref c8) "__getattribute__" = some (some (.builtin "BaseException.__getattribute__")))
 (c7:PySem.W.findIn K (.ref c8) "__getattr__" = some none)
 (f7:PySem.W.mroIn K c8 (.type "BaseException")=some true)
 (k6:PySem.W.findIn K (.ref c8) "__class__" = some (some (.builtin "object.__class__")))
 (j7:PySem.W.mroIn K c8 (.type "object")=some true)
 : ∃ fd:FuncData,(∀ (s:Shared) (v:Value),BindsTo s fd ⟨[v],[]⟩ [("script",v)])/\∀ base:Heap,K.In base->base.Ns mainGlobals mg->l9 l.prog w K mg base (CXr l.prog w) 8 fa fd ["script"] (spF K none qf):=by
 obtain ⟨fL,odL,anL,slL,ocL,kVL,dcL,pmL,cdL,ctL,aL,lL,cL,kL⟩:=d32;cases hfa.symm.trans (BV X G aL);have T:Txt K mg:=⟨BH X G f4,BH X G i11,BH X G f11,BH X G j4,BH X G j11,BH X G g4,BH X G k11,BH X G g11,BH X G m11,BH X G a12,BH X G b11,BH X G m9,BH X G b12,BH X G c12,BH X G c11,BH X G f12,⟨k3,BV X G b4⟩,⟨c4,BV X G i4⟩⟩;have b3:t3 w K mg "LEAST_NUMBERS" ao aq:=⟨⟨c2,[.ref bb0,.ref bb1,.ref bb2,.ref bb3,.ref bb4],BV X G c3,rfl,fzM_of [("ring",a1,bb0),("sides",b1,bb1),("full",c1,bb2),("wheel",f1,bb3),("fan",g1,bb4)] i2 g2 (show (["ring", "sides", "full", "wheel", "fan"]:List Str).Nodup by decide),fun H=>⟨⟨bb0,[.int 3],rfl,.inr ⟨_,#[.int 3 tb0_0],nb0,lb0,rfl,rfl,by show 1<=sizeLine;decide,(.cons ⟨_,rfl⟩ .nil)⟩,rfl,trivial⟩,⟨bb1,[.int 1,.int 1],rfl,.inr ⟨_,#[.int 1 tb1_0,.int 1 tb1_1],nb1,lb1,rfl,rfl,by show 2<=sizeLine;decide,(.cons ⟨_,rfl⟩ (.cons ⟨_,rfl⟩ .nil))⟩,rfl,rfl,trivial⟩,⟨bb2,[.int 1],rfl,.inr ⟨_,#[.int 1 tb2_0],nb2,lb2,rfl,rfl,by show 1<=sizeLine;decide,(.cons ⟨_,rfl⟩ .nil)⟩,rfl,trivial⟩,⟨bb3,[.int 3],rfl,.inr ⟨_,#[.int 3 tb3_0],nb3,lb3,rfl,rfl,by show 1<=sizeLine;decide,(.cons ⟨_,rfl⟩ .nil)⟩,rfl,trivial⟩,⟨bb4,[.int 1],rfl,.inr ⟨_,#[.int 1 tb4_0],nb4,lb4,rfl,rfl,by show 1<=sizeLine;decide,(.cons ⟨_,rfl⟩ .nil)⟩,rfl,trivial⟩,trivial⟩⟩⟩;have D0:=cq X G "thing" d0 (by intros;rfl);have D1:=AZ X G "thing" "least" "most" d1 (by intros;rfl);have D2:=cq X G "thing" d2 (by intros;rfl);have D3:=gJ X G "many" "thing" d3 (by intros;rfl);have D4:=gJ X G "many" "thing" d4 (by intros;rfl);have D5:=gJ X G "many" "things" d5 (by intros;rfl);have D6:=cq X G "thing" d6 (by intros;rfl);have D7:=cq X G "kind" d7 (by intros;rfl)
 have D8:=cq X G "thing" d8 (by intros;rfl);have D9:=cq X G "thing" d9 (by intros;rfl);have D10:=gJ X G "leasts" "things" d10 (by intros;rfl);have D11:=cq X G "kind" d11 (by intros;rfl);have D12:=cq X G "kind" d12 (by intros;rfl);have D13:=gJ X G "first" "last" d13 (by intros;rfl);have D14:=AZ X G "middle" "first" "last" d14 (by intros;rfl);have D15:=cq X G "legs" d15 (by intros;rfl);have D16:=cq X G "n" d16 (by intros;rfl);have D17:=gJ X G "m" "n" d17 (by intros;rfl);have D18:=cq X G "n" d18 (by intros;rfl);have D19:=cq X G "n" d19 (by intros;rfl);have D20:=cq X G "n" d20 (by intros;rfl);have D21:=gJ X G "script" "k" d21 (by intros;rfl);have D22:=cq X G "seed" d22 (by intros;rfl);have D23:=cq X G "cell" d23 (by intros;rfl);have D24:=gJ X G "pen" "many" d24 (by intros;rfl);have D25:=cq X G "found" d25 (by intros;rfl);have D26:=gJ X G "pen" "most" d26 (by intros;rfl);have D27:=cq X G "e" d27 (by intros;rfl);have D28:=cq X G "kind" d28 (by intros;rfl);have D29:=cq X G "thing" d29 (by intros;rfl);have D30:=gJ X G "kind" "pen" d30 (by intros;rfl);have D31:=cq X G "thing" d31 (by intros;rfl);refine ⟨PySem.W.fnOf "law" "law" (cC (top 52)) (bw (top 52)) (ae (top 52)) .none kVL dcL pmL anL cdL ctL,fun s v=> .of_eq rfl,fun base KB GB=> ?_⟩;have g8:OwnCls "NoKind" c8 [.type "ValueError",.type "Exception",.type "BaseException",.type "object"] "ValueError.__new__" mg base:=own_of KB GB m8 i9;have i8:oX K mg base "NoKind" := ⟨_,_,_,_,_,g8,PySem.F.excBase_ValueError,m8⟩;have HT:Hdl K mg "TieError" TE:=⟨BV X G nT,sT,by rw [yT];rfl,tT⟩
 have SU:∀ nm,nms.elem nm=true->∀ C,fS K nm C->PySem.W.subIn K (.ref C) (.ref TE)=some true:=fun nm h C hC=>by
  rcases (by simpa [nms] using h:nm=("NoKind" : Str)) with rfl
  ·have e:C=c8:=by have:=(show PySem.W.nsIn K mainGlobals "NoKind" = _ from hC).symm.trans m8;simpa using this
   subst e;exact g9
 have j6:Kd.so K mg c8 2:=⟨⟨b7,c7,f7,k6,j7,by rw [j9];rfl⟩,by decide,Kd.kit_ve f9,⟨b10,BV X G i10,Kd.cp a4 a11 k10 j3⟩,⟨g6,BV X G g7,Kd.cp m2 a8 k7 j2⟩,⟨c8,BV X G m8,Kd.wU⟩,⟨i6,BV X G i7,Kd.cp a3 b8 m7 k2⟩,⟨m4,BV X G i5,Kd.cp a2 c6 m5 j1⟩,⟨k4,BV X G g5,Kd.cp m1 b6 k5 i1⟩,⟨f8,BV X G a9,Kd.cp g3 k9 c9 f3⟩,⟨a10,BV X G g10,Kd.cp m3 m10 j10 i3⟩,⟨a5,BV X G j5,Kd.cp b2 f6 a6 k1⟩⟩
 have KN:Kd.xV K mg nms:=⟨fun nm h j hj C hC=>by
  rcases (by simpa [nms] using h:nm=("NoKind" : Str)) with rfl
  ·have e:C=c8:=by have:=(show PySem.W.nsIn K mainGlobals "NoKind" = _ from hC).symm.trans m8;simpa using this
   subst e;rw [show Kd.names.findIdx? (·== ("NoKind" : Str))=some 2 by decide +kernel] at hj;cases hj
   exact j6⟩
 have GK:=zr (P:=l.prog) (w:=w) (base:=base) D27 T;have G5:=pS (P:=l.prog) (w:=w) (base:=base) D0 T;have G15:=nZ (P:=l.prog) (w:=w) (base:=base) D11 T;have G6:=pR (P:=l.prog) (w:=w) (base:=base) D13 T;have G17:=nX (P:=l.prog) (w:=w) (base:=base) D14 T;have G25:=jR (P:=l.prog) (w:=w) (base:=base) D21 T;have G9:=og (P:=l.prog) (w:=w) (base:=base) D22 T;have G24:=kQ (P:=l.prog) (w:=w) (base:=base) D23 T;have G20:=mm (P:=l.prog) (w:=w) (base:=base) D25 T;have G19:=mo (P:=l.prog) (w:=w) (base:=base) D28 T;have G28:=jO (P:=l.prog) (w:=w) (base:=base) D1 T G5;have G22:=mj (P:=l.prog) (w:=w) (base:=base) D15 T G6 G17;have G16:=nY (P:=l.prog) (w:=w) (base:=base) D16 T G6;have G21:=ml (P:=l.prog) (w:=w) (base:=base) D17 T G17;have G11:=oa (P:=l.prog) (w:=w) (base:=base) D18 T G17;have G3:=pV (P:=l.prog) (w:=w) (base:=base) D19 T G17 G6;have G8:=oh (P:=l.prog) (w:=w) (base:=base) D24 T G9;have G29:=iZ (P:=l.prog) (w:=w) (base:=base) D29 T G20 G19;have G14:=n5 (P:=l.prog) (w:=w) (base:=base) D2 T G28;have G4:=pU (P:=l.prog) (w:=w) (base:=base) D4 T G28;have G13:=n8 (P:=l.prog) (w:=w) (base:=base) D9 T G28;have G27:=jP (P:=l.prog) (w:=w) (base:=base) D10 T G28;have G23:=mh (P:=l.prog) (w:=w) (base:=base) D20 T G3;have G26:=jQ (P:=l.prog) (w:=w) (base:=base) D26 T G8;have G30:=iY (P:=l.prog) (w:=w) (base:=base) D30 T G8;have G7:=pQ (P:=l.prog) (w:=w) (base:=base) D3 T G4;have G10:=of (P:=l.prog) (w:=w) (base:=base) D8 T G13 G27 b3;have G1:=rf (P:=l.prog) (w:=w) (base:=base) D12 T G22 G16 G21 G11 G23 G3
 have G0:=ur (P:=l.prog) (w:=w) (base:=base) D5 T G14 G7;have G12:=n9 (P:=l.prog) (w:=w) (base:=base) D6 T G10 G15 G1;have G2:=re (P:=l.prog) (w:=w) (base:=base) D7 T G12 G0 G15 G1 i8;have G18:=mq (P:=l.prog) (w:=w) (base:=base) D31 T G29 G12 G2 HT SU GK KN;exact ok_law (P:=l.prog) (w:=w) (base:=base) (rK lL cL kL) T G18 G25 G24 G26 G30
end K07
open PySem PySem.W PyProof.Rows
def PySem.W.Fast.tw9289720546416481338:=0
def PySem.W.Fast.tw6397798872860733234:=0
def PySem.W.Fast.tw17643754061406199020:=0
def PySem.W.Fast.tw10209164474934016114:=0
def PySem.W.Fast.tw17624731456758155189:=0
def PySem.W.Fast.tw16472409268878238316:=0
def PySem.W.Fast.tw8426798971799828003:=0
def PySem.W.Fast.tw8933567498414919238:=0
def PySem.W.Fast.tw14613296582639449008:=0
def PySem.W.Fast.tw11627183963262164719:=0
def PySem.W.Fast.tw3172541193896328996:=0
def PySem.W.Fast.tw2665306549610424077:=0
def PySem.W.Fast.tw1541540961381408409:=0
def PySem.W.Fast.tw5388663596951873645:=0
def PySem.W.Fast.tw2625098255110226060:=0
def PySem.W.Fast.tw12941643214049860704:=0
def PySem.W.Fast.tw13056512690104125533:=0
def PySem.W.Fast.tw3094701115853657799:=0
def PySem.W.Fast.tw1385777081429181588:=0
def PySem.W.Fast.tw16279701975793424917:=0
def PySem.W.Fast.tw14664143388883261400:=0
def PySem.W.Fast.tw17721039672839981703:=0
def PySem.W.Fast.tw2766794811542550618:=0
def PySem.W.Fast.tw10752687858943698738:=0
def PySem.W.Fast.tw17601101962401091345:=0
def PySem.W.Fast.tw11712190458185945011:=0
def PySem.W.Fast.tw14374603453287560736:=0
def PySem.W.Fast.tw802917404587063742:=0
def PySem.W.Fast.tw15679247252792206210:=0
def PySem.W.Fast.tw15431134087688302020:=0
def PySem.W.Fast.tw6585068141940680455:=0
def PySem.W.Fast.tw12671145501339873496:=0
def PySem.W.Fast.tw17011488483646847055:=0
def PySem.W.Fast.tw16037262199133111090:=0
def PySem.W.Fast.tw4211700434839312001:=0
def PySem.W.Fast.tw15759416001723992421:=0
def PySem.W.Fast.tw11386625637836781638:=0
def PySem.W.Fast.tw13767189678803695011:=0
def PySem.W.Fast.tw9761588102954696855:=0
def PySem.W.Fast.tw2810533944269268182:=0
def PySem.W.Fast.tw729466047920990731:=0
def PySem.W.Fast.tw17387112616736192742:=0
def PySem.W.Fast.tw17119971604622065936:=0
def PySem.W.Fast.tw2648174423076098445:=0
def PySem.W.Fast.tw3373145609055282853:=0
def PySem.W.Fast.tw317932667124481529:=0
def PySem.W.Fast.tw11188117447681078326:=0
def PySem.W.Fast.tw11628655550579775585:=0
def PySem.W.Fast.tw1647960591809683682:=0
def PySem.W.Fast.tw1733859077932722978:=0
def PySem.W.Fast.tw5680315236850328200:=0
def PySem.W.Fast.tw15223397061033166810:=0
def PySem.W.Fast.tw18167724695441219349:=0
def PySem.W.Fast.tw10896712999787139778:=0
def PySem.W.Fast.tw3664731896753646195:=0
def PySem.W.Fast.tw4038909232737020655:=0
def PySem.W.Fast.tw5587484289544270231:=0
def PySem.W.Fast.tw3808584094389355786:=0
def PySem.W.Fast.tw4177351759533223642:=0
def PySem.W.Fast.tw1848846698572520396:=0
def PySem.W.Fast.tw1998032249293215463:=0
def PySem.W.Fast.tw9161490523856799436:=0
def PySem.W.Fast.tw11300376045408061371:=0
def PySem.W.Fast.tw6205024481829086969:=0
def PySem.W.Fast.tw10178278686740834804:=0
def PySem.W.Fast.tw10241233070082051121:=0
def PySem.W.Fast.tw12523711969749109062:=0
def PySem.W.Fast.tw6181526210622171578:=0
def PySem.W.Fast.tw14650769484350525481:=0
def PySem.W.Fast.tw2450569374399577549:=0
def PySem.W.Fast.tw16803143847538834185:=0
open_top head for PySem.Challenge.rw_tienumbers_k07_what_is_no_kind
set_option maxRecDepth 100000 in
set_option maxHeartbeats 0 in
theorem PySem.Challenge.cw_tienumbers_k07_what_is_no_kind_holds : PySem.Challenge.rw_tienumbers_k07_what_is_no_kind.Holds := by
 refine head ?_
 k_fill
 refine L2.xY (l:=PySem.Challenge.rw_tienumbers_k07_what_is_no_kind) (n:=63) (k:=8) (x := "script") (CX:=fun w=>L2.CXr (PySem.Challenge.rw_tienumbers_k07_what_is_no_kind).prog w) (sp:=fun w=>L2.spF _ none K07.qf) rfl (by decide) rfl ⟨rfl,by decide,by decide,rfl⟩ (fun w h Y=>PySem.W.kIn_of Y) ?F (fun _ _ a ns hl _ hS=>L2.yk ⟨_,K07.law_ok ns⟩ hS) fun _ _ _ _ _ z=>L2.uM z
 case F =>
  intro w mg fa h KX G hmg;refine' K07.all_mk KX G hmg ?_ ?_ ?_ ?_ ?_ ?_ ?_ ?_ ?_ ?_ ?_ ?_ ?_ ?_ ?_ ?_ ?_ ?_ ?_ ?_ ?_ ?_ ?_ ?_ ?_ ?_ ?_ ?_ ?_ ?_ ?_ ?_ ?_ ?_ ?_ ?_ ?_ ?_ ?_ ?_ ?_ ?_ ?_ ?_ ?_ ?_ ?_ ?_ ?_ ?_ ?_ ?_ ?_ ?_ ?_ ?_ ?_ ?_ ?_ ?_ ?_ ?_ ?_ ?_ ?_ ?_ ?_ ?_ ?_ ?_ ?_ ?_ ?_ ?_ ?_ ?_ ?_ ?_ ?_ ?_ ?_ ?_ ?_ ?_ ?_ ?_ ?_ ?_ ?_ ?_ ?_ ?_ ?_ ?_ ?_ ?_ ?_ ?_ ?_ ?_ ?_ ?_ ?_ ?_ ?_ ?_ ?_ ?_ ?_ ?_ ?_ ?_ ?_ ?_
  all_goals first | (apply K07.din_mk<;>k_is) | k_is | k_exc | decide | skip
