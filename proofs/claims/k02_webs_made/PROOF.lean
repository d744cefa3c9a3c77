import PyProof.Rows.All
import Wide.All
import OpenK.AllK
import Wide.FinOn
import Lean
import PyProof.EqAt
import PyProof.EqKinds
import PyProof.TupleCall
import PyProof.CallFns
import PyProof.Draws
import PyProof.EnumMake
import PyProof.ExcArgsOwn
import PyProof.FactsAll.dict_1
import PyProof.FactsAll.dict_4
import PyProof.FactsAll.subtypes_4
import PyProof.FactsAll.tuple_2
import PyProof.ListMulRoad
import PyProof.ListRange
import PyProof.MaxThree
import PyProof.NeKinds
import PyProof.ReprRoads
import PyProof.Rows.CallKwBuiltin
import PyProof.Rows.EnumRows
import PyProof.Rows.SetFrom
import PyProof.Rows.SortRev
import PyProof.TupleOfStr
import PySem.Challenge.RW_tienumbers_k02_webs_made
set_option Elab.async false
set_option linter.all false
set_option maxRecDepth 100000
set_option maxHeartbeats 4000000
section
open PySem PySem.Spec PyProof.Rows
abbrev yB:=@wpAny_bind
abbrev yC:=@Heap.get?_push_of_some
abbrev yD:=@List.getElem?_eq_getElem
abbrev yE:=@wpAny_pure
abbrev yF:=@List.length_map
abbrev yG:=@List.size_toArray
abbrev yH:=@List.mem_cons_of_mem
abbrev yI:=@List.mem_append_left
abbrev yJ:=@Bool.false_ne_true
abbrev yK:=@List.mem_append_right
abbrev yL:=@List.mem_cons_self
abbrev yM:=@List.length_cons
abbrev yN:=@Heap.lt_size
abbrev yO:=@Nat.le_refl
abbrev yP:=@List.mem_cons
abbrev yQ:=@Heap.get?_push_size
abbrev yR:=@List.getElem?_eq_some_iff
abbrev yS:=@of_decide_eq_true
abbrev yU:=@List.mem_of_getElem?
abbrev yV:=@decide_eq_true
abbrev yW:=@List.map_cons
abbrev yX:=@List.length_append
abbrev yY:=@Bool.and_eq_true
abbrev yZ:=@List.all_eq_true
abbrev y0:=@List.getElem?_cons_zero
abbrev za:=@Nat.ne_of_lt
abbrev zb:=@Nat.lt_of_lt_of_le
abbrev zc:=@List.getElem?_map
abbrev zd:=@decide_eq_false
abbrev ze:=@List.mem_singleton
abbrev zf:=@List.getD_eq_getElem?_getD
abbrev zg:=@List.mem_append
abbrev zh:=@List.getElem?_set_ne
abbrev zi:=@List.getElem?_cons_succ
abbrev zj:=@List.getElem?_append_left
abbrev zk:=@wpAny_newObj_type
abbrev zl:=@PySem.W.mg_none_of
abbrev zm:=@Array.getD_eq_getD_getElem?
abbrev zn:=@List.pairwise_cons
abbrev zo:=@List.length_replicate
abbrev zp:=@wpAny_mono
abbrev zq:=@wpAny_callSpecial?_slot
abbrev zr:=@PySem.W.mg_of
abbrev zt:=@Array.length_toList
abbrev zu:=@Nat.le_trans
abbrev zv:=@Option.map_eq_some_iff
abbrev zw:=@List.mem_filter
abbrev zx:=@wpAny_call_entry
abbrev zy:=@List.getElem?_set_self
abbrev zz:=@List.length_set
abbrev zA:=@Array.getElem?_eq_getElem
abbrev zB:=@List.lookup_cons
abbrev zC:=@PySem.mem_of_lookup
abbrev zD:=@List.replicate_succ
abbrev zE:=@Nat.zero_add
abbrev zF:=@wpAny_loadPart'
abbrev zG:=@wpAny_holding
abbrev zH:=@List.set_cons_zero
abbrev zI:=@List.set_cons_succ
abbrev zJ:=@List.length_nil
abbrev zK:=@List.append_nil
abbrev zL:=@Bool.false_eq_true
abbrev zM:=@Bool.eq_iff_iff
abbrev zN:=@List.getElem_mem
abbrev zO:=@List.cons_append
abbrev zP:=@beq_eq_false_iff_ne
abbrev zQ:=@List.nil_append
abbrev zR:=@List.map_map
abbrev zS:=@Bool.and_true
abbrev zT:=@Nat.le_of_lt
abbrev zU:=@Bool.and_false
abbrev zV:=@wpAny_truthy_bool
abbrev zW:=@List.length_range
abbrev zX:=@wpAny_field
abbrev zY:=@Heap.get?_update_other
abbrev zZ:=@List.getElem?_append_right
abbrev Aa:=@List.length_take
abbrev Ab:=@Heap.get?_update_self
abbrev Ac:=@List.mem_range
abbrev Ad:=@List.mem_iff_getElem
abbrev Ae:=@List.nodup_cons
abbrev Af:=@List.map_congr_left
abbrev Ag:=@List.getElem?_replicate
abbrev Ah:=@wpAny_typeNameOfWhole_keyiter
abbrev Ai:=@Heap.size_push
abbrev Aj:=@wpAny_pyIter_tuple
abbrev Ak:=@wpAny_Call_Name_kw
abbrev Al:=@wpAny_passesOwn
abbrev Am:=@Nat.min_self
abbrev An:=@List.map_nil
abbrev Ao:=@List.length_zip
abbrev Ap:=@Array.getElem?_toList
abbrev Aq:=@decide_eq_true_eq
abbrev Ar:=@List.flatten_cons
abbrev As:=@Bool.true_and
abbrev Au:=@Bool.or_false
abbrev Av:=@Bool.false_and
abbrev Aw:=@PySem.W.hideAll_get
abbrev Ax:=@wpAny_typeNameOf_keyiter
abbrev Ay:=@Nat.ne_of_gt
abbrev Az:=@List.mem_map
abbrev AA:=@Bool.or_true
abbrev AB:=@of_decide_eq_false
abbrev AC:=@PySem.F.plainAttrs_list
abbrev AD:=@Obj.data_mapFields
abbrev AE:=@List.find?_cons
abbrev AF:=@Bool.false_or
abbrev AG:=@wpAny_loadPart_at
abbrev AH:=@Nat.le_succ
abbrev AI:=@Int.toNat_natCast
abbrev AJ:=@List.nodup_nil
abbrev AK:=@Obj.isFreed_of_fields
abbrev AL:=@Nat.sub_self
abbrev AM:=@List.getElem?_eq_none
abbrev AN:=@Bool.true_or
abbrev AO:=@beq_self_eq_true
abbrev AQ:=@List.ext_getElem
abbrev AR:=@PySem.W.hideAll_none
abbrev AS:=@Heap.get?_none_of_le
abbrev AT:=@wpAny_newList
abbrev AU:=@Nat.lt_irrefl
abbrev AV:=@wpAny_execs_nil
abbrev AW:=@List.of_mem_zip
abbrev AX:=@List.length_pos_iff
abbrev AY:=@List.getElem_of_mem
abbrev AZ:=@List.filterMap_cons
abbrev A0:=@List.Perm.of_eq
abbrev A2:=@wpAny_typeOf
abbrev A3:=@PySem.W.callWith_K
abbrev A4:=@List.zip_cons_cons
abbrev A5:=@List.mem_filterMap
abbrev A6:=@wpAny_setField
abbrev A7:=@List.getElem?_zip_eq_some
abbrev A8:=@List.drop_eq_getElem_cons
abbrev A9:=@PySem.W.Frag
end
namespace L2
open PySem PySem.Spec PyProof.Rows
abbrev Key:=Sum Int Str
def kW:Key->Value->Bool
 | .inl k,v=>Value.isInt k v
 | .inr x,v=>Value.isStrOf x v
def keyH(w:World):Key->Int
 | .inl k=>hashInt k
 | .inr x=>hashStr w x
theorem bc:∀ {k:Key} {v:Value},kW k v=true->(∃ i t,k=Sum.inl i/\v=Value.int i t)\/(∃ x t,k=Sum.inr x/\v=Value.str x t)
 | .inl i,v,h=>by
  obtain ⟨t,e⟩:=Value.isInt_shape (k:=i) (v:=v) h;exact .inl ⟨i,t,rfl,e⟩
 | .inr x,v,h=>by
  obtain ⟨t,e⟩:=Value.isStrOf_shape (x:=x) (v:=v) h;exact .inr ⟨x,t,rfl,e⟩
theorem rE(i:Int)(t:Tok):kW (.inl i) (.int i t)=true:=by simp [kW,Value.isInt]
theorem rD(x:Str)(t:Tok):kW (.inr x) (.str x t)=true:=by simp [kW,Value.isStrOf]
theorem key_ll(a b:Int):decide ((Sum.inl a:Key)=Sum.inl b)=(a == b):=by
 by_cases e:a=b
 ·subst e;simp
 ·have h:¬ (Sum.inl a:Key)=Sum.inl b:=fun q=>e (Sum.inl.inj q)
  rw [zd h];exact (zP.mpr e).symm
theorem key_rr(a b:Str):decide ((Sum.inr a:Key)=Sum.inr b)=decide (a=b):=by
 by_cases e:a=b
 ·subst e;simp
 ·have h:¬ (Sum.inr a:Key)=Sum.inr b:=fun q=>e (Sum.inr.inj q)
  rw [zd h,zd e]
theorem key_lr(a:Int)(b:Str):decide ((Sum.inl a:Key)=Sum.inr b)=false:=zd (fun q=>nomatch q)
theorem key_rl(a:Str)(b:Int):decide ((Sum.inr a:Key)=Sum.inl b)=false:=zd (fun q=>nomatch q)
def be(prog:Program)(w:World):PySem.KeyKind prog w Key where
 is:=kW
 hash:=keyH w
 inj:=fun v a b ha hb=>by
  rcases bc ha with ⟨i,t,rfl,rfl⟩ | ⟨x,t,rfl,rfl⟩
  ·rcases bc hb with ⟨j,u,rfl,e⟩ | ⟨y,u,rfl,e⟩
   ·injection e with e1 _;rw [e1]
   ·exact nomatch e
  ·rcases bc hb with ⟨j,u,rfl,e⟩ | ⟨y,u,rfl,e⟩
   ·exact nomatch e
   ·injection e with e1 _;rw [e1]
 byValue:=fun k v h=>by
  rcases bc h with ⟨i,t,rfl,rfl⟩ | ⟨x,t,rfl,rfl⟩<;>rfl
 pyHash:=fun hv h=>by
  rcases bc hv with ⟨i,t,rfl,rfl⟩ | ⟨x,t,rfl,rfl⟩
  ·exact wpAny_pyHash_int h
  ·exact wpAny_pyHash_str h
 eqBool:=fun hu hv h=>by
  rcases bc hu with ⟨i,t,rfl,rfl⟩ | ⟨x,t,rfl,rfl⟩
  ·rcases bc hv with ⟨j,u,rfl,rfl⟩ | ⟨y,u,rfl,rfl⟩
   ·rw [key_ll] at h;exact wpAny_eqBool_int h
   ·rw [key_lr] at h;exact SeqAt.EqAt.int_str i t y u _ _ _ _ h
  ·rcases bc hv with ⟨j,u,rfl,rfl⟩ | ⟨y,u,rfl,rfl⟩
   ·rw [key_rl] at h;exact SeqAt.EqAt.str_int x t j u _ _ _ _ h
   ·rw [key_rr] at h;exact wpAny_eqBool_str h
 «strs»:=fun k x t v h=>by
  rcases bc h with ⟨i,u,rfl,e⟩ | ⟨y,u,rfl,e⟩
  ·exact nomatch e
  ·injection e with e1 _
   subst e1;cases v<;>rfl
theorem nE(prog:Program)(w:World)(i:Int)(t:Tok):(be prog w).is (.inl i) (.int i t)=true:=rE i t
theorem nB(prog:Program)(w:World)(x:Str)(t:Tok):(be prog w).is (.inr x) (.str x t)=true:=rD x t
inductive V where
 | non | bl (b:Bool) | int (i:Int) | str (x:Str) | byt (b:Array UInt8) | flt (b:UInt64) | ref (a:Addr) | ty (n:String)
 deriving DecidableEq
def ax:V->Value->Prop
 | .non,u=>u=Value.none
 | .bl b,u=>u=Value.bool b
 | .int i,u=>∃ t,u=Value.int i t
 | .str x,u=>∃ t,u=Value.str x t
 | .byt b,u=>∃ t,u=Value.bytes b t
 | .flt b,u=>∃ t,u=Value.float b t
 | .ref a,u=>u=Value.ref a
 | .ty n,u=>u=Value.type n
abbrev aq:List V->List Value->Prop:=Paired ax
theorem aq.length{xs:List V}{us:List Value}(r:aq xs us):xs.length=us.length:=Paired.length r
theorem aq.get:∀ {xs:List V} {us:List Value} {i:Nat} {x:V},aq xs us->xs[i]?=some x->∃ u,us[i]?=some u/\ax x u
 | _,_,_,_,.nil,e=>by simp at e
 | _,_,0,_,.cons r _,e=>by simp at e;subst e;exact ⟨_,rfl,r⟩
 | _,_,i+1,x,.cons _ t,e=>by
  obtain ⟨u,h1,h2⟩:=aq.get (i:=i) (x:=x) t (by simpa using e);exact ⟨u,by simpa using h1,h2⟩
theorem aq.set{x:V}{u:Value}(r:ax x u):∀ {xs:List V} {us:List Value} (i:Nat),aq xs us->aq (xs.set i x) (us.set i u)
 | _,_,_,.nil=> .nil
 | _,_,0,.cons _ t=> .cons r t
 | _,_,i+1,.cons q t=> .cons q (aq.set r i t)
theorem aq.append:∀ {xs ys:List V} {us ws:List Value},aq xs us->aq ys ws->aq (xs++ys) (us++ws)
 | _,_,_,_,.nil,s=>s
 | _,_,_,_,.cons r t,s=> .cons r (aq.append t s)
theorem aq.take:∀ {xs:List V} {us:List Value} (n:Nat),aq xs us->aq (xs.take n) (us.take n)
 | _,_,0,_=> .nil
 | _,_,_+1,.nil=> .nil
 | _,_,n+1,.cons r t=> .cons r (aq.take n t)
theorem aq.drop:∀ {xs:List V} {us:List Value} (n:Nat),aq xs us->aq (xs.drop n) (us.drop n)
 | _,_,0,r=>r
 | _,_,_+1,.nil=> .nil
 | _,_,n+1,.cons _ t=>aq.drop n t
def ke:Option V->Option Value->Prop
 | some v,some u=>ax v u
 | none,none=>True
 | _,_=>False
def KV{κ:Type}:List (κ×V)->List (κ×Value)->Prop:=Paired fun (p:κ×V) (q:κ×Value)=>p.1=q.1/\ax p.2 q.2
def kV:Key->V
 | .inl i=> .int i
 | .inr x=> .str x
inductive HO where
 | lst (xs:List V)
 | tup (xs:List V)
 | dK (kvs:List (Key×V)) | dT (kvs:List (List Key×V))
 | set (S:Int->Bool) (n:Nat)
 | ins (C dx:Addr) (fs:List (Str×V))
 | own (x:Addr)
 | xd (fs:List (Str×V))
 | met (f x:Addr)
 | rng (lo hi:Int)
 | frz (o:Obj) (u:HO)
 | tbl (ps:Array Value)
 | ext (φ:Heap->Prop)
abbrev Hp:=Addr->Option HO
def upd(H:Hp)(a:Addr)(o:HO):Hp:=fun b=>if b=a then some o else H b
theorem ai{H:Hp}{a:Addr}{o:HO}:upd H a o a=some o:=by unfold upd;rw [if_pos rfl]
theorem ah{H:Hp}{a b:Addr}{o:HO}(h:b≠a):upd H a o b=H b:=by unfold upd;rw [if_neg h]
theorem vy{H:Hp}{a:Addr}{o u:HO}:upd (upd H a o) a u=upd H a u:=by
 funext b;unfold upd;split<;>rfl
theorem ne_of{H:Hp}{a b:Addr}{o u:HO}(h:H a=some o)(h':H b=some u)(d:o≠u):a≠b:=by
 intro e;subst e;rw [h] at h';exact d (Option.some.inj h')
theorem aj{H:Hp}{a b:Addr}{o:HO}(h:H a=some o)(h':H b=none):a≠b:=by
 intro e;subst e;rw [h] at h';cases h'
structure mD(h:Heap)(a:Addr)(items:Array Value):Prop where
 t:IsTup h a items
 nd:∀ o,h.get? a=some o->o.dict=none
theorem mD.new(h:Heap)(items:Array Value):mD (h.push { cls:= .type "tuple",data:= .seq items }) h.objs.size items:=⟨IsTup.new _ _,fun o e=>by rw [yQ _ rfl] at e;cases e;rfl⟩
section
variable(P:Program)(w:World)
def aX(H:Hp)(h:Heap)(a:Addr):HO->Prop
 | .lst xs=>xs.length<=sizeLine/\∃ (its:List Value) (n:Nat),aq xs its/\h.get? a=some { cls:= .type "list",data:= .seq its.toArray n }
 | .tup xs=>xs.length<=sizeLine/\∃ its:List Value,aq xs its/\mD h a its.toArray
 | .dK kvs=>kvs.length<=sizeLine/\(a == sysModules)=false/\∃ vs,KV kvs vs/\h.DictOf (be P w) a vs
 | .dT kvs=>kvs.length<=sizeLine/\(a == sysModules)=false/\∃ xs:List (List Key×Addr×Value),
  Paired (fun (p:List Key×V) (q:List Key×Addr×Value)=>p.1=q.1/\H q.2.1=some (.tup (p.1.map kV))/\ax p.2 q.2.2) kvs xs /\
  ∃ o es ep,h.get? a=some o/\o.ExactDict/\o.data = .dict es ep/\es.toList=xs.map (entryOfKey (tupleKind (be P w)))/\(xs.map (·.1)).Nodup
 | .set S n=>h.SetOf (intKind P w) a S n
 | .ins C dx fs=>H dx=some (.own a)/\fs.length<=1000/\dx≠a/\h.get? a=some (PySem.W.instObj C dx) /\
  ∃ mA,h.Ns1 dx mA/\(∀ f,ke (fs.lookup f) (mA f))/\PySem.Within mA (fs.map (·.1))
 | .own _=>∃ o,h.get? a=some o
 | .xd fs=>∃ mA,h.Ns1 a mA/\∀ f,ke (fs.lookup f) (mA f)
 | .rng lo hi=>∃ t u v,h.get? a=some { cls:= .type "range",data:= .fields #[.int lo t,.int hi u,.int 1 v] }
 | .frz o u=>h.get? a=some o/\aX H h a u
 | .tbl ps=>h.get? a=some { cls:= .none,data:= .fields ps }
 | .met f x=>h.get? a=some (PySem.W.methodObj (.ref f) (.ref x))
 | .ext φ=>φ h/\(∃ o,h.get? a=some o)/\∀ h1 h2:Heap,φ h1->(∀ o,h1.get? a=some o->h2.get? a=some o)->φ h2
def HOk(H:Hp)(h:Heap):Prop:=∀ a o,H a=some o->aX P w H h a o
end
section
variable{P:Program}{w:World}{H H':Hp}{h h':Heap}{a:Addr}{o:HO}
theorem aX.lt(x:aX P w H h a o):a < h.objs.size:=by
 cases o with
 | lst xs=>obtain ⟨_,_,_,_,e⟩:=x;exact yN e
 | tup xs=>obtain ⟨_,_,_,p⟩:=x;exact p.t.lt
 | dK kvs=>obtain ⟨_,_,_,_,o,_,_,e,_⟩:=x;exact yN e
 | dT kvs=>obtain ⟨_,_,_,_,o,_,_,e,_⟩:=x;exact yN e
 | set S n=>obtain ⟨o,_,_,_,e,_⟩:=x;exact yN e
 | ins C dx fs=>obtain ⟨_,_,_,e,_⟩:=x;exact yN e
 | own y=>obtain ⟨_,e⟩:=x;exact yN e
 | xd fs=>obtain ⟨_,⟨_,_,_,e,_⟩,_⟩:=x;exact yN e
 | rng lo hi=>obtain ⟨_,_,_,e⟩:=x;exact yN e
 | frz ob u=>obtain ⟨e,_⟩:=x;exact yN e
 | tbl ps=>exact yN (show h.get? a=some _ from x)
 | met f y=>exact yN (show h.get? a=some _ from x)
 | ext φ=>obtain ⟨_,⟨_,e⟩,_⟩:=x;exact yN e
theorem Paired.mapP{α β:Type}{F G:α->β->Prop}:∀ {l₁:List α} {l₂:List β},Paired F l₁ l₂->(∀ a b,F a b->G a b)->Paired G l₁ l₂
 | _,_,.nil,_=> .nil
 | _,_,.cons r t,f=> .cons (f _ _ r) (Paired.mapP t f)
theorem aX.stay(x:aX P w H h a o)(k:∀ b u,(b=a\/H b=some (.own a))->h.get? b=some u->h'.get? b=some u)
 (ho:∀ b,H b=some (.own a)->H' b=some (.own a)) (ht:∀ b xs,H b=some (.tup xs)->H' b=some (.tup xs)):aX P w H' h' a o:=by
 induction o with
 | lst xs=>obtain ⟨z,its,n,r,e⟩:=x;exact ⟨z,its,n,r,k _ _ (.inl rfl) e⟩
 | tup xs=>obtain ⟨z,its,r,⟨ob,e,c⟩,nd⟩:=x;exact ⟨z,its,r,⟨ob,k _ _ (.inl rfl) e,c⟩,fun o' e'=>by rw [k _ _ (.inl rfl) e] at e';cases e';exact nd _ e⟩
 | dK kvs=>obtain ⟨z,y,vs,r,ob,es,ep,e,c⟩:=x;exact ⟨z,y,vs,r,ob,es,ep,k _ _ (.inl rfl) e,c⟩
 | dT kvs =>
  obtain ⟨z,y,xs,r,ob,es,ep,e,c⟩:=x;exact ⟨z,y,xs,Paired.mapP r fun p q z=>⟨z.1,ht _ _ z.2.1,z.2.2⟩,ob,es,ep,k _ _ (.inl rfl) e,c⟩
 | set S n=>obtain ⟨ob,es,ep,t,e,c⟩:=x;exact ⟨ob,es,ep,t,k _ _ (.inl rfl) e,c⟩
 | ins C dx fs =>
  obtain ⟨d,z,ne,e,mA,⟨od,es,ep,e2,c⟩,r⟩:=x;exact ⟨ho _ d,z,ne,k _ _ (.inl rfl) e,mA,⟨od,es,ep,k _ _ (.inr d) e2,c⟩,r⟩
 | own y=>obtain ⟨ob,e⟩:=x;exact ⟨ob,k _ _ (.inl rfl) e⟩
 | xd fs=>obtain ⟨mA,⟨od,es,ep,e,c⟩,r⟩:=x;exact ⟨mA,⟨od,es,ep,k _ _ (.inl rfl) e,c⟩,r⟩
 | rng lo hi=>obtain ⟨t,u,v,e⟩:=x;exact ⟨t,u,v,k _ _ (.inl rfl) e⟩
 | frz ob u ih=>obtain ⟨e,q⟩:=x;exact ⟨k _ _ (.inl rfl) e,ih q⟩
 | tbl ps =>
  have e:h.get? a=some { cls:= .none,data:= .fields ps }:=x
  show h'.get? a=some { cls:= .none,data:= .fields ps }
  exact k a _ (.inl rfl) e
 | met f y =>
  have e:h.get? a=some (PySem.W.methodObj (.ref f) (.ref y)):=x
  show h'.get? a=some (PySem.W.methodObj (.ref f) (.ref y))
  exact k a _ (.inl rfl) e
 | ext φ=>obtain ⟨p,⟨o,e⟩,st⟩:=x;exact ⟨st _ _ p fun o q=>k _ _ (.inl rfl) q,⟨o,k _ _ (.inl rfl) e⟩,st⟩
theorem HOk.lt(x:HOk P w H h)(e:H a=some o):a < h.objs.size:=(x a o e).lt
theorem HOk.fresh(x:HOk P w H h)(e:h.objs.size<=a):H a=none:=by
 cases q:H a with
 | none=>rfl
 | some u=>exact absurd (zb (x.lt q) e) (AU _)
theorem HOk.kept(x:HOk P w H h)(k:∀ b u,h.get? b=some u->h'.get? b=some u):HOk P w H h':=fun a o e =>
 (x a o e).stay (fun b u _ q=>k b u q) (fun _ q=>q) fun _ _ q=>q
theorem HOk.laid(x:HOk P w H h)(k:∀ b u,h.get? b=some u->h'.get? b=some u)(hp:h.objs.size<=a)(new:aX P w (upd H a o) h' a o):HOk P w (upd H a o) h':=fun b u e=>by
 have hn:=x.fresh hp
 by_cases hb:b=a
 ·subst hb;rw [ai] at e;cases e;exact new
 ·rw [ah hb] at e
  exact (x b u e).stay (fun c v _ q=>k c v q) (fun c q=>by rw [ah (aj q hn)];exact q) fun c xs q=>by rw [ah (aj q hn)];exact q
end
def Rd(H:Hp)(a:Addr)(u:HO):Prop:=H a=some u\/∃ o,H a=some (.frz o u)
theorem Rd.ok{P:Program}{w:World}{H:Hp}{h:Heap}{a:Addr}{u:HO}(r:Rd H a u)(x:HOk P w H h):aX P w H h a u:=by
 rcases r with r | ⟨o,r⟩
 ·exact x a u r
 ·obtain ⟨_,q⟩:=x a _ r
  exact q
def Mut:Option HO->Prop
 | some (.lst _)=>True
 | some (.dK _)=>True
 | some (.dT _)=>True
 | some (.set _ _)=>True
 | some (.ins _ _ _)=>True
 | some (.ext _)=>True
 | _=>False
section
variable{P:Program}{w:World}{H:Hp}{h h':Heap}{x e:Addr}{o':HO}
theorem HOk.write(ok:HOk P w H h)(mu:Mut (H x))(he:e=x\/H e=some (.own x))(k:∀ b u,b≠e->h.get? b=some u->h'.get? b=some u)(heo:∃ u,h'.get? e=some u)
 (new:aX P w (upd H x o') h' x o'):HOk P w (upd H x o') h':=fun b u q=>by
 have nown:∀ c y,H c=some (.own y)->c≠x:=fun c y r z=>by subst z;rw [r] at mu;exact mu
 have ntup:∀ c xs,H c=some (.tup xs)->c≠x:=fun c xs r z=>by subst z;rw [r] at mu;exact mu
 by_cases hb:b=x
 ·subst hb;rw [ai] at q;cases q;exact new
 ·rw [ah hb] at q
  by_cases hbe:b=e
  ·have q':H b=some (.own x):=by
    rcases he with z | z
    ·exact absurd (hbe.trans z) hb
    ·rw [hbe];exact z
   rw [q] at q';cases q';obtain ⟨v,hv⟩:=heo;exact ⟨v,by rw [hbe];exact hv⟩
  ·refine (ok b u q).stay (fun c v hc r=>k c v ?_ r) (fun c r=>by rw [ah (nown c b r)];exact r) fun c xs r=>by rw [ah (ntup c xs r)];exact r
   rcases hc with rfl | hc
   ·exact hbe
   ·rintro rfl
    rcases he with z | z
    ·exact nown c b hc z
    ·rw [hc] at z;cases z;exact hb rfl
end
structure Un(fs ex:List Addr)(H H':Hp)(h h':Heap):Prop where
 keep:∀ b o,h.get? b=some o->H b=none->b∉fs->b∉ex->h'.get? b=some o
 slot:∀ b o,h.get? b=some o->H b=none->b∈fs->b∉ex->∃ sl,h'.get? b=some { o with slots:=sl }
 free:∀ b o,h.get? b=some o->H b=none->b∉ex->H' b=none
 there:∀ b o,h.get? b=some o->b∉ex->∃ o',h'.get? b=some o'
 tups:∀ b xs,H b=some (.tup xs)->H' b=some (.tup xs)
 frzs:∀ b o u,H b=some (.frz o u)->H' b=some (.frz o u)
 tbls:∀ b ps,H b=some (.tbl ps)->∃ more,H' b=some (.tbl (ps++more))
section
variable{fs fs' ex ex':List Addr}{H H1 H2:Hp}{h h1 h2 h':Heap}{a x e:Addr}{o:HO}
theorem Un.any(u:Un fs ex H H1 h h1){b:Addr}{ob:Obj}(q:h.get? b=some ob)(n:H b=none)(hx:b∉ex):∃ sl,h1.get? b=some { ob with slots:=sl }:=by
 by_cases hb:b∈fs
 ·exact u.slot b ob q n hb hx
 ·exact ⟨ob.slots,u.keep b ob q n hb hx⟩
theorem Un.kept(k:∀ b u,h.get? b=some u->h'.get? b=some u):Un fs ex H H h h' :=
 ⟨fun b ob q _ _ _=>k b ob q,fun b ob q _ _ _=>⟨ob.slots,k b ob q⟩,fun _ _ _ n _=>n,fun b ob q _=>⟨ob,k b ob q⟩,fun _ _ q=>q,fun _ _ _ q=>q,fun _ ps q=>⟨#[],by rw [q];simp⟩⟩
theorem Un.refl:Un fs ex H H h h:=Un.kept fun _ _ q=>q
theorem Un.laid(k:∀ b u,h.get? b=some u->h'.get? b=some u)(hp:h.objs.size<=a)(hn:H a=none):Un fs ex H (upd H a o) h h' where
 keep:=fun b u q _ _ _=>k b u q
 slot:=fun b u q _ _ _=>⟨u.slots,k b u q⟩
 free:=fun b u q n _=>by rw [ah (za (zb (yN q) hp))];exact n
 there:=fun b u q _=>⟨u,k b u q⟩
 tups:=fun b xs q=>by rw [ah (aj q hn)];exact q
 frzs:=fun b u xs q=>by rw [ah (aj q hn)];exact q
 tbls:=fun b ps q=>⟨#[],by rw [ah (aj q hn),q];simp⟩
theorem Un.write(mu:Mut (H x))(he:e=x\/H e=some (.own x))(k:∀ b u,b≠e->h.get? b=some u->h'.get? b=some u)(heo:∃ u,h'.get? e=some u):Un fs ex H (upd H x o) h h':=by
 have hx:∀ b,H b=none->b≠x:=fun b n z=>by subst z;rw [n] at mu;exact mu
 have hb:∀ b,H b=none->b≠e:=fun b n z=>by
  subst z
  rcases he with r | r
  ·exact hx b n r
  ·rw [n] at r;cases r
 have hm:∀ b u,H b=some u->¬ Mut (some u)->b≠x:=fun b u q nm z=>by subst z;rw [q] at mu;exact nm mu
 refine ⟨fun b u q n _ _=>k b u (hb b n) q,fun b u q n _ _=>⟨u.slots,k b u (hb b n) q⟩,fun b u q n _=>by rw [ah (hx b n)];exact n,fun b u q _=> ?_,
  fun b xs q=>by rw [ah (hm b _ q fun z=>z)];exact q,fun b u xs q=>by rw [ah (hm b _ q fun z=>z)];exact q,fun b ps q=>⟨#[],by rw [ah (hm b _ q fun z=>z),q];simp⟩⟩
 by_cases hbe:b=e
 ·subst hbe;exact heo
 ·exact ⟨u,k b u hbe q⟩
end
def trk(h:Heap)(H:Hp):List Addr:=(List.range h.objs.size).filter fun a=>(H a).isSome
def lZ(h:Heap)(H:Hp):Heap:=PySem.W.hideAll h (trk h H)
theorem rF(h:Heap)(H:Hp):(lZ h H).objs.size=h.objs.size:=PySem.W.hideAll_size _ _
theorem uD{h:Heap}{H:Hp}{b:Addr}{o:Obj}(e:h.get? b=some o)(n:H b=none):(lZ h H).get? b=some o :=
 Aw _ e fun hm=>by
  have q:(H b).isSome=true:=(zw.mp hm).2;rw [n] at q;simp at q
theorem wF{h:Heap}{H:Hp}{b:Addr}{o:Obj}(e:(lZ h H).get? b=some o):h.get? b=some o/\H b=none:=by
 have e':h.get? b=some o:=PySem.W.of_hideAll (trk h H) e;refine ⟨e',?_⟩
 cases q:H b with
 | none=>rfl
 | some x =>
  have hm:b∈trk h H:=zw.mpr ⟨Ac.mpr (yN e'),by simp [q]⟩;have z:(lZ h H).get? b=none:=AR (trk h H) hm;rw [z] at e;cases e
structure Mod(K:A9)(mg:Str->Option Value)(base:Heap):Prop where
 kin:K.In base
 glob:base.Ns mainGlobals mg
 blt:∃ mb,base.Ns builtinsNs mb/\∀ x:Str,x ≠ "__name__" -> mb x=bootBuiltins x
 nolimit:base.NoLimit
structure Cx where
 prog:Program
 w:World
 K:A9
 mg:Str->Option Value
 base:Heap
 A:Around
 N:List Str
 s₀:Shared
 H₀:Hp
 env:Env
 outer:List Env
 stack:List Env
 ex:List Addr
 fn:Str->Bool
 calm:Bool
 pn:List (Addr×Obj)
 xe:Value->Shared->Prop
def frs(l:List Env):List Addr:=l.filterMap (·.frame)
abbrev Cx.fs(X:Cx):List Addr:=frs X.outer
def Vis(sc:Scope)(x:Str):Prop:=sc.names.lookup x=some .local\/sc.names.lookup x=some .cell\/sc.names.lookup x=some .free
def Loc(sc:Scope)(x:Str):Prop:=sc.names.lookup x=some .local\/sc.names.lookup x=some .cell
def Look(env:Env)(h:Heap)(m:Str->Option Value)(x:Str)(u:Value):Prop :=
 (env.kindOf x=some .local/\m x=some u)\/((env.kindOf x=some .cell\/env.kindOf x=some .free)/\∃ c,env.cells.lookup x=some c/\h.IsCell c (some u))
structure Cx.Ok(X:Cx):Prop where
 mod:Mod X.K X.mg X.base
 kind:X.env.scope.kind = .function
 glob:X.env.globals=mainGlobals
 blt:X.env.builtins=builtinsNs
 above:X.s₀.heap.objs.size<=X.env.locals
 inj:∀ x y c,X.env.cells.lookup x=some c->X.env.cells.lookup y=some c->x=y
 has:∀ x,(X.env.kindOf x=some .cell\/X.env.kindOf x=some .free)->∃ c,X.env.cells.lookup x=some c
 cab:∀ x c,X.fn x=true->X.env.cells.lookup x=some c->X.s₀.heap.objs.size<=c
 hd:X.calm=true->X.A.handled=none
 frames:X.A.frames=some X.stack
 stk:X.stack=X.outer\/(X.stack=X.env::X.outer/\X.env.frame=some X.env.locals)
 exf:∀ b∈X.ex,b≠X.env.locals/\∀ x c,X.env.cells.lookup x=some c->c≠b
 bs:∀ b o,X.base.get? b=some o->X.s₀.heap.get? b=some o/\X.H₀ b=none
 bsz:X.base.objs.size<=X.s₀.heap.objs.size
 noex:∀ b o,X.base.get? b=some o->b∉X.ex
 exfs:∀ b∈X.ex,b∉X.fs
 funs:X.s₀.heap.FunFrames X.base X.outer
 frf:∀ b∈X.fs,X.H₀ b=none
structure Inv(X:Cx)(pins:List (Addr×Obj))(σ:List (Option V))(H:Hp)(s:Shared):Prop where
 ok:X.Ok
 os:s.os=X.s₀.os
 bare:AllBare s.gens
 base:Un X.fs X.ex X.H₀ H X.s₀.heap s.heap
 loc:∃ m,s.heap.Ns X.env.locals m/\∀ (i:Nat) (x:Str) (v:V),X.N[i]?=some x->σ[i]?=some (some v)->Vis X.env.scope x->∃ u,ax v u/\Look X.env s.heap m x u
 cell:∀ x c,X.env.cells.lookup x=some c->∃ v,s.heap.IsCell c v
 free:H X.env.locals=none
 freeC:∀ x c,X.env.cells.lookup x=some c->H c=none
 pin:∀ p∈X.pn++pins,s.heap.get? p.1=some p.2/\H p.1=none/\p.1≠X.env.locals/\p.1∉X.fs/\∀ v,p.2.data ≠ .cell v
 hok:HOk X.prog X.w H s.heap
 len:σ.length=X.N.length
section
variable{X:Cx}{pins:List (Addr×Obj)}{σ:List (Option V)}{H H':Hp}{s:Shared}{h':Heap}
theorem Cx.Ok.nofr(ok:X.Ok){b:Addr}{o:Obj}(e:X.base.get? b=some o):b∉X.fs:=fun hb=>by
 have:=(ok.funs.mem hb).1;rw [e] at this;cases this
theorem Inv.bs(I:Inv X pins σ H s):∀ b o,X.base.get? b=some o->s.heap.get? b=some o/\H b=none:=fun b o e =>
 ⟨I.base.keep b o (I.ok.bs b o e).1 (I.ok.bs b o e).2 (I.ok.nofr e) (I.ok.noex b o e),I.base.free b o (I.ok.bs b o e).1 (I.ok.bs b o e).2 (I.ok.noex b o e)⟩
theorem Inv.bk(I:Inv X pins σ H s):∀ b o,X.base.get? b=some o->s.heap.get? b=some o:=fun b o e=>(I.bs b o e).1
theorem Inv.mod(I:Inv X pins σ H s):Mod X.K X.mg X.base:=I.ok.mod
theorem Inv.kIn(I:Inv X pins σ H s):X.K.In s.heap:=I.ok.mod.kin.keeps I.bk
theorem Inv.fr(I:Inv X pins σ H s):∃ m,Fr X.base X.env.locals s.heap m :=
 let ⟨m,hn,_⟩:=I.loc
 ⟨m,hn,I.bk,zu I.ok.bsz I.ok.above⟩
theorem Inv.lt(I:Inv X pins σ H s):X.env.locals < s.heap.objs.size:=let ⟨_,hn,_⟩:=I.loc;hn.lt
theorem Inv.sz(I:Inv X pins σ H s):X.s₀.heap.objs.size<=s.heap.objs.size:=zu I.ok.above (zT I.lt)
theorem Inv.nofs(I:Inv X pins σ H s){a:Addr}(h:s.heap.objs.size<=a):a∉X.fs:=fun hb=>by
 obtain ⟨_,o,ho,_⟩:=I.ok.funs.mem hb;exact absurd (zb (yN ho) (zu I.sz h)) (AU _)
theorem Inv.cne(I:Inv X pins σ H s):∀ x c,X.env.cells.lookup x=some c->c≠X.env.locals:=fun x c e z=>by
 obtain ⟨v,o,ho,hd⟩:=I.cell x c e;obtain ⟨m,⟨o',es,ep,ho',hd',_⟩,_⟩:=I.loc;rw [z,ho'] at ho;cases ho;rw [hd'] at hd;cases hd
theorem Inv.funs(I:Inv X pins σ H s):s.heap.FunFrames X.base X.outer:=by
 have all:∀ (l:List Env),(∀ b∈frs l,b∈X.fs)->X.s₀.heap.FunFrames X.base l->s.heap.FunFrames X.base l:=by
  intro l
  induction l with
  | nil=>intro _ _;trivial
  | cons env r ih =>
   intro hs hl;obtain ⟨hk,⟨L,o,hf,hn,ho,hd⟩,hr⟩:=hl;have hL:L∈X.fs:=hs L (by unfold frs;rw [AZ,hf];exact yL)
   obtain ⟨sl,e⟩:=I.base.slot L o ho (I.ok.frf L hL) hL fun z=>I.ok.exfs L z hL
   exact ⟨hk,⟨L,_,hf,hn,e,hd⟩,ih (fun b hb=>hs b (by unfold frs;rw [AZ,hf];exact yH _ hb)) hr⟩
 exact all X.outer (fun _ hb=>hb) I.ok.funs
theorem Inv.stack(I:Inv X pins σ H s):s.heap.FunFrames X.base X.stack:=by
 rcases I.ok.stk with e | ⟨e,hf⟩
 ·rw [e];exact I.funs
 ·rw [e]
  obtain ⟨m,hn,_⟩:=I.loc;refine .cons (by rw [I.ok.kind];decide) hf hn ?_ I.funs;exact AS (zu I.ok.bsz I.ok.above)
theorem Inv.stkSub(I:Inv X pins σ H s):∀ b∈frs X.stack,b∈X.env.locals::X.fs:=fun b hb=>by
 rcases I.ok.stk with e | ⟨e,hf⟩
 ·rw [e] at hb;exact yH _ hb
 ·rw [e] at hb
  unfold frs at hb;rw [AZ,hf] at hb;exact hb
theorem Inv.stkFree(I:Inv X pins σ H s):∀ b∈frs X.stack,H b=none:=fun b hb=>by
 rcases yP.mp (I.stkSub b hb) with e | hb
 ·rw [e];exact I.free
 ·obtain ⟨_,o,ho,_⟩:=I.ok.funs.mem hb
  exact I.base.free b o ho (I.ok.frf b hb) fun z=>I.ok.exfs b z hb
theorem Inv.step{g':Array GenState}{t':Nat}{d':Drawn}{ch:List Addr}(I:Inv X pins σ H s)
 (hch:∀ b∈ch,(b∈X.ex\/X.s₀.heap.objs.size<=b)/\b≠X.env.locals/\(∀ x c,X.env.cells.lookup x=some c->c≠b)/\∀ p∈X.pn++pins,p.1≠b)
 (keep:∀ b o,b≠X.env.locals->b∉X.fs->b∉ch->s.heap.get? b=some o->H b=none->h'.get? b=some o)
 (slot:∀ b o,b≠X.env.locals->b∈X.fs->b∉ch->s.heap.get? b=some o->H b=none->∃ sl,h'.get? b=some { o with slots:=sl }) (free:∀ b o,b∉ch->s.heap.get? b=some o->H b=none->H' b=none)
 (there:∀ b o,b∉ch->s.heap.get? b=some o->∃ o',h'.get? b=some o')
 (tups:∀ b xs,H b=some (.tup xs)->H' b=some (.tup xs)) (frzs:∀ b o u,H b=some (.frz o u)->H' b=some (.frz o u)) (tbls:∀ b ps,H b=some (.tbl ps)->∃ more,H' b=some (.tbl (ps++more)))
 (ns:∀ m,s.heap.Ns X.env.locals m->h'.Ns X.env.locals m) (hok:HOk X.prog X.w H' h') (hg:AllBare g') :
 Inv X pins σ H' { s with heap:=h',gens:=g',drawn:=d',toks:=t' }:=by
 have neL:∀ b o,X.s₀.heap.get? b=some o->b≠X.env.locals:=fun b o e=>za (zb (yN e) I.ok.above)
 have neC:∀ b o,X.s₀.heap.get? b=some o->b∉X.ex->b∉ch:=fun b o e hx hb=>by
  rcases (hch b hb).1 with z | z
  ·exact hx z
  ·exact absurd (zb (yN e) z) (AU _)
 have cellK:∀ x c,X.env.cells.lookup x=some c->∀ v,s.heap.IsCell c v->h'.IsCell c v:=fun x c e v ⟨o,ho,hd⟩=>by
  have nch:c∉ch:=fun z=>(hch c z).2.2.1 x c e rfl
  by_cases hc:c∈X.fs
  ·obtain ⟨sl,q⟩:=slot c o (I.cne x c e) hc nch ho (I.freeC x c e)
   exact ⟨_,q,hd⟩
  ·exact ⟨o,keep c o (I.cne x c e) hc nch ho (I.freeC x c e),hd⟩
 refine ⟨I.ok,I.os,hg,⟨fun b o e n hb hx=> ?_,fun b o e n hb hx=> ?_,fun b o e n hx=> ?_,fun b o e hx=> ?_,fun b xs e=>tups b xs (I.base.tups b xs e),fun b o xs e=>frzs b o xs (I.base.frzs b o xs e),fun b ps e=> ?_⟩,?_,fun x c e=> ?_,?_,fun x c e=> ?_,fun p hp=> ?_,hok,I.len⟩
 ·exact keep b o (neL b o e) hb (neC b o e hx) (I.base.keep b o e n hb hx) (I.base.free b o e n hx)
 ·obtain ⟨sl,e1⟩:=I.base.slot b o e n hb hx
  obtain ⟨sl',e2⟩:=slot b _ (neL b o e) hb (neC b o e hx) e1 (I.base.free b o e n hx);exact ⟨sl',e2⟩
 ·obtain ⟨o',e1⟩:=I.base.there b o e hx
  exact free b o' (neC b o e hx) e1 (I.base.free b o e n hx)
 ·obtain ⟨o',e1⟩:=I.base.there b o e hx
  exact there b o' (neC b o e hx) e1
 ·obtain ⟨m1,e1⟩:=I.base.tbls b ps e
  obtain ⟨m2,e2⟩:=tbls b _ e1;exact ⟨m1++m2,by rw [e2,Array.append_assoc]⟩
 ·obtain ⟨m,hn,hl⟩:=I.loc
  refine ⟨m,ns m hn,fun i x v e1 e2 e3=> ?_⟩;obtain ⟨u,r,l⟩:=hl i x v e1 e2 e3;refine ⟨u,r,?_⟩
  rcases l with l | ⟨k,c,e,z⟩
  ·exact .inl l
  ·exact .inr ⟨k,c,e,cellK x c e _ z⟩
 ·obtain ⟨v,z⟩:=I.cell x c e
  exact ⟨v,cellK x c e v z⟩
 ·obtain ⟨m,⟨o,_,_,ho,_⟩,_⟩:=I.loc
  exact free _ o (fun z=>(hch _ z).2.1 rfl) ho I.free
 ·obtain ⟨v,o,ho,hd⟩:=I.cell x c e
  exact free c o (fun z=>(hch c z).2.2.1 x c e rfl) ho (I.freeC x c e)
 ·obtain ⟨e,n,ne,nf,d⟩:=I.pin p hp
  have nch:p.1∉ch:=fun z=>(hch p.1 z).2.2.2 p hp rfl
  exact ⟨keep p.1 p.2 ne nf nch e n,free p.1 p.2 nch e n,ne,nf,d⟩
theorem Inv.un{t':Nat}(I:Inv X pins σ H s)(u:Un X.fs [] H H' s.heap h')(hok:HOk X.prog X.w H' h'):Inv X pins σ H' { s with heap:=h',toks:=t' }:=by
 obtain ⟨m,⟨o,es,ep,ho,r⟩,_⟩:=id I.loc;obtain ⟨sl,hL⟩:=u.any ho I.free (by simp)
 exact I.step (g':=s.gens) (d':=s.drawn) (ch:=[]) (fun _ z=>nomatch z) (fun b o _ hb _ e n=>u.keep b o e n hb (by simp)) (fun b o _ hb _ e n=>u.slot b o e n hb (by simp)) (fun b o _ e n=>u.free b o e n (by simp)) (fun b o _ e=>u.there b o e (by simp)) u.tups u.frzs u.tbls (fun m' hm=>by
  obtain ⟨o',es',ep',ho',r'⟩:=hm;rw [ho] at ho';cases ho'
  exact ⟨_,es',ep',hL,r'⟩) hok I.bare
theorem Inv.call{g':Array GenState}{t':Nat}{d':Drawn}{ch:List Addr}(I:Inv X pins σ H s)(u:Un (frs X.stack) ch H H' s.heap h')(hok:HOk X.prog X.w H' h')(hg:AllBare g')
 (hch:∀ b∈ch,(b∈X.ex\/X.s₀.heap.objs.size<=b)/\b≠X.env.locals/\(∀ x c,X.env.cells.lookup x=some c->c≠b)/\∀ p∈X.pn++pins,p.1≠b) :
 Inv X pins σ H' { s with heap:=h',gens:=g',drawn:=d',toks:=t' }:=by
 obtain ⟨m,⟨o,es,ep,ho,r⟩,_⟩:=id I.loc
 obtain ⟨sl,hL⟩:=u.any ho I.free fun z=>(hch _ z).2.1 rfl
 exact I.step (ch:=ch) hch (fun b o hL hb hc e n=>u.keep b o e n (fun z=>(yP.mp (I.stkSub b z)).elim hL hb) hc) (fun b o _ _ hc e n=>u.any e n hc) (fun b o hc e n=>u.free b o e n hc) (fun b o hc e=>u.there b o e hc) u.tups u.frzs u.tbls (fun m' hm=>by
  obtain ⟨o',es',ep',ho',r'⟩:=hm;rw [ho] at ho';cases ho'
  exact ⟨_,es',ep',hL,r'⟩) hok hg
theorem Inv.turned{t':Nat}{it:Addr}(I:Inv X pins σ H s)(k:∀ b o,b≠it->s.heap.get? b=some o->h'.get? b=some o)(hn:H it=none)(hL:it≠X.env.locals)
 (h1:it∈X.ex\/X.s₀.heap.objs.size<=it) (h2:∀ x c,X.env.cells.lookup x=some c->c≠it) (h3:∀ p∈X.pn++pins,p.1≠it):Inv X pins σ H { s with heap:=h',toks:=t' }:=by
 have nit:∀ b u,H b=some u->b≠it:=fun b u e z=>by rw [z,hn] at e;cases e
 refine I.step (g':=s.gens) (d':=s.drawn) (ch:=[it]) (fun b hb=> ?_) (fun b o _ _ hc e _=>k b o (fun z=>hc (by simp [z])) e) (fun b o _ _ hc e _=>⟨o.slots,k b o (fun z=>hc (by simp [z])) e⟩) (fun _ _ _ _ n=>n)
  (fun b o hc e=>⟨o,k b o (fun z=>hc (by simp [z])) e⟩) (fun _ _ e=>e) (fun _ _ _ e=>e) (fun b ps e=>⟨#[],by rw [e];simp⟩) (fun m hm=> ?_) (fun b u e=> ?_) I.bare
 ·have e:b=it:=by simpa using hb
  subst e;exact ⟨h1,hL,h2,h3⟩
 ·obtain ⟨o,es,ep,ho,r⟩:=hm
  exact ⟨o,es,ep,k _ o (Ne.symm hL) ho,r⟩
 ·refine (I.hok b u e).stay (fun c v hc q=>k c v ?_ q) (fun _ q=>q) fun _ _ q=>q
  rcases hc with z | z
  ·rw [z];exact nit b u e
  ·exact nit c _ z
theorem Inv.tok(I:Inv X pins σ H s)(t:Nat):Inv X pins σ H { s with toks:=t }:=I.un (h':=s.heap) (t':=t) Un.refl I.hok
theorem Inv.kept{t':Nat}(I:Inv X pins σ H s)(k:∀ b u,s.heap.get? b=some u->h'.get? b=some u):Inv X pins σ H { s with heap:=h',toks:=t' }:=I.un (Un.kept k) (I.hok.kept k)
theorem Inv.laid{a:Addr}{o:HO}{t':Nat}(I:Inv X pins σ H s)(k:∀ b u,s.heap.get? b=some u->h'.get? b=some u)(hp:s.heap.objs.size<=a)(new:aX X.prog X.w (upd H a o) h' a o) :
 Inv X pins σ (upd H a o) { s with heap:=h',toks:=t' }:=I.un (Un.laid k hp (I.hok.fresh hp)) (I.hok.laid k hp new)
theorem Inv.write{x e:Addr}{o:HO}{t':Nat}(I:Inv X pins σ H s)(mu:Mut (H x))(he:e=x\/H e=some (.own x))(k:∀ b u,b≠e->s.heap.get? b=some u->h'.get? b=some u)(heo:∃ u,h'.get? e=some u)
 (new:aX X.prog X.w (upd H x o) h' x o):Inv X pins σ (upd H x o) { s with heap:=h',toks:=t' }:=I.un (Un.write mu he k heo) (I.hok.write mu he k heo new)
theorem Inv.weak{σ':List (Option V)}(I:Inv X pins σ H s)(hl:σ'.length=σ.length)(w:∀ (i:Nat) v,σ'[i]?=some (some v)->σ[i]?=some (some v)):Inv X pins σ' H s :=
 ⟨I.ok,I.os,I.bare,I.base,let ⟨m,hn,hl'⟩:=I.loc;⟨m,hn,fun i x v e1 e2 e3=>hl' i x v e1 (w i v e2) e3⟩,I.cell,I.free,I.freeC,I.pin,I.hok,hl.trans I.len⟩
theorem Inv.pins_of{pins':List (Addr×Obj)}(I:Inv X pins σ H s)(h:∀ p∈pins',s.heap.get? p.1=some p.2/\H p.1=none/\p.1≠X.env.locals/\p.1∉X.fs/\∀ v,p.2.data ≠ .cell v):Inv X pins' σ H s :=
 ⟨I.ok,I.os,I.bare,I.base,I.loc,I.cell,I.free,I.freeC,fun p hp=>(zg.mp hp).elim (fun z=>I.pin p (yI _ z)) (h p),I.hok,I.len⟩
theorem jA{N:List Str}(hN:N.Nodup){i j:Nat}{x:Str}(a:N[i]?=some x)(b:N[j]?=some x):i=j:=by
 obtain ⟨h1,e1⟩:=yR.mp a;obtain ⟨h2,e2⟩:=yR.mp b;exact (List.getElem_inj hN).mp (e1.trans e2.symm)
theorem kE{M:Model}{A:Around}{E:Value->Shared->Prop}{i:Nat}{x:Str}{v:V}{u:Value}{Q:Unit->Shared->Prop}(I:Inv X pins σ H s)(hN:X.N.Nodup)(hi:X.N[i]?=some x)(hx:Loc X.env.scope x)(r:ax v u)
 (h:∀ s',Inv X pins (σ.set i (some v)) H s'->(∃ a,Heap.SameBut a s.heap s'.heap/\(a=X.env.locals\/X.env.cells.lookup x=some a))->Q () s') (hf:X.fn x=true\/X.env.scope.names.lookup x=some .local:=by first | exact .inl rfl | exact .inr rfl | assumption):wpAny M A (storeName X.env x u) Q E s:=by
 obtain ⟨m,hn,hl⟩:=id I.loc
 have hcls:(X.env.scope.kind == .class||(X.env.scope.kind == .module&&X.env.locals != X.env.globals))=false:=by rw [I.ok.kind];rfl
 have hiσ:i < σ.length:=by rw [I.len];exact (yR.mp hi).1
 have cne:=I.cne
 have tracked:∀ {a:Addr} {h':Heap},(∃ o,s.heap.get? a=some o/\H a=none)->Heap.SameBut a s.heap h'->HOk X.prog X.w H h':=fun {a h'} ha hs b ob e=>by
  obtain ⟨_,_,hfree⟩:=ha
  refine (I.hok b ob e).stay (fun c w' hc q=>(hs.2 c ?_).trans q) (fun _ q=>q) fun _ _ q=>q
  rintro rfl
  rcases hc with rfl | hc
  ·rw [hfree] at e;cases e
  ·rw [hfree] at hc;cases hc
 rcases hx with hk | hk
 ·refine wpAny_storeName_local hk hn (fun h' hn' hs=> ?_) hcls
  obtain ⟨oL,_,_,hoL,_⟩:=id hn;refine h _ ⟨I.ok,I.os,I.bare,⟨fun b o e n hb hx=> ?_,fun b o e n hb hx=> ?_,I.base.free,fun b o e hx=> ?_,I.base.tups,I.base.frzs,I.base.tbls⟩,⟨_,hn',fun j y v' e1 e2 e3=> ?_⟩,fun y c e=> ?_,I.free,I.freeC,fun p hp=> ?_,tracked ⟨oL,hoL,I.free⟩ hs,by simpa using I.len⟩ ⟨_,hs,.inl rfl⟩
  ·exact (hs.2 b (za (zb (yN e) I.ok.above))).trans (I.base.keep b o e n hb hx)
  ·obtain ⟨sl,e1⟩:=I.base.slot b o e n hb hx
   exact ⟨sl,(hs.2 b (za (zb (yN e) I.ok.above))).trans e1⟩
  ·obtain ⟨o',e1⟩:=I.base.there b o e hx
   exact ⟨o',(hs.2 b (za (zb (yN e) I.ok.above))).trans e1⟩
  ·by_cases hj:j=i
   ·subst hj
    rw [hi] at e1;cases e1;rw [zy hiσ] at e2;cases e2;exact ⟨u,r,.inl ⟨hk,by simp⟩⟩
   ·rw [zh (Ne.symm hj)] at e2
    obtain ⟨u',r',q⟩:=hl j y v' e1 e2 e3;refine ⟨u',r',?_⟩
    rcases q with ⟨k,e⟩ | ⟨k,c,e,z⟩
    ·refine .inl ⟨k,?_⟩
     have:y≠x:=fun e=>hj (jA hN e1 (e ▸ hi))
     simp [this,e]
    ·exact .inr ⟨k,c,e,z.sameBut hs (cne y c e)⟩
  ·obtain ⟨w',z⟩:=I.cell y c e
   exact ⟨w',z.sameBut hs (cne y c e)⟩
  ·obtain ⟨e,n,ne,nf,d⟩:=I.pin p hp
   exact ⟨(hs.2 p.1 ne).trans e,n,ne,nf,d⟩
 ·have hfn:X.fn x=true:=by
   rcases hf with z | z
   ·exact z
   ·rw [z] at hk;cases hk
  obtain ⟨c,hc⟩:=I.ok.has x (.inl hk);obtain ⟨w',z⟩:=I.cell x c hc;refine wpAny_storeName_cell I.ok.kind hk hc z (fun h' hc' hs=> ?_);obtain ⟨oc,hoc,hocd⟩:=id z;refine h { s with heap:=h' } ⟨I.ok,I.os,I.bare,⟨fun b o e n hb hx=> ?_,fun b o e n hb hx=> ?_,I.base.free,fun b o e hx=> ?_,I.base.tups,I.base.frzs,I.base.tbls⟩,⟨m,hn.sameBut hs (Ne.symm (cne x c hc)),fun j y v' e1 e2 e3=> ?_⟩,fun y c' e=> ?_,I.free,I.freeC,fun p hp=> ?_,tracked ⟨oc,hoc,I.freeC x c hc⟩ hs,by simpa using I.len⟩ ⟨c,hs,.inr hc⟩
  ·exact (hs.2 b (za (zb (yN e) (I.ok.cab x c hfn hc)))).trans (I.base.keep b o e n hb hx)
  ·obtain ⟨sl,e1⟩:=I.base.slot b o e n hb hx
   exact ⟨sl,(hs.2 b (za (zb (yN e) (I.ok.cab x c hfn hc)))).trans e1⟩
  ·obtain ⟨o',e1⟩:=I.base.there b o e hx
   exact ⟨o',(hs.2 b (za (zb (yN e) (I.ok.cab x c hfn hc)))).trans e1⟩
  ·by_cases hj:j=i
   ·subst hj
    rw [hi] at e1;cases e1;rw [zy hiσ] at e2;cases e2;exact ⟨u,r,.inr ⟨.inl hk,c,hc,hc'⟩⟩
   ·rw [zh (Ne.symm hj)] at e2
    obtain ⟨u',r',q⟩:=hl j y v' e1 e2 e3;refine ⟨u',r',?_⟩
    rcases q with q | ⟨k,c',e,z'⟩
    ·exact .inl q
    ·refine .inr ⟨k,c',e,z'.sameBut hs ?_⟩
     rintro rfl;exact hj (jA hN e1 (I.ok.inj _ _ _ e hc ▸ hi))
  ·by_cases hcc:c'=c
   ·subst hcc;exact ⟨_,hc'⟩
   ·obtain ⟨w2,z2⟩:=I.cell y c' e
    exact ⟨w2,z2.sameBut hs hcc⟩
  ·obtain ⟨e,n,ne,nf,d⟩:=I.pin p hp
   refine ⟨(hs.2 p.1 ?_).trans e,n,ne,nf,d⟩;intro q;rw [q,hoc] at e;have q':oc=p.2:=Option.some.inj e;exact d w' (by rw [<- q'];exact hocd)
theorem gv{M:Model}{A:Around}{E:Value->Shared->Prop}{i:Nat}{x:Str}{v:V}{u:Value}{Q:Unit->Shared->Prop}(I:Inv X pins σ H s)(hN:X.N.Nodup)(hi:X.N[i]?=some x)(hx:Loc X.env.scope x)(r:ax v u)
 (h:∀ s',Inv X pins (σ.set i (some v)) H s'->Q () s') (hf:X.fn x=true\/X.env.scope.names.lookup x=some .local:=by first | exact .inl rfl | exact .inr rfl | assumption):wpAny M A (storeName X.env x u) Q E s :=
 kE I hN hi hx r (fun s' I' _=>h s' I') hf
theorem Inv.call'{s':Shared}{ch:List Addr}(I:Inv X pins σ H s)(ho:s'.os=s.os)(u:Un (frs X.stack) ch H H' s.heap s'.heap)(hok:HOk X.prog X.w H' s'.heap)(hg:AllBare s'.gens)
 (hch:∀ b∈ch,(b∈X.ex\/X.s₀.heap.objs.size<=b)/\b≠X.env.locals/\(∀ x c,X.env.cells.lookup x=some c->c≠b)/\∀ p∈X.pn++pins,p.1≠b):Inv X pins σ H' s':=by
 obtain ⟨h',g',d',t',o'⟩:=s';have e:o'=s.os:=ho;subst e;exact I.call (g':=g') (t':=t') (d':=d') u hok hg hch
end
abbrev XK:=Value->Option Addr->Hp->Prop
abbrev St:=List (Option V)
abbrev VK:=V->Hp->Prop
abbrev TE:=St->Hp->VK->Prop
abbrev TT:=St->Hp->(Bool->Hp->Prop)->Prop
abbrev TA:=St->Hp->(List V->Hp->Prop)->Prop
structure kB where
 nx:St->Hp->Prop
 rt:VK
 bk:St->Hp->Prop:=fun _ _=>False
 ct:St->Hp->Prop:=fun _ _=>False
abbrev TS:=kB->St->Hp->Prop
def EP(X:Cx)(pins:List (Addr×Obj))(σ:St)(Q:VK)(u:Value)(s':Shared):Prop:=∃ v H',Inv X pins σ H' s'/\ax v u/\Q v H'
def TP(X:Cx)(pins:List (Addr×Obj))(σ:St)(Q:Bool->Hp->Prop)(b:Bool)(s':Shared):Prop:=∃ H',Inv X pins σ H' s'/\Q b H'
def AP(X:Cx)(pins:List (Addr×Obj))(σ:St)(Q:List V->Hp->Prop)(us:List Value)(s':Shared):Prop:=∃ vs H',Inv X pins σ H' s'/\aq vs us/\Q vs H'
def SP(X:Cx)(pins:List (Addr×Obj))(D:kB)(f:Flow)(s':Shared):Prop :=
 match f with
 | .next=>∃ σ' H',Inv X pins σ' H' s'/\D.nx σ' H'
 | .brk=>∃ σ' H',Inv X pins σ' H' s'/\D.bk σ' H'
 | .cont=>∃ σ' H',Inv X pins σ' H' s'/\D.ct σ' H'
 | .ret u=>∃ v σ' H',Inv X pins σ' H' s'/\ax v u/\D.rt v H'
def PE(X:Cx)(e:Expr)(t:TE):Prop :=
 ∀ (pins:List (Addr×Obj)) (s:Shared) (σ:St) (H:Hp) (Q:VK),Inv X pins σ H s->t σ H Q->wpAny (model X.prog X.w) X.A (eval e X.env) (EP X pins σ Q) X.xe s
def PT(X:Cx)(e:Expr)(t:TT):Prop :=
 ∀ (pins:List (Addr×Obj)) (s:Shared) (σ:St) (H:Hp) (Q:Bool->Hp->Prop),Inv X pins σ H s->t σ H Q->wpAny (model X.prog X.w) X.A (isTrue e X.env (eval e X.env)) (TP X pins σ Q) X.xe s
def PW(X:Cx)(e:Expr)(t:TT):Prop :=
 ∀ (whole:Sem Value) (pins:List (Addr×Obj)) (s:Shared) (σ:St) (H:Hp) (Q:Bool->Hp->Prop),Inv X pins σ H s->t σ H Q->wpAny (model X.prog X.w) X.A (isTrue e X.env whole) (TP X pins σ Q) X.xe s
theorem PW.pt{X:Cx}{e:Expr}{t:TT}(h:PW X e t):PT X e t:=h _
def PA(X:Cx)(es:List Expr)(t:TA):Prop :=
 ∀ (pos:Pos) (pins:List (Addr×Obj)) (s:Shared) (σ:St) (H:Hp) (Q:List V->Hp->Prop),Inv X pins σ H s->t σ H Q->wpAny (model X.prog X.w) X.A (spliced (backTo pos (starEach es X.env))) (AP X pins σ Q) X.xe s
def PS(X:Cx)(st:Stmt)(t:TS):Prop :=
 ∀ (pins:List (Addr×Obj)) (s:Shared) (σ:St) (H:Hp) (D:kB),Inv X pins σ H s->t D σ H->wpAny (model X.prog X.w) X.A (exec st X.env) (SP X pins D) X.xe s
def PSs(X:Cx)(st:List Stmt)(t:TS):Prop :=
 ∀ (pins:List (Addr×Obj)) (s:Shared) (σ:St) (H:Hp) (D:kB),Inv X pins σ H s->t D σ H->wpAny (model X.prog X.w) X.A (execs st X.env) (SP X pins D) X.xe s
theorem thn{α:Type}{t:Sem α}{Q Q':α->Shared->Prop}{M:Model}{A:Around}{E:Value->Shared->Prop}{s:Shared}(h:wpAny M A t Q E s)(hQ:∀ a s,Q a s->Q' a s):wpAny M A t Q' E s:=zp h hQ fun _ _ x=>x
section
variable{X:Cx}
theorem bin{a b:Expr}{ta tb:TE}(ha:PE X a ta)(hb:PE X b tb){pins:List (Addr×Obj)}{s:Shared}{σ:St}{H:Hp}{R:V->V->Hp->Prop}(I:Inv X pins σ H s)(h:ta σ H fun x H1=>tb σ H1 fun y H2=>R x y H2)
 {α:Type} {Q:α->Shared->Prop} {f:Value->Value->Sem α}
 (hf:∀ v u s2 x y H2,Inv X pins σ H2 s2->ax x v->ax y u->R x y H2->wpAny (model X.prog X.w) X.A (f v u) Q X.xe s2) :
 wpAny (model X.prog X.w) X.A (eval a X.env) (fun v s₁=>wpAny (model X.prog X.w) X.A (eval b X.env) (fun u s₂=>wpAny (model X.prog X.w) X.A (f v u) Q X.xe s₂) X.xe s₁) X.xe s:=by
 refine thn (ha pins s σ H _ I h) fun v s1 ⟨x,H1,I1,r1,q1⟩=> ?_
 refine thn (hb pins s1 σ H1 _ I1 q1) fun u s2 ⟨y,H2,I2,r2,q2⟩=> ?_
 exact hf v u s2 x y H2 I2 r1 r2 q2
def jc(i:Nat):TE:=fun σ H Q=>∃ v,σ[i]?=some (some v)/\Q v H
def tC(v:V):TE:=fun _ H Q=>Q v H
theorem dy{i:Nat}{x:Str}{pos:Pos}(hN:X.N[i]?=some x)(hv:Vis X.env.scope x)(hd:(x == ("__debug__" : Str))=false:=by decide)(hcd:(x == ("__classdict__" : Str))=false:=by decide):PE X (.Name x pos) (jc i):=by
 intro pins s σ H Q I h;obtain ⟨v,e,h⟩:=h;obtain ⟨m,hn,hl⟩:=I.loc;obtain ⟨u,r,l⟩:=hl i x v hN e hv;have fin:EP X pins σ Q u s:=⟨v,H,I,r,h⟩
 rcases l with ⟨hk,hm⟩ | ⟨hk,c,hc,hcell⟩
 ·exact wpAny_Name (wpAny_loadName_local I.ok.kind hk hn hm fin) hd
 ·rcases hk with hk | hk
  ·exact wpAny_Name (wpAny_loadName_cell I.ok.kind hk hc hcell fin) hd
  ·exact wpAny_Name (wpAny_loadName_free I.ok.kind hk hc hcell fin hcd) hd
theorem js{i j pos}:PE X (.Constant (.int i) j pos) (tC (.int i)):=fun _ _ _ H _ I h=>wpAny_Constant_int ⟨.int i,H,I.tok _,⟨_,rfl⟩,h⟩
theorem tZ{b j pos}:PE X (.Constant (.bool b) j pos) (tC (.bl b)):=fun _ _ _ H _ I h=>Constant_bool ⟨.bl b,H,I,rfl,h⟩
theorem pe_non{j pos}:PE X (.Constant .none j pos) (tC .non):=fun _ _ _ H _ I h=>Constant_none ⟨.non,H,I,rfl,h⟩
theorem da{x j pos}:PE X (.Constant (.str x) j pos) (tC (.str x)):=fun _ _ _ H _ I h=>Calls.Constant_str ⟨.str x,H,I.tok _,⟨_,rfl⟩,h⟩
def Gl(X:Cx)(x:Str):Prop:=X.env.kindOf x=some .globalImplicit
theorem dR{E:Value->Shared->Prop}{pins:List (Addr×Obj)}{s:Shared}{σ:St}{H:Hp}{x:Str}{u:Value}{pos:Pos}{Q:Value->Shared->Prop}(I:Inv X pins σ H s)(hg:Gl X x)(hm:X.mg x=some u)(h:Q u s)
 (hd:(x == ("__debug__" : Str))=false:=by decide):wpAny (model X.prog X.w) X.A (eval (.Name x pos) X.env) Q E s :=
 Calls.Name_function_global I.ok.kind hg (Calls.loadGlobal_global (by rw [I.ok.glob];exact I.mod.glob.keeps I.bk) hm h) hd
theorem ib{E:Value->Shared->Prop}{pins:List (Addr×Obj)}{s:Shared}{σ:St}{H:Hp}{x:Str}{u:Value}{pos:Pos}{Q:Value->Shared->Prop}(I:Inv X pins σ H s)(hg:Gl X x)(hm:X.mg x=none)(hv:bootBuiltins x=some u)(h:Q u s)
 (hn:x ≠ "__name__" := by decide) (hd:(x == ("__debug__" : Str))=false:=by decide):wpAny (model X.prog X.w) X.A (eval (.Name x pos) X.env) Q E s:=by
 obtain ⟨mb,h1,h2⟩:=I.mod.blt;exact Calls.Name_function_global I.ok.kind hg (Calls.loadGlobal_builtin (by rw [I.ok.glob];exact I.mod.glob.keeps I.bk) hm (by rw [I.ok.blt];exact h1.keeps I.bk) ((h2 x hn).trans hv) h) hd
theorem p8{x:Str}{v:V}{u:Value}{pos:Pos}(hg:Gl X x)(hm:X.mg x=some u)(r:ax v u)(hd:(x == ("__debug__" : Str))=false:=by decide):PE X (.Name x pos) (tC v) :=
 fun _ _ _ H _ I h=>dR I hg hm ⟨v,H,I,r,h⟩ hd
theorem qc{x:Str}{v:V}{u:Value}{pos:Pos}(hg:Gl X x)(hm:X.mg x=none)(hv:bootBuiltins x=some u)(r:ax v u)(hn:x ≠ "__name__" := by decide)(hd:(x == ("__debug__" : Str))=false:=by decide):PE X (.Name x pos) (tC v) :=
 fun _ _ _ H _ I h=>ib I hg hm hv ⟨v,H,I,r,h⟩ hn hd
variable{a b:Expr}{ta tb:TE}{pos:Pos}
def PC(X:Cx)(op:CmpOp)(a b:Expr)(t:TE):Prop :=
 ∀ (pins:List (Addr×Obj)) (s:Shared) (σ:St) (H:Hp) (Q:VK),Inv X pins σ H s->t σ H Q ->
  wpAny (model X.prog X.w) X.A (eval a X.env) (fun v s₁=>wpAny (model X.prog X.w) X.A (eval b X.env) (fun u s₂=>wpAny (model X.prog X.w) X.A (compareOp op v u) (EP X pins σ Q) X.xe s₂) X.xe s₁) X.xe s
theorem ui(b:Expr){op:CmpOp}(h:op ≠ .In)(h2:op ≠ .NotIn):behindInMarks op b=false:=by
 have e1:(op == CmpOp.In)=false:=by cases op<;>first | rfl | exact absurd rfl h
 have e2:(op == CmpOp.NotIn)=false:=by cases op<;>first | rfl | exact absurd rfl h2
 cases b<;>simp [behindInMarks,e1,e2]
def tB(t:TE):TT:=fun σ H Q=>t σ H fun x H1=>∃ c,x = .bl c/\Q c H1
theorem pt_cmp{op:CmpOp}{t:TE}(h:PC X op a b t)(h1:behindInMarks op b=false:=by first | exact ui _ (by decide) (by decide) | rfl):PT X (.Compare a [op] [b] pos) (tB t):=by
 intro pins s σ H Q I hw;refine wpAny_isTrue_Compare1 (thn (h pins s σ H _ I hw) fun v s1 h1=>thn h1 fun u s2 h2=>thn h2 fun c s3 ⟨x,H1,I1,r1,q1⟩=> ?_) h1;obtain ⟨d,rfl,q⟩:=q1;cases r1;exact zV ⟨H1,I1,q⟩
theorem pt_val{e:Expr}{t:TE}(h:PE X e t)(he:∀ whole,isTrue e X.env whole=(do let v <- whole;standAt e.pos;holding [v] (truthy v)):=by intro _;rfl):PT X e (tB t):=by
 intro pins s σ H Q I hw;refine isTrue_plain (thn (h pins s σ H _ I hw) fun v s1 ⟨x,H1,I1,r1,q1⟩=> ?_) (he _);obtain ⟨d,rfl,q⟩:=q1;cases r1;exact zV ⟨H1,I1,q⟩
variable{tA tB':TT}{rest:List Expr}
def tAnd(t u:TT):TT:=fun σ H Q=>t σ H fun c H1=>if c=true then u σ H1 Q else Q false H1
def tOr(t u:TT):TT:=fun σ H Q=>t σ H fun c H1=>if c=true then Q true H1 else u σ H1 Q
def tNot(t:TT):TT:=fun σ H Q=>t σ H fun c H1=>Q (!c) H1
theorem wa(ha:PT X a tA):PW X (.BoolOp .And [a] pos) tA:=by
 intro wh pins s σ H Q I h;refine isTrue_and (thn (ha pins s σ H Q I h) fun c s1 e=> ?_)
 cases c with
 | true=>exact isTrue_and_nil e
 | false=>exact e
theorem tF(ha:PT X a tA):PW X (.BoolOp .Or [a] pos) tA:=by
 intro wh pins s σ H Q I h;refine isTrue_or (thn (ha pins s σ H Q I h) fun c s1 e=> ?_)
 cases c with
 | false=>exact isTrue_or_nil e
 | true=>exact e
theorem pw_and(ha:PT X a tA)(hb:PW X (.BoolOp .And (b::rest) pos) tB'):PW X (.BoolOp .And (a::b::rest) pos) (tAnd tA tB'):=by
 intro wh pins s σ H Q I h;refine isTrue_and (thn (ha pins s σ H _ I h) fun c s1 ⟨H1,I1,q1⟩=> ?_)
 cases c with
 | true=>exact hb wh pins s1 σ H1 Q I1 q1
 | false=>exact ⟨H1,I1,q1⟩
theorem ya(ha:PT X a tA)(hb:PW X (.BoolOp .Or (b::rest) pos) tB'):PW X (.BoolOp .Or (a::b::rest) pos) (tOr tA tB'):=by
 intro wh pins s σ H Q I h;refine isTrue_or (thn (ha pins s σ H _ I h) fun c s1 ⟨H1,I1,q1⟩=> ?_)
 cases c with
 | true=>exact ⟨H1,I1,q1⟩
 | false=>exact hb wh pins s1 σ H1 Q I1 q1
theorem tJ(ha:PT X a tA):PT X (.UnaryOp .Not a pos) (tNot tA):=by
 intro pins s σ H Q I h;exact isTrue_not (ha pins s σ H (fun c H1=>Q (!c) H1) I h)
def tAndV(ta tb:TE):TE:=fun σ H Q=>ta σ H fun x H1=>∃ c,x = .bl c/\if c=true then tb σ H1 Q else Q (.bl false) H1
def tNotV(ta:TE):TE:=fun σ H Q=>ta σ H fun x H1=>∃ c,x = .bl c/\Q (.bl (!c)) H1
theorem pe_one{op}{t:TE}(h:PE X a t):PE X (.BoolOp op [a] pos) t:=fun pins s σ H Q I hw=>BoolOp_one (h pins s σ H Q I hw)
theorem pe_and(ha:PE X a ta)(hb:PE X (.BoolOp .And (b::rest) pos) tb):PE X (.BoolOp .And (a::b::rest) pos) (tAndV ta tb):=by
 intro pins s σ H Q I h;refine BoolOp_and (thn (ha pins s σ H _ I h) fun v s1 ⟨x,H1,I1,r1,q1⟩=> ?_);obtain ⟨c,rfl,q1⟩:=q1;cases r1;refine zV ?_
 cases c with
 | true=>exact hb pins s1 σ H1 Q I1 q1
 | false=>exact ⟨.bl false,H1,I1,rfl,q1⟩
theorem pe_not(ha:PE X a ta):PE X (.UnaryOp .Not a pos) (tNotV ta):=by
 intro pins s σ H Q I h;refine UnaryOp_ (thn (ha pins s σ H _ I h) fun v s1 ⟨x,H1,I1,r1,q1⟩=> ?_);obtain ⟨c,rfl,q1⟩:=q1;cases r1;exact not_of (zV ⟨.bl (!c),H1,I1,rfl,q1⟩)
end
def SqL(K:A9)(H:Hp)(a:Addr)(xs:List V):Prop :=
 Rd H a (.lst xs) \/
  ∃ (o:Obj) (its:Array Value) (n:Nat),K.lookup a=some o/\o.cls = .type "list" /\ o.dict=none/\o.data = .seq its n/\its.size<=sizeLine/\aq xs its.toList
def SqT(K:A9)(H:Hp)(a:Addr)(xs:List V):Prop :=
 Rd H a (.tup xs) \/
  ∃ (o:Obj) (its:Array Value) (n:Nat),K.lookup a=some o/\o.cls = .type "tuple" /\ o.data = .seq its n/\its.size<=sizeLine/\aq xs its.toList
def absV:Value->Option V
 | .none=>some .non
 | .bool b=>some (.bl b)
 | .int i _=>some (.int i)
 | .str x _=>some (.str x)
 | .bytes b _=>some (.byt b)
 | .float b _=>some (.flt b)
 | .ref a=>some (.ref a)
 | .type n=>some (.ty n)
 | _=>none
theorem ax.abs{x:V}{u:Value}(r:ax x u):absV u=some x:=by
 cases x with
 | non=>cases r;rfl
 | bl _=>cases r;rfl
 | int _=>obtain ⟨t,rfl⟩:=r;rfl
 | str _=>obtain ⟨t,rfl⟩:=r;rfl
 | byt _=>obtain ⟨t,rfl⟩:=r;rfl
 | flt _=>obtain ⟨t,rfl⟩:=r;rfl
 | ref _=>cases r;rfl
 | ty _=>cases r;rfl
theorem ax.inj{x y:V}{u:Value}(r:ax x u)(q:ax y u):x=y:=Option.some.inj (r.abs.symm.trans q.abs)
theorem aq.inj:∀ {xs ys:List V} {us:List Value},aq xs us->aq ys us->xs=ys
 | _,_,_,.nil,.nil=>rfl
 | _,_,_,.cons r t,.cons r' t'=>by rw [r.inj r',aq.inj t t']
section
variable{X:Cx}{pins:List (Addr×Obj)}{σ:St}{H:Hp}{s:Shared}{a:Addr}{xs ys:List V}
theorem Inv.list(I:Inv X pins σ H s)(h:SqL X.K H a xs):∃ its:List Value,aq xs its/\PlainL s.heap a its.toArray/\xs.length<=sizeLine:=by
 rcases h with h | ⟨o,its,n,hk,hc,hd,hs,hz,r⟩
 ·obtain ⟨z,its,n,r,e⟩:=h.ok I.hok
  exact ⟨its,r,⟨_,n,e,rfl,rfl,rfl⟩,z⟩
 ·refine ⟨its.toList,r,⟨o,n,I.kIn a o hk,hc,hd,by simpa using hs⟩,?_⟩
  have e:=r.length;simp only [zt] at e;omega
theorem Inv.tuple(I:Inv X pins σ H s)(h:SqT X.K H a xs):∃ its:List Value,aq xs its/\IsTup s.heap a its.toArray/\xs.length<=sizeLine:=by
 rcases h with h | ⟨o,its,n,hk,hc,hs,hz,r⟩
 ·obtain ⟨z,its,r,p⟩:=h.ok I.hok
  exact ⟨its,r,p.t,z⟩
 ·refine ⟨its.toList,r,⟨o,I.kIn a o hk,hc,n,by simpa using hs⟩,?_⟩
  have e:=r.length;simp only [zt] at e;omega
theorem Inv.list_inj(I:Inv X pins σ H s)(h:SqL X.K H a xs)(h':SqL X.K H a ys):xs=ys:=by
 obtain ⟨its,r,⟨o,n,e,_,_,d⟩,_⟩:=I.list h;obtain ⟨its',r',⟨o',n',e',_,_,d'⟩,_⟩:=I.list h';rw [e] at e';cases e';rw [d] at d'
 injection d' with d1 _
 have:its=its':=by simpa using congrArg Array.toList d1
 subst this;exact r.inj r'
theorem Inv.tuple_inj(I:Inv X pins σ H s)(h:SqT X.K H a xs)(h':SqT X.K H a ys):xs=ys:=by
 obtain ⟨its,r,⟨o,e,_,n,d⟩,_⟩:=I.tuple h;obtain ⟨its',r',⟨o',e',_,n',d'⟩,_⟩:=I.tuple h';rw [e] at e';cases e';rw [d] at d'
 injection d' with d1 _
 have:its=its':=by simpa using congrArg Array.toList d1
 subst this;exact r.inj r'
end
abbrev Cx.wish(X:Cx)(E:Value->Shared->Prop):Cx:={ X with xe:=E }
abbrev Cx.nox(X:Cx):Cx:=X.wish fun _ _=>False
theorem Cx.Ok.wish{X:Cx}(ok:X.Ok)(E:Value->Shared->Prop):(X.wish E).Ok :=
 ⟨ok.mod,ok.kind,ok.glob,ok.blt,ok.above,ok.inj,ok.has,ok.cab,ok.hd,ok.frames,ok.stk,ok.exf,ok.bs,ok.bsz,ok.noex,ok.exfs,ok.funs,ok.frf⟩
theorem Cx.Ok.unwish{X:Cx}{E:Value->Shared->Prop}(ok:(X.wish E).Ok):X.Ok :=
 ⟨ok.mod,ok.kind,ok.glob,ok.blt,ok.above,ok.inj,ok.has,ok.cab,ok.hd,ok.frames,ok.stk,ok.exf,ok.bs,ok.bsz,ok.noex,ok.exfs,ok.funs,ok.frf⟩
section
variable{X:Cx}{pins:List (Addr×Obj)}{σ:St}{H:Hp}{s:Shared}{E:Value->Shared->Prop}
theorem Inv.wish(I:Inv X pins σ H s)(E:Value->Shared->Prop):Inv (X.wish E) pins σ H s:=⟨I.ok.wish E,I.os,I.bare,I.base,I.loc,I.cell,I.free,I.freeC,I.pin,I.hok,I.len⟩
theorem Inv.unwish(I:Inv (X.wish E) pins σ H s):Inv X pins σ H s:=⟨I.ok.unwish,I.os,I.bare,I.base,I.loc,I.cell,I.free,I.freeC,I.pin,I.hok,I.len⟩
theorem SP.unwish{D:kB}{f:Flow}{s':Shared}(h:SP (X.wish E) pins D f s'):SP X pins D f s':=by
 cases f with
 | next=>obtain ⟨σ',H',I,q⟩:=h;exact ⟨σ',H',I.unwish,q⟩
 | brk=>obtain ⟨σ',H',I,q⟩:=h;exact ⟨σ',H',I.unwish,q⟩
 | cont=>obtain ⟨σ',H',I,q⟩:=h;exact ⟨σ',H',I.unwish,q⟩
 | ret u=>obtain ⟨v,σ',H',I,r,q⟩:=h;exact ⟨v,σ',H',I.unwish,r,q⟩
end
section
variable{X:Cx}{st:Stmt}{rest:List Stmt}{t u:TS}{e:Expr}{te:TE}{pos:Pos}
def tNext:TS:=fun D σ H=>D.nx σ H
def tSeq(t u:TS):TS:=fun D σ H=>t { D with nx:=u D } σ H
theorem p6:PSs X [] tNext:=fun _ _ σ H _ I h=>AV ⟨σ,H,I,h⟩
theorem cY(h1:PS X st t)(h2:PSs X rest u):PSs X (st::rest) (tSeq t u):=by
 intro pins s σ H D I h;refine wpAny_execs_cons (thn (h1 pins s σ H { D with nx:=u D } I h) fun f s1 q=> ?_)
 cases f with
 | next =>
  obtain ⟨σ',H',I',q⟩:=q;exact h2 pins s1 σ' H' D I' q
 | ret v=>exact q
 | brk=>exact q
 | cont=>exact q
theorem iX(h1:PS X st t):PSs X [st] t:=by
 intro pins s σ H D I h;refine wpAny_execs_cons (thn (h1 pins s σ H D I h) fun f s1 q=> ?_)
 cases f with
 | next=>exact AV q
 | ret v=>exact q
 | brk=>exact q
 | cont=>exact q
theorem Inv.quiet{pins:List (Addr×Obj)}{σ:St}{H:Hp}{s:Shared}(I:Inv X pins σ H s):interactive X.env=false:=by simp [interactive,I.ok.kind]
def xM(te:TE):TS:=fun D σ H=>te σ H fun _ H1=>D.nx σ H1
theorem lP(he:PE X e te)(hs:swapsWith e none pos.line X.env=pure false:=by rfl):PS X (.Expr e pos) (xM te):=by
 intro pins s σ H D I h;exact wpAny_Expr_any (thn (he pins s σ H _ I h) fun v s1 ⟨x,H1,I1,r1,q1⟩=>⟨σ,H1,I1,q1⟩) I.quiet hs
def tRet(te:TE):TS:=fun D σ H=>te σ H D.rt
theorem lO(he:PE X e te):PS X (.Return (some e) pos) (tRet te):=by
 intro pins s σ H D I h;exact wpAny_Return_some (thn (he pins s σ H _ I h) fun v s1 ⟨x,H1,I1,r1,q1⟩=>⟨x,σ,H1,I1,r1,q1⟩)
def tIfS(c:TT)(t u:TS):TS:=fun D σ H=>c σ H fun b H1=>if b=true then t D σ H1 else u D σ H1
theorem yb{c:Expr}{a b:List Stmt}{tc:TT}(hc:PT X c tc)(ha:PSs X a t)(hb:PSs X b u):PS X (.If c a b pos) (tIfS tc t u):=by
 intro pins s σ H D I h;refine wpAny_If (thn (hc pins s σ H _ I h) fun d s1 ⟨H1,I1,q1⟩=> ?_)
 cases d with
 | true=>exact ha pins s1 σ H1 D I1 q1
 | false=>exact hb pins s1 σ H1 D I1 q1
end
abbrev TG:=V->St->Hp->(St->Hp->Prop)->Prop
abbrev TGs:=List V->St->Hp->(St->Hp->Prop)->Prop
def PG(X:Cx)(target:Expr)(t:TG):Prop :=
 ∀ (pins:List (Addr×Obj)) (s:Shared) (σ:St) (H:Hp) (v:V) (u:Value) (Q:St->Hp->Prop),Inv X pins σ H s->ax v u->t v σ H Q ->
  wpAny (model X.prog X.w) X.A (assign target X.env u) (fun _ s'=>∃ σ' H',Inv X pins σ' H' s'/\Q σ' H') X.xe s
def PGs(X:Cx)(ts:List Expr)(t:TGs):Prop :=
 ∀ (pins:List (Addr×Obj)) (s:Shared) (σ:St) (H:Hp) (vs:List V) (us:List Value) (Q:St->Hp->Prop),Inv X pins σ H s->aq vs us->t vs σ H Q ->
  wpAny (model X.prog X.w) X.A (assignInOrder ((assignEach ts X.env).map (·.2)) us) (fun _ s'=>∃ σ' H',Inv X pins σ' H' s'/\Q σ' H') X.xe s
abbrev TSet:=V->V->V->Hp->(Hp->Prop)->Prop
def PSet(X:Cx)(t:TSet):Prop :=
 ∀ (pins:List (Addr×Obj)) (s:Shared) (σ:St) (H:Hp) (o i v:V) (ov iv u:Value) (Q:Hp->Prop),Inv X pins σ H s->ax o ov->ax i iv->ax v u->t o i v H Q ->
  wpAny (model X.prog X.w) X.A (setItem ov iv u) (fun _ s'=>∃ H',Inv X pins σ H' s'/\Q H') X.xe s
section
variable{X:Cx}{pos:Pos}
def qp(i:Nat):TG:=fun v σ H Q=>Q (σ.set i (some v)) H
theorem wl{i:Nat}{x:Str}(hN:X.N.Nodup)(hi:X.N[i]?=some x)(hx:Loc X.env.scope x)(hf:X.fn x=true\/X.env.scope.names.lookup x=some .local:=by first | exact .inl rfl | exact .inr rfl | assumption):PG X (.Name x pos) (qp i):=by
 intro pins s σ H v u Q I r h;exact wpAny_assign_Name (gv I hN hi hx r (fun s' I'=>⟨_,H,I',h⟩) hf)
def gNil:TGs:=fun vs σ H Q=>vs=[]/\Q σ H
def yt(t:TG)(u:TGs):TGs:=fun vs σ H Q=>∃ v r,vs=v::r/\t v σ H fun σ' H'=>u r σ' H' Q
theorem wk:PGs X [] gNil:=by
 intro pins s σ H vs us Q I r h;obtain ⟨e,h⟩:=h;subst e;cases r;exact assignInOrder_nil ⟨σ,H,I,h⟩
theorem tS{e:Expr}{es:List Expr}{t:TG}{u:TGs}(h1:PG X e t)(h2:PGs X es u)
 (hs:(assignEach (e::es) X.env).map (·.2)=assign e X.env::(assignEach es X.env).map (·.2):=by rfl):PGs X (e::es) (yt t u):=by
 intro pins s σ H vs us Q I r h;obtain ⟨v,vr,e1,h⟩:=h;subst e1
 cases r with
 | cons r rr =>
  rw [hs];refine assignInOrder_cons (thn (h1 pins s σ H _ _ _ I r h) fun _ s1 ⟨σ1,H1,I1,q1⟩=> ?_);exact h2 pins s1 σ1 H1 _ _ Q I1 rr q1
def gTup(K:A9)(n:Nat)(t:TGs):TG:=fun v σ H Q=>∃ a xs,v = .ref a/\SqT K H a xs/\xs.length=n/\t xs σ H Q
theorem pg_tup{es:List Expr}{k:Nat}{t:TGs}{n:Nat}(hc:X.calm=true)(h:PGs X es t)
 (hn:(assignEach es X.env).length=n:=by rfl) (hst:(assignEach es X.env).findIdx? (·.1)=none:=by rfl):PG X (.Tuple es k pos) (gTup X.K n t):=by
 intro pins s σ H v u Q I r hw;obtain ⟨a,xs,e1,hq,hl,hw⟩:=hw;subst e1;cases r;obtain ⟨its,rv,ht,hz⟩:=I.tuple hq
 refine assign_Tuple_tuple (I.ok.hd hc) ht (by simp [hn,<- hl,rv.length]) hst fun h' hx=> ?_
 have I1:Inv X pins σ H { s with heap:=h' }:=I.kept (t':=s.toks) fun b o e=>hx b o (za (yN e)) e
 exact h pins _ σ H xs _ Q I1 (by simpa using rv) hw
def gSub(to ti:TE)(t:TSet):TG:=fun v σ H Q=>to σ H fun o H1=>ti σ H1 fun i H2=>t o i v H2 fun H3=>Q σ H3
theorem pg_sub{o i:Expr}{to ti:TE}{t:TSet}(ho:PE X o to)(hi:PE X i ti)(hs:PSet X t)
 (ha:∀ v,assign (.Subscript o i pos) X.env v=(do
   let ov <- holding [v] (eval o X.env)
   let iv <- holding [v,ov] (eval i X.env)
   standAt pos
   holding [v,ov,iv] (setItem ov iv v)
   release [v,ov,iv] []):=by intro _;rfl):PG X (.Subscript o i pos) (gSub to ti t):=by
 intro pins s σ H v u Q I r h;rw [ha];refine yB (zG (thn (ho pins s σ H _ I h) fun ov s1 ⟨x,H1,I1,r1,q1⟩=> ?_));refine yB (zG (thn (hi pins s1 σ H1 _ I1 q1) fun iv s2 ⟨y,H2,I2,r2,q2⟩=> ?_));refine yB (wpAny_standAt (yB (zG (thn (hs pins s2 σ H2 x y v ov iv u _ I2 r1 r2 r q2) fun _ s3 ⟨H3,I3,q3⟩=> ?_))));exact wpAny_release ⟨σ,H3,I3,q3⟩
def tAsg(te:TE)(g:TG):TS:=fun D σ H=>te σ H fun x H1=>g x σ H1 D.nx
theorem ps_asg{tg e:Expr}{te:TE}{g:TG}(he:PE X e te)(hg:PG X tg g)(hs:swapsWithSole [tg] e pos.line X.env=pure false:=by rfl)(hw:swappedStores [tg] e X.env=pure none:=by rfl)
 (h1:(assignEach [tg] X.env).map (·.2)=[assign tg X.env]:=by rfl):PS X (.Assign [tg] e pos) (tAsg te g):=by
 intro pins s σ H D I h;refine wpAny_Assign_stores (thn (he pins s σ H _ I h) fun v s1 ⟨x,H1,I1,r1,q1⟩=> ?_) hs hw;rw [h1]
 exact thn (hg pins s1 σ H1 x v _ I1 r1 q1) fun _ s2 q=>q
theorem lN{i:Nat}{x:Str}{e:Expr}{te:TE}{pos':Pos}(hN:X.N.Nodup)(hi:X.N[i]?=some x)(hx:Loc X.env.scope x)(he:PE X e te)(hs:swapsWith e (some (.Name x pos')) pos.line X.env=pure false:=by rfl)(hf:X.fn x=true\/X.env.scope.names.lookup x=some .local:=by first | exact .inl rfl | exact .inr rfl | assumption) :
 PS X (.Assign [.Name x pos'] e pos) (tAsg te (qp i)):=by
 intro pins s σ H D I h;refine wpAny_Assign_Name (thn (he pins s σ H _ I h) fun v s1 ⟨y,H1,I1,r1,q1⟩=> ?_) hs;exact gv I1 hN hi hx r1 (fun s2 I2=>⟨_,H1,I2,q1⟩) hf
end
section
variable{X:Cx}{pos:Pos}
def tWhile(c:TT)(tb:TS):TS:=fun D σ H=>∃ W:Nat->St->Hp->Prop,(∃ m,W m σ H)/\∀ m σ H,W m σ H ->
 c σ H fun b H1=>if b=true then ∃ N:St->Hp->Prop,(∀ σ' H',N σ' H'->∃ m',m' < m/\W m' σ' H')/\tb { D with nx:=N,ct:=N,bk:=D.nx } σ H1 else D.nx σ H1
theorem tK{c:Expr}{body:List Stmt}{tc:TT}{tb:TS}(hp:PassesOwn (model X.prog X.w) X.A X.env X.xe)(hc:PT X c tc)(hb:PSs X body tb):PS X (.While c body [] pos) (tWhile tc tb):=by
 intro pins s σ H D I h;obtain ⟨W,⟨m0,w0⟩,turn⟩:=h;refine wpAny_While (codeAny_whileLoop (fun n s'=>∃ σ' H',Inv X pins σ' H' s'/\W n σ' H') ?_ m0 ⟨σ,H,I,w0⟩);rintro n s1 ⟨σ1,H1,I1,w1⟩;refine Al hp (thn (hc pins s1 σ1 H1 _ I1 (turn n σ1 H1 w1)) fun b s2 ⟨H2,I2,q2⟩=> ?_)
 cases b with
 | true =>
  obtain ⟨N,hN,q2⟩:=q2;rw [if_pos rfl];refine Al hp (thn (hb pins s2 σ1 H2 _ I2 q2) fun f s3 q3=> ?_)
  cases f with
  | next =>
   obtain ⟨σ3,H3,I3,n3⟩:=q3;obtain ⟨m',hm,w3⟩:=hN σ3 H3 n3;exact ⟨m',hm,σ3,H3,I3,w3⟩
  | cont =>
   obtain ⟨σ3,H3,I3,n3⟩:=q3;obtain ⟨m',hm,w3⟩:=hN σ3 H3 n3;exact ⟨m',hm,σ3,H3,I3,w3⟩
  | brk=>exact q3
  | ret v=>exact q3
 | false =>
  rw [if_neg yJ];exact AV ⟨σ1,H2,I2,q2⟩
end
structure It where
 go:Nat->Hp->Prop
 yld:Nat->Hp->V->Hp->Prop
 stop:Nat->Hp->Prop
def oC(X:Cx)(pins:List (Addr×Obj))(H:Hp)(b:Addr):Prop :=
 H b=none/\b≠X.env.locals/\b∉X.fs/\(b∈X.ex\/X.s₀.heap.objs.size<=b)/\(∀ x c,X.env.cells.lookup x=some c->c≠b)/\∀ p∈X.pn++pins,p.1≠b
theorem Inv.fpOk{X:Cx}{pins:List (Addr×Obj)}{σ:St}{H H':Hp}{s:Shared}{b:Addr}(I:Inv X pins σ H s)(hb:s.heap.objs.size<=b)(hn:H' b=none):oC X pins H' b:=by
 refine ⟨hn,Ay (zb I.lt hb),I.nofs hb,.inr (zu I.sz hb),fun x c e z=> ?_,fun p hp z=> ?_⟩
 ·obtain ⟨v,q⟩:=I.cell x c e
  exact absurd (zb q.lt (by rw [z];exact hb)) (AU _)
 ·exact absurd (zb (yN (I.pin p hp).1) (by rw [z];exact hb)) (AU _)
structure vp(P:Program)(w:World)(K:A9)(tg:Expr)(J:It)(fp:List Addr)(it:Addr)(tn:Nat->Heap->Prop):Prop where
 mem:it∈fp
 obj:∀ i h,tn i h->∀ b∈fp,∃ o,h.get? b=some o/\∀ v,o.data ≠ .cell v
 keep:∀ i h h',tn i h->(∀ b∈fp,∀ o,h.get? b=some o->h'.get? b=some o)->tn i h'
 item:∀ (X:Cx),X.prog=P->X.w=w->X.K=K->X.calm=true->∀ (i:Nat) (pins:List (Addr×Obj)) (s:Shared) (σ:St) (H:Hp) (E:Value->Shared->Prop),Inv X pins σ H s->(∀ b∈fp,oC X pins H b)->tn i s.heap->J.go i H ->
  wpAny (model P w) X.A (pyNext (.ref it)) (fun r s1=>∃ u,r=some u /\
   wpAny (model P w) X.A (letOwnedTupleGo tg (.ref it) u) (fun _ s2=>∃ x H',Inv X pins σ H' s2/\ax x u/\J.yld i H x H'/\tn (i+1) s2.heap/\∀ b∈fp,H' b=none) E s1) E s
 done:∀ (X:Cx),X.prog=P->X.w=w->X.K=K->X.calm=true->∀ (i:Nat) (pins:List (Addr×Obj)) (s:Shared) (σ:St) (H:Hp) (E:Value->Shared->Prop),Inv X pins σ H s->(∀ b∈fp,oC X pins H b)->tn i s.heap->J.stop i H ->
  wpAny (model P w) X.A (pyNext (.ref it)) (fun r s1=>r=none/\Inv X pins σ H s1) E s
 self:∀ (A:Around) (i:Nat) (s:Shared) (Q:Value->Shared->Prop) (E:Value->Shared->Prop),tn i s.heap->Q (.ref it) s->wpAny (model P w) A (pyIter (.ref it)) Q E s
abbrev TI:=St->Hp->(It->Hp->Prop)->Prop
def PIE(X:Cx)(pins:List (Addr×Obj))(σ:St)(tg:Expr)(R:It->Hp->Prop)(itv:Value)(s2:Shared):Prop :=
 ∃ (it:Addr) (fp:List Addr) (tn:Nat->Heap->Prop) (J:It) (H':Hp),itv = .ref it/\Inv X pins σ H' s2/\vp X.prog X.w X.K tg J fp it tn/\tn 0 s2.heap/\(∀ b∈fp,oC X pins H' b)/\R J H'
def PI(X:Cx)(tg iter:Expr)(wi:TI):Prop :=
 ∀ (pins:List (Addr×Obj)) (s:Shared) (σ:St) (H:Hp) (R:It->Hp->Prop),Inv X pins σ H s->wi σ H R ->
  wpAny (model X.prog X.w) X.A (eval iter X.env) (fun v s1=>wpAny (model X.prog X.w) X.A (pyIter v) (PIE X pins σ tg R) X.xe s1) X.xe s
theorem uE{M:Model}{A:Around}{E:Value->Shared->Prop}{s:Shared}{tg:Expr}{it:Addr}{u:Value}{o:Obj}{n:String}{vs:Array Value}{Q:Unit->Shared->Prop}(ho:s.heap.get? it=some o)(hc:o.cls = .type n)(hd:o.data = .fields vs)
 (hn:["enumerate", "zip", "dict_itemiterator", "dict_reverseitemiterator", "odict_iterator", "itertools.zip_longest", "itertools.pairwise"].contains n=false) (hQ:Q () s):wpAny M A (letOwnedTupleGo tg (.ref it) u) Q E s:=by
 unfold letOwnedTupleGo
 cases tg<;>first
  | exact yE hQ
  | (cases u<;>first
      | exact yE hQ
      | (refine yB (wpAny_load ho ?_)
         rw [hc,hd]
         show wpAny M A (if (["enumerate", "zip", "dict_itemiterator", "dict_reverseitemiterator", "odict_iterator", "itertools.zip_longest", "itertools.pairwise"].contains n&&vs[0]? == some (rawInt _))=true then _ else _) Q E s
         rw [if_neg (by intro h;rw [hn,Av] at h;cases h)]
         exact yE hQ))
def Itl(K:A9)(a:Addr):It :=
 ⟨fun i H=>∃ xs x,SqL K H a xs/\xs[i]?=some x,fun i H x H'=>H'=H/\∀ xs,SqL K H a xs->xs[i]?=some x,fun i H=>∃ xs,SqL K H a xs/\xs.length<=i⟩
def Itt(K:A9)(a:Addr):It :=
 ⟨fun i H=>∃ xs x,SqT K H a xs/\xs[i]?=some x,fun i H x H'=>H'=H/\∀ xs,SqT K H a xs->xs[i]?=some x,fun i H=>∃ xs,SqT K H a xs/\xs.length<=i⟩
def Itr(lo:Int)(n:Nat):It:=⟨fun i _=>i < n,fun i H x H'=>H'=H/\x = .int (lo+i),fun i _=>n<=i⟩
theorem qD{P:Program}{w:World}{K:A9}{tg:Expr}(a it:Addr):vp P w K tg (Itl K a) [it] it (fun i h=>h.IsListIter it a i) where
 mem:=by simp
 obj:=fun i h st b hb=>by
  have e:b=it:=by simpa using hb
  subst e;obtain ⟨o,e,c,d⟩:=st;exact ⟨o,e,fun v z=>by rw [d] at z;cases z⟩
 keep:=fun i h h' st k=>st.at fun o e=>k it (by simp) o e
 item:=by
  intro X hP hw hK hc i pins s σ H E I hf st hg;subst hP hw hK;obtain ⟨xs,x,hq,hx⟩:=hg;obtain ⟨its,rv,p,hz⟩:=I.list hq;obtain ⟨u,hu,ru⟩:=rv.get hx;obtain ⟨f0,f1,f2,f3,f4,f5⟩:=hf it (by simp)
  refine wpAny_pyNext_list_item st p.isList (x:=u) (by simpa using hu) fun h' st' sb=> ?_
  have I1:Inv X pins σ H { s with heap:=h' }:=I.turned (t':=s.toks) (fun b o hb e=>(sb.2 b hb).trans e) f0 f1 f3 f4 f5;obtain ⟨o,e,c,d⟩:=id st';exact ⟨u,rfl,uE (s:={ s with heap:=h' }) e c d (by decide) ⟨x,H,I1,ru,⟨rfl,fun ys hy=>by rw [I.list_inj hy hq];exact hx⟩,st',fun b hb=>(hf b hb).1⟩⟩
 done:=by
  intro X hP hw hK hc i pins s σ H E I hf st hg;subst hP hw hK;obtain ⟨xs,hq,hx⟩:=hg;obtain ⟨its,rv,p,hz⟩:=I.list hq;obtain ⟨f0,f1,f2,f3,f4,f5⟩:=hf it (by simp);have hl:=rv.length
  exact wpAny_pyNext_list_end (I.ok.hd hc) st p.isList (by simp;omega) fun h' eb=>⟨rfl,I.turned (t':=s.toks) (fun b o hb e=>eb b o hb e) f0 f1 f3 f4 f5⟩
 self:=fun _ _ _ _ _ st h=>wpAny_pyIter_listiter st h
theorem oE{P:Program}{w:World}{K:A9}{tg:Expr}(a it:Addr):vp P w K tg (Itt K a) [it] it (fun i h=>h.IsTupleIter it a i) where
 mem:=by simp
 obj:=fun i h st b hb=>by
  have e:b=it:=by simpa using hb
  subst e;obtain ⟨o,e,c,d⟩:=st;exact ⟨o,e,fun v z=>by rw [d] at z;cases z⟩
 keep:=fun i h h' st k=>st.at fun o e=>k it (by simp) o e
 item:=by
  intro X hP hw hK hc i pins s σ H E I hf st hg;subst hP hw hK;obtain ⟨xs,x,hq,hx⟩:=hg;obtain ⟨its,rv,p,hz⟩:=I.tuple hq;obtain ⟨u,hu,ru⟩:=rv.get hx;obtain ⟨f0,f1,f2,f3,f4,f5⟩:=hf it (by simp)
  refine wpAny_pyNext_tuple_item st (show s.heap.IsTuple a its.toArray from p) (x:=u) (by simpa using hu) fun h' st' sb=> ?_
  have I1:Inv X pins σ H { s with heap:=h' }:=I.turned (t':=s.toks) (fun b o hb e=>(sb.2 b hb).trans e) f0 f1 f3 f4 f5;obtain ⟨o,e,c,d⟩:=id st';exact ⟨u,rfl,uE (s:={ s with heap:=h' }) e c d (by decide) ⟨x,H,I1,ru,⟨rfl,fun ys hy=>by rw [I.tuple_inj hy hq];exact hx⟩,st',fun b hb=>(hf b hb).1⟩⟩
 done:=by
  intro X hP hw hK hc i pins s σ H E I hf st hg;subst hP hw hK;obtain ⟨xs,hq,hx⟩:=hg;obtain ⟨its,rv,p,hz⟩:=I.tuple hq;obtain ⟨f0,f1,f2,f3,f4,f5⟩:=hf it (by simp);have hl:=rv.length
  exact wpAny_pyNext_tuple_end (I.ok.hd hc) st (show s.heap.IsTuple a its.toArray from p) (by simp;omega) fun h' eb=>⟨rfl,I.turned (t':=s.toks) (fun b o hb e=>eb b o hb e) f0 f1 f3 f4 f5⟩
 self:=fun _ _ _ _ _ st h=>wpAny_pyIter_tupleiter st h
theorem oF{P:Program}{w:World}{K:A9}{tg:Expr}(it:Addr)(lo:Int)(n:Nat):vp P w K tg (Itr lo n) [it] it (fun i h=>IsRangeIter h it (lo+(i:Nat) * 1) ((n:Int) - (i:Nat)) 1) where
 mem:=by simp
 obj:=fun i h st b hb=>by
  have e:b=it:=by simpa using hb
  subst e
  exact ⟨_,st,fun v z=>by
   have z':Data.fields _=Data.cell v:=z
   cases z'⟩
 keep:=fun i h h' st k=>k it (by simp) _ st
 item:=by
  intro X hP hw hK hc i pins s σ H E I hf st hg;subst hP hw hK;obtain ⟨f0,f1,f2,f3,f4,f5⟩:=hf it (by simp);have W:=Walks.range (prog:=X.prog) (w:=X.w) (I.ok.hd hc) it lo 1 n
  refine W.item i s _ _ hg st fun v h' tk hv st' kk=> ?_
  obtain ⟨t,rfl⟩:=hv;have I1:Inv X pins σ H { s with heap:=h',toks:=tk }:=I.turned (fun b o hb e=>kk b o (by simpa using hb) e) f0 f1 f3 f4 f5;refine ⟨_,rfl,uE (s:={ s with heap:=h',toks:=tk }) (n := "range_iterator") st' rfl rfl (by decide) ⟨.int (lo+i),H,I1,⟨t,?_⟩,⟨rfl,rfl⟩,st',fun b hb=>(hf b hb).1⟩⟩;rw [Int.mul_one]
 done:=by
  intro X hP hw hK hc i pins s σ H E I hf st hg;subst hP hw hK;obtain ⟨f0,f1,f2,f3,f4,f5⟩:=hf it (by simp)
  exact wpAny_pyNext_range_end (I.ok.hd hc) st (by have:n<=i:=hg;omega) fun h' eb=>⟨rfl,I.turned (t':=s.toks) (fun b o hb e=>eb b o hb e) f0 f1 f3 f4 f5⟩
 self:=fun _ _ _ _ _ st h=>wpAny_pyIter_rangeiter st h
section
variable{X:Cx}{tg:Expr}
theorem ng{pins:List (Addr×Obj)}{σ:St}{H:Hp}{s:Shared}{R:It->Hp->Prop}{E:Value->Shared->Prop}{lo hi:Int}{t u v:Tok}{tk:Nat}(I:Inv X pins σ H s)(h1 : -(2 ^ 62)<=lo)(h2:lo < 2 ^ 62)(h3 : -(2 ^ 62)<=hi)(h4:hi < 2 ^ 62)
 (q:R (Itr lo (hi - lo).toNat) H):wpAny (model X.prog X.w) X.A (pyIter (.ref s.heap.objs.size)) (PIE X pins σ tg R) E { s with heap:=s.heap.push { cls:= .type "range",data:= .fields #[.int lo t,.int hi u,.int 1 v] },toks:=tk }:=by
 refine wpAny_pyIter_range (IsRange.new ..) (small_one h1 h2 h3 h4) ?_
 have I1:Inv X pins σ H { s with heap:=s.heap.push { cls:= .type "range",data:= .fields #[.int lo t,.int hi u,.int 1 v] },toks:=tk }:=I.kept fun b o e=>yC _ e
 refine ⟨(s.heap.push { cls:= .type "range",data:= .fields #[.int lo t,.int hi u,.int 1 v] }).objs.size,[(s.heap.push { cls:= .type "range",data:= .fields #[.int lo t,.int hi u,.int 1 v] }).objs.size],_,_,H,rfl,
  I1.kept (t':=tk) fun b o e=>yC _ e,oF _ lo (hi - lo).toNat,?_,fun b hb=> ?_,q⟩
 ·have e1:lo+((0:Nat):Int) * 1=lo:=by simp
  have e2:(((hi - lo).toNat:Nat):Int) - ((0:Nat):Int)=Builtin.Range.rangeSize lo hi 1:=by rw [rangeSize_one];split<;>omega
  show IsRangeIter _ _ (lo+((0:Nat):Int) * 1) ((((hi - lo).toNat:Nat):Int) - ((0:Nat):Int)) 1
  rw [e1,e2];exact yQ _ rfl
 ·have e:b=(s.heap.push { cls:= .type "range",data:= .fields #[.int lo t,.int hi u,.int 1 v] }).objs.size:=by simpa using hb
  subst e;exact I1.fpOk (yO _) (I1.hok.fresh (yO _))
def iRng1(ta:TA):TI:=fun σ H R=>ta σ H fun vs H1=>∃ j:Int,vs=[.int j] /\ -(2 ^ 62)<=j/\j < 2 ^ 62/\R (Itr 0 j.toNat) H1
def iRng2(ta:TA):TI:=fun σ H R=>ta σ H fun vs H1=>∃ i j:Int,vs=[.int i,.int j]/\(-(2 ^ 62)<=i/\i < 2 ^ 62 /\ -(2 ^ 62)<=j/\j < 2 ^ 62)/\R (Itr i (j - i).toNat) H1
theorem qT{a:Expr}{ta:TA}{p pos:Pos}(hg:Gl X "range")(hm:X.mg "range" = none)(ha:PA X [a] ta)(hs:starEach [a] X.env=[(false,eval a X.env)]:=by rfl):PI X tg (.Call (.Name "range" p) [a] [] pos) (iRng1 ta):=by
 intro pins s σ H R I h;refine Call_ (ib I hg hm boot_range (PyProof.Rows.callWith_type1 (thn (ha pos pins s σ H _ I h) fun us s1 ⟨vs,H1,I1,r1,q1⟩=> ?_) hs rfl));obtain ⟨j,e,q1,q2,q⟩:=q1;subst e
 cases r1 with
 | cons r rr =>
  cases rr;obtain ⟨t,rfl⟩:=r;exact call_range_1 (ng I1 (by omega) (by omega) q1 q2 (by simpa using q))
theorem qS{a b:Expr}{ta:TA}{p pos:Pos}(hg:Gl X "range")(hm:X.mg "range" = none)(ha:PA X [a,b] ta)(hs:starEach [a,b] X.env=[(false,eval a X.env),(false,eval b X.env)]:=by rfl)(hs2:starEach [b] X.env=[(false,eval b X.env)]:=by rfl) :
 PI X tg (.Call (.Name "range" p) [a,b] [] pos) (iRng2 ta):=by
 intro pins s σ H R I h;refine Call_ (ib I hg hm boot_range (PyProof.Rows.callWith_type1 (thn (ha pos pins s σ H _ I h) fun us s1 ⟨vs,H1,I1,r1,q1⟩=> ?_) (by rw [hs,hs2]) (by rw [hs2];rfl)));obtain ⟨i,j,e,⟨q1,q2,q3,q4⟩,q⟩:=q1;subst e
 cases r1 with
 | cons r rr =>
  cases rr with
  | cons r' rr =>
   cases rr;obtain ⟨t,rfl⟩:=r;obtain ⟨t',rfl⟩:=r';exact call_range_2 (ng I1 q1 q2 q3 q4 q)
def tFor(wi:TI)(g:TG)(tb:TS):TS:=fun D σ H=>wi σ H fun J H1=>∃ W:Nat->Nat->St->Hp->Prop,(∃ m,W 0 m σ H1)/\∀ i m σ H,W i m σ H ->
 (J.stop i H/\D.nx σ H)\/(J.go i H/\∃ N:St->Hp->Prop,(∀ σ' H',N σ' H'->∃ m',m' < m/\W (i+1) m' σ' H')/\∀ x H',J.yld i H x H'->g x σ H' fun σ2 H2=>tb { D with nx:=N,ct:=N,bk:=D.nx } σ2 H2)
def jq(fp:List Addr)(h:Heap):List (Addr×Obj):=fp.filterMap fun b=>(h.get? b).map fun o=>(b,o)
theorem dO{fp:List Addr}{h:Heap}{b:Addr}{o:Obj}(hb:b∈fp)(e:h.get? b=some o):(b,o)∈jq fp h:=A5.mpr ⟨b,hb,by rw [e];rfl⟩
theorem rj{fp:List Addr}{h:Heap}{p:Addr×Obj}(hp:p∈jq fp h):p.1∈fp/\h.get? p.1=some p.2:=by
 obtain ⟨b,hb,e⟩:=A5.mp hp
 cases q:h.get? b with
 | none=>rw [q] at e;cases e
 | some o =>
  rw [q] at e;have e':(b,o)=p:=Option.some.inj e;subst e';exact ⟨hb,q⟩
theorem Inv.pinned{pins:List (Addr×Obj)}{σ:St}{H:Hp}{s:Shared}{fp:List Addr}(I:Inv X pins σ H s)(hf:∀ b∈fp,oC X pins H b)(ho:∀ b∈fp,∃ o,s.heap.get? b=some o/\∀ v,o.data ≠ .cell v):Inv X (pins++jq fp s.heap) σ H s :=
 I.pins_of fun p hp=>(zg.mp hp).elim (fun z=>I.pin p (yK _ z)) fun z=>by
  obtain ⟨hb,e⟩:=rj z;obtain ⟨f0,f1,f2,_⟩:=hf p.1 hb;obtain ⟨o,e',d⟩:=ho p.1 hb;rw [e] at e';cases e';exact ⟨e,f0,f1,f2,d⟩
theorem Inv.unpinned{pins pl:List (Addr×Obj)}{σ:St}{H:Hp}{s:Shared}(I:Inv X (pins++pl) σ H s):Inv X pins σ H s:=I.pins_of fun p hp=>I.pin p (yK _ (yI _ hp))
theorem tM{iter:Expr}{body:List Stmt}{wi:TI}{g:TG}{tb:TS}{pos:Pos}(hp:PassesOwn (model X.prog X.w) X.A X.env X.xe)(hc:X.calm=true)(hi:PI X tg iter wi)(hg:PG X tg g)(hb:PSs X body tb)
 (hs:∀ x,foldedSetIterable iter X.env x=pure x:=by intro _;rfl):PS X (.For tg iter body [] pos) (tFor wi g tb):=by
 intro pins s σ H D I h;refine wpAny_For (thn (hi pins s σ H _ I h) fun v s1 h1=>thn h1 fun itv s2 h2=> ?_) hs;obtain ⟨it,fp,tn,J,H2,e,I2,T,st2,f2,W,⟨m0,w0⟩,turn⟩:=h2;subst e
 have stat:∀ {H':Hp},(∀ b∈fp,H' b=none)->∀ b∈fp,oC X pins H' b:=fun hn b hb=>⟨hn b hb,(f2 b hb).2⟩
 refine codeAny_forLoop_any (fun n s'=>∃ i σ' H',Inv X pins σ' H' s'/\tn i s'.heap/\(∀ b∈fp,H' b=none)/\W i n σ' H') ?_ m0 ⟨0,σ,H2,I2,st2,fun b hb=>(f2 b hb).1,w0⟩;rintro n s3 ⟨i,σ3,H3,I3,st3,fr3,w3⟩
 rcases turn i n σ3 H3 w3 with ⟨stop,qn⟩ | ⟨go,N,hN,step⟩
 ·refine Al hp (thn (T.done X rfl rfl rfl hc i pins s3 σ3 H3 X.xe I3 (stat fr3) st3 stop) fun r s4 ⟨hr,I4⟩=> ?_)
  subst hr;exact AV ⟨σ3,H3,I4,qn⟩
 ·refine Al hp (thn (T.item X rfl rfl rfl hc i pins s3 σ3 H3 X.xe I3 (stat fr3) st3 go) fun r s4 ⟨u,hr,h4⟩=> ?_)
  subst hr;refine Al hp (thn h4 fun _ s5 ⟨x,H5,I5,r5,y5,st5,fr5⟩=> ?_);have I5':=I5.pinned (stat fr5) (T.obj _ _ st5);refine Al hp (thn (hg _ s5 σ3 H5 x u _ I5' r5 (step x H5 y5)) fun _ s6 ⟨σ6,H6,I6,q6⟩=> ?_);refine Al hp (thn (hb _ s6 σ6 H6 _ I6 q6) fun f s7 q7=> ?_)
  have again:∀ {σ7:St} {H7:Hp},Inv X (pins++jq fp s5.heap) σ7 H7 s7->N σ7 H7->∃ m,m < n/\∃ i σ' H',Inv X pins σ' H' s7/\tn i s7.heap/\(∀ b∈fp,H' b=none)/\W i m σ' H':=fun {σ7 H7} I7 n7=>by
   obtain ⟨m',hm,w7⟩:=hN σ7 H7 n7;refine ⟨m',hm,i+1,σ7,H7,I7.unpinned,T.keep _ _ _ st5 fun b hb o e=>(I7.pin (b,o) (yK _ (yK _ (dO hb e)))).1,fun b hb=> ?_,w7⟩;obtain ⟨o,e,d⟩:=T.obj _ _ st5 b hb;exact (I7.pin (b,o) (yK _ (yK _ (dO hb e)))).2.1
  cases f with
  | next=>obtain ⟨σ7,H7,I7,n7⟩:=q7;exact again I7 n7
  | cont=>obtain ⟨σ7,H7,I7,n7⟩:=q7;exact again I7 n7
  | brk=>obtain ⟨σ7,H7,I7,q7⟩:=q7;exact ⟨σ7,H7,I7.unpinned,q7⟩
  | ret v=>obtain ⟨x7,σ7,H7,I7,r7,q7⟩:=q7;exact ⟨x7,σ7,H7,I7.unpinned,r7,q7⟩
end
abbrev R2:=V->V->Hp->VK->Prop
def OpR(X:Cx)(f:Value->Value->Sem Value)(r:R2):Prop :=
 ∀ (pins:List (Addr×Obj)) (s:Shared) (σ:St) (H:Hp) (x y:V) (v u:Value) (Q:VK),Inv X pins σ H s->ax x v->ax y u->r x y H Q ->
  wpAny (model X.prog X.w) X.A (f v u) (EP X pins σ Q) X.xe s
def UnR(X:Cx)(f:Value->Sem Value)(r:V->Hp->VK->Prop):Prop :=
 ∀ (pins:List (Addr×Obj)) (s:Shared) (σ:St) (H:Hp) (x:V) (v:Value) (Q:VK),Inv X pins σ H s->ax x v->r x H Q ->
  wpAny (model X.prog X.w) X.A (f v) (EP X pins σ Q) X.xe s
def aE(X:Cx)(f:Value)(r:List V->Hp->VK->Prop):Prop :=
 ∀ (pins:List (Addr×Obj)) (s:Shared) (σ:St) (H:Hp) (xs:List V) (us:List Value) (Q:VK),Inv X pins σ H s->aq xs us->r xs H Q ->
  wpAny (model X.prog X.w) X.A (call f us) (EP X pins σ Q) X.xe s
def TruR(X:Cx)(r:V->Hp->(Bool->Hp->Prop)->Prop):Prop :=
 ∀ (pins:List (Addr×Obj)) (s:Shared) (σ:St) (H:Hp) (x:V) (v:Value) (Q:Bool->Hp->Prop),Inv X pins σ H s->ax x v->r x H Q ->
  wpAny (model X.prog X.w) X.A (truthy v) (TP X pins σ Q) X.xe s
def tOp(r:R2)(ta tb:TE):TE:=fun σ H Q=>ta σ H fun x H1=>tb σ H1 fun y H2=>r x y H2 Q
def tUn(r:V->Hp->VK->Prop)(ta:TE):TE:=fun σ H Q=>ta σ H fun x H1=>r x H1 Q
def rI(C:Int->Int->Prop)(g:Int->Int->V):R2:=fun x y H Q=>∃ i j,x = .int i/\y = .int j/\C i j/\Q (g i j) H
def rI0(g:Int->Int->V):R2:=fun x y H Q=>∃ i j,x = .int i/\y = .int j/\Q (g i j) H
def rU(g:Int->V):V->Hp->VK->Prop:=fun x H Q=>∃ i,x = .int i/\Q (g i) H
section
variable{X:Cx}{a b c:Expr}{ta tb tc:TE}{pos:Pos}
theorem binT(ha:PE X a ta)(hb:PE X b tb){pins:List (Addr×Obj)}{s:Shared}{σ:St}{H:Hp}{R:V->V->Hp->Prop}(I:Inv X pins σ H s)
 (h:ta σ H fun x H1=>tb σ H1 fun y H2=>R x y H2) {Q:Value->Shared->Prop} {f:Value->Value->Sem Value}
 (hf:∀ v u s2 x y H2,Inv X pins σ H2 s2->ax x v->ax y u->R x y H2->wpAny (model X.prog X.w) X.A (f v u) Q X.xe s2) :
 wpAny (model X.prog X.w) X.A (eval a X.env) (fun v s₁=>wpAny (model X.prog X.w) X.A (eval b X.env) (fun u s₂=>wpAny (model X.prog X.w) X.A (f v u) Q X.xe s₂) X.xe s₁) X.xe s:=by
 refine thn (ha pins s σ H _ I h) fun v s1 ⟨x,H1,I1,r1,q1⟩=> ?_
 refine thn (hb pins s1 σ H1 _ I1 q1) fun u s2 ⟨y,H2,I2,r2,q2⟩=> ?_
 exact hf v u s2 x y H2 I2 r1 r2 q2
theorem ye{op:Operator}{r:R2}(ho:OpR X (binaryOp op) r)(ha:PE X a ta)(hb:PE X b tb):PE X (.BinOp a op b pos) (tOp r ta tb):=by
 intro pins s σ H Q I h;exact wpAny_BinOp (binT ha hb I h fun v u s2 x y H2 I2 rx ry q=>ho pins s2 σ H2 x y v u Q I2 rx ry q)
theorem yd{op:UnaryOp}{r:V->Hp->VK->Prop}(ho:UnR X (unaryOp op) r)(ha:PE X a ta):PE X (.UnaryOp op a pos) (tUn r ta):=by
 intro pins s σ H Q I h;exact UnaryOp_ (thn (ha pins s σ H _ I h) fun v s1 ⟨x,H1,I1,r1,q1⟩=>ho pins s1 σ H1 x v Q I1 r1 q1)
theorem opI{f:Value->Value->Sem Value}{C:Int->Int->Prop}{g:Int->Int->Int}
 (rule:∀ (i j:Int) (t u:Tok) (s:Shared) (Q:Value->Shared->Prop) (E:Value->Shared->Prop),C i j->Q (.int (g i j) s.toks) { s with toks:=s.toks+1 }->wpAny (model X.prog X.w) X.A (f (.int i t) (.int j u)) Q E s) :
 OpR X f (rI C fun i j=> .int (g i j)):=by
 intro pins s σ H x y v u Q I rx ry h;obtain ⟨i,j,rfl,rfl,hc,q⟩:=h;obtain ⟨t,rfl⟩:=rx;obtain ⟨t',rfl⟩:=ry;exact rule i j t t' s _ _ hc ⟨.int (g i j),H,I.tok _,⟨_,rfl⟩,q⟩
theorem opI0{f:Value->Value->Sem Value}{g:Int->Int->Int}
 (rule:∀ (i j:Int) (t u:Tok) (s:Shared) (Q:Value->Shared->Prop) (E:Value->Shared->Prop),Q (.int (g i j) s.toks) { s with toks:=s.toks+1 }->wpAny (model X.prog X.w) X.A (f (.int i t) (.int j u)) Q E s) :
 OpR X f (rI0 fun i j=> .int (g i j)):=by
 intro pins s σ H x y v u Q I rx ry h;obtain ⟨i,j,rfl,rfl,q⟩:=h;obtain ⟨t,rfl⟩:=rx;obtain ⟨t',rfl⟩:=ry;exact rule i j t t' s _ _ ⟨.int (g i j),H,I.tok _,⟨_,rfl⟩,q⟩
theorem wD{f:Value->Value->Sem Value}{g:Int->Int->Bool}
 (rule:∀ (i j:Int) (t u:Tok) (s:Shared) (Q:Value->Shared->Prop) (E:Value->Shared->Prop),Q (.bool (g i j)) s->wpAny (model X.prog X.w) X.A (f (.int i t) (.int j u)) Q E s) :
 OpR X f (rI0 fun i j=> .bl (g i j)):=by
 intro pins s σ H x y v u Q I rx ry h;obtain ⟨i,j,rfl,rfl,q⟩:=h;obtain ⟨t,rfl⟩:=rx;obtain ⟨t',rfl⟩:=ry;exact rule i j t t' s _ _ ⟨.bl (g i j),H,I,rfl,q⟩
def CPow(i j:Int):Prop:=0<=j/\j<=1000000/\i.natAbs < 2 ^ 64
def vv(i j:Int):Prop:=(-(2 ^ 64) < i/\i < 2 ^ 64)\/(-(2 ^ 64) < j/\j < 2 ^ 64)
theorem vv.ok{i j:Int}(h:vv i j):IntMulOk i j:=by
 rcases h with ⟨h1,h2⟩ | ⟨h1,h2⟩
 ·exact .of_left (intBits_le_64 h1 h2)
 ·exact .of_right (intBits_le_64 h1 h2)
theorem op_add:OpR X (binaryOp .Add) (rI0 fun i j=> .int (i+j)):=opI0 fun _ _ _ _ _ _ _ q=>add_int q
theorem op_sub:OpR X (binaryOp .Sub) (rI0 fun i j=> .int (i - j)):=opI0 fun _ _ _ _ _ _ _ q=>sub_int q
theorem op_mul:OpR X (binaryOp .Mult) (rI vv fun i j=> .int (i * j)):=opI fun _ _ _ _ _ _ _ hc q=>mul_int q hc.ok
theorem op_mod:OpR X (binaryOp .Mod) (rI (fun _ j=>0 < j) fun i j=> .int (i % j)):=opI fun i j _ _ _ _ _ hc q=>by
 have h1:(0:Int) < j:=hc;exact mod_int' (by omega) (by rw [Int.fmod_eq_emod_of_nonneg i (by omega)];exact q)
theorem op_pow:OpR X (binaryOp .Pow) (rI CPow fun i j=> .int (i ^ j.toNat)):=opI fun _ _ _ _ _ _ _ hc q=>pow_int_small hc.1 hc.2.1 hc.2.2 q
theorem unI{f:Value->Sem Value}{g:Int->Int}
 (rule:∀ (i:Int) (t:Tok) (s:Shared) (Q:Value->Shared->Prop) (E:Value->Shared->Prop),Q (.int (g i) s.toks) { s with toks:=s.toks+1 }->wpAny (model X.prog X.w) X.A (f (.int i t)) Q E s) :
 UnR X f (rU fun i=> .int (g i)):=by
 intro pins s σ H x v Q I rx h;obtain ⟨i,rfl,q⟩:=h;obtain ⟨t,rfl⟩:=rx;exact rule i t s _ _ ⟨.int (g i),H,I.tok _,⟨_,rfl⟩,q⟩
theorem sF:UnR X (unaryOp .USub) (rU fun i=> .int (-i)):=unI fun _ _ _ _ _ q=>neg_int q
end
def scal:V->V->Bool
 | .non,.non=>true | .non,.int _=>true | .int _,.non=>true | .non,.bl _=>true | .bl _,.non=>true | .non,.str _=>true | .str _,.non=>true
 | .int _,.int _=>true | .bl _,.bl _=>true | .str _,.str _=>true | .byt _,.byt _=>true
 | .int _,.str _=>true | .str _,.int _=>true | .bl _,.str _=>true | .str _,.bl _=>true
 | _,_=>false
def rNe:R2:=fun x y H Q=>scal x y=true/\Q (.bl (!decide (x=y))) H
theorem xk{i j:Int}:decide (V.int i=V.int j)=(i == j):=by
 rw [zM];simp
theorem dec_bl{i j:Bool}:decide (V.bl i=V.bl j)=(i == j):=by
 rw [zM];simp
theorem xj{i j:Str}:decide (V.str i=V.str j)=(i == j):=by
 rw [zM];simp
theorem xl{i j:Array UInt8}:decide (V.byt i=V.byt j)=(i.toList == j.toList):=by
 rw [zM];cases i;cases j;simp
section
variable{X:Cx}{a b c:Expr}{ta tb tc:TE}{pos:Pos}
theorem bH{pins:List (Addr×Obj)}{σ:St}{H:Hp}{s:Shared}{Q:VK}{k k':Bool}(I:Inv X pins σ H s)(q:Q (.bl k) H)(e:k=k'):EP X pins σ Q (.bool k') s:=by
 subst e;exact ⟨.bl k,H,I,rfl,q⟩
theorem op_ne:OpR X (compareOp .NotEq) rNe:=by
 intro pins s σ H x y v u Q I rx ry h;obtain ⟨hs,q⟩:=h
 cases x with
 | non =>
  cases rx
  cases y with
  | non=>cases ry;exact PySem.EqNone.ne_none_none (bH I q (by simp))
  | bl j=>cases ry;exact PySem.EqNone.ne_none_bool (bH I q (by simp))
  | int j=>obtain ⟨t',rfl⟩:=ry;exact PySem.EqNone.ne_none_int (bH I q (by simp))
  | str j=>obtain ⟨t',rfl⟩:=ry;exact PySem.EqNone.ne_none_str (bH I q (by simp))
  | _=>exact absurd (show false=true from hs) yJ
 | bl i =>
  cases rx
  cases y with
  | non=>cases ry;exact PySem.EqNone.ne_bool_none (bH I q (by simp))
  | bl j=>cases ry;exact ne_bool (bH I q (congrArg not dec_bl))
  | str j=>obtain ⟨t',rfl⟩:=ry;exact PySem.EqMixed.ne_bool_str (bH I q (by simp))
  | _=>exact absurd (show false=true from hs) yJ
 | int i =>
  obtain ⟨t,rfl⟩:=rx
  cases y with
  | non=>cases ry;exact PySem.EqNone.ne_int_none (bH I q (by simp))
  | int j=>obtain ⟨t',rfl⟩:=ry;exact ne_int (bH I q (congrArg not xk))
  | str j=>obtain ⟨t',rfl⟩:=ry;exact PySem.EqMixed.ne_int_str (bH I q (by simp))
  | _=>exact absurd (show false=true from hs) yJ
 | str i =>
  obtain ⟨t,rfl⟩:=rx
  cases y with
  | non=>cases ry;exact PySem.EqNone.ne_str_none (bH I q (by simp))
  | bl j=>cases ry;exact PySem.EqMixed.ne_str_bool (bH I q (by simp))
  | int j=>obtain ⟨t',rfl⟩:=ry;exact PySem.EqMixed.ne_str_int (bH I q (by simp))
  | str j=>obtain ⟨t',rfl⟩:=ry;exact ne_str (bH I q (congrArg not xj))
  | _=>exact absurd (show false=true from hs) yJ
 | byt i =>
  obtain ⟨t,rfl⟩:=rx
  cases y with
  | byt j=>obtain ⟨t',rfl⟩:=ry;exact PySem.W.ne_bytes (bH I q (congrArg not xl))
  | _=>exact absurd (show false=true from hs) yJ
 | _=>cases y<;>exact absurd (show false=true from hs) yJ
theorem op_lt:OpR X (compareOp .Lt) (rI0 fun i j=> .bl (decide (i < j))):=wD fun _ _ _ _ _ _ _ q=>lt_int q
theorem yj:OpR X (compareOp .LtE) (rI0 fun i j=> .bl (decide (i<=j))):=wD fun _ _ _ _ _ _ _ q=>le_int q
theorem op_gt:OpR X (compareOp .Gt) (rI0 fun i j=> .bl (decide (j < i))):=wD fun _ _ _ _ _ _ _ q=>gt_int q
theorem yk:OpR X (compareOp .GtE) (rI0 fun i j=> .bl (decide (j<=i))):=wD fun _ _ _ _ _ _ _ q=>ge_int q
theorem op_isN:OpR X (compareOp .Is) (fun x y H Q=>y = .non/\Q (.bl (decide (x = .non))) H):=by
 intro pins s σ H x y v u Q I rx ry h;obtain ⟨rfl,q⟩:=h;cases ry;refine is_none_gen (bH I q ?_)
 cases x<;>first
  | (cases rx;rfl)
  | (obtain ⟨t,rfl⟩:=rx;rfl)
theorem ww:OpR X (compareOp .IsNot) (fun x y H Q=>y = .non/\Q (.bl (!decide (x = .non))) H):=by
 intro pins s σ H x y v u Q I rx ry h;obtain ⟨rfl,q⟩:=h;cases ry;refine isnot_none_gen (bH I q ?_)
 cases x<;>first
  | (cases rx;rfl)
  | (obtain ⟨t,rfl⟩:=rx;rfl)
theorem OpR.or{f:Value->Value->Sem Value}{r r':R2}(h:OpR X f r)(h':OpR X f r'):OpR X f (fun x y H Q=>r x y H Q\/r' x y H Q):=by
 intro pins s σ H x y v u Q I rx ry q
 rcases q with q | q
 ·exact h pins s σ H x y v u Q I rx ry q
 ·exact h' pins s σ H x y v u Q I rx ry q
theorem dz(b:Expr){op:CmpOp}(h:op ≠ .In:=by decide)(h2:op ≠ .NotIn:=by decide):behindInMarks op b=false:=by
 have e1:(op == CmpOp.In)=false:=by cases op<;>first | rfl | exact absurd rfl h
 have e2:(op == CmpOp.NotIn)=false:=by cases op<;>first | rfl | exact absurd rfl h2
 cases b<;>simp [behindInMarks,e1,e2]
theorem wo{op:CmpOp}{r:R2}(ho:OpR X (compareOp op) r)(ha:PE X a ta)(hb:PE X b tb)(hm:behindInMarks op b=false):PE X (.Compare a [op] [b] pos) (tOp r ta tb):=by
 intro pins s σ H Q I h;exact wpAny_Compare1 (binT ha hb I h fun v u s2 x y H2 I2 rx ry q=>ho pins s2 σ H2 x y v u Q I2 rx ry q) hm
def tTest(t:TE):TT:=fun σ H Q=>t σ H fun x H'=>∃ k,x = .bl k/\Q k H'
theorem p5{op:CmpOp}{r:R2}(ho:OpR X (compareOp op) r)(ha:PE X a ta)(hb:PE X b tb)(hm:behindInMarks op b=false):PT X (.Compare a [op] [b] pos) (tTest (tOp r ta tb)):=by
 intro pins s σ H Q I h
 refine wpAny_isTrue_Compare1 (thn (ha pins s σ H _ I h) fun v s1 ⟨x,H1,I1,r1,q1⟩=>thn (hb pins s1 σ H1 _ I1 q1) fun u s2 ⟨y,H2,I2,r2,q2⟩ =>
  thn (ho pins s2 σ H2 x y v u _ I2 r1 r2 q2) fun c s3 ⟨z,H3,I3,r3,k,e,q3⟩=> ?_) hm
 subst e;cases r3;exact zV ⟨H3,I3,q3⟩
def sL(r r':R2)(ta tb tc:TE):TE:=fun σ H Q=>ta σ H fun x H1=>tb σ H1 fun y H2=>r x y H2 fun z H3=>∃ k,z = .bl k /\
 (if k=true then tc σ H3 fun w' H4=>r' y w' H4 Q else Q (.bl false) H3)
theorem tX{op op':CmpOp}{r r':R2}(ho:OpR X (compareOp op) r)(ho':OpR X (compareOp op') r')(ha:PE X a ta)(hb:PE X b tb)(hc:PE X c tc)
 (hm:lastMarks [op,op'] [b,c]=false:=by with_unfolding_all rfl):PE X (.Compare a [op,op'] [b,c] pos) (sL r r' ta tb tc):=by
 intro pins s σ H Q I h
 refine Compare_chain (thn (ha pins s σ H _ I h) fun v s1 ⟨x,H1,I1,r1,q1⟩=>chain_link (thn (hb pins s1 σ H1 _ I1 q1) fun u s2 ⟨y,H2,I2,r2,q2⟩ =>
  thn (ho pins s2 σ H2 x y v u _ I2 r1 r2 q2) fun d s3 ⟨z,H3,I3,r3,k,e,q3⟩=> ?_)) hm
 subst e;cases r3;refine zV ?_
 cases k with
 | false=>exact ite_ff ⟨.bl false,H3,I3,rfl,q3⟩
 | true=>exact ite_tt (chain_last (thn (hc pins s3 σ H3 _ I3 q3) fun w' s4 ⟨z',H4,I4,r4,q4⟩=>ho' pins s4 σ H4 y z' u w' Q I4 r2 r4 q4))
def xE(K:A9)(x:V)(H:Hp)(k:Bool):Prop :=
 match x with
 | .non=>k=false
 | .bl b=>k=b
 | .int i=>k=(i != 0)
 | .str y=>y.length<=sizeLine/\k=((y.length:Int) != 0)
 | .byt y=>y.size<=sizeLine/\k=((y.size:Int) != 0)
 | .ref p=>(∃ xs,SqL K H p xs/\k = !xs.isEmpty)\/(∃ xs,SqT K H p xs/\k = !xs.isEmpty)\/∃ kvs,H p=some (.dK kvs)/\k = !kvs.isEmpty
 | _=>False
theorem o0{κ:Type}{kvs:List (κ×V)}{vs:List (κ×Value)}(r:KV kvs vs):(!vs.isEmpty) = !kvs.isEmpty:=by
 cases r<;>rfl
theorem jJ{xs:List V}{its:List Value}(r:aq xs its):(!its.toArray.isEmpty) = !xs.isEmpty:=by
 cases r<;>simp
theorem ia:(sizeLine:Nat) < 2 ^ 63:=by rw [sizeLine_eq];decide
theorem tru_ok:TruR X (fun x H Q=>∃ k,xE X.K x H k/\Q k H):=by
 intro pins s σ H x v Q I rx h;obtain ⟨k,e,q⟩:=h;have hl:=ia;have hs:sizeLine=16777216:=sizeLine_eq
 cases x with
 | non =>
  cases rx;have e':k=false:=e;subst e';exact truthy_none ⟨H,I,q⟩
 | bl b =>
  cases rx;have e':k=b:=e;subst e';exact zV ⟨H,I,q⟩
 | int i =>
  obtain ⟨t,rfl⟩:=rx;have e':k=(i != 0):=e;subst e';exact PySem.P.truthy_int ⟨H,I,q⟩
 | str y =>
  obtain ⟨t,rfl⟩:=rx;obtain ⟨hy,e'⟩:y.length<=sizeLine/\k=((y.length:Int) != 0):=e;subst e';exact PySem.P.truthy_str (by omega) ⟨H,I.tok _,q⟩
 | byt y =>
  obtain ⟨t,rfl⟩:=rx;obtain ⟨hy,e'⟩:y.size<=sizeLine/\k=((y.size:Int) != 0):=e;subst e';exact PySem.W.truthy_bytes (by omega) ⟨H,I.tok _,q⟩
 | ref p =>
  cases rx;have e':(∃ xs,SqL X.K H p xs/\k = !xs.isEmpty)\/(∃ xs,SqT X.K H p xs/\k = !xs.isEmpty)\/∃ kvs,H p=some (.dK kvs)/\k = !kvs.isEmpty:=e
  rcases e' with ⟨xs,hx,e'⟩ | ⟨xs,hx,e'⟩ | ⟨kvs,hx,e'⟩
  ·subst e'
   obtain ⟨its,r,pl,hz⟩:=I.list hx;have hlen:=r.length;exact wpAny_truthy_list pl.isList (by simp only [yG];omega) ⟨H,I.tok _,by rw [jJ r];exact q⟩
  ·subst e'
   obtain ⟨its,r,pl,hz⟩:=I.tuple hx;have hlen:=r.length;exact truthy_tuple pl (by simp only [yG];omega) ⟨H,I.tok _,by rw [jJ r];exact q⟩
  ·subst e'
   obtain ⟨hz,hS,vs,r,m⟩:kvs.length<=sizeLine/\(p == sysModules)=false/\∃ vs,KV kvs vs/\s.heap.DictOf (be X.prog X.w) p vs:=I.hok p _ hx;have hlen:kvs.length=vs.length:=Paired.length r;exact wpAny_truthy_dict hS m (by omega) ⟨H,I.tok _,by rw [o0 r];exact q⟩
 | _=>exact (show False from e).elim
theorem tH(ha:PE X a ta)(he:∀ whole,isTrue a X.env whole=(do let v <- whole;standAt a.pos;holding [v] (truthy v))) :
 PT X a (fun σ H Q=>ta σ H fun x H'=>∃ k,xE X.K x H' k/\Q k H'):=by
 intro pins s σ H Q I h;exact isTrue_plain (thn (ha pins s σ H _ I h) fun v s1 ⟨x,H1,I1,r1,q1⟩=>tru_ok pins s1 σ H1 x v Q I1 r1 q1) (he _)
theorem bN{x:V}{us:List Value}(r:aq [x] us):∃ u,us=[u]/\ax x u:=by
 cases r with
 | cons r1 r2=>cases r2;exact ⟨_,rfl,r1⟩
theorem mJ{x y:V}{us:List Value}(r:aq [x,y] us):∃ u w',us=[u,w']/\ax x u/\ax y w':=by
 cases r with
 | cons r1 r2 =>
  cases r2 with
  | cons r3 r4=>cases r4;exact ⟨_,_,rfl,r1,r3⟩
theorem rY(hc:X.calm=true):aE X (.builtin "max") (fun xs H Q=>∃ i j,xs=[.int i,.int j]/\Q (.int (if j > i then j else i)) H):=by
 intro pins s σ H xs us Q I r h;obtain ⟨i,j,rfl,q⟩:=h;obtain ⟨u,w',rfl,⟨t,rfl⟩,⟨t',rfl⟩⟩:=mJ r
 refine max_two_ints (I.ok.hd hc) fun h' tk k=>⟨_,H,I.kept k,?_,q⟩
 by_cases hj:j > i
 ·rw [if_pos hj,if_pos hj];exact ⟨_,rfl⟩
 ·rw [if_neg hj,if_neg hj];exact ⟨_,rfl⟩
theorem rS(hc:X.calm=true):aE X (.builtin "min") (fun xs H Q=>∃ i j,xs=[.int i,.int j]/\Q (.int (if j < i then j else i)) H):=by
 intro pins s σ H xs us Q I r h;obtain ⟨i,j,rfl,q⟩:=h;obtain ⟨u,w',rfl,⟨t,rfl⟩,⟨t',rfl⟩⟩:=mJ r
 refine min_two_ints (I.ok.hd hc) fun h' tk k=>⟨_,H,I.kept k,?_,q⟩
 by_cases hj:j < i
 ·rw [if_pos hj,if_pos hj];exact ⟨_,rfl⟩
 ·rw [if_neg hj,if_neg hj];exact ⟨_,rfl⟩
theorem sd:aE X (.type "int") (fun xs H Q=>(∃ i,xs=[.int i]/\Q (.int i) H)\/∃ k,xs=[.bl k]/\Q (.int (if k then 1 else 0)) H):=by
 intro pins s σ H xs us Q I r h
 rcases h with ⟨i,rfl,q⟩ | ⟨k,rfl,q⟩
 ·obtain ⟨u,rfl,t,rfl⟩:=bN r
  exact call_int_int ⟨.int i,H,I,⟨_,rfl⟩,q⟩
 ·obtain ⟨u,rfl,r1⟩:=bN r
  cases r1;exact call_int_bool ⟨.int (if k then 1 else 0),H,I.tok _,⟨_,rfl⟩,q⟩
end
theorem kQ{h:Heap}{dx:Addr}{mA:Str->Option Value}(n:h.Ns1 dx mA):∃ od,h.get? dx=some od/\∀ name,PySem.W.lookIn name od=some (mA name):=by
 obtain ⟨o,es,ep,ho,hd,hk,_,hm⟩:=n;refine ⟨o,ho,fun name=> ?_⟩;have e:=hm name;unfold nsFind findBy at e;rw [<- Array.find?_toList] at e;unfold PySem.W.lookIn;rw [hd];dsimp only
 split
 ·rename_i y q
  rw [q] at e;exact congrArg some e
 ·rename_i q
  rw [q] at e
  have a:es.toList.any (·.refKey)=false:=by
   rw [List.any_eq_false];intro y hy;obtain ⟨z,t,hkey⟩:=hk y (Array.mem_toList_iff.mp hy);simp [DictEntry.refKey,hkey]
  have a':¬ es.toList.any (·.refKey)=true:=by rw [a];exact yJ
  rw [if_neg a'];exact congrArg some e
section
variable{prog:Program}{w:World}{A:Around}{E:Value->Shared->Prop}{s:Shared}{K:A9}{x dx C f:Addr}{mA:Str->Option Value}{name:Str}{v:Value}
end
def km(f:Str)(v:V):List (Str×V)->List (Str×V)
 | []=>[(f,v)]
 | (g,x)::r=>if g=f then (g,v)::r else (g,x)::km f v r
theorem iD(f g:Str)(v:V):∀ fs:List (Str×V),(km f v fs).lookup g=if g=f then some v else fs.lookup g
 | []=>by
  show List.lookup g [(f,v)]=_
  by_cases h:g=f
  ·have hb:(g == f)=true:=beq_iff_eq.mpr h
   simp only [List.lookup,hb,if_pos h]
  ·have hb:(g == f)=false:=zP.mpr h
   simp only [List.lookup,hb,if_neg h]
 | (k,x)::r=>by
  have ih:=iD f g v r;rw [show km f v ((k,x)::r)=(if k=f then (k,v)::r else (k,x)::km f v r) from rfl]
  by_cases hk:k=f
  ·rw [if_pos hk]
   by_cases h:g=k
   ·have hb:(g == k)=true:=beq_iff_eq.mpr h
    simp only [List.lookup,hb,if_pos (h.trans hk)]
   ·have hb:(g == k)=false:=zP.mpr h
    simp only [List.lookup,hb,if_neg (fun e:g=f=>h (e.trans hk.symm))]
  ·rw [if_neg hk]
   by_cases h:g=k
   ·have hb:(g == k)=true:=beq_iff_eq.mpr h
    simp only [List.lookup,hb,if_neg (fun e:g=f=>hk (h.symm.trans e))]
   ·have hb:(g == k)=false:=zP.mpr h
    simp only [List.lookup,hb];exact ih
theorem ic(f:Str)(v:V):∀ fs:List (Str×V),f∈(km f v fs).map (·.1)/\∀ g,g∈fs.map (·.1)->g∈(km f v fs).map (·.1)
 | []=>⟨by simp [km],fun g h=>by simp at h⟩
 | (k,x)::r=>by
  obtain ⟨i1,i2⟩:=ic f v r;rw [show km f v ((k,x)::r)=(if k=f then (k,v)::r else (k,x)::km f v r) from rfl]
  by_cases hk:k=f
  ·rw [if_pos hk]
   subst hk;exact ⟨by simp,fun g h=>by simpa using h⟩
  ·rw [if_neg hk]
   refine ⟨?_,fun g h=> ?_⟩
   ·rw [yW]
    exact yH _ i1
   ·rw [yW] at h ⊢
    rcases yP.mp h with e | e
    ·exact yP.mpr (.inl e)
    ·exact yH _ (i2 g e)
theorem ke.some_of{v:V}{o:Option Value}(r:ke (some v) o):∃ u,o=some u/\ax v u:=by
 cases o with
 | none=>exact (show False from r).elim
 | some u=>exact ⟨u,rfl,r⟩
theorem rG{v:V}{u:Value}(r:ax v u):PySem.W.handedIn u=true:=by
 cases v with
 | non=>cases (show u=Value.none from r);rfl
 | bl b=>cases (show u=Value.bool b from r);rfl
 | int i=>obtain ⟨t,e⟩:=(show ∃ t,u=Value.int i t from r);cases e;rfl
 | str x=>obtain ⟨t,e⟩:=(show ∃ t,u=Value.str x t from r);cases e;rfl
 | byt b=>obtain ⟨t,e⟩:=(show ∃ t,u=Value.bytes b t from r);cases e;rfl
 | flt b=>obtain ⟨t,e⟩:=(show ∃ t,u=Value.float b t from r);cases e;rfl
 | ref a=>cases (show u=Value.ref a from r);rfl
 | ty n=>cases (show u=Value.type n from r);rfl
section
variable{P:Program}{w:World}{H H':Hp}{h h':Heap}{a C dx:Addr}{fs fs':List (Str×V)}
end
structure Cls(K:A9)(C:Addr):Prop where
 pg:PySem.W.plainGet K C Str.empty=true
 hd:PySem.W.hasDictIn K C=true
 po:PySem.W.plainOver K C=true
 sa:PySem.W.findIn K (.ref C) "__setattr__" = some (some (.builtin "object.__setattr__"))
section
variable{X:Cx}{pins:List (Addr×Obj)}{σ:St}{H:Hp}{s:Shared}{a C dx:Addr}{fs:List (Str×V)}{f:Str}{v:V}{A:Around}{E:Value->Shared->Prop}
theorem xB{prog:Program}{w:World}{env:Env}{e:Expr}{f:Str}{pos:Pos}{s:Shared}{Q:Value->Shared->Prop}(hb:attributeBase e f env (eval e env)=eval e env)
 (h:wpAny (model prog w) A (eval e env) (fun o s₁=>wpAny (model prog w) A (getAttr o f true) Q E s₁) E s):wpAny (model prog w) A (eval (.Attribute e f pos) env) Q E s :=
 Attribute_any_ h (by rw [arm_eval_Attribute,hb])
end
section
variable{X:Cx}{o e value:Expr}{f:Str}{pos pos' tpos:Pos}{ta tv:TE}
end
section
variable{X:Cx}{pins:List (Addr×Obj)}{σ:St}{H:Hp}{s:Shared}{A:Around}{E:Value->Shared->Prop}{Q:Value->Shared->Prop}{c:Value}{b:Bool}
inductive kb(K:A9)(H:Hp):V->Value->Prop where
 | non:kb K H .non (.type "NoneType")
 | bl (x:Bool):kb K H (.bl x) (.type "bool")
 | int (i:Int):kb K H (.int i) (.type "int")
 | str (x:Str):kb K H (.str x) (.type "str")
 | flt (x:UInt64):kb K H (.flt x) (.type "float")
 | lst {a:Addr} {xs:List V} (e:H a=some (.lst xs)):kb K H (.ref a) (.type "list")
 | frz {a:Addr} {o:Obj} {xs:List V} (e:H a=some (.frz o (.lst xs))):kb K H (.ref a) (.type "list")
 | tup {a:Addr} {xs:List V} (e:H a=some (.tup xs)):kb K H (.ref a) (.type "tuple")
 | dK {a:Addr} {kvs:List (Key×V)} (e:H a=some (.dK kvs)):kb K H (.ref a) (.type "dict")
 | dT {a:Addr} {kvs:List (List Key×V)} (e:H a=some (.dT kvs)):kb K H (.ref a) (.type "dict")
 | ins {a C dx:Addr} {fs:List (Str×V)} (e:H a=some (.ins C dx fs)) (cl:Cls K C) (ha:PySem.W.findIn K (.ref C) "__class__" = some (some (.builtin "object.__class__")))
  (hn:PySem.W.specialIn K (.builtin "object.__class__") "__get__" = some (some (.builtin "getset_descriptor.__get__"))) (htk:PySem.W.takesIn K (.builtin "object.__class__")=some true)
  (hm:PySem.W.mroIn K C (.type "object")=some true):kb K H (.ref a) (.ref C)
end
structure bL(k:Nat)(A:Around):Prop where
 hd:A.handled=none
 dp:A.depth+3 * k+5 < recursionLimit
 un:A.units+16 * k+200 < cLine
 gd:A.guards=some []:=by rfl
theorem bL.mono{j k:Nat}{A:Around}(r:bL k A)(h:j<=k):bL j A:=⟨r.hd,by have:=r.dp;omega,by have:=r.un;omega,r.gd⟩
theorem bL.deeper{k:Nat}{A:Around}(r:bL (k+1) A)(env:Env):bL k (A.deeper env) :=
 ⟨r.hd,by have:=r.dp;show A.depth+1+3 * k+5 < _;omega,by have:=r.un;show A.units+3+16 * k+200 < _;omega,r.gd⟩
theorem oW{A:Around}{C:Addr}{us:List Value}{kw:List (Str×Value)}:(A.under (.builtin "type.__call__" ⟨.ref C::us,kw⟩)).depth=A.depth+1:=by
 first | rfl | simp [Around.under,Code.weight,Code.isCreation,Code.isGuard,Code.isCaller,Code.frames,Code.isFrame,guardIds]
theorem oV{A:Around}{C:Addr}{us:List Value}{kw:List (Str×Value)}:(A.under (.builtin "type.__call__" ⟨.ref C::us,kw⟩)).units=A.units+1:=by
 first | rfl | simp [Around.under,Code.cUnits,Code.frames,Code.isFrame]
theorem nH{A:Around}{C:Addr}{us:List Value}{kw:List (Str×Value)}:(A.under (.builtin "type.__call__" ⟨.ref C::us,kw⟩)).guards=A.guards:=by
 have hg:(Code.builtin "type.__call__" ⟨.ref C::us,kw⟩).isGuard=false:=by simp [Code.isGuard,guardIds]
 have e:(Code.builtin "type.__call__" ⟨.ref C::us,kw⟩).guards=[]:=by unfold Code.guards;rw [hg];rfl
 unfold Around.under;dsimp only;rw [e];cases A.guards<;>rfl
theorem bL.make{k:Nat}{A:Around}(r:bL (k+1) A)(C:Addr)(us:List Value)(kw:List (Str×Value)):bL k (A.under (.builtin "type.__call__" ⟨.ref C::us,kw⟩)) :=
 ⟨r.hd,by have:=r.dp;rw [oW];omega,by have:=r.un;rw [oV];omega,by rw [nH];exact r.gd⟩
theorem bL.depth{k:Nat}{A:Around}(r:bL k A):A.depth < recursionLimit:=by have:=r.dp;omega
theorem bL.units{k:Nat}{A:Around}(r:bL k A):A.units+64 < cLine:=by have:=r.un;omega
def sJ:TA:=fun _ H Q=>Q [] H
def iu(ta:TE)(tr:TA):TA:=fun σ H Q=>ta σ H fun x H1=>tr σ H1 fun xs H2=>Q (x::xs) H2
section
variable{X:Cx}{e:Expr}{es:List Expr}{te:TE}{t:TA}{pos:Pos}
theorem bX:PA X [] sJ:=fun _ _ _ _ H Q I h=>Calls.spliced_nil ⟨[],H,I,.nil,h⟩
theorem av(ha:PE X e te)(hr:PA X es t)(hs:starEach (e::es) X.env=(false,eval e X.env)::starEach es X.env:=by rfl):PA X (e::es) (iu te t):=by
 intro pos pins s σ H Q I h;rw [hs]
 show wpAny _ _ (spliced ((false,eval e X.env)::backTo pos (starEach es X.env))) _ _ s
 refine Calls.spliced_cons (thn (ha pins s σ H _ I h) fun u s1 ⟨x,H1,I1,r1,q1⟩=> ?_)
 exact thn (hr pos pins s1 σ H1 _ I1 q1) fun us s2 ⟨xs,H2,I2,r2,q2⟩=>⟨x::xs,H2,I2,.cons r1 r2,q2⟩
def tTup(t:TA):TE:=fun σ H Q=>t σ H fun xs H1=>xs.length<=sizeLine/\∀ p,H1 p=none->Q (.ref p) (upd H1 p (.tup xs))
def tLst(t:TA):TE:=fun σ H Q=>t σ H fun xs H1=>xs.length<=sizeLine/\∀ p,H1 p=none->Q (.ref p) (upd H1 p (.lst xs))
theorem pe_tup{x1}(h:PA X es t):PE X (.Tuple es x1 pos) (tTup t):=by
 intro pins s σ H Q I hq;refine wpAny_Tuple_spliced (thn (h pos pins s σ H _ I hq) fun us s1 ⟨xs,H1,I1,r,z,q⟩=>⟨by rw [<- r.length];exact z,?_⟩);have hf:H1 s1.heap.objs.size=none:=I1.hok.fresh (yO _);refine ⟨.ref s1.heap.objs.size,upd H1 s1.heap.objs.size (.tup xs),I1.laid (t':=s1.toks) (fun b u e=>yC _ e) (yO _) ?_,rfl,q _ hf⟩;exact ⟨z,us,r,mD.new _ _⟩
theorem lQ(h:PA X es t):PE X (.List es pos) (tLst t):=by
 intro pins s σ H Q I hq;refine wpAny_List_spliced (thn (h pos pins s σ H _ I hq) fun us s1 ⟨xs,H1,I1,r,z,q⟩=>⟨by rw [<- r.length];exact z,?_⟩);have hf:H1 s1.heap.objs.size=none:=I1.hok.fresh (yO _);refine ⟨.ref s1.heap.objs.size,upd H1 s1.heap.objs.size (.lst xs),I1.laid (t':=s1.toks) (fun b u e=>yC _ e) (yO _) ?_,rfl,q _ hf⟩;exact ⟨z,us,0,r,yQ _ rfl⟩
end
abbrev Sp:=List V->Hp->VK->XK->Prop
abbrev CXT:=List Env->Hp->Shared->XK->Value->Shared->Prop
structure mG(P:Program)(w:World)(K:A9)(mg:Str->Option Value)(base:Heap)(A:Around)(outer:List Env)(s:Shared)(H:Hp):Prop where
 frames:A.frames=some outer
 mod:Mod K mg base
 bs:∀ b o,base.get? b=some o->s.heap.get? b=some o/\H b=none
 bsz:base.objs.size<=s.heap.objs.size
 funs:s.heap.FunFrames base outer
 frf:∀ b∈frs outer,H b=none
 hok:HOk P w H s.heap
 bare:AllBare s.gens
def CE(outer:List Env)(P:Program)(w:World)(H:Hp)(s:Shared)(Q:VK)(u:Value)(s':Shared):Prop :=
 ∃ v H',s'.os=s.os/\AllBare s'.gens/\Un (frs outer) [] H H' s.heap s'.heap/\HOk P w H' s'.heap/\ax v u/\Q v H'
def CR(CX:CXT)(outer:List Env)(P:Program)(w:World)(H:Hp)(s:Shared)(Q:VK)(E:XK)(r:Result)(s':Shared):Prop :=
 match r with
 | .ok (.ret u)=>CE outer P w H s Q u s'
 | .ok _=>False
 | .error e=>CX outer H s E e s'
structure gp(P:Program)(w:World)(K:A9)(mg:Str->Option Value)(base:Heap)(CX:CXT)(k:Nat)(f:Addr)(fd:FuncData)(ps:List Str)(sp:Sp):Prop where
 len:∀ vs H Q E,sp vs H Q E->vs.length=ps.length
 run:∀ (A:Around) (outer:List Env) (s:Shared) (H:Hp) (args:Args) (us:List Value) (vs:List V) (Q:VK) (E:XK),bL k A->mG P w K mg base A outer s H->BindsTo s fd args (ps.zip us)->aq vs us->sp vs H Q E ->
  codeAny (model P w) A (.call (.ref f) args) (CR CX outer P w H s Q E) s
theorem mG.make{P:Program}{w:World}{K:A9}{mg:Str->Option Value}{base:Heap}{A:Around}{outer:List Env}{s:Shared}{H:Hp}(e:mG P w K mg base A outer s H)(C:Addr)(us:List Value)(kw:List (Str×Value)) :
 mG P w K mg base (A.under (.builtin "type.__call__" ⟨.ref C::us,kw⟩)) outer s H:=⟨by first | exact e.frames | (simpa [Around.under,Code.envs,Code.isFrame,pushEnvs] using e.frames),e.mod,e.bs,e.bsz,e.funs,e.frf,e.hok,e.bare⟩
section
variable{X:Cx}{pins:List (Addr×Obj)}{σ:St}{H:Hp}{s s':Shared}
theorem Inv.env0(I:Inv X pins σ H s):mG X.prog X.w X.K X.mg X.base X.A X.stack s H :=
 ⟨I.ok.frames,I.ok.mod,I.bs,zu I.ok.bsz I.sz,I.stack,I.stkFree,I.hok,I.bare⟩
theorem Inv.after{Q:VK}{u:Value}(I:Inv X pins σ H s)(h:CE X.stack X.prog X.w H s Q u s'):EP X pins σ Q u s':=by
 obtain ⟨v,H',os,bare,un,hok,r,q⟩:=h;obtain ⟨hh,g,d,t,os'⟩:=s';obtain rfl:os'=s.os:=os;exact ⟨v,H',I.call (h':=hh) (g':=g) (d':=d) (t':=t) (ch:=[]) un hok bare (fun b z=>absurd z (by simp)),r,q⟩
end
def pO(sp:Sp)(dvs:List V)(E:XK)(t:TA):TE:=fun σ H Q=>t σ H fun vs H1=>sp (vs++dvs) H1 Q E
def gX(K:A9)(fd:FuncData)(ps:List Str)(ds:List Value):Prop :=
 ∀ (s:Shared) (us:List Value),K.In s.heap->(us++ds).length=ps.length->BindsTo s fd ⟨us,[]⟩ (ps.zip (us++ds))
theorem gX.all{K:A9}{fd:FuncData}{ps:List Str}(h:∀ us:List Value,us.length=ps.length->bindArgs fd ⟨us,[]⟩=pure (ps.zip us)):gX K fd ps []:=fun s us _ hl=>by
 rw [zK] at hl ⊢;exact .of_eq (h us hl)
def pI(CX:CXT)(X:Cx)(E:XK):Prop:=∀ (pins:List (Addr×Obj)) (σ:St) (H:Hp) (s:Shared) (e:Value) (s':Shared),Inv X pins σ H s->CX X.stack H s E e s'->X.xe e s'
section
variable{X:Cx}{CX:CXT}{k:Nat}{f C:Addr}{fd:FuncData}{ps:List Str}{sp:Sp}{dvs:List V}{ds:List Value}{E:XK}{x m:Str}{p pos apos:Pos}{e o:Expr}{es:List Expr}{ta:TE}{t:TA}
theorem run_fn{pins:List (Addr×Obj)}{σ:St}{H:Hp}{s:Shared}{Q:VK}{us:List Value}{vs:List V}(F:gp X.prog X.w X.K X.mg X.base CX k f fd ps sp)(hr:bL k X.A)(hb:gX X.K fd ps ds)(hd:aq dvs ds)(hx:pI CX X E)
 (I:Inv X pins σ H s) (r:aq vs us) (h:sp (vs++dvs) H Q E):wpAny (model X.prog X.w) X.A (call (.ref f) us) (EP X pins σ Q) X.xe s:=by
 have r2:aq (vs++dvs) (us++ds):=r.append hd
 have hl:(us++ds).length=ps.length:=by rw [<- r2.length];exact F.len _ _ _ _ h
 refine wpAny_call (codeAny_mono (F.run X.A X.stack s H ⟨us,[]⟩ (us++ds) (vs++dvs) Q E hr I.env0 (hb s us I.kIn hl) r2 h) fun r s' hq=> ?_)
 cases r with
 | error e=>exact hx pins σ H s e s' I hq
 | ok fl =>
  cases fl with
  | ret u=>exact I.after hq
  | next=>exact False.elim hq
  | brk=>exact False.elim hq
  | cont=>exact False.elim hq
theorem qa(F:gp X.prog X.w X.K X.mg X.base CX k f fd ps sp)(hr:bL k X.A)(hg:Gl X x)(hm:X.mg x=some (.ref f))(hk:PySem.W.keepIn X.K (.ref f)=true)(hb:gX X.K fd ps ds)(hd:aq dvs ds)(hx:pI CX X E)
 (ha:PA X (e::es) t) (hdb:(x == ("__debug__" : Str))=false:=by decide) (he:starEach (e::es) X.env=(false,eval e X.env)::starEach es X.env:=by rfl) (hpl:(backTo pos (starEach es X.env)).any (·.1)=false:=by rfl) :
 PE X (.Call (.Name x p) (e::es) [] pos) (pO sp dvs E t):=by
 intro pins s σ H Q I h;refine Ak (dR I hg hm ?_ hdb);refine A3 (h₀:=X.base) I.ok.mod.kin hk (thn (ha pos pins s σ H _ I h) fun us s1 ⟨vs,H1,I1,r,q⟩=>⟨I1.kIn,?_⟩) he hpl;exact run_fn F hr hb hd hx I1 r q
end
section
variable{X:Cx}{CX:CXT}{k:Nat}{f C:Addr}{fd:FuncData}{ps ks:List Str}{sp:Sp}{E:XK}{x m:Str}{p pos apos kpos:Pos}{e o:Expr}{es:List Expr}{kws:List Keyword}{te ta:TE}{t tk:TA}{nm:Option Str}
variable{g:List Value->List Value->List Value}{gV:List V->List V->List V}
end
structure bz(N P:List Str)(sc:Scope):Prop where
 kind:sc.kind = .function
 co:sc.isCoroutine=false
 gen:sc.isGenerator=false
 nd:N.Nodup
 pre:N.take P.length=P
 par:∀ x∈P,sc.names.lookup x=some .local\/sc.names.lookup x=some .cell
 nofree:∀ y∈sc.names,y.2 ≠ .free
theorem lq{kindOf:Str->Option NameKind}{x:Str}:∀ {binds:List (Str×Value)} {m:Str->Option Value},(∀ v,(x,v)∉binds)->bindL kindOf binds m x=m x
 | [],_,_=>rfl
 | (n,v)::r,m,h=>by
  unfold bindL;rw [lq fun w hw=>h w (yH _ hw)]
  split
  ·have:x≠n:=by rintro rfl;exact h v yL
   simp [this]
  ·rfl
theorem ls{kindOf:Str->Option NameKind}{x:Str}:∀ {binds:List (Str×Value)} {m:Str->Option Value},(∀ v,(x,v)∉binds)->bindC kindOf binds m x=m x
 | [],_,_=>rfl
 | (n,v)::r,m,h=>by
  unfold bindC;rw [ls fun w hw=>h w (yH _ hw)]
  split
  ·rfl
  ·have:x≠n:=by rintro rfl;exact h v yL
   simp [this]
theorem lr{kindOf:Str->Option NameKind}{x:Str}{v:Value}:∀ {P:List Str} {vs:List Value} {i:Nat} {m:Str->Option Value},P.Nodup->P[i]?=some x->vs[i]?=some v->kindOf x=some .local ->
 bindL kindOf (P.zip vs) m x=some v
 | [],_,_,_,_,h,_,_=>by simp at h
 | _::_,[],_,_,_,_,h,_=>by simp at h
 | p::P,w::vs,0,m,nd,h1,h2,hk=>by
  simp at h1 h2;subst h1;subst h2
  show bindL kindOf ((p,w)::P.zip vs) m p=_
  unfold bindL;rw [lq fun v hv=>(Ae.mp nd).1 (AW hv).1,if_pos hk];simp
 | p::P,w::vs,i+1,m,nd,h1,h2,hk=>by
  show bindL kindOf ((p,w)::P.zip vs) m x=_
  unfold bindL;exact lr (i:=i) (Ae.mp nd).2 (by simpa using h1) (by simpa using h2) hk
theorem lu{kindOf:Str->Option NameKind}{x:Str}{v:Value}:∀ {P:List Str} {vs:List Value} {i:Nat} {m:Str->Option Value},P.Nodup->P[i]?=some x->vs[i]?=some v->kindOf x≠some .local ->
 bindC kindOf (P.zip vs) m x=some v
 | [],_,_,_,_,h,_,_=>by simp at h
 | _::_,[],_,_,_,_,h,_=>by simp at h
 | p::P,w::vs,0,m,nd,h1,h2,hk=>by
  simp at h1 h2;subst h1;subst h2
  show bindC kindOf ((p,w)::P.zip vs) m p=_
  unfold bindC;rw [ls fun v hv=>(Ae.mp nd).1 (AW hv).1,if_neg hk];simp
 | p::P,w::vs,i+1,m,nd,h1,h2,hk=>by
  show bindC kindOf ((p,w)::P.zip vs) m x=_
  unfold bindC;exact lu (i:=i) (Ae.mp nd).2 (by simpa using h1) (by simpa using h2) hk
def bZ(N:List Str)(vs:List V):St:=vs.map some++List.replicate (N.length - vs.length) none
def aW(CX:CXT)(P:Program)(w:World)(K:A9)(mg:Str->Option Value)(base:Heap)(N:List Str)(qual:Str)(scope:Scope)(f:Addr)(cd:Value)(A:Around)(outer:List Env)(s:Shared)(H:Hp)(E:XK):Cx where
 prog:=P
 w:=w
 K:=K
 mg:=mg
 base:=base
 A:=A.deeper (envOfC qual scope s.heap.objs.size f cd)
 N:=N
 s₀:=s
 H₀:=H
 env:=envOfC qual scope s.heap.objs.size f cd
 outer:=outer
 stack:=envOfC qual scope s.heap.objs.size f cd::outer
 ex:=[]
 calm:=true
 fn:=fun _=>true
 pn:=[]
 xe:=fun e s'=>wpAny (model P w) (A.deeper (envOfC qual scope s.heap.objs.size f cd)) (leaving (envOfC qual scope s.heap.objs.size f cd) e) (fun _ s''=>CX outer H s E e s'') (fun e' s''=>CX outer H s E e' s'') s'
theorem oh{sc:Scope}{n:Nat}{x:Str}(h:sc.names.lookup x=some .cell):∃ c,(cellsFrom n sc.names []).lookup x=some c:=by
 have q:=PySem.W.cellsFrom_some sc.names n [] (.inl h);exact Option.isSome_iff_exists.mp q
theorem kY{CX:CXT}{P:Program}{w:World}{K:A9}{mg:Str->Option Value}{base:Heap}{N ps:List Str}{qual:Str}{scope:Scope}{f:Addr}{cd:Value}{A:Around}{outer:List Env}{s s1:Shared}{H:Hp}{E:XK}{us:List Value}{vs:List V}
 (S:bz N ps scope) (hd:A.handled=none) (e0:mG P w K mg base A outer s H) (hl:vs.length=ps.length) (r:aq vs us)
 (x:InCallC s s.heap.objs.size (bindL (envOfC qual scope s.heap.objs.size f cd).kindOf (ps.zip us) fun _=>none) (cellsFrom (s.heap.objs.size+1) scope.names []) (bindC (envOfC qual scope s.heap.objs.size f cd).kindOf (ps.zip us) fun _=>none) s1) :
 Inv (aW CX P w K mg base N qual scope f cd A outer s H E) [] (bZ N vs) H s1:=by
 have hpl:ps.length<=N.length:=by have:=congrArg List.length S.pre;rw [Aa] at this;omega
 obtain ⟨h1,tk,rfl,hk⟩:=x.done
 have noA:∀ b:Addr,b∉(aW CX P w K mg base N qual scope f cd A outer s H E).ex:=fun b z=>absurd (show b∈([]:List Addr) from z) (by simp)
 refine ⟨⟨e0.mod,S.kind,rfl,rfl,yO _,fun y z c h1 h2=> ?_,fun y hy=> ?_,fun y c _ h=> ?_,fun _=>hd,Around.frames_deeper e0.frames,.inr ⟨rfl,rfl⟩,fun b z=>absurd z (noA b),e0.bs,e0.bsz,fun b _ _=>noA b,fun b z=>absurd z (noA b),e0.funs,e0.frf⟩,
  rfl,e0.bare,Un.kept hk,⟨_,x.toInCall.ns,fun i y v h1 h2 h3=> ?_⟩,fun y c h=>⟨_,x.cell y c h⟩,e0.hok.fresh (yO _),fun y c h=> ?_,fun p hp=>absurd (show p∈([]:List (Addr×Obj)) from hp) (by simp),e0.hok.kept hk,?_⟩
 ·exact name_of_addr x.apart (zC h1) (zC h2)
 ·have hy:scope.names.lookup y=some .cell\/scope.names.lookup y=some .free:=hy
  rcases hy with hy | hy
  ·exact oh hy
  ·exact absurd rfl (S.nofree _ (zC hy))
 ·exact zT (x.above y c (zC h))
 ·have hi:i < vs.length:=by
   unfold bZ at h2
   by_cases hi:i < vs.length
   ·exact hi
   ·rw [zZ (by simpa using hi)] at h2
    rw [Ag] at h2
    split at h2<;>cases h2
  have ha:vs[i]?=some v:=by
   unfold bZ at h2;rw [zj (by simpa using hi),zc] at h2
   cases e:vs[i]? with
   | none=>rw [e] at h2;cases h2
   | some a=>rw [e] at h2;cases h2;rfl
  obtain ⟨u,hu,rv⟩:=r.get ha
  have hp:ps[i]?=some y:=by
   rw [<- S.pre,List.getElem?_take_of_lt (by omega)];exact h1
  have ndP:ps.Nodup:=by rw [<- S.pre];exact S.nd.sublist (List.take_sublist _ _)
  refine ⟨u,rv,?_⟩
  rcases S.par y (yU hp) with k | k
  ·exact .inl ⟨k,lr ndP hp hu k⟩
  ·obtain ⟨c,e⟩:=oh (n:=s.heap.objs.size+1) k
   refine .inr ⟨.inl k,c,e,?_⟩;have q:=x.cell y c e;rw [lu ndP hp hu (by show scope.names.lookup y≠_;rw [k];decide)] at q;exact q
 ·exact e0.hok.fresh (zT (x.above y c (zC h)))
 ·unfold bZ
  show _=N.length
  rw [yX,yF,zo];omega
theorem uO{CX:CXT}{P:Program}{w:World}{K:A9}{mg:Str->Option Value}{base:Heap}{k:Nat}{f:Addr}{name qual:Str}{params:Arguments}{body:List Stmt}{scope:Scope}{dV kV doc pm cdv ct oc:Value}{an od:Option Addr}
 {osl:Array (Option Value)} {N ps:List Str} {sp:Sp} (lk:K.lookup f=some ⟨oc,od,.func (PySem.W.fnOf name qual params body scope dV kV doc pm an cdv ct),osl⟩) (hcd:PySem.W.codeIn K cdv qual=true) (S:bz N ps scope)
 (len:∀ vs H Q E,sp vs H Q E->vs.length=ps.length)
 (hbody:∀ (A:Around) (outer:List Env) (s:Shared) (H:Hp) (vs:List V) (Q:VK) (E:XK),bL k (A.deeper (envOfC qual scope s.heap.objs.size f cdv))->sp vs H Q E ->
   ∃ t,PSs (aW CX P w K mg base N qual scope f cdv A outer s H E) body t/\t { nx:=fun _ H'=>Q .non H',rt:=Q } (bZ N vs) H) :
 gp P w K mg base CX (k+1) f (PySem.W.fnOf name qual params body scope dV kV doc pm an cdv ct) ps sp:=by
 refine ⟨len,fun A outer s H args us vs Q E hr e0 hb r hsp=> ?_⟩;have hl:=len _ _ _ _ hsp
 have KX:K.In s.heap:=e0.mod.kin.keeps fun b o e=>(e0.bs b o e).1
 have lim:s.heap.NoLimit:=e0.mod.nolimit.keeps fun b o e=>(e0.bs b o e).1
 have hkind:∀ y∈ps.zip us,scope.names.lookup y.1=some .local\/(scope.names.lookup y.1=some .cell/\((cellsFrom (s.heap.objs.size+1) scope.names []).lookup y.1).isSome=true):=fun ⟨n,v⟩ hy=>by
  rcases S.par n (AW hy).1 with q | q
  ·exact .inl q
  ·exact .inr ⟨q,PySem.W.cellsFrom_some _ _ _ (.inl q)⟩
 refine codeAny_call_function hr.depth (KX _ _ lk) rfl S.co S.gen rfl (PySem.W.codeRec_of KX hcd) (hb _ _ _ _ ?_)
 refine wpAny_newFunctionEnv_cells S.kind hkind fun env he s1 x=> ?_
 subst he;refine ⟨lim.keeps x.toInCall.keep,codeAny_func ?_⟩;obtain ⟨t,ht,hq⟩:=hbody A outer s H vs Q E (hr.deeper _) hsp;have I:Inv (aW CX P w K mg base N qual scope f cdv A outer s H E) [] (bZ N vs) H s1:=kY S hr.hd e0 hl r x
 refine zp (ht [] s1 (bZ N vs) H _ I hq) (fun fl s' hs=> ?_) fun e s' hs=>hs
 have fin:∀ {σ':St} {H':Hp} {v:V} {u:Value},Inv (aW CX P w K mg base N qual scope f cdv A outer s H E) [] σ' H' s'->ax v u->Q v H'->CE outer P w H s Q u s' :=
  fun {σ' H' v u} J rv q=>⟨v,H',J.os,J.bare,J.base,J.hok,rv,q⟩
 cases fl with
 | ret u =>
  obtain ⟨v,σ',H',J,rv,q⟩:=hs;exact fin J rv q
 | next =>
  obtain ⟨σ',H',J,q⟩:=hs;exact fin (v:=V.non) (u:=Value.none) J rfl q
 | brk =>
  obtain ⟨_,_,_,q⟩:=hs;exact False.elim q
 | cont =>
  obtain ⟨_,_,_,q⟩:=hs;exact False.elim q
section
variable{X:Cx}{x:Str}{p pos:Pos}{e:Expr}{es:List Expr}{t:TA}{id T:String}{r:List V->Hp->VK->Prop}
def tCB(r:List V->Hp->VK->Prop)(t:TA):TE:=fun σ H Q=>t σ H fun vs H1=>r vs H1 Q
theorem gA(hc:aE X (.builtin id) r)(hg:Gl X x)(hm:X.mg x=none)(hv:bootBuiltins x=some (.builtin id))(ha:PA X (e::es) t)(hn:x ≠ "__name__" := by decide)(hdb:(x == ("__debug__" : Str))=false:=by decide)
 (he:starEach (e::es) X.env=(false,eval e X.env)::starEach es X.env:=by rfl) (hpl:(backTo pos (starEach es X.env)).any (·.1)=false:=by rfl):PE X (.Call (.Name x p) (e::es) [] pos) (tCB r t):=by
 intro pins s σ H Q I h;refine Ak (ib I hg hm hv ?_ hn hdb);exact PyProof.Rows.callWith_builtin1 (thn (ha pos pins s σ H _ I h) fun us s1 ⟨vs,H1,I1,r1,q1⟩=>hc pins s1 σ H1 vs us Q I1 r1 q1) he hpl
theorem qV(hc:aE X (.type T) r)(hg:Gl X x)(hm:X.mg x=none)(hv:bootBuiltins x=some (.type T))(ha:PA X (e::es) t)(hn:x ≠ "__name__" := by decide)(hdb:(x == ("__debug__" : Str))=false:=by decide)
 (he:starEach (e::es) X.env=(false,eval e X.env)::starEach es X.env:=by rfl) (hpl:(backTo pos (starEach es X.env)).any (·.1)=false:=by rfl):PE X (.Call (.Name x p) (e::es) [] pos) (tCB r t):=by
 intro pins s σ H Q I h;refine Ak (ib I hg hm hv ?_ hn hdb);exact PyProof.Rows.callWith_type1 (thn (ha pos pins s σ H _ I h) fun us s1 ⟨vs,H1,I1,r1,q1⟩=>hc pins s1 σ H1 vs us Q I1 r1 q1) he hpl
end
section
variable{κ:Type}[DecidableEq κ]
def gu(kvs:List (κ×V))(k:κ):Option V:=(kvs.find? fun kv=>decide (kv.1=k)).map (·.2)
def fU(kvs:List (κ×V))(k:κ)(v:V):List (κ×V) :=
 if (kvs.any fun kv=>decide (kv.1=k))=true then kvs.map (fun kv=>if kv.1=k then (kv.1,v) else kv) else kvs++[(k,v)]
theorem gq{p:κ×V}{r:List (κ×V)}{k:κ}(e:p.1=k):gu (p::r) k=some p.2:=by simp [gu,AE,e]
theorem gt{p:κ×V}{r:List (κ×V)}{k:κ}(e:¬ p.1=k):gu (p::r) k=gu r k:=by simp [gu,AE,e]
theorem mK(k:κ):∀ kvs:List (κ×V),(kvs.any fun kv=>decide (kv.1=k))=(gu kvs k).isSome
 | []=>rfl
 | p::r=>by
  rw [List.any_cons]
  by_cases e:p.1=k
  ·simp only [gq e,yV e,AN,Option.isSome_some]
  ·rw [gt e,zd e,AF];exact mK k r
theorem iF(kvs:List (κ×V))(k:κ)(v:V):(fU kvs k v).length<=kvs.length+1:=by
 unfold fU
 split
 ·rw [yF];omega
 ·rw [yX,yM,zJ];omega
theorem ke.isSome_eq{o:Option V}{u:Option Value}(r:ke o u):o.isSome=u.isSome:=by
 cases o with
 | none=>cases u with
  | none=>rfl
  | some _=>exact (show False from r).elim
 | some _=>cases u with
  | none=>exact (show False from r).elim
  | some _=>rfl
theorem KV.val{kvs:List (κ×V)}{vs:List (κ×Value)}(r:KV kvs vs)(k:κ):ke (gu kvs k) (valueAt vs k):=by
 unfold KV at r
 induction r with
 | nil=>exact True.intro
 | @cons p q ps qs h t ih =>
  obtain ⟨h1,h2⟩:=h
  by_cases e:p.1=k
  ·have e':q.1=k:=h1.symm.trans e
   have b:valueAt (q::qs) k=some q.2:=by simp [valueAt,AE,e']
   rw [gq e,b];exact h2
  ·have e':¬ q.1=k:=fun z=>e (h1.trans z)
   have b:valueAt (q::qs) k=valueAt qs k:=by simp [valueAt,AE,e']
   rw [gt e,b];exact ih
theorem KV.any{kvs:List (κ×V)}{vs:List (κ×Value)}(r:KV kvs vs)(k:κ):(kvs.any fun kv=>decide (kv.1=k))=vs.any fun kv=>decide (kv.1=k):=by
 unfold KV at r
 induction r with
 | nil=>rfl
 | cons h t ih=>rw [List.any_cons,List.any_cons,ih,h.1]
theorem KV.repl{kvs:List (κ×V)}{vs:List (κ×Value)}(r:KV kvs vs)(k:κ){y:V}{u:Value}(ry:ax y u) :
 KV (kvs.map fun kv=>if kv.1=k then (kv.1,y) else kv) (vs.map fun kv=>if kv.1=k then (kv.1,u) else kv):=by
 unfold KV at r ⊢
 induction r with
 | nil=>exact .nil
 | @cons p q ps qs h t ih =>
  rw [yW,yW];refine .cons ?_ ih;obtain ⟨h1,h2⟩:=h
  by_cases e:p.1=k
  ·rw [if_pos e,if_pos (h1.symm.trans e)];exact ⟨h1,ry⟩
  ·rw [if_neg e,if_neg (fun z=>e (h1.trans z))];exact ⟨h1,h2⟩
theorem KV.put{kvs:List (κ×V)}{vs:List (κ×Value)}(r:KV kvs vs)(k:κ){y:V}{u:Value}(ry:ax y u):KV (fU kvs k y) (stored vs k u):=by
 unfold fU stored;rw [r.any k]
 by_cases e:(vs.any fun kv=>decide (kv.1=k))=true
 ·rw [if_pos e,if_pos e];exact r.repl k ry
 ·rw [if_neg e,if_neg e];exact Paired.snoc r ⟨rfl,ry⟩
theorem KV.length{kvs:List (κ×V)}{vs:List (κ×Value)}(r:KV kvs vs):kvs.length=vs.length:=Paired.length r
end
theorem qh{P:Program}{w:World}{k:Key}{u:Value}(r:ax (kV k) u):(be P w).is k u=true:=by
 cases k with
 | inl i=>obtain ⟨t,e⟩:=(show ∃ t,u=Value.int i t from r);subst e;exact nE P w i t
 | inr x=>obtain ⟨t,e⟩:=(show ∃ t,u=Value.str x t from r);subst e;exact nB P w x t
theorem kX{P:Program}{w:World}:∀ {ks:List Key} {us:List Value},aq (ks.map kV) us->ItemsAre (be P w) ks us
 | [],_,r=>by rw [An] at r;cases r;exact .nil
 | k::ks,_,r=>by
  rw [yW] at r
  cases r with
  | cons h t=>exact .cons (qh h) (kX t)
abbrev KT(H:Hp):List (List Key×V)->List (List Key×Addr×Value)->Prop:=Paired fun p q=>p.1=q.1/\H q.2.1=some (.tup (p.1.map kV))/\ax p.2 q.2.2
theorem KT.val{H:Hp}{kvs:List (List Key×V)}{xs:List (List Key×Addr×Value)}(r:KT H kvs xs)(k:List Key):ke (gu kvs k) ((atKey xs k).map (·.2)):=by
 induction r with
 | nil=>exact True.intro
 | @cons p q ps qs h t ih =>
  obtain ⟨h1,_,h2⟩:=h
  by_cases e:p.1=k
  ·have e':q.1=k:=h1.symm.trans e
   have b:atKey (q::qs) k=some q.2:=by simp [atKey,AE,e']
   rw [gq e,b];exact h2
  ·have e':¬ q.1=k:=fun z=>e (h1.trans z)
   have b:atKey (q::qs) k=atKey qs k:=by simp [atKey,AE,e']
   rw [gt e,b];exact ih
theorem KT.repl{H:Hp}{kvs:List (List Key×V)}{xs:List (List Key×Addr×Value)}(r:KT H kvs xs)(k:List Key){y:V}{u:Value}(ry:ax y u) :
 KT H (kvs.map fun kv=>if kv.1=k then (kv.1,y) else kv) (xs.map (putAt k u)):=by
 induction r with
 | nil=>exact .nil
 | @cons p q ps qs h t ih =>
  rw [yW,yW];refine .cons ?_ ih;obtain ⟨h1,h2,h3⟩:=h;unfold putAt
  by_cases e:p.1=k
  ·rw [if_pos e,if_pos (h1.symm.trans e)];exact ⟨h1,h2,ry⟩
  ·rw [if_neg e,if_neg (fun z=>e (h1.trans z))];exact ⟨h1,h2,h3⟩
theorem KT.put{H:Hp}{kvs:List (List Key×V)}{xs:List (List Key×Addr×Value)}(r:KT H kvs xs)(k:List Key){b:Addr}{y:V}{u:Value}(hb:H b=some (.tup (k.map kV)))(ry:ax y u) :
 KT H (fU kvs k y) (storedH xs k b u):=by
 have e:(kvs.any fun kv=>decide (kv.1=k))=(atKey xs k).isSome:=by
  rw [mK,(r.val k).isSome_eq,Option.isSome_map]
 unfold fU storedH;rw [e]
 by_cases q:(atKey xs k).isSome=true
 ·rw [if_pos q,if_pos q];exact r.repl k ry
 ·rw [if_neg q,if_neg q];exact Paired.snoc r ⟨rfl,hb,ry⟩
theorem KT.keeps{H H':Hp}{kvs:List (List Key×V)}{xs:List (List Key×Addr×Value)}(r:KT H kvs xs)(ht:∀ b ys,H b=some (.tup ys)->H' b=some (.tup ys)):KT H' kvs xs :=
 Paired.mapP r fun _ _ z=>⟨z.1,ht _ _ z.2.1,z.2.2⟩
section
variable{P:Program}{w:World}{H:Hp}{h:Heap}{a:Addr}
theorem xV{u:HO}(ok:HOk P w H h)(e:Rd H a u):aX P w H h a u:=e.ok ok
theorem qu{kvs:List (Key×V)}(ok:HOk P w H h)(e:Rd H a (.dK kvs)):kvs.length<=sizeLine/\(a == sysModules)=false/\∃ vs,KV kvs vs/\h.DictOf (be P w) a vs :=
 show aX P w H h a (.dK kvs) from xV ok e
theorem dk_of{kvs:List (Key×V)}(ok:HOk P w H h)(e:H a=some (.dK kvs)):kvs.length<=sizeLine/\(a == sysModules)=false/\∃ vs,KV kvs vs/\h.DictOf (be P w) a vs:=qu ok (.inl e)
theorem lY{ks:List Key}(ok:HOk P w H h)(e:H a=some (.tup (ks.map kV))):(tupleKind (be P w)).is h ks a:=by
 obtain ⟨_,its,r,⟨o,h1,h2,n,h3⟩,_⟩:=(show aX P w H h a (.tup (ks.map kV)) from ok a _ e);exact ⟨o,its.toArray,n,h1,h2,h3,by simpa using kX r⟩
theorem uW{kvs:List (List Key×V)}(ok:HOk P w H h)(e:Rd H a (.dT kvs)):kvs.length<=sizeLine/\(a == sysModules)=false /\
 ∃ xs,KT H kvs xs/\h.DictOfH (tupleKind (be P w)) a xs:=by
 obtain ⟨z,y,xs,r,o,es,ep,h1,h2,h3,h4,h5⟩:=(show aX P w H h a (.dT kvs) from xV ok e);refine ⟨z,y,xs,r,o,es,ep,h1,h2,h3,h4,fun x hx=> ?_,h5⟩
 have all:∀ {l:List (List Key×V)} {m:List (List Key×Addr×Value)},KT H l m->∀ x∈m,(tupleKind (be P w)).is h x.1 x.2.1:=by
  intro l m q
  induction q with
  | nil=>intro x hx;exact nomatch hx
  | @cons p q ps qs hq t ih =>
   intro x hx
   rcases yP.mp hx with e | hx
   ·subst e
    exact lY ok (by rw [<- hq.1];exact hq.2.1)
   ·exact ih x hx
 exact all r x hx
theorem dt_of{kvs:List (List Key×V)}(ok:HOk P w H h)(e:H a=some (.dT kvs)):kvs.length<=sizeLine/\(a == sysModules)=false /\
 ∃ xs,KT H kvs xs/\h.DictOfH (tupleKind (be P w)) a xs:=uW ok (.inl e)
end
def kg(H:Hp)(a:Addr)(y:V)(r:Option V):Prop :=
 (∃ kvs k,Rd H a (.dK kvs)/\y=kV k/\r=gu kvs k)\/∃ kvs k b,Rd H a (.dT kvs)/\y = .ref b/\H b=some (.tup (k.map kV))/\r=gu kvs k
def mH(H:Hp)(a:Addr)(y v:V)(H':Hp):Prop :=
 (∃ kvs k,H a=some (.dK kvs)/\y=kV k/\kvs.length < sizeLine/\H'=upd H a (.dK (fU kvs k v))) \/
 ∃ kvs k b,H a=some (.dT kvs)/\y = .ref b/\H b=some (.tup (k.map kV))/\kvs.length < sizeLine/\H'=upd H a (.dT (fU kvs k v))
theorem kg.k{H:Hp}{a:Addr}{kvs:List (Key×V)}{k:Key}(e:H a=some (.dK kvs)):kg H a (kV k) (gu kvs k):= .inl ⟨kvs,k,.inl e,rfl,rfl⟩
theorem kg.t{H:Hp}{a b:Addr}{kvs:List (List Key×V)}{k:List Key}(e:H a=some (.dT kvs))(eb:H b=some (.tup (k.map kV))):kg H a (.ref b) (gu kvs k):= .inr ⟨kvs,k,b,.inl e,rfl,eb,rfl⟩
theorem mH.k{H:Hp}{a:Addr}{kvs:List (Key×V)}{k:Key}{v:V}(e:H a=some (.dK kvs))(hl:kvs.length < sizeLine):mH H a (kV k) v (upd H a (.dK (fU kvs k v))):= .inl ⟨kvs,k,e,rfl,hl,rfl⟩
theorem mH.t{H:Hp}{a b:Addr}{kvs:List (List Key×V)}{k:List Key}{v:V}(e:H a=some (.dT kvs))(eb:H b=some (.tup (k.map kV)))(hl:kvs.length < sizeLine) :
 mH H a (.ref b) v (upd H a (.dT (fU kvs k v))):= .inr ⟨kvs,k,b,e,rfl,eb,hl,rfl⟩
section
variable{X:Cx}{pins:List (Addr×Obj)}{σ:St}{H:Hp}{s:Shared}{a:Addr}{y v:V}{u r:Value}{o:Option V}{A:Around}{E:Value->Shared->Prop}
theorem Inv.big(I:Inv X pins σ H s):sysModules < s.heap.objs.size:=by
 have h:mainGlobals < s.heap.objs.size:=(I.mod.glob.keeps I.bk).lt;exact Nat.lt_trans (by decide) h
theorem d_in{Q:Value->Shared->Prop}(hu:A.units+1 < cLine)(I:Inv X pins σ H s)(g:kg H a y o)(ry:ax y u)(h:∀ s',Inv X pins σ H s'->Q (.bool o.isSome) s') :
 wpAny (model X.prog X.w) A (compareOp .In u (.ref a)) Q E s:=by
 rcases g with ⟨kvs,k,e,ey,l⟩ | ⟨kvs,k,b,e,ey,eb,l⟩
 ·subst ey
  obtain ⟨z,hd,vs,rel,dd⟩:=qu I.hok e;refine wpAny_in_of (qh ry) hd dd.mapOf ?_;rw [<- (rel.val k).isSome_eq,<- l];exact h _ (I.tok _)
 ·subst ey
  cases (show u=Value.ref b from ry);obtain ⟨z,hd,xs,rel,dd⟩:=uW I.hok e;refine wpAny_in_heap (tupleKind_room_in1 hu) (lY I.hok eb) hd dd ?_;have q:=(rel.val k).isSome_eq;rw [Option.isSome_map] at q;rw [<- q,<- l];exact h _ (I.tok _)
theorem xm{Q:Value->Shared->Prop}(hu:A.units+1 < cLine)(I:Inv X pins σ H s)(g:kg H a y o)(ry:ax y u)(h:∀ s',Inv X pins σ H s'->Q (.bool (!o.isSome)) s') :
 wpAny (model X.prog X.w) A (compareOp .NotIn u (.ref a)) Q E s:=by
 rcases g with ⟨kvs,k,e,ey,l⟩ | ⟨kvs,k,b,e,ey,eb,l⟩
 ·subst ey
  obtain ⟨z,hd,vs,rel,dd⟩:=qu I.hok e;refine wpAny_notIn_of (qh ry) hd dd.mapOf ?_;rw [<- (rel.val k).isSome_eq,<- l];exact h _ (I.tok _)
 ·subst ey
  cases (show u=Value.ref b from ry);obtain ⟨z,hd,xs,rel,dd⟩:=uW I.hok e;refine wpAny_notIn_heap (tupleKind_room_in1 hu) (lY I.hok eb) hd dd ?_;have q:=(rel.val k).isSome_eq;rw [Option.isSome_map] at q;rw [<- q,<- l];exact h _ (I.tok _)
theorem qw{h':Heap}{t':Nat}{ob:HO}(I:Inv X pins σ H s)(mu:Mut (H a))(hs:Heap.SameBut a s.heap h')(he:∃ q,h'.get? a=some q)(new:aX X.prog X.w (upd H a ob) h' a ob) :
 Inv X pins σ (upd H a ob) { s with heap:=h',toks:=t' } :=
 I.write (x:=a) (e:=a) mu (.inl rfl) (fun b q hb z=>(hs.2 b hb).trans z) he new
theorem dk_new{P:Program}{w:World}{H':Hp}{h':Heap}{kvs:List (Key×V)}{vs:List (Key×Value)}(z:kvs.length<=sizeLine)(hd:(a == sysModules)=false)(rel:KV kvs vs)(dd:h'.DictOf (be P w) a vs) :
 aX P w H' h' a (.dK kvs):=⟨z,hd,vs,rel,dd⟩
theorem rL{H':Hp}{Q:Unit->Shared->Prop}(hu:A.units+1 < cLine)(I:Inv X pins σ H s)(g:mH H a y v H')(ry:ax y u)(rv:ax v r)(h:∀ s',Inv X pins σ H' s'->Q () s') :
 wpAny (model X.prog X.w) A (setItem (.ref a) u r) Q E s:=by
 rcases g with ⟨kvs,k,e,ey,l,eH⟩ | ⟨kvs,k,b,e,ey,eb,l,eH⟩
 ·subst ey eH
  obtain ⟨z,hd,vs,rel,dd⟩:=dk_of I.hok e
  have hz:vs.length<=sizeLine:=by rw [<- rel.length];exact z
  have hl:(fU kvs k v).length<=sizeLine:=by have:=iF kvs k v;omega
  refine wpAny_setItem_pairs (hsz:=hz) (qh ry) dd fun h' dd' hs=>h _ ?_
  have he:∃ q,h'.get? a=some q:=let ⟨q,_,_,hq,_⟩:=dd';⟨q,hq⟩;exact qw I (by rw [e];exact True.intro) hs he (dk_new hl hd (rel.put k rv) dd')
 ·subst ey eH
  cases (show u=Value.ref b from ry);obtain ⟨z,hd,xs,rel,dd⟩:=dt_of I.hok e
  have hz:xs.length<=sizeLine:=by rw [<- Paired.length rel];exact z
  have hl:(fU kvs k v).length<=sizeLine:=by have:=iF kvs k v;omega
  refine wpAny_setItem_heap (hsz:=hz) (tupleKind_room_in1 hu) (lY I.hok eb) dd fun h' dd' hs=>h _ ?_
  obtain ⟨q,es,ep,hq,h2,h3,h4,_,h5⟩:=dd';refine qw I (by rw [e];exact True.intro) hs ⟨q,hq⟩ ⟨hl,hd,_,(rel.put k eb rv).keeps fun c ys ec=> ?_,q,es,ep,hq,h2,h3,h4,h5⟩;rw [ah (ne_of ec e (fun z=>nomatch z))];exact ec
end
section
variable{X:Cx}{pins:List (Addr×Obj)}{σ:St}{H:Hp}{s:Shared}{a:Addr}{kvs:List (Key×V)}{k:Key}{u:Value}{A:Around}{E:Value->Shared->Prop}
theorem d_len{Q:Value->Shared->Prop}(I:Inv X pins σ H s)(e:Rd H a (.dK kvs))(h:∀ t s',Inv X pins σ H s'->Q (.int kvs.length t) s'):wpAny (model X.prog X.w) A (call (.builtin "len") [.ref a]) Q E s:=by
 obtain ⟨z,hd,vs,rel,dd⟩:=qu I.hok e;refine call_len_dict hd dd (by rw [<- rel.length];rw [sizeLine_eq] at z;omega) ?_;rw [<- rel.length];exact h _ _ (I.tok _)
end
def sDPut(td ty tv:TE):TS:=fun D σ H=>tv σ H fun v H1=>td σ H1 fun x H2=>ty σ H2 fun y H3=>∃ a H4,x = .ref a/\mH H3 a y v H4/\D.nx σ H4
section
variable{X:Cx}{o i e value:Expr}{pos pos' tpos:Pos}{td ty tv:TE}
theorem wf(hu:X.A.units+1 < cLine)(ho:PE X o td)(hi:PE X i ty)(hv:PE X value tv)(hs:swapsWith value (some (.Subscript o i pos')) pos.line X.env=pure false) :
 PS X (.Assign [.Subscript o i pos'] value pos) (sDPut td ty tv):=by
 intro pins s σ H D I h;refine wpAny_Assign_Subscript (thn (hv pins s σ H _ I h) fun r s1 ⟨v,H1,I1,rv,q1⟩=>thn (ho pins s1 σ H1 _ I1 q1) fun u s2 ⟨x,H2,I2,rx,q2⟩=>thn (hi pins s2 σ H2 _ I2 q2) fun iv s3 ⟨y,H3,I3,ry,a,H4,ex,g,q3⟩=> ?_) hs;subst ex;obtain rfl:u=Value.ref a:=rx
 exact rL hu I3 g ry rv fun s4 I4=>⟨σ,H4,I4,q3⟩
end
theorem uX{P:Program}{w:World}{H:Hp}(h:Heap)(hb:sysModules < h.objs.size):aX P w H (h.push { cls:= .type "dict",data:= .dict #[] }) h.objs.size (.dT []) :=
 ⟨Nat.zero_le _,zP.mpr (Ne.symm (za hb)),[],.nil,_,#[],0,yQ _ rfl,⟨rfl,rfl,rfl⟩,rfl,rfl,AJ⟩
def tDNewT:TE:=fun _ H Q=>∀ p,H p=none->Q (.ref p) (upd H p (.dT []))
section
variable{X:Cx}{pos:Pos}
theorem tW:PE X (.Dict [] [] pos) tDNewT:=fun pins s σ H Q I h =>
 wpAny_Dict_empty ⟨.ref s.heap.objs.size,_,I.laid (a:=s.heap.objs.size) (o:= .dT []) (t':=s.toks) (fun _ _ q=>yC _ q) (yO _) (uX s.heap I.big),rfl,h _ (I.hok.fresh (yO _))⟩
end
structure M1(X:Cx)(o:Expr)(m:Str)(apos:Pos)(e:Expr)(cpos:Pos):Prop where
 base:attributeBase o m X.env (eval o X.env)=eval o X.env
 few:((backTo cpos (starEach [e] X.env)).all (fun x => !x.1)&&(backToKw cpos (keywordEach [] X.env)).all (fun x=>x.1.isSome)
  && decide (([e]:List Expr).length+([]:List Keyword).length+(if ([]:List Keyword).isEmpty then 0 else 1) < 30))=true
 line:(apos.endLine == cpos.line)=true
 trees:backTo cpos (starEach [e] X.env)=[(false,eval e X.env)]
section
variable{X:Cx}{pins:List (Addr×Obj)}{σ:St}{H:Hp}{s:Shared}{a:Addr}{y d:V}{u r:Value}{o:Option V}{A:Around}{E:Value->Shared->Prop}
end
section
variable{X:Cx}{o e f:Expr}{apos cpos:Pos}{td ty tx:TE}
end
section
variable{X:Cx}{pins:List (Addr×Obj)}{σ:St}{H:Hp}{s:Shared}{a:Addr}{kvs:List (Key×V)}{A:Around}{E:Value->Shared->Prop}
end
section
variable{X:Cx}{pins:List (Addr×Obj)}{σ:St}{H:Hp}{s:Shared}{a:Addr}{y:V}{u:Value}{A:Around}{E:Value->Shared->Prop}
end
end L2
namespace HT
open PySem PyProof.Rows
theorem uU(A:Around)(s:Shared)(a:Int)(t:Tok)(c:Int)(u:Tok):∃ e,SeqAt.EqAt A s (.int a t) (.int c u) e/\(e=true↔a=c) :=
 ⟨(a == c),SeqAt.EqAt.int_int a t c u,by simp⟩
section
open PySem.SeqAt
open PySem.AutoSeq1 (wpAny_loadPart')
open PySem.MeetsSeq PySem.MeetsSeq2 PySem.MeetsSeq3
end
section
variable{prog:Program}{w:World}{A:Around}{E:Value->Shared->Prop}{s:Shared}
theorem xo{t b:Addr}{vs ws:List Value}{Q:Value->Shared->Prop}(ht:IsTup s.heap t vs.toArray)(hb:IsTup s.heap b ws.toArray)(hv:vs≠[])
 (h1:ws=[]->Q (.ref t) s) (h2:ws≠[]->Q (.ref s.heap.objs.size) { s with heap:=s.heap.push { cls:= .type "tuple",data:= .seq (vs++ws).toArray } })
 (hsz:vs.length+ws.length<=sizeLine):wpAny (model prog w) A (binaryOp .Add (.ref t) (.ref b)) Q E s:=by
 obtain ⟨⟨cls,dd,data,sl⟩,ho,hc,n,hd⟩:=id ht;obtain ⟨⟨cls2,dd2,data2,sl2⟩,ho2,hc2,n2,hd2⟩:=id hb;simp only at hc hd hc2 hd2;subst hc hd hc2 hd2
 have e:vs.toArray++ws.toArray=(vs++ws).toArray:=by simp
 by_cases hw:ws=[]
 ·exact concat_meets ⟨_,ho,rfl⟩ ⟨_,ho2,rfl⟩ noFill_tuple_add seq_tuple_add PySem.F.slot_tuple_add PySem.F.entry_tuple_add (PySem.F.args_tuple_add_2 _ _)
   (tuple_addW1 t b vs.toArray ws.toArray n n2 dd dd2 sl sl2 (by simpa using hv) (by simp [hw])) ⟨ho,ho2,h1 hw⟩
 ·refine concat_meets ⟨_,ho,rfl⟩ ⟨_,ho2,rfl⟩ noFill_tuple_add seq_tuple_add PySem.F.slot_tuple_add PySem.F.entry_tuple_add (PySem.F.args_tuple_add_2 _ _)
   (tuple_addW2 t b vs.toArray ws.toArray n n2 dd dd2 sl sl2 (by simpa using hv) (by simpa using hw) (by rw [yG,yG];exact hsz)) ⟨ho,ho2,?_⟩
  rw [e];exact h2 hw
def sIx(n d:Nat):Option Int->Nat
 | none=>d
 | some v=>if v < 0 then (v+(n:Int)).toNat else min v.toNat n
theorem oM(n d:Nat)(hd:d<=n)(o:Option Int):sIx n d o<=n:=by
 cases o with
 | none=>exact hd
 | some v =>
  show (if v < 0 then (v+(n:Int)).toNat else min v.toNat n)<=n
  by_cases hv:v < 0
  ·rw [if_pos hv];omega
  ·rw [if_neg hv];exact Nat.min_le_right _ _
theorem qz(v:Int)(n d:Nat):(if v < 0 then max (v+(n:Int)) 0 else min v (n:Int))=((sIx n d (some v):Nat):Int):=by
 show (if v < 0 then max (v+(n:Int)) 0 else min v (n:Int))=(((if v < 0 then (v+(n:Int)).toNat else min v.toNat n):Nat):Int)
 by_cases hv:v < 0
 ·simp only [if_pos hv];omega
 ·simp only [if_neg hv];omega
theorem pF(lo hi:Option Int)(n:Nat):Builtin.Slice.sliceAdjust lo hi 1 (n:Int)=(((sIx n 0 lo:Nat):Int),((sIx n n hi:Nat):Int)):=by
 have h1:¬ ((1:Int) < 0):=by omega
 unfold Builtin.Slice.sliceAdjust;simp only [h1,if_false];refine Prod.ext ?_ ?_
 ·cases lo with
  | none=>rfl
  | some v=>exact qz v n 0
 ·cases hi with
  | none=>rfl
  | some v=>exact qz v n n
theorem oR(i j:Nat):Builtin.Slice.slicePlaces (i:Int) (j:Int) 1=j - i:=by
 unfold Builtin.Slice.slicePlaces
 have h1:(1:Int) > 0:=by omega
 simp only [h1,if_true,Int.ediv_one]
 split<;>omega
theorem fP{v:Value}{o:Option Int}{Q:Option Int->Shared->Prop}(p:IsPart v o)(h:Q o s):wpAny (model prog w) A (Builtin.Slice.slicePartIndex v) Q E s:=by
 cases p with
 | none=>exact slicePart_none h
 | int i t=>exact slicePart_int h
theorem dF{sl:Addr}{vl vu:Value}{lo hi:Option Int}{n:Nat}{Q:Int×Int×Nat->Shared->Prop}(hs:s.heap.IsSliceOf sl vl vu .none)(pl:IsPart vl lo)(pu:IsPart vu hi)
 (h:Q (((sIx n 0 lo:Nat):Int),1,sIx n n hi - sIx n 0 lo) s):wpAny (model prog w) A (Builtin.Slice.sliceApplied (.ref sl) (pure (n:Int))) Q E s:=by
 obtain ⟨os,hos,hcs,hds⟩:=id hs;unfold Builtin.Slice.sliceApplied Builtin.Slice.sliceFields;refine yB (yB (zX hos hds (x:=vl) rfl (yB (zX hos hds (x:=vu) rfl (yB (zX hos hds (x:= .none) rfl (yE ?_)))))));refine yB (slicePart_none ?_)
 show wpAny _ _ (if ((1:Int) == 0)=true then _ else _) _ _ s
 rw [if_neg (by decide)];refine yB (fP pl (yB (fP pu (yB (yE ?_)))))
 show wpAny _ _ (match Builtin.Slice.sliceAdjust lo hi 1 (n:Int) with | (lo,hi)=>pure (lo,(1:Int),Builtin.Slice.slicePlaces lo hi 1)) _ _ s
 rw [pF lo hi n]
 show wpAny _ _ (pure (((sIx n 0 lo:Nat):Int),(1:Int),Builtin.Slice.slicePlaces ((sIx n 0 lo:Nat):Int) ((sIx n n hi:Nat):Int) 1)) _ _ s
 rw [oR];exact yE h
theorem tQ(xs:Array Value)(i k:Nat):((List.range k).filterMap fun (m:Nat)=>xs[((i:Int)+(m:Int) * 1).toNat]?).toArray=((xs.toList.drop i).take k).toArray:=by
 have e:(fun (m:Nat)=>xs[((i:Int)+(m:Int) * 1).toNat]?)=fun m=>xs[i+m]?:=by
  funext m
  have:((i:Int)+(m:Int) * 1).toNat=i+m:=by omega
  rw [this]
 rw [e];have:=pick_run xs i k;rw [List.filterMap_map] at this
 have e2:((fun x=>xs[x]?) ∘ fun x=>i+x)=fun m=>xs[i+m]?:=rfl
 rw [e2] at this;rw [this]
theorem gI{t sl:Addr}{items:Array Value}{vl vu:Value}{lo hi:Option Int}{Q:Value->Shared->Prop}(ht:IsTup s.heap t items)(hs:s.heap.IsSliceOf sl vl vu .none)(pl:IsPart vl lo)(pu:IsPart vu hi)
 (hw:¬ (sIx items.size 0 lo=0/\sIx items.size items.size hi=items.size))
 (h:Q (.ref s.heap.objs.size) { s with heap:=s.heap.push { cls:= .type "tuple",data:= .seq ((items.toList.drop (sIx items.size 0 lo)).take (sIx items.size items.size hi - sIx items.size 0 lo)).toArray } })
 (hsz:items.size<=sizeLine):wpAny (model prog w) A (getItem (.ref t) (.ref sl)) Q E s:=by
 have htake:sizeOk (.seq ((items.toList.drop (sIx items.size 0 lo)).take (sIx items.size items.size hi - sIx items.size 0 lo)).toArray):=by
  show ((items.toList.drop (sIx items.size 0 lo)).take (sIx items.size items.size hi - sIx items.size 0 lo)).toArray.size<=sizeLine
  rw [yG,Aa,List.length_drop,zt];omega
 have hj:sIx items.size items.size hi<=items.size:=oM _ _ (yO _) hi;obtain ⟨os,hos,hcs,hds⟩:=id hs;have hTs:s.TypeIs (.ref sl) "slice" := ⟨os,hos,hcs⟩;unfold getItem
 try with_reducible refine zG ?_
 first | refine yB (yE ?_) | skip
 refine yB (wpAny_sequenceKey ht.typeIs (by decide) ?_)
 refine yB (zq (name:=Str.ofString "__getitem__") ht.typeIs PyProof.Rows.slot_tuple_getitem
  (zx PyProof.Rows.slot_tuple_getitem ht.typeIs entry_tuple_getitem ?_ (args_tuple_getitem _ _)))
 show wpAny _ _ (Builtin.Tuple.tupleItemsOf (.ref t) >>= _) _ _ s
 refine yB (tupleItemsOf_ ht ?_);refine yB (A2 hTs ?_);rw [if_pos (by decide)];refine yB (dF hs pl pu ?_)
 have hno:¬ ((((sIx items.size 0 lo:Nat):Int) == 0&&(1:Int) == 1&&(sIx items.size items.size hi - sIx items.size 0 lo) == items.size)=true):=by
  intro q;rw [yY,yY] at q;have q1:((sIx items.size 0 lo:Nat):Int)=0:=eq_of_beq q.1.1;have q2:sIx items.size items.size hi - sIx items.size 0 lo=items.size:=eq_of_beq q.2;exact hw ⟨by omega,by omega⟩
 show wpAny _ _ (if (((sIx items.size 0 lo:Nat):Int) == 0&&(1:Int) == 1&&(sIx items.size items.size hi - sIx items.size 0 lo) == items.size)=true then _ else _) _ _ s
 rw [if_neg hno,tQ]
 first
  | exact yB (m:=Builtin.Tuple.tupleExact _) (zk (yE ⟨_,rfl,yE h⟩) htake)
  | exact yB (m:=Builtin.Tuple.tupleExact _) (zk (yB (yE (yE ⟨_,rfl,yE h⟩))) htake)
  | exact yB (yB (m:=Builtin.Tuple.tupleExact _) (zk (yE (yE ⟨_,rfl,yE h⟩)) htake))
  | exact yB (yB (m:=Builtin.Tuple.tupleExact _) (zk (yE ⟨_,rfl,yE h⟩) htake))
end
end HT
namespace L2
open PySem PySem.Spec PyProof.Rows
abbrev TO:=St->Hp->(Option Int->Hp->Prop)->Prop
def PO(X:Cx)(e:Option Expr)(t:TO):Prop :=
 ∀ (pins:List (Addr×Obj)) (s:Shared) (σ:St) (H:Hp) (Q:Option Int->Hp->Prop),Inv X pins σ H s->t σ H Q ->
  wpAny (model X.prog X.w) X.A (evalPart e X.env) (fun u s'=>∃ o H',Inv X pins σ H' s'/\IsPart u o/\Q o H') X.xe s
def vJ:TO:=fun _ H Q=>Q none H
def xK(t:TE):TO:=fun σ H Q=>t σ H fun x H1=>∃ i,x = .int i/\Q (some i) H1
theorem dU{ns:List Int}:∀ {us:List Value},aq (ns.map V.int) us->IntsAre us ns:=by
 induction ns with
 | nil=>intro us r;rw [An] at r;cases r;exact .nil
 | cons n ns ih =>
  intro us r;rw [yW] at r
  cases r with
  | cons r1 r2 =>
   obtain ⟨t,e⟩:=r1;subst e;exact .cons n t (ih r2)
section
variable{X:Cx}{e:Expr}{te:TE}{lo hi:Option Expr}{tl th:TO}{pos p2:Pos}
theorem p7:PO X none vJ:=by
 intro pins s σ H Q I h;rw [evalPart_none];exact yE ⟨none,H,I,.none,h⟩
theorem gz(h:PE X e te):PO X (some e) (xK te):=by
 intro pins s σ H Q I hw;rw [evalPart_some]
 refine thn (h pins s σ H _ I hw) fun u s1 ⟨x,H1,I1,r1,q1⟩=> ?_
 obtain ⟨i,rfl,q⟩:=q1;obtain ⟨t,rfl⟩:=r1;exact ⟨some i,H1,I1,.int i t,q⟩
def SlR(X:Cx)(r:V->Option Int->Option Int->Hp->VK->Prop):Prop :=
 ∀ (pins:List (Addr×Obj)) (s:Shared) (σ:St) (H:Hp) (x:V) (v vl vu:Value) (lo hi:Option Int) (sl:Addr) (Q:VK),Inv X pins σ H s->ax x v->s.heap.IsSliceOf sl vl vu .none->IsPart vl lo->IsPart vu hi->r x lo hi H Q ->
  ∃ T id,typeLookup (.type T) "__getitem__" = pure (some (.builtin id))/\s.TypeIs v T/\wpAny (model X.prog X.w) X.A (getItem v (.ref sl)) (EP X pins σ Q) X.xe s
theorem SlR.or{r r':V->Option Int->Option Int->Hp->VK->Prop}(h:SlR X r)(h':SlR X r'):SlR X (fun x lo hi H Q=>r x lo hi H Q\/r' x lo hi H Q):=by
 intro pins s σ H x v vl vu lo hi sl Q I rx hs pl pu q
 rcases q with q | q
 ·exact h pins s σ H x v vl vu lo hi sl Q I rx hs pl pu q
 ·exact h' pins s σ H x v vl vu lo hi sl Q I rx hs pl pu q
def tSl(r:V->Option Int->Option Int->Hp->VK->Prop)(te:TE)(tl th:TO):TE:=fun σ H Q=>te σ H fun x H1=>tl σ H1 fun l H2=>th σ H2 fun u H3=>r x l u H3 Q
theorem jr{r:V->Option Int->Option Int->Hp->VK->Prop}(hr:SlR X r)(he:PE X e te)(hl:PO X lo tl)(hu:PO X hi th):PE X (.Subscript e (.Slice lo hi none p2) pos) (tSl r te tl th):=by
 intro pins s σ H Q I h;refine Subscript_ (thn (he pins s σ H _ I h) fun v s1 ⟨x,H1,I1,r1,q1⟩=> ?_);refine wpAny_Slice (thn (hl pins s1 σ H1 _ I1 q1) fun vl s2 ⟨l,H2,I2,pl,q2⟩=>thn (hu pins s2 σ H2 _ I2 q2) fun vu s3 ⟨u,H3,I3,pu,q3⟩=> ?_);rw [evalPart_none];refine yE ?_
 have I4:Inv X pins σ H3 { s3 with heap:=s3.heap.push { cls:= .type "slice",data:= .fields #[vl,vu,.none] } }:=I3.kept (t':=s3.toks) fun b ob q=>yC _ q
 obtain ⟨T,id,hT,ht,hg⟩:=hr pins { s3 with heap:=s3.heap.push { cls:= .type "slice",data:= .fields #[vl,vu,.none] } } σ H3 x v vl vu l u s3.heap.objs.size Q I4 r1 (Heap.IsSliceOf.new ..) pl pu q3
 show wpAny (model X.prog X.w) X.A (subscriptTail e (.Slice lo hi none p2) v (.ref s3.heap.objs.size)) (EP X pins σ Q) X.xe { s3 with heap:=s3.heap.push { cls:= .type "slice",data:= .fields #[vl,vu,.none] } }
 exact tail_any (ops:=[.ref s3.heap.objs.size,v]) ht hT hg (by with_unfolding_all rfl)
def jS(xs:List V)(lo hi:Option Int):List V:=(xs.drop (HT.sIx xs.length 0 lo)).take (HT.sIx xs.length xs.length hi - HT.sIx xs.length 0 lo)
theorem iH(xs:List V)(lo hi:Option Int):(jS xs lo hi).length<=xs.length:=by
 unfold jS;rw [Aa,List.length_drop];omega
def rSlT(K:A9):V->Option Int->Option Int->Hp->VK->Prop:=fun x lo hi H Q=>∃ a xs,x = .ref a/\SqT K H a xs /\
 ¬ (HT.sIx xs.length 0 lo=0/\HT.sIx xs.length xs.length hi=xs.length)/\∀ p,H p=none->Q (.ref p) (upd H p (.tup (jS xs lo hi)))
theorem sl_tup:SlR X (rSlT X.K):=by
 intro pins s σ H x v vl vu lo hi sl Q I rx hs pl pu h;obtain ⟨a,xs,rfl,hx,hw,q⟩:=h;cases rx;obtain ⟨its,r,ht,hz⟩:=I.tuple hx
 have hlen:its.toArray.size=xs.length:=by rw [yG];exact r.length.symm
 refine ⟨"tuple",_,PyProof.Rows.slot_tuple_getitem.lookup,ht.typeIs,?_⟩;refine HT.gI ht hs pl pu (by rw [hlen];exact hw) ?_ (by rw [hlen];exact hz);rw [hlen];refine ⟨.ref s.heap.objs.size,_,I.laid (t':=s.toks) (o:= .tup (jS xs lo hi)) (fun b ob q=>yC _ q) (yO _) ?_,rfl,q _ (I.hok.fresh (yO _))⟩;exact ⟨zu (iH xs lo hi) hz,_,(r.drop (HT.sIx xs.length 0 lo)).take (HT.sIx xs.length xs.length hi - HT.sIx xs.length 0 lo),mD.new _ _⟩
def rCatT(K:A9):R2:=fun x y H Q=>∃ a b xs ys,x = .ref a/\y = .ref b/\SqT K H a xs/\SqT K H b ys/\xs≠[]/\xs.length+ys.length<=sizeLine /\
 (ys=[]->Q (.ref a) H)/\(ys≠[]->∀ p,H p=none->Q (.ref p) (upd H p (.tup (xs++ys))))
theorem aq.nil_iff{xs:List V}{us:List Value}(r:aq xs us):us=[]↔xs=[]:=by
 cases r with
 | nil=>simp
 | cons _ _=>simp
theorem wA:OpR X (binaryOp .Add) (rCatT X.K):=by
 intro pins s σ H x y v u Q I rx ry h;obtain ⟨a,b,xs,ys,rfl,rfl,ha,hb,hx,hz,q1,q2⟩:=h;cases rx;cases ry;obtain ⟨its,r1,p1,_⟩:=I.tuple ha;obtain ⟨its2,r2,p2,_⟩:=I.tuple hb;refine HT.xo p1 p2 (fun z=>hx (r1.nil_iff.mp z)) (fun z=>⟨.ref a,H,I,rfl,q1 (r2.nil_iff.mp z)⟩) (fun z=> ?_) (by rw [<- r1.length,<- r2.length];exact hz);refine ⟨.ref s.heap.objs.size,_,I.laid (t':=s.toks) (o:= .tup (xs++ys)) (fun b ob q=>yC _ q) (yO _) ?_,rfl,q2 (fun w=>z (r2.nil_iff.mpr w)) _ (I.hok.fresh (yO _))⟩;exact ⟨by rw [yX];exact hz,_,r1.append r2,mD.new _ _⟩
end
def ixN(n:Nat)(i:Int):Option Nat:=if 0<=i then (if i < n then some i.toNat else none) else if -(n:Int)<=i then some (i+n).toNat else none
def atI{α:Type}(xs:List α)(i:Int):Option α:=(ixN xs.length i).bind fun j=>xs[j]?
theorem qj{n:Nat}{i:Int}{j:Nat}(h:ixN n i=some j):seqIndex? i n=some j/\j < n /\ -(n:Int)<=i/\i < n:=by
 unfold ixN at h
 by_cases h0:0<=i
 ·rw [if_pos h0] at h
  by_cases h1:i < n
  ·rw [if_pos h1] at h
   have e:i.toNat=j:=Option.some.inj h;exact ⟨by rw [seqIndex_of h0 h1,e],by omega,by omega,h1⟩
  ·rw [if_neg h1] at h;cases h
 ·rw [if_neg h0] at h
  by_cases h1 : -(n:Int)<=i
  ·rw [if_pos h1] at h
   have e:(i+n).toNat=j:=Option.some.inj h;exact ⟨by rw [seqIndex_neg (by omega) h1,e],by omega,h1,by omega⟩
  ·rw [if_neg h1] at h;cases h
theorem mC{α:Type}{xs:List α}{i:Int}{v:α}(h:atI xs i=some v):∃ j,seqIndex? i xs.length=some j/\xs[j]?=some v/\j < xs.length /\ -(xs.length:Int)<=i/\i < xs.length:=by
 unfold atI at h
 cases e:ixN xs.length i with
 | none=>rw [e] at h;cases h
 | some j =>
  rw [e] at h;obtain ⟨h1,h2,h3,h4⟩:=qj e;exact ⟨j,h1,h,h2,h3,h4⟩
def mF(b:Expr):Prop:=∀ o i,subscripted b false o i=operate [o,i] (getItem o i)
def IxR(X:Cx)(r:R2):Prop :=
 ∀ (value slice:Expr) (pins:List (Addr×Obj)) (s:Shared) (σ:St) (H:Hp) (x y:V) (v u:Value) (Q:VK),Inv X pins σ H s->ax x v->ax y u->r x y H Q ->
  subscripted slice false v u=operate [v,u] (getItem v u)->wpAny (model X.prog X.w) X.A (subscriptTail value slice v u) (EP X pins σ Q) X.xe s
def MtR(X:Cx)(id:String)(r:V->List V->Hp->VK->Prop):Prop :=
 ∀ (pins:List (Addr×Obj)) (s:Shared) (σ:St) (H:Hp) (x:V) (xs:List V) (v:Value) (us:List Value) (Q:VK),Inv X pins σ H s->ax x v->aq xs us->r x xs H Q ->
  wpAny (model X.prog X.w) X.A (call (.builtin id) (v::us)) (EP X pins σ Q) X.xe s
section
variable{X:Cx}{a b:Expr}{ta tb:TE}{pos:Pos}
theorem IxR.or{r r':R2}(h:IxR X r)(h':IxR X r'):IxR X (fun x y H Q=>r x y H Q\/r' x y H Q):=by
 intro value slice pins s σ H x y v u Q I rx ry q hs
 rcases q with q | q
 ·exact h value slice pins s σ H x y v u Q I rx ry q hs
 ·exact h' value slice pins s σ H x y v u Q I rx ry q hs
theorem yf{r:R2}(hr:IxR X r)(ha:PE X a ta)(hb:PE X b tb)(hs:mF b):PE X (.Subscript a b pos) (tOp r ta tb):=by
 intro pins s σ H Q I h;exact Subscript_ (binT ha hb I h fun v u s2 x y H2 I2 rx ry q=>hr a b pins s2 σ H2 x y v u Q I2 rx ry q (hs _ _))
def rIxL(K:A9):R2:=fun x y H Q=>∃ p xs i v,x = .ref p/\y = .int i/\SqL K H p xs/\atI xs i=some v/\Q v H
def rIxT(K:A9):R2:=fun x y H Q=>∃ p xs i v,x = .ref p/\y = .int i/\SqT K H p xs/\atI xs i=some v/\Q v H
def rIxS:R2:=fun x y H Q=>∃ z i c,x = .str z/\y = .int i/\z.length<=sizeLine/\atI z.cps.toList i=some c/\Q (.str ⟨#[c]⟩) H
theorem qi:IxR X (rIxL X.K):=by
 intro value slice pins s σ H x y v u Q I rx ry h hs;obtain ⟨p,xs,i,z,rfl,rfl,hq,he,q⟩:=h;cases rx;obtain ⟨t,rfl⟩:=ry;obtain ⟨its,r,pl,hz⟩:=I.list hq;obtain ⟨j,h1,h2,h3,h4,h5⟩:=mC he;obtain ⟨w,ew,rw'⟩:=r.get h2;have hl:=r.length;have hn:=ia;have fin:EP X pins σ Q w s:=⟨z,H,I,rw',q⟩
 by_cases h0:0<=i
 ·have hj:i.toNat=j:=by
   rw [seqIndex_of h0 h5] at h1;exact Option.some.inj h1
  exact item_listR pl.isList h0 (by omega) (by rw [hj];simpa using ew) fin hs
 ·have hj:(i+(its.toArray.size:Int)).toNat=j:=by
   rw [seqIndex_neg (by omega) h4] at h1;rw [yG,<- hl];exact Option.some.inj h1
  exact subscriptTail_builtinR (x:=w) pl.isList.typeIs slot_list_getitem.lookup
   (wpAny_getItem_list_neg (Q:=fun r s'=>r=w/\EP X pins σ Q r s') pl.isList (by omega) (by rw [yG]<;>omega) (by omega) (by rw [hj];simpa using ew) ⟨rfl,fin⟩) hs
theorem ix_tup:IxR X (rIxT X.K):=by
 intro value slice pins s σ H x y v u Q I rx ry h hs;obtain ⟨p,xs,i,z,rfl,rfl,hq,he,q⟩:=h;cases rx;obtain ⟨t,rfl⟩:=ry;obtain ⟨its,r,pl,hz⟩:=I.tuple hq;obtain ⟨j,h1,h2,h3,h4,h5⟩:=mC he;obtain ⟨w,ew,rw'⟩:=r.get h2;have hl:=r.length;have hn:=ia;have fin:EP X pins σ Q w s:=⟨z,H,I,rw',q⟩
 exact subscriptTail_builtinR (x:=w) pl.typeIs slot_tuple_getitem.lookup
  (getItem_tuple (j:=j) (Q:=fun r s'=>r=w/\EP X pins σ Q r s') pl (by omega) (by omega) (by rw [yG,<- hl];exact h1) (by simpa using ew) ⟨rfl,fin⟩) hs
theorem ix_str:IxR X rIxS:=by
 intro value slice pins s σ H x y v u Q I rx ry h hs;obtain ⟨z,i,c,rfl,rfl,hz,he,q⟩:=h;obtain ⟨t,rfl⟩:=rx;obtain ⟨t',rfl⟩:=ry;obtain ⟨j,h1,h2,h3,h4,h5⟩:=mC he
 have hl:z.cps.toList.length=z.length:=by simp [Str.length]
 rw [hl] at h1 h4 h5;have hn:=ia
 exact tail_any (typeIs_str s z t) slot_str_getitem.lookup (getItem_str (c:=c) (by
  have e1:decide (i < -(2 ^ 63:Int))=false:=zd (by omega);have e2:decide (i>=2 ^ 63)=false:=zd (by omega)
  rw [e1,e2,Au]) (by rw [h1];simpa using h2) ⟨.str ⟨#[c]⟩,H,I.tok _,⟨_,rfl⟩,q⟩) hs
def rIx(K:A9):R2:=fun x y H Q=>rIxL K x y H Q\/rIxT K x y H Q\/rIxS x y H Q
theorem ix_seq:IxR X (rIx X.K):=qi.or (ix_tup.or ix_str)
theorem oU(its:List Value)(n j:Nat)(u:Value):Obj.mapSeq (·.setIfInBounds j u) { cls:= .type "list",data:= .seq its.toArray n }={ cls:= .type "list",data:= .seq (its.set j u).toArray n }:=by
 simp [Obj.mapSeq]
theorem Inv.lst{pins:List (Addr×Obj)}{σ:St}{H:Hp}{s:Shared}{p:Addr}{xs:List V}(I:Inv X pins σ H s)(h:H p=some (.lst xs)) :
 ∃ (its:List Value) (n:Nat),aq xs its/\s.heap.get? p=some { cls:= .type "list",data:= .seq its.toArray n }/\xs.length<=sizeLine:=by
 obtain ⟨z,its,n,r,e⟩:=I.hok p _ h;exact ⟨its,n,r,e,z⟩
theorem Inv.lstUpd{pins:List (Addr×Obj)}{σ:St}{H:Hp}{s:Shared}{p:Addr}{xs ys:List V}{its its':List Value}{n n':Nat}{f:Obj->Obj}(I:Inv X pins σ H s)(h:H p=some (.lst xs))
 (ho:s.heap.get? p=some { cls:= .type "list",data:= .seq its.toArray n }) (hf:f { cls:= .type "list",data:= .seq its.toArray n }={ cls:= .type "list",data:= .seq its'.toArray n' }) (r:aq ys its') (hz:ys.length<=sizeLine) (t:Nat) :
 Inv X pins σ (upd H p (.lst ys)) { s with heap:=s.heap.update p f,toks:=t }:=by
 have e:(s.heap.update p f).get? p=some { cls:= .type "list",data:= .seq its'.toArray n' }:=by
  rw [Ab f ho (by rw [hf]<;>rfl),hf]
 refine I.write (x:=p) (e:=p) (by rw [h];trivial) (.inl rfl) (fun b u hb q=>(zY _ _ (Ne.symm hb)).trans q) ⟨_,e⟩ ?_;exact ⟨hz,its',n',r,e⟩
def xX:V->V->V->Hp->(Hp->Prop)->Prop:=fun o i v H Q=>∃ p xs k j,o = .ref p/\i = .int k/\H p=some (.lst xs)/\ixN xs.length k=some j/\Q (upd H p (.lst (xs.set j v)))
theorem sO:PSet X xX:=by
 intro pins s σ H o i v ov iv u Q I ro ri rv h;obtain ⟨p,xs,k,j,rfl,rfl,hp,hj,q⟩:=h;cases ro;obtain ⟨t,rfl⟩:=ri;obtain ⟨its,n,r,ho,hz⟩:=I.lst hp;obtain ⟨h1,h2,h3,h4⟩:=qj hj;have hl:=r.length;have hn:=ia
 have I':Inv X pins σ (upd H p (.lst (xs.set j v))) { s with heap:=s.heap.update p (Obj.mapSeq (·.setIfInBounds j u)) } :=
  I.lstUpd hp ho (oU its n j u) (r.set rv j) (by rw [zz];exact hz) s.toks
 by_cases h0:0<=k
 ·have hk:k.toNat=j:=by
   rw [seqIndex_of h0 h4] at h1;exact Option.some.inj h1
  exact PySem.W.ki_setAt ho h0 (by omega) (by rw [yG,<- hl];exact h4) (by rw [hk];exact ⟨_,I',q⟩)
 ·have hk:(k+(its.toArray.size:Int)).toNat=j:=by
   rw [seqIndex_neg (by omega) h3] at h1;rw [yG,<- hl];exact Option.some.inj h1
  exact PySem.W.ki_setBack ho (by omega) (by rw [yG,<- hl];exact h3) (by omega) (by rw [hk];exact ⟨_,I',q⟩)
theorem lG(lo hi:Option Int)(n:Nat):(sliceBounds lo hi none n).1=((HT.sIx n 0 lo:Nat):Int)/\(sliceBounds lo hi none n).2.1=((HT.sIx n n hi:Nat):Int)/\(sliceBounds lo hi none n).2.2=1:=by
 refine ⟨?_,?_,rfl⟩
 ·cases lo with
  | none=>simp [sliceBounds,HT.sIx]
  | some i =>
   simp only [sliceBounds,HT.sIx,Option.getD_none,show (1:Int) > 0 by decide,if_true]
   by_cases h:i < 0
   ·simp only [h,if_true]<;>omega
   ·simp only [h,if_false]<;>omega
 ·cases hi with
  | none=>simp [sliceBounds,HT.sIx]
  | some i =>
   simp only [sliceBounds,HT.sIx,Option.getD_none,show (1:Int) > 0 by decide,if_true]
   by_cases h:i < 0
   ·simp only [h,if_true]<;>omega
   ·simp only [h,if_false]<;>omega
theorem kj(its:List Value)(lo hi:Option Int):slicePick its.toArray lo hi none=((its.drop (HT.sIx its.length 0 lo)).take (HT.sIx its.length its.length hi - HT.sIx its.length 0 lo)).toArray:=by
 obtain ⟨h1,h2,h3⟩:=lG lo hi its.toArray.size;unfold slicePick;rw [h1,h2,h3]
 simp only [sliceRange_one,pick_run,yG]<;>rfl
def rSlL(K:A9):V->Option Int->Option Int->Hp->VK->Prop:=fun x lo hi H Q=>∃ a xs,x = .ref a/\SqL K H a xs/\∀ p,H p=none->Q (.ref p) (upd H p (.lst (jS xs lo hi)))
theorem vQ:SlR X (rSlL X.K):=by
 intro pins s σ H x v vl vu lo hi sl Q I rx hs pl pu h;obtain ⟨a,xs,rfl,hx,q⟩:=h;cases rx;obtain ⟨its,r,ht,hz⟩:=I.list hx;have hlen:=r.length;refine ⟨"list",_,slot_list_getitem.lookup,ht.isList.typeIs,?_⟩;refine wpAny_getItem_list_slice ht.isList hs pl pu .none (by simp) ?_ (by rw [yG]<;>omega);rw [kj,<- hlen];refine ⟨.ref s.heap.objs.size,_,I.laid (t':=s.toks) (o:= .lst (jS xs lo hi)) (fun b ob q=>yC _ q) (yO _) ?_,rfl,q _ (I.hok.fresh (yO _))⟩;exact ⟨zu (iH xs lo hi) hz,_,0,(r.drop (HT.sIx xs.length 0 lo)).take (HT.sIx xs.length xs.length hi - HT.sIx xs.length 0 lo),yQ _ rfl⟩
def ez:V->Bool
 | .non=>true
 | .bl _=>true
 | .int _=>true
 | .str _=>true
 | _=>false
def eqV:V->V->Bool
 | .non,.non=>true
 | .bl a,.bl b=>a == b
 | .bl a,.int b=>(if a then 1 else 0) == b
 | .int a,.bl b=>a == (if b then 1 else 0)
 | .int a,.int b=>a == b
 | .str a,.str b=>a == b
 | _,_=>false
theorem eqAt_V{A:Around}{s:Shared}{y x:V}{u v:Value}(ry:ax y u)(rx:ax x v)(fy:ez y=true)(fx:ez x=true):SeqAt.EqAt A s u v (eqV y x):=by
 cases y with
 | non =>
  cases ry
  cases x with
  | non=>cases rx;exact SeqAt.EqAt.same _
  | bl b=>cases rx;exact SeqAt.EqAt.none_bool b
  | int b=>obtain ⟨t,rfl⟩:=rx;exact SeqAt.EqAt.none_int b t
  | str b=>obtain ⟨t,rfl⟩:=rx;exact SeqAt.EqAt.none_str b t
  | _=>exact absurd (show false=true from fx) yJ
 | bl a =>
  cases ry
  cases x with
  | non=>cases rx;exact SeqAt.EqAt.bool_none a
  | bl b=>cases rx;exact SeqAt.EqAt.bool_bool a b
  | int b=>obtain ⟨t,rfl⟩:=rx;exact SeqAt.EqAt.bool_int a b t
  | str b=>obtain ⟨t,rfl⟩:=rx;exact SeqAt.EqAt.bool_str a b t
  | _=>exact absurd (show false=true from fx) yJ
 | int a =>
  obtain ⟨t',rfl⟩:=ry
  cases x with
  | non=>cases rx;exact SeqAt.EqAt.int_none a t'
  | bl b=>cases rx;exact SeqAt.EqAt.int_bool a t' b
  | int b=>obtain ⟨t,rfl⟩:=rx;exact SeqAt.EqAt.int_int a t' b t
  | str b=>obtain ⟨t,rfl⟩:=rx;exact SeqAt.EqAt.int_str a t' b t
  | _=>exact absurd (show false=true from fx) yJ
 | str a =>
  obtain ⟨t',rfl⟩:=ry
  cases x with
  | non=>cases rx;exact SeqAt.EqAt.str_none a t'
  | bl b=>cases rx;exact SeqAt.EqAt.str_bool a t' b
  | int b=>obtain ⟨t,rfl⟩:=rx;exact SeqAt.EqAt.str_int a t' b t
  | str b=>obtain ⟨t,rfl⟩:=rx;exact SeqAt.EqAt.str_str a t' b t
  | _=>exact absurd (show false=true from fx) yJ
 | _=>exact absurd (show false=true from fy) yJ
def eqU(x:V)(u:Value):Bool:=match u with
 | .none=>eqV .non x
 | .bool b=>eqV (.bl b) x
 | .int i _=>eqV (.int i) x
 | .str z _=>eqV (.str z) x
 | _=>false
theorem pc{x y:V}{u:Value}(r:ax y u)(f:ez y=true):eqU x u=eqV y x:=by
 cases y with
 | non=>cases r;rfl
 | bl b=>cases r;rfl
 | int i=>obtain ⟨t,rfl⟩:=r;rfl
 | str z=>obtain ⟨t,rfl⟩:=r;rfl
 | _=>exact absurd (show false=true from f) yJ
theorem jC{A:Around}{s:Shared}{x:V}{v:Value}(rx:ax x v)(fx:ez x=true):∀ {xs:List V} {us:List Value},aq xs us->xs.all ez=true->∀ u∈us,SeqAt.EqAt A s u v (eqU x u)
 | _,_,.nil,_=>fun u hu=>by cases hu
 | y::xs,u::us,.cons r t,f=>fun u' hu=>by
  rw [List.all_cons,yY] at f
  rcases yP.mp hu with rfl | hu
  ·rw [pc r f.1];exact eqAt_V r rx f.1 fx
  ·exact jC rx fx t f.2 u' hu
theorem mw:aE X (.builtin "len") (fun xs H Q=>∃ p ys,xs=[.ref p]/\(SqL X.K H p ys\/SqT X.K H p ys)/\Q (.int ys.length) H):=by
 intro pins s σ H xs us Q I r h;obtain ⟨p,ys,rfl,hq,q⟩:=h;obtain ⟨u,rfl,rx⟩:=bN r;cases rx;have hn:=ia
 rcases hq with hq | hq
 ·obtain ⟨its,r',pl,hz⟩:=I.list hq
  have hlen:=r'.length;exact Calls.call_len_list pl.isList (by simp only [yG]<;>omega) ⟨.int ys.length,H,I.tok _,⟨s.toks+1,by rw [yG,hlen]⟩,q⟩
 ·obtain ⟨its,r',pl,hz⟩:=I.tuple hq
  have hlen:=r'.length;exact len_tuple pl (by simp only [yG]<;>omega) ⟨.int ys.length,H,I.tok _,⟨s.toks+1,by rw [yG,hlen]⟩,q⟩
theorem aE.or{f:Value}{r r':List V->Hp->VK->Prop}(h:aE X f r)(h':aE X f r'):aE X f (fun xs H Q=>r xs H Q\/r' xs H Q):=by
 intro pins s σ H xs us Q I rs q
 rcases q with q | q
 ·exact h pins s σ H xs us Q I rs q
 ·exact h' pins s σ H xs us Q I rs q
theorem mr:aE X (.type "list") (fun xs H Q=>∃ p ys,xs=[.ref p]/\(SqL X.K H p ys\/SqT X.K H p ys)/\∀ l,H l=none->Q (.ref l) (upd H l (.lst ys))):=by
 intro pins s σ H xs us Q I r h;obtain ⟨p,ys,rfl,hq,q⟩:=h;obtain ⟨u,rfl,rx⟩:=bN r;cases rx
 have fin:∀ (its:List Value),aq ys its->ys.length<=sizeLine->∀ (h':Heap) (c':Nat),(∀ b o',s.heap.get? b=some o'->h'.get? b=some o') ->
  h'.get? s.heap.objs.size=some { cls:= .type "list",dict:=none,data:= .seq its.toArray c',slots := #[] }->EP X pins σ Q (.ref s.heap.objs.size) { s with heap:=h' }:=fun its r' hz h' c' kp e =>
  ⟨.ref s.heap.objs.size,_,I.laid (t':=s.toks) kp (yO _) (show aX X.prog X.w _ h' _ (.lst ys) from ⟨hz,its,c',r',e⟩),rfl,q _ (I.hok.fresh (yO _))⟩
 rcases hq with hq | hq
 ·obtain ⟨its,r',pl,hz⟩:=I.list hq
  have hlen:=r'.length;obtain ⟨o,ho,hc,n,hd⟩:=pl.isList;exact call_list_seq p (.inl rfl) ho hc hd (fun h' c' kp e=>fin its r' hz h' c' kp e) (by simp only [yG]<;>omega)
 ·obtain ⟨its,r',pl,hz⟩:=I.tuple hq
  have hlen:=r'.length;obtain ⟨o,ho,hc,n,hd⟩:=pl;exact call_list_seq p (.inr rfl) ho hc hd (fun h' c' kp e=>fin its r' hz h' c' kp e) (by simp only [yG]<;>omega)
theorem ky:aE X (.type "tuple") (fun xs H Q=>∃ p ys,xs=[.ref p]/\((SqL X.K H p ys/\∀ l,H l=none->Q (.ref l) (upd H l (.tup ys)))\/(SqT X.K H p ys/\Q (.ref p) H))):=by
 intro pins s σ H xs us Q I r h;obtain ⟨p,ys,rfl,h⟩:=h;obtain ⟨u,rfl,rx⟩:=bN r;cases rx
 rcases h with ⟨hq,q⟩ | ⟨hq,q⟩
 ·obtain ⟨its,r',pl,hz⟩:=I.list hq
  have hlen:=r'.length;refine call_tuple_list pl.isList (fun h' kp=> ?_) (by simp only [yG]<;>omega);have I1:Inv X pins σ H { s with heap:=h' }:=I.kept (t':=s.toks) kp
  have I2:Inv X pins σ (upd H h'.objs.size (.tup ys)) { s with heap:=h'.push { cls:= .type "tuple",data:= .seq its.toArray } } :=
   I1.laid (t':=s.toks) (fun b o e=>yC _ e) (yO _) (show aX X.prog X.w _ _ _ (.tup ys) from ⟨hz,its,r',mD.new _ _⟩)
  exact ⟨.ref h'.objs.size,_,I2,rfl,q _ (I1.hok.fresh (yO _))⟩
 ·obtain ⟨its,r',pl,hz⟩:=I.tuple hq
  exact call_tuple_same pl ⟨.ref p,H,I,rfl,q⟩
def tyV(K:A9)(T:String)(x:V)(H:Hp):Prop:=match x with
 | .str _=>T = "str"
 | .int _=>T = "int"
 | .ref p=>(T = "list" /\ ∃ xs,SqL K H p xs)\/(T = "tuple" /\ ∃ o,K.lookup p=some o/\o.cls = .type "tuple" /\ o.dict=none) \/
  (T = "dict" /\ ((∃ kvs,H p=some (.dK kvs))\/∃ kvs,H p=some (.dT kvs)))\/(T = "set" /\ ∃ S n,H p=some (.set S n))
 | _=>False
theorem tyV_is{pins:List (Addr×Obj)}{σ:St}{H:Hp}{s:Shared}{T:String}{x:V}{v:Value}(I:Inv X pins σ H s)(r:ax x v)(ty:tyV X.K T x H) :
 s.TypeIs v T/\∀ a,v = .ref a->∃ ob,s.heap.get? a=some ob/\ob.dict=none:=by
 cases x with
 | str z =>
  obtain ⟨t,rfl⟩:=r;cases (show T = "str" from ty);exact ⟨typeIs_str s z t,fun _ e=>nomatch e⟩
 | int i =>
  obtain ⟨t,rfl⟩:=r;cases (show T = "int" from ty);exact ⟨typeIs_int s i t,fun _ e=>nomatch e⟩
 | ref p =>
  cases r
  rcases ty with ⟨rfl,xs,hq⟩ | ⟨rfl,o,hk,hc,hd⟩ | ⟨rfl,hk⟩ | ⟨rfl,S,n,hk⟩
  ·obtain ⟨its,_,pl,_⟩:=I.list hq
   refine ⟨pl.isList.typeIs,fun a e=> ?_⟩;cases e;obtain ⟨o,n,e,c,hd,_⟩:=pl;exact ⟨o,e,hd⟩
  ·refine ⟨⟨o,I.kIn p o hk,hc⟩,fun a e=> ?_⟩
   cases e;exact ⟨o,I.kIn _ o hk,hd⟩
  ·have z:∃ o,s.heap.get? p=some o/\o.ExactDict:=by
    rcases hk with ⟨kvs,hk⟩ | ⟨kvs,hk⟩
    ·obtain ⟨_,_,_,_,o,_,_,e,ex,_⟩:=I.hok p _ hk
     exact ⟨o,e,ex⟩
    ·obtain ⟨_,_,_,_,o,_,_,e,ex,_⟩:=I.hok p _ hk
     exact ⟨o,e,ex⟩
   obtain ⟨o,e,ex⟩:=z;refine ⟨⟨o,e,ex.1⟩,fun a e2=> ?_⟩;cases e2;exact ⟨o,e,ex.2.1⟩
  ·obtain ⟨o,_,_,_,e,ex,_⟩:=I.hok p _ hk
   refine ⟨⟨o,e,ex.1⟩,fun a e2=> ?_⟩;cases e2;exact ⟨o,e,ex.2.1⟩
 | _=>exact False.elim ty
def tBM(K:A9)(T:String)(r:V->List V->Hp->VK->Prop)(to:TE)(t:TA):TE:=fun σ H Q=>to σ H fun x H1=>tyV K T x H1/\t σ H1 fun xs H2=>r x xs H2 Q
variable{o e:Expr}{es:List Expr}{to:TE}{t:TA}{name:Str}{apos cpos:Pos}{T id:String}{r:V->List V->Hp->VK->Prop}
theorem qb(pa:PlainAttrs T)(slot:Slot T name id)(hty:typeOf (.builtin id)=pure (.type "method_descriptor"))(hm:MtR X id r)(ho:PE X o to)(ha:PA X (e::es) t)
 (hbase:attributeBase o name X.env (eval o X.env)=eval o X.env:=by rfl)
 (hfew:((backTo cpos (starEach (e::es) X.env)).all (fun x => !x.1)&&(backToKw cpos (keywordEach [] X.env)).all (fun x=>x.1.isSome)
   && decide ((e::es).length+([]:List Keyword).length+(if ([]:List Keyword).isEmpty then 0 else 1) < 30))=true:=by rfl)
 (hline:(apos.endLine == cpos.line)=true:=by rfl) (hs:starEach (e::es) X.env=(false,eval e X.env)::starEach es X.env:=by rfl) (hplain:(backTo cpos (starEach es X.env)).any (·.1)=false:=by rfl) :
 PE X (.Call (.Attribute o name apos) (e::es) [] cpos) (tBM X.K T r to t):=by
 intro pins s σ H Q I h;refine wpAny_Call_method_late hbase hfew hline rfl (thn (ho pins s σ H _ I h) fun v s1 ⟨x,H1,I1,r1,ty,q1⟩=> ?_);obtain ⟨h1,h2⟩:=tyV_is I1 r1 ty;refine ⟨T,id,pa,slot,hty,h1,h2,?_⟩;have hA:=ha cpos pins s1 σ H1 _ I1 q1;rw [hs] at hA ⊢;refine Calls.callWith_builtin (by show (false||(backTo cpos (starEach es X.env)).any (·.1))=false;rw [hplain]<;>rfl) (Calls.evalArgs_plain ?_)
 exact thn hA fun us s2 ⟨vs,H2,I2,r2,q2⟩=>hm pins s2 σ H2 x vs v us Q I2 r1 r2 q2
end
def MtM(X:Cx)(id:String)(r:V->List V->Hp->VK->Prop):Prop :=
 ∀ (pins:List (Addr×Obj)) (s:Shared) (σ:St) (H:Hp) (x:V) (xs:List V) (v:Value) (us:List Value) (Q:VK),Inv X pins σ H s->ax x v->aq xs us->r x xs H Q ->
  wpAny (model X.prog X.w) X.A (call (.builtin id) (v::us)) (EP X pins σ Q) X.xe s
theorem aq.one:∀ {x:V} {us:List Value},aq [x] us->∃ u,us=[u]/\ax x u
 | _,_,.cons r .nil=>⟨_,rfl,r⟩
theorem aq.eraseIdx:∀ {xs:List V} {us:List Value} (i:Nat),aq xs us->aq (xs.eraseIdx i) (us.eraseIdx i)
 | _,_,_,.nil=> .nil
 | _,_,0,.cons _ t=>t
 | _,_,i+1,.cons r t=> .cons r (aq.eraseIdx i t)
theorem aq.reverse{xs:List V}{us:List Value}(h:aq xs us):aq xs.reverse us.reverse:=by
 induction h with
 | nil=>exact .nil
 | cons r t ih=>rw [List.reverse_cons,List.reverse_cons];exact aq.append ih (.cons r .nil)
theorem aq.rep{xs:List V}{us:List Value}(h:aq xs us):∀ k:Nat,aq (List.replicate k xs).flatten (List.replicate k us).flatten
 | 0=> .nil
 | k+1=>by
  rw [zD,zD,Ar,Ar];exact aq.append h (aq.rep h k)
theorem kR{α:Type}:∀ (l:List α) (i:Nat),(l.eraseIdx i).length<=l.length
 | [],_=>yO _
 | _::_,0=>AH _
 | _::r,i+1=>Nat.succ_le_succ (kR r i)
theorem lg(its:List Value):∀ (k:Nat) (acc:List Value),
 List.foldl (fun x1 x2=>x1++x2) acc.toArray (List.replicate k its.toArray)=(acc++(List.replicate k its).flatten).toArray
 | 0,acc=>by simp
 | k+1,acc=>by
  have e:acc.toArray++its.toArray=(acc++its).toArray:=by simp
  have e2:(acc++its)++(List.replicate k its).flatten=acc++(List.replicate (k+1) its).flatten:=by
   rw [zD,Ar,List.append_assoc]
  rw [<- e2,<- lg its k (acc++its),<- e,zD,List.foldl_cons]
section
variable{X:Cx}{pins:List (Addr×Obj)}{σ:St}{H:Hp}{s:Shared}{l b:Addr}{xs ys zs:List V}
theorem Inv.lset{its its':List Value}{n:Nat}{f:Array Value->Array Value}{t':Nat}(I:Inv X pins σ H s)(hH:H l=some (.lst xs))
 (e:s.heap.get? l=some { cls:= .type "list",data:= .seq its.toArray n }) (hf:f its.toArray=its'.toArray) (hv:aq ys its') (hz:ys.length<=sizeLine) :
 Inv X pins σ (upd H l (.lst ys)) { s with heap:=s.heap.update l (Obj.mapSeq f),toks:=t' }:=by
 have q:=PySem.IsL.update e f;rw [hf] at q;refine I.write (x:=l) (e:=l) (by rw [hH];exact trivial) (.inl rfl) (fun b' u hb hu=>(zY s.heap (Obj.mapSeq f) (Ne.symm hb)).trans hu) ⟨_,q⟩ ?_;exact ⟨hz,its',_,hv,q⟩
theorem Inv.lnew{its:List Value}{t':Nat}(I:Inv X pins σ H s)(hv:aq ys its)(hz:ys.length<=sizeLine) :
 Inv X pins σ (upd H s.heap.objs.size (.lst ys)) { s with heap:=s.heap.push { cls:= .type "list",data:= .seq its.toArray },toks:=t' } :=
 I.laid (fun _ _ q=>yC _ q) (yO _) ⟨hz,its,0,hv,yQ _ rfl⟩
theorem Inv.fresh(I:Inv X pins σ H s):H s.heap.objs.size=none:=I.hok.fresh (yO _)
theorem Inv.lstM(I:Inv X pins σ H s)(hH:H l=some (.lst xs)):xs.length<=sizeLine/\∃ (its:List Value) (n:Nat),aq xs its/\xs.length=its.length/\s.heap.get? l=some { cls:= .type "list",data:= .seq its.toArray n }:=by
 obtain ⟨z,its,n,r,e⟩:=I.hok l _ hH;exact ⟨z,its,n,r,r.length,e⟩
theorem nz{n:Nat}(h:n<=sizeLine):Builtin.List.listTooLong n=false:=by
 unfold Builtin.List.listTooLong;exact zd (by omega)
end
section
variable{X:Cx}
def pY:V->List V->Hp->VK->Prop:=fun x vs H Q=>∃ l xs y,x = .ref l/\vs=[y]/\H l=some (.lst xs)/\xs.length < sizeLine/\Q .non (upd H l (.lst (xs++[y])))
theorem kO:MtM X "list.append" pY:=by
 intro pins s σ H x vs v us Q I rx rv h;obtain ⟨l,xs,y,rfl,rfl,hH,hz,q⟩:=h;cases rx;obtain ⟨u,rfl,ru⟩:=rv.one;obtain ⟨z,its,n,r,hl,e⟩:=I.lstM hH;refine call_meets F.slot_list_append ⟨_,e,rfl⟩ F.entry_list_append (F.args_list_append_2 _ _) (PySem.list_append l its.toArray n u (by rw [yG];omega)) ⟨e,?_⟩;refine ⟨.non,_,I.lset (its':=its++[u]) hH e (by simp) (r.append (.cons ru .nil)) ?_,rfl,q⟩;rw [yX,List.length_singleton];omega
def v9:V->List V->Hp->VK->Prop:=fun x vs H Q=>∃ l b xs zs,x = .ref l/\vs=[.ref b]/\H l=some (.lst xs)/\H b=some (.lst zs)/\xs.length+zs.length<=sizeLine/\Q .non (upd H l (.lst (xs++zs)))
theorem mt_extend:MtM X "list.extend" v9:=by
 intro pins s σ H x vs v us Q I rx rv h;obtain ⟨l,b,xs,zs,rfl,rfl,hH,hB,hz,q⟩:=h;cases rx;obtain ⟨u,rfl,ru⟩:=rv.one;cases ru;obtain ⟨z,its,n,r,hl,e⟩:=I.lstM hH;obtain ⟨z2,its2,n2,r2,hl2,e2⟩:=I.lstM hB
 have hsz:its.toArray.size+its2.toArray.size<=sizeLine:=by rw [yG,yG];omega
 have hlong:¬ (!its.toArray.isEmpty&&Builtin.List.listTooLong (its.toArray.size+its2.toArray.size))=true:=by
  rw [nz hsz,zU];exact yJ
 refine call_meets F.slot_list_extend ⟨_,e,rfl⟩ F.entry_list_extend (F.args_list_extend_2 _ _)
  (AutoSeq1.list_extend_list_list_0 l its.toArray n b its2.toArray n2 hlong (by rw [yG];omega) (by omega)) ⟨e,e2,?_⟩
 refine ⟨.non,_,I.lset (its':=its++its2) hH e (by simp) (r.append r2) ?_,rfl,q⟩;rw [yX];omega
def tf:V->List V->Hp->VK->Prop:=fun x vs H Q=>∃ l xs i k y,x = .ref l/\vs=[.int i]/\H l=some (.lst xs) /\ -(2 ^ 63)<=i/\i < 2 ^ 63/\seqIndex? i xs.length=some k/\xs[k]?=some y/\Q y (upd H l (.lst (xs.eraseIdx k)))
theorem ul:MtM X "list.pop" tf:=by
 intro pins s σ H x vs v us Q I rx rv h;obtain ⟨l,xs,i,k,y,rfl,rfl,hH,h1,h2,hk,hy,q⟩:=h;cases rx;obtain ⟨u,rfl,ru⟩:=rv.one;obtain ⟨t,rfl⟩:=ru;obtain ⟨z,its,n,r,hl,e⟩:=I.lstM hH;obtain ⟨w,hw,rw'⟩:=r.get hy
 refine call_meets F.slot_list_pop ⟨_,e,rfl⟩ F.entry_list_pop (F.args_list_pop_2 _ _)
  (MeetsSeq.list_pop_at l its.toArray n i t k w (fitsIndex_both h1 h2) (by rw [yG,<- hl];exact hk) (by rw [<- Ap];exact hw) (by rw [yG];omega)) ⟨e,?_⟩
 refine ⟨y,_,I.lset (its':=its.eraseIdx k) hH e ?_ (r.eraseIdx k) ?_,rw',q⟩
 ·show its.toArray.eraseIdxIfInBounds k=(its.eraseIdx k).toArray
  rw [List.eraseIdxIfInBounds_toArray]
 ·have:=kR xs k
  omega
def rCat:R2:=fun x y H Q=>∃ l b xs zs,x = .ref l/\y = .ref b/\H l=some (.lst xs)/\H b=some (.lst zs)/\xs.length+zs.length<=sizeLine/\∀ p,H p=none->Q (.ref p) (upd H p (.lst (xs++zs)))
theorem ug:OpR X (binaryOp .Add) rCat:=by
 intro pins s σ H x y v u Q I rx ry h;obtain ⟨l,b,xs,zs,rfl,rfl,hH,hB,hz,q⟩:=h;cases rx;cases ry;obtain ⟨z,its,n,r,hl,e⟩:=I.lstM hH;obtain ⟨z2,its2,n2,r2,hl2,e2⟩:=I.lstM hB;refine PySem.P.add_list e e2 ?_ (by rw [yG,yG];omega)
 have ea:its.toArray++its2.toArray=(its++its2).toArray:=by simp
 rw [ea];exact ⟨.ref _,_,I.lnew (t':=s.toks) (r.append r2) (by rw [yX];omega),rfl,q _ I.fresh⟩
def rRep:R2:=fun x y H Q=>∃ l k xs,x = .ref l/\y = .int k/\H l=some (.lst xs) /\ -(2 ^ 63)<=k/\k < 2 ^ 63/\xs.length * k.toNat<=sizeLine /\
 ∀ p,H p=none->Q (.ref p) (upd H p (.lst (List.replicate k.toNat xs).flatten))
theorem wK{α:Type}(xs:List α)(k:Nat):(List.replicate k xs).flatten.length=k * xs.length:=by
 induction k with
 | zero=>simp
 | succ k ih=>rw [zD,Ar,yX,ih,Nat.succ_mul,Nat.add_comm]
theorem op_rep:OpR X (binaryOp .Mult) rRep:=by
 intro pins s σ H x y v u Q I rx ry h;obtain ⟨l,k,xs,rfl,rfl,hH,h1,h2,hz,q⟩:=h;cases rx;obtain ⟨t,rfl⟩:=ry;obtain ⟨z,its,n,r,hl,e⟩:=I.lstM hH
 have hlen:its.toArray.size * k.toNat<=sizeLine:=by rw [yG,<- hl];exact hz
 have hcap:¬ its.toArray.size * k.toNat > (2 ^ 63 - 1) / 8:=by
  have:(sizeLine:Nat)<=(2 ^ 63 - 1) / 8:=by decide
  omega
 have hfit:¬ (!Builtin.List.listFitsIndex k)=true:=by
  rw [fitsIndex_both h1 h2];exact yJ
 have hlong:¬ Builtin.List.listTooLong (its.toArray.size * k.toNat)=true:=by
  rw [nz hlen];exact yJ
 have hnew:List.foldl (fun x1 x2=>x1++x2) #[] (List.replicate (if its.toArray.isEmpty=true then 0 else k.toNat) its.toArray)=(List.replicate k.toNat its).flatten.toArray:=by
  have f0:∀ m:Nat,List.foldl (fun x1 x2=>x1++x2) #[] (List.replicate m its.toArray)=(List.replicate m its).flatten.toArray:=fun m=>by
   have:=lg its m [];rw [zQ] at this;exact this
  rw [f0]
  cases its with
  | nil=>simp
  | cons a r'=>rw [if_neg (by simp)]
 refine wpAny_binaryOp_repeat_ref (T := "list") (U := "int") (by decide) ⟨_,e,rfl⟩ (fun s'=>typeIs_int s' k t) noFill_list_mul F.fills_int_mul F.slot_int_rmul repeat_list F.slot_int_index.lookup
  (call_meets F.slot_int_rmul (typeIs_int s k t) F.entry_int_rmul (F.args_int_rmul_2 _ _) (int___rmul___int_list k t l its.toArray n)
    ⟨e,rfl,⟨_,e,rfl⟩,call_meets F.slot_list_mul ⟨_,e,rfl⟩ F.entry_list_mul (F.args_list_mul_2 _ _) (AutoListH.list___mul___list_int_3 l its.toArray n k t hfit hcap hlong) ⟨e,?_⟩⟩)
 rw [hnew];exact ⟨.ref _,_,I.lnew (t':=s.toks) (r.rep k.toNat) (by rw [wK,Nat.mul_comm];exact hz),rfl,q _ I.fresh⟩
end
section
variable{prog:Program}{w:World}{A:Around}{E:Value->Shared->Prop}{s:Shared}
end
section
variable{X:Cx}
end
end L2
namespace Att
open PySem PySem.W PySem.Calls PyProof.Rows
theorem iP{P:Params}{h:Heap}:∀ (ns:List Int) (vs:List Value),WellAll P h vs (ns.map WData.int)->IntsAre vs ns:=by
 intro ns
 induction ns with
 | nil =>
  intro vs w;rw [An] at w;cases w;exact .nil
 | cons n ns ih =>
  intro vs w;rw [yW] at w
  cases w with
  | cons a b =>
   cases a;exact .cons _ _ (ih _ b)
theorem qG{l:OpenLaw}{n:Nat}(hn:l.most=some n){P:Params}{h:Heap}{args:List WData}{vals:List Value}
 (hpre:l.row.toRowW.claim.pre args=true) (hwl:WellAll P h vals args) :
 ∃ a vs ns,vals=[Value.ref a]/\args=[WData.list (ns.map WData.int)]/\h.get? a=some { cls:= .type "list",data:= .seq vs.toArray }/\IntsAre vs ns/\ns.length<=n:=by
 have hsh:WShape.hasAll [] args [.list .int]=true:=(pre_splitW hpre).1;have hc:l.pre.holds [] { args:=args }=true:=(pre_splitW hpre).2;obtain ⟨d,r,rfl,h1,h2⟩:=hasAllW_cons hsh;obtain rfl:=hasAllW_nil h2;obtain ⟨xs,rfl,h3⟩:=hasW_list h1;obtain ⟨ns,rfl⟩:=items_int h3
 have hlen:ns.length<=n:=by
  unfold OpenLaw.pre at hc
  have h4:(WTm.not (.lt (.lit (.int (n:Int))) (.len (.arg 0)))).holds [] { args:=[.list (ns.map .int)] }=true:=by
   have h4:=(holds_andW hc).1;rw [hn] at h4;exact h4
  have h5:=condW_of h4 (w_not (w_lt w_lit (w_len_list (w_arg rfl))));rw [yF] at h5
  refine Nat.le_of_not_lt fun q=> ?_
  have q':(n:Int) < ((ns.length:Nat):Int):=by omega
  first
   | (rw [yV q'] at h5;exact absurd h5 (by decide))
   | (simp at h5;omega)
 cases hwl with
 | cons w1 w2 =>
  cases w2
  cases w1 with
  | list ho hall=>exact ⟨_,_,ns,rfl,rfl,ho,iP ns _ hall,hlen⟩
theorem qR(l:OpenLaw)(args:List WData):l.row.toRowW.claim.post args (.bool true) args=true :=
 postW_of (r:=l.row.toRowW) (X:=(true == true))
  (show WShape.has [] (.bool true) .bool=true by first | rfl | decide | simp [WShape.has,WShape.arms,WShape.armsAll])
  (show (WTm.eq .res (.lit (.bool true))).value [] { args:=args,res:=some (.bool true),after:=args }=some (.bool (true == true)) from w_eq_bool (w_res rfl) w_lit) rfl
theorem oA{l:OpenLaw}{n:Nat}{q:Program}{loose:List Str}{XP:(Str->Option Value)->Heap->Prop}{YP:World->Heap->Prop}{d:DefRec}
 (hn:l.most=some n) (hdf:d.params.defaults=[])
 (call:∀ (w:World) (s₀ s₁:Shared) (mg mb:Str->Option Value) (fa:Addr) (o:Obj) (pm cd doc:Value) (a:Addr) (vs:List Value) (ns:List Int),
   Ground q loose [] XP w s₀ mg mb s₁.heap->YP w s₁.heap ->
   s₁.heap.get? fa=some o->o.data = .func (docDef d.name d.params d.body d.scope pm cd doc)->s₁.heap.CodeRec cd d.name->mg d.name=some (.ref fa) ->
   s₁.heap.get? a=some { cls:= .type "list",data:= .seq vs.toArray }->IntsAre vs ns->ns.length<=n->s₁.gens = #[] ->
   codeAny (model l.prog w) callerA (.call (.ref fa) ⟨[.ref a],[]⟩) (fun r s'=>r = .ok (.ret (.bool true))/\OldK s₁.heap s'.heap/\s'.os=s₁.os/\AllBare s'.gens) s₁) :
 WalkO q loose XP YP l.row.toRowW d [] (fun f vs=>PySem.call f vs):=by
 intro w s₀ s₁ mg mb G Y fa o pm cd doc dV kV ho hd hcd hD hmg hg args vals as hpre hlay hrd hwl hlo;obtain rfl:dV = .none:=Dflts.none hD hdf;obtain rfl:kV = .none:=Dflts.noKw hD;obtain ⟨a,vs,ns,rfl,rfl,hobj,hints,hlen⟩:=qG hn hpre hwl;refine enter_call (codeAny_mono (call w s₀ s₁ mg mb fa o pm cd doc a vs ns G Y ho (fd_plain hd) hcd hmg hobj hints hlen hg) fun r s' hq=> ?_);obtain ⟨rfl,h2,h3,h4⟩:=hq;exact ⟨.inl ⟨.bool true,.bool true,[],rfl,fun _=>rfl,.bool true,qR l _,fun _=>⟨List.Pairwise.nil,fun _ hm=>(nomatch hm)⟩⟩,h2,h3,h4⟩
section
variable{prog:Program}{w:World}{A:Around}{E:Value->Shared->Prop}{s:Shared}{K:Frag}
end
end Att
namespace L2
open PySem PySem.Spec PyProof.Rows
theorem kC:∀ {vs:List Value} {ns:List Int},IntsAre vs ns->aq (ns.map V.int) vs
 | _,_,.nil=> .nil
 | _,_,.cons n t h=> .cons ⟨t,rfl⟩ (kC h)
def Only(H:Hp):Prop:=∀ b,H b=none\/∃ o xs,H b=some (.frz o (.lst xs))
theorem uv{P:Program}{w:World}{K:A9}{mg mb:Str->Option Value}{CX:CXT}{k:Nat}{fa a:Addr}{fd:FuncData}{x:Str}{sp:Sp}{s₁:Shared}{vs:List Value}{ns:List Int}
 (KX:K.In s₁.heap) (hns:s₁.heap.Ns mainGlobals mg) (hb:s₁.heap.Ns builtinsNs mb) (hbb:∀ x:Str,x ≠ "__name__" -> mb x=bootBuiltins x) (hlim:s₁.heap.NoLimit) (hg:s₁.gens = #[])
 (ha:s₁.heap.get? a=some { cls:= .type "list",data:= .seq vs.toArray }) (hi:IntsAre vs ns) (hl:ns.length<=sizeLine) (hr:bL k callerA)
 (F:∀ base:Heap,K.In base->base.Ns mainGlobals mg->gp P w K mg base CX k fa fd [x] sp) (hbind:∀ (s:Shared) (u:Value),BindsTo s fd ⟨[u],[]⟩ [(x,u)])
 (hsp:∀ H:Hp,Only H->SqL K H a (ns.map V.int)->sp [.ref a] H (fun v _=>v = .bl true) fun _ _ _=>False)
 (hCX:∀ H e s',CX [] H s₁ (fun _ _ _=>False) e s'->False) :
 codeAny (model P w) callerA (.call (.ref fa) ⟨[.ref a],[]⟩) (fun r s'=>r = .ok (.ret (.bool true))/\OldK s₁.heap s'.heap/\s'.os=s₁.os/\AllBare s'.gens) s₁:=by
 have rv:=kC hi;have lenV:=hi.length
 have core:∀ H:Hp,Only H->SqL K H a (ns.map V.int)->HOk P w H s₁.heap->(∀ b,H b≠none->b=a)->(H a≠none->K.lookup a=none) ->
  codeAny (model P w) callerA (.call (.ref fa) ⟨[.ref a],[]⟩) (fun r s'=>r = .ok (.ret (.bool true))/\OldK s₁.heap s'.heap/\s'.os=s₁.os/\AllBare s'.gens) s₁:=by
  intro H hO hS hok hA hK
  have base_of:∀ {b:Addr} {o:Obj},s₁.heap.get? b=some o->H b=none->(lZ s₁.heap H).get? b=some o:=fun e n=>uD e n
  have noA:∀ {b:Addr} {o:Obj} {es:Array DictEntry} {ep:Nat},s₁.heap.get? b=some o->o.data = .dict es ep->H b=none:=fun {b o es ep} e d=>by
   cases q:H b with
   | none=>rfl
   | some u =>
    have e':b=a:=hA b (by rw [q];simp);subst e';rw [ha] at e;cases e;have d':Data.seq vs.toArray _=Data.dict es ep:=d;cases d'
  have nsK:∀ {b:Addr} {m:Str->Option Value},s₁.heap.Ns b m->(lZ s₁.heap H).Ns b m:=fun {b m} ⟨o,es,ep,e,d,r⟩=>⟨o,es,ep,base_of e (noA e d),d,r⟩
  have hKb:K.In (lZ s₁.heap H):=fun b o e=>base_of (KX b o e) (by
   cases q:H b with
   | none=>rfl
   | some u =>
    have e':b=a:=hA b (by rw [q];simp);subst e'
    rw [hK (by rw [q];simp)] at e;cases e)
  have hM:Mod K mg (lZ s₁.heap H):=⟨hKb,nsK hns,⟨mb,nsK hb,hbb⟩,let ⟨mc,h1,h2⟩:=hlim;⟨mc,nsK h1,h2⟩⟩;have e0:mG P w K mg (lZ s₁.heap H) callerA [] s₁ H:=⟨rfl,hM,fun b o e=>wF e,Nat.le_of_eq (rF _ _),trivial,fun b hb=>absurd (show b∈([]:List Addr) from hb) (by simp),hok,.of_eq hg⟩
  refine codeAny_mono ((F _ hKb (nsK hns)).run callerA [] s₁ H ⟨[.ref a],[]⟩ [.ref a] [.ref a] _ _ hr e0 (hbind s₁ (.ref a)) (.cons rfl .nil) (hsp H hO hS)) fun r s' h=> ?_
  cases r with
  | error e=>exact (hCX H e s' h).elim
  | ok fl =>
   cases fl with
   | next=>exact False.elim h
   | brk=>exact False.elim h
   | cont=>exact False.elim h
   | ret u =>
    obtain ⟨v,H',os,bare,un,hok',r',q⟩:=h;have q':v = .bl true:=q;subst q';obtain rfl:u=Value.bool true:=r';refine ⟨rfl,OldK.of_keep fun b o e=> ?_,os,bare⟩
    cases q:H b with
    | none=>exact un.keep b o e q (by intro z;exact absurd (show b∈([]:List Addr) from z) (by simp)) (by simp)
    | some u =>
     rcases hO b with z | ⟨ob,xs,z⟩
     ·rw [q] at z;cases z
     ·have z2:=un.frzs b ob _ z
      obtain ⟨e1,_⟩:=hok b _ z;obtain ⟨e2,_⟩:=hok' b _ z2;rw [e] at e1;cases e1;exact e2
 cases hk:K.lookup a with
 | some o =>
  have e:=KX a o hk;rw [ha] at e;cases e
  refine core (fun _=>none) (fun _=> .inl rfl) (.inr ⟨_,vs.toArray,_,hk,rfl,rfl,rfl,by rw [yG,lenV];exact hl,by simpa using rv⟩) (fun b u z=>by have z':(none:Option HO)=some u:=z;cases z') (fun b z=>absurd rfl z) fun z=>absurd rfl z
 | none =>
  refine core (fun b=>if b=a then some (.frz { cls:= .type "list",data:= .seq vs.toArray } (.lst (ns.map V.int))) else none) (fun b=> ?_) (.inl (.inr ⟨{ cls:= .type "list",data:= .seq vs.toArray },if_pos rfl⟩)) (fun b u z=> ?_) (fun b z=> ?_) fun _=>hk
  ·by_cases hb:b=a
   ·exact .inr ⟨_,_,if_pos hb⟩
   ·exact .inl (if_neg hb)
  ·by_cases hb:b=a
   ·have z':=(if_pos hb).symm.trans z
    cases z';subst hb;exact ⟨ha,by rw [yF];exact hl,vs,_,rv,ha⟩
   ·have z':=(if_neg hb).symm.trans z
    cases z'
  ·by_cases hb:b=a
   ·exact hb
   ·exact absurd (if_neg hb) z
abbrev KOf{K:A9}{h:Heap}(_:K.In h):A9:=K
theorem vx{l:PySem.W.OpenLaw}{n k:Nat}{q:Program}{loose:List Str}{XP:(Str->Option Value)->Heap->Prop}{YP:World->Heap->Prop}{d:DefRec}{K:Params->A9}{CX:World->CXT}{sp:World->Sp}{x:Str}
 (hn:l.most=some n) (hn2:n<=sizeLine) (hdf:d.params.defaults=[]) (hr:bL k callerA)
 (hY:∀ (w:World) (h:Heap),YP w h->(K w.params).In h)
 (F:∀ (w:World) (mg:Str->Option Value) (fa:Addr) (h:Heap),(K w.params).In h->h.Ns mainGlobals mg->mg d.name=some (.ref fa) ->
   ∃ fd:FuncData,(∀ (s:Shared) (u:Value),BindsTo s fd ⟨[u],[]⟩ [(x,u)]) /\
    ∀ base:Heap,(K w.params).In base->base.Ns mainGlobals mg->gp l.prog w (K w.params) mg base (CX w) k fa fd [x] (sp w))
 (hsp:∀ (w:World) (H:Hp) (a:Addr) (ns:List Int),ns.length<=n->Only H->SqL (K w.params) H a (ns.map V.int)->sp w [.ref a] H (fun v _=>v = .bl true) fun _ _ _=>False)
 (hCX:∀ (w:World) (H:Hp) (s:Shared) (e:Value) (s':Shared),CX w [] H s (fun _ _ _=>False) e s'->False) :
 PySem.W.WalkO q loose XP YP l.row.toRowW d [] (fun f vs=>PySem.call f vs):=by
 refine Att.oA hn hdf fun w s₀ s₁ mg mb fa o pm cd doc a vs ns G Y ho hd hcd hmg hobj hints hlen hg=> ?_
 have KX:=hY w _ Y;obtain ⟨fd,hb,hF⟩:=F w mg fa _ KX G.T.g hmg
 exact uv KX G.T.g G.T.b G.T.builtins G.T.nolimit hg hobj hints (zu hlen hn2) hr hF hb (fun H hO hS=>hsp w H a ns hlen hO hS) fun H e s'=>hCX w H s₁ e s'
def bw(s:Stmt):Arguments:=match s with
 | .FunctionDef _ a _ _ _ _ _ _ _ _=>a
 | _=>{ posonlyargs:=[],args:=[],vararg:=none,kwonlyargs:=[],kw_defaults:=[],kwarg:=none,defaults:=[] }
def aN(s:Stmt):List Stmt:=match s with
 | .FunctionDef _ _ b _ _ _ _ _ _ _=>b
 | _=>[]
def ac(s:Stmt):Scope:=match s with
 | .FunctionDef _ _ _ _ _ _ sc _ _ _=>sc
 | _=>{ kind:= .function,names:=[],isGenerator:=false,isCoroutine:=false }
abbrev CX0:CXT:=fun _ _ _ _ _ _=>False
abbrev E0:XK:=fun _ _ _=>False
structure Fun(K:A9)(x qual:Str)(st:Stmt)(f:Addr)(fd:FuncData):Prop where
 ex:∃ (oc:Value) (od:Option Addr) (kV doc pm:Value) (an:Option Addr) (cdv ct:Value) (osl:Array (Option Value)),
  fd=PySem.W.fnOf x qual (bw st) (aN st) (ac st) .none kV doc pm an cdv ct/\K.lookup f=some ⟨oc,od,.func fd,osl⟩/\PySem.W.codeIn K cdv qual=true
 kp:PySem.W.keepIn K (.ref f)=true
section
variable{P:Program}{w:World}{K:A9}{mg:Str->Option Value}{base:Heap}
theorem Fun.binds{x qual:Str}{st:Stmt}{f:Addr}{fd:FuncData}{ps:List Str}(F:Fun K x qual st f fd)
 (h:∀ (kV doc pm:Value) (an:Option Addr) (cdv ct:Value) (us:List Value),us.length=ps.length->bindArgs (PySem.W.fnOf x qual (bw st) (aN st) (ac st) .none kV doc pm an cdv ct) ⟨us,[]⟩=pure (ps.zip us)):gX K fd ps []:=by
 obtain ⟨oc,od,kV,doc,pm,an,cdv,ct,osl,rfl,lk,hcd⟩:=F.ex;exact .all (h kV doc pm an cdv ct)
theorem l9{x qual:Str}{st:Stmt}{f:Addr}{oc:Value}{od an:Option Addr}{osl:Array (Option Value)}{kV doc pm cdv ct:Value}(l:K.lookup f=some ⟨oc,od,.func (PySem.W.fnOf x qual (bw st) (aN st) (ac st) .none kV doc pm an cdv ct),osl⟩)
 (c:PySem.W.codeIn K cdv qual=true) (k:PySem.W.keepIn K (.ref f)=true):Fun K x qual st f (PySem.W.fnOf x qual (bw st) (aN st) (ac st) .none kV doc pm an cdv ct):=⟨⟨oc,od,kV,doc,pm,an,cdv,ct,osl,rfl,l,c⟩,k⟩
end
theorem cb{n:Nat}(h:n<=1000):n < sizeLine:=Nat.lt_of_le_of_lt h (by decide)
section
variable{X:Cx}
theorem pv(i:Nat){x:Str}{pos:Pos}(hN:X.N[i]?=some x:=by rfl)(hv:Vis X.env.scope x:=by first | exact Or.inl rfl | exact Or.inr (Or.inl rfl) | exact Or.inr (Or.inr rfl))(hd:(x == ("__debug__" : Str))=false:=by decide)
 (hcd:(x == ("__classdict__" : Str))=false:=by decide):PE X (.Name x pos) (jc i):=dy hN hv hd hcd
theorem r6:aE X (.builtin "len") (fun xs H Q=>∃ a kvs,xs=[V.ref a]/\H a=some (.dK kvs)/\Q (.int kvs.length) H):=by
 intro pins s σ H xs us Q I r h;obtain ⟨a,kvs,rfl,ha,q⟩:=h;obtain ⟨u,rfl,ru⟩:=bN r;cases ru
 exact d_len I (.inl ha) fun t s' I'=>⟨.int kvs.length,H,I',⟨t,rfl⟩,q⟩
end
theorem iteF{A B:Prop}(h:B):if false=true then A else B:=by
 rw [if_neg yJ];exact h
def af(H H':Hp):Prop:=∀ b o,H b=some o->H' b=some o
theorem af.refl(H:Hp):af H H:=fun _ _ h=>h
theorem af.trans{H H1 H2:Hp}(a:af H H1)(b:af H1 H2):af H H2:=fun c o h=>b c o (a c o h)
theorem af.free{H H':Hp}(e:af H H'){l:Addr}(h:H' l=Option.none):H l=Option.none:=by
 cases q:H l with
 | none=>rfl
 | some o =>
  rw [e l o q] at h;cases h
theorem af.seq{K:A9}{H H':Hp}{a:Addr}{xs:List V}(e:af H H')(h:SqL K H a xs):SqL K H' a xs:=by
 rcases h with (h | ⟨o,h⟩) | h
 ·exact .inl (.inl (e _ _ h))
 ·exact .inl (.inr ⟨o,e _ _ h⟩)
 ·exact .inr h
section
variable{κ:Type}[DecidableEq κ]
end
def clF(env:Env):List (Str×NameKind)->List (Str×Addr)->List (Str×Addr)
 | [],acc=>acc
 | (n,k)::r,acc=>clF env r (if k == NameKind.free then (n,(env.cells.lookup n).getD 0)::acc else acc)
theorem pe{env:Env}{scope:Scope}(h:∀ y∈scope.names,y.2 = .free->∃ c,env.cells.lookup y.1=some c):closureFor scope env=pure (clF env scope.names []):=by
 have go:∀ (names:List (Str×NameKind)) (acc:List (Str×Addr)),(∀ y∈names,y.2 = .free->∃ c,env.cells.lookup y.1=some c) ->
  (forIn names acc fun (x:Str×NameKind) (r:List (Str×Addr))=>(match x with
    | (name,kind)=>if (kind == NameKind.free)=true then do let a <- cellOf env name;pure (ForInStep.yield ((name,a)::r)) else pure (ForInStep.yield r):Sem (ForInStep (List (Str×Addr)))))=(pure (clF env names acc):Sem (List (Str×Addr))):=by
  intro names
  induction names with
  | nil=>intro acc _;rfl
  | cons x r ih =>
   intro acc hy;obtain ⟨n,k⟩:=x
   have ih':=fun a=>ih a fun y m=>hy y (yH _ m)
   rw [List.forIn_cons]
   cases hk:(k == NameKind.free) with
   | false =>
    dsimp only;rw [hk,if_neg yJ,pure_bind]
    show _=pure (clF env r (if (k == NameKind.free)=true then _ else acc))
    rw [hk,if_neg yJ];exact ih' acc
   | true =>
    obtain ⟨c,hc⟩:=hy (n,k) yL (by simpa using hk)
    have e:cellOf env n=pure c:=by unfold cellOf;rw [hc]
    dsimp only;rw [hk,if_pos rfl,e,pure_bind,pure_bind]
    show _=pure (clF env r (if (k == NameKind.free)=true then _ else acc))
    rw [hk,if_pos rfl,hc];exact ih' _
 unfold closureFor;have e:=go scope.names [] h
 show (forIn scope.names [] _ >>= _)=_
 refine (congrArg (fun z=>z >>= fun cs=>pure cs) e).trans ?_;rfl
theorem mf{env:Env}:∀ (names:List (Str×NameKind)) (acc:List (Str×Addr)),(∀ y∈names,y.2 = .free->∃ c,env.cells.lookup y.1=some c) ->
 (∀ x c,acc.lookup x=some c->env.cells.lookup x=some c)->∀ x c,(clF env names acc).lookup x=some c->env.cells.lookup x=some c
 | [],acc,_,h,x,c,e=>h x c e
 | (n,k)::r,acc,hy,h,x,c,e=>by
  refine mf r _ (fun y m=>hy y (yH _ m)) (fun y d z=> ?_) x c e
  cases hk:(k == NameKind.free) with
  | false=>rw [hk,if_neg yJ] at z;exact h y d z
  | true =>
   rw [hk,if_pos rfl] at z;obtain ⟨c',hc⟩:=hy (n,k) yL (by simpa using hk);rw [zB] at z
   cases q:y == n with
   | true =>
    rw [q] at z
    have q':y=n:=by simpa using q
    subst q';have hc':env.cells.lookup y=some c':=hc;rw [hc'] at z ⊢;exact z
   | false=>rw [q] at z;exact h y d z
theorem mh{env:Env}:∀ (names:List (Str×NameKind)) (acc:List (Str×Addr)) (x:Str),((x,NameKind.free)∈names\/∃ c,acc.lookup x=some c)->∃ c,(clF env names acc).lookup x=some c
 | [],acc,x,h=>by
  rcases h with h | h
  ·cases h
  ·exact h
 | (n,k)::r,acc,x,h=>by
  refine mh r _ x ?_
  have keep:(∃ c,acc.lookup x=some c)->∃ c,(if (k == NameKind.free)=true then (n,(env.cells.lookup n).getD 0)::acc else acc).lookup x=some c:=fun hZ=>by
   obtain ⟨c,hc⟩:=hZ
   split
   ·rw [zB]
    split
    ·exact ⟨_,rfl⟩
    ·exact ⟨c,hc⟩
   ·exact ⟨c,hc⟩
  rcases h with h | h
  ·rcases yP.mp h with e | e
   ·have e1:x=n:=congrArg Prod.fst e
    have e2:NameKind.free=k:=congrArg Prod.snd e;subst e1 e2;refine .inr ⟨(List.lookup x env.cells).getD 0,?_⟩;rw [if_pos (by rfl),zB,AO]
   ·exact .inl e
  ·exact .inr (keep h)
theorem eO{env:Env}:∀ {names:List (Str×NameKind)} {x:Str} {k:NameKind},
 (names.map fun (n,k)=>if (k == NameKind.free&&env.scope.kind == .function&&env.kindOf n == some .cell) then (n,NameKind.cell) else (n,k)).lookup x=some k ->
 (names.lookup x=some k)\/(k = .cell/\names.lookup x=some .free)
 | [],_,_,h=>by simp at h
 | (n,k')::r,x,k,h=>by
  have ih := @eO env r x k;have h:List.lookup x ((if (k' == NameKind.free&&env.scope.kind == .function&&env.kindOf n == some .cell)=true then (n,NameKind.cell) else (n,k'))::_)=some k:=h
  by_cases hc:(k' == NameKind.free&&env.scope.kind == .function&&env.kindOf n == some .cell)=true
  ·rw [if_pos hc,zB] at h
   rw [zB]
   cases hx:x == n with
   | true =>
    rw [hx] at h;have h':some NameKind.cell=some k:=h;cases h'
    have:k'=NameKind.free:=by
     have:=(yY _ _).mp ((yY _ _).mp hc).1;simpa using this.1
    subst this;exact .inr ⟨rfl,rfl⟩
   | false=>rw [hx] at h;exact ih h
  ·rw [if_neg hc,zB] at h
   rw [zB]
   cases hx:x == n with
   | true=>rw [hx] at h;exact .inl h
   | false=>rw [hx] at h;exact ih h
def blk(X:Cx)(sc:Scope)(cl:List (Str×Addr))(C:Addr)(fp:List Addr)(s:Shared)(H:Hp)(N:List Str):Cx :=
 { X with env:=compEnvC sc cl C X.env,N:=N,s₀:=s,H₀:=H,outer:=X.stack,ex:=fp,fn:=fun _=>false,pn:=[],xe:=fun _ _=>False }
structure kh(X:Cx)(sc:Scope)(M tgs:List Str):Prop where
 kind:sc.kind = .function
 names:∀ y∈sc.names,y.2 = .local->sc.names.lookup y.1=some .local
 nocell:∀ y∈sc.names,y.2 ≠ .cell
 free:∀ y∈sc.names,y.2 = .free->X.env.kindOf y.1=some .cell\/X.env.kindOf y.1=some .free
 len:M.length=X.N.length
 same:∀ p∈M.zip X.N,p.1=p.2\/p.1=("" : Str)
 dummy:sc.names.lookup ("" : Str)=none
 hid:∀ x∈M,sc.names.lookup x≠some .local
section
variable{X:Cx}
theorem Inv.blk{pins:List (Addr×Obj)}{σ:St}{H:Hp}{s s4:Shared}{sc:Scope}{M tgs:List Str}{C:Addr}{fp:List Addr}{m:Str->Option Value}(I:Inv X pins σ H s)(B:kh X sc M tgs)(hf:∀ b∈fp,oC X pins H b)(hfl:∀ b∈fp,b < s.heap.objs.size)
 (hC:s.heap.objs.size<=C) (hn:s4.heap.Ns C m) (hk:∀ b o,s.heap.get? b=some o->s4.heap.get? b=some o) (ho:s4.os=s.os) (hg:s4.gens=s.gens) :
 Inv (blk X sc (clF X.env sc.names []) C fp s H (M++tgs)) [] (σ++List.replicate tgs.length none) H s4:=by
 have hfr:∀ y∈sc.names,y.2 = .free->∃ c,X.env.cells.lookup y.1=some c:=fun y hy e=>I.ok.has _ (B.free y hy e)
 have hsub:∀ x c,(clF X.env sc.names []).lookup x=some c->X.env.cells.lookup x=some c:=mf sc.names [] hfr fun _ _ z=>by simp at z
 have hin:∀ x c,(clF X.env sc.names []).lookup x=some c->c < s.heap.objs.size:=fun x c e=>by
  obtain ⟨v,q⟩:=I.cell x c (hsub x c e);exact q.lt
 have hfree:∀ x,((relabel sc X.env).names.lookup x=some .cell\/(relabel sc X.env).names.lookup x=some .free)->sc.names.lookup x=some .free:=fun x hx=>by
  rcases hx with q | q
  ·rcases eO q with z | z
   ·exact absurd rfl (B.nocell _ (zC z))
   ·exact z.2
  ·rcases eO q with z | z
   ·exact z
   ·exact absurd z.1 (by decide)
 refine ⟨⟨I.ok.mod,B.kind,I.ok.glob,I.ok.blt,hC,fun x y c h1 h2=>I.ok.inj x y c (hsub x c h1) (hsub y c h2),fun x hx=> ?_,fun x c z=>absurd z yJ,I.ok.hd,I.ok.frames,.inl rfl,fun b hb=>⟨?_,fun x c e=> ?_⟩,I.bs,?_,fun b o e z=> ?_,fun b hb=> ?_,I.stack,I.stkFree⟩,
  ho,?_,Un.kept hk,⟨m,hn,fun i x v h1 h2 h3=> ?_⟩,fun x c e=> ?_,I.hok.fresh hC,fun x c e=>I.freeC x c (hsub x c e),fun p hp=>absurd (show p∈([]:List (Addr×Obj)) from hp) (by simp),I.hok.kept hk,?_⟩
 ·exact mh sc.names [] x (.inl (zC (hfree x hx)))
 ·exact za (zb (hfl b hb) hC)
 ·exact (hf b hb).2.2.2.2.1 x c (hsub x c e)
 ·exact zu I.ok.bsz I.sz
 ·rcases (hf b z).2.2.2.1 with q | q
  ·exact I.ok.noex b o e q
  ·exact absurd (zb (yN e) I.ok.bsz) (Nat.not_lt.mpr q)
 ·intro z
  rcases yP.mp (I.stkSub b z) with q | q
  ·exact (hf b hb).2.1 q
  ·exact (hf b hb).2.2.1 q
 ·rw [hg];exact I.bare
 ·have hl:M.length=σ.length:=B.len.trans I.len.symm
  have hi:i < σ.length:=by
   by_cases hi:i < σ.length
   ·exact hi
   ·rw [zZ (by omega),Ag] at h2
    split at h2<;>cases h2
  rw [zj hi] at h2;have h1:(M++tgs)[i]?=some x:=h1;rw [zj (by omega)] at h1;have hmem:x∈M:=yU h1
  have hx:sc.names.lookup x=some .free:=by
   rcases h3 with q | q | q
   ·rcases eO q with z | z
    ·exact absurd z (B.hid x hmem)
    ·exact absurd z.1 (by decide)
   ·exact hfree x (.inl q)
   ·exact hfree x (.inr q)
  have hNi:X.N[i]?=some x:=by
   have hi2:i < X.N.length:=by rw [<- I.len];exact hi
   have hz:(M.zip X.N)[i]?=some (x,X.N[i]):=by
    rw [A7];exact ⟨h1,yD hi2⟩
   rcases B.same _ (yU hz) with q | q
   ·have q':x=X.N[i]:=q
    rw [yD hi2,q']
   ·have q':x=("" : Str):=q
    rw [q',B.dummy] at hx;cases hx
  have hk2:=B.free (x,.free) (zC hx) rfl;obtain ⟨m0,_,hl0⟩:=I.loc;obtain ⟨u,r,l⟩:=hl0 i x v hNi h2 (.inr hk2);refine ⟨u,r,.inr ?_⟩
  rcases l with ⟨k,_⟩ | ⟨_,c,ec,hcell⟩
  ·have k':X.env.kindOf x=some .local:=k
   rcases hk2 with q | q
   ·have q':X.env.kindOf x=some .cell:=q
    rw [k'] at q';cases q'
   ·have q':X.env.kindOf x=some .free:=q
    rw [k'] at q';cases q'
  ·obtain ⟨c',ec'⟩:=mh (env:=X.env) sc.names [] x (.inl (zC hx))
   have:c'=c:=by
    have:=hsub x c' ec';rw [ec] at this;exact (Option.some.inj this).symm
   subst this;refine ⟨?_,c',ec',?_⟩
   ·rcases h3 with q | q | q
    ·rcases eO q with z | z
     ·rw [hx] at z;cases z
     ·exact absurd z.1 (by decide)
    ·exact .inl q
    ·exact .inr q
   ·obtain ⟨o,e1,e2⟩:=hcell
    exact ⟨o,hk _ _ e1,e2⟩
 ·obtain ⟨v,o,e1,e2⟩:=I.cell x c (hsub x c e)
  exact ⟨v,o,hk _ _ e1,e2⟩
 ·show (σ++_).length=(M++tgs).length
  rw [yX,yX,zo,B.len,I.len]
def su(X:Cx)(ifs:List Expr)(t:TT):Prop :=
 ∀ (pins:List (Addr×Obj)) (s:Shared) (σ:St) (H:Hp) (Q:Bool->Hp->Prop),Inv X pins σ H s->t σ H Q ->
  wpAny (model X.prog X.w) X.A (forIn ifs true fun c r=>if r=true then do let ok <- isTrue c X.env (eval c X.env);pure (ForInStep.yield ok) else pure (ForInStep.yield r)) (TP X pins σ Q) X.xe s
def xL:TT:=fun _ H Q=>Q true H
theorem pif0:su X [] xL:=fun pins s σ H Q I h=>wpAny_tests_nil ⟨H,I,h⟩
theorem pif1{c:Expr}{t:TT}(h:PT X c t):su X [c] t:=fun pins s σ H Q I hw=>wpAny_tests_one (h pins s σ H Q I hw)
theorem md{prog:Program}{w:World}{A:Around}{R:Result->Shared->Prop}{s:Shared}{elt target iter:Expr}{ifs:List Expr}{scope:Scope}{pos:Pos}{it acc:Value}{env:Env}(I:Nat->Shared->Prop)
 (turn:∀ n s,I n s->wpAny (model prog w) A (pyNext it) (fun r s₁=>match r with
   | none=>R (.ok .next) s₁
   | some v=>wpAny (model prog w) A (letOwnedTupleGo target it v) (fun _ s₁'=>wpAny (model prog w) A (assign target env v) (fun _ s₂ =>
    wpAny (model prog w) A (forIn ifs true fun c r=>if r=true then do let ok <- isTrue c env (eval c env);pure (ForInStep.yield ok) else pure (ForInStep.yield r)) (fun ok s₃ =>
     if ok=true then wpAny (model prog w) A (eval elt env) (fun x s₄ =>
      wpAny (model prog w) A (call (.builtin "list.append") [acc,x]) (fun _ s₅=>∃ m,m < n/\I m s₅) (fun _ _=>False) s₄) (fun _ _=>False) s₃
     else ∃ m,m < n/\I m s₃) (fun _ _=>False) s₂) (fun _ _=>False) s₁') (fun _ _=>False) s₁) (fun _ _=>False) s)
 (n:Nat) (h:I n s) :
 codeAny (model prog w) A (.compLoop (.ListComp elt [⟨target,iter,ifs,0⟩] scope pos) 0 it acc env) R s:=by
 refine codeAny_loop rfl I (fun n s hI=> ?_) n h
 show wpAny _ A ((compTurn (.ListComp elt [⟨target,iter,ifs,0⟩] scope pos) 0 it acc env).onRaise (fun x=>do noteFrame x env;theTreesLotGoes x)) _ _ s
 refine wpAny_noted ?_;rw [compTurn_list];refine yB (wpAny_standAt (yB (zp (turn n s hI) (fun r s₁ h₁=> ?_) fun _ _ z=>z.elim)))
 cases r with
 | none=>exact yE h₁
 | some v =>
  refine yB (zp h₁ (fun _ s₁' h₁'=> ?_) fun _ _ z=>z.elim);refine yB (zp h₁' (fun _ s₂ h₂=>yB (zp h₂ (fun ok s₃ h₃=> ?_) fun _ _ z=>z.elim)) fun _ _ z=>z.elim)
  cases ok with
  | false=>exact yE ⟨rfl,h₃⟩
  | true =>
   exact yB (yB (zp h₃ (fun x s₄ h₄=>yB (zp h₄ (fun _ s₅ h₅=>yE (yE ⟨rfl,h₅⟩)) fun _ _ z=>z.elim)) fun _ _ z=>z.elim))
def CompW(J:It)(k:Nat)(g:TG)(tt:TT)(te:TE)(σ:St)(Q:VK)(H1:Hp):Prop:=∃ W:Nat->Nat->List V->Hp->Prop,(∃ m,W 0 m [] H1)/\∀ i m ys H,W i m ys H->ys.length<=sizeLine /\
 ((J.stop i H/\∀ l,H l=none->Q (.ref l) (upd H l (.lst ys)))\/(J.go i H/\∀ x H',J.yld i H x H'->g x (σ++List.replicate k none) H' fun σ2 H2=>σ2.take σ.length=σ/\tt σ2 H2 fun b H3 =>
   if b=true then te σ2 H3 fun y H4=>∃ m',m' < m/\W (i+1) m' (ys++[y]) H4 else ∃ m',m' < m/\W (i+1) m' ys H3))
def mT(wi:TI)(k:Nat)(g:TG)(tt:TT)(te:TE):TE:=fun σ H Q=>wi σ H fun J H1=>CompW J k g tt te σ Q H1
theorem HOk.track{P:Program}{w:World}{H:Hp}{h:Heap}{a:Addr}{o:HO}(x:HOk P w H h)(hn:H a=none)(new:aX P w (upd H a o) h a o):HOk P w (upd H a o) h:=fun b u e=>by
 by_cases hb:b=a
 ·subst hb
  rw [ai] at e;cases e;exact new
 ·rw [ah hb] at e
  exact (x b u e).stay (fun _ _ _ q=>q) (fun c q=>by rw [ah (aj q hn)];exact q) fun c xs q=>by rw [ah (aj q hn)];exact q
theorem vK{σ σ':St}{k:Nat}(h:σ'.take σ.length=σ):∀ (i:Nat) v,(σ++List.replicate k (none:Option V))[i]?=some (some v)->σ'[i]?=some (some v):=fun i v e=>by
 by_cases hi:i < σ.length
 ·rw [zj hi,<- h,List.getElem?_take_of_lt hi] at e
  exact e
 ·rw [zZ (by omega),Ag] at e
  split at e<;>cases e
theorem lj{elt tg iter:Expr}{ifs:List Expr}{sc:Scope}{M tgs:List Str}{pos pos':Pos}{wi:TI}{g:TG}{tt:TT}{te:TE}{use:Option (Value->Sem Unit)}{Qf:Value->Shared->Prop}{pins:List (Addr×Obj)}{s:Shared}{σ:St}{H:Hp}{Q:VK}(hc:X.calm=true)(B:kh X sc M tgs)(hi:PI X tg iter wi)
 (hg:∀ cl C fp s H,PG (blk X sc cl C fp s H (M++tgs)) tg g) (ht:∀ cl C fp s H,su (blk X sc cl C fp s H (M++tgs)) ifs tt) (he:∀ cl C fp s H,PE (blk X sc cl C fp s H (M++tgs)) elt te)
 (hs:∀ x,foldedSetIterable iter X.env x=pure x) (I:Inv X pins σ H s) (h:mT wi tgs.length g tt te σ H Q)
 (fin:∀ (C D:Addr) (m:Str->Option Value) (s6:Shared) (H':Hp),Inv X pins σ H' s6->s6.heap.Ns C m->H' C=none->X.env.locals < C->X.s₀.heap.objs.size<=C->(∀ x c,X.env.cells.lookup x=some c->c≠C)->(∀ p∈X.pn++pins,p.1≠C)->Q (.ref D) H'->∀ f,compPost (model X.prog X.w) X.A X.xe use Qf (.ref D) C (.ok f) s6) :
 wpAny (model X.prog X.w) X.A (comprehension (.ListComp elt [⟨tg,iter,ifs,0⟩] sc pos) sc X.env pos' (newList []) false (eval iter X.env) use) Qf X.xe s:=by
 have hfr:∀ y∈sc.names,y.2 = .free->∃ c,X.env.cells.lookup y.1=some c:=fun y hy e=>I.ok.has _ (B.free y hy e)
 have hsub:∀ x c,(clF X.env sc.names []).lookup x=some c->X.env.cells.lookup x=some c:=mf sc.names [] hfr fun _ _ z=>by simp at z
 refine wpAny_comprehension_free (use:=use) rfl hs (pe hfr) B.kind B.names (thn (hi pins s σ H _ I h) fun xv s₁ h₁=>thn h₁ fun itv s₂ h₂=> ?_);obtain ⟨it,fp,tn,J,H2,rfl,I2,T,st2,f2,W,⟨m0,w0⟩,turn⟩:=h₂
 have hfl:∀ b∈fp,b < s₂.heap.objs.size:=fun b hb=>by
  obtain ⟨o,e,_⟩:=T.obj _ _ st2 b hb;exact yN e
 refine zk (wpAny_newFunctionEnv B.nocell (by intro y hy;simp at hy) (fun h₁ hns₁ hsb₁=> ?_) B.kind);dsimp only at hns₁ hsb₁ ⊢
 generalize hH2:s₂.heap.push { cls:= .type "list",dict:=none,data:= .seq ([]:List Value).toArray }=HH at hns₁ hsb₁ ⊢
 have hC:HH.objs.size=s₂.heap.objs.size+1:=by rw [<- hH2,Ai]
 generalize hCC:HH.objs.size=C at hC hns₁ hsb₁ ⊢
 generalize hDD:s₂.heap.objs.size=D at hC ⊢
 have hDC:D≠C:=by omega
 have below:∀ b,b < D->b≠C/\b≠D:=fun b hb=>⟨by omega,by omega⟩
 have old:∀ b o,s₂.heap.get? b=some o->h₁.get? b=some o:=fun b o e=>hsb₁.extBut b o (below b (hDD ▸ yN e)).1 (yC _ (hH2 ▸ yC _ e))
 have hacc:h₁.PlainList D #[]:=⟨_,hsb₁.extBut _ _ hDC (yC _ (by rw [<- hH2,<- hDD];exact yQ _ rfl))⟩
 have hCs:s₂.heap.objs.size<=C:=by omega
 generalize hS4:({ s₂ with heap:=h₁,toks:=s₂.toks+([]:List (Str×Value)).length }:Shared)=s₄
 have I4:Inv (blk X sc (clF X.env sc.names []) C fp s₂ H2 (M++tgs)) [] (σ++List.replicate tgs.length none) H2 s₄ :=
  I2.blk B f2 hfl hCs (by rw [<- hS4];exact hns₁) (by rw [<- hS4];exact old) (by rw [<- hS4]) (by rw [<- hS4])
 have hD4:s₄.heap.PlainList D #[]:=by rw [<- hS4];exact hacc
 have st4:tn 0 s₄.heap:=by rw [<- hS4];exact T.keep _ _ _ st2 fun b _ o e=>old b o e
 let X':=blk X sc (clF X.env sc.names []) C fp s₂ H2 (M++tgs)
 have nfs:∀ b,s₂.heap.objs.size<=b->b∉frs X.stack:=fun b hb z=>by
  rcases yP.mp (I2.stkSub b z) with q | q
  ·rw [q] at hb;exact absurd I2.lt (Nat.not_lt.mpr hb)
  ·exact I2.nofs hb q
 have Dpin:∀ {s':Shared} {H':Hp} {its:Array Value} {n:Nat},s'.heap.get? D=some { cls:= .type "list",data:= .seq its n }->H' D=none ->
  ∀ p∈[(D,({ cls:= .type "list",data:= .seq its n }:Obj))],s'.heap.get? p.1=some p.2/\H' p.1=none/\p.1≠X'.env.locals/\p.1∉X'.fs/\∀ v,p.2.data ≠ .cell v:=fun {s' H' its n} e hn p hp=>by
  have e1:p=(D,({ cls:= .type "list",data:= .seq its n }:Obj)):=by simpa using hp
  subst e1;exact ⟨e,hn,hDC,nfs D (by omega),fun v z=>by cases z⟩
 have fpk:∀ {pl:List (Addr×Obj)} {H':Hp},(∀ p∈pl,p.1=D)->(∀ b∈fp,H' b=none)->∀ b∈fp,oC X' pl H' b:=fun {pl H'} hpl hn b hb=>by
  refine ⟨hn b hb,(below b (hDD ▸ hfl b hb)).1,fun z=> ?_,.inl hb,fun x c e=>(f2 b hb).2.2.2.2.1 x c (hsub x c e),fun p hp=> ?_⟩
  ·rcases yP.mp (I2.stkSub b z) with q | q
   ·exact (f2 b hb).2.1 q
   ·exact (f2 b hb).2.2.1 q
  ·have hp':p∈pl:=by simpa [X',blk] using hp
   rw [hpl p hp'];exact Ne.symm (below b (hDD ▸ hfl b hb)).2
 have cellD:∀ x c,X'.env.cells.lookup x=some c->c≠D:=fun x c e z=>by
  obtain ⟨v,q⟩:=I2.cell x c (hsub x c e);have q:=q.lt;rw [z,hDD] at q;exact AU _ q
 have loop:codeAny (model X.prog X.w) X.A (.compLoop (.ListComp elt [⟨tg,iter,ifs,0⟩] sc pos) 0 (.ref it) (.ref D) (compEnvC sc (clF X.env sc.names []) C X.env))
  (compPost (model X.prog X.w) X.A X.xe use Qf (.ref D) C) s₄:=by
  refine md (fun n s'=>∃ i ys its k H',Inv X' [(D,{ cls:= .type "list",data:= .seq its k })] (σ++List.replicate tgs.length none) H' s'/\aq ys its.toList/\tn i s'.heap/\(∀ b∈fp,H' b=none)/\W i n ys H') ?_ m0 ?_
  ·rintro n s5 ⟨i,ys,its,k,H5,I5,hv,st5,fr5,w5⟩
   obtain ⟨hz,w5⟩:=turn i n ys H5 w5;have hD5:=I5.pin (D,{ cls:= .type "list",data:= .seq its k }) (yK _ (by simp))
   have one:∀ p∈[(D,({ cls:= .type "list",data:= .seq its k }:Obj))],p.1=D:=fun p hp=>by
    have:p=(D,({ cls:= .type "list",data:= .seq its k }:Obj)):=by simpa using hp
    rw [this]
   rcases w5 with ⟨stop,qn⟩ | ⟨go,step⟩
   ·refine thn (T.done X' rfl rfl rfl hc i _ s5 _ H5 _ I5 (fpk one fr5) st5 stop) fun r s6 ⟨hr,I6⟩=> ?_
    subst hr;obtain ⟨m6,hn6,_⟩:=I6.loc;have hn6:s6.heap.Ns C m6:=hn6;obtain ⟨e6,n6,_⟩:=I6.pin (D,{ cls:= .type "list",data:= .seq its k }) (yK _ (by simp));have hC6:H5 C=none:=I6.free;have hln:ys.length<=sizeLine:=hz;have ok8:HOk X.prog X.w (upd H5 D (.lst ys)) s6.heap:=I6.hok.track n6 ⟨hln,its.toList,k,hv,by simpa using e6⟩;have un:Un (frs X.stack) fp H2 H5 s₂.heap s6.heap:=I6.base
    have neC:∀ b o,s₂.heap.get? b=some o->b≠C/\b≠D:=fun b o e=>below b (hDD ▸ yN e)
    have un7:Un (frs X.stack) fp H2 (upd H5 D (.lst ys)) s₂.heap s6.heap:=by
     refine ⟨un.keep,un.slot,fun b o e n hx=> ?_,un.there,fun b xs e=> ?_,fun b o u e=> ?_,fun b ps e=> ?_⟩
     ·rw [ah (neC b o e).2];exact un.free b o e n hx
     ·have q:=un.tups b xs e
      rw [ah (aj q n6)];exact q
     ·have q:=un.frzs b o u e
      rw [ah (aj q n6)];exact q
     ·obtain ⟨more,q⟩:=un.tbls b ps e
      exact ⟨more,by rw [ah (aj q n6)];exact q⟩
    have I8:Inv X pins σ (upd H5 D (.lst ys)) s6:=I2.call' (ch:=fp) I6.os un7 ok8 I6.bare (fun b hb=>⟨(f2 b hb).2.2.2.1,(f2 b hb).2.1,(f2 b hb).2.2.2.2.1,(f2 b hb).2.2.2.2.2⟩);have hLC:X.env.locals < C:=zb I2.lt hCs
    have hcC:∀ x c,X.env.cells.lookup x=some c->c≠C:=fun x c e z=>by
     obtain ⟨v,q⟩:=I2.cell x c e;have q:=q.lt;rw [z] at q;exact absurd q (Nat.not_lt.mpr hCs)
    exact fin C D m6 s6 _ I8 hn6 (by rw [ah (Ne.symm hDC)];exact hC6) hLC (zu I2.sz hCs) hcC (fun p hp z=>by
     have:=yN (I2.pin p hp).1;rw [z] at this
     exact absurd this (Nat.not_lt.mpr hCs)) (qn D n6) _
   ·refine thn (T.item X' rfl rfl rfl hc i _ s5 _ H5 _ I5 (fpk one fr5) st5 go) fun r s6 ⟨u,hr,h6⟩=> ?_
    subst hr
    refine thn h6 fun _ s7 ⟨x,H7,I7,r7,y7,st7,fr7⟩=> ?_
    have I7':=I7.pinned (fpk one fr7) (T.obj _ _ st7)
    refine thn (hg _ _ _ _ _ _ s7 _ H7 x u _ I7' r7 (step x H7 y7)) fun _ s8 ⟨σ8,H8,I8,tk8,q8⟩=> ?_
    refine thn (ht _ _ _ _ _ _ s8 σ8 H8 _ I8 q8) fun b s9 ⟨H9,I9,q9⟩=> ?_
    have weak:∀ {pl:List (Addr×Obj)} {H':Hp} {s':Shared},Inv X' pl σ8 H' s'->Inv X' pl (σ++List.replicate tgs.length none) H' s':=fun {pl H' s'} J=>J.weak (by
     have e1:σ8.length=(M++tgs).length:=J.len
     rw [e1,yX,yX,zo,B.len,I2.len]) (vK tk8)
    have fin:∀ {H':Hp} {s':Shared},Inv X' ([(D,{ cls:= .type "list",data:= .seq its k })]++jq fp s7.heap) σ8 H' s'->tn (i+1) s'.heap/\∀ b∈fp,H' b=none:=fun {H' s'} J=>by
     refine ⟨T.keep _ _ _ st7 fun b hb o e=>(J.pin (b,o) (yK _ (yK _ (dO hb e)))).1,fun b hb=> ?_⟩;obtain ⟨o,e,d⟩:=T.obj _ _ st7 b hb;exact (J.pin (b,o) (yK _ (yK _ (dO hb e)))).2.1
    cases b with
    | false =>
     rw [if_neg yJ] at q9 ⊢;obtain ⟨m',hm,w9⟩:=q9;exact ⟨m',hm,i+1,ys,its,k,H9,weak I9.unpinned,hv,(fin I9).1,(fin I9).2,w9⟩
    | true =>
     rw [if_pos rfl] at q9 ⊢
     refine thn (he _ _ _ _ _ _ s9 σ8 H9 _ I9 q9) fun y s10 ⟨yv,H10,I10,r10,q10⟩=> ?_
     obtain ⟨m',hm,w10⟩:=q10;obtain ⟨e10,n10,_⟩:=I10.pin (D,{ cls:= .type "list",data:= .seq its k }) (yK _ (yI _ (by simp)))
     have hsz:its.size<=sizeLine:=by
      have e1:=hv.length
      have e2:its.toList.length=its.size:=by simp
      omega
     refine wpAny_list_append_plain (hsz:=hsz) ⟨k,e10⟩ fun h11 hl11 hs11=> ?_
     obtain ⟨k',e11⟩:=hl11
     have J0:Inv X' [] σ8 H10 s10:=I10.pins_of fun p hp=>by simp at hp
     have J1:Inv X' [] σ8 H10 { s10 with heap:=h11 }:=J0.turned (t':=s10.toks) (it:=D) (fun b o hb e=>(hs11.2 b hb).trans e) n10 hDC (.inr (by show s₂.heap.objs.size<=D;omega)) cellD (fun p hp=>by
      have hp':p∈([]:List (Addr×Obj)):=by simpa [X',blk] using hp
      simp at hp')
     have J2:Inv X' [(D,{ cls:= .type "list",data:= .seq (its.push y) k' })] σ8 H10 { s10 with heap:=h11 }:=J1.pins_of (Dpin e11 n10);refine ⟨m',hm,i+1,ys++[yv],its.push y,k',H10,weak J2,?_,?_,(fin I10).2,w10⟩
     ·rw [Array.toList_push]
      exact hv.append (.cons r10 .nil)
     ·refine T.keep _ _ _ (fin I10).1 fun b hb o e=>(hs11.2 b ?_).trans e
      exact (below b (hDD ▸ hfl b hb)).2
  ·obtain ⟨k,e⟩:=hD4
   exact ⟨0,[],#[],k,H2,I4.pins_of (Dpin e (I2.hok.fresh (by omega))),.nil,st4,fun b hb=>(f2 b hb).1,w0⟩
 exact codeAny_compStart_list loop (T.self _ _ _ _ _ st4 loop)
theorem wn{elt tg iter:Expr}{ifs:List Expr}{sc:Scope}{M tgs:List Str}{pos:Pos}{wi:TI}{g:TG}{tt:TT}{te:TE}(hc:X.calm=true)(B:kh X sc M tgs)(hi:PI X tg iter wi)
 (hg:∀ cl C fp s H,PG (blk X sc cl C fp s H (M++tgs)) tg g) (ht:∀ cl C fp s H,su (blk X sc cl C fp s H (M++tgs)) ifs tt) (he:∀ cl C fp s H,PE (blk X sc cl C fp s H (M++tgs)) elt te)
 (hs:∀ x,foldedSetIterable iter X.env x=pure x:=by intro _;rfl):PE X (.ListComp elt [⟨tg,iter,ifs,0⟩] sc pos) (mT wi tgs.length g tt te):=by
 intro pins s σ H Q I h;rw [eval_ListComp]
 exact lj hc B hi hg ht he hs I h fun C D m s6 H' I8 hn hC hLC hsz hcC hp q f=>⟨m,hn,fun h' hs'=>⟨.ref D,H',I8.turned (t':=s6.toks) (it:=C) (fun b o hb e=>(hs'.2 b hb).trans e) hC (Ay hLC) (.inr hsz) hcC hp,rfl,q⟩⟩
end
end L2
namespace HT
open PySem PySem.Spec PyProof.Rows PySem.SeqAt
section
open PySem.SeqAt
open PySem.AutoSeq1 (wpAny_loadPart')
open PySem.MeetsSeq PySem.MeetsSeq2 PySem.MeetsSeq3
end
section
variable{prog:Program}{w:World}{A:Around}{E:Value->Shared->Prop}{s:Shared}
end
end HT
namespace L2
open PySem PySem.Spec PyProof.Rows
section
variable{X:Cx}
def yn(K:A9)(H:Hp)(T:String):V->Prop
 | .non=>T = "NoneType"
 | .bl _=>T = "bool"
 | .int _=>T = "int"
 | .str _=>T = "str"
 | .ref p=>(T = "list" /\ ∃ xs,SqL K H p xs)\/(T = "tuple" /\ ∃ xs,SqT K H p xs)\/(T = "dict" /\ ((∃ kvs,H p=some (.dK kvs))\/∃ kvs,H p=some (.dT kvs)))
 | _=>False
def wQ(T C:String):Bool:=T == C||(T == "bool" && C == "int")
def isiC(C:String):Prop:=C = "int" \/ C = "bool" \/ C = "tuple" \/ C = "list" \/ C = "str"
def rIsi(K:A9):List V->Hp->VK->Prop:=fun xs H Q=>∃ x T C,xs=[x,.ty C]/\isiC C/\yn K H T x/\Q (.bl (wQ T C)) H
theorem u8:aE X (.builtin "isinstance") (rIsi X.K):=by
 intro pins s σ H xs us Q I r h;obtain ⟨x,T,C,rfl,hC,hk,q⟩:=h;obtain ⟨u,w',rfl,rx,rc⟩:=mJ r;cases rc
 have fin:∀ (b:Bool) (t:Nat),b=wQ T C->EP X pins σ Q (.bool b) { s with toks:=t }:=fun b t e=>⟨.bl b,H,I.tok t,rfl,by rw [e];exact q⟩
 have fin0:∀ (b:Bool),b=wQ T C->EP X pins σ Q (.bool b) s:=fun b e=>⟨.bl b,H,I,rfl,by rw [e];exact q⟩
 cases x with
 | non =>
  cases rx;cases (show T = "NoneType" from hk)
  rcases hC with rfl | rfl | rfl | rfl | rfl
  ·exact IsiPair.NoneType_int (fin _ _ rfl)
  ·exact IsiPair.NoneType_bool (fin _ _ rfl)
  ·exact IsiPair.NoneType_tuple (fin _ _ rfl)
  ·exact IsiPair.NoneType_list (fin _ _ rfl)
  ·exact IsiPair.NoneType_str (fin _ _ rfl)
 | bl b =>
  cases rx;cases (show T = "bool" from hk)
  rcases hC with rfl | rfl | rfl | rfl | rfl
  ·exact IsiPair.bool_int (fin0 _ rfl)
  ·exact IsiPair.bool_bool (fin0 _ rfl)
  ·exact IsiPair.bool_tuple (fin _ _ rfl)
  ·exact IsiPair.bool_list (fin _ _ rfl)
  ·exact IsiPair.bool_str (fin _ _ rfl)
 | int i =>
  obtain ⟨t,rfl⟩:=rx;cases (show T = "int" from hk)
  rcases hC with rfl | rfl | rfl | rfl | rfl
  ·exact IsiPair.int_int (fin0 _ rfl)
  ·exact IsiPair.int_bool (fin _ _ rfl)
  ·exact IsiPair.int_tuple (fin _ _ rfl)
  ·exact IsiPair.int_list (fin _ _ rfl)
  ·exact IsiPair.int_str (fin _ _ rfl)
 | str z =>
  obtain ⟨t,rfl⟩:=rx;cases (show T = "str" from hk)
  rcases hC with rfl | rfl | rfl | rfl | rfl
  ·exact IsiPair.str_int (fin _ _ rfl)
  ·exact IsiPair.str_bool (fin _ _ rfl)
  ·exact IsiPair.str_tuple (fin _ _ rfl)
  ·exact IsiPair.str_list (fin _ _ rfl)
  ·exact IsiPair.str_str (fin0 _ rfl)
 | ref p =>
  cases rx
  rcases hk with ⟨rfl,xs,hq⟩ | ⟨rfl,xs,hq⟩ | ⟨rfl,hk⟩
  ·obtain ⟨its,_,pl,_⟩:=I.list hq
   obtain ⟨o,n,e,c,hd,_⟩:=pl
   rcases hC with rfl | rfl | rfl | rfl | rfl
   ·exact IsiPair.list_int e c (fin _ _ rfl)
   ·exact IsiPair.list_bool e c (fin _ _ rfl)
   ·exact IsiPair.list_tuple e c (fin _ _ rfl)
   ·exact IsiPair.list_list e c (fin0 _ rfl)
   ·exact IsiPair.list_str e c (fin _ _ rfl)
  ·obtain ⟨its,_,⟨o,e,c,_⟩,_⟩:=I.tuple hq
   rcases hC with rfl | rfl | rfl | rfl | rfl
   ·exact IsiPair.tuple_int e c (fin _ _ rfl)
   ·exact IsiPair.tuple_bool e c (fin _ _ rfl)
   ·exact IsiPair.tuple_tuple e c (fin0 _ rfl)
   ·exact IsiPair.tuple_list e c (fin _ _ rfl)
   ·exact IsiPair.tuple_str e c (fin _ _ rfl)
  ·have z:∃ o,s.heap.get? p=some o/\o.cls = .type "dict" := by
    rcases hk with ⟨kvs,hk⟩ | ⟨kvs,hk⟩
    ·obtain ⟨_,_,_,_,o,_,_,e,ex,_⟩:=I.hok p _ hk
     exact ⟨o,e,ex.1⟩
    ·obtain ⟨_,_,_,_,o,_,_,e,ex,_⟩:=I.hok p _ hk
     exact ⟨o,e,ex.1⟩
   obtain ⟨o,e,c⟩:=z
   rcases hC with rfl | rfl | rfl | rfl | rfl
   ·exact IsiPair.dict_int e c (fin _ _ rfl)
   ·exact IsiPair.dict_bool e c (fin _ _ rfl)
   ·exact IsiPair.dict_tuple e c (fin _ _ rfl)
   ·exact IsiPair.dict_list e c (fin _ _ rfl)
   ·exact IsiPair.dict_str e c (fin _ _ rfl)
 | _=>exact False.elim hk
end
end L2
namespace RawD
open PySem PySem.Spec PyProof.Rows PySem.W
def At(h:Heap)(d:Addr)(es:Array DictEntry)(ep:Nat):Prop:=∃ o,h.get? d=some o/\o.ExactDict/\o.data = .dict es ep
theorem At.keep{h h':Heap}{d:Addr}{es:Array DictEntry}{ep:Nat}(x:At h d es ep)(k:∀ o,h.get? d=some o->h'.get? d=some o):At h' d es ep:=let ⟨o,a,r⟩:=x;⟨o,k o a,r⟩
theorem At.ty{s:Shared}{d:Addr}{es:Array DictEntry}{ep:Nat}(x:At s.heap d es ep):s.TypeIs (.ref d) "dict" := let ⟨o,a,b,_⟩:=x;⟨o,a,b.1⟩
theorem At.lt{h:Heap}{d:Addr}{es:Array DictEntry}{ep:Nat}(x:At h d es ep):d < h.objs.size:=let ⟨_,a,_⟩:=x;yN a
section
variable{prog:Program}{w:World}{A:Around}{E:Value->Shared->Prop}{s:Shared}{d it:Addr}{es:Array DictEntry}{ep i:Nat}
theorem iter{Q:Value->Shared->Prop}(lo:(d == sysModules)=false)(x:At s.heap d es ep)
 (q:Q (.ref s.heap.objs.size) { s with heap:=s.heap.push { cls:= .type "dict_keyiterator",data:= .fields #[.ref d,.int 0 0,.int es.size 0,.int ep 0] } }) :
 wpAny (model prog w) A (pyIter (.ref d)) Q E s:=by
 have ty:=x.ty;obtain ⟨o,a1,a2,a3⟩:=x;refine wpAny_pyIter_slot ty F.slot_dict_iter (zx F.slot_dict_iter ty F.entry_dict_iter ?_ (F.args_dict_iter_1 _));unfold Builtin.«dict.__iter__»;refine yB ?_;unfold Builtin.Dict.dictSlotNone;refine yB (wpAny_notOrdered_dict ty ?_)
 show wpAny _ _ (pure (Value.ref d)) _ _ s
 refine yE ?_
 show wpAny _ _ (Builtin.Dict.showsAll d >>= _) _ _ s
 unfold Builtin.Dict.showsAll;rw [if_neg (by rw [lo];exact yJ)];refine yB (yE ?_);refine yB (wpAny_dictEntries a1 a3 (yB (wpAny_dictEpoch a1 a3 ?_)));exact yB (zk (yE ⟨_,rfl, "dict_keyiterator",_,⟨_,yQ _ rfl,rfl⟩,F.slot_dict_keyiterator_next.lookup,q⟩))
theorem item{Q:Option Value->Shared->Prop}(hit:s.heap.IsKeyIter it d i es.size ep)(x:At s.heap d es ep)(hi:i < es.size)
 (q:∀ h',h'.IsKeyIter it d (i+1) es.size ep->Heap.SameBut it s.heap h'->Q (some es[i].key) { s with heap:=h' }):wpAny (model prog w) A (pyNext (.ref it)) Q E s:=by
 obtain ⟨oi,b1,b2,b3⟩:=id hit;obtain ⟨o,a1,a2,a3⟩:=x;unfold pyNext
 refine yB (wpAny_attempt (zq (name:=Str.ofString "__next__") hit.typeIs F.slot_dict_keyiterator_next
  (zx F.slot_dict_keyiterator_next hit.typeIs F.entry_dict_keyiterator_next ?_ (F.args_dict_keyiterator_next_1 _))))
 refine yB (yE (yB (yB ?_)))
 first | refine yB (Ah hit.typeIs (yE ?_)) | refine yB (Ax hit.typeIs (yE ?_))
 refine yB (wpAny_fieldsOf b1 b3 ?_)
 have no:Builtin.Dict_items.ownsTuple "dict_keyiterator" = false:=by decide
 simp only [no,zL,if_false]
 show wpAny _ _ (if (Value.ref d == Value.none)=true then _ else _) _ _ s
 rw [if_neg (show ¬ ((Value.ref d == Value.none)=true) from yJ)];refine yB (yE (yB (wpAny_dictEntries a1 a3 ?_)));rw [if_neg (by simp)];refine yB (yE (yB (wpAny_dictEpoch a1 a3 ?_)));rw [if_neg (by simp)];refine yE ?_;simp only [show ¬ ((i:Int) < 0) from by omega,if_false,AI,zA hi];refine yB ?_
 first | refine yB (Ah hit.typeIs (yE ?_)) | refine yB (Ax hit.typeIs (yE ?_))
 refine yB (wpAny_isOneOf_keyiter hit.typeIs ?_)
 show wpAny _ _ (setField (.ref it) 1 (rawInt ((i:Int)+1)) >>= _) _ _ s
 refine yB (A6 b1 b3 (by simp) ?_)
 have on:(s.heap.update it (Obj.mapFields (·.setIfInBounds 1 (rawInt ((i:Int)+1))))).IsKeyIter it d (i+1) es.size ep :=
  ⟨_,Ab _ b1 (AK (AD b3 _)),(Obj.cls_mapFields ..).trans b2,by rw [AD b3];simp [rawInt]⟩
 refine yB (zG (yB (wpAny_isOneOf_keyiter (s:={ s with heap:=s.heap.update it (Obj.mapFields (·.setIfInBounds 1 (rawInt ((i:Int)+1)))) }) on.typeIs ?_)))
 show wpAny _ _ (pure es[i].key) _ _ _
 exact yE (yE ⟨_,rfl,yE (q _ on (Heap.SameBut.update ..))⟩)
theorem stop{Q:Option Value->Shared->Prop}(hh:A.handled=none)(hit:s.heap.IsKeyIter it d i es.size ep)(x:At s.heap d es ep)(hi:es.size<=i)
 (q:∀ h',Heap.ExtBut it s.heap h'->Q none { s with heap:=h' }):wpAny (model prog w) A (pyNext (.ref it)) Q E s:=by
 obtain ⟨oi,b1,b2,b3⟩:=id hit;obtain ⟨o,a1,a2,a3⟩:=x;unfold pyNext
 refine yB (wpAny_attempt (zq (name:=Str.ofString "__next__") hit.typeIs F.slot_dict_keyiterator_next
  (zx F.slot_dict_keyiterator_next hit.typeIs F.entry_dict_keyiterator_next ?_ (F.args_dict_keyiterator_next_1 _))))
 refine yB (yE (yB (yB ?_)))
 first | refine yB (Ah hit.typeIs (yE ?_)) | refine yB (Ax hit.typeIs (yE ?_))
 refine yB (wpAny_fieldsOf b1 b3 ?_)
 have no:Builtin.Dict_items.ownsTuple "dict_keyiterator" = false:=by decide
 simp only [no,zL,if_false]
 show wpAny _ _ (if (Value.ref d == Value.none)=true then _ else _) _ _ s
 rw [if_neg (show ¬ ((Value.ref d == Value.none)=true) from yJ)];refine yB (yE (yB (wpAny_dictEntries a1 a3 ?_)));rw [if_neg (by simp)];refine yB (yE (yB (wpAny_dictEpoch a1 a3 ?_)));rw [if_neg (by simp)];refine yE ?_;simp only [show ¬ ((i:Int) < 0) from by omega,if_false,AI,Array.getElem?_eq_none hi];refine yB ?_
 first | refine yB (Ah hit.typeIs (yE ?_)) | refine yB (Ax hit.typeIs (yE ?_))
 show wpAny _ _ (setField (.ref it) 0 .none >>= _) _ _ s
 refine yB (A6 b1 b3 (by simp) ?_)
 show wpAny _ _ (newExc (.type "StopIteration") [] >>= _) _ _ _
 refine yB ?_;simp only [newExc,newTuple];refine yB (zk ?_ (by size_fits));refine yB (m:=firstArgMember _ _) (wpAny_of_eq (a:=Value.none) (by first | rfl | (simp only [firstArgMember];rfl)) ?_);refine zk ?_ (by size_fits);simp only [raiseNew];refine yB (wpAny_handled ?_);rw [show A.in1.handled=none from hh];refine yB (yE (wpAny_throw ?_));refine yB (wpAny_isInstance (T := "StopIteration") (b:=true) ⟨_,yQ _ rfl,rfl⟩ isSubtype_stop ?_);exact yE (q _ (((Heap.SameBut.update ..).extBut.push _).push _))
theorem walks(hh:A.handled=none)(I d:Addr)(hne:d≠I)(es:Array DictEntry)(ep:Nat) :
 Walks prog w A I [I,d] [I] es.size (fun i v=>∃ h:i < es.size,v=es[i].key) (fun i h=>h.IsKeyIter I d i es.size ep/\At h d es ep) where
 sub:=fun b hb=>by simp at hb;simp [hb]
 frame:=fun _ _ _ st hk=>⟨st.1.at fun o e=>hk I (by simp) o e,st.2.keep fun o e=>hk d (by simp) o e⟩
 item:=fun i s Q E hi st hQ=>item st.1 st.2 hi fun h' a b=>hQ _ h' s.toks ⟨hi,rfl⟩ ⟨a,st.2.keep fun o e=>b.extBut d o hne e⟩ fun b' o hb e=>b.extBut b' o (fun h=>hb (by simp [h])) e
 done:=fun s Q E st hQ=>stop hh st.1 st.2 (yO _) fun h' he'=>hQ h' s.toks fun b o hb e=>he' b o (fun h=>hb (by simp [h])) e
 self:=fun _ _ _ _ st hQ=>wpAny_pyIter_keyiter st.1 hQ
theorem src(lo:(d == sysModules)=false):KdlSrc prog w "dict" d d es.size (fun i v=>∃ h:i < es.size,v=es[i].key) (fun h=>At h d es ep) where
 type:=fun _ x=>x.ty
 there:=fun _ x=>⟨x.lt,x.lt⟩
 keep:=fun _ _ x hk=>x.keep fun o e=>hk d (.inl rfl) o e
 notList:=by decide
 notTuple:=by decide
 hint:=fun _ _ _ _ x q=>kdl_hint_dict x.ty q
 iter:=fun _ _ hh x=>⟨_,_,(fun _ _ q=>iter lo x q),walks hh _ d (za x.lt) es ep,⟨⟨_,yQ _ rfl,rfl,rfl⟩,x.keep fun _ e=>yC _ e⟩⟩
end
end RawD
namespace RawD
open PySem PySem.Spec PyProof.Rows PySem.W
section
variable{prog:Program}{w:World}{A:Around}{E:Value->Shared->Prop}{s:Shared}{d:Addr}{es:Array DictEntry}{ep:Nat}
theorem rl(lo:(d == sysModules)=false) :
 MeetsIn prog w (Builtin.«dict.__len__» ⟨[.ref d],[]⟩) (fun _ R s=>∃ es ep,At s.heap d es ep/\R (.ok (.ret (.int es.size s.toks))) { s with toks:=s.toks+1 }) :=
 .of_wp fun A R s hZ=>by
  obtain ⟨es,ep,x,h⟩:=hZ;obtain ⟨o,a1,a2,a3⟩:=x
  show wpAny _ _ (dictSize d >>= _) _ _ s
  unfold dictSize;refine yB (yB (wpAny_dictEntries a1 a3 (yE ?_)))
  show wpAny _ _ (Builtin.Dict.pendingCount d >>= _) _ _ s
  refine yB (wpAny_pendingCount_other lo (wpAny_ret_mkInt ?_));rw [Nat.add_zero];exact h
theorem len{Q:Value->Shared->Prop}(lo:(d == sysModules)=false)(x:At s.heap d es ep)(fit:(es.size:Int) < 2 ^ 63)
 (h:Q (.int es.size (s.toks+1)) { s with toks:=s.toks+1+1 }):wpAny (model prog w) A (call (.builtin "len") [.ref d]) Q E s:=by
 refine Calls.call_function_entry kind_len plain_len entry_len (args_len1 _) ?_;unfold Builtin.«len»;refine yB (m:=oneArg "len" _) (yE ?_)
 refine yB (m:=callSpecial? (.ref d) (Str.ofString "__len__")) (zq (name:=Str.ofString "__len__") x.ty F.slot_dict_len
  (call_meetsIn F.slot_dict_len x.ty F.entry_dict_len (F.args_dict_len_1 _) (rl lo) ⟨es,ep,x,?_⟩))
 show wpAny _ _ _ _ _ { s with toks:=s.toks+1 }
 refine yB (zG (yE (yB (wpAny_letGo ?_))))
 show wpAny _ _ (if ((es.size:Nat):Int) < 0 then _ else _) _ _ _
 rw [if_neg (by omega)]
 show wpAny _ _ (if ((es.size:Nat):Int)>=2 ^ 63 then _ else _) _ _ _
 rw [if_neg (by omega)];exact yB (wpAny_mkInt (yE ⟨_,rfl,h⟩))
end
end RawD
namespace L2
open PySem PySem.Spec PyProof.Rows
section
variable{X:Cx}
theorem oP{P:Program}{w:World}{H:Hp}{h:Heap}{a:Addr}{kvs:List (List Key×V)}(ok:HOk P w H h)(e:H a=some (.dT kvs)) :
 kvs.length<=sizeLine/\(a == sysModules)=false/\(kvs.map (·.1)).Nodup/\∃ es ep,RawD.At h a es ep/\es.size=kvs.length/\∀ i (hi:i < es.size),∃ b k v,es[i].key = .ref b/\kvs[i]?=some (k,v)/\H b=some (.tup (k.map kV)):=by
 obtain ⟨z,y,xs,r,o,es,ep,h1,h2,h3,h4,h5⟩:=(show aX P w H h a (.dT kvs) from ok a _ e);have hl:=r.length
 have hl2:es.size=xs.length:=by
  have:=congrArg List.length h4;simpa using this
 have keys:∀ {l:List (List Key×V)} {m:List (List Key×Addr×Value)},
  Paired (fun (p:List Key×V) (q:List Key×Addr×Value)=>p.1=q.1/\H q.2.1=some (.tup (p.1.map kV))/\ax p.2 q.2.2) l m->l.map (·.1)=m.map (·.1):=by
  intro l m pr
  induction pr with
  | nil=>rfl
  | cons hd _ ih=>rw [yW,yW,ih,hd.1]
 refine ⟨z,y,by rw [keys r];exact h5,es,ep,⟨o,h1,h2,h3⟩,hl2.trans hl.symm,fun i hi=> ?_⟩
 have hx:i < xs.length:=by omega
 have get:∀ {l:List (List Key×V)} {m:List (List Key×Addr×Value)} {i:Nat} {q:List Key×Addr×Value},
  Paired (fun (p:List Key×V) (q:List Key×Addr×Value)=>p.1=q.1/\H q.2.1=some (.tup (p.1.map kV))/\ax p.2 q.2.2) l m->m[i]?=some q->∃ p,l[i]?=some p/\p.1=q.1/\H q.2.1=some (.tup (p.1.map kV)):=by
  intro l m i q pr
  induction pr generalizing i with
  | nil=>intro e;simp at e
  | cons hd _ ih =>
   intro e
   cases i with
   | zero=>simp at e;subst e;exact ⟨_,rfl,hd.1,hd.2.1⟩
   | succ i=>simp at e;exact ih e
 obtain ⟨p,e1,_,e2⟩:=get (i:=i) r (yD hx);refine ⟨xs[i].2.1,p.1,p.2,?_,e1,e2⟩
 have:es[i]=entryOfKey (tupleKind (be P w)) xs[i]:=by
  have q:es.toList[i]?=some (entryOfKey (tupleKind (be P w)) xs[i]):=by rw [h4];simp [hx]
  rw [Ap,zA hi] at q;exact Option.some.inj q
 rw [this];rfl
theorem rZ:aE X (.builtin "len") (fun xs H Q=>∃ a kvs,xs=[V.ref a]/\H a=some (.dT kvs)/\Q (.int kvs.length) H):=by
 intro pins s σ H xs us Q I r h;obtain ⟨a,kvs,rfl,ha,q⟩:=h;obtain ⟨u,rfl,ru⟩:=bN r;cases ru;obtain ⟨z,lo,_,es,ep,x,hl,_⟩:=oP I.hok ha;exact RawD.len lo x (by rw [hl];rw [sizeLine_eq] at z;omega) ⟨.int kvs.length,H,I.tok _,⟨_,by rw [hl]⟩,q⟩
theorem pw(hc:X.calm=true):aE X (.type "list") (fun xs H Q=>∃ a kvs,xs=[V.ref a]/\H a=some (.dT kvs) /\
 ∀ l bs,H l=none->(kvs.map (·.1)).Nodup->bs.length=kvs.length->(∀ (i:Nat) k v,kvs[i]?=some (k,v)->∃ b,bs[i]?=some (V.ref b)/\H b=some (.tup (k.map kV)))->Q (.ref l) (upd H l (.lst bs))):=by
 intro pins s σ H xs us Q I r h;obtain ⟨a,kvs,rfl,ha,q⟩:=h;obtain ⟨u,rfl,ru⟩:=bN r;cases ru;obtain ⟨z,lo,nd,es,ep,x,hl,hk⟩:=oP I.hok ha
 refine PySem.W.kdl_call (RawD.src (ep:=ep) (es:=es) lo) (I.ok.hd hc) x (by rw [hl];exact z) fun h' tk acc c keep hD hacc=> ?_
 have hf:H s.heap.objs.size=none:=I.hok.fresh (yO _);have hlen:acc.size=es.size:=hacc.1
 let bs:List V:=acc.toList.map fun u=>match u with | .ref b=>V.ref b | _=>V.non
 have key:∀ i (hi:i < acc.size),∃ b k v,acc[i] = .ref b/\kvs[i]?=some (k,v)/\H b=some (.tup (k.map kV)):=fun i hi=>by
  obtain ⟨hi',e⟩:=hacc.2 i acc[i] (by simp [hi]);obtain ⟨b,k,v,e1,e2,e3⟩:=hk i hi';exact ⟨b,k,v,e.trans e1,e2,e3⟩
 have hv:aq bs acc.toList:=by
  have gen:∀ (l:List Value),(∀ u∈l,∃ b,u = .ref b)->aq (l.map fun u=>match u with | .ref b=>V.ref b | _=>V.non) l:=by
   intro l
   induction l with
   | nil=>intro _;exact .nil
   | cons u l ih =>
    intro h;obtain ⟨b,rfl⟩:=h u yL;exact .cons rfl (ih fun v hv=>h v (yH _ hv))
  refine gen acc.toList fun u hu=> ?_
  obtain ⟨i,hi,e⟩:=Ad.mp hu
  have hi':i < acc.size:=by simpa using hi
  obtain ⟨b,k,v,e1,_⟩:=key i hi';exact ⟨b,by rw [<- e];simpa using e1⟩
 have hbl:bs.length=kvs.length:=by
  show (acc.toList.map _).length=_
  rw [yF,zt,hlen,hl]
 refine ⟨.ref s.heap.objs.size,upd H s.heap.objs.size (.lst bs),?_,rfl,q _ bs hf nd hbl fun i k v e=> ?_⟩
 ·exact I.laid (t':=tk) keep (yO _) ⟨by rw [hbl];exact z,acc.toList,c,hv,by simpa using hD⟩
 ·have hi:i < acc.size:=by
   have:=(yR.mp e).1;omega
  obtain ⟨b,k',v',e1,e2,e3⟩:=key i hi;rw [e] at e2;cases e2;refine ⟨b,?_,e3⟩
  show (acc.toList.map _)[i]?=_
  rw [zc,Ap,zA hi,e1];rfl
theorem sk:∀ (bs:List Bool),(List.range bs.length).all (fun i=>bs.getD i false)=bs.all id:=fun bs=>by
 rw [zM];simp only [yZ,Ac]
 constructor
 ·intro h b hb
  obtain ⟨i,hi,e⟩:=Ad.mp hb;have:=h i hi;rw [zf,yD hi,e] at this;exact this
 ·intro h i hi
  rw [zf,yD hi];exact h _ (zN hi)
theorem u9(hc:X.calm=true):aE X (.builtin "all") (fun xs H Q=>∃ (p:Addr) (bs:List Bool),xs=[V.ref p]/\SqL X.K H p (bs.map V.bl)/\Q (.bl (bs.all id)) H):=by
 intro pins s σ H xs us Q I r h;obtain ⟨p,bs,rfl,hq,q⟩:=h;obtain ⟨u,rfl,ru⟩:=bN r;cases ru;obtain ⟨its,rv,pl,hz⟩:=I.list hq;have hlen:=rv.length;rw [yF] at hlen
 have hlt:p < s.heap.objs.size:=by
  obtain ⟨o,n,e,_⟩:=pl;exact yN e
 refine call_all_walk (wpAny_pyIter_list pl.isList ⟨s.heap.objs.size,_,_,its.toArray.size,_,_,fun i=>bs.getD i false,rfl,Walks.list (show X.A.in1.handled=none from I.ok.hd hc) s.heap.objs.size p (za hlt) its.toArray,
  ⟨⟨_,yQ _ rfl,rfl,rfl⟩,pl.isList.at fun o e=>yC _ e⟩,fun i v s' Q' E' hP hQ'=> ?_,fun h' tk hk=> ?_⟩)
 ·have hP:its.toArray[i]?=some v:=hP
  have hi:i < bs.length:=by
   have:=(Array.getElem?_eq_some_iff.mp hP).1;rw [yG] at this;omega
  obtain ⟨u,e1,e2⟩:=rv.get (i:=i) (x:=V.bl bs[i]) (by simp [hi])
  have:v = .bool bs[i]:=by
   rw [show its.toArray[i]?=its[i]? by simp,e1] at hP;cases hP;exact e2
  subst this;have hQ':Q' (bs.getD i false) s':=hQ';rw [show bs.getD i false=bs[i] by simp [zf,hi]] at hQ';exact zV hQ'
 ·refine ⟨.bl (bs.all id),H,?_,?_,q⟩
  ·exact I.kept (h':=h') (t':=tk) fun b o e=>hk b o (by have:=yN e;simp;exact za this) (yC _ e)
  ·show Value.bool _=Value.bool _
   rw [yG,<- hlen,sk]
theorem u6:aE X (.type "range") (fun xs H Q=>(∃ j:Int,xs=[V.int j]/\∀ l,H l=none->Q (.ref l) (upd H l (.rng 0 j)))\/(∃ i j:Int,xs=[V.int i,V.int j]/\∀ l,H l=none->Q (.ref l) (upd H l (.rng i j)))):=by
 intro pins s σ H xs us Q I r h;have hf:H s.heap.objs.size=none:=I.hok.fresh (yO _)
 rcases h with ⟨j,rfl,q⟩ | ⟨i,j,rfl,q⟩
 ·obtain ⟨u,rfl,t,rfl⟩:=bN r
  exact call_range_1 ⟨.ref s.heap.objs.size,_,I.laid (o:= .rng 0 j) (fun _ _ e=>yC _ e) (yO _) ⟨_,_,_,yQ _ rfl⟩,rfl,q _ hf⟩
 ·obtain ⟨u,w',rfl,⟨t,rfl⟩,⟨t',rfl⟩⟩:=mJ r
  exact call_range_2 ⟨.ref s.heap.objs.size,_,I.laid (o:= .rng i j) (fun _ _ e=>yC _ e) (yO _) ⟨_,_,_,yQ _ rfl⟩,rfl,q _ hf⟩
theorem tN(lo hi i:Int):(Builtin.Range.rangePlace? lo hi 1 i).isSome=decide (lo<=i/\i < hi):=by
 unfold Builtin.Range.rangePlace?
 by_cases h:lo<=i/\i < hi
 ·rw [yV h]
  simp [h.1,h.2,Int.emod_one]
 ·rw [zd h]
  by_cases h1:lo<=i
  ·have h2:¬ i < hi:=fun q=>h ⟨h1,q⟩
   simp [h1,h2]
  ·simp [h1]
section
open PySem.SeqAt
open PySem.AutoSeq1 (wpAny_loadPart')
open PySem.MeetsSeq PySem.MeetsSeq2 PySem.MeetsSeq3
theorem kM(l:Addr)(lo hi i:Int)(a b c t:Tok):Meets (Builtin.«range.__contains__» ⟨[.ref l,.int i t],[]⟩)
 (fun _ R s=>s.heap.get? l=some { cls:= .type "range",data:= .fields #[.int lo a,.int hi b,.int 1 c] }/\R (.ok (.ret (.bool (decide (lo<=i/\i < hi))))) s) :=
 .of_wp fun prog w A R s h=>by
  obtain ⟨hp,g,d,tk,os⟩:=s;obtain ⟨hl,h⟩:=h;rw [<- tN] at h
  wp_walk using zF hl
  exact ⟨_,rfl,h⟩
end
def rInR(neg:Bool):R2:=fun x y H Q=>∃ (l:Addr) (i lo hi:Int),x = .int i/\y = .ref l/\H l=some (.rng lo hi)/\Q (.bl (if neg then !decide (lo<=i/\i < hi) else decide (lo<=i/\i < hi))) H
theorem op_inR:OpR X (compareOp .In) (rInR false):=by
 intro pins s σ H x y v u Q I rx ry h;obtain ⟨l,i,lo,hi,rfl,rfl,hl,q⟩:=h;obtain ⟨t,rfl⟩:=rx;cases ry;obtain ⟨a,b,c,e⟩:=(show aX X.prog X.w H s.heap l (.rng lo hi) from I.hok l _ hl);exact PySem.SeqRoads2.in_meets ⟨_,e,rfl⟩ F.slot_range_contains F.entry_range_contains (F.args_range_contains_2 _ _) (kM l lo hi i a b c t) ⟨e,_,rfl,⟨.bl _,H,I,rfl,q⟩⟩
theorem qY:OpR X (compareOp .NotIn) (rInR true):=by
 intro pins s σ H x y v u Q I rx ry h;obtain ⟨l,i,lo,hi,rfl,rfl,hl,q⟩:=h;obtain ⟨t,rfl⟩:=rx;cases ry;obtain ⟨a,b,c,e⟩:=(show aX X.prog X.w H s.heap l (.rng lo hi) from I.hok l _ hl);exact PySem.SeqRoads2.notIn_meets ⟨_,e,rfl⟩ F.slot_range_contains F.entry_range_contains (F.args_range_contains_2 _ _) (kM l lo hi i a b c t) ⟨e,_,rfl,⟨.bl _,H,I,rfl,q⟩⟩
theorem xq{prog:Program}{w:World}{A:Around}{E:Value->Shared->Prop}{s:Shared}{t b:Addr}{ws:List Value}{Q:Value->Shared->Prop}(ht:IsTup s.heap t #[])(hb:IsTup s.heap b ws.toArray)(h:Q (.ref b) s) :
 wpAny (model prog w) A (binaryOp .Add (.ref t) (.ref b)) Q E s:=by
 obtain ⟨⟨cls,dd,data,sl⟩,ho,hc,n,hd⟩:=id ht;obtain ⟨⟨cls2,dd2,data2,sl2⟩,ho2,hc2,n2,hd2⟩:=id hb;simp only at hc hd hc2 hd2;subst hc hd hc2 hd2
 exact concat_meets ⟨_,ho,rfl⟩ ⟨_,ho2,rfl⟩ noFill_tuple_add seq_tuple_add PySem.F.slot_tuple_add PySem.F.entry_tuple_add (PySem.F.args_tuple_add_2 _ _)
  (tuple_addW0 t b #[] ws.toArray n n2 dd dd2 sl sl2 (by simp)) ⟨ho,ho2,h⟩
end
end L2
namespace HT
open PySem PySem.Spec PyProof.Rows
section
variable{prog:Program}{w:World}{A:Around}{E:Value->Shared->Prop}{s:Shared}
theorem fo{t sl:Addr}{items:Array Value}{vl vu:Value}{lo hi:Option Int}{Q:Value->Shared->Prop}(ht:IsTup s.heap t items)(hs:s.heap.IsSliceOf sl vl vu .none)(pl:IsPart vl lo)(pu:IsPart vu hi)
 (hw:sIx items.size 0 lo=0/\sIx items.size items.size hi=items.size) (h:Q (.ref t) s):wpAny (model prog w) A (getItem (.ref t) (.ref sl)) Q E s:=by
 obtain ⟨os,hos,hcs,hds⟩:=id hs;have hTs:s.TypeIs (.ref sl) "slice" := ⟨os,hos,hcs⟩;unfold getItem
 try with_reducible refine zG ?_
 first | refine yB (yE ?_) | skip
 refine yB (wpAny_sequenceKey ht.typeIs (by decide) ?_)
 refine yB (zq (name:=Str.ofString "__getitem__") ht.typeIs PyProof.Rows.slot_tuple_getitem
  (zx PyProof.Rows.slot_tuple_getitem ht.typeIs entry_tuple_getitem ?_ (args_tuple_getitem _ _)))
 show wpAny _ _ (Builtin.Tuple.tupleItemsOf (.ref t) >>= _) _ _ s
 refine yB (tupleItemsOf_ ht (yB (A2 hTs ?_)));rw [if_pos (by decide)];refine yB (dF hs pl pu ?_)
 show wpAny _ _ (if (((sIx items.size 0 lo:Nat):Int) == 0&&(1:Int) == 1&&(sIx items.size items.size hi - sIx items.size 0 lo) == items.size)=true then _ else _) _ _ s
 rw [if_pos (by rw [hw.1,hw.2];simp)];unfold Builtin.Tuple.tupleIsExact;refine yB (yB (A2 ht.typeIs (yE ?_)));rw [if_pos (by decide)];exact yB (wpAny_rule (yE ⟨_,rfl,yE h⟩))
theorem tP(xs:Array Value):((List.range xs.size).filterMap fun (m:Nat)=>xs[(((xs.size:Int) - 1)+(m:Int) * (-1)).toNat]?).toArray=xs.toList.reverse.toArray:=by
 have e:((List.range xs.size).filterMap fun (m:Nat)=>xs[(((xs.size:Int) - 1)+(m:Int) * (-1)).toNat]?)=xs.toList.reverse:=by
  have e1:((List.range xs.size).filterMap fun (m:Nat)=>xs[(((xs.size:Int) - 1)+(m:Int) * (-1)).toNat]?)=((List.range xs.size).map fun k=>xs.size - 1 - k).filterMap (xs[·]?):=by
   rw [List.filterMap_map]
   congr 1
   funext m
   show xs[(((xs.size:Int) - 1)+(m:Int) * (-1)).toNat]?=xs[xs.size - 1 - m]?
   have em:(((xs.size:Int) - 1)+(m:Int) * (-1)).toNat=xs.size - 1 - m:=by omega
   rw [em]
  rw [e1,PySem.W.krv_range,List.filterMap_reverse,PySem.W.krv_all]
 rw [e]
theorem gH{t sl:Addr}{items:Array Value}{vk:Value}{Q:Value->Shared->Prop}(ht:IsTup s.heap t items)(hs:s.heap.IsSliceOf sl .none .none vk)(pk:IsPart vk (some (-1)))
 (h:Q (.ref s.heap.objs.size) { s with heap:=s.heap.push { cls:= .type "tuple",data:= .seq items.toList.reverse.toArray } }) (hsz:items.size<=sizeLine):wpAny (model prog w) A (getItem (.ref t) (.ref sl)) Q E s:=by
 have htake:sizeOk (.seq items.toList.reverse.toArray):=by
  show items.toList.reverse.toArray.size<=sizeLine
  rw [yG,List.length_reverse,zt];exact hsz
 obtain ⟨os,hos,hcs,hds⟩:=id hs;have hTs:s.TypeIs (.ref sl) "slice" := ⟨os,hos,hcs⟩;unfold getItem
 try with_reducible refine zG ?_
 first | refine yB (yE ?_) | skip
 refine yB (wpAny_sequenceKey ht.typeIs (by decide) ?_)
 refine yB (zq (name:=Str.ofString "__getitem__") ht.typeIs PyProof.Rows.slot_tuple_getitem
  (zx PyProof.Rows.slot_tuple_getitem ht.typeIs entry_tuple_getitem ?_ (args_tuple_getitem _ _)))
 show wpAny _ _ (Builtin.Tuple.tupleItemsOf (.ref t) >>= _) _ _ s
 refine yB (tupleItemsOf_ ht (yB (A2 hTs ?_)));rw [if_pos (by decide)]
 have ap:∀ {n:Nat} {R:Int×Int×Nat->Shared->Prop},R ((n:Int) - 1,-1,n) s->wpAny (model prog w) A.in1 (Builtin.Slice.sliceApplied (.ref sl) (pure (n:Int))) R E s:=fun {n R} hR=>by
  unfold Builtin.Slice.sliceApplied Builtin.Slice.sliceFields;refine yB (yB (zX hos hds (x:= .none) rfl (yB (zX hos hds (x:= .none) rfl (yB (zX hos hds (x:=vk) rfl (yE ?_)))))));refine yB (fP pk ?_)
  show wpAny _ _ (if ((-1:Int) == 0)=true then _ else _) _ _ s
  rw [if_neg (by decide)];refine yB (slicePart_none (yB (slicePart_none (yB (yE ?_)))))
  have e2:Builtin.Slice.slicePlaces ((n:Int) - 1) (-1) (-1)=n:=by
   unfold Builtin.Slice.slicePlaces;rw [if_neg (by decide)]
   by_cases hn:(n:Int) - 1 > -1
   ·rw [if_pos hn]
    have:((n:Int) - 1 - -1 - 1) / (- -1)=(n:Int) - 1:=by
     have e3:((n:Int) - 1 - -1 - 1)=(n:Int) - 1:=by omega
     rw [e3]
     show ((n:Int) - 1) / 1=_
     exact Int.ediv_one _
    rw [this];omega
   ·rw [if_neg hn]
    omega
  refine yE ?_
  show R ((n:Int) - 1,-1,Builtin.Slice.slicePlaces ((n:Int) - 1) (-1) (-1)) s
  rw [e2];exact hR
 refine yB (ap ?_)
 have hno:¬ ((((items.size:Int) - 1) == 0&&(-1:Int) == 1&&items.size == items.size)=true):=by
  intro q;rw [yY,yY] at q;exact absurd q.1.2 (by decide)
 show wpAny _ _ (if (((items.size:Int) - 1) == 0&&(-1:Int) == 1&&items.size == items.size)=true then _ else _) _ _ s
 rw [if_neg hno,tP]
 first
  | exact yB (m:=Builtin.Tuple.tupleExact _) (zk (yE ⟨_,rfl,yE h⟩) htake)
  | exact yB (m:=Builtin.Tuple.tupleExact _) (zk (yB (yE (yE ⟨_,rfl,yE h⟩))) htake)
  | exact yB (yB (m:=Builtin.Tuple.tupleExact _) (zk (yE (yE ⟨_,rfl,yE h⟩)) htake))
end
end HT
namespace L2
open PySem PySem.Spec PyProof.Rows
section
variable{X:Cx}
def tRevT(K:A9)(te tk:TE):TE:=fun σ H Q=>te σ H fun x H1=>xK tk σ H1 fun k H2=>∃ a xs,k=some (-1)/\x = .ref a/\SqT K H2 a xs/\∀ p,H2 p=none->Q (.ref p) (upd H2 p (.tup xs.reverse))
theorem aq.rev:∀ {xs:List V} {us:List Value},aq xs us->aq xs.reverse us.reverse:=fun h=>aq.reverse h
theorem wm{e k:Expr}{te tk:TE}{p2 pos:Pos}(he:PE X e te)(hk:PE X k tk):PE X (.Subscript e (.Slice none none (some k) p2) pos) (tRevT X.K te tk):=by
 intro pins s σ H Q I h;refine Subscript_ (thn (he pins s σ H _ I h) fun v s1 ⟨x,H1,I1,r1,q1⟩=> ?_);refine wpAny_Slice ?_;rw [evalPart_none];refine yE (yE ?_)
 refine thn (gz hk pins s1 σ H1 _ I1 q1) fun vk s2 ⟨o,H2,I2,pk,q2⟩=> ?_
 obtain ⟨a,xs,rfl,rfl,hx,q⟩:=q2;cases r1
 have I3:Inv X pins σ H2 { s2 with heap:=s2.heap.push { cls:= .type "slice",data:= .fields #[.none,.none,vk] } }:=I2.kept (t':=s2.toks) fun b ob q=>yC _ q
 obtain ⟨its,r,ht,hz⟩:=I3.tuple hx
 have hlen:its.toArray.size=xs.length:=by rw [yG];exact r.length.symm
 show wpAny (model X.prog X.w) X.A (subscriptTail e (.Slice none none (some k) p2) (.ref a) (.ref s2.heap.objs.size)) (EP X pins σ Q) X.xe { s2 with heap:=s2.heap.push { cls:= .type "slice",data:= .fields #[.none,.none,vk] } }
 refine tail_any (ops:=[.ref a,.ref s2.heap.objs.size]) ht.typeIs PyProof.Rows.slot_tuple_getitem.lookup (HT.gH ht (Heap.IsSliceOf.new ..) pk ?_ (by rw [hlen];exact hz)) (by with_unfolding_all rfl);refine ⟨.ref (s2.heap.push _).objs.size,_,I3.laid (t':=s2.toks) (o:= .tup xs.reverse) (fun b ob q=>yC _ q) (yO _) ?_,rfl,q _ (I3.hok.fresh (yO _))⟩;exact ⟨by rw [List.length_reverse];exact hz,its.reverse,r.rev,mD.new _ _⟩
end
end L2
namespace Srt
open PySem PySem.W PyProof.Rows
def All{α:Type}(n:Nat)(P:α->Prop):KasT α->Prop
 | .ret a=>P a
 | .ask i j k=>i < n/\j < n/\∀ b,All n P (k b)
theorem All.bind{α β:Type}{n:Nat}{P:β->Prop}{f:α->KasT β}:∀ {t:KasT α},All n (fun a=>All n P (f a)) t->All n P (t.bind f)
 | .ret _,h=>h
 | .ask _ _ _,⟨h1,h2,h3⟩=>⟨h1,h2,fun b=>All.bind (h3 b)⟩
theorem All.mono{α:Type}{n:Nat}{P P':α->Prop}(hp:∀ a,P a->P' a):∀ {t:KasT α},All n P t->All n P' t
 | .ret a,h=>hp a h
 | .ask _ _ _,⟨h1,h2,h3⟩=>⟨h1,h2,fun b=>All.mono hp (h3 b)⟩
def cM(n:Nat)(p:Array Nat):Prop:=0 < n/\p.toList.Perm (List.range n)
theorem cM.lt{n:Nat}{p:Array Nat}(g:cM n p)(k:Nat):p.getD k 0 < n:=by
 by_cases h:k < p.size
 ·have e:p.getD k 0=p[k]:=by simp [Array.getD,h]
  rw [e];have m:p[k]∈List.range n:=g.2.mem_iff.mp (by simp);simpa using m
 ·have e:p.getD k 0=0:=by simp [Array.getD,h]
  rw [e];exact g.1
theorem cM.perm{n:Nat}{p p':Array Nat}(g:cM n p)(h:p'.Perm p):cM n p':=⟨g.1,(Array.perm_iff_toList_perm.mp h).trans g.2⟩
theorem cM.rev{n:Nat}{p:Array Nat}(g:cM n p)(i j:Nat):cM n (kas_rev p i j):=g.perm (mirror_perm _ _ _ _)
theorem asc{n:Nat}{p:Array Nat}(g:cM n p):∀ f k,All n (fun _=>True) (kas_asc p f k)
 | 0,_=>trivial
 | f+1,k=>⟨g.lt _,g.lt _,fun b=>by
  cases b with
  | true=>show All n _ (if true=true then _ else _);rw [if_pos rfl];trivial
  | false=>show All n _ (if false=true then _ else _);rw [if_neg yJ];exact asc g f (k+1)⟩
theorem xi{n:Nat}:∀ f {p:Array Nat} (k q:Nat),cM n p->All n (fun r=>cM n r.1) (kas_desc f p k q)
 | 0,p,_,_,g=>g
 | f+1,p,k,q,g=>⟨g.lt _,g.lt _,fun b=>by
  cases b with
  | true =>
   show All n _ (if true=true then _ else _)
   rw [if_pos rfl]
   by_cases hq:q > 0
   ·rw [if_pos hq];exact xi f _ _ (g.rev _ _)
   ·rw [if_neg hq];exact xi f _ _ g
  | false =>
   show All n _ (if false=true then _ else _)
   rw [if_neg yJ];refine ⟨g.lt _,g.lt _,fun b=> ?_⟩
   cases b with
   | true=>show All n _ (if true=true then _ else _);rw [if_pos rfl];exact g
   | false=>show All n _ (if false=true then _ else _);rw [if_neg yJ];exact xi f _ _ g⟩
theorem xJ{n:Nat}{p:Array Nat}(g:cM n p)(k nrem:Nat):All n (fun r:Nat×Array Nat=>cM n r.2) (kas_tail3 k nrem p):=by
 unfold kas_tail3;exact ((asc (g.rev _ _) _ _).mono fun m _=>(show All n (fun r:Nat×Array Nat=>cM n r.2) (KasT.ret (m,kas_rev p 0 k)) from g.rev _ _)).bind
theorem n8{n:Nat}{p:Array Nat}(g:cM n p)(k nrem:Nat):All n (fun r:Nat×Array Nat=>cM n r.2) (kas_descPart k nrem p):=by
 unfold kas_descPart;refine ((xi _ _ _ g).mono fun r hr=> ?_).bind
 by_cases h:r.2.2 > 0
 ·rw [if_pos h];exact xJ (hr.rev _ _) _ _
 ·rw [if_neg h];exact xJ hr _ _
theorem count{n:Nat}{p:Array Nat}(g:cM n p)(nrem:Nat):All n (fun r:Nat×Array Nat=>cM n r.2) (kas_count nrem p):=by
 unfold kas_count;refine ((asc g _ _).mono fun k _=> ?_).bind
 by_cases h:(k == nrem)=true
 ·rw [if_pos h];exact g
 ·rw [if_neg h]
  by_cases h2:k > 1
  ·rw [if_pos h2]
   refine ⟨g.lt _,g.lt _,fun b=> ?_⟩
   cases b with
   | true=>show All n _ (if true=true then _ else _);rw [if_pos rfl];exact g
   | false=>show All n _ (if false=true then _ else _);rw [if_neg yJ];exact n8 (g.rev _ _) _ _
  ·rw [if_neg h2];exact n8 g _ _
theorem tO{n:Nat}{p:Array Nat}(g:cM n p)(k:Nat):∀ f l r,All n (fun _=>True) (kas_place p k f l r)
 | 0,_,_=>trivial
 | f+1,l,r=>by
  unfold kas_place
  by_cases h:l>=r
  ·rw [if_pos h];trivial
  ·rw [if_neg h]
   refine ⟨g.lt _,g.lt _,fun b=> ?_⟩
   cases b with
   | true=>show All n _ (if true=true then _ else _);rw [if_pos rfl];exact tO g k f _ _
   | false=>show All n _ (if false=true then _ else _);rw [if_neg yJ];exact tO g k f _ _
theorem bin{n:Nat}:∀ f {p:Array Nat} (k:Nat),cM n p->All n (cM n) (kas_bin f p k)
 | 0,_,_,g=>g
 | f+1,p,k,g=>((tO g k k 0 k).mono fun l _=>bin f (k+1) (g.perm (bubble_perm _ _ _))).bind
theorem sort{n:Nat}(h:0 < n):All n (cM n) (kas_sort n):=by
 unfold kas_sort;have g:cM n (List.toArray (List.range n)):=⟨h,by simp⟩;refine ((count g n).mono fun r hr=> ?_).bind
 by_cases h:r.1 < n
 ·rw [if_pos h];exact bin _ _ hr
 ·rw [if_neg h];exact hr
section
variable{prog:Program}{w:World}{A:Around}{E:Value->Shared->Prop}{s:Shared}
def Tups(h:Heap)(vs:List Value):Prop:=∀ v∈vs,∃ a items ns,v = .ref a/\IsTup h a items/\IntsAre items.toList ns/\ns≠[]
theorem uQ{M:Model}{h:Heap}:∀ {vs:List Value},Tups h vs->∃ fs,fs.length=vs.length/\KatTups h vs fs/\∀ v∈fs,Looks M h (typeOf v) (.type "int")
 | [],_=>⟨[],rfl,.nil,fun v hv=>by cases hv⟩
 | v::vs,t=>by
  obtain ⟨fs,h1,h2,h3⟩:=uQ (M:=M) (vs:=vs) fun u hu=>t u (yH _ hu)
  obtain ⟨a,items,ns,rfl,⟨o,g1,g2,n,g3⟩,i,ne⟩:=t v yL
  cases hi:items.toList with
  | nil =>
   rw [hi] at i;cases i;exact absurd rfl ne
  | cons f r =>
   rw [hi] at i
   cases i with
   | cons x tk _ =>
    refine ⟨.int x tk::fs,by simp [h1],.cons g1 g2 g3 (by rw [<- Ap,hi];rfl) h2,fun u hu=> ?_⟩
    rcases yP.mp hu with rfl | hu
    ·exact .now
    ·exact h3 u hu
end
end Srt
namespace L2
open PySem PySem.Spec PyProof.Rows
def na:Value->V
 | .ref b=> .ref b
 | _=> .non
theorem gY:∀ {l:List Value},(∀ u∈l,∃ b,u = .ref b)->aq (l.map na) l
 | [],_=> .nil
 | u::l,h=>by
  obtain ⟨b,rfl⟩:=h u yL;exact .cons rfl (gY fun v hv=>h v (yH _ hv))
theorem kK:∀ {bs:List V} {l:List Value},aq bs l->(∀ b∈bs,∃ a,b = .ref a)->bs=l.map na/\∀ u∈l,∃ b,u = .ref b
 | _,_,.nil,_=>⟨rfl,fun u hu=>by cases hu⟩
 | _,_,.cons r t,h=>by
  obtain ⟨a,rfl⟩:=h _ yL;cases r
  obtain ⟨e,q⟩:=kK t fun b hb=>h b (yH _ hb)
  refine ⟨by rw [yW,<- e];rfl,fun u hu=> ?_⟩
  rcases yP.mp hu with rfl | hu
  ·exact ⟨a,rfl⟩
  ·exact q u hu
section
variable{X:Cx}
end
inductive Dt where
 | non | bl (b:Bool) | int (i:Int) | str (x:Str) | lst | dct | tup (ds:List Dt)
mutual
def Rep(K:A9)(H:Hp):Dt->V->Prop
 | .non,v=>v = .non
 | .bl b,v=>v = .bl b
 | .int i,v=>v = .int i
 | .str x,v=>v = .str x
 | .lst,v=>∃ p xs,v = .ref p/\SqL K H p xs
 | .dct,v=>∃ p,v = .ref p/\((∃ kvs,H p=some (.dK kvs))\/∃ kvs,H p=some (.dT kvs))
 | .tup ds,v=>∃ p xs,v = .ref p/\SqT K H p xs/\vq K H ds xs
def vq(K:A9)(H:Hp):List Dt->List V->Prop
 | [],[]=>True
 | d::ds,x::xs=>Rep K H d x/\vq K H ds xs
 | _,_=>False
end
theorem af.tup{K:A9}{H H':Hp}{a:Addr}{xs:List V}(e:af H H')(h:SqT K H a xs):SqT K H' a xs:=by
 rcases h with (h | ⟨o,h⟩) | h
 ·exact .inl (.inl (e _ _ h))
 ·exact .inl (.inr ⟨o,e _ _ h⟩)
 ·exact .inr h
theorem af.upd{H:Hp}{p:Addr}{o:HO}(h:H p=none):af H (L2.upd H p o):=fun b u e=>by rw [ah (aj e h)];exact e
mutual
theorem af.rep{K:A9}{H H':Hp}(e:af H H'):∀ {d:Dt} {v:V},Rep K H d v->Rep K H' d v
 | .non,_,h=>h
 | .bl _,_,h=>h
 | .int _,_,h=>h
 | .str _,_,h=>h
 | .lst,_,⟨p,xs,h1,h2⟩=>⟨p,xs,h1,e.seq h2⟩
 | .dct,_,⟨p,h1,h2⟩=>⟨p,h1,h2.elim (fun hZ=>(by obtain ⟨k,q⟩:=hZ;exact .inl ⟨k,e _ _ q⟩)) fun hZ=>(by obtain ⟨k,q⟩:=hZ;exact .inr ⟨k,e _ _ q⟩)⟩
 | .tup _,_,⟨p,xs,h1,h2,h3⟩=>⟨p,xs,h1,e.tup h2,e.repL h3⟩
theorem af.repL{K:A9}{H H':Hp}(e:af H H'):∀ {ds:List Dt} {xs:List V},vq K H ds xs->vq K H' ds xs
 | [],[],_=>trivial
 | _::_,_::_,h=>⟨e.rep h.1,e.repL h.2⟩
 | [],_::_,h=>h.elim
 | _::_,[],h=>h.elim
end
structure Has(K:A9)(mg:Str->Option Value)(x:Str)(st:Stmt)(ps:List Str):Prop where
 ex:∃ f fd,Fun K x x st f fd/\mg x=some (.ref f)/\gX K fd ps []
section
variable{X:Cx}{e:Expr}{es:List Expr}{t:TA}{x:Str}{ps:List Str}{k:Nat}{sp:Sp}{p pos:Pos}
end
theorem iteB{c:Bool}{A B:Prop}(h1:c=true->A)(h2:c=false->B):if c=true then A else B:=by
 cases c with
 | true=>rw [if_pos rfl];exact h1 rfl
 | false=>rw [if_neg yJ];exact h2 rfl
section
variable{X:Cx}{Pre:St->Hp->Prop}
end
structure sx(osc:Scope)(N:List Str)(sc:Scope)(M tgs:List Str):Prop where
 kind:sc.kind = .function
 names:∀ y∈sc.names,y.2 = .local->sc.names.lookup y.1=some .local
 nocell:∀ y∈sc.names,y.2 ≠ .cell
 free:∀ y∈sc.names,y.2 = .free->osc.names.lookup y.1=some .cell\/osc.names.lookup y.1=some .free
 len:M.length=N.length
 same:∀ p∈M.zip N,p.1=p.2\/p.1=("" : Str)
 dummy:sc.names.lookup ("" : Str)=none
 hid:∀ x∈M,sc.names.lookup x≠some .local
 nd:(M++tgs).Nodup
theorem sx.ok{X:Cx}{osc:Scope}{N:List Str}{sc:Scope}{M tgs:List Str}(b:sx osc N sc M tgs)(h1:X.env.scope=osc:=by rfl)(h2:X.N=N:=by rfl):kh X sc M tgs:=by
 subst h1 h2;exact ⟨b.kind,b.names,b.nocell,b.free,b.len,b.same,b.dummy,b.hid⟩
section
variable{κ:Type}[DecidableEq κ]
end
def aY{α:Type}:Sem α->Prop
 | .pure _=>True
 | .raise _=>True
 | .unsupported _=>True
 | .rule _ k=>aY (k ())
 | .at _ k=>aY (k ())
 | .load _ _ k=>∀ o,aY (k o)
 | .update _ _ f k=>(∀ o,(f o).dict=o.dict)/\aY (k ())
 | .alloc _ k=>∀ a,aY (k a)
 | .loadIfAlive _ k=>∀ o,aY (k o)
 | .point _ k=>aY (k ())
 | .ask k=>∀ a,aY (k a)
 | .stack k=>∀ a,aY (k a)
 | .handled _ k=>∀ a,aY (k a)
 | _=>False
def DK(h h':Heap):Prop:=∀ (b:Nat) (o:Obj),h.objs[b]?=some o->∃ o':Obj,h'.objs[b]?=some o'/\o'.dict=o.dict
theorem DK.refl{h:Heap}:DK h h:=fun _ o e=>⟨o,e,rfl⟩
theorem DK.trans{h h1 h2:Heap}(a:DK h h1)(b:DK h1 h2):DK h h2:=fun c o e=>by
 obtain ⟨o1,e1,d1⟩:=a c o e;obtain ⟨o2,e2,d2⟩:=b c o1 e1;exact ⟨o2,e2,d2.trans d1⟩
theorem qm{h:Heap}{a:Addr}{o:Obj}(e:h.get? a=some o):h.objs[a]?=some o:=by
 unfold Heap.get? at e
 split at e
 ·cases e
 ·exact e
theorem DK.at{h h':Heap}{a:Addr}{o o':Obj}(k:DK h h')(e:h.get? a=some o)(e':h'.get? a=some o'):o'.dict=o.dict:=by
 obtain ⟨o1,e1,d1⟩:=k a o (qm e);rw [qm e'] at e1;cases e1;exact d1
theorem DK.upd{h:Heap}{a:Addr}{f:Obj->Obj}(hf:∀ o,(f o).dict=o.dict):DK h (h.update a f):=fun b o e=>by
 unfold Heap.update;simp only [Array.getElem?_modify]
 split
 ·rw [e];exact ⟨f o,rfl,hf o⟩
 ·exact ⟨o,e,rfl⟩
theorem DK.psh{h:Heap}{o:Obj}:DK h (h.push o):=fun b o' e=>by
 unfold Heap.push;refine ⟨o',?_,rfl⟩;have hb:b < h.objs.size:=(Array.getElem?_eq_some_iff.mp e).1;simp only [Array.getElem?_push];rw [if_neg (za hb)];exact e
theorem sy{α:Type}{M:Model}{Γ:PySem.Ctx}{h0:Heap}:∀ (t:Sem α) {Q:α->Pos->Shared->Prop} {E:Value->Pos->Shared->Prop} {p:Pos} {s:Shared},aY t->DK h0 s.heap->Sem.wp M Γ t Q E p s->Sem.wp M Γ t (fun a p' s'=>Q a p' s'/\DK h0 s'.heap) E p s:=by
 intro t
 induction t with
 | pure a=>intro Q E p s _ d w;exact ⟨w,d⟩
 | raise e=>intro Q E p s _ d w;exact w
 | unsupported x=>intro Q E p s _ d w;exact w
 | finish x=>intro Q E p s st d w;exact w
 | rule x k ih=>intro Q E p s st d w;exact ih () st d w
 | «at» x k ih=>intro Q E p s st d w;exact ih () st d w
 | load a b k ih=>intro Q E p s st d w;obtain ⟨o,e,w⟩:=w;exact ⟨o,e,ih o (st o) d w⟩
 | update a b f k ih=>intro Q E p s st d w;exact ⟨w.1,ih () st.2 (d.trans (DK.upd st.1)) w.2⟩
 | alloc o k ih=>intro Q E p s st d w;exact ih _ (st _) (d.trans DK.psh) w
 | loadIfAlive a k ih=>intro Q E p s st d w;exact ih _ (st _) d w
 | point l k ih=>intro Q E p s st d w;exact ih () st d w
 | ask k ih=>intro Q E p s st d w;exact ih _ (st _) d w
 | stack k ih=>intro Q E p s st d w;exact ih _ (st _) d w
 | handled b k ih=>intro Q E p s st d w;exact ih _ (st _) d w
 | _=>intro Q E p s st d w;exact st.elim
theorem cC{α:Type}{M:Model}{A:Around}{t:Sem α}{Q:α->Shared->Prop}{E:Value->Shared->Prop}{s:Shared}(st:aY t)(w:wpAny M A t Q E s):wpAny M A t (fun a s'=>Q a s'/\DK s.heap s'.heap) E s :=
 fun Γ p hΓ=>sy t st .refl (w Γ p hΓ)
theorem aY.bind{α β:Type}{m:Sem α}{f:α->Sem β}(h:aY m)(g:∀ a,aY (f a)):aY (m >>= f):=by
 show aY (m.bind f)
 induction m with
 | pure a=>exact g a
 | raise e=>trivial
 | unsupported x=>trivial
 | finish x=>exact h.elim
 | rule x k ih=>exact ih () h
 | «at» x k ih=>exact ih () h
 | load a b k ih=>exact fun o=>ih o (h o)
 | update a b f k ih=>exact ⟨h.1,ih () h.2⟩
 | alloc o k ih=>exact fun a=>ih a (h a)
 | loadIfAlive a k ih=>exact fun o=>ih o (h o)
 | point l k ih=>exact ih () h
 | ask k ih=>exact fun a=>ih a (h a)
 | stack k ih=>exact fun a=>ih a (h a)
 | handled b k ih=>exact fun a=>ih a (h a)
 | _=>exact h.elim
theorem je{v:Value}:aY (fieldsOf v):=by
 unfold fieldsOf
 split
 ·refine .bind (fun o=>trivial) fun o=> ?_
  split<;>trivial
 ·trivial
theorem dl{v:Value}{i:Nat}:aY (field v i):=by
 unfold field
 refine .bind je fun vs=> ?_
 split<;>trivial
theorem eX{f:Array Value->Array Value}{o:Obj}:(Obj.mapFields f o).dict=o.dict:=by
 unfold Obj.mapFields
 split<;>rfl
theorem cj{v x:Value}{i:Nat}:aY (setField v i x):=by
 unfold setField
 split
 ·unfold updateField
  refine .bind (fun o=>trivial) fun o=> ?_
  split
  ·split
   ·exact ⟨fun o=>eX,trivial⟩
   ·trivial
  ·trivial
 ·trivial
theorem cN{e:Value}{f:Option Addr}:aY (setFlight e f):=by
 unfold setFlight
 refine .bind dl fun tb=> ?_
 split
 ·exact cj
 ·trivial
theorem lE{env:Env}{l:List Env}:aY (behindIsImport env l):=by
 unfold behindIsImport
 split
 ·trivial
 ·split
  ·trivial
  ·exact .bind dl fun _=>trivial
theorem oI{env:Env}{b:Bool}:∀ {l:List Env},aY (keptBack env b l)
 | []=>by
  show aY (if (env.scope.isGenerator||env.scope.isCoroutine)=true then pure Value.none else do return if <- underTheClaimsCaller then Value.notImplemented else .none)
  split
  ·trivial
  ·exact .bind (.bind (fun _=>trivial) fun _=>trivial) fun _=>trivial
 | _::_=>trivial
theorem iw:∀ {l:List Env},aY (readyFrames l)
 | []=>trivial
 | env::outer=>by
  unfold readyFrames
  split
  ·refine .bind (fun o=>trivial) fun o=> ?_
   split
   ·trivial
   ·exact .bind lE fun b=> .bind oI fun k=> .bind ⟨fun o=>rfl,trivial⟩ fun _=>iw
  ·trivial
theorem fv{env:Env}:aY (PySem.frameOf env):=by
 unfold PySem.frameOf
 refine .bind (.bind (fun _=>trivial) fun _=>trivial) fun l=> .bind ?_ fun o=> ?_
 ·unfold frameObject
  split
  ·trivial
  ·exact .bind iw fun _=>trivial
 ·split<;>trivial
theorem iA{a b c d e:Value}{l:List Value}:aY (EntryCells.newEntry a b c d e l):=by
 unfold EntryCells.newEntry newFields newObj;dsimp only
 generalize ([a,b,c,d,e]++if l.isEmpty=true then List.replicate 6 Value.none else l).toArray=z
 split
 ·trivial
 ·exact fun _=>trivial
theorem iz{f:Addr}{b:Bool}:aY (entryPlaceOf f b):=by
 unfold entryPlaceOf
 refine .bind (fun _=>trivial) fun l=> ?_
 split<;>trivial
theorem jd{e:Value}{env:Env}:aY (noteFrame e env):=by
 unfold noteFrame
 split
 ·refine .bind dl fun hd=> ?_
  split
  ·refine .bind dl fun x=> ?_
   split
   ·trivial
   ·exact .bind cj fun _=> .bind fv fun _=> .bind iz fun _=> .bind iA fun _=>cj
  ·exact .bind fv fun _=> .bind iz fun _=> .bind iA fun _=>cj
 ·trivial
theorem fu{e:Value}{env:Env}:aY (leaving env e):= .bind jd fun _=>cN
abbrev eY(l:List Value):Obj:={ cls:= .type "tuple",data:= .seq l.toArray }
abbrev kr(C a:Addr):Obj:={ cls:= .ref C,data:= .fields #[.ref a,.none,.none,.none,.bool false,.none] }
section
variable{prog:Program}{w:World}{A:Around}{h:Heap}{g:Array GenState}{d:Drawn}{t:Nat}{os:OsState}{K:A9}
variable{n1 n2:Str}{C N:Addr}{l1 bm bmB l2:List Value}{b1 b2:Bool}{l3:List Str}{ob:Option Bool}{dd:Option Addr}{k0 k1 k2 k3 k5:Option Value}{B newId initId:String}
theorem ki{rest:List Value}{fI:Addr}{Q:Fin->Shared->Prop}{E:Value->Shared->Prop}(F:ExcBaseFacts B newId initId bmB)(T:OwnTail h bmB bm)(X:K.In h)
 (hC:h.get? C=some (excClassObj n1 n2 C N l1 bm b1 l3 l2 b2 ob dd k0 k1 k2 k3 k5 newId)) (hi:PySem.W.findIn K (.ref C) "__init__" = some (some (.ref fI))) (hf:PySem.W.typeIn K (.ref fI)=some (.type "function")) (hrest:rest.length<=sizeLine)
 (hq:codeAny (model prog w) A (.call (.ref fI) ⟨.ref (h.objs.size+1)::rest,[]⟩) (fun r s'=>match r with | .ok (.ret v)=>v = .none/\Q (.done (.ret (.ref (h.objs.size+1)))) s' | .ok _=>False | .error e=>E e s') ⟨(h.push (eY rest)).push (kr C h.objs.size),g,d,t,os⟩) :
 wpAny (model prog w) A (Builtin.«type.__call__» ⟨.ref C::rest,[]⟩) Q E ⟨h,g,d,t,os⟩:=by
 repeat (first | with_reducible apply AG hC | with_reducible apply wpAny_madeBy_exc hC | wp_step)
 apply codeAny_call_builtin_code (Code.quiet_builtin _ F.quiet);apply wpAny_check_new_subT F T hC;apply codeAny_exc_new_subT (hrest:=hrest) F T hC
 show wpAny _ _ _ _ _ _
 have up:∀ b o,h.get? b=some o->((h.push (eY rest)).push (kr C h.objs.size)).get? b=some o:=fun b o e=>yC _ (yC _ e)
 have at1:((h.push (eY rest)).push (kr C h.objs.size)).get? (h.objs.size+1)=some (kr C h.objs.size):=by heap_get
 have me:(Value.ref C::bm).contains (.ref C)=true:=by simp
 have Ci:=up _ _ hC;have Xi:K.In ((h.push (eY rest)).push (kr C h.objs.size)):=X.keeps up;unfold isInstance
 repeat (first | with_reducible apply AG at1 | (with_reducible apply wpAny_isSubtype_exc Ci;rw [me]) | wp_step)
 show wpAny _ _ (typeLookup (.ref C) _) _ _ _
 refine (PySem.W.looks_findIn Xi hi).at (zG (yB ?_));refine (PySem.W.bind_fn Xi (.ref (h.objs.size+1)) hf).at ?_;refine yB (wpAny_call (codeAny_mono hq fun r s' z=> ?_))
 rcases r with e | (_ | _ | _ | v)
 ·exact z
 ·exact z.elim
 ·exact z.elim
 ·exact z.elim
 ·obtain ⟨rfl,z⟩:=z
  wp_walk
  exact z
theorem my{rest:List Value}{fI:Addr}{Q:Value->Shared->Prop}{E:Value->Shared->Prop}(F:ExcBaseFacts B newId initId bmB)(T:OwnTail h bmB bm)(X:K.In h)
 (hC:h.get? C=some (excClassObj n1 n2 C N l1 bm b1 l3 l2 b2 ob dd k0 k1 k2 k3 k5 newId)) (hi:PySem.W.findIn K (.ref C) "__init__" = some (some (.ref fI))) (hf:PySem.W.typeIn K (.ref fI)=some (.type "function")) (hrest:rest.length<=sizeLine)
 (hq:codeAny (model prog w) (A.under (.builtin "type.__call__" ⟨.ref C::rest,[]⟩)) (.call (.ref fI) ⟨.ref (h.objs.size+1)::rest,[]⟩) (fun r s'=>match r with | .ok (.ret v)=>v = .none/\Q (.ref (h.objs.size+1)) s' | .ok _=>False | .error e=>E e s') ⟨(h.push (eY rest)).push (kr C h.objs.size),g,d,t,os⟩) :
 wpAny (model prog w) A (call (.ref C) rest) Q E ⟨h,g,d,t,os⟩:=by
 have g1:=tc_lookup;have g2:=tc_bind (.ref C);have ty:(⟨h,g,d,t,os⟩:Shared).TypeIs (.ref C) "type" := ⟨_,hC,rfl⟩;apply wpAny_call;apply codeAny_of_tree
 show wpAny _ _ (callAny (.ref C) _) _ _ _
 repeat (any_goals (first | assumption | with_reducible apply AG hC | wp_step))
 refine And.intro rfl (codeAny_call_builtin_at (Code.quiet_builtin _ (by decide +kernel)) entry_typeCall ?_);apply wpAny_check_type_call_sub hC;exact ki F T X hC hi hf hrest hq
theorem qO{env:Env}{s:Shared}{x:Sem Value}{Q:Flow->Shared->Prop}{E:Value->Shared->Prop}(hbase:bm.contains (.type "BaseException")=true)(hh:A.handled=none)
 (hx:wpAny (model prog w) A x (fun v s1=>∃ e oe vs,v = .ref e/\s1.heap.get? C=some (excClassObj n1 n2 C N l1 bm b1 l3 l2 b2 ob dd k0 k1 k2 k3 k5 newId)/\s1.heap.get? e=some oe/\oe.cls = .ref C/\oe.data = .fields vs/\vs[1]?=some .none/\E (.ref e) s1) E s) :
 wpAny (model prog w) A (raiseStmt env (some x) none) Q E s:=by
 have inB:(Value.ref C::bm).contains (.type "BaseException")=true:=by rw [List.contains_cons,hbase,AA]
 unfold raiseStmt;apply yB
 refine zp hx (fun v s1 hv=> ?_) fun _ _ z=>z
 obtain ⟨e,oe,vs,rfl,aC,ae,ec,ed,e1,hE⟩:=hv
 rcases s1 with ⟨hp,g1,d1,t1,os1⟩
 obtain ⟨oc,odi,oda,osl⟩:=oe;dsimp only at ec ed;subst ec ed
 repeat (first | with_reducible apply AG ae | with_reducible apply AG aC | (with_reducible apply wpAny_isSubtype_exc aC;rw [inB]) | with_reducible apply zX ae rfl e1 | wp_step)
 exact wpAny_raiseNew_none hh hE
end
theorem pM{h:Heap}{a:Addr}{items:Array Value}(e:h.get? a=some { cls:= .type "tuple",data:= .seq items }):mD h a items:=⟨⟨_,e,rfl,_,rfl⟩,fun o e'=>by rw [e] at e';cases e';rfl⟩
theorem aX.there{P:Program}{w:World}{H:Hp}{h:Heap}{a:Addr}{o:HO}(x:aX P w H h a o):∃ ob,h.get? a=some ob:=by
 cases o with
 | lst xs=>obtain ⟨_,_,_,_,e⟩:=x;exact ⟨_,e⟩
 | tup xs=>obtain ⟨_,_,_,⟨ob,e,_⟩,_⟩:=x;exact ⟨ob,e⟩
 | dK kvs=>obtain ⟨_,_,_,_,o,_,_,e,_⟩:=x;exact ⟨_,e⟩
 | dT kvs=>obtain ⟨_,_,_,_,o,_,_,e,_⟩:=x;exact ⟨_,e⟩
 | set S n=>obtain ⟨o,_,_,_,e,_⟩:=x;exact ⟨_,e⟩
 | ins C dx fs=>obtain ⟨_,_,_,e,_⟩:=x;exact ⟨_,e⟩
 | own y=>exact x
 | xd fs=>obtain ⟨_,⟨_,_,_,e,_⟩,_⟩:=x;exact ⟨_,e⟩
 | rng lo hi=>obtain ⟨_,_,_,e⟩:=x;exact ⟨_,e⟩
 | frz ob u=>obtain ⟨e,_⟩:=x;exact ⟨_,e⟩
 | tbl ps=>exact ⟨_,(show h.get? a=some _ from x)⟩
 | met f y=>exact ⟨_,(show h.get? a=some _ from x)⟩
 | ext φ=>obtain ⟨_,e,_⟩:=x;exact e
theorem HOk.none_of{P:Program}{w:World}{H:Hp}{h:Heap}{a:Addr}(x:HOk P w H h)(e:h.get? a=none):H a=none:=by
 cases q:H a with
 | none=>rfl
 | some u =>
  obtain ⟨ob,z⟩:=(x a u q).there;rw [e] at z;cases z
structure vo(fs:List Addr)(ea T:Addr)(h h':Heap):Prop where
 keep:∀ b o,h.get? b=some o->b∉fs->b≠ea->b≠T->h'.get? b=some o
 slot:∀ b o,h.get? b=some o->b∈fs->∃ sl,h'.get? b=some { o with slots:=sl }
structure gU(g:Heap)(H:Hp)(ea T:Addr)(cls:Value)(dx:Option Addr)(h:Heap):Prop where
 obj:∃ (oe:Obj) (vs:Array Value) (oT:Obj) (ts:Array Value) (a0:Value),h.get? ea=some oe/\(oe.cls=cls/\vs[0]?=some a0)/\oe.data = .fields vs/\vs[1]?=some (.ref T)/\T≠ea/\h.get? T=some oT/\oT.data = .fields ts/\ts[3]?=some .none
 he:H ea=none
 hT:H T=none
 ge:g.get? ea=none
 gT:g.get? T=none
 dk:∀ dA,dx=some dA->∃ o,h.get? ea=some o/\o.dict=some dA
section
variable{P:Program}{w:World}{fs fs' ex:List Addr}{H₀ H:Hp}{g g₀ h h' base:Heap}{ea T:Addr}{cls:Value}{dx:Option Addr}{l l':List Env}
theorem gU.older(F:gU g H ea T cls dx h)(k:∀ b o,g₀.get? b=some o->∃ o',g.get? b=some o'):gU g₀ H ea T cls dx h:=by
 refine ⟨F.obj,F.he,F.hT,?_,?_,F.dk⟩
 ·cases q:g₀.get? ea with
  | none=>rfl
  | some o=>obtain ⟨o',z⟩:=k _ _ q;rw [F.ge] at z;cases z
 ·cases q:g₀.get? T with
  | none=>rfl
  | some o=>obtain ⟨o',z⟩:=k _ _ q;rw [F.gT] at z;cases z
theorem gU.flyingW(F:gU g H ea T cls dx h)(hl:h.FunFrames base l):∃ a0,Heap.FlyingW (PySem.W.hideAll h (ea::T::frs l)) l ea cls a0 h:=by
 obtain ⟨oe,vs,oT,ts,a0,h1,h2,h3,h4,h5,h6,h7,h8⟩:=F.obj;refine ⟨a0,fun b o e=>PySem.W.of_hideAll _ e,AR _ yL,PySem.W.funFrames_hide hl (fun env he a hf=> ?_),oe,vs,T,oT,ts,h1,h2,h3,h4,AR _ (yH _ yL),h5,h6,h7,h8⟩;exact yH _ (yH _ (A5.mpr ⟨env,he,hf⟩))
theorem jQ(F:gU g H ea T cls dx h)(hl:h.FunFrames base l)(hok:HOk P w H h)(hg:∀ b o,g.get? b=some o->∃ o',h.get? b=some o'){a0:Value}
 (x:Heap.FlyingW (PySem.W.hideAll h (ea::T::frs l)) l' ea cls a0 h') (up:h.UpToSlots h') (dk:DK h h'):vo (frs l) ea T h h'/\∃ T',gU g H ea T' cls dx h':=by
 obtain ⟨x1,x2,x3,oe,vs,T',oT,ts,y1,y2,y3,y4,y5,y6,y7,y8,y9⟩:=x
 have slot:∀ b o,h.get? b=some o->b∈frs l->∃ sl,h'.get? b=some { o with slots:=sl }:=fun b o e hb=>by
  obtain ⟨_,o',ho',nf⟩:=hl.mem hb;rw [e] at ho';cases ho';exact up b o e nf
 refine ⟨⟨fun b o e n1 n2 n3=>x1 b o (Aw _ e (by simp [n1,n2,n3])),slot⟩,T',?_⟩
 have fr:H T'=none/\g.get? T'=none:=by
  by_cases q:T'=T
  ·subst q;exact ⟨F.hT,F.gT⟩
  ·have nf:T'∉frs l:=fun hb=>by
    obtain ⟨_,o,ho,nf⟩:=hl.mem hb;obtain ⟨sl,z⟩:=slot T' o ho hb;rw [y7] at z;cases z;exact nf ts y8
   have hn:h.get? T'=none:=by
    cases z:h.get? T' with
    | none=>rfl
    | some o =>
     have:=Aw (ea::T::frs l) z (by simp [nf,q,y6]);rw [y5] at this;cases this
   refine ⟨hok.none_of hn,?_⟩
   cases z:g.get? T' with
   | none=>rfl
   | some o=>obtain ⟨o',z'⟩:=hg _ _ z;rw [hn] at z';cases z'
 exact ⟨⟨oe,vs,oT,ts,a0,y1,y2,y3,y4,y6,y7,y8,y9⟩,F.he,fr.1,F.ge,fr.2,fun dA z=>by
  obtain ⟨o,e1,e2⟩:=F.dk dA z
  exact ⟨oe,y1,(dk.at e1 y1).trans e2⟩⟩
theorem Un.turn(u:Un fs ex H₀ H g h)(t:vo fs' ea T h h')(ge:g.get? ea=none)(gT:g.get? T=none)(h1:∀ b∈fs,b∈fs')(h2:∀ b∈fs',b∉fs->g.get? b=none):Un fs ex H₀ H g h' where
 keep:=fun b o q n hb hx=>t.keep b o (u.keep b o q n hb hx) (fun z=>by rw [h2 b z hb] at q;cases q) (fun z=>by rw [z,ge] at q;cases q) (fun z=>by rw [z,gT] at q;cases q)
 slot:=fun b o q n hb hx=>by
  obtain ⟨sl,e⟩:=u.slot b o q n hb hx;obtain ⟨sl',e'⟩:=t.slot b _ e (h1 b hb);exact ⟨sl',e'⟩
 free:=u.free
 there:=fun b o q hx=>by
  obtain ⟨o',e⟩:=u.there b o q hx
  by_cases hb:b∈fs'
  ·obtain ⟨sl,e'⟩:=t.slot b o' e hb
   exact ⟨_,e'⟩
  ·exact ⟨o',t.keep b o' e hb (fun z=>by rw [z,ge] at q;cases q) (fun z=>by rw [z,gT] at q;cases q)⟩
 tups:=u.tups
 frzs:=u.frzs
 tbls:=u.tbls
theorem HOk.turn(x:HOk P w H h)(t:vo fs ea T h h')(he:H ea=none)(hT:H T=none)(hf:∀ b∈fs,H b=none):HOk P w H h':=fun a o e=>by
 have ne:∀ b,(b=a\/H b=some (.own a))->H b≠none:=fun b hb z=>by
  rcases hb with rfl | hb
  ·rw [z] at e;cases e
  ·rw [z] at hb;cases hb
 exact (x a o e).stay (fun b u hb q=>t.keep b u q (fun z=>ne b hb (hf b z)) (fun z=>ne b hb (z ▸ he)) (fun z=>ne b hb (z ▸ hT))) (fun _ q=>q) fun _ _ q=>q
end
def CXr(P:Program)(w:World):CXT:=fun outer H s E e s'=>∃ ea T cls H' dx,e = .ref ea/\s'.os=s.os/\AllBare s'.gens/\Un (frs outer) [] H H' s.heap s'.heap/\HOk P w H' s'.heap/\gU s.heap H' ea T cls dx s'.heap/\E cls dx H'
section
variable{M:Model}{A:Around}{E:Value->Shared->Prop}{s:Shared}{base:Heap}{env:Env}{outer l:List Env}{L e:Addr}{cls a0:Value}{Q:Unit->Shared->Prop}
theorem oX(hfr:A.frames=some (env::outer))(hf:env.frame=some L)(hfl:Heap.FlyingW base (env::outer) e cls a0 s.heap)
 (hQ:∀ h',Heap.FlyingW base outer e cls a0 h'->s.heap.UpToSlots h'->DK s.heap h'->Q () { s with heap:=h' }):wpAny M A (leaving env (.ref e)) Q E s :=
 zp (cC fu (wpAny_leaves_onW (Q:=fun _ s'=>∃ h',s'={ s with heap:=h' }/\Heap.FlyingW base outer e cls a0 h'/\s.heap.UpToSlots h') hfr hf hfl fun h' x y=>⟨h',rfl,x,y⟩))
  (fun _ s' z=>by obtain ⟨⟨h',rfl,x,y⟩,d⟩:=z;exact hQ h' x y d) fun _ _ z=>z
theorem rq(hfr:A.frames=some (env::outer))(hf:env.frame=some L)(hfl:Heap.FlyingW base (env::outer) e cls a0 s.heap)
 (hQ:∀ h',Heap.HeldW base (env::outer) e cls a0 L h'->s.heap.UpToSlots h'->DK s.heap h'->Q () { s with heap:=h' }):wpAny M A (noteFrame (.ref e) env) Q E s :=
 zp (cC jd (wpAny_looks_onW (Q:=fun _ s'=>∃ h',s'={ s with heap:=h' }/\Heap.HeldW base (env::outer) e cls a0 L h'/\s.heap.UpToSlots h') hfr hf hfl fun h' x y=>⟨h',rfl,x,y⟩))
  (fun _ s' z=>by obtain ⟨⟨h',rfl,x,y⟩,d⟩:=z;exact hQ h' x y d) fun _ _ z=>z
theorem landsD(hh:Heap.HeldW base l e cls a0 L s.heap)(hQ:∀ h',Heap.FlyingW base l e cls a0 h'->s.heap.UpToSlots h'->DK s.heap h'->Q () { s with heap:=h' }):wpAny M A (setFlight (.ref e) none) Q E s :=
 zp (cC cN (wpAny_landsW (Q:=fun _ s'=>∃ h',s'={ s with heap:=h' }/\Heap.FlyingW base l e cls a0 h'/\s.heap.UpToSlots h') hh fun h' x y=>⟨h',rfl,x,y⟩))
  (fun _ s' z=>by obtain ⟨⟨h',rfl,x,y⟩,d⟩:=z;exact hQ h' x y d) fun _ _ z=>z
theorem againD(hh:Heap.FlyingW base l e cls a0 s.heap)(hQ:∀ h',Heap.FlyingW base l e cls a0 h'->s.heap.UpToSlots h'->DK s.heap h'->Q () { s with heap:=h' }):wpAny M A (setFlight (.ref e) none) Q E s :=
 zp (cC cN (lands_againW (Q:=fun _ s'=>∃ h',s'={ s with heap:=h' }/\Heap.FlyingW base l e cls a0 h'/\s.heap.UpToSlots h') hh fun h' x y=>⟨h',rfl,x,y⟩))
  (fun _ s' z=>by obtain ⟨⟨h',rfl,x,y⟩,d⟩:=z;exact hQ h' x y d) fun _ _ z=>z
end
section
variable{P:Program}{w:World}{K:A9}{mg:Str->Option Value}{base:Heap}{N:List Str}{qual:Str}{scope:Scope}{f:Addr}{cd:Value}{A:Around}{outer:List Env}{s:Shared}{H:Hp}{E E':XK}
theorem nW{env:Env}{L:Addr}{l:List Env}(h:env.frame=some L):frs (env::l)=L::frs l:=by unfold frs;rw [AZ,h]
theorem t0(himp:∀ c d H,E' c d H->E c d H):pI (CXr P w) (aW (CXr P w) P w K mg base N qual scope f cd A outer s H E) E':=by
 intro pins σ H1 s1 e s2 I hx;obtain ⟨ea,T,cls,H2,dx,rfl,os,bare,un,hok,fl,e1⟩:=hx
 have I2:Inv (aW (CXr P w) P w K mg base N qual scope f cd A outer s H E) pins σ H2 s2:=I.call' (ch:=[]) os un hok bare fun b z=>absurd z (by simp)
 have fl:=fl.older (g₀:=s.heap) fun b o q=>I.base.there b o q (by show b∉[];simp)
 obtain ⟨a0,fw⟩:=fl.flyingW I2.stack
 refine oX I2.ok.frames rfl fw fun h' x1 x2 x3=> ?_
 obtain ⟨tn,T',fl'⟩:=jQ fl I2.stack hok (fun b o q=>I2.base.there b o q (by show b∉[];simp)) x1 x2 x3;have e2:frs (aW (CXr P w) P w K mg base N qual scope f cd A outer s H E).stack=s.heap.objs.size::frs outer:=nW rfl;refine ⟨ea,T',cls,H2,dx,rfl,I2.os,bare,Un.turn I2.base tn fl.ge fl.gT (fun b hb=> ?_) (fun b hb nb=> ?_),hok.turn tn fl.he fl.hT I2.stkFree,fl',himp _ _ _ e1⟩
 ·rw [e2];exact yH _ hb
 ·rw [e2] at hb
  rcases yP.mp hb with rfl | hb
  ·exact AS (yO _)
  ·exact absurd hb nb
end
structure OkX(P:Program)(w:World)(K:A9)(mg:Str->Option Value)(base:Heap)(x:Str)(ps:List Str)(k:Nat)(sp:Sp):Prop where
 ex:∃ f fd,mg x=some (.ref f)/\PySem.W.keepIn K (.ref f)=true/\gX K fd ps []/\gp P w K mg base (CXr P w) k f fd ps sp
theorem Has.okX{P:Program}{w:World}{K:A9}{mg:Str->Option Value}{base:Heap}{x:Str}{st:Stmt}{N ps:List Str}{k:Nat}{sp:Sp}(h:Has K mg x st ps)(S:bz N ps (ac st))(len:∀ vs H Q E,sp vs H Q E->vs.length=ps.length)
 (hbody:∀ (f:Addr) (cdv:Value) (A:Around) (outer:List Env) (s:Shared) (H:Hp) (vs:List V) (Q:VK) (E:XK),bL k (A.deeper (envOfC x (ac st) s.heap.objs.size f cdv))->sp vs H Q E ->
   ∃ t,PSs (aW (CXr P w) P w K mg base N x (ac st) f cdv A outer s H E) (aN st) t/\t { nx:=fun _ H'=>Q .non H',rt:=Q } (bZ N vs) H):OkX P w K mg base x ps (k+1) sp:=by
 obtain ⟨f,fd,F,hm,hb⟩:=h.ex;obtain ⟨oc,od,kV,doc,pm,an,cdv,ct,osl,rfl,lk,hcd⟩:=F.ex;exact ⟨f,_,hm,F.kp,hb,uO lk hcd S len fun A outer s H vs Q E hr hsp=>hbody f cdv A outer s H vs Q E hr hsp⟩
section
variable{X:Cx}{e:Expr}{es:List Expr}{t:TA}{x:Str}{ps:List Str}{k:Nat}{sp:Sp}{p pos:Pos}
end
theorem Inv.frame{X:Cx}{pins:List (Addr×Obj)}{σ σ':St}{H:Hp}{s:Shared}{h':Heap}{t':Nat}{m':Str->Option Value}(I:Inv X pins σ H s)(hn':h'.Ns X.env.locals m')(hs:Heap.SameBut X.env.locals s.heap h')
 (hl:∀ (i:Nat) (x:Str) (v:V),X.N[i]?=some x->σ'[i]?=some (some v)->Vis X.env.scope x->∃ u,ax v u/\Look X.env h' m' x u) (len:σ'.length=σ.length):Inv X pins σ' H { s with heap:=h',toks:=t' }:=by
 have neL:∀ b o,X.s₀.heap.get? b=some o->b≠X.env.locals:=fun b o e=>za (zb (yN e) I.ok.above)
 have tracked:HOk X.prog X.w H h':=fun b ob e=>by
  refine (I.hok b ob e).stay (fun c w' hc q=>(hs.2 c ?_).trans q) (fun _ q=>q) fun _ _ q=>q
  rintro rfl
  rcases hc with rfl | hc
  ·rw [I.free] at e;cases e
  ·rw [I.free] at hc;cases hc
 refine ⟨I.ok,I.os,I.bare,⟨fun b o e n hb hx=> ?_,fun b o e n hb hx=> ?_,I.base.free,fun b o e hx=> ?_,I.base.tups,I.base.frzs,I.base.tbls⟩,⟨m',hn',hl⟩,fun y c e=> ?_,I.free,I.freeC,fun p hp=> ?_,tracked,len.trans I.len⟩
 ·exact (hs.2 b (neL b o e)).trans (I.base.keep b o e n hb hx)
 ·obtain ⟨sl,e1⟩:=I.base.slot b o e n hb hx
  exact ⟨sl,(hs.2 b (neL b o e)).trans e1⟩
 ·obtain ⟨o',e1⟩:=I.base.there b o e hx
  exact ⟨o',(hs.2 b (neL b o e)).trans e1⟩
 ·obtain ⟨w',z⟩:=I.cell y c e
  exact ⟨w',z.sameBut hs (I.cne y c e)⟩
 ·obtain ⟨e,n,ne,nf,d⟩:=I.pin p hp
  exact ⟨(hs.2 p.1 ne).trans e,n,ne,nf,d⟩
theorem fj{X:Cx}{pins:List (Addr×Obj)}{σ:St}{H:Hp}{s:Shared}{M:Model}{A:Around}{E:Value->Shared->Prop}{Q:Unit->Shared->Prop}{i:Nat}{n:Str}{pos:Pos}(I:Inv X pins σ H s)(hN:X.N.Nodup)(hi:X.N[i]?=some n)(hlo:X.env.scope.names.lookup n=some .local)
 (h:∀ s',Inv X pins (σ.set i none) H s'->Q () s'):wpAny M A (do bindName X.env n .none;unbindBehindTheSuite X.env n pos) Q E s:=by
 have hl:X.env.kindOf n=some .local:=hlo
 have hp:(X.env.scope.kind == .class||(X.env.scope.kind == .module&&X.env.locals != X.env.globals))=false:=by rw [I.ok.kind];rfl
 have hiσ:i < σ.length:=by rw [I.len];exact (yR.mp hi).1
 refine yB (wpAny_bindName (gv I hN hi (.inl hlo) (v:= .non) rfl (fun s1 I1=> ?_) (.inr hlo)));obtain ⟨m,hn,hlk⟩:=id I1.loc
 have hmn:m n=some Value.none:=by
  obtain ⟨u,r,q⟩:=hlk i n .non hi (zy hiσ) (.inl hlo);cases r
  rcases q with ⟨_,z⟩ | ⟨k,_⟩
  ·exact z
  ·rcases k with k | k<;>(rw [hl] at k;cases k)
 unfold unbindBehindTheSuite;refine wpAny_onRaise ?_;unfold unbindName;refine yB (wpAny_point (yB ?_));unfold deleteName;simp only [hl,hp];rw [if_neg (by decide)];refine yB (wpAny_nsDel_keeps hn fun h2 v hn2 hs2=> ?_);rw [hmn];simp only [if_true,Option.isSome_some,Bool.not_true,zL,if_false];refine yE (wpAny_point (h _ ?_));refine I1.frame (t':=s1.toks) hn2 hs2 (fun j y v' e1 e2 e3=> ?_) (by simp)
 have hj:j≠i:=fun z=>by
  subst z;rw [zy hiσ] at e2;cases e2
 rw [zh (Ne.symm hj)] at e2;obtain ⟨u,r,q⟩:=hlk j y v' e1 (by rw [zh (Ne.symm hj)];exact e2) e3;refine ⟨u,r,?_⟩
 rcases q with ⟨k,e⟩ | ⟨k,c,e,z⟩
 ·refine .inl ⟨k,?_⟩
  have:y≠n:=fun e=>hj (jA hN e1 (e ▸ hi))
  simp [this,e]
 ·exact .inr ⟨k,c,e,z.sameBut hs2 (I1.cne y c e)⟩
abbrev mO(X:Cx)(pn:List (Addr×Obj))(W:Value->Option Addr->St->Hp->Prop):Cx :=
 { X with pn:=pn,xe:=fun e s'=>∃ σ' H1 s1,Inv { X with pn:=pn } [] σ' H1 s1/\CXr X.prog X.w X.stack H1 s1 (fun c x H'=>W c x σ' H') e s' }
abbrev fO(X:Cx)(pn:List (Addr×Obj))(ea:Addr):Cx:={ X with pn:=pn,A:=X.A.mark (some (.ref ea)),calm:=false,xe:=fun _ _=>False }
theorem Cx.Ok.suite{X:Cx}(ok:X.Ok)(pn:List (Addr×Obj))(ea:Addr):(fO X pn ea).Ok :=
 ⟨ok.mod,ok.kind,ok.glob,ok.blt,ok.above,ok.inj,ok.has,ok.cab,(fun z=>by cases z),ok.frames,ok.stk,ok.exf,ok.bs,ok.bsz,ok.noex,ok.exfs,ok.funs,ok.frf⟩
theorem Cx.Ok.try_{X:Cx}(ok:X.Ok)(pn:List (Addr×Obj))(W:Value->Option Addr->St->Hp->Prop):(mO X pn W).Ok :=
 ⟨ok.mod,ok.kind,ok.glob,ok.blt,ok.above,ok.inj,ok.has,ok.cab,ok.hd,ok.frames,ok.stk,ok.exf,ok.bs,ok.bsz,ok.noex,ok.exfs,ok.funs,ok.frf⟩
def iR(ea C:Addr)(dx:Option Addr):HO:= .ext fun h=>∃ o,h.get? ea=some o/\o.cls = .ref C/\PySem.W.notCls o=true/\∀ dA,dx=some dA->o.dict=some dA
theorem nZ{M:Model}{A:Around}{E:Value->Shared->Prop}{s:Shared}{K:A9}{ea C D:Addr}{ob:Obj}{Q:Bool->Shared->Prop}(XK:K.In s.heap)(ho:s.heap.get? ea=some ob)(hc:ob.cls = .ref C)
 (h1:PySem.W.subIn K (.ref C) (.ref D)=some true) (h2:PySem.W.subIn K (.ref D) (.type "BaseException")=some true) (h3:(PySem.W.clsIn K D).isSome=true) (h4:PySem.W.typeIn K (.ref D)=some (.type "type")) (q:Q true s) :
 wpAny M A (excMatches (.ref ea) (.ref D)) Q E s:=by
 obtain ⟨hp,g,d,tk,os⟩:=s;have L1:PySem.W.Looks M hp (typeOf (.ref ea)) (.ref C):=hc ▸ (PySem.W.Looks.ld ho).andThen .now;have L2:PySem.W.Looks M hp (isSubtype (.ref C) (.ref D)) true:=PySem.W.looks_subIn XK h1;have L3:PySem.W.Looks M hp (typeOf (.ref D)) (.type "type"):=PySem.W.looks_typeIn XK h4;have L4:PySem.W.Looks M hp (isSubtype (.ref D) (.type "BaseException")) true:=PySem.W.looks_subIn XK h2
 have L5:PySem.W.Looks M hp (isType (.ref D)) true:=by
  unfold PySem.W.clsIn at h3
  split at h3
  ·rename_i c' d' cd' sl' ho'
   intro A' Q' E' s' k q;unfold isType loadHead;exact yB (wpAny_loadPart (k _ _ (XK _ _ ho')) (yE q))
  ·cases h3
 have f:=tc_notTuple;unfold excMatches isInstance isExcClass;refine yB (yB (L3.at ?_));rw [f];refine yE ?_;simp only [zL,if_false];refine yB (yE ?_);simp only [List.forIn_cons,List.forIn_nil,bind_assoc,pure_bind];refine yB (L5.at ?_);simp only [if_true];refine yB (L4.at ?_);simp only [Bool.not_true,zL,if_false,pure_bind];refine yB (L1.at (yB (L2.at ?_)));simp only [if_true,pure_bind];exact yE q
def tTry(K:A9)(tb:(Value->Option Addr->St->Hp->Prop)->TS)(ts:TS)(i:Nat)(Dc:Addr):TS:=fun D σ H=>∃ W,tb W D σ H/\∀ cls dx σ' H',W cls dx σ' H'->∃ C,cls = .ref C/\PySem.W.subIn K (.ref C) (.ref Dc)=some true /\
 ∀ ea,H' ea=none->ts { nx:=fun σ'' H''=>D.nx (σ''.set i none) H'',rt:=D.rt,bk:=fun σ'' H''=>D.bk (σ''.set i none) H'',ct:=fun σ'' H''=>D.ct (σ''.set i none) H'' } (σ'.set i (some (.ref ea))) (upd H' ea (iR ea C dx))
structure Hdl(K:A9)(mg:Str->Option Value)(x:Str)(D:Addr):Prop where
 at_:mg x=some (.ref D)
 sub:PySem.W.subIn K (.ref D) (.type "BaseException")=some true
 cls:(PySem.W.clsIn K D).isSome=true
 ty:PySem.W.typeIn K (.ref D)=some (.type "type")
theorem ps_try{X:Cx}{body:List Stmt}{b0:Stmt}{suite:List Stmt}{n x:Str}{i:Nat}{Dc:Addr}{np hpos pos:Pos}{tb:(Value->Option Addr->St->Hp->Prop)->TS}{ts:TS}
 (hst:X.stack=X.env::X.outer) (hfr:X.env.frame=some X.env.locals) (hb:∀ pn W,PSs (mO X pn W) body (tb W)) (hs:∀ pn ea,PSs (fO X pn ea) (b0::suite) ts)
 (hN:X.N.Nodup) (hi:X.N[i]?=some n) (hlo:X.env.scope.names.lookup n=some .local) (hg:Gl X x) (hD:Hdl X.K X.mg x Dc) (hdb:(x == ("__debug__" : Str))=false:=by decide) :
 PS X (.Try body [.ExceptHandler (some (.Name x np)) (some n) (b0::suite) hpos] [] [] pos) (tTry X.K tb ts i Dc):=by
 intro pins s σ H D I h;obtain ⟨W,hw,hh⟩:=h;have I0:Inv (mO X (X.pn++pins) W) [] σ H s:=⟨I.ok.try_ _ _,I.os,I.bare,I.base,I.loc,I.cell,I.free,I.freeC,fun p hp=>I.pin p (by simpa using hp),I.hok,I.len⟩
 have back:∀ {W':Value->Option Addr->St->Hp->Prop} {σ':St} {H':Hp} {s':Shared},Inv (mO X (X.pn++pins) W') [] σ' H' s'->Inv X pins σ' H' s':=fun {W' σ' H' s'} J =>
  ⟨I.ok,J.os,J.bare,J.base,J.loc,J.cell,J.free,J.freeC,fun p hp=>J.pin p (by simpa using hp),J.hok,J.len⟩
 refine wpAny_Try_except (zp (hb (X.pn++pins) W [] s σ H D I0 hw) (fun fl s1 q=> ?_) fun e s1 q=> ?_)
 ·cases fl with
  | next=>obtain ⟨σ',H',J,q⟩:=q;exact AV ⟨σ',H',back J,q⟩
  | brk=>obtain ⟨σ',H',J,q⟩:=q;exact ⟨σ',H',back J,q⟩
  | cont=>obtain ⟨σ',H',J,q⟩:=q;exact ⟨σ',H',back J,q⟩
  | ret u=>obtain ⟨v,σ',H',J,r,q⟩:=q;exact ⟨v,σ',H',back J,r,q⟩
 ·obtain ⟨σ1,H1,s2,I2,ea,T,cls,H',dx,rfl,os,bare,un,hok,fl,hW⟩:=q
  obtain ⟨C,rfl,hsub,hts⟩:=hh _ _ _ _ hW
  have noch:∀ b∈([]:List Addr),(b∈X.ex\/X.s₀.heap.objs.size<=b)/\b≠X.env.locals/\(∀ x c,X.env.cells.lookup x=some c->c≠b)/\∀ p∈(X.pn++pins)++[],p.1≠b:=fun b z=>absurd z (by simp)
  have I3:Inv { X with pn:=X.pn++pins } [] σ1 H' s1:=I2.call' (ch:=[]) os un hok bare noch
  have there:∀ b o,s2.heap.get? b=some o->∃ o',s1.heap.get? b=some o':=fun b o q=>un.there b o q (by simp)
  have step:∀ h',vo (frs X.stack) ea T s1.heap h'->Inv { X with pn:=X.pn++pins } [] σ1 H' { s1 with heap:=h' }:=fun h' tn =>
   I2.call' (ch:=[]) (s':={ s1 with heap:=h' }) os (Un.turn un tn fl.ge fl.gT (fun b hb=>hb) fun b hb nb=>absurd hb nb) (hok.turn tn fl.he fl.hT I3.stkFree) bare noch
  have fn:s1.heap.FunFrames X.base (X.env::X.outer):=hst ▸ I3.stack;obtain ⟨a0,fw⟩:=fl.flyingW (l:=X.env::X.outer) fn;have fr:X.A.frames=some (X.env::X.outer):=hst ▸ I.ok.frames
  refine rq fr hfr fw fun h4 hheld4 sm4 dk4=> ?_
  refine landsD hheld4 fun h5 fw5 sm5 dk5=> ?_
  obtain ⟨tn5,_⟩:=jQ fl (l:=X.env::X.outer) fn hok there fw5 (sm4.trans sm5) (dk4.trans dk5);rw [<- hst] at tn5;have I5:=step h5 tn5;have I5s:Inv (fO X (X.pn++pins) ea) [] σ1 H' { s1 with heap:=h5 }:=⟨I.ok.suite _ _,I5.os,I5.bare,I5.base,I5.loc,I5.cell,I5.free,I5.freeC,I5.pin,I5.hok,I5.len⟩;obtain ⟨ob5,hob5,hoc5⟩:=fw5.there;refine wpAny_handleBy_cons (codeAny_handlers_test (dR I5s hg hD.at_ ?_ hdb)) (by intro q;cases q);refine nZ I5s.kIn hob5 hoc5 hsub hD.sub hD.cls hD.ty ?_;refine codeAny_handlers_suite_as ?_
  refine againD fw5 fun h6 fw6 sm6 dk6=> ?_
  obtain ⟨tn6,_,fl6⟩:=jQ fl (l:=X.env::X.outer) fn hok there fw6 ((sm4.trans sm5).trans sm6) ((dk4.trans dk5).trans dk6);rw [<- hst] at tn6;have I6:=step h6 tn6;obtain ⟨ob,vs6,hob,hoc,hdf,_⟩:=fw6.first
  have hno:PySem.W.notCls ob=true:=by unfold PySem.W.notCls;rw [hdf]
  have hdk:∀ dA,dx=some dA->ob.dict=some dA:=fun dA z=>by
   obtain ⟨o,e1,e2⟩:=fl6.dk dA z;rw [hob] at e1;cases e1;exact e2
  have hok7:HOk X.prog X.w (upd H' ea (iR ea C dx)) h6:=HOk.track I6.hok fl.he ⟨⟨ob,hob,hoc,hno,hdk⟩,⟨ob,hob⟩,fun h1 h2 hZ k=>(by obtain ⟨o,e,c⟩:=hZ;exact ⟨o,k o e,c⟩)⟩
  have un6:=Un.turn un tn6 fl.ge fl.gT (fun b hb=>hb) fun b hb nb=>absurd hb nb
  have un7:Un (frs X.stack) [] H1 (upd H' ea (iR ea C dx)) s2.heap h6 :=
   ⟨un6.keep,un6.slot,fun b o q n hx=>by rw [ah (fun z=>by rw [z,fl.ge] at q;cases q)];exact un6.free b o q n hx,un6.there,
    fun b xs q=>by rw [ah (aj (un6.tups b xs q) fl.he)];exact un6.tups b xs q,fun b o u q=>by rw [ah (aj (un6.frzs b o u q) fl.he)];exact un6.frzs b o u q,
    fun b ps q=>by obtain ⟨m,z⟩:=un6.tbls b ps q;exact ⟨m,by rw [ah (aj z fl.he)];exact z⟩⟩
  have I7:Inv { X with pn:=X.pn++pins } [] σ1 (upd H' ea (iR ea C dx)) { s1 with heap:=h6 }:=I2.call' (ch:=[]) (s':={ s1 with heap:=h6 }) os un7 hok7 bare noch;have I7s:Inv (fO X (X.pn++pins) ea) [] σ1 (upd H' ea (iR ea C dx)) { s1 with heap:=h6 }:=⟨I.ok.suite _ _,I7.os,I7.bare,I7.base,I7.loc,I7.cell,I7.free,I7.freeC,I7.pin,I7.hok,I7.len⟩;refine gv (X:=fO X (X.pn++pins) ea) I7s hN hi (.inl hlo) (v:= .ref ea) rfl (fun s8 I8=> ?_) (.inr hlo)
  refine zp (hs (X.pn++pins) ea [] s8 _ _ _ I8 (hts ea fl.he)) (fun fl s9 q=> ?_) fun _ _ z=>z.elim
  have bk2:∀ {σ':St} {H':Hp} {s':Shared},Inv (fO X (X.pn++pins) ea) [] σ' H' s'->Inv X pins σ' H' s':=fun {σ' H' s'} J =>
   ⟨I.ok,J.os,J.bare,J.base,J.loc,J.cell,J.free,J.freeC,fun p hp=>J.pin p (by simpa using hp),J.hok,J.len⟩
  cases fl with
  | next=>obtain ⟨σ9,H9,J,q⟩:=q;exact fj (bk2 J) hN hi hlo fun s' J'=>⟨_,H9,J',q⟩
  | brk=>obtain ⟨σ9,H9,J,q⟩:=q;exact fj (bk2 J) hN hi hlo fun s' J'=>⟨_,H9,J',q⟩
  | cont=>obtain ⟨σ9,H9,J,q⟩:=q;exact fj (bk2 J) hN hi hlo fun s' J'=>⟨_,H9,J',q⟩
  | ret u=>obtain ⟨v,σ9,H9,J,r,q⟩:=q;exact fj (bk2 J) hN hi hlo fun s' J'=>⟨v,_,H9,J',r,q⟩
def tCallT(sp:Sp)(W:Value->Option Addr->St->Hp->Prop)(t:TA):TE:=fun σ H Q=>t σ H fun vs H1=>sp vs H1 Q fun c x H'=>W c x σ H'
theorem tY{X:Cx}{pn:List (Addr×Obj)}{W:Value->Option Addr->St->Hp->Prop}{e:Expr}{es:List Expr}{t:TA}{x:Str}{ps:List Str}{k:Nat}{sp:Sp}{p pos:Pos}
 (h:OkX X.prog X.w X.K X.mg X.base x ps k sp) (hr:bL k X.A) (hg:Gl X x) (ha:PA (mO X pn W) (e::es) t) (hdb:(x == ("__debug__" : Str))=false:=by decide)
 (he:starEach (e::es) X.env=(false,eval e X.env)::starEach es X.env:=by rfl) (hpl:(backTo pos (starEach es X.env)).any (·.1)=false:=by rfl):PE (mO X pn W) (.Call (.Name x p) (e::es) [] pos) (tCallT sp W t):=by
 obtain ⟨f,fd,hm,hk,hb,F⟩:=h.ex;intro pins s σ H Q I hw;refine Ak (dR I hg hm ?_ hdb);refine A3 (h₀:=X.base) I.ok.mod.kin hk (thn (ha pos pins s σ H _ I hw) fun us s1 ⟨vs,H1,I1,r,q⟩=>⟨I1.kIn,?_⟩) he hpl
 have hl:us.length=ps.length:=by rw [<- r.length];exact F.len _ _ _ _ q
 have hb':BindsTo s1 fd ⟨us,[]⟩ (ps.zip us):=by
  have:=hb s1 us I1.kIn (by simpa using hl)
  rwa [zK] at this
 refine wpAny_call (codeAny_mono (F.run X.A X.stack s1 H1 ⟨us,[]⟩ us vs Q _ hr I1.env0 hb' r q) fun r s' hq=> ?_)
 cases r with
 | error e =>
  have J:Inv { X with pn:=pn } [] σ H1 s1:=⟨I1.ok.unwish,I1.os,I1.bare,I1.base,I1.loc,I1.cell,I1.free,I1.freeC,fun p hp=>I1.pin p (yI _ (by simpa using hp)),I1.hok,I1.len⟩;exact ⟨σ,H1,s1,J,hq⟩
 | ok fl =>
  cases fl with
  | ret u=>exact I1.after hq
  | next=>exact False.elim hq
  | brk=>exact False.elim hq
  | cont=>exact False.elim hq
structure cS(k:Nat)(A:Around):Prop where
 dp:A.depth+3 * k+5 < recursionLimit
 un:A.units+16 * k+200 < cLine
 gd:A.guards=some []
theorem bL.any{k:Nat}{A:Around}(r:bL k A):cS k A:=⟨r.dp,r.un,r.gd⟩
theorem cS.mono{j k:Nat}{A:Around}(r:cS k A)(h:j<=k):cS j A:=⟨by have:=r.dp;omega,by have:=r.un;omega,r.gd⟩
theorem cS.mark{k:Nat}{A:Around}{v:Option Value}(r:cS k A):cS k (A.mark v):=⟨r.dp,r.un,r.gd⟩
theorem cS.calm{k:Nat}{A:Around}(r:cS k A):bL k { A with handled:=none }:=⟨rfl,r.dp,r.un,r.gd⟩
abbrev n9(P:Program)(w:World)(K:A9)(mg:Str->Option Value)(base:Heap)(N:List Str)(qual:Str)(scope:Scope)(f:Addr)(cd:Value)(A:Around)(outer:List Env)(s:Shared)(H:Hp)(E:XK):Cx :=
 { aW CX0 P w K mg base N qual scope f cd A outer s H E with calm:=false,xe:=fun _ _=>False }
structure OkA(P:Program)(w:World)(K:A9)(mg:Str->Option Value)(base:Heap)(x:Str)(ps:List Str)(k:Nat)(sp:Sp):Prop where
 ex:∃ f fd,mg x=some (.ref f)/\PySem.W.keepIn K (.ref f)=true/\gX K fd ps []/\(∀ vs H Q E,sp vs H Q E->vs.length=ps.length) /\
  ∀ (A:Around) (outer:List Env) (s:Shared) (H:Hp) (args:Args) (us:List Value) (vs:List V) (Q:VK) (E:XK),cS k A->mG P w K mg base A outer s H->BindsTo s fd args (ps.zip us)->aq vs us->sp vs H Q E ->
   codeAny (model P w) A (.call (.ref f) args) (CR CX0 outer P w H s Q E) s
theorem Has.okA{P:Program}{w:World}{K:A9}{mg:Str->Option Value}{base:Heap}{x:Str}{st:Stmt}{N ps:List Str}{k:Nat}{sp:Sp}(h:Has K mg x st ps)(S:bz N ps (ac st))(len:∀ vs H Q E,sp vs H Q E->vs.length=ps.length)
 (hbody:∀ (f:Addr) (cdv:Value) (A:Around) (outer:List Env) (s:Shared) (H:Hp) (vs:List V) (Q:VK) (E:XK),cS k (A.deeper (envOfC x (ac st) s.heap.objs.size f cdv))->sp vs H Q E ->
   ∃ t,PSs (n9 P w K mg base N x (ac st) f cdv A outer s H E) (aN st) t/\t { nx:=fun _ H'=>Q .non H',rt:=Q } (bZ N vs) H):OkA P w K mg base x ps (k+1) sp:=by
 obtain ⟨f,fd,F,hm,hb⟩:=h.ex;obtain ⟨oc,od,kV,doc,pm,an,cdv,ct,osl,rfl,lk,hcd⟩:=F.ex;refine ⟨f,_,hm,F.kp,hb,len,fun A outer s H args us vs Q E hr e0 hb r hsp=> ?_⟩;have hl:=len _ _ _ _ hsp
 have KX:K.In s.heap:=e0.mod.kin.keeps fun b o e=>(e0.bs b o e).1
 have lim:s.heap.NoLimit:=e0.mod.nolimit.keeps fun b o e=>(e0.bs b o e).1
 have hkind:∀ y∈ps.zip us,(ac st).names.lookup y.1=some .local\/((ac st).names.lookup y.1=some .cell/\((cellsFrom (s.heap.objs.size+1) (ac st).names []).lookup y.1).isSome=true):=fun hZ hy=>by
  obtain ⟨n,v⟩:=hZ
  rcases S.par n (AW hy).1 with q | q
  ·exact .inl q
  ·exact .inr ⟨q,PySem.W.cellsFrom_some _ _ _ (.inl q)⟩
 refine codeAny_call_function hr.calm.depth (KX _ _ lk) rfl S.co S.gen rfl (PySem.W.codeRec_of KX hcd) (hb _ _ _ _ ?_)
 refine wpAny_newFunctionEnv_cells S.kind hkind fun env he s1 x1=> ?_
 subst he;refine ⟨lim.keeps x1.toInCall.keep,codeAny_func ?_⟩;have hrd:cS k (A.deeper (envOfC x (ac st) s.heap.objs.size f cdv)):=⟨by have:=hr.dp;show A.depth+1+3 * k+5 < _;omega,by have:=hr.un;show A.units+3+16 * k+200 < _;omega,hr.gd⟩;obtain ⟨t,ht,hq⟩:=hbody f cdv A outer s H vs Q E hrd hsp;have e0':mG P w K mg base { A with handled:=none } outer s H:=⟨e0.frames,e0.mod,e0.bs,e0.bsz,e0.funs,e0.frf,e0.hok,e0.bare⟩;have J:Inv (aW CX0 P w K mg base N x (ac st) f cdv { A with handled:=none } outer s H E) [] (bZ N vs) H s1:=kY S rfl e0' hl r x1
 have ok:(n9 P w K mg base N x (ac st) f cdv A outer s H E).Ok :=
  ⟨J.ok.mod,J.ok.kind,J.ok.glob,J.ok.blt,J.ok.above,J.ok.inj,J.ok.has,J.ok.cab,(fun z=>by cases z),Around.frames_deeper e0.frames,J.ok.stk,J.ok.exf,J.ok.bs,J.ok.bsz,J.ok.noex,J.ok.exfs,J.ok.funs,J.ok.frf⟩
 have I:Inv (n9 P w K mg base N x (ac st) f cdv A outer s H E) [] (bZ N vs) H s1:=⟨ok,J.os,J.bare,J.base,J.loc,J.cell,J.free,J.freeC,J.pin,J.hok,J.len⟩
 refine zp (ht [] s1 (bZ N vs) H _ I hq) (fun fl s' hs=> ?_) fun e s' hs=>hs.elim
 have fin:∀ {σ':St} {H':Hp} {v:V} {u:Value},Inv (n9 P w K mg base N x (ac st) f cdv A outer s H E) [] σ' H' s'->ax v u->Q v H'->CE outer P w H s Q u s' :=
  fun {σ' H' v u} J rv q=>⟨v,H',J.os,J.bare,J.base,J.hok,rv,q⟩
 cases fl with
 | ret u =>
  obtain ⟨v,σ',H',J,rv,q⟩:=hs;exact fin J rv q
 | next =>
  obtain ⟨σ',H',J,q⟩:=hs;exact fin (v:=V.non) (u:=Value.none) J rfl q
 | brk =>
  obtain ⟨_,_,_,q⟩:=hs;exact False.elim q
 | cont =>
  obtain ⟨_,_,_,q⟩:=hs;exact False.elim q
theorem nq{X:Cx}{e:Expr}{es:List Expr}{t:TA}{x:Str}{ps:List Str}{k:Nat}{sp:Sp}{p pos:Pos}(h:OkA X.prog X.w X.K X.mg X.base x ps k sp)(hr:cS k X.A)(hg:Gl X x)(ha:PA X (e::es) t)(hdb:(x == ("__debug__" : Str))=false:=by decide)
 (he:starEach (e::es) X.env=(false,eval e X.env)::starEach es X.env:=by rfl) (hpl:(backTo pos (starEach es X.env)).any (·.1)=false:=by rfl):PE X (.Call (.Name x p) (e::es) [] pos) (pO sp [] E0 t):=by
 obtain ⟨f,fd,hm,hk,hb,hlen,F⟩:=h.ex;intro pins s σ H Q I hw;refine Ak (dR I hg hm ?_ hdb);refine A3 (h₀:=X.base) I.ok.mod.kin hk (thn (ha pos pins s σ H _ I hw) fun us s1 ⟨vs,H1,I1,r,q⟩=>⟨I1.kIn,?_⟩) he hpl;have q:sp (vs++[]) H1 Q E0:=q;rw [zK] at q
 have hl:us.length=ps.length:=by rw [<- r.length];exact hlen _ _ _ _ q
 have hb':BindsTo s1 fd ⟨us,[]⟩ (ps.zip us):=by
  have:=hb s1 us I1.kIn (by simpa using hl)
  rwa [zK] at this
 refine wpAny_call (codeAny_mono (F X.A X.stack s1 H1 ⟨us,[]⟩ us vs Q _ hr I1.env0 hb' r q) fun r s' hq=> ?_)
 cases r with
 | error e=>exact hq.elim
 | ok fl =>
  cases fl with
  | ret u=>exact I1.after hq
  | next=>exact False.elim hq
  | brk=>exact False.elim hq
  | cont=>exact False.elim hq
section
variable{X:Cx}
theorem jT{x:V}:∀ {xs:List V} {us:List Value},aq xs us->xs.all ez=true->us.countP (eqU x)=xs.countP fun y=>eqV y x
 | _,_,.nil,_=>rfl
 | y::xs,u::us,.cons r t,f=>by
  rw [List.all_cons,yY] at f;rw [List.countP_cons,List.countP_cons,pc r f.1,jT t f.2]
def rCount:V->List V->Hp->VK->Prop:=fun x vs H Q=>∃ l xs y,x = .ref l/\vs=[y]/\H l=some (.lst xs)/\ez y=true/\xs.all ez=true/\Q (.int ((xs.countP fun z=>eqV z y):Nat)) H
theorem uo:MtM X "list.count" rCount:=by
 intro pins s σ H x vs v us Q I rx rv h;obtain ⟨l,xs,y,rfl,rfl,hH,fy,fs,q⟩:=h;cases rx;obtain ⟨u,rfl,ru⟩:=rv.one;obtain ⟨z,its,n,r,hl,e⟩:=I.lstM hH;refine call_meets F.slot_list_count ⟨_,e,rfl⟩ F.entry_list_count (F.args_list_count_2 _ _) (SeqAt.list_countAt l its.toArray n none #[] u (eqU y)) ⟨e,fun w hw=>jC ru fy r fs w (by simpa using hw),?_⟩;refine ⟨.int _,H,I.tok _,⟨_,rfl⟩,?_⟩;rw [List.toList_toArray,jT r fs];exact q
theorem qt{y:V}{xs:List V}{us:List Value}(r:aq xs us)(f:xs.all ez=true)(m:Nat)(h1:m < us.toArray.size)(h2:m < xs.length):eqU y us.toArray[m]=eqV xs[m] y:=by
 obtain ⟨u,e,ru⟩:=r.get (i:=m) (yD h2)
 have hm:m < us.length:=by simpa using h1
 rw [yD hm] at e
 have:us.toArray[m]=u:=by simpa using Option.some.inj e
 rw [this];exact pc ru (yZ.mp f _ (zN h2))
def rIndex:V->List V->Hp->VK->Prop:=fun x vs H Q=>∃ l xs y j,x = .ref l/\vs=[y]/\H l=some (.lst xs)/\ez y=true/\xs.all ez=true/\(∃ h:j < xs.length,eqV xs[j] y=true)/\(∀ m (hm:m < xs.length),m < j->eqV xs[m] y=false)/\Q (.int (j:Nat)) H
theorem um:MtM X "list.index" rIndex:=by
 intro pins s σ H x vs v us Q I rx rv h;obtain ⟨l,xs,y,j,rfl,rfl,hH,fy,fs,⟨hj,hit⟩,hno,q⟩:=h;cases rx;obtain ⟨u,rfl,ru⟩:=rv.one;obtain ⟨z,its,n,r,hl,e⟩:=I.lstM hH
 have hz:sizeLine < 2 ^ 63 - 1:=by decide
 refine call_meets F.slot_list_index ⟨_,e,rfl⟩ F.entry_list_index (F.args_list_index_2 _ _) (SeqAt.list_indexAt l its.toArray n none #[] u (eqU y) j (by simp;omega) (by omega)
  (by rw [qt r fs j (by simp;omega) hj];exact hit) (fun m hm h2=>by rw [qt r fs m hm (by simp at hm;omega)];exact hno m _ h2)) ⟨e,fun w hw=>jC ru fy r fs w (by simpa using hw),?_⟩
 exact ⟨.int _,H,I.tok _,⟨_,rfl⟩,q⟩
end
end L2
namespace EnT
open PySem PySem.Spec PyProof.Rows
open AutoSeq1 (wpAny_loadPart')
theorem rk(l:Addr)(items:Array Value)(n:Nat)(dct:Option Addr)(sl:Array (Option Value)) :
 Meets (Builtin.«enumerate.__new__» ⟨[.type "enumerate",.ref l],[]⟩) (fun _ R s=>s.heap.get? l=some { cls:= .type "tuple",dict:=dct,data:= .seq items n,slots:=sl } /\
  R (.ok (.ret (.ref (s.heap.push { cls:= .type "tuple_iterator",data:= .fields #[.ref l,.int 0 0] }).objs.size)))
   { s with heap:=(s.heap.push { cls:= .type "tuple_iterator",data:= .fields #[.ref l,.int 0 0] }).push { cls:= .type "enumerate",data:= .fields #[.none,.bool false,.ref s.heap.objs.size,rawInt 0,.none,.none] } }) :=
 .of_wp fun prog w A R s h=>by
  obtain ⟨hp,g,d,tk,os⟩:=s;obtain ⟨hl,h⟩:=h;have hsub:=sub_enumerate;have hL:Heap.IsTuple (Shared.heap ⟨hp,g,d,tk,os⟩) l items:=⟨_,hl,rfl,n,rfl⟩
  wp_walk using zF hl
  refine wpAny_stack_any fun st=>yE ?_
  split
  ·rename_i c _ _ _ _ _
   cases (c == Value.type "enumerate")
   ·wp_walk using zF hl,Aj hL
    exact ⟨_,rfl,h⟩
   ·wp_walk using zF hl,Aj hL
    exact ⟨_,rfl,h⟩
  ·wp_walk using zF hl,Aj hL
   exact ⟨_,rfl,h⟩
section
variable{prog:Program}{w:World}{A:Around}{E:Value->Shared->Prop}{s:Shared}
theorem u7{l:Addr}{items:Array Value}{Q:Value->Shared->Prop}(hL:s.heap.IsTuple l items)
 (h:∀ h',IsEnum h' (s.heap.objs.size+1) s.heap.objs.size 0 .none->h'.IsTupleIter s.heap.objs.size l 0->h'.objs.size=s.heap.objs.size+2 ->
   (∀ b o,s.heap.get? b=some o->h'.get? b=some o)->Q (.ref (s.heap.objs.size+1)) { s with heap:=h' }) :
 wpAny (model prog w) A (call (.type "enumerate") [.ref l]) Q E s:=by
 obtain ⟨⟨c,dct,dt,sl⟩,hl,hc,n,hd⟩:=hL
 replace hc:c = .type "tuple" := hc
 replace hd:dt = .seq items n:=hd
 subst hc hd
 refine callType_new F.called_enumerate (by decide) (F.typeCall_enumerate_1 _) (F.newCall_enumerate_1 _) (fun obj=>F.args_object_init_2 obj _) F.entry_enumerate_new
  (rk l items n dct sl) ⟨hl,?_⟩
 have hz:(s.heap.push { cls:= .type "tuple_iterator",data:= .fields #[.ref l,.int 0 0] }).objs.size=s.heap.objs.size+1:=Ai ..
 show _/\_
 rw [hz]
 have he:IsEnum ((s.heap.push { cls:= .type "tuple_iterator",data:= .fields #[.ref l,.int 0 0] }).push
  { cls:= .type "enumerate",data:= .fields #[.none,.bool false,.ref s.heap.objs.size,rawInt 0,.none,.none] }) (s.heap.objs.size+1) s.heap.objs.size 0 .none:=by
  have:=yQ (s.heap.push { cls:= .type "tuple_iterator",data:= .fields #[.ref l,.int 0 0] })
   (o:={ cls:= .type "enumerate",data:= .fields #[.none,.bool false,.ref s.heap.objs.size,rawInt 0,.none,.none] }) rfl
  rw [hz] at this;exact this
 refine ⟨⟨_,he,rfl⟩,h _ he ⟨_,yC _ (yQ _ rfl),rfl,rfl⟩ (by rw [Ai,hz]) fun b o x=>yC _ (yC _ x)⟩
theorem hU{it l:Addr}{i:Nat}{items}{x:Value}{Q:Value->Shared->Prop}(hit:s.heap.IsTupleIter it l i)
 (hl:s.heap.IsTuple l items) (hx:items[i]?=some x)
 (hQ:∀ h',h'.IsTupleIter it l (i+1)->Heap.SameBut it s.heap h'->Q x { s with heap:=h' }) :
 wpAny (model prog w) A (Builtin.SmallTypes.nextOf (.ref it)) Q E s:=by
 obtain ⟨o,ho,hc,hd⟩:=id hit;obtain ⟨ol,hol,_,nl,hdl⟩:=hl;unfold Builtin.SmallTypes.nextOf
 refine yB (zq (name:=Str.ofString "__next__") hit.typeIs F.slot_tuple_iterator_next
  (zx F.slot_tuple_iterator_next hit.typeIs F.entry_tuple_iterator_next ?_ (F.args_tuple_iterator_next_1 _)))
 show wpAny _ _ (field (.ref it) 0 >>= _) _ _ s
 refine yB (zX ho hd (x:= .ref l) rfl ?_)
 show wpAny _ _ (if (Value.ref l == Value.none)=true then _ else _) _ _ s
 rw [if_neg (show ¬ ((Value.ref l == Value.none)=true) from yJ)]
 show wpAny _ _ (field (.ref it) 1 >>= _) _ _ s
 refine yB (zX ho hd (x:= .int i 0) rfl ?_)
 show wpAny _ _ (seqItems? (.ref l) >>= _) _ _ s
 refine yB (wpAny_seqItems hol hdl ?_);simp only [AI,hx];refine yB (A6 ho hd (by simp) (yE ⟨x,rfl,yE (hQ _ ?_ (Heap.SameBut.update ..))⟩))
 exact ⟨_,Ab _ ho (AK (AD hd _)),(Obj.cls_mapFields ..).trans hc,by
  rw [AD hd];simp [rawInt]⟩
theorem gC{it l:Addr}{i:Nat}{items}{Q:Value->Shared->Prop}(hh:A.handled=none)
 (hit:s.heap.IsTupleIter it l i) (hl:s.heap.IsTuple l items) (hx:items[i]?=none)
 (hE:∀ h' e,Heap.ExtBut it s.heap h'->(∃ o,h'.get? e=some o/\o.cls = .type "StopIteration")->E (.ref e) { s with heap:=h' }) :
 wpAny (model prog w) A (Builtin.SmallTypes.nextOf (.ref it)) Q E s:=by
 obtain ⟨o,ho,hc,hd⟩:=id hit;obtain ⟨ol,hol,_,nl,hdl⟩:=hl;unfold Builtin.SmallTypes.nextOf
 refine yB (zq (name:=Str.ofString "__next__") hit.typeIs F.slot_tuple_iterator_next
  (zx F.slot_tuple_iterator_next hit.typeIs F.entry_tuple_iterator_next ?_ (F.args_tuple_iterator_next_1 _)))
 show wpAny _ _ (field (.ref it) 0 >>= _) _ _ s
 refine yB (zX ho hd (x:= .ref l) rfl ?_)
 show wpAny _ _ (if (Value.ref l == Value.none)=true then _ else _) _ _ s
 rw [if_neg (show ¬ ((Value.ref l == Value.none)=true) from yJ)]
 show wpAny _ _ (field (.ref it) 1 >>= _) _ _ s
 refine yB (zX ho hd (x:= .int i 0) rfl ?_)
 show wpAny _ _ (seqItems? (.ref l) >>= _) _ _ s
 refine yB (wpAny_seqItems hol hdl ?_);simp only [AI,hx];refine yB (wpAny_rule (yB (A6 ho hd (by simp) ?_)))
 show wpAny _ _ (newExc (.type "StopIteration") [] >>= _) _ _ _
 refine yB ?_;simp only [newExc,newTuple];refine yB (zk ?_ (by size_fits));refine yB (m:=firstArgMember _ _) (wpAny_of_eq (a:=Value.none) (by first | rfl | (simp only [firstArgMember];rfl)) ?_);refine zk ?_ (by size_fits);simp only [raiseNew];refine yB (wpAny_handled ?_)
 first | rw [show A.in1.handled=none from hh] | rw [hh]
 refine yB (yE (wpAny_throw ?_));exact hE _ _ (((Heap.SameBut.update ..).extBut.push _).push _) ⟨_,yQ _ rfl,rfl⟩
end
end EnT
namespace L2
open PySem PySem.Spec PyProof.Rows
section
variable{X:Cx}
end
end L2
namespace XK
open PySem PySem.W PySem.Spec PySem.Calls PyProof.Rows PySem.Builtin PySem.Builtin.ObjectAttr PySem.Builtin.Getset_descriptor
structure iS(K:Frag)(C:Addr):Prop where
 ga:findIn K (.ref C) "__getattribute__" = some (some (.builtin "BaseException.__getattribute__"))
 gh:findIn K (.ref C) "__getattr__" = some none
 sub:mroIn K C (.type "BaseException")=some true
 cl:findIn K (.ref C) "__class__" = some (some (.builtin "object.__class__"))
 ob:mroIn K C (.type "object")=some true
 cls:(clsIn K C).isSome=true
section
variable{prog:Program}{w:World}{A:Around}{E:Value->Shared->Prop}{h:Heap}{g:Array GenState}{d:Drawn}{t:Nat}{os:OsState}{a:Addr}{o:Obj}{C:Addr}{K:Frag}
theorem ty(hx:h.get? a=some o)(hc:o.cls = .ref C){M:Model}:Looks M h (typeOf (.ref a)) (.ref C):=hc ▸ (Looks.ld hx).andThen .now
theorem get_{tp:Value}{R:Result->Shared->Prop}(X:K.In h)(hx:h.get? a=some o)(hc:o.cls = .ref C)(k:iS K C)(hq:R (.ok (.ret (.ref C))) ⟨h,g,d,t,os⟩) :
 codeAny (model prog w) A (.call (.builtin "getset_descriptor.__get__") ⟨[.builtin "object.__class__",.ref a,tp],[]⟩) R ⟨h,g,d,t,os⟩:=by
 have L0:=ty (M:=model prog w) hx hc;have L1:=looks_mroIn (M:=model prog w) X k.ob;refine codeAny_call_builtin KF.slot_gs.plain KF.entry_gs (KF.slot_gs.check _ _ _ _ _ _ _ _ KF.type_class (KF.args_gs _ _ _) ?_);unfold Builtin.«getset_descriptor.__get__» descrGet;rw [dga_obj];refine yB (yE ?_);unfold descrGetter descrCheckInstance descrNameAndClass isInstance;simp only [KF.owner_class]
 repeat lk
 refine ⟨Code.quiet_builtin _ (by decide +kernel),codeAny_builtin KF.entry_class ?_⟩;unfold Builtin.«object.__class__» shownTypeOf
 repeat lk
 exact hq
theorem entry_{tk:Tok}{Q:Fin->Shared->Prop}(X:K.In h)(hx:h.get? a=some o)(hc:o.cls = .ref C)(k:iS K C)(hq:Q (.done (.ret (.ref C))) ⟨h,g,d,t,os⟩) :
 wpAny (model prog w) A (Builtin.«object.__getattribute__» ⟨[.ref a,.str "__class__" tk],[]⟩) Q E ⟨h,g,d,t,os⟩:=by
 have hT5:(⟨h,g,d,t,os⟩:Shared).TypeIs (.builtin "object.__class__") "getset_descriptor" := F.typeOf_object_class;have L0:=ty (M:=model prog w) hx hc;have L4:=looks_findIn (M:=model prog w) X k.cl;have f5:=F.typeOf_object_class;have f6:=F.slot_gs_get.lookup;have f7:=F.slot_gs_set.lookup
 repeat (any_goals (first | assumption | with_reducible refine Looks.at L0 ?_ | with_reducible refine Looks.at L4 ?_ | wp_step))
 refine get_ X hx hc k ?_
 repeat (any_goals (first | assumption | wp_step))
theorem u3{M:Model}{nameV:Value}{Q:Unit->Shared->Prop}(X:K.In h)(hx:h.get? a=some o)(hc:o.cls = .ref C)(k:iS K C)(hq:Q () ⟨h,g,d,t,os⟩):wpAny M A (checkBuiltinCall "BaseException.__getattribute__" ⟨[.ref a,nameV],[]⟩) Q E ⟨h,g,d,t,os⟩:=by
 have hk:builtinKind "BaseException.__getattribute__" = some .slot:=by decide +kernel
 have hsplit:splitId "BaseException.__getattribute__" = some ("BaseException", "__getattribute__"):=by decide +kernel
 have L0:=ty (M:=M) hx hc;have L3:=looks_mroIn (M:=M) X k.sub;have ha:=F.args_bexc_ga (.ref a) nameV;simp only [checkBuiltinCall,hk,hsplit];refine yB ?_;unfold isInstance
 repeat (first | with_reducible refine Looks.at L0 ?_ | with_reducible refine Looks.at L3 ?_ | wp_step)
 exact hq
theorem by_{tk:Tok}{fill expr:Bool}{Q:Value->Shared->Prop}(X:K.In h)(hx:h.get? a=some o)(hc:o.cls = .ref C)(k:iS K C)(hq:Q (.ref C) ⟨h,g,d,t,os⟩) :
 wpAny (model prog w) A (getAttrBy (.ref a) (.str "__class__" tk) fill expr) Q E ⟨h,g,d,t,os⟩:=by
 have f3:=F.excAttr_ValueError.ga.bind (.ref a)
 have hx0:(expr&&onTheHeap (Value.builtin "BaseException.__getattribute__"))=false:=by cases expr<;>rfl
 have hx2:(Value.builtin "BaseException.__getattribute__" == Value.builtin "object.__getattribute__")=false:=by decide +kernel
 have hx1:(onTheHeap (Value.ref C)&&Value.builtin "BaseException.__getattribute__" == Value.builtin "object.__getattribute__")=false:=by rw [hx2];rfl
 have L0:=ty (M:=model prog w) hx hc;have L1:=looks_findIn (M:=model prog w) X k.ga;have L2:=looks_findIn (M:=model prog w) X k.gh
 repeat (any_goals (first | assumption | with_reducible refine Looks.at L0 ?_ | with_reducible refine Looks.at L1 ?_ | with_reducible refine Looks.at L2 ?_ | wp_step))
 refine codeAny_call_builtin F.excAttr_ValueError.ga.plain F.entry_bexc_ga (u3 X hx hc k (entry_ X hx hc k ?_))
 repeat (any_goals (first | assumption | wp_step))
theorem attr_{Q:Option Value->Shared->Prop}(X:K.In h)(hx:h.get? a=some o)(hc:o.cls = .ref C)(k:iS K C)(hq:Q (some (.ref C)) ⟨h,g,d,t+1,os⟩):wpAny (model prog w) A (getAttr? (.ref a) "__class__") Q E ⟨h,g,d,t,os⟩:=by
 unfold getAttr? getAttrBy?
 repeat (any_goals (first | assumption | with_reducible apply by_ X hx hc k | wp_step))
end
theorem kitx{K:Frag}{a C:Addr}(k:iS K C):KitX K (.ref a) (.ref C) (fun h=>∃ o,h.get? a=some o/\o.cls = .ref C) where
 ty:=fun M h X hZ=>(by obtain ⟨o,hx,hc⟩:=hZ;exact ty hx hc)
 it:=fun M h X _=>by
  have z:=k.cls;unfold clsIn at z
  split at z
  ·rename_i c' d' cd' sl' ho
   intro A' Q' E' s' k q;unfold isType loadHead;exact yB (wpAny_loadPart (k _ _ (X _ _ ho)) (yE q))
  ·cases z
 ne:=fun h tp dd its n sl X htp=>by
  have z:=k.cls
  refine Bool.eq_false_iff.mpr fun q=> ?_
  have e:C=tp:=Value.ref.inj (beq_iff_eq.mp q);subst e;unfold clsIn at z
  split at z
  ·rename_i c' d' cd' sl' ho
   have z:=(X _ _ ho).symm.trans htp;cases z
  ·cases z
 ca:=fun {prog w A E Q s} X p h=>by
  obtain ⟨hp,g,d,t,os⟩:=s;obtain ⟨o,hx,hc⟩:=p;exact attr_ X hx hc k h
end XK
namespace L2
open PySem PySem.Spec PyProof.Rows
section
variable{X:Cx}{e:Expr}{te:TE}{x:Str}{p1 p2 pos:Pos}
def rIsx(K:A9):List V->Hp->VK->Prop:=fun xs H Q=>∃ ea C dx c u b,xs=[.ref ea,c]/\H ea=some (iR ea C dx)/\XK.iS K C/\ax c u/\PySem.W.kitOne K (.ref C) u=some b/\Q (.bl b) H
theorem ot:aE X (.builtin "isinstance") (rIsx X.K):=by
 intro pins s σ H xs us Q I r h;obtain ⟨ea,C,dx,c,u,b,rfl,hH,k,rc,e,q⟩:=h;obtain ⟨v,u',rfl,rv,ru⟩:=mJ r;cases rv
 have hu:u'=u:=by
  cases c with
  | ref a=>exact (show u' = .ref a from ru).trans (show u = .ref a from rc).symm
  | ty n=>exact (show u' = .type n from ru).trans (show u = .type n from rc).symm
  | non=>exact (show u' = .none from ru).trans (show u = .none from rc).symm
  | bl a=>exact (show u' = .bool a from ru).trans (show u = .bool a from rc).symm
  | int i=>exfalso;obtain ⟨t,rfl⟩:=rc;unfold PySem.W.kitOne PySem.W.kitCls at e;simp at e
  | str i=>exfalso;obtain ⟨t,rfl⟩:=rc;unfold PySem.W.kitOne PySem.W.kitCls at e;simp at e
  | byt i=>exfalso;obtain ⟨t,rfl⟩:=rc;unfold PySem.W.kitOne PySem.W.kitCls at e;simp at e
  | flt i=>exfalso;obtain ⟨t,rfl⟩:=rc;unfold PySem.W.kitOne PySem.W.kitCls at e;simp at e
 subst hu;have ho:∃ o,s.heap.get? ea=some o/\o.cls = .ref C:=(by obtain ⟨o,h1,h2,_⟩:=(I.hok ea _ hH).1;exact ⟨o,h1,h2⟩)
 exact PySem.W.kia_one (XK.kitx k) I.kIn ho e (fun z=>nomatch z) fun tk=>⟨.bl b,H,I.tok tk,rfl,q⟩
end
end L2
namespace XK
open PySem PySem.W PySem.Spec PySem.Calls PyProof.Rows PySem.Builtin PySem.Builtin.ObjectAttr PySem.Builtin.Getset_descriptor
section
variable{prog:Program}{w:World}{A:Around}{E:Value->Shared->Prop}{h:Heap}{g:Array GenState}{d:Drawn}{t:Nat}{os:OsState}{a:Addr}{o:Obj}{C:Addr}{K:Frag}{od:Option Obj}{name:Str}{v:Value}
theorem entryF{tk:Tok}{Q:Fin->Shared->Prop}(X:K.In h)(I:InstAt h a o C od)(hf:findObj K C od name=some (.value v))(hq:Q (.done (.ret v)) ⟨h,g,d,t,os⟩) :
 wpAny (model prog w) A (Builtin.«object.__getattribute__» ⟨[.ref a,.str name tk],[]⟩) Q E ⟨h,g,d,t,os⟩:=by
 have L0:=I.type (M:=model prog w);have L4:=looks_find (M:=model prog w) X I hf;unfold Builtin.«object.__getattribute__»;refine yB (yE (yB (yE (yB (L0.at (yB (L4.at ?_)))))));exact yE hq
theorem byF{tk:Tok}{fill expr:Bool}{Q:Value->Shared->Prop}(X:K.In h)(I:InstAt h a o C od)(k:iS K C)(hf:findObj K C od name=some (.value v))(hh:handedIn v=true)(hq:Q v ⟨h,g,d,t,os⟩) :
 wpAny (model prog w) A (getAttrBy (.ref a) (.str name tk) fill expr) Q E ⟨h,g,d,t,os⟩:=by
 have f3:=F.excAttr_ValueError.ga.bind (.ref a)
 have hx0:(expr&&onTheHeap (Value.builtin "BaseException.__getattribute__"))=false:=by cases expr<;>rfl
 have hx2:(Value.builtin "BaseException.__getattribute__" == Value.builtin "object.__getattribute__")=false:=by decide +kernel
 have hx1:(onTheHeap (Value.ref C)&&Value.builtin "BaseException.__getattribute__" == Value.builtin "object.__getattribute__")=false:=by rw [hx2];rfl
 have L0:=I.type (M:=model prog w);have L1:=looks_findIn (M:=model prog w) X k.ga;have L2:=looks_findIn (M:=model prog w) X k.gh;have f9:=handedOut_of hh
 repeat (any_goals (first | assumption | with_reducible refine Looks.at L0 ?_ | with_reducible refine Looks.at L1 ?_ | with_reducible refine Looks.at L2 ?_ | wp_step))
 refine codeAny_call_builtin F.excAttr_ValueError.ga.plain F.entry_bexc_ga (u3 X I.at_ I.cls k (entryF X I hf ?_))
 repeat (any_goals (first | assumption | wp_step))
 all_goals trace_state
theorem attrF{expr:Bool}{Q:Value->Shared->Prop}(X:K.In h)(I:InstAt h a o C od)(k:iS K C)(hf:findObj K C od name=some (.value v))(hh:handedIn v=true)(hq:Q v ⟨h,g,d,t+1,os⟩) :
 wpAny (model prog w) A (getAttr (.ref a) name expr) Q E ⟨h,g,d,t,os⟩:=by
 unfold getAttr
 repeat (any_goals (first | assumption | with_reducible apply byF X I k hf hh | wp_step))
end
end XK
namespace XK
open PySem PySem.W PySem.Spec PySem.Calls PyProof.Rows PySem.Builtin PySem.Builtin.ObjectAttr
abbrev bmV:List Value:=[.type "ValueError",.type "Exception",.type "BaseException",.type "object"]
structure pK(K:Frag)(C TE:Addr):Prop where
 sa:findIn K (.ref C) "__setattr__" = some (some (.builtin "object.__setattr__"))
 cd:∃ cd,clsIn K C=some cd/\cd.mro = .ref C :: .ref TE::bmV/\cd.hasDict=true
section
variable{prog:Program}{w:World}{A:Around}{E:Value->Shared->Prop}{s:Shared}{x C TE:Addr}{ox:Obj}{od:Option Obj}{K:Frag}{name:Str}{v:Value}
theorem qd{tk:Tok}{R:Result->Shared->Prop}(X:K.In s.heap)(I:InstAt s.heap x ox C od)(k:pK K C TE)(ht:takerIn K C name=some none)
 (q:∀ b,wpAny (model prog w) A.in1 (storeInOwnDict (.ref x) (.ref C) (.str name tk) name v b)
   (fun fin s'=>match fin with | .done f=>R (.ok f) s' | .again c'=>c'.quiet=true/\codeAny (model prog w) A c' R s') (fun e s'=>R (.error e) s') s) :
 codeAny (model prog w) A (.call (.builtin "object.__setattr__") ⟨[.ref x,.str name tk,v],[]⟩) R s:=by
 obtain ⟨cd,hc,hm,hh⟩:=k.cd;have SO:=PySem.F.store_object;have sub:Looks (model prog w) s.heap (isInstance (.ref x) (.type "object")) true:=I.type.andThen (looks_mroIn X (by unfold mroIn;rw [hc,Option.bind_some,if_neg (by rw [hm];simp),hm];simp [bmV]));refine codeAny_call_builtin SO.slot.plain SO.entry (@check_slot (model prog w) _ _ s "object.__setattr__" "object" "__setattr__" (.ref x) [.str name tk,v] [] _ SO.kind SO.split sub (SO.args (.ref x) (.str name tk) v) ?_);obtain ⟨at_,h1,h2⟩:=Option.bind_eq_some_iff.mp ht;have Lm:Looks (model prog w) s.heap (mroOf (.ref C)) cd.mro:=(looks_clsIn X hc).andThen .now
 have Lt:Looks (model prog w) s.heap (storeTaker? at_) none:=by
  cases at_ with
  | none=>exact .now
  | some a =>
   obtain ⟨b,hb,hb2⟩:=zv.mp h2;refine (looks_takesIn X hb).andThen ?_
   cases b with
   | true=>cases hb2
   | false=>exact .now
 rw [osa_eq,refuse_eq];apply yB;apply yB;apply I.type.here;apply yB;apply Lm.here;rw [hm,refuseLoop_ref,refuseLoop_ref,PySem.F.store_ValueError.passes];apply yE;apply yB;apply I.type.here;apply yB;apply (looks_findIn X h1).here;apply yB;apply Lt.here;exact q _
theorem qF{Q:Unit->Shared->Prop}(X:K.In s.heap)(I:InstAt s.heap x ox C none)(hn:ox.dict=none)(hnc:∀ c,ox.data ≠ .cls c)(hfr:∀ (y:Obj),y.data=ox.data->y.isFreed=false)(k:pK K C TE)(ht:takerIn K C name=some none)
 (q:∀ h',h'.get? x=some { ox with dict:=some s.heap.objs.size }->h'.Ns1 s.heap.objs.size (fun y=>if y=name then some v else none)->(∀ b o,b≠x->s.heap.get? b=some o->h'.get? b=some o)->Q () { s with heap:=h',toks:=s.toks+2 }) :
 wpAny (model prog w) A (setAttr (.ref x) name v) Q E s:=by
 refine set_plain X I k.sa (qd (s:={ s with toks:=s.toks+1 }) X I k ht fun b=> ?_);obtain ⟨cd,hc,hm,hh⟩:=k.cd;have Lc:=looks_clsIn (M:=model prog w) X hc;obtain ⟨oc,odi,oda,osl⟩:=ox;have ec:=I.cls;dsimp only at ec hn hnc;subst ec hn;have hx:=I.at_;have xs:x≠s.heap.objs.size:=za (yN hx);have hx1:(s.heap.push { cls:= .type "dict",data:= .dict #[] }).get? x=some ⟨.ref C,none,oda,osl⟩:=yC _ hx;unfold storeInOwnDict ownDictForStores instanceDict;refine yB (yE ?_);rw [if_neg (by simp)];refine yB (yB (wpAny_loadPart hx (yB (PySem.W.Looks.here (s:={ s with toks:=s.toks+1 }) Lc ?_))));rw [hh,if_neg (by decide)];simp only [typeHasDict,Bool.not_true,Au,zL,if_false]
 have go:wpAny (model prog w) A.in1 (do
  let d <- alloc { cls:= .type "dict",data:= .dict #[] }
  update x fun o=>{ o with dict:=some d }
  dictMade (.ref C) x d) (fun o s'=>o=some s.heap.objs.size/\s'={ s with heap:=(s.heap.push { cls:= .type "dict",data:= .dict #[] }).update x fun o=>{ o with dict:=some s.heap.objs.size },toks:=s.toks+1 }) (fun _ _=>False) { s with toks:=s.toks+1 }:=by
  refine yB (wpAny_alloc (yB (wpAny_update hx1 ?_)));exact yB (yE (yE ⟨rfl,rfl⟩))
 have hgx:((s.heap.push { cls:= .type "dict",data:= .dict #[] }).update x fun o=>{ o with dict:=some s.heap.objs.size }).get? x=some ⟨.ref C,some s.heap.objs.size,oda,osl⟩:=Ab _ hx1 (hfr _ rfl)
 have hgd:((s.heap.push { cls:= .type "dict",data:= .dict #[] }).update x fun o=>{ o with dict:=some s.heap.objs.size }).get? s.heap.objs.size=some { cls:= .type "dict",data:= .dict #[] } :=
  (Heap.get?_update_ne _ _ _ _ xs.symm).trans (Heap.get?_push_at rfl rfl)
 have hnd:((s.heap.push { cls:= .type "dict",data:= .dict #[] }).update x fun o=>{ o with dict:=some s.heap.objs.size }).Ns s.heap.objs.size (fun _=>none):=⟨_,#[],_,hgd,rfl,fun e he=>absurd he (by simp),fun _=>rfl⟩
 ·refine zp go (fun o s' z=> ?_) fun _ _ z=>z.elim
  obtain ⟨rfl,rfl⟩:=z
  show wpAny _ _ (storeInDict s.heap.objs.size (.str name s.toks) name v) _ _ _
  unfold storeInDict newKeyGuard;refine yB (yE (yB (wpAny_nsSet1 (Heap.Ns1.of_empty hnd) fun h' n1 sb=> ?_)));obtain ⟨oD,eD,pD,aD,dD,cD⟩:=n1.count (Within.cons name v Within.nil);refine yB (wpAny_lookBehind aD (by rw [dD];exact pastItsLine_dict (zu cD (by rw [yM,zJ,sizeLine_eq];omega))) ?_);refine yE (q h' ((sb.2 x xs).trans hgx) n1 fun b o bx hb=> ?_);exact (sb.2 b (za (yN hb))).trans ((Heap.get?_update_ne _ _ _ _ bx).trans (yC _ hb))
theorem sN{dx:Addr}{oD:Obj}{mA:Str->Option Value}{ns:List Str}{Q:Unit->Shared->Prop}(X:K.In s.heap)(I:InstAt s.heap x ox C (some oD))(hd:ox.dict=some dx)(hx':dx≠x)(hn:s.heap.Ns1 dx mA)(k:pK K C TE)(ht:takerIn K C name=some none)(hw:Within mA ns)(hsz:ns.length < sizeLine)
 (q:∀ h',h'.Ns1 dx (fun y=>if y=name then some v else mA y)->Heap.SameBut dx s.heap h'->Q () { s with heap:=h',toks:=s.toks+2 }) :
 wpAny (model prog w) A (setAttr (.ref x) name v) Q E s:=by
 refine set_plain X I k.sa (qd (s:={ s with toks:=s.toks+1 }) X I k ht fun b=> ?_);obtain ⟨cd,hc,hm,hh⟩:=k.cd;have Lc:=looks_clsIn (M:=model prog w) X hc;obtain ⟨oc,odi,oda,osl⟩:=ox;have ec:=I.cls;dsimp only at ec hd;subst ec hd;have hx:=I.at_;unfold storeInOwnDict ownDictForStores instanceDict;refine yB (yE ?_);rw [if_neg (by simp)];refine yB (yB (wpAny_loadPart hx (yB (PySem.W.Looks.here (s:={ s with toks:=s.toks+1 }) Lc ?_))));rw [hh,if_neg (by decide)];refine yE ?_
 show wpAny _ _ (storeInDict dx (.str name s.toks) name v) _ _ _
 unfold storeInDict newKeyGuard;refine yB (yE (yB (wpAny_nsSet1 (s:={ s with toks:=s.toks+1 }) hn fun h' n1 sb=> ?_)));obtain ⟨o1,eD,pD,aD,dD,cD⟩:=n1.count (Within.cons name v hw);refine yB (wpAny_lookBehind aD (by rw [dD];exact pastItsLine_dict (zu cD (by rw [yM];omega))) ?_);exact yE (q h' n1 sb)
end
end XK
namespace L2
open PySem PySem.Spec PyProof.Rows
section
variable{X:Cx}
theorem oQ{elt tg iter:Expr}{ifs:List Expr}{sc:Scope}{M tgs:List Str}{pos:Pos}{wi:TI}{g:TG}{tt:TT}{te:TE}{j:Nat}{y:Str}{py spos:Pos}(hc:X.calm=true)(B:kh X sc M tgs)(hi:PI X tg iter wi)
 (hg:∀ cl C fp s H,PG (blk X sc cl C fp s H (M++tgs)) tg g) (ht:∀ cl C fp s H,su (blk X sc cl C fp s H (M++tgs)) ifs tt) (he:∀ cl C fp s H,PE (blk X sc cl C fp s H (M++tgs)) elt te)
 (hN:X.N.Nodup) (hjy:X.N[j]?=some y) (hy:X.env.scope.names.lookup y=some .local) (hsw:swapsWith (.ListComp elt [⟨tg,iter,ifs,0⟩] sc pos) (some (.Name y py)) spos.line X.env=pure true:=by rfl)
 (hs:∀ x,foldedSetIterable iter X.env x=pure x:=by intro _;rfl):PS X (.Assign [.Name y py] (.ListComp elt [⟨tg,iter,ifs,0⟩] sc pos) spos) (tAsg (mT wi tgs.length g tt te) (qp j)):=by
 intro pins s σ H Dn I h
 let Q:VK:=fun x H1=>Dn.nx (σ.set j (some x)) H1
 have h:mT wi tgs.length g tt te σ H Q:=h;rw [exec_Assign_Name_used _ _ _ _ hsw];refine yB (wpAny_standAt (yB ?_));refine yB (zp (lj (use:=some (assign (.Name y py) X.env)) (Qf:=fun _ s'=>SP X pins Dn .next s') hc B hi hg ht he hs I h fun C D m s6 H' I8 hn hC hLC hsz hcC hp q f=> ?_) (fun _ s' hq=>yE (yE hq)) fun _ _ e=>e)
 show wpAny _ _ (assign (.Name y py) X.env (.ref D)) _ _ _
 refine wpAny_assign_Name (kE I8 hN hjy (.inl hy) (v:= .ref D) rfl (fun s9 I9 hsb=> ?_) (.inr hy));obtain ⟨a,sb,ha⟩:=hsb
 have haC:C≠a:=by
  rcases ha with rfl | ha
  ·exact Ay hLC
  ·exact Ne.symm (hcC _ _ ha)
 exact ⟨m,hn.sameBut sb haC,fun h' hs'=>⟨_,H',I9.turned (t':=s9.toks) (it:=C) (fun b o hb e=>(hs'.2 b hb).trans e) hC (Ay hLC) (.inr hsz) hcC hp,q⟩⟩
end
section
variable{X:Cx}
def fT(K:A9):List V->Hp->(V->Hp->Prop)->Prop:=fun xs H Q=>∃ (p:Addr) (ns:List Int),xs=[V.ref p]/\SqL K H p (ns.map V.int)/\ns.length < 64 /\
 ∀ l (ms:List Int),H l=none->List.Perm ms ns->ms.Pairwise (·<= ·)->Q (.ref l) (upd H l (.lst (ms.map V.int)))
theorem ip{us:List Value}{ns:List Int}(h:IntsAre us ns):aq (ns.map V.int) us:=by
 induction h with
 | nil=>exact .nil
 | cons a t _ ih=>exact .cons ⟨t,rfl⟩ ih
theorem ml:aE X (.builtin "sorted") (fT X.K):=by
 intro pins s σ H xs us Q I r h;obtain ⟨p,ns,rfl,hq,h64,q⟩:=h;obtain ⟨u,rfl,ru⟩:=bN r;cases ru;obtain ⟨its,rv,pl,hz⟩:=I.list hq;have hlen:=rv.length;rw [yF] at hlen
 refine sorted_ints pl.isList (dU rv) (by omega) fun out ms hi hp hs=> ?_
 have hf:H (s.heap.objs.size+1)=none:=I.hok.fresh (AH _);obtain ⟨e,he⟩:=sortedAll_at s.heap its out;refine ⟨.ref (s.heap.objs.size+1),upd H (s.heap.objs.size+1) (.lst (ms.map V.int)),I.laid (t':=s.toks) (fun b o=>sortedAll_old) (AH _) ⟨?_,out.toList,e,ip hi,by simpa using he⟩,rfl,q _ _ hf hp hs⟩;rw [yF,hp.length_eq]
 rwa [yF] at hz
def jk:List V->Hp->(V->Hp->Prop)->Prop:=fun xs H Q=>∃ (p:Addr) (lo hi:Int),xs=[V.ref p]/\H p=some (.rng lo hi) /\ -(2 ^ 62)<=lo/\lo < 2 ^ 62 /\ -(2 ^ 62)<=hi/\hi < 2 ^ 62/\(hi - lo).toNat<=1000 /\
 ∀ l,H l=none->Q (.ref l) (upd H l (.lst ((List.range (hi - lo).toNat).map fun k=>V.int (lo+(k:Nat)))))
theorem eC:∀ {xs:List V} {us:List Value},xs.length=us.length->(∀ (i:Nat) (x:V) (u:Value),xs[i]?=some x->us[i]?=some u->ax x u)->aq xs us
 | [],[],_,_=> .nil
 | x::xs,u::us,h,q=> .cons (q 0 x u rfl rfl) (eC (by simpa using h) fun i x' u' h1 h2=>q (i+1) x' u' (by simpa using h1) (by simpa using h2))
 | [],_::_,h,_=>by simp at h
 | _::_,[],h,_=>by simp at h
theorem px(hc:X.calm=true):aE X (.type "list") jk:=by
 intro pins s σ H xs us Q I r h;obtain ⟨p,lo,hi,rfl,hp,h1,h2,h3,h4,hn,q⟩:=h;obtain ⟨u,rfl,ru⟩:=bN r;cases ru;obtain ⟨t,u,v,e⟩:=(show aX X.prog X.w H s.heap p (.rng lo hi) from I.hok p _ hp)
 have hsz:Builtin.Range.rangeSize lo hi 1=((hi - lo).toNat:Nat):=by rw [rangeSize_one];split<;>omega
 refine call_list_range (n:=(hi - lo).toNat) (I.ok.hd hc) (show IsRange s.heap p lo hi 1 t u v from e) (small_one h1 h2 h3 h4) hsz (by omega) fun h' tk acc c hk hS hacc=> ?_
 have hf:H s.heap.objs.size=none:=I.hok.fresh (yO _);refine ⟨.ref s.heap.objs.size,_,I.laid (o:= .lst ((List.range (hi - lo).toNat).map fun k=>V.int (lo+(k:Nat)))) hk (yO _) ⟨?_,acc.toList,c,eC ?_ ?_,by simpa using hS⟩,rfl,q _ hf⟩
 ·rw [yF,zW];exact zT (cb hn)
 ·rw [yF,zW,zt,hacc.1]
 ·intro i x w hx hw
  rw [zc] at hx;obtain ⟨k,hk',rfl⟩:=zv.mp hx
  have ek:i=k:=by
   rw [yR] at hk';obtain ⟨z,e⟩:=hk';simpa using e
  subst ek;obtain ⟨t',rfl⟩:=hacc.2 i w (by simpa using hw);refine ⟨t',?_⟩;rw [Int.mul_one]
end
end L2
namespace St2
open PySem PyProof.Rows
section
variable{prog:Program}{w:World}{A:Around}{E:Value->Shared->Prop}{s:Shared}
end
end St2
namespace L2
open PySem PySem.Spec PyProof.Rows
section
variable{X:Cx}
def pW:List V->Hp->VK->Prop:=fun xs H Q=>∃ (p:Addr) (S:Int->Bool) (n:Nat),xs=[V.ref p]/\H p=some (.set S n)/\n<=1000/\Q (.int (n:Nat)) H
theorem oq:aE X (.builtin "len") pW:=by
 intro pins s σ H xs us Q I r h;obtain ⟨p,S,n,rfl,hp,hn,q⟩:=h;obtain ⟨u,rfl,ru⟩:=bN r;cases ru;obtain ⟨o,es,ep,t,ho,ex,hd,_,_,_,hf,rfl⟩:=(show s.heap.SetOf (intKind X.prog X.w) p S n from I.hok p _ hp);exact call_len_set ho ex hd hf (by omega) ⟨.int (es.size:Nat),H,I.tok _,⟨_,rfl⟩,q⟩
end
end L2
namespace St2
open PySem PyProof.Rows
end St2
namespace Tr2
open PySem PyProof.Rows
section
variable{prog:Program}{w:World}{A:Around}{E:Value->Shared->Prop}{s:Shared}
theorem wV{R:Result->Shared->Prop}{r:Addr}{a b:Int}{t u v:Tok}{k:Nat}(calm:A.handled=none)(rg:IsRange s.heap r a b 1 t u v)(sm:Builtin.Range.small a b 1=true)(sz:Builtin.Range.rangeSize a b 1=k)(few:k<=1000)
 (q:∀ (h':Heap) (tk:Nat) (acc:Array Value) (c0:Nat),(∀ x o,s.heap.get? x=some o->h'.get? x=some o)->h'.get? s.heap.objs.size=some { cls:= .type "list",dict:=none,data:= .seq acc c0,slots := #[] }->ItemsOf (fun i v=>∃ t,v = .int (a+i * 1) t) acc k->R (.ok (.ret (.ref s.heap.objs.size))) { s with heap:=h',toks:=tk }) :
 codeAny (model prog w) A (.builtin "proto.collect" ⟨[.ref r],[]⟩) R s:=by
 refine (codeAny_builtin PySem.F.entry_proto_collect ?_);rw [(Around.under_plainId PySem.F.plain_proto_collect _)]
 show wpAny _ A.in1 (newList [] >>= fun l=>again (.builtin "list.__iadd__" ⟨[l,.ref r],[]⟩)) (_) _ s
 refine yB (zk (yE ⟨plainId_quiet PySem.F.plain_list_iadd _,codeAny_builtin PySem.F.entry_list_iadd ?_⟩));rw [(Around.under_plainId PySem.F.plain_list_iadd _)];have at_:(s.heap.push { cls:= .type "list",data:= .seq ([]:List Value).toArray }).get? s.heap.objs.size=some { cls:= .type "list",data:= .seq #[] 0 }:=yQ _ rfl
 show wpAny _ A.in1 (Builtin.List.listExtendWith (.ref s.heap.objs.size) (.ref r) (.ref s.heap.objs.size)) (_) _ _
 exact wpAny_extend_range (A:=A) (R:=R) (s:={ s with heap:=s.heap.push { cls:= .type "list",data:= .seq ([]:List Value).toArray } }) calm (yC _ rg) sm sz (by omega) s.heap.objs.size (.ref s.heap.objs.size) 0 at_ fun h' tk acc c0 kp hS it =>
  q h' tk acc c0 (fun x o e=>kp x o (za (yN e)) (yC _ e)) hS it
theorem gather{Q:List Value->Shared->Prop}{r:Addr}{a b:Int}{t u v:Tok}{k:Nat}(calm:A.handled=none)(rg:IsRange s.heap r a b 1 t u v)(sm:Builtin.Range.small a b 1=true)(sz:Builtin.Range.rangeSize a b 1=k)(few:k<=1000)
 (q:∀ (h':Heap) (tk:Nat) (acc:Array Value),s.heap.objs.size < h'.objs.size->(∀ x o,s.heap.get? x=some o->h'.get? x=some o)->ItemsOf (fun i v=>∃ t,v = .int (a+i * 1) t) acc k->Q acc.toList { s with heap:=h',toks:=tk }):wpAny (model prog w) A (collect (.ref r)) Q E s:=by
 unfold collect;refine yB (wpAny_runValue (wV calm rg sm sz few fun h' tk acc c0 kp hS it=> ?_))
 show wpAny _ A (load s.heap.objs.size >>= _) (_) _ _
 refine yB (wpAny_load hS ?_);exact yE (q h' tk acc (yN hS) kp it)
theorem made{r:Addr}{a b:Int}{t u v:Tok}{k:Nat}(sm:Builtin.Range.small a b 1=true)(sz:Builtin.Range.rangeSize a b 1=k)(few:k<=1000):Meets (Builtin.«tuple.__new__» ⟨[.type "tuple",.ref r],[]⟩)
 (fun A R s=>A.handled=none/\IsRange s.heap r a b 1 t u v/\∀ (h':Heap) (tk:Nat) (acc:Array Value),s.heap.objs.size < h'.objs.size->(∀ x o,s.heap.get? x=some o->h'.get? x=some o)->ItemsOf (fun i v=>∃ t,v = .int (a+i * 1) t) acc k->R (.ok (.ret (.ref h'.objs.size))) { s with heap:=h'.push { cls:= .type "tuple",data:= .seq acc },toks:=tk }) :=
 .of_wp fun prog w A R s h=>by
  obtain ⟨calm,rg,h⟩:=h;have f1:=sub_tuple_self;have f2:=init_tuple_lookup;have f3:=madeHere_tuple;have ty:s.TypeIs (.ref r) "range" := ⟨_,rg,rfl⟩;have calm1:A.in1.handled=none:=calm
  wp_walk using A2 ty,gather calm1 rg sm sz few
  intro h' tk acc lz kp it
  show wpAny _ _ (Builtin.Tuple.tupleExact acc.toList.toArray >>= fun v=>ret v) (_) _ _
  unfold Builtin.Tuple.tupleExact;refine (yB (zk ?_ (show acc.toList.toArray.size<=sizeLine by simp only [Array.toArray_toList];rw [it.1,sizeLine_eq];omega)));refine yE ⟨_,rfl,?_⟩;rw [show acc.toList.toArray=acc by simp];exact h h' tk acc lz kp it
theorem mM{Q:Value->Shared->Prop}{r:Addr}{a b:Int}{t u v:Tok}{k:Nat}(calm:A.handled=none)(rg:IsRange s.heap r a b 1 t u v)(sm:Builtin.Range.small a b 1=true)(sz:Builtin.Range.rangeSize a b 1=k)(few:k<=1000)
 (q:∀ (h':Heap) (tk:Nat) (acc:Array Value),s.heap.objs.size < h'.objs.size->(∀ x o,s.heap.get? x=some o->h'.get? x=some o)->ItemsOf (fun i v=>∃ t,v = .int (a+i * 1) t) acc k->Q (.ref h'.objs.size) { s with heap:=h'.push { cls:= .type "tuple",data:= .seq acc },toks:=tk }):wpAny (model prog w) A (call (.type "tuple") [.ref r]) Q E s :=
 callType_new PySem.F.called_tuple (by decide) (PySem.F.typeCall_tuple_1 _) (PySem.F.newCall_tuple_1 _) (fun obj=>PySem.F.args_object_init_2 obj _) PySem.F.entry_tuple_new (made sm sz few) ⟨calm,rg,fun h' tk acc lz kp it=>⟨⟨_,yQ _ rfl,rfl⟩,q h' tk acc lz kp it⟩⟩
end
end Tr2
namespace L2
open PySem PySem.Spec PyProof.Rows
section
variable{X:Cx}
theorem op_isB:OpR X (compareOp .Is) (fun x y H Q=>∃ a b,x = .bl a/\y = .bl b/\Q (.bl (a == b)) H):=by
 intro pins s σ H x y v u Q I rx ry h;obtain ⟨a,b,rfl,rfl,q⟩:=h;cases rx;cases ry;exact is_bool ⟨.bl (a == b),H,I,rfl,q⟩
theorem rf:OpR X (compareOp .IsNot) (fun x y H Q=>∃ a b,x = .bl a/\y = .bl b/\Q (.bl (a != b)) H):=by
 intro pins s σ H x y v u Q I rx ry h;obtain ⟨a,b,rfl,rfl,q⟩:=h;cases rx;cases ry;exact isnot_bool ⟨.bl (a != b),H,I,rfl,q⟩
def sZ:List V->Hp->VK->Prop:=fun xs H Q=>∃ (p:Addr) (lo hi:Int),xs=[V.ref p]/\H p=some (.rng lo hi) /\ -(2 ^ 62)<=lo/\lo < 2 ^ 62 /\ -(2 ^ 62)<=hi/\hi < 2 ^ 62/\(hi - lo).toNat<=1000 /\
 ∀ l,H l=none->Q (.ref l) (upd H l (.tup ((List.range (hi - lo).toNat).map fun k=>V.int (lo+(k:Nat)))))
theorem rN(hc:X.calm=true):aE X (.type "tuple") sZ:=by
 intro pins s σ H xs us Q I r h;obtain ⟨p,lo,hi,rfl,hp,h1,h2,h3,h4,hn,q⟩:=h;obtain ⟨u,rfl,ru⟩:=bN r;cases ru;obtain ⟨t,u,v,e⟩:=(show aX X.prog X.w H s.heap p (.rng lo hi) from I.hok p _ hp)
 have hsz:Builtin.Range.rangeSize lo hi 1=((hi - lo).toNat:Nat):=by rw [rangeSize_one];split<;>omega
 refine Tr2.mM (k:=(hi - lo).toNat) (I.ok.hd hc) (show IsRange s.heap p lo hi 1 t u v from e) (small_one h1 h2 h3 h4) hsz hn fun h' tk acc lz kp it=> ?_
 have ge:s.heap.objs.size<=h'.objs.size:=zT lz;have hf:H h'.objs.size=none:=I.hok.fresh ge;refine ⟨.ref h'.objs.size,_,I.laid (o:= .tup ((List.range (hi - lo).toNat).map fun k=>V.int (lo+(k:Nat)))) (fun b o z=>yC _ (kp b o z)) ge ⟨?_,acc.toList,eC ?_ ?_,pM (yQ _ rfl)⟩,rfl,q _ hf⟩
 ·rw [yF,zW];exact zT (cb hn)
 ·rw [yF,zW,zt,it.1]
 ·intro i x w hx hw
  rw [zc] at hx;obtain ⟨k,hk',rfl⟩:=zv.mp hx
  have ek:i=k:=by
   rw [yR] at hk';obtain ⟨z,e⟩:=hk';simpa using e
  subst ek;obtain ⟨t',rfl⟩:=it.2 i w (by simpa using hw);refine ⟨t',?_⟩;rw [Int.mul_one]
end
section
variable{X:Cx}
def vw(_ j:Int):Prop:=0 < j/\j < 10 ^ 70
theorem rB{j:Int}(h0:0 < j)(h1:j < 10 ^ 70):j.natAbs.log2 < 9000:=by
 have e:j.natAbs≠0:=by omega
 refine zb ((Nat.log2_lt (k:=240) e).mpr ?_) (by decide)
 have:(10:Int) ^ 70<=2 ^ 240:=by decide
 have h2:j < 2 ^ 240:=by omega
 have h3:((j.natAbs:Nat):Int) < ((2 ^ 240:Nat):Int):=by
  rw [Int.natAbs_of_nonneg (by omega)];exact h2
 exact Int.ofNat_lt.mp h3
theorem ue:OpR X (binaryOp .FloorDiv) (rI vw fun i j=> .int (i / j)):=opI fun i j _ _ _ _ _ hc q=>by
 refine floordiv_int (by have:=hc.1;omega) ?_ (.inl (PyProof.noPylong_of_log2 (rB hc.1 hc.2)));rw [Int.fdiv_eq_ediv_of_nonneg _ (by have:=hc.1;omega)];exact q
end
section
variable{X:Cx}
end
theorem dE:∀ {ns:List Int} {us:List Value},aq (ns.map V.int) us->∃ ps:List (Int×Tok),us=ps.map (fun p=>Value.int p.1 p.2)/\ps.map (·.1)=ns
 | [],_,.nil=>⟨[],rfl,rfl⟩
 | n::ns,_,.cons r1 r2=>by
  obtain ⟨t,rfl⟩:=r1;obtain ⟨ps,rfl,e⟩:=dE r2;exact ⟨(n,t)::ps,rfl,by rw [yW,e]⟩
theorem ce{ps:List (Int×Tok)}{ns:List Int}(e:ps.map (·.1)=ns){i:Nat}(h:i < ns.length):numAt ps.toArray i=ns[i]:=by
 subst e;rw [yF] at h;unfold numAt;simp [h]
section
variable{X:Cx}
def nn(K:A9):List V->Hp->(V->Hp->Prop)->Prop:=fun xs H Q=>∃ (p:Addr) (ns:List Int),xs=[V.ref p]/\SqL K H p (ns.map V.int)/\ns≠[]/\∀ M,M∈ns->(∀ a∈ns,a<=M)->Q (.int M) H
def nk(K:A9):List V->Hp->(V->Hp->Prop)->Prop:=fun xs H Q=>∃ (p:Addr) (ns:List Int),xs=[V.ref p]/\SqL K H p (ns.map V.int)/\ns≠[]/\∀ M,M∈ns->(∀ a∈ns,M<=a)->Q (.int M) H
theorem rV(hc:X.calm=true):aE X (.builtin "max") (nn X.K):=by
 intro pins s σ H xs us Q I r h;obtain ⟨p,ns,rfl,hq,ne,q⟩:=h;obtain ⟨u,rfl,ru⟩:=bN r;cases ru;obtain ⟨its,rv,pl,hz⟩:=I.list hq;obtain ⟨ps,rfl,e⟩:=dE rv
 have lp:ps.length=ns.length:=by rw [<- e,yF]
 have n0:0 < ns.length:=AX.mpr ne
 have ei:intItems ps.toArray=(ps.map fun p=>Value.int p.1 p.2).toArray:=by unfold intItems;simp
 obtain ⟨b1,b2⟩:=argBest_gt (numAt ps.toArray) (ps.toArray.size - 1)
 have sz:ps.toArray.size=ns.length:=by simp [lp]
 refine max_intList (xs:=ps.toArray) (I.ok.hd hc) (by rw [ei];exact pl.isList) (by rw [sz];exact n0) fun v h' tk hv k=> ?_
 obtain ⟨t,rfl⟩:=intItems_at hv;rw [sz] at b1 b2 ⊢;refine ⟨.int _,H,I.kept k,⟨t,rfl⟩,q _ ?_ fun a ha=> ?_⟩
 ·rw [ce e (by omega)]
  exact zN _
 ·obtain ⟨j,hj,rfl⟩:=AY ha
  have:=b2 j (by omega);rw [ce e hj] at this;exact this
theorem rP(hc:X.calm=true):aE X (.builtin "min") (nk X.K):=by
 intro pins s σ H xs us Q I r h;obtain ⟨p,ns,rfl,hq,ne,q⟩:=h;obtain ⟨u,rfl,ru⟩:=bN r;cases ru;obtain ⟨its,rv,pl,hz⟩:=I.list hq;obtain ⟨ps,rfl,e⟩:=dE rv
 have lp:ps.length=ns.length:=by rw [<- e,yF]
 have n0:0 < ns.length:=AX.mpr ne
 have ei:intItems ps.toArray=(ps.map fun p=>Value.int p.1 p.2).toArray:=by unfold intItems;simp
 obtain ⟨b1,b2⟩:=argBest_lt (numAt ps.toArray) (ps.toArray.size - 1)
 have sz:ps.toArray.size=ns.length:=by simp [lp]
 refine min_intList (xs:=ps.toArray) (I.ok.hd hc) (by rw [ei];exact pl.isList) (by rw [sz];exact n0) fun v h' tk hv k=> ?_
 obtain ⟨t,rfl⟩:=intItems_at hv;rw [sz] at b1 b2 ⊢;refine ⟨.int _,H,I.kept k,⟨t,rfl⟩,q _ ?_ fun a ha=> ?_⟩
 ·rw [ce e (by omega)]
  exact zN _
 ·obtain ⟨j,hj,rfl⟩:=AY ha
  have:=b2 j (by omega);rw [ce e hj] at this;exact this
end
section
variable{X:Cx}
end
end L2
namespace ZpT
open PySem PySem.Spec PyProof.Rows
section
variable{prog:Program}{w:World}{A:Around}{E:Value->Shared->Prop}{s:Shared}
end
open AutoSeq1 (wpAny_loadPart')
abbrev H1(h:Heap)(l1:Addr):Heap:=h.push { cls:= .type "tuple_iterator",data:= .fields #[.ref l1,.int 0 0] }
abbrev H2(h:Heap)(l1 l2:Addr):Heap:=(H1 h l1).push { cls:= .type "tuple_iterator",data:= .fields #[.ref l2,.int 0 0] }
abbrev H3(h:Heap)(l1 l2:Addr):Heap:=(H2 h l1 l2).push { cls:= .type "tuple",data:= .seq #[.ref h.objs.size,.ref (H1 h l1).objs.size] }
abbrev H4(h:Heap)(l1 l2:Addr):Heap:=(H3 h l1 l2).push { cls:= .type "tuple",data:= .seq #[.none,.none] }
abbrev H5(h:Heap)(l1 l2:Addr):Heap:=(H4 h l1 l2).push { cls:= .type "zip",data:= .fields #[.none,.bool false,.bool false,.ref (H2 h l1 l2).objs.size,.ref (H3 h l1 l2).objs.size] }
section
variable{prog:Program}{w:World}{A:Around}{E:Value->Shared->Prop}{s:Shared}
end
end ZpT
namespace L2
open PySem PySem.Spec PyProof.Rows
section
variable{X:Cx}
end
end L2
namespace St2
open PySem PySem.Spec PyProof.Rows
section
variable{prog:Program}{w:World}{A:Around}{E:Value->Shared->Prop}{s:Shared}
theorem kx{l:Addr}{vs:List Value}{Q:List Value->Shared->Prop}(hl:s.heap.IsTuple l vs.toArray)
 (h:Q vs { s with heap:=(s.heap.push (seqObj "list" #[] 0)).update s.heap.objs.size (Obj.mapSeq (·++ vs.toArray)) }) (hz:vs.length<=sizeLine):wpAny (model prog w) A (collect (.ref l)) Q E s:=by
 unfold collect;refine yB (wpAny_runValue (codeAny_builtin F.entry_proto_collect ?_));unfold Builtin.«proto.collect»
 show wpAny _ _ (newList [] >>= _) _ _ _
 refine yB (AT ?_ (by simp));refine yE ⟨Code.quiet_builtin _ (by decide +kernel),codeAny_builtin F.entry_list_iadd ?_⟩;obtain ⟨o,ho,hc,n,hd⟩:=id hl;have ho':(s.heap.push { cls:=Value.type "list",data:=Data.seq #[] }).get? l=some o:=yC _ ho;have hn:(s.heap.push { cls:=Value.type "list",data:=Data.seq #[] }).get? s.heap.objs.size=some { cls:=Value.type "list",data:=Data.seq #[] }:=yQ _ rfl;have hT:Shared.TypeIs { s with heap:=s.heap.push { cls:=Value.type "list",data:=Data.seq #[] } } (.ref l) "tuple" := ⟨o,ho',hc⟩
 show wpAny _ _ (Builtin.List.listExtendWith (.ref s.heap.objs.size) (.ref l) (.ref s.heap.objs.size)) _ _ _
 unfold Builtin.List.listExtendWith;refine yB (A2 hT ?_)
 have hb:(Builtin.List.listSameRef (.ref s.heap.objs.size) (.ref l)||Value.type "tuple" == Value.type "list" || Value.type "tuple" == Value.type "tuple")=true:=by
  rw [show (Value.type "tuple" == Value.type "tuple")=true by decide,AA]
 rw [if_pos hb];refine yB (listItems_at ho' hd (yB (listItems_at hn rfl ?_)))
 show wpAny _ _ (Builtin.List.listUpdate (.ref s.heap.objs.size) (fun x=>x++vs.toArray) >>= _) _ _ _
 refine yB (listUpdate_at hn rfl ?_ (by simp) (by simp;omega));refine yE ?_;have e:=Ab (Obj.mapSeq (·++ vs.toArray)) hn rfl
 show wpAny _ _ (load s.heap.objs.size >>= _) _ _ _
 refine yB (wpAny_load e ?_)
 show wpAny _ _ (pure (#[]++vs.toArray).toList) _ _ _
 refine yE ?_;simpa using h
end
end St2
namespace L2
open PySem PySem.Spec PyProof.Rows
section
variable{X:Cx}
def fS(K:A9):List V->Hp->(V->Hp->Prop)->Prop:=fun xs H Q=>∃ (p:Addr) (ns:List Int),xs=[V.ref p]/\SqT K H p (ns.map V.int)/\ns.length < 64 /\
 ∀ l (ms:List Int),H l=none->List.Perm ms ns->ms.Pairwise (·<= ·)->Q (.ref l) (upd H l (.lst (ms.map V.int)))
theorem mj:aE X (.builtin "sorted") (fS X.K):=by
 intro pins s σ H xs us Q I r h;obtain ⟨p,ns,rfl,hq,h64,q⟩:=h;obtain ⟨u,rfl,ru⟩:=bN r;cases ru;obtain ⟨its,rv,pl,hz⟩:=I.tuple hq;have hlen:=rv.length;rw [yF] at hlen;refine Calls.call_function_entry kind_sorted plain_sorted entry_sorted (args_sorted1 _) ?_;unfold Builtin.«sorted»;refine yB (m:=checkCount "sorted" 1 1 _) (yE ?_);have lsz:sizeLine=16777216:=sizeLine_eq;refine yB (St2.kx (show s.heap.IsTuple p its.toArray from pl) (yB (AT ?_ (by omega))) (by omega))
 generalize hh1:(s.heap.push (seqObj "list" #[] 0)).update s.heap.objs.size (Obj.mapSeq (·++ its.toArray))=h1
 have hsz:h1.objs.size=s.heap.objs.size+1:=by rw [<- hh1,Heap.size_update,size_push']
 have k1:∀ b o,s.heap.get? b=some o->h1.get? b=some o:=fun b o q=>by
  rw [<- hh1];exact (zY _ _ (Ne.symm (za (yN q)))).trans (yC _ q)
 show wpAny _ _ _ _ _ { s with heap:=h1.push (seqObj "list" its.toArray 0) }
 have oL:(h1.push (seqObj "list" its.toArray 0)).get? h1.objs.size=some (seqObj "list" its.toArray 0):=yQ _ rfl;refine yB (zG (zx slot_list_sort ⟨_,oL,rfl⟩ entry_list_sort (list_sort_tree oL (dU rv) (by omega) fun out ms hi hp hs=>⟨_,rfl,?_⟩) (args_list_sort _)))
 have hle:s.heap.objs.size<=h1.objs.size:=by rw [hsz];exact AH _
 have hf:H h1.objs.size=none:=I.hok.fresh hle;obtain ⟨e,he⟩:=sortedHeap_at (out:=out) oL;refine yE ⟨_,rfl,.ref h1.objs.size,upd H h1.objs.size (.lst (ms.map V.int)),I.laid (t':=s.toks) (fun b o q=> ?_) hle ⟨?_,out.toList,e,ip hi,by simpa using he⟩,rfl,q _ _ hf hp hs⟩
 ·have lb:=yN (k1 b o q)
  rw [sortedHeap_old (za lb) (by rw [Ai];exact Nat.lt_succ_of_lt lb)];exact yC _ (k1 b o q)
 ·rw [yF,hp.length_eq]
  rwa [yF] at hz
end
section
variable{X:Cx}
end
section
variable{X:Cx}
end
section
variable{X:Cx}
end
section
variable{X:Cx}{o i:Expr}{pos:Pos}{td ty:TE}
end
section
variable{X:Cx}{Pre:St->Hp->Prop}{R:Hp->V->Prop}
end
section
variable{X:Cx}{Pre:St->Hp->Prop}{R:Hp->V->Prop}
end
section
variable{X:Cx}
end
section
variable{X:Cx}
end
end L2
namespace St2
open PySem PySem.Spec PyProof.Rows
section
variable{prog:Program}{w:World}{A:Around}{E:Value->Shared->Prop}{s:Shared}
end
end St2
namespace L2
open PySem PySem.Spec PyProof.Rows
section
variable{X:Cx}
end
end L2
namespace St3
open PySem PySem.Spec PyProof.Rows PySem.SeqAt PySem.MeetsSeq PySem.MeetsSeq2 PySem.MeetsSeq3
end St3
namespace L2
open PySem PySem.Spec PyProof.Rows
section
variable{X:Cx}
end
section
variable{X:Cx}
end
section
variable{X:Cx}
end
end L2
namespace St4
open PySem PySem.Spec PyProof.Rows PySem.W
section
variable{prog:Program}{w:World}{A:Around}{E:Value->Shared->Prop}{s:Shared}{T:String}{r d:Addr}{n:Nat}{P:Nat->Value->Prop}{OK:Heap->Prop}
end
end St4
namespace L2
open PySem PySem.Spec PyProof.Rows PySem.W
section
variable{X:Cx}
end
section
variable{X:Cx}
end
end L2
namespace L2
open PySem PySem.Spec PyProof.Rows
section
variable{X:Cx}
end
section
variable{X:Cx}
end
section
variable{X:Cx}
variable{o e:Expr}{es:List Expr}{to:TE}{t:TA}{name:Str}{apos cpos:Pos}{id:String}{r:V->List V->Hp->VK->Prop}
end
section
variable{X:Cx}{Pre:St->Hp->Prop}{R R':Hp->V->Prop}
end
mutual
def pH(K:A9)(H:Hp):PyData->V->Prop
 | .none,v=>v = .non
 | .bool b,v=>v = .bl b
 | .int i,v=>v = .int i
 | .str x,v=>v = .str x
 | .list ds,v=>∃ p xs,v = .ref p/\SqL K H p xs/\fK K H ds xs
 | .tuple ds,v=>∃ p xs,v = .ref p/\SqT K H p xs/\fK K H ds xs
 | .dict kvs,v=>kvs=[]/\∃ p,v = .ref p/\(H p=some (.dK [])\/H p=some (.dT []))
def fK(K:A9)(H:Hp):List PyData->List V->Prop
 | [],[]=>True
 | d::ds,x::xs=>pH K H d x/\fK K H ds xs
 | _,_=>False
end
mutual
theorem af.repP{K:A9}{H H':Hp}(e:af H H'):∀ {d:PyData} {v:V},pH K H d v->pH K H' d v
 | .none,_,h=>h
 | .bool _,_,h=>h
 | .int _,_,h=>h
 | .str _,_,h=>h
 | .list _,_,⟨p,xs,h1,h2,h3⟩=>⟨p,xs,h1,e.seq h2,e.repPL h3⟩
 | .tuple _,_,⟨p,xs,h1,h2,h3⟩=>⟨p,xs,h1,e.tup h2,e.repPL h3⟩
 | .dict _,_,⟨h0,p,h1,h2⟩=>⟨h0,p,h1,h2.elim (fun z=> .inl (e _ _ z)) fun z=> .inr (e _ _ z)⟩
theorem af.repPL{K:A9}{H H':Hp}(e:af H H'):∀ {ds:List PyData} {xs:List V},fK K H ds xs->fK K H' ds xs
 | [],[],_=>trivial
 | _::_,_::_,h=>⟨e.repP h.1,e.repPL h.2⟩
 | [],_::_,h=>h.elim
 | _::_,[],h=>h.elim
end
def kA:PyData->Dt
 | .none=> .non | .bool b=> .bl b | .int i=> .int i | .str x=> .str x | .list _=> .lst | .dict _=> .dct | .tuple ds=> .tup (ds.map kA)
mutual
theorem pH.rep{K:A9}{H:Hp}:∀ {d:PyData} {v:V},pH K H d v->Rep K H (kA d) v
 | .none,_,h=>by unfold kA;exact h
 | .bool _,_,h=>by unfold kA;exact h
 | .int _,_,h=>by unfold kA;exact h
 | .str _,_,h=>by unfold kA;exact h
 | .list _,_,⟨p,xs,h1,h2,_⟩=>by unfold kA;exact ⟨p,xs,h1,h2⟩
 | .tuple _,_,⟨p,xs,h1,h2,h3⟩=>by unfold kA;exact ⟨p,xs,h1,h2,fK.rep h3⟩
 | .dict _,_,⟨_,p,h1,h2⟩=>by unfold kA;exact ⟨p,h1,h2.elim (fun z=> .inl ⟨_,z⟩) fun z=> .inr ⟨_,z⟩⟩
theorem fK.rep{K:A9}{H:Hp}:∀ {ds:List PyData} {xs:List V},fK K H ds xs->vq K H (ds.map kA) xs
 | [],[],_=>trivial
 | _::_,_::_,h=>⟨pH.rep h.1,fK.rep h.2⟩
 | [],_::_,h=>h.elim
 | _::_,[],h=>h.elim
end
section
variable{X:Cx}{pins:List (Addr×Obj)}{σ:St}{H:Hp}{s:Shared}
mutual
theorem sV(I:Inv X pins σ H s):∀ {d:PyData} {v:V} {u:Value},pH X.K H d v->ax v u->∃ as,Reads s.heap u d as/\((d = .dict []\/d.hasDict=false)->d.hasDict=true->sysModules∉as)
 | .none,_,_,h,r=>by cases h;cases r;exact ⟨[],.none,fun _ z=>by simp [PyData.hasDict] at z⟩
 | .bool b,_,_,h,r=>by cases h;cases r;exact ⟨[],.bool b,fun _ z=>by simp [PyData.hasDict] at z⟩
 | .int i,_,_,h,r=>by cases h;obtain ⟨t,rfl⟩:=r;exact ⟨[],.int i t,fun _ z=>by simp [PyData.hasDict] at z⟩
 | .str x,_,_,h,r=>by cases h;obtain ⟨t,rfl⟩:=r;exact ⟨[],.str x t,fun _ z=>by simp [PyData.hasDict] at z⟩
 | .list ds,_,_,⟨p,xs,h1,h2,h3⟩,r=>by
  subst h1;cases r;obtain ⟨its,rv,pl,_⟩:=I.list h2;obtain ⟨o,e1,e2,n,e3⟩:=pl.isList;obtain ⟨as,ra⟩:=eP I h3 rv;refine ⟨p::as,.list e1 e2 e3 (by simpa using ra),fun z1 z2=> ?_⟩
  rcases z1 with z1 | z1
  ·cases z1
  ·rw [z2] at z1;cases z1
 | .tuple ds,_,_,⟨p,xs,h1,h2,h3⟩,r=>by
  subst h1;cases r;obtain ⟨its,rv,pl,_⟩:=I.tuple h2;obtain ⟨o,e1,e2,n,e3⟩:=pl;obtain ⟨as,ra⟩:=eP I h3 rv;refine ⟨as,.tuple e1 e2 e3 (by simpa using ra),fun z1 z2=> ?_⟩
  rcases z1 with z1 | z1
  ·cases z1
  ·rw [z2] at z1;cases z1
 | .dict kvs,_,_,⟨h0,p,h1,h2⟩,r=>by
  subst h1 h0;cases r
  have z:∃ o es ep,s.heap.get? p=some o/\o.cls = .type "dict" /\ o.data = .dict es ep/\es.toList=[]/\(p == sysModules)=false:=by
   rcases h2 with h2 | h2
   ·obtain ⟨_,ne,vs,kv,o,es,ep,e,ex,hd,_,pr,_⟩:=I.hok p _ h2
    cases kv;refine ⟨o,es,ep,e,ex.1,hd,?_,ne⟩
    cases hes:es.toList with
    | nil=>rfl
    | cons a l=>rw [hes] at pr;cases pr
   ·obtain ⟨_,ne,xs,pr,o,es,ep,e,ex,hd,hl,_⟩:=I.hok p _ h2
    cases pr;exact ⟨o,es,ep,e,ex.1,hd,hl,ne⟩
  obtain ⟨o,es,ep,e1,e2,e3,e4,ne⟩:=z;refine ⟨_,.dict (as:=[]) (bs:=[]) e1 e2 e3 (by rw [e4];exact .nil) (by rw [e4];exact .nil),fun _ _ hm=> ?_⟩
  have:sysModules=p:=by simpa using hm
  rw [this] at ne;simp at ne
theorem eP(I:Inv X pins σ H s):∀ {ds:List PyData} {xs:List V} {us:List Value},fK X.K H ds xs->aq xs us->∃ as,ReadsAll s.heap us ds as
 | [],[],_,_,r=>by cases r;exact ⟨[],.nil⟩
 | _::_,_::_,_,h,r=>by
  cases r with
  | cons r t =>
   obtain ⟨a1,r1,_⟩:=sV I h.1 r;obtain ⟨a2,r2⟩:=eP I h.2 t;exact ⟨a1++a2,.cons r1 r2⟩
 | [],_::_,_,h,_=>h.elim
 | _::_,[],_,h,_=>h.elim
end
end
section
variable{X:Cx}
end
section
variable{X:Cx}{a b c d:Expr}{ta tb tc td:TE}{pos:Pos}
end
section
open PySem.SeqAt PySem.MeetsSeq
open AutoSeq1 (wpAny_loadPart')
variable{A:Around}{s:Shared}
end
section
variable{X:Cx}
end
section
variable{X:Cx}{tg:Expr}
end
end L2
namespace ZpA
open PySem PySem.Spec PyProof.Rows
inductive Kd where
 | L | T
def nm:Kd->String
 | .L => "list"
 | .T => "tuple"
def It:Kd->Heap->Addr->Addr->Nat->Prop
 | .L=>fun h it l i=>h.IsListIter it l i
 | .T=>fun h it l i=>h.IsTupleIter it l i
def Sq:Kd->Heap->Addr->Array Value->Prop
 | .L=>fun h l xs=>h.IsList l xs
 | .T=>fun h l xs=>h.IsTuple l xs
def yp:Kd->Addr->Obj
 | .L=>fun l=>{ cls:= .type "list_iterator",data:= .fields #[.ref l,.int 0 0] }
 | .T=>fun l=>{ cls:= .type "tuple_iterator",data:= .fields #[.ref l,.int 0 0] }
theorem It.at{c:Kd}{h h':Heap}{it l:Addr}{i:Nat}(x:It c h it l i)(k:∀ o,h.get? it=some o->h'.get? it=some o):It c h' it l i:=by
 cases c with
 | L=>exact Heap.IsListIter.at (show h.IsListIter it l i from x) k
 | T=>exact Heap.IsTupleIter.at (show h.IsTupleIter it l i from x) k
theorem It.obj{c:Kd}{h:Heap}{it l:Addr}{i:Nat}(x:It c h it l i):∃ o,h.get? it=some o/\(∃ vs,o.data = .fields vs)/\(o.cls = .type "list_iterator" \/ o.cls = .type "tuple_iterator"):=by
 cases c with
 | L=>obtain ⟨o,ho,hc,hd⟩:=(show h.IsListIter it l i from x);exact ⟨o,ho,⟨_,hd⟩,.inl hc⟩
 | T=>obtain ⟨o,ho,hc,hd⟩:=(show h.IsTupleIter it l i from x);exact ⟨o,ho,⟨_,hd⟩,.inr hc⟩
theorem Sq.at{c:Kd}{h h':Heap}{l:Addr}{xs:Array Value}(x:Sq c h l xs)(k:∀ o,h.get? l=some o->h'.get? l=some o):Sq c h' l xs:=by
 cases c with
 | L=>obtain ⟨o,ho,r⟩:=(show h.IsList l xs from x);exact ⟨o,k o ho,r⟩
 | T=>obtain ⟨o,ho,r⟩:=(show h.IsTuple l xs from x);exact ⟨o,k o ho,r⟩
theorem Sq.obj{c:Kd}{h:Heap}{l:Addr}{xs:Array Value}(x:Sq c h l xs):∃ o,h.get? l=some o/\(o.cls = .type "list" \/ o.cls = .type "tuple"):=by
 cases c with
 | L=>obtain ⟨o,ho,r,_⟩:=(show h.IsList l xs from x);exact ⟨o,ho,.inl r⟩
 | T=>obtain ⟨o,ho,r,_⟩:=(show h.IsTuple l xs from x);exact ⟨o,ho,.inr r⟩
section
variable{prog:Program}{w:World}{A:Around}{E:Value->Shared->Prop}{s:Shared}
theorem hU{c:Kd}{it l:Addr}{i:Nat}{items}{x:Value}{Q:Value->Shared->Prop}(hit:It c s.heap it l i)(hl:Sq c s.heap l items)(hx:items[i]?=some x)
 (hQ:∀ h',It c h' it l (i+1)->Heap.SameBut it s.heap h'->Q x { s with heap:=h' }):wpAny (model prog w) A (Builtin.SmallTypes.nextOf (.ref it)) Q E s:=by
 cases c with
 | L=>exact wpAny_nextOf_list_item (show s.heap.IsListIter it l i from hit) (show s.heap.IsList l items from hl) hx hQ
 | T=>exact EnT.hU (show s.heap.IsTupleIter it l i from hit) (show s.heap.IsTuple l items from hl) hx hQ
theorem gC{c:Kd}{it l:Addr}{i:Nat}{items}{Q:Value->Shared->Prop}(hh:A.handled=none)(hit:It c s.heap it l i)(hl:Sq c s.heap l items)(hx:items[i]?=none)
 (hE:∀ h' e,Heap.ExtBut it s.heap h'->(∃ o,h'.get? e=some o/\o.cls = .type "StopIteration")->E (.ref e) { s with heap:=h' }):wpAny (model prog w) A (Builtin.SmallTypes.nextOf (.ref it)) Q E s:=by
 cases c with
 | L=>exact wpAny_nextOf_list_end hh (show s.heap.IsListIter it l i from hit) (show s.heap.IsList l items from hl) hx hE
 | T=>exact EnT.gC hh (show s.heap.IsTupleIter it l i from hit) (show s.heap.IsTuple l items from hl) hx hE
end
theorem draws{prog:Program}{w:World}{A:Around}{c:Kd}(hh:A.handled=none)(it l:Addr)(hne:l≠it)(items:Array Value) :
 Draws prog w A it [it,l] items.size (fun i v=>items[i]?=some v) (fun i h=>It c h it l i/\Sq c h l items) where
 live:=fun _ _ st=>let ⟨o,ho,_⟩:=st.1.obj;⟨o,ho⟩
 frame:=fun _ _ _ st hk=>⟨st.1.at fun o e=>hk it (by simp) o e,st.2.at fun o e=>hk l (by simp) o e⟩
 item:=fun i s Q E hi st hQ=>by
  refine hU st.1 st.2 (x:=items[i]) (by simp [hi]) fun h' hit' hs'=> ?_
  exact hQ _ h' s.toks (by simp [hi]) ⟨hit',st.2.at fun o e=>hs'.extBut _ _ hne e⟩ hs'
 done:=fun s Q E st hE=>gC hh st.1 st.2 (by simp) hE
section
variable{prog:Program}{w:World}{A:Around}{E:Value->Shared->Prop}{s:Shared}
end
abbrev H1(c1:Kd)(h:Heap)(l1:Addr):Heap:=h.push (yp c1 l1)
abbrev H2(c1 c2:Kd)(h:Heap)(l1 l2:Addr):Heap:=(H1 c1 h l1).push (yp c2 l2)
abbrev H3(c1 c2:Kd)(h:Heap)(l1 l2:Addr):Heap:=(H2 c1 c2 h l1 l2).push { cls:= .type "tuple",data:= .seq #[.ref h.objs.size,.ref (H1 c1 h l1).objs.size] }
abbrev H4(c1 c2:Kd)(h:Heap)(l1 l2:Addr):Heap:=(H3 c1 c2 h l1 l2).push { cls:= .type "tuple",data:= .seq #[.none,.none] }
abbrev H5(c1 c2:Kd)(h:Heap)(l1 l2:Addr):Heap:=(H4 c1 c2 h l1 l2).push { cls:= .type "zip",data:= .fields #[.none,.bool false,.bool false,.ref (H2 c1 c2 h l1 l2).objs.size,.ref (H3 c1 c2 h l1 l2).objs.size] }
section
variable{prog:Program}{w:World}{A:Around}{E:Value->Shared->Prop}{s:Shared}
end
end ZpA
namespace L2
open PySem PySem.Spec PyProof.Rows ZpA
def SqA:Kd->A9->Hp->Addr->List V->Prop
 | .L=>SqL
 | .T=>SqT
theorem Inv.seqA{X:Cx}{pins:List (Addr×Obj)}{σ:St}{H:Hp}{s:Shared}{c:Kd}{a:Addr}{xs:List V}(I:Inv X pins σ H s)(h:SqA c X.K H a xs):∃ its:List Value,aq xs its/\Sq c s.heap a its.toArray/\xs.length<=sizeLine:=by
 cases c with
 | L=>obtain ⟨its,r,p,z⟩:=I.list h;exact ⟨its,r,p.isList,z⟩
 | T=>obtain ⟨its,r,p,z⟩:=I.tuple h;exact ⟨its,r,(show s.heap.IsTuple a its.toArray from p),z⟩
theorem Inv.seqA_inj{X:Cx}{pins:List (Addr×Obj)}{σ:St}{H:Hp}{s:Shared}{c:Kd}{a:Addr}{xs ys:List V}(I:Inv X pins σ H s)(h:SqA c X.K H a xs)(h':SqA c X.K H a ys):xs=ys:=by
 cases c with
 | L=>exact I.list_inj h h'
 | T=>exact I.tuple_inj h h'
theorem rK{prog:Program}{w:World}{A:Around}{E:Value->Shared->Prop}{s:Shared}{c:Kd}{e it l:Addr}{i:Nat}{j:Int}{items:Array Value}{old:Value}{Q:Option Value->Shared->Prop}(hh:A.handled=none)
 (he:IsEnum s.heap e it j old) (hit:ZpA.It c s.heap it l i) (hl:Sq c s.heap l items) (hx:items[i]?=none)
 (hQ:∀ h',Heap.ExtBut it s.heap h'->Q none { s with heap:=h' }):wpAny (model prog w) A (pyNext (.ref e)) Q E s:=by
 have hT:s.TypeIs (.ref e) "enumerate" := ⟨_,he,rfl⟩;unfold pyNext
 refine yB (wpAny_attempt (zq (name:=Str.ofString "__next__") hT F.slot_enumerate_next
  (zx F.slot_enumerate_next hT F.entry_enumerate_next ?_ (F.args_enumerate_next_1 _))))
 show wpAny _ _ (field (.ref e) 2 >>= _) _ _ _
 refine yB (zX he rfl (x:= .ref it) rfl ?_);refine yB (ZpA.gC hh hit hl hx fun h' x he' hx'=> ?_);obtain ⟨o,ho,hc⟩:=hx';refine yB (wpAny_isInstance (T := "StopIteration") (b:=true) ⟨o,ho,hc⟩ isSubtype_stop ?_);exact yE (hQ _ he')
theorem uV{prog:Program}{w:World}{A:Around}{E:Value->Shared->Prop}{s:Shared}{c:Kd}{l:Addr}{items:Array Value}{Q:Value->Shared->Prop}(hL:Sq c s.heap l items)
 (h:∀ h',IsEnum h' (s.heap.objs.size+1) s.heap.objs.size 0 .none->ZpA.It c h' s.heap.objs.size l 0->h'.objs.size=s.heap.objs.size+2 ->
   (∀ b o,s.heap.get? b=some o->h'.get? b=some o)->Q (.ref (s.heap.objs.size+1)) { s with heap:=h' }) :
 wpAny (model prog w) A (call (.type "enumerate") [.ref l]) Q E s:=by
 cases c with
 | L=>exact call_enumerate_list (show s.heap.IsList l items from hL) h
 | T=>exact EnT.u7 (show s.heap.IsTuple l items from hL) h
def IteA(c:Kd)(K:A9)(a:Addr):L2.It :=
 ⟨fun i H=>∃ xs x,SqA c K H a xs/\xs[i]?=some x,fun i H x H'=>∃ p y,x = .ref p/\H p=none/\H'=upd H p (.tup [.int (i:Nat),y])/\∀ xs,SqA c K H a xs->xs[i]?=some y,fun i H=>∃ xs,SqA c K H a xs/\xs.length<=i⟩
theorem oG{c:Kd}{P:Program}{w:World}{K:A9}{elts:List Expr}{k}{tpos:Pos}(a e it:Addr)(hei:e≠it):vp P w K (.Tuple elts k tpos) (IteA c K a) [e,it] e (fun i h=>(∃ old,IsEnum h e it (i:Nat) old)/\ZpA.It c h it a i) where
 mem:=by simp
 obj:=fun i h st b hb=>by
  obtain ⟨⟨old,he⟩,hit⟩:=st;obtain ⟨o,ho,⟨vs,hd⟩,hc⟩:=hit.obj
  have hb':b=e\/b=it:=by simpa using hb
  rcases hb' with rfl | rfl
  ·exact ⟨_,he,fun v z=>by
    have z':Data.fields _=Data.cell v:=z
    cases z'⟩
  ·exact ⟨o,ho,fun v z=>by rw [hd] at z;cases z⟩
 keep:=fun i h h' st k=>by
  obtain ⟨⟨old,he⟩,hit⟩:=st;exact ⟨⟨old,k e (by simp) _ he⟩,hit.at fun o x=>k it (by simp) o x⟩
 item:=by
  intro X hP hw hK hc i pins s σ H E I hf st hg;subst hP hw hK;obtain ⟨xs,y,hq,hx⟩:=hg;obtain ⟨its,rv,p,hz⟩:=I.seqA hq;obtain ⟨u,hu,ru⟩:=rv.get hx;obtain ⟨⟨old,he⟩,hit⟩:=st;have pt:=p
  have hea:e≠a:=fun z=>by
   obtain ⟨o,ho,hc⟩:=p.obj;rw [<- z,he] at ho;cases ho
   rcases hc with hc | hc
   ·exact absurd (show Value.type "enumerate" = Value.type "list" from hc) (by decide)
   ·exact absurd (show Value.type "enumerate" = Value.type "tuple" from hc) (by decide)
  have hia:a≠it:=fun z=>by
   obtain ⟨o,ho,hc⟩:=p.obj;obtain ⟨o',ho',_,hc'⟩:=hit.obj;rw [z,ho'] at ho;cases ho
   rcases hc with hc | hc<;>rcases hc' with hc' | hc'<;>(rw [hc] at hc';exact absurd hc' (by decide))
  have hil:i < its.toArray.size:=by
   have:=(yR.mp hu).1;simpa using this
  refine wpAny_pyNext_enum_itemD (ZpA.draws (c:=c) (prog:=X.prog) (w:=X.w) (A:=X.A.in1) (I.ok.hd hc) it a hia its.toArray) he ⟨hit,pt⟩ hil hei (by simp [hea,hei]) fun x h' tk hPx ho st' hT hsz hk=> ?_
  have hxu:x=u:=by
   have:its.toArray[i]?=some u:=by simpa using hu
   rw [this] at hPx;exact (Option.some.inj hPx).symm
  subst hxu;refine ⟨_,rfl,wpAny_letOwnedTupleGo_enum ho fun h'' he' hs'=> ?_⟩
  replace hs':Heap.SameBut e h' h'':=hs'
  have hel:e < s.heap.objs.size:=yN he
  have hil':it < s.heap.objs.size:=by obtain ⟨o,ho,_⟩:=hit.obj;exact yN ho
  have kp:∀ b o,b≠e->b≠it->s.heap.get? b=some o->h''.get? b=some o:=fun b o n1 n2 q=>(hs'.2 b n1).trans (hk b o n1 n2 q)
  have hT2:h''.get? s.heap.objs.size=some { cls:= .type "tuple",data:= .seq #[.int (i:Nat) tk,x] }:=(hs'.2 _ (Ay hel)).trans hT;have hTn:H s.heap.objs.size=none:=I.hok.fresh (yO _);have fe:=hf e (by simp);have fi:=hf it (by simp)
  have nte:∀ b u,H b=some u->b≠e:=fun b u q z=>by rw [z,fe.1] at q;cases q
  have nti:∀ b u,H b=some u->b≠it:=fun b u q z=>by rw [z,fi.1] at q;cases q
  have hok:HOk X.prog X.w (upd H s.heap.objs.size (.tup [.int (i:Nat),y])) h'':=fun b ob q=>by
   by_cases hb:b=s.heap.objs.size
   ·subst hb
    rw [ai] at q;cases q;exact ⟨by show 2<=sizeLine;decide,[.int (i:Nat) tk,x],.cons ⟨tk,rfl⟩ (.cons ru .nil),pM hT2⟩
   ·rw [ah hb] at q
    refine (I.hok b ob q).stay (fun c v hc q'=> ?_) (fun c q'=>by rw [ah (aj q' hTn)];exact q') fun c xs q'=>by rw [ah (aj q' hTn)];exact q'
    rcases hc with rfl | hc
    ·exact kp _ _ (nte _ _ q) (nti _ _ q) q'
    ·exact kp _ _ (nte _ _ hc) (nti _ _ hc) q'
  have mem2:∀ b,b∉[e,it]->b≠e/\b≠it:=fun b hb=>by
   have:=hb;simp at this;exact this
  have I2:Inv X pins σ (upd H s.heap.objs.size (.tup [.int (i:Nat),y])) { s with heap:=h'',toks:=tk+1 } :=
   I.step (g':=s.gens) (d':=s.drawn) (ch:=[e,it]) (fun b hb=>by
    have hb':b=e\/b=it:=by simpa using hb
    rcases hb' with rfl | rfl
    ·exact ⟨fe.2.2.2.1,fe.2.1,fe.2.2.2.2.1,fe.2.2.2.2.2⟩
    ·exact ⟨fi.2.2.2.1,fi.2.1,fi.2.2.2.2.1,fi.2.2.2.2.2⟩)
    (fun b o _ _ hc q _=>kp b o (mem2 b hc).1 (mem2 b hc).2 q) (fun b o _ _ hc q _=>⟨o.slots,kp b o (mem2 b hc).1 (mem2 b hc).2 q⟩)
    (fun b o _ q n=>by rw [ah (za (yN q))];exact n) (fun b o hc q=>⟨o,kp b o (mem2 b hc).1 (mem2 b hc).2 q⟩)
    (fun b xs q=>by rw [ah (aj q hTn)];exact q) (fun b o u q=>by rw [ah (aj q hTn)];exact q) (fun b ps q=>⟨#[],by rw [ah (aj q hTn),q];simp⟩)
    (fun m hm=>by obtain ⟨o,es,ep,ho,r⟩:=hm;exact ⟨o,es,ep,kp _ o (Ne.symm fe.2.1) (Ne.symm fi.2.1) ho,r⟩) hok I.bare
  refine ⟨.ref s.heap.objs.size,_,I2,rfl,⟨_,y,rfl,hTn,rfl,fun ys hy=>by rw [I.seqA_inj hy hq];exact hx⟩,⟨⟨x,?_⟩,?_⟩,fun b hb=> ?_⟩
  ·have:((i+1:Nat):Int)=(i:Int)+1:=by push_cast;rfl
   rw [this];exact he'
  ·exact st'.1.at fun o q=>(hs'.2 it (Ne.symm hei)).trans q
  ·have hb':b=e\/b=it:=by simpa using hb
   rcases hb' with rfl | rfl
   ·rw [ah (za hel)];exact fe.1
   ·rw [ah (za hil')];exact fi.1
 done:=by
  intro X hP hw hK hc i pins s σ H E I hf st hg;subst hP hw hK;obtain ⟨xs,hq,hx⟩:=hg;obtain ⟨its,rv,p,hz⟩:=I.seqA hq;obtain ⟨⟨old,he⟩,hit⟩:=st;obtain ⟨f0,f1,f2,f3,f4,f5⟩:=hf it (by simp);have hl:=rv.length
  have hia:a≠it:=fun z=>by
   obtain ⟨o,ho,hc⟩:=p.obj;obtain ⟨o',ho',_,hc'⟩:=hit.obj;rw [z,ho'] at ho;cases ho
   rcases hc with hc | hc<;>rcases hc' with hc' | hc'<;>(rw [hc] at hc';exact absurd hc' (by decide))
  refine rK (I.ok.hd hc) he hit p (by simp;omega) fun h' eb=>⟨rfl,I.turned (t':=s.toks) (fun b o hb e=>eb b o hb e) f0 f1 f3 f4 f5⟩
 self:=fun _ _ _ _ _ st h=>by
  obtain ⟨⟨old,he⟩,_⟩:=st;exact wpAny_pyIter_enum he h
section
variable{X:Cx}
def iEnumA(K:A9)(ta:TA):TI:=fun σ H R=>ta σ H fun vs H1=>∃ a c,vs=[.ref a]/\(∃ xs,SqA c K H1 a xs/\(xs.length<=sizeLine->R (IteA c K a) H1))
theorem tR{elts:List Expr}{k}{tpos:Pos}{l:Expr}{ta:TA}{p pos:Pos}(hg:Gl X "enumerate")(hm:X.mg "enumerate" = none)(ha:PA X [l] ta)(hs:starEach [l] X.env=[(false,eval l X.env)]:=by rfl) :
 PI X (.Tuple elts k tpos) (.Call (.Name "enumerate" p) [l] [] pos) (iEnumA X.K ta):=by
 intro pins s σ H R I h;refine Call_ (ib I hg hm boot_enumerate (PyProof.Rows.callWith_type1 (thn (ha pos pins s σ H _ I h) fun us s1 ⟨vs,H1,I1,r1,q1⟩=> ?_) hs rfl));obtain ⟨a,c,e,xs,hq,q⟩:=q1;subst e
 cases r1 with
 | cons r rr =>
  cases rr;cases r;obtain ⟨its,rv,p,hz⟩:=I1.seqA hq
  refine uV p fun h' he hit hsz hk=> ?_
  refine wpAny_pyIter_enum he ?_;refine ⟨s1.heap.objs.size+1,[s1.heap.objs.size+1,s1.heap.objs.size],_,_,H1,rfl,I1.kept (t':=s1.toks) hk,oG a _ s1.heap.objs.size (Ay (Nat.lt_succ_self _)),⟨⟨.none,he⟩,hit⟩,fun b hb=> ?_,q hz⟩
  have hb':b=s1.heap.objs.size+1\/b=s1.heap.objs.size:=by simpa using hb
  rcases hb' with rfl | rfl
  ·exact I1.fpOk (by omega) (I1.hok.fresh (by omega))
  ·exact I1.fpOk (yO _) (I1.hok.fresh (yO _))
end
section
variable{X:Cx}
end
end L2
namespace L2
open PySem PySem.Spec PyProof.Rows
structure Lb where
 nm:Str
 fs:List (Str×Int)
instance:Coe Str Lb:=⟨fun s=>⟨s,[]⟩⟩
instance:Coe String Lb:=⟨fun s=>⟨Str.ofString s,[]⟩⟩
inductive D where
 | non | bl (b:Bool) | int (i:Int) | str (x:Str) | tup (l:List D) | lst (l:List D) | ktup (l:List D) | klst (l:List D)
 | dK (ks:List Key) (vs:List D) | dT (ks:List (List Key)) (vs:List D) | set (l:List Int) | rng (lo hi:Int) | exc (C:Lb)
def og(K:A9)(nm:Str)(C:Addr):Prop:=PySem.W.nsIn K mainGlobals nm=some (some (.ref C))
def il(a:Addr)(fs:List (Str×V)):HO:= .ext fun h=>∃ mA,h.Ns1 a mA/\(∀ f,ke (fs.lookup f) (mA f))/\PySem.Within mA (fs.map (·.1))
def fsV(l:List (Str×Int)):List (Str×V):=l.map fun p=>(p.1,V.int p.2)
structure ExL(K:A9)(H:Hp)(l:Lb)(C:Addr)(x:Option Addr):Prop where
 cls:og K l.nm C
 dic:l.fs≠[]->∃ dA,x=some dA/\H dA=some (il dA (fsV l.fs))
theorem ExL.same{K:A9}{H H':Hp}{l:Lb}{C:Addr}{x:Option Addr}(h:ExL K H l C x)(e:af H H'):ExL K H' l C x :=
 ⟨h.cls,fun z=>(by obtain ⟨dA,h1,h2⟩:=h.dic z;exact ⟨dA,h1,e _ _ h2⟩)⟩
mutual
def ay(K:A9)(H:Hp):D->V->Prop
 | .non,v=>v = .non
 | .bl b,v=>v = .bl b
 | .int i,v=>v = .int i
 | .str x,v=>v = .str x
 | .tup ds,v=>∃ p xs,v = .ref p/\H p=some (.tup xs)/\ag K H ds xs
 | .lst ds,v=>∃ p xs,v = .ref p/\H p=some (.lst xs)/\ag K H ds xs
 | .klst ds,v=>∃ p xs,v = .ref p/\SqL K H p xs/\ag K H ds xs
 | .ktup ds,v=>∃ p xs,v = .ref p/\SqT K (fun _=>none) p xs/\ag K H ds xs
 | .dK ks ds,v=>∃ p xs,v = .ref p/\H p=some (.dK (ks.zip xs))/\ks.length=xs.length/\ag K H ds xs
 | .dT ks ds,v=>∃ p xs,v = .ref p/\H p=some (.dT (ks.zip xs))/\ks.length=xs.length/\ag K H ds xs
 | .set l,v=>∃ p S,v = .ref p/\H p=some (.set S l.length)/\∀ x,S x=true↔x∈l
 | .rng lo hi,v=>∃ p,v = .ref p/\H p=some (.rng lo hi)
 | .exc l,v=>∃ p C x,v = .ref p/\ExL K H l C x/\H p=some (iR p C x)
def ag(K:A9)(H:Hp):List D->List V->Prop
 | [],[]=>True
 | d::ds,x::xs=>ay K H d x/\ag K H ds xs
 | _,_=>False
end
mutual
theorem af.repD{K:A9}{H H':Hp}(e:af H H'):∀ {d:D} {v:V},ay K H d v->ay K H' d v
 | .non,_,h=>h
 | .bl _,_,h=>h
 | .int _,_,h=>h
 | .str _,_,h=>h
 | .tup _,_,⟨p,xs,h1,h2,h3⟩=>⟨p,xs,h1,e _ _ h2,e.repDs h3⟩
 | .lst _,_,⟨p,xs,h1,h2,h3⟩=>⟨p,xs,h1,e _ _ h2,e.repDs h3⟩
 | .klst _,_,⟨p,xs,h1,h2,h3⟩=>⟨p,xs,h1,e.seq h2,e.repDs h3⟩
 | .ktup _,_,⟨p,xs,h1,h2,h3⟩=>⟨p,xs,h1,h2,e.repDs h3⟩
 | .dK _ _,_,⟨p,xs,h1,h2,h3,h4⟩=>⟨p,xs,h1,e _ _ h2,h3,e.repDs h4⟩
 | .dT _ _,_,⟨p,xs,h1,h2,h3,h4⟩=>⟨p,xs,h1,e _ _ h2,h3,e.repDs h4⟩
 | .set _,_,⟨p,S,h1,h2,h3⟩=>⟨p,S,h1,e _ _ h2,h3⟩
 | .rng _ _,_,⟨p,h1,h2⟩=>⟨p,h1,e _ _ h2⟩
 | .exc _,_,⟨p,C,x,h1,h2,h3⟩=>⟨p,C,x,h1,h2.same e,e _ _ h3⟩
theorem af.repDs{K:A9}{H H':Hp}(e:af H H'):∀ {ds:List D} {xs:List V},ag K H ds xs->ag K H' ds xs
 | [],[],_=>trivial
 | _::_,_::_,h=>⟨e.repD h.1,e.repDs h.2⟩
 | [],_::_,h=>h.elim
 | _::_,[],h=>h.elim
end
theorem ag.len{K:A9}{H:Hp}:∀ {ds:List D} {xs:List V},ag K H ds xs->ds.length=xs.length
 | [],[],_=>rfl
 | _::_,_::_,h=>by rw [yM,yM,ag.len h.2]
 | [],_::_,h=>h.elim
 | _::_,[],h=>h.elim
theorem ag.get{K:A9}{H:Hp}:∀ {ds:List D} {xs:List V} {i:Nat} {d:D},ag K H ds xs->ds[i]?=some d->∃ x,xs[i]?=some x/\ay K H d x
 | _::_,x::_,0,d,h,e=>⟨x,rfl,by have:_=d:=Option.some.inj e;rw [<- this];exact h.1⟩
 | _::_,_::_,i+1,d,h,e=>ag.get (i:=i) h.2 (by simpa using e)
 | [],[],_,_,_,e=>by simp at e
 | [],_::_,_,_,h,_=>h.elim
 | _::_,[],_,_,h,_=>h.elim
theorem ag.get'{K:A9}{H:Hp}{ds:List D}{xs:List V}{i:Nat}{x:V}(h:ag K H ds xs)(e:xs[i]?=some x):∃ d,ds[i]?=some d/\ay K H d x:=by
 have hi:i < ds.length:=by rw [h.len];exact (yR.mp e).1
 obtain ⟨y,e2,r⟩:=h.get (yD hi);rw [e] at e2;cases e2;exact ⟨_,yD hi,r⟩
theorem ag.app{K:A9}{H:Hp}:∀ {ds es:List D} {xs ys:List V},ag K H ds xs->ag K H es ys->ag K H (ds++es) (xs++ys)
 | [],_,[],_,_,h=>h
 | _::_,_,_::_,_,g,h=>⟨g.1,ag.app g.2 h⟩
 | [],_,_::_,_,g,_=>g.elim
 | _::_,_,[],_,g,_=>g.elim
theorem ag.take{K:A9}{H:Hp}:∀ {ds:List D} {xs:List V} (n:Nat),ag K H ds xs->ag K H (ds.take n) (xs.take n)
 | [],[],n,_=>by simp;exact trivial
 | _::_,_::_,0,_=>trivial
 | _::_,_::_,n+1,h=>⟨h.1,ag.take n h.2⟩
 | [],_::_,_,h=>h.elim
 | _::_,[],_,h=>h.elim
theorem ag.drop{K:A9}{H:Hp}:∀ {ds:List D} {xs:List V} (n:Nat),ag K H ds xs->ag K H (ds.drop n) (xs.drop n)
 | [],[],n,_=>by simp;exact trivial
 | _::_,_::_,0,h=>h
 | _::_,_::_,n+1,h=>ag.drop n h.2
 | [],_::_,_,h=>h.elim
 | _::_,[],_,h=>h.elim
theorem ag.set{K:A9}{H:Hp}{d:D}{x:V}(r:ay K H d x):∀ {ds:List D} {xs:List V} (n:Nat),ag K H ds xs->ag K H (ds.set n d) (xs.set n x)
 | [],[],n,_=>by simp;exact trivial
 | _::_,_::_,0,h=>⟨r,h.2⟩
 | _::_,_::_,n+1,h=>⟨h.1,ag.set r n h.2⟩
 | [],_::_,_,h=>h.elim
 | _::_,[],_,h=>h.elim
theorem ag.erase{K:A9}{H:Hp}:∀ {ds:List D} {xs:List V} (n:Nat),ag K H ds xs->ag K H (ds.eraseIdx n) (xs.eraseIdx n)
 | [],[],n,_=>by simp;exact trivial
 | _::_,_::_,0,h=>h.2
 | _::_,_::_,n+1,h=>⟨h.1,ag.erase n h.2⟩
 | [],_::_,_,h=>h.elim
 | _::_,[],_,h=>h.elim
theorem ag.rev{K:A9}{H:Hp}:∀ {ds:List D} {xs:List V},ag K H ds xs->ag K H ds.reverse xs.reverse
 | [],[],_=>trivial
 | _::_,_::_,h=>by rw [List.reverse_cons,List.reverse_cons];exact (ag.rev h.2).app ⟨h.1,trivial⟩
 | [],_::_,h=>h.elim
 | _::_,[],h=>h.elim
theorem cV{K:A9}{H:Hp}:∀ (ns:List Int),ag K H (ns.map D.int) (ns.map V.int)
 | []=>trivial
 | _::ns=>⟨rfl,cV ns⟩
theorem bo{K:A9}{H:Hp}:∀ {ns:List Int} {xs:List V},ag K H (ns.map D.int) xs->xs=ns.map V.int
 | [],[],_=>rfl
 | _::_,_::_,h=>by rw [h.1,bo h.2];rfl
 | [],_::_,h=>h.elim
 | _::_,[],h=>h.elim
theorem lm{K:A9}{H:Hp}:∀ {ns:List Bool} {xs:List V},ag K H (ns.map D.bl) xs->xs=ns.map V.bl
 | [],[],_=>rfl
 | _::_,_::_,h=>by rw [h.1,lm h.2];rfl
 | [],_::_,h=>h.elim
 | _::_,[],h=>h.elim
def hid(L:List Addr)(H:Hp):Hp:=fun a=>if a∈L then none else H a
theorem ao{L:List Addr}{H:Hp}{b:Addr}{o:HO}(h:hid L H b=some o):b∉L/\H b=some o:=by
 unfold hid at h
 split at h
 ·cases h
 ·exact ⟨‹_›,h⟩
theorem aF{L:List Addr}{H:Hp}{b:Addr}(h:b∉L):hid L H b=H b:=if_neg h
theorem aK{L L':List Addr}{H H':Hp}(hL:∀ b,b∈L'->b∈L\/H b=none)(h:∀ b o,b∉L->H b=some o->H' b=some o):af (hid L H) (hid L' H'):=fun b o e=>by
 obtain ⟨h1,h2⟩:=ao e;rw [aF (fun z=>(hL b z).elim h1 fun n=>by rw [n] at h2;cases h2)];exact h b o h1 h2
theorem az{L:List Addr}{H:Hp}:af (hid L H) H:=fun b o e=>(ao e).2
theorem ql{L:List Addr}{H:Hp}{p:Addr}{o:HO}(h:p∈L):hid L (upd H p o)=hid L H:=by
 funext b
 unfold hid
 split
 ·rfl
 ·rw [ah (fun z=>by subst z;exact absurd h ‹_›)]
inductive Md where
 | fz | ow | io
 deriving DecidableEq
abbrev Rho:=List (Option (D×Md))
structure Fx where
 Z:List Addr
 io:Nat->Option Addr
def aG(K:A9)(H Hh:Hp)(p:Addr):D->Prop
 | .lst ds=>∃ xs,H p=some (.lst xs)/\ag K Hh ds xs
 | .dK ks ds=>∃ xs,H p=some (.dK (ks.zip xs))/\ks.length=xs.length/\ag K Hh ds xs
 | .dT ks ds=>∃ xs,H p=some (.dT (ks.zip xs))/\ks.length=xs.length/\ag K Hh ds xs
 | _=>False
def dC:Option HO->Prop
 | some (.lst _)=>True
 | some (.dK _)=>True
 | some (.dT _)=>True
 | _=>False
theorem aG.mu{K:A9}{H Hh:Hp}{p:Addr}{d:D}(h:aG K H Hh p d):dC (H p):=by
 cases d<;>first | exact h.elim | (obtain ⟨xs,e,_⟩:=h;rw [e];trivial)
theorem aG.at{K:A9}{H H' Hh Hh':Hp}{p:Addr}{d:D}(h:aG K H Hh p d)(e:H' p=H p)(s:af Hh Hh'):aG K H' Hh' p d:=by
 cases d<;>first
  | exact h.elim
  | (obtain ⟨xs,h1,h2,h3⟩:=h;exact ⟨xs,e.trans h1,h2,s.repDs h3⟩)
  | (obtain ⟨xs,h1,h2⟩:=h;exact ⟨xs,e.trans h1,s.repDs h2⟩)
theorem aG.rep{K:A9}{H Hh Hh':Hp}{p:Addr}{d:D}(h:aG K H Hh p d)(e:Hh' p=H p)(s:af Hh Hh'):ay K Hh' d (.ref p):=by
 cases d<;>first
  | exact h.elim
  | (obtain ⟨xs,h1,h2,h3⟩:=h;exact ⟨p,xs,rfl,e.trans h1,h2,s.repDs h3⟩)
  | (obtain ⟨xs,h1,h2⟩:=h;exact ⟨p,xs,rfl,e.trans h1,s.repDs h2⟩)
def pG(K:A9)(F:Fx)(H:Hp)(W:List Addr)(i:Nat)(d:D)(v:V):Md->Prop
 | .fz=>ay K (hid (W++F.Z) H) d v
 | .ow=>∃ p,v = .ref p/\p∈W/\aG K H (hid (W++F.Z) H) p d
 | .io=>∃ p,v = .ref p/\p∈W/\aG K H (hid (W++F.Z) H) p d/\F.io i=some p
structure Rel(K:A9)(F:Fx)(σ:St)(H:Hp)(ρ:Rho)(W:List Addr):Prop where
 slot:∀ (i:Nat) (d:D) (m:Md),ρ[i]?=some (some (d,m))->∃ v,σ[i]?=some (some v)/\pG K F H W i d v m
 apart:∀ (i j:Nat) (d e:D) (m n:Md) (p:Addr),ρ[i]?=some (some (d,m))->m ≠ .fz->ρ[j]?=some (some (e,n))->n ≠ .fz->σ[i]?=some (some (.ref p))->σ[j]?=some (some (.ref p))->i=j
 wz:∀ p∈W,p∉F.Z
 mt:∀ p∈W++F.Z,dC (H p)
 len:σ.length=ρ.length
structure Fr(W:List Addr)(H H':Hp):Prop where
 keep:∀ b o,b∉W->H b=some o->H' b=some o
 dom:∀ b,H' b=none->H b=none
theorem Fr.refl{W:List Addr}{H:Hp}:Fr W H H:=⟨fun _ _ _ h=>h,fun _ h=>h⟩
theorem af.fr{W:List Addr}{H H':Hp}(e:af H H'):Fr W H H':=⟨fun b o _ h=>e b o h,fun b h=>e.free h⟩
theorem Fr.trans{W W1:List Addr}{H H1 H2:Hp}(a:Fr W H H1)(b:Fr W1 H1 H2)(h:∀ p∈W1,p∈W\/H p=none):Fr W H H2 :=
 ⟨fun c o n e=>b.keep c o (fun z=>(h c z).elim n fun q=>by rw [q] at e;cases e) (a.keep c o n e),fun c e=>a.dom c (b.dom c e)⟩
theorem Fr.hid{W W' Z:List Addr}{H H':Hp}(f:Fr W H H')(s:∀ p∈W',p∈W\/H p=none):af (L2.hid (W++Z) H) (L2.hid (W'++Z) H') :=
 aK (fun b hb=>by
  rcases zg.mp hb with q | q
  ·exact (s b q).imp (fun z=>yI _ z) id
  ·exact .inl (yK _ q)) fun b o n e=>f.keep b o (fun z=>n (yI _ z)) e
section
variable{K:A9}{F:Fx}{σ:St}{H H':Hp}{ρ:Rho}{W:List Addr}
theorem dC.some{o:Option HO}(h:dC o):∃ u,o=Option.some u:=by
 cases o with
 | none=>exact h.elim
 | some u=>exact ⟨u,rfl⟩
theorem Rel.same(R:Rel K F σ H ρ W)(e:af H H'):Rel K F σ H' ρ W:=by
 have eq:∀ p,dC (H p)->H' p=H p:=fun p h=>by obtain ⟨u,q⟩:=h.some;rw [q];exact e _ _ q
 have sh:af (hid (W++F.Z) H) (hid (W++F.Z) H'):=aK (fun b hb=> .inl hb) fun b o _ q=>e b o q
 refine ⟨fun i d m h=> ?_,R.apart,R.wz,fun p hp=>by rw [eq p (R.mt p hp)];exact R.mt p hp,R.len⟩;obtain ⟨v,h1,h2⟩:=R.slot i d m h;refine ⟨v,h1,?_⟩
 cases m with
 | fz=>exact sh.repD h2
 | ow=>obtain ⟨p,e1,e2,e3⟩:=h2;exact ⟨p,e1,e2,e3.at (eq p e3.mu) sh⟩
 | io=>obtain ⟨p,e1,e2,e3,e4⟩:=h2;exact ⟨p,e1,e2,e3.at (eq p e3.mu) sh,e4⟩
theorem Rel.fresh(R:Rel K F σ H ρ W){p:Addr}(h:H p=none):p∉W++F.Z:=fun z=>by
 have:=R.mt p z;rw [h] at this;exact this
theorem aQ{α:Type}{l:List (Option α)}{i j:Nat}{o:Option α}{x:α}(h:(l.set i o)[j]?=some (some x)):(j=i/\o=some x)\/(j≠i/\l[j]?=some (some x)):=by
 by_cases e:j=i
 ·subst e
  rw [List.getElem?_set] at h
  split at h
  ·split at h
   ·exact .inl ⟨rfl,Option.some.inj h⟩
   ·cases h
  ·exact absurd rfl ‹_›
 ·rw [zh (Ne.symm e)] at h
  exact .inr ⟨e,h⟩
theorem Rel.freeze(R:Rel K F σ H ρ W){i:Nat}{d:D}{p:Addr}(h:ρ[i]?=some (some (d,.ow)))(hp:σ[i]?=some (some (.ref p))) :
 Rel K F σ H (ρ.set i (some (d,.fz))) (W.filter fun a=>decide (a≠p))/\ay K (hid ((W.filter fun a=>decide (a≠p))++F.Z) H) d (.ref p):=by
 obtain ⟨v,hv,q,rfl,hq,hO⟩:=R.slot i d .ow h;rw [hp] at hv;cases hv
 have sub:∀ b,b∈W.filter (fun a=>decide (a≠p))->b∈W/\b≠p:=fun b hb=>by
  have:=zw.mp hb;exact ⟨this.1,yS this.2⟩
 have sh:af (hid (W++F.Z) H) (hid ((W.filter fun a=>decide (a≠p))++F.Z) H):=aK (fun b hb=>by
  rcases zg.mp hb with q | q
  ·exact .inl (yI _ (sub b q).1)
  ·exact .inl (yK _ q)) fun b o _ e=>e
 have pn:p∉(W.filter fun a=>decide (a≠p))++F.Z:=fun z=>by
  rcases zg.mp z with q | q
  ·exact (sub p q).2 rfl
  ·exact R.wz p hq q
 have rep:ay K (hid ((W.filter fun a=>decide (a≠p))++F.Z) H) d (.ref p):=hO.rep (aF pn) sh;refine ⟨⟨fun j e m hj=> ?_,fun j k e f m n r h1 h2 h3 h4 h5 h6=> ?_,fun r hr=>R.wz r (sub r hr).1,fun r hr=> ?_,by rw [zz];exact R.len⟩,rep⟩
 ·rcases aQ hj with ⟨rfl,e1⟩ | ⟨ne,e1⟩
  ·cases e1
   exact ⟨_,hp,rep⟩
  ·obtain ⟨v,g1,g2⟩:=R.slot j e m e1
   refine ⟨v,g1,?_⟩
   have other:∀ r,v = .ref r->m ≠ .fz->r≠p:=fun r er hm z=>by
    subst er z;exact ne (R.apart j i _ _ _ _ _ e1 hm h (by decide) g1 hp)
   cases m with
   | fz=>exact sh.repD g2
   | ow=>obtain ⟨r,e2,e3,e4⟩:=g2;exact ⟨r,e2,zw.mpr ⟨e3,yV (other r e2 (by decide))⟩,e4.at rfl sh⟩
   | io=>obtain ⟨r,e2,e3,e4,e5⟩:=g2;exact ⟨r,e2,zw.mpr ⟨e3,yV (other r e2 (by decide))⟩,e4.at rfl sh,e5⟩
 ·rcases aQ h1 with ⟨rfl,z⟩ | ⟨_,z⟩
  ·cases z;exact absurd rfl h2
  ·rcases aQ h3 with ⟨rfl,z'⟩ | ⟨_,z'⟩
   ·cases z';exact absurd rfl h4
   ·exact R.apart j k _ _ _ _ _ z h2 z' h4 h5 h6
 ·rcases zg.mp hr with q | q
  ·exact R.mt r (yI _ (sub r q).1)
  ·exact R.mt r (yK _ q)
theorem Rel.write(R:Rel K F σ H ρ W){i:Nat}{d d':D}{m:Md}{p:Addr}{o:HO}(h:ρ[i]?=some (some (d,m)))(hm:m ≠ .fz)(hp:σ[i]?=some (some (.ref p)))(new:aG K (upd H p o) (hid (W++F.Z) H) p d') :
 Rel K F σ (upd H p o) (ρ.set i (some (d',m))) W/\Fr W H (upd H p o):=by
 obtain ⟨v,hv,hS⟩:=R.slot i d m h;rw [hp] at hv;cases hv
 have hw:p∈W:=by
  cases m with
  | fz=>exact absurd rfl hm
  | ow=>obtain ⟨r,e2,e3,_⟩:=hS;cases e2;exact e3
  | io=>obtain ⟨r,e2,e3,_⟩:=hS;cases e2;exact e3
 have hh:hid (W++F.Z) (upd H p o)=hid (W++F.Z) H:=ql (yI _ hw);refine ⟨⟨fun j e n hj=> ?_,fun j k e f n n' r h1 h2 h3 h4 h5 h6=> ?_,R.wz,fun r hr=> ?_,by rw [zz];exact R.len⟩,fun b u nb e=> ?_,fun b e=> ?_⟩
 ·rcases aQ hj with ⟨rfl,e1⟩ | ⟨ne,e1⟩
  ·cases e1
   refine ⟨_,hp,?_⟩
   cases m with
   | fz=>exact absurd rfl hm
   | ow=>exact ⟨p,rfl,hw,by rw [hh];exact new⟩
   | io=>obtain ⟨r,e2,e3,e4,e5⟩:=hS;cases e2;exact ⟨p,rfl,hw,by rw [hh];exact new,e5⟩
  ·obtain ⟨v,g1,g2⟩:=R.slot j e n e1
   refine ⟨v,g1,?_⟩
   have other:∀ r,v = .ref r->n ≠ .fz->r≠p:=fun r er hn z=>by
    subst er z;exact ne (R.apart j i _ _ _ _ _ e1 hn h hm g1 hp)
   cases n with
   | fz=>show ay K (hid (W++F.Z) (upd H p o)) e v;rw [hh];exact g2
   | ow=>obtain ⟨r,e2,e3,e4⟩:=g2;exact ⟨r,e2,e3,e4.at (ah (other r e2 (by decide))) (by rw [hh];exact af.refl _)⟩
   | io=>obtain ⟨r,e2,e3,e4,e5⟩:=g2;exact ⟨r,e2,e3,e4.at (ah (other r e2 (by decide))) (by rw [hh];exact af.refl _),e5⟩
 ·have fnd:∀ {j:Nat} {e:D} {n:Md},(ρ.set i (some (d',m)))[j]?=some (some (e,n))->n ≠ .fz->∃ e',ρ[j]?=some (some (e',n)):=fun {j e n} hj hn=>by
   rcases aQ hj with ⟨rfl,e1⟩ | ⟨_,e1⟩
   ·cases e1;exact ⟨d,h⟩
   ·exact ⟨_,e1⟩
  obtain ⟨_,z1⟩:=fnd h1 h2;obtain ⟨_,z2⟩:=fnd h3 h4;exact R.apart j k _ _ _ _ _ z1 h2 z2 h4 h5 h6
 ·by_cases e:r=p
  ·subst e;exact new.mu
  ·rw [ah e];exact R.mt r hr
 ·rw [ah (fun z=>by subst z;exact nb hw)];exact e
 ·by_cases z:b=p
  ·subst z;rw [ai] at e;cases e
  ·rw [ah z] at e;exact e
theorem Rel.put(R:Rel K F σ H ρ W){i:Nat}{d:D}{v:V}(hi:i < σ.length)(r:ay K (hid (W++F.Z) H) d v):Rel K F (σ.set i (some v)) H (ρ.set i (some (d,.fz))) W:=by
 refine ⟨fun j e m hj=> ?_,fun j k e f m n p h1 h2 h3 h4 h5 h6=> ?_,R.wz,R.mt,by rw [zz,zz];exact R.len⟩
 ·rcases aQ hj with ⟨rfl,e1⟩ | ⟨ne,e1⟩
  ·cases e1
   exact ⟨v,zy hi,r⟩
  ·obtain ⟨v',g1,g2⟩:=R.slot j e m e1
   exact ⟨v',by rw [zh (Ne.symm ne)];exact g1,g2⟩
 ·rcases aQ h1 with ⟨rfl,z⟩ | ⟨n1,z⟩
  ·cases z;exact absurd rfl h2
  ·rcases aQ h3 with ⟨rfl,z'⟩ | ⟨n2,z'⟩
   ·cases z';exact absurd rfl h4
   ·rw [zh (Ne.symm n1)] at h5
    rw [zh (Ne.symm n2)] at h6;exact R.apart j k _ _ _ _ _ z h2 z' h4 h5 h6
theorem Rel.own{p:Addr}(R:Rel K F σ (hid [p] H) ρ W){i:Nat}{d:D}(hi:i < σ.length)(hp:p∉W++F.Z)(r:aG K H (hid (p::(W++F.Z)) H) p d):Rel K F (σ.set i (some (.ref p))) H (ρ.set i (some (d,.ow))) (p::W):=by
 have hh:hid (W++F.Z) (hid [p] H)=hid ((p::W)++F.Z) H:=by
  funext b
  unfold hid
  by_cases z:b=p
  ·subst z
   rw [if_neg hp];simp
  ·by_cases z2:b∈W++F.Z
   ·rw [if_pos z2,if_pos (by rw [zO];exact yH _ z2)]
   ·rw [if_neg z2,if_neg (by simpa using z),if_neg (by rw [zO];exact fun q=>(yP.mp q).elim z z2)]
 have neq:∀ r,r∈W++F.Z->hid [p] H r=H r:=fun r hr=>aF (by
  intro z
  have z:r=p:=by simpa using z
  subst z;exact hp hr)
 refine ⟨fun j e m hj=> ?_,fun j k e f m n q h1 h2 h3 h4 h5 h6=> ?_,fun q hq=> ?_,fun q hq=> ?_,by rw [zz,zz];exact R.len⟩
 ·rcases aQ hj with ⟨rfl,e1⟩ | ⟨ne,e1⟩
  ·cases e1
   exact ⟨_,zy hi,p,rfl,yL,r⟩
  ·obtain ⟨v',g1,g2⟩:=R.slot j e m e1
   refine ⟨v',by rw [zh (Ne.symm ne)];exact g1,?_⟩
   cases m with
   | fz=>show ay K (hid ((p::W)++F.Z) H) e v';rw [<- hh];exact g2
   | ow=>obtain ⟨r,e2,e3,e4⟩:=g2;exact ⟨r,e2,yH _ e3,e4.at (neq r (yI _ e3)).symm (by rw [hh];exact af.refl _)⟩
   | io=>obtain ⟨r,e2,e3,e4,e5⟩:=g2;exact ⟨r,e2,yH _ e3,e4.at (neq r (yI _ e3)).symm (by rw [hh];exact af.refl _),e5⟩
 ·have inW:∀ {j:Nat} {e:D} {m:Md},ρ[j]?=some (some (e,m))->m ≠ .fz->σ[j]?=some (some (.ref p))->False:=fun {j e m} h1 h2 h3=>by
   obtain ⟨v,g1,g2⟩:=R.slot j e m h1;rw [h3] at g1;cases g1
   cases m with
   | fz=>exact h2 rfl
   | ow=>obtain ⟨r,e2,e3,_⟩:=g2;cases e2;exact hp (yI _ e3)
   | io=>obtain ⟨r,e2,e3,_⟩:=g2;cases e2;exact hp (yI _ e3)
  rcases aQ h1 with ⟨rfl,z⟩ | ⟨n1,z⟩
  ·rw [zy hi] at h5
   cases h5
   rcases aQ h3 with ⟨rfl,z'⟩ | ⟨n2,z'⟩
   ·rfl
   ·rw [zh (Ne.symm n2)] at h6
    exact (inW z' h4 h6).elim
  ·rw [zh (Ne.symm n1)] at h5
   rcases aQ h3 with ⟨rfl,z'⟩ | ⟨n2,z'⟩
   ·rw [zy hi] at h6
    cases h6;exact (inW z h2 h5).elim
   ·rw [zh (Ne.symm n2)] at h6
    exact R.apart j k _ _ _ _ _ z h2 z' h4 h5 h6
 ·rcases yP.mp hq with rfl | hq
  ·exact fun z=>hp (yK _ z)
  ·exact R.wz q hq
 ·rcases yP.mp (show q∈p::(W++F.Z) from hq) with rfl | hq
  ·exact r.mu
  ·have:=R.mt q hq
   rw [neq q hq] at this;exact this
end
def ft(ea C:Addr)(dx:Option Addr):HO:= .ext fun h=>∃ o vs,h.get? ea=some o/\o.cls = .ref C/\o.dict=dx/\o.data = .fields vs/\1 < vs.size/\vs[1]?=some .none
theorem ma{P:Program}{w:World}{H:Hp}{h:Heap}{ea C:Addr}{dx:Option Addr}{o:Obj}{vs:Array Value}(h1:h.get? ea=some o)(h2:o.cls = .ref C)(h3:o.dict=dx)(h4:o.data = .fields vs)(h5:1 < vs.size)(h6:vs[1]?=some .none):aX P w H h ea (ft ea C dx) :=
 ⟨⟨o,vs,h1,h2,h3,h4,h5,h6⟩,⟨o,h1⟩,fun a b hZ k=>(by obtain ⟨o,vs,e,r⟩:=hZ;exact ⟨o,vs,k o e,r⟩)⟩
theorem qv{P:Program}{w:World}{H:Hp}{h:Heap}{a:Addr}{fs:List (Str×V)}{mA:Str->Option Value}(h1:h.Ns1 a mA)(h2:∀ f,ke (fs.lookup f) (mA f))(h3:PySem.Within mA (fs.map (·.1))):aX P w H h a (il a fs) :=
 ⟨⟨mA,h1,h2,h3⟩,(by obtain ⟨o,_,_,e,_⟩:=h1;exact ⟨o,e⟩),fun x y hZ k=>(by obtain ⟨mA,⟨od,es,ep,e,c⟩,r⟩:=hZ;exact ⟨mA,⟨od,es,ep,k _ e,c⟩,r⟩)⟩
theorem sE{H:Hp}{a:Addr}{o:HO}(h:H a=some o):upd H a o=H:=by
 funext b
 unfold upd
 split
 ·rename_i e;rw [e,h]
 ·rfl
structure IniT(K:A9)(mg:Str->Option Value)(Tq:Addr):Prop where
 at_:mg "TieError" = some (.ref Tq)
 ga:PySem.W.specialIn K (.ref Tq) "__getattribute__" = some (some (.builtin "type.__getattribute__"))
 rd:PySem.W.readsIn K Tq (.type "type")=true
 fc:PySem.W.findCls K (.ref Tq) (.type "type") "__init__" = some (.val (.builtin "ValueError.__init__"))
structure sw(base:Heap)(C Tq:Addr):Prop where
 obj:∃ n1 n2 N l1 b1 l3 l2 b2 ob dd k0 k1 k2 k3 k5,base.get? C=some (excClassObj n1 n2 C N l1 ((.ref Tq)::XK.bmV) b1 l3 l2 b2 ob dd k0 k1 k2 k3 k5 "ValueError.__new__")
 tail:OwnTail base XK.bmV ((.ref Tq)::XK.bmV)
section
variable{X:Cx}{e o value:Expr}{es:List Expr}{t:TA}{ta tv:TE}{Tq C:Addr}{f:Str}{p1 p2 pos pos':Pos}
def tIni(base:Heap)(Tq:Addr)(t:TA):TE:=fun σ H Q=>t σ H fun vs H1=>∃ ea C xs,vs = .ref ea::xs/\H1 ea=some (ft ea C none)/\sw base C Tq/\xs.length<=1000/\Q .non H1
theorem pe_ini{pl:Sem Bool}(T:IniT X.K X.mg Tq)(hg:Gl X "TieError")(ha:PA X (e::es) t)(he:starEach (e::es) X.env=(false,eval e X.env)::starEach es X.env:=by rfl)(hpl:(backTo pos (starEach es X.env)).any (·.1)=false:=by rfl)
 (ht:eval (.Call (.Attribute (.Name "TieError" p1) "__init__" p2) (e::es) [] pos) X.env=(do
   let ov <- eval (.Name "TieError" p1) X.env
   standAt p2.atName
   let (f,first) <- holding [ov] (getMethod ov "__init__" pl)
   callWith pos f first (backTo pos (starEach (e::es) X.env)) (backToKw pos (keywordEach [] X.env))):=by rfl) :
 PE X (.Call (.Attribute (.Name "TieError" p1) "__init__" p2) (e::es) [] pos) (tIni X.base Tq t):=by
 intro pins s σ H Q I h;refine PySem.W.methodCall_KW (pl:=pl) (dR I hg T.at_ ?_) ht;refine PySem.W.method_cls I.kIn T.ga (PySem.W.cls_value I.kIn T.rd T.fc (by decide +kernel) ?_);refine PyProof.Rows.callWith_builtin1 (thn (ha pos pins _ σ H _ (I.tok (s.toks+1)) h) fun us s1 hZ=> ?_) he hpl;obtain ⟨vs,H1,I1,r1,ea,C,xs,rfl,hea,k,hl,q⟩:=hZ
 obtain ⟨u0,ws,rfl,ru,rw_⟩:∃ u0 ws,us=u0::ws/\ax (.ref ea) u0/\aq xs ws:=by cases r1 with | cons a b=>exact ⟨_,_,rfl,a,b⟩
 obtain rfl:u0=Value.ref ea:=ru;obtain ⟨n1,n2,N,l1,b1,l3,l2,b2,ob,dd,k0,k1,k2,k3,k5,hC⟩:=k.obj;have FB:=PySem.F.excBase_ValueError;obtain ⟨oe,vs,g1,g2,g3,g4,g5,g6⟩:=(I1.hok ea _ hea).1
 rcases s1 with ⟨hp,gg,dr,tk,os⟩
 refine wpAny_call (codeAny_call_builtin FB.init.plain FB.initEntry (wpAny_check_init_subT FB (k.tail.keeps I1.bk) (I1.bk _ _ hC) g1 g2 ?_));have h0:∃ x0,vs[0]?=some x0:=⟨vs[0],zA (by omega)⟩;obtain ⟨x0,h0⟩:=h0
 have hln:ws.length<=sizeLine:=by rw [<- rw_.length];exact zT (cb hl)
 have sz:ws.toArray.size<=sizeLine:=by simpa using hln
 have g1':=yC (eY ws) g1;have hd3:=AD g4 (·.setIfInBounds 0 (Value.ref hp.objs.size))
 have fin:∀ tk',EP X pins σ Q .none ⟨(hp.push (eY ws)).update ea (Obj.mapFields (·.setIfInBounds 0 (Value.ref hp.objs.size))),gg,dr,tk',os⟩:=fun tk'=>by
  have J:=I1.kept (h':=hp.push (eY ws)) (t':=tk') fun b u z=>yC _ z
  have hu:((hp.push (eY ws)).update ea (Obj.mapFields (·.setIfInBounds 0 (Value.ref hp.objs.size)))).get? ea=some (Obj.mapFields (·.setIfInBounds 0 (Value.ref hp.objs.size)) oe):=Ab _ g1' (AK hd3)
  have J2:=J.write (x:=ea) (e:=ea) (o:=ft ea C none) (t':=tk') (h':=(hp.push (eY ws)).update ea (Obj.mapFields (·.setIfInBounds 0 (Value.ref hp.objs.size)))) (by rw [hea];trivial) (.inl rfl) (fun b u nb z=>(zY _ _ (Ne.symm nb)).trans z) ⟨_,hu⟩
   (ma hu ((Obj.cls_mapFields _ _).trans g2) (eX.trans g3) hd3 (by simpa using g5) (by rw [Array.getElem?_setIfInBounds_ne (by decide)];exact g6))
  rw [sE hea] at J2;exact ⟨.non,H1,J2,rfl,q⟩
 show wpAny _ _ (Builtin.«BaseException.__init__» ⟨.ref ea::ws,[]⟩) _ _ _
 unfold Builtin.«BaseException.__init__» Builtin.BaseException.bexcPut;dsimp only;rw [if_neg (by decide)];refine yB (wpAny_newTuple (yB (yB (zX g1' g4 h0 (yB (A6 g1' g4 (by omega) ?_))))) hln)
 have tail:wpAny (model X.prog X.w) X.A.in1 (match x0 with | Value.ref a=>letGo [x0] | x=>pure ()) (fun _ s'=>s'=⟨(hp.push (eY ws)).update ea (Obj.mapFields (·.setIfInBounds 0 (Value.ref hp.objs.size))),gg,dr,tk,os⟩) (fun _ _=>False) ⟨(hp.push (eY ws)).update ea (Obj.mapFields (·.setIfInBounds 0 (Value.ref hp.objs.size))),gg,dr,tk,os⟩:=by
  split
  ·exact wpAny_letGo rfl
  ·exact yE rfl
 refine zp tail (fun _ s' z=> ?_) fun _ _ z=>z.elim
 subst z;exact yE (fin tk)
def xS(K:A9)(Tq:Addr)(ta tv:TE)(f:Str):TS:=fun D σ H=>tv σ H fun y H1=>ta σ H1 fun x H2=>∃ ea C dx,x = .ref ea/\H2 ea=some (ft ea C dx)/\XK.pK K C Tq/\PySem.W.takerIn K C f=some none /\
 ((dx=none/\∀ dA,H2 dA=none->dA≠ea->D.nx σ (upd (upd H2 dA (il dA [(f,y)])) ea (ft ea C (some dA)))) \/
   ∃ dA fs,dx=some dA/\dA≠ea/\H2 dA=some (il dA fs)/\fs.length < 1000/\D.nx σ (upd H2 dA (il dA (km f y fs))))
theorem we(ha:PE X o ta)(hv:PE X value tv)(hs:swapsWith value (some (.Attribute o f pos')) pos.line X.env=pure false:=by rfl):PS X (.Assign [.Attribute o f pos'] value pos) (xS X.K Tq ta tv f):=by
 intro pins s σ H D I h;refine plainObj_wpAny_Assign_Attribute (thn (hv pins s σ H _ I h) fun u s1 hZ=> ?_) hs;obtain ⟨y,H1,I1,ry,q⟩:=hZ
 refine thn (ha pins s1 σ H1 _ I1 q) fun ov s2 hZ=> ?_
 obtain ⟨x,H2,I2,rx,ea,C,dx,ex,hea,kf,tk,q2⟩:=hZ;subst ex;obtain rfl:ov=Value.ref ea:=rx;obtain ⟨oe,vs,g1,g2,g3,g4,g5,g6⟩:=(I2.hok ea _ hea).1
 have nc:PySem.W.notCls oe=true:=by unfold PySem.W.notCls;rw [g4]
 rcases q2 with ⟨rfl,q2⟩ | ⟨dA,fs,rfl,ne,hdA,hl,q2⟩
 ·have IA:PySem.W.InstAt s2.heap ea oe C none:=⟨g1,g2,nc,by rw [g3];trivial⟩
  refine XK.qF I2.kIn IA g3 (fun c z=>by rw [g4] at z;cases z) (fun yo z=>by rw [g4] at z;exact AK z) kf tk fun h' e1 e2 e3=> ?_
  have nd:s2.heap.objs.size≠ea:=Ay (yN g1);have hd0:H2 s2.heap.objs.size=none:=I2.fresh
  have old:∀ b,H2 b=none->b≠ea:=fun b hb z=>by rw [z,hea] at hb;cases hb
  have un:Un X.fs [] H2 (upd (upd H2 s2.heap.objs.size (il s2.heap.objs.size [(f,y)])) ea (ft ea C (some s2.heap.objs.size))) s2.heap h':=by
   refine ⟨fun b o z n _ _=>e3 b o (old b n) z,fun b o z n _ _=>⟨o.slots,e3 b o (old b n) z⟩,fun b o z n _=> ?_,fun b o z _=> ?_,fun b xs z=> ?_,fun b o u z=> ?_,fun b ps z=>⟨#[],?_⟩⟩
   ·rw [ah (old b n),ah (za (yN z))];exact n
   ·by_cases hb:b=ea
    ·rw [hb];exact ⟨_,e1⟩
    ·exact ⟨o,e3 b o hb z⟩
   ·rw [ah (fun y=>by rw [y,hea] at z;cases z),ah (aj z hd0)];exact z
   ·rw [ah (fun y=>by rw [y,hea] at z;cases z),ah (aj z hd0)];exact z
   ·rw [ah (fun y=>by rw [y,hea] at z;cases z),ah (aj z hd0)];simpa using z
  have hk:HOk X.prog X.w (upd (upd H2 s2.heap.objs.size (il s2.heap.objs.size [(f,y)])) ea (ft ea C (some s2.heap.objs.size))) h':=fun a o' z=>by
   by_cases ha:a=ea
   ·subst ha
    rw [ai] at z;cases z;exact ma e1 g2 rfl g4 g5 g6
   ·rw [ah ha] at z
    by_cases hb:a=s2.heap.objs.size
    ·subst hb
     rw [ai] at z;cases z
     refine qv e2 (fun g=> ?_) fun g hg=> ?_
     ·by_cases q:g=f
      ·subst q
       simp only [zB,AO,if_true];exact ry
      ·rw [if_neg q,zB,show (g == f)=false by simpa using q]
       trivial
     ·by_cases q:g=f
      ·rw [q];exact yL
      ·rw [if_neg q] at hg;exact absurd rfl hg
    ·rw [ah hb] at z
     refine (I2.hok a o' z).stay (fun b u hb2 z2=>e3 b u ?_ z2) (fun b z2=> ?_) fun b xs z2=> ?_
     ·rcases hb2 with rfl | hb2
      ·exact ha
      ·intro y;rw [y,hea] at hb2;cases hb2
     ·rw [ah (fun y=>by rw [y,hea] at z2;cases z2),ah (aj z2 hd0)];exact z2
     ·rw [ah (fun y=>by rw [y,hea] at z2;cases z2),ah (aj z2 hd0)];exact z2
  exact ⟨σ,_,I2.un (t':=s2.toks+2) un hk,q2 _ hd0 nd⟩
 ·obtain ⟨mA,n1,r1,w1⟩:=(I2.hok dA _ hdA).1
  obtain ⟨od,ho,_⟩:=kQ n1;have IA:PySem.W.InstAt s2.heap ea oe C (some od):=⟨g1,g2,nc,by rw [g3];exact ho⟩
  refine XK.sN I2.kIn IA g3 ne n1 kf tk w1 (by rw [yF,sizeLine_eq];omega) fun h' n2 sb=>⟨σ,_,?_,q2⟩
  refine I2.write (x:=dA) (e:=dA) (t':=s2.toks+2) (by rw [hdA];trivial) (.inl rfl) (fun b u nb z=>(sb.2 b nb).trans z) (let ⟨o,_,_,e,_⟩:=n2;⟨o,e⟩) (qv n2 (fun g=> ?_) fun g hg=> ?_)
  ·rw [iD]
   by_cases q:g=f
   ·rw [if_pos q,if_pos q];exact ry
   ·rw [if_neg q,if_neg q];exact r1 g
  ·by_cases q:g=f
   ·rw [q];exact (ic f y fs).1
   ·exact (ic f y fs).2 g (w1 g fun z=>hg (by rw [if_neg q];exact z))
def sK(K:A9)(ta:TE)(f:Str):TE:=fun σ H Q=>ta σ H fun x H1=>∃ ea C dA fs v,x = .ref ea/\H1 ea=some (iR ea C (some dA))/\H1 dA=some (il dA fs)/\XK.iS K C/\PySem.W.hasDictIn K C=true/\PySem.W.findIn K (.ref C) f=some none/\fs.lookup f=some v/\Q v H1
theorem p9(he:PE X e ta)(hb:attributeBase e f X.env (eval e X.env)=eval e X.env:=by rfl):PE X (.Attribute e f pos) (sK X.K ta f):=by
 intro pins s σ H Q I h;refine xB hb (thn (he pins s σ H _ I h) fun u s1 hZ=> ?_);obtain ⟨x,H1,I1,rx,ea,C,dA,fs,v,ex,hea,hdA,k,hd,nf,l,q⟩:=hZ;subst ex;obtain rfl:u=Value.ref ea:=rx;obtain ⟨oe,g1,g2,g3,g4⟩:=(I1.hok ea _ hea).1;obtain ⟨mA,n1,r1,w1⟩:=(I1.hok dA _ hdA).1;obtain ⟨od,ho,hl⟩:=kQ n1;obtain ⟨u,hu,ru⟩:=ke.some_of (v:=v) (o:=mA f) (by rw [<- l];exact r1 f);have IA:PySem.W.InstAt s1.heap ea oe C (some od):=⟨g1,g2,g3,by rw [g4 dA rfl];exact ho⟩
 rcases s1 with ⟨hp,gg,dr,tk,os⟩
 exact XK.attrF I1.kIn IA k (PySem.W.findObj_own hd nf rfl (by rw [hl,hu])) (rG ru) ⟨v,H1,I1.tok (tk+1),ru,q⟩
end
def spI(C:Addr)(fns:List Str):Sp:=fun vs H Q _=>∃ ea ys,vs = .ref ea::ys/\ys.length=fns.length/\H ea=some (ft ea C none) /\
 ∀ dA,H dA=none->dA≠ea->Q .non (upd (upd H dA (il dA (fns.zip ys))) ea (ft ea C (some dA)))
structure ErrX(P:Program)(w:World)(K:A9)(mg:Str->Option Value)(base:Heap)(x:Str)(fns:List Str)(k:Nat)(C:Addr):Prop where
 bound:mg x=some (.ref C)
 kp:PySem.W.keepIn K (.ref C)=true
 ex:∃ Tq fI fd,sw base C Tq/\PySem.W.findIn K (.ref C) "__init__" = some (some (.ref fI))/\PySem.W.typeIn K (.ref fI)=some (.type "function")/\gX K fd ("self" :: fns) []/\gp P w K mg base (CXr P w) k fI fd ("self" :: fns) (spI C fns)
theorem HOk.drop{P:Program}{w:World}{H:Hp}{h:Heap}{a:Addr}{φ:Heap->Prop}(x:HOk P w H h)(e:H a=some (.ext φ)):HOk P w (fun b=>if b=a then none else H b) h:=fun b o z=>by
 have z:(if b=a then none else H b)=some o:=z
 split at z
 ·cases z
 ·refine (x b o z).stay (fun _ _ _ q=>q) (fun c q=> ?_) fun c xs q=> ?_
  ·show (if c=a then none else H c)=_
   rw [if_neg (fun y=>by rw [y,e] at q;cases q)];exact q
  ·show (if c=a then none else H c)=_
   rw [if_neg (fun y=>by rw [y,e] at q;cases q)];exact q
theorem Un.drop{fs ex:List Addr}{H₀ H:Hp}{g h:Heap}{a:Addr}{φ:Heap->Prop}(u:Un fs ex H₀ H g h)(e:H a=some (.ext φ)):Un fs ex H₀ (fun b=>if b=a then none else H b) g h:=by
 refine ⟨u.keep,u.slot,fun b o z n hx=> ?_,u.there,fun b xs z=> ?_,fun b o v z=> ?_,fun b ps z=> ?_⟩
 ·show (if b=a then none else H b)=none
  split
  ·rfl
  ·exact u.free b o z n hx
 ·have:=u.tups b xs z
  show (if b=a then none else H b)=_
  rw [if_neg (fun y=>by rw [y,e] at this;cases this)];exact this
 ·have:=u.frzs b o v z
  show (if b=a then none else H b)=_
  rw [if_neg (fun y=>by rw [y,e] at this;cases this)];exact this
 ·obtain ⟨m,this⟩:=u.tbls b ps z
  refine ⟨m,?_⟩
  show (if b=a then none else H b)=_
  rw [if_neg (fun y=>by rw [y,e] at this;cases this)];exact this
section
variable{P:Program}{w:World}{K:A9}{mg:Str->Option Value}{base:Heap}{N:List Str}{qual:Str}{scope:Scope}{f:Addr}{cd:Value}{A:Around}{outer:List Env}{s:Shared}{H:Hp}{E:XK}
theorem oY{pins:List (Addr×Obj)}{σ:St}{H1:Hp}{s1:Shared}{e C dA:Addr}(I:Inv (aW (CXr P w) P w K mg base N qual scope f cd A outer s H E) pins σ H1 s1)(he:H1 e=some (ft e C (some dA)))(hn:s.heap.get? e=none)
 (h:E (.ref C) (some dA) (fun b=>if b=e then none else H1 b)):(aW (CXr P w) P w K mg base N qual scope f cd A outer s H E).xe (.ref e) s1:=by
 obtain ⟨oe,vs,g1,g2,g3,g4,g5,g6⟩:=(I.hok e _ he).1;obtain ⟨a0,h0⟩:∃ a0,vs[0]?=some a0:=⟨vs[0],zA (by omega)⟩
 have hin:∀ env∈(aW (CXr P w) P w K mg base N qual scope f cd A outer s H E).stack,∀ b,env.frame=some b->b∈e::frs (aW (CXr P w) P w K mg base N qual scope f cd A outer s H E).stack:=fun env he b hb=>yH _ (A5.mpr ⟨env,he,hb⟩)
 show wpAny _ _ (leaving _ (.ref e)) _ _ _
 refine zp (cC fu (wpAny_leaving_firstW (Q:=fun _ s'=>∃ h',s'={ s1 with heap:=h' }/\Heap.LeftW (PySem.W.hideAll s1.heap (e::frs (aW (CXr P w) P w K mg base N qual scope f cd A outer s H E).stack)) (aW (CXr P w) P w K mg base N qual scope f cd A outer s H E).stack e oe.cls a0 s1.heap h')
  (base:=PySem.W.hideAll s1.heap (e::frs (aW (CXr P w) P w K mg base N qual scope f cd A outer s H E).stack)) I.ok.frames (PySem.W.funFrames_hide I.stack hin) rfl g1 (fun b o q=>PySem.W.of_hideAll _ q) (AR _ yL) g4 g6 h0 fun h' x=>⟨h',rfl,x⟩)) (fun _ s' z=> ?_) fun _ _ z=>z
 obtain ⟨⟨h'',rfl,y1,y2,⟨oe',vs',T',oT,ts,z1,z2,z3,z4,z5,z6,z7,z8,z9⟩,y4⟩,dk⟩:=z
 have tn:vo (frs (aW (CXr P w) P w K mg base N qual scope f cd A outer s H E).stack) e T' s1.heap h'':=by
  refine ⟨fun b o q n1 n2 _=>y1 b o (Aw _ q (by simp [n1,n2])),fun b o q hb=> ?_⟩;obtain ⟨_,o',ho',nf⟩:=I.stack.mem hb;rw [q] at ho';cases ho';exact y4 b o q nf
 have hT:s1.heap.get? T'=none:=by
  have nf:T'∉frs (aW (CXr P w) P w K mg base N qual scope f cd A outer s H E).stack:=fun hb=>by
   obtain ⟨_,o,ho,nf⟩:=I.stack.mem hb;obtain ⟨sl,z⟩:=tn.slot T' o ho hb;rw [z7] at z;cases z;exact nf ts z8
  cases z:s1.heap.get? T' with
  | none=>rfl
  | some o =>
   have:=Aw (e::frs (aW (CXr P w) P w K mg base N qual scope f cd A outer s H E).stack) z (by simp [nf,z6]);rw [z5] at this;cases this
 have e2:frs (aW (CXr P w) P w K mg base N qual scope f cd A outer s H E).stack=s.heap.objs.size::frs outer:=nW rfl
 have old:∀ b,s1.heap.get? b=none->s.heap.get? b=none:=fun b hb=>by
  cases z:s.heap.get? b with
  | none=>rfl
  | some o=>obtain ⟨o',z'⟩:=I.base.there b o z (by show b∉[];simp);rw [hb] at z';cases z'
 have hT1:H1 T'=none:=I.hok.none_of hT;have hok:=I.hok.drop he
 have fl:gU s.heap (fun b=>if b=e then none else H1 b) e T' (.ref C) (some dA) h'':=by
  refine ⟨⟨oe',vs',oT,ts,a0,z1,⟨z2.1.trans g2,z2.2⟩,z3,z4,z6,z7,z8,z9⟩,if_pos rfl,?_,hn,old T' hT,fun d z=>⟨oe',z1,?_⟩⟩
  ·show (if T'=e then none else H1 T')=none
   split
   ·rfl
   ·exact hT1
  ·rw [dk.at g1 z1,g3,z]
 refine ⟨e,T',.ref C,_,some dA,rfl,I.os,I.bare,Un.turn (I.base.drop he) tn fl.ge fl.gT (fun b hb=> ?_) (fun b hb nb=> ?_),hok.turn tn fl.he fl.hT (fun b hb=> ?_),fl,h⟩
 ·rw [e2];exact yH _ hb
 ·rw [e2] at hb
  rcases yP.mp hb with rfl | hb
  ·exact AS (yO _)
  ·exact absurd hb nb
 ·show (if b=e then none else H1 b)=none
  split
  ·rfl
  ·exact I.stkFree b hb
def vI(C:Addr)(fns:List Str)(E:XK)(t:TA):TS:=fun _ σ H=>t σ H fun vs H1=>vs.length=fns.length/\vs.length<=1000/\∀ dA,H1 dA=none->E (.ref C) (some dA) (upd H1 dA (il dA (fns.zip vs)))
theorem qQ{x:Str}{fns:List Str}{C:Addr}{k:Nat}{np cpos pos:Pos}{e:Expr}{es:List Expr}{t:TA}(O:ErrX P w K mg base x fns k C)(hr:bL (k+1) (A.deeper (envOfC qual scope s.heap.objs.size f cd)))
 (hg:Gl (aW (CXr P w) P w K mg base N qual scope f cd A outer s H E) x) (ha:PA (aW (CXr P w) P w K mg base N qual scope f cd A outer s H E) (e::es) t) (hd:(x == ("__debug__" : Str))=false:=by decide)
 (he:starEach (e::es) (envOfC qual scope s.heap.objs.size f cd)=(false,eval e (envOfC qual scope s.heap.objs.size f cd))::starEach es (envOfC qual scope s.heap.objs.size f cd):=by rfl) (hpl:(backTo cpos (starEach es (envOfC qual scope s.heap.objs.size f cd))).any (·.1)=false:=by rfl) :
 PS (aW (CXr P w) P w K mg base N qual scope f cd A outer s H E) (.Raise (some (.Call (.Name x np) (e::es) [] cpos)) none pos) (vI C fns E t):=by
 intro pins s1 σ H1 D I h;obtain ⟨Tq,fI,fd,k1,k2,k3,k4,k5⟩:=O.ex;obtain ⟨n1,n2,N1,l1,b1,l3,l2,b2,ob,dd,q0,q1,q2,q3,q5,hC⟩:=k1.obj;rw [arm_exec_Raise];refine yB (wpAny_standAt (qO (C:=C) (bm:= .ref Tq::XK.bmV) (n1:=n1) (n2:=n2) (N:=N1) (l1:=l1) (b1:=b1) (l3:=l3) (l2:=l2) (b2:=b2) (ob:=ob) (dd:=dd) (k0:=q0) (k1:=q1) (k2:=q2) (k3:=q3) (k5:=q5) (newId := "ValueError.__new__") (by simp) hr.hd (yB (zp ?_ (fun v s3 z=>yB (wpAny_standAt (yE z))) fun _ _ z=>z))));refine Ak (dR I hg O.bound ?_ hd);refine A3 (h₀:=base) I.ok.mod.kin O.kp (thn (ha cpos pins s1 σ H1 _ I h) fun us s2 hZ=> ?_) he hpl;obtain ⟨vs,H2,I2,r2,len,l1000,q⟩:=hZ;refine ⟨I2.kIn,?_⟩
 have hln:us.length<=sizeLine:=by rw [<- r2.length];exact zT (cb l1000)
 rcases s2 with ⟨hp,gg,dr,tk,os⟩
 have J1:=I2.kept (h':=hp.push (eY us)) (t':=tk) fun b u z=>yC _ z
 have at1:((hp.push (eY us)).push (kr C hp.objs.size)).get? (hp.objs.size+1)=some (kr C hp.objs.size):=by heap_get
 have J2:Inv (aW (CXr P w) P w K mg base N qual scope f cd A outer s H E) pins σ (upd H2 (hp.objs.size+1) (ft (hp.objs.size+1) C none)) ⟨(hp.push (eY us)).push (kr C hp.objs.size),gg,dr,tk,os⟩ :=
  J1.laid (a:=hp.objs.size+1) (o:=ft (hp.objs.size+1) C none) (t':=tk) (fun b u z=>yC _ z) (by show (hp.push (eY us)).objs.size<=_;rw [Ai];exact yO _)
   (ma at1 rfl rfl rfl (by show 1 < 6;decide) rfl)
 have fr:H2 (hp.objs.size+1)=none:=I2.hok.fresh (AH _);refine my PySem.F.excBase_ValueError (k1.tail.keeps I2.bk) I2.kIn (I2.bk _ _ hC) k2 k3 (by simpa using hln) ?_
 have sp:spI C fns (.ref (hp.objs.size+1)::vs) (upd H2 (hp.objs.size+1) (ft (hp.objs.size+1) C none)) (fun v H'=>v = .non/\∃ dA,H2 dA=none/\dA≠hp.objs.size+1/\H'=upd (upd (upd H2 (hp.objs.size+1) (ft (hp.objs.size+1) C none)) dA (il dA (fns.zip vs))) (hp.objs.size+1) (ft (hp.objs.size+1) C (some dA))) E0 :=
  ⟨_,vs,rfl,len,ai,fun dA h1 h2=>⟨rfl,dA,by rw [ah h2] at h1;exact h1,h2,rfl⟩⟩
 have r3:aq (V.ref (hp.objs.size+1)::vs) (Value.ref (hp.objs.size+1)::us):= .cons rfl r2;have hb:=k4 ⟨(hp.push (eY us)).push (kr C hp.objs.size),gg,dr,tk,os⟩ (Value.ref (hp.objs.size+1)::us) J2.kIn (by rw [zK,<- r3.length];exact k5.len _ _ _ _ sp);rw [zK] at hb
 refine codeAny_mono (k5.run _ _ _ _ _ _ _ _ _ (hr.make C us []) (J2.env0.make C us []) hb r3 sp) fun r s' z=> ?_
 cases r with
 | error e=>obtain ⟨_,_,_,_,_,_,_,_,_,_,_,z⟩:=z;exact z.elim
 | ok fl =>
  cases fl with
  | next=>exact False.elim z
  | brk=>exact False.elim z
  | cont=>exact False.elim z
  | ret u =>
   obtain ⟨v,H',I3,rv,ev,dA,d1,d2,d3⟩:=J2.after z;subst ev;refine ⟨rv,?_⟩
   have hea:H' (hp.objs.size+1)=some (ft (hp.objs.size+1) C (some dA)):=by rw [d3];exact ai
   obtain ⟨oe,vs',g1,g2,g3,g4,g5,g6⟩:=(I3.hok _ _ hea).1;refine ⟨_,oe,vs',rfl,I3.bk _ _ hC,g1,g2,g4,g6,?_⟩;refine oY I3 hea ?_ ?_
   ·exact AS (zu I2.sz (AH _))
   ·have:=q dA d1
    rwa [show (fun b=>if b=hp.objs.size+1 then none else H' b)=upd H2 dA (il dA (fns.zip vs)) from by
     funext b
     rw [d3];unfold upd
     by_cases hb:b=hp.objs.size+1
     ·rw [if_pos hb,if_neg (by rw [hb];exact Ne.symm d2),hb,fr]
     ·rw [if_neg hb,if_neg hb]
      split
      ·rfl
      ·rfl]
end
theorem PE.by{X:Cx}{e:Expr}{t t':TE}(h:PE X e t)(hi:∀ σ H Q,t' σ H Q->t σ H Q):PE X e t':=fun pins s σ H Q I hw=>h pins s σ H Q I (hi σ H Q hw)
theorem PT.by{X:Cx}{e:Expr}{t t':TT}(h:PT X e t)(hi:∀ σ H Q,t' σ H Q->t σ H Q):PT X e t':=fun pins s σ H Q I hw=>h pins s σ H Q I (hi σ H Q hw)
inductive Res where
 | ok (d:D) (nw:Bool) | ex (C:Lb)
inductive mE where
 | ok (ds:List D) | ex (C:Lb)
inductive so where
 | ok (b:Bool) | ex (C:Lb)
abbrev SE:=Rho->Option (Res×Rho)
abbrev ST:=Rho->Option (so×Rho)
abbrev EXT:=Lb->St->Hp->Prop
section
variable(K:A9)(F:Fx)(EX:EXT)(σ:St)(H:Hp)(W:List Addr)
def eB(H':Hp)(ρ':Rho)(W':List Addr)(d:D):Bool->V->Prop
 | false,v=>ay K (hid (W'++F.Z) H') d v/\Rel K F σ H' ρ' W'
 | true,v=>∃ p,v = .ref p/\H p=none/\p∉W'++F.Z/\aG K H' (hid (p::(W'++F.Z)) H') p d/\Rel K F σ (hid [p] H') ρ' W'
def OkV(o:Option (Res×Rho))(Q:VK):Prop:=match o with
 | some (.ok d nw,ρ')=>∀ v H' W',Fr W H H'->(∀ p∈W',p∈W)->eB K F σ H H' ρ' W' d nw v->Q v H'
 | some (.ex C,ρ')=>∀ H' W',Fr W H H'->(∀ p∈W',p∈W)->Rel K F σ H' ρ' W'->EX C σ H'
 | none=>False
def OkT(o:Option (so×Rho))(Q:Bool->Hp->Prop):Prop:=match o with
 | some (.ok b,ρ')=>∀ H' W',Fr W H H'->(∀ p∈W',p∈W)->Rel K F σ H' ρ' W'->Q b H'
 | some (.ex C,ρ')=>∀ H' W',Fr W H H'->(∀ p∈W',p∈W)->Rel K F σ H' ρ' W'->EX C σ H'
 | none=>False
end
def tV(K:A9)(EX:EXT)(f:SE):TE:=fun σ H Q=>∃ F ρ W,Rel K F σ H ρ W/\OkV K F EX σ H W (f ρ) Q
def tVT(K:A9)(EX:EXT)(f:ST):TT:=fun σ H Q=>∃ F ρ W,Rel K F σ H ρ W/\OkT K F EX σ H W (f ρ) Q
structure JE(X:Cx)(EX:EXT)(e:Expr)(f:SE):Prop where
 p:PE X e (tV X.K EX f)
structure JT(X:Cx)(EX:EXT)(e:Expr)(f:ST):Prop where
 p:PT X e (tVT X.K EX f)
structure JW(X:Cx)(EX:EXT)(e:Expr)(f:ST):Prop where
 p:PW X e (tVT X.K EX f)
inductive Arg where
 | ex (f:SE) | bor (i:Nat)
def tArg(K:A9)(EX:EXT):Arg->TE
 | .ex f=>tV K EX f
 | .bor i=>jc i
def tAs(K:A9)(EX:EXT):List Arg->TA
 | []=>sJ
 | a::as=>iu (tArg K EX a) (tAs K EX as)
structure JB(X:Cx)(EX:EXT)(e:Expr)(a:Arg):Prop where
 p:PE X e (tArg X.K EX a)
structure JA(X:Cx)(EX:EXT)(es:List Expr)(as:List Arg):Prop where
 p:PA X es (tAs X.K EX as)
def evA:List Arg->Rho->Option (mE×Rho)
 | [],ρ=>some (.ok [],ρ)
 | .ex f::as,ρ=>match f ρ with
  | some (.ok d _,ρ1)=>match evA as ρ1 with
   | some (.ok ds,ρ2)=>some (.ok (d::ds),ρ2)
   | some (.ex C,ρ2)=>some (.ex C,ρ2)
   | none=>none
  | some (.ex C,ρ1)=>some (.ex C,ρ1)
  | none=>none
 | .bor i::as,ρ=>match ρ[i]? with
  | some (some _)=>match evA as ρ with
   | some (.ok ds,ρ2)=>match ρ2[i]? with
    | some (some (d,_))=>some (.ok (d::ds),ρ2)
    | _=>none
   | some (.ex C,ρ2)=>some (.ex C,ρ2)
   | none=>none
  | _=>none
def fb(K:A9)(H Hh:Hp):D->V->Prop
 | .lst ds,v=>∃ p xs,v = .ref p/\H p=some (.lst xs)/\ag K Hh ds xs
 | .dK ks ds,v=>∃ p xs,v = .ref p/\H p=some (.dK (ks.zip xs))/\ks.length=xs.length/\ag K Hh ds xs
 | .dT ks ds,v=>∃ p xs,v = .ref p/\H p=some (.dT (ks.zip xs))/\ks.length=xs.length/\ag K Hh ds xs
 | d,v=>ay K Hh d v
def iK(K:A9)(H Hh:Hp):List D->List V->Prop
 | [],[]=>True
 | d::ds,x::xs=>fb K H Hh d x/\iK K H Hh ds xs
 | _,_=>False
section
variable{K:A9}{F:Fx}{EX:EXT}{σ:St}{H H' Hh Hh':Hp}{ρ ρ':Rho}{W W':List Addr}
theorem ay.b{d:D}{v:V}(r:ay K Hh d v)(s:af Hh H):fb K H Hh d v:=by
 cases d<;>first
  | exact r
  | (obtain ⟨p,xs,h1,h2,h3,h4⟩:=r;exact ⟨p,xs,h1,s _ _ h2,h3,h4⟩)
  | (obtain ⟨p,xs,h1,h2,h3⟩:=r;exact ⟨p,xs,h1,s _ _ h2,h3⟩)
theorem aG.b{p:Addr}{d:D}(h:aG K H Hh p d):fb K H Hh d (.ref p):=by
 cases d<;>first
  | exact h.elim
  | (obtain ⟨xs,h1,h2,h3⟩:=h;exact ⟨p,xs,rfl,h1,h2,h3⟩)
  | (obtain ⟨xs,h1,h2⟩:=h;exact ⟨p,xs,rfl,h1,h2⟩)
theorem fb.d{d:D}{v:V}(r:fb K H Hh d v)(s:af Hh H):ay K H d v:=by
 cases d<;>first
  | exact s.repD r
  | (obtain ⟨p,xs,h1,h2,h3,h4⟩:=r;exact ⟨p,xs,h1,h2,h3,s.repDs h4⟩)
  | (obtain ⟨p,xs,h1,h2,h3⟩:=r;exact ⟨p,xs,h1,h2,s.repDs h3⟩)
theorem pG.b{i:Nat}{d:D}{v:V}{m:Md}(h:pG K F H W i d v m):fb K H (hid (W++F.Z) H) d v:=by
 cases m with
 | fz=>exact ay.b h az
 | ow=>obtain ⟨p,rfl,_,h⟩:=h;exact h.b
 | io=>obtain ⟨p,rfl,_,h,_⟩:=h;exact h.b
theorem eB.plain{H0:Hp}{d:D}{nw:Bool}{v:V}(h:eB K F σ H0 H ρ W d nw v):ay K (hid (W++F.Z) H) d v/\Rel K F σ H ρ W:=by
 cases nw with
 | false=>exact h
 | true =>
  obtain ⟨p,rfl,_,hp,hO,R⟩:=h;refine ⟨hO.rep (aF hp) (aK (fun b hb=> .inl (yH _ hb)) fun b o _ e=>e),R.same az⟩
variable(K F EX) in
def OkAs(σ:St)(H:Hp)(W:List Addr)(o:Option (mE×Rho))(Q:List V->Hp->Prop):Prop:=match o with
 | some (.ok ds,ρ')=>∀ vs H' W',Fr W H H'->(∀ p∈W',p∈W)->Rel K F σ H' ρ' W'->iK K H' (hid (W'++F.Z) H') ds vs->Q vs H'
 | some (.ex C,ρ')=>∀ H' W',Fr W H H'->(∀ p∈W',p∈W)->Rel K F σ H' ρ' W'->EX C σ H'
 | none=>False
theorem lA:∀ (as:List Arg) {H:Hp} {ρ:Rho} {W:List Addr} {Q:List V->Hp->Prop},Rel K F σ H ρ W->OkAs K F EX σ H W (evA as ρ) Q->tAs K EX as σ H Q
 | [],H,ρ,W,Q,R,h=>h [] H W .refl (fun _ z=>z) R trivial
 | .ex f::as,H,ρ,W,Q,R,h=>by
  refine ⟨F,ρ,W,R,?_⟩;unfold evA at h
  revert h
  cases f ρ with
  | none=>exact fun h=>h
  | some r =>
   obtain ⟨r,ρ1⟩:=r
   cases r with
   | ex C=>exact fun h=>h
   | ok d nw =>
    intro h v H1 W1 fr sub post;obtain ⟨rd,R1⟩:=post.plain;refine lA as R1 ?_
    revert h
    dsimp only
    cases evA as ρ1 with
    | none=>exact fun h=>h
    | some q =>
     obtain ⟨q,ρ2⟩:=q
     cases q with
     | ex C=>exact fun h H2 W2 fr2 sub2 R2=>h H2 W2 (fr.trans fr2 fun p hp=> .inl (sub p hp)) (fun p hp=>sub p (sub2 p hp)) R2
     | ok ds =>
      intro h vs H2 W2 fr2 sub2 R2 reps;exact h (v::vs) H2 W2 (fr.trans fr2 fun p hp=> .inl (sub p hp)) (fun p hp=>sub p (sub2 p hp)) R2 ⟨ay.b ((fr2.hid fun p hp=> .inl (sub2 p hp)).repD rd) az,reps⟩
 | .bor i::as,H,ρ,W,Q,R,h=>by
  unfold evA at h
  revert h
  cases e:ρ[i]? with
  | none=>exact fun h=>h.elim
  | some z =>
   cases z with
   | none=>exact fun h=>h.elim
   | some dm =>
    obtain ⟨d0,m0⟩:=dm;obtain ⟨v,hv,_⟩:=R.slot i d0 m0 e;intro h;refine ⟨v,hv,lA as R ?_⟩
    revert h
    dsimp only
    cases evA as ρ with
    | none=>exact fun h=>h
    | some q =>
     obtain ⟨q,ρ2⟩:=q
     cases q with
     | ex C=>exact fun h=>h
     | ok ds =>
      dsimp only
      cases e2:ρ2[i]? with
      | none=>exact fun h=>h.elim
      | some z =>
       cases z with
       | none=>exact fun h=>h.elim
       | some dm =>
        obtain ⟨d,m⟩:=dm;intro h vs H2 W2 fr2 sub2 R2 reps;obtain ⟨v2,hv2,ok2⟩:=R2.slot i d m e2;rw [hv] at hv2;cases hv2;exact h (v::vs) H2 W2 fr2 sub2 R2 ⟨ok2.b,reps⟩
variable(K F EX) in
def OkFs(σ:St)(H:Hp)(W:List Addr)(o:Option (mE×Rho))(Q:List V->Hp->Prop):Prop:=match o with
 | some (.ok ds,ρ')=>∀ vs H' W',Fr W H H'->(∀ p∈W',p∈W)->Rel K F σ H' ρ' W'->ag K (hid (W'++F.Z) H') ds vs->Q vs H'
 | some (.ex C,ρ')=>∀ H' W',Fr W H H'->(∀ p∈W',p∈W)->Rel K F σ H' ρ' W'->EX C σ H'
 | none=>False
theorem lf:∀ (fs:List SE) {H:Hp} {ρ:Rho} {W:List Addr} {Q:List V->Hp->Prop},Rel K F σ H ρ W->OkFs K F EX σ H W (evA (fs.map Arg.ex) ρ) Q->tAs K EX (fs.map Arg.ex) σ H Q
 | [],H,ρ,W,Q,R,h=>h [] H W .refl (fun _ z=>z) R trivial
 | f::fs,H,ρ,W,Q,R,h=>by
  refine ⟨F,ρ,W,R,?_⟩;rw [yW] at h;unfold evA at h
  revert h
  cases f ρ with
  | none=>exact fun h=>h
  | some r =>
   obtain ⟨r,ρ1⟩:=r
   cases r with
   | ex C=>exact fun h=>h
   | ok d nw =>
    intro h v H1 W1 fr sub post;obtain ⟨rd,R1⟩:=post.plain;refine lf fs R1 ?_
    revert h
    dsimp only
    cases evA (fs.map Arg.ex) ρ1 with
    | none=>exact fun h=>h
    | some q =>
     obtain ⟨q,ρ2⟩:=q
     cases q with
     | ex C=>exact fun h H2 W2 fr2 sub2 R2=>h H2 W2 (fr.trans fr2 fun p hp=> .inl (sub p hp)) (fun p hp=>sub p (sub2 p hp)) R2
     | ok ds =>
      intro h vs H2 W2 fr2 sub2 R2 reps;exact h (v::vs) H2 W2 (fr.trans fr2 fun p hp=> .inl (sub p hp)) (fun p hp=>sub p (sub2 p hp)) R2 ⟨(fr2.hid fun p hp=> .inl (sub2 p hp)).repD rd,reps⟩
end
def fM(K:A9)(H H':Hp)(L:List Addr)(d:D):Bool->V->Prop
 | false,v=>ay K (hid L H') d v
 | true,v=>∃ p,v = .ref p/\H p=none/\aG K H' (hid (p::L) H') p d
def OpS(K:A9)(r:List V->Hp->VK->Prop)(g:List D->Option (D×Bool)):Prop :=
 ∀ vs ds H L Q d nw,(∀ p∈L,dC (H p))->iK K H (hid L H) ds vs->g ds=some (d,nw)->(∀ v H',af H H'->fM K H H' L d nw v->Q v H')->r vs H Q
def sOp(g:List D->Option (D×Bool))(as:List Arg):SE:=fun ρ=>match evA as ρ with
 | some (.ok ds,ρ')=>match g ds with
  | some (d,nw)=>some (.ok d nw,ρ')
  | none=>none
 | some (.ex C,ρ')=>some (.ex C,ρ')
 | none=>none
section
variable{K:A9}{F:Fx}{EX:EXT}{σ:St}{H H':Hp}{ρ ρ':Rho}{W W':List Addr}{Q:VK}
theorem fM.e{d:D}{nw:Bool}{v:V}(h:fM K H H' (W++F.Z) d nw v)(R:Rel K F σ H ρ W)(s:af H H'):eB K F σ H H' ρ W d nw v:=by
 cases nw with
 | false=>exact ⟨h,R.same s⟩
 | true =>
  obtain ⟨p,rfl,hp,hO⟩:=h;refine ⟨p,rfl,hp,R.fresh hp,hO,R.same fun b o e=> ?_⟩
  rw [aF (by intro z;have z:b=p:=by simpa using z
             subst z;rw [hp] at e;cases e)]
  exact s b o e
theorem eB.back{H0:Hp}{d:D}{nw:Bool}{v:V}(h:eB K F σ H H' ρ W d nw v)(fr:∀ b,H b=none->H0 b=none):eB K F σ H0 H' ρ W d nw v:=by
 cases nw with
 | false=>exact h
 | true=>obtain ⟨p,h1,h2,h3⟩:=h;exact ⟨p,h1,fr p h2,h3⟩
theorem bR{r:List V->Hp->VK->Prop}{g:List D->Option (D×Bool)}{as:List Arg}(hs:OpS K r g)(R:Rel K F σ H ρ W)(h:OkV K F EX σ H W (sOp g as ρ) Q):tAs K EX as σ H (fun vs H2=>r vs H2 Q):=by
 refine lA as R ?_;unfold sOp at h
 revert h
 cases evA as ρ with
 | none=>exact fun h=>h
 | some q =>
  obtain ⟨q,ρ2⟩:=q
  cases q with
  | ex C=>exact fun h=>h
  | ok ds =>
   dsimp only
   cases e:g ds with
   | none=>exact fun h=>h.elim
   | some z =>
    obtain ⟨d,nw⟩:=z;intro h vs H2 W2 fr2 sub2 R2 reps
    exact hs vs ds H2 (W2++F.Z) Q d nw R2.mt reps e fun v H3 s3 post=>h v H3 W2 (fr2.trans (s3.fr (W:=W2)) fun p hp=> .inl (sub2 p hp)) sub2 ((post.e R2 s3).back fr2.dom)
end
def r2(r:R2):List V->Hp->VK->Prop
 | [x,y],H,Q=>r x y H Q
 | _,_,_=>False
def r1(r:V->Hp->VK->Prop):List V->Hp->VK->Prop
 | [x],H,Q=>r x H Q
 | _,_,_=>False
section
variable{X:Cx}{EX:EXT}{a b e:Expr}{es:List Expr}{pos:Pos}{x y:Arg}{as:List Arg}
theorem ca_nil:JA X EX [] []:=⟨bX⟩
theorem xt(h:JB X EX e x)(t:JA X EX es as)(hs:starEach (e::es) X.env=(false,eval e X.env)::starEach es X.env:=by rfl):JA X EX (e::es) (x::as):=⟨av h.p t.p hs⟩
theorem cb_ex{f:SE}(h:JE X EX e f):JB X EX e (.ex f):=⟨h.p⟩
theorem cb_var{i:Nat}{n:Str}(hN:X.N[i]?=some n)(hv:Vis X.env.scope n)(hd:(n == ("__debug__" : Str))=false:=by decide)(hcd:(n == ("__classdict__" : Str))=false:=by decide):JB X EX (.Name n pos) (.bor i):=⟨dy hN hv hd hcd⟩
def sC(d:D):SE:=fun ρ=>some (.ok d false,ρ)
theorem mU{v:V}{d:D}(h:∀ H,ay X.K H d v){σ:St}{H:Hp}{Q:VK}(hw:tV X.K EX (sC d) σ H Q):tC v σ H Q:=by
 obtain ⟨F,ρ,W,R,h2⟩:=hw;exact h2 v H W .refl (fun _ z=>z) ⟨h _,R⟩
theorem c_int{i:Int}{j pos}:JE X EX (.Constant (.int i) j pos) (sC (.int i)):=⟨js.by fun _ _ _=>mU (d:=(.int i)) (v:=(.int i)) fun _=>rfl⟩
theorem c_bl{i:Bool}{j pos}:JE X EX (.Constant (.bool i) j pos) (sC (.bl i)):=⟨tZ.by fun _ _ _=>mU (d:=(.bl i)) (v:=(.bl i)) fun _=>rfl⟩
theorem c_non{j pos}:JE X EX (.Constant .none j pos) (sC .non):=⟨pe_non.by fun _ _ _=>mU (d:= .non) (v:= .non) fun _=>rfl⟩
theorem c_str{i:Str}{j pos}:JE X EX (.Constant (.str i) j pos) (sC (.str i)):=⟨da.by fun _ _ _=>mU (d:=(.str i)) (v:=(.str i)) fun _=>rfl⟩
theorem vg{n:Str}{i:Int}(hg:Gl X n)(hm:∃ t,X.mg n=some (.int i t))(hd:(n == ("__debug__" : Str))=false:=by decide):JE X EX (.Name n pos) (sC (.int i)):=by
 obtain ⟨t,hm⟩:=hm;exact ⟨(p8 (v:= .int i) hg hm ⟨t,rfl⟩ hd).by fun _ _ _=>mU (d:= .int i) (v:= .int i) fun _=>rfl⟩
def bn(i:Nat):SE:=fun ρ=>match ρ[i]? with
 | some (some (d,.fz))=>some (.ok d false,ρ)
 | some (some (d,.ow))=>some (.ok d false,ρ.set i (some (d,.fz)))
 | _=>none
theorem c_var{i:Nat}{n:Str}(hN:X.N[i]?=some n)(hv:Vis X.env.scope n)(hd:(n == ("__debug__" : Str))=false:=by decide)(hcd:(n == ("__classdict__" : Str))=false:=by decide):JE X EX (.Name n pos) (bn i):=by
 refine ⟨(dy hN hv hd hcd).by fun σ H Q hw=> ?_⟩;obtain ⟨F,ρ,W,R,h⟩:=hw;unfold bn at h
 revert h
 cases e:ρ[i]? with
 | none=>exact fun h=>h.elim
 | some z =>
  cases z with
  | none=>exact fun h=>h.elim
  | some z =>
   obtain ⟨d,m⟩:=z;obtain ⟨v,hv,ok⟩:=R.slot i d m e
   cases m with
   | io=>exact fun h=>h.elim
   | fz=>exact fun h=>⟨v,hv,h v H W .refl (fun _ z=>z) ⟨ok,R⟩⟩
   | ow =>
    intro h;obtain ⟨p,rfl,hp,hO⟩:=ok;obtain ⟨R',rp⟩:=R.freeze e hv;exact ⟨_,hv,h _ H _ .refl (fun q hq=>(zw.mp hq).1) ⟨rp,R'⟩⟩
theorem sf{op:Operator}{r:R2}{g:List D->Option (D×Bool)}(ho:OpR X (binaryOp op) r)(hs:OpS X.K (r2 r) g)(ha:JB X EX a x)(hb:JB X EX b y):JE X EX (.BinOp a op b pos) (sOp g [x,y]) :=
 ⟨(ye ho ha.p hb.p).by fun σ H Q ⟨F,ρ,W,R,h⟩=>bR hs R h⟩
theorem c_un{op:UnaryOp}{r:V->Hp->VK->Prop}{g:List D->Option (D×Bool)}(ho:UnR X (unaryOp op) r)(hs:OpS X.K (r1 r) g)(ha:JB X EX a x):JE X EX (.UnaryOp op a pos) (sOp g [x]) :=
 ⟨(yd ho ha.p).by fun σ H Q ⟨F,ρ,W,R,h⟩=>bR hs R h⟩
theorem yx{op:CmpOp}{r:R2}{g:List D->Option (D×Bool)}(ho:OpR X (compareOp op) r)(hs:OpS X.K (r2 r) g)(ha:JB X EX a x)(hb:JB X EX b y)(hm:behindInMarks op b=false):JE X EX (.Compare a [op] [b] pos) (sOp g [x,y]) :=
 ⟨(wo ho ha.p hb.p hm).by fun σ H Q ⟨F,ρ,W,R,h⟩=>bR hs R h⟩
theorem c_ix{r:R2}{g:List D->Option (D×Bool)}(ho:IxR X r)(hs:OpS X.K (r2 r) g)(ha:JB X EX a x)(hb:JB X EX b y)(hp:mF b:=by exact fun _ _=>rfl):JE X EX (.Subscript a b pos) (sOp g [x,y]) :=
 ⟨(yf ho ha.p hb.p hp).by fun σ H Q ⟨F,ρ,W,R,h⟩=>bR hs R h⟩
theorem gQ{id:String}{n:Str}{p:Pos}{r:List V->Hp->VK->Prop}{g:List D->Option (D×Bool)}(ho:aE X (.builtin id) r)(hs:OpS X.K r g)(hg:Gl X n)(hm:X.mg n=none)(hv:bootBuiltins n=some (.builtin id))(ha:JA X EX (e::es) as)(hn:n ≠ "__name__" := by decide)(hdb:(n == ("__debug__" : Str))=false:=by decide)
 (he:starEach (e::es) X.env=(false,eval e X.env)::starEach es X.env:=by rfl) (hpl:(backTo pos (starEach es X.env)).any (·.1)=false:=by rfl):JE X EX (.Call (.Name n p) (e::es) [] pos) (sOp g as) :=
 ⟨(gA ho hg hm hv ha.p hn hdb he hpl).by fun σ H Q ⟨F,ρ,W,R,h⟩=>bR hs R h⟩
theorem gP{T:String}{n:Str}{p:Pos}{r:List V->Hp->VK->Prop}{g:List D->Option (D×Bool)}(ho:aE X (.type T) r)(hs:OpS X.K r g)(hg:Gl X n)(hm:X.mg n=none)(hv:bootBuiltins n=some (.type T))(ha:JA X EX (e::es) as)(hn:n ≠ "__name__" := by decide)(hdb:(n == ("__debug__" : Str))=false:=by decide)
 (he:starEach (e::es) X.env=(false,eval e X.env)::starEach es X.env:=by rfl) (hpl:(backTo pos (starEach es X.env)).any (·.1)=false:=by rfl):JE X EX (.Call (.Name n p) (e::es) [] pos) (sOp g as) :=
 ⟨(qV ho hg hm hv ha.p hn hdb he hpl).by fun σ H Q ⟨F,ρ,W,R,h⟩=>bR hs R h⟩
def cn(fs:List SE):SE:=fun ρ=>match evA (fs.map Arg.ex) ρ with
 | some (.ok ds,ρ')=>some (.ok (.tup ds) false,ρ')
 | some (.ex C,ρ')=>some (.ex C,ρ')
 | none=>none
def bW(fs:List SE):SE:=fun ρ=>match evA (fs.map Arg.ex) ρ with
 | some (.ok ds,ρ')=>some (.ok (.lst ds) true,ρ')
 | some (.ex C,ρ')=>some (.ex C,ρ')
 | none=>none
inductive JF(X:Cx)(EX:EXT):List Expr->List SE->Prop where
 | nil:JF X EX [] []
 | cons {e:Expr} {es:List Expr} {f:SE} {fs:List SE} (h:JE X EX e f) (t:JF X EX es fs) (hs:starEach (e::es) X.env=(false,eval e X.env)::starEach es X.env:=by rfl):JF X EX (e::es) (f::fs)
theorem JF.p{fs:List SE}(h:JF X EX es fs):PA X es (tAs X.K EX (fs.map Arg.ex)):=by
 induction h with
 | nil=>exact bX
 | cons h t hs ih=>exact av h.p ih hs
theorem iY:∀ {fs:List SE} {ρ ρ':Rho} {ds:List D},evA (fs.map Arg.ex) ρ=some (.ok ds,ρ')->ds.length=fs.length
 | [],ρ,ρ',ds,h=>by
  have h:some (mE.ok [],ρ)=some (.ok ds,ρ'):=h;cases h;rfl
 | f::fs,ρ,ρ',ds,h=>by
  rw [yW] at h;unfold evA at h
  revert h
  cases f ρ with
  | none=>intro h;cases h
  | some r =>
   obtain ⟨r,ρ1⟩:=r
   cases r with
   | ex C=>intro h;cases h
   | ok d nw =>
    dsimp only
    cases e:evA (fs.map Arg.ex) ρ1 with
    | none=>intro h;cases h
    | some q =>
     obtain ⟨q,ρ2⟩:=q
     cases q with
     | ex C=>intro h;cases h
     | ok ds2=>intro h;cases h;rw [yM,yM,iY e]
theorem c_tup{fs:List SE}{x1}(h:JF X EX es fs)(hl:fs.length<=1000:=by decide):JE X EX (.Tuple es x1 pos) (cn fs) :=
 ⟨(pe_tup h.p).by fun σ H Q ⟨F,ρ,W,R,h⟩=>by
   refine lf fs R ?_;unfold cn at h
   revert h
   cases e:evA (fs.map Arg.ex) ρ with
   | none=>exact fun h=>h
   | some q =>
    obtain ⟨q,ρ2⟩:=q
    cases q with
    | ex C=>exact fun h=>h
    | ok ds =>
     intro h vs H2 W2 fr2 sub2 R2 reps
     have lv:vs.length<=1000:=by rw [<- reps.len,iY e];exact hl
     refine ⟨zT (cb lv),fun p hp=>h _ _ W2 (fr2.trans ((af.upd hp).fr (W:=W2)) fun p hp=> .inl (sub2 p hp)) sub2 ⟨⟨p,vs,rfl,?_,?_⟩,R2.same (af.upd hp)⟩⟩
     ·rw [aF (R2.fresh hp)];exact ai
     ·exact (aK (fun b hb=> .inl hb) fun b o _ e=>af.upd hp b o e:af (hid (W2++F.Z) H2) _).repDs reps⟩
theorem c_lst{fs:List SE}(h:JF X EX es fs)(hl:fs.length<=1000:=by decide):JE X EX (.List es pos) (bW fs) :=
 ⟨(lQ h.p).by fun σ H Q ⟨F,ρ,W,R,h⟩=>by
   refine lf fs R ?_;unfold bW at h
   revert h
   cases e:evA (fs.map Arg.ex) ρ with
   | none=>exact fun h=>h
   | some q =>
    obtain ⟨q,ρ2⟩:=q
    cases q with
    | ex C=>exact fun h=>h
    | ok ds =>
     intro h vs H2 W2 fr2 sub2 R2 reps
     have lv:vs.length<=1000:=by rw [<- reps.len,iY e];exact hl
     refine ⟨zT (cb lv),fun p hp=>h _ _ W2 (fr2.trans ((af.upd hp).fr (W:=W2)) fun p hp=> .inl (sub2 p hp)) sub2 ?_⟩;refine eB.back (fM.e (nw:=true) ⟨p,rfl,hp,vs,ai,?_⟩ R2 (af.upd hp)) fr2.dom
     exact (aK (fun b hb=>(yP.mp hb).elim (fun z=> .inr (by rw [z];exact hp)) .inl) fun b o _ e=>af.upd hp b o e:af (hid (W2++F.Z) H2) _).repDs reps⟩
end
section
variable{K:A9}{F:Fx}{EX:EXT}{σ:St}{H H1:Hp}{ρ ρ':Rho}{W W1:List Addr}{Q:VK}
theorem OkV.go{o:Option (Res×Rho)}(h:OkV K F EX σ H W o Q)(fr:Fr W H H1)(sub:∀ p∈W1,p∈W):OkV K F EX σ H1 W1 o Q:=by
 cases o with
 | none=>exact h
 | some r =>
  obtain ⟨r,ρ1⟩:=r
  cases r with
  | ex C=>exact fun H2 W2 f2 s2 R2=>h H2 W2 (fr.trans f2 fun p hp=> .inl (sub p hp)) (fun p hp=>sub p (s2 p hp)) R2
  | ok d nw=>exact fun v H2 W2 f2 s2 P2=>h v H2 W2 (fr.trans f2 fun p hp=> .inl (sub p hp)) (fun p hp=>sub p (s2 p hp)) (P2.back fr.dom)
theorem OkT.go{o:Option (so×Rho)}{Q:Bool->Hp->Prop}(h:OkT K F EX σ H W o Q)(fr:Fr W H H1)(sub:∀ p∈W1,p∈W):OkT K F EX σ H1 W1 o Q:=by
 cases o with
 | none=>exact h
 | some r =>
  obtain ⟨r,ρ1⟩:=r
  cases r with
  | ex C=>exact fun H2 W2 f2 s2 R2=>h H2 W2 (fr.trans f2 fun p hp=> .inl (sub p hp)) (fun p hp=>sub p (s2 p hp)) R2
  | ok d=>exact fun H2 W2 f2 s2 P2=>h H2 W2 (fr.trans f2 fun p hp=> .inl (sub p hp)) (fun p hp=>sub p (s2 p hp)) P2
end
def ba(g:List D->Option (D×Bool))(as:List Arg):ST:=fun ρ=>match sOp g as ρ with
 | some (.ok (.bl b) _,ρ')=>some (.ok b,ρ')
 | some (.ok _ _,_)=>none
 | some (.ex C,ρ')=>some (.ex C,ρ')
 | none=>none
theorem bl_of {K:A9} {F:Fx} {EX:EXT} {σ:St} {H:Hp} {ρ:Rho} {W:List Addr} {f:SE} {Q:Bool->Hp->Prop} (h:OkT K F EX σ H W (match f ρ with
 | some (.ok (.bl b) _,ρ')=>some (.ok b,ρ')
 | some (.ok _ _,_)=>none
 | some (.ex C,ρ')=>some (.ex C,ρ')
 | none=>none) Q):OkV K F EX σ H W (f ρ) fun x H'=>∃ k,x = .bl k/\Q k H':=by
 revert h
 cases f ρ with
 | none=>exact fun h=>h
 | some r =>
  obtain ⟨r,ρ1⟩:=r
  cases r with
  | ex C=>exact fun h=>h
  | ok d nw =>
   cases d<;>first
    | exact fun h=>h.elim
    | exact fun h v H' W' fr sub post=>⟨_,post.plain.1,h H' W' fr sub post.plain.2⟩
def sBl(f:SE):ST:=fun ρ=>match f ρ with
 | some (.ok (.bl b) _,ρ')=>some (.ok b,ρ')
 | some (.ok _ _,_)=>none
 | some (.ex C,ρ')=>some (.ex C,ρ')
 | none=>none
def jb:D->Option Bool
 | .non=>some false
 | .bl b=>some b
 | .int i=>some (i != 0)
 | .lst ds=>some (!ds.isEmpty)
 | .tup ds=>some (!ds.isEmpty)
 | .dK ks _=>some (!ks.isEmpty)
 | _=>none
def cp(a:Arg):ST:=fun ρ=>match evA [a] ρ with
 | some (.ok [d],ρ')=>match jb d with
  | some b=>some (.ok b,ρ')
  | none=>none
 | some (.ok _,_)=>none
 | some (.ex C,ρ')=>some (.ex C,ρ')
 | none=>none
def hG(f g:ST):ST:=fun ρ=>match f ρ with
 | some (.ok true,ρ1)=>g ρ1
 | some (.ok false,ρ1)=>some (.ok false,ρ1)
 | some (.ex C,ρ')=>some (.ex C,ρ')
 | none=>none
def sOr(f g:ST):ST:=fun ρ=>match f ρ with
 | some (.ok false,ρ1)=>g ρ1
 | some (.ok true,ρ1)=>some (.ok true,ρ1)
 | some (.ex C,ρ')=>some (.ex C,ρ')
 | none=>none
def cq(f:ST):ST:=fun ρ=>match f ρ with
 | some (.ok b,ρ1)=>some (.ok (!b),ρ1)
 | some (.ex C,ρ')=>some (.ex C,ρ')
 | none=>none
def sIf(c:ST)(f g:SE):SE:=fun ρ=>match c ρ with
 | some (.ok true,ρ1)=>f ρ1
 | some (.ok false,ρ1)=>g ρ1
 | some (.ex C,ρ')=>some (.ex C,ρ')
 | none=>none
def cu(f g:SE):SE:=fun ρ=>match f ρ with
 | some (.ok (.bl true) _,ρ1)=>g ρ1
 | some (.ok (.bl false) _,ρ1)=>some (.ok (.bl false) false,ρ1)
 | some (.ok _ _,_)=>none
 | some (.ex C,ρ')=>some (.ex C,ρ')
 | none=>none
def qK(f g:SE):SE:=fun ρ=>match f ρ with
 | some (.ok (.bl false) _,ρ1)=>g ρ1
 | some (.ok (.bl true) _,ρ1)=>some (.ok (.bl true) false,ρ1)
 | some (.ok _ _,_)=>none
 | some (.ex C,ρ')=>some (.ex C,ρ')
 | none=>none
def eh(f:SE):SE:=fun ρ=>match f ρ with
 | some (.ok (.bl b) _,ρ1)=>some (.ok (.bl (!b)) false,ρ1)
 | some (.ok _ _,_)=>none
 | some (.ex C,ρ')=>some (.ex C,ρ')
 | none=>none
section
variable{X:Cx}{EX:EXT}{a b c e:Expr}{rest es:List Expr}{pos:Pos}{x y z:Arg}{as:List Arg}
theorem gE{op:CmpOp}{r:R2}{g:List D->Option (D×Bool)}(ho:OpR X (compareOp op) r)(hs:OpS X.K (r2 r) g)(ha:JB X EX a x)(hb:JB X EX b y)(hm:behindInMarks op b=false):JT X EX (.Compare a [op] [b] pos) (ba g [x,y]) :=
 ⟨(p5 ho ha.p hb.p hm).by fun σ H Q ⟨F,ρ,W,R,h⟩=>bR hs R (bl_of h)⟩
theorem tru_of{K:A9}{H Hh:Hp}{d:D}{v:V}{k:Bool}(r:fb K H Hh d v)(s:af Hh H)(e:jb d=some k):xE K v H k:=by
 cases d<;>simp only [jb] at e<;>first
  | cases e;done
  | (cases e;cases r;first | rfl | trivial)
  | skip
 ·obtain ⟨p,xs,rfl,h1,h2⟩:=r
  cases e;exact .inr (.inl ⟨xs,.inl (.inl (s _ _ h1)),by have:=h2.len;cases xs<;>cases ‹List D› <;> simp_all⟩)
 ·obtain ⟨p,xs,rfl,h1,h2⟩:=r
  cases e;exact .inl ⟨xs,.inl (.inl h1),by have:=h2.len;cases xs<;>cases ‹List D› <;> simp_all⟩
 ·obtain ⟨p,xs,rfl,h1,h2,h3⟩:=r
  cases e;refine .inr (.inr ⟨_,h1,?_⟩);rename_i ks vs;cases ks<;>cases xs<;>simp_all
theorem k_tru(ha:JB X EX e x)(he:∀ whole,isTrue e X.env whole=(do let v <- whole;standAt e.pos;holding [v] (truthy v)):=by intro _;rfl):JT X EX e (cp x) :=
 ⟨(tH ha.p he).by fun σ H Q ⟨F,ρ,W,R,h⟩=>by
   have z:tAs X.K EX [x] σ H (fun vs H2=>match vs with | [v]=>∃ k,xE X.K v H2 k/\Q k H2 | _=>False):=by
    refine lA [x] R ?_;unfold cp at h
    revert h
    cases evA [x] ρ with
    | none=>exact fun h=>h
    | some q =>
     obtain ⟨q,ρ2⟩:=q
     cases q with
     | ex C=>exact fun h=>h
     | ok ds =>
      match ds with
      | []=>exact fun h=>h.elim
      | _::_::_=>exact fun h=>h.elim
      | [d] =>
       dsimp only
       cases e:jb d with
       | none=>exact fun h=>h.elim
       | some k =>
        intro h vs H2 W2 fr2 sub2 R2 reps
        match vs,reps with
        | [v],reps=>exact ⟨k,tru_of reps.1 az e,h H2 W2 fr2 sub2 R2⟩
   exact z⟩
theorem JW.t{f:ST}(h:JW X EX e f):JT X EX e f:=⟨h.p.pt⟩
theorem w_and1{f:ST}(h:JT X EX a f):JW X EX (.BoolOp .And [a] pos) f:=⟨wa h.p⟩
theorem w_or1{f:ST}(h:JT X EX a f):JW X EX (.BoolOp .Or [a] pos) f:=⟨tF h.p⟩
theorem w_and{f g:ST}(ha:JT X EX a f)(hb:JW X EX (.BoolOp .And (b::rest) pos) g):JW X EX (.BoolOp .And (a::b::rest) pos) (hG f g) :=
 ⟨fun wh pins s σ H Q I ⟨F,ρ,W,R,h⟩=>pw_and ha.p hb.p wh pins s σ H Q I ⟨F,ρ,W,R,by
  unfold hG at h
  revert h
  cases f ρ with
  | none=>exact fun h=>h
  | some q =>
   obtain ⟨q,ρ2⟩:=q
   cases q with
   | ex C=>exact fun h=>h
   | ok k =>
    cases k with
    | true=>exact fun h H2 W2 fr2 sub2 R2=>⟨F,ρ2,W2,R2,OkT.go h fr2 sub2⟩
    | false=>exact fun h=>h⟩⟩
theorem w_or{f g:ST}(ha:JT X EX a f)(hb:JW X EX (.BoolOp .Or (b::rest) pos) g):JW X EX (.BoolOp .Or (a::b::rest) pos) (sOr f g) :=
 ⟨fun wh pins s σ H Q I ⟨F,ρ,W,R,h⟩=>ya ha.p hb.p wh pins s σ H Q I ⟨F,ρ,W,R,by
  unfold sOr at h
  revert h
  cases f ρ with
  | none=>exact fun h=>h
  | some q =>
   obtain ⟨q,ρ2⟩:=q
   cases q with
   | ex C=>exact fun h=>h
   | ok k =>
    cases k with
    | false=>exact fun h H2 W2 fr2 sub2 R2=>⟨F,ρ2,W2,R2,OkT.go h fr2 sub2⟩
    | true=>exact fun h=>h⟩⟩
theorem k_not{f:ST}(h:JT X EX a f):JT X EX (.UnaryOp .Not a pos) (cq f) :=
 ⟨(tJ h.p).by fun σ H Q ⟨F,ρ,W,R,h⟩=>⟨F,ρ,W,R,by
   unfold cq at h
   revert h
   cases f ρ with
   | none=>exact fun h=>h
   | some q =>
    obtain ⟨q,ρ2⟩:=q
    cases q with
    | ex C=>exact fun h=>h
    | ok k=>exact fun h=>h⟩⟩
theorem yu{op}{f:SE}(h:JE X EX a f):JE X EX (.BoolOp op [a] pos) f:=⟨pe_one h.p⟩
theorem yy{f g:SE}(ha:JE X EX a f)(hb:JE X EX (.BoolOp .And (b::rest) pos) g):JE X EX (.BoolOp .And (a::b::rest) pos) (cu f g) :=
 ⟨(pe_and ha.p hb.p).by fun σ H Q ⟨F,ρ,W,R,h⟩=>⟨F,ρ,W,R,by
   unfold cu at h
   revert h
   cases f ρ with
   | none=>exact fun h=>h
   | some q =>
    obtain ⟨q,ρ2⟩:=q
    cases q with
    | ex C=>exact fun h=>h
    | ok d nw =>
     cases d<;>first | exact fun h=>h.elim | skip
     rename_i k
     cases k with
     | true=>exact fun h v H2 W2 fr2 sub2 P2=>⟨true,P2.plain.1,F,ρ2,W2,P2.plain.2,OkV.go h fr2 sub2⟩
     | false=>exact fun h v H2 W2 fr2 sub2 P2=>⟨false,P2.plain.1,h (.bl false) H2 W2 fr2 sub2 ⟨rfl,P2.plain.2⟩⟩⟩⟩
theorem yw{f:SE}(ha:JE X EX a f):JE X EX (.UnaryOp .Not a pos) (eh f) :=
 ⟨(pe_not ha.p).by fun σ H Q ⟨F,ρ,W,R,h⟩=>⟨F,ρ,W,R,by
   unfold eh at h
   revert h
   cases f ρ with
   | none=>exact fun h=>h
   | some q =>
    obtain ⟨q,ρ2⟩:=q
    cases q with
    | ex C=>exact fun h=>h
    | ok d nw =>
     cases d<;>first | exact fun h=>h.elim | skip
     exact fun h v H2 W2 fr2 sub2 P2=>⟨_,P2.plain.1,h _ H2 W2 fr2 sub2 ⟨rfl,P2.plain.2⟩⟩⟩⟩
abbrev RSl:=V->Option Int->Option Int->Hp->VK->Prop
def rS00(r:RSl):List V->Hp->VK->Prop
 | [x],H,Q=>r x none none H Q
 | _,_,_=>False
def rS10(r:RSl):List V->Hp->VK->Prop
 | [x,y],H,Q=>∃ i,y = .int i/\r x (some i) none H Q
 | _,_,_=>False
def rS01(r:RSl):List V->Hp->VK->Prop
 | [x,y],H,Q=>∃ i,y = .int i/\r x none (some i) H Q
 | _,_,_=>False
def rS11(r:RSl)(i j:Int):List V->Hp->VK->Prop
 | [x],H,Q=>∃ i',V.int i = .int i'/\∃ j',V.int j = .int j'/\r x (some i') (some j') H Q
 | _,_,_=>False
theorem c_sl10{p2:Pos}{r:RSl}{g:List D->Option (D×Bool)}(ho:SlR X r)(hs:OpS X.K (rS10 r) g)(ha:JB X EX a x)(hb:JB X EX b y):JE X EX (.Subscript a (.Slice (some b) none none p2) pos) (sOp g [x,y]) :=
 ⟨(jr ho ha.p (gz hb.p) p7).by fun σ H Q ⟨F,ρ,W,R,h⟩=>bR hs R h⟩
theorem c_sl01{p2:Pos}{r:RSl}{g:List D->Option (D×Bool)}(ho:SlR X r)(hs:OpS X.K (rS01 r) g)(ha:JB X EX a x)(hb:JB X EX b y):JE X EX (.Subscript a (.Slice none (some b) none p2) pos) (sOp g [x,y]) :=
 ⟨(jr ho ha.p p7 (gz hb.p)).by fun σ H Q ⟨F,ρ,W,R,h⟩=>bR hs R h⟩
theorem c_sl11{p2 p3 p4:Pos}{r:RSl}{g:List D->Option (D×Bool)}{i j:Int}{k1 k2}(ho:SlR X r)(hs:OpS X.K (rS11 r i j) g)(ha:JB X EX a x):JE X EX (.Subscript a (.Slice (some (.Constant (.int i) k1 p3)) (some (.Constant (.int j) k2 p4)) none p2) pos) (sOp g [x]) :=
 ⟨(jr ho ha.p (gz js) (gz js)).by fun σ H Q ⟨F,ρ,W,R,h⟩=>bR hs R h⟩
end
theorem PS.by{X:Cx}{e:Stmt}{t t':TS}(h:PS X e t)(hi:∀ D σ H,t' D σ H->t D σ H):PS X e t':=fun pins s σ H D I hw=>h pins s σ H D I (hi D σ H hw)
theorem PSs.by{X:Cx}{e:List Stmt}{t t':TS}(h:PSs X e t)(hi:∀ D σ H,t' D σ H->t D σ H):PSs X e t':=fun pins s σ H D I hw=>h pins s σ H D I (hi D σ H hw)
inductive Out where
 | nx | rt (d:D) (nw:Bool) | ex (C:Lb) | bk | ct
abbrev SS:=Rho->Option (Out×Rho)
section
variable(K:A9)(F:Fx)(EX:EXT)(σ:St)(H:Hp)(W:List Addr)
def oB(σ':St)(H':Hp)(ρ':Rho)(W':List Addr)(d:D):Bool->V->Prop
 | false,v=>ay K (hid (W'++F.Z) H') d v/\Rel K F σ' H' ρ' W'
 | true,v=>∃ p,v = .ref p/\(p∈W\/H p=none)/\p∉W'++F.Z/\aG K H' (hid (p::(W'++F.Z)) H') p d/\Rel K F σ' (hid [p] H') ρ' W'
def OkS(o:Option (Out×Rho))(D:kB):Prop:=match o with
 | some (.nx,ρ')=>∀ σ' H' W',Fr W H H'->(∀ p∈W',p∈W\/H p=none)->Rel K F σ' H' ρ' W'->D.nx σ' H'
 | some (.bk,ρ')=>∀ σ' H' W',Fr W H H'->(∀ p∈W',p∈W\/H p=none)->Rel K F σ' H' ρ' W'->D.bk σ' H'
 | some (.ct,ρ')=>∀ σ' H' W',Fr W H H'->(∀ p∈W',p∈W\/H p=none)->Rel K F σ' H' ρ' W'->D.ct σ' H'
 | some (.ex C,ρ')=>∀ σ' H' W',Fr W H H'->(∀ p∈W',p∈W\/H p=none)->Rel K F σ' H' ρ' W'->EX C σ' H'
 | some (.rt d nw,ρ')=>∀ σ' v H' W',Fr W H H'->(∀ p∈W',p∈W\/H p=none)->oB K F H W σ' H' ρ' W' d nw v->D.rt v H'
 | none=>False
end
def tVS(K:A9)(EX:EXT)(f:SS):TS:=fun D σ H=>∃ F ρ W,Rel K F σ H ρ W/\OkS K F EX H W (f ρ) D
structure JS(X:Cx)(EX:EXT)(e:Stmt)(f:SS):Prop where
 p:PS X e (tVS X.K EX f)
structure JSs(X:Cx)(EX:EXT)(e:List Stmt)(f:SS):Prop where
 p:PSs X e (tVS X.K EX f)
section
variable{K:A9}{F:Fx}{EX:EXT}{σ σ1:St}{H H1:Hp}{ρ ρ':Rho}{W W1:List Addr}{D:kB}
theorem oB.back{σ':St}{H':Hp}{ρ':Rho}{W':List Addr}{d:L2.D}{nw:Bool}{v:V}(h:oB K F H1 W1 σ' H' ρ' W' d nw v)(fr:∀ b,H1 b=none->H b=none)(sub:∀ p∈W1,p∈W\/H p=none):oB K F H W σ' H' ρ' W' d nw v:=by
 cases nw with
 | false=>exact h
 | true=>obtain ⟨p,h1,h2,h3⟩:=h;exact ⟨p,h1,h2.elim (sub p) fun z=> .inr (fr p z),h3⟩
theorem OkS.go{o:Option (Out×Rho)}(h:OkS K F EX H W o D)(fr:Fr W H H1)(sub:∀ p∈W1,p∈W\/H p=none):OkS K F EX H1 W1 o D:=by
 have sub2:∀ {W2:List Addr},(∀ p∈W2,p∈W1\/H1 p=none)->∀ p∈W2,p∈W\/H p=none:=fun {W2} s2 p hp=>(s2 p hp).elim (sub p) fun z=> .inr (fr.dom p z)
 cases o with
 | none=>exact h
 | some r =>
  obtain ⟨r,ρ1⟩:=r
  cases r with
  | ex C=>exact fun σ2 H2 W2 f2 s2 R2=>h σ2 H2 W2 (fr.trans f2 sub) (sub2 s2) R2
  | nx=>exact fun σ2 H2 W2 f2 s2 R2=>h σ2 H2 W2 (fr.trans f2 sub) (sub2 s2) R2
  | bk=>exact fun σ2 H2 W2 f2 s2 R2=>h σ2 H2 W2 (fr.trans f2 sub) (sub2 s2) R2
  | ct=>exact fun σ2 H2 W2 f2 s2 R2=>h σ2 H2 W2 (fr.trans f2 sub) (sub2 s2) R2
  | rt d nw=>exact fun σ2 v H2 W2 f2 s2 P2=>h σ2 v H2 W2 (fr.trans f2 sub) (sub2 s2) (P2.back fr.dom sub)
theorem eB.r{H':Hp}{ρ':Rho}{W':List Addr}{d:L2.D}{nw:Bool}{v:V}(h:eB K F σ H H' ρ' W' d nw v):oB K F H W σ H' ρ' W' d nw v:=by
 cases nw with
 | false=>exact h
 | true=>obtain ⟨p,h1,h2,h3⟩:=h;exact ⟨p,h1,.inr h2,h3⟩
end
def bV:SS:=fun ρ=>some (.nx,ρ)
def aB(f g:SS):SS:=fun ρ=>match f ρ with
 | some (.nx,ρ1)=>g ρ1
 | r=>r
def aZ(i:Nat)(f:SE):SS:=fun ρ=>match f ρ with
 | some (.ok d nw,ρ')=>match ρ'[i]? with
  | some _=>some (.nx,ρ'.set i (some (d,if nw then .ow else .fz)))
  | none=>none
 | some (.ex C,ρ')=>some (.ex C,ρ')
 | none=>none
def bh(f:SE):SS:=fun ρ=>match f ρ with
 | some (.ok d nw,ρ')=>some (.rt d nw,ρ')
 | some (.ex C,ρ')=>some (.ex C,ρ')
 | none=>none
def kF:SS:=fun ρ=>some (.rt .non false,ρ)
def cQ(f:SE):SS:=fun ρ=>match f ρ with
 | some (.ok _ _,ρ')=>some (.nx,ρ')
 | some (.ex C,ρ')=>some (.ex C,ρ')
 | none=>none
def bB(c:ST)(f g:SS):SS:=fun ρ=>match c ρ with
 | some (.ok true,ρ1)=>f ρ1
 | some (.ok false,ρ1)=>g ρ1
 | some (.ex C,ρ')=>some (.ex C,ρ')
 | none=>none
def cF(i:Nat):SS:=fun ρ=>match ρ[i]? with
 | some (some (d,.fz))=>some (.rt d false,ρ)
 | some (some (d,.ow))=>some (.rt d true,ρ.set i none)
 | _=>none
theorem Rel.move{K:A9}{F:Fx}{σ:St}{H:Hp}{ρ:Rho}{W:List Addr}(R:Rel K F σ H ρ W){i:Nat}{d:D}{p:Addr}(h:ρ[i]?=some (some (d,.ow)))(hp:σ[i]?=some (some (.ref p))) :
 Rel K F σ (hid [p] H) (ρ.set i none) (W.filter fun a=>decide (a≠p))/\p∈W/\p∉(W.filter fun a=>decide (a≠p))++F.Z/\aG K H (hid (p::((W.filter fun a=>decide (a≠p))++F.Z)) H) p d:=by
 obtain ⟨v,hv,q,rfl,hq,hO⟩:=R.slot i d .ow h;rw [hp] at hv;cases hv
 have sub:∀ b,b∈W.filter (fun a=>decide (a≠p))->b∈W/\b≠p:=fun b hb=>by
  have:=zw.mp hb;exact ⟨this.1,yS this.2⟩
 have pn:p∉(W.filter fun a=>decide (a≠p))++F.Z:=fun z=>by
  rcases zg.mp z with q | q
  ·exact (sub p q).2 rfl
  ·exact R.wz p hq q
 have sh:af (hid (W++F.Z) H) (hid ((W.filter fun a=>decide (a≠p))++F.Z) (hid [p] H)):=fun b o e=>by
  obtain ⟨h1,h2⟩:=ao e
  have bp:b≠p:=fun z=>h1 (yI _ (z ▸ hq))
  rw [aF (fun z=>h1 (by
   rcases zg.mp z with q | q
   ·exact yI _ (sub b q).1
   ·exact yK _ q)),aF (by simpa using bp)]
  exact h2
 have sh2:af (hid (W++F.Z) H) (hid (p::((W.filter fun a=>decide (a≠p))++F.Z)) H):=fun b o e=>by
  obtain ⟨h1,h2⟩:=ao e
  have bp:b≠p:=fun z=>h1 (yI _ (z ▸ hq))
  rw [aF (fun z=>by
   rcases yP.mp z with q | q
   ·exact bp q
   ·rcases zg.mp q with q | q
    ·exact h1 (yI _ (sub b q).1)
    ·exact h1 (yK _ q))]
  exact h2
 have neq:∀ r,r≠p->hid [p] H r=H r:=fun r hr=>aF (by simpa using hr)
 refine ⟨⟨fun j e m hj=> ?_,fun j k e f m n r h1 h2 h3 h4 h5 h6=> ?_,fun r hr=>R.wz r (sub r hr).1,fun r hr=> ?_,by rw [zz];exact R.len⟩,hq,pn,hO.at rfl sh2⟩
 ·rcases aQ hj with ⟨rfl,e1⟩ | ⟨ne,e1⟩
  ·cases e1
  ·obtain ⟨v,g1,g2⟩:=R.slot j e m e1
   refine ⟨v,g1,?_⟩
   have other:∀ r,v = .ref r->m ≠ .fz->r≠p:=fun r er hm z=>by
    subst er z;exact ne (R.apart j i _ _ _ _ _ e1 hm h (by decide) g1 hp)
   cases m with
   | fz=>exact sh.repD g2
   | ow=>obtain ⟨r,e2,e3,e4⟩:=g2;exact ⟨r,e2,zw.mpr ⟨e3,yV (other r e2 (by decide))⟩,e4.at (neq r (other r e2 (by decide))) sh⟩
   | io=>obtain ⟨r,e2,e3,e4,e5⟩:=g2;exact ⟨r,e2,zw.mpr ⟨e3,yV (other r e2 (by decide))⟩,e4.at (neq r (other r e2 (by decide))) sh,e5⟩
 ·rcases aQ h1 with ⟨rfl,z⟩ | ⟨_,z⟩
  ·cases z
  ·rcases aQ h3 with ⟨rfl,z'⟩ | ⟨_,z'⟩
   ·cases z'
   ·exact R.apart j k _ _ _ _ _ z h2 z' h4 h5 h6
 ·have rp:r≠p:=fun z=>by subst z;exact pn hr
  rw [neq r rp]
  rcases zg.mp hr with q | q
  ·exact R.mt r (yI _ (sub r q).1)
  ·exact R.mt r (yK _ q)
inductive Tg where
 | nm (i:Nat) | tp (ts:List Tg)
mutual
def bi:Tg->D->Rho->Option Rho
 | .nm i,d,ρ=>match ρ[i]? with
  | some _=>some (ρ.set i (some (d,.fz)))
  | none=>none
 | .tp ts,.tup ds,ρ=>cg ts ds ρ
 | .tp ts,.ktup ds,ρ=>cg ts ds ρ
 | .tp _,_,_=>none
def cg:List Tg->List D->Rho->Option Rho
 | [],[],ρ=>some ρ
 | t::ts,d::ds,ρ=>match bi t d ρ with
  | some ρ1=>cg ts ds ρ1
  | none=>none
 | _,_,_=>none
end
mutual
def gT(K:A9):Tg->TG
 | .nm i=>qp i
 | .tp ts=>gTup K ts.length (gTs K ts)
def gTs(K:A9):List Tg->TGs
 | []=>gNil
 | t::ts=>yt (gT K t) (gTs K ts)
end
mutual
def Tg.ge(n:Nat):Tg->Bool
 | .nm i=>decide (n<=i)
 | .tp ts=>Tg.geL n ts
def Tg.geL(n:Nat):List Tg->Bool
 | []=>true
 | t::ts=>Tg.ge n t&&Tg.geL n ts
end
section
variable{K:A9}{F:Fx}{EX:EXT}{H:Hp}{W:List Addr}{Q:St->Hp->Prop}{n:Nat}
theorem du{H:Hp}{p:Addr}{xs:List V}(h:SqT K (fun _=>none) p xs):SqT K H p xs:=by
 rcases h with (h | ⟨o,h⟩) | h
 ·cases h
 ·cases h
 ·exact .inr h
theorem lx:∀ {ts:List Tg} {ds:List D} {ρ ρ':Rho},cg ts ds ρ=some ρ'->ds.length=ts.length
 | [],[],_,_,_=>rfl
 | [],_::_,_,_,h=>by unfold cg at h;cases h
 | _::_,[],_,_,h=>by unfold cg at h;cases h
 | t::ts,d::ds,ρ,ρ',h=>by
  unfold cg at h
  cases e:bi t d ρ with
  | none=>rw [e] at h;cases h
  | some ρ1=>rw [e] at h;rw [yM,yM,lx h]
mutual
theorem qo:∀ (T:Tg) {d:D} {v:V} {σ:St} {ρ ρ':Rho} {Q:St->Hp->Prop},Rel K F σ H ρ W->ay K (hid (W++F.Z) H) d v->bi T d ρ=some ρ'->(∀ σ',(Tg.ge n T=true->σ'.take n=σ.take n)->Rel K F σ' H ρ' W->Q σ' H)->gT K T v σ H Q
 | .nm i,d,v,σ,ρ,ρ',Q,R,r,e,q=>by
  unfold bi at e;unfold gT
  cases h:ρ[i]? with
  | none=>rw [h] at e;cases e
  | some z =>
   rw [h] at e;cases e
   have hi:i < σ.length:=by rw [R.len];exact (yR.mp h).1
   refine q _ (fun hg=> ?_) (R.put hi r);unfold Tg.ge at hg;exact List.take_set_of_le (yS hg)
 | .tp ts,d,v,σ,ρ,ρ',Q,R,r,e,q=>by
  unfold gT
  have two:∀ ds p xs,v = .ref p->SqT K H p xs->ag K (hid (W++F.Z) H) ds xs->cg ts ds ρ=some ρ'->gTup K ts.length (gTs K ts) v σ H Q:=fun ds p xs e1 e2 e3 e4 =>
   ⟨p,xs,e1,e2,by rw [<- e3.len];exact lx e4,uG ts R e3 e4 fun σ' h1 h2=>q σ' (fun hg=>h1 (by unfold Tg.ge at hg;exact hg)) h2⟩
  cases d<;>first
   | (unfold bi at e;cases e;done)
   | (obtain ⟨p,xs,e1,e2,e3⟩:=r;unfold bi at e;exact two _ p xs e1 (.inl (.inl (ao e2).2)) e3 e)
   | (obtain ⟨p,xs,e1,e2,e3⟩:=r;unfold bi at e;exact two _ p xs e1 (du e2) e3 e)
theorem uG:∀ (ts:List Tg) {ds:List D} {vs:List V} {σ:St} {ρ ρ':Rho} {Q:St->Hp->Prop},Rel K F σ H ρ W->ag K (hid (W++F.Z) H) ds vs->cg ts ds ρ=some ρ'->(∀ σ',(Tg.geL n ts=true->σ'.take n=σ.take n)->Rel K F σ' H ρ' W->Q σ' H)->gTs K ts vs σ H Q
 | [],ds,vs,σ,ρ,ρ',Q,R,r,e,q=>by
  unfold gTs
  cases ds with
  | cons _ _=>unfold cg at e;cases e
  | nil =>
   unfold cg at e;cases e
   cases vs with
   | cons _ _=>exact r.elim
   | nil=>exact ⟨rfl,q σ (fun _=>rfl) R⟩
 | t::ts,ds,vs,σ,ρ,ρ',Q,R,r,e,q=>by
  unfold gTs
  cases ds with
  | nil=>unfold cg at e;cases e
  | cons d ds =>
   cases vs with
   | nil=>exact r.elim
   | cons v vs =>
    unfold cg at e
    cases h:bi t d ρ with
    | none=>rw [h] at e;cases e
    | some ρ1 =>
     rw [h] at e;refine ⟨v,vs,rfl,qo t R r.1 h fun σ1 h1 R1=>uG ts R1 r.2 e fun σ2 h2 R2=>q σ2 (fun hg=> ?_) R2⟩;unfold Tg.geL at hg;have:=(yY _ _).mp hg;exact (h2 this.2).trans (h1 this.1)
end
end
structure JG(X:Cx)(e:Expr)(T:Tg):Prop where
 p:PG X e (gT X.K T)
structure JGs(X:Cx)(es:List Expr)(ts:List Tg):Prop where
 p:PGs X es (gTs X.K ts)
def qM(T:Tg)(f:SE):SS:=fun ρ=>match f ρ with
 | some (.ok d _,ρ')=>match bi T d ρ' with
  | some ρ2=>some (.nx,ρ2)
  | none=>none
 | some (.ex C,ρ')=>some (.ex C,ρ')
 | none=>none
def qL(i:Nat)(op:Int->Int->Int)(f:SE):SS:=fun ρ=>match ρ[i]? with
 | some (some (.int a,.fz))=>match f ρ with
  | some (.ok (.int b) _,ρ')=>match ρ'[i]? with
   | some _=>some (.nx,ρ'.set i (some (.int (op a b),.fz)))
   | none=>none
  | some (.ok _ _,_)=>none
  | some (.ex C,ρ')=>some (.ex C,ρ')
  | none=>none
 | _=>none
section
variable{X:Cx}{EX:EXT}{a b c e:Expr}{es:List Expr}{st:Stmt}{rest:List Stmt}{pos:Pos}
theorem s_nil:JSs X EX [] bV:=⟨p6.by fun D σ H ⟨F,ρ,W,R,h⟩=>h σ H W .refl (fun _ z=> .inl z) R⟩
theorem s_cons{f g:SS}(h1:JS X EX st f)(h2:JSs X EX rest g):JSs X EX (st::rest) (aB f g) :=
 ⟨(cY h1.p h2.p).by fun D σ H ⟨F,ρ,W,R,h⟩=>⟨F,ρ,W,R,by
   unfold aB at h
   revert h
   cases f ρ with
   | none=>exact fun h=>h
   | some q =>
    obtain ⟨q,ρ2⟩:=q
    cases q with
    | nx=>exact fun h σ2 H2 W2 fr2 sub2 R2=>⟨F,ρ2,W2,R2,OkS.go h fr2 sub2⟩
    | _=>exact fun h=>h⟩⟩
theorem xQ{f:SS}(h:JS X EX st f):JSs X EX [st] f:=⟨iX h.p⟩
theorem set_ok{K:A9}{F:Fx}{σ:St}{H H':Hp}{ρ':Rho}{W':List Addr}{d:D}{nw:Bool}{v:V}{i:Nat}(P:eB K F σ H H' ρ' W' d nw v)(hi:i < ρ'.length) :
 ∃ W2,(∀ p∈W2,p∈W'\/H p=none)/\Rel K F (σ.set i (some v)) H' (ρ'.set i (some (d,if nw then .ow else .fz))) W2:=by
 cases nw with
 | false=>exact ⟨W',fun p hp=> .inl hp,P.2.put (by rw [P.2.len];exact hi) P.1⟩
 | true =>
  obtain ⟨p,rfl,hp,hn,hO,R⟩:=P;exact ⟨p::W',fun q hq=>(yP.mp hq).elim (fun z=> .inr (by rw [z];exact hp)) .inl,R.own (by rw [R.len];exact hi) hn hO⟩
theorem vj{i:Nat}{f:SE}{D:kB}{σ:St}{H:Hp}(h:tVS X.K EX (aZ i f) D σ H):tV X.K EX f σ H fun x H1=>D.nx (σ.set i (some x)) H1:=by
 obtain ⟨F,ρ,W,R,h⟩:=h;refine ⟨F,ρ,W,R,?_⟩;unfold aZ at h
 revert h
 cases f ρ with
 | none=>exact fun h=>h
 | some q =>
  obtain ⟨q,ρ2⟩:=q
  cases q with
  | ex C=>exact fun h H2 W2 fr2 sub2 R2=>h σ H2 W2 fr2 (fun p hp=> .inl (sub2 p hp)) R2
  | ok d nw =>
   dsimp only
   cases e:ρ2[i]? with
   | none=>exact fun h=>h.elim
   | some z =>
    intro h v H2 W2 fr2 sub2 P2;obtain ⟨W3,s3,R3⟩:=set_ok P2 (yR.mp e).1;exact h _ H2 W3 fr2 (fun p hp=>(s3 p hp).imp (sub2 p) id) R3
theorem s_set{i:Nat}{x:Str}{f:SE}{pos':Pos}(hN:X.N.Nodup)(hi:X.N[i]?=some x)(hx:Loc X.env.scope x)(he:JE X EX e f)(hs:swapsWith e (some (.Name x pos')) pos.line X.env=pure false:=by rfl)(hf:X.fn x=true\/X.env.scope.names.lookup x=some .local:=by first | exact .inl rfl | exact .inr rfl | assumption) :
 JS X EX (.Assign [.Name x pos'] e pos) (aZ i f):=⟨(lN hN hi hx he.p hs hf).by fun D σ H h=>vj h⟩
theorem uF{i:Nat}{x:Str}(hN:X.N.Nodup)(hi:X.N[i]?=some x)(hx:Loc X.env.scope x)(hf:X.fn x=true\/X.env.scope.names.lookup x=some .local:=by first | exact .inl rfl | exact .inr rfl | assumption):JG X (.Name x pos) (.nm i):=⟨by unfold gT;exact wl hN hi hx hf⟩
theorem g_nil:JGs X [] []:=⟨by unfold gTs;exact wk⟩
theorem g_cons{T:Tg}{ts:List Tg}(h1:JG X e T)(h2:JGs X es ts)(hs:(assignEach (e::es) X.env).map (·.2)=assign e X.env::(assignEach es X.env).map (·.2):=by rfl):JGs X (e::es) (T::ts):=⟨by unfold gTs;exact tS h1.p h2.p hs⟩
theorem g_tup{k:Nat}{ts:List Tg}(hc:X.calm=true)(h:JGs X es ts)(hn:(assignEach es X.env).length=ts.length:=by rfl)(hst:(assignEach es X.env).findIdx? (·.1)=none:=by rfl):JG X (.Tuple es k pos) (.tp ts):=⟨by unfold gT;exact pg_tup hc h.p hn hst⟩
theorem xP{f:SE}(he:JE X EX e f):JS X EX (.Return (some e) pos) (bh f) :=
 ⟨(lO he.p).by fun D σ H ⟨F,ρ,W,R,h⟩=>⟨F,ρ,W,R,by
   unfold bh at h
   revert h
   cases f ρ with
   | none=>exact fun h=>h
   | some q =>
    obtain ⟨q,ρ2⟩:=q
    cases q with
    | ex C=>exact fun h H2 W2 fr2 sub2 R2=>h σ H2 W2 fr2 (fun p hp=> .inl (sub2 p hp)) R2
    | ok d nw=>exact fun h v H2 W2 fr2 sub2 P2=>h σ v H2 W2 fr2 (fun p hp=> .inl (sub2 p hp)) P2.r⟩⟩
theorem s_retV{i:Nat}{n:Str}{p2:Pos}(hN:X.N[i]?=some n)(hv:Vis X.env.scope n)(hd:(n == ("__debug__" : Str))=false:=by decide)(hcd:(n == ("__classdict__" : Str))=false:=by decide):JS X EX (.Return (some (.Name n p2)) pos) (cF i) :=
 ⟨(lO (dy hN hv hd hcd)).by fun D σ H ⟨F,ρ,W,R,h⟩=>by
   unfold cF at h
   revert h
   cases e:ρ[i]? with
   | none=>exact fun h=>h.elim
   | some z =>
    cases z with
    | none=>exact fun h=>h.elim
    | some z =>
     obtain ⟨d,m⟩:=z;obtain ⟨v,hv,ok⟩:=R.slot i d m e
     cases m with
     | io=>exact fun h=>h.elim
     | fz=>exact fun h=>⟨v,hv,h σ v H W .refl (fun _ z=> .inl z) ⟨ok,R⟩⟩
     | ow =>
      intro h;obtain ⟨p,rfl,hp,hO⟩:=ok;obtain ⟨R',m1,m2,m3⟩:=R.move e hv
      exact ⟨_,hv,h σ _ H _ .refl (fun q hq=> .inl (zw.mp hq).1) ⟨p,rfl,.inl m1,m2,m3,R'⟩⟩⟩
theorem s_expr{f:SE}(he:JE X EX e f)(hs:swapsWith e none pos.line X.env=pure false:=by rfl):JS X EX (.Expr e pos) (cQ f) :=
 ⟨(lP he.p hs).by fun D σ H ⟨F,ρ,W,R,h⟩=>⟨F,ρ,W,R,by
   unfold cQ at h
   revert h
   cases f ρ with
   | none=>exact fun h=>h
   | some q =>
    obtain ⟨q,ρ2⟩:=q
    cases q with
    | ex C=>exact fun h H2 W2 fr2 sub2 R2=>h σ H2 W2 fr2 (fun p hp=> .inl (sub2 p hp)) R2
    | ok d nw=>exact fun h v H2 W2 fr2 sub2 P2=>h σ H2 W2 fr2 (fun p hp=> .inl (sub2 p hp)) P2.plain.2⟩⟩
theorem s_if{t:ST}{f g:SS}{as bs:List Stmt}(hc:JT X EX c t)(ha:JSs X EX as f)(hb:JSs X EX bs g):JS X EX (.If c as bs pos) (bB t f g) :=
 ⟨(yb hc.p ha.p hb.p).by fun D σ H ⟨F,ρ,W,R,h⟩=>⟨F,ρ,W,R,by
   unfold bB at h
   revert h
   cases t ρ with
   | none=>exact fun h=>h
   | some q =>
    obtain ⟨q,ρ2⟩:=q
    cases q with
    | ex C=>exact fun h H2 W2 fr2 sub2 R2=>h σ H2 W2 fr2 (fun p hp=> .inl (sub2 p hp)) R2
    | ok k =>
     cases k with
     | true=>exact fun h H2 W2 fr2 sub2 R2=>⟨F,ρ2,W2,R2,OkS.go h fr2 fun p hp=> .inl (sub2 p hp)⟩
     | false=>exact fun h H2 W2 fr2 sub2 R2=>⟨F,ρ2,W2,R2,OkS.go h fr2 fun p hp=> .inl (sub2 p hp)⟩⟩⟩
end
mutual
def de:D->Bool
 | .lst _=>false
 | .klst _=>false
 | .dK _ _=>false
 | .dT _ _=>false
 | .tup ds=>bM ds
 | .ktup ds=>bM ds
 | _=>true
def bM:List D->Bool
 | []=>true
 | d::ds=>de d&&bM ds
end
def bG:D->Bool
 | .lst ds=>bM ds
 | .dK _ ds=>bM ds
 | .dT _ ds=>bM ds
 | _=>false
section
variable{K:A9}{H:Hp}{L1 L2:List Addr}
theorem eW{p:Addr}{o:HO}(h:hid L1 H p=some o)(hm:∀ p∈L2,dC (H p))(no:¬ dC (some o)):hid L2 H p=some o:=by
 have e:=(ao h).2;rw [aF fun z=>no (by have:=hm p z;rw [e] at this;exact this)];exact e
mutual
theorem ay.flat(hm:∀ p∈L2,dC (H p)):∀ {d:D} {v:V},de d=true->ay K (hid L1 H) d v->ay K (hid L2 H) d v
 | .non,_,_,h=>h
 | .bl _,_,_,h=>h
 | .int _,_,_,h=>h
 | .str _,_,_,h=>h
 | .tup _,_,f,⟨p,xs,h1,h2,h3⟩=>⟨p,xs,h1,eW h2 hm (fun z=>z),ag.flat hm (by unfold de at f;exact f) h3⟩
 | .ktup _,_,f,⟨p,xs,h1,h2,h3⟩=>⟨p,xs,h1,h2,ag.flat hm (by unfold de at f;exact f) h3⟩
 | .lst _,_,f,_=>by unfold de at f;cases f
 | .klst _,_,f,_=>by unfold de at f;cases f
 | .dK _ _,_,f,_=>by unfold de at f;cases f
 | .dT _ _,_,f,_=>by unfold de at f;cases f
 | .set _,_,_,⟨p,S,h1,h2,h3⟩=>⟨p,S,h1,eW h2 hm (fun z=>z),h3⟩
 | .rng _ _,_,_,⟨p,h1,h2⟩=>⟨p,h1,eW h2 hm (fun z=>z)⟩
 | .exc _,_,_,⟨p,C,x,h1,h2,h3⟩=>⟨p,C,x,h1,⟨h2.cls,fun z=>(by obtain ⟨dA,e1,e2⟩:=h2.dic z;exact ⟨dA,e1,eW e2 hm (fun z=>z)⟩)⟩,eW h3 hm (fun z=>z)⟩
theorem ag.flat(hm:∀ p∈L2,dC (H p)):∀ {ds:List D} {xs:List V},bM ds=true->ag K (hid L1 H) ds xs->ag K (hid L2 H) ds xs
 | [],[],_,_=>trivial
 | _::_,_::_,f,h=>by
  unfold bM at f;have f:=(yY _ _).mp f;exact ⟨ay.flat hm f.1 h.1,ag.flat hm f.2 h.2⟩
 | [],_::_,_,h=>h.elim
 | _::_,[],_,h=>h.elim
end
theorem aG.flat{H':Hp}{p:Addr}{d:D}(hm:∀ p∈L2,dC (H p))(f:bG d=true)(h:aG K H' (hid L1 H) p d):aG K H' (hid L2 H) p d:=by
 cases d<;>first
  | exact h.elim
  | (obtain ⟨xs,h1,h2,h3⟩:=h;exact ⟨xs,h1,h2,ag.flat hm f h3⟩)
  | (obtain ⟨xs,h1,h2⟩:=h;exact ⟨xs,h1,ag.flat hm f h2⟩)
end
abbrev FS:=List D->Option (Res×D)
def spF(K:A9)(io:Option Nat)(run:FS):Sp:=fun vs H Q E=>∃ (Z W:List Addr) (ds:List D),
 vs.length=ds.length/\(∀ p∈W,p∉Z)/\(∀ p∈W++Z,dC (H p)) /\
 (∀ (j:Nat) (d:D) (v:V),io≠some j->ds[j]?=some d->vs[j]?=some v->ay K (hid (W++Z) H) d v) /\
 (∀ k,io=some k->∃ p d,vs[k]?=some (V.ref p)/\ds[k]?=some d/\W=[p]/\aG K H (hid (W++Z) H) p d) /\
 (io=none->W=[]) /\
 match run ds with
 | some (.ok d false,dio)=>∀ v H',Fr W H H'->ay K (hid (W++Z) H') d v->(∀ p,W=[p]->aG K H' (hid (W++Z) H') p dio)->Q v H'
 | some (.ok d true,dio)=>∀ q H',Fr W H H'->H q=none->aG K H' (hid (q::(W++Z)) H') q d->(∀ p,W=[p]->aG K H' (hid (q::(W++Z)) H') p dio)->Q (.ref q) H'
 | some (.ex C,dio)=>∀ H',Fr W H H'->(∀ p,W=[p]->aG K H' (hid (W++Z) H') p dio)->∀ a x,ExL K H' C a x->E (.ref a) x H'
 | none=>False
def fZ(io:Option Nat):Nat->List D->Rho
 | _,[]=>[]
 | j,d::ds=>some (d,if io=some j then .io else .fz)::fZ io (j+1) ds
def ini(n:Nat)(io:Option Nat)(ds:List D):Rho:=fZ io 0 ds++List.replicate (n - ds.length) none
def ioD(io:Option Nat)(ρ:Rho):Option D:=match io with
 | none=>some .non
 | some k=>match ρ[k]? with
  | some (some (d,.io))=>some d
  | _=>none
def aJ(np n:Nat)(io:Option Nat)(body:SS):FS:=fun ds=>if ds.length=np then
 match body (ini n io ds) with
 | some (.rt d nw,ρ')=>match ioD io ρ' with
  | some x=>some (.ok d nw,x)
  | none=>none
 | some (.nx,ρ')=>match ioD io ρ' with
  | some x=>some (.ok .non false,x)
  | none=>none
 | some (.ex C,ρ')=>match ioD io ρ' with
  | some x=>some (.ex C,x)
  | none=>none
 | _=>none else none
theorem eV{io:Option Nat}:∀ {j:Nat} {ds:List D},(fZ io j ds).length=ds.length
 | _,[]=>rfl
 | j,_::ds=>by unfold fZ;rw [yM,yM,eV]
theorem nP{io:Option Nat}:∀ {j i:Nat} {ds:List D} {d:D} {m:Md},(fZ io j ds)[i]?=some (some (d,m))->ds[i]?=some d/\m=if io=some (j+i) then .io else .fz
 | j,i,[],d,m,h=>by unfold fZ at h;simp at h
 | j,0,x::ds,d,m,h=>by
  unfold fZ at h;simp only [y0,Option.some.injEq,Prod.mk.injEq] at h;exact ⟨by rw [<- h.1];rfl,by rw [<- h.2];rfl⟩
 | j,i+1,x::ds,d,m,h=>by
  unfold fZ at h;simp only [zi] at h;obtain ⟨h1,h2⟩:=nP h;exact ⟨by simpa using h1,by rw [h2,show j+1+i=j+(i+1) by omega]⟩
theorem gF{n:Nat}{io:Option Nat}{i:Nat}{ds:List D}{d:D}{m:Md}(h:(ini n io ds)[i]?=some (some (d,m))):ds[i]?=some d/\m=if io=some i then .io else .fz:=by
 unfold ini at h
 by_cases hi:i < ds.length
 ·rw [zj (by rw [eV];exact hi)] at h
  have:=nP h;rw [zE] at this;exact this
 ·rw [zZ (by rw [eV];omega),Ag] at h
  split at h<;>cases h
def EXf(K:A9)(E:XK):EXT:=fun nm _ H=>∀ C x,ExL K H nm C x->E (.ref C) x H
theorem Fun.okX{P:Program}{w:World}{K:A9}{mg:Str->Option Value}{base:Heap}{x:Str}{st:Stmt}{N ps:List Str}{k:Nat}{sp:Sp}{f:Addr}{fd:FuncData}(F:Fun K x x st f fd)(S:bz N ps (ac st))(len:∀ vs H Q E,sp vs H Q E->vs.length=ps.length)
 (hbody:∀ (f:Addr) (cdv:Value) (A:Around) (outer:List Env) (s:Shared) (H:Hp) (vs:List V) (Q:VK) (E:XK),bL k (A.deeper (envOfC x (ac st) s.heap.objs.size f cdv))->sp vs H Q E ->
   ∃ t,PSs (aW (CXr P w) P w K mg base N x (ac st) f cdv A outer s H E) (aN st) t/\t { nx:=fun _ H'=>Q .non H',rt:=Q } (bZ N vs) H):gp P w K mg base (CXr P w) (k+1) f fd ps sp:=by
 obtain ⟨oc,od,kV,doc,pm,an,cdv,ct,osl,rfl,lk,hcd⟩:=F.ex
 exact uO lk hcd S len fun A outer s H vs Q E hr hsp=>hbody f cdv A outer s H vs Q E hr hsp
theorem uN{f0:Addr}{fd0:FuncData}{P:Program}{w:World}{K:A9}{mg:Str->Option Value}{base:Heap}{x:Str}{st:Stmt}{N ps:List Str}{k:Nat}{io:Option Nat}{body:SS}(h:Fun K x x st f0 fd0)(S:bz N ps (ac st))
 (hb:∀ (f:Addr) (cdv:Value) (A:Around) (outer:List Env) (s:Shared) (H:Hp) (E:XK),bL k (A.deeper (envOfC x (ac st) s.heap.objs.size f cdv)) ->
   JSs (aW (CXr P w) P w K mg base N x (ac st) f cdv A outer s H E) (EXf K E) (aN st) body) (hps:ps.length<=N.length:=by decide):gp P w K mg base (CXr P w) (k+1) f0 fd0 ps (spF K io (aJ ps.length N.length io body)):=by
 have run_len:∀ {ds:List D} {r:Res×D},aJ ps.length N.length io body ds=some r->ds.length=ps.length:=fun {ds r} e=>by
  unfold aJ at e
  split at e
  ·assumption
  ·cases e
 refine Fun.okX h S (fun vs H Q E hs=> ?_) (fun f cdv A outer s H vs Q E hr hs=> ?_)
 ·obtain ⟨Z,W,ds,h1,_,_,_,_,_,hm⟩:=hs
  cases e:aJ ps.length N.length io body ds with
  | none=>rw [e] at hm;exact hm.elim
  | some r=>rw [h1];exact run_len e
 ·obtain ⟨Z,W,ds,h1,hwz,hmt,hfz,hio,hno,hm⟩:=hs
  refine ⟨_,(hb f cdv A outer s H E hr).p,?_⟩
  have hlen:ds.length=ps.length:=by
   cases e:aJ ps.length N.length io body ds with
   | none=>rw [e] at hm;exact hm.elim
   | some r=>exact run_len e
  let F:Fx:=⟨Z,fun j=>if io=some j then W.head? else none⟩
  have st_get:∀ {j:Nat} {v:V},vs[j]?=some v->(bZ N vs)[j]?=some (some v):=fun {j v} e=>by
   unfold bZ;rw [zj (by rw [yF];exact (yR.mp e).1),zc,e];rfl
  have R0:Rel K F (bZ N vs) H (ini N.length io ds) W:=by
   refine ⟨fun i d m hi=> ?_,fun i j d e m n p g1 g2 g3 g4 _ _=> ?_,hwz,hmt,?_⟩
   ·obtain ⟨hd,rfl⟩:=gF hi
    have hv:i < vs.length:=by rw [h1];exact (yR.mp hd).1
    refine ⟨vs[i],st_get (yD hv),?_⟩
    by_cases e:io=some i
    ·rw [if_pos e]
     obtain ⟨p,d',q1,q2,q3,q4⟩:=hio i e;rw [yD hv] at q1;rw [hd] at q2;cases q2;refine ⟨p,Option.some.inj q1,by rw [q3];exact yL,q4,?_⟩
     show (if io=some i then W.head? else none)=some p
     rw [if_pos e,q3];rfl
    ·rw [if_neg e]
     exact hfz i d _ e hd (yD hv)
   ·obtain ⟨_,e1⟩:=gF g1
    obtain ⟨_,e2⟩:=gF g3
    by_cases z1:io=some i
    ·by_cases z2:io=some j
     ·rw [z1] at z2;exact Option.some.inj z2
     ·rw [if_neg z2] at e2;exact absurd e2 g4
    ·rw [if_neg z1] at e1;exact absurd e1 g2
   ·unfold bZ ini
    rw [yX,yX,yF,zo,zo,eV,h1]
  refine ⟨F,_,W,R0,?_⟩
  have ioR:∀ {σ':St} {H':Hp} {ρ':Rho} {W':List Addr} {x:D} {p:Addr},Rel K F σ' H' ρ' W'->ioD io ρ'=some x->W=[p]->p∈W'/\aG K H' (hid (W'++Z) H') p x:=fun {σ' H' ρ' W' x p} R e hW=>by
   cases hk:io with
   | none=>rw [hno hk] at hW;cases hW
   | some k =>
    unfold ioD at e;rw [hk] at e;dsimp only at e
    split at e
    ·rename_i d0 e0
     cases e;obtain ⟨v,g1,q,g2,g3,g4,g5⟩:=R.slot k _ _ e0;have g5:(if io=some k then W.head? else none)=some q:=g5;rw [if_pos hk,hW] at g5;have:p=q:=Option.some.inj g5;subst this;exact ⟨g3,g4⟩
    ·cases e
  have wsub:∀ {σ':St} {H':Hp} {ρ':Rho} {W':List Addr} {x:D},Rel K F σ' H' ρ' W'->ioD io ρ'=some x->∀ b,b∈W++Z->b∈W'++Z:=fun {σ' H' ρ' W' x} R e b hb=>by
   rcases zg.mp hb with z | z
   ·cases hk:io with
    | none=>rw [hno hk] at z;cases z
    | some k =>
     obtain ⟨p,d,_,_,q3,_⟩:=hio k hk;rw [q3] at z;rw [ze.mp z];exact yI _ (ioR R e q3).1
   ·exact yK _ z
  have toW:∀ {σ':St} {H' H2:Hp} {ρ':Rho} {W':List Addr} {x:D},Rel K F σ' H2 ρ' W'->ioD io ρ'=some x->af (hid (W'++Z) H') (hid (W++Z) H'):=fun R e=>aK (fun b hb=> .inl (wsub R e b hb)) fun b o _ z=>z
  revert hm
  unfold aJ;rw [if_pos hlen]
  cases body (ini N.length io ds) with
  | none=>exact fun h=>h.elim
  | some r =>
   obtain ⟨r,ρ'⟩:=r
   cases r with
   | bk=>exact fun h=>h.elim
   | ct=>exact fun h=>h.elim
   | nx =>
    dsimp only
    cases e:ioD io ρ' with
    | none=>exact fun h=>h.elim
    | some x =>
     intro hm σ' H' W' fr sub R
     exact hm .non H' fr rfl fun p hp=>(ioR R e hp).2.at rfl (toW R e)
   | ex C =>
    dsimp only
    cases e:ioD io ρ' with
    | none=>exact fun h=>h.elim
    | some x =>
     intro hm σ' H' W' fr sub R
     exact hm H' fr fun p hp=>(ioR R e hp).2.at rfl (toW R e)
   | rt d nw =>
    dsimp only
    cases e:ioD io ρ' with
    | none=>exact fun h=>h.elim
    | some x =>
     cases nw with
     | false =>
      intro hm σ' v H' W' fr sub P
      exact hm v H' fr ((toW P.2 e).repD P.1) fun p hp=>(ioR P.2 e hp).2.at rfl (toW P.2 e)
     | true =>
      intro hm σ' v H' W' fr sub P;obtain ⟨q,rfl,hq,hn,hO,R⟩:=P
      have hq0:H q=none:=by
       rcases hq with z | z
       ·cases hk:io with
        | none=>rw [hno hk] at z;cases z
        | some k =>
         obtain ⟨p,d',_,_,q3,_⟩:=hio k hk;rw [q3] at z;have:q=p:=ze.mp z;subst this;exact absurd (yI _ (ioR R e q3).1) hn
       ·exact z
      have cs:af (hid (q::(W'++Z)) H') (hid (q::(W++Z)) H'):=aK (fun b hb=> .inl (by
       rcases yP.mp hb with z | z
       ·rw [z];exact yL
       ·exact yH _ (wsub R e b z))) fun b o _ z=>z
      refine hm q H' fr hq0 (hO.at rfl cs) fun p hp=> ?_
      obtain ⟨m1,m2⟩:=ioR R e hp
      have pq:p≠q:=fun z=>by subst z;exact hn (yI _ m1)
      refine m2.at (aF (by simpa using pq)).symm fun b o z=> ?_
      obtain ⟨z1,z2⟩:=ao z;obtain ⟨z3,z4⟩:=ao z2
      rw [aF (fun y=>by
       rcases yP.mp y with y | y
       ·exact z3 (by simpa using y)
       ·exact z1 (wsub R e b y))]
      exact z4
theorem fn_ok{P:Program}{w:World}{K:A9}{mg:Str->Option Value}{base:Heap}{x:Str}{st:Stmt}{N ps:List Str}{k:Nat}{io:Option Nat}{body:SS}(h:Has K mg x st ps)(S:bz N ps (ac st))
 (hb:∀ (f:Addr) (cdv:Value) (A:Around) (outer:List Env) (s:Shared) (H:Hp) (E:XK),bL k (A.deeper (envOfC x (ac st) s.heap.objs.size f cdv)) ->
   JSs (aW (CXr P w) P w K mg base N x (ac st) f cdv A outer s H E) (EXf K E) (aN st) body) (hps:ps.length<=N.length:=by decide):OkX P w K mg base x ps (k+1) (spF K io (aJ ps.length N.length io body)):=by
 obtain ⟨f,fd,F,hm,hb'⟩:=h.ex;exact ⟨f,fd,hm,F.kp,hb',uN F S hb hps⟩
section
variable{K:A9}{F:Fx}{EX:EXT}{σ:St}{H H2:Hp}{ρ:Rho}{W:List Addr}
theorem Rel.wrote(R:Rel K F σ H ρ W){i:Nat}{d d':D}{m:Md}{p:Addr}(h:ρ[i]?=some (some (d,m)))(hm:m ≠ .fz)(hp:σ[i]?=some (some (.ref p)))(fr:Fr [p] H H2)(new:aG K H2 (hid (W++F.Z) H2) p d') :
 Rel K F σ H2 (ρ.set i (some (d',m))) W:=by
 obtain ⟨v,hv,hS⟩:=R.slot i d m h;rw [hp] at hv;cases hv
 have hw:p∈W:=by
  cases m with
  | fz=>exact absurd rfl hm
  | ow=>obtain ⟨r,e2,e3,_⟩:=hS;cases e2;exact e3
  | io=>obtain ⟨r,e2,e3,_⟩:=hS;cases e2;exact e3
 have sh:af (hid (W++F.Z) H) (hid (W++F.Z) H2):=aK (fun b hb=> .inl hb) fun b o n e=>fr.keep b o (fun z=>n (by rw [ze.mp z];exact yI _ hw)) e
 have eq:∀ r,r≠p->dC (H r)->H2 r=H r:=fun r hr hM=>by
  obtain ⟨u,q⟩:=hM.some;rw [q];exact fr.keep r u (by simpa using hr) q
 refine ⟨fun j e n hj=> ?_,fun j k e f n n' r h1 h2 h3 h4 h5 h6=> ?_,R.wz,fun r hr=> ?_,by rw [zz];exact R.len⟩
 ·rcases aQ hj with ⟨rfl,e1⟩ | ⟨ne,e1⟩
  ·cases e1
   refine ⟨_,hp,?_⟩
   cases m with
   | fz=>exact absurd rfl hm
   | ow=>exact ⟨p,rfl,hw,new⟩
   | io=>obtain ⟨r,e2,e3,e4,e5⟩:=hS;cases e2;exact ⟨p,rfl,hw,new,e5⟩
  ·obtain ⟨v,g1,g2⟩:=R.slot j e n e1
   refine ⟨v,g1,?_⟩
   have other:∀ r,v = .ref r->n ≠ .fz->r≠p:=fun r er hn z=>by
    subst er z;exact ne (R.apart j i _ _ _ _ _ e1 hn h hm g1 hp)
   cases n with
   | fz=>exact sh.repD g2
   | ow=>obtain ⟨r,e2,e3,e4⟩:=g2;exact ⟨r,e2,e3,e4.at (eq r (other r e2 (by decide)) e4.mu) sh⟩
   | io=>obtain ⟨r,e2,e3,e4,e5⟩:=g2;exact ⟨r,e2,e3,e4.at (eq r (other r e2 (by decide)) e4.mu) sh,e5⟩
 ·have fnd:∀ {j:Nat} {e:D} {n:Md},(ρ.set i (some (d',m)))[j]?=some (some (e,n))->n ≠ .fz->∃ e',ρ[j]?=some (some (e',n)):=fun {j e n} hj hn=>by
   rcases aQ hj with ⟨rfl,e1⟩ | ⟨_,e1⟩
   ·cases e1;exact ⟨d,h⟩
   ·exact ⟨_,e1⟩
  obtain ⟨_,z1⟩:=fnd h1 h2;obtain ⟨_,z2⟩:=fnd h3 h4;exact R.apart j k _ _ _ _ _ z1 h2 z2 h4 h5 h6
 ·by_cases e:r=p
  ·subst e;exact new.mu
  ·rw [eq r e (R.mt r hr)];exact R.mt r hr
variable(K F σ H ρ W) in
def ArgR:Arg->D->V->Prop
 | .ex _,d,v=>ay K (hid (W++F.Z) H) d v
 | .bor i,d,v=>σ[i]?=some (some v)/\∃ m,ρ[i]?=some (some (d,m))
variable(K F σ H ρ W) in
def dL:List Arg->List D->List V->Prop
 | [],[],[]=>True
 | a::as,d::ds,v::vs=>ArgR K F σ H ρ W a d v/\dL as ds vs
 | _,_,_=>False
theorem dL.len:∀ {as:List Arg} {ds:List D} {vs:List V},dL K F σ H ρ W as ds vs->vs.length=ds.length
 | [],[],[],_=>rfl
 | _::_,_::_,_::_,h=>by rw [yM,yM,dL.len h.2]
 | [],_::_,_,h=>h.elim
 | [],[],_::_,h=>h.elim
 | _::_,[],_,h=>h.elim
 | _::_,_::_,[],h=>h.elim
theorem dL.get:∀ {as:List Arg} {ds:List D} {vs:List V} {j:Nat} {d:D} {v:V},dL K F σ H ρ W as ds vs->ds[j]?=some d->vs[j]?=some v->∃ a,as[j]?=some a/\ArgR K F σ H ρ W a d v
 | a::_,_::_,_::_,0,d,v,h,e1,e2=>by
  simp only [y0,Option.some.injEq] at e1 e2;subst e1 e2;exact ⟨a,rfl,h.1⟩
 | _::_,_::_,_::_,j+1,d,v,h,e1,e2=>by
  simp only [zi] at e1 e2 ⊢;exact dL.get h.2 e1 e2
 | [],[],[],_,_,_,_,e,_=>by simp at e
 | [],_::_,_,_,_,_,h,_,_=>h.elim
 | [],[],_::_,_,_,_,h,_,_=>h.elim
 | _::_,[],_,_,_,_,h,_,_=>h.elim
 | _::_,_::_,[],_,_,_,h,_,_=>h.elim
theorem dL.at:∀ {as:List Arg} {ds:List D} {vs:List V} {j:Nat} {a:Arg},dL K F σ H ρ W as ds vs->as[j]?=some a->∃ d v,ds[j]?=some d/\vs[j]?=some v/\ArgR K F σ H ρ W a d v
 | a::_,d::_,v::_,0,b,h,e1=>by
  simp only [y0,Option.some.injEq] at e1;subst e1;exact ⟨d,v,rfl,rfl,h.1⟩
 | _::_,_::_,_::_,j+1,a,h,e1=>by
  simp only [zi] at e1 ⊢;exact dL.at h.2 e1
 | [],[],[],_,_,_,e=>by simp at e
 | [],_::_,_,_,_,h,_=>h.elim
 | [],[],_::_,_,_,h,_=>h.elim
 | _::_,[],_,_,_,h,_=>h.elim
 | _::_,_::_,[],_,_,h,_=>h.elim
variable(K F EX) in
def OkA2(σ:St)(H:Hp)(W:List Addr)(as:List Arg)(o:Option (mE×Rho))(Q:List V->Hp->Prop):Prop:=match o with
 | some (.ok ds,ρ')=>∀ vs H' W',Fr W H H'->(∀ p∈W',p∈W)->Rel K F σ H' ρ' W'->dL K F σ H' ρ' W' as ds vs->Q vs H'
 | some (.ex C,ρ')=>∀ H' W',Fr W H H'->(∀ p∈W',p∈W)->Rel K F σ H' ρ' W'->EX C σ H'
 | none=>False
theorem pE:∀ (as:List Arg) {H:Hp} {ρ:Rho} {W:List Addr} {Q:List V->Hp->Prop},Rel K F σ H ρ W->OkA2 K F EX σ H W as (evA as ρ) Q->tAs K EX as σ H Q
 | [],H,ρ,W,Q,R,h=>h [] H W .refl (fun _ z=>z) R trivial
 | .ex f::as,H,ρ,W,Q,R,h=>by
  refine ⟨F,ρ,W,R,?_⟩;unfold evA at h
  revert h
  cases f ρ with
  | none=>exact fun h=>h
  | some r =>
   obtain ⟨r,ρ1⟩:=r
   cases r with
   | ex C=>exact fun h=>h
   | ok d nw =>
    intro h v H1 W1 fr sub post;obtain ⟨rd,R1⟩:=post.plain;refine pE as R1 ?_
    revert h
    dsimp only
    cases evA as ρ1 with
    | none=>exact fun h=>h
    | some q =>
     obtain ⟨q,ρ2⟩:=q
     cases q with
     | ex C=>exact fun h H2 W2 fr2 sub2 R2=>h H2 W2 (fr.trans fr2 fun p hp=> .inl (sub p hp)) (fun p hp=>sub p (sub2 p hp)) R2
     | ok ds =>
      intro h vs H2 W2 fr2 sub2 R2 reps;exact h (v::vs) H2 W2 (fr.trans fr2 fun p hp=> .inl (sub p hp)) (fun p hp=>sub p (sub2 p hp)) R2 ⟨(fr2.hid fun p hp=> .inl (sub2 p hp)).repD rd,reps⟩
 | .bor i::as,H,ρ,W,Q,R,h=>by
  unfold evA at h
  revert h
  cases e:ρ[i]? with
  | none=>exact fun h=>h.elim
  | some z =>
   cases z with
   | none=>exact fun h=>h.elim
   | some dm =>
    obtain ⟨d0,m0⟩:=dm;obtain ⟨v,hv,_⟩:=R.slot i d0 m0 e;intro h;refine ⟨v,hv,pE as R ?_⟩
    revert h
    dsimp only
    cases evA as ρ with
    | none=>exact fun h=>h
    | some q =>
     obtain ⟨q,ρ2⟩:=q
     cases q with
     | ex C=>exact fun h=>h
     | ok ds =>
      dsimp only
      cases e2:ρ2[i]? with
      | none=>exact fun h=>h.elim
      | some z =>
       cases z with
       | none=>exact fun h=>h.elim
       | some dm =>
        obtain ⟨d,m⟩:=dm;intro h vs H2 W2 fr2 sub2 R2 reps;exact h (v::vs) H2 W2 fr2 sub2 R2 ⟨⟨hv,m,e2⟩,reps⟩
end
structure gW(X:Cx)(EX:EXT):Prop where
 call:∀ {x:Str} {ps:List Str} {k:Nat} {sp:Sp} {e:Expr} {es:List Expr} {t:TA} {p pos:Pos} (h:OkX X.prog X.w X.K X.mg X.base x ps k sp) (hr:bL k X.A) (hg:Gl X x) (ha:PA X (e::es) t) (hdb:(x == ("__debug__" : Str))=false)
  (he:starEach (e::es) X.env=(false,eval e X.env)::starEach es X.env) (hpl:(backTo pos (starEach es X.env)).any (·.1)=false),PE X (.Call (.Name x p) (e::es) [] pos) (fun σ H Q=>t σ H fun vs H1=>sp vs H1 Q fun c x H'=>∃ nm C,c = .ref C/\ExL X.K H' nm C x/\EX nm σ H')
def EXn:EXT:=fun _ _ _=>False
theorem jW{sp:Sp}{Q:VK}{E:XK}:(fun (vs:List V) H1=>sp (vs++[]) H1 Q E)=fun vs H1=>sp vs H1 Q E:=by
 funext vs H1
 rw [zK]
theorem ph{X:Cx}:gW X EXn:=⟨fun {x ps k sp e es t p pos} h hr hg ha hdb he hpl=>by
 obtain ⟨f,fd,hm,hk,hb,F⟩:=h.ex
 refine (qa F hr hg hm hk hb .nil (E:=fun c x H'=>∃ nm C,c=Value.ref C/\ExL X.K H' nm C x/\False) (fun _ _ _ _ _ _ _ hZ=>(by obtain ⟨_,_,_,_,_,_,_,_,_,_,_,_,_,_,_,z⟩:=hZ;exact z.elim)) ha hdb he hpl).by fun σ H Q h=> ?_
 unfold pO;rw [jW]
 exact h⟩
theorem pi{P:Program}{w:World}{K:A9}{mg:Str->Option Value}{base:Heap}{N:List Str}{qual:Str}{scope:Scope}{f:Addr}{cd:Value}{A:Around}{outer:List Env}{s:Shared}{H:Hp}{E:XK} :
 gW (aW (CXr P w) P w K mg base N qual scope f cd A outer s H E) (EXf K E):=⟨fun {x ps k sp e es t p pos} h hr hg ha hdb he hpl=>by
 obtain ⟨f',fd,hm,hk,hb,F⟩:=h.ex
 refine (qa (X:=aW (CXr P w) P w K mg base N qual scope f cd A outer s H E) F hr hg hm hk hb .nil (E:=fun c x H'=>∃ nm C,c=Value.ref C/\ExL K H' nm C x/\∀ C' x',ExL K H' nm C' x'->E (.ref C') x' H') (t0 fun c d H' z=>by obtain ⟨nm,C,rfl,hc,z⟩:=z;exact z C d hc) ha hdb he hpl).by fun σ H Q h=> ?_
 unfold pO;rw [jW]
 exact h⟩
theorem pf{X:Cx}{pn:List (Addr×Obj)}{EX:EXT}:gW (mO X pn fun c x σ H=>∃ nm C,c = .ref C/\ExL X.K H nm C x/\EX nm σ H) EX:=⟨fun {x ps k sp e es t p pos} h hr hg ha hdb he hpl=>tY h hr hg ha hdb he hpl⟩
def bE(io:Option Nat):Nat->List Arg->Rho->Bool
 | _,[],_=>true
 | j,.ex _::as,ρ=>bE io (j+1) as ρ
 | j,.bor i::as,ρ=>(if io=some j then true else match ρ[i]? with
  | some (some (_,.fz))=>true
  | _=>false)&&bE io (j+1) as ρ
def eZ(i k:Nat):Nat->List Arg->Bool
 | _,[]=>true
 | j,.ex _::as=>eZ i k (j+1) as
 | j,.bor i'::as=>(decide (j=k)||decide (i'≠i))&&eZ i k (j+1) as
def ioOk(io:Option Nat)(as:List Arg)(slot:Option Nat):Bool:=match io,slot with
 | none,none=>true
 | some k,some i=>(match as[k]? with
  | some (.bor i')=>decide (i'=i)
  | _=>false)&&eZ i k 0 as
 | _,_=>false
def cX(slot:Option Nat)(dio:D)(ρ:Rho):Option Rho:=match slot with
 | none=>some ρ
 | some i=>match ρ[i]? with
  | some (some (_,.ow))=>some (ρ.set i (some (dio,.ow)))
  | some (some (_,.io))=>some (ρ.set i (some (dio,.io)))
  | _=>none
def eA(d:D)(nw:Bool):Bool:=if nw then bG d else de d
def ar(io slot:Option Nat)(run:FS)(as:List Arg):SE:=fun ρ=>match evA as ρ with
 | some (.ok ds,ρ1)=>match run ds with
  | some (.ok d nw,dio)=>if (bE io 0 as ρ1||(eA d nw&&(io.isNone||bG dio)))=true then
   match cX slot dio ρ1 with
   | some ρ2=>some (.ok d nw,ρ2)
   | none=>none
   else none
  | some (.ex C,dio)=>if (bE io 0 as ρ1||(io.isNone||bG dio))=true then
   match cX slot dio ρ1 with
   | some ρ2=>some (.ex C,ρ2)
   | none=>none
   else none
  | none=>none
 | some (.ex C,ρ')=>some (.ex C,ρ')
 | none=>none
theorem fh{io:Option Nat}{ρ:Rho}:∀ {as:List Arg} {j n:Nat} {i:Nat},bE io n as ρ=true->as[j]?=some (.bor i)->io≠some (n+j)->∃ d,ρ[i]?=some (some (d,.fz))
 | [],j,n,i,h,e,_=>by simp at e
 | .ex _::as,0,n,i,h,e,_=>by simp at e
 | .bor i'::as,0,n,i,h,e,ne=>by
  simp only [y0,Option.some.injEq,Arg.bor.injEq] at e;subst e;unfold bE at h;have h:=((yY _ _).mp h).1;rw [if_neg (by simpa using ne)] at h
  split at h
  ·exact ⟨_,by assumption⟩
  ·cases h
 | .ex _::as,j+1,n,i,h,e,ne=>by
  unfold bE at h;exact fh (j:=j) (n:=n+1) h (by simpa using e) (by rw [show n+1+j=n+(j+1) by omega];exact ne)
 | .bor _::as,j+1,n,i,h,e,ne=>by
  unfold bE at h;exact fh (j:=j) (n:=n+1) ((yY _ _).mp h).2 (by simpa using e) (by rw [show n+1+j=n+(j+1) by omega];exact ne)
theorem gm{i k:Nat}:∀ {as:List Arg} {j n:Nat} {i':Nat},eZ i k n as=true->as[j]?=some (.bor i')->n+j≠k->i'≠i
 | [],j,n,i',h,e,_=>by simp at e
 | .ex _::as,0,n,i',h,e,_=>by simp at e
 | .bor i2::as,0,n,i',h,e,ne=>by
  simp only [y0,Option.some.injEq,Arg.bor.injEq] at e;subst e;unfold eZ at h;have h:=((yY _ _).mp h).1
  rcases (Bool.or_eq_true _ _).mp h with z | z
  ·exact absurd (by simpa using yS z) ne
  ·exact yS z
 | .ex _::as,j+1,n,i',h,e,ne=>by
  unfold eZ at h;exact gm (j:=j) (n:=n+1) h (by simpa using e) (by omega)
 | .bor _::as,j+1,n,i',h,e,ne=>by
  unfold eZ at h;exact gm (j:=j) (n:=n+1) ((yY _ _).mp h).2 (by simpa using e) (by omega)
section
variable{K:A9}{F:Fx}{σ:St}{H:Hp}{ρ:Rho}{W:List Addr}
theorem xr{io slot:Option Nat}{as:List Arg}{ds:List D}{vs:List V}{dio:D}{ρ2:Rho}(R:Rel K F σ H ρ W)(A:dL K F σ H ρ W as ds vs)(hio:ioOk io as slot=true)(hput:cX slot dio ρ=some ρ2) :
 ∃ Wc Zc,(∀ p∈Wc,p∉Zc)/\(∀ b,b∈Wc++Zc->b∈W++F.Z)/\(∀ p∈Wc,p∈W)/\(bE io 0 as ρ=true->∀ b,b∈W++F.Z->b∈Wc++Zc) /\
  (∀ (j:Nat) (d:D) (v:V),io≠some j->ds[j]?=some d->vs[j]?=some v->ay K (hid (Wc++Zc) H) d v) /\
  (∀ k,io=some k->∃ p d,vs[k]?=some (V.ref p)/\ds[k]?=some d/\Wc=[p]/\aG K H (hid (Wc++Zc) H) p d)/\(io=none->Wc=[]) /\
  ∀ H2,Fr Wc H H2->(∀ p,Wc=[p]->aG K H2 (hid (W++F.Z) H2) p dio)->Rel K F σ H2 ρ2 W:=by
 cases io with
 | none =>
  cases slot with
  | some i=>cases hio
  | none =>
   cases hput
   have fin:∀ H2,Fr [] H H2->Rel K F σ H2 ρ W:=fun H2 fr=>R.same fun b o e=>fr.keep b o (by simp) e
   by_cases hn:bE none 0 as ρ=true
   ·refine ⟨[],W++F.Z,fun p hp=>by simp at hp,fun b hb=>by simpa using hb,fun p hp=>by simp at hp,fun _ b hb=>by simpa using hb,fun j d v _ e1 e2=> ?_,fun k z=>(by cases z),fun _=>rfl,fun H2 fr _=>fin H2 fr⟩
    obtain ⟨a,ea,ra⟩:=A.get e1 e2
    cases a with
    | ex f=>exact ra
    | bor i =>
     obtain ⟨d',hd'⟩:=fh hn ea (by simp);obtain ⟨q1,m,q2⟩:=ra;rw [hd'] at q2;cases q2;obtain ⟨v',q3,q4⟩:=R.slot i _ _ hd';rw [q1] at q3;cases q3;exact q4
   ·refine ⟨[],F.Z,fun p hp=>by simp at hp,fun b hb=>yK _ (by simpa using hb),fun p hp=>by simp at hp,fun z=>absurd z hn,fun j d v _ e1 e2=> ?_,fun k z=>(by cases z),fun _=>rfl,fun H2 fr _=>fin H2 fr⟩
    have sh:af (hid (W++F.Z) H) (hid ([]++F.Z) H):=aK (fun b hb=> .inl (yK _ (by simpa using hb))) fun b o _ e=>e
    obtain ⟨a,ea,ra⟩:=A.get e1 e2
    cases a with
    | ex f=>exact sh.repD ra
    | bor i =>
     obtain ⟨q1,m,q2⟩:=ra;obtain ⟨v',q3,q4⟩:=R.slot i _ _ q2;rw [q1] at q3;cases q3
     cases m with
     | fz=>exact sh.repD q4
     | ow=>obtain ⟨p,rfl,hp,hO⟩:=q4;exact hO.rep (aF (by simpa using R.wz p hp)) sh
     | io=>obtain ⟨p,rfl,hp,hO,_⟩:=q4;exact hO.rep (aF (by simpa using R.wz p hp)) sh
 | some k =>
  cases slot with
  | none=>cases hio
  | some i =>
   have hio:((match as[k]? with
    | some (.bor i')=>decide (i'=i)
    | _=>false)&&eZ i k 0 as)=true:=hio
   obtain ⟨h1,hap⟩:=(yY _ _).mp hio
   have hk:as[k]?=some (.bor i):=by
    split at h1
    ·rename_i i' e
     rw [e,yS h1]
    ·cases h1
   have hm:∃ d0 m,ρ[i]?=some (some (d0,m))/\m ≠ .fz/\ρ2=ρ.set i (some (dio,m)):=by
    unfold cX at hput;dsimp only at hput
    split at hput
    ·rename_i d0 e;cases hput;exact ⟨d0,_,e,by decide,rfl⟩
    ·rename_i d0 e;cases hput;exact ⟨d0,_,e,by decide,rfl⟩
    ·cases hput
   obtain ⟨d0,m,e0,hmf,rfl⟩:=hm;obtain ⟨v0,g1,g2⟩:=R.slot i d0 m e0
   have own:∃ p,v0 = .ref p/\p∈W/\aG K H (hid (W++F.Z) H) p d0:=by
    cases m with
    | fz=>exact absurd rfl hmf
    | ow=>exact g2
    | io=>obtain ⟨p,z1,z2,z3,_⟩:=g2;exact ⟨p,z1,z2,z3⟩
   obtain ⟨p,rfl,hpW,hO⟩:=own;obtain ⟨dk,vk,f1,f2,f3,mk,f4⟩:=A.at hk;rw [g1] at f3;cases f3;rw [e0] at f4;cases f4
   have fin:∀ H2,Fr [p] H H2->(∀ q,[p]=[q]->aG K H2 (hid (W++F.Z) H2) q dio)->Rel K F σ H2 (ρ.set i (some (dio,m))) W:=fun H2 fr new=>R.wrote e0 hmf g1 fr (new p rfl)
   have oth:∀ (j:Nat) (i':Nat) (d:D) (v:V) (m':Md),some k≠some j->as[j]?=some (.bor i')->σ[i']?=some (some v)->ρ[i']?=some (some (d,m'))->m' ≠ .fz->v ≠ .ref p:=fun j i' d v m' ne ea q1 q2 hm' z=>by
    have ni:i'≠i:=gm hap ea (fun z=>ne (by rw [<- z,zE]));subst z;exact ni (R.apart i' i _ _ _ _ _ q2 hm' e0 hmf q1 g1)
   by_cases hn:bE (some k) 0 as ρ=true
   ·have m1:∀ b,b∈[p]++(W.filter (fun a=>decide (a≠p))++F.Z)->b∈W++F.Z:=fun b hb=>by
     rcases zg.mp hb with z | z
     ·rw [ze.mp z];exact yI _ hpW
     ·rcases zg.mp z with z | z
      ·exact yI _ (zw.mp z).1
      ·exact yK _ z
    have m2:∀ b,b∈W++F.Z->b∈[p]++(W.filter (fun a=>decide (a≠p))++F.Z):=fun b hb=>by
     by_cases z:b=p
     ·rw [z];exact yI _ (ze.mpr rfl)
     ·refine yK _ ?_
      rcases zg.mp hb with y | y
      ·exact yI _ (zw.mpr ⟨y,yV z⟩)
      ·exact yK _ y
    have sh:af (hid (W++F.Z) H) (hid ([p]++(W.filter (fun a=>decide (a≠p))++F.Z)) H):=aK (fun b hb=> .inl (m1 b hb)) fun b o _ e=>e
    refine ⟨[p],W.filter (fun a=>decide (a≠p))++F.Z,fun q hq z=> ?_,m1,fun q hq=>by rw [ze.mp hq];exact hpW,fun _=>m2,fun j d v ne e1 e2=> ?_,fun k' z=> ?_,fun z=>(by cases z),fin⟩
    ·rw [ze.mp hq] at z
     rcases zg.mp z with y | y
     ·exact absurd rfl (yS (zw.mp y).2)
     ·exact R.wz p hpW y
    ·obtain ⟨a,ea,ra⟩:=A.get e1 e2
     cases a with
     | ex f=>exact sh.repD ra
     | bor i' =>
      obtain ⟨d',hd'⟩:=fh hn ea (by rw [zE];exact ne);obtain ⟨q1,m',q2⟩:=ra;rw [hd'] at q2;cases q2;obtain ⟨v',q3,q4⟩:=R.slot i' _ _ hd';rw [q1] at q3;cases q3;exact sh.repD q4
    ·cases z
     exact ⟨p,_,f2,f1,rfl,hO.at rfl sh⟩
   ·have m1:∀ b,b∈[p]++F.Z->b∈W++F.Z:=fun b hb=>by
     rcases zg.mp hb with z | z
     ·rw [ze.mp z];exact yI _ hpW
     ·exact yK _ z
    have sh:af (hid (W++F.Z) H) (hid ([p]++F.Z) H):=aK (fun b hb=> .inl (m1 b hb)) fun b o _ e=>e
    refine ⟨[p],F.Z,fun q hq z=>by rw [ze.mp hq] at z;exact R.wz p hpW z,m1,fun q hq=>by rw [ze.mp hq];exact hpW,fun z=>absurd z hn,fun j d v ne e1 e2=> ?_,fun k' z=> ?_,fun z=>(by cases z),fin⟩
    ·obtain ⟨a,ea,ra⟩:=A.get e1 e2
     cases a with
     | ex f=>exact sh.repD ra
     | bor i' =>
      obtain ⟨q1,m',q2⟩:=ra;obtain ⟨v',q3,q4⟩:=R.slot i' _ _ q2;rw [q1] at q3;cases q3
      have out:∀ r,v = .ref r->m' ≠ .fz->r∈W->r∉[p]++F.Z:=fun r er hm' hr z=>by
       rcases zg.mp z with y | y
       ·rw [ze.mp y] at er
        exact oth j i' _ _ _ ne ea q1 q2 hm' er
       ·exact R.wz r hr y
      cases m' with
      | fz=>exact sh.repD q4
      | ow=>obtain ⟨r,rfl,hr,hO'⟩:=q4;exact hO'.rep (aF (out r rfl (by decide) hr)) sh
      | io=>obtain ⟨r,rfl,hr,hO',_⟩:=q4;exact hO'.rep (aF (out r rfl (by decide) hr)) sh
    ·cases z
     exact ⟨p,_,f2,f1,rfl,hO.at rfl sh⟩
end
section
variable{X:Cx}{EX:EXT}{e:Expr}{es:List Expr}{as:List Arg}
theorem ji{L L':List Addr}{H:Hp}(h:∀ b,b∈L'->b∈L):af (hid L H) (hid L' H):=aK (fun b hb=> .inl (h b hb)) fun b o _ e=>e
theorem pB{x:Str}{ps:List Str}{k k':Nat}{io slot:Option Nat}{run:FS}{p pos:Pos}(C:gW X EX)(h:OkX X.prog X.w X.K X.mg X.base x ps k (spF X.K io run))(hr:bL k' X.A)(hk:k<=k')(hg:Gl X x)(ha:JA X EX (e::es) as)
 (hio:ioOk io as slot=true:=by rfl) (hdb:(x == ("__debug__" : Str))=false:=by decide) (he:starEach (e::es) X.env=(false,eval e X.env)::starEach es X.env:=by rfl) (hpl:(backTo pos (starEach es X.env)).any (·.1)=false:=by rfl) :
 JE X EX (.Call (.Name x p) (e::es) [] pos) (ar io slot run as) :=
 ⟨(C.call h (hr.mono hk) hg ha.p hdb he hpl).by fun σ H Q ⟨F,ρ,W,R,h⟩=>by
   refine pE as R ?_;unfold ar at h
   revert h
   cases evA as ρ with
   | none=>exact fun h=>h
   | some q =>
    obtain ⟨q,ρ1⟩:=q
    cases q with
    | ex C=>exact fun h=>h
    | ok ds =>
     dsimp only
     cases er:run ds with
     | none=>exact fun h=>h.elim
     | some r =>
      obtain ⟨r,dio⟩:=r
      have key:∀ {ρ2:Rho} {vs:List V} {H1:Hp} {W1:List Addr} (b:Bool),Rel X.K F σ H1 ρ1 W1->dL X.K F σ H1 ρ1 W1 as ds vs->cX slot dio ρ1=some ρ2->(bE io 0 as ρ1||(b&&(io.isNone||bG dio)))=true ->
       ∃ Wc Zc,(∀ p∈Wc,p∉Zc)/\(∀ p∈Wc++Zc,dC (H1 p))/\(∀ p∈Wc,p∈W1) /\
        (∀ (j:Nat) (d:D) (v:V),io≠some j->ds[j]?=some d->vs[j]?=some v->ay X.K (hid (Wc++Zc) H1) d v) /\
        (∀ k,io=some k->∃ p d,vs[k]?=some (V.ref p)/\ds[k]?=some d/\Wc=[p]/\aG X.K H1 (hid (Wc++Zc) H1) p d)/\(io=none->Wc=[]) /\
        ∀ H2 Q',Fr Wc H1 H2->(∀ b,b∈Q'->H1 b=none)->(∀ p,Wc=[p]->aG X.K H2 (hid (Q'++(Wc++Zc)) H2) p dio) ->
         Rel X.K F σ (hid Q' H2) ρ2 W1/\(∀ p∈W1++F.Z,dC (H2 p))/\((∀ b,b∈W1++F.Z->b∈Wc++Zc)\/b=true):=fun {ρ2 vs H1 W1} b R1 A1 hput hc=>by
       obtain ⟨Wc,Zc,c1,c2,c3,c4,c5,c6,c7,c8⟩:=xr R1 A1 hio hput;refine ⟨Wc,Zc,c1,fun p hp=>R1.mt p (c2 p hp),c3,c5,c6,c7,fun H2 Q' fr hQ own=> ?_⟩
       have wc1:∀ p∈Wc,Wc=[p]:=fun p hp=>by
        cases hz:io with
        | none=>rw [c7 hz] at hp;cases hp
        | some k =>
         obtain ⟨p',_,_,_,e,_⟩:=c6 k hz;rw [e] at hp ⊢;rw [ze.mp hp]
       have mt2:∀ p∈W1++F.Z,dC (H2 p):=fun p hp=>by
        by_cases z:p∈Wc
        ·exact (own p (wc1 p z)).mu
        ·obtain ⟨u,q⟩:=(R1.mt p hp).some
         rw [fr.keep p u z q,<- q];exact R1.mt p hp
       have qn:∀ p∈W1++F.Z,p∉Q':=fun p hp z=>by
        have:=R1.mt p hp;rw [hQ p z] at this;exact this
       have fr2:Fr Wc H1 (hid Q' H2):=⟨fun b o n e=>by
        rw [aF (fun z=>by rw [hQ b z] at e;cases e)]
        exact fr.keep b o n e,fun b e=>by
        by_cases z:b∈Q'
        ·exact hQ b z
        ·rw [aF z] at e;exact fr.dom b e⟩
       have or1:(∀ b,b∈W1++F.Z->b∈Wc++Zc)\/(b=true/\(io.isNone||bG dio)=true):=by
        rcases (Bool.or_eq_true _ _).mp hc with z | z
        ·exact .inl (c4 z)
        ·exact .inr ((yY _ _).mp z)
       refine ⟨c8 _ fr2 fun p hp=> ?_,mt2,or1.imp id (·.1)⟩;have hpW:p∈W1++F.Z:=yI _ (c3 p (by rw [hp];exact ze.mpr rfl));have o1:=own p hp
       have sg:af (hid (Q'++(W1++F.Z)) H2) (hid (W1++F.Z) (hid Q' H2)):=fun b o e=>by
        obtain ⟨z1,z2⟩:=ao e;rw [aF (fun z=>z1 (yK _ z)),aF (fun z=>z1 (yI _ z))];exact z2
       rcases or1 with z | ⟨_,z⟩
       ·refine o1.at (aF (qn p hpW)) (af.trans (ji fun b hb=> ?_) sg)
        rcases zg.mp hb with y | y
        ·exact yI _ y
        ·exact yK _ (z b y)
       ·have hf:bG dio=true:=by
         cases hz:io with
         | none=>rw [c7 hz] at hp;cases hp
         | some k=>rw [hz] at z;exact z
        have hnf:aG X.K H2 (hid (W1++F.Z) H2) p dio:=o1.flat mt2 hf
        have o2:aG X.K (hid Q' H2) (hid (Wc++Zc) (hid Q' H2)) p dio:=o1.at (aF (qn p hpW)) fun b o e=>by
         obtain ⟨z1,z2⟩:=ao e;rw [aF (fun z=>z1 (yK _ z)),aF (fun z=>z1 (yI _ z))];exact z2
        exact o2.flat (fun p hp=>by rw [aF (qn p hp)];exact mt2 p hp) hf
      cases r with
      | ex C =>
       dsimp only
       split
       ·rename_i hc
        cases ep:cX slot dio ρ1 with
        | none=>exact fun h=>h.elim
        | some ρ2 =>
         intro h vs H1 W1 fr1 sub1 R1 A1;obtain ⟨Wc,Zc,c1,c2,c3,c5,c6,c7,c8⟩:=key true R1 A1 ep (by simpa using hc);refine ⟨Zc,Wc,ds,A1.len,c1,c2,c5,c6,c7,?_⟩;rw [er];intro H2 fr2 own ca x hca;obtain ⟨R2,_,_⟩:=c8 H2 [] fr2 (fun b hb=>by simp at hb) own;exact ⟨C,ca,rfl,hca,h H2 W1 (fr1.trans fr2 fun p hp=> .inl (sub1 p (c3 p hp))) sub1 (R2.same az)⟩
       ·exact fun h=>h.elim
      | ok d nw =>
       dsimp only
       split
       ·rename_i hc
        cases ep:cX slot dio ρ1 with
        | none=>exact fun h=>h.elim
        | some ρ2 =>
         intro h vs H1 W1 fr1 sub1 R1 A1;obtain ⟨Wc,Zc,c1,c2,c3,c5,c6,c7,c8⟩:=key (eA d nw) R1 A1 ep hc;refine ⟨Zc,Wc,ds,A1.len,c1,c2,c5,c6,c7,?_⟩;rw [er]
         cases nw with
         | false =>
          intro v H2 fr2 rep own;obtain ⟨R2,mt2,z⟩:=c8 H2 [] fr2 (fun b hb=>by simp at hb) own;refine h v H2 W1 (fr1.trans fr2 fun p hp=> .inl (sub1 p (c3 p hp))) sub1 ⟨?_,R2.same az⟩
          rcases z with z | z
          ·exact (ji z).repD rep
          ·exact ay.flat mt2 z rep
         | true =>
          intro q H2 fr2 hq hO own;obtain ⟨R2,mt2,z⟩:=c8 H2 [q] fr2 (fun b hb=>by rw [ze.mp hb];exact hq) own;refine h (.ref q) H2 W1 (fr1.trans fr2 fun p hp=> .inl (sub1 p (c3 p hp))) sub1 ⟨q,rfl,fr1.dom q hq,R1.fresh hq,?_,R2⟩
          rcases z with z | z
          ·refine hO.at rfl (ji fun b hb=> ?_)
           rcases yP.mp hb with y | y
           ·rw [y];exact yL
           ·exact yH _ (z b y)
          ·refine hO.flat (fun p hp=> ?_) z
           rcases yP.mp hp with y | y
           ·rw [y];exact hO.mu
           ·exact mt2 p y
       ·exact fun h=>h.elim⟩
end
theorem PS.nox{X:Cx}{st:Stmt}{t:TS}(h:PS X.nox st t):PS X st t:=fun pins s σ H D I hw =>
 zp (h pins s σ H D (I.wish _) hw) (fun _ _ q=>q.unwish) fun _ _ z=>False.elim z
abbrev SI:=Rho->Option (mE×Rho)
structure ItOk(K:A9)(L0:List Addr)(ds:List D)(J:It)(H0:Hp):Prop where
 go:∀ (H:Hp) (L:List Addr) (i:Nat) (d:D),af (hid L0 H0) (hid L H)->(∀ p∈L,dC (H p))->ds[i]?=some d->J.go i H/\∀ x H',J.yld i H x H'->af H H'/\ay K (hid L H') d x
 stop:∀ H,af (hid L0 H0) H->J.stop ds.length H
 few:ds.length<=sizeLine
section
variable(K:A9)(F:Fx)(EX:EXT)(σ:St)(H:Hp)(W:List Addr)
def OkI(o:Option (mE×Rho))(R:It->Hp->Prop):Prop:=match o with
 | some (.ok ds,ρ')=>∀ J H' W',Fr W H H'->(∀ p∈W',p∈W)->Rel K F σ H' ρ' W'->ItOk K (W'++F.Z) ds J H'->R J H'
 | some (.ex C,ρ')=>∀ H' W',Fr W H H'->(∀ p∈W',p∈W)->Rel K F σ H' ρ' W'->EX C σ H'
 | none=>False
end
def tI(K:A9)(EX:EXT)(f:SI):TI:=fun σ H R=>∃ F ρ W,Rel K F σ H ρ W/\OkI K F EX σ H W (f ρ) R
structure JI(X:Cx)(EX:EXT)(tg iter:Expr)(f:SI):Prop where
 p:PI X tg iter (tI X.K EX f)
def br(T:Tg)(f:SS):List D->Rho->Option (Out×Rho)
 | [],ρ=>some (.nx,ρ)
 | d::ds,ρ=>match bi T d ρ with
  | none=>none
  | some ρ1=>match f ρ1 with
   | some (.nx,ρ2)=>br T f ds ρ2
   | some (.ct,ρ2)=>br T f ds ρ2
   | some (.bk,ρ2)=>some (.nx,ρ2)
   | some (.rt d nw,ρ2)=>some (.rt d nw,ρ2)
   | some (.ex _,_)=>none
   | none=>none
def fR(it:SI)(T:Tg)(f:SS):SS:=fun ρ=>match it ρ with
 | some (.ok ds,ρ1)=>br T f ds ρ1
 | some (.ex _,_)=>none
 | none=>none
def cm:Nat->ST->SS->SS
 | 0,_,_=>fun _=>none
 | n+1,c,f=>fun ρ=>match c ρ with
  | some (.ok false,ρ1)=>some (.nx,ρ1)
  | some (.ok true,ρ1)=>match f ρ1 with
   | some (.nx,ρ2)=>cm n c f ρ2
   | some (.ct,ρ2)=>cm n c f ρ2
   | some (.bk,ρ2)=>some (.nx,ρ2)
   | some (.rt d nw,ρ2)=>some (.rt d nw,ρ2)
   | some (.ex _,_)=>none
   | none=>none
  | some (.ex _,_)=>none
  | none=>none
section
variable{X:Cx}{EX:EXT}{tg iter c:Expr}{body:List Stmt}{pos:Pos}
theorem s_for{it:SI}{T:Tg}{f:SS}(hc:X.calm=true)(hi:JI X.nox EXn tg iter it)(hg:JG X.nox tg T)(hb:JSs X.nox EXn body f)(hs:∀ x,foldedSetIterable iter X.env x=pure x:=by intro _;rfl):JS X EX (.For tg iter body [] pos) (fR it T f) :=
 ⟨(PS.nox (tM (X:=X.nox) PassesOwn.never hc hi.p hg.p hb.p hs)).by fun D σ H ⟨F,ρ,W,R,h⟩=>⟨F,ρ,W,R,by
   unfold fR at h
   revert h
   cases it ρ with
   | none=>exact fun h=>h
   | some q =>
    obtain ⟨q,ρ1⟩:=q
    cases q with
    | ex C=>exact fun h=>h.elim
    | ok ds =>
     intro h J H1 W1 fr1 sub1 R1 ok;have h:OkS X.K F EX H W (br T f ds ρ1) D:=h
     refine ⟨fun i m σ H2=>m=ds.length - i/\i<=ds.length/\∃ ρ2 W2,Rel X.K F σ H2 ρ2 W2/\Fr W1 H1 H2/\(∀ p∈W2,p∈W1\/H1 p=none)/\OkS X.K F EX H2 W2 (br T f (ds.drop i) ρ2) D,
      ⟨ds.length,by simp,Nat.zero_le _,ρ1,W1,R1,.refl,fun _ z=> .inl z,OkS.go h fr1 fun p hp=> .inl (sub1 p hp)⟩,?_⟩
     rintro i m σ2 H2 ⟨rfl,hi,ρ2,W2,R2,fr2,sub2,h2⟩
     by_cases hlt:i < ds.length
     ·have hd:ds.drop i=ds[i]::ds.drop (i+1):=A8 hlt
      rw [hd] at h2;unfold br at h2;obtain ⟨g1,g2⟩:=ok.go H2 (W2++F.Z) i ds[i] (fr2.hid sub2) R2.mt (yD hlt);refine .inr ⟨g1,fun σ3 H3=>ds.length - (i+1)=ds.length - (i+1)/\i+1<=ds.length/\∃ ρ3 W3,Rel X.K F σ3 H3 ρ3 W3/\Fr W1 H1 H3/\(∀ p∈W3,p∈W1\/H1 p=none)/\OkS X.K F EX H3 W3 (br T f (ds.drop (i+1)) ρ3) D,fun σ3 H3 z=>⟨_,by omega,z⟩,fun x H3 y=> ?_⟩;obtain ⟨s3,rx⟩:=g2 x H3 y
      revert h2
      cases ea:bi T ds[i] ρ2 with
      | none=>exact fun h=>h.elim
      | some ρ3 =>
       intro h2
       refine qo (n:=0) T (R2.same s3) rx ea fun σ4 _ R4=>⟨F,ρ3,W2,R4,?_⟩
       have fr3:Fr W1 H1 H3:=fr2.trans (s3.fr (W:=W2)) sub2
       have h3:OkS X.K F EX H3 W2 _ D:=OkS.go h2 (s3.fr (W:=W2)) fun p hp=> .inl hp
       have sub3:∀ {W4:List Addr},(∀ p∈W4,p∈W2\/H3 p=none)->∀ p∈W4,p∈W1\/H1 p=none:=fun {W4} s p hp=>(s p hp).elim (sub2 p) fun z=> .inr (fr3.dom p z)
       revert h3
       dsimp only
       cases f ρ3 with
       | none=>exact fun h=>h
       | some q =>
        obtain ⟨q,ρ4⟩:=q
        cases q with
        | nx=>exact fun h3 σ5 H5 W5 fr5 sub5 R5=>⟨rfl,hlt,ρ4,W5,R5,fr3.trans fr5 sub2,sub3 sub5,OkS.go h3 fr5 sub5⟩
        | ct=>exact fun h3 σ5 H5 W5 fr5 sub5 R5=>⟨rfl,hlt,ρ4,W5,R5,fr3.trans fr5 sub2,sub3 sub5,OkS.go h3 fr5 sub5⟩
        | bk=>exact fun h3=>h3
        | ex C=>exact fun h3=>h3.elim
        | rt d nw=>exact fun h3=>h3
     ·have e:i=ds.length:=by omega
      subst e;rw [List.drop_length] at h2
      exact .inl ⟨ok.stop H2 ((fr2.hid sub2).trans az),h2 σ2 H2 W2 .refl (fun _ z=> .inl z) R2⟩⟩⟩
theorem vR{n:Nat}{t:ST}{f:SS}(hc:JT X.nox EXn c t)(hb:JSs X.nox EXn body f):JS X EX (.While c body [] pos) (cm n t f) :=
 ⟨(PS.nox (tK (X:=X.nox) PassesOwn.never hc.p hb.p)).by fun D σ H ⟨F,ρ,W,R,h⟩=>by
   refine ⟨fun m σ H2=>∃ ρ2 W2,Rel X.K F σ H2 ρ2 W2/\OkS X.K F EX H2 W2 (cm m t f ρ2) D,⟨n,ρ,W,R,h⟩,?_⟩;rintro m σ2 H2 ⟨ρ2,W2,R2,h2⟩
   cases m with
   | zero=>exact h2.elim
   | succ m =>
    refine ⟨F,ρ2,W2,R2,?_⟩;unfold cm at h2
    revert h2
    cases t ρ2 with
    | none=>exact fun h=>h
    | some q =>
     obtain ⟨q,ρ3⟩:=q
     cases q with
     | ex C=>exact fun h=>h.elim
     | ok k =>
      cases k with
      | false=>exact fun h H3 W3 fr3 sub3 R3=>h σ2 H3 W3 fr3 (fun p hp=> .inl (sub3 p hp)) R3
      | true =>
       intro h H3 W3 fr3 sub3 R3;refine ⟨fun σ' H'=>∃ ρ4 W4,Rel X.K F σ' H' ρ4 W4/\OkS X.K F EX H' W4 (cm m t f ρ4) D,fun σ' H' z=>⟨m,Nat.lt_succ_self m,z⟩,F,ρ3,W3,R3,?_⟩
       have h3:OkS X.K F EX H3 W3 _ D:=OkS.go h fr3 fun p hp=> .inl (sub3 p hp)
       revert h3
       dsimp only
       cases f ρ3 with
       | none=>exact fun h=>h
       | some q =>
        obtain ⟨q,ρ4⟩:=q
        cases q with
        | nx=>exact fun h3 σ5 H5 W5 fr5 sub5 R5=>⟨ρ4,W5,R5,OkS.go h3 fr5 sub5⟩
        | ct=>exact fun h3 σ5 H5 W5 fr5 sub5 R5=>⟨ρ4,W5,R5,OkS.go h3 fr5 sub5⟩
        | bk=>exact fun h3=>h3
        | ex C=>exact fun h3=>h3.elim
        | rt d nw=>exact fun h3=>h3⟩
end
def evC(c:Option ST)(ρ:Rho):Option (so×Rho):=match c with
 | none=>some (.ok true,ρ)
 | some c=>c ρ
def bv(k:Nat)(T:Tg)(c:Option ST)(f:SE):List D->Rho->Option (List D×Rho)
 | [],ρ=>some ([],ρ)
 | d::ds,ρ=>match bi T d (ρ++List.replicate k none) with
  | none=>none
  | some ρ1=>match evC c ρ1 with
   | some (.ok true,ρ2)=>match f ρ2 with
    | some (.ok y _,ρ3)=>match bv k T c f ds (ρ3.take ρ.length) with
     | some (ys,ρ4)=>some (y::ys,ρ4)
     | none=>none
    | some (.ex _,_)=>none
    | none=>none
   | some (.ok false,ρ2)=>bv k T c f ds (ρ2.take ρ.length)
   | some (.ex _,_)=>none
   | none=>none
def cr(k:Nat)(it:SI)(T:Tg)(c:Option ST)(f:SE):SE:=fun ρ=>match it ρ with
 | some (.ok ds,ρ1)=>if Tg.ge ρ1.length T=true then
  match bv k T c f ds ρ1 with
  | some (ys,ρ2)=>some (.ok (.lst ys) true,ρ2)
  | none=>none
  else none
 | some (.ex C,ρ1)=>some (.ex C,ρ1)
 | none=>none
def tIfC(K:A9)(c:Option ST):TT:=match c with
 | none=>xL
 | some c=>tVT K EXn c
section
variable{K:A9}{F:Fx}{EX:EXT}{σ:St}{H:Hp}{ρ:Rho}{W:List Addr}
theorem Rel.ext(R:Rel K F σ H ρ W)(k:Nat):Rel K F (σ++List.replicate k none) H (ρ++List.replicate k none) W:=by
 have old:∀ {i:Nat} {d:D} {m:Md},(ρ++List.replicate k none)[i]?=some (some (d,m))->ρ[i]?=some (some (d,m))/\i < ρ.length:=fun {i d m} h=>by
  by_cases hi:i < ρ.length
  ·rw [zj hi] at h
   exact ⟨h,hi⟩
  ·rw [zZ (by omega),Ag] at h
   split at h<;>cases h
 refine ⟨fun i d m h=> ?_,fun i j d e m n p h1 h2 h3 h4 h5 h6=> ?_,R.wz,R.mt,by rw [yX,yX,zo,zo,R.len]⟩
 ·obtain ⟨h,hi⟩:=old h
  obtain ⟨v,g1,g2⟩:=R.slot i d m h;exact ⟨v,by rw [zj (by rw [R.len];exact hi)];exact g1,g2⟩
 ·obtain ⟨h1,i1⟩:=old h1
  obtain ⟨h3,i3⟩:=old h3;rw [zj (by rw [R.len];exact i1)] at h5;rw [zj (by rw [R.len];exact i3)] at h6;exact R.apart i j _ _ _ _ _ h1 h2 h3 h4 h5 h6
theorem Rel.cut{σ2:St}(R:Rel K F σ2 H ρ W)(h:σ2.take σ.length=σ)(hl:σ.length<=σ2.length):Rel K F σ H (ρ.take σ.length) W:=by
 have old:∀ {i:Nat} {d:D} {m:Md},(ρ.take σ.length)[i]?=some (some (d,m))->ρ[i]?=some (some (d,m))/\i < σ.length:=fun {i d m} h=>by
  rw [List.getElem?_take] at h
  split at h
  ·exact ⟨h,by assumption⟩
  ·cases h
 have eq:∀ {i:Nat},i < σ.length->σ2[i]?=σ[i]?:=fun {i} hi=>by
  have e:=List.getElem?_take_of_lt (l:=σ2) hi;rw [h] at e;exact e.symm
 refine ⟨fun i d m h=> ?_,fun i j d e m n p h1 h2 h3 h4 h5 h6=> ?_,R.wz,R.mt,by rw [Aa,<- R.len];omega⟩
 ·obtain ⟨h,hi⟩:=old h
  obtain ⟨v,g1,g2⟩:=R.slot i d m h;exact ⟨v,by rw [<- eq hi];exact g1,g2⟩
 ·obtain ⟨h1,i1⟩:=old h1
  obtain ⟨h3,i3⟩:=old h3;rw [<- eq i1] at h5;rw [<- eq i3] at h6;exact R.apart i j _ _ _ _ _ h1 h2 h3 h4 h5 h6
theorem qy{k:Nat}{it:SI}{T:Tg}{c:Option ST}{f:SE}{Q:VK}(hw:tV K EX (cr k it T c f) σ H Q):mT (tI K EX it) k (gT K T) (tIfC K c) (tV K EXn f) σ H Q:=by
 obtain ⟨F,ρ,W,R,h⟩:=hw;refine ⟨F,ρ,W,R,?_⟩;unfold cr at h
 revert h
 cases it ρ with
 | none=>exact fun h=>h
 | some q =>
  obtain ⟨q,ρ1⟩:=q
  cases q with
  | ex C=>exact fun h=>h
  | ok ds =>
   dsimp only
   split
   ·rename_i hge
    cases es:bv k T c f ds ρ1 with
    | none=>exact fun h=>h.elim
    | some z =>
     obtain ⟨tot,ρe⟩:=z;intro h J H1 W1 fr1 sub1 R1 ok
     refine ⟨fun i m ys H2=>m=ds.length - i/\i<=ds.length/\∃ ρ2 W2 acc rest,Rel K F σ H2 ρ2 W2/\Fr W1 H1 H2/\(∀ p∈W2,p∈W1)/\ag K (hid (W2++F.Z) H2) acc ys/\acc.length<=i/\bv k T c f (ds.drop i) ρ2=some (rest,ρe)/\acc++rest=tot,
      ⟨ds.length,by simp,Nat.zero_le _,ρ1,W1,[],tot,R1,.refl,fun _ z=>z,trivial,Nat.zero_le _,es,rfl⟩,?_⟩
     rintro i m ys H2 ⟨rfl,hi,ρ2,W2,acc,rest,R2,fr2,sub2,rp,la,e2,et⟩
     have sub2':∀ p∈W2,p∈W1\/H1 p=none:=fun p hp=> .inl (sub2 p hp)
     have few:=ok.few;have ly:=rp.len;refine ⟨by omega,?_⟩
     by_cases hlt:i < ds.length
     ·have hd:ds.drop i=ds[i]::ds.drop (i+1):=A8 hlt
      rw [hd] at e2;unfold bv at e2;obtain ⟨g1,g2⟩:=ok.go H2 (W2++F.Z) i ds[i] (fr2.hid sub2') R2.mt (yD hlt);refine .inr ⟨g1,fun x H3 y=> ?_⟩;obtain ⟨s3,rx⟩:=g2 x H3 y
      cases ea:bi T ds[i] (ρ2++List.replicate k none) with
      | none=>rw [ea] at e2;cases e2
      | some ρ3 =>
       rw [ea] at e2;dsimp only at e2;have lenσ:σ.length=ρ1.length:=R1.len;have lenσ2:σ.length=ρ2.length:=R2.len
       refine qo (n:=σ.length) T ((R2.same s3).ext k) rx ea fun σ4 tk R4=> ?_
       have tk:=tk (by rw [lenσ];exact hge);rw [List.take_left] at tk
       have l4:σ.length<=σ4.length:=by
        have:=congrArg List.length tk;rw [Aa] at this;omega
       refine ⟨tk,?_⟩;have fr3:Fr W1 H1 H3:=fr2.trans (s3.fr (W:=W2)) sub2'
       have rest:∀ b ρ4,evC c ρ3=some (.ok b,ρ4)->∀ H4 W4,Fr W2 H3 H4->(∀ p∈W4,p∈W2)->Rel K F σ4 H4 ρ4 W4 ->
        (if b=true then tV K EXn f σ4 H4 fun y H5=>∃ m',m' < ds.length - i/\(m'=ds.length - (i+1)/\i+1<=ds.length/\∃ ρ2 W2 acc rest,Rel K F σ H5 ρ2 W2/\Fr W1 H1 H5/\(∀ p∈W2,p∈W1)/\ag K (hid (W2++F.Z) H5) acc (ys++[y])/\acc.length<=i+1/\bv k T c f (ds.drop (i+1)) ρ2=some (rest,ρe)/\acc++rest=tot)
        else ∃ m',m' < ds.length - i/\(m'=ds.length - (i+1)/\i+1<=ds.length/\∃ ρ2 W2 acc rest,Rel K F σ H4 ρ2 W2/\Fr W1 H1 H4/\(∀ p∈W2,p∈W1)/\ag K (hid (W2++F.Z) H4) acc ys/\acc.length<=i+1/\bv k T c f (ds.drop (i+1)) ρ2=some (rest,ρe)/\acc++rest=tot)):=fun b ρ4 ec H4 W4 fr4 sub4 R4=>by
        rw [ec] at e2;have frA:Fr W1 H1 H4:=fr3.trans fr4 sub2';have sA:af (hid (W2++F.Z) H2) (hid (W4++F.Z) H4):=af.trans (aK (fun b hb=> .inl hb) fun b o _ e=>s3 b o e:af (hid (W2++F.Z) H2) (hid (W2++F.Z) H3)) (fr4.hid fun p hp=> .inl (sub4 p hp))
        cases b with
        | false =>
         dsimp only at e2;rw [if_neg yJ];exact ⟨_,by omega,rfl,hlt,ρ4.take σ.length,W4,acc,_,R4.cut tk l4,frA,fun p hp=>sub2 p (sub4 p hp),sA.repDs rp,by omega,by rw [lenσ2];exact e2,et⟩
        | true =>
         dsimp only at e2;rw [if_pos rfl];refine ⟨F,ρ4,W4,R4,?_⟩
         cases ef:f ρ4 with
         | none=>rw [ef] at e2;cases e2
         | some q =>
          obtain ⟨q,ρ5⟩:=q;rw [ef] at e2
          cases q with
          | ex C=>cases e2
          | ok y nw =>
           dsimp only at e2
           cases e3:bv k T c f (ds.drop (i+1)) (ρ5.take ρ2.length) with
           | none=>rw [e3] at e2;cases e2
           | some z =>
            obtain ⟨rest',ρe'⟩:=z;rw [e3] at e2;cases e2;intro v H5 W5 fr5 sub5 P5;obtain ⟨rv,R5⟩:=P5.plain;refine ⟨_,by omega,rfl,hlt,ρ5.take σ.length,W5,acc++[y],rest',R5.cut tk l4,frA.trans fr5 fun p hp=> .inl (sub2 p (sub4 p hp)),fun p hp=>sub2 p (sub4 p (sub5 p hp)),ag.app ((fr5.hid fun p hp=> .inl (sub5 p hp)).repDs (sA.repDs rp)) ⟨rv,trivial⟩,?_,by rw [lenσ2];exact e3,?_⟩
            ·rw [yX];simp;omega
            ·rw [<- et,List.append_assoc];rfl
       cases c with
       | none=>exact rest true ρ3 rfl H3 W2 .refl (fun _ z=>z) R4
       | some c =>
        refine ⟨F,ρ3,W2,R4,?_⟩;have e2':=e2;unfold evC at e2';dsimp only at e2'
        cases ec:c ρ3 with
        | none=>rw [ec] at e2';cases e2'
        | some q =>
         obtain ⟨q,ρ4⟩:=q
         cases q with
         | ex C=>rw [ec] at e2';cases e2'
         | ok b=>exact fun H4 W4 fr4 sub4 R4=>rest b ρ4 ec H4 W4 fr4 sub4 R4
     ·have e:i=ds.length:=by omega
      subst e;rw [List.drop_length] at e2;have e2:some (([]:List D),ρ2)=some (rest,ρe):=e2;cases e2;rw [zK] at et;subst et;refine .inl ⟨ok.stop H2 ((fr2.hid sub2').trans az),fun l hl=> ?_⟩;refine h (.ref l) _ W2 ((fr1.trans fr2 fun p hp=> .inl (sub1 p hp)).trans ((af.upd hl).fr (W:=W2)) fun p hp=> .inl (sub1 p (sub2 p hp))) (fun p hp=>sub1 p (sub2 p hp)) ?_
      refine eB.back (fM.e (nw:=true) ⟨l,rfl,hl,ys,ai,?_⟩ R2 (af.upd hl)) fun b hb=>fr1.dom b (fr2.dom b hb)
      exact (aK (fun b hb=>(yP.mp hb).elim (fun z=> .inr (by rw [z];exact hl)) .inl) fun b o _ e=>af.upd hl b o e:af (hid (W2++F.Z) H2) _).repDs rp
   ·exact fun h=>h.elim
end
inductive JC(X:Cx):List Expr->Option ST->Prop where
 | no:JC X [] none
 | one {c:Expr} {t:ST} (h:JT X EXn c t):JC X [c] (some t)
theorem JC.p{X:Cx}{ifs:List Expr}{c:Option ST}(h:JC X ifs c):su X ifs (tIfC X.K c):=by
 cases h with
 | no=>exact pif0
 | one h=>exact pif1 h.p
section
variable{X:Cx}{EX:EXT}{elt tg iter:Expr}{ifs:List Expr}{sc:Scope}{M tgs:List Str}{pos:Pos}{it:SI}{T:Tg}{c:Option ST}{f:SE}
theorem pA(hc:X.calm=true)(B:kh X sc M tgs)(hi:JI X EX tg iter it)(hg:∀ cl C fp s H,JG (blk X sc cl C fp s H (M++tgs)) tg T)(ht:∀ cl C fp s H,JC (blk X sc cl C fp s H (M++tgs)) ifs c)(he:∀ cl C fp s H,JE (blk X sc cl C fp s H (M++tgs)) EXn elt f)
 (hs:∀ x,foldedSetIterable iter X.env x=pure x:=by intro _;rfl):JE X EX (.ListComp elt [⟨tg,iter,ifs,0⟩] sc pos) (cr tgs.length it T c f) :=
 ⟨(wn hc B hi.p (fun cl C fp s H=>(hg cl C fp s H).p) (fun cl C fp s H=>(ht cl C fp s H).p) (fun cl C fp s H=>(he cl C fp s H).p) hs).by fun σ H Q h=>qy h⟩
theorem qI{j:Nat}{y:Str}{py spos:Pos}(hc:X.calm=true)(B:kh X sc M tgs)(hi:JI X EX tg iter it)(hg:∀ cl C fp s H,JG (blk X sc cl C fp s H (M++tgs)) tg T)(ht:∀ cl C fp s H,JC (blk X sc cl C fp s H (M++tgs)) ifs c)(he:∀ cl C fp s H,JE (blk X sc cl C fp s H (M++tgs)) EXn elt f)
 (hN:X.N.Nodup) (hjy:X.N[j]?=some y) (hy:X.env.scope.names.lookup y=some .local) (hsw:swapsWith (.ListComp elt [⟨tg,iter,ifs,0⟩] sc pos) (some (.Name y py)) spos.line X.env=pure true:=by rfl)
 (hs:∀ x,foldedSetIterable iter X.env x=pure x:=by intro _;rfl):JS X EX (.Assign [.Name y py] (.ListComp elt [⟨tg,iter,ifs,0⟩] sc pos) spos) (aZ j (cr tgs.length it T c f)) :=
 ⟨(oQ hc B hi.p (fun cl C fp s H=>(hg cl C fp s H).p) (fun cl C fp s H=>(ht cl C fp s H).p) (fun cl C fp s H=>(he cl C fp s H).p) hN hjy hy hsw hs).by fun D σ H h=>qy (vj h)⟩
end
mutual
def nrm:D->D
 | .ktup ds=> .tup (bA ds)
 | .tup ds=> .tup (bA ds)
 | .klst ds=> .lst (bA ds)
 | .lst ds=> .lst (bA ds)
 | d=>d
def bA:List D->List D
 | []=>[]
 | d::ds=>nrm d::bA ds
end
mutual
def eqN:D->D->Bool
 | .non,.non=>true
 | .bl a,.bl b=>a == b
 | .bl a,.int b=>(if a then 1 else 0) == b
 | .int a,.bl b=>a == (if b then 1 else 0)
 | .int a,.int b=>a == b
 | .str a,.str b=>a == b
 | .tup a,.tup b=>dj a b
 | .lst a,.lst b=>dj a b
 | _,_=>false
def dj:List D->List D->Bool
 | [],[]=>true
 | a::as,b::bs=>eqN a b&&dj as bs
 | _,_=>false
end
def eqD(d e:D):Bool:=eqN (nrm d) (nrm e)
def ad:Nat->D->Bool
 | _,.non=>true
 | _,.bl _=>true
 | _,.int _=>true
 | _,.str _=>true
 | n+1,.tup ds=>ds.all (ad n)
 | n+1,.ktup ds=>ds.all (ad n)
 | n+1,.lst ds=>ds.all (ad n)
 | n+1,.klst ds=>ds.all (ad n)
 | _,_=>false
theorem jy:∀ {ds:List D},(bA ds).length=ds.length
 | []=>rfl
 | _::ds=>by unfold bA;rw [yM,yM,jy]
theorem db:∀ {ds:List D} {j:Nat},(bA ds)[j]?=ds[j]?.map nrm
 | [],j=>by unfold bA;simp
 | d::ds,0=>by unfold bA;simp
 | d::ds,j+1=>by unfold bA;simp;exact db
theorem jR:∀ {as bs:List D},dj as bs=((List.range (min as.length bs.length)).all (fun j=>match as[j]?,bs[j]? with | some a,some b=>eqN a b | _,_=>true)&&as.length == bs.length)
 | [],[]=>rfl
 | [],b::bs=>by unfold dj;simp
 | a::as,[]=>by unfold dj;simp
 | a::as,b::bs=>by
  unfold dj;rw [jR (as:=as) (bs:=bs)]
  have e1:min (a::as).length (b::bs).length=min as.length bs.length+1:=by simp only [yM];omega
  have e2:((a::as).length == (b::bs).length)=(as.length == bs.length):=by simp
  rw [e1,e2,List.range_succ_eq_map,List.all_cons,List.all_map,Bool.and_assoc]
  congr 1
mutual
theorem gN:∀ (n:Nat) {d:D},ad n d=true->eqN (nrm d) (nrm d)=true
 | n,.non,_=>rfl
 | n,.bl _,_=>by unfold nrm eqN;simp
 | n,.int _,_=>by unfold nrm eqN;simp
 | n,.str _,_=>by unfold nrm eqN;simp
 | n+1,.tup ds,h=>by unfold nrm eqN;exact dH n (by unfold ad at h;exact h)
 | n+1,.ktup ds,h=>by unfold nrm eqN;exact dH n (by unfold ad at h;exact h)
 | n+1,.lst ds,h=>by unfold nrm eqN;exact dH n (by unfold ad at h;exact h)
 | n+1,.klst ds,h=>by unfold nrm eqN;exact dH n (by unfold ad at h;exact h)
 | 0,.tup _,h=>by unfold ad at h;cases h
 | 0,.ktup _,h=>by unfold ad at h;cases h
 | 0,.lst _,h=>by unfold ad at h;cases h
 | 0,.klst _,h=>by unfold ad at h;cases h
 | _,.dK _ _,h=>by unfold ad at h;cases h
 | _,.dT _ _,h=>by unfold ad at h;cases h
 | _,.set _,h=>by unfold ad at h;cases h
 | _,.rng _ _,h=>by unfold ad at h;cases h
 | _,.exc _,h=>by unfold ad at h;cases h
theorem dH:∀ (n:Nat) {ds:List D},ds.all (ad n)=true->dj (bA ds) (bA ds)=true
 | n,[],_=>rfl
 | n,d::ds,h=>by
  rw [List.all_cons] at h;have h:=(yY _ _).mp h;unfold bA dj;rw [gN n h.1,dH n h.2];rfl
end
section
variable{X:Cx}{pins:List (Addr×Obj)}{σ:St}{H:Hp}{s:Shared}
inductive Vw(K:A9)(H:Hp)(s:Shared):Nat->D->V->Value->Prop where
 | non {n}:Vw K H s n .non .non .none
 | bl {n} (b:Bool):Vw K H s n (.bl b) (.bl b) (.bool b)
 | int {n} (i:Int) (t:Tok):Vw K H s n (.int i) (.int i) (.int i t)
 | str {n} (x:Str) (t:Tok):Vw K H s n (.str x) (.str x) (.str x t)
 | tu {n} {d:D} {ds:List D} {p:Addr} {xs:List V} {its:List Value} (hd:nrm d = .tup (bA ds)) (ht:s.heap.IsTuple p its.toArray) (hv:aq xs its) (hr:ag K H ds xs) (he:ds.all (ad n)=true):Vw K H s (n+1) d (.ref p) (.ref p)
 | li {n} {d:D} {ds:List D} {p:Addr} {xs:List V} {its:List Value} (hd:nrm d = .lst (bA ds)) (ht:s.heap.IsList p its.toArray) (hv:aq xs its) (hr:ag K H ds xs) (he:ds.all (ad n)=true):Vw K H s (n+1) d (.ref p) (.ref p)
theorem im(I:Inv X pins σ H s){n:Nat}{d:D}{v:V}{u:Value}(he:ad n d=true)(r:ay X.K H d v)(ru:ax v u):Vw X.K H s n d v u:=by
 have z0:n=0\/∃ m,n=m+1:=by cases n with | zero=>exact .inl rfl | succ m=>exact .inr ⟨m,rfl⟩
 cases d with
 | non=>cases r;cases ru;exact .non
 | bl b=>cases r;cases ru;exact .bl b
 | int i=>cases r;obtain ⟨t,rfl⟩:=ru;exact .int i t
 | str x=>cases r;obtain ⟨t,rfl⟩:=ru;exact .str x t
 | tup ds =>
  obtain ⟨p,xs,rfl,h1,h2⟩:=r;cases ru
  rcases z0 with rfl | ⟨m,rfl⟩
  ·unfold ad at he;cases he
  ·obtain ⟨its,rv,pl,_⟩:=I.tuple (X:=X) (.inl (.inl h1))
   exact .tu (by unfold nrm;rfl) pl rv h2 (by unfold ad at he;exact he)
 | ktup ds =>
  obtain ⟨p,xs,rfl,h1,h2⟩:=r;cases ru
  rcases z0 with rfl | ⟨m,rfl⟩
  ·unfold ad at he;cases he
  ·obtain ⟨its,rv,pl,_⟩:=I.tuple (X:=X) (du h1)
   exact .tu (by unfold nrm;rfl) pl rv h2 (by unfold ad at he;exact he)
 | lst ds =>
  obtain ⟨p,xs,rfl,h1,h2⟩:=r;cases ru
  rcases z0 with rfl | ⟨m,rfl⟩
  ·unfold ad at he;cases he
  ·obtain ⟨its,rv,pl,_⟩:=I.list (X:=X) (.inl (.inl h1))
   exact .li (by unfold nrm;rfl) pl.isList rv h2 (by unfold ad at he;exact he)
 | klst ds =>
  obtain ⟨p,xs,rfl,h1,h2⟩:=r;cases ru
  rcases z0 with rfl | ⟨m,rfl⟩
  ·unfold ad at he;cases he
  ·obtain ⟨its,rv,pl,_⟩:=I.list h1
   exact .li (by unfold nrm;rfl) pl.isList rv h2 (by unfold ad at he;exact he)
 | dK _ _=>unfold ad at he;cases he
 | dT _ _=>unfold ad at he;cases he
 | set _=>unfold ad at he;cases he
 | rng _ _=>unfold ad at he;cases he
 | exc _=>unfold ad at he;cases he
theorem nN{p:Addr}{a b:List Value}(h1:s.heap.IsTuple p a.toArray)(h2:s.heap.IsTuple p b.toArray):a=b:=by
 obtain ⟨o,e1,_,n,d1⟩:=h1;obtain ⟨o2,e2,_,n2,d2⟩:=h2;rw [e1] at e2;cases e2;rw [d1] at d2;have:=(Data.seq.inj d2).1;simpa using congrArg Array.toList this
theorem oZ{p:Addr}{a b:List Value}(h1:s.heap.IsList p a.toArray)(h2:s.heap.IsList p b.toArray):a=b:=by
 obtain ⟨o,e1,_,n,d1⟩:=h1;obtain ⟨o2,e2,_,n2,d2⟩:=h2;rw [e1] at e2;cases e2;rw [d1] at d2;have:=(Data.seq.inj d2).1;simpa using congrArg Array.toList this
theorem aR{xs:List V}{its:List Value}(r:aq xs its){j:Nat}(h:j < its.length):∃ x,xs[j]?=some x/\ax x its[j]:=by
 have hx:j < xs.length:=by rw [r.length];exact h
 obtain ⟨u,e,ru⟩:=r.get (yD hx);rw [yD h] at e;cases e;exact ⟨_,yD hx,ru⟩
theorem eN(I:Inv X pins σ H s):∀ (n m:Nat) {d e:D} {v:V} {u:Value},ad n d=true->ad m e=true->ay X.K H d v->ay X.K H e v->ax v u->nrm d=nrm e
 | n,m,d,e,v,u,h1,h2,r1,r2,ru=>by
  have v1:=im I h1 r1 ru;have v2:=im I h2 r2 ru
  cases v1 with
  | non=>cases v2;rfl
  | bl b=>cases v2;rfl
  | int i t=>cases v2;rfl
  | str x t=>cases v2;rfl
  | @tu n _ ds p xs its hd ht hv hr he =>
   cases v2 with
   | @tu m _ es _ ys jts hd2 ht2 hv2 hr2 he2 =>
    have:=nN ht ht2;subst this;have exy:xs=ys:=hv.inj hv2;subst exy;rw [hd,hd2]
    congr 1
    apply List.ext_getElem?;intro j;rw [db,db];have l1:=hr.len;have l2:=hr2.len
    by_cases hj:j < xs.length
    ·obtain ⟨d',e1,q1⟩:=hr.get' (yD hj)
     obtain ⟨e',e2,q2⟩:=hr2.get' (yD hj);rw [e1,e2]
     have hji:j < its.length:=by rw [<- hv.length];exact hj
     obtain ⟨x,ex,rx⟩:=aR hv hji;rw [yD hj] at ex;cases ex;exact congrArg some (eN I n m (yZ.mp he _ (yU e1)) (yZ.mp he2 _ (yU e2)) q1 q2 rx)
    ·rw [AM (by omega),AM (by omega)]
   | li hd2 ht2 hv2 hr2 he2=>exact absurd rfl (SeqAt.ne_of_list_tuple ht2 ht)
  | @li n _ ds p xs its hd ht hv hr he =>
   cases v2 with
   | tu hd2 ht2 hv2 hr2 he2=>exact absurd rfl (SeqAt.ne_of_list_tuple ht ht2)
   | @li m _ es _ ys jts hd2 ht2 hv2 hr2 he2 =>
    have:=oZ ht ht2;subst this;have exy:xs=ys:=hv.inj hv2;subst exy;rw [hd,hd2]
    congr 1
    apply List.ext_getElem?;intro j;rw [db,db];have l1:=hr.len;have l2:=hr2.len
    by_cases hj:j < xs.length
    ·obtain ⟨d',e1,q1⟩:=hr.get' (yD hj)
     obtain ⟨e',e2,q2⟩:=hr2.get' (yD hj);rw [e1,e2]
     have hji:j < its.length:=by rw [<- hv.length];exact hj
     obtain ⟨x,ex,rx⟩:=aR hv hji;rw [yD hj] at ex;cases ex;exact congrArg some (eN I n m (yZ.mp he _ (yU e1)) (yZ.mp he2 _ (yU e2)) q1 q2 rx)
    ·rw [AM (by omega),AM (by omega)]
 termination_by n=>n
theorem iL{n:Nat}{f g:Nat->Bool}(h:∀ j,j < n->f j=g j):(List.range n).all f=(List.range n).all g:=by
 rw [zM,yZ,yZ]
 constructor
 ·intro z x hx;rw [<- h x (Ac.mp hx)];exact z x hx
 ·intro z x hx;rw [h x (Ac.mp hx)];exact z x hx
def bg(ds es:List D)(j:Nat):Bool:=match ds[j]?,es[j]? with
 | some a,some b=>eqD a b
 | _,_=>true
theorem cT{ds es:List D}:dj (bA ds) (bA es)=((List.range (min ds.length es.length)).all (bg ds es)&&ds.length == es.length):=by
 rw [jR,jy,jy]
 congr 1
 refine iL fun j hj=> ?_
 have h1:j < ds.length:=by omega
 have h2:j < es.length:=by omega
 rw [db,db];unfold bg eqD;rw [yD h1,yD h2];rfl
theorem pd(I:Inv X pins σ H s):∀ (n:Nat) {A:Around} {d e:D} {v v':V} {u w:Value},A.units+n < cLine->ad n d=true->ad n e=true->ay X.K H d v->ay X.K H e v'->ax v u->ax v' w->SeqAt.EqAt A s u w (eqD d e)
 | n,A,d,e,v,v',u,w,hu0,h1,h2,r1,r2,ru,rw'=>by
  have hu:A.units < cLine:=by omega
  have v1:=im I h1 r1 ru;have v2:=im I h2 r2 rw';unfold eqD
  cases v1 with
  | non =>
   cases v2 with
   | non=>exact SeqAt.EqAt.same _
   | bl b2=>exact SeqAt.EqAt.none_bool b2
   | int i2 t2=>exact SeqAt.EqAt.none_int i2 t2
   | str x2 t2=>exact SeqAt.EqAt.none_str x2 t2
   | tu hd2 ht2 hv2 hr2 he2=>rw [hd2];exact SeqAt.EqAt.none_tuple ht2 hu
   | li hd2 ht2 hv2 hr2 he2=>rw [hd2];exact SeqAt.EqAt.none_list ht2 hu
  | bl b1 =>
   cases v2 with
   | non=>exact SeqAt.EqAt.bool_none b1
   | bl b2=>exact SeqAt.EqAt.bool_bool b1 b2
   | int i2 t2=>exact SeqAt.EqAt.bool_int b1 i2 t2
   | str x2 t2=>exact SeqAt.EqAt.bool_str b1 x2 t2
   | tu hd2 ht2 hv2 hr2 he2=>rw [hd2];exact SeqAt.EqAt.bool_tuple b1 ht2 hu
   | li hd2 ht2 hv2 hr2 he2=>rw [hd2];exact SeqAt.EqAt.bool_list b1 ht2 hu
  | int i1 t1 =>
   cases v2 with
   | non=>exact SeqAt.EqAt.int_none i1 t1
   | bl b2=>exact SeqAt.EqAt.int_bool i1 t1 b2
   | int i2 t2=>exact SeqAt.EqAt.int_int i1 t1 i2 t2
   | str x2 t2=>exact SeqAt.EqAt.int_str i1 t1 x2 t2
   | tu hd2 ht2 hv2 hr2 he2=>rw [hd2];exact SeqAt.EqAt.int_tuple i1 t1 ht2 hu
   | li hd2 ht2 hv2 hr2 he2=>rw [hd2];exact SeqAt.EqAt.int_list i1 t1 ht2 hu
  | str x1 t1 =>
   cases v2 with
   | non=>exact SeqAt.EqAt.str_none x1 t1
   | bl b2=>exact SeqAt.EqAt.str_bool x1 t1 b2
   | int i2 t2=>exact SeqAt.EqAt.str_int x1 t1 i2 t2
   | str x2 t2=>exact SeqAt.EqAt.str_str x1 t1 x2 t2
   | tu hd2 ht2 hv2 hr2 he2=>rw [hd2];exact SeqAt.EqAt.str_tuple x1 t1 ht2 hu
   | li hd2 ht2 hv2 hr2 he2=>rw [hd2];exact SeqAt.EqAt.str_list x1 t1 ht2 hu
  | @tu n _ ds p xs its hd ht hv hr he =>
   cases v2 with
   | non=>rw [hd];exact SeqAt.EqAt.tuple_none ht hu
   | bl b2=>rw [hd];exact SeqAt.EqAt.tuple_bool b2 ht hu
   | int i2 t2=>rw [hd];exact SeqAt.EqAt.tuple_int i2 t2 ht hu
   | str x2 t2=>rw [hd];exact SeqAt.EqAt.tuple_str x2 t2 ht hu
   | @tu _ _ es q ys jts hd2 ht2 hv2 hr2 he2 =>
    by_cases epq:p=q
    ·subst epq
     have z:nrm d=nrm e:=eN I (n+1) (n+1) h1 h2 r1 r2 rfl;rw [<- z,gN (n+1) h1];exact SeqAt.EqAt.same _
    ·refine SeqAt.EqAt.of_refs epq ?_
     have hhe:∀ j (h1:j < its.toArray.size) (h2:j < jts.toArray.size),SeqAt.EqAt A.in1 s its.toArray[j] jts.toArray[j] (bg ds es j):=fun j h1 h2=>by
      have h1':j < its.length:=by simpa using h1
      have h2':j < jts.length:=by simpa using h2
      obtain ⟨x,ex,rx⟩:=aR hv h1';obtain ⟨y,ey,ry⟩:=aR hv2 h2';obtain ⟨d',e1,q1⟩:=hr.get' ex;obtain ⟨e',e2,q2⟩:=hr2.get' ey;have z:=pd I n (A:=A.in1) (by show A.units+1+n < cLine;omega) (yZ.mp he _ (yU e1)) (yZ.mp he2 _ (yU e2)) q1 q2 rx ry
      have e3:bg ds es j=eqD d' e':=by unfold bg;rw [e1,e2]
      rw [e3];simpa using z
     have l1:its.toArray.size=ds.length:=by rw [yG,<- hv.length,<- hr.len]
     have l2:jts.toArray.size=es.length:=by rw [yG,<- hv2.length,<- hr2.len]
     have z:=SeqAt.RcAt.tuples ht ht2 hu hhe;rw [l1,l2] at z;rw [hd,hd2]
     show SeqAt.RcAt A s (.ref p) (.ref q) ((dj (bA ds) (bA es)))
     rw [cT];exact z
   | li hd2 ht2 hv2 hr2 he2=>rw [hd,hd2];exact SeqAt.EqAt.tuple_list ht ht2 hu
  | @li n _ ds p xs its hd ht hv hr he =>
   cases v2 with
   | non=>rw [hd];exact SeqAt.EqAt.list_none ht hu
   | bl b2=>rw [hd];exact SeqAt.EqAt.list_bool b2 ht hu
   | int i2 t2=>rw [hd];exact SeqAt.EqAt.list_int i2 t2 ht hu
   | str x2 t2=>rw [hd];exact SeqAt.EqAt.list_str x2 t2 ht hu
   | tu hd2 ht2 hv2 hr2 he2=>rw [hd,hd2];exact SeqAt.EqAt.list_tuple ht ht2 hu
   | @li _ _ es q ys jts hd2 ht2 hv2 hr2 he2 =>
    by_cases epq:p=q
    ·subst epq
     have z:nrm d=nrm e:=eN I (n+1) (n+1) h1 h2 r1 r2 rfl;rw [<- z,gN (n+1) h1];exact SeqAt.EqAt.same _
    ·refine SeqAt.EqAt.of_refs epq ?_
     have hhe:∀ j (h1:j < its.toArray.size) (h2:j < jts.toArray.size),SeqAt.EqAt A.in1 s its.toArray[j] jts.toArray[j] (bg ds es j):=fun j h1 h2=>by
      have h1':j < its.length:=by simpa using h1
      have h2':j < jts.length:=by simpa using h2
      obtain ⟨x,ex,rx⟩:=aR hv h1';obtain ⟨y,ey,ry⟩:=aR hv2 h2';obtain ⟨d',e1,q1⟩:=hr.get' ex;obtain ⟨e',e2,q2⟩:=hr2.get' ey;have z:=pd I n (A:=A.in1) (by show A.units+1+n < cLine;omega) (yZ.mp he _ (yU e1)) (yZ.mp he2 _ (yU e2)) q1 q2 rx ry
      have e3:bg ds es j=eqD d' e':=by unfold bg;rw [e1,e2]
      rw [e3];simpa using z
     have l1:its.toArray.size=ds.length:=by rw [yG,<- hv.length,<- hr.len]
     have l2:jts.toArray.size=es.length:=by rw [yG,<- hv2.length,<- hr2.len]
     rw [hd,hd2]
     show SeqAt.RcAt A s (.ref p) (.ref q) ((dj (bA ds) (bA es)))
     by_cases hl:ds.length=es.length
     ·have z:=SeqAt.RcAt.lists ht ht2 (by rw [l1,l2];exact hl) hu hhe
      rw [l1] at z;rw [cT,<- hl,Am,AO,zS];exact z
     ·have z:=SeqAt.RcAt.lists_lengths ht ht2 (by rw [l1,l2];simpa using hl) hu
      rw [cT,zP.mpr hl,zU];exact z
 termination_by n=>n
theorem rcAt(I:Inv X pins σ H s)(n:Nat){A:Around}{d e:D}{v v':V}{u w:Value}(hu0:A.units+n < cLine)(h1:ad n d=true)(h2:ad n e=true)(r1:ay X.K H d v)(r2:ay X.K H e v')(ru:ax v u)(rw':ax v' w):SeqAt.RcAt A s u w (eqD d e):=by
 have hu:A.units < cLine:=by omega
 have v1:=im I h1 r1 ru;have v2:=im I h2 r2 rw';unfold eqD
 cases v1 with
 | non =>
  cases v2 with
  | non=>exact SeqAt.RcAt.none_none
  | bl b2=>exact SeqAt.RcAt.none_bool b2
  | int i2 t2=>exact SeqAt.RcAt.none_int i2 t2
  | str x2 t2=>exact SeqAt.RcAt.none_str x2 t2
  | tu hd2 ht2 hv2 hr2 he2=>rw [hd2];exact SeqAt.RcAt.none_tuple ht2 hu
  | li hd2 ht2 hv2 hr2 he2=>rw [hd2];exact SeqAt.RcAt.none_list ht2 hu
 | bl b1 =>
  cases v2 with
  | non=>exact SeqAt.RcAt.bool_none b1
  | bl b2=>exact SeqAt.RcAt.bool_bool b1 b2
  | int i2 t2=>exact SeqAt.RcAt.bool_int b1 i2 t2
  | str x2 t2=>exact SeqAt.RcAt.bool_str b1 x2 t2
  | tu hd2 ht2 hv2 hr2 he2=>rw [hd2];exact SeqAt.RcAt.bool_tuple b1 ht2 hu
  | li hd2 ht2 hv2 hr2 he2=>rw [hd2];exact SeqAt.RcAt.bool_list b1 ht2 hu
 | int i1 t1 =>
  cases v2 with
  | non=>exact SeqAt.RcAt.int_none i1 t1
  | bl b2=>exact SeqAt.RcAt.int_bool i1 t1 b2
  | int i2 t2=>exact SeqAt.RcAt.int_int i1 t1 i2 t2
  | str x2 t2=>exact SeqAt.RcAt.int_str i1 t1 x2 t2
  | tu hd2 ht2 hv2 hr2 he2=>rw [hd2];exact SeqAt.RcAt.int_tuple i1 t1 ht2 hu
  | li hd2 ht2 hv2 hr2 he2=>rw [hd2];exact SeqAt.RcAt.int_list i1 t1 ht2 hu
 | str x1 t1 =>
  cases v2 with
  | non=>exact SeqAt.RcAt.str_none x1 t1
  | bl b2=>exact SeqAt.RcAt.str_bool x1 t1 b2
  | int i2 t2=>exact SeqAt.RcAt.str_int x1 t1 i2 t2
  | str x2 t2=>exact SeqAt.RcAt.str_str x1 t1 x2 t2
  | tu hd2 ht2 hv2 hr2 he2=>rw [hd2];exact SeqAt.RcAt.str_tuple x1 t1 ht2 hu
  | li hd2 ht2 hv2 hr2 he2=>rw [hd2];exact SeqAt.RcAt.str_list x1 t1 ht2 hu
 | @tu n _ ds p xs its hd ht hv hr he =>
  cases v2 with
  | non=>rw [hd];exact SeqAt.RcAt.tuple_none ht hu
  | bl b2=>rw [hd];exact SeqAt.RcAt.tuple_bool b2 ht hu
  | int i2 t2=>rw [hd];exact SeqAt.RcAt.tuple_int i2 t2 ht hu
  | str x2 t2=>rw [hd];exact SeqAt.RcAt.tuple_str x2 t2 ht hu
  | @tu _ _ es q ys jts hd2 ht2 hv2 hr2 he2 =>
   have hhe:∀ j (h1:j < its.toArray.size) (h2:j < jts.toArray.size),SeqAt.EqAt A.in1 s its.toArray[j] jts.toArray[j] (bg ds es j):=fun j h1 h2=>by
    have h1':j < its.length:=by simpa using h1
    have h2':j < jts.length:=by simpa using h2
    obtain ⟨x,ex,rx⟩:=aR hv h1';obtain ⟨y,ey,ry⟩:=aR hv2 h2';obtain ⟨d',e1,q1⟩:=hr.get' ex;obtain ⟨e',e2,q2⟩:=hr2.get' ey;have z:=pd I n (A:=A.in1) (by show A.units+1+n < cLine;omega) (yZ.mp he _ (yU e1)) (yZ.mp he2 _ (yU e2)) q1 q2 rx ry
    have e3:bg ds es j=eqD d' e':=by unfold bg;rw [e1,e2]
    rw [e3];simpa using z
   have l1:its.toArray.size=ds.length:=by rw [yG,<- hv.length,<- hr.len]
   have l2:jts.toArray.size=es.length:=by rw [yG,<- hv2.length,<- hr2.len]
   have z:=SeqAt.RcAt.tuples ht ht2 hu hhe;rw [l1,l2] at z;rw [hd,hd2]
   show SeqAt.RcAt A s (.ref p) (.ref q) ((dj (bA ds) (bA es)))
   rw [cT];exact z
  | li hd2 ht2 hv2 hr2 he2=>rw [hd,hd2];exact SeqAt.RcAt.tuple_list ht ht2 hu
 | @li n _ ds p xs its hd ht hv hr he =>
  cases v2 with
  | non=>rw [hd];exact SeqAt.RcAt.list_none ht hu
  | bl b2=>rw [hd];exact SeqAt.RcAt.list_bool b2 ht hu
  | int i2 t2=>rw [hd];exact SeqAt.RcAt.list_int i2 t2 ht hu
  | str x2 t2=>rw [hd];exact SeqAt.RcAt.list_str x2 t2 ht hu
  | tu hd2 ht2 hv2 hr2 he2=>rw [hd,hd2];exact SeqAt.RcAt.list_tuple ht ht2 hu
  | @li _ _ es q ys jts hd2 ht2 hv2 hr2 he2 =>
   have hhe:∀ j (h1:j < its.toArray.size) (h2:j < jts.toArray.size),SeqAt.EqAt A.in1 s its.toArray[j] jts.toArray[j] (bg ds es j):=fun j h1 h2=>by
    have h1':j < its.length:=by simpa using h1
    have h2':j < jts.length:=by simpa using h2
    obtain ⟨x,ex,rx⟩:=aR hv h1';obtain ⟨y,ey,ry⟩:=aR hv2 h2';obtain ⟨d',e1,q1⟩:=hr.get' ex;obtain ⟨e',e2,q2⟩:=hr2.get' ey;have z:=pd I n (A:=A.in1) (by show A.units+1+n < cLine;omega) (yZ.mp he _ (yU e1)) (yZ.mp he2 _ (yU e2)) q1 q2 rx ry
    have e3:bg ds es j=eqD d' e':=by unfold bg;rw [e1,e2]
    rw [e3];simpa using z
   have l1:its.toArray.size=ds.length:=by rw [yG,<- hv.length,<- hr.len]
   have l2:jts.toArray.size=es.length:=by rw [yG,<- hv2.length,<- hr2.len]
   rw [hd,hd2]
   show SeqAt.RcAt A s (.ref p) (.ref q) ((dj (bA ds) (bA es)))
   by_cases hl:ds.length=es.length
   ·have z:=SeqAt.RcAt.lists ht ht2 (by rw [l1,l2];exact hl) hu hhe
    rw [l1] at z;rw [cT,<- hl,Am,AO,zS];exact z
   ·have z:=SeqAt.RcAt.lists_lengths ht ht2 (by rw [l1,l2];simpa using hl) hu
    rw [cT,zP.mpr hl,zU];exact z
theorem neAt(I:Inv X pins σ H s)(n:Nat){A:Around}{d e:D}{v v':V}{u w:Value}(hu0:A.units+n < cLine)(h1:ad n d=true)(h2:ad n e=true)(r1:ay X.K H d v)(r2:ay X.K H e v')(ru:ax v u)(rw':ax v' w):SeqAt.RcNeAt A s u w (!(eqD d e)):=by
 have hu:A.units < cLine:=by omega
 have v1:=im I h1 r1 ru;have v2:=im I h2 r2 rw';unfold eqD
 cases v1 with
 | non =>
  cases v2 with
  | non=>exact SeqAt.RcNeAt.none_none
  | bl b2=>exact SeqAt.RcNeAt.none_bool b2
  | int i2 t2=>exact SeqAt.RcNeAt.none_int i2 t2
  | str x2 t2=>exact SeqAt.RcNeAt.none_str x2 t2
  | tu hd2 ht2 hv2 hr2 he2=>rw [hd2];exact SeqAt.RcNeAt.none_tuple ht2 hu
  | li hd2 ht2 hv2 hr2 he2=>rw [hd2];exact SeqAt.RcNeAt.none_list ht2 hu
 | bl b1 =>
  cases v2 with
  | non=>exact SeqAt.RcNeAt.bool_none b1
  | bl b2=>exact SeqAt.RcNeAt.bool_bool b1 b2
  | int i2 t2=>exact SeqAt.RcNeAt.bool_int b1 i2 t2
  | str x2 t2=>exact SeqAt.RcNeAt.bool_str b1 x2 t2
  | tu hd2 ht2 hv2 hr2 he2=>rw [hd2];exact SeqAt.RcNeAt.bool_tuple b1 ht2 hu
  | li hd2 ht2 hv2 hr2 he2=>rw [hd2];exact SeqAt.RcNeAt.bool_list b1 ht2 hu
 | int i1 t1 =>
  cases v2 with
  | non=>exact SeqAt.RcNeAt.int_none i1 t1
  | bl b2=>exact SeqAt.RcNeAt.int_bool i1 t1 b2
  | int i2 t2=>exact SeqAt.RcNeAt.int_int i1 t1 i2 t2
  | str x2 t2=>exact SeqAt.RcNeAt.int_str i1 t1 x2 t2
  | tu hd2 ht2 hv2 hr2 he2=>rw [hd2];exact SeqAt.RcNeAt.int_tuple i1 t1 ht2 hu
  | li hd2 ht2 hv2 hr2 he2=>rw [hd2];exact SeqAt.RcNeAt.int_list i1 t1 ht2 hu
 | str x1 t1 =>
  cases v2 with
  | non=>exact SeqAt.RcNeAt.str_none x1 t1
  | bl b2=>exact SeqAt.RcNeAt.str_bool x1 t1 b2
  | int i2 t2=>exact SeqAt.RcNeAt.str_int x1 t1 i2 t2
  | str x2 t2=>exact SeqAt.RcNeAt.str_str x1 t1 x2 t2
  | tu hd2 ht2 hv2 hr2 he2=>rw [hd2];exact SeqAt.RcNeAt.str_tuple x1 t1 ht2 hu
  | li hd2 ht2 hv2 hr2 he2=>rw [hd2];exact SeqAt.RcNeAt.str_list x1 t1 ht2 hu
 | @tu n _ ds p xs its hd ht hv hr he =>
  cases v2 with
  | non=>rw [hd];exact SeqAt.RcNeAt.tuple_none ht hu
  | bl b2=>rw [hd];exact SeqAt.RcNeAt.tuple_bool b2 ht hu
  | int i2 t2=>rw [hd];exact SeqAt.RcNeAt.tuple_int i2 t2 ht hu
  | str x2 t2=>rw [hd];exact SeqAt.RcNeAt.tuple_str x2 t2 ht hu
  | @tu _ _ es q ys jts hd2 ht2 hv2 hr2 he2 =>
   have hhe:∀ j (h1:j < its.toArray.size) (h2:j < jts.toArray.size),SeqAt.EqAt A.in1 s its.toArray[j] jts.toArray[j] (bg ds es j):=fun j h1 h2=>by
    have h1':j < its.length:=by simpa using h1
    have h2':j < jts.length:=by simpa using h2
    obtain ⟨x,ex,rx⟩:=aR hv h1';obtain ⟨y,ey,ry⟩:=aR hv2 h2';obtain ⟨d',e1,q1⟩:=hr.get' ex;obtain ⟨e',e2,q2⟩:=hr2.get' ey;have z:=pd I n (A:=A.in1) (by show A.units+1+n < cLine;omega) (yZ.mp he _ (yU e1)) (yZ.mp he2 _ (yU e2)) q1 q2 rx ry
    have e3:bg ds es j=eqD d' e':=by unfold bg;rw [e1,e2]
    rw [e3];simpa using z
   have l1:its.toArray.size=ds.length:=by rw [yG,<- hv.length,<- hr.len]
   have l2:jts.toArray.size=es.length:=by rw [yG,<- hv2.length,<- hr2.len]
   have z:=SeqAt.RcNeAt.tuples ht ht2 hu hhe;rw [l1,l2] at z;rw [hd,hd2]
   show SeqAt.RcNeAt A s (.ref p) (.ref q) (!(dj (bA ds) (bA es)))
   rw [cT];exact z
  | li hd2 ht2 hv2 hr2 he2=>rw [hd,hd2];exact SeqAt.RcNeAt.tuple_list ht ht2 hu
 | @li n _ ds p xs its hd ht hv hr he =>
  cases v2 with
  | non=>rw [hd];exact SeqAt.RcNeAt.list_none ht hu
  | bl b2=>rw [hd];exact SeqAt.RcNeAt.list_bool b2 ht hu
  | int i2 t2=>rw [hd];exact SeqAt.RcNeAt.list_int i2 t2 ht hu
  | str x2 t2=>rw [hd];exact SeqAt.RcNeAt.list_str x2 t2 ht hu
  | tu hd2 ht2 hv2 hr2 he2=>rw [hd,hd2];exact SeqAt.RcNeAt.list_tuple ht ht2 hu
  | @li _ _ es q ys jts hd2 ht2 hv2 hr2 he2 =>
   have hhe:∀ j (h1:j < its.toArray.size) (h2:j < jts.toArray.size),SeqAt.EqAt A.in1 s its.toArray[j] jts.toArray[j] (bg ds es j):=fun j h1 h2=>by
    have h1':j < its.length:=by simpa using h1
    have h2':j < jts.length:=by simpa using h2
    obtain ⟨x,ex,rx⟩:=aR hv h1';obtain ⟨y,ey,ry⟩:=aR hv2 h2';obtain ⟨d',e1,q1⟩:=hr.get' ex;obtain ⟨e',e2,q2⟩:=hr2.get' ey;have z:=pd I n (A:=A.in1) (by show A.units+1+n < cLine;omega) (yZ.mp he _ (yU e1)) (yZ.mp he2 _ (yU e2)) q1 q2 rx ry
    have e3:bg ds es j=eqD d' e':=by unfold bg;rw [e1,e2]
    rw [e3];simpa using z
   have l1:its.toArray.size=ds.length:=by rw [yG,<- hv.length,<- hr.len]
   have l2:jts.toArray.size=es.length:=by rw [yG,<- hv2.length,<- hr2.len]
   rw [hd,hd2]
   show SeqAt.RcNeAt A s (.ref p) (.ref q) (!(dj (bA ds) (bA es)))
   by_cases hl:ds.length=es.length
   ·have z:=SeqAt.RcNeAt.lists ht ht2 (by rw [l1,l2];exact hl) hu hhe
    rw [l1] at z;rw [cT,<- hl,Am,AO,zS];exact z
   ·have z:=SeqAt.RcNeAt.lists_lengths ht ht2 (by rw [l1,l2];simpa using hl) hu
    rw [cT,zP.mpr hl,zU];exact z
end
def gEq:List D->Option (D×Bool)
 | [d,e]=>if (ad 9 d&&ad 9 e)=true then some (.bl (eqD d e),false) else none
 | _=>none
def gNe:List D->Option (D×Bool)
 | [d,e]=>if (ad 9 d&&ad 9 e)=true then some (.bl (!(eqD d e)),false) else none
 | _=>none
def rEqD(K:A9):R2:=fun x y H Q=>∃ d e,ad 9 d=true/\ad 9 e=true/\ay K H d x/\ay K H e y/\Q (.bl (eqD d e)) H
def rNeD(K:A9):R2:=fun x y H Q=>∃ d e,ad 9 d=true/\ad 9 e=true/\ay K H d x/\ay K H e y/\Q (.bl (!(eqD d e))) H
section
variable{X:Cx}
theorem uf(hu:X.A.units+9 < cLine):OpR X (compareOp .Eq) (rEqD X.K):=by
 intro pins s σ H x y v u Q I rx ry h;obtain ⟨d,e,h1,h2,r1,r2,q⟩:=h;exact rcAt I 9 hu h1 h2 r1 r2 rx ry _ _ _ _ ⟨.bl _,H,I,rfl,q⟩
theorem op_neD(hu:X.A.units+9 < cLine):OpR X (compareOp .NotEq) (rNeD X.K):=by
 intro pins s σ H x y v u Q I rx ry h;obtain ⟨d,e,h1,h2,r1,r2,q⟩:=h;exact neAt I 9 hu h1 h2 r1 r2 rx ry _ _ _ _ ⟨.bl _,H,I,rfl,q⟩
end
theorem aH{K:A9}{H Hh:Hp}{a b:D}{vs:List V}(h:iK K H Hh [a,b] vs):∃ x y,vs=[x,y]/\fb K H Hh a x/\fb K H Hh b y:=by
 match vs,h with
 | [x,y],h=>exact ⟨x,y,rfl,h.1,h.2.1⟩
theorem aI{K:A9}{H Hh:Hp}{a:D}{vs:List V}(h:iK K H Hh [a] vs):∃ x,vs=[x]/\fb K H Hh a x:=by
 match vs,h with
 | [x],h=>exact ⟨x,rfl,h.1⟩
theorem yi{K:A9}:OpS K (r2 (rEqD K)) gEq:=by
 intro vs ds H L Q d nw hm r e q
 match ds,e with
 | [a,b],e =>
  obtain ⟨x,y,rfl,ra,rb⟩:=aH r;have e:(if (ad 9 a&&ad 9 b)=true then some (D.bl (eqD a b),false) else none)=some (d,nw):=e
  split at e
  ·rename_i hc
   have hc:=(yY _ _).mp hc;cases e;exact ⟨a,b,hc.1,hc.2,ra.d az,rb.d az,q _ H (af.refl _) rfl⟩
  ·cases e
theorem os_ne{K:A9}:OpS K (r2 (rNeD K)) gNe:=by
 intro vs ds H L Q d nw hm r e q
 match ds,e with
 | [a,b],e =>
  obtain ⟨x,y,rfl,ra,rb⟩:=aH r;have e:(if (ad 9 a&&ad 9 b)=true then some (D.bl (!(eqD a b)),false) else none)=some (d,nw):=e
  split at e
  ·rename_i hc
   have hc:=(yY _ _).mp hc;cases e;exact ⟨a,b,hc.1,hc.2,ra.d az,rb.d az,q _ H (af.refl _) rfl⟩
  ·cases e
section
variable{X:Cx}
def tE:R2:=fun x y H Q=>∃ a b xs ys,x = .ref a/\y = .ref b/\H a=some (.tup xs)/\H b=some (.tup ys)/\xs.length+ys.length<=sizeLine /\
 ∀ p H',H' p=some (.tup (xs++ys))->af H H'->Q (.ref p) H'
theorem wB:OpR X (binaryOp .Add) tE:=by
 intro pins s σ H x y v u Q I rx ry h;obtain ⟨a,b,xs,ys,rfl,rfl,ha,hb,hz,q⟩:=h
 by_cases hx:xs=[]
 ·subst hx
  cases rx;cases ry;obtain ⟨its,r1,p1,_⟩:=I.tuple (X:=X) (.inl (.inl ha));obtain ⟨its2,r2,p2,_⟩:=I.tuple (X:=X) (.inl (.inl hb));cases r1;exact xq p1 p2 ⟨.ref b,H,I,rfl,q b H hb (af.refl H)⟩
 ·refine wA pins s σ H _ _ v u Q I rx ry ⟨a,b,xs,ys,rfl,rfl,.inl (.inl ha),.inl (.inl hb),hx,hz,fun e=> ?_,fun e p hp=> ?_⟩
  ·subst e
   exact q a H (by rw [zK];exact ha) (af.refl H)
  ·exact q p _ ai fun c o e'=>by rw [ah (aj e' hp)];exact e'
def rSlD:RSl:=fun x lo hi H Q=>∃ a xs,x = .ref a/\H a=some (.tup xs)/\∀ p H',H' p=some (.tup (jS xs lo hi))->af H H'->Q (.ref p) H'
theorem vP:SlR X rSlD:=by
 intro pins s σ H x v vl vu lo hi sl Q I rx hs pl pu h;obtain ⟨a,xs,rfl,hx,q⟩:=h
 by_cases hw:HT.sIx xs.length 0 lo=0/\HT.sIx xs.length xs.length hi=xs.length
 ·cases rx
  obtain ⟨its,r,ht,hz⟩:=I.tuple (X:=X) (.inl (.inl hx))
  have hlen:its.toArray.size=xs.length:=by rw [yG];exact r.length.symm
  refine ⟨"tuple",_,PyProof.Rows.slot_tuple_getitem.lookup,ht.typeIs,?_⟩;refine HT.fo ht hs pl pu (by rw [hlen];exact hw) ⟨.ref a,H,I,rfl,q a H ?_ (af.refl H)⟩
  have:jS xs lo hi=xs:=by
   unfold jS;rw [hw.1,hw.2,List.drop_zero,Nat.sub_zero,List.take_length]
  rw [this];exact hx
 ·exact sl_tup pins s σ H _ v vl vu lo hi sl Q I rx hs pl pu ⟨a,xs,rfl,.inl (.inl hx),hw,fun p hp=>q p _ ai (af.upd hp)⟩
end
def small(n:Nat):Bool:=decide (n<=1000000)
theorem jg{n:Nat}(h:small n=true):n<=sizeLine:=zu (yS h) (by decide)
theorem jf{n:Nat}(h:small n=true):n < sizeLine:=Nat.lt_of_le_of_lt (yS h) (by decide)
def gO(xs:List D)(lo hi:Option Int):List D:=(xs.drop (HT.sIx xs.length 0 lo)).take (HT.sIx xs.length xs.length hi - HT.sIx xs.length 0 lo)
theorem ag.cut{K:A9}{H:Hp}{ds:List D}{xs:List V}(h:ag K H ds xs)(lo hi:Option Int):ag K H (gO ds lo hi) (jS xs lo hi):=by
 unfold gO jS;rw [h.len];exact (h.drop _).take _
def kN(a b:Int):Bool:=decide (-(2 ^ 64) < a/\a < 2 ^ 64)||decide (-(2 ^ 64) < b/\b < 2 ^ 64)
def cz:List D->Option (D×Bool)
 | [.int a,.int b]=>some (.int (a+b),false)
 | [.lst a,.lst b]=>if small (a.length+b.length)=true then some (.lst (a++b),true) else none
 | [.tup a,.tup b]=>if small (a.length+b.length)=true then some (.tup (a++b),false) else none
 | _=>none
def lc:List D->Option (D×Bool)
 | [.int a,.int b]=>some (.int (a - b),false)
 | _=>none
def repL(n:Nat)(l:List D):List D:=(List.replicate n l).flatten
def nV:List D->Option (D×Bool)
 | [.int a,.int b]=>if kN a b=true then some (.int (a * b),false) else none
 | [.lst a,.int k]=>if (decide (-1000000<=k/\k<=1000000)&&small (a.length * k.toNat))=true then some (.lst (repL k.toNat a),true) else none
 | _=>none
def gM:List D->Option (D×Bool)
 | [.int a,.int b]=>if decide (0 < b/\b < 10000000000000000000000000000000000000000000000000000000000000000000000)=true then some (.int (a / b),false) else none
 | _=>none
def gJ:List D->Option (D×Bool)
 | [.int a,.int b]=>if decide (0 < b)=true then some (.int (a % b),false) else none
 | _=>none
def rH:List D->Option (D×Bool)
 | [.int a,.int b]=>if decide (0<=b/\b<=1000000/\a.natAbs < 2 ^ 64)=true then some (.int (a ^ b.toNat),false) else none
 | _=>none
def o8:List D->Option (D×Bool)
 | [.int a]=>some (.int (-a),false)
 | _=>none
def aT:List D->Option (List Int)
 | []=>some []
 | .int i::ds=>match aT ds with
  | some l=>some (i::l)
  | none=>none
 | _=>none
def fE:List D->Option (List Bool)
 | []=>some []
 | .bl i::ds=>match fE ds with
  | some l=>some (i::l)
  | none=>none
 | _=>none
theorem bJ:∀ {ds:List D} {l:List Int},aT ds=some l->ds=l.map D.int
 | [],l,h=>by unfold aT at h;cases h;rfl
 | d::ds,l,h=>by
  cases d<;>first | (unfold aT at h;cases h;done) | skip
  unfold aT at h
  cases e:aT ds with
  | none=>rw [e] at h;cases h
  | some l'=>rw [e] at h;cases h;rw [bJ e];rfl
theorem jK(l:List Int):aT (l.map D.int)=some l:=by
 induction l with
 | nil=>rfl
 | cons i l ih=>rw [yW];unfold aT;rw [ih]
theorem ou:∀ {ds:List D} {l:List Bool},fE ds=some l->ds=l.map D.bl
 | [],l,h=>by unfold fE at h;cases h;rfl
 | d::ds,l,h=>by
  cases d<;>first | (unfold fE at h;cases h;done) | skip
  unfold fE at h
  cases e:fE ds with
  | none=>rw [e] at h;cases h
  | some l'=>rw [e] at h;cases h;rw [ou e];rfl
theorem sj(l:List Bool):fE (l.map D.bl)=some l:=by
 induction l with
 | nil=>rfl
 | cons i l ih=>rw [yW];unfold fE;rw [ih]
def gLt:List D->Option (D×Bool)
 | [.int a,.int b]=>some (.bl (decide (a < b)),false)
 | _=>none
def gLe:List D->Option (D×Bool)
 | [.int a,.int b]=>some (.bl (decide (a<=b)),false)
 | _=>none
def gGt:List D->Option (D×Bool)
 | [.int a,.int b]=>some (.bl (decide (b < a)),false)
 | _=>none
def gGe:List D->Option (D×Bool)
 | [.int a,.int b]=>some (.bl (decide (b<=a)),false)
 | _=>none
def uA:D->Bool
 | .non=>true
 | _=>false
def gIs:List D->Option (D×Bool)
 | [d,.non]=>some (.bl (uA d),false)
 | [.bl a,.bl b]=>some (.bl (a == b),false)
 | _=>none
def l7:List D->Option (D×Bool)
 | [d,.non]=>some (.bl (!uA d),false)
 | [.bl a,.bl b]=>some (.bl (a != b),false)
 | _=>none
def rIsD:R2:=fun x y H Q=>(y = .non/\Q (.bl (decide (x = .non))) H)\/∃ a b,x = .bl a/\y = .bl b/\Q (.bl (a == b)) H
def pX:R2:=fun x y H Q=>(y = .non/\Q (.bl (!decide (x = .non))) H)\/∃ a b,x = .bl a/\y = .bl b/\Q (.bl (a != b)) H
section
variable{K:A9}
theorem nO{H Hh:Hp}{d:D}{v:V}(r:fb K H Hh d v):decide (v = .non)=uA d:=by
 cases d<;>first
  | (have r:v=_:=r;subst r;rfl)
  | (obtain ⟨p,xs,rfl,_⟩:=r;rfl)
  | (obtain ⟨p,rfl,_⟩:=r;rfl)
  | (obtain ⟨p,C,x,rfl,_⟩:=r;rfl)
theorem bC{H Hh:Hp}{i:Int}{v:V}(r:fb K H Hh (.int i) v):v = .int i:=r
theorem vT{H Hh:Hp}{i:Bool}{v:V}(r:fb K H Hh (.bl i) v):v = .bl i:=r
theorem bS{H:Hp}{L:List Addr}{ds:List D}{xs:List V}(r:ag K (hid L H) ds xs){p:Addr}(hp:H p=none):fM K H (upd H p (.lst xs)) L (.lst ds) true (.ref p) :=
 ⟨p,rfl,hp,xs,ai,(aK (fun b hb=>(yP.mp hb).elim (fun z=> .inr (by rw [z];exact hp)) .inl) fun b o _ e=>af.upd hp b o e:af (hid L H) _).repDs r⟩
theorem gD{H H':Hp}{L:List Addr}{ds:List D}{xs:List V}(hm:∀ p∈L,dC (H p))(r:ag K (hid L H) ds xs){p:Addr}(s:af H H')(hp:H' p=some (.tup xs)):fM K H H' L (.tup ds) false (.ref p):=by
 refine ⟨p,xs,rfl,?_,(aK (fun b hb=> .inl hb) fun b o _ e=>s b o e:af (hid L H) _).repDs r⟩;rw [aF (fun z=> ?_)]
 ·exact hp
 ·obtain ⟨u,q⟩:=(hm p z).some
  have e:=s p u q;rw [hp] at e;cases e;have:=hm p z;rw [q] at this;exact this
theorem os_add:OpS K (r2 fun x y H Q=>rI0 (fun i j=> .int (i+j)) x y H Q\/rCat x y H Q\/tE x y H Q) cz:=by
 intro vs ds H L Q d nw hm r e q;unfold cz at e
 split at e
 ·obtain ⟨x,y,rfl,ra,rb⟩:=aH r
  cases e;exact .inl ⟨_,_,ra,rb,q _ H (af.refl _) rfl⟩
 ·obtain ⟨x,y,rfl,⟨p,xs,rfl,h1,h2⟩,⟨p',ys,rfl,h3,h4⟩⟩:=aH r
  split at e
  ·rename_i hs
   cases e;refine .inr (.inl ⟨p,p',xs,ys,rfl,rfl,h1,h3,jg (by rw [<- h2.len,<- h4.len];exact hs),fun l hl=>q _ _ (af.upd hl) (bS (h2.app h4) hl)⟩)
  ·cases e
 ·obtain ⟨x,y,rfl,⟨p,xs,rfl,h1,h2⟩,⟨p',ys,rfl,h3,h4⟩⟩:=aH r
  split at e
  ·rename_i hs
   cases e;exact .inr (.inr ⟨p,p',xs,ys,rfl,rfl,(ao h1).2,(ao h3).2,jg (by rw [<- h2.len,<- h4.len];exact hs),fun l H' hl s=>q _ _ s (gD hm (h2.app h4) s hl)⟩)
  ·cases e
 ·cases e
theorem os_sub:OpS K (r2 (rI0 fun i j=> .int (i - j))) lc:=by
 intro vs ds H L Q d nw hm r e q;unfold lc at e
 split at e
 ·obtain ⟨x,y,rfl,ra,rb⟩:=aH r
  cases e;exact ⟨_,_,ra,rb,q _ H (af.refl _) rfl⟩
 ·cases e
theorem mZ:∀ {H:Hp} {ds:List D} {xs:List V} (n:Nat),ag K H ds xs->ag K H (repL n ds) (List.replicate n xs).flatten
 | _,_,_,0,_=>trivial
 | _,_,_,n+1,h=>by
  unfold repL;rw [zD,zD,Ar,Ar];exact h.app (mZ n h)
theorem os_mul:OpS K (r2 fun x y H Q=>rI vv (fun i j=> .int (i * j)) x y H Q\/rRep x y H Q) nV:=by
 intro vs ds H L Q d nw hm r e q;unfold nV at e
 split at e
 ·obtain ⟨x,y,rfl,ra,rb⟩:=aH r
  split at e
  ·rename_i hs
   cases e;refine .inl ⟨_,_,ra,rb,?_,q _ H (af.refl _) rfl⟩
   rcases (Bool.or_eq_true _ _).mp hs with z | z
   ·exact .inl (yS z)
   ·exact .inr (yS z)
  ·cases e
 ·rename_i a k
  obtain ⟨x,y,rfl,⟨p,xs,rfl,h1,h2⟩,rb⟩:=aH r
  split at e
  ·rename_i hs
   cases e;have hs:=(yY _ _).mp hs;have hb:=yS hs.1;refine .inr ⟨p,k,xs,rfl,rb,h1,by omega,by omega,?_,fun l hl=>q _ _ (af.upd hl) (bS (mZ k.toNat h2) hl)⟩;rw [<- h2.len];exact jg hs.2
  ·cases e
 ·cases e
theorem wideX{a b:Int}(z:0 < b/\b < 10000000000000000000000000000000000000000000000000000000000000000000000):vw a b:=⟨z.1,(show (10000000000000000000000000000000000000000000000000000000000000000000000:Int)=10 ^ 70 by decide) ▸ z.2⟩
theorem wv:OpS K (r2 (rI vw fun i j=> .int (i / j))) gM:=by
 intro vs ds H L Q d nw hm r e q;unfold gM at e
 split at e
 ·obtain ⟨x,y,rfl,ra,rb⟩:=aH r
  split at e
  ·rename_i hs
   cases e;exact ⟨_,_,ra,rb,wideX (yS hs),q _ H (af.refl _) rfl⟩
  ·cases e
 ·cases e
theorem os_mod:OpS K (r2 (rI (fun _ j=>0 < j) fun i j=> .int (i % j))) gJ:=by
 intro vs ds H L Q d nw hm r e q;unfold gJ at e
 split at e
 ·obtain ⟨x,y,rfl,ra,rb⟩:=aH r
  split at e
  ·rename_i hs
   cases e;exact ⟨_,_,ra,rb,yS hs,q _ H (af.refl _) rfl⟩
  ·cases e
 ·cases e
theorem os_pow:OpS K (r2 (rI CPow fun i j=> .int (i ^ j.toNat))) rH:=by
 intro vs ds H L Q d nw hm r e q;unfold rH at e
 split at e
 ·obtain ⟨x,y,rfl,ra,rb⟩:=aH r
  split at e
  ·rename_i hs
   cases e;exact ⟨_,_,ra,rb,(by have z:=yS hs;exact z),q _ H (af.refl _) rfl⟩
  ·cases e
 ·cases e
theorem os_neg:OpS K (r1 (rU fun i=> .int (-i))) o8:=by
 intro vs ds H L Q d nw hm r e q;unfold o8 at e
 split at e
 ·obtain ⟨x,rfl,ra⟩:=aI r
  cases e;exact ⟨_,ra,q _ H (af.refl _) rfl⟩
 ·cases e
theorem os_lt:OpS K (r2 (rI0 fun i j=> .bl (decide (i < j)))) gLt:=by
 intro vs ds H L Q d nw hm r e q;unfold gLt at e
 split at e
 ·obtain ⟨x,y,rfl,ra,rb⟩:=aH r
  cases e;exact ⟨_,_,ra,rb,q _ H (af.refl _) rfl⟩
 ·cases e
theorem yg:OpS K (r2 (rI0 fun i j=> .bl (decide (i<=j)))) gLe:=by
 intro vs ds H L Q d nw hm r e q;unfold gLe at e
 split at e
 ·obtain ⟨x,y,rfl,ra,rb⟩:=aH r
  cases e;exact ⟨_,_,ra,rb,q _ H (af.refl _) rfl⟩
 ·cases e
theorem os_gt:OpS K (r2 (rI0 fun i j=> .bl (decide (j < i)))) gGt:=by
 intro vs ds H L Q d nw hm r e q;unfold gGt at e
 split at e
 ·obtain ⟨x,y,rfl,ra,rb⟩:=aH r
  cases e;exact ⟨_,_,ra,rb,q _ H (af.refl _) rfl⟩
 ·cases e
theorem yh:OpS K (r2 (rI0 fun i j=> .bl (decide (j<=i)))) gGe:=by
 intro vs ds H L Q d nw hm r e q;unfold gGe at e
 split at e
 ·obtain ⟨x,y,rfl,ra,rb⟩:=aH r
  cases e;exact ⟨_,_,ra,rb,q _ H (af.refl _) rfl⟩
 ·cases e
theorem os_is:OpS K (r2 rIsD) gIs:=by
 intro vs ds H L Q d nw hm r e q;unfold gIs at e
 split at e
 ·obtain ⟨x,y,rfl,ra,rb⟩:=aH r
  cases e;refine .inl ⟨rb,?_⟩;rw [nO ra];exact q _ H (af.refl _) rfl
 ·obtain ⟨x,y,rfl,ra,rb⟩:=aH r
  cases e;exact .inr ⟨_,_,ra,rb,q _ H (af.refl _) rfl⟩
 ·cases e
theorem ud:OpS K (r2 pX) l7:=by
 intro vs ds H L Q d nw hm r e q;unfold l7 at e
 split at e
 ·obtain ⟨x,y,rfl,ra,rb⟩:=aH r
  cases e;refine .inl ⟨rb,?_⟩;rw [nO ra];exact q _ H (af.refl _) rfl
 ·obtain ⟨x,y,rfl,ra,rb⟩:=aH r
  cases e;exact .inr ⟨_,_,ra,rb,q _ H (af.refl _) rfl⟩
 ·cases e
end
def gIx:List D->Option (D×Bool)
 | [.lst ds,.int i]=>match atI ds i with
  | some d=>some (d,false)
  | none=>none
 | [.klst ds,.int i]=>match atI ds i with
  | some d=>some (d,false)
  | none=>none
 | [.tup ds,.int i]=>match atI ds i with
  | some d=>some (d,false)
  | none=>none
 | [.ktup ds,.int i]=>match atI ds i with
  | some d=>some (d,false)
  | none=>none
 | _=>none
def gSl(lo hi:Option Int):D->Option (D×Bool)
 | .lst ds=>some (.lst (gO ds lo hi),true)
 | .klst ds=>some (.lst (gO ds lo hi),true)
 | .tup ds=>some (.tup (gO ds lo hi),false)
 | _=>none
def wX:List D->Option (D×Bool)
 | [d,.int i]=>gSl (some i) none d
 | _=>none
def o7:List D->Option (D×Bool)
 | [d,.int i]=>gSl none (some i) d
 | _=>none
def wW(i j:Int):List D->Option (D×Bool)
 | [d]=>gSl (some i) (some j) d
 | _=>none
def s0(K:A9):RSl:=fun x lo hi H Q=>rSlL K x lo hi H Q\/rSlD x lo hi H Q
section
variable{K:A9}
theorem mB{H:Hp}{ds:List D}{xs:List V}{i:Int}{d:D}(r:ag K H ds xs)(e:atI ds i=some d):∃ v,atI xs i=some v/\ay K H d v:=by
 unfold atI at e ⊢;rw [<- r.len]
 cases h:ixN ds.length i with
 | none=>rw [h] at e;cases e
 | some j =>
  rw [h] at e;obtain ⟨x,e1,e2⟩:=r.get (show ds[j]?=some d from e);exact ⟨x,e1,e2⟩
theorem os_ix:OpS K (r2 (rIx K)) gIx:=by
 intro vs ds H L Q d nw hm r e q;unfold gIx at e
 split at e
 ·rename_i es i
  obtain ⟨x,y,rfl,⟨p,xs,rfl,h1,h2⟩,rb⟩:=aH r
  cases ea:atI es i with
  | none=>rw [ea] at e;cases e
  | some d' =>
   rw [ea] at e;cases e;obtain ⟨v,e1,e2⟩:=mB h2 ea;exact .inl ⟨p,xs,i,v,rfl,rb,.inl (.inl h1),e1,q v H (af.refl _) e2⟩
 ·rename_i es i
  obtain ⟨x,y,rfl,⟨p,xs,rfl,h1,h2⟩,rb⟩:=aH r
  cases ea:atI es i with
  | none=>rw [ea] at e;cases e
  | some d' =>
   rw [ea] at e;cases e;obtain ⟨v,e1,e2⟩:=mB h2 ea;exact .inl ⟨p,xs,i,v,rfl,rb,az.seq h1,e1,q v H (af.refl _) e2⟩
 ·rename_i es i
  obtain ⟨x,y,rfl,⟨p,xs,rfl,h1,h2⟩,rb⟩:=aH r
  cases ea:atI es i with
  | none=>rw [ea] at e;cases e
  | some d' =>
   rw [ea] at e;cases e;obtain ⟨v,e1,e2⟩:=mB h2 ea;exact .inr (.inl ⟨p,xs,i,v,rfl,rb,.inl (.inl (ao h1).2),e1,q v H (af.refl _) e2⟩)
 ·rename_i es i
  obtain ⟨x,y,rfl,⟨p,xs,rfl,h1,h2⟩,rb⟩:=aH r
  cases ea:atI es i with
  | none=>rw [ea] at e;cases e
  | some d' =>
   rw [ea] at e;cases e;obtain ⟨v,e1,e2⟩:=mB h2 ea;exact .inr (.inl ⟨p,xs,i,v,rfl,rb,du h1,e1,q v H (af.refl _) e2⟩)
 ·cases e
theorem sM{H:Hp}{L:List Addr}{lo hi:Option Int}{x:V}{c d:D}{nw:Bool}{Q:VK}(hm:∀ p∈L,dC (H p))(r:fb K H (hid L H) c x)(e:gSl lo hi c=some (d,nw))(q:∀ v H',af H H'->fM K H H' L d nw v->Q v H'):s0 K x lo hi H Q:=by
 unfold gSl at e
 split at e
 ·obtain ⟨p,xs,rfl,h1,h2⟩:=r
  cases e;exact .inl ⟨p,xs,rfl,.inl (.inl h1),fun l hl=>q _ _ (af.upd hl) (bS (h2.cut lo hi) hl)⟩
 ·obtain ⟨p,xs,rfl,h1,h2⟩:=r
  cases e;exact .inl ⟨p,xs,rfl,az.seq h1,fun l hl=>q _ _ (af.upd hl) (bS (h2.cut lo hi) hl)⟩
 ·obtain ⟨p,xs,rfl,h1,h2⟩:=r
  cases e;exact .inr ⟨p,xs,rfl,(ao h1).2,fun l H' hl s=>q _ _ s (gD hm (h2.cut lo hi) s hl)⟩
 ·cases e
theorem os_s10:OpS K (rS10 (s0 K)) wX:=by
 intro vs ds H L Q d nw hm r e q;unfold wX at e
 split at e
 ·obtain ⟨x,y,rfl,ra,rb⟩:=aH r
  exact ⟨_,rb,sM hm ra e q⟩
 ·cases e
theorem os_s01:OpS K (rS01 (s0 K)) o7:=by
 intro vs ds H L Q d nw hm r e q;unfold o7 at e
 split at e
 ·obtain ⟨x,y,rfl,ra,rb⟩:=aH r
  exact ⟨_,rb,sM hm ra e q⟩
 ·cases e
theorem os_s11{i j:Int}:OpS K (rS11 (s0 K) i j) (wW i j):=by
 intro vs ds H L Q d nw hm r e q;unfold wW at e
 split at e
 ·obtain ⟨x,rfl,ra⟩:=aI r
  exact ⟨i,rfl,j,rfl,sM hm ra e q⟩
 ·cases e
end
section
variable{X:Cx}
theorem wC:OpR X (binaryOp .Add) (fun x y H Q=>rI0 (fun i j=> .int (i+j)) x y H Q\/rCat x y H Q\/tE x y H Q):=op_add.or (ug.or wB)
theorem wx:OpR X (binaryOp .Mult) (fun x y H Q=>rI vv (fun i j=> .int (i * j)) x y H Q\/rRep x y H Q):=op_mul.or op_rep
theorem oJ:SlR X (s0 X.K):=vQ.or vP
theorem op_isD:OpR X (compareOp .Is) rIsD:=op_isN.or op_isB
theorem re:OpR X (compareOp .IsNot) pX:=ww.or rf
end
def ins(x:Int):List Int->List Int
 | []=>[x]
 | y::l=>if x<=y then x::y::l else y::ins x l
def eU:List Int->List Int
 | []=>[]
 | x::l=>ins x (eU l)
theorem jM(x:Int):∀ l:List Int,(ins x l).Perm (x::l)
 | []=> .refl _
 | y::l=>by
  unfold ins
  split
  ·exact .refl _
  ·exact ((jM x l).cons y).trans (.swap x y l)
theorem fY:∀ l:List Int,(eU l).Perm l
 | []=> .refl _
 | x::l=>(jM x _).trans ((fY l).cons x)
theorem jL(x:Int):∀ {l:List Int},l.Pairwise (·<= ·)->(ins x l).Pairwise (·<= ·)
 | [],_=>by unfold ins;simp
 | y::l,h=>by
  unfold ins;have hy:=zn.mp h
  split
  ·rename_i hxy
   exact zn.mpr ⟨fun z hz=>(yP.mp hz).elim (fun e=>e ▸ hxy) fun hz=>Int.le_trans hxy (hy.1 z hz),h⟩
  ·rename_i hxy
   refine zn.mpr ⟨fun z hz=> ?_,jL x hy.2⟩
   rcases yP.mp ((jM x l).mem_iff.mp hz) with e | hz
   ·rw [e];omega
   ·exact hy.1 z hz
theorem dS:∀ l:List Int,(eU l).Pairwise (·<= ·)
 | []=> .nil
 | x::l=>jL x (dS l)
theorem bt:∀ {a b:List Int},a.Pairwise (·<= ·)->b.Pairwise (·<= ·)->a.Perm b->a=b
 | [],b,_,_,h=>(h.symm.eq_nil).symm ▸ rfl
 | x::a,[],_,_,h=>absurd h.eq_nil (by simp)
 | x::a,y::b,h1,h2,h=>by
  have g1:=zn.mp h1;have g2:=zn.mp h2
  have e:x=y:=by
   have m1:x∈y::b:=h.mem_iff.mp yL;have m2:y∈x::a:=h.mem_iff.mpr yL;have l1:y<=x:=(yP.mp m1).elim (fun e=>e ▸ Int.le_refl _) (g2.1 x);have l2:x<=y:=(yP.mp m2).elim (fun e=>e ▸ Int.le_refl _) (g1.1 y);omega
  subst e;rw [bt g1.2 g2.2 h.cons_inv]
def nG:List Int->Int
 | []=>0
 | [x]=>x
 | x::y::l=>if nG (y::l)<=x then x else nG (y::l)
def nF:List Int->Int
 | []=>0
 | [x]=>x
 | x::y::l=>if x<=nF (y::l) then x else nF (y::l)
theorem lX:∀ {l:List Int},l≠[]->nG l∈l/\∀ a∈l,a<=nG l
 | [],h=>absurd rfl h
 | [x],_=>by unfold nG;simp
 | x::y::l,_=>by
  obtain ⟨h1,h2⟩:=lX (l:=y::l) (by simp);unfold nG
  split
  ·rename_i hx
   exact ⟨yL,fun a ha=>(yP.mp ha).elim (fun e=>e ▸ Int.le_refl _) fun ha=>Int.le_trans (h2 a ha) hx⟩
  ·rename_i hx
   exact ⟨yH _ h1,fun a ha=>(yP.mp ha).elim (fun e=>by rw [e];omega) (h2 a)⟩
theorem lW:∀ {l:List Int},l≠[]->nF l∈l/\∀ a∈l,nF l<=a
 | [],h=>absurd rfl h
 | [x],_=>by unfold nF;simp
 | x::y::l,_=>by
  obtain ⟨h1,h2⟩:=lW (l:=y::l) (by simp);unfold nF
  split
  ·rename_i hx
   exact ⟨yL,fun a ha=>(yP.mp ha).elim (fun e=>e ▸ Int.le_refl _) fun ha=>Int.le_trans hx (h2 a ha)⟩
  ·rename_i hx
   exact ⟨yH _ h1,fun a ha=>(yP.mp ha).elim (fun e=>by rw [e];omega) (h2 a)⟩
def dd(ns:List Int):List Int:=ns.foldl step_dedup []
section
variable{X:Cx}
end
def di:List D->Option (D×Bool)
 | [.lst ds]=>some (.int ds.length,false)
 | [.klst ds]=>some (.int ds.length,false)
 | [.tup ds]=>some (.int ds.length,false)
 | [.ktup ds]=>some (.int ds.length,false)
 | [.dK ks _]=>some (.int ks.length,false)
 | [.dT ks _]=>some (.int ks.length,false)
 | [.set l]=>if decide (l.length<=1000)=true then some (.int l.length,false) else none
 | _=>none
def xZ(X:Cx):List V->Hp->VK->Prop:=fun xs H Q=>(∃ p ys,xs=[V.ref p]/\(SqL X.K H p ys\/SqT X.K H p ys)/\Q (.int ys.length) H)\/(∃ a kvs,xs=[V.ref a]/\H a=some (.dK kvs)/\Q (.int kvs.length) H)\/(∃ a kvs,xs=[V.ref a]/\H a=some (.dT kvs)/\Q (.int kvs.length) H)\/pW xs H Q
theorem r8{X:Cx}:aE X (.builtin "len") (xZ X):=mw.or (r6.or (rZ.or oq))
theorem os_len{X:Cx}:OpS X.K (xZ X) di:=by
 intro vs ds H L Q d nw hm r e q;unfold di at e
 split at e
 ·obtain ⟨x,rfl,⟨p,xs,rfl,h1,h2⟩⟩:=aI r
  cases e;exact .inl ⟨p,xs,rfl,.inl (.inl (.inl h1)),by rw [<- h2.len];exact q _ H (af.refl _) rfl⟩
 ·obtain ⟨x,rfl,⟨p,xs,rfl,h1,h2⟩⟩:=aI r
  cases e;exact .inl ⟨p,xs,rfl,.inl (az.seq h1),by rw [<- h2.len];exact q _ H (af.refl _) rfl⟩
 ·obtain ⟨x,rfl,⟨p,xs,rfl,h1,h2⟩⟩:=aI r
  cases e;exact .inl ⟨p,xs,rfl,.inr (.inl (.inl (ao h1).2)),by rw [<- h2.len];exact q _ H (af.refl _) rfl⟩
 ·obtain ⟨x,rfl,⟨p,xs,rfl,h1,h2⟩⟩:=aI r
  cases e;exact .inl ⟨p,xs,rfl,.inr (du h1),by rw [<- h2.len];exact q _ H (af.refl _) rfl⟩
 ·rename_i ks vs'
  obtain ⟨x,rfl,⟨p,xs,rfl,h1,h2,h3⟩⟩:=aI r;cases e;exact .inr (.inl ⟨p,_,rfl,h1,by rw [Ao,<- h2,Am];exact q _ H (af.refl _) rfl⟩)
 ·rename_i ks vs'
  obtain ⟨x,rfl,⟨p,xs,rfl,h1,h2,h3⟩⟩:=aI r;cases e;exact .inr (.inr (.inl ⟨p,_,rfl,h1,by rw [Ao,<- h2,Am];exact q _ H (af.refl _) rfl⟩))
 ·obtain ⟨x,rfl,⟨p,S,rfl,h1,h2⟩⟩:=aI r
  split at e
  ·rename_i hl
   cases e;exact .inr (.inr (.inr ⟨p,S,_,rfl,(ao h1).2,yS hl,q _ H (af.refl _) rfl⟩))
  ·cases e
 ·cases e
def gSum:List D->Option (D×Bool)
 | [.lst ds]=>match aT ds with
  | some ns=>some (.int ns.sum,false)
  | none=>none
 | [.tup ds]=>match aT ds with
  | some ns=>some (.int ns.sum,false)
  | none=>none
 | _=>none
def iQ:List D->Option (D×Bool)
 | [.lst ds]=>match fE ds with
  | some bs=>some (.bl (bs.all id),false)
  | none=>none
 | _=>none
def x9(K:A9):List V->Hp->VK->Prop:=fun xs H Q=>∃ (p:Addr) (bs:List Bool),xs=[V.ref p]/\SqL K H p (bs.map V.bl)/\Q (.bl (bs.all id)) H
theorem se{X:Cx}(hc:X.calm=true):aE X (.builtin "all") (x9 X.K):=u9 hc
theorem os_all{K:A9}:OpS K (x9 K) iQ:=by
 intro vs ds H L Q d nw hm r e q;unfold iQ at e
 split at e
 ·rename_i es
  obtain ⟨x,rfl,⟨p,xs,rfl,h1,h2⟩⟩:=aI r
  cases en:fE es with
  | none=>rw [en] at e;cases e
  | some ns =>
   rw [en] at e;cases e;rw [ou en] at h2;rw [lm h2] at h1;exact ⟨p,ns,rfl,.inl (.inl h1),q _ H (af.refl _) rfl⟩
 ·cases e
def tyD:D->Option String
 | .non=>some "NoneType"
 | .bl _=>some "bool"
 | .int _=>some "int"
 | .str _=>some "str"
 | .lst _=>some "list"
 | .klst _=>some "list"
 | .tup _=>some "tuple"
 | .ktup _=>some "tuple"
 | .dK _ _=>some "dict"
 | .dT _ _=>some "dict"
 | _=>none
def fq(C:String):List D->Option (D×Bool)
 | [d]=>match tyD d with
  | some T=>some (.bl (wQ T C),false)
  | none=>none
 | _=>none
theorem sH{K:A9}{H Hh:Hp}{d:D}{v:V}{T:String}(r:fb K H Hh d v)(s:af Hh H)(e:tyD d=some T):yn K H T v:=by
 cases d<;>first
  | (unfold tyD at e;cases e;done)
  | (unfold tyD at e;cases e;have r:v=_:=r;subst r;rfl)
  | (unfold tyD at e;cases e;obtain ⟨p,xs,rfl,h1,h2,h3⟩:=r;exact .inr (.inr ⟨rfl,.inl ⟨_,h1⟩⟩))
  | (unfold tyD at e;cases e;obtain ⟨p,xs,rfl,h1,h2,h3⟩:=r;exact .inr (.inr ⟨rfl,.inr ⟨_,h1⟩⟩))
  | (unfold tyD at e;cases e;obtain ⟨p,xs,rfl,h1,h2⟩:=r;exact .inr (.inl ⟨rfl,xs,.inl (.inl (s _ _ h1))⟩))
  | (unfold tyD at e;cases e;obtain ⟨p,xs,rfl,h1,h2⟩:=r;exact .inr (.inl ⟨rfl,xs,du h1⟩))
  | (unfold tyD at e;cases e;obtain ⟨p,xs,rfl,h1,h2⟩:=r;exact .inl ⟨rfl,xs,.inl (.inl h1)⟩)
  | (unfold tyD at e;cases e;obtain ⟨p,xs,rfl,h1,h2⟩:=r;exact .inl ⟨rfl,xs,s.seq h1⟩)
def rIsiC(K:A9)(C:String):List V->Hp->VK->Prop
 | [x],H,Q=>rIsi K [x,.ty C] H Q
 | _,_,_=>False
theorem os_isi{K:A9}{C:String}(hC:isiC C):OpS K (rIsiC K C) (fq C):=by
 intro vs ds H L Q d nw hm r e q;unfold fq at e
 split at e
 ·rename_i c
  obtain ⟨x,rfl,ra⟩:=aI r
  cases et:tyD c with
  | none=>rw [et] at e;cases e
  | some T =>
   rw [et] at e;cases e;exact ⟨x,T,C,rfl,hC,sH ra az et,q _ H (af.refl _) rfl⟩
 ·cases e
theorem vf{X:Cx}{EX:EXT}{e:Expr}{a:Arg}{C:String}{nC:Str}{p1 p2 pos:Pos}(hC:isiC C)(he:JB X EX e a)(g1:Gl X "isinstance")(m1:X.mg "isinstance" = none)(g2:Gl X nC)(m2:X.mg nC=none)(b2:bootBuiltins nC=some (.type C))
 (hn:nC ≠ "__name__" := by decide) (hdb:(nC == ("__debug__" : Str))=false:=by decide)
 (hs:starEach [e,.Name nC p1] X.env=(false,eval e X.env)::starEach [.Name nC p1] X.env:=by rfl):JE X EX (.Call (.Name "isinstance" p2) [e,.Name nC p1] [] pos) (sOp (fq C) [a]) :=
 ⟨(gA u8 g1 m1 boot_isinstance (av he.p (av (qc (v:= .ty C) g2 m2 b2 rfl hn hdb) bX) hs) (he:=hs)).by fun σ H Q ⟨F,ρ,W,R,h⟩=>bR (os_isi hC) R h⟩
def xb:List D->Option (D×Bool)
 | [.int a,.int b]=>some (.int (if b > a then b else a),false)
 | [.lst ds]=>match aT ds with
  | some (n::ns)=>some (.int (nG (n::ns)),false)
  | _=>none
 | _=>none
def gMin:List D->Option (D×Bool)
 | [.int a,.int b]=>some (.int (if b < a then b else a),false)
 | [.lst ds]=>match aT ds with
  | some (n::ns)=>some (.int (nF (n::ns)),false)
  | _=>none
 | _=>none
def pV:List V->Hp->VK->Prop:=fun xs H Q=>∃ i j,xs=[.int i,.int j]/\Q (.int (if j > i then j else i)) H
def pU:List V->Hp->VK->Prop:=fun xs H Q=>∃ i j,xs=[.int i,.int j]/\Q (.int (if j < i then j else i)) H
theorem rX{X:Cx}(hc:X.calm=true):aE X (.builtin "max") (fun xs H Q=>pV xs H Q\/nn X.K xs H Q):=(rY hc).or (rV hc)
theorem rR{X:Cx}(hc:X.calm=true):aE X (.builtin "min") (fun xs H Q=>pU xs H Q\/nk X.K xs H Q):=(rS hc).or (rP hc)
theorem jU{M N:Int}{l:List Int}(h1:M∈l)(h2:∀ a∈l,a<=M)(h3:N∈l)(h4:∀ a∈l,a<=N):M=N:=by have:=h2 N h3;have:=h4 M h1;omega
theorem jG{M N:Int}{l:List Int}(h1:M∈l)(h2:∀ a∈l,M<=a)(h3:N∈l)(h4:∀ a∈l,N<=a):M=N:=by have:=h2 N h3;have:=h4 M h1;omega
theorem os_max{K:A9}:OpS K (fun xs H Q=>pV xs H Q\/nn K xs H Q) xb:=by
 intro vs ds H L Q d nw hm r e q;unfold xb at e
 split at e
 ·obtain ⟨x,y,rfl,ra,rb⟩:=aH r
  cases e;exact .inl ⟨_,_,by rw [bC ra,bC rb],q _ H (af.refl _) rfl⟩
 ·rename_i es
  obtain ⟨x,rfl,⟨p,xs,rfl,h1,h2⟩⟩:=aI r
  split at e
  ·rename_i n ns en
   cases e;rw [bJ en] at h2;rw [bo h2] at h1;refine .inr ⟨p,n::ns,rfl,.inl (.inl h1),by simp,fun M m1 m2=> ?_⟩;obtain ⟨z1,z2⟩:=lX (l:=n::ns) (by simp);rw [jU m1 m2 z1 z2];exact q _ H (af.refl _) rfl
  ·cases e
 ·cases e
theorem os_min{K:A9}:OpS K (fun xs H Q=>pU xs H Q\/nk K xs H Q) gMin:=by
 intro vs ds H L Q d nw hm r e q;unfold gMin at e
 split at e
 ·obtain ⟨x,y,rfl,ra,rb⟩:=aH r
  cases e;exact .inl ⟨_,_,by rw [bC ra,bC rb],q _ H (af.refl _) rfl⟩
 ·rename_i es
  obtain ⟨x,rfl,⟨p,xs,rfl,h1,h2⟩⟩:=aI r
  split at e
  ·rename_i n ns en
   cases e;rw [bJ en] at h2;rw [bo h2] at h1;refine .inr ⟨p,n::ns,rfl,.inl (.inl h1),by simp,fun M m1 m2=> ?_⟩;obtain ⟨z1,z2⟩:=lW (l:=n::ns) (by simp);rw [jG m1 m2 z1 z2];exact q _ H (af.refl _) rfl
  ·cases e
 ·cases e
def dW:List D->Option (D×Bool)
 | [.lst ds]=>match aT ds with
  | some ns=>if decide (ns.length < 64)=true then some (.lst ((eU ns).map D.int),true) else none
  | none=>none
 | [.tup ds]=>match aT ds with
  | some ns=>if decide (ns.length < 64)=true then some (.lst ((eU ns).map D.int),true) else none
  | none=>none
 | _=>none
theorem mq{X:Cx}:aE X (.builtin "sorted") (fun xs H Q=>fT X.K xs H Q\/fS X.K xs H Q):=ml.or mj
theorem qW{K:A9}:OpS K (fun xs H Q=>fT K xs H Q\/fS K xs H Q) dW:=by
 intro vs ds H L Q d nw hm r e q;unfold dW at e
 have fin:∀ (ns:List Int) l (ms:List Int),H l=none->List.Perm ms ns->ms.Pairwise (·<= ·)->(∀ v H',af H H'->fM K H H' L (.lst ((eU ns).map D.int)) true v->Q v H')->Q (.ref l) (upd H l (.lst (ms.map V.int))):=fun ns l ms hl hp hs q=>by
  have:ms=eU ns:=bt hs (dS ns) (hp.trans (fY ns).symm);subst this;exact q _ _ (af.upd hl) (bS (cV _) hl)
 split at e
 ·rename_i es
  obtain ⟨x,rfl,⟨p,xs,rfl,h1,h2⟩⟩:=aI r
  cases en:aT es with
  | none=>rw [en] at e;cases e
  | some ns =>
   rw [en] at e;dsimp only at e
   split at e
   ·rename_i hl
    cases e;rw [bJ en] at h2;rw [bo h2] at h1;exact .inl ⟨p,ns,rfl,.inl (.inl h1),yS hl,fun l ms a b c=>fin ns l ms a b c q⟩
   ·cases e
 ·rename_i es
  obtain ⟨x,rfl,⟨p,xs,rfl,h1,h2⟩⟩:=aI r
  cases en:aT es with
  | none=>rw [en] at e;cases e
  | some ns =>
   rw [en] at e;dsimp only at e
   split at e
   ·rename_i hl
    cases e;rw [bJ en] at h2;rw [bo h2] at h1;exact .inr ⟨p,ns,rfl,.inl (.inl (ao h1).2),yS hl,fun l ms a b c=>fin ns l ms a b c q⟩
   ·cases e
 ·cases e
def fk(lo:Int)(n:Nat):List D:=(List.range n).map fun k=> .int (lo+(k:Nat))
def rngV(lo:Int)(n:Nat):List V:=(List.range n).map fun k=> .int (lo+(k:Nat))
theorem mX{K:A9}{H:Hp}(lo:Int)(n:Nat):ag K H (fk lo n) (rngV lo n):=by
 have:=cV (K:=K) (H:=H) ((List.range n).map fun k=>lo+((k:Nat):Int));rw [zR,zR] at this;exact this
def xU(lo hi:Int):Bool:=decide (-1000000000<=lo/\lo<=1000000000 /\ -1000000000<=hi/\hi<=1000000000/\(hi - lo).toNat<=1000)
def uH:List D->Option (D×Bool)
 | [.lst ds]=>some (.lst ds,true)
 | [.tup ds]=>some (.lst ds,true)
 | [.ktup ds]=>some (.lst ds,true)
 | [.rng lo hi]=>if xU lo hi=true then some (.lst (fk lo (hi - lo).toNat),true) else none
 | _=>none
def gb:List D->Option (D×Bool)
 | [.lst ds]=>some (.tup ds,false)
 | [.tup ds]=>some (.tup ds,false)
 | [.rng lo hi]=>if xU lo hi=true then some (.tup (fk lo (hi - lo).toNat),false) else none
 | _=>none
def iW(K:A9):List V->Hp->VK->Prop:=fun xs H Q=>∃ p ys,xs=[.ref p]/\(SqL K H p ys\/SqT K H p ys)/\∀ l,H l=none->Q (.ref l) (upd H l (.lst ys))
def nj(K:A9):List V->Hp->VK->Prop:=fun xs H Q=>∃ p ys,xs=[.ref p]/\((SqL K H p ys/\∀ l,H l=none->Q (.ref l) (upd H l (.tup ys)))\/(SqT K H p ys/\Q (.ref p) H))
theorem pz{X:Cx}(hc:X.calm=true):aE X (.type "list") (fun xs H Q=>iW X.K xs H Q\/jk xs H Q):=mr.or (px hc)
theorem oj{X:Cx}(hc:X.calm=true):aE X (.type "tuple") (fun xs H Q=>nj X.K xs H Q\/sZ xs H Q):=ky.or (rN hc)
theorem wu{K:A9}:OpS K (fun xs H Q=>iW K xs H Q\/jk xs H Q) uH:=by
 intro vs ds H L Q d nw hm r e q;unfold uH at e
 split at e
 ·obtain ⟨x,rfl,⟨p,xs,rfl,h1,h2⟩⟩:=aI r
  cases e;exact .inl ⟨p,xs,rfl,.inl (.inl (.inl h1)),fun l hl=>q _ _ (af.upd hl) (bS h2 hl)⟩
 ·obtain ⟨x,rfl,⟨p,xs,rfl,h1,h2⟩⟩:=aI r
  cases e;exact .inl ⟨p,xs,rfl,.inr (.inl (.inl (ao h1).2)),fun l hl=>q _ _ (af.upd hl) (bS h2 hl)⟩
 ·obtain ⟨x,rfl,⟨p,xs,rfl,h1,h2⟩⟩:=aI r
  cases e;exact .inl ⟨p,xs,rfl,.inr (du h1),fun l hl=>q _ _ (af.upd hl) (bS h2 hl)⟩
 ·rename_i lo hi
  obtain ⟨x,rfl,⟨p,rfl,h1⟩⟩:=aI r
  split at e
  ·rename_i hk
   cases e;have hk:=yS hk;exact .inr ⟨p,lo,hi,rfl,(ao h1).2,by omega,by omega,by omega,by omega,hk.2.2.2.2,fun l hl=>q _ _ (af.upd hl) (bS (mX _ _) hl)⟩
  ·cases e
 ·cases e
theorem t4{K:A9}:OpS K (fun xs H Q=>nj K xs H Q\/sZ xs H Q) gb:=by
 intro vs ds H L Q d nw hm r e q;unfold gb at e
 split at e
 ·obtain ⟨x,rfl,⟨p,xs,rfl,h1,h2⟩⟩:=aI r
  cases e;exact .inl ⟨p,xs,rfl,.inl ⟨.inl (.inl h1),fun l hl=>q _ _ (af.upd hl) (gD hm h2 (af.upd hl) ai)⟩⟩
 ·obtain ⟨x,rfl,⟨p,xs,rfl,h1,h2⟩⟩:=aI r
  cases e;exact .inl ⟨p,xs,rfl,.inr ⟨.inl (.inl (ao h1).2),q _ _ (af.refl _) ⟨p,xs,rfl,h1,h2⟩⟩⟩
 ·rename_i lo hi
  obtain ⟨x,rfl,⟨p,rfl,h1⟩⟩:=aI r
  split at e
  ·rename_i hk
   cases e;have hk:=yS hk;exact .inr ⟨p,lo,hi,rfl,(ao h1).2,by omega,by omega,by omega,by omega,hk.2.2.2.2,fun l hl=>q _ _ (af.upd hl) (gD hm (mX _ _) (af.upd hl) ai)⟩
  ·cases e
 ·cases e
theorem jB{K:A9}{H:Hp}{L:List Addr}{p:Addr}{o:HO}(hm:∀ p∈L,dC (H p))(hp:H p=none):hid L (upd H p o) p=some o:=by
 rw [aF (fun z=>by have:=hm p z;rw [hp] at this;exact this)];exact ai
def uK:List D->Option (D×Bool)
 | [.int i]=>some (.int i,false)
 | [.bl b]=>some (.int (if b then 1 else 0),false)
 | _=>none
def x8:List V->Hp->VK->Prop:=fun xs H Q=>(∃ i,xs=[.int i]/\Q (.int i) H)\/∃ k,xs=[.bl k]/\Q (.int (if k then 1 else 0)) H
theorem r9{X:Cx}:aE X (.type "int") x8:=sd
theorem os_int{K:A9}:OpS K x8 uK:=by
 intro vs ds H L Q d nw hm r e q;unfold uK at e
 split at e
 ·obtain ⟨x,rfl,ra⟩:=aI r
  cases e;exact .inl ⟨_,by rw [bC ra],q _ H (af.refl _) rfl⟩
 ·obtain ⟨x,rfl,ra⟩:=aI r
  cases e;exact .inr ⟨_,by rw [vT ra],q _ H (af.refl _) rfl⟩
 ·cases e
def gf:List D->Option (D×Bool)
 | [.int j]=>some (.rng 0 j,false)
 | [.int i,.int j]=>some (.rng i j,false)
 | _=>none
def xY:List V->Hp->VK->Prop:=fun xs H Q=>(∃ j:Int,xs=[V.int j]/\∀ l,H l=none->Q (.ref l) (upd H l (.rng 0 j)))\/(∃ i j:Int,xs=[V.int i,V.int j]/\∀ l,H l=none->Q (.ref l) (upd H l (.rng i j)))
theorem om{X:Cx}:aE X (.type "range") xY:=u6
theorem t9{K:A9}:OpS K xY gf:=by
 intro vs ds H L Q d nw hm r e q;unfold gf at e
 split at e
 ·obtain ⟨x,rfl,ra⟩:=aI r
  cases e;exact .inl ⟨_,by rw [bC ra],fun l hl=>q _ _ (af.upd hl) ⟨l,rfl,jB (K:=K) hm hl⟩⟩
 ·obtain ⟨x,y,rfl,ra,rb⟩:=aH r
  cases e;exact .inr ⟨_,_,by rw [bC ra,bC rb],fun l hl=>q _ _ (af.upd hl) ⟨l,rfl,jB (K:=K) hm hl⟩⟩
 ·cases e
def jH:D->Option Key
 | .int i=>some (.inl i)
 | .str x=>some (.inr x)
 | _=>none
def fX:List D->Option (List Key)
 | []=>some []
 | d::ds=>match jH d,fX ds with
  | some k,some l=>some (k::l)
  | _,_=>none
theorem ie{K:A9}{H:Hp}{d:D}{v:V}{k:Key}(e:jH d=some k)(r:ay K H d v):v=kV k:=by
 cases d<;>first | (unfold jH at e;cases e;done) | (unfold jH at e;cases e;exact r)
theorem fW{K:A9}{H:Hp}:∀ {ds:List D} {xs:List V} {k:List Key},fX ds=some k->ag K H ds xs->xs=k.map kV
 | [],[],k,e,_=>by unfold fX at e;cases e;rfl
 | d::ds,x::xs,k,e,h=>by
  unfold fX at e
  cases e1:jH d with
  | none=>rw [e1] at e;cases e
  | some k1 =>
   cases e2:fX ds with
   | none=>rw [e1,e2] at e;cases e
   | some l =>
    rw [e1,e2] at e;cases e;rw [ie e1 h.1,fW e2 h.2];rfl
 | [],_::_,_,_,h=>h.elim
 | _::_,[],_,_,h=>h.elim
section
variable{κ:Type}[DecidableEq κ]
def bO:List κ->List D->κ->Option D
 | k::ks,d::ds,x=>if k=x then some d else bO ks ds x
 | _,_,_=>none
def eQ:List κ->List D->κ->D->List κ×List D
 | k::ks,d::ds,x,y=>if k=x then (k::ks,y::ds) else ((k::(eQ ks ds x y).1),d::(eQ ks ds x y).2)
 | _,_,x,y=>([x],[y])
theorem hV{K:A9}{H:Hp}:∀ {ks:List κ} {ds:List D} {xs:List V} {x:κ},ks.length=xs.length->ag K H ds xs ->
 (∀ d,bO ks ds x=some d->∃ v,gu (ks.zip xs) x=some v/\ay K H d v)/\(bO ks ds x=none->gu (ks.zip xs) x=none)
 | [],[],[],_,_,_=>⟨fun d h=>(by unfold bO at h;cases h),fun _=>rfl⟩
 | k::ks,d::ds,y::xs,x,hl,h=>by
  obtain ⟨i1,i2⟩:=hV (x:=x) (Nat.succ.inj hl) h.2;have hl:ks.length=xs.length:=Nat.succ.inj hl;rw [A4]
  by_cases e:k=x
  ·rw [gq (p:=(k,y)) e]
   refine ⟨fun d' hd=> ?_,fun hd=> ?_⟩
   ·unfold bO at hd;rw [if_pos e] at hd;cases hd;exact ⟨y,rfl,h.1⟩
   ·unfold bO at hd;rw [if_pos e] at hd;cases hd
  ·rw [gt (p:=(k,y)) e]
   refine ⟨fun d' hd=> ?_,fun hd=> ?_⟩
   ·unfold bO at hd;rw [if_neg e] at hd;exact i1 d' hd
   ·unfold bO at hd;rw [if_neg e] at hd;exact i2 hd
 | [],_::_,[],_,_,h=>h.elim
 | [],[],_::_,_,_,h=>h.elim
 | [],_::_,_::_,_,hl,_=>by simp at hl
 | _::_,[],[],_,hl,_=>by simp at hl
 | _::_,[],_::_,_,_,h=>h.elim
 | _::_,_::_,[],_,_,h=>h.elim
def gy:List κ->List V->κ->V->List κ×List V
 | k::ks,d::ds,x,y=>if k=x then (k::ks,y::ds) else ((k::(gy ks ds x y).1),d::(gy ks ds x y).2)
 | _,_,x,y=>([x],[y])
theorem jm{K:A9}{H:Hp}{d:D}{v:V}(r:ay K H d v):∀ {ks:List κ} {ds:List D} {xs:List V} {x:κ},ks.length=xs.length->ag K H ds xs ->
 (gy ks xs x v).1=(eQ ks ds x d).1/\ag K H (eQ ks ds x d).2 (gy ks xs x v).2/\(gy ks xs x v).1.length=(gy ks xs x v).2.length
 | [],[],[],_,_,_=>⟨rfl,⟨r,trivial⟩,rfl⟩
 | k::ks,e::ds,y::xs,x,hl,h=>by
  obtain ⟨i1,i2,i3⟩:=jm (x:=x) r (Nat.succ.inj hl) h.2;unfold gy eQ;have hl:ks.length=xs.length:=Nat.succ.inj hl
  by_cases z:k=x
  ·rw [if_pos z,if_pos z]
   exact ⟨rfl,⟨r,h.2⟩,by simp [hl]⟩
  ·rw [if_neg z,if_neg z]
   exact ⟨by show k::_=k::_;rw [i1],⟨h.1,i2⟩,by show (k::_).length=(y::_).length;rw [yM,yM,i3]⟩
 | [],_::_,[],_,_,h=>h.elim
 | [],[],_::_,_,_,h=>h.elim
 | [],_::_,_::_,_,hl,_=>by simp at hl
 | _::_,[],[],_,hl,_=>by simp at hl
 | _::_,[],_::_,_,_,h=>h.elim
 | _::_,_::_,[],_,_,h=>h.elim
theorem jl{v:V}:∀ {ks:List κ} {xs:List V} {x:κ},ks.length=xs.length->ks.Nodup->(gy ks xs x v).1.zip (gy ks xs x v).2=fU (ks.zip xs) x v
 | [],[],x,_,_=>rfl
 | k::ks,y::xs,x,hl,nd=>by
  have hl:ks.length=xs.length:=Nat.succ.inj hl;have nd:=Ae.mp nd;have ih:=jl (v:=v) (x:=x) hl nd.2;unfold gy;rw [A4]
  by_cases z:k=x
  ·rw [if_pos z,A4]
   unfold fU;rw [if_pos (by simp [z]),yW,if_pos z]
   congr 1
   symm
   have:∀ p∈ks.zip xs,(if p.1=x then (p.1,v) else p)=p:=fun p hp=>by
    rw [if_neg (fun e=>nd.1 (by rw [z,<- e];exact (AW (show (p.1,p.2)∈_ from hp)).1))]
   exact (Af this).trans (List.map_id' _)
  ·rw [if_neg z]
   show ((k,y)::(gy ks xs x v).1.zip (gy ks xs x v).2)=_
   rw [ih];unfold fU
   have:(((k,y)::ks.zip xs).any fun kv=>decide (kv.1=x))=(ks.zip xs).any fun kv=>decide (kv.1=x):=by rw [List.any_cons];simp [z]
   rw [this]
   split
   ·rw [yW,if_neg z]
   ·rfl
 | [],_::_,_,hl,_=>by simp at hl
 | _::_,[],_,hl,_=>by simp at hl
end
def e7(ds:List D)(d:D):Bool:=ds.any fun e=>eqD e d
def xf:D->D->Option Bool
 | d,.lst ds=>if (ad 9 d&&ds.all (ad 9))=true then some (e7 ds d) else none
 | d,.tup ds=>if (ad 9 d&&ds.all (ad 9))=true then some (e7 ds d) else none
 | d,.ktup ds=>if (ad 9 d&&ds.all (ad 9))=true then some (e7 ds d) else none
 | .int i,.rng lo hi=>some (decide (lo<=i/\i < hi))
 | d,.dK ks vs=>match jH d with
  | some k=>some (bO ks vs k).isSome
  | none=>none
 | .tup ds,.dT ks vs=>match fX ds with
  | some k=>some (bO ks vs k).isSome
  | none=>none
 | _,_=>none
def gIn:List D->Option (D×Bool)
 | [d,c]=>match xf d c with
  | some b=>some (.bl b,false)
  | none=>none
 | _=>none
def dX:List D->Option (D×Bool)
 | [d,c]=>match xf d c with
  | some b=>some (.bl (!b),false)
  | none=>none
 | _=>none
def rInS(K:A9)(neg:Bool):R2:=fun x y H Q=>∃ (d:D) (p:Addr) (xs:List V) (ds:List D),y = .ref p/\(SqL K H p xs\/SqT K H p xs)/\ag K H ds xs/\ds.all (ad 9)=true/\ay K H d x/\ad 9 d=true/\Q (.bl (if neg then !e7 ds d else e7 ds d)) H
def tz(neg:Bool):R2:=fun y x H Q=>∃ a o,x = .ref a/\kg H a y o/\Q (.bl (if neg then !o.isSome else o.isSome)) H
def qP(K:A9)(neg:Bool):R2:=fun x y H Q=>rInS K neg x y H Q\/rInR neg x y H Q\/tz neg x y H Q
section
variable{X:Cx}
open Classical in
theorem gG{pins:List (Addr×Obj)}{σ:St}{H:Hp}{s:Shared}(I:Inv X pins σ H s)(hu:X.A.units+10 < cLine){d:D}{ds:List D}{x:V}{u:Value}{xs:List V}{its:List Value}(rd:ag X.K H ds xs)(rv:aq xs its)(hds:ds.all (ad 9)=true)(r:ay X.K H d x)(hd:ad 9 d=true)(ru:ax x u) :
 ∃ e:Value->Bool,(∀ y,y∈its.toArray->SeqAt.EqAt X.A.in1 s y u (e y))/\its.toArray.any e=e7 ds d:=by
 refine ⟨fun y=>decide (∃ (j:Nat) (d':D),ds[j]?=some d'/\its[j]?=some y/\eqD d' d=true),fun y hy=> ?_,?_⟩
 ·have hy:y∈its:=by simpa using hy
  obtain ⟨j,hj,rfl⟩:=Ad.mp hy;obtain ⟨v,ev,rv1⟩:=aR rv hj;obtain ⟨d',e1,q1⟩:=rd.get' ev;have hd':=yZ.mp hds _ (yU e1);have z:=pd I 9 (A:=X.A.in1) (by show X.A.units+1+9 < cLine;omega) hd' hd q1 r rv1 ru
  have e:decide (∃ (j':Nat) (d':D),ds[j']?=some d'/\its[j']?=some its[j]/\eqD d' d=true)=eqD d' d:=by
   cases hq:eqD d' d with
   | true=>exact yV ⟨j,d',e1,yD hj,hq⟩
   | false =>
    refine zd fun hZ=> ?_
    obtain ⟨j2,d2,g1,g2,g3⟩:=hZ;obtain ⟨hj2,g2'⟩:=yR.mp g2;obtain ⟨v2,ev2,rv2⟩:=aR rv hj2;rw [g2'] at rv2;have:v2=v:=rv2.inj rv1;subst this;obtain ⟨d3,e3,q3⟩:=rd.get' ev2;rw [g1] at e3;cases e3;have hn:=eN I 9 9 (yZ.mp hds _ (yU g1)) hd' q3 q1 rv1;unfold eqD at g3 hq;rw [hn,hq] at g3;cases g3
  dsimp only;rw [e];exact z
 ·rw [zM]
  unfold e7;simp only [List.any_toArray,List.any_eq_true]
  constructor
  ·rintro ⟨y,hy,hq⟩
   obtain ⟨j,d',g1,g2,g3⟩:=yS hq;exact ⟨d',yU g1,g3⟩
  ·rintro ⟨d',hd',hq⟩
   obtain ⟨j,hj,rfl⟩:=Ad.mp hd'
   have hji:j < its.length:=by rw [<- rv.length,<- rd.len];exact hj
   exact ⟨its[j],zN hji,yV ⟨j,_,yD hj,yD hji,hq⟩⟩
theorem op_inS(hu:X.A.units+10 < cLine):OpR X (compareOp .In) (rInS X.K false):=by
 intro pins s σ H x y v u Q I rx ry h;obtain ⟨d,p,xs,ds,rfl,hq,rd,hds,r,hd,q⟩:=h;cases ry
 rcases hq with hq | hq
 ·obtain ⟨its,rv,pl,_⟩:=I.list hq
  obtain ⟨e,he,ee⟩:=gG I hu rd rv hds r hd rx;refine SeqAt.in_listAt e pl.isList he ⟨.bl _,H,I,rfl,?_⟩;rw [ee];exact q
 ·obtain ⟨its,rv,pl,_⟩:=I.tuple hq
  obtain ⟨e,he,ee⟩:=gG I hu rd rv hds r hd rx;refine SeqAt.in_tupleAt e (show s.heap.IsTuple p its.toArray from pl) he ⟨.bl _,H,I,rfl,?_⟩;rw [ee];exact q
theorem qX(hu:X.A.units+10 < cLine):OpR X (compareOp .NotIn) (rInS X.K true):=by
 intro pins s σ H x y v u Q I rx ry h;obtain ⟨d,p,xs,ds,rfl,hq,rd,hds,r,hd,q⟩:=h;cases ry
 rcases hq with hq | hq
 ·obtain ⟨its,rv,pl,_⟩:=I.list hq
  obtain ⟨e,he,ee⟩:=gG I hu rd rv hds r hd rx;refine SeqAt.notIn_listAt e pl.isList he ⟨.bl _,H,I,rfl,?_⟩;rw [ee];exact q
 ·obtain ⟨its,rv,pl,_⟩:=I.tuple hq
  obtain ⟨e,he,ee⟩:=gG I hu rd rv hds r hd rx;refine SeqAt.notIn_tupleAt e (show s.heap.IsTuple p its.toArray from pl) he ⟨.bl _,H,I,rfl,?_⟩;rw [ee];exact q
theorem wy(hu:X.A.units+1 < cLine):OpR X (compareOp .In) (tz false):=by
 intro pins s σ H y x u v Q I ry rx h;obtain ⟨a,o,rfl,g,q⟩:=h;cases rx
 exact d_in hu I g ry fun s3 I3=>⟨.bl o.isSome,H,I3,rfl,q⟩
theorem oS(hu:X.A.units+1 < cLine):OpR X (compareOp .NotIn) (tz true):=by
 intro pins s σ H y x u v Q I ry rx h;obtain ⟨a,o,rfl,g,q⟩:=h;cases rx
 exact xm hu I g ry fun s3 I3=>⟨.bl (!o.isSome),H,I3,rfl,q⟩
theorem op_inA(hu:X.A.units+10 < cLine):OpR X (compareOp .In) (qP X.K false):=(op_inS hu).or (op_inR.or (wy (by omega)))
theorem qZ(hu:X.A.units+10 < cLine):OpR X (compareOp .NotIn) (qP X.K true):=(qX hu).or (qY.or (oS (by omega)))
end
section
variable{K:A9}
theorem dget_k{H Hh:Hp}{p:Addr}{ks:List Key}{ds:List D}{xs:List V}{k:Key}{y:V}(h1:H p=some (.dK (ks.zip xs)))(hl:ks.length=xs.length)(h2:ag K Hh ds xs)(hy:y=kV k) :
 ∃ o,kg H p y o/\o.isSome=(bO ks ds k).isSome/\∀ d,bO ks ds k=some d->∃ v,o=some v/\ay K Hh d v:=by
 subst hy;obtain ⟨i1,i2⟩:=hV (x:=k) hl h2;refine ⟨_,kg.k (k:=k) h1,?_,fun d hd=>i1 d hd⟩
 cases e:bO ks ds k with
 | none=>rw [i2 e];rfl
 | some d=>obtain ⟨v,e1,_⟩:=i1 d e;rw [e1];rfl
theorem dget_t{H Hh:Hp}{p b:Addr}{ks:List (List Key)}{ds:List D}{xs:List V}{k:List Key}(h1:H p=some (.dT (ks.zip xs)))(hl:ks.length=xs.length)(h2:ag K Hh ds xs)(hb:H b=some (.tup (k.map kV))) :
 ∃ o,kg H p (.ref b) o/\o.isSome=(bO ks ds k).isSome/\∀ d,bO ks ds k=some d->∃ v,o=some v/\ay K Hh d v:=by
 obtain ⟨i1,i2⟩:=hV (x:=k) hl h2;refine ⟨_,kg.t (k:=k) h1 hb,?_,fun d hd=>i1 d hd⟩
 cases e:bO ks ds k with
 | none=>rw [i2 e];rfl
 | some d=>obtain ⟨v,e1,_⟩:=i1 d e;rw [e1];rfl
theorem yq{H:Hp}{L:List Addr}{d c:D}{x y:V}{b neg:Bool}{Q:VK}(ra:fb K H (hid L H) d x)(rb:fb K H (hid L H) c y)(e:xf d c=some b)(q:Q (.bl (if neg then !b else b)) H):qP K neg x y H Q:=by
 have seq:∀ (p:Addr) (xs:List V) (ds:List D),y = .ref p->(SqL K H p xs\/SqT K H p xs)->ag K (hid L H) ds xs->(if (ad 9 d&&ds.all (ad 9))=true then some (e7 ds d) else none)=some b->qP K neg x y H Q:=fun p xs ds hy hs hr e=>by
  split at e
  ·rename_i hc
   have hc:=(yY _ _).mp hc;cases e;exact .inl ⟨d,p,xs,ds,hy,hs,az.repDs hr,hc.2,ra.d az,hc.1,q⟩
  ·cases e
 unfold xf at e
 split at e
 ·obtain ⟨p,xs,rfl,h1,h2⟩:=rb
  exact seq p xs _ rfl (.inl (.inl (.inl h1))) h2 e
 ·obtain ⟨p,xs,rfl,h1,h2⟩:=rb
  exact seq p xs _ rfl (.inr (.inl (.inl (ao h1).2))) h2 e
 ·obtain ⟨p,xs,rfl,h1,h2⟩:=rb
  exact seq p xs _ rfl (.inr (du h1)) h2 e
 ·obtain ⟨p,rfl,h1⟩:=rb
  cases e;exact .inr (.inl ⟨p,_,_,_,ra,rfl,(ao h1).2,q⟩)
 ·obtain ⟨p,xs,rfl,h1,h2,h3⟩:=rb
  split at e
  ·rename_i k ek
   cases e;obtain ⟨o,g1,g2,_⟩:=dget_k (k:=k) h1 h2 h3 (ie ek (ra.d az));exact .inr (.inr ⟨p,o,rfl,g1,by rw [g2];exact q⟩)
  ·cases e
 ·obtain ⟨p,xs,rfl,h1,h2,h3⟩:=rb
  obtain ⟨b',ys,rfl,h4,h5⟩:=ra
  split at e
  ·rename_i k ek
   cases e;have h4:=(ao h4).2;rw [fW ek h5] at h4;obtain ⟨o,g1,g2,_⟩:=dget_t (k:=k) h1 h2 h3 h4;exact .inr (.inr ⟨p,o,rfl,g1,by rw [g2];exact q⟩)
  ·cases e
 ·cases e
theorem os_in:OpS K (r2 (qP K false)) gIn:=by
 intro vs ds H L Q d nw hm r e q;unfold gIn at e
 split at e
 ·obtain ⟨x,y,rfl,ra,rb⟩:=aH r
  split at e
  ·rename_i b eb
   cases e;exact yq ra rb eb (q _ H (af.refl _) rfl)
  ·cases e
 ·cases e
theorem ub:OpS K (r2 (qP K true)) dX:=by
 intro vs ds H L Q d nw hm r e q;unfold dX at e
 split at e
 ·obtain ⟨x,y,rfl,ra,rb⟩:=aH r
  split at e
  ·rename_i b eb
   cases e;exact yq ra rb eb (q _ H (af.refl _) rfl)
  ·cases e
 ·cases e
end
def cG(j:Nat)(u:D->List D->Option (D×D))(fs:List SE):SE:=fun ρ=>match ρ[j]? with
 | some (some (_,.fz))=>none
 | some (some (.lst _,_))=>match evA (fs.map Arg.ex) ρ with
  | some (.ok ds,ρ1)=>match ρ1[j]? with
   | some (some (c,.ow))=>match u c ds with
    | some (c',d)=>some (.ok d false,ρ1.set j (some (c',.ow)))
    | none=>none
   | some (some (c,.io))=>match u c ds with
    | some (c',d)=>some (.ok d false,ρ1.set j (some (c',.io)))
    | none=>none
   | _=>none
  | some (.ex C,ρ1)=>some (.ex C,ρ1)
  | none=>none
 | _=>none
def MeS(K:A9)(r:V->List V->Hp->VK->Prop)(u:D->List D->Option (D×D)):Prop :=
 ∀ (H:Hp) (L:List Addr) (p:Addr) (c:D) (ds:List D) (vs:List V) (c' d:D) (Q:VK),aG K H (hid L H) p c->p∈L->ag K (hid L H) ds vs->u c ds=some (c',d) ->
  (∀ v o,aG K (upd H p o) (hid L H) p c'->ay K (hid L H) d v->Q v (upd H p o))->r (.ref p) vs H Q
section
variable{K:A9}{EX:EXT}{σ:St}{H:Hp}{Q:VK}
theorem wH{j:Nat}{u:D->List D->Option (D×D)}{fs:List SE}{r:V->List V->Hp->VK->Prop}(hs:MeS K r u)(hw:tV K EX (cG j u fs) σ H Q):tBM K "list" r (jc j) (tAs K EX (fs.map Arg.ex)) σ H Q:=by
 obtain ⟨F,ρ,W,R,h⟩:=hw;unfold cG at h
 revert h
 cases e0:ρ[j]? with
 | none=>exact fun h=>h.elim
 | some z =>
  cases z with
  | none=>exact fun h=>h.elim
  | some z =>
   obtain ⟨c0,m0⟩:=z
   have go:m0 ≠ .fz->∀ es,c0 = .lst es->OkV K F EX σ H W (match evA (fs.map Arg.ex) ρ with
    | some (.ok ds,ρ1)=>match ρ1[j]? with
     | some (some (c,.ow))=>match u c ds with
      | some (c',d)=>some (.ok d false,ρ1.set j (some (c',.ow)))
      | none=>none
     | some (some (c,.io))=>match u c ds with
      | some (c',d)=>some (.ok d false,ρ1.set j (some (c',.io)))
      | none=>none
     | _=>none
    | some (.ex C,ρ1)=>some (.ex C,ρ1)
    | none=>none) Q->tBM K "list" r (jc j) (tAs K EX (fs.map Arg.ex)) σ H Q:=fun hm0 es hc0 h=>by
    subst hc0;obtain ⟨v,hv,ok0⟩:=R.slot j _ _ e0
    have own0:∃ p,v = .ref p/\p∈W/\aG K H (hid (W++F.Z) H) p (.lst es):=by
     cases m0 with
     | fz=>exact absurd rfl hm0
     | ow=>exact ok0
     | io=>obtain ⟨p,a,b,c,_⟩:=ok0;exact ⟨p,a,b,c⟩
    obtain ⟨p,rfl,hp,xs,hx,_⟩:=own0;refine ⟨_,hv,.inl ⟨rfl,xs,.inl (.inl hx)⟩,lf fs R ?_⟩
    revert h
    cases evA (fs.map Arg.ex) ρ with
    | none=>exact fun h=>h
    | some q =>
     obtain ⟨q,ρ1⟩:=q
     cases q with
     | ex C=>exact fun h=>h
     | ok ds =>
      dsimp only;intro h vs H1 W1 fr1 sub1 R1 reps
      have step:∀ (c:D) (m:Md),m ≠ .fz->ρ1[j]?=some (some (c,m))->∀ c' d,u c ds=some (c',d)->OkV K F EX σ H W (some (.ok d false,ρ1.set j (some (c',m)))) Q->r (.ref p) vs H1 Q:=fun c m hm e1 c' d eu h=>by
       obtain ⟨v1,hv1,ok1⟩:=R1.slot j c m e1;rw [hv] at hv1;cases hv1
       have own1:p∈W1/\aG K H1 (hid (W1++F.Z) H1) p c:=by
        cases m with
        | fz=>exact absurd rfl hm
        | ow=>obtain ⟨p',a,b,c⟩:=ok1;cases a;exact ⟨b,c⟩
        | io=>obtain ⟨p',a,b,c,_⟩:=ok1;cases a;exact ⟨b,c⟩
       refine hs H1 (W1++F.Z) p c ds vs c' d Q own1.2 (yI _ own1.1) reps eu fun v2 o new rd=> ?_
       obtain ⟨R2,fr2⟩:=R1.write e1 hm hv new;refine h v2 _ W1 (fr1.trans fr2 fun q hq=> .inl (sub1 q hq)) sub1 ⟨?_,R2⟩;rw [ql (yI _ own1.1)];exact rd
      revert h
      split
      ·rename_i c e1
       split
       ·rename_i c' d eu
        exact fun h=>step c .ow (by decide) e1 c' d eu h
       ·exact fun h=>h.elim
      ·rename_i c e1
       split
       ·rename_i c' d eu
        exact fun h=>step c .io (by decide) e1 c' d eu h
       ·exact fun h=>h.elim
      ·exact fun h=>h.elim
   cases m0 with
   | fz=>exact fun h=>h.elim
   | ow=>cases c0<;>first | exact fun h=>h.elim | exact fun h=>go (by decide) _ rfl h
   | io=>cases c0<;>first | exact fun h=>h.elim | exact fun h=>go (by decide) _ rfl h
end
def ci:D->List D->Option (D×D)
 | .lst ds,[d]=>if small ds.length=true then some (.lst (ds++[d]),.non) else none
 | _,_=>none
def uPop:D->List D->Option (D×D)
 | .lst ds,[]=>match ds[ds.length - 1]? with
  | some d=>some (.lst ds.dropLast,d)
  | none=>none
 | _,_=>none
def gZ:D->List D->Option (D×D)
 | .lst ds,[.int i]=>if (decide (-1000000000<=i/\i<=1000000000))=true then match seqIndex? i ds.length with
  | some k=>match ds[k]? with
   | some d=>some (.lst (ds.eraseIdx k),d)
   | none=>none
  | none=>none
  else none
 | _,_=>none
section
variable{K:A9}
theorem rm:MeS K pY ci:=by
 intro H L p c ds vs c' d Q hO hp hr e q;unfold ci at e
 split at e
 ·obtain ⟨xs,h1,h2⟩:=hO
  split at e
  ·rename_i hs
   cases e
   match vs,hr with
   | [v],hr =>
    refine ⟨p,xs,v,rfl,rfl,h1,jf (by rw [<- h2.len];exact hs),q _ _ ⟨_,ai,h2.app ⟨hr.1,trivial⟩⟩ rfl⟩
  ·cases e
 ·cases e
theorem uq:MeS K tf gZ:=by
 intro H L p c ds vs c' d Q hO hp hr e q;unfold gZ at e
 split at e
 ·rename_i es i
  obtain ⟨xs,h1,h2⟩:=hO
  split at e
  ·rename_i hi
   have hi:=yS hi
   split at e
   ·rename_i k ek
    split at e
    ·rename_i d' ed
     cases e
     match vs,hr with
     | [v],hr =>
      obtain ⟨x,ex,rx⟩:=h2.get ed;exact ⟨p,xs,i,k,x,rfl,by rw [show v = .int i from hr.1],h1,by omega,by omega,by rw [<- h2.len];exact ek,ex,q _ _ ⟨_,ai,h2.erase k⟩ rx⟩
    ·cases e
   ·cases e
  ·cases e
 ·cases e
end
section
variable{X:Cx}{EX:EXT}{e:Expr}{es:List Expr}{pos p1 apos cpos:Pos}{n:Str}{j:Nat}
theorem vc{name:Str}{id:String}{u:D->List D->Option (D×D)}{fs:List SE}{r:V->List V->Hp->VK->Prop}(hs:MeS X.K r u)(hm:MtM X id r)(slot:Slot "list" name id)(hty:typeOf (.builtin id)=pure (.type "method_descriptor"))(hN:X.N[j]?=some n)(hv:Vis X.env.scope n)(ha:JF X EX (e::es) fs)
 (hbase:attributeBase (.Name n p1) name X.env (eval (.Name n p1) X.env)=eval (.Name n p1) X.env:=by rfl)
 (hfew:((backTo cpos (starEach (e::es) X.env)).all (fun x => !x.1)&&(backToKw cpos (keywordEach [] X.env)).all (fun x=>x.1.isSome)
   && decide ((e::es).length+([]:List Keyword).length+(if ([]:List Keyword).isEmpty then 0 else 1) < 30))=true:=by rfl)
 (hline:(apos.endLine == cpos.line)=true:=by rfl) (hst:starEach (e::es) X.env=(false,eval e X.env)::starEach es X.env:=by rfl) (hplain:(backTo cpos (starEach es X.env)).any (·.1)=false:=by rfl)
 (hd:(n == ("__debug__" : Str))=false:=by decide) (hcd:(n == ("__classdict__" : Str))=false:=by decide):JE X EX (.Call (.Attribute (.Name n p1) name apos) (e::es) [] cpos) (cG j u fs) :=
 ⟨(qb AC slot hty hm (dy hN hv hd hcd) ha.p hbase hfew hline hst hplain).by fun σ H Q h=>wH hs h⟩
end
def cH(u:D->D->D->Option D)(j:Nat)(f fi:SE):SS:=fun ρ=>match f ρ with
 | some (.ok d _,ρ1)=>match ρ1[j]? with
  | some (some _)=>match fi ρ1 with
   | some (.ok i _,ρ2)=>match ρ2[j]? with
    | some (some (c,.ow))=>match u c i d with
     | some c'=>some (.nx,ρ2.set j (some (c',.ow)))
     | none=>none
    | some (some (c,.io))=>match u c i d with
     | some c'=>some (.nx,ρ2.set j (some (c',.io)))
     | none=>none
    | _=>none
   | some (.ex C,ρ2)=>some (.ex C,ρ2)
   | none=>none
  | _=>none
 | some (.ex C,ρ1)=>some (.ex C,ρ1)
 | none=>none
def PuS(K:A9)(r:V->V->V->Hp->(Hp->Prop)->Prop)(u:D->D->D->Option D):Prop :=
 ∀ (H:Hp) (L:List Addr) (p:Addr) (c i d c':D) (vi vd:V) (Q:Hp->Prop),aG K H (hid L H) p c->p∈L->ay K (hid L H) i vi->ay K (hid L H) d vd->u c i d=some c' ->
  (∀ o,aG K (upd H p o) (hid L H) p c'->Q (upd H p o))->r (.ref p) vi vd H Q
theorem qk{K:A9}{EX:EXT}{u:D->D->D->Option D}{r:V->V->V->Hp->(Hp->Prop)->Prop}{j:Nat}{f fi:SE}{E:kB}{σ:St}{H:Hp}(hs:PuS K r u)(h:tVS K EX (cH u j f fi) E σ H) :
 tV K EX f σ H fun v H1=>∃ o,σ[j]?=some (some o)/\tV K EX fi σ H1 fun i H2=>r o i v H2 fun H3=>E.nx σ H3:=by
 obtain ⟨F,ρ,W,R,h⟩:=h;refine ⟨F,ρ,W,R,?_⟩;unfold cH at h
 revert h
 cases f ρ with
 | none=>exact fun h=>h
 | some q =>
  obtain ⟨q,ρ1⟩:=q
  cases q with
  | ex C=>exact fun h H2 W2 fr2 sub2 R2=>h σ H2 W2 fr2 (fun p hp=> .inl (sub2 p hp)) R2
  | ok d nw =>
   dsimp only
   cases e1:ρ1[j]? with
   | none=>exact fun h=>h.elim
   | some z =>
    cases z with
    | none=>exact fun h=>h.elim
    | some z =>
     obtain ⟨c1,m1⟩:=z;intro h v H1 W1 fr1 sub1 P1;obtain ⟨rd,R1⟩:=P1.plain;obtain ⟨o,ho,_⟩:=R1.slot j _ _ e1;refine ⟨o,ho,F,ρ1,W1,R1,?_⟩
     revert h
     dsimp only
     cases fi ρ1 with
     | none=>exact fun h=>h
     | some q =>
      obtain ⟨q,ρ2⟩:=q
      cases q with
      | ex C=>exact fun h H2 W2 fr2 sub2 R2=>h σ H2 W2 (fr1.trans fr2 fun p hp=> .inl (sub1 p hp)) (fun p hp=> .inl (sub1 p (sub2 p hp))) R2
      | ok i nw2 =>
       dsimp only;intro h vi H2 W2 fr2 sub2 P2;obtain ⟨ri,R2⟩:=P2.plain
       have step:∀ (c:D) (m:Md),m ≠ .fz->ρ2[j]?=some (some (c,m))->∀ c',u c i d=some c'->OkS K F EX H W (some (.nx,ρ2.set j (some (c',m)))) E->r o vi v H2 fun H3=>E.nx σ H3:=fun c m hm e2 c' eu h=>by
        obtain ⟨v1,hv1,ok1⟩:=R2.slot j c m e2;rw [ho] at hv1;cases hv1
        have own1:∃ p,o = .ref p/\p∈W2/\aG K H2 (hid (W2++F.Z) H2) p c:=by
         cases m with
         | fz=>exact absurd rfl hm
         | ow=>exact ok1
         | io=>obtain ⟨p',a,b,c,_⟩:=ok1;exact ⟨p',a,b,c⟩
        obtain ⟨p,rfl,hp,hO⟩:=own1
        refine hs H2 (W2++F.Z) p c i d c' vi v _ hO (yI _ hp) ri ((fr2.hid fun p hp=> .inl (sub2 p hp)).repD rd) eu fun o' new=> ?_
        obtain ⟨R3,fr3⟩:=R2.write e2 hm ho new;exact h σ _ W2 ((fr1.trans fr2 fun p hp=> .inl (sub1 p hp)).trans fr3 fun p hp=> .inl (sub1 p (sub2 p hp))) (fun p hp=> .inl (sub1 p (sub2 p hp))) R3
       revert h
       split
       ·rename_i c e2
        split
        ·rename_i c' eu
         exact fun h=>step c .ow (by decide) e2 c' eu h
        ·exact fun h=>h.elim
       ·rename_i c e2
        split
        ·rename_i c' eu
         exact fun h=>step c .io (by decide) e2 c' eu h
        ·exact fun h=>h.elim
       ·exact fun h=>h.elim
def ja:D->D->D->Option D
 | .lst ds,.int k,d=>match ixN ds.length k with
  | some n=>some (.lst (ds.set n d))
  | none=>none
 | _,_,_=>none
theorem wc{K:A9}:PuS K xX ja:=by
 intro H L p c i d c' vi vd Q hO hp ri rd e q;unfold ja at e
 split at e
 ·rename_i ds k
  obtain ⟨xs,h1,h2⟩:=hO
  split at e
  ·rename_i n en
   cases e;exact ⟨p,xs,k,n,rfl,ri,h1,by rw [<- h2.len];exact en,q _ ⟨_,ai,h2.set rd n⟩⟩
  ·cases e
 ·cases e
section
variable{X:Cx}{EX:EXT}{e i:Expr}{pos pos' p1:Pos}{n:Str}{j:Nat}{f fi:SE}
theorem s_item(he:JE X EX e f)(hi:JE X EX i fi)(hN:X.N[j]?=some n)(hv:Vis X.env.scope n)(hs:swapsWithSole [.Subscript (.Name n p1) i pos'] e pos.line X.env=pure false:=by rfl)(hw:swappedStores [.Subscript (.Name n p1) i pos'] e X.env=pure none:=by rfl)
 (h1:(assignEach [.Subscript (.Name n p1) i pos'] X.env).map (·.2)=[assign (.Subscript (.Name n p1) i pos') X.env]:=by rfl)
 (ha:∀ v,assign (.Subscript (.Name n p1) i pos') X.env v=(do
   let ov <- holding [v] (eval (.Name n p1) X.env)
   let iv <- holding [v,ov] (eval i X.env)
   standAt pos'
   holding [v,ov,iv] (setItem ov iv v)
   release [v,ov,iv] []):=by intro _;rfl)
 (hd:(n == ("__debug__" : Str))=false:=by decide) (hcd:(n == ("__classdict__" : Str))=false:=by decide):JS X EX (.Assign [.Subscript (.Name n p1) i pos'] e pos) (cH ja j f fi) :=
 ⟨(ps_asg he.p (pg_sub (dy hN hv hd hcd) hi.p sO ha) hs hw h1).by fun D σ H h=>qk wc h⟩
end
def iq:D->D->D->Option D
 | .dK ks vs,k,d=>match jH k with
  | some k=>if (small ks.length&&decide ks.Nodup)=true then some (.dK (eQ ks vs k d).1 (eQ ks vs k d).2) else none
  | none=>none
 | .dT ks vs,.tup l,d=>match fX l with
  | some k=>if (small ks.length&&decide ks.Nodup)=true then some (.dT (eQ ks vs k d).1 (eQ ks vs k d).2) else none
  | none=>none
 | _,_,_=>none
def rPutD:V->V->V->Hp->(Hp->Prop)->Prop:=fun x y v H Q=>∃ a H',x = .ref a/\mH H a y v H'/\Q H'
theorem wd{K:A9}:PuS K rPutD iq:=by
 intro H L p c i d c' vi vd Q hO hp ri rd e q;unfold iq at e
 split at e
 ·rename_i ks vs
  obtain ⟨xs,h1,h2,h3⟩:=hO
  split at e
  ·rename_i k ek
   split at e
   ·rename_i hsn
    have hsn:=(yY _ _).mp hsn;cases e;obtain ⟨i1,i2,i3⟩:=jm (x:=k) rd h2 h3;refine ⟨p,_,rfl,by rw [ie ek ri];exact mH.k (k:=k) h1 (by rw [Ao,<- h2,Am];exact jf hsn.1),q _ ⟨(gy ks xs k vd).2,?_,?_,i2⟩⟩
    ·rw [<- i1,jl h2 (yS hsn.2)]
     exact ai
    ·rw [<- i1];exact i3
   ·cases e
  ·cases e
 ·rename_i ks vs l
  obtain ⟨xs,h1,h2,h3⟩:=hO;obtain ⟨b,ys,rfl,h4,h5⟩:=ri
  split at e
  ·rename_i k ek
   split at e
   ·rename_i hsn
    have hsn:=(yY _ _).mp hsn;cases e;obtain ⟨i1,i2,i3⟩:=jm (x:=k) rd h2 h3;have h4:=(ao h4).2;rw [fW ek h5] at h4;refine ⟨p,_,rfl,mH.t (k:=k) h1 h4 (by rw [Ao,<- h2,Am];exact jf hsn.1),q _ ⟨(gy ks xs k vd).2,?_,?_,i2⟩⟩
    ·rw [<- i1,jl h2 (yS hsn.2)]
     exact ai
    ·rw [<- i1];exact i3
   ·cases e
  ·cases e
 ·cases e
section
variable{X:Cx}{EX:EXT}{e i:Expr}{pos pos' p1:Pos}{n:Str}{j:Nat}{f fi:SE}
theorem s_dput(hu:X.A.units+1 < cLine)(he:JE X EX e f)(hi:JE X EX i fi)(hN:X.N[j]?=some n)(hv:Vis X.env.scope n)(hs:swapsWith e (some (.Subscript (.Name n p1) i pos')) pos.line X.env=pure false:=by rfl)
 (hd:(n == ("__debug__" : Str))=false:=by decide) (hcd:(n == ("__classdict__" : Str))=false:=by decide):JS X EX (.Assign [.Subscript (.Name n p1) i pos'] e pos) (cH iq j f fi) :=
 ⟨(wf hu (dy hN hv hd hcd) hi.p he.p hs).by fun D σ H h=>qk wd h⟩
def pQ(d:D):SE:=fun ρ=>some (.ok d true,ρ)
theorem xu:JE X EX (.Dict [] [] pos) (pQ (.dT [] [])):=⟨tW.by fun σ H Q ⟨F,ρ,W,R,h⟩ p hp=>h _ _ W ((af.upd hp).fr) (fun _ z=>z) (fM.e (nw:=true) ⟨p,rfl,hp,[],ai,rfl,trivial⟩ R (af.upd hp))⟩
end
end L2
namespace L2
open PySem PySem.Spec PyProof.Rows ZpA
def cc:D->Option (List D)
 | .lst ds=>some ds
 | .klst ds=>some ds
 | .tup ds=>some ds
 | .ktup ds=>some ds
 | _=>none
def ItsA:Kd->A9->Addr->L2.It
 | .L=>Itl
 | .T=>Itt
theorem SqA.same{c:Kd}{K:A9}{H H':Hp}{a:Addr}{xs:List V}(e:af H H')(h:SqA c K H a xs):SqA c K H' a xs:=by
 cases c with
 | L=>exact e.seq h
 | T=>exact e.tup h
theorem pP{K:A9}{H:Hp}{d:D}{v:V}{ds:List D}(e:cc d=some ds)(r:ay K H d v):∃ a c xs,v = .ref a/\SqA c K H a xs/\ag K H ds xs:=by
 cases d<;>first
  | (unfold cc at e;cases e;done)
  | (unfold cc at e;cases e;obtain ⟨p,xs,h1,h2,h3⟩:=r;exact ⟨p,.L,xs,h1,.inl (.inl h2),h3⟩)
  | (unfold cc at e;cases e;obtain ⟨p,xs,h1,h2,h3⟩:=r;exact ⟨p,.T,xs,h1,.inl (.inl h2),h3⟩)
  | (unfold cc at e;cases e;obtain ⟨p,xs,h1,h2,h3⟩:=r;exact ⟨p,.L,xs,h1,h2,h3⟩)
  | (unfold cc at e;cases e;obtain ⟨p,xs,h1,h2,h3⟩:=r;exact ⟨p,.T,xs,h1,du h2,h3⟩)
def iSeqA(K:A9)(tl:TE):TI:=fun σ H R=>tl σ H fun x H1=>∃ a c,x = .ref a/\∃ xs,SqA c K H1 a xs/\(xs.length<=sizeLine->R (ItsA c K a) H1)
section
variable{X:Cx}{EX:EXT}{tg l:Expr}
theorem wj{tl:TE}(hl:PE X l tl):PI X tg l (iSeqA X.K tl):=by
 intro pins s σ H R I h
 refine thn (hl pins s σ H _ I h) fun v s1 ⟨x,H1,I1,r1,q1⟩=> ?_
 obtain ⟨a,c,e,xs,hq,q⟩:=q1;subst e;cases r1
 cases c with
 | L =>
  obtain ⟨its,rv,p,hz⟩:=I1.list hq;refine wpAny_pyIter_list p.isList ?_;refine ⟨s1.heap.objs.size,[s1.heap.objs.size],_,_,H1,rfl,I1.kept (t':=s1.toks) fun b o e=>yC _ e,qD a _,⟨_,yQ _ rfl,rfl,rfl⟩,fun b hb=> ?_,q hz⟩
  have e:b=s1.heap.objs.size:=by simpa using hb
  subst e;exact I1.fpOk (yO _) (I1.hok.fresh (yO _))
 | T =>
  obtain ⟨its,rv,p,hz⟩:=I1.tuple hq;refine Aj (show s1.heap.IsTuple a its.toArray from p) ?_;refine ⟨s1.heap.objs.size,[s1.heap.objs.size],_,_,H1,rfl,I1.kept (t':=s1.toks) fun b o e=>yC _ e,oE a _,⟨_,yQ _ rfl,rfl,rfl⟩,fun b hb=> ?_,q hz⟩
  have e:b=s1.heap.objs.size:=by simpa using hb
  subst e;exact I1.fpOk (yO _) (I1.hok.fresh (yO _))
theorem uz{K:A9}{L0:List Addr}{H0:Hp}{ds:List D}{xs:List V}{a:Addr}{c:Kd}(hs:SqA c K (hid L0 H0) a xs)(hr:ag K (hid L0 H0) ds xs)(hf:xs.length<=sizeLine):ItOk K L0 ds (ItsA c K a) H0 where
 go:=fun H L i d sm hm hd=>by
  obtain ⟨x0,e0,r0⟩:=hr.get hd;have sq:SqA c K H a xs:=hs.same (sm.trans az)
  cases c with
  | L=>exact ⟨⟨xs,x0,sq,e0⟩,fun x H' y=>by obtain ⟨rfl,y⟩:=y;have e:=y xs sq;rw [e0] at e;cases e;exact ⟨af.refl _,sm.repD r0⟩⟩
  | T=>exact ⟨⟨xs,x0,sq,e0⟩,fun x H' y=>by obtain ⟨rfl,y⟩:=y;have e:=y xs sq;rw [e0] at e;cases e;exact ⟨af.refl _,sm.repD r0⟩⟩
 stop:=fun H sm=>by
  have sq:SqA c K H a xs:=hs.same sm
  cases c with
  | L=>exact ⟨xs,sq,by rw [hr.len];exact yO _⟩
  | T=>exact ⟨xs,sq,by rw [hr.len];exact yO _⟩
 few:=by rw [hr.len];exact hf
def cE(f:SE):SI:=fun ρ=>match f ρ with
 | some (.ok d _,ρ')=>match cc d with
  | some ds=>some (.ok ds,ρ')
  | none=>none
 | some (.ex C,ρ')=>some (.ex C,ρ')
 | none=>none
theorem i_seq{f:SE}(h:JE X EX l f):JI X EX tg l (cE f) :=
 ⟨fun pins s σ H R I hw=>wj h.p pins s σ H R I (by
  obtain ⟨F,ρ,W,R0,h⟩:=hw;refine ⟨F,ρ,W,R0,?_⟩;unfold cE at h
  revert h
  cases f ρ with
  | none=>exact fun h=>h
  | some q =>
   obtain ⟨q,ρ1⟩:=q
   cases q with
   | ex C=>exact fun h=>h
   | ok d nw =>
    dsimp only
    cases e:cc d with
    | none=>exact fun h=>h.elim
    | some ds =>
     intro h v H1 W1 fr1 sub1 P1;obtain ⟨rd,R1⟩:=P1.plain;obtain ⟨a,c,xs,rfl,hs,hr⟩:=pP e rd
     exact ⟨a,c,rfl,xs,hs.same az,fun hf=>h _ H1 W1 fr1 sub1 R1 (uz hs hr hf)⟩)⟩
def okR(lo hi:Int):Bool:=decide (-1000000000<=lo/\lo<=1000000000 /\ -1000000000<=hi/\hi<=1000000000/\(hi - lo).toNat<=1000000)
def ku:List D->Option Int
 | [.int j]=>some j
 | _=>none
def kt:List D->Option (Int×Int)
 | [.int i,.int j]=>some (i,j)
 | _=>none
theorem uC{K:A9}{H Hh:Hp}{ds:List D}{vs:List V}{j:Int}(e:ku ds=some j)(r:iK K H Hh ds vs):vs=[.int j]:=by
 unfold ku at e
 split at e
 ·cases e
  obtain ⟨y,rfl,ry⟩:=aI r;rw [bC ry]
 ·cases e
theorem uB{K:A9}{H Hh:Hp}{ds:List D}{vs:List V}{i j:Int}(e:kt ds=some (i,j))(r:iK K H Hh ds vs):vs=[.int i,.int j]:=by
 unfold kt at e
 split at e
 ·cases e
  obtain ⟨y,z,rfl,ry,rz⟩:=aH r;rw [bC ry,bC rz]
 ·cases e
def cP(x:Arg):SI:=fun ρ=>match evA [x] ρ with
 | some (.ok ds,ρ')=>match ku ds with
  | some j=>if okR 0 j=true then some (.ok (fk 0 j.toNat),ρ') else none
  | none=>none
 | some (.ex C,ρ')=>some (.ex C,ρ')
 | none=>none
def dZ(x y:Arg):SI:=fun ρ=>match evA [x,y] ρ with
 | some (.ok ds,ρ')=>match kt ds with
  | some (i,j)=>if okR i j=true then some (.ok (fk i (j - i).toNat),ρ') else none
  | none=>none
 | some (.ex C,ρ')=>some (.ex C,ρ')
 | none=>none
theorem mY{lo:Int}{n:Nat}:(fk lo n).length=n:=by unfold fk;simp
theorem sR{lo:Int}{n i:Nat}{d:D}(h:(fk lo n)[i]?=some d):i < n/\d = .int (lo+(i:Nat)):=by
 unfold fk at h;rw [zc] at h;obtain ⟨k,hk,rfl⟩:=zv.mp h;obtain ⟨h1,h2⟩:=yR.mp hk;simp at h1 h2;subst h2;exact ⟨h1,rfl⟩
theorem nM{K:A9}{L0:List Addr}{H0:Hp}{lo:Int}{n:Nat}(hf:n<=1000000):ItOk K L0 (fk lo n) (Itr lo n) H0 where
 go:=fun H L i d sm hm hd=>by
  obtain ⟨h1,rfl⟩:=sR hd;exact ⟨h1,fun x H' y=>by obtain ⟨rfl,rfl⟩:=y;exact ⟨af.refl _,rfl⟩⟩
 stop:=fun H sm=>by rw [mY];exact yO n
 few:=by rw [mY];exact zu hf (by decide)
theorem i_rng1{a:Expr}{x:Arg}{p pos:Pos}(hg:Gl X "range")(hm:X.mg "range" = none)(ha:JA X EX [a] [x])(hs:starEach [a] X.env=[(false,eval a X.env)]:=by rfl):JI X EX tg (.Call (.Name "range" p) [a] [] pos) (cP x) :=
 ⟨fun pins s σ H R I hw=>qT hg hm ha.p hs pins s σ H R I (by
  obtain ⟨F,ρ,W,R0,h⟩:=hw;refine lA [x] R0 ?_;unfold cP at h
  revert h
  cases evA [x] ρ with
  | none=>exact fun h=>h
  | some q =>
   obtain ⟨q,ρ1⟩:=q
   cases q with
   | ex C=>exact fun h=>h
   | ok ds =>
    dsimp only
    cases e:ku ds with
    | none=>exact fun h=>h.elim
    | some j =>
     dsimp only
     split
     ·rename_i hj
      have hj:=yS hj;intro h vs H1 W1 fr1 sub1 R1 reps;exact ⟨j,uC e reps,by omega,by omega,h _ H1 W1 fr1 sub1 R1 (nM (by have:=hj.2.2.2.2;omega))⟩
     ·exact fun h=>h.elim)⟩
theorem i_rng2{a b:Expr}{x y:Arg}{p pos:Pos}(hg:Gl X "range")(hm:X.mg "range" = none)(ha:JA X EX [a,b] [x,y])(hs:starEach [a,b] X.env=[(false,eval a X.env),(false,eval b X.env)]:=by rfl)(hs2:starEach [b] X.env=[(false,eval b X.env)]:=by rfl):JI X EX tg (.Call (.Name "range" p) [a,b] [] pos) (dZ x y) :=
 ⟨fun pins s σ H R I hw=>qS hg hm ha.p hs hs2 pins s σ H R I (by
  obtain ⟨F,ρ,W,R0,h⟩:=hw;refine lA [x,y] R0 ?_;unfold dZ at h
  revert h
  cases evA [x,y] ρ with
  | none=>exact fun h=>h
  | some q =>
   obtain ⟨q,ρ1⟩:=q
   cases q with
   | ex C=>exact fun h=>h
   | ok ds =>
    dsimp only
    cases e:kt ds with
    | none=>exact fun h=>h.elim
    | some ij =>
     obtain ⟨i,j⟩:=ij;dsimp only
     split
     ·rename_i hj
      have hj:=yS hj;intro h vs H1 W1 fr1 sub1 R1 reps;exact ⟨i,j,uB e reps,⟨by omega,by omega,by omega,by omega⟩,h _ H1 W1 fr1 sub1 R1 (nM hj.2.2.2.2)⟩
     ·exact fun h=>h.elim)⟩
def cR:Nat->List D->List D
 | _,[]=>[]
 | i,d::ds=> .tup [.int (i:Nat),d]::cR (i+1) ds
theorem ik:∀ {i:Nat} {ds:List D},(cR i ds).length=ds.length
 | _,[]=>rfl
 | i,d::ds=>by unfold cR;rw [yM,yM,ik]
theorem lh:∀ {i j:Nat} {ds:List D} {e:D},(cR i ds)[j]?=some e->∃ d,ds[j]?=some d/\e = .tup [.int ((i+j:Nat)),d]
 | i,j,[],e,h=>by unfold cR at h;simp at h
 | i,0,d::ds,e,h=>by
  unfold cR at h;simp only [y0,Option.some.injEq] at h;exact ⟨d,rfl,h.symm⟩
 | i,j+1,d::ds,e,h=>by
  unfold cR at h;simp only [zi] at h ⊢;obtain ⟨d',h1,h2⟩:=lh h;exact ⟨d',h1,by rw [h2,show i+1+j=i+(j+1) by omega]⟩
def zipL:List D->List D->List D
 | a::as,b::bs=> .tup [a,b]::zipL as bs
 | _,_=>[]
def eL(f:SE):SI:=fun ρ=>match f ρ with
 | some (.ok d _,ρ')=>match cc d with
  | some ds=>some (.ok (cR 0 ds),ρ')
  | none=>none
 | some (.ex C,ρ')=>some (.ex C,ρ')
 | none=>none
theorem t3{K:A9}{H:Hp}{L:List Addr}{p:Addr}{a b:D}{x y:V}(hm:∀ p∈L,dC (H p))(hp:H p=none)(ra:ay K (hid L H) a x)(rb:ay K (hid L H) b y):ay K (hid L (upd H p (.tup [x,y]))) (.tup [a,b]) (.ref p) :=
 gD hm (show ag K (hid L H) [a,b] [x,y] from ⟨ra,rb,trivial⟩) (af.upd hp) ai
theorem i_enum{elts:List Expr}{k}{tpos:Pos}{f:SE}{p pos:Pos}(hg:Gl X "enumerate")(hm:X.mg "enumerate" = none)(h:JE X EX l f)(hs:starEach [l] X.env=[(false,eval l X.env)]:=by rfl):JI X EX (.Tuple elts k tpos) (.Call (.Name "enumerate" p) [l] [] pos) (eL f) :=
 ⟨fun pins s σ H R I hw=>tR hg hm (av h.p bX hs) hs pins s σ H R I (by
  obtain ⟨F,ρ,W,R0,h⟩:=hw;refine ⟨F,ρ,W,R0,?_⟩;unfold eL at h
  revert h
  cases f ρ with
  | none=>exact fun h=>h
  | some q =>
   obtain ⟨q,ρ1⟩:=q
   cases q with
   | ex C=>exact fun h=>h
   | ok d nw =>
    dsimp only
    cases e:cc d with
    | none=>exact fun h=>h.elim
    | some ds =>
     intro h v H1 W1 fr1 sub1 P1;obtain ⟨rd,R1⟩:=P1.plain;obtain ⟨a,c,xs,rfl,hq,hr⟩:=pP e rd;refine ⟨a,c,rfl,xs,hq.same az,fun hf=>h _ H1 W1 fr1 sub1 R1 ⟨fun H L i d sm hm hd=> ?_,fun H sm=> ?_,?_⟩⟩
     ·obtain ⟨d0,e0,rfl⟩:=lh hd
      obtain ⟨x0,ex,r0⟩:=hr.get e0;have sq:SqA c X.K H a xs:=hq.same (sm.trans az);refine ⟨⟨xs,x0,sq,ex⟩,fun x H' y=> ?_⟩;obtain ⟨p,y,rfl,hp,rfl,hy⟩:=y;have e1:=hy xs sq;rw [ex] at e1;cases e1;refine ⟨af.upd hp,?_⟩;have:=t3 (K:=X.K) (a:= .int ((i:Nat):Int)) (x:= .int (i:Nat)) hm hp rfl (sm.repD r0);rw [zE];exact this
     ·rw [ik,hr.len]
      exact ⟨xs,hq.same sm,yO _⟩
     ·rw [ik,hr.len];exact hf)⟩
def seq2:List D->Option (List D×List D)
 | [a,b]=>match cc a,cc b with
  | some x,some y=>some (x,y)
  | _,_=>none
 | _=>none
def qJ(fs:List SE):SI:=fun ρ=>match evA (fs.map Arg.ex) ρ with
 | some (.ok ds,ρ')=>match seq2 ds with
  | some (a,b)=>if decide (a.length<=b.length)=true then some (.ok (zipL a b),ρ') else none
  | none=>none
 | some (.ex C,ρ')=>some (.ex C,ρ')
 | none=>none
end
def cO(g g':List D->Option (D×Bool))(f1 f2 f3:SE):SE:=fun ρ=>match evA [.ex f1,.ex f2] ρ with
 | some (.ok [a,b],ρ1)=>match g [a,b] with
  | some (.bl true,false)=>match f3 ρ1 with
   | some (.ok c _,ρ2)=>match g' [b,c] with
    | some (d,false)=>some (.ok d false,ρ2)
    | _=>none
   | some (.ex C,ρ2)=>some (.ex C,ρ2)
   | none=>none
  | some (.bl false,false)=>some (.ok (.bl false) false,ρ1)
  | _=>none
 | some (.ok _,_)=>none
 | some (.ex C,ρ')=>some (.ex C,ρ')
 | none=>none
theorem u4{K:A9}{EX:EXT}{σ:St}{H:Hp}{Q:VK}{r r':R2}{g g':List D->Option (D×Bool)}{f1 f2 f3:SE}(hs:OpS K (r2 r) g)(hs':OpS K (r2 r') g')(hw:tV K EX (cO g g' f1 f2 f3) σ H Q):sL r r' (tV K EX f1) (tV K EX f2) (tV K EX f3) σ H Q:=by
 obtain ⟨F,ρ,W,R,h⟩:=hw
 have z:tAs K EX (([f1,f2]:List SE).map Arg.ex) σ H (fun vs H2=>match vs with
  | [x,y]=>r x y H2 fun z H3=>∃ k,z = .bl k/\(if k=true then tV K EX f3 σ H3 fun w' H4=>r' y w' H4 Q else Q (.bl false) H3)
  | _=>False):=by
  refine lf [f1,f2] R ?_;unfold cO at h
  revert h
  show OkV K F EX σ H W (match evA (([f1,f2]:List SE).map Arg.ex) ρ with
   | some (.ok [a,b],ρ1)=>match g [a,b] with
    | some (.bl true,false)=>match f3 ρ1 with
     | some (.ok c _,ρ2)=>match g' [b,c] with
      | some (d,false)=>some (.ok d false,ρ2)
      | _=>none
     | some (.ex C,ρ2)=>some (.ex C,ρ2)
     | none=>none
    | some (.bl false,false)=>some (.ok (.bl false) false,ρ1)
    | _=>none
   | some (.ok _,_)=>none
   | some (.ex C,ρ')=>some (.ex C,ρ')
   | none=>none) Q->_
  cases evA (([f1,f2]:List SE).map Arg.ex) ρ with
  | none=>exact fun h=>h
  | some q =>
   obtain ⟨q,ρ1⟩:=q
   cases q with
   | ex C=>exact fun h=>h
   | ok ds =>
    match ds with
    | []=>exact fun h=>h.elim
    | [_]=>exact fun h=>h.elim
    | _::_::_::_=>exact fun h=>h.elim
    | [a,b] =>
     dsimp only;intro h vs H1 W1 fr1 sub1 R1 reps
     match vs,reps with
     | [x,y],reps =>
      have rb:iK K H1 (hid (W1++F.Z) H1) [a,b] [x,y]:=⟨ay.b reps.1 az,ay.b reps.2.1 az,trivial⟩
      cases eg:g [a,b] with
      | none=>rw [eg] at h;exact h.elim
      | some dn =>
       obtain ⟨d,nw⟩:=dn;rw [eg] at h
       refine hs [x,y] [a,b] H1 (W1++F.Z) _ d nw R1.mt rb eg fun z H2 s2 p2=> ?_
       have fr2:Fr W H H2:=fr1.trans (s2.fr (W:=W1)) fun p hp=> .inl (sub1 p hp)
       cases d<;>first | (exact h.elim) | skip
       rename_i k
       cases nw with
       | true=>cases k<;>exact h.elim
       | false =>
        have hz:z = .bl k:=p2;refine ⟨k,hz,?_⟩;have R2:=R1.same s2
        cases k with
        | false =>
         rw [if_neg yJ];exact h _ H2 W1 fr2 sub1 ⟨rfl,R2⟩
        | true =>
         rw [if_pos rfl];refine ⟨F,ρ1,W1,R2,?_⟩
         revert h
         dsimp only
         cases f3 ρ1 with
         | none=>exact fun h=>h
         | some q =>
          obtain ⟨q,ρ2⟩:=q
          cases q with
          | ex C=>exact fun h H3 W3 fr3 sub3 R3=>h H3 W3 (fr2.trans fr3 fun p hp=> .inl (sub1 p hp)) (fun p hp=>sub1 p (sub3 p hp)) R3
          | ok c nw2 =>
           dsimp only;intro h w' H3 W3 fr3 sub3 P3;obtain ⟨rc,R3⟩:=P3.plain;have ry:ay K (hid (W3++F.Z) H3) b y:=(fr3.hid fun p hp=> .inl (sub3 p hp)).repD ((aK (fun b hb=> .inl hb) fun b o _ e=>s2 b o e:af (hid (W1++F.Z) H1) (hid (W1++F.Z) H2)).repD reps.2.1)
           cases eg2:g' [b,c] with
           | none=>rw [eg2] at h;exact h.elim
           | some dn =>
            obtain ⟨d2,nw3⟩:=dn;rw [eg2] at h
            cases nw3 with
            | true=>exact h.elim
            | false =>
             refine hs' [y,w'] [b,c] H3 (W3++F.Z) _ d2 false R3.mt ⟨ay.b ry az,ay.b rc az,trivial⟩ eg2 fun v H4 s4 p4=> ?_
             exact h v H4 W3 ((fr2.trans fr3 fun p hp=> .inl (sub1 p hp)).trans (s4.fr (W:=W3)) fun p hp=> .inl (sub1 p (sub3 p hp))) (fun p hp=>sub1 p (sub3 p hp)) ⟨p4,R3.same s4⟩
 exact z
section
variable{X:Cx}{EX:EXT}{a b c:Expr}{pos:Pos}
theorem xw{op op':CmpOp}{r r':R2}{g g':List D->Option (D×Bool)}{f1 f2 f3:SE}(ho:OpR X (compareOp op) r)(ho':OpR X (compareOp op') r')(hs:OpS X.K (r2 r) g)(hs':OpS X.K (r2 r') g')(ha:JE X EX a f1)(hb:JE X EX b f2)(hc:JE X EX c f3)
 (hm:lastMarks [op,op'] [b,c]=false:=by with_unfolding_all rfl):JE X EX (.Compare a [op,op'] [b,c] pos) (cO g g' f1 f2 f3) :=
 ⟨(tX ho ho' ha.p hb.p hc.p hm).by fun σ H Q h=>u4 hs hs' h⟩
end
end L2
namespace L2
open PySem PySem.Spec PyProof.Rows
section
variable{X:Cx}
def tq(K:A9):List V->Hp->(V->Hp->Prop)->Prop:=fun xs H Q=>∃ (p:Addr) (ns:List Int),xs=[V.ref p]/\SqT K H p (ns.map V.int)/\ns≠[]/\∀ M,M∈ns->(∀ a∈ns,a<=M)->Q (.int M) H
def tj(K:A9):List V->Hp->(V->Hp->Prop)->Prop:=fun xs H Q=>∃ (p:Addr) (ns:List Int),xs=[V.ref p]/\SqT K H p (ns.map V.int)/\ns≠[]/\∀ M,M∈ns->(∀ a∈ns,M<=a)->Q (.int M) H
theorem rT(hc:X.calm=true):aE X (.builtin "max") (tq X.K):=by
 intro pins s σ H xs us Q I r h;obtain ⟨p,ns,rfl,hq,ne,q⟩:=h;obtain ⟨u,rfl,ru⟩:=bN r;cases ru;obtain ⟨its,rv,pl,hz⟩:=I.tuple hq;obtain ⟨ps,rfl,e⟩:=dE rv
 have lp:ps.length=ns.length:=by rw [<- e,yF]
 have n0:0 < ns.length:=AX.mpr ne
 have ei:intItems ps.toArray=(ps.map fun p=>Value.int p.1 p.2).toArray:=by unfold intItems;simp
 have ht:s.heap.IsTuple p (intItems ps.toArray):=by rw [ei];exact pl
 have hlt:p < s.heap.objs.size:=by obtain ⟨_,e,_⟩:=ht;exact yN e
 have sz:ps.toArray.size=ns.length:=by simp [lp]
 obtain ⟨b1,b2⟩:=argBest_gt (numAt ps.toArray) (ps.toArray.size - 1);refine call_max_walk (Aj ht ⟨s.heap.objs.size,_,_,_,_,_,_,rfl,Walks.tuple (A:=X.A.in1) (I.ok.hd hc) _ p (za hlt) (intItems ps.toArray),⟨⟨_,yQ _ rfl,rfl,rfl⟩,ht.push _⟩,fun c hcm=> ?_,by simpa [intItems,lp] using n0,CmpOf.ints_gt (numAt ps.toArray) (fun _ _=>intItems_at),fun v h' tk hP hk=> ?_⟩)
 ·have e1:c=s.heap.objs.size\/c=p:=by simpa using hcm
  show c < (s.heap.push _).objs.size
  rw [Ai]
  rcases e1 with e1 | e1
  ·rw [e1];exact Nat.lt_succ_self _
  ·rw [e1];exact Nat.lt_succ_of_lt hlt
 ·have hv:(intItems ps.toArray)[argBest (fun i j=>decide (numAt ps.toArray i > numAt ps.toArray j)) (ps.toArray.size - 1)]?=some v:=by simpa [intItems] using hP
  obtain ⟨t,rfl⟩:=intItems_at hv;rw [sz] at b1 b2 ⊢;refine ⟨.int _,H,I.kept (h':=h') (t':=tk) fun b' o e=>hk b' o (by have:=yN e;simp;exact za this) (yC _ e),⟨t,rfl⟩,q _ ?_ fun a ha=> ?_⟩
  ·rw [ce e (by omega)]
   exact zN _
  ·obtain ⟨j,hj,rfl⟩:=AY ha
   have:=b2 j (by omega);rw [ce e hj] at this;exact this
theorem rO(hc:X.calm=true):aE X (.builtin "min") (tj X.K):=by
 intro pins s σ H xs us Q I r h;obtain ⟨p,ns,rfl,hq,ne,q⟩:=h;obtain ⟨u,rfl,ru⟩:=bN r;cases ru;obtain ⟨its,rv,pl,hz⟩:=I.tuple hq;obtain ⟨ps,rfl,e⟩:=dE rv
 have lp:ps.length=ns.length:=by rw [<- e,yF]
 have n0:0 < ns.length:=AX.mpr ne
 have ei:intItems ps.toArray=(ps.map fun p=>Value.int p.1 p.2).toArray:=by unfold intItems;simp
 have ht:s.heap.IsTuple p (intItems ps.toArray):=by rw [ei];exact pl
 have hlt:p < s.heap.objs.size:=by obtain ⟨_,e,_⟩:=ht;exact yN e
 have sz:ps.toArray.size=ns.length:=by simp [lp]
 obtain ⟨b1,b2⟩:=argBest_lt (numAt ps.toArray) (ps.toArray.size - 1);refine call_min_walk (Aj ht ⟨s.heap.objs.size,_,_,_,_,_,_,rfl,Walks.tuple (A:=X.A.in1) (I.ok.hd hc) _ p (za hlt) (intItems ps.toArray),⟨⟨_,yQ _ rfl,rfl,rfl⟩,ht.push _⟩,fun c hcm=> ?_,by simpa [intItems,lp] using n0,CmpOf.ints_lt (numAt ps.toArray) (fun _ _=>intItems_at),fun v h' tk hP hk=> ?_⟩)
 ·have e1:c=s.heap.objs.size\/c=p:=by simpa using hcm
  show c < (s.heap.push _).objs.size
  rw [Ai]
  rcases e1 with e1 | e1
  ·rw [e1];exact Nat.lt_succ_self _
  ·rw [e1];exact Nat.lt_succ_of_lt hlt
 ·have hv:(intItems ps.toArray)[argBest (fun i j=>decide (numAt ps.toArray i < numAt ps.toArray j)) (ps.toArray.size - 1)]?=some v:=by simpa [intItems] using hP
  obtain ⟨t,rfl⟩:=intItems_at hv;rw [sz] at b1 b2 ⊢;refine ⟨.int _,H,I.kept (h':=h') (t':=tk) fun b' o e=>hk b' o (by have:=yN e;simp;exact za this) (yC _ e),⟨t,rfl⟩,q _ ?_ fun a ha=> ?_⟩
  ·rw [ce e (by omega)]
   exact zN _
  ·obtain ⟨j,hj,rfl⟩:=AY ha
   have:=b2 j (by omega);rw [ce e hj] at this;exact this
end
def gK:List D->Option (D×Bool)
 | [.tup ds]=>match aT ds with
  | some (n::ns)=>some (.int (nG (n::ns)),false)
  | _=>none
 | ds=>xb ds
def jO:List D->Option (D×Bool)
 | [.tup ds]=>match aT ds with
  | some (n::ns)=>some (.int (nF (n::ns)),false)
  | _=>none
 | ds=>gMin ds
theorem rW{X:Cx}(hc:X.calm=true):aE X (.builtin "max") (fun xs H Q=>(pV xs H Q\/nn X.K xs H Q)\/tq X.K xs H Q):=(rX hc).or (rT hc)
theorem rQ{X:Cx}(hc:X.calm=true):aE X (.builtin "min") (fun xs H Q=>(pU xs H Q\/nk X.K xs H Q)\/tj X.K xs H Q):=(rR hc).or (rO hc)
theorem wt{K:A9}:OpS K (fun xs H Q=>(pV xs H Q\/nn K xs H Q)\/tq K xs H Q) gK:=by
 intro vs ds H L Q d nw hm r e q;unfold gK at e
 split at e
 ·rename_i es
  obtain ⟨x,rfl,⟨p,xs,rfl,h1,h2⟩⟩:=aI r
  split at e
  ·rename_i n ns en
   cases e;rw [bJ en] at h2;rw [bo h2] at h1;refine .inr ⟨p,n::ns,rfl,.inl (.inl (ao h1).2),by simp,fun M m1 m2=> ?_⟩;obtain ⟨z1,z2⟩:=lX (l:=n::ns) (by simp);rw [jU m1 m2 z1 z2];exact q _ H (af.refl _) rfl
  ·cases e
 ·exact .inl (os_max vs _ H L Q d nw hm r e q)
theorem wr{K:A9}:OpS K (fun xs H Q=>(pU xs H Q\/nk K xs H Q)\/tj K xs H Q) jO:=by
 intro vs ds H L Q d nw hm r e q;unfold jO at e
 split at e
 ·rename_i es
  obtain ⟨x,rfl,⟨p,xs,rfl,h1,h2⟩⟩:=aI r
  split at e
  ·rename_i n ns en
   cases e;rw [bJ en] at h2;rw [bo h2] at h1;refine .inr ⟨p,n::ns,rfl,.inl (.inl (ao h1).2),by simp,fun M m1 m2=> ?_⟩;obtain ⟨z1,z2⟩:=lW (l:=n::ns) (by simp);rw [jG m1 m2 z1 z2];exact q _ H (af.refl _) rfl
  ·cases e
 ·exact .inl (os_min vs _ H L Q d nw hm r e q)
theorem vM{K:A9}{run:FS}{H:Hp}{a:Addr}{ns:List Int}(hrun:∃ x,run [.klst (ns.map D.int)]=some (.ok (.bl true) false,x))(hS:SqL K H a (ns.map V.int)):spF K none run [.ref a] H (fun v _=>v = .bl true) fun _ _ _=>False:=by
 obtain ⟨x,hx⟩:=hrun;refine ⟨[],[],[.klst (ns.map D.int)],rfl,(fun p hp=>by cases hp),(fun p hp=>by cases hp),fun j d v _ h1 h2=> ?_,(fun k z=>by cases z),fun _=>rfl,?_⟩
 ·have hh:hid ([]++[]) H=H:=by funext b;unfold hid;simp
  rw [hh]
  match j,h1,h2 with
  | 0,h1,h2 =>
   simp only [y0,Option.some.injEq] at h1 h2;subst h1 h2;exact ⟨a,_,rfl,hS,cV ns⟩
  | j+1,h1,h2=>simp at h1
 ·rw [hx]
  exact fun v H' _ rv _=>rv
theorem rM{P:Program}{w:World}{H:Hp}{s:Shared}{e:Value}{s':Shared}(h:CXr P w [] H s (fun _ _ _=>False) e s'):False:=by
 obtain ⟨_,_,_,_,_,_,_,_,_,_,_,z⟩:=h;exact z
section
variable{X:Cx}{EX:EXT}{a b e:Expr}{es:List Expr}{pos p:Pos}{x y:Arg}{as:List Arg}
theorem v(i:Nat){n:Str}(hN:X.N[i]?=some n:=by rfl)(hv:Vis X.env.scope n:=by first | exact Or.inl rfl | exact Or.inr (Or.inl rfl) | exact Or.inr (Or.inr rfl))(hd:(n == ("__debug__" : Str))=false:=by decide)(hcd:(n == ("__classdict__" : Str))=false:=by decide):JE X EX (.Name n pos) (bn i):=c_var hN hv hd hcd
theorem vb(i:Nat){n:Str}(hN:X.N[i]?=some n:=by rfl)(hv:Vis X.env.scope n:=by first | exact Or.inl rfl | exact Or.inr (Or.inl rfl) | exact Or.inr (Or.inr rfl))(hd:(n == ("__debug__" : Str))=false:=by decide)(hcd:(n == ("__classdict__" : Str))=false:=by decide):JB X EX (.Name n pos) (.bor i):=cb_var hN hv hd hcd
theorem b_add(ha:JB X EX a x)(hb:JB X EX b y):JE X EX (.BinOp a .Add b pos) (sOp cz [x,y]):=sf wC os_add ha hb
theorem b_sub(ha:JB X EX a x)(hb:JB X EX b y):JE X EX (.BinOp a .Sub b pos) (sOp lc [x,y]):=sf op_sub os_sub ha hb
theorem b_mul(ha:JB X EX a x)(hb:JB X EX b y):JE X EX (.BinOp a .Mult b pos) (sOp nV [x,y]):=sf wx os_mul ha hb
theorem b_fdiv(ha:JB X EX a x)(hb:JB X EX b y):JE X EX (.BinOp a .FloorDiv b pos) (sOp gM [x,y]):=sf ue wv ha hb
theorem b_mod(ha:JB X EX a x)(hb:JB X EX b y):JE X EX (.BinOp a .Mod b pos) (sOp gJ [x,y]):=sf op_mod os_mod ha hb
theorem b_pow(ha:JB X EX a x)(hb:JB X EX b y):JE X EX (.BinOp a .Pow b pos) (sOp rH [x,y]):=sf op_pow os_pow ha hb
theorem b_neg(ha:JB X EX a x):JE X EX (.UnaryOp .USub a pos) (sOp o8 [x]):=c_un sF os_neg ha
theorem b_ix(ha:JB X EX a x)(hb:JB X EX b y)(hp:mF b:=by exact fun _ _=>rfl):JE X EX (.Subscript a b pos) (sOp gIx [x,y]):=c_ix ix_seq os_ix ha hb hp
theorem q_eq(hu:X.A.units+10 < cLine)(ha:JB X EX a x)(hb:JB X EX b y):JE X EX (.Compare a [.Eq] [b] pos) (sOp gEq [x,y]):=yx (uf (by omega)) yi ha hb (dz _)
theorem q_ge(ha:JB X EX a x)(hb:JB X EX b y):JE X EX (.Compare a [.GtE] [b] pos) (sOp gGe [x,y]):=yx yk yh ha hb (dz _)
theorem t_eq(hu:X.A.units+10 < cLine)(ha:JB X EX a x)(hb:JB X EX b y):JT X EX (.Compare a [.Eq] [b] pos) (ba gEq [x,y]):=gE (uf (by omega)) yi ha hb (dz _)
theorem t_ne(hu:X.A.units+10 < cLine)(ha:JB X EX a x)(hb:JB X EX b y):JT X EX (.Compare a [.NotEq] [b] pos) (ba gNe [x,y]):=gE (op_neD (by omega)) os_ne ha hb (dz _)
theorem t_lt(ha:JB X EX a x)(hb:JB X EX b y):JT X EX (.Compare a [.Lt] [b] pos) (ba gLt [x,y]):=gE op_lt os_lt ha hb (dz _)
theorem t_gt(ha:JB X EX a x)(hb:JB X EX b y):JT X EX (.Compare a [.Gt] [b] pos) (ba gGt [x,y]):=gE op_gt os_gt ha hb (dz _)
theorem t_ge(ha:JB X EX a x)(hb:JB X EX b y):JT X EX (.Compare a [.GtE] [b] pos) (ba gGe [x,y]):=gE yk yh ha hb (dz _)
theorem t_is(ha:JB X EX a x)(hb:JB X EX b y):JT X EX (.Compare a [.Is] [b] pos) (ba gIs [x,y]):=gE op_isD os_is ha hb (dz _)
theorem vH(ha:JB X EX a x)(hb:JB X EX b y):JT X EX (.Compare a [.IsNot] [b] pos) (ba l7 [x,y]):=gE re ud ha hb (dz _)
theorem t_in(hu:X.A.units+10 < cLine)(ha:JB X EX a x)(hb:JB X EX b y)(hm:behindInMarks .In b=false:=by with_unfolding_all rfl):JT X EX (.Compare a [.In] [b] pos) (ba gIn [x,y]):=gE (op_inA hu) os_in ha hb hm
theorem vG(hu:X.A.units+10 < cLine)(ha:JB X EX a x)(hb:JB X EX b y)(hm:behindInMarks .NotIn b=false:=by with_unfolding_all rfl):JT X EX (.Compare a [.NotIn] [b] pos) (ba dX [x,y]):=gE (qZ hu) ub ha hb hm
variable(he:starEach (e::es) X.env=(false,eval e X.env)::starEach es X.env:=by rfl)(hpl:(backTo pos (starEach es X.env)).any (·.1)=false:=by rfl)
include he hpl
theorem b_len(m:X.mg "len" = none)(ha:JA X EX (e::es) as)(hg:Gl X "len" := by rfl):JE X EX (.Call (.Name "len" p) (e::es) [] pos) (sOp di as):=gQ r8 os_len hg m PySem.boot_len ha (by decide) (by decide) he hpl
theorem b_all(m:X.mg "all" = none)(ha:JA X EX (e::es) as)(hg:Gl X "all" := by rfl)(hc:X.calm=true:=by rfl):JE X EX (.Call (.Name "all" p) (e::es) [] pos) (sOp iQ as):=gQ (se hc) os_all hg m PyProof.Rows.boot_all ha (by decide) (by decide) he hpl
theorem b_max(m:X.mg "max" = none)(ha:JA X EX (e::es) as)(hg:Gl X "max" := by rfl)(hc:X.calm=true:=by rfl):JE X EX (.Call (.Name "max" p) (e::es) [] pos) (sOp gK as):=gQ (rW hc) wt hg m PyProof.Rows.boot_max ha (by decide) (by decide) he hpl
theorem b_min(m:X.mg "min" = none)(ha:JA X EX (e::es) as)(hg:Gl X "min" := by rfl)(hc:X.calm=true:=by rfl):JE X EX (.Call (.Name "min" p) (e::es) [] pos) (sOp jO as):=gQ (rQ hc) wr hg m PyProof.Rows.boot_min ha (by decide) (by decide) he hpl
theorem xx(m:X.mg "tuple" = none)(ha:JA X EX (e::es) as)(hg:Gl X "tuple" := by rfl)(hc:X.calm=true:=by rfl):JE X EX (.Call (.Name "tuple" p) (e::es) [] pos) (sOp gb as):=gP (oj hc) t4 hg m PyProof.Rows.boot_tuple ha (by decide) (by decide) he hpl
theorem b_int(m:X.mg "int" = none)(ha:JA X EX (e::es) as)(hg:Gl X "int" := by rfl):JE X EX (.Call (.Name "int" p) (e::es) [] pos) (sOp uK as):=gP r9 os_int hg m PyProof.Rows.boot_int ha (by decide) (by decide) he hpl
theorem xz(m:X.mg "range" = none)(ha:JA X EX (e::es) as)(hg:Gl X "range" := by rfl):JE X EX (.Call (.Name "range" p) (e::es) [] pos) (sOp gf as):=gP om t9 hg m PyProof.Rows.boot_range ha (by decide) (by decide) he hpl
end
section
variable{X:Cx}{EX:EXT}{e:Expr}{a:Arg}{p1 p2 pos:Pos}
theorem lw(he:JB X EX e a)(m1:X.mg "isinstance" = none)(m2:X.mg "int" = none)(g1:Gl X "isinstance" := by rfl)(g2:Gl X "int" := by rfl)(hs:starEach [e,.Name "int" p1] X.env=(false,eval e X.env)::starEach [.Name "int" p1] X.env:=by rfl):JE X EX (.Call (.Name "isinstance" p2) [e,.Name "int" p1] [] pos) (sOp (fq "int") [a]):=vf (.inl rfl) he g1 m1 g2 m2 PyProof.Rows.boot_int (by decide) (by decide) hs
theorem jV(he:JB X EX e a)(m1:X.mg "isinstance" = none)(m2:X.mg "bool" = none)(g1:Gl X "isinstance" := by rfl)(g2:Gl X "bool" := by rfl)(hs:starEach [e,.Name "bool" p1] X.env=(false,eval e X.env)::starEach [.Name "bool" p1] X.env:=by rfl):JE X EX (.Call (.Name "isinstance" p2) [e,.Name "bool" p1] [] pos) (sOp (fq "bool") [a]):=vf (.inr (.inl rfl)) he g1 m1 g2 m2 PyProof.Rows.boot_bool (by decide) (by decide) hs
theorem oz(he:JB X EX e a)(m1:X.mg "isinstance" = none)(m2:X.mg "tuple" = none)(g1:Gl X "isinstance" := by rfl)(g2:Gl X "tuple" := by rfl)(hs:starEach [e,.Name "tuple" p1] X.env=(false,eval e X.env)::starEach [.Name "tuple" p1] X.env:=by rfl):JE X EX (.Call (.Name "isinstance" p2) [e,.Name "tuple" p1] [] pos) (sOp (fq "tuple") [a]):=vf (.inr (.inr (.inl rfl))) he g1 m1 g2 m2 PyProof.Rows.boot_tuple (by decide) (by decide) hs
end
section
variable{X:Cx}{EX:EXT}{e:Expr}{pos p1 apos cpos:Pos}{n:Str}{f:SE}
theorem uu(j:Nat)(h:JE X EX e f)(hN:X.N[j]?=some n:=by rfl)(hv:Vis X.env.scope n:=by first | exact Or.inl rfl | exact Or.inr (Or.inl rfl) | exact Or.inr (Or.inr rfl))(hst:starEach [e] X.env=(false,eval e X.env)::starEach [] X.env:=by rfl)
 (hbase:attributeBase (.Name n p1) "append" X.env (eval (.Name n p1) X.env)=eval (.Name n p1) X.env:=by rfl) (hfew:((backTo cpos (starEach [e] X.env)).all (fun x => !x.1)&&(backToKw cpos (keywordEach [] X.env)).all (fun x=>x.1.isSome)&&decide ([e].length+([]:List Keyword).length+(if ([]:List Keyword).isEmpty then 0 else 1) < 30))=true:=by rfl)
 (hline:(apos.endLine == cpos.line)=true:=by rfl) (hplain:(backTo cpos (starEach [] X.env)).any (·.1)=false:=by rfl) (hd:(n == ("__debug__" : Str))=false:=by decide) (hcd:(n == ("__classdict__" : Str))=false:=by decide) :
 JE X EX (.Call (.Attribute (.Name n p1) "append" apos) [e] [] cpos) (cG j ci [f]):=vc rm kO PySem.F.slot_list_append PySem.F.type_list_append hN hv (.cons h .nil hst) hbase hfew hline hst hplain hd hcd
theorem wJ(j:Nat)(h:JE X EX e f)(hN:X.N[j]?=some n:=by rfl)(hv:Vis X.env.scope n:=by first | exact Or.inl rfl | exact Or.inr (Or.inl rfl) | exact Or.inr (Or.inr rfl))(hst:starEach [e] X.env=(false,eval e X.env)::starEach [] X.env:=by rfl)
 (hbase:attributeBase (.Name n p1) "pop" X.env (eval (.Name n p1) X.env)=eval (.Name n p1) X.env:=by rfl) (hfew:((backTo cpos (starEach [e] X.env)).all (fun x => !x.1)&&(backToKw cpos (keywordEach [] X.env)).all (fun x=>x.1.isSome)&&decide ([e].length+([]:List Keyword).length+(if ([]:List Keyword).isEmpty then 0 else 1) < 30))=true:=by rfl)
 (hline:(apos.endLine == cpos.line)=true:=by rfl) (hplain:(backTo cpos (starEach [] X.env)).any (·.1)=false:=by rfl) (hd:(n == ("__debug__" : Str))=false:=by decide) (hcd:(n == ("__classdict__" : Str))=false:=by decide) :
 JE X EX (.Call (.Attribute (.Name n p1) "pop" apos) [e] [] cpos) (cG j gZ [f]):=vc uq ul PySem.F.slot_list_pop PySem.F.type_list_pop hN hv (.cons h .nil hst) hbase hfew hline hst hplain hd hcd
end
end L2
namespace L2
namespace Td
open PySem L2 PyProof.Rows
end Td
end L2
namespace L2
open PySem
def cU:SS:=(aB (bB (ba gLt [.bor 1,.ex (sOp di [.bor 0])]) (bh (sOp gIx [.bor 0,.bor 1])) bV) (bh (sC (.int 0))))
def aV:FS:=aJ 2 2 none cU
def iB:SS:=(aB (aZ 0 (sOp gJ [.ex (sOp cz [.bor 0,.ex (sC (.int 7919))]),.ex (sC (.int 2147483647))])) (bh (sOp gJ [.ex (sOp cz [.ex (sOp cz [.ex (sOp nV [.bor 0,.bor 0]),.ex (sOp nV [.ex (sC (.int 48271)),.bor 0])]),.ex (sC (.int 12345))]),.ex (sC (.int 2147483629))])))
def cJ:FS:=aJ 1 1 none iB
def fB:SS:=(aB (aZ 1 (sOp gK [.bor 0,.ex (sOp lc [.ex (sC (.int 0)),.bor 0])])) (bh (bW [(bn 1),(sOp uK [.ex (sOp gGe [.bor 1,.ex (sOp rH [.ex (sC (.int 10)),.ex (sC (.int 18))])])]),(sOp gJ [.bor 1,.ex (sC (.int 1000003))])])))
def bu:FS:=aJ 1 2 none fB
def eK:SS:=(aB (bB (ba gEq [.ex (sOp gIx [.bor 0,.ex (sC (.int 1))]),.ex (sC (.int 1))]) (aB (aZ 2 (sOp gJ [.ex (sOp gIx [.bor 0,.ex (sC (.int 0))]),.bor 1])) (aB (cH ja 0 (sOp gM [.ex (sOp gIx [.bor 0,.ex (sC (.int 0))]),.bor 1]) (sC (.int 0))) (cF 2))) bV) (aB (cH ja 0 (ar none none cJ [.ex (sOp cz [.ex (ar none none cJ [.ex (sOp gIx [.bor 0,.ex (sC (.int 2))])]),.ex (sC (.int 7))])]) (sC (.int 2))) (bh (sOp gJ [.ex (sOp gM [.ex (sOp gIx [.bor 0,.ex (sC (.int 2))]),.ex (sC (.int 64))]),.bor 1]))))
def ak:FS:=aJ 2 3 (some 0) eK
theorem lV{a b:Int}(h1 : -(2 ^ 64) < a)(h2:a < 2 ^ 64):kN a b=true:=by unfold kN;rw [yV ⟨h1,h2⟩];rfl
def nA(s:Int):Int:=(((s+7919) % 2147483647) * ((s+7919) % 2147483647)+48271 * ((s+7919) % 2147483647)+12345) % 2147483629
theorem uR(s:Int):cJ [.int s]=some (.ok (.int (nA s)) false,.non):=by
 have m1:kN ((s+7919) % 2147483647) ((s+7919) % 2147483647)=true:=lV (by omega) (by omega);have m2:kN 48271 ((s+7919) % 2147483647)=true:=lV (by omega) (by omega);unfold cJ iB;simp only [aJ,ini,fZ,ioD,bV,aB,aZ,bh,kF,cF,cQ,bB,qM,qL,cH,cG,ar,sOp,ba,sC,bn,cn,bW,evA,yW,An,cp,jb,cq,sIf,hG,sOr,cu,qK,eh,sBl,bi,cg,cX,bE,eA,bG,de,bM,cO,fR,cr,cE,cP,dZ,eL,qJ,cc,ku,kt,Tg.ge,yM,zJ,y0,zi,zH,zI,zO,zQ,List.replicate,AL,Nat.reduceSub,Nat.reduceAdd,zE,Option.isNone,if_true,reduceIte,decide_true,As,zS,AN,AA,AF,Au,Av,zU,reduceCtorEq,gJ,cz,nV,Int.reduceLT,m1,m2];rfl
theorem wP{n i:Nat}(h:i < n):ixN n (i:Int)=some i:=by
 unfold ixN;rw [if_pos (by omega),if_pos (by omega)];rfl
theorem gk{α:Type}{l:List α}{i:Nat}{x:α}(h:l[i]?=some x):atI l (i:Int)=some x:=by
 unfold atI;rw [wP (yR.mp h).1];exact h
section
variable{α:Type}{a b c d:α}{l:List α}
theorem yA:atI (a::l) 0=some a:=gk (i:=0) rfl
theorem yz:atI (a::b::l) 1=some b:=gk (i:=1) rfl
theorem atI_2:atI (a::b::c::l) 2=some c:=gk (i:=2) rfl
end
theorem dv{ds:List D}{i:Int}{d:D}(h:atI ds i=some d):gIx [.lst ds,.int i]=some (d,false):=by unfold gIx;simp only [h]
theorem uJ{ds:List D}{i:Int}{d:D}(h:atI ds i=some d):gIx [.klst ds,.int i]=some (d,false):=by unfold gIx;simp only [h]
theorem xc{ds:List D}{i:Int}{d:D}(h:atI ds i=some d):gIx [.tup ds,.int i]=some (d,false):=by unfold gIx;simp only [h]
theorem l8(a b:Int):gEq [.int a,.int b]=some (.bl (decide (a=b)),false):=by
 unfold gEq;simp only [ad,Bool.and_self,if_true,eqD,nrm,eqN];rw [show (a == b)=decide (a=b) from rfl]
theorem wZ(a b:Int):gNe [.int a,.int b]=some (.bl (!decide (a=b)),false):=by
 unfold gNe;simp only [ad,Bool.and_self,if_true,eqD,nrm,eqN];rw [show (a == b)=decide (a=b) from rfl]
theorem l0{a b:Int}(h:0 < b):gJ [.int a,.int b]=some (.int (a % b),false):=by unfold gJ;simp only [h,decide_true,if_true]
theorem jP{a b:Int}(h:0 < b)(h2:b < 10000000000000000000000000000000000000000000000000000000000000000000000):gM [.int a,.int b]=some (.int (a / b),false):=by unfold gM;simp only [h,h2,and_self,decide_true,if_true]
theorem wY:rH [.int 10,.int 18]=some (.int 1000000000000000000,false):=rfl
def qU(a f s:Int):D:= .lst [.int a,.int f,.int s]
theorem xh(c:Int):∃ a f s,bu [.int c]=some (.ok (qU a f s) true,.non):=by
 refine ⟨if 0 - c > c then 0 - c else c,if decide (1000000000000000000<=(if 0 - c > c then 0 - c else c)) then 1 else 0,(if 0 - c > c then 0 - c else c) % 1000003,?_⟩;unfold bu fB;simp only [aJ,ini,fZ,ioD,bV,aB,aZ,bh,kF,cF,cQ,bB,qM,qL,cH,cG,ar,sOp,ba,sC,bn,cn,bW,evA,yW,An,cp,jb,cq,sIf,hG,sOr,cu,qK,eh,sBl,bi,cg,cX,bE,eA,bG,de,bM,cO,fR,cr,cE,cP,dZ,eL,qJ,cc,ku,kt,Tg.ge,yM,zJ,y0,zi,zH,zI,zO,zQ,List.replicate,AL,Nat.reduceSub,Nat.reduceAdd,zE,Option.isNone,if_true,reduceIte,decide_true,As,zS,AN,AA,AF,Au,Av,zU,reduceCtorEq,gK,xb,lc,uK,gGe,wY,gJ,Int.reduceLT];rfl
theorem nY(ns:List Int)(k:Nat):∃ c:Int,aV [.klst (ns.map D.int),.int k]=some (.ok (.int c) false,.non):=by
 by_cases h:k < ns.length
 ·refine ⟨ns[k],?_⟩
  have e:atI (ns.map D.int) (k:Int)=some (.int ns[k]):=gk (by rw [zc,yD h];rfl)
  have h':(k:Int) < ((ns.map D.int).length:Nat):=by rw [yF];omega
  unfold aV cU;simp only [aJ,ini,fZ,ioD,bV,aB,aZ,bh,kF,cF,cQ,bB,qM,qL,cH,cG,ar,sOp,ba,sC,bn,cn,bW,evA,yW,An,cp,jb,cq,sIf,hG,sOr,cu,qK,eh,sBl,bi,cg,cX,bE,eA,bG,de,bM,cO,fR,cr,cE,cP,dZ,eL,qJ,cc,ku,kt,Tg.ge,yM,zJ,y0,zi,zH,zI,zO,zQ,List.replicate,AL,Nat.reduceSub,Nat.reduceAdd,zE,Option.isNone,if_true,reduceIte,decide_true,As,zS,AN,AA,AF,Au,Av,zU,reduceCtorEq,di,gLt,uJ e,h']
 ·refine ⟨0,?_⟩
  have h':¬ (k:Int) < ((ns.map D.int).length:Nat):=by rw [yF];omega
  unfold aV cU;simp only [aJ,ini,fZ,ioD,bV,aB,aZ,bh,kF,cF,cQ,bB,qM,qL,cH,cG,ar,sOp,ba,sC,bn,cn,bW,evA,yW,An,cp,jb,cq,sIf,hG,sOr,cu,qK,eh,sBl,bi,cg,cX,bE,eA,bG,de,bM,cO,fR,cr,cE,cP,dZ,eL,qJ,cc,ku,kt,Tg.ge,yM,zJ,y0,zi,zH,zI,zO,zQ,List.replicate,AL,Nat.reduceSub,Nat.reduceAdd,zE,Option.isNone,if_true,reduceIte,decide_true,As,zS,AN,AA,AF,Au,Av,zU,reduceCtorEq,di,gLt,h',decide_false]
theorem vA{a b c d:D}:ja (.lst [a,b,c]) (.int 0) d=some (.lst [d,b,c]):=rfl
theorem vz{a b c d:D}:ja (.lst [a,b,c]) (.int 2) d=some (.lst [a,b,d]):=rfl
theorem uS(a f s m:Int)(h:0 < m)(h2:m < 10000000000000000000000000000000000000000000000000000000000000000000000):∃ r a' f' s':Int,ak [qU a f s,.int m]=some (.ok (.int r) false,qU a' f' s')/\0<=r/\r < m:=by
 by_cases hf:f=1
 ·refine ⟨a % m,a / m,f,s,?_,Int.emod_nonneg _ (by omega),Int.emod_lt_of_pos _ h⟩
  unfold ak eK qU;simp only [aJ,ini,fZ,ioD,bV,aB,aZ,bh,kF,cF,cQ,bB,qM,qL,cH,cG,ar,sOp,ba,sC,bn,cn,bW,evA,yW,An,cp,jb,cq,sIf,hG,sOr,cu,qK,eh,sBl,bi,cg,cX,bE,eA,bG,de,bM,cO,fR,cr,cE,cP,dZ,eL,qJ,cc,ku,kt,Tg.ge,yM,zJ,y0,zi,zH,zI,zO,zQ,List.replicate,AL,Nat.reduceSub,Nat.reduceAdd,zE,Option.isNone,if_true,reduceIte,decide_true,As,zS,AN,AA,AF,Au,Av,zU,reduceCtorEq,l8,dv yA,dv yz,l0 h,jP h h2,vA,hf]
 ·refine ⟨nA (nA s+7) / 64 % m,a,f,nA (nA s+7),?_,Int.emod_nonneg _ (by omega),Int.emod_lt_of_pos _ h⟩
  unfold ak eK qU;simp only [aJ,ini,fZ,ioD,bV,aB,aZ,bh,kF,cF,cQ,bB,qM,qL,cH,cG,ar,sOp,ba,sC,bn,cn,bW,evA,yW,An,cp,jb,cq,sIf,hG,sOr,cu,qK,eh,sBl,bi,cg,cX,bE,eA,bG,de,bM,cO,fR,cr,cE,cP,dZ,eL,qJ,cc,ku,kt,Tg.ge,yM,zJ,y0,zi,zH,zI,zO,zQ,List.replicate,AL,Nat.reduceSub,Nat.reduceAdd,zE,Option.isNone,if_true,reduceIte,decide_true,As,zS,AN,AA,AF,Au,Av,zU,reduceCtorEq,l8,dv yA,dv yz,dv atI_2,l0 h,jP (show (0:Int) < 64 by decide) (by decide),cz,vz,hf,decide_false,uR]
theorem kH{T:Tg}{f:SS}(I:Nat->Rho->Prop):∀ (ds:List D) (k:Nat) (ρ:Rho),I k ρ->(∀ i d ρ,ds[i]?=some d->I (k+i) ρ->∃ ρ1 ρ2,bi T d ρ=some ρ1/\f ρ1=some (.nx,ρ2)/\I (k+i+1) ρ2)->∃ ρ',br T f ds ρ=some (.nx,ρ')/\I (k+ds.length) ρ'
 | [],k,ρ,h,_=>⟨ρ,rfl,h⟩
 | d::ds,k,ρ,h,hs=>by
  obtain ⟨ρ1,ρ2,e1,e2,h2⟩:=hs 0 d ρ rfl h
  obtain ⟨ρ',e3,h3⟩:=kH I ds (k+1) ρ2 h2 fun i d ρ e hi=>by
   have:=hs (i+1) d ρ (by simpa using e) (by rw [show k+(i+1)=k+1+i by omega];exact hi);rw [show k+(i+1)+1=k+1+i+1 by omega] at this;exact this
  refine ⟨ρ',?_,by rw [yM,show k+(ds.length+1)=k+1+ds.length by omega];exact h3⟩;unfold br;simp only [e1,e2,e3]
end L2
namespace L2
open PySem PySem.Spec PyProof.Rows
section
variable{ρ ρ1 ρ2:Rho}{d c c' i:D}{ds:List D}{nw b:Bool}{f g:SE}{p q:ST}{s t:SS}{C:Lb}
theorem r_set{j:Nat}{x:Option (D×Md)}(h:f ρ=some (.ok d nw,ρ1))(hx:ρ1[j]?=some x)(hn:ρ1.set j (some (d,if nw then .ow else .fz))=ρ2):aZ j f ρ=some (.nx,ρ2):=by subst hn;unfold aZ;rw [h];show (match ρ1[j]? with | some _=>_ | none=>_)=_;rw [hx]
theorem r_ret(h:f ρ=some (.ok d nw,ρ1)):bh f ρ=some (.rt d nw,ρ1):=by unfold bh;rw [h]
theorem r_expr(h:f ρ=some (.ok d nw,ρ1)):cQ f ρ=some (.nx,ρ1):=by unfold cQ;rw [h]
theorem cw{r:Option (Out×Rho)}(h:s ρ=some (.nx,ρ1))(h2:t ρ1=r):aB s t ρ=r:=by unfold aB;rw [h];exact h2
theorem cW(h:s ρ=some (.rt d nw,ρ1)):aB s t ρ=some (.rt d nw,ρ1):=by unfold aB;rw [h]
theorem r_seqX(h:s ρ=some (.ex C,ρ1)):aB s t ρ=some (.ex C,ρ1):=by unfold aB;rw [h]
theorem r_ifT{r:Option (Out×Rho)}(h:p ρ=some (.ok b,ρ1))(hb:b=true)(h2:s ρ1=r):bB p s t ρ=r:=by unfold bB;subst hb;rw [h];exact h2
theorem r_ifF{r:Option (Out×Rho)}(h:p ρ=some (.ok b,ρ1))(hb:b=false)(h2:t ρ1=r):bB p s t ρ=r:=by unfold bB;subst hb;rw [h];exact h2
theorem r_nil:bV ρ=some (.nx,ρ):=rfl
theorem vY{u:D->D->D->Option D}{j:Nat}{x:D×Md}{nw2:Bool}(h:f ρ=some (.ok d nw,ρ1))(h1:ρ1[j]?=some (some x))(h2:g ρ1=some (.ok i nw2,ρ2))(h3:ρ2[j]?=some (some (c,.ow)))(h4:u c i d=some c'){ρ3:Rho}(hn:ρ2.set j (some (c',.ow))=ρ3):cH u j f g ρ=some (.nx,ρ3):=by subst hn;unfold cH;simp only [h,h1,h2,h3,h4]
theorem r_for{it:SI}{T:Tg}{r:Option (Out×Rho)}(h:it ρ=some (.ok ds,ρ1))(h2:br T s ds ρ1=r):fR it T s ρ=r:=by unfold fR;rw [h];exact h2
theorem vX{j:Nat}{u:D->List D->Option (D×D)}{fs:List SE}{l:List D}(h0:ρ[j]?=some (some (.lst l,.ow)))(h1:evA (fs.map Arg.ex) ρ=some (.ok ds,ρ1))(h2:ρ1[j]?=some (some (c,.ow)))(h3:u c ds=some (c',d))(hn:ρ1.set j (some (c',.ow))=ρ2):cG j u fs ρ=some (.ok d false,ρ2):=by subst hn;unfold cG;simp only [h0,h1,h2,h3]
theorem r_nilA:evA [] ρ=some (.ok [],ρ):=rfl
theorem xW{as:List Arg}(h:f ρ=some (.ok d nw,ρ1))(h2:evA as ρ1=some (.ok ds,ρ2)):evA (.ex f::as) ρ=some (.ok (d::ds),ρ2):=by unfold evA;simp only [h,h2]
theorem r_nilM:evA (List.map Arg.ex []) ρ=some (.ok [],ρ):=rfl
theorem r_exM{fs:List SE}(h:f ρ=some (.ok d nw,ρ1))(h2:evA (List.map Arg.ex fs) ρ1=some (.ok ds,ρ2)):evA (List.map Arg.ex (f::fs)) ρ=some (.ok (d::ds),ρ2):=xW h h2
theorem r_borA{as:List Arg}{j:Nat}{x:D×Md}{m:Md}(h:ρ[j]?=some (some x))(h2:evA as ρ=some (.ok ds,ρ2))(h3:ρ2[j]?=some (some (d,m))):evA (.bor j::as) ρ=some (.ok (d::ds),ρ2):=by unfold evA;simp only [h,h2,h3]
theorem r_op{o:List D->Option (D×Bool)}{as:List Arg}(h:evA as ρ=some (.ok ds,ρ1))(h2:o ds=some (d,nw)):sOp o as ρ=some (.ok d nw,ρ1):=by unfold sOp;simp only [h,h2]
theorem r_opT{o:List D->Option (D×Bool)}{as:List Arg}(h:evA as ρ=some (.ok ds,ρ1))(h2:o ds=some (.bl b,nw)):ba o as ρ=some (.ok b,ρ1):=by unfold ba;rw [r_op h h2]
theorem r_tru{a:Arg}(h:evA [a] ρ=some (.ok [d],ρ1))(h2:jb d=some b):cp a ρ=some (.ok b,ρ1):=by unfold cp;simp only [h,h2]
theorem r_not(h:p ρ=some (.ok b,ρ1)):cq p ρ=some (.ok (!b),ρ1):=by unfold cq;rw [h]
theorem r_andT{r:Option (so×Rho)}(h:p ρ=some (.ok b,ρ1))(hb:b=true)(h2:q ρ1=r):hG p q ρ=r:=by unfold hG;subst hb;rw [h];exact h2
theorem r_andF(h:p ρ=some (.ok b,ρ1))(hb:b=false):hG p q ρ=some (.ok false,ρ1):=by unfold hG;subst hb;rw [h]
theorem r_orF{r:Option (so×Rho)}(h:p ρ=some (.ok b,ρ1))(hb:b=false)(h2:q ρ1=r):sOr p q ρ=r:=by unfold sOr;subst hb;rw [h];exact h2
theorem r_orT(h:p ρ=some (.ok b,ρ1))(hb:b=true):sOr p q ρ=some (.ok true,ρ1):=by unfold sOr;subst hb;rw [h]
theorem r_c:sC d ρ=some (.ok d false,ρ):=rfl
theorem r_varF{j:Nat}(h:ρ[j]?=some (some (d,.fz))):bn j ρ=some (.ok d false,ρ):=by unfold bn;rw [h]
theorem r_varO{j:Nat}(h:ρ[j]?=some (some (d,.ow)))(hn:ρ.set j (some (d,.fz))=ρ1):bn j ρ=some (.ok d false,ρ1):=by subst hn;unfold bn;rw [h]
theorem r_retF{j:Nat}(h:ρ[j]?=some (some (d,.fz))):cF j ρ=some (.rt d false,ρ):=by unfold cF;rw [h]
theorem r_retO{j:Nat}(h:ρ[j]?=some (some (d,.ow)))(hn:ρ.set j none=ρ1):cF j ρ=some (.rt d true,ρ1):=by subst hn;unfold cF;rw [h]
theorem r_tup{fs:List SE}(h:evA (fs.map Arg.ex) ρ=some (.ok ds,ρ1)):cn fs ρ=some (.ok (.tup ds) false,ρ1):=by unfold cn;rw [h]
theorem r_lst{fs:List SE}(h:evA (fs.map Arg.ex) ρ=some (.ok ds,ρ1)):bW fs ρ=some (.ok (.lst ds) true,ρ1):=by unfold bW;rw [h]
theorem r_seqI{l:List D}(h:f ρ=some (.ok d nw,ρ1))(h2:cc d=some l):cE f ρ=some (.ok l,ρ1):=by unfold cE;simp only [h,h2]
theorem r_enum{l:List D}(h:f ρ=some (.ok d nw,ρ1))(h2:cc d=some l):eL f ρ=some (.ok (cR 0 l),ρ1):=by unfold eL;simp only [h,h2]
theorem r_rng1{x:Arg}{j:Int}(h:evA [x] ρ=some (.ok [.int j],ρ1))(o:okR 0 j=true):cP x ρ=some (.ok (fk 0 j.toNat),ρ1):=by
 unfold cP;rw [h];show (if okR 0 j=true then some (mE.ok (fk 0 j.toNat),ρ1) else none)=_;rw [if_pos o]
theorem r_rng2{x y:Arg}{j k:Int}(h:evA [x,y] ρ=some (.ok [.int j,.int k],ρ1))(o:okR j k=true):dZ x y ρ=some (.ok (fk j (k - j).toNat),ρ1):=by
 unfold dZ;rw [h];show (if okR j k=true then some (mE.ok (fk j (k - j).toNat),ρ1) else none)=_;rw [if_pos o]
theorem r_comp{k:Nat}{it:SI}{T:Tg}{e:Option ST}{ys:List D}(h1:it ρ=some (.ok ds,ρ1))(h2:Tg.ge ρ1.length T=true)(h3:bv k T e f ds ρ1=some (ys,ρ2)):cr k it T e f ρ=some (.ok (.lst ys) true,ρ2):=by
 unfold cr;rw [h1];show (if Tg.ge ρ1.length T=true then _ else none)=_;rw [if_pos h2,h3]
theorem r_call{as:List Arg}{run:FS}{x:D}(h:evA as ρ=some (.ok ds,ρ1))(h2:run ds=some (.ok d nw,x))(h3:(bE none 0 as ρ1||(eA d nw&&((none:Option Nat).isNone||bG x)))=true):ar none none run as ρ=some (.ok d nw,ρ1):=by
 unfold ar;simp only [h,h2];rw [if_pos h3];rfl
theorem v6{as:List Arg}{run:FS}{x:D}(h:evA as ρ=some (.ok ds,ρ1))(h2:run ds=some (.ex C,x))(h3:(bE none 0 as ρ1||((none:Option Nat).isNone||bG x))=true):ar none none run as ρ=some (.ex C,ρ1):=by
 unfold ar;simp only [h,h2];rw [if_pos h3];rfl
theorem sY{k j:Nat}{as:List Arg}{run:FS}{x:D}(h:evA as ρ=some (.ok ds,ρ1))(h2:run ds=some (.ok d nw,x))(h3:(bE (some k) 0 as ρ1||(eA d nw&&((some k).isNone||bG x)))=true)(h4:cX (some j) x ρ1=some ρ2):ar (some k) (some j) run as ρ=some (.ok d nw,ρ2):=by
 unfold ar;simp only [h,h2];rw [if_pos h3,h4]
theorem v5{o o':List D->Option (D×Bool)}{f3:SE}{x y z:D}{b2:Bool}(h:evA [.ex f,.ex g] ρ=some (.ok [x,y],ρ1))(h1:o [x,y]=some (.bl b,false))(h2:f3 ρ1=some (.ok z nw,ρ1))(h3:o' [y,z]=some (.bl b2,false)):cO o o' f g f3 ρ=some (.ok (.bl (b&&b2)) false,ρ1):=by
 unfold cO;simp only [h,h1]
 cases b with
 | true=>simp only [h2,h3,As]
 | false=>rfl
theorem v7{r:Option (Res×Rho)}(h:f ρ=some (.ok (.bl b) nw,ρ1))(hb:b=true)(h2:g ρ1=r):cu f g ρ=r:=by unfold cu;subst hb;rw [h];exact h2
theorem v8(h:f ρ=some (.ok (.bl b) nw,ρ1))(hb:b=false):cu f g ρ=some (.ok (.bl false) false,ρ1):=by unfold cu;subst hb;rw [h]
theorem r_notV(h:f ρ=some (.ok (.bl b) nw,ρ1)):eh f ρ=some (.ok (.bl (!b)) false,ρ1):=by unfold eh;rw [h]
section
variable{np n:Nat}{body:SS}{io:Option Nat}{x:D}
theorem r_fn(hi:ini n io ds=ρ)(h:body ρ=some (.rt d nw,ρ1))(hx:ioD io ρ1=some x)(hl:ds.length=np):aJ np n io body ds=some (.ok d nw,x):=by subst hi;unfold aJ;rw [if_pos hl,h];show (match ioD io ρ1 with | some x=>_ | none=>_)=_;rw [hx]
theorem r_fnX(hi:ini n io ds=ρ)(h:body ρ=some (.ex C,ρ1))(hx:ioD io ρ1=some x)(hl:ds.length=np):aJ np n io body ds=some (.ex C,x):=by subst hi;unfold aJ;rw [if_pos hl,h];show (match ioD io ρ1 with | some x=>_ | none=>_)=_;rw [hx]
end
end
theorem g0{α:Type}{k:Nat}{T:Tg}{f:SE}{ρ:Rho}{inj g:α->D}:∀ (xs:List α),(∀ x∈xs,∃ ρ1 ρ3 nw,bi T (inj x) (ρ++List.replicate k none)=some ρ1/\f ρ1=some (.ok (g x) nw,ρ3)/\ρ3.take ρ.length=ρ)->bv k T none f (xs.map inj) ρ=some (xs.map g,ρ)
 | [],_=>rfl
 | x::xs,h=>by
  obtain ⟨ρ1,ρ3,nw,e1,e2,e3⟩:=h x yL;rw [yW];unfold bv;simp only [e1,evC,e2,e3,g0 xs fun d hd=>h d (yH _ hd),yW]
theorem uM(bs:List Bool):iQ [.lst (bs.map D.bl)]=some (.bl (bs.all id),false):=by unfold iQ;simp only [sj]
theorem mV{n:Nat}(h:n<=1000):small n=true:=by unfold small;exact yV (by omega)
theorem uh{lo hi:Int}(h1 : -1000000<=lo)(h2:lo<=1000000)(h3 : -1000000<=hi)(h4:hi<=1000000)(h5:hi - lo<=1000000):okR lo hi=true:=by
 unfold okR
 refine yV ⟨?_,?_,?_,?_,?_⟩<;>omega
theorem el_mk{k:Nat}{T:Tg}{f:SE}{ρ ρ1 ρ3:Rho}{d y y':D}{nw:Bool}(h1:bi T d (ρ++List.replicate k none)=some ρ1)(h2:f ρ1=some (.ok y' nw,ρ3))(h3:ρ3.take ρ.length=ρ)(hy:y'=y):∃ ρ1 ρ3 nw,bi T d (ρ++List.replicate k none)=some ρ1/\f ρ1=some (.ok y nw,ρ3)/\ρ3.take ρ.length=ρ:=⟨ρ1,ρ3,nw,h1,by rw [<- hy];exact h2,h3⟩
theorem lp_mk{T:Tg}{f:SS}{ρ ρ1 ρ2:Rho}{d:D}{I:Rho->Prop}(h1:bi T d ρ=some ρ1)(h2:f ρ1=some (.nx,ρ2))(h3:I ρ2):∃ ρ1 ρ2,bi T d ρ=some ρ1/\f ρ1=some (.nx,ρ2)/\I ρ2:=⟨ρ1,ρ2,h1,h2,h3⟩
end L2
namespace Srt
open PySem PySem.W PyProof.Rows
def Tru{α:Type}(lt:Nat->Nat->Bool)(P:α->Prop):KasT α->Prop
 | .ret a=>P a
 | .ask i j k=>Tru lt P (k (lt i j))
theorem Tru.bind{α β:Type}{lt:Nat->Nat->Bool}{P:β->Prop}{f:α->KasT β}:∀ {t:KasT α},Tru lt (fun a=>Tru lt P (f a)) t->Tru lt P (t.bind f)
 | .ret _,h=>h
 | .ask i j k,h=>Tru.bind (t:=k (lt i j)) h
theorem Tru.mono{α:Type}{lt:Nat->Nat->Bool}{P P':α->Prop}(hp:∀ a,P a->P' a):∀ {t:KasT α},Tru lt P t->Tru lt P' t
 | .ret a,h=>hp a h
 | .ask i j k,h=>Tru.mono hp (t:=k (lt i j)) h
theorem both{α:Type}{n:Nat}{lt:Nat->Nat->Bool}{P P':α->Prop}{cmp:Nat->Nat->(Bool->Shared->Prop)->Shared->Prop}{Q:α->Shared->Prop}{s:Shared}
 (hc:∀ i j C,i < n->j < n->C (lt i j) s->cmp i j C s) (hq:∀ a,P a->P' a->Q a s):∀ {t:KasT α},All n P t->Tru lt P' t->t.kasWp cmp Q s
 | .ret a,h,g=>hq a h g
 | .ask i j k,⟨h1,h2,h3⟩,g=>hc i j _ h1 h2 (both hc hq (h3 _) g)
structure Ord(lt:Nat->Nat->Bool):Prop where
 asym:∀ a b,lt a b=true->lt b a=false
 trans:∀ a b c,lt b a=false->lt c b=false->lt c a=false
section
variable{lt:Nat->Nat->Bool}(O:Ord lt)
theorem Ord.refl(O:Ord lt)(a:Nat):lt a a=false:=by
 cases h:lt a a with
 | false=>rfl
 | true=>exact absurd (O.asym a a h) (by rw [h];decide)
abbrev Le(lt:Nat->Nat->Bool)(a b:Nat):Prop:=lt b a=false
abbrev at_(p:Array Nat)(i:Nat):Nat:=p.getD i 0
def Asc(lt:Nat->Nat->Bool)(p:Array Nat)(m:Nat):Prop:=∀ i j,i<=j->j < m->Le lt (at_ p i) (at_ p j)
def Des(lt:Nat->Nat->Bool)(p:Array Nat)(m:Nat):Prop:=∀ i j,i<=j->j < m->Le lt (at_ p j) (at_ p i)
def Eqv(lt:Nat->Nat->Bool)(p:Array Nat)(a b:Nat):Prop:=∀ i j,a<=i->i < b->a<=j->j < b->Le lt (at_ p i) (at_ p j)
theorem mz{p:Array Nat}{i j:Nat}(hj:j<=p.size)(k:Nat):at_ (kas_rev p i j) k=if i<=k/\k < j then at_ p (i+j - 1 - k) else at_ p k:=by
 have h:=getElem?_mirror_all (xs:=p) (i:=i) hj k
 show (kas_rev p i j).getD k 0=_
 unfold kas_rev at_;rw [zm,h]
 split<;>rw [zm]
theorem at_bub{p:Array Nat}{k l:Nat}(hk:k < p.size)(hl:l<=k)(t:Nat):at_ (bubble p k (k - l)) t=if t=l then at_ p k else if l < t/\t<=k then at_ p (t - 1) else at_ p t:=by
 have h:=getElem?_bubble (xs:=p) hk (k - l) (by omega) t;rw [show k - (k - l)=l by omega] at h
 show (bubble p k (k - l)).getD t 0=_
 rw [zm,h]
 by_cases h1:t=l
 ·rw [if_pos h1,if_pos h1,<- zm]
 ·rw [if_neg h1,if_neg h1]
  by_cases h2:l < t/\t<=k
  ·rw [if_pos h2,if_pos h2,<- zm]
  ·rw [if_neg h2,if_neg h2,<- zm]
include O
theorem Asc.snoc{p:Array Nat}{n:Nat}(h:Asc lt p n)(h1:1<=n)(hn:Le lt (at_ p (n - 1)) (at_ p n)):Asc lt p (n+1):=fun i j hij hj=>by
 by_cases e:j=n
 ·subst e
  by_cases e2:i=j
  ·subst e2;exact O.refl _
  ·exact O.trans _ _ _ (h i (j - 1) (by omega) (by omega)) hn
 ·exact h i j hij (by omega)
theorem Des.snoc{p:Array Nat}{n:Nat}(h:Des lt p n)(h1:1<=n)(hn:Le lt (at_ p n) (at_ p (n - 1))):Des lt p (n+1):=fun i j hij hj=>by
 by_cases e:j=n
 ·subst e
  by_cases e2:i=j
  ·subst e2;exact O.refl _
  ·exact O.trans _ _ _ hn (h i (j - 1) (by omega) (by omega))
 ·exact h i j hij (by omega)
theorem pC{p:Array Nat}:∀ f n,1<=n->Asc lt p n->Tru lt (fun m=>n<=m/\m<=n+f/\Asc lt p m/\(m=n+f\/lt (at_ p m) (at_ p (m - 1))=true)) (kas_asc p f n)
 | 0,n,h1,h=>⟨yO _,yO _,h,.inl rfl⟩
 | f+1,n,h1,h=>by
  show Tru lt _ (if lt (at_ p n) (at_ p (n - 1))=true then KasT.ret n else kas_asc p f (n+1))
  by_cases c:lt (at_ p n) (at_ p (n - 1))=true
  ·rw [if_pos c]
   exact ⟨yO _,by omega,h,.inr c⟩
  ·rw [if_neg c]
   exact (pC f (n+1) (by omega) (h.snoc O h1 (by simpa using c))).mono fun m ⟨a,b,c,d⟩=>⟨by omega,by omega,c,d.imp (fun z=>by omega) id⟩
theorem i0:∀ f (p:Array Nat) n q,1<=n->q+1<=n->n+f<=p.size->Des lt p n->Eqv lt p (n - (q+1)) n ->
 Tru lt (fun r=>n<=r.2.1/\r.2.1<=n+f/\r.2.2+1<=r.2.1/\r.1.size=p.size/\Des lt r.1 r.2.1/\Eqv lt r.1 (r.2.1 - (r.2.2+1)) r.2.1) (kas_desc f p n q)
 | 0,p,n,q,h1,hq,hs,hd,he=>⟨yO _,yO _,hq,rfl,hd,he⟩
 | f+1,p,n,q,h1,hq,hs,hd,he=>by
  have one:∀ (p':Array Nat),Eqv lt p' (n+1 - (0+1)) (n+1):=fun p' i j a b c d=>by
   have:i=j:=by omega
   subst this;exact O.refl _
  show Tru lt _ (if lt (at_ p n) (at_ p (n - 1))=true then (if q > 0 then kas_desc f (kas_rev p (n - (q+1)) n) (n+1) 0 else kas_desc f p (n+1) 0)
   else KasT.ask (at_ p (n - 1)) (at_ p n) fun d=>if d=true then .ret (p,n,q) else kas_desc f p (n+1) (q+1))
  by_cases c:lt (at_ p n) (at_ p (n - 1))=true
  ·rw [if_pos c]
   have hle:Le lt (at_ p n) (at_ p (n - 1)):=O.asym _ _ c
   by_cases q0:q > 0
   ·rw [if_pos q0]
    have hn:n<=p.size:=by omega
    have sz:(kas_rev p (n - (q+1)) n).size=p.size:=mirror_size _ _ _ _;have R:=mz (p:=p) (i:=n - (q+1)) hn
    have D:Des lt (kas_rev p (n - (q+1)) n) (n+1):=fun i j hij hj=>by
     rw [R i,R j]
     by_cases ej:j=n
     ·subst ej
      rw [if_neg (by omega:¬ (j - (q+1)<=j/\j < j))]
      split
      ·exact O.trans _ _ _ hle (hd _ (j - 1) (by omega) (by omega))
      ·by_cases ei:i=j
       ·subst ei;exact O.refl _
       ·exact O.trans _ _ _ hle (hd _ (j - 1) (by omega) (by omega))
     ·by_cases si:n - (q+1)<=i/\i < n
      ·rw [if_pos si,if_pos (by omega:n - (q+1)<=j/\j < n)]
       exact he _ _ (by omega) (by omega) (by omega) (by omega)
      ·rw [if_neg si]
       split
       ·exact hd _ _ (by omega) (by omega)
       ·exact hd _ _ hij (by omega)
    exact (i0 f _ (n+1) 0 (by omega) (by omega) (by rw [sz];omega) D (one _)).mono fun r ⟨a,b,c,d,e,g⟩=>⟨by omega,by omega,c,d.trans sz,e,g⟩
   ·rw [if_neg q0]
    exact (i0 f p (n+1) 0 (by omega) (by omega) (by omega) (hd.snoc O h1 hle) (one _)).mono fun r ⟨a,b,c,d,e,g⟩=>⟨by omega,by omega,c,d,e,g⟩
  ·rw [if_neg c]
   have c:lt (at_ p n) (at_ p (n - 1))=false:=by simpa using c
   show Tru lt _ (if lt (at_ p (n - 1)) (at_ p n)=true then KasT.ret (p,n,q) else kas_desc f p (n+1) (q+1))
   by_cases d:lt (at_ p (n - 1)) (at_ p n)=true
   ·rw [if_pos d]
    exact ⟨yO _,Nat.le_add_right _ _,hq,rfl,hd,he⟩
   ·rw [if_neg d]
    have d:lt (at_ p (n - 1)) (at_ p n)=false:=by simpa using d
    have E:Eqv lt p (n+1 - (q+1+1)) (n+1):=fun i j a b a2 b2=>by
     by_cases ei:i=n
     ·by_cases ej:j=n
      ·rw [ei,ej];exact O.refl _
      ·rw [ei]
       exact O.trans _ _ _ d (he (n - 1) j (by omega) (by omega) (by omega) (by omega))
     ·by_cases ej:j=n
      ·rw [ej]
       exact O.trans _ _ _ (he i (n - 1) (by omega) (by omega) (by omega) (by omega)) c
      ·exact he i j (by omega) (by omega) (by omega) (by omega)
    exact (i0 f p (n+1) (q+1) (by omega) (by omega) (by omega) (hd.snoc O h1 d) E).mono fun r ⟨a,b,c,d,e,g⟩=>⟨by omega,by omega,c,d,e,g⟩
theorem mQ{p:Array Nat}{n N:Nat}(h1:1<=n)(hn:n<=N)(hs:p.size=N)(hd:Des lt p n):Tru lt (fun r:Nat×Array Nat=>1<=r.1/\r.1<=N/\r.2.size=N/\Asc lt r.2 r.1) (kas_tail3 n N p):=by
 unfold kas_tail3;have sz:(kas_rev p 0 n).size=p.size:=mirror_size _ _ _ _;have R:=mz (p:=p) (i:=0) (j:=n) (by omega)
 have A:Asc lt (kas_rev p 0 n) n:=fun i j hij hj=>by
  rw [R i,R j,if_pos (by omega),if_pos (by omega)];exact hd _ _ (by omega) (by omega)
 exact ((pC O (N - n) n h1 A).mono fun m ⟨a,b,c,_⟩=>(show 1<=m/\m<=N/\(kas_rev p 0 n).size=N/\Asc lt (kas_rev p 0 n) m from ⟨by omega,by omega,sz.trans hs,c⟩)).bind
theorem iG{p:Array Nat}{n N:Nat}(h1:1<=n)(hn:n+1<=N)(hs:p.size=N)(hd:Des lt p (n+1)):Tru lt (fun r:Nat×Array Nat=>1<=r.1/\r.1<=N/\r.2.size=N/\Asc lt r.2 r.1) (kas_descPart n N p):=by
 unfold kas_descPart
 refine ((i0 O (N - (n+1)) p (n+1) 0 (by omega) (by omega) (by omega) hd (fun i j a b c d=>by
  have:i=j:=by omega
  subst this
  exact O.refl _)).mono fun r ⟨a,b,c,d,e,g⟩=> ?_).bind
 by_cases q:r.2.2 > 0
 ·rw [if_pos q]
  have hz:r.2.1<=r.1.size:=by omega
  have R:=mz (p:=r.1) (i:=r.2.1 - (r.2.2+1)) (j:=r.2.1) hz
  refine mQ O (by omega) (by omega) ((mirror_size _ _ _ _).trans (d.trans hs)) fun i j hij hj=> ?_
  rw [R i,R j]
  by_cases si:r.2.1 - (r.2.2+1)<=i/\i < r.2.1
  ·rw [if_pos si,if_pos (by omega)]
   exact g _ _ (by omega) (by omega) (by omega) (by omega)
  ·rw [if_neg si]
   split
   ·exact e _ _ (by omega) (by omega)
   ·exact e _ _ hij hj
 ·rw [if_neg q]
  exact mQ O (by omega) (by omega) (d.trans hs) e
theorem uZ{p:Array Nat}{N:Nat}(hN:1<=N)(hs:p.size=N):Tru lt (fun r:Nat×Array Nat=>1<=r.1/\r.1<=N/\r.2.size=N/\Asc lt r.2 r.1) (kas_count N p):=by
 unfold kas_count
 refine ((pC O (p:=p) (N - 1) 1 (yO _) (fun i j a b=>by
  have:i=j:=by omega
  subst this
  exact O.refl _)).mono fun n ⟨a,b,c,d⟩=> ?_).bind
 by_cases e:(n == N)=true
 ·rw [if_pos e]
  exact ⟨a,by omega,hs,c⟩
 ·rw [if_neg e]
  have ne:n≠N:=by simpa using e
  have hl:lt (at_ p n) (at_ p (n - 1))=true:=d.resolve_left (by omega)
  by_cases n1:n > 1
  ·rw [if_pos n1]
   show Tru lt _ (if lt (at_ p 0) (at_ p (n - 1))=true then _ else _)
   by_cases z:lt (at_ p 0) (at_ p (n - 1))=true
   ·rw [if_pos z]
    exact ⟨a,by omega,hs,c⟩
   ·rw [if_neg z]
    have z:lt (at_ p 0) (at_ p (n - 1))=false:=by simpa using z
    have R:=mz (p:=p) (i:=0) (j:=n) (by omega)
    have ev:∀ i j,i < n->j < n->Le lt (at_ p i) (at_ p j):=fun i j hi hj =>
     O.trans _ _ _ (c i (n - 1) (by omega) (by omega)) (O.trans _ _ _ z (c 0 j (by omega) hj))
    refine iG O (by omega) (by omega) ((mirror_size _ _ _ _).trans hs) fun i j hij hj=> ?_
    rw [R i,R j]
    by_cases ej:j=n
    ·subst ej
     rw [if_neg (by omega:¬ (0<=j/\j < j))]
     split
     ·exact O.trans _ _ _ (O.asym _ _ hl) (ev _ _ (by omega) (by omega))
     ·have:i=j:=by omega
      subst this;exact O.refl _
    ·rw [if_pos (by omega:0<=i/\i < n),if_pos (by omega:0<=j/\j < n)]
     exact ev _ _ (by omega) (by omega)
  ·rw [if_neg n1]
   have:n=1:=by omega
   subst this
   refine iG O (by omega) (by omega) hs fun i j hij hj=> ?_
   by_cases e:i=j
   ·subst e;exact O.refl _
   ·have hi:i=0:=by omega
    have hj:j=1:=by omega
    subst hi hj;exact O.asym _ _ hl
theorem jp{p:Array Nat}{k:Nat}(h:Asc lt p k):∀ f l r,l<=r->r<=k->r<=l+f->(∀ i,i < l->Le lt (at_ p i) (at_ p k))->(∀ i,r<=i->i < k->Le lt (at_ p k) (at_ p i)) ->
 Tru lt (fun m=>m<=k/\(∀ i,i < m->Le lt (at_ p i) (at_ p k))/\∀ i,m<=i->i < k->Le lt (at_ p k) (at_ p i)) (kas_place p k f l r)
 | 0,l,r,h1,h2,h3,h4,h5=>⟨by omega,h4,fun i a b=>h5 i (by omega) b⟩
 | f+1,l,r,h1,h2,h3,h4,h5=>by
  unfold kas_place
  by_cases g:l>=r
  ·rw [if_pos g]
   exact ⟨by omega,h4,fun i a b=>h5 i (by omega) b⟩
  ·rw [if_neg g]
   show Tru lt _ (if lt (at_ p k) (at_ p ((l+r) / 2))=true then _ else _)
   by_cases c:lt (at_ p k) (at_ p ((l+r) / 2))=true
   ·rw [if_pos c]
    exact jp h f l ((l+r) / 2) (by omega) (by omega) (by omega) h4 fun i a b=>O.trans _ _ _ (O.asym _ _ c) (h _ i a b)
   ·rw [if_neg c]
    have c:lt (at_ p k) (at_ p ((l+r) / 2))=false:=by simpa using c
    exact jp h f ((l+r) / 2+1) r (by omega) h2 (by omega) (fun i a=>O.trans _ _ _ (h i _ (by omega) (by omega)) c) h5
theorem vh{N:Nat}:∀ f (p:Array Nat) k,1<=k->k+f=N->p.size=N->Asc lt p k->Tru lt (fun r:Array Nat=>r.size=N/\Asc lt r N) (kas_bin f p k)
 | 0,p,k,h1,h2,hs,h=>⟨hs,by rw [<- h2];exact h⟩
 | f+1,p,k,h1,h2,hs,h=>by
  unfold kas_bin;refine ((jp O h k 0 k (by omega) (yO _) (by omega) (fun i z=>by omega) (fun i a b=>by omega)).mono fun l ⟨a,b,c⟩=> ?_).bind;have B:=at_bub (p:=p) (k:=k) (l:=l) (by omega) a
  refine vh f _ (k+1) (by omega) (by omega) ((bubble_size _ _ _).trans hs) fun i j hij hj=> ?_
  rw [B i,B j]
  by_cases ei:i=l
  ·rw [if_pos ei]
   by_cases ej:j=l
   ·rw [if_pos ej];exact O.refl _
   ·rw [if_neg ej,if_pos (by omega)]
    exact c _ (by omega) (by omega)
  ·rw [if_neg ei]
   by_cases ej:j=l
   ·rw [if_pos ej,if_neg (by omega)]
    exact b i (by omega)
   ·rw [if_neg ej]
    split
    ·rw [if_pos (by omega)]
     exact h _ _ (by omega) (by omega)
    ·split
     ·exact h _ _ (by omega) (by omega)
     ·exact h _ _ hij (by omega)
theorem vO{n:Nat}(h:1<=n):Tru lt (fun r:Array Nat=>r.size=n/\Asc lt r n) (kas_sort n):=by
 unfold kas_sort;refine ((uZ O h (by simp)).mono fun r ⟨a,b,c,d⟩=> ?_).bind
 by_cases e:r.1 < n
 ·rw [if_pos e,show max r.1 1=r.1 by omega]
  exact vh O _ _ _ a (by omega) c d
 ·rw [if_neg e]
  have:r.1=n:=by omega
  exact ⟨c,by rw [<- this];exact d⟩
end
end Srt
namespace Srt
open PySem PySem.W PyProof.Rows
def cI:List Int->List Int->Bool
 | [],[]=>false
 | [],_::_=>true
 | _::_,[]=>false
 | a::as,b::bs=>if a=b then cI as bs else decide (a < b)
theorem fV:∀ a b:List Int,cI a b=true->cI b a=false
 | [],[],h=>by cases h
 | [],_::_,_=>rfl
 | _::_,[],h=>by cases h
 | a::as,b::bs,h=>by
  unfold cI at h ⊢
  by_cases e:a=b
  ·rw [if_pos e] at h
   rw [if_pos e.symm];exact fV as bs h
  ·rw [if_neg e] at h
   rw [if_neg (Ne.symm e)];have:=yS h;exact zd (by omega)
theorem jF:∀ a b:List Int,cI a b=false->cI b a=false->a=b
 | [],[],_,_=>rfl
 | [],_::_,h,_=>by cases h
 | _::_,[],_,h=>by cases h
 | a::as,b::bs,h,g=>by
  unfold cI at h g
  by_cases e:a=b
  ·rw [if_pos e] at h
   rw [if_pos e.symm] at g;rw [e,jF as bs h g]
  ·rw [if_neg e] at h
   rw [if_neg (Ne.symm e)] at g;have h:=AB h;have g:=AB g;omega
theorem eS:∀ a b c:List Int,cI b a=false->cI c b=false->cI c a=false
 | [],_,[],_,_=>rfl
 | [],[],_::_,_,_=>rfl
 | [],_::_,_::_,_,_=>rfl
 | _::_,[],_,h,_=>by cases h
 | _::_,_::_,[],_,h=>by cases h
 | a::as,b::bs,c::cs,h,g=>by
  unfold cI at h g ⊢
  by_cases e1:b=a
  ·rw [if_pos e1] at h
   by_cases e2:c=b
   ·rw [if_pos e2] at g
    rw [if_pos (e2.trans e1)];exact eS as bs cs h g
   ·rw [if_neg e2] at g
    have g:=AB g;rw [if_neg (fun z=>e2 (z.trans e1.symm))];exact zd (by omega)
  ·rw [if_neg e1] at h
   have h:=AB h
   by_cases e2:c=b
   ·rw [if_neg (fun z=>e1 (e2.symm.trans z))]
    exact zd (by omega)
   ·rw [if_neg e2] at g
    have g:=AB g;rw [if_neg (by omega)];exact zd (by omega)
def rC(x:List Int):List (List Int)->List (List Int)
 | []=>[x]
 | y::l=>if cI y x=true then y::rC x l else x::y::l
def eR:List (List Int)->List (List Int)
 | []=>[]
 | x::l=>rC x (eR l)
theorem hX(x:List Int):∀ l,(rC x l).Perm (x::l)
 | []=> .refl _
 | y::l=>by
  unfold rC
  split
  ·exact ((hX x l).cons y).trans (.swap _ _ _)
  ·exact .refl _
theorem cA:∀ l,(eR l).Perm l
 | []=> .refl _
 | x::l=>(hX x _).trans ((cA l).cons x)
abbrev LeL(a b:List Int):Prop:=cI b a=false
theorem iE(x:List Int):∀ l:List (List Int),l.Pairwise LeL->(rC x l).Pairwise LeL
 | [],_=>List.pairwise_singleton _ _
 | y::l,h=>by
  have hc:=zn.mp h;unfold rC
  split
  ·rename_i hl
   refine zn.mpr ⟨fun z hz=> ?_,iE x l hc.2⟩
   rcases yP.mp ((hX x l).mem_iff.mp hz) with rfl | hz
   ·exact fV _ _ hl
   ·exact hc.1 z hz
  ·rename_i hl
   have hl:cI y x=false:=by simpa using hl
   refine zn.mpr ⟨fun z hz=> ?_,h⟩
   rcases yP.mp hz with rfl | hz
   ·exact hl
   ·exact eS _ _ _ hl (hc.1 z hz)
theorem dQ:∀ l,(eR l).Pairwise LeL
 | []=> .nil
 | x::l=>iE x _ (dQ l)
theorem bt:∀ {a b:List (List Int)},a.Pairwise LeL->b.Pairwise LeL->a.Perm b->a=b
 | [],b,_,_,p=>by rw [p.nil_eq]
 | x::a,[],_,_,p=>absurd p.symm.nil_eq (by simp)
 | x::a,y::b,ha,hb,p=>by
  have ha':=zn.mp ha;have hb':=zn.mp hb
  have exy:x=y:=by
   have hx:x∈y::b:=p.mem_iff.mp yL;have hy:y∈x::a:=p.mem_iff.mpr yL
   rcases yP.mp hx with e | hx
   ·exact e
   ·rcases yP.mp hy with e | hy
    ·exact e.symm
    ·exact jF _ _ (hb'.1 x hx) (ha'.1 y hy)
  subst exy;rw [bt ha'.2 hb'.2 (List.Perm.cons_inv p)]
theorem lexE{prog:Program}{w:World}{A:Around}{fin:Bool}{C:Bool->Shared->Prop}{s:Shared}:∀ {vs ws:List Value} {ns ms:List Int} (i:Nat),IntsAre vs ns->IntsAre ws ms->fin=decide (ns.length < ms.length)->C (cI ns ms) s->KatLex prog w A true fin C (vs.zip ws) i s
 | [],[],_,_,i,.nil,.nil,hf,hC=>kat_nil (by subst hf;exact hC)
 | [],_::_,_,_,i,.nil,.cons _ _ _,hf,hC=>kat_nil (by subst hf;rw [yV (by simp)];exact hC)
 | _::_,[],_,_,i,.cons _ _ _,.nil,hf,hC=>kat_nil (by subst hf;rw [zd (by simp)];exact hC)
 | _::vs,_::ws,_::ns,_::ms,i,.cons a t h1,.cons c u h2,hf,hC=>by
  rw [A4];refine kat_cons ?_;obtain ⟨e,he,h3⟩:=HT.uU A s a t c u;refine he prog w _ _ ?_;unfold cI at hC
  cases e with
  | true =>
   rw [if_pos (h3.mp rfl)] at hC;exact kat_yes (lexE (i+1) h1 h2 (by rw [hf];simp) hC)
  | false =>
   rw [if_neg (fun z=>by cases h3.mpr z)] at hC;refine kat_no ?_
   cases i with
   | zero=>exact oneLt_int hC
   | succ i=>exact kat_one _ _ (lt_int hC)
section
variable{prog:Program}{w:World}{A:Around}{E:Value->Shared->Prop}{s:Shared}
def fJ(h:Heap)(vs:List Value)(ks:List (List Int)):Prop:=vs.length=ks.length/\∀ (i:Nat) (hi:i < vs.length),∃ a items,vs[i] = .ref a/\IsTup h a items/\IntsAre items.toList (ks.getD i [])/\ks.getD i []≠[]
theorem fJ.tups{h:Heap}{vs:List Value}{ks:List (List Int)}(t:fJ h vs ks):Tups h vs:=fun v hv=>by
 obtain ⟨i,hi,rfl⟩:=Ad.mp hv;obtain ⟨a,items,h1,h2,h3,h4⟩:=t.2 i hi;exact ⟨a,items,_,h1,h2,h3,h4⟩
theorem fJ.keep{h h':Heap}{vs:List Value}{ks:List (List Int)}(t:fJ h vs ks)(k:∀ b o,h.get? b=some o->o.cls = .type "tuple" -> h'.get? b=some o):fJ h' vs ks:=⟨t.1,fun i hi=>by
 obtain ⟨a,items,e,⟨o,h1,h2,n,h3⟩,i,ne⟩:=t.2 i hi
 exact ⟨a,items,e,⟨o,k a o h1 h2,h2,n,h3⟩,i,ne⟩⟩
abbrev klt(ks:List (List Int))(i j:Nat):Bool:=cI (ks.getD i []) (ks.getD j [])
theorem wM(ks:List (List Int)):Ord (klt ks):=⟨fun _ _ h=>fV _ _ h,fun _ _ _ h g=>eS _ _ _ h g⟩
theorem asc_pw{lt:Nat->Nat->Bool}{p:Array Nat}(h:Asc lt p p.size):p.toList.Pairwise (Le lt):=by
 rw [List.pairwise_iff_getElem];intro i j hi hj hij;have:=h i j (zT hij) (by simpa using hj);unfold Le at_ at this
 have gi:i < p.size:=by simpa using hi
 have gj:j < p.size:=by simpa using hj
 rw [zm,zm,zA gi,zA gj] at this;simpa using this
end
end Srt
namespace Srt
open PySem PySem.W PyProof.Rows
section
variable{prog:Program}{w:World}{A:Around}{E:Value->Shared->Prop}{s:Shared}
theorem _root_.L2.IntsAre_len{vs:List Value}{ns:List Int}(h:IntsAre vs ns):vs.length=ns.length:=by
 induction h with
 | nil=>rfl
 | cons _ _ _ ih=>rw [yM,yM,ih]
theorem xI{a:Addr}{vs:List Value}{ks:List (List Int)}{n:Nat}{P:PySem.Fin->Shared->Prop}(ho:s.heap.get? a=some (seqObj "list" vs.toArray n))(ht:fJ s.heap vs ks)(h64:vs.length < 64)
 (h:∀ p:List Nat,p.Perm (List.range vs.length)->p.Pairwise (Le (klt ks))->P (.done (.ret .none)) { s with heap:=sortedHeap s.heap a vs (p.map fun i=>vs.getD i Value.none).toArray }):wpAny (model prog w) A (Builtin.«list.sort» ⟨[.ref a],[]⟩) P E s:=by
 rw [list_sort_plain];have ha:a < s.heap.objs.size:=yN ho;refine yB (listItems_at ho rfl (yB (listUpdate_at ho rfl ?_)));obtain ⟨e1,o1⟩:∃ e1,(s.heap.update a (Obj.mapSeq fun _ => #[])).get? a=some (seqObj "list" #[] e1):=⟨_,get?_update_seq ho (fun _ => #[])⟩;refine yB (seqEpoch_at o1 rfl (yB (wpAny_newTuple (yB (AT ?_)))));refine zG ?_;have o6:(((s.heap.update a (Obj.mapSeq fun _ => #[])).push (seqObj "tuple" vs.toArray 0)).push (seqObj "list" #[] 0)).get? a=some (seqObj "list" #[] e1):=yC _ (yC _ o1)
 show wpAny (model prog w) A _ P E { s with heap:=((s.heap.update a (Obj.mapSeq fun _ => #[])).push (seqObj "tuple" vs.toArray 0)).push (seqObj "list" #[] 0) }
 dsimp only
 have hsz:vs.toArray.size=vs.length:=by simp
 have t6:fJ (((s.heap.update a (Obj.mapSeq fun _ => #[])).push (seqObj "tuple" vs.toArray 0)).push (seqObj "list" #[] 0)) vs ks:=ht.keep fun b o e c=>by
  refine yC _ (yC _ ((zY _ _ ?_).trans e));rintro rfl;rw [ho] at e;cases e;exact absurd c (by simp [seqObj])
 by_cases h2:vs.toArray.size < 2
 ·rw [if_pos h2,if_pos h2]
  refine yB (yE ?_);rw [StateT.run_pure];refine yB (yE ?_);dsimp only;refine yB (seqEpoch_at o6 rfl (yB (listUpdate_at o6 rfl ?_ (hsz2:=by rw [Array.size_map];show (pairsOf vs).size<=_;rw [pairsOf_size,sizeLine_eq];omega))));simp only [bne_self_eq_false,zL,if_false];refine yE ?_
  have e:((vs.toArray.zip vs.toArray).map (·.2))=vs.toArray:=by
   apply Array.toList_inj.mp;rw [Array.toList_map,Array.toList_zip];exact List.map_snd_zip (yO _)
  have q:=h (List.range vs.length) (List.Perm.refl _) (List.pairwise_iff_getElem.mpr fun i j hi hj hij=>by
   rw [zW] at hi hj
   omega)
  rw [show ((List.range vs.length).map fun i=>vs.getD i Value.none)=vs by
   apply AQ
   ·simp
   ·intro i h1 h2
    simp [h2]] at q
  rw [<- e] at q;exact q
 ·rw [if_neg h2,if_neg h2]
  have h2':2<=vs.length:=by omega
  obtain ⟨fs,f1,f2,f3⟩:=uQ (M:=model prog w) t6.tups;refine yB (kat_kind (T:= .type "int") f2 (by omega) f3 (by decide) ?_);rw [show ((Value.type "int" != Value.type "tuple")=true) from by decide]
  refine yB (zp (kat_run (Q:=fun st' s'=>∃ p:Array Nat,(cM vs.length p/\p.size=vs.length/\Asc (klt ks) p vs.length)/\arrOf st'=p.map (kas_item (vs.toArray.zip vs.toArray))/\failedOf st'=none/\s'=_) (G:=fun p s'=>(cM vs.length p/\p.size=vs.length/\Asc (klt ks) p vs.length)/\s'=_) (ks:=vs) rfl h2' h64
   (fun p st' s' _ a2 a3 a4=>⟨p,a4.1,a2,a3,a4.2⟩) (both (lt:=klt ks) (P:=cM vs.length) (P':=fun p:Array Nat=>p.size=vs.length/\Asc (klt ks) p vs.length) (fun i j C hi hj hC=> ?_) (fun p hp hp2=>⟨⟨hp,hp2⟩,rfl⟩) (sort (by omega)) (vO (wM ks) (by omega)))) ?_ fun _ _ x=>x)
  ·show wpAny (model prog w) A (keyLt' (tuples' true) (vs.getD i Value.none) (vs.getD j Value.none)) C (fun _ _=>False) _
   have gi:vs.getD i Value.none=vs[i]:=by simp [hi]
   have gj:vs.getD j Value.none=vs[j]:=by simp [hj]
   rw [gi,gj];obtain ⟨x,xs,ex,⟨ox,x1,x2,nx,x3⟩,ix,_⟩:=t6.2 i hi;obtain ⟨y,ys,ey,⟨oy,y1,y2,ny,y3⟩,iy,_⟩:=t6.2 j hj;rw [ex,ey];refine kat_lt x1 x3 y1 y3 (lexE 0 ix iy ?_ hC);rw [<- zt,<- zt,L2.IntsAre_len ix,L2.IntsAre_len iy]
  ·rintro ⟨⟨⟩,st'⟩ s' ⟨p,⟨hp,hpz,hpa⟩,har,hf,rfl⟩
   dsimp only;have hout:=kat_snds (vs:=vs) (ks:=vs) rfl har
   have hperm:(p.toList.map fun i=>vs.getD i Value.none).Perm vs:=by
    have e:=hp.2.map fun i=>vs.getD i Value.none
    refine e.trans (A0 ?_);apply AQ
    ·simp
    ·intro i h1 h2
     simp [h2]
   rw [hout];refine yB (seqEpoch_at o6 rfl (yB (listUpdate_at o6 rfl ?_ (hsz2:=by rw [yG,hperm.length_eq,sizeLine_eq];omega))));rw [hf];simp only [bne_self_eq_false,zL,if_false];exact yE (h p.toList hp.2 (asc_pw (by rw [hpz];exact hpa)))
theorem vN{l:Addr}{vs:List Value}{ks:List (List Int)}{Q:Value->Shared->Prop}(hl:s.heap.IsList l vs.toArray)(ht:fJ s.heap vs ks)(h64:vs.length < 64)
 (h:∀ p:List Nat,p.Perm (List.range vs.length)->p.Pairwise (Le (klt ks))->Q (.ref (s.heap.objs.size+1)) { s with heap:=sortedAll s.heap vs (p.map fun i=>vs.getD i Value.none).toArray }):wpAny (model prog w) A (call (.builtin "sorted") [.ref l]) Q E s:=by
 refine Calls.call_function_entry kind_sorted plain_sorted entry_sorted (args_sorted1 _) ?_;unfold Builtin.«sorted»;refine yB (m:=checkCount "sorted" 1 1 _) (yE ?_);refine yB (collect_list hl (yB (AT ?_)))
 have hsz:((s.heap.push (seqObj "list" #[] 0)).update s.heap.objs.size (Obj.mapSeq (·++ vs.toArray))).objs.size=s.heap.objs.size+1:=by
  rw [Heap.size_update,size_push']
 have oL:(((s.heap.push (seqObj "list" #[] 0)).update s.heap.objs.size (Obj.mapSeq (·++ vs.toArray))).push (seqObj "list" vs.toArray 0)).get? (s.heap.objs.size+1)=some (seqObj "list" vs.toArray 0):=by
  rw [<- hsz];exact yQ _ rfl
 show wpAny _ _ _ _ _ { s with heap:=((s.heap.push (seqObj "list" #[] 0)).update s.heap.objs.size (Obj.mapSeq (·++ vs.toArray))).push (seqObj "list" vs.toArray 0) }
 rw [hsz]
 have tL:fJ (((s.heap.push (seqObj "list" #[] 0)).update s.heap.objs.size (Obj.mapSeq (·++ vs.toArray))).push (seqObj "list" vs.toArray 0)) vs ks:=ht.keep fun b o e _ =>
  yC _ ((zY _ _ (Ne.symm (za (yN e)))).trans (yC _ e))
 refine yB (zG (zx slot_list_sort ⟨_,oL,rfl⟩ entry_list_sort (xI oL tL h64 fun p hp hs=>⟨_,rfl,?_⟩) (args_list_sort _)));exact yE ⟨_,rfl,h p hp hs⟩
end
end Srt
namespace L2
open PySem PySem.Spec PyProof.Rows
section
variable{X:Cx}
def hJ(K:A9):List V->Hp->VK->Prop:=fun xs H Q=>∃ (p:Addr) (bs:List V) (ks:List (List Int)),xs=[V.ref p]/\SqL K H p bs/\bs.length < 64/\bs.length=ks.length/\(∀ (i:Nat) (k:List Int),ks[i]?=some k->∃ a:Addr,bs[i]?=some (.ref a)/\SqT K H a (k.map V.int)/\k≠[]) /\
 ∀ l (q:List Nat),H l=none->q.Perm (List.range bs.length)->q.map (fun i=>ks.getD i [])=Srt.eR ks->Q (.ref l) (upd H l (.lst (q.map fun i=>bs.getD i .non)))
theorem mo:aE X (.builtin "sorted") (hJ X.K):=by
 intro pins s σ H xs us Q I r h;obtain ⟨p,bs,ks,rfl,hq,h64,hlk,ht,q⟩:=h;obtain ⟨u,rfl,ru⟩:=bN r;cases ru;obtain ⟨its,rv,pl,hz⟩:=I.list hq;have hlen:=rv.length
 have isref:∀ b∈bs,∃ a,b = .ref a:=fun b hb=>by
  obtain ⟨i,hi,rfl⟩:=Ad.mp hb;obtain ⟨a,e,_⟩:=ht i _ (yD (by omega));rw [yD hi] at e;exact ⟨a,Option.some.inj e⟩
 obtain ⟨eb,refs⟩:=kK rv isref
 refine Srt.vN (ks:=ks) pl.isList ⟨by omega,fun i hi=> ?_⟩ (by omega) fun p hp hs=> ?_
 ·obtain ⟨a,e,hS,ne⟩:=ht i _ (yD (by omega))
  have hv:its[i] = .ref a:=by
   obtain ⟨b,hb⟩:=refs its[i] (zN hi)
   have:(its.map na)[i]?=some (.ref a):=by rw [<- eb];exact e
   rw [zc,yD hi,hb] at this;rw [hb];have:=Option.some.inj this;cases this;rfl
  obtain ⟨items,ri,pt,_⟩:=I.tuple hS
  have hk:ks.getD i []=ks[i]'(by omega):=by simp [zf,yD (show i < ks.length by omega)]
  rw [hk];exact ⟨a,items.toArray,hv,pt,dU ri,ne⟩
 ·have hf:H (s.heap.objs.size+1)=none:=I.hok.fresh (AH _)
  have perm:(p.map fun i=>its.getD i Value.none).Perm its:=by
   refine (hp.map _).trans (A0 ?_);apply AQ
   ·simp
   ·intro i h1 h2
    simp [h2]
  have ro:∀ u∈(p.map fun i=>its.getD i Value.none),∃ b,u = .ref b:=fun u hu=>refs u (perm.mem_iff.mp hu)
  have eo:(p.map fun i=>its.getD i Value.none).map na=p.map fun i=>bs.getD i .non:=by
   rw [zR];apply Af;intro i hi
   have hi':i < its.length:=by
    have:=hp.mem_iff.mp hi;simpa using this
   show na (its.getD i Value.none)=_
   rw [eb];simp [zf,hi']
  have es:p.map (fun i=>ks.getD i [])=Srt.eR ks:=by
   refine Srt.bt ?_ (Srt.dQ ks) (((hp.map _).trans (A0 ?_)).trans (Srt.cA ks).symm)
   ·rw [List.pairwise_map]
    exact hs.imp fun h=>h
   ·rw [hlen.symm.trans hlk]
    apply AQ
    ·simp
    ·intro i h1 h2
     simp [h2]
  obtain ⟨e,he⟩:=sortedAll_at s.heap its (p.map fun i=>its.getD i Value.none).toArray;refine ⟨.ref (s.heap.objs.size+1),upd H (s.heap.objs.size+1) (.lst (p.map fun i=>bs.getD i .non)),I.laid (t':=s.toks) (fun b o=>sortedAll_old) (AH _) ⟨?_,_,e,by rw [<- eo];exact gY ro,he⟩,rfl,q _ p hf (by rw [hlen];exact hp) es⟩;rw [yF,hp.length_eq,zW,<- hlen];exact hz
end
def vC:D->Option (List Int)
 | .tup ds=>match aT ds with
  | some (n::ns)=>some (n::ns)
  | _=>none
 | _=>none
def ir:List D->Option (List (List Int))
 | []=>some []
 | d::ds=>match vC d,ir ds with
  | some k,some ks=>some (k::ks)
  | _,_=>none
abbrev lB(k:List Int):D:= .tup (k.map D.int)
theorem vB{d:D}{k:List Int}(h:vC d=some k):d=lB k/\k≠[]:=by
 unfold vC at h
 split at h
 ·rename_i ds
  split at h
  ·rename_i n ns e
   cases h;exact ⟨by rw [bJ e],by simp⟩
  ·cases h
 ·cases h
theorem mL:∀ {ds:List D} {ks:List (List Int)},ir ds=some ks->ds=ks.map lB/\∀ k∈ks,k≠[]
 | [],_,h=>by cases h;exact ⟨rfl,fun k hk=>by cases hk⟩
 | d::ds,ks,h=>by
  unfold ir at h
  split at h
  ·rename_i k ks' h1 h2
   cases h;obtain ⟨e1,n1⟩:=vB h1;obtain ⟨e2,n2⟩:=mL h2;exact ⟨by rw [e1,e2];rfl,fun k hk=>(yP.mp hk).elim (fun e=>e ▸ n1) (n2 k)⟩
  ·cases h
def jN:List D->Option (D×Bool)
 | [.lst ds]=>match ir ds with
  | some ks=>if decide (ks.length < 64)=true then some (.lst ((Srt.eR ks).map lB),true) else none
  | none=>none
 | _=>none
theorem kJ{K:A9}{H:Hp}{ds:List D}{xs:List V}(h:ag K H ds xs):∀ (q:List Nat),(∀ i∈q,i < ds.length)->ag K H (q.map fun i=>ds.getD i .non) (q.map fun i=>xs.getD i .non)
 | [],_=>trivial
 | i::q,hq=>by
  have hi:=hq i yL;obtain ⟨x,hx,r⟩:=h.get (yD hi);refine ⟨?_,kJ h q fun j hj=>hq j (yH _ hj)⟩
  show ay K H (ds.getD i .non) (xs.getD i .non)
  rw [zf,zf,hx,yD hi];exact r
theorem t5{K:A9}:OpS K (hJ K) jN:=by
 intro vs ds H L Q d nw hm r e q;unfold jN at e
 split at e
 ·rename_i es
  obtain ⟨x,rfl,⟨p,xs,rfl,h1,h2⟩⟩:=aI r
  cases ek:ir es with
  | none=>rw [ek] at e;cases e
  | some ks =>
   rw [ek] at e;simp only at e
   split at e
   ·rename_i hk
    cases e;have hk:=yS hk;obtain ⟨ee,hne⟩:=mL ek
    have hl:ks.length=xs.length:=by rw [<- h2.len,ee,yF]
    refine ⟨p,xs,ks,rfl,.inl (.inl h1),by omega,hl.symm,fun i k hi=> ?_,fun l p' hl' hp hs=>q _ _ (af.upd hl') (bS ?_ hl')⟩
    ·obtain ⟨v,hv,a,ys,rfl,g1,g2⟩:=h2.get (i:=i) (d:=lB k) (by rw [ee,zc,hi];rfl)
     exact ⟨a,hv,.inl (.inl (by rw [(ao g1).2,bo g2])),hne k (yU hi)⟩
    ·have:=kJ h2 p' fun i hi=>by
      have:=hp.mem_iff.mp hi;rw [Ac,<- h2.len] at this;exact this
     rw [<- hs,zR]
     have e2:(p'.map fun i=>es.getD i .non)=p'.map (lB ∘ fun i=>ks.getD i []):=by
      apply Af;intro i hi
      have hi':i < ks.length:=by
       have:=hp.mem_iff.mp hi;rw [Ac] at this;omega
      rw [ee];simp [zf,hi']
     rw [<- e2];exact this
   ·cases e
 ·cases e
def gc(ds:List D):Option (D×Bool):=match dW ds with
 | some r=>some r
 | none=>jN ds
theorem t8{K:A9}:OpS K (fun xs H Q=>(fT K xs H Q\/fS K xs H Q)\/hJ K xs H Q) gc:=by
 intro vs ds H L Q d nw hm r e q;unfold gc at e
 cases es:dW ds with
 | some z =>
  rw [es] at e;cases e;exact .inl (qW vs ds H L Q d nw hm r es q)
 | none =>
  rw [es] at e;exact .inr (t5 vs ds H L Q d nw hm r e q)
theorem pp{X:Cx}:aE X (.builtin "sorted") (fun xs H Q=>(fT X.K xs H Q\/fS X.K xs H Q)\/hJ X.K xs H Q):=mq.or mo
section
variable{X:Cx}{EX:EXT}{e:Expr}{es:List Expr}{pos p:Pos}{as:List Arg}
end
def kl(nms:List Str)(i:Nat)(f g:SS):SS:=fun ρ=>match f ρ with
 | some (.ex C,ρ1)=>if nms.elem C.nm=true then match ρ1[i]? with
  | some _=>match g (ρ1.set i (some (.exc C,.fz))) with
   | some (.nx,ρ2)=>some (.nx,ρ2.set i none)
   | some (.bk,ρ2)=>some (.bk,ρ2.set i none)
   | some (.ct,ρ2)=>some (.ct,ρ2.set i none)
   | some (.rt d nw,ρ2)=>some (.rt d nw,ρ2)
   | some (.ex _,_)=>none
   | none=>none
  | none=>none
  else none
 | r=>r
section
variable{K:A9}{F:Fx}{EX:EXT}{σ:St}{H:Hp}{ρ:Rho}{W:List Addr}
theorem Rel.drop(R:Rel K F σ H ρ W)(i:Nat):Rel K F (σ.set i none) H (ρ.set i none) W:=by
 refine ⟨fun j e m hj=> ?_,fun j k e f m n p h1 h2 h3 h4 h5 h6=> ?_,R.wz,R.mt,by rw [zz,zz];exact R.len⟩
 ·rcases aQ hj with ⟨_,e1⟩ | ⟨ne,e1⟩
  ·cases e1
  ·obtain ⟨v',g1,g2⟩:=R.slot j e m e1
   exact ⟨v',by rw [zh (Ne.symm ne)];exact g1,g2⟩
 ·rcases aQ h1 with ⟨_,z⟩ | ⟨n1,z⟩
  ·cases z
  ·rcases aQ h3 with ⟨_,z'⟩ | ⟨n2,z'⟩
   ·cases z'
   ·rw [zh (Ne.symm n1)] at h5
    rw [zh (Ne.symm n2)] at h6;exact R.apart j k _ _ _ _ _ z h2 z' h4 h5 h6
end
theorem s_try{X:Cx}{EX:EXT}{body:List Stmt}{b0:Stmt}{suite:List Stmt}{n x:Str}{i:Nat}{Dc:Addr}{np hpos pos:Pos}{f g:SS}{nms:List Str}
 (hst:X.stack=X.env::X.outer) (hfr:X.env.frame=some X.env.locals)
 (hb:∀ pn (EX':EXT),JSs (mO X pn fun c x σ H=>∃ nm C,c = .ref C/\ExL X.K H nm C x/\EX' nm σ H) EX' body f)
 (hs:∀ pn ea,JSs (fO X pn ea) EXn (b0::suite) g)
 (hN:X.N.Nodup) (hi:X.N[i]?=some n) (hlo:X.env.scope.names.lookup n=some .local) (hg:Gl X x) (hD:Hdl X.K X.mg x Dc)
 (hsub:∀ nm,nms.elem nm=true->∀ C,og X.K nm C->PySem.W.subIn X.K (.ref C) (.ref Dc)=some true) (hdb:(x == ("__debug__" : Str))=false:=by decide) :
 JS X EX (.Try body [.ExceptHandler (some (.Name x np)) (some n) (b0::suite) hpos] [] [] pos) (kl nms i f g):=by
 refine ⟨(ps_try (ts:=tVS X.K EXn g) (tb:=fun W D σ H=>∃ EX':EXT,(W=fun c x σ H=>∃ nm C,c = .ref C/\ExL X.K H nm C x/\EX' nm σ H)/\tVS X.K EX' f D σ H) hst hfr (fun pn W=> ?_) (fun pn ea=>(hs pn ea).p) hN hi hlo hg hD hdb).by fun D σ H ⟨F,ρ,W0,R,h⟩=> ?_⟩
 ·intro pins s σ H D I hw
  obtain ⟨EX',rfl,hw⟩:=hw;exact (hb pn EX').p pins s σ H D I hw
 ·let D':kB:={ nx:=fun σ'' H''=>D.nx (σ''.set i none) H'',rt:=D.rt,bk:=fun σ'' H''=>D.bk (σ''.set i none) H'',ct:=fun σ'' H''=>D.ct (σ''.set i none) H'' }
  let EX':EXT:=fun nm σ' H'=>nms.elem nm.nm=true/\∀ C ea x,ExL X.K H' nm C x->H' ea=none->tVS X.K EXn g D' (σ'.set i (some (.ref ea))) (upd H' ea (iR ea C x))
  refine ⟨_,⟨EX',rfl,F,ρ,W0,R,?_⟩,?_⟩
  ·unfold kl at h
   revert h
   cases f ρ with
   | none=>exact fun h=>h
   | some q =>
    obtain ⟨q,ρ1⟩:=q
    cases q with
    | nx=>exact fun h=>h
    | bk=>exact fun h=>h
    | ct=>exact fun h=>h
    | rt d nw=>exact fun h=>h
    | ex nm =>
     intro h;simp only at h
     by_cases he:nms.elem nm.nm=true
     ·rw [if_pos he] at h
      cases hρ:ρ1[i]? with
      | none=>rw [hρ] at h;exact h.elim
      | some z =>
       rw [hρ] at h;simp only at h;intro σ1 H1 W1 fr sub R1;refine ⟨he,fun C ea x hC hea=> ?_⟩
       have hlt:i < σ1.length:=by rw [R1.len];exact (yR.mp hρ).1
       have R2:=(R1.same (af.upd hea (o:=iR ea C x))).put (d:= .exc nm) (v:= .ref ea) hlt ⟨ea,C,x,rfl,⟨hC.cls,fun z=>(by
        obtain ⟨dA,e1,e2⟩:=hC.dic z;refine ⟨dA,e1,?_⟩;rw [aF (fun y=>by have:=R1.mt dA y;rw [e2] at this;exact this),ah (aj e2 hea)]
        exact e2)⟩,(aF (R1.fresh hea)).trans ai⟩
       have fr2:Fr W0 H (upd H1 ea (iR ea C x)):=fr.trans (W1:=[]) (af.fr (af.upd hea)) (fun p hp=>by cases hp);have h:=OkS.go h fr2 (W1:=W1) sub;refine ⟨F,_,W1,R2,?_⟩
       revert h
       cases g (ρ1.set i (some (.exc nm,.fz))) with
       | none=>exact fun h=>h
       | some q =>
        obtain ⟨q,ρ2⟩:=q
        cases q with
        | nx=>exact fun h σ3 H3 W3 f3 s3 R3=>h _ H3 W3 f3 s3 (R3.drop i)
        | bk=>exact fun h σ3 H3 W3 f3 s3 R3=>h _ H3 W3 f3 s3 (R3.drop i)
        | ct=>exact fun h σ3 H3 W3 f3 s3 R3=>h _ H3 W3 f3 s3 (R3.drop i)
        | rt d nw=>exact fun h=>h
        | ex _=>exact fun h=>h.elim
     ·rw [if_neg he] at h
      exact h.elim
  ·rintro cls x σ' H' ⟨nm,C,rfl,hC,he,hh⟩
   exact ⟨C,rfl,hsub nm.nm he C hC.cls,fun ea hea=>hh C ea x hC hea⟩
end L2
namespace L2
namespace Kd
open PySem L2 PyProof.Rows
def sD:List Str:=["web", "place", "kind", "share", "square", "number", "text", "row", "great"]
def dP(j:Nat):List V:=(List.range 9).map fun i=>V.bl (decide (i=j))
structure pJ(K:A9)(mg:Str->Option Value)(C:Addr)(j:Nat):Prop where
 exk:XK.iS K C
 lt:j < 9
 ve:PySem.W.kitOne K (.ref C) (.type "ValueError")=some true
 k0:∃ c,mg "NoWeb" = some (.ref c)/\PySem.W.kitOne K (.ref C) (.ref c)=some (decide (0=j))
 k1:∃ c,mg "NoPlace" = some (.ref c)/\PySem.W.kitOne K (.ref C) (.ref c)=some (decide (1=j))
 k2:∃ c,mg "NoKind" = some (.ref c)/\PySem.W.kitOne K (.ref C) (.ref c)=some (decide (2=j))
 k3:∃ c,mg "NoShare" = some (.ref c)/\PySem.W.kitOne K (.ref C) (.ref c)=some (decide (3=j))
 k4:∃ c,mg "NoSquare" = some (.ref c)/\PySem.W.kitOne K (.ref C) (.ref c)=some (decide (4=j))
 k5:∃ c,mg "NoNumber" = some (.ref c)/\PySem.W.kitOne K (.ref C) (.ref c)=some (decide (5=j))
 k6:∃ c,mg "NoText" = some (.ref c)/\PySem.W.kitOne K (.ref C) (.ref c)=some (decide (6=j))
 k7:∃ c,mg "NoRow" = some (.ref c)/\PySem.W.kitOne K (.ref C) (.ref c)=some (decide (7=j))
 k8:∃ c,mg "TooGreat" = some (.ref c)/\PySem.W.kitOne K (.ref C) (.ref c)=some (decide (8=j))
theorem uw{K:A9}{C:Addr}:PySem.W.kitOne K (.ref C) (.ref C)=some true:=by unfold PySem.W.kitOne;rw [if_pos (by simp)]
theorem cf{K:A9}{C D:Addr}{cd:ClassData}{b:Bool}(ne:C≠D)(h1:PySem.W.clsIn K D=some cd)(h2:PySem.W.typeIn K (.ref D)=some (.type "type"))(h3:PySem.W.subIn K (.ref C) (.ref D)=some b):PySem.W.kitOne K (.ref C) (.ref D)=some b:=by
 unfold PySem.W.kitOne;rw [if_neg (by simpa using ne)];unfold PySem.W.kitCls;dsimp only;rw [h1,h2];simpa using h3
theorem kit_ve{K:A9}{C:Addr}(h3:PySem.W.subIn K (.ref C) (.type "ValueError")=some true):PySem.W.kitOne K (.ref C) (.type "ValueError")=some true:=by
 unfold PySem.W.kitOne;rw [if_neg (by simp)];unfold PySem.W.kitCls;dsimp only;rw [if_pos (by decide +kernel)];exact h3
theorem jD:∀ j,(dP j).all ez=true:=fun j=>rfl
theorem rn:∀ j,j < 9->((dP j).countP fun z=>eqV z (.bl true))=1:=by decide
theorem ut:∀ j,j < 9->∃ h:j < (dP j).length,eqV (dP j)[j] (.bl true)=true:=by decide
theorem ur:∀ j,j < 9->∀ m,(hm:m < (dP j).length)->m < j->eqV (dP j)[m] (.bl true)=false:=by decide
theorem sB{j:Nat}(h:j < 9):atI [V.str "web",.str "place",.str "kind",.str "share",.str "square",.str "number",.str "text",.str "row",.str "great"] (j:Nat)=some (.str (sD.getD j "")):=by
 have:j=0\/j=1\/j=2\/j=3\/j=4\/j=5\/j=6\/j=7\/j=8:=by omega
 rcases this with rfl | rfl | rfl | rfl | rfl | rfl | rfl | rfl | rfl<;>rfl
def lF(K:A9)(mg:Str->Option Value):Sp:=fun vs H Q _=>∃ ea C dx j,vs=[.ref ea]/\H ea=some (iR ea C dx)/\pJ K mg C j/\∀ H',af H H'->Q (.str (sD.getD j "")) H'
section
variable{X:Cx}{e:Expr}{te:TE}{pos p1 p2:Pos}
theorem isx(mi:X.mg "isinstance" = none){x:Str}{c:Addr}(hm:X.mg x=some (.ref c))(he:PE X e te)(g1:Gl X "isinstance")(g2:Gl X x)(hd:(x == ("__debug__" : Str))=false:=by decide)(hs:starEach [e,.Name x p1] X.env=(false,eval e X.env)::starEach [.Name x p1] X.env:=by rfl) :
 PE X (.Call (.Name "isinstance" p2) [e,.Name x p1] [] pos) (tCB (rIsx X.K) (iu te (iu (tC (.ref c)) sJ))) :=
 gA ot g1 mi boot_isinstance (av he (av (p8 (v:= .ref c) g2 hm rfl hd) bX) hs) (he:=hs)
theorem isxV(mi:X.mg "isinstance" = none)(mv:X.mg "ValueError" = none)(he:PE X e te)(g1:Gl X "isinstance")(g2:Gl X "ValueError")(hs:starEach [e,.Name "ValueError" p1] X.env=(false,eval e X.env)::starEach [.Name "ValueError" p1] X.env:=by rfl) :
 PE X (.Call (.Name "isinstance" p2) [e,.Name "ValueError" p1] [] pos) (tCB (rIsx X.K) (iu te (iu (tC (.ty "ValueError")) sJ))) :=
 gA ot g1 mi boot_isinstance (av he (av (qc g2 mv PyProof.Rows.Boot.«ValueError» rfl) bX) hs) (he:=hs)
end
def names:List Str:=["NoWeb", "NoPlace", "NoKind", "NoShare", "NoSquare", "NoNumber", "NoText", "NoRow", "TooGreat"]
def nJ(nms:List Str)(C:Str):Option Str:=if nms.elem C=true then match names.findIdx? (·== C) with
 | some j=>some (sD.getD j "")
 | none=>none else none
def kI(nms:List Str)(i:Nat):SE:=fun ρ=>match ρ[i]? with
 | some (some (.exc C,.fz))=>match nJ nms C.nm with
  | some w=>some (.ok (.str w) false,ρ)
  | none=>none
 | _=>none
structure qB(K:A9)(mg:Str->Option Value)(nms:List Str):Prop where
 is:∀ nm,nms.elem nm=true->∀ j,names.findIdx? (·== nm)=some j->∀ C,og K nm C->pJ K mg C j
theorem c_kind{X:Cx}{EX:EXT}{nms:List Str}{i k:Nat}{n:Str}{p q pos:Pos}(G:OkA X.prog X.w X.K X.mg X.base "_law_kind_of" ["e"] k (lF X.K X.mg))(kn:qB X.K X.mg nms)(hr:cS k X.A)(hg:Gl X "_law_kind_of")(hN:X.N[i]?=some n:=by rfl)(hv:Vis X.env.scope n:=by first | exact Or.inl rfl | exact Or.inr (Or.inl rfl) | exact Or.inr (Or.inr rfl))
 (hd:(n == ("__debug__" : Str))=false:=by decide) (hcd:(n == ("__classdict__" : Str))=false:=by decide) (he:starEach [.Name n q] X.env=(false,eval (.Name n q) X.env)::starEach [] X.env:=by rfl) (hpl:(backTo pos (starEach [] X.env)).any (·.1)=false:=by rfl) :
 JE X EX (.Call (.Name "_law_kind_of" p) [.Name n q] [] pos) (kI nms i):=by
 refine ⟨(nq G hr hg (av (dy hN hv hd hcd) bX he) (he:=he) (hpl:=hpl)).by fun σ H Q ⟨F,ρ,W,R,h⟩=> ?_⟩;unfold kI at h
 revert h
 cases e0:ρ[i]? with
 | none=>exact fun h=>h.elim
 | some z =>
  cases z with
  | none=>exact fun h=>h.elim
  | some z =>
   obtain ⟨d,m⟩:=z
   cases d<;>cases m<;>try exact fun h=>h.elim
   rename_i C;intro h;simp only at h
   cases ew:nJ nms C.nm with
   | none=>rw [ew] at h;exact h.elim
   | some w =>
    rw [ew] at h;obtain ⟨v,hv',p',A,dx,rfl,hC,hp⟩:=R.slot i _ _ e0;unfold nJ at ew
    split at ew
    ·rename_i hel
     split at ew
     ·rename_i j hj
      cases ew;refine ⟨_,hv',p',A,dx,j,rfl,(ao hp).2,kn.is C.nm hel j hj A hC.cls,fun H' s=> ?_⟩;exact h _ H' W s.fr (fun _ z=>z) ⟨rfl,R.same s⟩
     ·cases ew
    ·cases ew
end Kd
end L2
namespace L2
open PySem PySem.Spec PyProof.Rows
def wO:Key->D
 | .inl i=> .int i
 | .inr x=> .str x
theorem uy{K:A9}{H:Hp}:∀ (k:Key),ay K H (wO k) (kV k)
 | .inl _=>rfl
 | .inr _=>rfl
theorem kU{K:A9}{H:Hp}:∀ (k:List Key),ag K H (k.map wO) (k.map kV)
 | []=>trivial
 | k::ks=>⟨uy k,kU ks⟩
def dB(ds:List D):Option (D×Bool):=match ds with
 | [.dT ks _]=>some (.lst (ks.map fun k=> .tup (k.map wO)),true)
 | ds=>uH ds
def tw:List V->Hp->VK->Prop:=fun xs H Q=>∃ a kvs,xs=[V.ref a]/\H a=some (.dT kvs) /\
 ∀ l bs,H l=none->(kvs.map (·.1)).Nodup->bs.length=kvs.length->(∀ (i:Nat) k v,kvs[i]?=some (k,v)->∃ b,bs[i]?=some (V.ref b)/\H b=some (.tup (k.map kV)))->Q (.ref l) (upd H l (.lst bs))
theorem lK{K:A9}{H:Hp}:∀ {ds:List D} {xs:List V},ds.length=xs.length->(∀ (i:Nat) (d:D),ds[i]?=some d->∃ x,xs[i]?=some x/\ay K H d x)->ag K H ds xs
 | [],[],_,_=>trivial
 | d::ds,x::xs,hl,h=>by
  obtain ⟨y,e,r⟩:=h 0 d rfl;cases e
  exact ⟨r,lK (by simpa using hl) fun i d' hd=>by
   obtain ⟨y,e,r⟩:=h (i+1) d' (by simpa using hd)
   exact ⟨y,by simpa using e,r⟩⟩
 | [],_::_,hl,_=>by simp at hl
 | _::_,[],hl,_=>by simp at hl
theorem uc{K:A9}:OpS K (fun xs H Q=>(iW K xs H Q\/jk xs H Q)\/tw xs H Q) dB:=by
 intro vs ds H L Q d nw hm r e q;unfold dB at e
 split at e
 ·rename_i ks es
  cases e;obtain ⟨x,rfl,⟨p,xs,rfl,h1,hl,h2⟩⟩:=aI r;refine .inr ⟨p,_,rfl,h1,fun l bs hf _ hb hk=>q _ _ (af.upd hf) (bS (lK ?_ fun i d hd=> ?_) hf)⟩
  ·rw [yF,hb,Ao,hl,Am]
  ·rw [zc] at hd
   obtain ⟨k,hk1,rfl⟩:=zv.mp hd
   have hi:i < xs.length:=by rw [<- hl];exact (yR.mp hk1).1
   obtain ⟨b,e1,e2⟩:=hk i k xs[i] (by rw [A7];exact ⟨hk1,yD hi⟩);refine ⟨_,e1,b,_,rfl,?_,kU k⟩;rw [aF fun z=>by have:=hm b z;rw [e2] at this;exact this];exact e2
 ·exact .inl (wu vs ds H L Q d nw hm r e q)
theorem oo{X:Cx}(hc:X.calm=true):aE X (.type "list") (fun xs H Q=>(iW X.K xs H Q\/jk xs H Q)\/tw xs H Q):=(pz hc).or (pw hc)
section
variable{X:Cx}{EX:EXT}{e:Expr}{es:List Expr}{pos p:Pos}{as:List Arg}
theorem xA(he:starEach (e::es) X.env=(false,eval e X.env)::starEach es X.env:=by rfl)(hpl:(backTo pos (starEach es X.env)).any (·.1)=false:=by rfl)(m:X.mg "list" = none)(ha:JA X EX (e::es) as)(hg:Gl X "list" := by rfl)(hc:X.calm=true:=by rfl):JE X EX (.Call (.Name "list" p) (e::es) [] pos) (sOp dB as):=gP (oo hc) uc hg m PyProof.Rows.boot_list ha (by decide) (by decide) he hpl
end
end L2
namespace St2
open PySem PySem.Spec PyProof.Rows
section
variable{prog:Program}{w:World}{A:Around}{E:Value->Shared->Prop}{s:Shared}
theorem of{T:String}{d:Addr}{n:Nat}{P:Nat->Value->Prop}{OK:Heap->Prop}{Q:List Value->Shared->Prop}(K:PySem.W.KdlSrc prog w T d d n P OK)(hh:A.handled=none)(hd:OK s.heap)(hz:n<=sizeLine)
 (h:∀ h' tk (acc:Array Value) c,(∀ b o,s.heap.get? b=some o->h'.get? b=some o)->h'.get? s.heap.objs.size=some { cls:= .type "list",dict:=none,data:= .seq acc c,slots := #[] }->ItemsOf P acc n->Q acc.toList { s with heap:=h',toks:=tk }) :
 wpAny (model prog w) A (collect (.ref d)) Q E s:=by
 unfold collect;refine yB (wpAny_runValue (codeAny_builtin F.entry_proto_collect ?_));unfold Builtin.«proto.collect»
 show wpAny _ _ (newList [] >>= _) _ _ _
 refine yB (AT ?_ (by simp));refine yE ⟨Code.quiet_builtin _ (by decide +kernel),codeAny_builtin F.entry_list_iadd ?_⟩;have hn:(s.heap.push { cls:=Value.type "list",data:=Data.seq #[] }).get? s.heap.objs.size=some { cls:=Value.type "list",data:=Data.seq #[] }:=yQ _ rfl
 show wpAny _ _ (Builtin.List.listExtendWith (.ref s.heap.objs.size) (.ref d) (.ref s.heap.objs.size)) _ _ _
 have nd:s.heap.objs.size≠d:=Ay (K.there _ hd).1
 have key:=PySem.W.kdl_extend (A:=A) (s:={ s with heap:=s.heap.push { cls:=Value.type "list",data:=Data.seq #[] } }) (R:=fun r s'=>∃ h' tk acc c,r = .ok (.ret (.ref s.heap.objs.size))/\s'={ s with heap:=h',toks:=tk }/\(∀ b o,s.heap.get? b=some o->h'.get? b=some o)/\h'.get? s.heap.objs.size=some { cls:= .type "list",dict:=none,data:= .seq acc c,slots := #[] }/\ItemsOf P acc n)
  K hh (K.keep _ _ hd fun b _ o e=>yC _ e) _ nd nd (.ref s.heap.objs.size) 0 hn (fun h' tk acc c keep hS items=>⟨h',tk,acc,c,rfl,rfl,fun b o e=>keep b o (za (yN e)) (yC _ e),hS,items⟩) hz
 refine zp key (fun f s' hf=> ?_) (fun e s' he=> ?_)
 ·cases f with
  | done f =>
   obtain ⟨h',tk,acc,c,e1,rfl,keep,hS,items⟩:=hf;cases e1
   show wpAny _ _ (load s.heap.objs.size >>= _) _ _ _
   refine yB (wpAny_load hS ?_)
   show wpAny _ _ (pure acc.toList) _ _ _
   exact yE (h h' tk acc c keep hS items)
  | again c' =>
   refine ⟨hf.1,codeAny_mono hf.2 fun r s' z=> ?_⟩;obtain ⟨h',tk,acc,c,e1,rfl,keep,hS,items⟩:=z;cases e1
   show wpAny _ _ (load s.heap.objs.size >>= _) _ _ _
   refine yB (wpAny_load hS ?_)
   show wpAny _ _ (pure acc.toList) _ _ _
   exact yE (h h' tk acc c keep hS items)
 ·obtain ⟨_,_,_,_,e1,_⟩:=he
  cases e1
end
end St2
namespace L2
open PySem PySem.Spec PyProof.Rows
section
variable{X:Cx}
def lM:List V->Hp->VK->Prop:=fun xs H Q=>∃ (a:Addr) (ks:List (List Int)) (vs:List V),xs=[V.ref a]/\H a=some (.dT ((ks.map fun k=>k.map Sum.inl).zip vs))/\ks.length=vs.length/\ks.length < 64/\(∀ k∈ks,k≠[]) /\
 ∀ l (bs:List V),H l=none->bs.length=ks.length->(∀ (i:Nat) k,(Srt.eR ks)[i]?=some k->∃ b,bs[i]?=some (V.ref b)/\H b=some (.tup (k.map V.int)))->Q (.ref l) (upd H l (.lst bs))
theorem inl_kV(k:List Int):(k.map (Sum.inl:Int->Key)).map kV=k.map V.int:=by rw [zR];rfl
theorem kz(hc:X.calm=true):aE X (.builtin "sorted") lM:=by
 intro pins s σ H xs us Q I r h;obtain ⟨a,ks,vs,rfl,ha,hlv,h64,hne,q⟩:=h;obtain ⟨u,rfl,ru⟩:=bN r;cases ru;obtain ⟨z,lo,nd,es,ep,x,hl,hk⟩:=oP I.hok ha;have lsz:sizeLine=16777216:=sizeLine_eq
 have hlz:((ks.map fun k=>k.map (Sum.inl:Int->Key)).zip vs).length=ks.length:=by rw [Ao,yF,hlv,Am]
 have hes:es.size=ks.length:=hl.trans hlz;refine Calls.call_function_entry kind_sorted plain_sorted entry_sorted (args_sorted1 _) ?_;unfold Builtin.«sorted»;refine yB (m:=checkCount "sorted" 1 1 _) (yE ?_);refine yB (St2.of (RawD.src (ep:=ep) (es:=es) lo) (I.ok.hd hc) x (by omega) fun h1 tk acc c keep hS items=>yB (AT ?_ (by rw [zt,items.1];omega)));have hsz:s.heap.objs.size+1<=h1.objs.size:=yN hS
 have lacc:acc.toList.length=ks.length:=by rw [zt,items.1,hes]
 have at_:∀ (i:Nat) (hi:i < acc.toList.length),∃ b,acc.toList[i] = .ref b/\H b=some (.tup ((ks.getD i []).map V.int))/\ks.getD i []≠[]:=fun i hi=>by
  obtain ⟨hi',e⟩:=items.2 i acc.toList[i] (by rw [<- Ap];exact yD hi);obtain ⟨b,k,v,e1,e2,e3⟩:=hk i hi'
  have hi2:i < ks.length:=by omega
  have ek:k=(ks.getD i []).map Sum.inl:=by
   rw [A7] at e2;have:=e2.1;rw [zc,yD hi2] at this;have this:ks[i].map Sum.inl=k:=Option.some.inj this;rw [<- this];simp [zf,hi2]
  refine ⟨b,e.trans e1,by rw [e3,ek,inl_kV],hne _ ?_⟩;rw [zf,yD hi2];exact zN _
 show wpAny _ _ _ _ _ { s with heap:=h1.push (seqObj "list" acc.toList.toArray 0),toks:=tk }
 have oL:(h1.push (seqObj "list" acc.toList.toArray 0)).get? h1.objs.size=some (seqObj "list" acc.toList.toArray 0):=yQ _ rfl
 have tk1:Srt.fJ (h1.push (seqObj "list" acc.toList.toArray 0)) acc.toList ks:=⟨lacc,fun i hi=>by
  obtain ⟨b,e1,e2,e3⟩:=at_ i hi;obtain ⟨items',ri,⟨o,g1,g2,n,g3⟩,_⟩:=I.tuple (X:=X) (.inl (.inl e2))
  exact ⟨b,items'.toArray,e1,⟨o,yC _ (keep b o g1),g2,n,g3⟩,dU ri,e3⟩⟩
 refine yB (zG (zx slot_list_sort ⟨_,oL,rfl⟩ entry_list_sort (Srt.xI oL tk1 (by omega) fun p hp hs=>⟨_,rfl,?_⟩) (args_list_sort _)))
 have hle:s.heap.objs.size<=h1.objs.size:=by omega
 have hf:H h1.objs.size=none:=I.hok.fresh hle
 have hin:∀ i∈p,i < acc.toList.length:=fun i hi=>by
  have:=hp.mem_iff.mp hi
  rwa [Ac] at this
 have refs:∀ u∈(p.map fun i=>acc.toList.getD i Value.none),∃ b,u = .ref b:=fun u hu=>by
  obtain ⟨i,hi,rfl⟩:=Az.mp hu;obtain ⟨b,e1,_⟩:=at_ i (hin i hi);exact ⟨b,by rw [zf,yD (hin i hi)];exact e1⟩
 have es':p.map (fun i=>ks.getD i [])=Srt.eR ks:=by
  refine Srt.bt ?_ (Srt.dQ ks) (((hp.map _).trans (A0 ?_)).trans (Srt.cA ks).symm)
  ·rw [List.pairwise_map]
   exact hs.imp fun h=>h
  ·rw [lacc]
   apply AQ
   ·simp
   ·intro i h1 h2
    simp [h2]
 obtain ⟨e,he⟩:=sortedHeap_at (out:=(p.map fun i=>acc.toList.getD i Value.none).toArray) oL
 have lp:p.length=ks.length:=by rw [hp.length_eq,zW,lacc]
 refine yE ⟨_,rfl,.ref h1.objs.size,upd H h1.objs.size (.lst ((p.map fun i=>acc.toList.getD i Value.none).map na)),I.laid (t':=tk) (fun b o q=> ?_) hle ⟨?_,_,e,gY refs,by simpa using he⟩,rfl,q _ _ hf (by rw [yF,yF,lp]) fun i k hik=> ?_⟩
 ·have lb:=yN (keep b o q)
  rw [sortedHeap_old (za lb) (by rw [Ai];exact Nat.lt_succ_of_lt lb)];exact yC _ (keep b o q)
 ·rw [yF,yF,lp]
  omega
 ·rw [<- es',zc] at hik
  obtain ⟨j,hj,rfl⟩:=zv.mp hik;have hj':=hin j (yU hj);obtain ⟨b,e1,e2,_⟩:=at_ j hj';refine ⟨b,?_,e2⟩;rw [zc,zc,hj]
  show some (na (acc.toList.getD j Value.none))=_
  rw [zf,yD hj']
  show some (na acc.toList[j])=_
  rw [e1];rfl
end
def wN:List Key->Option (List Int)
 | []=>some []
 | .inl i::ks=>match wN ks with
  | some l=>some (i::l)
  | none=>none
 | .inr _::_=>none
def kS:List (List Key)->Option (List (List Int))
 | []=>some []
 | k::ks=>match wN k,kS ks with
  | some (i::l),some r=>some ((i::l)::r)
  | _,_=>none
theorem qg:∀ {k:List Key} {l:List Int},wN k=some l->k=l.map Sum.inl
 | [],_,h=>by cases h;rfl
 | .inl i::ks,l,h=>by
  unfold wN at h
  split at h
  ·rename_i l' e
   cases h;rw [qg e];rfl
  ·cases h
 | .inr _::_,_,h=>by cases h
theorem nK:∀ {ks:List (List Key)} {r:List (List Int)},kS ks=some r->ks=(r.map fun k=>k.map Sum.inl)/\∀ k∈r,k≠[]
 | [],_,h=>by cases h;exact ⟨rfl,fun k hk=>by cases hk⟩
 | k::ks,r,h=>by
  unfold kS at h
  split at h
  ·rename_i i l r' e1 e2
   cases h;obtain ⟨g1,g2⟩:=nK e2;exact ⟨by rw [g1,qg e1];rfl,fun k hk=>(yP.mp hk).elim (fun e=>by rw [e];simp) (g2 k)⟩
  ·cases h
def bF(ds:List D):Option (D×Bool):=match ds with
 | [.dT ks _]=>match kS ks with
  | some r=>if decide (r.length < 64)=true then some (.lst ((Srt.eR r).map lB),true) else none
  | none=>none
 | ds=>gc ds
theorem t7{K:A9}:OpS K (fun xs H Q=>((fT K xs H Q\/fS K xs H Q)\/hJ K xs H Q)\/lM xs H Q) bF:=by
 intro vs ds H L Q d nw hm r e q;unfold bF at e
 split at e
 ·rename_i ks es
  split at e
  ·rename_i ns hk
   split at e
   ·rename_i h64
    cases e;have h64:=yS h64;obtain ⟨g1,g2⟩:=nK hk;obtain ⟨x,rfl,⟨p,xs,rfl,h1,hl,h2⟩⟩:=aI r
    have ll:ns.length=xs.length:=by rw [<- hl,g1,yF]
    refine .inr ⟨p,ns,xs,rfl,by rw [<- g1];exact h1,ll,h64,g2,fun l bs hf hb hk'=>q _ _ (af.upd hf) (bS (lK ?_ fun i d hd=> ?_) hf)⟩
    ·rw [yF,hb,(Srt.cA ns).length_eq]
    ·rw [zc] at hd
     obtain ⟨k,hk1,rfl⟩:=zv.mp hd;obtain ⟨b,e1,e2⟩:=hk' i k hk1;refine ⟨_,e1,b,_,rfl,?_,cV k⟩;rw [aF fun z=>by have:=hm b z;rw [e2] at this;exact this];exact e2
   ·cases e
  ·cases e
 ·exact .inl (t8 vs ds H L Q d nw hm r e q)
theorem pj{X:Cx}(hc:X.calm=true):aE X (.builtin "sorted") (fun xs H Q=>((fT X.K xs H Q\/fS X.K xs H Q)\/hJ X.K xs H Q)\/lM xs H Q):=pp.or (kz hc)
section
variable{X:Cx}{EX:EXT}{e:Expr}{es:List Expr}{pos p:Pos}{as:List Arg}
theorem xy(he:starEach (e::es) X.env=(false,eval e X.env)::starEach es X.env:=by rfl)(hpl:(backTo pos (starEach es X.env)).any (·.1)=false:=by rfl)(m:X.mg "sorted" = none)(ha:JA X EX (e::es) as)(hg:Gl X "sorted" := by rfl)(hc:X.calm=true:=by rfl):JE X EX (.Call (.Name "sorted" p) (e::es) [] pos) (sOp bF as):=gQ (pj hc) t7 hg m PyProof.Rows.boot_sorted ha (by decide) (by decide) he hpl
end
end L2
namespace L2
open PySem
section
variable{ρ ρ1 ρ2 ρ3:Rho}{d:D}{nw b:Bool}{f g:SE}{s t:SS}{C:Lb}{nms:List Str}{i:Nat}
theorem r_tryN(h:s ρ=some (.nx,ρ1)):kl nms i s t ρ=some (.nx,ρ1):=by unfold kl;rw [h]
theorem r_tryX{x:Option (D×Md)}(h:s ρ=some (.ex C,ρ1))(he:nms.elem C.nm=true)(hi:ρ1[i]?=some x)(hn:ρ1.set i (some (.exc C,.fz))=ρ2)(h2:t ρ2=some (.rt d nw,ρ3)):kl nms i s t ρ=some (.rt d nw,ρ3):=by
 subst hn;unfold kl;simp only [h,hi,h2];rw [if_pos he]
theorem vU{x:Option (D×Md)}{ρ4:Rho}(h:s ρ=some (.ex C,ρ1))(he:nms.elem C.nm=true)(hi:ρ1[i]?=some x)(hn:ρ1.set i (some (.exc C,.fz))=ρ2)(h2:t ρ2=some (.nx,ρ3))(hn2:ρ3.set i none=ρ4):kl nms i s t ρ=some (.nx,ρ4):=by
 subst hn hn2;unfold kl;simp only [h,hi,h2];rw [if_pos he]
theorem r_kind{w:Str}(h:ρ[i]?=some (some (.exc C,.fz)))(hw:Kd.nJ nms C.nm=some w):Kd.kI nms i ρ=some (.ok (.str w) false,ρ):=by
 unfold Kd.kI;simp only [h,hw]
theorem r_dnew:pQ d ρ=some (.ok d true,ρ):=rfl
end
abbrev nD(l:List Int):List D:=l.map D.int
abbrev bD(l:List Bool):List D:=l.map D.bl
abbrev mP(t:Int×Int):D:= .tup [.int t.1,.int t.2]
abbrev tD(ts:List (Int×Int)):List D:=ts.map mP
abbrev fN(n:Int)(ts:List (Int×Int)):D:= .tup [.int n,.tup (tD ts)]
def rgI(lo:Int)(n:Nat):List Int:=(List.range n).map fun k=>lo+(k:Nat)
theorem lJ(lo:Int)(n:Nat):(rgI lo n).length=n:=by unfold rgI;simp
theorem wI{lo:Int}{n:Nat}{x:Int}:x∈rgI lo n↔lo<=x/\x < lo+n:=by
 unfold rgI;rw [Az]
 constructor
 ·rintro ⟨k,hk,rfl⟩
  have:=Ac.mp hk;omega
 ·rintro ⟨a,b⟩
  exact ⟨(x - lo).toNat,Ac.mpr (by omega),by omega⟩
theorem vS{lo:Int}{n i:Nat}{x:Int}(h:(rgI lo n)[i]?=some x):i < n/\x=lo+i:=by
 unfold rgI at h;rw [zc] at h;obtain ⟨k,hk,rfl⟩:=zv.mp h;obtain ⟨a,b⟩:=yR.mp hk;simp at a b;subst b;exact ⟨a,rfl⟩
theorem sU(lo:Int)(n:Nat):rgI lo (n+1)=lo::rgI (lo+1) n:=by
 unfold rgI;rw [List.range_succ_eq_map,yW,zR]
 congr 1
 ·simp
 ·refine Af fun k _=> ?_
  show lo+((k+1:Nat):Int)=lo+1+(k:Nat)
  omega
theorem pR(lo:Int)(n:Nat):fk lo n=nD (rgI lo n):=by unfold fk rgI;rw [nD,zR];rfl
section
variable{ρ ρ1 ρ2 ρ3 ρ4:Rho}{d y:D}{ds ys:List D}{nw b:Bool}{f g:SE}{p:ST}{s:SS}{T:Tg}{k:Nat}
theorem pS{x:Arg}{j:Int}(h:evA [x] ρ=some (.ok [.int j],ρ1))(h1 : -1000000<=j)(h2:j<=1000000):cP x ρ=some (.ok (nD (rgI 0 j.toNat)),ρ1):=by rw [r_rng1 h (uh (by omega) (by omega) h1 h2 (by omega)),pR]
theorem vW{x:Arg}{n:Nat}(h:evA [x] ρ=some (.ok [.int (n:Nat)],ρ1))(h2:n<=1000000):cP x ρ=some (.ok (nD (rgI 0 n)),ρ1):=by rw [pS h (by omega) (by omega),AI]
theorem vV{x z:Arg}{i j:Int}(h:evA [x,z] ρ=some (.ok [.int i,.int j],ρ1))(h0 : -1000000<=i)(h0':i<=1000000)(h1 : -1000000<=j)(h2:j<=1000000)(h3:j - i<=1000000):dZ x z ρ=some (.ok (nD (rgI i (j - i).toNat)),ρ1):=by rw [r_rng2 h (uh h0 h0' h1 h2 h3),pR]
theorem v3{e:Option ST}:bv k T e f [] ρ=some ([],ρ):=rfl
theorem v4(h1:bi T d (ρ++List.replicate k none)=some ρ1)(h2:f ρ1=some (.ok y nw,ρ2))(h3:ρ2.take ρ.length=ρ3)(h4:bv k T none f ds ρ3=some (ys,ρ4)):bv k T none f (d::ds) ρ=some (y::ys,ρ4):=by
 subst h3;unfold bv;simp only [h1,evC,h2,h4]
theorem iV{r:Option (Out×Rho)}(h1:bi T d ρ=some ρ1)(h2:s ρ1=some (.nx,ρ2))(h3:br T s ds ρ2=r):br T s (d::ds) ρ=r:=by
 unfold br;simp only [h1,h2];exact h3
theorem pT{x:D}(h1:bi T d ρ=some ρ1)(h2:s ρ1=some (.rt x nw,ρ2)):br T s (d::ds) ρ=some (.rt x nw,ρ2):=by
 unfold br;simp only [h1,h2]
end
section
variable{α:Type}{k:Nat}{T:Tg}{f:SE}{c:ST}{ρ:Rho}{inj:α->D}{q:α->Bool}
theorem oO{g:α->Bool}(xs:List α)(h:∀ x∈xs,∃ ρ1 ρ3 nw,bi T (inj x) (ρ++List.replicate k none)=some ρ1/\f ρ1=some (.ok (.bl (g x)) nw,ρ3)/\ρ3.take ρ.length=ρ):bv k T none f (xs.map inj) ρ=some (bD (xs.map g),ρ):=by
 rw [g0 (g:=fun x=>D.bl (g x)) xs h,bD,zR];rfl
theorem oN{g1 g2:α->Int}(xs:List α)(h:∀ x∈xs,∃ ρ1 ρ3 nw,bi T (inj x) (ρ++List.replicate k none)=some ρ1/\f ρ1=some (.ok (.tup [.int (g1 x),.int (g2 x)]) nw,ρ3)/\ρ3.take ρ.length=ρ):bv k T none f (xs.map inj) ρ=some (tD (xs.map fun x=>(g1 x,g2 x)),ρ):=by
 rw [g0 (g:=fun x=> .tup [.int (g1 x),.int (g2 x)]) xs h,tD,zR];rfl
end
def qC(o:Option (Out×Rho))(Q:Rho->Prop):Prop:=∃ ρ',o=some (.nx,ρ')/\Q ρ'
theorem ex_seq{s t:SS}{ρ ρ1:Rho}{Q:Rho->Prop}(h1:s ρ=some (.nx,ρ1))(h2:qC (t ρ1) Q):qC (aB s t ρ) Q:=by obtain ⟨ρ',e,q⟩:=h2;exact ⟨ρ',cw h1 e,q⟩
theorem ex_one{s:SS}{ρ ρ1:Rho}{Q:Rho->Prop}(h1:s ρ=some (.nx,ρ1))(h2:Q ρ1):qC (s ρ) Q:=⟨ρ1,h1,h2⟩
section
variable{α σ:Type}{T:Tg}{f:SS}{inj:α->D}
theorem iC(R:σ->Rho->Prop)(step:σ->α->σ):∀ (xs:List α) (s:σ) (ρ:Rho),R s ρ->(∀ x∈xs,∀ s ρ,R s ρ->∃ ρ1 ρ2,bi T (inj x) ρ=some ρ1/\f ρ1=some (.nx,ρ2)/\R (step s x) ρ2)->∃ ρ',br T f (xs.map inj) ρ=some (.nx,ρ')/\R (xs.foldl step s) ρ'
 | [],s,ρ,h,_=>⟨ρ,rfl,h⟩
 | x::xs,s,ρ,h,hs=>by
  obtain ⟨ρ1,ρ2,e1,e2,h2⟩:=hs x yL s ρ h
  obtain ⟨ρ',e3,h3⟩:=iC R step xs _ ρ2 h2 fun x hx=>hs x (yH _ hx)
  exact ⟨ρ',iV e1 e2 e3,h3⟩
theorem kG{lo:Int}(I:Nat->Rho->Prop)(n:Nat)(ρ:Rho)(h0:I 0 ρ)(hs:∀ i,i < n->∀ ρ,I i ρ->∃ ρ1 ρ2,bi T (.int (lo+(i:Nat))) ρ=some ρ1/\f ρ1=some (.nx,ρ2)/\I (i+1) ρ2):∃ ρ',br T f (nD (rgI lo n)) ρ=some (.nx,ρ')/\I n ρ':=by
 obtain ⟨ρ',e,h⟩:=kH (T:=T) (f:=f) I (nD (rgI lo n)) 0 ρ h0 fun i d ρ hd hI=>by
  rw [nD,zc] at hd;obtain ⟨x,hx,rfl⟩:=zv.mp hd;obtain ⟨h1,rfl⟩:=vS hx;rw [zE] at hI ⊢;exact hs i h1 ρ hI
 rw [yF,lJ,zE] at h;exact ⟨ρ',e,h⟩
theorem oK(I:Nat->Rho->Prop)(n:Nat)(ρ:Rho)(h0:I 0 ρ)(hs:∀ i,i < n->∀ ρ,I i ρ->∃ ρ1 ρ2,bi T (.int (i:Nat)) ρ=some ρ1/\f ρ1=some (.nx,ρ2)/\I (i+1) ρ2):∃ ρ',br T f (nD (rgI 0 n)) ρ=some (.nx,ρ')/\I n ρ' :=
 kG I n ρ h0 fun i hi ρ hI=>by rw [Int.zero_add];exact hs i hi ρ hI
end
section
variable{α:Type}{inj:α->D}{xs ys:List α}{ns ms:List Int}{i a b:Int}
theorem le:di [.lst (xs.map inj)]=some (.int (xs.length:Nat),false):=by show some (D.int ((xs.map inj).length:Nat),false)=_;rw [yF]
theorem xC[Inhabited α](h0:0<=i)(h1:i < xs.length):atI (xs.map inj) i=some (inj (xs.getD i.toNat default)):=by
 obtain ⟨k,rfl⟩:∃ k:Nat,i=k:=⟨i.toNat,by omega⟩
 have hk:k < xs.length:=by omega
 refine gk ?_;rw [zc,yD hk];simp [hk]
theorem uI[Inhabited α](h0:0<=i)(h1:i < xs.length):gIx [.lst (xs.map inj),.int i]=some (inj (xs.getD i.toNat default),false):=dv (xC h0 h1)
theorem xa:gK [.int a,.int b]=some (.int (max a b),false):=by
 show some (D.int (if b > a then b else a),false)=_
 congr 3
 rw [Int.max_def]
 split<;>split<;>omega
theorem w8:jO [.int a,.int b]=some (.int (min a b),false):=by
 show some (D.int (if b < a then b else a),false)=_
 congr 3
 rw [Int.min_def]
 split<;>split<;>omega
theorem nR(h:ns.length < 64):bF [.tup (nD ns)]=some (.lst (nD (eU ns)),true):=by
 have:dW [.tup (nD ns)]=some (.lst (nD (eU ns)),true):=by unfold dW;simp only [jK,h,decide_true,if_true]
 show gc _=_
 unfold gc;rw [this]
def cZ(ts:List (Int×Int)):List (Int×Int):=(Srt.eR (ts.map fun t=>[t.1,t.2])).map fun k=>(k.getD 0 0,k.getD 1 0)
theorem jn(ts:List (Int×Int)):(cZ ts).Perm ts:=by
 unfold cZ;refine ((Srt.cA _).map _).trans ?_;rw [zR];refine A0 ?_;exact (Af (fun t _=>rfl)).trans (List.map_id' _)
theorem jo(ts:List (Int×Int)):(cZ ts).map (fun t=>[t.1,t.2])=Srt.eR (ts.map fun t=>[t.1,t.2]):=by
 unfold cZ;rw [zR];refine (Af fun k hk=> ?_).trans (List.map_id' _);obtain ⟨t,_,rfl⟩:=Az.mp ((Srt.cA _).mem_iff.mp hk);rfl
theorem oH(ts:List (Int×Int)):tD ts=(ts.map fun t=>[t.1,t.2]).map lB:=by rw [tD,zR];rfl
theorem kD:∀ (ks:List (List Int)),(∀ k∈ks,k≠[])->ir (ks.map lB)=some ks
 | [],_=>rfl
 | k::ks,h=>by
  have e:vC (lB k)=some k:=by
   cases k with
   | nil=>exact absurd rfl (h _ yL)
   | cons n ns=>show (match aT ((n::ns).map D.int) with | some (n::ns)=>some (n::ns) | _=>none)=_;rw [jK]
  rw [yW];unfold ir;rw [e,kD ks fun k hk=>h k (yH _ hk)]
theorem ii{ts:List (Int×Int)}(h:ts.length < 64):bF [.lst (tD ts)]=some (.lst (tD (cZ ts)),true):=by
 cases hts:ts with
 | nil=>rfl
 | cons t r =>
  rw [<- hts]
  have e0:dW [.lst (tD ts)]=none:=by rw [hts];rfl
  have e1:ir (tD ts)=some (ts.map fun t=>[t.1,t.2]):=by
   rw [oH]
   refine kD _ fun k hk=> ?_
   obtain ⟨t,_,rfl⟩:=Az.mp hk
   exact fun z=>nomatch z
  show gc _=_
  unfold gc;rw [e0]
  show jN _=_
  unfold jN;simp only [e1,yF,h,decide_true,if_true];rw [<- jo,oH]
theorem n5:∀ (a b:List Int),dj (a.map D.int) (b.map D.int)=decide (a=b)
 | [],[]=>rfl
 | [],_::_=>rfl
 | _::_,[]=>rfl
 | x::a,y::b=>by
  show ((x == y)&&dj (a.map D.int) (b.map D.int))=_
  rw [n5 a b,zM];simp
theorem jz:∀ (a:List Int),bA (a.map D.int)=a.map D.int
 | []=>rfl
 | x::a=>by show nrm (.int x)::bA (a.map D.int)=_;rw [jz a];rfl
theorem uT(a b:List Int):eqD (.lst (nD a)) (.lst (nD b))=decide (a=b):=by unfold eqD nrm;rw [jz,jz];show dj _ _=_;exact n5 a b
theorem jx:∀ (a:List (Int×Int)),bA (tD a)=tD a
 | []=>rfl
 | t::a=>by show nrm (mP t)::bA (tD a)=_;rw [jx a];rfl
theorem n4:∀ (a b:List (Int×Int)),dj (tD a) (tD b)=decide (a=b)
 | [],[]=>rfl
 | [],_::_=>rfl
 | _::_,[]=>rfl
 | (x,x')::a,(y,y')::b=>by
  show (((x == y)&&((x' == y')&&true))&&dj (tD a) (tD b))=_
  rw [n4 a b,zM];simp [and_assoc]
theorem df(n:Nat):∀ (a:List (Int×Int)),(tD a).all (ad (n+1))=true
 | []=>rfl
 | t::a=>by
  show ((mP t)::tD a).all (ad (n+1))=true
  rw [List.all_cons,df n a];simp [ad]
theorem uL{n m:Int}{ts us:List (Int×Int)}:gEq [fN n ts,fN m us]=some (.bl (decide (n=m/\ts=us)),false):=by
 have e:∀ (n:Int) (a:List (Int×Int)),ad 9 (fN n a)=true:=fun n a=>by
  have:=df 6 a;simp [ad,this]
 unfold gEq;simp only [e,Bool.and_self,if_true]
 have:eqD (fN n ts) (fN m us)=decide (n=m/\ts=us):=by
  show ((n == m)&&(dj (bA (tD ts)) (bA (tD us))&&true))=_
  rw [jx,jx,n4,zM];simp
 rw [this]
theorem rJ(h:xs.length+ys.length<=1000):cz [.lst (xs.map inj),.lst (ys.map inj)]=some (.lst ((xs++ys).map inj),true):=by
 unfold cz;simp only [mV (show (xs.map inj).length+(ys.map inj).length<=1000 by rw [yF,yF];exact h),if_true,List.map_append]
theorem o9(h:ns.length<=999):cz [.lst [.int a],.lst (nD ns)]=some (.lst (nD (a::ns)),true):=rJ (inj:=D.int) (xs:=[a]) (ys:=ns) (by simp;omega)
theorem sG{ts:List (Int×Int)}(h:ts.length<=1000):ci (.lst (tD ts)) [.tup [.int a,.int b]]=some (.lst (tD (ts++[(a,b)])),.non):=by
 show (if small (tD ts).length=true then some (D.lst (tD ts++[.tup [.int a,.int b]]),D.non) else none)=_
 rw [if_pos (mV (by rw [yF];exact h)),tD,tD,List.map_append];rfl
theorem gMul_l(h1 : -(2 ^ 64) < a)(h2:a < 2 ^ 64):nV [.int a,.int b]=some (.int (a * b),false):=by
 show (if kN a b=true then some (D.int (a * b),false) else none)=_
 rw [if_pos (lV h1 h2)]
end
def oa(xs:List Int)(lo hi:Option Int):List Int:=(xs.drop (HT.sIx xs.length 0 lo)).take (HT.sIx xs.length xs.length hi - HT.sIx xs.length 0 lo)
theorem cut_nD(ns:List Int)(lo hi:Option Int):gO (nD ns) lo hi=nD (oa ns lo hi):=by
 unfold gO oa;rw [yF,nD,nD,List.map_take,List.map_drop]
theorem oM{n d:Nat}{i:Int}(h:0<=i):HT.sIx n d (some i)<=i.toNat:=by
 unfold HT.sIx;simp
 split<;>omega
theorem xn{ns:List Int}{lo:Option Int}{j:Int}(h:0<=j):(oa ns lo (some j)).length<=j.toNat:=by
 unfold oa;rw [Aa];have:=oM (n:=ns.length) (d:=ns.length) h;omega
theorem nS{ns:List Int}{i j:Int}:wW i j [.klst (nD ns)]=some (.lst (nD (oa ns (some i) (some j))),true):=by
 show some (D.lst (gO (nD ns) _ _),true)=_
 rw [cut_nD]
theorem pb{ns:List Int}{a i j:Int}(h:0<=j)(h2:j < 100):cz [.lst [.int a],.lst (nD (oa ns (some i) (some j)))]=some (.lst (nD (a::oa ns (some i) (some j))),true):=o9 (by have:=xn (ns:=ns) (lo:=some i) h;omega)
structure Pn where
 a:Int
 f:Int
 s:Int
abbrev pD(P:Pn):D:=qU P.a P.f P.s
theorem iZ(P:Pn)(m:Int):∃ q:Int×Pn,(0 < m->m < 10000000000000000000000000000000000000000000000000000000000000000000000->ak [pD P,.int m]=some (.ok (.int q.1) false,pD q.2))/\(0 < m->m < 10000000000000000000000000000000000000000000000000000000000000000000000->0<=q.1/\q.1 < m):=by
 by_cases h:0 < m/\m < 10000000000000000000000000000000000000000000000000000000000000000000000
 ·obtain ⟨r,a,f,s,e,h1,h2⟩:=uS P.a P.f P.s m h.1 h.2
  exact ⟨(r,⟨a,f,s⟩),fun _ _=>e,fun _ _=>⟨h1,h2⟩⟩
 ·exact ⟨(0,P),fun a b=>absurd ⟨a,b⟩ h,fun a b=>absurd ⟨a,b⟩ h⟩
noncomputable def dr(P:Pn)(m:Int):Int:=(Classical.choose (iZ P m)).1
noncomputable def nx(P:Pn)(m:Int):Pn:=(Classical.choose (iZ P m)).2
theorem xN{P:Pn}{m:Int}(h:0 < m)(h2:m < 10000000000000000000000000000000000000000000000000000000000000000000000):ak [pD P,.int m]=some (.ok (.int (dr P m)) false,pD (nx P m)):=(Classical.choose_spec (iZ P m)).1 h h2
theorem dI(P:Pn){m:Int}(h:0 < m)(h2:m < 10000000000000000000000000000000000000000000000000000000000000000000000):0<=dr P m/\dr P m < m:=(Classical.choose_spec (iZ P m)).2 h h2
theorem tU(c:Int):∃ P:Pn,bu [.int c]=some (.ok (pD P) true,.non):=by
 obtain ⟨a,f,s,e⟩:=xh c;exact ⟨⟨a,f,s⟩,e⟩
noncomputable def pen0(c:Int):Pn:=Classical.choose (tU c)
theorem tPen{c:Int}:bu [.int c]=some (.ok (pD (pen0 c)) true,.non):=Classical.choose_spec (tU c)
noncomputable def u5(ns:List Int)(k:Nat):Int:=Classical.choose (nY ns k)
theorem tCell{ns:List Int}{k:Nat}:aV [.klst (nD ns),.int k]=some (.ok (.int (u5 ns k)) false,.non):=Classical.choose_spec (nY ns k)
theorem tCell0{ns:List Int}:aV [.klst (nD ns),.int 0]=some (.ok (.int (u5 ns 0)) false,.non):=tCell (k:=0)
end L2
namespace L2
open PySem PySem.Spec PyProof.Rows
section
variable{K:A9}{F:Fx}{σ:St}{H H1 H2:Hp}{ρ:Rho}{W:List Addr}{p:Addr}
end
section
variable{X:Cx}{EX:EXT}{e:Expr}{es:List Expr}{as:List Arg}
end
def constK:Key->Const
 | .inl i=> .int i
 | .inr x=> .str x
inductive JP(X:Cx)(EX:EXT)(pos:Pos):List (Option Expr)->List Expr->List Key->List SE->Prop where
 | nil:JP X EX pos [] [] [] []
 | cons {k:Key} {j:Nat} {p:Pos} {e:Expr} {f:SE} {es:List (Option Expr)} {vs:List Expr} {ks:List Key} {fs:List SE} (h:JE X EX e f) (t:JP X EX pos es vs ks fs):JP X EX pos (some (.Constant (constK k) j p)::es) (e::vs) (k::ks) (f::fs)
section
variable{X:Cx}{EX:EXT}{i:Expr}{pos p:Pos}{y:Arg}{n:Str}{ks:List Key}{ds:List D}
end
theorem r_setX{j:Nat}{f:SE}{ρ ρ1:Rho}{C:Lb}(h:f ρ=some (.ex C,ρ1)):aZ j f ρ=some (.ex C,ρ1):=by unfold aZ;rw [h]
theorem vZ{f:SE}{ρ ρ1:Rho}{C:Lb}(h:f ρ=some (.ex C,ρ1)):cQ f ρ=some (.ex C,ρ1):=by unfold cQ;rw [h]
section
variable{s t:SS}{p:ST}{ρ ρ1:Rho}{Q:D->Bool->Rho->Prop}{b:Bool}
end
theorem r_whT{n:Nat}{c:ST}{f:SS}{ρ ρ1 ρ2:Rho}{b:Bool}{r:Option (Out×Rho)}(h:c ρ=some (.ok b,ρ1))(hb:b=true)(h2:f ρ1=some (.nx,ρ2))(h3:cm n c f ρ2=r):cm (n+1) c f ρ=r:=by
 subst hb;unfold cm;simp only [h,h2];exact h3
theorem r_whF{n:Nat}{c:ST}{f:SS}{ρ ρ1:Rho}{b:Bool}(h:c ρ=some (.ok b,ρ1))(hb:b=false):cm (n+1) c f ρ=some (.nx,ρ1):=by
 subst hb;unfold cm;simp only [h]
section
variable{X:Cx}{EX:EXT}{a b:Expr}{x y:Arg}{pos:Pos}{K:A9}
end
section
variable{P:Program}{w:World}{K:A9}{mg:Str->Option Value}{base:Heap}{x:Str}{st:Stmt}{N ps:List Str}{k:Nat}{io:Option Nat}{body:SS}
theorem wU{f:Addr}{cdv:Value}{A:Around}{outer:List Env}{s:Shared}{H:Hp}{E:XK}{c:Nat}(h:c<=10)(hr:bL k (A.deeper (envOfC x (ac st) s.heap.objs.size f cdv))):(aW (CXr P w) P w K mg base N x (ac st) f cdv A outer s H E).A.units+c < cLine:=by
 have:=hr.units
 show (A.deeper _).units+c < cLine
 omega
theorem bY(h:Has K mg x st ps)(S:bz N ps (ac st))
 (hb:∀ (f:Addr) (cdv:Value) (A:Around) (outer:List Env) (s:Shared) (H:Hp) (E:XK),bL k (A.deeper (envOfC x (ac st) s.heap.objs.size f cdv))->N.Nodup ->
   (aW (CXr P w) P w K mg base N x (ac st) f cdv A outer s H E).A.units+10 < cLine->(aW (CXr P w) P w K mg base N x (ac st) f cdv A outer s H E).A.units+1 < cLine ->
   JSs (aW (CXr P w) P w K mg base N x (ac st) f cdv A outer s H E) (EXf K E) (aN st) body) (hps:ps.length<=N.length:=by decide):OkX P w K mg base x ps (k+1) (spF K io (aJ ps.length N.length io body)) :=
 fn_ok h S (fun f cdv A outer s H E hr=>hb f cdv A outer s H E hr S.nd (wU (by decide) hr) (wU (by decide) hr)) hps
theorem fn_okV{f0:Addr}{fd0:FuncData}(h:Fun K x x st f0 fd0)(S:bz N ps (ac st))
 (hb:∀ (f:Addr) (cdv:Value) (A:Around) (outer:List Env) (s:Shared) (H:Hp) (E:XK),bL k (A.deeper (envOfC x (ac st) s.heap.objs.size f cdv))->N.Nodup ->
   (aW (CXr P w) P w K mg base N x (ac st) f cdv A outer s H E).A.units+10 < cLine->(aW (CXr P w) P w K mg base N x (ac st) f cdv A outer s H E).A.units+1 < cLine ->
   JSs (aW (CXr P w) P w K mg base N x (ac st) f cdv A outer s H E) (EXf K E) (aN st) body) (hps:ps.length<=N.length:=by decide):gp P w K mg base (CXr P w) (k+1) f0 fd0 ps (spF K io (aJ ps.length N.length io body)) :=
 uN h S (fun f cdv A outer s H E hr=>hb f cdv A outer s H E hr S.nd (wU (by decide) hr) (wU (by decide) hr)) hps
end
theorem nd_k{l:List Str}(h:decide l.Nodup=true):l.Nodup:=yS h
abbrev OkY(x:Str)(ps:List Str)(k:Nat)(io:Option Nat)(f:FS)(P:Program)(w:World)(K:A9)(mg:Str->Option Value)(base:Heap):Prop:=OkX P w K mg base x ps k (spF K io f)
section
variable{X:Cx}{EX:EXT}{e i1 i2:Expr}{pos pos1 pos2 tpos p1 p2:Pos}{n:Str}{j k:Nat}{f f1 f2:SE}
end
section
variable{X:Cx}{EX:EXT}{a b:Expr}{x y:Arg}{pos:Pos}
end
def nU:List D->Option (D×Bool)
 | [.tup ds]=>some (.tup ds.reverse,false)
 | _=>none
def rRev(K:A9):List V->Hp->VK->Prop
 | [v],H,Q=>∃ i,V.int 1 = .int i/\∃ i',V.int (-i) = .int i'/\∃ a xs,some i'=some (-1)/\v = .ref a/\SqT K H a xs/\∀ p,H p=none->Q (.ref p) (upd H p (.tup xs.reverse))
 | _,_,_=>False
theorem os_rev{K:A9}:OpS K (rRev K) nU:=by
 intro vs ds H L Q d nw hm r e q;unfold nU at e
 split at e
 ·rename_i ds
  cases e
  match vs,r with
  | [v],⟨⟨a,xs,h1,h2,h3⟩,_⟩ =>
   refine ⟨1,rfl,-1,rfl,a,xs,rfl,h1,.inl (.inl (ao h2).2),fun p hp=>q _ _ (af.upd hp) ⟨p,xs.reverse,rfl,?_,?_⟩⟩
   ·rw [aF (fun z=>by have:=hm p z;rw [hp] at this;exact this)]
    exact ai
   ·exact ((aK (fun b hb=> .inl hb) fun b o _ e=>af.upd hp b o e:af (hid L H) _).repDs h3).rev
 ·cases e
theorem c_rev{X:Cx}{EX:EXT}{e:Expr}{x:Arg}{j}{p1 p2 p3 pos:Pos}(ha:JB X EX e x):JE X EX (.Subscript e (.Slice none none (some (.UnaryOp .USub (.Constant (.int 1) j p1) p3)) p2) pos) (sOp nU [x]) :=
 ⟨(wm ha.p (yd sF js)).by fun σ H Q ⟨F,ρ,W,R,h⟩=>bR os_rev R h⟩
section
variable{X:Cx}
variable{o e:Expr}{es:List Expr}{to:TE}{t:TA}{name:Str}{apos cpos:Pos}{id:String}{r:V->List V->Hp->VK->Prop}
end
section
variable{X:Cx}{EX:EXT}{e:Expr}{f:SE}{n:Str}{i:Nat}{p1 apos cpos:Pos}
end
section
variable{X:Cx}{EX:EXT}{o e x:Expr}{f g h:SE}{apos cpos:Pos}
end
section
variable{X:Cx}{EX:EXT}{o:Expr}{f:SE}{apos cpos:Pos}
end
section
variable{X:Cx}{EX:EXT}{o e:Expr}{f g:SE}{apos cpos:Pos}
end
def fg(nm:Str)(fns:List Str)(fs:List SE):SS:=fun ρ=>match evA (fs.map Arg.ex) ρ with
 | some (.ok ds,ρ')=>match aT ds with
  | some ns=>if ns.length=fns.length then some (.ex ⟨nm,fns.zip ns⟩,ρ') else none
  | none=>none
 | some (.ex C,ρ')=>some (.ex C,ρ')
 | none=>none
theorem qq:∀ (fns:List Str) (ns:List Int),fns.zip (ns.map V.int)=fsV (fns.zip ns)
 | [],_=>rfl
 | _::_,[]=>rfl
 | f::fns,n::ns=>by
  show (f,V.int n)::fns.zip (ns.map V.int)=(f,V.int n)::fsV (fns.zip ns)
  rw [qq fns ns]
structure xF(P:Program)(w:World)(K:A9)(mg:Str->Option Value)(base:Heap)(x:Str)(fns:List Str)(k:Nat):Prop where
 ex:∃ C,ErrX P w K mg base x fns k C/\og K x C
theorem sP{P:Program}{w:World}{K:A9}{mg:Str->Option Value}{base:Heap}{N:List Str}{qual:Str}{scope:Scope}{f:Addr}{cd:Value}{A:Around}{outer:List Env}{s:Shared}{H:Hp}{E:XK}{x:Str}{fns:List Str}{np cpos pos:Pos}{j k:Nat}{e:Expr}{es:List Expr}{fs:List SE}
 (O:xF P w K mg base x fns j) (hr:bL k (A.deeper (envOfC qual scope s.heap.objs.size f cd))) (hj:j+1<=k) (hg:Gl (aW (CXr P w) P w K mg base N qual scope f cd A outer s H E) x) (ha:JF (aW (CXr P w) P w K mg base N qual scope f cd A outer s H E) (EXf K E) (e::es) fs)
 (hl:fs.length<=1000:=by decide) (hd:(x == ("__debug__" : Str))=false:=by decide)
 (he:starEach (e::es) (envOfC qual scope s.heap.objs.size f cd)=(false,eval e (envOfC qual scope s.heap.objs.size f cd))::starEach es (envOfC qual scope s.heap.objs.size f cd):=by rfl) (hpl:(backTo cpos (starEach es (envOfC qual scope s.heap.objs.size f cd))).any (·.1)=false:=by rfl) :
 JS (aW (CXr P w) P w K mg base N qual scope f cd A outer s H E) (EXf K E) (.Raise (some (.Call (.Name x np) (e::es) [] cpos)) none pos) (fg x fns fs):=by
 obtain ⟨C,O,hc⟩:=O.ex;refine ⟨(qQ O (hr.mono hj) hg ha.p hd he hpl).by fun D σ H1 hZ=> ?_⟩;obtain ⟨F,ρ,W,R,h⟩:=hZ;refine lf fs R ?_;unfold fg at h
 revert h
 cases ev:evA (fs.map Arg.ex) ρ with
 | none=>exact fun h=>h.elim
 | some q =>
  obtain ⟨q,ρ2⟩:=q
  cases q with
  | ex C=>exact fun h H2 W2 fr2 sub2 R2=>h σ H2 W2 fr2 (fun p hp=> .inl (sub2 p hp)) R2
  | ok ds =>
   dsimp only
   cases ei:aT ds with
   | none=>exact fun h=>h.elim
   | some ns =>
    dsimp only
    split
    ·rename_i hn
     intro h vs H2 W2 fr2 sub2 R2 reps
     have lv:vs.length<=1000:=by rw [<- reps.len,iY ev];exact hl
     rw [bJ ei] at reps;have ve:=bo reps;subst ve;refine ⟨by rw [yF,hn],lv,fun dA hdA=> ?_⟩;refine h σ (upd H2 dA (il dA (fns.zip (ns.map V.int)))) W2 (fr2.trans ((af.upd hdA).fr (W:=W2)) fun p hp=> .inl (sub2 p hp)) (fun p hp=> .inl (sub2 p hp)) (R2.same (af.upd hdA)) C (some dA) ⟨hc,fun _=>⟨dA,rfl,?_⟩⟩;rw [ai,qq]
    ·exact fun h=>h.elim
theorem sX{nm:Str}{fns:List Str}{fs:List SE}{ρ ρ':Rho}{ds:List D}{ns:List Int}{l:Lb}(h:evA (fs.map Arg.ex) ρ=some (.ok ds,ρ'))(hi:aT ds=some ns)(hn:ns.length=fns.length)(hl:(⟨nm,fns.zip ns⟩:Lb)=l):fg nm fns fs ρ=some (.ex l,ρ'):=by
 subst hl;unfold fg;simp only [h,hi];rw [if_pos hn]
def eM(nms:List Str)(i:Nat)(f:Str):SE:=fun ρ=>match ρ[i]? with
 | some (some (.exc l,.fz))=>if nms.elem l.nm=true then match l.fs.lookup f with
  | some n=>some (.ok (.int n) false,ρ)
  | none=>none else none
 | _=>none
structure sv(K:A9)(nms:List Str)(f:Str):Prop where
 is:∀ nm,nms.elem nm=true->∀ C,og K nm C->XK.iS K C/\PySem.W.hasDictIn K C=true/\PySem.W.findIn K (.ref C) f=some none
theorem nI{f:Str}{n:Int}:∀ {l:List (Str×Int)},l.lookup f=some n->(fsV l).lookup f=some (V.int n)
 | [],h=>by cases h
 | (g,m)::l,h=>by
  rw [zB] at h
  show List.lookup f ((g,V.int m)::fsV l)=_
  rw [zB]
  split at h
  ·cases h;rfl
  ·exact nI h
theorem qA{K:A9}{EX:EXT}{nms:List Str}{i:Nat}{f:Str}(k:sv K nms f){σ:St}{H:Hp}{Q:VK}(h:tV K EX (eM nms i f) σ H Q):sK K (jc i) f σ H Q:=by
 obtain ⟨F,ρ,W,R,h⟩:=h;unfold eM at h
 revert h
 cases e0:ρ[i]? with
 | none=>exact fun h=>h.elim
 | some z =>
  cases z with
  | none=>exact fun h=>h.elim
  | some z =>
   obtain ⟨d,m⟩:=z
   cases d<;>cases m<;>try exact fun h=>h.elim
   rename_i l;dsimp only
   split
   ·rename_i hel
    cases el:l.fs.lookup f with
    | none=>exact fun h=>h.elim
    | some n =>
     intro h;obtain ⟨v,hv,p,C,x,rfl,hx,hp⟩:=R.slot i _ _ e0
     have nf:l.fs≠[]:=fun z=>by rw [z] at el;cases el
     obtain ⟨dA,rfl,hd⟩:=hx.dic nf;obtain ⟨k1,k2,k3⟩:=k.is _ hel C hx.cls;exact ⟨_,hv,p,C,dA,_,.int n,rfl,(ao hp).2,(ao hd).2,k1,k2,k3,nI el,h _ H W .refl (fun _ z=>z) ⟨rfl,R⟩⟩
   ·exact fun h=>h.elim
theorem c_attr{X:Cx}{EX:EXT}{nms:List Str}{i:Nat}{n f:Str}{p pos:Pos}(k:sv X.K nms f)(hN:X.N[i]?=some n:=by rfl)(hv:Vis X.env.scope n:=by first | exact Or.inl rfl | exact Or.inr (Or.inl rfl) | exact Or.inr (Or.inr rfl))
 (hd:(n == ("__debug__" : Str))=false:=by decide) (hcd:(n == ("__classdict__" : Str))=false:=by decide) (hb:attributeBase (.Name n p) f X.env (eval (.Name n p) X.env)=eval (.Name n p) X.env:=by rfl):JE X EX (.Attribute (.Name n p) f pos) (eM nms i f) :=
 ⟨(p9 (dy hN hv hd hcd) hb).by fun _ _ _ h=>qA k h⟩
theorem r_attr{nms:List Str}{i:Nat}{f:Str}{n:Int}{l:Lb}{ρ:Rho}(h:ρ[i]?=some (some (.exc l,.fz)))(he:nms.elem l.nm=true)(hl:l.fs.lookup f=some n):eM nms i f ρ=some (.ok (.int n) false,ρ):=by
 unfold eM;simp only [h,hl];rw [if_pos he]
def spA(K:A9)(run:FS):Sp:=fun vs H Q _=>∃ ds d x,ag K H ds vs/\run ds=some (.ok d false,x)/\∀ v H',af H H'->ay K H' d v->Q v H'
theorem fn_okA{P:Program}{w:World}{K:A9}{mg:Str->Option Value}{base:Heap}{x:Str}{st:Stmt}{N ps:List Str}{k:Nat}{body:SS}(h:Has K mg x st ps)(S:bz N ps (ac st))
 (hb:∀ (f:Addr) (cdv:Value) (A:Around) (outer:List Env) (s:Shared) (H:Hp) (E:XK),cS k (A.deeper (envOfC x (ac st) s.heap.objs.size f cdv)) ->
   JSs (n9 P w K mg base N x (ac st) f cdv A outer s H E) EXn (aN st) body) (hps:ps.length<=N.length:=by decide):OkA P w K mg base x ps (k+1) (spA K (aJ ps.length N.length none body)):=by
 have run_len:∀ {ds:List D} {r:Res×D},aJ ps.length N.length none body ds=some r->ds.length=ps.length:=fun {ds r} e=>by
  unfold aJ at e
  split at e
  ·assumption
  ·cases e
 refine h.okA S (fun vs H Q E hs=> ?_) (fun f cdv A outer s H vs Q E hr hs=> ?_)
 ·obtain ⟨ds,d,y,h1,h2,_⟩:=hs
  rw [<- h1.len];exact run_len h2
 ·obtain ⟨ds,d,y,h1,h2,q⟩:=hs
  have hl:=run_len h2
  have st_get:∀ {j:Nat} {v:V},vs[j]?=some v->(bZ N vs)[j]?=some (some v):=fun {j v} e=>by
   unfold bZ;rw [zj (by rw [yF];exact (yR.mp e).1),zc,e];rfl
  have hid0:∀ H':Hp,hid ([]++[]) H'=H':=fun H'=>by funext b;unfold hid;simp
  refine ⟨_,(hb f cdv A outer s H E hr).p,⟨[],fun _=>none⟩,ini N.length none ds,[],?_,?_⟩
  ·refine ⟨fun i d' m hi=> ?_,fun i j d' e m n p g1 g2 _ _ _ _=> ?_,(fun p hp=>absurd hp (by simp)),(fun p hp=>absurd hp (by simp)),?_⟩
   ·obtain ⟨hd,rfl⟩:=gF hi
    obtain ⟨v,e1,e2⟩:=h1.get hd;refine ⟨v,st_get e1,?_⟩;rw [if_neg (fun z=>by cases z)]
    show ay K (hid ([]++[]) H) d' v
    rw [hid0];exact e2
   ·obtain ⟨_,rfl⟩:=gF g1
    exact absurd (if_neg (fun z=>by cases z)) g2
   ·unfold bZ ini
    rw [yX,yX,yF,zo,zo,eV,h1.len]
  ·unfold aJ at h2
   rw [if_pos hl] at h2
   revert h2
   cases body (ini N.length none ds) with
   | none=>intro h2;cases h2
   | some r =>
    obtain ⟨r,ρ'⟩:=r
    cases r with
    | bk=>intro h2;cases h2
    | ct=>intro h2;cases h2
    | ex C=>intro h2;cases h2
    | nx =>
     intro h2 σ' H' W' fr sub R;cases h2;exact q .non H' (fun b o e=>fr.keep b o (by simp) e) rfl
    | rt d' nw =>
     intro h2
     cases nw with
     | true=>cases h2
     | false =>
      cases h2;intro σ' v H' W' fr sub P;have hP:ay K (hid (W'++[]) H') d v:=P.1;exact q v H' (fun b o e=>fr.keep b o (by simp) e) (az.repD hP)
def ff(nms:List Str)(i:Nat)(f:Str):SE:=fun ρ=>match eM nms i f ρ with
 | some (.ok _ _,ρ1)=>some (.ok (.bl true) false,ρ1)
 | _=>none
theorem va{X:Cx}{EX:EXT}{nms:List Str}{i k:Nat}{n f:Str}{p q p2 pos:Pos}{run:FS}(G:OkA X.prog X.w X.K X.mg X.base "_law_whole" ["found"] k (spA X.K run))(hw:∀ m:Int,run [.int m]=some (.ok (.bl true) false,.non))(kf:sv X.K nms f)(hr:cS k X.A)(hg:Gl X "_law_whole")(hN:X.N[i]?=some n:=by rfl)(hv:Vis X.env.scope n:=by first | exact Or.inl rfl | exact Or.inr (Or.inl rfl) | exact Or.inr (Or.inr rfl))
 (hd:(n == ("__debug__" : Str))=false:=by decide) (hcd:(n == ("__classdict__" : Str))=false:=by decide) (hb:attributeBase (.Name n p) f X.env (eval (.Name n p) X.env)=eval (.Name n p) X.env:=by rfl)
 (he:starEach [.Attribute (.Name n p) f q] X.env=(false,eval (.Attribute (.Name n p) f q) X.env)::starEach [] X.env:=by rfl) (hpl:(backTo pos (starEach [] X.env)).any (·.1)=false:=by rfl) :
 JE X EX (.Call (.Name "_law_whole" p2) [.Attribute (.Name n p) f q] [] pos) (ff nms i f):=by
 refine ⟨(nq G hr hg (av (p9 (dy hN hv hd hcd) hb) bX he) (he:=he) (hpl:=hpl)).by fun σ H Q hZ=> ?_⟩;obtain ⟨F,ρ,W,R,h⟩:=hZ
 show sK X.K (jc i) f σ H fun v H1=>_
 refine qA (EX:=EXn) kf ⟨F,ρ,W,R,?_⟩;unfold ff at h
 revert h
 cases ea:eM nms i f ρ with
 | none=>exact fun h=>h.elim
 | some z =>
  obtain ⟨z,ρ1⟩:=z
  cases z with
  | ex C=>exact fun h=>h.elim
  | ok d nw =>
   intro h v H1 W1 fr sub post
   obtain ⟨m,rfl,rfl,rfl⟩:∃ m:Int,d = .int m/\nw=false/\ρ1=ρ:=by
    unfold eM at ea
    split at ea
    ·split at ea
     ·split at ea
      ·cases ea;exact ⟨_,rfl,rfl,rfl⟩
      ·cases ea
     ·cases ea
    ·cases ea
   have hv:v = .int m:=post.1;subst hv;refine ⟨[.int m],.bl true,.non,⟨rfl,trivial⟩,hw m,fun v' H' s' rv=> ?_⟩;exact h v' H' W1 (fr.trans (s'.fr (W:=W1)) fun p hp=> .inl (sub p hp)) sub ⟨rv,post.2.same s'⟩
theorem sW{nms:List Str}{i:Nat}{f:Str}{d:D}{nw:Bool}{ρ ρ1:Rho}(h:eM nms i f ρ=some (.ok d nw,ρ1)):ff nms i f ρ=some (.ok (.bl true) false,ρ1):=by
 unfold ff;simp only [h]
def iniOf(s:Stmt):Stmt:=match s with
 | .ClassDef _ _ _ (b::_) _ _ _ _ _ _ _=>b
 | s=>s
section
variable{P:Program}{w:World}{K:A9}{mg:Str->Option Value}{base:Heap}{qual f g:Str}{st:Stmt}{fI C Tq:Addr}{fd:FuncData}
abbrev tI1(base:Heap)(K:A9)(Tq:Addr)(f:Str):TS:=tSeq (xM (tIni base Tq (iu (jc 0) (iu (jc 1) sJ)))) (xS K Tq (jc 0) (jc 1) f)
theorem wR(F:Fun K "__init__" qual st fI fd)(S:bz ["self",f] ["self",f] (ac st))(kc:sw base C Tq)(kf:XK.pK K C Tq)(tk:PySem.W.takerIn K C f=some none)
 (hb:∀ (cdv:Value) (A:Around) (outer:List Env) (s:Shared) (H:Hp) (E:XK),PSs (aW (CXr P w) P w K mg base ["self",f] qual (ac st) fI cdv A outer s H E) (aN st) (tI1 base K Tq f)):gp P w K mg base (CXr P w) 1 fI fd ["self",f] (spI C [f]):=by
 obtain ⟨oc,od,kV,doc,pm,an,cdv,ct,osl,rfl,lk,hcd⟩:=F.ex
 refine uO lk hcd S (fun vs H Q E hs=> ?_) fun A outer s H vs Q E hr hs=>⟨_,hb cdv A outer s H E,?_⟩
 ·obtain ⟨ea,ys,rfl,h1,_⟩:=hs
  rw [yM,h1];rfl
 ·obtain ⟨ea,ys,rfl,h1,hea,q⟩:=hs
  match ys,h1,q with
  | [y],_,q=>exact ⟨_,rfl,_,rfl,ea,C,[y],rfl,hea,kc,by simp,⟨_,rfl,_,rfl,ea,C,none,rfl,hea,kf,tk,.inl ⟨rfl,fun dA d1 d2=>q dA d1 d2⟩⟩⟩
end
theorem vE{h:Heap}{mg:Str->Option Value}{Tq:Addr}{n1 n2:Str}{N:Addr}{l1 l2:List Value}{b1 b2:Bool}{l3:List Str}{ob:Option Bool}{dd:Option Addr}{k0 k1 k2 k3 k5:Option Value}{nw:String}(O:OwnCls "TieError" Tq XK.bmV "ValueError.__new__" mg h)(lk:h.get? Tq=some (excClassObj n1 n2 Tq N l1 XK.bmV b1 l3 l2 b2 ob dd k0 k1 k2 k3 k5 nw)):OwnTail h XK.bmV (.ref Tq::XK.bmV):=by
 obtain ⟨tl,N',nm,q,bs',hdct,sn,sub,ab,col,dd',j0,j1,j2,j3,j5,mN,hC,hN,hni,T⟩:=O.obj;have e:=lk.symm.trans hC;unfold excClassObj at e lk;simp only [Option.some.injEq,Obj.mk.injEq,Data.cls.injEq,ClassData.mk.injEq] at e;have hN2:=hN;rw [<- e.2.2.1.2.2.2.1] at hN2;exact .own lk hN2 hni .base
def EIn(K:A9)(Tq A:Addr)(x qual:Str)(st:Stmt):Prop:=∃ (I N:Addr) (n1 n2:Str) (l1 l2:List Value) (b1 b2:Bool) (l3:List Str) (ob:Option Bool) (dd od an:Option Addr) (k0 k1 k2 k3 k5:Option Value) (oc kV dc pm cd ct:Value) (sl:Array (Option Value)) (e:ClassData),
 (PySem.W.nsIn K mainGlobals x=some (some (.ref A))/\K.lookup A=some (excClassObj n1 n2 A N l1 (.ref Tq::XK.bmV) b1 l3 l2 b2 ob dd k0 k1 k2 k3 k5 "ValueError.__new__")/\PySem.W.keepIn K (.ref A)=true) /\
 (PySem.W.findIn K (.ref A) "__init__" = some (some (.ref I))/\PySem.W.typeIn K (.ref I)=some (.type "function")/\K.lookup I=some ⟨oc,od,.func (PySem.W.fnOf "__init__" qual (bw st) (aN st) (ac st) .none kV dc pm an cd ct),sl⟩/\PySem.W.codeIn K cd qual=true/\PySem.W.keepIn K (.ref I)=true) /\
 PySem.W.findIn K (.ref A) "__setattr__" = some (some (.builtin "object.__setattr__"))/\PySem.W.clsIn K A=some e/\e.mro = .ref A :: .ref Tq::XK.bmV/\e.hasDict=true
theorem ein_mk{K:A9}{Tq A:Addr}{x qual:Str}{st:Stmt}{I N:Addr}{n1 n2:Str}{l1 l2:List Value}{b1 b2:Bool}{l3:List Str}{ob:Option Bool}{dd od an:Option Addr}{k0 k1 k2 k3 k5:Option Value}{oc kV dc pm cd ct:Value}{sl:Array (Option Value)}{e:ClassData}
 (h1:PySem.W.nsIn K mainGlobals x=some (some (.ref A))) (h2:K.lookup A=some (excClassObj n1 n2 A N l1 (.ref Tq::XK.bmV) b1 l3 l2 b2 ob dd k0 k1 k2 k3 k5 "ValueError.__new__")) (h3:PySem.W.keepIn K (.ref A)=true)
 (h4:PySem.W.findIn K (.ref A) "__init__" = some (some (.ref I))) (h5:PySem.W.typeIn K (.ref I)=some (.type "function")) (h6:K.lookup I=some ⟨oc,od,.func (PySem.W.fnOf "__init__" qual (bw st) (aN st) (ac st) .none kV dc pm an cd ct),sl⟩) (h7:PySem.W.codeIn K cd qual=true) (h8:PySem.W.keepIn K (.ref I)=true)
 (h9:PySem.W.findIn K (.ref A) "__setattr__" = some (some (.builtin "object.__setattr__"))) (h10:PySem.W.clsIn K A=some e) (h11:e.mro = .ref A :: .ref Tq::XK.bmV) (h12:e.hasDict=true):EIn K Tq A x qual st :=
 ⟨I,N,n1,n2,l1,l2,b1,b2,l3,ob,dd,od,an,k0,k1,k2,k3,k5,oc,kV,dc,pm,cd,ct,sl,e,⟨h1,h2,h3⟩,⟨h4,h5,h6,h7,h8⟩,h9,h10,h11,h12⟩
def TIn(K:A9)(Tq:Addr):Prop:=∃ (N:Addr) (n1 n2:Str) (l1 l2:List Value) (b1 b2:Bool) (l3:List Str) (ob:Option Bool) (dd:Option Addr) (k0 k1 k2 k3 k5:Option Value),K.lookup Tq=some (excClassObj n1 n2 Tq N l1 XK.bmV b1 l3 l2 b2 ob dd k0 k1 k2 k3 k5 "ValueError.__new__") /\
 PySem.W.specialIn K (.ref Tq) "__getattribute__" = some (some (.builtin "type.__getattribute__"))/\PySem.W.readsIn K Tq (.type "type")=true/\PySem.W.findCls K (.ref Tq) (.type "type") "__init__" = some (.val (.builtin "ValueError.__init__"))
theorem tin_mk{K:A9}{Tq N:Addr}{n1 n2:Str}{l1 l2:List Value}{b1 b2:Bool}{l3:List Str}{ob:Option Bool}{dd:Option Addr}{k0 k1 k2 k3 k5:Option Value}(h1:K.lookup Tq=some (excClassObj n1 n2 Tq N l1 XK.bmV b1 l3 l2 b2 ob dd k0 k1 k2 k3 k5 "ValueError.__new__"))
 (h2:PySem.W.specialIn K (.ref Tq) "__getattribute__" = some (some (.builtin "type.__getattribute__"))) (h3:PySem.W.readsIn K Tq (.type "type")=true) (h4:PySem.W.findCls K (.ref Tq) (.type "type") "__init__" = some (.val (.builtin "ValueError.__init__"))):TIn K Tq :=
 ⟨N,n1,n2,l1,l2,b1,b2,l3,ob,dd,k0,k1,k2,k3,k5,h1,h2,h3,h4⟩
theorem TIn.t{K:A9}{mg:Str->Option Value}{base:Heap}{Tq:Addr}(t:TIn K Tq)(KB:K.In base)(hm:mg "TieError" = some (.ref Tq))(O:OwnCls "TieError" Tq XK.bmV "ValueError.__new__" mg base):IniT K mg Tq/\OwnTail base XK.bmV (.ref Tq::XK.bmV):=by
 obtain ⟨N,n1,n2,l1,l2,b1,b2,l3,ob,dd,k0,k1,k2,k3,k5,h1,h2,h3,h4⟩:=t;exact ⟨⟨hm,h2,h3,h4⟩,vE O (KB _ _ h1)⟩
theorem EIn.err{P:Program}{w:World}{K:A9}{mg:Str->Option Value}{base h:Heap}{Tq A:Addr}{x qual:Str}{st:Stmt}{fns:List Str}(d:EIn K Tq A x qual st)(X:K.In h)(G:h.Ns mainGlobals mg)(KB:K.In base)(T:OwnTail base XK.bmV (.ref Tq::XK.bmV))
 (hb:∀ (kV doc pm:Value) (an:Option Addr) (cdv ct:Value) (us:List Value),us.length=(("self" : Str)::fns).length->bindArgs (PySem.W.fnOf "__init__" qual (bw st) (aN st) (ac st) .none kV doc pm an cdv ct) ⟨us,[]⟩=pure ((("self" : Str)::fns).zip us))
 (ok:∀ {fI:Addr} {fd:FuncData},Fun K "__init__" qual st fI fd->sw base A Tq->XK.pK K A Tq->gp P w K mg base (CXr P w) 1 fI fd ("self" :: fns) (spI A fns)):xF P w K mg base x fns 1:=by
 obtain ⟨I,N,n1,n2,l1,l2,b1,b2,l3,ob,dd,od,an,k0,k1,k2,k3,k5,oc,kV,dc,pm,cd,ct,sl,e,⟨h1,h2,h3⟩,⟨h4,h5,h6,h7,h8⟩,h9,h10,h11,h12⟩:=d;have cx:sw base A Tq:=⟨⟨n1,n2,N,l1,b1,l3,l2,b2,ob,dd,k0,k1,k2,k3,k5,KB _ _ h2⟩,T⟩;have F:=l9 (st:=st) h6 h7 h8;exact ⟨A,⟨zr X G h1,h3,⟨Tq,I,_,cx,h4,h5,F.binds hb,ok F cx ⟨h9,e,h10,h11,h12⟩⟩⟩,h1⟩
def aS(T:Tg)(f:SS):List D->Rho->Option (Out×Rho)
 | [],ρ=>some (.nx,ρ)
 | d::ds,ρ=>match bi T d ρ with
  | none=>none
  | some ρ1=>match f ρ1 with
   | some (.nx,ρ2)=>aS T f ds ρ2
   | some (.ct,ρ2)=>aS T f ds ρ2
   | some (.bk,ρ2)=>some (.nx,ρ2)
   | some (.rt d nw,ρ2)=>some (.rt d nw,ρ2)
   | some (.ex C,ρ2)=>some (.ex C,ρ2)
   | none=>none
def mW(it:SI)(T:Tg)(f:SS):SS:=fun ρ=>match it ρ with
 | some (.ok ds,ρ1)=>aS T f ds ρ1
 | some (.ex _,_)=>none
 | none=>none
section
variable{X:Cx}{EX:EXT}{tg iter c:Expr}{body:List Stmt}{pos:Pos}
theorem s_forX{it:SI}{T:Tg}{f:SS}(hp:PassesOwn (model X.prog X.w) X.A X.env X.xe)(hc:X.calm=true)(hi:JI X EX tg iter it)(hg:JG X tg T)(hb:JSs X EX body f)(hs:∀ x,foldedSetIterable iter X.env x=pure x:=by intro _;rfl):JS X EX (.For tg iter body [] pos) (mW it T f) :=
 ⟨(tM hp hc hi.p hg.p hb.p hs).by fun D σ H ⟨F,ρ,W,R,h⟩=>⟨F,ρ,W,R,by
   unfold mW at h
   revert h
   cases it ρ with
   | none=>exact fun h=>h
   | some q =>
    obtain ⟨q,ρ1⟩:=q
    cases q with
    | ex C=>exact fun h=>h.elim
    | ok ds =>
     intro h J H1 W1 fr1 sub1 R1 ok;have h:OkS X.K F EX H W (aS T f ds ρ1) D:=h
     refine ⟨fun i m σ H2=>m=ds.length - i/\i<=ds.length/\∃ ρ2 W2,Rel X.K F σ H2 ρ2 W2/\Fr W1 H1 H2/\(∀ p∈W2,p∈W1\/H1 p=none)/\OkS X.K F EX H2 W2 (aS T f (ds.drop i) ρ2) D,
      ⟨ds.length,by simp,Nat.zero_le _,ρ1,W1,R1,.refl,fun _ z=> .inl z,OkS.go h fr1 fun p hp=> .inl (sub1 p hp)⟩,?_⟩
     rintro i m σ2 H2 ⟨rfl,hi,ρ2,W2,R2,fr2,sub2,h2⟩
     by_cases hlt:i < ds.length
     ·have hd:ds.drop i=ds[i]::ds.drop (i+1):=A8 hlt
      rw [hd] at h2;unfold aS at h2;obtain ⟨g1,g2⟩:=ok.go H2 (W2++F.Z) i ds[i] (fr2.hid sub2) R2.mt (yD hlt);refine .inr ⟨g1,fun σ3 H3=>ds.length - (i+1)=ds.length - (i+1)/\i+1<=ds.length/\∃ ρ3 W3,Rel X.K F σ3 H3 ρ3 W3/\Fr W1 H1 H3/\(∀ p∈W3,p∈W1\/H1 p=none)/\OkS X.K F EX H3 W3 (aS T f (ds.drop (i+1)) ρ3) D,fun σ3 H3 z=>⟨_,by omega,z⟩,fun x H3 y=> ?_⟩;obtain ⟨s3,rx⟩:=g2 x H3 y
      revert h2
      cases ea:bi T ds[i] ρ2 with
      | none=>exact fun h=>h.elim
      | some ρ3 =>
       intro h2
       refine qo (n:=0) T (R2.same s3) rx ea fun σ4 _ R4=>⟨F,ρ3,W2,R4,?_⟩
       have fr3:Fr W1 H1 H3:=fr2.trans (s3.fr (W:=W2)) sub2
       have h3:OkS X.K F EX H3 W2 _ D:=OkS.go h2 (s3.fr (W:=W2)) fun p hp=> .inl hp
       have sub3:∀ {W4:List Addr},(∀ p∈W4,p∈W2\/H3 p=none)->∀ p∈W4,p∈W1\/H1 p=none:=fun {W4} s p hp=>(s p hp).elim (sub2 p) fun z=> .inr (fr3.dom p z)
       revert h3
       dsimp only
       cases f ρ3 with
       | none=>exact fun h=>h
       | some q =>
        obtain ⟨q,ρ4⟩:=q
        cases q with
        | nx=>exact fun h3 σ5 H5 W5 fr5 sub5 R5=>⟨rfl,hlt,ρ4,W5,R5,fr3.trans fr5 sub2,sub3 sub5,OkS.go h3 fr5 sub5⟩
        | ct=>exact fun h3 σ5 H5 W5 fr5 sub5 R5=>⟨rfl,hlt,ρ4,W5,R5,fr3.trans fr5 sub2,sub3 sub5,OkS.go h3 fr5 sub5⟩
        | bk=>exact fun h3=>h3
        | ex C=>exact fun h3=>h3
        | rt d nw=>exact fun h3=>h3
     ·have e:i=ds.length:=by omega
      subst e;rw [List.drop_length] at h2
      exact .inl ⟨ok.stop H2 ((fr2.hid sub2).trans az),h2 σ2 H2 W2 .refl (fun _ z=> .inl z) R2⟩⟩⟩
end
theorem wq{P:Program}{w:World}{K:A9}{mg:Str->Option Value}{base:Heap}{N:List Str}{qual:Str}{scope:Scope}{f:Addr}{cd:Value}{A:Around}{outer:List Env}{s:Shared}{H:Hp}{E:XK} :
 PassesOwn (model (aW (CXr P w) P w K mg base N qual scope f cd A outer s H E).prog (aW (CXr P w) P w K mg base N qual scope f cd A outer s H E).w) (aW (CXr P w) P w K mg base N qual scope f cd A outer s H E).A (aW (CXr P w) P w K mg base N qual scope f cd A outer s H E).env (aW (CXr P w) P w K mg base N qual scope f cd A outer s H E).xe:=by
 show PassesOwn _ _ _ _
 exact PassesOwn.leaving
theorem r_forX{it:SI}{T:Tg}{f:SS}{ρ ρ1:Rho}{ds:List D}{r:Option (Out×Rho)}(h1:it ρ=some (.ok ds,ρ1))(h2:aS T f ds ρ1=r):mW it T f ρ=r:=by
 unfold mW;rw [h1];exact h2
theorem nh{T:Tg}{f:SS}{ρ ρ1 ρ2:Rho}{d:D}{ds:List D}{r:Option (Out×Rho)}(h1:bi T d ρ=some ρ1)(h2:f ρ1=some (.nx,ρ2))(h3:aS T f ds ρ2=r):aS T f (d::ds) ρ=r:=by
 rw [aS,h1];show (match f ρ1 with | some (.nx,ρ2)=>aS T f ds ρ2 | some (.ct,ρ2)=>aS T f ds ρ2 | some (.bk,ρ2)=>some (.nx,ρ2) | some (.rt d nw,ρ2)=>some (.rt d nw,ρ2) | some (.ex C,ρ2)=>some (.ex C,ρ2) | none=>none)=r;rw [h2];exact h3
theorem jj{T:Tg}{f:SS}{ρ ρ1 ρ2:Rho}{d:D}{ds:List D}{C:Lb}(h1:bi T d ρ=some ρ1)(h2:f ρ1=some (.ex C,ρ2)):aS T f (d::ds) ρ=some (.ex C,ρ2):=by
 rw [aS,h1];show (match f ρ1 with | some (.nx,ρ2)=>aS T f ds ρ2 | some (.ct,ρ2)=>aS T f ds ρ2 | some (.bk,ρ2)=>some (.nx,ρ2) | some (.rt d nw,ρ2)=>some (.rt d nw,ρ2) | some (.ex C,ρ2)=>some (.ex C,ρ2) | none=>none)=_;rw [h2]
end L2
namespace L2
open PyProof.Rows
theorem eF:∀ {a b:List Int},a.Pairwise (·<= ·)->b.Pairwise (·<= ·)->a.Perm b->a=b
 | [],b,_,_,p=>by rw [p.nil_eq]
 | x::a,[],_,_,p=>absurd p.symm.nil_eq (by simp)
 | x::a,y::b,ha,hb,p=>by
  have ha':=zn.mp ha;have hb':=zn.mp hb
  have e:x=y:=by
   have h1:x∈y::b:=p.mem_iff.mp yL;have h2:y∈x::a:=p.mem_iff.mpr yL
   rcases yP.mp h1 with h | h
   ·exact h
   ·rcases yP.mp h2 with g | g
    ·exact g.symm
    ·have:=hb'.1 x h
     have:=ha'.1 y g;omega
  subst e;rw [eF ha'.2 hb'.2 (List.Perm.cons_inv p)]
theorem fC{l m:List Int}(h:l.Perm m)(hm:m.Pairwise (·<= ·)):eU l=m:=eF (dS l) hm ((fY l).trans h)
end L2
namespace L2
def dnI(hi:Int)(n:Nat):List Int:=(List.range n).map fun k=>hi - (k:Nat)
def cL(b:Bool)(lo hi:Int):List Nat->List Int
 | []=>[]
 | l::r=>if b then dnI hi l++cL false lo (hi - l - 1) r else rgI lo l++cL true (lo+l+1) hi r
end L2
namespace L2
end L2
namespace L2
end L2
namespace L2
def es(a b:Nat):Nat:=if h:b=0 then 0 else es b (a % b)+1
 termination_by b
 decreasing_by exact Nat.mod_lt _ (by omega)
end L2
set_option linter.all false
private def xp(r:Array String):Nat->Char->List Nat
 | 0,_=>[]
 | k+1,c=>let x:=c.toNat;if x < 80 then [x - 33 - (if x < 35 then 0 else 1)] else if 255 < x&&x < 1024 then [x - 210] else (r.getD (if x < 127 then x - 80 - (if x < 93 then 0 else 1) else x - 978) "").toList.flatMap (xp r k)
set_option hygiene false
set_option compiler.extract_closed false
private def ta:Lean.MacroM (Lean.TSyntax `tactic) := `(tactic| (refine .cons ?_ ?_;exact .nil;intros;exact ⟨rfl,rfl,rfl,by decide +kernel,rfl,by decide +kernel,by decide +kernel⟩;omega;exact yV (by omega);(simp only [zH,zI,reduceIte,zL];exact rfl);refine t_ne hu ?_ ?_;exact uF nd rfl (Or.inl rfl);(simp only [bi,cg,mP,y0,zi,zH,zI,List.replicate,zO,zQ,zE];exact rfl);refine xy (m:=T.sorted) (ha:= ?_);(with_reducible apply wZ _ _);(first | exact Or.inl rfl | exact Or.inr (Or.inl rfl) | exact Or.inr (Or.inr rfl));refine s_retV rfl ?_;refine s_for rfl ?_ ?_ ?_;refine oz ?_ T.isi T.tuple;exact ⟨rfl,by decide +kernel,by decide +kernel,by decide +kernel,rfl,by decide +kernel,by decide +kernel,by decide +kernel,by decide +kernel⟩;exact uF (nd_k (by kernel_rfl)) rfl (Or.inl rfl);exact .no;(simp only [ini,fZ,yM,zJ,List.replicate,zO,zQ,zK,Nat.reduceSub,AL,Nat.reduceAdd,zE,reduceCtorEq,reduceIte,Option.some.injEq,Nat.reduceEqDiff,Nat.zero_ne_one,Nat.one_ne_zero];exact rfl);(with_reducible apply l8 _ _);intro x0 hx0;refine s_set nd rfl (Or.inl rfl) ?_;refine t_eq hu ?_ ?_;refine xx (m:=T.tuple) (ha:= ?_);(with_reducible assumption);(simp only [Bool.not_eq_true',Bool.not_eq_false',Aq,decide_eq_false_iff_not];omega);refine b_max (m:=T.max) (ha:= ?_);refine i_rng1 (by rfl) T.range ?_;refine uu _ ?_;refine s_dput hu1 ?_ ?_ rfl ?_;refine xA (m:=T.list) (ha:= ?_);refine c_sl01 oJ os_s01 ?_ ?_;refine q_eq hu ?_ ?_;(simp only [Bool.not_eq_true',Bool.not_eq_false',yY,Bool.or_eq_true,Bool.and_eq_false_iff,Bool.or_eq_false_iff,Aq,decide_eq_false_iff_not];omega);refine bY (N:=["thing"]) h ?_ fun f cdv A outer s H E hr nd hu hu1=> ?_;refine lw ?_ T.isi T.int;refine jV ?_ T.isi T.bool;refine s_item ?_ ?_ rfl ?_;refine vG hu ?_ ?_;refine xz (m:=T.range) (ha:= ?_);refine t_in hu ?_ ?_;refine bY (N:=["many", "thing"]) h ?_ fun f cdv A outer s H E hr nd hu hu1=> ?_;refine b_min (m:=T.min) (ha:= ?_);refine b_all (m:=T.all) (ha:= ?_);refine sP OF_NoWeb hr (by decide) (by rfl) ?_;refine s_try (nms:=nms) rfl rfl ?_ ?_ nd rfl rfl (by rfl) HT SU;refine pB pf G0 hr (by decide) (by rfl) ?_;exact Kd.c_kind GK KN (hr.any.mono (by decide)).mark (by rfl);exact va GW nQ FK_number (hr.any.mono (by decide)).mark (by rfl);exact c_attr FK_number;refine pA (M:=["many", "things", "handed", "due", "told", "number", "e"]) (tgs:=["tie"]) rfl ?_ ?_ ?_ ?_ ?_;refine sx.ok (osc:=ac (top 32)) (N:=["many", "things", "handed", "due", "told", "number", "e"]) ?_;(simp only [yM,zJ,List.take_succ_cons,List.take_zero,zE];exact rfl);exact zd (by omega);(simp only [eq_self,decide_true,Bool.not_true]);(simp only [yF,yX,zW,yM,zJ,zo,zz,lJ,List.length_zipIdx,Ao,List.length_reverse] at *;omega);(simp only [cX,y0,zi,zH,zI];exact rfl);have hy0:=wI.mp hx0;refine bY (N:=["script", "k"]) h ?_ fun f cdv A outer s H E hr nd hu hu1=> ?_;refine b_len (m:=T.len) (ha:= ?_);refine bY (N:=["seed"]) h ?_ fun f cdv A outer s H E hr nd hu hu1=> ?_;refine bY (N:=["cell", "left"]) h ?_ fun f cdv A outer s H E hr nd hu hu1=> ?_;refine b_int (m:=T.int) (ha:= ?_);refine bY (N:=["found"]) h ?_ fun f cdv A outer s H E hr nd hu hu1=> ?_;refine bY (N:=["thing", "least", "most"]) h ?_ fun f cdv A outer s H E hr nd hu hu1=> ?_;refine xw yj yj yg yg ?_ ?_ ?_;refine bY (N:=["pen", "many", "found"]) h ?_ fun f cdv A outer s H E hr nd hu hu1=> ?_;refine bY (N:=["many", "things", "seen", "spot", "thing"]) h ?_ fun f cdv A outer s H E hr nd hu hu1=> ?_;exact vg (by rfl) T.MOST_PLACES;refine bY (N:=["pen", "most", "many", "found", "place", "turn", "one", "other"]) h ?_ fun f cdv A outer s H E hr nd hu hu1=> ?_;refine i_rng2 (by rfl) T.range ?_;refine bY (N:=["web", "pen", "left", "found", "tie"]) h ?_ fun f cdv A outer s H E hr nd hu hu1=> ?_;refine wJ _ ?_;refine bY (N:=["things", "many", "pen", "spot", "again", "some"]) h ?_ fun f cdv A outer s H E hr nd hu hu1=> ?_;refine pA (M:=["things", "many", "pen", "spot", "again", "some"]) (tgs:=["tie"]) rfl ?_ ?_ ?_ ?_ ?_;refine sx.ok (osc:=ac (top 30)) (N:=["things", "many", "pen", "spot", "again", "some"]) ?_;refine c_sl10 oJ os_s10 ?_ ?_;refine pA (M:=["many", "thing"]) (tgs:=["end"]) rfl ?_ ?_ ?_ ?_ ?_;refine sx.ok (osc:=ac (top 18)) (N:=["many", "thing"]) ?_;refine bY (N:=["many", "things", "told", "number", "thing", "tie"]) h ?_ fun f cdv A outer s H E hr nd hu hu1=> ?_;refine s_forX wq rfl ?_ ?_ ?_;refine i_enum (by rfl) T.enumerate ?_;refine g_tup rfl ?_;exact vg (by rfl) T.MOST_TIES;refine bY (N:=["many", "things", "handed", "due", "told", "number", "e"]) h ?_ fun f cdv A outer s H E hr nd hu hu1=> ?_;refine bY (N:=["many", "things", "e"]) h ?_ fun f cdv A outer s H E hr nd hu hu1=> ?_;refine fn_okV (N:=["script", "great", "many", "cell", "pen", "web", "good", "things"]) h ?_ fun f cdv A outer s H E hr nd hu hu1=> ?_;refine qI (M:=["script", "great", "many", "cell", "pen", "web", "good", "things"]) (tgs:=["k"]) rfl ?_ ?_ ?_ ?_ ?_ nd rfl rfl;refine sx.ok (osc:=ac (top 34)) (N:=["script", "great", "many", "cell", "pen", "web", "good", "things"]) ?_;refine c_sl11 oJ os_s11 ?_;skip))
private def tb(k:Nat)(i:Lean.Ident):Lean.MacroM (Lean.TSyntax `tactic):=match k with | 0 => `(tactic| with_reducible apply $i) | 1 => `(tactic| exact $i) | 2 => `(tactic| refine $i ?_) | 3 => `(tactic| refine $i ?_ ?_) | 4 => `(tactic| refine $i ?_ ?_ ?_) | 5 => `(tactic| exact $i _) | 6 => `(tactic| apply $i) | 7 => `(tactic| intro $i:ident) | 8 => `(tactic| refine pB pi $i hr (by decide) (by rfl) ?_) | _ => `(tactic| refine pB ph $i hr (by decide) (by rfl) ?_)
private def tc:Array (Nat×Lean.Name) := #[(1,`rfl),(2,`cb_ex),(0,`r_nilA),(1,`ca_nil),(5,`vb),(0,`r_exM),(2,`xQ),(0,`xW),(0,`r_opT),(0,`r_nil),(0,`r_ifT),(0,`r_nilM),(2,`c_lst),(0,`r_ifF),(0,`r_op),(3,`s_cons),(0,`r_call),(1,`c_non),(5,`v),(6,`Eq.trans),(0,`r_c),(0,`r_tup),(1,`h),(0,`r_ret),(0,`cw),(0,`r_orF),(0,`r_set),(0,`r_lst),(3,`b_ix),(1,`s_nil),(2,`c_tup),(0,`v7),(3,`w_or),(9,`G4),(0,`r_orT),(1,`e2),(0,`r_for),(3,`yy),(2,`w_or1),(8,`G4),(0,`h),(0,`r_varF),(0,`r_seqX),(1,`gi),(1,`ra),(1,`gl),(1,`gx),(3,`b_mod),(3,`b_add),(1,`c_bl),(2,`i_seq),(0,`v3),(1,`al),(0,`sX),(1,`rb),(0,`vX),(0,`ex_seq),(2,`yu),(4,`s_if),(1,`c_int),(0,`r_dnew),(1,`z),(1,`w),(0,`r_attr),(1,`gs),(0,`r_expr),(0,`vW),(6,`el_mk),(0,`sY),(0,`xN),(0,`le),(9,`G8),(2,`s_expr),(2,`b_neg),(1,`c_str),(0,`r_notV),(0,`cW),(0,`r_seqI),(0,`vY),(0,`r_fnX),(1,`e),(0,`wh),(1,`gr),(1,`ix),(0,`oN),(1,`e1),(3,`xt),(3,`b_mul),(3,`b_fdiv),(3,`t_gt),(8,`G7),(9,`G7),(0,`r_comp),(0,`xc),(0,`tm),(0,`r_forX),(0,`r_enum),(0,`v6),(0,`r_kind),(0,`sW),(1,`hl2),(1,`a),(1,`ne),(1,`p1),(0,`p0),(1,`w1),(0,`r_andT),(0,`gMul_l),(1,`gL),(1,`gS),(1,`r1),(1,`r2),(1,`r3),(1,`g6),(2,`yw),(3,`t_lt),(3,`b_sub),(3,`b_pow),(8,`G5),(2,`JW.t),(8,`G14),(1,`xu),(2,`c_rev),(3,`g_cons),(9,`G15),(9,`G10),(0,`r_fn),(0,`r_borA),(0,`v5),(0,`r_not),(0,`r_tru),(0,`v4),(1,`mn),(1,`mx),(6,`lp_mk),(1,`up),(1,`sr),(1,`tm),(0,`v8),(0,`r_tryX),(0,`vZ),(1,`hx),(0,`r_retF),(0,`vU),(0,`r_setX),(0,`r_tryN),(0,`tr),(0,`oO),(0,`ga),(0,`s2),(0,`ii),(1,`ge),(0,`w0),(1,`gn),(1,`ln),(1,`td),(1,`pa),(1,`ua),(1,`e'),(0,`r_retO),(0,`gr),(1,`g2),(1,`a0),(1,`c1),(1,`a1),(1,`c2),(1,`a2),(0,`r_andF),(0,`w8),(0,`xa),(0,`vV),(0,`tPen),(0,`r_varO),(1,`e3),(0,`ex_one),(1,`e4),(0,`pS),(0,`l0),(0,`jP),(1,`c),(1,`ga),(1,`t),(0,`tCell0),(0,`nS),(0,`pb),(2,`xP),(3,`q_ge),(8,`G2),(2,`k_not),(2,`k_tru),(3,`w_and),(2,`w_and1),(3,`vR),(9,`G1),(8,`G6),(1,`g_nil),(8,`G3),(3,`t_is),(3,`t_ge),(8,`G16),(3,`vH),(8,`G8),(9,`G12),(9,`G9),(9,`G11),(9,`G13)]
private def xg(q:Array Lean.Syntax):List Nat->Lean.MacroM (Array (Lean.TSyntax `tactic))
 | []=>return #[]
 | i::l=>do let a <- (match tc[i]? with | some (k,n)=>tb k (Lean.mkIdent n) | none=>pure ⟨q.getD (2 * (i - tc.size)) .missing⟩);let b <- xg q l;return #[a]++b
local macro_rules
 | `(tactic| trace $s:str)=>do
  let q <- ta
  let a <- xg q.raw[1][0][0].getArgs (s.getString.toList.flatMap (xp #["$!", "!!", "!Ʀ", "#č", "_P", "д%", "Ĩ#", "P!", "ЉP", "(Ƌ", "1ƶ", "", "sP", ":<", ")6", "Q!", "'к", "'6", "Ơč", "!W", ":/", "W!", "sр", "ƎƏ#", "0s", "и2", "&#", ";*", "s_", "дU", "QQ", "ыTт", "#с", "cơ", "ő!", "b-", "96`", "ǖ+", "!*", "Š!", "R^", "'7", "Ђф", "Ơ@", "жį!", "&S", "!Ǚ", "0)", "1Č", "Д9", "'0", "lх", "Д^", "ц%", "ч?", ")i", "ƤƤ", "2g", "Ơ4", "iW", "Ğ,", "-`", "QƦ", "шşR", "bt", "Ă#", "5ŐƳ", "л*щ", "K`", "iP", "D*", "ŘƩ", "R:", "ЃŜ", "пт", "ƣZ", "дV", "ЌƠ", "Т%", "ĨS", "Vс", "Дe", "ия", "вJг", "}аƴ", "řƦ", "ѐъ+", "-!", ")=", "Ё=", "&&", "Ƭ?", "#ё", "Hh", "}$", "ǜU", "ŕƩЋ", "!Ǖ", "Ĩ&", "œŔ", "ЉT", "ЉW", "е)", "_$", "K!", ";езW", "jа", "Ės", "iр", "Ėg", "sW", ">~", "ėЊЀ", "зйƫ", "ŉB", "}XĤ$", "дС", "Yă", "<о", "у!", "мģd", ")н", "лlщ", "Įğ", "ь;", "Ёэ", "юъ", "бS"] 99))
  `(tactic| ($[$a];*))
set_option compiler.extract_closed true
set_option hygiene true
namespace K02
open PySem L2 PyProof.Rows
def top(i:Nat):Stmt:=PySem.Challenge.pw_tienumbers_k02_webs_made.main.body.getD i (.Pass ⟨0,0,0,0⟩)
def nms:List Str:=["NoWeb"]
def bK:List Str:=["NoWeb"]
structure Txt(K:A9)(mg:Str->Option Value):Prop where
 ValueError:mg "ValueError" = none
 all:mg "all" = none
 bool:mg "bool" = none
 enumerate:mg "enumerate" = none
 int:mg "int" = none
 isi:mg "isinstance" = none
 len:mg "len" = none
 list:mg "list" = none
 max:mg "max" = none
 min:mg "min" = none
 range:mg "range" = none
 sorted:mg "sorted" = none
 tuple:mg "tuple" = none
 MOST_PLACES:∃ t,mg "MOST_PLACES" = some (.int 40 t)
 MOST_TIES:∃ t,mg "MOST_TIES" = some (.int 60 t)
section
variable{P:Program}{w:World}{K:A9}{mg:Str->Option Value}{base:Heap}
def ig:Stmt:=iniOf (top 7)
theorem qH:bz ["self", "number"] ["self", "number"] (ac ig):=⟨rfl,rfl,rfl,by decide +kernel,rfl,by decide +kernel,by decide +kernel⟩
theorem lS{fI C Tq:Addr}{fd:FuncData}(F:Fun K "__init__" "NoWeb.__init__" ig fI fd)(T0:IniT K mg Tq)(kc:sw base C Tq)(kf:XK.pK K C Tq)(tk0:PySem.W.takerIn K C "number" = some none):gp P w K mg base (CXr P w) 1 fI fd ["self", "number"] (spI C ["number"]):=wR F qH kc kf tk0 fun cdv A outer s H E=>cY (lP (pe_ini T0 (by rfl) (av (pv 0) (av (pv 1) bX)))) (iX (we (pv 0) (pv 1)))
noncomputable def bT:SS:=(bh (cu (sOp (fq "int") [.bor 0]) (eh (sOp (fq "bool") [.bor 0]))))
noncomputable def bd:FS:=aJ 1 1 none bT
abbrev jZ:=OkY "is_whole" ["thing"] 1 none bd
theorem nt(h:Has K mg "is_whole" (top 12) ["thing"])(T:Txt K mg):jZ P w K mg base:=by
 trace "ǃƣYGǄ&ċńǅ&"
abbrev e9:=OkY "_law_cell_at" ["script", "k"] 1 none aV
theorem iO(h:Has K mg "_law_cell_at" (top 22) ["script", "k"])(T:Txt K mg):e9 P w K mg base:=by
 trace "ǛƣЂŅkбY>Ь?Yč"
abbrev iJ:=OkY "_law_next" ["seed"] 1 none cJ
theorem lT(h:Has K mg "_law_next" (top 23) ["seed"])(T:Txt K mg):iJ P w K mg base:=by
 trace "ǝНā#Ă~SYā#ГГĩ&kĩS~S"
abbrev fH:=OkY "_law_pen_of" ["cell"] 1 none bu
theorem jv(h:Has K mg "_law_pen_of" (top 24) ["cell"])(T:Txt K mg):fH P w K mg base:=by
 trace "ǞНƻОņS&%Y.ПǟVƌkŇSS%Ơā~ơ"
noncomputable def dM:SS:=(bh (cu (sOp (fq "int") [.bor 0]) (eh (sOp (fq "bool") [.bor 0]))))
noncomputable def aw:FS:=aJ 1 1 none dM
abbrev dY:=OkY "_law_whole" ["found"] 1 none aw
theorem ko(h:Has K mg "_law_whole" (top 26) ["found"])(T:Txt K mg):dY P w K mg base:=by
 trace "ǠƣYGǄ&ċńǅ&"
theorem jh:bz ["found"] ["found"] (ac (top 26)):=⟨rfl,rfl,rfl,by decide +kernel,rfl,by decide +kernel,by decide +kernel⟩
theorem jw(h:Has K mg "_law_whole" (top 26) ["found"])(T:Txt K mg):OkA P w K mg base "_law_whole" ["found"] 1 (spA K aw):=fn_okA h jh (fun f cdv A outer s H E hr=>(xQ (xP (yy (lw (vb 0) T.isi T.int) (yu (yw (jV (vb 0) T.isi T.bool)))))))
theorem nQ(m:Int):aw [.int m]=some (.ok (.bl true) false,.non):=rfl
open L2.Kd in
theorem lH:bz ["e", "marks", "words"] ["e"] (ac (top 28)):=⟨rfl,rfl,rfl,by decide +kernel,rfl,by decide +kernel,by decide +kernel⟩
open L2.Kd in
theorem wE(h:Has K mg "_law_kind_of" (top 28) ["e"])(T:Txt K mg):OkA P w K mg base "_law_kind_of" ["e"] 1 (lF K mg):=by
 refine h.okA lH (fun vs H Q E h=> ?_) (fun f cdv A outer s H vs Q E hr h=> ?_)
 ·obtain ⟨ea,C,dx,j,rfl,_⟩:=h;rfl
 ·obtain ⟨ea,C,dx,j,rfl,hH,kd,q⟩:=h
  obtain ⟨c0,m0,k0⟩:=kd.k0;obtain ⟨c1,m1,k1⟩:=kd.k1;obtain ⟨c2,m2,k2⟩:=kd.k2;obtain ⟨c3,m3,k3⟩:=kd.k3;obtain ⟨c4,m4,k4⟩:=kd.k4;obtain ⟨c5,m5,k5⟩:=kd.k5;obtain ⟨c6,m6,k6⟩:=kd.k6;obtain ⟨c7,m7,k7⟩:=kd.k7;obtain ⟨c8,m8,k8⟩:=kd.k8
  refine ⟨_,cY (lN (i:=1) lH.nd rfl (Or.inl rfl) (lQ (av (isx T.isi m0 (pv 0) (by rfl) (by rfl)) (av (isx T.isi m1 (pv 0) (by rfl) (by rfl)) (av (isx T.isi m2 (pv 0) (by rfl) (by rfl)) (av (isx T.isi m3 (pv 0) (by rfl) (by rfl)) bX))))))
   (cY (lN (i:=1) lH.nd rfl (Or.inl rfl) (ye ug (pv 1) (lQ (av (isx T.isi m4 (pv 0) (by rfl) (by rfl)) (av (isx T.isi m5 (pv 0) (by rfl) (by rfl)) (av (isx T.isi m6 (pv 0) (by rfl) (by rfl)) (av (isx T.isi m7 (pv 0) (by rfl) (by rfl)) bX)))))))
   (cY (lP (qb AC PySem.F.slot_list_append PySem.F.type_list_append kO (pv 1) (av (isx T.isi m8 (pv 0) (by rfl) (by rfl)) bX)))
   (cY (yb (PW.pt (ya (tJ (pt_val (isxV T.isi T.ValueError (pv 0) (by rfl) (by rfl)))) (tF (p5 op_ne (qb AC PySem.F.slot_list_count PySem.F.type_list_count uo (pv 1) (av tZ bX)) js (dz _))))) (iX (lO da)) p6)
   (cY (lN (i:=2) lH.nd rfl (Or.inl rfl) (lQ (av da (av da (av da (av da (av da (av da (av da (av da (av da bX)))))))))))
   (iX (lO (yf qi (pv 2) (qb AC PySem.F.slot_list_index PySem.F.type_list_index um (pv 1) (av tZ bX)) (fun _ _=>rfl)))))))),?_⟩
  refine ⟨_,rfl,ea,C,dx,.ref c0,.ref c0,_,rfl,hH,kd.exk,rfl,k0,_,rfl,ea,C,dx,.ref c1,.ref c1,_,rfl,hH,kd.exk,rfl,k1,_,rfl,ea,C,dx,.ref c2,.ref c2,_,rfl,hH,kd.exk,rfl,k2,_,rfl,ea,C,dx,.ref c3,.ref c3,_,rfl,hH,kd.exk,rfl,k3,by show 4<=sizeLine;decide,fun l1 hl1=> ?_⟩;have s1:=af.upd (o:= .lst [.bl (decide (0=j)),.bl (decide (1=j)),.bl (decide (2=j)),.bl (decide (3=j))]) hl1;have h1:=s1 _ _ hH;refine ⟨_,rfl,_,rfl,ea,C,dx,.ref c4,.ref c4,_,rfl,h1,kd.exk,rfl,k4,_,rfl,ea,C,dx,.ref c5,.ref c5,_,rfl,h1,kd.exk,rfl,k5,_,rfl,ea,C,dx,.ref c6,.ref c6,_,rfl,h1,kd.exk,rfl,k6,_,rfl,ea,C,dx,.ref c7,.ref c7,_,rfl,h1,kd.exk,rfl,k7,by show 4<=sizeLine;decide,fun l2 hl2=> ?_⟩;have s2:=s1.trans (af.upd (o:= .lst [.bl (decide (4=j)),.bl (decide (5=j)),.bl (decide (6=j)),.bl (decide (7=j))]) hl2);refine ⟨l1,l2,_,_,rfl,rfl,af.upd hl2 _ _ ai,ai,zT (cb (by show 4+4<=1000;decide)),fun l3 hl3=> ?_⟩;have s3:=s2.trans (af.upd (o:= .lst ([.bl (decide (0=j)),.bl (decide (1=j)),.bl (decide (2=j)),.bl (decide (3=j))]++[.bl (decide (4=j)),.bl (decide (5=j)),.bl (decide (6=j)),.bl (decide (7=j))])) hl3);have nl3:H l3=none:=s2.free hl3;refine ⟨_,rfl,.inl ⟨rfl,_,.inl (.inl ai)⟩,_,rfl,ea,C,dx,.ref c8,.ref c8,_,rfl,s3 _ _ hH,kd.exk,rfl,k8,l3,_,_,rfl,rfl,ai,cb (by show 8<=1000;decide),?_⟩;rw [vy];have s4:af H (upd (upd (upd H l1 (.lst [.bl (decide (0=j)),.bl (decide (1=j)),.bl (decide (2=j)),.bl (decide (3=j))])) l2 (.lst [.bl (decide (4=j)),.bl (decide (5=j)),.bl (decide (6=j)),.bl (decide (7=j))])) l3 (.lst (dP j))):=s2.trans (af.upd hl3)
  refine ⟨_,rfl,ea,C,dx,.ty "ValueError",.type "ValueError",_,rfl,s4 _ _ hH,kd.exk,rfl,kd.ve,_,rfl,iteF ⟨_,rfl,.inl ⟨rfl,_,.inl (.inl ai)⟩,l3,dP j,.bl true,rfl,rfl,ai,rfl,jD j,rfl,_,rfl,?_⟩⟩;rw [rn j kd.lt]
  refine iteB (fun c=>absurd c (by decide)) fun _=> ?_
  refine ⟨by show 9<=sizeLine;decide,fun l5 hl5=> ?_⟩;refine ⟨_,rfl,_,rfl,.inl ⟨rfl,_,.inl (.inl (af.upd hl5 _ _ ai))⟩,l3,dP j,.bl true,j,rfl,rfl,af.upd hl5 _ _ ai,rfl,jD j,ut j kd.lt,ur j kd.lt,l5,_,_,_,rfl,rfl,.inl (.inl ai),sB kd.lt,q _ (s4.trans (af.upd hl5))⟩
noncomputable def ck:SS:=(bh (cu (ar none none bd [.bor 0]) (cO gLe gLe (bn 1) (bn 0) (bn 2))))
noncomputable def aM:FS:=aJ 3 3 none ck
abbrev dg:=OkY "whole_within" ["thing", "least", "most"] 2 none aM
theorem iM(h:Has K mg "whole_within" (top 13) ["thing", "least", "most"])(T:Txt K mg)(G2:jZ P w K mg base):dg P w K mg base:=by
 trace "ǡƣYGƍUċǢ444"
abbrev cK:=OkY "_law_draw" ["pen", "many"] 2 (some 0) ak
theorem lU(h:Has K mg "_law_draw" (top 25) ["pen", "many"])(T:Txt K mg)(G5:iJ P w K mg base):cK P w K mg base:=by
 trace "ǣƣЂƷqSZāq&1ǆĪq&čƬ(ƭЭ1ǆňVГňРS%čƬYā#ĪqS&"
noncomputable def aa:SS:=(aB (aZ 4 (sOp gIx [.bor 1,.bor 3])) (aB (bB (sOr (cq (cp (.ex (sOp (fq "tuple") [.bor 4])))) (sOr (ba gNe [.ex (sOp di [.bor 4]),.ex (sC (.int 2))]) (sOr (cq (cp (.ex (ar none none aw [.ex (sOp gIx [.bor 4,.ex (sC (.int 0))])])))) (cq (cp (.ex (ar none none aw [.ex (sOp gIx [.bor 4,.ex (sC (.int 1))])]))))))) (cF 3) bV) (aB (bB (sOr (ba dX [.ex (sOp gIx [.bor 4,.ex (sC (.int 0))]),.ex (sOp gf [.bor 0])]) (sOr (ba dX [.ex (sOp gIx [.bor 4,.ex (sC (.int 1))]),.ex (sOp gf [.bor 0])]) (ba gEq [.ex (sOp gIx [.bor 4,.ex (sC (.int 0))]),.ex (sOp gIx [.bor 4,.ex (sC (.int 1))])]))) (cF 3) bV) (aB (bB (sOr (ba gIn [.ex (sOp bF [.bor 4]),.bor 2]) (ba gEq [.ex (sOp di [.bor 2]),.ex (sC (.int 60))])) (cF 3) bV) (cQ (cG 2 ci [(sOp bF [.bor 4])]))))))
noncomputable def bU:SS:=(aB (aZ 2 (bW [])) (aB (fR (cP (.ex (sOp di [.bor 1]))) (.nm 3) aa) (bh (sC .non))))
noncomputable def au:FS:=aJ 2 5 none bU
abbrev dh:=OkY "_law_first_amiss" ["many", "things"] 2 none au
theorem fm(h:Has K mg "_law_first_amiss" (top 31) ["many", "things"])(T:Txt K mg)(G8:dY P w K mg base):dh P w K mg base:=by
 trace "ǤН.ơ1ƮƼVб%ƨZ>Ь{hƯ&BƧЮBhęРЯęР(ƭЭ{Ǉq#ǈUBǇq#ǈUHƷqq(ƭЭ{ǉ#ƪU&HƷЮ(ƭЭ(ĚƽƪUY3"
noncomputable def eI:SS:=(bh (ar none none aM [.bor 0,.ex (sC (.int 1)),.ex (sC (.int 40))]))
noncomputable def bI:FS:=aJ 1 1 none eI
abbrev iI:=OkY "many_good" ["thing"] 3 none bI
theorem lR(h:Has K mg "many_good" (top 17) ["thing"])(T:Txt K mg)(G14:dg P w K mg base):iI P w K mg base:=by
 trace "ǃƣYŊцVǥ%"
noncomputable def fQ:SS:=(bh (ar none none aM [.bor 1,.ex (sC (.int 0)),.ex (sOp lc [.bor 0,.ex (sC (.int 1))])]))
noncomputable def cB:FS:=aJ 2 2 none fQ
abbrev ka:=OkY "is_place" ["many", "thing"] 3 none cB
theorem nu(h:Has K mg "is_place" (top 19) ["many", "thing"])(T:Txt K mg)(G14:dg P w K mg base):ka P w K mg base:=by
 trace "ǊƣYŊцVņ~%"
noncomputable def bq:SS:=(bB (ba gGt [.ex (ar (some 0) (some 0) ak [.bor 0,.ex (sC (.int 8))]),.ex (sC (.int 0))]) (cH iq 3 (sC (.bl true)) (cn [(ar (some 0) (some 0) ak [.bor 0,.bor 4]),(bn 4)])) bV)
noncomputable def bb:SS:=(aB (aZ 6 (ar (some 0) (some 0) ak [.bor 0,.bor 2])) (aB (aZ 7 (ar (some 0) (some 0) ak [.bor 0,.bor 2])) (bB (hG (ba gNe [.bor 6,.bor 7]) (ba gLt [.ex (sOp di [.bor 3]),.ex (sC (.int 60))])) (cH iq 3 (sC (.bl true)) (cn [(sOp jO [.bor 6,.bor 7]),(sOp gK [.bor 6,.bor 7])])) bV)))
noncomputable def dw:SS:=(aB (aZ 2 (sOp cz [.ex (sC (.int 1)),.ex (ar (some 0) (some 0) ak [.bor 0,.bor 1])])) (aB (aZ 3 (pQ (.dT [] []))) (aB (bB (ba gGt [.ex (ar (some 0) (some 0) ak [.bor 0,.ex (sC (.int 3))]),.ex (sC (.int 0))]) (fR (dZ (.ex (sC (.int 1))) (.bor 2)) (.nm 4) bq) bV) (aB (fR (cP (.ex (sOp gIx [.ex (bW [(sC (.int 0)),(sC (.int 3)),(bn 2),(sOp nV [.ex (sC (.int 2)),.bor 2])]),.ex (ar (some 0) (some 0) ak [.bor 0,.ex (sC (.int 4))])]))) (.nm 5) bb) (bh (cn [(bn 2),(sOp gb [.ex (sOp bF [.ex (sOp dB [.bor 3])])])]))))))
noncomputable def bP:FS:=aJ 2 8 (some 0) dw
abbrev fF:=OkY "_law_web_by" ["pen", "most"] 3 (some 0) bP
theorem jt(h:Has K mg "_law_web_by" (top 27) ["pen", "most"])(T:Txt K mg)(G4:cK P w K mg base):fF P w K mg base:=by
 trace "ǦНĂS#InZŋЂī#IЇS(ƮǧСUƨ(Čī#CЇS(ƾă@ƠCnЌơЭ?1ƮƼV>#.ccПĩS&ơ#CЇ%ƨZCnZCn(ČŉƐƧЬƑŅЮ(ƾă@ƠǋnƠƻnơЭY@ПƸVƪVƿU%%ơ"
noncomputable def bf:SS:=(aB (aZ 4 (cG 2 gZ [(ar (some 0) (some 1) ak [.bor 1,.ex (sOp di [.bor 2])])])) (cQ (cG 3 ci [(sOp gIx [.ex (bW [(bn 4),(sOp nU [.bor 4])]),.ex (ar (some 0) (some 1) ak [.bor 1,.ex (sC (.int 2))])])])))
noncomputable def eJ:SS:=(aB (aZ 2 (sOp dB [.ex (sOp gIx [.bor 0,.ex (sC (.int 1))])])) (aB (aZ 3 (bW [])) (aB (cm 100 (ba gNe [.bor 2,.ex (bW [])]) bf) (cF 3))))
noncomputable def cy:FS:=aJ 2 5 (some 1) eJ
abbrev e8:=OkY "_law_list_by" ["web", "pen"] 3 (some 1) cy
theorem iN(h:Has K mg "_law_list_by" (top 29) ["web", "pen"])(T:Txt K mg)(G4:cK P w K mg base):e8 P w K mg base:=by
 trace "ǨНƿРZ.ơ1ƒƧk.ơZǩCОб%(Ěƽ>#.ПŌ&ơ#CЇ(ƭƬ"
noncomputable def fA:SS:=(aB (aZ 3 (ar (some 0) (some 2) ak [.bor 2,.ex (sOp cz [.ex (sOp di [.bor 0]),.ex (sC (.int 1))])])) (aB (aZ 4 (cn [(sC (.int 0)),(bn 1)])) (aB (bB (ba gGt [.ex (sOp di [.bor 0]),.ex (sC (.int 0))]) (aZ 4 (sOp gIx [.ex (sOp gIx [.ex (bW [(bn 0),(cr 1 (cE (bn 0)) (.nm 6) none (sOp nU [.bor 6]))]),.ex (ar (some 0) (some 2) ak [.bor 2,.ex (sC (.int 2))])]),.ex (ar (some 0) (some 2) ak [.bor 2,.ex (sOp di [.bor 0])])])) bV) (aB (aZ 5 (bW [(bn 4),(bn 4),(cn [(sC (.int 0)),(sC (.int 0))]),(cn [(bn 1),(sC (.int 0))]),(cn [(sC (.int 0)),(bn 1)]),(cn [(sOp o8 [.ex (sC (.int 1))]),(sC (.int 0))]),(cn [(sC (.bl true)),(sC (.int 0))]),(cn [(sC (.int 0)),(sC .non)]),(cn [(sC (.int 0))])])) (aB (aZ 5 (sOp cz [.bor 5,.ex (bW [(cn [(sC (.int 0)),(sC (.int 1)),(sC (.int 2))]),(bW [(sC (.int 0)),(sC (.int 1))]),(sC .non),(sC (.int 0)),(sC (.str "01"))])])) (bh (sOp cz [.ex (sOp cz [.ex (sOp o7 [.bor 0,.bor 3]),.ex (bW [(sOp gIx [.bor 5,.ex (ar (some 0) (some 2) ak [.bor 2,.ex (sC (.int 14))])])])]),.ex (sOp wX [.bor 0,.ex (sOp cz [.bor 3,.ex (ar (some 0) (some 2) ak [.bor 2,.ex (sC (.int 2))])])])])))))))
noncomputable def bQ:FS:=aJ 3 6 (some 2) fA
abbrev fG:=OkY "_law_spoilt" ["things", "many", "pen"] 3 (some 2) bQ
theorem ju(h:Has K mg "_law_spoilt" (top 30) ["things", "many", "pen"])(T:Txt K mg)(G4:cK P w K mg base):fG P w K mg base:=by
 trace "ǪНIОГё%Z@cЌơЂīЮ(ƶ>#>#.ПǫǬưĄ4ƢƱƢƲƢŌ&ơ#IЇ#IОб%?Z.ЌЌ|cr|Ќr|cЌơ|ƠěSr|Ơăr|cƠ3ơ|rơZĂk.|ccrƠ.crƠ3cƠĜơYГГǀ&k.Ơ>kIЇơ#ǭkĂkIЇ"
noncomputable def bj:SS:=(aB (bB (sOr (cq (cp (.ex (sOp (fq "tuple") [.bor 1])))) (ba gNe [.ex (sOp di [.bor 1]),.ex (sC (.int 2))])) (bh (sC .non)) bV) (aB (bB (sOr (cq (cp (.ex (sOp iQ [.ex (cr 1 (cE (bn 1)) (.nm 2) none (ar none none cB [.bor 0,.bor 2]))])))) (ba gEq [.ex (sOp gIx [.bor 1,.ex (sC (.int 0))]),.ex (sOp gIx [.bor 1,.ex (sC (.int 1))])])) (bh (sC .non)) bV) (bh (cn [(sOp jO [.bor 1]),(sOp gK [.bor 1])]))))
noncomputable def am:FS:=aJ 2 2 none bj
abbrev jY:=OkY "tie_told" ["many", "thing"] 4 none am
theorem nr(h:Has K mg "tie_told" (top 18) ["many", "thing"])(T:Txt K mg)(G1:ka P w K mg base):jY P w K mg base:=by
 trace "Ǌƣ{hƯ&HƧЮY3?{hǌVǮǯưĄ4ƢƱƢƲƢƓn%HƷqqY3?Y@ƠǋUƠƻUơ"
noncomputable def aO:SS:=(aB (aZ 5 (ar none none am [.bor 0,.bor 4])) (aB (bB (sOr (ba gIs [.bor 5,.ex (sC .non)]) (sOr (ba gIn [.bor 5,.bor 2]) (ba gGe [.bor 3,.ex (sC (.int 60))]))) (fg "NoWeb" ["number"] [(bn 3)]) bV) (cH iq 2 (sC (.bl true)) (bn 5))))
noncomputable def eG:SS:=(aB (bB (cq (cp (.ex (ar none none bI [.bor 0])))) (fg "NoWeb" ["number"] [(sOp o8 [.ex (sC (.int 1))])]) bV) (aB (aZ 2 (pQ (.dT [] []))) (aB (mW (eL (bn 1)) (.tp [(.nm 3),(.nm 4)]) aO) (bh (cn [(bn 0),(sOp gb [.ex (sOp bF [.bor 2])])])))))
noncomputable def aU:FS:=aJ 2 6 none eG
abbrev jX:=OkY "web_of" ["many", "things"] 5 none aU
theorem rh(h:Has K mg "web_of" (top 20) ["many", "things"])(T:Txt K mg)(G6:iI P w K mg base)(G3:jY P w K mg base)(OF_NoWeb:xF P w K mg base "NoWeb" ["number"] 1):jX P w K mg base:=by
 trace "ǰƣЂhƔU(ǍƠěSơ?Zŋ1Ǳǲ4ǳōƨōƨƕZƖn{Ɨk3BǉЬHƘkǴ(ǍЌơ?(ƾă4ƬY@ПƸVƪU%ơ"
noncomputable def dN:SS:=(aB (aZ 2 (sOp dB [.bor 1])) (aB (aZ 3 (ar none none au [.bor 0,.bor 1])) (aB (aZ 4 (sC .non)) (aB (aZ 5 (sC .non)) (aB (kl nms 6 (aZ 4 (ar none none aU [.bor 0,.bor 2])) (aB (bB (sOr (ba gNe [.ex (Kd.kI nms 6),.ex (sC (.str "web"))]) (cq (cp (.ex (ff bK 6 "number"))))) (bh (sC (.bl false))) bV) (aZ 5 (eM bK 6 "number")))) (aB (bB (sOr (ba gNe [.bor 2,.bor 1]) (ba gNe [.bor 5,.bor 3])) (bh (sC (.bl false))) bV) (aB (cQ (cG 2 ci [(sC .non)])) (aB (bB (ba l7 [.bor 3,.ex (sC .non)]) (bh (sC (.bl true))) bV) (aB (bB (sOr (cq (cp (.ex (sOp (fq "tuple") [.bor 4])))) (sOr (ba gNe [.ex (sOp di [.bor 4]),.ex (sC (.int 2))]) (sOr (cq (cp (.ex (ar none none aw [.ex (sOp gIx [.bor 4,.ex (sC (.int 0))])])))) (cq (cp (.ex (sOp (fq "tuple") [.ex (sOp gIx [.bor 4,.ex (sC (.int 1))])]))))))) (bh (sC (.bl false))) bV) (aB (bB (cq (cp (.ex (sOp iQ [.ex (cr 1 (cE (sOp gIx [.bor 4,.ex (sC (.int 1))])) (.nm 7) none (cu (sOp (fq "tuple") [.bor 7]) (cu (ar none none aw [.ex (sOp gIx [.bor 7,.ex (sC (.int 0))])]) (ar none none aw [.ex (sOp gIx [.bor 7,.ex (sC (.int 1))])]))))])))) (bh (sC (.bl false))) bV) (bh (sOp gEq [.bor 4,.ex (cn [(bn 0),(sOp gb [.ex (sOp bF [.ex (cr 1 (cE (bn 1)) (.nm 7) none (sOp gb [.ex (sOp bF [.bor 7])]))])])])]))))))))))))
noncomputable def aA:FS:=aJ 2 7 none dN
abbrev gR:=OkY "_law_right" ["many", "things"] 6 none aA
theorem kq(h:Has K mg "_law_right" (top 32) ["many", "things"])(T:Txt K mg)(G16:dh P w K mg base)(G0:jX P w K mg base)(G8:dY P w K mg base)(FK_number:sv K bK "number")(GW:OkA P w K mg base "_law_whole" ["found"] 1 (spA K aw)){TEa:Addr}(HT:Hdl K mg "TieError" TEa)(SU:∀ nm,nms.elem nm=true->∀ C,og K nm C->PySem.W.subIn K (.ref C) (.ref TEa)=some true)(GK:OkA P w K mg base "_law_kind_of" ["e"] 1 (Kd.lF K mg))(KN:Kd.qB K mg nms):gR P w K mg base:=by
 trace "ǵНƿUZƙnZ3Z31ǎƢ(ƶǏnƢ{Ƨ#ǐ#ĜЯǑЈ(ƶǒ{ƧЬHƧЬЈ1Ěƽ3Ђƚk3Ј{hƯ&BƧЮBhƛРЯƯqЈЂhǌVǓǔưĄсƢƱƢƲƢGƯ&GęРċęР%ЈYǁk@ПƸVƪVǓǔưĄ4ƢƱƢƲƢƸVƪU%%%ơ"
noncomputable def dG:SS:=(aB (kl nms 2 (cQ (ar none none aU [.bor 0,.bor 1])) (bh (cu (sOp gEq [.ex (Kd.kI nms 2),.ex (sC (.str "web"))]) (cu (ff bK 2 "number") (sOp gEq [.ex (eM bK 2 "number"),.ex (sOp o8 [.ex (sC (.int 1))])]))))) (bh (sC (.bl false))))
noncomputable def aP:FS:=aJ 2 3 none dG
abbrev dJ:=OkY "_law_no_number" ["many", "things"] 6 none aP
theorem gB(h:Has K mg "_law_no_number" (top 33) ["many", "things"])(T:Txt K mg)(G0:jX P w K mg base)(FK_number:sv K bK "number")(GW:OkA P w K mg base "_law_whole" ["found"] 1 (spA K aw)){TEa:Addr}(HT:Hdl K mg "TieError" TEa)(SU:∀ nm,nms.elem nm=true->∀ C,og K nm C->PySem.W.subIn K (.ref C) (.ref TEa)=some true)(GK:OkA P w K mg base "_law_kind_of" ["e"] 1 (Kd.lF K mg))(KN:Kd.qB K mg nms):dJ P w K mg base:=by
 trace "Ƕƣ1ǎƢ(ĚǏnƢYGǁ#ǐ#ĜGǑċǁ#ǒ#ěSч"
noncomputable def iU:SS:=(bB (sOr (cq (cp (.ex (ar none none aP [.bor 2,.ex (bW [(cn [(sC (.int 0)),(sC (.int 1))])])])))) (cq (cp (.ex (ar none none aP [.bor 2,.ex (bW [(sC .non)])]))))) (bh (sC (.bl false))) bV)
noncomputable def iT:SS:=(aB (aZ 4 (ar none none bu [.bor 3])) (aB (aZ 5 (ar (some 0) (some 4) bP [.bor 4,.ex (sOp gIx [.ex (bW [(sC (.int 4)),(sC (.int 12)),(sC (.int 40))]),.ex (ar (some 0) (some 4) ak [.bor 4,.ex (sC (.int 3))])])])) (aB (aZ 6 (ar (some 1) (some 4) cy [.bor 5,.bor 4])) (aB (bB (cq (cp (.ex (ar none none aA [.ex (sOp gIx [.bor 5,.ex (sC (.int 0))]),.bor 6])))) (bh (sC (.bl false))) bV) (aB (aZ 7 (ar (some 2) (some 4) bQ [.ex (bn 6),.ex (sOp gIx [.bor 5,.ex (sC (.int 0))]),.bor 4])) (bB (sOr (cq (cp (.ex (ar none none aA [.ex (sOp gIx [.bor 5,.ex (sC (.int 0))]),.bor 7])))) (cq (cp (.ex (ar none none aA [.ex (sOp gIx [.bor 5,.ex (sC (.int 0))]),.ex (ar (some 2) (some 4) bQ [.ex (bn 6),.ex (sOp gIx [.bor 5,.ex (sC (.int 0))]),.bor 4])]))))) (bh (sC (.bl false))) bV))))))
noncomputable def xR:SS:=(aB (aZ 1 (cr 1 (cP (.ex (sC (.int 66)))) (.nm 8) none (cn [(sOp gJ [.bor 8,.ex (sC (.int 7))]),(sOp cz [.ex (sC (.int 7)),.ex (sOp gM [.bor 8,.ex (sC (.int 7))])])]))) (aB (bB (sOr (cq (cp (.ex (ar none none aA [.ex (sC (.int 40)),.bor 1])))) (sOr (cq (cp (.ex (ar none none aA [.ex (sC (.int 40)),.ex (sOp o7 [.bor 1,.ex (sC (.int 60))])])))) (cq (cp (.ex (ar none none aA [.ex (sC (.int 40)),.ex (sOp cz [.ex (sOp o7 [.bor 1,.ex (sC (.int 60))]),.ex (bW [(sC .non)])])])))))) (bh (sC (.bl false))) bV) (aB (fR (cE (bW [(sC (.int 0)),(sC (.int 41)),(sOp o8 [.ex (sC (.int 1))]),(sC (.bl true)),(sC .non),(sC (.str "3")),(bW [(sC (.int 3))]),(cn [(sC (.int 3))]),(sOp rH [.ex (sC (.int 10)),.ex (sC (.int 30))])])) (.nm 2) iU) (aB (fR (cE (sOp cz [.ex (bW [(ar none none aV [.bor 0,.ex (sC (.int 0))])]),.ex (sOp (wW 1 5) [.bor 0])])) (.nm 3) iT) (bh (sC (.bl true)))))))
noncomputable def nX:FS:=aJ 1 8 none xR
theorem ok_law{f0:Addr}{fd0:FuncData}(h:Fun K "law" "law" (top 34) f0 fd0)(T:Txt K mg)(G7:gR P w K mg base)(G15:dJ P w K mg base)(G12:e9 P w K mg base)(G9:fH P w K mg base)(G11:fF P w K mg base)(G4:cK P w K mg base)(G13:e8 P w K mg base)(G10:fG P w K mg base):gp P w K mg base (CXr P w) 7 f0 fd0 ["script"] (spF K none nX):=by
 trace "Ƿƣ1ǸǹưƼС%ƢƱƢƲƢ@Ơā~ƠĂS#Ī~ơ{hĬСUBhĬСVǀ~%ЯĬСVГǀ~#.Ơ3ơ%Ј1ƮĄ.ccƠěSƠăƠ3ƠĜƠ.r|rƠŇSSơƨ(ČфhŎО.|crơ%ЯŎО.Ơ3ơ%Ј1ƮĄГ.ƠƜЇơ#Ǻ&ƨZƝUZƞО>#.ccr#CЇ%ZƟnЂhĭТUЈZŏV4ТU(ČфhĭТUЯĭТVŏV4ТU%Јч"
end
end K02
namespace K02
open PySem L2
theorem eE{i:Int}:aw [.int i]=some (.ok (.bl true) false,.non):=nQ i
theorem vF{i:Int}:bd [.int i]=some (.ok (.bl true) false,.non):=by
 unfold bd bT
 trace "ЃAifĝЍ`"
theorem mR{i lo hi:Int}:aM [.int i,.int lo,.int hi]=some (.ok (.bl (decide (lo<=i)&&decide (i<=hi))) false,.non):=by
 have h := @vF;unfold aM ck
 trace "ЃA2]JQŒ)к)кPKQ`"
theorem sI{n:Int}:bI [.int n]=some (.ok (.bl (decide (1<=n)&&decide (n<=40))) false,.non):=by
 have h := @mR;unfold bI eI
 trace "Ѓ2mTJo"
theorem lC{n i:Int}:cB [.int n,.int i]=some (.ok (.bl (decide (0<=i)&&decide (i<=n - 1))) false,.non):=by
 have h := @mR;unfold cB fQ
 trace "Ѓ2mЉ_WPJo"
def tk(n a b:Int):Option (Int×Int):=if 0<=a/\a<=n - 1/\0<=b/\b<=n - 1/\a≠b then some (min a b,max a b) else none
def oD:Option (Int×Int)->D
 | some t=> .tup [.int t.1,.int t.2]
 | none=> .non
theorem t_told{n a b:Int}:am [.int n,.tup [.int a,.int b]]=some (.ok (oD (tk n a b)) false,.non):=by
 have h := @lC;unfold tk
 by_cases c:0<=a/\a<=n - 1/\0<=b/\b<=n - 1
 ·have al:iQ [.lst [.bl (decide (0<=a)&&decide (a<=n - 1)),.bl (decide (0<=b)&&decide (b<=n - 1))]]=some (.bl true,false):=by
   rw [yV c.1,yV c.2.1,yV c.2.2.1,yV c.2.2.2];rfl
  by_cases e:a=b
  ·rw [if_neg (fun z=>z.2.2.2.2 e)]
   show am _=some (.ok .non false,.non)
   unfold am bj
   trace "УЕ+Ў;ФЖХХą$ĆW*Цƥu"
  ·rw [if_pos ⟨c.1,c.2.1,c.2.2.1,c.2.2.2,e⟩]
   show am _=some (.ok (.tup [.int (min a b),.int (max a b)]) false,.non)
   have mn:jO [.tup [.int a,.int b]]=some (.int (min a b),false):=by
    show some (D.int (if a<=b then a else b),false)=_
    by_cases q:a<=b
    ·rw [if_pos q,Int.min_eq_left q]
    ·rw [if_neg q,Int.min_eq_right (by omega)]
   have mx:gK [.tup [.int a,.int b]]=some (.int (max a b),false):=by
    show some (D.int (if b<=a then a else b),false)=_
    by_cases q:b<=a
    ·rw [if_pos q,Int.max_eq_left q]
    ·rw [if_neg q,Int.max_eq_right (by omega)]
   unfold am bj
   trace "УЕ+e;ФЖХХą$ĆW*Цv97'ЗŖ'ЗŗЏ"
 ·rw [if_neg fun z=>c ⟨z.1,z.2.1,z.2.2.1,z.2.2.2.1⟩]
  show am _=some (.ok .non false,.non)
  have al:iQ [.lst [.bl (decide (0<=a)&&decide (a<=n - 1)),.bl (decide (0<=b)&&decide (b<=n - 1))]]=some (.bl false,false):=by
   have z:((decide (0<=a)&&decide (a<=n - 1))&&(decide (0<=b)&&decide (b<=n - 1)))=false:=by
    rw [Bool.eq_false_iff];intro y;simp only [yY,Aq] at y;exact c ⟨y.1.1,y.1.2,y.2.1,y.2.2⟩
   cases ha:(decide (0<=a)&&decide (a<=n - 1)) with
   | false=>rfl
   | true =>
    rw [ha,As] at z;rw [z];rfl
  unfold am bj
  trace "УЕ+ЎDФЖХХą$Ćfu"
def kT(t:Int×Int):List Key:=[.inl t.1,.inl t.2]
theorem jI{a b:Int×Int}(h:kT a=kT b):a=b:=by
 unfold kT at h;simp at h;exact Prod.ext h.1 h.2
theorem rA{ts:List (Int×Int)}{t:Int×Int}(h:t∉ts):∀ vs:List D,bO (ts.map kT) vs (kT t)=none:=by
 induction ts with
 | nil=>intro vs;cases vs<;>rfl
 | cons u ts ih =>
  intro vs
  cases vs with
  | nil=>rfl
  | cons v vs =>
   rw [yW];unfold bO;rw [if_neg (fun e=>h (by rw [jI e];exact yL))];exact ih (fun z=>h (yH _ z)) vs
theorem wb{ts:List (Int×Int)}{t:Int×Int}(h:t∉ts):eQ (ts.map kT) (List.replicate ts.length (.bl true)) (kT t) (.bl true)=((ts++[t]).map kT,List.replicate (ts++[t]).length (.bl true)):=by
 induction ts with
 | nil=>rfl
 | cons u ts ih =>
  rw [yW,yM,zD];unfold eQ;rw [if_neg (fun e=>h (by rw [jI e];exact yL)),ih fun z=>h (yH _ z)];rfl
theorem nL{ts:List (Int×Int)}(h:ts.Nodup):(ts.map kT).Nodup:=by
 induction ts with
 | nil=>exact AJ
 | cons u ts ih =>
  have h:=Ae.mp h;rw [yW];refine Ae.mpr ⟨fun z=> ?_,ih h.2⟩;obtain ⟨v,hv,e⟩:=Az.mp z;exact h.1 (by rw [<- jI e];exact hv)
theorem ux(ts:List (Int×Int)):kS (ts.map kT)=some (ts.map fun t=>[t.1,t.2]):=by
 induction ts with
 | nil=>rfl
 | cons u ts ih =>
  rw [yW];unfold kS;rw [ih];rfl
theorem qE{ts:List (Int×Int)}(h:ts.length < 64){vs:List D}:bF [.dT (ts.map kT) vs]=some (.lst (tD (cZ ts)),true):=by
 unfold bF;simp only [ux,yF,h,decide_true,if_true];rw [<- jo,oH]
end K02
namespace K02
open PySem L2
def tt(m:Int):D->Option (Int×Int)
 | .tup [.int a,.int b]=>tk m a b
 | _=>none
def Kn(m:Int)(d:D):Prop:=am [.int m,d]=some (.ok (oD (tt m d)) false,.non)
theorem wL{m a b:Int}:Kn m (.tup [.int a,.int b]):=t_told
def FA(m:Int):List (Int×Int)->Nat->List D->Nat ⊕ List (Int×Int)
 | seen,_,[]=> .inr seen
 | seen,k,d::ds=>match tt m d with
  | none=> .inl k
  | some t=>if t∈seen\/60<=k then .inl k else FA m (seen++[t]) (k+1) ds
abbrev tlD(ts:List (Int×Int)):D:= .dT (ts.map kT) (List.replicate ts.length (.bl true))
theorem jE{t:Int×Int}:∀ {ts:List (Int×Int)},t∈ts->(bO (ts.map kT) (List.replicate ts.length (.bl true)) (kT t)).isSome=true
 | u::ts,h=>by
  rw [yW,yM,zD];unfold bO
  by_cases e:u=t
  ·rw [if_pos (by rw [e])];rfl
  ·rw [if_neg fun z=>e (jI z)]
   exact jE ((yP.mp h).resolve_left fun z=>e z.symm)
theorem wS(t:Int×Int)(ts:List (Int×Int)):gIn [.tup [.int t.1,.int t.2],tlD ts]=some (.bl (decide (t∈ts)),false):=by
 show (match (some (bO (ts.map kT) (List.replicate ts.length (.bl true)) (kT t)).isSome) with | some b=>some (D.bl b,false) | none=>none)=_
 by_cases h:t∈ts
 ·rw [jE h,yV h]
 ·rw [rA h,zd h];rfl
theorem tG{t:Int×Int}{ts:List (Int×Int)}(h:t∉ts)(nd:ts.Nodup)(hl:ts.length<=60):iq (tlD ts) (.tup [.int t.1,.int t.2]) (.bl true)=some (tlD (ts++[t])):=by
 show (if (small (ts.map kT).length&&decide (ts.map kT).Nodup)=true then some (D.dT (eQ (ts.map kT) (List.replicate ts.length (.bl true)) (kT t) (.bl true)).1 (eQ (ts.map kT) (List.replicate ts.length (.bl true)) (kT t) (.bl true)).2) else none)=_
 rw [wb h,if_pos (by
  rw [yV (nL nd),zS];unfold small;rw [yF]
  exact yV (by show ts.length<=1000000;omega))]
abbrev nwL(k:Nat):Lb:=⟨"NoWeb",[("number",(k:Nat))]⟩
theorem mI{m:Int}{L:D}:∀ (ds:List D) (seen:List (Int×Int)) (k:Nat) (a b c:Option (D×Md)),(∀ d∈ds,Kn m d)->seen.Nodup->seen.length=k->k<=60 ->
 (match FA m seen k ds with
 | .inl j=>∃ ρ',aS (.tp [.nm 3,.nm 4]) aO (cR k ds) [some (.int m,.fz),some (L,.fz),some (tlD seen,.ow),a,b,c]=some (.ex (nwL j),ρ')
 | .inr ts=>ts.Nodup/\ts.length<=60/\∃ a' b' c',aS (.tp [.nm 3,.nm 4]) aO (cR k ds) [some (.int m,.fz),some (L,.fz),some (tlD seen,.ow),a,b,c]=some (.nx,[some (.int m,.fz),some (L,.fz),some (tlD ts,.ow),a',b',c']))
 | [],seen,k,a,b,c,hk,nd,hl,h6=>by
  unfold FA;exact ⟨nd,by omega,a,b,c,rfl⟩
 | d::ds,seen,k,a,b,c,hk,nd,hl,h6=>by
  have h:am [.int m,d]=some (.ok (oD (tt m d)) false,.non):=hk d yL
  have ih:=fun (seen:List (Int×Int)) (k:Nat) (a b c:Option (D×Md))=>mI (m:=m) (L:=L) ds seen k a b c (fun x hx=>hk x (yH _ hx))
  unfold FA
  cases e:tt m d with
  | none =>
   rw [e] at h;have h:am [.int m,d]=some (.ok .non false,.non):=h
   show ∃ ρ',aS _ _ (cR k (d::ds)) _=some (.ex (nwL k),ρ')
   refine ⟨[some (.int m,.fz),some (L,.fz),some (tlD seen,.ow),some (.int (k:Nat),.fz),some (d,.fz),some (.non,.fz)],jj rfl ?_⟩;clear ih
   show aO [some (.int m,.fz),some (L,.fz),some (tlD seen,.ow),some (.int (k:Nat),.fz),some (d,.fz),c]=_
   unfold aO
   trace "^Ћ8АL,ИmWQćaЏ"
  | some t =>
   rw [e] at h;have h:am [.int m,d]=some (.ok (.tup [.int t.1,.int t.2]) false,.non):=h;have gi:=wS t seen;dsimp only
   by_cases m1:t∈seen
   ·rw [if_pos (.inl m1)]
    rw [yV m1] at gi
    show ∃ ρ',aS _ _ (cR k (d::ds)) _=some (.ex (nwL k),ρ')
    refine ⟨[some (.int m,.fz),some (L,.fz),some (tlD seen,.ow),some (.int (k:Nat),.fz),some (d,.fz),some (.tup [.int t.1,.int t.2],.fz)],jj rfl ?_⟩;clear ih
    show aO [some (.int m,.fz),some (L,.fz),some (tlD seen,.ow),some (.int (k:Nat),.fz),some (d,.fz),c]=_
    unfold aO
    trace "^Ћ8АL,lmfИgMQćaЏ"
   ·rw [zd m1] at gi
    by_cases m2:60<=k
    ·rw [if_pos (.inr m2)]
     show ∃ ρ',aS _ _ (cR k (d::ds)) _=some (.ex (nwL k),ρ')
     refine ⟨[some (.int m,.fz),some (L,.fz),some (tlD seen,.ow),some (.int (k:Nat),.fz),some (d,.fz),some (.tup [.int t.1,.int t.2],.fz)],jj rfl ?_⟩;clear ih
     have m3:(k:Int)>=60:=by omega
     show aO [some (.int m,.fz),some (L,.fz),some (tlD seen,.ow),some (.int (k:Nat),.fz),some (d,.fz),c]=_
     unfold aO
     trace "^Ћ8АL,lmflgMwmWƥćaЏ"
    ·rw [if_neg fun z=>z.elim m1 m2]
     have up:=tG m1 nd (by omega);have nd2:(seen++[t]).Nodup:=List.nodup_append.mpr ⟨nd,by simp,fun x hx y hy e=>m1 (by rw [<- ze.mp hy,<- e];exact hx)⟩
     have m3:¬ (k:Int)>=60:=by omega
     have st:∃ ρ1 ρ2,bi (.tp [.nm 3,.nm 4]) (.tup [.int (k:Nat),d]) [some (.int m,.fz),some (L,.fz),some (tlD seen,.ow),a,b,c]=some ρ1/\aO ρ1=some (.nx,ρ2)/\ρ2=[some (.int m,.fz),some (L,.fz),some (tlD (seen++[t]),.ow),some (.int (k:Nat),.fz),some (d,.fz),some (.tup [.int t.1,.int t.2],.fz)]:=by
      clear ih;unfold aO
      trace "Й^Ћ8АelmflgMwmWvĠ6!KQЧ"
      rfl
     obtain ⟨ρ1,ρ2,st1,st2,rfl⟩:=st;have z:=ih (seen++[t]) (k+1) (some (.int (k:Nat),.fz)) (some (d,.fz)) (some (.tup [.int t.1,.int t.2],.fz)) nd2 (by rw [yX,hl];rfl) (by omega)
     cases f:FA m (seen++[t]) (k+1) ds with
     | inl j =>
      rw [f] at z;obtain ⟨ρ',z⟩:=z;exact ⟨ρ',nh st1 st2 z⟩
     | inr ts =>
      rw [f] at z;obtain ⟨q1,q2,a',b',c',z⟩:=z;exact ⟨q1,q2,a',b',c',nh st1 st2 z⟩
end K02
namespace K02
open PySem L2
section
variable{m:Int}{ds:List D}
theorem t_wo(h1:1<=m)(h2:m<=40)(hk:∀ d∈ds,Kn m d):match FA m [] 0 ds with
 | .inl j=>aU [.int m,.lst ds]=some (.ex (nwL j),.non)
 | .inr ts=>ts.length<=60/\aU [.int m,.lst ds]=some (.ok (.tup [.int m,.tup (tD (cZ ts))]) false,.non):=by
 have z:=mI (m:=m) (L:= .lst ds) ds [] 0 none none none hk AJ rfl (by omega);have tm := @sI
 cases f:FA m [] 0 ds with
 | inl j =>
  rw [f] at z;obtain ⟨ρ',z⟩:=z;have z:aS (.tp [.nm 3,.nm 4]) aO (cR 0 ds) [some (.int m,.fz),some (.lst ds,.fz),some (.dT [] [],.ow),none,none,none]=some (.ex (nwL j),ρ'):=z
  show aU _=_
  unfold aU eG
  trace "5ġƳej]İ!Pǂ+^ĎRLıĲKQď`"
 | inr ts =>
  rw [f] at z;obtain ⟨nd,hl,a,b,c,z⟩:=z;have z:aS (.tp [.nm 3,.nm 4]) aO (cR 0 ds) [some (.int m,.fz),some (.lst ds,.fz),some (.dT [] [],.ow),none,none,none]=some (.nx,[some (.int m,.fz),some (.lst ds,.fz),some (tlD ts,.ow),a,b,c]):=z;have sr:=qE (ts:=ts) (by omega) (vs:=List.replicate ts.length (.bl true));refine ⟨hl,?_⟩;unfold aU eG
  trace "Уj]İ!Pǂ+^ĎКıĲKQď97aЄXŚPЏ"
theorem wo_no(h:¬ (1<=m/\m<=40)):aU [.int m,.lst ds]=some (.ex ⟨"NoWeb",[("number",-1)]⟩,.non):=by
 have tm:=sI (n:=m)
 have e:(decide (1<=m)&&decide (m<=40))=false:=by
  rw [Bool.eq_false_iff];intro y;simp only [yY,Aq] at y;exact h y
 rw [e] at tm;unfold aU eG
 trace "5ġƳL,j]śdćЄT-oQ"
end
end K02
namespace K02
open PySem L2
theorem wo_bad{d:D}{ds:List D}(h:bI [d]=some (.ok (.bl false) false,.non)):aU [d,.lst ds]=some (.ex ⟨"NoWeb",[("number",-1)]⟩,.non):=by
 unfold aU eG
 trace "5ġƳL,j]8dćЄT-oQ"
structure NoW(d:D):Prop where
 w:bd [d]=some (.ok (.bl false) false,.non)
theorem NoW.m{d:D}(h:NoW d):bI [d]=some (.ok (.bl false) false,.non):=by
 have h:=h.w
 have w:aM [d,.int 1,.int 40]=some (.ok (.bl false) false,.non):=by
  unfold aM ck
  trace "Л2]8Q`"
 unfold bI eI
 trace "Ѓ2mTĐo"
theorem ym(b:Bool):NoW (.bl b):=⟨by unfold bd bT;trace "ЃAifĝЍ`"⟩
theorem yl:NoW .non:=⟨by unfold bd bT;trace "ЛЍo"⟩
theorem now_s(s:Str):NoW (.str s):=⟨by unfold bd bT;trace "ЛЍo"⟩
theorem now_l(l:List D):NoW (.lst l):=⟨by unfold bd bT;trace "ЛЍo"⟩
theorem now_t(l:List D):NoW (.tup l):=⟨by unfold bd bT;trace "ЛЍo"⟩
theorem kw:Kd.nJ nms "NoWeb" = some "web" := by decide +kernel
theorem el:nms.elem ("NoWeb" : Str)=true:=by decide +kernel
theorem el2:bK.elem ("NoWeb" : Str)=true:=by decide +kernel
theorem uj{d:D}{ds:List D}(h:aU [d,.lst ds]=some (.ex ⟨"NoWeb",[("number",-1)]⟩,.non)):aP [d,.lst ds]=some (.ok (.bl true) false,.non):=by
 have k:=kw;have e:=el;have e2:=el2;unfold aP dG
 trace "ДĞŝŞĳg8!ĢR9AЁĴQ_WAĵđ!EQЁđ!E!)0T$ƴ`"
end K02
namespace K02
open PySem L2
abbrev lD(t:Int×Int):D:= .lst [.int t.1,.int t.2]
abbrev seD(ts:List (Int×Int)):D:= .lst (ts.map lD)
def Sp(m:Int)(d:D):Prop:=∀ (L S:D) (k:Nat) (x:Option (D×Md)),gIx [L,.int (k:Nat)]=some (d,false)->∃ ρ',aa [some (.int m,.fz),some (L,.fz),some (S,.ow),some (.int (k:Nat),.fz),x]=some (.rt (.int (k:Nat)) false,ρ')
section
variable{m a b:Int}
theorem xO:bF [.tup [.int a,.int b]]=some (.lst [.int (min a b),.int (max a b)],true):=by
 have h:bF [.tup (nD [a,b])]=_:=nR (by show 2 < 64;decide)
 have e:eU [a,b]=[min a b,max a b]:=by
  by_cases q:a<=b
  ·rw [Int.min_eq_left q,Int.max_eq_right q]
   exact fC (.refl _) (by simp;omega)
  ·rw [Int.min_eq_right (by omega),Int.max_eq_left (by omega)]
   exact fC (List.Perm.swap b a []) (by simp;omega)
 rw [e] at h;exact h
theorem eq_l(u:Int×Int)(x y:Int):eqD (lD u) (.lst [.int x,.int y])=decide (u=(x,y)):=by
 have:=uT [u.1,u.2] [x,y];rw [show eqD (lD u) (.lst [.int x,.int y])=eqD (.lst (nD [u.1,u.2])) (.lst (nD [x,y])) from rfl,this,decide_eq_decide]
 constructor
 ·intro h;simp at h;exact Prod.ext h.1 h.2
 ·intro h;rw [h]
theorem wT(x y:Int)(ts:List (Int×Int)):gIn [.lst [.int x,.int y],seD ts]=some (.bl (decide ((x,y)∈ts)),false):=by
 have e1:(ts.map lD).all (ad 9)=true:=by
  rw [yZ];intro d hd;obtain ⟨u,_,rfl⟩:=Az.mp hd;rfl
 have e2:e7 (ts.map lD) (.lst [.int x,.int y])=decide ((x,y)∈ts):=by
  unfold e7;rw [List.any_map,zM,List.any_eq_true,Aq]
  constructor
  ·rintro ⟨u,hu,e⟩
   rw [Function.comp,eq_l,Aq] at e;rw [<- e];exact hu
  ·intro h
   exact ⟨(x,y),h,by rw [Function.comp,eq_l];exact yV rfl⟩
 show (match (if (ad 9 (.lst [.int x,.int y])&&(ts.map lD).all (ad 9))=true then some (e7 (ts.map lD) (.lst [.int x,.int y])) else none) with | some b=>some (D.bl b,false) | none=>none)=_
 rw [e1,show ad 9 (.lst [.int x,.int y])=true from rfl,e2,Bool.and_self,if_pos rfl]
theorem vm(x y:Int){ts:List (Int×Int)}(h:ts.length<=60):ci (seD ts) [.lst [.int x,.int y]]=some (seD (ts++[(x,y)]),.non):=by
 show (if small (ts.map lD).length=true then some (D.lst (ts.map lD++[.lst [.int x,.int y]]),D.non) else none)=_
 rw [if_pos (by unfold small;rw [yF];exact yV (by show ts.length<=1000000;omega))]
 show _=some (D.lst ((ts++[(x,y)]).map lD),D.non)
 rw [List.map_append];rfl
theorem vL(h:tk m a b=none):Sp m (.tup [.int a,.int b]):=by
 intro L S k x hx;have gr:gf [.int m]=some (.rng 0 m,false):=rfl;have ra:dX [.int a,.rng 0 m]=some (.bl (!decide (0<=a/\a < m)),false):=rfl;have rb:dX [.int b,.rng 0 m]=some (.bl (!decide (0<=b/\b < m)),false):=rfl;have wh := @eE
 have e:∃ ρ',aa [some (.int m,.fz),some (L,.fz),some (S,.ow),some (.int (k:Nat),.fz),x]=some (.rt (.int (k:Nat)) false,ρ'):=by
  by_cases q1:0<=a/\a < m
  ·rw [yV q1] at ra
   by_cases q2:0<=b/\b < m
   ·rw [yV q2] at rb
    have q3:a=b:=by
     unfold tk at h
     by_cases q:a=b
     ·exact q
     ·rw [if_pos ⟨q1.1,by omega,q2.1,by omega,q⟩] at h;cases h
    unfold aa;refine' ⟨_,cw ?s1 (cw ?s2 (cW ?s3))⟩
    case s1=>trace "Б"
    case s2=>trace "/Ш"
    case s3=>trace ",ЅN!ЅĈwЦƥx"
   ·rw [zd q2] at rb
    unfold aa;refine' ⟨_,cw ?s1 (cw ?s2 (cW ?s3))⟩
    case s1=>trace "Б"
    case s2=>trace "/Ш"
    case s3=>trace ",ЅN!ИхĈQx"
  ·rw [zd q1] at ra
   unfold aa;refine' ⟨_,cw ?s1 (cw ?s2 (cW ?s3))⟩
   case s1=>trace "Б"
   case s2=>trace "/Ш"
   case s3=>trace ",ИхNQx"
 exact e
end
end K02
namespace K02
open PySem L2
structure Th(m:Int)(d:D):Prop where
 kn:Kn m d
 sp:tt m d=none->Sp m d
theorem pN{m:Int}{d:D}{t:Int×Int}(h:tt m d=some t):∃ a b,d = .tup [.int a,.int b]/\(0<=a/\a < m)/\(0<=b/\b < m)/\a≠b/\t=(min a b,max a b):=by
 unfold tt at h
 split at h
 ·rename_i a b
  unfold tk at h
  by_cases q:0<=a/\a<=m - 1/\0<=b/\b<=m - 1/\a≠b
  ·rw [if_pos q] at h
   cases h;exact ⟨a,b,rfl,⟨q.1,by omega⟩,⟨q.2.2.1,by omega⟩,q.2.2.2.2,rfl⟩
  ·rw [if_neg q] at h;cases h
 ·cases h
theorem vD{m a b:Int}:Th m (.tup [.int a,.int b]):=⟨wL,fun h=>vL h⟩
theorem qr{m:Int}{ds:List D}:∀ (r:List D) (seen:List (Int×Int)) (k:Nat) (a b:Option (D×Md)),(∀ d∈r,Th m d)->ds.drop k=r->seen.length=k->k<=60 ->
 (match FA m seen k r with
 | .inl j=>∃ ρ',br (.nm 3) aa (nD (rgI (k:Nat) r.length)) [some (.int m,.fz),some (.lst ds,.fz),some (seD seen,.ow),a,b]=some (.rt (.int (j:Nat)) false,ρ')
 | .inr ts=>∃ a' b',br (.nm 3) aa (nD (rgI (k:Nat) r.length)) [some (.int m,.fz),some (.lst ds,.fz),some (seD seen,.ow),a,b]=some (.nx,[some (.int m,.fz),some (.lst ds,.fz),some (seD ts,.ow),a',b']))
 | [],seen,k,a,b,hk,hd,hl,h6=>by
  unfold FA;exact ⟨a,b,rfl⟩
 | d::r,seen,k,a,b,hk,hd,hl,h6=>by
  have T:=hk d yL
  have h1:ds[k]?=some d:=by
   have:=congrArg (fun x=>x[0]?) hd;simpa using this
  have hd2:ds.drop (k+1)=r:=by
   have:=congrArg List.tail hd;simpa using this
  have ix:gIx [.lst ds,.int (k:Nat)]=some (d,false):=dv (gk h1)
  have ih:=fun (seen:List (Int×Int)) (a b:Option (D×Md))=>qr (m:=m) (ds:=ds) r seen (k+1) a b (fun x hx=>hk x (yH _ hx)) hd2
  have rg:nD (rgI (k:Nat) (d::r).length) = .int (k:Nat)::nD (rgI ((k+1:Nat):Int) r.length):=by
   rw [yM,sU,nD,yW];rfl
  rw [rg];unfold FA
  cases e:tt m d with
  | none =>
   obtain ⟨ρ',z⟩:=T.sp e (.lst ds) (seD seen) k b ix;exact ⟨ρ',pT rfl z⟩
  | some t =>
   obtain ⟨x,y,rfl,q1,q2,q3,rfl⟩:=pN e;have gr:gf [.int m]=some (.rng 0 m,false):=rfl;have ra:dX [.int x,.rng 0 m]=some (.bl (!decide (0<=x/\x < m)),false):=rfl;have rb:dX [.int y,.rng 0 m]=some (.bl (!decide (0<=y/\y < m)),false):=rfl;rw [yV q1] at ra;rw [yV q2] at rb;have wh := @eE;have gs:=xO (a:=x) (b:=y);have gi:=wT (min x y) (max x y) seen
   have gl:di [seD seen]=some (.int (seen.length:Nat),false):=by
    show some (D.int ((seen.map lD).length:Nat),false)=_
    rw [yF]
   rw [hl] at gl;dsimp only
   by_cases m1:(min x y,max x y)∈seen\/60<=k
   ·rw [if_pos m1]
    have e:∃ ρ',aa [some (.int m,.fz),some (.lst ds,.fz),some (seD seen,.ow),some (.int (k:Nat),.fz),b]=some (.rt (.int (k:Nat)) false,ρ'):=by
     clear ih
     by_cases m2:(min x y,max x y)∈seen
     ·rw [yV m2] at gi
      unfold aa;refine' ⟨_,cw ?s1 (cw ?s2 (cw ?s3 (cW ?s4)))⟩
      case s1=>trace "шĥR"
      case s2=>trace "/Ш"
      case s3=>trace "/ЅN!ЅĈwЦv"
      case s4=>trace ",ИXĒ]MQx"
     ·rw [zd m2] at gi
      have k6:(k:Int)=60:=by have:=m1.resolve_left m2;omega
      unfold aa;refine' ⟨_,cw ?s1 (cw ?s2 (cw ?s3 (cW ?s4)))⟩
      case s1=>trace "шĥR"
      case s2=>trace "/Ш"
      case s3=>trace "/ЅN!ЅĈwЦv"
      case s4=>trace ",lXĒ]MwXOйƴƥx"
    obtain ⟨ρ',z⟩:=e;exact ⟨ρ',pT rfl z⟩
   ·rw [if_neg m1]
    rw [zd fun z=>m1 (.inl z)] at gi
    have k6:(k:Int)≠60:=by omega
    have up:=vm (min x y) (max x y) (ts:=seen) (by omega)
    have st:∃ ρ1 ρ2,bi (.nm 3) (.int (k:Nat)) [some (.int m,.fz),some (.lst ds,.fz),some (seD seen,.ow),a,b]=some ρ1/\aa ρ1=some (.nx,ρ2)/\ρ2=[some (.int m,.fz),some (.lst ds,.fz),some (seD (seen++[(min x y,max x y)]),.ow),some (.int (k:Nat),.fz),some (.tup [.int x,.int y],.fz)]:=by
     clear ih;unfold aa
     trace "Й^оĥReШeЅN!ЅĈwЦvelXĒ]MwXOйƴvēĉ!'ЗĒЩЧ"
     rfl
    obtain ⟨ρ1,ρ2,st1,st2,rfl⟩:=st;have z:=ih (seen++[(min x y,max x y)]) (some (.int (k:Nat),.fz)) (some (.tup [.int x,.int y],.fz)) (by rw [yX,hl];rfl) (by omega)
    cases f:FA m (seen++[(min x y,max x y)]) (k+1) r with
    | inl j =>
     rw [f] at z;obtain ⟨ρ',z⟩:=z;exact ⟨ρ',iV st1 st2 z⟩
    | inr ts =>
     rw [f] at z;obtain ⟨a',b',z⟩:=z;exact ⟨a',b',iV st1 st2 z⟩
end K02
namespace K02
open PySem L2
section
variable{m:Int}{ds:List D}
theorem t_fa(hl:ds.length<=1000)(hk:∀ d∈ds,Th m d):match FA m [] 0 ds with
 | .inl j=>au [.int m,.lst ds]=some (.ok (.int (j:Nat)) false,.non)
 | .inr ts=>au [.int m,.lst ds]=some (.ok .non false,.non):=by
 have z:=qr (m:=m) (ds:=ds) ds [] 0 none none hk rfl rfl (by omega)
 have hl2:ds.length<=1000000:=by omega
 cases f:FA m [] 0 ds with
 | inl j =>
  rw [f] at z;obtain ⟨ρ',z⟩:=z;have z:br (.nm 3) aa (nD (rgI 0 ds.length)) [some (.int m,.fz),some (.lst ds,.fz),some (.lst [],.ow),none,none]=some (.rt (.int (j:Nat)) false,ρ'):=z
  show au _=_
  unfold au bU
  trace "І=-RĞFĔз$Ķď`"
 | inr ts =>
  rw [f] at z;obtain ⟨a,b,z⟩:=z;have z:br (.nm 3) aa (nD (rgI 0 ds.length)) [some (.int m,.fz),some (.lst ds,.fz),some (.lst [],.ow),none,none]=some (.nx,[some (.int m,.fz),some (.lst ds,.fz),some (seD ts,.ow),a,b]):=z
  show au _=_
  unfold au bU
  trace "І=-КFĔз$Ķďu"
abbrev mm(p:Int×Int):Int×Int:=(min p.1 p.2,max p.1 p.2)
theorem vt:∀ (ds:List D) (seen:List (Int×Int)) (k:Nat) (ts:List (Int×Int)),FA m seen k ds = .inr ts->∃ ps:List (Int×Int),ds=ps.map mP/\ts=seen++ps.map mm
 | [],seen,k,ts,h=>by
  unfold FA at h;cases h;exact ⟨[],rfl,by simp⟩
 | d::ds,seen,k,ts,h=>by
  unfold FA at h
  cases e:tt m d with
  | none=>rw [e] at h;cases h
  | some t =>
   rw [e] at h;dsimp only at h
   by_cases q:t∈seen\/60<=k
   ·rw [if_pos q] at h;cases h
   ·rw [if_neg q] at h
    obtain ⟨a,b,rfl,_,_,_,rfl⟩:=pN e;obtain ⟨ps,rfl,rfl⟩:=vt ds _ _ _ h;exact ⟨(a,b)::ps,rfl,by simp [mm]⟩
theorem qe{d:D}(h:ad 9 d=true):gNe [d,d]=some (.bl false,false):=by
 show (if (ad 9 d&&ad 9 d)=true then some (D.bl (!(eqD d d)),false) else none)=_
 rw [h,Bool.and_self,if_pos rfl];unfold eqD;rw [gN 9 h];rfl
theorem sS{j:Nat}(h1:1<=m)(h2:m<=40)(hl:ds.length<=1000)(he:ad 9 (.lst ds)=true)(hk:∀ d∈ds,Th m d)(f:FA m [] 0 ds = .inl j):aA [.int m,.lst ds]=some (.ok (.bl true) false,.non):=by
 have w:=t_wo h1 h2 fun d hd=>(hk d hd).kn
 have a:=t_fa hl hk;rw [f] at w a;have w:aU [.int m,.lst ds]=some (.ex (nwL j),.non):=w;have a:au [.int m,.lst ds]=some (.ok (.int (j:Nat)) false,.non):=a
 have gl:dB [.lst ds]=some (.lst ds,true):=by rfl
 have ne:=qe he
 have up:ci (.lst ds) [.non]=some (.lst (ds++[.non]),.non):=by
  show (if small ds.length=true then some (D.lst (ds++[.non]),D.non) else none)=_
  rw [show small ds.length=true from yV (by show ds.length<=1000000;omega),if_pos rfl]
 have k:=kw;have e:=el;have e2:=el2;unfold aA dN
 trace "ІЗOyЋķА^6y6КšŢĳgĐ!ĢRel)ĴQ_Wиĵđ!Ed+<đ!EАƦelgĸwgƫǗ+:ēĉ!t!ЧЎ*mfu"
end
end K02
namespace K02
open PySem L2
section
variable{m:Int}{ds:List D}
theorem xD{α:Type}(xs:List α):iQ [.lst (bD (xs.map fun _=>true))]=some (.bl true,false):=by
 rw [uM]
 congr 2
 simp
theorem uP:∀ ts:List (Int×Int),bM (tD ts)=true
 | []=>rfl
 | _::ts=>uP ts
theorem tr_web(m:Int)(ts:List (Int×Int))(as:List L2.Arg)(ρ:Rho):(bE none 0 as ρ||(eA (fN m ts) false&&((none:Option Nat).isNone||bG D.non)))=true:=by
 have:eA (fN m ts) false=true:=by
  show (true&&(bM (tD ts)&&true))=true
  rw [uP];rfl
 rw [this];cases bE none 0 as ρ<;>rfl
theorem qN{ts:List (Int×Int)}(h1:1<=m)(h2:m<=40)(hl:ds.length<=1000)(he:ad 9 (.lst ds)=true)(hk:∀ d∈ds,Th m d)(f:FA m [] 0 ds = .inr ts):aA [.int m,.lst ds]=some (.ok (.bl true) false,.non):=by
 have w:=t_wo h1 h2 fun d hd=>(hk d hd).kn
 have a:=t_fa hl hk;rw [f] at w a;obtain ⟨l6,w⟩:=w;have w:aU [.int m,.lst ds]=some (.ok (fN m (cZ ts)) false,.non):=w;have a:au [.int m,.lst ds]=some (.ok .non false,.non):=a;obtain ⟨ps,hp,ht⟩:=vt ds [] 0 ts f;rw [zQ] at ht;clear f hk;subst hp;subst ht;rw [yF] at l6
 have gl:dB [.lst (tD ps)]=some (.lst (tD ps),true):=by rfl
 have ne:=qe he
 have up:ci (.lst (tD ps)) [.non]=some (.lst (tD ps++[.non]),.non):=by
  show (if small (tD ps).length=true then some (D.lst (tD ps++[.non]),D.non) else none)=_
  rw [show small (tD ps).length=true from yV (by show (tD ps).length<=1000000;rw [yF];omega),if_pos rfl]
 have wh := @eE;have tr:=tr_web m (cZ (ps.map mm))
 have ga:=fun (xs:List (Int×Int))=>xD xs
 have s2:=fun (a b:Int)=>xO (a:=a) (b:=b)
 have ge:gEq [fN m (cZ (ps.map mm)),fN m (cZ (ps.map mm))]=some (.bl true,false):=by
  rw [uL];simp
 unfold aA dN
 trace "ІЗOyЋķА^6y6Кţ<ЋĐŤRelgĸwgQ+:ēĉ!t!Чe*mf+eѐи0}PW+eФiTį`ťƵĕƩAifA2аģQ2аģ`$ŦW+9i)7a'ЁяЖĦƵĕƩ0Xŧf$ŨǘP-Pũ`"
theorem right(h1:1<=m)(h2:m<=40)(hl:ds.length<=1000)(he:ad 9 (.lst ds)=true)(hk:∀ d∈ds,Th m d):aA [.int m,.lst ds]=some (.ok (.bl true) false,.non):=by
 cases f:FA m [] 0 ds with
 | inl j=>exact sS h1 h2 hl he hk f
 | inr ts=>exact qN h1 h2 hl he hk f
end
end K02
namespace K02
open PySem L2
section
variable{m:Int}
theorem NoW.p{d:D}(h:NoW d):cB [.int m,d]=some (.ok (.bl false) false,.non):=by
 have h:=h.w
 have w:aM [d,.int 0,.int (m - 1)]=some (.ok (.bl false) false,.non):=by
  unfold aM ck
  trace "Л2]8Q`"
 unfold cB fQ
 trace "Ѓ2mЉ_WPĐo"
structure Od(m:Int)(d:D):Prop where
 t:Th m d
 e:ad 8 d=true
theorem dq(a b:Int):Od m (.tup [.int a,.int b]):=⟨vD,rfl⟩
theorem lw_b(b:Bool):aw [.bl b]=some (.ok (.bl false) false,.non):=by unfold aw dM;trace "ЃAifĝЍ`"
theorem lw_n:aw [.non]=some (.ok (.bl false) false,.non):=by unfold aw dM;trace "ЛЍo"
theorem od_b(b:Bool):Od m (.tup [.bl b,.int 0]):=by
 have p0 := @lC;have p1:=(ym b).p (m:=m);have w0 := @eE;have w1:=lw_b b;have al:iQ [.lst [.bl false,.bl (decide ((0:Int)<=0)&&decide (0<=m - 1))]]=some (.bl false,false):=rfl;refine ⟨⟨?_,fun _=> ?_⟩,by rfl⟩
 ·show am _=some (.ok .non false,.non)
  unfold am bj
  trace "УЕ+ЎDФЖвĹгвĺгą$Ćfu"
 ·intro L S k x hx
  unfold aa;refine' ⟨_,cw ?s1 (cW ?s2)⟩
  case s1=>trace "Б"
  case s2=>trace ",ьDмĻd!x"
theorem od_n:Od m (.tup [.int 0,.non]):=by
 have p0 := @lC;have p1:=yl.p (m:=m);have w0 := @eE;have w1:=lw_n
 have al:iQ [.lst [.bl (decide ((0:Int)<=0)&&decide (0<=m - 1)),.bl false]]=some (.bl false,false):=by
  cases (decide ((0:Int)<=0)&&decide (0<=m - 1))<;>rfl
 refine ⟨⟨?_,fun _=> ?_⟩,by rfl⟩
 ·show am _=some (.ok .non false,.non)
  unfold am bj
  trace "УЕ+ЎDФЖвĺгвĹгą$Ćfu"
 ·intro L S k x hx
  unfold aa;refine' ⟨_,cw ?s1 (cW ?s2)⟩
  case s1=>trace "Б"
  case s2=>trace ",юмŪdмĻdx"
theorem od_1:Od m (.tup [.int 0]):=by
 refine ⟨⟨?_,fun _=> ?_⟩,by rfl⟩
 ·show am _=some (.ok .non false,.non)
  unfold am bj
  trace "ДЎЕu"
 ·intro L S k x hx
  unfold aa;refine' ⟨_,cw ?s1 (cW ?s2)⟩
  case s1=>trace "Б"
  case s2=>trace ",лИуQx"
theorem od_3:Od m (.tup [.int 0,.int 1,.int 2]):=by
 refine ⟨⟨?_,fun _=> ?_⟩,by rfl⟩
 ·show am _=some (.ok .non false,.non)
  unfold am bj
  trace "ДЎЕu"
 ·intro L S k x hx
  unfold aa;refine' ⟨_,cw ?s1 (cW ?s2)⟩
  case s1=>trace "Б"
  case s2=>trace ",лИуQx"
theorem nv{d:D}(h:fq "tuple" [d]=some (.bl false,false))(hn:tt m d=none)(he:ad 8 d=true):Od m d:=by
 refine ⟨⟨?_,fun _=> ?_⟩,he⟩
 ·show am _=_
  rw [hn]
  show am _=some (.ok .non false,.non)
  unfold am bj
  trace "ДЎDеX8fu"
 ·intro L S k x hx
  unfold aa;refine' ⟨_,cw ?s1 (cW ?s2)⟩
  case s1=>trace "Б"
  case s2=>trace ",DеX8fx"
theorem gw{ds:List D}(h1:1<=m)(h2:m<=40)(hl:ds.length<=1000)(hk:∀ d∈ds,Od m d):aA [.int m,.lst ds]=some (.ok (.bl true) false,.non):=right h1 h2 hl (by
 unfold ad
 exact yZ.mpr fun d hd=>(hk d hd).e) fun d hd=>(hk d hd).t
theorem lI{ts:List (Int×Int)}(h1:1<=m)(h2:m<=40)(hl:ts.length<=1000):aA [.int m,.lst (tD ts)]=some (.ok (.bl true) false,.non):=gw h1 h2 (by rw [yF];exact hl) fun d hd=>by
 obtain ⟨t,_,rfl⟩:=Az.mp hd;exact dq _ _
end
end K02
namespace K02
open PySem L2
section
variable{x0:Option (D×Md)}
abbrev sOc:ST:=ba gNe [.bor 2,.ex (bW [])]
theorem kP{α β:Type}{f:α->β}:∀ (l:List α) (k:Nat),(l.map f).eraseIdx k=(l.eraseIdx k).map f
 | [],_=>by simp
 | _::_,0=>rfl
 | a::l,k+1=>by
  show f a::(l.map f).eraseIdx k=f a::(l.eraseIdx k).map f
  rw [kP l k]
theorem pop_at{l:List (Int×Int)}{k:Nat}(hk:k < l.length)(hl:l.length<=1000):gZ (.lst (tD l)) [.int (k:Nat)]=some (.lst (tD (l.eraseIdx k)),mP (l[k]'hk)):=by
 have e:seqIndex? ((k:Nat):Int) (tD l).length=some k:=by
  rw [yF];unfold seqIndex?;simp;omega
 show (if (decide (-1000000000<=((k:Nat):Int)/\((k:Nat):Int)<=1000000000))=true then match seqIndex? ((k:Nat):Int) (tD l).length with
  | some k=>match (tD l)[k]? with
   | some d=>some (D.lst ((tD l).eraseIdx k),d)
   | none=>none
  | none=>none
  else none)=_
 rw [if_pos (yV (by omega)),e]
 have g:(tD l)[k]?=some (mP (l[k]'hk)):=by rw [tD,zc,yD hk];rfl
 have h:(tD l).eraseIdx k=tD (l.eraseIdx k):=kP l k;simp only [g,h]
theorem ne_nil{l:List (Int×Int)}(h:l≠[]):gNe [.lst (tD l),.lst []]=some (.bl true,false):=by
 cases l with
 | nil=>exact absurd rfl h
 | cons t r =>
  show (if (ad 9 (.lst (tD (t::r)))&&ad 9 (.lst []))=true then some (D.bl (!(eqD (.lst (tD (t::r))) (.lst []))),false) else none)=_
  rw [show ad 9 (.lst (tD (t::r)))=true by unfold ad;exact df 7 _];rfl
theorem pL:∀ (m:Nat) (left found:List (Int×Int)) (k:Nat) (P:Pn) (x4:Option (D×Md)),left.length=m->m < k->found.length+m<=100->∃ (P':Pn) (os:List (Int×Int)) (y:Option (D×Md)),os.length=m/\cm k sOc bf [x0,some (pD P,.io),some (.lst (tD left),.ow),some (.lst (tD found),.ow),x4]=some (.nx,[x0,some (pD P',.io),some (.lst (tD []),.ow),some (.lst (tD (found++os)),.ow),y])
 | _,_,_,0,_,_,_,h,_=>absurd h (Nat.not_lt_zero _)
 | 0,left,found,k+1,P,x4,hl,_,_=>by
  have:left=[]:=List.length_eq_zero_iff.mp hl;subst this;have c:sOc [x0,some (pD P,.io),some (.lst (tD []),.ow),some (.lst (tD found),.ow),x4]=some (.ok false,[x0,some (pD P,.io),some (.lst (tD []),.ow),some (.lst (tD found),.ow),x4]):=rfl;exact ⟨P,[],x4,rfl,by rw [zK];exact r_whF c rfl⟩
 | m+1,left,found,k+1,P,x4,hl,hk,hb=>by
  have b:=dI P (m:=((m+1:Nat):Int)) (by omega) (by omega);obtain ⟨j,hj⟩:∃ j:Nat,dr P ((m+1:Nat):Int)=(j:Nat):=⟨(dr P ((m+1:Nat):Int)).toNat,by omega⟩
  have hjl:j < left.length:=by omega
  have ln:di [.lst (tD left)]=some (.int ((m+1:Nat):Int),false):=by rw [le,hl]
  have td:=xN (P:=P) (m:=((m+1:Nat):Int)) (by omega) (by omega);rw [hj] at td;have pa:=pop_at hjl (by omega);have gn:=ne_nil (l:=left) (fun z=>by rw [z] at hl;simp at hl)
  have c:sOc [x0,some (pD P,.io),some (.lst (tD left),.ow),some (.lst (tD found),.ow),x4]=some (.ok true,[x0,some (pD P,.io),some (.lst (tD left),.ow),some (.lst (tD found),.ow),x4]):=by
   unfold sOc
   trace "5*sЪ-Pū!"
  generalize left[j]'hjl=t at pa
  obtain ⟨a,b'⟩:=t;have d:=dI (nx P ((m+1:Nat):Int)) (m:=2) (by omega) (by omega)
  obtain ⟨u,v,gx⟩:∃ u v,gIx [.lst [.tup [.int a,.int b'],.tup [.int b',.int a]],.int (dr (nx P ((m+1:Nat):Int)) 2)]=some (.tup [.int u,.int v],false):=by
   obtain e | e:dr (nx P ((m+1:Nat):Int)) 2=0\/dr (nx P ((m+1:Nat):Int)) 2=1:=by omega
   ·rw [e];exact ⟨a,b',rfl⟩
   ·rw [e];exact ⟨b',a,rfl⟩
  have pa:gZ (.lst (tD left)) [.int (j:Nat)]=some (.lst (tD (left.eraseIdx j)),.tup [.int a,.int b']):=pa;have ua:ci (.lst (tD found)) [.tup [.int u,.int v]]=some (.lst (tD (found++[(u,v)])),.non):=sG (by omega);have gr:nU [.tup [.int a,.int b']]=some (.tup [.int b',.int a],false):=rfl
  have e0:bf [x0,some (pD P,.io),some (.lst (tD left),.ow),some (.lst (tD found),.ow),x4]=some (.nx,[x0,some (pD (nx (nx P ((m+1:Nat):Int)) 2),.io),some (.lst (tD (left.eraseIdx j)),.ow),some (.lst (tD (found++[(u,v)])),.ow),some (.tup [.int a,.int b'],.fz)]):=by
   unfold bf
   trace "5^ĉ!'нXŬPŭЀЩŮƦRēĉ!'Ыa'ЗĤ-p$ĀЩůƦ!"
  obtain ⟨P',os,y,hp,e⟩:=pL m (left.eraseIdx j) (found++[(u,v)]) k (nx (nx P ((m+1:Nat):Int)) 2) (some (.tup [.int a,.int b'],.fz)) (by rw [List.length_eraseIdx,if_pos hjl];omega) (by omega) (by rw [yX];simp;omega);refine ⟨P',(u,v)::os,y,by rw [yM,hp],?_⟩;rw [List.append_assoc] at e;exact r_whT c rfl e0 e
end
theorem t_list{n:Int}{ts:List (Int×Int)}(h:ts.length<=60)(P:Pn):∃ (P':Pn) (os:List (Int×Int)),os.length<=60/\cy [fN n ts,pD P]=some (.ok (.lst (tD os)) true,pD P'):=by
 obtain ⟨P',os,y,hp,e⟩:=pL (x0:=some (fN n ts,.fz)) ts.length ts [] 100 P none rfl (by omega) (by simp;omega);refine ⟨P',os,by omega,?_⟩;have gr:dB [.tup (tD ts)]=some (.lst (tD ts),true):=rfl;have e':cm 100 (ba gNe [.bor 2,.ex (bW [])]) bf [some (fN n ts,.fz),some (pD P,.io),some (.lst (tD ts),.ow),some (.lst [],.ow),none]=some (.nx,[some (fN n ts,.fz),some (pD P',.io),some (.lst (tD []),.ow),some (.lst (tD os),.ow),y]):=e;unfold cy eJ
 trace "І0аĤy=-КŰűR`"
end K02
namespace K02
open PySem L2
section
variable{m:Int}
abbrev sQ:SS:=(bB (ba gGt [.ex (sOp di [.bor 0]),.ex (sC (.int 0))]) (aZ 4 (sOp gIx [.ex (sOp gIx [.ex (bW [(bn 0),(cr 1 (cE (bn 0)) (.nm 6) none (sOp nU [.bor 6]))]),.ex (ar (some 0) (some 2) ak [.bor 2,.ex (sC (.int 2))])]),.ex (ar (some 0) (some 2) ak [.bor 2,.ex (sOp di [.bor 0])])])) bV)
theorem sp_if{ts:List (Int×Int)}(hl:ts.length<=60)(P:Pn){sp:Int}:∃ (P':Pn) (a b:Int),sQ [some (.lst (tD ts),.fz),some (.int m,.fz),some (pD P,.io),some (.int sp,.fz),some (.tup [.int 0,.int m],.fz),none]=some (.nx,[some (.lst (tD ts),.fz),some (.int m,.fz),some (pD P',.io),some (.int sp,.fz),some (.tup [.int a,.int b],.fz),none]):=by
 by_cases h:(ts.length:Int) > 0
 ·have d:=dI P (m:=2) (by omega) (by omega)
  obtain ⟨us,hu,gx⟩:∃ us:List (Int×Int),us.length=ts.length/\gIx [.lst [.lst (tD ts),.lst (tD (ts.map fun x=>(x.2,x.1)))],.int (dr P 2)]=some (.lst (tD us),false):=by
   obtain e | e:dr P 2=0\/dr P 2=1:=by omega
   ·rw [e];exact ⟨ts,rfl,rfl⟩
   ·rw [e];exact ⟨_,yF _,rfl⟩
  have d2:=dI (nx P 2) (m:=(ts.length:Nat)) (by omega) (by omega);have g2:gIx [.lst (tD us),.int (dr (nx P 2) (ts.length:Nat))]=some (.tup [.int (us.getD (dr (nx P 2) (ts.length:Nat)).toNat default).1,.int (us.getD (dr (nx P 2) (ts.length:Nat)).toNat default).2],false):=uI (inj:=mP) d2.1 (by omega)
  have gr:∀ a b:Int,nU [.tup [.int a,.int b]]=some (.tup [.int b,.int a],false):=fun _ _=>rfl
  refine ⟨nx (nx P 2) (ts.length:Nat),(us.getD (dr (nx P 2) (ts.length:Nat)).toNat default).1,(us.getD (dr (nx P 2) (ts.length:Nat)).toNat default).2,?_⟩;unfold sQ
  trace "5,*XĘTƥ<ЁЫa'эЖĦƵĕƩЗŲQ-p$ĀыXĘPėƹƤЀ$ųR!"
 ·refine ⟨P,0,m,?_⟩
  unfold sQ
  trace "5/*XĘTv!"
theorem wg{l:List D}{i:Int}(hl:∀ d∈l,Od m d)(h0:0<=i)(h1:i < l.length):∃ d,Od m d/\gIx [.lst l,.int i]=some (d,false):=by
 obtain ⟨k,rfl⟩:∃ k:Nat,i=k:=⟨i.toNat,by omega⟩
 have hk:k < l.length:=by omega
 exact ⟨l[k],hl _ (zN hk),dv (gk (yD hk))⟩
abbrev soD(a b m:Int):List D:=[.tup [.int a,.int b],.tup [.int a,.int b],.tup [.int 0,.int 0],.tup [.int m,.int 0],.tup [.int 0,.int m],.tup [.int (-1),.int 0],.tup [.bl true,.int 0],.tup [.int 0,.non],.tup [.int 0],.tup [.int 0,.int 1,.int 2],.lst [.int 0,.int 1],.non,.int 0,.str "01"]
theorem so_od{a b:Int}:∀ d∈soD a b m,Od m d:=by
 intro d hd;simp only [soD,yP,List.not_mem_nil,or_false] at hd
 rcases hd with rfl | rfl | rfl | rfl | rfl | rfl | rfl | rfl | rfl | rfl | rfl | rfl | rfl | rfl
 ·exact dq _ _
 ·exact dq _ _
 ·exact dq _ _
 ·exact dq _ _
 ·exact dq _ _
 ·exact dq _ _
 ·exact od_b _
 ·exact od_n
 ·exact od_1
 ·exact od_3
 ·exact nv rfl rfl rfl
 ·exact nv rfl rfl rfl
 ·exact nv rfl rfl rfl
 ·exact nv rfl rfl rfl
theorem od_T(ts:List (Int×Int)){d:D}(h:d∈tD ts):Od m d:=by
 obtain ⟨t,_,rfl⟩:=Az.mp h;exact dq _ _
theorem qx{l:List D}{lo hi:Option Int}{d:D}(h:d∈gO l lo hi):d∈l:=by
 unfold gO at h;exact List.mem_of_mem_drop (List.mem_of_mem_take h)
theorem uY(l:List D)(lo hi:Option Int):(gO l lo hi).length<=l.length:=by
 unfold gO;rw [Aa,List.length_drop];omega
theorem vn{a b:List D}(h:a.length+b.length<=1000):cz [.lst a,.lst b]=some (.lst (a++b),true):=by
 show (if small (a.length+b.length)=true then some (D.lst (a++b),true) else none)=_
 rw [if_pos (by unfold small;exact yV (by show a.length+b.length<=1000000;omega))]
theorem mS{ts:List (Int×Int)}(hl:ts.length<=60)(P:Pn):∃ (P':Pn) (ds:List D),ds.length<=200/\(∀ d∈ds,Od m d)/\bQ [.lst (tD ts),.int m,pD P]=some (.ok (.lst ds) true,pD P'):=by
 have d:=dI P (m:=(ts.length:Nat)+1) (by omega) (by omega);obtain ⟨P1,a,b,e1⟩:=sp_if (m:=m) hl (nx P ((ts.length:Nat)+1)) (sp:=dr P ((ts.length:Nat)+1));have d14:=dI P1 (m:=14) (by omega) (by omega);obtain ⟨x,hx,gx⟩:=wg (so_od (m:=m) (a:=a) (b:=b)) d14.1 (by show _ < ((14:Nat):Int);omega)
 obtain ⟨u1,l1,m1,c1⟩:∃ u1:List D,u1.length<=60/\(∀ d∈u1,Od m d)/\o7 [.lst (tD ts),.int (dr P ((ts.length:Nat)+1))]=some (.lst u1,true) :=
  ⟨_,zu (uY _ _ _) (by rw [yF];exact hl),fun d hd=>od_T _ (qx hd),rfl⟩
 obtain ⟨u2,l2,m2,c2⟩:∃ u2:List D,u2.length<=60/\(∀ d∈u2,Od m d)/\wX [.lst (tD ts),.int (dr P ((ts.length:Nat)+1)+dr (nx P1 14) 2)]=some (.lst u2,true) :=
  ⟨_,zu (uY _ _ _) (by rw [yF];exact hl),fun d hd=>od_T _ (qx hd),rfl⟩
 have a0:cz [.lst [.tup [.int a,.int b],.tup [.int a,.int b],.tup [.int 0,.int 0],.tup [.int m,.int 0],.tup [.int 0,.int m],.tup [.int (-1),.int 0],.tup [.bl true,.int 0],.tup [.int 0,.non],.tup [.int 0]],.lst [.tup [.int 0,.int 1,.int 2],.lst [.int 0,.int 1],.non,.int 0,.str "01"]]=some (.lst (soD a b m),true):=rfl;have a1:cz [.lst u1,.lst [x]]=some (.lst (u1++[x]),true):=vn (by simp;omega);have a2:cz [.lst (u1++[x]),.lst u2]=some (.lst (u1++[x]++u2),true):=vn (by simp;omega);refine ⟨nx (nx P1 14) 2,u1++[x]++u2,by simp;omega,fun d hd=> ?_,?_⟩
 ·rcases zg.mp hd with hd | hd
  ·rcases zg.mp hd with hd | hd
   ·exact m1 d hd
   ·rw [ze.mp hd];exact hx
  ·exact m2 d hd
 ·clear hx m1 m2 l1 l2
  unfold bQ fA
  trace "Ін)0XĘTPтy7ba-Кħ^=aazВzatzba-zЄTtzВzВzt-yiЪzbВ'=ВbВPŴR9Ё0ЉрŵЪ'ipPĀ-$ŶЉЉpWPŷ$Ÿ`"
end
end K02
namespace K02
open PySem L2
structure Di(m:Nat)(ts:List (Int×Int))(vs:List D):Prop where
 nd:ts.Nodup
 l:vs.length=ts.length
 m:ts.length<=m
theorem pZ{t:Int×Int}{d:D}:∀ (ts:List (Int×Int)) (vs:List D),vs.length=ts.length->∃ ts' vs',eQ (ts.map kT) vs (kT t) d=(ts'.map kT,vs')/\vs'.length=ts'.length/\(ts'=ts\/t∉ts/\ts'=ts++[t])
 | [],[],_=>⟨[t],[d],rfl,rfl,.inr ⟨List.not_mem_nil,rfl⟩⟩
 | u::ts,w::vs,hl=>by
  rw [yW];unfold eQ
  by_cases e:u=t
  ·rw [if_pos (by rw [e])]
   exact ⟨u::ts,d::vs,rfl,hl,.inl rfl⟩
  ·rw [if_neg (fun h=>e (jI h))]
   obtain ⟨ts',vs',e1,e2,e3⟩:=pZ (t:=t) (d:=d) ts vs (Nat.succ.inj hl);rw [e1];refine ⟨u::ts',w::vs',rfl,by rw [yM,yM,e2],?_⟩
   rcases e3 with rfl | ⟨h,rfl⟩
   ·exact .inl rfl
   ·exact .inr ⟨fun z=>by
     rcases yP.mp z with z | z
     ·exact e z.symm
     ·exact h z,rfl⟩
 | [],_::_,hl=>by simp at hl
 | _::_,[],hl=>by simp at hl
theorem Di.put{m:Nat}{ts:List (Int×Int)}{vs:List D}(h:Di m ts vs){a b:Int}{d:D}(hm:m<=900):∃ ts' vs',iq (.dT (ts.map kT) vs) (.tup [.int a,.int b]) d=some (.dT (ts'.map kT) vs')/\Di (m+1) ts' vs':=by
 obtain ⟨ts',vs',e1,e2,e3⟩:=pZ (t:=(a,b)) (d:=d) ts vs h.l;have hm':=h.m;refine ⟨ts',vs',?_,⟨?_,e2,?_⟩⟩
 ·show (if (small (ts.map kT).length&&decide (ts.map kT).Nodup)=true then some (D.dT (eQ (ts.map kT) vs (kT (a,b)) d).1 (eQ (ts.map kT) vs (kT (a,b)) d).2) else none)=_
  rw [e1,if_pos (by
   rw [yV (nL h.nd),zS];unfold small;rw [yF]
   exact yV (by show ts.length<=1000000;omega))]
 ·rcases e3 with rfl | ⟨z,rfl⟩
  ·exact h.nd
  ·exact List.nodup_append.mpr ⟨h.nd,Ae.mpr ⟨List.not_mem_nil,AJ⟩,fun x hx y hy e=>z (by rw [<- ze.mp hy,<- e];exact hx)⟩
 ·rcases e3 with rfl | ⟨z,rfl⟩
  ·omega
  ·rw [yX];show ts.length+1<=_;omega
theorem qf(ts:List (Int×Int))(vs:List D):dB [.dT (ts.map kT) vs]=some (.lst (tD ts),true):=by
 show some (D.lst ((ts.map kT).map fun k=> .tup (k.map wO)),true)=_
 rw [zR];rfl
theorem web_1{n:Nat}(h1:1<=n)(hn:n<=40)(P:Pn){x1:Option (D×Md)}:∃ (P':Pn) (tk:List (Int×Int)) (vs:List D) (y:Option (D×Md)),Di 60 tk vs/\br (.nm 4) bq (nD (rgI 1 (n - 1))) [some (pD P,.io),x1,some (.int (n:Nat),.fz),some (.dT [] [],.ow),none,none,none,none]=some (.nx,[some (pD P',.io),x1,some (.int (n:Nat),.fz),some (.dT (tk.map kT) vs,.ow),y,none,none,none]):=by
 obtain ⟨ρ',e,P',tk,vs,y,hd,rfl⟩:=kG (T:= .nm 4) (f:=bq) (lo:=1) (fun i ρ=>∃ (P:Pn) (tk:List (Int×Int)) (vs:List D) (y:Option (D×Md)),Di i tk vs/\ρ=[some (pD P,.io),x1,some (.int (n:Nat),.fz),some (.dT (tk.map kT) vs,.ow),y,none,none,none]) (n - 1) [some (pD P,.io),x1,some (.int (n:Nat),.fz),some (.dT [] [],.ow),none,none,none,none] ⟨P,[],[],none,⟨AJ,rfl,yO _⟩,rfl⟩ (by
  rintro i hi ρ ⟨P,tk,vs,y,hd,rfl⟩;have b:=dI (nx P 8) (m:=1+(i:Nat)) (by omega) (by omega);obtain ⟨tk',vs',up,hd'⟩:=hd.put (a:=dr (nx P 8) (1+(i:Nat))) (b:=1+(i:Nat)) (d:= .bl true) (by omega)
  by_cases h:dr P 8 > 0
  ·unfold bq
   trace "Й,*pTƥĠ6!7'МaЩЧ"
   exact ⟨_,_,_,_,hd',rfl⟩
  ·unfold bq
   trace "Й/*pTv"
   exact ⟨_,_,_,_,⟨hd.nd,hd.l,by have:=hd.m;omega⟩,rfl⟩)
 exact ⟨P',tk,vs,y,⟨hd.nd,hd.l,by have:=hd.m;omega⟩,e⟩
theorem xG{n k:Nat}(h1:1<=n)(hn:n<=40){x1 x4:Option (D×Md)}(P:Pn)(tk:List (Int×Int))(vs:List D)(hd:Di 60 tk vs):∃ (P':Pn) (tk':List (Int×Int)) (vs':List D) (y5 y6 y7:Option (D×Md)),Di 60 tk' vs'/\br (.nm 5) bb (nD (rgI 0 k)) [some (pD P,.io),x1,some (.int (n:Nat),.fz),some (.dT (tk.map kT) vs,.ow),x4,none,none,none]=some (.nx,[some (pD P',.io),x1,some (.int (n:Nat),.fz),some (.dT (tk'.map kT) vs',.ow),x4,y5,y6,y7]):=by
 obtain ⟨ρ',e,P',tk',vs',y5,y6,y7,hd',rfl⟩:=oK (T:= .nm 5) (f:=bb) (fun i ρ=>∃ (P:Pn) (tk:List (Int×Int)) (vs:List D) (y5 y6 y7:Option (D×Md)),Di 60 tk vs/\ρ=[some (pD P,.io),x1,some (.int (n:Nat),.fz),some (.dT (tk.map kT) vs,.ow),x4,y5,y6,y7]) k _ ⟨P,tk,vs,none,none,none,hd,rfl⟩ (by
  rintro i hi ρ ⟨P,tk,vs,y5,y6,y7,hd,rfl⟩;have b:=dI P (m:=(n:Nat)) (by omega) (by omega);have c:=dI (nx P n) (m:=(n:Nat)) (by omega) (by omega);have hd0:Di tk.length tk vs:=⟨hd.nd,hd.l,yO _⟩;have hm:=hd.m;obtain ⟨tk',vs',up,hd'⟩:=hd0.put (a:=min (dr P n) (dr (nx P n) n)) (b:=max (dr P n) (dr (nx P n) n)) (d:= .bl true) (by omega)
  have gl:di [.dT (tk.map kT) vs]=some (.int (tk.length:Nat),false):=by
   show some (D.int ((tk.map kT).length:Nat),false)=_
   rw [yF]
  by_cases h:dr P n=dr (nx P n) n
  ·unfold bb
   trace "Й^МyМR/Ź*gƫƺ!+"
   exact ⟨_,_,_,_,_,_,hd,rfl⟩
  ·by_cases hlt:(tk.length:Int) < 60
   ·unfold bb
    trace "Й^МyМR,ļ*gƫƺ*XOTƥĠ6!7'оź'оŻЩЧ"
    exact ⟨_,_,_,_,_,_,⟨hd'.nd,hd'.l,by have:=hd'.m;omega⟩,rfl⟩
   ·unfold bb
    trace "Й^МyМR/ļ*gƫƺ*XOTv"
    exact ⟨_,_,_,_,_,_,hd,rfl⟩)
 exact ⟨P',tk',vs',y5,y6,y7,hd',e⟩
theorem yc{n:Nat}(hn:n<=40){d:Int}(h0:0<=d)(h1:d < 4):∃ k:Nat,k<=80/\gIx [.lst [.int 0,.int 3,.int (n:Nat),.int (2 * (n:Nat))],.int d]=some (.int (k:Nat),false):=by
 have:d=0\/d=1\/d=2\/d=3:=by omega
 rcases this with rfl | rfl | rfl | rfl
 ·exact ⟨0,by omega,rfl⟩
 ·exact ⟨3,by omega,rfl⟩
 ·exact ⟨n,by omega,rfl⟩
 ·exact ⟨2 * n,by omega,by show some (D.int (2 * (n:Int)),false)=_;rw [show ((2 * n:Nat):Int)=2 * (n:Int) by omega]⟩
theorem t_web{M:Int}(M0:0 < M)(M1:M<=40)(P:Pn):∃ (P':Pn) (n:Nat) (rs:List (Int×Int)),bP [pD P,.int M]=some (.ok (fN (n:Nat) rs) false,pD P')/\rs.length<=60/\1<=n/\n<=40:=by
 have b:=dI P (m:=M) (by omega) (by omega);obtain ⟨n,hn⟩:∃ n:Nat,1+dr P M=(n:Int):=⟨(1+dr P M).toNat,by omega⟩
 by_cases h:dr (nx P M) 3 > 0
 ·obtain ⟨P1,tk,vs,y,hd,e1⟩:=web_1 (n:=n) (by omega) (by omega) (nx (nx P M) 3) (x1:=some (.int M,.fz))
  have c:=dI P1 (m:=4) (by omega) (by omega);obtain ⟨k,hk,gx⟩:=yc (n:=n) (by omega) c.1 c.2;obtain ⟨P2,tk2,vs2,y5,y6,y7,hd2,e2⟩:=xG (n:=n) (k:=k) (by omega) (by omega) (x1:=some (.int M,.fz)) (x4:=y) (nx P1 4) tk vs hd;rw [show rgI 1 (n - 1)=rgI 1 ((1+dr P M) - 1).toNat by rw [hn,show ((n:Int) - 1).toNat=n - 1 by omega]] at e1;rw [<- hn] at e1 e2 gx;have gL:=qf tk2 vs2;have hm:=hd2.m;have gS:bF [.lst (tD tk2)]=some (.lst (tD (cZ tk2)),true):=ii (by omega);refine ⟨P2,n,cZ tk2,?_,by rw [(jn tk2).length_eq];exact hm,by omega,by omega⟩;rw [<- hn]
  have hnn:1+dr P M<=40:=by omega
  unfold bP dw
  trace "І0_)пėƹƤЀWƦ^ĎК,*pTƥFż_]ЊЊƤħ:FĔ)ЫbbaЄ_]ĽЊ-p$Ā$ƤE97a'Ё0Xľ$ĿPЏ"
 ·have c:=dI (nx (nx P M) 3) (m:=4) (by omega) (by omega)
  obtain ⟨k,hk,gx⟩:=yc (n:=n) (by omega) c.1 c.2;obtain ⟨P2,tk2,vs2,y5,y6,y7,hd2,e2⟩:=xG (n:=n) (k:=k) (by omega) (by omega) (x1:=some (.int M,.fz)) (x4:=none) (nx (nx (nx P M) 3) 4) [] [] ⟨AJ,rfl,by decide⟩;rw [<- hn] at e2 gx;rw [show ([]:List (Int×Int)).map kT=[] from rfl] at e2;have gL:=qf tk2 vs2;have hm:=hd2.m;have gS:bF [.lst (tD tk2)]=some (.lst (tD (cZ tk2)),true):=ii (by omega);refine ⟨P2,n,cZ tk2,?_,by rw [(jn tk2).length_eq];exact hm,by omega,by omega⟩;rw [<- hn]
  have hnn:1+dr P M<=40:=by omega
  unfold bP dw
  trace "І0_)пėƹƤЀWƦ^ĎRe*pTv:FĔ)ЫbbaЄ_]ĽЊ-p$Ā$ƤE97a'Ё0Xľ$ĿPЏ"
end K02
namespace K02
open PySem L2
def Sh(ns:List Int)(g:D)(ρ:Rho):Prop:=∃ x2 x3 x4 x5 x6 x7,ρ=[some (.klst (nD ns),.fz),some (g,.ow),x2,x3,x4,x5,x6,x7]
theorem pick3{d:Int}(h0:0<=d)(h1:d < 3):∃ k:Int,0 < k/\k<=40/\gIx [.lst [.int 4,.int 12,.int 40],.int d]=some (.int k,false):=by
 obtain rfl | rfl | rfl:d=0\/d=1\/d=2:=by omega
 ·exact ⟨4,by omega,by omega,rfl⟩
 ·exact ⟨12,by omega,by omega,rfl⟩
 ·exact ⟨40,by omega,by omega,rfl⟩
theorem body(ns:List Int)(g:D)(c:Int)(x2 x4 x5 x6 x7:Option (D×Md)):qC (iT [some (.klst (nD ns),.fz),some (g,.ow),x2,some (.int c,.fz),x4,x5,x6,x7]) (Sh ns g):=by
 have d:=dI (pen0 c) (m:=3) (by omega) (by omega);obtain ⟨k,k0,k1,gx⟩:=pick3 d.1 d.2;obtain ⟨P1,n,rs,e1,l1,n0,n1⟩:=t_web k0 k1 (nx (pen0 c) 3);obtain ⟨P2,os,l2,e2⟩:=t_list (n:=(n:Nat)) l1 P1;have r1:=lI (m:=(n:Nat)) (ts:=os) (by omega) (by omega) (by omega);obtain ⟨P3,ds,l3,o3,e3⟩:=mS (m:=(n:Nat)) l2 P2;have r2:=gw (m:=(n:Nat)) (by omega) (by omega) (by omega) o3;obtain ⟨P4,ds4,l4,o4,e4⟩:=mS (m:=(n:Nat)) l2 P3;have r3:=gw (m:=(n:Nat)) (by omega) (by omega) (by omega) o4;clear o3 o4;unfold iT
 trace "Ċ<2]ŽА"
 trace "Ċ<н)ЫbВp$ĀPħЀR"
 trace "Ċ<пEЀR"
 trace "Ċ/j}]ŀd+"
 trace "Ċ<Ė)žR}]ſЀR"
 trace "ƀ/;j}]Łdj})Ė)к}]ƁЀ$łd+"
 exact ⟨_,_,_,_,_,_,rfl⟩
abbrev nb(d:D):Prop:=∀ ds:List D,aP [d,.lst ds]=some (.ok (.bl true) false,.non)
theorem wG{m:Int}(h:¬ (1<=m/\m<=40)):nb (.int m):=fun _=>uj (wo_no h)
theorem uk{d:D}(h:NoW d):nb d:=fun _=>uj (wo_bad h.m)
theorem turn{d:D}(h:nb d){x0 x1 x3 x4 x5 x6 x7:Option (D×Md)}:iU [x0,x1,some (d,.fz),x3,x4,x5,x6,x7]=some (.nx,[x0,x1,some (d,.fz),x3,x4,x5,x6,x7]):=by
 have h:∀ ds:List D,aP [d,.lst ds]=some (.ok (.bl true) false,.non):=h;unfold iU
 trace "5/;jsЪzВ-PJdjsЪtPJd+!"
theorem xH{x0 x1 x3 x4 x5 x6 x7:Option (D×Md)}:∀ (l:List D) (y:Option (D×Md)),(∀ d∈l,nb d)->∃ y',br (.nm 2) iU l [x0,x1,y,x3,x4,x5,x6,x7]=some (.nx,[x0,x1,y',x3,x4,x5,x6,x7])
 | [],y,_=>⟨y,rfl⟩
 | d::l,y,h=>by
  obtain ⟨y',e⟩:=xH l (some (d,.fz)) (x0:=x0) (x1:=x1) (x3:=x3) (x4:=x4) (x5:=x5) (x6:=x6) (x7:=x7) (fun x hx=>h x (yH _ hx));exact ⟨y',iV rfl (turn (h d yL)) e⟩
theorem cut_T(xs:List (Int×Int))(lo hi:Option Int):∃ ys:List (Int×Int),ys.length<=xs.length/\gO (tD xs) lo hi=tD ys:=by
 refine ⟨(xs.drop (HT.sIx xs.length 0 lo)).take (HT.sIx xs.length xs.length hi - HT.sIx xs.length 0 lo),by rw [Aa,List.length_drop];omega,?_⟩;unfold gO;rw [yF,tD,tD,List.map_take,List.map_drop]
theorem law_ok(ns:List Int):nX [.klst (nD ns)]=some (.ok (.bl true) false,.non):=by
 obtain ⟨us,hu,c⟩:∃ us:List (Int×Int),us.length=66/\cr 1 (cP (.ex (sC (.int 66)))) (.nm 8) none (cn [(sOp gJ [.bor 8,.ex (sC (.int 7))]),(sOp cz [.ex (sC (.int 7)),.ex (sOp gM [.bor 8,.ex (sC (.int 7))])])]) [some (.klst (nD ns),.fz),none,none,none,none,none,none,none]=some (.ok (.lst (tD us)) true,[some (.klst (nD ns),.fz),none,none,none,none,none,none,none]):=by
  refine ⟨(rgI 0 (Int.toNat 66)).map fun x=>(x % 7,7+x / 7),by rw [yF,lJ];rfl,?_⟩
  trace "5ĮƂйЊ!ĦƵǚĕƩ7'iTƃƤЄ_жƄЊPЏ"
 obtain ⟨vs,hv,cv⟩:=cut_T us none (some 60)
 have g6:o7 [.lst (tD us),.int 60]=some (.lst (tD vs),true):=by rw [<- cv];rfl
 have ga:cz [.lst (tD vs),.lst [.non]]=some (.lst (tD vs++[.non]),true):=vn (by rw [yF];simp;omega);have r1:=lI (m:=40) (ts:=us) (by omega) (by omega) (by omega);have r2:=lI (m:=40) (ts:=vs) (by omega) (by omega) (by omega)
 have r3:=gw (m:=40) (ds:=tD vs++[.non]) (by omega) (by omega) (by rw [yX,yF];simp;omega) (fun d hd=>by
  rcases zg.mp hd with hd | hd
  ·exact od_T _ hd
  ·rw [ze.mp hd];exact nv rfl rfl rfl)
 obtain ⟨y,t⟩:=xH (x0:=some (.klst (nD ns),.fz)) (x1:=some (.lst (tD us),.ow)) (x3:=none) (x4:=none) (x5:=none) (x6:=none) (x7:=none) [.int 0,.int 41,.int (-1),.bl true,.non,.str "3",.lst [.int 3],.tup [.int 3],.int (10 ^ (30:Int).toNat)] none (by
  intro d hd;simp only [yP,List.not_mem_nil,or_false] at hd
  rcases hd with rfl | rfl | rfl | rfl | rfl | rfl | rfl | rfl | rfl
  ·exact wG (by decide)
  ·exact wG (by decide)
  ·exact wG (by decide)
  ·exact uk (ym _)
  ·exact uk yl
  ·exact uk (now_s _)
  ·exact uk (now_l _)
  ·exact uk (now_t _)
  ·exact wG (by decide))
 obtain ⟨ρ',e,x2,x3,x4,x5,x6,x7,rfl⟩:=iC (T:= .nm 3) (f:=iT) (inj:=D.int) (fun (_:Unit) ρ=>Sh ns (.lst (tD us)) ρ) (fun _ _=>()) (u5 ns 0::oa ns (some 1) (some 5)) () [some (.klst (nD ns),.fz),some (.lst (tD us),.ow),y,none,none,none,none,none] ⟨_,_,_,_,_,_,rfl⟩ (by
  rintro c hc _ ρ ⟨x2,x3,x4,x5,x6,x7,rfl⟩;obtain ⟨ρ',e,h⟩:=body ns (.lst (tD us)) c x2 x4 x5 x6 x7
  exact ⟨_,ρ',rfl,e,h⟩)
 unfold nX xR
 trace "ІƅRe;j_]ŀd;j_жŃ$Łdj_)0жŃЪt$Ɔ$łd+:Fğ=bbЄTbbb'=tztЄ_TЩƇ:FğЫ'2sTƈ!-XƉ$ƊЊ!Ģu"
end K02
namespace K02
open PySem L2 PyProof.Rows
def DIn(K:A9)(x:Str)(i:Nat):Prop:=∃ (f:Addr) (od an:Option Addr) (sl:Array (Option Value)) (oc kV dc pm cd ct:Value),PySem.W.nsIn K mainGlobals x=some (some (.ref f))/\K.lookup f=some ⟨oc,od,.func (PySem.W.fnOf x x (bw (top i)) (aN (top i)) (ac (top i)) .none kV dc pm an cd ct),sl⟩/\PySem.W.codeIn K cd x=true/\PySem.W.keepIn K (.ref f)=true
theorem din_mk{K:A9}{x:Str}{i:Nat}{f:Addr}{od an:Option Addr}{sl:Array (Option Value)}{oc kV dc pm cd ct:Value}(a:PySem.W.nsIn K mainGlobals x=some (some (.ref f)))(l:K.lookup f=some ⟨oc,od,.func (PySem.W.fnOf x x (bw (top i)) (aN (top i)) (ac (top i)) .none kV dc pm an cd ct),sl⟩)(c:PySem.W.codeIn K cd x=true)(k:PySem.W.keepIn K (.ref f)=true):DIn K x i:=⟨f,od,an,sl,oc,kV,dc,pm,cd,ct,a,l,c,k⟩
theorem o5{K:A9}{mg:Str->Option Value}{h:Heap}(X:K.In h)(G:h.Ns mainGlobals mg){x:Str}{i:Nat}{ps:List Str}(d:DIn K x i)
 (hb:∀ (kV doc pm:Value) (an:Option Addr) (cdv ct:Value) (us:List Value),us.length=ps.length->bindArgs (PySem.W.fnOf x x (bw (top i)) (aN (top i)) (ac (top i)) .none kV doc pm an cdv ct) ⟨us,[]⟩=pure (ps.zip us)):Has K mg x (top i) ps:=by
 obtain ⟨f,od,an,sl,oc,kV,dc,pm,cd,ct,a,l,c,k⟩:=d;exact ⟨f,_,l9 l c k,zr X G a,(l9 (st:=top i) l c k).binds hb⟩
theorem own_of{K:A9}{mg:Str->Option Value}{h:Heap}{x:Str}{C:Addr}{bs:List Value}{ni:String}(X:K.In h)(G:h.Ns mainGlobals mg)(e:PySem.W.nsIn K mainGlobals x=some (some (.ref C)))(q:PySem.W.excIn K C bs ni=true):OwnCls x C bs ni mg h where
 bound:=zr X G e
 obj:=by
  unfold PySem.W.excIn at q
  split at q
  case h_2=>cases q
  case h_1 d1 cl ss look =>
   split at q
   case h_2=>cases q
   case h_1 C2 rest a0 a1 a2 a3 nw a5 hmro hslots =>
    rcases cl with ⟨c1,c2,c3,c4,c5,c6,c7,c8,c9,c10,c11⟩
    rcases ss with ⟨ss⟩
    simp only [yY,beq_iff_eq,Bool.not_eq_true'] at q
    rcases q with ⟨⟨⟨⟨⟨w1,w2⟩,w3⟩,w4⟩,w5⟩,w6⟩
    dsimp only at hmro hslots w3 w5 w6;cases w1;cases w2;cases hmro;cases w3;cases hslots;exact ⟨rest,c4,c1,c5,c2,c6,c7,c8,c9,c10,d1,a0,a1,a2,a3,a5,_,X _ _ look,.of_isNs (PySem.W.isNs_of_in X w5),PySem.W.nsMap_none_of_in X w5 w6,PySem.W.tail_of_in X w4⟩
theorem kZ{K:A9}{mg:Str->Option Value}{h:Heap}(X:K.In h)(G:h.Ns mainGlobals mg){x:Str}{i:Nat}(p0:Str)(d:DIn K x i)(hb:∀ (kV doc pm:Value) (an:Option Addr) (cdv ct u0:Value),bindArgs (PySem.W.fnOf x x (bw (top i)) (aN (top i)) (ac (top i)) .none kV doc pm an cdv ct) ⟨[u0],[]⟩=pure ([p0].zip [u0])):Has K mg x (top i) [p0]:=o5 X G d fun _ _ _ _ _ _ us hl=>match us,hl with | [u0],_=>hb _ _ _ _ _ _ _
theorem fD{K:A9}{mg:Str->Option Value}{h:Heap}(X:K.In h)(G:h.Ns mainGlobals mg){x:Str}{i:Nat}(p0 p1:Str)(d:DIn K x i)(hb:∀ (kV doc pm:Value) (an:Option Addr) (cdv ct u0 u1:Value),bindArgs (PySem.W.fnOf x x (bw (top i)) (aN (top i)) (ac (top i)) .none kV doc pm an cdv ct) ⟨[u0,u1],[]⟩=pure ([p0,p1].zip [u0,u1])):Has K mg x (top i) [p0,p1]:=o5 X G d fun _ _ _ _ _ _ us hl=>match us,hl with | [u0,u1],_=>hb _ _ _ _ _ _ _ _
theorem yr{K:A9}{mg:Str->Option Value}{h:Heap}(X:K.In h)(G:h.Ns mainGlobals mg){x:Str}{i:Nat}(p0 p1 p2:Str)(d:DIn K x i)(hb:∀ (kV doc pm:Value) (an:Option Addr) (cdv ct u0 u1 u2:Value),bindArgs (PySem.W.fnOf x x (bw (top i)) (aN (top i)) (ac (top i)) .none kV doc pm an cdv ct) ⟨[u0,u1,u2],[]⟩=pure ([p0,p1,p2].zip [u0,u1,u2])):Has K mg x (top i) [p0,p1,p2]:=o5 X G d fun _ _ _ _ _ _ us hl=>match us,hl with | [u0,u1,u2],_=>hb _ _ _ _ _ _ _ _ _
theorem all_mk{l:PySem.W.OpenLaw}{w:World}{K:A9}{h:Heap}{mg:Str->Option Value}{fa:Addr}(X:K.In h)(G:h.Ns mainGlobals mg)(hfa:mg "law" = some (.ref fa))
 {f6:Addr} {k6:ClassData}
 {i3:Addr} {m3:ClassData}
 {c5:Addr} {g5:ClassData}
 {c8:Addr} {g8:ClassData}
 {f5:Addr} {i5:ClassData}
 {j3:Addr} {a4:ClassData}
 {g6:Addr} {m6:ClassData}
 {f8:Addr} {i8:ClassData}
 {k3:Addr} {b4:ClassData}
 {TE:Addr} {eT:ClassData}
 {f2:Tok}
 {a3:Tok}
 (d0:DIn K "is_whole" 12)
 (d1:DIn K "whole_within" 13)
 (d2:DIn K "many_good" 17)
 (d3:DIn K "tie_told" 18)
 (d4:DIn K "is_place" 19)
 (d5:DIn K "web_of" 20)
 (d6:DIn K "_law_cell_at" 22)
 (d7:DIn K "_law_next" 23)
 (d8:DIn K "_law_pen_of" 24)
 (d9:DIn K "_law_draw" 25)
 (d10:DIn K "_law_whole" 26)
 (d11:DIn K "_law_web_by" 27)
 (d12:DIn K "_law_kind_of" 28)
 (d13:DIn K "_law_list_by" 29)
 (d14:DIn K "_law_spoilt" 30)
 (d15:DIn K "_law_first_amiss" 31)
 (d16:DIn K "_law_right" 32)
 (d17:DIn K "_law_no_number" 33)
 (d18:DIn K "law" 34)
 (b3:PySem.W.nsIn K mainGlobals "ValueError" = some none)
 (a10:PySem.W.nsIn K mainGlobals "all" = some none)
 (k9:PySem.W.nsIn K mainGlobals "bool" = some none)
 (g3:PySem.W.nsIn K mainGlobals "enumerate" = some none)
 (b10:PySem.W.nsIn K mainGlobals "int" = some none)
 (c3:PySem.W.nsIn K mainGlobals "isinstance" = some none)
 (c10:PySem.W.nsIn K mainGlobals "len" = some none)
 (m9:PySem.W.nsIn K mainGlobals "list" = some none)
 (f10:PySem.W.nsIn K mainGlobals "max" = some none)
 (g10:PySem.W.nsIn K mainGlobals "min" = some none)
 (i9:PySem.W.nsIn K mainGlobals "range" = some none)
 (b8:PySem.W.nsIn K mainGlobals "sorted" = some none)
 (j9:PySem.W.nsIn K mainGlobals "tuple" = some none)
 (j2:PySem.W.nsIn K mainGlobals "MOST_PLACES" = some (some (.int 40 f2)))
 (f3:PySem.W.nsIn K mainGlobals "MOST_TIES" = some (some (.int 60 a3)))
 (k8:PySem.W.nsIn K mainGlobals "NoWeb" = some (some (.ref f8)))
 (nT:PySem.W.nsIn K mainGlobals "TieError" = some (some (.ref TE)))
 (yT:PySem.W.clsIn K TE=some eT)
 (tT:PySem.W.typeIn K (.ref TE)=some (.type "type"))
 (sT:PySem.W.subIn K (.ref TE) (.type "BaseException")=some true)
 (c9:PySem.W.subIn K (.ref f8) (.ref TE)=some true)
 (xT:PySem.W.excIn K TE [.type "ValueError",.type "Exception",.type "BaseException",.type "object"] "ValueError.__new__" = true)
 (TT:TIn K TE)
 (E_NoWeb:EIn K TE f8 "NoWeb" "NoWeb.__init__" ig)
 (tk0_NoWeb:PySem.W.takerIn K f8 "number" = some none)
 (nf0_NoWeb:PySem.W.findIn K (.ref f8) "number" = some none)
 (hd_NoWeb:PySem.W.hasDictIn K f8=true)
 (g9:PySem.W.clsIn K f8=some i8)
 (a9:PySem.W.typeIn K (.ref f8)=some (.type "type"))
 (j5:PySem.W.nsIn K mainGlobals "NoPlace" = some (some (.ref c5)))
 (b6:PySem.W.clsIn K c5=some g5)
 (m5:PySem.W.typeIn K (.ref c5)=some (.type "type"))
 (f7:PySem.W.nsIn K mainGlobals "NoKind" = some (some (.ref f6)))
 (m7:PySem.W.clsIn K f6=some k6)
 (j7:PySem.W.typeIn K (.ref f6)=some (.type "type"))
 (k5:PySem.W.nsIn K mainGlobals "NoShare" = some (some (.ref f5)))
 (c6:PySem.W.clsIn K f5=some i5)
 (a6:PySem.W.typeIn K (.ref f5)=some (.type "type"))
 (f4:PySem.W.nsIn K mainGlobals "NoSquare" = some (some (.ref j3)))
 (a5:PySem.W.clsIn K j3=some a4)
 (j4:PySem.W.typeIn K (.ref j3)=some (.type "type"))
 (c4:PySem.W.nsIn K mainGlobals "NoNumber" = some (some (.ref i3)))
 (m4:PySem.W.clsIn K i3=some m3)
 (i4:PySem.W.typeIn K (.ref i3)=some (.type "type"))
 (g7:PySem.W.nsIn K mainGlobals "NoText" = some (some (.ref g6)))
 (a8:PySem.W.clsIn K g6=some m6)
 (k7:PySem.W.typeIn K (.ref g6)=some (.type "type"))
 (j8:PySem.W.nsIn K mainGlobals "NoRow" = some (some (.ref c8)))
 (f9:PySem.W.clsIn K c8=some g8)
 (m8:PySem.W.typeIn K (.ref c8)=some (.type "type"))
 (g4:PySem.W.nsIn K mainGlobals "TooGreat" = some (some (.ref k3)))
 (b5:PySem.W.clsIn K k3=some b4)
 (k4:PySem.W.typeIn K (.ref k3)=some (.type "type"))
 (j1:PySem.W.subIn K (.ref f8) (.ref c5)=some false)
 (m1:f8≠c5)
 (b2:PySem.W.subIn K (.ref f8) (.ref f6)=some false)
 (g2:f8≠f6)
 (k1:PySem.W.subIn K (.ref f8) (.ref f5)=some false)
 (a2:f8≠f5)
 (b1:PySem.W.subIn K (.ref f8) (.ref j3)=some false)
 (g1:f8≠j3)
 (a1:PySem.W.subIn K (.ref f8) (.ref i3)=some false)
 (f1:f8≠i3)
 (c2:PySem.W.subIn K (.ref f8) (.ref g6)=some false)
 (i2:f8≠g6)
 (k2:PySem.W.subIn K (.ref f8) (.ref c8)=some false)
 (m2:f8≠c8)
 (c1:PySem.W.subIn K (.ref f8) (.ref k3)=some false)
 (i1:f8≠k3)
 (b9:PySem.W.subIn K (.ref f8) (.type "ValueError")=some true)
 (a7:PySem.W.findIn K (.ref f8) "__getattribute__" = some (some (.builtin "BaseException.__getattribute__")))
 (b7:PySem.W.findIn K (.ref f8) "__getattr__" = some none)
 (c7:PySem.W.mroIn K f8 (.type "BaseException")=some true)
 (j6:PySem.W.findIn K (.ref f8) "__class__" = some (some (.builtin "object.__class__")))
 (i7:PySem.W.mroIn K f8 (.type "object")=some true)
 : ∃ fd:FuncData,(∀ (s:Shared) (v:Value),BindsTo s fd ⟨[v],[]⟩ [("script",v)])/\∀ base:Heap,K.In base->base.Ns mainGlobals mg->gp l.prog w K mg base (CXr l.prog w) 7 fa fd ["script"] (spF K none nX):=by
 obtain ⟨fL,odL,anL,slL,ocL,kVL,dcL,pmL,cdL,ctL,aL,lL,cL,kL⟩:=d18;cases hfa.symm.trans (zr X G aL);have T:Txt K mg:=⟨zl X G b3,zl X G a10,zl X G k9,zl X G g3,zl X G b10,zl X G c3,zl X G c10,zl X G m9,zl X G f10,zl X G g10,zl X G i9,zl X G b8,zl X G j9,⟨f2,zr X G j2⟩,⟨a3,zr X G f3⟩⟩;have D0:=kZ X G "thing" d0 (by intros;rfl);have D1:=yr X G "thing" "least" "most" d1 (by intros;rfl);have D2:=kZ X G "thing" d2 (by intros;rfl);have D3:=fD X G "many" "thing" d3 (by intros;rfl);have D4:=fD X G "many" "thing" d4 (by intros;rfl);have D5:=fD X G "many" "things" d5 (by intros;rfl);have D6:=fD X G "script" "k" d6 (by intros;rfl);have D7:=kZ X G "seed" d7 (by intros;rfl);have D8:=kZ X G "cell" d8 (by intros;rfl);have D9:=fD X G "pen" "many" d9 (by intros;rfl);have D10:=kZ X G "found" d10 (by intros;rfl);have D11:=fD X G "pen" "most" d11 (by intros;rfl);have D12:=kZ X G "e" d12 (by intros;rfl);have D13:=fD X G "web" "pen" d13 (by intros;rfl);have D14:=yr X G "things" "many" "pen" d14 (by intros;rfl);have D15:=fD X G "many" "things" d15 (by intros;rfl);have D16:=fD X G "many" "things" d16 (by intros;rfl);have D17:=fD X G "many" "things" d17 (by intros;rfl);refine ⟨PySem.W.fnOf "law" "law" (bw (top 34)) (aN (top 34)) (ac (top 34)) .none kVL dcL pmL anL cdL ctL,fun s v=> .of_eq rfl,fun base KB GB=> ?_⟩;obtain ⟨T0,TL⟩:=TT.t KB (zr X G nT) (own_of KB GB nT xT)
 have OF_NoWeb:xF l.prog w K mg base "NoWeb" ["number"] 1:=E_NoWeb.err X G KB TL (fun _ _ _ _ _ _ us hl=>match us,hl with | [_,_],_=>rfl) fun F kc kf=>lS F T0 kc kf tk0_NoWeb
 have HT:Hdl K mg "TieError" TE:=⟨zr X G nT,sT,by rw [yT];rfl,tT⟩
 have SU:∀ nm,nms.elem nm=true->∀ C,og K nm C->PySem.W.subIn K (.ref C) (.ref TE)=some true:=fun nm h C hC=>by
  rcases (by simpa [nms] using h:nm=("NoWeb" : Str)) with rfl
  ·have e:C=f8:=by have:=(show PySem.W.nsIn K mainGlobals "NoWeb" = _ from hC).symm.trans k8;simpa using this
   subst e;exact c9
 have i6:Kd.pJ K mg f8 0:=⟨⟨a7,b7,c7,j6,i7,by rw [g9];rfl⟩,by decide,Kd.kit_ve b9,⟨f8,zr X G k8,Kd.uw⟩,⟨c5,zr X G j5,Kd.cf m1 b6 m5 j1⟩,⟨f6,zr X G f7,Kd.cf g2 m7 j7 b2⟩,⟨f5,zr X G k5,Kd.cf a2 c6 a6 k1⟩,⟨j3,zr X G f4,Kd.cf g1 a5 j4 b1⟩,⟨i3,zr X G c4,Kd.cf f1 m4 i4 a1⟩,⟨g6,zr X G g7,Kd.cf i2 a8 k7 c2⟩,⟨c8,zr X G j8,Kd.cf m2 f9 m8 k2⟩,⟨k3,zr X G g4,Kd.cf i1 b5 k4 c1⟩⟩
 have KN:Kd.qB K mg nms:=⟨fun nm h j hj C hC=>by
  rcases (by simpa [nms] using h:nm=("NoWeb" : Str)) with rfl
  ·have e:C=f8:=by have:=(show PySem.W.nsIn K mainGlobals "NoWeb" = _ from hC).symm.trans k8;simpa using this
   subst e;rw [show Kd.names.findIdx? (·== ("NoWeb" : Str))=some 0 by decide +kernel] at hj;cases hj
   exact i6⟩
 have FK_number:sv K bK "number" := ⟨fun nm h C hC=>by
  rcases (by simpa [bK] using h:nm=("NoWeb" : Str)) with rfl
  ·have e:C=f8:=by have:=(show PySem.W.nsIn K mainGlobals "NoWeb" = _ from hC).symm.trans k8;simpa using this
   subst e
   exact ⟨i6.exk,hd_NoWeb,nf0_NoWeb⟩⟩
 have GW:=jw (P:=l.prog) (w:=w) (base:=base) D10 T;have GK:=wE (P:=l.prog) (w:=w) (base:=base) D12 T;have G2:=nt (P:=l.prog) (w:=w) (base:=base) D0 T;have G12:=iO (P:=l.prog) (w:=w) (base:=base) D6 T;have G5:=lT (P:=l.prog) (w:=w) (base:=base) D7 T;have G9:=jv (P:=l.prog) (w:=w) (base:=base) D8 T;have G8:=ko (P:=l.prog) (w:=w) (base:=base) D10 T;have G14:=iM (P:=l.prog) (w:=w) (base:=base) D1 T G2;have G4:=lU (P:=l.prog) (w:=w) (base:=base) D9 T G5;have G16:=fm (P:=l.prog) (w:=w) (base:=base) D15 T G8;have G6:=lR (P:=l.prog) (w:=w) (base:=base) D2 T G14;have G1:=nu (P:=l.prog) (w:=w) (base:=base) D4 T G14;have G11:=jt (P:=l.prog) (w:=w) (base:=base) D11 T G4;have G13:=iN (P:=l.prog) (w:=w) (base:=base) D13 T G4;have G10:=ju (P:=l.prog) (w:=w) (base:=base) D14 T G4;have G3:=nr (P:=l.prog) (w:=w) (base:=base) D3 T G1;have G0:=rh (P:=l.prog) (w:=w) (base:=base) D5 T G6 G3 OF_NoWeb;have G7:=kq (P:=l.prog) (w:=w) (base:=base) D16 T G16 G0 G8 FK_number GW HT SU GK KN;have G15:=gB (P:=l.prog) (w:=w) (base:=base) D17 T G0 FK_number GW HT SU GK KN;exact ok_law (P:=l.prog) (w:=w) (base:=base) (l9 lL cL kL) T G7 G15 G12 G9 G11 G4 G13 G10
end K02
open PySem PySem.W PyProof.Rows
namespace PySem.W.Fast
def tw5105673956185107153:=0
def tw9296360433889664002:=0
def tw16968176118458789586:=0
def tw9497945907656264259:=0
def tw9515242367644423802:=0
def tw10426125643436316091:=0
def tw4621932581444047675:=0
def tw17643754061406199020:=0
def tw11187973929812520656:=0
def tw15452572443179084588:=0
def tw9156678896304099913:=0
def tw15886500619415505586:=0
def tw4419873286371483742:=0
def tw15221209806709932071:=0
def tw15724212988503489715:=0
def tw12798869161161681673:=0
def tw2257529940240947247:=0
def tw9840342860782594374:=0
def tw3101917741504857134:=0
def tw16002967266952078866:=0
def tw7523194637212750777:=0
def tw4361700775904427359:=0
def tw3092117133297227249:=0
def tw10299302589577801163:=0
def tw13840814423707232359:=0
def tw9563574807059059695:=0
def tw4157206338815638501:=0
def tw16915470645016011554:=0
def tw16472409268878238316:=0
def tw10700183255674453818:=0
def tw8164005668110941744:=0
def tw3764688243253525356:=0
def tw13426244417702134072:=0
def tw5681066748535004433:=0
def tw529536973988259948:=0
def tw16289191233600259711:=0
def tw1906743188756502811:=0
def tw10335527622381539264:=0
def tw14501001857826371202:=0
def tw17925384258215065573:=0
def tw4026151001005817321:=0
def tw7328447075739424539:=0
def tw13517250619966689955:=0
def tw16131593051203169754:=0
def tw8933567498414919238:=0
def tw5623994078177797194:=0
def tw14191745827877185554:=0
def tw5312734613080425828:=0
def tw3484416591250251468:=0
def tw12106905011117388788:=0
def tw10155365746132046468:=0
def tw14613296582639449008:=0
def tw16749348522385944071:=0
def tw69414778264802052:=0
def tw11627183963262164719:=0
def tw16550838102048051623:=0
def tw7215932318001415403:=0
def tw734138898119960010:=0
def tw2665306549610424077:=0
def tw16172578528114110199:=0
def tw1541540961381408409:=0
def tw8789256864460932259:=0
def tw15622835117965313283:=0
def tw5388663596951873645:=0
def tw7317576523658780031:=0
def tw8621301723031713458:=0
def tw12068798485007620914:=0
def tw2625098255110226060:=0
def tw12941643214049860704:=0
def tw4203021270051977171:=0
def tw15060062891209958045:=0
def tw11418939547134857076:=0
def tw3094701115853657799:=0
def tw4179031660912777645:=0
def tw305048472116853797:=0
def tw3857615796733700780:=0
def tw804092199982636349:=0
def tw13829591483307370896:=0
def tw17969941481158815411:=0
def tw15213048550514571353:=0
def tw4033379813872489195:=0
def tw8903238766108814736:=0
def tw539595736760451978:=0
def tw16149030986926176842:=0
def tw11622863634709415212:=0
def tw15161603537278095827:=0
def tw10097012582147076362:=0
def tw1147522009701800784:=0
def tw112567504061534027:=0
def tw9192171586001469603:=0
def tw9455475090630465045:=0
def tw17845374550828520631:=0
def tw14439765378166140033:=0
def tw8454840944936950519:=0
def tw18221076124747093969:=0
def tw10752687858943698738:=0
def tw7470021291188754609:=0
def tw17601101962401091345:=0
def tw16629561534657121264:=0
def tw14864845329073380503:=0
def tw12059592832596718669:=0
def tw16118103595353321548:=0
def tw11712190458185945011:=0
def tw12976177241038019767:=0
def tw13231743877010270464:=0
def tw14566440943485919492:=0
def tw15069716523494295500:=0
def tw14790834132378566595:=0
def tw9685044298169568939:=0
def tw12532165626772418067:=0
def tw3241244739717862871:=0
def tw8160871880118814707:=0
def tw6951939212644042833:=0
def tw7805864855692585105:=0
def tw9508736203920968164:=0
def tw5759927347364260171:=0
def tw6585068141940680455:=0
def tw11990459337992974956:=0
def tw5036445103931068615:=0
def tw11732214188671553305:=0
def tw13792483299354683862:=0
def tw6834397320308548248:=0
def tw4954584648838934644:=0
def tw3482820431698744051:=0
def tw217222266210458990:=0
def tw6511239469406747073:=0
def tw11002848052431835627:=0
def tw11289143093466461953:=0
def tw13989995598129119793:=0
def tw17011488483646847055:=0
def tw2852278927748849453:=0
def tw5427499738942290107:=0
def tw10390157646234782899:=0
def tw6731276024794131016:=0
def tw4626940704210403192:=0
def tw17996964024917085871:=0
def tw7042659310547366237:=0
def tw10015853644003576960:=0
def tw17857563459279650048:=0
def tw4211952112222678748:=0
def tw7388713464098733815:=0
def tw12434779806091606683:=0
def tw13218621648322568166:=0
def tw16037262199133111090:=0
def tw5353813085845620550:=0
def tw12184380411685104690:=0
def tw10693841506766600124:=0
def tw5017801796808468123:=0
def tw5485572742587201778:=0
def tw17093224777342109595:=0
def tw17837415989878807268:=0
def tw9585978970863474492:=0
def tw4674102799890499726:=0
def tw11386625637836781638:=0
def tw5552461122284547459:=0
def tw15862806813707239167:=0
def tw5260856337621036202:=0
def tw8824595633291508535:=0
def tw13767189678803695011:=0
def tw14199714164133228370:=0
def tw2810533944269268182:=0
def tw14805814515597417852:=0
def tw726985913927333873:=0
def tw2385268686561707046:=0
def tw2335157872551914648:=0
def tw2927799364441409784:=0
def tw15137687247720179910:=0
def tw8605165415444627158:=0
def tw13553050674002434610:=0
def tw7097827964152542560:=0
def tw15632992782082381434:=0
def tw17094580856887593759:=0
def tw3904583755211930517:=0
def tw14788362278542820120:=0
def tw2648174423076098445:=0
def tw10069975712529536831:=0
def tw7317234293075219:=0
def tw3373145609055282853:=0
def tw14722794537435163219:=0
def tw17698735102306075112:=0
def tw11118301316682269745:=0
def tw11188117447681078326:=0
def tw8526028360262338249:=0
def tw10052001805573714066:=0
def tw11628655550579775585:=0
def tw12694589447371642155:=0
def tw17882641709403210578:=0
def tw15545184769064153574:=0
def tw12067549021546063074:=0
def tw16396790404030501481:=0
def tw15755044616229629136:=0
def tw1647960591809683682:=0
def tw17878424488110687958:=0
def tw14267268813261638861:=0
def tw1733859077932722978:=0
def tw5680315236850328200:=0
def tw8174591469460913490:=0
def tw11786325122171474085:=0
def tw7343611390307366373:=0
def tw5916140570258018564:=0
def tw14323227155912201964:=0
def tw14734032772098568817:=0
def tw8553059368797141306:=0
def tw2962324470309885386:=0
def tw16266442582153907279:=0
def tw8667492640987031791:=0
def tw11320351676317602388:=0
def tw6377384395623174761:=0
def tw6793172497655745189:=0
def tw13952158723898717365:=0
def tw7524379617451308511:=0
def tw18167724695441219349:=0
def tw4968929673044707356:=0
def tw13887902116395311400:=0
def tw10846345724684618374:=0
def tw274189353798237994:=0
def tw2873748437651673626:=0
def tw16655083059833703075:=0
def tw5979879043188829338:=0
def tw3664731896753646195:=0
def tw6771182271545134960:=0
def tw10497823618577955822:=0
def tw897888412878121761:=0
def tw14279065940840616024:=0
def tw18329075359065952542:=0
def tw1267704075650749254:=0
def tw16463793508043411602:=0
def tw5587484289544270231:=0
def tw8131721106225051767:=0
def tw3808584094389355786:=0
def tw15261137711255440680:=0
def tw10800367221633172730:=0
def tw4177351759533223642:=0
def tw3471986238504059686:=0
def tw17084317755948004794:=0
def tw1567247161763788871:=0
def tw7894344252036594922:=0
def tw5845538515087863352:=0
def tw438459731153329746:=0
def tw6623812351622530092:=0
def tw12325562205625792791:=0
def tw9161490523856799436:=0
def tw6760056911573607715:=0
def tw7618804249908900691:=0
def tw11300376045408061371:=0
def tw18277388166739348960:=0
def tw3133745999044795564:=0
def tw14889595167817102546:=0
def tw670427922429333600:=0
def tw10354477200866600673:=0
def tw3302770140995672700:=0
def tw6252695792229605141:=0
def tw10393078302967963895:=0
def tw6205024481829086969:=0
def tw16884622931589843948:=0
def tw5015507407206683207:=0
def tw8621336744817483243:=0
def tw16408362238061914836:=0
def tw11586196018267737339:=0
def tw17590088832654516399:=0
def tw14398365135244066966:=0
def tw6606014719576569030:=0
def tw6999941293234460784:=0
def tw10241233070082051121:=0
def tw17960406059949683352:=0
def tw12319047049370110589:=0
def tw7158441374720773216:=0
def tw16286715671046524454:=0
def tw133755455108545178:=0
def tw12514039047250868702:=0
def tw6788773261714906821:=0
def tw2484844197603217540:=0
def tw7717702957765121957:=0
def tw13350131943787299761:=0
def tw8078195926588453703:=0
def tw3822784309164373692:=0
def tw5674458297940323589:=0
def tw14245618210516037357:=0
def tw8697654515486363317:=0
def tw13949155002146243131:=0
def tw4589182232624314844:=0
def tw16970792351503237766:=0
def tw14949513074056673275:=0
def tw1620389302784492585:=0
def tw13323373534744806615:=0
def tw15854262060937163188:=0
def tw17960848765466677729:=0
def tw11978635649637171311:=0
def tw6181526210622171578:=0
def tw17181403740406987024:=0
def tw18042889414512086050:=0
def tw3016012700857477809:=0
def tw3942624392001961204:=0
def tw6662249597110656733:=0
def tw16803143847538834185:=0
def tw11843833423457600547:=0
def tw16504757533647375273:=0
end PySem.W.Fast
open_top head for PySem.Challenge.rw_tienumbers_k02_webs_made
set_option maxRecDepth 100000 in
set_option maxHeartbeats 0 in
theorem PySem.Challenge.cw_tienumbers_k02_webs_made_holds : PySem.Challenge.rw_tienumbers_k02_webs_made.Holds := by
 refine head ?_
 k_fill
 refine L2.vx (l:=PySem.Challenge.rw_tienumbers_k02_webs_made) (n:=63) (k:=7) (x := "script") (CX:=fun w=>L2.CXr (PySem.Challenge.rw_tienumbers_k02_webs_made).prog w) (sp:=fun w=>L2.spF _ none K02.nX) rfl (by decide) rfl ⟨rfl,by decide,by decide,rfl⟩ (fun w h Y=>PySem.W.kIn_of Y) ?F (fun _ _ a ns hl _ hS=>L2.vM ⟨_,K02.law_ok ns⟩ hS) fun _ _ _ _ _ z=>L2.rM z
 case F =>
  intro w mg fa h KX G hmg;refine' K02.all_mk KX G hmg ?_ ?_ ?_ ?_ ?_ ?_ ?_ ?_ ?_ ?_ ?_ ?_ ?_ ?_ ?_ ?_ ?_ ?_ ?_ ?_ ?_ ?_ ?_ ?_ ?_ ?_ ?_ ?_ ?_ ?_ ?_ ?_ ?_ ?_ ?_ ?_ ?_ ?_ ?_ ?_ ?_ ?_ ?_ ?_ ?_ ?_ ?_ ?_ ?_ ?_ ?_ ?_ ?_ ?_ ?_ ?_ ?_ ?_ ?_ ?_ ?_ ?_ ?_ ?_ ?_ ?_ ?_ ?_ ?_ ?_ ?_ ?_ ?_ ?_ ?_ ?_ ?_ ?_ ?_ ?_ ?_ ?_ ?_ ?_ ?_ ?_ ?_ ?_ ?_ ?_ ?_ ?_ ?_ ?_
  all_goals first | (apply K02.din_mk<;>k_is) | (refine' L2.ein_mk ?h1 ?h2 ?h3 ?h4 ?h5 ?h6 ?h7 ?h8 ?h9 ?h10 ?h11 ?h12;(case h1=>k_is);(case h2=>k_is);(case h3=>k_is);(case h4=>k_is);(case h5=>k_is);(case h6=>k_is);(case h7=>k_is);(case h8=>k_is);(case h9=>k_is);(case h10=>k_is);(case h11=>rfl);(case h12=>rfl)) | (refine' L2.tin_mk ?h1 ?h2 ?h3 ?h4;(case h1=>k_is);(case h2=>k_is);(case h3=>k_is);(case h4=>k_is)) | k_is | k_exc | decide | skip
