import PyProof.Rows.All
import Wide.All
import OpenK.AllK
import Wide.FinOn
import Lean
import PyProof.EqAt
import PyProof.EqKinds
import PyProof.TupleCall
import PyProof.CallFns
import PyProof.Draws
import PyProof.EnumMake
import PyProof.ExcArgsOwn
import PyProof.FactsAll.dict_1
import PyProof.FactsAll.dict_4
import PyProof.FactsAll.subtypes_4
import PyProof.FactsAll.tuple_2
import PyProof.ListMulRoad
import PyProof.ListRange
import PyProof.MaxThree
import PyProof.NeKinds
import PyProof.ReprRoads
import PyProof.Rows.CallKwBuiltin
import PyProof.Rows.EnumRows
import PyProof.Rows.SetFrom
import PyProof.Rows.SortRev
import PyProof.TupleOfStr
import PySem.Challenge.RW_tienumbers_k50_totals_of_kinds
set_option Elab.async false
set_option linter.all false
set_option maxRecDepth 100000
set_option maxHeartbeats 4000000
section
open PySem PySem.Spec PyProof.Rows
abbrev B6:=@wpAny_bind
abbrev B7:=@Heap.get?_push_of_some
abbrev B8:=@List.getElem?_eq_getElem
abbrev B9:=@List.length_map
abbrev Ca:=@wpAny_pure
abbrev Cb:=@List.size_toArray
abbrev Cc:=@List.length_cons
abbrev Cd:=@Heap.get?_push_size
abbrev Ce:=@List.mem_cons_of_mem
abbrev Cf:=@Heap.lt_size
abbrev Cg:=@List.mem_append_left
abbrev Ch:=@List.mem_append_right
abbrev Ci:=@Nat.le_refl
abbrev Cj:=@Bool.false_ne_true
abbrev Ck:=@List.mem_cons_self
abbrev Cm:=@List.getElem?_eq_some_iff
abbrev Cn:=@of_decide_eq_true
abbrev Co:=@List.all_eq_true
abbrev Cp:=@List.mem_of_getElem?
abbrev Cq:=@List.map_cons
abbrev Cr:=@decide_eq_true
abbrev Cs:=@List.getD_eq_getElem?_getD
abbrev Ct:=@List.length_append
abbrev Cu:=@Nat.ne_of_lt
abbrev Cv:=@Bool.and_eq_true
abbrev Cw:=@List.getElem?_map
abbrev Cy:=@List.length_pos_iff
abbrev Cz:=@List.getElem?_cons_zero
abbrev CA:=@List.getElem?_append_left
abbrev CB:=@List.getElem?_cons_succ
abbrev CC:=@PySem.W.mg_none_of
abbrev CD:=@Nat.lt_of_lt_of_le
abbrev CF:=@List.mem_singleton
abbrev CG:=@decide_eq_false
abbrev CH:=@PySem.W.mg_of
abbrev CI:=@List.mem_append
abbrev CJ:=@List.getElem?_set_ne
abbrev CK:=@List.map_map
abbrev CL:=@Heap.size_push
abbrev CM:=@wpAny_callSpecial?_slot
abbrev CN:=@List.mem_range
abbrev CO:=@List.map_congr_left
abbrev CP:=@List.mem_map
abbrev CQ:=@wpAny_newObj_type
abbrev CS:=@List.nodup_cons
abbrev CT:=@List.nil_append
abbrev CU:=@List.append_nil
abbrev CV:=@Array.getD_eq_getD_getElem?
abbrev CW:=@wpAny_pyIter_tuple
abbrev CY:=@List.pairwise_cons
abbrev CZ:=@List.getElem?_append_right
abbrev C0:=@Array.length_toList
abbrev C1:=@wpAny_call_entry
abbrev C3:=@Nat.zero_add
abbrev C4:=@Option.map_eq_some_iff
abbrev C5:=@List.mem_filter
abbrev C6:=@List.getElem_mem
abbrev C7:=@List.cons_append
abbrev C8:=@List.getElem?_set_self
abbrev C9:=@List.ne_nil_of_length_pos
abbrev Da:=@List.length_set
abbrev Db:=@List.not_mem_nil
abbrev Dd:=@PySem.mem_of_lookup
abbrev De:=@List.replicate_succ
abbrev Df:=@Nat.le_trans
abbrev Dg:=@List.length_replicate
abbrev Dh:=@Heap.get?_update_self
abbrev Di:=@wpAny_loadPart'
abbrev Dj:=@wpAny_field
abbrev Dk:=@List.set_cons_zero
abbrev Dl:=@List.set_cons_succ
abbrev Dm:=@wpAny_mono
abbrev Do:=@decide_eq_true_eq
abbrev Dp:=@Nat.lt_succ_of_lt
abbrev Dq:=@Bool.and_false
abbrev Dr:=@List.length_nil
abbrev Ds:=@Bool.false_eq_true
abbrev Du:=@wpAny_holding
abbrev Dv:=@Bool.and_true
abbrev Dw:=@wpAny_truthy_bool
abbrev Dx:=@List.length_range
abbrev Dy:=@List.map_append
abbrev Dz:=@Bool.or_eq_true
abbrev DA:=@List.length_take
abbrev DB:=@List.sum_cons
abbrev DC:=@Array.getElem?_toList
abbrev DD:=@wpAny_setField
abbrev DE:=@Array.getElem?_eq_getElem
abbrev DF:=@List.mem_iff_getElem
abbrev DG:=@wpAny_pyIter_list
abbrev DH:=@List.append_assoc
abbrev DI:=@Bool.eq_iff_iff
abbrev DJ:=@Nat.ne_of_gt
abbrev DK:=@Nat.le_of_lt
abbrev DL:=@beq_eq_false_iff_ne
abbrev DM:=@List.perm_iff_count
abbrev DN:=@List.getElem?_replicate
abbrev DO:=@wpAny_typeNameOfWhole_keyiter
abbrev DP:=@List.lookup_cons
abbrev DQ:=@Heap.get?_update_other
abbrev DR:=@Nat.min_self
abbrev DS:=@List.map_nil
abbrev DT:=@List.length_zip
abbrev DU:=@List.flatten_cons
abbrev DV:=@Bool.true_and
abbrev DW:=@Bool.false_or
abbrev DX:=@wpAny_seqItems
abbrev DY:=@Bool.false_and
abbrev DZ:=@Nat.lt_succ_self
abbrev Ea:=@List.ext_getElem
abbrev Eb:=@PySem.W.hideAll_get
abbrev Ec:=@wpAny_typeNameOf_keyiter
abbrev Ed:=@wpAny_Call_Name_kw
abbrev Ee:=@of_decide_eq_false
abbrev Ef:=@PySem.F.plainAttrs_list
abbrev Eg:=@Nat.lt_irrefl
abbrev Eh:=@List.find?_cons
abbrev Ei:=@List.Perm.of_eq
abbrev Ej:=@Bool.or_false
abbrev Ek:=@Nat.zero_le
abbrev El:=@List.take_sublist
abbrev Em:=@List.nodup_append
abbrev En:=@Int.toNat_natCast
abbrev Eo:=@List.nodup_nil
abbrev Ep:=@Nat.sub_self
abbrev Er:=@List.getElem?_eq_none
abbrev Es:=@Bool.true_or
abbrev Et:=@Bool.or_true
abbrev Eu:=@Nat.le_add_right
abbrev Ev:=@wpAny_newList
abbrev Ew:=@wpAny_passesOwn
abbrev Ex:=@List.of_mem_zip
abbrev Ey:=@List.getElem_of_mem
abbrev Ez:=@List.forIn_cons
abbrev EA:=@List.filterMap_cons
abbrev EB:=@Obj.data_mapFields
abbrev EC:=@List.zip_cons_cons
abbrev ED:=@List.mem_filterMap
abbrev EE:=@wpAny_runValue
abbrev EF:=@List.getElem?_zip_eq_some
abbrev EG:=@PySem.W.Frag
end
namespace L2
open PySem PySem.Spec PyProof.Rows
abbrev Key:=Sum Int Str
def nZ:Key->Value->Bool
 | .inl k,v=>Value.isInt k v
 | .inr x,v=>Value.isStrOf x v
def keyH(w:World):Key->Int
 | .inl k=>hashInt k
 | .inr x=>hashStr w x
theorem bh:∀ {k:Key} {v:Value},nZ k v=true->(∃ i t,k=Sum.inl i/\v=Value.int i t)\/(∃ x t,k=Sum.inr x/\v=Value.str x t)
 | .inl i,v,h=>by
  obtain ⟨t,e⟩:=Value.isInt_shape (k:=i) (v:=v) h;exact .inl ⟨i,t,rfl,e⟩
 | .inr x,v,h=>by
  obtain ⟨t,e⟩:=Value.isStrOf_shape (x:=x) (v:=v) h;exact .inr ⟨x,t,rfl,e⟩
theorem vH(i:Int)(t:Tok):nZ (.inl i) (.int i t)=true:=by simp [nZ,Value.isInt]
theorem vG(x:Str)(t:Tok):nZ (.inr x) (.str x t)=true:=by simp [nZ,Value.isStrOf]
theorem key_ll(a b:Int):decide ((Sum.inl a:Key)=Sum.inl b)=(a == b):=by
 by_cases e:a=b
 ·subst e;simp
 ·have h:¬ (Sum.inl a:Key)=Sum.inl b:=fun q=>e (Sum.inl.inj q)
  rw [CG h];exact (DL.mpr e).symm
theorem key_rr(a b:Str):decide ((Sum.inr a:Key)=Sum.inr b)=decide (a=b):=by
 by_cases e:a=b
 ·subst e;simp
 ·have h:¬ (Sum.inr a:Key)=Sum.inr b:=fun q=>e (Sum.inr.inj q)
  rw [CG h,CG e]
theorem key_lr(a:Int)(b:Str):decide ((Sum.inl a:Key)=Sum.inr b)=false:=CG (fun q=>nomatch q)
theorem key_rl(a:Str)(b:Int):decide ((Sum.inr a:Key)=Sum.inl b)=false:=CG (fun q=>nomatch q)
def aX(prog:Program)(w:World):PySem.KeyKind prog w Key where
 is:=nZ
 hash:=keyH w
 inj:=fun v a b ha hb=>by
  rcases bh ha with ⟨i,t,rfl,rfl⟩ | ⟨x,t,rfl,rfl⟩
  ·rcases bh hb with ⟨j,u,rfl,e⟩ | ⟨y,u,rfl,e⟩
   ·injection e with e1 _;rw [e1]
   ·exact nomatch e
  ·rcases bh hb with ⟨j,u,rfl,e⟩ | ⟨y,u,rfl,e⟩
   ·exact nomatch e
   ·injection e with e1 _;rw [e1]
 byValue:=fun k v h=>by
  rcases bh h with ⟨i,t,rfl,rfl⟩ | ⟨x,t,rfl,rfl⟩<;>rfl
 pyHash:=fun hv h=>by
  rcases bh hv with ⟨i,t,rfl,rfl⟩ | ⟨x,t,rfl,rfl⟩
  ·exact wpAny_pyHash_int h
  ·exact wpAny_pyHash_str h
 eqBool:=fun hu hv h=>by
  rcases bh hu with ⟨i,t,rfl,rfl⟩ | ⟨x,t,rfl,rfl⟩
  ·rcases bh hv with ⟨j,u,rfl,rfl⟩ | ⟨y,u,rfl,rfl⟩
   ·rw [key_ll] at h;exact wpAny_eqBool_int h
   ·rw [key_lr] at h;exact SeqAt.EqAt.int_str i t y u _ _ _ _ h
  ·rcases bh hv with ⟨j,u,rfl,rfl⟩ | ⟨y,u,rfl,rfl⟩
   ·rw [key_rl] at h;exact SeqAt.EqAt.str_int x t j u _ _ _ _ h
   ·rw [key_rr] at h;exact wpAny_eqBool_str h
 «strs»:=fun k x t v h=>by
  rcases bh h with ⟨i,u,rfl,e⟩ | ⟨y,u,rfl,e⟩
  ·exact nomatch e
  ·injection e with e1 _
   subst e1;cases v<;>rfl
theorem qT(prog:Program)(w:World)(i:Int)(t:Tok):(aX prog w).is (.inl i) (.int i t)=true:=vH i t
theorem em(prog:Program)(w:World)(x:Str)(t:Tok):(aX prog w).is (.inr x) (.str x t)=true:=vG x t
inductive V where
 | non | bl (b:Bool) | int (i:Int) | str (x:Str) | byt (b:Array UInt8) | flt (b:UInt64) | ref (a:Addr) | ty (n:String)
 deriving DecidableEq
def aD:V->Value->Prop
 | .non,u=>u=Value.none
 | .bl b,u=>u=Value.bool b
 | .int i,u=>∃ t,u=Value.int i t
 | .str x,u=>∃ t,u=Value.str x t
 | .byt b,u=>∃ t,u=Value.bytes b t
 | .flt b,u=>∃ t,u=Value.float b t
 | .ref a,u=>u=Value.ref a
 | .ty n,u=>u=Value.type n
abbrev aw:List V->List Value->Prop:=Paired aD
theorem aw.length{xs:List V}{us:List Value}(r:aw xs us):xs.length=us.length:=Paired.length r
theorem aw.get:∀ {xs:List V} {us:List Value} {i:Nat} {x:V},aw xs us->xs[i]?=some x->∃ u,us[i]?=some u/\aD x u
 | _,_,_,_,.nil,e=>by simp at e
 | _,_,0,_,.cons r _,e=>by simp at e;subst e;exact ⟨_,rfl,r⟩
 | _,_,i+1,x,.cons _ t,e=>by
  obtain ⟨u,h1,h2⟩:=aw.get (i:=i) (x:=x) t (by simpa using e);exact ⟨u,by simpa using h1,h2⟩
theorem aw.set{x:V}{u:Value}(r:aD x u):∀ {xs:List V} {us:List Value} (i:Nat),aw xs us->aw (xs.set i x) (us.set i u)
 | _,_,_,.nil=> .nil
 | _,_,0,.cons _ t=> .cons r t
 | _,_,i+1,.cons q t=> .cons q (aw.set r i t)
theorem aw.append:∀ {xs ys:List V} {us ws:List Value},aw xs us->aw ys ws->aw (xs++ys) (us++ws)
 | _,_,_,_,.nil,s=>s
 | _,_,_,_,.cons r t,s=> .cons r (aw.append t s)
theorem aw.take:∀ {xs:List V} {us:List Value} (n:Nat),aw xs us->aw (xs.take n) (us.take n)
 | _,_,0,_=> .nil
 | _,_,_+1,.nil=> .nil
 | _,_,n+1,.cons r t=> .cons r (aw.take n t)
theorem aw.drop:∀ {xs:List V} {us:List Value} (n:Nat),aw xs us->aw (xs.drop n) (us.drop n)
 | _,_,0,r=>r
 | _,_,_+1,.nil=> .nil
 | _,_,n+1,.cons _ t=>aw.drop n t
def pV:Option V->Option Value->Prop
 | some v,some u=>aD v u
 | none,none=>True
 | _,_=>False
def KV{κ:Type}:List (κ×V)->List (κ×Value)->Prop:=Paired fun (p:κ×V) (q:κ×Value)=>p.1=q.1/\aD p.2 q.2
def kV:Key->V
 | .inl i=> .int i
 | .inr x=> .str x
inductive HO where
 | lst (xs:List V)
 | tup (xs:List V)
 | dK (kvs:List (Key×V)) | dT (kvs:List (List Key×V))
 | set (S:Int->Bool) (n:Nat)
 | ins (C dx:Addr) (fs:List (Str×V))
 | own (x:Addr)
 | xd (fs:List (Str×V))
 | met (f x:Addr)
 | rng (lo hi:Int)
 | frz (o:Obj) (u:HO)
 | tbl (ps:Array Value)
 | ext (φ:Heap->Prop)
abbrev Hp:=Addr->Option HO
def upd(H:Hp)(a:Addr)(o:HO):Hp:=fun b=>if b=a then some o else H b
theorem aj{H:Hp}{a:Addr}{o:HO}:upd H a o a=some o:=by unfold upd;rw [if_pos rfl]
theorem am{H:Hp}{a b:Addr}{o:HO}(h:b≠a):upd H a o b=H b:=by unfold upd;rw [if_neg h]
theorem zl{H:Hp}{a:Addr}{o u:HO}:upd (upd H a o) a u=upd H a u:=by
 funext b;unfold upd;split<;>rfl
theorem ne_of{H:Hp}{a b:Addr}{o u:HO}(h:H a=some o)(h':H b=some u)(d:o≠u):a≠b:=by
 intro e;subst e;rw [h] at h';exact d (Option.some.inj h')
theorem ar{H:Hp}{a b:Addr}{o:HO}(h:H a=some o)(h':H b=none):a≠b:=by
 intro e;subst e;rw [h] at h';cases h'
section
variable(P:Program)(w:World)
def bn(H:Hp)(h:Heap)(a:Addr):HO->Prop
 | .lst xs=>xs.length<=sizeLine/\∃ (its:List Value) (n:Nat),aw xs its/\h.get? a=some { cls:= .type "list",data:= .seq its.toArray n }
 | .tup xs=>xs.length<=sizeLine/\∃ its:List Value,aw xs its/\IsTup h a its.toArray
 | .dK kvs=>kvs.length<=sizeLine/\(a == sysModules)=false/\∃ vs,KV kvs vs/\h.DictOf (aX P w) a vs
 | .dT kvs=>kvs.length<=sizeLine/\(a == sysModules)=false/\∃ xs:List (List Key×Addr×Value),
  Paired (fun (p:List Key×V) (q:List Key×Addr×Value)=>p.1=q.1/\H q.2.1=some (.tup (p.1.map kV))/\aD p.2 q.2.2) kvs xs /\
  ∃ o es ep,h.get? a=some o/\o.ExactDict/\o.data = .dict es ep/\es.toList=xs.map (entryOfKey (tupleKind (aX P w)))/\(xs.map (·.1)).Nodup
 | .set S n=>h.SetOf (intKind P w) a S n
 | .ins C dx fs=>H dx=some (.own a)/\fs.length<=1000/\dx≠a/\h.get? a=some (PySem.W.instObj C dx) /\
  ∃ mA,h.Ns1 dx mA/\(∀ f,pV (fs.lookup f) (mA f))/\PySem.Within mA (fs.map (·.1))
 | .own _=>∃ o,h.get? a=some o
 | .xd fs=>∃ mA,h.Ns1 a mA/\∀ f,pV (fs.lookup f) (mA f)
 | .rng lo hi=>∃ t u v,h.get? a=some { cls:= .type "range",data:= .fields #[.int lo t,.int hi u,.int 1 v] }
 | .frz o u=>h.get? a=some o/\bn H h a u
 | .tbl ps=>h.get? a=some { cls:= .none,data:= .fields ps }
 | .met f x=>h.get? a=some (PySem.W.methodObj (.ref f) (.ref x))
 | .ext φ=>φ h/\(∃ o,h.get? a=some o)/\∀ h1 h2:Heap,φ h1->(∀ o,h1.get? a=some o->h2.get? a=some o)->φ h2
def HOk(H:Hp)(h:Heap):Prop:=∀ a o,H a=some o->bn P w H h a o
end
section
variable{P:Program}{w:World}{H H':Hp}{h h':Heap}{a:Addr}{o:HO}
theorem bn.lt(x:bn P w H h a o):a < h.objs.size:=by
 cases o with
 | lst xs=>obtain ⟨_,_,_,_,e⟩:=x;exact Cf e
 | tup xs=>obtain ⟨_,_,_,p⟩:=x;exact p.lt
 | dK kvs=>obtain ⟨_,_,_,_,o,_,_,e,_⟩:=x;exact Cf e
 | dT kvs=>obtain ⟨_,_,_,_,o,_,_,e,_⟩:=x;exact Cf e
 | set S n=>obtain ⟨o,_,_,_,e,_⟩:=x;exact Cf e
 | ins C dx fs=>obtain ⟨_,_,_,e,_⟩:=x;exact Cf e
 | own y=>obtain ⟨_,e⟩:=x;exact Cf e
 | xd fs=>obtain ⟨_,⟨_,_,_,e,_⟩,_⟩:=x;exact Cf e
 | rng lo hi=>obtain ⟨_,_,_,e⟩:=x;exact Cf e
 | frz ob u=>obtain ⟨e,_⟩:=x;exact Cf e
 | tbl ps=>exact Cf (show h.get? a=some _ from x)
 | met f y=>exact Cf (show h.get? a=some _ from x)
 | ext φ=>obtain ⟨_,⟨_,e⟩,_⟩:=x;exact Cf e
theorem Paired.mapP{α β:Type}{F G:α->β->Prop}:∀ {l₁:List α} {l₂:List β},Paired F l₁ l₂->(∀ a b,F a b->G a b)->Paired G l₁ l₂
 | _,_,.nil,_=> .nil
 | _,_,.cons r t,f=> .cons (f _ _ r) (Paired.mapP t f)
theorem bn.stay(x:bn P w H h a o)(k:∀ b u,(b=a\/H b=some (.own a))->h.get? b=some u->h'.get? b=some u)
 (ho:∀ b,H b=some (.own a)->H' b=some (.own a)) (ht:∀ b xs,H b=some (.tup xs)->H' b=some (.tup xs)):bn P w H' h' a o:=by
 induction o with
 | lst xs=>obtain ⟨z,its,n,r,e⟩:=x;exact ⟨z,its,n,r,k _ _ (.inl rfl) e⟩
 | tup xs=>obtain ⟨z,its,r,ob,e,c⟩:=x;exact ⟨z,its,r,ob,k _ _ (.inl rfl) e,c⟩
 | dK kvs=>obtain ⟨z,y,vs,r,ob,es,ep,e,c⟩:=x;exact ⟨z,y,vs,r,ob,es,ep,k _ _ (.inl rfl) e,c⟩
 | dT kvs =>
  obtain ⟨z,y,xs,r,ob,es,ep,e,c⟩:=x;exact ⟨z,y,xs,Paired.mapP r fun p q z=>⟨z.1,ht _ _ z.2.1,z.2.2⟩,ob,es,ep,k _ _ (.inl rfl) e,c⟩
 | set S n=>obtain ⟨ob,es,ep,t,e,c⟩:=x;exact ⟨ob,es,ep,t,k _ _ (.inl rfl) e,c⟩
 | ins C dx fs =>
  obtain ⟨d,z,ne,e,mA,⟨od,es,ep,e2,c⟩,r⟩:=x;exact ⟨ho _ d,z,ne,k _ _ (.inl rfl) e,mA,⟨od,es,ep,k _ _ (.inr d) e2,c⟩,r⟩
 | own y=>obtain ⟨ob,e⟩:=x;exact ⟨ob,k _ _ (.inl rfl) e⟩
 | xd fs=>obtain ⟨mA,⟨od,es,ep,e,c⟩,r⟩:=x;exact ⟨mA,⟨od,es,ep,k _ _ (.inl rfl) e,c⟩,r⟩
 | rng lo hi=>obtain ⟨t,u,v,e⟩:=x;exact ⟨t,u,v,k _ _ (.inl rfl) e⟩
 | frz ob u ih=>obtain ⟨e,q⟩:=x;exact ⟨k _ _ (.inl rfl) e,ih q⟩
 | tbl ps =>
  have e:h.get? a=some { cls:= .none,data:= .fields ps }:=x
  show h'.get? a=some { cls:= .none,data:= .fields ps }
  exact k a _ (.inl rfl) e
 | met f y =>
  have e:h.get? a=some (PySem.W.methodObj (.ref f) (.ref y)):=x
  show h'.get? a=some (PySem.W.methodObj (.ref f) (.ref y))
  exact k a _ (.inl rfl) e
 | ext φ=>obtain ⟨p,⟨o,e⟩,st⟩:=x;exact ⟨st _ _ p fun o q=>k _ _ (.inl rfl) q,⟨o,k _ _ (.inl rfl) e⟩,st⟩
theorem HOk.lt(x:HOk P w H h)(e:H a=some o):a < h.objs.size:=(x a o e).lt
theorem HOk.fresh(x:HOk P w H h)(e:h.objs.size<=a):H a=none:=by
 cases q:H a with
 | none=>rfl
 | some u=>exact absurd (CD (x.lt q) e) (Eg _)
theorem HOk.kept(x:HOk P w H h)(k:∀ b u,h.get? b=some u->h'.get? b=some u):HOk P w H h':=fun a o e =>
 (x a o e).stay (fun b u _ q=>k b u q) (fun _ q=>q) fun _ _ q=>q
theorem HOk.laid(x:HOk P w H h)(k:∀ b u,h.get? b=some u->h'.get? b=some u)(hp:h.objs.size<=a)(new:bn P w (upd H a o) h' a o):HOk P w (upd H a o) h':=fun b u e=>by
 have hn:=x.fresh hp
 by_cases hb:b=a
 ·subst hb;rw [aj] at e;cases e;exact new
 ·rw [am hb] at e
  exact (x b u e).stay (fun c v _ q=>k c v q) (fun c q=>by rw [am (ar q hn)];exact q) fun c xs q=>by rw [am (ar q hn)];exact q
end
def Rd(H:Hp)(a:Addr)(u:HO):Prop:=H a=some u\/∃ o,H a=some (.frz o u)
theorem Rd.ok{P:Program}{w:World}{H:Hp}{h:Heap}{a:Addr}{u:HO}(r:Rd H a u)(x:HOk P w H h):bn P w H h a u:=by
 rcases r with r | ⟨o,r⟩
 ·exact x a u r
 ·obtain ⟨_,q⟩:=x a _ r
  exact q
def Mut:Option HO->Prop
 | some (.lst _)=>True
 | some (.dK _)=>True
 | some (.dT _)=>True
 | some (.set _ _)=>True
 | some (.ins _ _ _)=>True
 | some (.ext _)=>True
 | _=>False
section
variable{P:Program}{w:World}{H:Hp}{h h':Heap}{x e:Addr}{o':HO}
theorem HOk.write(ok:HOk P w H h)(mu:Mut (H x))(he:e=x\/H e=some (.own x))(k:∀ b u,b≠e->h.get? b=some u->h'.get? b=some u)(heo:∃ u,h'.get? e=some u)
 (new:bn P w (upd H x o') h' x o'):HOk P w (upd H x o') h':=fun b u q=>by
 have nown:∀ c y,H c=some (.own y)->c≠x:=fun c y r z=>by subst z;rw [r] at mu;exact mu
 have ntup:∀ c xs,H c=some (.tup xs)->c≠x:=fun c xs r z=>by subst z;rw [r] at mu;exact mu
 by_cases hb:b=x
 ·subst hb;rw [aj] at q;cases q;exact new
 ·rw [am hb] at q
  by_cases hbe:b=e
  ·have q':H b=some (.own x):=by
    rcases he with z | z
    ·exact absurd (hbe.trans z) hb
    ·rw [hbe];exact z
   rw [q] at q';cases q';obtain ⟨v,hv⟩:=heo;exact ⟨v,by rw [hbe];exact hv⟩
  ·refine (ok b u q).stay (fun c v hc r=>k c v ?_ r) (fun c r=>by rw [am (nown c b r)];exact r) fun c xs r=>by rw [am (ntup c xs r)];exact r
   rcases hc with rfl | hc
   ·exact hbe
   ·rintro rfl
    rcases he with z | z
    ·exact nown c b hc z
    ·rw [hc] at z;cases z;exact hb rfl
end
structure Un(fs ex:List Addr)(H H':Hp)(h h':Heap):Prop where
 keep:∀ b o,h.get? b=some o->H b=none->b∉fs->b∉ex->h'.get? b=some o
 slot:∀ b o,h.get? b=some o->H b=none->b∈fs->b∉ex->∃ sl,h'.get? b=some { o with slots:=sl }
 free:∀ b o,h.get? b=some o->H b=none->b∉ex->H' b=none
 there:∀ b o,h.get? b=some o->b∉ex->∃ o',h'.get? b=some o'
 tups:∀ b xs,H b=some (.tup xs)->H' b=some (.tup xs)
 frzs:∀ b o u,H b=some (.frz o u)->H' b=some (.frz o u)
 tbls:∀ b ps,H b=some (.tbl ps)->∃ more,H' b=some (.tbl (ps++more))
section
variable{fs fs' ex ex':List Addr}{H H1 H2:Hp}{h h1 h2 h':Heap}{a x e:Addr}{o:HO}
theorem Un.any(u:Un fs ex H H1 h h1){b:Addr}{ob:Obj}(q:h.get? b=some ob)(n:H b=none)(hx:b∉ex):∃ sl,h1.get? b=some { ob with slots:=sl }:=by
 by_cases hb:b∈fs
 ·exact u.slot b ob q n hb hx
 ·exact ⟨ob.slots,u.keep b ob q n hb hx⟩
theorem Un.kept(k:∀ b u,h.get? b=some u->h'.get? b=some u):Un fs ex H H h h' :=
 ⟨fun b ob q _ _ _=>k b ob q,fun b ob q _ _ _=>⟨ob.slots,k b ob q⟩,fun _ _ _ n _=>n,fun b ob q _=>⟨ob,k b ob q⟩,fun _ _ q=>q,fun _ _ _ q=>q,fun _ ps q=>⟨#[],by rw [q];simp⟩⟩
theorem Un.refl:Un fs ex H H h h:=Un.kept fun _ _ q=>q
theorem Un.laid(k:∀ b u,h.get? b=some u->h'.get? b=some u)(hp:h.objs.size<=a)(hn:H a=none):Un fs ex H (upd H a o) h h' where
 keep:=fun b u q _ _ _=>k b u q
 slot:=fun b u q _ _ _=>⟨u.slots,k b u q⟩
 free:=fun b u q n _=>by rw [am (Cu (CD (Cf q) hp))];exact n
 there:=fun b u q _=>⟨u,k b u q⟩
 tups:=fun b xs q=>by rw [am (ar q hn)];exact q
 frzs:=fun b u xs q=>by rw [am (ar q hn)];exact q
 tbls:=fun b ps q=>⟨#[],by rw [am (ar q hn),q];simp⟩
theorem Un.write(mu:Mut (H x))(he:e=x\/H e=some (.own x))(k:∀ b u,b≠e->h.get? b=some u->h'.get? b=some u)(heo:∃ u,h'.get? e=some u):Un fs ex H (upd H x o) h h':=by
 have hx:∀ b,H b=none->b≠x:=fun b n z=>by subst z;rw [n] at mu;exact mu
 have hb:∀ b,H b=none->b≠e:=fun b n z=>by
  subst z
  rcases he with r | r
  ·exact hx b n r
  ·rw [n] at r;cases r
 have hm:∀ b u,H b=some u->¬ Mut (some u)->b≠x:=fun b u q nm z=>by subst z;rw [q] at mu;exact nm mu
 refine ⟨fun b u q n _ _=>k b u (hb b n) q,fun b u q n _ _=>⟨u.slots,k b u (hb b n) q⟩,fun b u q n _=>by rw [am (hx b n)];exact n,fun b u q _=> ?_,
  fun b xs q=>by rw [am (hm b _ q fun z=>z)];exact q,fun b u xs q=>by rw [am (hm b _ q fun z=>z)];exact q,fun b ps q=>⟨#[],by rw [am (hm b _ q fun z=>z),q];simp⟩⟩
 by_cases hbe:b=e
 ·subst hbe;exact heo
 ·exact ⟨u,k b u hbe q⟩
end
def trk(h:Heap)(H:Hp):List Addr:=(List.range h.objs.size).filter fun a=>(H a).isSome
def pz(h:Heap)(H:Hp):Heap:=PySem.W.hideAll h (trk h H)
theorem vI(h:Heap)(H:Hp):(pz h H).objs.size=h.objs.size:=PySem.W.hideAll_size _ _
theorem yl{h:Heap}{H:Hp}{b:Addr}{o:Obj}(e:h.get? b=some o)(n:H b=none):(pz h H).get? b=some o :=
 Eb _ e fun hm=>by
  have q:(H b).isSome=true:=(C5.mp hm).2;rw [n] at q;simp at q
theorem AN{h:Heap}{H:Hp}{b:Addr}{o:Obj}(e:(pz h H).get? b=some o):h.get? b=some o/\H b=none:=by
 have e':h.get? b=some o:=PySem.W.of_hideAll (trk h H) e;refine ⟨e',?_⟩
 cases q:H b with
 | none=>rfl
 | some x =>
  have hm:b∈trk h H:=C5.mpr ⟨CN.mpr (Cf e'),by simp [q]⟩;have z:(pz h H).get? b=none:=PySem.W.hideAll_none (trk h H) hm;rw [z] at e;cases e
structure Mod(K:EG)(mg:Str->Option Value)(base:Heap):Prop where
 kin:K.In base
 glob:base.Ns mainGlobals mg
 blt:∃ mb,base.Ns builtinsNs mb/\∀ x:Str,x ≠ "__name__" -> mb x=bootBuiltins x
 nolimit:base.NoLimit
structure Cx where
 prog:Program
 w:World
 K:EG
 mg:Str->Option Value
 base:Heap
 A:Around
 N:List Str
 s₀:Shared
 H₀:Hp
 env:Env
 outer:List Env
 stack:List Env
 ex:List Addr
 fn:Str->Bool
 calm:Bool
 pn:List (Addr×Obj)
 xe:Value->Shared->Prop
def frs(l:List Env):List Addr:=l.filterMap (·.frame)
abbrev Cx.fs(X:Cx):List Addr:=frs X.outer
def Vis(sc:Scope)(x:Str):Prop:=sc.names.lookup x=some .local\/sc.names.lookup x=some .cell\/sc.names.lookup x=some .free
def Loc(sc:Scope)(x:Str):Prop:=sc.names.lookup x=some .local\/sc.names.lookup x=some .cell
def Look(env:Env)(h:Heap)(m:Str->Option Value)(x:Str)(u:Value):Prop :=
 (env.kindOf x=some .local/\m x=some u)\/((env.kindOf x=some .cell\/env.kindOf x=some .free)/\∃ c,env.cells.lookup x=some c/\h.IsCell c (some u))
structure Cx.Ok(X:Cx):Prop where
 mod:Mod X.K X.mg X.base
 kind:X.env.scope.kind = .function
 glob:X.env.globals=mainGlobals
 blt:X.env.builtins=builtinsNs
 above:X.s₀.heap.objs.size<=X.env.locals
 inj:∀ x y c,X.env.cells.lookup x=some c->X.env.cells.lookup y=some c->x=y
 has:∀ x,(X.env.kindOf x=some .cell\/X.env.kindOf x=some .free)->∃ c,X.env.cells.lookup x=some c
 cab:∀ x c,X.fn x=true->X.env.cells.lookup x=some c->X.s₀.heap.objs.size<=c
 hd:X.calm=true->X.A.handled=none
 frames:X.A.frames=some X.stack
 stk:X.stack=X.outer\/(X.stack=X.env::X.outer/\X.env.frame=some X.env.locals)
 exf:∀ b∈X.ex,b≠X.env.locals/\∀ x c,X.env.cells.lookup x=some c->c≠b
 bs:∀ b o,X.base.get? b=some o->X.s₀.heap.get? b=some o/\X.H₀ b=none
 bsz:X.base.objs.size<=X.s₀.heap.objs.size
 noex:∀ b o,X.base.get? b=some o->b∉X.ex
 exfs:∀ b∈X.ex,b∉X.fs
 funs:X.s₀.heap.FunFrames X.base X.outer
 frf:∀ b∈X.fs,X.H₀ b=none
structure Inv(X:Cx)(pins:List (Addr×Obj))(σ:List (Option V))(H:Hp)(s:Shared):Prop where
 ok:X.Ok
 os:s.os=X.s₀.os
 bare:AllBare s.gens
 base:Un X.fs X.ex X.H₀ H X.s₀.heap s.heap
 loc:∃ m,s.heap.Ns X.env.locals m/\∀ (i:Nat) (x:Str) (v:V),X.N[i]?=some x->σ[i]?=some (some v)->Vis X.env.scope x->∃ u,aD v u/\Look X.env s.heap m x u
 cell:∀ x c,X.env.cells.lookup x=some c->∃ v,s.heap.IsCell c v
 free:H X.env.locals=none
 freeC:∀ x c,X.env.cells.lookup x=some c->H c=none
 pin:∀ p∈X.pn++pins,s.heap.get? p.1=some p.2/\H p.1=none/\p.1≠X.env.locals/\p.1∉X.fs/\∀ v,p.2.data ≠ .cell v
 hok:HOk X.prog X.w H s.heap
 len:σ.length=X.N.length
section
variable{X:Cx}{pins:List (Addr×Obj)}{σ:List (Option V)}{H H':Hp}{s:Shared}{h':Heap}
theorem Cx.Ok.nofr(ok:X.Ok){b:Addr}{o:Obj}(e:X.base.get? b=some o):b∉X.fs:=fun hb=>by
 have:=(ok.funs.mem hb).1;rw [e] at this;cases this
theorem Inv.bs(I:Inv X pins σ H s):∀ b o,X.base.get? b=some o->s.heap.get? b=some o/\H b=none:=fun b o e =>
 ⟨I.base.keep b o (I.ok.bs b o e).1 (I.ok.bs b o e).2 (I.ok.nofr e) (I.ok.noex b o e),I.base.free b o (I.ok.bs b o e).1 (I.ok.bs b o e).2 (I.ok.noex b o e)⟩
theorem Inv.bk(I:Inv X pins σ H s):∀ b o,X.base.get? b=some o->s.heap.get? b=some o:=fun b o e=>(I.bs b o e).1
theorem Inv.mod(I:Inv X pins σ H s):Mod X.K X.mg X.base:=I.ok.mod
theorem Inv.kIn(I:Inv X pins σ H s):X.K.In s.heap:=I.ok.mod.kin.keeps I.bk
theorem Inv.fr(I:Inv X pins σ H s):∃ m,Fr X.base X.env.locals s.heap m :=
 let ⟨m,hn,_⟩:=I.loc
 ⟨m,hn,I.bk,Df I.ok.bsz I.ok.above⟩
theorem Inv.lt(I:Inv X pins σ H s):X.env.locals < s.heap.objs.size:=let ⟨_,hn,_⟩:=I.loc;hn.lt
theorem Inv.sz(I:Inv X pins σ H s):X.s₀.heap.objs.size<=s.heap.objs.size:=Df I.ok.above (DK I.lt)
theorem Inv.nofs(I:Inv X pins σ H s){a:Addr}(h:s.heap.objs.size<=a):a∉X.fs:=fun hb=>by
 obtain ⟨_,o,ho,_⟩:=I.ok.funs.mem hb;exact absurd (CD (Cf ho) (Df I.sz h)) (Eg _)
theorem Inv.cne(I:Inv X pins σ H s):∀ x c,X.env.cells.lookup x=some c->c≠X.env.locals:=fun x c e z=>by
 obtain ⟨v,o,ho,hd⟩:=I.cell x c e;obtain ⟨m,⟨o',es,ep,ho',hd',_⟩,_⟩:=I.loc;rw [z,ho'] at ho;cases ho;rw [hd'] at hd;cases hd
theorem Inv.funs(I:Inv X pins σ H s):s.heap.FunFrames X.base X.outer:=by
 have all:∀ (l:List Env),(∀ b∈frs l,b∈X.fs)->X.s₀.heap.FunFrames X.base l->s.heap.FunFrames X.base l:=by
  intro l
  induction l with
  | nil=>intro _ _;trivial
  | cons env r ih =>
   intro hs hl;obtain ⟨hk,⟨L,o,hf,hn,ho,hd⟩,hr⟩:=hl;have hL:L∈X.fs:=hs L (by unfold frs;rw [EA,hf];exact Ck)
   obtain ⟨sl,e⟩:=I.base.slot L o ho (I.ok.frf L hL) hL fun z=>I.ok.exfs L z hL
   exact ⟨hk,⟨L,_,hf,hn,e,hd⟩,ih (fun b hb=>hs b (by unfold frs;rw [EA,hf];exact Ce _ hb)) hr⟩
 exact all X.outer (fun _ hb=>hb) I.ok.funs
theorem Inv.stack(I:Inv X pins σ H s):s.heap.FunFrames X.base X.stack:=by
 rcases I.ok.stk with e | ⟨e,hf⟩
 ·rw [e];exact I.funs
 ·rw [e]
  obtain ⟨m,hn,_⟩:=I.loc;refine .cons (by rw [I.ok.kind];decide) hf hn ?_ I.funs;exact Heap.get?_none_of_le (Df I.ok.bsz I.ok.above)
theorem Inv.stkSub(I:Inv X pins σ H s):∀ b∈frs X.stack,b∈X.env.locals::X.fs:=fun b hb=>by
 rcases I.ok.stk with e | ⟨e,hf⟩
 ·rw [e] at hb;exact Ce _ hb
 ·rw [e] at hb
  unfold frs at hb;rw [EA,hf] at hb;exact hb
theorem Inv.stkFree(I:Inv X pins σ H s):∀ b∈frs X.stack,H b=none:=fun b hb=>by
 rcases List.mem_cons.mp (I.stkSub b hb) with e | hb
 ·rw [e];exact I.free
 ·obtain ⟨_,o,ho,_⟩:=I.ok.funs.mem hb
  exact I.base.free b o ho (I.ok.frf b hb) fun z=>I.ok.exfs b z hb
theorem Inv.step{g':Array GenState}{t':Nat}{d':Drawn}{ch:List Addr}(I:Inv X pins σ H s)
 (hch:∀ b∈ch,(b∈X.ex\/X.s₀.heap.objs.size<=b)/\b≠X.env.locals/\(∀ x c,X.env.cells.lookup x=some c->c≠b)/\∀ p∈X.pn++pins,p.1≠b)
 (keep:∀ b o,b≠X.env.locals->b∉X.fs->b∉ch->s.heap.get? b=some o->H b=none->h'.get? b=some o)
 (slot:∀ b o,b≠X.env.locals->b∈X.fs->b∉ch->s.heap.get? b=some o->H b=none->∃ sl,h'.get? b=some { o with slots:=sl }) (free:∀ b o,b∉ch->s.heap.get? b=some o->H b=none->H' b=none)
 (there:∀ b o,b∉ch->s.heap.get? b=some o->∃ o',h'.get? b=some o')
 (tups:∀ b xs,H b=some (.tup xs)->H' b=some (.tup xs)) (frzs:∀ b o u,H b=some (.frz o u)->H' b=some (.frz o u)) (tbls:∀ b ps,H b=some (.tbl ps)->∃ more,H' b=some (.tbl (ps++more)))
 (ns:∀ m,s.heap.Ns X.env.locals m->h'.Ns X.env.locals m) (hok:HOk X.prog X.w H' h') (hg:AllBare g') :
 Inv X pins σ H' { s with heap:=h',gens:=g',drawn:=d',toks:=t' }:=by
 have neL:∀ b o,X.s₀.heap.get? b=some o->b≠X.env.locals:=fun b o e=>Cu (CD (Cf e) I.ok.above)
 have neC:∀ b o,X.s₀.heap.get? b=some o->b∉X.ex->b∉ch:=fun b o e hx hb=>by
  rcases (hch b hb).1 with z | z
  ·exact hx z
  ·exact absurd (CD (Cf e) z) (Eg _)
 have cellK:∀ x c,X.env.cells.lookup x=some c->∀ v,s.heap.IsCell c v->h'.IsCell c v:=fun x c e v ⟨o,ho,hd⟩=>by
  have nch:c∉ch:=fun z=>(hch c z).2.2.1 x c e rfl
  by_cases hc:c∈X.fs
  ·obtain ⟨sl,q⟩:=slot c o (I.cne x c e) hc nch ho (I.freeC x c e)
   exact ⟨_,q,hd⟩
  ·exact ⟨o,keep c o (I.cne x c e) hc nch ho (I.freeC x c e),hd⟩
 refine ⟨I.ok,I.os,hg,⟨fun b o e n hb hx=> ?_,fun b o e n hb hx=> ?_,fun b o e n hx=> ?_,fun b o e hx=> ?_,fun b xs e=>tups b xs (I.base.tups b xs e),fun b o xs e=>frzs b o xs (I.base.frzs b o xs e),fun b ps e=> ?_⟩,?_,fun x c e=> ?_,?_,fun x c e=> ?_,fun p hp=> ?_,hok,I.len⟩
 ·exact keep b o (neL b o e) hb (neC b o e hx) (I.base.keep b o e n hb hx) (I.base.free b o e n hx)
 ·obtain ⟨sl,e1⟩:=I.base.slot b o e n hb hx
  obtain ⟨sl',e2⟩:=slot b _ (neL b o e) hb (neC b o e hx) e1 (I.base.free b o e n hx);exact ⟨sl',e2⟩
 ·obtain ⟨o',e1⟩:=I.base.there b o e hx
  exact free b o' (neC b o e hx) e1 (I.base.free b o e n hx)
 ·obtain ⟨o',e1⟩:=I.base.there b o e hx
  exact there b o' (neC b o e hx) e1
 ·obtain ⟨m1,e1⟩:=I.base.tbls b ps e
  obtain ⟨m2,e2⟩:=tbls b _ e1;exact ⟨m1++m2,by rw [e2,Array.append_assoc]⟩
 ·obtain ⟨m,hn,hl⟩:=I.loc
  refine ⟨m,ns m hn,fun i x v e1 e2 e3=> ?_⟩;obtain ⟨u,r,l⟩:=hl i x v e1 e2 e3;refine ⟨u,r,?_⟩
  rcases l with l | ⟨k,c,e,z⟩
  ·exact .inl l
  ·exact .inr ⟨k,c,e,cellK x c e _ z⟩
 ·obtain ⟨v,z⟩:=I.cell x c e
  exact ⟨v,cellK x c e v z⟩
 ·obtain ⟨m,⟨o,_,_,ho,_⟩,_⟩:=I.loc
  exact free _ o (fun z=>(hch _ z).2.1 rfl) ho I.free
 ·obtain ⟨v,o,ho,hd⟩:=I.cell x c e
  exact free c o (fun z=>(hch c z).2.2.1 x c e rfl) ho (I.freeC x c e)
 ·obtain ⟨e,n,ne,nf,d⟩:=I.pin p hp
  have nch:p.1∉ch:=fun z=>(hch p.1 z).2.2.2 p hp rfl
  exact ⟨keep p.1 p.2 ne nf nch e n,free p.1 p.2 nch e n,ne,nf,d⟩
theorem Inv.un{t':Nat}(I:Inv X pins σ H s)(u:Un X.fs [] H H' s.heap h')(hok:HOk X.prog X.w H' h'):Inv X pins σ H' { s with heap:=h',toks:=t' }:=by
 obtain ⟨m,⟨o,es,ep,ho,r⟩,_⟩:=id I.loc;obtain ⟨sl,hL⟩:=u.any ho I.free (by simp)
 exact I.step (g':=s.gens) (d':=s.drawn) (ch:=[]) (fun _ z=>nomatch z) (fun b o _ hb _ e n=>u.keep b o e n hb (by simp)) (fun b o _ hb _ e n=>u.slot b o e n hb (by simp)) (fun b o _ e n=>u.free b o e n (by simp)) (fun b o _ e=>u.there b o e (by simp)) u.tups u.frzs u.tbls (fun m' hm=>by
  obtain ⟨o',es',ep',ho',r'⟩:=hm;rw [ho] at ho';cases ho'
  exact ⟨_,es',ep',hL,r'⟩) hok I.bare
theorem Inv.call{g':Array GenState}{t':Nat}{d':Drawn}{ch:List Addr}(I:Inv X pins σ H s)(u:Un (frs X.stack) ch H H' s.heap h')(hok:HOk X.prog X.w H' h')(hg:AllBare g')
 (hch:∀ b∈ch,(b∈X.ex\/X.s₀.heap.objs.size<=b)/\b≠X.env.locals/\(∀ x c,X.env.cells.lookup x=some c->c≠b)/\∀ p∈X.pn++pins,p.1≠b) :
 Inv X pins σ H' { s with heap:=h',gens:=g',drawn:=d',toks:=t' }:=by
 obtain ⟨m,⟨o,es,ep,ho,r⟩,_⟩:=id I.loc
 obtain ⟨sl,hL⟩:=u.any ho I.free fun z=>(hch _ z).2.1 rfl
 exact I.step (ch:=ch) hch (fun b o hL hb hc e n=>u.keep b o e n (fun z=>(List.mem_cons.mp (I.stkSub b z)).elim hL hb) hc) (fun b o _ _ hc e n=>u.any e n hc) (fun b o hc e n=>u.free b o e n hc) (fun b o hc e=>u.there b o e hc) u.tups u.frzs u.tbls (fun m' hm=>by
  obtain ⟨o',es',ep',ho',r'⟩:=hm;rw [ho] at ho';cases ho'
  exact ⟨_,es',ep',hL,r'⟩) hok hg
theorem Inv.turned{t':Nat}{it:Addr}(I:Inv X pins σ H s)(k:∀ b o,b≠it->s.heap.get? b=some o->h'.get? b=some o)(hn:H it=none)(hL:it≠X.env.locals)
 (h1:it∈X.ex\/X.s₀.heap.objs.size<=it) (h2:∀ x c,X.env.cells.lookup x=some c->c≠it) (h3:∀ p∈X.pn++pins,p.1≠it):Inv X pins σ H { s with heap:=h',toks:=t' }:=by
 have nit:∀ b u,H b=some u->b≠it:=fun b u e z=>by rw [z,hn] at e;cases e
 refine I.step (g':=s.gens) (d':=s.drawn) (ch:=[it]) (fun b hb=> ?_) (fun b o _ _ hc e _=>k b o (fun z=>hc (by simp [z])) e) (fun b o _ _ hc e _=>⟨o.slots,k b o (fun z=>hc (by simp [z])) e⟩) (fun _ _ _ _ n=>n)
  (fun b o hc e=>⟨o,k b o (fun z=>hc (by simp [z])) e⟩) (fun _ _ e=>e) (fun _ _ _ e=>e) (fun b ps e=>⟨#[],by rw [e];simp⟩) (fun m hm=> ?_) (fun b u e=> ?_) I.bare
 ·have e:b=it:=by simpa using hb
  subst e;exact ⟨h1,hL,h2,h3⟩
 ·obtain ⟨o,es,ep,ho,r⟩:=hm
  exact ⟨o,es,ep,k _ o (Ne.symm hL) ho,r⟩
 ·refine (I.hok b u e).stay (fun c v hc q=>k c v ?_ q) (fun _ q=>q) fun _ _ q=>q
  rcases hc with z | z
  ·rw [z];exact nit b u e
  ·exact nit c _ z
theorem Inv.tok(I:Inv X pins σ H s)(t:Nat):Inv X pins σ H { s with toks:=t }:=I.un (h':=s.heap) (t':=t) Un.refl I.hok
theorem Inv.kept{t':Nat}(I:Inv X pins σ H s)(k:∀ b u,s.heap.get? b=some u->h'.get? b=some u):Inv X pins σ H { s with heap:=h',toks:=t' }:=I.un (Un.kept k) (I.hok.kept k)
theorem Inv.laid{a:Addr}{o:HO}{t':Nat}(I:Inv X pins σ H s)(k:∀ b u,s.heap.get? b=some u->h'.get? b=some u)(hp:s.heap.objs.size<=a)(new:bn X.prog X.w (upd H a o) h' a o) :
 Inv X pins σ (upd H a o) { s with heap:=h',toks:=t' }:=I.un (Un.laid k hp (I.hok.fresh hp)) (I.hok.laid k hp new)
theorem Inv.write{x e:Addr}{o:HO}{t':Nat}(I:Inv X pins σ H s)(mu:Mut (H x))(he:e=x\/H e=some (.own x))(k:∀ b u,b≠e->s.heap.get? b=some u->h'.get? b=some u)(heo:∃ u,h'.get? e=some u)
 (new:bn X.prog X.w (upd H x o) h' x o):Inv X pins σ (upd H x o) { s with heap:=h',toks:=t' }:=I.un (Un.write mu he k heo) (I.hok.write mu he k heo new)
theorem Inv.weak{σ':List (Option V)}(I:Inv X pins σ H s)(hl:σ'.length=σ.length)(w:∀ (i:Nat) v,σ'[i]?=some (some v)->σ[i]?=some (some v)):Inv X pins σ' H s :=
 ⟨I.ok,I.os,I.bare,I.base,let ⟨m,hn,hl'⟩:=I.loc;⟨m,hn,fun i x v e1 e2 e3=>hl' i x v e1 (w i v e2) e3⟩,I.cell,I.free,I.freeC,I.pin,I.hok,hl.trans I.len⟩
theorem Inv.pins_of{pins':List (Addr×Obj)}(I:Inv X pins σ H s)(h:∀ p∈pins',s.heap.get? p.1=some p.2/\H p.1=none/\p.1≠X.env.locals/\p.1∉X.fs/\∀ v,p.2.data ≠ .cell v):Inv X pins' σ H s :=
 ⟨I.ok,I.os,I.bare,I.base,I.loc,I.cell,I.free,I.freeC,fun p hp=>(CI.mp hp).elim (fun z=>I.pin p (Cg _ z)) (h p),I.hok,I.len⟩
theorem l8{N:List Str}(hN:N.Nodup){i j:Nat}{x:Str}(a:N[i]?=some x)(b:N[j]?=some x):i=j:=by
 obtain ⟨h1,e1⟩:=Cm.mp a;obtain ⟨h2,e2⟩:=Cm.mp b;exact (List.getElem_inj hN).mp (e1.trans e2.symm)
theorem nK{M:Model}{A:Around}{E:Value->Shared->Prop}{i:Nat}{x:Str}{v:V}{u:Value}{Q:Unit->Shared->Prop}(I:Inv X pins σ H s)(hN:X.N.Nodup)(hi:X.N[i]?=some x)(hx:Loc X.env.scope x)(r:aD v u)
 (h:∀ s',Inv X pins (σ.set i (some v)) H s'->(∃ a,Heap.SameBut a s.heap s'.heap/\(a=X.env.locals\/X.env.cells.lookup x=some a))->Q () s') (hf:X.fn x=true\/X.env.scope.names.lookup x=some .local:=by first | exact .inl rfl | exact .inr rfl | assumption):wpAny M A (storeName X.env x u) Q E s:=by
 obtain ⟨m,hn,hl⟩:=id I.loc
 have hcls:(X.env.scope.kind == .class||(X.env.scope.kind == .module&&X.env.locals != X.env.globals))=false:=by rw [I.ok.kind];rfl
 have hiσ:i < σ.length:=by rw [I.len];exact (Cm.mp hi).1
 have cne:=I.cne
 have tracked:∀ {a:Addr} {h':Heap},(∃ o,s.heap.get? a=some o/\H a=none)->Heap.SameBut a s.heap h'->HOk X.prog X.w H h':=fun {a h'} ha hs b ob e=>by
  obtain ⟨_,_,hfree⟩:=ha
  refine (I.hok b ob e).stay (fun c w' hc q=>(hs.2 c ?_).trans q) (fun _ q=>q) fun _ _ q=>q
  rintro rfl
  rcases hc with rfl | hc
  ·rw [hfree] at e;cases e
  ·rw [hfree] at hc;cases hc
 rcases hx with hk | hk
 ·refine wpAny_storeName_local hk hn (fun h' hn' hs=> ?_) hcls
  obtain ⟨oL,_,_,hoL,_⟩:=id hn;refine h _ ⟨I.ok,I.os,I.bare,⟨fun b o e n hb hx=> ?_,fun b o e n hb hx=> ?_,I.base.free,fun b o e hx=> ?_,I.base.tups,I.base.frzs,I.base.tbls⟩,⟨_,hn',fun j y v' e1 e2 e3=> ?_⟩,fun y c e=> ?_,I.free,I.freeC,fun p hp=> ?_,tracked ⟨oL,hoL,I.free⟩ hs,by simpa using I.len⟩ ⟨_,hs,.inl rfl⟩
  ·exact (hs.2 b (Cu (CD (Cf e) I.ok.above))).trans (I.base.keep b o e n hb hx)
  ·obtain ⟨sl,e1⟩:=I.base.slot b o e n hb hx
   exact ⟨sl,(hs.2 b (Cu (CD (Cf e) I.ok.above))).trans e1⟩
  ·obtain ⟨o',e1⟩:=I.base.there b o e hx
   exact ⟨o',(hs.2 b (Cu (CD (Cf e) I.ok.above))).trans e1⟩
  ·by_cases hj:j=i
   ·subst hj
    rw [hi] at e1;cases e1;rw [C8 hiσ] at e2;cases e2;exact ⟨u,r,.inl ⟨hk,by simp⟩⟩
   ·rw [CJ (Ne.symm hj)] at e2
    obtain ⟨u',r',q⟩:=hl j y v' e1 e2 e3;refine ⟨u',r',?_⟩
    rcases q with ⟨k,e⟩ | ⟨k,c,e,z⟩
    ·refine .inl ⟨k,?_⟩
     have:y≠x:=fun e=>hj (l8 hN e1 (e ▸ hi))
     simp [this,e]
    ·exact .inr ⟨k,c,e,z.sameBut hs (cne y c e)⟩
  ·obtain ⟨w',z⟩:=I.cell y c e
   exact ⟨w',z.sameBut hs (cne y c e)⟩
  ·obtain ⟨e,n,ne,nf,d⟩:=I.pin p hp
   exact ⟨(hs.2 p.1 ne).trans e,n,ne,nf,d⟩
 ·have hfn:X.fn x=true:=by
   rcases hf with z | z
   ·exact z
   ·rw [z] at hk;cases hk
  obtain ⟨c,hc⟩:=I.ok.has x (.inl hk);obtain ⟨w',z⟩:=I.cell x c hc;refine wpAny_storeName_cell I.ok.kind hk hc z (fun h' hc' hs=> ?_);obtain ⟨oc,hoc,hocd⟩:=id z;refine h { s with heap:=h' } ⟨I.ok,I.os,I.bare,⟨fun b o e n hb hx=> ?_,fun b o e n hb hx=> ?_,I.base.free,fun b o e hx=> ?_,I.base.tups,I.base.frzs,I.base.tbls⟩,⟨m,hn.sameBut hs (Ne.symm (cne x c hc)),fun j y v' e1 e2 e3=> ?_⟩,fun y c' e=> ?_,I.free,I.freeC,fun p hp=> ?_,tracked ⟨oc,hoc,I.freeC x c hc⟩ hs,by simpa using I.len⟩ ⟨c,hs,.inr hc⟩
  ·exact (hs.2 b (Cu (CD (Cf e) (I.ok.cab x c hfn hc)))).trans (I.base.keep b o e n hb hx)
  ·obtain ⟨sl,e1⟩:=I.base.slot b o e n hb hx
   exact ⟨sl,(hs.2 b (Cu (CD (Cf e) (I.ok.cab x c hfn hc)))).trans e1⟩
  ·obtain ⟨o',e1⟩:=I.base.there b o e hx
   exact ⟨o',(hs.2 b (Cu (CD (Cf e) (I.ok.cab x c hfn hc)))).trans e1⟩
  ·by_cases hj:j=i
   ·subst hj
    rw [hi] at e1;cases e1;rw [C8 hiσ] at e2;cases e2;exact ⟨u,r,.inr ⟨.inl hk,c,hc,hc'⟩⟩
   ·rw [CJ (Ne.symm hj)] at e2
    obtain ⟨u',r',q⟩:=hl j y v' e1 e2 e3;refine ⟨u',r',?_⟩
    rcases q with q | ⟨k,c',e,z'⟩
    ·exact .inl q
    ·refine .inr ⟨k,c',e,z'.sameBut hs ?_⟩
     rintro rfl;exact hj (l8 hN e1 (I.ok.inj _ _ _ e hc ▸ hi))
  ·by_cases hcc:c'=c
   ·subst hcc;exact ⟨_,hc'⟩
   ·obtain ⟨w2,z2⟩:=I.cell y c' e
    exact ⟨w2,z2.sameBut hs hcc⟩
  ·obtain ⟨e,n,ne,nf,d⟩:=I.pin p hp
   refine ⟨(hs.2 p.1 ?_).trans e,n,ne,nf,d⟩;intro q;rw [q,hoc] at e;have q':oc=p.2:=Option.some.inj e;exact d w' (by rw [<- q'];exact hocd)
theorem fU{M:Model}{A:Around}{E:Value->Shared->Prop}{i:Nat}{x:Str}{v:V}{u:Value}{Q:Unit->Shared->Prop}(I:Inv X pins σ H s)(hN:X.N.Nodup)(hi:X.N[i]?=some x)(hx:Loc X.env.scope x)(r:aD v u)
 (h:∀ s',Inv X pins (σ.set i (some v)) H s'->Q () s') (hf:X.fn x=true\/X.env.scope.names.lookup x=some .local:=by first | exact .inl rfl | exact .inr rfl | assumption):wpAny M A (storeName X.env x u) Q E s :=
 nK I hN hi hx r (fun s' I' _=>h s' I') hf
theorem Inv.call'{s':Shared}{ch:List Addr}(I:Inv X pins σ H s)(ho:s'.os=s.os)(u:Un (frs X.stack) ch H H' s.heap s'.heap)(hok:HOk X.prog X.w H' s'.heap)(hg:AllBare s'.gens)
 (hch:∀ b∈ch,(b∈X.ex\/X.s₀.heap.objs.size<=b)/\b≠X.env.locals/\(∀ x c,X.env.cells.lookup x=some c->c≠b)/\∀ p∈X.pn++pins,p.1≠b):Inv X pins σ H' s':=by
 obtain ⟨h',g',d',t',o'⟩:=s';have e:o'=s.os:=ho;subst e;exact I.call (g':=g') (t':=t') (d':=d') u hok hg hch
end
abbrev XK:=Value->Option Addr->Hp->Prop
abbrev St:=List (Option V)
abbrev VK:=V->Hp->Prop
abbrev TE:=St->Hp->VK->Prop
abbrev TT:=St->Hp->(Bool->Hp->Prop)->Prop
abbrev TA:=St->Hp->(List V->Hp->Prop)->Prop
structure nA where
 nx:St->Hp->Prop
 rt:VK
 bk:St->Hp->Prop:=fun _ _=>False
 ct:St->Hp->Prop:=fun _ _=>False
abbrev TS:=nA->St->Hp->Prop
def EP(X:Cx)(pins:List (Addr×Obj))(σ:St)(Q:VK)(u:Value)(s':Shared):Prop:=∃ v H',Inv X pins σ H' s'/\aD v u/\Q v H'
def TP(X:Cx)(pins:List (Addr×Obj))(σ:St)(Q:Bool->Hp->Prop)(b:Bool)(s':Shared):Prop:=∃ H',Inv X pins σ H' s'/\Q b H'
def AP(X:Cx)(pins:List (Addr×Obj))(σ:St)(Q:List V->Hp->Prop)(us:List Value)(s':Shared):Prop:=∃ vs H',Inv X pins σ H' s'/\aw vs us/\Q vs H'
def SP(X:Cx)(pins:List (Addr×Obj))(D:nA)(f:Flow)(s':Shared):Prop :=
 match f with
 | .next=>∃ σ' H',Inv X pins σ' H' s'/\D.nx σ' H'
 | .brk=>∃ σ' H',Inv X pins σ' H' s'/\D.bk σ' H'
 | .cont=>∃ σ' H',Inv X pins σ' H' s'/\D.ct σ' H'
 | .ret u=>∃ v σ' H',Inv X pins σ' H' s'/\aD v u/\D.rt v H'
def PE(X:Cx)(e:Expr)(t:TE):Prop :=
 ∀ (pins:List (Addr×Obj)) (s:Shared) (σ:St) (H:Hp) (Q:VK),Inv X pins σ H s->t σ H Q->wpAny (model X.prog X.w) X.A (eval e X.env) (EP X pins σ Q) X.xe s
def PT(X:Cx)(e:Expr)(t:TT):Prop :=
 ∀ (pins:List (Addr×Obj)) (s:Shared) (σ:St) (H:Hp) (Q:Bool->Hp->Prop),Inv X pins σ H s->t σ H Q->wpAny (model X.prog X.w) X.A (isTrue e X.env (eval e X.env)) (TP X pins σ Q) X.xe s
def PW(X:Cx)(e:Expr)(t:TT):Prop :=
 ∀ (whole:Sem Value) (pins:List (Addr×Obj)) (s:Shared) (σ:St) (H:Hp) (Q:Bool->Hp->Prop),Inv X pins σ H s->t σ H Q->wpAny (model X.prog X.w) X.A (isTrue e X.env whole) (TP X pins σ Q) X.xe s
theorem PW.pt{X:Cx}{e:Expr}{t:TT}(h:PW X e t):PT X e t:=h _
def PA(X:Cx)(es:List Expr)(t:TA):Prop :=
 ∀ (pos:Pos) (pins:List (Addr×Obj)) (s:Shared) (σ:St) (H:Hp) (Q:List V->Hp->Prop),Inv X pins σ H s->t σ H Q->wpAny (model X.prog X.w) X.A (spliced (backTo pos (starEach es X.env))) (AP X pins σ Q) X.xe s
def PS(X:Cx)(st:Stmt)(t:TS):Prop :=
 ∀ (pins:List (Addr×Obj)) (s:Shared) (σ:St) (H:Hp) (D:nA),Inv X pins σ H s->t D σ H->wpAny (model X.prog X.w) X.A (exec st X.env) (SP X pins D) X.xe s
def PSs(X:Cx)(st:List Stmt)(t:TS):Prop :=
 ∀ (pins:List (Addr×Obj)) (s:Shared) (σ:St) (H:Hp) (D:nA),Inv X pins σ H s->t D σ H->wpAny (model X.prog X.w) X.A (execs st X.env) (SP X pins D) X.xe s
theorem thn{α:Type}{t:Sem α}{Q Q':α->Shared->Prop}{M:Model}{A:Around}{E:Value->Shared->Prop}{s:Shared}(h:wpAny M A t Q E s)(hQ:∀ a s,Q a s->Q' a s):wpAny M A t Q' E s:=Dm h hQ fun _ _ x=>x
section
variable{X:Cx}
theorem bin{a b:Expr}{ta tb:TE}(ha:PE X a ta)(hb:PE X b tb){pins:List (Addr×Obj)}{s:Shared}{σ:St}{H:Hp}{R:V->V->Hp->Prop}(I:Inv X pins σ H s)(h:ta σ H fun x H1=>tb σ H1 fun y H2=>R x y H2)
 {α:Type} {Q:α->Shared->Prop} {f:Value->Value->Sem α}
 (hf:∀ v u s2 x y H2,Inv X pins σ H2 s2->aD x v->aD y u->R x y H2->wpAny (model X.prog X.w) X.A (f v u) Q X.xe s2) :
 wpAny (model X.prog X.w) X.A (eval a X.env) (fun v s₁=>wpAny (model X.prog X.w) X.A (eval b X.env) (fun u s₂=>wpAny (model X.prog X.w) X.A (f v u) Q X.xe s₂) X.xe s₁) X.xe s:=by
 refine thn (ha pins s σ H _ I h) fun v s1 ⟨x,H1,I1,r1,q1⟩=> ?_
 refine thn (hb pins s1 σ H1 _ I1 q1) fun u s2 ⟨y,H2,I2,r2,q2⟩=> ?_
 exact hf v u s2 x y H2 I2 r1 r2 q2
def wJ(i:Nat):TE:=fun σ H Q=>∃ v,σ[i]?=some (some v)/\Q v H
def tC(v:V):TE:=fun _ H Q=>Q v H
theorem gu{i:Nat}{x:Str}{pos:Pos}(hN:X.N[i]?=some x)(hv:Vis X.env.scope x)(hd:(x == ("__debug__" : Str))=false:=by decide)(hcd:(x == ("__classdict__" : Str))=false:=by decide):PE X (.Name x pos) (wJ i):=by
 intro pins s σ H Q I h;obtain ⟨v,e,h⟩:=h;obtain ⟨m,hn,hl⟩:=I.loc;obtain ⟨u,r,l⟩:=hl i x v hN e hv;have fin:EP X pins σ Q u s:=⟨v,H,I,r,h⟩
 rcases l with ⟨hk,hm⟩ | ⟨hk,c,hc,hcell⟩
 ·exact wpAny_Name (wpAny_loadName_local I.ok.kind hk hn hm fin) hd
 ·rcases hk with hk | hk
  ·exact wpAny_Name (wpAny_loadName_cell I.ok.kind hk hc hcell fin) hd
  ·exact wpAny_Name (wpAny_loadName_free I.ok.kind hk hc hcell fin hcd) hd
theorem oY{i j pos}:PE X (.Constant (.int i) j pos) (tC (.int i)):=fun _ _ _ H _ I h=>wpAny_Constant_int ⟨.int i,H,I.tok _,⟨_,rfl⟩,h⟩
theorem xD{b j pos}:PE X (.Constant (.bool b) j pos) (tC (.bl b)):=fun _ _ _ H _ I h=>Constant_bool ⟨.bl b,H,I,rfl,h⟩
theorem pe_non{j pos}:PE X (.Constant .none j pos) (tC .non):=fun _ _ _ H _ I h=>Constant_none ⟨.non,H,I,rfl,h⟩
theorem dO{x j pos}:PE X (.Constant (.str x) j pos) (tC (.str x)):=fun _ _ _ H _ I h=>Calls.Constant_str ⟨.str x,H,I.tok _,⟨_,rfl⟩,h⟩
def Gl(X:Cx)(x:Str):Prop:=X.env.kindOf x=some .globalImplicit
theorem gW{E:Value->Shared->Prop}{pins:List (Addr×Obj)}{s:Shared}{σ:St}{H:Hp}{x:Str}{u:Value}{pos:Pos}{Q:Value->Shared->Prop}(I:Inv X pins σ H s)(hg:Gl X x)(hm:X.mg x=some u)(h:Q u s)
 (hd:(x == ("__debug__" : Str))=false:=by decide):wpAny (model X.prog X.w) X.A (eval (.Name x pos) X.env) Q E s :=
 Calls.Name_function_global I.ok.kind hg (Calls.loadGlobal_global (by rw [I.ok.glob];exact I.mod.glob.keeps I.bk) hm h) hd
theorem iM{E:Value->Shared->Prop}{pins:List (Addr×Obj)}{s:Shared}{σ:St}{H:Hp}{x:Str}{u:Value}{pos:Pos}{Q:Value->Shared->Prop}(I:Inv X pins σ H s)(hg:Gl X x)(hm:X.mg x=none)(hv:bootBuiltins x=some u)(h:Q u s)
 (hn:x ≠ "__name__" := by decide) (hd:(x == ("__debug__" : Str))=false:=by decide):wpAny (model X.prog X.w) X.A (eval (.Name x pos) X.env) Q E s:=by
 obtain ⟨mb,h1,h2⟩:=I.mod.blt;exact Calls.Name_function_global I.ok.kind hg (Calls.loadGlobal_builtin (by rw [I.ok.glob];exact I.mod.glob.keeps I.bk) hm (by rw [I.ok.blt];exact h1.keeps I.bk) ((h2 x hn).trans hv) h) hd
theorem kW{x:Str}{v:V}{u:Value}{pos:Pos}(hg:Gl X x)(hm:X.mg x=some u)(r:aD v u)(hd:(x == ("__debug__" : Str))=false:=by decide):PE X (.Name x pos) (tC v) :=
 fun _ _ _ H _ I h=>gW I hg hm ⟨v,H,I,r,h⟩ hd
theorem ut{x:Str}{v:V}{u:Value}{pos:Pos}(hg:Gl X x)(hm:X.mg x=none)(hv:bootBuiltins x=some u)(r:aD v u)(hn:x ≠ "__name__" := by decide)(hd:(x == ("__debug__" : Str))=false:=by decide):PE X (.Name x pos) (tC v) :=
 fun _ _ _ H _ I h=>iM I hg hm hv ⟨v,H,I,r,h⟩ hn hd
variable{a b:Expr}{ta tb:TE}{pos:Pos}
def PC(X:Cx)(op:CmpOp)(a b:Expr)(t:TE):Prop :=
 ∀ (pins:List (Addr×Obj)) (s:Shared) (σ:St) (H:Hp) (Q:VK),Inv X pins σ H s->t σ H Q ->
  wpAny (model X.prog X.w) X.A (eval a X.env) (fun v s₁=>wpAny (model X.prog X.w) X.A (eval b X.env) (fun u s₂=>wpAny (model X.prog X.w) X.A (compareOp op v u) (EP X pins σ Q) X.xe s₂) X.xe s₁) X.xe s
theorem xR(b:Expr){op:CmpOp}(h:op ≠ .In)(h2:op ≠ .NotIn):behindInMarks op b=false:=by
 have e1:(op == CmpOp.In)=false:=by cases op<;>first | rfl | exact absurd rfl h
 have e2:(op == CmpOp.NotIn)=false:=by cases op<;>first | rfl | exact absurd rfl h2
 cases b<;>simp [behindInMarks,e1,e2]
def tB(t:TE):TT:=fun σ H Q=>t σ H fun x H1=>∃ c,x = .bl c/\Q c H1
theorem pt_cmp{op:CmpOp}{t:TE}(h:PC X op a b t)(h1:behindInMarks op b=false:=by first | exact xR _ (by decide) (by decide) | rfl):PT X (.Compare a [op] [b] pos) (tB t):=by
 intro pins s σ H Q I hw;refine wpAny_isTrue_Compare1 (thn (h pins s σ H _ I hw) fun v s1 h1=>thn h1 fun u s2 h2=>thn h2 fun c s3 ⟨x,H1,I1,r1,q1⟩=> ?_) h1;obtain ⟨d,rfl,q⟩:=q1;cases r1;exact Dw ⟨H1,I1,q⟩
theorem pt_val{e:Expr}{t:TE}(h:PE X e t)(he:∀ whole,isTrue e X.env whole=(do let v <- whole;standAt e.pos;holding [v] (truthy v)):=by intro _;rfl):PT X e (tB t):=by
 intro pins s σ H Q I hw;refine isTrue_plain (thn (h pins s σ H _ I hw) fun v s1 ⟨x,H1,I1,r1,q1⟩=> ?_) (he _);obtain ⟨d,rfl,q⟩:=q1;cases r1;exact Dw ⟨H1,I1,q⟩
variable{tA tB':TT}{rest:List Expr}
def tAnd(t u:TT):TT:=fun σ H Q=>t σ H fun c H1=>if c=true then u σ H1 Q else Q false H1
def tOr(t u:TT):TT:=fun σ H Q=>t σ H fun c H1=>if c=true then Q true H1 else u σ H1 Q
def tNot(t:TT):TT:=fun σ H Q=>t σ H fun c H1=>Q (!c) H1
theorem Al(ha:PT X a tA):PW X (.BoolOp .And [a] pos) tA:=by
 intro wh pins s σ H Q I h;refine isTrue_and (thn (ha pins s σ H Q I h) fun c s1 e=> ?_)
 cases c with
 | true=>exact isTrue_and_nil e
 | false=>exact e
theorem xk(ha:PT X a tA):PW X (.BoolOp .Or [a] pos) tA:=by
 intro wh pins s σ H Q I h;refine isTrue_or (thn (ha pins s σ H Q I h) fun c s1 e=> ?_)
 cases c with
 | false=>exact isTrue_or_nil e
 | true=>exact e
theorem pw_and(ha:PT X a tA)(hb:PW X (.BoolOp .And (b::rest) pos) tB'):PW X (.BoolOp .And (a::b::rest) pos) (tAnd tA tB'):=by
 intro wh pins s σ H Q I h;refine isTrue_and (thn (ha pins s σ H _ I h) fun c s1 ⟨H1,I1,q1⟩=> ?_)
 cases c with
 | true=>exact hb wh pins s1 σ H1 Q I1 q1
 | false=>exact ⟨H1,I1,q1⟩
theorem BN(ha:PT X a tA)(hb:PW X (.BoolOp .Or (b::rest) pos) tB'):PW X (.BoolOp .Or (a::b::rest) pos) (tOr tA tB'):=by
 intro wh pins s σ H Q I h;refine isTrue_or (thn (ha pins s σ H _ I h) fun c s1 ⟨H1,I1,q1⟩=> ?_)
 cases c with
 | true=>exact ⟨H1,I1,q1⟩
 | false=>exact hb wh pins s1 σ H1 Q I1 q1
theorem xn(ha:PT X a tA):PT X (.UnaryOp .Not a pos) (tNot tA):=by
 intro pins s σ H Q I h;exact isTrue_not (ha pins s σ H (fun c H1=>Q (!c) H1) I h)
def tAndV(ta tb:TE):TE:=fun σ H Q=>ta σ H fun x H1=>∃ c,x = .bl c/\if c=true then tb σ H1 Q else Q (.bl false) H1
def tNotV(ta:TE):TE:=fun σ H Q=>ta σ H fun x H1=>∃ c,x = .bl c/\Q (.bl (!c)) H1
theorem pe_one{op}{t:TE}(h:PE X a t):PE X (.BoolOp op [a] pos) t:=fun pins s σ H Q I hw=>BoolOp_one (h pins s σ H Q I hw)
theorem pe_and(ha:PE X a ta)(hb:PE X (.BoolOp .And (b::rest) pos) tb):PE X (.BoolOp .And (a::b::rest) pos) (tAndV ta tb):=by
 intro pins s σ H Q I h;refine BoolOp_and (thn (ha pins s σ H _ I h) fun v s1 ⟨x,H1,I1,r1,q1⟩=> ?_);obtain ⟨c,rfl,q1⟩:=q1;cases r1;refine Dw ?_
 cases c with
 | true=>exact hb pins s1 σ H1 Q I1 q1
 | false=>exact ⟨.bl false,H1,I1,rfl,q1⟩
theorem pe_not(ha:PE X a ta):PE X (.UnaryOp .Not a pos) (tNotV ta):=by
 intro pins s σ H Q I h;refine UnaryOp_ (thn (ha pins s σ H _ I h) fun v s1 ⟨x,H1,I1,r1,q1⟩=> ?_);obtain ⟨c,rfl,q1⟩:=q1;cases r1;exact not_of (Dw ⟨.bl (!c),H1,I1,rfl,q1⟩)
def tIf(t:TT)(ta tb:TE):TE:=fun σ H Q=>t σ H fun c H1=>if c=true then ta σ H1 Q else tb σ H1 Q
theorem xx{c:Expr}(hc:PT X c tA)(ha:PE X a ta)(hb:PE X b tb):PE X (.IfExp c a b pos) (tIf tA ta tb):=by
 intro pins s σ H Q I h;refine wpAny_IfExp (thn (hc pins s σ H _ I h) fun d s1 ⟨H1,I1,q1⟩=> ?_)
 cases d with
 | true=>exact ha pins s1 σ H1 Q I1 q1
 | false=>exact hb pins s1 σ H1 Q I1 q1
end
def SqL(K:EG)(H:Hp)(a:Addr)(xs:List V):Prop :=
 Rd H a (.lst xs) \/
  ∃ (o:Obj) (its:Array Value) (n:Nat),K.lookup a=some o/\o.cls = .type "list" /\ o.dict=none/\o.data = .seq its n/\its.size<=sizeLine/\aw xs its.toList
def SqT(K:EG)(H:Hp)(a:Addr)(xs:List V):Prop :=
 Rd H a (.tup xs) \/
  ∃ (o:Obj) (its:Array Value) (n:Nat),K.lookup a=some o/\o.cls = .type "tuple" /\ o.data = .seq its n/\its.size<=sizeLine/\aw xs its.toList
def absV:Value->Option V
 | .none=>some .non
 | .bool b=>some (.bl b)
 | .int i _=>some (.int i)
 | .str x _=>some (.str x)
 | .bytes b _=>some (.byt b)
 | .float b _=>some (.flt b)
 | .ref a=>some (.ref a)
 | .type n=>some (.ty n)
 | _=>none
theorem aD.abs{x:V}{u:Value}(r:aD x u):absV u=some x:=by
 cases x with
 | non=>cases r;rfl
 | bl _=>cases r;rfl
 | int _=>obtain ⟨t,rfl⟩:=r;rfl
 | str _=>obtain ⟨t,rfl⟩:=r;rfl
 | byt _=>obtain ⟨t,rfl⟩:=r;rfl
 | flt _=>obtain ⟨t,rfl⟩:=r;rfl
 | ref _=>cases r;rfl
 | ty _=>cases r;rfl
theorem aD.inj{x y:V}{u:Value}(r:aD x u)(q:aD y u):x=y:=Option.some.inj (r.abs.symm.trans q.abs)
theorem aw.inj:∀ {xs ys:List V} {us:List Value},aw xs us->aw ys us->xs=ys
 | _,_,_,.nil,.nil=>rfl
 | _,_,_,.cons r t,.cons r' t'=>by rw [r.inj r',aw.inj t t']
section
variable{X:Cx}{pins:List (Addr×Obj)}{σ:St}{H:Hp}{s:Shared}{a:Addr}{xs ys:List V}
theorem Inv.list(I:Inv X pins σ H s)(h:SqL X.K H a xs):∃ its:List Value,aw xs its/\PlainL s.heap a its.toArray/\xs.length<=sizeLine:=by
 rcases h with h | ⟨o,its,n,hk,hc,hd,hs,hz,r⟩
 ·obtain ⟨z,its,n,r,e⟩:=h.ok I.hok
  exact ⟨its,r,⟨_,n,e,rfl,rfl,rfl⟩,z⟩
 ·refine ⟨its.toList,r,⟨o,n,I.kIn a o hk,hc,hd,by simpa using hs⟩,?_⟩
  have e:=r.length;simp only [C0] at e;omega
theorem Inv.tuple(I:Inv X pins σ H s)(h:SqT X.K H a xs):∃ its:List Value,aw xs its/\IsTup s.heap a its.toArray/\xs.length<=sizeLine:=by
 rcases h with h | ⟨o,its,n,hk,hc,hs,hz,r⟩
 ·obtain ⟨z,its,r,p⟩:=h.ok I.hok
  exact ⟨its,r,p,z⟩
 ·refine ⟨its.toList,r,⟨o,I.kIn a o hk,hc,n,by simpa using hs⟩,?_⟩
  have e:=r.length;simp only [C0] at e;omega
theorem Inv.list_inj(I:Inv X pins σ H s)(h:SqL X.K H a xs)(h':SqL X.K H a ys):xs=ys:=by
 obtain ⟨its,r,⟨o,n,e,_,_,d⟩,_⟩:=I.list h;obtain ⟨its',r',⟨o',n',e',_,_,d'⟩,_⟩:=I.list h';rw [e] at e';cases e';rw [d] at d'
 injection d' with d1 _
 have:its=its':=by simpa using congrArg Array.toList d1
 subst this;exact r.inj r'
theorem Inv.tuple_inj(I:Inv X pins σ H s)(h:SqT X.K H a xs)(h':SqT X.K H a ys):xs=ys:=by
 obtain ⟨its,r,⟨o,e,_,n,d⟩,_⟩:=I.tuple h;obtain ⟨its',r',⟨o',e',_,n',d'⟩,_⟩:=I.tuple h';rw [e] at e';cases e';rw [d] at d'
 injection d' with d1 _
 have:its=its':=by simpa using congrArg Array.toList d1
 subst this;exact r.inj r'
end
abbrev Cx.wish(X:Cx)(E:Value->Shared->Prop):Cx:={ X with xe:=E }
abbrev Cx.nox(X:Cx):Cx:=X.wish fun _ _=>False
theorem Cx.Ok.wish{X:Cx}(ok:X.Ok)(E:Value->Shared->Prop):(X.wish E).Ok :=
 ⟨ok.mod,ok.kind,ok.glob,ok.blt,ok.above,ok.inj,ok.has,ok.cab,ok.hd,ok.frames,ok.stk,ok.exf,ok.bs,ok.bsz,ok.noex,ok.exfs,ok.funs,ok.frf⟩
theorem Cx.Ok.unwish{X:Cx}{E:Value->Shared->Prop}(ok:(X.wish E).Ok):X.Ok :=
 ⟨ok.mod,ok.kind,ok.glob,ok.blt,ok.above,ok.inj,ok.has,ok.cab,ok.hd,ok.frames,ok.stk,ok.exf,ok.bs,ok.bsz,ok.noex,ok.exfs,ok.funs,ok.frf⟩
section
variable{X:Cx}{pins:List (Addr×Obj)}{σ:St}{H:Hp}{s:Shared}{E:Value->Shared->Prop}
theorem Inv.wish(I:Inv X pins σ H s)(E:Value->Shared->Prop):Inv (X.wish E) pins σ H s:=⟨I.ok.wish E,I.os,I.bare,I.base,I.loc,I.cell,I.free,I.freeC,I.pin,I.hok,I.len⟩
theorem Inv.unwish(I:Inv (X.wish E) pins σ H s):Inv X pins σ H s:=⟨I.ok.unwish,I.os,I.bare,I.base,I.loc,I.cell,I.free,I.freeC,I.pin,I.hok,I.len⟩
theorem SP.unwish{D:nA}{f:Flow}{s':Shared}(h:SP (X.wish E) pins D f s'):SP X pins D f s':=by
 cases f with
 | next=>obtain ⟨σ',H',I,q⟩:=h;exact ⟨σ',H',I.unwish,q⟩
 | brk=>obtain ⟨σ',H',I,q⟩:=h;exact ⟨σ',H',I.unwish,q⟩
 | cont=>obtain ⟨σ',H',I,q⟩:=h;exact ⟨σ',H',I.unwish,q⟩
 | ret u=>obtain ⟨v,σ',H',I,r,q⟩:=h;exact ⟨v,σ',H',I.unwish,r,q⟩
end
section
variable{X:Cx}{st:Stmt}{rest:List Stmt}{t u:TS}{e:Expr}{te:TE}{pos:Pos}
def tNext:TS:=fun D σ H=>D.nx σ H
def tSeq(t u:TS):TS:=fun D σ H=>t { D with nx:=u D } σ H
theorem ul:PSs X [] tNext:=fun _ _ σ H _ I h=>wpAny_execs_nil ⟨σ,H,I,h⟩
theorem eY(h1:PS X st t)(h2:PSs X rest u):PSs X (st::rest) (tSeq t u):=by
 intro pins s σ H D I h;refine wpAny_execs_cons (thn (h1 pins s σ H { D with nx:=u D } I h) fun f s1 q=> ?_)
 cases f with
 | next =>
  obtain ⟨σ',H',I',q⟩:=q;exact h2 pins s1 σ' H' D I' q
 | ret v=>exact q
 | brk=>exact q
 | cont=>exact q
theorem oS(h1:PS X st t):PSs X [st] t:=by
 intro pins s σ H D I h;refine wpAny_execs_cons (thn (h1 pins s σ H D I h) fun f s1 q=> ?_)
 cases f with
 | next=>exact wpAny_execs_nil q
 | ret v=>exact q
 | brk=>exact q
 | cont=>exact q
theorem Inv.quiet{pins:List (Addr×Obj)}{σ:St}{H:Hp}{s:Shared}(I:Inv X pins σ H s):interactive X.env=false:=by simp [interactive,I.ok.kind]
def tDrop(te:TE):TS:=fun D σ H=>te σ H fun _ H1=>D.nx σ H1
theorem um(he:PE X e te)(hs:swapsWith e none pos.line X.env=pure false:=by rfl):PS X (.Expr e pos) (tDrop te):=by
 intro pins s σ H D I h;exact wpAny_Expr_any (thn (he pins s σ H _ I h) fun v s1 ⟨x,H1,I1,r1,q1⟩=>⟨σ,H1,I1,q1⟩) I.quiet hs
def tRet(te:TE):TS:=fun D σ H=>te σ H D.rt
theorem oV(he:PE X e te):PS X (.Return (some e) pos) (tRet te):=by
 intro pins s σ H D I h;exact wpAny_Return_some (thn (he pins s σ H _ I h) fun v s1 ⟨x,H1,I1,r1,q1⟩=>⟨x,σ,H1,I1,r1,q1⟩)
def tIfS(c:TT)(t u:TS):TS:=fun D σ H=>c σ H fun b H1=>if b=true then t D σ H1 else u D σ H1
theorem BO{c:Expr}{a b:List Stmt}{tc:TT}(hc:PT X c tc)(ha:PSs X a t)(hb:PSs X b u):PS X (.If c a b pos) (tIfS tc t u):=by
 intro pins s σ H D I h;refine wpAny_If (thn (hc pins s σ H _ I h) fun d s1 ⟨H1,I1,q1⟩=> ?_)
 cases d with
 | true=>exact ha pins s1 σ H1 D I1 q1
 | false=>exact hb pins s1 σ H1 D I1 q1
end
abbrev TG:=V->St->Hp->(St->Hp->Prop)->Prop
abbrev TGs:=List V->St->Hp->(St->Hp->Prop)->Prop
def PG(X:Cx)(target:Expr)(t:TG):Prop :=
 ∀ (pins:List (Addr×Obj)) (s:Shared) (σ:St) (H:Hp) (v:V) (u:Value) (Q:St->Hp->Prop),Inv X pins σ H s->aD v u->t v σ H Q ->
  wpAny (model X.prog X.w) X.A (assign target X.env u) (fun _ s'=>∃ σ' H',Inv X pins σ' H' s'/\Q σ' H') X.xe s
def PGs(X:Cx)(ts:List Expr)(t:TGs):Prop :=
 ∀ (pins:List (Addr×Obj)) (s:Shared) (σ:St) (H:Hp) (vs:List V) (us:List Value) (Q:St->Hp->Prop),Inv X pins σ H s->aw vs us->t vs σ H Q ->
  wpAny (model X.prog X.w) X.A (assignInOrder ((assignEach ts X.env).map (·.2)) us) (fun _ s'=>∃ σ' H',Inv X pins σ' H' s'/\Q σ' H') X.xe s
abbrev TSet:=V->V->V->Hp->(Hp->Prop)->Prop
def PSet(X:Cx)(t:TSet):Prop :=
 ∀ (pins:List (Addr×Obj)) (s:Shared) (σ:St) (H:Hp) (o i v:V) (ov iv u:Value) (Q:Hp->Prop),Inv X pins σ H s->aD o ov->aD i iv->aD v u->t o i v H Q ->
  wpAny (model X.prog X.w) X.A (setItem ov iv u) (fun _ s'=>∃ H',Inv X pins σ H' s'/\Q H') X.xe s
abbrev TIp:=V->V->Hp->VK->Prop
def PIp(X:Cx)(op:Operator)(t:TIp):Prop :=
 ∀ (pins:List (Addr×Obj)) (s:Shared) (σ:St) (H:Hp) (x y:V) (v u:Value) (Q:VK),Inv X pins σ H s->aD x v->aD y u->t x y H Q ->
  wpAny (model X.prog X.w) X.A (inplaceOp op v u) (EP X pins σ Q) X.xe s
section
variable{X:Cx}{pos:Pos}
def uH(i:Nat):TG:=fun v σ H Q=>Q (σ.set i (some v)) H
theorem Aw{i:Nat}{x:Str}(hN:X.N.Nodup)(hi:X.N[i]?=some x)(hx:Loc X.env.scope x)(hf:X.fn x=true\/X.env.scope.names.lookup x=some .local:=by first | exact .inl rfl | exact .inr rfl | assumption):PG X (.Name x pos) (uH i):=by
 intro pins s σ H v u Q I r h;exact wpAny_assign_Name (fU I hN hi hx r (fun s' I'=>⟨_,H,I',h⟩) hf)
def gNil:TGs:=fun vs σ H Q=>vs=[]/\Q σ H
def BX(t:TG)(u:TGs):TGs:=fun vs σ H Q=>∃ v r,vs=v::r/\t v σ H fun σ' H'=>u r σ' H' Q
theorem Av:PGs X [] gNil:=by
 intro pins s σ H vs us Q I r h;obtain ⟨e,h⟩:=h;subst e;cases r;exact assignInOrder_nil ⟨σ,H,I,h⟩
theorem xu{e:Expr}{es:List Expr}{t:TG}{u:TGs}(h1:PG X e t)(h2:PGs X es u)
 (hs:(assignEach (e::es) X.env).map (·.2)=assign e X.env::(assignEach es X.env).map (·.2):=by rfl):PGs X (e::es) (BX t u):=by
 intro pins s σ H vs us Q I r h;obtain ⟨v,vr,e1,h⟩:=h;subst e1
 cases r with
 | cons r rr =>
  rw [hs];refine assignInOrder_cons (thn (h1 pins s σ H _ _ _ I r h) fun _ s1 ⟨σ1,H1,I1,q1⟩=> ?_);exact h2 pins s1 σ1 H1 _ _ Q I1 rr q1
def gTup(K:EG)(n:Nat)(t:TGs):TG:=fun v σ H Q=>∃ a xs,v = .ref a/\SqT K H a xs/\xs.length=n/\t xs σ H Q
theorem pg_tup{es:List Expr}{k:Nat}{t:TGs}{n:Nat}(hc:X.calm=true)(h:PGs X es t)
 (hn:(assignEach es X.env).length=n:=by rfl) (hst:(assignEach es X.env).findIdx? (·.1)=none:=by rfl):PG X (.Tuple es k pos) (gTup X.K n t):=by
 intro pins s σ H v u Q I r hw;obtain ⟨a,xs,e1,hq,hl,hw⟩:=hw;subst e1;cases r;obtain ⟨its,rv,ht,hz⟩:=I.tuple hq
 refine assign_Tuple_tuple (I.ok.hd hc) ht (by simp [hn,<- hl,rv.length]) hst fun h' hx=> ?_
 have I1:Inv X pins σ H { s with heap:=h' }:=I.kept (t':=s.toks) fun b o e=>hx b o (Cu (Cf e)) e
 exact h pins _ σ H xs _ Q I1 (by simpa using rv) hw
def gSub(to ti:TE)(t:TSet):TG:=fun v σ H Q=>to σ H fun o H1=>ti σ H1 fun i H2=>t o i v H2 fun H3=>Q σ H3
theorem pg_sub{o i:Expr}{to ti:TE}{t:TSet}(ho:PE X o to)(hi:PE X i ti)(hs:PSet X t)
 (ha:∀ v,assign (.Subscript o i pos) X.env v=(do
   let ov <- holding [v] (eval o X.env)
   let iv <- holding [v,ov] (eval i X.env)
   standAt pos
   holding [v,ov,iv] (setItem ov iv v)
   release [v,ov,iv] []):=by intro _;rfl):PG X (.Subscript o i pos) (gSub to ti t):=by
 intro pins s σ H v u Q I r h;rw [ha];refine B6 (Du (thn (ho pins s σ H _ I h) fun ov s1 ⟨x,H1,I1,r1,q1⟩=> ?_));refine B6 (Du (thn (hi pins s1 σ H1 _ I1 q1) fun iv s2 ⟨y,H2,I2,r2,q2⟩=> ?_));refine B6 (wpAny_standAt (B6 (Du (thn (hs pins s2 σ H2 x y v ov iv u _ I2 r1 r2 r q2) fun _ s3 ⟨H3,I3,q3⟩=> ?_))));exact wpAny_release ⟨σ,H3,I3,q3⟩
def tAsg(te:TE)(g:TG):TS:=fun D σ H=>te σ H fun x H1=>g x σ H1 D.nx
theorem ps_asg{tg e:Expr}{te:TE}{g:TG}(he:PE X e te)(hg:PG X tg g)(hs:swapsWithSole [tg] e pos.line X.env=pure false:=by rfl)(hw:swappedStores [tg] e X.env=pure none:=by rfl)
 (h1:(assignEach [tg] X.env).map (·.2)=[assign tg X.env]:=by rfl):PS X (.Assign [tg] e pos) (tAsg te g):=by
 intro pins s σ H D I h;refine wpAny_Assign_stores (thn (he pins s σ H _ I h) fun v s1 ⟨x,H1,I1,r1,q1⟩=> ?_) hs hw;rw [h1]
 exact thn (hg pins s1 σ H1 x v _ I1 r1 q1) fun _ s2 q=>q
theorem oU{i:Nat}{x:Str}{e:Expr}{te:TE}{pos':Pos}(hN:X.N.Nodup)(hi:X.N[i]?=some x)(hx:Loc X.env.scope x)(he:PE X e te)(hs:swapsWith e (some (.Name x pos')) pos.line X.env=pure false:=by rfl)(hf:X.fn x=true\/X.env.scope.names.lookup x=some .local:=by first | exact .inl rfl | exact .inr rfl | assumption) :
 PS X (.Assign [.Name x pos'] e pos) (tAsg te (uH i)):=by
 intro pins s σ H D I h;refine wpAny_Assign_Name (thn (he pins s σ H _ I h) fun v s1 ⟨y,H1,I1,r1,q1⟩=> ?_) hs;exact fU I1 hN hi hx r1 (fun s2 I2=>⟨_,H1,I2,q1⟩) hf
def tAug(i:Nat)(te:TE)(ti:TIp):TS:=fun D σ H=>∃ x,σ[i]?=some (some x)/\te σ H fun y H1=>ti x y H1 fun z H2=>D.nx (σ.set i (some z)) H2
theorem ps_aug{i:Nat}{x:Str}{e:Expr}{te:TE}{op:Operator}{ti:TIp}{pos':Pos}(hN:X.N.Nodup)(hi:X.N[i]?=some x)(hx:Loc X.env.scope x)(he:PE X e te)(ho:PIp X op ti)(hf:X.fn x=true\/X.env.scope.names.lookup x=some .local:=by first | exact .inl rfl | exact .inr rfl | assumption) :
 PS X (.AugAssign (.Name x pos') op e pos) (tAug i te ti):=by
 intro pins s σ H D I h;obtain ⟨v,e1,h⟩:=h;obtain ⟨m,hn,hl⟩:=I.loc
 have vis:Vis X.env.scope x:=by rcases hx with k | k;exact .inl k;exact .inr (.inl k)
 obtain ⟨u,r,l⟩:=hl i x v hi e1 vis;refine wpAny_AugAssign_Name ?_
 have go:wpAny (model X.prog X.w) X.A (eval e X.env) (fun w s₂=>wpAny (model X.prog X.w) X.A (inplaceOp op u w) (fun r s₃=>wpAny (model X.prog X.w) X.A (storeName X.env x r) (fun _=>SP X pins D .next) X.xe s₃) X.xe s₂) X.xe s:=by
  refine thn (he pins s σ H _ I h) fun w s1 ⟨y,H1,I1,r1,q1⟩=> ?_
  refine thn (ho pins s1 σ H1 v y u w _ I1 r r1 q1) fun z s2 ⟨zv,H2,I2,r2,q2⟩=> ?_
  exact fU I2 hN hi hx r2 (fun s3 I3=>⟨_,H2,I3,q2⟩) hf
 rcases l with ⟨hk,hm⟩ | ⟨hk,c,hc,hcell⟩
 ·exact wpAny_loadName_local I.ok.kind hk hn hm go
 ·rcases hk with hk | hk
  ·exact wpAny_loadName_cell I.ok.kind hk hc hcell go
  ·rcases hx with k | k
   ·have:X.env.scope.names.lookup x=some .free:=hk
    rw [k] at this;cases this
   ·have:X.env.scope.names.lookup x=some .free:=hk
    rw [k] at this;cases this
def ipI(f:Int->Int->Int):TIp:=fun x y H Q=>∃ i j,x = .int i/\y = .int j/\Q (.int (f i j)) H
theorem yi:PIp X .Add (ipI fun i j=>i+j):=by
 intro pins s σ H x y v u Q I r1 r2 h;obtain ⟨i,j,e1,e2,q⟩:=h;subst e1;subst e2;obtain ⟨t,rfl⟩:=r1;obtain ⟨t',rfl⟩:=r2;exact iadd_int ⟨.int _,H,I.tok _,⟨_,rfl⟩,q⟩
theorem ip_sub:PIp X .Sub (ipI fun i j=>i - j):=by
 intro pins s σ H x y v u Q I r1 r2 h;obtain ⟨i,j,e1,e2,q⟩:=h;subst e1;subst e2;obtain ⟨t,rfl⟩:=r1;obtain ⟨t',rfl⟩:=r2;exact isub_int ⟨.int _,H,I.tok _,⟨_,rfl⟩,q⟩
end
section
variable{X:Cx}{pos:Pos}
end
structure It where
 go:Nat->Hp->Prop
 yld:Nat->Hp->V->Hp->Prop
 stop:Nat->Hp->Prop
def rV(X:Cx)(pins:List (Addr×Obj))(H:Hp)(b:Addr):Prop :=
 H b=none/\b≠X.env.locals/\b∉X.fs/\(b∈X.ex\/X.s₀.heap.objs.size<=b)/\(∀ x c,X.env.cells.lookup x=some c->c≠b)/\∀ p∈X.pn++pins,p.1≠b
theorem Inv.fpOk{X:Cx}{pins:List (Addr×Obj)}{σ:St}{H H':Hp}{s:Shared}{b:Addr}(I:Inv X pins σ H s)(hb:s.heap.objs.size<=b)(hn:H' b=none):rV X pins H' b:=by
 refine ⟨hn,DJ (CD I.lt hb),I.nofs hb,.inr (Df I.sz hb),fun x c e z=> ?_,fun p hp z=> ?_⟩
 ·obtain ⟨v,q⟩:=I.cell x c e
  exact absurd (CD q.lt (by rw [z];exact hb)) (Eg _)
 ·exact absurd (CD (Cf (I.pin p hp).1) (by rw [z];exact hb)) (Eg _)
structure wq(P:Program)(w:World)(K:EG)(tg:Expr)(J:It)(fp:List Addr)(it:Addr)(tn:Nat->Heap->Prop):Prop where
 mem:it∈fp
 obj:∀ i h,tn i h->∀ b∈fp,∃ o,h.get? b=some o/\∀ v,o.data ≠ .cell v
 keep:∀ i h h',tn i h->(∀ b∈fp,∀ o,h.get? b=some o->h'.get? b=some o)->tn i h'
 item:∀ (X:Cx),X.prog=P->X.w=w->X.K=K->X.calm=true->∀ (i:Nat) (pins:List (Addr×Obj)) (s:Shared) (σ:St) (H:Hp) (E:Value->Shared->Prop),Inv X pins σ H s->(∀ b∈fp,rV X pins H b)->tn i s.heap->J.go i H ->
  wpAny (model P w) X.A (pyNext (.ref it)) (fun r s1=>∃ u,r=some u /\
   wpAny (model P w) X.A (letOwnedTupleGo tg (.ref it) u) (fun _ s2=>∃ x H',Inv X pins σ H' s2/\aD x u/\J.yld i H x H'/\tn (i+1) s2.heap/\∀ b∈fp,H' b=none) E s1) E s
 done:∀ (X:Cx),X.prog=P->X.w=w->X.K=K->X.calm=true->∀ (i:Nat) (pins:List (Addr×Obj)) (s:Shared) (σ:St) (H:Hp) (E:Value->Shared->Prop),Inv X pins σ H s->(∀ b∈fp,rV X pins H b)->tn i s.heap->J.stop i H ->
  wpAny (model P w) X.A (pyNext (.ref it)) (fun r s1=>r=none/\Inv X pins σ H s1) E s
 self:∀ (A:Around) (i:Nat) (s:Shared) (Q:Value->Shared->Prop) (E:Value->Shared->Prop),tn i s.heap->Q (.ref it) s->wpAny (model P w) A (pyIter (.ref it)) Q E s
abbrev TI:=St->Hp->(It->Hp->Prop)->Prop
def PIE(X:Cx)(pins:List (Addr×Obj))(σ:St)(tg:Expr)(R:It->Hp->Prop)(itv:Value)(s2:Shared):Prop :=
 ∃ (it:Addr) (fp:List Addr) (tn:Nat->Heap->Prop) (J:It) (H':Hp),itv = .ref it/\Inv X pins σ H' s2/\wq X.prog X.w X.K tg J fp it tn/\tn 0 s2.heap/\(∀ b∈fp,rV X pins H' b)/\R J H'
def PI(X:Cx)(tg iter:Expr)(wi:TI):Prop :=
 ∀ (pins:List (Addr×Obj)) (s:Shared) (σ:St) (H:Hp) (R:It->Hp->Prop),Inv X pins σ H s->wi σ H R ->
  wpAny (model X.prog X.w) X.A (eval iter X.env) (fun v s1=>wpAny (model X.prog X.w) X.A (pyIter v) (PIE X pins σ tg R) X.xe s1) X.xe s
theorem ym{M:Model}{A:Around}{E:Value->Shared->Prop}{s:Shared}{tg:Expr}{it:Addr}{u:Value}{o:Obj}{n:String}{vs:Array Value}{Q:Unit->Shared->Prop}(ho:s.heap.get? it=some o)(hc:o.cls = .type n)(hd:o.data = .fields vs)
 (hn:["enumerate", "zip", "dict_itemiterator", "dict_reverseitemiterator", "odict_iterator", "itertools.zip_longest", "itertools.pairwise"].contains n=false) (hQ:Q () s):wpAny M A (letOwnedTupleGo tg (.ref it) u) Q E s:=by
 unfold letOwnedTupleGo
 cases tg<;>first
  | exact Ca hQ
  | (cases u<;>first
      | exact Ca hQ
      | (refine B6 (wpAny_load ho ?_)
         rw [hc,hd]
         show wpAny M A (if (["enumerate", "zip", "dict_itemiterator", "dict_reverseitemiterator", "odict_iterator", "itertools.zip_longest", "itertools.pairwise"].contains n&&vs[0]? == some (rawInt _))=true then _ else _) Q E s
         rw [if_neg (by intro h;rw [hn,DY] at h;cases h)]
         exact Ca hQ))
def Itl(K:EG)(a:Addr):It :=
 ⟨fun i H=>∃ xs x,SqL K H a xs/\xs[i]?=some x,fun i H x H'=>H'=H/\∀ xs,SqL K H a xs->xs[i]?=some x,fun i H=>∃ xs,SqL K H a xs/\xs.length<=i⟩
def Itt(K:EG)(a:Addr):It :=
 ⟨fun i H=>∃ xs x,SqT K H a xs/\xs[i]?=some x,fun i H x H'=>H'=H/\∀ xs,SqT K H a xs->xs[i]?=some x,fun i H=>∃ xs,SqT K H a xs/\xs.length<=i⟩
def Itr(lo:Int)(n:Nat):It:=⟨fun i _=>i < n,fun i H x H'=>H'=H/\x = .int (lo+i),fun i _=>n<=i⟩
theorem uX{P:Program}{w:World}{K:EG}{tg:Expr}(a it:Addr):wq P w K tg (Itl K a) [it] it (fun i h=>h.IsListIter it a i) where
 mem:=by simp
 obj:=fun i h st b hb=>by
  have e:b=it:=by simpa using hb
  subst e;obtain ⟨o,e,c,d⟩:=st;exact ⟨o,e,fun v z=>by rw [d] at z;cases z⟩
 keep:=fun i h h' st k=>st.at fun o e=>k it (by simp) o e
 item:=by
  intro X hP hw hK hc i pins s σ H E I hf st hg;subst hP hw hK;obtain ⟨xs,x,hq,hx⟩:=hg;obtain ⟨its,rv,p,hz⟩:=I.list hq;obtain ⟨u,hu,ru⟩:=rv.get hx;obtain ⟨f0,f1,f2,f3,f4,f5⟩:=hf it (by simp)
  refine wpAny_pyNext_list_item st p.isList (x:=u) (by simpa using hu) fun h' st' sb=> ?_
  have I1:Inv X pins σ H { s with heap:=h' }:=I.turned (t':=s.toks) (fun b o hb e=>(sb.2 b hb).trans e) f0 f1 f3 f4 f5;obtain ⟨o,e,c,d⟩:=id st';exact ⟨u,rfl,ym (s:={ s with heap:=h' }) e c d (by decide) ⟨x,H,I1,ru,⟨rfl,fun ys hy=>by rw [I.list_inj hy hq];exact hx⟩,st',fun b hb=>(hf b hb).1⟩⟩
 done:=by
  intro X hP hw hK hc i pins s σ H E I hf st hg;subst hP hw hK;obtain ⟨xs,hq,hx⟩:=hg;obtain ⟨its,rv,p,hz⟩:=I.list hq;obtain ⟨f0,f1,f2,f3,f4,f5⟩:=hf it (by simp);have hl:=rv.length
  exact wpAny_pyNext_list_end (I.ok.hd hc) st p.isList (by simp;omega) fun h' eb=>⟨rfl,I.turned (t':=s.toks) (fun b o hb e=>eb b o hb e) f0 f1 f3 f4 f5⟩
 self:=fun _ _ _ _ _ st h=>wpAny_pyIter_listiter st h
theorem rX{P:Program}{w:World}{K:EG}{tg:Expr}(a it:Addr):wq P w K tg (Itt K a) [it] it (fun i h=>h.IsTupleIter it a i) where
 mem:=by simp
 obj:=fun i h st b hb=>by
  have e:b=it:=by simpa using hb
  subst e;obtain ⟨o,e,c,d⟩:=st;exact ⟨o,e,fun v z=>by rw [d] at z;cases z⟩
 keep:=fun i h h' st k=>st.at fun o e=>k it (by simp) o e
 item:=by
  intro X hP hw hK hc i pins s σ H E I hf st hg;subst hP hw hK;obtain ⟨xs,x,hq,hx⟩:=hg;obtain ⟨its,rv,p,hz⟩:=I.tuple hq;obtain ⟨u,hu,ru⟩:=rv.get hx;obtain ⟨f0,f1,f2,f3,f4,f5⟩:=hf it (by simp)
  refine wpAny_pyNext_tuple_item st (show s.heap.IsTuple a its.toArray from p) (x:=u) (by simpa using hu) fun h' st' sb=> ?_
  have I1:Inv X pins σ H { s with heap:=h' }:=I.turned (t':=s.toks) (fun b o hb e=>(sb.2 b hb).trans e) f0 f1 f3 f4 f5;obtain ⟨o,e,c,d⟩:=id st';exact ⟨u,rfl,ym (s:={ s with heap:=h' }) e c d (by decide) ⟨x,H,I1,ru,⟨rfl,fun ys hy=>by rw [I.tuple_inj hy hq];exact hx⟩,st',fun b hb=>(hf b hb).1⟩⟩
 done:=by
  intro X hP hw hK hc i pins s σ H E I hf st hg;subst hP hw hK;obtain ⟨xs,hq,hx⟩:=hg;obtain ⟨its,rv,p,hz⟩:=I.tuple hq;obtain ⟨f0,f1,f2,f3,f4,f5⟩:=hf it (by simp);have hl:=rv.length
  exact wpAny_pyNext_tuple_end (I.ok.hd hc) st (show s.heap.IsTuple a its.toArray from p) (by simp;omega) fun h' eb=>⟨rfl,I.turned (t':=s.toks) (fun b o hb e=>eb b o hb e) f0 f1 f3 f4 f5⟩
 self:=fun _ _ _ _ _ st h=>wpAny_pyIter_tupleiter st h
theorem rY{P:Program}{w:World}{K:EG}{tg:Expr}(it:Addr)(lo:Int)(n:Nat):wq P w K tg (Itr lo n) [it] it (fun i h=>IsRangeIter h it (lo+(i:Nat) * 1) ((n:Int) - (i:Nat)) 1) where
 mem:=by simp
 obj:=fun i h st b hb=>by
  have e:b=it:=by simpa using hb
  subst e
  exact ⟨_,st,fun v z=>by
   have z':Data.fields _=Data.cell v:=z
   cases z'⟩
 keep:=fun i h h' st k=>k it (by simp) _ st
 item:=by
  intro X hP hw hK hc i pins s σ H E I hf st hg;subst hP hw hK;obtain ⟨f0,f1,f2,f3,f4,f5⟩:=hf it (by simp);have W:=Walks.range (prog:=X.prog) (w:=X.w) (I.ok.hd hc) it lo 1 n
  refine W.item i s _ _ hg st fun v h' tk hv st' kk=> ?_
  obtain ⟨t,rfl⟩:=hv;have I1:Inv X pins σ H { s with heap:=h',toks:=tk }:=I.turned (fun b o hb e=>kk b o (by simpa using hb) e) f0 f1 f3 f4 f5;refine ⟨_,rfl,ym (s:={ s with heap:=h',toks:=tk }) (n := "range_iterator") st' rfl rfl (by decide) ⟨.int (lo+i),H,I1,⟨t,?_⟩,⟨rfl,rfl⟩,st',fun b hb=>(hf b hb).1⟩⟩;rw [Int.mul_one]
 done:=by
  intro X hP hw hK hc i pins s σ H E I hf st hg;subst hP hw hK;obtain ⟨f0,f1,f2,f3,f4,f5⟩:=hf it (by simp)
  exact wpAny_pyNext_range_end (I.ok.hd hc) st (by have:n<=i:=hg;omega) fun h' eb=>⟨rfl,I.turned (t':=s.toks) (fun b o hb e=>eb b o hb e) f0 f1 f3 f4 f5⟩
 self:=fun _ _ _ _ _ st h=>wpAny_pyIter_rangeiter st h
section
variable{X:Cx}{tg:Expr}
theorem qz{pins:List (Addr×Obj)}{σ:St}{H:Hp}{s:Shared}{R:It->Hp->Prop}{E:Value->Shared->Prop}{lo hi:Int}{t u v:Tok}{tk:Nat}(I:Inv X pins σ H s)(h1 : -(2 ^ 62)<=lo)(h2:lo < 2 ^ 62)(h3 : -(2 ^ 62)<=hi)(h4:hi < 2 ^ 62)
 (q:R (Itr lo (hi - lo).toNat) H):wpAny (model X.prog X.w) X.A (pyIter (.ref s.heap.objs.size)) (PIE X pins σ tg R) E { s with heap:=s.heap.push { cls:= .type "range",data:= .fields #[.int lo t,.int hi u,.int 1 v] },toks:=tk }:=by
 refine wpAny_pyIter_range (IsRange.new ..) (small_one h1 h2 h3 h4) ?_
 have I1:Inv X pins σ H { s with heap:=s.heap.push { cls:= .type "range",data:= .fields #[.int lo t,.int hi u,.int 1 v] },toks:=tk }:=I.kept fun b o e=>B7 _ e
 refine ⟨(s.heap.push { cls:= .type "range",data:= .fields #[.int lo t,.int hi u,.int 1 v] }).objs.size,[(s.heap.push { cls:= .type "range",data:= .fields #[.int lo t,.int hi u,.int 1 v] }).objs.size],_,_,H,rfl,
  I1.kept (t':=tk) fun b o e=>B7 _ e,rY _ lo (hi - lo).toNat,?_,fun b hb=> ?_,q⟩
 ·have e1:lo+((0:Nat):Int) * 1=lo:=by simp
  have e2:(((hi - lo).toNat:Nat):Int) - ((0:Nat):Int)=Builtin.Range.rangeSize lo hi 1:=by rw [rangeSize_one];split<;>omega
  show IsRangeIter _ _ (lo+((0:Nat):Int) * 1) ((((hi - lo).toNat:Nat):Int) - ((0:Nat):Int)) 1
  rw [e1,e2];exact Cd _ rfl
 ·have e:b=(s.heap.push { cls:= .type "range",data:= .fields #[.int lo t,.int hi u,.int 1 v] }).objs.size:=by simpa using hb
  subst e;exact I1.fpOk (Ci _) (I1.hok.fresh (Ci _))
def iRng1(ta:TA):TI:=fun σ H R=>ta σ H fun vs H1=>∃ j:Int,vs=[.int j] /\ -(2 ^ 62)<=j/\j < 2 ^ 62/\R (Itr 0 j.toNat) H1
def iRng2(ta:TA):TI:=fun σ H R=>ta σ H fun vs H1=>∃ i j:Int,vs=[.int i,.int j]/\(-(2 ^ 62)<=i/\i < 2 ^ 62 /\ -(2 ^ 62)<=j/\j < 2 ^ 62)/\R (Itr i (j - i).toNat) H1
theorem vo{a:Expr}{ta:TA}{p pos:Pos}(hg:Gl X "range")(hm:X.mg "range" = none)(ha:PA X [a] ta)(hs:starEach [a] X.env=[(false,eval a X.env)]:=by rfl):PI X tg (.Call (.Name "range" p) [a] [] pos) (iRng1 ta):=by
 intro pins s σ H R I h;refine Call_ (iM I hg hm boot_range (PyProof.Rows.callWith_type1 (thn (ha pos pins s σ H _ I h) fun us s1 ⟨vs,H1,I1,r1,q1⟩=> ?_) hs rfl));obtain ⟨j,e,q1,q2,q⟩:=q1;subst e
 cases r1 with
 | cons r rr =>
  cases rr;obtain ⟨t,rfl⟩:=r;exact call_range_1 (qz I1 (by omega) (by omega) q1 q2 (by simpa using q))
theorem vn{a b:Expr}{ta:TA}{p pos:Pos}(hg:Gl X "range")(hm:X.mg "range" = none)(ha:PA X [a,b] ta)(hs:starEach [a,b] X.env=[(false,eval a X.env),(false,eval b X.env)]:=by rfl)(hs2:starEach [b] X.env=[(false,eval b X.env)]:=by rfl) :
 PI X tg (.Call (.Name "range" p) [a,b] [] pos) (iRng2 ta):=by
 intro pins s σ H R I h;refine Call_ (iM I hg hm boot_range (PyProof.Rows.callWith_type1 (thn (ha pos pins s σ H _ I h) fun us s1 ⟨vs,H1,I1,r1,q1⟩=> ?_) (by rw [hs,hs2]) (by rw [hs2];rfl)));obtain ⟨i,j,e,⟨q1,q2,q3,q4⟩,q⟩:=q1;subst e
 cases r1 with
 | cons r rr =>
  cases rr with
  | cons r' rr =>
   cases rr;obtain ⟨t,rfl⟩:=r;obtain ⟨t',rfl⟩:=r';exact call_range_2 (qz I1 q1 q2 q3 q4 q)
def tFor(wi:TI)(g:TG)(tb:TS):TS:=fun D σ H=>wi σ H fun J H1=>∃ W:Nat->Nat->St->Hp->Prop,(∃ m,W 0 m σ H1)/\∀ i m σ H,W i m σ H ->
 (J.stop i H/\D.nx σ H)\/(J.go i H/\∃ N:St->Hp->Prop,(∀ σ' H',N σ' H'->∃ m',m' < m/\W (i+1) m' σ' H')/\∀ x H',J.yld i H x H'->g x σ H' fun σ2 H2=>tb { D with nx:=N,ct:=N,bk:=D.nx } σ2 H2)
def lS(fp:List Addr)(h:Heap):List (Addr×Obj):=fp.filterMap fun b=>(h.get? b).map fun o=>(b,o)
theorem fo{fp:List Addr}{h:Heap}{b:Addr}{o:Obj}(hb:b∈fp)(e:h.get? b=some o):(b,o)∈lS fp h:=ED.mpr ⟨b,hb,by rw [e];rfl⟩
theorem vy{fp:List Addr}{h:Heap}{p:Addr×Obj}(hp:p∈lS fp h):p.1∈fp/\h.get? p.1=some p.2:=by
 obtain ⟨b,hb,e⟩:=ED.mp hp
 cases q:h.get? b with
 | none=>rw [q] at e;cases e
 | some o =>
  rw [q] at e;have e':(b,o)=p:=Option.some.inj e;subst e';exact ⟨hb,q⟩
theorem Inv.pinned{pins:List (Addr×Obj)}{σ:St}{H:Hp}{s:Shared}{fp:List Addr}(I:Inv X pins σ H s)(hf:∀ b∈fp,rV X pins H b)(ho:∀ b∈fp,∃ o,s.heap.get? b=some o/\∀ v,o.data ≠ .cell v):Inv X (pins++lS fp s.heap) σ H s :=
 I.pins_of fun p hp=>(CI.mp hp).elim (fun z=>I.pin p (Ch _ z)) fun z=>by
  obtain ⟨hb,e⟩:=vy z;obtain ⟨f0,f1,f2,_⟩:=hf p.1 hb;obtain ⟨o,e',d⟩:=ho p.1 hb;rw [e] at e';cases e';exact ⟨e,f0,f1,f2,d⟩
theorem Inv.unpinned{pins pl:List (Addr×Obj)}{σ:St}{H:Hp}{s:Shared}(I:Inv X (pins++pl) σ H s):Inv X pins σ H s:=I.pins_of fun p hp=>I.pin p (Ch _ (Cg _ hp))
theorem ps_for{iter:Expr}{body:List Stmt}{wi:TI}{g:TG}{tb:TS}{pos:Pos}(hp:PassesOwn (model X.prog X.w) X.A X.env X.xe)(hc:X.calm=true)(hi:PI X tg iter wi)(hg:PG X tg g)(hb:PSs X body tb)
 (hs:∀ x,foldedSetIterable iter X.env x=pure x:=by intro _;rfl):PS X (.For tg iter body [] pos) (tFor wi g tb):=by
 intro pins s σ H D I h;refine wpAny_For (thn (hi pins s σ H _ I h) fun v s1 h1=>thn h1 fun itv s2 h2=> ?_) hs;obtain ⟨it,fp,tn,J,H2,e,I2,T,st2,f2,W,⟨m0,w0⟩,turn⟩:=h2;subst e
 have stat:∀ {H':Hp},(∀ b∈fp,H' b=none)->∀ b∈fp,rV X pins H' b:=fun hn b hb=>⟨hn b hb,(f2 b hb).2⟩
 refine codeAny_forLoop_any (fun n s'=>∃ i σ' H',Inv X pins σ' H' s'/\tn i s'.heap/\(∀ b∈fp,H' b=none)/\W i n σ' H') ?_ m0 ⟨0,σ,H2,I2,st2,fun b hb=>(f2 b hb).1,w0⟩;rintro n s3 ⟨i,σ3,H3,I3,st3,fr3,w3⟩
 rcases turn i n σ3 H3 w3 with ⟨stop,qn⟩ | ⟨go,N,hN,step⟩
 ·refine Ew hp (thn (T.done X rfl rfl rfl hc i pins s3 σ3 H3 X.xe I3 (stat fr3) st3 stop) fun r s4 ⟨hr,I4⟩=> ?_)
  subst hr;exact wpAny_execs_nil ⟨σ3,H3,I4,qn⟩
 ·refine Ew hp (thn (T.item X rfl rfl rfl hc i pins s3 σ3 H3 X.xe I3 (stat fr3) st3 go) fun r s4 ⟨u,hr,h4⟩=> ?_)
  subst hr;refine Ew hp (thn h4 fun _ s5 ⟨x,H5,I5,r5,y5,st5,fr5⟩=> ?_);have I5':=I5.pinned (stat fr5) (T.obj _ _ st5);refine Ew hp (thn (hg _ s5 σ3 H5 x u _ I5' r5 (step x H5 y5)) fun _ s6 ⟨σ6,H6,I6,q6⟩=> ?_);refine Ew hp (thn (hb _ s6 σ6 H6 _ I6 q6) fun f s7 q7=> ?_)
  have again:∀ {σ7:St} {H7:Hp},Inv X (pins++lS fp s5.heap) σ7 H7 s7->N σ7 H7->∃ m,m < n/\∃ i σ' H',Inv X pins σ' H' s7/\tn i s7.heap/\(∀ b∈fp,H' b=none)/\W i m σ' H':=fun {σ7 H7} I7 n7=>by
   obtain ⟨m',hm,w7⟩:=hN σ7 H7 n7;refine ⟨m',hm,i+1,σ7,H7,I7.unpinned,T.keep _ _ _ st5 fun b hb o e=>(I7.pin (b,o) (Ch _ (Ch _ (fo hb e)))).1,fun b hb=> ?_,w7⟩;obtain ⟨o,e,d⟩:=T.obj _ _ st5 b hb;exact (I7.pin (b,o) (Ch _ (Ch _ (fo hb e)))).2.1
  cases f with
  | next=>obtain ⟨σ7,H7,I7,n7⟩:=q7;exact again I7 n7
  | cont=>obtain ⟨σ7,H7,I7,n7⟩:=q7;exact again I7 n7
  | brk=>obtain ⟨σ7,H7,I7,q7⟩:=q7;exact ⟨σ7,H7,I7.unpinned,q7⟩
  | ret v=>obtain ⟨x7,σ7,H7,I7,r7,q7⟩:=q7;exact ⟨x7,σ7,H7,I7.unpinned,r7,q7⟩
end
abbrev R2:=V->V->Hp->VK->Prop
def OpR(X:Cx)(f:Value->Value->Sem Value)(r:R2):Prop :=
 ∀ (pins:List (Addr×Obj)) (s:Shared) (σ:St) (H:Hp) (x y:V) (v u:Value) (Q:VK),Inv X pins σ H s->aD x v->aD y u->r x y H Q ->
  wpAny (model X.prog X.w) X.A (f v u) (EP X pins σ Q) X.xe s
def ax(X:Cx)(f:Value)(r:List V->Hp->VK->Prop):Prop :=
 ∀ (pins:List (Addr×Obj)) (s:Shared) (σ:St) (H:Hp) (xs:List V) (us:List Value) (Q:VK),Inv X pins σ H s->aw xs us->r xs H Q ->
  wpAny (model X.prog X.w) X.A (call f us) (EP X pins σ Q) X.xe s
def TruR(X:Cx)(r:V->Hp->(Bool->Hp->Prop)->Prop):Prop :=
 ∀ (pins:List (Addr×Obj)) (s:Shared) (σ:St) (H:Hp) (x:V) (v:Value) (Q:Bool->Hp->Prop),Inv X pins σ H s->aD x v->r x H Q ->
  wpAny (model X.prog X.w) X.A (truthy v) (TP X pins σ Q) X.xe s
def tOp(r:R2)(ta tb:TE):TE:=fun σ H Q=>ta σ H fun x H1=>tb σ H1 fun y H2=>r x y H2 Q
def rI(C:Int->Int->Prop)(g:Int->Int->V):R2:=fun x y H Q=>∃ i j,x = .int i/\y = .int j/\C i j/\Q (g i j) H
def rI0(g:Int->Int->V):R2:=fun x y H Q=>∃ i j,x = .int i/\y = .int j/\Q (g i j) H
section
variable{X:Cx}{a b c:Expr}{ta tb tc:TE}{pos:Pos}
theorem binT(ha:PE X a ta)(hb:PE X b tb){pins:List (Addr×Obj)}{s:Shared}{σ:St}{H:Hp}{R:V->V->Hp->Prop}(I:Inv X pins σ H s)
 (h:ta σ H fun x H1=>tb σ H1 fun y H2=>R x y H2) {Q:Value->Shared->Prop} {f:Value->Value->Sem Value}
 (hf:∀ v u s2 x y H2,Inv X pins σ H2 s2->aD x v->aD y u->R x y H2->wpAny (model X.prog X.w) X.A (f v u) Q X.xe s2) :
 wpAny (model X.prog X.w) X.A (eval a X.env) (fun v s₁=>wpAny (model X.prog X.w) X.A (eval b X.env) (fun u s₂=>wpAny (model X.prog X.w) X.A (f v u) Q X.xe s₂) X.xe s₁) X.xe s:=by
 refine thn (ha pins s σ H _ I h) fun v s1 ⟨x,H1,I1,r1,q1⟩=> ?_
 refine thn (hb pins s1 σ H1 _ I1 q1) fun u s2 ⟨y,H2,I2,r2,q2⟩=> ?_
 exact hf v u s2 x y H2 I2 r1 r2 q2
theorem BP{op:Operator}{r:R2}(ho:OpR X (binaryOp op) r)(ha:PE X a ta)(hb:PE X b tb):PE X (.BinOp a op b pos) (tOp r ta tb):=by
 intro pins s σ H Q I h;exact wpAny_BinOp (binT ha hb I h fun v u s2 x y H2 I2 rx ry q=>ho pins s2 σ H2 x y v u Q I2 rx ry q)
theorem opI{f:Value->Value->Sem Value}{C:Int->Int->Prop}{g:Int->Int->Int}
 (rule:∀ (i j:Int) (t u:Tok) (s:Shared) (Q:Value->Shared->Prop) (E:Value->Shared->Prop),C i j->Q (.int (g i j) s.toks) { s with toks:=s.toks+1 }->wpAny (model X.prog X.w) X.A (f (.int i t) (.int j u)) Q E s) :
 OpR X f (rI C fun i j=> .int (g i j)):=by
 intro pins s σ H x y v u Q I rx ry h;obtain ⟨i,j,rfl,rfl,hc,q⟩:=h;obtain ⟨t,rfl⟩:=rx;obtain ⟨t',rfl⟩:=ry;exact rule i j t t' s _ _ hc ⟨.int (g i j),H,I.tok _,⟨_,rfl⟩,q⟩
theorem opI0{f:Value->Value->Sem Value}{g:Int->Int->Int}
 (rule:∀ (i j:Int) (t u:Tok) (s:Shared) (Q:Value->Shared->Prop) (E:Value->Shared->Prop),Q (.int (g i j) s.toks) { s with toks:=s.toks+1 }->wpAny (model X.prog X.w) X.A (f (.int i t) (.int j u)) Q E s) :
 OpR X f (rI0 fun i j=> .int (g i j)):=by
 intro pins s σ H x y v u Q I rx ry h;obtain ⟨i,j,rfl,rfl,q⟩:=h;obtain ⟨t,rfl⟩:=rx;obtain ⟨t',rfl⟩:=ry;exact rule i j t t' s _ _ ⟨.int (g i j),H,I.tok _,⟨_,rfl⟩,q⟩
theorem AL{f:Value->Value->Sem Value}{g:Int->Int->Bool}
 (rule:∀ (i j:Int) (t u:Tok) (s:Shared) (Q:Value->Shared->Prop) (E:Value->Shared->Prop),Q (.bool (g i j)) s->wpAny (model X.prog X.w) X.A (f (.int i t) (.int j u)) Q E s) :
 OpR X f (rI0 fun i j=> .bl (g i j)):=by
 intro pins s σ H x y v u Q I rx ry h;obtain ⟨i,j,rfl,rfl,q⟩:=h;obtain ⟨t,rfl⟩:=rx;obtain ⟨t',rfl⟩:=ry;exact rule i j t t' s _ _ ⟨.bl (g i j),H,I,rfl,q⟩
def CDiv(i j:Int):Prop:=0 < j/\j < 1073741824
def CPow(i j:Int):Prop:=0<=j/\j<=1000000/\i.natAbs < 2 ^ 64
def wv(i j:Int):Prop:=(-(2 ^ 64) < i/\i < 2 ^ 64)\/(-(2 ^ 64) < j/\j < 2 ^ 64)
theorem wv.ok{i j:Int}(h:wv i j):IntMulOk i j:=by
 rcases h with ⟨h1,h2⟩ | ⟨h1,h2⟩
 ·exact .of_left (intBits_le_64 h1 h2)
 ·exact .of_right (intBits_le_64 h1 h2)
theorem op_add:OpR X (binaryOp .Add) (rI0 fun i j=> .int (i+j)):=opI0 fun _ _ _ _ _ _ _ q=>add_int q
theorem op_sub:OpR X (binaryOp .Sub) (rI0 fun i j=> .int (i - j)):=opI0 fun _ _ _ _ _ _ _ q=>sub_int q
theorem op_mul:OpR X (binaryOp .Mult) (rI wv fun i j=> .int (i * j)):=opI fun _ _ _ _ _ _ _ hc q=>mul_int q hc.ok
theorem AH:OpR X (binaryOp .FloorDiv) (rI CDiv fun i j=> .int (i / j)):=opI fun i j _ _ _ _ _ hc q=>by
 have h1:(0:Int) < j:=hc.1;have h2:j < 1073741824:=hc.2;exact floordiv_int (by omega) (by rw [Int.fdiv_eq_ediv_of_nonneg i (by omega)];exact q) (.inl (PyProof.noPylong_small (by omega)))
theorem op_mod:OpR X (binaryOp .Mod) (rI (fun _ j=>0 < j) fun i j=> .int (i % j)):=opI fun i j _ _ _ _ _ hc q=>by
 have h1:(0:Int) < j:=hc;exact mod_int' (by omega) (by rw [Int.fmod_eq_emod_of_nonneg i (by omega)];exact q)
theorem op_pow:OpR X (binaryOp .Pow) (rI CPow fun i j=> .int (i ^ j.toNat)):=opI fun _ _ _ _ _ _ _ hc q=>pow_int_small hc.1 hc.2.1 hc.2.2 q
end
def scal:V->V->Bool
 | .non,.non=>true | .non,.int _=>true | .int _,.non=>true | .non,.bl _=>true | .bl _,.non=>true | .non,.str _=>true | .str _,.non=>true
 | .int _,.int _=>true | .bl _,.bl _=>true | .str _,.str _=>true | .byt _,.byt _=>true
 | .int _,.str _=>true | .str _,.int _=>true | .bl _,.str _=>true | .str _,.bl _=>true
 | _,_=>false
def rNe:R2:=fun x y H Q=>scal x y=true/\Q (.bl (!decide (x=y))) H
theorem Bc{i j:Int}:decide (V.int i=V.int j)=(i == j):=by
 rw [DI];simp
theorem dec_bl{i j:Bool}:decide (V.bl i=V.bl j)=(i == j):=by
 rw [DI];simp
theorem Bb{i j:Str}:decide (V.str i=V.str j)=(i == j):=by
 rw [DI];simp
theorem Bd{i j:Array UInt8}:decide (V.byt i=V.byt j)=(i.toList == j.toList):=by
 rw [DI];cases i;cases j;simp
section
variable{X:Cx}{a b c:Expr}{ta tb tc:TE}{pos:Pos}
theorem bY{pins:List (Addr×Obj)}{σ:St}{H:Hp}{s:Shared}{Q:VK}{k k':Bool}(I:Inv X pins σ H s)(q:Q (.bl k) H)(e:k=k'):EP X pins σ Q (.bool k') s:=by
 subst e;exact ⟨.bl k,H,I,rfl,q⟩
theorem op_ne:OpR X (compareOp .NotEq) rNe:=by
 intro pins s σ H x y v u Q I rx ry h;obtain ⟨hs,q⟩:=h
 cases x with
 | non =>
  cases rx
  cases y with
  | non=>cases ry;exact PySem.EqNone.ne_none_none (bY I q (by simp))
  | bl j=>cases ry;exact PySem.EqNone.ne_none_bool (bY I q (by simp))
  | int j=>obtain ⟨t',rfl⟩:=ry;exact PySem.EqNone.ne_none_int (bY I q (by simp))
  | str j=>obtain ⟨t',rfl⟩:=ry;exact PySem.EqNone.ne_none_str (bY I q (by simp))
  | _=>exact absurd (show false=true from hs) Cj
 | bl i =>
  cases rx
  cases y with
  | non=>cases ry;exact PySem.EqNone.ne_bool_none (bY I q (by simp))
  | bl j=>cases ry;exact ne_bool (bY I q (congrArg not dec_bl))
  | str j=>obtain ⟨t',rfl⟩:=ry;exact PySem.EqMixed.ne_bool_str (bY I q (by simp))
  | _=>exact absurd (show false=true from hs) Cj
 | int i =>
  obtain ⟨t,rfl⟩:=rx
  cases y with
  | non=>cases ry;exact PySem.EqNone.ne_int_none (bY I q (by simp))
  | int j=>obtain ⟨t',rfl⟩:=ry;exact ne_int (bY I q (congrArg not Bc))
  | str j=>obtain ⟨t',rfl⟩:=ry;exact PySem.EqMixed.ne_int_str (bY I q (by simp))
  | _=>exact absurd (show false=true from hs) Cj
 | str i =>
  obtain ⟨t,rfl⟩:=rx
  cases y with
  | non=>cases ry;exact PySem.EqNone.ne_str_none (bY I q (by simp))
  | bl j=>cases ry;exact PySem.EqMixed.ne_str_bool (bY I q (by simp))
  | int j=>obtain ⟨t',rfl⟩:=ry;exact PySem.EqMixed.ne_str_int (bY I q (by simp))
  | str j=>obtain ⟨t',rfl⟩:=ry;exact ne_str (bY I q (congrArg not Bb))
  | _=>exact absurd (show false=true from hs) Cj
 | byt i =>
  obtain ⟨t,rfl⟩:=rx
  cases y with
  | byt j=>obtain ⟨t',rfl⟩:=ry;exact PySem.W.ne_bytes (bY I q (congrArg not Bd))
  | _=>exact absurd (show false=true from hs) Cj
 | _=>cases y<;>exact absurd (show false=true from hs) Cj
theorem op_lt:OpR X (compareOp .Lt) (rI0 fun i j=> .bl (decide (i < j))):=AL fun _ _ _ _ _ _ _ q=>lt_int q
theorem uw:OpR X (compareOp .LtE) (rI0 fun i j=> .bl (decide (i<=j))):=AL fun _ _ _ _ _ _ _ q=>le_int q
theorem op_gt:OpR X (compareOp .Gt) (rI0 fun i j=> .bl (decide (j < i))):=AL fun _ _ _ _ _ _ _ q=>gt_int q
theorem BT:OpR X (compareOp .GtE) (rI0 fun i j=> .bl (decide (j<=i))):=AL fun _ _ _ _ _ _ _ q=>ge_int q
theorem op_isN:OpR X (compareOp .Is) (fun x y H Q=>y = .non/\Q (.bl (decide (x = .non))) H):=by
 intro pins s σ H x y v u Q I rx ry h;obtain ⟨rfl,q⟩:=h;cases ry;refine is_none_gen (bY I q ?_)
 cases x<;>first
  | (cases rx;rfl)
  | (obtain ⟨t,rfl⟩:=rx;rfl)
theorem OpR.or{f:Value->Value->Sem Value}{r r':R2}(h:OpR X f r)(h':OpR X f r'):OpR X f (fun x y H Q=>r x y H Q\/r' x y H Q):=by
 intro pins s σ H x y v u Q I rx ry q
 rcases q with q | q
 ·exact h pins s σ H x y v u Q I rx ry q
 ·exact h' pins s σ H x y v u Q I rx ry q
theorem dQ(b:Expr){op:CmpOp}(h:op ≠ .In:=by decide)(h2:op ≠ .NotIn:=by decide):behindInMarks op b=false:=by
 have e1:(op == CmpOp.In)=false:=by cases op<;>first | rfl | exact absurd rfl h
 have e2:(op == CmpOp.NotIn)=false:=by cases op<;>first | rfl | exact absurd rfl h2
 cases b<;>simp [behindInMarks,e1,e2]
theorem Az{op:CmpOp}{r:R2}(ho:OpR X (compareOp op) r)(ha:PE X a ta)(hb:PE X b tb)(hm:behindInMarks op b=false):PE X (.Compare a [op] [b] pos) (tOp r ta tb):=by
 intro pins s σ H Q I h;exact wpAny_Compare1 (binT ha hb I h fun v u s2 x y H2 I2 rx ry q=>ho pins s2 σ H2 x y v u Q I2 rx ry q) hm
def tTest(t:TE):TT:=fun σ H Q=>t σ H fun x H'=>∃ k,x = .bl k/\Q k H'
theorem uk{op:CmpOp}{r:R2}(ho:OpR X (compareOp op) r)(ha:PE X a ta)(hb:PE X b tb)(hm:behindInMarks op b=false):PT X (.Compare a [op] [b] pos) (tTest (tOp r ta tb)):=by
 intro pins s σ H Q I h
 refine wpAny_isTrue_Compare1 (thn (ha pins s σ H _ I h) fun v s1 ⟨x,H1,I1,r1,q1⟩=>thn (hb pins s1 σ H1 _ I1 q1) fun u s2 ⟨y,H2,I2,r2,q2⟩ =>
  thn (ho pins s2 σ H2 x y v u _ I2 r1 r2 q2) fun c s3 ⟨z,H3,I3,r3,k,e,q3⟩=> ?_) hm
 subst e;cases r3;exact Dw ⟨H3,I3,q3⟩
def wK(r r':R2)(ta tb tc:TE):TE:=fun σ H Q=>ta σ H fun x H1=>tb σ H1 fun y H2=>r x y H2 fun z H3=>∃ k,z = .bl k /\
 (if k=true then tc σ H3 fun w' H4=>r' y w' H4 Q else Q (.bl false) H3)
theorem xA{op op':CmpOp}{r r':R2}(ho:OpR X (compareOp op) r)(ho':OpR X (compareOp op') r')(ha:PE X a ta)(hb:PE X b tb)(hc:PE X c tc)
 (hm:lastMarks [op,op'] [b,c]=false:=by with_unfolding_all rfl):PE X (.Compare a [op,op'] [b,c] pos) (wK r r' ta tb tc):=by
 intro pins s σ H Q I h
 refine Compare_chain (thn (ha pins s σ H _ I h) fun v s1 ⟨x,H1,I1,r1,q1⟩=>chain_link (thn (hb pins s1 σ H1 _ I1 q1) fun u s2 ⟨y,H2,I2,r2,q2⟩ =>
  thn (ho pins s2 σ H2 x y v u _ I2 r1 r2 q2) fun d s3 ⟨z,H3,I3,r3,k,e,q3⟩=> ?_)) hm
 subst e;cases r3;refine Dw ?_
 cases k with
 | false=>exact ite_ff ⟨.bl false,H3,I3,rfl,q3⟩
 | true=>exact ite_tt (chain_last (thn (hc pins s3 σ H3 _ I3 q3) fun w' s4 ⟨z',H4,I4,r4,q4⟩=>ho' pins s4 σ H4 y z' u w' Q I4 r2 r4 q4))
def Br(K:EG)(x:V)(H:Hp)(k:Bool):Prop :=
 match x with
 | .non=>k=false
 | .bl b=>k=b
 | .int i=>k=(i != 0)
 | .str y=>y.length<=sizeLine/\k=((y.length:Int) != 0)
 | .byt y=>y.size<=sizeLine/\k=((y.size:Int) != 0)
 | .ref p=>(∃ xs,SqL K H p xs/\k = !xs.isEmpty)\/(∃ xs,SqT K H p xs/\k = !xs.isEmpty)\/∃ kvs,H p=some (.dK kvs)/\k = !kvs.isEmpty
 | _=>False
theorem sZ{κ:Type}{kvs:List (κ×V)}{vs:List (κ×Value)}(r:KV kvs vs):(!vs.isEmpty) = !kvs.isEmpty:=by
 cases r<;>rfl
theorem mh{xs:List V}{its:List Value}(r:aw xs its):(!its.toArray.isEmpty) = !xs.isEmpty:=by
 cases r<;>simp
theorem jM:(sizeLine:Nat) < 2 ^ 63:=by rw [sizeLine_eq];decide
theorem tru_ok:TruR X (fun x H Q=>∃ k,Br X.K x H k/\Q k H):=by
 intro pins s σ H x v Q I rx h;obtain ⟨k,e,q⟩:=h;have hl:=jM;have hs:sizeLine=16777216:=sizeLine_eq
 cases x with
 | non =>
  cases rx;have e':k=false:=e;subst e';exact truthy_none ⟨H,I,q⟩
 | bl b =>
  cases rx;have e':k=b:=e;subst e';exact Dw ⟨H,I,q⟩
 | int i =>
  obtain ⟨t,rfl⟩:=rx;have e':k=(i != 0):=e;subst e';exact PySem.P.truthy_int ⟨H,I,q⟩
 | str y =>
  obtain ⟨t,rfl⟩:=rx;obtain ⟨hy,e'⟩:y.length<=sizeLine/\k=((y.length:Int) != 0):=e;subst e';exact PySem.P.truthy_str (by omega) ⟨H,I.tok _,q⟩
 | byt y =>
  obtain ⟨t,rfl⟩:=rx;obtain ⟨hy,e'⟩:y.size<=sizeLine/\k=((y.size:Int) != 0):=e;subst e';exact PySem.W.truthy_bytes (by omega) ⟨H,I.tok _,q⟩
 | ref p =>
  cases rx;have e':(∃ xs,SqL X.K H p xs/\k = !xs.isEmpty)\/(∃ xs,SqT X.K H p xs/\k = !xs.isEmpty)\/∃ kvs,H p=some (.dK kvs)/\k = !kvs.isEmpty:=e
  rcases e' with ⟨xs,hx,e'⟩ | ⟨xs,hx,e'⟩ | ⟨kvs,hx,e'⟩
  ·subst e'
   obtain ⟨its,r,pl,hz⟩:=I.list hx;have hlen:=r.length;exact wpAny_truthy_list pl.isList (by simp only [Cb];omega) ⟨H,I.tok _,by rw [mh r];exact q⟩
  ·subst e'
   obtain ⟨its,r,pl,hz⟩:=I.tuple hx;have hlen:=r.length;exact truthy_tuple pl (by simp only [Cb];omega) ⟨H,I.tok _,by rw [mh r];exact q⟩
  ·subst e'
   obtain ⟨hz,hS,vs,r,m⟩:kvs.length<=sizeLine/\(p == sysModules)=false/\∃ vs,KV kvs vs/\s.heap.DictOf (aX X.prog X.w) p vs:=I.hok p _ hx;have hlen:kvs.length=vs.length:=Paired.length r;exact wpAny_truthy_dict hS m (by omega) ⟨H,I.tok _,by rw [sZ r];exact q⟩
 | _=>exact (show False from e).elim
theorem xm(ha:PE X a ta)(he:∀ whole,isTrue a X.env whole=(do let v <- whole;standAt a.pos;holding [v] (truthy v))) :
 PT X a (fun σ H Q=>ta σ H fun x H'=>∃ k,Br X.K x H' k/\Q k H'):=by
 intro pins s σ H Q I h;exact isTrue_plain (thn (ha pins s σ H _ I h) fun v s1 ⟨x,H1,I1,r1,q1⟩=>tru_ok pins s1 σ H1 x v Q I1 r1 q1) (he _)
theorem bx{x:V}{us:List Value}(r:aw [x] us):∃ u,us=[u]/\aD x u:=by
 cases r with
 | cons r1 r2=>cases r2;exact ⟨_,rfl,r1⟩
theorem nG{x y:V}{us:List Value}(r:aw [x,y] us):∃ u w',us=[u,w']/\aD x u/\aD y w':=by
 cases r with
 | cons r1 r2 =>
  cases r2 with
  | cons r3 r4=>cases r4;exact ⟨_,_,rfl,r1,r3⟩
theorem yY:ax X (.builtin "abs") (fun xs H Q=>∃ i,xs=[.int i]/\Q (.int (if i < 0 then -i else i)) H):=by
 intro pins s σ H xs us Q I r h;obtain ⟨i,rfl,q⟩:=h;obtain ⟨u,rfl,t,rfl⟩:=bx r
 exact call_abs_int fun u tk=>⟨.int (if i < 0 then -i else i),H,I.tok _,⟨_,rfl⟩,q⟩
theorem wa(hc:X.calm=true):ax X (.builtin "max") (fun xs H Q=>∃ i j,xs=[.int i,.int j]/\Q (.int (if j > i then j else i)) H):=by
 intro pins s σ H xs us Q I r h;obtain ⟨i,j,rfl,q⟩:=h;obtain ⟨u,w',rfl,⟨t,rfl⟩,⟨t',rfl⟩⟩:=nG r
 refine max_two_ints (I.ok.hd hc) fun h' tk k=>⟨_,H,I.kept k,?_,q⟩
 by_cases hj:j > i
 ·rw [if_pos hj,if_pos hj];exact ⟨_,rfl⟩
 ·rw [if_neg hj,if_neg hj];exact ⟨_,rfl⟩
theorem v5(hc:X.calm=true):ax X (.builtin "min") (fun xs H Q=>∃ i j,xs=[.int i,.int j]/\Q (.int (if j < i then j else i)) H):=by
 intro pins s σ H xs us Q I r h;obtain ⟨i,j,rfl,q⟩:=h;obtain ⟨u,w',rfl,⟨t,rfl⟩,⟨t',rfl⟩⟩:=nG r
 refine min_two_ints (I.ok.hd hc) fun h' tk k=>⟨_,H,I.kept k,?_,q⟩
 by_cases hj:j < i
 ·rw [if_pos hj,if_pos hj];exact ⟨_,rfl⟩
 ·rw [if_neg hj,if_neg hj];exact ⟨_,rfl⟩
theorem wf:ax X (.type "int") (fun xs H Q=>(∃ i,xs=[.int i]/\Q (.int i) H)\/∃ k,xs=[.bl k]/\Q (.int (if k then 1 else 0)) H):=by
 intro pins s σ H xs us Q I r h
 rcases h with ⟨i,rfl,q⟩ | ⟨k,rfl,q⟩
 ·obtain ⟨u,rfl,t,rfl⟩:=bx r
  exact call_int_int ⟨.int i,H,I,⟨_,rfl⟩,q⟩
 ·obtain ⟨u,rfl,r1⟩:=bx r
  cases r1;exact call_int_bool ⟨.int (if k then 1 else 0),H,I.tok _,⟨_,rfl⟩,q⟩
end
section
variable{prog:Program}{w:World}{A:Around}{E:Value->Shared->Prop}{s:Shared}{K:EG}{x dx C f:Addr}{mA:Str->Option Value}{name:Str}{v:Value}
end
theorem pV.some_of{v:V}{o:Option Value}(r:pV (some v) o):∃ u,o=some u/\aD v u:=by
 cases o with
 | none=>exact (show False from r).elim
 | some u=>exact ⟨u,rfl,r⟩
section
variable{P:Program}{w:World}{H H':Hp}{h h':Heap}{a C dx:Addr}{fs fs':List (Str×V)}
end
structure Cls(K:EG)(C:Addr):Prop where
 pg:PySem.W.plainGet K C Str.empty=true
 hd:PySem.W.hasDictIn K C=true
 po:PySem.W.plainOver K C=true
 sa:PySem.W.findIn K (.ref C) "__setattr__" = some (some (.builtin "object.__setattr__"))
section
variable{X:Cx}{pins:List (Addr×Obj)}{σ:St}{H:Hp}{s:Shared}{a C dx:Addr}{fs:List (Str×V)}{f:Str}{v:V}{A:Around}{E:Value->Shared->Prop}
end
section
variable{X:Cx}{o e value:Expr}{f:Str}{pos pos' tpos:Pos}{ta tv:TE}
end
section
variable{X:Cx}{pins:List (Addr×Obj)}{σ:St}{H:Hp}{s:Shared}{A:Around}{E:Value->Shared->Prop}{Q:Value->Shared->Prop}{c:Value}{b:Bool}
inductive mP(K:EG)(H:Hp):V->Value->Prop where
 | non:mP K H .non (.type "NoneType")
 | bl (x:Bool):mP K H (.bl x) (.type "bool")
 | int (i:Int):mP K H (.int i) (.type "int")
 | str (x:Str):mP K H (.str x) (.type "str")
 | flt (x:UInt64):mP K H (.flt x) (.type "float")
 | lst {a:Addr} {xs:List V} (e:H a=some (.lst xs)):mP K H (.ref a) (.type "list")
 | frz {a:Addr} {o:Obj} {xs:List V} (e:H a=some (.frz o (.lst xs))):mP K H (.ref a) (.type "list")
 | tup {a:Addr} {xs:List V} (e:H a=some (.tup xs)):mP K H (.ref a) (.type "tuple")
 | dK {a:Addr} {kvs:List (Key×V)} (e:H a=some (.dK kvs)):mP K H (.ref a) (.type "dict")
 | dT {a:Addr} {kvs:List (List Key×V)} (e:H a=some (.dT kvs)):mP K H (.ref a) (.type "dict")
 | ins {a C dx:Addr} {fs:List (Str×V)} (e:H a=some (.ins C dx fs)) (cl:Cls K C) (ha:PySem.W.findIn K (.ref C) "__class__" = some (some (.builtin "object.__class__")))
  (hn:PySem.W.specialIn K (.builtin "object.__class__") "__get__" = some (some (.builtin "getset_descriptor.__get__"))) (htk:PySem.W.takesIn K (.builtin "object.__class__")=some true)
  (hm:PySem.W.mroIn K C (.type "object")=some true):mP K H (.ref a) (.ref C)
end
structure cf(k:Nat)(A:Around):Prop where
 hd:A.handled=none
 dp:A.depth+3 * k+5 < recursionLimit
 un:A.units+16 * k+200 < cLine
 gd:A.guards=some []:=by rfl
theorem cf.mono{j k:Nat}{A:Around}(r:cf k A)(h:j<=k):cf j A:=⟨r.hd,by have:=r.dp;omega,by have:=r.un;omega,r.gd⟩
theorem cf.deeper{k:Nat}{A:Around}(r:cf (k+1) A)(env:Env):cf k (A.deeper env) :=
 ⟨r.hd,by have:=r.dp;show A.depth+1+3 * k+5 < _;omega,by have:=r.un;show A.units+3+16 * k+200 < _;omega,r.gd⟩
theorem cf.depth{k:Nat}{A:Around}(r:cf k A):A.depth < recursionLimit:=by have:=r.dp;omega
theorem cf.units{k:Nat}{A:Around}(r:cf k A):A.units+64 < cLine:=by have:=r.un;omega
def zE:TA:=fun _ H Q=>Q [] H
def nJ(ta:TE)(tr:TA):TA:=fun σ H Q=>ta σ H fun x H1=>tr σ H1 fun xs H2=>Q (x::xs) H2
section
variable{X:Cx}{e:Expr}{es:List Expr}{te:TE}{t:TA}{pos:Pos}
theorem cD:PA X [] zE:=fun _ _ _ _ H Q I h=>Calls.spliced_nil ⟨[],H,I,.nil,h⟩
theorem aB(ha:PE X e te)(hr:PA X es t)(hs:starEach (e::es) X.env=(false,eval e X.env)::starEach es X.env:=by rfl):PA X (e::es) (nJ te t):=by
 intro pos pins s σ H Q I h;rw [hs]
 show wpAny _ _ (spliced ((false,eval e X.env)::backTo pos (starEach es X.env))) _ _ s
 refine Calls.spliced_cons (thn (ha pins s σ H _ I h) fun u s1 ⟨x,H1,I1,r1,q1⟩=> ?_)
 exact thn (hr pos pins s1 σ H1 _ I1 q1) fun us s2 ⟨xs,H2,I2,r2,q2⟩=>⟨x::xs,H2,I2,.cons r1 r2,q2⟩
def tTup(t:TA):TE:=fun σ H Q=>t σ H fun xs H1=>xs.length<=sizeLine/\∀ p,H1 p=none->Q (.ref p) (upd H1 p (.tup xs))
def tLst(t:TA):TE:=fun σ H Q=>t σ H fun xs H1=>xs.length<=sizeLine/\∀ p,H1 p=none->Q (.ref p) (upd H1 p (.lst xs))
theorem pe_tup{x1}(h:PA X es t):PE X (.Tuple es x1 pos) (tTup t):=by
 intro pins s σ H Q I hq;refine wpAny_Tuple_spliced (thn (h pos pins s σ H _ I hq) fun us s1 ⟨xs,H1,I1,r,z,q⟩=>⟨by rw [<- r.length];exact z,?_⟩);have hf:H1 s1.heap.objs.size=none:=I1.hok.fresh (Ci _);refine ⟨.ref s1.heap.objs.size,upd H1 s1.heap.objs.size (.tup xs),I1.laid (t':=s1.toks) (fun b u e=>B7 _ e) (Ci _) ?_,rfl,q _ hf⟩;exact ⟨z,us,r,⟨_,Cd _ rfl,rfl,_,rfl⟩⟩
theorem oX(h:PA X es t):PE X (.List es pos) (tLst t):=by
 intro pins s σ H Q I hq;refine wpAny_List_spliced (thn (h pos pins s σ H _ I hq) fun us s1 ⟨xs,H1,I1,r,z,q⟩=>⟨by rw [<- r.length];exact z,?_⟩);have hf:H1 s1.heap.objs.size=none:=I1.hok.fresh (Ci _);refine ⟨.ref s1.heap.objs.size,upd H1 s1.heap.objs.size (.lst xs),I1.laid (t':=s1.toks) (fun b u e=>B7 _ e) (Ci _) ?_,rfl,q _ hf⟩;exact ⟨z,us,0,r,Cd _ rfl⟩
end
abbrev Sp:=List V->Hp->VK->XK->Prop
abbrev CXT:=List Env->Hp->Shared->XK->Value->Shared->Prop
structure wu(P:Program)(w:World)(K:EG)(mg:Str->Option Value)(base:Heap)(A:Around)(outer:List Env)(s:Shared)(H:Hp):Prop where
 frames:A.frames=some outer
 mod:Mod K mg base
 bs:∀ b o,base.get? b=some o->s.heap.get? b=some o/\H b=none
 bsz:base.objs.size<=s.heap.objs.size
 funs:s.heap.FunFrames base outer
 frf:∀ b∈frs outer,H b=none
 hok:HOk P w H s.heap
 bare:AllBare s.gens
def CE(outer:List Env)(P:Program)(w:World)(H:Hp)(s:Shared)(Q:VK)(u:Value)(s':Shared):Prop :=
 ∃ v H',s'.os=s.os/\AllBare s'.gens/\Un (frs outer) [] H H' s.heap s'.heap/\HOk P w H' s'.heap/\aD v u/\Q v H'
def CR(CX:CXT)(outer:List Env)(P:Program)(w:World)(H:Hp)(s:Shared)(Q:VK)(E:XK)(r:Result)(s':Shared):Prop :=
 match r with
 | .ok (.ret u)=>CE outer P w H s Q u s'
 | .ok _=>False
 | .error e=>CX outer H s E e s'
structure mQ(P:Program)(w:World)(K:EG)(mg:Str->Option Value)(base:Heap)(CX:CXT)(k:Nat)(f:Addr)(fd:FuncData)(ps:List Str)(sp:Sp):Prop where
 len:∀ vs H Q E,sp vs H Q E->vs.length=ps.length
 run:∀ (A:Around) (outer:List Env) (s:Shared) (H:Hp) (args:Args) (us:List Value) (vs:List V) (Q:VK) (E:XK),cf k A->wu P w K mg base A outer s H->BindsTo s fd args (ps.zip us)->aw vs us->sp vs H Q E ->
  codeAny (model P w) A (.call (.ref f) args) (CR CX outer P w H s Q E) s
section
variable{X:Cx}{pins:List (Addr×Obj)}{σ:St}{H:Hp}{s s':Shared}
theorem Inv.env0(I:Inv X pins σ H s):wu X.prog X.w X.K X.mg X.base X.A X.stack s H :=
 ⟨I.ok.frames,I.ok.mod,I.bs,Df I.ok.bsz I.sz,I.stack,I.stkFree,I.hok,I.bare⟩
theorem Inv.after{Q:VK}{u:Value}(I:Inv X pins σ H s)(h:CE X.stack X.prog X.w H s Q u s'):EP X pins σ Q u s':=by
 obtain ⟨v,H',os,bare,un,hok,r,q⟩:=h;obtain ⟨hh,g,d,t,os'⟩:=s';obtain rfl:os'=s.os:=os;exact ⟨v,H',I.call (h':=hh) (g':=g) (d':=d) (t':=t) (ch:=[]) un hok bare (fun b z=>absurd z (by simp)),r,q⟩
end
def t9(sp:Sp)(dvs:List V)(E:XK)(t:TA):TE:=fun σ H Q=>t σ H fun vs H1=>sp (vs++dvs) H1 Q E
def kC(K:EG)(fd:FuncData)(ps:List Str)(ds:List Value):Prop :=
 ∀ (s:Shared) (us:List Value),K.In s.heap->(us++ds).length=ps.length->BindsTo s fd ⟨us,[]⟩ (ps.zip (us++ds))
theorem kC.all{K:EG}{fd:FuncData}{ps:List Str}(h:∀ us:List Value,us.length=ps.length->bindArgs fd ⟨us,[]⟩=pure (ps.zip us)):kC K fd ps []:=fun s us _ hl=>by
 rw [CU] at hl ⊢;exact .of_eq (h us hl)
def t8(CX:CXT)(X:Cx)(E:XK):Prop:=∀ (pins:List (Addr×Obj)) (σ:St) (H:Hp) (s:Shared) (e:Value) (s':Shared),Inv X pins σ H s->CX X.stack H s E e s'->X.xe e s'
section
variable{X:Cx}{CX:CXT}{k:Nat}{f C:Addr}{fd:FuncData}{ps:List Str}{sp:Sp}{dvs:List V}{ds:List Value}{E:XK}{x m:Str}{p pos apos:Pos}{e o:Expr}{es:List Expr}{ta:TE}{t:TA}
theorem run_fn{pins:List (Addr×Obj)}{σ:St}{H:Hp}{s:Shared}{Q:VK}{us:List Value}{vs:List V}(F:mQ X.prog X.w X.K X.mg X.base CX k f fd ps sp)(hr:cf k X.A)(hb:kC X.K fd ps ds)(hd:aw dvs ds)(hx:t8 CX X E)
 (I:Inv X pins σ H s) (r:aw vs us) (h:sp (vs++dvs) H Q E):wpAny (model X.prog X.w) X.A (call (.ref f) us) (EP X pins σ Q) X.xe s:=by
 have r2:aw (vs++dvs) (us++ds):=r.append hd
 have hl:(us++ds).length=ps.length:=by rw [<- r2.length];exact F.len _ _ _ _ h
 refine wpAny_call (codeAny_mono (F.run X.A X.stack s H ⟨us,[]⟩ (us++ds) (vs++dvs) Q E hr I.env0 (hb s us I.kIn hl) r2 h) fun r s' hq=> ?_)
 cases r with
 | error e=>exact hx pins σ H s e s' I hq
 | ok fl =>
  cases fl with
  | ret u=>exact I.after hq
  | next=>exact False.elim hq
  | brk=>exact False.elim hq
  | cont=>exact False.elim hq
theorem uq(F:mQ X.prog X.w X.K X.mg X.base CX k f fd ps sp)(hr:cf k X.A)(hg:Gl X x)(hm:X.mg x=some (.ref f))(hk:PySem.W.keepIn X.K (.ref f)=true)(hb:kC X.K fd ps ds)(hd:aw dvs ds)(hx:t8 CX X E)
 (ha:PA X (e::es) t) (hdb:(x == ("__debug__" : Str))=false:=by decide) (he:starEach (e::es) X.env=(false,eval e X.env)::starEach es X.env:=by rfl) (hpl:(backTo pos (starEach es X.env)).any (·.1)=false:=by rfl) :
 PE X (.Call (.Name x p) (e::es) [] pos) (t9 sp dvs E t):=by
 intro pins s σ H Q I h;refine Ed (gW I hg hm ?_ hdb);refine PySem.W.callWith_K (h₀:=X.base) I.ok.mod.kin hk (thn (ha pos pins s σ H _ I h) fun us s1 ⟨vs,H1,I1,r,q⟩=>⟨I1.kIn,?_⟩) he hpl;exact run_fn F hr hb hd hx I1 r q
end
section
variable{X:Cx}{CX:CXT}{k:Nat}{f C:Addr}{fd:FuncData}{ps ks:List Str}{sp:Sp}{E:XK}{x m:Str}{p pos apos kpos:Pos}{e o:Expr}{es:List Expr}{kws:List Keyword}{te ta:TE}{t tk:TA}{nm:Option Str}
variable{g:List Value->List Value->List Value}{gV:List V->List V->List V}
end
structure cR(N P:List Str)(sc:Scope):Prop where
 kind:sc.kind = .function
 co:sc.isCoroutine=false
 gen:sc.isGenerator=false
 nd:N.Nodup
 pre:N.take P.length=P
 par:∀ x∈P,sc.names.lookup x=some .local\/sc.names.lookup x=some .cell
 nofree:∀ y∈sc.names,y.2 ≠ .free
theorem oz{kindOf:Str->Option NameKind}{x:Str}:∀ {binds:List (Str×Value)} {m:Str->Option Value},(∀ v,(x,v)∉binds)->bindL kindOf binds m x=m x
 | [],_,_=>rfl
 | (n,v)::r,m,h=>by
  unfold bindL;rw [oz fun w hw=>h w (Ce _ hw)]
  split
  ·have:x≠n:=by rintro rfl;exact h v Ck
   simp [this]
  ·rfl
theorem oB{kindOf:Str->Option NameKind}{x:Str}:∀ {binds:List (Str×Value)} {m:Str->Option Value},(∀ v,(x,v)∉binds)->bindC kindOf binds m x=m x
 | [],_,_=>rfl
 | (n,v)::r,m,h=>by
  unfold bindC;rw [oB fun w hw=>h w (Ce _ hw)]
  split
  ·rfl
  ·have:x≠n:=by rintro rfl;exact h v Ck
   simp [this]
theorem oA{kindOf:Str->Option NameKind}{x:Str}{v:Value}:∀ {P:List Str} {vs:List Value} {i:Nat} {m:Str->Option Value},P.Nodup->P[i]?=some x->vs[i]?=some v->kindOf x=some .local ->
 bindL kindOf (P.zip vs) m x=some v
 | [],_,_,_,_,h,_,_=>by simp at h
 | _::_,[],_,_,_,_,h,_=>by simp at h
 | p::P,w::vs,0,m,nd,h1,h2,hk=>by
  simp at h1 h2;subst h1;subst h2
  show bindL kindOf ((p,w)::P.zip vs) m p=_
  unfold bindL;rw [oz fun v hv=>(CS.mp nd).1 (Ex hv).1,if_pos hk];simp
 | p::P,w::vs,i+1,m,nd,h1,h2,hk=>by
  show bindL kindOf ((p,w)::P.zip vs) m x=_
  unfold bindL;exact oA (i:=i) (CS.mp nd).2 (by simpa using h1) (by simpa using h2) hk
theorem oC{kindOf:Str->Option NameKind}{x:Str}{v:Value}:∀ {P:List Str} {vs:List Value} {i:Nat} {m:Str->Option Value},P.Nodup->P[i]?=some x->vs[i]?=some v->kindOf x≠some .local ->
 bindC kindOf (P.zip vs) m x=some v
 | [],_,_,_,_,h,_,_=>by simp at h
 | _::_,[],_,_,_,_,h,_=>by simp at h
 | p::P,w::vs,0,m,nd,h1,h2,hk=>by
  simp at h1 h2;subst h1;subst h2
  show bindC kindOf ((p,w)::P.zip vs) m p=_
  unfold bindC;rw [oB fun v hv=>(CS.mp nd).1 (Ex hv).1,if_neg hk];simp
 | p::P,w::vs,i+1,m,nd,h1,h2,hk=>by
  show bindC kindOf ((p,w)::P.zip vs) m x=_
  unfold bindC;exact oC (i:=i) (CS.mp nd).2 (by simpa using h1) (by simpa using h2) hk
def cU(N:List Str)(vs:List V):St:=vs.map some++List.replicate (N.length - vs.length) none
def bN(CX:CXT)(P:Program)(w:World)(K:EG)(mg:Str->Option Value)(base:Heap)(N:List Str)(qual:Str)(scope:Scope)(f:Addr)(cd:Value)(A:Around)(outer:List Env)(s:Shared)(H:Hp)(E:XK):Cx where
 prog:=P
 w:=w
 K:=K
 mg:=mg
 base:=base
 A:=A.deeper (envOfC qual scope s.heap.objs.size f cd)
 N:=N
 s₀:=s
 H₀:=H
 env:=envOfC qual scope s.heap.objs.size f cd
 outer:=outer
 stack:=envOfC qual scope s.heap.objs.size f cd::outer
 ex:=[]
 calm:=true
 fn:=fun _=>true
 pn:=[]
 xe:=fun e s'=>wpAny (model P w) (A.deeper (envOfC qual scope s.heap.objs.size f cd)) (leaving (envOfC qual scope s.heap.objs.size f cd) e) (fun _ s''=>CX outer H s E e s'') (fun e' s''=>CX outer H s E e' s'') s'
theorem rF{sc:Scope}{n:Nat}{x:Str}(h:sc.names.lookup x=some .cell):∃ c,(cellsFrom n sc.names []).lookup x=some c:=by
 have q:=PySem.W.cellsFrom_some sc.names n [] (.inl h);exact Option.isSome_iff_exists.mp q
theorem n9{CX:CXT}{P:Program}{w:World}{K:EG}{mg:Str->Option Value}{base:Heap}{N ps:List Str}{qual:Str}{scope:Scope}{f:Addr}{cd:Value}{A:Around}{outer:List Env}{s s1:Shared}{H:Hp}{E:XK}{us:List Value}{vs:List V}
 (S:cR N ps scope) (hd:A.handled=none) (e0:wu P w K mg base A outer s H) (hl:vs.length=ps.length) (r:aw vs us)
 (x:InCallC s s.heap.objs.size (bindL (envOfC qual scope s.heap.objs.size f cd).kindOf (ps.zip us) fun _=>none) (cellsFrom (s.heap.objs.size+1) scope.names []) (bindC (envOfC qual scope s.heap.objs.size f cd).kindOf (ps.zip us) fun _=>none) s1) :
 Inv (bN CX P w K mg base N qual scope f cd A outer s H E) [] (cU N vs) H s1:=by
 have hpl:ps.length<=N.length:=by have:=congrArg List.length S.pre;rw [DA] at this;omega
 obtain ⟨h1,tk,rfl,hk⟩:=x.done
 have noA:∀ b:Addr,b∉(bN CX P w K mg base N qual scope f cd A outer s H E).ex:=fun b z=>absurd (show b∈([]:List Addr) from z) (by simp)
 refine ⟨⟨e0.mod,S.kind,rfl,rfl,Ci _,fun y z c h1 h2=> ?_,fun y hy=> ?_,fun y c _ h=> ?_,fun _=>hd,Around.frames_deeper e0.frames,.inr ⟨rfl,rfl⟩,fun b z=>absurd z (noA b),e0.bs,e0.bsz,fun b _ _=>noA b,fun b z=>absurd z (noA b),e0.funs,e0.frf⟩,
  rfl,e0.bare,Un.kept hk,⟨_,x.toInCall.ns,fun i y v h1 h2 h3=> ?_⟩,fun y c h=>⟨_,x.cell y c h⟩,e0.hok.fresh (Ci _),fun y c h=> ?_,fun p hp=>absurd (show p∈([]:List (Addr×Obj)) from hp) (by simp),e0.hok.kept hk,?_⟩
 ·exact name_of_addr x.apart (Dd h1) (Dd h2)
 ·have hy:scope.names.lookup y=some .cell\/scope.names.lookup y=some .free:=hy
  rcases hy with hy | hy
  ·exact rF hy
  ·exact absurd rfl (S.nofree _ (Dd hy))
 ·exact DK (x.above y c (Dd h))
 ·have hi:i < vs.length:=by
   unfold cU at h2
   by_cases hi:i < vs.length
   ·exact hi
   ·rw [CZ (by simpa using hi)] at h2
    rw [DN] at h2
    split at h2<;>cases h2
  have ha:vs[i]?=some v:=by
   unfold cU at h2;rw [CA (by simpa using hi),Cw] at h2
   cases e:vs[i]? with
   | none=>rw [e] at h2;cases h2
   | some a=>rw [e] at h2;cases h2;rfl
  obtain ⟨u,hu,rv⟩:=r.get ha
  have hp:ps[i]?=some y:=by
   rw [<- S.pre,List.getElem?_take_of_lt (by omega)];exact h1
  have ndP:ps.Nodup:=by rw [<- S.pre];exact S.nd.sublist (El _ _)
  refine ⟨u,rv,?_⟩
  rcases S.par y (Cp hp) with k | k
  ·exact .inl ⟨k,oA ndP hp hu k⟩
  ·obtain ⟨c,e⟩:=rF (n:=s.heap.objs.size+1) k
   refine .inr ⟨.inl k,c,e,?_⟩;have q:=x.cell y c e;rw [oC ndP hp hu (by show scope.names.lookup y≠_;rw [k];decide)] at q;exact q
 ·exact e0.hok.fresh (DK (x.above y c (Dd h)))
 ·unfold cU
  show _=N.length
  rw [Ct,B9,Dg];omega
theorem BY{CX:CXT}{P:Program}{w:World}{K:EG}{mg:Str->Option Value}{base:Heap}{k:Nat}{f:Addr}{name qual:Str}{params:Arguments}{body:List Stmt}{scope:Scope}{dV kV doc pm cdv ct oc:Value}{an od:Option Addr}
 {osl:Array (Option Value)} {N ps:List Str} {sp:Sp} (lk:K.lookup f=some ⟨oc,od,.func (PySem.W.fnOf name qual params body scope dV kV doc pm an cdv ct),osl⟩) (hcd:PySem.W.codeIn K cdv qual=true) (S:cR N ps scope)
 (len:∀ vs H Q E,sp vs H Q E->vs.length=ps.length)
 (hbody:∀ (A:Around) (outer:List Env) (s:Shared) (H:Hp) (vs:List V) (Q:VK) (E:XK),cf k (A.deeper (envOfC qual scope s.heap.objs.size f cdv))->sp vs H Q E ->
   ∃ t,PSs (bN CX P w K mg base N qual scope f cdv A outer s H E) body t/\t { nx:=fun _ H'=>Q .non H',rt:=Q } (cU N vs) H) :
 mQ P w K mg base CX (k+1) f (PySem.W.fnOf name qual params body scope dV kV doc pm an cdv ct) ps sp:=by
 refine ⟨len,fun A outer s H args us vs Q E hr e0 hb r hsp=> ?_⟩;have hl:=len _ _ _ _ hsp
 have KX:K.In s.heap:=e0.mod.kin.keeps fun b o e=>(e0.bs b o e).1
 have lim:s.heap.NoLimit:=e0.mod.nolimit.keeps fun b o e=>(e0.bs b o e).1
 have hkind:∀ y∈ps.zip us,scope.names.lookup y.1=some .local\/(scope.names.lookup y.1=some .cell/\((cellsFrom (s.heap.objs.size+1) scope.names []).lookup y.1).isSome=true):=fun ⟨n,v⟩ hy=>by
  rcases S.par n (Ex hy).1 with q | q
  ·exact .inl q
  ·exact .inr ⟨q,PySem.W.cellsFrom_some _ _ _ (.inl q)⟩
 refine codeAny_call_function hr.depth (KX _ _ lk) rfl S.co S.gen rfl (PySem.W.codeRec_of KX hcd) (hb _ _ _ _ ?_)
 refine wpAny_newFunctionEnv_cells S.kind hkind fun env he s1 x=> ?_
 subst he;refine ⟨lim.keeps x.toInCall.keep,codeAny_func ?_⟩;obtain ⟨t,ht,hq⟩:=hbody A outer s H vs Q E (hr.deeper _) hsp;have I:Inv (bN CX P w K mg base N qual scope f cdv A outer s H E) [] (cU N vs) H s1:=n9 S hr.hd e0 hl r x
 refine Dm (ht [] s1 (cU N vs) H _ I hq) (fun fl s' hs=> ?_) fun e s' hs=>hs
 have fin:∀ {σ':St} {H':Hp} {v:V} {u:Value},Inv (bN CX P w K mg base N qual scope f cdv A outer s H E) [] σ' H' s'->aD v u->Q v H'->CE outer P w H s Q u s' :=
  fun {σ' H' v u} J rv q=>⟨v,H',J.os,J.bare,J.base,J.hok,rv,q⟩
 cases fl with
 | ret u =>
  obtain ⟨v,σ',H',J,rv,q⟩:=hs;exact fin J rv q
 | next =>
  obtain ⟨σ',H',J,q⟩:=hs;exact fin (v:=V.non) (u:=Value.none) J rfl q
 | brk =>
  obtain ⟨_,_,_,q⟩:=hs;exact False.elim q
 | cont =>
  obtain ⟨_,_,_,q⟩:=hs;exact False.elim q
section
variable{X:Cx}{x:Str}{p pos:Pos}{e:Expr}{es:List Expr}{t:TA}{id T:String}{r:List V->Hp->VK->Prop}
def tCB(r:List V->Hp->VK->Prop)(t:TA):TE:=fun σ H Q=>t σ H fun vs H1=>r vs H1 Q
theorem jc(hc:ax X (.builtin id) r)(hg:Gl X x)(hm:X.mg x=none)(hv:bootBuiltins x=some (.builtin id))(ha:PA X (e::es) t)(hn:x ≠ "__name__" := by decide)(hdb:(x == ("__debug__" : Str))=false:=by decide)
 (he:starEach (e::es) X.env=(false,eval e X.env)::starEach es X.env:=by rfl) (hpl:(backTo pos (starEach es X.env)).any (·.1)=false:=by rfl):PE X (.Call (.Name x p) (e::es) [] pos) (tCB r t):=by
 intro pins s σ H Q I h;refine Ed (iM I hg hm hv ?_ hn hdb);exact PyProof.Rows.callWith_builtin1 (thn (ha pos pins s σ H _ I h) fun us s1 ⟨vs,H1,I1,r1,q1⟩=>hc pins s1 σ H1 vs us Q I1 r1 q1) he hpl
theorem vq(hc:ax X (.type T) r)(hg:Gl X x)(hm:X.mg x=none)(hv:bootBuiltins x=some (.type T))(ha:PA X (e::es) t)(hn:x ≠ "__name__" := by decide)(hdb:(x == ("__debug__" : Str))=false:=by decide)
 (he:starEach (e::es) X.env=(false,eval e X.env)::starEach es X.env:=by rfl) (hpl:(backTo pos (starEach es X.env)).any (·.1)=false:=by rfl):PE X (.Call (.Name x p) (e::es) [] pos) (tCB r t):=by
 intro pins s σ H Q I h;refine Ed (iM I hg hm hv ?_ hn hdb);exact PyProof.Rows.callWith_type1 (thn (ha pos pins s σ H _ I h) fun us s1 ⟨vs,H1,I1,r1,q1⟩=>hc pins s1 σ H1 vs us Q I1 r1 q1) he hpl
end
section
variable{κ:Type}[DecidableEq κ]
def dG(kvs:List (κ×V))(k:κ):Option V:=(kvs.find? fun kv=>decide (kv.1=k)).map (·.2)
def iG(kvs:List (κ×V))(k:κ)(v:V):List (κ×V) :=
 if (kvs.any fun kv=>decide (kv.1=k))=true then kvs.map (fun kv=>if kv.1=k then (kv.1,v) else kv) else kvs++[(k,v)]
theorem iV{p:κ×V}{r:List (κ×V)}{k:κ}(e:p.1=k):dG (p::r) k=some p.2:=by simp [dG,Eh,e]
theorem iW{p:κ×V}{r:List (κ×V)}{k:κ}(e:¬ p.1=k):dG (p::r) k=dG r k:=by simp [dG,Eh,e]
theorem p0(k:κ):∀ kvs:List (κ×V),(kvs.any fun kv=>decide (kv.1=k))=(dG kvs k).isSome
 | []=>rfl
 | p::r=>by
  rw [List.any_cons]
  by_cases e:p.1=k
  ·simp only [iV e,Cr e,Es,Option.isSome_some]
  ·rw [iW e,CG e,DW];exact p0 k r
theorem ka(kvs:List (κ×V))(k:κ)(v:V):(iG kvs k v).length<=kvs.length+1:=by
 unfold iG
 split
 ·rw [B9];omega
 ·rw [Ct,Cc,Dr];omega
theorem pV.isSome_eq{o:Option V}{u:Option Value}(r:pV o u):o.isSome=u.isSome:=by
 cases o with
 | none=>cases u with
  | none=>rfl
  | some _=>exact (show False from r).elim
 | some _=>cases u with
  | none=>exact (show False from r).elim
  | some _=>rfl
theorem KV.val{kvs:List (κ×V)}{vs:List (κ×Value)}(r:KV kvs vs)(k:κ):pV (dG kvs k) (valueAt vs k):=by
 unfold KV at r
 induction r with
 | nil=>exact True.intro
 | @cons p q ps qs h t ih =>
  obtain ⟨h1,h2⟩:=h
  by_cases e:p.1=k
  ·have e':q.1=k:=h1.symm.trans e
   have b:valueAt (q::qs) k=some q.2:=by simp [valueAt,Eh,e']
   rw [iV e,b];exact h2
  ·have e':¬ q.1=k:=fun z=>e (h1.trans z)
   have b:valueAt (q::qs) k=valueAt qs k:=by simp [valueAt,Eh,e']
   rw [iW e,b];exact ih
theorem KV.any{kvs:List (κ×V)}{vs:List (κ×Value)}(r:KV kvs vs)(k:κ):(kvs.any fun kv=>decide (kv.1=k))=vs.any fun kv=>decide (kv.1=k):=by
 unfold KV at r
 induction r with
 | nil=>rfl
 | cons h t ih=>rw [List.any_cons,List.any_cons,ih,h.1]
theorem KV.repl{kvs:List (κ×V)}{vs:List (κ×Value)}(r:KV kvs vs)(k:κ){y:V}{u:Value}(ry:aD y u) :
 KV (kvs.map fun kv=>if kv.1=k then (kv.1,y) else kv) (vs.map fun kv=>if kv.1=k then (kv.1,u) else kv):=by
 unfold KV at r ⊢
 induction r with
 | nil=>exact .nil
 | @cons p q ps qs h t ih =>
  rw [Cq,Cq];refine .cons ?_ ih;obtain ⟨h1,h2⟩:=h
  by_cases e:p.1=k
  ·rw [if_pos e,if_pos (h1.symm.trans e)];exact ⟨h1,ry⟩
  ·rw [if_neg e,if_neg (fun z=>e (h1.trans z))];exact ⟨h1,h2⟩
theorem KV.put{kvs:List (κ×V)}{vs:List (κ×Value)}(r:KV kvs vs)(k:κ){y:V}{u:Value}(ry:aD y u):KV (iG kvs k y) (stored vs k u):=by
 unfold iG stored;rw [r.any k]
 by_cases e:(vs.any fun kv=>decide (kv.1=k))=true
 ·rw [if_pos e,if_pos e];exact r.repl k ry
 ·rw [if_neg e,if_neg e];exact Paired.snoc r ⟨rfl,ry⟩
theorem KV.length{kvs:List (κ×V)}{vs:List (κ×Value)}(r:KV kvs vs):kvs.length=vs.length:=Paired.length r
end
theorem n5{P:Program}{w:World}{k:Key}{u:Value}(r:aD (kV k) u):(aX P w).is k u=true:=by
 cases k with
 | inl i=>obtain ⟨t,e⟩:=(show ∃ t,u=Value.int i t from r);subst e;exact qT P w i t
 | inr x=>obtain ⟨t,e⟩:=(show ∃ t,u=Value.str x t from r);subst e;exact em P w x t
theorem n8{P:Program}{w:World}:∀ {ks:List Key} {us:List Value},aw (ks.map kV) us->ItemsAre (aX P w) ks us
 | [],_,r=>by rw [DS] at r;cases r;exact .nil
 | k::ks,_,r=>by
  rw [Cq] at r
  cases r with
  | cons h t=>exact .cons (n5 h) (n8 t)
abbrev KT(H:Hp):List (List Key×V)->List (List Key×Addr×Value)->Prop:=Paired fun p q=>p.1=q.1/\H q.2.1=some (.tup (p.1.map kV))/\aD p.2 q.2.2
theorem KT.val{H:Hp}{kvs:List (List Key×V)}{xs:List (List Key×Addr×Value)}(r:KT H kvs xs)(k:List Key):pV (dG kvs k) ((atKey xs k).map (·.2)):=by
 induction r with
 | nil=>exact True.intro
 | @cons p q ps qs h t ih =>
  obtain ⟨h1,_,h2⟩:=h
  by_cases e:p.1=k
  ·have e':q.1=k:=h1.symm.trans e
   have b:atKey (q::qs) k=some q.2:=by simp [atKey,Eh,e']
   rw [iV e,b];exact h2
  ·have e':¬ q.1=k:=fun z=>e (h1.trans z)
   have b:atKey (q::qs) k=atKey qs k:=by simp [atKey,Eh,e']
   rw [iW e,b];exact ih
theorem KT.repl{H:Hp}{kvs:List (List Key×V)}{xs:List (List Key×Addr×Value)}(r:KT H kvs xs)(k:List Key){y:V}{u:Value}(ry:aD y u) :
 KT H (kvs.map fun kv=>if kv.1=k then (kv.1,y) else kv) (xs.map (putAt k u)):=by
 induction r with
 | nil=>exact .nil
 | @cons p q ps qs h t ih =>
  rw [Cq,Cq];refine .cons ?_ ih;obtain ⟨h1,h2,h3⟩:=h;unfold putAt
  by_cases e:p.1=k
  ·rw [if_pos e,if_pos (h1.symm.trans e)];exact ⟨h1,h2,ry⟩
  ·rw [if_neg e,if_neg (fun z=>e (h1.trans z))];exact ⟨h1,h2,h3⟩
theorem KT.put{H:Hp}{kvs:List (List Key×V)}{xs:List (List Key×Addr×Value)}(r:KT H kvs xs)(k:List Key){b:Addr}{y:V}{u:Value}(hb:H b=some (.tup (k.map kV)))(ry:aD y u) :
 KT H (iG kvs k y) (storedH xs k b u):=by
 have e:(kvs.any fun kv=>decide (kv.1=k))=(atKey xs k).isSome:=by
  rw [p0,(r.val k).isSome_eq,Option.isSome_map]
 unfold iG storedH;rw [e]
 by_cases q:(atKey xs k).isSome=true
 ·rw [if_pos q,if_pos q];exact r.repl k ry
 ·rw [if_neg q,if_neg q];exact Paired.snoc r ⟨rfl,hb,ry⟩
theorem KT.keeps{H H':Hp}{kvs:List (List Key×V)}{xs:List (List Key×Addr×Value)}(r:KT H kvs xs)(ht:∀ b ys,H b=some (.tup ys)->H' b=some (.tup ys)):KT H' kvs xs :=
 Paired.mapP r fun _ _ z=>⟨z.1,ht _ _ z.2.1,z.2.2⟩
section
variable{P:Program}{w:World}{H:Hp}{h:Heap}{a:Addr}
theorem BD{u:HO}(ok:HOk P w H h)(e:Rd H a u):bn P w H h a u:=e.ok ok
theorem yP{kvs:List (Key×V)}(ok:HOk P w H h)(e:Rd H a (.dK kvs)):kvs.length<=sizeLine/\(a == sysModules)=false/\∃ vs,KV kvs vs/\h.DictOf (aX P w) a vs :=
 show bn P w H h a (.dK kvs) from BD ok e
theorem dk_of{kvs:List (Key×V)}(ok:HOk P w H h)(e:H a=some (.dK kvs)):kvs.length<=sizeLine/\(a == sysModules)=false/\∃ vs,KV kvs vs/\h.DictOf (aX P w) a vs:=yP ok (.inl e)
theorem sW{ks:List Key}(ok:HOk P w H h)(e:H a=some (.tup (ks.map kV))):(tupleKind (aX P w)).is h ks a:=by
 obtain ⟨_,its,r,o,h1,h2,n,h3⟩:=(show bn P w H h a (.tup (ks.map kV)) from ok a _ e);exact ⟨o,its.toArray,n,h1,h2,h3,by simpa using n8 r⟩
theorem B0{kvs:List (List Key×V)}(ok:HOk P w H h)(e:Rd H a (.dT kvs)):kvs.length<=sizeLine/\(a == sysModules)=false /\
 ∃ xs,KT H kvs xs/\h.DictOfH (tupleKind (aX P w)) a xs:=by
 obtain ⟨z,y,xs,r,o,es,ep,h1,h2,h3,h4,h5⟩:=(show bn P w H h a (.dT kvs) from BD ok e);refine ⟨z,y,xs,r,o,es,ep,h1,h2,h3,h4,fun x hx=> ?_,h5⟩
 have all:∀ {l:List (List Key×V)} {m:List (List Key×Addr×Value)},KT H l m->∀ x∈m,(tupleKind (aX P w)).is h x.1 x.2.1:=by
  intro l m q
  induction q with
  | nil=>intro x hx;exact nomatch hx
  | @cons p q ps qs hq t ih =>
   intro x hx
   rcases List.mem_cons.mp hx with e | hx
   ·subst e
    exact sW ok (by rw [<- hq.1];exact hq.2.1)
   ·exact ih x hx
 exact all r x hx
theorem dt_of{kvs:List (List Key×V)}(ok:HOk P w H h)(e:H a=some (.dT kvs)):kvs.length<=sizeLine/\(a == sysModules)=false /\
 ∃ xs,KT H kvs xs/\h.DictOfH (tupleKind (aX P w)) a xs:=B0 ok (.inl e)
end
def nB(H:Hp)(a:Addr)(y:V)(r:Option V):Prop :=
 (∃ kvs k,Rd H a (.dK kvs)/\y=kV k/\r=dG kvs k)\/∃ kvs k b,Rd H a (.dT kvs)/\y = .ref b/\H b=some (.tup (k.map kV))/\r=dG kvs k
def pY(H:Hp)(a:Addr)(y v:V)(H':Hp):Prop :=
 (∃ kvs k,H a=some (.dK kvs)/\y=kV k/\kvs.length < sizeLine/\H'=upd H a (.dK (iG kvs k v))) \/
 ∃ kvs k b,H a=some (.dT kvs)/\y = .ref b/\H b=some (.tup (k.map kV))/\kvs.length < sizeLine/\H'=upd H a (.dT (iG kvs k v))
theorem nB.k{H:Hp}{a:Addr}{kvs:List (Key×V)}{k:Key}(e:H a=some (.dK kvs)):nB H a (kV k) (dG kvs k):= .inl ⟨kvs,k,.inl e,rfl,rfl⟩
theorem nB.t{H:Hp}{a b:Addr}{kvs:List (List Key×V)}{k:List Key}(e:H a=some (.dT kvs))(eb:H b=some (.tup (k.map kV))):nB H a (.ref b) (dG kvs k):= .inr ⟨kvs,k,b,.inl e,rfl,eb,rfl⟩
theorem pY.k{H:Hp}{a:Addr}{kvs:List (Key×V)}{k:Key}{v:V}(e:H a=some (.dK kvs))(hl:kvs.length < sizeLine):pY H a (kV k) v (upd H a (.dK (iG kvs k v))):= .inl ⟨kvs,k,e,rfl,hl,rfl⟩
theorem pY.t{H:Hp}{a b:Addr}{kvs:List (List Key×V)}{k:List Key}{v:V}(e:H a=some (.dT kvs))(eb:H b=some (.tup (k.map kV)))(hl:kvs.length < sizeLine) :
 pY H a (.ref b) v (upd H a (.dT (iG kvs k v))):= .inr ⟨kvs,k,b,e,rfl,eb,hl,rfl⟩
section
variable{X:Cx}{pins:List (Addr×Obj)}{σ:St}{H:Hp}{s:Shared}{a:Addr}{y v:V}{u r:Value}{o:Option V}{A:Around}{E:Value->Shared->Prop}
theorem Inv.big(I:Inv X pins σ H s):sysModules < s.heap.objs.size:=by
 have h:mainGlobals < s.heap.objs.size:=(I.mod.glob.keeps I.bk).lt;exact Nat.lt_trans (by decide) h
theorem d_in{Q:Value->Shared->Prop}(hu:A.units+1 < cLine)(I:Inv X pins σ H s)(g:nB H a y o)(ry:aD y u)(h:∀ s',Inv X pins σ H s'->Q (.bool o.isSome) s') :
 wpAny (model X.prog X.w) A (compareOp .In u (.ref a)) Q E s:=by
 rcases g with ⟨kvs,k,e,ey,l⟩ | ⟨kvs,k,b,e,ey,eb,l⟩
 ·subst ey
  obtain ⟨z,hd,vs,rel,dd⟩:=yP I.hok e;refine wpAny_in_of (n5 ry) hd dd.mapOf ?_;rw [<- (rel.val k).isSome_eq,<- l];exact h _ (I.tok _)
 ·subst ey
  cases (show u=Value.ref b from ry);obtain ⟨z,hd,xs,rel,dd⟩:=B0 I.hok e;refine wpAny_in_heap (tupleKind_room_in1 hu) (sW I.hok eb) hd dd ?_;have q:=(rel.val k).isSome_eq;rw [Option.isSome_map] at q;rw [<- q,<- l];exact h _ (I.tok _)
theorem uM{h':Heap}{t':Nat}{ob:HO}(I:Inv X pins σ H s)(mu:Mut (H a))(hs:Heap.SameBut a s.heap h')(he:∃ q,h'.get? a=some q)(new:bn X.prog X.w (upd H a ob) h' a ob) :
 Inv X pins σ (upd H a ob) { s with heap:=h',toks:=t' } :=
 I.write (x:=a) (e:=a) mu (.inl rfl) (fun b q hb z=>(hs.2 b hb).trans z) he new
theorem dk_new{P:Program}{w:World}{H':Hp}{h':Heap}{kvs:List (Key×V)}{vs:List (Key×Value)}(z:kvs.length<=sizeLine)(hd:(a == sysModules)=false)(rel:KV kvs vs)(dd:h'.DictOf (aX P w) a vs) :
 bn P w H' h' a (.dK kvs):=⟨z,hd,vs,rel,dd⟩
theorem vR{H':Hp}{Q:Unit->Shared->Prop}(hu:A.units+1 < cLine)(I:Inv X pins σ H s)(g:pY H a y v H')(ry:aD y u)(rv:aD v r)(h:∀ s',Inv X pins σ H' s'->Q () s') :
 wpAny (model X.prog X.w) A (setItem (.ref a) u r) Q E s:=by
 rcases g with ⟨kvs,k,e,ey,l,eH⟩ | ⟨kvs,k,b,e,ey,eb,l,eH⟩
 ·subst ey eH
  obtain ⟨z,hd,vs,rel,dd⟩:=dk_of I.hok e
  have hz:vs.length<=sizeLine:=by rw [<- rel.length];exact z
  have hl:(iG kvs k v).length<=sizeLine:=by have:=ka kvs k v;omega
  refine wpAny_setItem_pairs (hsz:=hz) (n5 ry) dd fun h' dd' hs=>h _ ?_
  have he:∃ q,h'.get? a=some q:=let ⟨q,_,_,hq,_⟩:=dd';⟨q,hq⟩;exact uM I (by rw [e];exact True.intro) hs he (dk_new hl hd (rel.put k rv) dd')
 ·subst ey eH
  cases (show u=Value.ref b from ry);obtain ⟨z,hd,xs,rel,dd⟩:=dt_of I.hok e
  have hz:xs.length<=sizeLine:=by rw [<- Paired.length rel];exact z
  have hl:(iG kvs k v).length<=sizeLine:=by have:=ka kvs k v;omega
  refine wpAny_setItem_heap (hsz:=hz) (tupleKind_room_in1 hu) (sW I.hok eb) dd fun h' dd' hs=>h _ ?_
  obtain ⟨q,es,ep,hq,h2,h3,h4,_,h5⟩:=dd';refine uM I (by rw [e];exact True.intro) hs ⟨q,hq⟩ ⟨hl,hd,_,(rel.put k eb rv).keeps fun c ys ec=> ?_,q,es,ep,hq,h2,h3,h4,h5⟩;rw [am (ne_of ec e (fun z=>nomatch z))];exact ec
end
section
variable{X:Cx}{pins:List (Addr×Obj)}{σ:St}{H:Hp}{s:Shared}{a:Addr}{kvs:List (Key×V)}{k:Key}{u:Value}{A:Around}{E:Value->Shared->Prop}
theorem d_len{Q:Value->Shared->Prop}(I:Inv X pins σ H s)(e:Rd H a (.dK kvs))(h:∀ t s',Inv X pins σ H s'->Q (.int kvs.length t) s'):wpAny (model X.prog X.w) A (call (.builtin "len") [.ref a]) Q E s:=by
 obtain ⟨z,hd,vs,rel,dd⟩:=yP I.hok e;refine call_len_dict hd dd (by rw [<- rel.length];rw [sizeLine_eq] at z;omega) ?_;rw [<- rel.length];exact h _ _ (I.tok _)
end
def NoSl(i:Expr):Prop:=∀ ov iv,subscripted i false ov iv=operate [ov,iv] (getItem ov iv)
theorem zI{prog:Program}{w:World}{A:Around}{E:Value->Shared->Prop}{s:Shared}{env:Env}{value slice:Expr}{pos:Pos}{T id:String}{Q:Value->Shared->Prop}
 (hl:typeLookup (.type T) "__getitem__" = pure (some (.builtin id))) (hs:NoSl slice)
 (h:wpAny (model prog w) A (eval value env) (fun o s₁=>wpAny (model prog w) A (eval slice env) (fun i s₂=>s₂.TypeIs o T/\wpAny (model prog w) A (getItem o i) Q E s₂) E s₁) E s) :
 wpAny (model prog w) A (eval (.Subscript value slice pos) env) Q E s:=by
 refine Subscript_ (Dm h (fun o s₁ h₁=>Dm h₁ (fun i s₂ h₂=> ?_) fun _ _ x=>x) fun _ _ x=>x);obtain ⟨hT,h₂⟩:=h₂;unfold subscriptTail;refine B6 ?_;rw [getitemInPython_of_ne hT.not_modules];refine B6 (wpAny_specialOf hT hl ?_)
 have fin:wpAny (model prog w) A (subscripted slice false o i) (fun r s₃=>wpAny (model prog w) A (letTemporaryGo value o r >>= fun _=>pure r) Q E s₃) E s₂:=by
  rw [hs o i];exact wpAny_operating (Dm h₂ (fun r s₃ h₃=>B6 (wpAny_letTemporaryGo (Ca h₃))) fun _ _ x=>x)
 first
  | exact Ca (B6 fin)
  | exact B6 (Ca (B6 fin))
  | exact B6 fin
def sDPut(td ty tv:TE):TS:=fun D σ H=>tv σ H fun v H1=>td σ H1 fun x H2=>ty σ H2 fun y H3=>∃ a H4,x = .ref a/\pY H3 a y v H4/\D.nx σ H4
section
variable{X:Cx}{o i e value:Expr}{pos pos' tpos:Pos}{td ty tv:TE}
theorem Ap(hu:X.A.units+1 < cLine)(ho:PE X o td)(hi:PE X i ty)(hv:PE X value tv)(hs:swapsWith value (some (.Subscript o i pos')) pos.line X.env=pure false) :
 PS X (.Assign [.Subscript o i pos'] value pos) (sDPut td ty tv):=by
 intro pins s σ H D I h;refine wpAny_Assign_Subscript (thn (hv pins s σ H _ I h) fun r s1 ⟨v,H1,I1,rv,q1⟩=>thn (ho pins s1 σ H1 _ I1 q1) fun u s2 ⟨x,H2,I2,rx,q2⟩=>thn (hi pins s2 σ H2 _ I2 q2) fun iv s3 ⟨y,H3,I3,ry,a,H4,ex,g,q3⟩=> ?_) hs;subst ex;obtain rfl:u=Value.ref a:=rx
 exact vR hu I3 g ry rv fun s4 I4=>⟨σ,H4,I4,q3⟩
end
theorem yQ{P:Program}{w:World}{H:Hp}(h:Heap)(hb:sysModules < h.objs.size):bn P w H (h.push { cls:= .type "dict",data:= .dict #[] }) h.objs.size (.dK []) :=
 ⟨Ek _,DL.mpr (Ne.symm (Cu hb)),[],.nil,Heap.DictOf.new h⟩
theorem yN{P:Program}{w:World}{H:Hp}(h:Heap)(hb:sysModules < h.objs.size):bn P w H (h.push { cls:= .type "dict",data:= .dict #[] }) h.objs.size (.dT []) :=
 ⟨Ek _,DL.mpr (Ne.symm (Cu hb)),[],.nil,_,#[],0,Cd _ rfl,⟨rfl,rfl,rfl⟩,rfl,rfl,Eo⟩
def tDNewK:TE:=fun _ H Q=>∀ p,H p=none->Q (.ref p) (upd H p (.dK []))
def tDNewT:TE:=fun _ H Q=>∀ p,H p=none->Q (.ref p) (upd H p (.dT []))
section
variable{X:Cx}{pos:Pos}
theorem xz:PE X (.Dict [] [] pos) tDNewK:=fun pins s σ H Q I h =>
 wpAny_Dict_empty ⟨.ref s.heap.objs.size,_,I.laid (a:=s.heap.objs.size) (o:= .dK []) (t':=s.toks) (fun _ _ q=>B7 _ q) (Ci _) (yQ s.heap I.big),rfl,h _ (I.hok.fresh (Ci _))⟩
theorem xy:PE X (.Dict [] [] pos) tDNewT:=fun pins s σ H Q I h =>
 wpAny_Dict_empty ⟨.ref s.heap.objs.size,_,I.laid (a:=s.heap.objs.size) (o:= .dT []) (t':=s.toks) (fun _ _ q=>B7 _ q) (Ci _) (yN s.heap I.big),rfl,h _ (I.hok.fresh (Ci _))⟩
end
section
variable{X:Cx}{pins:List (Addr×Obj)}{σ:St}{H:Hp}{s:Shared}{a:Addr}{y d:V}{u r:Value}{o:Option V}{A:Around}{E:Value->Shared->Prop}
end
section
variable{X:Cx}{o e f:Expr}{apos cpos:Pos}{td ty tx:TE}
end
section
variable{X:Cx}{pins:List (Addr×Obj)}{σ:St}{H:Hp}{s:Shared}{a:Addr}{kvs:List (Key×V)}{A:Around}{E:Value->Shared->Prop}
end
section
variable{X:Cx}{pins:List (Addr×Obj)}{σ:St}{H:Hp}{s:Shared}{a:Addr}{y:V}{u:Value}{A:Around}{E:Value->Shared->Prop}
end
end L2
namespace HT
open PySem PyProof.Rows
theorem yL(A:Around)(s:Shared)(a:Int)(t:Tok)(c:Int)(u:Tok):∃ e,SeqAt.EqAt A s (.int a t) (.int c u) e/\(e=true↔a=c) :=
 ⟨(a == c),SeqAt.EqAt.int_int a t c u,by simp⟩
section
open PySem.SeqAt
open PySem.AutoSeq1 (wpAny_loadPart')
open PySem.MeetsSeq PySem.MeetsSeq2 PySem.MeetsSeq3
end
section
variable{prog:Program}{w:World}{A:Around}{E:Value->Shared->Prop}{s:Shared}
theorem Bf{t b:Addr}{vs ws:List Value}{Q:Value->Shared->Prop}(ht:IsTup s.heap t vs.toArray)(hb:IsTup s.heap b ws.toArray)(hv:vs≠[])
 (h1:ws=[]->Q (.ref t) s) (h2:ws≠[]->Q (.ref s.heap.objs.size) { s with heap:=s.heap.push { cls:= .type "tuple",data:= .seq (vs++ws).toArray } })
 (hsz:vs.length+ws.length<=sizeLine):wpAny (model prog w) A (binaryOp .Add (.ref t) (.ref b)) Q E s:=by
 obtain ⟨⟨cls,dd,data,sl⟩,ho,hc,n,hd⟩:=id ht;obtain ⟨⟨cls2,dd2,data2,sl2⟩,ho2,hc2,n2,hd2⟩:=id hb;simp only at hc hd hc2 hd2;subst hc hd hc2 hd2
 have e:vs.toArray++ws.toArray=(vs++ws).toArray:=by simp
 by_cases hw:ws=[]
 ·exact concat_meets ⟨_,ho,rfl⟩ ⟨_,ho2,rfl⟩ noFill_tuple_add seq_tuple_add PySem.F.slot_tuple_add PySem.F.entry_tuple_add (PySem.F.args_tuple_add_2 _ _)
   (tuple_addW1 t b vs.toArray ws.toArray n n2 dd dd2 sl sl2 (by simpa using hv) (by simp [hw])) ⟨ho,ho2,h1 hw⟩
 ·refine concat_meets ⟨_,ho,rfl⟩ ⟨_,ho2,rfl⟩ noFill_tuple_add seq_tuple_add PySem.F.slot_tuple_add PySem.F.entry_tuple_add (PySem.F.args_tuple_add_2 _ _)
   (tuple_addW2 t b vs.toArray ws.toArray n n2 dd dd2 sl sl2 (by simpa using hv) (by simpa using hw) (by rw [Cb,Cb];exact hsz)) ⟨ho,ho2,?_⟩
  rw [e];exact h2 hw
def sIx(n d:Nat):Option Int->Nat
 | none=>d
 | some v=>if v < 0 then (v+(n:Int)).toNat else min v.toNat n
theorem so(n d:Nat)(hd:d<=n)(o:Option Int):sIx n d o<=n:=by
 cases o with
 | none=>exact hd
 | some v =>
  show (if v < 0 then (v+(n:Int)).toNat else min v.toNat n)<=n
  by_cases hv:v < 0
  ·rw [if_pos hv];omega
  ·rw [if_neg hv];exact Nat.min_le_right _ _
theorem uP(v:Int)(n d:Nat):(if v < 0 then max (v+(n:Int)) 0 else min v (n:Int))=((sIx n d (some v):Nat):Int):=by
 show (if v < 0 then max (v+(n:Int)) 0 else min v (n:Int))=(((if v < 0 then (v+(n:Int)).toNat else min v.toNat n):Nat):Int)
 by_cases hv:v < 0
 ·simp only [if_pos hv];omega
 ·simp only [if_neg hv];omega
theorem t4(lo hi:Option Int)(n:Nat):Builtin.Slice.sliceAdjust lo hi 1 (n:Int)=(((sIx n 0 lo:Nat):Int),((sIx n n hi:Nat):Int)):=by
 have h1:¬ ((1:Int) < 0):=by omega
 unfold Builtin.Slice.sliceAdjust;simp only [h1,if_false];refine Prod.ext ?_ ?_
 ·cases lo with
  | none=>rfl
  | some v=>exact uP v n 0
 ·cases hi with
  | none=>rfl
  | some v=>exact uP v n n
theorem sL(i j:Nat):Builtin.Slice.slicePlaces (i:Int) (j:Int) 1=j - i:=by
 unfold Builtin.Slice.slicePlaces
 have h1:(1:Int) > 0:=by omega
 simp only [h1,if_true,Int.ediv_one]
 split<;>omega
theorem lm{v:Value}{o:Option Int}{Q:Option Int->Shared->Prop}(p:IsPart v o)(h:Q o s):wpAny (model prog w) A (Builtin.Slice.slicePartIndex v) Q E s:=by
 cases p with
 | none=>exact slicePart_none h
 | int i t=>exact slicePart_int h
theorem eS{sl:Addr}{vl vu:Value}{lo hi:Option Int}{n:Nat}{Q:Int×Int×Nat->Shared->Prop}(hs:s.heap.IsSliceOf sl vl vu .none)(pl:IsPart vl lo)(pu:IsPart vu hi)
 (h:Q (((sIx n 0 lo:Nat):Int),1,sIx n n hi - sIx n 0 lo) s):wpAny (model prog w) A (Builtin.Slice.sliceApplied (.ref sl) (pure (n:Int))) Q E s:=by
 obtain ⟨os,hos,hcs,hds⟩:=id hs;unfold Builtin.Slice.sliceApplied Builtin.Slice.sliceFields;refine B6 (B6 (Dj hos hds (x:=vl) rfl (B6 (Dj hos hds (x:=vu) rfl (B6 (Dj hos hds (x:= .none) rfl (Ca ?_)))))));refine B6 (slicePart_none ?_)
 show wpAny _ _ (if ((1:Int) == 0)=true then _ else _) _ _ s
 rw [if_neg (by decide)];refine B6 (lm pl (B6 (lm pu (B6 (Ca ?_)))))
 show wpAny _ _ (match Builtin.Slice.sliceAdjust lo hi 1 (n:Int) with | (lo,hi)=>pure (lo,(1:Int),Builtin.Slice.slicePlaces lo hi 1)) _ _ s
 rw [t4 lo hi n]
 show wpAny _ _ (pure (((sIx n 0 lo:Nat):Int),(1:Int),Builtin.Slice.slicePlaces ((sIx n 0 lo:Nat):Int) ((sIx n n hi:Nat):Int) 1)) _ _ s
 rw [sL];exact Ca h
theorem xr(xs:Array Value)(i k:Nat):((List.range k).filterMap fun (m:Nat)=>xs[((i:Int)+(m:Int) * 1).toNat]?).toArray=((xs.toList.drop i).take k).toArray:=by
 have e:(fun (m:Nat)=>xs[((i:Int)+(m:Int) * 1).toNat]?)=fun m=>xs[i+m]?:=by
  funext m
  have:((i:Int)+(m:Int) * 1).toNat=i+m:=by omega
  rw [this]
 rw [e];have:=pick_run xs i k;rw [List.filterMap_map] at this
 have e2:((fun x=>xs[x]?) ∘ fun x=>i+x)=fun m=>xs[i+m]?:=rfl
 rw [e2] at this;rw [this]
theorem jk{t sl:Addr}{items:Array Value}{vl vu:Value}{lo hi:Option Int}{Q:Value->Shared->Prop}(ht:IsTup s.heap t items)(hs:s.heap.IsSliceOf sl vl vu .none)(pl:IsPart vl lo)(pu:IsPart vu hi)
 (hw:¬ (sIx items.size 0 lo=0/\sIx items.size items.size hi=items.size))
 (h:Q (.ref s.heap.objs.size) { s with heap:=s.heap.push { cls:= .type "tuple",data:= .seq ((items.toList.drop (sIx items.size 0 lo)).take (sIx items.size items.size hi - sIx items.size 0 lo)).toArray } })
 (hsz:items.size<=sizeLine):wpAny (model prog w) A (getItem (.ref t) (.ref sl)) Q E s:=by
 have htake:sizeOk (.seq ((items.toList.drop (sIx items.size 0 lo)).take (sIx items.size items.size hi - sIx items.size 0 lo)).toArray):=by
  show ((items.toList.drop (sIx items.size 0 lo)).take (sIx items.size items.size hi - sIx items.size 0 lo)).toArray.size<=sizeLine
  rw [Cb,DA,List.length_drop,C0];omega
 have hj:sIx items.size items.size hi<=items.size:=so _ _ (Ci _) hi;obtain ⟨os,hos,hcs,hds⟩:=id hs;have hTs:s.TypeIs (.ref sl) "slice" := ⟨os,hos,hcs⟩;unfold getItem
 try with_reducible refine Du ?_
 first | refine B6 (Ca ?_) | skip
 refine B6 (wpAny_sequenceKey ht.typeIs (by decide) ?_)
 refine B6 (CM (name:=Str.ofString "__getitem__") ht.typeIs PyProof.Rows.slot_tuple_getitem
  (C1 PyProof.Rows.slot_tuple_getitem ht.typeIs entry_tuple_getitem ?_ (args_tuple_getitem _ _)))
 show wpAny _ _ (Builtin.Tuple.tupleItemsOf (.ref t) >>= _) _ _ s
 refine B6 (tupleItemsOf_ ht ?_);refine B6 (wpAny_typeOf hTs ?_);rw [if_pos (by decide)];refine B6 (eS hs pl pu ?_)
 have hno:¬ ((((sIx items.size 0 lo:Nat):Int) == 0&&(1:Int) == 1&&(sIx items.size items.size hi - sIx items.size 0 lo) == items.size)=true):=by
  intro q;rw [Cv,Cv] at q;have q1:((sIx items.size 0 lo:Nat):Int)=0:=eq_of_beq q.1.1;have q2:sIx items.size items.size hi - sIx items.size 0 lo=items.size:=eq_of_beq q.2;exact hw ⟨by omega,by omega⟩
 show wpAny _ _ (if (((sIx items.size 0 lo:Nat):Int) == 0&&(1:Int) == 1&&(sIx items.size items.size hi - sIx items.size 0 lo) == items.size)=true then _ else _) _ _ s
 rw [if_neg hno,xr]
 first
  | exact B6 (m:=Builtin.Tuple.tupleExact _) (CQ (Ca ⟨_,rfl,Ca h⟩) htake)
  | exact B6 (m:=Builtin.Tuple.tupleExact _) (CQ (B6 (Ca (Ca ⟨_,rfl,Ca h⟩))) htake)
  | exact B6 (B6 (m:=Builtin.Tuple.tupleExact _) (CQ (Ca (Ca ⟨_,rfl,Ca h⟩)) htake))
  | exact B6 (B6 (m:=Builtin.Tuple.tupleExact _) (CQ (Ca ⟨_,rfl,Ca h⟩) htake))
end
end HT
namespace L2
open PySem PySem.Spec PyProof.Rows
abbrev TO:=St->Hp->(Option Int->Hp->Prop)->Prop
def PO(X:Cx)(e:Option Expr)(t:TO):Prop :=
 ∀ (pins:List (Addr×Obj)) (s:Shared) (σ:St) (H:Hp) (Q:Option Int->Hp->Prop),Inv X pins σ H s->t σ H Q ->
  wpAny (model X.prog X.w) X.A (evalPart e X.env) (fun u s'=>∃ o H',Inv X pins σ H' s'/\IsPart u o/\Q o H') X.xe s
def zD:TO:=fun _ H Q=>Q none H
def tPart(t:TE):TO:=fun σ H Q=>t σ H fun x H1=>∃ i,x = .int i/\Q (some i) H1
theorem cF{ns:List Int}:∀ {us:List Value},aw (ns.map V.int) us->IntsAre us ns:=by
 induction ns with
 | nil=>intro us r;rw [DS] at r;cases r;exact .nil
 | cons n ns ih =>
  intro us r;rw [Cq] at r
  cases r with
  | cons r1 r2 =>
   obtain ⟨t,e⟩:=r1;subst e;exact .cons n t (ih r2)
section
variable{X:Cx}{e:Expr}{te:TE}{lo hi:Option Expr}{tl th:TO}{pos p2:Pos}
theorem Aq:PO X none zD:=by
 intro pins s σ H Q I h;rw [evalPart_none];exact Ca ⟨none,H,I,.none,h⟩
theorem oW(h:PE X e te):PO X (some e) (tPart te):=by
 intro pins s σ H Q I hw;rw [evalPart_some]
 refine thn (h pins s σ H _ I hw) fun u s1 ⟨x,H1,I1,r1,q1⟩=> ?_
 obtain ⟨i,rfl,q⟩:=q1;obtain ⟨t,rfl⟩:=r1;exact ⟨some i,H1,I1,.int i t,q⟩
def SlR(X:Cx)(r:V->Option Int->Option Int->Hp->VK->Prop):Prop :=
 ∀ (pins:List (Addr×Obj)) (s:Shared) (σ:St) (H:Hp) (x:V) (v vl vu:Value) (lo hi:Option Int) (sl:Addr) (Q:VK),Inv X pins σ H s->aD x v->s.heap.IsSliceOf sl vl vu .none->IsPart vl lo->IsPart vu hi->r x lo hi H Q ->
  ∃ T id,typeLookup (.type T) "__getitem__" = pure (some (.builtin id))/\s.TypeIs v T/\wpAny (model X.prog X.w) X.A (getItem v (.ref sl)) (EP X pins σ Q) X.xe s
theorem SlR.or{r r':V->Option Int->Option Int->Hp->VK->Prop}(h:SlR X r)(h':SlR X r'):SlR X (fun x lo hi H Q=>r x lo hi H Q\/r' x lo hi H Q):=by
 intro pins s σ H x v vl vu lo hi sl Q I rx hs pl pu q
 rcases q with q | q
 ·exact h pins s σ H x v vl vu lo hi sl Q I rx hs pl pu q
 ·exact h' pins s σ H x v vl vu lo hi sl Q I rx hs pl pu q
def tSl(r:V->Option Int->Option Int->Hp->VK->Prop)(te:TE)(tl th:TO):TE:=fun σ H Q=>te σ H fun x H1=>tl σ H1 fun l H2=>th σ H2 fun u H3=>r x l u H3 Q
theorem qH{r:V->Option Int->Option Int->Hp->VK->Prop}(hr:SlR X r)(he:PE X e te)(hl:PO X lo tl)(hu:PO X hi th):PE X (.Subscript e (.Slice lo hi none p2) pos) (tSl r te tl th):=by
 intro pins s σ H Q I h;refine Subscript_ (thn (he pins s σ H _ I h) fun v s1 ⟨x,H1,I1,r1,q1⟩=> ?_);refine wpAny_Slice (thn (hl pins s1 σ H1 _ I1 q1) fun vl s2 ⟨l,H2,I2,pl,q2⟩=>thn (hu pins s2 σ H2 _ I2 q2) fun vu s3 ⟨u,H3,I3,pu,q3⟩=> ?_);rw [evalPart_none];refine Ca ?_
 have I4:Inv X pins σ H3 { s3 with heap:=s3.heap.push { cls:= .type "slice",data:= .fields #[vl,vu,.none] } }:=I3.kept (t':=s3.toks) fun b ob q=>B7 _ q
 obtain ⟨T,id,hT,ht,hg⟩:=hr pins { s3 with heap:=s3.heap.push { cls:= .type "slice",data:= .fields #[vl,vu,.none] } } σ H3 x v vl vu l u s3.heap.objs.size Q I4 r1 (Heap.IsSliceOf.new ..) pl pu q3
 show wpAny (model X.prog X.w) X.A (subscriptTail e (.Slice lo hi none p2) v (.ref s3.heap.objs.size)) (EP X pins σ Q) X.xe { s3 with heap:=s3.heap.push { cls:= .type "slice",data:= .fields #[vl,vu,.none] } }
 exact tail_any (ops:=[.ref s3.heap.objs.size,v]) ht hT hg (by with_unfolding_all rfl)
def mB(xs:List V)(lo hi:Option Int):List V:=(xs.drop (HT.sIx xs.length 0 lo)).take (HT.sIx xs.length xs.length hi - HT.sIx xs.length 0 lo)
theorem kj(xs:List V)(lo hi:Option Int):(mB xs lo hi).length<=xs.length:=by
 unfold mB;rw [DA,List.length_drop];omega
def rSlT(K:EG):V->Option Int->Option Int->Hp->VK->Prop:=fun x lo hi H Q=>∃ a xs,x = .ref a/\SqT K H a xs /\
 ¬ (HT.sIx xs.length 0 lo=0/\HT.sIx xs.length xs.length hi=xs.length)/\∀ p,H p=none->Q (.ref p) (upd H p (.tup (mB xs lo hi)))
theorem sl_tup:SlR X (rSlT X.K):=by
 intro pins s σ H x v vl vu lo hi sl Q I rx hs pl pu h;obtain ⟨a,xs,rfl,hx,hw,q⟩:=h;cases rx;obtain ⟨its,r,ht,hz⟩:=I.tuple hx
 have hlen:its.toArray.size=xs.length:=by rw [Cb];exact r.length.symm
 refine ⟨"tuple",_,PyProof.Rows.slot_tuple_getitem.lookup,ht.typeIs,?_⟩;refine HT.jk ht hs pl pu (by rw [hlen];exact hw) ?_ (by rw [hlen];exact hz);rw [hlen];refine ⟨.ref s.heap.objs.size,_,I.laid (t':=s.toks) (o:= .tup (mB xs lo hi)) (fun b ob q=>B7 _ q) (Ci _) ?_,rfl,q _ (I.hok.fresh (Ci _))⟩;exact ⟨Df (kj xs lo hi) hz,_,(r.drop (HT.sIx xs.length 0 lo)).take (HT.sIx xs.length xs.length hi - HT.sIx xs.length 0 lo),IsTup.new _ _⟩
def rCatT(K:EG):R2:=fun x y H Q=>∃ a b xs ys,x = .ref a/\y = .ref b/\SqT K H a xs/\SqT K H b ys/\xs≠[]/\xs.length+ys.length<=sizeLine /\
 (ys=[]->Q (.ref a) H)/\(ys≠[]->∀ p,H p=none->Q (.ref p) (upd H p (.tup (xs++ys))))
theorem aw.nil_iff{xs:List V}{us:List Value}(r:aw xs us):us=[]↔xs=[]:=by
 cases r with
 | nil=>simp
 | cons _ _=>simp
theorem AI:OpR X (binaryOp .Add) (rCatT X.K):=by
 intro pins s σ H x y v u Q I rx ry h;obtain ⟨a,b,xs,ys,rfl,rfl,ha,hb,hx,hz,q1,q2⟩:=h;cases rx;cases ry;obtain ⟨its,r1,p1,_⟩:=I.tuple ha;obtain ⟨its2,r2,p2,_⟩:=I.tuple hb;refine HT.Bf p1 p2 (fun z=>hx (r1.nil_iff.mp z)) (fun z=>⟨.ref a,H,I,rfl,q1 (r2.nil_iff.mp z)⟩) (fun z=> ?_) (by rw [<- r1.length,<- r2.length];exact hz);refine ⟨.ref s.heap.objs.size,_,I.laid (t':=s.toks) (o:= .tup (xs++ys)) (fun b ob q=>B7 _ q) (Ci _) ?_,rfl,q2 (fun w=>z (r2.nil_iff.mpr w)) _ (I.hok.fresh (Ci _))⟩;exact ⟨by rw [Ct];exact hz,_,r1.append r2,IsTup.new _ _⟩
end
def ixN(n:Nat)(i:Int):Option Nat:=if 0<=i then (if i < n then some i.toNat else none) else if -(n:Int)<=i then some (i+n).toNat else none
def atI{α:Type}(xs:List α)(i:Int):Option α:=(ixN xs.length i).bind fun j=>xs[j]?
theorem uC{n:Nat}{i:Int}{j:Nat}(h:ixN n i=some j):seqIndex? i n=some j/\j < n /\ -(n:Int)<=i/\i < n:=by
 unfold ixN at h
 by_cases h0:0<=i
 ·rw [if_pos h0] at h
  by_cases h1:i < n
  ·rw [if_pos h1] at h
   have e:i.toNat=j:=Option.some.inj h;exact ⟨by rw [seqIndex_of h0 h1,e],by omega,by omega,h1⟩
  ·rw [if_neg h1] at h;cases h
 ·rw [if_neg h0] at h
  by_cases h1 : -(n:Int)<=i
  ·rw [if_pos h1] at h
   have e:(i+n).toNat=j:=Option.some.inj h;exact ⟨by rw [seqIndex_neg (by omega) h1,e],by omega,h1,by omega⟩
  ·rw [if_neg h1] at h;cases h
theorem pS{α:Type}{xs:List α}{i:Int}{v:α}(h:atI xs i=some v):∃ j,seqIndex? i xs.length=some j/\xs[j]?=some v/\j < xs.length /\ -(xs.length:Int)<=i/\i < xs.length:=by
 unfold atI at h
 cases e:ixN xs.length i with
 | none=>rw [e] at h;cases h
 | some j =>
  rw [e] at h;obtain ⟨h1,h2,h3,h4⟩:=uC e;exact ⟨j,h1,h,h2,h3,h4⟩
theorem Bq{α:Type}{xs:List α}{j:Nat}{v:α}(h:xs[j]?=some v):atI xs (j:Int)=some v:=by
 have hj:j < xs.length:=(Cm.mp h).1
 have e:ixN xs.length (j:Int)=some j:=by
  unfold ixN;rw [if_pos (by omega),if_pos (by omega)];simp
 unfold atI;rw [e];exact h
def pW(b:Expr):Prop:=∀ o i,subscripted b false o i=operate [o,i] (getItem o i)
def IxR(X:Cx)(r:R2):Prop :=
 ∀ (value slice:Expr) (pins:List (Addr×Obj)) (s:Shared) (σ:St) (H:Hp) (x y:V) (v u:Value) (Q:VK),Inv X pins σ H s->aD x v->aD y u->r x y H Q ->
  subscripted slice false v u=operate [v,u] (getItem v u)->wpAny (model X.prog X.w) X.A (subscriptTail value slice v u) (EP X pins σ Q) X.xe s
def MtR(X:Cx)(id:String)(r:V->List V->Hp->VK->Prop):Prop :=
 ∀ (pins:List (Addr×Obj)) (s:Shared) (σ:St) (H:Hp) (x:V) (xs:List V) (v:Value) (us:List Value) (Q:VK),Inv X pins σ H s->aD x v->aw xs us->r x xs H Q ->
  wpAny (model X.prog X.w) X.A (call (.builtin id) (v::us)) (EP X pins σ Q) X.xe s
section
variable{X:Cx}{a b:Expr}{ta tb:TE}{pos:Pos}
theorem IxR.or{r r':R2}(h:IxR X r)(h':IxR X r'):IxR X (fun x y H Q=>r x y H Q\/r' x y H Q):=by
 intro value slice pins s σ H x y v u Q I rx ry q hs
 rcases q with q | q
 ·exact h value slice pins s σ H x y v u Q I rx ry q hs
 ·exact h' value slice pins s σ H x y v u Q I rx ry q hs
theorem BQ{r:R2}(hr:IxR X r)(ha:PE X a ta)(hb:PE X b tb)(hs:pW b):PE X (.Subscript a b pos) (tOp r ta tb):=by
 intro pins s σ H Q I h;exact Subscript_ (binT ha hb I h fun v u s2 x y H2 I2 rx ry q=>hr a b pins s2 σ H2 x y v u Q I2 rx ry q (hs _ _))
def rIxL(K:EG):R2:=fun x y H Q=>∃ p xs i v,x = .ref p/\y = .int i/\SqL K H p xs/\atI xs i=some v/\Q v H
def rIxT(K:EG):R2:=fun x y H Q=>∃ p xs i v,x = .ref p/\y = .int i/\SqT K H p xs/\atI xs i=some v/\Q v H
def rIxS:R2:=fun x y H Q=>∃ z i c,x = .str z/\y = .int i/\z.length<=sizeLine/\atI z.cps.toList i=some c/\Q (.str ⟨#[c]⟩) H
theorem uB:IxR X (rIxL X.K):=by
 intro value slice pins s σ H x y v u Q I rx ry h hs;obtain ⟨p,xs,i,z,rfl,rfl,hq,he,q⟩:=h;cases rx;obtain ⟨t,rfl⟩:=ry;obtain ⟨its,r,pl,hz⟩:=I.list hq;obtain ⟨j,h1,h2,h3,h4,h5⟩:=pS he;obtain ⟨w,ew,rw'⟩:=r.get h2;have hl:=r.length;have hn:=jM;have fin:EP X pins σ Q w s:=⟨z,H,I,rw',q⟩
 by_cases h0:0<=i
 ·have hj:i.toNat=j:=by
   rw [seqIndex_of h0 h5] at h1;exact Option.some.inj h1
  exact item_listR pl.isList h0 (by omega) (by rw [hj];simpa using ew) fin hs
 ·have hj:(i+(its.toArray.size:Int)).toNat=j:=by
   rw [seqIndex_neg (by omega) h4] at h1;rw [Cb,<- hl];exact Option.some.inj h1
  exact subscriptTail_builtinR (x:=w) pl.isList.typeIs slot_list_getitem.lookup
   (wpAny_getItem_list_neg (Q:=fun r s'=>r=w/\EP X pins σ Q r s') pl.isList (by omega) (by rw [Cb]<;>omega) (by omega) (by rw [hj];simpa using ew) ⟨rfl,fin⟩) hs
theorem ix_tup:IxR X (rIxT X.K):=by
 intro value slice pins s σ H x y v u Q I rx ry h hs;obtain ⟨p,xs,i,z,rfl,rfl,hq,he,q⟩:=h;cases rx;obtain ⟨t,rfl⟩:=ry;obtain ⟨its,r,pl,hz⟩:=I.tuple hq;obtain ⟨j,h1,h2,h3,h4,h5⟩:=pS he;obtain ⟨w,ew,rw'⟩:=r.get h2;have hl:=r.length;have hn:=jM;have fin:EP X pins σ Q w s:=⟨z,H,I,rw',q⟩
 exact subscriptTail_builtinR (x:=w) pl.typeIs slot_tuple_getitem.lookup
  (getItem_tuple (j:=j) (Q:=fun r s'=>r=w/\EP X pins σ Q r s') pl (by omega) (by omega) (by rw [Cb,<- hl];exact h1) (by simpa using ew) ⟨rfl,fin⟩) hs
theorem ix_str:IxR X rIxS:=by
 intro value slice pins s σ H x y v u Q I rx ry h hs;obtain ⟨z,i,c,rfl,rfl,hz,he,q⟩:=h;obtain ⟨t,rfl⟩:=rx;obtain ⟨t',rfl⟩:=ry;obtain ⟨j,h1,h2,h3,h4,h5⟩:=pS he
 have hl:z.cps.toList.length=z.length:=by simp [Str.length]
 rw [hl] at h1 h4 h5;have hn:=jM
 exact tail_any (typeIs_str s z t) slot_str_getitem.lookup (getItem_str (c:=c) (by
  have e1:decide (i < -(2 ^ 63:Int))=false:=CG (by omega);have e2:decide (i>=2 ^ 63)=false:=CG (by omega)
  rw [e1,e2,Ej]) (by rw [h1];simpa using h2) ⟨.str ⟨#[c]⟩,H,I.tok _,⟨_,rfl⟩,q⟩) hs
def rIx(K:EG):R2:=fun x y H Q=>rIxL K x y H Q\/rIxT K x y H Q\/rIxS x y H Q
theorem ix_seq:IxR X (rIx X.K):=uB.or (ix_tup.or ix_str)
theorem sS(its:List Value)(n j:Nat)(u:Value):Obj.mapSeq (·.setIfInBounds j u) { cls:= .type "list",data:= .seq its.toArray n }={ cls:= .type "list",data:= .seq (its.set j u).toArray n }:=by
 simp [Obj.mapSeq]
theorem Inv.lst{pins:List (Addr×Obj)}{σ:St}{H:Hp}{s:Shared}{p:Addr}{xs:List V}(I:Inv X pins σ H s)(h:H p=some (.lst xs)) :
 ∃ (its:List Value) (n:Nat),aw xs its/\s.heap.get? p=some { cls:= .type "list",data:= .seq its.toArray n }/\xs.length<=sizeLine:=by
 obtain ⟨z,its,n,r,e⟩:=I.hok p _ h;exact ⟨its,n,r,e,z⟩
theorem Inv.lstUpd{pins:List (Addr×Obj)}{σ:St}{H:Hp}{s:Shared}{p:Addr}{xs ys:List V}{its its':List Value}{n n':Nat}{f:Obj->Obj}(I:Inv X pins σ H s)(h:H p=some (.lst xs))
 (ho:s.heap.get? p=some { cls:= .type "list",data:= .seq its.toArray n }) (hf:f { cls:= .type "list",data:= .seq its.toArray n }={ cls:= .type "list",data:= .seq its'.toArray n' }) (r:aw ys its') (hz:ys.length<=sizeLine) (t:Nat) :
 Inv X pins σ (upd H p (.lst ys)) { s with heap:=s.heap.update p f,toks:=t }:=by
 have e:(s.heap.update p f).get? p=some { cls:= .type "list",data:= .seq its'.toArray n' }:=by
  rw [Dh f ho (by rw [hf]<;>rfl),hf]
 refine I.write (x:=p) (e:=p) (by rw [h];trivial) (.inl rfl) (fun b u hb q=>(DQ _ _ (Ne.symm hb)).trans q) ⟨_,e⟩ ?_;exact ⟨hz,its',n',r,e⟩
def BF:V->V->V->Hp->(Hp->Prop)->Prop:=fun o i v H Q=>∃ p xs k j,o = .ref p/\i = .int k/\H p=some (.lst xs)/\ixN xs.length k=some j/\Q (upd H p (.lst (xs.set j v)))
theorem lq:PSet X BF:=by
 intro pins s σ H o i v ov iv u Q I ro ri rv h;obtain ⟨p,xs,k,j,rfl,rfl,hp,hj,q⟩:=h;cases ro;obtain ⟨t,rfl⟩:=ri;obtain ⟨its,n,r,ho,hz⟩:=I.lst hp;obtain ⟨h1,h2,h3,h4⟩:=uC hj;have hl:=r.length;have hn:=jM
 have I':Inv X pins σ (upd H p (.lst (xs.set j v))) { s with heap:=s.heap.update p (Obj.mapSeq (·.setIfInBounds j u)) } :=
  I.lstUpd hp ho (sS its n j u) (r.set rv j) (by rw [Da];exact hz) s.toks
 by_cases h0:0<=k
 ·have hk:k.toNat=j:=by
   rw [seqIndex_of h0 h4] at h1;exact Option.some.inj h1
  exact PySem.W.ki_setAt ho h0 (by omega) (by rw [Cb,<- hl];exact h4) (by rw [hk];exact ⟨_,I',q⟩)
 ·have hk:(k+(its.toArray.size:Int)).toNat=j:=by
   rw [seqIndex_neg (by omega) h3] at h1;rw [Cb,<- hl];exact Option.some.inj h1
  exact PySem.W.ki_setBack ho (by omega) (by rw [Cb,<- hl];exact h3) (by omega) (by rw [hk];exact ⟨_,I',q⟩)
theorem oK(lo hi:Option Int)(n:Nat):(sliceBounds lo hi none n).1=((HT.sIx n 0 lo:Nat):Int)/\(sliceBounds lo hi none n).2.1=((HT.sIx n n hi:Nat):Int)/\(sliceBounds lo hi none n).2.2=1:=by
 refine ⟨?_,?_,rfl⟩
 ·cases lo with
  | none=>simp [sliceBounds,HT.sIx]
  | some i =>
   simp only [sliceBounds,HT.sIx,Option.getD_none,show (1:Int) > 0 by decide,if_true]
   by_cases h:i < 0
   ·simp only [h,if_true]<;>omega
   ·simp only [h,if_false]<;>omega
 ·cases hi with
  | none=>simp [sliceBounds,HT.sIx]
  | some i =>
   simp only [sliceBounds,HT.sIx,Option.getD_none,show (1:Int) > 0 by decide,if_true]
   by_cases h:i < 0
   ·simp only [h,if_true]<;>omega
   ·simp only [h,if_false]<;>omega
theorem mT(its:List Value)(lo hi:Option Int):slicePick its.toArray lo hi none=((its.drop (HT.sIx its.length 0 lo)).take (HT.sIx its.length its.length hi - HT.sIx its.length 0 lo)).toArray:=by
 obtain ⟨h1,h2,h3⟩:=oK lo hi its.toArray.size;unfold slicePick;rw [h1,h2,h3]
 simp only [sliceRange_one,pick_run,Cb]<;>rfl
def rSlL(K:EG):V->Option Int->Option Int->Hp->VK->Prop:=fun x lo hi H Q=>∃ a xs,x = .ref a/\SqL K H a xs/\∀ p,H p=none->Q (.ref p) (upd H p (.lst (mB xs lo hi)))
theorem zP:SlR X (rSlL X.K):=by
 intro pins s σ H x v vl vu lo hi sl Q I rx hs pl pu h;obtain ⟨a,xs,rfl,hx,q⟩:=h;cases rx;obtain ⟨its,r,ht,hz⟩:=I.list hx;have hlen:=r.length;refine ⟨"list",_,slot_list_getitem.lookup,ht.isList.typeIs,?_⟩;refine wpAny_getItem_list_slice ht.isList hs pl pu .none (by simp) ?_ (by rw [Cb]<;>omega);rw [mT,<- hlen];refine ⟨.ref s.heap.objs.size,_,I.laid (t':=s.toks) (o:= .lst (mB xs lo hi)) (fun b ob q=>B7 _ q) (Ci _) ?_,rfl,q _ (I.hok.fresh (Ci _))⟩;exact ⟨Df (kj xs lo hi) hz,_,0,(r.drop (HT.sIx xs.length 0 lo)).take (HT.sIx xs.length xs.length hi - HT.sIx xs.length 0 lo),Cd _ rfl⟩
def fO:V->Bool
 | .non=>true
 | .bl _=>true
 | .int _=>true
 | .str _=>true
 | _=>false
def eqV:V->V->Bool
 | .non,.non=>true
 | .bl a,.bl b=>a == b
 | .bl a,.int b=>(if a then 1 else 0) == b
 | .int a,.bl b=>a == (if b then 1 else 0)
 | .int a,.int b=>a == b
 | .str a,.str b=>a == b
 | _,_=>false
theorem eqAt_V{A:Around}{s:Shared}{y x:V}{u v:Value}(ry:aD y u)(rx:aD x v)(fy:fO y=true)(fx:fO x=true):SeqAt.EqAt A s u v (eqV y x):=by
 cases y with
 | non =>
  cases ry
  cases x with
  | non=>cases rx;exact SeqAt.EqAt.same _
  | bl b=>cases rx;exact SeqAt.EqAt.none_bool b
  | int b=>obtain ⟨t,rfl⟩:=rx;exact SeqAt.EqAt.none_int b t
  | str b=>obtain ⟨t,rfl⟩:=rx;exact SeqAt.EqAt.none_str b t
  | _=>exact absurd (show false=true from fx) Cj
 | bl a =>
  cases ry
  cases x with
  | non=>cases rx;exact SeqAt.EqAt.bool_none a
  | bl b=>cases rx;exact SeqAt.EqAt.bool_bool a b
  | int b=>obtain ⟨t,rfl⟩:=rx;exact SeqAt.EqAt.bool_int a b t
  | str b=>obtain ⟨t,rfl⟩:=rx;exact SeqAt.EqAt.bool_str a b t
  | _=>exact absurd (show false=true from fx) Cj
 | int a =>
  obtain ⟨t',rfl⟩:=ry
  cases x with
  | non=>cases rx;exact SeqAt.EqAt.int_none a t'
  | bl b=>cases rx;exact SeqAt.EqAt.int_bool a t' b
  | int b=>obtain ⟨t,rfl⟩:=rx;exact SeqAt.EqAt.int_int a t' b t
  | str b=>obtain ⟨t,rfl⟩:=rx;exact SeqAt.EqAt.int_str a t' b t
  | _=>exact absurd (show false=true from fx) Cj
 | str a =>
  obtain ⟨t',rfl⟩:=ry
  cases x with
  | non=>cases rx;exact SeqAt.EqAt.str_none a t'
  | bl b=>cases rx;exact SeqAt.EqAt.str_bool a t' b
  | int b=>obtain ⟨t,rfl⟩:=rx;exact SeqAt.EqAt.str_int a t' b t
  | str b=>obtain ⟨t,rfl⟩:=rx;exact SeqAt.EqAt.str_str a t' b t
  | _=>exact absurd (show false=true from fx) Cj
 | _=>exact absurd (show false=true from fy) Cj
def eqU(x:V)(u:Value):Bool:=match u with
 | .none=>eqV .non x
 | .bool b=>eqV (.bl b) x
 | .int i _=>eqV (.int i) x
 | .str z _=>eqV (.str z) x
 | _=>false
theorem tE{x y:V}{u:Value}(r:aD y u)(f:fO y=true):eqU x u=eqV y x:=by
 cases y with
 | non=>cases r;rfl
 | bl b=>cases r;rfl
 | int i=>obtain ⟨t,rfl⟩:=r;rfl
 | str z=>obtain ⟨t,rfl⟩:=r;rfl
 | _=>exact absurd (show false=true from f) Cj
theorem l9{A:Around}{s:Shared}{x:V}{v:Value}(rx:aD x v)(fx:fO x=true):∀ {xs:List V} {us:List Value},aw xs us->xs.all fO=true->∀ u∈us,SeqAt.EqAt A s u v (eqU x u)
 | _,_,.nil,_=>fun u hu=>by cases hu
 | y::xs,u::us,.cons r t,f=>fun u' hu=>by
  rw [List.all_cons,Cv] at f
  rcases List.mem_cons.mp hu with rfl | hu
  ·rw [tE r f.1];exact eqAt_V r rx f.1 fx
  ·exact l9 rx fx t f.2 u' hu
theorem pP:ax X (.builtin "len") (fun xs H Q=>∃ p ys,xs=[.ref p]/\(SqL X.K H p ys\/SqT X.K H p ys)/\Q (.int ys.length) H):=by
 intro pins s σ H xs us Q I r h;obtain ⟨p,ys,rfl,hq,q⟩:=h;obtain ⟨u,rfl,rx⟩:=bx r;cases rx;have hn:=jM
 rcases hq with hq | hq
 ·obtain ⟨its,r',pl,hz⟩:=I.list hq
  have hlen:=r'.length;exact Calls.call_len_list pl.isList (by simp only [Cb]<;>omega) ⟨.int ys.length,H,I.tok _,⟨s.toks+1,by rw [Cb,hlen]⟩,q⟩
 ·obtain ⟨its,r',pl,hz⟩:=I.tuple hq
  have hlen:=r'.length;exact len_tuple pl (by simp only [Cb]<;>omega) ⟨.int ys.length,H,I.tok _,⟨s.toks+1,by rw [Cb,hlen]⟩,q⟩
theorem ax.or{f:Value}{r r':List V->Hp->VK->Prop}(h:ax X f r)(h':ax X f r'):ax X f (fun xs H Q=>r xs H Q\/r' xs H Q):=by
 intro pins s σ H xs us Q I rs q
 rcases q with q | q
 ·exact h pins s σ H xs us Q I rs q
 ·exact h' pins s σ H xs us Q I rs q
theorem pO:ax X (.type "list") (fun xs H Q=>∃ p ys,xs=[.ref p]/\(SqL X.K H p ys\/SqT X.K H p ys)/\∀ l,H l=none->Q (.ref l) (upd H l (.lst ys))):=by
 intro pins s σ H xs us Q I r h;obtain ⟨p,ys,rfl,hq,q⟩:=h;obtain ⟨u,rfl,rx⟩:=bx r;cases rx
 have fin:∀ (its:List Value),aw ys its->ys.length<=sizeLine->∀ (h':Heap) (c':Nat),(∀ b o',s.heap.get? b=some o'->h'.get? b=some o') ->
  h'.get? s.heap.objs.size=some { cls:= .type "list",dict:=none,data:= .seq its.toArray c',slots := #[] }->EP X pins σ Q (.ref s.heap.objs.size) { s with heap:=h' }:=fun its r' hz h' c' kp e =>
  ⟨.ref s.heap.objs.size,_,I.laid (t':=s.toks) kp (Ci _) (show bn X.prog X.w _ h' _ (.lst ys) from ⟨hz,its,c',r',e⟩),rfl,q _ (I.hok.fresh (Ci _))⟩
 rcases hq with hq | hq
 ·obtain ⟨its,r',pl,hz⟩:=I.list hq
  have hlen:=r'.length;obtain ⟨o,ho,hc,n,hd⟩:=pl.isList;exact call_list_seq p (.inl rfl) ho hc hd (fun h' c' kp e=>fin its r' hz h' c' kp e) (by simp only [Cb]<;>omega)
 ·obtain ⟨its,r',pl,hz⟩:=I.tuple hq
  have hlen:=r'.length;obtain ⟨o,ho,hc,n,hd⟩:=pl;exact call_list_seq p (.inr rfl) ho hc hd (fun h' c' kp e=>fin its r' hz h' c' kp e) (by simp only [Cb]<;>omega)
theorem nr:ax X (.type "tuple") (fun xs H Q=>∃ p ys,xs=[.ref p]/\((SqL X.K H p ys/\∀ l,H l=none->Q (.ref l) (upd H l (.tup ys)))\/(SqT X.K H p ys/\Q (.ref p) H))):=by
 intro pins s σ H xs us Q I r h;obtain ⟨p,ys,rfl,h⟩:=h;obtain ⟨u,rfl,rx⟩:=bx r;cases rx
 rcases h with ⟨hq,q⟩ | ⟨hq,q⟩
 ·obtain ⟨its,r',pl,hz⟩:=I.list hq
  have hlen:=r'.length;refine call_tuple_list pl.isList (fun h' kp=> ?_) (by simp only [Cb]<;>omega);have I1:Inv X pins σ H { s with heap:=h' }:=I.kept (t':=s.toks) kp
  have I2:Inv X pins σ (upd H h'.objs.size (.tup ys)) { s with heap:=h'.push { cls:= .type "tuple",data:= .seq its.toArray } } :=
   I1.laid (t':=s.toks) (fun b o e=>B7 _ e) (Ci _) (show bn X.prog X.w _ _ _ (.tup ys) from ⟨hz,its,r',IsTup.new _ _⟩)
  exact ⟨.ref h'.objs.size,_,I2,rfl,q _ (I1.hok.fresh (Ci _))⟩
 ·obtain ⟨its,r',pl,hz⟩:=I.tuple hq
  exact call_tuple_same pl ⟨.ref p,H,I,rfl,q⟩
def tyV(K:EG)(T:String)(x:V)(H:Hp):Prop:=match x with
 | .str _=>T = "str"
 | .int _=>T = "int"
 | .ref p=>(T = "list" /\ ∃ xs,SqL K H p xs)\/(T = "tuple" /\ ∃ o,K.lookup p=some o/\o.cls = .type "tuple" /\ o.dict=none) \/
  (T = "dict" /\ ((∃ kvs,H p=some (.dK kvs))\/∃ kvs,H p=some (.dT kvs)))\/(T = "set" /\ ∃ S n,H p=some (.set S n))
 | _=>False
theorem tyV_is{pins:List (Addr×Obj)}{σ:St}{H:Hp}{s:Shared}{T:String}{x:V}{v:Value}(I:Inv X pins σ H s)(r:aD x v)(ty:tyV X.K T x H) :
 s.TypeIs v T/\∀ a,v = .ref a->∃ ob,s.heap.get? a=some ob/\ob.dict=none:=by
 cases x with
 | str z =>
  obtain ⟨t,rfl⟩:=r;cases (show T = "str" from ty);exact ⟨typeIs_str s z t,fun _ e=>nomatch e⟩
 | int i =>
  obtain ⟨t,rfl⟩:=r;cases (show T = "int" from ty);exact ⟨typeIs_int s i t,fun _ e=>nomatch e⟩
 | ref p =>
  cases r
  rcases ty with ⟨rfl,xs,hq⟩ | ⟨rfl,o,hk,hc,hd⟩ | ⟨rfl,hk⟩ | ⟨rfl,S,n,hk⟩
  ·obtain ⟨its,_,pl,_⟩:=I.list hq
   refine ⟨pl.isList.typeIs,fun a e=> ?_⟩;cases e;obtain ⟨o,n,e,c,hd,_⟩:=pl;exact ⟨o,e,hd⟩
  ·refine ⟨⟨o,I.kIn p o hk,hc⟩,fun a e=> ?_⟩
   cases e;exact ⟨o,I.kIn _ o hk,hd⟩
  ·have z:∃ o,s.heap.get? p=some o/\o.ExactDict:=by
    rcases hk with ⟨kvs,hk⟩ | ⟨kvs,hk⟩
    ·obtain ⟨_,_,_,_,o,_,_,e,ex,_⟩:=I.hok p _ hk
     exact ⟨o,e,ex⟩
    ·obtain ⟨_,_,_,_,o,_,_,e,ex,_⟩:=I.hok p _ hk
     exact ⟨o,e,ex⟩
   obtain ⟨o,e,ex⟩:=z;refine ⟨⟨o,e,ex.1⟩,fun a e2=> ?_⟩;cases e2;exact ⟨o,e,ex.2.1⟩
  ·obtain ⟨o,_,_,_,e,ex,_⟩:=I.hok p _ hk
   refine ⟨⟨o,e,ex.1⟩,fun a e2=> ?_⟩;cases e2;exact ⟨o,e,ex.2.1⟩
 | _=>exact False.elim ty
def tBM(K:EG)(T:String)(r:V->List V->Hp->VK->Prop)(to:TE)(t:TA):TE:=fun σ H Q=>to σ H fun x H1=>tyV K T x H1/\t σ H1 fun xs H2=>r x xs H2 Q
variable{o e:Expr}{es:List Expr}{to:TE}{t:TA}{name:Str}{apos cpos:Pos}{T id:String}{r:V->List V->Hp->VK->Prop}
theorem ur(pa:PlainAttrs T)(slot:Slot T name id)(hty:typeOf (.builtin id)=pure (.type "method_descriptor"))(hm:MtR X id r)(ho:PE X o to)(ha:PA X (e::es) t)
 (hbase:attributeBase o name X.env (eval o X.env)=eval o X.env:=by rfl)
 (hfew:((backTo cpos (starEach (e::es) X.env)).all (fun x => !x.1)&&(backToKw cpos (keywordEach [] X.env)).all (fun x=>x.1.isSome)
   && decide ((e::es).length+([]:List Keyword).length+(if ([]:List Keyword).isEmpty then 0 else 1) < 30))=true:=by rfl)
 (hline:(apos.endLine == cpos.line)=true:=by rfl) (hs:starEach (e::es) X.env=(false,eval e X.env)::starEach es X.env:=by rfl) (hplain:(backTo cpos (starEach es X.env)).any (·.1)=false:=by rfl) :
 PE X (.Call (.Attribute o name apos) (e::es) [] cpos) (tBM X.K T r to t):=by
 intro pins s σ H Q I h;refine wpAny_Call_method_late hbase hfew hline rfl (thn (ho pins s σ H _ I h) fun v s1 ⟨x,H1,I1,r1,ty,q1⟩=> ?_);obtain ⟨h1,h2⟩:=tyV_is I1 r1 ty;refine ⟨T,id,pa,slot,hty,h1,h2,?_⟩;have hA:=ha cpos pins s1 σ H1 _ I1 q1;rw [hs] at hA ⊢;refine Calls.callWith_builtin (by show (false||(backTo cpos (starEach es X.env)).any (·.1))=false;rw [hplain]<;>rfl) (Calls.evalArgs_plain ?_)
 exact thn hA fun us s2 ⟨vs,H2,I2,r2,q2⟩=>hm pins s2 σ H2 x vs v us Q I2 r1 r2 q2
end
def MtM(X:Cx)(id:String)(r:V->List V->Hp->VK->Prop):Prop :=
 ∀ (pins:List (Addr×Obj)) (s:Shared) (σ:St) (H:Hp) (x:V) (xs:List V) (v:Value) (us:List Value) (Q:VK),Inv X pins σ H s->aD x v->aw xs us->r x xs H Q ->
  wpAny (model X.prog X.w) X.A (call (.builtin id) (v::us)) (EP X pins σ Q) X.xe s
theorem aw.one:∀ {x:V} {us:List Value},aw [x] us->∃ u,us=[u]/\aD x u
 | _,_,.cons r .nil=>⟨_,rfl,r⟩
theorem aw.rep{xs:List V}{us:List Value}(h:aw xs us):∀ k:Nat,aw (List.replicate k xs).flatten (List.replicate k us).flatten
 | 0=> .nil
 | k+1=>by
  rw [De,De,DU,DU];exact aw.append h (aw.rep h k)
theorem gY(its:List Value):∀ (k:Nat) (acc:List Value),
 List.foldl (fun x1 x2=>x1++x2) acc.toArray (List.replicate k its.toArray)=(acc++(List.replicate k its).flatten).toArray
 | 0,acc=>by simp
 | k+1,acc=>by
  have e:acc.toArray++its.toArray=(acc++its).toArray:=by simp
  have e2:(acc++its)++(List.replicate k its).flatten=acc++(List.replicate (k+1) its).flatten:=by
   rw [De,DU,DH]
  rw [<- e2,<- gY its k (acc++its),<- e,De,List.foldl_cons]
section
variable{X:Cx}{pins:List (Addr×Obj)}{σ:St}{H:Hp}{s:Shared}{l b:Addr}{xs ys zs:List V}
theorem Inv.lset{its its':List Value}{n:Nat}{f:Array Value->Array Value}{t':Nat}(I:Inv X pins σ H s)(hH:H l=some (.lst xs))
 (e:s.heap.get? l=some { cls:= .type "list",data:= .seq its.toArray n }) (hf:f its.toArray=its'.toArray) (hv:aw ys its') (hz:ys.length<=sizeLine) :
 Inv X pins σ (upd H l (.lst ys)) { s with heap:=s.heap.update l (Obj.mapSeq f),toks:=t' }:=by
 have q:=PySem.IsL.update e f;rw [hf] at q;refine I.write (x:=l) (e:=l) (by rw [hH];exact trivial) (.inl rfl) (fun b' u hb hu=>(DQ s.heap (Obj.mapSeq f) (Ne.symm hb)).trans hu) ⟨_,q⟩ ?_;exact ⟨hz,its',_,hv,q⟩
theorem Inv.lnew{its:List Value}{t':Nat}(I:Inv X pins σ H s)(hv:aw ys its)(hz:ys.length<=sizeLine) :
 Inv X pins σ (upd H s.heap.objs.size (.lst ys)) { s with heap:=s.heap.push { cls:= .type "list",data:= .seq its.toArray },toks:=t' } :=
 I.laid (fun _ _ q=>B7 _ q) (Ci _) ⟨hz,its,0,hv,Cd _ rfl⟩
theorem Inv.fresh(I:Inv X pins σ H s):H s.heap.objs.size=none:=I.hok.fresh (Ci _)
theorem Inv.lstM(I:Inv X pins σ H s)(hH:H l=some (.lst xs)):xs.length<=sizeLine/\∃ (its:List Value) (n:Nat),aw xs its/\xs.length=its.length/\s.heap.get? l=some { cls:= .type "list",data:= .seq its.toArray n }:=by
 obtain ⟨z,its,n,r,e⟩:=I.hok l _ hH;exact ⟨z,its,n,r,r.length,e⟩
theorem l7{n:Nat}(h:n<=sizeLine):Builtin.List.listTooLong n=false:=by
 unfold Builtin.List.listTooLong;exact CG (by omega)
end
section
variable{X:Cx}
def uj:V->List V->Hp->VK->Prop:=fun x vs H Q=>∃ l xs y,x = .ref l/\vs=[y]/\H l=some (.lst xs)/\xs.length < sizeLine/\Q .non (upd H l (.lst (xs++[y])))
theorem nW:MtM X "list.append" uj:=by
 intro pins s σ H x vs v us Q I rx rv h;obtain ⟨l,xs,y,rfl,rfl,hH,hz,q⟩:=h;cases rx;obtain ⟨u,rfl,ru⟩:=rv.one;obtain ⟨z,its,n,r,hl,e⟩:=I.lstM hH;refine call_meets F.slot_list_append ⟨_,e,rfl⟩ F.entry_list_append (F.args_list_append_2 _ _) (PySem.list_append l its.toArray n u (by rw [Cb];omega)) ⟨e,?_⟩;refine ⟨.non,_,I.lset (its':=its++[u]) hH e (by simp) (r.append (.cons ru .nil)) ?_,rfl,q⟩;rw [Ct,List.length_singleton];omega
def ui:V->List V->Hp->VK->Prop:=fun x vs H Q=>∃ l b xs zs,x = .ref l/\vs=[.ref b]/\H l=some (.lst xs)/\H b=some (.lst zs)/\xs.length+zs.length<=sizeLine/\Q .non (upd H l (.lst (xs++zs)))
theorem vz:MtM X "list.extend" ui:=by
 intro pins s σ H x vs v us Q I rx rv h;obtain ⟨l,b,xs,zs,rfl,rfl,hH,hB,hz,q⟩:=h;cases rx;obtain ⟨u,rfl,ru⟩:=rv.one;cases ru;obtain ⟨z,its,n,r,hl,e⟩:=I.lstM hH;obtain ⟨z2,its2,n2,r2,hl2,e2⟩:=I.lstM hB
 have hsz:its.toArray.size+its2.toArray.size<=sizeLine:=by rw [Cb,Cb];omega
 have hlong:¬ (!its.toArray.isEmpty&&Builtin.List.listTooLong (its.toArray.size+its2.toArray.size))=true:=by
  rw [l7 hsz,Dq];exact Cj
 refine call_meets F.slot_list_extend ⟨_,e,rfl⟩ F.entry_list_extend (F.args_list_extend_2 _ _)
  (AutoSeq1.list_extend_list_list_0 l its.toArray n b its2.toArray n2 hlong (by rw [Cb];omega) (by omega)) ⟨e,e2,?_⟩
 refine ⟨.non,_,I.lset (its':=its++its2) hH e (by simp) (r.append r2) ?_,rfl,q⟩;rw [Ct];omega
def rCat:R2:=fun x y H Q=>∃ l b xs zs,x = .ref l/\y = .ref b/\H l=some (.lst xs)/\H b=some (.lst zs)/\xs.length+zs.length<=sizeLine/\∀ p,H p=none->Q (.ref p) (upd H p (.lst (xs++zs)))
theorem xO:OpR X (binaryOp .Add) rCat:=by
 intro pins s σ H x y v u Q I rx ry h;obtain ⟨l,b,xs,zs,rfl,rfl,hH,hB,hz,q⟩:=h;cases rx;cases ry;obtain ⟨z,its,n,r,hl,e⟩:=I.lstM hH;obtain ⟨z2,its2,n2,r2,hl2,e2⟩:=I.lstM hB;refine PySem.P.add_list e e2 ?_ (by rw [Cb,Cb];omega)
 have ea:its.toArray++its2.toArray=(its++its2).toArray:=by simp
 rw [ea];exact ⟨.ref _,_,I.lnew (t':=s.toks) (r.append r2) (by rw [Ct];omega),rfl,q _ I.fresh⟩
def Aj:R2:=fun x y H Q=>∃ l k xs,x = .ref l/\y = .int k/\H l=some (.lst xs) /\ -(2 ^ 63)<=k/\k < 2 ^ 63/\xs.length * k.toNat<=sizeLine /\
 ∀ p,H p=none->Q (.ref p) (upd H p (.lst (List.replicate k.toNat xs).flatten))
theorem pw{α:Type}(xs:List α)(k:Nat):(List.replicate k xs).flatten.length=k * xs.length:=by
 induction k with
 | zero=>simp
 | succ k ih=>rw [De,DU,Ct,ih,Nat.succ_mul,Nat.add_comm]
theorem op_rep:OpR X (binaryOp .Mult) Aj:=by
 intro pins s σ H x y v u Q I rx ry h;obtain ⟨l,k,xs,rfl,rfl,hH,h1,h2,hz,q⟩:=h;cases rx;obtain ⟨t,rfl⟩:=ry;obtain ⟨z,its,n,r,hl,e⟩:=I.lstM hH
 have hlen:its.toArray.size * k.toNat<=sizeLine:=by rw [Cb,<- hl];exact hz
 have hcap:¬ its.toArray.size * k.toNat > (2 ^ 63 - 1) / 8:=by
  have:(sizeLine:Nat)<=(2 ^ 63 - 1) / 8:=by decide
  omega
 have hfit:¬ (!Builtin.List.listFitsIndex k)=true:=by
  rw [fitsIndex_both h1 h2];exact Cj
 have hlong:¬ Builtin.List.listTooLong (its.toArray.size * k.toNat)=true:=by
  rw [l7 hlen];exact Cj
 have hnew:List.foldl (fun x1 x2=>x1++x2) #[] (List.replicate (if its.toArray.isEmpty=true then 0 else k.toNat) its.toArray)=(List.replicate k.toNat its).flatten.toArray:=by
  have f0:∀ m:Nat,List.foldl (fun x1 x2=>x1++x2) #[] (List.replicate m its.toArray)=(List.replicate m its).flatten.toArray:=fun m=>by
   have:=gY its m [];rw [CT] at this;exact this
  rw [f0]
  cases its with
  | nil=>simp
  | cons a r'=>rw [if_neg (by simp)]
 refine wpAny_binaryOp_repeat_ref (T := "list") (U := "int") (by decide) ⟨_,e,rfl⟩ (fun s'=>typeIs_int s' k t) noFill_list_mul F.fills_int_mul F.slot_int_rmul repeat_list F.slot_int_index.lookup
  (call_meets F.slot_int_rmul (typeIs_int s k t) F.entry_int_rmul (F.args_int_rmul_2 _ _) (int___rmul___int_list k t l its.toArray n)
    ⟨e,rfl,⟨_,e,rfl⟩,call_meets F.slot_list_mul ⟨_,e,rfl⟩ F.entry_list_mul (F.args_list_mul_2 _ _) (AutoListH.list___mul___list_int_3 l its.toArray n k t hfit hcap hlong) ⟨e,?_⟩⟩)
 rw [hnew];exact ⟨.ref _,_,I.lnew (t':=s.toks) (r.rep k.toNat) (by rw [pw,Nat.mul_comm];exact hz),rfl,q _ I.fresh⟩
end
section
variable{prog:Program}{w:World}{A:Around}{E:Value->Shared->Prop}{s:Shared}
end
section
variable{X:Cx}
end
end L2
namespace Att
open PySem PySem.W PySem.Calls PyProof.Rows
theorem kM{P:Params}{h:Heap}:∀ (ns:List Int) (vs:List Value),WellAll P h vs (ns.map WData.int)->IntsAre vs ns:=by
 intro ns
 induction ns with
 | nil =>
  intro vs w;rw [DS] at w;cases w;exact .nil
 | cons n ns ih =>
  intro vs w;rw [Cq] at w
  cases w with
  | cons a b =>
   cases a;exact .cons _ _ (ih _ b)
theorem u6{l:OpenLaw}{n:Nat}(hn:l.most=some n){P:Params}{h:Heap}{args:List WData}{vals:List Value}
 (hpre:l.row.toRowW.claim.pre args=true) (hwl:WellAll P h vals args) :
 ∃ a vs ns,vals=[Value.ref a]/\args=[WData.list (ns.map WData.int)]/\h.get? a=some { cls:= .type "list",data:= .seq vs.toArray }/\IntsAre vs ns/\ns.length<=n:=by
 have hsh:WShape.hasAll [] args [.list .int]=true:=(pre_splitW hpre).1;have hc:l.pre.holds [] { args:=args }=true:=(pre_splitW hpre).2;obtain ⟨d,r,rfl,h1,h2⟩:=hasAllW_cons hsh;obtain rfl:=hasAllW_nil h2;obtain ⟨xs,rfl,h3⟩:=hasW_list h1;obtain ⟨ns,rfl⟩:=items_int h3
 have hlen:ns.length<=n:=by
  unfold OpenLaw.pre at hc
  have h4:(WTm.not (.lt (.lit (.int (n:Int))) (.len (.arg 0)))).holds [] { args:=[.list (ns.map .int)] }=true:=by
   have h4:=(holds_andW hc).1;rw [hn] at h4;exact h4
  have h5:=condW_of h4 (w_not (w_lt w_lit (w_len_list (w_arg rfl))));rw [B9] at h5
  refine Nat.le_of_not_lt fun q=> ?_
  have q':(n:Int) < ((ns.length:Nat):Int):=by omega
  first
   | (rw [Cr q'] at h5;exact absurd h5 (by decide))
   | (simp at h5;omega)
 cases hwl with
 | cons w1 w2 =>
  cases w2
  cases w1 with
  | list ho hall=>exact ⟨_,_,ns,rfl,rfl,ho,kM ns _ hall,hlen⟩
theorem vj(l:OpenLaw)(args:List WData):l.row.toRowW.claim.post args (.bool true) args=true :=
 postW_of (r:=l.row.toRowW) (X:=(true == true))
  (show WShape.has [] (.bool true) .bool=true by first | rfl | decide | simp [WShape.has,WShape.arms,WShape.armsAll])
  (show (WTm.eq .res (.lit (.bool true))).value [] { args:=args,res:=some (.bool true),after:=args }=some (.bool (true == true)) from w_eq_bool (w_res rfl) w_lit) rfl
theorem rP{l:OpenLaw}{n:Nat}{q:Program}{loose:List Str}{XP:(Str->Option Value)->Heap->Prop}{YP:World->Heap->Prop}{d:DefRec}
 (hn:l.most=some n) (hdf:d.params.defaults=[])
 (call:∀ (w:World) (s₀ s₁:Shared) (mg mb:Str->Option Value) (fa:Addr) (o:Obj) (pm cd doc:Value) (a:Addr) (vs:List Value) (ns:List Int),
   Ground q loose [] XP w s₀ mg mb s₁.heap->YP w s₁.heap ->
   s₁.heap.get? fa=some o->o.data = .func (docDef d.name d.params d.body d.scope pm cd doc)->s₁.heap.CodeRec cd d.name->mg d.name=some (.ref fa) ->
   s₁.heap.get? a=some { cls:= .type "list",data:= .seq vs.toArray }->IntsAre vs ns->ns.length<=n->s₁.gens = #[] ->
   codeAny (model l.prog w) callerA (.call (.ref fa) ⟨[.ref a],[]⟩) (fun r s'=>r = .ok (.ret (.bool true))/\OldK s₁.heap s'.heap/\s'.os=s₁.os/\AllBare s'.gens) s₁) :
 WalkO q loose XP YP l.row.toRowW d [] (fun f vs=>PySem.call f vs):=by
 intro w s₀ s₁ mg mb G Y fa o pm cd doc dV kV ho hd hcd hD hmg hg args vals as hpre hlay hrd hwl hlo;obtain rfl:dV = .none:=Dflts.none hD hdf;obtain rfl:kV = .none:=Dflts.noKw hD;obtain ⟨a,vs,ns,rfl,rfl,hobj,hints,hlen⟩:=u6 hn hpre hwl;refine enter_call (codeAny_mono (call w s₀ s₁ mg mb fa o pm cd doc a vs ns G Y ho (fd_plain hd) hcd hmg hobj hints hlen hg) fun r s' hq=> ?_);obtain ⟨rfl,h2,h3,h4⟩:=hq;exact ⟨.inl ⟨.bool true,.bool true,[],rfl,fun _=>rfl,.bool true,vj l _,fun _=>⟨List.Pairwise.nil,fun _ hm=>(nomatch hm)⟩⟩,h2,h3,h4⟩
section
variable{prog:Program}{w:World}{A:Around}{E:Value->Shared->Prop}{s:Shared}{K:Frag}
end
end Att
namespace L2
open PySem PySem.Spec PyProof.Rows
theorem nF:∀ {vs:List Value} {ns:List Int},IntsAre vs ns->aw (ns.map V.int) vs
 | _,_,.nil=> .nil
 | _,_,.cons n t h=> .cons ⟨t,rfl⟩ (nF h)
def Only(H:Hp):Prop:=∀ b,H b=none\/∃ o xs,H b=some (.frz o (.lst xs))
theorem x9{P:Program}{w:World}{K:EG}{mg mb:Str->Option Value}{CX:CXT}{k:Nat}{fa a:Addr}{fd:FuncData}{x:Str}{sp:Sp}{s₁:Shared}{vs:List Value}{ns:List Int}
 (KX:K.In s₁.heap) (hns:s₁.heap.Ns mainGlobals mg) (hb:s₁.heap.Ns builtinsNs mb) (hbb:∀ x:Str,x ≠ "__name__" -> mb x=bootBuiltins x) (hlim:s₁.heap.NoLimit) (hg:s₁.gens = #[])
 (ha:s₁.heap.get? a=some { cls:= .type "list",data:= .seq vs.toArray }) (hi:IntsAre vs ns) (hl:ns.length<=sizeLine) (hr:cf k callerA)
 (F:∀ base:Heap,K.In base->base.Ns mainGlobals mg->mQ P w K mg base CX k fa fd [x] sp) (hbind:∀ (s:Shared) (u:Value),BindsTo s fd ⟨[u],[]⟩ [(x,u)])
 (hsp:∀ H:Hp,Only H->SqL K H a (ns.map V.int)->sp [.ref a] H (fun v _=>v = .bl true) fun _ _ _=>False)
 (hCX:∀ H e s',CX [] H s₁ (fun _ _ _=>False) e s'->False) :
 codeAny (model P w) callerA (.call (.ref fa) ⟨[.ref a],[]⟩) (fun r s'=>r = .ok (.ret (.bool true))/\OldK s₁.heap s'.heap/\s'.os=s₁.os/\AllBare s'.gens) s₁:=by
 have rv:=nF hi;have lenV:=hi.length
 have core:∀ H:Hp,Only H->SqL K H a (ns.map V.int)->HOk P w H s₁.heap->(∀ b,H b≠none->b=a)->(H a≠none->K.lookup a=none) ->
  codeAny (model P w) callerA (.call (.ref fa) ⟨[.ref a],[]⟩) (fun r s'=>r = .ok (.ret (.bool true))/\OldK s₁.heap s'.heap/\s'.os=s₁.os/\AllBare s'.gens) s₁:=by
  intro H hO hS hok hA hK
  have base_of:∀ {b:Addr} {o:Obj},s₁.heap.get? b=some o->H b=none->(pz s₁.heap H).get? b=some o:=fun e n=>yl e n
  have noA:∀ {b:Addr} {o:Obj} {es:Array DictEntry} {ep:Nat},s₁.heap.get? b=some o->o.data = .dict es ep->H b=none:=fun {b o es ep} e d=>by
   cases q:H b with
   | none=>rfl
   | some u =>
    have e':b=a:=hA b (by rw [q];simp);subst e';rw [ha] at e;cases e;have d':Data.seq vs.toArray _=Data.dict es ep:=d;cases d'
  have nsK:∀ {b:Addr} {m:Str->Option Value},s₁.heap.Ns b m->(pz s₁.heap H).Ns b m:=fun {b m} ⟨o,es,ep,e,d,r⟩=>⟨o,es,ep,base_of e (noA e d),d,r⟩
  have hKb:K.In (pz s₁.heap H):=fun b o e=>base_of (KX b o e) (by
   cases q:H b with
   | none=>rfl
   | some u =>
    have e':b=a:=hA b (by rw [q];simp);subst e'
    rw [hK (by rw [q];simp)] at e;cases e)
  have hM:Mod K mg (pz s₁.heap H):=⟨hKb,nsK hns,⟨mb,nsK hb,hbb⟩,let ⟨mc,h1,h2⟩:=hlim;⟨mc,nsK h1,h2⟩⟩;have e0:wu P w K mg (pz s₁.heap H) callerA [] s₁ H:=⟨rfl,hM,fun b o e=>AN e,Nat.le_of_eq (vI _ _),trivial,fun b hb=>absurd (show b∈([]:List Addr) from hb) (by simp),hok,.of_eq hg⟩
  refine codeAny_mono ((F _ hKb (nsK hns)).run callerA [] s₁ H ⟨[.ref a],[]⟩ [.ref a] [.ref a] _ _ hr e0 (hbind s₁ (.ref a)) (.cons rfl .nil) (hsp H hO hS)) fun r s' h=> ?_
  cases r with
  | error e=>exact (hCX H e s' h).elim
  | ok fl =>
   cases fl with
   | next=>exact False.elim h
   | brk=>exact False.elim h
   | cont=>exact False.elim h
   | ret u =>
    obtain ⟨v,H',os,bare,un,hok',r',q⟩:=h;have q':v = .bl true:=q;subst q';obtain rfl:u=Value.bool true:=r';refine ⟨rfl,OldK.of_keep fun b o e=> ?_,os,bare⟩
    cases q:H b with
    | none=>exact un.keep b o e q (by intro z;exact absurd (show b∈([]:List Addr) from z) (by simp)) (by simp)
    | some u =>
     rcases hO b with z | ⟨ob,xs,z⟩
     ·rw [q] at z;cases z
     ·have z2:=un.frzs b ob _ z
      obtain ⟨e1,_⟩:=hok b _ z;obtain ⟨e2,_⟩:=hok' b _ z2;rw [e] at e1;cases e1;exact e2
 cases hk:K.lookup a with
 | some o =>
  have e:=KX a o hk;rw [ha] at e;cases e
  refine core (fun _=>none) (fun _=> .inl rfl) (.inr ⟨_,vs.toArray,_,hk,rfl,rfl,rfl,by rw [Cb,lenV];exact hl,by simpa using rv⟩) (fun b u z=>by have z':(none:Option HO)=some u:=z;cases z') (fun b z=>absurd rfl z) fun z=>absurd rfl z
 | none =>
  refine core (fun b=>if b=a then some (.frz { cls:= .type "list",data:= .seq vs.toArray } (.lst (ns.map V.int))) else none) (fun b=> ?_) (.inl (.inr ⟨{ cls:= .type "list",data:= .seq vs.toArray },if_pos rfl⟩)) (fun b u z=> ?_) (fun b z=> ?_) fun _=>hk
  ·by_cases hb:b=a
   ·exact .inr ⟨_,_,if_pos hb⟩
   ·exact .inl (if_neg hb)
  ·by_cases hb:b=a
   ·have z':=(if_pos hb).symm.trans z
    cases z';subst hb;exact ⟨ha,by rw [B9];exact hl,vs,_,rv,ha⟩
   ·have z':=(if_neg hb).symm.trans z
    cases z'
  ·by_cases hb:b=a
   ·exact hb
   ·exact absurd (if_neg hb) z
abbrev KOf{K:EG}{h:Heap}(_:K.In h):EG:=K
theorem zk{l:PySem.W.OpenLaw}{n k:Nat}{q:Program}{loose:List Str}{XP:(Str->Option Value)->Heap->Prop}{YP:World->Heap->Prop}{d:DefRec}{K:Params->EG}{CX:World->CXT}{sp:World->Sp}{x:Str}
 (hn:l.most=some n) (hn2:n<=sizeLine) (hdf:d.params.defaults=[]) (hr:cf k callerA)
 (hY:∀ (w:World) (h:Heap),YP w h->(K w.params).In h)
 (F:∀ (w:World) (mg:Str->Option Value) (fa:Addr) (h:Heap),(K w.params).In h->h.Ns mainGlobals mg->mg d.name=some (.ref fa) ->
   ∃ fd:FuncData,(∀ (s:Shared) (u:Value),BindsTo s fd ⟨[u],[]⟩ [(x,u)]) /\
    ∀ base:Heap,(K w.params).In base->base.Ns mainGlobals mg->mQ l.prog w (K w.params) mg base (CX w) k fa fd [x] (sp w))
 (hsp:∀ (w:World) (H:Hp) (a:Addr) (ns:List Int),ns.length<=n->Only H->SqL (K w.params) H a (ns.map V.int)->sp w [.ref a] H (fun v _=>v = .bl true) fun _ _ _=>False)
 (hCX:∀ (w:World) (H:Hp) (s:Shared) (e:Value) (s':Shared),CX w [] H s (fun _ _ _=>False) e s'->False) :
 PySem.W.WalkO q loose XP YP l.row.toRowW d [] (fun f vs=>PySem.call f vs):=by
 refine Att.rP hn hdf fun w s₀ s₁ mg mb fa o pm cd doc a vs ns G Y ho hd hcd hmg hobj hints hlen hg=> ?_
 have KX:=hY w _ Y;obtain ⟨fd,hb,hF⟩:=F w mg fa _ KX G.T.g hmg
 exact x9 KX G.T.g G.T.b G.T.builtins G.T.nolimit hg hobj hints (Df hlen hn2) hr hF hb (fun H hO hS=>hsp w H a ns hlen hO hS) fun H e s'=>hCX w H s₁ e s'
def eK(s:Stmt):Arguments:=match s with
 | .FunctionDef _ a _ _ _ _ _ _ _ _=>a
 | _=>{ posonlyargs:=[],args:=[],vararg:=none,kwonlyargs:=[],kw_defaults:=[],kwarg:=none,defaults:=[] }
def bA(s:Stmt):List Stmt:=match s with
 | .FunctionDef _ _ b _ _ _ _ _ _ _=>b
 | _=>[]
def aa(s:Stmt):Scope:=match s with
 | .FunctionDef _ _ _ _ _ _ sc _ _ _=>sc
 | _=>{ kind:= .function,names:=[],isGenerator:=false,isCoroutine:=false }
abbrev CX0:CXT:=fun _ _ _ _ _ _=>False
abbrev E0:XK:=fun _ _ _=>False
structure Fun(K:EG)(x qual:Str)(st:Stmt)(f:Addr)(fd:FuncData):Prop where
 ex:∃ (oc:Value) (od:Option Addr) (kV doc pm:Value) (an:Option Addr) (cdv ct:Value) (osl:Array (Option Value)),
  fd=PySem.W.fnOf x qual (eK st) (bA st) (aa st) .none kV doc pm an cdv ct/\K.lookup f=some ⟨oc,od,.func fd,osl⟩/\PySem.W.codeIn K cdv qual=true
 kp:PySem.W.keepIn K (.ref f)=true
section
variable{P:Program}{w:World}{K:EG}{mg:Str->Option Value}{base:Heap}
theorem Fun.binds{x qual:Str}{st:Stmt}{f:Addr}{fd:FuncData}{ps:List Str}(F:Fun K x qual st f fd)
 (h:∀ (kV doc pm:Value) (an:Option Addr) (cdv ct:Value) (us:List Value),us.length=ps.length->bindArgs (PySem.W.fnOf x qual (eK st) (bA st) (aa st) .none kV doc pm an cdv ct) ⟨us,[]⟩=pure (ps.zip us)):kC K fd ps []:=by
 obtain ⟨oc,od,kV,doc,pm,an,cdv,ct,osl,rfl,lk,hcd⟩:=F.ex;exact .all (h kV doc pm an cdv ct)
theorem tz{x qual:Str}{st:Stmt}{f:Addr}{oc:Value}{od an:Option Addr}{osl:Array (Option Value)}{kV doc pm cdv ct:Value}(l:K.lookup f=some ⟨oc,od,.func (PySem.W.fnOf x qual (eK st) (bA st) (aa st) .none kV doc pm an cdv ct),osl⟩)
 (c:PySem.W.codeIn K cdv qual=true) (k:PySem.W.keepIn K (.ref f)=true):Fun K x qual st f (PySem.W.fnOf x qual (eK st) (bA st) (aa st) .none kV doc pm an cdv ct):=⟨⟨oc,od,kV,doc,pm,an,cdv,ct,osl,rfl,l,c⟩,k⟩
end
theorem dE{n:Nat}(h:n<=1000):n < sizeLine:=Nat.lt_of_le_of_lt h (by decide)
section
variable{X:Cx}
theorem pv(i:Nat){x:Str}{pos:Pos}(hN:X.N[i]?=some x:=by rfl)(hv:Vis X.env.scope x:=by first | exact Or.inl rfl | exact Or.inr (Or.inl rfl) | exact Or.inr (Or.inr rfl))(hd:(x == ("__debug__" : Str))=false:=by decide)
 (hcd:(x == ("__classdict__" : Str))=false:=by decide):PE X (.Name x pos) (wJ i):=gu hN hv hd hcd
theorem wc:ax X (.builtin "len") (fun xs H Q=>∃ a kvs,xs=[V.ref a]/\H a=some (.dK kvs)/\Q (.int kvs.length) H):=by
 intro pins s σ H xs us Q I r h;obtain ⟨a,kvs,rfl,ha,q⟩:=h;obtain ⟨u,rfl,ru⟩:=bx r;cases ru
 exact d_len I (.inl ha) fun t s' I'=>⟨.int kvs.length,H,I',⟨t,rfl⟩,q⟩
end
theorem iteF{A B:Prop}(h:B):if false=true then A else B:=by
 rw [if_neg Cj];exact h
def ac(H H':Hp):Prop:=∀ b o,H b=some o->H' b=some o
theorem ac.refl(H:Hp):ac H H:=fun _ _ h=>h
theorem ac.trans{H H1 H2:Hp}(a:ac H H1)(b:ac H1 H2):ac H H2:=fun c o h=>b c o (a c o h)
theorem ac.free{H H':Hp}(e:ac H H'){l:Addr}(h:H' l=Option.none):H l=Option.none:=by
 cases q:H l with
 | none=>rfl
 | some o =>
  rw [e l o q] at h;cases h
theorem ac.seq{K:EG}{H H':Hp}{a:Addr}{xs:List V}(e:ac H H')(h:SqL K H a xs):SqL K H' a xs:=by
 rcases h with (h | ⟨o,h⟩) | h
 ·exact .inl (.inl (e _ _ h))
 ·exact .inl (.inr ⟨o,e _ _ h⟩)
 ·exact .inr h
section
variable{κ:Type}[DecidableEq κ]
end
def clF(env:Env):List (Str×NameKind)->List (Str×Addr)->List (Str×Addr)
 | [],acc=>acc
 | (n,k)::r,acc=>clF env r (if k == NameKind.free then (n,(env.cells.lookup n).getD 0)::acc else acc)
theorem tG{env:Env}{scope:Scope}(h:∀ y∈scope.names,y.2 = .free->∃ c,env.cells.lookup y.1=some c):closureFor scope env=pure (clF env scope.names []):=by
 have go:∀ (names:List (Str×NameKind)) (acc:List (Str×Addr)),(∀ y∈names,y.2 = .free->∃ c,env.cells.lookup y.1=some c) ->
  (forIn names acc fun (x:Str×NameKind) (r:List (Str×Addr))=>(match x with
    | (name,kind)=>if (kind == NameKind.free)=true then do let a <- cellOf env name;pure (ForInStep.yield ((name,a)::r)) else pure (ForInStep.yield r):Sem (ForInStep (List (Str×Addr)))))=(pure (clF env names acc):Sem (List (Str×Addr))):=by
  intro names
  induction names with
  | nil=>intro acc _;rfl
  | cons x r ih =>
   intro acc hy;obtain ⟨n,k⟩:=x
   have ih':=fun a=>ih a fun y m=>hy y (Ce _ m)
   rw [Ez]
   cases hk:(k == NameKind.free) with
   | false =>
    dsimp only;rw [hk,if_neg Cj,pure_bind]
    show _=pure (clF env r (if (k == NameKind.free)=true then _ else acc))
    rw [hk,if_neg Cj];exact ih' acc
   | true =>
    obtain ⟨c,hc⟩:=hy (n,k) Ck (by simpa using hk)
    have e:cellOf env n=pure c:=by unfold cellOf;rw [hc]
    dsimp only;rw [hk,if_pos rfl,e,pure_bind,pure_bind]
    show _=pure (clF env r (if (k == NameKind.free)=true then _ else acc))
    rw [hk,if_pos rfl,hc];exact ih' _
 unfold closureFor;have e:=go scope.names [] h
 show (forIn scope.names [] _ >>= _)=_
 refine (congrArg (fun z=>z >>= fun cs=>pure cs) e).trans ?_;rfl
theorem pH{env:Env}:∀ (names:List (Str×NameKind)) (acc:List (Str×Addr)),(∀ y∈names,y.2 = .free->∃ c,env.cells.lookup y.1=some c) ->
 (∀ x c,acc.lookup x=some c->env.cells.lookup x=some c)->∀ x c,(clF env names acc).lookup x=some c->env.cells.lookup x=some c
 | [],acc,_,h,x,c,e=>h x c e
 | (n,k)::r,acc,hy,h,x,c,e=>by
  refine pH r _ (fun y m=>hy y (Ce _ m)) (fun y d z=> ?_) x c e
  cases hk:(k == NameKind.free) with
  | false=>rw [hk,if_neg Cj] at z;exact h y d z
  | true =>
   rw [hk,if_pos rfl] at z;obtain ⟨c',hc⟩:=hy (n,k) Ck (by simpa using hk);rw [DP] at z
   cases q:y == n with
   | true =>
    rw [q] at z
    have q':y=n:=by simpa using q
    subst q';have hc':env.cells.lookup y=some c':=hc;rw [hc'] at z ⊢;exact z
   | false=>rw [q] at z;exact h y d z
theorem pI{env:Env}:∀ (names:List (Str×NameKind)) (acc:List (Str×Addr)) (x:Str),((x,NameKind.free)∈names\/∃ c,acc.lookup x=some c)->∃ c,(clF env names acc).lookup x=some c
 | [],acc,x,h=>by
  rcases h with h | h
  ·cases h
  ·exact h
 | (n,k)::r,acc,x,h=>by
  refine pI r _ x ?_
  have keep:(∃ c,acc.lookup x=some c)->∃ c,(if (k == NameKind.free)=true then (n,(env.cells.lookup n).getD 0)::acc else acc).lookup x=some c:=fun hZ=>by
   obtain ⟨c,hc⟩:=hZ
   split
   ·rw [DP]
    split
    ·exact ⟨_,rfl⟩
    ·exact ⟨c,hc⟩
   ·exact ⟨c,hc⟩
  rcases h with h | h
  ·rcases List.mem_cons.mp h with e | e
   ·have e1:x=n:=congrArg Prod.fst e
    have e2:NameKind.free=k:=congrArg Prod.snd e;subst e1 e2;refine .inr ⟨(List.lookup x env.cells).getD 0,?_⟩;rw [if_pos (by rfl),DP,beq_self_eq_true]
   ·exact .inl e
  ·exact .inr (keep h)
theorem gp{env:Env}:∀ {names:List (Str×NameKind)} {x:Str} {k:NameKind},
 (names.map fun (n,k)=>if (k == NameKind.free&&env.scope.kind == .function&&env.kindOf n == some .cell) then (n,NameKind.cell) else (n,k)).lookup x=some k ->
 (names.lookup x=some k)\/(k = .cell/\names.lookup x=some .free)
 | [],_,_,h=>by simp at h
 | (n,k')::r,x,k,h=>by
  have ih := @gp env r x k;have h:List.lookup x ((if (k' == NameKind.free&&env.scope.kind == .function&&env.kindOf n == some .cell)=true then (n,NameKind.cell) else (n,k'))::_)=some k:=h
  by_cases hc:(k' == NameKind.free&&env.scope.kind == .function&&env.kindOf n == some .cell)=true
  ·rw [if_pos hc,DP] at h
   rw [DP]
   cases hx:x == n with
   | true =>
    rw [hx] at h;have h':some NameKind.cell=some k:=h;cases h'
    have:k'=NameKind.free:=by
     have:=(Cv _ _).mp ((Cv _ _).mp hc).1;simpa using this.1
    subst this;exact .inr ⟨rfl,rfl⟩
   | false=>rw [hx] at h;exact ih h
  ·rw [if_neg hc,DP] at h
   rw [DP]
   cases hx:x == n with
   | true=>rw [hx] at h;exact .inl h
   | false=>rw [hx] at h;exact ih h
def blk(X:Cx)(sc:Scope)(cl:List (Str×Addr))(C:Addr)(fp:List Addr)(s:Shared)(H:Hp)(N:List Str):Cx :=
 { X with env:=compEnvC sc cl C X.env,N:=N,s₀:=s,H₀:=H,outer:=X.stack,ex:=fp,fn:=fun _=>false,pn:=[],xe:=fun _ _=>False }
structure mR(X:Cx)(sc:Scope)(M tgs:List Str):Prop where
 kind:sc.kind = .function
 names:∀ y∈sc.names,y.2 = .local->sc.names.lookup y.1=some .local
 nocell:∀ y∈sc.names,y.2 ≠ .cell
 free:∀ y∈sc.names,y.2 = .free->X.env.kindOf y.1=some .cell\/X.env.kindOf y.1=some .free
 len:M.length=X.N.length
 same:∀ p∈M.zip X.N,p.1=p.2\/p.1=("" : Str)
 dummy:sc.names.lookup ("" : Str)=none
 hid:∀ x∈M,sc.names.lookup x≠some .local
section
variable{X:Cx}
theorem Inv.blk{pins:List (Addr×Obj)}{σ:St}{H:Hp}{s s4:Shared}{sc:Scope}{M tgs:List Str}{C:Addr}{fp:List Addr}{m:Str->Option Value}(I:Inv X pins σ H s)(B:mR X sc M tgs)(hf:∀ b∈fp,rV X pins H b)(hfl:∀ b∈fp,b < s.heap.objs.size)
 (hC:s.heap.objs.size<=C) (hn:s4.heap.Ns C m) (hk:∀ b o,s.heap.get? b=some o->s4.heap.get? b=some o) (ho:s4.os=s.os) (hg:s4.gens=s.gens) :
 Inv (blk X sc (clF X.env sc.names []) C fp s H (M++tgs)) [] (σ++List.replicate tgs.length none) H s4:=by
 have hfr:∀ y∈sc.names,y.2 = .free->∃ c,X.env.cells.lookup y.1=some c:=fun y hy e=>I.ok.has _ (B.free y hy e)
 have hsub:∀ x c,(clF X.env sc.names []).lookup x=some c->X.env.cells.lookup x=some c:=pH sc.names [] hfr fun _ _ z=>by simp at z
 have hin:∀ x c,(clF X.env sc.names []).lookup x=some c->c < s.heap.objs.size:=fun x c e=>by
  obtain ⟨v,q⟩:=I.cell x c (hsub x c e);exact q.lt
 have hfree:∀ x,((relabel sc X.env).names.lookup x=some .cell\/(relabel sc X.env).names.lookup x=some .free)->sc.names.lookup x=some .free:=fun x hx=>by
  rcases hx with q | q
  ·rcases gp q with z | z
   ·exact absurd rfl (B.nocell _ (Dd z))
   ·exact z.2
  ·rcases gp q with z | z
   ·exact z
   ·exact absurd z.1 (by decide)
 refine ⟨⟨I.ok.mod,B.kind,I.ok.glob,I.ok.blt,hC,fun x y c h1 h2=>I.ok.inj x y c (hsub x c h1) (hsub y c h2),fun x hx=> ?_,fun x c z=>absurd z Cj,I.ok.hd,I.ok.frames,.inl rfl,fun b hb=>⟨?_,fun x c e=> ?_⟩,I.bs,?_,fun b o e z=> ?_,fun b hb=> ?_,I.stack,I.stkFree⟩,
  ho,?_,Un.kept hk,⟨m,hn,fun i x v h1 h2 h3=> ?_⟩,fun x c e=> ?_,I.hok.fresh hC,fun x c e=>I.freeC x c (hsub x c e),fun p hp=>absurd (show p∈([]:List (Addr×Obj)) from hp) (by simp),I.hok.kept hk,?_⟩
 ·exact pI sc.names [] x (.inl (Dd (hfree x hx)))
 ·exact Cu (CD (hfl b hb) hC)
 ·exact (hf b hb).2.2.2.2.1 x c (hsub x c e)
 ·exact Df I.ok.bsz I.sz
 ·rcases (hf b z).2.2.2.1 with q | q
  ·exact I.ok.noex b o e q
  ·exact absurd (CD (Cf e) I.ok.bsz) (Nat.not_lt.mpr q)
 ·intro z
  rcases List.mem_cons.mp (I.stkSub b z) with q | q
  ·exact (hf b hb).2.1 q
  ·exact (hf b hb).2.2.1 q
 ·rw [hg];exact I.bare
 ·have hl:M.length=σ.length:=B.len.trans I.len.symm
  have hi:i < σ.length:=by
   by_cases hi:i < σ.length
   ·exact hi
   ·rw [CZ (by omega),DN] at h2
    split at h2<;>cases h2
  rw [CA hi] at h2;have h1:(M++tgs)[i]?=some x:=h1;rw [CA (by omega)] at h1;have hmem:x∈M:=Cp h1
  have hx:sc.names.lookup x=some .free:=by
   rcases h3 with q | q | q
   ·rcases gp q with z | z
    ·exact absurd z (B.hid x hmem)
    ·exact absurd z.1 (by decide)
   ·exact hfree x (.inl q)
   ·exact hfree x (.inr q)
  have hNi:X.N[i]?=some x:=by
   have hi2:i < X.N.length:=by rw [<- I.len];exact hi
   have hz:(M.zip X.N)[i]?=some (x,X.N[i]):=by
    rw [EF];exact ⟨h1,B8 hi2⟩
   rcases B.same _ (Cp hz) with q | q
   ·have q':x=X.N[i]:=q
    rw [B8 hi2,q']
   ·have q':x=("" : Str):=q
    rw [q',B.dummy] at hx;cases hx
  have hk2:=B.free (x,.free) (Dd hx) rfl;obtain ⟨m0,_,hl0⟩:=I.loc;obtain ⟨u,r,l⟩:=hl0 i x v hNi h2 (.inr hk2);refine ⟨u,r,.inr ?_⟩
  rcases l with ⟨k,_⟩ | ⟨_,c,ec,hcell⟩
  ·have k':X.env.kindOf x=some .local:=k
   rcases hk2 with q | q
   ·have q':X.env.kindOf x=some .cell:=q
    rw [k'] at q';cases q'
   ·have q':X.env.kindOf x=some .free:=q
    rw [k'] at q';cases q'
  ·obtain ⟨c',ec'⟩:=pI (env:=X.env) sc.names [] x (.inl (Dd hx))
   have:c'=c:=by
    have:=hsub x c' ec';rw [ec] at this;exact (Option.some.inj this).symm
   subst this;refine ⟨?_,c',ec',?_⟩
   ·rcases h3 with q | q | q
    ·rcases gp q with z | z
     ·rw [hx] at z;cases z
     ·exact absurd z.1 (by decide)
    ·exact .inl q
    ·exact .inr q
   ·obtain ⟨o,e1,e2⟩:=hcell
    exact ⟨o,hk _ _ e1,e2⟩
 ·obtain ⟨v,o,e1,e2⟩:=I.cell x c (hsub x c e)
  exact ⟨v,o,hk _ _ e1,e2⟩
 ·show (σ++_).length=(M++tgs).length
  rw [Ct,Ct,Dg,B.len,I.len]
def wt(X:Cx)(ifs:List Expr)(t:TT):Prop :=
 ∀ (pins:List (Addr×Obj)) (s:Shared) (σ:St) (H:Hp) (Q:Bool->Hp->Prop),Inv X pins σ H s->t σ H Q ->
  wpAny (model X.prog X.w) X.A (forIn ifs true fun c r=>if r=true then do let ok <- isTrue c X.env (eval c X.env);pure (ForInStep.yield ok) else pure (ForInStep.yield r)) (TP X pins σ Q) X.xe s
def Bz:TT:=fun _ H Q=>Q true H
theorem pif0:wt X [] Bz:=fun pins s σ H Q I h=>wpAny_tests_nil ⟨H,I,h⟩
theorem pif1{c:Expr}{t:TT}(h:PT X c t):wt X [c] t:=fun pins s σ H Q I hw=>wpAny_tests_one (h pins s σ H Q I hw)
theorem pF{prog:Program}{w:World}{A:Around}{R:Result->Shared->Prop}{s:Shared}{elt target iter:Expr}{ifs:List Expr}{scope:Scope}{pos:Pos}{it acc:Value}{env:Env}(I:Nat->Shared->Prop)
 (turn:∀ n s,I n s->wpAny (model prog w) A (pyNext it) (fun r s₁=>match r with
   | none=>R (.ok .next) s₁
   | some v=>wpAny (model prog w) A (letOwnedTupleGo target it v) (fun _ s₁'=>wpAny (model prog w) A (assign target env v) (fun _ s₂ =>
    wpAny (model prog w) A (forIn ifs true fun c r=>if r=true then do let ok <- isTrue c env (eval c env);pure (ForInStep.yield ok) else pure (ForInStep.yield r)) (fun ok s₃ =>
     if ok=true then wpAny (model prog w) A (eval elt env) (fun x s₄ =>
      wpAny (model prog w) A (call (.builtin "list.append") [acc,x]) (fun _ s₅=>∃ m,m < n/\I m s₅) (fun _ _=>False) s₄) (fun _ _=>False) s₃
     else ∃ m,m < n/\I m s₃) (fun _ _=>False) s₂) (fun _ _=>False) s₁') (fun _ _=>False) s₁) (fun _ _=>False) s)
 (n:Nat) (h:I n s) :
 codeAny (model prog w) A (.compLoop (.ListComp elt [⟨target,iter,ifs,0⟩] scope pos) 0 it acc env) R s:=by
 refine codeAny_loop rfl I (fun n s hI=> ?_) n h
 show wpAny _ A ((compTurn (.ListComp elt [⟨target,iter,ifs,0⟩] scope pos) 0 it acc env).onRaise (fun x=>do noteFrame x env;theTreesLotGoes x)) _ _ s
 refine wpAny_noted ?_;rw [compTurn_list];refine B6 (wpAny_standAt (B6 (Dm (turn n s hI) (fun r s₁ h₁=> ?_) fun _ _ z=>z.elim)))
 cases r with
 | none=>exact Ca h₁
 | some v =>
  refine B6 (Dm h₁ (fun _ s₁' h₁'=> ?_) fun _ _ z=>z.elim);refine B6 (Dm h₁' (fun _ s₂ h₂=>B6 (Dm h₂ (fun ok s₃ h₃=> ?_) fun _ _ z=>z.elim)) fun _ _ z=>z.elim)
  cases ok with
  | false=>exact Ca ⟨rfl,h₃⟩
  | true =>
   exact B6 (B6 (Dm h₃ (fun x s₄ h₄=>B6 (Dm h₄ (fun _ s₅ h₅=>Ca (Ca ⟨rfl,h₅⟩)) fun _ _ z=>z.elim)) fun _ _ z=>z.elim))
def CompW(J:It)(k:Nat)(g:TG)(tt:TT)(te:TE)(σ:St)(Q:VK)(H1:Hp):Prop:=∃ W:Nat->Nat->List V->Hp->Prop,(∃ m,W 0 m [] H1)/\∀ i m ys H,W i m ys H->ys.length<=sizeLine /\
 ((J.stop i H/\∀ l,H l=none->Q (.ref l) (upd H l (.lst ys)))\/(J.go i H/\∀ x H',J.yld i H x H'->g x (σ++List.replicate k none) H' fun σ2 H2=>σ2.take σ.length=σ/\tt σ2 H2 fun b H3 =>
   if b=true then te σ2 H3 fun y H4=>∃ m',m' < m/\W (i+1) m' (ys++[y]) H4 else ∃ m',m' < m/\W (i+1) m' ys H3))
def qk(wi:TI)(k:Nat)(g:TG)(tt:TT)(te:TE):TE:=fun σ H Q=>wi σ H fun J H1=>CompW J k g tt te σ Q H1
theorem HOk.track{P:Program}{w:World}{H:Hp}{h:Heap}{a:Addr}{o:HO}(x:HOk P w H h)(hn:H a=none)(new:bn P w (upd H a o) h a o):HOk P w (upd H a o) h:=fun b u e=>by
 by_cases hb:b=a
 ·subst hb
  rw [aj] at e;cases e;exact new
 ·rw [am hb] at e
  exact (x b u e).stay (fun _ _ _ q=>q) (fun c q=>by rw [am (ar q hn)];exact q) fun c xs q=>by rw [am (ar q hn)];exact q
theorem zK{σ σ':St}{k:Nat}(h:σ'.take σ.length=σ):∀ (i:Nat) v,(σ++List.replicate k (none:Option V))[i]?=some (some v)->σ'[i]?=some (some v):=fun i v e=>by
 by_cases hi:i < σ.length
 ·rw [CA hi,<- h,List.getElem?_take_of_lt hi] at e
  exact e
 ·rw [CZ (by omega),DN] at e
  split at e<;>cases e
theorem oq{elt tg iter:Expr}{ifs:List Expr}{sc:Scope}{M tgs:List Str}{pos pos':Pos}{wi:TI}{g:TG}{tt:TT}{te:TE}{use:Option (Value->Sem Unit)}{Qf:Value->Shared->Prop}{pins:List (Addr×Obj)}{s:Shared}{σ:St}{H:Hp}{Q:VK}(hc:X.calm=true)(B:mR X sc M tgs)(hi:PI X tg iter wi)
 (hg:∀ cl C fp s H,PG (blk X sc cl C fp s H (M++tgs)) tg g) (ht:∀ cl C fp s H,wt (blk X sc cl C fp s H (M++tgs)) ifs tt) (he:∀ cl C fp s H,PE (blk X sc cl C fp s H (M++tgs)) elt te)
 (hs:∀ x,foldedSetIterable iter X.env x=pure x) (I:Inv X pins σ H s) (h:qk wi tgs.length g tt te σ H Q)
 (fin:∀ (C D:Addr) (m:Str->Option Value) (s6:Shared) (H':Hp),Inv X pins σ H' s6->s6.heap.Ns C m->H' C=none->X.env.locals < C->X.s₀.heap.objs.size<=C->(∀ x c,X.env.cells.lookup x=some c->c≠C)->(∀ p∈X.pn++pins,p.1≠C)->Q (.ref D) H'->∀ f,compPost (model X.prog X.w) X.A X.xe use Qf (.ref D) C (.ok f) s6) :
 wpAny (model X.prog X.w) X.A (comprehension (.ListComp elt [⟨tg,iter,ifs,0⟩] sc pos) sc X.env pos' (newList []) false (eval iter X.env) use) Qf X.xe s:=by
 have hfr:∀ y∈sc.names,y.2 = .free->∃ c,X.env.cells.lookup y.1=some c:=fun y hy e=>I.ok.has _ (B.free y hy e)
 have hsub:∀ x c,(clF X.env sc.names []).lookup x=some c->X.env.cells.lookup x=some c:=pH sc.names [] hfr fun _ _ z=>by simp at z
 refine wpAny_comprehension_free (use:=use) rfl hs (tG hfr) B.kind B.names (thn (hi pins s σ H _ I h) fun xv s₁ h₁=>thn h₁ fun itv s₂ h₂=> ?_);obtain ⟨it,fp,tn,J,H2,rfl,I2,T,st2,f2,W,⟨m0,w0⟩,turn⟩:=h₂
 have hfl:∀ b∈fp,b < s₂.heap.objs.size:=fun b hb=>by
  obtain ⟨o,e,_⟩:=T.obj _ _ st2 b hb;exact Cf e
 refine CQ (wpAny_newFunctionEnv B.nocell (by intro y hy;simp at hy) (fun h₁ hns₁ hsb₁=> ?_) B.kind);dsimp only at hns₁ hsb₁ ⊢
 generalize hH2:s₂.heap.push { cls:= .type "list",dict:=none,data:= .seq ([]:List Value).toArray }=HH at hns₁ hsb₁ ⊢
 have hC:HH.objs.size=s₂.heap.objs.size+1:=by rw [<- hH2,CL]
 generalize hCC:HH.objs.size=C at hC hns₁ hsb₁ ⊢
 generalize hDD:s₂.heap.objs.size=D at hC ⊢
 have hDC:D≠C:=by omega
 have below:∀ b,b < D->b≠C/\b≠D:=fun b hb=>⟨by omega,by omega⟩
 have old:∀ b o,s₂.heap.get? b=some o->h₁.get? b=some o:=fun b o e=>hsb₁.extBut b o (below b (hDD ▸ Cf e)).1 (B7 _ (hH2 ▸ B7 _ e))
 have hacc:h₁.PlainList D #[]:=⟨_,hsb₁.extBut _ _ hDC (B7 _ (by rw [<- hH2,<- hDD];exact Cd _ rfl))⟩
 have hCs:s₂.heap.objs.size<=C:=by omega
 generalize hS4:({ s₂ with heap:=h₁,toks:=s₂.toks+([]:List (Str×Value)).length }:Shared)=s₄
 have I4:Inv (blk X sc (clF X.env sc.names []) C fp s₂ H2 (M++tgs)) [] (σ++List.replicate tgs.length none) H2 s₄ :=
  I2.blk B f2 hfl hCs (by rw [<- hS4];exact hns₁) (by rw [<- hS4];exact old) (by rw [<- hS4]) (by rw [<- hS4])
 have hD4:s₄.heap.PlainList D #[]:=by rw [<- hS4];exact hacc
 have st4:tn 0 s₄.heap:=by rw [<- hS4];exact T.keep _ _ _ st2 fun b _ o e=>old b o e
 let X':=blk X sc (clF X.env sc.names []) C fp s₂ H2 (M++tgs)
 have nfs:∀ b,s₂.heap.objs.size<=b->b∉frs X.stack:=fun b hb z=>by
  rcases List.mem_cons.mp (I2.stkSub b z) with q | q
  ·rw [q] at hb;exact absurd I2.lt (Nat.not_lt.mpr hb)
  ·exact I2.nofs hb q
 have Dpin:∀ {s':Shared} {H':Hp} {its:Array Value} {n:Nat},s'.heap.get? D=some { cls:= .type "list",data:= .seq its n }->H' D=none ->
  ∀ p∈[(D,({ cls:= .type "list",data:= .seq its n }:Obj))],s'.heap.get? p.1=some p.2/\H' p.1=none/\p.1≠X'.env.locals/\p.1∉X'.fs/\∀ v,p.2.data ≠ .cell v:=fun {s' H' its n} e hn p hp=>by
  have e1:p=(D,({ cls:= .type "list",data:= .seq its n }:Obj)):=by simpa using hp
  subst e1;exact ⟨e,hn,hDC,nfs D (by omega),fun v z=>by cases z⟩
 have fpk:∀ {pl:List (Addr×Obj)} {H':Hp},(∀ p∈pl,p.1=D)->(∀ b∈fp,H' b=none)->∀ b∈fp,rV X' pl H' b:=fun {pl H'} hpl hn b hb=>by
  refine ⟨hn b hb,(below b (hDD ▸ hfl b hb)).1,fun z=> ?_,.inl hb,fun x c e=>(f2 b hb).2.2.2.2.1 x c (hsub x c e),fun p hp=> ?_⟩
  ·rcases List.mem_cons.mp (I2.stkSub b z) with q | q
   ·exact (f2 b hb).2.1 q
   ·exact (f2 b hb).2.2.1 q
  ·have hp':p∈pl:=by simpa [X',blk] using hp
   rw [hpl p hp'];exact Ne.symm (below b (hDD ▸ hfl b hb)).2
 have cellD:∀ x c,X'.env.cells.lookup x=some c->c≠D:=fun x c e z=>by
  obtain ⟨v,q⟩:=I2.cell x c (hsub x c e);have q:=q.lt;rw [z,hDD] at q;exact Eg _ q
 have loop:codeAny (model X.prog X.w) X.A (.compLoop (.ListComp elt [⟨tg,iter,ifs,0⟩] sc pos) 0 (.ref it) (.ref D) (compEnvC sc (clF X.env sc.names []) C X.env))
  (compPost (model X.prog X.w) X.A X.xe use Qf (.ref D) C) s₄:=by
  refine pF (fun n s'=>∃ i ys its k H',Inv X' [(D,{ cls:= .type "list",data:= .seq its k })] (σ++List.replicate tgs.length none) H' s'/\aw ys its.toList/\tn i s'.heap/\(∀ b∈fp,H' b=none)/\W i n ys H') ?_ m0 ?_
  ·rintro n s5 ⟨i,ys,its,k,H5,I5,hv,st5,fr5,w5⟩
   obtain ⟨hz,w5⟩:=turn i n ys H5 w5;have hD5:=I5.pin (D,{ cls:= .type "list",data:= .seq its k }) (Ch _ (by simp))
   have one:∀ p∈[(D,({ cls:= .type "list",data:= .seq its k }:Obj))],p.1=D:=fun p hp=>by
    have:p=(D,({ cls:= .type "list",data:= .seq its k }:Obj)):=by simpa using hp
    rw [this]
   rcases w5 with ⟨stop,qn⟩ | ⟨go,step⟩
   ·refine thn (T.done X' rfl rfl rfl hc i _ s5 _ H5 _ I5 (fpk one fr5) st5 stop) fun r s6 ⟨hr,I6⟩=> ?_
    subst hr;obtain ⟨m6,hn6,_⟩:=I6.loc;have hn6:s6.heap.Ns C m6:=hn6;obtain ⟨e6,n6,_⟩:=I6.pin (D,{ cls:= .type "list",data:= .seq its k }) (Ch _ (by simp));have hC6:H5 C=none:=I6.free;have hln:ys.length<=sizeLine:=hz;have ok8:HOk X.prog X.w (upd H5 D (.lst ys)) s6.heap:=I6.hok.track n6 ⟨hln,its.toList,k,hv,by simpa using e6⟩;have un:Un (frs X.stack) fp H2 H5 s₂.heap s6.heap:=I6.base
    have neC:∀ b o,s₂.heap.get? b=some o->b≠C/\b≠D:=fun b o e=>below b (hDD ▸ Cf e)
    have un7:Un (frs X.stack) fp H2 (upd H5 D (.lst ys)) s₂.heap s6.heap:=by
     refine ⟨un.keep,un.slot,fun b o e n hx=> ?_,un.there,fun b xs e=> ?_,fun b o u e=> ?_,fun b ps e=> ?_⟩
     ·rw [am (neC b o e).2];exact un.free b o e n hx
     ·have q:=un.tups b xs e
      rw [am (ar q n6)];exact q
     ·have q:=un.frzs b o u e
      rw [am (ar q n6)];exact q
     ·obtain ⟨more,q⟩:=un.tbls b ps e
      exact ⟨more,by rw [am (ar q n6)];exact q⟩
    have I8:Inv X pins σ (upd H5 D (.lst ys)) s6:=I2.call' (ch:=fp) I6.os un7 ok8 I6.bare (fun b hb=>⟨(f2 b hb).2.2.2.1,(f2 b hb).2.1,(f2 b hb).2.2.2.2.1,(f2 b hb).2.2.2.2.2⟩);have hLC:X.env.locals < C:=CD I2.lt hCs
    have hcC:∀ x c,X.env.cells.lookup x=some c->c≠C:=fun x c e z=>by
     obtain ⟨v,q⟩:=I2.cell x c e;have q:=q.lt;rw [z] at q;exact absurd q (Nat.not_lt.mpr hCs)
    exact fin C D m6 s6 _ I8 hn6 (by rw [am (Ne.symm hDC)];exact hC6) hLC (Df I2.sz hCs) hcC (fun p hp z=>by
     have:=Cf (I2.pin p hp).1;rw [z] at this
     exact absurd this (Nat.not_lt.mpr hCs)) (qn D n6) _
   ·refine thn (T.item X' rfl rfl rfl hc i _ s5 _ H5 _ I5 (fpk one fr5) st5 go) fun r s6 ⟨u,hr,h6⟩=> ?_
    subst hr
    refine thn h6 fun _ s7 ⟨x,H7,I7,r7,y7,st7,fr7⟩=> ?_
    have I7':=I7.pinned (fpk one fr7) (T.obj _ _ st7)
    refine thn (hg _ _ _ _ _ _ s7 _ H7 x u _ I7' r7 (step x H7 y7)) fun _ s8 ⟨σ8,H8,I8,tk8,q8⟩=> ?_
    refine thn (ht _ _ _ _ _ _ s8 σ8 H8 _ I8 q8) fun b s9 ⟨H9,I9,q9⟩=> ?_
    have weak:∀ {pl:List (Addr×Obj)} {H':Hp} {s':Shared},Inv X' pl σ8 H' s'->Inv X' pl (σ++List.replicate tgs.length none) H' s':=fun {pl H' s'} J=>J.weak (by
     have e1:σ8.length=(M++tgs).length:=J.len
     rw [e1,Ct,Ct,Dg,B.len,I2.len]) (zK tk8)
    have fin:∀ {H':Hp} {s':Shared},Inv X' ([(D,{ cls:= .type "list",data:= .seq its k })]++lS fp s7.heap) σ8 H' s'->tn (i+1) s'.heap/\∀ b∈fp,H' b=none:=fun {H' s'} J=>by
     refine ⟨T.keep _ _ _ st7 fun b hb o e=>(J.pin (b,o) (Ch _ (Ch _ (fo hb e)))).1,fun b hb=> ?_⟩;obtain ⟨o,e,d⟩:=T.obj _ _ st7 b hb;exact (J.pin (b,o) (Ch _ (Ch _ (fo hb e)))).2.1
    cases b with
    | false =>
     rw [if_neg Cj] at q9 ⊢;obtain ⟨m',hm,w9⟩:=q9;exact ⟨m',hm,i+1,ys,its,k,H9,weak I9.unpinned,hv,(fin I9).1,(fin I9).2,w9⟩
    | true =>
     rw [if_pos rfl] at q9 ⊢
     refine thn (he _ _ _ _ _ _ s9 σ8 H9 _ I9 q9) fun y s10 ⟨yv,H10,I10,r10,q10⟩=> ?_
     obtain ⟨m',hm,w10⟩:=q10;obtain ⟨e10,n10,_⟩:=I10.pin (D,{ cls:= .type "list",data:= .seq its k }) (Ch _ (Cg _ (by simp)))
     have hsz:its.size<=sizeLine:=by
      have e1:=hv.length
      have e2:its.toList.length=its.size:=by simp
      omega
     refine wpAny_list_append_plain (hsz:=hsz) ⟨k,e10⟩ fun h11 hl11 hs11=> ?_
     obtain ⟨k',e11⟩:=hl11
     have J0:Inv X' [] σ8 H10 s10:=I10.pins_of fun p hp=>by simp at hp
     have J1:Inv X' [] σ8 H10 { s10 with heap:=h11 }:=J0.turned (t':=s10.toks) (it:=D) (fun b o hb e=>(hs11.2 b hb).trans e) n10 hDC (.inr (by show s₂.heap.objs.size<=D;omega)) cellD (fun p hp=>by
      have hp':p∈([]:List (Addr×Obj)):=by simpa [X',blk] using hp
      simp at hp')
     have J2:Inv X' [(D,{ cls:= .type "list",data:= .seq (its.push y) k' })] σ8 H10 { s10 with heap:=h11 }:=J1.pins_of (Dpin e11 n10);refine ⟨m',hm,i+1,ys++[yv],its.push y,k',H10,weak J2,?_,?_,(fin I10).2,w10⟩
     ·rw [Array.toList_push]
      exact hv.append (.cons r10 .nil)
     ·refine T.keep _ _ _ (fin I10).1 fun b hb o e=>(hs11.2 b ?_).trans e
      exact (below b (hDD ▸ hfl b hb)).2
  ·obtain ⟨k,e⟩:=hD4
   exact ⟨0,[],#[],k,H2,I4.pins_of (Dpin e (I2.hok.fresh (by omega))),.nil,st4,fun b hb=>(f2 b hb).1,w0⟩
 exact codeAny_compStart_list loop (T.self _ _ _ _ _ st4 loop)
theorem Ay{elt tg iter:Expr}{ifs:List Expr}{sc:Scope}{M tgs:List Str}{pos:Pos}{wi:TI}{g:TG}{tt:TT}{te:TE}(hc:X.calm=true)(B:mR X sc M tgs)(hi:PI X tg iter wi)
 (hg:∀ cl C fp s H,PG (blk X sc cl C fp s H (M++tgs)) tg g) (ht:∀ cl C fp s H,wt (blk X sc cl C fp s H (M++tgs)) ifs tt) (he:∀ cl C fp s H,PE (blk X sc cl C fp s H (M++tgs)) elt te)
 (hs:∀ x,foldedSetIterable iter X.env x=pure x:=by intro _;rfl):PE X (.ListComp elt [⟨tg,iter,ifs,0⟩] sc pos) (qk wi tgs.length g tt te):=by
 intro pins s σ H Q I h;rw [eval_ListComp]
 exact oq hc B hi hg ht he hs I h fun C D m s6 H' I8 hn hC hLC hsz hcC hp q f=>⟨m,hn,fun h' hs'=>⟨.ref D,H',I8.turned (t':=s6.toks) (it:=C) (fun b o hb e=>(hs'.2 b hb).trans e) hC (DJ hLC) (.inr hsz) hcC hp,rfl,q⟩⟩
end
end L2
namespace HT
open PySem PySem.Spec PyProof.Rows PySem.SeqAt
def BU:List Int->List Int->Bool
 | [],_=>true
 | _::_,[]=>false
 | x::xs,y::ys=>if x=y then BU xs ys else decide (x<=y)
section
open PySem.SeqAt
open PySem.AutoSeq1 (wpAny_loadPart')
open PySem.MeetsSeq PySem.MeetsSeq2 PySem.MeetsSeq3
end
section
variable{prog:Program}{w:World}{A:Around}{E:Value->Shared->Prop}{s:Shared}
end
end HT
namespace L2
open PySem PySem.Spec PyProof.Rows
section
variable{X:Cx}
def BV(K:EG)(H:Hp)(T:String):V->Prop
 | .non=>T = "NoneType"
 | .bl _=>T = "bool"
 | .int _=>T = "int"
 | .str _=>T = "str"
 | .ref p=>(T = "list" /\ ∃ xs,SqL K H p xs)\/(T = "tuple" /\ ∃ xs,SqT K H p xs)\/(T = "dict" /\ ((∃ kvs,H p=some (.dK kvs))\/∃ kvs,H p=some (.dT kvs)))
 | _=>False
def AX(T C:String):Bool:=T == C||(T == "bool" && C == "int")
def isiC(C:String):Prop:=C = "int" \/ C = "bool" \/ C = "tuple" \/ C = "list" \/ C = "str"
def rIsi(K:EG):List V->Hp->VK->Prop:=fun xs H Q=>∃ x T C,xs=[x,.ty C]/\isiC C/\BV K H T x/\Q (.bl (AX T C)) H
theorem yW:ax X (.builtin "isinstance") (rIsi X.K):=by
 intro pins s σ H xs us Q I r h;obtain ⟨x,T,C,rfl,hC,hk,q⟩:=h;obtain ⟨u,w',rfl,rx,rc⟩:=nG r;cases rc
 have fin:∀ (b:Bool) (t:Nat),b=AX T C->EP X pins σ Q (.bool b) { s with toks:=t }:=fun b t e=>⟨.bl b,H,I.tok t,rfl,by rw [e];exact q⟩
 have fin0:∀ (b:Bool),b=AX T C->EP X pins σ Q (.bool b) s:=fun b e=>⟨.bl b,H,I,rfl,by rw [e];exact q⟩
 cases x with
 | non =>
  cases rx;cases (show T = "NoneType" from hk)
  rcases hC with rfl | rfl | rfl | rfl | rfl
  ·exact IsiPair.NoneType_int (fin _ _ rfl)
  ·exact IsiPair.NoneType_bool (fin _ _ rfl)
  ·exact IsiPair.NoneType_tuple (fin _ _ rfl)
  ·exact IsiPair.NoneType_list (fin _ _ rfl)
  ·exact IsiPair.NoneType_str (fin _ _ rfl)
 | bl b =>
  cases rx;cases (show T = "bool" from hk)
  rcases hC with rfl | rfl | rfl | rfl | rfl
  ·exact IsiPair.bool_int (fin0 _ rfl)
  ·exact IsiPair.bool_bool (fin0 _ rfl)
  ·exact IsiPair.bool_tuple (fin _ _ rfl)
  ·exact IsiPair.bool_list (fin _ _ rfl)
  ·exact IsiPair.bool_str (fin _ _ rfl)
 | int i =>
  obtain ⟨t,rfl⟩:=rx;cases (show T = "int" from hk)
  rcases hC with rfl | rfl | rfl | rfl | rfl
  ·exact IsiPair.int_int (fin0 _ rfl)
  ·exact IsiPair.int_bool (fin _ _ rfl)
  ·exact IsiPair.int_tuple (fin _ _ rfl)
  ·exact IsiPair.int_list (fin _ _ rfl)
  ·exact IsiPair.int_str (fin _ _ rfl)
 | str z =>
  obtain ⟨t,rfl⟩:=rx;cases (show T = "str" from hk)
  rcases hC with rfl | rfl | rfl | rfl | rfl
  ·exact IsiPair.str_int (fin _ _ rfl)
  ·exact IsiPair.str_bool (fin _ _ rfl)
  ·exact IsiPair.str_tuple (fin _ _ rfl)
  ·exact IsiPair.str_list (fin _ _ rfl)
  ·exact IsiPair.str_str (fin0 _ rfl)
 | ref p =>
  cases rx
  rcases hk with ⟨rfl,xs,hq⟩ | ⟨rfl,xs,hq⟩ | ⟨rfl,hk⟩
  ·obtain ⟨its,_,pl,_⟩:=I.list hq
   obtain ⟨o,n,e,c,hd,_⟩:=pl
   rcases hC with rfl | rfl | rfl | rfl | rfl
   ·exact IsiPair.list_int e c (fin _ _ rfl)
   ·exact IsiPair.list_bool e c (fin _ _ rfl)
   ·exact IsiPair.list_tuple e c (fin _ _ rfl)
   ·exact IsiPair.list_list e c (fin0 _ rfl)
   ·exact IsiPair.list_str e c (fin _ _ rfl)
  ·obtain ⟨its,_,⟨o,e,c,_⟩,_⟩:=I.tuple hq
   rcases hC with rfl | rfl | rfl | rfl | rfl
   ·exact IsiPair.tuple_int e c (fin _ _ rfl)
   ·exact IsiPair.tuple_bool e c (fin _ _ rfl)
   ·exact IsiPair.tuple_tuple e c (fin0 _ rfl)
   ·exact IsiPair.tuple_list e c (fin _ _ rfl)
   ·exact IsiPair.tuple_str e c (fin _ _ rfl)
  ·have z:∃ o,s.heap.get? p=some o/\o.cls = .type "dict" := by
    rcases hk with ⟨kvs,hk⟩ | ⟨kvs,hk⟩
    ·obtain ⟨_,_,_,_,o,_,_,e,ex,_⟩:=I.hok p _ hk
     exact ⟨o,e,ex.1⟩
    ·obtain ⟨_,_,_,_,o,_,_,e,ex,_⟩:=I.hok p _ hk
     exact ⟨o,e,ex.1⟩
   obtain ⟨o,e,c⟩:=z
   rcases hC with rfl | rfl | rfl | rfl | rfl
   ·exact IsiPair.dict_int e c (fin _ _ rfl)
   ·exact IsiPair.dict_bool e c (fin _ _ rfl)
   ·exact IsiPair.dict_tuple e c (fin _ _ rfl)
   ·exact IsiPair.dict_list e c (fin _ _ rfl)
   ·exact IsiPair.dict_str e c (fin _ _ rfl)
 | _=>exact False.elim hk
end
end L2
namespace RawD
open PySem PySem.Spec PyProof.Rows PySem.W
def At(h:Heap)(d:Addr)(es:Array DictEntry)(ep:Nat):Prop:=∃ o,h.get? d=some o/\o.ExactDict/\o.data = .dict es ep
theorem At.keep{h h':Heap}{d:Addr}{es:Array DictEntry}{ep:Nat}(x:At h d es ep)(k:∀ o,h.get? d=some o->h'.get? d=some o):At h' d es ep:=let ⟨o,a,r⟩:=x;⟨o,k o a,r⟩
theorem At.ty{s:Shared}{d:Addr}{es:Array DictEntry}{ep:Nat}(x:At s.heap d es ep):s.TypeIs (.ref d) "dict" := let ⟨o,a,b,_⟩:=x;⟨o,a,b.1⟩
theorem At.lt{h:Heap}{d:Addr}{es:Array DictEntry}{ep:Nat}(x:At h d es ep):d < h.objs.size:=let ⟨_,a,_⟩:=x;Cf a
section
variable{prog:Program}{w:World}{A:Around}{E:Value->Shared->Prop}{s:Shared}{d it:Addr}{es:Array DictEntry}{ep i:Nat}
theorem iter{Q:Value->Shared->Prop}(lo:(d == sysModules)=false)(x:At s.heap d es ep)
 (q:Q (.ref s.heap.objs.size) { s with heap:=s.heap.push { cls:= .type "dict_keyiterator",data:= .fields #[.ref d,.int 0 0,.int es.size 0,.int ep 0] } }) :
 wpAny (model prog w) A (pyIter (.ref d)) Q E s:=by
 have ty:=x.ty;obtain ⟨o,a1,a2,a3⟩:=x;refine wpAny_pyIter_slot ty F.slot_dict_iter (C1 F.slot_dict_iter ty F.entry_dict_iter ?_ (F.args_dict_iter_1 _));unfold Builtin.«dict.__iter__»;refine B6 ?_;unfold Builtin.Dict.dictSlotNone;refine B6 (wpAny_notOrdered_dict ty ?_)
 show wpAny _ _ (pure (Value.ref d)) _ _ s
 refine Ca ?_
 show wpAny _ _ (Builtin.Dict.showsAll d >>= _) _ _ s
 unfold Builtin.Dict.showsAll;rw [if_neg (by rw [lo];exact Cj)];refine B6 (Ca ?_);refine B6 (wpAny_dictEntries a1 a3 (B6 (wpAny_dictEpoch a1 a3 ?_)));exact B6 (CQ (Ca ⟨_,rfl, "dict_keyiterator",_,⟨_,Cd _ rfl,rfl⟩,F.slot_dict_keyiterator_next.lookup,q⟩))
theorem item{Q:Option Value->Shared->Prop}(hit:s.heap.IsKeyIter it d i es.size ep)(x:At s.heap d es ep)(hi:i < es.size)
 (q:∀ h',h'.IsKeyIter it d (i+1) es.size ep->Heap.SameBut it s.heap h'->Q (some es[i].key) { s with heap:=h' }):wpAny (model prog w) A (pyNext (.ref it)) Q E s:=by
 obtain ⟨oi,b1,b2,b3⟩:=id hit;obtain ⟨o,a1,a2,a3⟩:=x;unfold pyNext
 refine B6 (wpAny_attempt (CM (name:=Str.ofString "__next__") hit.typeIs F.slot_dict_keyiterator_next
  (C1 F.slot_dict_keyiterator_next hit.typeIs F.entry_dict_keyiterator_next ?_ (F.args_dict_keyiterator_next_1 _))))
 refine B6 (Ca (B6 (B6 ?_)))
 first | refine B6 (DO hit.typeIs (Ca ?_)) | refine B6 (Ec hit.typeIs (Ca ?_))
 refine B6 (wpAny_fieldsOf b1 b3 ?_)
 have no:Builtin.Dict_items.ownsTuple "dict_keyiterator" = false:=by decide
 simp only [no,Ds,if_false]
 show wpAny _ _ (if (Value.ref d == Value.none)=true then _ else _) _ _ s
 rw [if_neg (show ¬ ((Value.ref d == Value.none)=true) from Cj)];refine B6 (Ca (B6 (wpAny_dictEntries a1 a3 ?_)));rw [if_neg (by simp)];refine B6 (Ca (B6 (wpAny_dictEpoch a1 a3 ?_)));rw [if_neg (by simp)];refine Ca ?_;simp only [show ¬ ((i:Int) < 0) from by omega,if_false,En,DE hi];refine B6 ?_
 first | refine B6 (DO hit.typeIs (Ca ?_)) | refine B6 (Ec hit.typeIs (Ca ?_))
 refine B6 (wpAny_isOneOf_keyiter hit.typeIs ?_)
 show wpAny _ _ (setField (.ref it) 1 (rawInt ((i:Int)+1)) >>= _) _ _ s
 refine B6 (DD b1 b3 (by simp) ?_)
 have on:(s.heap.update it (Obj.mapFields (·.setIfInBounds 1 (rawInt ((i:Int)+1))))).IsKeyIter it d (i+1) es.size ep :=
  ⟨_,Dh _ b1 (Obj.isFreed_of_fields (EB b3 _)),(Obj.cls_mapFields ..).trans b2,by rw [EB b3];simp [rawInt]⟩
 refine B6 (Du (B6 (wpAny_isOneOf_keyiter (s:={ s with heap:=s.heap.update it (Obj.mapFields (·.setIfInBounds 1 (rawInt ((i:Int)+1)))) }) on.typeIs ?_)))
 show wpAny _ _ (pure es[i].key) _ _ _
 exact Ca (Ca ⟨_,rfl,Ca (q _ on (Heap.SameBut.update ..))⟩)
theorem stop{Q:Option Value->Shared->Prop}(hh:A.handled=none)(hit:s.heap.IsKeyIter it d i es.size ep)(x:At s.heap d es ep)(hi:es.size<=i)
 (q:∀ h',Heap.ExtBut it s.heap h'->Q none { s with heap:=h' }):wpAny (model prog w) A (pyNext (.ref it)) Q E s:=by
 obtain ⟨oi,b1,b2,b3⟩:=id hit;obtain ⟨o,a1,a2,a3⟩:=x;unfold pyNext
 refine B6 (wpAny_attempt (CM (name:=Str.ofString "__next__") hit.typeIs F.slot_dict_keyiterator_next
  (C1 F.slot_dict_keyiterator_next hit.typeIs F.entry_dict_keyiterator_next ?_ (F.args_dict_keyiterator_next_1 _))))
 refine B6 (Ca (B6 (B6 ?_)))
 first | refine B6 (DO hit.typeIs (Ca ?_)) | refine B6 (Ec hit.typeIs (Ca ?_))
 refine B6 (wpAny_fieldsOf b1 b3 ?_)
 have no:Builtin.Dict_items.ownsTuple "dict_keyiterator" = false:=by decide
 simp only [no,Ds,if_false]
 show wpAny _ _ (if (Value.ref d == Value.none)=true then _ else _) _ _ s
 rw [if_neg (show ¬ ((Value.ref d == Value.none)=true) from Cj)];refine B6 (Ca (B6 (wpAny_dictEntries a1 a3 ?_)));rw [if_neg (by simp)];refine B6 (Ca (B6 (wpAny_dictEpoch a1 a3 ?_)));rw [if_neg (by simp)];refine Ca ?_;simp only [show ¬ ((i:Int) < 0) from by omega,if_false,En,Array.getElem?_eq_none hi];refine B6 ?_
 first | refine B6 (DO hit.typeIs (Ca ?_)) | refine B6 (Ec hit.typeIs (Ca ?_))
 show wpAny _ _ (setField (.ref it) 0 .none >>= _) _ _ s
 refine B6 (DD b1 b3 (by simp) ?_)
 show wpAny _ _ (newExc (.type "StopIteration") [] >>= _) _ _ _
 refine B6 ?_;simp only [newExc,newTuple];refine B6 (CQ ?_ (by size_fits));refine B6 (m:=firstArgMember _ _) (wpAny_of_eq (a:=Value.none) (by first | rfl | (simp only [firstArgMember];rfl)) ?_);refine CQ ?_ (by size_fits);simp only [raiseNew];refine B6 (wpAny_handled ?_);rw [show A.in1.handled=none from hh];refine B6 (Ca (wpAny_throw ?_));refine B6 (wpAny_isInstance (T := "StopIteration") (b:=true) ⟨_,Cd _ rfl,rfl⟩ isSubtype_stop ?_);exact Ca (q _ (((Heap.SameBut.update ..).extBut.push _).push _))
theorem walks(hh:A.handled=none)(I d:Addr)(hne:d≠I)(es:Array DictEntry)(ep:Nat) :
 Walks prog w A I [I,d] [I] es.size (fun i v=>∃ h:i < es.size,v=es[i].key) (fun i h=>h.IsKeyIter I d i es.size ep/\At h d es ep) where
 sub:=fun b hb=>by simp at hb;simp [hb]
 frame:=fun _ _ _ st hk=>⟨st.1.at fun o e=>hk I (by simp) o e,st.2.keep fun o e=>hk d (by simp) o e⟩
 item:=fun i s Q E hi st hQ=>item st.1 st.2 hi fun h' a b=>hQ _ h' s.toks ⟨hi,rfl⟩ ⟨a,st.2.keep fun o e=>b.extBut d o hne e⟩ fun b' o hb e=>b.extBut b' o (fun h=>hb (by simp [h])) e
 done:=fun s Q E st hQ=>stop hh st.1 st.2 (Ci _) fun h' he'=>hQ h' s.toks fun b o hb e=>he' b o (fun h=>hb (by simp [h])) e
 self:=fun _ _ _ _ st hQ=>wpAny_pyIter_keyiter st.1 hQ
theorem src(lo:(d == sysModules)=false):KdlSrc prog w "dict" d d es.size (fun i v=>∃ h:i < es.size,v=es[i].key) (fun h=>At h d es ep) where
 type:=fun _ x=>x.ty
 there:=fun _ x=>⟨x.lt,x.lt⟩
 keep:=fun _ _ x hk=>x.keep fun o e=>hk d (.inl rfl) o e
 notList:=by decide
 notTuple:=by decide
 hint:=fun _ _ _ _ x q=>kdl_hint_dict x.ty q
 iter:=fun _ _ hh x=>⟨_,_,(fun _ _ q=>iter lo x q),walks hh _ d (Cu x.lt) es ep,⟨⟨_,Cd _ rfl,rfl,rfl⟩,x.keep fun _ e=>B7 _ e⟩⟩
end
end RawD
namespace RawD
open PySem PySem.Spec PyProof.Rows PySem.W
section
variable{prog:Program}{w:World}{A:Around}{E:Value->Shared->Prop}{s:Shared}{d:Addr}{es:Array DictEntry}{ep:Nat}
theorem vA(lo:(d == sysModules)=false) :
 MeetsIn prog w (Builtin.«dict.__len__» ⟨[.ref d],[]⟩) (fun _ R s=>∃ es ep,At s.heap d es ep/\R (.ok (.ret (.int es.size s.toks))) { s with toks:=s.toks+1 }) :=
 .of_wp fun A R s hZ=>by
  obtain ⟨es,ep,x,h⟩:=hZ;obtain ⟨o,a1,a2,a3⟩:=x
  show wpAny _ _ (dictSize d >>= _) _ _ s
  unfold dictSize;refine B6 (B6 (wpAny_dictEntries a1 a3 (Ca ?_)))
  show wpAny _ _ (Builtin.Dict.pendingCount d >>= _) _ _ s
  refine B6 (wpAny_pendingCount_other lo (wpAny_ret_mkInt ?_));rw [Nat.add_zero];exact h
theorem len{Q:Value->Shared->Prop}(lo:(d == sysModules)=false)(x:At s.heap d es ep)(fit:(es.size:Int) < 2 ^ 63)
 (h:Q (.int es.size (s.toks+1)) { s with toks:=s.toks+1+1 }):wpAny (model prog w) A (call (.builtin "len") [.ref d]) Q E s:=by
 refine Calls.call_function_entry kind_len plain_len entry_len (args_len1 _) ?_;unfold Builtin.«len»;refine B6 (m:=oneArg "len" _) (Ca ?_)
 refine B6 (m:=callSpecial? (.ref d) (Str.ofString "__len__")) (CM (name:=Str.ofString "__len__") x.ty F.slot_dict_len
  (call_meetsIn F.slot_dict_len x.ty F.entry_dict_len (F.args_dict_len_1 _) (vA lo) ⟨es,ep,x,?_⟩))
 show wpAny _ _ _ _ _ { s with toks:=s.toks+1 }
 refine B6 (Du (Ca (B6 (wpAny_letGo ?_))))
 show wpAny _ _ (if ((es.size:Nat):Int) < 0 then _ else _) _ _ _
 rw [if_neg (by omega)]
 show wpAny _ _ (if ((es.size:Nat):Int)>=2 ^ 63 then _ else _) _ _ _
 rw [if_neg (by omega)];exact B6 (wpAny_mkInt (Ca ⟨_,rfl,h⟩))
end
end RawD
namespace L2
open PySem PySem.Spec PyProof.Rows
section
variable{X:Cx}
theorem sy{P:Program}{w:World}{H:Hp}{h:Heap}{a:Addr}{kvs:List (List Key×V)}(ok:HOk P w H h)(e:H a=some (.dT kvs)) :
 kvs.length<=sizeLine/\(a == sysModules)=false/\(kvs.map (·.1)).Nodup/\∃ es ep,RawD.At h a es ep/\es.size=kvs.length/\∀ i (hi:i < es.size),∃ b k v,es[i].key = .ref b/\kvs[i]?=some (k,v)/\H b=some (.tup (k.map kV)):=by
 obtain ⟨z,y,xs,r,o,es,ep,h1,h2,h3,h4,h5⟩:=(show bn P w H h a (.dT kvs) from ok a _ e);have hl:=r.length
 have hl2:es.size=xs.length:=by
  have:=congrArg List.length h4;simpa using this
 have keys:∀ {l:List (List Key×V)} {m:List (List Key×Addr×Value)},
  Paired (fun (p:List Key×V) (q:List Key×Addr×Value)=>p.1=q.1/\H q.2.1=some (.tup (p.1.map kV))/\aD p.2 q.2.2) l m->l.map (·.1)=m.map (·.1):=by
  intro l m pr
  induction pr with
  | nil=>rfl
  | cons hd _ ih=>rw [Cq,Cq,ih,hd.1]
 refine ⟨z,y,by rw [keys r];exact h5,es,ep,⟨o,h1,h2,h3⟩,hl2.trans hl.symm,fun i hi=> ?_⟩
 have hx:i < xs.length:=by omega
 have get:∀ {l:List (List Key×V)} {m:List (List Key×Addr×Value)} {i:Nat} {q:List Key×Addr×Value},
  Paired (fun (p:List Key×V) (q:List Key×Addr×Value)=>p.1=q.1/\H q.2.1=some (.tup (p.1.map kV))/\aD p.2 q.2.2) l m->m[i]?=some q->∃ p,l[i]?=some p/\p.1=q.1/\H q.2.1=some (.tup (p.1.map kV)):=by
  intro l m i q pr
  induction pr generalizing i with
  | nil=>intro e;simp at e
  | cons hd _ ih =>
   intro e
   cases i with
   | zero=>simp at e;subst e;exact ⟨_,rfl,hd.1,hd.2.1⟩
   | succ i=>simp at e;exact ih e
 obtain ⟨p,e1,_,e2⟩:=get (i:=i) r (B8 hx);refine ⟨xs[i].2.1,p.1,p.2,?_,e1,e2⟩
 have:es[i]=entryOfKey (tupleKind (aX P w)) xs[i]:=by
  have q:es.toList[i]?=some (entryOfKey (tupleKind (aX P w)) xs[i]):=by rw [h4];simp [hx]
  rw [DC,DE hi] at q;exact Option.some.inj q
 rw [this];rfl
theorem wb:ax X (.builtin "len") (fun xs H Q=>∃ a kvs,xs=[V.ref a]/\H a=some (.dT kvs)/\Q (.int kvs.length) H):=by
 intro pins s σ H xs us Q I r h;obtain ⟨a,kvs,rfl,ha,q⟩:=h;obtain ⟨u,rfl,ru⟩:=bx r;cases ru;obtain ⟨z,lo,_,es,ep,x,hl,_⟩:=sy I.hok ha;exact RawD.len lo x (by rw [hl];rw [sizeLine_eq] at z;omega) ⟨.int kvs.length,H,I.tok _,⟨_,by rw [hl]⟩,q⟩
theorem tQ(hc:X.calm=true):ax X (.type "list") (fun xs H Q=>∃ a kvs,xs=[V.ref a]/\H a=some (.dT kvs) /\
 ∀ l bs,H l=none->(kvs.map (·.1)).Nodup->bs.length=kvs.length->(∀ (i:Nat) k v,kvs[i]?=some (k,v)->∃ b,bs[i]?=some (V.ref b)/\H b=some (.tup (k.map kV)))->Q (.ref l) (upd H l (.lst bs))):=by
 intro pins s σ H xs us Q I r h;obtain ⟨a,kvs,rfl,ha,q⟩:=h;obtain ⟨u,rfl,ru⟩:=bx r;cases ru;obtain ⟨z,lo,nd,es,ep,x,hl,hk⟩:=sy I.hok ha
 refine PySem.W.kdl_call (RawD.src (ep:=ep) (es:=es) lo) (I.ok.hd hc) x (by rw [hl];exact z) fun h' tk acc c keep hD hacc=> ?_
 have hf:H s.heap.objs.size=none:=I.hok.fresh (Ci _);have hlen:acc.size=es.size:=hacc.1
 let bs:List V:=acc.toList.map fun u=>match u with | .ref b=>V.ref b | _=>V.non
 have key:∀ i (hi:i < acc.size),∃ b k v,acc[i] = .ref b/\kvs[i]?=some (k,v)/\H b=some (.tup (k.map kV)):=fun i hi=>by
  obtain ⟨hi',e⟩:=hacc.2 i acc[i] (by simp [hi]);obtain ⟨b,k,v,e1,e2,e3⟩:=hk i hi';exact ⟨b,k,v,e.trans e1,e2,e3⟩
 have hv:aw bs acc.toList:=by
  have gen:∀ (l:List Value),(∀ u∈l,∃ b,u = .ref b)->aw (l.map fun u=>match u with | .ref b=>V.ref b | _=>V.non) l:=by
   intro l
   induction l with
   | nil=>intro _;exact .nil
   | cons u l ih =>
    intro h;obtain ⟨b,rfl⟩:=h u Ck;exact .cons rfl (ih fun v hv=>h v (Ce _ hv))
  refine gen acc.toList fun u hu=> ?_
  obtain ⟨i,hi,e⟩:=DF.mp hu
  have hi':i < acc.size:=by simpa using hi
  obtain ⟨b,k,v,e1,_⟩:=key i hi';exact ⟨b,by rw [<- e];simpa using e1⟩
 have hbl:bs.length=kvs.length:=by
  show (acc.toList.map _).length=_
  rw [B9,C0,hlen,hl]
 refine ⟨.ref s.heap.objs.size,upd H s.heap.objs.size (.lst bs),?_,rfl,q _ bs hf nd hbl fun i k v e=> ?_⟩
 ·exact I.laid (t':=tk) keep (Ci _) ⟨by rw [hbl];exact z,acc.toList,c,hv,by simpa using hD⟩
 ·have hi:i < acc.size:=by
   have:=(Cm.mp e).1;omega
  obtain ⟨b,k',v',e1,e2,e3⟩:=key i hi;rw [e] at e2;cases e2;refine ⟨b,?_,e3⟩
  show (acc.toList.map _)[i]?=_
  rw [Cw,DC,DE hi,e1];rfl
theorem wp:∀ (bs:List Bool),(List.range bs.length).all (fun i=>bs.getD i false)=bs.all id:=fun bs=>by
 rw [DI];simp only [Co,CN]
 constructor
 ·intro h b hb
  obtain ⟨i,hi,e⟩:=DF.mp hb;have:=h i hi;rw [Cs,B8 hi,e] at this;exact this
 ·intro h i hi
  rw [Cs,B8 hi];exact h _ (C6 hi)
theorem yX(hc:X.calm=true):ax X (.builtin "all") (fun xs H Q=>∃ (p:Addr) (bs:List Bool),xs=[V.ref p]/\SqL X.K H p (bs.map V.bl)/\Q (.bl (bs.all id)) H):=by
 intro pins s σ H xs us Q I r h;obtain ⟨p,bs,rfl,hq,q⟩:=h;obtain ⟨u,rfl,ru⟩:=bx r;cases ru;obtain ⟨its,rv,pl,hz⟩:=I.list hq;have hlen:=rv.length;rw [B9] at hlen
 have hlt:p < s.heap.objs.size:=by
  obtain ⟨o,n,e,_⟩:=pl;exact Cf e
 refine call_all_walk (DG pl.isList ⟨s.heap.objs.size,_,_,its.toArray.size,_,_,fun i=>bs.getD i false,rfl,Walks.list (show X.A.in1.handled=none from I.ok.hd hc) s.heap.objs.size p (Cu hlt) its.toArray,
  ⟨⟨_,Cd _ rfl,rfl,rfl⟩,pl.isList.at fun o e=>B7 _ e⟩,fun i v s' Q' E' hP hQ'=> ?_,fun h' tk hk=> ?_⟩)
 ·have hP:its.toArray[i]?=some v:=hP
  have hi:i < bs.length:=by
   have:=(Array.getElem?_eq_some_iff.mp hP).1;rw [Cb] at this;omega
  obtain ⟨u,e1,e2⟩:=rv.get (i:=i) (x:=V.bl bs[i]) (by simp [hi])
  have:v = .bool bs[i]:=by
   rw [show its.toArray[i]?=its[i]? by simp,e1] at hP;cases hP;exact e2
  subst this;have hQ':Q' (bs.getD i false) s':=hQ';rw [show bs.getD i false=bs[i] by simp [Cs,hi]] at hQ';exact Dw hQ'
 ·refine ⟨.bl (bs.all id),H,?_,?_,q⟩
  ·exact I.kept (h':=h') (t':=tk) fun b o e=>hk b o (by have:=Cf e;simp;exact Cu this) (B7 _ e)
  ·show Value.bool _=Value.bool _
   rw [Cb,<- hlen,wp]
theorem yV:ax X (.type "range") (fun xs H Q=>(∃ j:Int,xs=[V.int j]/\∀ l,H l=none->Q (.ref l) (upd H l (.rng 0 j)))\/(∃ i j:Int,xs=[V.int i,V.int j]/\∀ l,H l=none->Q (.ref l) (upd H l (.rng i j)))):=by
 intro pins s σ H xs us Q I r h;have hf:H s.heap.objs.size=none:=I.hok.fresh (Ci _)
 rcases h with ⟨j,rfl,q⟩ | ⟨i,j,rfl,q⟩
 ·obtain ⟨u,rfl,t,rfl⟩:=bx r
  exact call_range_1 ⟨.ref s.heap.objs.size,_,I.laid (o:= .rng 0 j) (fun _ _ e=>B7 _ e) (Ci _) ⟨_,_,_,Cd _ rfl⟩,rfl,q _ hf⟩
 ·obtain ⟨u,w',rfl,⟨t,rfl⟩,⟨t',rfl⟩⟩:=nG r
  exact call_range_2 ⟨.ref s.heap.objs.size,_,I.laid (o:= .rng i j) (fun _ _ e=>B7 _ e) (Ci _) ⟨_,_,_,Cd _ rfl⟩,rfl,q _ hf⟩
theorem xo(lo hi i:Int):(Builtin.Range.rangePlace? lo hi 1 i).isSome=decide (lo<=i/\i < hi):=by
 unfold Builtin.Range.rangePlace?
 by_cases h:lo<=i/\i < hi
 ·rw [Cr h]
  simp [h.1,h.2,Int.emod_one]
 ·rw [CG h]
  by_cases h1:lo<=i
  ·have h2:¬ i < hi:=fun q=>h ⟨h1,q⟩
   simp [h1,h2]
  ·simp [h1]
section
open PySem.SeqAt
open PySem.AutoSeq1 (wpAny_loadPart')
open PySem.MeetsSeq PySem.MeetsSeq2 PySem.MeetsSeq3
theorem vg(l:Addr)(lo hi i:Int)(a b c t:Tok):Meets (Builtin.«range.__contains__» ⟨[.ref l,.int i t],[]⟩)
 (fun _ R s=>s.heap.get? l=some { cls:= .type "range",data:= .fields #[.int lo a,.int hi b,.int 1 c] }/\R (.ok (.ret (.bool (decide (lo<=i/\i < hi))))) s) :=
 .of_wp fun prog w A R s h=>by
  obtain ⟨hp,g,d,tk,os⟩:=s;obtain ⟨hl,h⟩:=h;rw [<- xo] at h
  wp_walk using Di hl
  exact ⟨_,rfl,h⟩
end
def rInR(neg:Bool):R2:=fun x y H Q=>∃ (l:Addr) (i lo hi:Int),x = .int i/\y = .ref l/\H l=some (.rng lo hi)/\Q (.bl (if neg then !decide (lo<=i/\i < hi) else decide (lo<=i/\i < hi))) H
theorem op_inR:OpR X (compareOp .In) (rInR false):=by
 intro pins s σ H x y v u Q I rx ry h;obtain ⟨l,i,lo,hi,rfl,rfl,hl,q⟩:=h;obtain ⟨t,rfl⟩:=rx;cases ry;obtain ⟨a,b,c,e⟩:=(show bn X.prog X.w H s.heap l (.rng lo hi) from I.hok l _ hl);exact PySem.SeqRoads2.in_meets ⟨_,e,rfl⟩ F.slot_range_contains F.entry_range_contains (F.args_range_contains_2 _ _) (vg l lo hi i a b c t) ⟨e,_,rfl,⟨.bl _,H,I,rfl,q⟩⟩
theorem Bg{prog:Program}{w:World}{A:Around}{E:Value->Shared->Prop}{s:Shared}{t b:Addr}{ws:List Value}{Q:Value->Shared->Prop}(ht:IsTup s.heap t #[])(hb:IsTup s.heap b ws.toArray)(h:Q (.ref b) s) :
 wpAny (model prog w) A (binaryOp .Add (.ref t) (.ref b)) Q E s:=by
 obtain ⟨⟨cls,dd,data,sl⟩,ho,hc,n,hd⟩:=id ht;obtain ⟨⟨cls2,dd2,data2,sl2⟩,ho2,hc2,n2,hd2⟩:=id hb;simp only at hc hd hc2 hd2;subst hc hd hc2 hd2
 exact concat_meets ⟨_,ho,rfl⟩ ⟨_,ho2,rfl⟩ noFill_tuple_add seq_tuple_add PySem.F.slot_tuple_add PySem.F.entry_tuple_add (PySem.F.args_tuple_add_2 _ _)
  (tuple_addW0 t b #[] ws.toArray n n2 dd dd2 sl sl2 (by simp)) ⟨ho,ho2,h⟩
end
end L2
namespace HT
open PySem PySem.Spec PyProof.Rows
section
variable{prog:Program}{w:World}{A:Around}{E:Value->Shared->Prop}{s:Shared}
theorem g9{t sl:Addr}{items:Array Value}{vl vu:Value}{lo hi:Option Int}{Q:Value->Shared->Prop}(ht:IsTup s.heap t items)(hs:s.heap.IsSliceOf sl vl vu .none)(pl:IsPart vl lo)(pu:IsPart vu hi)
 (hw:sIx items.size 0 lo=0/\sIx items.size items.size hi=items.size) (h:Q (.ref t) s):wpAny (model prog w) A (getItem (.ref t) (.ref sl)) Q E s:=by
 obtain ⟨os,hos,hcs,hds⟩:=id hs;have hTs:s.TypeIs (.ref sl) "slice" := ⟨os,hos,hcs⟩;unfold getItem
 try with_reducible refine Du ?_
 first | refine B6 (Ca ?_) | skip
 refine B6 (wpAny_sequenceKey ht.typeIs (by decide) ?_)
 refine B6 (CM (name:=Str.ofString "__getitem__") ht.typeIs PyProof.Rows.slot_tuple_getitem
  (C1 PyProof.Rows.slot_tuple_getitem ht.typeIs entry_tuple_getitem ?_ (args_tuple_getitem _ _)))
 show wpAny _ _ (Builtin.Tuple.tupleItemsOf (.ref t) >>= _) _ _ s
 refine B6 (tupleItemsOf_ ht (B6 (wpAny_typeOf hTs ?_)));rw [if_pos (by decide)];refine B6 (eS hs pl pu ?_)
 show wpAny _ _ (if (((sIx items.size 0 lo:Nat):Int) == 0&&(1:Int) == 1&&(sIx items.size items.size hi - sIx items.size 0 lo) == items.size)=true then _ else _) _ _ s
 rw [if_pos (by rw [hw.1,hw.2];simp)];unfold Builtin.Tuple.tupleIsExact;refine B6 (B6 (wpAny_typeOf ht.typeIs (Ca ?_)));rw [if_pos (by decide)];exact B6 (wpAny_rule (Ca ⟨_,rfl,Ca h⟩))
end
end HT
namespace L2
open PySem PySem.Spec PyProof.Rows
section
variable{X:Cx}
end
end L2
namespace Srt
open PySem PySem.W PyProof.Rows
def All{α:Type}(n:Nat)(P:α->Prop):KasT α->Prop
 | .ret a=>P a
 | .ask i j k=>i < n/\j < n/\∀ b,All n P (k b)
theorem All.bind{α β:Type}{n:Nat}{P:β->Prop}{f:α->KasT β}:∀ {t:KasT α},All n (fun a=>All n P (f a)) t->All n P (t.bind f)
 | .ret _,h=>h
 | .ask _ _ _,⟨h1,h2,h3⟩=>⟨h1,h2,fun b=>All.bind (h3 b)⟩
theorem All.mono{α:Type}{n:Nat}{P P':α->Prop}(hp:∀ a,P a->P' a):∀ {t:KasT α},All n P t->All n P' t
 | .ret a,h=>hp a h
 | .ask _ _ _,⟨h1,h2,h3⟩=>⟨h1,h2,fun b=>All.mono hp (h3 b)⟩
def bZ(n:Nat)(p:Array Nat):Prop:=0 < n/\p.toList.Perm (List.range n)
theorem bZ.lt{n:Nat}{p:Array Nat}(g:bZ n p)(k:Nat):p.getD k 0 < n:=by
 by_cases h:k < p.size
 ·have e:p.getD k 0=p[k]:=by simp [Array.getD,h]
  rw [e];have m:p[k]∈List.range n:=g.2.mem_iff.mp (by simp);simpa using m
 ·have e:p.getD k 0=0:=by simp [Array.getD,h]
  rw [e];exact g.1
theorem bZ.perm{n:Nat}{p p':Array Nat}(g:bZ n p)(h:p'.Perm p):bZ n p':=⟨g.1,(Array.perm_iff_toList_perm.mp h).trans g.2⟩
theorem bZ.rev{n:Nat}{p:Array Nat}(g:bZ n p)(i j:Nat):bZ n (kas_rev p i j):=g.perm (mirror_perm _ _ _ _)
theorem asc{n:Nat}{p:Array Nat}(g:bZ n p):∀ f k,All n (fun _=>True) (kas_asc p f k)
 | 0,_=>trivial
 | f+1,k=>⟨g.lt _,g.lt _,fun b=>by
  cases b with
  | true=>show All n _ (if true=true then _ else _);rw [if_pos rfl];trivial
  | false=>show All n _ (if false=true then _ else _);rw [if_neg Cj];exact asc g f (k+1)⟩
theorem Ba{n:Nat}:∀ f {p:Array Nat} (k q:Nat),bZ n p->All n (fun r=>bZ n r.1) (kas_desc f p k q)
 | 0,p,_,_,g=>g
 | f+1,p,k,q,g=>⟨g.lt _,g.lt _,fun b=>by
  cases b with
  | true =>
   show All n _ (if true=true then _ else _)
   rw [if_pos rfl]
   by_cases hq:q > 0
   ·rw [if_pos hq];exact Ba f _ _ (g.rev _ _)
   ·rw [if_neg hq];exact Ba f _ _ g
  | false =>
   show All n _ (if false=true then _ else _)
   rw [if_neg Cj];refine ⟨g.lt _,g.lt _,fun b=> ?_⟩
   cases b with
   | true=>show All n _ (if true=true then _ else _);rw [if_pos rfl];exact g
   | false=>show All n _ (if false=true then _ else _);rw [if_neg Cj];exact Ba f _ _ g⟩
theorem Bu{n:Nat}{p:Array Nat}(g:bZ n p)(k nrem:Nat):All n (fun r:Nat×Array Nat=>bZ n r.2) (kas_tail3 k nrem p):=by
 unfold kas_tail3;exact ((asc (g.rev _ _) _ _).mono fun m _=>(show All n (fun r:Nat×Array Nat=>bZ n r.2) (KasT.ret (m,kas_rev p 0 k)) from g.rev _ _)).bind
theorem rB{n:Nat}{p:Array Nat}(g:bZ n p)(k nrem:Nat):All n (fun r:Nat×Array Nat=>bZ n r.2) (kas_descPart k nrem p):=by
 unfold kas_descPart;refine ((Ba _ _ _ g).mono fun r hr=> ?_).bind
 by_cases h:r.2.2 > 0
 ·rw [if_pos h];exact Bu (hr.rev _ _) _ _
 ·rw [if_neg h];exact Bu hr _ _
theorem count{n:Nat}{p:Array Nat}(g:bZ n p)(nrem:Nat):All n (fun r:Nat×Array Nat=>bZ n r.2) (kas_count nrem p):=by
 unfold kas_count;refine ((asc g _ _).mono fun k _=> ?_).bind
 by_cases h:(k == nrem)=true
 ·rw [if_pos h];exact g
 ·rw [if_neg h]
  by_cases h2:k > 1
  ·rw [if_pos h2]
   refine ⟨g.lt _,g.lt _,fun b=> ?_⟩
   cases b with
   | true=>show All n _ (if true=true then _ else _);rw [if_pos rfl];exact g
   | false=>show All n _ (if false=true then _ else _);rw [if_neg Cj];exact rB (g.rev _ _) _ _
  ·rw [if_neg h2];exact rB g _ _
theorem xq{n:Nat}{p:Array Nat}(g:bZ n p)(k:Nat):∀ f l r,All n (fun _=>True) (kas_place p k f l r)
 | 0,_,_=>trivial
 | f+1,l,r=>by
  unfold kas_place
  by_cases h:l>=r
  ·rw [if_pos h];trivial
  ·rw [if_neg h]
   refine ⟨g.lt _,g.lt _,fun b=> ?_⟩
   cases b with
   | true=>show All n _ (if true=true then _ else _);rw [if_pos rfl];exact xq g k f _ _
   | false=>show All n _ (if false=true then _ else _);rw [if_neg Cj];exact xq g k f _ _
theorem bin{n:Nat}:∀ f {p:Array Nat} (k:Nat),bZ n p->All n (bZ n) (kas_bin f p k)
 | 0,_,_,g=>g
 | f+1,p,k,g=>((xq g k k 0 k).mono fun l _=>bin f (k+1) (g.perm (bubble_perm _ _ _))).bind
theorem sort{n:Nat}(h:0 < n):All n (bZ n) (kas_sort n):=by
 unfold kas_sort;have g:bZ n (List.toArray (List.range n)):=⟨h,by simp⟩;refine ((count g n).mono fun r hr=> ?_).bind
 by_cases h:r.1 < n
 ·rw [if_pos h];exact bin _ _ hr
 ·rw [if_neg h];exact hr
section
variable{prog:Program}{w:World}{A:Around}{E:Value->Shared->Prop}{s:Shared}
def Tups(h:Heap)(vs:List Value):Prop:=∀ v∈vs,∃ a items ns,v = .ref a/\IsTup h a items/\IntsAre items.toList ns/\ns≠[]
theorem yI{M:Model}{h:Heap}:∀ {vs:List Value},Tups h vs->∃ fs,fs.length=vs.length/\KatTups h vs fs/\∀ v∈fs,Looks M h (typeOf v) (.type "int")
 | [],_=>⟨[],rfl,.nil,fun v hv=>by cases hv⟩
 | v::vs,t=>by
  obtain ⟨fs,h1,h2,h3⟩:=yI (M:=M) (vs:=vs) fun u hu=>t u (Ce _ hu)
  obtain ⟨a,items,ns,rfl,⟨o,g1,g2,n,g3⟩,i,ne⟩:=t v Ck
  cases hi:items.toList with
  | nil =>
   rw [hi] at i;cases i;exact absurd rfl ne
  | cons f r =>
   rw [hi] at i
   cases i with
   | cons x tk _ =>
    refine ⟨.int x tk::fs,by simp [h1],.cons g1 g2 g3 (by rw [<- DC,hi];rfl) h2,fun u hu=> ?_⟩
    rcases List.mem_cons.mp hu with rfl | hu
    ·exact .now
    ·exact h3 u hu
end
end Srt
namespace L2
open PySem PySem.Spec PyProof.Rows
def qy:Value->V
 | .ref b=> .ref b
 | _=> .non
theorem jE:∀ {l:List Value},(∀ u∈l,∃ b,u = .ref b)->aw (l.map qy) l
 | [],_=> .nil
 | u::l,h=>by
  obtain ⟨b,rfl⟩:=h u Ck;exact .cons rfl (jE fun v hv=>h v (Ce _ hv))
theorem nS:∀ {bs:List V} {l:List Value},aw bs l->(∀ b∈bs,∃ a,b = .ref a)->bs=l.map qy/\∀ u∈l,∃ b,u = .ref b
 | _,_,.nil,_=>⟨rfl,fun u hu=>by cases hu⟩
 | _,_,.cons r t,h=>by
  obtain ⟨a,rfl⟩:=h _ Ck;cases r
  obtain ⟨e,q⟩:=nS t fun b hb=>h b (Ce _ hb)
  refine ⟨by rw [Cq,<- e];rfl,fun u hu=> ?_⟩
  rcases List.mem_cons.mp hu with rfl | hu
  ·exact ⟨a,rfl⟩
  ·exact q u hu
section
variable{X:Cx}
end
inductive Dt where
 | non | bl (b:Bool) | int (i:Int) | str (x:Str) | lst | dct | tup (ds:List Dt)
mutual
def Rep(K:EG)(H:Hp):Dt->V->Prop
 | .non,v=>v = .non
 | .bl b,v=>v = .bl b
 | .int i,v=>v = .int i
 | .str x,v=>v = .str x
 | .lst,v=>∃ p xs,v = .ref p/\SqL K H p xs
 | .dct,v=>∃ p,v = .ref p/\((∃ kvs,H p=some (.dK kvs))\/∃ kvs,H p=some (.dT kvs))
 | .tup ds,v=>∃ p xs,v = .ref p/\SqT K H p xs/\zh K H ds xs
def zh(K:EG)(H:Hp):List Dt->List V->Prop
 | [],[]=>True
 | d::ds,x::xs=>Rep K H d x/\zh K H ds xs
 | _,_=>False
end
theorem ac.tup{K:EG}{H H':Hp}{a:Addr}{xs:List V}(e:ac H H')(h:SqT K H a xs):SqT K H' a xs:=by
 rcases h with (h | ⟨o,h⟩) | h
 ·exact .inl (.inl (e _ _ h))
 ·exact .inl (.inr ⟨o,e _ _ h⟩)
 ·exact .inr h
theorem ac.upd{H:Hp}{p:Addr}{o:HO}(h:H p=none):ac H (L2.upd H p o):=fun b u e=>by rw [am (ar e h)];exact e
mutual
theorem ac.rep{K:EG}{H H':Hp}(e:ac H H'):∀ {d:Dt} {v:V},Rep K H d v->Rep K H' d v
 | .non,_,h=>h
 | .bl _,_,h=>h
 | .int _,_,h=>h
 | .str _,_,h=>h
 | .lst,_,⟨p,xs,h1,h2⟩=>⟨p,xs,h1,e.seq h2⟩
 | .dct,_,⟨p,h1,h2⟩=>⟨p,h1,h2.elim (fun hZ=>(by obtain ⟨k,q⟩:=hZ;exact .inl ⟨k,e _ _ q⟩)) fun hZ=>(by obtain ⟨k,q⟩:=hZ;exact .inr ⟨k,e _ _ q⟩)⟩
 | .tup _,_,⟨p,xs,h1,h2,h3⟩=>⟨p,xs,h1,e.tup h2,e.repL h3⟩
theorem ac.repL{K:EG}{H H':Hp}(e:ac H H'):∀ {ds:List Dt} {xs:List V},zh K H ds xs->zh K H' ds xs
 | [],[],_=>trivial
 | _::_,_::_,h=>⟨e.rep h.1,e.repL h.2⟩
 | [],_::_,h=>h.elim
 | _::_,[],h=>h.elim
end
structure Has(K:EG)(mg:Str->Option Value)(x:Str)(st:Stmt)(ps:List Str):Prop where
 ex:∃ f fd,Fun K x x st f fd/\mg x=some (.ref f)/\kC K fd ps []
section
variable{X:Cx}{e:Expr}{es:List Expr}{t:TA}{x:Str}{ps:List Str}{k:Nat}{sp:Sp}{p pos:Pos}
end
theorem iteB{c:Bool}{A B:Prop}(h1:c=true->A)(h2:c=false->B):if c=true then A else B:=by
 cases c with
 | true=>rw [if_pos rfl];exact h1 rfl
 | false=>rw [if_neg Cj];exact h2 rfl
section
variable{X:Cx}{Pre:St->Hp->Prop}
end
structure fh(osc:Scope)(N:List Str)(sc:Scope)(M tgs:List Str):Prop where
 kind:sc.kind = .function
 names:∀ y∈sc.names,y.2 = .local->sc.names.lookup y.1=some .local
 nocell:∀ y∈sc.names,y.2 ≠ .cell
 free:∀ y∈sc.names,y.2 = .free->osc.names.lookup y.1=some .cell\/osc.names.lookup y.1=some .free
 len:M.length=N.length
 same:∀ p∈M.zip N,p.1=p.2\/p.1=("" : Str)
 dummy:sc.names.lookup ("" : Str)=none
 hid:∀ x∈M,sc.names.lookup x≠some .local
 nd:(M++tgs).Nodup
theorem fh.ok{X:Cx}{osc:Scope}{N:List Str}{sc:Scope}{M tgs:List Str}(b:fh osc N sc M tgs)(h1:X.env.scope=osc:=by rfl)(h2:X.N=N:=by rfl):mR X sc M tgs:=by
 subst h1 h2;exact ⟨b.kind,b.names,b.nocell,b.free,b.len,b.same,b.dummy,b.hid⟩
section
variable{κ:Type}[DecidableEq κ]
end
theorem bn.there{P:Program}{w:World}{H:Hp}{h:Heap}{a:Addr}{o:HO}(x:bn P w H h a o):∃ ob,h.get? a=some ob:=by
 cases o with
 | lst xs=>obtain ⟨_,_,_,_,e⟩:=x;exact ⟨_,e⟩
 | tup xs=>obtain ⟨_,_,_,ob,e,_⟩:=x;exact ⟨ob,e⟩
 | dK kvs=>obtain ⟨_,_,_,_,o,_,_,e,_⟩:=x;exact ⟨_,e⟩
 | dT kvs=>obtain ⟨_,_,_,_,o,_,_,e,_⟩:=x;exact ⟨_,e⟩
 | set S n=>obtain ⟨o,_,_,_,e,_⟩:=x;exact ⟨_,e⟩
 | ins C dx fs=>obtain ⟨_,_,_,e,_⟩:=x;exact ⟨_,e⟩
 | own y=>exact x
 | xd fs=>obtain ⟨_,⟨_,_,_,e,_⟩,_⟩:=x;exact ⟨_,e⟩
 | rng lo hi=>obtain ⟨_,_,_,e⟩:=x;exact ⟨_,e⟩
 | frz ob u=>obtain ⟨e,_⟩:=x;exact ⟨_,e⟩
 | tbl ps=>exact ⟨_,(show h.get? a=some _ from x)⟩
 | met f y=>exact ⟨_,(show h.get? a=some _ from x)⟩
 | ext φ=>obtain ⟨_,e,_⟩:=x;exact e
theorem HOk.none_of{P:Program}{w:World}{H:Hp}{h:Heap}{a:Addr}(x:HOk P w H h)(e:h.get? a=none):H a=none:=by
 cases q:H a with
 | none=>rfl
 | some u =>
  obtain ⟨ob,z⟩:=(x a u q).there;rw [e] at z;cases z
structure zg(fs:List Addr)(ea T:Addr)(h h':Heap):Prop where
 keep:∀ b o,h.get? b=some o->b∉fs->b≠ea->b≠T->h'.get? b=some o
 slot:∀ b o,h.get? b=some o->b∈fs->∃ sl,h'.get? b=some { o with slots:=sl }
structure iA(g:Heap)(H:Hp)(ea T:Addr)(cls:Value)(h:Heap):Prop where
 obj:∃ (oe:Obj) (vs:Array Value) (oT:Obj) (ts:Array Value) (a0:Value),h.get? ea=some oe/\(oe.cls=cls/\vs[0]?=some a0)/\oe.data = .fields vs/\vs[1]?=some (.ref T)/\T≠ea/\h.get? T=some oT/\oT.data = .fields ts/\ts[3]?=some .none
 he:H ea=none
 hT:H T=none
 ge:g.get? ea=none
 gT:g.get? T=none
section
variable{P:Program}{w:World}{fs fs' ex:List Addr}{H₀ H:Hp}{g g₀ h h' base:Heap}{ea T:Addr}{cls:Value}{l l':List Env}
theorem iA.older(F:iA g H ea T cls h)(k:∀ b o,g₀.get? b=some o->∃ o',g.get? b=some o'):iA g₀ H ea T cls h:=by
 refine ⟨F.obj,F.he,F.hT,?_,?_⟩
 ·cases q:g₀.get? ea with
  | none=>rfl
  | some o=>obtain ⟨o',z⟩:=k _ _ q;rw [F.ge] at z;cases z
 ·cases q:g₀.get? T with
  | none=>rfl
  | some o=>obtain ⟨o',z⟩:=k _ _ q;rw [F.gT] at z;cases z
theorem iA.flyingW(F:iA g H ea T cls h)(hl:h.FunFrames base l):∃ a0,Heap.FlyingW (PySem.W.hideAll h (ea::T::frs l)) l ea cls a0 h:=by
 obtain ⟨oe,vs,oT,ts,a0,h1,h2,h3,h4,h5,h6,h7,h8⟩:=F.obj;refine ⟨a0,fun b o e=>PySem.W.of_hideAll _ e,PySem.W.hideAll_none _ Ck,PySem.W.funFrames_hide hl (fun env he a hf=> ?_),oe,vs,T,oT,ts,h1,h2,h3,h4,PySem.W.hideAll_none _ (Ce _ Ck),h5,h6,h7,h8⟩;exact Ce _ (Ce _ (ED.mpr ⟨env,he,hf⟩))
theorem mq(F:iA g H ea T cls h)(hl:h.FunFrames base l)(hok:HOk P w H h)(hg:∀ b o,g.get? b=some o->∃ o',h.get? b=some o'){a0:Value}
 (x:Heap.FlyingW (PySem.W.hideAll h (ea::T::frs l)) l' ea cls a0 h') (up:h.UpToSlots h'):zg (frs l) ea T h h'/\∃ T',iA g H ea T' cls h':=by
 obtain ⟨x1,x2,x3,oe,vs,T',oT,ts,y1,y2,y3,y4,y5,y6,y7,y8,y9⟩:=x
 have slot:∀ b o,h.get? b=some o->b∈frs l->∃ sl,h'.get? b=some { o with slots:=sl }:=fun b o e hb=>by
  obtain ⟨_,o',ho',nf⟩:=hl.mem hb;rw [e] at ho';cases ho';exact up b o e nf
 refine ⟨⟨fun b o e n1 n2 n3=>x1 b o (Eb _ e (by simp [n1,n2,n3])),slot⟩,T',?_⟩
 have fr:H T'=none/\g.get? T'=none:=by
  by_cases q:T'=T
  ·subst q;exact ⟨F.hT,F.gT⟩
  ·have nf:T'∉frs l:=fun hb=>by
    obtain ⟨_,o,ho,nf⟩:=hl.mem hb;obtain ⟨sl,z⟩:=slot T' o ho hb;rw [y7] at z;cases z;exact nf ts y8
   have hn:h.get? T'=none:=by
    cases z:h.get? T' with
    | none=>rfl
    | some o =>
     have:=Eb (ea::T::frs l) z (by simp [nf,q,y6]);rw [y5] at this;cases this
   refine ⟨hok.none_of hn,?_⟩
   cases z:g.get? T' with
   | none=>rfl
   | some o=>obtain ⟨o',z'⟩:=hg _ _ z;rw [hn] at z';cases z'
 exact ⟨⟨oe,vs,oT,ts,a0,y1,y2,y3,y4,y6,y7,y8,y9⟩,F.he,fr.1,F.ge,fr.2⟩
theorem Un.turn(u:Un fs ex H₀ H g h)(t:zg fs' ea T h h')(ge:g.get? ea=none)(gT:g.get? T=none)(h1:∀ b∈fs,b∈fs')(h2:∀ b∈fs',b∉fs->g.get? b=none):Un fs ex H₀ H g h' where
 keep:=fun b o q n hb hx=>t.keep b o (u.keep b o q n hb hx) (fun z=>by rw [h2 b z hb] at q;cases q) (fun z=>by rw [z,ge] at q;cases q) (fun z=>by rw [z,gT] at q;cases q)
 slot:=fun b o q n hb hx=>by
  obtain ⟨sl,e⟩:=u.slot b o q n hb hx;obtain ⟨sl',e'⟩:=t.slot b _ e (h1 b hb);exact ⟨sl',e'⟩
 free:=u.free
 there:=fun b o q hx=>by
  obtain ⟨o',e⟩:=u.there b o q hx
  by_cases hb:b∈fs'
  ·obtain ⟨sl,e'⟩:=t.slot b o' e hb
   exact ⟨_,e'⟩
  ·exact ⟨o',t.keep b o' e hb (fun z=>by rw [z,ge] at q;cases q) (fun z=>by rw [z,gT] at q;cases q)⟩
 tups:=u.tups
 frzs:=u.frzs
 tbls:=u.tbls
theorem HOk.turn(x:HOk P w H h)(t:zg fs ea T h h')(he:H ea=none)(hT:H T=none)(hf:∀ b∈fs,H b=none):HOk P w H h':=fun a o e=>by
 have ne:∀ b,(b=a\/H b=some (.own a))->H b≠none:=fun b hb z=>by
  rcases hb with rfl | hb
  ·rw [z] at e;cases e
  ·rw [z] at hb;cases hb
 exact (x a o e).stay (fun b u hb q=>t.keep b u q (fun z=>ne b hb (hf b z)) (fun z=>ne b hb (z ▸ he)) (fun z=>ne b hb (z ▸ hT))) (fun _ q=>q) fun _ _ q=>q
end
def CXr(P:Program)(w:World):CXT:=fun outer H s E e s'=>∃ ea T cls H',e = .ref ea/\s'.os=s.os/\AllBare s'.gens/\Un (frs outer) [] H H' s.heap s'.heap/\HOk P w H' s'.heap/\iA s.heap H' ea T cls s'.heap/\E cls none H'
section
variable{P:Program}{w:World}{K:EG}{mg:Str->Option Value}{base:Heap}{N:List Str}{qual:Str}{scope:Scope}{f:Addr}{cd:Value}{A:Around}{outer:List Env}{s:Shared}{H:Hp}{E E':XK}
theorem rk{env:Env}{L:Addr}{l:List Env}(h:env.frame=some L):frs (env::l)=L::frs l:=by unfold frs;rw [EA,h]
theorem xE(himp:∀ c d H,E' c d H->E c d H):t8 (CXr P w) (bN (CXr P w) P w K mg base N qual scope f cd A outer s H E) E':=by
 intro pins σ H1 s1 e s2 I hx;obtain ⟨ea,T,cls,H2,rfl,os,bare,un,hok,fl,e1⟩:=hx
 have I2:Inv (bN (CXr P w) P w K mg base N qual scope f cd A outer s H E) pins σ H2 s2:=I.call' (ch:=[]) os un hok bare fun b z=>absurd z (by simp)
 have fl:=fl.older (g₀:=s.heap) fun b o q=>I.base.there b o q (by show b∉[];simp)
 obtain ⟨a0,fw⟩:=fl.flyingW I2.stack
 refine wpAny_leaves_onW I2.ok.frames rfl fw fun h' x1 x2=> ?_
 obtain ⟨tn,T',fl'⟩:=mq fl I2.stack hok (fun b o q=>I2.base.there b o q (by show b∉[];simp)) x1 x2;have e2:frs (bN (CXr P w) P w K mg base N qual scope f cd A outer s H E).stack=s.heap.objs.size::frs outer:=rk rfl;refine ⟨ea,T',cls,H2,rfl,I2.os,bare,Un.turn I2.base tn fl.ge fl.gT (fun b hb=> ?_) (fun b hb nb=> ?_),hok.turn tn fl.he fl.hT I2.stkFree,fl',himp _ _ _ e1⟩
 ·rw [e2];exact Ce _ hb
 ·rw [e2] at hb
  rcases List.mem_cons.mp hb with rfl | hb
  ·exact Heap.get?_none_of_le (Ci _)
  ·exact absurd hb nb
def tRaise(C:Addr)(E:XK):TS:=fun _ _ H=>E (.ref C) none H
theorem vh{x:Str}{C:Addr}{bm:List Value}{B newId initId:String}{np cpos pos:Pos}(O:OwnCls x C bm newId mg base)(FB:ExcBaseFacts B newId initId bm)(hh:(A.deeper (envOfC qual scope s.heap.objs.size f cd)).handled=none)
 (hg:Gl (bN (CXr P w) P w K mg base N qual scope f cd A outer s H E) x) (hd:(x == ("__debug__" : Str))=false:=by decide):PS (bN (CXr P w) P w K mg base N qual scope f cd A outer s H E) (.Raise (some (.Call (.Name x np) [] [] cpos)) none pos) (tRaise C E):=by
 intro pins s1 σ H1 D I h;obtain ⟨tl,N',nm,q,bs,hdct,sn,sub,ab,col,dd,k0,k1,k2,k3,k5,mN,hC,hN,hni,T⟩:=O.obj
 refine wpAny_Raise_call_subT (C:=C) (nm:=nm) (q:=q) (N:=N') (bs:=bs) (bm:=tl) (hdct:=hdct) (sn:=sn) (sub:=sub) (ab:=ab) (col:=col) (dd:=dd) (k0:=k0) (k1:=k1) (k2:=k2) (k3:=k3) (k5:=k5)
  FB (mN:=mN) (T.hasType FB.hasBase) hh rfl hni (gW I hg O.bound ⟨rfl,?_⟩ hd)
 refine evalArgs_empty ⟨rfl,Ek _,I.bk _ _ hC,hN.keeps I.bk,T.keeps I.bk,fun h' e hm=> ?_⟩
 have hin:∀ env∈(bN (CXr P w) P w K mg base N qual scope f cd A outer s H E).stack,∀ b,env.frame=some b->b∈frs (bN (CXr P w) P w K mg base N qual scope f cd A outer s H E).stack:=fun env he b hb=>ED.mpr ⟨env,he,hb⟩
 refine wpAny_leaves_madeW (base:=PySem.W.hideAll s1.heap (frs (bN (CXr P w) P w K mg base N qual scope f cd A outer s H E).stack)) (h:=s1.heap) I.ok.frames rfl (fun b o q=>PySem.W.of_hideAll _ q) (PySem.W.funFrames_hide I.stack hin) hm fun h'' t x1 x2 x3 x4=> ?_
 obtain ⟨y1,y2,y3,oe,vs,T',oT,ts,z1,z2,z3,z4,z5,z6,z7,z8,z9⟩:=x1
 have tn:zg (frs (bN (CXr P w) P w K mg base N qual scope f cd A outer s H E).stack) e T' s1.heap h'':=by
  refine ⟨fun b o q n1 _ _=>y1 b o (Eb _ q n1),fun b o q hb=> ?_⟩;obtain ⟨_,o',ho',nf⟩:=I.stack.mem hb;rw [q] at ho';cases ho';exact x4 b o (hm.keeps b o q) nf
 have hT:s1.heap.get? T'=none:=by
  have nf:T'∉frs (bN (CXr P w) P w K mg base N qual scope f cd A outer s H E).stack:=fun hb=>by
   obtain ⟨_,o,ho,nf⟩:=I.stack.mem hb;obtain ⟨sl,z⟩:=tn.slot T' o ho hb;rw [z7] at z;cases z;exact nf ts z8
  cases z:s1.heap.get? T' with
  | none=>rfl
  | some o =>
   have:=Eb _ z nf;rw [z5] at this;cases this
 have e2:frs (bN (CXr P w) P w K mg base N qual scope f cd A outer s H E).stack=s.heap.objs.size::frs outer:=rk rfl
 have fl:iA s.heap H1 e T' (.ref C) h'':=by
  refine iA.older (g:=s1.heap) ⟨⟨oe,vs,oT,ts,_,z1,z2,z3,z4,z6,z7,z8,z9⟩,I.hok.none_of hm.new,I.hok.none_of hT,hm.new,hT⟩ fun b o q=>I.base.there b o q (by show b∉[];simp)
 refine ⟨e,T',.ref C,H1,rfl,I.os,I.bare,Un.turn I.base tn fl.ge fl.gT (fun b hb=> ?_) (fun b hb nb=> ?_),I.hok.turn tn fl.he fl.hT I.stkFree,fl,h⟩
 ·rw [e2];exact Ce _ hb
 ·rw [e2] at hb
  rcases List.mem_cons.mp hb with rfl | hb
  ·exact Heap.get?_none_of_le (Ci _)
  ·exact absurd hb nb
end
structure OkX(P:Program)(w:World)(K:EG)(mg:Str->Option Value)(base:Heap)(x:Str)(ps:List Str)(k:Nat)(sp:Sp):Prop where
 ex:∃ f fd,mg x=some (.ref f)/\PySem.W.keepIn K (.ref f)=true/\kC K fd ps []/\mQ P w K mg base (CXr P w) k f fd ps sp
theorem Has.okX{P:Program}{w:World}{K:EG}{mg:Str->Option Value}{base:Heap}{x:Str}{st:Stmt}{N ps:List Str}{k:Nat}{sp:Sp}(h:Has K mg x st ps)(S:cR N ps (aa st))(len:∀ vs H Q E,sp vs H Q E->vs.length=ps.length)
 (hbody:∀ (f:Addr) (cdv:Value) (A:Around) (outer:List Env) (s:Shared) (H:Hp) (vs:List V) (Q:VK) (E:XK),cf k (A.deeper (envOfC x (aa st) s.heap.objs.size f cdv))->sp vs H Q E ->
   ∃ t,PSs (bN (CXr P w) P w K mg base N x (aa st) f cdv A outer s H E) (bA st) t/\t { nx:=fun _ H'=>Q .non H',rt:=Q } (cU N vs) H):OkX P w K mg base x ps (k+1) sp:=by
 obtain ⟨f,fd,F,hm,hb⟩:=h.ex;obtain ⟨oc,od,kV,doc,pm,an,cdv,ct,osl,rfl,lk,hcd⟩:=F.ex;exact ⟨f,_,hm,F.kp,hb,BY lk hcd S len fun A outer s H vs Q E hr hsp=>hbody f cdv A outer s H vs Q E hr hsp⟩
section
variable{X:Cx}{e:Expr}{es:List Expr}{t:TA}{x:Str}{ps:List Str}{k:Nat}{sp:Sp}{p pos:Pos}
end
theorem Inv.frame{X:Cx}{pins:List (Addr×Obj)}{σ σ':St}{H:Hp}{s:Shared}{h':Heap}{t':Nat}{m':Str->Option Value}(I:Inv X pins σ H s)(hn':h'.Ns X.env.locals m')(hs:Heap.SameBut X.env.locals s.heap h')
 (hl:∀ (i:Nat) (x:Str) (v:V),X.N[i]?=some x->σ'[i]?=some (some v)->Vis X.env.scope x->∃ u,aD v u/\Look X.env h' m' x u) (len:σ'.length=σ.length):Inv X pins σ' H { s with heap:=h',toks:=t' }:=by
 have neL:∀ b o,X.s₀.heap.get? b=some o->b≠X.env.locals:=fun b o e=>Cu (CD (Cf e) I.ok.above)
 have tracked:HOk X.prog X.w H h':=fun b ob e=>by
  refine (I.hok b ob e).stay (fun c w' hc q=>(hs.2 c ?_).trans q) (fun _ q=>q) fun _ _ q=>q
  rintro rfl
  rcases hc with rfl | hc
  ·rw [I.free] at e;cases e
  ·rw [I.free] at hc;cases hc
 refine ⟨I.ok,I.os,I.bare,⟨fun b o e n hb hx=> ?_,fun b o e n hb hx=> ?_,I.base.free,fun b o e hx=> ?_,I.base.tups,I.base.frzs,I.base.tbls⟩,⟨m',hn',hl⟩,fun y c e=> ?_,I.free,I.freeC,fun p hp=> ?_,tracked,len.trans I.len⟩
 ·exact (hs.2 b (neL b o e)).trans (I.base.keep b o e n hb hx)
 ·obtain ⟨sl,e1⟩:=I.base.slot b o e n hb hx
  exact ⟨sl,(hs.2 b (neL b o e)).trans e1⟩
 ·obtain ⟨o',e1⟩:=I.base.there b o e hx
  exact ⟨o',(hs.2 b (neL b o e)).trans e1⟩
 ·obtain ⟨w',z⟩:=I.cell y c e
  exact ⟨w',z.sameBut hs (I.cne y c e)⟩
 ·obtain ⟨e,n,ne,nf,d⟩:=I.pin p hp
  exact ⟨(hs.2 p.1 ne).trans e,n,ne,nf,d⟩
theorem gU{X:Cx}{pins:List (Addr×Obj)}{σ:St}{H:Hp}{s:Shared}{M:Model}{A:Around}{E:Value->Shared->Prop}{Q:Unit->Shared->Prop}{i:Nat}{n:Str}{pos:Pos}(I:Inv X pins σ H s)(hN:X.N.Nodup)(hi:X.N[i]?=some n)(hlo:X.env.scope.names.lookup n=some .local)
 (h:∀ s',Inv X pins (σ.set i none) H s'->Q () s'):wpAny M A (do bindName X.env n .none;unbindBehindTheSuite X.env n pos) Q E s:=by
 have hl:X.env.kindOf n=some .local:=hlo
 have hp:(X.env.scope.kind == .class||(X.env.scope.kind == .module&&X.env.locals != X.env.globals))=false:=by rw [I.ok.kind];rfl
 have hiσ:i < σ.length:=by rw [I.len];exact (Cm.mp hi).1
 refine B6 (wpAny_bindName (fU I hN hi (.inl hlo) (v:= .non) rfl (fun s1 I1=> ?_) (.inr hlo)));obtain ⟨m,hn,hlk⟩:=id I1.loc
 have hmn:m n=some Value.none:=by
  obtain ⟨u,r,q⟩:=hlk i n .non hi (C8 hiσ) (.inl hlo);cases r
  rcases q with ⟨_,z⟩ | ⟨k,_⟩
  ·exact z
  ·rcases k with k | k<;>(rw [hl] at k;cases k)
 unfold unbindBehindTheSuite;refine wpAny_onRaise ?_;unfold unbindName;refine B6 (wpAny_point (B6 ?_));unfold deleteName;simp only [hl,hp];rw [if_neg (by decide)];refine B6 (wpAny_nsDel_keeps hn fun h2 v hn2 hs2=> ?_);rw [hmn];simp only [if_true,Option.isSome_some,Bool.not_true,Ds,if_false];refine Ca (wpAny_point (h _ ?_));refine I1.frame (t':=s1.toks) hn2 hs2 (fun j y v' e1 e2 e3=> ?_) (by simp)
 have hj:j≠i:=fun z=>by
  subst z;rw [C8 hiσ] at e2;cases e2
 rw [CJ (Ne.symm hj)] at e2;obtain ⟨u,r,q⟩:=hlk j y v' e1 (by rw [CJ (Ne.symm hj)];exact e2) e3;refine ⟨u,r,?_⟩
 rcases q with ⟨k,e⟩ | ⟨k,c,e,z⟩
 ·refine .inl ⟨k,?_⟩
  have:y≠n:=fun e=>hj (l8 hN e1 (e ▸ hi))
  simp [this,e]
 ·exact .inr ⟨k,c,e,z.sameBut hs2 (I1.cne y c e)⟩
abbrev qa(X:Cx)(pn:List (Addr×Obj))(W:Value->St->Hp->Prop):Cx :=
 { X with pn:=pn,xe:=fun e s'=>∃ σ' H1 s1,Inv { X with pn:=pn } [] σ' H1 s1/\CXr X.prog X.w X.stack H1 s1 (fun c _ H'=>W c σ' H') e s' }
abbrev iB(X:Cx)(pn:List (Addr×Obj))(ea:Addr):Cx:={ X with pn:=pn,A:=X.A.mark (some (.ref ea)),calm:=false,xe:=fun _ _=>False }
theorem Cx.Ok.suite{X:Cx}(ok:X.Ok)(pn:List (Addr×Obj))(ea:Addr):(iB X pn ea).Ok :=
 ⟨ok.mod,ok.kind,ok.glob,ok.blt,ok.above,ok.inj,ok.has,ok.cab,(fun z=>by cases z),ok.frames,ok.stk,ok.exf,ok.bs,ok.bsz,ok.noex,ok.exfs,ok.funs,ok.frf⟩
theorem Cx.Ok.try_{X:Cx}(ok:X.Ok)(pn:List (Addr×Obj))(W:Value->St->Hp->Prop):(qa X pn W).Ok :=
 ⟨ok.mod,ok.kind,ok.glob,ok.blt,ok.above,ok.inj,ok.has,ok.cab,ok.hd,ok.frames,ok.stk,ok.exf,ok.bs,ok.bsz,ok.noex,ok.exfs,ok.funs,ok.frf⟩
def mw(ea C:Addr):HO:= .ext fun h=>∃ o,h.get? ea=some o/\o.cls = .ref C
theorem rq{M:Model}{A:Around}{E:Value->Shared->Prop}{s:Shared}{K:EG}{ea C D:Addr}{ob:Obj}{Q:Bool->Shared->Prop}(XK:K.In s.heap)(ho:s.heap.get? ea=some ob)(hc:ob.cls = .ref C)
 (h1:PySem.W.subIn K (.ref C) (.ref D)=some true) (h2:PySem.W.subIn K (.ref D) (.type "BaseException")=some true) (h3:(PySem.W.clsIn K D).isSome=true) (h4:PySem.W.typeIn K (.ref D)=some (.type "type")) (q:Q true s) :
 wpAny M A (excMatches (.ref ea) (.ref D)) Q E s:=by
 obtain ⟨hp,g,d,tk,os⟩:=s;have L1:PySem.W.Looks M hp (typeOf (.ref ea)) (.ref C):=hc ▸ (PySem.W.Looks.ld ho).andThen .now;have L2:PySem.W.Looks M hp (isSubtype (.ref C) (.ref D)) true:=PySem.W.looks_subIn XK h1;have L3:PySem.W.Looks M hp (typeOf (.ref D)) (.type "type"):=PySem.W.looks_typeIn XK h4;have L4:PySem.W.Looks M hp (isSubtype (.ref D) (.type "BaseException")) true:=PySem.W.looks_subIn XK h2
 have L5:PySem.W.Looks M hp (isType (.ref D)) true:=by
  unfold PySem.W.clsIn at h3
  split at h3
  ·rename_i c' d' cd' sl' ho'
   intro A' Q' E' s' k q;unfold isType loadHead;exact B6 (wpAny_loadPart (k _ _ (XK _ _ ho')) (Ca q))
  ·cases h3
 have f:=tc_notTuple;unfold excMatches isInstance isExcClass;refine B6 (B6 (L3.at ?_));rw [f];refine Ca ?_;simp only [Ds,if_false];refine B6 (Ca ?_);simp only [Ez,List.forIn_nil,bind_assoc,pure_bind];refine B6 (L5.at ?_);simp only [if_true];refine B6 (L4.at ?_);simp only [Bool.not_true,Ds,if_false,pure_bind];refine B6 (L1.at (B6 (L2.at ?_)));simp only [if_true,pure_bind];exact Ca q
def tTry(K:EG)(tb:(Value->St->Hp->Prop)->TS)(ts:TS)(i:Nat)(Dc:Addr):TS:=fun D σ H=>∃ W,tb W D σ H/\∀ cls σ' H',W cls σ' H'->∃ C,cls = .ref C/\PySem.W.subIn K (.ref C) (.ref Dc)=some true /\
 ∀ ea,H' ea=none->ts { nx:=fun σ'' H''=>D.nx (σ''.set i none) H'',rt:=D.rt,bk:=fun σ'' H''=>D.bk (σ''.set i none) H'',ct:=fun σ'' H''=>D.ct (σ''.set i none) H'' } (σ'.set i (some (.ref ea))) (upd H' ea (mw ea C))
structure Hdl(K:EG)(mg:Str->Option Value)(x:Str)(D:Addr):Prop where
 at_:mg x=some (.ref D)
 sub:PySem.W.subIn K (.ref D) (.type "BaseException")=some true
 cls:(PySem.W.clsIn K D).isSome=true
 ty:PySem.W.typeIn K (.ref D)=some (.type "type")
theorem ps_try{X:Cx}{body:List Stmt}{b0:Stmt}{suite:List Stmt}{n x:Str}{i:Nat}{Dc:Addr}{np hpos pos:Pos}{tb:(Value->St->Hp->Prop)->TS}{ts:TS}
 (hst:X.stack=X.env::X.outer) (hfr:X.env.frame=some X.env.locals) (hb:∀ pn W,PSs (qa X pn W) body (tb W)) (hs:∀ pn ea,PSs (iB X pn ea) (b0::suite) ts)
 (hN:X.N.Nodup) (hi:X.N[i]?=some n) (hlo:X.env.scope.names.lookup n=some .local) (hg:Gl X x) (hD:Hdl X.K X.mg x Dc) (hdb:(x == ("__debug__" : Str))=false:=by decide) :
 PS X (.Try body [.ExceptHandler (some (.Name x np)) (some n) (b0::suite) hpos] [] [] pos) (tTry X.K tb ts i Dc):=by
 intro pins s σ H D I h;obtain ⟨W,hw,hh⟩:=h;have I0:Inv (qa X (X.pn++pins) W) [] σ H s:=⟨I.ok.try_ _ _,I.os,I.bare,I.base,I.loc,I.cell,I.free,I.freeC,fun p hp=>I.pin p (by simpa using hp),I.hok,I.len⟩
 have back:∀ {W':Value->St->Hp->Prop} {σ':St} {H':Hp} {s':Shared},Inv (qa X (X.pn++pins) W') [] σ' H' s'->Inv X pins σ' H' s':=fun {W' σ' H' s'} J =>
  ⟨I.ok,J.os,J.bare,J.base,J.loc,J.cell,J.free,J.freeC,fun p hp=>J.pin p (by simpa using hp),J.hok,J.len⟩
 refine wpAny_Try_except (Dm (hb (X.pn++pins) W [] s σ H D I0 hw) (fun fl s1 q=> ?_) fun e s1 q=> ?_)
 ·cases fl with
  | next=>obtain ⟨σ',H',J,q⟩:=q;exact wpAny_execs_nil ⟨σ',H',back J,q⟩
  | brk=>obtain ⟨σ',H',J,q⟩:=q;exact ⟨σ',H',back J,q⟩
  | cont=>obtain ⟨σ',H',J,q⟩:=q;exact ⟨σ',H',back J,q⟩
  | ret u=>obtain ⟨v,σ',H',J,r,q⟩:=q;exact ⟨v,σ',H',back J,r,q⟩
 ·obtain ⟨σ1,H1,s2,I2,ea,T,cls,H',rfl,os,bare,un,hok,fl,hW⟩:=q
  obtain ⟨C,rfl,hsub,hts⟩:=hh _ _ _ hW
  have noch:∀ b∈([]:List Addr),(b∈X.ex\/X.s₀.heap.objs.size<=b)/\b≠X.env.locals/\(∀ x c,X.env.cells.lookup x=some c->c≠b)/\∀ p∈(X.pn++pins)++[],p.1≠b:=fun b z=>absurd z (by simp)
  have I3:Inv { X with pn:=X.pn++pins } [] σ1 H' s1:=I2.call' (ch:=[]) os un hok bare noch
  have there:∀ b o,s2.heap.get? b=some o->∃ o',s1.heap.get? b=some o':=fun b o q=>un.there b o q (by simp)
  have step:∀ h',zg (frs X.stack) ea T s1.heap h'->Inv { X with pn:=X.pn++pins } [] σ1 H' { s1 with heap:=h' }:=fun h' tn =>
   I2.call' (ch:=[]) (s':={ s1 with heap:=h' }) os (Un.turn un tn fl.ge fl.gT (fun b hb=>hb) fun b hb nb=>absurd hb nb) (hok.turn tn fl.he fl.hT I3.stkFree) bare noch
  have fn:s1.heap.FunFrames X.base (X.env::X.outer):=hst ▸ I3.stack;obtain ⟨a0,fw⟩:=fl.flyingW (l:=X.env::X.outer) fn;have fr:X.A.frames=some (X.env::X.outer):=hst ▸ I.ok.frames
  refine wpAny_looks_onW fr hfr fw fun h4 hheld4 sm4=> ?_
  refine wpAny_landsW hheld4 fun h5 fw5 sm5=> ?_
  obtain ⟨tn5,_⟩:=mq fl (l:=X.env::X.outer) fn hok there fw5 (sm4.trans sm5);rw [<- hst] at tn5;have I5:=step h5 tn5;have I5s:Inv (iB X (X.pn++pins) ea) [] σ1 H' { s1 with heap:=h5 }:=⟨I.ok.suite _ _,I5.os,I5.bare,I5.base,I5.loc,I5.cell,I5.free,I5.freeC,I5.pin,I5.hok,I5.len⟩;obtain ⟨ob5,hob5,hoc5⟩:=fw5.there;refine wpAny_handleBy_cons (codeAny_handlers_test (gW I5s hg hD.at_ ?_ hdb)) (by intro q;cases q);refine rq I5s.kIn hob5 hoc5 hsub hD.sub hD.cls hD.ty ?_;refine codeAny_handlers_suite_as ?_
  refine lands_againW fw5 fun h6 fw6 sm6=> ?_
  obtain ⟨tn6,_⟩:=mq fl (l:=X.env::X.outer) fn hok there fw6 ((sm4.trans sm5).trans sm6);rw [<- hst] at tn6;have I6:=step h6 tn6;obtain ⟨ob,hob,hoc⟩:=fw6.there;have hok7:HOk X.prog X.w (upd H' ea (mw ea C)) h6:=HOk.track I6.hok fl.he ⟨⟨ob,hob,hoc⟩,⟨ob,hob⟩,fun h1 h2 hZ k=>(by obtain ⟨o,e,c⟩:=hZ;exact ⟨o,k o e,c⟩)⟩
  have un6:=Un.turn un tn6 fl.ge fl.gT (fun b hb=>hb) fun b hb nb=>absurd hb nb
  have un7:Un (frs X.stack) [] H1 (upd H' ea (mw ea C)) s2.heap h6 :=
   ⟨un6.keep,un6.slot,fun b o q n hx=>by rw [am (fun z=>by rw [z,fl.ge] at q;cases q)];exact un6.free b o q n hx,un6.there,
    fun b xs q=>by rw [am (ar (un6.tups b xs q) fl.he)];exact un6.tups b xs q,fun b o u q=>by rw [am (ar (un6.frzs b o u q) fl.he)];exact un6.frzs b o u q,
    fun b ps q=>by obtain ⟨m,z⟩:=un6.tbls b ps q;exact ⟨m,by rw [am (ar z fl.he)];exact z⟩⟩
  have I7:Inv { X with pn:=X.pn++pins } [] σ1 (upd H' ea (mw ea C)) { s1 with heap:=h6 }:=I2.call' (ch:=[]) (s':={ s1 with heap:=h6 }) os un7 hok7 bare noch;have I7s:Inv (iB X (X.pn++pins) ea) [] σ1 (upd H' ea (mw ea C)) { s1 with heap:=h6 }:=⟨I.ok.suite _ _,I7.os,I7.bare,I7.base,I7.loc,I7.cell,I7.free,I7.freeC,I7.pin,I7.hok,I7.len⟩;refine fU (X:=iB X (X.pn++pins) ea) I7s hN hi (.inl hlo) (v:= .ref ea) rfl (fun s8 I8=> ?_) (.inr hlo)
  refine Dm (hs (X.pn++pins) ea [] s8 _ _ _ I8 (hts ea fl.he)) (fun fl s9 q=> ?_) fun _ _ z=>z.elim
  have bk2:∀ {σ':St} {H':Hp} {s':Shared},Inv (iB X (X.pn++pins) ea) [] σ' H' s'->Inv X pins σ' H' s':=fun {σ' H' s'} J =>
   ⟨I.ok,J.os,J.bare,J.base,J.loc,J.cell,J.free,J.freeC,fun p hp=>J.pin p (by simpa using hp),J.hok,J.len⟩
  cases fl with
  | next=>obtain ⟨σ9,H9,J,q⟩:=q;exact gU (bk2 J) hN hi hlo fun s' J'=>⟨_,H9,J',q⟩
  | brk=>obtain ⟨σ9,H9,J,q⟩:=q;exact gU (bk2 J) hN hi hlo fun s' J'=>⟨_,H9,J',q⟩
  | cont=>obtain ⟨σ9,H9,J,q⟩:=q;exact gU (bk2 J) hN hi hlo fun s' J'=>⟨_,H9,J',q⟩
  | ret u=>obtain ⟨v,σ9,H9,J,r,q⟩:=q;exact gU (bk2 J) hN hi hlo fun s' J'=>⟨v,_,H9,J',r,q⟩
def tCallT(sp:Sp)(W:Value->St->Hp->Prop)(t:TA):TE:=fun σ H Q=>t σ H fun vs H1=>sp vs H1 Q fun c _ H'=>W c σ H'
theorem xB{X:Cx}{pn:List (Addr×Obj)}{W:Value->St->Hp->Prop}{e:Expr}{es:List Expr}{t:TA}{x:Str}{ps:List Str}{k:Nat}{sp:Sp}{p pos:Pos}
 (h:OkX X.prog X.w X.K X.mg X.base x ps k sp) (hr:cf k X.A) (hg:Gl X x) (ha:PA (qa X pn W) (e::es) t) (hdb:(x == ("__debug__" : Str))=false:=by decide)
 (he:starEach (e::es) X.env=(false,eval e X.env)::starEach es X.env:=by rfl) (hpl:(backTo pos (starEach es X.env)).any (·.1)=false:=by rfl):PE (qa X pn W) (.Call (.Name x p) (e::es) [] pos) (tCallT sp W t):=by
 obtain ⟨f,fd,hm,hk,hb,F⟩:=h.ex;intro pins s σ H Q I hw;refine Ed (gW I hg hm ?_ hdb);refine PySem.W.callWith_K (h₀:=X.base) I.ok.mod.kin hk (thn (ha pos pins s σ H _ I hw) fun us s1 ⟨vs,H1,I1,r,q⟩=>⟨I1.kIn,?_⟩) he hpl
 have hl:us.length=ps.length:=by rw [<- r.length];exact F.len _ _ _ _ q
 have hb':BindsTo s1 fd ⟨us,[]⟩ (ps.zip us):=by
  have:=hb s1 us I1.kIn (by simpa using hl)
  rwa [CU] at this
 refine wpAny_call (codeAny_mono (F.run X.A X.stack s1 H1 ⟨us,[]⟩ us vs Q _ hr I1.env0 hb' r q) fun r s' hq=> ?_)
 cases r with
 | error e =>
  have J:Inv { X with pn:=pn } [] σ H1 s1:=⟨I1.ok.unwish,I1.os,I1.bare,I1.base,I1.loc,I1.cell,I1.free,I1.freeC,fun p hp=>I1.pin p (Cg _ (by simpa using hp)),I1.hok,I1.len⟩;exact ⟨σ,H1,s1,J,hq⟩
 | ok fl =>
  cases fl with
  | ret u=>exact I1.after hq
  | next=>exact False.elim hq
  | brk=>exact False.elim hq
  | cont=>exact False.elim hq
structure eM(k:Nat)(A:Around):Prop where
 dp:A.depth+3 * k+5 < recursionLimit
 un:A.units+16 * k+200 < cLine
 gd:A.guards=some []
theorem cf.any{k:Nat}{A:Around}(r:cf k A):eM k A:=⟨r.dp,r.un,r.gd⟩
theorem eM.mono{j k:Nat}{A:Around}(r:eM k A)(h:j<=k):eM j A:=⟨by have:=r.dp;omega,by have:=r.un;omega,r.gd⟩
theorem eM.mark{k:Nat}{A:Around}{v:Option Value}(r:eM k A):eM k (A.mark v):=⟨r.dp,r.un,r.gd⟩
theorem eM.calm{k:Nat}{A:Around}(r:eM k A):cf k { A with handled:=none }:=⟨rfl,r.dp,r.un,r.gd⟩
abbrev uN(P:Program)(w:World)(K:EG)(mg:Str->Option Value)(base:Heap)(N:List Str)(qual:Str)(scope:Scope)(f:Addr)(cd:Value)(A:Around)(outer:List Env)(s:Shared)(H:Hp)(E:XK):Cx :=
 { bN CX0 P w K mg base N qual scope f cd A outer s H E with calm:=false,xe:=fun _ _=>False }
structure OkA(P:Program)(w:World)(K:EG)(mg:Str->Option Value)(base:Heap)(x:Str)(ps:List Str)(k:Nat)(sp:Sp):Prop where
 ex:∃ f fd,mg x=some (.ref f)/\PySem.W.keepIn K (.ref f)=true/\kC K fd ps []/\(∀ vs H Q E,sp vs H Q E->vs.length=ps.length) /\
  ∀ (A:Around) (outer:List Env) (s:Shared) (H:Hp) (args:Args) (us:List Value) (vs:List V) (Q:VK) (E:XK),eM k A->wu P w K mg base A outer s H->BindsTo s fd args (ps.zip us)->aw vs us->sp vs H Q E ->
   codeAny (model P w) A (.call (.ref f) args) (CR CX0 outer P w H s Q E) s
theorem Has.okA{P:Program}{w:World}{K:EG}{mg:Str->Option Value}{base:Heap}{x:Str}{st:Stmt}{N ps:List Str}{k:Nat}{sp:Sp}(h:Has K mg x st ps)(S:cR N ps (aa st))(len:∀ vs H Q E,sp vs H Q E->vs.length=ps.length)
 (hbody:∀ (f:Addr) (cdv:Value) (A:Around) (outer:List Env) (s:Shared) (H:Hp) (vs:List V) (Q:VK) (E:XK),eM k (A.deeper (envOfC x (aa st) s.heap.objs.size f cdv))->sp vs H Q E ->
   ∃ t,PSs (uN P w K mg base N x (aa st) f cdv A outer s H E) (bA st) t/\t { nx:=fun _ H'=>Q .non H',rt:=Q } (cU N vs) H):OkA P w K mg base x ps (k+1) sp:=by
 obtain ⟨f,fd,F,hm,hb⟩:=h.ex;obtain ⟨oc,od,kV,doc,pm,an,cdv,ct,osl,rfl,lk,hcd⟩:=F.ex;refine ⟨f,_,hm,F.kp,hb,len,fun A outer s H args us vs Q E hr e0 hb r hsp=> ?_⟩;have hl:=len _ _ _ _ hsp
 have KX:K.In s.heap:=e0.mod.kin.keeps fun b o e=>(e0.bs b o e).1
 have lim:s.heap.NoLimit:=e0.mod.nolimit.keeps fun b o e=>(e0.bs b o e).1
 have hkind:∀ y∈ps.zip us,(aa st).names.lookup y.1=some .local\/((aa st).names.lookup y.1=some .cell/\((cellsFrom (s.heap.objs.size+1) (aa st).names []).lookup y.1).isSome=true):=fun hZ hy=>by
  obtain ⟨n,v⟩:=hZ
  rcases S.par n (Ex hy).1 with q | q
  ·exact .inl q
  ·exact .inr ⟨q,PySem.W.cellsFrom_some _ _ _ (.inl q)⟩
 refine codeAny_call_function hr.calm.depth (KX _ _ lk) rfl S.co S.gen rfl (PySem.W.codeRec_of KX hcd) (hb _ _ _ _ ?_)
 refine wpAny_newFunctionEnv_cells S.kind hkind fun env he s1 x1=> ?_
 subst he;refine ⟨lim.keeps x1.toInCall.keep,codeAny_func ?_⟩;have hrd:eM k (A.deeper (envOfC x (aa st) s.heap.objs.size f cdv)):=⟨by have:=hr.dp;show A.depth+1+3 * k+5 < _;omega,by have:=hr.un;show A.units+3+16 * k+200 < _;omega,hr.gd⟩;obtain ⟨t,ht,hq⟩:=hbody f cdv A outer s H vs Q E hrd hsp;have e0':wu P w K mg base { A with handled:=none } outer s H:=⟨e0.frames,e0.mod,e0.bs,e0.bsz,e0.funs,e0.frf,e0.hok,e0.bare⟩;have J:Inv (bN CX0 P w K mg base N x (aa st) f cdv { A with handled:=none } outer s H E) [] (cU N vs) H s1:=n9 S rfl e0' hl r x1
 have ok:(uN P w K mg base N x (aa st) f cdv A outer s H E).Ok :=
  ⟨J.ok.mod,J.ok.kind,J.ok.glob,J.ok.blt,J.ok.above,J.ok.inj,J.ok.has,J.ok.cab,(fun z=>by cases z),Around.frames_deeper e0.frames,J.ok.stk,J.ok.exf,J.ok.bs,J.ok.bsz,J.ok.noex,J.ok.exfs,J.ok.funs,J.ok.frf⟩
 have I:Inv (uN P w K mg base N x (aa st) f cdv A outer s H E) [] (cU N vs) H s1:=⟨ok,J.os,J.bare,J.base,J.loc,J.cell,J.free,J.freeC,J.pin,J.hok,J.len⟩
 refine Dm (ht [] s1 (cU N vs) H _ I hq) (fun fl s' hs=> ?_) fun e s' hs=>hs.elim
 have fin:∀ {σ':St} {H':Hp} {v:V} {u:Value},Inv (uN P w K mg base N x (aa st) f cdv A outer s H E) [] σ' H' s'->aD v u->Q v H'->CE outer P w H s Q u s' :=
  fun {σ' H' v u} J rv q=>⟨v,H',J.os,J.bare,J.base,J.hok,rv,q⟩
 cases fl with
 | ret u =>
  obtain ⟨v,σ',H',J,rv,q⟩:=hs;exact fin J rv q
 | next =>
  obtain ⟨σ',H',J,q⟩:=hs;exact fin (v:=V.non) (u:=Value.none) J rfl q
 | brk =>
  obtain ⟨_,_,_,q⟩:=hs;exact False.elim q
 | cont =>
  obtain ⟨_,_,_,q⟩:=hs;exact False.elim q
theorem xC{X:Cx}{e:Expr}{es:List Expr}{t:TA}{x:Str}{ps:List Str}{k:Nat}{sp:Sp}{p pos:Pos}(h:OkA X.prog X.w X.K X.mg X.base x ps k sp)(hr:eM k X.A)(hg:Gl X x)(ha:PA X (e::es) t)(hdb:(x == ("__debug__" : Str))=false:=by decide)
 (he:starEach (e::es) X.env=(false,eval e X.env)::starEach es X.env:=by rfl) (hpl:(backTo pos (starEach es X.env)).any (·.1)=false:=by rfl):PE X (.Call (.Name x p) (e::es) [] pos) (t9 sp [] E0 t):=by
 obtain ⟨f,fd,hm,hk,hb,hlen,F⟩:=h.ex;intro pins s σ H Q I hw;refine Ed (gW I hg hm ?_ hdb);refine PySem.W.callWith_K (h₀:=X.base) I.ok.mod.kin hk (thn (ha pos pins s σ H _ I hw) fun us s1 ⟨vs,H1,I1,r,q⟩=>⟨I1.kIn,?_⟩) he hpl;have q:sp (vs++[]) H1 Q E0:=q;rw [CU] at q
 have hl:us.length=ps.length:=by rw [<- r.length];exact hlen _ _ _ _ q
 have hb':BindsTo s1 fd ⟨us,[]⟩ (ps.zip us):=by
  have:=hb s1 us I1.kIn (by simpa using hl)
  rwa [CU] at this
 refine wpAny_call (codeAny_mono (F X.A X.stack s1 H1 ⟨us,[]⟩ us vs Q _ hr I1.env0 hb' r q) fun r s' hq=> ?_)
 cases r with
 | error e=>exact hq.elim
 | ok fl =>
  cases fl with
  | ret u=>exact I1.after hq
  | next=>exact False.elim hq
  | brk=>exact False.elim hq
  | cont=>exact False.elim hq
section
variable{X:Cx}
theorem mC{x:V}:∀ {xs:List V} {us:List Value},aw xs us->xs.all fO=true->us.countP (eqU x)=xs.countP fun y=>eqV y x
 | _,_,.nil,_=>rfl
 | y::xs,u::us,.cons r t,f=>by
  rw [List.all_cons,Cv] at f;rw [List.countP_cons,List.countP_cons,tE r f.1,mC t f.2]
def rCount:V->List V->Hp->VK->Prop:=fun x vs H Q=>∃ l xs y,x = .ref l/\vs=[y]/\H l=some (.lst xs)/\fO y=true/\xs.all fO=true/\Q (.int ((xs.countP fun z=>eqV z y):Nat)) H
theorem xV:MtM X "list.count" rCount:=by
 intro pins s σ H x vs v us Q I rx rv h;obtain ⟨l,xs,y,rfl,rfl,hH,fy,fs,q⟩:=h;cases rx;obtain ⟨u,rfl,ru⟩:=rv.one;obtain ⟨z,its,n,r,hl,e⟩:=I.lstM hH;refine call_meets F.slot_list_count ⟨_,e,rfl⟩ F.entry_list_count (F.args_list_count_2 _ _) (SeqAt.list_countAt l its.toArray n none #[] u (eqU y)) ⟨e,fun w hw=>l9 ru fy r fs w (by simpa using hw),?_⟩;refine ⟨.int _,H,I.tok _,⟨_,rfl⟩,?_⟩;rw [List.toList_toArray,mC r fs];exact q
theorem uK{y:V}{xs:List V}{us:List Value}(r:aw xs us)(f:xs.all fO=true)(m:Nat)(h1:m < us.toArray.size)(h2:m < xs.length):eqU y us.toArray[m]=eqV xs[m] y:=by
 obtain ⟨u,e,ru⟩:=r.get (i:=m) (B8 h2)
 have hm:m < us.length:=by simpa using h1
 rw [B8 hm] at e
 have:us.toArray[m]=u:=by simpa using Option.some.inj e
 rw [this];exact tE ru (Co.mp f _ (C6 h2))
def rIndex:V->List V->Hp->VK->Prop:=fun x vs H Q=>∃ l xs y j,x = .ref l/\vs=[y]/\H l=some (.lst xs)/\fO y=true/\xs.all fO=true/\(∃ h:j < xs.length,eqV xs[j] y=true)/\(∀ m (hm:m < xs.length),m < j->eqV xs[m] y=false)/\Q (.int (j:Nat)) H
theorem xU:MtM X "list.index" rIndex:=by
 intro pins s σ H x vs v us Q I rx rv h;obtain ⟨l,xs,y,j,rfl,rfl,hH,fy,fs,⟨hj,hit⟩,hno,q⟩:=h;cases rx;obtain ⟨u,rfl,ru⟩:=rv.one;obtain ⟨z,its,n,r,hl,e⟩:=I.lstM hH
 have hz:sizeLine < 2 ^ 63 - 1:=by decide
 refine call_meets F.slot_list_index ⟨_,e,rfl⟩ F.entry_list_index (F.args_list_index_2 _ _) (SeqAt.list_indexAt l its.toArray n none #[] u (eqU y) j (by simp;omega) (by omega)
  (by rw [uK r fs j (by simp;omega) hj];exact hit) (fun m hm h2=>by rw [uK r fs m hm (by simp at hm;omega)];exact hno m _ h2)) ⟨e,fun w hw=>l9 ru fy r fs w (by simpa using hw),?_⟩
 exact ⟨.int _,H,I.tok _,⟨_,rfl⟩,q⟩
end
end L2
namespace EnT
open PySem PySem.Spec PyProof.Rows
open AutoSeq1 (wpAny_loadPart')
theorem jK(l:Addr)(items:Array Value)(n:Nat)(dct:Option Addr)(sl:Array (Option Value)) :
 Meets (Builtin.«enumerate.__new__» ⟨[.type "enumerate",.ref l],[]⟩) (fun _ R s=>s.heap.get? l=some { cls:= .type "tuple",dict:=dct,data:= .seq items n,slots:=sl } /\
  R (.ok (.ret (.ref (s.heap.push { cls:= .type "tuple_iterator",data:= .fields #[.ref l,.int 0 0] }).objs.size)))
   { s with heap:=(s.heap.push { cls:= .type "tuple_iterator",data:= .fields #[.ref l,.int 0 0] }).push { cls:= .type "enumerate",data:= .fields #[.none,.bool false,.ref s.heap.objs.size,rawInt 0,.none,.none] } }) :=
 .of_wp fun prog w A R s h=>by
  obtain ⟨hp,g,d,tk,os⟩:=s;obtain ⟨hl,h⟩:=h;have hsub:=sub_enumerate;have hL:Heap.IsTuple (Shared.heap ⟨hp,g,d,tk,os⟩) l items:=⟨_,hl,rfl,n,rfl⟩
  wp_walk using Di hl
  refine wpAny_stack_any fun st=>Ca ?_
  split
  ·rename_i c _ _ _ _ _
   cases (c == Value.type "enumerate")
   ·wp_walk using Di hl,CW hL
    exact ⟨_,rfl,h⟩
   ·wp_walk using Di hl,CW hL
    exact ⟨_,rfl,h⟩
  ·wp_walk using Di hl,CW hL
   exact ⟨_,rfl,h⟩
section
variable{prog:Program}{w:World}{A:Around}{E:Value->Shared->Prop}{s:Shared}
theorem mE{l:Addr}{items:Array Value}{Q:Value->Shared->Prop}(hL:s.heap.IsTuple l items)
 (h:∀ h',IsEnum h' (s.heap.objs.size+1) s.heap.objs.size 0 .none->h'.IsTupleIter s.heap.objs.size l 0->h'.objs.size=s.heap.objs.size+2 ->
   (∀ b o,s.heap.get? b=some o->h'.get? b=some o)->Q (.ref (s.heap.objs.size+1)) { s with heap:=h' }) :
 wpAny (model prog w) A (call (.type "enumerate") [.ref l]) Q E s:=by
 obtain ⟨⟨c,dct,dt,sl⟩,hl,hc,n,hd⟩:=hL
 replace hc:c = .type "tuple" := hc
 replace hd:dt = .seq items n:=hd
 subst hc hd
 refine callType_new F.called_enumerate (by decide) (F.typeCall_enumerate_1 _) (F.newCall_enumerate_1 _) (fun obj=>F.args_object_init_2 obj _) F.entry_enumerate_new
  (jK l items n dct sl) ⟨hl,?_⟩
 have hz:(s.heap.push { cls:= .type "tuple_iterator",data:= .fields #[.ref l,.int 0 0] }).objs.size=s.heap.objs.size+1:=CL ..
 show _/\_
 rw [hz]
 have he:IsEnum ((s.heap.push { cls:= .type "tuple_iterator",data:= .fields #[.ref l,.int 0 0] }).push
  { cls:= .type "enumerate",data:= .fields #[.none,.bool false,.ref s.heap.objs.size,rawInt 0,.none,.none] }) (s.heap.objs.size+1) s.heap.objs.size 0 .none:=by
  have:=Cd (s.heap.push { cls:= .type "tuple_iterator",data:= .fields #[.ref l,.int 0 0] })
   (o:={ cls:= .type "enumerate",data:= .fields #[.none,.bool false,.ref s.heap.objs.size,rawInt 0,.none,.none] }) rfl
  rw [hz] at this;exact this
 refine ⟨⟨_,he,rfl⟩,h _ he ⟨_,B7 _ (Cd _ rfl),rfl,rfl⟩ (by rw [CL,hz]) fun b o x=>B7 _ (B7 _ x)⟩
theorem eZ{it l:Addr}{i:Nat}{items}{x:Value}{Q:Value->Shared->Prop}(hit:s.heap.IsTupleIter it l i)
 (hl:s.heap.IsTuple l items) (hx:items[i]?=some x)
 (hQ:∀ h',h'.IsTupleIter it l (i+1)->Heap.SameBut it s.heap h'->Q x { s with heap:=h' }) :
 wpAny (model prog w) A (Builtin.SmallTypes.nextOf (.ref it)) Q E s:=by
 obtain ⟨o,ho,hc,hd⟩:=id hit;obtain ⟨ol,hol,_,nl,hdl⟩:=hl;unfold Builtin.SmallTypes.nextOf
 refine B6 (CM (name:=Str.ofString "__next__") hit.typeIs F.slot_tuple_iterator_next
  (C1 F.slot_tuple_iterator_next hit.typeIs F.entry_tuple_iterator_next ?_ (F.args_tuple_iterator_next_1 _)))
 show wpAny _ _ (field (.ref it) 0 >>= _) _ _ s
 refine B6 (Dj ho hd (x:= .ref l) rfl ?_)
 show wpAny _ _ (if (Value.ref l == Value.none)=true then _ else _) _ _ s
 rw [if_neg (show ¬ ((Value.ref l == Value.none)=true) from Cj)]
 show wpAny _ _ (field (.ref it) 1 >>= _) _ _ s
 refine B6 (Dj ho hd (x:= .int i 0) rfl ?_)
 show wpAny _ _ (seqItems? (.ref l) >>= _) _ _ s
 refine B6 (DX hol hdl ?_);simp only [En,hx];refine B6 (DD ho hd (by simp) (Ca ⟨x,rfl,Ca (hQ _ ?_ (Heap.SameBut.update ..))⟩))
 exact ⟨_,Dh _ ho (Obj.isFreed_of_fields (EB hd _)),(Obj.cls_mapFields ..).trans hc,by
  rw [EB hd];simp [rawInt]⟩
theorem gv{it l:Addr}{i:Nat}{items}{Q:Value->Shared->Prop}(hh:A.handled=none)
 (hit:s.heap.IsTupleIter it l i) (hl:s.heap.IsTuple l items) (hx:items[i]?=none)
 (hE:∀ h' e,Heap.ExtBut it s.heap h'->(∃ o,h'.get? e=some o/\o.cls = .type "StopIteration")->E (.ref e) { s with heap:=h' }) :
 wpAny (model prog w) A (Builtin.SmallTypes.nextOf (.ref it)) Q E s:=by
 obtain ⟨o,ho,hc,hd⟩:=id hit;obtain ⟨ol,hol,_,nl,hdl⟩:=hl;unfold Builtin.SmallTypes.nextOf
 refine B6 (CM (name:=Str.ofString "__next__") hit.typeIs F.slot_tuple_iterator_next
  (C1 F.slot_tuple_iterator_next hit.typeIs F.entry_tuple_iterator_next ?_ (F.args_tuple_iterator_next_1 _)))
 show wpAny _ _ (field (.ref it) 0 >>= _) _ _ s
 refine B6 (Dj ho hd (x:= .ref l) rfl ?_)
 show wpAny _ _ (if (Value.ref l == Value.none)=true then _ else _) _ _ s
 rw [if_neg (show ¬ ((Value.ref l == Value.none)=true) from Cj)]
 show wpAny _ _ (field (.ref it) 1 >>= _) _ _ s
 refine B6 (Dj ho hd (x:= .int i 0) rfl ?_)
 show wpAny _ _ (seqItems? (.ref l) >>= _) _ _ s
 refine B6 (DX hol hdl ?_);simp only [En,hx];refine B6 (wpAny_rule (B6 (DD ho hd (by simp) ?_)))
 show wpAny _ _ (newExc (.type "StopIteration") [] >>= _) _ _ _
 refine B6 ?_;simp only [newExc,newTuple];refine B6 (CQ ?_ (by size_fits));refine B6 (m:=firstArgMember _ _) (wpAny_of_eq (a:=Value.none) (by first | rfl | (simp only [firstArgMember];rfl)) ?_);refine CQ ?_ (by size_fits);simp only [raiseNew];refine B6 (wpAny_handled ?_)
 first | rw [show A.in1.handled=none from hh] | rw [hh]
 refine B6 (Ca (wpAny_throw ?_));exact hE _ _ (((Heap.SameBut.update ..).extBut.push _).push _) ⟨_,Cd _ rfl,rfl⟩
end
end EnT
namespace L2
open PySem PySem.Spec PyProof.Rows
section
variable{X:Cx}
end
end L2
namespace XK
open PySem PySem.W PySem.Spec PySem.Calls PyProof.Rows PySem.Builtin PySem.Builtin.ObjectAttr PySem.Builtin.Getset_descriptor
structure rW(K:Frag)(C:Addr):Prop where
 ga:findIn K (.ref C) "__getattribute__" = some (some (.builtin "BaseException.__getattribute__"))
 gh:findIn K (.ref C) "__getattr__" = some none
 sub:mroIn K C (.type "BaseException")=some true
 cl:findIn K (.ref C) "__class__" = some (some (.builtin "object.__class__"))
 ob:mroIn K C (.type "object")=some true
 cls:(clsIn K C).isSome=true
section
variable{prog:Program}{w:World}{A:Around}{E:Value->Shared->Prop}{h:Heap}{g:Array GenState}{d:Drawn}{t:Nat}{os:OsState}{a:Addr}{o:Obj}{C:Addr}{K:Frag}
theorem ty(hx:h.get? a=some o)(hc:o.cls = .ref C){M:Model}:Looks M h (typeOf (.ref a)) (.ref C):=hc ▸ (Looks.ld hx).andThen .now
theorem get_{tp:Value}{R:Result->Shared->Prop}(X:K.In h)(hx:h.get? a=some o)(hc:o.cls = .ref C)(k:rW K C)(hq:R (.ok (.ret (.ref C))) ⟨h,g,d,t,os⟩) :
 codeAny (model prog w) A (.call (.builtin "getset_descriptor.__get__") ⟨[.builtin "object.__class__",.ref a,tp],[]⟩) R ⟨h,g,d,t,os⟩:=by
 have L0:=ty (M:=model prog w) hx hc;have L1:=looks_mroIn (M:=model prog w) X k.ob;refine codeAny_call_builtin KF.slot_gs.plain KF.entry_gs (KF.slot_gs.check _ _ _ _ _ _ _ _ KF.type_class (KF.args_gs _ _ _) ?_);unfold Builtin.«getset_descriptor.__get__» descrGet;rw [dga_obj];refine B6 (Ca ?_);unfold descrGetter descrCheckInstance descrNameAndClass isInstance;simp only [KF.owner_class]
 repeat lk
 refine ⟨Code.quiet_builtin _ (by decide +kernel),codeAny_builtin KF.entry_class ?_⟩;unfold Builtin.«object.__class__» shownTypeOf
 repeat lk
 exact hq
theorem entry_{tk:Tok}{Q:Fin->Shared->Prop}(X:K.In h)(hx:h.get? a=some o)(hc:o.cls = .ref C)(k:rW K C)(hq:Q (.done (.ret (.ref C))) ⟨h,g,d,t,os⟩) :
 wpAny (model prog w) A (Builtin.«object.__getattribute__» ⟨[.ref a,.str "__class__" tk],[]⟩) Q E ⟨h,g,d,t,os⟩:=by
 have hT5:(⟨h,g,d,t,os⟩:Shared).TypeIs (.builtin "object.__class__") "getset_descriptor" := F.typeOf_object_class;have L0:=ty (M:=model prog w) hx hc;have L4:=looks_findIn (M:=model prog w) X k.cl;have f5:=F.typeOf_object_class;have f6:=F.slot_gs_get.lookup;have f7:=F.slot_gs_set.lookup
 repeat (any_goals (first | assumption | with_reducible refine Looks.at L0 ?_ | with_reducible refine Looks.at L4 ?_ | wp_step))
 refine get_ X hx hc k ?_
 repeat (any_goals (first | assumption | wp_step))
theorem check_{M:Model}{nameV:Value}{Q:Unit->Shared->Prop}(X:K.In h)(hx:h.get? a=some o)(hc:o.cls = .ref C)(k:rW K C)(hq:Q () ⟨h,g,d,t,os⟩):wpAny M A (checkBuiltinCall "BaseException.__getattribute__" ⟨[.ref a,nameV],[]⟩) Q E ⟨h,g,d,t,os⟩:=by
 have hk:builtinKind "BaseException.__getattribute__" = some .slot:=by decide +kernel
 have hsplit:splitId "BaseException.__getattribute__" = some ("BaseException", "__getattribute__"):=by decide +kernel
 have L0:=ty (M:=M) hx hc;have L3:=looks_mroIn (M:=M) X k.sub;have ha:=F.args_bexc_ga (.ref a) nameV;simp only [checkBuiltinCall,hk,hsplit];refine B6 ?_;unfold isInstance
 repeat (first | with_reducible refine Looks.at L0 ?_ | with_reducible refine Looks.at L3 ?_ | wp_step)
 exact hq
theorem by_{tk:Tok}{mr expr:Bool}{Q:Value->Shared->Prop}(X:K.In h)(hx:h.get? a=some o)(hc:o.cls = .ref C)(k:rW K C)(hq:Q (.ref C) ⟨h,g,d,t,os⟩) :
 wpAny (model prog w) A (getAttrBy (.ref a) (.str "__class__" tk) mr expr) Q E ⟨h,g,d,t,os⟩:=by
 have f3:=F.excAttr_ValueError.ga.bind (.ref a)
 have hx0:(expr&&onTheHeap (Value.builtin "BaseException.__getattribute__"))=false:=by cases expr<;>rfl
 have hx2:(Value.builtin "BaseException.__getattribute__" == Value.builtin "object.__getattribute__")=false:=by decide +kernel
 have hx1:(onTheHeap (Value.ref C)&&Value.builtin "BaseException.__getattribute__" == Value.builtin "object.__getattribute__")=false:=by rw [hx2];rfl
 have L0:=ty (M:=model prog w) hx hc;have L1:=looks_findIn (M:=model prog w) X k.ga;have L2:=looks_findIn (M:=model prog w) X k.gh
 repeat (any_goals (first | assumption | with_reducible refine Looks.at L0 ?_ | with_reducible refine Looks.at L1 ?_ | with_reducible refine Looks.at L2 ?_ | wp_step))
 refine codeAny_call_builtin F.excAttr_ValueError.ga.plain F.entry_bexc_ga (check_ X hx hc k (entry_ X hx hc k ?_))
 repeat (any_goals (first | assumption | wp_step))
theorem attr_{Q:Option Value->Shared->Prop}(X:K.In h)(hx:h.get? a=some o)(hc:o.cls = .ref C)(k:rW K C)(hq:Q (some (.ref C)) ⟨h,g,d,t+1,os⟩):wpAny (model prog w) A (getAttr? (.ref a) "__class__") Q E ⟨h,g,d,t,os⟩:=by
 unfold getAttr? getAttrBy?
 repeat (any_goals (first | assumption | with_reducible apply by_ X hx hc k | wp_step))
end
theorem kitx{K:Frag}{a C:Addr}(k:rW K C):KitX K (.ref a) (.ref C) (fun h=>∃ o,h.get? a=some o/\o.cls = .ref C) where
 ty:=fun M h X hZ=>(by obtain ⟨o,hx,hc⟩:=hZ;exact ty hx hc)
 it:=fun M h X _=>by
  have z:=k.cls;unfold clsIn at z
  split at z
  ·rename_i c' d' cd' sl' ho
   intro A' Q' E' s' k q;unfold isType loadHead;exact B6 (wpAny_loadPart (k _ _ (X _ _ ho)) (Ca q))
  ·cases z
 ne:=fun h tp dd its n sl X htp=>by
  have z:=k.cls
  refine Bool.eq_false_iff.mpr fun q=> ?_
  have e:C=tp:=Value.ref.inj (beq_iff_eq.mp q);subst e;unfold clsIn at z
  split at z
  ·rename_i c' d' cd' sl' ho
   have z:=(X _ _ ho).symm.trans htp;cases z
  ·cases z
 ca:=fun {prog w A E Q s} X p h=>by
  obtain ⟨hp,g,d,t,os⟩:=s;obtain ⟨o,hx,hc⟩:=p;exact attr_ X hx hc k h
end XK
namespace L2
open PySem PySem.Spec PyProof.Rows
section
variable{X:Cx}{e:Expr}{te:TE}{x:Str}{p1 p2 pos:Pos}
def rIsx(K:EG):List V->Hp->VK->Prop:=fun xs H Q=>∃ ea C c u b,xs=[.ref ea,c]/\H ea=some (mw ea C)/\XK.rW K C/\aD c u/\PySem.W.kitOne K (.ref C) u=some b/\Q (.bl b) H
theorem rM:ax X (.builtin "isinstance") (rIsx X.K):=by
 intro pins s σ H xs us Q I r h;obtain ⟨ea,C,c,u,b,rfl,hH,k,rc,e,q⟩:=h;obtain ⟨v,u',rfl,rv,ru⟩:=nG r;cases rv
 have hu:u'=u:=by
  cases c with
  | ref a=>exact (show u' = .ref a from ru).trans (show u = .ref a from rc).symm
  | ty n=>exact (show u' = .type n from ru).trans (show u = .type n from rc).symm
  | non=>exact (show u' = .none from ru).trans (show u = .none from rc).symm
  | bl a=>exact (show u' = .bool a from ru).trans (show u = .bool a from rc).symm
  | int i=>exfalso;obtain ⟨t,rfl⟩:=rc;unfold PySem.W.kitOne PySem.W.kitCls at e;simp at e
  | str i=>exfalso;obtain ⟨t,rfl⟩:=rc;unfold PySem.W.kitOne PySem.W.kitCls at e;simp at e
  | byt i=>exfalso;obtain ⟨t,rfl⟩:=rc;unfold PySem.W.kitOne PySem.W.kitCls at e;simp at e
  | flt i=>exfalso;obtain ⟨t,rfl⟩:=rc;unfold PySem.W.kitOne PySem.W.kitCls at e;simp at e
 subst hu;have ho:∃ o,s.heap.get? ea=some o/\o.cls = .ref C:=(I.hok ea _ hH).1
 exact PySem.W.kia_one (XK.kitx k) I.kIn ho e (fun z=>nomatch z) fun tk=>⟨.bl b,H,I.tok tk,rfl,q⟩
end
section
variable{X:Cx}
theorem sK{elt tg iter:Expr}{ifs:List Expr}{sc:Scope}{M tgs:List Str}{pos:Pos}{wi:TI}{g:TG}{tt:TT}{te:TE}{j:Nat}{y:Str}{py spos:Pos}(hc:X.calm=true)(B:mR X sc M tgs)(hi:PI X tg iter wi)
 (hg:∀ cl C fp s H,PG (blk X sc cl C fp s H (M++tgs)) tg g) (ht:∀ cl C fp s H,wt (blk X sc cl C fp s H (M++tgs)) ifs tt) (he:∀ cl C fp s H,PE (blk X sc cl C fp s H (M++tgs)) elt te)
 (hN:X.N.Nodup) (hjy:X.N[j]?=some y) (hy:X.env.scope.names.lookup y=some .local) (hsw:swapsWith (.ListComp elt [⟨tg,iter,ifs,0⟩] sc pos) (some (.Name y py)) spos.line X.env=pure true:=by rfl)
 (hs:∀ x,foldedSetIterable iter X.env x=pure x:=by intro _;rfl):PS X (.Assign [.Name y py] (.ListComp elt [⟨tg,iter,ifs,0⟩] sc pos) spos) (tAsg (qk wi tgs.length g tt te) (uH j)):=by
 intro pins s σ H Dn I h
 let Q:VK:=fun x H1=>Dn.nx (σ.set j (some x)) H1
 have h:qk wi tgs.length g tt te σ H Q:=h;rw [exec_Assign_Name_used _ _ _ _ hsw];refine B6 (wpAny_standAt (B6 ?_));refine B6 (Dm (oq (use:=some (assign (.Name y py) X.env)) (Qf:=fun _ s'=>SP X pins Dn .next s') hc B hi hg ht he hs I h fun C D m s6 H' I8 hn hC hLC hsz hcC hp q f=> ?_) (fun _ s' hq=>Ca (Ca hq)) fun _ _ e=>e)
 show wpAny _ _ (assign (.Name y py) X.env (.ref D)) _ _ _
 refine wpAny_assign_Name (nK I8 hN hjy (.inl hy) (v:= .ref D) rfl (fun s9 I9 hsb=> ?_) (.inr hy));obtain ⟨a,sb,ha⟩:=hsb
 have haC:C≠a:=by
  rcases ha with rfl | ha
  ·exact DJ hLC
  ·exact Ne.symm (hcC _ _ ha)
 exact ⟨m,hn.sameBut sb haC,fun h' hs'=>⟨_,H',I9.turned (t':=s9.toks) (it:=C) (fun b o hb e=>(hs'.2 b hb).trans e) hC (DJ hLC) (.inr hsz) hcC hp,q⟩⟩
end
section
variable{X:Cx}
def iF(K:EG):List V->Hp->(V->Hp->Prop)->Prop:=fun xs H Q=>∃ (p:Addr) (ns:List Int),xs=[V.ref p]/\SqL K H p (ns.map V.int)/\ns.length < 64 /\
 ∀ l (ms:List Int),H l=none->List.Perm ms ns->ms.Pairwise (·<= ·)->Q (.ref l) (upd H l (.lst (ms.map V.int)))
theorem jV{us:List Value}{ns:List Int}(h:IntsAre us ns):aw (ns.map V.int) us:=by
 induction h with
 | nil=>exact .nil
 | cons a t _ ih=>exact .cons ⟨t,rfl⟩ ih
theorem pL:ax X (.builtin "sorted") (iF X.K):=by
 intro pins s σ H xs us Q I r h;obtain ⟨p,ns,rfl,hq,h64,q⟩:=h;obtain ⟨u,rfl,ru⟩:=bx r;cases ru;obtain ⟨its,rv,pl,hz⟩:=I.list hq;have hlen:=rv.length;rw [B9] at hlen
 refine sorted_ints pl.isList (cF rv) (by omega) fun out ms hi hp hs=> ?_
 have hf:H (s.heap.objs.size+1)=none:=I.hok.fresh (Nat.le_succ _);obtain ⟨e,he⟩:=sortedAll_at s.heap its out;refine ⟨.ref (s.heap.objs.size+1),upd H (s.heap.objs.size+1) (.lst (ms.map V.int)),I.laid (t':=s.toks) (fun b o=>sortedAll_old) (Nat.le_succ _) ⟨?_,out.toList,e,jV hi,by simpa using he⟩,rfl,q _ _ hf hp hs⟩;rw [B9,hp.length_eq]
 rwa [B9] at hz
def lO:List V->Hp->(V->Hp->Prop)->Prop:=fun xs H Q=>∃ (p:Addr) (lo hi:Int),xs=[V.ref p]/\H p=some (.rng lo hi) /\ -(2 ^ 62)<=lo/\lo < 2 ^ 62 /\ -(2 ^ 62)<=hi/\hi < 2 ^ 62/\(hi - lo).toNat<=1000 /\
 ∀ l,H l=none->Q (.ref l) (upd H l (.lst ((List.range (hi - lo).toNat).map fun k=>V.int (lo+(k:Nat)))))
theorem fT:∀ {xs:List V} {us:List Value},xs.length=us.length->(∀ (i:Nat) (x:V) (u:Value),xs[i]?=some x->us[i]?=some u->aD x u)->aw xs us
 | [],[],_,_=> .nil
 | x::xs,u::us,h,q=> .cons (q 0 x u rfl rfl) (fT (by simpa using h) fun i x' u' h1 h2=>q (i+1) x' u' (by simpa using h1) (by simpa using h2))
 | [],_::_,h,_=>by simp at h
 | _::_,[],h,_=>by simp at h
theorem tR(hc:X.calm=true):ax X (.type "list") lO:=by
 intro pins s σ H xs us Q I r h;obtain ⟨p,lo,hi,rfl,hp,h1,h2,h3,h4,hn,q⟩:=h;obtain ⟨u,rfl,ru⟩:=bx r;cases ru;obtain ⟨t,u,v,e⟩:=(show bn X.prog X.w H s.heap p (.rng lo hi) from I.hok p _ hp)
 have hsz:Builtin.Range.rangeSize lo hi 1=((hi - lo).toNat:Nat):=by rw [rangeSize_one];split<;>omega
 refine call_list_range (n:=(hi - lo).toNat) (I.ok.hd hc) (show IsRange s.heap p lo hi 1 t u v from e) (small_one h1 h2 h3 h4) hsz (by omega) fun h' tk acc c hk hS hacc=> ?_
 have hf:H s.heap.objs.size=none:=I.hok.fresh (Ci _);refine ⟨.ref s.heap.objs.size,_,I.laid (o:= .lst ((List.range (hi - lo).toNat).map fun k=>V.int (lo+(k:Nat)))) hk (Ci _) ⟨?_,acc.toList,c,fT ?_ ?_,by simpa using hS⟩,rfl,q _ hf⟩
 ·rw [B9,Dx];exact DK (dE hn)
 ·rw [B9,Dx,C0,hacc.1]
 ·intro i x w hx hw
  rw [Cw] at hx;obtain ⟨k,hk',rfl⟩:=C4.mp hx
  have ek:i=k:=by
   rw [Cm] at hk';obtain ⟨z,e⟩:=hk';simpa using e
  subst ek;obtain ⟨t',rfl⟩:=hacc.2 i w (by simpa using hw);refine ⟨t',?_⟩;rw [Int.mul_one]
end
theorem sP:fillsNumberSlot (.type "tuple") "mul" = pure false :=
 PySem.fillsNumberSlot_seq (id := "tuple.__mul__") (r:=some (.builtin "tuple.__rmul__")) F.slot_tuple_mul.lookup (by decide +kernel) F.slot_tuple_rmul.lookup (by decide +kernel)
theorem sx:seqRepeat? (.type "tuple")=pure (some (.builtin "tuple.__mul__")):=by
 unfold seqRepeat?;rw [PySem.seqSlot_of (T := "tuple") (name := "__mul__") F.slot_tuple_mul.lookup (by decide +kernel),PySem.seqSlot_of (T := "tuple") (name := "__rmul__") F.slot_tuple_rmul.lookup (by decide +kernel)];rfl
theorem wU(a:Int)(t:Tok)(l:Addr)(items:Array Value)(n:Nat)(dd:Option Addr)(sl:Array (Option Value)):Meets (Builtin.«int.__rmul__» ⟨[.int a t,.ref l],[]⟩) (fun _ R s=>s.heap.get? l=some ⟨.type "tuple",dd,.seq items n,sl⟩/\R (.ok (.ret Value.notImplemented)) s) :=
 .of_wp fun prog w A R s h=>by
  obtain ⟨hp,g,d,tk,os⟩:=s;obtain ⟨hl,h⟩:=h
  wp_walk
  exact ⟨_,rfl,h⟩
theorem xT(l:Addr)(items:Array Value)(n:Nat)(dd:Option Addr)(sl:Array (Option Value))(x:Int)(u:Tok)(h1:2<=x)(h2:items.size * x.toNat<=sizeLine)(h3:items.isEmpty=false):Meets (Builtin.«tuple.__mul__» ⟨[.ref l,.int x u],[]⟩) (fun _ R s=>s.heap.get? l=some ⟨.type "tuple",dd,.seq items n,sl⟩ /\
 R (.ok (.ret (.ref s.heap.objs.size))) { s with heap:=s.heap.push { cls:= .type "tuple",data:= .seq (List.foldl (fun x1 x2=>x1++x2) #[] (List.replicate x.toNat items)) } }) :=
 .of_wp fun prog w A R s h=>by
  have p1:0 < items.size:=by
   rcases Nat.eq_zero_or_pos items.size with z | z
   ·rw [Array.isEmpty,z] at h3;cases h3
   ·exact z
  have hz:=sizeLine_eq;have h4:x.toNat<=sizeLine:=Df (Nat.le_mul_of_pos_left _ p1) h2
  have h5:(items.size:Int) * x<=(sizeLine:Nat):=by
   have e:x=((x.toNat:Nat):Int):=by omega
   rw [e,<- Int.natCast_mul];exact Int.ofNat_le.mpr h2
  have c0:¬(decide (x < -2 ^ 63)||decide (x>=2 ^ 63))=true:=by
   rw [CG (by omega),CG (by omega)];decide
  have c1:¬(items.isEmpty||x == 1)=true:=by
   rw [h3,DW,beq_iff_eq];omega
  have c2:¬(decide (x<=0)||items.isEmpty)=true:=by
   rw [h3,CG (by omega)];decide
  have c3:¬ (items.size:Int) * x > (2 ^ 63 - 1) / 8:=by
   rw [hz] at h5
   have:((16777216:Nat):Int)<=(2 ^ 63 - 1) / 8:=by decide
   omega
  have c4:¬ Builtin.Tuple.tupleTooMany ((items.size:Int) * x)=true:=by
   show ¬ decide ((items.size:Int) * x > (sizeLine:Nat))=true
   rw [CG (by omega)]
   decide
  have c5:(List.foldl (fun x1 x2=>x1++x2) #[] (List.replicate x.toNat items)).size<=sizeLine:=by
   have:=gY items.toList x.toNat [];rw [CT,Array.toArray_toList] at this;rw [this,Cb,pw,C0,Nat.mul_comm];exact h2
  obtain ⟨hp,g,d,tk,os⟩:=s;obtain ⟨hl,h⟩:=h;have f1:=AutoSeq1.idx_int
  wp_walk using AutoSeq1.wpAny_loadPart' hl
  rw [if_neg c0]
  wp_walk using AutoSeq1.wpAny_loadPart' hl
  rw [if_neg c1]
  wp_walk using AutoSeq1.wpAny_loadPart' hl
  rw [if_neg c2]
  wp_walk using AutoSeq1.wpAny_loadPart' hl
  rw [if_neg c3]
  wp_walk using AutoSeq1.wpAny_loadPart' hl
  rw [if_neg (Nat.not_lt.mpr c5)]
  wp_walk using AutoSeq1.wpAny_loadPart' hl
  exact ⟨_,rfl,h⟩
end L2
namespace St2
open PySem PyProof.Rows
abbrev dR(ns:List Int)(k:Nat):List Int:=firstMet (fun j=>ns.getD j 0) k
abbrev gw(led:Bool):Obj:={ cls:= .type "set",dict:=none,data:= .set #[] 0 (.fresh 0 0 led) }
section
variable{prog:Program}{w:World}{A:Around}{E:Value->Shared->Prop}{s:Shared}
theorem u5{a:Addr}{its:Array Value}{ns:List Int}{Q:Value->Shared->Prop}(calm:A.handled=none)(tu:IsTup s.heap a its)(inz:IntsAre its.toList ns)(few:its.size+1 < scanBound)
 (q:∀ (h':Heap) (tk:Nat),h'.SetOf (intKind prog w) s.heap.objs.size (fun x=>(dR ns its.size).any (·== x)) (dR ns its.size).length->(∀ b o,b < s.heap.objs.size->s.heap.get? b=some o->h'.get? b=some o)->Q (.ref s.heap.objs.size) { s with heap:=h',toks:=tk }) :
 wpAny (model prog w) A (call (.type "set") [.ref a]) Q E s:=by
 obtain ⟨c0,tl0,mro0⟩:=F.called_set.mro;have m1:=F.called_set.made;have m2:=F.called_set.sub;have m3:=F.called_set.notType;have m4:=F.called_set.canCreate;have m5:=F.typeCall_set_1 (.ref a);refine wpAny_call (codeAny_of_tree ?_)
 show wpAny _ _ (callAny (.type "set") _) _ _ _
 refine Ca ⟨Code.quiet_builtin _ (by decide +kernel),codeAny_builtin F.entry_type_call ?_⟩;rw [Around.under_plain (weight_type_call_type "set" [.ref a] []) rfl]
 repeat (any_goals (first | assumption | wp_step))
 refine codeAny_mono (code_set_new_1 (.ref a) (E:=E) (Q₁:=fun ob t1=>∃ led:Bool,ob = .ref s.heap.objs.size/\t1={ s with heap:=s.heap.push (gw led) }) fun led=>⟨led,rfl,rfl⟩) fun res t1 hres=> ?_
 cases res with
 | error x=>exact hres
 | ok fl =>
  cases fl with
  | next=>exact hres.elim
  | brk=>exact hres.elim
  | cont=>exact hres.elim
  | ret ob =>
   obtain ⟨led,rfl,rfl⟩:=hres;have atS:(s.heap.push (gw led)).get? s.heap.objs.size=some (gw led):=Cd _ rfl;have tyS:Shared.TypeIs { s with heap:=s.heap.push (gw led) } (.ref s.heap.objs.size) "set" := ⟨_,atS,rfl⟩;have i1:=F.called_set.init.lookup;have i2:=F.called_set.init.bind (.ref s.heap.objs.size)
   repeat (any_goals (first | assumption | wp_step))
   refine codeAny_mono (codeAny_call_builtin (R:=wants (fun r t2=>r = .none/\∃ h' tk,t2={ s with heap:=h',toks:=tk }/\h'.SetOf (intKind prog w) s.heap.objs.size (fun x=>(dR ns its.size).any (·== x)) (dR ns its.size).length /\
    (∀ b o,b < s.heap.objs.size->s.heap.get? b=some o->h'.get? b=some o)) E) F.called_set.init.plain F.entry_set_init (check_set_init_1 tyS ?_)) fun r2 t2 hr2=> ?_
   ·obtain ⟨⟨k1,k2,k3,k4⟩,e0,e1,n0,e2⟩:=id tu
    simp only at e1 e2;subst e1 e2;have e0':(s.heap.push (gw led)).get? a=some ⟨.type "tuple",k2,.seq its n0,k4⟩:=B7 _ e0;have j1:=F.sub_tuple_set;have j2:=F.sub_tuple_frozenset
    have j3:(Value.type "tuple" == Value.type "dict")=false:=by decide
    have tu1:IsTup (s.heap.push (gw led)) a its:=⟨_,e0',rfl,n0,rfl⟩;unfold Builtin.«set.__init__» noKeywords Builtin.Frozenset.updateFrom
    generalize hPy:pyIter=PY
    wp_walk
    subst hPy;refine CW (show (s.heap.push (gw led)).IsTuple a its from tu1) ?_;refine B6 (EE ?_);have lt:a < s.heap.objs.size:=Cf e0
    have calm3:A.in1.in1.in1.handled=none:=by simp [calm]
    have ne1:a≠(s.heap.push (gw led)).objs.size:=by rw [CL];exact Cu (Dp lt)
    have out:s.heap.objs.size∉[(s.heap.push (gw led)).objs.size,a]:=by
     rw [CL];simp only [List.mem_cons,Db,or_false,not_or];exact ⟨Cu (DZ _),DJ lt⟩
    refine codeAny_set_update_loopS ((Walks.tuple calm3 _ a ne1 its).toS) s.heap.objs.size out (fun j=>ns.getD j 0) (fun i v hv=>IntsAre.int_at inz i v (by rw [DC];exact hv)) few (its.size - 0) 0 _ (by omega) (Ek _) ⟨⟨_,Cd _ rfl,rfl,rfl⟩,?T⟩ ?S ?R
    case T=>exact ⟨_,B7 _ e0',rfl,n0,rfl⟩
    case S=>exact SetOf_congr ((setObjOf_fresh (knd:=intKind prog w) led).setOf (B7 _ atS) (by unfold scanBound;omega)) (fun _=>rfl) rfl
    case R =>
     rintro ⟨h',g',d',tk',os'⟩ mv st;have w1:g'=s.gens:=mv.gens;have w2:d'=s.drawn:=mv.drawn;have w3:os'=s.os:=mv.os;subst w1 w2 w3;refine Ca ?_
     show wpAny _ _ (ret Value.none) _ _ _
     refine Ca ⟨rfl,h',tk',rfl,st,fun b o lb e=>mv.heap b o ?_ (B7 _ (B7 _ e))⟩;rw [CL];simp only [List.mem_cons,Db,or_false,not_or];exact ⟨Cu lb,Cu (Dp lb)⟩
   ·cases r2 with
    | error x=>exact hr2
    | ok f2 =>
     cases f2 with
     | ret r =>
      obtain ⟨rfl,h',tk,rfl,st,kp⟩:=hr2
      repeat (any_goals (first | assumption | wp_step))
      exact q _ _ st kp
     | next=>exact hr2.elim
     | brk=>exact hr2.elim
     | cont=>exact hr2.elim
end
end St2
namespace L2
open PySem PySem.Spec PyProof.Rows
section
variable{X:Cx}
def uh:List V->Hp->VK->Prop:=fun xs H Q=>∃ (p:Addr) (S:Int->Bool) (n:Nat),xs=[V.ref p]/\H p=some (.set S n)/\n<=1000/\Q (.int (n:Nat)) H
theorem rK:ax X (.builtin "len") uh:=by
 intro pins s σ H xs us Q I r h;obtain ⟨p,S,n,rfl,hp,hn,q⟩:=h;obtain ⟨u,rfl,ru⟩:=bx r;cases ru;obtain ⟨o,es,ep,t,ho,ex,hd,_,_,_,hf,rfl⟩:=(show s.heap.SetOf (intKind X.prog X.w) p S n from I.hok p _ hp);exact call_len_set ho ex hd hf (by omega) ⟨.int (es.size:Nat),H,I.tok _,⟨_,rfl⟩,q⟩
end
end L2
namespace St2
open PySem PyProof.Rows
theorem qb(ns:List Int):∀ i,i<=ns.length->(List.range i).map (fun j=>ns.getD j 0)=ns.take i
 | 0,_=>rfl
 | i+1,h=>by
  have hi:i < ns.length:=by omega
  rw [List.range_succ,Dy,qb ns i (by omega),List.take_add_one,B8 hi];simp [hi]
end St2
namespace Tr2
open PySem PyProof.Rows
section
variable{prog:Program}{w:World}{A:Around}{E:Value->Shared->Prop}{s:Shared}
theorem AZ{R:Result->Shared->Prop}{r:Addr}{a b:Int}{t u v:Tok}{k:Nat}(calm:A.handled=none)(rg:IsRange s.heap r a b 1 t u v)(sm:Builtin.Range.small a b 1=true)(sz:Builtin.Range.rangeSize a b 1=k)(few:k<=1000)
 (q:∀ (h':Heap) (tk:Nat) (acc:Array Value) (c0:Nat),(∀ x o,s.heap.get? x=some o->h'.get? x=some o)->h'.get? s.heap.objs.size=some { cls:= .type "list",dict:=none,data:= .seq acc c0,slots := #[] }->ItemsOf (fun i v=>∃ t,v = .int (a+i * 1) t) acc k->R (.ok (.ret (.ref s.heap.objs.size))) { s with heap:=h',toks:=tk }) :
 codeAny (model prog w) A (.builtin "proto.collect" ⟨[.ref r],[]⟩) R s:=by
 refine (codeAny_builtin PySem.F.entry_proto_collect ?_);rw [(Around.under_plainId PySem.F.plain_proto_collect _)]
 show wpAny _ A.in1 (newList [] >>= fun l=>again (.builtin "list.__iadd__" ⟨[l,.ref r],[]⟩)) (_) _ s
 refine B6 (CQ (Ca ⟨plainId_quiet PySem.F.plain_list_iadd _,codeAny_builtin PySem.F.entry_list_iadd ?_⟩));rw [(Around.under_plainId PySem.F.plain_list_iadd _)];have at_:(s.heap.push { cls:= .type "list",data:= .seq ([]:List Value).toArray }).get? s.heap.objs.size=some { cls:= .type "list",data:= .seq #[] 0 }:=Cd _ rfl
 show wpAny _ A.in1 (Builtin.List.listExtendWith (.ref s.heap.objs.size) (.ref r) (.ref s.heap.objs.size)) (_) _ _
 exact wpAny_extend_range (A:=A) (R:=R) (s:={ s with heap:=s.heap.push { cls:= .type "list",data:= .seq ([]:List Value).toArray } }) calm (B7 _ rg) sm sz (by omega) s.heap.objs.size (.ref s.heap.objs.size) 0 at_ fun h' tk acc c0 kp hS it =>
  q h' tk acc c0 (fun x o e=>kp x o (Cu (Cf e)) (B7 _ e)) hS it
theorem gather{Q:List Value->Shared->Prop}{r:Addr}{a b:Int}{t u v:Tok}{k:Nat}(calm:A.handled=none)(rg:IsRange s.heap r a b 1 t u v)(sm:Builtin.Range.small a b 1=true)(sz:Builtin.Range.rangeSize a b 1=k)(few:k<=1000)
 (q:∀ (h':Heap) (tk:Nat) (acc:Array Value),s.heap.objs.size < h'.objs.size->(∀ x o,s.heap.get? x=some o->h'.get? x=some o)->ItemsOf (fun i v=>∃ t,v = .int (a+i * 1) t) acc k->Q acc.toList { s with heap:=h',toks:=tk }):wpAny (model prog w) A (collect (.ref r)) Q E s:=by
 unfold collect;refine B6 (EE (AZ calm rg sm sz few fun h' tk acc c0 kp hS it=> ?_))
 show wpAny _ A (load s.heap.objs.size >>= _) (_) _ _
 refine B6 (wpAny_load hS ?_);exact Ca (q h' tk acc (Cf hS) kp it)
theorem made{r:Addr}{a b:Int}{t u v:Tok}{k:Nat}(sm:Builtin.Range.small a b 1=true)(sz:Builtin.Range.rangeSize a b 1=k)(few:k<=1000):Meets (Builtin.«tuple.__new__» ⟨[.type "tuple",.ref r],[]⟩)
 (fun A R s=>A.handled=none/\IsRange s.heap r a b 1 t u v/\∀ (h':Heap) (tk:Nat) (acc:Array Value),s.heap.objs.size < h'.objs.size->(∀ x o,s.heap.get? x=some o->h'.get? x=some o)->ItemsOf (fun i v=>∃ t,v = .int (a+i * 1) t) acc k->R (.ok (.ret (.ref h'.objs.size))) { s with heap:=h'.push { cls:= .type "tuple",data:= .seq acc },toks:=tk }) :=
 .of_wp fun prog w A R s h=>by
  obtain ⟨calm,rg,h⟩:=h;have f1:=sub_tuple_self;have f2:=init_tuple_lookup;have f3:=madeHere_tuple;have ty:s.TypeIs (.ref r) "range" := ⟨_,rg,rfl⟩;have calm1:A.in1.handled=none:=calm
  wp_walk using wpAny_typeOf ty,gather calm1 rg sm sz few
  intro h' tk acc lz kp it
  show wpAny _ _ (Builtin.Tuple.tupleExact acc.toList.toArray >>= fun v=>ret v) (_) _ _
  unfold Builtin.Tuple.tupleExact;refine (B6 (CQ ?_ (show acc.toList.toArray.size<=sizeLine by simp only [Array.toArray_toList];rw [it.1,sizeLine_eq];omega)));refine Ca ⟨_,rfl,?_⟩;rw [show acc.toList.toArray=acc by simp];exact h h' tk acc lz kp it
theorem p9{Q:Value->Shared->Prop}{r:Addr}{a b:Int}{t u v:Tok}{k:Nat}(calm:A.handled=none)(rg:IsRange s.heap r a b 1 t u v)(sm:Builtin.Range.small a b 1=true)(sz:Builtin.Range.rangeSize a b 1=k)(few:k<=1000)
 (q:∀ (h':Heap) (tk:Nat) (acc:Array Value),s.heap.objs.size < h'.objs.size->(∀ x o,s.heap.get? x=some o->h'.get? x=some o)->ItemsOf (fun i v=>∃ t,v = .int (a+i * 1) t) acc k->Q (.ref h'.objs.size) { s with heap:=h'.push { cls:= .type "tuple",data:= .seq acc },toks:=tk }):wpAny (model prog w) A (call (.type "tuple") [.ref r]) Q E s :=
 callType_new PySem.F.called_tuple (by decide) (PySem.F.typeCall_tuple_1 _) (PySem.F.newCall_tuple_1 _) (fun obj=>PySem.F.args_object_init_2 obj _) PySem.F.entry_tuple_new (made sm sz few) ⟨calm,rg,fun h' tk acc lz kp it=>⟨⟨_,Cd _ rfl,rfl⟩,q h' tk acc lz kp it⟩⟩
end
end Tr2
namespace L2
open PySem PySem.Spec PyProof.Rows
section
variable{X:Cx}
theorem op_isB:OpR X (compareOp .Is) (fun x y H Q=>∃ a b,x = .bl a/\y = .bl b/\Q (.bl (a == b)) H):=by
 intro pins s σ H x y v u Q I rx ry h;obtain ⟨a,b,rfl,rfl,q⟩:=h;cases rx;cases ry;exact is_bool ⟨.bl (a == b),H,I,rfl,q⟩
def xa:List V->Hp->VK->Prop:=fun xs H Q=>∃ (p:Addr) (lo hi:Int),xs=[V.ref p]/\H p=some (.rng lo hi) /\ -(2 ^ 62)<=lo/\lo < 2 ^ 62 /\ -(2 ^ 62)<=hi/\hi < 2 ^ 62/\(hi - lo).toNat<=1000 /\
 ∀ l,H l=none->Q (.ref l) (upd H l (.tup ((List.range (hi - lo).toNat).map fun k=>V.int (lo+(k:Nat)))))
theorem vT(hc:X.calm=true):ax X (.type "tuple") xa:=by
 intro pins s σ H xs us Q I r h;obtain ⟨p,lo,hi,rfl,hp,h1,h2,h3,h4,hn,q⟩:=h;obtain ⟨u,rfl,ru⟩:=bx r;cases ru;obtain ⟨t,u,v,e⟩:=(show bn X.prog X.w H s.heap p (.rng lo hi) from I.hok p _ hp)
 have hsz:Builtin.Range.rangeSize lo hi 1=((hi - lo).toNat:Nat):=by rw [rangeSize_one];split<;>omega
 refine Tr2.p9 (k:=(hi - lo).toNat) (I.ok.hd hc) (show IsRange s.heap p lo hi 1 t u v from e) (small_one h1 h2 h3 h4) hsz hn fun h' tk acc lz kp it=> ?_
 have ge:s.heap.objs.size<=h'.objs.size:=DK lz;have hf:H h'.objs.size=none:=I.hok.fresh ge;refine ⟨.ref h'.objs.size,_,I.laid (o:= .tup ((List.range (hi - lo).toNat).map fun k=>V.int (lo+(k:Nat)))) (fun b o z=>B7 _ (kp b o z)) ge ⟨?_,acc.toList,fT ?_ ?_,⟨_,Cd _ rfl,rfl,_,rfl⟩⟩,rfl,q _ hf⟩
 ·rw [B9,Dx];exact DK (dE hn)
 ·rw [B9,Dx,C0,it.1]
 ·intro i x w hx hw
  rw [Cw] at hx;obtain ⟨k,hk',rfl⟩:=C4.mp hx
  have ek:i=k:=by
   rw [Cm] at hk';obtain ⟨z,e⟩:=hk';simpa using e
  subst ek;obtain ⟨t',rfl⟩:=it.2 i w (by simpa using hw);refine ⟨t',?_⟩;rw [Int.mul_one]
end
section
variable{X:Cx}
end
section
variable{X:Cx}
end
theorem cC:∀ {ns:List Int} {us:List Value},aw (ns.map V.int) us->∃ ps:List (Int×Tok),us=ps.map (fun p=>Value.int p.1 p.2)/\ps.map (·.1)=ns
 | [],_,.nil=>⟨[],rfl,rfl⟩
 | n::ns,_,.cons r1 r2=>by
  obtain ⟨t,rfl⟩:=r1;obtain ⟨ps,rfl,e⟩:=cC r2;exact ⟨(n,t)::ps,rfl,by rw [Cq,e]⟩
theorem ck{ps:List (Int×Tok)}{ns:List Int}(e:ps.map (·.1)=ns){i:Nat}(h:i < ns.length):numAt ps.toArray i=ns[i]:=by
 subst e;rw [B9] at h;unfold numAt;simp [h]
section
variable{X:Cx}
def qC(K:EG):List V->Hp->(V->Hp->Prop)->Prop:=fun xs H Q=>∃ (p:Addr) (ns:List Int),xs=[V.ref p]/\SqL K H p (ns.map V.int)/\ns≠[]/\∀ M,M∈ns->(∀ a∈ns,a<=M)->Q (.int M) H
def qB(K:EG):List V->Hp->(V->Hp->Prop)->Prop:=fun xs H Q=>∃ (p:Addr) (ns:List Int),xs=[V.ref p]/\SqL K H p (ns.map V.int)/\ns≠[]/\∀ M,M∈ns->(∀ a∈ns,M<=a)->Q (.int M) H
theorem v7(hc:X.calm=true):ax X (.builtin "max") (qC X.K):=by
 intro pins s σ H xs us Q I r h;obtain ⟨p,ns,rfl,hq,ne,q⟩:=h;obtain ⟨u,rfl,ru⟩:=bx r;cases ru;obtain ⟨its,rv,pl,hz⟩:=I.list hq;obtain ⟨ps,rfl,e⟩:=cC rv
 have lp:ps.length=ns.length:=by rw [<- e,B9]
 have n0:0 < ns.length:=Cy.mpr ne
 have ei:intItems ps.toArray=(ps.map fun p=>Value.int p.1 p.2).toArray:=by unfold intItems;simp
 obtain ⟨b1,b2⟩:=argBest_gt (numAt ps.toArray) (ps.toArray.size - 1)
 have sz:ps.toArray.size=ns.length:=by simp [lp]
 refine max_intList (xs:=ps.toArray) (I.ok.hd hc) (by rw [ei];exact pl.isList) (by rw [sz];exact n0) fun v h' tk hv k=> ?_
 obtain ⟨t,rfl⟩:=intItems_at hv;rw [sz] at b1 b2 ⊢;refine ⟨.int _,H,I.kept k,⟨t,rfl⟩,q _ ?_ fun a ha=> ?_⟩
 ·rw [ck e (by omega)]
  exact C6 _
 ·obtain ⟨j,hj,rfl⟩:=Ey ha
  have:=b2 j (by omega);rw [ck e hj] at this;exact this
theorem vZ(hc:X.calm=true):ax X (.builtin "min") (qB X.K):=by
 intro pins s σ H xs us Q I r h;obtain ⟨p,ns,rfl,hq,ne,q⟩:=h;obtain ⟨u,rfl,ru⟩:=bx r;cases ru;obtain ⟨its,rv,pl,hz⟩:=I.list hq;obtain ⟨ps,rfl,e⟩:=cC rv
 have lp:ps.length=ns.length:=by rw [<- e,B9]
 have n0:0 < ns.length:=Cy.mpr ne
 have ei:intItems ps.toArray=(ps.map fun p=>Value.int p.1 p.2).toArray:=by unfold intItems;simp
 obtain ⟨b1,b2⟩:=argBest_lt (numAt ps.toArray) (ps.toArray.size - 1)
 have sz:ps.toArray.size=ns.length:=by simp [lp]
 refine min_intList (xs:=ps.toArray) (I.ok.hd hc) (by rw [ei];exact pl.isList) (by rw [sz];exact n0) fun v h' tk hv k=> ?_
 obtain ⟨t,rfl⟩:=intItems_at hv;rw [sz] at b1 b2 ⊢;refine ⟨.int _,H,I.kept k,⟨t,rfl⟩,q _ ?_ fun a ha=> ?_⟩
 ·rw [ck e (by omega)]
  exact C6 _
 ·obtain ⟨j,hj,rfl⟩:=Ey ha
  have:=b2 j (by omega);rw [ck e hj] at this;exact this
end
section
variable{X:Cx}
end
end L2
namespace ZpT
open PySem PySem.Spec PyProof.Rows
section
variable{prog:Program}{w:World}{A:Around}{E:Value->Shared->Prop}{s:Shared}
end
open AutoSeq1 (wpAny_loadPart')
section
variable{prog:Program}{w:World}{A:Around}{E:Value->Shared->Prop}{s:Shared}
end
end ZpT
namespace L2
open PySem PySem.Spec PyProof.Rows
section
variable{X:Cx}
end
end L2
namespace St2
open PySem PySem.Spec PyProof.Rows
section
variable{prog:Program}{w:World}{A:Around}{E:Value->Shared->Prop}{s:Shared}
theorem lq{a:Addr}{its:Array Value}{ns:List Int}{Q:Value->Shared->Prop}(calm:A.handled=none)(tu:s.heap.IsList a its)(inz:IntsAre its.toList ns)(few:its.size+1 < scanBound)
 (q:∀ (h':Heap) (tk:Nat),h'.SetOf (intKind prog w) s.heap.objs.size (fun x=>(dR ns its.size).any (·== x)) (dR ns its.size).length->(∀ b o,b < s.heap.objs.size->s.heap.get? b=some o->h'.get? b=some o)->Q (.ref s.heap.objs.size) { s with heap:=h',toks:=tk }) :
 wpAny (model prog w) A (call (.type "set") [.ref a]) Q E s:=by
 obtain ⟨c0,tl0,mro0⟩:=F.called_set.mro;have m1:=F.called_set.made;have m2:=F.called_set.sub;have m3:=F.called_set.notType;have m4:=F.called_set.canCreate;have m5:=F.typeCall_set_1 (.ref a);refine wpAny_call (codeAny_of_tree ?_)
 show wpAny _ _ (callAny (.type "set") _) _ _ _
 refine Ca ⟨Code.quiet_builtin _ (by decide +kernel),codeAny_builtin F.entry_type_call ?_⟩;rw [Around.under_plain (weight_type_call_type "set" [.ref a] []) rfl]
 repeat (any_goals (first | assumption | wp_step))
 refine codeAny_mono (code_set_new_1 (.ref a) (E:=E) (Q₁:=fun ob t1=>∃ led:Bool,ob = .ref s.heap.objs.size/\t1={ s with heap:=s.heap.push (gw led) }) fun led=>⟨led,rfl,rfl⟩) fun res t1 hres=> ?_
 cases res with
 | error x=>exact hres
 | ok fl =>
  cases fl with
  | next=>exact hres.elim
  | brk=>exact hres.elim
  | cont=>exact hres.elim
  | ret ob =>
   obtain ⟨led,rfl,rfl⟩:=hres;have atS:(s.heap.push (gw led)).get? s.heap.objs.size=some (gw led):=Cd _ rfl;have tyS:Shared.TypeIs { s with heap:=s.heap.push (gw led) } (.ref s.heap.objs.size) "set" := ⟨_,atS,rfl⟩;have i1:=F.called_set.init.lookup;have i2:=F.called_set.init.bind (.ref s.heap.objs.size)
   repeat (any_goals (first | assumption | wp_step))
   refine codeAny_mono (codeAny_call_builtin (R:=wants (fun r t2=>r = .none/\∃ h' tk,t2={ s with heap:=h',toks:=tk }/\h'.SetOf (intKind prog w) s.heap.objs.size (fun x=>(dR ns its.size).any (·== x)) (dR ns its.size).length /\
    (∀ b o,b < s.heap.objs.size->s.heap.get? b=some o->h'.get? b=some o)) E) F.called_set.init.plain F.entry_set_init (check_set_init_1 tyS ?_)) fun r2 t2 hr2=> ?_
   ·obtain ⟨⟨k1,k2,k3,k4⟩,e0,e1,n0,e2⟩:=id tu
    simp only at e1 e2;subst e1 e2;have e0':(s.heap.push (gw led)).get? a=some ⟨.type "list",k2,.seq its n0,k4⟩:=B7 _ e0;have j1:=F.sub_list_set;have j2:=F.sub_list_frozenset
    have j3:(Value.type "list" == Value.type "dict")=false:=by decide
    have tu1:(s.heap.push (gw led)).IsList a its:=⟨_,e0',rfl,n0,rfl⟩;unfold Builtin.«set.__init__» noKeywords Builtin.Frozenset.updateFrom
    generalize hPy:pyIter=PY
    wp_walk
    subst hPy;refine DG tu1 ?_;refine B6 (EE ?_);have lt:a < s.heap.objs.size:=Cf e0
    have calm3:A.in1.in1.in1.handled=none:=by simp [calm]
    have ne1:a≠(s.heap.push (gw led)).objs.size:=by rw [CL];exact Cu (Dp lt)
    have out:s.heap.objs.size∉[(s.heap.push (gw led)).objs.size,a]:=by
     rw [CL];simp only [List.mem_cons,Db,or_false,not_or];exact ⟨Cu (DZ _),DJ lt⟩
    refine codeAny_set_update_loopS ((Walks.list calm3 _ a ne1 its).toS) s.heap.objs.size out (fun j=>ns.getD j 0) (fun i v hv=>IntsAre.int_at inz i v (by rw [DC];exact hv)) few (its.size - 0) 0 _ (by omega) (Ek _) ⟨⟨_,Cd _ rfl,rfl,rfl⟩,?T⟩ ?S ?R
    case T=>exact ⟨_,B7 _ e0',rfl,n0,rfl⟩
    case S=>exact SetOf_congr ((setObjOf_fresh (knd:=intKind prog w) led).setOf (B7 _ atS) (by unfold scanBound;omega)) (fun _=>rfl) rfl
    case R =>
     rintro ⟨h',g',d',tk',os'⟩ mv st;have w1:g'=s.gens:=mv.gens;have w2:d'=s.drawn:=mv.drawn;have w3:os'=s.os:=mv.os;subst w1 w2 w3;refine Ca ?_
     show wpAny _ _ (ret Value.none) _ _ _
     refine Ca ⟨rfl,h',tk',rfl,st,fun b o lb e=>mv.heap b o ?_ (B7 _ (B7 _ e))⟩;rw [CL];simp only [List.mem_cons,Db,or_false,not_or];exact ⟨Cu lb,Cu (Dp lb)⟩
   ·cases r2 with
    | error x=>exact hr2
    | ok f2 =>
     cases f2 with
     | ret r =>
      obtain ⟨rfl,h',tk,rfl,st,kp⟩:=hr2
      repeat (any_goals (first | assumption | wp_step))
      exact q _ _ st kp
     | next=>exact hr2.elim
     | brk=>exact hr2.elim
     | cont=>exact hr2.elim
theorem nq{l:Addr}{vs:List Value}{Q:List Value->Shared->Prop}(hl:s.heap.IsTuple l vs.toArray)
 (h:Q vs { s with heap:=(s.heap.push (seqObj "list" #[] 0)).update s.heap.objs.size (Obj.mapSeq (·++ vs.toArray)) }) (hz:vs.length<=sizeLine):wpAny (model prog w) A (collect (.ref l)) Q E s:=by
 unfold collect;refine B6 (EE (codeAny_builtin F.entry_proto_collect ?_));unfold Builtin.«proto.collect»
 show wpAny _ _ (newList [] >>= _) _ _ _
 refine B6 (Ev ?_ (by simp));refine Ca ⟨Code.quiet_builtin _ (by decide +kernel),codeAny_builtin F.entry_list_iadd ?_⟩;obtain ⟨o,ho,hc,n,hd⟩:=id hl;have ho':(s.heap.push { cls:=Value.type "list",data:=Data.seq #[] }).get? l=some o:=B7 _ ho;have hn:(s.heap.push { cls:=Value.type "list",data:=Data.seq #[] }).get? s.heap.objs.size=some { cls:=Value.type "list",data:=Data.seq #[] }:=Cd _ rfl;have hT:Shared.TypeIs { s with heap:=s.heap.push { cls:=Value.type "list",data:=Data.seq #[] } } (.ref l) "tuple" := ⟨o,ho',hc⟩
 show wpAny _ _ (Builtin.List.listExtendWith (.ref s.heap.objs.size) (.ref l) (.ref s.heap.objs.size)) _ _ _
 unfold Builtin.List.listExtendWith;refine B6 (wpAny_typeOf hT ?_)
 have hb:(Builtin.List.listSameRef (.ref s.heap.objs.size) (.ref l)||Value.type "tuple" == Value.type "list" || Value.type "tuple" == Value.type "tuple")=true:=by
  rw [show (Value.type "tuple" == Value.type "tuple")=true by decide,Et]
 rw [if_pos hb];refine B6 (listItems_at ho' hd (B6 (listItems_at hn rfl ?_)))
 show wpAny _ _ (Builtin.List.listUpdate (.ref s.heap.objs.size) (fun x=>x++vs.toArray) >>= _) _ _ _
 refine B6 (listUpdate_at hn rfl ?_ (by simp) (by simp;omega));refine Ca ?_;have e:=Dh (Obj.mapSeq (·++ vs.toArray)) hn rfl
 show wpAny _ _ (load s.heap.objs.size >>= _) _ _ _
 refine B6 (wpAny_load e ?_)
 show wpAny _ _ (pure (#[]++vs.toArray).toList) _ _ _
 refine Ca ?_;simpa using h
end
end St2
namespace L2
open PySem PySem.Spec PyProof.Rows
section
variable{X:Cx}
def iE(K:EG):List V->Hp->(V->Hp->Prop)->Prop:=fun xs H Q=>∃ (p:Addr) (ns:List Int),xs=[V.ref p]/\SqT K H p (ns.map V.int)/\ns.length < 64 /\
 ∀ l (ms:List Int),H l=none->List.Perm ms ns->ms.Pairwise (·<= ·)->Q (.ref l) (upd H l (.lst (ms.map V.int)))
theorem pK:ax X (.builtin "sorted") (iE X.K):=by
 intro pins s σ H xs us Q I r h;obtain ⟨p,ns,rfl,hq,h64,q⟩:=h;obtain ⟨u,rfl,ru⟩:=bx r;cases ru;obtain ⟨its,rv,pl,hz⟩:=I.tuple hq;have hlen:=rv.length;rw [B9] at hlen;refine Calls.call_function_entry kind_sorted plain_sorted entry_sorted (args_sorted1 _) ?_;unfold Builtin.«sorted»;refine B6 (m:=checkCount "sorted" 1 1 _) (Ca ?_);have lsz:sizeLine=16777216:=sizeLine_eq;refine B6 (St2.nq (show s.heap.IsTuple p its.toArray from pl) (B6 (Ev ?_ (by omega))) (by omega))
 generalize hh1:(s.heap.push (seqObj "list" #[] 0)).update s.heap.objs.size (Obj.mapSeq (·++ its.toArray))=h1
 have hsz:h1.objs.size=s.heap.objs.size+1:=by rw [<- hh1,Heap.size_update,size_push']
 have k1:∀ b o,s.heap.get? b=some o->h1.get? b=some o:=fun b o q=>by
  rw [<- hh1];exact (DQ _ _ (Ne.symm (Cu (Cf q)))).trans (B7 _ q)
 show wpAny _ _ _ _ _ { s with heap:=h1.push (seqObj "list" its.toArray 0) }
 have oL:(h1.push (seqObj "list" its.toArray 0)).get? h1.objs.size=some (seqObj "list" its.toArray 0):=Cd _ rfl;refine B6 (Du (C1 slot_list_sort ⟨_,oL,rfl⟩ entry_list_sort (list_sort_tree oL (cF rv) (by omega) fun out ms hi hp hs=>⟨_,rfl,?_⟩) (args_list_sort _)))
 have hle:s.heap.objs.size<=h1.objs.size:=by rw [hsz];exact Nat.le_succ _
 have hf:H h1.objs.size=none:=I.hok.fresh hle;obtain ⟨e,he⟩:=sortedHeap_at (out:=out) oL;refine Ca ⟨_,rfl,.ref h1.objs.size,upd H h1.objs.size (.lst (ms.map V.int)),I.laid (t':=s.toks) (fun b o q=> ?_) hle ⟨?_,out.toList,e,jV hi,by simpa using he⟩,rfl,q _ _ hf hp hs⟩
 ·have lb:=Cf (k1 b o q)
  rw [sortedHeap_old (Cu lb) (by rw [CL];exact Dp lb)];exact B7 _ (k1 b o q)
 ·rw [B9,hp.length_eq]
  rwa [B9] at hz
end
section
variable{X:Cx}
def xc(K:EG):List V->Hp->(V->Hp->Prop)->Prop:=fun xs H Q=>∃ (p:Addr) (ns:List Int),xs=[V.ref p]/\SqL K H p (ns.map V.int)/\Q (.int ns.sum) H
theorem vV(hc:X.calm=true):ax X (.builtin "sum") (xc X.K):=by
 intro pins s σ H xs us Q I r h;obtain ⟨p,ns,rfl,hq,q⟩:=h;obtain ⟨u,rfl,ru⟩:=bx r;cases ru;obtain ⟨its,rv,pl,hz⟩:=I.list hq;obtain ⟨ps,rfl,e⟩:=cC rv
 have ei:intItems ps.toArray=(ps.map fun p=>Value.int p.1 p.2).toArray:=by unfold intItems;simp
 refine sum_intListG (xs:=ps.toArray) (I.ok.hd hc) (by rw [ei];exact pl.isList) fun h' tk t' k=> ?_
 have es:preSum (numAt ps.toArray) ps.toArray.size=ns.sum:=by
  rw [preSum_eq,List.take_of_length_le (by simp),<- e]
 rw [es];exact ⟨.int _,H,I.kept k,⟨t',rfl⟩,q⟩
def xb(K:EG):List V->Hp->(V->Hp->Prop)->Prop:=fun xs H Q=>∃ (p:Addr) (ns:List Int),xs=[V.ref p]/\SqT K H p (ns.map V.int)/\Q (.int ns.sum) H
theorem vU(hc:X.calm=true):ax X (.builtin "sum") (xb X.K):=by
 intro pins s σ H xs us Q I r h;obtain ⟨p,ns,rfl,hq,q⟩:=h;obtain ⟨u,rfl,ru⟩:=bx r;cases ru;obtain ⟨its,rv,pl,hz⟩:=I.tuple hq;obtain ⟨ps,rfl,e⟩:=cC rv
 have ei:intItems ps.toArray=(ps.map fun p=>Value.int p.1 p.2).toArray:=by unfold intItems;simp
 have ht:s.heap.IsTuple p (intItems ps.toArray):=by rw [ei];exact pl
 have hlt:p < s.heap.objs.size:=by obtain ⟨_,e,_⟩:=ht;exact Cf e
 have sz:(intItems ps.toArray).size=ps.toArray.size:=by unfold intItems;simp
 have es:preSum (numAt ps.toArray) (intItems ps.toArray).size=ns.sum:=by
  rw [sz,preSum_eq,List.take_of_length_le (by simp),<- e]
 refine call_sum_walkG (CW ht ?_);refine ⟨s.heap.objs.size,_,_,_,_,_,numAt ps.toArray,rfl,Walks.tuple (A:=X.A.in1) (I.ok.hd hc) _ p (Cu hlt) (intItems ps.toArray),⟨⟨_,Cd _ rfl,rfl,rfl⟩,ht.push _⟩,fun b hb=> ?_,fun _ _=>intItems_at,fun h' tk t' hk=> ?_⟩
 ·show b < (s.heap.push _).objs.size
  rw [CL]
  have hb':b=s.heap.objs.size\/b=p:=by simpa using hb
  rcases hb' with rfl | rfl
  ·exact DZ _
  ·exact Dp hlt
 ·rw [es]
  exact ⟨.int _,H,I.kept fun b o hb=>hk b o (by have:=Cu (Cf hb);simpa using this) (B7 _ hb),⟨t',rfl⟩,q⟩
theorem rn(l:Addr)(items:Array Value)(n:Nat)(b:Addr)(items2:Array Value)(n2:Nat)(dd:Option Addr)(ss:Array (Option Value))(hs0:¬(!items.isEmpty&&Builtin.List.listTooLong (items.size+items2.size))=true)(hs1:items.size<=sizeLine)(hs2:items.size+items2.size<=sizeLine+1) :
 Meets (Builtin.«list.extend» ⟨[.ref l,.ref b],[]⟩) (fun _ R s=>s.heap.get? l=some { cls:= .type "list",dict:=none,data:= .seq items n,slots := #[] }/\s.heap.get? b=some { cls:= .type "tuple",dict:=dd,data:= .seq items2 n2,slots:=ss }/\R (.ok (.ret Value.none)) { s with heap:=s.heap.update l (Obj.mapSeq fun x=>x++items2),toks:=s.toks }) :=
 .of_wp fun prog w A R s h=>by
  obtain ⟨hp,g,d,tk,os⟩:=s;obtain ⟨hl,hb,h⟩:=h;have f1:=AutoSeq1.idx_int;have f2:=AutoSeq1.sub_tuple_tuple;have f3:=AutoSeq1.sub_list_list;have f4:=AutoSeq1.sub_tuple_list;have f5:=AutoSeq1.sub_list_tuple;
  have hz':(items++items2).size<=sizeLine+1:=by rw [Array.size_append];exact hs2
  wp_walk using (wpAny_updateSeq hl rfl (hz:=hs1) (_hz':=hz')),AutoSeq1.wpAny_loadPart' hl,AutoSeq1.wpAny_loadPart' hb;exact ⟨_,rfl,h⟩
def qD:V->List V->Hp->VK->Prop:=fun x vs H Q=>∃ l b xs zs,x = .ref l/\vs=[.ref b]/\H l=some (.lst xs)/\H b=some (.tup zs)/\xs.length+zs.length<=sizeLine/\Q .non (upd H l (.lst (xs++zs)))
theorem sQ:MtM X "list.extend" qD:=by
 intro pins s σ H x vs v us Q I rx rv h;obtain ⟨l,b,xs,zs,rfl,rfl,hH,hB,hz,q⟩:=h;cases rx;obtain ⟨u,rfl,ru⟩:=rv.one;cases ru;obtain ⟨z,its,n,r,hl,e⟩:=I.lstM hH;obtain ⟨z2,its2,r2,⟨cl,dd,dt,ss⟩,e2,ec,n2,ed⟩:=I.hok b _ hB;dsimp only at ec ed;subst ec ed;have hl2:=r2.length
 have hsz:its.toArray.size+its2.toArray.size<=sizeLine:=by rw [Cb,Cb];omega
 have hlong:¬ (!its.toArray.isEmpty&&Builtin.List.listTooLong (its.toArray.size+its2.toArray.size))=true:=by
  rw [l7 hsz,Dq];exact Cj
 refine call_meets F.slot_list_extend ⟨_,e,rfl⟩ F.entry_list_extend (F.args_list_extend_2 _ _)
  (rn l its.toArray n b its2.toArray n2 dd ss hlong (by rw [Cb];omega) (by omega)) ⟨e,e2,?_⟩
 refine ⟨.non,_,I.lset (its':=its++its2) hH e (by simp) (r.append r2) ?_,rfl,q⟩;rw [Ct];omega
end
section
variable{X:Cx}
end
section
variable{X:Cx}
end
section
variable{X:Cx}{o i:Expr}{pos:Pos}{td ty:TE}
end
section
variable{X:Cx}{Pre:St->Hp->Prop}{R:Hp->V->Prop}
end
section
variable{X:Cx}{Pre:St->Hp->Prop}{R:Hp->V->Prop}
end
section
variable{X:Cx}
end
section
variable{X:Cx}
end
end L2
namespace St2
open PySem PySem.Spec PyProof.Rows
section
variable{prog:Program}{w:World}{A:Around}{E:Value->Shared->Prop}{s:Shared}
end
end St2
namespace L2
open PySem PySem.Spec PyProof.Rows
section
variable{X:Cx}
end
end L2
namespace St3
open PySem PySem.Spec PyProof.Rows PySem.SeqAt PySem.MeetsSeq PySem.MeetsSeq2 PySem.MeetsSeq3
theorem jN(ns:List Int)(x:Int):(St2.dR ns ns.length).any (·== x)=true↔x∈ns:=by
 have e:=firstMet_any (fun j=>ns.getD j 0) ns.length x;rw [show (St2.dR ns ns.length).any (·== x)=(firstMet (fun j=>ns.getD j 0) ns.length).any (·== x) from rfl,e,St2.qb ns ns.length (Ci _),List.take_length];simp
end St3
namespace L2
open PySem PySem.Spec PyProof.Rows
section
variable{X:Cx}
def sG(K:EG):List V->Hp->VK->Prop:=fun xs H Q=>∃ (p:Addr) (ns:List Int),xs=[V.ref p]/\SqL K H p (ns.map V.int)/\ns.length<=1000 /\
 ∀ l S,H l=none->(∀ x,S x=true↔x∈ns)->Q (.ref l) (upd H l (.set S (St2.dR ns ns.length).length))
theorem tP(hc:X.calm=true):ax X (.type "set") (sG X.K):=by
 intro pins s σ H xs us Q I r h;obtain ⟨p,ns,rfl,hq,hn,q⟩:=h;obtain ⟨u,rfl,ru⟩:=bx r;cases ru;obtain ⟨its,rv,pt,_⟩:=I.list hq
 have ln:its.length=ns.length:=by rw [<- rv.length,B9]
 refine St2.lq (ns:=ns) (I.ok.hd hc) pt.isList (by simpa using cF rv) (by rw [Cb,ln];unfold scanBound;omega) fun h' tk st kp=> ?_
 have sz:its.toArray.size=ns.length:=by rw [Cb,ln]
 rw [sz] at st;have hf:H s.heap.objs.size=none:=I.hok.fresh (Ci _);exact ⟨.ref s.heap.objs.size,_,I.laid (o:= .set _ _) (fun b o e=>kp b o (Cf e) e) (Ci _) st,rfl,q _ _ hf (St3.jN ns)⟩
end
section
variable{X:Cx}
end
section
variable{X:Cx}
end
end L2
namespace St4
open PySem PySem.Spec PyProof.Rows PySem.W
section
variable{prog:Program}{w:World}{A:Around}{E:Value->Shared->Prop}{s:Shared}{T:String}{r d:Addr}{n:Nat}{P:Nat->Value->Prop}{OK:Heap->Prop}
end
end St4
namespace L2
open PySem PySem.Spec PyProof.Rows PySem.W
section
variable{X:Cx}
end
section
variable{X:Cx}
end
end L2
namespace L2
open PySem PySem.Spec PyProof.Rows
section
variable{X:Cx}
end
section
variable{X:Cx}
end
section
variable{X:Cx}
variable{o e:Expr}{es:List Expr}{to:TE}{t:TA}{name:Str}{apos cpos:Pos}{id:String}{r:V->List V->Hp->VK->Prop}
end
section
variable{X:Cx}{Pre:St->Hp->Prop}{R R':Hp->V->Prop}
end
mutual
def t7(K:EG)(H:Hp):PyData->V->Prop
 | .none,v=>v = .non
 | .bool b,v=>v = .bl b
 | .int i,v=>v = .int i
 | .str x,v=>v = .str x
 | .list ds,v=>∃ p xs,v = .ref p/\SqL K H p xs/\iz K H ds xs
 | .tuple ds,v=>∃ p xs,v = .ref p/\SqT K H p xs/\iz K H ds xs
 | .dict kvs,v=>kvs=[]/\∃ p,v = .ref p/\(H p=some (.dK [])\/H p=some (.dT []))
def iz(K:EG)(H:Hp):List PyData->List V->Prop
 | [],[]=>True
 | d::ds,x::xs=>t7 K H d x/\iz K H ds xs
 | _,_=>False
end
mutual
theorem ac.repP{K:EG}{H H':Hp}(e:ac H H'):∀ {d:PyData} {v:V},t7 K H d v->t7 K H' d v
 | .none,_,h=>h
 | .bool _,_,h=>h
 | .int _,_,h=>h
 | .str _,_,h=>h
 | .list _,_,⟨p,xs,h1,h2,h3⟩=>⟨p,xs,h1,e.seq h2,e.repPL h3⟩
 | .tuple _,_,⟨p,xs,h1,h2,h3⟩=>⟨p,xs,h1,e.tup h2,e.repPL h3⟩
 | .dict _,_,⟨h0,p,h1,h2⟩=>⟨h0,p,h1,h2.elim (fun z=> .inl (e _ _ z)) fun z=> .inr (e _ _ z)⟩
theorem ac.repPL{K:EG}{H H':Hp}(e:ac H H'):∀ {ds:List PyData} {xs:List V},iz K H ds xs->iz K H' ds xs
 | [],[],_=>trivial
 | _::_,_::_,h=>⟨e.repP h.1,e.repPL h.2⟩
 | [],_::_,h=>h.elim
 | _::_,[],h=>h.elim
end
def nv:PyData->Dt
 | .none=> .non | .bool b=> .bl b | .int i=> .int i | .str x=> .str x | .list _=> .lst | .dict _=> .dct | .tuple ds=> .tup (ds.map nv)
mutual
theorem t7.rep{K:EG}{H:Hp}:∀ {d:PyData} {v:V},t7 K H d v->Rep K H (nv d) v
 | .none,_,h=>by unfold nv;exact h
 | .bool _,_,h=>by unfold nv;exact h
 | .int _,_,h=>by unfold nv;exact h
 | .str _,_,h=>by unfold nv;exact h
 | .list _,_,⟨p,xs,h1,h2,_⟩=>by unfold nv;exact ⟨p,xs,h1,h2⟩
 | .tuple _,_,⟨p,xs,h1,h2,h3⟩=>by unfold nv;exact ⟨p,xs,h1,h2,iz.rep h3⟩
 | .dict _,_,⟨_,p,h1,h2⟩=>by unfold nv;exact ⟨p,h1,h2.elim (fun z=> .inl ⟨_,z⟩) fun z=> .inr ⟨_,z⟩⟩
theorem iz.rep{K:EG}{H:Hp}:∀ {ds:List PyData} {xs:List V},iz K H ds xs->zh K H (ds.map nv) xs
 | [],[],_=>trivial
 | _::_,_::_,h=>⟨t7.rep h.1,iz.rep h.2⟩
 | [],_::_,h=>h.elim
 | _::_,[],h=>h.elim
end
section
variable{X:Cx}{pins:List (Addr×Obj)}{σ:St}{H:Hp}{s:Shared}
mutual
theorem wY(I:Inv X pins σ H s):∀ {d:PyData} {v:V} {u:Value},t7 X.K H d v->aD v u->∃ as,Reads s.heap u d as/\((d = .dict []\/d.hasDict=false)->d.hasDict=true->sysModules∉as)
 | .none,_,_,h,r=>by cases h;cases r;exact ⟨[],.none,fun _ z=>by simp [PyData.hasDict] at z⟩
 | .bool b,_,_,h,r=>by cases h;cases r;exact ⟨[],.bool b,fun _ z=>by simp [PyData.hasDict] at z⟩
 | .int i,_,_,h,r=>by cases h;obtain ⟨t,rfl⟩:=r;exact ⟨[],.int i t,fun _ z=>by simp [PyData.hasDict] at z⟩
 | .str x,_,_,h,r=>by cases h;obtain ⟨t,rfl⟩:=r;exact ⟨[],.str x t,fun _ z=>by simp [PyData.hasDict] at z⟩
 | .list ds,_,_,⟨p,xs,h1,h2,h3⟩,r=>by
  subst h1;cases r;obtain ⟨its,rv,pl,_⟩:=I.list h2;obtain ⟨o,e1,e2,n,e3⟩:=pl.isList;obtain ⟨as,ra⟩:=gt I h3 rv;refine ⟨p::as,.list e1 e2 e3 (by simpa using ra),fun z1 z2=> ?_⟩
  rcases z1 with z1 | z1
  ·cases z1
  ·rw [z2] at z1;cases z1
 | .tuple ds,_,_,⟨p,xs,h1,h2,h3⟩,r=>by
  subst h1;cases r;obtain ⟨its,rv,pl,_⟩:=I.tuple h2;obtain ⟨o,e1,e2,n,e3⟩:=pl;obtain ⟨as,ra⟩:=gt I h3 rv;refine ⟨as,.tuple e1 e2 e3 (by simpa using ra),fun z1 z2=> ?_⟩
  rcases z1 with z1 | z1
  ·cases z1
  ·rw [z2] at z1;cases z1
 | .dict kvs,_,_,⟨h0,p,h1,h2⟩,r=>by
  subst h1 h0;cases r
  have z:∃ o es ep,s.heap.get? p=some o/\o.cls = .type "dict" /\ o.data = .dict es ep/\es.toList=[]/\(p == sysModules)=false:=by
   rcases h2 with h2 | h2
   ·obtain ⟨_,ne,vs,kv,o,es,ep,e,ex,hd,_,pr,_⟩:=I.hok p _ h2
    cases kv;refine ⟨o,es,ep,e,ex.1,hd,?_,ne⟩
    cases hes:es.toList with
    | nil=>rfl
    | cons a l=>rw [hes] at pr;cases pr
   ·obtain ⟨_,ne,xs,pr,o,es,ep,e,ex,hd,hl,_⟩:=I.hok p _ h2
    cases pr;exact ⟨o,es,ep,e,ex.1,hd,hl,ne⟩
  obtain ⟨o,es,ep,e1,e2,e3,e4,ne⟩:=z;refine ⟨_,.dict (as:=[]) (bs:=[]) e1 e2 e3 (by rw [e4];exact .nil) (by rw [e4];exact .nil),fun _ _ hm=> ?_⟩
  have:sysModules=p:=by simpa using hm
  rw [this] at ne;simp at ne
theorem gt(I:Inv X pins σ H s):∀ {ds:List PyData} {xs:List V} {us:List Value},iz X.K H ds xs->aw xs us->∃ as,ReadsAll s.heap us ds as
 | [],[],_,_,r=>by cases r;exact ⟨[],.nil⟩
 | _::_,_::_,_,h,r=>by
  cases r with
  | cons r t =>
   obtain ⟨a1,r1,_⟩:=wY I h.1 r;obtain ⟨a2,r2⟩:=gt I h.2 t;exact ⟨a1++a2,.cons r1 r2⟩
 | [],_::_,_,h,_=>h.elim
 | _::_,[],_,h,_=>h.elim
end
end
section
variable{X:Cx}
end
section
variable{X:Cx}{a b c d:Expr}{ta tb tc td:TE}{pos:Pos}
end
section
open PySem.SeqAt PySem.MeetsSeq
open AutoSeq1 (wpAny_loadPart')
variable{A:Around}{s:Shared}
end
section
variable{X:Cx}
end
section
variable{X:Cx}{tg:Expr}
end
end L2
namespace ZpA
open PySem PySem.Spec PyProof.Rows
inductive Kd where
 | L | T
def nm:Kd->String
 | .L => "list"
 | .T => "tuple"
def It:Kd->Heap->Addr->Addr->Nat->Prop
 | .L=>fun h it l i=>h.IsListIter it l i
 | .T=>fun h it l i=>h.IsTupleIter it l i
def Sq:Kd->Heap->Addr->Array Value->Prop
 | .L=>fun h l xs=>h.IsList l xs
 | .T=>fun h l xs=>h.IsTuple l xs
def yg:Kd->Addr->Obj
 | .L=>fun l=>{ cls:= .type "list_iterator",data:= .fields #[.ref l,.int 0 0] }
 | .T=>fun l=>{ cls:= .type "tuple_iterator",data:= .fields #[.ref l,.int 0 0] }
theorem It.at{c:Kd}{h h':Heap}{it l:Addr}{i:Nat}(x:It c h it l i)(k:∀ o,h.get? it=some o->h'.get? it=some o):It c h' it l i:=by
 cases c with
 | L=>exact Heap.IsListIter.at (show h.IsListIter it l i from x) k
 | T=>exact Heap.IsTupleIter.at (show h.IsTupleIter it l i from x) k
theorem It.obj{c:Kd}{h:Heap}{it l:Addr}{i:Nat}(x:It c h it l i):∃ o,h.get? it=some o/\(∃ vs,o.data = .fields vs)/\(o.cls = .type "list_iterator" \/ o.cls = .type "tuple_iterator"):=by
 cases c with
 | L=>obtain ⟨o,ho,hc,hd⟩:=(show h.IsListIter it l i from x);exact ⟨o,ho,⟨_,hd⟩,.inl hc⟩
 | T=>obtain ⟨o,ho,hc,hd⟩:=(show h.IsTupleIter it l i from x);exact ⟨o,ho,⟨_,hd⟩,.inr hc⟩
theorem Sq.at{c:Kd}{h h':Heap}{l:Addr}{xs:Array Value}(x:Sq c h l xs)(k:∀ o,h.get? l=some o->h'.get? l=some o):Sq c h' l xs:=by
 cases c with
 | L=>obtain ⟨o,ho,r⟩:=(show h.IsList l xs from x);exact ⟨o,k o ho,r⟩
 | T=>obtain ⟨o,ho,r⟩:=(show h.IsTuple l xs from x);exact ⟨o,k o ho,r⟩
theorem Sq.obj{c:Kd}{h:Heap}{l:Addr}{xs:Array Value}(x:Sq c h l xs):∃ o,h.get? l=some o/\(o.cls = .type "list" \/ o.cls = .type "tuple"):=by
 cases c with
 | L=>obtain ⟨o,ho,r,_⟩:=(show h.IsList l xs from x);exact ⟨o,ho,.inl r⟩
 | T=>obtain ⟨o,ho,r,_⟩:=(show h.IsTuple l xs from x);exact ⟨o,ho,.inr r⟩
theorem It.new{c:Kd}{h:Heap}{l:Addr}:It c (h.push (yg c l)) h.objs.size l 0:=by
 cases c with
 | L=>exact ⟨_,Cd _ rfl,rfl,rfl⟩
 | T=>exact ⟨_,Cd _ rfl,rfl,rfl⟩
section
variable{prog:Program}{w:World}{A:Around}{E:Value->Shared->Prop}{s:Shared}
theorem eZ{c:Kd}{it l:Addr}{i:Nat}{items}{x:Value}{Q:Value->Shared->Prop}(hit:It c s.heap it l i)(hl:Sq c s.heap l items)(hx:items[i]?=some x)
 (hQ:∀ h',It c h' it l (i+1)->Heap.SameBut it s.heap h'->Q x { s with heap:=h' }):wpAny (model prog w) A (Builtin.SmallTypes.nextOf (.ref it)) Q E s:=by
 cases c with
 | L=>exact wpAny_nextOf_list_item (show s.heap.IsListIter it l i from hit) (show s.heap.IsList l items from hl) hx hQ
 | T=>exact EnT.eZ (show s.heap.IsTupleIter it l i from hit) (show s.heap.IsTuple l items from hl) hx hQ
theorem gv{c:Kd}{it l:Addr}{i:Nat}{items}{Q:Value->Shared->Prop}(hh:A.handled=none)(hit:It c s.heap it l i)(hl:Sq c s.heap l items)(hx:items[i]?=none)
 (hE:∀ h' e,Heap.ExtBut it s.heap h'->(∃ o,h'.get? e=some o/\o.cls = .type "StopIteration")->E (.ref e) { s with heap:=h' }):wpAny (model prog w) A (Builtin.SmallTypes.nextOf (.ref it)) Q E s:=by
 cases c with
 | L=>exact wpAny_nextOf_list_end hh (show s.heap.IsListIter it l i from hit) (show s.heap.IsList l items from hl) hx hE
 | T=>exact EnT.gv hh (show s.heap.IsTupleIter it l i from hit) (show s.heap.IsTuple l items from hl) hx hE
end
theorem draws{prog:Program}{w:World}{A:Around}{c:Kd}(hh:A.handled=none)(it l:Addr)(hne:l≠it)(items:Array Value) :
 Draws prog w A it [it,l] items.size (fun i v=>items[i]?=some v) (fun i h=>It c h it l i/\Sq c h l items) where
 live:=fun _ _ st=>let ⟨o,ho,_⟩:=st.1.obj;⟨o,ho⟩
 frame:=fun _ _ _ st hk=>⟨st.1.at fun o e=>hk it (by simp) o e,st.2.at fun o e=>hk l (by simp) o e⟩
 item:=fun i s Q E hi st hQ=>by
  refine eZ st.1 st.2 (x:=items[i]) (by simp [hi]) fun h' hit' hs'=> ?_
  exact hQ _ h' s.toks (by simp [hi]) ⟨hit',st.2.at fun o e=>hs'.extBut _ _ hne e⟩ hs'
 done:=fun s Q E st hE=>gv hh st.1 st.2 (by simp) hE
section
variable{prog:Program}{w:World}{A:Around}{E:Value->Shared->Prop}{s:Shared}
theorem ww{c1 c2:Kd}{z TI TO i1 i2 l1 l2:Addr}{k:Nat}{xs ys:Array Value}{x y a b:Value}{Q:Option Value->Shared->Prop}(ap:ZipApart z TI TO i1 i2 l1 l2)(hz:IsZip s.heap z TI TO .none)(hTI:IsPair s.heap TI (.ref i1) (.ref i2))(hTO:IsPair s.heap TO a b)
 (h1:It c1 s.heap i1 l1 k) (h2:It c2 s.heap i2 l2 k) (t1:Sq c1 s.heap l1 xs) (t2:Sq c2 s.heap l2 ys) (hx:xs[k]?=some x) (hy:ys[k]?=some y)
 (hQ:∀ h',IsZip h' z TI TO (rawInt s.heap.objs.size)->IsPair h' TO x y->It c1 h' i1 l1 (k+1)->It c2 h' i2 l2 (k+1)->IsPair h' s.heap.objs.size x y->(∀ c o,c≠z->c≠TO->c≠i1->c≠i2->s.heap.get? c=some o->h'.get? c=some o)->Q (some (.ref s.heap.objs.size)) { s with heap:=h' }) :
 wpAny (model prog w) A (pyNext (.ref z)) Q E s:=by
 have hT:s.TypeIs (.ref z) "zip" := ⟨_,hz,rfl⟩;unfold pyNext
 refine B6 (wpAny_attempt (CM (name:=Str.ofString "__next__") hT F.slot_zip_next
  (C1 F.slot_zip_next hT F.entry_zip_next ?_ (F.args_zip_next_1 _))))
 show wpAny _ _ (field (.ref z) 2 >>= _) _ _ _
 refine B6 (Dj hz rfl (x:= .bool false) rfl ?_)
 show wpAny _ _ (field (.ref z) 3 >>= _) _ _ _
 refine B6 (Dj hz rfl (x:= .ref TI) rfl ?_)
 show wpAny _ _ (seqItems? (.ref TI) >>= _) _ _ _
 refine B6 (DX hTI rfl ?_)
 show wpAny _ _ (Builtin.SmallTypes.ownedTupleIsFree (.ref z) >>= _) _ _ _
 unfold Builtin.SmallTypes.ownedTupleIsFree;refine B6 (B6 (Dj hz rfl (x:= .none) rfl (Ca ?_)))
 show wpAny _ _ (rule "zip.__next__.owned-tuple-again" >>= _) _ _ _
 refine B6 (wpAny_rule ?_)
 show wpAny _ _ (field (.ref z) 4 >>= _) _ _ _
 refine B6 (Dj hz rfl (x:= .ref TO) rfl ?_)
 show wpAny _ _ (setField (.ref z) 0 .ellipsis >>= _) _ _ _
 refine B6 (DD hz rfl (show 0 < 5 by decide) ?_);have zA:IsZip (s.heap.update z (Obj.mapFields fun q=>q.setIfInBounds 0 .ellipsis)) z TI TO .ellipsis:=Dh _ hz rfl;have sA:Heap.SameBut z s.heap (s.heap.update z (Obj.mapFields fun q=>q.setIfInBounds 0 .ellipsis)):=Heap.SameBut.update ..
 generalize s.heap.update z (Obj.mapFields fun q=>q.setIfInBounds 0 .ellipsis)=hA at zA sA ⊢
 have ksA:∀ c o,c≠z->s.heap.get? c=some o->hA.get? c=some o:=fun c o n q=>(sA.2 c n).trans q
 have toA:IsPair hA TO a b:=ksA _ _ ap.TOz hTO
 have i1A:It c1 hA i1 l1 k:=h1.at fun o q=>ksA i1 o ap.i1z q
 have i2A:It c2 hA i2 l2 k:=h2.at fun o q=>ksA i2 o ap.i2z q
 have t1A:Sq c1 hA l1 xs:=t1.at fun o ho=>ksA l1 o ap.l1z ho
 have t2A:Sq c2 hA l2 ys:=t2.at fun o ho=>ksA l2 o ap.l2z ho
 show wpAny _ _ (forIn [(Value.ref i1,0),(Value.ref i2,1)] ((none:Option Fin),()) _ >>= _) _ _ _
 rw [Ez];refine B6 (B6 (B6 (wpAny_onRaise ?_)))
 show wpAny _ _ (Builtin.SmallTypes.nextOf (.ref i1) >>= fun v=>pure (some v)) _ _ _
 refine B6 (eZ (s:={ s with heap:=hA }) i1A t1A hx fun hB i1B sB=>Ca ?_)
 have ksB:∀ c o,c≠i1->hA.get? c=some o->hB.get? c=some o:=fun c o n q=>(sB.2 c n).trans q
 have toB:IsPair hB TO a b:=ksB _ _ ap.TOi1 toA
 show wpAny _ _ (seqItems? (.ref TO) >>= _) _ _ _
 refine B6 (DX toB rfl ?_)
 show wpAny _ _ (updateSeq TO (fun q=>q.setIfInBounds 0 x) >>= _) _ _ _
 refine B6 (wpAny_updateSeq_pair (s:={ s with heap:=hB }) toB fun hC toC sC=> ?_);refine B6 (wpAny_letGo (Ca ?_))
 have ksC:∀ c o,c≠TO->hB.get? c=some o->hC.get? c=some o:=fun c o n q=>(sC.2 c n).trans q
 have i1C:It c1 hC i1 l1 (k+1):=i1B.at fun o q=>ksC i1 o (Ne.symm ap.TOi1) q
 have i2C:It c2 hC i2 l2 k:=(i2A.at fun o q=>ksB i2 o (Ne.symm ap.i12) q).at fun o q=>ksC i2 o (Ne.symm ap.TOi2) q
 have t2C:Sq c2 hC l2 ys:=t2A.at fun o ho=>ksC l2 o ap.l2TO (ksB l2 o ap.l2i1 ho)
 have zC:IsZip hC z TI TO .ellipsis:=ksC _ _ (Ne.symm ap.TOz) (ksB _ _ (Ne.symm ap.i1z) zA);have toC:IsPair hC TO x b:=toC
 show wpAny _ _ (forIn [(Value.ref i2,1)] ((none:Option Fin),()) _) _ _ _
 rw [Ez];refine B6 (B6 (wpAny_onRaise ?_))
 show wpAny _ _ (Builtin.SmallTypes.nextOf (.ref i2) >>= fun v=>pure (some v)) _ _ _
 refine B6 (eZ (s:={ s with heap:=hC }) i2C t2C hy fun hD i2D sD=>Ca ?_)
 have ksD:∀ c o,c≠i2->hC.get? c=some o->hD.get? c=some o:=fun c o n q=>(sD.2 c n).trans q
 have toD:IsPair hD TO x b:=ksD _ _ ap.TOi2 toC
 show wpAny _ _ (seqItems? (.ref TO) >>= _) _ _ _
 refine B6 (DX toD rfl ?_)
 show wpAny _ _ (updateSeq TO (fun q=>q.setIfInBounds 1 y) >>= _) _ _ _
 refine B6 (wpAny_updateSeq_pair (s:={ s with heap:=hD }) toD fun hF toF sF=> ?_);refine B6 (wpAny_letGo (Ca ?_))
 have ksF:∀ c o,c≠TO->hD.get? c=some o->hF.get? c=some o:=fun c o n q=>(sF.2 c n).trans q
 have toF:IsPair hF TO x y:=toF;have zF:IsZip hF z TI TO .ellipsis:=ksF _ _ (Ne.symm ap.TOz) (ksD _ _ (Ne.symm ap.i2z) zC)
 have i1F:It c1 hF i1 l1 (k+1):=(i1C.at fun o q=>ksD i1 o ap.i12 q).at fun o q=>ksF i1 o (Ne.symm ap.TOi1) q
 have i2F:It c2 hF i2 l2 (k+1):=i2D.at fun o q=>ksF i2 o (Ne.symm ap.TOi2) q
 show wpAny _ _ (forIn ([]:List (Value×Nat)) ((none:Option Fin),()) _) _ _ _
 rw [List.forIn_nil];refine Ca ?_
 show wpAny _ _ (seqItems? (.ref TO) >>= _) _ _ _
 refine B6 (DX toF rfl ?_)
 show wpAny _ _ (newTuple [x,y] >>= _) _ _ _
 unfold newTuple;have sz:hF.objs.size=s.heap.objs.size:=sF.1.trans (sD.1.trans (sC.1.trans (sB.1.trans sA.1)));refine B6 (CQ ?_ (by size_fits))
 show wpAny _ _ (Builtin.SmallTypes.ownedTupleHandOut (.ref z) (.ref hF.objs.size) >>= _) _ _ { s with heap:=hF.push { cls:= .type "tuple",data:= .seq #[x,y] } }
 have zG:IsZip (hF.push { cls:= .type "tuple",data:= .seq #[x,y] }) z TI TO .ellipsis:=B7 _ zF;have pG:IsPair (hF.push { cls:= .type "tuple",data:= .seq #[x,y] }) hF.objs.size x y:=Cd _ rfl
 have ksG:∀ c o,hF.get? c=some o->(hF.push { cls:= .type "tuple",data:= .seq #[x,y] }).get? c=some o:=fun c o q=>B7 _ q
 generalize hF.push { cls:= .type "tuple",data:= .seq #[x,y] }=hG at zG pG ksG ⊢
 unfold Builtin.SmallTypes.ownedTupleHandOut
 show wpAny _ _ ((setField (.ref z) 0 (rawInt hF.objs.size) >>= fun _=>setField (.ref z) 1 (.bool false)) >>= _) _ _ _
 refine B6 (B6 (DD zG rfl (show 0 < 5 by decide) ?_));have zH:IsZip (hG.update z (Obj.mapFields fun q=>q.setIfInBounds 0 (rawInt hF.objs.size))) z TI TO (rawInt hF.objs.size):=Dh _ zG rfl;have sH:Heap.SameBut z hG (hG.update z (Obj.mapFields fun q=>q.setIfInBounds 0 (rawInt hF.objs.size))):=Heap.SameBut.update ..
 generalize hG.update z (Obj.mapFields fun q=>q.setIfInBounds 0 (rawInt hF.objs.size))=hH at zH sH ⊢
 refine DD zH rfl (show 1 < 5 by decide) ?_;have zJ:IsZip (hH.update z (Obj.mapFields fun q=>q.setIfInBounds 1 (.bool false))) z TI TO (rawInt hF.objs.size):=Dh _ zH rfl;have sJ:Heap.SameBut z hH (hH.update z (Obj.mapFields fun q=>q.setIfInBounds 1 (.bool false))):=Heap.SameBut.update ..
 generalize hH.update z (Obj.mapFields fun q=>q.setIfInBounds 1 (.bool false))=hJ at zJ sJ ⊢
 have ksJ:∀ c o,c≠z->hF.get? c=some o->hJ.get? c=some o:=fun c o n q=>(sJ.2 c n).trans ((sH.2 c n).trans (ksG c o q))
 have nz:hF.objs.size≠z:=fun e=>absurd (Cf zF) (by rw [e];exact Eg _)
 have pJ:IsPair hJ hF.objs.size x y:=(sJ.2 _ nz).trans ((sH.2 _ nz).trans pG);refine Ca ⟨_,rfl,Ca ?_⟩;rw [sz] at zJ pJ ⊢
 refine hQ hJ zJ (ksJ _ _ ap.TOz toF) (i1F.at fun o q=>ksJ i1 o ap.i1z q) (i2F.at fun o q=>ksJ i2 o ap.i2z q) pJ fun c o n1 n2 n3 n4 q=> ?_
 exact ksJ _ _ n1 (ksF _ _ n2 (ksD _ _ n4 (ksC _ _ n2 (ksB _ _ n3 (ksA _ _ n1 q)))))
theorem zj{c1:Kd}{z TI TO i1 i2 l1 l2:Addr}{k:Nat}{xs:Array Value}{a b:Value}{Q:Option Value->Shared->Prop}(hh:A.handled=none)(ap:ZipApart z TI TO i1 i2 l1 l2)(hz:IsZip s.heap z TI TO .none)(hTI:IsPair s.heap TI (.ref i1) (.ref i2))(hTO:IsPair s.heap TO a b)
 (h1:It c1 s.heap i1 l1 k) (t1:Sq c1 s.heap l1 xs) (hx:xs[k]?=none)
 (hQ:∀ h',(∀ c o,c≠z->c≠i1->s.heap.get? c=some o->h'.get? c=some o)->Q none { s with heap:=h' }) :
 wpAny (model prog w) A (pyNext (.ref z)) Q E s:=by
 have hT:s.TypeIs (.ref z) "zip" := ⟨_,hz,rfl⟩;unfold pyNext
 refine B6 (wpAny_attempt (CM (name:=Str.ofString "__next__") hT F.slot_zip_next
  (C1 F.slot_zip_next hT F.entry_zip_next ?_ (F.args_zip_next_1 _))))
 show wpAny _ _ (field (.ref z) 2 >>= _) _ _ _
 refine B6 (Dj hz rfl (x:= .bool false) rfl ?_)
 show wpAny _ _ (field (.ref z) 3 >>= _) _ _ _
 refine B6 (Dj hz rfl (x:= .ref TI) rfl ?_)
 show wpAny _ _ (seqItems? (.ref TI) >>= _) _ _ _
 refine B6 (DX hTI rfl ?_)
 show wpAny _ _ (Builtin.SmallTypes.ownedTupleIsFree (.ref z) >>= _) _ _ _
 unfold Builtin.SmallTypes.ownedTupleIsFree;refine B6 (B6 (Dj hz rfl (x:= .none) rfl (Ca ?_)))
 show wpAny _ _ (rule "zip.__next__.owned-tuple-again" >>= _) _ _ _
 refine B6 (wpAny_rule ?_)
 show wpAny _ _ (field (.ref z) 4 >>= _) _ _ _
 refine B6 (Dj hz rfl (x:= .ref TO) rfl ?_)
 show wpAny _ _ (setField (.ref z) 0 .ellipsis >>= _) _ _ _
 refine B6 (DD hz rfl (show 0 < 5 by decide) ?_);have zA:IsZip (s.heap.update z (Obj.mapFields fun q=>q.setIfInBounds 0 .ellipsis)) z TI TO .ellipsis:=Dh _ hz rfl;have sA:Heap.SameBut z s.heap (s.heap.update z (Obj.mapFields fun q=>q.setIfInBounds 0 .ellipsis)):=Heap.SameBut.update ..
 generalize s.heap.update z (Obj.mapFields fun q=>q.setIfInBounds 0 .ellipsis)=hA at zA sA ⊢
 have ksA:∀ c o,c≠z->s.heap.get? c=some o->hA.get? c=some o:=fun c o n q=>(sA.2 c n).trans q
 have i1A:It c1 hA i1 l1 k:=h1.at fun o q=>ksA i1 o ap.i1z q
 have t1A:Sq c1 hA l1 xs:=t1.at fun o ho=>ksA l1 o ap.l1z ho
 show wpAny _ _ (forIn [(Value.ref i1,0),(Value.ref i2,1)] ((none:Option Fin),()) _ >>= _) _ _ _
 rw [Ez];refine B6 (B6 (B6 (wpAny_onRaise ?_)))
 show wpAny _ _ (Builtin.SmallTypes.nextOf (.ref i1) >>= fun v=>pure (some v)) _ _ _
 refine B6 (gv (s:={ s with heap:=hA }) hh i1A t1A hx fun h' e eb he=> ?_);have zB:IsZip h' z TI TO .ellipsis:=eb _ _ (Ne.symm ap.i1z) zA;refine DD zB rfl (show 0 < 5 by decide) ?_;have sC:Heap.SameBut z h' (h'.update z (Obj.mapFields fun q=>q.setIfInBounds 0 .none)):=Heap.SameBut.update ..;obtain ⟨o,ho,hc⟩:=he
 have ez:e≠z:=fun q=>by
  rw [q,zB] at ho;cases ho;exact absurd (show Value.type "zip" = Value.type "StopIteration" from hc) (by decide)
 have ho2:(h'.update z (Obj.mapFields fun q=>q.setIfInBounds 0 .none)).get? e=some o:=(sC.2 e ez).trans ho;refine B6 (wpAny_isInstance (T := "StopIteration") (b:=true) ⟨o,ho2,hc⟩ isSubtype_stop ?_);refine Ca (hQ _ fun c o n1 n2 q=>(sC.2 c n1).trans (eb c o n2 (ksA c o n1 q)))
end
abbrev H1(c1:Kd)(h:Heap)(l1:Addr):Heap:=h.push (yg c1 l1)
abbrev H2(c1 c2:Kd)(h:Heap)(l1 l2:Addr):Heap:=(H1 c1 h l1).push (yg c2 l2)
abbrev H3(c1 c2:Kd)(h:Heap)(l1 l2:Addr):Heap:=(H2 c1 c2 h l1 l2).push { cls:= .type "tuple",data:= .seq #[.ref h.objs.size,.ref (H1 c1 h l1).objs.size] }
abbrev H4(c1 c2:Kd)(h:Heap)(l1 l2:Addr):Heap:=(H3 c1 c2 h l1 l2).push { cls:= .type "tuple",data:= .seq #[.none,.none] }
abbrev H5(c1 c2:Kd)(h:Heap)(l1 l2:Addr):Heap:=(H4 c1 c2 h l1 l2).push { cls:= .type "zip",data:= .fields #[.none,.bool false,.bool false,.ref (H2 c1 c2 h l1 l2).objs.size,.ref (H3 c1 c2 h l1 l2).objs.size] }
theorem jK(c1 c2:Kd)(l1 l2:Addr)(xs ys:Array Value) :
 Meets (Builtin.«zip.__new__» ⟨[.type "zip",.ref l1,.ref l2],[]⟩) (fun _ R s=>Sq c1 s.heap l1 xs/\Sq c2 s.heap l2 ys /\
  R (.ok (.ret (.ref (H4 c1 c2 s.heap l1 l2).objs.size))) { s with heap:=H5 c1 c2 s.heap l1 l2 }):=by
 cases c1 with
 | T =>
  cases c2 with
  | T =>
   refine .of_wp fun prog w A R s h=> ?_
   obtain ⟨hp,g,d,tk,os⟩:=s;obtain ⟨hL1,hL2,h⟩:=h;have hsub:=sub_zip;have hL1:hp.IsTuple l1 xs:=hL1;have hL2':Heap.IsTuple (H1 .T hp l1) l2 ys:=let ⟨o,ho,r⟩:=(show hp.IsTuple l2 ys from hL2);⟨o,B7 _ ho,r⟩
   wp_walk using CW hL1,CW hL2'
   exact ⟨_,rfl,h⟩
  | L =>
   refine .of_wp fun prog w A R s h=> ?_
   obtain ⟨hp,g,d,tk,os⟩:=s;obtain ⟨hL1,hL2,h⟩:=h;have hsub:=sub_zip;have hL1:hp.IsTuple l1 xs:=hL1;have hL2':Heap.IsList (H1 .T hp l1) l2 ys:=let ⟨o,ho,r⟩:=(show hp.IsList l2 ys from hL2);⟨o,B7 _ ho,r⟩
   wp_walk using CW hL1,DG hL2'
   exact ⟨_,rfl,h⟩
 | L =>
  cases c2 with
  | T =>
   refine .of_wp fun prog w A R s h=> ?_
   obtain ⟨hp,g,d,tk,os⟩:=s;obtain ⟨hL1,hL2,h⟩:=h;have hsub:=sub_zip;have hL1:hp.IsList l1 xs:=hL1;have hL2':Heap.IsTuple (H1 .L hp l1) l2 ys:=let ⟨o,ho,r⟩:=(show hp.IsTuple l2 ys from hL2);⟨o,B7 _ ho,r⟩
   wp_walk using DG hL1,CW hL2'
   exact ⟨_,rfl,h⟩
  | L =>
   refine .of_wp fun prog w A R s h=> ?_
   obtain ⟨hp,g,d,tk,os⟩:=s;obtain ⟨hL1,hL2,h⟩:=h;have hsub:=sub_zip;have hL1:hp.IsList l1 xs:=hL1;have hL2':Heap.IsList (H1 .L hp l1) l2 ys:=let ⟨o,ho,r⟩:=(show hp.IsList l2 ys from hL2);⟨o,B7 _ ho,r⟩
   wp_walk using DG hL1,DG hL2'
   exact ⟨_,rfl,h⟩
section
variable{prog:Program}{w:World}{A:Around}{E:Value->Shared->Prop}{s:Shared}
theorem mE{c1 c2:Kd}{l1 l2:Addr}{xs ys:Array Value}{Q:Value->Shared->Prop}(h1:Sq c1 s.heap l1 xs)(h2:Sq c2 s.heap l2 ys)
 (h:∀ h',IsZip h' (s.heap.objs.size+4) (s.heap.objs.size+2) (s.heap.objs.size+3) .none->IsPair h' (s.heap.objs.size+2) (.ref s.heap.objs.size) (.ref (s.heap.objs.size+1))->IsPair h' (s.heap.objs.size+3) .none .none ->
   It c1 h' s.heap.objs.size l1 0->It c2 h' (s.heap.objs.size+1) l2 0->(∀ b o,s.heap.get? b=some o->h'.get? b=some o)->Q (.ref (s.heap.objs.size+4)) { s with heap:=h' }) :
 wpAny (model prog w) A (call (.type "zip") [.ref l1,.ref l2]) Q E s:=by
 refine callType_new F.called_zip (by decide) (F.typeCall_zip_2 _ _) (F.newCall_zip_2 _ _) (fun obj=>F.args_object_init_3 obj _ _) F.entry_zip_new (jK c1 c2 l1 l2 xs ys) ⟨h1,h2,?_⟩;have z1:(H1 c1 s.heap l1).objs.size=s.heap.objs.size+1:=CL ..;have z2:(H2 c1 c2 s.heap l1 l2).objs.size=s.heap.objs.size+2:=(CL ..).trans (by rw [z1]);have z3:(H3 c1 c2 s.heap l1 l2).objs.size=s.heap.objs.size+3:=(CL ..).trans (by rw [z2]);have z4:(H4 c1 c2 s.heap l1 l2).objs.size=s.heap.objs.size+4:=(CL ..).trans (by rw [z3])
 have kz:∀ {h0:Heap} {o:Obj} (b:Addr) (u:Obj),h0.get? b=some u->(h0.push o).get? b=some u:=fun b u q=>B7 _ q
 have hz:IsZip (H5 c1 c2 s.heap l1 l2) (s.heap.objs.size+4) (s.heap.objs.size+2) (s.heap.objs.size+3) .none:=by
  have:=Cd (H4 c1 c2 s.heap l1 l2) (o:={ cls:= .type "zip",data:= .fields #[.none,.bool false,.bool false,.ref (H2 c1 c2 s.heap l1 l2).objs.size,.ref (H3 c1 c2 s.heap l1 l2).objs.size] }) rfl;rw [z4] at this
  show (H5 c1 c2 s.heap l1 l2).get? _=_
  rw [show H5 c1 c2 s.heap l1 l2=(H4 c1 c2 s.heap l1 l2).push { cls:= .type "zip",data:= .fields #[.none,.bool false,.bool false,.ref (H2 c1 c2 s.heap l1 l2).objs.size,.ref (H3 c1 c2 s.heap l1 l2).objs.size] } from rfl,this,z2,z3]
 have hTO:IsPair (H5 c1 c2 s.heap l1 l2) (s.heap.objs.size+3) .none .none:=by
  have:=Cd (H3 c1 c2 s.heap l1 l2) (o:={ cls:= .type "tuple",data:= .seq #[.none,.none] }) rfl;rw [z3] at this;exact kz _ _ this
 have hTI:IsPair (H5 c1 c2 s.heap l1 l2) (s.heap.objs.size+2) (.ref s.heap.objs.size) (.ref (s.heap.objs.size+1)):=by
  have:=Cd (H2 c1 c2 s.heap l1 l2) (o:={ cls:= .type "tuple",data:= .seq #[.ref s.heap.objs.size,.ref (H1 c1 s.heap l1).objs.size] }) rfl;rw [z2,z1] at this;have e:=kz (o:={ cls:= .type "zip",data:= .fields #[.none,.bool false,.bool false,.ref (H2 c1 c2 s.heap l1 l2).objs.size,.ref (H3 c1 c2 s.heap l1 l2).objs.size] }) _ _ (kz (o:={ cls:= .type "tuple",data:= .seq #[.none,.none] }) _ _ this);rw [<- z1] at e ⊢;exact e
 have hi2:It c2 (H5 c1 c2 s.heap l1 l2) (s.heap.objs.size+1) l2 0:=by
  have:=It.new (c:=c2) (h:=H1 c1 s.heap l1) (l:=l2);rw [z1] at this
  exact this.at fun o q=>kz _ _ (kz _ _ (kz _ _ q))
 have hi1:It c1 (H5 c1 c2 s.heap l1 l2) s.heap.objs.size l1 0:=(It.new (c:=c1) (h:=s.heap) (l:=l1)).at fun o q=>kz _ _ (kz _ _ (kz _ _ (kz _ _ q)))
 show _/\_
 rw [z4];exact ⟨⟨_,hz,rfl⟩,h _ hz hTI hTO hi1 hi2 fun b o q=>kz _ _ (kz _ _ (kz _ _ (kz _ _ (kz _ _ q))))⟩
end
end ZpA
namespace L2
open PySem PySem.Spec PyProof.Rows ZpA
def SqA:Kd->EG->Hp->Addr->List V->Prop
 | .L=>SqL
 | .T=>SqT
theorem Inv.seqA{X:Cx}{pins:List (Addr×Obj)}{σ:St}{H:Hp}{s:Shared}{c:Kd}{a:Addr}{xs:List V}(I:Inv X pins σ H s)(h:SqA c X.K H a xs):∃ its:List Value,aw xs its/\Sq c s.heap a its.toArray/\xs.length<=sizeLine:=by
 cases c with
 | L=>obtain ⟨its,r,p,z⟩:=I.list h;exact ⟨its,r,p.isList,z⟩
 | T=>obtain ⟨its,r,p,z⟩:=I.tuple h;exact ⟨its,r,(show s.heap.IsTuple a its.toArray from p),z⟩
theorem Inv.seqA_inj{X:Cx}{pins:List (Addr×Obj)}{σ:St}{H:Hp}{s:Shared}{c:Kd}{a:Addr}{xs ys:List V}(I:Inv X pins σ H s)(h:SqA c X.K H a xs)(h':SqA c X.K H a ys):xs=ys:=by
 cases c with
 | L=>exact I.list_inj h h'
 | T=>exact I.tuple_inj h h'
theorem vQ{prog:Program}{w:World}{A:Around}{E:Value->Shared->Prop}{s:Shared}{c:Kd}{e it l:Addr}{i:Nat}{j:Int}{items:Array Value}{old:Value}{Q:Option Value->Shared->Prop}(hh:A.handled=none)
 (he:IsEnum s.heap e it j old) (hit:ZpA.It c s.heap it l i) (hl:Sq c s.heap l items) (hx:items[i]?=none)
 (hQ:∀ h',Heap.ExtBut it s.heap h'->Q none { s with heap:=h' }):wpAny (model prog w) A (pyNext (.ref e)) Q E s:=by
 have hT:s.TypeIs (.ref e) "enumerate" := ⟨_,he,rfl⟩;unfold pyNext
 refine B6 (wpAny_attempt (CM (name:=Str.ofString "__next__") hT F.slot_enumerate_next
  (C1 F.slot_enumerate_next hT F.entry_enumerate_next ?_ (F.args_enumerate_next_1 _))))
 show wpAny _ _ (field (.ref e) 2 >>= _) _ _ _
 refine B6 (Dj he rfl (x:= .ref it) rfl ?_);refine B6 (ZpA.gv hh hit hl hx fun h' x he' hx'=> ?_);obtain ⟨o,ho,hc⟩:=hx';refine B6 (wpAny_isInstance (T := "StopIteration") (b:=true) ⟨o,ho,hc⟩ isSubtype_stop ?_);exact Ca (hQ _ he')
theorem yM{prog:Program}{w:World}{A:Around}{E:Value->Shared->Prop}{s:Shared}{c:Kd}{l:Addr}{items:Array Value}{Q:Value->Shared->Prop}(hL:Sq c s.heap l items)
 (h:∀ h',IsEnum h' (s.heap.objs.size+1) s.heap.objs.size 0 .none->ZpA.It c h' s.heap.objs.size l 0->h'.objs.size=s.heap.objs.size+2 ->
   (∀ b o,s.heap.get? b=some o->h'.get? b=some o)->Q (.ref (s.heap.objs.size+1)) { s with heap:=h' }) :
 wpAny (model prog w) A (call (.type "enumerate") [.ref l]) Q E s:=by
 cases c with
 | L=>exact call_enumerate_list (show s.heap.IsList l items from hL) h
 | T=>exact EnT.mE (show s.heap.IsTuple l items from hL) h
def IteA(c:Kd)(K:EG)(a:Addr):L2.It :=
 ⟨fun i H=>∃ xs x,SqA c K H a xs/\xs[i]?=some x,fun i H x H'=>∃ p y,x = .ref p/\H p=none/\H'=upd H p (.tup [.int (i:Nat),y])/\∀ xs,SqA c K H a xs->xs[i]?=some y,fun i H=>∃ xs,SqA c K H a xs/\xs.length<=i⟩
theorem rZ{c:Kd}{P:Program}{w:World}{K:EG}{elts:List Expr}{k}{tpos:Pos}(a e it:Addr)(hei:e≠it):wq P w K (.Tuple elts k tpos) (IteA c K a) [e,it] e (fun i h=>(∃ old,IsEnum h e it (i:Nat) old)/\ZpA.It c h it a i) where
 mem:=by simp
 obj:=fun i h st b hb=>by
  obtain ⟨⟨old,he⟩,hit⟩:=st;obtain ⟨o,ho,⟨vs,hd⟩,hc⟩:=hit.obj
  have hb':b=e\/b=it:=by simpa using hb
  rcases hb' with rfl | rfl
  ·exact ⟨_,he,fun v z=>by
    have z':Data.fields _=Data.cell v:=z
    cases z'⟩
  ·exact ⟨o,ho,fun v z=>by rw [hd] at z;cases z⟩
 keep:=fun i h h' st k=>by
  obtain ⟨⟨old,he⟩,hit⟩:=st;exact ⟨⟨old,k e (by simp) _ he⟩,hit.at fun o x=>k it (by simp) o x⟩
 item:=by
  intro X hP hw hK hc i pins s σ H E I hf st hg;subst hP hw hK;obtain ⟨xs,y,hq,hx⟩:=hg;obtain ⟨its,rv,p,hz⟩:=I.seqA hq;obtain ⟨u,hu,ru⟩:=rv.get hx;obtain ⟨⟨old,he⟩,hit⟩:=st;have pt:=p
  have hea:e≠a:=fun z=>by
   obtain ⟨o,ho,hc⟩:=p.obj;rw [<- z,he] at ho;cases ho
   rcases hc with hc | hc
   ·exact absurd (show Value.type "enumerate" = Value.type "list" from hc) (by decide)
   ·exact absurd (show Value.type "enumerate" = Value.type "tuple" from hc) (by decide)
  have hia:a≠it:=fun z=>by
   obtain ⟨o,ho,hc⟩:=p.obj;obtain ⟨o',ho',_,hc'⟩:=hit.obj;rw [z,ho'] at ho;cases ho
   rcases hc with hc | hc<;>rcases hc' with hc' | hc'<;>(rw [hc] at hc';exact absurd hc' (by decide))
  have hil:i < its.toArray.size:=by
   have:=(Cm.mp hu).1;simpa using this
  refine wpAny_pyNext_enum_itemD (ZpA.draws (c:=c) (prog:=X.prog) (w:=X.w) (A:=X.A.in1) (I.ok.hd hc) it a hia its.toArray) he ⟨hit,pt⟩ hil hei (by simp [hea,hei]) fun x h' tk hPx ho st' hT hsz hk=> ?_
  have hxu:x=u:=by
   have:its.toArray[i]?=some u:=by simpa using hu
   rw [this] at hPx;exact (Option.some.inj hPx).symm
  subst hxu;refine ⟨_,rfl,wpAny_letOwnedTupleGo_enum ho fun h'' he' hs'=> ?_⟩
  replace hs':Heap.SameBut e h' h'':=hs'
  have hel:e < s.heap.objs.size:=Cf he
  have hil':it < s.heap.objs.size:=by obtain ⟨o,ho,_⟩:=hit.obj;exact Cf ho
  have kp:∀ b o,b≠e->b≠it->s.heap.get? b=some o->h''.get? b=some o:=fun b o n1 n2 q=>(hs'.2 b n1).trans (hk b o n1 n2 q)
  have hT2:h''.get? s.heap.objs.size=some { cls:= .type "tuple",data:= .seq #[.int (i:Nat) tk,x] }:=(hs'.2 _ (DJ hel)).trans hT;have hTn:H s.heap.objs.size=none:=I.hok.fresh (Ci _);have fe:=hf e (by simp);have fi:=hf it (by simp)
  have nte:∀ b u,H b=some u->b≠e:=fun b u q z=>by rw [z,fe.1] at q;cases q
  have nti:∀ b u,H b=some u->b≠it:=fun b u q z=>by rw [z,fi.1] at q;cases q
  have hok:HOk X.prog X.w (upd H s.heap.objs.size (.tup [.int (i:Nat),y])) h'':=fun b ob q=>by
   by_cases hb:b=s.heap.objs.size
   ·subst hb
    rw [aj] at q;cases q;exact ⟨by show 2<=sizeLine;decide,[.int (i:Nat) tk,x],.cons ⟨tk,rfl⟩ (.cons ru .nil),⟨_,hT2,rfl,_,rfl⟩⟩
   ·rw [am hb] at q
    refine (I.hok b ob q).stay (fun c v hc q'=> ?_) (fun c q'=>by rw [am (ar q' hTn)];exact q') fun c xs q'=>by rw [am (ar q' hTn)];exact q'
    rcases hc with rfl | hc
    ·exact kp _ _ (nte _ _ q) (nti _ _ q) q'
    ·exact kp _ _ (nte _ _ hc) (nti _ _ hc) q'
  have mem2:∀ b,b∉[e,it]->b≠e/\b≠it:=fun b hb=>by
   have:=hb;simp at this;exact this
  have I2:Inv X pins σ (upd H s.heap.objs.size (.tup [.int (i:Nat),y])) { s with heap:=h'',toks:=tk+1 } :=
   I.step (g':=s.gens) (d':=s.drawn) (ch:=[e,it]) (fun b hb=>by
    have hb':b=e\/b=it:=by simpa using hb
    rcases hb' with rfl | rfl
    ·exact ⟨fe.2.2.2.1,fe.2.1,fe.2.2.2.2.1,fe.2.2.2.2.2⟩
    ·exact ⟨fi.2.2.2.1,fi.2.1,fi.2.2.2.2.1,fi.2.2.2.2.2⟩)
    (fun b o _ _ hc q _=>kp b o (mem2 b hc).1 (mem2 b hc).2 q) (fun b o _ _ hc q _=>⟨o.slots,kp b o (mem2 b hc).1 (mem2 b hc).2 q⟩)
    (fun b o _ q n=>by rw [am (Cu (Cf q))];exact n) (fun b o hc q=>⟨o,kp b o (mem2 b hc).1 (mem2 b hc).2 q⟩)
    (fun b xs q=>by rw [am (ar q hTn)];exact q) (fun b o u q=>by rw [am (ar q hTn)];exact q) (fun b ps q=>⟨#[],by rw [am (ar q hTn),q];simp⟩)
    (fun m hm=>by obtain ⟨o,es,ep,ho,r⟩:=hm;exact ⟨o,es,ep,kp _ o (Ne.symm fe.2.1) (Ne.symm fi.2.1) ho,r⟩) hok I.bare
  refine ⟨.ref s.heap.objs.size,_,I2,rfl,⟨_,y,rfl,hTn,rfl,fun ys hy=>by rw [I.seqA_inj hy hq];exact hx⟩,⟨⟨x,?_⟩,?_⟩,fun b hb=> ?_⟩
  ·have:((i+1:Nat):Int)=(i:Int)+1:=by push_cast;rfl
   rw [this];exact he'
  ·exact st'.1.at fun o q=>(hs'.2 it (Ne.symm hei)).trans q
  ·have hb':b=e\/b=it:=by simpa using hb
   rcases hb' with rfl | rfl
   ·rw [am (Cu hel)];exact fe.1
   ·rw [am (Cu hil')];exact fi.1
 done:=by
  intro X hP hw hK hc i pins s σ H E I hf st hg;subst hP hw hK;obtain ⟨xs,hq,hx⟩:=hg;obtain ⟨its,rv,p,hz⟩:=I.seqA hq;obtain ⟨⟨old,he⟩,hit⟩:=st;obtain ⟨f0,f1,f2,f3,f4,f5⟩:=hf it (by simp);have hl:=rv.length
  have hia:a≠it:=fun z=>by
   obtain ⟨o,ho,hc⟩:=p.obj;obtain ⟨o',ho',_,hc'⟩:=hit.obj;rw [z,ho'] at ho;cases ho
   rcases hc with hc | hc<;>rcases hc' with hc' | hc'<;>(rw [hc] at hc';exact absurd hc' (by decide))
  refine vQ (I.ok.hd hc) he hit p (by simp;omega) fun h' eb=>⟨rfl,I.turned (t':=s.toks) (fun b o hb e=>eb b o hb e) f0 f1 f3 f4 f5⟩
 self:=fun _ _ _ _ _ st h=>by
  obtain ⟨⟨old,he⟩,_⟩:=st;exact wpAny_pyIter_enum he h
section
variable{X:Cx}
def iEnumA(K:EG)(ta:TA):TI:=fun σ H R=>ta σ H fun vs H1=>∃ a c,vs=[.ref a]/\(∃ xs,SqA c K H1 a xs/\(xs.length<=sizeLine->R (IteA c K a) H1))
theorem xt{elts:List Expr}{k}{tpos:Pos}{l:Expr}{ta:TA}{p pos:Pos}(hg:Gl X "enumerate")(hm:X.mg "enumerate" = none)(ha:PA X [l] ta)(hs:starEach [l] X.env=[(false,eval l X.env)]:=by rfl) :
 PI X (.Tuple elts k tpos) (.Call (.Name "enumerate" p) [l] [] pos) (iEnumA X.K ta):=by
 intro pins s σ H R I h;refine Call_ (iM I hg hm boot_enumerate (PyProof.Rows.callWith_type1 (thn (ha pos pins s σ H _ I h) fun us s1 ⟨vs,H1,I1,r1,q1⟩=> ?_) hs rfl));obtain ⟨a,c,e,xs,hq,q⟩:=q1;subst e
 cases r1 with
 | cons r rr =>
  cases rr;cases r;obtain ⟨its,rv,p,hz⟩:=I1.seqA hq
  refine yM p fun h' he hit hsz hk=> ?_
  refine wpAny_pyIter_enum he ?_;refine ⟨s1.heap.objs.size+1,[s1.heap.objs.size+1,s1.heap.objs.size],_,_,H1,rfl,I1.kept (t':=s1.toks) hk,rZ a _ s1.heap.objs.size (DJ (DZ _)),⟨⟨.none,he⟩,hit⟩,fun b hb=> ?_,q hz⟩
  have hb':b=s1.heap.objs.size+1\/b=s1.heap.objs.size:=by simpa using hb
  rcases hb' with rfl | rfl
  ·exact I1.fpOk (by omega) (I1.hok.fresh (by omega))
  ·exact I1.fpOk (Ci _) (I1.hok.fresh (Ci _))
end
def ItzA(c1 c2:Kd)(K:EG)(a b:Addr):L2.It :=
 ⟨fun i H=>∃ xs ys x y,SqA c1 K H a xs/\SqA c2 K H b ys/\xs[i]?=some x/\ys[i]?=some y,fun i H x H'=>∃ p y z,x = .ref p/\H p=none/\H'=upd H p (.tup [y,z])/\(∀ xs,SqA c1 K H a xs->xs[i]?=some y)/\∀ ys,SqA c2 K H b ys->ys[i]?=some z,fun i H=>∃ xs,SqA c1 K H a xs/\xs.length<=i⟩
def ZipStA(c1 c2:Kd)(a b z TI TO i1 i2:Addr)(i:Nat)(h:Heap):Prop:=IsZip h z TI TO .none/\IsPair h TI (.ref i1) (.ref i2)/\(∃ x y,IsPair h TO x y)/\ZpA.It c1 h i1 a i/\ZpA.It c2 h i2 b i
theorem uW{c1 c2:Kd}{P:Program}{w:World}{K:EG}{elts:List Expr}{k}{tpos:Pos}(a b z TI TO i1 i2:Addr)(ap:ZipApart z TI TO i1 i2 a b) :
 wq P w K (.Tuple elts k tpos) (ItzA c1 c2 K a b) [z,TI,TO,i1,i2] z (ZipStA c1 c2 a b z TI TO i1 i2) where
 mem:=by simp
 obj:=fun i h st c hc=>by
  obtain ⟨hz,hTI,⟨x,y,hTO⟩,j1,j2⟩:=st;obtain ⟨o1,ho1,⟨v1,hd1⟩,hc1⟩:=j1.obj;obtain ⟨o2,ho2,⟨v2,hd2⟩,hc2⟩:=j2.obj
  have hc':c=z\/c=TI\/c=TO\/c=i1\/c=i2:=by simpa using hc
  rcases hc' with rfl | rfl | rfl | rfl | rfl
  ·exact ⟨_,hz,fun v q=>by have q':Data.fields _=Data.cell v:=q;cases q'⟩
  ·exact ⟨_,hTI,fun v q=>by have q':Data.seq _ _=Data.cell v:=q;cases q'⟩
  ·exact ⟨_,hTO,fun v q=>by have q':Data.seq _ _=Data.cell v:=q;cases q'⟩
  ·exact ⟨o1,ho1,fun v q=>by rw [hd1] at q;cases q⟩
  ·exact ⟨o2,ho2,fun v q=>by rw [hd2] at q;cases q⟩
 keep:=fun i h h' st k=>by
  obtain ⟨hz,hTI,⟨x,y,hTO⟩,h1,h2⟩:=st;exact ⟨k z (by simp) _ hz,k TI (by simp) _ hTI,⟨x,y,k TO (by simp) _ hTO⟩,h1.at fun o q=>k i1 (by simp) o q,h2.at fun o q=>k i2 (by simp) o q⟩
 item:=by
  intro X hP hw hK hc i pins s σ H E I hf st hg;subst hP hw hK;obtain ⟨xs,ys,y,y',hq,hq',hx,hx'⟩:=hg;obtain ⟨its,rv,p,hz'⟩:=I.seqA hq;obtain ⟨its',rv',p',hz''⟩:=I.seqA hq';obtain ⟨u,hu,ru⟩:=rv.get hx;obtain ⟨u',hu',ru'⟩:=rv'.get hx';obtain ⟨hz,hTI,⟨x0,y0,hTO⟩,h1,h2⟩:=st
  have hn:∀ c,c∈[z,TI,TO,i1,i2]->H c=none:=fun c hc=>(hf c hc).1
  have hTn:H s.heap.objs.size=none:=I.hok.fresh (Ci _)
  refine ZpA.ww ap hz hTI hTO h1 h2 p p' (x:=u) (y:=u') (by simpa using hu) (by simpa using hu') fun h' z' to' i1' i2' pT ks=>⟨_,rfl,wpAny_letOwnedTupleGo_zip z' fun h'' zz hs=> ?_⟩
  replace hs:Heap.SameBut z h' h'':=hs
  have lz:z < s.heap.objs.size:=Cf hz;have lTI:TI < s.heap.objs.size:=Cf hTI;have lTO:TO < s.heap.objs.size:=Cf hTO
  have li1:i1 < s.heap.objs.size:=by obtain ⟨o,ho,_⟩:=h1.obj;exact Cf ho
  have li2:i2 < s.heap.objs.size:=by obtain ⟨o,ho,_⟩:=h2.obj;exact Cf ho
  have kp:∀ c o,c≠z->c≠TO->c≠i1->c≠i2->s.heap.get? c=some o->h''.get? c=some o:=fun c o n1 n2 n3 n4 q=>(hs.2 c n1).trans (ks c o n1 n2 n3 n4 q)
  have hT2:IsPair h'' s.heap.objs.size u u':=(hs.2 _ (DJ lz)).trans pT
  have nt:∀ c o,H c=some o->c≠z/\c≠TO/\c≠i1/\c≠i2:=fun c o q=>⟨fun e=>(by rw [e,hn z (by simp)] at q;cases q),fun e=>(by rw [e,hn TO (by simp)] at q;cases q),fun e=>(by rw [e,hn i1 (by simp)] at q;cases q),fun e=>(by rw [e,hn i2 (by simp)] at q;cases q)⟩
  have kp':∀ c o u,H c=some u->s.heap.get? c=some o->h''.get? c=some o:=fun c o u q q'=>by
   obtain ⟨n1,n2,n3,n4⟩:=nt c u q;exact kp c o n1 n2 n3 n4 q'
  have hok:HOk X.prog X.w (upd H s.heap.objs.size (.tup [y,y'])) h'':=fun c ob q=>by
   by_cases hb:c=s.heap.objs.size
   ·subst hb
    rw [aj] at q;cases q;exact ⟨by show 2<=sizeLine;decide,[u,u'],.cons ru (.cons ru' .nil),⟨_,hT2,rfl,_,rfl⟩⟩
   ·rw [am hb] at q
    refine (I.hok c ob q).stay (fun e v he q'=> ?_) (fun e q'=>by rw [am (ar q' hTn)];exact q') fun e xs q'=>by rw [am (ar q' hTn)];exact q'
    rcases he with rfl | he
    ·exact kp' _ _ _ q q'
    ·exact kp' _ _ _ he q'
  have mem4:∀ c,c∉[z,TO,i1,i2]->c≠z/\c≠TO/\c≠i1/\c≠i2:=fun c hc=>by
   have:=hc;simp at this;exact this
  have I2:Inv X pins σ (upd H s.heap.objs.size (.tup [y,y'])) { s with heap:=h'' } :=
   I.step (g':=s.gens) (d':=s.drawn) (t':=s.toks) (ch:=[z,TO,i1,i2]) (fun c hc=>by
    have hc':c∈[z,TI,TO,i1,i2]:=by simp at hc ⊢;rcases hc with e | e | e | e<;>simp [e]
    have f:=hf c hc'
    exact ⟨f.2.2.2.1,f.2.1,f.2.2.2.2.1,f.2.2.2.2.2⟩)
    (fun c o _ _ hc q _=>by obtain ⟨n1,n2,n3,n4⟩:=mem4 c hc;exact kp c o n1 n2 n3 n4 q) (fun c o _ _ hc q _=>by obtain ⟨n1,n2,n3,n4⟩:=mem4 c hc;exact ⟨o.slots,kp c o n1 n2 n3 n4 q⟩)
    (fun c o _ q n=>by rw [am (Cu (Cf q))];exact n) (fun c o hc q=>by obtain ⟨n1,n2,n3,n4⟩:=mem4 c hc;exact ⟨o,kp c o n1 n2 n3 n4 q⟩)
    (fun c xs q=>by rw [am (ar q hTn)];exact q) (fun c o u q=>by rw [am (ar q hTn)];exact q) (fun c ps q=>⟨#[],by rw [am (ar q hTn),q];simp⟩)
    (fun m hm=>by obtain ⟨o,es,ep,ho,r⟩:=hm;exact ⟨o,es,ep,kp _ o (Ne.symm (hf z (by simp)).2.1) (Ne.symm (hf TO (by simp)).2.1) (Ne.symm (hf i1 (by simp)).2.1) (Ne.symm (hf i2 (by simp)).2.1) ho,r⟩) hok I.bare
  refine ⟨.ref s.heap.objs.size,_,I2,rfl,⟨_,y,y',rfl,hTn,rfl,fun zs hy=>by rw [I.seqA_inj hy hq];exact hx,fun zs hy=>by rw [I.seqA_inj hy hq'];exact hx'⟩,⟨zz,?_,⟨u,u',?_⟩,?_,?_⟩,fun c hc=> ?_⟩
  ·exact kp TI _ ap.TIz ap.TITO ap.TIi1 ap.TIi2 hTI
  ·exact (hs.2 TO ap.TOz).trans to'
  ·exact i1'.at fun o q=>(hs.2 i1 ap.i1z).trans q
  ·exact i2'.at fun o q=>(hs.2 i2 ap.i2z).trans q
  ·have hc':c=z\/c=TI\/c=TO\/c=i1\/c=i2:=by simpa using hc
   have lc:c < s.heap.objs.size:=by rcases hc' with rfl | rfl | rfl | rfl | rfl<;>assumption
   rw [am (Cu lc)];exact hn c hc
 done:=by
  intro X hP hw hK hc i pins s σ H E I hf st hg;subst hP hw hK;obtain ⟨xs,hq,hx⟩:=hg;obtain ⟨its,rv,p,hz'⟩:=I.seqA hq;obtain ⟨hz,hTI,⟨x0,y0,hTO⟩,h1,h2⟩:=st;have hl:=rv.length
  have hn:∀ c,c∈[z,TI,TO,i1,i2]->H c=none:=fun c hc=>(hf c hc).1
  refine ZpA.zj (I.ok.hd hc) ap hz hTI hTO h1 p (by simp;omega) fun h' ks=>⟨rfl,?_⟩
  have nt:∀ c o,H c=some o->c≠z/\c≠i1:=fun c o q=>⟨fun e=>(by rw [e,hn z (by simp)] at q;cases q),fun e=>(by rw [e,hn i1 (by simp)] at q;cases q)⟩
  have kp':∀ c o u,H c=some u->s.heap.get? c=some o->h'.get? c=some o:=fun c o u q q'=>by
   obtain ⟨n1,n3⟩:=nt c u q;exact ks c o n1 n3 q'
  have hok:HOk X.prog X.w H h':=fun c ob q=>by
   refine (I.hok c ob q).stay (fun e v he q'=> ?_) (fun e q'=>q') fun e xs q'=>q'
   rcases he with rfl | he
   ·exact kp' _ _ _ q q'
   ·exact kp' _ _ _ he q'
  have mem2:∀ c,c∉[z,i1]->c≠z/\c≠i1:=fun c hc=>by
   have:=hc;simp at this;exact this
  exact I.step (g':=s.gens) (d':=s.drawn) (t':=s.toks) (ch:=[z,i1]) (fun c hc=>by
   have hc':c∈[z,TI,TO,i1,i2]:=by simp at hc ⊢;rcases hc with e | e<;>simp [e]
   have f:=hf c hc'
   exact ⟨f.2.2.2.1,f.2.1,f.2.2.2.2.1,f.2.2.2.2.2⟩)
   (fun c o _ _ hc q _=>by obtain ⟨n1,n3⟩:=mem2 c hc;exact ks c o n1 n3 q) (fun c o _ _ hc q _=>by obtain ⟨n1,n3⟩:=mem2 c hc;exact ⟨o.slots,ks c o n1 n3 q⟩)
   (fun c o _ q n=>n) (fun c o hc q=>by obtain ⟨n1,n3⟩:=mem2 c hc;exact ⟨o,ks c o n1 n3 q⟩)
   (fun c xs q=>q) (fun c o u q=>q) (fun c ps q=>⟨#[],by rw [q];simp⟩)
   (fun m hm=>by obtain ⟨o,es,ep,ho,r⟩:=hm;exact ⟨o,es,ep,ks _ o (Ne.symm (hf z (by simp)).2.1) (Ne.symm (hf i1 (by simp)).2.1) ho,r⟩) hok I.bare
 self:=fun _ _ _ _ _ st h=>wpAny_pyIter_zip st.1 h
section
variable{X:Cx}
def iZipA(K:EG)(ta:TA):TI:=fun σ H R=>ta σ H fun vs H1=>∃ a b c1 c2,vs=[.ref a,.ref b]/\(∃ xs,SqA c1 K H1 a xs/\(xs.length<=sizeLine->(∃ ys,SqA c2 K H1 b ys)/\R (ItzA c1 c2 K a b) H1))
theorem As{elts:List Expr}{k}{tpos:Pos}{l l':Expr}{ta:TA}{p pos:Pos}(hg:Gl X "zip")(hm:X.mg "zip" = none)(ha:PA X [l,l'] ta)(hs:starEach [l,l'] X.env=[(false,eval l X.env),(false,eval l' X.env)]:=by rfl)(hs2:starEach [l'] X.env=[(false,eval l' X.env)]:=by rfl) :
 PI X (.Tuple elts k tpos) (.Call (.Name "zip" p) [l,l'] [] pos) (iZipA X.K ta):=by
 intro pins s σ H R I h;refine Call_ (iM I hg hm boot_zip (PyProof.Rows.callWith_type1 (thn (ha pos pins s σ H _ I h) fun us s1 ⟨vs,H1,I1,r1,q1⟩=> ?_) (by rw [hs,hs2]) (by rw [hs2];rfl)));obtain ⟨a,b,c1,c2,e,xs,hq,q⟩:=q1;subst e;obtain ⟨u,u',rfl,ru,ru'⟩:=nG r1;cases ru;cases ru';obtain ⟨its,rv,p,hz⟩:=I1.seqA hq;obtain ⟨⟨ys,hq'⟩,q⟩:=q hz;obtain ⟨its',rv',p',hz'⟩:=I1.seqA hq'
 have la:a < s1.heap.objs.size:=by obtain ⟨o,ho,_⟩:=p.obj;exact Cf ho
 have lb:b < s1.heap.objs.size:=by obtain ⟨o,ho,_⟩:=p'.obj;exact Cf ho
 refine ZpA.mE p p' fun h' hz hTI hTO h1 h2 hk=> ?_
 refine wpAny_pyIter_zip hz ?_;refine ⟨s1.heap.objs.size+4,[s1.heap.objs.size+4,s1.heap.objs.size+2,s1.heap.objs.size+3,s1.heap.objs.size,s1.heap.objs.size+1],_,_,H1,rfl,I1.kept (t':=s1.toks) hk,uW a b _ _ _ _ _ (zipApart_new la lb),⟨hz,hTI,⟨_,_,hTO⟩,h1,h2⟩,fun c hc=> ?_,q⟩
 have hc':c=s1.heap.objs.size+4\/c=s1.heap.objs.size+2\/c=s1.heap.objs.size+3\/c=s1.heap.objs.size\/c=s1.heap.objs.size+1:=by simpa using hc
 have lc:s1.heap.objs.size<=c:=by
  rcases hc' with rfl | rfl | rfl | rfl | rfl
  ·exact Eu _ _
  ·exact Eu _ _
  ·exact Eu _ _
  ·exact Ci _
  ·exact Eu _ _
 exact I1.fpOk lc (I1.hok.fresh lc)
end
end L2
namespace L2
open PySem PySem.Spec PyProof.Rows
inductive D where
 | non | bl (b:Bool) | int (i:Int) | str (x:Str) | tup (l:List D) | lst (l:List D) | ktup (l:List D) | klst (l:List D)
 | dK (ks:List Key) (vs:List D) | dT (ks:List (List Key)) (vs:List D) | set (l:List Int) | rng (lo hi:Int) | exc (C:Str)
def gE(K:EG)(nm:Str)(C:Addr):Prop:=PySem.W.nsIn K mainGlobals nm=some (some (.ref C))
mutual
def aF(K:EG)(H:Hp):D->V->Prop
 | .non,v=>v = .non
 | .bl b,v=>v = .bl b
 | .int i,v=>v = .int i
 | .str x,v=>v = .str x
 | .tup ds,v=>∃ p xs,v = .ref p/\H p=some (.tup xs)/\ag K H ds xs
 | .lst ds,v=>∃ p xs,v = .ref p/\H p=some (.lst xs)/\ag K H ds xs
 | .klst ds,v=>∃ p xs,v = .ref p/\SqL K H p xs/\ag K H ds xs
 | .ktup ds,v=>∃ p xs,v = .ref p/\SqT K (fun _=>none) p xs/\ag K H ds xs
 | .dK ks ds,v=>∃ p xs,v = .ref p/\H p=some (.dK (ks.zip xs))/\ks.length=xs.length/\ag K H ds xs
 | .dT ks ds,v=>∃ p xs,v = .ref p/\H p=some (.dT (ks.zip xs))/\ks.length=xs.length/\ag K H ds xs
 | .set l,v=>∃ p S,v = .ref p/\H p=some (.set S l.length)/\∀ x,S x=true↔x∈l
 | .rng lo hi,v=>∃ p,v = .ref p/\H p=some (.rng lo hi)
 | .exc nm,v=>∃ p C,v = .ref p/\gE K nm C/\H p=some (mw p C)
def ag(K:EG)(H:Hp):List D->List V->Prop
 | [],[]=>True
 | d::ds,x::xs=>aF K H d x/\ag K H ds xs
 | _,_=>False
end
mutual
theorem ac.repD{K:EG}{H H':Hp}(e:ac H H'):∀ {d:D} {v:V},aF K H d v->aF K H' d v
 | .non,_,h=>h
 | .bl _,_,h=>h
 | .int _,_,h=>h
 | .str _,_,h=>h
 | .tup _,_,⟨p,xs,h1,h2,h3⟩=>⟨p,xs,h1,e _ _ h2,e.repDs h3⟩
 | .lst _,_,⟨p,xs,h1,h2,h3⟩=>⟨p,xs,h1,e _ _ h2,e.repDs h3⟩
 | .klst _,_,⟨p,xs,h1,h2,h3⟩=>⟨p,xs,h1,e.seq h2,e.repDs h3⟩
 | .ktup _,_,⟨p,xs,h1,h2,h3⟩=>⟨p,xs,h1,h2,e.repDs h3⟩
 | .dK _ _,_,⟨p,xs,h1,h2,h3,h4⟩=>⟨p,xs,h1,e _ _ h2,h3,e.repDs h4⟩
 | .dT _ _,_,⟨p,xs,h1,h2,h3,h4⟩=>⟨p,xs,h1,e _ _ h2,h3,e.repDs h4⟩
 | .set _,_,⟨p,S,h1,h2,h3⟩=>⟨p,S,h1,e _ _ h2,h3⟩
 | .rng _ _,_,⟨p,h1,h2⟩=>⟨p,h1,e _ _ h2⟩
 | .exc _,_,⟨p,C,h1,h2,h3⟩=>⟨p,C,h1,h2,e _ _ h3⟩
theorem ac.repDs{K:EG}{H H':Hp}(e:ac H H'):∀ {ds:List D} {xs:List V},ag K H ds xs->ag K H' ds xs
 | [],[],_=>trivial
 | _::_,_::_,h=>⟨e.repD h.1,e.repDs h.2⟩
 | [],_::_,h=>h.elim
 | _::_,[],h=>h.elim
end
theorem ag.len{K:EG}{H:Hp}:∀ {ds:List D} {xs:List V},ag K H ds xs->ds.length=xs.length
 | [],[],_=>rfl
 | _::_,_::_,h=>by rw [Cc,Cc,ag.len h.2]
 | [],_::_,h=>h.elim
 | _::_,[],h=>h.elim
theorem ag.get{K:EG}{H:Hp}:∀ {ds:List D} {xs:List V} {i:Nat} {d:D},ag K H ds xs->ds[i]?=some d->∃ x,xs[i]?=some x/\aF K H d x
 | _::_,x::_,0,d,h,e=>⟨x,rfl,by have:_=d:=Option.some.inj e;rw [<- this];exact h.1⟩
 | _::_,_::_,i+1,d,h,e=>ag.get (i:=i) h.2 (by simpa using e)
 | [],[],_,_,_,e=>by simp at e
 | [],_::_,_,_,h,_=>h.elim
 | _::_,[],_,_,h,_=>h.elim
theorem ag.get'{K:EG}{H:Hp}{ds:List D}{xs:List V}{i:Nat}{x:V}(h:ag K H ds xs)(e:xs[i]?=some x):∃ d,ds[i]?=some d/\aF K H d x:=by
 have hi:i < ds.length:=by rw [h.len];exact (Cm.mp e).1
 obtain ⟨y,e2,r⟩:=h.get (B8 hi);rw [e] at e2;cases e2;exact ⟨_,B8 hi,r⟩
theorem ag.app{K:EG}{H:Hp}:∀ {ds es:List D} {xs ys:List V},ag K H ds xs->ag K H es ys->ag K H (ds++es) (xs++ys)
 | [],_,[],_,_,h=>h
 | _::_,_,_::_,_,g,h=>⟨g.1,ag.app g.2 h⟩
 | [],_,_::_,_,g,_=>g.elim
 | _::_,_,[],_,g,_=>g.elim
theorem ag.take{K:EG}{H:Hp}:∀ {ds:List D} {xs:List V} (n:Nat),ag K H ds xs->ag K H (ds.take n) (xs.take n)
 | [],[],n,_=>by simp;exact trivial
 | _::_,_::_,0,_=>trivial
 | _::_,_::_,n+1,h=>⟨h.1,ag.take n h.2⟩
 | [],_::_,_,h=>h.elim
 | _::_,[],_,h=>h.elim
theorem ag.drop{K:EG}{H:Hp}:∀ {ds:List D} {xs:List V} (n:Nat),ag K H ds xs->ag K H (ds.drop n) (xs.drop n)
 | [],[],n,_=>by simp;exact trivial
 | _::_,_::_,0,h=>h
 | _::_,_::_,n+1,h=>ag.drop n h.2
 | [],_::_,_,h=>h.elim
 | _::_,[],_,h=>h.elim
theorem ag.set{K:EG}{H:Hp}{d:D}{x:V}(r:aF K H d x):∀ {ds:List D} {xs:List V} (n:Nat),ag K H ds xs->ag K H (ds.set n d) (xs.set n x)
 | [],[],n,_=>by simp;exact trivial
 | _::_,_::_,0,h=>⟨r,h.2⟩
 | _::_,_::_,n+1,h=>⟨h.1,ag.set r n h.2⟩
 | [],_::_,_,h=>h.elim
 | _::_,[],_,h=>h.elim
theorem dM{K:EG}{H:Hp}:∀ (ns:List Int),ag K H (ns.map D.int) (ns.map V.int)
 | []=>trivial
 | _::ns=>⟨rfl,dM ns⟩
theorem aZ{K:EG}{H:Hp}:∀ {ns:List Int} {xs:List V},ag K H (ns.map D.int) xs->xs=ns.map V.int
 | [],[],_=>rfl
 | _::_,_::_,h=>by rw [h.1,aZ h.2];rfl
 | [],_::_,h=>h.elim
 | _::_,[],h=>h.elim
theorem ou{K:EG}{H:Hp}:∀ {ns:List Bool} {xs:List V},ag K H (ns.map D.bl) xs->xs=ns.map V.bl
 | [],[],_=>rfl
 | _::_,_::_,h=>by rw [h.1,ou h.2];rfl
 | [],_::_,h=>h.elim
 | _::_,[],h=>h.elim
def hid(L:List Addr)(H:Hp):Hp:=fun a=>if a∈L then none else H a
theorem ao{L:List Addr}{H:Hp}{b:Addr}{o:HO}(h:hid L H b=some o):b∉L/\H b=some o:=by
 unfold hid at h
 split at h
 ·cases h
 ·exact ⟨‹_›,h⟩
theorem aJ{L:List Addr}{H:Hp}{b:Addr}(h:b∉L):hid L H b=H b:=if_neg h
theorem aR{L L':List Addr}{H H':Hp}(hL:∀ b,b∈L'->b∈L\/H b=none)(h:∀ b o,b∉L->H b=some o->H' b=some o):ac (hid L H) (hid L' H'):=fun b o e=>by
 obtain ⟨h1,h2⟩:=ao e;rw [aJ (fun z=>(hL b z).elim h1 fun n=>by rw [n] at h2;cases h2)];exact h b o h1 h2
theorem aA{L:List Addr}{H:Hp}:ac (hid L H) H:=fun b o e=>(ao e).2
theorem uF{L:List Addr}{H:Hp}{p:Addr}{o:HO}(h:p∈L):hid L (upd H p o)=hid L H:=by
 funext b
 unfold hid
 split
 ·rfl
 ·rw [am (fun z=>by subst z;exact absurd h ‹_›)]
inductive Md where
 | fz | ow | io
 deriving DecidableEq
abbrev Rho:=List (Option (D×Md))
structure Fx where
 Z:List Addr
 io:Nat->Option Addr
def aI(K:EG)(H Hh:Hp)(p:Addr):D->Prop
 | .lst ds=>∃ xs,H p=some (.lst xs)/\ag K Hh ds xs
 | .dK ks ds=>∃ xs,H p=some (.dK (ks.zip xs))/\ks.length=xs.length/\ag K Hh ds xs
 | .dT ks ds=>∃ xs,H p=some (.dT (ks.zip xs))/\ks.length=xs.length/\ag K Hh ds xs
 | _=>False
def eO:Option HO->Prop
 | some (.lst _)=>True
 | some (.dK _)=>True
 | some (.dT _)=>True
 | _=>False
theorem aI.mu{K:EG}{H Hh:Hp}{p:Addr}{d:D}(h:aI K H Hh p d):eO (H p):=by
 cases d<;>first | exact h.elim | (obtain ⟨xs,e,_⟩:=h;rw [e];trivial)
theorem aI.at{K:EG}{H H' Hh Hh':Hp}{p:Addr}{d:D}(h:aI K H Hh p d)(e:H' p=H p)(s:ac Hh Hh'):aI K H' Hh' p d:=by
 cases d<;>first
  | exact h.elim
  | (obtain ⟨xs,h1,h2,h3⟩:=h;exact ⟨xs,e.trans h1,h2,s.repDs h3⟩)
  | (obtain ⟨xs,h1,h2⟩:=h;exact ⟨xs,e.trans h1,s.repDs h2⟩)
theorem aI.rep{K:EG}{H Hh Hh':Hp}{p:Addr}{d:D}(h:aI K H Hh p d)(e:Hh' p=H p)(s:ac Hh Hh'):aF K Hh' d (.ref p):=by
 cases d<;>first
  | exact h.elim
  | (obtain ⟨xs,h1,h2,h3⟩:=h;exact ⟨p,xs,rfl,e.trans h1,h2,s.repDs h3⟩)
  | (obtain ⟨xs,h1,h2⟩:=h;exact ⟨p,xs,rfl,e.trans h1,s.repDs h2⟩)
def t5(K:EG)(F:Fx)(H:Hp)(W:List Addr)(i:Nat)(d:D)(v:V):Md->Prop
 | .fz=>aF K (hid (W++F.Z) H) d v
 | .ow=>∃ p,v = .ref p/\p∈W/\aI K H (hid (W++F.Z) H) p d
 | .io=>∃ p,v = .ref p/\p∈W/\aI K H (hid (W++F.Z) H) p d/\F.io i=some p
structure Rel(K:EG)(F:Fx)(σ:St)(H:Hp)(ρ:Rho)(W:List Addr):Prop where
 slot:∀ (i:Nat) (d:D) (m:Md),ρ[i]?=some (some (d,m))->∃ v,σ[i]?=some (some v)/\t5 K F H W i d v m
 apart:∀ (i j:Nat) (d e:D) (m n:Md) (p:Addr),ρ[i]?=some (some (d,m))->m ≠ .fz->ρ[j]?=some (some (e,n))->n ≠ .fz->σ[i]?=some (some (.ref p))->σ[j]?=some (some (.ref p))->i=j
 wz:∀ p∈W,p∉F.Z
 mt:∀ p∈W++F.Z,eO (H p)
 len:σ.length=ρ.length
structure Fr(W:List Addr)(H H':Hp):Prop where
 keep:∀ b o,b∉W->H b=some o->H' b=some o
 dom:∀ b,H' b=none->H b=none
theorem Fr.refl{W:List Addr}{H:Hp}:Fr W H H:=⟨fun _ _ _ h=>h,fun _ h=>h⟩
theorem ac.fr{W:List Addr}{H H':Hp}(e:ac H H'):Fr W H H':=⟨fun b o _ h=>e b o h,fun b h=>e.free h⟩
theorem Fr.trans{W W1:List Addr}{H H1 H2:Hp}(a:Fr W H H1)(b:Fr W1 H1 H2)(h:∀ p∈W1,p∈W\/H p=none):Fr W H H2 :=
 ⟨fun c o n e=>b.keep c o (fun z=>(h c z).elim n fun q=>by rw [q] at e;cases e) (a.keep c o n e),fun c e=>a.dom c (b.dom c e)⟩
theorem Fr.hid{W W' Z:List Addr}{H H':Hp}(f:Fr W H H')(s:∀ p∈W',p∈W\/H p=none):ac (L2.hid (W++Z) H) (L2.hid (W'++Z) H') :=
 aR (fun b hb=>by
  rcases CI.mp hb with q | q
  ·exact (s b q).imp (fun z=>Cg _ z) id
  ·exact .inl (Ch _ q)) fun b o n e=>f.keep b o (fun z=>n (Cg _ z)) e
section
variable{K:EG}{F:Fx}{σ:St}{H H':Hp}{ρ:Rho}{W:List Addr}
theorem eO.some{o:Option HO}(h:eO o):∃ u,o=Option.some u:=by
 cases o with
 | none=>exact h.elim
 | some u=>exact ⟨u,rfl⟩
theorem Rel.same(R:Rel K F σ H ρ W)(e:ac H H'):Rel K F σ H' ρ W:=by
 have eq:∀ p,eO (H p)->H' p=H p:=fun p h=>by obtain ⟨u,q⟩:=h.some;rw [q];exact e _ _ q
 have sh:ac (hid (W++F.Z) H) (hid (W++F.Z) H'):=aR (fun b hb=> .inl hb) fun b o _ q=>e b o q
 refine ⟨fun i d m h=> ?_,R.apart,R.wz,fun p hp=>by rw [eq p (R.mt p hp)];exact R.mt p hp,R.len⟩;obtain ⟨v,h1,h2⟩:=R.slot i d m h;refine ⟨v,h1,?_⟩
 cases m with
 | fz=>exact sh.repD h2
 | ow=>obtain ⟨p,e1,e2,e3⟩:=h2;exact ⟨p,e1,e2,e3.at (eq p e3.mu) sh⟩
 | io=>obtain ⟨p,e1,e2,e3,e4⟩:=h2;exact ⟨p,e1,e2,e3.at (eq p e3.mu) sh,e4⟩
theorem Rel.fresh(R:Rel K F σ H ρ W){p:Addr}(h:H p=none):p∉W++F.Z:=fun z=>by
 have:=R.mt p z;rw [h] at this;exact this
theorem aW{α:Type}{l:List (Option α)}{i j:Nat}{o:Option α}{x:α}(h:(l.set i o)[j]?=some (some x)):(j=i/\o=some x)\/(j≠i/\l[j]?=some (some x)):=by
 by_cases e:j=i
 ·subst e
  rw [List.getElem?_set] at h
  split at h
  ·split at h
   ·exact .inl ⟨rfl,Option.some.inj h⟩
   ·cases h
  ·exact absurd rfl ‹_›
 ·rw [CJ (Ne.symm e)] at h
  exact .inr ⟨e,h⟩
theorem Rel.freeze(R:Rel K F σ H ρ W){i:Nat}{d:D}{p:Addr}(h:ρ[i]?=some (some (d,.ow)))(hp:σ[i]?=some (some (.ref p))) :
 Rel K F σ H (ρ.set i (some (d,.fz))) (W.filter fun a=>decide (a≠p))/\aF K (hid ((W.filter fun a=>decide (a≠p))++F.Z) H) d (.ref p):=by
 obtain ⟨v,hv,q,rfl,hq,hO⟩:=R.slot i d .ow h;rw [hp] at hv;cases hv
 have sub:∀ b,b∈W.filter (fun a=>decide (a≠p))->b∈W/\b≠p:=fun b hb=>by
  have:=C5.mp hb;exact ⟨this.1,Cn this.2⟩
 have sh:ac (hid (W++F.Z) H) (hid ((W.filter fun a=>decide (a≠p))++F.Z) H):=aR (fun b hb=>by
  rcases CI.mp hb with q | q
  ·exact .inl (Cg _ (sub b q).1)
  ·exact .inl (Ch _ q)) fun b o _ e=>e
 have pn:p∉(W.filter fun a=>decide (a≠p))++F.Z:=fun z=>by
  rcases CI.mp z with q | q
  ·exact (sub p q).2 rfl
  ·exact R.wz p hq q
 have rep:aF K (hid ((W.filter fun a=>decide (a≠p))++F.Z) H) d (.ref p):=hO.rep (aJ pn) sh;refine ⟨⟨fun j e m hj=> ?_,fun j k e f m n r h1 h2 h3 h4 h5 h6=> ?_,fun r hr=>R.wz r (sub r hr).1,fun r hr=> ?_,by rw [Da];exact R.len⟩,rep⟩
 ·rcases aW hj with ⟨rfl,e1⟩ | ⟨ne,e1⟩
  ·cases e1
   exact ⟨_,hp,rep⟩
  ·obtain ⟨v,g1,g2⟩:=R.slot j e m e1
   refine ⟨v,g1,?_⟩
   have other:∀ r,v = .ref r->m ≠ .fz->r≠p:=fun r er hm z=>by
    subst er z;exact ne (R.apart j i _ _ _ _ _ e1 hm h (by decide) g1 hp)
   cases m with
   | fz=>exact sh.repD g2
   | ow=>obtain ⟨r,e2,e3,e4⟩:=g2;exact ⟨r,e2,C5.mpr ⟨e3,Cr (other r e2 (by decide))⟩,e4.at rfl sh⟩
   | io=>obtain ⟨r,e2,e3,e4,e5⟩:=g2;exact ⟨r,e2,C5.mpr ⟨e3,Cr (other r e2 (by decide))⟩,e4.at rfl sh,e5⟩
 ·rcases aW h1 with ⟨rfl,z⟩ | ⟨_,z⟩
  ·cases z;exact absurd rfl h2
  ·rcases aW h3 with ⟨rfl,z'⟩ | ⟨_,z'⟩
   ·cases z';exact absurd rfl h4
   ·exact R.apart j k _ _ _ _ _ z h2 z' h4 h5 h6
 ·rcases CI.mp hr with q | q
  ·exact R.mt r (Cg _ (sub r q).1)
  ·exact R.mt r (Ch _ q)
theorem Rel.write(R:Rel K F σ H ρ W){i:Nat}{d d':D}{m:Md}{p:Addr}{o:HO}(h:ρ[i]?=some (some (d,m)))(hm:m ≠ .fz)(hp:σ[i]?=some (some (.ref p)))(new:aI K (upd H p o) (hid (W++F.Z) H) p d') :
 Rel K F σ (upd H p o) (ρ.set i (some (d',m))) W/\Fr W H (upd H p o):=by
 obtain ⟨v,hv,hS⟩:=R.slot i d m h;rw [hp] at hv;cases hv
 have hw:p∈W:=by
  cases m with
  | fz=>exact absurd rfl hm
  | ow=>obtain ⟨r,e2,e3,_⟩:=hS;cases e2;exact e3
  | io=>obtain ⟨r,e2,e3,_⟩:=hS;cases e2;exact e3
 have hh:hid (W++F.Z) (upd H p o)=hid (W++F.Z) H:=uF (Cg _ hw);refine ⟨⟨fun j e n hj=> ?_,fun j k e f n n' r h1 h2 h3 h4 h5 h6=> ?_,R.wz,fun r hr=> ?_,by rw [Da];exact R.len⟩,fun b u nb e=> ?_,fun b e=> ?_⟩
 ·rcases aW hj with ⟨rfl,e1⟩ | ⟨ne,e1⟩
  ·cases e1
   refine ⟨_,hp,?_⟩
   cases m with
   | fz=>exact absurd rfl hm
   | ow=>exact ⟨p,rfl,hw,by rw [hh];exact new⟩
   | io=>obtain ⟨r,e2,e3,e4,e5⟩:=hS;cases e2;exact ⟨p,rfl,hw,by rw [hh];exact new,e5⟩
  ·obtain ⟨v,g1,g2⟩:=R.slot j e n e1
   refine ⟨v,g1,?_⟩
   have other:∀ r,v = .ref r->n ≠ .fz->r≠p:=fun r er hn z=>by
    subst er z;exact ne (R.apart j i _ _ _ _ _ e1 hn h hm g1 hp)
   cases n with
   | fz=>show aF K (hid (W++F.Z) (upd H p o)) e v;rw [hh];exact g2
   | ow=>obtain ⟨r,e2,e3,e4⟩:=g2;exact ⟨r,e2,e3,e4.at (am (other r e2 (by decide))) (by rw [hh];exact ac.refl _)⟩
   | io=>obtain ⟨r,e2,e3,e4,e5⟩:=g2;exact ⟨r,e2,e3,e4.at (am (other r e2 (by decide))) (by rw [hh];exact ac.refl _),e5⟩
 ·have fnd:∀ {j:Nat} {e:D} {n:Md},(ρ.set i (some (d',m)))[j]?=some (some (e,n))->n ≠ .fz->∃ e',ρ[j]?=some (some (e',n)):=fun {j e n} hj hn=>by
   rcases aW hj with ⟨rfl,e1⟩ | ⟨_,e1⟩
   ·cases e1;exact ⟨d,h⟩
   ·exact ⟨_,e1⟩
  obtain ⟨_,z1⟩:=fnd h1 h2;obtain ⟨_,z2⟩:=fnd h3 h4;exact R.apart j k _ _ _ _ _ z1 h2 z2 h4 h5 h6
 ·by_cases e:r=p
  ·subst e;exact new.mu
  ·rw [am e];exact R.mt r hr
 ·rw [am (fun z=>by subst z;exact nb hw)];exact e
 ·by_cases z:b=p
  ·subst z;rw [aj] at e;cases e
  ·rw [am z] at e;exact e
theorem Rel.put(R:Rel K F σ H ρ W){i:Nat}{d:D}{v:V}(hi:i < σ.length)(r:aF K (hid (W++F.Z) H) d v):Rel K F (σ.set i (some v)) H (ρ.set i (some (d,.fz))) W:=by
 refine ⟨fun j e m hj=> ?_,fun j k e f m n p h1 h2 h3 h4 h5 h6=> ?_,R.wz,R.mt,by rw [Da,Da];exact R.len⟩
 ·rcases aW hj with ⟨rfl,e1⟩ | ⟨ne,e1⟩
  ·cases e1
   exact ⟨v,C8 hi,r⟩
  ·obtain ⟨v',g1,g2⟩:=R.slot j e m e1
   exact ⟨v',by rw [CJ (Ne.symm ne)];exact g1,g2⟩
 ·rcases aW h1 with ⟨rfl,z⟩ | ⟨n1,z⟩
  ·cases z;exact absurd rfl h2
  ·rcases aW h3 with ⟨rfl,z'⟩ | ⟨n2,z'⟩
   ·cases z';exact absurd rfl h4
   ·rw [CJ (Ne.symm n1)] at h5
    rw [CJ (Ne.symm n2)] at h6;exact R.apart j k _ _ _ _ _ z h2 z' h4 h5 h6
theorem Rel.own{p:Addr}(R:Rel K F σ (hid [p] H) ρ W){i:Nat}{d:D}(hi:i < σ.length)(hp:p∉W++F.Z)(r:aI K H (hid (p::(W++F.Z)) H) p d):Rel K F (σ.set i (some (.ref p))) H (ρ.set i (some (d,.ow))) (p::W):=by
 have hh:hid (W++F.Z) (hid [p] H)=hid ((p::W)++F.Z) H:=by
  funext b
  unfold hid
  by_cases z:b=p
  ·subst z
   rw [if_neg hp];simp
  ·by_cases z2:b∈W++F.Z
   ·rw [if_pos z2,if_pos (by rw [C7];exact Ce _ z2)]
   ·rw [if_neg z2,if_neg (by simpa using z),if_neg (by rw [C7];exact fun q=>(List.mem_cons.mp q).elim z z2)]
 have neq:∀ r,r∈W++F.Z->hid [p] H r=H r:=fun r hr=>aJ (by
  intro z
  have z:r=p:=by simpa using z
  subst z;exact hp hr)
 refine ⟨fun j e m hj=> ?_,fun j k e f m n q h1 h2 h3 h4 h5 h6=> ?_,fun q hq=> ?_,fun q hq=> ?_,by rw [Da,Da];exact R.len⟩
 ·rcases aW hj with ⟨rfl,e1⟩ | ⟨ne,e1⟩
  ·cases e1
   exact ⟨_,C8 hi,p,rfl,Ck,r⟩
  ·obtain ⟨v',g1,g2⟩:=R.slot j e m e1
   refine ⟨v',by rw [CJ (Ne.symm ne)];exact g1,?_⟩
   cases m with
   | fz=>show aF K (hid ((p::W)++F.Z) H) e v';rw [<- hh];exact g2
   | ow=>obtain ⟨r,e2,e3,e4⟩:=g2;exact ⟨r,e2,Ce _ e3,e4.at (neq r (Cg _ e3)).symm (by rw [hh];exact ac.refl _)⟩
   | io=>obtain ⟨r,e2,e3,e4,e5⟩:=g2;exact ⟨r,e2,Ce _ e3,e4.at (neq r (Cg _ e3)).symm (by rw [hh];exact ac.refl _),e5⟩
 ·have inW:∀ {j:Nat} {e:D} {m:Md},ρ[j]?=some (some (e,m))->m ≠ .fz->σ[j]?=some (some (.ref p))->False:=fun {j e m} h1 h2 h3=>by
   obtain ⟨v,g1,g2⟩:=R.slot j e m h1;rw [h3] at g1;cases g1
   cases m with
   | fz=>exact h2 rfl
   | ow=>obtain ⟨r,e2,e3,_⟩:=g2;cases e2;exact hp (Cg _ e3)
   | io=>obtain ⟨r,e2,e3,_⟩:=g2;cases e2;exact hp (Cg _ e3)
  rcases aW h1 with ⟨rfl,z⟩ | ⟨n1,z⟩
  ·rw [C8 hi] at h5
   cases h5
   rcases aW h3 with ⟨rfl,z'⟩ | ⟨n2,z'⟩
   ·rfl
   ·rw [CJ (Ne.symm n2)] at h6
    exact (inW z' h4 h6).elim
  ·rw [CJ (Ne.symm n1)] at h5
   rcases aW h3 with ⟨rfl,z'⟩ | ⟨n2,z'⟩
   ·rw [C8 hi] at h6
    cases h6;exact (inW z h2 h5).elim
   ·rw [CJ (Ne.symm n2)] at h6
    exact R.apart j k _ _ _ _ _ z h2 z' h4 h5 h6
 ·rcases List.mem_cons.mp hq with rfl | hq
  ·exact fun z=>hp (Ch _ z)
  ·exact R.wz q hq
 ·rcases List.mem_cons.mp (show q∈p::(W++F.Z) from hq) with rfl | hq
  ·exact r.mu
  ·have:=R.mt q hq
   rw [neq q hq] at this;exact this
end
theorem PE.by{X:Cx}{e:Expr}{t t':TE}(h:PE X e t)(hi:∀ σ H Q,t' σ H Q->t σ H Q):PE X e t':=fun pins s σ H Q I hw=>h pins s σ H Q I (hi σ H Q hw)
theorem PT.by{X:Cx}{e:Expr}{t t':TT}(h:PT X e t)(hi:∀ σ H Q,t' σ H Q->t σ H Q):PT X e t':=fun pins s σ H Q I hw=>h pins s σ H Q I (hi σ H Q hw)
inductive Res where
 | ok (d:D) (nw:Bool) | ex (C:Str)
inductive pU where
 | ok (ds:List D) | ex (C:Str)
inductive wr where
 | ok (b:Bool) | ex (C:Str)
abbrev SE:=Rho->Option (Res×Rho)
abbrev ST:=Rho->Option (wr×Rho)
abbrev EXT:=Str->St->Hp->Prop
section
variable(K:EG)(F:Fx)(EX:EXT)(σ:St)(H:Hp)(W:List Addr)
def fP(H':Hp)(ρ':Rho)(W':List Addr)(d:D):Bool->V->Prop
 | false,v=>aF K (hid (W'++F.Z) H') d v/\Rel K F σ H' ρ' W'
 | true,v=>∃ p,v = .ref p/\H p=none/\p∉W'++F.Z/\aI K H' (hid (p::(W'++F.Z)) H') p d/\Rel K F σ (hid [p] H') ρ' W'
def OkV(o:Option (Res×Rho))(Q:VK):Prop:=match o with
 | some (.ok d nw,ρ')=>∀ v H' W',Fr W H H'->(∀ p∈W',p∈W)->fP K F σ H H' ρ' W' d nw v->Q v H'
 | some (.ex C,ρ')=>∀ H' W',Fr W H H'->(∀ p∈W',p∈W)->Rel K F σ H' ρ' W'->EX C σ H'
 | none=>False
def OkT(o:Option (wr×Rho))(Q:Bool->Hp->Prop):Prop:=match o with
 | some (.ok b,ρ')=>∀ H' W',Fr W H H'->(∀ p∈W',p∈W)->Rel K F σ H' ρ' W'->Q b H'
 | some (.ex C,ρ')=>∀ H' W',Fr W H H'->(∀ p∈W',p∈W)->Rel K F σ H' ρ' W'->EX C σ H'
 | none=>False
end
def tV(K:EG)(EX:EXT)(f:SE):TE:=fun σ H Q=>∃ F ρ W,Rel K F σ H ρ W/\OkV K F EX σ H W (f ρ) Q
def tVT(K:EG)(EX:EXT)(f:ST):TT:=fun σ H Q=>∃ F ρ W,Rel K F σ H ρ W/\OkT K F EX σ H W (f ρ) Q
structure JE(X:Cx)(EX:EXT)(e:Expr)(f:SE):Prop where
 p:PE X e (tV X.K EX f)
structure JT(X:Cx)(EX:EXT)(e:Expr)(f:ST):Prop where
 p:PT X e (tVT X.K EX f)
structure JW(X:Cx)(EX:EXT)(e:Expr)(f:ST):Prop where
 p:PW X e (tVT X.K EX f)
inductive Arg where
 | ex (f:SE) | bor (i:Nat)
def tArg(K:EG)(EX:EXT):Arg->TE
 | .ex f=>tV K EX f
 | .bor i=>wJ i
def tAs(K:EG)(EX:EXT):List Arg->TA
 | []=>zE
 | a::as=>nJ (tArg K EX a) (tAs K EX as)
structure JB(X:Cx)(EX:EXT)(e:Expr)(a:Arg):Prop where
 p:PE X e (tArg X.K EX a)
structure JA(X:Cx)(EX:EXT)(es:List Expr)(as:List Arg):Prop where
 p:PA X es (tAs X.K EX as)
def evA:List Arg->Rho->Option (pU×Rho)
 | [],ρ=>some (.ok [],ρ)
 | .ex f::as,ρ=>match f ρ with
  | some (.ok d _,ρ1)=>match evA as ρ1 with
   | some (.ok ds,ρ2)=>some (.ok (d::ds),ρ2)
   | some (.ex C,ρ2)=>some (.ex C,ρ2)
   | none=>none
  | some (.ex C,ρ1)=>some (.ex C,ρ1)
  | none=>none
 | .bor i::as,ρ=>match ρ[i]? with
  | some (some _)=>match evA as ρ with
   | some (.ok ds,ρ2)=>match ρ2[i]? with
    | some (some (d,_))=>some (.ok (d::ds),ρ2)
    | _=>none
   | some (.ex C,ρ2)=>some (.ex C,ρ2)
   | none=>none
  | _=>none
def fS(K:EG)(H Hh:Hp):D->V->Prop
 | .lst ds,v=>∃ p xs,v = .ref p/\H p=some (.lst xs)/\ag K Hh ds xs
 | .dK ks ds,v=>∃ p xs,v = .ref p/\H p=some (.dK (ks.zip xs))/\ks.length=xs.length/\ag K Hh ds xs
 | .dT ks ds,v=>∃ p xs,v = .ref p/\H p=some (.dT (ks.zip xs))/\ks.length=xs.length/\ag K Hh ds xs
 | d,v=>aF K Hh d v
def kB(K:EG)(H Hh:Hp):List D->List V->Prop
 | [],[]=>True
 | d::ds,x::xs=>fS K H Hh d x/\kB K H Hh ds xs
 | _,_=>False
section
variable{K:EG}{F:Fx}{EX:EXT}{σ:St}{H H' Hh Hh':Hp}{ρ ρ':Rho}{W W':List Addr}
theorem aF.b{d:D}{v:V}(r:aF K Hh d v)(s:ac Hh H):fS K H Hh d v:=by
 cases d<;>first
  | exact r
  | (obtain ⟨p,xs,h1,h2,h3,h4⟩:=r;exact ⟨p,xs,h1,s _ _ h2,h3,h4⟩)
  | (obtain ⟨p,xs,h1,h2,h3⟩:=r;exact ⟨p,xs,h1,s _ _ h2,h3⟩)
theorem aI.b{p:Addr}{d:D}(h:aI K H Hh p d):fS K H Hh d (.ref p):=by
 cases d<;>first
  | exact h.elim
  | (obtain ⟨xs,h1,h2,h3⟩:=h;exact ⟨p,xs,rfl,h1,h2,h3⟩)
  | (obtain ⟨xs,h1,h2⟩:=h;exact ⟨p,xs,rfl,h1,h2⟩)
theorem fS.d{d:D}{v:V}(r:fS K H Hh d v)(s:ac Hh H):aF K H d v:=by
 cases d<;>first
  | exact s.repD r
  | (obtain ⟨p,xs,h1,h2,h3,h4⟩:=r;exact ⟨p,xs,h1,h2,h3,s.repDs h4⟩)
  | (obtain ⟨p,xs,h1,h2,h3⟩:=r;exact ⟨p,xs,h1,h2,s.repDs h3⟩)
theorem t5.b{i:Nat}{d:D}{v:V}{m:Md}(h:t5 K F H W i d v m):fS K H (hid (W++F.Z) H) d v:=by
 cases m with
 | fz=>exact aF.b h aA
 | ow=>obtain ⟨p,rfl,_,h⟩:=h;exact h.b
 | io=>obtain ⟨p,rfl,_,h,_⟩:=h;exact h.b
theorem fP.plain{H0:Hp}{d:D}{nw:Bool}{v:V}(h:fP K F σ H0 H ρ W d nw v):aF K (hid (W++F.Z) H) d v/\Rel K F σ H ρ W:=by
 cases nw with
 | false=>exact h
 | true =>
  obtain ⟨p,rfl,_,hp,hO,R⟩:=h;refine ⟨hO.rep (aJ hp) (aR (fun b hb=> .inl (Ce _ hb)) fun b o _ e=>e),R.same aA⟩
variable(K F EX) in
def OkAs(σ:St)(H:Hp)(W:List Addr)(o:Option (pU×Rho))(Q:List V->Hp->Prop):Prop:=match o with
 | some (.ok ds,ρ')=>∀ vs H' W',Fr W H H'->(∀ p∈W',p∈W)->Rel K F σ H' ρ' W'->kB K H' (hid (W'++F.Z) H') ds vs->Q vs H'
 | some (.ex C,ρ')=>∀ H' W',Fr W H H'->(∀ p∈W',p∈W)->Rel K F σ H' ρ' W'->EX C σ H'
 | none=>False
theorem oE:∀ (as:List Arg) {H:Hp} {ρ:Rho} {W:List Addr} {Q:List V->Hp->Prop},Rel K F σ H ρ W->OkAs K F EX σ H W (evA as ρ) Q->tAs K EX as σ H Q
 | [],H,ρ,W,Q,R,h=>h [] H W .refl (fun _ z=>z) R trivial
 | .ex f::as,H,ρ,W,Q,R,h=>by
  refine ⟨F,ρ,W,R,?_⟩;unfold evA at h
  revert h
  cases f ρ with
  | none=>exact fun h=>h
  | some r =>
   obtain ⟨r,ρ1⟩:=r
   cases r with
   | ex C=>exact fun h=>h
   | ok d nw =>
    intro h v H1 W1 fr sub post;obtain ⟨rd,R1⟩:=post.plain;refine oE as R1 ?_
    revert h
    dsimp only
    cases evA as ρ1 with
    | none=>exact fun h=>h
    | some q =>
     obtain ⟨q,ρ2⟩:=q
     cases q with
     | ex C=>exact fun h H2 W2 fr2 sub2 R2=>h H2 W2 (fr.trans fr2 fun p hp=> .inl (sub p hp)) (fun p hp=>sub p (sub2 p hp)) R2
     | ok ds =>
      intro h vs H2 W2 fr2 sub2 R2 reps;exact h (v::vs) H2 W2 (fr.trans fr2 fun p hp=> .inl (sub p hp)) (fun p hp=>sub p (sub2 p hp)) R2 ⟨aF.b ((fr2.hid fun p hp=> .inl (sub2 p hp)).repD rd) aA,reps⟩
 | .bor i::as,H,ρ,W,Q,R,h=>by
  unfold evA at h
  revert h
  cases e:ρ[i]? with
  | none=>exact fun h=>h.elim
  | some z =>
   cases z with
   | none=>exact fun h=>h.elim
   | some dm =>
    obtain ⟨d0,m0⟩:=dm;obtain ⟨v,hv,_⟩:=R.slot i d0 m0 e;intro h;refine ⟨v,hv,oE as R ?_⟩
    revert h
    dsimp only
    cases evA as ρ with
    | none=>exact fun h=>h
    | some q =>
     obtain ⟨q,ρ2⟩:=q
     cases q with
     | ex C=>exact fun h=>h
     | ok ds =>
      dsimp only
      cases e2:ρ2[i]? with
      | none=>exact fun h=>h.elim
      | some z =>
       cases z with
       | none=>exact fun h=>h.elim
       | some dm =>
        obtain ⟨d,m⟩:=dm;intro h vs H2 W2 fr2 sub2 R2 reps;obtain ⟨v2,hv2,ok2⟩:=R2.slot i d m e2;rw [hv] at hv2;cases hv2;exact h (v::vs) H2 W2 fr2 sub2 R2 ⟨ok2.b,reps⟩
variable(K F EX) in
def OkFs(σ:St)(H:Hp)(W:List Addr)(o:Option (pU×Rho))(Q:List V->Hp->Prop):Prop:=match o with
 | some (.ok ds,ρ')=>∀ vs H' W',Fr W H H'->(∀ p∈W',p∈W)->Rel K F σ H' ρ' W'->ag K (hid (W'++F.Z) H') ds vs->Q vs H'
 | some (.ex C,ρ')=>∀ H' W',Fr W H H'->(∀ p∈W',p∈W)->Rel K F σ H' ρ' W'->EX C σ H'
 | none=>False
theorem oj:∀ (fs:List SE) {H:Hp} {ρ:Rho} {W:List Addr} {Q:List V->Hp->Prop},Rel K F σ H ρ W->OkFs K F EX σ H W (evA (fs.map Arg.ex) ρ) Q->tAs K EX (fs.map Arg.ex) σ H Q
 | [],H,ρ,W,Q,R,h=>h [] H W .refl (fun _ z=>z) R trivial
 | f::fs,H,ρ,W,Q,R,h=>by
  refine ⟨F,ρ,W,R,?_⟩;rw [Cq] at h;unfold evA at h
  revert h
  cases f ρ with
  | none=>exact fun h=>h
  | some r =>
   obtain ⟨r,ρ1⟩:=r
   cases r with
   | ex C=>exact fun h=>h
   | ok d nw =>
    intro h v H1 W1 fr sub post;obtain ⟨rd,R1⟩:=post.plain;refine oj fs R1 ?_
    revert h
    dsimp only
    cases evA (fs.map Arg.ex) ρ1 with
    | none=>exact fun h=>h
    | some q =>
     obtain ⟨q,ρ2⟩:=q
     cases q with
     | ex C=>exact fun h H2 W2 fr2 sub2 R2=>h H2 W2 (fr.trans fr2 fun p hp=> .inl (sub p hp)) (fun p hp=>sub p (sub2 p hp)) R2
     | ok ds =>
      intro h vs H2 W2 fr2 sub2 R2 reps;exact h (v::vs) H2 W2 (fr.trans fr2 fun p hp=> .inl (sub p hp)) (fun p hp=>sub p (sub2 p hp)) R2 ⟨(fr2.hid fun p hp=> .inl (sub2 p hp)).repD rd,reps⟩
end
def fQ(K:EG)(H H':Hp)(L:List Addr)(d:D):Bool->V->Prop
 | false,v=>aF K (hid L H') d v
 | true,v=>∃ p,v = .ref p/\H p=none/\aI K H' (hid (p::L) H') p d
def OpS(K:EG)(r:List V->Hp->VK->Prop)(g:List D->Option (D×Bool)):Prop :=
 ∀ vs ds H L Q d nw,(∀ p∈L,eO (H p))->kB K H (hid L H) ds vs->g ds=some (d,nw)->(∀ v H',ac H H'->fQ K H H' L d nw v->Q v H')->r vs H Q
def sOp(g:List D->Option (D×Bool))(as:List Arg):SE:=fun ρ=>match evA as ρ with
 | some (.ok ds,ρ')=>match g ds with
  | some (d,nw)=>some (.ok d nw,ρ')
  | none=>none
 | some (.ex C,ρ')=>some (.ex C,ρ')
 | none=>none
section
variable{K:EG}{F:Fx}{EX:EXT}{σ:St}{H H':Hp}{ρ ρ':Rho}{W W':List Addr}{Q:VK}
theorem fQ.e{d:D}{nw:Bool}{v:V}(h:fQ K H H' (W++F.Z) d nw v)(R:Rel K F σ H ρ W)(s:ac H H'):fP K F σ H H' ρ W d nw v:=by
 cases nw with
 | false=>exact ⟨h,R.same s⟩
 | true =>
  obtain ⟨p,rfl,hp,hO⟩:=h;refine ⟨p,rfl,hp,R.fresh hp,hO,R.same fun b o e=> ?_⟩
  rw [aJ (by intro z;have z:b=p:=by simpa using z
             subst z;rw [hp] at e;cases e)]
  exact s b o e
theorem fP.back{H0:Hp}{d:D}{nw:Bool}{v:V}(h:fP K F σ H H' ρ W d nw v)(fr:∀ b,H b=none->H0 b=none):fP K F σ H0 H' ρ W d nw v:=by
 cases nw with
 | false=>exact h
 | true=>obtain ⟨p,h1,h2,h3⟩:=h;exact ⟨p,h1,fr p h2,h3⟩
theorem cu{r:List V->Hp->VK->Prop}{g:List D->Option (D×Bool)}{as:List Arg}(hs:OpS K r g)(R:Rel K F σ H ρ W)(h:OkV K F EX σ H W (sOp g as ρ) Q):tAs K EX as σ H (fun vs H2=>r vs H2 Q):=by
 refine oE as R ?_;unfold sOp at h
 revert h
 cases evA as ρ with
 | none=>exact fun h=>h
 | some q =>
  obtain ⟨q,ρ2⟩:=q
  cases q with
  | ex C=>exact fun h=>h
  | ok ds =>
   dsimp only
   cases e:g ds with
   | none=>exact fun h=>h.elim
   | some z =>
    obtain ⟨d,nw⟩:=z;intro h vs H2 W2 fr2 sub2 R2 reps
    exact hs vs ds H2 (W2++F.Z) Q d nw R2.mt reps e fun v H3 s3 post=>h v H3 W2 (fr2.trans (s3.fr (W:=W2)) fun p hp=> .inl (sub2 p hp)) sub2 ((post.e R2 s3).back fr2.dom)
end
def r2(r:R2):List V->Hp->VK->Prop
 | [x,y],H,Q=>r x y H Q
 | _,_,_=>False
def r1(r:V->Hp->VK->Prop):List V->Hp->VK->Prop
 | [x],H,Q=>r x H Q
 | _,_,_=>False
section
variable{X:Cx}{EX:EXT}{a b e:Expr}{es:List Expr}{pos:Pos}{x y:Arg}{as:List Arg}
theorem ca_nil:JA X EX [] []:=⟨cD⟩
theorem Bi(h:JB X EX e x)(t:JA X EX es as)(hs:starEach (e::es) X.env=(false,eval e X.env)::starEach es X.env:=by rfl):JA X EX (e::es) (x::as):=⟨aB h.p t.p hs⟩
theorem cb_ex{f:SE}(h:JE X EX e f):JB X EX e (.ex f):=⟨h.p⟩
theorem cb_var{i:Nat}{n:Str}(hN:X.N[i]?=some n)(hv:Vis X.env.scope n)(hd:(n == ("__debug__" : Str))=false:=by decide)(hcd:(n == ("__classdict__" : Str))=false:=by decide):JB X EX (.Name n pos) (.bor i):=⟨gu hN hv hd hcd⟩
def sC(d:D):SE:=fun ρ=>some (.ok d false,ρ)
theorem ql{v:V}{d:D}(h:∀ H,aF X.K H d v){σ:St}{H:Hp}{Q:VK}(hw:tV X.K EX (sC d) σ H Q):tC v σ H Q:=by
 obtain ⟨F,ρ,W,R,h2⟩:=hw;exact h2 v H W .refl (fun _ z=>z) ⟨h _,R⟩
theorem c_int{i:Int}{j pos}:JE X EX (.Constant (.int i) j pos) (sC (.int i)):=⟨oY.by fun _ _ _=>ql (d:=(.int i)) (v:=(.int i)) fun _=>rfl⟩
theorem c_bl{i:Bool}{j pos}:JE X EX (.Constant (.bool i) j pos) (sC (.bl i)):=⟨xD.by fun _ _ _=>ql (d:=(.bl i)) (v:=(.bl i)) fun _=>rfl⟩
theorem c_non{j pos}:JE X EX (.Constant .none j pos) (sC .non):=⟨pe_non.by fun _ _ _=>ql (d:= .non) (v:= .non) fun _=>rfl⟩
theorem c_str{i:Str}{j pos}:JE X EX (.Constant (.str i) j pos) (sC (.str i)):=⟨dO.by fun _ _ _=>ql (d:=(.str i)) (v:=(.str i)) fun _=>rfl⟩
theorem za{n:Str}{i:Int}(hg:Gl X n)(hm:∃ t,X.mg n=some (.int i t))(hd:(n == ("__debug__" : Str))=false:=by decide):JE X EX (.Name n pos) (sC (.int i)):=by
 obtain ⟨t,hm⟩:=hm;exact ⟨(kW (v:= .int i) hg hm ⟨t,rfl⟩ hd).by fun _ _ _=>ql (d:= .int i) (v:= .int i) fun _=>rfl⟩
def bd(i:Nat):SE:=fun ρ=>match ρ[i]? with
 | some (some (d,.fz))=>some (.ok d false,ρ)
 | some (some (d,.ow))=>some (.ok d false,ρ.set i (some (d,.fz)))
 | _=>none
theorem c_var{i:Nat}{n:Str}(hN:X.N[i]?=some n)(hv:Vis X.env.scope n)(hd:(n == ("__debug__" : Str))=false:=by decide)(hcd:(n == ("__classdict__" : Str))=false:=by decide):JE X EX (.Name n pos) (bd i):=by
 refine ⟨(gu hN hv hd hcd).by fun σ H Q hw=> ?_⟩;obtain ⟨F,ρ,W,R,h⟩:=hw;unfold bd at h
 revert h
 cases e:ρ[i]? with
 | none=>exact fun h=>h.elim
 | some z =>
  cases z with
  | none=>exact fun h=>h.elim
  | some z =>
   obtain ⟨d,m⟩:=z;obtain ⟨v,hv,ok⟩:=R.slot i d m e
   cases m with
   | io=>exact fun h=>h.elim
   | fz=>exact fun h=>⟨v,hv,h v H W .refl (fun _ z=>z) ⟨ok,R⟩⟩
   | ow =>
    intro h;obtain ⟨p,rfl,hp,hO⟩:=ok;obtain ⟨R',rp⟩:=R.freeze e hv;exact ⟨_,hv,h _ H _ .refl (fun q hq=>(C5.mp hq).1) ⟨rp,R'⟩⟩
theorem tU{op:Operator}{r:R2}{g:List D->Option (D×Bool)}(ho:OpR X (binaryOp op) r)(hs:OpS X.K (r2 r) g)(ha:JB X EX a x)(hb:JB X EX b y):JE X EX (.BinOp a op b pos) (sOp g [x,y]) :=
 ⟨(BP ho ha.p hb.p).by fun σ H Q ⟨F,ρ,W,R,h⟩=>cu hs R h⟩
theorem zb{op:CmpOp}{r:R2}{g:List D->Option (D×Bool)}(ho:OpR X (compareOp op) r)(hs:OpS X.K (r2 r) g)(ha:JB X EX a x)(hb:JB X EX b y)(hm:behindInMarks op b=false):JE X EX (.Compare a [op] [b] pos) (sOp g [x,y]) :=
 ⟨(Az ho ha.p hb.p hm).by fun σ H Q ⟨F,ρ,W,R,h⟩=>cu hs R h⟩
theorem c_ix{r:R2}{g:List D->Option (D×Bool)}(ho:IxR X r)(hs:OpS X.K (r2 r) g)(ha:JB X EX a x)(hb:JB X EX b y)(hp:pW b:=by exact fun _ _=>rfl):JE X EX (.Subscript a b pos) (sOp g [x,y]) :=
 ⟨(BQ ho ha.p hb.p hp).by fun σ H Q ⟨F,ρ,W,R,h⟩=>cu hs R h⟩
theorem fH{id:String}{n:Str}{p:Pos}{r:List V->Hp->VK->Prop}{g:List D->Option (D×Bool)}(ho:ax X (.builtin id) r)(hs:OpS X.K r g)(hg:Gl X n)(hm:X.mg n=none)(hv:bootBuiltins n=some (.builtin id))(ha:JA X EX (e::es) as)(hn:n ≠ "__name__" := by decide)(hdb:(n == ("__debug__" : Str))=false:=by decide)
 (he:starEach (e::es) X.env=(false,eval e X.env)::starEach es X.env:=by rfl) (hpl:(backTo pos (starEach es X.env)).any (·.1)=false:=by rfl):JE X EX (.Call (.Name n p) (e::es) [] pos) (sOp g as) :=
 ⟨(jc ho hg hm hv ha.p hn hdb he hpl).by fun σ H Q ⟨F,ρ,W,R,h⟩=>cu hs R h⟩
theorem gF{T:String}{n:Str}{p:Pos}{r:List V->Hp->VK->Prop}{g:List D->Option (D×Bool)}(ho:ax X (.type T) r)(hs:OpS X.K r g)(hg:Gl X n)(hm:X.mg n=none)(hv:bootBuiltins n=some (.type T))(ha:JA X EX (e::es) as)(hn:n ≠ "__name__" := by decide)(hdb:(n == ("__debug__" : Str))=false:=by decide)
 (he:starEach (e::es) X.env=(false,eval e X.env)::starEach es X.env:=by rfl) (hpl:(backTo pos (starEach es X.env)).any (·.1)=false:=by rfl):JE X EX (.Call (.Name n p) (e::es) [] pos) (sOp g as) :=
 ⟨(vq ho hg hm hv ha.p hn hdb he hpl).by fun σ H Q ⟨F,ρ,W,R,h⟩=>cu hs R h⟩
def aG(fs:List SE):SE:=fun ρ=>match evA (fs.map Arg.ex) ρ with
 | some (.ok ds,ρ')=>some (.ok (.tup ds) false,ρ')
 | some (.ex C,ρ')=>some (.ex C,ρ')
 | none=>none
def cA(fs:List SE):SE:=fun ρ=>match evA (fs.map Arg.ex) ρ with
 | some (.ok ds,ρ')=>some (.ok (.lst ds) true,ρ')
 | some (.ex C,ρ')=>some (.ex C,ρ')
 | none=>none
inductive JF(X:Cx)(EX:EXT):List Expr->List SE->Prop where
 | nil:JF X EX [] []
 | cons {e:Expr} {es:List Expr} {f:SE} {fs:List SE} (h:JE X EX e f) (t:JF X EX es fs) (hs:starEach (e::es) X.env=(false,eval e X.env)::starEach es X.env:=by rfl):JF X EX (e::es) (f::fs)
theorem JF.p{fs:List SE}(h:JF X EX es fs):PA X es (tAs X.K EX (fs.map Arg.ex)):=by
 induction h with
 | nil=>exact cD
 | cons h t hs ih=>exact aB h.p ih hs
theorem pE:∀ {fs:List SE} {ρ ρ':Rho} {ds:List D},evA (fs.map Arg.ex) ρ=some (.ok ds,ρ')->ds.length=fs.length
 | [],ρ,ρ',ds,h=>by
  have h:some (pU.ok [],ρ)=some (.ok ds,ρ'):=h;cases h;rfl
 | f::fs,ρ,ρ',ds,h=>by
  rw [Cq] at h;unfold evA at h
  revert h
  cases f ρ with
  | none=>intro h;cases h
  | some r =>
   obtain ⟨r,ρ1⟩:=r
   cases r with
   | ex C=>intro h;cases h
   | ok d nw =>
    dsimp only
    cases e:evA (fs.map Arg.ex) ρ1 with
    | none=>intro h;cases h
    | some q =>
     obtain ⟨q,ρ2⟩:=q
     cases q with
     | ex C=>intro h;cases h
     | ok ds2=>intro h;cases h;rw [Cc,Cc,pE e]
theorem c_tup{fs:List SE}{x1}(h:JF X EX es fs)(hl:fs.length<=1000:=by decide):JE X EX (.Tuple es x1 pos) (aG fs) :=
 ⟨(pe_tup h.p).by fun σ H Q ⟨F,ρ,W,R,h⟩=>by
   refine oj fs R ?_;unfold aG at h
   revert h
   cases e:evA (fs.map Arg.ex) ρ with
   | none=>exact fun h=>h
   | some q =>
    obtain ⟨q,ρ2⟩:=q
    cases q with
    | ex C=>exact fun h=>h
    | ok ds =>
     intro h vs H2 W2 fr2 sub2 R2 reps
     have lv:vs.length<=1000:=by rw [<- reps.len,pE e];exact hl
     refine ⟨DK (dE lv),fun p hp=>h _ _ W2 (fr2.trans ((ac.upd hp).fr (W:=W2)) fun p hp=> .inl (sub2 p hp)) sub2 ⟨⟨p,vs,rfl,?_,?_⟩,R2.same (ac.upd hp)⟩⟩
     ·rw [aJ (R2.fresh hp)];exact aj
     ·exact (aR (fun b hb=> .inl hb) fun b o _ e=>ac.upd hp b o e:ac (hid (W2++F.Z) H2) _).repDs reps⟩
theorem c_lst{fs:List SE}(h:JF X EX es fs)(hl:fs.length<=1000:=by decide):JE X EX (.List es pos) (cA fs) :=
 ⟨(oX h.p).by fun σ H Q ⟨F,ρ,W,R,h⟩=>by
   refine oj fs R ?_;unfold cA at h
   revert h
   cases e:evA (fs.map Arg.ex) ρ with
   | none=>exact fun h=>h
   | some q =>
    obtain ⟨q,ρ2⟩:=q
    cases q with
    | ex C=>exact fun h=>h
    | ok ds =>
     intro h vs H2 W2 fr2 sub2 R2 reps
     have lv:vs.length<=1000:=by rw [<- reps.len,pE e];exact hl
     refine ⟨DK (dE lv),fun p hp=>h _ _ W2 (fr2.trans ((ac.upd hp).fr (W:=W2)) fun p hp=> .inl (sub2 p hp)) sub2 ?_⟩;refine fP.back (fQ.e (nw:=true) ⟨p,rfl,hp,vs,aj,?_⟩ R2 (ac.upd hp)) fr2.dom
     exact (aR (fun b hb=>(List.mem_cons.mp hb).elim (fun z=> .inr (by rw [z];exact hp)) .inl) fun b o _ e=>ac.upd hp b o e:ac (hid (W2++F.Z) H2) _).repDs reps⟩
end
section
variable{K:EG}{F:Fx}{EX:EXT}{σ:St}{H H1:Hp}{ρ ρ':Rho}{W W1:List Addr}{Q:VK}
theorem OkV.go{o:Option (Res×Rho)}(h:OkV K F EX σ H W o Q)(fr:Fr W H H1)(sub:∀ p∈W1,p∈W):OkV K F EX σ H1 W1 o Q:=by
 cases o with
 | none=>exact h
 | some r =>
  obtain ⟨r,ρ1⟩:=r
  cases r with
  | ex C=>exact fun H2 W2 f2 s2 R2=>h H2 W2 (fr.trans f2 fun p hp=> .inl (sub p hp)) (fun p hp=>sub p (s2 p hp)) R2
  | ok d nw=>exact fun v H2 W2 f2 s2 P2=>h v H2 W2 (fr.trans f2 fun p hp=> .inl (sub p hp)) (fun p hp=>sub p (s2 p hp)) (P2.back fr.dom)
theorem OkT.go{o:Option (wr×Rho)}{Q:Bool->Hp->Prop}(h:OkT K F EX σ H W o Q)(fr:Fr W H H1)(sub:∀ p∈W1,p∈W):OkT K F EX σ H1 W1 o Q:=by
 cases o with
 | none=>exact h
 | some r =>
  obtain ⟨r,ρ1⟩:=r
  cases r with
  | ex C=>exact fun H2 W2 f2 s2 R2=>h H2 W2 (fr.trans f2 fun p hp=> .inl (sub p hp)) (fun p hp=>sub p (s2 p hp)) R2
  | ok d=>exact fun H2 W2 f2 s2 P2=>h H2 W2 (fr.trans f2 fun p hp=> .inl (sub p hp)) (fun p hp=>sub p (s2 p hp)) P2
end
def aH(g:List D->Option (D×Bool))(as:List Arg):ST:=fun ρ=>match sOp g as ρ with
 | some (.ok (.bl b) _,ρ')=>some (.ok b,ρ')
 | some (.ok _ _,_)=>none
 | some (.ex C,ρ')=>some (.ex C,ρ')
 | none=>none
theorem B3 {K:EG} {F:Fx} {EX:EXT} {σ:St} {H:Hp} {ρ:Rho} {W:List Addr} {f:SE} {Q:Bool->Hp->Prop} (h:OkT K F EX σ H W (match f ρ with
 | some (.ok (.bl b) _,ρ')=>some (.ok b,ρ')
 | some (.ok _ _,_)=>none
 | some (.ex C,ρ')=>some (.ex C,ρ')
 | none=>none) Q):OkV K F EX σ H W (f ρ) fun x H'=>∃ k,x = .bl k/\Q k H':=by
 revert h
 cases f ρ with
 | none=>exact fun h=>h
 | some r =>
  obtain ⟨r,ρ1⟩:=r
  cases r with
  | ex C=>exact fun h=>h
  | ok d nw =>
   cases d<;>first
    | exact fun h=>h.elim
    | exact fun h v H' W' fr sub post=>⟨_,post.plain.1,h H' W' fr sub post.plain.2⟩
def sBl(f:SE):ST:=fun ρ=>match f ρ with
 | some (.ok (.bl b) _,ρ')=>some (.ok b,ρ')
 | some (.ok _ _,_)=>none
 | some (.ex C,ρ')=>some (.ex C,ρ')
 | none=>none
def iY:D->Option Bool
 | .non=>some false
 | .bl b=>some b
 | .int i=>some (i != 0)
 | .lst ds=>some (!ds.isEmpty)
 | .tup ds=>some (!ds.isEmpty)
 | .dK ks _=>some (!ks.isEmpty)
 | _=>none
def bQ(a:Arg):ST:=fun ρ=>match evA [a] ρ with
 | some (.ok [d],ρ')=>match iY d with
  | some b=>some (.ok b,ρ')
  | none=>none
 | some (.ok _,_)=>none
 | some (.ex C,ρ')=>some (.ex C,ρ')
 | none=>none
def g6(f g:ST):ST:=fun ρ=>match f ρ with
 | some (.ok true,ρ1)=>g ρ1
 | some (.ok false,ρ1)=>some (.ok false,ρ1)
 | some (.ex C,ρ')=>some (.ex C,ρ')
 | none=>none
def sOr(f g:ST):ST:=fun ρ=>match f ρ with
 | some (.ok false,ρ1)=>g ρ1
 | some (.ok true,ρ1)=>some (.ok true,ρ1)
 | some (.ex C,ρ')=>some (.ex C,ρ')
 | none=>none
def bU(f:ST):ST:=fun ρ=>match f ρ with
 | some (.ok b,ρ1)=>some (.ok (!b),ρ1)
 | some (.ex C,ρ')=>some (.ex C,ρ')
 | none=>none
def sIf(c:ST)(f g:SE):SE:=fun ρ=>match c ρ with
 | some (.ok true,ρ1)=>f ρ1
 | some (.ok false,ρ1)=>g ρ1
 | some (.ex C,ρ')=>some (.ex C,ρ')
 | none=>none
def b9(f g:SE):SE:=fun ρ=>match f ρ with
 | some (.ok (.bl true) _,ρ1)=>g ρ1
 | some (.ok (.bl false) _,ρ1)=>some (.ok (.bl false) false,ρ1)
 | some (.ok _ _,_)=>none
 | some (.ex C,ρ')=>some (.ex C,ρ')
 | none=>none
def u8(f g:SE):SE:=fun ρ=>match f ρ with
 | some (.ok (.bl false) _,ρ1)=>g ρ1
 | some (.ok (.bl true) _,ρ1)=>some (.ok (.bl true) false,ρ1)
 | some (.ok _ _,_)=>none
 | some (.ex C,ρ')=>some (.ex C,ρ')
 | none=>none
def fK(f:SE):SE:=fun ρ=>match f ρ with
 | some (.ok (.bl b) _,ρ1)=>some (.ok (.bl (!b)) false,ρ1)
 | some (.ok _ _,_)=>none
 | some (.ex C,ρ')=>some (.ex C,ρ')
 | none=>none
section
variable{X:Cx}{EX:EXT}{a b c e:Expr}{rest es:List Expr}{pos:Pos}{x y z:Arg}{as:List Arg}
theorem kb{op:CmpOp}{r:R2}{g:List D->Option (D×Bool)}(ho:OpR X (compareOp op) r)(hs:OpS X.K (r2 r) g)(ha:JB X EX a x)(hb:JB X EX b y)(hm:behindInMarks op b=false):JT X EX (.Compare a [op] [b] pos) (aH g [x,y]) :=
 ⟨(uk ho ha.p hb.p hm).by fun σ H Q ⟨F,ρ,W,R,h⟩=>cu hs R (B3 h)⟩
theorem tru_of{K:EG}{H Hh:Hp}{d:D}{v:V}{k:Bool}(r:fS K H Hh d v)(s:ac Hh H)(e:iY d=some k):Br K v H k:=by
 cases d<;>simp only [iY] at e<;>first
  | cases e;done
  | (cases e;cases r;first | rfl | trivial)
  | skip
 ·obtain ⟨p,xs,rfl,h1,h2⟩:=r
  cases e;exact .inr (.inl ⟨xs,.inl (.inl (s _ _ h1)),by have:=h2.len;cases xs<;>cases ‹List D› <;> simp_all⟩)
 ·obtain ⟨p,xs,rfl,h1,h2⟩:=r
  cases e;exact .inl ⟨xs,.inl (.inl h1),by have:=h2.len;cases xs<;>cases ‹List D› <;> simp_all⟩
 ·obtain ⟨p,xs,rfl,h1,h2,h3⟩:=r
  cases e;refine .inr (.inr ⟨_,h1,?_⟩);rename_i ks vs;cases ks<;>cases xs<;>simp_all
theorem k_tru(ha:JB X EX e x)(he:∀ whole,isTrue e X.env whole=(do let v <- whole;standAt e.pos;holding [v] (truthy v)):=by intro _;rfl):JT X EX e (bQ x) :=
 ⟨(xm ha.p he).by fun σ H Q ⟨F,ρ,W,R,h⟩=>by
   have z:tAs X.K EX [x] σ H (fun vs H2=>match vs with | [v]=>∃ k,Br X.K v H2 k/\Q k H2 | _=>False):=by
    refine oE [x] R ?_;unfold bQ at h
    revert h
    cases evA [x] ρ with
    | none=>exact fun h=>h
    | some q =>
     obtain ⟨q,ρ2⟩:=q
     cases q with
     | ex C=>exact fun h=>h
     | ok ds =>
      match ds with
      | []=>exact fun h=>h.elim
      | _::_::_=>exact fun h=>h.elim
      | [d] =>
       dsimp only
       cases e:iY d with
       | none=>exact fun h=>h.elim
       | some k =>
        intro h vs H2 W2 fr2 sub2 R2 reps
        match vs,reps with
        | [v],reps=>exact ⟨k,tru_of reps.1 aA e,h H2 W2 fr2 sub2 R2⟩
   exact z⟩
theorem JW.t{f:ST}(h:JW X EX e f):JT X EX e f:=⟨h.p.pt⟩
theorem w_and1{f:ST}(h:JT X EX a f):JW X EX (.BoolOp .And [a] pos) f:=⟨Al h.p⟩
theorem w_or1{f:ST}(h:JT X EX a f):JW X EX (.BoolOp .Or [a] pos) f:=⟨xk h.p⟩
theorem w_and{f g:ST}(ha:JT X EX a f)(hb:JW X EX (.BoolOp .And (b::rest) pos) g):JW X EX (.BoolOp .And (a::b::rest) pos) (g6 f g) :=
 ⟨fun wh pins s σ H Q I ⟨F,ρ,W,R,h⟩=>pw_and ha.p hb.p wh pins s σ H Q I ⟨F,ρ,W,R,by
  unfold g6 at h
  revert h
  cases f ρ with
  | none=>exact fun h=>h
  | some q =>
   obtain ⟨q,ρ2⟩:=q
   cases q with
   | ex C=>exact fun h=>h
   | ok k =>
    cases k with
    | true=>exact fun h H2 W2 fr2 sub2 R2=>⟨F,ρ2,W2,R2,OkT.go h fr2 sub2⟩
    | false=>exact fun h=>h⟩⟩
theorem w_or{f g:ST}(ha:JT X EX a f)(hb:JW X EX (.BoolOp .Or (b::rest) pos) g):JW X EX (.BoolOp .Or (a::b::rest) pos) (sOr f g) :=
 ⟨fun wh pins s σ H Q I ⟨F,ρ,W,R,h⟩=>BN ha.p hb.p wh pins s σ H Q I ⟨F,ρ,W,R,by
  unfold sOr at h
  revert h
  cases f ρ with
  | none=>exact fun h=>h
  | some q =>
   obtain ⟨q,ρ2⟩:=q
   cases q with
   | ex C=>exact fun h=>h
   | ok k =>
    cases k with
    | false=>exact fun h H2 W2 fr2 sub2 R2=>⟨F,ρ2,W2,R2,OkT.go h fr2 sub2⟩
    | true=>exact fun h=>h⟩⟩
theorem k_not{f:ST}(h:JT X EX a f):JT X EX (.UnaryOp .Not a pos) (bU f) :=
 ⟨(xn h.p).by fun σ H Q ⟨F,ρ,W,R,h⟩=>⟨F,ρ,W,R,by
   unfold bU at h
   revert h
   cases f ρ with
   | none=>exact fun h=>h
   | some q =>
    obtain ⟨q,ρ2⟩:=q
    cases q with
    | ex C=>exact fun h=>h
    | ok k=>exact fun h=>h⟩⟩
theorem c_if{t:ST}{f g:SE}(hc:JT X EX c t)(ha:JE X EX a f)(hb:JE X EX b g):JE X EX (.IfExp c a b pos) (sIf t f g) :=
 ⟨(xx hc.p ha.p hb.p).by fun σ H Q ⟨F,ρ,W,R,h⟩=>⟨F,ρ,W,R,by
   unfold sIf at h
   revert h
   cases t ρ with
   | none=>exact fun h=>h
   | some q =>
    obtain ⟨q,ρ2⟩:=q
    cases q with
    | ex C=>exact fun h=>h
    | ok k =>
     cases k with
     | true=>exact fun h H2 W2 fr2 sub2 R2=>⟨F,ρ2,W2,R2,OkV.go h fr2 sub2⟩
     | false=>exact fun h H2 W2 fr2 sub2 R2=>⟨F,ρ2,W2,R2,OkV.go h fr2 sub2⟩⟩⟩
theorem c_one{op}{f:SE}(h:JE X EX a f):JE X EX (.BoolOp op [a] pos) f:=⟨pe_one h.p⟩
theorem c_and{f g:SE}(ha:JE X EX a f)(hb:JE X EX (.BoolOp .And (b::rest) pos) g):JE X EX (.BoolOp .And (a::b::rest) pos) (b9 f g) :=
 ⟨(pe_and ha.p hb.p).by fun σ H Q ⟨F,ρ,W,R,h⟩=>⟨F,ρ,W,R,by
   unfold b9 at h
   revert h
   cases f ρ with
   | none=>exact fun h=>h
   | some q =>
    obtain ⟨q,ρ2⟩:=q
    cases q with
    | ex C=>exact fun h=>h
    | ok d nw =>
     cases d<;>first | exact fun h=>h.elim | skip
     rename_i k
     cases k with
     | true=>exact fun h v H2 W2 fr2 sub2 P2=>⟨true,P2.plain.1,F,ρ2,W2,P2.plain.2,OkV.go h fr2 sub2⟩
     | false=>exact fun h v H2 W2 fr2 sub2 P2=>⟨false,P2.plain.1,h (.bl false) H2 W2 fr2 sub2 ⟨rfl,P2.plain.2⟩⟩⟩⟩
theorem c_not{f:SE}(ha:JE X EX a f):JE X EX (.UnaryOp .Not a pos) (fK f) :=
 ⟨(pe_not ha.p).by fun σ H Q ⟨F,ρ,W,R,h⟩=>⟨F,ρ,W,R,by
   unfold fK at h
   revert h
   cases f ρ with
   | none=>exact fun h=>h
   | some q =>
    obtain ⟨q,ρ2⟩:=q
    cases q with
    | ex C=>exact fun h=>h
    | ok d nw =>
     cases d<;>first | exact fun h=>h.elim | skip
     exact fun h v H2 W2 fr2 sub2 P2=>⟨_,P2.plain.1,h _ H2 W2 fr2 sub2 ⟨rfl,P2.plain.2⟩⟩⟩⟩
abbrev RSl:=V->Option Int->Option Int->Hp->VK->Prop
def rS00(r:RSl):List V->Hp->VK->Prop
 | [x],H,Q=>r x none none H Q
 | _,_,_=>False
def rS10(r:RSl):List V->Hp->VK->Prop
 | [x,y],H,Q=>∃ i,y = .int i/\r x (some i) none H Q
 | _,_,_=>False
def rS11(r:RSl)(i j:Int):List V->Hp->VK->Prop
 | [x],H,Q=>∃ i',V.int i = .int i'/\∃ j',V.int j = .int j'/\r x (some i') (some j') H Q
 | _,_,_=>False
theorem c_sl10{p2:Pos}{r:RSl}{g:List D->Option (D×Bool)}(ho:SlR X r)(hs:OpS X.K (rS10 r) g)(ha:JB X EX a x)(hb:JB X EX b y):JE X EX (.Subscript a (.Slice (some b) none none p2) pos) (sOp g [x,y]) :=
 ⟨(qH ho ha.p (oW hb.p) Aq).by fun σ H Q ⟨F,ρ,W,R,h⟩=>cu hs R h⟩
theorem c_sl11{p2 p3 p4:Pos}{r:RSl}{g:List D->Option (D×Bool)}{i j:Int}{k1 k2}(ho:SlR X r)(hs:OpS X.K (rS11 r i j) g)(ha:JB X EX a x):JE X EX (.Subscript a (.Slice (some (.Constant (.int i) k1 p3)) (some (.Constant (.int j) k2 p4)) none p2) pos) (sOp g [x]) :=
 ⟨(qH ho ha.p (oW oY) (oW oY)).by fun σ H Q ⟨F,ρ,W,R,h⟩=>cu hs R h⟩
end
theorem PS.by{X:Cx}{e:Stmt}{t t':TS}(h:PS X e t)(hi:∀ D σ H,t' D σ H->t D σ H):PS X e t':=fun pins s σ H D I hw=>h pins s σ H D I (hi D σ H hw)
theorem PSs.by{X:Cx}{e:List Stmt}{t t':TS}(h:PSs X e t)(hi:∀ D σ H,t' D σ H->t D σ H):PSs X e t':=fun pins s σ H D I hw=>h pins s σ H D I (hi D σ H hw)
inductive Out where
 | nx | rt (d:D) (nw:Bool) | ex (C:Str) | bk | ct
abbrev SS:=Rho->Option (Out×Rho)
section
variable(K:EG)(F:Fx)(EX:EXT)(σ:St)(H:Hp)(W:List Addr)
def rU(σ':St)(H':Hp)(ρ':Rho)(W':List Addr)(d:D):Bool->V->Prop
 | false,v=>aF K (hid (W'++F.Z) H') d v/\Rel K F σ' H' ρ' W'
 | true,v=>∃ p,v = .ref p/\(p∈W\/H p=none)/\p∉W'++F.Z/\aI K H' (hid (p::(W'++F.Z)) H') p d/\Rel K F σ' (hid [p] H') ρ' W'
def OkS(o:Option (Out×Rho))(D:nA):Prop:=match o with
 | some (.nx,ρ')=>∀ σ' H' W',Fr W H H'->(∀ p∈W',p∈W\/H p=none)->Rel K F σ' H' ρ' W'->D.nx σ' H'
 | some (.bk,ρ')=>∀ σ' H' W',Fr W H H'->(∀ p∈W',p∈W\/H p=none)->Rel K F σ' H' ρ' W'->D.bk σ' H'
 | some (.ct,ρ')=>∀ σ' H' W',Fr W H H'->(∀ p∈W',p∈W\/H p=none)->Rel K F σ' H' ρ' W'->D.ct σ' H'
 | some (.ex C,ρ')=>∀ σ' H' W',Fr W H H'->(∀ p∈W',p∈W\/H p=none)->Rel K F σ' H' ρ' W'->EX C σ' H'
 | some (.rt d nw,ρ')=>∀ σ' v H' W',Fr W H H'->(∀ p∈W',p∈W\/H p=none)->rU K F H W σ' H' ρ' W' d nw v->D.rt v H'
 | none=>False
end
def tVS(K:EG)(EX:EXT)(f:SS):TS:=fun D σ H=>∃ F ρ W,Rel K F σ H ρ W/\OkS K F EX H W (f ρ) D
structure JS(X:Cx)(EX:EXT)(e:Stmt)(f:SS):Prop where
 p:PS X e (tVS X.K EX f)
structure JSs(X:Cx)(EX:EXT)(e:List Stmt)(f:SS):Prop where
 p:PSs X e (tVS X.K EX f)
section
variable{K:EG}{F:Fx}{EX:EXT}{σ σ1:St}{H H1:Hp}{ρ ρ':Rho}{W W1:List Addr}{D:nA}
theorem rU.back{σ':St}{H':Hp}{ρ':Rho}{W':List Addr}{d:L2.D}{nw:Bool}{v:V}(h:rU K F H1 W1 σ' H' ρ' W' d nw v)(fr:∀ b,H1 b=none->H b=none)(sub:∀ p∈W1,p∈W\/H p=none):rU K F H W σ' H' ρ' W' d nw v:=by
 cases nw with
 | false=>exact h
 | true=>obtain ⟨p,h1,h2,h3⟩:=h;exact ⟨p,h1,h2.elim (sub p) fun z=> .inr (fr p z),h3⟩
theorem OkS.go{o:Option (Out×Rho)}(h:OkS K F EX H W o D)(fr:Fr W H H1)(sub:∀ p∈W1,p∈W\/H p=none):OkS K F EX H1 W1 o D:=by
 have sub2:∀ {W2:List Addr},(∀ p∈W2,p∈W1\/H1 p=none)->∀ p∈W2,p∈W\/H p=none:=fun {W2} s2 p hp=>(s2 p hp).elim (sub p) fun z=> .inr (fr.dom p z)
 cases o with
 | none=>exact h
 | some r =>
  obtain ⟨r,ρ1⟩:=r
  cases r with
  | ex C=>exact fun σ2 H2 W2 f2 s2 R2=>h σ2 H2 W2 (fr.trans f2 sub) (sub2 s2) R2
  | nx=>exact fun σ2 H2 W2 f2 s2 R2=>h σ2 H2 W2 (fr.trans f2 sub) (sub2 s2) R2
  | bk=>exact fun σ2 H2 W2 f2 s2 R2=>h σ2 H2 W2 (fr.trans f2 sub) (sub2 s2) R2
  | ct=>exact fun σ2 H2 W2 f2 s2 R2=>h σ2 H2 W2 (fr.trans f2 sub) (sub2 s2) R2
  | rt d nw=>exact fun σ2 v H2 W2 f2 s2 P2=>h σ2 v H2 W2 (fr.trans f2 sub) (sub2 s2) (P2.back fr.dom sub)
theorem fP.r{H':Hp}{ρ':Rho}{W':List Addr}{d:L2.D}{nw:Bool}{v:V}(h:fP K F σ H H' ρ' W' d nw v):rU K F H W σ H' ρ' W' d nw v:=by
 cases nw with
 | false=>exact h
 | true=>obtain ⟨p,h1,h2,h3⟩:=h;exact ⟨p,h1,.inr h2,h3⟩
end
def aU:SS:=fun ρ=>some (.nx,ρ)
def ah(f g:SS):SS:=fun ρ=>match f ρ with
 | some (.nx,ρ1)=>g ρ1
 | r=>r
def a7(i:Nat)(f:SE):SS:=fun ρ=>match f ρ with
 | some (.ok d nw,ρ')=>match ρ'[i]? with
  | some _=>some (.nx,ρ'.set i (some (d,if nw then .ow else .fz)))
  | none=>none
 | some (.ex C,ρ')=>some (.ex C,ρ')
 | none=>none
def au(f:SE):SS:=fun ρ=>match f ρ with
 | some (.ok d nw,ρ')=>some (.rt d nw,ρ')
 | some (.ex C,ρ')=>some (.ex C,ρ')
 | none=>none
def nN:SS:=fun ρ=>some (.rt .non false,ρ)
def b8(f:SE):SS:=fun ρ=>match f ρ with
 | some (.ok _ _,ρ')=>some (.nx,ρ')
 | some (.ex C,ρ')=>some (.ex C,ρ')
 | none=>none
def aO(c:ST)(f g:SS):SS:=fun ρ=>match c ρ with
 | some (.ok true,ρ1)=>f ρ1
 | some (.ok false,ρ1)=>g ρ1
 | some (.ex C,ρ')=>some (.ex C,ρ')
 | none=>none
def cW(i:Nat):SS:=fun ρ=>match ρ[i]? with
 | some (some (d,.fz))=>some (.rt d false,ρ)
 | some (some (d,.ow))=>some (.rt d true,ρ.set i none)
 | _=>none
theorem Rel.move{K:EG}{F:Fx}{σ:St}{H:Hp}{ρ:Rho}{W:List Addr}(R:Rel K F σ H ρ W){i:Nat}{d:D}{p:Addr}(h:ρ[i]?=some (some (d,.ow)))(hp:σ[i]?=some (some (.ref p))) :
 Rel K F σ (hid [p] H) (ρ.set i none) (W.filter fun a=>decide (a≠p))/\p∈W/\p∉(W.filter fun a=>decide (a≠p))++F.Z/\aI K H (hid (p::((W.filter fun a=>decide (a≠p))++F.Z)) H) p d:=by
 obtain ⟨v,hv,q,rfl,hq,hO⟩:=R.slot i d .ow h;rw [hp] at hv;cases hv
 have sub:∀ b,b∈W.filter (fun a=>decide (a≠p))->b∈W/\b≠p:=fun b hb=>by
  have:=C5.mp hb;exact ⟨this.1,Cn this.2⟩
 have pn:p∉(W.filter fun a=>decide (a≠p))++F.Z:=fun z=>by
  rcases CI.mp z with q | q
  ·exact (sub p q).2 rfl
  ·exact R.wz p hq q
 have sh:ac (hid (W++F.Z) H) (hid ((W.filter fun a=>decide (a≠p))++F.Z) (hid [p] H)):=fun b o e=>by
  obtain ⟨h1,h2⟩:=ao e
  have bp:b≠p:=fun z=>h1 (Cg _ (z ▸ hq))
  rw [aJ (fun z=>h1 (by
   rcases CI.mp z with q | q
   ·exact Cg _ (sub b q).1
   ·exact Ch _ q)),aJ (by simpa using bp)]
  exact h2
 have sh2:ac (hid (W++F.Z) H) (hid (p::((W.filter fun a=>decide (a≠p))++F.Z)) H):=fun b o e=>by
  obtain ⟨h1,h2⟩:=ao e
  have bp:b≠p:=fun z=>h1 (Cg _ (z ▸ hq))
  rw [aJ (fun z=>by
   rcases List.mem_cons.mp z with q | q
   ·exact bp q
   ·rcases CI.mp q with q | q
    ·exact h1 (Cg _ (sub b q).1)
    ·exact h1 (Ch _ q))]
  exact h2
 have neq:∀ r,r≠p->hid [p] H r=H r:=fun r hr=>aJ (by simpa using hr)
 refine ⟨⟨fun j e m hj=> ?_,fun j k e f m n r h1 h2 h3 h4 h5 h6=> ?_,fun r hr=>R.wz r (sub r hr).1,fun r hr=> ?_,by rw [Da];exact R.len⟩,hq,pn,hO.at rfl sh2⟩
 ·rcases aW hj with ⟨rfl,e1⟩ | ⟨ne,e1⟩
  ·cases e1
  ·obtain ⟨v,g1,g2⟩:=R.slot j e m e1
   refine ⟨v,g1,?_⟩
   have other:∀ r,v = .ref r->m ≠ .fz->r≠p:=fun r er hm z=>by
    subst er z;exact ne (R.apart j i _ _ _ _ _ e1 hm h (by decide) g1 hp)
   cases m with
   | fz=>exact sh.repD g2
   | ow=>obtain ⟨r,e2,e3,e4⟩:=g2;exact ⟨r,e2,C5.mpr ⟨e3,Cr (other r e2 (by decide))⟩,e4.at (neq r (other r e2 (by decide))) sh⟩
   | io=>obtain ⟨r,e2,e3,e4,e5⟩:=g2;exact ⟨r,e2,C5.mpr ⟨e3,Cr (other r e2 (by decide))⟩,e4.at (neq r (other r e2 (by decide))) sh,e5⟩
 ·rcases aW h1 with ⟨rfl,z⟩ | ⟨_,z⟩
  ·cases z
  ·rcases aW h3 with ⟨rfl,z'⟩ | ⟨_,z'⟩
   ·cases z'
   ·exact R.apart j k _ _ _ _ _ z h2 z' h4 h5 h6
 ·have rp:r≠p:=fun z=>by subst z;exact pn hr
  rw [neq r rp]
  rcases CI.mp hr with q | q
  ·exact R.mt r (Cg _ (sub r q).1)
  ·exact R.mt r (Ch _ q)
inductive Tg where
 | nm (i:Nat) | tp (ts:List Tg)
mutual
def bF:Tg->D->Rho->Option Rho
 | .nm i,d,ρ=>match ρ[i]? with
  | some _=>some (ρ.set i (some (d,.fz)))
  | none=>none
 | .tp ts,.tup ds,ρ=>cm ts ds ρ
 | .tp ts,.ktup ds,ρ=>cm ts ds ρ
 | .tp _,_,_=>none
def cm:List Tg->List D->Rho->Option Rho
 | [],[],ρ=>some ρ
 | t::ts,d::ds,ρ=>match bF t d ρ with
  | some ρ1=>cm ts ds ρ1
  | none=>none
 | _,_,_=>none
end
mutual
def gT(K:EG):Tg->TG
 | .nm i=>uH i
 | .tp ts=>gTup K ts.length (gTs K ts)
def gTs(K:EG):List Tg->TGs
 | []=>gNil
 | t::ts=>BX (gT K t) (gTs K ts)
end
mutual
def Tg.ge(n:Nat):Tg->Bool
 | .nm i=>decide (n<=i)
 | .tp ts=>Tg.geL n ts
def Tg.geL(n:Nat):List Tg->Bool
 | []=>true
 | t::ts=>Tg.ge n t&&Tg.geL n ts
end
section
variable{K:EG}{F:Fx}{EX:EXT}{H:Hp}{W:List Addr}{Q:St->Hp->Prop}{n:Nat}
theorem eA{H:Hp}{p:Addr}{xs:List V}(h:SqT K (fun _=>none) p xs):SqT K H p xs:=by
 rcases h with (h | ⟨o,h⟩) | h
 ·cases h
 ·cases h
 ·exact .inr h
theorem oD:∀ {ts:List Tg} {ds:List D} {ρ ρ':Rho},cm ts ds ρ=some ρ'->ds.length=ts.length
 | [],[],_,_,_=>rfl
 | [],_::_,_,_,h=>by unfold cm at h;cases h
 | _::_,[],_,_,h=>by unfold cm at h;cases h
 | t::ts,d::ds,ρ,ρ',h=>by
  unfold cm at h
  cases e:bF t d ρ with
  | none=>rw [e] at h;cases h
  | some ρ1=>rw [e] at h;rw [Cc,Cc,oD h]
mutual
theorem yq:∀ (T:Tg) {d:D} {v:V} {σ:St} {ρ ρ':Rho} {Q:St->Hp->Prop},Rel K F σ H ρ W->aF K (hid (W++F.Z) H) d v->bF T d ρ=some ρ'->(∀ σ',(Tg.ge n T=true->σ'.take n=σ.take n)->Rel K F σ' H ρ' W->Q σ' H)->gT K T v σ H Q
 | .nm i,d,v,σ,ρ,ρ',Q,R,r,e,q=>by
  unfold bF at e;unfold gT
  cases h:ρ[i]? with
  | none=>rw [h] at e;cases e
  | some z =>
   rw [h] at e;cases e
   have hi:i < σ.length:=by rw [R.len];exact (Cm.mp h).1
   refine q _ (fun hg=> ?_) (R.put hi r);unfold Tg.ge at hg;exact List.take_set_of_le (Cn hg)
 | .tp ts,d,v,σ,ρ,ρ',Q,R,r,e,q=>by
  unfold gT
  have two:∀ ds p xs,v = .ref p->SqT K H p xs->ag K (hid (W++F.Z) H) ds xs->cm ts ds ρ=some ρ'->gTup K ts.length (gTs K ts) v σ H Q:=fun ds p xs e1 e2 e3 e4 =>
   ⟨p,xs,e1,e2,by rw [<- e3.len];exact oD e4,yp ts R e3 e4 fun σ' h1 h2=>q σ' (fun hg=>h1 (by unfold Tg.ge at hg;exact hg)) h2⟩
  cases d<;>first
   | (unfold bF at e;cases e;done)
   | (obtain ⟨p,xs,e1,e2,e3⟩:=r;unfold bF at e;exact two _ p xs e1 (.inl (.inl (ao e2).2)) e3 e)
   | (obtain ⟨p,xs,e1,e2,e3⟩:=r;unfold bF at e;exact two _ p xs e1 (eA e2) e3 e)
theorem yp:∀ (ts:List Tg) {ds:List D} {vs:List V} {σ:St} {ρ ρ':Rho} {Q:St->Hp->Prop},Rel K F σ H ρ W->ag K (hid (W++F.Z) H) ds vs->cm ts ds ρ=some ρ'->(∀ σ',(Tg.geL n ts=true->σ'.take n=σ.take n)->Rel K F σ' H ρ' W->Q σ' H)->gTs K ts vs σ H Q
 | [],ds,vs,σ,ρ,ρ',Q,R,r,e,q=>by
  unfold gTs
  cases ds with
  | cons _ _=>unfold cm at e;cases e
  | nil =>
   unfold cm at e;cases e
   cases vs with
   | cons _ _=>exact r.elim
   | nil=>exact ⟨rfl,q σ (fun _=>rfl) R⟩
 | t::ts,ds,vs,σ,ρ,ρ',Q,R,r,e,q=>by
  unfold gTs
  cases ds with
  | nil=>unfold cm at e;cases e
  | cons d ds =>
   cases vs with
   | nil=>exact r.elim
   | cons v vs =>
    unfold cm at e
    cases h:bF t d ρ with
    | none=>rw [h] at e;cases e
    | some ρ1 =>
     rw [h] at e;refine ⟨v,vs,rfl,yq t R r.1 h fun σ1 h1 R1=>yp ts R1 r.2 e fun σ2 h2 R2=>q σ2 (fun hg=> ?_) R2⟩;unfold Tg.geL at hg;have:=(Cv _ _).mp hg;exact (h2 this.2).trans (h1 this.1)
end
end
structure JG(X:Cx)(e:Expr)(T:Tg):Prop where
 p:PG X e (gT X.K T)
structure JGs(X:Cx)(es:List Expr)(ts:List Tg):Prop where
 p:PGs X es (gTs X.K ts)
def vc(T:Tg)(f:SE):SS:=fun ρ=>match f ρ with
 | some (.ok d _,ρ')=>match bF T d ρ' with
  | some ρ2=>some (.nx,ρ2)
  | none=>none
 | some (.ex C,ρ')=>some (.ex C,ρ')
 | none=>none
def iD(i:Nat)(op:Int->Int->Int)(f:SE):SS:=fun ρ=>match ρ[i]? with
 | some (some (.int a,.fz))=>match f ρ with
  | some (.ok (.int b) _,ρ')=>match ρ'[i]? with
   | some _=>some (.nx,ρ'.set i (some (.int (op a b),.fz)))
   | none=>none
  | some (.ok _ _,_)=>none
  | some (.ex C,ρ')=>some (.ex C,ρ')
  | none=>none
 | _=>none
section
variable{X:Cx}{EX:EXT}{a b c e:Expr}{es:List Expr}{st:Stmt}{rest:List Stmt}{pos:Pos}
theorem s_nil:JSs X EX [] aU:=⟨ul.by fun D σ H ⟨F,ρ,W,R,h⟩=>h σ H W .refl (fun _ z=> .inl z) R⟩
theorem s_cons{f g:SS}(h1:JS X EX st f)(h2:JSs X EX rest g):JSs X EX (st::rest) (ah f g) :=
 ⟨(eY h1.p h2.p).by fun D σ H ⟨F,ρ,W,R,h⟩=>⟨F,ρ,W,R,by
   unfold ah at h
   revert h
   cases f ρ with
   | none=>exact fun h=>h
   | some q =>
    obtain ⟨q,ρ2⟩:=q
    cases q with
    | nx=>exact fun h σ2 H2 W2 fr2 sub2 R2=>⟨F,ρ2,W2,R2,OkS.go h fr2 sub2⟩
    | _=>exact fun h=>h⟩⟩
theorem s_one{f:SS}(h:JS X EX st f):JSs X EX [st] f:=⟨oS h.p⟩
theorem set_ok{K:EG}{F:Fx}{σ:St}{H H':Hp}{ρ':Rho}{W':List Addr}{d:D}{nw:Bool}{v:V}{i:Nat}(P:fP K F σ H H' ρ' W' d nw v)(hi:i < ρ'.length) :
 ∃ W2,(∀ p∈W2,p∈W'\/H p=none)/\Rel K F (σ.set i (some v)) H' (ρ'.set i (some (d,if nw then .ow else .fz))) W2:=by
 cases nw with
 | false=>exact ⟨W',fun p hp=> .inl hp,P.2.put (by rw [P.2.len];exact hi) P.1⟩
 | true =>
  obtain ⟨p,rfl,hp,hn,hO,R⟩:=P;exact ⟨p::W',fun q hq=>(List.mem_cons.mp hq).elim (fun z=> .inr (by rw [z];exact hp)) .inl,R.own (by rw [R.len];exact hi) hn hO⟩
theorem zf{i:Nat}{f:SE}{D:nA}{σ:St}{H:Hp}(h:tVS X.K EX (a7 i f) D σ H):tV X.K EX f σ H fun x H1=>D.nx (σ.set i (some x)) H1:=by
 obtain ⟨F,ρ,W,R,h⟩:=h;refine ⟨F,ρ,W,R,?_⟩;unfold a7 at h
 revert h
 cases f ρ with
 | none=>exact fun h=>h
 | some q =>
  obtain ⟨q,ρ2⟩:=q
  cases q with
  | ex C=>exact fun h H2 W2 fr2 sub2 R2=>h σ H2 W2 fr2 (fun p hp=> .inl (sub2 p hp)) R2
  | ok d nw =>
   dsimp only
   cases e:ρ2[i]? with
   | none=>exact fun h=>h.elim
   | some z =>
    intro h v H2 W2 fr2 sub2 P2;obtain ⟨W3,s3,R3⟩:=set_ok P2 (Cm.mp e).1;exact h _ H2 W3 fr2 (fun p hp=>(s3 p hp).imp (sub2 p) id) R3
theorem BC{i:Nat}{x:Str}{f:SE}{pos':Pos}(hN:X.N.Nodup)(hi:X.N[i]?=some x)(hx:Loc X.env.scope x)(he:JE X EX e f)(hs:swapsWith e (some (.Name x pos')) pos.line X.env=pure false:=by rfl)(hf:X.fn x=true\/X.env.scope.names.lookup x=some .local:=by first | exact .inl rfl | exact .inr rfl | assumption) :
 JS X EX (.Assign [.Name x pos'] e pos) (a7 i f):=⟨(oU hN hi hx he.p hs hf).by fun D σ H h=>zf h⟩
theorem yo{i:Nat}{x:Str}(hN:X.N.Nodup)(hi:X.N[i]?=some x)(hx:Loc X.env.scope x)(hf:X.fn x=true\/X.env.scope.names.lookup x=some .local:=by first | exact .inl rfl | exact .inr rfl | assumption):JG X (.Name x pos) (.nm i):=⟨by unfold gT;exact Aw hN hi hx hf⟩
theorem g_nil:JGs X [] []:=⟨by unfold gTs;exact Av⟩
theorem g_cons{T:Tg}{ts:List Tg}(h1:JG X e T)(h2:JGs X es ts)(hs:(assignEach (e::es) X.env).map (·.2)=assign e X.env::(assignEach es X.env).map (·.2):=by rfl):JGs X (e::es) (T::ts):=⟨by unfold gTs;exact xu h1.p h2.p hs⟩
theorem g_tup{k:Nat}{ts:List Tg}(hc:X.calm=true)(h:JGs X es ts)(hn:(assignEach es X.env).length=ts.length:=by rfl)(hst:(assignEach es X.env).findIdx? (·.1)=none:=by rfl):JG X (.Tuple es k pos) (.tp ts):=⟨by unfold gT;exact pg_tup hc h.p hn hst⟩
theorem wQ{i:Nat}{x:Str}{f:SE}{op:Operator}{fn:Int->Int->Int}{pos':Pos}(ho:PIp X op (ipI fn))(hN:X.N.Nodup)(hi:X.N[i]?=some x)(hx:Loc X.env.scope x)(he:JE X EX e f)(hf:X.fn x=true\/X.env.scope.names.lookup x=some .local:=by first | exact .inl rfl | exact .inr rfl | assumption) :
 JS X EX (.AugAssign (.Name x pos') op e pos) (iD i fn f) :=
 ⟨(ps_aug hN hi hx he.p ho hf).by fun D σ H ⟨F,ρ,W,R,h⟩=>by
   unfold iD at h
   revert h
   split
   ·rename_i a0 e0
    obtain ⟨v0,hv0,hr0⟩:=R.slot i _ _ e0;have hr0:v0 = .int a0:=hr0;subst hr0;intro h;refine ⟨_,hv0,F,ρ,W,R,?_⟩
    revert h
    cases f ρ with
    | none=>exact fun h=>h
    | some q =>
     obtain ⟨q,ρ2⟩:=q
     cases q with
     | ex C=>exact fun h H2 W2 fr2 sub2 R2=>h σ H2 W2 fr2 (fun p hp=> .inl (sub2 p hp)) R2
     | ok d nw =>
      cases d<;>first | exact fun h=>h.elim | skip
      rename_i b0;dsimp only
      cases e:ρ2[i]? with
      | none=>exact fun h=>h.elim
      | some z =>
       intro h v H2 W2 fr2 sub2 P2;have hv:v = .int b0:=P2.plain.1;exact ⟨a0,b0,rfl,hv,h _ H2 W2 fr2 (fun p hp=> .inl (sub2 p hp)) (P2.plain.2.put (by rw [P2.plain.2.len];exact (Cm.mp e).1) rfl)⟩
   ·exact fun h=>h.elim⟩
theorem s_ret{f:SE}(he:JE X EX e f):JS X EX (.Return (some e) pos) (au f) :=
 ⟨(oV he.p).by fun D σ H ⟨F,ρ,W,R,h⟩=>⟨F,ρ,W,R,by
   unfold au at h
   revert h
   cases f ρ with
   | none=>exact fun h=>h
   | some q =>
    obtain ⟨q,ρ2⟩:=q
    cases q with
    | ex C=>exact fun h H2 W2 fr2 sub2 R2=>h σ H2 W2 fr2 (fun p hp=> .inl (sub2 p hp)) R2
    | ok d nw=>exact fun h v H2 W2 fr2 sub2 P2=>h σ v H2 W2 fr2 (fun p hp=> .inl (sub2 p hp)) P2.r⟩⟩
theorem s_retV{i:Nat}{n:Str}{p2:Pos}(hN:X.N[i]?=some n)(hv:Vis X.env.scope n)(hd:(n == ("__debug__" : Str))=false:=by decide)(hcd:(n == ("__classdict__" : Str))=false:=by decide):JS X EX (.Return (some (.Name n p2)) pos) (cW i) :=
 ⟨(oV (gu hN hv hd hcd)).by fun D σ H ⟨F,ρ,W,R,h⟩=>by
   unfold cW at h
   revert h
   cases e:ρ[i]? with
   | none=>exact fun h=>h.elim
   | some z =>
    cases z with
    | none=>exact fun h=>h.elim
    | some z =>
     obtain ⟨d,m⟩:=z;obtain ⟨v,hv,ok⟩:=R.slot i d m e
     cases m with
     | io=>exact fun h=>h.elim
     | fz=>exact fun h=>⟨v,hv,h σ v H W .refl (fun _ z=> .inl z) ⟨ok,R⟩⟩
     | ow =>
      intro h;obtain ⟨p,rfl,hp,hO⟩:=ok;obtain ⟨R',m1,m2,m3⟩:=R.move e hv
      exact ⟨_,hv,h σ _ H _ .refl (fun q hq=> .inl (C5.mp hq).1) ⟨p,rfl,.inl m1,m2,m3,R'⟩⟩⟩
theorem s_expr{f:SE}(he:JE X EX e f)(hs:swapsWith e none pos.line X.env=pure false:=by rfl):JS X EX (.Expr e pos) (b8 f) :=
 ⟨(um he.p hs).by fun D σ H ⟨F,ρ,W,R,h⟩=>⟨F,ρ,W,R,by
   unfold b8 at h
   revert h
   cases f ρ with
   | none=>exact fun h=>h
   | some q =>
    obtain ⟨q,ρ2⟩:=q
    cases q with
    | ex C=>exact fun h H2 W2 fr2 sub2 R2=>h σ H2 W2 fr2 (fun p hp=> .inl (sub2 p hp)) R2
    | ok d nw=>exact fun h v H2 W2 fr2 sub2 P2=>h σ H2 W2 fr2 (fun p hp=> .inl (sub2 p hp)) P2.plain.2⟩⟩
theorem s_if{t:ST}{f g:SS}{as bs:List Stmt}(hc:JT X EX c t)(ha:JSs X EX as f)(hb:JSs X EX bs g):JS X EX (.If c as bs pos) (aO t f g) :=
 ⟨(BO hc.p ha.p hb.p).by fun D σ H ⟨F,ρ,W,R,h⟩=>⟨F,ρ,W,R,by
   unfold aO at h
   revert h
   cases t ρ with
   | none=>exact fun h=>h
   | some q =>
    obtain ⟨q,ρ2⟩:=q
    cases q with
    | ex C=>exact fun h H2 W2 fr2 sub2 R2=>h σ H2 W2 fr2 (fun p hp=> .inl (sub2 p hp)) R2
    | ok k =>
     cases k with
     | true=>exact fun h H2 W2 fr2 sub2 R2=>⟨F,ρ2,W2,R2,OkS.go h fr2 fun p hp=> .inl (sub2 p hp)⟩
     | false=>exact fun h H2 W2 fr2 sub2 R2=>⟨F,ρ2,W2,R2,OkS.go h fr2 fun p hp=> .inl (sub2 p hp)⟩⟩⟩
end
mutual
def dU:D->Bool
 | .lst _=>false
 | .klst _=>false
 | .dK _ _=>false
 | .dT _ _=>false
 | .tup ds=>cy ds
 | .ktup ds=>cy ds
 | _=>true
def cy:List D->Bool
 | []=>true
 | d::ds=>dU d&&cy ds
end
def bX:D->Bool
 | .lst ds=>cy ds
 | .dK _ ds=>cy ds
 | .dT _ ds=>cy ds
 | _=>false
section
variable{K:EG}{H:Hp}{L1 L2:List Addr}
theorem jj{p:Addr}{o:HO}(h:hid L1 H p=some o)(hm:∀ p∈L2,eO (H p))(no:¬ eO (some o)):hid L2 H p=some o:=by
 have e:=(ao h).2;rw [aJ fun z=>no (by have:=hm p z;rw [e] at this;exact this)];exact e
mutual
theorem aF.flat(hm:∀ p∈L2,eO (H p)):∀ {d:D} {v:V},dU d=true->aF K (hid L1 H) d v->aF K (hid L2 H) d v
 | .non,_,_,h=>h
 | .bl _,_,_,h=>h
 | .int _,_,_,h=>h
 | .str _,_,_,h=>h
 | .tup _,_,f,⟨p,xs,h1,h2,h3⟩=>⟨p,xs,h1,jj h2 hm (fun z=>z),ag.flat hm (by unfold dU at f;exact f) h3⟩
 | .ktup _,_,f,⟨p,xs,h1,h2,h3⟩=>⟨p,xs,h1,h2,ag.flat hm (by unfold dU at f;exact f) h3⟩
 | .lst _,_,f,_=>by unfold dU at f;cases f
 | .klst _,_,f,_=>by unfold dU at f;cases f
 | .dK _ _,_,f,_=>by unfold dU at f;cases f
 | .dT _ _,_,f,_=>by unfold dU at f;cases f
 | .set _,_,_,⟨p,S,h1,h2,h3⟩=>⟨p,S,h1,jj h2 hm (fun z=>z),h3⟩
 | .rng _ _,_,_,⟨p,h1,h2⟩=>⟨p,h1,jj h2 hm (fun z=>z)⟩
 | .exc _,_,_,⟨p,C,h1,h2,h3⟩=>⟨p,C,h1,h2,jj h3 hm (fun z=>z)⟩
theorem ag.flat(hm:∀ p∈L2,eO (H p)):∀ {ds:List D} {xs:List V},cy ds=true->ag K (hid L1 H) ds xs->ag K (hid L2 H) ds xs
 | [],[],_,_=>trivial
 | _::_,_::_,f,h=>by
  unfold cy at f;have f:=(Cv _ _).mp f;exact ⟨aF.flat hm f.1 h.1,ag.flat hm f.2 h.2⟩
 | [],_::_,_,h=>h.elim
 | _::_,[],_,h=>h.elim
end
theorem aI.flat{H':Hp}{p:Addr}{d:D}(hm:∀ p∈L2,eO (H p))(f:bX d=true)(h:aI K H' (hid L1 H) p d):aI K H' (hid L2 H) p d:=by
 cases d<;>first
  | exact h.elim
  | (obtain ⟨xs,h1,h2,h3⟩:=h;exact ⟨xs,h1,h2,ag.flat hm f h3⟩)
  | (obtain ⟨xs,h1,h2⟩:=h;exact ⟨xs,h1,ag.flat hm f h2⟩)
end
abbrev FS:=List D->Option (Res×D)
def spF(K:EG)(io:Option Nat)(run:FS):Sp:=fun vs H Q E=>∃ (Z W:List Addr) (ds:List D),
 vs.length=ds.length/\(∀ p∈W,p∉Z)/\(∀ p∈W++Z,eO (H p)) /\
 (∀ (j:Nat) (d:D) (v:V),io≠some j->ds[j]?=some d->vs[j]?=some v->aF K (hid (W++Z) H) d v) /\
 (∀ k,io=some k->∃ p d,vs[k]?=some (V.ref p)/\ds[k]?=some d/\W=[p]/\aI K H (hid (W++Z) H) p d) /\
 (io=none->W=[]) /\
 match run ds with
 | some (.ok d false,dio)=>∀ v H',Fr W H H'->aF K (hid (W++Z) H') d v->(∀ p,W=[p]->aI K H' (hid (W++Z) H') p dio)->Q v H'
 | some (.ok d true,dio)=>∀ q H',Fr W H H'->H q=none->aI K H' (hid (q::(W++Z)) H') q d->(∀ p,W=[p]->aI K H' (hid (q::(W++Z)) H') p dio)->Q (.ref q) H'
 | some (.ex C,dio)=>∀ H',Fr W H H'->(∀ p,W=[p]->aI K H' (hid (W++Z) H') p dio)->∀ a,gE K C a->∀ x,E (.ref a) x H'
 | none=>False
def iP(io:Option Nat):Nat->List D->Rho
 | _,[]=>[]
 | j,d::ds=>some (d,if io=some j then .io else .fz)::iP io (j+1) ds
def ini(n:Nat)(io:Option Nat)(ds:List D):Rho:=iP io 0 ds++List.replicate (n - ds.length) none
def ioD(io:Option Nat)(ρ:Rho):Option D:=match io with
 | none=>some .non
 | some k=>match ρ[k]? with
  | some (some (d,.io))=>some d
  | _=>none
def ai(np n:Nat)(io:Option Nat)(body:SS):FS:=fun ds=>if ds.length=np then
 match body (ini n io ds) with
 | some (.rt d nw,ρ')=>match ioD io ρ' with
  | some x=>some (.ok d nw,x)
  | none=>none
 | some (.nx,ρ')=>match ioD io ρ' with
  | some x=>some (.ok .non false,x)
  | none=>none
 | some (.ex C,ρ')=>match ioD io ρ' with
  | some x=>some (.ex C,x)
  | none=>none
 | _=>none else none
theorem ji{io:Option Nat}:∀ {j:Nat} {ds:List D},(iP io j ds).length=ds.length
 | _,[]=>rfl
 | j,_::ds=>by unfold iP;rw [Cc,Cc,ji]
theorem q5{io:Option Nat}:∀ {j i:Nat} {ds:List D} {d:D} {m:Md},(iP io j ds)[i]?=some (some (d,m))->ds[i]?=some d/\m=if io=some (j+i) then .io else .fz
 | j,i,[],d,m,h=>by unfold iP at h;simp at h
 | j,0,x::ds,d,m,h=>by
  unfold iP at h;simp only [Cz,Option.some.injEq,Prod.mk.injEq] at h;exact ⟨by rw [<- h.1];rfl,by rw [<- h.2];rfl⟩
 | j,i+1,x::ds,d,m,h=>by
  unfold iP at h;simp only [CB] at h;obtain ⟨h1,h2⟩:=q5 h;exact ⟨by simpa using h1,by rw [h2,show j+1+i=j+(i+1) by omega]⟩
theorem px{n:Nat}{io:Option Nat}{i:Nat}{ds:List D}{d:D}{m:Md}(h:(ini n io ds)[i]?=some (some (d,m))):ds[i]?=some d/\m=if io=some i then .io else .fz:=by
 unfold ini at h
 by_cases hi:i < ds.length
 ·rw [CA (by rw [ji];exact hi)] at h
  have:=q5 h;rw [C3] at this;exact this
 ·rw [CZ (by rw [ji];omega),DN] at h
  split at h<;>cases h
def EXf(K:EG)(E:XK):EXT:=fun nm _ H=>∀ C,gE K nm C->∀ x,E (.ref C) x H
theorem Fun.okX{P:Program}{w:World}{K:EG}{mg:Str->Option Value}{base:Heap}{x:Str}{st:Stmt}{N ps:List Str}{k:Nat}{sp:Sp}{f:Addr}{fd:FuncData}(F:Fun K x x st f fd)(S:cR N ps (aa st))(len:∀ vs H Q E,sp vs H Q E->vs.length=ps.length)
 (hbody:∀ (f:Addr) (cdv:Value) (A:Around) (outer:List Env) (s:Shared) (H:Hp) (vs:List V) (Q:VK) (E:XK),cf k (A.deeper (envOfC x (aa st) s.heap.objs.size f cdv))->sp vs H Q E ->
   ∃ t,PSs (bN (CXr P w) P w K mg base N x (aa st) f cdv A outer s H E) (bA st) t/\t { nx:=fun _ H'=>Q .non H',rt:=Q } (cU N vs) H):mQ P w K mg base (CXr P w) (k+1) f fd ps sp:=by
 obtain ⟨oc,od,kV,doc,pm,an,cdv,ct,osl,rfl,lk,hcd⟩:=F.ex
 exact BY lk hcd S len fun A outer s H vs Q E hr hsp=>hbody f cdv A outer s H vs Q E hr hsp
theorem yH{f0:Addr}{fd0:FuncData}{P:Program}{w:World}{K:EG}{mg:Str->Option Value}{base:Heap}{x:Str}{st:Stmt}{N ps:List Str}{k:Nat}{io:Option Nat}{body:SS}(h:Fun K x x st f0 fd0)(S:cR N ps (aa st))
 (hb:∀ (f:Addr) (cdv:Value) (A:Around) (outer:List Env) (s:Shared) (H:Hp) (E:XK),cf k (A.deeper (envOfC x (aa st) s.heap.objs.size f cdv)) ->
   JSs (bN (CXr P w) P w K mg base N x (aa st) f cdv A outer s H E) (EXf K E) (bA st) body) (hps:ps.length<=N.length:=by decide):mQ P w K mg base (CXr P w) (k+1) f0 fd0 ps (spF K io (ai ps.length N.length io body)):=by
 have run_len:∀ {ds:List D} {r:Res×D},ai ps.length N.length io body ds=some r->ds.length=ps.length:=fun {ds r} e=>by
  unfold ai at e
  split at e
  ·assumption
  ·cases e
 refine Fun.okX h S (fun vs H Q E hs=> ?_) (fun f cdv A outer s H vs Q E hr hs=> ?_)
 ·obtain ⟨Z,W,ds,h1,_,_,_,_,_,hm⟩:=hs
  cases e:ai ps.length N.length io body ds with
  | none=>rw [e] at hm;exact hm.elim
  | some r=>rw [h1];exact run_len e
 ·obtain ⟨Z,W,ds,h1,hwz,hmt,hfz,hio,hno,hm⟩:=hs
  refine ⟨_,(hb f cdv A outer s H E hr).p,?_⟩
  have hlen:ds.length=ps.length:=by
   cases e:ai ps.length N.length io body ds with
   | none=>rw [e] at hm;exact hm.elim
   | some r=>exact run_len e
  let F:Fx:=⟨Z,fun j=>if io=some j then W.head? else none⟩
  have st_get:∀ {j:Nat} {v:V},vs[j]?=some v->(cU N vs)[j]?=some (some v):=fun {j v} e=>by
   unfold cU;rw [CA (by rw [B9];exact (Cm.mp e).1),Cw,e];rfl
  have R0:Rel K F (cU N vs) H (ini N.length io ds) W:=by
   refine ⟨fun i d m hi=> ?_,fun i j d e m n p g1 g2 g3 g4 _ _=> ?_,hwz,hmt,?_⟩
   ·obtain ⟨hd,rfl⟩:=px hi
    have hv:i < vs.length:=by rw [h1];exact (Cm.mp hd).1
    refine ⟨vs[i],st_get (B8 hv),?_⟩
    by_cases e:io=some i
    ·rw [if_pos e]
     obtain ⟨p,d',q1,q2,q3,q4⟩:=hio i e;rw [B8 hv] at q1;rw [hd] at q2;cases q2;refine ⟨p,Option.some.inj q1,by rw [q3];exact Ck,q4,?_⟩
     show (if io=some i then W.head? else none)=some p
     rw [if_pos e,q3];rfl
    ·rw [if_neg e]
     exact hfz i d _ e hd (B8 hv)
   ·obtain ⟨_,e1⟩:=px g1
    obtain ⟨_,e2⟩:=px g3
    by_cases z1:io=some i
    ·by_cases z2:io=some j
     ·rw [z1] at z2;exact Option.some.inj z2
     ·rw [if_neg z2] at e2;exact absurd e2 g4
    ·rw [if_neg z1] at e1;exact absurd e1 g2
   ·unfold cU ini
    rw [Ct,Ct,B9,Dg,Dg,ji,h1]
  refine ⟨F,_,W,R0,?_⟩
  have ioR:∀ {σ':St} {H':Hp} {ρ':Rho} {W':List Addr} {x:D} {p:Addr},Rel K F σ' H' ρ' W'->ioD io ρ'=some x->W=[p]->p∈W'/\aI K H' (hid (W'++Z) H') p x:=fun {σ' H' ρ' W' x p} R e hW=>by
   cases hk:io with
   | none=>rw [hno hk] at hW;cases hW
   | some k =>
    unfold ioD at e;rw [hk] at e;dsimp only at e
    split at e
    ·rename_i d0 e0
     cases e;obtain ⟨v,g1,q,g2,g3,g4,g5⟩:=R.slot k _ _ e0;have g5:(if io=some k then W.head? else none)=some q:=g5;rw [if_pos hk,hW] at g5;have:p=q:=Option.some.inj g5;subst this;exact ⟨g3,g4⟩
    ·cases e
  have wsub:∀ {σ':St} {H':Hp} {ρ':Rho} {W':List Addr} {x:D},Rel K F σ' H' ρ' W'->ioD io ρ'=some x->∀ b,b∈W++Z->b∈W'++Z:=fun {σ' H' ρ' W' x} R e b hb=>by
   rcases CI.mp hb with z | z
   ·cases hk:io with
    | none=>rw [hno hk] at z;cases z
    | some k =>
     obtain ⟨p,d,_,_,q3,_⟩:=hio k hk;rw [q3] at z;rw [CF.mp z];exact Cg _ (ioR R e q3).1
   ·exact Ch _ z
  have toW:∀ {σ':St} {H' H2:Hp} {ρ':Rho} {W':List Addr} {x:D},Rel K F σ' H2 ρ' W'->ioD io ρ'=some x->ac (hid (W'++Z) H') (hid (W++Z) H'):=fun R e=>aR (fun b hb=> .inl (wsub R e b hb)) fun b o _ z=>z
  revert hm
  unfold ai;rw [if_pos hlen]
  cases body (ini N.length io ds) with
  | none=>exact fun h=>h.elim
  | some r =>
   obtain ⟨r,ρ'⟩:=r
   cases r with
   | bk=>exact fun h=>h.elim
   | ct=>exact fun h=>h.elim
   | nx =>
    dsimp only
    cases e:ioD io ρ' with
    | none=>exact fun h=>h.elim
    | some x =>
     intro hm σ' H' W' fr sub R
     exact hm .non H' fr rfl fun p hp=>(ioR R e hp).2.at rfl (toW R e)
   | ex C =>
    dsimp only
    cases e:ioD io ρ' with
    | none=>exact fun h=>h.elim
    | some x =>
     intro hm σ' H' W' fr sub R
     exact hm H' fr fun p hp=>(ioR R e hp).2.at rfl (toW R e)
   | rt d nw =>
    dsimp only
    cases e:ioD io ρ' with
    | none=>exact fun h=>h.elim
    | some x =>
     cases nw with
     | false =>
      intro hm σ' v H' W' fr sub P
      exact hm v H' fr ((toW P.2 e).repD P.1) fun p hp=>(ioR P.2 e hp).2.at rfl (toW P.2 e)
     | true =>
      intro hm σ' v H' W' fr sub P;obtain ⟨q,rfl,hq,hn,hO,R⟩:=P
      have hq0:H q=none:=by
       rcases hq with z | z
       ·cases hk:io with
        | none=>rw [hno hk] at z;cases z
        | some k =>
         obtain ⟨p,d',_,_,q3,_⟩:=hio k hk;rw [q3] at z;have:q=p:=CF.mp z;subst this;exact absurd (Cg _ (ioR R e q3).1) hn
       ·exact z
      have cs:ac (hid (q::(W'++Z)) H') (hid (q::(W++Z)) H'):=aR (fun b hb=> .inl (by
       rcases List.mem_cons.mp hb with z | z
       ·rw [z];exact Ck
       ·exact Ce _ (wsub R e b z))) fun b o _ z=>z
      refine hm q H' fr hq0 (hO.at rfl cs) fun p hp=> ?_
      obtain ⟨m1,m2⟩:=ioR R e hp
      have pq:p≠q:=fun z=>by subst z;exact hn (Cg _ m1)
      refine m2.at (aJ (by simpa using pq)).symm fun b o z=> ?_
      obtain ⟨z1,z2⟩:=ao z;obtain ⟨z3,z4⟩:=ao z2
      rw [aJ (fun y=>by
       rcases List.mem_cons.mp y with y | y
       ·exact z3 (by simpa using y)
       ·exact z1 (wsub R e b y))]
      exact z4
theorem fn_ok{P:Program}{w:World}{K:EG}{mg:Str->Option Value}{base:Heap}{x:Str}{st:Stmt}{N ps:List Str}{k:Nat}{io:Option Nat}{body:SS}(h:Has K mg x st ps)(S:cR N ps (aa st))
 (hb:∀ (f:Addr) (cdv:Value) (A:Around) (outer:List Env) (s:Shared) (H:Hp) (E:XK),cf k (A.deeper (envOfC x (aa st) s.heap.objs.size f cdv)) ->
   JSs (bN (CXr P w) P w K mg base N x (aa st) f cdv A outer s H E) (EXf K E) (bA st) body) (hps:ps.length<=N.length:=by decide):OkX P w K mg base x ps (k+1) (spF K io (ai ps.length N.length io body)):=by
 obtain ⟨f,fd,F,hm,hb'⟩:=h.ex;exact ⟨f,fd,hm,F.kp,hb',yH F S hb hps⟩
section
variable{K:EG}{F:Fx}{EX:EXT}{σ:St}{H H2:Hp}{ρ:Rho}{W:List Addr}
theorem Rel.wrote(R:Rel K F σ H ρ W){i:Nat}{d d':D}{m:Md}{p:Addr}(h:ρ[i]?=some (some (d,m)))(hm:m ≠ .fz)(hp:σ[i]?=some (some (.ref p)))(fr:Fr [p] H H2)(new:aI K H2 (hid (W++F.Z) H2) p d') :
 Rel K F σ H2 (ρ.set i (some (d',m))) W:=by
 obtain ⟨v,hv,hS⟩:=R.slot i d m h;rw [hp] at hv;cases hv
 have hw:p∈W:=by
  cases m with
  | fz=>exact absurd rfl hm
  | ow=>obtain ⟨r,e2,e3,_⟩:=hS;cases e2;exact e3
  | io=>obtain ⟨r,e2,e3,_⟩:=hS;cases e2;exact e3
 have sh:ac (hid (W++F.Z) H) (hid (W++F.Z) H2):=aR (fun b hb=> .inl hb) fun b o n e=>fr.keep b o (fun z=>n (by rw [CF.mp z];exact Cg _ hw)) e
 have eq:∀ r,r≠p->eO (H r)->H2 r=H r:=fun r hr hM=>by
  obtain ⟨u,q⟩:=hM.some;rw [q];exact fr.keep r u (by simpa using hr) q
 refine ⟨fun j e n hj=> ?_,fun j k e f n n' r h1 h2 h3 h4 h5 h6=> ?_,R.wz,fun r hr=> ?_,by rw [Da];exact R.len⟩
 ·rcases aW hj with ⟨rfl,e1⟩ | ⟨ne,e1⟩
  ·cases e1
   refine ⟨_,hp,?_⟩
   cases m with
   | fz=>exact absurd rfl hm
   | ow=>exact ⟨p,rfl,hw,new⟩
   | io=>obtain ⟨r,e2,e3,e4,e5⟩:=hS;cases e2;exact ⟨p,rfl,hw,new,e5⟩
  ·obtain ⟨v,g1,g2⟩:=R.slot j e n e1
   refine ⟨v,g1,?_⟩
   have other:∀ r,v = .ref r->n ≠ .fz->r≠p:=fun r er hn z=>by
    subst er z;exact ne (R.apart j i _ _ _ _ _ e1 hn h hm g1 hp)
   cases n with
   | fz=>exact sh.repD g2
   | ow=>obtain ⟨r,e2,e3,e4⟩:=g2;exact ⟨r,e2,e3,e4.at (eq r (other r e2 (by decide)) e4.mu) sh⟩
   | io=>obtain ⟨r,e2,e3,e4,e5⟩:=g2;exact ⟨r,e2,e3,e4.at (eq r (other r e2 (by decide)) e4.mu) sh,e5⟩
 ·have fnd:∀ {j:Nat} {e:D} {n:Md},(ρ.set i (some (d',m)))[j]?=some (some (e,n))->n ≠ .fz->∃ e',ρ[j]?=some (some (e',n)):=fun {j e n} hj hn=>by
   rcases aW hj with ⟨rfl,e1⟩ | ⟨_,e1⟩
   ·cases e1;exact ⟨d,h⟩
   ·exact ⟨_,e1⟩
  obtain ⟨_,z1⟩:=fnd h1 h2;obtain ⟨_,z2⟩:=fnd h3 h4;exact R.apart j k _ _ _ _ _ z1 h2 z2 h4 h5 h6
 ·by_cases e:r=p
  ·subst e;exact new.mu
  ·rw [eq r e (R.mt r hr)];exact R.mt r hr
variable(K F σ H ρ W) in
def ArgR:Arg->D->V->Prop
 | .ex _,d,v=>aF K (hid (W++F.Z) H) d v
 | .bor i,d,v=>σ[i]?=some (some v)/\∃ m,ρ[i]?=some (some (d,m))
variable(K F σ H ρ W) in
def fj:List Arg->List D->List V->Prop
 | [],[],[]=>True
 | a::as,d::ds,v::vs=>ArgR K F σ H ρ W a d v/\fj as ds vs
 | _,_,_=>False
theorem fj.len:∀ {as:List Arg} {ds:List D} {vs:List V},fj K F σ H ρ W as ds vs->vs.length=ds.length
 | [],[],[],_=>rfl
 | _::_,_::_,_::_,h=>by rw [Cc,Cc,fj.len h.2]
 | [],_::_,_,h=>h.elim
 | [],[],_::_,h=>h.elim
 | _::_,[],_,h=>h.elim
 | _::_,_::_,[],h=>h.elim
theorem fj.get:∀ {as:List Arg} {ds:List D} {vs:List V} {j:Nat} {d:D} {v:V},fj K F σ H ρ W as ds vs->ds[j]?=some d->vs[j]?=some v->∃ a,as[j]?=some a/\ArgR K F σ H ρ W a d v
 | a::_,_::_,_::_,0,d,v,h,e1,e2=>by
  simp only [Cz,Option.some.injEq] at e1 e2;subst e1 e2;exact ⟨a,rfl,h.1⟩
 | _::_,_::_,_::_,j+1,d,v,h,e1,e2=>by
  simp only [CB] at e1 e2 ⊢;exact fj.get h.2 e1 e2
 | [],[],[],_,_,_,_,e,_=>by simp at e
 | [],_::_,_,_,_,_,h,_,_=>h.elim
 | [],[],_::_,_,_,_,h,_,_=>h.elim
 | _::_,[],_,_,_,_,h,_,_=>h.elim
 | _::_,_::_,[],_,_,_,h,_,_=>h.elim
theorem fj.at:∀ {as:List Arg} {ds:List D} {vs:List V} {j:Nat} {a:Arg},fj K F σ H ρ W as ds vs->as[j]?=some a->∃ d v,ds[j]?=some d/\vs[j]?=some v/\ArgR K F σ H ρ W a d v
 | a::_,d::_,v::_,0,b,h,e1=>by
  simp only [Cz,Option.some.injEq] at e1;subst e1;exact ⟨d,v,rfl,rfl,h.1⟩
 | _::_,_::_,_::_,j+1,a,h,e1=>by
  simp only [CB] at e1 ⊢;exact fj.at h.2 e1
 | [],[],[],_,_,_,e=>by simp at e
 | [],_::_,_,_,_,h,_=>h.elim
 | [],[],_::_,_,_,h,_=>h.elim
 | _::_,[],_,_,_,h,_=>h.elim
 | _::_,_::_,[],_,_,h,_=>h.elim
variable(K F EX) in
def OkA2(σ:St)(H:Hp)(W:List Addr)(as:List Arg)(o:Option (pU×Rho))(Q:List V->Hp->Prop):Prop:=match o with
 | some (.ok ds,ρ')=>∀ vs H' W',Fr W H H'->(∀ p∈W',p∈W)->Rel K F σ H' ρ' W'->fj K F σ H' ρ' W' as ds vs->Q vs H'
 | some (.ex C,ρ')=>∀ H' W',Fr W H H'->(∀ p∈W',p∈W)->Rel K F σ H' ρ' W'->EX C σ H'
 | none=>False
theorem t3:∀ (as:List Arg) {H:Hp} {ρ:Rho} {W:List Addr} {Q:List V->Hp->Prop},Rel K F σ H ρ W->OkA2 K F EX σ H W as (evA as ρ) Q->tAs K EX as σ H Q
 | [],H,ρ,W,Q,R,h=>h [] H W .refl (fun _ z=>z) R trivial
 | .ex f::as,H,ρ,W,Q,R,h=>by
  refine ⟨F,ρ,W,R,?_⟩;unfold evA at h
  revert h
  cases f ρ with
  | none=>exact fun h=>h
  | some r =>
   obtain ⟨r,ρ1⟩:=r
   cases r with
   | ex C=>exact fun h=>h
   | ok d nw =>
    intro h v H1 W1 fr sub post;obtain ⟨rd,R1⟩:=post.plain;refine t3 as R1 ?_
    revert h
    dsimp only
    cases evA as ρ1 with
    | none=>exact fun h=>h
    | some q =>
     obtain ⟨q,ρ2⟩:=q
     cases q with
     | ex C=>exact fun h H2 W2 fr2 sub2 R2=>h H2 W2 (fr.trans fr2 fun p hp=> .inl (sub p hp)) (fun p hp=>sub p (sub2 p hp)) R2
     | ok ds =>
      intro h vs H2 W2 fr2 sub2 R2 reps;exact h (v::vs) H2 W2 (fr.trans fr2 fun p hp=> .inl (sub p hp)) (fun p hp=>sub p (sub2 p hp)) R2 ⟨(fr2.hid fun p hp=> .inl (sub2 p hp)).repD rd,reps⟩
 | .bor i::as,H,ρ,W,Q,R,h=>by
  unfold evA at h
  revert h
  cases e:ρ[i]? with
  | none=>exact fun h=>h.elim
  | some z =>
   cases z with
   | none=>exact fun h=>h.elim
   | some dm =>
    obtain ⟨d0,m0⟩:=dm;obtain ⟨v,hv,_⟩:=R.slot i d0 m0 e;intro h;refine ⟨v,hv,t3 as R ?_⟩
    revert h
    dsimp only
    cases evA as ρ with
    | none=>exact fun h=>h
    | some q =>
     obtain ⟨q,ρ2⟩:=q
     cases q with
     | ex C=>exact fun h=>h
     | ok ds =>
      dsimp only
      cases e2:ρ2[i]? with
      | none=>exact fun h=>h.elim
      | some z =>
       cases z with
       | none=>exact fun h=>h.elim
       | some dm =>
        obtain ⟨d,m⟩:=dm;intro h vs H2 W2 fr2 sub2 R2 reps;exact h (v::vs) H2 W2 fr2 sub2 R2 ⟨⟨hv,m,e2⟩,reps⟩
end
structure jC(X:Cx)(EX:EXT):Prop where
 call:∀ {x:Str} {ps:List Str} {k:Nat} {sp:Sp} {e:Expr} {es:List Expr} {t:TA} {p pos:Pos} (h:OkX X.prog X.w X.K X.mg X.base x ps k sp) (hr:cf k X.A) (hg:Gl X x) (ha:PA X (e::es) t) (hdb:(x == ("__debug__" : Str))=false)
  (he:starEach (e::es) X.env=(false,eval e X.env)::starEach es X.env) (hpl:(backTo pos (starEach es X.env)).any (·.1)=false),PE X (.Call (.Name x p) (e::es) [] pos) (fun σ H Q=>t σ H fun vs H1=>sp vs H1 Q fun c _ H'=>∃ nm C,c = .ref C/\gE X.K nm C/\EX nm σ H')
def EXn:EXT:=fun _ _ _=>False
theorem mI{sp:Sp}{Q:VK}{E:XK}:(fun (vs:List V) H1=>sp (vs++[]) H1 Q E)=fun vs H1=>sp vs H1 Q E:=by
 funext vs H1
 rw [CU]
theorem tJ{X:Cx}:jC X EXn:=⟨fun {x ps k sp e es t p pos} h hr hg ha hdb he hpl=>by
 obtain ⟨f,fd,hm,hk,hb,F⟩:=h.ex
 refine (uq F hr hg hm hk hb .nil (E:=fun c _ H'=>∃ nm C,c=Value.ref C/\gE X.K nm C/\False) (fun _ _ _ _ _ _ _ hZ=>(by obtain ⟨_,_,_,_,_,_,_,_,_,_,_,_,_,_,z⟩:=hZ;exact z.elim)) ha hdb he hpl).by fun σ H Q h=> ?_
 unfold t9;rw [mI]
 exact h⟩
theorem tK{P:Program}{w:World}{K:EG}{mg:Str->Option Value}{base:Heap}{N:List Str}{qual:Str}{scope:Scope}{f:Addr}{cd:Value}{A:Around}{outer:List Env}{s:Shared}{H:Hp}{E:XK} :
 jC (bN (CXr P w) P w K mg base N qual scope f cd A outer s H E) (EXf K E):=⟨fun {x ps k sp e es t p pos} h hr hg ha hdb he hpl=>by
 obtain ⟨f',fd,hm,hk,hb,F⟩:=h.ex
 refine (uq (X:=bN (CXr P w) P w K mg base N qual scope f cd A outer s H E) F hr hg hm hk hb .nil (E:=fun c _ H'=>∃ nm C,c=Value.ref C/\gE K nm C/\∀ C',gE K nm C'->∀ x,E (.ref C') x H') (xE fun c d H' z=>by obtain ⟨nm,C,rfl,hc,z⟩:=z;exact z C hc d) ha hdb he hpl).by fun σ H Q h=> ?_
 unfold t9;rw [mI]
 exact h⟩
theorem tH{X:Cx}{pn:List (Addr×Obj)}{EX:EXT}:jC (qa X pn fun c σ H=>∃ nm C,c = .ref C/\gE X.K nm C/\EX nm σ H) EX:=⟨fun {x ps k sp e es t p pos} h hr hg ha hdb he hpl=>xB h hr hg ha hdb he hpl⟩
def bT(io:Option Nat):Nat->List Arg->Rho->Bool
 | _,[],_=>true
 | j,.ex _::as,ρ=>bT io (j+1) as ρ
 | j,.bor i::as,ρ=>(if io=some j then true else match ρ[i]? with
  | some (some (_,.fz))=>true
  | _=>false)&&bT io (j+1) as ρ
def gG(i k:Nat):Nat->List Arg->Bool
 | _,[]=>true
 | j,.ex _::as=>gG i k (j+1) as
 | j,.bor i'::as=>(decide (j=k)||decide (i'≠i))&&gG i k (j+1) as
def ioOk(io:Option Nat)(as:List Arg)(slot:Option Nat):Bool:=match io,slot with
 | none,none=>true
 | some k,some i=>(match as[k]? with
  | some (.bor i')=>decide (i'=i)
  | _=>false)&&gG i k 0 as
 | _,_=>false
def dN(slot:Option Nat)(dio:D)(ρ:Rho):Option Rho:=match slot with
 | none=>some ρ
 | some i=>match ρ[i]? with
  | some (some (_,.ow))=>some (ρ.set i (some (dio,.ow)))
  | some (some (_,.io))=>some (ρ.set i (some (dio,.io)))
  | _=>none
def ig(d:D)(nw:Bool):Bool:=if nw then bX d else dU d
def af(io slot:Option Nat)(run:FS)(as:List Arg):SE:=fun ρ=>match evA as ρ with
 | some (.ok ds,ρ1)=>match run ds with
  | some (.ok d nw,dio)=>if (bT io 0 as ρ1||(ig d nw&&(io.isNone||bX dio)))=true then
   match dN slot dio ρ1 with
   | some ρ2=>some (.ok d nw,ρ2)
   | none=>none
   else none
  | some (.ex C,dio)=>if (bT io 0 as ρ1||(io.isNone||bX dio))=true then
   match dN slot dio ρ1 with
   | some ρ2=>some (.ex C,ρ2)
   | none=>none
   else none
  | none=>none
 | some (.ex C,ρ')=>some (.ex C,ρ')
 | none=>none
theorem gR{io:Option Nat}{ρ:Rho}:∀ {as:List Arg} {j n:Nat} {i:Nat},bT io n as ρ=true->as[j]?=some (.bor i)->io≠some (n+j)->∃ d,ρ[i]?=some (some (d,.fz))
 | [],j,n,i,h,e,_=>by simp at e
 | .ex _::as,0,n,i,h,e,_=>by simp at e
 | .bor i'::as,0,n,i,h,e,ne=>by
  simp only [Cz,Option.some.injEq,Arg.bor.injEq] at e;subst e;unfold bT at h;have h:=((Cv _ _).mp h).1;rw [if_neg (by simpa using ne)] at h
  split at h
  ·exact ⟨_,by assumption⟩
  ·cases h
 | .ex _::as,j+1,n,i,h,e,ne=>by
  unfold bT at h;exact gR (j:=j) (n:=n+1) h (by simpa using e) (by rw [show n+1+j=n+(j+1) by omega];exact ne)
 | .bor _::as,j+1,n,i,h,e,ne=>by
  unfold bT at h;exact gR (j:=j) (n:=n+1) ((Cv _ _).mp h).2 (by simpa using e) (by rw [show n+1+j=n+(j+1) by omega];exact ne)
theorem iS{i k:Nat}:∀ {as:List Arg} {j n:Nat} {i':Nat},gG i k n as=true->as[j]?=some (.bor i')->n+j≠k->i'≠i
 | [],j,n,i',h,e,_=>by simp at e
 | .ex _::as,0,n,i',h,e,_=>by simp at e
 | .bor i2::as,0,n,i',h,e,ne=>by
  simp only [Cz,Option.some.injEq,Arg.bor.injEq] at e;subst e;unfold gG at h;have h:=((Cv _ _).mp h).1
  rcases (Dz _ _).mp h with z | z
  ·exact absurd (by simpa using Cn z) ne
  ·exact Cn z
 | .ex _::as,j+1,n,i',h,e,ne=>by
  unfold gG at h;exact iS (j:=j) (n:=n+1) h (by simpa using e) (by omega)
 | .bor _::as,j+1,n,i',h,e,ne=>by
  unfold gG at h;exact iS (j:=j) (n:=n+1) ((Cv _ _).mp h).2 (by simpa using e) (by omega)
section
variable{K:EG}{F:Fx}{σ:St}{H:Hp}{ρ:Rho}{W:List Addr}
theorem Bh{io slot:Option Nat}{as:List Arg}{ds:List D}{vs:List V}{dio:D}{ρ2:Rho}(R:Rel K F σ H ρ W)(A:fj K F σ H ρ W as ds vs)(hio:ioOk io as slot=true)(hput:dN slot dio ρ=some ρ2) :
 ∃ Wc Zc,(∀ p∈Wc,p∉Zc)/\(∀ b,b∈Wc++Zc->b∈W++F.Z)/\(∀ p∈Wc,p∈W)/\(bT io 0 as ρ=true->∀ b,b∈W++F.Z->b∈Wc++Zc) /\
  (∀ (j:Nat) (d:D) (v:V),io≠some j->ds[j]?=some d->vs[j]?=some v->aF K (hid (Wc++Zc) H) d v) /\
  (∀ k,io=some k->∃ p d,vs[k]?=some (V.ref p)/\ds[k]?=some d/\Wc=[p]/\aI K H (hid (Wc++Zc) H) p d)/\(io=none->Wc=[]) /\
  ∀ H2,Fr Wc H H2->(∀ p,Wc=[p]->aI K H2 (hid (W++F.Z) H2) p dio)->Rel K F σ H2 ρ2 W:=by
 cases io with
 | none =>
  cases slot with
  | some i=>cases hio
  | none =>
   cases hput
   have fin:∀ H2,Fr [] H H2->Rel K F σ H2 ρ W:=fun H2 fr=>R.same fun b o e=>fr.keep b o (by simp) e
   by_cases hn:bT none 0 as ρ=true
   ·refine ⟨[],W++F.Z,fun p hp=>by simp at hp,fun b hb=>by simpa using hb,fun p hp=>by simp at hp,fun _ b hb=>by simpa using hb,fun j d v _ e1 e2=> ?_,fun k z=>(by cases z),fun _=>rfl,fun H2 fr _=>fin H2 fr⟩
    obtain ⟨a,ea,ra⟩:=A.get e1 e2
    cases a with
    | ex f=>exact ra
    | bor i =>
     obtain ⟨d',hd'⟩:=gR hn ea (by simp);obtain ⟨q1,m,q2⟩:=ra;rw [hd'] at q2;cases q2;obtain ⟨v',q3,q4⟩:=R.slot i _ _ hd';rw [q1] at q3;cases q3;exact q4
   ·refine ⟨[],F.Z,fun p hp=>by simp at hp,fun b hb=>Ch _ (by simpa using hb),fun p hp=>by simp at hp,fun z=>absurd z hn,fun j d v _ e1 e2=> ?_,fun k z=>(by cases z),fun _=>rfl,fun H2 fr _=>fin H2 fr⟩
    have sh:ac (hid (W++F.Z) H) (hid ([]++F.Z) H):=aR (fun b hb=> .inl (Ch _ (by simpa using hb))) fun b o _ e=>e
    obtain ⟨a,ea,ra⟩:=A.get e1 e2
    cases a with
    | ex f=>exact sh.repD ra
    | bor i =>
     obtain ⟨q1,m,q2⟩:=ra;obtain ⟨v',q3,q4⟩:=R.slot i _ _ q2;rw [q1] at q3;cases q3
     cases m with
     | fz=>exact sh.repD q4
     | ow=>obtain ⟨p,rfl,hp,hO⟩:=q4;exact hO.rep (aJ (by simpa using R.wz p hp)) sh
     | io=>obtain ⟨p,rfl,hp,hO,_⟩:=q4;exact hO.rep (aJ (by simpa using R.wz p hp)) sh
 | some k =>
  cases slot with
  | none=>cases hio
  | some i =>
   have hio:((match as[k]? with
    | some (.bor i')=>decide (i'=i)
    | _=>false)&&gG i k 0 as)=true:=hio
   obtain ⟨h1,hap⟩:=(Cv _ _).mp hio
   have hk:as[k]?=some (.bor i):=by
    split at h1
    ·rename_i i' e
     rw [e,Cn h1]
    ·cases h1
   have hm:∃ d0 m,ρ[i]?=some (some (d0,m))/\m ≠ .fz/\ρ2=ρ.set i (some (dio,m)):=by
    unfold dN at hput;dsimp only at hput
    split at hput
    ·rename_i d0 e;cases hput;exact ⟨d0,_,e,by decide,rfl⟩
    ·rename_i d0 e;cases hput;exact ⟨d0,_,e,by decide,rfl⟩
    ·cases hput
   obtain ⟨d0,m,e0,hmf,rfl⟩:=hm;obtain ⟨v0,g1,g2⟩:=R.slot i d0 m e0
   have own:∃ p,v0 = .ref p/\p∈W/\aI K H (hid (W++F.Z) H) p d0:=by
    cases m with
    | fz=>exact absurd rfl hmf
    | ow=>exact g2
    | io=>obtain ⟨p,z1,z2,z3,_⟩:=g2;exact ⟨p,z1,z2,z3⟩
   obtain ⟨p,rfl,hpW,hO⟩:=own;obtain ⟨dk,vk,f1,f2,f3,mk,f4⟩:=A.at hk;rw [g1] at f3;cases f3;rw [e0] at f4;cases f4
   have fin:∀ H2,Fr [p] H H2->(∀ q,[p]=[q]->aI K H2 (hid (W++F.Z) H2) q dio)->Rel K F σ H2 (ρ.set i (some (dio,m))) W:=fun H2 fr new=>R.wrote e0 hmf g1 fr (new p rfl)
   have oth:∀ (j:Nat) (i':Nat) (d:D) (v:V) (m':Md),some k≠some j->as[j]?=some (.bor i')->σ[i']?=some (some v)->ρ[i']?=some (some (d,m'))->m' ≠ .fz->v ≠ .ref p:=fun j i' d v m' ne ea q1 q2 hm' z=>by
    have ni:i'≠i:=iS hap ea (fun z=>ne (by rw [<- z,C3]));subst z;exact ni (R.apart i' i _ _ _ _ _ q2 hm' e0 hmf q1 g1)
   by_cases hn:bT (some k) 0 as ρ=true
   ·have m1:∀ b,b∈[p]++(W.filter (fun a=>decide (a≠p))++F.Z)->b∈W++F.Z:=fun b hb=>by
     rcases CI.mp hb with z | z
     ·rw [CF.mp z];exact Cg _ hpW
     ·rcases CI.mp z with z | z
      ·exact Cg _ (C5.mp z).1
      ·exact Ch _ z
    have m2:∀ b,b∈W++F.Z->b∈[p]++(W.filter (fun a=>decide (a≠p))++F.Z):=fun b hb=>by
     by_cases z:b=p
     ·rw [z];exact Cg _ (CF.mpr rfl)
     ·refine Ch _ ?_
      rcases CI.mp hb with y | y
      ·exact Cg _ (C5.mpr ⟨y,Cr z⟩)
      ·exact Ch _ y
    have sh:ac (hid (W++F.Z) H) (hid ([p]++(W.filter (fun a=>decide (a≠p))++F.Z)) H):=aR (fun b hb=> .inl (m1 b hb)) fun b o _ e=>e
    refine ⟨[p],W.filter (fun a=>decide (a≠p))++F.Z,fun q hq z=> ?_,m1,fun q hq=>by rw [CF.mp hq];exact hpW,fun _=>m2,fun j d v ne e1 e2=> ?_,fun k' z=> ?_,fun z=>(by cases z),fin⟩
    ·rw [CF.mp hq] at z
     rcases CI.mp z with y | y
     ·exact absurd rfl (Cn (C5.mp y).2)
     ·exact R.wz p hpW y
    ·obtain ⟨a,ea,ra⟩:=A.get e1 e2
     cases a with
     | ex f=>exact sh.repD ra
     | bor i' =>
      obtain ⟨d',hd'⟩:=gR hn ea (by rw [C3];exact ne);obtain ⟨q1,m',q2⟩:=ra;rw [hd'] at q2;cases q2;obtain ⟨v',q3,q4⟩:=R.slot i' _ _ hd';rw [q1] at q3;cases q3;exact sh.repD q4
    ·cases z
     exact ⟨p,_,f2,f1,rfl,hO.at rfl sh⟩
   ·have m1:∀ b,b∈[p]++F.Z->b∈W++F.Z:=fun b hb=>by
     rcases CI.mp hb with z | z
     ·rw [CF.mp z];exact Cg _ hpW
     ·exact Ch _ z
    have sh:ac (hid (W++F.Z) H) (hid ([p]++F.Z) H):=aR (fun b hb=> .inl (m1 b hb)) fun b o _ e=>e
    refine ⟨[p],F.Z,fun q hq z=>by rw [CF.mp hq] at z;exact R.wz p hpW z,m1,fun q hq=>by rw [CF.mp hq];exact hpW,fun z=>absurd z hn,fun j d v ne e1 e2=> ?_,fun k' z=> ?_,fun z=>(by cases z),fin⟩
    ·obtain ⟨a,ea,ra⟩:=A.get e1 e2
     cases a with
     | ex f=>exact sh.repD ra
     | bor i' =>
      obtain ⟨q1,m',q2⟩:=ra;obtain ⟨v',q3,q4⟩:=R.slot i' _ _ q2;rw [q1] at q3;cases q3
      have out:∀ r,v = .ref r->m' ≠ .fz->r∈W->r∉[p]++F.Z:=fun r er hm' hr z=>by
       rcases CI.mp z with y | y
       ·rw [CF.mp y] at er
        exact oth j i' _ _ _ ne ea q1 q2 hm' er
       ·exact R.wz r hr y
      cases m' with
      | fz=>exact sh.repD q4
      | ow=>obtain ⟨r,rfl,hr,hO'⟩:=q4;exact hO'.rep (aJ (out r rfl (by decide) hr)) sh
      | io=>obtain ⟨r,rfl,hr,hO',_⟩:=q4;exact hO'.rep (aJ (out r rfl (by decide) hr)) sh
    ·cases z
     exact ⟨p,_,f2,f1,rfl,hO.at rfl sh⟩
end
section
variable{X:Cx}{EX:EXT}{e:Expr}{es:List Expr}{as:List Arg}
theorem lr{L L':List Addr}{H:Hp}(h:∀ b,b∈L'->b∈L):ac (hid L H) (hid L' H):=aR (fun b hb=> .inl (h b hb)) fun b o _ e=>e
theorem tW{x:Str}{ps:List Str}{k k':Nat}{io slot:Option Nat}{run:FS}{p pos:Pos}(C:jC X EX)(h:OkX X.prog X.w X.K X.mg X.base x ps k (spF X.K io run))(hr:cf k' X.A)(hk:k<=k')(hg:Gl X x)(ha:JA X EX (e::es) as)
 (hio:ioOk io as slot=true:=by rfl) (hdb:(x == ("__debug__" : Str))=false:=by decide) (he:starEach (e::es) X.env=(false,eval e X.env)::starEach es X.env:=by rfl) (hpl:(backTo pos (starEach es X.env)).any (·.1)=false:=by rfl) :
 JE X EX (.Call (.Name x p) (e::es) [] pos) (af io slot run as) :=
 ⟨(C.call h (hr.mono hk) hg ha.p hdb he hpl).by fun σ H Q ⟨F,ρ,W,R,h⟩=>by
   refine t3 as R ?_;unfold af at h
   revert h
   cases evA as ρ with
   | none=>exact fun h=>h
   | some q =>
    obtain ⟨q,ρ1⟩:=q
    cases q with
    | ex C=>exact fun h=>h
    | ok ds =>
     dsimp only
     cases er:run ds with
     | none=>exact fun h=>h.elim
     | some r =>
      obtain ⟨r,dio⟩:=r
      have key:∀ {ρ2:Rho} {vs:List V} {H1:Hp} {W1:List Addr} (b:Bool),Rel X.K F σ H1 ρ1 W1->fj X.K F σ H1 ρ1 W1 as ds vs->dN slot dio ρ1=some ρ2->(bT io 0 as ρ1||(b&&(io.isNone||bX dio)))=true ->
       ∃ Wc Zc,(∀ p∈Wc,p∉Zc)/\(∀ p∈Wc++Zc,eO (H1 p))/\(∀ p∈Wc,p∈W1) /\
        (∀ (j:Nat) (d:D) (v:V),io≠some j->ds[j]?=some d->vs[j]?=some v->aF X.K (hid (Wc++Zc) H1) d v) /\
        (∀ k,io=some k->∃ p d,vs[k]?=some (V.ref p)/\ds[k]?=some d/\Wc=[p]/\aI X.K H1 (hid (Wc++Zc) H1) p d)/\(io=none->Wc=[]) /\
        ∀ H2 Q',Fr Wc H1 H2->(∀ b,b∈Q'->H1 b=none)->(∀ p,Wc=[p]->aI X.K H2 (hid (Q'++(Wc++Zc)) H2) p dio) ->
         Rel X.K F σ (hid Q' H2) ρ2 W1/\(∀ p∈W1++F.Z,eO (H2 p))/\((∀ b,b∈W1++F.Z->b∈Wc++Zc)\/b=true):=fun {ρ2 vs H1 W1} b R1 A1 hput hc=>by
       obtain ⟨Wc,Zc,c1,c2,c3,c4,c5,c6,c7,c8⟩:=Bh R1 A1 hio hput;refine ⟨Wc,Zc,c1,fun p hp=>R1.mt p (c2 p hp),c3,c5,c6,c7,fun H2 Q' fr hQ own=> ?_⟩
       have wc1:∀ p∈Wc,Wc=[p]:=fun p hp=>by
        cases hz:io with
        | none=>rw [c7 hz] at hp;cases hp
        | some k =>
         obtain ⟨p',_,_,_,e,_⟩:=c6 k hz;rw [e] at hp ⊢;rw [CF.mp hp]
       have mt2:∀ p∈W1++F.Z,eO (H2 p):=fun p hp=>by
        by_cases z:p∈Wc
        ·exact (own p (wc1 p z)).mu
        ·obtain ⟨u,q⟩:=(R1.mt p hp).some
         rw [fr.keep p u z q,<- q];exact R1.mt p hp
       have qn:∀ p∈W1++F.Z,p∉Q':=fun p hp z=>by
        have:=R1.mt p hp;rw [hQ p z] at this;exact this
       have fr2:Fr Wc H1 (hid Q' H2):=⟨fun b o n e=>by
        rw [aJ (fun z=>by rw [hQ b z] at e;cases e)]
        exact fr.keep b o n e,fun b e=>by
        by_cases z:b∈Q'
        ·exact hQ b z
        ·rw [aJ z] at e;exact fr.dom b e⟩
       have or1:(∀ b,b∈W1++F.Z->b∈Wc++Zc)\/(b=true/\(io.isNone||bX dio)=true):=by
        rcases (Dz _ _).mp hc with z | z
        ·exact .inl (c4 z)
        ·exact .inr ((Cv _ _).mp z)
       refine ⟨c8 _ fr2 fun p hp=> ?_,mt2,or1.imp id (·.1)⟩;have hpW:p∈W1++F.Z:=Cg _ (c3 p (by rw [hp];exact CF.mpr rfl));have o1:=own p hp
       have sg:ac (hid (Q'++(W1++F.Z)) H2) (hid (W1++F.Z) (hid Q' H2)):=fun b o e=>by
        obtain ⟨z1,z2⟩:=ao e;rw [aJ (fun z=>z1 (Ch _ z)),aJ (fun z=>z1 (Cg _ z))];exact z2
       rcases or1 with z | ⟨_,z⟩
       ·refine o1.at (aJ (qn p hpW)) (ac.trans (lr fun b hb=> ?_) sg)
        rcases CI.mp hb with y | y
        ·exact Cg _ y
        ·exact Ch _ (z b y)
       ·have hf:bX dio=true:=by
         cases hz:io with
         | none=>rw [c7 hz] at hp;cases hp
         | some k=>rw [hz] at z;exact z
        have hnf:aI X.K H2 (hid (W1++F.Z) H2) p dio:=o1.flat mt2 hf
        have o2:aI X.K (hid Q' H2) (hid (Wc++Zc) (hid Q' H2)) p dio:=o1.at (aJ (qn p hpW)) fun b o e=>by
         obtain ⟨z1,z2⟩:=ao e;rw [aJ (fun z=>z1 (Ch _ z)),aJ (fun z=>z1 (Cg _ z))];exact z2
        exact o2.flat (fun p hp=>by rw [aJ (qn p hp)];exact mt2 p hp) hf
      cases r with
      | ex C =>
       dsimp only
       split
       ·rename_i hc
        cases ep:dN slot dio ρ1 with
        | none=>exact fun h=>h.elim
        | some ρ2 =>
         intro h vs H1 W1 fr1 sub1 R1 A1;obtain ⟨Wc,Zc,c1,c2,c3,c5,c6,c7,c8⟩:=key true R1 A1 ep (by simpa using hc);refine ⟨Zc,Wc,ds,A1.len,c1,c2,c5,c6,c7,?_⟩;rw [er];intro H2 fr2 own ca hca x;obtain ⟨R2,_,_⟩:=c8 H2 [] fr2 (fun b hb=>by simp at hb) own;exact ⟨C,ca,rfl,hca,h H2 W1 (fr1.trans fr2 fun p hp=> .inl (sub1 p (c3 p hp))) sub1 (R2.same aA)⟩
       ·exact fun h=>h.elim
      | ok d nw =>
       dsimp only
       split
       ·rename_i hc
        cases ep:dN slot dio ρ1 with
        | none=>exact fun h=>h.elim
        | some ρ2 =>
         intro h vs H1 W1 fr1 sub1 R1 A1;obtain ⟨Wc,Zc,c1,c2,c3,c5,c6,c7,c8⟩:=key (ig d nw) R1 A1 ep hc;refine ⟨Zc,Wc,ds,A1.len,c1,c2,c5,c6,c7,?_⟩;rw [er]
         cases nw with
         | false =>
          intro v H2 fr2 rep own;obtain ⟨R2,mt2,z⟩:=c8 H2 [] fr2 (fun b hb=>by simp at hb) own;refine h v H2 W1 (fr1.trans fr2 fun p hp=> .inl (sub1 p (c3 p hp))) sub1 ⟨?_,R2.same aA⟩
          rcases z with z | z
          ·exact (lr z).repD rep
          ·exact aF.flat mt2 z rep
         | true =>
          intro q H2 fr2 hq hO own;obtain ⟨R2,mt2,z⟩:=c8 H2 [q] fr2 (fun b hb=>by rw [CF.mp hb];exact hq) own;refine h (.ref q) H2 W1 (fr1.trans fr2 fun p hp=> .inl (sub1 p (c3 p hp))) sub1 ⟨q,rfl,fr1.dom q hq,R1.fresh hq,?_,R2⟩
          rcases z with z | z
          ·refine hO.at rfl (lr fun b hb=> ?_)
           rcases List.mem_cons.mp hb with y | y
           ·rw [y];exact Ck
           ·exact Ce _ (z b y)
          ·refine hO.flat (fun p hp=> ?_) z
           rcases List.mem_cons.mp hp with y | y
           ·rw [y];exact hO.mu
           ·exact mt2 p y
       ·exact fun h=>h.elim⟩
end
theorem PS.nox{X:Cx}{st:Stmt}{t:TS}(h:PS X.nox st t):PS X st t:=fun pins s σ H D I hw =>
 Dm (h pins s σ H D (I.wish _) hw) (fun _ _ q=>q.unwish) fun _ _ z=>False.elim z
abbrev SI:=Rho->Option (pU×Rho)
structure ItOk(K:EG)(L0:List Addr)(ds:List D)(J:It)(H0:Hp):Prop where
 go:∀ (H:Hp) (L:List Addr) (i:Nat) (d:D),ac (hid L0 H0) (hid L H)->(∀ p∈L,eO (H p))->ds[i]?=some d->J.go i H/\∀ x H',J.yld i H x H'->ac H H'/\aF K (hid L H') d x
 stop:∀ H,ac (hid L0 H0) H->J.stop ds.length H
 few:ds.length<=sizeLine
section
variable(K:EG)(F:Fx)(EX:EXT)(σ:St)(H:Hp)(W:List Addr)
def OkI(o:Option (pU×Rho))(R:It->Hp->Prop):Prop:=match o with
 | some (.ok ds,ρ')=>∀ J H' W',Fr W H H'->(∀ p∈W',p∈W)->Rel K F σ H' ρ' W'->ItOk K (W'++F.Z) ds J H'->R J H'
 | some (.ex C,ρ')=>∀ H' W',Fr W H H'->(∀ p∈W',p∈W)->Rel K F σ H' ρ' W'->EX C σ H'
 | none=>False
end
def tI(K:EG)(EX:EXT)(f:SI):TI:=fun σ H R=>∃ F ρ W,Rel K F σ H ρ W/\OkI K F EX σ H W (f ρ) R
structure JI(X:Cx)(EX:EXT)(tg iter:Expr)(f:SI):Prop where
 p:PI X tg iter (tI X.K EX f)
def bJ(T:Tg)(f:SS):List D->Rho->Option (Out×Rho)
 | [],ρ=>some (.nx,ρ)
 | d::ds,ρ=>match bF T d ρ with
  | none=>none
  | some ρ1=>match f ρ1 with
   | some (.nx,ρ2)=>bJ T f ds ρ2
   | some (.ct,ρ2)=>bJ T f ds ρ2
   | some (.bk,ρ2)=>some (.nx,ρ2)
   | some (.rt d nw,ρ2)=>some (.rt d nw,ρ2)
   | some (.ex _,_)=>none
   | none=>none
def eX(it:SI)(T:Tg)(f:SS):SS:=fun ρ=>match it ρ with
 | some (.ok ds,ρ1)=>bJ T f ds ρ1
 | some (.ex _,_)=>none
 | none=>none
section
variable{X:Cx}{EX:EXT}{tg iter c:Expr}{body:List Stmt}{pos:Pos}
theorem s_for{it:SI}{T:Tg}{f:SS}(hc:X.calm=true)(hi:JI X.nox EXn tg iter it)(hg:JG X.nox tg T)(hb:JSs X.nox EXn body f)(hs:∀ x,foldedSetIterable iter X.env x=pure x:=by intro _;rfl):JS X EX (.For tg iter body [] pos) (eX it T f) :=
 ⟨(PS.nox (ps_for (X:=X.nox) PassesOwn.never hc hi.p hg.p hb.p hs)).by fun D σ H ⟨F,ρ,W,R,h⟩=>⟨F,ρ,W,R,by
   unfold eX at h
   revert h
   cases it ρ with
   | none=>exact fun h=>h
   | some q =>
    obtain ⟨q,ρ1⟩:=q
    cases q with
    | ex C=>exact fun h=>h.elim
    | ok ds =>
     intro h J H1 W1 fr1 sub1 R1 ok;have h:OkS X.K F EX H W (bJ T f ds ρ1) D:=h
     refine ⟨fun i m σ H2=>m=ds.length - i/\i<=ds.length/\∃ ρ2 W2,Rel X.K F σ H2 ρ2 W2/\Fr W1 H1 H2/\(∀ p∈W2,p∈W1\/H1 p=none)/\OkS X.K F EX H2 W2 (bJ T f (ds.drop i) ρ2) D,
      ⟨ds.length,by simp,Ek _,ρ1,W1,R1,.refl,fun _ z=> .inl z,OkS.go h fr1 fun p hp=> .inl (sub1 p hp)⟩,?_⟩
     rintro i m σ2 H2 ⟨rfl,hi,ρ2,W2,R2,fr2,sub2,h2⟩
     by_cases hlt:i < ds.length
     ·have hd:ds.drop i=ds[i]::ds.drop (i+1):=List.drop_eq_getElem_cons hlt
      rw [hd] at h2;unfold bJ at h2;obtain ⟨g1,g2⟩:=ok.go H2 (W2++F.Z) i ds[i] (fr2.hid sub2) R2.mt (B8 hlt);refine .inr ⟨g1,fun σ3 H3=>ds.length - (i+1)=ds.length - (i+1)/\i+1<=ds.length/\∃ ρ3 W3,Rel X.K F σ3 H3 ρ3 W3/\Fr W1 H1 H3/\(∀ p∈W3,p∈W1\/H1 p=none)/\OkS X.K F EX H3 W3 (bJ T f (ds.drop (i+1)) ρ3) D,fun σ3 H3 z=>⟨_,by omega,z⟩,fun x H3 y=> ?_⟩;obtain ⟨s3,rx⟩:=g2 x H3 y
      revert h2
      cases ea:bF T ds[i] ρ2 with
      | none=>exact fun h=>h.elim
      | some ρ3 =>
       intro h2
       refine yq (n:=0) T (R2.same s3) rx ea fun σ4 _ R4=>⟨F,ρ3,W2,R4,?_⟩
       have fr3:Fr W1 H1 H3:=fr2.trans (s3.fr (W:=W2)) sub2
       have h3:OkS X.K F EX H3 W2 _ D:=OkS.go h2 (s3.fr (W:=W2)) fun p hp=> .inl hp
       have sub3:∀ {W4:List Addr},(∀ p∈W4,p∈W2\/H3 p=none)->∀ p∈W4,p∈W1\/H1 p=none:=fun {W4} s p hp=>(s p hp).elim (sub2 p) fun z=> .inr (fr3.dom p z)
       revert h3
       dsimp only
       cases f ρ3 with
       | none=>exact fun h=>h
       | some q =>
        obtain ⟨q,ρ4⟩:=q
        cases q with
        | nx=>exact fun h3 σ5 H5 W5 fr5 sub5 R5=>⟨rfl,hlt,ρ4,W5,R5,fr3.trans fr5 sub2,sub3 sub5,OkS.go h3 fr5 sub5⟩
        | ct=>exact fun h3 σ5 H5 W5 fr5 sub5 R5=>⟨rfl,hlt,ρ4,W5,R5,fr3.trans fr5 sub2,sub3 sub5,OkS.go h3 fr5 sub5⟩
        | bk=>exact fun h3=>h3
        | ex C=>exact fun h3=>h3.elim
        | rt d nw=>exact fun h3=>h3
     ·have e:i=ds.length:=by omega
      subst e;rw [List.drop_length] at h2
      exact .inl ⟨ok.stop H2 ((fr2.hid sub2).trans aA),h2 σ2 H2 W2 .refl (fun _ z=> .inl z) R2⟩⟩⟩
end
def evC(c:Option ST)(ρ:Rho):Option (wr×Rho):=match c with
 | none=>some (.ok true,ρ)
 | some c=>c ρ
def bq(k:Nat)(T:Tg)(c:Option ST)(f:SE):List D->Rho->Option (List D×Rho)
 | [],ρ=>some ([],ρ)
 | d::ds,ρ=>match bF T d (ρ++List.replicate k none) with
  | none=>none
  | some ρ1=>match evC c ρ1 with
   | some (.ok true,ρ2)=>match f ρ2 with
    | some (.ok y _,ρ3)=>match bq k T c f ds (ρ3.take ρ.length) with
     | some (ys,ρ4)=>some (y::ys,ρ4)
     | none=>none
    | some (.ex _,_)=>none
    | none=>none
   | some (.ok false,ρ2)=>bq k T c f ds (ρ2.take ρ.length)
   | some (.ex _,_)=>none
   | none=>none
def a8(k:Nat)(it:SI)(T:Tg)(c:Option ST)(f:SE):SE:=fun ρ=>match it ρ with
 | some (.ok ds,ρ1)=>if Tg.ge ρ1.length T=true then
  match bq k T c f ds ρ1 with
  | some (ys,ρ2)=>some (.ok (.lst ys) true,ρ2)
  | none=>none
  else none
 | some (.ex C,ρ1)=>some (.ex C,ρ1)
 | none=>none
def tIfC(K:EG)(c:Option ST):TT:=match c with
 | none=>Bz
 | some c=>tVT K EXn c
section
variable{K:EG}{F:Fx}{EX:EXT}{σ:St}{H:Hp}{ρ:Rho}{W:List Addr}
theorem Rel.ext(R:Rel K F σ H ρ W)(k:Nat):Rel K F (σ++List.replicate k none) H (ρ++List.replicate k none) W:=by
 have old:∀ {i:Nat} {d:D} {m:Md},(ρ++List.replicate k none)[i]?=some (some (d,m))->ρ[i]?=some (some (d,m))/\i < ρ.length:=fun {i d m} h=>by
  by_cases hi:i < ρ.length
  ·rw [CA hi] at h
   exact ⟨h,hi⟩
  ·rw [CZ (by omega),DN] at h
   split at h<;>cases h
 refine ⟨fun i d m h=> ?_,fun i j d e m n p h1 h2 h3 h4 h5 h6=> ?_,R.wz,R.mt,by rw [Ct,Ct,Dg,Dg,R.len]⟩
 ·obtain ⟨h,hi⟩:=old h
  obtain ⟨v,g1,g2⟩:=R.slot i d m h;exact ⟨v,by rw [CA (by rw [R.len];exact hi)];exact g1,g2⟩
 ·obtain ⟨h1,i1⟩:=old h1
  obtain ⟨h3,i3⟩:=old h3;rw [CA (by rw [R.len];exact i1)] at h5;rw [CA (by rw [R.len];exact i3)] at h6;exact R.apart i j _ _ _ _ _ h1 h2 h3 h4 h5 h6
theorem Rel.cut{σ2:St}(R:Rel K F σ2 H ρ W)(h:σ2.take σ.length=σ)(hl:σ.length<=σ2.length):Rel K F σ H (ρ.take σ.length) W:=by
 have old:∀ {i:Nat} {d:D} {m:Md},(ρ.take σ.length)[i]?=some (some (d,m))->ρ[i]?=some (some (d,m))/\i < σ.length:=fun {i d m} h=>by
  rw [List.getElem?_take] at h
  split at h
  ·exact ⟨h,by assumption⟩
  ·cases h
 have eq:∀ {i:Nat},i < σ.length->σ2[i]?=σ[i]?:=fun {i} hi=>by
  have e:=List.getElem?_take_of_lt (l:=σ2) hi;rw [h] at e;exact e.symm
 refine ⟨fun i d m h=> ?_,fun i j d e m n p h1 h2 h3 h4 h5 h6=> ?_,R.wz,R.mt,by rw [DA,<- R.len];omega⟩
 ·obtain ⟨h,hi⟩:=old h
  obtain ⟨v,g1,g2⟩:=R.slot i d m h;exact ⟨v,by rw [<- eq hi];exact g1,g2⟩
 ·obtain ⟨h1,i1⟩:=old h1
  obtain ⟨h3,i3⟩:=old h3;rw [<- eq i1] at h5;rw [<- eq i3] at h6;exact R.apart i j _ _ _ _ _ h1 h2 h3 h4 h5 h6
theorem uO{k:Nat}{it:SI}{T:Tg}{c:Option ST}{f:SE}{Q:VK}(hw:tV K EX (a8 k it T c f) σ H Q):qk (tI K EX it) k (gT K T) (tIfC K c) (tV K EXn f) σ H Q:=by
 obtain ⟨F,ρ,W,R,h⟩:=hw;refine ⟨F,ρ,W,R,?_⟩;unfold a8 at h
 revert h
 cases it ρ with
 | none=>exact fun h=>h
 | some q =>
  obtain ⟨q,ρ1⟩:=q
  cases q with
  | ex C=>exact fun h=>h
  | ok ds =>
   dsimp only
   split
   ·rename_i hge
    cases es:bq k T c f ds ρ1 with
    | none=>exact fun h=>h.elim
    | some z =>
     obtain ⟨tot,ρe⟩:=z;intro h J H1 W1 fr1 sub1 R1 ok
     refine ⟨fun i m ys H2=>m=ds.length - i/\i<=ds.length/\∃ ρ2 W2 acc rest,Rel K F σ H2 ρ2 W2/\Fr W1 H1 H2/\(∀ p∈W2,p∈W1)/\ag K (hid (W2++F.Z) H2) acc ys/\acc.length<=i/\bq k T c f (ds.drop i) ρ2=some (rest,ρe)/\acc++rest=tot,
      ⟨ds.length,by simp,Ek _,ρ1,W1,[],tot,R1,.refl,fun _ z=>z,trivial,Ek _,es,rfl⟩,?_⟩
     rintro i m ys H2 ⟨rfl,hi,ρ2,W2,acc,rest,R2,fr2,sub2,rp,la,e2,et⟩
     have sub2':∀ p∈W2,p∈W1\/H1 p=none:=fun p hp=> .inl (sub2 p hp)
     have few:=ok.few;have ly:=rp.len;refine ⟨by omega,?_⟩
     by_cases hlt:i < ds.length
     ·have hd:ds.drop i=ds[i]::ds.drop (i+1):=List.drop_eq_getElem_cons hlt
      rw [hd] at e2;unfold bq at e2;obtain ⟨g1,g2⟩:=ok.go H2 (W2++F.Z) i ds[i] (fr2.hid sub2') R2.mt (B8 hlt);refine .inr ⟨g1,fun x H3 y=> ?_⟩;obtain ⟨s3,rx⟩:=g2 x H3 y
      cases ea:bF T ds[i] (ρ2++List.replicate k none) with
      | none=>rw [ea] at e2;cases e2
      | some ρ3 =>
       rw [ea] at e2;dsimp only at e2;have lenσ:σ.length=ρ1.length:=R1.len;have lenσ2:σ.length=ρ2.length:=R2.len
       refine yq (n:=σ.length) T ((R2.same s3).ext k) rx ea fun σ4 tk R4=> ?_
       have tk:=tk (by rw [lenσ];exact hge);rw [List.take_left] at tk
       have l4:σ.length<=σ4.length:=by
        have:=congrArg List.length tk;rw [DA] at this;omega
       refine ⟨tk,?_⟩;have fr3:Fr W1 H1 H3:=fr2.trans (s3.fr (W:=W2)) sub2'
       have rest:∀ b ρ4,evC c ρ3=some (.ok b,ρ4)->∀ H4 W4,Fr W2 H3 H4->(∀ p∈W4,p∈W2)->Rel K F σ4 H4 ρ4 W4 ->
        (if b=true then tV K EXn f σ4 H4 fun y H5=>∃ m',m' < ds.length - i/\(m'=ds.length - (i+1)/\i+1<=ds.length/\∃ ρ2 W2 acc rest,Rel K F σ H5 ρ2 W2/\Fr W1 H1 H5/\(∀ p∈W2,p∈W1)/\ag K (hid (W2++F.Z) H5) acc (ys++[y])/\acc.length<=i+1/\bq k T c f (ds.drop (i+1)) ρ2=some (rest,ρe)/\acc++rest=tot)
        else ∃ m',m' < ds.length - i/\(m'=ds.length - (i+1)/\i+1<=ds.length/\∃ ρ2 W2 acc rest,Rel K F σ H4 ρ2 W2/\Fr W1 H1 H4/\(∀ p∈W2,p∈W1)/\ag K (hid (W2++F.Z) H4) acc ys/\acc.length<=i+1/\bq k T c f (ds.drop (i+1)) ρ2=some (rest,ρe)/\acc++rest=tot)):=fun b ρ4 ec H4 W4 fr4 sub4 R4=>by
        rw [ec] at e2;have frA:Fr W1 H1 H4:=fr3.trans fr4 sub2';have sA:ac (hid (W2++F.Z) H2) (hid (W4++F.Z) H4):=ac.trans (aR (fun b hb=> .inl hb) fun b o _ e=>s3 b o e:ac (hid (W2++F.Z) H2) (hid (W2++F.Z) H3)) (fr4.hid fun p hp=> .inl (sub4 p hp))
        cases b with
        | false =>
         dsimp only at e2;rw [if_neg Cj];exact ⟨_,by omega,rfl,hlt,ρ4.take σ.length,W4,acc,_,R4.cut tk l4,frA,fun p hp=>sub2 p (sub4 p hp),sA.repDs rp,by omega,by rw [lenσ2];exact e2,et⟩
        | true =>
         dsimp only at e2;rw [if_pos rfl];refine ⟨F,ρ4,W4,R4,?_⟩
         cases ef:f ρ4 with
         | none=>rw [ef] at e2;cases e2
         | some q =>
          obtain ⟨q,ρ5⟩:=q;rw [ef] at e2
          cases q with
          | ex C=>cases e2
          | ok y nw =>
           dsimp only at e2
           cases e3:bq k T c f (ds.drop (i+1)) (ρ5.take ρ2.length) with
           | none=>rw [e3] at e2;cases e2
           | some z =>
            obtain ⟨rest',ρe'⟩:=z;rw [e3] at e2;cases e2;intro v H5 W5 fr5 sub5 P5;obtain ⟨rv,R5⟩:=P5.plain;refine ⟨_,by omega,rfl,hlt,ρ5.take σ.length,W5,acc++[y],rest',R5.cut tk l4,frA.trans fr5 fun p hp=> .inl (sub2 p (sub4 p hp)),fun p hp=>sub2 p (sub4 p (sub5 p hp)),ag.app ((fr5.hid fun p hp=> .inl (sub5 p hp)).repDs (sA.repDs rp)) ⟨rv,trivial⟩,?_,by rw [lenσ2];exact e3,?_⟩
            ·rw [Ct];simp;omega
            ·rw [<- et,DH];rfl
       cases c with
       | none=>exact rest true ρ3 rfl H3 W2 .refl (fun _ z=>z) R4
       | some c =>
        refine ⟨F,ρ3,W2,R4,?_⟩;have e2':=e2;unfold evC at e2';dsimp only at e2'
        cases ec:c ρ3 with
        | none=>rw [ec] at e2';cases e2'
        | some q =>
         obtain ⟨q,ρ4⟩:=q
         cases q with
         | ex C=>rw [ec] at e2';cases e2'
         | ok b=>exact fun H4 W4 fr4 sub4 R4=>rest b ρ4 ec H4 W4 fr4 sub4 R4
     ·have e:i=ds.length:=by omega
      subst e;rw [List.drop_length] at e2;have e2:some (([]:List D),ρ2)=some (rest,ρe):=e2;cases e2;rw [CU] at et;subst et;refine .inl ⟨ok.stop H2 ((fr2.hid sub2').trans aA),fun l hl=> ?_⟩;refine h (.ref l) _ W2 ((fr1.trans fr2 fun p hp=> .inl (sub1 p hp)).trans ((ac.upd hl).fr (W:=W2)) fun p hp=> .inl (sub1 p (sub2 p hp))) (fun p hp=>sub1 p (sub2 p hp)) ?_
      refine fP.back (fQ.e (nw:=true) ⟨l,rfl,hl,ys,aj,?_⟩ R2 (ac.upd hl)) fun b hb=>fr1.dom b (fr2.dom b hb)
      exact (aR (fun b hb=>(List.mem_cons.mp hb).elim (fun z=> .inr (by rw [z];exact hl)) .inl) fun b o _ e=>ac.upd hl b o e:ac (hid (W2++F.Z) H2) _).repDs rp
   ·exact fun h=>h.elim
end
inductive JC(X:Cx):List Expr->Option ST->Prop where
 | no:JC X [] none
 | one {c:Expr} {t:ST} (h:JT X EXn c t):JC X [c] (some t)
theorem JC.p{X:Cx}{ifs:List Expr}{c:Option ST}(h:JC X ifs c):wt X ifs (tIfC X.K c):=by
 cases h with
 | no=>exact pif0
 | one h=>exact pif1 h.p
section
variable{X:Cx}{EX:EXT}{elt tg iter:Expr}{ifs:List Expr}{sc:Scope}{M tgs:List Str}{pos:Pos}{it:SI}{T:Tg}{c:Option ST}{f:SE}
theorem bO(hc:X.calm=true)(B:mR X sc M tgs)(hi:JI X EX tg iter it)(hg:∀ cl C fp s H,JG (blk X sc cl C fp s H (M++tgs)) tg T)(ht:∀ cl C fp s H,JC (blk X sc cl C fp s H (M++tgs)) ifs c)(he:∀ cl C fp s H,JE (blk X sc cl C fp s H (M++tgs)) EXn elt f)
 (hs:∀ x,foldedSetIterable iter X.env x=pure x:=by intro _;rfl):JE X EX (.ListComp elt [⟨tg,iter,ifs,0⟩] sc pos) (a8 tgs.length it T c f) :=
 ⟨(Ay hc B hi.p (fun cl C fp s H=>(hg cl C fp s H).p) (fun cl C fp s H=>(ht cl C fp s H).p) (fun cl C fp s H=>(he cl C fp s H).p) hs).by fun σ H Q h=>uO h⟩
theorem u7{j:Nat}{y:Str}{py spos:Pos}(hc:X.calm=true)(B:mR X sc M tgs)(hi:JI X EX tg iter it)(hg:∀ cl C fp s H,JG (blk X sc cl C fp s H (M++tgs)) tg T)(ht:∀ cl C fp s H,JC (blk X sc cl C fp s H (M++tgs)) ifs c)(he:∀ cl C fp s H,JE (blk X sc cl C fp s H (M++tgs)) EXn elt f)
 (hN:X.N.Nodup) (hjy:X.N[j]?=some y) (hy:X.env.scope.names.lookup y=some .local) (hsw:swapsWith (.ListComp elt [⟨tg,iter,ifs,0⟩] sc pos) (some (.Name y py)) spos.line X.env=pure true:=by rfl)
 (hs:∀ x,foldedSetIterable iter X.env x=pure x:=by intro _;rfl):JS X EX (.Assign [.Name y py] (.ListComp elt [⟨tg,iter,ifs,0⟩] sc pos) spos) (a7 j (a8 tgs.length it T c f)) :=
 ⟨(sK hc B hi.p (fun cl C fp s H=>(hg cl C fp s H).p) (fun cl C fp s H=>(ht cl C fp s H).p) (fun cl C fp s H=>(he cl C fp s H).p) hN hjy hy hsw hs).by fun D σ H h=>uO (zf h)⟩
end
mutual
def nrm:D->D
 | .ktup ds=> .tup (bW ds)
 | .tup ds=> .tup (bW ds)
 | .klst ds=> .lst (bW ds)
 | .lst ds=> .lst (bW ds)
 | d=>d
def bW:List D->List D
 | []=>[]
 | d::ds=>nrm d::bW ds
end
mutual
def eqN:D->D->Bool
 | .non,.non=>true
 | .bl a,.bl b=>a == b
 | .bl a,.int b=>(if a then 1 else 0) == b
 | .int a,.bl b=>a == (if b then 1 else 0)
 | .int a,.int b=>a == b
 | .str a,.str b=>a == b
 | .tup a,.tup b=>fc a b
 | .lst a,.lst b=>fc a b
 | _,_=>false
def fc:List D->List D->Bool
 | [],[]=>true
 | a::as,b::bs=>eqN a b&&fc as bs
 | _,_=>false
end
def eqD(d e:D):Bool:=eqN (nrm d) (nrm e)
def ae:Nat->D->Bool
 | _,.non=>true
 | _,.bl _=>true
 | _,.int _=>true
 | _,.str _=>true
 | n+1,.tup ds=>ds.all (ae n)
 | n+1,.ktup ds=>ds.all (ae n)
 | n+1,.lst ds=>ds.all (ae n)
 | n+1,.klst ds=>ds.all (ae n)
 | _,_=>false
theorem l6:∀ {ds:List D},(bW ds).length=ds.length
 | []=>rfl
 | _::ds=>by unfold bW;rw [Cc,Cc,l6]
theorem dP:∀ {ds:List D} {j:Nat},(bW ds)[j]?=ds[j]?.map nrm
 | [],j=>by unfold bW;simp
 | d::ds,0=>by unfold bW;simp
 | d::ds,j+1=>by unfold bW;simp;exact dP
theorem my:∀ {as bs:List D},fc as bs=((List.range (min as.length bs.length)).all (fun j=>match as[j]?,bs[j]? with | some a,some b=>eqN a b | _,_=>true)&&as.length == bs.length)
 | [],[]=>rfl
 | [],b::bs=>by unfold fc;simp
 | a::as,[]=>by unfold fc;simp
 | a::as,b::bs=>by
  unfold fc;rw [my (as:=as) (bs:=bs)]
  have e1:min (a::as).length (b::bs).length=min as.length bs.length+1:=by simp only [Cc];omega
  have e2:((a::as).length == (b::bs).length)=(as.length == bs.length):=by simp
  rw [e1,e2,List.range_succ_eq_map,List.all_cons,List.all_map,Bool.and_assoc]
  congr 1
mutual
theorem jo:∀ (n:Nat) {d:D},ae n d=true->eqN (nrm d) (nrm d)=true
 | n,.non,_=>rfl
 | n,.bl _,_=>by unfold nrm eqN;simp
 | n,.int _,_=>by unfold nrm eqN;simp
 | n,.str _,_=>by unfold nrm eqN;simp
 | n+1,.tup ds,h=>by unfold nrm eqN;exact fb n (by unfold ae at h;exact h)
 | n+1,.ktup ds,h=>by unfold nrm eqN;exact fb n (by unfold ae at h;exact h)
 | n+1,.lst ds,h=>by unfold nrm eqN;exact fb n (by unfold ae at h;exact h)
 | n+1,.klst ds,h=>by unfold nrm eqN;exact fb n (by unfold ae at h;exact h)
 | 0,.tup _,h=>by unfold ae at h;cases h
 | 0,.ktup _,h=>by unfold ae at h;cases h
 | 0,.lst _,h=>by unfold ae at h;cases h
 | 0,.klst _,h=>by unfold ae at h;cases h
 | _,.dK _ _,h=>by unfold ae at h;cases h
 | _,.dT _ _,h=>by unfold ae at h;cases h
 | _,.set _,h=>by unfold ae at h;cases h
 | _,.rng _ _,h=>by unfold ae at h;cases h
 | _,.exc _,h=>by unfold ae at h;cases h
theorem fb:∀ (n:Nat) {ds:List D},ds.all (ae n)=true->fc (bW ds) (bW ds)=true
 | n,[],_=>rfl
 | n,d::ds,h=>by
  rw [List.all_cons] at h;have h:=(Cv _ _).mp h;unfold bW fc;rw [jo n h.1,fb n h.2];rfl
end
section
variable{X:Cx}{pins:List (Addr×Obj)}{σ:St}{H:Hp}{s:Shared}
inductive Vw(K:EG)(H:Hp)(s:Shared):Nat->D->V->Value->Prop where
 | non {n}:Vw K H s n .non .non .none
 | bl {n} (b:Bool):Vw K H s n (.bl b) (.bl b) (.bool b)
 | int {n} (i:Int) (t:Tok):Vw K H s n (.int i) (.int i) (.int i t)
 | str {n} (x:Str) (t:Tok):Vw K H s n (.str x) (.str x) (.str x t)
 | tu {n} {d:D} {ds:List D} {p:Addr} {xs:List V} {its:List Value} (hd:nrm d = .tup (bW ds)) (ht:s.heap.IsTuple p its.toArray) (hv:aw xs its) (hr:ag K H ds xs) (he:ds.all (ae n)=true):Vw K H s (n+1) d (.ref p) (.ref p)
 | li {n} {d:D} {ds:List D} {p:Addr} {xs:List V} {its:List Value} (hd:nrm d = .lst (bW ds)) (ht:s.heap.IsList p its.toArray) (hv:aw xs its) (hr:ag K H ds xs) (he:ds.all (ae n)=true):Vw K H s (n+1) d (.ref p) (.ref p)
theorem jU(I:Inv X pins σ H s){n:Nat}{d:D}{v:V}{u:Value}(he:ae n d=true)(r:aF X.K H d v)(ru:aD v u):Vw X.K H s n d v u:=by
 have z0:n=0\/∃ m,n=m+1:=by cases n with | zero=>exact .inl rfl | succ m=>exact .inr ⟨m,rfl⟩
 cases d with
 | non=>cases r;cases ru;exact .non
 | bl b=>cases r;cases ru;exact .bl b
 | int i=>cases r;obtain ⟨t,rfl⟩:=ru;exact .int i t
 | str x=>cases r;obtain ⟨t,rfl⟩:=ru;exact .str x t
 | tup ds =>
  obtain ⟨p,xs,rfl,h1,h2⟩:=r;cases ru
  rcases z0 with rfl | ⟨m,rfl⟩
  ·unfold ae at he;cases he
  ·obtain ⟨its,rv,pl,_⟩:=I.tuple (X:=X) (.inl (.inl h1))
   exact .tu (by unfold nrm;rfl) pl rv h2 (by unfold ae at he;exact he)
 | ktup ds =>
  obtain ⟨p,xs,rfl,h1,h2⟩:=r;cases ru
  rcases z0 with rfl | ⟨m,rfl⟩
  ·unfold ae at he;cases he
  ·obtain ⟨its,rv,pl,_⟩:=I.tuple (X:=X) (eA h1)
   exact .tu (by unfold nrm;rfl) pl rv h2 (by unfold ae at he;exact he)
 | lst ds =>
  obtain ⟨p,xs,rfl,h1,h2⟩:=r;cases ru
  rcases z0 with rfl | ⟨m,rfl⟩
  ·unfold ae at he;cases he
  ·obtain ⟨its,rv,pl,_⟩:=I.list (X:=X) (.inl (.inl h1))
   exact .li (by unfold nrm;rfl) pl.isList rv h2 (by unfold ae at he;exact he)
 | klst ds =>
  obtain ⟨p,xs,rfl,h1,h2⟩:=r;cases ru
  rcases z0 with rfl | ⟨m,rfl⟩
  ·unfold ae at he;cases he
  ·obtain ⟨its,rv,pl,_⟩:=I.list h1
   exact .li (by unfold nrm;rfl) pl.isList rv h2 (by unfold ae at he;exact he)
 | dK _ _=>unfold ae at he;cases he
 | dT _ _=>unfold ae at he;cases he
 | set _=>unfold ae at he;cases he
 | rng _ _=>unfold ae at he;cases he
 | exc _=>unfold ae at he;cases he
theorem qZ{p:Addr}{a b:List Value}(h1:s.heap.IsTuple p a.toArray)(h2:s.heap.IsTuple p b.toArray):a=b:=by
 obtain ⟨o,e1,_,n,d1⟩:=h1;obtain ⟨o2,e2,_,n2,d2⟩:=h2;rw [e1] at e2;cases e2;rw [d1] at d2;have:=(Data.seq.inj d2).1;simpa using congrArg Array.toList this
theorem sY{p:Addr}{a b:List Value}(h1:s.heap.IsList p a.toArray)(h2:s.heap.IsList p b.toArray):a=b:=by
 obtain ⟨o,e1,_,n,d1⟩:=h1;obtain ⟨o2,e2,_,n2,d2⟩:=h2;rw [e1] at e2;cases e2;rw [d1] at d2;have:=(Data.seq.inj d2).1;simpa using congrArg Array.toList this
theorem a6{xs:List V}{its:List Value}(r:aw xs its){j:Nat}(h:j < its.length):∃ x,xs[j]?=some x/\aD x its[j]:=by
 have hx:j < xs.length:=by rw [r.length];exact h
 obtain ⟨u,e,ru⟩:=r.get (B8 hx);rw [B8 h] at e;cases e;exact ⟨_,B8 hx,ru⟩
theorem gn(I:Inv X pins σ H s):∀ (n m:Nat) {d e:D} {v:V} {u:Value},ae n d=true->ae m e=true->aF X.K H d v->aF X.K H e v->aD v u->nrm d=nrm e
 | n,m,d,e,v,u,h1,h2,r1,r2,ru=>by
  have v1:=jU I h1 r1 ru;have v2:=jU I h2 r2 ru
  cases v1 with
  | non=>cases v2;rfl
  | bl b=>cases v2;rfl
  | int i t=>cases v2;rfl
  | str x t=>cases v2;rfl
  | @tu n _ ds p xs its hd ht hv hr he =>
   cases v2 with
   | @tu m _ es _ ys jts hd2 ht2 hv2 hr2 he2 =>
    have:=qZ ht ht2;subst this;have exy:xs=ys:=hv.inj hv2;subst exy;rw [hd,hd2]
    congr 1
    apply List.ext_getElem?;intro j;rw [dP,dP];have l1:=hr.len;have l2:=hr2.len
    by_cases hj:j < xs.length
    ·obtain ⟨d',e1,q1⟩:=hr.get' (B8 hj)
     obtain ⟨e',e2,q2⟩:=hr2.get' (B8 hj);rw [e1,e2]
     have hji:j < its.length:=by rw [<- hv.length];exact hj
     obtain ⟨x,ex,rx⟩:=a6 hv hji;rw [B8 hj] at ex;cases ex;exact congrArg some (gn I n m (Co.mp he _ (Cp e1)) (Co.mp he2 _ (Cp e2)) q1 q2 rx)
    ·rw [Er (by omega),Er (by omega)]
   | li hd2 ht2 hv2 hr2 he2=>exact absurd rfl (SeqAt.ne_of_list_tuple ht2 ht)
  | @li n _ ds p xs its hd ht hv hr he =>
   cases v2 with
   | tu hd2 ht2 hv2 hr2 he2=>exact absurd rfl (SeqAt.ne_of_list_tuple ht ht2)
   | @li m _ es _ ys jts hd2 ht2 hv2 hr2 he2 =>
    have:=sY ht ht2;subst this;have exy:xs=ys:=hv.inj hv2;subst exy;rw [hd,hd2]
    congr 1
    apply List.ext_getElem?;intro j;rw [dP,dP];have l1:=hr.len;have l2:=hr2.len
    by_cases hj:j < xs.length
    ·obtain ⟨d',e1,q1⟩:=hr.get' (B8 hj)
     obtain ⟨e',e2,q2⟩:=hr2.get' (B8 hj);rw [e1,e2]
     have hji:j < its.length:=by rw [<- hv.length];exact hj
     obtain ⟨x,ex,rx⟩:=a6 hv hji;rw [B8 hj] at ex;cases ex;exact congrArg some (gn I n m (Co.mp he _ (Cp e1)) (Co.mp he2 _ (Cp e2)) q1 q2 rx)
    ·rw [Er (by omega),Er (by omega)]
 termination_by n=>n
theorem kD{n:Nat}{f g:Nat->Bool}(h:∀ j,j < n->f j=g j):(List.range n).all f=(List.range n).all g:=by
 rw [DI,Co,Co]
 constructor
 ·intro z x hx;rw [<- h x (CN.mp hx)];exact z x hx
 ·intro z x hx;rw [h x (CN.mp hx)];exact z x hx
def bt(ds es:List D)(j:Nat):Bool:=match ds[j]?,es[j]? with
 | some a,some b=>eqD a b
 | _,_=>true
theorem dw{ds es:List D}:fc (bW ds) (bW es)=((List.range (min ds.length es.length)).all (bt ds es)&&ds.length == es.length):=by
 rw [my,l6,l6]
 congr 1
 refine kD fun j hj=> ?_
 have h1:j < ds.length:=by omega
 have h2:j < es.length:=by omega
 rw [dP,dP];unfold bt eqD;rw [B8 h1,B8 h2];rfl
theorem tF(I:Inv X pins σ H s):∀ (n:Nat) {A:Around} {d e:D} {v v':V} {u w:Value},A.units+n < cLine->ae n d=true->ae n e=true->aF X.K H d v->aF X.K H e v'->aD v u->aD v' w->SeqAt.EqAt A s u w (eqD d e)
 | n,A,d,e,v,v',u,w,hu0,h1,h2,r1,r2,ru,rw'=>by
  have hu:A.units < cLine:=by omega
  have v1:=jU I h1 r1 ru;have v2:=jU I h2 r2 rw';unfold eqD
  cases v1 with
  | non =>
   cases v2 with
   | non=>exact SeqAt.EqAt.same _
   | bl b2=>exact SeqAt.EqAt.none_bool b2
   | int i2 t2=>exact SeqAt.EqAt.none_int i2 t2
   | str x2 t2=>exact SeqAt.EqAt.none_str x2 t2
   | tu hd2 ht2 hv2 hr2 he2=>rw [hd2];exact SeqAt.EqAt.none_tuple ht2 hu
   | li hd2 ht2 hv2 hr2 he2=>rw [hd2];exact SeqAt.EqAt.none_list ht2 hu
  | bl b1 =>
   cases v2 with
   | non=>exact SeqAt.EqAt.bool_none b1
   | bl b2=>exact SeqAt.EqAt.bool_bool b1 b2
   | int i2 t2=>exact SeqAt.EqAt.bool_int b1 i2 t2
   | str x2 t2=>exact SeqAt.EqAt.bool_str b1 x2 t2
   | tu hd2 ht2 hv2 hr2 he2=>rw [hd2];exact SeqAt.EqAt.bool_tuple b1 ht2 hu
   | li hd2 ht2 hv2 hr2 he2=>rw [hd2];exact SeqAt.EqAt.bool_list b1 ht2 hu
  | int i1 t1 =>
   cases v2 with
   | non=>exact SeqAt.EqAt.int_none i1 t1
   | bl b2=>exact SeqAt.EqAt.int_bool i1 t1 b2
   | int i2 t2=>exact SeqAt.EqAt.int_int i1 t1 i2 t2
   | str x2 t2=>exact SeqAt.EqAt.int_str i1 t1 x2 t2
   | tu hd2 ht2 hv2 hr2 he2=>rw [hd2];exact SeqAt.EqAt.int_tuple i1 t1 ht2 hu
   | li hd2 ht2 hv2 hr2 he2=>rw [hd2];exact SeqAt.EqAt.int_list i1 t1 ht2 hu
  | str x1 t1 =>
   cases v2 with
   | non=>exact SeqAt.EqAt.str_none x1 t1
   | bl b2=>exact SeqAt.EqAt.str_bool x1 t1 b2
   | int i2 t2=>exact SeqAt.EqAt.str_int x1 t1 i2 t2
   | str x2 t2=>exact SeqAt.EqAt.str_str x1 t1 x2 t2
   | tu hd2 ht2 hv2 hr2 he2=>rw [hd2];exact SeqAt.EqAt.str_tuple x1 t1 ht2 hu
   | li hd2 ht2 hv2 hr2 he2=>rw [hd2];exact SeqAt.EqAt.str_list x1 t1 ht2 hu
  | @tu n _ ds p xs its hd ht hv hr he =>
   cases v2 with
   | non=>rw [hd];exact SeqAt.EqAt.tuple_none ht hu
   | bl b2=>rw [hd];exact SeqAt.EqAt.tuple_bool b2 ht hu
   | int i2 t2=>rw [hd];exact SeqAt.EqAt.tuple_int i2 t2 ht hu
   | str x2 t2=>rw [hd];exact SeqAt.EqAt.tuple_str x2 t2 ht hu
   | @tu _ _ es q ys jts hd2 ht2 hv2 hr2 he2 =>
    by_cases epq:p=q
    ·subst epq
     have z:nrm d=nrm e:=gn I (n+1) (n+1) h1 h2 r1 r2 rfl;rw [<- z,jo (n+1) h1];exact SeqAt.EqAt.same _
    ·refine SeqAt.EqAt.of_refs epq ?_
     have hhe:∀ j (h1:j < its.toArray.size) (h2:j < jts.toArray.size),SeqAt.EqAt A.in1 s its.toArray[j] jts.toArray[j] (bt ds es j):=fun j h1 h2=>by
      have h1':j < its.length:=by simpa using h1
      have h2':j < jts.length:=by simpa using h2
      obtain ⟨x,ex,rx⟩:=a6 hv h1';obtain ⟨y,ey,ry⟩:=a6 hv2 h2';obtain ⟨d',e1,q1⟩:=hr.get' ex;obtain ⟨e',e2,q2⟩:=hr2.get' ey;have z:=tF I n (A:=A.in1) (by show A.units+1+n < cLine;omega) (Co.mp he _ (Cp e1)) (Co.mp he2 _ (Cp e2)) q1 q2 rx ry
      have e3:bt ds es j=eqD d' e':=by unfold bt;rw [e1,e2]
      rw [e3];simpa using z
     have l1:its.toArray.size=ds.length:=by rw [Cb,<- hv.length,<- hr.len]
     have l2:jts.toArray.size=es.length:=by rw [Cb,<- hv2.length,<- hr2.len]
     have z:=SeqAt.RcAt.tuples ht ht2 hu hhe;rw [l1,l2] at z;rw [hd,hd2]
     show SeqAt.RcAt A s (.ref p) (.ref q) ((fc (bW ds) (bW es)))
     rw [dw];exact z
   | li hd2 ht2 hv2 hr2 he2=>rw [hd,hd2];exact SeqAt.EqAt.tuple_list ht ht2 hu
  | @li n _ ds p xs its hd ht hv hr he =>
   cases v2 with
   | non=>rw [hd];exact SeqAt.EqAt.list_none ht hu
   | bl b2=>rw [hd];exact SeqAt.EqAt.list_bool b2 ht hu
   | int i2 t2=>rw [hd];exact SeqAt.EqAt.list_int i2 t2 ht hu
   | str x2 t2=>rw [hd];exact SeqAt.EqAt.list_str x2 t2 ht hu
   | tu hd2 ht2 hv2 hr2 he2=>rw [hd,hd2];exact SeqAt.EqAt.list_tuple ht ht2 hu
   | @li _ _ es q ys jts hd2 ht2 hv2 hr2 he2 =>
    by_cases epq:p=q
    ·subst epq
     have z:nrm d=nrm e:=gn I (n+1) (n+1) h1 h2 r1 r2 rfl;rw [<- z,jo (n+1) h1];exact SeqAt.EqAt.same _
    ·refine SeqAt.EqAt.of_refs epq ?_
     have hhe:∀ j (h1:j < its.toArray.size) (h2:j < jts.toArray.size),SeqAt.EqAt A.in1 s its.toArray[j] jts.toArray[j] (bt ds es j):=fun j h1 h2=>by
      have h1':j < its.length:=by simpa using h1
      have h2':j < jts.length:=by simpa using h2
      obtain ⟨x,ex,rx⟩:=a6 hv h1';obtain ⟨y,ey,ry⟩:=a6 hv2 h2';obtain ⟨d',e1,q1⟩:=hr.get' ex;obtain ⟨e',e2,q2⟩:=hr2.get' ey;have z:=tF I n (A:=A.in1) (by show A.units+1+n < cLine;omega) (Co.mp he _ (Cp e1)) (Co.mp he2 _ (Cp e2)) q1 q2 rx ry
      have e3:bt ds es j=eqD d' e':=by unfold bt;rw [e1,e2]
      rw [e3];simpa using z
     have l1:its.toArray.size=ds.length:=by rw [Cb,<- hv.length,<- hr.len]
     have l2:jts.toArray.size=es.length:=by rw [Cb,<- hv2.length,<- hr2.len]
     rw [hd,hd2]
     show SeqAt.RcAt A s (.ref p) (.ref q) ((fc (bW ds) (bW es)))
     by_cases hl:ds.length=es.length
     ·have z:=SeqAt.RcAt.lists ht ht2 (by rw [l1,l2];exact hl) hu hhe
      rw [l1] at z;rw [dw,<- hl,DR,beq_self_eq_true,Dv];exact z
     ·have z:=SeqAt.RcAt.lists_lengths ht ht2 (by rw [l1,l2];simpa using hl) hu
      rw [dw,DL.mpr hl,Dq];exact z
 termination_by n=>n
theorem rcAt(I:Inv X pins σ H s)(n:Nat){A:Around}{d e:D}{v v':V}{u w:Value}(hu0:A.units+n < cLine)(h1:ae n d=true)(h2:ae n e=true)(r1:aF X.K H d v)(r2:aF X.K H e v')(ru:aD v u)(rw':aD v' w):SeqAt.RcAt A s u w (eqD d e):=by
 have hu:A.units < cLine:=by omega
 have v1:=jU I h1 r1 ru;have v2:=jU I h2 r2 rw';unfold eqD
 cases v1 with
 | non =>
  cases v2 with
  | non=>exact SeqAt.RcAt.none_none
  | bl b2=>exact SeqAt.RcAt.none_bool b2
  | int i2 t2=>exact SeqAt.RcAt.none_int i2 t2
  | str x2 t2=>exact SeqAt.RcAt.none_str x2 t2
  | tu hd2 ht2 hv2 hr2 he2=>rw [hd2];exact SeqAt.RcAt.none_tuple ht2 hu
  | li hd2 ht2 hv2 hr2 he2=>rw [hd2];exact SeqAt.RcAt.none_list ht2 hu
 | bl b1 =>
  cases v2 with
  | non=>exact SeqAt.RcAt.bool_none b1
  | bl b2=>exact SeqAt.RcAt.bool_bool b1 b2
  | int i2 t2=>exact SeqAt.RcAt.bool_int b1 i2 t2
  | str x2 t2=>exact SeqAt.RcAt.bool_str b1 x2 t2
  | tu hd2 ht2 hv2 hr2 he2=>rw [hd2];exact SeqAt.RcAt.bool_tuple b1 ht2 hu
  | li hd2 ht2 hv2 hr2 he2=>rw [hd2];exact SeqAt.RcAt.bool_list b1 ht2 hu
 | int i1 t1 =>
  cases v2 with
  | non=>exact SeqAt.RcAt.int_none i1 t1
  | bl b2=>exact SeqAt.RcAt.int_bool i1 t1 b2
  | int i2 t2=>exact SeqAt.RcAt.int_int i1 t1 i2 t2
  | str x2 t2=>exact SeqAt.RcAt.int_str i1 t1 x2 t2
  | tu hd2 ht2 hv2 hr2 he2=>rw [hd2];exact SeqAt.RcAt.int_tuple i1 t1 ht2 hu
  | li hd2 ht2 hv2 hr2 he2=>rw [hd2];exact SeqAt.RcAt.int_list i1 t1 ht2 hu
 | str x1 t1 =>
  cases v2 with
  | non=>exact SeqAt.RcAt.str_none x1 t1
  | bl b2=>exact SeqAt.RcAt.str_bool x1 t1 b2
  | int i2 t2=>exact SeqAt.RcAt.str_int x1 t1 i2 t2
  | str x2 t2=>exact SeqAt.RcAt.str_str x1 t1 x2 t2
  | tu hd2 ht2 hv2 hr2 he2=>rw [hd2];exact SeqAt.RcAt.str_tuple x1 t1 ht2 hu
  | li hd2 ht2 hv2 hr2 he2=>rw [hd2];exact SeqAt.RcAt.str_list x1 t1 ht2 hu
 | @tu n _ ds p xs its hd ht hv hr he =>
  cases v2 with
  | non=>rw [hd];exact SeqAt.RcAt.tuple_none ht hu
  | bl b2=>rw [hd];exact SeqAt.RcAt.tuple_bool b2 ht hu
  | int i2 t2=>rw [hd];exact SeqAt.RcAt.tuple_int i2 t2 ht hu
  | str x2 t2=>rw [hd];exact SeqAt.RcAt.tuple_str x2 t2 ht hu
  | @tu _ _ es q ys jts hd2 ht2 hv2 hr2 he2 =>
   have hhe:∀ j (h1:j < its.toArray.size) (h2:j < jts.toArray.size),SeqAt.EqAt A.in1 s its.toArray[j] jts.toArray[j] (bt ds es j):=fun j h1 h2=>by
    have h1':j < its.length:=by simpa using h1
    have h2':j < jts.length:=by simpa using h2
    obtain ⟨x,ex,rx⟩:=a6 hv h1';obtain ⟨y,ey,ry⟩:=a6 hv2 h2';obtain ⟨d',e1,q1⟩:=hr.get' ex;obtain ⟨e',e2,q2⟩:=hr2.get' ey;have z:=tF I n (A:=A.in1) (by show A.units+1+n < cLine;omega) (Co.mp he _ (Cp e1)) (Co.mp he2 _ (Cp e2)) q1 q2 rx ry
    have e3:bt ds es j=eqD d' e':=by unfold bt;rw [e1,e2]
    rw [e3];simpa using z
   have l1:its.toArray.size=ds.length:=by rw [Cb,<- hv.length,<- hr.len]
   have l2:jts.toArray.size=es.length:=by rw [Cb,<- hv2.length,<- hr2.len]
   have z:=SeqAt.RcAt.tuples ht ht2 hu hhe;rw [l1,l2] at z;rw [hd,hd2]
   show SeqAt.RcAt A s (.ref p) (.ref q) ((fc (bW ds) (bW es)))
   rw [dw];exact z
  | li hd2 ht2 hv2 hr2 he2=>rw [hd,hd2];exact SeqAt.RcAt.tuple_list ht ht2 hu
 | @li n _ ds p xs its hd ht hv hr he =>
  cases v2 with
  | non=>rw [hd];exact SeqAt.RcAt.list_none ht hu
  | bl b2=>rw [hd];exact SeqAt.RcAt.list_bool b2 ht hu
  | int i2 t2=>rw [hd];exact SeqAt.RcAt.list_int i2 t2 ht hu
  | str x2 t2=>rw [hd];exact SeqAt.RcAt.list_str x2 t2 ht hu
  | tu hd2 ht2 hv2 hr2 he2=>rw [hd,hd2];exact SeqAt.RcAt.list_tuple ht ht2 hu
  | @li _ _ es q ys jts hd2 ht2 hv2 hr2 he2 =>
   have hhe:∀ j (h1:j < its.toArray.size) (h2:j < jts.toArray.size),SeqAt.EqAt A.in1 s its.toArray[j] jts.toArray[j] (bt ds es j):=fun j h1 h2=>by
    have h1':j < its.length:=by simpa using h1
    have h2':j < jts.length:=by simpa using h2
    obtain ⟨x,ex,rx⟩:=a6 hv h1';obtain ⟨y,ey,ry⟩:=a6 hv2 h2';obtain ⟨d',e1,q1⟩:=hr.get' ex;obtain ⟨e',e2,q2⟩:=hr2.get' ey;have z:=tF I n (A:=A.in1) (by show A.units+1+n < cLine;omega) (Co.mp he _ (Cp e1)) (Co.mp he2 _ (Cp e2)) q1 q2 rx ry
    have e3:bt ds es j=eqD d' e':=by unfold bt;rw [e1,e2]
    rw [e3];simpa using z
   have l1:its.toArray.size=ds.length:=by rw [Cb,<- hv.length,<- hr.len]
   have l2:jts.toArray.size=es.length:=by rw [Cb,<- hv2.length,<- hr2.len]
   rw [hd,hd2]
   show SeqAt.RcAt A s (.ref p) (.ref q) ((fc (bW ds) (bW es)))
   by_cases hl:ds.length=es.length
   ·have z:=SeqAt.RcAt.lists ht ht2 (by rw [l1,l2];exact hl) hu hhe
    rw [l1] at z;rw [dw,<- hl,DR,beq_self_eq_true,Dv];exact z
   ·have z:=SeqAt.RcAt.lists_lengths ht ht2 (by rw [l1,l2];simpa using hl) hu
    rw [dw,DL.mpr hl,Dq];exact z
theorem neAt(I:Inv X pins σ H s)(n:Nat){A:Around}{d e:D}{v v':V}{u w:Value}(hu0:A.units+n < cLine)(h1:ae n d=true)(h2:ae n e=true)(r1:aF X.K H d v)(r2:aF X.K H e v')(ru:aD v u)(rw':aD v' w):SeqAt.RcNeAt A s u w (!(eqD d e)):=by
 have hu:A.units < cLine:=by omega
 have v1:=jU I h1 r1 ru;have v2:=jU I h2 r2 rw';unfold eqD
 cases v1 with
 | non =>
  cases v2 with
  | non=>exact SeqAt.RcNeAt.none_none
  | bl b2=>exact SeqAt.RcNeAt.none_bool b2
  | int i2 t2=>exact SeqAt.RcNeAt.none_int i2 t2
  | str x2 t2=>exact SeqAt.RcNeAt.none_str x2 t2
  | tu hd2 ht2 hv2 hr2 he2=>rw [hd2];exact SeqAt.RcNeAt.none_tuple ht2 hu
  | li hd2 ht2 hv2 hr2 he2=>rw [hd2];exact SeqAt.RcNeAt.none_list ht2 hu
 | bl b1 =>
  cases v2 with
  | non=>exact SeqAt.RcNeAt.bool_none b1
  | bl b2=>exact SeqAt.RcNeAt.bool_bool b1 b2
  | int i2 t2=>exact SeqAt.RcNeAt.bool_int b1 i2 t2
  | str x2 t2=>exact SeqAt.RcNeAt.bool_str b1 x2 t2
  | tu hd2 ht2 hv2 hr2 he2=>rw [hd2];exact SeqAt.RcNeAt.bool_tuple b1 ht2 hu
  | li hd2 ht2 hv2 hr2 he2=>rw [hd2];exact SeqAt.RcNeAt.bool_list b1 ht2 hu
 | int i1 t1 =>
  cases v2 with
  | non=>exact SeqAt.RcNeAt.int_none i1 t1
  | bl b2=>exact SeqAt.RcNeAt.int_bool i1 t1 b2
  | int i2 t2=>exact SeqAt.RcNeAt.int_int i1 t1 i2 t2
  | str x2 t2=>exact SeqAt.RcNeAt.int_str i1 t1 x2 t2
  | tu hd2 ht2 hv2 hr2 he2=>rw [hd2];exact SeqAt.RcNeAt.int_tuple i1 t1 ht2 hu
  | li hd2 ht2 hv2 hr2 he2=>rw [hd2];exact SeqAt.RcNeAt.int_list i1 t1 ht2 hu
 | str x1 t1 =>
  cases v2 with
  | non=>exact SeqAt.RcNeAt.str_none x1 t1
  | bl b2=>exact SeqAt.RcNeAt.str_bool x1 t1 b2
  | int i2 t2=>exact SeqAt.RcNeAt.str_int x1 t1 i2 t2
  | str x2 t2=>exact SeqAt.RcNeAt.str_str x1 t1 x2 t2
  | tu hd2 ht2 hv2 hr2 he2=>rw [hd2];exact SeqAt.RcNeAt.str_tuple x1 t1 ht2 hu
  | li hd2 ht2 hv2 hr2 he2=>rw [hd2];exact SeqAt.RcNeAt.str_list x1 t1 ht2 hu
 | @tu n _ ds p xs its hd ht hv hr he =>
  cases v2 with
  | non=>rw [hd];exact SeqAt.RcNeAt.tuple_none ht hu
  | bl b2=>rw [hd];exact SeqAt.RcNeAt.tuple_bool b2 ht hu
  | int i2 t2=>rw [hd];exact SeqAt.RcNeAt.tuple_int i2 t2 ht hu
  | str x2 t2=>rw [hd];exact SeqAt.RcNeAt.tuple_str x2 t2 ht hu
  | @tu _ _ es q ys jts hd2 ht2 hv2 hr2 he2 =>
   have hhe:∀ j (h1:j < its.toArray.size) (h2:j < jts.toArray.size),SeqAt.EqAt A.in1 s its.toArray[j] jts.toArray[j] (bt ds es j):=fun j h1 h2=>by
    have h1':j < its.length:=by simpa using h1
    have h2':j < jts.length:=by simpa using h2
    obtain ⟨x,ex,rx⟩:=a6 hv h1';obtain ⟨y,ey,ry⟩:=a6 hv2 h2';obtain ⟨d',e1,q1⟩:=hr.get' ex;obtain ⟨e',e2,q2⟩:=hr2.get' ey;have z:=tF I n (A:=A.in1) (by show A.units+1+n < cLine;omega) (Co.mp he _ (Cp e1)) (Co.mp he2 _ (Cp e2)) q1 q2 rx ry
    have e3:bt ds es j=eqD d' e':=by unfold bt;rw [e1,e2]
    rw [e3];simpa using z
   have l1:its.toArray.size=ds.length:=by rw [Cb,<- hv.length,<- hr.len]
   have l2:jts.toArray.size=es.length:=by rw [Cb,<- hv2.length,<- hr2.len]
   have z:=SeqAt.RcNeAt.tuples ht ht2 hu hhe;rw [l1,l2] at z;rw [hd,hd2]
   show SeqAt.RcNeAt A s (.ref p) (.ref q) (!(fc (bW ds) (bW es)))
   rw [dw];exact z
  | li hd2 ht2 hv2 hr2 he2=>rw [hd,hd2];exact SeqAt.RcNeAt.tuple_list ht ht2 hu
 | @li n _ ds p xs its hd ht hv hr he =>
  cases v2 with
  | non=>rw [hd];exact SeqAt.RcNeAt.list_none ht hu
  | bl b2=>rw [hd];exact SeqAt.RcNeAt.list_bool b2 ht hu
  | int i2 t2=>rw [hd];exact SeqAt.RcNeAt.list_int i2 t2 ht hu
  | str x2 t2=>rw [hd];exact SeqAt.RcNeAt.list_str x2 t2 ht hu
  | tu hd2 ht2 hv2 hr2 he2=>rw [hd,hd2];exact SeqAt.RcNeAt.list_tuple ht ht2 hu
  | @li _ _ es q ys jts hd2 ht2 hv2 hr2 he2 =>
   have hhe:∀ j (h1:j < its.toArray.size) (h2:j < jts.toArray.size),SeqAt.EqAt A.in1 s its.toArray[j] jts.toArray[j] (bt ds es j):=fun j h1 h2=>by
    have h1':j < its.length:=by simpa using h1
    have h2':j < jts.length:=by simpa using h2
    obtain ⟨x,ex,rx⟩:=a6 hv h1';obtain ⟨y,ey,ry⟩:=a6 hv2 h2';obtain ⟨d',e1,q1⟩:=hr.get' ex;obtain ⟨e',e2,q2⟩:=hr2.get' ey;have z:=tF I n (A:=A.in1) (by show A.units+1+n < cLine;omega) (Co.mp he _ (Cp e1)) (Co.mp he2 _ (Cp e2)) q1 q2 rx ry
    have e3:bt ds es j=eqD d' e':=by unfold bt;rw [e1,e2]
    rw [e3];simpa using z
   have l1:its.toArray.size=ds.length:=by rw [Cb,<- hv.length,<- hr.len]
   have l2:jts.toArray.size=es.length:=by rw [Cb,<- hv2.length,<- hr2.len]
   rw [hd,hd2]
   show SeqAt.RcNeAt A s (.ref p) (.ref q) (!(fc (bW ds) (bW es)))
   by_cases hl:ds.length=es.length
   ·have z:=SeqAt.RcNeAt.lists ht ht2 (by rw [l1,l2];exact hl) hu hhe
    rw [l1] at z;rw [dw,<- hl,DR,beq_self_eq_true,Dv];exact z
   ·have z:=SeqAt.RcNeAt.lists_lengths ht ht2 (by rw [l1,l2];simpa using hl) hu
    rw [dw,DL.mpr hl,Dq];exact z
end
def gEq:List D->Option (D×Bool)
 | [d,e]=>if (ae 9 d&&ae 9 e)=true then some (.bl (eqD d e),false) else none
 | _=>none
def gNe:List D->Option (D×Bool)
 | [d,e]=>if (ae 9 d&&ae 9 e)=true then some (.bl (!(eqD d e)),false) else none
 | _=>none
def rEqD(K:EG):R2:=fun x y H Q=>∃ d e,ae 9 d=true/\ae 9 e=true/\aF K H d x/\aF K H e y/\Q (.bl (eqD d e)) H
def rNeD(K:EG):R2:=fun x y H Q=>∃ d e,ae 9 d=true/\ae 9 e=true/\aF K H d x/\aF K H e y/\Q (.bl (!(eqD d e))) H
section
variable{X:Cx}
theorem xN(hu:X.A.units+9 < cLine):OpR X (compareOp .Eq) (rEqD X.K):=by
 intro pins s σ H x y v u Q I rx ry h;obtain ⟨d,e,h1,h2,r1,r2,q⟩:=h;exact rcAt I 9 hu h1 h2 r1 r2 rx ry _ _ _ _ ⟨.bl _,H,I,rfl,q⟩
theorem op_neD(hu:X.A.units+9 < cLine):OpR X (compareOp .NotEq) (rNeD X.K):=by
 intro pins s σ H x y v u Q I rx ry h;obtain ⟨d,e,h1,h2,r1,r2,q⟩:=h;exact neAt I 9 hu h1 h2 r1 r2 rx ry _ _ _ _ ⟨.bl _,H,I,rfl,q⟩
end
theorem aQ{K:EG}{H Hh:Hp}{a b:D}{vs:List V}(h:kB K H Hh [a,b] vs):∃ x y,vs=[x,y]/\fS K H Hh a x/\fS K H Hh b y:=by
 match vs,h with
 | [x,y],h=>exact ⟨x,y,rfl,h.1,h.2.1⟩
theorem aC{K:EG}{H Hh:Hp}{a:D}{vs:List V}(h:kB K H Hh [a] vs):∃ x,vs=[x]/\fS K H Hh a x:=by
 match vs,h with
 | [x],h=>exact ⟨x,rfl,h.1⟩
theorem BS{K:EG}:OpS K (r2 (rEqD K)) gEq:=by
 intro vs ds H L Q d nw hm r e q
 match ds,e with
 | [a,b],e =>
  obtain ⟨x,y,rfl,ra,rb⟩:=aQ r;have e:(if (ae 9 a&&ae 9 b)=true then some (D.bl (eqD a b),false) else none)=some (d,nw):=e
  split at e
  ·rename_i hc
   have hc:=(Cv _ _).mp hc;cases e;exact ⟨a,b,hc.1,hc.2,ra.d aA,rb.d aA,q _ H (ac.refl _) rfl⟩
  ·cases e
theorem os_ne{K:EG}:OpS K (r2 (rNeD K)) gNe:=by
 intro vs ds H L Q d nw hm r e q
 match ds,e with
 | [a,b],e =>
  obtain ⟨x,y,rfl,ra,rb⟩:=aQ r;have e:(if (ae 9 a&&ae 9 b)=true then some (D.bl (!(eqD a b)),false) else none)=some (d,nw):=e
  split at e
  ·rename_i hc
   have hc:=(Cv _ _).mp hc;cases e;exact ⟨a,b,hc.1,hc.2,ra.d aA,rb.d aA,q _ H (ac.refl _) rfl⟩
  ·cases e
section
variable{X:Cx}
def xj:R2:=fun x y H Q=>∃ a b xs ys,x = .ref a/\y = .ref b/\H a=some (.tup xs)/\H b=some (.tup ys)/\xs.length+ys.length<=sizeLine /\
 ∀ p H',H' p=some (.tup (xs++ys))->ac H H'->Q (.ref p) H'
theorem AJ:OpR X (binaryOp .Add) xj:=by
 intro pins s σ H x y v u Q I rx ry h;obtain ⟨a,b,xs,ys,rfl,rfl,ha,hb,hz,q⟩:=h
 by_cases hx:xs=[]
 ·subst hx
  cases rx;cases ry;obtain ⟨its,r1,p1,_⟩:=I.tuple (X:=X) (.inl (.inl ha));obtain ⟨its2,r2,p2,_⟩:=I.tuple (X:=X) (.inl (.inl hb));cases r1;exact Bg p1 p2 ⟨.ref b,H,I,rfl,q b H hb (ac.refl H)⟩
 ·refine AI pins s σ H _ _ v u Q I rx ry ⟨a,b,xs,ys,rfl,rfl,.inl (.inl ha),.inl (.inl hb),hx,hz,fun e=> ?_,fun e p hp=> ?_⟩
  ·subst e
   exact q a H (by rw [CU];exact ha) (ac.refl H)
  ·exact q p _ aj fun c o e'=>by rw [am (ar e' hp)];exact e'
def rSlD:RSl:=fun x lo hi H Q=>∃ a xs,x = .ref a/\H a=some (.tup xs)/\∀ p H',H' p=some (.tup (mB xs lo hi))->ac H H'->Q (.ref p) H'
theorem zO:SlR X rSlD:=by
 intro pins s σ H x v vl vu lo hi sl Q I rx hs pl pu h;obtain ⟨a,xs,rfl,hx,q⟩:=h
 by_cases hw:HT.sIx xs.length 0 lo=0/\HT.sIx xs.length xs.length hi=xs.length
 ·cases rx
  obtain ⟨its,r,ht,hz⟩:=I.tuple (X:=X) (.inl (.inl hx))
  have hlen:its.toArray.size=xs.length:=by rw [Cb];exact r.length.symm
  refine ⟨"tuple",_,PyProof.Rows.slot_tuple_getitem.lookup,ht.typeIs,?_⟩;refine HT.g9 ht hs pl pu (by rw [hlen];exact hw) ⟨.ref a,H,I,rfl,q a H ?_ (ac.refl H)⟩
  have:mB xs lo hi=xs:=by
   unfold mB;rw [hw.1,hw.2,List.drop_zero,Nat.sub_zero,List.take_length]
  rw [this];exact hx
 ·exact sl_tup pins s σ H _ v vl vu lo hi sl Q I rx hs pl pu ⟨a,xs,rfl,.inl (.inl hx),hw,fun p hp=>q p _ aj (ac.upd hp)⟩
end
def small(n:Nat):Bool:=decide (n<=1000000)
theorem eR{n:Nat}(h:small n=true):n<=sizeLine:=Df (Cn h) (by decide)
theorem lj{n:Nat}(h:small n=true):n < sizeLine:=Nat.lt_of_le_of_lt (Cn h) (by decide)
def rD(xs:List D)(lo hi:Option Int):List D:=(xs.drop (HT.sIx xs.length 0 lo)).take (HT.sIx xs.length xs.length hi - HT.sIx xs.length 0 lo)
theorem ag.cut{K:EG}{H:Hp}{ds:List D}{xs:List V}(h:ag K H ds xs)(lo hi:Option Int):ag K H (rD ds lo hi) (mB xs lo hi):=by
 unfold rD mB;rw [h.len];exact (h.drop _).take _
def nU(a b:Int):Bool:=decide (-(2 ^ 64) < a/\a < 2 ^ 64)||decide (-(2 ^ 64) < b/\b < 2 ^ 64)
def aE:List D->Option (D×Bool)
 | [.int a,.int b]=>some (.int (a+b),false)
 | [.lst a,.lst b]=>if small (a.length+b.length)=true then some (.lst (a++b),true) else none
 | [.tup a,.tup b]=>if small (a.length+b.length)=true then some (.tup (a++b),false) else none
 | _=>none
def cB:List D->Option (D×Bool)
 | [.int a,.int b]=>some (.int (a - b),false)
 | _=>none
def repL(n:Nat)(l:List D):List D:=(List.replicate n l).flatten
def kN:List D->Option (D×Bool)
 | [.int a,.int b]=>if nU a b=true then some (.int (a * b),false) else none
 | [.lst a,.int k]=>if (decide (-1000000<=k/\k<=1000000)&&small (a.length * k.toNat))=true then some (.lst (repL k.toNat a),true) else none
 | _=>none
def ie:List D->Option (D×Bool)
 | [.int a,.int b]=>if decide (0 < b/\b < 1073741824)=true then some (.int (a / b),false) else none
 | _=>none
def hU:List D->Option (D×Bool)
 | [.int a,.int b]=>if decide (0 < b)=true then some (.int (a % b),false) else none
 | _=>none
def yt:List D->Option (D×Bool)
 | [.int a,.int b]=>if decide (0<=b/\b<=1000000/\a.natAbs < 2 ^ 64)=true then some (.int (a ^ b.toNat),false) else none
 | _=>none
def aT:List D->Option (List Int)
 | []=>some []
 | .int i::ds=>match aT ds with
  | some l=>some (i::l)
  | none=>none
 | _=>none
def ik:List D->Option (List Bool)
 | []=>some []
 | .bl i::ds=>match ik ds with
  | some l=>some (i::l)
  | none=>none
 | _=>none
theorem bf:∀ {ds:List D} {l:List Int},aT ds=some l->ds=l.map D.int
 | [],l,h=>by unfold aT at h;cases h;rfl
 | d::ds,l,h=>by
  cases d<;>first | (unfold aT at h;cases h;done) | skip
  unfold aT at h
  cases e:aT ds with
  | none=>rw [e] at h;cases h
  | some l'=>rw [e] at h;cases h;rw [bf e];rfl
theorem cE(l:List Int):aT (l.map D.int)=some l:=by
 induction l with
 | nil=>rfl
 | cons i l ih=>rw [Cq];unfold aT;rw [ih]
theorem rN:∀ {ds:List D} {l:List Bool},ik ds=some l->ds=l.map D.bl
 | [],l,h=>by unfold ik at h;cases h;rfl
 | d::ds,l,h=>by
  cases d<;>first | (unfold ik at h;cases h;done) | skip
  unfold ik at h
  cases e:ik ds with
  | none=>rw [e] at h;cases h
  | some l'=>rw [e] at h;cases h;rw [rN e];rfl
theorem wk(l:List Bool):ik (l.map D.bl)=some l:=by
 induction l with
 | nil=>rfl
 | cons i l ih=>rw [Cq];unfold ik;rw [ih]
def gLt:List D->Option (D×Bool)
 | [.int a,.int b]=>some (.bl (decide (a < b)),false)
 | _=>none
def gLe:List D->Option (D×Bool)
 | [.int a,.int b]=>some (.bl (decide (a<=b)),false)
 | _=>none
def gGt:List D->Option (D×Bool)
 | [.int a,.int b]=>some (.bl (decide (b < a)),false)
 | _=>none
def gGe:List D->Option (D×Bool)
 | [.int a,.int b]=>some (.bl (decide (b<=a)),false)
 | _=>none
def BW:D->Bool
 | .non=>true
 | _=>false
def gIs:List D->Option (D×Bool)
 | [d,.non]=>some (.bl (BW d),false)
 | [.bl a,.bl b]=>some (.bl (a == b),false)
 | _=>none
def rIsD:R2:=fun x y H Q=>(y = .non/\Q (.bl (decide (x = .non))) H)\/∃ a b,x = .bl a/\y = .bl b/\Q (.bl (a == b)) H
section
variable{K:EG}
theorem yh{H Hh:Hp}{d:D}{v:V}(r:fS K H Hh d v):decide (v = .non)=BW d:=by
 cases d<;>first
  | (have r:v=_:=r;subst r;rfl)
  | (obtain ⟨p,xs,rfl,_⟩:=r;rfl)
  | (obtain ⟨p,rfl,_⟩:=r;rfl)
theorem bC{H Hh:Hp}{i:Int}{v:V}(r:fS K H Hh (.int i) v):v = .int i:=r
theorem zV{H Hh:Hp}{i:Bool}{v:V}(r:fS K H Hh (.bl i) v):v = .bl i:=r
theorem cc{H:Hp}{L:List Addr}{ds:List D}{xs:List V}(r:ag K (hid L H) ds xs){p:Addr}(hp:H p=none):fQ K H (upd H p (.lst xs)) L (.lst ds) true (.ref p) :=
 ⟨p,rfl,hp,xs,aj,(aR (fun b hb=>(List.mem_cons.mp hb).elim (fun z=> .inr (by rw [z];exact hp)) .inl) fun b o _ e=>ac.upd hp b o e:ac (hid L H) _).repDs r⟩
theorem gS{H H':Hp}{L:List Addr}{ds:List D}{xs:List V}(hm:∀ p∈L,eO (H p))(r:ag K (hid L H) ds xs){p:Addr}(s:ac H H')(hp:H' p=some (.tup xs)):fQ K H H' L (.tup ds) false (.ref p):=by
 refine ⟨p,xs,rfl,?_,(aR (fun b hb=> .inl hb) fun b o _ e=>s b o e:ac (hid L H) _).repDs r⟩;rw [aJ (fun z=> ?_)]
 ·exact hp
 ·obtain ⟨u,q⟩:=(hm p z).some
  have e:=s p u q;rw [hp] at e;cases e;have:=hm p z;rw [q] at this;exact this
theorem os_add:OpS K (r2 fun x y H Q=>rI0 (fun i j=> .int (i+j)) x y H Q\/rCat x y H Q\/xj x y H Q) aE:=by
 intro vs ds H L Q d nw hm r e q;unfold aE at e
 split at e
 ·obtain ⟨x,y,rfl,ra,rb⟩:=aQ r
  cases e;exact .inl ⟨_,_,ra,rb,q _ H (ac.refl _) rfl⟩
 ·obtain ⟨x,y,rfl,⟨p,xs,rfl,h1,h2⟩,⟨p',ys,rfl,h3,h4⟩⟩:=aQ r
  split at e
  ·rename_i hs
   cases e;refine .inr (.inl ⟨p,p',xs,ys,rfl,rfl,h1,h3,eR (by rw [<- h2.len,<- h4.len];exact hs),fun l hl=>q _ _ (ac.upd hl) (cc (h2.app h4) hl)⟩)
  ·cases e
 ·obtain ⟨x,y,rfl,⟨p,xs,rfl,h1,h2⟩,⟨p',ys,rfl,h3,h4⟩⟩:=aQ r
  split at e
  ·rename_i hs
   cases e;exact .inr (.inr ⟨p,p',xs,ys,rfl,rfl,(ao h1).2,(ao h3).2,eR (by rw [<- h2.len,<- h4.len];exact hs),fun l H' hl s=>q _ _ s (gS hm (h2.app h4) s hl)⟩)
  ·cases e
 ·cases e
theorem os_sub:OpS K (r2 (rI0 fun i j=> .int (i - j))) cB:=by
 intro vs ds H L Q d nw hm r e q;unfold cB at e
 split at e
 ·obtain ⟨x,y,rfl,ra,rb⟩:=aQ r
  cases e;exact ⟨_,_,ra,rb,q _ H (ac.refl _) rfl⟩
 ·cases e
theorem lM:∀ {H:Hp} {ds:List D} {xs:List V} (n:Nat),ag K H ds xs->ag K H (repL n ds) (List.replicate n xs).flatten
 | _,_,_,0,_=>trivial
 | _,_,_,n+1,h=>by
  unfold repL;rw [De,De,DU,DU];exact h.app (lM n h)
theorem xL:OpS K (r2 fun x y H Q=>rI wv (fun i j=> .int (i * j)) x y H Q\/Aj x y H Q) kN:=by
 intro vs ds H L Q d nw hm r e q;unfold kN at e
 split at e
 ·obtain ⟨x,y,rfl,ra,rb⟩:=aQ r
  split at e
  ·rename_i hs
   cases e;refine .inl ⟨_,_,ra,rb,?_,q _ H (ac.refl _) rfl⟩
   rcases (Dz _ _).mp hs with z | z
   ·exact .inl (Cn z)
   ·exact .inr (Cn z)
  ·cases e
 ·rename_i a k
  obtain ⟨x,y,rfl,⟨p,xs,rfl,h1,h2⟩,rb⟩:=aQ r
  split at e
  ·rename_i hs
   cases e;have hs:=(Cv _ _).mp hs;have hb:=Cn hs.1;refine .inr ⟨p,k,xs,rfl,rb,h1,by omega,by omega,?_,fun l hl=>q _ _ (ac.upd hl) (cc (lM k.toNat h2) hl)⟩;rw [<- h2.len];exact eR hs.2
  ·cases e
 ·cases e
theorem AE:OpS K (r2 (rI CDiv fun i j=> .int (i / j))) ie:=by
 intro vs ds H L Q d nw hm r e q;unfold ie at e
 split at e
 ·obtain ⟨x,y,rfl,ra,rb⟩:=aQ r
  split at e
  ·rename_i hs
   cases e;exact ⟨_,_,ra,rb,(by have z:=Cn hs;exact z),q _ H (ac.refl _) rfl⟩
  ·cases e
 ·cases e
theorem os_mod:OpS K (r2 (rI (fun _ j=>0 < j) fun i j=> .int (i % j))) hU:=by
 intro vs ds H L Q d nw hm r e q;unfold hU at e
 split at e
 ·obtain ⟨x,y,rfl,ra,rb⟩:=aQ r
  split at e
  ·rename_i hs
   cases e;exact ⟨_,_,ra,rb,Cn hs,q _ H (ac.refl _) rfl⟩
  ·cases e
 ·cases e
theorem os_pow:OpS K (r2 (rI CPow fun i j=> .int (i ^ j.toNat))) yt:=by
 intro vs ds H L Q d nw hm r e q;unfold yt at e
 split at e
 ·obtain ⟨x,y,rfl,ra,rb⟩:=aQ r
  split at e
  ·rename_i hs
   cases e;exact ⟨_,_,ra,rb,(by have z:=Cn hs;exact z),q _ H (ac.refl _) rfl⟩
  ·cases e
 ·cases e
theorem os_lt:OpS K (r2 (rI0 fun i j=> .bl (decide (i < j)))) gLt:=by
 intro vs ds H L Q d nw hm r e q;unfold gLt at e
 split at e
 ·obtain ⟨x,y,rfl,ra,rb⟩:=aQ r
  cases e;exact ⟨_,_,ra,rb,q _ H (ac.refl _) rfl⟩
 ·cases e
theorem uu:OpS K (r2 (rI0 fun i j=> .bl (decide (i<=j)))) gLe:=by
 intro vs ds H L Q d nw hm r e q;unfold gLe at e
 split at e
 ·obtain ⟨x,y,rfl,ra,rb⟩:=aQ r
  cases e;exact ⟨_,_,ra,rb,q _ H (ac.refl _) rfl⟩
 ·cases e
theorem os_gt:OpS K (r2 (rI0 fun i j=> .bl (decide (j < i)))) gGt:=by
 intro vs ds H L Q d nw hm r e q;unfold gGt at e
 split at e
 ·obtain ⟨x,y,rfl,ra,rb⟩:=aQ r
  cases e;exact ⟨_,_,ra,rb,q _ H (ac.refl _) rfl⟩
 ·cases e
theorem BR:OpS K (r2 (rI0 fun i j=> .bl (decide (j<=i)))) gGe:=by
 intro vs ds H L Q d nw hm r e q;unfold gGe at e
 split at e
 ·obtain ⟨x,y,rfl,ra,rb⟩:=aQ r
  cases e;exact ⟨_,_,ra,rb,q _ H (ac.refl _) rfl⟩
 ·cases e
theorem os_is:OpS K (r2 rIsD) gIs:=by
 intro vs ds H L Q d nw hm r e q;unfold gIs at e
 split at e
 ·obtain ⟨x,y,rfl,ra,rb⟩:=aQ r
  cases e;refine .inl ⟨rb,?_⟩;rw [yh ra];exact q _ H (ac.refl _) rfl
 ·obtain ⟨x,y,rfl,ra,rb⟩:=aQ r
  cases e;exact .inr ⟨_,_,ra,rb,q _ H (ac.refl _) rfl⟩
 ·cases e
end
def gIx:List D->Option (D×Bool)
 | [.lst ds,.int i]=>match atI ds i with
  | some d=>some (d,false)
  | none=>none
 | [.klst ds,.int i]=>match atI ds i with
  | some d=>some (d,false)
  | none=>none
 | [.tup ds,.int i]=>match atI ds i with
  | some d=>some (d,false)
  | none=>none
 | [.ktup ds,.int i]=>match atI ds i with
  | some d=>some (d,false)
  | none=>none
 | _=>none
def gSl(lo hi:Option Int):D->Option (D×Bool)
 | .lst ds=>some (.lst (rD ds lo hi),true)
 | .klst ds=>some (.lst (rD ds lo hi),true)
 | .tup ds=>some (.tup (rD ds lo hi),false)
 | _=>none
def yr:List D->Option (D×Bool)
 | [d,.int i]=>gSl (some i) none d
 | _=>none
def A0(i j:Int):List D->Option (D×Bool)
 | [d]=>gSl (some i) (some j) d
 | _=>none
def Ai(K:EG):RSl:=fun x lo hi H Q=>rSlL K x lo hi H Q\/rSlD x lo hi H Q
section
variable{K:EG}
theorem pR{H:Hp}{ds:List D}{xs:List V}{i:Int}{d:D}(r:ag K H ds xs)(e:atI ds i=some d):∃ v,atI xs i=some v/\aF K H d v:=by
 unfold atI at e ⊢;rw [<- r.len]
 cases h:ixN ds.length i with
 | none=>rw [h] at e;cases e
 | some j =>
  rw [h] at e;obtain ⟨x,e1,e2⟩:=r.get (show ds[j]?=some d from e);exact ⟨x,e1,e2⟩
theorem os_ix:OpS K (r2 (rIx K)) gIx:=by
 intro vs ds H L Q d nw hm r e q;unfold gIx at e
 split at e
 ·rename_i es i
  obtain ⟨x,y,rfl,⟨p,xs,rfl,h1,h2⟩,rb⟩:=aQ r
  cases ea:atI es i with
  | none=>rw [ea] at e;cases e
  | some d' =>
   rw [ea] at e;cases e;obtain ⟨v,e1,e2⟩:=pR h2 ea;exact .inl ⟨p,xs,i,v,rfl,rb,.inl (.inl h1),e1,q v H (ac.refl _) e2⟩
 ·rename_i es i
  obtain ⟨x,y,rfl,⟨p,xs,rfl,h1,h2⟩,rb⟩:=aQ r
  cases ea:atI es i with
  | none=>rw [ea] at e;cases e
  | some d' =>
   rw [ea] at e;cases e;obtain ⟨v,e1,e2⟩:=pR h2 ea;exact .inl ⟨p,xs,i,v,rfl,rb,aA.seq h1,e1,q v H (ac.refl _) e2⟩
 ·rename_i es i
  obtain ⟨x,y,rfl,⟨p,xs,rfl,h1,h2⟩,rb⟩:=aQ r
  cases ea:atI es i with
  | none=>rw [ea] at e;cases e
  | some d' =>
   rw [ea] at e;cases e;obtain ⟨v,e1,e2⟩:=pR h2 ea;exact .inr (.inl ⟨p,xs,i,v,rfl,rb,.inl (.inl (ao h1).2),e1,q v H (ac.refl _) e2⟩)
 ·rename_i es i
  obtain ⟨x,y,rfl,⟨p,xs,rfl,h1,h2⟩,rb⟩:=aQ r
  cases ea:atI es i with
  | none=>rw [ea] at e;cases e
  | some d' =>
   rw [ea] at e;cases e;obtain ⟨v,e1,e2⟩:=pR h2 ea;exact .inr (.inl ⟨p,xs,i,v,rfl,rb,eA h1,e1,q v H (ac.refl _) e2⟩)
 ·cases e
theorem BA{H:Hp}{L:List Addr}{lo hi:Option Int}{x:V}{c d:D}{nw:Bool}{Q:VK}(hm:∀ p∈L,eO (H p))(r:fS K H (hid L H) c x)(e:gSl lo hi c=some (d,nw))(q:∀ v H',ac H H'->fQ K H H' L d nw v->Q v H'):Ai K x lo hi H Q:=by
 unfold gSl at e
 split at e
 ·obtain ⟨p,xs,rfl,h1,h2⟩:=r
  cases e;exact .inl ⟨p,xs,rfl,.inl (.inl h1),fun l hl=>q _ _ (ac.upd hl) (cc (h2.cut lo hi) hl)⟩
 ·obtain ⟨p,xs,rfl,h1,h2⟩:=r
  cases e;exact .inl ⟨p,xs,rfl,aA.seq h1,fun l hl=>q _ _ (ac.upd hl) (cc (h2.cut lo hi) hl)⟩
 ·obtain ⟨p,xs,rfl,h1,h2⟩:=r
  cases e;exact .inr ⟨p,xs,rfl,(ao h1).2,fun l H' hl s=>q _ _ s (gS hm (h2.cut lo hi) s hl)⟩
 ·cases e
theorem os_s10:OpS K (rS10 (Ai K)) yr:=by
 intro vs ds H L Q d nw hm r e q;unfold yr at e
 split at e
 ·obtain ⟨x,y,rfl,ra,rb⟩:=aQ r
  exact ⟨_,rb,BA hm ra e q⟩
 ·cases e
theorem os_s11{i j:Int}:OpS K (rS11 (Ai K) i j) (A0 i j):=by
 intro vs ds H L Q d nw hm r e q;unfold A0 at e
 split at e
 ·obtain ⟨x,rfl,ra⟩:=aC r
  exact ⟨i,rfl,j,rfl,BA hm ra e q⟩
 ·cases e
end
section
variable{X:Cx}
theorem AK:OpR X (binaryOp .Add) (fun x y H Q=>rI0 (fun i j=> .int (i+j)) x y H Q\/rCat x y H Q\/xj x y H Q):=op_add.or (xO.or AJ)
theorem uv:OpR X (binaryOp .Mult) (fun x y H Q=>rI wv (fun i j=> .int (i * j)) x y H Q\/Aj x y H Q):=op_mul.or op_rep
theorem wN:SlR X (Ai X.K):=zP.or zO
theorem op_isD:OpR X (compareOp .Is) rIsD:=op_isN.or op_isB
end
def ins(x:Int):List Int->List Int
 | []=>[x]
 | y::l=>if x<=y then x::y::l else y::ins x l
def cZ:List Int->List Int
 | []=>[]
 | x::l=>ins x (cZ l)
theorem ml(x:Int):∀ l:List Int,(ins x l).Perm (x::l)
 | []=> .refl _
 | y::l=>by
  unfold ins
  split
  ·exact .refl _
  ·exact ((ml x l).cons y).trans (.swap x y l)
theorem fu:∀ l:List Int,(cZ l).Perm l
 | []=> .refl _
 | x::l=>(ml x _).trans ((fu l).cons x)
theorem mj(x:Int):∀ {l:List Int},l.Pairwise (·<= ·)->(ins x l).Pairwise (·<= ·)
 | [],_=>by unfold ins;simp
 | y::l,h=>by
  unfold ins;have hy:=CY.mp h
  split
  ·rename_i hxy
   exact CY.mpr ⟨fun z hz=>(List.mem_cons.mp hz).elim (fun e=>e ▸ hxy) fun hz=>Int.le_trans hxy (hy.1 z hz),h⟩
  ·rename_i hxy
   refine CY.mpr ⟨fun z hz=> ?_,mj x hy.2⟩
   rcases List.mem_cons.mp ((ml x l).mem_iff.mp hz) with e | hz
   ·rw [e];omega
   ·exact hy.1 z hz
theorem ft:∀ l:List Int,(cZ l).Pairwise (·<= ·)
 | []=> .nil
 | x::l=>mj x (ft l)
theorem bo:∀ {a b:List Int},a.Pairwise (·<= ·)->b.Pairwise (·<= ·)->a.Perm b->a=b
 | [],b,_,_,h=>(h.symm.eq_nil).symm ▸ rfl
 | x::a,[],_,_,h=>absurd h.eq_nil (by simp)
 | x::a,y::b,h1,h2,h=>by
  have g1:=CY.mp h1;have g2:=CY.mp h2
  have e:x=y:=by
   have m1:x∈y::b:=h.mem_iff.mp Ck;have m2:y∈x::a:=h.mem_iff.mpr Ck;have l1:y<=x:=(List.mem_cons.mp m1).elim (fun e=>e ▸ Int.le_refl _) (g2.1 x);have l2:x<=y:=(List.mem_cons.mp m2).elim (fun e=>e ▸ Int.le_refl _) (g1.1 y);omega
  subst e;rw [bo g1.2 g2.2 h.cons_inv]
def g7:List Int->Int
 | []=>0
 | [x]=>x
 | x::y::l=>if g7 (y::l)<=x then x else g7 (y::l)
def gx:List Int->Int
 | []=>0
 | [x]=>x
 | x::y::l=>if x<=gx (y::l) then x else gx (y::l)
theorem kX:∀ {l:List Int},l≠[]->g7 l∈l/\∀ a∈l,a<=g7 l
 | [],h=>absurd rfl h
 | [x],_=>by unfold g7;simp
 | x::y::l,_=>by
  obtain ⟨h1,h2⟩:=kX (l:=y::l) (by simp);unfold g7
  split
  ·rename_i hx
   exact ⟨Ck,fun a ha=>(List.mem_cons.mp ha).elim (fun e=>e ▸ Int.le_refl _) fun ha=>Int.le_trans (h2 a ha) hx⟩
  ·rename_i hx
   exact ⟨Ce _ h1,fun a ha=>(List.mem_cons.mp ha).elim (fun e=>by rw [e];omega) (h2 a)⟩
theorem jh:∀ {l:List Int},l≠[]->gx l∈l/\∀ a∈l,gx l<=a
 | [],h=>absurd rfl h
 | [x],_=>by unfold gx;simp
 | x::y::l,_=>by
  obtain ⟨h1,h2⟩:=jh (l:=y::l) (by simp);unfold gx
  split
  ·rename_i hx
   exact ⟨Ck,fun a ha=>(List.mem_cons.mp ha).elim (fun e=>e ▸ Int.le_refl _) fun ha=>Int.le_trans hx (h2 a ha)⟩
  ·rename_i hx
   exact ⟨Ce _ h1,fun a ha=>(List.mem_cons.mp ha).elim (fun e=>by rw [e];omega) (h2 a)⟩
def dd(ns:List Int):List Int:=ns.foldl step_dedup []
theorem qW(ns:List Int):St2.dR ns ns.length=dd ns:=by
 unfold St2.dR firstMet dd
 congr 1
 apply Ea
 ·simp
 ·intro i h1 h2
  simp [h2]
theorem dd_any(ns:List Int)(x:Int):(dd ns).any (·== x)=true↔x∈ns:=by rw [<- qW];exact St3.jN ns x
theorem dd_mem(ns:List Int)(x:Int):x∈dd ns↔x∈ns:=by
 rw [<- dd_any ns x];simp
section
variable{X:Cx}
def sE(K:EG):List V->Hp->VK->Prop:=fun xs H Q=>∃ (p:Addr) (ns:List Int),xs=[V.ref p]/\SqT K H p (ns.map V.int)/\ns.length<=1000 /\
 ∀ l S,H l=none->(∀ x,S x=true↔x∈ns)->Q (.ref l) (upd H l (.set S (St2.dR ns ns.length).length))
theorem tO(hc:X.calm=true):ax X (.type "set") (sE X.K):=by
 intro pins s σ H xs us Q I r h;obtain ⟨p,ns,rfl,hq,hn,q⟩:=h;obtain ⟨u,rfl,ru⟩:=bx r;cases ru;obtain ⟨its,rv,pt,_⟩:=I.tuple hq
 have ln:its.length=ns.length:=by rw [<- rv.length,B9]
 refine St2.u5 (ns:=ns) (I.ok.hd hc) pt (by simpa using cF rv) (by rw [Cb,ln];unfold scanBound;omega) fun h' tk st kp=> ?_
 have sz:its.toArray.size=ns.length:=by rw [Cb,ln]
 rw [sz] at st;have hf:H s.heap.objs.size=none:=I.hok.fresh (Ci _);exact ⟨.ref s.heap.objs.size,_,I.laid (o:= .set _ _) (fun b o e=>kp b o (Cf e) e) (Ci _) st,rfl,q _ _ hf (St3.jN ns)⟩
end
def bu:List D->Option (D×Bool)
 | [.lst ds]=>some (.int ds.length,false)
 | [.klst ds]=>some (.int ds.length,false)
 | [.tup ds]=>some (.int ds.length,false)
 | [.ktup ds]=>some (.int ds.length,false)
 | [.dK ks _]=>some (.int ks.length,false)
 | [.dT ks _]=>some (.int ks.length,false)
 | [.set l]=>if decide (l.length<=1000)=true then some (.int l.length,false) else none
 | _=>none
def BI(X:Cx):List V->Hp->VK->Prop:=fun xs H Q=>(∃ p ys,xs=[V.ref p]/\(SqL X.K H p ys\/SqT X.K H p ys)/\Q (.int ys.length) H)\/(∃ a kvs,xs=[V.ref a]/\H a=some (.dK kvs)/\Q (.int kvs.length) H)\/(∃ a kvs,xs=[V.ref a]/\H a=some (.dT kvs)/\Q (.int kvs.length) H)\/uh xs H Q
theorem wd{X:Cx}:ax X (.builtin "len") (BI X):=pP.or (wc.or (wb.or rK))
theorem os_len{X:Cx}:OpS X.K (BI X) bu:=by
 intro vs ds H L Q d nw hm r e q;unfold bu at e
 split at e
 ·obtain ⟨x,rfl,⟨p,xs,rfl,h1,h2⟩⟩:=aC r
  cases e;exact .inl ⟨p,xs,rfl,.inl (.inl (.inl h1)),by rw [<- h2.len];exact q _ H (ac.refl _) rfl⟩
 ·obtain ⟨x,rfl,⟨p,xs,rfl,h1,h2⟩⟩:=aC r
  cases e;exact .inl ⟨p,xs,rfl,.inl (aA.seq h1),by rw [<- h2.len];exact q _ H (ac.refl _) rfl⟩
 ·obtain ⟨x,rfl,⟨p,xs,rfl,h1,h2⟩⟩:=aC r
  cases e;exact .inl ⟨p,xs,rfl,.inr (.inl (.inl (ao h1).2)),by rw [<- h2.len];exact q _ H (ac.refl _) rfl⟩
 ·obtain ⟨x,rfl,⟨p,xs,rfl,h1,h2⟩⟩:=aC r
  cases e;exact .inl ⟨p,xs,rfl,.inr (eA h1),by rw [<- h2.len];exact q _ H (ac.refl _) rfl⟩
 ·rename_i ks vs'
  obtain ⟨x,rfl,⟨p,xs,rfl,h1,h2,h3⟩⟩:=aC r;cases e;exact .inr (.inl ⟨p,_,rfl,h1,by rw [DT,<- h2,DR];exact q _ H (ac.refl _) rfl⟩)
 ·rename_i ks vs'
  obtain ⟨x,rfl,⟨p,xs,rfl,h1,h2,h3⟩⟩:=aC r;cases e;exact .inr (.inr (.inl ⟨p,_,rfl,h1,by rw [DT,<- h2,DR];exact q _ H (ac.refl _) rfl⟩))
 ·obtain ⟨x,rfl,⟨p,S,rfl,h1,h2⟩⟩:=aC r
  split at e
  ·rename_i hl
   cases e;exact .inr (.inr (.inr ⟨p,S,_,rfl,(ao h1).2,Cn hl,q _ H (ac.refl _) rfl⟩))
  ·cases e
 ·cases e
def pA:List D->Option (D×Bool)
 | [.lst ds]=>match aT ds with
  | some ns=>some (.int ns.sum,false)
  | none=>none
 | [.tup ds]=>match aT ds with
  | some ns=>some (.int ns.sum,false)
  | none=>none
 | _=>none
theorem vW{X:Cx}(hc:X.calm=true):ax X (.builtin "sum") (fun xs H Q=>xc X.K xs H Q\/xb X.K xs H Q):=(vV hc).or (vU hc)
theorem os_sum{K:EG}:OpS K (fun xs H Q=>xc K xs H Q\/xb K xs H Q) pA:=by
 intro vs ds H L Q d nw hm r e q;unfold pA at e
 split at e
 ·rename_i es
  obtain ⟨x,rfl,⟨p,xs,rfl,h1,h2⟩⟩:=aC r
  cases en:aT es with
  | none=>rw [en] at e;cases e
  | some ns =>
   rw [en] at e;cases e;rw [bf en] at h2;rw [aZ h2] at h1;exact .inl ⟨p,ns,rfl,.inl (.inl h1),q _ H (ac.refl _) rfl⟩
 ·rename_i es
  obtain ⟨x,rfl,⟨p,xs,rfl,h1,h2⟩⟩:=aC r
  cases en:aT es with
  | none=>rw [en] at e;cases e
  | some ns =>
   rw [en] at e;cases e;rw [bf en] at h2;rw [aZ h2] at h1;exact .inr ⟨p,ns,rfl,.inl (.inl (ao h1).2),q _ H (ac.refl _) rfl⟩
 ·cases e
def jQ:List D->Option (D×Bool)
 | [.lst ds]=>match ik ds with
  | some bs=>some (.bl (bs.all id),false)
  | none=>none
 | _=>none
def BL(K:EG):List V->Hp->VK->Prop:=fun xs H Q=>∃ (p:Addr) (bs:List Bool),xs=[V.ref p]/\SqL K H p (bs.map V.bl)/\Q (.bl (bs.all id)) H
theorem wg{X:Cx}(hc:X.calm=true):ax X (.builtin "all") (BL X.K):=yX hc
theorem os_all{K:EG}:OpS K (BL K) jQ:=by
 intro vs ds H L Q d nw hm r e q;unfold jQ at e
 split at e
 ·rename_i es
  obtain ⟨x,rfl,⟨p,xs,rfl,h1,h2⟩⟩:=aC r
  cases en:ik es with
  | none=>rw [en] at e;cases e
  | some ns =>
   rw [en] at e;cases e;rw [rN en] at h2;rw [ou h2] at h1;exact ⟨p,ns,rfl,.inl (.inl h1),q _ H (ac.refl _) rfl⟩
 ·cases e
def tyD:D->Option String
 | .non=>some "NoneType"
 | .bl _=>some "bool"
 | .int _=>some "int"
 | .str _=>some "str"
 | .lst _=>some "list"
 | .klst _=>some "list"
 | .tup _=>some "tuple"
 | .ktup _=>some "tuple"
 | .dK _ _=>some "dict"
 | .dT _ _=>some "dict"
 | _=>none
def fB(C:String):List D->Option (D×Bool)
 | [d]=>match tyD d with
  | some T=>some (.bl (AX T C),false)
  | none=>none
 | _=>none
theorem wB{K:EG}{H Hh:Hp}{d:D}{v:V}{T:String}(r:fS K H Hh d v)(s:ac Hh H)(e:tyD d=some T):BV K H T v:=by
 cases d<;>first
  | (unfold tyD at e;cases e;done)
  | (unfold tyD at e;cases e;have r:v=_:=r;subst r;rfl)
  | (unfold tyD at e;cases e;obtain ⟨p,xs,rfl,h1,h2,h3⟩:=r;exact .inr (.inr ⟨rfl,.inl ⟨_,h1⟩⟩))
  | (unfold tyD at e;cases e;obtain ⟨p,xs,rfl,h1,h2,h3⟩:=r;exact .inr (.inr ⟨rfl,.inr ⟨_,h1⟩⟩))
  | (unfold tyD at e;cases e;obtain ⟨p,xs,rfl,h1,h2⟩:=r;exact .inr (.inl ⟨rfl,xs,.inl (.inl (s _ _ h1))⟩))
  | (unfold tyD at e;cases e;obtain ⟨p,xs,rfl,h1,h2⟩:=r;exact .inr (.inl ⟨rfl,xs,eA h1⟩))
  | (unfold tyD at e;cases e;obtain ⟨p,xs,rfl,h1,h2⟩:=r;exact .inl ⟨rfl,xs,.inl (.inl h1)⟩)
  | (unfold tyD at e;cases e;obtain ⟨p,xs,rfl,h1,h2⟩:=r;exact .inl ⟨rfl,xs,s.seq h1⟩)
def rIsiC(K:EG)(C:String):List V->Hp->VK->Prop
 | [x],H,Q=>rIsi K [x,.ty C] H Q
 | _,_,_=>False
theorem os_isi{K:EG}{C:String}(hC:isiC C):OpS K (rIsiC K C) (fB C):=by
 intro vs ds H L Q d nw hm r e q;unfold fB at e
 split at e
 ·rename_i c
  obtain ⟨x,rfl,ra⟩:=aC r
  cases et:tyD c with
  | none=>rw [et] at e;cases e
  | some T =>
   rw [et] at e;cases e;exact ⟨x,T,C,rfl,hC,wB ra aA et,q _ H (ac.refl _) rfl⟩
 ·cases e
theorem uR{X:Cx}{EX:EXT}{e:Expr}{a:Arg}{C:String}{nC:Str}{p1 p2 pos:Pos}(hC:isiC C)(he:JB X EX e a)(g1:Gl X "isinstance")(m1:X.mg "isinstance" = none)(g2:Gl X nC)(m2:X.mg nC=none)(b2:bootBuiltins nC=some (.type C))
 (hn:nC ≠ "__name__" := by decide) (hdb:(nC == ("__debug__" : Str))=false:=by decide)
 (hs:starEach [e,.Name nC p1] X.env=(false,eval e X.env)::starEach [.Name nC p1] X.env:=by rfl):JE X EX (.Call (.Name "isinstance" p2) [e,.Name nC p1] [] pos) (sOp (fB C) [a]) :=
 ⟨(jc yW g1 m1 boot_isinstance (aB he.p (aB (ut (v:= .ty C) g2 m2 b2 rfl hn hdb) cD) hs) (he:=hs)).by fun σ H Q ⟨F,ρ,W,R,h⟩=>cu (os_isi hC) R h⟩
def yx:List D->Option (D×Bool)
 | [.int a,.int b]=>some (.int (if b > a then b else a),false)
 | [.lst ds]=>match aT ds with
  | some (n::ns)=>some (.int (g7 (n::ns)),false)
  | _=>none
 | _=>none
def A5:List D->Option (D×Bool)
 | [.int a,.int b]=>some (.int (if b < a then b else a),false)
 | [.lst ds]=>match aT ds with
  | some (n::ns)=>some (.int (gx (n::ns)),false)
  | _=>none
 | _=>none
def ug:List V->Hp->VK->Prop:=fun xs H Q=>∃ i j,xs=[.int i,.int j]/\Q (.int (if j > i then j else i)) H
def uf:List V->Hp->VK->Prop:=fun xs H Q=>∃ i j,xs=[.int i,.int j]/\Q (.int (if j < i then j else i)) H
theorem v9{X:Cx}(hc:X.calm=true):ax X (.builtin "max") (fun xs H Q=>ug xs H Q\/qC X.K xs H Q):=(wa hc).or (v7 hc)
theorem v4{X:Cx}(hc:X.calm=true):ax X (.builtin "min") (fun xs H Q=>uf xs H Q\/qB X.K xs H Q):=(v5 hc).or (vZ hc)
theorem mG{M N:Int}{l:List Int}(h1:M∈l)(h2:∀ a∈l,a<=M)(h3:N∈l)(h4:∀ a∈l,a<=N):M=N:=by have:=h2 N h3;have:=h4 M h1;omega
theorem me{M N:Int}{l:List Int}(h1:M∈l)(h2:∀ a∈l,M<=a)(h3:N∈l)(h4:∀ a∈l,N<=a):M=N:=by have:=h2 N h3;have:=h4 M h1;omega
theorem os_max{K:EG}:OpS K (fun xs H Q=>ug xs H Q\/qC K xs H Q) yx:=by
 intro vs ds H L Q d nw hm r e q;unfold yx at e
 split at e
 ·obtain ⟨x,y,rfl,ra,rb⟩:=aQ r
  cases e;exact .inl ⟨_,_,by rw [bC ra,bC rb],q _ H (ac.refl _) rfl⟩
 ·rename_i es
  obtain ⟨x,rfl,⟨p,xs,rfl,h1,h2⟩⟩:=aC r
  split at e
  ·rename_i n ns en
   cases e;rw [bf en] at h2;rw [aZ h2] at h1;refine .inr ⟨p,n::ns,rfl,.inl (.inl h1),by simp,fun M m1 m2=> ?_⟩;obtain ⟨z1,z2⟩:=kX (l:=n::ns) (by simp);rw [mG m1 m2 z1 z2];exact q _ H (ac.refl _) rfl
  ·cases e
 ·cases e
theorem os_min{K:EG}:OpS K (fun xs H Q=>uf xs H Q\/qB K xs H Q) A5:=by
 intro vs ds H L Q d nw hm r e q;unfold A5 at e
 split at e
 ·obtain ⟨x,y,rfl,ra,rb⟩:=aQ r
  cases e;exact .inl ⟨_,_,by rw [bC ra,bC rb],q _ H (ac.refl _) rfl⟩
 ·rename_i es
  obtain ⟨x,rfl,⟨p,xs,rfl,h1,h2⟩⟩:=aC r
  split at e
  ·rename_i n ns en
   cases e;rw [bf en] at h2;rw [aZ h2] at h1;refine .inr ⟨p,n::ns,rfl,.inl (.inl h1),by simp,fun M m1 m2=> ?_⟩;obtain ⟨z1,z2⟩:=jh (l:=n::ns) (by simp);rw [me m1 m2 z1 z2];exact q _ H (ac.refl _) rfl
  ·cases e
 ·cases e
def eB:List D->Option (D×Bool)
 | [.lst ds]=>match aT ds with
  | some ns=>if decide (ns.length < 64)=true then some (.lst ((cZ ns).map D.int),true) else none
  | none=>none
 | [.tup ds]=>match aT ds with
  | some ns=>if decide (ns.length < 64)=true then some (.lst ((cZ ns).map D.int),true) else none
  | none=>none
 | _=>none
theorem pN{X:Cx}:ax X (.builtin "sorted") (fun xs H Q=>iF X.K xs H Q\/iE X.K xs H Q):=pL.or pK
theorem vt{K:EG}:OpS K (fun xs H Q=>iF K xs H Q\/iE K xs H Q) eB:=by
 intro vs ds H L Q d nw hm r e q;unfold eB at e
 have fin:∀ (ns:List Int) l (ms:List Int),H l=none->List.Perm ms ns->ms.Pairwise (·<= ·)->(∀ v H',ac H H'->fQ K H H' L (.lst ((cZ ns).map D.int)) true v->Q v H')->Q (.ref l) (upd H l (.lst (ms.map V.int))):=fun ns l ms hl hp hs q=>by
  have:ms=cZ ns:=bo hs (ft ns) (hp.trans (fu ns).symm);subst this;exact q _ _ (ac.upd hl) (cc (dM _) hl)
 split at e
 ·rename_i es
  obtain ⟨x,rfl,⟨p,xs,rfl,h1,h2⟩⟩:=aC r
  cases en:aT es with
  | none=>rw [en] at e;cases e
  | some ns =>
   rw [en] at e;dsimp only at e
   split at e
   ·rename_i hl
    cases e;rw [bf en] at h2;rw [aZ h2] at h1;exact .inl ⟨p,ns,rfl,.inl (.inl h1),Cn hl,fun l ms a b c=>fin ns l ms a b c q⟩
   ·cases e
 ·rename_i es
  obtain ⟨x,rfl,⟨p,xs,rfl,h1,h2⟩⟩:=aC r
  cases en:aT es with
  | none=>rw [en] at e;cases e
  | some ns =>
   rw [en] at e;dsimp only at e
   split at e
   ·rename_i hl
    cases e;rw [bf en] at h2;rw [aZ h2] at h1;exact .inr ⟨p,ns,rfl,.inl (.inl (ao h1).2),Cn hl,fun l ms a b c=>fin ns l ms a b c q⟩
   ·cases e
 ·cases e
def gk(lo:Int)(n:Nat):List D:=(List.range n).map fun k=> .int (lo+(k:Nat))
def rngV(lo:Int)(n:Nat):List V:=(List.range n).map fun k=> .int (lo+(k:Nat))
theorem qu{K:EG}{H:Hp}(lo:Int)(n:Nat):ag K H (gk lo n) (rngV lo n):=by
 have:=dM (K:=K) (H:=H) ((List.range n).map fun k=>lo+((k:Nat):Int));rw [CK,CK] at this;exact this
def qt(lo hi:Int):Bool:=decide (-1000000000<=lo/\lo<=1000000000 /\ -1000000000<=hi/\hi<=1000000000/\(hi - lo).toNat<=1000)
def yy:List D->Option (D×Bool)
 | [.lst ds]=>some (.lst ds,true)
 | [.tup ds]=>some (.lst ds,true)
 | [.ktup ds]=>some (.lst ds,true)
 | [.rng lo hi]=>if qt lo hi=true then some (.lst (gk lo (hi - lo).toNat),true) else none
 | _=>none
def dl:List D->Option (D×Bool)
 | [.lst ds]=>some (.tup ds,false)
 | [.tup ds]=>some (.tup ds,false)
 | [.rng lo hi]=>if qt lo hi=true then some (.tup (gk lo (hi - lo).toNat),false) else none
 | _=>none
def kU(K:EG):List V->Hp->VK->Prop:=fun xs H Q=>∃ p ys,xs=[.ref p]/\(SqL K H p ys\/SqT K H p ys)/\∀ l,H l=none->Q (.ref l) (upd H l (.lst ys))
def qA(K:EG):List V->Hp->VK->Prop:=fun xs H Q=>∃ p ys,xs=[.ref p]/\((SqL K H p ys/\∀ l,H l=none->Q (.ref l) (upd H l (.tup ys)))\/(SqT K H p ys/\Q (.ref p) H))
theorem tS{X:Cx}(hc:X.calm=true):ax X (.type "list") (fun xs H Q=>kU X.K xs H Q\/lO xs H Q):=pO.or (tR hc)
theorem rG{X:Cx}(hc:X.calm=true):ax X (.type "tuple") (fun xs H Q=>qA X.K xs H Q\/xa xs H Q):=nr.or (vT hc)
theorem AD{K:EG}:OpS K (fun xs H Q=>kU K xs H Q\/lO xs H Q) yy:=by
 intro vs ds H L Q d nw hm r e q;unfold yy at e
 split at e
 ·obtain ⟨x,rfl,⟨p,xs,rfl,h1,h2⟩⟩:=aC r
  cases e;exact .inl ⟨p,xs,rfl,.inl (.inl (.inl h1)),fun l hl=>q _ _ (ac.upd hl) (cc h2 hl)⟩
 ·obtain ⟨x,rfl,⟨p,xs,rfl,h1,h2⟩⟩:=aC r
  cases e;exact .inl ⟨p,xs,rfl,.inr (.inl (.inl (ao h1).2)),fun l hl=>q _ _ (ac.upd hl) (cc h2 hl)⟩
 ·obtain ⟨x,rfl,⟨p,xs,rfl,h1,h2⟩⟩:=aC r
  cases e;exact .inl ⟨p,xs,rfl,.inr (eA h1),fun l hl=>q _ _ (ac.upd hl) (cc h2 hl)⟩
 ·rename_i lo hi
  obtain ⟨x,rfl,⟨p,rfl,h1⟩⟩:=aC r
  split at e
  ·rename_i hk
   cases e;have hk:=Cn hk;exact .inr ⟨p,lo,hi,rfl,(ao h1).2,by omega,by omega,by omega,by omega,hk.2.2.2.2,fun l hl=>q _ _ (ac.upd hl) (cc (qu _ _) hl)⟩
  ·cases e
 ·cases e
theorem xG{K:EG}:OpS K (fun xs H Q=>qA K xs H Q\/xa xs H Q) dl:=by
 intro vs ds H L Q d nw hm r e q;unfold dl at e
 split at e
 ·obtain ⟨x,rfl,⟨p,xs,rfl,h1,h2⟩⟩:=aC r
  cases e;exact .inl ⟨p,xs,rfl,.inl ⟨.inl (.inl h1),fun l hl=>q _ _ (ac.upd hl) (gS hm h2 (ac.upd hl) aj)⟩⟩
 ·obtain ⟨x,rfl,⟨p,xs,rfl,h1,h2⟩⟩:=aC r
  cases e;exact .inl ⟨p,xs,rfl,.inr ⟨.inl (.inl (ao h1).2),q _ _ (ac.refl _) ⟨p,xs,rfl,h1,h2⟩⟩⟩
 ·rename_i lo hi
  obtain ⟨x,rfl,⟨p,rfl,h1⟩⟩:=aC r
  split at e
  ·rename_i hk
   cases e;have hk:=Cn hk;exact .inr ⟨p,lo,hi,rfl,(ao h1).2,by omega,by omega,by omega,by omega,hk.2.2.2.2,fun l hl=>q _ _ (ac.upd hl) (gS hm (qu _ _) (ac.upd hl) aj)⟩
  ·cases e
 ·cases e
def vK:List D->Option (D×Bool)
 | [.lst ds]=>match aT ds with
  | some ns=>if decide (ns.length<=1000)=true then some (.set (dd ns),false) else none
  | none=>none
 | [.tup ds]=>match aT ds with
  | some ns=>if decide (ns.length<=1000)=true then some (.set (dd ns),false) else none
  | none=>none
 | _=>none
theorem vX{X:Cx}(hc:X.calm=true):ax X (.type "set") (fun xs H Q=>sG X.K xs H Q\/sE X.K xs H Q):=(tP hc).or (tO hc)
theorem iJ{K:EG}{H:Hp}{L:List Addr}{p:Addr}{o:HO}(hm:∀ p∈L,eO (H p))(hp:H p=none):hid L (upd H p o) p=some o:=by
 rw [aJ (fun z=>by have:=hm p z;rw [hp] at this;exact this)];exact aj
theorem os_set{K:EG}:OpS K (fun xs H Q=>sG K xs H Q\/sE K xs H Q) vK:=by
 intro vs ds H L Q d nw hm r e q;unfold vK at e
 have fin:∀ (ns:List Int) l (S:Int->Bool),H l=none->(∀ x,S x=true↔x∈ns)->(∀ v H',ac H H'->fQ K H H' L (.set (dd ns)) false v->Q v H')->Q (.ref l) (upd H l (.set S (St2.dR ns ns.length).length)):=fun ns l S hl hS q=>by
  rw [qW];exact q _ _ (ac.upd hl) ⟨l,S,rfl,iJ (K:=K) hm hl,fun x=>(hS x).trans (dd_mem ns x).symm⟩
 split at e
 ·rename_i es
  obtain ⟨x,rfl,⟨p,xs,rfl,h1,h2⟩⟩:=aC r
  cases en:aT es with
  | none=>rw [en] at e;cases e
  | some ns =>
   rw [en] at e;dsimp only at e
   split at e
   ·rename_i hl
    cases e;rw [bf en] at h2;rw [aZ h2] at h1;exact .inl ⟨p,ns,rfl,.inl (.inl h1),Cn hl,fun l S a b=>fin ns l S a b q⟩
   ·cases e
 ·rename_i es
  obtain ⟨x,rfl,⟨p,xs,rfl,h1,h2⟩⟩:=aC r
  cases en:aT es with
  | none=>rw [en] at e;cases e
  | some ns =>
   rw [en] at e;dsimp only at e
   split at e
   ·rename_i hl
    cases e;rw [bf en] at h2;rw [aZ h2] at h1;exact .inr ⟨p,ns,rfl,.inl (.inl (ao h1).2),Cn hl,fun l S a b=>fin ns l S a b q⟩
   ·cases e
 ·cases e
def yC:List D->Option (D×Bool)
 | [.int i]=>some (.int i,false)
 | [.bl b]=>some (.int (if b then 1 else 0),false)
 | _=>none
def BJ:List V->Hp->VK->Prop:=fun xs H Q=>(∃ i,xs=[.int i]/\Q (.int i) H)\/∃ k,xs=[.bl k]/\Q (.int (if k then 1 else 0)) H
theorem we{X:Cx}:ax X (.type "int") BJ:=wf
theorem os_int{K:EG}:OpS K BJ yC:=by
 intro vs ds H L Q d nw hm r e q;unfold yC at e
 split at e
 ·obtain ⟨x,rfl,ra⟩:=aC r
  cases e;exact .inl ⟨_,by rw [bC ra],q _ H (ac.refl _) rfl⟩
 ·obtain ⟨x,rfl,ra⟩:=aC r
  cases e;exact .inr ⟨_,by rw [zV ra],q _ H (ac.refl _) rfl⟩
 ·cases e
def yG:List D->Option (D×Bool)
 | [.int i]=>some (.int (if i < 0 then -i else i),false)
 | _=>none
def BM:List V->Hp->VK->Prop:=fun xs H Q=>∃ i,xs=[.int i]/\Q (.int (if i < 0 then -i else i)) H
theorem wj{X:Cx}:ax X (.builtin "abs") BM:=yY
theorem os_abs{K:EG}:OpS K BM yG:=by
 intro vs ds H L Q d nw hm r e q;unfold yG at e
 split at e
 ·obtain ⟨x,rfl,ra⟩:=aC r
  cases e;exact ⟨_,by rw [bC ra],q _ H (ac.refl _) rfl⟩
 ·cases e
def gA:List D->Option (D×Bool)
 | [.int j]=>some (.rng 0 j,false)
 | [.int i,.int j]=>some (.rng i j,false)
 | _=>none
def BG:List V->Hp->VK->Prop:=fun xs H Q=>(∃ j:Int,xs=[V.int j]/\∀ l,H l=none->Q (.ref l) (upd H l (.rng 0 j)))\/(∃ i j:Int,xs=[V.int i,V.int j]/\∀ l,H l=none->Q (.ref l) (upd H l (.rng i j)))
theorem rH{X:Cx}:ax X (.type "range") BG:=yV
theorem xK{K:EG}:OpS K BG gA:=by
 intro vs ds H L Q d nw hm r e q;unfold gA at e
 split at e
 ·obtain ⟨x,rfl,ra⟩:=aC r
  cases e;exact .inl ⟨_,by rw [bC ra],fun l hl=>q _ _ (ac.upd hl) ⟨l,rfl,iJ (K:=K) hm hl⟩⟩
 ·obtain ⟨x,y,rfl,ra,rb⟩:=aQ r
  cases e;exact .inr ⟨_,_,by rw [bC ra,bC rb],fun l hl=>q _ _ (ac.upd hl) ⟨l,rfl,iJ (K:=K) hm hl⟩⟩
 ·cases e
def fN:D->Option Key
 | .int i=>some (.inl i)
 | .str x=>some (.inr x)
 | _=>none
def iO:List D->Option (List Key)
 | []=>some []
 | d::ds=>match fN d,iO ds with
  | some k,some l=>some (k::l)
  | _,_=>none
theorem jO{K:EG}{H:Hp}{d:D}{v:V}{k:Key}(e:fN d=some k)(r:aF K H d v):v=kV k:=by
 cases d<;>first | (unfold fN at e;cases e;done) | (unfold fN at e;cases e;exact r)
theorem iN{K:EG}{H:Hp}:∀ {ds:List D} {xs:List V} {k:List Key},iO ds=some k->ag K H ds xs->xs=k.map kV
 | [],[],k,e,_=>by unfold iO at e;cases e;rfl
 | d::ds,x::xs,k,e,h=>by
  unfold iO at e
  cases e1:fN d with
  | none=>rw [e1] at e;cases e
  | some k1 =>
   cases e2:iO ds with
   | none=>rw [e1,e2] at e;cases e
   | some l =>
    rw [e1,e2] at e;cases e;rw [jO e1 h.1,iN e2 h.2];rfl
 | [],_::_,_,_,h=>h.elim
 | _::_,[],_,_,h=>h.elim
section
variable{κ:Type}[DecidableEq κ]
def br:List κ->List D->κ->Option D
 | k::ks,d::ds,x=>if k=x then some d else br ks ds x
 | _,_,_=>none
def fR:List κ->List D->κ->D->List κ×List D
 | k::ks,d::ds,x,y=>if k=x then (k::ks,y::ds) else ((k::(fR ks ds x y).1),d::(fR ks ds x y).2)
 | _,_,x,y=>([x],[y])
theorem e7{K:EG}{H:Hp}:∀ {ks:List κ} {ds:List D} {xs:List V} {x:κ},ks.length=xs.length->ag K H ds xs ->
 (∀ d,br ks ds x=some d->∃ v,dG (ks.zip xs) x=some v/\aF K H d v)/\(br ks ds x=none->dG (ks.zip xs) x=none)
 | [],[],[],_,_,_=>⟨fun d h=>(by unfold br at h;cases h),fun _=>rfl⟩
 | k::ks,d::ds,y::xs,x,hl,h=>by
  obtain ⟨i1,i2⟩:=e7 (x:=x) (Nat.succ.inj hl) h.2;have hl:ks.length=xs.length:=Nat.succ.inj hl;rw [EC]
  by_cases e:k=x
  ·rw [iV (p:=(k,y)) e]
   refine ⟨fun d' hd=> ?_,fun hd=> ?_⟩
   ·unfold br at hd;rw [if_pos e] at hd;cases hd;exact ⟨y,rfl,h.1⟩
   ·unfold br at hd;rw [if_pos e] at hd;cases hd
  ·rw [iW (p:=(k,y)) e]
   refine ⟨fun d' hd=> ?_,fun hd=> ?_⟩
   ·unfold br at hd;rw [if_neg e] at hd;exact i1 d' hd
   ·unfold br at hd;rw [if_neg e] at hd;exact i2 hd
 | [],_::_,[],_,_,h=>h.elim
 | [],[],_::_,_,_,h=>h.elim
 | [],_::_,_::_,_,hl,_=>by simp at hl
 | _::_,[],[],_,hl,_=>by simp at hl
 | _::_,[],_::_,_,_,h=>h.elim
 | _::_,_::_,[],_,_,h=>h.elim
def jb:List κ->List V->κ->V->List κ×List V
 | k::ks,d::ds,x,y=>if k=x then (k::ks,y::ds) else ((k::(jb ks ds x y).1),d::(jb ks ds x y).2)
 | _,_,x,y=>([x],[y])
theorem lQ{K:EG}{H:Hp}{d:D}{v:V}(r:aF K H d v):∀ {ks:List κ} {ds:List D} {xs:List V} {x:κ},ks.length=xs.length->ag K H ds xs ->
 (jb ks xs x v).1=(fR ks ds x d).1/\ag K H (fR ks ds x d).2 (jb ks xs x v).2/\(jb ks xs x v).1.length=(jb ks xs x v).2.length
 | [],[],[],_,_,_=>⟨rfl,⟨r,trivial⟩,rfl⟩
 | k::ks,e::ds,y::xs,x,hl,h=>by
  obtain ⟨i1,i2,i3⟩:=lQ (x:=x) r (Nat.succ.inj hl) h.2;unfold jb fR;have hl:ks.length=xs.length:=Nat.succ.inj hl
  by_cases z:k=x
  ·rw [if_pos z,if_pos z]
   exact ⟨rfl,⟨r,h.2⟩,by simp [hl]⟩
  ·rw [if_neg z,if_neg z]
   exact ⟨by show k::_=k::_;rw [i1],⟨h.1,i2⟩,by show (k::_).length=(y::_).length;rw [Cc,Cc,i3]⟩
 | [],_::_,[],_,_,h=>h.elim
 | [],[],_::_,_,_,h=>h.elim
 | [],_::_,_::_,_,hl,_=>by simp at hl
 | _::_,[],[],_,hl,_=>by simp at hl
 | _::_,[],_::_,_,_,h=>h.elim
 | _::_,_::_,[],_,_,h=>h.elim
theorem lP{v:V}:∀ {ks:List κ} {xs:List V} {x:κ},ks.length=xs.length->ks.Nodup->(jb ks xs x v).1.zip (jb ks xs x v).2=iG (ks.zip xs) x v
 | [],[],x,_,_=>rfl
 | k::ks,y::xs,x,hl,nd=>by
  have hl:ks.length=xs.length:=Nat.succ.inj hl;have nd:=CS.mp nd;have ih:=lP (v:=v) (x:=x) hl nd.2;unfold jb;rw [EC]
  by_cases z:k=x
  ·rw [if_pos z,EC]
   unfold iG;rw [if_pos (by simp [z]),Cq,if_pos z]
   congr 1
   symm
   have:∀ p∈ks.zip xs,(if p.1=x then (p.1,v) else p)=p:=fun p hp=>by
    rw [if_neg (fun e=>nd.1 (by rw [z,<- e];exact (Ex (show (p.1,p.2)∈_ from hp)).1))]
   exact (CO this).trans (List.map_id' _)
  ·rw [if_neg z]
   show ((k,y)::(jb ks xs x v).1.zip (jb ks xs x v).2)=_
   rw [ih];unfold iG
   have:(((k,y)::ks.zip xs).any fun kv=>decide (kv.1=x))=(ks.zip xs).any fun kv=>decide (kv.1=x):=by rw [List.any_cons];simp [z]
   rw [this]
   split
   ·rw [Cq,if_neg z]
   ·rfl
 | [],_::_,_,hl,_=>by simp at hl
 | _::_,[],_,hl,_=>by simp at hl
end
def kl(ds:List D)(d:D):Bool:=ds.any fun e=>eqD e d
def gInD:D->D->Option Bool
 | d,.lst ds=>if (ae 9 d&&ds.all (ae 9))=true then some (kl ds d) else none
 | d,.tup ds=>if (ae 9 d&&ds.all (ae 9))=true then some (kl ds d) else none
 | d,.ktup ds=>if (ae 9 d&&ds.all (ae 9))=true then some (kl ds d) else none
 | .int i,.rng lo hi=>some (decide (lo<=i/\i < hi))
 | d,.dK ks vs=>match fN d with
  | some k=>some (br ks vs k).isSome
  | none=>none
 | .tup ds,.dT ks vs=>match iO ds with
  | some k=>some (br ks vs k).isSome
  | none=>none
 | _,_=>none
def gIn:List D->Option (D×Bool)
 | [d,c]=>match gInD d c with
  | some b=>some (.bl b,false)
  | none=>none
 | _=>none
def rInS(K:EG)(neg:Bool):R2:=fun x y H Q=>∃ (d:D) (p:Addr) (xs:List V) (ds:List D),y = .ref p/\(SqL K H p xs\/SqT K H p xs)/\ag K H ds xs/\ds.all (ae 9)=true/\aF K H d x/\ae 9 d=true/\Q (.bl (if neg then !kl ds d else kl ds d)) H
def BK(neg:Bool):R2:=fun y x H Q=>∃ a o,x = .ref a/\nB H a y o/\Q (.bl (if neg then !o.isSome else o.isSome)) H
def Ak(K:EG)(neg:Bool):R2:=fun x y H Q=>rInS K neg x y H Q\/rInR neg x y H Q\/BK neg x y H Q
section
variable{X:Cx}
open Classical in
theorem re{pins:List (Addr×Obj)}{σ:St}{H:Hp}{s:Shared}(I:Inv X pins σ H s)(hu:X.A.units+10 < cLine){d:D}{ds:List D}{x:V}{u:Value}{xs:List V}{its:List Value}(rd:ag X.K H ds xs)(rv:aw xs its)(hds:ds.all (ae 9)=true)(r:aF X.K H d x)(hd:ae 9 d=true)(ru:aD x u) :
 ∃ e:Value->Bool,(∀ y,y∈its.toArray->SeqAt.EqAt X.A.in1 s y u (e y))/\its.toArray.any e=kl ds d:=by
 refine ⟨fun y=>decide (∃ (j:Nat) (d':D),ds[j]?=some d'/\its[j]?=some y/\eqD d' d=true),fun y hy=> ?_,?_⟩
 ·have hy:y∈its:=by simpa using hy
  obtain ⟨j,hj,rfl⟩:=DF.mp hy;obtain ⟨v,ev,rv1⟩:=a6 rv hj;obtain ⟨d',e1,q1⟩:=rd.get' ev;have hd':=Co.mp hds _ (Cp e1);have z:=tF I 9 (A:=X.A.in1) (by show X.A.units+1+9 < cLine;omega) hd' hd q1 r rv1 ru
  have e:decide (∃ (j':Nat) (d':D),ds[j']?=some d'/\its[j']?=some its[j]/\eqD d' d=true)=eqD d' d:=by
   cases hq:eqD d' d with
   | true=>exact Cr ⟨j,d',e1,B8 hj,hq⟩
   | false =>
    refine CG fun hZ=> ?_
    obtain ⟨j2,d2,g1,g2,g3⟩:=hZ;obtain ⟨hj2,g2'⟩:=Cm.mp g2;obtain ⟨v2,ev2,rv2⟩:=a6 rv hj2;rw [g2'] at rv2;have:v2=v:=rv2.inj rv1;subst this;obtain ⟨d3,e3,q3⟩:=rd.get' ev2;rw [g1] at e3;cases e3;have hn:=gn I 9 9 (Co.mp hds _ (Cp g1)) hd' q3 q1 rv1;unfold eqD at g3 hq;rw [hn,hq] at g3;cases g3
  dsimp only;rw [e];exact z
 ·rw [DI]
  unfold kl;simp only [List.any_toArray,List.any_eq_true]
  constructor
  ·rintro ⟨y,hy,hq⟩
   obtain ⟨j,d',g1,g2,g3⟩:=Cn hq;exact ⟨d',Cp g1,g3⟩
  ·rintro ⟨d',hd',hq⟩
   obtain ⟨j,hj,rfl⟩:=DF.mp hd'
   have hji:j < its.length:=by rw [<- rv.length,<- rd.len];exact hj
   exact ⟨its[j],C6 hji,Cr ⟨j,_,B8 hj,B8 hji,hq⟩⟩
theorem op_inS(hu:X.A.units+10 < cLine):OpR X (compareOp .In) (rInS X.K false):=by
 intro pins s σ H x y v u Q I rx ry h;obtain ⟨d,p,xs,ds,rfl,hq,rd,hds,r,hd,q⟩:=h;cases ry
 rcases hq with hq | hq
 ·obtain ⟨its,rv,pl,_⟩:=I.list hq
  obtain ⟨e,he,ee⟩:=re I hu rd rv hds r hd rx;refine SeqAt.in_listAt e pl.isList he ⟨.bl _,H,I,rfl,?_⟩;rw [ee];exact q
 ·obtain ⟨its,rv,pl,_⟩:=I.tuple hq
  obtain ⟨e,he,ee⟩:=re I hu rd rv hds r hd rx;refine SeqAt.in_tupleAt e (show s.heap.IsTuple p its.toArray from pl) he ⟨.bl _,H,I,rfl,?_⟩;rw [ee];exact q
theorem AG(hu:X.A.units+1 < cLine):OpR X (compareOp .In) (BK false):=by
 intro pins s σ H y x u v Q I ry rx h;obtain ⟨a,o,rfl,g,q⟩:=h;cases rx
 exact d_in hu I g ry fun s3 I3=>⟨.bl o.isSome,H,I3,rfl,q⟩
theorem op_inA(hu:X.A.units+10 < cLine):OpR X (compareOp .In) (Ak X.K false):=(op_inS hu).or (op_inR.or (AG (by omega)))
end
section
variable{K:EG}
theorem dget_k{H Hh:Hp}{p:Addr}{ks:List Key}{ds:List D}{xs:List V}{k:Key}{y:V}(h1:H p=some (.dK (ks.zip xs)))(hl:ks.length=xs.length)(h2:ag K Hh ds xs)(hy:y=kV k) :
 ∃ o,nB H p y o/\o.isSome=(br ks ds k).isSome/\∀ d,br ks ds k=some d->∃ v,o=some v/\aF K Hh d v:=by
 subst hy;obtain ⟨i1,i2⟩:=e7 (x:=k) hl h2;refine ⟨_,nB.k (k:=k) h1,?_,fun d hd=>i1 d hd⟩
 cases e:br ks ds k with
 | none=>rw [i2 e];rfl
 | some d=>obtain ⟨v,e1,_⟩:=i1 d e;rw [e1];rfl
theorem dget_t{H Hh:Hp}{p b:Addr}{ks:List (List Key)}{ds:List D}{xs:List V}{k:List Key}(h1:H p=some (.dT (ks.zip xs)))(hl:ks.length=xs.length)(h2:ag K Hh ds xs)(hb:H b=some (.tup (k.map kV))) :
 ∃ o,nB H p (.ref b) o/\o.isSome=(br ks ds k).isSome/\∀ d,br ks ds k=some d->∃ v,o=some v/\aF K Hh d v:=by
 obtain ⟨i1,i2⟩:=e7 (x:=k) hl h2;refine ⟨_,nB.t (k:=k) h1 hb,?_,fun d hd=>i1 d hd⟩
 cases e:br ks ds k with
 | none=>rw [i2 e];rfl
 | some d=>obtain ⟨v,e1,_⟩:=i1 d e;rw [e1];rfl
theorem in_of{H:Hp}{L:List Addr}{d c:D}{x y:V}{b neg:Bool}{Q:VK}(ra:fS K H (hid L H) d x)(rb:fS K H (hid L H) c y)(e:gInD d c=some b)(q:Q (.bl (if neg then !b else b)) H):Ak K neg x y H Q:=by
 have seq:∀ (p:Addr) (xs:List V) (ds:List D),y = .ref p->(SqL K H p xs\/SqT K H p xs)->ag K (hid L H) ds xs->(if (ae 9 d&&ds.all (ae 9))=true then some (kl ds d) else none)=some b->Ak K neg x y H Q:=fun p xs ds hy hs hr e=>by
  split at e
  ·rename_i hc
   have hc:=(Cv _ _).mp hc;cases e;exact .inl ⟨d,p,xs,ds,hy,hs,aA.repDs hr,hc.2,ra.d aA,hc.1,q⟩
  ·cases e
 unfold gInD at e
 split at e
 ·obtain ⟨p,xs,rfl,h1,h2⟩:=rb
  exact seq p xs _ rfl (.inl (.inl (.inl h1))) h2 e
 ·obtain ⟨p,xs,rfl,h1,h2⟩:=rb
  exact seq p xs _ rfl (.inr (.inl (.inl (ao h1).2))) h2 e
 ·obtain ⟨p,xs,rfl,h1,h2⟩:=rb
  exact seq p xs _ rfl (.inr (eA h1)) h2 e
 ·obtain ⟨p,rfl,h1⟩:=rb
  cases e;exact .inr (.inl ⟨p,_,_,_,ra,rfl,(ao h1).2,q⟩)
 ·obtain ⟨p,xs,rfl,h1,h2,h3⟩:=rb
  split at e
  ·rename_i k ek
   cases e;obtain ⟨o,g1,g2,_⟩:=dget_k (k:=k) h1 h2 h3 (jO ek (ra.d aA));exact .inr (.inr ⟨p,o,rfl,g1,by rw [g2];exact q⟩)
  ·cases e
 ·obtain ⟨p,xs,rfl,h1,h2,h3⟩:=rb
  obtain ⟨b',ys,rfl,h4,h5⟩:=ra
  split at e
  ·rename_i k ek
   cases e;have h4:=(ao h4).2;rw [iN ek h5] at h4;obtain ⟨o,g1,g2,_⟩:=dget_t (k:=k) h1 h2 h3 h4;exact .inr (.inr ⟨p,o,rfl,g1,by rw [g2];exact q⟩)
  ·cases e
 ·cases e
theorem os_in:OpS K (r2 (Ak K false)) gIn:=by
 intro vs ds H L Q d nw hm r e q;unfold gIn at e
 split at e
 ·obtain ⟨x,y,rfl,ra,rb⟩:=aQ r
  split at e
  ·rename_i b eb
   cases e;exact in_of ra rb eb (q _ H (ac.refl _) rfl)
  ·cases e
 ·cases e
end
def cj(j:Nat)(u:D->List D->Option (D×D))(fs:List SE):SE:=fun ρ=>match ρ[j]? with
 | some (some (_,.fz))=>none
 | some (some (.lst _,_))=>match evA (fs.map Arg.ex) ρ with
  | some (.ok ds,ρ1)=>match ρ1[j]? with
   | some (some (c,.ow))=>match u c ds with
    | some (c',d)=>some (.ok d false,ρ1.set j (some (c',.ow)))
    | none=>none
   | some (some (c,.io))=>match u c ds with
    | some (c',d)=>some (.ok d false,ρ1.set j (some (c',.io)))
    | none=>none
   | _=>none
  | some (.ex C,ρ1)=>some (.ex C,ρ1)
  | none=>none
 | _=>none
def MeS(K:EG)(r:V->List V->Hp->VK->Prop)(u:D->List D->Option (D×D)):Prop :=
 ∀ (H:Hp) (L:List Addr) (p:Addr) (c:D) (ds:List D) (vs:List V) (c' d:D) (Q:VK),aI K H (hid L H) p c->p∈L->ag K (hid L H) ds vs->u c ds=some (c',d) ->
  (∀ v o,aI K (upd H p o) (hid L H) p c'->aF K (hid L H) d v->Q v (upd H p o))->r (.ref p) vs H Q
section
variable{K:EG}{EX:EXT}{σ:St}{H:Hp}{Q:VK}
theorem AR{j:Nat}{u:D->List D->Option (D×D)}{fs:List SE}{r:V->List V->Hp->VK->Prop}(hs:MeS K r u)(hw:tV K EX (cj j u fs) σ H Q):tBM K "list" r (wJ j) (tAs K EX (fs.map Arg.ex)) σ H Q:=by
 obtain ⟨F,ρ,W,R,h⟩:=hw;unfold cj at h
 revert h
 cases e0:ρ[j]? with
 | none=>exact fun h=>h.elim
 | some z =>
  cases z with
  | none=>exact fun h=>h.elim
  | some z =>
   obtain ⟨c0,m0⟩:=z
   have go:m0 ≠ .fz->∀ es,c0 = .lst es->OkV K F EX σ H W (match evA (fs.map Arg.ex) ρ with
    | some (.ok ds,ρ1)=>match ρ1[j]? with
     | some (some (c,.ow))=>match u c ds with
      | some (c',d)=>some (.ok d false,ρ1.set j (some (c',.ow)))
      | none=>none
     | some (some (c,.io))=>match u c ds with
      | some (c',d)=>some (.ok d false,ρ1.set j (some (c',.io)))
      | none=>none
     | _=>none
    | some (.ex C,ρ1)=>some (.ex C,ρ1)
    | none=>none) Q->tBM K "list" r (wJ j) (tAs K EX (fs.map Arg.ex)) σ H Q:=fun hm0 es hc0 h=>by
    subst hc0;obtain ⟨v,hv,ok0⟩:=R.slot j _ _ e0
    have own0:∃ p,v = .ref p/\p∈W/\aI K H (hid (W++F.Z) H) p (.lst es):=by
     cases m0 with
     | fz=>exact absurd rfl hm0
     | ow=>exact ok0
     | io=>obtain ⟨p,a,b,c,_⟩:=ok0;exact ⟨p,a,b,c⟩
    obtain ⟨p,rfl,hp,xs,hx,_⟩:=own0;refine ⟨_,hv,.inl ⟨rfl,xs,.inl (.inl hx)⟩,oj fs R ?_⟩
    revert h
    cases evA (fs.map Arg.ex) ρ with
    | none=>exact fun h=>h
    | some q =>
     obtain ⟨q,ρ1⟩:=q
     cases q with
     | ex C=>exact fun h=>h
     | ok ds =>
      dsimp only;intro h vs H1 W1 fr1 sub1 R1 reps
      have step:∀ (c:D) (m:Md),m ≠ .fz->ρ1[j]?=some (some (c,m))->∀ c' d,u c ds=some (c',d)->OkV K F EX σ H W (some (.ok d false,ρ1.set j (some (c',m)))) Q->r (.ref p) vs H1 Q:=fun c m hm e1 c' d eu h=>by
       obtain ⟨v1,hv1,ok1⟩:=R1.slot j c m e1;rw [hv] at hv1;cases hv1
       have own1:p∈W1/\aI K H1 (hid (W1++F.Z) H1) p c:=by
        cases m with
        | fz=>exact absurd rfl hm
        | ow=>obtain ⟨p',a,b,c⟩:=ok1;cases a;exact ⟨b,c⟩
        | io=>obtain ⟨p',a,b,c,_⟩:=ok1;cases a;exact ⟨b,c⟩
       refine hs H1 (W1++F.Z) p c ds vs c' d Q own1.2 (Cg _ own1.1) reps eu fun v2 o new rd=> ?_
       obtain ⟨R2,fr2⟩:=R1.write e1 hm hv new;refine h v2 _ W1 (fr1.trans fr2 fun q hq=> .inl (sub1 q hq)) sub1 ⟨?_,R2⟩;rw [uF (Cg _ own1.1)];exact rd
      revert h
      split
      ·rename_i c e1
       split
       ·rename_i c' d eu
        exact fun h=>step c .ow (by decide) e1 c' d eu h
       ·exact fun h=>h.elim
      ·rename_i c e1
       split
       ·rename_i c' d eu
        exact fun h=>step c .io (by decide) e1 c' d eu h
       ·exact fun h=>h.elim
      ·exact fun h=>h.elim
   cases m0 with
   | fz=>exact fun h=>h.elim
   | ow=>cases c0<;>first | exact fun h=>h.elim | exact fun h=>go (by decide) _ rfl h
   | io=>cases c0<;>first | exact fun h=>h.elim | exact fun h=>go (by decide) _ rfl h
end
def gO:D->List D->Option (D×D)
 | .lst ds,[d]=>if small ds.length=true then some (.lst (ds++[d]),.non) else none
 | _,_=>none
def bP:D->List D->Option (D×D)
 | .lst ds,[.lst es]=>if small (ds.length+es.length)=true then some (.lst (ds++es),.non) else none
 | .lst ds,[.tup es]=>if small (ds.length+es.length)=true then some (.lst (ds++es),.non) else none
 | _,_=>none
def uPop:D->List D->Option (D×D)
 | .lst ds,[]=>match ds[ds.length - 1]? with
  | some d=>some (.lst ds.dropLast,d)
  | none=>none
 | _,_=>none
def uPopAt:D->List D->Option (D×D)
 | .lst ds,[.int i]=>if (decide (-1000000000<=i/\i<=1000000000))=true then match seqIndex? i ds.length with
  | some k=>match ds[k]? with
   | some d=>some (.lst (ds.eraseIdx k),d)
   | none=>none
  | none=>none
  else none
 | _,_=>none
section
variable{K:EG}
theorem vC:MeS K uj gO:=by
 intro H L p c ds vs c' d Q hO hp hr e q;unfold gO at e
 split at e
 ·obtain ⟨xs,h1,h2⟩:=hO
  split at e
  ·rename_i hs
   cases e
   match vs,hr with
   | [v],hr =>
    refine ⟨p,xs,v,rfl,rfl,h1,lj (by rw [<- h2.len];exact hs),q _ _ ⟨_,aj,h2.app ⟨hr.1,trivial⟩⟩ rfl⟩
  ·cases e
 ·cases e
def qE(K:EG):V->List V->Hp->VK->Prop:=fun x vs H Q=>ui x vs H Q\/qD x vs H Q
theorem sR{X:Cx}:MtM X "list.extend" (qE X.K):=by
 intro pins s σ H x xs v us Q I rx r h
 rcases h with h | h
 ·exact vz pins s σ H x xs v us Q I rx r h
 ·exact sQ pins s σ H x xs v us Q I rx r h
theorem vB:MeS K (qE K) bP:=by
 intro H L p c ds vs c' d Q hO hp hr e q;unfold bP at e
 split at e
 ·obtain ⟨xs,h1,h2⟩:=hO
  split at e
  ·rename_i hs
   cases e
   match vs,hr with
   | [v],hr =>
    obtain ⟨b,ys,rfl,h3,h4⟩:=hr.1;exact .inl ⟨p,b,xs,ys,rfl,rfl,h1,(ao h3).2,eR (by rw [<- h2.len,<- h4.len];exact hs),q _ _ ⟨_,aj,h2.app h4⟩ rfl⟩
  ·cases e
 ·obtain ⟨xs,h1,h2⟩:=hO
  split at e
  ·rename_i hs
   cases e
   match vs,hr with
   | [v],hr =>
    obtain ⟨b,ys,rfl,h3,h4⟩:=hr.1;exact .inr ⟨p,b,xs,ys,rfl,rfl,h1,(ao h3).2,eR (by rw [<- h2.len,<- h4.len];exact hs),q _ _ ⟨_,aj,h2.app h4⟩ rfl⟩
  ·cases e
 ·cases e
end
section
variable{X:Cx}{EX:EXT}{e:Expr}{es:List Expr}{pos p1 apos cpos:Pos}{n:Str}{j:Nat}
theorem yZ{name:Str}{id:String}{u:D->List D->Option (D×D)}{fs:List SE}{r:V->List V->Hp->VK->Prop}(hs:MeS X.K r u)(hm:MtM X id r)(slot:Slot "list" name id)(hty:typeOf (.builtin id)=pure (.type "method_descriptor"))(hN:X.N[j]?=some n)(hv:Vis X.env.scope n)(ha:JF X EX (e::es) fs)
 (hbase:attributeBase (.Name n p1) name X.env (eval (.Name n p1) X.env)=eval (.Name n p1) X.env:=by rfl)
 (hfew:((backTo cpos (starEach (e::es) X.env)).all (fun x => !x.1)&&(backToKw cpos (keywordEach [] X.env)).all (fun x=>x.1.isSome)
   && decide ((e::es).length+([]:List Keyword).length+(if ([]:List Keyword).isEmpty then 0 else 1) < 30))=true:=by rfl)
 (hline:(apos.endLine == cpos.line)=true:=by rfl) (hst:starEach (e::es) X.env=(false,eval e X.env)::starEach es X.env:=by rfl) (hplain:(backTo cpos (starEach es X.env)).any (·.1)=false:=by rfl)
 (hd:(n == ("__debug__" : Str))=false:=by decide) (hcd:(n == ("__classdict__" : Str))=false:=by decide):JE X EX (.Call (.Attribute (.Name n p1) name apos) (e::es) [] cpos) (cj j u fs) :=
 ⟨(ur Ef slot hty hm (gu hN hv hd hcd) ha.p hbase hfew hline hst hplain).by fun σ H Q h=>AR hs h⟩
end
def dv(u:D->D->D->Option D)(j:Nat)(f fi:SE):SS:=fun ρ=>match f ρ with
 | some (.ok d _,ρ1)=>match ρ1[j]? with
  | some (some _)=>match fi ρ1 with
   | some (.ok i _,ρ2)=>match ρ2[j]? with
    | some (some (c,.ow))=>match u c i d with
     | some c'=>some (.nx,ρ2.set j (some (c',.ow)))
     | none=>none
    | some (some (c,.io))=>match u c i d with
     | some c'=>some (.nx,ρ2.set j (some (c',.io)))
     | none=>none
    | _=>none
   | some (.ex C,ρ2)=>some (.ex C,ρ2)
   | none=>none
  | _=>none
 | some (.ex C,ρ1)=>some (.ex C,ρ1)
 | none=>none
def PuS(K:EG)(r:V->V->V->Hp->(Hp->Prop)->Prop)(u:D->D->D->Option D):Prop :=
 ∀ (H:Hp) (L:List Addr) (p:Addr) (c i d c':D) (vi vd:V) (Q:Hp->Prop),aI K H (hid L H) p c->p∈L->aF K (hid L H) i vi->aF K (hid L H) d vd->u c i d=some c' ->
  (∀ o,aI K (upd H p o) (hid L H) p c'->Q (upd H p o))->r (.ref p) vi vd H Q
theorem uD{K:EG}{EX:EXT}{u:D->D->D->Option D}{r:V->V->V->Hp->(Hp->Prop)->Prop}{j:Nat}{f fi:SE}{E:nA}{σ:St}{H:Hp}(hs:PuS K r u)(h:tVS K EX (dv u j f fi) E σ H) :
 tV K EX f σ H fun v H1=>∃ o,σ[j]?=some (some o)/\tV K EX fi σ H1 fun i H2=>r o i v H2 fun H3=>E.nx σ H3:=by
 obtain ⟨F,ρ,W,R,h⟩:=h;refine ⟨F,ρ,W,R,?_⟩;unfold dv at h
 revert h
 cases f ρ with
 | none=>exact fun h=>h
 | some q =>
  obtain ⟨q,ρ1⟩:=q
  cases q with
  | ex C=>exact fun h H2 W2 fr2 sub2 R2=>h σ H2 W2 fr2 (fun p hp=> .inl (sub2 p hp)) R2
  | ok d nw =>
   dsimp only
   cases e1:ρ1[j]? with
   | none=>exact fun h=>h.elim
   | some z =>
    cases z with
    | none=>exact fun h=>h.elim
    | some z =>
     obtain ⟨c1,m1⟩:=z;intro h v H1 W1 fr1 sub1 P1;obtain ⟨rd,R1⟩:=P1.plain;obtain ⟨o,ho,_⟩:=R1.slot j _ _ e1;refine ⟨o,ho,F,ρ1,W1,R1,?_⟩
     revert h
     dsimp only
     cases fi ρ1 with
     | none=>exact fun h=>h
     | some q =>
      obtain ⟨q,ρ2⟩:=q
      cases q with
      | ex C=>exact fun h H2 W2 fr2 sub2 R2=>h σ H2 W2 (fr1.trans fr2 fun p hp=> .inl (sub1 p hp)) (fun p hp=> .inl (sub1 p (sub2 p hp))) R2
      | ok i nw2 =>
       dsimp only;intro h vi H2 W2 fr2 sub2 P2;obtain ⟨ri,R2⟩:=P2.plain
       have step:∀ (c:D) (m:Md),m ≠ .fz->ρ2[j]?=some (some (c,m))->∀ c',u c i d=some c'->OkS K F EX H W (some (.nx,ρ2.set j (some (c',m)))) E->r o vi v H2 fun H3=>E.nx σ H3:=fun c m hm e2 c' eu h=>by
        obtain ⟨v1,hv1,ok1⟩:=R2.slot j c m e2;rw [ho] at hv1;cases hv1
        have own1:∃ p,o = .ref p/\p∈W2/\aI K H2 (hid (W2++F.Z) H2) p c:=by
         cases m with
         | fz=>exact absurd rfl hm
         | ow=>exact ok1
         | io=>obtain ⟨p',a,b,c,_⟩:=ok1;exact ⟨p',a,b,c⟩
        obtain ⟨p,rfl,hp,hO⟩:=own1
        refine hs H2 (W2++F.Z) p c i d c' vi v _ hO (Cg _ hp) ri ((fr2.hid fun p hp=> .inl (sub2 p hp)).repD rd) eu fun o' new=> ?_
        obtain ⟨R3,fr3⟩:=R2.write e2 hm ho new;exact h σ _ W2 ((fr1.trans fr2 fun p hp=> .inl (sub1 p hp)).trans fr3 fun p hp=> .inl (sub1 p (sub2 p hp))) (fun p hp=> .inl (sub1 p (sub2 p hp))) R3
       revert h
       split
       ·rename_i c e2
        split
        ·rename_i c' eu
         exact fun h=>step c .ow (by decide) e2 c' eu h
        ·exact fun h=>h.elim
       ·rename_i c e2
        split
        ·rename_i c' eu
         exact fun h=>step c .io (by decide) e2 c' eu h
        ·exact fun h=>h.elim
       ·exact fun h=>h.elim
def lf:D->D->D->Option D
 | .lst ds,.int k,d=>match ixN ds.length k with
  | some n=>some (.lst (ds.set n d))
  | none=>none
 | _,_,_=>none
theorem An{K:EG}:PuS K BF lf:=by
 intro H L p c i d c' vi vd Q hO hp ri rd e q;unfold lf at e
 split at e
 ·rename_i ds k
  obtain ⟨xs,h1,h2⟩:=hO
  split at e
  ·rename_i n en
   cases e;exact ⟨p,xs,k,n,rfl,ri,h1,by rw [<- h2.len];exact en,q _ ⟨_,aj,h2.set rd n⟩⟩
  ·cases e
 ·cases e
section
variable{X:Cx}{EX:EXT}{e i:Expr}{pos pos' p1:Pos}{n:Str}{j:Nat}{f fi:SE}
theorem s_item(he:JE X EX e f)(hi:JE X EX i fi)(hN:X.N[j]?=some n)(hv:Vis X.env.scope n)(hs:swapsWithSole [.Subscript (.Name n p1) i pos'] e pos.line X.env=pure false:=by rfl)(hw:swappedStores [.Subscript (.Name n p1) i pos'] e X.env=pure none:=by rfl)
 (h1:(assignEach [.Subscript (.Name n p1) i pos'] X.env).map (·.2)=[assign (.Subscript (.Name n p1) i pos') X.env]:=by rfl)
 (ha:∀ v,assign (.Subscript (.Name n p1) i pos') X.env v=(do
   let ov <- holding [v] (eval (.Name n p1) X.env)
   let iv <- holding [v,ov] (eval i X.env)
   standAt pos'
   holding [v,ov,iv] (setItem ov iv v)
   release [v,ov,iv] []):=by intro _;rfl)
 (hd:(n == ("__debug__" : Str))=false:=by decide) (hcd:(n == ("__classdict__" : Str))=false:=by decide):JS X EX (.Assign [.Subscript (.Name n p1) i pos'] e pos) (dv lf j f fi) :=
 ⟨(ps_asg he.p (pg_sub (gu hN hv hd hcd) hi.p lq ha) hs hw h1).by fun D σ H h=>uD An h⟩
end
def lg:D->D->D->Option D
 | .dK ks vs,k,d=>match fN k with
  | some k=>if (small ks.length&&decide ks.Nodup)=true then some (.dK (fR ks vs k d).1 (fR ks vs k d).2) else none
  | none=>none
 | .dT ks vs,.tup l,d=>match iO l with
  | some k=>if (small ks.length&&decide ks.Nodup)=true then some (.dT (fR ks vs k d).1 (fR ks vs k d).2) else none
  | none=>none
 | _,_,_=>none
def rPutD:V->V->V->Hp->(Hp->Prop)->Prop:=fun x y v H Q=>∃ a H',x = .ref a/\pY H a y v H'/\Q H'
theorem Ao{K:EG}:PuS K rPutD lg:=by
 intro H L p c i d c' vi vd Q hO hp ri rd e q;unfold lg at e
 split at e
 ·rename_i ks vs
  obtain ⟨xs,h1,h2,h3⟩:=hO
  split at e
  ·rename_i k ek
   split at e
   ·rename_i hsn
    have hsn:=(Cv _ _).mp hsn;cases e;obtain ⟨i1,i2,i3⟩:=lQ (x:=k) rd h2 h3;refine ⟨p,_,rfl,by rw [jO ek ri];exact pY.k (k:=k) h1 (by rw [DT,<- h2,DR];exact lj hsn.1),q _ ⟨(jb ks xs k vd).2,?_,?_,i2⟩⟩
    ·rw [<- i1,lP h2 (Cn hsn.2)]
     exact aj
    ·rw [<- i1];exact i3
   ·cases e
  ·cases e
 ·rename_i ks vs l
  obtain ⟨xs,h1,h2,h3⟩:=hO;obtain ⟨b,ys,rfl,h4,h5⟩:=ri
  split at e
  ·rename_i k ek
   split at e
   ·rename_i hsn
    have hsn:=(Cv _ _).mp hsn;cases e;obtain ⟨i1,i2,i3⟩:=lQ (x:=k) rd h2 h3;have h4:=(ao h4).2;rw [iN ek h5] at h4;refine ⟨p,_,rfl,pY.t (k:=k) h1 h4 (by rw [DT,<- h2,DR];exact lj hsn.1),q _ ⟨(jb ks xs k vd).2,?_,?_,i2⟩⟩
    ·rw [<- i1,lP h2 (Cn hsn.2)]
     exact aj
    ·rw [<- i1];exact i3
   ·cases e
  ·cases e
 ·cases e
section
variable{X:Cx}{EX:EXT}{e i:Expr}{pos pos' p1:Pos}{n:Str}{j:Nat}{f fi:SE}
theorem s_dput(hu:X.A.units+1 < cLine)(he:JE X EX e f)(hi:JE X EX i fi)(hN:X.N[j]?=some n)(hv:Vis X.env.scope n)(hs:swapsWith e (some (.Subscript (.Name n p1) i pos')) pos.line X.env=pure false:=by rfl)
 (hd:(n == ("__debug__" : Str))=false:=by decide) (hcd:(n == ("__classdict__" : Str))=false:=by decide):JS X EX (.Assign [.Subscript (.Name n p1) i pos'] e pos) (dv lg j f fi) :=
 ⟨(Ap hu (gu hN hv hd hcd) hi.p he.p hs).by fun D σ H h=>uD Ao h⟩
def nP(d:D):SE:=fun ρ=>some (.ok d true,ρ)
theorem Bk:JE X EX (.Dict [] [] pos) (nP (.dK [] [])):=⟨xz.by fun σ H Q ⟨F,ρ,W,R,h⟩ p hp=>h _ _ W ((ac.upd hp).fr) (fun _ z=>z) (fQ.e (nw:=true) ⟨p,rfl,hp,[],aj,rfl,trivial⟩ R (ac.upd hp))⟩
theorem Bj:JE X EX (.Dict [] [] pos) (nP (.dT [] [])):=⟨xy.by fun σ H Q ⟨F,ρ,W,R,h⟩ p hp=>h _ _ W ((ac.upd hp).fr) (fun _ z=>z) (fQ.e (nw:=true) ⟨p,rfl,hp,[],aj,rfl,trivial⟩ R (ac.upd hp))⟩
end
end L2
namespace L2
open PySem PySem.Spec PyProof.Rows ZpA
def b7:D->Option (List D)
 | .lst ds=>some ds
 | .klst ds=>some ds
 | .tup ds=>some ds
 | .ktup ds=>some ds
 | _=>none
def ItsA:Kd->EG->Addr->L2.It
 | .L=>Itl
 | .T=>Itt
theorem SqA.same{c:Kd}{K:EG}{H H':Hp}{a:Addr}{xs:List V}(e:ac H H')(h:SqA c K H a xs):SqA c K H' a xs:=by
 cases c with
 | L=>exact e.seq h
 | T=>exact e.tup h
theorem kP{K:EG}{H:Hp}{d:D}{v:V}{ds:List D}(e:b7 d=some ds)(r:aF K H d v):∃ a c xs,v = .ref a/\SqA c K H a xs/\ag K H ds xs:=by
 cases d<;>first
  | (unfold b7 at e;cases e;done)
  | (unfold b7 at e;cases e;obtain ⟨p,xs,h1,h2,h3⟩:=r;exact ⟨p,.L,xs,h1,.inl (.inl h2),h3⟩)
  | (unfold b7 at e;cases e;obtain ⟨p,xs,h1,h2,h3⟩:=r;exact ⟨p,.T,xs,h1,.inl (.inl h2),h3⟩)
  | (unfold b7 at e;cases e;obtain ⟨p,xs,h1,h2,h3⟩:=r;exact ⟨p,.L,xs,h1,h2,h3⟩)
  | (unfold b7 at e;cases e;obtain ⟨p,xs,h1,h2,h3⟩:=r;exact ⟨p,.T,xs,h1,eA h2,h3⟩)
def iSeqA(K:EG)(tl:TE):TI:=fun σ H R=>tl σ H fun x H1=>∃ a c,x = .ref a/\∃ xs,SqA c K H1 a xs/\(xs.length<=sizeLine->R (ItsA c K a) H1)
section
variable{X:Cx}{EX:EXT}{tg l:Expr}
theorem Au{tl:TE}(hl:PE X l tl):PI X tg l (iSeqA X.K tl):=by
 intro pins s σ H R I h
 refine thn (hl pins s σ H _ I h) fun v s1 ⟨x,H1,I1,r1,q1⟩=> ?_
 obtain ⟨a,c,e,xs,hq,q⟩:=q1;subst e;cases r1
 cases c with
 | L =>
  obtain ⟨its,rv,p,hz⟩:=I1.list hq;refine DG p.isList ?_;refine ⟨s1.heap.objs.size,[s1.heap.objs.size],_,_,H1,rfl,I1.kept (t':=s1.toks) fun b o e=>B7 _ e,uX a _,⟨_,Cd _ rfl,rfl,rfl⟩,fun b hb=> ?_,q hz⟩
  have e:b=s1.heap.objs.size:=by simpa using hb
  subst e;exact I1.fpOk (Ci _) (I1.hok.fresh (Ci _))
 | T =>
  obtain ⟨its,rv,p,hz⟩:=I1.tuple hq;refine CW (show s1.heap.IsTuple a its.toArray from p) ?_;refine ⟨s1.heap.objs.size,[s1.heap.objs.size],_,_,H1,rfl,I1.kept (t':=s1.toks) fun b o e=>B7 _ e,rX a _,⟨_,Cd _ rfl,rfl,rfl⟩,fun b hb=> ?_,q hz⟩
  have e:b=s1.heap.objs.size:=by simpa using hb
  subst e;exact I1.fpOk (Ci _) (I1.hok.fresh (Ci _))
theorem yf{K:EG}{L0:List Addr}{H0:Hp}{ds:List D}{xs:List V}{a:Addr}{c:Kd}(hs:SqA c K (hid L0 H0) a xs)(hr:ag K (hid L0 H0) ds xs)(hf:xs.length<=sizeLine):ItOk K L0 ds (ItsA c K a) H0 where
 go:=fun H L i d sm hm hd=>by
  obtain ⟨x0,e0,r0⟩:=hr.get hd;have sq:SqA c K H a xs:=hs.same (sm.trans aA)
  cases c with
  | L=>exact ⟨⟨xs,x0,sq,e0⟩,fun x H' y=>by obtain ⟨rfl,y⟩:=y;have e:=y xs sq;rw [e0] at e;cases e;exact ⟨ac.refl _,sm.repD r0⟩⟩
  | T=>exact ⟨⟨xs,x0,sq,e0⟩,fun x H' y=>by obtain ⟨rfl,y⟩:=y;have e:=y xs sq;rw [e0] at e;cases e;exact ⟨ac.refl _,sm.repD r0⟩⟩
 stop:=fun H sm=>by
  have sq:SqA c K H a xs:=hs.same sm
  cases c with
  | L=>exact ⟨xs,sq,by rw [hr.len];exact Ci _⟩
  | T=>exact ⟨xs,sq,by rw [hr.len];exact Ci _⟩
 few:=by rw [hr.len];exact hf
def bB(f:SE):SI:=fun ρ=>match f ρ with
 | some (.ok d _,ρ')=>match b7 d with
  | some ds=>some (.ok ds,ρ')
  | none=>none
 | some (.ex C,ρ')=>some (.ex C,ρ')
 | none=>none
theorem i_seq{f:SE}(h:JE X EX l f):JI X EX tg l (bB f) :=
 ⟨fun pins s σ H R I hw=>Au h.p pins s σ H R I (by
  obtain ⟨F,ρ,W,R0,h⟩:=hw;refine ⟨F,ρ,W,R0,?_⟩;unfold bB at h
  revert h
  cases f ρ with
  | none=>exact fun h=>h
  | some q =>
   obtain ⟨q,ρ1⟩:=q
   cases q with
   | ex C=>exact fun h=>h
   | ok d nw =>
    dsimp only
    cases e:b7 d with
    | none=>exact fun h=>h.elim
    | some ds =>
     intro h v H1 W1 fr1 sub1 P1;obtain ⟨rd,R1⟩:=P1.plain;obtain ⟨a,c,xs,rfl,hs,hr⟩:=kP e rd
     exact ⟨a,c,rfl,xs,hs.same aA,fun hf=>h _ H1 W1 fr1 sub1 R1 (yf hs hr hf)⟩)⟩
def okR(lo hi:Int):Bool:=decide (-1000000000<=lo/\lo<=1000000000 /\ -1000000000<=hi/\hi<=1000000000/\(hi - lo).toNat<=1000000)
def nn:List D->Option Int
 | [.int j]=>some j
 | _=>none
def nk:List D->Option (Int×Int)
 | [.int i,.int j]=>some (i,j)
 | _=>none
theorem yk{K:EG}{H Hh:Hp}{ds:List D}{vs:List V}{j:Int}(e:nn ds=some j)(r:kB K H Hh ds vs):vs=[.int j]:=by
 unfold nn at e
 split at e
 ·cases e
  obtain ⟨y,rfl,ry⟩:=aC r;rw [bC ry]
 ·cases e
theorem yj{K:EG}{H Hh:Hp}{ds:List D}{vs:List V}{i j:Int}(e:nk ds=some (i,j))(r:kB K H Hh ds vs):vs=[.int i,.int j]:=by
 unfold nk at e
 split at e
 ·cases e
  obtain ⟨y,z,rfl,ry,rz⟩:=aQ r;rw [bC ry,bC rz]
 ·cases e
def ci(x:Arg):SI:=fun ρ=>match evA [x] ρ with
 | some (.ok ds,ρ')=>match nn ds with
  | some j=>if okR 0 j=true then some (.ok (gk 0 j.toNat),ρ') else none
  | none=>none
 | some (.ex C,ρ')=>some (.ex C,ρ')
 | none=>none
def eW(x y:Arg):SI:=fun ρ=>match evA [x,y] ρ with
 | some (.ok ds,ρ')=>match nk ds with
  | some (i,j)=>if okR i j=true then some (.ok (gk i (j - i).toNat),ρ') else none
  | none=>none
 | some (.ex C,ρ')=>some (.ex C,ρ')
 | none=>none
theorem qv{lo:Int}{n:Nat}:(gk lo n).length=n:=by unfold gk;simp
theorem wT{lo:Int}{n i:Nat}{d:D}(h:(gk lo n)[i]?=some d):i < n/\d = .int (lo+(i:Nat)):=by
 unfold gk at h;rw [Cw] at h;obtain ⟨k,hk,rfl⟩:=C4.mp h;obtain ⟨h1,h2⟩:=Cm.mp hk;simp at h1 h2;subst h2;exact ⟨h1,rfl⟩
theorem qY{K:EG}{L0:List Addr}{H0:Hp}{lo:Int}{n:Nat}(hf:n<=1000000):ItOk K L0 (gk lo n) (Itr lo n) H0 where
 go:=fun H L i d sm hm hd=>by
  obtain ⟨h1,rfl⟩:=wT hd;exact ⟨h1,fun x H' y=>by obtain ⟨rfl,rfl⟩:=y;exact ⟨ac.refl _,rfl⟩⟩
 stop:=fun H sm=>by rw [qv];exact Ci n
 few:=by rw [qv];exact Df hf (by decide)
theorem i_rng1{a:Expr}{x:Arg}{p pos:Pos}(hg:Gl X "range")(hm:X.mg "range" = none)(ha:JA X EX [a] [x])(hs:starEach [a] X.env=[(false,eval a X.env)]:=by rfl):JI X EX tg (.Call (.Name "range" p) [a] [] pos) (ci x) :=
 ⟨fun pins s σ H R I hw=>vo hg hm ha.p hs pins s σ H R I (by
  obtain ⟨F,ρ,W,R0,h⟩:=hw;refine oE [x] R0 ?_;unfold ci at h
  revert h
  cases evA [x] ρ with
  | none=>exact fun h=>h
  | some q =>
   obtain ⟨q,ρ1⟩:=q
   cases q with
   | ex C=>exact fun h=>h
   | ok ds =>
    dsimp only
    cases e:nn ds with
    | none=>exact fun h=>h.elim
    | some j =>
     dsimp only
     split
     ·rename_i hj
      have hj:=Cn hj;intro h vs H1 W1 fr1 sub1 R1 reps;exact ⟨j,yk e reps,by omega,by omega,h _ H1 W1 fr1 sub1 R1 (qY (by have:=hj.2.2.2.2;omega))⟩
     ·exact fun h=>h.elim)⟩
theorem i_rng2{a b:Expr}{x y:Arg}{p pos:Pos}(hg:Gl X "range")(hm:X.mg "range" = none)(ha:JA X EX [a,b] [x,y])(hs:starEach [a,b] X.env=[(false,eval a X.env),(false,eval b X.env)]:=by rfl)(hs2:starEach [b] X.env=[(false,eval b X.env)]:=by rfl):JI X EX tg (.Call (.Name "range" p) [a,b] [] pos) (eW x y) :=
 ⟨fun pins s σ H R I hw=>vn hg hm ha.p hs hs2 pins s σ H R I (by
  obtain ⟨F,ρ,W,R0,h⟩:=hw;refine oE [x,y] R0 ?_;unfold eW at h
  revert h
  cases evA [x,y] ρ with
  | none=>exact fun h=>h
  | some q =>
   obtain ⟨q,ρ1⟩:=q
   cases q with
   | ex C=>exact fun h=>h
   | ok ds =>
    dsimp only
    cases e:nk ds with
    | none=>exact fun h=>h.elim
    | some ij =>
     obtain ⟨i,j⟩:=ij;dsimp only
     split
     ·rename_i hj
      have hj:=Cn hj;intro h vs H1 W1 fr1 sub1 R1 reps;exact ⟨i,j,yj e reps,⟨by omega,by omega,by omega,by omega⟩,h _ H1 W1 fr1 sub1 R1 (qY hj.2.2.2.2)⟩
     ·exact fun h=>h.elim)⟩
def gD:Nat->List D->List D
 | _,[]=>[]
 | i,d::ds=> .tup [.int (i:Nat),d]::gD (i+1) ds
theorem jR:∀ {i:Nat} {ds:List D},(gD i ds).length=ds.length
 | _,[]=>rfl
 | i,d::ds=>by unfold gD;rw [Cc,Cc,jR]
theorem oo:∀ {i j:Nat} {ds:List D} {e:D},(gD i ds)[j]?=some e->∃ d,ds[j]?=some d/\e = .tup [.int ((i+j:Nat)),d]
 | i,j,[],e,h=>by unfold gD at h;simp at h
 | i,0,d::ds,e,h=>by
  unfold gD at h;simp only [Cz,Option.some.injEq] at h;exact ⟨d,rfl,h.symm⟩
 | i,j+1,d::ds,e,h=>by
  unfold gD at h;simp only [CB] at h ⊢;obtain ⟨d',h1,h2⟩:=oo h;exact ⟨d',h1,by rw [h2,show i+1+j=i+(j+1) by omega]⟩
def jD:List D->List D->List D
 | a::as,b::bs=> .tup [a,b]::jD as bs
 | _,_=>[]
theorem k9:∀ {as bs:List D},as.length<=bs.length->(jD as bs).length=as.length
 | [],_,_=>by unfold jD;rfl
 | a::as,b::bs,h=>by unfold jD;rw [Cc,Cc,k9 (by simpa using h)]
 | _::_,[],h=>by simp at h
theorem pZ:∀ {as bs:List D} {j:Nat} {e:D},(jD as bs)[j]?=some e->∃ a b,as[j]?=some a/\bs[j]?=some b/\e = .tup [a,b]
 | [],_,j,e,h=>by unfold jD at h;simp at h
 | _::_,[],j,e,h=>by unfold jD at h;simp at h
 | a::as,b::bs,0,e,h=>by
  unfold jD at h;simp only [Cz,Option.some.injEq] at h;exact ⟨a,b,rfl,rfl,h.symm⟩
 | a::as,b::bs,j+1,e,h=>by
  unfold jD at h;simp only [CB] at h ⊢;exact pZ h
def dL(f:SE):SI:=fun ρ=>match f ρ with
 | some (.ok d _,ρ')=>match b7 d with
  | some ds=>some (.ok (gD 0 ds),ρ')
  | none=>none
 | some (.ex C,ρ')=>some (.ex C,ρ')
 | none=>none
theorem qI{K:EG}{H:Hp}{L:List Addr}{p:Addr}{a b:D}{x y:V}(hm:∀ p∈L,eO (H p))(hp:H p=none)(ra:aF K (hid L H) a x)(rb:aF K (hid L H) b y):aF K (hid L (upd H p (.tup [x,y]))) (.tup [a,b]) (.ref p) :=
 gS hm (show ag K (hid L H) [a,b] [x,y] from ⟨ra,rb,trivial⟩) (ac.upd hp) aj
theorem i_enum{elts:List Expr}{k}{tpos:Pos}{f:SE}{p pos:Pos}(hg:Gl X "enumerate")(hm:X.mg "enumerate" = none)(h:JE X EX l f)(hs:starEach [l] X.env=[(false,eval l X.env)]:=by rfl):JI X EX (.Tuple elts k tpos) (.Call (.Name "enumerate" p) [l] [] pos) (dL f) :=
 ⟨fun pins s σ H R I hw=>xt hg hm (aB h.p cD hs) hs pins s σ H R I (by
  obtain ⟨F,ρ,W,R0,h⟩:=hw;refine ⟨F,ρ,W,R0,?_⟩;unfold dL at h
  revert h
  cases f ρ with
  | none=>exact fun h=>h
  | some q =>
   obtain ⟨q,ρ1⟩:=q
   cases q with
   | ex C=>exact fun h=>h
   | ok d nw =>
    dsimp only
    cases e:b7 d with
    | none=>exact fun h=>h.elim
    | some ds =>
     intro h v H1 W1 fr1 sub1 P1;obtain ⟨rd,R1⟩:=P1.plain;obtain ⟨a,c,xs,rfl,hq,hr⟩:=kP e rd;refine ⟨a,c,rfl,xs,hq.same aA,fun hf=>h _ H1 W1 fr1 sub1 R1 ⟨fun H L i d sm hm hd=> ?_,fun H sm=> ?_,?_⟩⟩
     ·obtain ⟨d0,e0,rfl⟩:=oo hd
      obtain ⟨x0,ex,r0⟩:=hr.get e0;have sq:SqA c X.K H a xs:=hq.same (sm.trans aA);refine ⟨⟨xs,x0,sq,ex⟩,fun x H' y=> ?_⟩;obtain ⟨p,y,rfl,hp,rfl,hy⟩:=y;have e1:=hy xs sq;rw [ex] at e1;cases e1;refine ⟨ac.upd hp,?_⟩;have:=qI (K:=X.K) (a:= .int ((i:Nat):Int)) (x:= .int (i:Nat)) hm hp rfl (sm.repD r0);rw [C3];exact this
     ·rw [jR,hr.len]
      exact ⟨xs,hq.same sm,Ci _⟩
     ·rw [jR,hr.len];exact hf)⟩
def wO:List D->Option (List D×List D)
 | [a,b]=>match b7 a,b7 b with
  | some x,some y=>some (x,y)
  | _,_=>none
 | _=>none
def jG(fs:List SE):SI:=fun ρ=>match evA (fs.map Arg.ex) ρ with
 | some (.ok ds,ρ')=>match wO ds with
  | some (a,b)=>if decide (a.length<=b.length)=true then some (.ok (jD a b),ρ') else none
  | none=>none
 | some (.ex C,ρ')=>some (.ex C,ρ')
 | none=>none
theorem i_zip{elts:List Expr}{k}{tpos:Pos}{l l':Expr}{fs:List SE}{p pos:Pos}(hg:Gl X "zip")(hm:X.mg "zip" = none)(h:JF X EX [l,l'] fs)(hs:starEach [l,l'] X.env=[(false,eval l X.env),(false,eval l' X.env)]:=by rfl)(hs2:starEach [l'] X.env=[(false,eval l' X.env)]:=by rfl) :
 JI X EX (.Tuple elts k tpos) (.Call (.Name "zip" p) [l,l'] [] pos) (jG fs) :=
 ⟨fun pins s σ H R I hw=>As hg hm h.p hs hs2 pins s σ H R I (by
  obtain ⟨F,ρ,W,R0,h⟩:=hw;refine oj fs R0 ?_;unfold jG at h
  revert h
  cases evA (fs.map Arg.ex) ρ with
  | none=>exact fun h=>h
  | some q =>
   obtain ⟨q,ρ1⟩:=q
   cases q with
   | ex C=>exact fun h=>h
   | ok ds =>
    dsimp only
    cases e:wO ds with
    | none=>exact fun h=>h.elim
    | some ab =>
     obtain ⟨as,bs⟩:=ab;dsimp only
     split
     ·rename_i hl
      have hl:=Cn hl;intro h vs H1 W1 fr1 sub1 R1 reps;unfold wO at e
      split at e
      ·rename_i da db
       split at e
       ·rename_i x y ea eb
        cases e
        match vs,reps with
        | [va,vb],reps =>
         obtain ⟨a,c1,xs,rfl,hq,hr⟩:=kP ea reps.1;obtain ⟨b,c2,ys,rfl,hq2,hr2⟩:=kP eb reps.2.1;refine ⟨a,b,c1,c2,rfl,xs,hq.same aA,fun hf=>⟨⟨ys,hq2.same aA⟩,h _ H1 W1 fr1 sub1 R1 ⟨fun H L i d sm hm hd=> ?_,fun H sm=> ?_,?_⟩⟩⟩
         ·obtain ⟨d1,d2,e1,e2,rfl⟩:=pZ hd
          obtain ⟨x0,ex,r0⟩:=hr.get e1;obtain ⟨y0,ey,r1⟩:=hr2.get e2;have sq:SqA c1 X.K H a xs:=hq.same (sm.trans aA);have sq2:SqA c2 X.K H b ys:=hq2.same (sm.trans aA);refine ⟨⟨xs,ys,x0,y0,sq,sq2,ex,ey⟩,fun x H' y=> ?_⟩;obtain ⟨p,y,z,rfl,hp,rfl,hy,hz⟩:=y;have e3:=hy xs sq;have e4:=hz ys sq2;rw [ex] at e3;rw [ey] at e4;cases e3;cases e4;exact ⟨ac.upd hp,qI hm hp (sm.repD r0) (sm.repD r1)⟩
         ·rw [k9 hl,hr.len]
          exact ⟨xs,hq.same sm,Ci _⟩
         ·rw [k9 hl,hr.len];exact hf
       ·cases e
      ·cases e
     ·exact fun h=>h.elim)⟩
end
def dj(g g':List D->Option (D×Bool))(f1 f2 f3:SE):SE:=fun ρ=>match evA [.ex f1,.ex f2] ρ with
 | some (.ok [a,b],ρ1)=>match g [a,b] with
  | some (.bl true,false)=>match f3 ρ1 with
   | some (.ok c _,ρ2)=>match g' [b,c] with
    | some (d,false)=>some (.ok d false,ρ2)
    | _=>none
   | some (.ex C,ρ2)=>some (.ex C,ρ2)
   | none=>none
  | some (.bl false,false)=>some (.ok (.bl false) false,ρ1)
  | _=>none
 | some (.ok _,_)=>none
 | some (.ex C,ρ')=>some (.ex C,ρ')
 | none=>none
theorem yS{K:EG}{EX:EXT}{σ:St}{H:Hp}{Q:VK}{r r':R2}{g g':List D->Option (D×Bool)}{f1 f2 f3:SE}(hs:OpS K (r2 r) g)(hs':OpS K (r2 r') g')(hw:tV K EX (dj g g' f1 f2 f3) σ H Q):wK r r' (tV K EX f1) (tV K EX f2) (tV K EX f3) σ H Q:=by
 obtain ⟨F,ρ,W,R,h⟩:=hw
 have z:tAs K EX (([f1,f2]:List SE).map Arg.ex) σ H (fun vs H2=>match vs with
  | [x,y]=>r x y H2 fun z H3=>∃ k,z = .bl k/\(if k=true then tV K EX f3 σ H3 fun w' H4=>r' y w' H4 Q else Q (.bl false) H3)
  | _=>False):=by
  refine oj [f1,f2] R ?_;unfold dj at h
  revert h
  show OkV K F EX σ H W (match evA (([f1,f2]:List SE).map Arg.ex) ρ with
   | some (.ok [a,b],ρ1)=>match g [a,b] with
    | some (.bl true,false)=>match f3 ρ1 with
     | some (.ok c _,ρ2)=>match g' [b,c] with
      | some (d,false)=>some (.ok d false,ρ2)
      | _=>none
     | some (.ex C,ρ2)=>some (.ex C,ρ2)
     | none=>none
    | some (.bl false,false)=>some (.ok (.bl false) false,ρ1)
    | _=>none
   | some (.ok _,_)=>none
   | some (.ex C,ρ')=>some (.ex C,ρ')
   | none=>none) Q->_
  cases evA (([f1,f2]:List SE).map Arg.ex) ρ with
  | none=>exact fun h=>h
  | some q =>
   obtain ⟨q,ρ1⟩:=q
   cases q with
   | ex C=>exact fun h=>h
   | ok ds =>
    match ds with
    | []=>exact fun h=>h.elim
    | [_]=>exact fun h=>h.elim
    | _::_::_::_=>exact fun h=>h.elim
    | [a,b] =>
     dsimp only;intro h vs H1 W1 fr1 sub1 R1 reps
     match vs,reps with
     | [x,y],reps =>
      have rb:kB K H1 (hid (W1++F.Z) H1) [a,b] [x,y]:=⟨aF.b reps.1 aA,aF.b reps.2.1 aA,trivial⟩
      cases eg:g [a,b] with
      | none=>rw [eg] at h;exact h.elim
      | some dn =>
       obtain ⟨d,nw⟩:=dn;rw [eg] at h
       refine hs [x,y] [a,b] H1 (W1++F.Z) _ d nw R1.mt rb eg fun z H2 s2 p2=> ?_
       have fr2:Fr W H H2:=fr1.trans (s2.fr (W:=W1)) fun p hp=> .inl (sub1 p hp)
       cases d<;>first | (exact h.elim) | skip
       rename_i k
       cases nw with
       | true=>cases k<;>exact h.elim
       | false =>
        have hz:z = .bl k:=p2;refine ⟨k,hz,?_⟩;have R2:=R1.same s2
        cases k with
        | false =>
         rw [if_neg Cj];exact h _ H2 W1 fr2 sub1 ⟨rfl,R2⟩
        | true =>
         rw [if_pos rfl];refine ⟨F,ρ1,W1,R2,?_⟩
         revert h
         dsimp only
         cases f3 ρ1 with
         | none=>exact fun h=>h
         | some q =>
          obtain ⟨q,ρ2⟩:=q
          cases q with
          | ex C=>exact fun h H3 W3 fr3 sub3 R3=>h H3 W3 (fr2.trans fr3 fun p hp=> .inl (sub1 p hp)) (fun p hp=>sub1 p (sub3 p hp)) R3
          | ok c nw2 =>
           dsimp only;intro h w' H3 W3 fr3 sub3 P3;obtain ⟨rc,R3⟩:=P3.plain;have ry:aF K (hid (W3++F.Z) H3) b y:=(fr3.hid fun p hp=> .inl (sub3 p hp)).repD ((aR (fun b hb=> .inl hb) fun b o _ e=>s2 b o e:ac (hid (W1++F.Z) H1) (hid (W1++F.Z) H2)).repD reps.2.1)
           cases eg2:g' [b,c] with
           | none=>rw [eg2] at h;exact h.elim
           | some dn =>
            obtain ⟨d2,nw3⟩:=dn;rw [eg2] at h
            cases nw3 with
            | true=>exact h.elim
            | false =>
             refine hs' [y,w'] [b,c] H3 (W3++F.Z) _ d2 false R3.mt ⟨aF.b ry aA,aF.b rc aA,trivial⟩ eg2 fun v H4 s4 p4=> ?_
             exact h v H4 W3 ((fr2.trans fr3 fun p hp=> .inl (sub1 p hp)).trans (s4.fr (W:=W3)) fun p hp=> .inl (sub1 p (sub3 p hp))) (fun p hp=>sub1 p (sub3 p hp)) ⟨p4,R3.same s4⟩
 exact z
section
variable{X:Cx}{EX:EXT}{a b c:Expr}{pos:Pos}
theorem Bl{op op':CmpOp}{r r':R2}{g g':List D->Option (D×Bool)}{f1 f2 f3:SE}(ho:OpR X (compareOp op) r)(ho':OpR X (compareOp op') r')(hs:OpS X.K (r2 r) g)(hs':OpS X.K (r2 r') g')(ha:JE X EX a f1)(hb:JE X EX b f2)(hc:JE X EX c f3)
 (hm:lastMarks [op,op'] [b,c]=false:=by with_unfolding_all rfl):JE X EX (.Compare a [op,op'] [b,c] pos) (dj g g' f1 f2 f3) :=
 ⟨(xA ho ho' ha.p hb.p hc.p hm).by fun σ H Q h=>yS hs hs' h⟩
end
end L2
namespace L2
open PySem PySem.Spec PyProof.Rows
section
variable{X:Cx}
def xh(K:EG):List V->Hp->(V->Hp->Prop)->Prop:=fun xs H Q=>∃ (p:Addr) (ns:List Int),xs=[V.ref p]/\SqT K H p (ns.map V.int)/\ns≠[]/\∀ M,M∈ns->(∀ a∈ns,a<=M)->Q (.int M) H
def xf(K:EG):List V->Hp->(V->Hp->Prop)->Prop:=fun xs H Q=>∃ (p:Addr) (ns:List Int),xs=[V.ref p]/\SqT K H p (ns.map V.int)/\ns≠[]/\∀ M,M∈ns->(∀ a∈ns,M<=a)->Q (.int M) H
theorem v6(hc:X.calm=true):ax X (.builtin "max") (xh X.K):=by
 intro pins s σ H xs us Q I r h;obtain ⟨p,ns,rfl,hq,ne,q⟩:=h;obtain ⟨u,rfl,ru⟩:=bx r;cases ru;obtain ⟨its,rv,pl,hz⟩:=I.tuple hq;obtain ⟨ps,rfl,e⟩:=cC rv
 have lp:ps.length=ns.length:=by rw [<- e,B9]
 have n0:0 < ns.length:=Cy.mpr ne
 have ei:intItems ps.toArray=(ps.map fun p=>Value.int p.1 p.2).toArray:=by unfold intItems;simp
 have ht:s.heap.IsTuple p (intItems ps.toArray):=by rw [ei];exact pl
 have hlt:p < s.heap.objs.size:=by obtain ⟨_,e,_⟩:=ht;exact Cf e
 have sz:ps.toArray.size=ns.length:=by simp [lp]
 obtain ⟨b1,b2⟩:=argBest_gt (numAt ps.toArray) (ps.toArray.size - 1);refine call_max_walk (CW ht ⟨s.heap.objs.size,_,_,_,_,_,_,rfl,Walks.tuple (A:=X.A.in1) (I.ok.hd hc) _ p (Cu hlt) (intItems ps.toArray),⟨⟨_,Cd _ rfl,rfl,rfl⟩,ht.push _⟩,fun c hcm=> ?_,by simpa [intItems,lp] using n0,CmpOf.ints_gt (numAt ps.toArray) (fun _ _=>intItems_at),fun v h' tk hP hk=> ?_⟩)
 ·have e1:c=s.heap.objs.size\/c=p:=by simpa using hcm
  show c < (s.heap.push _).objs.size
  rw [CL]
  rcases e1 with e1 | e1
  ·rw [e1];exact DZ _
  ·rw [e1];exact Dp hlt
 ·have hv:(intItems ps.toArray)[argBest (fun i j=>decide (numAt ps.toArray i > numAt ps.toArray j)) (ps.toArray.size - 1)]?=some v:=by simpa [intItems] using hP
  obtain ⟨t,rfl⟩:=intItems_at hv;rw [sz] at b1 b2 ⊢;refine ⟨.int _,H,I.kept (h':=h') (t':=tk) fun b' o e=>hk b' o (by have:=Cf e;simp;exact Cu this) (B7 _ e),⟨t,rfl⟩,q _ ?_ fun a ha=> ?_⟩
  ·rw [ck e (by omega)]
   exact C6 _
  ·obtain ⟨j,hj,rfl⟩:=Ey ha
   have:=b2 j (by omega);rw [ck e hj] at this;exact this
theorem vY(hc:X.calm=true):ax X (.builtin "min") (xf X.K):=by
 intro pins s σ H xs us Q I r h;obtain ⟨p,ns,rfl,hq,ne,q⟩:=h;obtain ⟨u,rfl,ru⟩:=bx r;cases ru;obtain ⟨its,rv,pl,hz⟩:=I.tuple hq;obtain ⟨ps,rfl,e⟩:=cC rv
 have lp:ps.length=ns.length:=by rw [<- e,B9]
 have n0:0 < ns.length:=Cy.mpr ne
 have ei:intItems ps.toArray=(ps.map fun p=>Value.int p.1 p.2).toArray:=by unfold intItems;simp
 have ht:s.heap.IsTuple p (intItems ps.toArray):=by rw [ei];exact pl
 have hlt:p < s.heap.objs.size:=by obtain ⟨_,e,_⟩:=ht;exact Cf e
 have sz:ps.toArray.size=ns.length:=by simp [lp]
 obtain ⟨b1,b2⟩:=argBest_lt (numAt ps.toArray) (ps.toArray.size - 1);refine call_min_walk (CW ht ⟨s.heap.objs.size,_,_,_,_,_,_,rfl,Walks.tuple (A:=X.A.in1) (I.ok.hd hc) _ p (Cu hlt) (intItems ps.toArray),⟨⟨_,Cd _ rfl,rfl,rfl⟩,ht.push _⟩,fun c hcm=> ?_,by simpa [intItems,lp] using n0,CmpOf.ints_lt (numAt ps.toArray) (fun _ _=>intItems_at),fun v h' tk hP hk=> ?_⟩)
 ·have e1:c=s.heap.objs.size\/c=p:=by simpa using hcm
  show c < (s.heap.push _).objs.size
  rw [CL]
  rcases e1 with e1 | e1
  ·rw [e1];exact DZ _
  ·rw [e1];exact Dp hlt
 ·have hv:(intItems ps.toArray)[argBest (fun i j=>decide (numAt ps.toArray i < numAt ps.toArray j)) (ps.toArray.size - 1)]?=some v:=by simpa [intItems] using hP
  obtain ⟨t,rfl⟩:=intItems_at hv;rw [sz] at b1 b2 ⊢;refine ⟨.int _,H,I.kept (h':=h') (t':=tk) fun b' o e=>hk b' o (by have:=Cf e;simp;exact Cu this) (B7 _ e),⟨t,rfl⟩,q _ ?_ fun a ha=> ?_⟩
  ·rw [ck e (by omega)]
   exact C6 _
  ·obtain ⟨j,hj,rfl⟩:=Ey ha
   have:=b2 j (by omega);rw [ck e hj] at this;exact this
end
def eC:List D->Option (D×Bool)
 | [.tup ds]=>match aT ds with
  | some (n::ns)=>some (.int (g7 (n::ns)),false)
  | _=>none
 | ds=>yx ds
def e8:List D->Option (D×Bool)
 | [.tup ds]=>match aT ds with
  | some (n::ns)=>some (.int (gx (n::ns)),false)
  | _=>none
 | ds=>A5 ds
theorem v8{X:Cx}(hc:X.calm=true):ax X (.builtin "max") (fun xs H Q=>(ug xs H Q\/qC X.K xs H Q)\/xh X.K xs H Q):=(v9 hc).or (v6 hc)
theorem v3{X:Cx}(hc:X.calm=true):ax X (.builtin "min") (fun xs H Q=>(uf xs H Q\/qB X.K xs H Q)\/xf X.K xs H Q):=(v4 hc).or (vY hc)
theorem AC{K:EG}:OpS K (fun xs H Q=>(ug xs H Q\/qC K xs H Q)\/xh K xs H Q) eC:=by
 intro vs ds H L Q d nw hm r e q;unfold eC at e
 split at e
 ·rename_i es
  obtain ⟨x,rfl,⟨p,xs,rfl,h1,h2⟩⟩:=aC r
  split at e
  ·rename_i n ns en
   cases e;rw [bf en] at h2;rw [aZ h2] at h1;refine .inr ⟨p,n::ns,rfl,.inl (.inl (ao h1).2),by simp,fun M m1 m2=> ?_⟩;obtain ⟨z1,z2⟩:=kX (l:=n::ns) (by simp);rw [mG m1 m2 z1 z2];exact q _ H (ac.refl _) rfl
  ·cases e
 ·exact .inl (os_max vs _ H L Q d nw hm r e q)
theorem AB{K:EG}:OpS K (fun xs H Q=>(uf xs H Q\/qB K xs H Q)\/xf K xs H Q) e8:=by
 intro vs ds H L Q d nw hm r e q;unfold e8 at e
 split at e
 ·rename_i es
  obtain ⟨x,rfl,⟨p,xs,rfl,h1,h2⟩⟩:=aC r
  split at e
  ·rename_i n ns en
   cases e;rw [bf en] at h2;rw [aZ h2] at h1;refine .inr ⟨p,n::ns,rfl,.inl (.inl (ao h1).2),by simp,fun M m1 m2=> ?_⟩;obtain ⟨z1,z2⟩:=jh (l:=n::ns) (by simp);rw [me m1 m2 z1 z2];exact q _ H (ac.refl _) rfl
  ·cases e
 ·exact .inl (os_min vs _ H L Q d nw hm r e q)
def eN(nm:Str):SS:=fun ρ=>some (.ex nm,ρ)
theorem zQ{P:Program}{w:World}{K:EG}{mg:Str->Option Value}{base:Heap}{N:List Str}{qual:Str}{scope:Scope}{f:Addr}{cd:Value}{A:Around}{outer:List Env}{s:Shared}{H:Hp}{E:XK}{x:Str}{C:Addr}{bm:List Value}{B newId initId:String}{np cpos pos:Pos}{k:Nat}
 (O:OwnCls x C bm newId mg base) (FB:ExcBaseFacts B newId initId bm) (hc:gE K x C) (hr:cf k (A.deeper (envOfC qual scope s.heap.objs.size f cd)))
 (hg:Gl (bN (CXr P w) P w K mg base N qual scope f cd A outer s H E) x) (hd:(x == ("__debug__" : Str))=false:=by decide):JS (bN (CXr P w) P w K mg base N qual scope f cd A outer s H E) (EXf K E) (.Raise (some (.Call (.Name x np) [] [] cpos)) none pos) (eN x) :=
 ⟨(vh O FB hr.hd hg hd).by fun D σ H ⟨F,ρ,W,R,h⟩=>h σ H W .refl (fun _ z=> .inl z) R C hc none⟩
theorem zL{K:EG}{run:FS}{H:Hp}{a:Addr}{ns:List Int}(hrun:∃ x,run [.klst (ns.map D.int)]=some (.ok (.bl true) false,x))(hS:SqL K H a (ns.map V.int)):spF K none run [.ref a] H (fun v _=>v = .bl true) fun _ _ _=>False:=by
 obtain ⟨x,hx⟩:=hrun;refine ⟨[],[],[.klst (ns.map D.int)],rfl,(fun p hp=>by cases hp),(fun p hp=>by cases hp),fun j d v _ h1 h2=> ?_,(fun k z=>by cases z),fun _=>rfl,?_⟩
 ·have hh:hid ([]++[]) H=H:=by funext b;unfold hid;simp
  rw [hh]
  match j,h1,h2 with
  | 0,h1,h2 =>
   simp only [Cz,Option.some.injEq] at h1 h2;subst h1 h2;exact ⟨a,_,rfl,hS,dM ns⟩
  | j+1,h1,h2=>simp at h1
 ·rw [hx]
  exact fun v H' _ rv _=>rv
theorem vS{P:Program}{w:World}{H:Hp}{s:Shared}{e:Value}{s':Shared}(h:CXr P w [] H s (fun _ _ _=>False) e s'):False:=by
 obtain ⟨_,_,_,_,_,_,_,_,_,_,z⟩:=h;exact z
section
variable{X:Cx}{EX:EXT}{a b e:Expr}{es:List Expr}{pos p:Pos}{x y:Arg}{as:List Arg}
theorem v(i:Nat){n:Str}(hN:X.N[i]?=some n:=by rfl)(hv:Vis X.env.scope n:=by first | exact Or.inl rfl | exact Or.inr (Or.inl rfl) | exact Or.inr (Or.inr rfl))(hd:(n == ("__debug__" : Str))=false:=by decide)(hcd:(n == ("__classdict__" : Str))=false:=by decide):JE X EX (.Name n pos) (bd i):=c_var hN hv hd hcd
theorem vb(i:Nat){n:Str}(hN:X.N[i]?=some n:=by rfl)(hv:Vis X.env.scope n:=by first | exact Or.inl rfl | exact Or.inr (Or.inl rfl) | exact Or.inr (Or.inr rfl))(hd:(n == ("__debug__" : Str))=false:=by decide)(hcd:(n == ("__classdict__" : Str))=false:=by decide):JB X EX (.Name n pos) (.bor i):=cb_var hN hv hd hcd
theorem b_add(ha:JB X EX a x)(hb:JB X EX b y):JE X EX (.BinOp a .Add b pos) (sOp aE [x,y]):=tU AK os_add ha hb
theorem b_sub(ha:JB X EX a x)(hb:JB X EX b y):JE X EX (.BinOp a .Sub b pos) (sOp cB [x,y]):=tU op_sub os_sub ha hb
theorem b_mul(ha:JB X EX a x)(hb:JB X EX b y):JE X EX (.BinOp a .Mult b pos) (sOp kN [x,y]):=tU uv xL ha hb
theorem b_fdiv(ha:JB X EX a x)(hb:JB X EX b y):JE X EX (.BinOp a .FloorDiv b pos) (sOp ie [x,y]):=tU AH AE ha hb
theorem b_mod(ha:JB X EX a x)(hb:JB X EX b y):JE X EX (.BinOp a .Mod b pos) (sOp hU [x,y]):=tU op_mod os_mod ha hb
theorem b_pow(ha:JB X EX a x)(hb:JB X EX b y):JE X EX (.BinOp a .Pow b pos) (sOp yt [x,y]):=tU op_pow os_pow ha hb
theorem b_ix(ha:JB X EX a x)(hb:JB X EX b y)(hp:pW b:=by exact fun _ _=>rfl):JE X EX (.Subscript a b pos) (sOp gIx [x,y]):=c_ix ix_seq os_ix ha hb hp
theorem q_eq(hu:X.A.units+10 < cLine)(ha:JB X EX a x)(hb:JB X EX b y):JE X EX (.Compare a [.Eq] [b] pos) (sOp gEq [x,y]):=zb (xN (by omega)) BS ha hb (dQ _)
theorem q_le(ha:JB X EX a x)(hb:JB X EX b y):JE X EX (.Compare a [.LtE] [b] pos) (sOp gLe [x,y]):=zb uw uu ha hb (dQ _)
theorem q_ge(ha:JB X EX a x)(hb:JB X EX b y):JE X EX (.Compare a [.GtE] [b] pos) (sOp gGe [x,y]):=zb BT BR ha hb (dQ _)
theorem t_eq(hu:X.A.units+10 < cLine)(ha:JB X EX a x)(hb:JB X EX b y):JT X EX (.Compare a [.Eq] [b] pos) (aH gEq [x,y]):=kb (xN (by omega)) BS ha hb (dQ _)
theorem t_ne(hu:X.A.units+10 < cLine)(ha:JB X EX a x)(hb:JB X EX b y):JT X EX (.Compare a [.NotEq] [b] pos) (aH gNe [x,y]):=kb (op_neD (by omega)) os_ne ha hb (dQ _)
theorem t_lt(ha:JB X EX a x)(hb:JB X EX b y):JT X EX (.Compare a [.Lt] [b] pos) (aH gLt [x,y]):=kb op_lt os_lt ha hb (dQ _)
theorem t_le(ha:JB X EX a x)(hb:JB X EX b y):JT X EX (.Compare a [.LtE] [b] pos) (aH gLe [x,y]):=kb uw uu ha hb (dQ _)
theorem t_gt(ha:JB X EX a x)(hb:JB X EX b y):JT X EX (.Compare a [.Gt] [b] pos) (aH gGt [x,y]):=kb op_gt os_gt ha hb (dQ _)
theorem t_ge(ha:JB X EX a x)(hb:JB X EX b y):JT X EX (.Compare a [.GtE] [b] pos) (aH gGe [x,y]):=kb BT BR ha hb (dQ _)
theorem t_is(ha:JB X EX a x)(hb:JB X EX b y):JT X EX (.Compare a [.Is] [b] pos) (aH gIs [x,y]):=kb op_isD os_is ha hb (dQ _)
theorem t_in(hu:X.A.units+10 < cLine)(ha:JB X EX a x)(hb:JB X EX b y)(hm:behindInMarks .In b=false:=by with_unfolding_all rfl):JT X EX (.Compare a [.In] [b] pos) (aH gIn [x,y]):=kb (op_inA hu) os_in ha hb hm
variable(he:starEach (e::es) X.env=(false,eval e X.env)::starEach es X.env:=by rfl)(hpl:(backTo pos (starEach es X.env)).any (·.1)=false:=by rfl)
include he hpl
theorem b_len(m:X.mg "len" = none)(ha:JA X EX (e::es) as)(hg:Gl X "len" := by rfl):JE X EX (.Call (.Name "len" p) (e::es) [] pos) (sOp bu as):=fH wd os_len hg m PySem.boot_len ha (by decide) (by decide) he hpl
theorem b_sum(m:X.mg "sum" = none)(ha:JA X EX (e::es) as)(hg:Gl X "sum" := by rfl)(hc:X.calm=true:=by rfl):JE X EX (.Call (.Name "sum" p) (e::es) [] pos) (sOp pA as):=fH (vW hc) os_sum hg m PyProof.Rows.boot_sum ha (by decide) (by decide) he hpl
theorem b_all(m:X.mg "all" = none)(ha:JA X EX (e::es) as)(hg:Gl X "all" := by rfl)(hc:X.calm=true:=by rfl):JE X EX (.Call (.Name "all" p) (e::es) [] pos) (sOp jQ as):=fH (wg hc) os_all hg m PyProof.Rows.boot_all ha (by decide) (by decide) he hpl
theorem b_max(m:X.mg "max" = none)(ha:JA X EX (e::es) as)(hg:Gl X "max" := by rfl)(hc:X.calm=true:=by rfl):JE X EX (.Call (.Name "max" p) (e::es) [] pos) (sOp eC as):=fH (v8 hc) AC hg m PyProof.Rows.boot_max ha (by decide) (by decide) he hpl
theorem b_min(m:X.mg "min" = none)(ha:JA X EX (e::es) as)(hg:Gl X "min" := by rfl)(hc:X.calm=true:=by rfl):JE X EX (.Call (.Name "min" p) (e::es) [] pos) (sOp e8 as):=fH (v3 hc) AB hg m PyProof.Rows.boot_min ha (by decide) (by decide) he hpl
theorem b_abs(m:X.mg "abs" = none)(ha:JA X EX (e::es) as)(hg:Gl X "abs" := by rfl):JE X EX (.Call (.Name "abs" p) (e::es) [] pos) (sOp yG as):=fH wj os_abs hg m PyProof.Rows.boot_abs ha (by decide) (by decide) he hpl
theorem Bm(m:X.mg "tuple" = none)(ha:JA X EX (e::es) as)(hg:Gl X "tuple" := by rfl)(hc:X.calm=true:=by rfl):JE X EX (.Call (.Name "tuple" p) (e::es) [] pos) (sOp dl as):=gF (rG hc) xG hg m PyProof.Rows.boot_tuple ha (by decide) (by decide) he hpl
theorem b_set(m:X.mg "set" = none)(ha:JA X EX (e::es) as)(hg:Gl X "set" := by rfl)(hc:X.calm=true:=by rfl):JE X EX (.Call (.Name "set" p) (e::es) [] pos) (sOp vK as):=gF (vX hc) os_set hg m PyProof.Rows.boot_set ha (by decide) (by decide) he hpl
theorem b_int(m:X.mg "int" = none)(ha:JA X EX (e::es) as)(hg:Gl X "int" := by rfl):JE X EX (.Call (.Name "int" p) (e::es) [] pos) (sOp yC as):=gF we os_int hg m PyProof.Rows.boot_int ha (by decide) (by decide) he hpl
theorem Bo(m:X.mg "range" = none)(ha:JA X EX (e::es) as)(hg:Gl X "range" := by rfl):JE X EX (.Call (.Name "range" p) (e::es) [] pos) (sOp gA as):=gF rH xK hg m PyProof.Rows.boot_range ha (by decide) (by decide) he hpl
end
section
variable{X:Cx}{EX:EXT}{e:Expr}{a:Arg}{p1 p2 pos:Pos}
theorem wo(he:JB X EX e a)(m1:X.mg "isinstance" = none)(m2:X.mg "int" = none)(g1:Gl X "isinstance" := by rfl)(g2:Gl X "int" := by rfl)(hs:starEach [e,.Name "int" p1] X.env=(false,eval e X.env)::starEach [.Name "int" p1] X.env:=by rfl):JE X EX (.Call (.Name "isinstance" p2) [e,.Name "int" p1] [] pos) (sOp (fB "int") [a]):=uR (.inl rfl) he g1 m1 g2 m2 PyProof.Rows.boot_int (by decide) (by decide) hs
theorem tZ(he:JB X EX e a)(m1:X.mg "isinstance" = none)(m2:X.mg "bool" = none)(g1:Gl X "isinstance" := by rfl)(g2:Gl X "bool" := by rfl)(hs:starEach [e,.Name "bool" p1] X.env=(false,eval e X.env)::starEach [.Name "bool" p1] X.env:=by rfl):JE X EX (.Call (.Name "isinstance" p2) [e,.Name "bool" p1] [] pos) (sOp (fB "bool") [a]):=uR (.inr (.inl rfl)) he g1 m1 g2 m2 PyProof.Rows.boot_bool (by decide) (by decide) hs
theorem rO(he:JB X EX e a)(m1:X.mg "isinstance" = none)(m2:X.mg "tuple" = none)(g1:Gl X "isinstance" := by rfl)(g2:Gl X "tuple" := by rfl)(hs:starEach [e,.Name "tuple" p1] X.env=(false,eval e X.env)::starEach [.Name "tuple" p1] X.env:=by rfl):JE X EX (.Call (.Name "isinstance" p2) [e,.Name "tuple" p1] [] pos) (sOp (fB "tuple") [a]):=uR (.inr (.inr (.inl rfl))) he g1 m1 g2 m2 PyProof.Rows.boot_tuple (by decide) (by decide) hs
theorem wm(he:JB X EX e a)(m1:X.mg "isinstance" = none)(m2:X.mg "str" = none)(g1:Gl X "isinstance" := by rfl)(g2:Gl X "str" := by rfl)(hs:starEach [e,.Name "str" p1] X.env=(false,eval e X.env)::starEach [.Name "str" p1] X.env:=by rfl):JE X EX (.Call (.Name "isinstance" p2) [e,.Name "str" p1] [] pos) (sOp (fB "str") [a]):=uR (.inr (.inr (.inr (.inr rfl)))) he g1 m1 g2 m2 PyProof.Rows.boot_str (by decide) (by decide) hs
end
section
variable{X:Cx}{EX:EXT}{e:Expr}{pos p1 apos cpos:Pos}{n:Str}{f:SE}
theorem xZ(j:Nat)(h:JE X EX e f)(hN:X.N[j]?=some n:=by rfl)(hv:Vis X.env.scope n:=by first | exact Or.inl rfl | exact Or.inr (Or.inl rfl) | exact Or.inr (Or.inr rfl))(hst:starEach [e] X.env=(false,eval e X.env)::starEach [] X.env:=by rfl)
 (hbase:attributeBase (.Name n p1) "append" X.env (eval (.Name n p1) X.env)=eval (.Name n p1) X.env:=by rfl) (hfew:((backTo cpos (starEach [e] X.env)).all (fun x => !x.1)&&(backToKw cpos (keywordEach [] X.env)).all (fun x=>x.1.isSome)&&decide ([e].length+([]:List Keyword).length+(if ([]:List Keyword).isEmpty then 0 else 1) < 30))=true:=by rfl)
 (hline:(apos.endLine == cpos.line)=true:=by rfl) (hplain:(backTo cpos (starEach [] X.env)).any (·.1)=false:=by rfl) (hd:(n == ("__debug__" : Str))=false:=by decide) (hcd:(n == ("__classdict__" : Str))=false:=by decide) :
 JE X EX (.Call (.Attribute (.Name n p1) "append" apos) [e] [] cpos) (cj j gO [f]):=yZ vC nW PySem.F.slot_list_append PySem.F.type_list_append hN hv (.cons h .nil hst) hbase hfew hline hst hplain hd hcd
theorem xY(j:Nat)(h:JE X EX e f)(hN:X.N[j]?=some n:=by rfl)(hv:Vis X.env.scope n:=by first | exact Or.inl rfl | exact Or.inr (Or.inl rfl) | exact Or.inr (Or.inr rfl))(hst:starEach [e] X.env=(false,eval e X.env)::starEach [] X.env:=by rfl)
 (hbase:attributeBase (.Name n p1) "extend" X.env (eval (.Name n p1) X.env)=eval (.Name n p1) X.env:=by rfl) (hfew:((backTo cpos (starEach [e] X.env)).all (fun x => !x.1)&&(backToKw cpos (keywordEach [] X.env)).all (fun x=>x.1.isSome)&&decide ([e].length+([]:List Keyword).length+(if ([]:List Keyword).isEmpty then 0 else 1) < 30))=true:=by rfl)
 (hline:(apos.endLine == cpos.line)=true:=by rfl) (hplain:(backTo cpos (starEach [] X.env)).any (·.1)=false:=by rfl) (hd:(n == ("__debug__" : Str))=false:=by decide) (hcd:(n == ("__classdict__" : Str))=false:=by decide) :
 JE X EX (.Call (.Attribute (.Name n p1) "extend" apos) [e] [] cpos) (cj j bP [f]):=yZ vB sR PySem.F.slot_list_extend PySem.F.type_list_extend hN hv (.cons h .nil hst) hbase hfew hline hst hplain hd hcd
end
end L2
namespace L2
namespace Td
open PySem L2 PyProof.Rows
def nb(j:Int):List (Int×Int)->List Int
 | []=>[]
 | t::r=>(if j=t.1 then [t.2] else if j=t.2 then [t.1] else [])++nb j r
end Td
end L2
namespace L2
open PySem
def dJ:SS:=(ah (aO (aH gLt [.bor 1,.ex (sOp bu [.bor 0])]) (au (sOp gIx [.bor 0,.bor 1])) aU) (au (sC (.int 0))))
def bc:FS:=ai 2 2 none dJ
def j7:SS:=(ah (a7 0 (sOp hU [.ex (sOp aE [.bor 0,.ex (sC (.int 7919))]),.ex (sC (.int 2147483647))])) (au (sOp hU [.ex (sOp aE [.ex (sOp aE [.ex (sOp kN [.bor 0,.bor 0]),.ex (sOp kN [.ex (sC (.int 48271)),.bor 0])]),.ex (sC (.int 12345))]),.ex (sC (.int 2147483629))])))
def df:FS:=ai 1 1 none j7
def ib:SS:=(ah (a7 1 (sOp eC [.bor 0,.ex (sOp cB [.ex (sC (.int 0)),.bor 0])])) (au (cA [(bd 1),(sOp yC [.ex (sOp gGe [.bor 1,.ex (sOp yt [.ex (sC (.int 10)),.ex (sC (.int 18))])])]),(sOp hU [.bor 1,.ex (sC (.int 1000003))])])))
def bH:FS:=ai 1 2 none ib
def gc:SS:=(ah (aO (aH gEq [.ex (sOp gIx [.bor 0,.ex (sC (.int 1))]),.ex (sC (.int 1))]) (ah (a7 2 (sOp hU [.ex (sOp gIx [.bor 0,.ex (sC (.int 0))]),.bor 1])) (ah (dv lf 0 (sOp ie [.ex (sOp gIx [.bor 0,.ex (sC (.int 0))]),.bor 1]) (sC (.int 0))) (cW 2))) aU) (ah (dv lf 0 (af none none df [.ex (sOp aE [.ex (af none none df [.ex (sOp gIx [.bor 0,.ex (sC (.int 2))])]),.ex (sC (.int 7))])]) (sC (.int 2))) (au (sOp hU [.ex (sOp ie [.ex (sOp gIx [.bor 0,.ex (sC (.int 2))]),.ex (sC (.int 64))]),.bor 1]))))
def az:FS:=ai 2 3 (some 0) gc
theorem pp{a b:Int}(h1 : -(2 ^ 64) < a)(h2:a < 2 ^ 64):nU a b=true:=by unfold nU;rw [Cr ⟨h1,h2⟩];rfl
def qS(s:Int):Int:=(((s+7919) % 2147483647) * ((s+7919) % 2147483647)+48271 * ((s+7919) % 2147483647)+12345) % 2147483629
theorem yJ(s:Int):df [.int s]=some (.ok (.int (qS s)) false,.non):=by
 have m1:nU ((s+7919) % 2147483647) ((s+7919) % 2147483647)=true:=pp (by omega) (by omega);have m2:nU 48271 ((s+7919) % 2147483647)=true:=pp (by omega) (by omega);unfold df j7;simp only [ai,ini,iP,ioD,aU,ah,a7,au,nN,cW,b8,aO,vc,iD,dv,cj,af,sOp,aH,sC,bd,aG,cA,evA,Cq,DS,bQ,iY,bU,sIf,g6,sOr,b9,u8,fK,sBl,bF,cm,dN,bT,ig,bX,dU,cy,dj,eX,a8,bB,ci,eW,dL,jG,b7,nn,nk,Tg.ge,Cc,Dr,Cz,CB,Dk,Dl,C7,CT,List.replicate,Ep,Nat.reduceSub,Nat.reduceAdd,C3,Option.isNone,if_true,reduceIte,decide_true,DV,Dv,Es,Et,DW,Ej,DY,Dq,reduceCtorEq,hU,aE,kN,Int.reduceLT,m1,m2];rfl
theorem AW{n i:Nat}(h:i < n):ixN n (i:Int)=some i:=by
 unfold ixN;rw [if_pos (by omega),if_pos (by omega)];rfl
theorem mH{α:Type}{l:List α}{i:Nat}{x:α}(h:l[i]?=some x):atI l (i:Int)=some x:=by
 unfold atI;rw [AW (Cm.mp h).1];exact h
section
variable{α:Type}{a b c d:α}{l:List α}
theorem B5:atI (a::l) 0=some a:=mH (i:=0) rfl
theorem B4:atI (a::b::l) 1=some b:=mH (i:=1) rfl
theorem atI_2:atI (a::b::c::l) 2=some c:=mH (i:=2) rfl
end
theorem fA{ds:List D}{i:Int}{d:D}(h:atI ds i=some d):gIx [.lst ds,.int i]=some (d,false):=by unfold gIx;simp only [h]
theorem yB{ds:List D}{i:Int}{d:D}(h:atI ds i=some d):gIx [.klst ds,.int i]=some (d,false):=by unfold gIx;simp only [h]
theorem uI{ds:List D}{i:Int}{d:D}(h:atI ds i=some d):gIx [.tup ds,.int i]=some (d,false):=by unfold gIx;simp only [h]
theorem pC(a b:Int):gEq [.int a,.int b]=some (.bl (decide (a=b)),false):=by
 unfold gEq;simp only [ae,Bool.and_self,if_true,eqD,nrm,eqN];rw [show (a == b)=decide (a=b) from rfl]
theorem A3(a b:Int):gNe [.int a,.int b]=some (.bl (!decide (a=b)),false):=by
 unfold gNe;simp only [ae,Bool.and_self,if_true,eqD,nrm,eqN];rw [show (a == b)=decide (a=b) from rfl]
theorem pB{a b:Int}(h:0 < b):hU [.int a,.int b]=some (.int (a % b),false):=by unfold hU;simp only [h,decide_true,if_true]
theorem mo{a b:Int}(h:0 < b)(h2:b < 1073741824):ie [.int a,.int b]=some (.int (a / b),false):=by unfold ie;simp only [h,h2,and_self,decide_true,if_true]
theorem A2:yt [.int 10,.int 18]=some (.int 1000000000000000000,false):=rfl
def vp(a f s:Int):D:= .lst [.int a,.int f,.int s]
theorem A9(c:Int):∃ a f s,bH [.int c]=some (.ok (vp a f s) true,.non):=by
 refine ⟨if 0 - c > c then 0 - c else c,if decide (1000000000000000000<=(if 0 - c > c then 0 - c else c)) then 1 else 0,(if 0 - c > c then 0 - c else c) % 1000003,?_⟩;unfold bH ib;simp only [ai,ini,iP,ioD,aU,ah,a7,au,nN,cW,b8,aO,vc,iD,dv,cj,af,sOp,aH,sC,bd,aG,cA,evA,Cq,DS,bQ,iY,bU,sIf,g6,sOr,b9,u8,fK,sBl,bF,cm,dN,bT,ig,bX,dU,cy,dj,eX,a8,bB,ci,eW,dL,jG,b7,nn,nk,Tg.ge,Cc,Dr,Cz,CB,Dk,Dl,C7,CT,List.replicate,Ep,Nat.reduceSub,Nat.reduceAdd,C3,Option.isNone,if_true,reduceIte,decide_true,DV,Dv,Es,Et,DW,Ej,DY,Dq,reduceCtorEq,eC,yx,cB,yC,gGe,A2,hU,Int.reduceLT];rfl
theorem rm(ns:List Int)(k:Nat):∃ c:Int,bc [.klst (ns.map D.int),.int k]=some (.ok (.int c) false,.non):=by
 by_cases h:k < ns.length
 ·refine ⟨ns[k],?_⟩
  have e:atI (ns.map D.int) (k:Int)=some (.int ns[k]):=mH (by rw [Cw,B8 h];rfl)
  have h':(k:Int) < ((ns.map D.int).length:Nat):=by rw [B9];omega
  unfold bc dJ;simp only [ai,ini,iP,ioD,aU,ah,a7,au,nN,cW,b8,aO,vc,iD,dv,cj,af,sOp,aH,sC,bd,aG,cA,evA,Cq,DS,bQ,iY,bU,sIf,g6,sOr,b9,u8,fK,sBl,bF,cm,dN,bT,ig,bX,dU,cy,dj,eX,a8,bB,ci,eW,dL,jG,b7,nn,nk,Tg.ge,Cc,Dr,Cz,CB,Dk,Dl,C7,CT,List.replicate,Ep,Nat.reduceSub,Nat.reduceAdd,C3,Option.isNone,if_true,reduceIte,decide_true,DV,Dv,Es,Et,DW,Ej,DY,Dq,reduceCtorEq,bu,gLt,yB e,h']
 ·refine ⟨0,?_⟩
  have h':¬ (k:Int) < ((ns.map D.int).length:Nat):=by rw [B9];omega
  unfold bc dJ;simp only [ai,ini,iP,ioD,aU,ah,a7,au,nN,cW,b8,aO,vc,iD,dv,cj,af,sOp,aH,sC,bd,aG,cA,evA,Cq,DS,bQ,iY,bU,sIf,g6,sOr,b9,u8,fK,sBl,bF,cm,dN,bT,ig,bX,dU,cy,dj,eX,a8,bB,ci,eW,dL,jG,b7,nn,nk,Tg.ge,Cc,Dr,Cz,CB,Dk,Dl,C7,CT,List.replicate,Ep,Nat.reduceSub,Nat.reduceAdd,C3,Option.isNone,if_true,reduceIte,decide_true,DV,Dv,Es,Et,DW,Ej,DY,Dq,reduceCtorEq,bu,gLt,h',decide_false]
theorem zn{a b c d:D}:lf (.lst [a,b,c]) (.int 0) d=some (.lst [d,b,c]):=rfl
theorem zm{a b c d:D}:lf (.lst [a,b,c]) (.int 2) d=some (.lst [a,b,d]):=rfl
theorem yK(a f s m:Int)(h:0 < m)(h2:m < 1073741824):∃ r a' f' s':Int,az [vp a f s,.int m]=some (.ok (.int r) false,vp a' f' s')/\0<=r/\r < m:=by
 by_cases hf:f=1
 ·refine ⟨a % m,a / m,f,s,?_,Int.emod_nonneg _ (by omega),Int.emod_lt_of_pos _ h⟩
  unfold az gc vp;simp only [ai,ini,iP,ioD,aU,ah,a7,au,nN,cW,b8,aO,vc,iD,dv,cj,af,sOp,aH,sC,bd,aG,cA,evA,Cq,DS,bQ,iY,bU,sIf,g6,sOr,b9,u8,fK,sBl,bF,cm,dN,bT,ig,bX,dU,cy,dj,eX,a8,bB,ci,eW,dL,jG,b7,nn,nk,Tg.ge,Cc,Dr,Cz,CB,Dk,Dl,C7,CT,List.replicate,Ep,Nat.reduceSub,Nat.reduceAdd,C3,Option.isNone,if_true,reduceIte,decide_true,DV,Dv,Es,Et,DW,Ej,DY,Dq,reduceCtorEq,pC,fA B5,fA B4,pB h,mo h h2,zn,hf]
 ·refine ⟨qS (qS s+7) / 64 % m,a,f,qS (qS s+7),?_,Int.emod_nonneg _ (by omega),Int.emod_lt_of_pos _ h⟩
  unfold az gc vp;simp only [ai,ini,iP,ioD,aU,ah,a7,au,nN,cW,b8,aO,vc,iD,dv,cj,af,sOp,aH,sC,bd,aG,cA,evA,Cq,DS,bQ,iY,bU,sIf,g6,sOr,b9,u8,fK,sBl,bF,cm,dN,bT,ig,bX,dU,cy,dj,eX,a8,bB,ci,eW,dL,jG,b7,nn,nk,Tg.ge,Cc,Dr,Cz,CB,Dk,Dl,C7,CT,List.replicate,Ep,Nat.reduceSub,Nat.reduceAdd,C3,Option.isNone,if_true,reduceIte,decide_true,DV,Dv,Es,Et,DW,Ej,DY,Dq,reduceCtorEq,pC,fA B5,fA B4,fA atI_2,pB h,mo (show (0:Int) < 64 by decide) (by decide),aE,zm,hf,decide_false,yJ]
theorem nO{T:Tg}{f:SS}(I:Nat->Rho->Prop):∀ (ds:List D) (k:Nat) (ρ:Rho),I k ρ->(∀ i d ρ,ds[i]?=some d->I (k+i) ρ->∃ ρ1 ρ2,bF T d ρ=some ρ1/\f ρ1=some (.nx,ρ2)/\I (k+i+1) ρ2)->∃ ρ',bJ T f ds ρ=some (.nx,ρ')/\I (k+ds.length) ρ'
 | [],k,ρ,h,_=>⟨ρ,rfl,h⟩
 | d::ds,k,ρ,h,hs=>by
  obtain ⟨ρ1,ρ2,e1,e2,h2⟩:=hs 0 d ρ rfl h
  obtain ⟨ρ',e3,h3⟩:=nO I ds (k+1) ρ2 h2 fun i d ρ e hi=>by
   have:=hs (i+1) d ρ (by simpa using e) (by rw [show k+(i+1)=k+1+i by omega];exact hi);rw [show k+(i+1)+1=k+1+i+1 by omega] at this;exact this
  refine ⟨ρ',?_,by rw [Cc,show k+(ds.length+1)=k+1+ds.length by omega];exact h3⟩;unfold bJ;simp only [e1,e2,e3]
end L2
namespace L2
open PySem PySem.Spec PyProof.Rows
section
variable{ρ ρ1 ρ2:Rho}{d c c' i:D}{ds:List D}{nw b:Bool}{f g:SE}{p q:ST}{s t:SS}{C:Str}
theorem r_set{j:Nat}{x:Option (D×Md)}(h:f ρ=some (.ok d nw,ρ1))(hx:ρ1[j]?=some x)(hn:ρ1.set j (some (d,if nw then .ow else .fz))=ρ2):a7 j f ρ=some (.nx,ρ2):=by subst hn;unfold a7;rw [h];show (match ρ1[j]? with | some _=>_ | none=>_)=_;rw [hx]
theorem r_ret(h:f ρ=some (.ok d nw,ρ1)):au f ρ=some (.rt d nw,ρ1):=by unfold au;rw [h]
theorem r_expr(h:f ρ=some (.ok d nw,ρ1)):b8 f ρ=some (.nx,ρ1):=by unfold b8;rw [h]
theorem wZ{r:Option (Out×Rho)}(h:s ρ=some (.nx,ρ1))(h2:t ρ1=r):ah s t ρ=r:=by unfold ah;rw [h];exact h2
theorem r_seqR(h:s ρ=some (.rt d nw,ρ1)):ah s t ρ=some (.rt d nw,ρ1):=by unfold ah;rw [h]
theorem r_ifT{r:Option (Out×Rho)}(h:p ρ=some (.ok b,ρ1))(hb:b=true)(h2:s ρ1=r):aO p s t ρ=r:=by unfold aO;subst hb;rw [h];exact h2
theorem r_ifF{r:Option (Out×Rho)}(h:p ρ=some (.ok b,ρ1))(hb:b=false)(h2:t ρ1=r):aO p s t ρ=r:=by unfold aO;subst hb;rw [h];exact h2
theorem r_nil:aU ρ=some (.nx,ρ):=rfl
theorem r_aug{j:Nat}{op:Int->Int->Int}{a k:Int}{x:Option (D×Md)}(h0:ρ[j]?=some (some (.int a,.fz)))(h:f ρ=some (.ok (.int k) nw,ρ1))(hx:ρ1[j]?=some x)(hn:ρ1.set j (some (.int (op a k),.fz))=ρ2):iD j op f ρ=some (.nx,ρ2):=by
 subst hn;unfold iD;rw [h0];show (match f ρ with | some (.ok (.int b) _,ρ')=>_ | some (.ok _ _,_)=>_ | some (.ex C,ρ')=>_ | none=>_)=_;rw [h];show (match ρ1[j]? with | some _=>_ | none=>_)=_;rw [hx]
theorem Ab{u:D->D->D->Option D}{j:Nat}{x:D×Md}{nw2:Bool}(h:f ρ=some (.ok d nw,ρ1))(h1:ρ1[j]?=some (some x))(h2:g ρ1=some (.ok i nw2,ρ2))(h3:ρ2[j]?=some (some (c,.ow)))(h4:u c i d=some c'){ρ3:Rho}(hn:ρ2.set j (some (c',.ow))=ρ3):dv u j f g ρ=some (.nx,ρ3):=by subst hn;unfold dv;simp only [h,h1,h2,h3,h4]
theorem r_for{it:SI}{T:Tg}{r:Option (Out×Rho)}(h:it ρ=some (.ok ds,ρ1))(h2:bJ T s ds ρ1=r):eX it T s ρ=r:=by unfold eX;rw [h];exact h2
theorem zZ{j:Nat}{u:D->List D->Option (D×D)}{fs:List SE}{l:List D}(h0:ρ[j]?=some (some (.lst l,.ow)))(h1:evA (fs.map Arg.ex) ρ=some (.ok ds,ρ1))(h2:ρ1[j]?=some (some (c,.ow)))(h3:u c ds=some (c',d))(hn:ρ1.set j (some (c',.ow))=ρ2):cj j u fs ρ=some (.ok d false,ρ2):=by subst hn;unfold cj;simp only [h0,h1,h2,h3]
theorem r_nilA:evA [] ρ=some (.ok [],ρ):=rfl
theorem BE{as:List Arg}(h:f ρ=some (.ok d nw,ρ1))(h2:evA as ρ1=some (.ok ds,ρ2)):evA (.ex f::as) ρ=some (.ok (d::ds),ρ2):=by unfold evA;simp only [h,h2]
theorem r_nilM:evA (List.map Arg.ex []) ρ=some (.ok [],ρ):=rfl
theorem r_exM{fs:List SE}(h:f ρ=some (.ok d nw,ρ1))(h2:evA (List.map Arg.ex fs) ρ1=some (.ok ds,ρ2)):evA (List.map Arg.ex (f::fs)) ρ=some (.ok (d::ds),ρ2):=BE h h2
theorem r_borA{as:List Arg}{j:Nat}{x:D×Md}{m:Md}(h:ρ[j]?=some (some x))(h2:evA as ρ=some (.ok ds,ρ2))(h3:ρ2[j]?=some (some (d,m))):evA (.bor j::as) ρ=some (.ok (d::ds),ρ2):=by unfold evA;simp only [h,h2,h3]
theorem r_op{o:List D->Option (D×Bool)}{as:List Arg}(h:evA as ρ=some (.ok ds,ρ1))(h2:o ds=some (d,nw)):sOp o as ρ=some (.ok d nw,ρ1):=by unfold sOp;simp only [h,h2]
theorem r_opT{o:List D->Option (D×Bool)}{as:List Arg}(h:evA as ρ=some (.ok ds,ρ1))(h2:o ds=some (.bl b,nw)):aH o as ρ=some (.ok b,ρ1):=by unfold aH;rw [r_op h h2]
theorem r_tru{a:Arg}(h:evA [a] ρ=some (.ok [d],ρ1))(h2:iY d=some b):bQ a ρ=some (.ok b,ρ1):=by unfold bQ;simp only [h,h2]
theorem r_not(h:p ρ=some (.ok b,ρ1)):bU p ρ=some (.ok (!b),ρ1):=by unfold bU;rw [h]
theorem r_andT{r:Option (wr×Rho)}(h:p ρ=some (.ok b,ρ1))(hb:b=true)(h2:q ρ1=r):g6 p q ρ=r:=by unfold g6;subst hb;rw [h];exact h2
theorem r_andF(h:p ρ=some (.ok b,ρ1))(hb:b=false):g6 p q ρ=some (.ok false,ρ1):=by unfold g6;subst hb;rw [h]
theorem r_orF{r:Option (wr×Rho)}(h:p ρ=some (.ok b,ρ1))(hb:b=false)(h2:q ρ1=r):sOr p q ρ=r:=by unfold sOr;subst hb;rw [h];exact h2
theorem r_c:sC d ρ=some (.ok d false,ρ):=rfl
theorem r_varF{j:Nat}(h:ρ[j]?=some (some (d,.fz))):bd j ρ=some (.ok d false,ρ):=by unfold bd;rw [h]
theorem r_varO{j:Nat}(h:ρ[j]?=some (some (d,.ow)))(hn:ρ.set j (some (d,.fz))=ρ1):bd j ρ=some (.ok d false,ρ1):=by subst hn;unfold bd;rw [h]
theorem r_retF{j:Nat}(h:ρ[j]?=some (some (d,.fz))):cW j ρ=some (.rt d false,ρ):=by unfold cW;rw [h]
theorem r_retO{j:Nat}(h:ρ[j]?=some (some (d,.ow)))(hn:ρ.set j none=ρ1):cW j ρ=some (.rt d true,ρ1):=by subst hn;unfold cW;rw [h]
theorem r_tup{fs:List SE}(h:evA (fs.map Arg.ex) ρ=some (.ok ds,ρ1)):aG fs ρ=some (.ok (.tup ds) false,ρ1):=by unfold aG;rw [h]
theorem r_lst{fs:List SE}(h:evA (fs.map Arg.ex) ρ=some (.ok ds,ρ1)):cA fs ρ=some (.ok (.lst ds) true,ρ1):=by unfold cA;rw [h]
theorem r_seqI{l:List D}(h:f ρ=some (.ok d nw,ρ1))(h2:b7 d=some l):bB f ρ=some (.ok l,ρ1):=by unfold bB;simp only [h,h2]
theorem r_enum{l:List D}(h:f ρ=some (.ok d nw,ρ1))(h2:b7 d=some l):dL f ρ=some (.ok (gD 0 l),ρ1):=by unfold dL;simp only [h,h2]
theorem r_zip{fs:List SE}{l l':List D}(h:evA (fs.map Arg.ex) ρ=some (.ok ds,ρ1))(h2:wO ds=some (l,l'))(h3:l.length<=l'.length):jG fs ρ=some (.ok (jD l l'),ρ1):=by unfold jG;simp only [h,h2,h3,decide_true,if_true]
theorem r_rng1{x:Arg}{j:Int}(h:evA [x] ρ=some (.ok [.int j],ρ1))(o:okR 0 j=true):ci x ρ=some (.ok (gk 0 j.toNat),ρ1):=by
 unfold ci;rw [h];show (if okR 0 j=true then some (pU.ok (gk 0 j.toNat),ρ1) else none)=_;rw [if_pos o]
theorem r_rng2{x y:Arg}{j k:Int}(h:evA [x,y] ρ=some (.ok [.int j,.int k],ρ1))(o:okR j k=true):eW x y ρ=some (.ok (gk j (k - j).toNat),ρ1):=by
 unfold eW;rw [h];show (if okR j k=true then some (pU.ok (gk j (k - j).toNat),ρ1) else none)=_;rw [if_pos o]
theorem r_comp{k:Nat}{it:SI}{T:Tg}{e:Option ST}{ys:List D}(h1:it ρ=some (.ok ds,ρ1))(h2:Tg.ge ρ1.length T=true)(h3:bq k T e f ds ρ1=some (ys,ρ2)):a8 k it T e f ρ=some (.ok (.lst ys) true,ρ2):=by
 unfold a8;rw [h1];show (if Tg.ge ρ1.length T=true then _ else none)=_;rw [if_pos h2,h3]
theorem r_call{as:List Arg}{run:FS}{x:D}(h:evA as ρ=some (.ok ds,ρ1))(h2:run ds=some (.ok d nw,x))(h3:(bT none 0 as ρ1||(ig d nw&&((none:Option Nat).isNone||bX x)))=true):af none none run as ρ=some (.ok d nw,ρ1):=by
 unfold af;simp only [h,h2];rw [if_pos h3];rfl
theorem Ag{as:List Arg}{run:FS}{x:D}(h:evA as ρ=some (.ok ds,ρ1))(h2:run ds=some (.ex C,x))(h3:(bT none 0 as ρ1||((none:Option Nat).isNone||bX x))=true):af none none run as ρ=some (.ex C,ρ1):=by
 unfold af;simp only [h,h2];rw [if_pos h3];rfl
theorem w8{k j:Nat}{as:List Arg}{run:FS}{x:D}(h:evA as ρ=some (.ok ds,ρ1))(h2:run ds=some (.ok d nw,x))(h3:(bT (some k) 0 as ρ1||(ig d nw&&((some k).isNone||bX x)))=true)(h4:dN (some j) x ρ1=some ρ2):af (some k) (some j) run as ρ=some (.ok d nw,ρ2):=by
 unfold af;simp only [h,h2];rw [if_pos h3,h4]
theorem Af{o o':List D->Option (D×Bool)}{f3:SE}{x y z:D}{b2:Bool}(h:evA [.ex f,.ex g] ρ=some (.ok [x,y],ρ1))(h1:o [x,y]=some (.bl b,false))(h2:f3 ρ1=some (.ok z nw,ρ1))(h3:o' [y,z]=some (.bl b2,false)):dj o o' f g f3 ρ=some (.ok (.bl (b&&b2)) false,ρ1):=by
 unfold dj;simp only [h,h1]
 cases b with
 | true=>simp only [h2,h3,DV]
 | false=>rfl
theorem Ah{r:Option (Res×Rho)}(h:f ρ=some (.ok (.bl b) nw,ρ1))(hb:b=true)(h2:g ρ1=r):b9 f g ρ=r:=by unfold b9;subst hb;rw [h];exact h2
theorem r_andV{b2:Bool}(h:f ρ=some (.ok (.bl b) nw,ρ1))(h2:g ρ1=some (.ok (.bl b2) false,ρ1)):b9 f g ρ=some (.ok (.bl (b&&b2)) false,ρ1):=by
 unfold b9;rw [h]
 cases b with
 | true=>exact h2
 | false=>rfl
theorem r_notV(h:f ρ=some (.ok (.bl b) nw,ρ1)):fK f ρ=some (.ok (.bl (!b)) false,ρ1):=by unfold fK;rw [h]
theorem r_ieT{r:Option (Res×Rho)}(h:p ρ=some (.ok b,ρ1))(hb:b=true)(h2:f ρ1=r):sIf p f g ρ=r:=by unfold sIf;subst hb;rw [h];exact h2
section
variable{np n:Nat}{body:SS}{io:Option Nat}{x:D}
theorem r_fn(hi:ini n io ds=ρ)(h:body ρ=some (.rt d nw,ρ1))(hx:ioD io ρ1=some x)(hl:ds.length=np):ai np n io body ds=some (.ok d nw,x):=by subst hi;unfold ai;rw [if_pos hl,h];show (match ioD io ρ1 with | some x=>_ | none=>_)=_;rw [hx]
theorem r_fnN(hi:ini n io ds=ρ)(h:body ρ=some (.nx,ρ1))(hx:ioD io ρ1=some x)(hl:ds.length=np):ai np n io body ds=some (.ok .non false,x):=by subst hi;unfold ai;rw [if_pos hl,h];show (match ioD io ρ1 with | some x=>_ | none=>_)=_;rw [hx]
theorem r_fnX(hi:ini n io ds=ρ)(h:body ρ=some (.ex C,ρ1))(hx:ioD io ρ1=some x)(hl:ds.length=np):ai np n io body ds=some (.ex C,x):=by subst hi;unfold ai;rw [if_pos hl,h];show (match ioD io ρ1 with | some x=>_ | none=>_)=_;rw [hx]
end
theorem zY{nm:Str}:eN nm ρ=some (.ex nm,ρ):=rfl
end
theorem gQ{α:Type}{k:Nat}{T:Tg}{f:SE}{ρ:Rho}{inj g:α->D}:∀ (xs:List α),(∀ x∈xs,∃ ρ1 ρ3 nw,bF T (inj x) (ρ++List.replicate k none)=some ρ1/\f ρ1=some (.ok (g x) nw,ρ3)/\ρ3.take ρ.length=ρ)->bq k T none f (xs.map inj) ρ=some (xs.map g,ρ)
 | [],_=>rfl
 | x::xs,h=>by
  obtain ⟨ρ1,ρ3,nw,e1,e2,e3⟩:=h x Ck;rw [Cq];unfold bq;simp only [e1,evC,e2,e3,gQ xs fun d hd=>h d (Ce _ hd),Cq]
theorem yE(bs:List Bool):jQ [.lst (bs.map D.bl)]=some (.bl (bs.all id),false):=by unfold jQ;simp only [wk]
theorem vJ(ns:List Int)(h:ns.length<=1000):vK [.tup (ns.map D.int)]=some (.set (dd ns),false):=by unfold vK;simp only [cE,h,decide_true,if_true]
theorem dd_len(ns:List Int):(dd ns).length<=ns.length:=by
 unfold dd
 have:∀ (l acc:List Int),(l.foldl step_dedup acc).length<=acc.length+l.length:=by
  intro l
  induction l with
  | nil=>intro acc;simp
  | cons x l ih =>
   intro acc
   have h1:(step_dedup acc x).length<=acc.length+1:=by
    unfold step_dedup
    split<;>simp
   have:=ih (step_dedup acc x);rw [List.foldl_cons,Cc];omega
 have:=this ns [];simpa using this
theorem yz(ns:List Int)(h:ns.length<=1000):bu [.set (dd ns)]=some (.int (dd ns).length,false):=by
 have:=dd_len ns;unfold bu;simp only [show (dd ns).length<=1000 by omega,decide_true,if_true]
theorem vM(ns:List Int)(h:ns≠[]):eC [.lst (ns.map D.int)]=some (.int (g7 ns),false):=by
 unfold eC yx
 cases ns with
 | nil=>exact absurd rfl h
 | cons n ns=>simp only [cE]
theorem vL(ns:List Int)(h:ns≠[]):e8 [.lst (ns.map D.int)]=some (.int (gx ns),false):=by
 unfold e8 A5
 cases ns with
 | nil=>exact absurd rfl h
 | cons n ns=>simp only [cE]
theorem rQ{ns:List Int}{i:Int}(h0:0<=i)(h1:i < ns.length):atI (ns.map D.int) i=some (.int (ns.getD i.toNat 0)):=by
 obtain ⟨k,rfl⟩:∃ k:Nat,i=k:=⟨i.toNat,by omega⟩
 have hk:k < ns.length:=by omega
 refine mH ?_;rw [Cw,B8 hk];simp [hk]
theorem eQ{n:Nat}(h:n<=1000):small n=true:=by unfold small;exact Cr (by omega)
theorem xQ{lo hi:Int}(h1 : -1000000<=lo)(h2:lo<=1000000)(h3 : -1000000<=hi)(h4:hi<=1000000)(h5:hi - lo<=1000000):okR lo hi=true:=by
 unfold okR
 refine Cr ⟨?_,?_,?_,?_,?_⟩<;>omega
theorem el_mk{k:Nat}{T:Tg}{f:SE}{ρ ρ1 ρ3:Rho}{d y y':D}{nw:Bool}(h1:bF T d (ρ++List.replicate k none)=some ρ1)(h2:f ρ1=some (.ok y' nw,ρ3))(h3:ρ3.take ρ.length=ρ)(hy:y'=y):∃ ρ1 ρ3 nw,bF T d (ρ++List.replicate k none)=some ρ1/\f ρ1=some (.ok y nw,ρ3)/\ρ3.take ρ.length=ρ:=⟨ρ1,ρ3,nw,h1,by rw [<- hy];exact h2,h3⟩
theorem lp_mk{T:Tg}{f:SS}{ρ ρ1 ρ2:Rho}{d:D}{I:Rho->Prop}(h1:bF T d ρ=some ρ1)(h2:f ρ1=some (.nx,ρ2))(h3:I ρ2):∃ ρ1 ρ2,bF T d ρ=some ρ1/\f ρ1=some (.nx,ρ2)/\I ρ2:=⟨ρ1,ρ2,h1,h2,h3⟩
end L2
namespace Srt
open PySem PySem.W PyProof.Rows
def Tru{α:Type}(lt:Nat->Nat->Bool)(P:α->Prop):KasT α->Prop
 | .ret a=>P a
 | .ask i j k=>Tru lt P (k (lt i j))
theorem Tru.bind{α β:Type}{lt:Nat->Nat->Bool}{P:β->Prop}{f:α->KasT β}:∀ {t:KasT α},Tru lt (fun a=>Tru lt P (f a)) t->Tru lt P (t.bind f)
 | .ret _,h=>h
 | .ask i j k,h=>Tru.bind (t:=k (lt i j)) h
theorem Tru.mono{α:Type}{lt:Nat->Nat->Bool}{P P':α->Prop}(hp:∀ a,P a->P' a):∀ {t:KasT α},Tru lt P t->Tru lt P' t
 | .ret a,h=>hp a h
 | .ask i j k,h=>Tru.mono hp (t:=k (lt i j)) h
theorem both{α:Type}{n:Nat}{lt:Nat->Nat->Bool}{P P':α->Prop}{cmp:Nat->Nat->(Bool->Shared->Prop)->Shared->Prop}{Q:α->Shared->Prop}{s:Shared}
 (hc:∀ i j C,i < n->j < n->C (lt i j) s->cmp i j C s) (hq:∀ a,P a->P' a->Q a s):∀ {t:KasT α},All n P t->Tru lt P' t->t.kasWp cmp Q s
 | .ret a,h,g=>hq a h g
 | .ask i j k,⟨h1,h2,h3⟩,g=>hc i j _ h1 h2 (both hc hq (h3 _) g)
structure Ord(lt:Nat->Nat->Bool):Prop where
 asym:∀ a b,lt a b=true->lt b a=false
 trans:∀ a b c,lt b a=false->lt c b=false->lt c a=false
section
variable{lt:Nat->Nat->Bool}(O:Ord lt)
theorem Ord.refl(O:Ord lt)(a:Nat):lt a a=false:=by
 cases h:lt a a with
 | false=>rfl
 | true=>exact absurd (O.asym a a h) (by rw [h];decide)
abbrev Le(lt:Nat->Nat->Bool)(a b:Nat):Prop:=lt b a=false
abbrev at_(p:Array Nat)(i:Nat):Nat:=p.getD i 0
def Asc(lt:Nat->Nat->Bool)(p:Array Nat)(m:Nat):Prop:=∀ i j,i<=j->j < m->Le lt (at_ p i) (at_ p j)
def Des(lt:Nat->Nat->Bool)(p:Array Nat)(m:Nat):Prop:=∀ i j,i<=j->j < m->Le lt (at_ p j) (at_ p i)
def Eqv(lt:Nat->Nat->Bool)(p:Array Nat)(a b:Nat):Prop:=∀ i j,a<=i->i < b->a<=j->j < b->Le lt (at_ p i) (at_ p j)
theorem pQ{p:Array Nat}{i j:Nat}(hj:j<=p.size)(k:Nat):at_ (kas_rev p i j) k=if i<=k/\k < j then at_ p (i+j - 1 - k) else at_ p k:=by
 have h:=getElem?_mirror_all (xs:=p) (i:=i) hj k
 show (kas_rev p i j).getD k 0=_
 unfold kas_rev at_;rw [CV,h]
 split<;>rw [CV]
theorem at_bub{p:Array Nat}{k l:Nat}(hk:k < p.size)(hl:l<=k)(t:Nat):at_ (bubble p k (k - l)) t=if t=l then at_ p k else if l < t/\t<=k then at_ p (t - 1) else at_ p t:=by
 have h:=getElem?_bubble (xs:=p) hk (k - l) (by omega) t;rw [show k - (k - l)=l by omega] at h
 show (bubble p k (k - l)).getD t 0=_
 rw [CV,h]
 by_cases h1:t=l
 ·rw [if_pos h1,if_pos h1,<- CV]
 ·rw [if_neg h1,if_neg h1]
  by_cases h2:l < t/\t<=k
  ·rw [if_pos h2,if_pos h2,<- CV]
  ·rw [if_neg h2,if_neg h2,<- CV]
include O
theorem Asc.snoc{p:Array Nat}{n:Nat}(h:Asc lt p n)(h1:1<=n)(hn:Le lt (at_ p (n - 1)) (at_ p n)):Asc lt p (n+1):=fun i j hij hj=>by
 by_cases e:j=n
 ·subst e
  by_cases e2:i=j
  ·subst e2;exact O.refl _
  ·exact O.trans _ _ _ (h i (j - 1) (by omega) (by omega)) hn
 ·exact h i j hij (by omega)
theorem Des.snoc{p:Array Nat}{n:Nat}(h:Des lt p n)(h1:1<=n)(hn:Le lt (at_ p n) (at_ p (n - 1))):Des lt p (n+1):=fun i j hij hj=>by
 by_cases e:j=n
 ·subst e
  by_cases e2:i=j
  ·subst e2;exact O.refl _
  ·exact O.trans _ _ _ hn (h i (j - 1) (by omega) (by omega))
 ·exact h i j hij (by omega)
theorem t0{p:Array Nat}:∀ f n,1<=n->Asc lt p n->Tru lt (fun m=>n<=m/\m<=n+f/\Asc lt p m/\(m=n+f\/lt (at_ p m) (at_ p (m - 1))=true)) (kas_asc p f n)
 | 0,n,h1,h=>⟨Ci _,Ci _,h,.inl rfl⟩
 | f+1,n,h1,h=>by
  show Tru lt _ (if lt (at_ p n) (at_ p (n - 1))=true then KasT.ret n else kas_asc p f (n+1))
  by_cases c:lt (at_ p n) (at_ p (n - 1))=true
  ·rw [if_pos c]
   exact ⟨Ci _,by omega,h,.inr c⟩
  ·rw [if_neg c]
   exact (t0 f (n+1) (by omega) (h.snoc O h1 (by simpa using c))).mono fun m ⟨a,b,c,d⟩=>⟨by omega,by omega,c,d.imp (fun z=>by omega) id⟩
theorem kZ:∀ f (p:Array Nat) n q,1<=n->q+1<=n->n+f<=p.size->Des lt p n->Eqv lt p (n - (q+1)) n ->
 Tru lt (fun r=>n<=r.2.1/\r.2.1<=n+f/\r.2.2+1<=r.2.1/\r.1.size=p.size/\Des lt r.1 r.2.1/\Eqv lt r.1 (r.2.1 - (r.2.2+1)) r.2.1) (kas_desc f p n q)
 | 0,p,n,q,h1,hq,hs,hd,he=>⟨Ci _,Ci _,hq,rfl,hd,he⟩
 | f+1,p,n,q,h1,hq,hs,hd,he=>by
  have one:∀ (p':Array Nat),Eqv lt p' (n+1 - (0+1)) (n+1):=fun p' i j a b c d=>by
   have:i=j:=by omega
   subst this;exact O.refl _
  show Tru lt _ (if lt (at_ p n) (at_ p (n - 1))=true then (if q > 0 then kas_desc f (kas_rev p (n - (q+1)) n) (n+1) 0 else kas_desc f p (n+1) 0)
   else KasT.ask (at_ p (n - 1)) (at_ p n) fun d=>if d=true then .ret (p,n,q) else kas_desc f p (n+1) (q+1))
  by_cases c:lt (at_ p n) (at_ p (n - 1))=true
  ·rw [if_pos c]
   have hle:Le lt (at_ p n) (at_ p (n - 1)):=O.asym _ _ c
   by_cases q0:q > 0
   ·rw [if_pos q0]
    have hn:n<=p.size:=by omega
    have sz:(kas_rev p (n - (q+1)) n).size=p.size:=mirror_size _ _ _ _;have R:=pQ (p:=p) (i:=n - (q+1)) hn
    have D:Des lt (kas_rev p (n - (q+1)) n) (n+1):=fun i j hij hj=>by
     rw [R i,R j]
     by_cases ej:j=n
     ·subst ej
      rw [if_neg (by omega:¬ (j - (q+1)<=j/\j < j))]
      split
      ·exact O.trans _ _ _ hle (hd _ (j - 1) (by omega) (by omega))
      ·by_cases ei:i=j
       ·subst ei;exact O.refl _
       ·exact O.trans _ _ _ hle (hd _ (j - 1) (by omega) (by omega))
     ·by_cases si:n - (q+1)<=i/\i < n
      ·rw [if_pos si,if_pos (by omega:n - (q+1)<=j/\j < n)]
       exact he _ _ (by omega) (by omega) (by omega) (by omega)
      ·rw [if_neg si]
       split
       ·exact hd _ _ (by omega) (by omega)
       ·exact hd _ _ hij (by omega)
    exact (kZ f _ (n+1) 0 (by omega) (by omega) (by rw [sz];omega) D (one _)).mono fun r ⟨a,b,c,d,e,g⟩=>⟨by omega,by omega,c,d.trans sz,e,g⟩
   ·rw [if_neg q0]
    exact (kZ f p (n+1) 0 (by omega) (by omega) (by omega) (hd.snoc O h1 hle) (one _)).mono fun r ⟨a,b,c,d,e,g⟩=>⟨by omega,by omega,c,d,e,g⟩
  ·rw [if_neg c]
   have c:lt (at_ p n) (at_ p (n - 1))=false:=by simpa using c
   show Tru lt _ (if lt (at_ p (n - 1)) (at_ p n)=true then KasT.ret (p,n,q) else kas_desc f p (n+1) (q+1))
   by_cases d:lt (at_ p (n - 1)) (at_ p n)=true
   ·rw [if_pos d]
    exact ⟨Ci _,Eu _ _,hq,rfl,hd,he⟩
   ·rw [if_neg d]
    have d:lt (at_ p (n - 1)) (at_ p n)=false:=by simpa using d
    have E:Eqv lt p (n+1 - (q+1+1)) (n+1):=fun i j a b a2 b2=>by
     by_cases ei:i=n
     ·by_cases ej:j=n
      ·rw [ei,ej];exact O.refl _
      ·rw [ei]
       exact O.trans _ _ _ d (he (n - 1) j (by omega) (by omega) (by omega) (by omega))
     ·by_cases ej:j=n
      ·rw [ej]
       exact O.trans _ _ _ (he i (n - 1) (by omega) (by omega) (by omega) (by omega)) c
      ·exact he i j (by omega) (by omega) (by omega) (by omega)
    exact (kZ f p (n+1) (q+1) (by omega) (by omega) (by omega) (hd.snoc O h1 d) E).mono fun r ⟨a,b,c,d,e,g⟩=>⟨by omega,by omega,c,d,e,g⟩
theorem qc{p:Array Nat}{n N:Nat}(h1:1<=n)(hn:n<=N)(hs:p.size=N)(hd:Des lt p n):Tru lt (fun r:Nat×Array Nat=>1<=r.1/\r.1<=N/\r.2.size=N/\Asc lt r.2 r.1) (kas_tail3 n N p):=by
 unfold kas_tail3;have sz:(kas_rev p 0 n).size=p.size:=mirror_size _ _ _ _;have R:=pQ (p:=p) (i:=0) (j:=n) (by omega)
 have A:Asc lt (kas_rev p 0 n) n:=fun i j hij hj=>by
  rw [R i,R j,if_pos (by omega),if_pos (by omega)];exact hd _ _ (by omega) (by omega)
 exact ((t0 O (N - n) n h1 A).mono fun m ⟨a,b,c,_⟩=>(show 1<=m/\m<=N/\(kas_rev p 0 n).size=N/\Asc lt (kas_rev p 0 n) m from ⟨by omega,by omega,sz.trans hs,c⟩)).bind
theorem kh{p:Array Nat}{n N:Nat}(h1:1<=n)(hn:n+1<=N)(hs:p.size=N)(hd:Des lt p (n+1)):Tru lt (fun r:Nat×Array Nat=>1<=r.1/\r.1<=N/\r.2.size=N/\Asc lt r.2 r.1) (kas_descPart n N p):=by
 unfold kas_descPart
 refine ((kZ O (N - (n+1)) p (n+1) 0 (by omega) (by omega) (by omega) hd (fun i j a b c d=>by
  have:i=j:=by omega
  subst this
  exact O.refl _)).mono fun r ⟨a,b,c,d,e,g⟩=> ?_).bind
 by_cases q:r.2.2 > 0
 ·rw [if_pos q]
  have hz:r.2.1<=r.1.size:=by omega
  have R:=pQ (p:=r.1) (i:=r.2.1 - (r.2.2+1)) (j:=r.2.1) hz
  refine qc O (by omega) (by omega) ((mirror_size _ _ _ _).trans (d.trans hs)) fun i j hij hj=> ?_
  rw [R i,R j]
  by_cases si:r.2.1 - (r.2.2+1)<=i/\i < r.2.1
  ·rw [if_pos si,if_pos (by omega)]
   exact g _ _ (by omega) (by omega) (by omega) (by omega)
  ·rw [if_neg si]
   split
   ·exact e _ _ (by omega) (by omega)
   ·exact e _ _ hij hj
 ·rw [if_neg q]
  exact qc O (by omega) (by omega) (d.trans hs) e
theorem yR{p:Array Nat}{N:Nat}(hN:1<=N)(hs:p.size=N):Tru lt (fun r:Nat×Array Nat=>1<=r.1/\r.1<=N/\r.2.size=N/\Asc lt r.2 r.1) (kas_count N p):=by
 unfold kas_count
 refine ((t0 O (p:=p) (N - 1) 1 (Ci _) (fun i j a b=>by
  have:i=j:=by omega
  subst this
  exact O.refl _)).mono fun n ⟨a,b,c,d⟩=> ?_).bind
 by_cases e:(n == N)=true
 ·rw [if_pos e]
  exact ⟨a,by omega,hs,c⟩
 ·rw [if_neg e]
  have ne:n≠N:=by simpa using e
  have hl:lt (at_ p n) (at_ p (n - 1))=true:=d.resolve_left (by omega)
  by_cases n1:n > 1
  ·rw [if_pos n1]
   show Tru lt _ (if lt (at_ p 0) (at_ p (n - 1))=true then _ else _)
   by_cases z:lt (at_ p 0) (at_ p (n - 1))=true
   ·rw [if_pos z]
    exact ⟨a,by omega,hs,c⟩
   ·rw [if_neg z]
    have z:lt (at_ p 0) (at_ p (n - 1))=false:=by simpa using z
    have R:=pQ (p:=p) (i:=0) (j:=n) (by omega)
    have ev:∀ i j,i < n->j < n->Le lt (at_ p i) (at_ p j):=fun i j hi hj =>
     O.trans _ _ _ (c i (n - 1) (by omega) (by omega)) (O.trans _ _ _ z (c 0 j (by omega) hj))
    refine kh O (by omega) (by omega) ((mirror_size _ _ _ _).trans hs) fun i j hij hj=> ?_
    rw [R i,R j]
    by_cases ej:j=n
    ·subst ej
     rw [if_neg (by omega:¬ (0<=j/\j < j))]
     split
     ·exact O.trans _ _ _ (O.asym _ _ hl) (ev _ _ (by omega) (by omega))
     ·have:i=j:=by omega
      subst this;exact O.refl _
    ·rw [if_pos (by omega:0<=i/\i < n),if_pos (by omega:0<=j/\j < n)]
     exact ev _ _ (by omega) (by omega)
  ·rw [if_neg n1]
   have:n=1:=by omega
   subst this
   refine kh O (by omega) (by omega) hs fun i j hij hj=> ?_
   by_cases e:i=j
   ·subst e;exact O.refl _
   ·have hi:i=0:=by omega
    have hj:j=1:=by omega
    subst hi hj;exact O.asym _ _ hl
theorem lR{p:Array Nat}{k:Nat}(h:Asc lt p k):∀ f l r,l<=r->r<=k->r<=l+f->(∀ i,i < l->Le lt (at_ p i) (at_ p k))->(∀ i,r<=i->i < k->Le lt (at_ p k) (at_ p i)) ->
 Tru lt (fun m=>m<=k/\(∀ i,i < m->Le lt (at_ p i) (at_ p k))/\∀ i,m<=i->i < k->Le lt (at_ p k) (at_ p i)) (kas_place p k f l r)
 | 0,l,r,h1,h2,h3,h4,h5=>⟨by omega,h4,fun i a b=>h5 i (by omega) b⟩
 | f+1,l,r,h1,h2,h3,h4,h5=>by
  unfold kas_place
  by_cases g:l>=r
  ·rw [if_pos g]
   exact ⟨by omega,h4,fun i a b=>h5 i (by omega) b⟩
  ·rw [if_neg g]
   show Tru lt _ (if lt (at_ p k) (at_ p ((l+r) / 2))=true then _ else _)
   by_cases c:lt (at_ p k) (at_ p ((l+r) / 2))=true
   ·rw [if_pos c]
    exact lR h f l ((l+r) / 2) (by omega) (by omega) (by omega) h4 fun i a b=>O.trans _ _ _ (O.asym _ _ c) (h _ i a b)
   ·rw [if_neg c]
    have c:lt (at_ p k) (at_ p ((l+r) / 2))=false:=by simpa using c
    exact lR h f ((l+r) / 2+1) r (by omega) h2 (by omega) (fun i a=>O.trans _ _ _ (h i _ (by omega) (by omega)) c) h5
theorem ze{N:Nat}:∀ f (p:Array Nat) k,1<=k->k+f=N->p.size=N->Asc lt p k->Tru lt (fun r:Array Nat=>r.size=N/\Asc lt r N) (kas_bin f p k)
 | 0,p,k,h1,h2,hs,h=>⟨hs,by rw [<- h2];exact h⟩
 | f+1,p,k,h1,h2,hs,h=>by
  unfold kas_bin;refine ((lR O h k 0 k (by omega) (Ci _) (by omega) (fun i z=>by omega) (fun i a b=>by omega)).mono fun l ⟨a,b,c⟩=> ?_).bind;have B:=at_bub (p:=p) (k:=k) (l:=l) (by omega) a
  refine ze f _ (k+1) (by omega) (by omega) ((bubble_size _ _ _).trans hs) fun i j hij hj=> ?_
  rw [B i,B j]
  by_cases ei:i=l
  ·rw [if_pos ei]
   by_cases ej:j=l
   ·rw [if_pos ej];exact O.refl _
   ·rw [if_neg ej,if_pos (by omega)]
    exact c _ (by omega) (by omega)
  ·rw [if_neg ei]
   by_cases ej:j=l
   ·rw [if_pos ej,if_neg (by omega)]
    exact b i (by omega)
   ·rw [if_neg ej]
    split
    ·rw [if_pos (by omega)]
     exact h _ _ (by omega) (by omega)
    ·split
     ·exact h _ _ (by omega) (by omega)
     ·exact h _ _ hij (by omega)
theorem zN{n:Nat}(h:1<=n):Tru lt (fun r:Array Nat=>r.size=n/\Asc lt r n) (kas_sort n):=by
 unfold kas_sort;refine ((yR O h (by simp)).mono fun r ⟨a,b,c,d⟩=> ?_).bind
 by_cases e:r.1 < n
 ·rw [if_pos e,show max r.1 1=r.1 by omega]
  exact ze O _ _ _ a (by omega) c d
 ·rw [if_neg e]
  have:r.1=n:=by omega
  exact ⟨c,by rw [<- this];exact d⟩
end
end Srt
namespace Srt
open PySem PySem.W PyProof.Rows
def cY:List Int->List Int->Bool
 | [],[]=>false
 | [],_::_=>true
 | _::_,[]=>false
 | a::as,b::bs=>if a=b then cY as bs else decide (a < b)
theorem iK:∀ a b:List Int,cY a b=true->cY b a=false
 | [],[],h=>by cases h
 | [],_::_,_=>rfl
 | _::_,[],h=>by cases h
 | a::as,b::bs,h=>by
  unfold cY at h ⊢
  by_cases e:a=b
  ·rw [if_pos e] at h
   rw [if_pos e.symm];exact iK as bs h
  ·rw [if_neg e] at h
   rw [if_neg (Ne.symm e)];have:=Cn h;exact CG (by omega)
theorem md:∀ a b:List Int,cY a b=false->cY b a=false->a=b
 | [],[],_,_=>rfl
 | [],_::_,h,_=>by cases h
 | _::_,[],_,h=>by cases h
 | a::as,b::bs,h,g=>by
  unfold cY at h g
  by_cases e:a=b
  ·rw [if_pos e] at h
   rw [if_pos e.symm] at g;rw [e,md as bs h g]
  ·rw [if_neg e] at h
   rw [if_neg (Ne.symm e)] at g;have h:=Ee h;have g:=Ee g;omega
theorem gz:∀ a b c:List Int,cY b a=false->cY c b=false->cY c a=false
 | [],_,[],_,_=>rfl
 | [],[],_::_,_,_=>rfl
 | [],_::_,_::_,_,_=>rfl
 | _::_,[],_,h,_=>by cases h
 | _::_,_::_,[],_,h=>by cases h
 | a::as,b::bs,c::cs,h,g=>by
  unfold cY at h g ⊢
  by_cases e1:b=a
  ·rw [if_pos e1] at h
   by_cases e2:c=b
   ·rw [if_pos e2] at g
    rw [if_pos (e2.trans e1)];exact gz as bs cs h g
   ·rw [if_neg e2] at g
    have g:=Ee g;rw [if_neg (fun z=>e2 (z.trans e1.symm))];exact CG (by omega)
  ·rw [if_neg e1] at h
   have h:=Ee h
   by_cases e2:c=b
   ·rw [if_neg (fun z=>e1 (e2.symm.trans z))]
    exact CG (by omega)
   ·rw [if_neg e2] at g
    have g:=Ee g;rw [if_neg (by omega)];exact CG (by omega)
def vF(x:List Int):List (List Int)->List (List Int)
 | []=>[x]
 | y::l=>if cY y x=true then y::vF x l else x::y::l
def gy:List (List Int)->List (List Int)
 | []=>[]
 | x::l=>vF x (gy l)
theorem jL(x:List Int):∀ l,(vF x l).Perm (x::l)
 | []=> .refl _
 | y::l=>by
  unfold vF
  split
  ·exact ((jL x l).cons y).trans (.swap _ _ _)
  ·exact .refl _
theorem bK:∀ l,(gy l).Perm l
 | []=> .refl _
 | x::l=>(jL x _).trans ((bK l).cons x)
abbrev LeL(a b:List Int):Prop:=cY b a=false
theorem j9(x:List Int):∀ l:List (List Int),l.Pairwise LeL->(vF x l).Pairwise LeL
 | [],_=>List.pairwise_singleton _ _
 | y::l,h=>by
  have hc:=CY.mp h;unfold vF
  split
  ·rename_i hl
   refine CY.mpr ⟨fun z hz=> ?_,j9 x l hc.2⟩
   rcases List.mem_cons.mp ((jL x l).mem_iff.mp hz) with rfl | hz
   ·exact iK _ _ hl
   ·exact hc.1 z hz
  ·rename_i hl
   have hl:cY y x=false:=by simpa using hl
   refine CY.mpr ⟨fun z hz=> ?_,h⟩
   rcases List.mem_cons.mp hz with rfl | hz
   ·exact hl
   ·exact gz _ _ _ hl (hc.1 z hz)
theorem cw:∀ l,(gy l).Pairwise LeL
 | []=> .nil
 | x::l=>j9 x _ (cw l)
theorem bo:∀ {a b:List (List Int)},a.Pairwise LeL->b.Pairwise LeL->a.Perm b->a=b
 | [],b,_,_,p=>by rw [p.nil_eq]
 | x::a,[],_,_,p=>absurd p.symm.nil_eq (by simp)
 | x::a,y::b,ha,hb,p=>by
  have ha':=CY.mp ha;have hb':=CY.mp hb
  have exy:x=y:=by
   have hx:x∈y::b:=p.mem_iff.mp Ck;have hy:y∈x::a:=p.mem_iff.mpr Ck
   rcases List.mem_cons.mp hx with e | hx
   ·exact e
   ·rcases List.mem_cons.mp hy with e | hy
    ·exact e.symm
    ·exact md _ _ (hb'.1 x hx) (ha'.1 y hy)
  subst exy;rw [bo ha'.2 hb'.2 (List.Perm.cons_inv p)]
theorem lexE{prog:Program}{w:World}{A:Around}{fin:Bool}{C:Bool->Shared->Prop}{s:Shared}:∀ {vs ws:List Value} {ns ms:List Int} (i:Nat),IntsAre vs ns->IntsAre ws ms->fin=decide (ns.length < ms.length)->C (cY ns ms) s->KatLex prog w A true fin C (vs.zip ws) i s
 | [],[],_,_,i,.nil,.nil,hf,hC=>kat_nil (by subst hf;exact hC)
 | [],_::_,_,_,i,.nil,.cons _ _ _,hf,hC=>kat_nil (by subst hf;rw [Cr (by simp)];exact hC)
 | _::_,[],_,_,i,.cons _ _ _,.nil,hf,hC=>kat_nil (by subst hf;rw [CG (by simp)];exact hC)
 | _::vs,_::ws,_::ns,_::ms,i,.cons a t h1,.cons c u h2,hf,hC=>by
  rw [EC];refine kat_cons ?_;obtain ⟨e,he,h3⟩:=HT.yL A s a t c u;refine he prog w _ _ ?_;unfold cY at hC
  cases e with
  | true =>
   rw [if_pos (h3.mp rfl)] at hC;exact kat_yes (lexE (i+1) h1 h2 (by rw [hf];simp) hC)
  | false =>
   rw [if_neg (fun z=>by cases h3.mpr z)] at hC;refine kat_no ?_
   cases i with
   | zero=>exact oneLt_int hC
   | succ i=>exact kat_one _ _ (lt_int hC)
section
variable{prog:Program}{w:World}{A:Around}{E:Value->Shared->Prop}{s:Shared}
def iw(h:Heap)(vs:List Value)(ks:List (List Int)):Prop:=vs.length=ks.length/\∀ (i:Nat) (hi:i < vs.length),∃ a items,vs[i] = .ref a/\IsTup h a items/\IntsAre items.toList (ks.getD i [])/\ks.getD i []≠[]
theorem iw.tups{h:Heap}{vs:List Value}{ks:List (List Int)}(t:iw h vs ks):Tups h vs:=fun v hv=>by
 obtain ⟨i,hi,rfl⟩:=DF.mp hv;obtain ⟨a,items,h1,h2,h3,h4⟩:=t.2 i hi;exact ⟨a,items,_,h1,h2,h3,h4⟩
theorem iw.keep{h h':Heap}{vs:List Value}{ks:List (List Int)}(t:iw h vs ks)(k:∀ b o,h.get? b=some o->o.cls = .type "tuple" -> h'.get? b=some o):iw h' vs ks:=⟨t.1,fun i hi=>by
 obtain ⟨a,items,e,⟨o,h1,h2,n,h3⟩,i,ne⟩:=t.2 i hi
 exact ⟨a,items,e,⟨o,k a o h1 h2,h2,n,h3⟩,i,ne⟩⟩
abbrev klt(ks:List (List Int))(i j:Nat):Bool:=cY (ks.getD i []) (ks.getD j [])
theorem AT(ks:List (List Int)):Ord (klt ks):=⟨fun _ _ h=>iK _ _ h,fun _ _ _ h g=>gz _ _ _ h g⟩
theorem asc_pw{lt:Nat->Nat->Bool}{p:Array Nat}(h:Asc lt p p.size):p.toList.Pairwise (Le lt):=by
 rw [List.pairwise_iff_getElem];intro i j hi hj hij;have:=h i j (DK hij) (by simpa using hj);unfold Le at_ at this
 have gi:i < p.size:=by simpa using hi
 have gj:j < p.size:=by simpa using hj
 rw [CV,CV,DE gi,DE gj] at this;simpa using this
end
end Srt
namespace Srt
open PySem PySem.W PyProof.Rows
section
variable{prog:Program}{w:World}{A:Around}{E:Value->Shared->Prop}{s:Shared}
theorem _root_.L2.IntsAre_len{vs:List Value}{ns:List Int}(h:IntsAre vs ns):vs.length=ns.length:=by
 induction h with
 | nil=>rfl
 | cons _ _ _ ih=>rw [Cc,Cc,ih]
theorem Bt{a:Addr}{vs:List Value}{ks:List (List Int)}{n:Nat}{P:PySem.Fin->Shared->Prop}(ho:s.heap.get? a=some (seqObj "list" vs.toArray n))(ht:iw s.heap vs ks)(h64:vs.length < 64)
 (h:∀ p:List Nat,p.Perm (List.range vs.length)->p.Pairwise (Le (klt ks))->P (.done (.ret .none)) { s with heap:=sortedHeap s.heap a vs (p.map fun i=>vs.getD i Value.none).toArray }):wpAny (model prog w) A (Builtin.«list.sort» ⟨[.ref a],[]⟩) P E s:=by
 rw [list_sort_plain];have ha:a < s.heap.objs.size:=Cf ho;refine B6 (listItems_at ho rfl (B6 (listUpdate_at ho rfl ?_)));obtain ⟨e1,o1⟩:∃ e1,(s.heap.update a (Obj.mapSeq fun _ => #[])).get? a=some (seqObj "list" #[] e1):=⟨_,get?_update_seq ho (fun _ => #[])⟩;refine B6 (seqEpoch_at o1 rfl (B6 (wpAny_newTuple (B6 (Ev ?_)))));refine Du ?_;have o6:(((s.heap.update a (Obj.mapSeq fun _ => #[])).push (seqObj "tuple" vs.toArray 0)).push (seqObj "list" #[] 0)).get? a=some (seqObj "list" #[] e1):=B7 _ (B7 _ o1)
 show wpAny (model prog w) A _ P E { s with heap:=((s.heap.update a (Obj.mapSeq fun _ => #[])).push (seqObj "tuple" vs.toArray 0)).push (seqObj "list" #[] 0) }
 dsimp only
 have hsz:vs.toArray.size=vs.length:=by simp
 have t6:iw (((s.heap.update a (Obj.mapSeq fun _ => #[])).push (seqObj "tuple" vs.toArray 0)).push (seqObj "list" #[] 0)) vs ks:=ht.keep fun b o e c=>by
  refine B7 _ (B7 _ ((DQ _ _ ?_).trans e));rintro rfl;rw [ho] at e;cases e;exact absurd c (by simp [seqObj])
 by_cases h2:vs.toArray.size < 2
 ·rw [if_pos h2,if_pos h2]
  refine B6 (Ca ?_);rw [StateT.run_pure];refine B6 (Ca ?_);dsimp only;refine B6 (seqEpoch_at o6 rfl (B6 (listUpdate_at o6 rfl ?_ (hsz2:=by rw [Array.size_map];show (pairsOf vs).size<=_;rw [pairsOf_size,sizeLine_eq];omega))));simp only [bne_self_eq_false,Ds,if_false];refine Ca ?_
  have e:((vs.toArray.zip vs.toArray).map (·.2))=vs.toArray:=by
   apply Array.toList_inj.mp;rw [Array.toList_map,Array.toList_zip];exact List.map_snd_zip (Ci _)
  have q:=h (List.range vs.length) (List.Perm.refl _) (List.pairwise_iff_getElem.mpr fun i j hi hj hij=>by
   rw [Dx] at hi hj
   omega)
  rw [show ((List.range vs.length).map fun i=>vs.getD i Value.none)=vs by
   apply Ea
   ·simp
   ·intro i h1 h2
    simp [h2]] at q
  rw [<- e] at q;exact q
 ·rw [if_neg h2,if_neg h2]
  have h2':2<=vs.length:=by omega
  obtain ⟨fs,f1,f2,f3⟩:=yI (M:=model prog w) t6.tups;refine B6 (kat_kind (T:= .type "int") f2 (by omega) f3 (by decide) ?_);rw [show ((Value.type "int" != Value.type "tuple")=true) from by decide]
  refine B6 (Dm (kat_run (Q:=fun st' s'=>∃ p:Array Nat,(bZ vs.length p/\p.size=vs.length/\Asc (klt ks) p vs.length)/\arrOf st'=p.map (kas_item (vs.toArray.zip vs.toArray))/\failedOf st'=none/\s'=_) (G:=fun p s'=>(bZ vs.length p/\p.size=vs.length/\Asc (klt ks) p vs.length)/\s'=_) (ks:=vs) rfl h2' h64
   (fun p st' s' _ a2 a3 a4=>⟨p,a4.1,a2,a3,a4.2⟩) (both (lt:=klt ks) (P:=bZ vs.length) (P':=fun p:Array Nat=>p.size=vs.length/\Asc (klt ks) p vs.length) (fun i j C hi hj hC=> ?_) (fun p hp hp2=>⟨⟨hp,hp2⟩,rfl⟩) (sort (by omega)) (zN (AT ks) (by omega)))) ?_ fun _ _ x=>x)
  ·show wpAny (model prog w) A (keyLt' (tuples' true) (vs.getD i Value.none) (vs.getD j Value.none)) C (fun _ _=>False) _
   have gi:vs.getD i Value.none=vs[i]:=by simp [hi]
   have gj:vs.getD j Value.none=vs[j]:=by simp [hj]
   rw [gi,gj];obtain ⟨x,xs,ex,⟨ox,x1,x2,nx,x3⟩,ix,_⟩:=t6.2 i hi;obtain ⟨y,ys,ey,⟨oy,y1,y2,ny,y3⟩,iy,_⟩:=t6.2 j hj;rw [ex,ey];refine kat_lt x1 x3 y1 y3 (lexE 0 ix iy ?_ hC);rw [<- C0,<- C0,L2.IntsAre_len ix,L2.IntsAre_len iy]
  ·rintro ⟨⟨⟩,st'⟩ s' ⟨p,⟨hp,hpz,hpa⟩,har,hf,rfl⟩
   dsimp only;have hout:=kat_snds (vs:=vs) (ks:=vs) rfl har
   have hperm:(p.toList.map fun i=>vs.getD i Value.none).Perm vs:=by
    have e:=hp.2.map fun i=>vs.getD i Value.none
    refine e.trans (Ei ?_);apply Ea
    ·simp
    ·intro i h1 h2
     simp [h2]
   rw [hout];refine B6 (seqEpoch_at o6 rfl (B6 (listUpdate_at o6 rfl ?_ (hsz2:=by rw [Cb,hperm.length_eq,sizeLine_eq];omega))));rw [hf];simp only [bne_self_eq_false,Ds,if_false];exact Ca (h p.toList hp.2 (asc_pw (by rw [hpz];exact hpa)))
theorem zM{l:Addr}{vs:List Value}{ks:List (List Int)}{Q:Value->Shared->Prop}(hl:s.heap.IsList l vs.toArray)(ht:iw s.heap vs ks)(h64:vs.length < 64)
 (h:∀ p:List Nat,p.Perm (List.range vs.length)->p.Pairwise (Le (klt ks))->Q (.ref (s.heap.objs.size+1)) { s with heap:=sortedAll s.heap vs (p.map fun i=>vs.getD i Value.none).toArray }):wpAny (model prog w) A (call (.builtin "sorted") [.ref l]) Q E s:=by
 refine Calls.call_function_entry kind_sorted plain_sorted entry_sorted (args_sorted1 _) ?_;unfold Builtin.«sorted»;refine B6 (m:=checkCount "sorted" 1 1 _) (Ca ?_);refine B6 (collect_list hl (B6 (Ev ?_)))
 have hsz:((s.heap.push (seqObj "list" #[] 0)).update s.heap.objs.size (Obj.mapSeq (·++ vs.toArray))).objs.size=s.heap.objs.size+1:=by
  rw [Heap.size_update,size_push']
 have oL:(((s.heap.push (seqObj "list" #[] 0)).update s.heap.objs.size (Obj.mapSeq (·++ vs.toArray))).push (seqObj "list" vs.toArray 0)).get? (s.heap.objs.size+1)=some (seqObj "list" vs.toArray 0):=by
  rw [<- hsz];exact Cd _ rfl
 show wpAny _ _ _ _ _ { s with heap:=((s.heap.push (seqObj "list" #[] 0)).update s.heap.objs.size (Obj.mapSeq (·++ vs.toArray))).push (seqObj "list" vs.toArray 0) }
 rw [hsz]
 have tL:iw (((s.heap.push (seqObj "list" #[] 0)).update s.heap.objs.size (Obj.mapSeq (·++ vs.toArray))).push (seqObj "list" vs.toArray 0)) vs ks:=ht.keep fun b o e _ =>
  B7 _ ((DQ _ _ (Ne.symm (Cu (Cf e)))).trans (B7 _ e))
 refine B6 (Du (C1 slot_list_sort ⟨_,oL,rfl⟩ entry_list_sort (Bt oL tL h64 fun p hp hs=>⟨_,rfl,?_⟩) (args_list_sort _)));exact Ca ⟨_,rfl,h p hp hs⟩
end
end Srt
namespace L2
open PySem PySem.Spec PyProof.Rows
section
variable{X:Cx}
def jI(K:EG):List V->Hp->VK->Prop:=fun xs H Q=>∃ (p:Addr) (bs:List V) (ks:List (List Int)),xs=[V.ref p]/\SqL K H p bs/\bs.length < 64/\bs.length=ks.length/\(∀ (i:Nat) (k:List Int),ks[i]?=some k->∃ a:Addr,bs[i]?=some (.ref a)/\SqT K H a (k.map V.int)/\k≠[]) /\
 ∀ l (q:List Nat),H l=none->q.Perm (List.range bs.length)->q.map (fun i=>ks.getD i [])=Srt.gy ks->Q (.ref l) (upd H l (.lst (q.map fun i=>bs.getD i .non)))
theorem pM:ax X (.builtin "sorted") (jI X.K):=by
 intro pins s σ H xs us Q I r h;obtain ⟨p,bs,ks,rfl,hq,h64,hlk,ht,q⟩:=h;obtain ⟨u,rfl,ru⟩:=bx r;cases ru;obtain ⟨its,rv,pl,hz⟩:=I.list hq;have hlen:=rv.length
 have isref:∀ b∈bs,∃ a,b = .ref a:=fun b hb=>by
  obtain ⟨i,hi,rfl⟩:=DF.mp hb;obtain ⟨a,e,_⟩:=ht i _ (B8 (by omega));rw [B8 hi] at e;exact ⟨a,Option.some.inj e⟩
 obtain ⟨eb,refs⟩:=nS rv isref
 refine Srt.zM (ks:=ks) pl.isList ⟨by omega,fun i hi=> ?_⟩ (by omega) fun p hp hs=> ?_
 ·obtain ⟨a,e,hS,ne⟩:=ht i _ (B8 (by omega))
  have hv:its[i] = .ref a:=by
   obtain ⟨b,hb⟩:=refs its[i] (C6 hi)
   have:(its.map qy)[i]?=some (.ref a):=by rw [<- eb];exact e
   rw [Cw,B8 hi,hb] at this;rw [hb];have:=Option.some.inj this;cases this;rfl
  obtain ⟨items,ri,pt,_⟩:=I.tuple hS
  have hk:ks.getD i []=ks[i]'(by omega):=by simp [Cs,B8 (show i < ks.length by omega)]
  rw [hk];exact ⟨a,items.toArray,hv,pt,cF ri,ne⟩
 ·have hf:H (s.heap.objs.size+1)=none:=I.hok.fresh (Nat.le_succ _)
  have perm:(p.map fun i=>its.getD i Value.none).Perm its:=by
   refine (hp.map _).trans (Ei ?_);apply Ea
   ·simp
   ·intro i h1 h2
    simp [h2]
  have ro:∀ u∈(p.map fun i=>its.getD i Value.none),∃ b,u = .ref b:=fun u hu=>refs u (perm.mem_iff.mp hu)
  have eo:(p.map fun i=>its.getD i Value.none).map qy=p.map fun i=>bs.getD i .non:=by
   rw [CK];apply CO;intro i hi
   have hi':i < its.length:=by
    have:=hp.mem_iff.mp hi;simpa using this
   show qy (its.getD i Value.none)=_
   rw [eb];simp [Cs,hi']
  have es:p.map (fun i=>ks.getD i [])=Srt.gy ks:=by
   refine Srt.bo ?_ (Srt.cw ks) (((hp.map _).trans (Ei ?_)).trans (Srt.bK ks).symm)
   ·rw [List.pairwise_map]
    exact hs.imp fun h=>h
   ·rw [hlen.symm.trans hlk]
    apply Ea
    ·simp
    ·intro i h1 h2
     simp [h2]
  obtain ⟨e,he⟩:=sortedAll_at s.heap its (p.map fun i=>its.getD i Value.none).toArray;refine ⟨.ref (s.heap.objs.size+1),upd H (s.heap.objs.size+1) (.lst (p.map fun i=>bs.getD i .non)),I.laid (t':=s.toks) (fun b o=>sortedAll_old) (Nat.le_succ _) ⟨?_,_,e,by rw [<- eo];exact jE ro,he⟩,rfl,q _ p hf (by rw [hlen];exact hp) es⟩;rw [B9,hp.length_eq,Dx,<- hlen];exact hz
end
def tupI:D->Option (List Int)
 | .tup ds=>match aT ds with
  | some (n::ns)=>some (n::ns)
  | _=>none
 | _=>none
def p8:List D->Option (List (List Int))
 | []=>some []
 | d::ds=>match tupI d,p8 ds with
  | some k,some ks=>some (k::ks)
  | _,_=>none
abbrev r6(k:List Int):D:= .tup (k.map D.int)
theorem zp{d:D}{k:List Int}(h:tupI d=some k):d=r6 k/\k≠[]:=by
 unfold tupI at h
 split at h
 ·rename_i ds
  split at h
  ·rename_i n ns e
   cases h;exact ⟨by rw [bf e],by simp⟩
  ·cases h
 ·cases h
theorem p7:∀ {ds:List D} {ks:List (List Int)},p8 ds=some ks->ds=ks.map r6/\∀ k∈ks,k≠[]
 | [],_,h=>by cases h;exact ⟨rfl,fun k hk=>by cases hk⟩
 | d::ds,ks,h=>by
  unfold p8 at h
  split at h
  ·rename_i k ks' h1 h2
   cases h;obtain ⟨e1,n1⟩:=zp h1;obtain ⟨e2,n2⟩:=p7 h2;exact ⟨by rw [e1,e2];rfl,fun k hk=>(List.mem_cons.mp hk).elim (fun e=>e ▸ n1) (n2 k)⟩
  ·cases h
def s0:List D->Option (D×Bool)
 | [.lst ds]=>match p8 ds with
  | some ks=>if decide (ks.length < 64)=true then some (.lst ((Srt.gy ks).map r6),true) else none
  | none=>none
 | _=>none
theorem nR{K:EG}{H:Hp}{ds:List D}{xs:List V}(h:ag K H ds xs):∀ (q:List Nat),(∀ i∈q,i < ds.length)->ag K H (q.map fun i=>ds.getD i .non) (q.map fun i=>xs.getD i .non)
 | [],_=>trivial
 | i::q,hq=>by
  have hi:=hq i Ck;obtain ⟨x,hx,r⟩:=h.get (B8 hi);refine ⟨?_,nR h q fun j hj=>hq j (Ce _ hj)⟩
  show aF K H (ds.getD i .non) (xs.getD i .non)
  rw [Cs,Cs,hx,B8 hi];exact r
theorem xH{K:EG}:OpS K (jI K) s0:=by
 intro vs ds H L Q d nw hm r e q;unfold s0 at e
 split at e
 ·rename_i es
  obtain ⟨x,rfl,⟨p,xs,rfl,h1,h2⟩⟩:=aC r
  cases ek:p8 es with
  | none=>rw [ek] at e;cases e
  | some ks =>
   rw [ek] at e;simp only at e
   split at e
   ·rename_i hk
    cases e;have hk:=Cn hk;obtain ⟨ee,hne⟩:=p7 ek
    have hl:ks.length=xs.length:=by rw [<- h2.len,ee,B9]
    refine ⟨p,xs,ks,rfl,.inl (.inl h1),by omega,hl.symm,fun i k hi=> ?_,fun l p' hl' hp hs=>q _ _ (ac.upd hl') (cc ?_ hl')⟩
    ·obtain ⟨v,hv,a,ys,rfl,g1,g2⟩:=h2.get (i:=i) (d:=r6 k) (by rw [ee,Cw,hi];rfl)
     exact ⟨a,hv,.inl (.inl (by rw [(ao g1).2,aZ g2])),hne k (Cp hi)⟩
    ·have:=nR h2 p' fun i hi=>by
      have:=hp.mem_iff.mp hi;rw [CN,<- h2.len] at this;exact this
     rw [<- hs,CK]
     have e2:(p'.map fun i=>es.getD i .non)=p'.map (r6 ∘ fun i=>ks.getD i []):=by
      apply CO;intro i hi
      have hi':i < ks.length:=by
       have:=hp.mem_iff.mp hi;rw [CN] at this;omega
      rw [ee];simp [Cs,hi']
     rw [<- e2];exact this
   ·cases e
 ·cases e
def iQ(ds:List D):Option (D×Bool):=match eB ds with
 | some r=>some r
 | none=>s0 ds
theorem xJ{K:EG}:OpS K (fun xs H Q=>(iF K xs H Q\/iE K xs H Q)\/jI K xs H Q) iQ:=by
 intro vs ds H L Q d nw hm r e q;unfold iQ at e
 cases es:eB ds with
 | some z =>
  rw [es] at e;cases e;exact .inl (vt vs ds H L Q d nw hm r es q)
 | none =>
  rw [es] at e;exact .inr (xH vs ds H L Q d nw hm r e q)
theorem tN{X:Cx}:ax X (.builtin "sorted") (fun xs H Q=>(iF X.K xs H Q\/iE X.K xs H Q)\/jI X.K xs H Q):=pN.or pM
section
variable{X:Cx}{EX:EXT}{e:Expr}{es:List Expr}{pos p:Pos}{as:List Arg}
end
def wR(nms:List Str)(i:Nat)(f g:SS):SS:=fun ρ=>match f ρ with
 | some (.ex C,ρ1)=>if nms.elem C=true then match ρ1[i]? with
  | some _=>match g (ρ1.set i (some (.exc C,.fz))) with
   | some (.nx,ρ2)=>some (.nx,ρ2.set i none)
   | some (.bk,ρ2)=>some (.bk,ρ2.set i none)
   | some (.ct,ρ2)=>some (.ct,ρ2.set i none)
   | some (.rt d nw,ρ2)=>some (.rt d nw,ρ2)
   | some (.ex _,_)=>none
   | none=>none
  | none=>none
  else none
 | r=>r
section
variable{K:EG}{F:Fx}{EX:EXT}{σ:St}{H:Hp}{ρ:Rho}{W:List Addr}
theorem Rel.drop(R:Rel K F σ H ρ W)(i:Nat):Rel K F (σ.set i none) H (ρ.set i none) W:=by
 refine ⟨fun j e m hj=> ?_,fun j k e f m n p h1 h2 h3 h4 h5 h6=> ?_,R.wz,R.mt,by rw [Da,Da];exact R.len⟩
 ·rcases aW hj with ⟨_,e1⟩ | ⟨ne,e1⟩
  ·cases e1
  ·obtain ⟨v',g1,g2⟩:=R.slot j e m e1
   exact ⟨v',by rw [CJ (Ne.symm ne)];exact g1,g2⟩
 ·rcases aW h1 with ⟨_,z⟩ | ⟨n1,z⟩
  ·cases z
  ·rcases aW h3 with ⟨_,z'⟩ | ⟨n2,z'⟩
   ·cases z'
   ·rw [CJ (Ne.symm n1)] at h5
    rw [CJ (Ne.symm n2)] at h6;exact R.apart j k _ _ _ _ _ z h2 z' h4 h5 h6
end
theorem s_try{X:Cx}{EX:EXT}{body:List Stmt}{b0:Stmt}{suite:List Stmt}{n x:Str}{i:Nat}{Dc:Addr}{np hpos pos:Pos}{f g:SS}{nms:List Str}
 (hst:X.stack=X.env::X.outer) (hfr:X.env.frame=some X.env.locals)
 (hb:∀ pn (EX':EXT),JSs (qa X pn fun c σ H=>∃ nm C,c = .ref C/\gE X.K nm C/\EX' nm σ H) EX' body f)
 (hs:∀ pn ea,JSs (iB X pn ea) EXn (b0::suite) g)
 (hN:X.N.Nodup) (hi:X.N[i]?=some n) (hlo:X.env.scope.names.lookup n=some .local) (hg:Gl X x) (hD:Hdl X.K X.mg x Dc)
 (hsub:∀ nm,nms.elem nm=true->∀ C,gE X.K nm C->PySem.W.subIn X.K (.ref C) (.ref Dc)=some true) (hdb:(x == ("__debug__" : Str))=false:=by decide) :
 JS X EX (.Try body [.ExceptHandler (some (.Name x np)) (some n) (b0::suite) hpos] [] [] pos) (wR nms i f g):=by
 refine ⟨(ps_try (ts:=tVS X.K EXn g) (tb:=fun W D σ H=>∃ EX':EXT,(W=fun c σ H=>∃ nm C,c = .ref C/\gE X.K nm C/\EX' nm σ H)/\tVS X.K EX' f D σ H) hst hfr (fun pn W=> ?_) (fun pn ea=>(hs pn ea).p) hN hi hlo hg hD hdb).by fun D σ H ⟨F,ρ,W0,R,h⟩=> ?_⟩
 ·intro pins s σ H D I hw
  obtain ⟨EX',rfl,hw⟩:=hw;exact (hb pn EX').p pins s σ H D I hw
 ·let D':nA:={ nx:=fun σ'' H''=>D.nx (σ''.set i none) H'',rt:=D.rt,bk:=fun σ'' H''=>D.bk (σ''.set i none) H'',ct:=fun σ'' H''=>D.ct (σ''.set i none) H'' }
  let EX':EXT:=fun nm σ' H'=>nms.elem nm=true/\∀ C ea,gE X.K nm C->H' ea=none->tVS X.K EXn g D' (σ'.set i (some (.ref ea))) (upd H' ea (mw ea C))
  refine ⟨_,⟨EX',rfl,F,ρ,W0,R,?_⟩,?_⟩
  ·unfold wR at h
   revert h
   cases f ρ with
   | none=>exact fun h=>h
   | some q =>
    obtain ⟨q,ρ1⟩:=q
    cases q with
    | nx=>exact fun h=>h
    | bk=>exact fun h=>h
    | ct=>exact fun h=>h
    | rt d nw=>exact fun h=>h
    | ex nm =>
     intro h;simp only at h
     by_cases he:nms.elem nm=true
     ·rw [if_pos he] at h
      cases hρ:ρ1[i]? with
      | none=>rw [hρ] at h;exact h.elim
      | some z =>
       rw [hρ] at h;simp only at h;intro σ1 H1 W1 fr sub R1;refine ⟨he,fun C ea hC hea=> ?_⟩
       have hlt:i < σ1.length:=by rw [R1.len];exact (Cm.mp hρ).1
       have R2:=(R1.same (ac.upd hea (o:=mw ea C))).put (d:= .exc nm) (v:= .ref ea) hlt ⟨ea,C,rfl,hC,(aJ (R1.fresh hea)).trans aj⟩;have fr2:Fr W0 H (upd H1 ea (mw ea C)):=fr.trans (W1:=[]) (ac.fr (ac.upd hea)) (fun p hp=>by cases hp);have h:=OkS.go h fr2 (W1:=W1) sub;refine ⟨F,_,W1,R2,?_⟩
       revert h
       cases g (ρ1.set i (some (.exc nm,.fz))) with
       | none=>exact fun h=>h
       | some q =>
        obtain ⟨q,ρ2⟩:=q
        cases q with
        | nx=>exact fun h σ3 H3 W3 f3 s3 R3=>h _ H3 W3 f3 s3 (R3.drop i)
        | bk=>exact fun h σ3 H3 W3 f3 s3 R3=>h _ H3 W3 f3 s3 (R3.drop i)
        | ct=>exact fun h σ3 H3 W3 f3 s3 R3=>h _ H3 W3 f3 s3 (R3.drop i)
        | rt d nw=>exact fun h=>h
        | ex _=>exact fun h=>h.elim
     ·rw [if_neg he] at h
      exact h.elim
  ·rintro cls σ' H' ⟨nm,C,rfl,hC,he,hh⟩
   exact ⟨C,rfl,hsub nm he C hC,fun ea hea=>hh C ea hC hea⟩
end L2
namespace L2
theorem s_none{X:Cx}{EX:EXT}{s:PySem.Stmt}:JS X EX s (fun _=>none):=⟨fun pins s σ H D I ⟨_,_,_,_,h⟩=>h.elim⟩
namespace Kd
open PySem L2 PyProof.Rows
def wy:List Str:=["web", "place", "kind", "share", "square", "number", "text", "row", "great"]
def fq(j:Nat):List V:=(List.range 9).map fun i=>V.bl (decide (i=j))
structure pX(K:EG)(mg:Str->Option Value)(C:Addr)(j:Nat):Prop where
 exk:XK.rW K C
 lt:j < 9
 ve:PySem.W.kitOne K (.ref C) (.type "ValueError")=some true
 k0:∃ c,mg "NoWeb" = some (.ref c)/\PySem.W.kitOne K (.ref C) (.ref c)=some (decide (0=j))
 k1:∃ c,mg "NoPlace" = some (.ref c)/\PySem.W.kitOne K (.ref C) (.ref c)=some (decide (1=j))
 k2:∃ c,mg "NoKind" = some (.ref c)/\PySem.W.kitOne K (.ref C) (.ref c)=some (decide (2=j))
 k3:∃ c,mg "NoShare" = some (.ref c)/\PySem.W.kitOne K (.ref C) (.ref c)=some (decide (3=j))
 k4:∃ c,mg "NoSquare" = some (.ref c)/\PySem.W.kitOne K (.ref C) (.ref c)=some (decide (4=j))
 k5:∃ c,mg "NoNumber" = some (.ref c)/\PySem.W.kitOne K (.ref C) (.ref c)=some (decide (5=j))
 k6:∃ c,mg "NoText" = some (.ref c)/\PySem.W.kitOne K (.ref C) (.ref c)=some (decide (6=j))
 k7:∃ c,mg "NoRow" = some (.ref c)/\PySem.W.kitOne K (.ref C) (.ref c)=some (decide (7=j))
 k8:∃ c,mg "TooGreat" = some (.ref c)/\PySem.W.kitOne K (.ref C) (.ref c)=some (decide (8=j))
theorem qV{K:EG}{C:Addr}:PySem.W.kitOne K (.ref C) (.ref C)=some true:=by unfold PySem.W.kitOne;rw [if_pos (by simp)]
theorem aN{K:EG}{C D:Addr}{cd:ClassData}{b:Bool}(ne:C≠D)(h1:PySem.W.clsIn K D=some cd)(h2:PySem.W.typeIn K (.ref D)=some (.type "type"))(h3:PySem.W.subIn K (.ref C) (.ref D)=some b):PySem.W.kitOne K (.ref C) (.ref D)=some b:=by
 unfold PySem.W.kitOne;rw [if_neg (by simpa using ne)];unfold PySem.W.kitCls;dsimp only;rw [h1,h2];simpa using h3
theorem ya{K:EG}{C:Addr}(h3:PySem.W.subIn K (.ref C) (.type "ValueError")=some true):PySem.W.kitOne K (.ref C) (.type "ValueError")=some true:=by
 unfold PySem.W.kitOne;rw [if_neg (by simp)];unfold PySem.W.kitCls;dsimp only;rw [if_pos (by decide +kernel)];exact h3
theorem ma:∀ j,(fq j).all fO=true:=fun j=>rfl
theorem vD:∀ j,j < 9->((fq j).countP fun z=>eqV z (.bl true))=1:=by decide
theorem xX:∀ j,j < 9->∃ h:j < (fq j).length,eqV (fq j)[j] (.bl true)=true:=by decide
theorem xW:∀ j,j < 9->∀ m,(hm:m < (fq j).length)->m < j->eqV (fq j)[m] (.bl true)=false:=by decide
theorem wx{j:Nat}(h:j < 9):atI [V.str "web",.str "place",.str "kind",.str "share",.str "square",.str "number",.str "text",.str "row",.str "great"] (j:Nat)=some (.str (wy.getD j "")):=by
 have:j=0\/j=1\/j=2\/j=3\/j=4\/j=5\/j=6\/j=7\/j=8:=by omega
 rcases this with rfl | rfl | rfl | rfl | rfl | rfl | rfl | rfl | rfl<;>rfl
def se(K:EG)(mg:Str->Option Value):Sp:=fun vs H Q _=>∃ ea C j,vs=[.ref ea]/\H ea=some (mw ea C)/\pX K mg C j/\∀ H',ac H H'->Q (.str (wy.getD j "")) H'
section
variable{X:Cx}{e:Expr}{te:TE}{pos p1 p2:Pos}
theorem isx(mi:X.mg "isinstance" = none){x:Str}{c:Addr}(hm:X.mg x=some (.ref c))(he:PE X e te)(g1:Gl X "isinstance")(g2:Gl X x)(hd:(x == ("__debug__" : Str))=false:=by decide)(hs:starEach [e,.Name x p1] X.env=(false,eval e X.env)::starEach [.Name x p1] X.env:=by rfl) :
 PE X (.Call (.Name "isinstance" p2) [e,.Name x p1] [] pos) (tCB (rIsx X.K) (nJ te (nJ (tC (.ref c)) zE))) :=
 jc rM g1 mi boot_isinstance (aB he (aB (kW (v:= .ref c) g2 hm rfl hd) cD) hs) (he:=hs)
theorem isxV(mi:X.mg "isinstance" = none)(mv:X.mg "ValueError" = none)(he:PE X e te)(g1:Gl X "isinstance")(g2:Gl X "ValueError")(hs:starEach [e,.Name "ValueError" p1] X.env=(false,eval e X.env)::starEach [.Name "ValueError" p1] X.env:=by rfl) :
 PE X (.Call (.Name "isinstance" p2) [e,.Name "ValueError" p1] [] pos) (tCB (rIsx X.K) (nJ te (nJ (tC (.ty "ValueError")) zE))) :=
 jc rM g1 mi boot_isinstance (aB he (aB (ut g2 mv PyProof.Rows.Boot.«ValueError» rfl) cD) hs) (he:=hs)
end
def names:List Str:=["NoWeb", "NoPlace", "NoKind", "NoShare", "NoSquare", "NoNumber", "NoText", "NoRow", "TooGreat"]
def uz(nms:List Str)(C:Str):Option Str:=if nms.elem C=true then match names.findIdx? (·== C) with
 | some j=>some (wy.getD j "")
 | none=>none else none
def qr(nms:List Str)(i:Nat):SE:=fun ρ=>match ρ[i]? with
 | some (some (.exc C,.fz))=>match uz nms C with
  | some w=>some (.ok (.str w) false,ρ)
  | none=>none
 | _=>none
structure zi(K:EG)(mg:Str->Option Value)(nms:List Str):Prop where
 is:∀ nm,nms.elem nm=true->∀ j,names.findIdx? (·== nm)=some j->∀ C,gE K nm C->pX K mg C j
theorem c_kind{X:Cx}{EX:EXT}{nms:List Str}{i k:Nat}{n:Str}{p q pos:Pos}(G:OkA X.prog X.w X.K X.mg X.base "_law_kind_of" ["e"] k (se X.K X.mg))(kn:zi X.K X.mg nms)(hr:eM k X.A)(hg:Gl X "_law_kind_of")(hN:X.N[i]?=some n:=by rfl)(hv:Vis X.env.scope n:=by first | exact Or.inl rfl | exact Or.inr (Or.inl rfl) | exact Or.inr (Or.inr rfl))
 (hd:(n == ("__debug__" : Str))=false:=by decide) (hcd:(n == ("__classdict__" : Str))=false:=by decide) (he:starEach [.Name n q] X.env=(false,eval (.Name n q) X.env)::starEach [] X.env:=by rfl) (hpl:(backTo pos (starEach [] X.env)).any (·.1)=false:=by rfl) :
 JE X EX (.Call (.Name "_law_kind_of" p) [.Name n q] [] pos) (qr nms i):=by
 refine ⟨(xC G hr hg (aB (gu hN hv hd hcd) cD he) (he:=he) (hpl:=hpl)).by fun σ H Q ⟨F,ρ,W,R,h⟩=> ?_⟩;unfold qr at h
 revert h
 cases e0:ρ[i]? with
 | none=>exact fun h=>h.elim
 | some z =>
  cases z with
  | none=>exact fun h=>h.elim
  | some z =>
   obtain ⟨d,m⟩:=z
   cases d<;>cases m<;>try exact fun h=>h.elim
   rename_i C;intro h;simp only at h
   cases ew:uz nms C with
   | none=>rw [ew] at h;exact h.elim
   | some w =>
    rw [ew] at h;obtain ⟨v,hv',p',A,rfl,hC,hp⟩:=R.slot i _ _ e0;unfold uz at ew
    split at ew
    ·rename_i hel
     split at ew
     ·rename_i j hj
      cases ew;refine ⟨_,hv',p',A,j,rfl,(ao hp).2,kn.is C hel j hj A hC,fun H' s=> ?_⟩;exact h _ H' W s.fr (fun _ z=>z) ⟨rfl,R.same s⟩
     ·cases ew
    ·cases ew
end Kd
end L2
namespace L2
open PySem PySem.Spec PyProof.Rows
def keyD:Key->D
 | .inl i=> .int i
 | .inr x=> .str x
theorem yc{K:EG}{H:Hp}:∀ (k:Key),aF K H (keyD k) (kV k)
 | .inl _=>rfl
 | .inr _=>rfl
theorem nY{K:EG}{H:Hp}:∀ (k:List Key),ag K H (k.map keyD) (k.map kV)
 | []=>trivial
 | k::ks=>⟨yc k,nY ks⟩
def dS(ds:List D):Option (D×Bool):=match ds with
 | [.dT ks _]=>some (.lst (ks.map fun k=> .tup (k.map keyD)),true)
 | ds=>yy ds
def xi:List V->Hp->VK->Prop:=fun xs H Q=>∃ a kvs,xs=[V.ref a]/\H a=some (.dT kvs) /\
 ∀ l bs,H l=none->(kvs.map (·.1)).Nodup->bs.length=kvs.length->(∀ (i:Nat) k v,kvs[i]?=some (k,v)->∃ b,bs[i]?=some (V.ref b)/\H b=some (.tup (k.map kV)))->Q (.ref l) (upd H l (.lst bs))
theorem oP{K:EG}{H:Hp}:∀ {ds:List D} {xs:List V},ds.length=xs.length->(∀ (i:Nat) (d:D),ds[i]?=some d->∃ x,xs[i]?=some x/\aF K H d x)->ag K H ds xs
 | [],[],_,_=>trivial
 | d::ds,x::xs,hl,h=>by
  obtain ⟨y,e,r⟩:=h 0 d rfl;cases e
  exact ⟨r,oP (by simpa using hl) fun i d' hd=>by
   obtain ⟨y,e,r⟩:=h (i+1) d' (by simpa using hd)
   exact ⟨y,by simpa using e,r⟩⟩
 | [],_::_,hl,_=>by simp at hl
 | _::_,[],hl,_=>by simp at hl
theorem xM{K:EG}:OpS K (fun xs H Q=>(kU K xs H Q\/lO xs H Q)\/xi xs H Q) dS:=by
 intro vs ds H L Q d nw hm r e q;unfold dS at e
 split at e
 ·rename_i ks es
  cases e;obtain ⟨x,rfl,⟨p,xs,rfl,h1,hl,h2⟩⟩:=aC r;refine .inr ⟨p,_,rfl,h1,fun l bs hf _ hb hk=>q _ _ (ac.upd hf) (cc (oP ?_ fun i d hd=> ?_) hf)⟩
  ·rw [B9,hb,DT,hl,DR]
  ·rw [Cw] at hd
   obtain ⟨k,hk1,rfl⟩:=C4.mp hd
   have hi:i < xs.length:=by rw [<- hl];exact (Cm.mp hk1).1
   obtain ⟨b,e1,e2⟩:=hk i k xs[i] (by rw [EF];exact ⟨hk1,B8 hi⟩);refine ⟨_,e1,b,_,rfl,?_,nY k⟩;rw [aJ fun z=>by have:=hm b z;rw [e2] at this;exact this];exact e2
 ·exact .inl (AD vs ds H L Q d nw hm r e q)
theorem rJ{X:Cx}(hc:X.calm=true):ax X (.type "list") (fun xs H Q=>(kU X.K xs H Q\/lO xs H Q)\/xi xs H Q):=(tS hc).or (tQ hc)
section
variable{X:Cx}{EX:EXT}{e:Expr}{es:List Expr}{pos p:Pos}{as:List Arg}
theorem Bp(he:starEach (e::es) X.env=(false,eval e X.env)::starEach es X.env:=by rfl)(hpl:(backTo pos (starEach es X.env)).any (·.1)=false:=by rfl)(m:X.mg "list" = none)(ha:JA X EX (e::es) as)(hg:Gl X "list" := by rfl)(hc:X.calm=true:=by rfl):JE X EX (.Call (.Name "list" p) (e::es) [] pos) (sOp dS as):=gF (rJ hc) xM hg m PyProof.Rows.boot_list ha (by decide) (by decide) he hpl
end
end L2
namespace St2
open PySem PySem.Spec PyProof.Rows
section
variable{prog:Program}{w:World}{A:Around}{E:Value->Shared->Prop}{s:Shared}
theorem rE{T:String}{d:Addr}{n:Nat}{P:Nat->Value->Prop}{OK:Heap->Prop}{Q:List Value->Shared->Prop}(K:PySem.W.KdlSrc prog w T d d n P OK)(hh:A.handled=none)(hd:OK s.heap)(hz:n<=sizeLine)
 (h:∀ h' tk (acc:Array Value) c,(∀ b o,s.heap.get? b=some o->h'.get? b=some o)->h'.get? s.heap.objs.size=some { cls:= .type "list",dict:=none,data:= .seq acc c,slots := #[] }->ItemsOf P acc n->Q acc.toList { s with heap:=h',toks:=tk }) :
 wpAny (model prog w) A (collect (.ref d)) Q E s:=by
 unfold collect;refine B6 (EE (codeAny_builtin F.entry_proto_collect ?_));unfold Builtin.«proto.collect»
 show wpAny _ _ (newList [] >>= _) _ _ _
 refine B6 (Ev ?_ (by simp));refine Ca ⟨Code.quiet_builtin _ (by decide +kernel),codeAny_builtin F.entry_list_iadd ?_⟩;have hn:(s.heap.push { cls:=Value.type "list",data:=Data.seq #[] }).get? s.heap.objs.size=some { cls:=Value.type "list",data:=Data.seq #[] }:=Cd _ rfl
 show wpAny _ _ (Builtin.List.listExtendWith (.ref s.heap.objs.size) (.ref d) (.ref s.heap.objs.size)) _ _ _
 have nd:s.heap.objs.size≠d:=DJ (K.there _ hd).1
 have key:=PySem.W.kdl_extend (A:=A) (s:={ s with heap:=s.heap.push { cls:=Value.type "list",data:=Data.seq #[] } }) (R:=fun r s'=>∃ h' tk acc c,r = .ok (.ret (.ref s.heap.objs.size))/\s'={ s with heap:=h',toks:=tk }/\(∀ b o,s.heap.get? b=some o->h'.get? b=some o)/\h'.get? s.heap.objs.size=some { cls:= .type "list",dict:=none,data:= .seq acc c,slots := #[] }/\ItemsOf P acc n)
  K hh (K.keep _ _ hd fun b _ o e=>B7 _ e) _ nd nd (.ref s.heap.objs.size) 0 hn (fun h' tk acc c keep hS items=>⟨h',tk,acc,c,rfl,rfl,fun b o e=>keep b o (Cu (Cf e)) (B7 _ e),hS,items⟩) hz
 refine Dm key (fun f s' hf=> ?_) (fun e s' he=> ?_)
 ·cases f with
  | done f =>
   obtain ⟨h',tk,acc,c,e1,rfl,keep,hS,items⟩:=hf;cases e1
   show wpAny _ _ (load s.heap.objs.size >>= _) _ _ _
   refine B6 (wpAny_load hS ?_)
   show wpAny _ _ (pure acc.toList) _ _ _
   exact Ca (h h' tk acc c keep hS items)
  | again c' =>
   refine ⟨hf.1,codeAny_mono hf.2 fun r s' z=> ?_⟩;obtain ⟨h',tk,acc,c,e1,rfl,keep,hS,items⟩:=z;cases e1
   show wpAny _ _ (load s.heap.objs.size >>= _) _ _ _
   refine B6 (wpAny_load hS ?_)
   show wpAny _ _ (pure acc.toList) _ _ _
   exact Ca (h h' tk acc c keep hS items)
 ·obtain ⟨_,_,_,_,e1,_⟩:=he
  cases e1
end
end St2
namespace L2
open PySem PySem.Spec PyProof.Rows
section
variable{X:Cx}
def oR:List V->Hp->VK->Prop:=fun xs H Q=>∃ (a:Addr) (ks:List (List Int)) (vs:List V),xs=[V.ref a]/\H a=some (.dT ((ks.map fun k=>k.map Sum.inl).zip vs))/\ks.length=vs.length/\ks.length < 64/\(∀ k∈ks,k≠[]) /\
 ∀ l (bs:List V),H l=none->bs.length=ks.length->(∀ (i:Nat) k,(Srt.gy ks)[i]?=some k->∃ b,bs[i]?=some (V.ref b)/\H b=some (.tup (k.map V.int)))->Q (.ref l) (upd H l (.lst bs))
theorem inl_kV(k:List Int):(k.map (Sum.inl:Int->Key)).map kV=k.map V.int:=by rw [CK];rfl
theorem nu(hc:X.calm=true):ax X (.builtin "sorted") oR:=by
 intro pins s σ H xs us Q I r h;obtain ⟨a,ks,vs,rfl,ha,hlv,h64,hne,q⟩:=h;obtain ⟨u,rfl,ru⟩:=bx r;cases ru;obtain ⟨z,lo,nd,es,ep,x,hl,hk⟩:=sy I.hok ha;have lsz:sizeLine=16777216:=sizeLine_eq
 have hlz:((ks.map fun k=>k.map (Sum.inl:Int->Key)).zip vs).length=ks.length:=by rw [DT,B9,hlv,DR]
 have hes:es.size=ks.length:=hl.trans hlz;refine Calls.call_function_entry kind_sorted plain_sorted entry_sorted (args_sorted1 _) ?_;unfold Builtin.«sorted»;refine B6 (m:=checkCount "sorted" 1 1 _) (Ca ?_);refine B6 (St2.rE (RawD.src (ep:=ep) (es:=es) lo) (I.ok.hd hc) x (by omega) fun h1 tk acc c keep hS items=>B6 (Ev ?_ (by rw [C0,items.1];omega)));have hsz:s.heap.objs.size+1<=h1.objs.size:=Cf hS
 have lacc:acc.toList.length=ks.length:=by rw [C0,items.1,hes]
 have at_:∀ (i:Nat) (hi:i < acc.toList.length),∃ b,acc.toList[i] = .ref b/\H b=some (.tup ((ks.getD i []).map V.int))/\ks.getD i []≠[]:=fun i hi=>by
  obtain ⟨hi',e⟩:=items.2 i acc.toList[i] (by rw [<- DC];exact B8 hi);obtain ⟨b,k,v,e1,e2,e3⟩:=hk i hi'
  have hi2:i < ks.length:=by omega
  have ek:k=(ks.getD i []).map Sum.inl:=by
   rw [EF] at e2;have:=e2.1;rw [Cw,B8 hi2] at this;have this:ks[i].map Sum.inl=k:=Option.some.inj this;rw [<- this];simp [Cs,hi2]
  refine ⟨b,e.trans e1,by rw [e3,ek,inl_kV],hne _ ?_⟩;rw [Cs,B8 hi2];exact C6 _
 show wpAny _ _ _ _ _ { s with heap:=h1.push (seqObj "list" acc.toList.toArray 0),toks:=tk }
 have oL:(h1.push (seqObj "list" acc.toList.toArray 0)).get? h1.objs.size=some (seqObj "list" acc.toList.toArray 0):=Cd _ rfl
 have tk1:Srt.iw (h1.push (seqObj "list" acc.toList.toArray 0)) acc.toList ks:=⟨lacc,fun i hi=>by
  obtain ⟨b,e1,e2,e3⟩:=at_ i hi;obtain ⟨items',ri,⟨o,g1,g2,n,g3⟩,_⟩:=I.tuple (X:=X) (.inl (.inl e2))
  exact ⟨b,items'.toArray,e1,⟨o,B7 _ (keep b o g1),g2,n,g3⟩,cF ri,e3⟩⟩
 refine B6 (Du (C1 slot_list_sort ⟨_,oL,rfl⟩ entry_list_sort (Srt.Bt oL tk1 (by omega) fun p hp hs=>⟨_,rfl,?_⟩) (args_list_sort _)))
 have hle:s.heap.objs.size<=h1.objs.size:=by omega
 have hf:H h1.objs.size=none:=I.hok.fresh hle
 have hin:∀ i∈p,i < acc.toList.length:=fun i hi=>by
  have:=hp.mem_iff.mp hi
  rwa [CN] at this
 have refs:∀ u∈(p.map fun i=>acc.toList.getD i Value.none),∃ b,u = .ref b:=fun u hu=>by
  obtain ⟨i,hi,rfl⟩:=CP.mp hu;obtain ⟨b,e1,_⟩:=at_ i (hin i hi);exact ⟨b,by rw [Cs,B8 (hin i hi)];exact e1⟩
 have es':p.map (fun i=>ks.getD i [])=Srt.gy ks:=by
  refine Srt.bo ?_ (Srt.cw ks) (((hp.map _).trans (Ei ?_)).trans (Srt.bK ks).symm)
  ·rw [List.pairwise_map]
   exact hs.imp fun h=>h
  ·rw [lacc]
   apply Ea
   ·simp
   ·intro i h1 h2
    simp [h2]
 obtain ⟨e,he⟩:=sortedHeap_at (out:=(p.map fun i=>acc.toList.getD i Value.none).toArray) oL
 have lp:p.length=ks.length:=by rw [hp.length_eq,Dx,lacc]
 refine Ca ⟨_,rfl,.ref h1.objs.size,upd H h1.objs.size (.lst ((p.map fun i=>acc.toList.getD i Value.none).map qy)),I.laid (t':=tk) (fun b o q=> ?_) hle ⟨?_,_,e,jE refs,by simpa using he⟩,rfl,q _ _ hf (by rw [B9,B9,lp]) fun i k hik=> ?_⟩
 ·have lb:=Cf (keep b o q)
  rw [sortedHeap_old (Cu lb) (by rw [CL];exact Dp lb)];exact B7 _ (keep b o q)
 ·rw [B9,B9,lp]
  omega
 ·rw [<- es',Cw] at hik
  obtain ⟨j,hj,rfl⟩:=C4.mp hik;have hj':=hin j (Cp hj);obtain ⟨b,e1,e2,_⟩:=at_ j hj';refine ⟨b,?_,e2⟩;rw [Cw,Cw,hj]
  show some (qy (acc.toList.getD j Value.none))=_
  rw [Cs,B8 hj']
  show some (qy acc.toList[j])=_
  rw [e1];rfl
end
def AV:List Key->Option (List Int)
 | []=>some []
 | .inl i::ks=>match AV ks with
  | some l=>some (i::l)
  | none=>none
 | .inr _::_=>none
def nX:List (List Key)->Option (List (List Int))
 | []=>some []
 | k::ks=>match AV k,nX ks with
  | some (i::l),some r=>some ((i::l)::r)
  | _,_=>none
theorem uA:∀ {k:List Key} {l:List Int},AV k=some l->k=l.map Sum.inl
 | [],_,h=>by cases h;rfl
 | .inl i::ks,l,h=>by
  unfold AV at h
  split at h
  ·rename_i l' e
   cases h;rw [uA e];rfl
  ·cases h
 | .inr _::_,_,h=>by cases h
theorem qX:∀ {ks:List (List Key)} {r:List (List Int)},nX ks=some r->ks=(r.map fun k=>k.map Sum.inl)/\∀ k∈r,k≠[]
 | [],_,h=>by cases h;exact ⟨rfl,fun k hk=>by cases hk⟩
 | k::ks,r,h=>by
  unfold nX at h
  split at h
  ·rename_i i l r' e1 e2
   cases h;obtain ⟨g1,g2⟩:=qX e2;exact ⟨by rw [g1,uA e1];rfl,fun k hk=>(List.mem_cons.mp hk).elim (fun e=>by rw [e];simp) (g2 k)⟩
  ·cases h
def cG(ds:List D):Option (D×Bool):=match ds with
 | [.dT ks _]=>match nX ks with
  | some r=>if decide (r.length < 64)=true then some (.lst ((Srt.gy r).map r6),true) else none
  | none=>none
 | ds=>iQ ds
theorem xI{K:EG}:OpS K (fun xs H Q=>((iF K xs H Q\/iE K xs H Q)\/jI K xs H Q)\/oR xs H Q) cG:=by
 intro vs ds H L Q d nw hm r e q;unfold cG at e
 split at e
 ·rename_i ks es
  split at e
  ·rename_i ns hk
   split at e
   ·rename_i h64
    cases e;have h64:=Cn h64;obtain ⟨g1,g2⟩:=qX hk;obtain ⟨x,rfl,⟨p,xs,rfl,h1,hl,h2⟩⟩:=aC r
    have ll:ns.length=xs.length:=by rw [<- hl,g1,B9]
    refine .inr ⟨p,ns,xs,rfl,by rw [<- g1];exact h1,ll,h64,g2,fun l bs hf hb hk'=>q _ _ (ac.upd hf) (cc (oP ?_ fun i d hd=> ?_) hf)⟩
    ·rw [B9,hb,(Srt.bK ns).length_eq]
    ·rw [Cw] at hd
     obtain ⟨k,hk1,rfl⟩:=C4.mp hd;obtain ⟨b,e1,e2⟩:=hk' i k hk1;refine ⟨_,e1,b,_,rfl,?_,dM k⟩;rw [aJ fun z=>by have:=hm b z;rw [e2] at this;exact this];exact e2
   ·cases e
  ·cases e
 ·exact .inl (xJ vs ds H L Q d nw hm r e q)
theorem tM{X:Cx}(hc:X.calm=true):ax X (.builtin "sorted") (fun xs H Q=>((iF X.K xs H Q\/iE X.K xs H Q)\/jI X.K xs H Q)\/oR xs H Q):=tN.or (nu hc)
section
variable{X:Cx}{EX:EXT}{e:Expr}{es:List Expr}{pos p:Pos}{as:List Arg}
theorem Bn(he:starEach (e::es) X.env=(false,eval e X.env)::starEach es X.env:=by rfl)(hpl:(backTo pos (starEach es X.env)).any (·.1)=false:=by rfl)(m:X.mg "sorted" = none)(ha:JA X EX (e::es) as)(hg:Gl X "sorted" := by rfl)(hc:X.calm=true:=by rfl):JE X EX (.Call (.Name "sorted" p) (e::es) [] pos) (sOp cG as):=fH (tM hc) xI hg m PyProof.Rows.boot_sorted ha (by decide) (by decide) he hpl
end
end L2
namespace L2
open PySem
section
variable{ρ ρ1 ρ2 ρ3:Rho}{d:D}{nw b:Bool}{f g:SE}{s t:SS}{C:Str}{nms:List Str}{i:Nat}
theorem r_tryX{x:Option (D×Md)}(h:s ρ=some (.ex C,ρ1))(he:nms.elem C=true)(hi:ρ1[i]?=some x)(hn:ρ1.set i (some (.exc C,.fz))=ρ2)(h2:t ρ2=some (.rt d nw,ρ3)):wR nms i s t ρ=some (.rt d nw,ρ3):=by
 subst hn;unfold wR;simp only [h,hi,h2];rw [if_pos he]
theorem r_kind{w:Str}(h:ρ[i]?=some (some (.exc C,.fz)))(hw:Kd.uz nms C=some w):Kd.qr nms i ρ=some (.ok (.str w) false,ρ):=by
 unfold Kd.qr;simp only [h,hw]
theorem r_dnew:nP d ρ=some (.ok d true,ρ):=rfl
end
abbrev nD(l:List Int):List D:=l.map D.int
abbrev bD(l:List Bool):List D:=l.map D.bl
abbrev wC(t:Int×Int):D:= .tup [.int t.1,.int t.2]
abbrev tD(ts:List (Int×Int)):List D:=ts.map wC
abbrev cn(n:Int)(ts:List (Int×Int)):D:= .tup [.int n,.tup (tD ts)]
def rgI(lo:Int)(n:Nat):List Int:=(List.range n).map fun k=>lo+(k:Nat)
theorem av(lo:Int)(n:Nat):(rgI lo n).length=n:=by unfold rgI;simp
theorem aK{lo:Int}{n:Nat}{x:Int}:x∈rgI lo n↔lo<=x/\x < lo+n:=by
 unfold rgI;rw [CP]
 constructor
 ·rintro ⟨k,hk,rfl⟩
  have:=CN.mp hk;omega
 ·rintro ⟨a,b⟩
  exact ⟨(x - lo).toNat,CN.mpr (by omega),by omega⟩
theorem zU{lo:Int}{n i:Nat}{x:Int}(h:(rgI lo n)[i]?=some x):i < n/\x=lo+i:=by
 unfold rgI at h;rw [Cw] at h;obtain ⟨k,hk,rfl⟩:=C4.mp h;obtain ⟨a,b⟩:=Cm.mp hk;simp at a b;subst b;exact ⟨a,rfl⟩
theorem rgI_at{lo:Int}{n i:Nat}(h:i < n):(rgI lo n)[i]?=some (lo+(i:Nat)):=by
 unfold rgI;rw [Cw,List.getElem?_range h];rfl
theorem cX(lo:Int)(n:Nat):rgI lo (n+1)=rgI lo n++[lo+(n:Nat)]:=by unfold rgI;rw [List.range_succ,Dy];rfl
theorem ja(lo:Int)(n:Nat):rgI lo (n+1)=lo::rgI (lo+1) n:=by
 unfold rgI;rw [List.range_succ_eq_map,Cq,CK]
 congr 1
 ·simp
 ·refine CO fun k _=> ?_
  show lo+((k+1:Nat):Int)=lo+1+(k:Nat)
  omega
theorem oO(lo:Int)(n:Nat):gk lo n=nD (rgI lo n):=by unfold gk rgI;rw [nD,CK];rfl
theorem om{α:Type}{inj:α->D}:∀ (xs:List α) (k:Nat),gD k (xs.map inj)=(xs.zipIdx k).map fun p=> .tup [.int (p.2:Nat),inj p.1]
 | [],_=>rfl
 | x::xs,k=>by rw [Cq,List.zipIdx_cons,Cq];show _::gD (k+1) _=_;rw [om xs (k+1)]
section
variable{ρ ρ1 ρ2 ρ3 ρ4:Rho}{d y:D}{ds ys:List D}{nw b:Bool}{f g:SE}{p:ST}{s:SS}{T:Tg}{k:Nat}
theorem ud{x:Arg}{j:Int}(h:evA [x] ρ=some (.ok [.int j],ρ1))(h1 : -1000000<=j)(h2:j<=1000000):ci x ρ=some (.ok (nD (rgI 0 j.toNat)),ρ1):=by rw [r_rng1 h (xQ (by omega) (by omega) h1 h2 (by omega)),oO]
theorem zX{x:Arg}{n:Nat}(h:evA [x] ρ=some (.ok [.int (n:Nat)],ρ1))(h2:n<=1000000):ci x ρ=some (.ok (nD (rgI 0 n)),ρ1):=by rw [ud h (by omega) (by omega),En]
theorem zW{x z:Arg}{i j:Int}(h:evA [x,z] ρ=some (.ok [.int i,.int j],ρ1))(h0 : -1000000<=i)(h0':i<=1000000)(h1 : -1000000<=j)(h2:j<=1000000)(h3:j - i<=1000000):eW x z ρ=some (.ok (nD (rgI i (j - i).toNat)),ρ1):=by rw [r_rng2 h (xQ h0 h0' h1 h2 h3),oO]
theorem Ad{α:Type}{inj:α->D}{xs:List α}(h:f ρ=some (.ok d nw,ρ1))(hs:b7 d=some (xs.map inj)):dL f ρ=some (.ok (xs.zipIdx.map fun p=> .tup [.int (p.2:Nat),inj p.1]),ρ1):=by
 rw [r_enum h hs,om]
theorem r_ieI{x z:Int}(h:p ρ=some (.ok b,ρ1))(h1:f ρ1=some (.ok (.int x) false,ρ1))(h2:g ρ1=some (.ok (.int z) false,ρ1)):sIf p f g ρ=some (.ok (.int (if b=true then x else z)) false,ρ1):=by
 unfold sIf;rw [h]
 cases b with
 | true=>exact h1
 | false=>exact h2
theorem Ae{e:Option ST}:bq k T e f [] ρ=some ([],ρ):=rfl
theorem ue(h1:bF T d (ρ++List.replicate k none)=some ρ1)(h2:f ρ1=some (.ok y nw,ρ2))(h3:ρ2.take ρ.length=ρ3)(h4:bq k T none f ds ρ3=some (ys,ρ4)):bq k T none f (d::ds) ρ=some (y::ys,ρ4):=by
 subst h3;unfold bq;simp only [h1,evC,h2,h4]
theorem Aa:bJ T s [] ρ=some (.nx,ρ):=rfl
theorem oQ{r:Option (Out×Rho)}(h1:bF T d ρ=some ρ1)(h2:s ρ1=some (.nx,ρ2))(h3:bJ T s ds ρ2=r):bJ T s (d::ds) ρ=r:=by
 unfold bJ;simp only [h1,h2];exact h3
end
section
variable{α:Type}{k:Nat}{T:Tg}{f:SE}{c:ST}{ρ:Rho}{inj:α->D}{q:α->Bool}
theorem lE{g:α->Int}(xs:List α)(h:∀ x∈xs,∃ ρ1 ρ3 nw,bF T (inj x) (ρ++List.replicate k none)=some ρ1/\f ρ1=some (.ok (.int (g x)) nw,ρ3)/\ρ3.take ρ.length=ρ):bq k T none f (xs.map inj) ρ=some (nD (xs.map g),ρ):=by
 rw [gQ (g:=fun x=>D.int (g x)) xs h,nD,CK];rfl
theorem sv{g:α->Bool}(xs:List α)(h:∀ x∈xs,∃ ρ1 ρ3 nw,bF T (inj x) (ρ++List.replicate k none)=some ρ1/\f ρ1=some (.ok (.bl (g x)) nw,ρ3)/\ρ3.take ρ.length=ρ):bq k T none f (xs.map inj) ρ=some (bD (xs.map g),ρ):=by
 rw [gQ (g:=fun x=>D.bl (g x)) xs h,bD,CK];rfl
theorem su{g1 g2:α->Int}(xs:List α)(h:∀ x∈xs,∃ ρ1 ρ3 nw,bF T (inj x) (ρ++List.replicate k none)=some ρ1/\f ρ1=some (.ok (.tup [.int (g1 x),.int (g2 x)]) nw,ρ3)/\ρ3.take ρ.length=ρ):bq k T none f (xs.map inj) ρ=some (tD (xs.map fun x=>(g1 x,g2 x)),ρ):=by
 rw [gQ (g:=fun x=> .tup [.int (g1 x),.int (g2 x)]) xs h,tD,CK];rfl
theorem lF{I:Rho->Prop}{P:D->Prop}:∀ (ds:List D) (ρ:Rho),I ρ->(∀ d∈ds,∀ ρ,I ρ->∃ ρ1 ρ2 y nw,bF T d (ρ++List.replicate k none)=some ρ1/\f ρ1=some (.ok y nw,ρ2)/\P y/\I (ρ2.take ρ.length))->∃ ys ρ',bq k T none f ds ρ=some (ys,ρ')/\I ρ'/\ys.length=ds.length/\∀ y∈ys,P y
 | [],ρ,hI,_=>⟨[],ρ,rfl,hI,rfl,fun _ h=>absurd h Db⟩
 | d::ds,ρ,hI,h=>by
  obtain ⟨ρ1,ρ2,y,nw,e1,e2,hP,hI2⟩:=h d Ck ρ hI
  obtain ⟨ys,ρ',e3,hI3,hl,hA⟩:=lF ds _ hI2 fun d hd=>h d (Ce _ hd)
  exact ⟨y::ys,ρ',ue e1 e2 rfl e3,hI3,by rw [Cc,Cc,hl],fun z hz=>by
   rcases List.mem_cons.mp hz with rfl | hz
   ·exact hP
   ·exact hA z hz⟩
end
def uV(o:Option (Out×Rho))(Q:Rho->Prop):Prop:=∃ ρ',o=some (.nx,ρ')/\Q ρ'
theorem ex_seq{s t:SS}{ρ ρ1:Rho}{Q:Rho->Prop}(h1:s ρ=some (.nx,ρ1))(h2:uV (t ρ1) Q):uV (ah s t ρ) Q:=by obtain ⟨ρ',e,q⟩:=h2;exact ⟨ρ',wZ h1 e,q⟩
theorem ex_one{s:SS}{ρ ρ1:Rho}{Q:Rho->Prop}(h1:s ρ=some (.nx,ρ1))(h2:Q ρ1):uV (s ρ) Q:=⟨ρ1,h1,h2⟩
theorem elA_mk{k:Nat}{T:Tg}{f:SE}{ρ ρ1 ρ2:Rho}{d y:D}{nw:Bool}{P:D->Prop}{J:Rho->Prop}(h1:bF T d (ρ++List.replicate k none)=some ρ1)(h2:f ρ1=some (.ok y nw,ρ2))(h3:P y)(h4:J ρ2):∃ ρ1 ρ2 y nw,bF T d (ρ++List.replicate k none)=some ρ1/\f ρ1=some (.ok y nw,ρ2)/\P y/\J ρ2:=⟨ρ1,ρ2,y,nw,h1,h2,h3,h4⟩
section
variable{α σ:Type}{T:Tg}{f:SS}{inj:α->D}
theorem gg(R:σ->Rho->Prop)(step:σ->α->σ):∀ (xs:List α) (s:σ) (ρ:Rho),R s ρ->(∀ x∈xs,∀ s ρ,R s ρ->∃ ρ1 ρ2,bF T (inj x) ρ=some ρ1/\f ρ1=some (.nx,ρ2)/\R (step s x) ρ2)->∃ ρ',bJ T f (xs.map inj) ρ=some (.nx,ρ')/\R (xs.foldl step s) ρ'
 | [],s,ρ,h,_=>⟨ρ,rfl,h⟩
 | x::xs,s,ρ,h,hs=>by
  obtain ⟨ρ1,ρ2,e1,e2,h2⟩:=hs x Ck s ρ h
  obtain ⟨ρ',e3,h3⟩:=gg R step xs _ ρ2 h2 fun x hx=>hs x (Ce _ hx)
  exact ⟨ρ',oQ e1 e2 e3,h3⟩
theorem u9{lo:Int}(I:Nat->Rho->Prop)(n:Nat)(ρ:Rho)(h0:I 0 ρ)(hs:∀ i,i < n->∀ ρ,I i ρ->∃ ρ1 ρ2,bF T (.int (lo+(i:Nat))) ρ=some ρ1/\f ρ1=some (.nx,ρ2)/\I (i+1) ρ2):∃ ρ',bJ T f (nD (rgI lo n)) ρ=some (.nx,ρ')/\I n ρ':=by
 obtain ⟨ρ',e,h⟩:=nO (T:=T) (f:=f) I (nD (rgI lo n)) 0 ρ h0 fun i d ρ hd hI=>by
  rw [nD,Cw] at hd;obtain ⟨x,hx,rfl⟩:=C4.mp hd;obtain ⟨h1,rfl⟩:=zU hx;rw [C3] at hI ⊢;exact hs i h1 ρ hI
 rw [B9,av,C3] at h;exact ⟨ρ',e,h⟩
theorem sk(I:Nat->Rho->Prop)(n:Nat)(ρ:Rho)(h0:I 0 ρ)(hs:∀ i,i < n->∀ ρ,I i ρ->∃ ρ1 ρ2,bF T (.int (i:Nat)) ρ=some ρ1/\f ρ1=some (.nx,ρ2)/\I (i+1) ρ2):∃ ρ',bJ T f (nD (rgI 0 n)) ρ=some (.nx,ρ')/\I n ρ' :=
 u9 I n ρ h0 fun i hi ρ hI=>by rw [Int.zero_add];exact hs i hi ρ hI
theorem gf(R:Nat->σ->Rho->Prop)(step:σ->α->σ):∀ (xs:List α) (n:Nat) (s:σ) (ρ:Rho),R n s ρ->(∀ i x,xs[i]?=some x->∀ s ρ,R (n+i) s ρ->∃ ρ1 ρ2,bF T (inj x) ρ=some ρ1/\f ρ1=some (.nx,ρ2)/\R (n+i+1) (step s x) ρ2)->∃ ρ',bJ T f (xs.map inj) ρ=some (.nx,ρ')/\R (n+xs.length) (xs.foldl step s) ρ'
 | [],n,s,ρ,h,_=>⟨ρ,rfl,h⟩
 | x::xs,n,s,ρ,h,hs=>by
  obtain ⟨ρ1,ρ2,e1,e2,h2⟩:=hs 0 x rfl s ρ h
  obtain ⟨ρ',e3,h3⟩:=gf R step xs (n+1) _ ρ2 h2 fun i x hx s ρ hR=>by
   have:=hs (i+1) x (by simpa using hx) s ρ (by rw [show n+(i+1)=n+1+i by omega];exact hR);rw [show n+(i+1)+1=n+1+i+1 by omega] at this;exact this
  refine ⟨ρ',oQ e1 e2 e3,?_⟩;rw [Cc,show n+(xs.length+1)=n+1+xs.length by omega];exact h3
end
section
variable{α:Type}{inj:α->D}{xs ys:List α}{ns ms:List Int}{i a b:Int}
theorem og:bu [.lst (xs.map inj)]=some (.int (xs.length:Nat),false):=by show some (D.int ((xs.map inj).length:Nat),false)=_;rw [B9]
theorem cH:bu [.tup (xs.map inj)]=some (.int (xs.length:Nat),false):=by show some (D.int ((xs.map inj).length:Nat),false)=_;rw [B9]
theorem cx(h0:0<=i)(h1:i < ns.length):gIx [.tup (nD ns),.int i]=some (.int (ns.getD i.toNat 0),false):=uI (rQ h0 h1)
theorem yA(h0:0<=i)(h1:i < ns.length):gIx [.lst (nD ns),.int i]=some (.int (ns.getD i.toNat 0),false):=fA (rQ h0 h1)
theorem oa:pA [.tup (nD ns)]=some (.int ns.sum,false):=by unfold pA;simp only [cE]
theorem tf(h:ns≠[]):eC [.lst (nD ns)]=some (.int (g7 ns),false):=vM ns h
theorem mm(h:ns≠[]):e8 [.lst (nD ns)]=some (.int (gx ns),false):=vL ns h
theorem A6:eC [.int a,.int b]=some (.int (max a b),false):=by
 show some (D.int (if b > a then b else a),false)=_
 congr 3
 rw [Int.max_def]
 split<;>split<;>omega
theorem A4:e8 [.int a,.int b]=some (.int (min a b),false):=by
 show some (D.int (if b < a then b else a),false)=_
 congr 3
 rw [Int.min_def]
 split<;>split<;>omega
theorem A8:yG [.int a]=some (.int (a.natAbs:Nat),false):=by
 show some (D.int (if a < 0 then -a else a),false)=_
 congr 3
 split<;>omega
theorem wS(h : -1000000<=a)(h2:b<=1000000)(h3:a<=1000000)(h4 : -1000000<=b)(h5:b - a<=1000):qt a b=true:=by
 unfold qt
 refine Cr ⟨?_,?_,?_,?_,?_⟩<;>omega
theorem of(h : -1000000<=a)(h2:b<=1000000)(h3:a<=1000000)(h4 : -1000000<=b)(h5:b - a<=1000):dS [.rng a b]=some (.lst (nD (rgI a (b - a).toNat)),true):=by
 show (if qt a b=true then some (D.lst (gk a (b - a).toNat),true) else none)=_
 rw [if_pos (wS h h2 h3 h4 h5),oO]
theorem fv{n:Nat}(h:n<=1000):dS [.rng 1 ((n:Nat)+1)]=some (.lst (nD (rgI 1 n)),true):=by rw [of (by omega) (by omega) (by omega) (by omega) (by omega),show ((n:Int)+1 - 1).toNat=n by omega]
theorem kc(h:ns.length < 64):cG [.lst (nD ns)]=some (.lst (nD (cZ ns)),true):=by
 have:eB [.lst (nD ns)]=some (.lst (nD (cZ ns)),true):=by unfold eB;simp only [cE,h,decide_true,if_true]
 show iQ _=_
 unfold iQ;rw [this]
theorem rh(h:ns.length < 64):cG [.tup (nD ns)]=some (.lst (nD (cZ ns)),true):=by
 have:eB [.tup (nD ns)]=some (.lst (nD (cZ ns)),true):=by unfold eB;simp only [cE,h,decide_true,if_true]
 show iQ _=_
 unfold iQ;rw [this]
def bg(ts:List (Int×Int)):List (Int×Int):=(Srt.gy (ts.map fun t=>[t.1,t.2])).map fun k=>(k.getD 0 0,k.getD 1 0)
theorem fm(ts:List (Int×Int)):(bg ts).Perm ts:=by
 unfold bg;refine ((Srt.bK _).map _).trans ?_;rw [CK];refine Ei ?_;exact (CO (fun t _=>rfl)).trans (List.map_id' _)
theorem sI(ts:List (Int×Int)):(bg ts).map (fun t=>[t.1,t.2])=Srt.gy (ts.map fun t=>[t.1,t.2]):=by
 unfold bg;rw [CK];refine (CO fun k hk=> ?_).trans (List.map_id' _);obtain ⟨t,_,rfl⟩:=CP.mp ((Srt.bK _).mem_iff.mp hk);rfl
theorem tD_tup(ts:List (Int×Int)):tD ts=(ts.map fun t=>[t.1,t.2]).map r6:=by rw [tD,CK];rfl
theorem mz:∀ (a b:List Int),fc (a.map D.int) (b.map D.int)=decide (a=b)
 | [],[]=>rfl
 | [],_::_=>rfl
 | _::_,[]=>rfl
 | x::a,y::b=>by
  show ((x == y)&&fc (a.map D.int) (b.map D.int))=_
  rw [mz a b,DI];simp
theorem jf:∀ (a:List Int),bW (a.map D.int)=a.map D.int
 | []=>rfl
 | x::a=>by show nrm (.int x)::bW (a.map D.int)=_;rw [jf a];rfl
theorem dX(n:Nat):∀ (a:List Int),(a.map D.int).all (ae n)=true
 | []=>rfl
 | x::a=>by rw [Cq,List.all_cons,dX n a];unfold ae;rfl
theorem gC(n:Nat)(a:List Int):ae (n+1) (.tup (nD a))=true:=by unfold ae;exact dX n a
theorem kf(n:Nat)(a:List Int):ae (n+1) (.lst (nD a))=true:=by unfold ae;exact dX n a
theorem rA(a b:List Int):eqD (.lst (nD a)) (.lst (nD b))=decide (a=b):=by unfold eqD nrm;rw [jf,jf];show fc _ _=_;exact mz a b
theorem yD:gEq [.lst (nD ns),.lst (nD ms)]=some (.bl (decide (ns=ms)),false):=by unfold gEq;simp only [kf,Bool.and_self,if_true,rA]
theorem yu:gNe [.lst (nD ns),.lst (nD ms)]=some (.bl (!decide (ns=ms)),false):=by unfold gNe;simp only [kf,Bool.and_self,if_true,rA]
theorem e9(h:xs.length+ys.length<=1000):aE [.lst (xs.map inj),.lst (ys.map inj)]=some (.lst ((xs++ys).map inj),true):=by
 unfold aE;simp only [eQ (show (xs.map inj).length+(ys.map inj).length<=1000 by rw [B9,B9];exact h),if_true,Dy]
theorem vN(h:xs.length+ys.length<=1000):aE [.tup (xs.map inj),.tup (ys.map inj)]=some (.tup ((xs++ys).map inj),false):=by
 unfold aE;simp only [eQ (show (xs.map inj).length+(ys.map inj).length<=1000 by rw [B9,B9];exact h),if_true,Dy]
theorem tq(h:ns.length<=999):aE [.lst [.int a],.lst (nD ns)]=some (.lst (nD (a::ns)),true):=e9 (inj:=D.int) (xs:=[a]) (ys:=ns) (by simp;omega)
theorem vO{ts:List (Int×Int)}(h:ts.length<=999):aE [.lst (tD ts),.lst [.tup [.int a,.int b]]]=some (.lst (tD (ts++[(a,b)])),true):=e9 (inj:=wC) (xs:=ts) (ys:=[(a,b)]) (by simp;omega)
theorem wA(h:ns.length<=1000):gO (.lst (nD ns)) [.int a]=some (.lst (nD (ns++[a])),.non):=by
 show (if small (nD ns).length=true then some (D.lst (nD ns++[.int a]),D.non) else none)=_
 rw [if_pos (eQ (by rw [B9];exact h)),nD,nD,Dy];rfl
theorem iX(h:xs.length+ys.length<=1000):bP (.lst (xs.map inj)) [.lst (ys.map inj)]=some (.lst ((xs++ys).map inj),.non):=by
 show (if small ((xs.map inj).length+(ys.map inj).length)=true then some (D.lst (xs.map inj++ys.map inj),D.non) else none)=_
 rw [if_pos (eQ (by rw [B9,B9];exact h)),Dy]
theorem nH:iY (.tup (xs.map inj))=some (!xs.isEmpty):=by cases xs<;>rfl
theorem yw(h1 : -(2 ^ 64) < a)(h2:a < 2 ^ 64):kN [.int a,.int b]=some (.int (a * b),false):=by
 show (if nU a b=true then some (D.int (a * b),false) else none)=_
 rw [if_pos (pp h1 h2)]
end
def rC(xs:List Int)(lo hi:Option Int):List Int:=(xs.drop (HT.sIx xs.length 0 lo)).take (HT.sIx xs.length xs.length hi - HT.sIx xs.length 0 lo)
theorem cut_nD(ns:List Int)(lo hi:Option Int):rD (nD ns) lo hi=nD (rC ns lo hi):=by
 unfold rD rC;rw [B9,nD,nD,List.map_take,List.map_drop]
theorem so{n d:Nat}{i:Int}(h:0<=i):HT.sIx n d (some i)<=i.toNat:=by
 unfold HT.sIx;simp
 split<;>omega
theorem Be{ns:List Int}{lo:Option Int}{j:Int}(h:0<=j):(rC ns lo (some j)).length<=j.toNat:=by
 unfold rC;rw [DA];have:=so (n:=ns.length) (d:=ns.length) h;omega
theorem rj{ns:List Int}{i j:Int}:A0 i j [.klst (nD ns)]=some (.lst (nD (rC ns (some i) (some j))),true):=by
 show some (D.lst (rD (nD ns) _ _),true)=_
 rw [cut_nD]
theorem tw{ns:List Int}{a i j:Int}(h:0<=j)(h2:j < 100):aE [.lst [.int a],.lst (nD (rC ns (some i) (some j)))]=some (.lst (nD (a::rC ns (some i) (some j))),true):=tq (by have:=Be (ns:=ns) (lo:=some i) h;omega)
structure Pn where
 a:Int
 f:Int
 s:Int
abbrev pD(P:Pn):D:=vp P.a P.f P.s
theorem kY(P:Pn)(m:Int):∃ q:Int×Pn,(0 < m->m < 1073741824->az [pD P,.int m]=some (.ok (.int q.1) false,pD q.2))/\(0 < m->m < 1073741824->0<=q.1/\q.1 < m):=by
 by_cases h:0 < m/\m < 1073741824
 ·obtain ⟨r,a,f,s,e,h1,h2⟩:=yK P.a P.f P.s m h.1 h.2
  exact ⟨(r,⟨a,f,s⟩),fun _ _=>e,fun _ _=>⟨h1,h2⟩⟩
 ·exact ⟨(0,P),fun a b=>absurd ⟨a,b⟩ h,fun a b=>absurd ⟨a,b⟩ h⟩
noncomputable def dr(P:Pn)(m:Int):Int:=(Classical.choose (kY P m)).1
noncomputable def nx(P:Pn)(m:Int):Pn:=(Classical.choose (kY P m)).2
theorem tDraw{P:Pn}{m:Int}(h:0 < m)(h2:m < 1073741824):az [pD P,.int m]=some (.ok (.int (dr P m)) false,pD (nx P m)):=(Classical.choose_spec (kY P m)).1 h h2
theorem kg(P:Pn){m:Int}(h:0 < m)(h2:m < 1073741824):0<=dr P m/\dr P m < m:=(Classical.choose_spec (kY P m)).2 h h2
theorem xw(c:Int):∃ P:Pn,bH [.int c]=some (.ok (pD P) true,.non):=by
 obtain ⟨a,f,s,e⟩:=A9 c;exact ⟨⟨a,f,s⟩,e⟩
noncomputable def pen0(c:Int):Pn:=Classical.choose (xw c)
theorem tPen{c:Int}:bH [.int c]=some (.ok (pD (pen0 c)) true,.non):=Classical.choose_spec (xw c)
noncomputable def yU(ns:List Int)(k:Nat):Int:=Classical.choose (rm ns k)
theorem tCell{ns:List Int}{k:Nat}:bc [.klst (nD ns),.int k]=some (.ok (.int (yU ns k)) false,.non):=Classical.choose_spec (rm ns k)
theorem tCell0{ns:List Int}:bc [.klst (nD ns),.int 0]=some (.ok (.int (yU ns 0)) false,.non):=tCell (k:=0)
end L2
namespace L2
open PySem PySem.Spec PyProof.Rows
section
variable{K:EG}{F:Fx}{σ:St}{H H1 H2:Hp}{ρ:Rho}{W:List Addr}{p:Addr}
end
def sCallT(run:FS)(f:SE)(as:List Arg):SE:=fun ρ=>match f ρ with
 | some (.ok d true,ρ1)=>match evA as ρ1 with
  | some (.ok ds,ρ2)=>if bT none 0 as ρ2=true then
   match run (d::ds) with
   | some (.ok r nw,_)=>some (.ok r nw,ρ2)
   | some (.ex C,_)=>some (.ex C,ρ2)
   | none=>none
   else none
  | _=>none
 | some (.ok _ false,_)=>none
 | some (.ex C,ρ1)=>some (.ex C,ρ1)
 | none=>none
section
variable{X:Cx}{EX:EXT}{e:Expr}{es:List Expr}{as:List Arg}
end
def constK:Key->Const
 | .inl i=> .int i
 | .inr x=> .str x
inductive JP(X:Cx)(EX:EXT)(pos:Pos):List (Option Expr)->List Expr->List Key->List SE->Prop where
 | nil:JP X EX pos [] [] [] []
 | cons {k:Key} {j:Nat} {p:Pos} {e:Expr} {f:SE} {es:List (Option Expr)} {vs:List Expr} {ks:List Key} {fs:List SE} (h:JE X EX e f) (t:JP X EX pos es vs ks fs):JP X EX pos (some (.Constant (constK k) j p)::es) (e::vs) (k::ks) (f::fs)
def prT(K:EG)(EX:EXT):List Key->List SE->List (TE×TE)
 | k::ks,f::fs=>(tC (kV k),tV K EX f)::prT K EX ks fs
 | _,_=>[]
def FzM(P:Program)(w:World)(K:EG)(a:Addr)(kvs:List (Key×V)):Prop :=
 (a == sysModules)=false/\∃ (o:Obj) (es:Array DictEntry) (ep:Nat) (vs:List (Key×Value)),K.lookup a=some o/\o.ExactDict/\o.data = .dict es ep /\
   KeysOf (aX P w) es/\Pairs (aX P w) es.toList vs/\(vs.map (·.1)).Nodup/\KV kvs vs
structure uU(w:World)(K:EG)(mg:Str->Option Value)(n:Str)(ks:List Key)(ds:List D):Prop where
 ex:∃ a xs,mg n=some (.ref a)/\ks.length=xs.length/\(∀ P,FzM P w K a (ks.zip xs))/\∀ H,ag K H ds xs
def oh(ks:List Key)(ds:List D):List D->Option (D×Bool)
 | [d]=>match fN d with
  | some k=>match br ks ds k with
   | some d=>some (d,false)
   | none=>none
  | none=>none
 | _=>none
def A7(ks:List Key)(ds:List D)(neg:Bool):List D->Option (D×Bool)
 | [d]=>match fN d with
  | some k=>some (.bl (if neg then !(br ks ds k).isSome else (br ks ds k).isSome),false)
  | none=>none
 | _=>none
section
variable{X:Cx}{EX:EXT}{i:Expr}{pos p:Pos}{y:Arg}{n:Str}{ks:List Key}{ds:List D}
theorem FzM.dict{pins:List (Addr×Obj)}{σ:St}{H:Hp}{s:Shared}{a:Addr}{kvs:List (Key×V)}(h:FzM X.prog X.w X.K a kvs)(I:Inv X pins σ H s):∃ vs,KV kvs vs/\s.heap.DictOf (aX X.prog X.w) a vs:=by
 obtain ⟨_,ob,es,ep,vs,h1,h2,h3,h4,h5,h6,h7⟩:=h;exact ⟨vs,h7,ob,es,ep,I.kIn a ob h1,h2,h3,h4,h5,h6⟩
def tMGet(X:Cx)(td ty:TE):TE:=fun σ H Q=>td σ H fun x H1=>ty σ H1 fun y H2=>∃ a kvs k v,x = .ref a/\y=kV k/\FzM X.prog X.w X.K a kvs/\dG kvs k=some v/\Q v H2
def tMIn(X:Cx)(neg:Bool)(ty td:TE):TE:=fun σ H Q=>ty σ H fun y H1=>td σ H1 fun x H2=>∃ a kvs k,x = .ref a/\y=kV k/\FzM X.prog X.w X.K a kvs/\Q (.bl (if neg then !(dG kvs k).isSome else (dG kvs k).isSome)) H2
theorem Ax{o:Expr}{td ty:TE}(ho:PE X o td)(hi:PE X i ty)(hs:NoSl i):PE X (.Subscript o i pos) (tMGet X td ty):=by
 intro pins s σ H Q I h;refine zI PySem.F.slot_dict_getitem.lookup hs (thn (ho pins s σ H _ I h) fun u s1 ⟨x,H1,I1,rx,q1⟩=>thn (hi pins s1 σ H1 _ I1 q1) fun iv s2 ⟨y,H2,I2,ry,a,kvs,j,v,ex,ey,g,e,q2⟩=> ?_);subst ex;subst ey;obtain rfl:u=Value.ref a:=rx;obtain ⟨vs,rel,dd⟩:=g.dict I2;obtain ⟨w',hw,rw'⟩:=pV.some_of (v:=v) (o:=valueAt vs j) (by rw [<- e];exact rel.val j);exact ⟨dd.typeIs,wpAny_getItem_of (n5 ry) dd.mapOf hw ⟨v,H2,I2.tok _,rw',q2⟩⟩
theorem pc_min{neg:Bool}{o:Expr}{td ty:TE}(hi:PE X i ty)(ho:PE X o td):PC X (if neg then .NotIn else .In) i o (tMIn X neg ty td):=by
 intro pins s σ H Q I h
 refine thn (hi pins s σ H _ I h) fun iv s1 ⟨y,H1,I1,ry,q1⟩=>thn (ho pins s1 σ H1 _ I1 q1) fun u s2 ⟨x,H2,I2,rx,a,kvs,k,ex,ey,g,q2⟩=> ?_
 subst ex;subst ey;obtain rfl:u=Value.ref a:=rx;obtain ⟨vs,rel,dd⟩:=g.dict I2
 cases neg with
 | false =>
  refine wpAny_in_of (n5 ry) g.1 dd.mapOf ⟨.bl (dG kvs k).isSome,H2,I2.tok _,?_,q2⟩;rw [(rel.val k).isSome_eq];rfl
 | true =>
  refine wpAny_notIn_of (n5 ry) g.1 dd.mapOf ⟨.bl (!(dG kvs k).isSome),H2,I2.tok _,?_,q2⟩;rw [(rel.val k).isSome_eq];rfl
theorem mf{K:EG}{H Hh:Hp}{d:D}{v:V}{k:Key}(e:fN d=some k)(r:fS K H Hh d v):v=kV k:=by
 cases d<;>first | (unfold fN at e;cases e;done) | (unfold fN at e;cases e;exact r)
theorem c_kget(M:uU X.w X.K X.mg n ks ds)(hg:Gl X n)(hi:JB X EX i y)(hd:(n == ("__debug__" : Str))=false:=by decide)(hs:NoSl i:=by exact fun _ _=>rfl):JE X EX (.Subscript (.Name n p) i pos) (sOp (oh ks ds) [y]):=by
 obtain ⟨a,xs,hm,hl,fz,rep⟩:=M.ex;refine ⟨(Ax (kW (v:= .ref a) hg hm rfl hd) hi.p hs).by fun σ H Q ⟨F,ρ,W,R,h⟩=> ?_⟩
 have os:OpS X.K (r1 fun yv H2 Q=>∃ a' kvs k v,V.ref a = .ref a'/\yv=kV k/\FzM X.prog X.w X.K a' kvs/\dG kvs k=some v/\Q v H2) (oh ks ds):=by
  intro vs ds' H L Q d nw hm r e q;unfold oh at e
  split at e
  ·obtain ⟨v,rfl,rb⟩:=aC r
   split at e
   ·rename_i k ek
    split at e
    ·rename_i d' ed
     cases e;obtain ⟨v',h1,h2⟩:=(e7 (x:=k) hl (rep (hid L H))).1 _ ed;exact ⟨a,_,k,v',rfl,mf ek rb,fz _,h1,q v' H (ac.refl _) h2⟩
    ·cases e
   ·cases e
  ·cases e
 exact cu os R h
theorem AU{neg:Bool}{a:Addr}{xs:List V}(hl:ks.length=xs.length)(fz:∀ P,FzM P X.w X.K a (ks.zip xs))(rep:∀ H,ag X.K H ds xs):OpS X.K (r1 fun yv H2 Q=>∃ a' kvs k,V.ref a = .ref a'/\yv=kV k/\FzM X.prog X.w X.K a' kvs/\Q (.bl (if neg then !(dG kvs k).isSome else (dG kvs k).isSome)) H2) (A7 ks ds neg):=by
 intro vs ds' H L Q d nw hm r e q;unfold A7 at e
 split at e
 ·obtain ⟨v,rfl,rb⟩:=aC r
  split at e
  ·rename_i k ek
   cases e;refine ⟨a,_,k,rfl,mf ek rb,fz _,q _ H (ac.refl _) ?_⟩;have l:=e7 (x:=k) hl (rep (hid L H))
   have e2:(dG (ks.zip xs) k).isSome=(br ks ds k).isSome:=by
    cases h:br ks ds k with
    | none=>rw [l.2 h];rfl
    | some d=>obtain ⟨v',h1,_⟩:=l.1 d h;rw [h1];rfl
   show V.bl _ = .bl _
   rw [e2]
  ·cases e
 ·cases e
theorem t_kin{neg:Bool}(M:uU X.w X.K X.mg n ks ds)(hg:Gl X n)(hi:JB X EX i y)(hm2:behindInMarks (if neg then .NotIn else .In) (.Name n p)=false)(hd:(n == ("__debug__" : Str))=false:=by decide):JT X EX (.Compare i [if neg then .NotIn else .In] [.Name n p] pos) (aH (A7 ks ds neg) [y]):=by
 obtain ⟨a,xs,hm,hl,fz,rep⟩:=M.ex;exact ⟨(pt_cmp (pc_min (neg:=neg) hi.p (kW (v:= .ref a) hg hm rfl hd)) hm2).by fun σ H Q ⟨F,ρ,W,R,h⟩=>cu (AU hl fz rep) R (B3 h)⟩
end
theorem fzM_of{w:World}{K:EG}{a:Addr}{ep:Nat}(xs:List (Str×Tok×Addr))(nd:(a == sysModules)=false)(l:K.lookup a=some ⟨.type "dict",none,.dict (xs.map fun x=>(⟨PyData.keyHash w.params x.1,.str x.1 x.2.1,.ref x.2.2⟩:DictEntry)).toArray ep,#[]⟩)(ndp:(xs.map (·.1)).Nodup):∀ P,FzM P w K a (xs.map fun x=>(Sum.inr x.1,V.ref x.2.2)):=by
 intro P;refine ⟨nd,_,_,ep,xs.map fun x=>(Sum.inr x.1,Value.ref x.2.2),l,⟨rfl,rfl,rfl⟩,rfl,fun e he=> ?_,?_,?_,?_⟩
 ·have he:e∈xs.map fun x=>(⟨PyData.keyHash w.params x.1,.str x.1 x.2.1,.ref x.2.2⟩:DictEntry):=by simpa using he
  obtain ⟨x,_,rfl⟩:=CP.mp he;exact ⟨.inr x.1,em _ _ x.1 x.2.1,rfl⟩
 ·rw [List.toList_toArray]
  induction xs with
  | nil=>exact .nil
  | cons x xs ih =>
   rw [Cq,Cq];refine .cons (em _ _ x.1 x.2.1) rfl ?_;clear ih l
   have:∀ ys:List (Str×Tok×Addr),Pairs (aX P w) (ys.map fun x=>(⟨PyData.keyHash w.params x.1,.str x.1 x.2.1,.ref x.2.2⟩:DictEntry)) (ys.map fun x=>(Sum.inr x.1,Value.ref x.2.2)):=by
    intro ys
    induction ys with
    | nil=>exact .nil
    | cons y ys ih=>exact .cons (em _ _ y.1 y.2.1) rfl ih
   exact this xs
 ·rw [CK]
  have:(xs.map ((fun x:Key×Value=>x.1) ∘ fun x:Str×Tok×Addr=>((Sum.inr x.1:Key),Value.ref x.2.2)))=(xs.map (·.1)).map Sum.inr:=by rw [CK];rfl
  rw [this];refine List.Pairwise.map _ (fun a b h z=>h (Sum.inr.inj z)) ndp
 ·clear l ndp
  induction xs with
  | nil=>exact .nil
  | cons x xs ih=>exact .cons ⟨rfl,rfl⟩ ih
theorem r_zipE{ρ ρ1:Rho}{ds a b zs:List D}{fs:List SE}(h:evA (fs.map Arg.ex) ρ=some (.ok ds,ρ1))(hs:wO ds=some (a,b))(hl:a.length<=b.length)(hz:jD a b=zs):jG fs ρ=some (.ok zs,ρ1):=by rw [r_zip h hs hl,hz]
theorem Ac{f:SE}{ρ ρ1:Rho}{C:Str}(h:f ρ=some (.ex C,ρ1)):b8 f ρ=some (.ex C,ρ1):=by unfold b8;rw [h]
def Bs(o:Option (Out×Rho))(Q:D->Bool->Rho->Prop):Prop:=∃ d nw ρ',o=some (.rt d nw,ρ')/\Q d nw ρ'
section
variable{s t:SS}{p:ST}{ρ ρ1:Rho}{Q:D->Bool->Rho->Prop}{b:Bool}
theorem rq_seq(h1:s ρ=some (.nx,ρ1))(h2:Bs (t ρ1) Q):Bs (ah s t ρ) Q:=by obtain ⟨d,nw,ρ',e,q⟩:=h2;exact ⟨d,nw,ρ',wZ h1 e,q⟩
theorem rq_ret{d:D}{nw:Bool}(h:s ρ=some (.rt d nw,ρ1))(q:Q d nw ρ1):Bs (s ρ) Q:=⟨d,nw,ρ1,h,q⟩
end
def isT1:Option (Res×D)->Bool
 | some (.ok (.bl true) false,.non)=>true
 | _=>false
theorem uE{o:Option (Res×D)}(h:isT1 o=true):o=some (.ok (.bl true) false,.non):=by
 unfold isT1 at h
 split at h
 ·rfl
 ·cases h
theorem yF{a b c:List D}(h:small (a.length+b.length)=true)(e:a++b=c):aE [.lst a,.lst b]=some (.lst c,true):=by
 subst e;unfold aE;simp only [h,if_true]
theorem vP{a b c:List D}(h:small (a.length+b.length)=true)(e:a++b=c):aE [.tup a,.tup b]=some (.tup c,false):=by
 subst e;unfold aE;simp only [h,if_true]
def gLeA:List D->Option (D×Bool)
 | [.tup a,.tup b]=>match aT a,aT b with
  | some x,some y=>some (.bl (HT.BU x y),false)
  | _,_=>none
 | ds=>gLe ds
def jl:List D->Option (D×Bool)
 | [.tup a,.int k]=>if (decide (2<=k/\k<=1000000)&&small (a.length * k.toNat) && !a.isEmpty)=true then some (.tup (repL k.toNat a),false) else none
 | ds=>kN ds
def BH(K:EG):R2:=fun x y H Q=>∃ a k xs,x = .ref a/\y = .int k/\SqT K H a xs/\xs≠[]/\2<=k/\xs.length * k.toNat<=sizeLine/\∀ p H',H' p=some (.tup (List.replicate k.toNat xs).flatten)->ac H H'->Q (.ref p) H'
theorem AF{X:Cx}:OpR X (binaryOp .Mult) (BH X.K):=by
 intro pins s σ H x y v u Q I rx ry h;obtain ⟨a,k,xs,rfl,rfl,ha,ne,h1,hz,q⟩:=h;cases rx;obtain ⟨t,rfl⟩:=ry;obtain ⟨its,r,⟨⟨cls,dd,data,sl⟩,e,c,n,d⟩,_⟩:=I.tuple ha;dsimp only at c d;subst c d
 have hne:its.toArray.isEmpty=false:=by
  cases r with
  | nil=>exact absurd rfl ne
  | cons _ _=>rfl
 refine wpAny_binaryOp_repeat_ref (T := "tuple") (U := "int") (by decide) ⟨_,e,rfl⟩ (fun s'=>typeIs_int s' k t) sP F.fills_int_mul F.slot_int_rmul sx F.slot_int_index.lookup
  (call_meets F.slot_int_rmul (typeIs_int s k t) F.entry_int_rmul (F.args_int_rmul_2 _ _) (wU k t a its.toArray n dd sl) ⟨e,rfl,⟨_,e,rfl⟩,?_⟩)
 have hl:its.toArray.size * k.toNat<=sizeLine:=by rw [Cb,<- r.length];exact hz
 refine call_meets F.slot_tuple_mul ⟨_,e,rfl⟩ F.entry_tuple_mul (F.args_tuple_mul_2 _ _) (xT a its.toArray n dd sl k t (by omega) hl hne) ⟨e,?_⟩;have f0:=gY its k.toNat [];rw [CT] at f0;have f1:List.foldl (fun x1 x2=>x1++x2) #[] (List.replicate k.toNat its.toArray)=(List.replicate k.toNat its).flatten.toArray:=f0;rw [f1];have hf:H s.heap.objs.size=none:=I.hok.fresh (Ci _);refine ⟨.ref s.heap.objs.size,_,I.laid (o:= .tup (List.replicate k.toNat xs).flatten) (t':=s.toks) (fun _ _ z=>B7 _ z) (Ci _) ⟨?_,_,r.rep k.toNat,⟨_,Cd _ rfl,rfl,_,rfl⟩⟩,rfl,q _ _ aj (ac.upd hf)⟩;rw [pw,Nat.mul_comm];exact hz
section
variable{X:Cx}{EX:EXT}{a b:Expr}{x y:Arg}{pos:Pos}{K:EG}
theorem AA:OpS K (r2 fun x y H Q=>(rI wv (fun i j=> .int (i * j)) x y H Q\/Aj x y H Q)\/BH K x y H Q) jl:=by
 intro vs ds H L Q d nw hm r e q;unfold jl at e
 split at e
 ·rename_i a k
  obtain ⟨x,y,rfl,⟨p,xs,rfl,h1,h2⟩,rb⟩:=aQ r
  split at e
  ·rename_i hs
   cases e;simp only [Cv,Do] at hs;obtain ⟨⟨⟨k1,k2⟩,sm⟩,ne⟩:=hs;refine .inr ⟨p,k,xs,rfl,rb,.inl (.inl (ao h1).2),fun z=> ?_,k1,?_,fun p' H' hp' s=>q _ _ s (gS hm (lM k.toNat h2) s hp')⟩
   ·have:=h2.len
    rw [z] at this
    cases a with
    | nil=>cases ne
    | cons _ _=>simp at this
   ·rw [<- h2.len]
    exact eR sm
  ·cases e
 ·obtain z:=xL vs ds H L Q d nw hm r e q
  match vs,z with
  | [x,y],z=>exact .inl z
theorem b_mulA(ha:JB X EX a x)(hb:JB X EX b y):JE X EX (.BinOp a .Mult b pos) (sOp jl [x,y]):=tU (uv.or AF) AA ha hb
end
section
variable{P:Program}{w:World}{K:EG}{mg:Str->Option Value}{base:Heap}{x:Str}{st:Stmt}{N ps:List Str}{k:Nat}{io:Option Nat}{body:SS}
theorem AY{f:Addr}{cdv:Value}{A:Around}{outer:List Env}{s:Shared}{H:Hp}{E:XK}{c:Nat}(h:c<=10)(hr:cf k (A.deeper (envOfC x (aa st) s.heap.objs.size f cdv))):(bN (CXr P w) P w K mg base N x (aa st) f cdv A outer s H E).A.units+c < cLine:=by
 have:=hr.units
 show (A.deeper _).units+c < cLine
 omega
theorem ay(h:Has K mg x st ps)(S:cR N ps (aa st))
 (hb:∀ (f:Addr) (cdv:Value) (A:Around) (outer:List Env) (s:Shared) (H:Hp) (E:XK),cf k (A.deeper (envOfC x (aa st) s.heap.objs.size f cdv))->N.Nodup ->
   (bN (CXr P w) P w K mg base N x (aa st) f cdv A outer s H E).A.units+10 < cLine->(bN (CXr P w) P w K mg base N x (aa st) f cdv A outer s H E).A.units+1 < cLine ->
   JSs (bN (CXr P w) P w K mg base N x (aa st) f cdv A outer s H E) (EXf K E) (bA st) body) (hps:ps.length<=N.length:=by decide):OkX P w K mg base x ps (k+1) (spF K io (ai ps.length N.length io body)) :=
 fn_ok h S (fun f cdv A outer s H E hr=>hb f cdv A outer s H E hr S.nd (AY (by decide) hr) (AY (by decide) hr)) hps
theorem fn_okV{f0:Addr}{fd0:FuncData}(h:Fun K x x st f0 fd0)(S:cR N ps (aa st))
 (hb:∀ (f:Addr) (cdv:Value) (A:Around) (outer:List Env) (s:Shared) (H:Hp) (E:XK),cf k (A.deeper (envOfC x (aa st) s.heap.objs.size f cdv))->N.Nodup ->
   (bN (CXr P w) P w K mg base N x (aa st) f cdv A outer s H E).A.units+10 < cLine->(bN (CXr P w) P w K mg base N x (aa st) f cdv A outer s H E).A.units+1 < cLine ->
   JSs (bN (CXr P w) P w K mg base N x (aa st) f cdv A outer s H E) (EXf K E) (bA st) body) (hps:ps.length<=N.length:=by decide):mQ P w K mg base (CXr P w) (k+1) f0 fd0 ps (spF K io (ai ps.length N.length io body)) :=
 yH h S (fun f cdv A outer s H E hr=>hb f cdv A outer s H E hr S.nd (AY (by decide) hr) (AY (by decide) hr)) hps
end
theorem nd_k{l:List Str}(h:decide l.Nodup=true):l.Nodup:=Cn h
abbrev OkY(x:Str)(ps:List Str)(k:Nat)(io:Option Nat)(f:FS)(P:Program)(w:World)(K:EG)(mg:Str->Option Value)(base:Heap):Prop:=OkX P w K mg base x ps k (spF K io f)
structure cQ(K:EG)(mg:Str->Option Value)(base:Heap)(x:Str):Prop where
 ex:∃ C bm B newId initId,OwnCls x C bm newId mg base/\ExcBaseFacts B newId initId bm/\gE K x C
theorem qo{P:Program}{w:World}{K:EG}{mg:Str->Option Value}{base:Heap}{N:List Str}{qual:Str}{scope:Scope}{f:Addr}{cd:Value}{A:Around}{outer:List Env}{s:Shared}{H:Hp}{E:XK}{x:Str}{np cpos pos:Pos}{k:Nat}
 (O:cQ K mg base x) (hr:cf k (A.deeper (envOfC qual scope s.heap.objs.size f cd)))
 (hg:Gl (bN (CXr P w) P w K mg base N qual scope f cd A outer s H E) x) (hd:(x == ("__debug__" : Str))=false:=by decide):JS (bN (CXr P w) P w K mg base N qual scope f cd A outer s H E) (EXf K E) (.Raise (some (.Call (.Name x np) [] [] cpos)) none pos) (eN x):=by
 obtain ⟨C,bm,B,nI,iI,h1,h2,h3⟩:=O.ex;exact zQ h1 h2 h3 hr hg hd
section
variable{X:Cx}{EX:EXT}{e i1 i2:Expr}{pos pos1 pos2 tpos p1 p2:Pos}{n:Str}{j k:Nat}{f f1 f2:SE}
end
section
variable{X:Cx}{EX:EXT}{a b:Expr}{x y:Arg}{pos:Pos}
end
end L2
namespace L2
open PyProof.Rows
theorem fV:∀ {a b:List Int},a.Pairwise (·<= ·)->b.Pairwise (·<= ·)->a.Perm b->a=b
 | [],b,_,_,p=>by rw [p.nil_eq]
 | x::a,[],_,_,p=>absurd p.symm.nil_eq (by simp)
 | x::a,y::b,ha,hb,p=>by
  have ha':=CY.mp ha;have hb':=CY.mp hb
  have e:x=y:=by
   have h1:x∈y::b:=p.mem_iff.mp Ck;have h2:y∈x::a:=p.mem_iff.mpr Ck
   rcases List.mem_cons.mp h1 with h | h
   ·exact h
   ·rcases List.mem_cons.mp h2 with g | g
    ·exact g.symm
    ·have:=hb'.1 x h
     have:=ha'.1 y g;omega
  subst e;rw [fV ha'.2 hb'.2 (List.Perm.cons_inv p)]
theorem lK(lo:Int):∀ n,(rgI lo n).Pairwise (·<= ·)
 | 0=>List.Pairwise.nil
 | n+1=>by
  rw [cX,List.pairwise_append];refine ⟨lK lo n,List.pairwise_singleton _ _,fun a ha b hb=> ?_⟩;rw [CF.mp hb];have:=aK.mp ha;omega
theorem be(lo:Int):∀ n,(rgI lo n).Nodup
 | 0=>Eo
 | n+1=>by
  rw [cX,Em];refine ⟨be lo n,List.pairwise_singleton _ _,fun a ha b hb=> ?_⟩;rw [CF.mp hb];have:=aK.mp ha;omega
theorem kR(lo:Int)(m:Nat):∀ n,rgI lo (m+n)=rgI lo m++rgI (lo+(m:Nat)) n
 | 0=>by simp [rgI]
 | n+1=>by
  rw [<- Nat.add_assoc,cX,kR lo m n,cX,DH]
  congr 3
  omega
theorem nj{l m:List Int}(h:l.Perm m)(hm:m.Pairwise (·<= ·)):cZ l=m:=fV (ft l) hm ((fu l).trans h)
theorem jP{l:List Int}{lo:Int}{n:Nat}(h:l.Perm (rgI lo n)):cZ l=rgI lo n:=nj h (lK lo n)
theorem ki:∀ (l acc:List Int),(l++acc).Nodup->(l.foldl step_dedup acc).length=acc.length+l.length
 | [],acc,_=>rfl
 | x::l,acc,h=>by
  have h':=CS.mp h
  have e:(step_dedup acc x).length=acc.length+1/\(step_dedup acc x).Perm (x::acc):=by
   unfold step_dedup;rw [if_neg]
   ·exact ⟨by simp,by first | exact List.Perm.refl _ | exact List.perm_append_singleton x acc⟩
   ·intro z
    refine h'.1 (Ch _ ?_)
    first
     | (obtain ⟨y,hy,e⟩:=List.any_eq_true.mp z;rw [<- eq_of_beq e];exact hy)
     | simpa using z
  have nd:(l++step_dedup acc x).Nodup:=by
   refine ((List.Perm.append_left l e.2).trans ?_).nodup_iff.mpr h;exact List.perm_middle
  rw [List.foldl_cons,ki l _ nd,e.1,Cc];omega
theorem js{l:List Int}(h:l.Nodup):(dd l).length=l.length:=by
 have:=ki l [] (by simpa using h);unfold dd;simpa using this
theorem qG{l:List Int}{lo:Int}{n:Nat}(nd:l.Nodup)(hl:l.length=n)(hb:∀ x∈l,lo<=x/\x < lo+n):l.Perm (rgI lo n):=by
 refine (List.perm_ext_iff_of_nodup nd (be lo n)).mpr fun a=>⟨fun ha=>aK.mpr (hb a ha),fun ha=> ?_⟩
 by_cases h:a∈l
 ·exact h
 ·have sub:(a::l) ⊆ rgI lo n:=fun x hx=>by
   rcases List.mem_cons.mp hx with rfl | hx
   ·exact ha
   ·exact aK.mpr (hb x hx)
  have:=List.Nodup.length_le_of_subset (CS.mpr ⟨h,nd⟩) sub;rw [Cc,av] at this;omega
end L2
namespace L2
def dnI(hi:Int)(n:Nat):List Int:=(List.range n).map fun k=>hi - (k:Nat)
theorem jr(hi:Int)(n:Nat):(dnI hi n).length=n:=by unfold dnI;simp
theorem yO(hi:Int)(n:Nat):dnI hi (n+1)=hi::dnI (hi - 1) n:=by
 unfold dnI;rw [List.range_succ_eq_map,Cq,CK]
 congr 1
 ·simp
 ·refine CO fun k _=> ?_
  show hi - ((k+1:Nat):Int)=hi - 1 - (k:Nat)
  omega
theorem jp(hi:Int)(n:Nat):dnI hi (n+1)=dnI hi n++[hi - (n:Nat)]:=by unfold dnI;rw [List.range_succ,Dy];rfl
theorem uL(hi:Int)(m:Nat):∀ n,dnI hi (m+n)=dnI hi m++dnI (hi - (m:Nat)) n
 | 0=>by simp [dnI]
 | n+1=>by
  rw [<- Nat.add_assoc,jp,uL hi m n,jp,DH]
  congr 3
  omega
theorem jq(hi:Int):∀ n:Nat,(dnI hi n).Perm (rgI (hi - (n:Nat)+1) n)
 | 0=>List.Perm.refl _
 | n+1=>by
  rw [jp,ja];refine (List.perm_append_singleton _ _).trans ?_
  have e:hi - ((n+1:Nat):Int)+1=hi - (n:Nat):=by omega
  rw [e];exact (jq hi n).cons _
theorem dnI_at{hi:Int}{n i:Nat}(h:i < n):(dnI hi n)[i]?=some (hi - (i:Nat)):=by
 unfold dnI;rw [Cw,List.getElem?_range h];rfl
def rem(legs:List Nat):Nat:=legs.sum+legs.length - 1
def cS(b:Bool)(lo hi:Int):List Nat->List Int
 | []=>[]
 | l::r=>if r=[] then [] else if b then (hi - l)::cS false lo (hi - l - 1) r else (lo+l)::cS true (lo+l+1) hi r
def cL(b:Bool)(lo hi:Int):List Nat->List Int
 | []=>[]
 | l::r=>if b then dnI hi l++cL false lo (hi - l - 1) r else rgI lo l++cL true (lo+l+1) hi r
def cP(b:Bool)(lo hi:Int):List Nat->Int
 | []=>lo - 1
 | l::r=>if r=[] then (if b then lo - 1 else lo+l - 1) else if b then cP false lo (hi - l - 1) r else cP true (lo+l+1) hi r
def cT(k fr:Int):List Nat->List (Int×Int)
 | []=>[]
 | l::r=>(rgI fr l).map (fun x=>(k,x))++(if r=[] then [] else (k,k+1)::cT (k+1) (fr+l) r)
theorem lN{l:Nat}{r:List Nat}(h:r≠[]):rem (l::r)=l+1+rem r:=by
 unfold rem;have:=Cy.mpr h;rw [DB,Cc];omega
theorem kS{l:Nat}:rem [l]=l:=by unfold rem;simp
theorem mF:∀ (legs:List Nat) (b:Bool) (lo hi:Int),(cS b lo hi legs).length=legs.length - 1
 | [],_,_,_=>rfl
 | l::r,b,lo,hi=>by
  unfold cS
  split
  ·rename_i h;rw [h];rfl
  ·rename_i h
   have:=Cy.mpr h
   split
   ·rw [Cc,mF r,Cc];omega
   ·rw [Cc,mF r,Cc];omega
theorem mD:∀ (legs:List Nat) (b:Bool) (lo hi:Int),legs≠[]->hi - lo+1=(rem legs:Nat)->(cS b lo hi legs++cL b lo hi legs).Perm (rgI lo (rem legs))
 | [],_,_,_,h,_=>absurd rfl h
 | l::r,b,lo,hi,_,e=>by
  by_cases hr:r=[]
  ·subst hr
   rw [kS] at e ⊢;unfold cS cL;rw [if_pos rfl,CT]
   show (if b=true then dnI hi l++[] else rgI lo l++[]).Perm _
   split
   ·rw [CU]
    have:=jq hi l;rw [show hi - (l:Nat)+1=lo by omega] at this;exact this
   ·rw [CU]
  ·rw [lN hr] at e ⊢
   unfold cS cL;rw [if_neg hr]
   cases b with
   | true =>
    have ih:=mD r false lo (hi - l - 1) hr (by omega)
    show (((hi - l)::cS false lo (hi - l - 1) r)++(dnI hi l++cL false lo (hi - l - 1) r)).Perm _
    have p1:(((hi - l)::cS false lo (hi - l - 1) r)++(dnI hi l++cL false lo (hi - l - 1) r)).Perm ((dnI hi l++[hi - l])++(cS false lo (hi - l - 1) r++cL false lo (hi - l - 1) r)):=by
     rw [DM];intro a;simp only [List.count_append,List.count_cons,List.count_nil];omega
    refine p1.trans ?_;rw [show l+1+rem r=rem r+(l+1) by omega,kR,<- jp];have p2:=jq hi (l+1);rw [show hi - ((l+1:Nat):Int)+1=lo+(rem r:Nat) by omega] at p2;exact (List.Perm.append p2 ih).trans List.perm_append_comm
   | false =>
    have ih:=mD r true (lo+l+1) hi hr (by omega)
    show (((lo+l)::cS true (lo+l+1) hi r)++(rgI lo l++cL true (lo+l+1) hi r)).Perm _
    have p1:(((lo+l)::cS true (lo+l+1) hi r)++(rgI lo l++cL true (lo+l+1) hi r)).Perm ((rgI lo l++[lo+l])++(cS true (lo+l+1) hi r++cL true (lo+l+1) hi r)):=by
     rw [DM];intro a;simp only [List.count_append,List.count_cons,List.count_nil];omega
    refine p1.trans ?_;rw [kR,<- cX,show lo+((l+1:Nat):Int)=lo+l+1 by omega];exact List.Perm.append_left _ ih
theorem uS:∀ (legs:List Nat) (b:Bool) (lo hi:Int),legs≠[]->hi - lo+1=(rem legs:Nat)->lo - 1<=cP b lo hi legs/\cP b lo hi legs<=hi
 | [],_,_,_,h,_=>absurd rfl h
 | l::r,b,lo,hi,_,e=>by
  by_cases hr:r=[]
  ·subst hr
   rw [kS] at e;unfold cP;rw [if_pos rfl]
   split<;>omega
  ·rw [lN hr] at e
   unfold cP;rw [if_neg hr]
   split
   ·have:=uS r false lo (hi - l - 1) hr (by omega)
    omega
   ·have:=uS r true (lo+l+1) hi hr (by omega)
    omega
theorem ot(N:Int->Int):∀ (legs:List Nat) (b:Bool) (lo hi k fr:Int),legs≠[]->hi - lo+1=(rem legs:Nat)->N k=(if b then lo - 1 else hi+1) ->
 (∀ (j:Nat) x,(cS b lo hi legs)[j]?=some x->N (k+1+j)=x)->(∀ (j:Nat) x,(cL b lo hi legs)[j]?=some x->N (fr+j)=x) ->
 (cT k fr legs).map (fun t=>((N t.1 - N t.2).natAbs:Int))=dnI (rem legs:Nat) (rem legs)/\∀ t∈cT k fr legs,min (N t.1) (N t.2)<=cP b lo hi legs/\cP b lo hi legs < max (N t.1) (N t.2)
 | [],_,_,_,_,_,h,_,_,_,_=>absurd rfl h
 | l::r,b,lo,hi,k,fr,_,e,hk,hs,hl=>by
  have legN:∀ j:Nat,j < l->N (fr+j)=if b then hi - j else lo+j:=fun j hj=>by
   refine hl j _ ?_;unfold cL
   cases b with
   | true=>show (dnI hi l++_)[j]?=_;rw [CA (by rw [jr];exact hj),dnI_at hj];rfl
   | false=>show (rgI lo l++_)[j]?=_;rw [CA (by rw [av];exact hj),rgI_at hj];rfl
  have here:((rgI fr l).map (fun x=>(k,x))).map (fun t=>((N t.1 - N t.2).natAbs:Int))=dnI (rem (l::r):Nat) l:=by
   unfold rgI dnI;rw [CK,CK]
   refine CO fun j hj=> ?_
   have hj:=CN.mp hj
   show ((N k - N (fr+(j:Nat))).natAbs:Int)=_
   rw [hk,legN j hj]
   have:l<=rem (l::r):=by unfold rem;rw [DB,Cc];omega
   split<;>omega
  have bnd:=uS (l::r) b lo hi (by simp) e
  by_cases hr:r=[]
  ·subst hr
   refine ⟨?_,?_⟩
   ·unfold cT
    rw [if_pos rfl,CU,here,kS]
   ·intro t ht
    unfold cT at ht;rw [if_pos rfl,CU] at ht;obtain ⟨x,hx,rfl⟩:=CP.mp ht;obtain ⟨h1,h2⟩:=aK.mp hx;have hx2:=legN (x - fr).toNat (by omega);rw [show fr+((x - fr).toNat:Nat)=x by omega] at hx2;rw [kS] at e
    show min (N k) (N x)<=_/\_ < max (N k) (N x)
    rw [hk,hx2];unfold cP;rw [if_pos rfl]
    split<;>omega
  ·have er:=lN (l:=l) hr
   have nxt:N (k+1)=if b then hi - l else lo+l:=by
    have:=hs 0 (if b then hi - l else lo+l) (by
     unfold cS;rw [if_neg hr]
     cases b<;>rfl)
    simpa using this
   have ih:=ot N r (!b) (if b then lo else lo+l+1) (if b then hi - l - 1 else hi) (k+1) (fr+l) hr (by rw [er] at e;cases b<;>simp<;>omega) (by rw [nxt];cases b<;>simp<;>omega)
    (fun j x hx=>by
      have:=hs (j+1) x (by
       unfold cS;rw [if_neg hr]
       cases b<;>simpa using hx)
      rw [<- this]
      congr 1
      omega)
    (fun j x hx=>by
      have:=hl (l+j) x (by
       unfold cL
       cases b with
       | true=>show (dnI hi l++_)[l+j]?=_;rw [CZ (by rw [jr];omega),jr,Nat.add_sub_cancel_left];simpa using hx
       | false=>show (rgI lo l++_)[l+j]?=_;rw [CZ (by rw [av];omega),av,Nat.add_sub_cancel_left];simpa using hx)
      rw [<- this]
      congr 1
      omega)
   have cp:cP b lo hi (l::r)=cP (!b) (if b then lo else lo+l+1) (if b then hi - l - 1 else hi) r:=by
    conv=>lhs;unfold cP
    rw [if_neg hr];cases b<;>rfl
   refine ⟨?_,?_⟩
   ·unfold cT
    rw [if_neg hr,Dy,here,Cq,ih.1]
    show _++((N k - N (k+1)).natAbs:Int)::_=_
    rw [hk,nxt,er,show l+1+rem r=l+(rem r+1) by omega,uL,yO]
    congr 2
    ·rw [er] at e
     split<;>omega
    ·congr 1
     omega
   ·intro t ht
    unfold cT at ht;rw [if_neg hr] at ht;have bnd2:=uS r (!b) (if b then lo else lo+l+1) (if b then hi - l - 1 else hi) hr (by rw [er] at e;cases b<;>simp<;>omega);rw [cp];rw [er] at e
    rcases CI.mp ht with ht | ht
    ·obtain ⟨x,hx,rfl⟩:=CP.mp ht
     obtain ⟨h1,h2⟩:=aK.mp hx;have hx2:=legN (x - fr).toNat (by omega);rw [show fr+((x - fr).toNat:Nat)=x by omega] at hx2
     show min (N k) (N x)<=_/\_ < max (N k) (N x)
     rw [hk,hx2]
     cases b<;>simp at bnd2 ⊢ <;> omega
    ·rcases List.mem_cons.mp ht with rfl | ht
     ·show min (N k) (N (k+1))<=_/\_ < max (N k) (N (k+1))
      rw [hk,nxt]
      cases b<;>simp at bnd2 ⊢ <;> omega
     ·exact ih.2 t ht
theorem tX:∀ (legs:List Nat) (k fr:Int),legs≠[]->((cT k fr legs).map Prod.snd).Perm (rgI (k+1) (legs.length - 1)++rgI fr legs.sum)
 | [],_,_,h=>absurd rfl h
 | l::r,k,fr,_=>by
  have e0:((rgI fr l).map (fun x=>(k,x))).map Prod.snd=rgI fr l:=by rw [CK];exact (CO fun x _=>rfl).trans (List.map_id' _)
  unfold cT
  by_cases hr:r=[]
  ·subst hr
   rw [if_pos rfl,CU,e0];simp [rgI]
  ·have:=Cy.mpr hr
   rw [if_neg hr,Dy,e0,Cq,Cc,DB,kR,show r.length+1 - 1=(r.length - 1)+1 by omega,ja];have ih:=tX r (k+1) (fr+l) hr
   show (rgI fr l++(k+1)::(cT (k+1) (fr+l) r).map Prod.snd).Perm ((k+1)::rgI (k+1+1) (r.length - 1)++(rgI fr l++rgI (fr+(l:Nat)) r.sum))
   rw [DM];intro a;have:=DM.mp ih a;simp only [List.count_append,List.count_cons] at this ⊢;omega
theorem zc{legs:List Nat}(h:legs≠[])(k fr:Int):(cT k fr legs).length=rem legs:=by
 have:=(tX legs k fr h).length_eq;rw [B9,Ct,av,av] at this;have:=Cy.mpr h;unfold rem;omega
theorem tY:∀ (legs:List Nat) (k fr:Int),k+legs.length<=fr->∀ t∈cT k fr legs,k<=t.1/\t.1 < k+legs.length/\t.1 < t.2/\t.2 < fr+legs.sum
 | [],_,_,_,t,ht=>by unfold cT at ht;exact absurd ht Db
 | l::r,k,fr,hf,t,ht=>by
  rw [Cc] at hf ⊢;rw [DB];unfold cT at ht
  rcases CI.mp ht with ht | ht
  ·obtain ⟨x,hx,rfl⟩:=CP.mp ht
   obtain ⟨h1,h2⟩:=aK.mp hx
   show k<=k/\k < _/\k < x/\x < _
   omega
  ·split at ht
   ·exact absurd ht Db
   ·rename_i hr
    have:=Cy.mpr hr
    rcases List.mem_cons.mp ht with rfl | ht
    ·show k<=k/\k < _/\k < k+1/\k+1 < _
     omega
    ·have:=tY r (k+1) (fr+l) (by omega) t ht
     omega
def cN(legs:List Nat):List Int:=(0::cS true 1 (rem legs:Nat) legs)++cL true 1 (rem legs:Nat) legs
theorem uT{legs:List Nat}(h:legs≠[]):(cN legs).Perm (rgI 0 (rem legs+1)):=by
 unfold cN;rw [ja,C7];exact (mD legs true 1 _ h (by omega)).cons 0
theorem cN_len{legs:List Nat}(h:legs≠[]):(cN legs).length=rem legs+1:=by rw [(uT h).length_eq,av]
theorem uG{l:List Int}{i:Nat}{x:Int}(h:l[i]?=some x):l.getD i 0=x:=by rw [Cs,h];rfl
theorem zd{legs:List Nat}(h:legs≠[]):(cT 0 (legs.length:Nat) legs).map (fun t=>(((cN legs).getD t.1.toNat 0 - (cN legs).getD t.2.toNat 0).natAbs:Int))=dnI (rem legs:Nat) (rem legs)/\∀ t∈cT 0 (legs.length:Nat) legs,min ((cN legs).getD t.1.toNat 0) ((cN legs).getD t.2.toNat 0)<=cP true 1 (rem legs:Nat) legs/\cP true 1 (rem legs:Nat) legs < max ((cN legs).getD t.1.toNat 0) ((cN legs).getD t.2.toNat 0):=by
 have hl:=Cy.mpr h;refine ot (fun i=>(cN legs).getD i.toNat 0) legs true 1 (rem legs:Nat) 0 (legs.length:Nat) h (by omega) rfl (fun j x hx=> ?_) (fun j x hx=> ?_)
 ·refine uG ?_
  rw [show ((0:Int)+1+(j:Nat)).toNat=j+1 by omega];unfold cN;rw [CA (by rw [Cc,mF];have:=(Cm.mp hx).1;rw [mF] at this;omega),CB];exact hx
 ·refine uG ?_
  rw [show ((legs.length:Int)+(j:Nat)).toNat=legs.length+j by omega];unfold cN
  have e:(0::cS true 1 (rem legs:Nat) legs).length=legs.length:=by rw [Cc,mF];omega
  rw [CZ (by rw [e];omega),e,Nat.add_sub_cancel_left];exact hx
def rS(b:Bool)(lo hi:Int)(r:List Nat):List Int:=if r=[] then [] else if b then lo::cS true (lo+1) hi r else hi::cS false lo (hi - 1) r
def rL(b:Bool)(lo hi:Int)(r:List Nat):List Int:=if b then cL true (lo+1) hi r else cL false lo (hi - 1) r
theorem rS_t(lo hi:Int)(l:Nat)(r:List Nat):rS true lo hi (l::r)=lo::rS false (lo+1) (hi - (l:Nat)) r:=by
 unfold rS;rw [if_neg (by simp)]
 by_cases hr:r=[]
 ·subst hr;rfl
 ·rw [if_neg hr]
  show lo::cS true (lo+1) hi (l::r)=lo::((hi - (l:Nat))::cS false (lo+1) (hi - (l:Nat) - 1) r)
  rw [cS,if_neg hr];rfl
theorem rS_f(lo hi:Int)(l:Nat)(r:List Nat):rS false lo hi (l::r)=hi::rS true (lo+(l:Nat)) (hi - 1) r:=by
 unfold rS;rw [if_neg (by simp)]
 by_cases hr:r=[]
 ·subst hr;rfl
 ·rw [if_neg hr]
  show hi::cS false lo (hi - 1) (l::r)=hi::((lo+(l:Nat))::cS true (lo+(l:Nat)+1) (hi - 1) r)
  rw [cS,if_neg hr];rfl
theorem rL_t(lo hi:Int)(l:Nat)(r:List Nat):rL true lo hi (l::r)=dnI hi l++rL false (lo+1) (hi - (l:Nat)) r:=rfl
theorem rL_f(lo hi:Int)(l:Nat)(r:List Nat):rL false lo hi (l::r)=rgI lo l++rL true (lo+(l:Nat)) (hi - 1) r:=rfl
theorem B2{legs:List Nat}(h:legs≠[]):rS true 0 (rem legs:Nat) legs++rL true 0 (rem legs:Nat) legs=cN legs:=by
 unfold rS rL cN;rw [if_neg h];rfl
end L2
namespace L2
theorem cv{α β:Type}{f:α->β}:∀ {l:List α},l.Nodup->(∀ x∈l,∀ y∈l,f x=f y->x=y)->(l.map f).Nodup
 | [],_,_=>Eo
 | x::l,nd,h=>by
  have nd:=CS.mp nd;rw [Cq,CS];refine ⟨fun z=> ?_,cv nd.2 fun a ha b hb=>h a (Ce _ ha) b (Ce _ hb)⟩;obtain ⟨y,hy,e⟩:=CP.mp z;have:=h y (Ce _ hy) x Ck e;subst this;exact nd.1 hy
abbrev stG(ps:List Int)(t:Int×Int):Int:=((ps.getD t.1.toNat 0 - ps.getD t.2.toNat 0).natAbs:Nat)
structure Prt(ts:List (Int×Int))(q:Nat)(ps:List Int)(P:Int):Prop where
 p:ps.Perm (rgI 0 (q+1))
 s:(ts.map (stG ps)).Perm (rgI 1 q)
 m:∀ t∈ts,min (ps.getD t.1.toNat 0) (ps.getD t.2.toNat 0)<=P/\P < max (ps.getD t.1.toNat 0) (ps.getD t.2.toNat 0)
 r:∀ t∈ts,0<=t.1/\t.1 < (q:Int)+1/\0<=t.2/\t.2 < (q:Int)+1
 q0:0 < q
theorem Prt.len{ts:List (Int×Int)}{q:Nat}{ps:List Int}{P:Int}(h:Prt ts q ps P):ps.length=q+1:=by rw [h.p.length_eq,av]
theorem Prt.tlen{ts:List (Int×Int)}{q:Nat}{ps:List Int}{P:Int}(h:Prt ts q ps P):ts.length=q:=by have:=h.s.length_eq;rwa [B9,av] at this
theorem yn{l:List Int}{i:Nat}(h:i < l.length):l.getD i 0∈l:=by rw [Cs,B8 h];exact C6 h
theorem Prt.at{ts:List (Int×Int)}{q:Nat}{ps:List Int}{P:Int}(h:Prt ts q ps P){i:Int}(h0:0<=i)(h1:i < (q:Int)+1):0<=ps.getD i.toNat 0/\ps.getD i.toNat 0<=q:=by
 have:=aK.mp (h.p.mem_iff.mp (yn (l:=ps) (i:=i.toNat) (by rw [h.len];omega)));omega
theorem Prt.one{ts:List (Int×Int)}{q:Nat}{ps:List Int}{P:Int}(h:Prt ts q ps P):∃ t∈ts,min (ps.getD t.1.toNat 0) (ps.getD t.2.toNat 0)=P/\max (ps.getD t.1.toNat 0) (ps.getD t.2.toNat 0)=P+1:=by
 have:(1:Int)∈ts.map (stG ps):=h.s.mem_iff.mpr (aK.mpr (by have:=h.q0;omega));obtain ⟨t,ht,e⟩:=CP.mp this;have:=h.m t ht;have e:(((ps.getD t.1.toNat 0 - ps.getD t.2.toNat 0).natAbs:Nat):Int)=1:=e;exact ⟨t,ht,by omega,by omega⟩
theorem Prt.P0{ts:List (Int×Int)}{q:Nat}{ps:List Int}{P:Int}(h:Prt ts q ps P):0<=P/\P < q:=by
 obtain ⟨t,ht,e1,e2⟩:=h.one;obtain ⟨r1,r2,r3,r4⟩:=h.r t ht;have a1:=h.at r1 r2;have a2:=h.at r3 r4;omega
theorem Prt.max{ts:List (Int×Int)}{q:Nat}{ps:List Int}{P:Int}(h:Prt ts q ps P):g7 (ts.map fun t=>min (ps.getD t.1.toNat 0) (ps.getD t.2.toNat 0))=P:=by
 obtain ⟨t,ht,e1,e2⟩:=h.one
 have ne:(ts.map fun t=>min (ps.getD t.1.toNat 0) (ps.getD t.2.toNat 0))≠[]:=fun z=>by rw [List.map_eq_nil_iff] at z;rw [z] at ht;exact absurd ht Db
 obtain ⟨m1,m2⟩:=kX ne;have:=m2 P (CP.mpr ⟨t,ht,e1⟩);obtain ⟨u,hu,e⟩:=CP.mp m1;have:=h.m u hu;omega
theorem Prt.min{ts:List (Int×Int)}{q:Nat}{ps:List Int}{P:Int}(h:Prt ts q ps P):P < gx (ts.map fun t=>Max.max (ps.getD t.1.toNat 0) (ps.getD t.2.toNat 0)):=by
 obtain ⟨t,ht,e1,e2⟩:=h.one
 have ne:(ts.map fun t=>Max.max (ps.getD t.1.toNat 0) (ps.getD t.2.toNat 0))≠[]:=fun z=>by rw [List.map_eq_nil_iff] at z;rw [z] at ht;exact absurd ht Db
 obtain ⟨m1,m2⟩:=jh ne;obtain ⟨u,hu,e⟩:=CP.mp m1;have:=h.m u hu;omega
theorem Prt.unl{ts:List (Int×Int)}{q:Nat}{ps:List Int}{P:Int}(h:Prt ts q ps P):((ps.map fun i=>decide ((0:Int)<=i)&&decide (i<=(q:Nat))).all id&&decide (((dd ps).length:Int)=ps.length))=true:=by
 rw [js (h.p.nodup_iff.mpr (be _ _)),Cr rfl,Dv,List.all_map,Co];intro x hx;have:=aK.mp (h.p.mem_iff.mp hx)
 show (decide _&&decide _)=true
 rw [Cr (by omega),Cr (by omega)];rfl
theorem gX{f:Int->Int}{l:List Int}{i:Nat}(h:i < l.length):(l.map f).getD i 0=f (l.getD i 0):=by
 simp [Cs,Cw,B8 h]
theorem uQ{legs:List Nat}(h0:0 < rem legs)(h:legs≠[]):Prt (bg (cT 0 (legs.length:Nat) legs)) (rem legs) (cN legs) (cP true 1 (rem legs:Nat) legs):=by
 obtain ⟨s1,s2⟩:=zd h;have pm:=fm (cT 0 (legs.length:Nat) legs);refine ⟨uT h,(pm.map _).trans ?_,fun t ht=>s2 t (pm.mem_iff.mp ht),fun t ht=> ?_,h0⟩
 ·refine (Ei s1).trans ?_
  have:=jq (rem legs:Nat) (rem legs);rw [show ((rem legs:Nat):Int) - (rem legs:Nat)+1=1 by omega] at this;exact this
 ·have:=tY legs 0 (legs.length:Nat) (by omega) t (pm.mem_iff.mp ht)
  unfold rem;have:=Cy.mpr h;omega
end L2
namespace L2
theorem qF{a b:List (Int×Int)}(h:a.Perm b):bg a=bg b:=by
 unfold bg;rw [Srt.bo (Srt.cw _) (Srt.cw _) ((Srt.bK _).trans ((h.map _).trans (Srt.bK _).symm))]
abbrev iL(legs:List Nat):List Int:=legs.map fun (n:Nat)=>(n:Int)
theorem sd:∀ legs:List Nat,(iL legs).sum=((legs.sum:Nat):Int)
 | []=>rfl
 | l::r=>by show ((l:Nat):Int)+(iL r).sum=_;rw [sd r,DB];omega
def stT(k fr:Int):List Nat->List (Int×Int)
 | []=>[]
 | l::r=>(rgI fr l).map (fun x=>(k,x))++stT (k+1) (fr+l) r
def i9(a:Int)(n:Nat):List (Int×Int):=(rgI a n).map fun p=>(p,p+1)
theorem B1:∀ (legs:List Nat) (k fr:Int),legs≠[]->(i9 k (legs.length - 1)++stT k fr legs).Perm (cT k fr legs)
 | [],_,_,h=>absurd rfl h
 | l::r,k,fr,_=>by
  unfold cT stT
  by_cases hr:r=[]
  ·subst hr
   rw [if_pos rfl,CU];simp [i9,stT,rgI]
  ·have:=Cy.mpr hr
   rw [if_neg hr,Cc,show r.length+1 - 1=(r.length - 1)+1 by omega];have ih:=B1 r (k+1) (fr+l) hr
   have e:i9 k ((r.length - 1)+1)=(k,k+1)::i9 (k+1) (r.length - 1):=by unfold i9;rw [ja,Cq]
   rw [e];rw [DM];intro a;have:=DM.mp ih a;simp only [List.count_append,List.count_cons] at this ⊢;omega
def spT(legs:List Nat):List (Int×Int):=i9 0 (legs.length - 1)++stT 0 (legs.length:Nat) legs
theorem iZ{legs:List Nat}(h:legs≠[]):(spT legs).Perm (cT 0 (legs.length:Nat) legs):=B1 legs 0 _ h
def j8(n:Nat):List (Int×Int):=i9 0 (n - 1)++[(0,(n:Int) - 1)]
def fW(m n:Nat):List (Int×Int):=(rgI 0 m).flatMap fun p=>(rgI (m:Nat) n).map fun x=>(p,x)
structure cJ(n:Nat)(ts:List (Int×Int)):Prop where
 r:∀ t∈ts,0<=t.1/\t.1 < t.2/\t.2 < n
 d:ts.Nodup
 l:ts.length<=60
 n0:1<=n
 n:n<=40
theorem jg{α β:Type}{f:α->β}:∀ {l:List α},(l.map f).Nodup->l.Nodup
 | [],_=>Eo
 | x::l,h=>by
  rw [Cq] at h;have h:=CS.mp h;exact CS.mpr ⟨fun z=>h.1 (CP.mpr ⟨x,z,rfl⟩),jg h.2⟩
theorem cJ.perm{n:Nat}{a b:List (Int×Int)}(h:cJ n a)(p:a.Perm b):cJ n b:=⟨fun t ht=>h.r t (p.mem_iff.mpr ht),p.nodup_iff.mp h.d,by rw [<- p.length_eq];exact h.l,h.n0,h.n⟩
theorem sp_ok{legs:List Nat}(h:legs≠[])(m:legs.length+legs.sum<=40):cJ (legs.length+legs.sum) (spT legs):=by
 have hl:=Cy.mpr h;refine cJ.perm ⟨fun t ht=> ?_,?_,?_,by omega,m⟩ (iZ h).symm
 ·have:=tY legs 0 (legs.length:Nat) (by omega) t ht
  omega
 ·refine jg (f:=Prod.snd) ((tX legs 0 _ h).nodup_iff.mpr ?_)
  rw [Em];refine ⟨be _ _,be _ _,fun a ha b hb=> ?_⟩;have:=aK.mp ha;have:=aK.mp hb;omega
 ·rw [zc h];unfold rem;omega
def kO(n:Nat)(ts:List (Int×Int)):Bool:=ts.all (fun t=>decide (0<=t.1)&&decide (t.1 < t.2)&&decide (t.2 < (n:Int)))&&decide ts.Nodup&&decide (ts.length<=60)&&decide (1<=n)&&decide (n<=40)
theorem jF{n:Nat}{ts:List (Int×Int)}(h:kO n ts=true):cJ n ts:=by
 unfold kO at h;simp only [Cv,Do,Co] at h;obtain ⟨⟨⟨⟨h1,h2⟩,h3⟩,h4⟩,h5⟩:=h;exact ⟨fun t ht=>⟨(h1 t ht).1.1,(h1 t ht).1.2,(h1 t ht).2⟩,h2,h3,h4,h5⟩
theorem sf(m n:Nat):(fW m n).length=m * n:=by
 have:∀ i:Nat,((rgI 0 i).flatMap fun p=>(rgI (m:Nat) n).map fun x=>(p,x)).length=i * n:=by
  intro i
  induction i with
  | zero=>simp [rgI]
  | succ i ih=>rw [cX,List.flatMap_append,Ct,ih];simp [av,Nat.add_mul]
 exact this m
theorem x8:∀ {legs:List Nat} {m:Nat},legs.sum<=m->∀ l∈legs,l<=m
 | [],_,_,_,h=>absurd h Db
 | x::r,m,hs,l,h=>by
  rw [DB] at hs
  rcases List.mem_cons.mp h with rfl | h
  ·omega
  ·exact x8 (legs:=r) (by omega) l h
theorem ux{m:Nat}:∀ (ys:List D),(∀ y∈ys,∃ n:Nat,n<=m/\y = .int (n:Nat))->∃ legs:List Nat,ys=nD (iL legs)/\legs.length=ys.length/\∀ l∈legs,l<=m
 | [],_=>⟨[],rfl,rfl,fun _ h=>absurd h Db⟩
 | y::ys,h=>by
  obtain ⟨n,hn,rfl⟩:=h _ Ck
  obtain ⟨legs,rfl,e,hl⟩:=ux ys fun y hy=>h y (Ce _ hy)
  exact ⟨n::legs,rfl,by rw [Cc,Cc,e],fun l hl'=>by
   rcases List.mem_cons.mp hl' with rfl | hl'
   ·exact hn
   ·exact hl l hl'⟩
end L2
namespace L2
def g8(m n:Nat):List (Int×Int):=(rgI 0 (m * n)).map fun k=>(k / (n:Nat),(m:Int)+k % (n:Nat))
def sdN(m n:Nat):List Int:=rgI 0 m++(rgI 0 n).map fun k=>(m:Int) * (k+1)
def sdB(m n:Nat):Bool:=decide (bg (fW m n)=g8 m n)&&decide (cZ ((g8 m n).map fun t=>max ((sdN m n).getD t.1.toNat 0) ((sdN m n).getD t.2.toNat 0) - min ((sdN m n).getD t.1.toNat 0) ((sdN m n).getD t.2.toNat 0))=rgI 1 (m * n))&&decide (g7 ((g8 m n).map fun t=>min ((sdN m n).getD t.1.toNat 0) ((sdN m n).getD t.2.toNat 0)) < gx ((g8 m n).map fun t=>max ((sdN m n).getD t.1.toNat 0) ((sdN m n).getD t.2.toNat 0)))
def BB:Bool:=(List.range 40).all fun m=>(List.range 40).all fun n=>(decide (m=0)||decide (n=0)||decide (40 < m+n)||decide (60 < m * n))||sdB m n
theorem sd_all:BB=true:=by decide +kernel
theorem sd_at{m n:Nat}(h1:1<=m)(h2:1<=n)(h3:m+n<=40)(h4:m * n<=60):sdB m n=true:=by
 have h:=sd_all;unfold BB at h;have h:=Co.mp h m (CN.mpr (by omega));have h:=Co.mp h n (CN.mpr (by omega))
 rcases (Dz _ _).mp h with h | h
 ·simp only [Dz,Do] at h
  omega
 ·exact h
theorem AS{m n:Nat}(h2:1<=n):∀ t∈g8 m n,0<=t.1/\t.1 < m/\(m:Int)<=t.2/\t.2 < (m:Int)+n:=fun t ht=>by
 obtain ⟨k,hk,rfl⟩:=CP.mp ht;have hk:=aK.mp hk;have e:((m * n:Nat):Int)=(m:Int) * n:=Int.natCast_mul m n;have h1:k / (n:Int) < m:=Int.ediv_lt_of_lt_mul (by omega) (by omega);have h3:=Int.emod_nonneg k (b:=(n:Int)) (by omega);have h4:=Int.emod_lt_of_pos k (b:=(n:Int)) (by omega);have h5:0<=k / (n:Int):=Int.ediv_nonneg (by omega) (by omega);exact ⟨h5,h1,by show (m:Int)<=m+k % n;omega,by show (m:Int)+k % n < _;omega⟩
theorem sV{m n:Nat}(h2:1<=n):(g8 m n).Nodup:=by
 refine cv (be _ _) fun x _ y _ e=> ?_
 injection e with e1 e2
 have h1:=Int.mul_ediv_add_emod x n;have h2:=Int.mul_ediv_add_emod y n;rw [e1] at h1;omega
theorem qU(m n:Nat):(g8 m n).length=m * n:=by unfold g8;rw [B9,av]
theorem ua{m n:Nat}(h1:1<=m)(h2:1<=n)(h3:m+n<=40)(h4:m * n<=60):bg (fW m n)=g8 m n/\cJ (m+n) (fW m n):=by
 have h:=sd_at h1 h2 h3 h4;unfold sdB at h;simp only [Cv,Do] at h;refine ⟨h.1.1,cJ.perm ⟨fun t ht=> ?_,sV h2,by rw [qU];exact h4,by omega,h3⟩ (by rw [<- h.1.1];exact fm _)⟩;have:=AS h2 t ht;omega
end L2
namespace L2
def zT:Bool:=(List.range 38).all fun n=>kO (n+3) (j8 (n+3))
theorem wW:zT=true:=by decide +kernel
theorem jH{n:Nat}(h1:3<=n)(h2:n<=40):kO n (j8 n)=true:=by
 have:=Co.mp wW (n - 3) (CN.mpr (by omega));rw [show n - 3+3=n by omega] at this;exact this
end L2
namespace L2
def lH(n:Nat):List Int:=(rgI 0 n).map fun p=>if decide (p % 2=0)=true then p / 2+(if decide ((n:Int) % 4=3)=true then (if decide ((n:Int) / 2<=p)=true then 1 else 0) else 0) else (n:Int) - p / 2 - (if decide ((n:Int) % 4=0)=true then (if decide ((n:Int) / 2<=p)=true then 1 else 0) else 0)
def lawR(n:Nat):List (Int×Int):=(rgI 0 n).flatMap fun one=>((rgI 0 one.toNat).filter fun other=>decide (other+1=one)||decide (one - other=(n:Int) - 1)).map fun other=>(other,one)
def cntI(n:Nat)(ts:List (Int×Int)):List Int:=(List.range n).map fun j=>((Td.nb (j:Nat) ts).length:Int)
def bV(n:Nat):List (Int×Int):=(0,1)::(0,(n:Int) - 1)::i9 1 (n - 2)
def wX(n:Nat):Bool :=
 decide (bg (j8 n)=bV n)&&decide (bg (lawR n)=bV n) &&
 (if n % 4=0\/n % 4=3 then
   decide ((dd (lH n)).length=n)&&decide (0<=gx (lH n))&&decide (g7 (lH n)<=n)&&decide (cZ ((bV n).map fun t=>max ((lH n).getD t.1.toNat 0) ((lH n).getD t.2.toNat 0) - min ((lH n).getD t.1.toNat 0) ((lH n).getD t.2.toNat 0))=rgI 1 n)
 else (cntI n (bV n)).all (fun c=>decide (c % 2=0))&&decide ((n:Int) * ((n:Int)+1) / 2 % 2=1))
def ringGo:Bool:=(List.range 38).all fun n=>wX (n+3)
theorem zR:ringGo=true:=by decide +kernel
theorem zS{n:Nat}(h1:3<=n)(h2:n<=40):wX n=true:=by
 have:=Co.mp zR (n - 3) (CN.mpr (by omega));rw [show n - 3+3=n by omega] at this;exact this
theorem lG{n:Nat}(h:3<=n):(bV n).length=n:=by unfold bV i9;simp [av];omega
theorem wV{n:Nat}(h1:3<=n)(h2:n<=40):bg (j8 n)=bV n/\bg (lawR n)=bV n:=by
 have h:=zS h1 h2;unfold wX at h;simp only [Cv,Do] at h;exact h.1
end L2
namespace L2
abbrev smT(ps:List Int)(t:Int×Int):Int:=ps.getD t.1.toNat 0+ps.getD t.2.toNat 0
structure Tot(n:Nat)(ts:List (Int×Int))(ps us:List Int)(c:Int):Prop where
 lp:ps.length=n
 lu:us.length=ts.length
 b:∀ x∈ps++us,1<=x/\x<=(n:Int)+ts.length
 d:(ps++us).Nodup
 s:∀ i,i < ts.length->smT ps (ts.getD i (0,0))+us.getD i 0=c
abbrev mr(n:Nat)(ts:List (Int×Int))(ps:List Int)(L:Int):List Int:=(ts.map (smT ps)).map fun x=>L+(n:Int)+ts.length - x
theorem uJ{c:Int}{ts:List (Int×Int)}{ps:List Int}{i:Nat}(h:i < ts.length):smT ps (ts.getD i (0,0))+((ts.map (smT ps)).map fun x=>c - x).getD i 0=c:=by
 have e:((ts.map (smT ps)).map fun x=>c - x).getD i 0=c - smT ps (ts.getD i (0,0)):=by
  rw [Cs,Cw,Cw,Cs,B8 h];rfl
 rw [e];omega
theorem uy{n:Nat}{ts:List (Int×Int)}{ps:List Int}{L:Int}(hp:ps.Perm (rgI 1 n))(hs:(ts.map (smT ps)).Perm (rgI L ts.length)):Tot n ts ps (mr n ts ps L) (L+n+ts.length):=by
 have hb:∀ x∈mr n ts ps L,(n:Int) < x/\x<=(n:Int)+ts.length:=fun x hx=>by
  obtain ⟨y,hy,rfl⟩:=CP.mp hx;have:=aK.mp (hs.mem_iff.mp hy);omega
 have ha:∀ x∈ps,1<=x/\x<=(n:Int):=fun x hx=>by
  have:=aK.mp (hp.mem_iff.mp hx);omega
 refine ⟨by rw [hp.length_eq,av],by rw [B9,B9],fun x hx=> ?_,?_,fun i hi=>uJ hi⟩
 ·rcases CI.mp hx with h | h
  ·have:=ha x h;omega
  ·have:=hb x h;omega
 ·refine Em.mpr ⟨hp.nodup_iff.mpr (be _ _),cv (hs.nodup_iff.mpr (be _ _)) fun x _ y _ e=>by omega,fun x hx y hy e=> ?_⟩
  have h1:=ha x hx;have h2:=hb y hy;omega
def upT(q P x:Int):Int:=if x<=P then x else q+P+1 - x
theorem Prt.upT_perm{ts:List (Int×Int)}{q:Nat}{ps:List Int}{P:Int}(h:Prt ts q ps P):((ps.map (upT q P)).map fun x=>x+1).Perm (rgI 1 (q+1)):=by
 have P0:=h.P0;rw [CK]
 refine qG (cv (h.p.nodup_iff.mpr (be _ _)) fun x hx y hy e=> ?_) (by rw [B9,h.len]) fun x hx=> ?_
 ·have hx:=aK.mp (h.p.mem_iff.mp hx)
  have hy:=aK.mp (h.p.mem_iff.mp hy);have e:upT q P x+1=upT q P y+1:=e;unfold upT at e
  split at e<;>split at e<;>omega
 ·obtain ⟨y,hy,rfl⟩:=CP.mp hx
  have hy:=aK.mp (h.p.mem_iff.mp hy)
  show 1<=upT q P y+1/\upT q P y+1 < 1+((q+1:Nat):Int)
  unfold upT
  split<;>omega
theorem Prt.upT_sums{ts:List (Int×Int)}{q:Nat}{ps:List Int}{P:Int}(h:Prt ts q ps P):(ts.map (smT ((ps.map (upT q P)).map fun x=>x+1))).Perm (rgI (P+3) ts.length):=by
 have P0:=h.P0;have tl:=h.tlen
 have e:(ts.map (smT ((ps.map (upT q P)).map fun x=>x+1)))=(ts.map (stG ps)).map fun s=>(q:Int)+P+3 - s:=by
  rw [CK (l:=ts)]
  refine CO fun t ht=> ?_
  obtain ⟨r1,r2,r3,r4⟩:=h.r t ht;have hl:=h.len
  show smT ((ps.map (upT q P)).map fun x=>x+1) t=(q:Int)+P+3 - (((ps.getD t.1.toNat 0 - ps.getD t.2.toNat 0).natAbs:Nat):Int)
  unfold smT;rw [gX (by rw [B9];omega),gX (by omega),gX (by rw [B9];omega),gX (by omega)];have:=h.m t ht;unfold upT
  split<;>split<;>omega
 rw [e,tl];refine (h.s.map _).trans ?_
 refine qG (cv (be _ _) fun x hx y hy z=>by omega) (by rw [B9,av]) fun x hx=> ?_
 obtain ⟨y,hy,rfl⟩:=CP.mp hx;have hy:=aK.mp hy;omega
def fM(n:Nat):List Int:=(rgI 0 n).map fun p=>if decide (p % 2=0)=true then p / 2+1 else ((n:Int)+1) / 2+p / 2+1
def uo(l:List Int)(lo:Int):Bool:=decide (cZ l=rgI lo l.length)
theorem lT{l:List Int}{lo:Int}(h:uo l lo=true):l.Perm (rgI lo l.length):=by
 have:=Cn h;rw [<- this];exact (fu l).symm
def ringO:Bool:=(List.range 38).all fun k=>k % 2 == 1||(uo (fM (k+3)) 1&&uo ((bV (k+3)).map (smT (fM (k+3)))) (((k:Int)+3+1) / 2+1))
theorem ring_o:ringO=true:=by decide +kernel
theorem vf(n:Nat):(fM n).length=n:=by unfold fM;rw [B9,av]
theorem qw{n:Nat}(h1:3<=n)(h2:n<=40)(h3:n % 2=1):(fM n).Perm (rgI 1 n)/\((bV n).map (smT (fM n))).Perm (rgI (((n:Int)+1) / 2+1) (bV n).length):=by
 have h:=Co.mp ring_o (n - 3) (CN.mpr (by omega));rw [show n - 3+3=n by omega,show ((n - 3:Nat):Int)+3+1=(n:Int)+1 by omega] at h
 rcases (Dz _ _).mp h with h | h
 ·have:(n - 3) % 2=1:=by simpa using h
  omega
 ·have ⟨a,b⟩:=(Cv _ _).mp h
  have a:=lT a;have b:=lT b;rw [vf] at a;rw [B9] at b;exact ⟨a,b⟩
def sdP(m n:Nat):List Int:=((rgI 0 m).map fun k=>((n:Int)+1) * (k+1))++rgI 1 n
abbrev sdC(m n:Nat):Int:=((m:Int)+2) * ((n:Int)+1)
abbrev sdU(m n:Nat):List Int:=((g8 m n).map (smT (sdP m n))).map fun x=>sdC m n - x
def sdT(m n:Nat):Bool:=uo (sdP m n++sdU m n) 1
def sdTA:Bool:=(List.range 40).all fun m=>(List.range 40).all fun n=>(decide (m=0)||decide (n=0)||decide (40 < m+n)||decide (60 < m * n))||sdT m n
theorem sd_ta:sdTA=true:=by decide +kernel
theorem sd_tot{m n:Nat}(h1:1<=m)(h2:1<=n)(h3:m+n<=40)(h4:m * n<=60):Tot (m+n) (g8 m n) (sdP m n) (sdU m n) (sdC m n):=by
 have h:=sd_ta;unfold sdTA at h;have h:=Co.mp h m (CN.mpr (by omega));have h:=Co.mp h n (CN.mpr (by omega))
 have lp:(sdP m n).length=m+n:=by unfold sdP;rw [Ct,B9,av,av]
 have lu:(sdU m n).length=(g8 m n).length:=by rw [B9,B9]
 have hp:(sdP m n++sdU m n).Perm (rgI 1 (m+n+(g8 m n).length)):=by
  rcases (Dz _ _).mp h with h | h
  ·simp only [Dz,Do] at h
   omega
  ·have:=lT h
   rw [Ct,lp,lu] at this;exact this
 refine ⟨lp,lu,fun x hx=> ?_,hp.nodup_iff.mpr (be _ _),fun i hi=>uJ hi⟩;have:=aK.mp (hp.mem_iff.mp hx);omega
end L2
namespace L2
abbrev kI(ns:List Int):List Key:=ns.map Sum.inl
theorem sU{ns:List Int}{i:Int}(h:i∉ns):∀ vs:List D,br (kI ns) vs (Sum.inl i)=none:=by
 induction ns with
 | nil=>intro vs;cases vs<;>rfl
 | cons u ns ih =>
  intro vs
  cases vs with
  | nil=>rfl
  | cons v vs =>
   show br (Sum.inl u::kI ns) (v::vs) (Sum.inl i)=none
   unfold br;rw [if_neg (fun e=>h (by rw [<- Sum.inl.inj e];exact Ck))];exact ih (fun z=>h (Ce _ z)) vs
theorem xl{ns:List Int}{i:Int}{d:D}(h:i∉ns):fR (kI ns) (List.replicate ns.length d) (Sum.inl i) d=(kI (ns++[i]),List.replicate (ns++[i]).length d):=by
 induction ns with
 | nil=>rfl
 | cons u ns ih =>
  show fR (Sum.inl u::kI ns) (List.replicate (ns.length+1) d) (Sum.inl i) d=_
  rw [De];unfold fR;rw [if_neg (fun e=>h (by rw [<- Sum.inl.inj e];exact Ck)),ih fun z=>h (Ce _ z)];rfl
theorem ye{ns:List Int}(h:ns.Nodup):(kI ns).Nodup:=by
 induction ns with
 | nil=>exact Eo
 | cons u ns ih =>
  have h:=CS.mp h;refine CS.mpr ⟨fun z=> ?_,ih h.2⟩;obtain ⟨v,hv,e⟩:=CP.mp z;exact h.1 (by rw [<- Sum.inl.inj e];exact hv)
theorem gIn_dI{ns:List Int}{i:Int}(h:i∉ns){vs:List D}:gIn [.int i,.dK (kI ns) vs]=some (.bl false,false):=by
 show (match (some (br (kI ns) vs (Sum.inl i)).isSome) with | some b=>some (D.bl b,false) | none=>none)=_
 rw [sU h];rfl
theorem zo{ns:List Int}{i:Int}{d:D}(h:i∉ns)(nd:ns.Nodup)(hl:ns.length<=1000):lg (.dK (kI ns) (List.replicate ns.length d)) (.int i) d=some (.dK (kI (ns++[i])) (List.replicate (ns++[i]).length d)):=by
 show (if (small (kI ns).length&&decide (kI ns).Nodup)=true then some (D.dK (fR (kI ns) (List.replicate ns.length d) (Sum.inl i) d).1 (fR (kI ns) (List.replicate ns.length d) (Sum.inl i) d).2) else none)=_
 rw [xl h,if_pos];rw [eQ (by rw [B9];omega),Cr (ye nd)];rfl
end L2
set_option linter.all false
private def xp(r:Array String):Nat->Char->List Nat
 | 0,_=>[]
 | k+1,c=>let x:=c.toNat;if x < 80 then [x - 33 - (if x < 35 then 0 else 1)] else if 255 < x&&x < 1024 then [x - 210] else (r.getD (if x < 127 then x - 80 - (if x < 93 then 0 else 1) else x - 978) "").toList.flatMap (xp r k)
set_option hygiene false
set_option compiler.extract_closed false
private def ta:Lean.MacroM (Lean.TSyntax `tactic) := `(tactic| (exact .nil;refine .cons ?_ ?_;exact ⟨rfl,rfl,rfl,by decide +kernel,rfl,by decide +kernel,by decide +kernel⟩;omega;refine t_eq hu ?_ ?_;(simp only [bF,cm,wC,Cz,CB,Dk,Dl,List.replicate,C7,CT,C3];exact rfl);(simp only [Dk,Dl,reduceIte,Ds];exact rfl);exact ⟨rfl,by decide +kernel,by decide +kernel,by decide +kernel,rfl,by decide +kernel,by decide +kernel,by decide +kernel,by decide +kernel⟩;exact CG (by omega);(with_reducible assumption);(first | exact Or.inl rfl | exact Or.inr (Or.inl rfl) | exact Or.inr (Or.inr rfl));refine b_len (m:=T.len) (ha:= ?_);refine t_ne hu ?_ ?_;(with_reducible apply A3 _ _);intro x0 hx0;exact Cr (by omega);refine q_eq hu ?_ ?_;exact yo nd rfl (Or.inl rfl);(simp only [eq_self,decide_true,Bool.not_true]);intros;(simp only [ini,iP,Cc,Dr,List.replicate,C7,CT,CU,Nat.reduceSub,Ep,Nat.reduceAdd,C3,reduceCtorEq,reduceIte,Option.some.injEq,Nat.reduceEqDiff,Nat.zero_ne_one,Nat.one_ne_zero];exact rfl);(simp only [Cc,Dr,List.take_succ_cons,List.take_zero,C3];exact rfl);(with_reducible apply pC _ _);(simp only [B9,Ct,Dx,Cc,Dr,Dg,Da,av,List.length_zipIdx,DT,List.length_reverse] at *;omega);refine g_tup rfl ?_;refine BC nd rfl (Or.inr rfl) ?_;refine xY _ ?_;refine Bp (m:=T.list) (ha:= ?_);refine Bo (m:=T.range) (ha:= ?_);refine s_retV rfl ?_;refine b_all (m:=T.all) (ha:= ?_);(with_reducible apply yE _);(simp only [Bool.not_eq_true',Bool.not_eq_false',Do,decide_eq_false_iff_not];omega);(simp only [C7,CT];exact rfl);refine ay (N:=["thing"]) h ?_ fun f cdv A outer s H E hr nd hu hu1=> ?_;refine i_enum (by rfl) T.enumerate ?_;refine b_max (m:=T.max) (ha:= ?_);exact qo R_NoKind hr (by rfl);exact za (by rfl) T.MOST_PLACES;refine b_min (m:=T.min) (ha:= ?_);refine Bn (m:=T.sorted) (ha:= ?_);(simp only [jD];exact rfl);decide;refine ay (N:=["n"]) h ?_ fun f cdv A outer s H E hr nd hu hu1=> ?_;exact qo R_NoNumber hr (by rfl);refine wo ?_ T.isi T.int;refine tZ ?_ T.isi T.bool;refine ay (N:=["kind", "word"]) h ?_ fun f cdv A outer s H E hr nd hu hu1=> ?_;refine b_sum (m:=T.sum) (ha:= ?_);refine i_rng2 (by rfl) T.range ?_;exact yo (nd_k (by kernel_rfl)) rfl (Or.inl rfl);refine ay (N:=["web", "thing"]) h ?_ fun f cdv A outer s H E hr nd hu hu1=> ?_;refine ay (N:=["web", "numbers"]) h ?_ fun f cdv A outer s H E hr nd hu hu1=> ?_;refine bO (M:=["web", "numbers"]) (tgs:=["a", "b"]) rfl ?_ ?_ ?_ ?_ ?_;refine xZ _ ?_;refine bO (M:=["legs", "low", "high", "row", "further", "place", "leg"]) (tgs:=["k"]) rfl ?_ ?_ ?_ ?_ ?_;refine fh.ok (osc:=aa (top 51)) (N:=["legs", "low", "high", "row", "further", "place", "leg"]) ?_;refine i_rng1 (by rfl) T.range ?_;refine wQ yi nd rfl (Or.inr rfl) ?_;refine wQ ip_sub nd rfl (Or.inr rfl) ?_;refine Bm (m:=T.tuple) (ha:= ?_);refine ay (N:=["kind"]) h ?_ fun f cdv A outer s H E hr nd hu hu1=> ?_;refine s_item ?_ ?_ rfl ?_;refine i_zip (by rfl) T.zip ?_;refine fh.ok (osc:=aa (top 68)) (N:=["web", "thing", "row", "size", "seen", "one", "found"]) ?_;refine t_in hu ?_ ?_;refine s_dput hu1 ?_ ?_ rfl ?_;refine ay (N:=["many", "thing"]) h ?_ fun f cdv A outer s H E hr nd hu hu1=> ?_;refine ay (N:=["pen"]) h ?_ fun f cdv A outer s H E hr nd hu hu1=> ?_;exact za (by rfl) T.MOST_TIES;refine bO (M:=["web", "numbers", "lesser", "greater"]) (tgs:=["a", "b"]) rfl ?_ ?_ ?_ ?_ ?_;refine fh.ok (osc:=aa (top 45)) (N:=["web", "numbers", "lesser", "greater"]) ?_;refine ay (N:=["kind", "web"]) h ?_ fun f cdv A outer s H E hr nd hu hu1=> ?_;(simp only [Bool.not_eq_true',Bool.not_eq_false',Cv,Dz,Bool.and_eq_false_iff,Bool.or_eq_false_iff,Do,decide_eq_false_iff_not];omega);have hy0:=aK.mp hx0;(with_reducible apply vJ _);(with_reducible apply yz _);(simp only [dN,Cz,CB,Dk,Dl];exact rfl);unfold ub;refine BC nd rfl (Or.inl rfl) ?_;refine ay (N:=["first", "last"]) h ?_ fun f cdv A outer s H E hr nd hu hu1=> ?_;refine bO (M:=["first", "last"]) (tgs:=["place"]) rfl ?_ ?_ ?_ ?_ ?_;refine fh.ok (osc:=aa (top 32)) (N:=["first", "last"]) ?_;exact .no;refine ay (N:=["middle", "first", "last"]) h ?_ fun f cdv A outer s H E hr nd hu hu1=> ?_;refine bO (M:=["middle", "first", "last"]) (tgs:=["place"]) rfl ?_ ?_ ?_ ?_ ?_;refine fh.ok (osc:=aa (top 33)) (N:=["middle", "first", "last"]) ?_;refine rO ?_ T.isi T.tuple;refine fh.ok (osc:=aa (top 43)) (N:=["web", "numbers"]) ?_;refine b_abs (m:=T.abs) (ha:= ?_);refine ay (N:=["legs", "low", "high", "row", "further", "place", "leg"]) h ?_ fun f cdv A outer s H E hr nd hu hu1=> ?_;refine s_for rfl ?_ ?_ ?_;refine ay (N:=["m", "n"]) h ?_ fun f cdv A outer s H E hr nd hu hu1=> ?_;refine bO (M:=["m", "n"]) (tgs:=["k"]) rfl ?_ ?_ ?_ ?_ ?_;refine fh.ok (osc:=aa (top 52)) (N:=["m", "n"]) ?_;refine fh.ok (osc:=aa (top 54)) (N:=["web", "numbers"]) ?_;refine ay (N:=["whole", "numbers"]) h ?_ fun f cdv A outer s H E hr nd hu hu1=> ?_;refine bO (M:=["whole", "numbers"]) (tgs:=["number"]) rfl ?_ ?_ ?_ ?_ ?_;refine fh.ok (osc:=aa (top 55)) (N:=["whole", "numbers"]) ?_;refine ay (N:=["n", "half"]) h ?_ fun f cdv A outer s H E hr nd hu hu1=> ?_;refine bO (M:=["n", "half"]) (tgs:=["place"]) rfl ?_ ?_ ?_ ?_ ?_;refine fh.ok (osc:=aa (top 60)) (N:=["n", "half"]) ?_;refine ay (N:=["script", "k"]) h ?_ fun f cdv A outer s H E hr nd hu hu1=> ?_;refine ay (N:=["seed"]) h ?_ fun f cdv A outer s H E hr nd hu hu1=> ?_;refine ay (N:=["cell", "left"]) h ?_ fun f cdv A outer s H E hr nd hu hu1=> ?_;refine b_int (m:=T.int) (ha:= ?_);refine ay (N:=["found"]) h ?_ fun f cdv A outer s H E hr nd hu hu1=> ?_;refine ay (N:=["thing", "least", "most"]) h ?_ fun f cdv A outer s H E hr nd hu hu1=> ?_;refine Bl uw uw uu uu ?_ ?_ ?_;refine ay (N:=["legs", "ties", "further", "place", "leg"]) h ?_ fun f cdv A outer s H E hr nd hu hu1=> ?_;refine wQ yi nd rfl (Or.inl rfl) ?_;refine ay (N:=["m", "n", "ties", "place"]) h ?_ fun f cdv A outer s H E hr nd hu hu1=> ?_;refine ay (N:=["n", "ties", "place"]) h ?_ fun f cdv A outer s H E hr nd hu hu1=> ?_;refine ay (N:=["web", "numbers", "total"]) h ?_ fun f cdv A outer s H E hr nd hu hu1=> ?_;refine ay (N:=["pen", "many", "found"]) h ?_ fun f cdv A outer s H E hr nd hu hu1=> ?_;refine ay (N:=["web", "thing", "row", "size", "seen", "one", "found"]) h ?_ fun f cdv A outer s H E hr nd hu hu1=> ?_;refine bO (M:=["web", "thing", "row", "size", "seen", "", "found"]) (tgs:=["one"]) rfl ?_ ?_ ?_ ?_ ?_;refine u7 (M:=["web", "thing", "row", "size", "seen", "one", "found"]) (tgs:=["k", "a", "b"]) rfl ?_ ?_ ?_ ?_ ?_ nd rfl rfl;refine ay (N:=["things", "least", "most"]) h ?_ fun f cdv A outer s H E hr nd hu hu1=> ?_;refine bO (M:=["things", "least", "most"]) (tgs:=["thing"]) rfl ?_ ?_ ?_ ?_ ?_;refine fh.ok (osc:=aa (top 3)) (N:=["things", "least", "most"]) ?_;refine b_set (m:=T.set) (ha:= ?_);refine bO (M:=["thing"]) (tgs:=["leg"]) rfl ?_ ?_ ?_ ?_ ?_;refine fh.ok (osc:=aa (top 28)) (N:=["thing"]) ?_;refine ay (N:=["leasts", "things"]) h ?_ fun f cdv A outer s H E hr nd hu hu1=> ?_;refine bO (M:=["leasts", "things"]) (tgs:=["least", "thing"]) rfl ?_ ?_ ?_ ?_ ?_;refine fh.ok (osc:=aa (top 29)) (N:=["leasts", "things"]) ?_;refine ay (N:=["web", "m", "n", "places"]) h ?_ fun f cdv A outer s H E hr nd hu hu1=> ?_;refine bO (M:=["web", "m", "n", "places"]) (tgs:=["k"]) rfl ?_ ?_ ?_ ?_ ?_;refine fh.ok (osc:=aa (top 59)) (N:=["web", "m", "n", "places"]) ?_;refine bO (M:=["pen"]) (tgs:=["place"]) rfl ?_ ?_ ?_ ?_ ?_;refine fh.ok (osc:=aa (top 71)) (N:=["pen"]) ?_;refine ay (N:=["pen", "some"]) h ?_ fun f cdv A outer s H E hr nd hu hu1=> ?_;refine ay (N:=["things", "most"]) h ?_ fun f cdv A outer s H E hr nd hu hu1=> ?_;refine bO (M:=["many", "thing"]) (tgs:=["end"]) rfl ?_ ?_ ?_ ?_ ?_;refine fh.ok (osc:=aa (top 20)) (N:=["many", "thing"]) ?_;refine ay (N:=["thing", "word"]) h ?_ fun f cdv A outer s H E hr nd hu hu1=> ?_;refine wm ?_ T.isi T.str;refine t_kin (neg:=true) M_LEAST_NUMBERS (by rfl) ?_ (by rfl);refine c_kget M_LEAST_NUMBERS (by rfl) ?_;refine c_sl10 wN os_s10 ?_ ?_;refine ay (N:=["web", "thing", "q"]) h ?_ fun f cdv A outer s H E hr nd hu hu1=> ?_;refine ay (N:=["many", "things", "told", "number", "thing", "tie"]) h ?_ fun f cdv A outer s H E hr nd hu hu1=> ?_;refine ay (N:=["web", "numbers", "sums", "q", "least"]) h ?_ fun f cdv A outer s H E hr nd hu hu1=> ?_;refine ay (N:=["web", "numbers", "lesser", "greater"]) h ?_ fun f cdv A outer s H E hr nd hu hu1=> ?_;refine ay (N:=["web", "numbers", "parting"]) h ?_ fun f cdv A outer s H E hr nd hu hu1=> ?_;refine ay (N:=["web", "numbers", "t", "above"]) h ?_ fun f cdv A outer s H E hr nd hu hu1=> ?_;refine bO (M:=["web", "numbers", "t", "above"]) (tgs:=["number"]) rfl ?_ ?_ ?_ ?_ ?_;refine fh.ok (osc:=aa (top 47)) (N:=["web", "numbers", "t", "above"]) ?_;refine bO (M:=["kind", "web"]) (tgs:=["number"]) rfl ?_ ?_ ?_ ?_ ?_;refine fh.ok (osc:=aa (top 58)) (N:=["kind", "web"]) ?_;refine ay (N:=["thing", "e"]) h ?_ fun f cdv A outer s H E hr nd hu hu1=> ?_;refine s_try (nms:=nms) rfl rfl ?_ ?_ nd rfl rfl (by rfl) HT SU;refine tW tH G26 hr (by decide) (by rfl) ?_;exact Kd.c_kind GK KN (hr.any.mono (by decide)).mark (by rfl);refine ay (N:=["kind", "found", "web"]) h ?_ fun f cdv A outer s H E hr nd hu hu1=> ?_;refine fn_okV (N:=["script", "kind", "cell", "pen"]) h ?_ fun f cdv A outer s H E hr nd hu hu1=> ?_;refine c_sl11 wN os_s11 ?_;skip))
private def tb(k:Nat)(i:Lean.Ident):Lean.MacroM (Lean.TSyntax `tactic):=match k with | 0 => `(tactic| with_reducible apply $i) | 1 => `(tactic| exact $i) | 2 => `(tactic| refine $i ?_) | 3 => `(tactic| refine $i ?_ ?_) | 4 => `(tactic| refine $i ?_ ?_ ?_) | 5 => `(tactic| exact $i _) | 6 => `(tactic| apply $i) | 7 => `(tactic| intro $i:ident) | 8 => `(tactic| refine tW tK $i hr (by decide) (by rfl) ?_) | _ => `(tactic| refine tW tJ $i hr (by decide) (by rfl) ?_)
private def tc:Array (Nat×Lean.Name) := #[(1,`rfl),(2,`cb_ex),(0,`r_nilA),(5,`vb),(0,`r_exM),(0,`BE),(0,`r_nilM),(1,`ca_nil),(2,`s_one),(3,`b_add),(0,`r_op),(0,`r_call),(0,`r_ret),(0,`r_opT),(5,`v),(2,`c_lst),(1,`s_nil),(0,`r_nil),(0,`r_lst),(3,`s_cons),(2,`w_or1),(6,`Eq.trans),(2,`c_tup),(3,`b_sub),(0,`h),(0,`r_comp),(0,`r_ifF),(0,`r_orF),(3,`b_ix),(1,`f),(3,`b_mod),(0,`r_c),(0,`r_tup),(1,`e),(1,`e1),(2,`c_one),(1,`c_int),(1,`c_non),(0,`Ah),(0,`r_varF),(0,`cH),(1,`c_str),(0,`wZ),(1,`ln),(3,`w_or),(1,`g_nil),(1,`c_bl),(0,`r_seqI),(0,`ue),(0,`r_aug),(1,`e2),(1,`h1),(0,`h1),(0,`h2),(0,`r_andF),(2,`i_seq),(3,`b_mul),(3,`b_fdiv),(6,`lp_mk),(0,`Ad),(1,`ex),(0,`sv),(1,`h2),(1,`h3),(1,`gr),(2,`JW.t),(2,`s_expr),(3,`t_lt),(3,`w_and),(2,`w_and1),(9,`G27),(0,`Ae),(1,`al),(0,`r_dnew),(0,`r_for),(1,`e0),(1,`r),(0,`r_zipE),(0,`r_fnX),(1,`h0),(1,`gs),(0,`yu),(0,`mo),(1,`du),(1,`gq),(0,`w8),(1,`g),(0,`yF),(0,`ex_seq),(3,`c_and),(3,`Bi),(3,`g_cons),(4,`c_if),(8,`G9),(9,`G25),(9,`G47),(3,`b_mulA),(3,`t_is),(8,`G3),(0,`r_notV),(0,`r_tru),(0,`uI),(0,`r_set),(1,`gi),(0,`Ab),(1,`up),(0,`zW),(0,`su),(0,`r_expr),(1,`st),(0,`r_retO),(1,`hm),(0,`r_seqR),(0,`r_ifT),(1,`h),(1,`g1),(1,`g2),(1,`sm),(0,`wA),(1,`hl),(0,`yw),(0,`zY),(0,`Ag),(0,`r_andV),(1,`tr),(1,`m1),(1,`m2),(0,`r_ieI),(1,`gm),(1,`w),(1,`l),(1,`ga),(0,`Aa),(1,`g0),(1,`e3),(0,`rq_seq),(2,`c_not),(4,`s_if),(8,`G4),(8,`G14),(2,`k_tru),(1,`Bk),(8,`G47),(8,`G5),(8,`G16),(8,`G12),(9,`G12),(8,`G48),(1,`s_none),(3,`q_le),(8,`G23),(8,`G2),(8,`G0),(8,`G26),(9,`G44),(9,`G43),(0,`r_fn),(0,`r_borA),(0,`Af),(0,`r_not),(1,`mn),(1,`mx),(0,`tt),(0,`tm),(1,`sr),(6,`el_mk),(0,`zZ),(0,`oQ),(0,`vO),(0,`zX),(0,`og),(1,`h4),(0,`pB),(0,`lE),(1,`mi),(1,`ad),(0,`gList_rng0),(0,`e9),(0,`r_retX),(0,`A8),(0,`kc),(0,`fv),(0,`yD),(0,`r_fnN),(0,`A4),(0,`A6),(0,`r_ieT),(0,`r_retF),(0,`g),(1,`o),(1,`gl),(1,`hn),(0,`r_andT),(1,`s),(1,`pf),(1,`u'),(1,`l1),(1,`l2),(1,`a1),(1,`a2),(1,`a3),(1,`s'),(1,`cs),(0,`r_varO),(0,`r_tryX),(0,`Ac),(0,`r_kind),(1,`rf),(0,`tDraw),(1,`m3),(6,`elA_mk),(0,`ud),(0,`tPen),(1,`r1),(1,`r2),(0,`vP),(1,`r3),(0,`ex_one),(1,`q3),(1,`e4),(1,`q4),(1,`p1),(1,`p2),(1,`p3),(1,`p4),(1,`p5),(1,`p6),(0,`tCell0),(0,`rj),(0,`tw),(0,`rq_ret),(2,`s_ret),(3,`q_ge),(3,`b_pow),(8,`G7),(8,`G25),(8,`G41),(8,`G39),(8,`G34),(2,`k_not),(9,`G29),(3,`t_gt),(9,`G6),(8,`G20),(8,`G45),(8,`G32),(8,`G24),(8,`G31),(8,`G18),(8,`G35),(8,`G51),(8,`G10),(8,`G21),(1,`Bj),(9,`G11),(3,`t_ge),(8,`G17),(8,`G33),(8,`G15),(8,`G19),(8,`G1),(8,`G37),(8,`G22),(8,`G38),(8,`G50),(3,`t_le),(8,`G40),(8,`G46),(8,`G30),(8,`G8),(8,`G44),(8,`G49),(9,`G42),(9,`G36),(9,`G13),(9,`G28)]
private def xg(q:Array Lean.Syntax):List Nat->Lean.MacroM (Array (Lean.TSyntax `tactic))
 | []=>return #[]
 | i::l=>do let a <- (match tc[i]? with | some (k,n)=>tb k (Lean.mkIdent n) | none=>pure ⟨q.getD (2 * (i - tc.size)) .missing⟩);let b <- xg q l;return #[a]++b
local macro_rules
 | `(tactic| trace $s:str)=>do
  let q <- ta
  let a <- xg q.raw[1][0][0].getArgs (s.getString.toList.flatMap (xp #["Ĭ#", "T!", "$!", "j)", "!!", "',", "`R", "#F", "-V", "-`", "TT", "%#", "+#", "#s", "ek", "ů!", "&A", "TǬ", "'A", "*ƹ", "7ŮǺ", ",'", "t$", "e.", ",U", "Ĭ%", "Lĸ", "&ѭ", "5ȵ", "cR", "!Ǭ", "Yв", "jP", "S)", ">Ѐ", "Б҃", "L<", "ǧ8", "ǩǩ", "Uв", "Ѿ#", "Ǩd", "3.", "UV", "Ǩm", "ФЈ", "%W", "ǧF", "5ś", "c$", "Ѷ)", "`в", "&Ѹ", "#ш", "ЁǦ", "u/", "%%", "2d", "VT", "Б!", "ѹ3", "))", "`n", "UА", "R!", "!3", "У'", "чķ", "ǹȘд", "(!", "Ѱ҈", "ǧ0", "5Ɂ", "ĬW", "Ѯl", "ЁЈ", "łŃ", ",`", "Є2", "jS", "Ѳy", "űĶ", "vг", "u=", "jЛ", "+Ѐ", "UU", "ok", "kX", "/`", "Ut", "ж҉", "ĭǷ", "ȢP", "Wd", "^#", "V!", "ǧK", "ǹȹǹ", "ŷǫ", "ЂǪ", "ЃǼ", ",V", "ъIQ", "Ȱе", ".f", "RQ", "žǩз", "ые", "'ѭ", "Ѽ(", "ММ", "zī", "Ƚ%", ">Њ", "ȟS", "vН", ",А", "ǱS", "/ѵ", ";ā", "ſǴ", "Źǫ", "ǭĉ", "dĀ", "IT", "ѳҀ", "!R", "oҊ", "Lľ", "Ÿ!", "ŻV", "nГ", "Оѽ.", "gѴ", "Еҋ", "ѵГ", "R$", "œ҅", "Ҍ/", "Ѯ(", "ьȴ<ҁ", "^W", "ǹҍ", "҆O", "*ś", "5Ĕ", "э0Ж", "#Ч", "Ѐ)", "dG", "2m", "юЋ", "Ҏ҂", "ǦФ", "Ba", "a(", "!ȳ", "'ħ", "Kd", "ѷN", "eХ", "ńZ", "tn", "Ps", "Ђē", "I!", "!В", "УxВ", "щ!", "l(", "/҄", "ǁŞ", "҄3", "Ѻ/", "ДX", "Ц)", "ķ!", "АT", "bЉ", "ĭȘ", "Ƣwѯ", "А҇", "[ѱ", "LĜ", "҅ѿ", "ƒѻ", "Ǿ҆", "#ţ"] 99))
  `(tactic| ($[$a];*))
set_option compiler.extract_closed true
set_option hygiene true
namespace K50
open PySem L2 PyProof.Rows
def top(i:Nat):Stmt:=PySem.Challenge.pw_tienumbers_k50_totals_of_kinds.main.body.getD i (.Pass ⟨0,0,0,0⟩)
def ba:List Key:=[.inr "ring",.inr "sides",.inr "full",.inr "wheel",.inr "fan"]
def bb:List D:=[.ktup [.int 3],.ktup [.int 1,.int 1],.ktup [.int 1],.ktup [.int 3],.ktup [.int 1]]
def nms:List Str:=["NoKind", "NoNumber"]
structure Txt(K:EG)(mg:Str->Option Value):Prop where
 ValueError:mg "ValueError" = none
 abs:mg "abs" = none
 all:mg "all" = none
 bool:mg "bool" = none
 enumerate:mg "enumerate" = none
 int:mg "int" = none
 isi:mg "isinstance" = none
 len:mg "len" = none
 list:mg "list" = none
 max:mg "max" = none
 min:mg "min" = none
 range:mg "range" = none
 set:mg "set" = none
 sorted:mg "sorted" = none
 str:mg "str" = none
 sum:mg "sum" = none
 tuple:mg "tuple" = none
 zip:mg "zip" = none
 MOST_PLACES:∃ t,mg "MOST_PLACES" = some (.int 40 t)
 MOST_TIES:∃ t,mg "MOST_TIES" = some (.int 60 t)
section
variable{P:Program}{w:World}{K:EG}{mg:Str->Option Value}{base:Heap}
noncomputable def lB:SS:=(au (b9 (sOp (fB "int") [.bor 0]) (fK (sOp (fB "bool") [.bor 0]))))
noncomputable def fF:FS:=ai 1 1 none lB
abbrev mM:=OkY "is_whole" ["thing"] 1 none fF
theorem qO(h:Has K mg "is_whole" (top 1) ["thing"])(T:Txt K mg):mM P w K mg base:=by
 trace "Ȉтȓ%EŚȔ%"
noncomputable def eh:SS:=(ah (a7 1 (sOp gIx [.bor 0,.ex (sC (.int 0))])) (ah (aO (aH gEq [.bor 1,.ex (sC (.str "spine"))]) (au (sOp aE [.ex (sOp bu [.ex (sOp gIx [.bor 0,.ex (sC (.int 1))])]),.ex (sOp pA [.ex (sOp gIx [.bor 0,.ex (sC (.int 1))])])])) aU) (ah (aO (aH gEq [.bor 1,.ex (sC (.str "sides"))]) (au (sOp aE [.ex (sOp gIx [.bor 0,.ex (sC (.int 1))]),.ex (sOp gIx [.bor 0,.ex (sC (.int 2))])])) aU) (ah (aO (sOr (aH gEq [.bor 1,.ex (sC (.str "wheel"))]) (aH gEq [.bor 1,.ex (sC (.str "fan"))])) (au (sOp aE [.ex (sOp gIx [.bor 0,.ex (sC (.int 1))]),.ex (sC (.int 1))])) aU) (au (sOp gIx [.bor 0,.ex (sC (.int 1))]))))))
noncomputable def a9:FS:=ai 1 2 none eh
abbrev gJ:=OkY "places_in" ["kind"] 1 none a9
theorem o5(h:Has K mg "places_in" (top 30) ["kind"])(T:Txt K mg):gJ P w K mg base:=by
 trace "ȕ}sЭ]ǱЄ#ȖРЭ+^^2ѲǪ[K6Ǫ҉+ѠЋs"
noncomputable def lx:SS:=(au (a8 1 (eW (.bor 0) (.bor 1)) (.nm 2) none (aG [(bd 2),(sOp aE [.bor 2,.ex (sC (.int 1))])])))
noncomputable def cI:FS:=ai 2 2 none lx
abbrev fI:=OkY "row_ties" ["first", "last"] 1 none cI
theorem qM(h:Has K mg "row_ties" (top 32) ["first", "last"])(T:Txt K mg):fI P w K mg base:=by
 trace "ȶzȷȸǭȗСЖ8ЙǧЧǦ"
noncomputable def jW:SS:=(au (a8 1 (eW (.bor 1) (.ex (sOp aE [.bor 2,.ex (sC (.int 1))]))) (.nm 3) none (aG [(bd 0),(bd 3)])))
noncomputable def bi:FS:=ai 3 3 none jW
abbrev dh:=OkY "star_ties" ["middle", "first", "last"] 1 none bi
theorem o0(h:Has K mg "star_ties" (top 33) ["middle", "first", "last"])(T:Txt K mg):dh P w K mg base:=by
 trace "ȺzȻȼǭȗqЧ)Ж8ЙЙǦ"
noncomputable def dZ:SS:=(au (b9 (sOp (fB "tuple") [.bor 1]) (sOp gEq [.ex (sOp bu [.bor 1]),.ex (sOp gIx [.bor 0,.ex (sC (.int 0))])])))
noncomputable def bI:FS:=ai 2 2 none dZ
abbrev eL:=OkY "places_numbered" ["web", "thing"] 1 none bI
theorem iH(h:Has K mg "places_numbered" (top 42) ["web", "thing"])(T:Txt K mg):eL P w K mg base:=by
 trace "șтуEǶЇ^"
noncomputable def lw:SS:=(au (a8 2 (bB (sOp gIx [.bor 0,.ex (sC (.int 1))])) (.tp [(.nm 2),(.nm 3)]) none (sOp yG [.ex (sOp cB [.ex (sOp gIx [.bor 1,.bor 2]),.ex (sOp gIx [.bor 1,.bor 3])])])))
noncomputable def fD:FS:=ai 2 2 none lw
abbrev mK:=OkY "steps_by" ["web", "numbers"] 1 none fD
theorem qK(h:Has K mg "steps_by" (top 43) ["web", "numbers"])(T:Txt K mg):mK P w K mg base:=by
 trace "ȚzțȾэsѡѢдȿP9#>%[ф)"
noncomputable def aY:SS:=(aO (aH gEq [.ex (sOp hU [.bor 5,.ex (sC (.int 2))]),.ex (sC (.int 0))]) (ah (b8 (cj 3 gO [(bd 1)])) (ah (b8 (cj 4 bP [(a8 1 (ci (.bor 6)) (.nm 7) none (sOp cB [.bor 2,.bor 7]))])) (ah (iD 1 (fun i j=>i+j) (sC (.int 1))) (iD 2 (fun i j=>i - j) (bd 6))))) (ah (b8 (cj 3 gO [(bd 2)])) (ah (b8 (cj 4 bP [(a8 1 (ci (.bor 6)) (.nm 7) none (sOp aE [.bor 1,.bor 7]))])) (ah (iD 1 (fun i j=>i+j) (bd 6)) (iD 2 (fun i j=>i - j) (sC (.int 1)))))))
noncomputable def hV:SS:=(ah (a7 1 (sC (.int 0))) (ah (a7 2 (sOp cB [.ex (sOp aE [.ex (sOp bu [.bor 0]),.ex (sOp pA [.bor 0])]),.ex (sC (.int 1))])) (ah (a7 3 (cA [])) (ah (a7 4 (cA [])) (ah (eX (dL (bd 0)) (.tp [(.nm 5),(.nm 6)]) aY) (au (sOp dl [.ex (sOp aE [.bor 3,.bor 4])])))))))
noncomputable def cK:FS:=ai 1 7 none hV
abbrev il:=OkY "spine_steps" ["legs"] 1 none cK
theorem lU(h:Has K mg "spine_steps" (top 51) ["legs"])(T:Txt K mg):il P w K mg base:=by
 trace "ɀǨ5ǿF5ǿ9#]ш#ȖSWm1Ǧm1ǦКȉ0ǾЮЮOѣǪ#@ЀWѤȜ0ѤȀȝȞǭхЖ9Њ5ȠF*ȡ0ѤȜ0ѤȀȝȞǭхЖ+Њ5Ƞ0*ȡFdЯ+Њ)"
noncomputable def mU:SS:=(au (sOp dl [.ex (sOp aE [.ex (sOp dS [.ex (sOp gA [.bor 0])]),.ex (a8 1 (ci (.bor 1)) (.nm 2) none (sOp kN [.bor 0,.ex (sOp aE [.bor 2,.ex (sC (.int 1))])]))])]))
noncomputable def ii:FS:=ai 2 2 none mU
abbrev ip:=OkY "sides_steps" ["m", "n"] 1 none ii
theorem lW(h:Has K mg "sides_steps" (top 52) ["m", "n"])(T:Txt K mg):ip P w K mg base:=by
 trace "ɂzЯ]ȁPȂr#ɃɄǭхЖĊ[Ч)"
noncomputable def lD:SS:=(au (a8 2 (bB (sOp gIx [.bor 0,.ex (sC (.int 1))])) (.tp [(.nm 2),(.nm 3)]) none (sOp aE [.ex (sOp gIx [.bor 1,.bor 2]),.ex (sOp gIx [.bor 1,.bor 3])])))
noncomputable def dW:FS:=ai 2 2 none lD
abbrev iU:=OkY "end_sums" ["web", "numbers"] 1 none dW
theorem qR(h:Has K mg "end_sums" (top 54) ["web", "numbers"])(T:Txt K mg):iU P w K mg base:=by
 trace "ȚzțɅэsѡѢд]>%[ф"
noncomputable def i0:SS:=(au (sOp dl [.ex (a8 1 (bB (bd 1)) (.nm 2) none (sOp cB [.bor 0,.bor 2]))]))
noncomputable def dy:FS:=ai 2 2 none i0
abbrev ju:=OkY "taken_from" ["whole", "numbers"] 1 none dy
theorem mX(h:Has K mg "taken_from" (top 55) ["whole", "numbers"])(T:Txt K mg):ju P w K mg base:=by
 trace "ɆzЯɇɈѥ9Њ)"
noncomputable def lA:SS:=(ah (a7 1 (sOp ie [.ex (sOp aE [.bor 0,.ex (sC (.int 1))]),.ex (sC (.int 2))])) (au (sOp dl [.ex (a8 1 (ci (.bor 0)) (.nm 2) none (sIf (aH gEq [.ex (sOp hU [.bor 2,.ex (sC (.int 2))]),.ex (sC (.int 0))]) (sOp aE [.ex (sOp ie [.bor 2,.ex (sC (.int 2))]),.ex (sC (.int 1))]) (sOp aE [.ex (sOp aE [.bor 1,.ex (sOp ie [.bor 2,.ex (sC (.int 2))])]),.ex (sC (.int 1))])))])))
noncomputable def fE:FS:=ai 1 2 none lA
abbrev mL:=OkY "ring_low" ["n"] 1 none fE
theorem qN(h:Has K mg "ring_low" (top 60) ["n"])(T:Txt K mg):mL P w K mg base:=by
 trace "ɉǨ5ǿċѦаЯɊɋǭхЖĮǪ#@ЀW]ċЀW]+[ċЀW)"
abbrev gN:=OkY "_law_cell_at" ["script", "k"] 1 none bc
theorem kK(h:Has K mg "_law_cell_at" (top 62) ["script", "k"])(T:Txt K mg):gN P w K mg base:=by
 trace "ɌǨЂĕ[шdфЋF"
abbrev ky:=OkY "_law_next" ["seed"] 1 none df
theorem pi(h:Has K mg "_law_next" (top 63) ["seed"])(T:Txt K mg):ky P w K mg base:=by
 trace "ɍ}@Ѧа@#]]Ċ%[ĊWЀW"
abbrev iu:=OkY "_law_pen_of" ["cell"] 1 none bH
theorem lZ(h:Has K mg "_law_pen_of" (top 64) ["cell"])(T:Txt K mg):iu P w K mg base:=by
 trace "Ɏ}Ȋq9W%)d1ЙǧɏPƺ[ƻWW)ǧ@ЀǦ"
noncomputable def i8:SS:=(au (b9 (sOp (fB "int") [.bor 0]) (fK (sOp (fB "bool") [.bor 0]))))
noncomputable def dD:FS:=ai 1 1 none i8
abbrev jz:=OkY "_law_whole" ["found"] 1 none dD
theorem nc(h:Has K mg "_law_whole" (top 66) ["found"])(T:Txt K mg):jz P w K mg base:=by
 trace "ɐтȓ%EŚȔ%"
open L2.Kd in
theorem oM:cR ["e", "marks", "words"] ["e"] (aa (top 67)):=⟨rfl,rfl,rfl,by decide +kernel,rfl,by decide +kernel,by decide +kernel⟩
open L2.Kd in
theorem AM(h:Has K mg "_law_kind_of" (top 67) ["e"])(T:Txt K mg):OkA P w K mg base "_law_kind_of" ["e"] 1 (se K mg):=by
 refine h.okA oM (fun vs H Q E h=> ?_) (fun f cdv A outer s H vs Q E hr h=> ?_)
 ·obtain ⟨ea,C,j,rfl,_⟩:=h;rfl
 ·obtain ⟨ea,C,j,rfl,hH,kd,q⟩:=h
  obtain ⟨c0,m0,k0⟩:=kd.k0;obtain ⟨c1,m1,k1⟩:=kd.k1;obtain ⟨c2,m2,k2⟩:=kd.k2;obtain ⟨c3,m3,k3⟩:=kd.k3;obtain ⟨c4,m4,k4⟩:=kd.k4;obtain ⟨c5,m5,k5⟩:=kd.k5;obtain ⟨c6,m6,k6⟩:=kd.k6;obtain ⟨c7,m7,k7⟩:=kd.k7;obtain ⟨c8,m8,k8⟩:=kd.k8
  refine ⟨_,eY (oU (i:=1) oM.nd rfl (Or.inl rfl) (oX (aB (isx T.isi m0 (pv 0) (by rfl) (by rfl)) (aB (isx T.isi m1 (pv 0) (by rfl) (by rfl)) (aB (isx T.isi m2 (pv 0) (by rfl) (by rfl)) (aB (isx T.isi m3 (pv 0) (by rfl) (by rfl)) cD))))))
   (eY (oU (i:=1) oM.nd rfl (Or.inl rfl) (BP xO (pv 1) (oX (aB (isx T.isi m4 (pv 0) (by rfl) (by rfl)) (aB (isx T.isi m5 (pv 0) (by rfl) (by rfl)) (aB (isx T.isi m6 (pv 0) (by rfl) (by rfl)) (aB (isx T.isi m7 (pv 0) (by rfl) (by rfl)) cD)))))))
   (eY (um (ur Ef PySem.F.slot_list_append PySem.F.type_list_append nW (pv 1) (aB (isx T.isi m8 (pv 0) (by rfl) (by rfl)) cD)))
   (eY (BO (PW.pt (BN (xn (pt_val (isxV T.isi T.ValueError (pv 0) (by rfl) (by rfl)))) (xk (uk op_ne (ur Ef PySem.F.slot_list_count PySem.F.type_list_count xV (pv 1) (aB xD cD)) oY (dQ _))))) (oS (oV dO)) ul)
   (eY (oU (i:=2) oM.nd rfl (Or.inl rfl) (oX (aB dO (aB dO (aB dO (aB dO (aB dO (aB dO (aB dO (aB dO (aB dO cD)))))))))))
   (oS (oV (BQ uB (pv 2) (ur Ef PySem.F.slot_list_index PySem.F.type_list_index xU (pv 1) (aB xD cD)) (fun _ _=>rfl)))))))),?_⟩
  refine ⟨_,rfl,ea,C,.ref c0,.ref c0,_,rfl,hH,kd.exk,rfl,k0,_,rfl,ea,C,.ref c1,.ref c1,_,rfl,hH,kd.exk,rfl,k1,_,rfl,ea,C,.ref c2,.ref c2,_,rfl,hH,kd.exk,rfl,k2,_,rfl,ea,C,.ref c3,.ref c3,_,rfl,hH,kd.exk,rfl,k3,by show 4<=sizeLine;decide,fun l1 hl1=> ?_⟩;have s1:=ac.upd (o:= .lst [.bl (decide (0=j)),.bl (decide (1=j)),.bl (decide (2=j)),.bl (decide (3=j))]) hl1;have h1:=s1 _ _ hH;refine ⟨_,rfl,_,rfl,ea,C,.ref c4,.ref c4,_,rfl,h1,kd.exk,rfl,k4,_,rfl,ea,C,.ref c5,.ref c5,_,rfl,h1,kd.exk,rfl,k5,_,rfl,ea,C,.ref c6,.ref c6,_,rfl,h1,kd.exk,rfl,k6,_,rfl,ea,C,.ref c7,.ref c7,_,rfl,h1,kd.exk,rfl,k7,by show 4<=sizeLine;decide,fun l2 hl2=> ?_⟩;have s2:=s1.trans (ac.upd (o:= .lst [.bl (decide (4=j)),.bl (decide (5=j)),.bl (decide (6=j)),.bl (decide (7=j))]) hl2);refine ⟨l1,l2,_,_,rfl,rfl,ac.upd hl2 _ _ aj,aj,DK (dE (by show 4+4<=1000;decide)),fun l3 hl3=> ?_⟩;have s3:=s2.trans (ac.upd (o:= .lst ([.bl (decide (0=j)),.bl (decide (1=j)),.bl (decide (2=j)),.bl (decide (3=j))]++[.bl (decide (4=j)),.bl (decide (5=j)),.bl (decide (6=j)),.bl (decide (7=j))])) hl3);have nl3:H l3=none:=s2.free hl3;refine ⟨_,rfl,.inl ⟨rfl,_,.inl (.inl aj)⟩,_,rfl,ea,C,.ref c8,.ref c8,_,rfl,s3 _ _ hH,kd.exk,rfl,k8,l3,_,_,rfl,rfl,aj,dE (by show 8<=1000;decide),?_⟩;rw [zl];have s4:ac H (upd (upd (upd H l1 (.lst [.bl (decide (0=j)),.bl (decide (1=j)),.bl (decide (2=j)),.bl (decide (3=j))])) l2 (.lst [.bl (decide (4=j)),.bl (decide (5=j)),.bl (decide (6=j)),.bl (decide (7=j))])) l3 (.lst (fq j))):=s2.trans (ac.upd hl3);refine ⟨_,rfl,ea,C,.ty "ValueError",.type "ValueError",_,rfl,s4 _ _ hH,kd.exk,rfl,kd.ve,_,rfl,iteF ⟨_,rfl,.inl ⟨rfl,_,.inl (.inl aj)⟩,l3,fq j,.bl true,rfl,rfl,aj,rfl,ma j,rfl,_,rfl,?_⟩⟩
  rw [vD j kd.lt]
  refine iteB (fun c=>absurd c (by decide)) fun _=> ?_
  refine ⟨by show 9<=sizeLine;decide,fun l5 hl5=> ?_⟩;refine ⟨_,rfl,_,rfl,.inl ⟨rfl,_,.inl (.inl (ac.upd hl5 _ _ aj))⟩,l3,fq j,.bl true,j,rfl,rfl,ac.upd hl5 _ _ aj,rfl,ma j,xX j kd.lt,xW j kd.lt,l5,_,_,_,rfl,rfl,.inl (.inl aj),wx kd.lt,q _ (s4.trans (ac.upd hl5))⟩
noncomputable def fY:SS:=(au (b9 (af none none fF [.bor 0]) (dj gLe gLe (bd 1) (bd 0) (bd 2))))
noncomputable def aV:FS:=ai 3 3 none fY
abbrev bw:=OkY "whole_within" ["thing", "least", "most"] 2 none aV
theorem kE(h:Has K mg "whole_within" (top 2) ["thing", "least", "most"])(T:Txt K mg)(G7:mM P w K mg base):bw P w K mg base:=by
 trace "ɑтƼSEɒ000"
noncomputable def cq:SS:=(ah (b8 (cj 1 bP [(af none none bi [.bor 3,.bor 2,.ex (sOp cB [.ex (sOp aE [.bor 2,.bor 4]),.ex (sC (.int 1))])])])) (iD 2 (fun i j=>i+j) (bd 4)))
noncomputable def i5:SS:=(ah (a7 1 (af none none cI [.ex (sC (.int 0)),.ex (sOp cB [.ex (sOp bu [.bor 0]),.ex (sC (.int 1))])])) (ah (a7 2 (sOp bu [.bor 0])) (ah (eX (dL (bd 0)) (.tp [(.nm 3),(.nm 4)]) cq) (cW 1))))
noncomputable def dA:FS:=ai 1 5 none i5
abbrev jw:=OkY "spine_ties" ["legs"] 2 none dA
theorem mZ(h:Has K mg "spine_ties" (top 34) ["legs"])(T:Txt K mg)(G9:fI P w K mg base)(G25:dh P w K mg base):jw P w K mg base:=by
 trace "ɓ}įЛP9ЇW)mшКȉ0ǾЮЮOѤȀİjq9#+%ѧ*ɔ0*ȃǰ"
noncomputable def jX:SS:=(au (sOp aE [.ex (af none none cI [.ex (sC (.int 0)),.ex (sOp cB [.bor 0,.ex (sC (.int 1))])]),.ex (cA [(aG [(sC (.int 0)),(sOp cB [.bor 0,.ex (sC (.int 1))])])])]))
noncomputable def eD:FS:=ai 1 1 none jX
abbrev km:=OkY "ring_ties" ["n"] 2 none eD
theorem o3(h:Has K mg "ring_ties" (top 35) ["n"])(T:Txt K mg)(G9:fI P w K mg base):km P w K mg base:=by
 trace "ȑz]įЛP9ѧ#1vЁǧ9ЀǦǦ"
noncomputable def dH:SS:=(b8 (cj 2 bP [(af none none bi [.bor 3,.bor 0,.ex (sOp cB [.ex (sOp aE [.bor 0,.bor 1]),.ex (sC (.int 1))])])]))
noncomputable def i6:SS:=(ah (a7 2 (cA [])) (ah (eX (ci (.bor 0)) (.nm 3) dH) (cW 2)))
noncomputable def dB:FS:=ai 2 4 none i6
abbrev jx:=OkY "sides_ties" ["m", "n"] 2 none dB
theorem m9(h:Has K mg "sides_ties" (top 36) ["m", "n"])(T:Txt K mg)(G25:dh P w K mg base):jx P w K mg base:=by
 trace "ɕ}1ǦКхǷ*ĔȀİjq9#+%ѧ*ȃǰ"
noncomputable def mV:SS:=(b8 (cj 1 bP [(af none none bi [.bor 2,.ex (sOp aE [.bor 2,.ex (sC (.int 1))]),.ex (sOp cB [.bor 0,.ex (sC (.int 1))])])]))
noncomputable def qq:SS:=(ah (a7 1 (cA [])) (ah (eX (ci (.bor 0)) (.nm 2) mV) (cW 1)))
noncomputable def ke:FS:=ai 1 3 none qq
abbrev ku:=OkY "full_ties" ["n"] 2 none ke
theorem pc(h:Has K mg "full_ties" (top 37) ["n"])(T:Txt K mg)(G25:dh P w K mg base):ku P w K mg base:=by
 trace "ɖ}1ǦКхǷ*ĔȀİqЧP9ѧ*ȃǰ"
noncomputable def sj:SS:=(au (sOp aE [.ex (af none none bi [.ex (sC (.int 0)),.ex (sC (.int 1)),.bor 0]),.ex (af none none cI [.ex (sC (.int 1)),.bor 0])]))
noncomputable def iR:FS:=ai 1 1 none sj
abbrev iT:=OkY "fan_ties" ["n"] 2 none iR
theorem qQ(h:Has K mg "fan_ties" (top 38) ["n"])(T:Txt K mg)(G25:dh P w K mg base)(G9:fI P w K mg base):iT P w K mg base:=by
 trace "ȑz]ƽЛЛS#įЛS"
noncomputable def h9:SS:=(ah (aO (aH gEq [.ex (sOp gIx [.bor 0,.ex (sC (.int 0))]),.ex (sC (.str "spine"))]) (au (af none none cK [.ex (sOp gIx [.bor 0,.ex (sC (.int 1))])])) aU) (ah (aO (aH gEq [.ex (sOp gIx [.bor 0,.ex (sC (.int 0))]),.ex (sC (.str "sides"))]) (au (af none none ii [.ex (sOp gIx [.bor 0,.ex (sC (.int 1))]),.ex (sOp gIx [.bor 0,.ex (sC (.int 2))])])) aU) (eN "NoKind")))
noncomputable def cb:FS:=ai 1 1 none h9
abbrev iq:=OkY "parted_made" ["kind"] 2 none cb
theorem lX(h:Has K mg "parted_made" (top 50) ["kind"])(T:Txt K mg)(G41:il P w K mg base)(G39:ip P w K mg base)(R_NoKind:cQ K mg base "NoKind"):iq P w K mg base:=by
 trace "ȣǨжбѱƾРжбѱƿѶР*ȋ"
noncomputable def j5:SS:=(au (aG [(bd 1),(af none none dy [.bor 2,.ex (af none none dW [.bor 0,.bor 1])])]))
noncomputable def de:FS:=ai 3 3 none j5
abbrev gL:=OkY "filled_to" ["web", "numbers", "total"] 2 none de
theorem pe(h:Has K mg "filled_to" (top 57) ["web", "numbers", "total"])(T:Txt K mg)(G34:ju P w K mg base)(G4:iU P w K mg base):gL P w K mg base:=by
 trace "ɗz8ЙǧǀqŜjrǦ"
abbrev di:=OkY "_law_draw" ["pen", "many"] 2 (some 0) az
theorem pk(h:Has K mg "_law_draw" (top 65) ["pen", "many"])(T:Txt K mg)(G14:ky P w K mg base):di P w K mg base:=by
 trace "ɘǨжѠm@^%5Ȥċ^%Fǰ*ȃǰ25ȤŝP]ŝЄW)Fǰd@#ċѠ%"
noncomputable def aS:SS:=(aO (sOr (bU (bQ (.ex (sOp (fB "tuple") [.bor 2])))) (sOr (aH gNe [.ex (sOp bu [.bor 2]),.bor 3]) (bU (bQ (.ex (sOp jQ [.ex (a8 1 (bB (bd 2)) (.nm 7) none (af none none dD [.bor 7]))])))))) (au (sC .non)) aU)
noncomputable def bz:SS:=(ah (aO (sOr (aH gLt [.bor 5,.ex (sC (.int 1))]) (sOr (aH gGt [.bor 5,.ex (sOp aE [.ex (sOp gIx [.bor 0,.ex (sC (.int 0))]),.ex (sOp bu [.ex (sOp gIx [.bor 0,.ex (sC (.int 1))])])])]) (aH gIn [.bor 5,.bor 4]))) (au (sC .non)) aU) (dv lg 4 (sC (.bl true)) (bd 5)))
noncomputable def ce:SS:=(aO (aH gNe [.bor 5,.ex (sOp gIx [.bor 6,.ex (sC (.int 0))])]) (au (sC .non)) aU)
noncomputable def eV:SS:=(ah (aO (sOr (bU (bQ (.ex (sOp (fB "tuple") [.bor 1])))) (aH gNe [.ex (sOp bu [.bor 1]),.ex (sC (.int 2))])) (au (sC .non)) aU) (ah (eX (jG [(bd 1),(cA [(sOp gIx [.bor 0,.ex (sC (.int 0))]),(sOp bu [.ex (sOp gIx [.bor 0,.ex (sC (.int 1))])])])]) (.tp [(.nm 2),(.nm 3)]) aS) (ah (a7 4 (nP (.dK [] []))) (ah (eX (bB (sOp aE [.ex (sOp gIx [.bor 1,.ex (sC (.int 0))]),.ex (sOp gIx [.bor 1,.ex (sC (.int 1))])])) (.nm 5) bz) (ah (a7 6 (a8 3 (dL (sOp gIx [.bor 0,.ex (sC (.int 1))])) (.tp [(.nm 7),(.tp [(.nm 8),(.nm 9)])]) none (sOp aE [.ex (sOp aE [.ex (sOp gIx [.ex (sOp gIx [.bor 1,.ex (sC (.int 0))]),.bor 8]),.ex (sOp gIx [.ex (sOp gIx [.bor 1,.ex (sC (.int 0))]),.bor 9])]),.ex (sOp gIx [.ex (sOp gIx [.bor 1,.ex (sC (.int 1))]),.bor 7])]))) (ah (eX (bB (bd 6)) (.nm 5) ce) (au (sOp gIx [.bor 6,.ex (sC (.int 0))]))))))))
noncomputable def bS:FS:=ai 2 7 none eV
abbrev fg:=OkY "_law_total_due" ["web", "thing"] 2 none bS
theorem je(h:Has K mg "_law_total_due" (top 68) ["web", "thing"])(T:Txt K mg)(G29:jz P w K mg base):fg P w K mg base:=by
 trace "əǨТу6ǲЇаG2КȥЙǧ1ǧsǧǱЄǦǦǾЮЮOѣēNyуNǲЇ%6yȄPɚȦѥǂrѨѩşКĉ+^^ǷѲĕЀNǃ[+бǱЄ6ȧЊѨ2*ȨĀ0ǰ5ɛȦǭȉsѡĭҍѢOд]]>^[>^[>^%Кĉ0Ƿѣǲ%^ѨЋs"
noncomputable def fJ:SS:=(au (b9 (sOp jQ [.ex (a8 1 (bB (bd 0)) (.nm 3) none (af none none aV [.bor 3,.bor 1,.bor 2]))]) (sOp gEq [.ex (sOp bu [.ex (sOp vK [.bor 0])]),.ex (sOp bu [.bor 0])])))
noncomputable def bE:FS:=ai 3 3 none fJ
abbrev dq:=OkY "unlike_within" ["things", "least", "most"] 3 none bE
theorem jJ(h:Has K mg "unlike_within" (top 3) ["things", "least", "most"])(T:Txt K mg)(G47:bw P w K mg base):dq P w K mg base:=by
 trace "ɜтȄPɝɞѥıjjrEǶ#ǱPɟrЇ"
noncomputable def jZ:SS:=(au (af none none aV [.bor 0,.ex (sC (.int 1)),.ex (sC (.int 40))]))
noncomputable def eF:FS:=ai 1 1 none jZ
abbrev kq:=OkY "many_good" ["thing"] 3 none eF
theorem o8(h:Has K mg "many_good" (top 19) ["thing"])(T:Txt K mg)(G47:bw P w K mg base):kq P w K mg base:=by
 trace "ȈzŠЦPȌ)"
noncomputable def lC:SS:=(au (af none none aV [.bor 1,.ex (sC (.int 0)),.ex (sOp cB [.bor 0,.ex (sC (.int 1))])]))
noncomputable def fG:FS:=ai 2 2 none lC
abbrev mO:=OkY "is_place" ["many", "thing"] 3 none fG
theorem qP(h:Has K mg "is_place" (top 21) ["many", "thing"])(T:Txt K mg)(G47:bw P w K mg base):mO P w K mg base:=by
 trace "ȩzŠЦP9ѧ"
noncomputable def j0:SS:=(ah (aO (sOr (bU (bQ (.ex (sOp (fB "tuple") [.bor 0])))) (aH gEq [.ex (sOp bu [.bor 0]),.ex (sC (.int 0))])) (au (sC (.bl false))) aU) (au (sOp jQ [.ex (a8 1 (bB (bd 0)) (.nm 1) none (af none none aV [.bor 1,.ex (sC (.int 0)),.ex (sC (.int 40))]))])))
noncomputable def eG:FS:=ai 1 1 none j0
abbrev kr:=OkY "legs_good" ["thing"] 3 none eG
theorem o9(h:Has K mg "legs_good" (top 28) ["thing"])(T:Txt K mg)(G47:bw P w K mg base):kr P w K mg base:=by
 trace "ȈǨТу6ǪЇWѪȄPɠɡѥıЦPȌЏ"
noncomputable def dI:SS:=(ah (aO (aH gNe [.ex (sOp bu [.bor 1]),.ex (sOp bu [.bor 0])]) (au (sC (.bl false))) aU) (au (sOp jQ [.ex (a8 2 (jG [(bd 0),(bd 1)]) (.tp [(.nm 2),(.nm 3)]) none (af none none aV [.bor 3,.bor 2,.ex (sC (.int 40))]))])))
noncomputable def bv:FS:=ai 2 2 none dI
abbrev gK:=OkY "numbers_good" ["leasts", "things"] 3 none bv
theorem kG(h:Has K mg "numbers_good" (top 29) ["leasts", "things"])(T:Txt K mg)(G47:bw P w K mg base):gK P w K mg base:=by
 trace "ɢǨЂǲЇЇѪȄPɣɤǭȥЙЙǦѡѢдıjqȌЏ"
noncomputable def oN:SS:=(au (sOp aE [.ex (af none none iR [.bor 0]),.ex (cA [(aG [(sC (.int 1)),(bd 0)])])]))
noncomputable def jm:FS:=ai 1 1 none oN
abbrev jt:=OkY "wheel_ties" ["n"] 3 none jm
theorem mW(h:Has K mg "wheel_ties" (top 39) ["n"])(T:Txt K mg)(G5:iT P w K mg base):jt P w K mg base:=by
 trace "ȑz]šS#1vЁЙǦǦ"
noncomputable def hX:SS:=(ah (a7 3 (sOp aE [.ex (a8 1 (ci (.bor 1)) (.nm 4) none (sOp kN [.ex (sOp aE [.bor 2,.ex (sC (.int 1))]),.ex (sOp aE [.bor 4,.ex (sC (.int 1))])])),.ex (sOp dS [.ex (sOp gA [.ex (sC (.int 1)),.ex (sOp aE [.bor 2,.ex (sC (.int 1))])])])])) (au (af none none de [.bor 0,.ex (sOp dl [.bor 3]),.ex (sOp kN [.ex (sOp aE [.bor 1,.ex (sC (.int 2))]),.ex (sOp aE [.bor 2,.ex (sC (.int 1))])])])))
noncomputable def cM:FS:=ai 3 4 none hX
abbrev im:=OkY "sides_total" ["web", "m", "n"] 3 none cM
theorem lV(h:Has K mg "sides_total" (top 59) ["web", "m", "n"])(T:Txt K mg)(G16:gL P w K mg base):im P w K mg base:=by
 trace "ɥ}]ɦɧǭхЖĊѦѦ#ȁPȂЛPЧЏdŢqȢSPĊѦѦ)"
noncomputable def gb:SS:=(ah (aO (aH gEq [.ex (af (some 0) (some 0) az [.bor 0,.ex (sC (.int 6))]),.ex (sC (.int 0))]) (au (sOp gIx [.ex (cA [(sOp jl [.ex (aG [(sC (.int 0))]),.ex (sC (.int 40))]),(aG [(sC (.int 39))]),(sOp jl [.ex (aG [(sC (.int 1))]),.ex (sC (.int 20))]),(aG [(sC (.int 0)),(sC (.int 0)),(sC (.int 0)),(sC (.int 36))]),(aG [(sC (.int 9)),(sC (.int 0)),(sC (.int 9)),(sC (.int 0)),(sC (.int 9)),(sC (.int 7))]),(sOp jl [.ex (aG [(sC (.int 0))]),.ex (sC (.int 39))])]),.ex (af (some 0) (some 0) az [.bor 0,.ex (sC (.int 6))])])) aU) (au (sOp dl [.ex (a8 1 (ci (.ex (sOp aE [.ex (sC (.int 1)),.ex (af (some 0) (some 0) az [.bor 0,.ex (sC (.int 6))])]))) (.nm 1) none (af (some 0) (some 0) az [.bor 0,.ex (sC (.int 6))]))])))
noncomputable def dg:FS:=ai 1 1 (some 0) gb
abbrev kA:=OkY "_law_legs" ["pen"] 3 (some 0) dg
theorem pj(h:Has K mg "_law_legs" (top 71) ["pen"])(T:Txt K mg)(G12:di P w K mg base):kA P w K mg base:=by
 trace "ȪǨжѫа>#1ǧĲ#8ЈWvЈǧĲ#8ЈWvЁЁНvЁЁЁЁНǧĲ#8ЈWǦѫЋЯɨɩǭȟP+WҎЦЏЖŤЦЏ"
noncomputable def fk:SS:=(ah (aO (aH gEq [.ex (af (some 0) (some 0) az [.bor 0,.ex (sC (.int 6))]),.ex (sC (.int 0))]) (au (sOp gIx [.ex (cA [(aG [(sC (.int 1)),(sC (.int 39))]),(aG [(sC (.int 39)),(sC (.int 1))]),(aG [(sC (.int 6)),(sC (.int 10))]),(aG [(sC (.int 10)),(sC (.int 6))]),(aG [(sC (.int 7)),(sC (.int 8))]),(aG [(sC (.int 2)),(sC (.int 30))])]),.ex (af (some 0) (some 0) az [.bor 0,.ex (sC (.int 6))])])) aU) (au (aG [(sOp aE [.ex (sC (.int 1)),.ex (af (some 0) (some 0) az [.bor 0,.ex (sC (.int 6))])]),(sOp aE [.ex (sC (.int 1)),.ex (af (some 0) (some 0) az [.bor 0,.ex (sC (.int 9))])])])))
noncomputable def cz:FS:=ai 1 1 (some 0) fk
abbrev jA:=OkY "_law_sizes" ["pen"] 3 (some 0) cz
theorem ng(h:Has K mg "_law_sizes" (top 72) ["pen"])(T:Txt K mg)(G12:di P w K mg base):jA P w K mg base:=by
 trace "ȪǨжѫа>#1ццццццǦѫЋ8ǧ+Wѫǧ+WѫǦ"
noncomputable def f9:SS:=(ah (a7 1 (cA [(sC .non),(sC (.int 0)),(sC (.str "")),(aG []),(aG [(sC (.str "spine"))]),(aG [(sC (.str "ring"))]),(aG [(sC (.str "ring")),(sC (.int 2))]),(aG [(sC (.str "ring")),(sC (.int 41))]),(aG [(sC (.str "sides")),(sC (.int 2))]),(aG [(sC (.str "sides")),(sC (.int 0)),(sC (.int 3))])])) (ah (a7 1 (sOp aE [.bor 1,.ex (cA [(cA [(sC (.str "ring")),(sC (.int 5))]),(aG [(sC (.str "ring")),(sC (.bl true))]),(aG [(sC (.str "sides")),(sC (.int 8)),(sC (.int 8))]),(aG [(sC (.str "spine")),(aG [(sC (.int 0)),(sC (.int 39)),(sC (.int 1))])]),(aG [(sC (.str "spine")),(cA [(sC (.int 1)),(sC (.int 1))])])])])) (ah (a7 1 (sOp aE [.bor 1,.ex (cA [(aG [(sC (.str "spine")),(sC (.int 3))]),(aG [(sC (.str "Ring")),(sC (.int 5))]),(aG [(sC (.str "full")),(sC (.int 1))]),(aG [(sC (.str "full")),(sC (.int 5))]),(aG [(sC (.str "wheel")),(sC (.int 4))]),(aG [(sC (.str "fan")),(sC (.int 3))]),(aG [(sC (.str "fan")),(sC (.int 1))])])])) (ah (a7 1 (sOp aE [.bor 1,.ex (cA [(aG [(sC (.str "path")),(sC (.int 5))]),(aG [(sC (.str "ring")),(sC (.int 5)),(sC (.int 5))]),(nP (.dK [] [])),(aG [(sC (.int 5))])])])) (au (sOp gIx [.bor 1,.ex (af (some 0) (some 0) az [.bor 0,.ex (sOp bu [.bor 1])])]))))))
noncomputable def bM:FS:=ai 1 2 (some 0) f9
abbrev gM:=OkY "_law_no_kind" ["pen"] 3 (some 0) bM
theorem kJ(h:Has K mg "_law_no_kind" (top 73) ["pen"])(T:Txt K mg)(G12:di P w K mg base):gM P w K mg base:=by
 trace "ɪ}1ǧGЁгvѬѬǦ~~~ФНǦm+[1ǧ1гЈФǧĀѬНФvЁНѬǧ1НǦǦm+[1~~~~~~~Ǧm+[1~ФНǧşvЈǦd>[ţqш)"
noncomputable def j6:SS:=(au (b9 (sOp gEq [.ex (sOp bu [.bor 0]),.bor 1]) (af none none bE [.bor 0,.ex (sC (.int 1)),.bor 1])))
noncomputable def eJ:FS:=ai 2 2 none j6
abbrev kx:=OkY "each_once" ["things", "most"] 4 none eJ
theorem ph(h:Has K mg "each_once" (top 4) ["things", "most"])(T:Txt K mg)(G48:dq P w K mg base):kx P w K mg base:=by
 trace "ɫтǶЇ%EťЦS"
noncomputable def ls:SS:=(ah (aO (sOr (bU (bQ (.ex (sOp (fB "tuple") [.bor 1])))) (aH gNe [.ex (sOp bu [.bor 1]),.ex (sC (.int 2))])) (au (sC .non)) aU) (ah (aO (sOr (bU (bQ (.ex (sOp jQ [.ex (a8 1 (bB (bd 1)) (.nm 2) none (af none none fG [.bor 0,.bor 2]))])))) (aH gEq [.ex (sOp gIx [.bor 1,.ex (sC (.int 0))]),.ex (sOp gIx [.bor 1,.ex (sC (.int 1))])])) (au (sC .non)) aU) (au (aG [(sOp e8 [.bor 1]),(sOp eC [.bor 1])]))))
noncomputable def fC:FS:=ai 2 2 none ls
abbrev mJ:=OkY "tie_told" ["many", "thing"] 4 none fC
theorem qJ(h:Has K mg "tie_told" (top 20) ["many", "thing"])(T:Txt K mg)(G6:mO P w K mg base):mJ P w K mg base:=by
 trace "ȩǨТу6ǲЇаG2ТȄPɬɭѥǄjr6Ǫ^^ѨЋ8ǧȍSǧȊSǦ"
noncomputable def el:SS:=(ah (aO (sOr (bU (bQ (.ex (sOp (fB "tuple") [.bor 0])))) (aH gLt [.ex (sOp bu [.bor 0]),.ex (sC (.int 2))])) (au (sC (.bl false))) aU) (ah (a7 1 (sOp gIx [.bor 0,.ex (sC (.int 0))])) (ah (aO (aH gEq [.bor 1,.ex (sC (.str "spine"))]) (au (b9 (sOp gEq [.ex (sOp bu [.bor 0]),.ex (sC (.int 2))]) (af none none eG [.ex (sOp gIx [.bor 0,.ex (sC (.int 1))])]))) aU) (ah (aO (sOr (bU (bQ (.ex (sOp (fB "str") [.bor 1])))) (aH (A7 ba bb true) [.bor 1])) (au (sC (.bl false))) aU) (au (af none none bv [.ex (sOp (oh ba bb) [.bor 1]),.ex (sOp yr [.bor 0,.ex (sC (.int 1))])]))))))
noncomputable def bj:FS:=ai 1 2 none el
abbrev kw:=OkY "form_good" ["thing"] 4 none bj
theorem pd(h:Has K mg "form_good" (top 27) ["thing"])(T:Txt K mg)(G20:kr P w K mg base)(G45:gK P w K mg base)(M_LEAST_NUMBERS:uU w K mg "LEAST_NUMBERS" ba bb):kw P w K mg base:=by
 trace "ɮǨТу6ĕЇWюѩsЭīǶЇWEǅРТɯ%6ɰ%ѪǆPɱ%Pɲѧ"
noncomputable def gP:SS:=(ah (a7 1 (sOp gIx [.bor 0,.ex (sC (.int 0))])) (ah (aO (aH gEq [.bor 1,.ex (sC (.str "spine"))]) (au (af none none dA [.ex (sOp gIx [.bor 0,.ex (sC (.int 1))])])) aU) (ah (aO (aH gEq [.bor 1,.ex (sC (.str "ring"))]) (au (af none none eD [.ex (sOp gIx [.bor 0,.ex (sC (.int 1))])])) aU) (ah (aO (aH gEq [.bor 1,.ex (sC (.str "sides"))]) (au (af none none dB [.ex (sOp gIx [.bor 0,.ex (sC (.int 1))]),.ex (sOp gIx [.bor 0,.ex (sC (.int 2))])])) aU) (ah (aO (aH gEq [.bor 1,.ex (sC (.str "full"))]) (au (af none none ke [.ex (sOp gIx [.bor 0,.ex (sC (.int 1))])])) aU) (ah (aO (aH gEq [.bor 1,.ex (sC (.str "wheel"))]) (au (af none none jm [.ex (sOp gIx [.bor 0,.ex (sC (.int 1))])])) aU) (au (af none none iR [.ex (sOp gIx [.bor 0,.ex (sC (.int 1))])]))))))))
noncomputable def bG:FS:=ai 1 2 none gP
abbrev jS:=OkY "ties_in" ["kind"] 4 none bG
theorem sN(h:Has K mg "ties_in" (top 31) ["kind"])(T:Txt K mg)(G32:jw P w K mg base)(G24:km P w K mg base)(G31:jx P w K mg base)(G18:ku P w K mg base)(G35:jt P w K mg base)(G5:iT P w K mg base):jS P w K mg base:=by
 trace "ȕ}sЭǇРЭǈРЭǉѶРЭǊРЭǋЄЋšЄ"
noncomputable def i4:SS:=(ah (a7 2 (sOp bu [.ex (sOp gIx [.bor 0,.ex (sC (.int 1))])])) (ah (aO (sOr (bU (bQ (.ex (af none none bI [.bor 0,.bor 1])))) (bU (bQ (.ex (af none none bE [.bor 1,.ex (sC (.int 0)),.bor 2]))))) (au (sC (.bl false))) aU) (au (sOp gEq [.ex (sOp cG [.ex (af none none fD [.bor 0,.bor 1])]),.ex (sOp dS [.ex (sOp gA [.ex (sC (.int 1)),.ex (sOp aE [.bor 2,.ex (sC (.int 1))])])])]))))
noncomputable def dz:FS:=ai 2 3 none i4
abbrev jv:=OkY "steps_good" ["web", "thing"] 4 none dz
theorem mY(h:Has K mg "steps_good" (top 41) ["web", "thing"])(T:Txt K mg)(G51:eL P w K mg base)(G48:dq P w K mg base)(G10:mK P w K mg base):jv P w K mg base:=by
 trace "ɳ}ǱЄТǌС6yťЦSѪǶ#ȎPǍjr#ȁPȂЛPЧЏ"
noncomputable def iC:SS:=(ah (a7 5 (af none none fC [.bor 0,.bor 4])) (ah (aO (sOr (aH gIs [.bor 5,.ex (sC .non)]) (sOr (aH gIn [.bor 5,.bor 2]) (aH gGe [.bor 3,.ex (sC (.int 60))]))) (fun _=>none) aU) (dv lg 2 (sC (.bl true)) (bd 5))))
noncomputable def qm:SS:=(ah (aO (bU (bQ (.ex (af none none eF [.bor 0])))) (fun _=>none) aU) (ah (a7 2 (nP (.dT [] []))) (ah (eX (dL (bd 1)) (.tp [(.nm 3),(.nm 4)]) iC) (au (aG [(bd 0),(sOp dl [.ex (sOp cG [.bor 2])])])))))
noncomputable def jn:FS:=ai 2 6 none qm
abbrev rR:=OkY "web_of" ["many", "things"] 5 none jn
theorem vw(h:Has K mg "web_of" (top 22) ["many", "things"])(T:Txt K mg)(G21:kq P w K mg base)(G11:mJ P w K mg base):rR P w K mg base:=by
 trace "ɴǨЂyǎS*ŦѩǏКȉ0ǾЮЮOmǐСѲĳ[GNȧЊ6Ǒ[ȫ*Ŧ2*ȨĀ0ǰd8ЙǧЯȎrǦ"
noncomputable def j4:SS:=(au (b9 (af none none bj [.bor 0]) (b9 (sOp gLe [.ex (af none none a9 [.bor 0]),.ex (sC (.int 40))]) (sOp gLe [.ex (sOp bu [.ex (af none none bG [.bor 0])]),.ex (sC (.int 60))]))))
noncomputable def eI:FS:=ai 1 1 none j4
abbrev kt:=OkY "kind_good" ["thing"] 5 none eI
theorem pb(h:Has K mg "kind_good" (top 25) ["thing"])(T:Txt K mg)(G17:kw P w K mg base)(G23:gJ P w K mg base)(G2:jS P w K mg base):kt P w K mg base:=by
 trace "ȈтǒSīŧ#ŨS#ȌEŧ#ǱPũr#ȫ"
noncomputable def ia:SS:=(aO (bU (bQ (.ex (af none none dz [.bor 0,.bor 1])))) (eN "NoNumber") aU)
noncomputable def cO:FS:=ai 2 2 none ia
abbrev ir:=OkY "check_steps" ["web", "thing"] 5 none cO
theorem lY(h:Has K mg "check_steps" (top 44) ["web", "thing"])(T:Txt K mg)(G33:jv P w K mg base)(R_NoNumber:cQ K mg base "NoNumber"):ir P w K mg base:=by
 trace "șǨѣyǓС*Ȓ2"
noncomputable def qp:SS:=(ah (aO (sOr (bU (bQ (.ex (sOp (fB "tuple") [.bor 1])))) (bU (bQ (.ex (af none none eJ [.bor 1,.ex (sOp gIx [.bor 0,.ex (sC (.int 0))])]))))) (eN "NoNumber") aU) (ah (a7 2 (af none none dW [.bor 0,.bor 1])) (ah (a7 3 (sOp bu [.bor 2])) (ah (a7 4 (sOp e8 [.bor 2])) (ah (aO (aH gNe [.ex (sOp cG [.bor 2]),.ex (sOp dS [.ex (sOp gA [.bor 4,.ex (sOp aE [.bor 4,.bor 3])])])]) (au (sC .non)) aU) (au (af none none de [.bor 0,.bor 1,.ex (sOp aE [.ex (sOp aE [.bor 4,.ex (sOp gIx [.bor 0,.ex (sC (.int 0))])]),.bor 3])])))))))
noncomputable def gB:FS:=ai 2 5 none qp
abbrev rT:=OkY "low_by" ["web", "numbers"] 5 none gB
theorem vx(h:Has K mg "low_by" (top 56) ["web", "numbers"])(T:Txt K mg)(G15:kx P w K mg base)(G4:iU P w K mg base)(G16:gL P w K mg base)(R_NoNumber:cQ K mg base "NoNumber"):rT P w K mg base:=by
 trace "ɵǨТу6yǔjЄ*ȒѩŜСmшmȍSЂǲ#ȎS#ȁPȂq+ЊЏѨЋŢjq]+%^%)"
noncomputable def nM:SS:=(ah (aO (bU (bQ (.ex (af none none eI [.bor 0])))) (eN "NoKind") aU) (au (af none none jn [.ex (af none none a9 [.bor 0]),.ex (af none none bG [.bor 0])])))
noncomputable def dF:FS:=ai 1 1 none nM
abbrev gZ:=OkY "web_for" ["kind"] 6 none dF
theorem sM(h:Has K mg "web_for" (top 26) ["kind"])(T:Txt K mg)(G19:kt P w K mg base)(G1:rR P w K mg base)(G23:gJ P w K mg base)(G2:jS P w K mg base)(R_NoKind:cQ K mg base "NoKind"):gZ P w K mg base:=by
 trace "ȣǨЂyǕS*ȋЋǖPŨSPũr"
noncomputable def jY:SS:=(ah (b8 (af none none cO [.bor 0,.bor 1])) (ah (aO (bU (bQ (.ex (sOp gIx [.bor 0,.ex (sC (.int 1))])))) (au (sC .non)) aU) (ah (a7 2 (sOp eC [.ex (a8 2 (bB (sOp gIx [.bor 0,.ex (sC (.int 1))])) (.tp [(.nm 4),(.nm 5)]) none (sOp e8 [.ex (sOp gIx [.bor 1,.bor 4]),.ex (sOp gIx [.bor 1,.bor 5])]))])) (ah (a7 3 (sOp e8 [.ex (a8 2 (bB (sOp gIx [.bor 0,.ex (sC (.int 1))])) (.tp [(.nm 4),(.nm 5)]) none (sOp eC [.ex (sOp gIx [.bor 1,.bor 4]),.ex (sOp gIx [.bor 1,.bor 5])]))])) (au (sIf (aH gLt [.bor 2,.bor 3]) (bd 2) (sC .non)))))))
noncomputable def eE:FS:=ai 2 4 none jY
abbrev ko:=OkY "parted_at" ["web", "numbers"] 6 none eE
theorem o7(h:Has K mg "parted_at" (top 45) ["web", "numbers"])(T:Txt K mg)(G37:ir P w K mg base):ko P w K mg base:=by
 trace "ɶǨѤǗСЂѾ^ѨѩȊPȬȭэsѡѢдȍPфPфЏmȍPȬȭэsѡѢдȊPфPфЏdĮĕЊ0G"
noncomputable def eU:SS:=(ah (a7 2 (af none none eE [.bor 0,.bor 1])) (ah (aO (aH gIs [.bor 2,.ex (sC .non)]) (eN "NoNumber") aU) (cW 2)))
noncomputable def bR:FS:=ai 2 3 none eU
abbrev ff:=OkY "parting_number" ["web", "numbers"] 7 none bR
theorem jd(h:Has K mg "parting_number" (top 46) ["web", "numbers"])(T:Txt K mg)(G22:ko P w K mg base)(R_NoNumber:cQ K mg base "NoNumber"):ff P w K mg base:=by
 trace "ɷ}ǘСЂĳ[G*Ȓ2*ȃǰ"
noncomputable def i7:SS:=(ah (a7 1 (af none none dF [.bor 0])) (ah (aO (bU (bQ (.ex (sOp gIx [.bor 1,.ex (sC (.int 1))])))) (eN "NoKind") aU) (au (af none none cb [.bor 0]))))
noncomputable def dC:FS:=ai 1 2 none i7
abbrev jy:=OkY "parted_for" ["kind"] 7 none dC
theorem na(h:Has K mg "parted_for" (top 49) ["kind"])(T:Txt K mg)(G3:gZ P w K mg base)(G38:iq P w K mg base)(R_NoKind:cQ K mg base "NoKind"):jy P w K mg base:=by
 trace "Ȯ}ĴSЂѾ^*ȋЋǙS"
noncomputable def fZ:SS:=(ah (a7 2 (af none none bR [.bor 0,.bor 1])) (ah (a7 3 (sOp aE [.ex (sOp aE [.ex (sOp bu [.ex (sOp gIx [.bor 0,.ex (sC (.int 1))])]),.bor 2]),.ex (sC (.int 1))])) (au (sOp dl [.ex (a8 1 (bB (bd 1)) (.nm 4) none (sIf (aH gLe [.bor 4,.bor 2]) (bd 4) (sOp cB [.bor 3,.bor 4])))]))))
noncomputable def bL:FS:=ai 2 4 none fZ
abbrev gH:=OkY "upper_turned" ["web", "numbers"] 8 none bL
theorem kF(h:Has K mg "upper_turned" (top 47) ["web", "numbers"])(T:Txt K mg)(G50:ff P w K mg base):gH P w K mg base:=by
 trace "ɸǨ5ǿǚС5ǿ]]ǱЄЀdЯɹɺѥĮǛЊ09Њ)"
noncomputable def cV:SS:=(ah (a7 1 (af none none dF [.bor 0])) (ah (aO (aH gEq [.ex (sOp gIx [.bor 0,.ex (sC (.int 0))]),.ex (sC (.str "sides"))]) (au (af none none cM [.bor 1,.ex (sOp gIx [.bor 0,.ex (sC (.int 1))]),.ex (sOp gIx [.bor 0,.ex (sC (.int 2))])])) aU) (ah (aO (g6 (aH gEq [.ex (sOp gIx [.bor 0,.ex (sC (.int 0))]),.ex (sC (.str "spine"))]) (bQ (.ex (sOp gIx [.bor 1,.ex (sC (.int 1))])))) (au (af none none gB [.bor 1,.ex (sOp dl [.ex (a8 1 (bB (af none none bL [.bor 1,.ex (af none none dC [.bor 0])])) (.nm 2) none (sOp aE [.bor 2,.ex (sC (.int 1))]))])])) aU) (ah (aO (g6 (aH gEq [.ex (sOp gIx [.bor 0,.ex (sC (.int 0))]),.ex (sC (.str "ring"))]) (aH gEq [.ex (sOp hU [.ex (sOp gIx [.bor 0,.ex (sC (.int 1))]),.ex (sC (.int 2))]),.ex (sC (.int 1))])) (au (af none none gB [.bor 1,.ex (af none none fE [.ex (sOp gIx [.bor 0,.ex (sC (.int 1))])])])) aU) (eN "NoKind")))))
noncomputable def aP:FS:=ai 1 2 none cV
abbrev gI:=OkY "total_for" ["kind"] 9 none aP
theorem oZ(h:Has K mg "total_for" (top 58) ["kind"])(T:Txt K mg)(G3:gZ P w K mg base)(G40:im P w K mg base)(G0:rT P w K mg base)(G46:gH P w K mg base)(G30:jy P w K mg base)(G8:mL P w K mg base)(R_NoKind:cQ K mg base "NoKind"):gI P w K mg base:=by
 trace "Ȯ}ĴSжбѱǜjѶРѷĖǪбKėŞ^dŪqЯɻɼэǝqǞrЖЧЏ2ѷĖǪбKėǪ#@ѠаŪqǟЄ)2*ȋ"
noncomputable def f8:SS:=(ah (wR nms 1 (b8 (af none none aP [.bor 0])) (au (sOp gEq [.ex (Kd.qr nms 1),.ex (sC (.str "kind"))]))) (au (sC (.bl false))))
noncomputable def aM:FS:=ai 1 2 none f8
abbrev dY:=OkY "_law_refused" ["thing"] 10 none aM
theorem kH(h:Has K mg "_law_refused" (top 69) ["thing"])(T:Txt K mg)(G26:gI P w K mg base){TEa:Addr}(HT:Hdl K mg "TieError" TEa)(SU:∀ nm,nms.elem nm=true->∀ C,gE K nm C->PySem.W.subIn K (.ref C) (.ref TEa)=some true)(GK:OkA P w K mg base "_law_kind_of" ["e"] 1 (Kd.se K mg))(KN:Kd.zi K mg nms):dY P w K mg base:=by
 trace "ɽǨ5ɾǹ*ĔɿSǹdǶ#ʀ#ѱĀ"
noncomputable def cr:SS:=(ah (aO (sOr (aH gEq [.bor 0,.ex (aG [(sC (.str "spine")),(aG [(sC (.int 0))])])]) (g6 (aH gEq [.ex (sOp gIx [.bor 0,.ex (sC (.int 0))]),.ex (sC (.str "ring"))]) (aH gEq [.ex (sOp hU [.ex (sOp gIx [.bor 0,.ex (sC (.int 1))]),.ex (sC (.int 2))]),.ex (sC (.int 0))]))) (au (af none none aM [.bor 0])) aU) (ah (a7 1 (af none none aP [.bor 0])) (ah (a7 2 (af none none dF [.bor 0])) (ah (aO (aH gIs [.ex (af none none bS [.bor 2,.bor 1]),.ex (sC .non)]) (au (sC (.bl false))) aU) (ah (aO (g6 (aH gNe [.ex (sOp gIx [.bor 0,.ex (sC (.int 0))]),.ex (sC (.str "sides"))]) (aH gNe [.ex (sOp cG [.ex (sOp gIx [.bor 1,.ex (sC (.int 0))])]),.ex (sOp dS [.ex (sOp gA [.ex (sC (.int 1)),.ex (sOp aE [.ex (sOp gIx [.bor 2,.ex (sC (.int 0))]),.ex (sC (.int 1))])])])])) (au (sC (.bl false))) aU) (au (sOp gEq [.ex (af none none aP [.bor 0]),.bor 1])))))))
noncomputable def aq:FS:=ai 1 3 none cr
abbrev jB:=OkY "_law_right" ["kind"] 11 none aq
theorem nh(h:Has K mg "_law_right" (top 70) ["kind"])(T:Txt K mg)(G44:dY P w K mg base)(G26:gI P w K mg base)(G3:gZ P w K mg base)(G49:fg P w K mg base):jB P w K mg base:=by
 trace "ʁǨѲǪ[8гvЈǦ6ēĖǪбKėǪ#@ѠаǠSѩūSmĴSЂĳ#ǡС#Gю2ѷĖǲбKėǲ#ȎЄ#ȁPȂЛP+ѠЏѪǶ#ūS%"
noncomputable def ub:SS:=(aO (bU (bQ (.ex (af none none aq [.bor 1])))) (au (sC (.bl false))) aU)
noncomputable def kQ:SS:=(ah (a7 3 (af none none bH [.bor 2])) (ah (aO (sOr (bU (bQ (.ex (af none none aq [.ex (aG [(sC (.str "spine")),(af (some 0) (some 3) dg [.bor 3])])])))) (bU (bQ (.ex (af none none aq [.ex (aG [(sC (.str "ring")),(sOp aE [.ex (sC (.int 3)),.ex (af (some 0) (some 3) az [.bor 3,.ex (sC (.int 38))])])])]))))) (au (sC (.bl false))) aU) (ah (aO (bU (bQ (.ex (af none none aq [.ex (sOp aE [.ex (aG [(sC (.str "sides"))]),.ex (af (some 0) (some 3) cz [.bor 3])])])))) (au (sC (.bl false))) aU) (aO (sOr (bU (bQ (.ex (af none none aM [.ex (af (some 0) (some 3) bM [.bor 3])])))) (bU (bQ (.ex (af none none aM [.ex (af (some 0) (some 3) bM [.bor 3])]))))) (au (sC (.bl false))) aU))))
noncomputable def wP:SS:=(ah (eX (bB (cA [(aG [(sC (.str "spine")),(aG [(sC (.int 0))])]),(aG [(sC (.str "spine")),(aG [(sC (.int 0)),(sC (.int 0))])]),(aG [(sC (.str "spine")),(aG [(sC (.int 1))])]),(aG [(sC (.str "ring")),(sC (.int 3))]),(aG [(sC (.str "sides")),(sC (.int 1)),(sC (.int 1))]),(aG [(sC (.str "ring")),(sC (.int 39))])])) (.nm 1) ub) (ah (eX (bB (sOp aE [.ex (cA [(af none none bc [.bor 0,.ex (sC (.int 0))])]),.ex (sOp (A0 1 4) [.bor 0])])) (.nm 2) kQ) (au (sC (.bl true)))))
noncomputable def rl:FS:=ai 1 4 none wP
theorem ok_law{f0:Addr}{fd0:FuncData}(h:Fun K "law" "law" (top 74) f0 fd0)(T:Txt K mg)(G27:jB P w K mg base)(G42:gN P w K mg base)(G36:iu P w K mg base)(G13:kA P w K mg base)(G12:di P w K mg base)(G28:jA P w K mg base)(G44:dY P w K mg base)(G43:gM P w K mg base):mQ P w K mg base (CXr P w) 12 f0 fd0 ["script"] (spF K none rl):=by
 trace "ʂǨКĉ1ФvЈѬцѬvЈǦ~ФН~ǦǷѣyĘSю2Кĉ]1ǧǢ҂Ǧ#ʃ%ǷmǣSТĘP8гǧǤSǦ)6yĘP8гǧ+W#Ť҂Ǧ)ю2ЂyĘP]8гǦ#ǥrю2ѣēNyŬPŭr6yŬPŭrѪĀ"
end
end K50
namespace K50
open PySem L2
theorem zq{i:Int}:fF [.int i]=some (.ok (.bl true) false,.non):=by
 unfold fF lB
 trace "hH,ЌĵиZ"
theorem eP{i lo hi:Int}:aV [.int i,.int lo,.int hi]=some (.ok (.bl (decide (lo<=i)&&decide (i<=hi))) false,.non):=by
 have h := @zq;unfold aV fY
 trace "hHX:TŰ'Ѹ'ѸRяQ"
theorem t_many{n:Int}:eF [.int n]=some (.ok (.bl (decide (1<=n)&&decide (n<=40))) false,.non):=by
 have h := @eP;unfold eF jZ
 trace "hYcn:Z"
theorem zx{n i:Int}:fG [.int n,.int i]=some (.ok (.bl (decide (0<=i)&&decide (i<=n - 1))) false,.non):=by
 have h := @eP;unfold fG lC
 trace "hYcЍR:Z"
theorem t_told{n a b:Int}(h0:0<=a)(h1:a < b)(h2:b < n):fC [.int n,.tup [.int a,.int b]]=some (.ok (.tup [.int a,.int b]) false,.non):=by
 have h := @zx
 have mn:e8 [.tup [.int a,.int b]]=some (.int a,false):=by
  show some (D.int (if a<=b then a else b),false)=_
  rw [if_pos (by omega)]
 have mx:eC [.tup [.int a,.int b]]=some (.int b,false):=by
  show some (D.int (if b<=a then a else b),false)=_
  rw [if_neg (by omega)]
 have al:jQ [.lst [.bl (decide (0<=a)&&decide (a<=n - 1)),.bl (decide (0<=b)&&decide (b<=n - 1))]]=some (.bl true,false):=by
  rw [Cr h0,Cr (show a<=n - 1 by omega),Cr (show 0<=b by omega),Cr (show b<=n - 1 by omega)];rfl
 unfold fC ls
 trace "ѐxЃǳГХУU'йĂǫp:!ǻĂǫp:!ǻę$ĚВ/tgǼǮ{B&иŲ&иų(Q"
def kT(t:Int×Int):List Key:=[.inl t.1,.inl t.2]
theorem sX{a b:Int×Int}(h:kT a=kT b):a=b:=by
 unfold kT at h;simp at h;exact Prod.ext h.1 h.2
theorem vE{ts:List (Int×Int)}{t:Int×Int}(h:t∉ts):∀ vs:List D,br (ts.map kT) vs (kT t)=none:=by
 induction ts with
 | nil=>intro vs;cases vs<;>rfl
 | cons u ts ih =>
  intro vs
  cases vs with
  | nil=>rfl
  | cons v vs =>
   rw [Cq];unfold br;rw [if_neg (fun e=>h (by rw [sX e];exact Ck))];exact ih (fun z=>h (Ce _ z)) vs
theorem Am{ts:List (Int×Int)}{t:Int×Int}(h:t∉ts):fR (ts.map kT) (List.replicate ts.length (.bl true)) (kT t) (.bl true)=((ts++[t]).map kT,List.replicate (ts++[t]).length (.bl true)):=by
 induction ts with
 | nil=>rfl
 | cons u ts ih =>
  rw [Cq,Cc,De];unfold fR;rw [if_neg (fun e=>h (by rw [sX e];exact Ck)),ih fun z=>h (Ce _ z)];rfl
theorem yd{ts:List (Int×Int)}(h:ts.Nodup):(ts.map kT).Nodup:=by
 induction ts with
 | nil=>exact Eo
 | cons u ts ih =>
  have h:=CS.mp h;rw [Cq];refine CS.mpr ⟨fun z=> ?_,ih h.2⟩;obtain ⟨v,hv,e⟩:=CP.mp z;exact h.1 (by rw [<- sX e];exact hv)
theorem yb(ts:List (Int×Int)):nX (ts.map kT)=some (ts.map fun t=>[t.1,t.2]):=by
 induction ts with
 | nil=>rfl
 | cons u ts ih =>
  rw [Cq];unfold nX;rw [ih];rfl
theorem u4{ts:List (Int×Int)}(h:ts.length < 64){vs:List D}:cG [.dT (ts.map kT) vs]=some (.lst (tD (bg ts)),true):=by
 unfold cG;simp only [yb,B9,h,decide_true,if_true];rw [<- sI,tD_tup]
theorem wD{n:Nat}{ts:List (Int×Int)}(O:cJ n ts):jn [.int (n:Nat),.lst (tD ts)]=some (.ok (cn (n:Nat) (bg ts)) false,.non):=by
 have n0:=O.n0;have n1:=O.n;have ll:=O.l;have tm := @t_many;have tt := @t_told;have sr:=u4 (ts:=ts) (by omega) (vs:=List.replicate ts.length (.bl true))
 obtain ⟨ρ',e,a,b,c,rfl⟩:=gf (T:= .tp [.nm 3,.nm 4]) (f:=iC) (inj:=fun p:(Int×Int)×Nat=> .tup [.int (p.2:Nat),wC p.1]) (fun i (_:Unit) ρ=>∃ a b c,ρ=[some (.int (n:Nat),.fz),some (.lst (tD ts),.fz),some (.dT ((ts.take i).map kT) (List.replicate (ts.take i).length (.bl true)),.ow),a,b,c]) (fun _ _=>()) ts.zipIdx 0 () [some (.int (n:Nat),.fz),some (.lst (tD ts),.fz),some (.dT [] [],.ow),none,none,none] ⟨none,none,none,rfl⟩ (by
  rintro i ⟨t,j⟩ hx _ ρ ⟨a,b,c,rfl⟩;rw [List.getElem?_zipIdx] at hx;obtain ⟨t',ht,e⟩:=C4.mp hx;cases e;rw [C3] at *;have hi:=(Cm.mp ht).1;have hr:=O.r t (Cp ht)
  have tk:ts.take (i+1)=ts.take i++[t]:=by rw [List.take_add_one,ht];rfl
  have nd:(ts.take i++[t]).Nodup:=by rw [<- tk];exact O.d.sublist (El _ _)
  have ni:t∉ts.take i:=fun z=>by
   rw [Em] at nd;exact nd.2.2 t z t (CF.mpr rfl) rfl
  have gi:gIn [.tup [.int t.1,.int t.2],.dT ((ts.take i).map kT) (List.replicate (ts.take i).length (.bl true))]=some (.bl false,false):=by
   show (match (some (br ((ts.take i).map kT) (List.replicate (ts.take i).length (.bl true)) (kT t)).isSome) with | some b=>some (D.bl b,false) | none=>none)=_
   rw [vE ni];rfl
  have up:lg (.dT ((ts.take i).map kT) (List.replicate (ts.take i).length (.bl true))) (.tup [.int t.1,.int t.2]) (.bl true)=some (.dT ((ts.take i++[t]).map kT) (List.replicate (ts.take i++[t]).length (.bl true))):=by
   show (if (small ((ts.take i).map kT).length&&decide ((ts.take i).map kT).Nodup)=true then some (D.dT (fR ((ts.take i).map kT) (List.replicate (ts.take i).length (.bl true)) (kT t) (.bl true)).1 (fR ((ts.take i).map kT) (List.replicate (ts.take i).length (.bl true)) (kT t) (.bl true)).2) else none)=_
   rw [Am ni,if_pos];rw [eQ (by rw [B9,DA];omega),Cr (yd (O.d.sublist (El _ _)))];rfl
  unfold iC
  trace "ČǫkpŴwǩbХѽ=/ЅĹ!/А!Ǯ3ĺA!яĻǬ"
  rw [tk]
  exact ⟨_,_,_,rfl⟩)
 rw [List.length_zipIdx,C3,List.take_length] at e;unfold jn qm
 trace "euҁŵёȯ3kěђčяC.BІ&iVŶR(Q"
end K50
namespace K50
open PySem L2
abbrev spK(legs:List Nat):D:= .tup [.str "spine",.tup (nD (iL legs))]
abbrev ic(n:Int):D:= .tup [.str "ring",.int n]
abbrev fX(m n:Int):D:= .tup [.str "sides",.int m,.int n]
theorem Bv{a b:Int}(h0:0<=a)(h1:a<=1000)(h2:0<=b)(h3:b<=1000):cI [.int a,.int b]=some (.ok (.lst (tD (i9 a (b - a).toNat))) true,.non):=by
 unfold cI lx
 trace "h;ļЅwwǩ!ĽǴкBІ&ч!(TQ"
theorem wE{m a b:Int}(h0:0<=a)(h1:a<=1000)(h2 : -1<=b)(h3:b<=1000):bi [.int m,.int a,.int b]=some (.ok (.lst (tD ((rgI a (b+1 - a).toNat).map fun x=>(m,x)))) true,.non):=by
 unfold bi jW
 trace "h;ļ`ЍRwwǩ!ĽǴкBІІ(TQ"
abbrev enD(p:Nat×Nat):D:= .tup [.int (p.2:Nat),.int (p.1:Nat)]
theorem BZ(legs:List Nat):(iL legs).zipIdx.map (fun p:Int×Nat=>D.tup [.int (p.2:Nat),.int p.1])=legs.zipIdx.map enD:=by
 have:∀ (legs:List Nat) (k:Nat),((iL legs).zipIdx k).map (fun p:Int×Nat=>D.tup [.int (p.2:Nat),.int p.1])=(legs.zipIdx k).map enD:=by
  intro legs
  induction legs with
  | nil=>intro k;rfl
  | cons l r ih=>intro k;show _::_=_::_;rw [<- ih (k+1)]
 exact this legs 0
theorem nL{L:Option (D×Md)}:∀ (r:List Nat) (k:Nat) (fr:Nat) (ts:List (Int×Int)) (a c:Option (D×Md)),ts.length+r.sum<=1000->fr+r.sum<=1000 ->
 ∃ a' c':Option (D×Md),bJ (.tp [.nm 3,.nm 4]) cq ((r.zipIdx k).map enD) [L,some (.lst (tD ts),.ow),some (.int (fr:Nat),.fz),a,c]=some (.nx,[L,some (.lst (tD (ts++stT (k:Nat) (fr:Nat) r)),.ow),some (.int ((fr+r.sum:Nat):Int),.fz),a',c'])
 | [],k,fr,ts,a,c,h,h2=>⟨a,c,by simp [stT];rfl⟩
 | l::r,k,fr,ts,a,c,h,h2=>by
  rw [DB] at h h2;obtain ⟨a',c',e2⟩:=nL r (k+1) (fr+l) (ts++(rgI (fr:Nat) l).map fun x=>((k:Int),x)) (some (.int (k:Nat),.fz)) (some (.int (l:Nat),.fz)) (by simp [av];omega) (by omega);refine ⟨a',c',?_⟩
  have eT:ts++(rgI (fr:Nat) l).map (fun x=>((k:Int),x))++stT ((k+1:Nat):Int) ((fr+l:Nat):Int) r=ts++stT (k:Nat) (fr:Nat) (l::r):=by
   rw [DH];rfl
  rw [eT,show fr+l+r.sum=fr+(l::r).sum by rw [DB];omega] at e2
  have st:bi [.int (k:Nat),.int (fr:Nat),.int ((fr:Int)+(l:Nat) - 1)]=some (.ok (.lst (tD ((rgI (fr:Nat) l).map fun x=>((k:Int),x)))) true,.non):=by
   rw [wE (by omega) (by omega) (by omega) (by omega),show ((fr:Int)+(l:Nat) - 1+1 - (fr:Nat)).toNat=l by omega]
  have ex:bP (.lst (tD ts)) [.lst (tD ((rgI (fr:Nat) l).map fun x=>((k:Int),x)))]=some (.lst (tD (ts++(rgI (fr:Nat) l).map fun x=>((k:Int),x))),.non):=iX (by rw [B9,av];omega)
  have e0:cq [L,some (.lst (tD ts),.ow),some (.int (fr:Nat),.fz),some (.int (k:Nat),.fz),some (.int (l:Nat),.fz)]=some (.nx,[L,some (.lst (tD (ts++(rgI (fr:Nat) l).map fun x=>((k:Int),x))),.ow),some (.int ((fr:Int)+(l:Nat)),.fz),some (.int (k:Nat),.fz),some (.int (l:Nat),.fz)]):=by
   unfold cq
   trace "7ѓє&Y`Ш`ЌnВĿ!ЗĎǬă!Ib!"
  rw [List.zipIdx_cons,Cq];rw [show ((fr+l:Nat):Int)=(fr:Int)+(l:Nat) by omega] at e2
  trace "7ьĝĄ!"
theorem oG{legs:List Nat}(h0:legs≠[])(hb:legs.length+legs.sum<=900):dA [.tup (nD (iL legs))]=some (.ok (.lst (tD (spT legs))) true,.non):=by
 have hl:=Cy.mpr h0;have r:=Bv (a:=0) (b:=(legs.length:Int) - 1) (by omega) (by omega) (by omega) (by omega);rw [show ((legs.length:Int) - 1 - 0).toNat=legs.length - 1 by omega] at r;obtain ⟨a',c',e⟩:=nL (L:=some (.tup (nD (iL legs)),.fz)) legs 0 legs.length (i9 0 (legs.length - 1)) none none (by unfold i9;rw [B9,av];omega) (by omega)
 have ln:bu [.tup (nD (iL legs))]=some (.int (legs.length:Nat),false):=by rw [cH,B9]
 rw [<- BZ] at e;unfold dA i5
 trace "_-cU|Mn$ĞbkиMђčяCŀoQ"
theorem qf{n:Nat}(h0:1<=n)(h1:n<=900):eD [.int (n:Nat)]=some (.ok (.lst (tD (j8 n))) true,.non):=by
 have r:=Bv (a:=0) (b:=(n:Int) - 1) (by omega) (by omega) (by omega) (by omega);rw [show ((n:Int) - 1 - 0).toNat=n - 1 by omega] at r
 have l:(i9 0 (n - 1)).length=n - 1:=by unfold i9;rw [B9,av]
 unfold eD jX
 trace "hf-cЍ$Ğ!'4l&ч!(($źǩQ"
theorem oH{m n:Nat}(h1:m<=40)(h2:n<=40)(h3:m * n<=900):dB [.int (m:Nat),.int (n:Nat)]=some (.ok (.lst (tD (fW m n))) true,.non):=by
 have fl:∀ i:Nat,((rgI 0 i).flatMap fun p=>(rgI (m:Nat) n).map fun x=>(p,x)).length=i * n:=by
  intro i
  induction i with
  | zero=>simp [rgI]
  | succ i ih=>rw [cX,List.flatMap_append,Ct,ih];simp [av,Nat.add_mul]
 obtain ⟨ρ',e,a,rfl⟩:=sk (T:= .nm 3) (f:=dH) (fun i ρ=>∃ a,ρ=[some (.int (m:Nat),.fz),some (.int (n:Nat),.fz),some (.lst (tD ((rgI 0 i).flatMap fun p=>(rgI (m:Nat) n).map fun x=>(p,x))),.ow),a]) m [some (.int (m:Nat),.fz),some (.int (n:Nat),.fz),some (.lst [],.ow),none] ⟨none,by simp [rgI]⟩ (by
  rintro i hi ρ ⟨a,rfl⟩
  have st:bi [.int (i:Nat),.int (m:Nat),.int ((m:Int)+(n:Nat) - 1)]=some (.ok (.lst (tD ((rgI (m:Nat) n).map fun x=>((i:Int),x)))) true,.non):=by
   rw [wE (by omega) (by omega) (by omega) (by omega),show ((m:Int)+(n:Nat) - 1+1 - (m:Nat)).toNat=n by omega]
  have lb:i * n<=900:=Df (Nat.mul_le_mul_right n (by omega)) h3;have ex:bP (.lst (tD ((rgI 0 i).flatMap fun p=>(rgI (m:Nat) n).map fun x=>(p,x)))) [.lst (tD ((rgI (m:Nat) n).map fun x=>((i:Int),x)))]=some (.lst (tD (((rgI 0 i).flatMap fun p=>(rgI (m:Nat) n).map fun x=>(p,x))++(rgI (m:Nat) n).map fun x=>((i:Int),x))),.non):=iX (by rw [fl,B9,av];omega);unfold dH
  trace "Čǫľє&Y`Ш`ЌnВĿ!ЗĎǬ"
  rw [cX,List.flatMap_append,Int.zero_add,List.flatMap_cons,List.flatMap_nil,CU]
  exact ⟨_,rfl⟩)
 have hm:m<=1000000:=by omega
 unfold dB i6
 trace "_4(ђѕŁCŀoQ"
end K50
namespace K50
open PySem L2
theorem t_legs{legs:List Nat}(h0:legs≠[])(hb:∀ l∈legs,l<=40):eG [.tup (nD (iL legs))]=some (.ok (.bl true) false,.non):=by
 have h := @eP;have hl:=Cy.mpr h0
 have ln:bu [.tup (nD (iL legs))]=some (.int (legs.length:Nat),false):=by rw [cH,B9]
 have al:((iL legs).map fun x=>decide (0<=x)&&decide (x<=40)).all id=true:=by
  rw [List.all_map,List.all_map,Co];intro x hx;have:=hb x hx
  show (decide (0<=(x:Int))&&decide ((x:Int)<=40))=true
  rw [Cr (by omega),Cr (by omega)];rfl
 unfold eG j0
 trace "ѐ|MзǮ{fйďǴеYcn:Q$ȅT"
 rw [al]
theorem t_num1{a n:Int}(h1:a<=n)(h2:n<=40):bv [.ktup [.int a],.tup [.int n]]=some (.ok (.bl true) false,.non):=by
 have h := @eP
 have al:jQ [.lst [.bl (decide (a<=n)&&decide (n<=40))]]=some (.bl true,false):=by rw [Cr h1,Cr h2];rfl
 unfold bv dI
 trace "eЉxx$ǳГл;ğІІЗǽȏ!ĂǫYА!:!ǻę$ĚQ"
theorem t_num2{a b n m:Int}(h1:a<=n)(h2:n<=40)(h3:b<=m)(h4:m<=40):bv [.ktup [.int a,.int b],.tup [.int n,.int m]]=some (.ok (.bl true) false,.non):=by
 have h := @eP
 have al:jQ [.lst [.bl (decide (a<=n)&&decide (n<=40)),.bl (decide (b<=m)&&decide (m<=40))]]=some (.bl true,false):=by rw [Cr h1,Cr h2,Cr h3,Cr h4];rfl
 unfold bv dI
 trace "eЉxx$ǳГл;ğІІЗǽȏ!ĂǫYА!:!ǻĂǫYА!:!ǻę$ĚQ"
theorem u3{legs:List Nat}(h0:legs≠[])(hb:∀ l∈legs,l<=40):bj [spK legs]=some (.ok (.bl true) false,.non):=by
 have h:=t_legs h0 hb;unfold bj el
 trace "ѐxіkЕbїH,xз!-ј"
theorem qi{n:Int}(h1:3<=n)(h2:n<=40):bj [ic n]=some (.ok (.bl true) false,.non):=by
 have h:=t_num1 h1 h2;have g1:oh ba bb [.str "ring"]=some (.ktup [.int 3],false):=rfl;have g2:yr [ic n,.int 1]=some (.tup [.int n],false):=rfl;unfold bj el
 trace "ѐxіkљХҀЌ{-|ŅБņ$Ѵ"
theorem oJ{m n:Int}(h1:1<=m)(h2:m<=40)(h3:1<=n)(h4:n<=40):bj [fX m n]=some (.ok (.bl true) false,.non):=by
 have h:=t_num2 h1 h2 h3 h4;have g1:oh ba bb [.str "sides"]=some (.ktup [.int 1,.int 1],false):=rfl;have g2:yr [fX m n,.int 1]=some (.tup [.int m,.int n],false):=rfl;unfold bj el
 trace "ѐxіkљХҀЌ{-|ŅБņ$Ѵ"
theorem qg{legs:List Nat}:a9 [spK legs]=some (.ok (.int ((legs.length+legs.sum:Nat):Int)) false,.non):=by
 have ln:bu [.tup (nD (iL legs))]=some (.int (legs.length:Nat),false):=by rw [cH,B9]
 have sm:pA [.tup (nD (iL legs))]=some (.int (legs.sum:Nat),false):=by rw [oa,sd]
 unfold a9 eh
 trace "_ЕbїigMUgŇм"
theorem mS{n:Int}:a9 [ic n]=some (.ok (.int n) false,.non):=by
 unfold a9 eh
 trace "_љЉѿХѽѽ{ЕZ"
theorem lh{m n:Int}:a9 [fX m n]=some (.ok (.int (m+n)) false,.non):=by
 unfold a9 eh
 trace "_љї,ttм"
theorem uY{legs:List Nat}(h0:legs≠[])(hb:legs.length+legs.sum<=900):bG [spK legs]=some (.ok (.lst (tD (spT legs))) true,.non):=by
 have h:=oG h0 hb;unfold bG gP
 trace "_Еbї-ј"
theorem qe{n:Nat}(h0:1<=n)(h1:n<=900):bG [ic (n:Nat)]=some (.ok (.lst (tD (j8 n))) true,.non):=by
 have h:=qf h0 h1;unfold bG gP
 trace "_љї-ј"
theorem oF{m n:Nat}(h1:m<=40)(h2:n<=40)(h3:m * n<=900):bG [fX (m:Nat) (n:Nat)]=some (.ok (.lst (tD (fW m n))) true,.non):=by
 have h:=oH h1 h2 h3;unfold bG gP
 trace "_љЉѿї-tј"
structure jT(k:D)(n:Nat)(ts:List (Int×Int)):Prop where
 f:bj [k]=some (.ok (.bl true) false,.non)
 p:a9 [k]=some (.ok (.int (n:Nat)) false,.non)
 t:bG [k]=some (.ok (.lst (tD ts)) true,.non)
 o:cJ n ts
theorem qh{k:D}{n:Nat}{ts:List (Int×Int)}(O:jT k n ts):eI [k]=some (.ok (.bl true) false,.non):=by
 have h1:=O.f;have h2:=O.p;have h3:=O.t;have n1:=O.o.n;have l1:=O.o.l;unfold eI j4
 trace "hHXąTHfXĐ!nǵi'Xđ!$żnT"
 rw [Cr (show (ts.length:Int)<=60 by omega)]
theorem cg{k:D}{n:Nat}{ts:List (Int×Int)}(O:jT k n ts):dF [k]=some (.ok (cn (n:Nat) (bg ts)) false,.non):=by
 have h1:=qh O;have h2:=O.p;have h3:=O.t;have h4:=wD O.o;unfold dF nM
 trace "euҁąѹ{-'XĐ!'Xđ!$ŽZ"
theorem xP{legs:List Nat}(h0:legs≠[])(m:legs.length+legs.sum<=40):jT (spK legs) (legs.length+legs.sum) (spT legs):=⟨u3 h0 (x8 (by omega)),qg,uY h0 (by omega),sp_ok h0 m⟩
theorem o4{n:Nat}(h1:3<=n)(h2:n<=40)(o:cJ n (j8 n)):jT (ic (n:Nat)) n (j8 n):=⟨qi (by omega) (by omega),mS,qe (by omega) (by omega),o⟩
theorem qL{m n:Nat}(h1:1<=m)(h2:1<=n)(h3:m+n<=40)(o:cJ (m+n) (fW m n)):jT (fX (m:Nat) (n:Nat)) (m+n) (fW m n):=⟨oJ (by omega) (by omega) (by omega) (by omega),lh,oF (by omega) (by omega) (by have:=o.l;rw [sf] at this;omega),o⟩
end K50
namespace K50
open PySem L2
theorem wM{L:Option (D×Md)}:∀ (r:List Nat) (k:Nat) (b:Bool) (lo hi:Int) (row fur:List Int) (x5 x6:Option (D×Md)),(b=true↔k % 2=0)->row.length+r.length<=900->fur.length+r.sum<=900 ->
 ∃ lo' hi' x5' x6',bJ (.tp [.nm 5,.nm 6]) aY ((r.zipIdx k).map enD) [L,some (.int lo,.fz),some (.int hi,.fz),some (.lst (nD row),.ow),some (.lst (nD fur),.ow),x5,x6]=some (.nx,[L,some (.int lo',.fz),some (.int hi',.fz),some (.lst (nD (row++rS b lo hi r)),.ow),some (.lst (nD (fur++rL b lo hi r)),.ow),x5',x6'])
 | [],k,b,lo,hi,row,fur,x5,x6,hb,h1,h2=>⟨lo,hi,x5,x6,by cases b<;>simp [rS,rL,cL]<;>rfl⟩
 | l::r,k,b,lo,hi,row,fur,x5,x6,hb,h1,h2=>by
  rw [Cc] at h1;rw [DB] at h2;rw [List.zipIdx_cons,Cq]
  have hl:l<=1000000:=by omega
  cases b with
  | true =>
   have hk:=hb.mp rfl;obtain ⟨lo',hi',x5',x6',e⟩:=wM (L:=L) r (k+1) false (lo+1) (hi - (l:Nat)) (row++[lo]) (fur++dnI hi l) (some (.int (k:Nat),.fz)) (some (.int (l:Nat),.fz)) (by constructor<;>intro z<;>first | cases z | omega) (by simp;omega) (by simp [jr];omega);refine ⟨lo',hi',x5',x6',?_⟩;rw [rS_t,rL_t,show row++lo::rS false (lo+1) (hi - (l:Nat)) r=row++[lo]++rS false (lo+1) (hi - (l:Nat)) r by simp,<- DH]
   have dn:(rgI 0 l).map (fun x=>hi - x)=dnI hi l:=by unfold rgI dnI;rw [CK];exact CO fun x _=>by show hi - (0+(x:Nat))=hi - (x:Nat);omega
   have ex:bP (.lst (nD fur)) [.lst (nD ((rgI 0 l).map fun x=>hi - x))]=some (.lst (nD (fur++dnI hi l)),.non):=by rw [dn];exact iX (by rw [jr];omega)
   have e0:aY [L,some (.int lo,.fz),some (.int hi,.fz),some (.lst (nD row),.ow),some (.lst (nD fur),.ow),some (.int (k:Nat),.fz),some (.int (l:Nat),.fz)]=some (.nx,[L,some (.int (lo+1),.fz),some (.int (hi - (l:Nat)),.fz),some (.lst (nD (row++[lo])),.ow),some (.lst (nD (fur++dnI hi l)),.ow),some (.int (k:Nat),.fz),some (.int (l:Nat),.fz)]):=by
    unfold aY
    trace "7Ń/БнǵѓєІЗňǩǬѓє&;ѕŉ!ыкПVZЗĎǬLă!Aoă!Ib!"
   trace "7ьĝC!"
  | false =>
   have hk:¬ k % 2=0:=fun z=>by have:=hb.mpr z;cases this
   obtain ⟨lo',hi',x5',x6',e⟩:=wM (L:=L) r (k+1) true (lo+(l:Nat)) (hi - 1) (row++[hi]) (fur++rgI lo l) (some (.int (k:Nat),.fz)) (some (.int (l:Nat),.fz)) (by constructor<;>intro z<;>first | rfl | omega) (by simp;omega) (by simp [av];omega);refine ⟨lo',hi',x5',x6',?_⟩;rw [rS_f,rL_f,show row++hi::rS true (lo+(l:Nat)) (hi - 1) r=row++[hi]++rS true (lo+(l:Nat)) (hi - 1) r by simp,<- DH]
   have dn:(rgI 0 l).map (fun x=>lo+x)=rgI lo l:=by unfold rgI;rw [CK];exact CO fun x _=>by show lo+(0+(x:Nat))=lo+(x:Nat);omega
   have ex:bP (.lst (nD fur)) [.lst (nD ((rgI 0 l).map fun x=>lo+x))]=some (.lst (nD (fur++rgI lo l)),.non):=by rw [dn];exact iX (by rw [av];omega)
   have e0:aY [L,some (.int lo,.fz),some (.int hi,.fz),some (.lst (nD row),.ow),some (.lst (nD fur),.ow),some (.int (k:Nat),.fz),some (.int (l:Nat),.fz)]=some (.nx,[L,some (.int (lo+(l:Nat)),.fz),some (.int (hi - 1),.fz),some (.lst (nD (row++[hi])),.ow),some (.lst (nD (fur++rgI lo l)),.ow),some (.int (k:Nat),.fz),some (.int (l:Nat),.fz)]):=by
    unfold aY
    trace "7</БнǮѓєІЗňǩǬѓє&;ѕŉ!ыкПVZЗĎǬLă!Ibă!Ao!"
   trace "7ьĝC!"
theorem r9{legs:List Nat}(h0:legs≠[])(hb:legs.length+legs.sum<=800):cK [.tup (nD (iL legs))]=some (.ok (.tup (nD (cN legs))) false,.non):=by
 have hl:=Cy.mpr h0
 have hq:(legs.length:Int)+(legs.sum:Nat) - 1=(rem legs:Nat):=by unfold rem;omega
 obtain ⟨lo',hi',x5,x6,e⟩:=wM (L:=some (.tup (nD (iL legs)),.fz)) legs 0 true 0 (rem legs:Nat) [] [] none none (by simp) (by simp;omega) (by simp;omega);rw [CT,CT,<- BZ] at e;have e1:bJ (.tp [.nm 5,.nm 6]) aY ((iL legs).zipIdx.map fun p:Int×Nat=>D.tup [.int (p.2:Nat),.int p.1]) [some (.tup (nD (iL legs)),.fz),some (.int 0,.fz),some (.int (rem legs:Nat),.fz),some (.lst [],.ow),some (.lst [],.ow),none,none]=_:=e
 have ln:bu [.tup (nD (iL legs))]=some (.int (legs.length:Nat),false):=by rw [cH,B9]
 have sm:pA [.tup (nD (iL legs))]=some (.int (legs.sum:Nat),false):=by rw [oa,sd]
 have mi:cB [.int ((legs.length:Int)+(legs.sum:Nat)),.int 1]=some (.int (rem legs:Nat),false):=by show some (D.int (_ - 1),false)=_;rw [hq]
 have cl:(rS true 0 (rem legs:Nat) legs++rL true 0 (rem legs:Nat) legs).length=rem legs+1:=by rw [B2 h0,cN_len h0]
 rw [Ct] at cl
 have ad:aE [.lst (nD (rS true 0 (rem legs:Nat) legs)),.lst (nD (rL true 0 (rem legs:Nat) legs))]=some (.lst (nD (cN legs)),true):=by rw [<- B2 h0];exact e9 (by rw [cl];unfold rem;omega)
 unfold cK hV
 trace "_AЩi|M|ŇRЃƀЩ4(Щ4(ђčяD.iЅƁм"
theorem u2{legs:List Nat}(h0:legs≠[])(hb:legs.length+legs.sum<=800):cb [spK legs]=some (.ok (.tup (nD (cN legs))) false,.non):=by
 have h:=r9 h0 hb;unfold cb h9
 trace "eОѻ.-ј"
theorem xS{ts:List (Int×Int)}(h:ts≠[]):iY (.tup (tD (bg ts)))=some true:=by
 rw [nH]
 have:bg ts≠[]:=fun z=>by
  have:=(fm ts).length_eq;rw [z] at this;exact h (List.length_eq_zero_iff.mp this.symm)
 cases e:bg ts with
 | nil=>exact absurd e this
 | cons _ _=>rfl
theorem oI{k:D}{n:Nat}{ts:List (Int×Int)}{ps:List Int}(O:jT k n ts)(ne:ts≠[])(h:cb [k]=some (.ok (.tup (nD ps)) false,.non)):dC [k]=some (.ok (.tup (nD ps)) false,.non):=by
 have h1:=cg O;have h2:=xS ne;unfold dC i7
 trace "_XąbuУgĐГ.XѴ"
end K50
namespace K50
open PySem L2
theorem wG{i:Int}:dD [.int i]=some (.ok (.bl true) false,.non):=by
 unfold dD i8
 trace "hH,ЌĵиZ"
def le(ns:List Int)(lo hi:Int):Bool:=(ns.map fun i=>decide (lo<=i)&&decide (i<=hi)).all id&&decide (((dd ns).length:Int)=ns.length)
theorem qd{ns:List Int}{lo hi:Int}(hl:ns.length<=1000):bE [.tup (nD ns),.int lo,.int hi]=some (.ok (.bl (le ns lo hi)) false,.non):=by
 have h := @eP;unfold bE fJ
 trace "hōfйďǴеY`Ќ:Q$ȅi|ȱǯ$Ȳǯ|J$ǼQ"
theorem t_num{n:Int}{ts:List (Int×Int)}{ns:List Int}:bI [cn n ts,.tup (nD ns)]=some (.ok (.bl (decide ((ns.length:Int)=n))) false,.non):=by
 unfold bI dZ
 trace "hH,ЌiVJgǼQ"
structure Wb(n:Nat)(ts:List (Int×Int)):Prop where
 r:∀ t∈ts,0<=t.1/\t.1 < n/\0<=t.2/\t.2 < n
 l:ts.length < 60
 n:n<=40
def st(ps:List Int)(t:Int×Int):Int:=(ps.getD t.1.toNat 0 - ps.getD t.2.toNat 0).natAbs
theorem zu{n:Nat}{m:Int}{ts:List (Int×Int)}(W:Wb n ts){ps:List Int}(hp:ps.length=n):fD [cn m ts,.tup (nD ps)]=some (.ok (.lst (nD (ts.map (st ps)))) true,.non):=by
 have h1:∀ t∈ts,gIx [.tup (nD ps),.int t.1]=some (.int (ps.getD t.1.toNat 0),false):=fun t ht=>cx (W.r t ht).1 (by have:=W.r t ht;omega)
 have h2:∀ t∈ts,gIx [.tup (nD ps),.int t.2]=some (.int (ps.getD t.2.toNat 0),false):=fun t ht=>cx (W.r t ht).2.2.1 (by have:=W.r t ht;omega)
 unfold fD lw
 trace "hъЕQоiUЅĆǯUЅćǯћƅTQ"
structure bZ(n:Nat)(ts:List (Int×Int))(ps:List Int):Prop where
 l:ps.length=n
 u:le ps 0 (ts.length:Nat)=true
 s:cZ (ts.map (st ps))=rgI 1 ts.length
theorem t_good{n:Nat}{ts:List (Int×Int)}(W:Wb n ts){ps:List Int}(G:bZ n ts ps):dz [cn n ts,.tup (nD ps)]=some (.ok (.bl true) false,.non):=by
 have h1 := @t_num;have h2 := @qd;have h3:=zu (m:=n) W G.l;have l1:=W.l;have l2:=W.n;have l3:=G.l;have u:=G.u;unfold dz i4
 trace "_,gJoХДpĆёȆДYcвćǩёȆ{i'pđ!$ƆǽШcЍћƇǩ$ƈT"
 rw [Cr G.s]
theorem zy{n:Nat}{ts:List (Int×Int)}(W:Wb n ts){ps:List Int}(G:bZ n ts ps):cO [cn n ts,.tup (nD ps)]=some (.ok .non false,.non):=by
 have h1:=t_good W G;unfold cO ia
 trace "7ƉǺ<ДpąЎQ"
abbrev loE(ps:List Int)(t:Int×Int):Int:=min (ps.getD t.1.toNat 0) (ps.getD t.2.toNat 0)
abbrev hiE(ps:List Int)(t:Int×Int):Int:=max (ps.getD t.1.toNat 0) (ps.getD t.2.toNat 0)
theorem t_part{n:Nat}{ts:List (Int×Int)}(W:Wb n ts){ps:List Int}(G:bZ n ts ps)(ne:ts≠[]){p:Int}(hp:g7 (ts.map (loE ps))=p)(hq:p < gx (ts.map (hiE ps))):eE [cn n ts,.tup (nD ps)]=some (.ok (.int p) false,.non):=by
 have h0:=zy W G;have l3:=G.l
 have h1:∀ t∈ts,gIx [.tup (nD ps),.int t.1]=some (.int (ps.getD t.1.toNat 0),false):=fun t ht=>cx (W.r t ht).1 (by have:=W.r t ht;omega)
 have h2:∀ t∈ts,gIx [.tup (nD ps),.int t.2]=some (.int (ps.getD t.2.toNat 0),false):=fun t ht=>cx (W.r t ht).2.2.1 (by have:=W.r t ht;omega)
 have n1:ts.map (loE ps)≠[]:=by simpa using ne
 have n2:ts.map (hiE ps)≠[]:=by simpa using ne
 have m1:eC [.lst (nD (ts.map (loE ps)))]=some (.int p,false):=by rw [tf n1,hp]
 have m2:=mm n2
 have ne':(!ts.isEmpty)=true:=by simpa using ne
 have tr:iY (.tup (tD ts))=some true:=by rw [nH,ne']
 unfold eE jY
 trace "eѓpġ!uУgŎГkfъЕQоiЅĆǯUЅćǯ$ƊT$ŏЩfъЕQоiЅĆǯUЅćǯ$ƋT$Őo.ƌЫЌǵIZ"
theorem u1{n:Nat}{ts:List (Int×Int)}(W:Wb n ts){ps:List Int}(G:bZ n ts ps)(ne:ts≠[]){p:Int}(hp:g7 (ts.map (loE ps))=p)(hq:p < gx (ts.map (hiE ps))):bR [cn n ts,.tup (nD ps)]=some (.ok (.int p) false,.non):=by
 have h0:=t_part W G ne hp hq;unfold bR eU
 trace "_pġҋƍZ"
def up(q p x:Int):Int:=if x<=p then x else q+p+1 - x
theorem zr{n:Nat}{ts:List (Int×Int)}(W:Wb n ts){ps:List Int}(G:bZ n ts ps)(ne:ts≠[]){p:Int}(hp:g7 (ts.map (loE ps))=p)(hq:p < gx (ts.map (hiE ps))):bL [cn n ts,.tup (nD ps)]=some (.ok (.tup (nD (ps.map (up (ts.length:Nat) p)))) false,.non):=by
 have h0:=u1 W G ne hp hq;unfold bL fZ
 trace "_pġbkiUgJвnoлйоőЫЌѸПVZRT"
 simp only [Do];rfl
def once(ns:List Int)(m:Int):Bool:=decide ((ns.length:Int)=m)&&le ns 1 m
theorem t_once{ns:List Int}{m:Int}(hl:ns.length<=1000):eJ [.tup (nD ns),.int m]=some (.ok (.bl (once ns m)) false,.non):=by
 have h:=qd (ns:=ns) (lo:=1) (hi:=m) hl;unfold eJ j6
 trace "hōiVJVǼYcвѴ"
theorem vv{ns:List Int}{n:Nat}(h:ns.Perm (rgI 1 n)):once ns (n:Nat)=true:=by
 unfold once le
 have hl:ns.length=n:=by rw [h.length_eq,av]
 rw [Cr (by omega),js (h.nodup_iff.mpr (be _ _)),Cr rfl];simp only [DV,Dv,List.all_map,Co];intro x hx;have:=aK.mp (h.mem_iff.mp hx);simp;omega
structure We(n:Nat)(ts:List (Int×Int)):Prop where
 r:∀ t∈ts,0<=t.1/\t.1 < n/\0<=t.2/\t.2 < n
 l:ts.length<=60
 n:n<=40
theorem By{n:Nat}{m:Int}{ts:List (Int×Int)}(W:We n ts){ps:List Int}(hp:ps.length=n):dW [cn m ts,.tup (nD ps)]=some (.ok (.lst (nD (ts.map (smT ps)))) true,.non):=by
 have h1:∀ t∈ts,gIx [.tup (nD ps),.int t.1]=some (.int (ps.getD t.1.toNat 0),false):=fun t ht=>cx (W.r t ht).1 (by have:=W.r t ht;omega)
 have h2:∀ t∈ts,gIx [.tup (nD ps),.int t.2]=some (.int (ps.getD t.2.toNat 0),false):=fun t ht=>cx (W.r t ht).2.2.1 (by have:=W.r t ht;omega)
 unfold dW lD
 trace "hъЕQоiЅĆǯUЅćǯRTQ"
theorem t_from{w:Int}{l:List Int}:dy [.int w,.lst (nD l)]=some (.ok (.tup (nD (l.map fun x=>w - x))) false,.non):=by
 unfold dy i0
 trace "hfйоПVZм"
abbrev thD(ps us:List Int):D:= .tup [.tup (nD ps),.tup (nD us)]
theorem qj{n:Nat}{m:Int}{ts:List (Int×Int)}(W:We n ts){ps:List Int}(hp:ps.length=n){c:Int}:de [cn m ts,.tup (nD ps),.int c]=some (.ok (thD ps ((ts.map (smT ps)).map fun x=>c - x)) false,.non):=by
 have h:=By (m:=m) W hp
 have g := @t_from
 unfold de j5
 trace "hBІ&Y'pńёƎ!(Q"
theorem Bx{n:Nat}{ts:List (Int×Int)}(W:We n ts){ps:List Int}{L:Int}(hL : -1000<=L)(hL2:L<=1000)(hp:ps.Perm (rgI 1 n))(ne:ts≠[])(hs:(ts.map (smT ps)).Perm (rgI L ts.length)):gB [cn (n:Nat) ts,.tup (nD ps)]=some (.ok (thD ps (mr n ts ps L)) false,.non):=by
 have hl:ps.length=n:=by rw [hp.length_eq,av]
 have wn:=W.n;have wl:=W.l;have o:=t_once (ns:=ps) (m:=(n:Nat)) (by omega);rw [vv hp] at o;have e:=By (m:=(n:Nat)) W hl
 have ne':ts.map (smT ps)≠[]:=by simpa using ne
 have tp:0 < ts.length:=Cy.mpr ne
 have mn:gx (ts.map (smT ps))=L:=by
  obtain ⟨a,b⟩:=jh ne';have a:=aK.mp (hs.mem_iff.mp a);have:=b L (hs.mem_iff.mpr (aK.mpr (by omega)));omega
 have gm:e8 [.lst (nD (ts.map (smT ps)))]=some (.int L,false):=by rw [mm ne',mn]
 have gl:bu [.lst (nD (ts.map (smT ps)))]=some (.int (ts.length:Nat),false):=by rw [og,B9]
 have gs:cG [.lst (nD (ts.map (smT ps)))]=some (.lst (nD (rgI L ts.length)),true):=by rw [kc (by rw [B9];omega),jP hs]
 have gr:dS [.rng L (L+(ts.length:Nat))]=some (.lst (nD (rgI L ts.length)),true):=by
  rw [of (by omega) (by omega) (by omega) (by omega) (by omega),show (L+(ts.length:Nat) - L).toNat=ts.length by omega]
 have f:=qj (m:=(n:Nat)) W hl (c:=L+(n:Nat)+(ts.length:Nat));unfold gB qp
 trace "ѳѺДYtRƏЎkpCbkиƐЩиŒoЉ|ĢШ`U`ЌВ$Ē$ģǸ{Y`Ш`tВвВ?Z"
end K50
namespace K50
open PySem L2
theorem nE{n:Nat}{ts:List (Int×Int)}(O:cJ n ts):We n (bg ts):=by
 have hp:=fm ts;refine ⟨fun t ht=> ?_,by rw [hp.length_eq];exact O.l,O.n⟩;have:=O.r t (hp.mem_iff.mp ht);omega
theorem t_rlow{n:Nat}(h:n<=900):fE [.int (n:Nat)]=some (.ok (.tup (nD (fM n))) false,.non):=by
 have hn:n<=1000000:=by omega
 unfold fE lA
 trace "_,ЍЃĤwoл;ѕƑ!ыкő/Бн,БĤwni`БĤwВnTм"
theorem uZ{n:Nat}(h1:3<=n)(h2:n<=40)(h3:n % 2=1):aP [ic (n:Nat)]=some (.ok (thD (fM n) (mr n (bV n) (fM n) (((n:Int)+1) / 2+1))) false,.non):=by
 have O:=jF (jH h1 h2);have w:=cg (o4 h1 h2 O);have W:=nE O;rw [(wV h1 h2).1] at w W;obtain ⟨p,s⟩:=qw h1 h2 h3;have ne:bV n≠[]:=C9 (by rw [lG h1];omega);have l:=Bx W (by omega) (by omega) p ne s;have r:=t_rlow (n:=n) (by omega);unfold aP cV
 trace "_XќњuĈщT3ОѝЬЃнǵ.Y'-gĞёŔZ"
theorem u0{n:Nat}(h1:3<=n)(h2:n<=40)(h3:¬ n % 2=1):aP [ic (n:Nat)]=some (.ex "NoKind",.non):=by
 have w:=cg (o4 h1 h2 (jF (jH h1 h2)));unfold aP cV
 trace "7ĠǺЪќњuĈщT3uѝЬЃнǮ3ŋQ"
theorem wF{m n:Nat}(h1:1<=m)(h2:1<=n)(h3:m+n<=40)(W:We (m+n) (g8 m n)):cM [cn ((m+n:Nat):Int) (g8 m n),.int (m:Nat),.int (n:Nat)]=some (.ok (thD (sdP m n) (sdU m n)) false,.non):=by
 have hm:m<=1000000:=by omega
 have lp:(sdP m n).length=m+n:=by unfold sdP;rw [Ct,B9,av,av]
 have f:=qj (m:=((m+n:Nat):Int)) W lp (c:=sdC m n);have gr:=fv (n:=n) (by omega)
 have ga:aE [.lst (nD ((rgI 0 m).map fun k=>((n:Int)+1) * (k+1))),.lst (nD (rgI 1 n))]=some (.lst (nD (sdP m n)),true):=by
  rw [e9 (by rw [B9,av,av];omega)];rfl
 have gm:kN [.int ((m:Nat)+2),.int ((n:Nat)+1)]=some (.int (sdC m n),false):=yw (by omega) (by omega);unfold cM hX
 trace "_f;ѕŁ!ык,ЍЍ$ŊwTШcЍћĒ$ŕo.YxUЍЍ$ŒR?Z"
theorem r8{m n:Nat}(h1:1<=m)(h2:1<=n)(h3:m+n<=40)(h4:m * n<=60):aP [fX (m:Nat) (n:Nat)]=some (.ok (thD (sdP m n) (sdU m n)) false,.non):=by
 obtain ⟨e,O⟩:=ua h1 h2 h3 h4;have w:=cg (qL h1 h2 h3 O);have W:=nE O;rw [e] at w W;have s:=wF h1 h2 h3 W;unfold aP cV
 trace "_XœbОѻ.YttRƓZ"
theorem zt{legs:List Nat}(h0:legs≠[])(hb:legs.length+legs.sum<=40)(q0:0 < rem legs):aP [spK legs]=some (.ok (thD (((cN legs).map (upT (rem legs:Nat) (cP true 1 (rem legs:Nat) legs))).map fun x=>x+1) (mr (legs.length+legs.sum) (bg (spT legs)) (((cN legs).map (upT (rem legs:Nat) (cP true 1 (rem legs:Nat) legs))).map fun x=>x+1) (cP true 1 (rem legs:Nat) legs+3))) false,.non):=by
 have hl:=Cy.mpr h0
 have hq:rem legs+1=legs.length+legs.sum:=by unfold rem;omega
 have O:=xP h0 hb;have w:=cg O;have W:=nE O.o;have sl:=(iZ h0).length_eq;rw [zc h0] at sl;have ne:spT legs≠[]:=C9 (by omega);have pf:=oI O ne (u2 h0 (by omega));have pr:=uQ q0 h0;rw [<- qF (iZ h0)] at pr
 generalize hP:cP true 1 (rem legs:Nat) legs=P at *
 have tl:=pr.tlen;have ne2:bg (spT legs)≠[]:=C9 (by omega);have W2:Wb (legs.length+legs.sum) (bg (spT legs)):=⟨W.r,by omega,W.n⟩;have G:bZ (legs.length+legs.sum) (bg (spT legs)) (cN legs):=⟨by rw [pr.len,hq],by unfold le;rw [tl];exact pr.unl,by rw [tl];exact jP pr.s⟩;have u:=zr W2 G ne2 pr.max pr.min;rw [tl] at u;have u':bL [cn ((legs.length+legs.sum:Nat):Int) (bg (spT legs)),.tup (nD (cN legs))]=some (.ok (.tup (nD ((cN legs).map (upT (rem legs:Nat) P)))) false,.non):=u;have P0:=pr.P0;have p:=pr.upT_perm;rw [hq] at p;have l:=Bx W (by omega) (by omega) p ne2 pr.upT_sums;have tr:=xS ne;unfold aP cV
 trace "_XќњОҌĶgŎ!.YU'ъY'XƔёƕQочQRRŔZ"
end K50
namespace K50
open PySem L2
theorem due_1{n:Nat}{ts:List (Int×Int)}{ps us:List Int}{c:Int}(T:Tot n ts ps us c):∃ y2 y3,bJ (.tp [(.nm 2),(.nm 3)]) aS [.tup [.tup (nD ps),.int (n:Nat)],.tup [.tup (nD us),.int (ts.length:Nat)]] [some (cn (n:Nat) ts,.fz),some (thD ps us,.fz),none,none,none,none,none]=some (.nx,[some (cn (n:Nat) ts,.fz),some (thD ps us,.fz),y2,y3,none,none,none]):=by
 have h := @wG
 have l1:bu [.tup (nD ps)]=some (.int (n:Nat),false):=by rw [cH,T.lp]
 have l2:bu [.tup (nD us)]=some (.int (ts.length:Nat),false):=by rw [cH,T.lu]
 have a1:(ps.map fun x=>true).all id=true:=by simp
 have a2:(us.map fun x=>true).all id=true:=by simp
 refine ⟨some (.tup (nD us),.fz),some (.int (ts.length:Nat),.fz),?_⟩
 have e1:aS [some (cn (n:Nat) ts,.fz),some (thD ps us,.fz),some (.tup (nD ps),.fz),some (.int (n:Nat),.fz),none,none,none]=some (.nx,[some (cn (n:Nat) ts,.fz),some (thD ps us,.fz),some (.tup (nD ps),.fz),some (.int (n:Nat),.fz),none,none,none]):=by
  unfold aS
  trace "7<=Ѻ=/|ƖVǳǸУU'йďǴеX:Q$ȅRȆ3!"
 have e2:aS [some (cn (n:Nat) ts,.fz),some (thD ps us,.fz),some (.tup (nD us),.fz),some (.int (ts.length:Nat),.fz),none,none,none]=some (.nx,[some (cn (n:Nat) ts,.fz),some (thD ps us,.fz),some (.tup (nD us),.fz),some (.int (ts.length:Nat),.fz),none,none,none]):=by
  unfold aS
  trace "7<=Ѻ=/|ƗVǳǸУU'йďǴеX:Q$ȅRȆ3!"
 trace "7ьDьĄŖ!"
theorem due_2{n:Nat}{ts:List (Int×Int)}{ps us:List Int}{c:Int}(T:Tot n ts ps us c)(hl:(ps++us).length<=1000)(y2 y3:Option (D×Md)):∃ z y5,bJ (.nm 5) bz (nD (ps++us)) [some (cn (n:Nat) ts,.fz),some (thD ps us,.fz),y2,y3,some (.dK [] [],.ow),none,none]=some (.nx,[some (cn (n:Nat) ts,.fz),some (thD ps us,.fz),y2,y3,z,y5,none]):=by
 obtain ⟨ρ',e,y,rfl⟩:=gf (T:= .nm 5) (f:=bz) (inj:=D.int) (fun i (_:Unit) ρ=>∃ y,ρ=[some (cn (n:Nat) ts,.fz),some (thD ps us,.fz),y2,y3,some (.dK (kI ((ps++us).take i)) (List.replicate ((ps++us).take i).length (.bl true)),.ow),y,none]) (fun _ _=>()) (ps++us) 0 () [some (cn (n:Nat) ts,.fz),some (thD ps us,.fz),y2,y3,some (.dK [] [],.ow),none,none] ⟨none,rfl⟩ (by
  rintro i x hx _ ρ ⟨y,rfl⟩;rw [C3] at *;have hr:=T.b x (Cp hx)
  have tk:(ps++us).take (i+1)=(ps++us).take i++[x]:=by rw [List.take_add_one,hx];rfl
  have nd:((ps++us).take i++[x]).Nodup:=by rw [<- tk];exact T.d.sublist (El _ _)
  have ni:x∉(ps++us).take i:=fun z=>by
   rw [Em] at nd;exact nd.2.2 x z x (CF.mpr rfl) rfl
  have gi:=gIn_dI ni (vs:=List.replicate ((ps++us).take i).length (.bl true));have up:=zo (d:= .bl true) ni (T.d.sublist (El _ _)) (by rw [DA];omega)
  generalize (ps++us).take i=pre at *
  unfold bz
  trace "ČǫХ/А!Ǯ=ЫЬUgJRВǮ/ЅĹГĺA!яĻǬ"
  rw [tk]
  exact ⟨_,rfl⟩)
 exact ⟨_,_,e⟩
end K50
namespace K50
open PySem L2
theorem wI{n:Nat}{ts:List (Int×Int)}{ps us:List Int}{c:Int}(W:We n ts)(T:Tot n ts ps us c)(ne:ts≠[]):bS [cn (n:Nat) ts,thD ps us]=some (.ok (.int c) false,.non):=by
 have wn:=W.n;have wl:=W.l;have lp:=T.lp;have lu:=T.lu;have tp:0 < ts.length:=Cy.mpr ne
 have hl:(ps++us).length<=1000:=by rw [Ct];omega
 obtain ⟨y2,y3,e1⟩:=due_1 T;obtain ⟨z4,y5,e2⟩:=due_2 T hl y2 y3
 have ga:aE [.tup (nD ps),.tup (nD us)]=some (.tup (nD (ps++us)),false):=by rw [vN (by omega)]
 have h1:∀ t∈ts,gIx [.tup (nD ps),.int t.1]=some (.int (ps.getD t.1.toNat 0),false):=fun t ht=>cx (W.r t ht).1 (by have:=W.r t ht;omega)
 have h2:∀ t∈ts,gIx [.tup (nD ps),.int t.2]=some (.int (ps.getD t.2.toNat 0),false):=fun t ht=>cx (W.r t ht).2.2.1 (by have:=W.r t ht;omega)
 have cs:bq 3 (.tp [(.nm 7),(.tp [(.nm 8),(.nm 9)])]) none (sOp aE [.ex (sOp aE [.ex (sOp gIx [.ex (sOp gIx [.bor 1,.ex (sC (.int 0))]),.bor 8]),.ex (sOp gIx [.ex (sOp gIx [.bor 1,.ex (sC (.int 0))]),.bor 9])]),.ex (sOp gIx [.ex (sOp gIx [.bor 1,.ex (sC (.int 1))]),.bor 7])]) (ts.zipIdx.map fun p:(Int×Int)×Nat=>D.tup [.int (p.2:Nat),wC p.1]) [some (cn (n:Nat) ts,.fz),some (thD ps us,.fz),y2,y3,z4,y5,none]=some (nD (ts.zipIdx.map fun p:(Int×Int)×Nat=>c),[some (cn (n:Nat) ts,.fz),some (thD ps us,.fz),y2,y3,z4,y5,none]):=by
  refine lE ts.zipIdx fun p hp=> ?_
  obtain ⟨t,k⟩:=p;obtain ⟨hk1,hk2⟩:=List.mem_zipIdx' hp;have hk1:k < ts.length:=hk1;have hk2:t=ts[k]'hk1:=hk2
  have ht:t∈ts:=by rw [hk2];exact C6 _
  have a1:=h1 t ht;have a2:=h2 t ht;have a3:gIx [.tup (nD us),.int (k:Nat)]=some (.int (us.getD k 0),false):=cx (by omega) (by omega);have s:=T.s k hk1
  have eg:ts.getD k (0,0)=t:=by rw [Cs,B8 hk1,<- hk2];rfl
  rw [eg] at s;have s:ps.getD t.1.toNat 0+ps.getD t.2.toNat 0+us.getD k 0=c:=s
  have s':aE [.int (ps.getD t.1.toNat 0+ps.getD t.2.toNat 0),.int (us.getD k 0)]=some (.int c,false):=by
   show some (D.int (_+_),false)=_
   rw [s]
  trace "еiЬVƘЬVƙRЬVƚ$ƛT"
 have cl:(ts.zipIdx.map fun p:(Int×Int)×Nat=>c).length=ts.length:=by rw [B9,List.length_zipIdx]
 have g0:gIx [.lst (nD (ts.zipIdx.map fun p:(Int×Int)×Nat=>c)),.int 0]=some (.int c,false):=by
  rw [yA (by omega) (by rw [cl];omega)]
  cases ts with
  | nil=>exact absurd rfl ne
  | cons t ts=>rfl
 obtain ⟨ρ',e3,y,rfl⟩:=gg (T:= .nm 5) (f:=ce) (inj:=D.int) (fun (_:Unit) ρ=>∃ y,ρ=[some (cn (n:Nat) ts,.fz),some (thD ps us,.fz),y2,y3,z4,y,some (.lst (nD (ts.zipIdx.map fun p:(Int×Int)×Nat=>c)),.fz)]) (fun _ _=>()) (ts.zipIdx.map fun p:(Int×Int)×Nat=>c) () [some (cn (n:Nat) ts,.fz),some (thD ps us,.fz),y2,y3,z4,y5,some (.lst (nD (ts.zipIdx.map fun p:(Int×Int)×Nat=>c)),.fz)] ⟨_,rfl⟩ (by
  rintro x hx _ ρ ⟨y,rfl⟩;obtain ⟨p,_,rfl⟩:=CP.mp hx;unfold ce
  trace "Čǫ<ЫБŗRǳǸ3"
  exact ⟨_,rfl⟩)
 unfold bS eV
 trace "ѐxЃǳГҊğІ&4&ч҃&,gJ(ЗǽȏDkěђā,tgŕ!Ąk;čЕQƜђāƝo!Ř.чŗQ"
end K50
namespace K50
open PySem L2
theorem tj(ps us:List Int):gEq [thD ps us,thD ps us]=some (.bl true,false):=by
 have e:ae 9 (thD ps us)=true:=by
  unfold ae
  show (ae 8 (.tup (nD ps))&&(ae 8 (.tup (nD us))&&true))=true
  rw [gC,gC];rfl
 show (if (ae 9 (thD ps us)&&ae 9 (thD ps us))=true then some (D.bl (eqD (thD ps us) (thD ps us)),false) else none)=_
 rw [e,show eqD (thD ps us) (thD ps us)=true from jo 9 e];rfl
theorem eq_sp0(legs:List Nat):gEq [spK legs,.tup [.str "spine",.tup [.int 0]]]=some (.bl (decide (iL legs=[0])),false):=by
 have e:ae 9 (spK legs)=true:=by
  unfold ae
  show (ae 8 (.str "spine")&&(ae 8 (.tup (nD (iL legs)))&&true))=true
  rw [gC];rfl
 have e2:eqD (spK legs) (.tup [.str "spine",.tup [.int 0]])=decide (iL legs=[0]):=by
  show (((("spine" : Str) == ("spine" : Str)))&&(fc (bW (nD (iL legs))) (nD [0])&&true))=_
  rw [jf,mz];simp
 show (if (ae 9 (spK legs)&&ae 9 (.tup [.str "spine",.tup [.int 0]]))=true then some (D.bl (eqD (spK legs) (.tup [.str "spine",.tup [.int 0]])),false) else none)=_
 rw [e,e2];rfl
theorem uc:aq [.tup [.str "spine",.tup [.int 0]]]=some (.ok (.bl true) false,.non):=uE (by decide +kernel)
theorem nV{ps:List Int}{n:Nat}(hn:n<=40)(hp:ps.Perm (rgI 1 n)):cG [.tup (nD ps)]=some (.lst (nD (rgI 1 n)),true):=by
 have hl:ps.length=n:=by rw [hp.length_eq,av]
 rw [rh (by omega),jP hp]
theorem lI{legs:List Nat}(h0:legs≠[])(hb:legs.length+legs.sum<=40):aq [spK legs]=some (.ok (.bl true) false,.non):=by
 have hl:=Cy.mpr h0
 by_cases q0:0 < rem legs
 ·have hq:rem legs+1=legs.length+legs.sum:=by unfold rem;omega
  have f:=zt h0 hb q0;have w:=cg (xP h0 hb);have W:=nE (xP h0 hb).o;have pr:=uQ q0 h0;rw [<- qF (iZ h0)] at pr
  generalize hP:cP true 1 (rem legs:Nat) legs=P at *
  have p:=pr.upT_perm;rw [hq] at p;have ne2:bg (spT legs)≠[]:=C9 (by have:=pr.tlen;omega);have T:=uy p pr.upT_sums;have du:=wI W T ne2;have gq:=tj (((cN legs).map (upT (rem legs:Nat) P)).map fun x=>x+1) (mr (legs.length+legs.sum) (bg (spT legs)) (((cN legs).map (upT (rem legs:Nat) P)).map fun x=>x+1) (P+3));have gs:=nV hb p;have gr:=fv (n:=legs.length+legs.sum) (by omega)
  have e1:gEq [spK legs,.tup [.str "spine",.tup [.int 0]]]=some (.bl false,false):=by
   rw [eq_sp0,CG];intro z
   cases legs with
   | nil=>exact absurd rfl h0
   | cons l r =>
    cases r with
    | nil =>
     have z:((l:Nat):Int)=0:=by simpa using z
     unfold rem at q0;simp at q0;omega
    | cons m r=>simp at z
  generalize hps:((cN legs).map (upT (rem legs:Nat) P)).map (fun x=>x+1)=ps at *
  generalize hus:mr (legs.length+legs.sum) (bg (spT legs)) ps (P+3)=us at *
  unfold aq cr
  trace "ѳЫпрRD!ĈщT3Ъ?bЪќ'pĥ!іuѝUgĢШcUѵћĒ$ģǸ{fX?!VĦQ"
 ·have:legs=[0]:=by
   unfold rem at q0
   cases legs with
   | nil=>exact absurd rfl h0
   | cons l r =>
    cases r with
    | nil=>simp at q0;rw [q0]
    | cons m r=>simp at q0
  subst this;exact uc
theorem sw{n:Nat}(h1:3<=n)(h2:n<=40):aq [ic (n:Nat)]=some (.ok (.bl true) false,.non):=by
 have e1:gEq [ic (n:Nat),.tup [.str "spine",.tup [.int 0]]]=some (.bl false,false):=rfl
 by_cases h3:n % 2=1
 ·have f:=uZ h1 h2 h3
  have O:=jF (jH h1 h2);have w:=cg (o4 h1 h2 O);have W:=nE O;rw [(wV h1 h2).1] at w W;obtain ⟨p,s⟩:=qw h1 h2 h3;have ne2:bV n≠[]:=C9 (by rw [lG h1];omega);have du:=wI W (uy p s) ne2;have gq:=tj (fM n) (mr n (bV n) (fM n) (((n:Int)+1) / 2+1));have gs:=nV h2 p;have gr:=fv (n:=n) (by omega)
  generalize hus:mr n (bV n) (fM n) (((n:Int)+1) / 2+1)=us at *
  unfold aq cr
  trace "ѳЫпрRD!ѝЬЃнǮ3Ъ?bЪќ'pĥ!іuѝUgĢШcUѵћĒ$ģǸ{fX?!VĦQ"
 ·have f:=u0 h1 h2 h3
  have rf:aM [ic (n:Nat)]=some (.ok (.bl true) false,.non):=by
   unfold aM f8
   trace "ełƞƟŌV?QǬлƠTnQ"
  unfold aq cr
  trace "eО=ЫпрRD!ѝЬЃнǵ.XơZ"
theorem qx{m n:Nat}(h1:1<=m)(h2:1<=n)(h3:m+n<=40)(h4:m * n<=60):aq [fX (m:Nat) (n:Nat)]=some (.ok (.bl true) false,.non):=by
 have e1:gEq [fX (m:Nat) (n:Nat),.tup [.str "spine",.tup [.int 0]]]=some (.bl false,false):=rfl;have f:=r8 h1 h2 h3 h4;obtain ⟨e,O⟩:=ua h1 h2 h3 h4;have w:=cg (qL h1 h2 h3 O);have W:=nE O;rw [e] at w W;have ne2:g8 m n≠[]:=C9 (by rw [qU];exact Nat.mul_pos h1 h2);have du:=wI W (sd_tot h1 h2 h3 h4) ne2;have gq:=tj (sdP m n) (sdU m n)
 generalize sdU m n=us at *
 unfold aq cr
 trace "ѳЫпрRD!ĈщT3Ъ?bЪќ'pĥ!іuĈщT{fX?!VĦQ"
end K50
namespace K50
open PySem L2
theorem vm{d:Int}(h0:0<=d)(h1:d < 6):∃ legs:List Nat,(legs≠[]/\legs.length+legs.sum<=40)/\gIx [.lst [.tup (nD (iL (List.replicate 40 0))),.tup [.int 39],.tup (nD (iL (List.replicate 20 1))),.tup [.int 0,.int 0,.int 0,.int 36],.tup [.int 9,.int 0,.int 9,.int 0,.int 9,.int 7],.tup (nD (iL (List.replicate 39 0)))],.int d]=some (.tup (nD (iL legs)),false):=by
 have:d=0\/d=1\/d=2\/d=3\/d=4\/d=5:=by omega
 rcases this with rfl | rfl | rfl | rfl | rfl | rfl
 ·exact ⟨List.replicate 40 0,by decide,rfl⟩
 ·exact ⟨[39],by decide,rfl⟩
 ·exact ⟨List.replicate 20 1,by decide,rfl⟩
 ·exact ⟨[0,0,0,36],by decide,rfl⟩
 ·exact ⟨[9,0,9,0,9,7],by decide,rfl⟩
 ·exact ⟨List.replicate 39 0,by decide,rfl⟩
theorem wL{m:Nat}:∀ (legs:List Nat),(∀ l∈legs,l<=m)->legs.sum<=m * legs.length
 | [],_=>by simp
 | l::r,h=>by
  have:=wL r fun x hx=>h x (Ce _ hx)
  have:=h l Ck;rw [DB,Cc,Nat.mul_succ];omega
theorem wH(P:Pn):∃ (legs:List Nat) (P':Pn),dg [pD P]=some (.ok (.tup (nD (iL legs))) false,pD P')/\legs≠[]/\legs.length+legs.sum<=40:=by
 by_cases h:dr P 6=0
 ·have b:=kg (nx P 6) (m:=6) (by omega) (by omega)
  obtain ⟨legs,hl,g⟩:=vm b.1 b.2;refine ⟨legs,nx (nx P 6) 6,?_,hl.1,hl.2⟩;have m1:jl [.tup [.int 0],.int 40]=some (.tup (nD (iL (List.replicate 40 0))),false):=rfl;have m2:jl [.tup [.int 1],.int 20]=some (.tup (nD (iL (List.replicate 20 1))),false):=rfl;have m3:jl [.tup [.int 0],.int 39]=some (.tup (nD (iL (List.replicate 39 0))),false):=rfl;unfold dg gb
  trace "eО/Изǵл4&fѭ(ЃŏѼ&fѭ(ЃŐlaaМaaaaѮ&fѭ(Ѓƣ(И$ĨQ"
 ·have b:=kg (nx P 6) (m:=6) (by omega) (by omega)
  obtain ⟨ys,ρ',e,⟨P',rfl⟩,hl,hy⟩:=lF (k:=1) (T:= .nm 1) (f:=af (some 0) (some 0) az [.bor 0,.ex (sC (.int 6))]) (I:=fun ρ=>∃ P:Pn,ρ=[some (pD P,.io)]) (P:=fun y=>∃ n:Nat,n<=5/\y = .int (n:Nat)) (nD (rgI 0 (1+dr (nx P 6) 6).toNat)) [some (pD (nx (nx P 6) 6),.io)] ⟨_,rfl⟩ (by
   rintro d hd ρ ⟨P,rfl⟩;have b:=kg P (m:=6) (by omega) (by omega)
   trace "Ƥǫħ҈"
   ·exact ⟨(dr P 6).toNat,by omega,by rw [show ((dr P 6).toNat:Int)=dr P 6 by omega]⟩
   ·exact ⟨_,rfl⟩)
  obtain ⟨legs,rfl,l2,l3⟩:=ux ys hy;rw [B9,B9,B9,av] at hl;have sl:=wL legs l3;refine ⟨legs,P',?_,C9 (by omega),by omega⟩;unfold dg gb
  trace "eЉИзǮ{f;ƥUcИћw!Cм"
def Sz(a b:Int):Prop:=1<=a/\1<=b/\a+b<=40/\a.toNat * b.toNat<=60
theorem Ar{d:Int}(h0:0<=d)(h1:d < 6):∃ a b:Int,Sz a b/\gIx [.lst [.tup [.int 1,.int 39],.tup [.int 39,.int 1],.tup [.int 6,.int 10],.tup [.int 10,.int 6],.tup [.int 7,.int 8],.tup [.int 2,.int 30]],.int d]=some (.tup [.int a,.int b],false):=by
 have:d=0\/d=1\/d=2\/d=3\/d=4\/d=5:=by omega
 unfold Sz
 rcases this with rfl | rfl | rfl | rfl | rfl | rfl
 ·exact ⟨1,39,by decide,rfl⟩
 ·exact ⟨39,1,by decide,rfl⟩
 ·exact ⟨6,10,by decide,rfl⟩
 ·exact ⟨10,6,by decide,rfl⟩
 ·exact ⟨7,8,by decide,rfl⟩
 ·exact ⟨2,30,by decide,rfl⟩
theorem zw(P:Pn):∃ (a b:Int) (P':Pn),cz [pD P]=some (.ok (.tup [.int a,.int b]) false,pD P')/\Sz a b:=by
 by_cases h:dr P 6=0
 ·have b:=kg (nx P 6) (m:=6) (by omega) (by omega)
  obtain ⟨x,y,hs,g⟩:=Ar b.1 b.2;refine ⟨x,y,nx (nx P 6) 6,?_,hs⟩;unfold cz fk
  trace "eО/Изǵл4lссМўИ$ĨQ"
 ·have b:=kg (nx P 6) (m:=6) (by omega) (by omega)
  have c:=kg (nx (nx P 6) 6) (m:=9) (by omega) (by omega);refine ⟨1+dr (nx P 6) 6,1+dr (nx (nx P 6) 6) 9,nx (nx (nx P 6) 6) 9,?_,by omega,by omega,by omega,?_⟩
  ·unfold cz fk
   trace "eЉИзǮ{B&,cИR&,cИR(Q"
  ·have h1:(1+dr (nx P 6) 6).toNat<=6:=by omega
   have h2:(1+dr (nx (nx P 6) 6) 9).toNat<=9:=by omega
   have:=Nat.mul_le_mul h1 h2;omega
abbrev sO:List D:=[.non,.int 0,.str "",.tup [],.tup [.str "spine"],.tup [.str "ring"],.tup [.str "ring",.int 2],.tup [.str "ring",.int 41],.tup [.str "sides",.int 2],.tup [.str "sides",.int 0,.int 3],
 .lst [.str "ring",.int 5],.tup [.str "ring",.bl true],.tup [.str "sides",.int 8,.int 8],.tup [.str "spine",.tup [.int 0,.int 39,.int 1]],.tup [.str "spine",.lst [.int 1,.int 1]],
 .tup [.str "spine",.int 3],.tup [.str "Ring",.int 5],.tup [.str "full",.int 1],.tup [.str "full",.int 5],.tup [.str "wheel",.int 4],.tup [.str "fan",.int 3],.tup [.str "fan",.int 1],
 .tup [.str "path",.int 5],.tup [.str "ring",.int 5,.int 5],.dK [] [],.tup [.int 5]]
theorem AQ:(sO.all fun x=>isT1 (aM [x]))=true:=by decide +kernel
theorem AO{x:D}(h:x∈sO):aM [x]=some (.ok (.bl true) false,.non):=uE (Co.mp AQ x h)
theorem Bw(P:Pn):∃ (x:D) (P':Pn),bM [pD P]=some (.ok x false,pD P')/\aM [x]=some (.ok (.bl true) false,.non):=by
 have b:=kg P (m:=26) (by omega) (by omega);obtain ⟨i,hi⟩:∃ i:Nat,dr P 26=(i:Nat):=⟨(dr P 26).toNat,by omega⟩
 have hlt:i < sO.length:=by show i < 26;omega
 have g:gIx [.lst sO,.int (dr P 26)]=some (sO[i]'hlt,false):=by
  rw [hi];exact fA (Bq (B8 hlt))
 refine ⟨sO[i]'hlt,nx P 26,?_,AO (C6 hlt)⟩;have ln:bu [.lst sO]=some (.int 26,false):=rfl;unfold bM f9
 trace "_4aaa&B(ѼѼlсМaўЩП'4&4aсaМlaўl&4aў(RĩȐȇЩП'4lсссўRĩȐȇЩП'4lМaѮ&ěрRĩȐȇo.ПѰ`|MR҇RĨQ"
end K50
namespace K50
open PySem L2
theorem nQ{a b:Int}(h:Sz a b):aq [.tup [.str "sides",.int a,.int b]]=some (.ok (.bl true) false,.non):=by
 obtain ⟨h1,h2,h3,h4⟩:=h;have:=qx (m:=a.toNat) (n:=b.toNat) (by omega) (by omega) (by omega) h4;rw [show ((a.toNat:Nat):Int)=a by omega,show ((b.toNat:Nat):Int)=b by omega] at this;exact this
theorem lJ{i:Int}(h1:3<=i)(h2:i<=40):aq [.tup [.str "ring",.int i]]=some (.ok (.bl true) false,.non):=by
 have:=sw (n:=i.toNat) (by omega) (by omega);rw [show ((i.toNat:Nat):Int)=i by omega] at this;exact this
theorem body(ns:List Int)(c:Int)(x1 x3:Option (D×Md)):uV (kQ [some (.klst (nD ns),.fz),x1,some (.int c,.fz),x3]) (fun ρ=>∃ y2 y3,ρ=[some (.klst (nD ns),.fz),x1,y2,y3]):=by
 obtain ⟨legs,P1,e1,l0,lb⟩:=wH (pen0 c);have r1:=lI l0 lb;have d38:=kg P1 (m:=38) (by omega) (by omega);have r2:=lJ (i:=3+dr P1 38) (by omega) (by omega);obtain ⟨a,b,P2,e2,hs⟩:=zw (nx P1 38);have r3:=nQ hs;obtain ⟨x,P3,e3,q3⟩:=Bw P2;obtain ⟨y,P4,e4,q4⟩:=Bw P3;unfold kQ
 trace "ĪĸXƦb"
 trace "Ī<=Д-п&ħVDѯ($ƧѹД-п&,cИR($ƨЎ"
 trace "Ī<Д-Uп(ѰVĄѯ$Ʃ!ȇ$ƪЎ"
 trace "ƫ<=Д-ѰVŘѯ$ƬѹД-ѰVƭѯ$ƮЎ"
 exact ⟨_,_,rfl⟩
theorem b2:aq [.tup [.str "spine",.tup [.int 0,.int 0]]]=some (.ok (.bl true) false,.non):=lI (legs:=[0,0]) (by decide) (by decide)
theorem b3:aq [.tup [.str "spine",.tup [.int 1]]]=some (.ok (.bl true) false,.non):=lI (legs:=[1]) (by decide) (by decide)
theorem b4:aq [.tup [.str "ring",.int 3]]=some (.ok (.bl true) false,.non):=lJ (by decide) (by decide)
theorem b5:aq [.tup [.str "sides",.int 1,.int 1]]=some (.ok (.bl true) false,.non):=nQ ⟨by decide,by decide,by decide,by decide⟩
theorem b6:aq [.tup [.str "ring",.int 39]]=some (.ok (.bl true) false,.non):=lJ (by decide) (by decide)
theorem law_ok(ns:List Int):rl [.klst (nD ns)]=some (.ok (.bl true) false,.non):=by
 have p1:=uc;have p2:=b2;have p3:=b3;have p4:=b4;have p5:=b5;have p6:=b6
 have R:Bs (wP [some (.klst (nD ns),.fz),none,none,none]) (fun d nw ρ=>d = .bl true/\nw=false):=by
  unfold wP
  trace "řĜā4lрllўlрlМaМѮЗџƯЎџưЎџƱЎџƲЎџƳЎџƴЎŖ"
  obtain ⟨ρ',e,y2,y3,rfl⟩:=gg (T:= .nm 2) (f:=kQ) (inj:=D.int) (fun (_:Unit) ρ=>∃ y2 y3,ρ=[some (.klst (nD ns),.fz),some (.tup [.str "ring",.int 39],.fz),y2,y3]) (fun _ _=>()) (yU ns 0::rC ns (some 1) (some 4)) () [some (.klst (nD ns),.fz),some (.tup [.str "ring",.int 39],.fz),none,none] ⟨_,_,rfl⟩ (by
   rintro c hc _ ρ ⟨y2,y3,rfl⟩;obtain ⟨ρ',e,hq⟩:=body ns c (some (.tup [.str "ring",.int 39],.fz)) y3
   exact ⟨_,_,rfl,e,hq⟩)
  trace "řĜāf4&-АƵ!(|ƶ$Ʒw!C"
  trace "Ƹ.A"
  exact ⟨rfl,rfl⟩
 obtain ⟨d,nw,ρ',e2,rfl,rfl⟩:=R;unfold rl
 trace "eĄQ"
end K50
namespace K50
open PySem L2 PyProof.Rows
def DIn(K:EG)(x:Str)(i:Nat):Prop:=∃ (f:Addr) (od an:Option Addr) (sl:Array (Option Value)) (oc kV dc pm cd ct:Value),PySem.W.nsIn K mainGlobals x=some (some (.ref f))/\K.lookup f=some ⟨oc,od,.func (PySem.W.fnOf x x (eK (top i)) (bA (top i)) (aa (top i)) .none kV dc pm an cd ct),sl⟩/\PySem.W.codeIn K cd x=true/\PySem.W.keepIn K (.ref f)=true
theorem din_mk{K:EG}{x:Str}{i:Nat}{f:Addr}{od an:Option Addr}{sl:Array (Option Value)}{oc kV dc pm cd ct:Value}(a:PySem.W.nsIn K mainGlobals x=some (some (.ref f)))(l:K.lookup f=some ⟨oc,od,.func (PySem.W.fnOf x x (eK (top i)) (bA (top i)) (aa (top i)) .none kV dc pm an cd ct),sl⟩)(c:PySem.W.codeIn K cd x=true)(k:PySem.W.keepIn K (.ref f)=true):DIn K x i:=⟨f,od,an,sl,oc,kV,dc,pm,cd,ct,a,l,c,k⟩
theorem ak{K:EG}{mg:Str->Option Value}{h:Heap}(X:K.In h)(G:h.Ns mainGlobals mg){x:Str}{i:Nat}{ps:List Str}(d:DIn K x i)
 (hb:∀ (kV doc pm:Value) (an:Option Addr) (cdv ct:Value) (us:List Value),us.length=ps.length->bindArgs (PySem.W.fnOf x x (eK (top i)) (bA (top i)) (aa (top i)) .none kV doc pm an cdv ct) ⟨us,[]⟩=pure (ps.zip us)):Has K mg x (top i) ps:=by
 obtain ⟨f,od,an,sl,oc,kV,dc,pm,cd,ct,a,l,c,k⟩:=d;exact ⟨f,_,tz l c k,CH X G a,(tz (st:=top i) l c k).binds hb⟩
theorem xF{K:EG}{mg:Str->Option Value}{h:Heap}{x:Str}{C:Addr}{bs:List Value}{ni:String}(X:K.In h)(G:h.Ns mainGlobals mg)(e:PySem.W.nsIn K mainGlobals x=some (some (.ref C)))(q:PySem.W.excIn K C bs ni=true):OwnCls x C bs ni mg h where
 bound:=CH X G e
 obj:=by
  unfold PySem.W.excIn at q
  split at q
  case h_2=>cases q
  case h_1 d1 cl ss look =>
   split at q
   case h_2=>cases q
   case h_1 C2 rest a0 a1 a2 a3 nw a5 hmro hslots =>
    rcases cl with ⟨c1,c2,c3,c4,c5,c6,c7,c8,c9,c10,c11⟩
    rcases ss with ⟨ss⟩
    simp only [Cv,beq_iff_eq,Bool.not_eq_true'] at q
    rcases q with ⟨⟨⟨⟨⟨w1,w2⟩,w3⟩,w4⟩,w5⟩,w6⟩
    dsimp only at hmro hslots w3 w5 w6;cases w1;cases w2;cases hmro;cases w3;cases hslots;exact ⟨rest,c4,c1,c5,c2,c6,c7,c8,c9,c10,d1,a0,a1,a2,a3,a5,_,X _ _ look,.of_isNs (PySem.W.isNs_of_in X w5),PySem.W.nsMap_none_of_in X w5 w6,PySem.W.tail_of_in X w4⟩
theorem all_mk{l:PySem.W.OpenLaw}{w:World}{K:EG}{h:Heap}{mg:Str->Option Value}{fa:Addr}(X:K.In h)(G:h.Ns mainGlobals mg)(hfa:mg "law" = some (.ref fa))
 {A_NoKind:Addr} {e_NoKind:ClassData}
 {A_NoNumber:Addr} {e_NoNumber:ClassData}
 {A_NoPlace:Addr} {e_NoPlace:ClassData}
 {A_NoRow:Addr} {e_NoRow:ClassData}
 {A_NoShare:Addr} {e_NoShare:ClassData}
 {A_NoSquare:Addr} {e_NoSquare:ClassData}
 {A_NoText:Addr} {e_NoText:ClassData}
 {A_NoWeb:Addr} {e_NoWeb:ClassData}
 {A_TooGreat:Addr} {e_TooGreat:ClassData}
 {TE:Addr} {eT:ClassData}
 {tk_MOST_PLACES:Tok}
 {tk_MOST_TIES:Tok}
 {da_LEAST_NUMBERS:Addr} {de_LEAST_NUMBERS:Nat}
 {dt_LEAST_NUMBERS_0:Tok} {bb0:Addr} {db0:Option Addr} {nb0:Nat} {sb0:Array (Option Value)} {tb0_0:Tok}
 {dt_LEAST_NUMBERS_1:Tok} {bb1:Addr} {db1:Option Addr} {nb1:Nat} {sb1:Array (Option Value)} {tb1_0:Tok} {tb1_1:Tok}
 {dt_LEAST_NUMBERS_2:Tok} {bb2:Addr} {db2:Option Addr} {nb2:Nat} {sb2:Array (Option Value)} {tb2_0:Tok}
 {dt_LEAST_NUMBERS_3:Tok} {bb3:Addr} {db3:Option Addr} {nb3:Nat} {sb3:Array (Option Value)} {tb3_0:Tok}
 {dt_LEAST_NUMBERS_4:Tok} {bb4:Addr} {db4:Option Addr} {nb4:Nat} {sb4:Array (Option Value)} {tb4_0:Tok}
 (d0:DIn K "is_whole" 1)
 (d1:DIn K "whole_within" 2)
 (d2:DIn K "unlike_within" 3)
 (d3:DIn K "each_once" 4)
 (d4:DIn K "many_good" 19)
 (d5:DIn K "tie_told" 20)
 (d6:DIn K "is_place" 21)
 (d7:DIn K "web_of" 22)
 (d8:DIn K "kind_good" 25)
 (d9:DIn K "web_for" 26)
 (d10:DIn K "form_good" 27)
 (d11:DIn K "legs_good" 28)
 (d12:DIn K "numbers_good" 29)
 (d13:DIn K "places_in" 30)
 (d14:DIn K "ties_in" 31)
 (d15:DIn K "row_ties" 32)
 (d16:DIn K "star_ties" 33)
 (d17:DIn K "spine_ties" 34)
 (d18:DIn K "ring_ties" 35)
 (d19:DIn K "sides_ties" 36)
 (d20:DIn K "full_ties" 37)
 (d21:DIn K "fan_ties" 38)
 (d22:DIn K "wheel_ties" 39)
 (d23:DIn K "steps_good" 41)
 (d24:DIn K "places_numbered" 42)
 (d25:DIn K "steps_by" 43)
 (d26:DIn K "check_steps" 44)
 (d27:DIn K "parted_at" 45)
 (d28:DIn K "parting_number" 46)
 (d29:DIn K "upper_turned" 47)
 (d30:DIn K "parted_for" 49)
 (d31:DIn K "parted_made" 50)
 (d32:DIn K "spine_steps" 51)
 (d33:DIn K "sides_steps" 52)
 (d34:DIn K "end_sums" 54)
 (d35:DIn K "taken_from" 55)
 (d36:DIn K "low_by" 56)
 (d37:DIn K "filled_to" 57)
 (d38:DIn K "total_for" 58)
 (d39:DIn K "sides_total" 59)
 (d40:DIn K "ring_low" 60)
 (d41:DIn K "_law_cell_at" 62)
 (d42:DIn K "_law_next" 63)
 (d43:DIn K "_law_pen_of" 64)
 (d44:DIn K "_law_draw" 65)
 (d45:DIn K "_law_whole" 66)
 (d46:DIn K "_law_kind_of" 67)
 (d47:DIn K "_law_total_due" 68)
 (d48:DIn K "_law_refused" 69)
 (d49:DIn K "_law_right" 70)
 (d50:DIn K "_law_legs" 71)
 (d51:DIn K "_law_sizes" 72)
 (d52:DIn K "_law_no_kind" 73)
 (d53:DIn K "law" 74)
 (z_ValueError:PySem.W.nsIn K mainGlobals "ValueError" = some none)
 (z_abs:PySem.W.nsIn K mainGlobals "abs" = some none)
 (z_all:PySem.W.nsIn K mainGlobals "all" = some none)
 (z_bool:PySem.W.nsIn K mainGlobals "bool" = some none)
 (z_enumerate:PySem.W.nsIn K mainGlobals "enumerate" = some none)
 (z_int:PySem.W.nsIn K mainGlobals "int" = some none)
 (z_isinstance:PySem.W.nsIn K mainGlobals "isinstance" = some none)
 (z_len:PySem.W.nsIn K mainGlobals "len" = some none)
 (z_list:PySem.W.nsIn K mainGlobals "list" = some none)
 (z_max:PySem.W.nsIn K mainGlobals "max" = some none)
 (z_min:PySem.W.nsIn K mainGlobals "min" = some none)
 (z_range:PySem.W.nsIn K mainGlobals "range" = some none)
 (z_set:PySem.W.nsIn K mainGlobals "set" = some none)
 (z_sorted:PySem.W.nsIn K mainGlobals "sorted" = some none)
 (z_str:PySem.W.nsIn K mainGlobals "str" = some none)
 (z_sum:PySem.W.nsIn K mainGlobals "sum" = some none)
 (z_tuple:PySem.W.nsIn K mainGlobals "tuple" = some none)
 (z_zip:PySem.W.nsIn K mainGlobals "zip" = some none)
 (q_MOST_PLACES:PySem.W.nsIn K mainGlobals "MOST_PLACES" = some (some (.int 40 tk_MOST_PLACES)))
 (q_MOST_TIES:PySem.W.nsIn K mainGlobals "MOST_TIES" = some (some (.int 60 tk_MOST_TIES)))
 (q_LEAST_NUMBERS:PySem.W.nsIn K mainGlobals "LEAST_NUMBERS" = some (some (.ref da_LEAST_NUMBERS)))
 (ql_LEAST_NUMBERS:K.lookup da_LEAST_NUMBERS=some ⟨.type "dict",none,.dict #[⟨PyData.keyHash w.params "ring",.str "ring" dt_LEAST_NUMBERS_0,.ref bb0⟩,⟨PyData.keyHash w.params "sides",.str "sides" dt_LEAST_NUMBERS_1,.ref bb1⟩,⟨PyData.keyHash w.params "full",.str "full" dt_LEAST_NUMBERS_2,.ref bb2⟩,⟨PyData.keyHash w.params "wheel",.str "wheel" dt_LEAST_NUMBERS_3,.ref bb3⟩,⟨PyData.keyHash w.params "fan",.str "fan" dt_LEAST_NUMBERS_4,.ref bb4⟩] de_LEAST_NUMBERS,#[]⟩)
 (lb0:K.lookup bb0=some ⟨.type "tuple",db0,.seq #[.int 3 tb0_0] nb0,sb0⟩)
 (lb1:K.lookup bb1=some ⟨.type "tuple",db1,.seq #[.int 1 tb1_0,.int 1 tb1_1] nb1,sb1⟩)
 (lb2:K.lookup bb2=some ⟨.type "tuple",db2,.seq #[.int 1 tb2_0] nb2,sb2⟩)
 (lb3:K.lookup bb3=some ⟨.type "tuple",db3,.seq #[.int 3 tb3_0] nb3,sb3⟩)
 (lb4:K.lookup bb4=some ⟨.type "tuple",db4,.seq #[.int 1 tb4_0] nb4,sb4⟩)
 (qn_LEAST_NUMBERS:(da_LEAST_NUMBERS == sysModules)=false)
 (n_NoKind:PySem.W.nsIn K mainGlobals "NoKind" = some (some (.ref A_NoKind)))
 (x_NoKind:PySem.W.excIn K A_NoKind [.type "ValueError",.type "Exception",.type "BaseException",.type "object"] "ValueError.__new__" = true)
 (n_NoNumber:PySem.W.nsIn K mainGlobals "NoNumber" = some (some (.ref A_NoNumber)))
 (x_NoNumber:PySem.W.excIn K A_NoNumber [.type "ValueError",.type "Exception",.type "BaseException",.type "object"] "ValueError.__new__" = true)
 (nT:PySem.W.nsIn K mainGlobals "TieError" = some (some (.ref TE)))
 (yT:PySem.W.clsIn K TE=some eT)
 (tT:PySem.W.typeIn K (.ref TE)=some (.type "type"))
 (sT:PySem.W.subIn K (.ref TE) (.type "BaseException")=some true)
 (w_NoKind:PySem.W.subIn K (.ref A_NoKind) (.ref TE)=some true)
 (w_NoNumber:PySem.W.subIn K (.ref A_NoNumber) (.ref TE)=some true)
 (n_NoWeb:PySem.W.nsIn K mainGlobals "NoWeb" = some (some (.ref A_NoWeb)))
 (y_NoWeb:PySem.W.clsIn K A_NoWeb=some e_NoWeb)
 (t_NoWeb:PySem.W.typeIn K (.ref A_NoWeb)=some (.type "type"))
 (n_NoPlace:PySem.W.nsIn K mainGlobals "NoPlace" = some (some (.ref A_NoPlace)))
 (y_NoPlace:PySem.W.clsIn K A_NoPlace=some e_NoPlace)
 (t_NoPlace:PySem.W.typeIn K (.ref A_NoPlace)=some (.type "type"))
 (y_NoKind:PySem.W.clsIn K A_NoKind=some e_NoKind)
 (t_NoKind:PySem.W.typeIn K (.ref A_NoKind)=some (.type "type"))
 (n_NoShare:PySem.W.nsIn K mainGlobals "NoShare" = some (some (.ref A_NoShare)))
 (y_NoShare:PySem.W.clsIn K A_NoShare=some e_NoShare)
 (t_NoShare:PySem.W.typeIn K (.ref A_NoShare)=some (.type "type"))
 (n_NoSquare:PySem.W.nsIn K mainGlobals "NoSquare" = some (some (.ref A_NoSquare)))
 (y_NoSquare:PySem.W.clsIn K A_NoSquare=some e_NoSquare)
 (t_NoSquare:PySem.W.typeIn K (.ref A_NoSquare)=some (.type "type"))
 (y_NoNumber:PySem.W.clsIn K A_NoNumber=some e_NoNumber)
 (t_NoNumber:PySem.W.typeIn K (.ref A_NoNumber)=some (.type "type"))
 (n_NoText:PySem.W.nsIn K mainGlobals "NoText" = some (some (.ref A_NoText)))
 (y_NoText:PySem.W.clsIn K A_NoText=some e_NoText)
 (t_NoText:PySem.W.typeIn K (.ref A_NoText)=some (.type "type"))
 (n_NoRow:PySem.W.nsIn K mainGlobals "NoRow" = some (some (.ref A_NoRow)))
 (y_NoRow:PySem.W.clsIn K A_NoRow=some e_NoRow)
 (t_NoRow:PySem.W.typeIn K (.ref A_NoRow)=some (.type "type"))
 (n_TooGreat:PySem.W.nsIn K mainGlobals "TooGreat" = some (some (.ref A_TooGreat)))
 (y_TooGreat:PySem.W.clsIn K A_TooGreat=some e_TooGreat)
 (t_TooGreat:PySem.W.typeIn K (.ref A_TooGreat)=some (.type "type"))
 (s_NoKind_NoWeb:PySem.W.subIn K (.ref A_NoKind) (.ref A_NoWeb)=some false)
 (u_NoKind_NoWeb:A_NoKind≠A_NoWeb)
 (s_NoKind_NoPlace:PySem.W.subIn K (.ref A_NoKind) (.ref A_NoPlace)=some false)
 (u_NoKind_NoPlace:A_NoKind≠A_NoPlace)
 (s_NoKind_NoShare:PySem.W.subIn K (.ref A_NoKind) (.ref A_NoShare)=some false)
 (u_NoKind_NoShare:A_NoKind≠A_NoShare)
 (s_NoKind_NoSquare:PySem.W.subIn K (.ref A_NoKind) (.ref A_NoSquare)=some false)
 (u_NoKind_NoSquare:A_NoKind≠A_NoSquare)
 (s_NoKind_NoNumber:PySem.W.subIn K (.ref A_NoKind) (.ref A_NoNumber)=some false)
 (u_NoKind_NoNumber:A_NoKind≠A_NoNumber)
 (s_NoKind_NoText:PySem.W.subIn K (.ref A_NoKind) (.ref A_NoText)=some false)
 (u_NoKind_NoText:A_NoKind≠A_NoText)
 (s_NoKind_NoRow:PySem.W.subIn K (.ref A_NoKind) (.ref A_NoRow)=some false)
 (u_NoKind_NoRow:A_NoKind≠A_NoRow)
 (s_NoKind_TooGreat:PySem.W.subIn K (.ref A_NoKind) (.ref A_TooGreat)=some false)
 (u_NoKind_TooGreat:A_NoKind≠A_TooGreat)
 (v_NoKind:PySem.W.subIn K (.ref A_NoKind) (.type "ValueError")=some true)
 (ga_NoKind:PySem.W.findIn K (.ref A_NoKind) "__getattribute__" = some (some (.builtin "BaseException.__getattribute__")))
 (gh_NoKind:PySem.W.findIn K (.ref A_NoKind) "__getattr__" = some none)
 (mb_NoKind:PySem.W.mroIn K A_NoKind (.type "BaseException")=some true)
 (cl_NoKind:PySem.W.findIn K (.ref A_NoKind) "__class__" = some (some (.builtin "object.__class__")))
 (ob_NoKind:PySem.W.mroIn K A_NoKind (.type "object")=some true)
 (s_NoNumber_NoWeb:PySem.W.subIn K (.ref A_NoNumber) (.ref A_NoWeb)=some false)
 (u_NoNumber_NoWeb:A_NoNumber≠A_NoWeb)
 (s_NoNumber_NoPlace:PySem.W.subIn K (.ref A_NoNumber) (.ref A_NoPlace)=some false)
 (u_NoNumber_NoPlace:A_NoNumber≠A_NoPlace)
 (s_NoNumber_NoKind:PySem.W.subIn K (.ref A_NoNumber) (.ref A_NoKind)=some false)
 (u_NoNumber_NoKind:A_NoNumber≠A_NoKind)
 (s_NoNumber_NoShare:PySem.W.subIn K (.ref A_NoNumber) (.ref A_NoShare)=some false)
 (u_NoNumber_NoShare:A_NoNumber≠A_NoShare)
 (s_NoNumber_NoSquare:PySem.W.subIn K (.ref A_NoNumber) (.ref A_NoSquare)=some false)
 (u_NoNumber_NoSquare:A_NoNumber≠A_NoSquare)
 (s_NoNumber_NoText:PySem.W.subIn K (.ref A_NoNumber) (.ref A_NoText)=some false)
 (u_NoNumber_NoText:A_NoNumber≠A_NoText)
 (s_NoNumber_NoRow:PySem.W.subIn K (.ref A_NoNumber) (.ref A_NoRow)=some false)
 (u_NoNumber_NoRow:A_NoNumber≠A_NoRow)
 (s_NoNumber_TooGreat:PySem.W.subIn K (.ref A_NoNumber) (.ref A_TooGreat)=some false)
 (u_NoNumber_TooGreat:A_NoNumber≠A_TooGreat)
 (v_NoNumber:PySem.W.subIn K (.ref A_NoNumber) (.type "ValueError")=some true)
 (ga_NoNumber:PySem.W.findIn K (.ref A_NoNumber) "__getattribute__" = some (some (.builtin "BaseException.__getattribute__")))
 (gh_NoNumber:PySem.W.findIn K (.ref A_NoNumber) "__getattr__" = some none)
 (mb_NoNumber:PySem.W.mroIn K A_NoNumber (.type "BaseException")=some true)
 (cl_NoNumber:PySem.W.findIn K (.ref A_NoNumber) "__class__" = some (some (.builtin "object.__class__")))
 (ob_NoNumber:PySem.W.mroIn K A_NoNumber (.type "object")=some true)
 : ∃ fd:FuncData,(∀ (s:Shared) (v:Value),BindsTo s fd ⟨[v],[]⟩ [("script",v)])/\∀ base:Heap,K.In base->base.Ns mainGlobals mg->mQ l.prog w K mg base (CXr l.prog w) 12 fa fd ["script"] (spF K none rl):=by
 obtain ⟨fL,odL,anL,slL,ocL,kVL,dcL,pmL,cdL,ctL,aL,lL,cL,kL⟩:=d53;cases hfa.symm.trans (CH X G aL);have T:Txt K mg:=⟨CC X G z_ValueError,CC X G z_abs,CC X G z_all,CC X G z_bool,CC X G z_enumerate,CC X G z_int,CC X G z_isinstance,CC X G z_len,CC X G z_list,CC X G z_max,CC X G z_min,CC X G z_range,CC X G z_set,CC X G z_sorted,CC X G z_str,CC X G z_sum,CC X G z_tuple,CC X G z_zip,⟨tk_MOST_PLACES,CH X G q_MOST_PLACES⟩,⟨tk_MOST_TIES,CH X G q_MOST_TIES⟩⟩;have M_LEAST_NUMBERS:uU w K mg "LEAST_NUMBERS" ba bb:=⟨⟨da_LEAST_NUMBERS,[.ref bb0,.ref bb1,.ref bb2,.ref bb3,.ref bb4],CH X G q_LEAST_NUMBERS,rfl,fzM_of [("ring",dt_LEAST_NUMBERS_0,bb0),("sides",dt_LEAST_NUMBERS_1,bb1),("full",dt_LEAST_NUMBERS_2,bb2),("wheel",dt_LEAST_NUMBERS_3,bb3),("fan",dt_LEAST_NUMBERS_4,bb4)] qn_LEAST_NUMBERS ql_LEAST_NUMBERS (show (["ring", "sides", "full", "wheel", "fan"]:List Str).Nodup by decide),fun H=>⟨⟨bb0,[.int 3],rfl,.inr ⟨_,#[.int 3 tb0_0],nb0,lb0,rfl,rfl,by show 1<=sizeLine;decide,(.cons ⟨_,rfl⟩ .nil)⟩,rfl,trivial⟩,⟨bb1,[.int 1,.int 1],rfl,.inr ⟨_,#[.int 1 tb1_0,.int 1 tb1_1],nb1,lb1,rfl,rfl,by show 2<=sizeLine;decide,(.cons ⟨_,rfl⟩ (.cons ⟨_,rfl⟩ .nil))⟩,rfl,rfl,trivial⟩,⟨bb2,[.int 1],rfl,.inr ⟨_,#[.int 1 tb2_0],nb2,lb2,rfl,rfl,by show 1<=sizeLine;decide,(.cons ⟨_,rfl⟩ .nil)⟩,rfl,trivial⟩,⟨bb3,[.int 3],rfl,.inr ⟨_,#[.int 3 tb3_0],nb3,lb3,rfl,rfl,by show 1<=sizeLine;decide,(.cons ⟨_,rfl⟩ .nil)⟩,rfl,trivial⟩,⟨bb4,[.int 1],rfl,.inr ⟨_,#[.int 1 tb4_0],nb4,lb4,rfl,rfl,by show 1<=sizeLine;decide,(.cons ⟨_,rfl⟩ .nil)⟩,rfl,trivial⟩,trivial⟩⟩⟩
 have D0:Has K mg "is_whole" (top 1) ["thing"]:=ak X G d0 fun _ _ _ _ _ _ us hl=>match us,hl with | [_],_=>rfl
 have D1:Has K mg "whole_within" (top 2) ["thing", "least", "most"]:=ak X G d1 fun _ _ _ _ _ _ us hl=>match us,hl with | [_,_,_],_=>rfl
 have D2:Has K mg "unlike_within" (top 3) ["things", "least", "most"]:=ak X G d2 fun _ _ _ _ _ _ us hl=>match us,hl with | [_,_,_],_=>rfl
 have D3:Has K mg "each_once" (top 4) ["things", "most"]:=ak X G d3 fun _ _ _ _ _ _ us hl=>match us,hl with | [_,_],_=>rfl
 have D4:Has K mg "many_good" (top 19) ["thing"]:=ak X G d4 fun _ _ _ _ _ _ us hl=>match us,hl with | [_],_=>rfl
 have D5:Has K mg "tie_told" (top 20) ["many", "thing"]:=ak X G d5 fun _ _ _ _ _ _ us hl=>match us,hl with | [_,_],_=>rfl
 have D6:Has K mg "is_place" (top 21) ["many", "thing"]:=ak X G d6 fun _ _ _ _ _ _ us hl=>match us,hl with | [_,_],_=>rfl
 have D7:Has K mg "web_of" (top 22) ["many", "things"]:=ak X G d7 fun _ _ _ _ _ _ us hl=>match us,hl with | [_,_],_=>rfl
 have D8:Has K mg "kind_good" (top 25) ["thing"]:=ak X G d8 fun _ _ _ _ _ _ us hl=>match us,hl with | [_],_=>rfl
 have D9:Has K mg "web_for" (top 26) ["kind"]:=ak X G d9 fun _ _ _ _ _ _ us hl=>match us,hl with | [_],_=>rfl
 have D10:Has K mg "form_good" (top 27) ["thing"]:=ak X G d10 fun _ _ _ _ _ _ us hl=>match us,hl with | [_],_=>rfl
 have D11:Has K mg "legs_good" (top 28) ["thing"]:=ak X G d11 fun _ _ _ _ _ _ us hl=>match us,hl with | [_],_=>rfl
 have D12:Has K mg "numbers_good" (top 29) ["leasts", "things"]:=ak X G d12 fun _ _ _ _ _ _ us hl=>match us,hl with | [_,_],_=>rfl
 have D13:Has K mg "places_in" (top 30) ["kind"]:=ak X G d13 fun _ _ _ _ _ _ us hl=>match us,hl with | [_],_=>rfl
 have D14:Has K mg "ties_in" (top 31) ["kind"]:=ak X G d14 fun _ _ _ _ _ _ us hl=>match us,hl with | [_],_=>rfl
 have D15:Has K mg "row_ties" (top 32) ["first", "last"]:=ak X G d15 fun _ _ _ _ _ _ us hl=>match us,hl with | [_,_],_=>rfl
 have D16:Has K mg "star_ties" (top 33) ["middle", "first", "last"]:=ak X G d16 fun _ _ _ _ _ _ us hl=>match us,hl with | [_,_,_],_=>rfl
 have D17:Has K mg "spine_ties" (top 34) ["legs"]:=ak X G d17 fun _ _ _ _ _ _ us hl=>match us,hl with | [_],_=>rfl
 have D18:Has K mg "ring_ties" (top 35) ["n"]:=ak X G d18 fun _ _ _ _ _ _ us hl=>match us,hl with | [_],_=>rfl
 have D19:Has K mg "sides_ties" (top 36) ["m", "n"]:=ak X G d19 fun _ _ _ _ _ _ us hl=>match us,hl with | [_,_],_=>rfl
 have D20:Has K mg "full_ties" (top 37) ["n"]:=ak X G d20 fun _ _ _ _ _ _ us hl=>match us,hl with | [_],_=>rfl
 have D21:Has K mg "fan_ties" (top 38) ["n"]:=ak X G d21 fun _ _ _ _ _ _ us hl=>match us,hl with | [_],_=>rfl
 have D22:Has K mg "wheel_ties" (top 39) ["n"]:=ak X G d22 fun _ _ _ _ _ _ us hl=>match us,hl with | [_],_=>rfl
 have D23:Has K mg "steps_good" (top 41) ["web", "thing"]:=ak X G d23 fun _ _ _ _ _ _ us hl=>match us,hl with | [_,_],_=>rfl
 have D24:Has K mg "places_numbered" (top 42) ["web", "thing"]:=ak X G d24 fun _ _ _ _ _ _ us hl=>match us,hl with | [_,_],_=>rfl
 have D25:Has K mg "steps_by" (top 43) ["web", "numbers"]:=ak X G d25 fun _ _ _ _ _ _ us hl=>match us,hl with | [_,_],_=>rfl
 have D26:Has K mg "check_steps" (top 44) ["web", "thing"]:=ak X G d26 fun _ _ _ _ _ _ us hl=>match us,hl with | [_,_],_=>rfl
 have D27:Has K mg "parted_at" (top 45) ["web", "numbers"]:=ak X G d27 fun _ _ _ _ _ _ us hl=>match us,hl with | [_,_],_=>rfl
 have D28:Has K mg "parting_number" (top 46) ["web", "numbers"]:=ak X G d28 fun _ _ _ _ _ _ us hl=>match us,hl with | [_,_],_=>rfl
 have D29:Has K mg "upper_turned" (top 47) ["web", "numbers"]:=ak X G d29 fun _ _ _ _ _ _ us hl=>match us,hl with | [_,_],_=>rfl
 have D30:Has K mg "parted_for" (top 49) ["kind"]:=ak X G d30 fun _ _ _ _ _ _ us hl=>match us,hl with | [_],_=>rfl
 have D31:Has K mg "parted_made" (top 50) ["kind"]:=ak X G d31 fun _ _ _ _ _ _ us hl=>match us,hl with | [_],_=>rfl
 have D32:Has K mg "spine_steps" (top 51) ["legs"]:=ak X G d32 fun _ _ _ _ _ _ us hl=>match us,hl with | [_],_=>rfl
 have D33:Has K mg "sides_steps" (top 52) ["m", "n"]:=ak X G d33 fun _ _ _ _ _ _ us hl=>match us,hl with | [_,_],_=>rfl
 have D34:Has K mg "end_sums" (top 54) ["web", "numbers"]:=ak X G d34 fun _ _ _ _ _ _ us hl=>match us,hl with | [_,_],_=>rfl
 have D35:Has K mg "taken_from" (top 55) ["whole", "numbers"]:=ak X G d35 fun _ _ _ _ _ _ us hl=>match us,hl with | [_,_],_=>rfl
 have D36:Has K mg "low_by" (top 56) ["web", "numbers"]:=ak X G d36 fun _ _ _ _ _ _ us hl=>match us,hl with | [_,_],_=>rfl
 have D37:Has K mg "filled_to" (top 57) ["web", "numbers", "total"]:=ak X G d37 fun _ _ _ _ _ _ us hl=>match us,hl with | [_,_,_],_=>rfl
 have D38:Has K mg "total_for" (top 58) ["kind"]:=ak X G d38 fun _ _ _ _ _ _ us hl=>match us,hl with | [_],_=>rfl
 have D39:Has K mg "sides_total" (top 59) ["web", "m", "n"]:=ak X G d39 fun _ _ _ _ _ _ us hl=>match us,hl with | [_,_,_],_=>rfl
 have D40:Has K mg "ring_low" (top 60) ["n"]:=ak X G d40 fun _ _ _ _ _ _ us hl=>match us,hl with | [_],_=>rfl
 have D41:Has K mg "_law_cell_at" (top 62) ["script", "k"]:=ak X G d41 fun _ _ _ _ _ _ us hl=>match us,hl with | [_,_],_=>rfl
 have D42:Has K mg "_law_next" (top 63) ["seed"]:=ak X G d42 fun _ _ _ _ _ _ us hl=>match us,hl with | [_],_=>rfl
 have D43:Has K mg "_law_pen_of" (top 64) ["cell"]:=ak X G d43 fun _ _ _ _ _ _ us hl=>match us,hl with | [_],_=>rfl
 have D44:Has K mg "_law_draw" (top 65) ["pen", "many"]:=ak X G d44 fun _ _ _ _ _ _ us hl=>match us,hl with | [_,_],_=>rfl
 have D45:Has K mg "_law_whole" (top 66) ["found"]:=ak X G d45 fun _ _ _ _ _ _ us hl=>match us,hl with | [_],_=>rfl
 have D46:Has K mg "_law_kind_of" (top 67) ["e"]:=ak X G d46 fun _ _ _ _ _ _ us hl=>match us,hl with | [_],_=>rfl
 have D47:Has K mg "_law_total_due" (top 68) ["web", "thing"]:=ak X G d47 fun _ _ _ _ _ _ us hl=>match us,hl with | [_,_],_=>rfl
 have D48:Has K mg "_law_refused" (top 69) ["thing"]:=ak X G d48 fun _ _ _ _ _ _ us hl=>match us,hl with | [_],_=>rfl
 have D49:Has K mg "_law_right" (top 70) ["kind"]:=ak X G d49 fun _ _ _ _ _ _ us hl=>match us,hl with | [_],_=>rfl
 have D50:Has K mg "_law_legs" (top 71) ["pen"]:=ak X G d50 fun _ _ _ _ _ _ us hl=>match us,hl with | [_],_=>rfl
 have D51:Has K mg "_law_sizes" (top 72) ["pen"]:=ak X G d51 fun _ _ _ _ _ _ us hl=>match us,hl with | [_],_=>rfl
 have D52:Has K mg "_law_no_kind" (top 73) ["pen"]:=ak X G d52 fun _ _ _ _ _ _ us hl=>match us,hl with | [_],_=>rfl
 refine ⟨PySem.W.fnOf "law" "law" (eK (top 74)) (bA (top 74)) (aa (top 74)) .none kVL dcL pmL anL cdL ctL,fun s v=> .of_eq rfl,fun base KB GB=> ?_⟩;have O_NoKind:OwnCls "NoKind" A_NoKind [.type "ValueError",.type "Exception",.type "BaseException",.type "object"] "ValueError.__new__" mg base:=xF KB GB n_NoKind x_NoKind;have R_NoKind:cQ K mg base "NoKind" := ⟨_,_,_,_,_,O_NoKind,PySem.F.excBase_ValueError,n_NoKind⟩;have O_NoNumber:OwnCls "NoNumber" A_NoNumber [.type "ValueError",.type "Exception",.type "BaseException",.type "object"] "ValueError.__new__" mg base:=xF KB GB n_NoNumber x_NoNumber;have R_NoNumber:cQ K mg base "NoNumber" := ⟨_,_,_,_,_,O_NoNumber,PySem.F.excBase_ValueError,n_NoNumber⟩;have HT:Hdl K mg "TieError" TE:=⟨CH X G nT,sT,by rw [yT];rfl,tT⟩
 have SU:∀ nm,nms.elem nm=true->∀ C,gE K nm C->PySem.W.subIn K (.ref C) (.ref TE)=some true:=fun nm h C hC=>by
  rcases (by simpa [nms] using h:nm=("NoKind" : Str)\/nm=("NoNumber" : Str)) with rfl | rfl
  ·have e:C=A_NoKind:=by have:=(show PySem.W.nsIn K mainGlobals "NoKind" = _ from hC).symm.trans n_NoKind;simpa using this
   subst e;exact w_NoKind
  ·have e:C=A_NoNumber:=by have:=(show PySem.W.nsIn K mainGlobals "NoNumber" = _ from hC).symm.trans n_NoNumber;simpa using this
   subst e;exact w_NoNumber
 have KD_NoKind:Kd.pX K mg A_NoKind 2:=⟨⟨ga_NoKind,gh_NoKind,mb_NoKind,cl_NoKind,ob_NoKind,by rw [y_NoKind];rfl⟩,by decide,Kd.ya v_NoKind,⟨A_NoWeb,CH X G n_NoWeb,Kd.aN u_NoKind_NoWeb y_NoWeb t_NoWeb s_NoKind_NoWeb⟩,⟨A_NoPlace,CH X G n_NoPlace,Kd.aN u_NoKind_NoPlace y_NoPlace t_NoPlace s_NoKind_NoPlace⟩,⟨A_NoKind,CH X G n_NoKind,Kd.qV⟩,⟨A_NoShare,CH X G n_NoShare,Kd.aN u_NoKind_NoShare y_NoShare t_NoShare s_NoKind_NoShare⟩,⟨A_NoSquare,CH X G n_NoSquare,Kd.aN u_NoKind_NoSquare y_NoSquare t_NoSquare s_NoKind_NoSquare⟩,⟨A_NoNumber,CH X G n_NoNumber,Kd.aN u_NoKind_NoNumber y_NoNumber t_NoNumber s_NoKind_NoNumber⟩,⟨A_NoText,CH X G n_NoText,Kd.aN u_NoKind_NoText y_NoText t_NoText s_NoKind_NoText⟩,⟨A_NoRow,CH X G n_NoRow,Kd.aN u_NoKind_NoRow y_NoRow t_NoRow s_NoKind_NoRow⟩,⟨A_TooGreat,CH X G n_TooGreat,Kd.aN u_NoKind_TooGreat y_TooGreat t_TooGreat s_NoKind_TooGreat⟩⟩;have KD_NoNumber:Kd.pX K mg A_NoNumber 5:=⟨⟨ga_NoNumber,gh_NoNumber,mb_NoNumber,cl_NoNumber,ob_NoNumber,by rw [y_NoNumber];rfl⟩,by decide,Kd.ya v_NoNumber,⟨A_NoWeb,CH X G n_NoWeb,Kd.aN u_NoNumber_NoWeb y_NoWeb t_NoWeb s_NoNumber_NoWeb⟩,⟨A_NoPlace,CH X G n_NoPlace,Kd.aN u_NoNumber_NoPlace y_NoPlace t_NoPlace s_NoNumber_NoPlace⟩,⟨A_NoKind,CH X G n_NoKind,Kd.aN u_NoNumber_NoKind y_NoKind t_NoKind s_NoNumber_NoKind⟩,⟨A_NoShare,CH X G n_NoShare,Kd.aN u_NoNumber_NoShare y_NoShare t_NoShare s_NoNumber_NoShare⟩,⟨A_NoSquare,CH X G n_NoSquare,Kd.aN u_NoNumber_NoSquare y_NoSquare t_NoSquare s_NoNumber_NoSquare⟩,⟨A_NoNumber,CH X G n_NoNumber,Kd.qV⟩,⟨A_NoText,CH X G n_NoText,Kd.aN u_NoNumber_NoText y_NoText t_NoText s_NoNumber_NoText⟩,⟨A_NoRow,CH X G n_NoRow,Kd.aN u_NoNumber_NoRow y_NoRow t_NoRow s_NoNumber_NoRow⟩,⟨A_TooGreat,CH X G n_TooGreat,Kd.aN u_NoNumber_TooGreat y_TooGreat t_TooGreat s_NoNumber_TooGreat⟩⟩
 have KN:Kd.zi K mg nms:=⟨fun nm h j hj C hC=>by
  rcases (by simpa [nms] using h:nm=("NoKind" : Str)\/nm=("NoNumber" : Str)) with rfl | rfl
  ·have e:C=A_NoKind:=by have:=(show PySem.W.nsIn K mainGlobals "NoKind" = _ from hC).symm.trans n_NoKind;simpa using this
   subst e;rw [show Kd.names.findIdx? (·== ("NoKind" : Str))=some 2 by decide +kernel] at hj;cases hj;exact KD_NoKind
  ·have e:C=A_NoNumber:=by have:=(show PySem.W.nsIn K mainGlobals "NoNumber" = _ from hC).symm.trans n_NoNumber;simpa using this
   subst e;rw [show Kd.names.findIdx? (·== ("NoNumber" : Str))=some 5 by decide +kernel] at hj;cases hj
   exact KD_NoNumber⟩
 have GK:=AM (P:=l.prog) (w:=w) (base:=base) D46 T;have G7:=qO (P:=l.prog) (w:=w) (base:=base) D0 T;have G23:=o5 (P:=l.prog) (w:=w) (base:=base) D13 T;have G9:=qM (P:=l.prog) (w:=w) (base:=base) D15 T;have G25:=o0 (P:=l.prog) (w:=w) (base:=base) D16 T;have G51:=iH (P:=l.prog) (w:=w) (base:=base) D24 T;have G10:=qK (P:=l.prog) (w:=w) (base:=base) D25 T;have G41:=lU (P:=l.prog) (w:=w) (base:=base) D32 T;have G39:=lW (P:=l.prog) (w:=w) (base:=base) D33 T;have G4:=qR (P:=l.prog) (w:=w) (base:=base) D34 T;have G34:=mX (P:=l.prog) (w:=w) (base:=base) D35 T;have G8:=qN (P:=l.prog) (w:=w) (base:=base) D40 T;have G42:=kK (P:=l.prog) (w:=w) (base:=base) D41 T;have G14:=pi (P:=l.prog) (w:=w) (base:=base) D42 T;have G36:=lZ (P:=l.prog) (w:=w) (base:=base) D43 T;have G29:=nc (P:=l.prog) (w:=w) (base:=base) D45 T;have G47:=kE (P:=l.prog) (w:=w) (base:=base) D1 T G7;have G32:=mZ (P:=l.prog) (w:=w) (base:=base) D17 T G9 G25;have G24:=o3 (P:=l.prog) (w:=w) (base:=base) D18 T G9;have G31:=m9 (P:=l.prog) (w:=w) (base:=base) D19 T G25;have G18:=pc (P:=l.prog) (w:=w) (base:=base) D20 T G25;have G5:=qQ (P:=l.prog) (w:=w) (base:=base) D21 T G25 G9;have G38:=lX (P:=l.prog) (w:=w) (base:=base) D31 T G41 G39 R_NoKind;have G16:=pe (P:=l.prog) (w:=w) (base:=base) D37 T G34 G4;have G12:=pk (P:=l.prog) (w:=w) (base:=base) D44 T G14;have G49:=je (P:=l.prog) (w:=w) (base:=base) D47 T G29;have G48:=jJ (P:=l.prog) (w:=w) (base:=base) D2 T G47;have G21:=o8 (P:=l.prog) (w:=w) (base:=base) D4 T G47;have G6:=qP (P:=l.prog) (w:=w) (base:=base) D6 T G47
 have G20:=o9 (P:=l.prog) (w:=w) (base:=base) D11 T G47;have G45:=kG (P:=l.prog) (w:=w) (base:=base) D12 T G47;have G35:=mW (P:=l.prog) (w:=w) (base:=base) D22 T G5;have G40:=lV (P:=l.prog) (w:=w) (base:=base) D39 T G16;have G13:=pj (P:=l.prog) (w:=w) (base:=base) D50 T G12;have G28:=ng (P:=l.prog) (w:=w) (base:=base) D51 T G12;have G43:=kJ (P:=l.prog) (w:=w) (base:=base) D52 T G12;have G15:=ph (P:=l.prog) (w:=w) (base:=base) D3 T G48;have G11:=qJ (P:=l.prog) (w:=w) (base:=base) D5 T G6;have G17:=pd (P:=l.prog) (w:=w) (base:=base) D10 T G20 G45 M_LEAST_NUMBERS;have G2:=sN (P:=l.prog) (w:=w) (base:=base) D14 T G32 G24 G31 G18 G35 G5;have G33:=mY (P:=l.prog) (w:=w) (base:=base) D23 T G51 G48 G10;have G1:=vw (P:=l.prog) (w:=w) (base:=base) D7 T G21 G11;have G19:=pb (P:=l.prog) (w:=w) (base:=base) D8 T G17 G23 G2;have G37:=lY (P:=l.prog) (w:=w) (base:=base) D26 T G33 R_NoNumber;have G0:=vx (P:=l.prog) (w:=w) (base:=base) D36 T G15 G4 G16 R_NoNumber;have G3:=sM (P:=l.prog) (w:=w) (base:=base) D9 T G19 G1 G23 G2 R_NoKind;have G22:=o7 (P:=l.prog) (w:=w) (base:=base) D27 T G37;have G50:=jd (P:=l.prog) (w:=w) (base:=base) D28 T G22 R_NoNumber;have G30:=na (P:=l.prog) (w:=w) (base:=base) D30 T G3 G38 R_NoKind;have G46:=kF (P:=l.prog) (w:=w) (base:=base) D29 T G50;have G26:=oZ (P:=l.prog) (w:=w) (base:=base) D38 T G3 G40 G0 G46 G30 G8 R_NoKind;have G44:=kH (P:=l.prog) (w:=w) (base:=base) D48 T G26 HT SU GK KN;have G27:=nh (P:=l.prog) (w:=w) (base:=base) D49 T G44 G26 G3 G49;exact ok_law (P:=l.prog) (w:=w) (base:=base) (tz lL cL kL) T G27 G42 G36 G13 G12 G28 G44 G43
end K50
open PySem PySem.W PyProof.Rows
def PySem.W.Fast.tw10426125643436316091:=0
def PySem.W.Fast.tw14869557710840242666:=0
def PySem.W.Fast.tw10667965978278278033:=0
def PySem.W.Fast.tw18129752965760186997:=0
def PySem.W.Fast.tw6513688561603925361:=0
def PySem.W.Fast.tw11930311979851757478:=0
def PySem.W.Fast.tw3101917741504857134:=0
def PySem.W.Fast.tw7523194637212750777:=0
def PySem.W.Fast.tw6740862699428970957:=0
def PySem.W.Fast.tw1462193419119380569:=0
def PySem.W.Fast.tw5681066748535004433:=0
def PySem.W.Fast.tw5958337225494893492:=0
def PySem.W.Fast.tw5030944203280556702:=0
def PySem.W.Fast.tw16539199913488330184:=0
def PySem.W.Fast.tw2283480497557504744:=0
def PySem.W.Fast.tw16465384495482172369:=0
def PySem.W.Fast.tw4843473975253519250:=0
def PySem.W.Fast.tw11849525312028181438:=0
def PySem.W.Fast.tw3094701115853657799:=0
def PySem.W.Fast.tw9766887352012807212:=0
def PySem.W.Fast.tw4179031660912777645:=0
def PySem.W.Fast.tw15508019666092448443:=0
def PySem.W.Fast.tw15213048550514571353:=0
def PySem.W.Fast.tw4033379813872489195:=0
def PySem.W.Fast.tw11622863634709415212:=0
def PySem.W.Fast.tw13816761405361552965:=0
def PySem.W.Fast.tw3103751414666246812:=0
def PySem.W.Fast.tw358491328311820773:=0
def PySem.W.Fast.tw17619882183920601743:=0
def PySem.W.Fast.tw10752687858943698738:=0
def PySem.W.Fast.tw17731035819577454462:=0
def PySem.W.Fast.tw12059592832596718669:=0
def PySem.W.Fast.tw13148303815899264127:=0
def PySem.W.Fast.tw10188337973796604112:=0
def PySem.W.Fast.tw8160871880118814707:=0
def PySem.W.Fast.tw15431134087688302020:=0
def PySem.W.Fast.tw14827384380277173613:=0
def PySem.W.Fast.tw16988694326732377997:=0
def PySem.W.Fast.tw8008005557923197168:=0
def PySem.W.Fast.tw6585068141940680455:=0
def PySem.W.Fast.tw11990459337992974956:=0
def PySem.W.Fast.tw6582134788679801411:=0
def PySem.W.Fast.tw517312751163448032:=0
def PySem.W.Fast.tw11732214188671553305:=0
def PySem.W.Fast.tw11002848052431835627:=0
def PySem.W.Fast.tw425938344300624212:=0
def PySem.W.Fast.tw10390157646234782899:=0
def PySem.W.Fast.tw10015853644003576960:=0
def PySem.W.Fast.tw4268201051430804902:=0
def PySem.W.Fast.tw5353813085845620550:=0
def PySem.W.Fast.tw4211700434839312001:=0
def PySem.W.Fast.tw8478115696639743908:=0
def PySem.W.Fast.tw4077504559007278572:=0
def PySem.W.Fast.tw6111063285166232655:=0
def PySem.W.Fast.tw5848554282377671169:=0
def PySem.W.Fast.tw18431155831084640082:=0
def PySem.W.Fast.tw12694589447371642155:=0
def PySem.W.Fast.tw1647960591809683682:=0
def PySem.W.Fast.tw4185518321428705831:=0
def PySem.W.Fast.tw826095958301351496:=0
def PySem.W.Fast.tw10364838811517235677:=0
def PySem.W.Fast.tw18012574323051992567:=0
def PySem.W.Fast.tw12674656310777702994:=0
def PySem.W.Fast.tw13055661147411815287:=0
def PySem.W.Fast.tw16655083059833703075:=0
def PySem.W.Fast.tw6771182271545134960:=0
def PySem.W.Fast.tw3664731896753646195:=0
def PySem.W.Fast.tw8131721106225051767:=0
def PySem.W.Fast.tw15261137711255440680:=0
def PySem.W.Fast.tw10134030333460990790:=0
def PySem.W.Fast.tw4799189423077775474:=0
def PySem.W.Fast.tw11224361182253327997:=0
def PySem.W.Fast.tw1826987945724244988:=0
def PySem.W.Fast.tw17338234738716814015:=0
def PySem.W.Fast.tw6623812351622530092:=0
def PySem.W.Fast.tw1998032249293215463:=0
def PySem.W.Fast.tw9161490523856799436:=0
def PySem.W.Fast.tw2207379490860805584:=0
def PySem.W.Fast.tw14323754321771104433:=0
def PySem.W.Fast.tw12487779173672901959:=0
def PySem.W.Fast.tw16884622931589843948:=0
def PySem.W.Fast.tw10412780308102683651:=0
def PySem.W.Fast.tw5425125011635884837:=0
def PySem.W.Fast.tw4842887358765978389:=0
def PySem.W.Fast.tw15961656504987544514:=0
def PySem.W.Fast.tw14731147920152588799:=0
def PySem.W.Fast.tw11887224372650548316:=0
def PySem.W.Fast.tw10276631330486657221:=0
def PySem.W.Fast.tw4502922686166606849:=0
def PySem.W.Fast.tw4636031889025220839:=0
def PySem.W.Fast.tw16970792351503237766:=0
def PySem.W.Fast.tw5738919822854818926:=0
def PySem.W.Fast.tw11843833423457600547:=0
open_top head for PySem.Challenge.rw_tienumbers_k50_totals_of_kinds
set_option maxRecDepth 100000 in
set_option maxHeartbeats 0 in
theorem PySem.Challenge.cw_tienumbers_k50_totals_of_kinds_holds : PySem.Challenge.rw_tienumbers_k50_totals_of_kinds.Holds := by
 refine head ?_
 k_fill
 refine L2.zk (l:=PySem.Challenge.rw_tienumbers_k50_totals_of_kinds) (n:=63) (k:=12) (x := "script") (CX:=fun w=>L2.CXr (PySem.Challenge.rw_tienumbers_k50_totals_of_kinds).prog w) (sp:=fun w=>L2.spF _ none K50.rl) rfl (by decide) rfl ⟨rfl,by decide,by decide,rfl⟩ (fun w h Y=>PySem.W.kIn_of Y) ?F (fun _ _ a ns hl _ hS=>L2.zL ⟨_,K50.law_ok ns⟩ hS) fun _ _ _ _ _ z=>L2.vS z
 case F =>
  intro w mg fa h KX G hmg;refine' K50.all_mk KX G hmg ?_ ?_ ?_ ?_ ?_ ?_ ?_ ?_ ?_ ?_ ?_ ?_ ?_ ?_ ?_ ?_ ?_ ?_ ?_ ?_ ?_ ?_ ?_ ?_ ?_ ?_ ?_ ?_ ?_ ?_ ?_ ?_ ?_ ?_ ?_ ?_ ?_ ?_ ?_ ?_ ?_ ?_ ?_ ?_ ?_ ?_ ?_ ?_ ?_ ?_ ?_ ?_ ?_ ?_ ?_ ?_ ?_ ?_ ?_ ?_ ?_ ?_ ?_ ?_ ?_ ?_ ?_ ?_ ?_ ?_ ?_ ?_ ?_ ?_ ?_ ?_ ?_ ?_ ?_ ?_ ?_ ?_ ?_ ?_ ?_ ?_ ?_ ?_ ?_ ?_ ?_ ?_ ?_ ?_ ?_ ?_ ?_ ?_ ?_ ?_ ?_ ?_ ?_ ?_ ?_ ?_ ?_ ?_ ?_ ?_ ?_ ?_ ?_ ?_ ?_ ?_ ?_ ?_ ?_ ?_ ?_ ?_ ?_ ?_ ?_ ?_ ?_ ?_ ?_ ?_ ?_ ?_ ?_ ?_ ?_ ?_ ?_ ?_ ?_ ?_ ?_ ?_ ?_ ?_ ?_ ?_ ?_ ?_ ?_ ?_ ?_ ?_ ?_ ?_ ?_ ?_ ?_ ?_ ?_ ?_ ?_
  all_goals first | (apply K50.din_mk<;>k_is) | k_is | k_exc | decide | skip
