import PyProof.Rows.All
import Wide.All
import OpenK.AllK
import Wide.FinOn
import Lean
import PyProof.EqAt
import PyProof.EqKinds
import PyProof.TupleCall
import PyProof.CallFns
import PyProof.Draws
import PyProof.EnumMake
import PyProof.ExcArgsOwn
import PyProof.FactsAll.dict_1
import PyProof.FactsAll.dict_4
import PyProof.FactsAll.subtypes_4
import PyProof.FactsAll.tuple_2
import PyProof.ListMulRoad
import PyProof.ListRange
import PyProof.MaxThree
import PyProof.NeKinds
import PyProof.ReprRoads
import PyProof.Rows.CallKwBuiltin
import PyProof.Rows.EnumRows
import PyProof.Rows.SetFrom
import PyProof.Rows.SortRev
import PyProof.TupleOfStr
import PySem.Challenge.RW_tienumbers_k45_what_is_a_total_numbering
set_option Elab.async false
set_option linter.all false
set_option maxRecDepth 100000
set_option maxHeartbeats 4000000
noncomputable section
section
open PySem PySem.Spec PyProof.Rows
abbrev Cg:=@wpAny_bind
abbrev Ch:=@List.getElem?_eq_getElem
abbrev Ci:=@List.length_map
abbrev Cj:=@Heap.get?_push_of_some
abbrev Ck:=@List.getD_eq_getElem?_getD
abbrev Cm:=@List.size_toArray
abbrev Cn:=@List.mem_cons_of_mem
abbrev Co:=@List.mem_append_right
abbrev Cp:=@List.mem_append_left
abbrev Cq:=@Bool.false_ne_true
abbrev Cr:=@List.mem_cons
abbrev Cs:=@List.mem_cons_self
abbrev Ct:=@Heap.get?_push_size
abbrev Cu:=@Heap.lt_size
abbrev Cv:=@List.getElem?_eq_some_iff
abbrev Cw:=@Nat.le_refl
abbrev Cy:=@List.length_append
abbrev Cz:=@of_decide_eq_true
abbrev CA:=@List.length_cons
abbrev CB:=@List.mem_of_getElem?
abbrev CC:=@List.mem_singleton
abbrev CD:=@Bool.and_eq_true
abbrev CF:=@List.map_cons
abbrev CG:=@List.getElem?_map
abbrev CH:=@List.all_eq_true
abbrev CI:=@List.mem_append
abbrev CJ:=@Nat.ne_of_lt
abbrev CK:=@decide_eq_true
abbrev CL:=@decide_eq_false
abbrev CM:=@List.getElem?_cons_zero
abbrev CN:=@Option.bind_eq_some_iff
abbrev CO:=@Nat.lt_of_lt_of_le
abbrev CP:=@List.getElem?_set_ne
abbrev CQ:=@List.nodup_cons
abbrev CS:=@List.getElem?_cons_succ
abbrev CT:=@List.getElem_mem
abbrev CU:=@List.map_append
abbrev CV:=@List.getElem?_append_left
abbrev CW:=@wpAny_newObj_type
abbrev CY:=@PySem.W.mg_none_of
abbrev CZ:=@wpAny_callSpecial?_slot
abbrev C0:=@List.mem_map
abbrev C1:=@List.map_congr_left
abbrev C3:=@List.length_set
abbrev C4:=@List.length_pos_iff
abbrev C5:=@Heap.size_push
abbrev C6:=@wpAny_call_entry
abbrev C7:=@Option.bind_some
abbrev C8:=@Array.getD_eq_getD_getElem?
abbrev C9:=@List.pairwise_cons
abbrev Da:=@Array.length_toList
abbrev Db:=@Nat.zero_add
abbrev Dd:=@List.map_map
abbrev De:=@Option.map_eq_some_iff
abbrev Df:=@List.getElem?_set_self
abbrev Dg:=@wpAny_pyIter_tuple
abbrev Dh:=@wpAny_field
abbrev Di:=@List.mem_filter
abbrev Dj:=@List.length_replicate
abbrev Dk:=@List.Nodup.length_le_of_subset
abbrev Dl:=@List.cons_append
abbrev Dm:=@PySem.mem_of_lookup
abbrev Do:=@List.replicate_succ
abbrev Dp:=@Heap.get?_update_self
abbrev Dq:=@List.mem_range
abbrev Dr:=@Bool.and_false
abbrev Ds:=@wpAny_loadPart'
abbrev Du:=@PySem.W.mg_of
abbrev Dv:=@List.set_cons_zero
abbrev Dw:=@List.set_cons_succ
abbrev Dx:=@List.nil_append
abbrev Dy:=@wpAny_mono
abbrev Dz:=@List.not_mem_nil
abbrev DA:=@List.getElem?_append_right
abbrev DB:=@List.append_assoc
abbrev DC:=@wpAny_holding
abbrev DD:=@Nat.le_trans
abbrev DE:=@List.append_nil
abbrev DF:=@Array.getElem?_toList
abbrev DG:=@Bool.false_eq_true
abbrev DH:=@List.length_take
abbrev DI:=@List.ext_getElem
abbrev DJ:=@List.nodup_nil
abbrev DK:=@wpAny_truthy_bool
abbrev DL:=@Nat.lt_succ_of_lt
abbrev DM:=@List.length_range
abbrev DN:=@List.length_zip
abbrev DO:=@List.length_nil
abbrev DP:=@List.getElem_map
abbrev DQ:=@wpAny_setField
abbrev DR:=@Array.getElem?_eq_getElem
abbrev DS:=@List.mem_iff_getElem
abbrev DT:=@wpAny_pyIter_list
abbrev DU:=@List.flatten_cons
abbrev DV:=@Bool.eq_iff_iff
abbrev DW:=@Nat.ne_of_gt
abbrev DX:=@Nat.le_of_lt
abbrev DY:=@beq_eq_false_iff_ne
abbrev DZ:=@List.getElem?_replicate
abbrev Ea:=@Bool.and_true
abbrev Eb:=@wpAny_typeNameOfWhole_keyiter
abbrev Ec:=@List.lookup_cons
abbrev Ed:=@Heap.get?_update_other
abbrev Ee:=@wpAny_passesOwn
abbrev Ef:=@Nat.min_self
abbrev Eg:=@List.map_nil
abbrev Eh:=@List.perm_append_singleton
abbrev Ei:=@wpAny_seqItems
abbrev Ej:=@List.pairwise_iff_getElem
abbrev Ek:=@List.getElem?_zip_eq_some
abbrev El:=@Bool.false_and
abbrev Em:=@Nat.lt_succ_self
abbrev En:=@PySem.W.hideAll_get
abbrev Eo:=@List.getElem_of_mem
abbrev Ep:=@wpAny_typeNameOf_keyiter
abbrev Er:=@Nat.sub_self
abbrev Es:=@Bool.or_true
abbrev Et:=@wpAny_Call_Name_kw
abbrev Eu:=@of_decide_eq_false
abbrev Ev:=@PySem.F.plainAttrs_list
abbrev Ew:=@Nat.lt_irrefl
abbrev Ey:=@List.zip_cons_cons
abbrev Ez:=@List.find?_cons
abbrev EA:=@Bool.true_and
abbrev EB:=@Bool.or_false
abbrev EC:=@Bool.false_or
abbrev ED:=@Nat.zero_le
abbrev EE:=@Int.toNat_natCast
abbrev EF:=@List.getElem?_eq_none
abbrev EG:=@Bool.true_or
abbrev EH:=@beq_self_eq_true
abbrev EI:=@Nat.le_add_right
abbrev EJ:=@List.length_drop
abbrev EK:=@wpAny_newList
abbrev EL:=@List.all_cons
abbrev EM:=@wpAny_execs_nil
abbrev EN:=@List.of_mem_zip
abbrev EO:=@List.forIn_cons
abbrev EQ:=@List.foldl_cons
abbrev ER:=@List.filterMap_cons
abbrev ES:=@List.Perm.of_eq
abbrev ET:=@wpAny_typeOf
abbrev EU:=@Obj.data_mapFields
abbrev EV:=@List.mem_filterMap
abbrev EW:=@wpAny_runValue
abbrev EY:=@PySem.boot_len
abbrev EZ:=@List.ne_nil_of_length_pos
abbrev E1:=@List.exists_mem_of_ne_nil
abbrev E2:=@PySem.W.Frag
end
namespace L2
open PySem PySem.Spec PyProof.Rows
abbrev Key:=Sum Int Str
noncomputable def og:Key->Value->Bool
 | .inl k,v=>Value.isInt k v
 | .inr x,v=>Value.isStrOf x v
noncomputable def keyH(w:World):Key->Int
 | .inl k=>hashInt k
 | .inr x=>hashStr w x
theorem bF:∀ {k:Key} {v:Value},og k v=true->(∃ i t,k=Sum.inl i/\v=Value.int i t)\/(∃ x t,k=Sum.inr x/\v=Value.str x t)
 | .inl i,v,h=>by
  obtain ⟨t,e⟩:=Value.isInt_shape (k:=i) (v:=v) h;exact .inl ⟨i,t,rfl,e⟩
 | .inr x,v,h=>by
  obtain ⟨t,e⟩:=Value.isStrOf_shape (x:=x) (v:=v) h;exact .inr ⟨x,t,rfl,e⟩
theorem vF(i:Int)(t:Tok):og (.inl i) (.int i t)=true:=by simp [og,Value.isInt]
theorem vE(x:Str)(t:Tok):og (.inr x) (.str x t)=true:=by simp [og,Value.isStrOf]
theorem key_ll(a b:Int):decide ((Sum.inl a:Key)=Sum.inl b)=(a == b):=by
 by_cases e:a=b
 ·subst e;simp
 ·have h:¬ (Sum.inl a:Key)=Sum.inl b:=fun q=>e (Sum.inl.inj q)
  rw [CL h];exact (DY.mpr e).symm
theorem key_rr(a b:Str):decide ((Sum.inr a:Key)=Sum.inr b)=decide (a=b):=by
 by_cases e:a=b
 ·subst e;simp
 ·have h:¬ (Sum.inr a:Key)=Sum.inr b:=fun q=>e (Sum.inr.inj q)
  rw [CL h,CL e]
theorem key_lr(a:Int)(b:Str):decide ((Sum.inl a:Key)=Sum.inr b)=false:=CL (fun q=>nomatch q)
theorem key_rl(a:Str)(b:Int):decide ((Sum.inr a:Key)=Sum.inl b)=false:=CL (fun q=>nomatch q)
noncomputable def bL(prog:Program)(w:World):PySem.KeyKind prog w Key where
 is:=og
 hash:=keyH w
 inj:=fun v a b ha hb=>by
  rcases bF ha with ⟨i,t,rfl,rfl⟩ | ⟨x,t,rfl,rfl⟩
  ·rcases bF hb with ⟨j,u,rfl,e⟩ | ⟨y,u,rfl,e⟩
   ·injection e with e1 _;rw [e1]
   ·exact nomatch e
  ·rcases bF hb with ⟨j,u,rfl,e⟩ | ⟨y,u,rfl,e⟩
   ·exact nomatch e
   ·injection e with e1 _;rw [e1]
 byValue:=fun k v h=>by
  rcases bF h with ⟨i,t,rfl,rfl⟩ | ⟨x,t,rfl,rfl⟩<;>rfl
 pyHash:=fun hv h=>by
  rcases bF hv with ⟨i,t,rfl,rfl⟩ | ⟨x,t,rfl,rfl⟩
  ·exact wpAny_pyHash_int h
  ·exact wpAny_pyHash_str h
 eqBool:=fun hu hv h=>by
  rcases bF hu with ⟨i,t,rfl,rfl⟩ | ⟨x,t,rfl,rfl⟩
  ·rcases bF hv with ⟨j,u,rfl,rfl⟩ | ⟨y,u,rfl,rfl⟩
   ·rw [key_ll] at h;exact wpAny_eqBool_int h
   ·rw [key_lr] at h;exact SeqAt.EqAt.int_str i t y u _ _ _ _ h
  ·rcases bF hv with ⟨j,u,rfl,rfl⟩ | ⟨y,u,rfl,rfl⟩
   ·rw [key_rl] at h;exact SeqAt.EqAt.str_int x t j u _ _ _ _ h
   ·rw [key_rr] at h;exact wpAny_eqBool_str h
 «strs»:=fun k x t v h=>by
  rcases bF h with ⟨i,u,rfl,e⟩ | ⟨y,u,rfl,e⟩
  ·exact nomatch e
  ·injection e with e1 _
   subst e1;cases v<;>rfl
theorem qL(prog:Program)(w:World)(i:Int)(t:Tok):(bL prog w).is (.inl i) (.int i t)=true:=vF i t
theorem qK(prog:Program)(w:World)(x:Str)(t:Tok):(bL prog w).is (.inr x) (.str x t)=true:=vE x t
inductive V where
 | non | bl (b:Bool) | int (i:Int) | str (x:Str) | byt (b:Array UInt8) | flt (b:UInt64) | ref (a:Addr) | ty (n:String)
 deriving DecidableEq
noncomputable def aB:V->Value->Prop
 | .non,u=>u=Value.none
 | .bl b,u=>u=Value.bool b
 | .int i,u=>∃ t,u=Value.int i t
 | .str x,u=>∃ t,u=Value.str x t
 | .byt b,u=>∃ t,u=Value.bytes b t
 | .flt b,u=>∃ t,u=Value.float b t
 | .ref a,u=>u=Value.ref a
 | .ty n,u=>u=Value.type n
abbrev aw:List V->List Value->Prop:=Paired aB
theorem aw.length{xs:List V}{us:List Value}(r:aw xs us):xs.length=us.length:=Paired.length r
theorem aw.get:∀ {xs:List V} {us:List Value} {i:Nat} {x:V},aw xs us->xs[i]?=some x->∃ u,us[i]?=some u/\aB x u
 | _,_,_,_,.nil,e=>by simp at e
 | _,_,0,_,.cons r _,e=>by simp at e;subst e;exact ⟨_,rfl,r⟩
 | _,_,i+1,x,.cons _ t,e=>by
  obtain ⟨u,h1,h2⟩:=aw.get (i:=i) (x:=x) t (by simpa using e);exact ⟨u,by simpa using h1,h2⟩
theorem aw.set{x:V}{u:Value}(r:aB x u):∀ {xs:List V} {us:List Value} (i:Nat),aw xs us->aw (xs.set i x) (us.set i u)
 | _,_,_,.nil=> .nil
 | _,_,0,.cons _ t=> .cons r t
 | _,_,i+1,.cons q t=> .cons q (aw.set r i t)
theorem aw.append:∀ {xs ys:List V} {us ws:List Value},aw xs us->aw ys ws->aw (xs++ys) (us++ws)
 | _,_,_,_,.nil,s=>s
 | _,_,_,_,.cons r t,s=> .cons r (aw.append t s)
theorem aw.take:∀ {xs:List V} {us:List Value} (n:Nat),aw xs us->aw (xs.take n) (us.take n)
 | _,_,0,_=> .nil
 | _,_,_+1,.nil=> .nil
 | _,_,n+1,.cons r t=> .cons r (aw.take n t)
theorem aw.drop:∀ {xs:List V} {us:List Value} (n:Nat),aw xs us->aw (xs.drop n) (us.drop n)
 | _,_,0,r=>r
 | _,_,_+1,.nil=> .nil
 | _,_,n+1,.cons _ t=>aw.drop n t
noncomputable def nF:Option V->Option Value->Prop
 | some v,some u=>aB v u
 | none,none=>True
 | _,_=>False
noncomputable def KV{κ:Type}:List (κ×V)->List (κ×Value)->Prop:=Paired fun (p:κ×V) (q:κ×Value)=>p.1=q.1/\aB p.2 q.2
noncomputable def kV:Key->V
 | .inl i=> .int i
 | .inr x=> .str x
inductive HO where
 | lst (xs:List V)
 | tup (xs:List V)
 | dK (kvs:List (Key×V)) | dT (kvs:List (List Key×V))
 | set (S:Int->Bool) (n:Nat)
 | ins (C dx:Addr) (fs:List (Str×V))
 | own (x:Addr)
 | xd (fs:List (Str×V))
 | met (f x:Addr)
 | rng (lo hi:Int)
 | frz (o:Obj) (u:HO)
 | tbl (ps:Array Value)
 | ext (φ:Heap->Prop)
abbrev Hp:=Addr->Option HO
noncomputable def upd(H:Hp)(a:Addr)(o:HO):Hp:=fun b=>if b=a then some o else H b
theorem af{H:Hp}{a:Addr}{o:HO}:upd H a o a=some o:=by unfold upd;rw [if_pos rfl]
theorem ah{H:Hp}{a b:Addr}{o:HO}(h:b≠a):upd H a o b=H b:=by unfold upd;rw [if_neg h]
theorem zt{H:Hp}{a:Addr}{o u:HO}:upd (upd H a o) a u=upd H a u:=by
 funext b;unfold upd;split<;>rfl
theorem ne_of{H:Hp}{a b:Addr}{o u:HO}(h:H a=some o)(h':H b=some u)(d:o≠u):a≠b:=by
 intro e;subst e;rw [h] at h';exact d (Option.some.inj h')
theorem aq{H:Hp}{a b:Addr}{o:HO}(h:H a=some o)(h':H b=none):a≠b:=by
 intro e;subst e;rw [h] at h';cases h'
section
variable(P:Program)(w:World)
noncomputable def bH(H:Hp)(h:Heap)(a:Addr):HO->Prop
 | .lst xs=>xs.length<=sizeLine/\∃ (its:List Value) (n:Nat),aw xs its/\h.get? a=some { cls:= .type "list",data:= .seq its.toArray n }
 | .tup xs=>xs.length<=sizeLine/\∃ its:List Value,aw xs its/\IsTup h a its.toArray
 | .dK kvs=>kvs.length<=sizeLine/\(a == sysModules)=false/\∃ vs,KV kvs vs/\h.DictOf (bL P w) a vs
 | .dT kvs=>kvs.length<=sizeLine/\(a == sysModules)=false/\∃ xs:List (List Key×Addr×Value),
  Paired (fun (p:List Key×V) (q:List Key×Addr×Value)=>p.1=q.1/\H q.2.1=some (.tup (p.1.map kV))/\aB p.2 q.2.2) kvs xs /\
  ∃ o es ep,h.get? a=some o/\o.ExactDict/\o.data = .dict es ep/\es.toList=xs.map (entryOfKey (tupleKind (bL P w)))/\(xs.map (·.1)).Nodup
 | .set S n=>h.SetOf (intKind P w) a S n
 | .ins C dx fs=>H dx=some (.own a)/\fs.length<=1000/\dx≠a/\h.get? a=some (PySem.W.instObj C dx) /\
  ∃ mA,h.Ns1 dx mA/\(∀ f,nF (fs.lookup f) (mA f))/\PySem.Within mA (fs.map (·.1))
 | .own _=>∃ o,h.get? a=some o
 | .xd fs=>∃ mA,h.Ns1 a mA/\∀ f,nF (fs.lookup f) (mA f)
 | .rng lo hi=>∃ t u v,h.get? a=some { cls:= .type "range",data:= .fields #[.int lo t,.int hi u,.int 1 v] }
 | .frz o u=>h.get? a=some o/\bH H h a u
 | .tbl ps=>h.get? a=some { cls:= .none,data:= .fields ps }
 | .met f x=>h.get? a=some (PySem.W.methodObj (.ref f) (.ref x))
 | .ext φ=>φ h/\(∃ o,h.get? a=some o)/\∀ h1 h2:Heap,φ h1->(∀ o,h1.get? a=some o->h2.get? a=some o)->φ h2
noncomputable def HOk(H:Hp)(h:Heap):Prop:=∀ a o,H a=some o->bH P w H h a o
end
section
variable{P:Program}{w:World}{H H':Hp}{h h':Heap}{a:Addr}{o:HO}
theorem bH.lt(x:bH P w H h a o):a < h.objs.size:=by
 cases o with
 | lst xs=>obtain ⟨_,_,_,_,e⟩:=x;exact Cu e
 | tup xs=>obtain ⟨_,_,_,p⟩:=x;exact p.lt
 | dK kvs=>obtain ⟨_,_,_,_,o,_,_,e,_⟩:=x;exact Cu e
 | dT kvs=>obtain ⟨_,_,_,_,o,_,_,e,_⟩:=x;exact Cu e
 | set S n=>obtain ⟨o,_,_,_,e,_⟩:=x;exact Cu e
 | ins C dx fs=>obtain ⟨_,_,_,e,_⟩:=x;exact Cu e
 | own y=>obtain ⟨_,e⟩:=x;exact Cu e
 | xd fs=>obtain ⟨_,⟨_,_,_,e,_⟩,_⟩:=x;exact Cu e
 | rng lo hi=>obtain ⟨_,_,_,e⟩:=x;exact Cu e
 | frz ob u=>obtain ⟨e,_⟩:=x;exact Cu e
 | tbl ps=>exact Cu (show h.get? a=some _ from x)
 | met f y=>exact Cu (show h.get? a=some _ from x)
 | ext φ=>obtain ⟨_,⟨_,e⟩,_⟩:=x;exact Cu e
theorem Paired.mapP{α β:Type}{F G:α->β->Prop}:∀ {l₁:List α} {l₂:List β},Paired F l₁ l₂->(∀ a b,F a b->G a b)->Paired G l₁ l₂
 | _,_,.nil,_=> .nil
 | _,_,.cons r t,f=> .cons (f _ _ r) (Paired.mapP t f)
theorem bH.stay(x:bH P w H h a o)(k:∀ b u,(b=a\/H b=some (.own a))->h.get? b=some u->h'.get? b=some u)
 (ho:∀ b,H b=some (.own a)->H' b=some (.own a)) (ht:∀ b xs,H b=some (.tup xs)->H' b=some (.tup xs)):bH P w H' h' a o:=by
 induction o with
 | lst xs=>obtain ⟨z,its,n,r,e⟩:=x;exact ⟨z,its,n,r,k _ _ (.inl rfl) e⟩
 | tup xs=>obtain ⟨z,its,r,ob,e,c⟩:=x;exact ⟨z,its,r,ob,k _ _ (.inl rfl) e,c⟩
 | dK kvs=>obtain ⟨z,y,vs,r,ob,es,ep,e,c⟩:=x;exact ⟨z,y,vs,r,ob,es,ep,k _ _ (.inl rfl) e,c⟩
 | dT kvs =>
  obtain ⟨z,y,xs,r,ob,es,ep,e,c⟩:=x;exact ⟨z,y,xs,Paired.mapP r fun p q z=>⟨z.1,ht _ _ z.2.1,z.2.2⟩,ob,es,ep,k _ _ (.inl rfl) e,c⟩
 | set S n=>obtain ⟨ob,es,ep,t,e,c⟩:=x;exact ⟨ob,es,ep,t,k _ _ (.inl rfl) e,c⟩
 | ins C dx fs =>
  obtain ⟨d,z,ne,e,mA,⟨od,es,ep,e2,c⟩,r⟩:=x;exact ⟨ho _ d,z,ne,k _ _ (.inl rfl) e,mA,⟨od,es,ep,k _ _ (.inr d) e2,c⟩,r⟩
 | own y=>obtain ⟨ob,e⟩:=x;exact ⟨ob,k _ _ (.inl rfl) e⟩
 | xd fs=>obtain ⟨mA,⟨od,es,ep,e,c⟩,r⟩:=x;exact ⟨mA,⟨od,es,ep,k _ _ (.inl rfl) e,c⟩,r⟩
 | rng lo hi=>obtain ⟨t,u,v,e⟩:=x;exact ⟨t,u,v,k _ _ (.inl rfl) e⟩
 | frz ob u ih=>obtain ⟨e,q⟩:=x;exact ⟨k _ _ (.inl rfl) e,ih q⟩
 | tbl ps =>
  have e:h.get? a=some { cls:= .none,data:= .fields ps }:=x
  show h'.get? a=some { cls:= .none,data:= .fields ps }
  exact k a _ (.inl rfl) e
 | met f y =>
  have e:h.get? a=some (PySem.W.methodObj (.ref f) (.ref y)):=x
  show h'.get? a=some (PySem.W.methodObj (.ref f) (.ref y))
  exact k a _ (.inl rfl) e
 | ext φ=>obtain ⟨p,⟨o,e⟩,st⟩:=x;exact ⟨st _ _ p fun o q=>k _ _ (.inl rfl) q,⟨o,k _ _ (.inl rfl) e⟩,st⟩
theorem HOk.lt(x:HOk P w H h)(e:H a=some o):a < h.objs.size:=(x a o e).lt
theorem HOk.fresh(x:HOk P w H h)(e:h.objs.size<=a):H a=none:=by
 cases q:H a with
 | none=>rfl
 | some u=>exact absurd (CO (x.lt q) e) (Ew _)
theorem HOk.kept(x:HOk P w H h)(k:∀ b u,h.get? b=some u->h'.get? b=some u):HOk P w H h':=fun a o e =>
 (x a o e).stay (fun b u _ q=>k b u q) (fun _ q=>q) fun _ _ q=>q
theorem HOk.laid(x:HOk P w H h)(k:∀ b u,h.get? b=some u->h'.get? b=some u)(hp:h.objs.size<=a)(new:bH P w (upd H a o) h' a o):HOk P w (upd H a o) h':=fun b u e=>by
 have hn:=x.fresh hp
 by_cases hb:b=a
 ·subst hb;rw [af] at e;cases e;exact new
 ·rw [ah hb] at e
  exact (x b u e).stay (fun c v _ q=>k c v q) (fun c q=>by rw [ah (aq q hn)];exact q) fun c xs q=>by rw [ah (aq q hn)];exact q
end
noncomputable def Rd(H:Hp)(a:Addr)(u:HO):Prop:=H a=some u\/∃ o,H a=some (.frz o u)
theorem Rd.ok{P:Program}{w:World}{H:Hp}{h:Heap}{a:Addr}{u:HO}(r:Rd H a u)(x:HOk P w H h):bH P w H h a u:=by
 rcases r with r | ⟨o,r⟩
 ·exact x a u r
 ·obtain ⟨_,q⟩:=x a _ r
  exact q
noncomputable def Mut:Option HO->Prop
 | some (.lst _)=>True
 | some (.dK _)=>True
 | some (.dT _)=>True
 | some (.set _ _)=>True
 | some (.ins _ _ _)=>True
 | some (.ext _)=>True
 | _=>False
section
variable{P:Program}{w:World}{H:Hp}{h h':Heap}{x e:Addr}{o':HO}
theorem HOk.write(ok:HOk P w H h)(mu:Mut (H x))(he:e=x\/H e=some (.own x))(k:∀ b u,b≠e->h.get? b=some u->h'.get? b=some u)(heo:∃ u,h'.get? e=some u)
 (new:bH P w (upd H x o') h' x o'):HOk P w (upd H x o') h':=fun b u q=>by
 have nown:∀ c y,H c=some (.own y)->c≠x:=fun c y r z=>by subst z;rw [r] at mu;exact mu
 have ntup:∀ c xs,H c=some (.tup xs)->c≠x:=fun c xs r z=>by subst z;rw [r] at mu;exact mu
 by_cases hb:b=x
 ·subst hb;rw [af] at q;cases q;exact new
 ·rw [ah hb] at q
  by_cases hbe:b=e
  ·have q':H b=some (.own x):=by
    rcases he with z | z
    ·exact absurd (hbe.trans z) hb
    ·rw [hbe];exact z
   rw [q] at q';cases q';obtain ⟨v,hv⟩:=heo;exact ⟨v,by rw [hbe];exact hv⟩
  ·refine (ok b u q).stay (fun c v hc r=>k c v ?_ r) (fun c r=>by rw [ah (nown c b r)];exact r) fun c xs r=>by rw [ah (ntup c xs r)];exact r
   rcases hc with rfl | hc
   ·exact hbe
   ·rintro rfl
    rcases he with z | z
    ·exact nown c b hc z
    ·rw [hc] at z;cases z;exact hb rfl
end
structure Un(fs ex:List Addr)(H H':Hp)(h h':Heap):Prop where
 keep:∀ b o,h.get? b=some o->H b=none->b∉fs->b∉ex->h'.get? b=some o
 slot:∀ b o,h.get? b=some o->H b=none->b∈fs->b∉ex->∃ sl,h'.get? b=some { o with slots:=sl }
 free:∀ b o,h.get? b=some o->H b=none->b∉ex->H' b=none
 there:∀ b o,h.get? b=some o->b∉ex->∃ o',h'.get? b=some o'
 tups:∀ b xs,H b=some (.tup xs)->H' b=some (.tup xs)
 frzs:∀ b o u,H b=some (.frz o u)->H' b=some (.frz o u)
 tbls:∀ b ps,H b=some (.tbl ps)->∃ more,H' b=some (.tbl (ps++more))
section
variable{fs fs' ex ex':List Addr}{H H1 H2:Hp}{h h1 h2 h':Heap}{a x e:Addr}{o:HO}
theorem Un.any(u:Un fs ex H H1 h h1){b:Addr}{ob:Obj}(q:h.get? b=some ob)(n:H b=none)(hx:b∉ex):∃ sl,h1.get? b=some { ob with slots:=sl }:=by
 by_cases hb:b∈fs
 ·exact u.slot b ob q n hb hx
 ·exact ⟨ob.slots,u.keep b ob q n hb hx⟩
theorem Un.kept(k:∀ b u,h.get? b=some u->h'.get? b=some u):Un fs ex H H h h' :=
 ⟨fun b ob q _ _ _=>k b ob q,fun b ob q _ _ _=>⟨ob.slots,k b ob q⟩,fun _ _ _ n _=>n,fun b ob q _=>⟨ob,k b ob q⟩,fun _ _ q=>q,fun _ _ _ q=>q,fun _ ps q=>⟨#[],by rw [q];simp⟩⟩
theorem Un.refl:Un fs ex H H h h:=Un.kept fun _ _ q=>q
theorem Un.laid(k:∀ b u,h.get? b=some u->h'.get? b=some u)(hp:h.objs.size<=a)(hn:H a=none):Un fs ex H (upd H a o) h h' where
 keep:=fun b u q _ _ _=>k b u q
 slot:=fun b u q _ _ _=>⟨u.slots,k b u q⟩
 free:=fun b u q n _=>by rw [ah (CJ (CO (Cu q) hp))];exact n
 there:=fun b u q _=>⟨u,k b u q⟩
 tups:=fun b xs q=>by rw [ah (aq q hn)];exact q
 frzs:=fun b u xs q=>by rw [ah (aq q hn)];exact q
 tbls:=fun b ps q=>⟨#[],by rw [ah (aq q hn),q];simp⟩
theorem Un.write(mu:Mut (H x))(he:e=x\/H e=some (.own x))(k:∀ b u,b≠e->h.get? b=some u->h'.get? b=some u)(heo:∃ u,h'.get? e=some u):Un fs ex H (upd H x o) h h':=by
 have hx:∀ b,H b=none->b≠x:=fun b n z=>by subst z;rw [n] at mu;exact mu
 have hb:∀ b,H b=none->b≠e:=fun b n z=>by
  subst z
  rcases he with r | r
  ·exact hx b n r
  ·rw [n] at r;cases r
 have hm:∀ b u,H b=some u->¬ Mut (some u)->b≠x:=fun b u q nm z=>by subst z;rw [q] at mu;exact nm mu
 refine ⟨fun b u q n _ _=>k b u (hb b n) q,fun b u q n _ _=>⟨u.slots,k b u (hb b n) q⟩,fun b u q n _=>by rw [ah (hx b n)];exact n,fun b u q _=> ?_,
  fun b xs q=>by rw [ah (hm b _ q fun z=>z)];exact q,fun b u xs q=>by rw [ah (hm b _ q fun z=>z)];exact q,fun b ps q=>⟨#[],by rw [ah (hm b _ q fun z=>z),q];simp⟩⟩
 by_cases hbe:b=e
 ·subst hbe;exact heo
 ·exact ⟨u,k b u hbe q⟩
end
noncomputable def trk(h:Heap)(H:Hp):List Addr:=(List.range h.objs.size).filter fun a=>(H a).isSome
noncomputable def pB(h:Heap)(H:Hp):Heap:=PySem.W.hideAll h (trk h H)
theorem vH(h:Heap)(H:Hp):(pB h H).objs.size=h.objs.size:=PySem.W.hideAll_size _ _
theorem yp{h:Heap}{H:Hp}{b:Addr}{o:Obj}(e:h.get? b=some o)(n:H b=none):(pB h H).get? b=some o :=
 En _ e fun hm=>by
  have q:(H b).isSome=true:=(Di.mp hm).2;rw [n] at q;simp at q
theorem AX{h:Heap}{H:Hp}{b:Addr}{o:Obj}(e:(pB h H).get? b=some o):h.get? b=some o/\H b=none:=by
 have e':h.get? b=some o:=PySem.W.of_hideAll (trk h H) e;refine ⟨e',?_⟩
 cases q:H b with
 | none=>rfl
 | some x =>
  have hm:b∈trk h H:=Di.mpr ⟨Dq.mpr (Cu e'),by simp [q]⟩;have z:(pB h H).get? b=none:=PySem.W.hideAll_none (trk h H) hm;rw [z] at e;cases e
structure Mod(K:E2)(mg:Str->Option Value)(base:Heap):Prop where
 kin:K.In base
 glob:base.Ns mainGlobals mg
 blt:∃ mb,base.Ns builtinsNs mb/\∀ x:Str,x ≠ "__name__" -> mb x=bootBuiltins x
 nolimit:base.NoLimit
structure Cx where
 prog:Program
 w:World
 K:E2
 mg:Str->Option Value
 base:Heap
 A:Around
 N:List Str
 s₀:Shared
 H₀:Hp
 env:Env
 outer:List Env
 stack:List Env
 ex:List Addr
 fn:Str->Bool
 calm:Bool
 pn:List (Addr×Obj)
 xe:Value->Shared->Prop
noncomputable def frs(l:List Env):List Addr:=l.filterMap (·.frame)
abbrev Cx.fs(X:Cx):List Addr:=frs X.outer
noncomputable def Vis(sc:Scope)(x:Str):Prop:=sc.names.lookup x=some .local\/sc.names.lookup x=some .cell\/sc.names.lookup x=some .free
noncomputable def Loc(sc:Scope)(x:Str):Prop:=sc.names.lookup x=some .local\/sc.names.lookup x=some .cell
noncomputable def Look(env:Env)(h:Heap)(m:Str->Option Value)(x:Str)(u:Value):Prop :=
 (env.kindOf x=some .local/\m x=some u)\/((env.kindOf x=some .cell\/env.kindOf x=some .free)/\∃ c,env.cells.lookup x=some c/\h.IsCell c (some u))
structure Cx.Ok(X:Cx):Prop where
 mod:Mod X.K X.mg X.base
 kind:X.env.scope.kind = .function
 glob:X.env.globals=mainGlobals
 blt:X.env.builtins=builtinsNs
 above:X.s₀.heap.objs.size<=X.env.locals
 inj:∀ x y c,X.env.cells.lookup x=some c->X.env.cells.lookup y=some c->x=y
 has:∀ x,(X.env.kindOf x=some .cell\/X.env.kindOf x=some .free)->∃ c,X.env.cells.lookup x=some c
 cab:∀ x c,X.fn x=true->X.env.cells.lookup x=some c->X.s₀.heap.objs.size<=c
 hd:X.calm=true->X.A.handled=none
 frames:X.A.frames=some X.stack
 stk:X.stack=X.outer\/(X.stack=X.env::X.outer/\X.env.frame=some X.env.locals)
 exf:∀ b∈X.ex,b≠X.env.locals/\∀ x c,X.env.cells.lookup x=some c->c≠b
 bs:∀ b o,X.base.get? b=some o->X.s₀.heap.get? b=some o/\X.H₀ b=none
 bsz:X.base.objs.size<=X.s₀.heap.objs.size
 noex:∀ b o,X.base.get? b=some o->b∉X.ex
 exfs:∀ b∈X.ex,b∉X.fs
 funs:X.s₀.heap.FunFrames X.base X.outer
 frf:∀ b∈X.fs,X.H₀ b=none
structure Inv(X:Cx)(pins:List (Addr×Obj))(σ:List (Option V))(H:Hp)(s:Shared):Prop where
 ok:X.Ok
 os:s.os=X.s₀.os
 bare:AllBare s.gens
 base:Un X.fs X.ex X.H₀ H X.s₀.heap s.heap
 loc:∃ m,s.heap.Ns X.env.locals m/\∀ (i:Nat) (x:Str) (v:V),X.N[i]?=some x->σ[i]?=some (some v)->Vis X.env.scope x->∃ u,aB v u/\Look X.env s.heap m x u
 cell:∀ x c,X.env.cells.lookup x=some c->∃ v,s.heap.IsCell c v
 free:H X.env.locals=none
 freeC:∀ x c,X.env.cells.lookup x=some c->H c=none
 pin:∀ p∈X.pn++pins,s.heap.get? p.1=some p.2/\H p.1=none/\p.1≠X.env.locals/\p.1∉X.fs/\∀ v,p.2.data ≠ .cell v
 hok:HOk X.prog X.w H s.heap
 len:σ.length=X.N.length
section
variable{X:Cx}{pins:List (Addr×Obj)}{σ:List (Option V)}{H H':Hp}{s:Shared}{h':Heap}
theorem Cx.Ok.nofr(ok:X.Ok){b:Addr}{o:Obj}(e:X.base.get? b=some o):b∉X.fs:=fun hb=>by
 have:=(ok.funs.mem hb).1;rw [e] at this;cases this
theorem Inv.bs(I:Inv X pins σ H s):∀ b o,X.base.get? b=some o->s.heap.get? b=some o/\H b=none:=fun b o e =>
 ⟨I.base.keep b o (I.ok.bs b o e).1 (I.ok.bs b o e).2 (I.ok.nofr e) (I.ok.noex b o e),I.base.free b o (I.ok.bs b o e).1 (I.ok.bs b o e).2 (I.ok.noex b o e)⟩
theorem Inv.bk(I:Inv X pins σ H s):∀ b o,X.base.get? b=some o->s.heap.get? b=some o:=fun b o e=>(I.bs b o e).1
theorem Inv.mod(I:Inv X pins σ H s):Mod X.K X.mg X.base:=I.ok.mod
theorem Inv.kIn(I:Inv X pins σ H s):X.K.In s.heap:=I.ok.mod.kin.keeps I.bk
theorem Inv.fr(I:Inv X pins σ H s):∃ m,Fr X.base X.env.locals s.heap m :=
 let ⟨m,hn,_⟩:=I.loc
 ⟨m,hn,I.bk,DD I.ok.bsz I.ok.above⟩
theorem Inv.lt(I:Inv X pins σ H s):X.env.locals < s.heap.objs.size:=let ⟨_,hn,_⟩:=I.loc;hn.lt
theorem Inv.sz(I:Inv X pins σ H s):X.s₀.heap.objs.size<=s.heap.objs.size:=DD I.ok.above (DX I.lt)
theorem Inv.nofs(I:Inv X pins σ H s){a:Addr}(h:s.heap.objs.size<=a):a∉X.fs:=fun hb=>by
 obtain ⟨_,o,ho,_⟩:=I.ok.funs.mem hb;exact absurd (CO (Cu ho) (DD I.sz h)) (Ew _)
theorem Inv.cne(I:Inv X pins σ H s):∀ x c,X.env.cells.lookup x=some c->c≠X.env.locals:=fun x c e z=>by
 obtain ⟨v,o,ho,hd⟩:=I.cell x c e;obtain ⟨m,⟨o',es,ep,ho',hd',_⟩,_⟩:=I.loc;rw [z,ho'] at ho;cases ho;rw [hd'] at hd;cases hd
theorem Inv.funs(I:Inv X pins σ H s):s.heap.FunFrames X.base X.outer:=by
 have all:∀ (l:List Env),(∀ b∈frs l,b∈X.fs)->X.s₀.heap.FunFrames X.base l->s.heap.FunFrames X.base l:=by
  intro l
  induction l with
  | nil=>intro _ _;trivial
  | cons env r ih =>
   intro hs hl;obtain ⟨hk,⟨L,o,hf,hn,ho,hd⟩,hr⟩:=hl;have hL:L∈X.fs:=hs L (by unfold frs;rw [ER,hf];exact Cs)
   obtain ⟨sl,e⟩:=I.base.slot L o ho (I.ok.frf L hL) hL fun z=>I.ok.exfs L z hL
   exact ⟨hk,⟨L,_,hf,hn,e,hd⟩,ih (fun b hb=>hs b (by unfold frs;rw [ER,hf];exact Cn _ hb)) hr⟩
 exact all X.outer (fun _ hb=>hb) I.ok.funs
theorem Inv.stack(I:Inv X pins σ H s):s.heap.FunFrames X.base X.stack:=by
 rcases I.ok.stk with e | ⟨e,hf⟩
 ·rw [e];exact I.funs
 ·rw [e]
  obtain ⟨m,hn,_⟩:=I.loc;refine .cons (by rw [I.ok.kind];decide) hf hn ?_ I.funs;exact Heap.get?_none_of_le (DD I.ok.bsz I.ok.above)
theorem Inv.stkSub(I:Inv X pins σ H s):∀ b∈frs X.stack,b∈X.env.locals::X.fs:=fun b hb=>by
 rcases I.ok.stk with e | ⟨e,hf⟩
 ·rw [e] at hb;exact Cn _ hb
 ·rw [e] at hb
  unfold frs at hb;rw [ER,hf] at hb;exact hb
theorem Inv.stkFree(I:Inv X pins σ H s):∀ b∈frs X.stack,H b=none:=fun b hb=>by
 rcases Cr.mp (I.stkSub b hb) with e | hb
 ·rw [e];exact I.free
 ·obtain ⟨_,o,ho,_⟩:=I.ok.funs.mem hb
  exact I.base.free b o ho (I.ok.frf b hb) fun z=>I.ok.exfs b z hb
theorem Inv.step{g':Array GenState}{t':Nat}{d':Drawn}{ch:List Addr}(I:Inv X pins σ H s)
 (hch:∀ b∈ch,(b∈X.ex\/X.s₀.heap.objs.size<=b)/\b≠X.env.locals/\(∀ x c,X.env.cells.lookup x=some c->c≠b)/\∀ p∈X.pn++pins,p.1≠b)
 (keep:∀ b o,b≠X.env.locals->b∉X.fs->b∉ch->s.heap.get? b=some o->H b=none->h'.get? b=some o)
 (slot:∀ b o,b≠X.env.locals->b∈X.fs->b∉ch->s.heap.get? b=some o->H b=none->∃ sl,h'.get? b=some { o with slots:=sl }) (free:∀ b o,b∉ch->s.heap.get? b=some o->H b=none->H' b=none)
 (there:∀ b o,b∉ch->s.heap.get? b=some o->∃ o',h'.get? b=some o')
 (tups:∀ b xs,H b=some (.tup xs)->H' b=some (.tup xs)) (frzs:∀ b o u,H b=some (.frz o u)->H' b=some (.frz o u)) (tbls:∀ b ps,H b=some (.tbl ps)->∃ more,H' b=some (.tbl (ps++more)))
 (ns:∀ m,s.heap.Ns X.env.locals m->h'.Ns X.env.locals m) (hok:HOk X.prog X.w H' h') (hg:AllBare g') :
 Inv X pins σ H' { s with heap:=h',gens:=g',drawn:=d',toks:=t' }:=by
 have neL:∀ b o,X.s₀.heap.get? b=some o->b≠X.env.locals:=fun b o e=>CJ (CO (Cu e) I.ok.above)
 have neC:∀ b o,X.s₀.heap.get? b=some o->b∉X.ex->b∉ch:=fun b o e hx hb=>by
  rcases (hch b hb).1 with z | z
  ·exact hx z
  ·exact absurd (CO (Cu e) z) (Ew _)
 have cellK:∀ x c,X.env.cells.lookup x=some c->∀ v,s.heap.IsCell c v->h'.IsCell c v:=fun x c e v ⟨o,ho,hd⟩=>by
  have nch:c∉ch:=fun z=>(hch c z).2.2.1 x c e rfl
  by_cases hc:c∈X.fs
  ·obtain ⟨sl,q⟩:=slot c o (I.cne x c e) hc nch ho (I.freeC x c e)
   exact ⟨_,q,hd⟩
  ·exact ⟨o,keep c o (I.cne x c e) hc nch ho (I.freeC x c e),hd⟩
 refine ⟨I.ok,I.os,hg,⟨fun b o e n hb hx=> ?_,fun b o e n hb hx=> ?_,fun b o e n hx=> ?_,fun b o e hx=> ?_,fun b xs e=>tups b xs (I.base.tups b xs e),fun b o xs e=>frzs b o xs (I.base.frzs b o xs e),fun b ps e=> ?_⟩,?_,fun x c e=> ?_,?_,fun x c e=> ?_,fun p hp=> ?_,hok,I.len⟩
 ·exact keep b o (neL b o e) hb (neC b o e hx) (I.base.keep b o e n hb hx) (I.base.free b o e n hx)
 ·obtain ⟨sl,e1⟩:=I.base.slot b o e n hb hx
  obtain ⟨sl',e2⟩:=slot b _ (neL b o e) hb (neC b o e hx) e1 (I.base.free b o e n hx);exact ⟨sl',e2⟩
 ·obtain ⟨o',e1⟩:=I.base.there b o e hx
  exact free b o' (neC b o e hx) e1 (I.base.free b o e n hx)
 ·obtain ⟨o',e1⟩:=I.base.there b o e hx
  exact there b o' (neC b o e hx) e1
 ·obtain ⟨m1,e1⟩:=I.base.tbls b ps e
  obtain ⟨m2,e2⟩:=tbls b _ e1;exact ⟨m1++m2,by rw [e2,Array.append_assoc]⟩
 ·obtain ⟨m,hn,hl⟩:=I.loc
  refine ⟨m,ns m hn,fun i x v e1 e2 e3=> ?_⟩;obtain ⟨u,r,l⟩:=hl i x v e1 e2 e3;refine ⟨u,r,?_⟩
  rcases l with l | ⟨k,c,e,z⟩
  ·exact .inl l
  ·exact .inr ⟨k,c,e,cellK x c e _ z⟩
 ·obtain ⟨v,z⟩:=I.cell x c e
  exact ⟨v,cellK x c e v z⟩
 ·obtain ⟨m,⟨o,_,_,ho,_⟩,_⟩:=I.loc
  exact free _ o (fun z=>(hch _ z).2.1 rfl) ho I.free
 ·obtain ⟨v,o,ho,hd⟩:=I.cell x c e
  exact free c o (fun z=>(hch c z).2.2.1 x c e rfl) ho (I.freeC x c e)
 ·obtain ⟨e,n,ne,nf,d⟩:=I.pin p hp
  have nch:p.1∉ch:=fun z=>(hch p.1 z).2.2.2 p hp rfl
  exact ⟨keep p.1 p.2 ne nf nch e n,free p.1 p.2 nch e n,ne,nf,d⟩
theorem Inv.un{t':Nat}(I:Inv X pins σ H s)(u:Un X.fs [] H H' s.heap h')(hok:HOk X.prog X.w H' h'):Inv X pins σ H' { s with heap:=h',toks:=t' }:=by
 obtain ⟨m,⟨o,es,ep,ho,r⟩,_⟩:=id I.loc;obtain ⟨sl,hL⟩:=u.any ho I.free (by simp)
 exact I.step (g':=s.gens) (d':=s.drawn) (ch:=[]) (fun _ z=>nomatch z) (fun b o _ hb _ e n=>u.keep b o e n hb (by simp)) (fun b o _ hb _ e n=>u.slot b o e n hb (by simp)) (fun b o _ e n=>u.free b o e n (by simp)) (fun b o _ e=>u.there b o e (by simp)) u.tups u.frzs u.tbls (fun m' hm=>by
  obtain ⟨o',es',ep',ho',r'⟩:=hm;rw [ho] at ho';cases ho'
  exact ⟨_,es',ep',hL,r'⟩) hok I.bare
theorem Inv.call{g':Array GenState}{t':Nat}{d':Drawn}{ch:List Addr}(I:Inv X pins σ H s)(u:Un (frs X.stack) ch H H' s.heap h')(hok:HOk X.prog X.w H' h')(hg:AllBare g')
 (hch:∀ b∈ch,(b∈X.ex\/X.s₀.heap.objs.size<=b)/\b≠X.env.locals/\(∀ x c,X.env.cells.lookup x=some c->c≠b)/\∀ p∈X.pn++pins,p.1≠b) :
 Inv X pins σ H' { s with heap:=h',gens:=g',drawn:=d',toks:=t' }:=by
 obtain ⟨m,⟨o,es,ep,ho,r⟩,_⟩:=id I.loc
 obtain ⟨sl,hL⟩:=u.any ho I.free fun z=>(hch _ z).2.1 rfl
 exact I.step (ch:=ch) hch (fun b o hL hb hc e n=>u.keep b o e n (fun z=>(Cr.mp (I.stkSub b z)).elim hL hb) hc) (fun b o _ _ hc e n=>u.any e n hc) (fun b o hc e n=>u.free b o e n hc) (fun b o hc e=>u.there b o e hc) u.tups u.frzs u.tbls (fun m' hm=>by
  obtain ⟨o',es',ep',ho',r'⟩:=hm;rw [ho] at ho';cases ho'
  exact ⟨_,es',ep',hL,r'⟩) hok hg
theorem Inv.turned{t':Nat}{it:Addr}(I:Inv X pins σ H s)(k:∀ b o,b≠it->s.heap.get? b=some o->h'.get? b=some o)(hn:H it=none)(hL:it≠X.env.locals)
 (h1:it∈X.ex\/X.s₀.heap.objs.size<=it) (h2:∀ x c,X.env.cells.lookup x=some c->c≠it) (h3:∀ p∈X.pn++pins,p.1≠it):Inv X pins σ H { s with heap:=h',toks:=t' }:=by
 have nit:∀ b u,H b=some u->b≠it:=fun b u e z=>by rw [z,hn] at e;cases e
 refine I.step (g':=s.gens) (d':=s.drawn) (ch:=[it]) (fun b hb=> ?_) (fun b o _ _ hc e _=>k b o (fun z=>hc (by simp [z])) e) (fun b o _ _ hc e _=>⟨o.slots,k b o (fun z=>hc (by simp [z])) e⟩) (fun _ _ _ _ n=>n)
  (fun b o hc e=>⟨o,k b o (fun z=>hc (by simp [z])) e⟩) (fun _ _ e=>e) (fun _ _ _ e=>e) (fun b ps e=>⟨#[],by rw [e];simp⟩) (fun m hm=> ?_) (fun b u e=> ?_) I.bare
 ·have e:b=it:=by simpa using hb
  subst e;exact ⟨h1,hL,h2,h3⟩
 ·obtain ⟨o,es,ep,ho,r⟩:=hm
  exact ⟨o,es,ep,k _ o (Ne.symm hL) ho,r⟩
 ·refine (I.hok b u e).stay (fun c v hc q=>k c v ?_ q) (fun _ q=>q) fun _ _ q=>q
  rcases hc with z | z
  ·rw [z];exact nit b u e
  ·exact nit c _ z
theorem Inv.tok(I:Inv X pins σ H s)(t:Nat):Inv X pins σ H { s with toks:=t }:=I.un (h':=s.heap) (t':=t) Un.refl I.hok
theorem Inv.kept{t':Nat}(I:Inv X pins σ H s)(k:∀ b u,s.heap.get? b=some u->h'.get? b=some u):Inv X pins σ H { s with heap:=h',toks:=t' }:=I.un (Un.kept k) (I.hok.kept k)
theorem Inv.laid{a:Addr}{o:HO}{t':Nat}(I:Inv X pins σ H s)(k:∀ b u,s.heap.get? b=some u->h'.get? b=some u)(hp:s.heap.objs.size<=a)(new:bH X.prog X.w (upd H a o) h' a o) :
 Inv X pins σ (upd H a o) { s with heap:=h',toks:=t' }:=I.un (Un.laid k hp (I.hok.fresh hp)) (I.hok.laid k hp new)
theorem Inv.write{x e:Addr}{o:HO}{t':Nat}(I:Inv X pins σ H s)(mu:Mut (H x))(he:e=x\/H e=some (.own x))(k:∀ b u,b≠e->s.heap.get? b=some u->h'.get? b=some u)(heo:∃ u,h'.get? e=some u)
 (new:bH X.prog X.w (upd H x o) h' x o):Inv X pins σ (upd H x o) { s with heap:=h',toks:=t' }:=I.un (Un.write mu he k heo) (I.hok.write mu he k heo new)
theorem Inv.weak{σ':List (Option V)}(I:Inv X pins σ H s)(hl:σ'.length=σ.length)(w:∀ (i:Nat) v,σ'[i]?=some (some v)->σ[i]?=some (some v)):Inv X pins σ' H s :=
 ⟨I.ok,I.os,I.bare,I.base,let ⟨m,hn,hl'⟩:=I.loc;⟨m,hn,fun i x v e1 e2 e3=>hl' i x v e1 (w i v e2) e3⟩,I.cell,I.free,I.freeC,I.pin,I.hok,hl.trans I.len⟩
theorem Inv.pins_of{pins':List (Addr×Obj)}(I:Inv X pins σ H s)(h:∀ p∈pins',s.heap.get? p.1=some p.2/\H p.1=none/\p.1≠X.env.locals/\p.1∉X.fs/\∀ v,p.2.data ≠ .cell v):Inv X pins' σ H s :=
 ⟨I.ok,I.os,I.bare,I.base,I.loc,I.cell,I.free,I.freeC,fun p hp=>(CI.mp hp).elim (fun z=>I.pin p (Cp _ z)) (h p),I.hok,I.len⟩
theorem ml{N:List Str}(hN:N.Nodup){i j:Nat}{x:Str}(a:N[i]?=some x)(b:N[j]?=some x):i=j:=by
 obtain ⟨h1,e1⟩:=Cv.mp a;obtain ⟨h2,e2⟩:=Cv.mp b;exact (List.getElem_inj hN).mp (e1.trans e2.symm)
theorem nN{M:Model}{A:Around}{E:Value->Shared->Prop}{i:Nat}{x:Str}{v:V}{u:Value}{Q:Unit->Shared->Prop}(I:Inv X pins σ H s)(hN:X.N.Nodup)(hi:X.N[i]?=some x)(hx:Loc X.env.scope x)(r:aB v u)
 (h:∀ s',Inv X pins (σ.set i (some v)) H s'->(∃ a,Heap.SameBut a s.heap s'.heap/\(a=X.env.locals\/X.env.cells.lookup x=some a))->Q () s') (hf:X.fn x=true\/X.env.scope.names.lookup x=some .local:=by first | exact .inl rfl | exact .inr rfl | assumption):wpAny M A (storeName X.env x u) Q E s:=by
 obtain ⟨m,hn,hl⟩:=id I.loc
 have hcls:(X.env.scope.kind == .class||(X.env.scope.kind == .module&&X.env.locals != X.env.globals))=false:=by rw [I.ok.kind];rfl
 have hiσ:i < σ.length:=by rw [I.len];exact (Cv.mp hi).1
 have cne:=I.cne
 have tracked:∀ {a:Addr} {h':Heap},(∃ o,s.heap.get? a=some o/\H a=none)->Heap.SameBut a s.heap h'->HOk X.prog X.w H h':=fun {a h'} ha hs b ob e=>by
  obtain ⟨_,_,hfree⟩:=ha
  refine (I.hok b ob e).stay (fun c w' hc q=>(hs.2 c ?_).trans q) (fun _ q=>q) fun _ _ q=>q
  rintro rfl
  rcases hc with rfl | hc
  ·rw [hfree] at e;cases e
  ·rw [hfree] at hc;cases hc
 rcases hx with hk | hk
 ·refine wpAny_storeName_local hk hn (fun h' hn' hs=> ?_) hcls
  obtain ⟨oL,_,_,hoL,_⟩:=id hn;refine h _ ⟨I.ok,I.os,I.bare,⟨fun b o e n hb hx=> ?_,fun b o e n hb hx=> ?_,I.base.free,fun b o e hx=> ?_,I.base.tups,I.base.frzs,I.base.tbls⟩,⟨_,hn',fun j y v' e1 e2 e3=> ?_⟩,fun y c e=> ?_,I.free,I.freeC,fun p hp=> ?_,tracked ⟨oL,hoL,I.free⟩ hs,by simpa using I.len⟩ ⟨_,hs,.inl rfl⟩
  ·exact (hs.2 b (CJ (CO (Cu e) I.ok.above))).trans (I.base.keep b o e n hb hx)
  ·obtain ⟨sl,e1⟩:=I.base.slot b o e n hb hx
   exact ⟨sl,(hs.2 b (CJ (CO (Cu e) I.ok.above))).trans e1⟩
  ·obtain ⟨o',e1⟩:=I.base.there b o e hx
   exact ⟨o',(hs.2 b (CJ (CO (Cu e) I.ok.above))).trans e1⟩
  ·by_cases hj:j=i
   ·subst hj
    rw [hi] at e1;cases e1;rw [Df hiσ] at e2;cases e2;exact ⟨u,r,.inl ⟨hk,by simp⟩⟩
   ·rw [CP (Ne.symm hj)] at e2
    obtain ⟨u',r',q⟩:=hl j y v' e1 e2 e3;refine ⟨u',r',?_⟩
    rcases q with ⟨k,e⟩ | ⟨k,c,e,z⟩
    ·refine .inl ⟨k,?_⟩
     have:y≠x:=fun e=>hj (ml hN e1 (e ▸ hi))
     simp [this,e]
    ·exact .inr ⟨k,c,e,z.sameBut hs (cne y c e)⟩
  ·obtain ⟨w',z⟩:=I.cell y c e
   exact ⟨w',z.sameBut hs (cne y c e)⟩
  ·obtain ⟨e,n,ne,nf,d⟩:=I.pin p hp
   exact ⟨(hs.2 p.1 ne).trans e,n,ne,nf,d⟩
 ·have hfn:X.fn x=true:=by
   rcases hf with z | z
   ·exact z
   ·rw [z] at hk;cases hk
  obtain ⟨c,hc⟩:=I.ok.has x (.inl hk);obtain ⟨w',z⟩:=I.cell x c hc;refine wpAny_storeName_cell I.ok.kind hk hc z (fun h' hc' hs=> ?_);obtain ⟨oc,hoc,hocd⟩:=id z;refine h { s with heap:=h' } ⟨I.ok,I.os,I.bare,⟨fun b o e n hb hx=> ?_,fun b o e n hb hx=> ?_,I.base.free,fun b o e hx=> ?_,I.base.tups,I.base.frzs,I.base.tbls⟩,⟨m,hn.sameBut hs (Ne.symm (cne x c hc)),fun j y v' e1 e2 e3=> ?_⟩,fun y c' e=> ?_,I.free,I.freeC,fun p hp=> ?_,tracked ⟨oc,hoc,I.freeC x c hc⟩ hs,by simpa using I.len⟩ ⟨c,hs,.inr hc⟩
  ·exact (hs.2 b (CJ (CO (Cu e) (I.ok.cab x c hfn hc)))).trans (I.base.keep b o e n hb hx)
  ·obtain ⟨sl,e1⟩:=I.base.slot b o e n hb hx
   exact ⟨sl,(hs.2 b (CJ (CO (Cu e) (I.ok.cab x c hfn hc)))).trans e1⟩
  ·obtain ⟨o',e1⟩:=I.base.there b o e hx
   exact ⟨o',(hs.2 b (CJ (CO (Cu e) (I.ok.cab x c hfn hc)))).trans e1⟩
  ·by_cases hj:j=i
   ·subst hj
    rw [hi] at e1;cases e1;rw [Df hiσ] at e2;cases e2;exact ⟨u,r,.inr ⟨.inl hk,c,hc,hc'⟩⟩
   ·rw [CP (Ne.symm hj)] at e2
    obtain ⟨u',r',q⟩:=hl j y v' e1 e2 e3;refine ⟨u',r',?_⟩
    rcases q with q | ⟨k,c',e,z'⟩
    ·exact .inl q
    ·refine .inr ⟨k,c',e,z'.sameBut hs ?_⟩
     rintro rfl;exact hj (ml hN e1 (I.ok.inj _ _ _ e hc ▸ hi))
  ·by_cases hcc:c'=c
   ·subst hcc;exact ⟨_,hc'⟩
   ·obtain ⟨w2,z2⟩:=I.cell y c' e
    exact ⟨w2,z2.sameBut hs hcc⟩
  ·obtain ⟨e,n,ne,nf,d⟩:=I.pin p hp
   refine ⟨(hs.2 p.1 ?_).trans e,n,ne,nf,d⟩;intro q;rw [q,hoc] at e;have q':oc=p.2:=Option.some.inj e;exact d w' (by rw [<- q'];exact hocd)
theorem js{M:Model}{A:Around}{E:Value->Shared->Prop}{i:Nat}{x:Str}{v:V}{u:Value}{Q:Unit->Shared->Prop}(I:Inv X pins σ H s)(hN:X.N.Nodup)(hi:X.N[i]?=some x)(hx:Loc X.env.scope x)(r:aB v u)
 (h:∀ s',Inv X pins (σ.set i (some v)) H s'->Q () s') (hf:X.fn x=true\/X.env.scope.names.lookup x=some .local:=by first | exact .inl rfl | exact .inr rfl | assumption):wpAny M A (storeName X.env x u) Q E s :=
 nN I hN hi hx r (fun s' I' _=>h s' I') hf
theorem Inv.call'{s':Shared}{ch:List Addr}(I:Inv X pins σ H s)(ho:s'.os=s.os)(u:Un (frs X.stack) ch H H' s.heap s'.heap)(hok:HOk X.prog X.w H' s'.heap)(hg:AllBare s'.gens)
 (hch:∀ b∈ch,(b∈X.ex\/X.s₀.heap.objs.size<=b)/\b≠X.env.locals/\(∀ x c,X.env.cells.lookup x=some c->c≠b)/\∀ p∈X.pn++pins,p.1≠b):Inv X pins σ H' s':=by
 obtain ⟨h',g',d',t',o'⟩:=s';have e:o'=s.os:=ho;subst e;exact I.call (g':=g') (t':=t') (d':=d') u hok hg hch
end
abbrev XK:=Value->Option Addr->Hp->Prop
abbrev St:=List (Option V)
abbrev VK:=V->Hp->Prop
abbrev TE:=St->Hp->VK->Prop
abbrev TT:=St->Hp->(Bool->Hp->Prop)->Prop
abbrev TA:=St->Hp->(List V->Hp->Prop)->Prop
structure mW where
 nx:St->Hp->Prop
 rt:VK
 bk:St->Hp->Prop:=fun _ _=>False
 ct:St->Hp->Prop:=fun _ _=>False
abbrev TS:=mW->St->Hp->Prop
noncomputable def EP(X:Cx)(pins:List (Addr×Obj))(σ:St)(Q:VK)(u:Value)(s':Shared):Prop:=∃ v H',Inv X pins σ H' s'/\aB v u/\Q v H'
noncomputable def TP(X:Cx)(pins:List (Addr×Obj))(σ:St)(Q:Bool->Hp->Prop)(b:Bool)(s':Shared):Prop:=∃ H',Inv X pins σ H' s'/\Q b H'
noncomputable def AP(X:Cx)(pins:List (Addr×Obj))(σ:St)(Q:List V->Hp->Prop)(us:List Value)(s':Shared):Prop:=∃ vs H',Inv X pins σ H' s'/\aw vs us/\Q vs H'
noncomputable def SP(X:Cx)(pins:List (Addr×Obj))(D:mW)(f:Flow)(s':Shared):Prop :=
 match f with
 | .next=>∃ σ' H',Inv X pins σ' H' s'/\D.nx σ' H'
 | .brk=>∃ σ' H',Inv X pins σ' H' s'/\D.bk σ' H'
 | .cont=>∃ σ' H',Inv X pins σ' H' s'/\D.ct σ' H'
 | .ret u=>∃ v σ' H',Inv X pins σ' H' s'/\aB v u/\D.rt v H'
noncomputable def PE(X:Cx)(e:Expr)(t:TE):Prop :=
 ∀ (pins:List (Addr×Obj)) (s:Shared) (σ:St) (H:Hp) (Q:VK),Inv X pins σ H s->t σ H Q->wpAny (model X.prog X.w) X.A (eval e X.env) (EP X pins σ Q) X.xe s
noncomputable def PT(X:Cx)(e:Expr)(t:TT):Prop :=
 ∀ (pins:List (Addr×Obj)) (s:Shared) (σ:St) (H:Hp) (Q:Bool->Hp->Prop),Inv X pins σ H s->t σ H Q->wpAny (model X.prog X.w) X.A (isTrue e X.env (eval e X.env)) (TP X pins σ Q) X.xe s
noncomputable def PW(X:Cx)(e:Expr)(t:TT):Prop :=
 ∀ (whole:Sem Value) (pins:List (Addr×Obj)) (s:Shared) (σ:St) (H:Hp) (Q:Bool->Hp->Prop),Inv X pins σ H s->t σ H Q->wpAny (model X.prog X.w) X.A (isTrue e X.env whole) (TP X pins σ Q) X.xe s
theorem PW.pt{X:Cx}{e:Expr}{t:TT}(h:PW X e t):PT X e t:=h _
noncomputable def PA(X:Cx)(es:List Expr)(t:TA):Prop :=
 ∀ (pos:Pos) (pins:List (Addr×Obj)) (s:Shared) (σ:St) (H:Hp) (Q:List V->Hp->Prop),Inv X pins σ H s->t σ H Q->wpAny (model X.prog X.w) X.A (spliced (backTo pos (starEach es X.env))) (AP X pins σ Q) X.xe s
noncomputable def PS(X:Cx)(st:Stmt)(t:TS):Prop :=
 ∀ (pins:List (Addr×Obj)) (s:Shared) (σ:St) (H:Hp) (D:mW),Inv X pins σ H s->t D σ H->wpAny (model X.prog X.w) X.A (exec st X.env) (SP X pins D) X.xe s
noncomputable def PSs(X:Cx)(st:List Stmt)(t:TS):Prop :=
 ∀ (pins:List (Addr×Obj)) (s:Shared) (σ:St) (H:Hp) (D:mW),Inv X pins σ H s->t D σ H->wpAny (model X.prog X.w) X.A (execs st X.env) (SP X pins D) X.xe s
theorem thn{α:Type}{t:Sem α}{Q Q':α->Shared->Prop}{M:Model}{A:Around}{E:Value->Shared->Prop}{s:Shared}(h:wpAny M A t Q E s)(hQ:∀ a s,Q a s->Q' a s):wpAny M A t Q' E s:=Dy h hQ fun _ _ x=>x
section
variable{X:Cx}
theorem bin{a b:Expr}{ta tb:TE}(ha:PE X a ta)(hb:PE X b tb){pins:List (Addr×Obj)}{s:Shared}{σ:St}{H:Hp}{R:V->V->Hp->Prop}(I:Inv X pins σ H s)(h:ta σ H fun x H1=>tb σ H1 fun y H2=>R x y H2)
 {α:Type} {Q:α->Shared->Prop} {f:Value->Value->Sem α}
 (hf:∀ v u s2 x y H2,Inv X pins σ H2 s2->aB x v->aB y u->R x y H2->wpAny (model X.prog X.w) X.A (f v u) Q X.xe s2) :
 wpAny (model X.prog X.w) X.A (eval a X.env) (fun v s₁=>wpAny (model X.prog X.w) X.A (eval b X.env) (fun u s₂=>wpAny (model X.prog X.w) X.A (f v u) Q X.xe s₂) X.xe s₁) X.xe s:=by
 refine thn (ha pins s σ H _ I h) fun v s1 ⟨x,H1,I1,r1,q1⟩=> ?_
 refine thn (hb pins s1 σ H1 _ I1 q1) fun u s2 ⟨y,H2,I2,r2,q2⟩=> ?_
 exact hf v u s2 x y H2 I2 r1 r2 q2
noncomputable def bR(i:Nat):TE:=fun σ H Q=>∃ v,σ[i]?=some (some v)/\Q v H
noncomputable def tC(v:V):TE:=fun _ H Q=>Q v H
theorem gP{i:Nat}{x:Str}{pos:Pos}(hN:X.N[i]?=some x)(hv:Vis X.env.scope x)(hd:(x == ("__debug__" : Str))=false:=by decide)(hcd:(x == ("__classdict__" : Str))=false:=by decide):PE X (.Name x pos) (bR i):=by
 intro pins s σ H Q I h;obtain ⟨v,e,h⟩:=h;obtain ⟨m,hn,hl⟩:=I.loc;obtain ⟨u,r,l⟩:=hl i x v hN e hv;have fin:EP X pins σ Q u s:=⟨v,H,I,r,h⟩
 rcases l with ⟨hk,hm⟩ | ⟨hk,c,hc,hcell⟩
 ·exact wpAny_Name (wpAny_loadName_local I.ok.kind hk hn hm fin) hd
 ·rcases hk with hk | hk
  ·exact wpAny_Name (wpAny_loadName_cell I.ok.kind hk hc hcell fin) hd
  ·exact wpAny_Name (wpAny_loadName_free I.ok.kind hk hc hcell fin hcd) hd
theorem aX{i j pos}:PE X (.Constant (.int i) j pos) (tC (.int i)):=fun _ _ _ H _ I h=>wpAny_Constant_int ⟨.int i,H,I.tok _,⟨_,rfl⟩,h⟩
theorem uz{b j pos}:PE X (.Constant (.bool b) j pos) (tC (.bl b)):=fun _ _ _ H _ I h=>Constant_bool ⟨.bl b,H,I,rfl,h⟩
theorem xy{j pos}:PE X (.Constant .none j pos) (tC .non):=fun _ _ _ H _ I h=>Constant_none ⟨.non,H,I,rfl,h⟩
theorem dM{x j pos}:PE X (.Constant (.str x) j pos) (tC (.str x)):=fun _ _ _ H _ I h=>Calls.Constant_str ⟨.str x,H,I.tok _,⟨_,rfl⟩,h⟩
noncomputable def Gl(X:Cx)(x:Str):Prop:=X.env.kindOf x=some .globalImplicit
theorem iz{E:Value->Shared->Prop}{pins:List (Addr×Obj)}{s:Shared}{σ:St}{H:Hp}{x:Str}{u:Value}{pos:Pos}{Q:Value->Shared->Prop}(I:Inv X pins σ H s)(hg:Gl X x)(hm:X.mg x=some u)(h:Q u s)
 (hd:(x == ("__debug__" : Str))=false:=by decide):wpAny (model X.prog X.w) X.A (eval (.Name x pos) X.env) Q E s :=
 Calls.Name_function_global I.ok.kind hg (Calls.loadGlobal_global (by rw [I.ok.glob];exact I.mod.glob.keeps I.bk) hm h) hd
theorem jf{E:Value->Shared->Prop}{pins:List (Addr×Obj)}{s:Shared}{σ:St}{H:Hp}{x:Str}{u:Value}{pos:Pos}{Q:Value->Shared->Prop}(I:Inv X pins σ H s)(hg:Gl X x)(hm:X.mg x=none)(hv:bootBuiltins x=some u)(h:Q u s)
 (hn:x ≠ "__name__" := by decide) (hd:(x == ("__debug__" : Str))=false:=by decide):wpAny (model X.prog X.w) X.A (eval (.Name x pos) X.env) Q E s:=by
 obtain ⟨mb,h1,h2⟩:=I.mod.blt;exact Calls.Name_function_global I.ok.kind hg (Calls.loadGlobal_builtin (by rw [I.ok.glob];exact I.mod.glob.keeps I.bk) hm (by rw [I.ok.blt];exact h1.keeps I.bk) ((h2 x hn).trans hv) h) hd
theorem AF{x:Str}{v:V}{u:Value}{pos:Pos}(hg:Gl X x)(hm:X.mg x=some u)(r:aB v u)(hd:(x == ("__debug__" : Str))=false:=by decide):PE X (.Name x pos) (tC v) :=
 fun _ _ _ H _ I h=>iz I hg hm ⟨v,H,I,r,h⟩ hd
theorem uy{x:Str}{v:V}{u:Value}{pos:Pos}(hg:Gl X x)(hm:X.mg x=none)(hv:bootBuiltins x=some u)(r:aB v u)(hn:x ≠ "__name__" := by decide)(hd:(x == ("__debug__" : Str))=false:=by decide):PE X (.Name x pos) (tC v) :=
 fun _ _ _ H _ I h=>jf I hg hm hv ⟨v,H,I,r,h⟩ hn hd
variable{a b:Expr}{ta tb:TE}{pos:Pos}
noncomputable def PC(X:Cx)(op:CmpOp)(a b:Expr)(t:TE):Prop :=
 ∀ (pins:List (Addr×Obj)) (s:Shared) (σ:St) (H:Hp) (Q:VK),Inv X pins σ H s->t σ H Q ->
  wpAny (model X.prog X.w) X.A (eval a X.env) (fun v s₁=>wpAny (model X.prog X.w) X.A (eval b X.env) (fun u s₂=>wpAny (model X.prog X.w) X.A (compareOp op v u) (EP X pins σ Q) X.xe s₂) X.xe s₁) X.xe s
theorem xT(b:Expr){op:CmpOp}(h:op ≠ .In)(h2:op ≠ .NotIn):behindInMarks op b=false:=by
 have e1:(op == CmpOp.In)=false:=by cases op<;>first | rfl | exact absurd rfl h
 have e2:(op == CmpOp.NotIn)=false:=by cases op<;>first | rfl | exact absurd rfl h2
 cases b<;>simp [behindInMarks,e1,e2]
noncomputable def tB(t:TE):TT:=fun σ H Q=>t σ H fun x H1=>∃ c,x = .bl c/\Q c H1
theorem pt_cmp{op:CmpOp}{t:TE}(h:PC X op a b t)(h1:behindInMarks op b=false:=by first | exact xT _ (by decide) (by decide) | rfl):PT X (.Compare a [op] [b] pos) (tB t):=by
 intro pins s σ H Q I hw;refine wpAny_isTrue_Compare1 (thn (h pins s σ H _ I hw) fun v s1 h1=>thn h1 fun u s2 h2=>thn h2 fun c s3 ⟨x,H1,I1,r1,q1⟩=> ?_) h1;obtain ⟨d,rfl,q⟩:=q1;cases r1;exact DK ⟨H1,I1,q⟩
theorem pt_val{e:Expr}{t:TE}(h:PE X e t)(he:∀ whole,isTrue e X.env whole=(do let v <- whole;standAt e.pos;holding [v] (truthy v)):=by intro _;rfl):PT X e (tB t):=by
 intro pins s σ H Q I hw;refine isTrue_plain (thn (h pins s σ H _ I hw) fun v s1 ⟨x,H1,I1,r1,q1⟩=> ?_) (he _);obtain ⟨d,rfl,q⟩:=q1;cases r1;exact DK ⟨H1,I1,q⟩
variable{tA tB':TT}{cw:List Expr}
noncomputable def tOr(t u:TT):TT:=fun σ H Q=>t σ H fun c H1=>if c=true then Q true H1 else u σ H1 Q
noncomputable def tNot(t:TT):TT:=fun σ H Q=>t σ H fun c H1=>Q (!c) H1
theorem xi(ha:PT X a tA):PW X (.BoolOp .Or [a] pos) tA:=by
 intro wh pins s σ H Q I h;refine isTrue_or (thn (ha pins s σ H Q I h) fun c s1 e=> ?_)
 cases c with
 | false=>exact isTrue_or_nil e
 | true=>exact e
theorem BY(ha:PT X a tA)(hb:PW X (.BoolOp .Or (b::cw) pos) tB'):PW X (.BoolOp .Or (a::b::cw) pos) (tOr tA tB'):=by
 intro wh pins s σ H Q I h;refine isTrue_or (thn (ha pins s σ H _ I h) fun c s1 ⟨H1,I1,q1⟩=> ?_)
 cases c with
 | true=>exact ⟨H1,I1,q1⟩
 | false=>exact hb wh pins s1 σ H1 Q I1 q1
theorem xm(ha:PT X a tA):PT X (.UnaryOp .Not a pos) (tNot tA):=by
 intro pins s σ H Q I h;exact isTrue_not (ha pins s σ H (fun c H1=>Q (!c) H1) I h)
noncomputable def tAndV(ta tb:TE):TE:=fun σ H Q=>ta σ H fun x H1=>∃ c,x = .bl c/\if c=true then tb σ H1 Q else Q (.bl false) H1
noncomputable def tNotV(ta:TE):TE:=fun σ H Q=>ta σ H fun x H1=>∃ c,x = .bl c/\Q (.bl (!c)) H1
theorem pe_one{op}{t:TE}(h:PE X a t):PE X (.BoolOp op [a] pos) t:=fun pins s σ H Q I hw=>BoolOp_one (h pins s σ H Q I hw)
theorem pe_and(ha:PE X a ta)(hb:PE X (.BoolOp .And (b::cw) pos) tb):PE X (.BoolOp .And (a::b::cw) pos) (tAndV ta tb):=by
 intro pins s σ H Q I h;refine BoolOp_and (thn (ha pins s σ H _ I h) fun v s1 ⟨x,H1,I1,r1,q1⟩=> ?_);obtain ⟨c,rfl,q1⟩:=q1;cases r1;refine DK ?_
 cases c with
 | true=>exact hb pins s1 σ H1 Q I1 q1
 | false=>exact ⟨.bl false,H1,I1,rfl,q1⟩
theorem pe_not(ha:PE X a ta):PE X (.UnaryOp .Not a pos) (tNotV ta):=by
 intro pins s σ H Q I h;refine UnaryOp_ (thn (ha pins s σ H _ I h) fun v s1 ⟨x,H1,I1,r1,q1⟩=> ?_);obtain ⟨c,rfl,q1⟩:=q1;cases r1;exact not_of (DK ⟨.bl (!c),H1,I1,rfl,q1⟩)
end
noncomputable def SqL(K:E2)(H:Hp)(a:Addr)(xs:List V):Prop :=
 Rd H a (.lst xs) \/
  ∃ (o:Obj) (its:Array Value) (n:Nat),K.lookup a=some o/\o.cls = .type "list" /\ o.dict=none/\o.data = .seq its n/\its.size<=sizeLine/\aw xs its.toList
noncomputable def SqT(K:E2)(H:Hp)(a:Addr)(xs:List V):Prop :=
 Rd H a (.tup xs) \/
  ∃ (o:Obj) (its:Array Value) (n:Nat),K.lookup a=some o/\o.cls = .type "tuple" /\ o.data = .seq its n/\its.size<=sizeLine/\aw xs its.toList
noncomputable def absV:Value->Option V
 | .none=>some .non
 | .bool b=>some (.bl b)
 | .int i _=>some (.int i)
 | .str x _=>some (.str x)
 | .bytes b _=>some (.byt b)
 | .float b _=>some (.flt b)
 | .ref a=>some (.ref a)
 | .type n=>some (.ty n)
 | _=>none
theorem aB.abs{x:V}{u:Value}(r:aB x u):absV u=some x:=by
 cases x with
 | non=>cases r;rfl
 | bl _=>cases r;rfl
 | int _=>obtain ⟨t,rfl⟩:=r;rfl
 | str _=>obtain ⟨t,rfl⟩:=r;rfl
 | byt _=>obtain ⟨t,rfl⟩:=r;rfl
 | flt _=>obtain ⟨t,rfl⟩:=r;rfl
 | ref _=>cases r;rfl
 | ty _=>cases r;rfl
theorem aB.inj{x y:V}{u:Value}(r:aB x u)(q:aB y u):x=y:=Option.some.inj (r.abs.symm.trans q.abs)
theorem aw.inj:∀ {xs ys:List V} {us:List Value},aw xs us->aw ys us->xs=ys
 | _,_,_,.nil,.nil=>rfl
 | _,_,_,.cons r t,.cons r' t'=>by rw [r.inj r',aw.inj t t']
section
variable{X:Cx}{pins:List (Addr×Obj)}{σ:St}{H:Hp}{s:Shared}{a:Addr}{xs ys:List V}
theorem Inv.list(I:Inv X pins σ H s)(h:SqL X.K H a xs):∃ its:List Value,aw xs its/\PlainL s.heap a its.toArray/\xs.length<=sizeLine:=by
 rcases h with h | ⟨o,its,n,hk,hc,hd,hs,hz,r⟩
 ·obtain ⟨z,its,n,r,e⟩:=h.ok I.hok
  exact ⟨its,r,⟨_,n,e,rfl,rfl,rfl⟩,z⟩
 ·refine ⟨its.toList,r,⟨o,n,I.kIn a o hk,hc,hd,by simpa using hs⟩,?_⟩
  have e:=r.length;simp only [Da] at e;omega
theorem Inv.tuple(I:Inv X pins σ H s)(h:SqT X.K H a xs):∃ its:List Value,aw xs its/\IsTup s.heap a its.toArray/\xs.length<=sizeLine:=by
 rcases h with h | ⟨o,its,n,hk,hc,hs,hz,r⟩
 ·obtain ⟨z,its,r,p⟩:=h.ok I.hok
  exact ⟨its,r,p,z⟩
 ·refine ⟨its.toList,r,⟨o,I.kIn a o hk,hc,n,by simpa using hs⟩,?_⟩
  have e:=r.length;simp only [Da] at e;omega
theorem Inv.list_inj(I:Inv X pins σ H s)(h:SqL X.K H a xs)(h':SqL X.K H a ys):xs=ys:=by
 obtain ⟨its,r,⟨o,n,e,_,_,d⟩,_⟩:=I.list h;obtain ⟨its',r',⟨o',n',e',_,_,d'⟩,_⟩:=I.list h';rw [e] at e';cases e';rw [d] at d'
 injection d' with d1 _
 have:its=its':=by simpa using congrArg Array.toList d1
 subst this;exact r.inj r'
theorem Inv.tuple_inj(I:Inv X pins σ H s)(h:SqT X.K H a xs)(h':SqT X.K H a ys):xs=ys:=by
 obtain ⟨its,r,⟨o,e,_,n,d⟩,_⟩:=I.tuple h;obtain ⟨its',r',⟨o',e',_,n',d'⟩,_⟩:=I.tuple h';rw [e] at e';cases e';rw [d] at d'
 injection d' with d1 _
 have:its=its':=by simpa using congrArg Array.toList d1
 subst this;exact r.inj r'
end
abbrev Cx.wish(X:Cx)(E:Value->Shared->Prop):Cx:={ X with xe:=E }
abbrev Cx.nox(X:Cx):Cx:=X.wish fun _ _=>False
theorem Cx.Ok.wish{X:Cx}(ok:X.Ok)(E:Value->Shared->Prop):(X.wish E).Ok :=
 ⟨ok.mod,ok.kind,ok.glob,ok.blt,ok.above,ok.inj,ok.has,ok.cab,ok.hd,ok.frames,ok.stk,ok.exf,ok.bs,ok.bsz,ok.noex,ok.exfs,ok.funs,ok.frf⟩
theorem Cx.Ok.unwish{X:Cx}{E:Value->Shared->Prop}(ok:(X.wish E).Ok):X.Ok :=
 ⟨ok.mod,ok.kind,ok.glob,ok.blt,ok.above,ok.inj,ok.has,ok.cab,ok.hd,ok.frames,ok.stk,ok.exf,ok.bs,ok.bsz,ok.noex,ok.exfs,ok.funs,ok.frf⟩
section
variable{X:Cx}{pins:List (Addr×Obj)}{σ:St}{H:Hp}{s:Shared}{E:Value->Shared->Prop}
theorem Inv.wish(I:Inv X pins σ H s)(E:Value->Shared->Prop):Inv (X.wish E) pins σ H s:=⟨I.ok.wish E,I.os,I.bare,I.base,I.loc,I.cell,I.free,I.freeC,I.pin,I.hok,I.len⟩
theorem Inv.unwish(I:Inv (X.wish E) pins σ H s):Inv X pins σ H s:=⟨I.ok.unwish,I.os,I.bare,I.base,I.loc,I.cell,I.free,I.freeC,I.pin,I.hok,I.len⟩
theorem SP.unwish{D:mW}{f:Flow}{s':Shared}(h:SP (X.wish E) pins D f s'):SP X pins D f s':=by
 cases f with
 | next=>obtain ⟨σ',H',I,q⟩:=h;exact ⟨σ',H',I.unwish,q⟩
 | brk=>obtain ⟨σ',H',I,q⟩:=h;exact ⟨σ',H',I.unwish,q⟩
 | cont=>obtain ⟨σ',H',I,q⟩:=h;exact ⟨σ',H',I.unwish,q⟩
 | ret u=>obtain ⟨v,σ',H',I,r,q⟩:=h;exact ⟨v,σ',H',I.unwish,r,q⟩
end
section
variable{X:Cx}{st:Stmt}{cw:List Stmt}{t u:TS}{e:Expr}{te:TE}{pos:Pos}
noncomputable def BL:TS:=fun D σ H=>D.nx σ H
noncomputable def fg(t u:TS):TS:=fun D σ H=>t { D with nx:=u D } σ H
theorem o7:PSs X [] BL:=fun _ _ σ H _ I h=>EM ⟨σ,H,I,h⟩
theorem bc(h1:PS X st t)(h2:PSs X cw u):PSs X (st::cw) (fg t u):=by
 intro pins s σ H D I h;refine wpAny_execs_cons (thn (h1 pins s σ H { D with nx:=u D } I h) fun f s1 q=> ?_)
 cases f with
 | next =>
  obtain ⟨σ',H',I',q⟩:=q;exact h2 pins s1 σ' H' D I' q
 | ret v=>exact q
 | brk=>exact q
 | cont=>exact q
theorem iq(h1:PS X st t):PSs X [st] t:=by
 intro pins s σ H D I h;refine wpAny_execs_cons (thn (h1 pins s σ H D I h) fun f s1 q=> ?_)
 cases f with
 | next=>exact EM q
 | ret v=>exact q
 | brk=>exact q
 | cont=>exact q
theorem Inv.quiet{pins:List (Addr×Obj)}{σ:St}{H:Hp}{s:Shared}(I:Inv X pins σ H s):interactive X.env=false:=by simp [interactive,I.ok.kind]
noncomputable def tDrop(te:TE):TS:=fun D σ H=>te σ H fun _ H1=>D.nx σ H1
theorem uv(he:PE X e te)(hs:swapsWith e none pos.line X.env=pure false:=by rfl):PS X (.Expr e pos) (tDrop te):=by
 intro pins s σ H D I h;exact wpAny_Expr_any (thn (he pins s σ H _ I h) fun v s1 ⟨x,H1,I1,r1,q1⟩=>⟨σ,H1,I1,q1⟩) I.quiet hs
noncomputable def tRet(te:TE):TS:=fun D σ H=>te σ H D.rt
theorem lX(he:PE X e te):PS X (.Return (some e) pos) (tRet te):=by
 intro pins s σ H D I h;exact wpAny_Return_some (thn (he pins s σ H _ I h) fun v s1 ⟨x,H1,I1,r1,q1⟩=>⟨x,σ,H1,I1,r1,q1⟩)
noncomputable def zR(c:TT)(t u:TS):TS:=fun D σ H=>c σ H fun b H1=>if b=true then t D σ H1 else u D σ H1
theorem uu{c:Expr}{a b:List Stmt}{tc:TT}(hc:PT X c tc)(ha:PSs X a t)(hb:PSs X b u):PS X (.If c a b pos) (zR tc t u):=by
 intro pins s σ H D I h;refine wpAny_If (thn (hc pins s σ H _ I h) fun d s1 ⟨H1,I1,q1⟩=> ?_)
 cases d with
 | true=>exact ha pins s1 σ H1 D I1 q1
 | false=>exact hb pins s1 σ H1 D I1 q1
end
abbrev TG:=V->St->Hp->(St->Hp->Prop)->Prop
abbrev TGs:=List V->St->Hp->(St->Hp->Prop)->Prop
noncomputable def PG(X:Cx)(target:Expr)(t:TG):Prop :=
 ∀ (pins:List (Addr×Obj)) (s:Shared) (σ:St) (H:Hp) (v:V) (u:Value) (Q:St->Hp->Prop),Inv X pins σ H s->aB v u->t v σ H Q ->
  wpAny (model X.prog X.w) X.A (assign target X.env u) (fun _ s'=>∃ σ' H',Inv X pins σ' H' s'/\Q σ' H') X.xe s
noncomputable def PGs(X:Cx)(ts:List Expr)(t:TGs):Prop :=
 ∀ (pins:List (Addr×Obj)) (s:Shared) (σ:St) (H:Hp) (vs:List V) (us:List Value) (Q:St->Hp->Prop),Inv X pins σ H s->aw vs us->t vs σ H Q ->
  wpAny (model X.prog X.w) X.A (assignInOrder ((assignEach ts X.env).map (·.2)) us) (fun _ s'=>∃ σ' H',Inv X pins σ' H' s'/\Q σ' H') X.xe s
abbrev TSet:=V->V->V->Hp->(Hp->Prop)->Prop
noncomputable def PSet(X:Cx)(t:TSet):Prop :=
 ∀ (pins:List (Addr×Obj)) (s:Shared) (σ:St) (H:Hp) (o i v:V) (ov iv u:Value) (Q:Hp->Prop),Inv X pins σ H s->aB o ov->aB i iv->aB v u->t o i v H Q ->
  wpAny (model X.prog X.w) X.A (setItem ov iv u) (fun _ s'=>∃ H',Inv X pins σ H' s'/\Q H') X.xe s
section
variable{X:Cx}{pos:Pos}
noncomputable def dD(i:Nat):TG:=fun v σ H Q=>Q (σ.set i (some v)) H
theorem AD{i:Nat}{x:Str}(hN:X.N.Nodup)(hi:X.N[i]?=some x)(hx:Loc X.env.scope x)(hf:X.fn x=true\/X.env.scope.names.lookup x=some .local:=by first | exact .inl rfl | exact .inr rfl | assumption):PG X (.Name x pos) (dD i):=by
 intro pins s σ H v u Q I r h;exact wpAny_assign_Name (js I hN hi hx r (fun s' I'=>⟨_,H,I',h⟩) hf)
noncomputable def gNil:TGs:=fun vs σ H Q=>vs=[]/\Q σ H
noncomputable def B8(t:TG)(u:TGs):TGs:=fun vs σ H Q=>∃ v r,vs=v::r/\t v σ H fun σ' H'=>u r σ' H' Q
theorem AC:PGs X [] gNil:=by
 intro pins s σ H vs us Q I r h;obtain ⟨e,h⟩:=h;subst e;cases r;exact assignInOrder_nil ⟨σ,H,I,h⟩
theorem xw{e:Expr}{es:List Expr}{t:TG}{u:TGs}(h1:PG X e t)(h2:PGs X es u)
 (hs:(assignEach (e::es) X.env).map (·.2)=assign e X.env::(assignEach es X.env).map (·.2):=by rfl):PGs X (e::es) (B8 t u):=by
 intro pins s σ H vs us Q I r h;obtain ⟨v,vr,e1,h⟩:=h;subst e1
 cases r with
 | cons r rr =>
  rw [hs];refine assignInOrder_cons (thn (h1 pins s σ H _ _ _ I r h) fun _ s1 ⟨σ1,H1,I1,q1⟩=> ?_);exact h2 pins s1 σ1 H1 _ _ Q I1 rr q1
noncomputable def gTup(K:E2)(n:Nat)(t:TGs):TG:=fun v σ H Q=>∃ a xs,v = .ref a/\SqT K H a xs/\xs.length=n/\t xs σ H Q
theorem pg_tup{es:List Expr}{k:Nat}{t:TGs}{n:Nat}(hc:X.calm=true)(h:PGs X es t)
 (hn:(assignEach es X.env).length=n:=by rfl) (hst:(assignEach es X.env).findIdx? (·.1)=none:=by rfl):PG X (.Tuple es k pos) (gTup X.K n t):=by
 intro pins s σ H v u Q I r hw;obtain ⟨a,xs,e1,hq,hl,hw⟩:=hw;subst e1;cases r;obtain ⟨its,rv,ht,hz⟩:=I.tuple hq
 refine assign_Tuple_tuple (I.ok.hd hc) ht (by simp [hn,<- hl,rv.length]) hst fun h' hx=> ?_
 have I1:Inv X pins σ H { s with heap:=h' }:=I.kept (t':=s.toks) fun b o e=>hx b o (CJ (Cu e)) e
 exact h pins _ σ H xs _ Q I1 (by simpa using rv) hw
noncomputable def qV(to ti:TE)(t:TSet):TG:=fun v σ H Q=>to σ H fun o H1=>ti σ H1 fun i H2=>t o i v H2 fun H3=>Q σ H3
theorem o8{o i:Expr}{to ti:TE}{t:TSet}(ho:PE X o to)(hi:PE X i ti)(hs:PSet X t)
 (ha:∀ v,assign (.Subscript o i pos) X.env v=(do
   let ov <- holding [v] (eval o X.env)
   let iv <- holding [v,ov] (eval i X.env)
   standAt pos
   holding [v,ov,iv] (setItem ov iv v)
   release [v,ov,iv] []):=by intro _;rfl):PG X (.Subscript o i pos) (qV to ti t):=by
 intro pins s σ H v u Q I r h;rw [ha];refine Cg (DC (thn (ho pins s σ H _ I h) fun ov s1 ⟨x,H1,I1,r1,q1⟩=> ?_));refine Cg (DC (thn (hi pins s1 σ H1 _ I1 q1) fun iv s2 ⟨y,H2,I2,r2,q2⟩=> ?_));refine Cg (wpAny_standAt (Cg (DC (thn (hs pins s2 σ H2 x y v ov iv u _ I2 r1 r2 r q2) fun _ s3 ⟨H3,I3,q3⟩=> ?_))));exact wpAny_release ⟨σ,H3,I3,q3⟩
noncomputable def dQ(te:TE)(g:TG):TS:=fun D σ H=>te σ H fun x H1=>g x σ H1 D.nx
theorem lY{tg e:Expr}{te:TE}{g:TG}(he:PE X e te)(hg:PG X tg g)(hs:swapsWithSole [tg] e pos.line X.env=pure false:=by rfl)(hw:swappedStores [tg] e X.env=pure none:=by rfl)
 (h1:(assignEach [tg] X.env).map (·.2)=[assign tg X.env]:=by rfl):PS X (.Assign [tg] e pos) (dQ te g):=by
 intro pins s σ H D I h;refine wpAny_Assign_stores (thn (he pins s σ H _ I h) fun v s1 ⟨x,H1,I1,r1,q1⟩=> ?_) hs hw;rw [h1]
 exact thn (hg pins s1 σ H1 x v _ I1 r1 q1) fun _ s2 q=>q
theorem dL{i:Nat}{x:Str}{e:Expr}{te:TE}{pos':Pos}(hN:X.N.Nodup)(hi:X.N[i]?=some x)(hx:Loc X.env.scope x)(he:PE X e te)(hs:swapsWith e (some (.Name x pos')) pos.line X.env=pure false:=by rfl)(hf:X.fn x=true\/X.env.scope.names.lookup x=some .local:=by first | exact .inl rfl | exact .inr rfl | assumption) :
 PS X (.Assign [.Name x pos'] e pos) (dQ te (dD i)):=by
 intro pins s σ H D I h;refine wpAny_Assign_Name (thn (he pins s σ H _ I h) fun v s1 ⟨y,H1,I1,r1,q1⟩=> ?_) hs;exact js I1 hN hi hx r1 (fun s2 I2=>⟨_,H1,I2,q1⟩) hf
end
section
variable{X:Cx}{pos:Pos}
noncomputable def tWhile(c:TT)(tb:TS):TS:=fun D σ H=>∃ W:Nat->St->Hp->Prop,(∃ m,W m σ H)/\∀ m σ H,W m σ H ->
 c σ H fun b H1=>if b=true then ∃ N:St->Hp->Prop,(∀ σ' H',N σ' H'->∃ m',m' < m/\W m' σ' H')/\tb { D with nx:=N,ct:=N,bk:=D.nx } σ H1 else D.nx σ H1
theorem xn{c:Expr}{body:List Stmt}{tc:TT}{tb:TS}(hp:PassesOwn (model X.prog X.w) X.A X.env X.xe)(hc:PT X c tc)(hb:PSs X body tb):PS X (.While c body [] pos) (tWhile tc tb):=by
 intro pins s σ H D I h;obtain ⟨W,⟨m0,w0⟩,turn⟩:=h;refine wpAny_While (codeAny_whileLoop (fun n s'=>∃ σ' H',Inv X pins σ' H' s'/\W n σ' H') ?_ m0 ⟨σ,H,I,w0⟩);rintro n s1 ⟨σ1,H1,I1,w1⟩;refine Ee hp (thn (hc pins s1 σ1 H1 _ I1 (turn n σ1 H1 w1)) fun b s2 ⟨H2,I2,q2⟩=> ?_)
 cases b with
 | true =>
  obtain ⟨N,hN,q2⟩:=q2;rw [if_pos rfl];refine Ee hp (thn (hb pins s2 σ1 H2 _ I2 q2) fun f s3 q3=> ?_)
  cases f with
  | next =>
   obtain ⟨σ3,H3,I3,n3⟩:=q3;obtain ⟨m',hm,w3⟩:=hN σ3 H3 n3;exact ⟨m',hm,σ3,H3,I3,w3⟩
  | cont =>
   obtain ⟨σ3,H3,I3,n3⟩:=q3;obtain ⟨m',hm,w3⟩:=hN σ3 H3 n3;exact ⟨m',hm,σ3,H3,I3,w3⟩
  | brk=>exact q3
  | ret v=>exact q3
 | false =>
  rw [if_neg Cq];exact EM ⟨σ1,H2,I2,q2⟩
end
structure It where
 go:Nat->Hp->Prop
 yld:Nat->Hp->V->Hp->Prop
 stop:Nat->Hp->Prop
noncomputable def rT(X:Cx)(pins:List (Addr×Obj))(H:Hp)(b:Addr):Prop :=
 H b=none/\b≠X.env.locals/\b∉X.fs/\(b∈X.ex\/X.s₀.heap.objs.size<=b)/\(∀ x c,X.env.cells.lookup x=some c->c≠b)/\∀ p∈X.pn++pins,p.1≠b
theorem Inv.fpOk{X:Cx}{pins:List (Addr×Obj)}{σ:St}{H H':Hp}{s:Shared}{b:Addr}(I:Inv X pins σ H s)(hb:s.heap.objs.size<=b)(hn:H' b=none):rT X pins H' b:=by
 refine ⟨hn,DW (CO I.lt hb),I.nofs hb,.inr (DD I.sz hb),fun x c e z=> ?_,fun p hp z=> ?_⟩
 ·obtain ⟨v,q⟩:=I.cell x c e
  exact absurd (CO q.lt (by rw [z];exact hb)) (Ew _)
 ·exact absurd (CO (Cu (I.pin p hp).1) (by rw [z];exact hb)) (Ew _)
structure wu(P:Program)(w:World)(K:E2)(tg:Expr)(J:It)(fp:List Addr)(it:Addr)(tn:Nat->Heap->Prop):Prop where
 mem:it∈fp
 obj:∀ i h,tn i h->∀ b∈fp,∃ o,h.get? b=some o/\∀ v,o.data ≠ .cell v
 keep:∀ i h h',tn i h->(∀ b∈fp,∀ o,h.get? b=some o->h'.get? b=some o)->tn i h'
 item:∀ (X:Cx),X.prog=P->X.w=w->X.K=K->X.calm=true->∀ (i:Nat) (pins:List (Addr×Obj)) (s:Shared) (σ:St) (H:Hp) (E:Value->Shared->Prop),Inv X pins σ H s->(∀ b∈fp,rT X pins H b)->tn i s.heap->J.go i H ->
  wpAny (model P w) X.A (pyNext (.ref it)) (fun r s1=>∃ u,r=some u /\
   wpAny (model P w) X.A (letOwnedTupleGo tg (.ref it) u) (fun _ s2=>∃ x H',Inv X pins σ H' s2/\aB x u/\J.yld i H x H'/\tn (i+1) s2.heap/\∀ b∈fp,H' b=none) E s1) E s
 done:∀ (X:Cx),X.prog=P->X.w=w->X.K=K->X.calm=true->∀ (i:Nat) (pins:List (Addr×Obj)) (s:Shared) (σ:St) (H:Hp) (E:Value->Shared->Prop),Inv X pins σ H s->(∀ b∈fp,rT X pins H b)->tn i s.heap->J.stop i H ->
  wpAny (model P w) X.A (pyNext (.ref it)) (fun r s1=>r=none/\Inv X pins σ H s1) E s
 self:∀ (A:Around) (i:Nat) (s:Shared) (Q:Value->Shared->Prop) (E:Value->Shared->Prop),tn i s.heap->Q (.ref it) s->wpAny (model P w) A (pyIter (.ref it)) Q E s
abbrev TI:=St->Hp->(It->Hp->Prop)->Prop
noncomputable def PIE(X:Cx)(pins:List (Addr×Obj))(σ:St)(tg:Expr)(R:It->Hp->Prop)(itv:Value)(s2:Shared):Prop :=
 ∃ (it:Addr) (fp:List Addr) (tn:Nat->Heap->Prop) (J:It) (H':Hp),itv = .ref it/\Inv X pins σ H' s2/\wu X.prog X.w X.K tg J fp it tn/\tn 0 s2.heap/\(∀ b∈fp,rT X pins H' b)/\R J H'
noncomputable def PI(X:Cx)(tg iter:Expr)(wi:TI):Prop :=
 ∀ (pins:List (Addr×Obj)) (s:Shared) (σ:St) (H:Hp) (R:It->Hp->Prop),Inv X pins σ H s->wi σ H R ->
  wpAny (model X.prog X.w) X.A (eval iter X.env) (fun v s1=>wpAny (model X.prog X.w) X.A (pyIter v) (PIE X pins σ tg R) X.xe s1) X.xe s
theorem yq{M:Model}{A:Around}{E:Value->Shared->Prop}{s:Shared}{tg:Expr}{it:Addr}{u:Value}{o:Obj}{n:String}{vs:Array Value}{Q:Unit->Shared->Prop}(ho:s.heap.get? it=some o)(hc:o.cls = .type n)(hd:o.data = .fields vs)
 (hn:["enumerate", "zip", "dict_itemiterator", "dict_reverseitemiterator", "odict_iterator", "itertools.zip_longest", "itertools.pairwise"].contains n=false) (hQ:Q () s):wpAny M A (letOwnedTupleGo tg (.ref it) u) Q E s:=by
 unfold letOwnedTupleGo
 cases tg<;>first
  | exact wpAny_pure hQ
  | (cases u<;>first
      | exact wpAny_pure hQ
      | (refine Cg (wpAny_load ho ?_)
         rw [hc,hd]
         show wpAny M A (if (["enumerate", "zip", "dict_itemiterator", "dict_reverseitemiterator", "odict_iterator", "itertools.zip_longest", "itertools.pairwise"].contains n&&vs[0]? == some (rawInt _))=true then _ else _) Q E s
         rw [if_neg (by intro h;rw [hn,El] at h;cases h)]
         exact wpAny_pure hQ))
noncomputable def Itl(K:E2)(a:Addr):It :=
 ⟨fun i H=>∃ xs x,SqL K H a xs/\xs[i]?=some x,fun i H x H'=>H'=H/\∀ xs,SqL K H a xs->xs[i]?=some x,fun i H=>∃ xs,SqL K H a xs/\xs.length<=i⟩
noncomputable def Itt(K:E2)(a:Addr):It :=
 ⟨fun i H=>∃ xs x,SqT K H a xs/\xs[i]?=some x,fun i H x H'=>H'=H/\∀ xs,SqT K H a xs->xs[i]?=some x,fun i H=>∃ xs,SqT K H a xs/\xs.length<=i⟩
noncomputable def Itr(lo:Int)(n:Nat):It:=⟨fun i _=>i < n,fun i H x H'=>H'=H/\x = .int (lo+i),fun i _=>n<=i⟩
theorem u6{P:Program}{w:World}{K:E2}{tg:Expr}(a it:Addr):wu P w K tg (Itl K a) [it] it (fun i h=>h.IsListIter it a i) where
 mem:=by simp
 obj:=fun i h st b hb=>by
  have e:b=it:=by simpa using hb
  subst e;obtain ⟨o,e,c,d⟩:=st;exact ⟨o,e,fun v z=>by rw [d] at z;cases z⟩
 keep:=fun i h h' st k=>st.at fun o e=>k it (by simp) o e
 item:=by
  intro X hP hw hK hc i pins s σ H E I hf st hg;subst hP hw hK;obtain ⟨xs,x,hq,hx⟩:=hg;obtain ⟨its,rv,p,hz⟩:=I.list hq;obtain ⟨u,hu,ru⟩:=rv.get hx;obtain ⟨f0,f1,f2,f3,f4,f5⟩:=hf it (by simp)
  refine wpAny_pyNext_list_item st p.isList (x:=u) (by simpa using hu) fun h' st' sb=> ?_
  have I1:Inv X pins σ H { s with heap:=h' }:=I.turned (t':=s.toks) (fun b o hb e=>(sb.2 b hb).trans e) f0 f1 f3 f4 f5;obtain ⟨o,e,c,d⟩:=id st';exact ⟨u,rfl,yq (s:={ s with heap:=h' }) e c d (by decide) ⟨x,H,I1,ru,⟨rfl,fun ys hy=>by rw [I.list_inj hy hq];exact hx⟩,st',fun b hb=>(hf b hb).1⟩⟩
 done:=by
  intro X hP hw hK hc i pins s σ H E I hf st hg;subst hP hw hK;obtain ⟨xs,hq,hx⟩:=hg;obtain ⟨its,rv,p,hz⟩:=I.list hq;obtain ⟨f0,f1,f2,f3,f4,f5⟩:=hf it (by simp);have hl:=rv.length
  exact wpAny_pyNext_list_end (I.ok.hd hc) st p.isList (by simp;omega) fun h' eb=>⟨rfl,I.turned (t':=s.toks) (fun b o hb e=>eb b o hb e) f0 f1 f3 f4 f5⟩
 self:=fun _ _ _ _ _ st h=>wpAny_pyIter_listiter st h
theorem rX{P:Program}{w:World}{K:E2}{tg:Expr}(a it:Addr):wu P w K tg (Itt K a) [it] it (fun i h=>h.IsTupleIter it a i) where
 mem:=by simp
 obj:=fun i h st b hb=>by
  have e:b=it:=by simpa using hb
  subst e;obtain ⟨o,e,c,d⟩:=st;exact ⟨o,e,fun v z=>by rw [d] at z;cases z⟩
 keep:=fun i h h' st k=>st.at fun o e=>k it (by simp) o e
 item:=by
  intro X hP hw hK hc i pins s σ H E I hf st hg;subst hP hw hK;obtain ⟨xs,x,hq,hx⟩:=hg;obtain ⟨its,rv,p,hz⟩:=I.tuple hq;obtain ⟨u,hu,ru⟩:=rv.get hx;obtain ⟨f0,f1,f2,f3,f4,f5⟩:=hf it (by simp)
  refine wpAny_pyNext_tuple_item st (show s.heap.IsTuple a its.toArray from p) (x:=u) (by simpa using hu) fun h' st' sb=> ?_
  have I1:Inv X pins σ H { s with heap:=h' }:=I.turned (t':=s.toks) (fun b o hb e=>(sb.2 b hb).trans e) f0 f1 f3 f4 f5;obtain ⟨o,e,c,d⟩:=id st';exact ⟨u,rfl,yq (s:={ s with heap:=h' }) e c d (by decide) ⟨x,H,I1,ru,⟨rfl,fun ys hy=>by rw [I.tuple_inj hy hq];exact hx⟩,st',fun b hb=>(hf b hb).1⟩⟩
 done:=by
  intro X hP hw hK hc i pins s σ H E I hf st hg;subst hP hw hK;obtain ⟨xs,hq,hx⟩:=hg;obtain ⟨its,rv,p,hz⟩:=I.tuple hq;obtain ⟨f0,f1,f2,f3,f4,f5⟩:=hf it (by simp);have hl:=rv.length
  exact wpAny_pyNext_tuple_end (I.ok.hd hc) st (show s.heap.IsTuple a its.toArray from p) (by simp;omega) fun h' eb=>⟨rfl,I.turned (t':=s.toks) (fun b o hb e=>eb b o hb e) f0 f1 f3 f4 f5⟩
 self:=fun _ _ _ _ _ st h=>wpAny_pyIter_tupleiter st h
theorem rY{P:Program}{w:World}{K:E2}{tg:Expr}(it:Addr)(lo:Int)(n:Nat):wu P w K tg (Itr lo n) [it] it (fun i h=>IsRangeIter h it (lo+(i:Nat) * 1) ((n:Int) - (i:Nat)) 1) where
 mem:=by simp
 obj:=fun i h st b hb=>by
  have e:b=it:=by simpa using hb
  subst e
  exact ⟨_,st,fun v z=>by
   have z':Data.fields _=Data.cell v:=z
   cases z'⟩
 keep:=fun i h h' st k=>k it (by simp) _ st
 item:=by
  intro X hP hw hK hc i pins s σ H E I hf st hg;subst hP hw hK;obtain ⟨f0,f1,f2,f3,f4,f5⟩:=hf it (by simp);have W:=Walks.range (prog:=X.prog) (w:=X.w) (I.ok.hd hc) it lo 1 n
  refine W.item i s _ _ hg st fun v h' tk hv st' kk=> ?_
  obtain ⟨t,rfl⟩:=hv;have I1:Inv X pins σ H { s with heap:=h',toks:=tk }:=I.turned (fun b o hb e=>kk b o (by simpa using hb) e) f0 f1 f3 f4 f5;refine ⟨_,rfl,yq (s:={ s with heap:=h',toks:=tk }) (n := "range_iterator") st' rfl rfl (by decide) ⟨.int (lo+i),H,I1,⟨t,?_⟩,⟨rfl,rfl⟩,st',fun b hb=>(hf b hb).1⟩⟩;rw [Int.mul_one]
 done:=by
  intro X hP hw hK hc i pins s σ H E I hf st hg;subst hP hw hK;obtain ⟨f0,f1,f2,f3,f4,f5⟩:=hf it (by simp)
  exact wpAny_pyNext_range_end (I.ok.hd hc) st (by have:n<=i:=hg;omega) fun h' eb=>⟨rfl,I.turned (t':=s.toks) (fun b o hb e=>eb b o hb e) f0 f1 f3 f4 f5⟩
 self:=fun _ _ _ _ _ st h=>wpAny_pyIter_rangeiter st h
section
variable{X:Cx}{tg:Expr}
theorem qt{pins:List (Addr×Obj)}{σ:St}{H:Hp}{s:Shared}{R:It->Hp->Prop}{E:Value->Shared->Prop}{lo hi:Int}{t u v:Tok}{tk:Nat}(I:Inv X pins σ H s)(h1 : -(2 ^ 62)<=lo)(h2:lo < 2 ^ 62)(h3 : -(2 ^ 62)<=hi)(h4:hi < 2 ^ 62)
 (q:R (Itr lo (hi - lo).toNat) H):wpAny (model X.prog X.w) X.A (pyIter (.ref s.heap.objs.size)) (PIE X pins σ tg R) E { s with heap:=s.heap.push { cls:= .type "range",data:= .fields #[.int lo t,.int hi u,.int 1 v] },toks:=tk }:=by
 refine wpAny_pyIter_range (IsRange.new ..) (small_one h1 h2 h3 h4) ?_
 have I1:Inv X pins σ H { s with heap:=s.heap.push { cls:= .type "range",data:= .fields #[.int lo t,.int hi u,.int 1 v] },toks:=tk }:=I.kept fun b o e=>Cj _ e
 refine ⟨(s.heap.push { cls:= .type "range",data:= .fields #[.int lo t,.int hi u,.int 1 v] }).objs.size,[(s.heap.push { cls:= .type "range",data:= .fields #[.int lo t,.int hi u,.int 1 v] }).objs.size],_,_,H,rfl,
  I1.kept (t':=tk) fun b o e=>Cj _ e,rY _ lo (hi - lo).toNat,?_,fun b hb=> ?_,q⟩
 ·have e1:lo+((0:Nat):Int) * 1=lo:=by simp
  have e2:(((hi - lo).toNat:Nat):Int) - ((0:Nat):Int)=Builtin.Range.rangeSize lo hi 1:=by rw [rangeSize_one];split<;>omega
  show IsRangeIter _ _ (lo+((0:Nat):Int) * 1) ((((hi - lo).toNat:Nat):Int) - ((0:Nat):Int)) 1
  rw [e1,e2];exact Ct _ rfl
 ·have e:b=(s.heap.push { cls:= .type "range",data:= .fields #[.int lo t,.int hi u,.int 1 v] }).objs.size:=by simpa using hb
  subst e;exact I1.fpOk (Cw _) (I1.hok.fresh (Cw _))
noncomputable def iRng1(ta:TA):TI:=fun σ H R=>ta σ H fun vs H1=>∃ j:Int,vs=[.int j] /\ -(2 ^ 62)<=j/\j < 2 ^ 62/\R (Itr 0 j.toNat) H1
noncomputable def iRng2(ta:TA):TI:=fun σ H R=>ta σ H fun vs H1=>∃ i j:Int,vs=[.int i,.int j]/\(-(2 ^ 62)<=i/\i < 2 ^ 62 /\ -(2 ^ 62)<=j/\j < 2 ^ 62)/\R (Itr i (j - i).toNat) H1
theorem vo{a:Expr}{ta:TA}{p pos:Pos}(hg:Gl X "range")(hm:X.mg "range" = none)(ha:PA X [a] ta)(hs:starEach [a] X.env=[(false,eval a X.env)]:=by rfl):PI X tg (.Call (.Name "range" p) [a] [] pos) (iRng1 ta):=by
 intro pins s σ H R I h;refine Call_ (jf I hg hm boot_range (PyProof.Rows.callWith_type1 (thn (ha pos pins s σ H _ I h) fun us s1 ⟨vs,H1,I1,r1,q1⟩=> ?_) hs rfl));obtain ⟨j,e,q1,q2,q⟩:=q1;subst e
 cases r1 with
 | cons r rr =>
  cases rr;obtain ⟨t,rfl⟩:=r;exact call_range_1 (qt I1 (by omega) (by omega) q1 q2 (by simpa using q))
theorem vn{a b:Expr}{ta:TA}{p pos:Pos}(hg:Gl X "range")(hm:X.mg "range" = none)(ha:PA X [a,b] ta)(hs:starEach [a,b] X.env=[(false,eval a X.env),(false,eval b X.env)]:=by rfl)(hs2:starEach [b] X.env=[(false,eval b X.env)]:=by rfl) :
 PI X tg (.Call (.Name "range" p) [a,b] [] pos) (iRng2 ta):=by
 intro pins s σ H R I h;refine Call_ (jf I hg hm boot_range (PyProof.Rows.callWith_type1 (thn (ha pos pins s σ H _ I h) fun us s1 ⟨vs,H1,I1,r1,q1⟩=> ?_) (by rw [hs,hs2]) (by rw [hs2];rfl)));obtain ⟨i,j,e,⟨q1,q2,q3,q4⟩,q⟩:=q1;subst e
 cases r1 with
 | cons r rr =>
  cases rr with
  | cons r' rr =>
   cases rr;obtain ⟨t,rfl⟩:=r;obtain ⟨t',rfl⟩:=r';exact call_range_2 (qt I1 q1 q2 q3 q4 q)
noncomputable def tFor(wi:TI)(g:TG)(tb:TS):TS:=fun D σ H=>wi σ H fun J H1=>∃ W:Nat->Nat->St->Hp->Prop,(∃ m,W 0 m σ H1)/\∀ i m σ H,W i m σ H ->
 (J.stop i H/\D.nx σ H)\/(J.go i H/\∃ N:St->Hp->Prop,(∀ σ' H',N σ' H'->∃ m',m' < m/\W (i+1) m' σ' H')/\∀ x H',J.yld i H x H'->g x σ H' fun σ2 H2=>tb { D with nx:=N,ct:=N,bk:=D.nx } σ2 H2)
noncomputable def l0(fp:List Addr)(h:Heap):List (Addr×Obj):=fp.filterMap fun b=>(h.get? b).map fun o=>(b,o)
theorem fF{fp:List Addr}{h:Heap}{b:Addr}{o:Obj}(hb:b∈fp)(e:h.get? b=some o):(b,o)∈l0 fp h:=EV.mpr ⟨b,hb,by rw [e];rfl⟩
theorem vx{fp:List Addr}{h:Heap}{p:Addr×Obj}(hp:p∈l0 fp h):p.1∈fp/\h.get? p.1=some p.2:=by
 obtain ⟨b,hb,e⟩:=EV.mp hp
 cases q:h.get? b with
 | none=>rw [q] at e;cases e
 | some o =>
  rw [q] at e;have e':(b,o)=p:=Option.some.inj e;subst e';exact ⟨hb,q⟩
theorem Inv.pinned{pins:List (Addr×Obj)}{σ:St}{H:Hp}{s:Shared}{fp:List Addr}(I:Inv X pins σ H s)(hf:∀ b∈fp,rT X pins H b)(ho:∀ b∈fp,∃ o,s.heap.get? b=some o/\∀ v,o.data ≠ .cell v):Inv X (pins++l0 fp s.heap) σ H s :=
 I.pins_of fun p hp=>(CI.mp hp).elim (fun z=>I.pin p (Co _ z)) fun z=>by
  obtain ⟨hb,e⟩:=vx z;obtain ⟨f0,f1,f2,_⟩:=hf p.1 hb;obtain ⟨o,e',d⟩:=ho p.1 hb;rw [e] at e';cases e';exact ⟨e,f0,f1,f2,d⟩
theorem Inv.unpinned{pins pl:List (Addr×Obj)}{σ:St}{H:Hp}{s:Shared}(I:Inv X (pins++pl) σ H s):Inv X pins σ H s:=I.pins_of fun p hp=>I.pin p (Co _ (Cp _ hp))
theorem ps_for{iter:Expr}{body:List Stmt}{wi:TI}{g:TG}{tb:TS}{pos:Pos}(hp:PassesOwn (model X.prog X.w) X.A X.env X.xe)(hc:X.calm=true)(hi:PI X tg iter wi)(hg:PG X tg g)(hb:PSs X body tb)
 (hs:∀ x,foldedSetIterable iter X.env x=pure x:=by intro _;rfl):PS X (.For tg iter body [] pos) (tFor wi g tb):=by
 intro pins s σ H D I h;refine wpAny_For (thn (hi pins s σ H _ I h) fun v s1 h1=>thn h1 fun itv s2 h2=> ?_) hs;obtain ⟨it,fp,tn,J,H2,e,I2,T,st2,f2,W,⟨m0,w0⟩,turn⟩:=h2;subst e
 have stat:∀ {H':Hp},(∀ b∈fp,H' b=none)->∀ b∈fp,rT X pins H' b:=fun hn b hb=>⟨hn b hb,(f2 b hb).2⟩
 refine codeAny_forLoop_any (fun n s'=>∃ i σ' H',Inv X pins σ' H' s'/\tn i s'.heap/\(∀ b∈fp,H' b=none)/\W i n σ' H') ?_ m0 ⟨0,σ,H2,I2,st2,fun b hb=>(f2 b hb).1,w0⟩;rintro n s3 ⟨i,σ3,H3,I3,st3,fr3,w3⟩
 rcases turn i n σ3 H3 w3 with ⟨stop,qn⟩ | ⟨go,N,hN,step⟩
 ·refine Ee hp (thn (T.done X rfl rfl rfl hc i pins s3 σ3 H3 X.xe I3 (stat fr3) st3 stop) fun r s4 ⟨hr,I4⟩=> ?_)
  subst hr;exact EM ⟨σ3,H3,I4,qn⟩
 ·refine Ee hp (thn (T.item X rfl rfl rfl hc i pins s3 σ3 H3 X.xe I3 (stat fr3) st3 go) fun r s4 ⟨u,hr,h4⟩=> ?_)
  subst hr;refine Ee hp (thn h4 fun _ s5 ⟨x,H5,I5,r5,y5,st5,fr5⟩=> ?_);have I5':=I5.pinned (stat fr5) (T.obj _ _ st5);refine Ee hp (thn (hg _ s5 σ3 H5 x u _ I5' r5 (step x H5 y5)) fun _ s6 ⟨σ6,H6,I6,q6⟩=> ?_);refine Ee hp (thn (hb _ s6 σ6 H6 _ I6 q6) fun f s7 q7=> ?_)
  have again:∀ {σ7:St} {H7:Hp},Inv X (pins++l0 fp s5.heap) σ7 H7 s7->N σ7 H7->∃ m,m < n/\∃ i σ' H',Inv X pins σ' H' s7/\tn i s7.heap/\(∀ b∈fp,H' b=none)/\W i m σ' H':=fun {σ7 H7} I7 n7=>by
   obtain ⟨m',hm,w7⟩:=hN σ7 H7 n7;refine ⟨m',hm,i+1,σ7,H7,I7.unpinned,T.keep _ _ _ st5 fun b hb o e=>(I7.pin (b,o) (Co _ (Co _ (fF hb e)))).1,fun b hb=> ?_,w7⟩;obtain ⟨o,e,d⟩:=T.obj _ _ st5 b hb;exact (I7.pin (b,o) (Co _ (Co _ (fF hb e)))).2.1
  cases f with
  | next=>obtain ⟨σ7,H7,I7,n7⟩:=q7;exact again I7 n7
  | cont=>obtain ⟨σ7,H7,I7,n7⟩:=q7;exact again I7 n7
  | brk=>obtain ⟨σ7,H7,I7,q7⟩:=q7;exact ⟨σ7,H7,I7.unpinned,q7⟩
  | ret v=>obtain ⟨x7,σ7,H7,I7,r7,q7⟩:=q7;exact ⟨x7,σ7,H7,I7.unpinned,r7,q7⟩
end
abbrev R2:=V->V->Hp->VK->Prop
noncomputable def OpR(X:Cx)(f:Value->Value->Sem Value)(r:R2):Prop :=
 ∀ (pins:List (Addr×Obj)) (s:Shared) (σ:St) (H:Hp) (x y:V) (v u:Value) (Q:VK),Inv X pins σ H s->aB x v->aB y u->r x y H Q ->
  wpAny (model X.prog X.w) X.A (f v u) (EP X pins σ Q) X.xe s
noncomputable def UnR(X:Cx)(f:Value->Sem Value)(r:V->Hp->VK->Prop):Prop :=
 ∀ (pins:List (Addr×Obj)) (s:Shared) (σ:St) (H:Hp) (x:V) (v:Value) (Q:VK),Inv X pins σ H s->aB x v->r x H Q ->
  wpAny (model X.prog X.w) X.A (f v) (EP X pins σ Q) X.xe s
noncomputable def aF(X:Cx)(f:Value)(r:List V->Hp->VK->Prop):Prop :=
 ∀ (pins:List (Addr×Obj)) (s:Shared) (σ:St) (H:Hp) (xs:List V) (us:List Value) (Q:VK),Inv X pins σ H s->aw xs us->r xs H Q ->
  wpAny (model X.prog X.w) X.A (call f us) (EP X pins σ Q) X.xe s
noncomputable def TruR(X:Cx)(r:V->Hp->(Bool->Hp->Prop)->Prop):Prop :=
 ∀ (pins:List (Addr×Obj)) (s:Shared) (σ:St) (H:Hp) (x:V) (v:Value) (Q:Bool->Hp->Prop),Inv X pins σ H s->aB x v->r x H Q ->
  wpAny (model X.prog X.w) X.A (truthy v) (TP X pins σ Q) X.xe s
noncomputable def tOp(r:R2)(ta tb:TE):TE:=fun σ H Q=>ta σ H fun x H1=>tb σ H1 fun y H2=>r x y H2 Q
noncomputable def tUn(r:V->Hp->VK->Prop)(ta:TE):TE:=fun σ H Q=>ta σ H fun x H1=>r x H1 Q
noncomputable def rI(C:Int->Int->Prop)(g:Int->Int->V):R2:=fun x y H Q=>∃ i j,x = .int i/\y = .int j/\C i j/\Q (g i j) H
noncomputable def rI0(g:Int->Int->V):R2:=fun x y H Q=>∃ i j,x = .int i/\y = .int j/\Q (g i j) H
noncomputable def rU(g:Int->V):V->Hp->VK->Prop:=fun x H Q=>∃ i,x = .int i/\Q (g i) H
section
variable{X:Cx}{a b c:Expr}{ta tb tc:TE}{pos:Pos}
theorem binT(ha:PE X a ta)(hb:PE X b tb){pins:List (Addr×Obj)}{s:Shared}{σ:St}{H:Hp}{R:V->V->Hp->Prop}(I:Inv X pins σ H s)
 (h:ta σ H fun x H1=>tb σ H1 fun y H2=>R x y H2) {Q:Value->Shared->Prop} {f:Value->Value->Sem Value}
 (hf:∀ v u s2 x y H2,Inv X pins σ H2 s2->aB x v->aB y u->R x y H2->wpAny (model X.prog X.w) X.A (f v u) Q X.xe s2) :
 wpAny (model X.prog X.w) X.A (eval a X.env) (fun v s₁=>wpAny (model X.prog X.w) X.A (eval b X.env) (fun u s₂=>wpAny (model X.prog X.w) X.A (f v u) Q X.xe s₂) X.xe s₁) X.xe s:=by
 refine thn (ha pins s σ H _ I h) fun v s1 ⟨x,H1,I1,r1,q1⟩=> ?_
 refine thn (hb pins s1 σ H1 _ I1 q1) fun u s2 ⟨y,H2,I2,r2,q2⟩=> ?_
 exact hf v u s2 x y H2 I2 r1 r2 q2
theorem qC{op:Operator}{r:R2}(ho:OpR X (binaryOp op) r)(ha:PE X a ta)(hb:PE X b tb):PE X (.BinOp a op b pos) (tOp r ta tb):=by
 intro pins s σ H Q I h;exact wpAny_BinOp (binT ha hb I h fun v u s2 x y H2 I2 rx ry q=>ho pins s2 σ H2 x y v u Q I2 rx ry q)
theorem BZ{op:UnaryOp}{r:V->Hp->VK->Prop}(ho:UnR X (unaryOp op) r)(ha:PE X a ta):PE X (.UnaryOp op a pos) (tUn r ta):=by
 intro pins s σ H Q I h;exact UnaryOp_ (thn (ha pins s σ H _ I h) fun v s1 ⟨x,H1,I1,r1,q1⟩=>ho pins s1 σ H1 x v Q I1 r1 q1)
theorem opI{f:Value->Value->Sem Value}{C:Int->Int->Prop}{g:Int->Int->Int}
 (rule:∀ (i j:Int) (t u:Tok) (s:Shared) (Q:Value->Shared->Prop) (E:Value->Shared->Prop),C i j->Q (.int (g i j) s.toks) { s with toks:=s.toks+1 }->wpAny (model X.prog X.w) X.A (f (.int i t) (.int j u)) Q E s) :
 OpR X f (rI C fun i j=> .int (g i j)):=by
 intro pins s σ H x y v u Q I rx ry h;obtain ⟨i,j,rfl,rfl,hc,q⟩:=h;obtain ⟨t,rfl⟩:=rx;obtain ⟨t',rfl⟩:=ry;exact rule i j t t' s _ _ hc ⟨.int (g i j),H,I.tok _,⟨_,rfl⟩,q⟩
theorem opI0{f:Value->Value->Sem Value}{g:Int->Int->Int}
 (rule:∀ (i j:Int) (t u:Tok) (s:Shared) (Q:Value->Shared->Prop) (E:Value->Shared->Prop),Q (.int (g i j) s.toks) { s with toks:=s.toks+1 }->wpAny (model X.prog X.w) X.A (f (.int i t) (.int j u)) Q E s) :
 OpR X f (rI0 fun i j=> .int (g i j)):=by
 intro pins s σ H x y v u Q I rx ry h;obtain ⟨i,j,rfl,rfl,q⟩:=h;obtain ⟨t,rfl⟩:=rx;obtain ⟨t',rfl⟩:=ry;exact rule i j t t' s _ _ ⟨.int (g i j),H,I.tok _,⟨_,rfl⟩,q⟩
theorem AV{f:Value->Value->Sem Value}{g:Int->Int->Bool}
 (rule:∀ (i j:Int) (t u:Tok) (s:Shared) (Q:Value->Shared->Prop) (E:Value->Shared->Prop),Q (.bool (g i j)) s->wpAny (model X.prog X.w) X.A (f (.int i t) (.int j u)) Q E s) :
 OpR X f (rI0 fun i j=> .bl (g i j)):=by
 intro pins s σ H x y v u Q I rx ry h;obtain ⟨i,j,rfl,rfl,q⟩:=h;obtain ⟨t,rfl⟩:=rx;obtain ⟨t',rfl⟩:=ry;exact rule i j t t' s _ _ ⟨.bl (g i j),H,I,rfl,q⟩
noncomputable def CDiv(i j:Int):Prop:=0 < j/\j < 1073741824
noncomputable def CPow(i j:Int):Prop:=0<=j/\j<=1000000/\i.natAbs < 2 ^ 64
noncomputable def zp(i j:Int):Prop:=(-(2 ^ 64) < i/\i < 2 ^ 64)\/(-(2 ^ 64) < j/\j < 2 ^ 64)
theorem zp.ok{i j:Int}(h:zp i j):IntMulOk i j:=by
 rcases h with ⟨h1,h2⟩ | ⟨h1,h2⟩
 ·exact .of_left (intBits_le_64 h1 h2)
 ·exact .of_right (intBits_le_64 h1 h2)
theorem sM:OpR X (binaryOp .Add) (rI0 fun i j=> .int (i+j)):=opI0 fun _ _ _ _ _ _ _ q=>add_int q
theorem op_sub:OpR X (binaryOp .Sub) (rI0 fun i j=> .int (i - j)):=opI0 fun _ _ _ _ _ _ _ q=>sub_int q
theorem op_mul:OpR X (binaryOp .Mult) (rI zp fun i j=> .int (i * j)):=opI fun _ _ _ _ _ _ _ hc q=>mul_int q hc.ok
theorem AR:OpR X (binaryOp .FloorDiv) (rI CDiv fun i j=> .int (i / j)):=opI fun i j _ _ _ _ _ hc q=>by
 have h1:(0:Int) < j:=hc.1;have h2:j < 1073741824:=hc.2;exact floordiv_int (by omega) (by rw [Int.fdiv_eq_ediv_of_nonneg i (by omega)];exact q) (.inl (PyProof.noPylong_small (by omega)))
theorem op_mod:OpR X (binaryOp .Mod) (rI (fun _ j=>0 < j) fun i j=> .int (i % j)):=opI fun i j _ _ _ _ _ hc q=>by
 have h1:(0:Int) < j:=hc;exact mod_int' (by omega) (by rw [Int.fmod_eq_emod_of_nonneg i (by omega)];exact q)
theorem xN:OpR X (binaryOp .Pow) (rI CPow fun i j=> .int (i ^ j.toNat)):=opI fun _ _ _ _ _ _ _ hc q=>pow_int_small hc.1 hc.2.1 hc.2.2 q
theorem unI{f:Value->Sem Value}{g:Int->Int}
 (rule:∀ (i:Int) (t:Tok) (s:Shared) (Q:Value->Shared->Prop) (E:Value->Shared->Prop),Q (.int (g i) s.toks) { s with toks:=s.toks+1 }->wpAny (model X.prog X.w) X.A (f (.int i t)) Q E s) :
 UnR X f (rU fun i=> .int (g i)):=by
 intro pins s σ H x v Q I rx h;obtain ⟨i,rfl,q⟩:=h;obtain ⟨t,rfl⟩:=rx;exact rule i t s _ _ ⟨.int (g i),H,I.tok _,⟨_,rfl⟩,q⟩
theorem wE:UnR X (unaryOp .USub) (rU fun i=> .int (-i)):=unI fun _ _ _ _ _ q=>neg_int q
end
noncomputable def scal:V->V->Bool
 | .non,.non=>true | .non,.int _=>true | .int _,.non=>true | .non,.bl _=>true | .bl _,.non=>true | .non,.str _=>true | .str _,.non=>true
 | .int _,.int _=>true | .bl _,.bl _=>true | .str _,.str _=>true | .byt _,.byt _=>true
 | .int _,.str _=>true | .str _,.int _=>true | .bl _,.str _=>true | .str _,.bl _=>true
 | _,_=>false
noncomputable def rEq:R2:=fun x y H Q=>scal x y=true/\Q (.bl (decide (x=y))) H
noncomputable def rNe:R2:=fun x y H Q=>scal x y=true/\Q (.bl (!decide (x=y))) H
theorem uR{i j:Int}:decide (V.int i=V.int j)=(i == j):=by
 rw [DV];simp
theorem yW{i j:Bool}:decide (V.bl i=V.bl j)=(i == j):=by
 rw [DV];simp
theorem uQ{i j:Str}:decide (V.str i=V.str j)=(i == j):=by
 rw [DV];simp
theorem uS{i j:Array UInt8}:decide (V.byt i=V.byt j)=(i.toList == j.toList):=by
 rw [DV];cases i;cases j;simp
section
variable{X:Cx}{a b c:Expr}{ta tb tc:TE}{pos:Pos}
theorem aS{pins:List (Addr×Obj)}{σ:St}{H:Hp}{s:Shared}{Q:VK}{k k':Bool}(I:Inv X pins σ H s)(q:Q (.bl k) H)(e:k=k'):EP X pins σ Q (.bool k') s:=by
 subst e;exact ⟨.bl k,H,I,rfl,q⟩
theorem B5:OpR X (compareOp .Eq) rEq:=by
 intro pins s σ H x y v u Q I rx ry h;obtain ⟨hs,q⟩:=h
 cases x with
 | non =>
  cases rx
  cases y with
  | non=>cases ry;exact PySem.EqNone.eq_none_none (aS I q (by simp))
  | bl j=>cases ry;exact PySem.EqNone.eq_none_bool (aS I q (by simp))
  | int j=>obtain ⟨t',rfl⟩:=ry;exact PySem.EqNone.eq_none_int (aS I q (by simp))
  | str j=>obtain ⟨t',rfl⟩:=ry;exact PySem.EqNone.eq_none_str (aS I q (by simp))
  | _=>exact absurd (show false=true from hs) Cq
 | bl i =>
  cases rx
  cases y with
  | non=>cases ry;exact PySem.EqNone.eq_bool_none (aS I q (by simp))
  | bl j=>cases ry;exact eq_bool (aS I q yW)
  | str j=>obtain ⟨t',rfl⟩:=ry;exact PySem.EqMixed.eq_bool_str (aS I q (by simp))
  | _=>exact absurd (show false=true from hs) Cq
 | int i =>
  obtain ⟨t,rfl⟩:=rx
  cases y with
  | non=>cases ry;exact PySem.EqNone.eq_int_none (aS I q (by simp))
  | int j=>obtain ⟨t',rfl⟩:=ry;exact eq_int (aS I q uR)
  | str j=>obtain ⟨t',rfl⟩:=ry;exact PySem.EqMixed.eq_int_str (aS I q (by simp))
  | _=>exact absurd (show false=true from hs) Cq
 | str i =>
  obtain ⟨t,rfl⟩:=rx
  cases y with
  | non=>cases ry;exact PySem.EqNone.eq_str_none (aS I q (by simp))
  | bl j=>cases ry;exact PySem.EqMixed.eq_str_bool (aS I q (by simp))
  | int j=>obtain ⟨t',rfl⟩:=ry;exact PySem.EqMixed.eq_str_int (aS I q (by simp))
  | str j=>obtain ⟨t',rfl⟩:=ry;exact eq_str (aS I q uQ)
  | _=>exact absurd (show false=true from hs) Cq
 | byt i =>
  obtain ⟨t,rfl⟩:=rx
  cases y with
  | byt j=>obtain ⟨t',rfl⟩:=ry;exact PySem.W.eq_bytes (aS I q uS)
  | _=>exact absurd (show false=true from hs) Cq
 | _=>cases y<;>exact absurd (show false=true from hs) Cq
theorem op_ne:OpR X (compareOp .NotEq) rNe:=by
 intro pins s σ H x y v u Q I rx ry h;obtain ⟨hs,q⟩:=h
 cases x with
 | non =>
  cases rx
  cases y with
  | non=>cases ry;exact PySem.EqNone.ne_none_none (aS I q (by simp))
  | bl j=>cases ry;exact PySem.EqNone.ne_none_bool (aS I q (by simp))
  | int j=>obtain ⟨t',rfl⟩:=ry;exact PySem.EqNone.ne_none_int (aS I q (by simp))
  | str j=>obtain ⟨t',rfl⟩:=ry;exact PySem.EqNone.ne_none_str (aS I q (by simp))
  | _=>exact absurd (show false=true from hs) Cq
 | bl i =>
  cases rx
  cases y with
  | non=>cases ry;exact PySem.EqNone.ne_bool_none (aS I q (by simp))
  | bl j=>cases ry;exact ne_bool (aS I q (congrArg not yW))
  | str j=>obtain ⟨t',rfl⟩:=ry;exact PySem.EqMixed.ne_bool_str (aS I q (by simp))
  | _=>exact absurd (show false=true from hs) Cq
 | int i =>
  obtain ⟨t,rfl⟩:=rx
  cases y with
  | non=>cases ry;exact PySem.EqNone.ne_int_none (aS I q (by simp))
  | int j=>obtain ⟨t',rfl⟩:=ry;exact ne_int (aS I q (congrArg not uR))
  | str j=>obtain ⟨t',rfl⟩:=ry;exact PySem.EqMixed.ne_int_str (aS I q (by simp))
  | _=>exact absurd (show false=true from hs) Cq
 | str i =>
  obtain ⟨t,rfl⟩:=rx
  cases y with
  | non=>cases ry;exact PySem.EqNone.ne_str_none (aS I q (by simp))
  | bl j=>cases ry;exact PySem.EqMixed.ne_str_bool (aS I q (by simp))
  | int j=>obtain ⟨t',rfl⟩:=ry;exact PySem.EqMixed.ne_str_int (aS I q (by simp))
  | str j=>obtain ⟨t',rfl⟩:=ry;exact ne_str (aS I q (congrArg not uQ))
  | _=>exact absurd (show false=true from hs) Cq
 | byt i =>
  obtain ⟨t,rfl⟩:=rx
  cases y with
  | byt j=>obtain ⟨t',rfl⟩:=ry;exact PySem.W.ne_bytes (aS I q (congrArg not uS))
  | _=>exact absurd (show false=true from hs) Cq
 | _=>cases y<;>exact absurd (show false=true from hs) Cq
theorem op_lt:OpR X (compareOp .Lt) (rI0 fun i j=> .bl (decide (i < j))):=AV fun _ _ _ _ _ _ _ q=>lt_int q
theorem B3:OpR X (compareOp .LtE) (rI0 fun i j=> .bl (decide (i<=j))):=AV fun _ _ _ _ _ _ _ q=>le_int q
theorem B4:OpR X (compareOp .Gt) (rI0 fun i j=> .bl (decide (j < i))):=AV fun _ _ _ _ _ _ _ q=>gt_int q
theorem op_ge:OpR X (compareOp .GtE) (rI0 fun i j=> .bl (decide (j<=i))):=AV fun _ _ _ _ _ _ _ q=>ge_int q
theorem op_isN:OpR X (compareOp .Is) (fun x y H Q=>y = .non/\Q (.bl (decide (x = .non))) H):=by
 intro pins s σ H x y v u Q I rx ry h;obtain ⟨rfl,q⟩:=h;cases ry;refine is_none_gen (aS I q ?_)
 cases x<;>first
  | (cases rx;rfl)
  | (obtain ⟨t,rfl⟩:=rx;rfl)
theorem AN:OpR X (compareOp .IsNot) (fun x y H Q=>y = .non/\Q (.bl (!decide (x = .non))) H):=by
 intro pins s σ H x y v u Q I rx ry h;obtain ⟨rfl,q⟩:=h;cases ry;refine isnot_none_gen (aS I q ?_)
 cases x<;>first
  | (cases rx;rfl)
  | (obtain ⟨t,rfl⟩:=rx;rfl)
theorem OpR.or{f:Value->Value->Sem Value}{r r':R2}(h:OpR X f r)(h':OpR X f r'):OpR X f (fun x y H Q=>r x y H Q\/r' x y H Q):=by
 intro pins s σ H x y v u Q I rx ry q
 rcases q with q | q
 ·exact h pins s σ H x y v u Q I rx ry q
 ·exact h' pins s σ H x y v u Q I rx ry q
theorem dh(b:Expr){op:CmpOp}(h:op ≠ .In:=by decide)(h2:op ≠ .NotIn:=by decide):behindInMarks op b=false:=by
 have e1:(op == CmpOp.In)=false:=by cases op<;>first | rfl | exact absurd rfl h
 have e2:(op == CmpOp.NotIn)=false:=by cases op<;>first | rfl | exact absurd rfl h2
 cases b<;>simp [behindInMarks,e1,e2]
theorem AI{op:CmpOp}{r:R2}(ho:OpR X (compareOp op) r)(ha:PE X a ta)(hb:PE X b tb)(hm:behindInMarks op b=false):PE X (.Compare a [op] [b] pos) (tOp r ta tb):=by
 intro pins s σ H Q I h;exact wpAny_Compare1 (binT ha hb I h fun v u s2 x y H2 I2 rx ry q=>ho pins s2 σ H2 x y v u Q I2 rx ry q) hm
noncomputable def ud(t:TE):TT:=fun σ H Q=>t σ H fun x H'=>∃ k,x = .bl k/\Q k H'
theorem lB{op:CmpOp}{r:R2}(ho:OpR X (compareOp op) r)(ha:PE X a ta)(hb:PE X b tb)(hm:behindInMarks op b=false):PT X (.Compare a [op] [b] pos) (ud (tOp r ta tb)):=by
 intro pins s σ H Q I h
 refine wpAny_isTrue_Compare1 (thn (ha pins s σ H _ I h) fun v s1 ⟨x,H1,I1,r1,q1⟩=>thn (hb pins s1 σ H1 _ I1 q1) fun u s2 ⟨y,H2,I2,r2,q2⟩ =>
  thn (ho pins s2 σ H2 x y v u _ I2 r1 r2 q2) fun c s3 ⟨z,H3,I3,r3,k,e,q3⟩=> ?_) hm
 subst e;cases r3;exact DK ⟨H3,I3,q3⟩
noncomputable def wM(r r':R2)(ta tb tc:TE):TE:=fun σ H Q=>ta σ H fun x H1=>tb σ H1 fun y H2=>r x y H2 fun z H3=>∃ k,z = .bl k /\
 (if k=true then tc σ H3 fun w' H4=>r' y w' H4 Q else Q (.bl false) H3)
theorem xB{op op':CmpOp}{r r':R2}(ho:OpR X (compareOp op) r)(ho':OpR X (compareOp op') r')(ha:PE X a ta)(hb:PE X b tb)(hc:PE X c tc)
 (hm:lastMarks [op,op'] [b,c]=false:=by with_unfolding_all rfl):PE X (.Compare a [op,op'] [b,c] pos) (wM r r' ta tb tc):=by
 intro pins s σ H Q I h
 refine Compare_chain (thn (ha pins s σ H _ I h) fun v s1 ⟨x,H1,I1,r1,q1⟩=>chain_link (thn (hb pins s1 σ H1 _ I1 q1) fun u s2 ⟨y,H2,I2,r2,q2⟩ =>
  thn (ho pins s2 σ H2 x y v u _ I2 r1 r2 q2) fun d s3 ⟨z,H3,I3,r3,k,e,q3⟩=> ?_)) hm
 subst e;cases r3;refine DK ?_
 cases k with
 | false=>exact ite_ff ⟨.bl false,H3,I3,rfl,q3⟩
 | true=>exact ite_tt (chain_last (thn (hc pins s3 σ H3 _ I3 q3) fun w' s4 ⟨z',H4,I4,r4,q4⟩=>ho' pins s4 σ H4 y z' u w' Q I4 r2 r4 q4))
noncomputable def BC(K:E2)(x:V)(H:Hp)(k:Bool):Prop :=
 match x with
 | .non=>k=false
 | .bl b=>k=b
 | .int i=>k=(i != 0)
 | .str y=>y.length<=sizeLine/\k=((y.length:Int) != 0)
 | .byt y=>y.size<=sizeLine/\k=((y.size:Int) != 0)
 | .ref p=>(∃ xs,SqL K H p xs/\k = !xs.isEmpty)\/(∃ xs,SqT K H p xs/\k = !xs.isEmpty)\/∃ kvs,H p=some (.dK kvs)/\k = !kvs.isEmpty
 | _=>False
theorem sX{κ:Type}{kvs:List (κ×V)}{vs:List (κ×Value)}(r:KV kvs vs):(!vs.isEmpty) = !kvs.isEmpty:=by
 cases r<;>rfl
theorem mx{xs:List V}{its:List Value}(r:aw xs its):(!its.toArray.isEmpty) = !xs.isEmpty:=by
 cases r<;>simp
theorem kj:(sizeLine:Nat) < 2 ^ 63:=by rw [sizeLine_eq];decide
theorem tru_ok:TruR X (fun x H Q=>∃ k,BC X.K x H k/\Q k H):=by
 intro pins s σ H x v Q I rx h;obtain ⟨k,e,q⟩:=h;have hl:=kj;have hs:sizeLine=16777216:=sizeLine_eq
 cases x with
 | non =>
  cases rx;have e':k=false:=e;subst e';exact truthy_none ⟨H,I,q⟩
 | bl b =>
  cases rx;have e':k=b:=e;subst e';exact DK ⟨H,I,q⟩
 | int i =>
  obtain ⟨t,rfl⟩:=rx;have e':k=(i != 0):=e;subst e';exact PySem.P.truthy_int ⟨H,I,q⟩
 | str y =>
  obtain ⟨t,rfl⟩:=rx;obtain ⟨hy,e'⟩:y.length<=sizeLine/\k=((y.length:Int) != 0):=e;subst e';exact PySem.P.truthy_str (by omega) ⟨H,I.tok _,q⟩
 | byt y =>
  obtain ⟨t,rfl⟩:=rx;obtain ⟨hy,e'⟩:y.size<=sizeLine/\k=((y.size:Int) != 0):=e;subst e';exact PySem.W.truthy_bytes (by omega) ⟨H,I.tok _,q⟩
 | ref p =>
  cases rx;have e':(∃ xs,SqL X.K H p xs/\k = !xs.isEmpty)\/(∃ xs,SqT X.K H p xs/\k = !xs.isEmpty)\/∃ kvs,H p=some (.dK kvs)/\k = !kvs.isEmpty:=e
  rcases e' with ⟨xs,hx,e'⟩ | ⟨xs,hx,e'⟩ | ⟨kvs,hx,e'⟩
  ·subst e'
   obtain ⟨its,r,pl,hz⟩:=I.list hx;have hlen:=r.length;exact wpAny_truthy_list pl.isList (by simp only [Cm];omega) ⟨H,I.tok _,by rw [mx r];exact q⟩
  ·subst e'
   obtain ⟨its,r,pl,hz⟩:=I.tuple hx;have hlen:=r.length;exact truthy_tuple pl (by simp only [Cm];omega) ⟨H,I.tok _,by rw [mx r];exact q⟩
  ·subst e'
   obtain ⟨hz,hS,vs,r,m⟩:kvs.length<=sizeLine/\(p == sysModules)=false/\∃ vs,KV kvs vs/\s.heap.DictOf (bL X.prog X.w) p vs:=I.hok p _ hx;have hlen:kvs.length=vs.length:=Paired.length r;exact wpAny_truthy_dict hS m (by omega) ⟨H,I.tok _,by rw [sX r];exact q⟩
 | _=>exact (show False from e).elim
theorem xl(ha:PE X a ta)(he:∀ whole,isTrue a X.env whole=(do let v <- whole;standAt a.pos;holding [v] (truthy v))) :
 PT X a (fun σ H Q=>ta σ H fun x H'=>∃ k,BC X.K x H' k/\Q k H'):=by
 intro pins s σ H Q I h;exact isTrue_plain (thn (ha pins s σ H _ I h) fun v s1 ⟨x,H1,I1,r1,q1⟩=>tru_ok pins s1 σ H1 x v Q I1 r1 q1) (he _)
theorem cg{x:V}{us:List Value}(r:aw [x] us):∃ u,us=[u]/\aB x u:=by
 cases r with
 | cons r1 r2=>cases r2;exact ⟨_,rfl,r1⟩
theorem nJ{x y:V}{us:List Value}(r:aw [x,y] us):∃ u w',us=[u,w']/\aB x u/\aB y w':=by
 cases r with
 | cons r1 r2 =>
  cases r2 with
  | cons r3 r4=>cases r4;exact ⟨_,_,rfl,r1,r3⟩
theorem we(hc:X.calm=true):aF X (.builtin "max") (fun xs H Q=>∃ i j,xs=[.int i,.int j]/\Q (.int (if j > i then j else i)) H):=by
 intro pins s σ H xs us Q I r h;obtain ⟨i,j,rfl,q⟩:=h;obtain ⟨u,w',rfl,⟨t,rfl⟩,⟨t',rfl⟩⟩:=nJ r
 refine max_two_ints (I.ok.hd hc) fun h' tk k=>⟨_,H,I.kept k,?_,q⟩
 by_cases hj:j > i
 ·rw [if_pos hj,if_pos hj];exact ⟨_,rfl⟩
 ·rw [if_neg hj,if_neg hj];exact ⟨_,rfl⟩
theorem v6(hc:X.calm=true):aF X (.builtin "min") (fun xs H Q=>∃ i j,xs=[.int i,.int j]/\Q (.int (if j < i then j else i)) H):=by
 intro pins s σ H xs us Q I r h;obtain ⟨i,j,rfl,q⟩:=h;obtain ⟨u,w',rfl,⟨t,rfl⟩,⟨t',rfl⟩⟩:=nJ r
 refine min_two_ints (I.ok.hd hc) fun h' tk k=>⟨_,H,I.kept k,?_,q⟩
 by_cases hj:j < i
 ·rw [if_pos hj,if_pos hj];exact ⟨_,rfl⟩
 ·rw [if_neg hj,if_neg hj];exact ⟨_,rfl⟩
theorem wm:aF X (.type "int") (fun xs H Q=>(∃ i,xs=[.int i]/\Q (.int i) H)\/∃ k,xs=[.bl k]/\Q (.int (if k then 1 else 0)) H):=by
 intro pins s σ H xs us Q I r h
 rcases h with ⟨i,rfl,q⟩ | ⟨k,rfl,q⟩
 ·obtain ⟨u,rfl,t,rfl⟩:=cg r
  exact call_int_int ⟨.int i,H,I,⟨_,rfl⟩,q⟩
 ·obtain ⟨u,rfl,r1⟩:=cg r
  cases r1;exact call_int_bool ⟨.int (if k then 1 else 0),H,I.tok _,⟨_,rfl⟩,q⟩
end
section
variable{prog:Program}{w:World}{A:Around}{E:Value->Shared->Prop}{s:Shared}{K:E2}{x dx C f:Addr}{mA:Str->Option Value}{name:Str}{v:Value}
end
theorem nF.some_of{v:V}{o:Option Value}(r:nF (some v) o):∃ u,o=some u/\aB v u:=by
 cases o with
 | none=>exact (show False from r).elim
 | some u=>exact ⟨u,rfl,r⟩
section
variable{P:Program}{w:World}{H H':Hp}{h h':Heap}{a C dx:Addr}{fs fs':List (Str×V)}
end
structure Cls(K:E2)(C:Addr):Prop where
 pg:PySem.W.plainGet K C Str.empty=true
 hd:PySem.W.hasDictIn K C=true
 po:PySem.W.plainOver K C=true
 sa:PySem.W.findIn K (.ref C) "__setattr__" = some (some (.builtin "object.__setattr__"))
section
variable{X:Cx}{pins:List (Addr×Obj)}{σ:St}{H:Hp}{s:Shared}{a C dx:Addr}{fs:List (Str×V)}{f:Str}{v:V}{A:Around}{E:Value->Shared->Prop}
end
section
variable{X:Cx}{o e value:Expr}{f:Str}{pos pos' tpos:Pos}{ta tv:TE}
end
section
variable{X:Cx}{pins:List (Addr×Obj)}{σ:St}{H:Hp}{s:Shared}{A:Around}{E:Value->Shared->Prop}{Q:Value->Shared->Prop}{c:Value}{b:Bool}
inductive mV(K:E2)(H:Hp):V->Value->Prop where
 | non:mV K H .non (.type "NoneType")
 | bl (x:Bool):mV K H (.bl x) (.type "bool")
 | int (i:Int):mV K H (.int i) (.type "int")
 | str (x:Str):mV K H (.str x) (.type "str")
 | flt (x:UInt64):mV K H (.flt x) (.type "float")
 | lst {a:Addr} {xs:List V} (e:H a=some (.lst xs)):mV K H (.ref a) (.type "list")
 | frz {a:Addr} {o:Obj} {xs:List V} (e:H a=some (.frz o (.lst xs))):mV K H (.ref a) (.type "list")
 | tup {a:Addr} {xs:List V} (e:H a=some (.tup xs)):mV K H (.ref a) (.type "tuple")
 | dK {a:Addr} {kvs:List (Key×V)} (e:H a=some (.dK kvs)):mV K H (.ref a) (.type "dict")
 | dT {a:Addr} {kvs:List (List Key×V)} (e:H a=some (.dT kvs)):mV K H (.ref a) (.type "dict")
 | ins {a C dx:Addr} {fs:List (Str×V)} (e:H a=some (.ins C dx fs)) (cl:Cls K C) (ha:PySem.W.findIn K (.ref C) "__class__" = some (some (.builtin "object.__class__")))
  (hn:PySem.W.specialIn K (.builtin "object.__class__") "__get__" = some (some (.builtin "getset_descriptor.__get__"))) (htk:PySem.W.takesIn K (.builtin "object.__class__")=some true)
  (hm:PySem.W.mroIn K C (.type "object")=some true):mV K H (.ref a) (.ref C)
end
structure cx(k:Nat)(A:Around):Prop where
 hd:A.handled=none
 dp:A.depth+3 * k+5 < recursionLimit
 un:A.units+16 * k+200 < cLine
 gd:A.guards=some []:=by rfl
theorem cx.mono{j k:Nat}{A:Around}(r:cx k A)(h:j<=k):cx j A:=⟨r.hd,by have:=r.dp;omega,by have:=r.un;omega,r.gd⟩
theorem cx.deeper{k:Nat}{A:Around}(r:cx (k+1) A)(env:Env):cx k (A.deeper env) :=
 ⟨r.hd,by have:=r.dp;show A.depth+1+3 * k+5 < _;omega,by have:=r.un;show A.units+3+16 * k+200 < _;omega,r.gd⟩
theorem cx.depth{k:Nat}{A:Around}(r:cx k A):A.depth < recursionLimit:=by have:=r.dp;omega
theorem cx.units{k:Nat}{A:Around}(r:cx k A):A.units+64 < cLine:=by have:=r.un;omega
noncomputable def fC:TA:=fun _ H Q=>Q [] H
noncomputable def bb(ta:TE)(tr:TA):TA:=fun σ H Q=>ta σ H fun x H1=>tr σ H1 fun xs H2=>Q (x::xs) H2
section
variable{X:Cx}{e:Expr}{es:List Expr}{te:TE}{t:TA}{pos:Pos}
theorem aR:PA X [] fC:=fun _ _ _ _ H Q I h=>Calls.spliced_nil ⟨[],H,I,.nil,h⟩
theorem ad(ha:PE X e te)(hr:PA X es t)(hs:starEach (e::es) X.env=(false,eval e X.env)::starEach es X.env:=by rfl):PA X (e::es) (bb te t):=by
 intro pos pins s σ H Q I h;rw [hs]
 show wpAny _ _ (spliced ((false,eval e X.env)::backTo pos (starEach es X.env))) _ _ s
 refine Calls.spliced_cons (thn (ha pins s σ H _ I h) fun u s1 ⟨x,H1,I1,r1,q1⟩=> ?_)
 exact thn (hr pos pins s1 σ H1 _ I1 q1) fun us s2 ⟨xs,H2,I2,r2,q2⟩=>⟨x::xs,H2,I2,.cons r1 r2,q2⟩
noncomputable def zO(t:TA):TE:=fun σ H Q=>t σ H fun xs H1=>xs.length<=sizeLine/\∀ p,H1 p=none->Q (.ref p) (upd H1 p (.tup xs))
noncomputable def zQ(t:TA):TE:=fun σ H Q=>t σ H fun xs H1=>xs.length<=sizeLine/\∀ p,H1 p=none->Q (.ref p) (upd H1 p (.lst xs))
theorem sL{x1}(h:PA X es t):PE X (.Tuple es x1 pos) (zO t):=by
 intro pins s σ H Q I hq;refine wpAny_Tuple_spliced (thn (h pos pins s σ H _ I hq) fun us s1 ⟨xs,H1,I1,r,z,q⟩=>⟨by rw [<- r.length];exact z,?_⟩);have hf:H1 s1.heap.objs.size=none:=I1.hok.fresh (Cw _);refine ⟨.ref s1.heap.objs.size,upd H1 s1.heap.objs.size (.tup xs),I1.laid (t':=s1.toks) (fun b u e=>Cj _ e) (Cw _) ?_,rfl,q _ hf⟩;exact ⟨z,us,r,⟨_,Ct _ rfl,rfl,_,rfl⟩⟩
theorem jc(h:PA X es t):PE X (.List es pos) (zQ t):=by
 intro pins s σ H Q I hq;refine wpAny_List_spliced (thn (h pos pins s σ H _ I hq) fun us s1 ⟨xs,H1,I1,r,z,q⟩=>⟨by rw [<- r.length];exact z,?_⟩);have hf:H1 s1.heap.objs.size=none:=I1.hok.fresh (Cw _);refine ⟨.ref s1.heap.objs.size,upd H1 s1.heap.objs.size (.lst xs),I1.laid (t':=s1.toks) (fun b u e=>Cj _ e) (Cw _) ?_,rfl,q _ hf⟩;exact ⟨z,us,0,r,Ct _ rfl⟩
end
abbrev Sp:=List V->Hp->VK->XK->Prop
abbrev CXT:=List Env->Hp->Shared->XK->Value->Shared->Prop
structure ww(P:Program)(w:World)(K:E2)(mg:Str->Option Value)(base:Heap)(A:Around)(outer:List Env)(s:Shared)(H:Hp):Prop where
 frames:A.frames=some outer
 mod:Mod K mg base
 bs:∀ b o,base.get? b=some o->s.heap.get? b=some o/\H b=none
 bsz:base.objs.size<=s.heap.objs.size
 funs:s.heap.FunFrames base outer
 frf:∀ b∈frs outer,H b=none
 hok:HOk P w H s.heap
 bare:AllBare s.gens
noncomputable def CE(outer:List Env)(P:Program)(w:World)(H:Hp)(s:Shared)(Q:VK)(u:Value)(s':Shared):Prop :=
 ∃ v H',s'.os=s.os/\AllBare s'.gens/\Un (frs outer) [] H H' s.heap s'.heap/\HOk P w H' s'.heap/\aB v u/\Q v H'
noncomputable def CR(CX:CXT)(outer:List Env)(P:Program)(w:World)(H:Hp)(s:Shared)(Q:VK)(E:XK)(r:Result)(s':Shared):Prop :=
 match r with
 | .ok (.ret u)=>CE outer P w H s Q u s'
 | .ok _=>False
 | .error e=>CX outer H s E e s'
structure jS(P:Program)(w:World)(K:E2)(mg:Str->Option Value)(base:Heap)(CX:CXT)(k:Nat)(f:Addr)(fd:FuncData)(ps:List Str)(sp:Sp):Prop where
 len:∀ vs H Q E,sp vs H Q E->vs.length=ps.length
 run:∀ (A:Around) (outer:List Env) (s:Shared) (H:Hp) (args:Args) (us:List Value) (vs:List V) (Q:VK) (E:XK),cx k A->ww P w K mg base A outer s H->BindsTo s fd args (ps.zip us)->aw vs us->sp vs H Q E ->
  codeAny (model P w) A (.call (.ref f) args) (CR CX outer P w H s Q E) s
section
variable{X:Cx}{pins:List (Addr×Obj)}{σ:St}{H:Hp}{s s':Shared}
theorem Inv.env0(I:Inv X pins σ H s):ww X.prog X.w X.K X.mg X.base X.A X.stack s H :=
 ⟨I.ok.frames,I.ok.mod,I.bs,DD I.ok.bsz I.sz,I.stack,I.stkFree,I.hok,I.bare⟩
theorem Inv.after{Q:VK}{u:Value}(I:Inv X pins σ H s)(h:CE X.stack X.prog X.w H s Q u s'):EP X pins σ Q u s':=by
 obtain ⟨v,H',os,bare,un,hok,r,q⟩:=h;obtain ⟨hh,g,d,t,os'⟩:=s';obtain rfl:os'=s.os:=os;exact ⟨v,H',I.call (h':=hh) (g':=g) (d':=d) (t':=t) (ch:=[]) un hok bare (fun b z=>absurd z (by simp)),r,q⟩
end
noncomputable def nM(sp:Sp)(dvs:List V)(E:XK)(t:TA):TE:=fun σ H Q=>t σ H fun vs H1=>sp (vs++dvs) H1 Q E
noncomputable def kW(K:E2)(fd:FuncData)(ps:List Str)(ds:List Value):Prop :=
 ∀ (s:Shared) (us:List Value),K.In s.heap->(us++ds).length=ps.length->BindsTo s fd ⟨us,[]⟩ (ps.zip (us++ds))
theorem kW.all{K:E2}{fd:FuncData}{ps:List Str}(h:∀ us:List Value,us.length=ps.length->bindArgs fd ⟨us,[]⟩=pure (ps.zip us)):kW K fd ps []:=fun s us _ hl=>by
 rw [DE] at hl ⊢;exact .of_eq (h us hl)
noncomputable def pZ(CX:CXT)(X:Cx)(E:XK):Prop:=∀ (pins:List (Addr×Obj)) (σ:St) (H:Hp) (s:Shared) (e:Value) (s':Shared),Inv X pins σ H s->CX X.stack H s E e s'->X.xe e s'
section
variable{X:Cx}{CX:CXT}{k:Nat}{f C:Addr}{fd:FuncData}{ps:List Str}{sp:Sp}{dvs:List V}{ds:List Value}{E:XK}{x m:Str}{p pos apos:Pos}{e o:Expr}{es:List Expr}{ta:TE}{t:TA}
theorem run_fn{pins:List (Addr×Obj)}{σ:St}{H:Hp}{s:Shared}{Q:VK}{us:List Value}{vs:List V}(F:jS X.prog X.w X.K X.mg X.base CX k f fd ps sp)(hr:cx k X.A)(hb:kW X.K fd ps ds)(hd:aw dvs ds)(hx:pZ CX X E)
 (I:Inv X pins σ H s) (r:aw vs us) (h:sp (vs++dvs) H Q E):wpAny (model X.prog X.w) X.A (call (.ref f) us) (EP X pins σ Q) X.xe s:=by
 have r2:aw (vs++dvs) (us++ds):=r.append hd
 have hl:(us++ds).length=ps.length:=by rw [<- r2.length];exact F.len _ _ _ _ h
 refine wpAny_call (codeAny_mono (F.run X.A X.stack s H ⟨us,[]⟩ (us++ds) (vs++dvs) Q E hr I.env0 (hb s us I.kIn hl) r2 h) fun r s' hq=> ?_)
 cases r with
 | error e=>exact hx pins σ H s e s' I hq
 | ok fl =>
  cases fl with
  | ret u=>exact I.after hq
  | next=>exact False.elim hq
  | brk=>exact False.elim hq
  | cont=>exact False.elim hq
theorem o9(F:jS X.prog X.w X.K X.mg X.base CX k f fd ps sp)(hr:cx k X.A)(hg:Gl X x)(hm:X.mg x=some (.ref f))(hk:PySem.W.keepIn X.K (.ref f)=true)(hb:kW X.K fd ps ds)(hd:aw dvs ds)(hx:pZ CX X E)
 (ha:PA X (e::es) t) (hdb:(x == ("__debug__" : Str))=false:=by decide) (he:starEach (e::es) X.env=(false,eval e X.env)::starEach es X.env:=by rfl) (hpl:(backTo pos (starEach es X.env)).any (·.1)=false:=by rfl) :
 PE X (.Call (.Name x p) (e::es) [] pos) (nM sp dvs E t):=by
 intro pins s σ H Q I h;refine Et (iz I hg hm ?_ hdb);refine PySem.W.callWith_K (h₀:=X.base) I.ok.mod.kin hk (thn (ha pos pins s σ H _ I h) fun us s1 ⟨vs,H1,I1,r,q⟩=>⟨I1.kIn,?_⟩) he hpl;exact run_fn F hr hb hd hx I1 r q
end
section
variable{X:Cx}{CX:CXT}{k:Nat}{f C:Addr}{fd:FuncData}{ps ks:List Str}{sp:Sp}{E:XK}{x m:Str}{p pos apos kpos:Pos}{e o:Expr}{es:List Expr}{kws:List Keyword}{te ta:TE}{t tk:TA}{nm:Option Str}
variable{g:List Value->List Value->List Value}{gV:List V->List V->List V}
end
structure cZ(N P:List Str)(sc:Scope):Prop where
 kind:sc.kind = .function
 co:sc.isCoroutine=false
 gen:sc.isGenerator=false
 nd:N.Nodup
 pre:N.take P.length=P
 par:∀ x∈P,sc.names.lookup x=some .local\/sc.names.lookup x=some .cell
 nofree:∀ y∈sc.names,y.2 ≠ .free
theorem oF{kindOf:Str->Option NameKind}{x:Str}:∀ {binds:List (Str×Value)} {m:Str->Option Value},(∀ v,(x,v)∉binds)->bindL kindOf binds m x=m x
 | [],_,_=>rfl
 | (n,v)::r,m,h=>by
  unfold bindL;rw [oF fun w hw=>h w (Cn _ hw)]
  split
  ·have:x≠n:=by rintro rfl;exact h v Cs
   simp [this]
  ·rfl
theorem oH{kindOf:Str->Option NameKind}{x:Str}:∀ {binds:List (Str×Value)} {m:Str->Option Value},(∀ v,(x,v)∉binds)->bindC kindOf binds m x=m x
 | [],_,_=>rfl
 | (n,v)::r,m,h=>by
  unfold bindC;rw [oH fun w hw=>h w (Cn _ hw)]
  split
  ·rfl
  ·have:x≠n:=by rintro rfl;exact h v Cs
   simp [this]
theorem oG{kindOf:Str->Option NameKind}{x:Str}{v:Value}:∀ {P:List Str} {vs:List Value} {i:Nat} {m:Str->Option Value},P.Nodup->P[i]?=some x->vs[i]?=some v->kindOf x=some .local ->
 bindL kindOf (P.zip vs) m x=some v
 | [],_,_,_,_,h,_,_=>by simp at h
 | _::_,[],_,_,_,_,h,_=>by simp at h
 | p::P,w::vs,0,m,nd,h1,h2,hk=>by
  simp at h1 h2;subst h1;subst h2
  show bindL kindOf ((p,w)::P.zip vs) m p=_
  unfold bindL;rw [oF fun v hv=>(CQ.mp nd).1 (EN hv).1,if_pos hk];simp
 | p::P,w::vs,i+1,m,nd,h1,h2,hk=>by
  show bindL kindOf ((p,w)::P.zip vs) m x=_
  unfold bindL;exact oG (i:=i) (CQ.mp nd).2 (by simpa using h1) (by simpa using h2) hk
theorem oI{kindOf:Str->Option NameKind}{x:Str}{v:Value}:∀ {P:List Str} {vs:List Value} {i:Nat} {m:Str->Option Value},P.Nodup->P[i]?=some x->vs[i]?=some v->kindOf x≠some .local ->
 bindC kindOf (P.zip vs) m x=some v
 | [],_,_,_,_,h,_,_=>by simp at h
 | _::_,[],_,_,_,_,h,_=>by simp at h
 | p::P,w::vs,0,m,nd,h1,h2,hk=>by
  simp at h1 h2;subst h1;subst h2
  show bindC kindOf ((p,w)::P.zip vs) m p=_
  unfold bindC;rw [oH fun v hv=>(CQ.mp nd).1 (EN hv).1,if_neg hk];simp
 | p::P,w::vs,i+1,m,nd,h1,h2,hk=>by
  show bindC kindOf ((p,w)::P.zip vs) m x=_
  unfold bindC;exact oI (i:=i) (CQ.mp nd).2 (by simpa using h1) (by simpa using h2) hk
noncomputable def cQ(N:List Str)(vs:List V):St:=vs.map some++List.replicate (N.length - vs.length) none
noncomputable def bX(CX:CXT)(P:Program)(w:World)(K:E2)(mg:Str->Option Value)(base:Heap)(N:List Str)(qual:Str)(scope:Scope)(f:Addr)(cd:Value)(A:Around)(outer:List Env)(s:Shared)(H:Hp)(E:XK):Cx where
 prog:=P
 w:=w
 K:=K
 mg:=mg
 base:=base
 A:=A.deeper (envOfC qual scope s.heap.objs.size f cd)
 N:=N
 s₀:=s
 H₀:=H
 env:=envOfC qual scope s.heap.objs.size f cd
 outer:=outer
 stack:=envOfC qual scope s.heap.objs.size f cd::outer
 ex:=[]
 calm:=true
 fn:=fun _=>true
 pn:=[]
 xe:=fun e s'=>wpAny (model P w) (A.deeper (envOfC qual scope s.heap.objs.size f cd)) (leaving (envOfC qual scope s.heap.objs.size f cd) e) (fun _ s''=>CX outer H s E e s'') (fun e' s''=>CX outer H s E e' s'') s'
theorem rD{sc:Scope}{n:Nat}{x:Str}(h:sc.names.lookup x=some .cell):∃ c,(cellsFrom n sc.names []).lookup x=some c:=by
 have q:=PySem.W.cellsFrom_some sc.names n [] (.inl h);exact Option.isSome_iff_exists.mp q
theorem oj{CX:CXT}{P:Program}{w:World}{K:E2}{mg:Str->Option Value}{base:Heap}{N ps:List Str}{qual:Str}{scope:Scope}{f:Addr}{cd:Value}{A:Around}{outer:List Env}{s s1:Shared}{H:Hp}{E:XK}{us:List Value}{vs:List V}
 (S:cZ N ps scope) (hd:A.handled=none) (e0:ww P w K mg base A outer s H) (hl:vs.length=ps.length) (r:aw vs us)
 (x:InCallC s s.heap.objs.size (bindL (envOfC qual scope s.heap.objs.size f cd).kindOf (ps.zip us) fun _=>none) (cellsFrom (s.heap.objs.size+1) scope.names []) (bindC (envOfC qual scope s.heap.objs.size f cd).kindOf (ps.zip us) fun _=>none) s1) :
 Inv (bX CX P w K mg base N qual scope f cd A outer s H E) [] (cQ N vs) H s1:=by
 have hpl:ps.length<=N.length:=by have:=congrArg List.length S.pre;rw [DH] at this;omega
 obtain ⟨h1,tk,rfl,hk⟩:=x.done
 have noA:∀ b:Addr,b∉(bX CX P w K mg base N qual scope f cd A outer s H E).ex:=fun b z=>absurd (show b∈([]:List Addr) from z) (by simp)
 refine ⟨⟨e0.mod,S.kind,rfl,rfl,Cw _,fun y z c h1 h2=> ?_,fun y hy=> ?_,fun y c _ h=> ?_,fun _=>hd,Around.frames_deeper e0.frames,.inr ⟨rfl,rfl⟩,fun b z=>absurd z (noA b),e0.bs,e0.bsz,fun b _ _=>noA b,fun b z=>absurd z (noA b),e0.funs,e0.frf⟩,
  rfl,e0.bare,Un.kept hk,⟨_,x.toInCall.ns,fun i y v h1 h2 h3=> ?_⟩,fun y c h=>⟨_,x.cell y c h⟩,e0.hok.fresh (Cw _),fun y c h=> ?_,fun p hp=>absurd (show p∈([]:List (Addr×Obj)) from hp) (by simp),e0.hok.kept hk,?_⟩
 ·exact name_of_addr x.apart (Dm h1) (Dm h2)
 ·have hy:scope.names.lookup y=some .cell\/scope.names.lookup y=some .free:=hy
  rcases hy with hy | hy
  ·exact rD hy
  ·exact absurd rfl (S.nofree _ (Dm hy))
 ·exact DX (x.above y c (Dm h))
 ·have hi:i < vs.length:=by
   unfold cQ at h2
   by_cases hi:i < vs.length
   ·exact hi
   ·rw [DA (by simpa using hi)] at h2
    rw [DZ] at h2
    split at h2<;>cases h2
  have ha:vs[i]?=some v:=by
   unfold cQ at h2;rw [CV (by simpa using hi),CG] at h2
   cases e:vs[i]? with
   | none=>rw [e] at h2;cases h2
   | some a=>rw [e] at h2;cases h2;rfl
  obtain ⟨u,hu,rv⟩:=r.get ha
  have hp:ps[i]?=some y:=by
   rw [<- S.pre,List.getElem?_take_of_lt (by omega)];exact h1
  have ndP:ps.Nodup:=by rw [<- S.pre];exact S.nd.sublist (List.take_sublist _ _)
  refine ⟨u,rv,?_⟩
  rcases S.par y (CB hp) with k | k
  ·exact .inl ⟨k,oG ndP hp hu k⟩
  ·obtain ⟨c,e⟩:=rD (n:=s.heap.objs.size+1) k
   refine .inr ⟨.inl k,c,e,?_⟩;have q:=x.cell y c e;rw [oI ndP hp hu (by show scope.names.lookup y≠_;rw [k];decide)] at q;exact q
 ·exact e0.hok.fresh (DX (x.above y c (Dm h)))
 ·unfold cQ
  show _=N.length
  rw [Cy,Ci,Dj];omega
theorem B9{CX:CXT}{P:Program}{w:World}{K:E2}{mg:Str->Option Value}{base:Heap}{k:Nat}{f:Addr}{name qual:Str}{params:Arguments}{body:List Stmt}{scope:Scope}{dV kV doc pm cdv ct oc:Value}{an od:Option Addr}
 {osl:Array (Option Value)} {N ps:List Str} {sp:Sp} (lk:K.lookup f=some ⟨oc,od,.func (PySem.W.fnOf name qual params body scope dV kV doc pm an cdv ct),osl⟩) (hcd:PySem.W.codeIn K cdv qual=true) (S:cZ N ps scope)
 (len:∀ vs H Q E,sp vs H Q E->vs.length=ps.length)
 (hbody:∀ (A:Around) (outer:List Env) (s:Shared) (H:Hp) (vs:List V) (Q:VK) (E:XK),cx k (A.deeper (envOfC qual scope s.heap.objs.size f cdv))->sp vs H Q E ->
   ∃ t,PSs (bX CX P w K mg base N qual scope f cdv A outer s H E) body t/\t { nx:=fun _ H'=>Q .non H',rt:=Q } (cQ N vs) H) :
 jS P w K mg base CX (k+1) f (PySem.W.fnOf name qual params body scope dV kV doc pm an cdv ct) ps sp:=by
 refine ⟨len,fun A outer s H args us vs Q E hr e0 hb r hsp=> ?_⟩;have hl:=len _ _ _ _ hsp
 have KX:K.In s.heap:=e0.mod.kin.keeps fun b o e=>(e0.bs b o e).1
 have lim:s.heap.NoLimit:=e0.mod.nolimit.keeps fun b o e=>(e0.bs b o e).1
 have hkind:∀ y∈ps.zip us,scope.names.lookup y.1=some .local\/(scope.names.lookup y.1=some .cell/\((cellsFrom (s.heap.objs.size+1) scope.names []).lookup y.1).isSome=true):=fun ⟨n,v⟩ hy=>by
  rcases S.par n (EN hy).1 with q | q
  ·exact .inl q
  ·exact .inr ⟨q,PySem.W.cellsFrom_some _ _ _ (.inl q)⟩
 refine codeAny_call_function hr.depth (KX _ _ lk) rfl S.co S.gen rfl (PySem.W.codeRec_of KX hcd) (hb _ _ _ _ ?_)
 refine wpAny_newFunctionEnv_cells S.kind hkind fun env he s1 x=> ?_
 subst he;refine ⟨lim.keeps x.toInCall.keep,codeAny_func ?_⟩;obtain ⟨t,ht,hq⟩:=hbody A outer s H vs Q E (hr.deeper _) hsp;have I:Inv (bX CX P w K mg base N qual scope f cdv A outer s H E) [] (cQ N vs) H s1:=oj S hr.hd e0 hl r x
 refine Dy (ht [] s1 (cQ N vs) H _ I hq) (fun fl s' hs=> ?_) fun e s' hs=>hs
 have fin:∀ {σ':St} {H':Hp} {v:V} {u:Value},Inv (bX CX P w K mg base N qual scope f cdv A outer s H E) [] σ' H' s'->aB v u->Q v H'->CE outer P w H s Q u s' :=
  fun {σ' H' v u} J rv q=>⟨v,H',J.os,J.bare,J.base,J.hok,rv,q⟩
 cases fl with
 | ret u =>
  obtain ⟨v,σ',H',J,rv,q⟩:=hs;exact fin J rv q
 | next =>
  obtain ⟨σ',H',J,q⟩:=hs;exact fin (v:=V.non) (u:=Value.none) J rfl q
 | brk =>
  obtain ⟨_,_,_,q⟩:=hs;exact False.elim q
 | cont =>
  obtain ⟨_,_,_,q⟩:=hs;exact False.elim q
section
variable{X:Cx}{x:Str}{p pos:Pos}{e:Expr}{es:List Expr}{t:TA}{id T:String}{r:List V->Hp->VK->Prop}
noncomputable def tCB(r:List V->Hp->VK->Prop)(t:TA):TE:=fun σ H Q=>t σ H fun vs H1=>r vs H1 Q
theorem dA(hc:aF X (.builtin id) r)(hg:Gl X x)(hm:X.mg x=none)(hv:bootBuiltins x=some (.builtin id))(ha:PA X (e::es) t)(hn:x ≠ "__name__" := by decide)(hdb:(x == ("__debug__" : Str))=false:=by decide)
 (he:starEach (e::es) X.env=(false,eval e X.env)::starEach es X.env:=by rfl) (hpl:(backTo pos (starEach es X.env)).any (·.1)=false:=by rfl):PE X (.Call (.Name x p) (e::es) [] pos) (tCB r t):=by
 intro pins s σ H Q I h;refine Et (jf I hg hm hv ?_ hn hdb);exact PyProof.Rows.callWith_builtin1 (thn (ha pos pins s σ H _ I h) fun us s1 ⟨vs,H1,I1,r1,q1⟩=>hc pins s1 σ H1 vs us Q I1 r1 q1) he hpl
theorem fm(hc:aF X (.type T) r)(hg:Gl X x)(hm:X.mg x=none)(hv:bootBuiltins x=some (.type T))(ha:PA X (e::es) t)(hn:x ≠ "__name__" := by decide)(hdb:(x == ("__debug__" : Str))=false:=by decide)
 (he:starEach (e::es) X.env=(false,eval e X.env)::starEach es X.env:=by rfl) (hpl:(backTo pos (starEach es X.env)).any (·.1)=false:=by rfl):PE X (.Call (.Name x p) (e::es) [] pos) (tCB r t):=by
 intro pins s σ H Q I h;refine Et (jf I hg hm hv ?_ hn hdb);exact PyProof.Rows.callWith_type1 (thn (ha pos pins s σ H _ I h) fun us s1 ⟨vs,H1,I1,r1,q1⟩=>hc pins s1 σ H1 vs us Q I1 r1 q1) he hpl
end
section
variable{κ:Type}[DecidableEq κ]
noncomputable def jp(kvs:List (κ×V))(k:κ):Option V:=(kvs.find? fun kv=>decide (kv.1=k)).map (·.2)
noncomputable def jb(kvs:List (κ×V))(k:κ)(v:V):List (κ×V) :=
 if (kvs.any fun kv=>decide (kv.1=k))=true then kvs.map (fun kv=>if kv.1=k then (kv.1,v) else kv) else kvs++[(k,v)]
theorem jn{p:κ×V}{r:List (κ×V)}{k:κ}(e:p.1=k):jp (p::r) k=some p.2:=by simp [jp,Ez,e]
theorem jo{p:κ×V}{r:List (κ×V)}{k:κ}(e:¬ p.1=k):jp (p::r) k=jp r k:=by simp [jp,Ez,e]
theorem p9(k:κ):∀ kvs:List (κ×V),(kvs.any fun kv=>decide (kv.1=k))=(jp kvs k).isSome
 | []=>rfl
 | p::r=>by
  rw [List.any_cons]
  by_cases e:p.1=k
  ·simp only [jn e,CK e,EG,Option.isSome_some]
  ·rw [jo e,CL e,EC];exact p9 k r
theorem kJ(kvs:List (κ×V))(k:κ)(v:V):(jb kvs k v).length<=kvs.length+1:=by
 unfold jb
 split
 ·rw [Ci];omega
 ·rw [Cy,CA,DO];omega
theorem nF.isSome_eq{o:Option V}{u:Option Value}(r:nF o u):o.isSome=u.isSome:=by
 cases o with
 | none=>cases u with
  | none=>rfl
  | some _=>exact (show False from r).elim
 | some _=>cases u with
  | none=>exact (show False from r).elim
  | some _=>rfl
theorem KV.val{kvs:List (κ×V)}{vs:List (κ×Value)}(r:KV kvs vs)(k:κ):nF (jp kvs k) (valueAt vs k):=by
 unfold KV at r
 induction r with
 | nil=>exact True.intro
 | @cons p q ps qs h t ih =>
  obtain ⟨h1,h2⟩:=h
  by_cases e:p.1=k
  ·have e':q.1=k:=h1.symm.trans e
   have b:valueAt (q::qs) k=some q.2:=by simp [valueAt,Ez,e']
   rw [jn e,b];exact h2
  ·have e':¬ q.1=k:=fun z=>e (h1.trans z)
   have b:valueAt (q::qs) k=valueAt qs k:=by simp [valueAt,Ez,e']
   rw [jo e,b];exact ih
theorem KV.any{kvs:List (κ×V)}{vs:List (κ×Value)}(r:KV kvs vs)(k:κ):(kvs.any fun kv=>decide (kv.1=k))=vs.any fun kv=>decide (kv.1=k):=by
 unfold KV at r
 induction r with
 | nil=>rfl
 | cons h t ih=>rw [List.any_cons,List.any_cons,ih,h.1]
theorem KV.repl{kvs:List (κ×V)}{vs:List (κ×Value)}(r:KV kvs vs)(k:κ){y:V}{u:Value}(ry:aB y u) :
 KV (kvs.map fun kv=>if kv.1=k then (kv.1,y) else kv) (vs.map fun kv=>if kv.1=k then (kv.1,u) else kv):=by
 unfold KV at r ⊢
 induction r with
 | nil=>exact .nil
 | @cons p q ps qs h t ih =>
  rw [CF,CF];refine .cons ?_ ih;obtain ⟨h1,h2⟩:=h
  by_cases e:p.1=k
  ·rw [if_pos e,if_pos (h1.symm.trans e)];exact ⟨h1,ry⟩
  ·rw [if_neg e,if_neg (fun z=>e (h1.trans z))];exact ⟨h1,h2⟩
theorem KV.put{kvs:List (κ×V)}{vs:List (κ×Value)}(r:KV kvs vs)(k:κ){y:V}{u:Value}(ry:aB y u):KV (jb kvs k y) (stored vs k u):=by
 unfold jb stored;rw [r.any k]
 by_cases e:(vs.any fun kv=>decide (kv.1=k))=true
 ·rw [if_pos e,if_pos e];exact r.repl k ry
 ·rw [if_neg e,if_neg e];exact Paired.snoc r ⟨rfl,ry⟩
theorem KV.length{kvs:List (κ×V)}{vs:List (κ×Value)}(r:KV kvs vs):kvs.length=vs.length:=Paired.length r
end
theorem uF{P:Program}{w:World}{k:Key}{u:Value}(r:aB (kV k) u):(bL P w).is k u=true:=by
 cases k with
 | inl i=>obtain ⟨t,e⟩:=(show ∃ t,u=Value.int i t from r);subst e;exact qL P w i t
 | inr x=>obtain ⟨t,e⟩:=(show ∃ t,u=Value.str x t from r);subst e;exact qK P w x t
theorem oh{P:Program}{w:World}:∀ {ks:List Key} {us:List Value},aw (ks.map kV) us->ItemsAre (bL P w) ks us
 | [],_,r=>by rw [Eg] at r;cases r;exact .nil
 | k::ks,_,r=>by
  rw [CF] at r
  cases r with
  | cons h t=>exact .cons (uF h) (oh t)
abbrev KT(H:Hp):List (List Key×V)->List (List Key×Addr×Value)->Prop:=Paired fun p q=>p.1=q.1/\H q.2.1=some (.tup (p.1.map kV))/\aB p.2 q.2.2
theorem KT.val{H:Hp}{kvs:List (List Key×V)}{xs:List (List Key×Addr×Value)}(r:KT H kvs xs)(k:List Key):nF (jp kvs k) ((atKey xs k).map (·.2)):=by
 induction r with
 | nil=>exact True.intro
 | @cons p q ps qs h t ih =>
  obtain ⟨h1,_,h2⟩:=h
  by_cases e:p.1=k
  ·have e':q.1=k:=h1.symm.trans e
   have b:atKey (q::qs) k=some q.2:=by simp [atKey,Ez,e']
   rw [jn e,b];exact h2
  ·have e':¬ q.1=k:=fun z=>e (h1.trans z)
   have b:atKey (q::qs) k=atKey qs k:=by simp [atKey,Ez,e']
   rw [jo e,b];exact ih
theorem KT.repl{H:Hp}{kvs:List (List Key×V)}{xs:List (List Key×Addr×Value)}(r:KT H kvs xs)(k:List Key){y:V}{u:Value}(ry:aB y u) :
 KT H (kvs.map fun kv=>if kv.1=k then (kv.1,y) else kv) (xs.map (putAt k u)):=by
 induction r with
 | nil=>exact .nil
 | @cons p q ps qs h t ih =>
  rw [CF,CF];refine .cons ?_ ih;obtain ⟨h1,h2,h3⟩:=h;unfold putAt
  by_cases e:p.1=k
  ·rw [if_pos e,if_pos (h1.symm.trans e)];exact ⟨h1,h2,ry⟩
  ·rw [if_neg e,if_neg (fun z=>e (h1.trans z))];exact ⟨h1,h2,h3⟩
theorem KT.put{H:Hp}{kvs:List (List Key×V)}{xs:List (List Key×Addr×Value)}(r:KT H kvs xs)(k:List Key){b:Addr}{y:V}{u:Value}(hb:H b=some (.tup (k.map kV)))(ry:aB y u) :
 KT H (jb kvs k y) (storedH xs k b u):=by
 have e:(kvs.any fun kv=>decide (kv.1=k))=(atKey xs k).isSome:=by
  rw [p9,(r.val k).isSome_eq,Option.isSome_map]
 unfold jb storedH;rw [e]
 by_cases q:(atKey xs k).isSome=true
 ·rw [if_pos q,if_pos q];exact r.repl k ry
 ·rw [if_neg q,if_neg q];exact Paired.snoc r ⟨rfl,hb,ry⟩
theorem KT.keeps{H H':Hp}{kvs:List (List Key×V)}{xs:List (List Key×Addr×Value)}(r:KT H kvs xs)(ht:∀ b ys,H b=some (.tup ys)->H' b=some (.tup ys)):KT H' kvs xs :=
 Paired.mapP r fun _ _ z=>⟨z.1,ht _ _ z.2.1,z.2.2⟩
section
variable{P:Program}{w:World}{H:Hp}{h:Heap}{a:Addr}
theorem BP{u:HO}(ok:HOk P w H h)(e:Rd H a u):bH P w H h a u:=e.ok ok
theorem rm{kvs:List (Key×V)}(ok:HOk P w H h)(e:Rd H a (.dK kvs)):kvs.length<=sizeLine/\(a == sysModules)=false/\∃ vs,KV kvs vs/\h.DictOf (bL P w) a vs :=
 show bH P w H h a (.dK kvs) from BP ok e
theorem dk_of{kvs:List (Key×V)}(ok:HOk P w H h)(e:H a=some (.dK kvs)):kvs.length<=sizeLine/\(a == sysModules)=false/\∃ vs,KV kvs vs/\h.DictOf (bL P w) a vs:=rm ok (.inl e)
theorem px{ks:List Key}(ok:HOk P w H h)(e:H a=some (.tup (ks.map kV))):(tupleKind (bL P w)).is h ks a:=by
 obtain ⟨_,its,r,o,h1,h2,n,h3⟩:=(show bH P w H h a (.tup (ks.map kV)) from ok a _ e);exact ⟨o,its.toArray,n,h1,h2,h3,by simpa using oh r⟩
theorem uP{kvs:List (List Key×V)}(ok:HOk P w H h)(e:Rd H a (.dT kvs)):kvs.length<=sizeLine/\(a == sysModules)=false /\
 ∃ xs,KT H kvs xs/\h.DictOfH (tupleKind (bL P w)) a xs:=by
 obtain ⟨z,y,xs,r,o,es,ep,h1,h2,h3,h4,h5⟩:=(show bH P w H h a (.dT kvs) from BP ok e);refine ⟨z,y,xs,r,o,es,ep,h1,h2,h3,h4,fun x hx=> ?_,h5⟩
 have all:∀ {l:List (List Key×V)} {m:List (List Key×Addr×Value)},KT H l m->∀ x∈m,(tupleKind (bL P w)).is h x.1 x.2.1:=by
  intro l m q
  induction q with
  | nil=>intro x hx;exact nomatch hx
  | @cons p q ps qs hq t ih =>
   intro x hx
   rcases Cr.mp hx with e | hx
   ·subst e
    exact px ok (by rw [<- hq.1];exact hq.2.1)
   ·exact ih x hx
 exact all r x hx
theorem dt_of{kvs:List (List Key×V)}(ok:HOk P w H h)(e:H a=some (.dT kvs)):kvs.length<=sizeLine/\(a == sysModules)=false /\
 ∃ xs,KT H kvs xs/\h.DictOfH (tupleKind (bL P w)) a xs:=uP ok (.inl e)
end
noncomputable def jT(H:Hp)(a:Addr)(y:V)(r:Option V):Prop :=
 (∃ kvs k,Rd H a (.dK kvs)/\y=kV k/\r=jp kvs k)\/∃ kvs k b,Rd H a (.dT kvs)/\y = .ref b/\H b=some (.tup (k.map kV))/\r=jp kvs k
noncomputable def p5(H:Hp)(a:Addr)(y v:V)(H':Hp):Prop :=
 (∃ kvs k,H a=some (.dK kvs)/\y=kV k/\kvs.length < sizeLine/\H'=upd H a (.dK (jb kvs k v))) \/
 ∃ kvs k b,H a=some (.dT kvs)/\y = .ref b/\H b=some (.tup (k.map kV))/\kvs.length < sizeLine/\H'=upd H a (.dT (jb kvs k v))
theorem jT.k{H:Hp}{a:Addr}{kvs:List (Key×V)}{k:Key}(e:H a=some (.dK kvs)):jT H a (kV k) (jp kvs k):= .inl ⟨kvs,k,.inl e,rfl,rfl⟩
theorem jT.t{H:Hp}{a b:Addr}{kvs:List (List Key×V)}{k:List Key}(e:H a=some (.dT kvs))(eb:H b=some (.tup (k.map kV))):jT H a (.ref b) (jp kvs k):= .inr ⟨kvs,k,b,.inl e,rfl,eb,rfl⟩
theorem p5.k{H:Hp}{a:Addr}{kvs:List (Key×V)}{k:Key}{v:V}(e:H a=some (.dK kvs))(hl:kvs.length < sizeLine):p5 H a (kV k) v (upd H a (.dK (jb kvs k v))):= .inl ⟨kvs,k,e,rfl,hl,rfl⟩
theorem p5.t{H:Hp}{a b:Addr}{kvs:List (List Key×V)}{k:List Key}{v:V}(e:H a=some (.dT kvs))(eb:H b=some (.tup (k.map kV)))(hl:kvs.length < sizeLine) :
 p5 H a (.ref b) v (upd H a (.dT (jb kvs k v))):= .inr ⟨kvs,k,b,e,rfl,eb,hl,rfl⟩
section
variable{X:Cx}{pins:List (Addr×Obj)}{σ:St}{H:Hp}{s:Shared}{a:Addr}{y v:V}{u r:Value}{o:Option V}{A:Around}{E:Value->Shared->Prop}
theorem Inv.big(I:Inv X pins σ H s):sysModules < s.heap.objs.size:=by
 have h:mainGlobals < s.heap.objs.size:=(I.mod.glob.keeps I.bk).lt;exact Nat.lt_trans (by decide) h
theorem vU{Q:Value->Shared->Prop}(hu:A.units+1 < cLine)(I:Inv X pins σ H s)(g:jT H a y (some v))(ry:aB y u)(h:∀ w' s',Inv X pins σ H s'->aB v w'->Q w' s') :
 wpAny (model X.prog X.w) A (getItem (.ref a) u) Q E s:=by
 rcases g with ⟨kvs,k,e,ey,l⟩ | ⟨kvs,k,b,e,ey,eb,l⟩
 ·subst ey
  obtain ⟨z,hd,vs,rel,dd⟩:=rm I.hok e;obtain ⟨w',hw,rw'⟩:=nF.some_of (v:=v) (o:=valueAt vs k) (by rw [l];exact rel.val k);exact wpAny_getItem_of (uF ry) dd.mapOf hw (h w' _ (I.tok _) rw')
 ·subst ey
  cases (show u=Value.ref b from ry);obtain ⟨z,hd,xs,rel,dd⟩:=uP I.hok e;obtain ⟨w',hw,rw'⟩:=nF.some_of (v:=v) (o:=(atKey xs k).map (·.2)) (by rw [l];exact rel.val k);obtain ⟨p,hp,hp2⟩:=De.mp hw;refine wpAny_getItem_heap (tupleKind_room_in1 hu) (px I.hok eb) dd hp ?_;rw [hp2];exact h w' _ (I.tok _) rw'
theorem d_in{Q:Value->Shared->Prop}(hu:A.units+1 < cLine)(I:Inv X pins σ H s)(g:jT H a y o)(ry:aB y u)(h:∀ s',Inv X pins σ H s'->Q (.bool o.isSome) s') :
 wpAny (model X.prog X.w) A (compareOp .In u (.ref a)) Q E s:=by
 rcases g with ⟨kvs,k,e,ey,l⟩ | ⟨kvs,k,b,e,ey,eb,l⟩
 ·subst ey
  obtain ⟨z,hd,vs,rel,dd⟩:=rm I.hok e;refine wpAny_in_of (uF ry) hd dd.mapOf ?_;rw [<- (rel.val k).isSome_eq,<- l];exact h _ (I.tok _)
 ·subst ey
  cases (show u=Value.ref b from ry);obtain ⟨z,hd,xs,rel,dd⟩:=uP I.hok e;refine wpAny_in_heap (tupleKind_room_in1 hu) (px I.hok eb) hd dd ?_;have q:=(rel.val k).isSome_eq;rw [Option.isSome_map] at q;rw [<- q,<- l];exact h _ (I.tok _)
theorem uT{h':Heap}{t':Nat}{ob:HO}(I:Inv X pins σ H s)(mu:Mut (H a))(hs:Heap.SameBut a s.heap h')(he:∃ q,h'.get? a=some q)(new:bH X.prog X.w (upd H a ob) h' a ob) :
 Inv X pins σ (upd H a ob) { s with heap:=h',toks:=t' } :=
 I.write (x:=a) (e:=a) mu (.inl rfl) (fun b q hb z=>(hs.2 b hb).trans z) he new
theorem dk_new{P:Program}{w:World}{H':Hp}{h':Heap}{kvs:List (Key×V)}{vs:List (Key×Value)}(z:kvs.length<=sizeLine)(hd:(a == sysModules)=false)(rel:KV kvs vs)(dd:h'.DictOf (bL P w) a vs) :
 bH P w H' h' a (.dK kvs):=⟨z,hd,vs,rel,dd⟩
theorem vT{H':Hp}{Q:Unit->Shared->Prop}(hu:A.units+1 < cLine)(I:Inv X pins σ H s)(g:p5 H a y v H')(ry:aB y u)(rv:aB v r)(h:∀ s',Inv X pins σ H' s'->Q () s') :
 wpAny (model X.prog X.w) A (setItem (.ref a) u r) Q E s:=by
 rcases g with ⟨kvs,k,e,ey,l,eH⟩ | ⟨kvs,k,b,e,ey,eb,l,eH⟩
 ·subst ey eH
  obtain ⟨z,hd,vs,rel,dd⟩:=dk_of I.hok e
  have hz:vs.length<=sizeLine:=by rw [<- rel.length];exact z
  have hl:(jb kvs k v).length<=sizeLine:=by have:=kJ kvs k v;omega
  refine wpAny_setItem_pairs (hsz:=hz) (uF ry) dd fun h' dd' hs=>h _ ?_
  have he:∃ q,h'.get? a=some q:=let ⟨q,_,_,hq,_⟩:=dd';⟨q,hq⟩;exact uT I (by rw [e];exact True.intro) hs he (dk_new hl hd (rel.put k rv) dd')
 ·subst ey eH
  cases (show u=Value.ref b from ry);obtain ⟨z,hd,xs,rel,dd⟩:=dt_of I.hok e
  have hz:xs.length<=sizeLine:=by rw [<- Paired.length rel];exact z
  have hl:(jb kvs k v).length<=sizeLine:=by have:=kJ kvs k v;omega
  refine wpAny_setItem_heap (hsz:=hz) (tupleKind_room_in1 hu) (px I.hok eb) dd fun h' dd' hs=>h _ ?_
  obtain ⟨q,es,ep,hq,h2,h3,h4,_,h5⟩:=dd';refine uT I (by rw [e];exact True.intro) hs ⟨q,hq⟩ ⟨hl,hd,_,(rel.put k eb rv).keeps fun c ys ec=> ?_,q,es,ep,hq,h2,h3,h4,h5⟩;rw [ah (ne_of ec e (fun z=>nomatch z))];exact ec
end
section
variable{X:Cx}{pins:List (Addr×Obj)}{σ:St}{H:Hp}{s:Shared}{a:Addr}{kvs:List (Key×V)}{k:Key}{u:Value}{A:Around}{E:Value->Shared->Prop}
theorem d_len{Q:Value->Shared->Prop}(I:Inv X pins σ H s)(e:Rd H a (.dK kvs))(h:∀ t s',Inv X pins σ H s'->Q (.int kvs.length t) s'):wpAny (model X.prog X.w) A (call (.builtin "len") [.ref a]) Q E s:=by
 obtain ⟨z,hd,vs,rel,dd⟩:=rm I.hok e;refine call_len_dict hd dd (by rw [<- rel.length];rw [sizeLine_eq] at z;omega) ?_;rw [<- rel.length];exact h _ _ (I.tok _)
end
noncomputable def NoSl(i:Expr):Prop:=∀ ov iv,subscripted i false ov iv=operate [ov,iv] (getItem ov iv)
theorem zS{prog:Program}{w:World}{A:Around}{E:Value->Shared->Prop}{s:Shared}{env:Env}{value slice:Expr}{pos:Pos}{T id:String}{Q:Value->Shared->Prop}
 (hl:typeLookup (.type T) "__getitem__" = pure (some (.builtin id))) (hs:NoSl slice)
 (h:wpAny (model prog w) A (eval value env) (fun o s₁=>wpAny (model prog w) A (eval slice env) (fun i s₂=>s₂.TypeIs o T/\wpAny (model prog w) A (getItem o i) Q E s₂) E s₁) E s) :
 wpAny (model prog w) A (eval (.Subscript value slice pos) env) Q E s:=by
 refine Subscript_ (Dy h (fun o s₁ h₁=>Dy h₁ (fun i s₂ h₂=> ?_) fun _ _ x=>x) fun _ _ x=>x);obtain ⟨hT,h₂⟩:=h₂;unfold subscriptTail;refine Cg ?_;rw [getitemInPython_of_ne hT.not_modules];refine Cg (wpAny_specialOf hT hl ?_)
 have fin:wpAny (model prog w) A (subscripted slice false o i) (fun r s₃=>wpAny (model prog w) A (letTemporaryGo value o r >>= fun _=>pure r) Q E s₃) E s₂:=by
  rw [hs o i];exact wpAny_operating (Dy h₂ (fun r s₃ h₃=>Cg (wpAny_letTemporaryGo (wpAny_pure h₃))) fun _ _ x=>x)
 first
  | exact wpAny_pure (Cg fin)
  | exact Cg (wpAny_pure (Cg fin))
  | exact Cg fin
theorem rn{X:Cx}{pins:List (Addr×Obj)}{σ:St}{H:Hp}{s:Shared}{a:Addr}{y:V}{o:Option V}(I:Inv X pins σ H s)(g:jT H a y o):s.TypeIs (.ref a) "dict" := by
 rcases g with ⟨kvs,k,e,_,_⟩ | ⟨kvs,k,b,e,_,_,_⟩
 ·obtain ⟨_,_,vs,_,dd⟩:=rm I.hok e
  exact dd.typeIs
 ·obtain ⟨_,_,xs,_,dd⟩:=uP I.hok e
  exact dd.typeIs
noncomputable def tDGet(td ty:TE):TE:=fun σ H Q=>td σ H fun x H1=>ty σ H1 fun y H2=>∃ a v,x = .ref a/\jT H2 a y (some v)/\Q v H2
noncomputable def sDPut(td ty tv:TE):TS:=fun D σ H=>tv σ H fun v H1=>td σ H1 fun x H2=>ty σ H2 fun y H3=>∃ a H4,x = .ref a/\p5 H3 a y v H4/\D.nx σ H4
section
variable{X:Cx}{o i e value:Expr}{pos pos' tpos:Pos}{td ty tv:TE}
theorem AG(hu:X.A.units+1 < cLine)(ho:PE X o td)(hi:PE X i ty)(hs:NoSl i):PE X (.Subscript o i pos) (tDGet td ty):=by
 intro pins s σ H Q I h;refine zS PySem.F.slot_dict_getitem.lookup hs (thn (ho pins s σ H _ I h) fun u s1 ⟨x,H1,I1,rx,q1⟩=>thn (hi pins s1 σ H1 _ I1 q1) fun iv s2 ⟨y,H2,I2,ry,a,v,ex,g,q2⟩=> ?_);subst ex;obtain rfl:u=Value.ref a:=rx;exact ⟨rn I2 g,vU hu I2 g ry fun w' s3 I3 rw'=>⟨v,H2,I3,rw',q2⟩⟩
theorem Ay(hu:X.A.units+1 < cLine)(ho:PE X o td)(hi:PE X i ty)(hv:PE X value tv)(hs:swapsWith value (some (.Subscript o i pos')) pos.line X.env=pure false) :
 PS X (.Assign [.Subscript o i pos'] value pos) (sDPut td ty tv):=by
 intro pins s σ H D I h;refine wpAny_Assign_Subscript (thn (hv pins s σ H _ I h) fun r s1 ⟨v,H1,I1,rv,q1⟩=>thn (ho pins s1 σ H1 _ I1 q1) fun u s2 ⟨x,H2,I2,rx,q2⟩=>thn (hi pins s2 σ H2 _ I2 q2) fun iv s3 ⟨y,H3,I3,ry,a,H4,ex,g,q3⟩=> ?_) hs;subst ex;obtain rfl:u=Value.ref a:=rx
 exact vT hu I3 g ry rv fun s4 I4=>⟨σ,H4,I4,q3⟩
end
theorem yS{P:Program}{w:World}{H:Hp}(h:Heap)(hb:sysModules < h.objs.size):bH P w H (h.push { cls:= .type "dict",data:= .dict #[] }) h.objs.size (.dK []) :=
 ⟨ED _,DY.mpr (Ne.symm (CJ hb)),[],.nil,Heap.DictOf.new h⟩
theorem yR{P:Program}{w:World}{H:Hp}(h:Heap)(hb:sysModules < h.objs.size):bH P w H (h.push { cls:= .type "dict",data:= .dict #[] }) h.objs.size (.dT []) :=
 ⟨ED _,DY.mpr (Ne.symm (CJ hb)),[],.nil,_,#[],0,Ct _ rfl,⟨rfl,rfl,rfl⟩,rfl,rfl,DJ⟩
noncomputable def tDNewK:TE:=fun _ H Q=>∀ p,H p=none->Q (.ref p) (upd H p (.dK []))
noncomputable def tDNewT:TE:=fun _ H Q=>∀ p,H p=none->Q (.ref p) (upd H p (.dT []))
section
variable{X:Cx}{pos:Pos}
theorem xA:PE X (.Dict [] [] pos) tDNewK:=fun pins s σ H Q I h =>
 wpAny_Dict_empty ⟨.ref s.heap.objs.size,_,I.laid (a:=s.heap.objs.size) (o:= .dK []) (t':=s.toks) (fun _ _ q=>Cj _ q) (Cw _) (yS s.heap I.big),rfl,h _ (I.hok.fresh (Cw _))⟩
theorem xz:PE X (.Dict [] [] pos) tDNewT:=fun pins s σ H Q I h =>
 wpAny_Dict_empty ⟨.ref s.heap.objs.size,_,I.laid (a:=s.heap.objs.size) (o:= .dT []) (t':=s.toks) (fun _ _ q=>Cj _ q) (Cw _) (yR s.heap I.big),rfl,h _ (I.hok.fresh (Cw _))⟩
end
section
variable{X:Cx}{pins:List (Addr×Obj)}{σ:St}{H:Hp}{s:Shared}{a:Addr}{y d:V}{u r:Value}{o:Option V}{A:Around}{E:Value->Shared->Prop}
end
section
variable{X:Cx}{o e f:Expr}{apos cpos:Pos}{td ty tx:TE}
end
section
variable{X:Cx}{pins:List (Addr×Obj)}{σ:St}{H:Hp}{s:Shared}{a:Addr}{kvs:List (Key×V)}{A:Around}{E:Value->Shared->Prop}
end
section
variable{X:Cx}{pins:List (Addr×Obj)}{σ:St}{H:Hp}{s:Shared}{a:Addr}{y:V}{u:Value}{A:Around}{E:Value->Shared->Prop}
end
end L2
namespace HT
open PySem PyProof.Rows
theorem yP(A:Around)(s:Shared)(a:Int)(t:Tok)(c:Int)(u:Tok):∃ e,SeqAt.EqAt A s (.int a t) (.int c u) e/\(e=true↔a=c) :=
 ⟨(a == c),SeqAt.EqAt.int_int a t c u,by simp⟩
section
open PySem.SeqAt
open PySem.AutoSeq1 (wpAny_loadPart')
open PySem.MeetsSeq PySem.MeetsSeq2 PySem.MeetsSeq3
end
section
variable{prog:Program}{w:World}{A:Around}{E:Value->Shared->Prop}{s:Shared}
theorem Bt{t b:Addr}{vs ws:List Value}{Q:Value->Shared->Prop}(ht:IsTup s.heap t vs.toArray)(hb:IsTup s.heap b ws.toArray)(hv:vs≠[])
 (h1:ws=[]->Q (.ref t) s) (h2:ws≠[]->Q (.ref s.heap.objs.size) { s with heap:=s.heap.push { cls:= .type "tuple",data:= .seq (vs++ws).toArray } })
 (hsz:vs.length+ws.length<=sizeLine):wpAny (model prog w) A (binaryOp .Add (.ref t) (.ref b)) Q E s:=by
 obtain ⟨⟨cls,dd,data,sl⟩,ho,hc,n,hd⟩:=id ht;obtain ⟨⟨cls2,dd2,data2,sl2⟩,ho2,hc2,n2,hd2⟩:=id hb;simp only at hc hd hc2 hd2;subst hc hd hc2 hd2
 have e:vs.toArray++ws.toArray=(vs++ws).toArray:=by simp
 by_cases hw:ws=[]
 ·exact concat_meets ⟨_,ho,rfl⟩ ⟨_,ho2,rfl⟩ noFill_tuple_add seq_tuple_add PySem.F.slot_tuple_add PySem.F.entry_tuple_add (PySem.F.args_tuple_add_2 _ _)
   (tuple_addW1 t b vs.toArray ws.toArray n n2 dd dd2 sl sl2 (by simpa using hv) (by simp [hw])) ⟨ho,ho2,h1 hw⟩
 ·refine concat_meets ⟨_,ho,rfl⟩ ⟨_,ho2,rfl⟩ noFill_tuple_add seq_tuple_add PySem.F.slot_tuple_add PySem.F.entry_tuple_add (PySem.F.args_tuple_add_2 _ _)
   (tuple_addW2 t b vs.toArray ws.toArray n n2 dd dd2 sl sl2 (by simpa using hv) (by simpa using hw) (by rw [Cm,Cm];exact hsz)) ⟨ho,ho2,?_⟩
  rw [e];exact h2 hw
noncomputable def sIx(n d:Nat):Option Int->Nat
 | none=>d
 | some v=>if v < 0 then (v+(n:Int)).toNat else min v.toNat n
theorem sj(n d:Nat)(hd:d<=n)(o:Option Int):sIx n d o<=n:=by
 cases o with
 | none=>exact hd
 | some v =>
  show (if v < 0 then (v+(n:Int)).toNat else min v.toNat n)<=n
  by_cases hv:v < 0
  ·rw [if_pos hv];omega
  ·rw [if_neg hv];exact Nat.min_le_right _ _
theorem uW(v:Int)(n d:Nat):(if v < 0 then max (v+(n:Int)) 0 else min v (n:Int))=((sIx n d (some v):Nat):Int):=by
 show (if v < 0 then max (v+(n:Int)) 0 else min v (n:Int))=(((if v < 0 then (v+(n:Int)).toNat else min v.toNat n):Nat):Int)
 by_cases hv:v < 0
 ·simp only [if_pos hv];omega
 ·simp only [if_neg hv];omega
theorem t4(lo hi:Option Int)(n:Nat):Builtin.Slice.sliceAdjust lo hi 1 (n:Int)=(((sIx n 0 lo:Nat):Int),((sIx n n hi:Nat):Int)):=by
 have h1:¬ ((1:Int) < 0):=by omega
 unfold Builtin.Slice.sliceAdjust;simp only [h1,if_false];refine Prod.ext ?_ ?_
 ·cases lo with
  | none=>rfl
  | some v=>exact uW v n 0
 ·cases hi with
  | none=>rfl
  | some v=>exact uW v n n
theorem sK(i j:Nat):Builtin.Slice.slicePlaces (i:Int) (j:Int) 1=j - i:=by
 unfold Builtin.Slice.slicePlaces
 have h1:(1:Int) > 0:=by omega
 simp only [h1,if_true,Int.ediv_one]
 split<;>omega
theorem iT{v:Value}{o:Option Int}{Q:Option Int->Shared->Prop}(p:IsPart v o)(h:Q o s):wpAny (model prog w) A (Builtin.Slice.slicePartIndex v) Q E s:=by
 cases p with
 | none=>exact slicePart_none h
 | int i t=>exact slicePart_int h
theorem fj{sl:Addr}{vl vu:Value}{lo hi:Option Int}{n:Nat}{Q:Int×Int×Nat->Shared->Prop}(hs:s.heap.IsSliceOf sl vl vu .none)(pl:IsPart vl lo)(pu:IsPart vu hi)
 (h:Q (((sIx n 0 lo:Nat):Int),1,sIx n n hi - sIx n 0 lo) s):wpAny (model prog w) A (Builtin.Slice.sliceApplied (.ref sl) (pure (n:Int))) Q E s:=by
 obtain ⟨os,hos,hcs,hds⟩:=id hs;unfold Builtin.Slice.sliceApplied Builtin.Slice.sliceFields;refine Cg (Cg (Dh hos hds (x:=vl) rfl (Cg (Dh hos hds (x:=vu) rfl (Cg (Dh hos hds (x:= .none) rfl (wpAny_pure ?_)))))));refine Cg (slicePart_none ?_)
 show wpAny _ _ (if ((1:Int) == 0)=true then _ else _) _ _ s
 rw [if_neg (by decide)];refine Cg (iT pl (Cg (iT pu (Cg (wpAny_pure ?_)))))
 show wpAny _ _ (match Builtin.Slice.sliceAdjust lo hi 1 (n:Int) with | (lo,hi)=>pure (lo,(1:Int),Builtin.Slice.slicePlaces lo hi 1)) _ _ s
 rw [t4 lo hi n]
 show wpAny _ _ (pure (((sIx n 0 lo:Nat):Int),(1:Int),Builtin.Slice.slicePlaces ((sIx n 0 lo:Nat):Int) ((sIx n n hi:Nat):Int) 1)) _ _ s
 rw [sK];exact wpAny_pure h
theorem xt(xs:Array Value)(i k:Nat):((List.range k).filterMap fun (m:Nat)=>xs[((i:Int)+(m:Int) * 1).toNat]?).toArray=((xs.toList.drop i).take k).toArray:=by
 have e:(fun (m:Nat)=>xs[((i:Int)+(m:Int) * 1).toNat]?)=fun m=>xs[i+m]?:=by
  funext m
  have:((i:Int)+(m:Int) * 1).toNat=i+m:=by omega
  rw [this]
 rw [e];have:=pick_run xs i k;rw [List.filterMap_map] at this
 have e2:((fun x=>xs[x]?) ∘ fun x=>i+x)=fun m=>xs[i+m]?:=rfl
 rw [e2] at this;rw [this]
theorem jI{t sl:Addr}{items:Array Value}{vl vu:Value}{lo hi:Option Int}{Q:Value->Shared->Prop}(ht:IsTup s.heap t items)(hs:s.heap.IsSliceOf sl vl vu .none)(pl:IsPart vl lo)(pu:IsPart vu hi)
 (hw:¬ (sIx items.size 0 lo=0/\sIx items.size items.size hi=items.size))
 (h:Q (.ref s.heap.objs.size) { s with heap:=s.heap.push { cls:= .type "tuple",data:= .seq ((items.toList.drop (sIx items.size 0 lo)).take (sIx items.size items.size hi - sIx items.size 0 lo)).toArray } })
 (hsz:items.size<=sizeLine):wpAny (model prog w) A (getItem (.ref t) (.ref sl)) Q E s:=by
 have htake:sizeOk (.seq ((items.toList.drop (sIx items.size 0 lo)).take (sIx items.size items.size hi - sIx items.size 0 lo)).toArray):=by
  show ((items.toList.drop (sIx items.size 0 lo)).take (sIx items.size items.size hi - sIx items.size 0 lo)).toArray.size<=sizeLine
  rw [Cm,DH,EJ,Da];omega
 have hj:sIx items.size items.size hi<=items.size:=sj _ _ (Cw _) hi;obtain ⟨os,hos,hcs,hds⟩:=id hs;have hTs:s.TypeIs (.ref sl) "slice" := ⟨os,hos,hcs⟩;unfold getItem
 try with_reducible refine DC ?_
 first | refine Cg (wpAny_pure ?_) | skip
 refine Cg (wpAny_sequenceKey ht.typeIs (by decide) ?_)
 refine Cg (CZ (name:=Str.ofString "__getitem__") ht.typeIs PyProof.Rows.slot_tuple_getitem
  (C6 PyProof.Rows.slot_tuple_getitem ht.typeIs entry_tuple_getitem ?_ (args_tuple_getitem _ _)))
 show wpAny _ _ (Builtin.Tuple.tupleItemsOf (.ref t) >>= _) _ _ s
 refine Cg (tupleItemsOf_ ht ?_);refine Cg (ET hTs ?_);rw [if_pos (by decide)];refine Cg (fj hs pl pu ?_)
 have hno:¬ ((((sIx items.size 0 lo:Nat):Int) == 0&&(1:Int) == 1&&(sIx items.size items.size hi - sIx items.size 0 lo) == items.size)=true):=by
  intro q;rw [CD,CD] at q;have q1:((sIx items.size 0 lo:Nat):Int)=0:=eq_of_beq q.1.1;have q2:sIx items.size items.size hi - sIx items.size 0 lo=items.size:=eq_of_beq q.2;exact hw ⟨by omega,by omega⟩
 show wpAny _ _ (if (((sIx items.size 0 lo:Nat):Int) == 0&&(1:Int) == 1&&(sIx items.size items.size hi - sIx items.size 0 lo) == items.size)=true then _ else _) _ _ s
 rw [if_neg hno,xt]
 first
  | exact Cg (m:=Builtin.Tuple.tupleExact _) (CW (wpAny_pure ⟨_,rfl,wpAny_pure h⟩) htake)
  | exact Cg (m:=Builtin.Tuple.tupleExact _) (CW (Cg (wpAny_pure (wpAny_pure ⟨_,rfl,wpAny_pure h⟩))) htake)
  | exact Cg (Cg (m:=Builtin.Tuple.tupleExact _) (CW (wpAny_pure (wpAny_pure ⟨_,rfl,wpAny_pure h⟩)) htake))
  | exact Cg (Cg (m:=Builtin.Tuple.tupleExact _) (CW (wpAny_pure ⟨_,rfl,wpAny_pure h⟩) htake))
end
end HT
namespace L2
open PySem PySem.Spec PyProof.Rows
abbrev TO:=St->Hp->(Option Int->Hp->Prop)->Prop
noncomputable def PO(X:Cx)(e:Option Expr)(t:TO):Prop :=
 ∀ (pins:List (Addr×Obj)) (s:Shared) (σ:St) (H:Hp) (Q:Option Int->Hp->Prop),Inv X pins σ H s->t σ H Q ->
  wpAny (model X.prog X.w) X.A (evalPart e X.env) (fun u s'=>∃ o H',Inv X pins σ H' s'/\IsPart u o/\Q o H') X.xe s
noncomputable def zP:TO:=fun _ H Q=>Q none H
noncomputable def BJ(t:TE):TO:=fun σ H Q=>t σ H fun x H1=>∃ i,x = .int i/\Q (some i) H1
theorem dj{ns:List Int}:∀ {us:List Value},aw (ns.map V.int) us->IntsAre us ns:=by
 induction ns with
 | nil=>intro us r;rw [Eg] at r;cases r;exact .nil
 | cons n ns ih =>
  intro us r;rw [CF] at r
  cases r with
  | cons r1 r2 =>
   obtain ⟨t,e⟩:=r1;subst e;exact .cons n t (ih r2)
section
variable{X:Cx}{e:Expr}{te:TE}{lo hi:Option Expr}{tl th:TO}{pos p2:Pos}
theorem Az:PO X none zP:=by
 intro pins s σ H Q I h;rw [evalPart_none];exact wpAny_pure ⟨none,H,I,.none,h⟩
theorem lC(h:PE X e te):PO X (some e) (BJ te):=by
 intro pins s σ H Q I hw;rw [evalPart_some]
 refine thn (h pins s σ H _ I hw) fun u s1 ⟨x,H1,I1,r1,q1⟩=> ?_
 obtain ⟨i,rfl,q⟩:=q1;obtain ⟨t,rfl⟩:=r1;exact ⟨some i,H1,I1,.int i t,q⟩
noncomputable def SlR(X:Cx)(r:V->Option Int->Option Int->Hp->VK->Prop):Prop :=
 ∀ (pins:List (Addr×Obj)) (s:Shared) (σ:St) (H:Hp) (x:V) (v vl vu:Value) (lo hi:Option Int) (sl:Addr) (Q:VK),Inv X pins σ H s->aB x v->s.heap.IsSliceOf sl vl vu .none->IsPart vl lo->IsPart vu hi->r x lo hi H Q ->
  ∃ T id,typeLookup (.type T) "__getitem__" = pure (some (.builtin id))/\s.TypeIs v T/\wpAny (model X.prog X.w) X.A (getItem v (.ref sl)) (EP X pins σ Q) X.xe s
theorem SlR.or{r r':V->Option Int->Option Int->Hp->VK->Prop}(h:SlR X r)(h':SlR X r'):SlR X (fun x lo hi H Q=>r x lo hi H Q\/r' x lo hi H Q):=by
 intro pins s σ H x v vl vu lo hi sl Q I rx hs pl pu q
 rcases q with q | q
 ·exact h pins s σ H x v vl vu lo hi sl Q I rx hs pl pu q
 ·exact h' pins s σ H x v vl vu lo hi sl Q I rx hs pl pu q
noncomputable def tSl(r:V->Option Int->Option Int->Hp->VK->Prop)(te:TE)(tl th:TO):TE:=fun σ H Q=>te σ H fun x H1=>tl σ H1 fun l H2=>th σ H2 fun u H3=>r x l u H3 Q
theorem qB{r:V->Option Int->Option Int->Hp->VK->Prop}(hr:SlR X r)(he:PE X e te)(hl:PO X lo tl)(hu:PO X hi th):PE X (.Subscript e (.Slice lo hi none p2) pos) (tSl r te tl th):=by
 intro pins s σ H Q I h;refine Subscript_ (thn (he pins s σ H _ I h) fun v s1 ⟨x,H1,I1,r1,q1⟩=> ?_);refine wpAny_Slice (thn (hl pins s1 σ H1 _ I1 q1) fun vl s2 ⟨l,H2,I2,pl,q2⟩=>thn (hu pins s2 σ H2 _ I2 q2) fun vu s3 ⟨u,H3,I3,pu,q3⟩=> ?_);rw [evalPart_none];refine wpAny_pure ?_
 have I4:Inv X pins σ H3 { s3 with heap:=s3.heap.push { cls:= .type "slice",data:= .fields #[vl,vu,.none] } }:=I3.kept (t':=s3.toks) fun b ob q=>Cj _ q
 obtain ⟨T,id,hT,ht,hg⟩:=hr pins { s3 with heap:=s3.heap.push { cls:= .type "slice",data:= .fields #[vl,vu,.none] } } σ H3 x v vl vu l u s3.heap.objs.size Q I4 r1 (Heap.IsSliceOf.new ..) pl pu q3
 show wpAny (model X.prog X.w) X.A (subscriptTail e (.Slice lo hi none p2) v (.ref s3.heap.objs.size)) (EP X pins σ Q) X.xe { s3 with heap:=s3.heap.push { cls:= .type "slice",data:= .fields #[vl,vu,.none] } }
 exact tail_any (ops:=[.ref s3.heap.objs.size,v]) ht hT hg (by with_unfolding_all rfl)
noncomputable def mI(xs:List V)(lo hi:Option Int):List V:=(xs.drop (HT.sIx xs.length 0 lo)).take (HT.sIx xs.length xs.length hi - HT.sIx xs.length 0 lo)
theorem kP(xs:List V)(lo hi:Option Int):(mI xs lo hi).length<=xs.length:=by
 unfold mI;rw [DH,EJ];omega
noncomputable def rSlT(K:E2):V->Option Int->Option Int->Hp->VK->Prop:=fun x lo hi H Q=>∃ a xs,x = .ref a/\SqT K H a xs /\
 ¬ (HT.sIx xs.length 0 lo=0/\HT.sIx xs.length xs.length hi=xs.length)/\∀ p,H p=none->Q (.ref p) (upd H p (.tup (mI xs lo hi)))
theorem sl_tup:SlR X (rSlT X.K):=by
 intro pins s σ H x v vl vu lo hi sl Q I rx hs pl pu h;obtain ⟨a,xs,rfl,hx,hw,q⟩:=h;cases rx;obtain ⟨its,r,ht,hz⟩:=I.tuple hx
 have hlen:its.toArray.size=xs.length:=by rw [Cm];exact r.length.symm
 refine ⟨"tuple",_,PyProof.Rows.slot_tuple_getitem.lookup,ht.typeIs,?_⟩;refine HT.jI ht hs pl pu (by rw [hlen];exact hw) ?_ (by rw [hlen];exact hz);rw [hlen];refine ⟨.ref s.heap.objs.size,_,I.laid (t':=s.toks) (o:= .tup (mI xs lo hi)) (fun b ob q=>Cj _ q) (Cw _) ?_,rfl,q _ (I.hok.fresh (Cw _))⟩;exact ⟨DD (kP xs lo hi) hz,_,(r.drop (HT.sIx xs.length 0 lo)).take (HT.sIx xs.length xs.length hi - HT.sIx xs.length 0 lo),IsTup.new _ _⟩
noncomputable def rCatT(K:E2):R2:=fun x y H Q=>∃ a b xs ys,x = .ref a/\y = .ref b/\SqT K H a xs/\SqT K H b ys/\xs≠[]/\xs.length+ys.length<=sizeLine /\
 (ys=[]->Q (.ref a) H)/\(ys≠[]->∀ p,H p=none->Q (.ref p) (upd H p (.tup (xs++ys))))
theorem aw.nil_iff{xs:List V}{us:List Value}(r:aw xs us):us=[]↔xs=[]:=by
 cases r with
 | nil=>simp
 | cons _ _=>simp
theorem AS:OpR X (binaryOp .Add) (rCatT X.K):=by
 intro pins s σ H x y v u Q I rx ry h;obtain ⟨a,b,xs,ys,rfl,rfl,ha,hb,hx,hz,q1,q2⟩:=h;cases rx;cases ry;obtain ⟨its,r1,p1,_⟩:=I.tuple ha;obtain ⟨its2,r2,p2,_⟩:=I.tuple hb;refine HT.Bt p1 p2 (fun z=>hx (r1.nil_iff.mp z)) (fun z=>⟨.ref a,H,I,rfl,q1 (r2.nil_iff.mp z)⟩) (fun z=> ?_) (by rw [<- r1.length,<- r2.length];exact hz);refine ⟨.ref s.heap.objs.size,_,I.laid (t':=s.toks) (o:= .tup (xs++ys)) (fun b ob q=>Cj _ q) (Cw _) ?_,rfl,q2 (fun w=>z (r2.nil_iff.mpr w)) _ (I.hok.fresh (Cw _))⟩;exact ⟨by rw [Cy];exact hz,_,r1.append r2,IsTup.new _ _⟩
end
noncomputable def ixN(n:Nat)(i:Int):Option Nat:=if 0<=i then (if i < n then some i.toNat else none) else if -(n:Int)<=i then some (i+n).toNat else none
noncomputable def atI{α:Type}(xs:List α)(i:Int):Option α:=(ixN xs.length i).bind fun j=>xs[j]?
theorem uG{n:Nat}{i:Int}{j:Nat}(h:ixN n i=some j):seqIndex? i n=some j/\j < n /\ -(n:Int)<=i/\i < n:=by
 unfold ixN at h
 by_cases h0:0<=i
 ·rw [if_pos h0] at h
  by_cases h1:i < n
  ·rw [if_pos h1] at h
   have e:i.toNat=j:=Option.some.inj h;exact ⟨by rw [seqIndex_of h0 h1,e],by omega,by omega,h1⟩
  ·rw [if_neg h1] at h;cases h
 ·rw [if_neg h0] at h
  by_cases h1 : -(n:Int)<=i
  ·rw [if_pos h1] at h
   have e:(i+n).toNat=j:=Option.some.inj h;exact ⟨by rw [seqIndex_neg (by omega) h1,e],by omega,h1,by omega⟩
  ·rw [if_neg h1] at h;cases h
theorem pV{α:Type}{xs:List α}{i:Int}{v:α}(h:atI xs i=some v):∃ j,seqIndex? i xs.length=some j/\xs[j]?=some v/\j < xs.length /\ -(xs.length:Int)<=i/\i < xs.length:=by
 unfold atI at h
 cases e:ixN xs.length i with
 | none=>rw [e] at h;cases h
 | some j =>
  rw [e] at h;obtain ⟨h1,h2,h3,h4⟩:=uG e;exact ⟨j,h1,h,h2,h3,h4⟩
theorem BB{α:Type}{xs:List α}{j:Nat}{v:α}(h:xs[j]?=some v):atI xs (j:Int)=some v:=by
 have hj:j < xs.length:=(Cv.mp h).1
 have e:ixN xs.length (j:Int)=some j:=by
  unfold ixN;rw [if_pos (by omega),if_pos (by omega)];simp
 unfold atI;rw [e];exact h
noncomputable def pY(b:Expr):Prop:=∀ o i,subscripted b false o i=operate [o,i] (getItem o i)
noncomputable def IxR(X:Cx)(r:R2):Prop :=
 ∀ (value slice:Expr) (pins:List (Addr×Obj)) (s:Shared) (σ:St) (H:Hp) (x y:V) (v u:Value) (Q:VK),Inv X pins σ H s->aB x v->aB y u->r x y H Q ->
  subscripted slice false v u=operate [v,u] (getItem v u)->wpAny (model X.prog X.w) X.A (subscriptTail value slice v u) (EP X pins σ Q) X.xe s
noncomputable def MtR(X:Cx)(id:String)(r:V->List V->Hp->VK->Prop):Prop :=
 ∀ (pins:List (Addr×Obj)) (s:Shared) (σ:St) (H:Hp) (x:V) (xs:List V) (v:Value) (us:List Value) (Q:VK),Inv X pins σ H s->aB x v->aw xs us->r x xs H Q ->
  wpAny (model X.prog X.w) X.A (call (.builtin id) (v::us)) (EP X pins σ Q) X.xe s
section
variable{X:Cx}{a b:Expr}{ta tb:TE}{pos:Pos}
theorem IxR.or{r r':R2}(h:IxR X r)(h':IxR X r'):IxR X (fun x y H Q=>r x y H Q\/r' x y H Q):=by
 intro value slice pins s σ H x y v u Q I rx ry q hs
 rcases q with q | q
 ·exact h value slice pins s σ H x y v u Q I rx ry q hs
 ·exact h' value slice pins s σ H x y v u Q I rx ry q hs
theorem cK{r:R2}(hr:IxR X r)(ha:PE X a ta)(hb:PE X b tb)(hs:pY b):PE X (.Subscript a b pos) (tOp r ta tb):=by
 intro pins s σ H Q I h;exact Subscript_ (binT ha hb I h fun v u s2 x y H2 I2 rx ry q=>hr a b pins s2 σ H2 x y v u Q I2 rx ry q (hs _ _))
noncomputable def lU(K:E2):R2:=fun x y H Q=>∃ p xs i v,x = .ref p/\y = .int i/\SqL K H p xs/\atI xs i=some v/\Q v H
noncomputable def As(K:E2):R2:=fun x y H Q=>∃ p xs i v,x = .ref p/\y = .int i/\SqT K H p xs/\atI xs i=some v/\Q v H
noncomputable def rIxS:R2:=fun x y H Q=>∃ z i c,x = .str z/\y = .int i/\z.length<=sizeLine/\atI z.cps.toList i=some c/\Q (.str ⟨#[c]⟩) H
theorem bz:IxR X (lU X.K):=by
 intro value slice pins s σ H x y v u Q I rx ry h hs;obtain ⟨p,xs,i,z,rfl,rfl,hq,he,q⟩:=h;cases rx;obtain ⟨t,rfl⟩:=ry;obtain ⟨its,r,pl,hz⟩:=I.list hq;obtain ⟨j,h1,h2,h3,h4,h5⟩:=pV he;obtain ⟨w,ew,rw'⟩:=r.get h2;have hl:=r.length;have hn:=kj;have fin:EP X pins σ Q w s:=⟨z,H,I,rw',q⟩
 by_cases h0:0<=i
 ·have hj:i.toNat=j:=by
   rw [seqIndex_of h0 h5] at h1;exact Option.some.inj h1
  exact item_listR pl.isList h0 (by omega) (by rw [hj];simpa using ew) fin hs
 ·have hj:(i+(its.toArray.size:Int)).toNat=j:=by
   rw [seqIndex_neg (by omega) h4] at h1;rw [Cm,<- hl];exact Option.some.inj h1
  exact subscriptTail_builtinR (x:=w) pl.isList.typeIs slot_list_getitem.lookup
   (wpAny_getItem_list_neg (Q:=fun r s'=>r=w/\EP X pins σ Q r s') pl.isList (by omega) (by rw [Cm]<;>omega) (by omega) (by rw [hj];simpa using ew) ⟨rfl,fin⟩) hs
theorem sV:IxR X (As X.K):=by
 intro value slice pins s σ H x y v u Q I rx ry h hs;obtain ⟨p,xs,i,z,rfl,rfl,hq,he,q⟩:=h;cases rx;obtain ⟨t,rfl⟩:=ry;obtain ⟨its,r,pl,hz⟩:=I.tuple hq;obtain ⟨j,h1,h2,h3,h4,h5⟩:=pV he;obtain ⟨w,ew,rw'⟩:=r.get h2;have hl:=r.length;have hn:=kj;have fin:EP X pins σ Q w s:=⟨z,H,I,rw',q⟩
 exact subscriptTail_builtinR (x:=w) pl.typeIs slot_tuple_getitem.lookup
  (getItem_tuple (j:=j) (Q:=fun r s'=>r=w/\EP X pins σ Q r s') pl (by omega) (by omega) (by rw [Cm,<- hl];exact h1) (by simpa using ew) ⟨rfl,fin⟩) hs
theorem ix_str:IxR X rIxS:=by
 intro value slice pins s σ H x y v u Q I rx ry h hs;obtain ⟨z,i,c,rfl,rfl,hz,he,q⟩:=h;obtain ⟨t,rfl⟩:=rx;obtain ⟨t',rfl⟩:=ry;obtain ⟨j,h1,h2,h3,h4,h5⟩:=pV he
 have hl:z.cps.toList.length=z.length:=by simp [Str.length]
 rw [hl] at h1 h4 h5;have hn:=kj
 exact tail_any (typeIs_str s z t) slot_str_getitem.lookup (getItem_str (c:=c) (by
  have e1:decide (i < -(2 ^ 63:Int))=false:=CL (by omega);have e2:decide (i>=2 ^ 63)=false:=CL (by omega)
  rw [e1,e2,EB]) (by rw [h1];simpa using h2) ⟨.str ⟨#[c]⟩,H,I.tok _,⟨_,rfl⟩,q⟩) hs
noncomputable def rIx(K:E2):R2:=fun x y H Q=>lU K x y H Q\/As K x y H Q\/rIxS x y H Q
theorem ix_seq:IxR X (rIx X.K):=bz.or (sV.or ix_str)
theorem sQ(its:List Value)(n j:Nat)(u:Value):Obj.mapSeq (·.setIfInBounds j u) { cls:= .type "list",data:= .seq its.toArray n }={ cls:= .type "list",data:= .seq (its.set j u).toArray n }:=by
 simp [Obj.mapSeq]
theorem Inv.lst{pins:List (Addr×Obj)}{σ:St}{H:Hp}{s:Shared}{p:Addr}{xs:List V}(I:Inv X pins σ H s)(h:H p=some (.lst xs)) :
 ∃ (its:List Value) (n:Nat),aw xs its/\s.heap.get? p=some { cls:= .type "list",data:= .seq its.toArray n }/\xs.length<=sizeLine:=by
 obtain ⟨z,its,n,r,e⟩:=I.hok p _ h;exact ⟨its,n,r,e,z⟩
theorem Inv.lstUpd{pins:List (Addr×Obj)}{σ:St}{H:Hp}{s:Shared}{p:Addr}{xs ys:List V}{its its':List Value}{n n':Nat}{f:Obj->Obj}(I:Inv X pins σ H s)(h:H p=some (.lst xs))
 (ho:s.heap.get? p=some { cls:= .type "list",data:= .seq its.toArray n }) (hf:f { cls:= .type "list",data:= .seq its.toArray n }={ cls:= .type "list",data:= .seq its'.toArray n' }) (r:aw ys its') (hz:ys.length<=sizeLine) (t:Nat) :
 Inv X pins σ (upd H p (.lst ys)) { s with heap:=s.heap.update p f,toks:=t }:=by
 have e:(s.heap.update p f).get? p=some { cls:= .type "list",data:= .seq its'.toArray n' }:=by
  rw [Dp f ho (by rw [hf]<;>rfl),hf]
 refine I.write (x:=p) (e:=p) (by rw [h];trivial) (.inl rfl) (fun b u hb q=>(Ed _ _ (Ne.symm hb)).trans q) ⟨_,e⟩ ?_;exact ⟨hz,its',n',r,e⟩
noncomputable def jy:V->V->V->Hp->(Hp->Prop)->Prop:=fun o i v H Q=>∃ p xs k j,o = .ref p/\i = .int k/\H p=some (.lst xs)/\ixN xs.length k=some j/\Q (upd H p (.lst (xs.set j v)))
theorem fk:PSet X jy:=by
 intro pins s σ H o i v ov iv u Q I ro ri rv h;obtain ⟨p,xs,k,j,rfl,rfl,hp,hj,q⟩:=h;cases ro;obtain ⟨t,rfl⟩:=ri;obtain ⟨its,n,r,ho,hz⟩:=I.lst hp;obtain ⟨h1,h2,h3,h4⟩:=uG hj;have hl:=r.length;have hn:=kj
 have I':Inv X pins σ (upd H p (.lst (xs.set j v))) { s with heap:=s.heap.update p (Obj.mapSeq (·.setIfInBounds j u)) } :=
  I.lstUpd hp ho (sQ its n j u) (r.set rv j) (by rw [C3];exact hz) s.toks
 by_cases h0:0<=k
 ·have hk:k.toNat=j:=by
   rw [seqIndex_of h0 h4] at h1;exact Option.some.inj h1
  exact PySem.W.ki_setAt ho h0 (by omega) (by rw [Cm,<- hl];exact h4) (by rw [hk];exact ⟨_,I',q⟩)
 ·have hk:(k+(its.toArray.size:Int)).toNat=j:=by
   rw [seqIndex_neg (by omega) h3] at h1;rw [Cm,<- hl];exact Option.some.inj h1
  exact PySem.W.ki_setBack ho (by omega) (by rw [Cm,<- hl];exact h3) (by omega) (by rw [hk];exact ⟨_,I',q⟩)
theorem oO(lo hi:Option Int)(n:Nat):(sliceBounds lo hi none n).1=((HT.sIx n 0 lo:Nat):Int)/\(sliceBounds lo hi none n).2.1=((HT.sIx n n hi:Nat):Int)/\(sliceBounds lo hi none n).2.2=1:=by
 refine ⟨?_,?_,rfl⟩
 ·cases lo with
  | none=>simp [sliceBounds,HT.sIx]
  | some i =>
   simp only [sliceBounds,HT.sIx,Option.getD_none,show (1:Int) > 0 by decide,if_true]
   by_cases h:i < 0
   ·simp only [h,if_true]<;>omega
   ·simp only [h,if_false]<;>omega
 ·cases hi with
  | none=>simp [sliceBounds,HT.sIx]
  | some i =>
   simp only [sliceBounds,HT.sIx,Option.getD_none,show (1:Int) > 0 by decide,if_true]
   by_cases h:i < 0
   ·simp only [h,if_true]<;>omega
   ·simp only [h,if_false]<;>omega
theorem na(its:List Value)(lo hi:Option Int):slicePick its.toArray lo hi none=((its.drop (HT.sIx its.length 0 lo)).take (HT.sIx its.length its.length hi - HT.sIx its.length 0 lo)).toArray:=by
 obtain ⟨h1,h2,h3⟩:=oO lo hi its.toArray.size;unfold slicePick;rw [h1,h2,h3]
 simp only [sliceRange_one,pick_run,Cm]<;>rfl
noncomputable def rSlL(K:E2):V->Option Int->Option Int->Hp->VK->Prop:=fun x lo hi H Q=>∃ a xs,x = .ref a/\SqL K H a xs/\∀ p,H p=none->Q (.ref p) (upd H p (.lst (mI xs lo hi)))
theorem zY:SlR X (rSlL X.K):=by
 intro pins s σ H x v vl vu lo hi sl Q I rx hs pl pu h;obtain ⟨a,xs,rfl,hx,q⟩:=h;cases rx;obtain ⟨its,r,ht,hz⟩:=I.list hx;have hlen:=r.length;refine ⟨"list",_,slot_list_getitem.lookup,ht.isList.typeIs,?_⟩;refine wpAny_getItem_list_slice ht.isList hs pl pu .none (by simp) ?_ (by rw [Cm]<;>omega);rw [na,<- hlen];refine ⟨.ref s.heap.objs.size,_,I.laid (t':=s.toks) (o:= .lst (mI xs lo hi)) (fun b ob q=>Cj _ q) (Cw _) ?_,rfl,q _ (I.hok.fresh (Cw _))⟩;exact ⟨DD (kP xs lo hi) hz,_,0,(r.drop (HT.sIx xs.length 0 lo)).take (HT.sIx xs.length xs.length hi - HT.sIx xs.length 0 lo),Ct _ rfl⟩
noncomputable def gf:V->Bool
 | .non=>true
 | .bl _=>true
 | .int _=>true
 | .str _=>true
 | _=>false
noncomputable def eqV:V->V->Bool
 | .non,.non=>true
 | .bl a,.bl b=>a == b
 | .bl a,.int b=>(if a then 1 else 0) == b
 | .int a,.bl b=>a == (if b then 1 else 0)
 | .int a,.int b=>a == b
 | .str a,.str b=>a == b
 | _,_=>false
theorem eqAt_V{A:Around}{s:Shared}{y x:V}{u v:Value}(ry:aB y u)(rx:aB x v)(fy:gf y=true)(fx:gf x=true):SeqAt.EqAt A s u v (eqV y x):=by
 cases y with
 | non =>
  cases ry
  cases x with
  | non=>cases rx;exact SeqAt.EqAt.same _
  | bl b=>cases rx;exact SeqAt.EqAt.none_bool b
  | int b=>obtain ⟨t,rfl⟩:=rx;exact SeqAt.EqAt.none_int b t
  | str b=>obtain ⟨t,rfl⟩:=rx;exact SeqAt.EqAt.none_str b t
  | _=>exact absurd (show false=true from fx) Cq
 | bl a =>
  cases ry
  cases x with
  | non=>cases rx;exact SeqAt.EqAt.bool_none a
  | bl b=>cases rx;exact SeqAt.EqAt.bool_bool a b
  | int b=>obtain ⟨t,rfl⟩:=rx;exact SeqAt.EqAt.bool_int a b t
  | str b=>obtain ⟨t,rfl⟩:=rx;exact SeqAt.EqAt.bool_str a b t
  | _=>exact absurd (show false=true from fx) Cq
 | int a =>
  obtain ⟨t',rfl⟩:=ry
  cases x with
  | non=>cases rx;exact SeqAt.EqAt.int_none a t'
  | bl b=>cases rx;exact SeqAt.EqAt.int_bool a t' b
  | int b=>obtain ⟨t,rfl⟩:=rx;exact SeqAt.EqAt.int_int a t' b t
  | str b=>obtain ⟨t,rfl⟩:=rx;exact SeqAt.EqAt.int_str a t' b t
  | _=>exact absurd (show false=true from fx) Cq
 | str a =>
  obtain ⟨t',rfl⟩:=ry
  cases x with
  | non=>cases rx;exact SeqAt.EqAt.str_none a t'
  | bl b=>cases rx;exact SeqAt.EqAt.str_bool a t' b
  | int b=>obtain ⟨t,rfl⟩:=rx;exact SeqAt.EqAt.str_int a t' b t
  | str b=>obtain ⟨t,rfl⟩:=rx;exact SeqAt.EqAt.str_str a t' b t
  | _=>exact absurd (show false=true from fx) Cq
 | _=>exact absurd (show false=true from fy) Cq
noncomputable def eqU(x:V)(u:Value):Bool:=match u with
 | .none=>eqV .non x
 | .bool b=>eqV (.bl b) x
 | .int i _=>eqV (.int i) x
 | .str z _=>eqV (.str z) x
 | _=>false
theorem tH{x y:V}{u:Value}(r:aB y u)(f:gf y=true):eqU x u=eqV y x:=by
 cases y with
 | non=>cases r;rfl
 | bl b=>cases r;rfl
 | int i=>obtain ⟨t,rfl⟩:=r;rfl
 | str z=>obtain ⟨t,rfl⟩:=r;rfl
 | _=>exact absurd (show false=true from f) Cq
theorem mm{A:Around}{s:Shared}{x:V}{v:Value}(rx:aB x v)(fx:gf x=true):∀ {xs:List V} {us:List Value},aw xs us->xs.all gf=true->∀ u∈us,SeqAt.EqAt A s u v (eqU x u)
 | _,_,.nil,_=>fun u hu=>by cases hu
 | y::xs,u::us,.cons r t,f=>fun u' hu=>by
  rw [EL,CD] at f
  rcases Cr.mp hu with rfl | hu
  ·rw [tH r f.1];exact eqAt_V r rx f.1 fx
  ·exact mm rx fx t f.2 u' hu
theorem cW:aF X (.builtin "len") (fun xs H Q=>∃ p ys,xs=[.ref p]/\(SqL X.K H p ys\/SqT X.K H p ys)/\Q (.int ys.length) H):=by
 intro pins s σ H xs us Q I r h;obtain ⟨p,ys,rfl,hq,q⟩:=h;obtain ⟨u,rfl,rx⟩:=cg r;cases rx;have hn:=kj
 rcases hq with hq | hq
 ·obtain ⟨its,r',pl,hz⟩:=I.list hq
  have hlen:=r'.length;exact Calls.call_len_list pl.isList (by simp only [Cm]<;>omega) ⟨.int ys.length,H,I.tok _,⟨s.toks+1,by rw [Cm,hlen]⟩,q⟩
 ·obtain ⟨its,r',pl,hz⟩:=I.tuple hq
  have hlen:=r'.length;exact len_tuple pl (by simp only [Cm]<;>omega) ⟨.int ys.length,H,I.tok _,⟨s.toks+1,by rw [Cm,hlen]⟩,q⟩
theorem aF.or{f:Value}{r r':List V->Hp->VK->Prop}(h:aF X f r)(h':aF X f r'):aF X f (fun xs H Q=>r xs H Q\/r' xs H Q):=by
 intro pins s σ H xs us Q I rs q
 rcases q with q | q
 ·exact h pins s σ H xs us Q I rs q
 ·exact h' pins s σ H xs us Q I rs q
theorem fS:aF X (.type "list") (fun xs H Q=>∃ p ys,xs=[.ref p]/\(SqL X.K H p ys\/SqT X.K H p ys)/\∀ l,H l=none->Q (.ref l) (upd H l (.lst ys))):=by
 intro pins s σ H xs us Q I r h;obtain ⟨p,ys,rfl,hq,q⟩:=h;obtain ⟨u,rfl,rx⟩:=cg r;cases rx
 have fin:∀ (its:List Value),aw ys its->ys.length<=sizeLine->∀ (h':Heap) (c':Nat),(∀ b o',s.heap.get? b=some o'->h'.get? b=some o') ->
  h'.get? s.heap.objs.size=some { cls:= .type "list",dict:=none,data:= .seq its.toArray c',slots := #[] }->EP X pins σ Q (.ref s.heap.objs.size) { s with heap:=h' }:=fun its r' hz h' c' kp e =>
  ⟨.ref s.heap.objs.size,_,I.laid (t':=s.toks) kp (Cw _) (show bH X.prog X.w _ h' _ (.lst ys) from ⟨hz,its,c',r',e⟩),rfl,q _ (I.hok.fresh (Cw _))⟩
 rcases hq with hq | hq
 ·obtain ⟨its,r',pl,hz⟩:=I.list hq
  have hlen:=r'.length;obtain ⟨o,ho,hc,n,hd⟩:=pl.isList;exact call_list_seq p (.inl rfl) ho hc hd (fun h' c' kp e=>fin its r' hz h' c' kp e) (by simp only [Cm]<;>omega)
 ·obtain ⟨its,r',pl,hz⟩:=I.tuple hq
  have hlen:=r'.length;obtain ⟨o,ho,hc,n,hd⟩:=pl;exact call_list_seq p (.inr rfl) ho hc hd (fun h' c' kp e=>fin its r' hz h' c' kp e) (by simp only [Cm]<;>omega)
theorem fb:aF X (.type "tuple") (fun xs H Q=>∃ p ys,xs=[.ref p]/\((SqL X.K H p ys/\∀ l,H l=none->Q (.ref l) (upd H l (.tup ys)))\/(SqT X.K H p ys/\Q (.ref p) H))):=by
 intro pins s σ H xs us Q I r h;obtain ⟨p,ys,rfl,h⟩:=h;obtain ⟨u,rfl,rx⟩:=cg r;cases rx
 rcases h with ⟨hq,q⟩ | ⟨hq,q⟩
 ·obtain ⟨its,r',pl,hz⟩:=I.list hq
  have hlen:=r'.length;refine call_tuple_list pl.isList (fun h' kp=> ?_) (by simp only [Cm]<;>omega);have I1:Inv X pins σ H { s with heap:=h' }:=I.kept (t':=s.toks) kp
  have I2:Inv X pins σ (upd H h'.objs.size (.tup ys)) { s with heap:=h'.push { cls:= .type "tuple",data:= .seq its.toArray } } :=
   I1.laid (t':=s.toks) (fun b o e=>Cj _ e) (Cw _) (show bH X.prog X.w _ _ _ (.tup ys) from ⟨hz,its,r',IsTup.new _ _⟩)
  exact ⟨.ref h'.objs.size,_,I2,rfl,q _ (I1.hok.fresh (Cw _))⟩
 ·obtain ⟨its,r',pl,hz⟩:=I.tuple hq
  exact call_tuple_same pl ⟨.ref p,H,I,rfl,q⟩
noncomputable def tyV(K:E2)(T:String)(x:V)(H:Hp):Prop:=match x with
 | .str _=>T = "str"
 | .int _=>T = "int"
 | .ref p=>(T = "list" /\ ∃ xs,SqL K H p xs)\/(T = "tuple" /\ ∃ o,K.lookup p=some o/\o.cls = .type "tuple" /\ o.dict=none) \/
  (T = "dict" /\ ((∃ kvs,H p=some (.dK kvs))\/∃ kvs,H p=some (.dT kvs)))\/(T = "set" /\ ∃ S n,H p=some (.set S n))
 | _=>False
theorem tyV_is{pins:List (Addr×Obj)}{σ:St}{H:Hp}{s:Shared}{T:String}{x:V}{v:Value}(I:Inv X pins σ H s)(r:aB x v)(ty:tyV X.K T x H) :
 s.TypeIs v T/\∀ a,v = .ref a->∃ ob,s.heap.get? a=some ob/\ob.dict=none:=by
 cases x with
 | str z =>
  obtain ⟨t,rfl⟩:=r;cases (show T = "str" from ty);exact ⟨typeIs_str s z t,fun _ e=>nomatch e⟩
 | int i =>
  obtain ⟨t,rfl⟩:=r;cases (show T = "int" from ty);exact ⟨typeIs_int s i t,fun _ e=>nomatch e⟩
 | ref p =>
  cases r
  rcases ty with ⟨rfl,xs,hq⟩ | ⟨rfl,o,hk,hc,hd⟩ | ⟨rfl,hk⟩ | ⟨rfl,S,n,hk⟩
  ·obtain ⟨its,_,pl,_⟩:=I.list hq
   refine ⟨pl.isList.typeIs,fun a e=> ?_⟩;cases e;obtain ⟨o,n,e,c,hd,_⟩:=pl;exact ⟨o,e,hd⟩
  ·refine ⟨⟨o,I.kIn p o hk,hc⟩,fun a e=> ?_⟩
   cases e;exact ⟨o,I.kIn _ o hk,hd⟩
  ·have z:∃ o,s.heap.get? p=some o/\o.ExactDict:=by
    rcases hk with ⟨kvs,hk⟩ | ⟨kvs,hk⟩
    ·obtain ⟨_,_,_,_,o,_,_,e,ex,_⟩:=I.hok p _ hk
     exact ⟨o,e,ex⟩
    ·obtain ⟨_,_,_,_,o,_,_,e,ex,_⟩:=I.hok p _ hk
     exact ⟨o,e,ex⟩
   obtain ⟨o,e,ex⟩:=z;refine ⟨⟨o,e,ex.1⟩,fun a e2=> ?_⟩;cases e2;exact ⟨o,e,ex.2.1⟩
  ·obtain ⟨o,_,_,_,e,ex,_⟩:=I.hok p _ hk
   refine ⟨⟨o,e,ex.1⟩,fun a e2=> ?_⟩;cases e2;exact ⟨o,e,ex.2.1⟩
 | _=>exact False.elim ty
noncomputable def tBM(K:E2)(T:String)(r:V->List V->Hp->VK->Prop)(to:TE)(t:TA):TE:=fun σ H Q=>to σ H fun x H1=>tyV K T x H1/\t σ H1 fun xs H2=>r x xs H2 Q
variable{o e:Expr}{es:List Expr}{to:TE}{t:TA}{name:Str}{apos cpos:Pos}{T id:String}{r:V->List V->Hp->VK->Prop}
theorem ux(pa:PlainAttrs T)(slot:Slot T name id)(hty:typeOf (.builtin id)=pure (.type "method_descriptor"))(hm:MtR X id r)(ho:PE X o to)(ha:PA X (e::es) t)
 (hbase:attributeBase o name X.env (eval o X.env)=eval o X.env:=by rfl)
 (hfew:((backTo cpos (starEach (e::es) X.env)).all (fun x => !x.1)&&(backToKw cpos (keywordEach [] X.env)).all (fun x=>x.1.isSome)
   && decide ((e::es).length+([]:List Keyword).length+(if ([]:List Keyword).isEmpty then 0 else 1) < 30))=true:=by rfl)
 (hline:(apos.endLine == cpos.line)=true:=by rfl) (hs:starEach (e::es) X.env=(false,eval e X.env)::starEach es X.env:=by rfl) (hplain:(backTo cpos (starEach es X.env)).any (·.1)=false:=by rfl) :
 PE X (.Call (.Attribute o name apos) (e::es) [] cpos) (tBM X.K T r to t):=by
 intro pins s σ H Q I h;refine wpAny_Call_method_late hbase hfew hline rfl (thn (ho pins s σ H _ I h) fun v s1 ⟨x,H1,I1,r1,ty,q1⟩=> ?_);obtain ⟨h1,h2⟩:=tyV_is I1 r1 ty;refine ⟨T,id,pa,slot,hty,h1,h2,?_⟩;have hA:=ha cpos pins s1 σ H1 _ I1 q1;rw [hs] at hA ⊢;refine Calls.callWith_builtin (by show (false||(backTo cpos (starEach es X.env)).any (·.1))=false;rw [hplain]<;>rfl) (Calls.evalArgs_plain ?_)
 exact thn hA fun us s2 ⟨vs,H2,I2,r2,q2⟩=>hm pins s2 σ H2 x vs v us Q I2 r1 r2 q2
end
noncomputable def MtM(X:Cx)(id:String)(r:V->List V->Hp->VK->Prop):Prop :=
 ∀ (pins:List (Addr×Obj)) (s:Shared) (σ:St) (H:Hp) (x:V) (xs:List V) (v:Value) (us:List Value) (Q:VK),Inv X pins σ H s->aB x v->aw xs us->r x xs H Q ->
  wpAny (model X.prog X.w) X.A (call (.builtin id) (v::us)) (EP X pins σ Q) X.xe s
theorem aw.one:∀ {x:V} {us:List Value},aw [x] us->∃ u,us=[u]/\aB x u
 | _,_,.cons r .nil=>⟨_,rfl,r⟩
theorem aw.eraseIdx:∀ {xs:List V} {us:List Value} (i:Nat),aw xs us->aw (xs.eraseIdx i) (us.eraseIdx i)
 | _,_,_,.nil=> .nil
 | _,_,0,.cons _ t=>t
 | _,_,i+1,.cons r t=> .cons r (aw.eraseIdx i t)
theorem aw.reverse{xs:List V}{us:List Value}(h:aw xs us):aw xs.reverse us.reverse:=by
 induction h with
 | nil=>exact .nil
 | cons r t ih=>rw [List.reverse_cons,List.reverse_cons];exact aw.append ih (.cons r .nil)
theorem aw.rep{xs:List V}{us:List Value}(h:aw xs us):∀ k:Nat,aw (List.replicate k xs).flatten (List.replicate k us).flatten
 | 0=> .nil
 | k+1=>by
  rw [Do,Do,DU,DU];exact aw.append h (aw.rep h k)
theorem oa{α:Type}:∀ (l:List α) (i:Nat),(l.eraseIdx i).length<=l.length
 | [],_=>Cw _
 | _::_,0=>Nat.le_succ _
 | _::r,i+1=>Nat.succ_le_succ (oa r i)
theorem oz(its:List Value):∀ (k:Nat) (acc:List Value),
 List.foldl (fun x1 x2=>x1++x2) acc.toArray (List.replicate k its.toArray)=(acc++(List.replicate k its).flatten).toArray
 | 0,acc=>by simp
 | k+1,acc=>by
  have e:acc.toArray++its.toArray=(acc++its).toArray:=by simp
  have e2:(acc++its)++(List.replicate k its).flatten=acc++(List.replicate (k+1) its).flatten:=by
   rw [Do,DU,DB]
  rw [<- e2,<- oz its k (acc++its),<- e,Do,EQ]
section
variable{X:Cx}{pins:List (Addr×Obj)}{σ:St}{H:Hp}{s:Shared}{l b:Addr}{xs ys zs:List V}
theorem Inv.lset{its its':List Value}{n:Nat}{f:Array Value->Array Value}{t':Nat}(I:Inv X pins σ H s)(hH:H l=some (.lst xs))
 (e:s.heap.get? l=some { cls:= .type "list",data:= .seq its.toArray n }) (hf:f its.toArray=its'.toArray) (hv:aw ys its') (hz:ys.length<=sizeLine) :
 Inv X pins σ (upd H l (.lst ys)) { s with heap:=s.heap.update l (Obj.mapSeq f),toks:=t' }:=by
 have q:=PySem.IsL.update e f;rw [hf] at q;refine I.write (x:=l) (e:=l) (by rw [hH];exact trivial) (.inl rfl) (fun b' u hb hu=>(Ed s.heap (Obj.mapSeq f) (Ne.symm hb)).trans hu) ⟨_,q⟩ ?_;exact ⟨hz,its',_,hv,q⟩
theorem Inv.lnew{its:List Value}{t':Nat}(I:Inv X pins σ H s)(hv:aw ys its)(hz:ys.length<=sizeLine) :
 Inv X pins σ (upd H s.heap.objs.size (.lst ys)) { s with heap:=s.heap.push { cls:= .type "list",data:= .seq its.toArray },toks:=t' } :=
 I.laid (fun _ _ q=>Cj _ q) (Cw _) ⟨hz,its,0,hv,Ct _ rfl⟩
theorem Inv.fresh(I:Inv X pins σ H s):H s.heap.objs.size=none:=I.hok.fresh (Cw _)
theorem Inv.lstM(I:Inv X pins σ H s)(hH:H l=some (.lst xs)):xs.length<=sizeLine/\∃ (its:List Value) (n:Nat),aw xs its/\xs.length=its.length/\s.heap.get? l=some { cls:= .type "list",data:= .seq its.toArray n }:=by
 obtain ⟨z,its,n,r,e⟩:=I.hok l _ hH;exact ⟨z,its,n,r,r.length,e⟩
theorem mj{n:Nat}(h:n<=sizeLine):Builtin.List.listTooLong n=false:=by
 unfold Builtin.List.listTooLong;exact CL (by omega)
end
section
variable{X:Cx}
noncomputable def ut:V->List V->Hp->VK->Prop:=fun x vs H Q=>∃ l xs y,x = .ref l/\vs=[y]/\H l=some (.lst xs)/\xs.length < sizeLine/\Q .non (upd H l (.lst (xs++[y])))
theorem nZ:MtM X "list.append" ut:=by
 intro pins s σ H x vs v us Q I rx rv h;obtain ⟨l,xs,y,rfl,rfl,hH,hz,q⟩:=h;cases rx;obtain ⟨u,rfl,ru⟩:=rv.one;obtain ⟨z,its,n,r,hl,e⟩:=I.lstM hH;refine call_meets F.slot_list_append ⟨_,e,rfl⟩ F.entry_list_append (F.args_list_append_2 _ _) (PySem.list_append l its.toArray n u (by rw [Cm];omega)) ⟨e,?_⟩;refine ⟨.non,_,I.lset (its':=its++[u]) hH e (by simp) (r.append (.cons ru .nil)) ?_,rfl,q⟩;rw [Cy,List.length_singleton];omega
noncomputable def ur:V->List V->Hp->VK->Prop:=fun x vs H Q=>∃ l b xs zs,x = .ref l/\vs=[.ref b]/\H l=some (.lst xs)/\H b=some (.lst zs)/\xs.length+zs.length<=sizeLine/\Q .non (upd H l (.lst (xs++zs)))
theorem vy:MtM X "list.extend" ur:=by
 intro pins s σ H x vs v us Q I rx rv h;obtain ⟨l,b,xs,zs,rfl,rfl,hH,hB,hz,q⟩:=h;cases rx;obtain ⟨u,rfl,ru⟩:=rv.one;cases ru;obtain ⟨z,its,n,r,hl,e⟩:=I.lstM hH;obtain ⟨z2,its2,n2,r2,hl2,e2⟩:=I.lstM hB
 have hsz:its.toArray.size+its2.toArray.size<=sizeLine:=by rw [Cm,Cm];omega
 have hlong:¬ (!its.toArray.isEmpty&&Builtin.List.listTooLong (its.toArray.size+its2.toArray.size))=true:=by
  rw [mj hsz,Dr];exact Cq
 refine call_meets F.slot_list_extend ⟨_,e,rfl⟩ F.entry_list_extend (F.args_list_extend_2 _ _)
  (AutoSeq1.list_extend_list_list_0 l its.toArray n b its2.toArray n2 hlong (by rw [Cm];omega) (by omega)) ⟨e,e2,?_⟩
 refine ⟨.non,_,I.lset (its':=its++its2) hH e (by simp) (r.append r2) ?_,rfl,q⟩;rw [Cy];omega
noncomputable def xa:V->List V->Hp->VK->Prop:=fun x vs H Q=>∃ l xs i k y,x = .ref l/\vs=[.int i]/\H l=some (.lst xs) /\ -(2 ^ 63)<=i/\i < 2 ^ 63/\seqIndex? i xs.length=some k/\xs[k]?=some y/\Q y (upd H l (.lst (xs.eraseIdx k)))
theorem xX:MtM X "list.pop" xa:=by
 intro pins s σ H x vs v us Q I rx rv h;obtain ⟨l,xs,i,k,y,rfl,rfl,hH,h1,h2,hk,hy,q⟩:=h;cases rx;obtain ⟨u,rfl,ru⟩:=rv.one;obtain ⟨t,rfl⟩:=ru;obtain ⟨z,its,n,r,hl,e⟩:=I.lstM hH;obtain ⟨w,hw,rw'⟩:=r.get hy
 refine call_meets F.slot_list_pop ⟨_,e,rfl⟩ F.entry_list_pop (F.args_list_pop_2 _ _)
  (MeetsSeq.list_pop_at l its.toArray n i t k w (fitsIndex_both h1 h2) (by rw [Cm,<- hl];exact hk) (by rw [<- DF];exact hw) (by rw [Cm];omega)) ⟨e,?_⟩
 refine ⟨y,_,I.lset (its':=its.eraseIdx k) hH e ?_ (r.eraseIdx k) ?_,rw',q⟩
 ·show its.toArray.eraseIdxIfInBounds k=(its.eraseIdx k).toArray
  rw [List.eraseIdxIfInBounds_toArray]
 ·have:=oa xs k
  omega
noncomputable def rCat:R2:=fun x y H Q=>∃ l b xs zs,x = .ref l/\y = .ref b/\H l=some (.lst xs)/\H b=some (.lst zs)/\xs.length+zs.length<=sizeLine/\∀ p,H p=none->Q (.ref p) (upd H p (.lst (xs++zs)))
theorem xP:OpR X (binaryOp .Add) rCat:=by
 intro pins s σ H x y v u Q I rx ry h;obtain ⟨l,b,xs,zs,rfl,rfl,hH,hB,hz,q⟩:=h;cases rx;cases ry;obtain ⟨z,its,n,r,hl,e⟩:=I.lstM hH;obtain ⟨z2,its2,n2,r2,hl2,e2⟩:=I.lstM hB;refine PySem.P.add_list e e2 ?_ (by rw [Cm,Cm];omega)
 have ea:its.toArray++its2.toArray=(its++its2).toArray:=by simp
 rw [ea];exact ⟨.ref _,_,I.lnew (t':=s.toks) (r.append r2) (by rw [Cy];omega),rfl,q _ I.fresh⟩
noncomputable def rRep:R2:=fun x y H Q=>∃ l k xs,x = .ref l/\y = .int k/\H l=some (.lst xs) /\ -(2 ^ 63)<=k/\k < 2 ^ 63/\xs.length * k.toNat<=sizeLine /\
 ∀ p,H p=none->Q (.ref p) (upd H p (.lst (List.replicate k.toNat xs).flatten))
theorem A9{α:Type}(xs:List α)(k:Nat):(List.replicate k xs).flatten.length=k * xs.length:=by
 induction k with
 | zero=>simp
 | succ k ih=>rw [Do,DU,Cy,ih,Nat.succ_mul,Nat.add_comm]
theorem op_rep:OpR X (binaryOp .Mult) rRep:=by
 intro pins s σ H x y v u Q I rx ry h;obtain ⟨l,k,xs,rfl,rfl,hH,h1,h2,hz,q⟩:=h;cases rx;obtain ⟨t,rfl⟩:=ry;obtain ⟨z,its,n,r,hl,e⟩:=I.lstM hH
 have hlen:its.toArray.size * k.toNat<=sizeLine:=by rw [Cm,<- hl];exact hz
 have hcap:¬ its.toArray.size * k.toNat > (2 ^ 63 - 1) / 8:=by
  have:(sizeLine:Nat)<=(2 ^ 63 - 1) / 8:=by decide
  omega
 have hfit:¬ (!Builtin.List.listFitsIndex k)=true:=by
  rw [fitsIndex_both h1 h2];exact Cq
 have hlong:¬ Builtin.List.listTooLong (its.toArray.size * k.toNat)=true:=by
  rw [mj hlen];exact Cq
 have hnew:List.foldl (fun x1 x2=>x1++x2) #[] (List.replicate (if its.toArray.isEmpty=true then 0 else k.toNat) its.toArray)=(List.replicate k.toNat its).flatten.toArray:=by
  have f0:∀ m:Nat,List.foldl (fun x1 x2=>x1++x2) #[] (List.replicate m its.toArray)=(List.replicate m its).flatten.toArray:=fun m=>by
   have:=oz its m [];rw [Dx] at this;exact this
  rw [f0]
  cases its with
  | nil=>simp
  | cons a r'=>rw [if_neg (by simp)]
 refine wpAny_binaryOp_repeat_ref (T := "list") (U := "int") (by decide) ⟨_,e,rfl⟩ (fun s'=>typeIs_int s' k t) noFill_list_mul F.fills_int_mul F.slot_int_rmul repeat_list F.slot_int_index.lookup
  (call_meets F.slot_int_rmul (typeIs_int s k t) F.entry_int_rmul (F.args_int_rmul_2 _ _) (int___rmul___int_list k t l its.toArray n)
    ⟨e,rfl,⟨_,e,rfl⟩,call_meets F.slot_list_mul ⟨_,e,rfl⟩ F.entry_list_mul (F.args_list_mul_2 _ _) (AutoListH.list___mul___list_int_3 l its.toArray n k t hfit hcap hlong) ⟨e,?_⟩⟩)
 rw [hnew];exact ⟨.ref _,_,I.lnew (t':=s.toks) (r.rep k.toNat) (by rw [A9,Nat.mul_comm];exact hz),rfl,q _ I.fresh⟩
end
section
variable{prog:Program}{w:World}{A:Around}{E:Value->Shared->Prop}{s:Shared}
end
section
variable{X:Cx}
end
end L2
namespace Att
open PySem PySem.W PySem.Calls PyProof.Rows
theorem lf{P:Params}{h:Heap}:∀ (ns:List Int) (vs:List Value),WellAll P h vs (ns.map WData.int)->IntsAre vs ns:=by
 intro ns
 induction ns with
 | nil =>
  intro vs w;rw [Eg] at w;cases w;exact .nil
 | cons n ns ih =>
  intro vs w;rw [CF] at w
  cases w with
  | cons a b =>
   cases a;exact .cons _ _ (ih _ b)
theorem u9{l:OpenLaw}{n:Nat}(hn:l.most=some n){P:Params}{h:Heap}{args:List WData}{vals:List Value}
 (hpre:l.row.toRowW.claim.pre args=true) (hwl:WellAll P h vals args) :
 ∃ a vs ns,vals=[Value.ref a]/\args=[WData.list (ns.map WData.int)]/\h.get? a=some { cls:= .type "list",data:= .seq vs.toArray }/\IntsAre vs ns/\ns.length<=n:=by
 have hsh:WShape.hasAll [] args [.list .int]=true:=(pre_splitW hpre).1;have hc:l.pre.holds [] { args:=args }=true:=(pre_splitW hpre).2;obtain ⟨d,r,rfl,h1,h2⟩:=hasAllW_cons hsh;obtain rfl:=hasAllW_nil h2;obtain ⟨xs,rfl,h3⟩:=hasW_list h1;obtain ⟨ns,rfl⟩:=items_int h3
 have hlen:ns.length<=n:=by
  unfold OpenLaw.pre at hc
  have h4:(WTm.not (.lt (.lit (.int (n:Int))) (.len (.arg 0)))).holds [] { args:=[.list (ns.map .int)] }=true:=by
   have h4:=(holds_andW hc).1;rw [hn] at h4;exact h4
  have h5:=condW_of h4 (w_not (w_lt w_lit (w_len_list (w_arg rfl))));rw [Ci] at h5
  refine Nat.le_of_not_lt fun q=> ?_
  have q':(n:Int) < ((ns.length:Nat):Int):=by omega
  first
   | (rw [CK q'] at h5;exact absurd h5 (by decide))
   | (simp at h5;omega)
 cases hwl with
 | cons w1 w2 =>
  cases w2
  cases w1 with
  | list ho hall=>exact ⟨_,_,ns,rfl,rfl,ho,lf ns _ hall,hlen⟩
theorem vm(l:OpenLaw)(args:List WData):l.row.toRowW.claim.post args (.bool true) args=true :=
 postW_of (r:=l.row.toRowW) (X:=(true == true))
  (show WShape.has [] (.bool true) .bool=true by first | rfl | decide | simp [WShape.has,WShape.arms,WShape.armsAll])
  (show (WTm.eq .res (.lit (.bool true))).value [] { args:=args,res:=some (.bool true),after:=args }=some (.bool (true == true)) from w_eq_bool (w_res rfl) w_lit) rfl
theorem rO{l:OpenLaw}{n:Nat}{q:Program}{loose:List Str}{XP:(Str->Option Value)->Heap->Prop}{YP:World->Heap->Prop}{d:DefRec}
 (hn:l.most=some n) (hdf:d.params.defaults=[])
 (call:∀ (w:World) (s₀ s₁:Shared) (mg mb:Str->Option Value) (fa:Addr) (o:Obj) (pm cd doc:Value) (a:Addr) (vs:List Value) (ns:List Int),
   Ground q loose [] XP w s₀ mg mb s₁.heap->YP w s₁.heap ->
   s₁.heap.get? fa=some o->o.data = .func (docDef d.name d.params d.body d.scope pm cd doc)->s₁.heap.CodeRec cd d.name->mg d.name=some (.ref fa) ->
   s₁.heap.get? a=some { cls:= .type "list",data:= .seq vs.toArray }->IntsAre vs ns->ns.length<=n->s₁.gens = #[] ->
   codeAny (model l.prog w) callerA (.call (.ref fa) ⟨[.ref a],[]⟩) (fun r s'=>r = .ok (.ret (.bool true))/\OldK s₁.heap s'.heap/\s'.os=s₁.os/\AllBare s'.gens) s₁) :
 WalkO q loose XP YP l.row.toRowW d [] (fun f vs=>PySem.call f vs):=by
 intro w s₀ s₁ mg mb G Y fa o pm cd doc dV kV ho hd hcd hD hmg hg args vals as hpre hlay hrd hwl hlo;obtain rfl:dV = .none:=Dflts.none hD hdf;obtain rfl:kV = .none:=Dflts.noKw hD;obtain ⟨a,vs,ns,rfl,rfl,hobj,hints,hlen⟩:=u9 hn hpre hwl;refine enter_call (codeAny_mono (call w s₀ s₁ mg mb fa o pm cd doc a vs ns G Y ho (fd_plain hd) hcd hmg hobj hints hlen hg) fun r s' hq=> ?_);obtain ⟨rfl,h2,h3,h4⟩:=hq;exact ⟨.inl ⟨.bool true,.bool true,[],rfl,fun _=>rfl,.bool true,vm l _,fun _=>⟨List.Pairwise.nil,fun _ hm=>(nomatch hm)⟩⟩,h2,h3,h4⟩
section
variable{prog:Program}{w:World}{A:Around}{E:Value->Shared->Prop}{s:Shared}{K:Frag}
end
end Att
namespace L2
open PySem PySem.Spec PyProof.Rows
theorem nH:∀ {vs:List Value} {ns:List Int},IntsAre vs ns->aw (ns.map V.int) vs
 | _,_,.nil=> .nil
 | _,_,.cons n t h=> .cons ⟨t,rfl⟩ (nH h)
noncomputable def Only(H:Hp):Prop:=∀ b,H b=none\/∃ o xs,H b=some (.frz o (.lst xs))
theorem yf{P:Program}{w:World}{K:E2}{mg mb:Str->Option Value}{CX:CXT}{k:Nat}{fa a:Addr}{fd:FuncData}{x:Str}{sp:Sp}{s₁:Shared}{vs:List Value}{ns:List Int}
 (KX:K.In s₁.heap) (hns:s₁.heap.Ns mainGlobals mg) (hb:s₁.heap.Ns builtinsNs mb) (hbb:∀ x:Str,x ≠ "__name__" -> mb x=bootBuiltins x) (hlim:s₁.heap.NoLimit) (hg:s₁.gens = #[])
 (ha:s₁.heap.get? a=some { cls:= .type "list",data:= .seq vs.toArray }) (hi:IntsAre vs ns) (hl:ns.length<=sizeLine) (hr:cx k callerA)
 (F:∀ base:Heap,K.In base->base.Ns mainGlobals mg->jS P w K mg base CX k fa fd [x] sp) (hbind:∀ (s:Shared) (u:Value),BindsTo s fd ⟨[u],[]⟩ [(x,u)])
 (hsp:∀ H:Hp,Only H->SqL K H a (ns.map V.int)->sp [.ref a] H (fun v _=>v = .bl true) fun _ _ _=>False)
 (hCX:∀ H e s',CX [] H s₁ (fun _ _ _=>False) e s'->False) :
 codeAny (model P w) callerA (.call (.ref fa) ⟨[.ref a],[]⟩) (fun r s'=>r = .ok (.ret (.bool true))/\OldK s₁.heap s'.heap/\s'.os=s₁.os/\AllBare s'.gens) s₁:=by
 have rv:=nH hi;have lenV:=hi.length
 have core:∀ H:Hp,Only H->SqL K H a (ns.map V.int)->HOk P w H s₁.heap->(∀ b,H b≠none->b=a)->(H a≠none->K.lookup a=none) ->
  codeAny (model P w) callerA (.call (.ref fa) ⟨[.ref a],[]⟩) (fun r s'=>r = .ok (.ret (.bool true))/\OldK s₁.heap s'.heap/\s'.os=s₁.os/\AllBare s'.gens) s₁:=by
  intro H hO hS hok hA hK
  have base_of:∀ {b:Addr} {o:Obj},s₁.heap.get? b=some o->H b=none->(pB s₁.heap H).get? b=some o:=fun e n=>yp e n
  have noA:∀ {b:Addr} {o:Obj} {es:Array DictEntry} {ep:Nat},s₁.heap.get? b=some o->o.data = .dict es ep->H b=none:=fun {b o es ep} e d=>by
   cases q:H b with
   | none=>rfl
   | some u =>
    have e':b=a:=hA b (by rw [q];simp);subst e';rw [ha] at e;cases e;have d':Data.seq vs.toArray _=Data.dict es ep:=d;cases d'
  have nsK:∀ {b:Addr} {m:Str->Option Value},s₁.heap.Ns b m->(pB s₁.heap H).Ns b m:=fun {b m} ⟨o,es,ep,e,d,r⟩=>⟨o,es,ep,base_of e (noA e d),d,r⟩
  have hKb:K.In (pB s₁.heap H):=fun b o e=>base_of (KX b o e) (by
   cases q:H b with
   | none=>rfl
   | some u =>
    have e':b=a:=hA b (by rw [q];simp);subst e'
    rw [hK (by rw [q];simp)] at e;cases e)
  have hM:Mod K mg (pB s₁.heap H):=⟨hKb,nsK hns,⟨mb,nsK hb,hbb⟩,let ⟨mc,h1,h2⟩:=hlim;⟨mc,nsK h1,h2⟩⟩;have e0:ww P w K mg (pB s₁.heap H) callerA [] s₁ H:=⟨rfl,hM,fun b o e=>AX e,Nat.le_of_eq (vH _ _),trivial,fun b hb=>absurd (show b∈([]:List Addr) from hb) (by simp),hok,.of_eq hg⟩
  refine codeAny_mono ((F _ hKb (nsK hns)).run callerA [] s₁ H ⟨[.ref a],[]⟩ [.ref a] [.ref a] _ _ hr e0 (hbind s₁ (.ref a)) (.cons rfl .nil) (hsp H hO hS)) fun r s' h=> ?_
  cases r with
  | error e=>exact (hCX H e s' h).elim
  | ok fl =>
   cases fl with
   | next=>exact False.elim h
   | brk=>exact False.elim h
   | cont=>exact False.elim h
   | ret u =>
    obtain ⟨v,H',os,bare,un,hok',r',q⟩:=h;have q':v = .bl true:=q;subst q';obtain rfl:u=Value.bool true:=r';refine ⟨rfl,OldK.of_keep fun b o e=> ?_,os,bare⟩
    cases q:H b with
    | none=>exact un.keep b o e q (by intro z;exact absurd (show b∈([]:List Addr) from z) (by simp)) (by simp)
    | some u =>
     rcases hO b with z | ⟨ob,xs,z⟩
     ·rw [q] at z;cases z
     ·have z2:=un.frzs b ob _ z
      obtain ⟨e1,_⟩:=hok b _ z;obtain ⟨e2,_⟩:=hok' b _ z2;rw [e] at e1;cases e1;exact e2
 cases hk:K.lookup a with
 | some o =>
  have e:=KX a o hk;rw [ha] at e;cases e
  refine core (fun _=>none) (fun _=> .inl rfl) (.inr ⟨_,vs.toArray,_,hk,rfl,rfl,rfl,by rw [Cm,lenV];exact hl,by simpa using rv⟩) (fun b u z=>by have z':(none:Option HO)=some u:=z;cases z') (fun b z=>absurd rfl z) fun z=>absurd rfl z
 | none =>
  refine core (fun b=>if b=a then some (.frz { cls:= .type "list",data:= .seq vs.toArray } (.lst (ns.map V.int))) else none) (fun b=> ?_) (.inl (.inr ⟨{ cls:= .type "list",data:= .seq vs.toArray },if_pos rfl⟩)) (fun b u z=> ?_) (fun b z=> ?_) fun _=>hk
  ·by_cases hb:b=a
   ·exact .inr ⟨_,_,if_pos hb⟩
   ·exact .inl (if_neg hb)
  ·by_cases hb:b=a
   ·have z':=(if_pos hb).symm.trans z
    cases z';subst hb;exact ⟨ha,by rw [Ci];exact hl,vs,_,rv,ha⟩
   ·have z':=(if_neg hb).symm.trans z
    cases z'
  ·by_cases hb:b=a
   ·exact hb
   ·exact absurd (if_neg hb) z
abbrev KOf{K:E2}{h:Heap}(_:K.In h):E2:=K
theorem zr{l:PySem.W.OpenLaw}{n k:Nat}{q:Program}{loose:List Str}{XP:(Str->Option Value)->Heap->Prop}{YP:World->Heap->Prop}{d:DefRec}{K:Params->E2}{CX:World->CXT}{sp:World->Sp}{x:Str}
 (hn:l.most=some n) (hn2:n<=sizeLine) (hdf:d.params.defaults=[]) (hr:cx k callerA)
 (hY:∀ (w:World) (h:Heap),YP w h->(K w.params).In h)
 (F:∀ (w:World) (mg:Str->Option Value) (fa:Addr) (h:Heap),(K w.params).In h->h.Ns mainGlobals mg->mg d.name=some (.ref fa) ->
   ∃ fd:FuncData,(∀ (s:Shared) (u:Value),BindsTo s fd ⟨[u],[]⟩ [(x,u)]) /\
    ∀ base:Heap,(K w.params).In base->base.Ns mainGlobals mg->jS l.prog w (K w.params) mg base (CX w) k fa fd [x] (sp w))
 (hsp:∀ (w:World) (H:Hp) (a:Addr) (ns:List Int),ns.length<=n->Only H->SqL (K w.params) H a (ns.map V.int)->sp w [.ref a] H (fun v _=>v = .bl true) fun _ _ _=>False)
 (hCX:∀ (w:World) (H:Hp) (s:Shared) (e:Value) (s':Shared),CX w [] H s (fun _ _ _=>False) e s'->False) :
 PySem.W.WalkO q loose XP YP l.row.toRowW d [] (fun f vs=>PySem.call f vs):=by
 refine Att.rO hn hdf fun w s₀ s₁ mg mb fa o pm cd doc a vs ns G Y ho hd hcd hmg hobj hints hlen hg=> ?_
 have KX:=hY w _ Y;obtain ⟨fd,hb,hF⟩:=F w mg fa _ KX G.T.g hmg
 exact yf KX G.T.g G.T.b G.T.builtins G.T.nolimit hg hobj hints (DD hlen hn2) hr hF hb (fun H hO hS=>hsp w H a ns hlen hO hS) fun H e s'=>hCX w H s₁ e s'
noncomputable def cH(s:Stmt):Arguments:=match s with
 | .FunctionDef _ a _ _ _ _ _ _ _ _=>a
 | _=>{ posonlyargs:=[],args:=[],vararg:=none,kwonlyargs:=[],kw_defaults:=[],kwarg:=none,defaults:=[] }
noncomputable def bf(s:Stmt):List Stmt:=match s with
 | .FunctionDef _ _ b _ _ _ _ _ _ _=>b
 | _=>[]
noncomputable def ac(s:Stmt):Scope:=match s with
 | .FunctionDef _ _ _ _ _ _ sc _ _ _=>sc
 | _=>{ kind:= .function,names:=[],isGenerator:=false,isCoroutine:=false }
abbrev CX0:CXT:=fun _ _ _ _ _ _=>False
abbrev E0:XK:=fun _ _ _=>False
structure Fun(K:E2)(x qual:Str)(st:Stmt)(f:Addr)(fd:FuncData):Prop where
 ex:∃ (oc:Value) (od:Option Addr) (kV doc pm:Value) (an:Option Addr) (cdv ct:Value) (osl:Array (Option Value)),
  fd=PySem.W.fnOf x qual (cH st) (bf st) (ac st) .none kV doc pm an cdv ct/\K.lookup f=some ⟨oc,od,.func fd,osl⟩/\PySem.W.codeIn K cdv qual=true
 kp:PySem.W.keepIn K (.ref f)=true
section
variable{P:Program}{w:World}{K:E2}{mg:Str->Option Value}{base:Heap}
theorem Fun.binds{x qual:Str}{st:Stmt}{f:Addr}{fd:FuncData}{ps:List Str}(F:Fun K x qual st f fd)
 (h:∀ (kV doc pm:Value) (an:Option Addr) (cdv ct:Value) (us:List Value),us.length=ps.length->bindArgs (PySem.W.fnOf x qual (cH st) (bf st) (ac st) .none kV doc pm an cdv ct) ⟨us,[]⟩=pure (ps.zip us)):kW K fd ps []:=by
 obtain ⟨oc,od,kV,doc,pm,an,cdv,ct,osl,rfl,lk,hcd⟩:=F.ex;exact .all (h kV doc pm an cdv ct)
theorem tF{x qual:Str}{st:Stmt}{f:Addr}{oc:Value}{od an:Option Addr}{osl:Array (Option Value)}{kV doc pm cdv ct:Value}(l:K.lookup f=some ⟨oc,od,.func (PySem.W.fnOf x qual (cH st) (bf st) (ac st) .none kV doc pm an cdv ct),osl⟩)
 (c:PySem.W.codeIn K cdv qual=true) (k:PySem.W.keepIn K (.ref f)=true):Fun K x qual st f (PySem.W.fnOf x qual (cH st) (bf st) (ac st) .none kV doc pm an cdv ct):=⟨⟨oc,od,kV,doc,pm,an,cdv,ct,osl,rfl,l,c⟩,k⟩
end
theorem eA{n:Nat}(h:n<=1000):n < sizeLine:=Nat.lt_of_le_of_lt h (by decide)
section
variable{X:Cx}
theorem pv(i:Nat){x:Str}{pos:Pos}(hN:X.N[i]?=some x:=by rfl)(hv:Vis X.env.scope x:=by first | exact Or.inl rfl | exact Or.inr (Or.inl rfl) | exact Or.inr (Or.inr rfl))(hd:(x == ("__debug__" : Str))=false:=by decide)
 (hcd:(x == ("__classdict__" : Str))=false:=by decide):PE X (.Name x pos) (bR i):=gP hN hv hd hcd
theorem wg:aF X (.builtin "len") (fun xs H Q=>∃ a kvs,xs=[V.ref a]/\H a=some (.dK kvs)/\Q (.int kvs.length) H):=by
 intro pins s σ H xs us Q I r h;obtain ⟨a,kvs,rfl,ha,q⟩:=h;obtain ⟨u,rfl,ru⟩:=cg r;cases ru
 exact d_len I (.inl ha) fun t s' I'=>⟨.int kvs.length,H,I',⟨t,rfl⟩,q⟩
end
theorem iteF{A B:Prop}(h:B):if false=true then A else B:=by
 rw [if_neg Cq];exact h
noncomputable def aa(H H':Hp):Prop:=∀ b o,H b=some o->H' b=some o
theorem aa.refl(H:Hp):aa H H:=fun _ _ h=>h
theorem aa.trans{H H1 H2:Hp}(a:aa H H1)(b:aa H1 H2):aa H H2:=fun c o h=>b c o (a c o h)
theorem aa.free{H H':Hp}(e:aa H H'){l:Addr}(h:H' l=Option.none):H l=Option.none:=by
 cases q:H l with
 | none=>rfl
 | some o =>
  rw [e l o q] at h;cases h
theorem aa.seq{K:E2}{H H':Hp}{a:Addr}{xs:List V}(e:aa H H')(h:SqL K H a xs):SqL K H' a xs:=by
 rcases h with (h | ⟨o,h⟩) | h
 ·exact .inl (.inl (e _ _ h))
 ·exact .inl (.inr ⟨o,e _ _ h⟩)
 ·exact .inr h
section
variable{κ:Type}[DecidableEq κ]
end
noncomputable def clF(env:Env):List (Str×NameKind)->List (Str×Addr)->List (Str×Addr)
 | [],acc=>acc
 | (n,k)::r,acc=>clF env r (if k == NameKind.free then (n,(env.cells.lookup n).getD 0)::acc else acc)
theorem tK{env:Env}{scope:Scope}(h:∀ y∈scope.names,y.2 = .free->∃ c,env.cells.lookup y.1=some c):closureFor scope env=pure (clF env scope.names []):=by
 have go:∀ (names:List (Str×NameKind)) (acc:List (Str×Addr)),(∀ y∈names,y.2 = .free->∃ c,env.cells.lookup y.1=some c) ->
  (forIn names acc fun (x:Str×NameKind) (r:List (Str×Addr))=>(match x with
    | (name,kind)=>if (kind == NameKind.free)=true then do let a <- cellOf env name;pure (ForInStep.yield ((name,a)::r)) else pure (ForInStep.yield r):Sem (ForInStep (List (Str×Addr)))))=(pure (clF env names acc):Sem (List (Str×Addr))):=by
  intro names
  induction names with
  | nil=>intro acc _;rfl
  | cons x r ih =>
   intro acc hy;obtain ⟨n,k⟩:=x
   have ih':=fun a=>ih a fun y m=>hy y (Cn _ m)
   rw [EO]
   cases hk:(k == NameKind.free) with
   | false =>
    dsimp only;rw [hk,if_neg Cq,pure_bind]
    show _=pure (clF env r (if (k == NameKind.free)=true then _ else acc))
    rw [hk,if_neg Cq];exact ih' acc
   | true =>
    obtain ⟨c,hc⟩:=hy (n,k) Cs (by simpa using hk)
    have e:cellOf env n=pure c:=by unfold cellOf;rw [hc]
    dsimp only;rw [hk,if_pos rfl,e,pure_bind,pure_bind]
    show _=pure (clF env r (if (k == NameKind.free)=true then _ else acc))
    rw [hk,if_pos rfl,hc];exact ih' _
 unfold closureFor;have e:=go scope.names [] h
 show (forIn scope.names [] _ >>= _)=_
 refine (congrArg (fun z=>z >>= fun cs=>pure cs) e).trans ?_;rfl
theorem pM{env:Env}:∀ (names:List (Str×NameKind)) (acc:List (Str×Addr)),(∀ y∈names,y.2 = .free->∃ c,env.cells.lookup y.1=some c) ->
 (∀ x c,acc.lookup x=some c->env.cells.lookup x=some c)->∀ x c,(clF env names acc).lookup x=some c->env.cells.lookup x=some c
 | [],acc,_,h,x,c,e=>h x c e
 | (n,k)::r,acc,hy,h,x,c,e=>by
  refine pM r _ (fun y m=>hy y (Cn _ m)) (fun y d z=> ?_) x c e
  cases hk:(k == NameKind.free) with
  | false=>rw [hk,if_neg Cq] at z;exact h y d z
  | true =>
   rw [hk,if_pos rfl] at z;obtain ⟨c',hc⟩:=hy (n,k) Cs (by simpa using hk);rw [Ec] at z
   cases q:y == n with
   | true =>
    rw [q] at z
    have q':y=n:=by simpa using q
    subst q';have hc':env.cells.lookup y=some c':=hc;rw [hc'] at z ⊢;exact z
   | false=>rw [q] at z;exact h y d z
theorem pN{env:Env}:∀ (names:List (Str×NameKind)) (acc:List (Str×Addr)) (x:Str),((x,NameKind.free)∈names\/∃ c,acc.lookup x=some c)->∃ c,(clF env names acc).lookup x=some c
 | [],acc,x,h=>by
  rcases h with h | h
  ·cases h
  ·exact h
 | (n,k)::r,acc,x,h=>by
  refine pN r _ x ?_
  have keep:(∃ c,acc.lookup x=some c)->∃ c,(if (k == NameKind.free)=true then (n,(env.cells.lookup n).getD 0)::acc else acc).lookup x=some c:=fun hZ=>by
   obtain ⟨c,hc⟩:=hZ
   split
   ·rw [Ec]
    split
    ·exact ⟨_,rfl⟩
    ·exact ⟨c,hc⟩
   ·exact ⟨c,hc⟩
  rcases h with h | h
  ·rcases Cr.mp h with e | e
   ·have e1:x=n:=congrArg Prod.fst e
    have e2:NameKind.free=k:=congrArg Prod.snd e;subst e1 e2;refine .inr ⟨(List.lookup x env.cells).getD 0,?_⟩;rw [if_pos (by rfl),Ec,EH]
   ·exact .inl e
  ·exact .inr (keep h)
theorem gN{env:Env}:∀ {names:List (Str×NameKind)} {x:Str} {k:NameKind},
 (names.map fun (n,k)=>if (k == NameKind.free&&env.scope.kind == .function&&env.kindOf n == some .cell) then (n,NameKind.cell) else (n,k)).lookup x=some k ->
 (names.lookup x=some k)\/(k = .cell/\names.lookup x=some .free)
 | [],_,_,h=>by simp at h
 | (n,k')::r,x,k,h=>by
  have ih := @gN env r x k;have h:List.lookup x ((if (k' == NameKind.free&&env.scope.kind == .function&&env.kindOf n == some .cell)=true then (n,NameKind.cell) else (n,k'))::_)=some k:=h
  by_cases hc:(k' == NameKind.free&&env.scope.kind == .function&&env.kindOf n == some .cell)=true
  ·rw [if_pos hc,Ec] at h
   rw [Ec]
   cases hx:x == n with
   | true =>
    rw [hx] at h;have h':some NameKind.cell=some k:=h;cases h'
    have:k'=NameKind.free:=by
     have:=(CD _ _).mp ((CD _ _).mp hc).1;simpa using this.1
    subst this;exact .inr ⟨rfl,rfl⟩
   | false=>rw [hx] at h;exact ih h
  ·rw [if_neg hc,Ec] at h
   rw [Ec]
   cases hx:x == n with
   | true=>rw [hx] at h;exact .inl h
   | false=>rw [hx] at h;exact ih h
noncomputable def blk(X:Cx)(sc:Scope)(cl:List (Str×Addr))(C:Addr)(fp:List Addr)(s:Shared)(H:Hp)(N:List Str):Cx :=
 { X with env:=compEnvC sc cl C X.env,N:=N,s₀:=s,H₀:=H,outer:=X.stack,ex:=fp,fn:=fun _=>false,pn:=[],xe:=fun _ _=>False }
structure mX(X:Cx)(sc:Scope)(M tgs:List Str):Prop where
 kind:sc.kind = .function
 names:∀ y∈sc.names,y.2 = .local->sc.names.lookup y.1=some .local
 nocell:∀ y∈sc.names,y.2 ≠ .cell
 free:∀ y∈sc.names,y.2 = .free->X.env.kindOf y.1=some .cell\/X.env.kindOf y.1=some .free
 len:M.length=X.N.length
 same:∀ p∈M.zip X.N,p.1=p.2\/p.1=("" : Str)
 dummy:sc.names.lookup ("" : Str)=none
 hid:∀ x∈M,sc.names.lookup x≠some .local
section
variable{X:Cx}
theorem Inv.blk{pins:List (Addr×Obj)}{σ:St}{H:Hp}{s s4:Shared}{sc:Scope}{M tgs:List Str}{C:Addr}{fp:List Addr}{m:Str->Option Value}(I:Inv X pins σ H s)(B:mX X sc M tgs)(hf:∀ b∈fp,rT X pins H b)(hfl:∀ b∈fp,b < s.heap.objs.size)
 (hC:s.heap.objs.size<=C) (hn:s4.heap.Ns C m) (hk:∀ b o,s.heap.get? b=some o->s4.heap.get? b=some o) (ho:s4.os=s.os) (hg:s4.gens=s.gens) :
 Inv (blk X sc (clF X.env sc.names []) C fp s H (M++tgs)) [] (σ++List.replicate tgs.length none) H s4:=by
 have hfr:∀ y∈sc.names,y.2 = .free->∃ c,X.env.cells.lookup y.1=some c:=fun y hy e=>I.ok.has _ (B.free y hy e)
 have hsub:∀ x c,(clF X.env sc.names []).lookup x=some c->X.env.cells.lookup x=some c:=pM sc.names [] hfr fun _ _ z=>by simp at z
 have hin:∀ x c,(clF X.env sc.names []).lookup x=some c->c < s.heap.objs.size:=fun x c e=>by
  obtain ⟨v,q⟩:=I.cell x c (hsub x c e);exact q.lt
 have hfree:∀ x,((relabel sc X.env).names.lookup x=some .cell\/(relabel sc X.env).names.lookup x=some .free)->sc.names.lookup x=some .free:=fun x hx=>by
  rcases hx with q | q
  ·rcases gN q with z | z
   ·exact absurd rfl (B.nocell _ (Dm z))
   ·exact z.2
  ·rcases gN q with z | z
   ·exact z
   ·exact absurd z.1 (by decide)
 refine ⟨⟨I.ok.mod,B.kind,I.ok.glob,I.ok.blt,hC,fun x y c h1 h2=>I.ok.inj x y c (hsub x c h1) (hsub y c h2),fun x hx=> ?_,fun x c z=>absurd z Cq,I.ok.hd,I.ok.frames,.inl rfl,fun b hb=>⟨?_,fun x c e=> ?_⟩,I.bs,?_,fun b o e z=> ?_,fun b hb=> ?_,I.stack,I.stkFree⟩,
  ho,?_,Un.kept hk,⟨m,hn,fun i x v h1 h2 h3=> ?_⟩,fun x c e=> ?_,I.hok.fresh hC,fun x c e=>I.freeC x c (hsub x c e),fun p hp=>absurd (show p∈([]:List (Addr×Obj)) from hp) (by simp),I.hok.kept hk,?_⟩
 ·exact pN sc.names [] x (.inl (Dm (hfree x hx)))
 ·exact CJ (CO (hfl b hb) hC)
 ·exact (hf b hb).2.2.2.2.1 x c (hsub x c e)
 ·exact DD I.ok.bsz I.sz
 ·rcases (hf b z).2.2.2.1 with q | q
  ·exact I.ok.noex b o e q
  ·exact absurd (CO (Cu e) I.ok.bsz) (Nat.not_lt.mpr q)
 ·intro z
  rcases Cr.mp (I.stkSub b z) with q | q
  ·exact (hf b hb).2.1 q
  ·exact (hf b hb).2.2.1 q
 ·rw [hg];exact I.bare
 ·have hl:M.length=σ.length:=B.len.trans I.len.symm
  have hi:i < σ.length:=by
   by_cases hi:i < σ.length
   ·exact hi
   ·rw [DA (by omega),DZ] at h2
    split at h2<;>cases h2
  rw [CV hi] at h2;have h1:(M++tgs)[i]?=some x:=h1;rw [CV (by omega)] at h1;have hmem:x∈M:=CB h1
  have hx:sc.names.lookup x=some .free:=by
   rcases h3 with q | q | q
   ·rcases gN q with z | z
    ·exact absurd z (B.hid x hmem)
    ·exact absurd z.1 (by decide)
   ·exact hfree x (.inl q)
   ·exact hfree x (.inr q)
  have hNi:X.N[i]?=some x:=by
   have hi2:i < X.N.length:=by rw [<- I.len];exact hi
   have hz:(M.zip X.N)[i]?=some (x,X.N[i]):=by
    rw [Ek];exact ⟨h1,Ch hi2⟩
   rcases B.same _ (CB hz) with q | q
   ·have q':x=X.N[i]:=q
    rw [Ch hi2,q']
   ·have q':x=("" : Str):=q
    rw [q',B.dummy] at hx;cases hx
  have hk2:=B.free (x,.free) (Dm hx) rfl;obtain ⟨m0,_,hl0⟩:=I.loc;obtain ⟨u,r,l⟩:=hl0 i x v hNi h2 (.inr hk2);refine ⟨u,r,.inr ?_⟩
  rcases l with ⟨k,_⟩ | ⟨_,c,ec,hcell⟩
  ·have k':X.env.kindOf x=some .local:=k
   rcases hk2 with q | q
   ·have q':X.env.kindOf x=some .cell:=q
    rw [k'] at q';cases q'
   ·have q':X.env.kindOf x=some .free:=q
    rw [k'] at q';cases q'
  ·obtain ⟨c',ec'⟩:=pN (env:=X.env) sc.names [] x (.inl (Dm hx))
   have:c'=c:=by
    have:=hsub x c' ec';rw [ec] at this;exact (Option.some.inj this).symm
   subst this;refine ⟨?_,c',ec',?_⟩
   ·rcases h3 with q | q | q
    ·rcases gN q with z | z
     ·rw [hx] at z;cases z
     ·exact absurd z.1 (by decide)
    ·exact .inl q
    ·exact .inr q
   ·obtain ⟨o,e1,e2⟩:=hcell
    exact ⟨o,hk _ _ e1,e2⟩
 ·obtain ⟨v,o,e1,e2⟩:=I.cell x c (hsub x c e)
  exact ⟨v,o,hk _ _ e1,e2⟩
 ·show (σ++_).length=(M++tgs).length
  rw [Cy,Cy,Dj,B.len,I.len]
noncomputable def wv(X:Cx)(ifs:List Expr)(t:TT):Prop :=
 ∀ (pins:List (Addr×Obj)) (s:Shared) (σ:St) (H:Hp) (Q:Bool->Hp->Prop),Inv X pins σ H s->t σ H Q ->
  wpAny (model X.prog X.w) X.A (forIn ifs true fun c r=>if r=true then do let ok <- isTrue c X.env (eval c X.env);pure (ForInStep.yield ok) else pure (ForInStep.yield r)) (TP X pins σ Q) X.xe s
noncomputable def BK:TT:=fun _ H Q=>Q true H
theorem pif0:wv X [] BK:=fun pins s σ H Q I h=>wpAny_tests_nil ⟨H,I,h⟩
theorem pif1{c:Expr}{t:TT}(h:PT X c t):wv X [c] t:=fun pins s σ H Q I hw=>wpAny_tests_one (h pins s σ H Q I hw)
theorem pL{prog:Program}{w:World}{A:Around}{R:Result->Shared->Prop}{s:Shared}{elt target iter:Expr}{ifs:List Expr}{scope:Scope}{pos:Pos}{it acc:Value}{env:Env}(I:Nat->Shared->Prop)
 (turn:∀ n s,I n s->wpAny (model prog w) A (pyNext it) (fun r s₁=>match r with
   | none=>R (.ok .next) s₁
   | some v=>wpAny (model prog w) A (letOwnedTupleGo target it v) (fun _ s₁'=>wpAny (model prog w) A (assign target env v) (fun _ s₂ =>
    wpAny (model prog w) A (forIn ifs true fun c r=>if r=true then do let ok <- isTrue c env (eval c env);pure (ForInStep.yield ok) else pure (ForInStep.yield r)) (fun ok s₃ =>
     if ok=true then wpAny (model prog w) A (eval elt env) (fun x s₄ =>
      wpAny (model prog w) A (call (.builtin "list.append") [acc,x]) (fun _ s₅=>∃ m,m < n/\I m s₅) (fun _ _=>False) s₄) (fun _ _=>False) s₃
     else ∃ m,m < n/\I m s₃) (fun _ _=>False) s₂) (fun _ _=>False) s₁') (fun _ _=>False) s₁) (fun _ _=>False) s)
 (n:Nat) (h:I n s) :
 codeAny (model prog w) A (.compLoop (.ListComp elt [⟨target,iter,ifs,0⟩] scope pos) 0 it acc env) R s:=by
 refine codeAny_loop rfl I (fun n s hI=> ?_) n h
 show wpAny _ A ((compTurn (.ListComp elt [⟨target,iter,ifs,0⟩] scope pos) 0 it acc env).onRaise (fun x=>do noteFrame x env;theTreesLotGoes x)) _ _ s
 refine wpAny_noted ?_;rw [compTurn_list];refine Cg (wpAny_standAt (Cg (Dy (turn n s hI) (fun r s₁ h₁=> ?_) fun _ _ z=>z.elim)))
 cases r with
 | none=>exact wpAny_pure h₁
 | some v =>
  refine Cg (Dy h₁ (fun _ s₁' h₁'=> ?_) fun _ _ z=>z.elim);refine Cg (Dy h₁' (fun _ s₂ h₂=>Cg (Dy h₂ (fun ok s₃ h₃=> ?_) fun _ _ z=>z.elim)) fun _ _ z=>z.elim)
  cases ok with
  | false=>exact wpAny_pure ⟨rfl,h₃⟩
  | true =>
   exact Cg (Cg (Dy h₃ (fun x s₄ h₄=>Cg (Dy h₄ (fun _ s₅ h₅=>wpAny_pure (wpAny_pure ⟨rfl,h₅⟩)) fun _ _ z=>z.elim)) fun _ _ z=>z.elim))
noncomputable def CompW(J:It)(k:Nat)(g:TG)(tt:TT)(te:TE)(σ:St)(Q:VK)(H1:Hp):Prop:=∃ W:Nat->Nat->List V->Hp->Prop,(∃ m,W 0 m [] H1)/\∀ i m ys H,W i m ys H->ys.length<=sizeLine /\
 ((J.stop i H/\∀ l,H l=none->Q (.ref l) (upd H l (.lst ys)))\/(J.go i H/\∀ x H',J.yld i H x H'->g x (σ++List.replicate k none) H' fun σ2 H2=>σ2.take σ.length=σ/\tt σ2 H2 fun b H3 =>
   if b=true then te σ2 H3 fun y H4=>∃ m',m' < m/\W (i+1) m' (ys++[y]) H4 else ∃ m',m' < m/\W (i+1) m' ys H3))
noncomputable def qi(wi:TI)(k:Nat)(g:TG)(tt:TT)(te:TE):TE:=fun σ H Q=>wi σ H fun J H1=>CompW J k g tt te σ Q H1
theorem HOk.track{P:Program}{w:World}{H:Hp}{h:Heap}{a:Addr}{o:HO}(x:HOk P w H h)(hn:H a=none)(new:bH P w (upd H a o) h a o):HOk P w (upd H a o) h:=fun b u e=>by
 by_cases hb:b=a
 ·subst hb
  rw [af] at e;cases e;exact new
 ·rw [ah hb] at e
  exact (x b u e).stay (fun _ _ _ q=>q) (fun c q=>by rw [ah (aq q hn)];exact q) fun c xs q=>by rw [ah (aq q hn)];exact q
theorem zT{σ σ':St}{k:Nat}(h:σ'.take σ.length=σ):∀ (i:Nat) v,(σ++List.replicate k (none:Option V))[i]?=some (some v)->σ'[i]?=some (some v):=fun i v e=>by
 by_cases hi:i < σ.length
 ·rw [CV hi,<- h,List.getElem?_take_of_lt hi] at e
  exact e
 ·rw [DA (by omega),DZ] at e
  split at e<;>cases e
theorem oD{elt tg iter:Expr}{ifs:List Expr}{sc:Scope}{M tgs:List Str}{pos pos':Pos}{wi:TI}{g:TG}{tt:TT}{te:TE}{use:Option (Value->Sem Unit)}{Qf:Value->Shared->Prop}{pins:List (Addr×Obj)}{s:Shared}{σ:St}{H:Hp}{Q:VK}(hc:X.calm=true)(B:mX X sc M tgs)(hi:PI X tg iter wi)
 (hg:∀ cl C fp s H,PG (blk X sc cl C fp s H (M++tgs)) tg g) (ht:∀ cl C fp s H,wv (blk X sc cl C fp s H (M++tgs)) ifs tt) (he:∀ cl C fp s H,PE (blk X sc cl C fp s H (M++tgs)) elt te)
 (hs:∀ x,foldedSetIterable iter X.env x=pure x) (I:Inv X pins σ H s) (h:qi wi tgs.length g tt te σ H Q)
 (fin:∀ (C D:Addr) (m:Str->Option Value) (s6:Shared) (H':Hp),Inv X pins σ H' s6->s6.heap.Ns C m->H' C=none->X.env.locals < C->X.s₀.heap.objs.size<=C->(∀ x c,X.env.cells.lookup x=some c->c≠C)->(∀ p∈X.pn++pins,p.1≠C)->Q (.ref D) H'->∀ f,compPost (model X.prog X.w) X.A X.xe use Qf (.ref D) C (.ok f) s6) :
 wpAny (model X.prog X.w) X.A (comprehension (.ListComp elt [⟨tg,iter,ifs,0⟩] sc pos) sc X.env pos' (newList []) false (eval iter X.env) use) Qf X.xe s:=by
 have hfr:∀ y∈sc.names,y.2 = .free->∃ c,X.env.cells.lookup y.1=some c:=fun y hy e=>I.ok.has _ (B.free y hy e)
 have hsub:∀ x c,(clF X.env sc.names []).lookup x=some c->X.env.cells.lookup x=some c:=pM sc.names [] hfr fun _ _ z=>by simp at z
 refine wpAny_comprehension_free (use:=use) rfl hs (tK hfr) B.kind B.names (thn (hi pins s σ H _ I h) fun xv s₁ h₁=>thn h₁ fun itv s₂ h₂=> ?_);obtain ⟨it,fp,tn,J,H2,rfl,I2,T,st2,f2,W,⟨m0,w0⟩,turn⟩:=h₂
 have hfl:∀ b∈fp,b < s₂.heap.objs.size:=fun b hb=>by
  obtain ⟨o,e,_⟩:=T.obj _ _ st2 b hb;exact Cu e
 refine CW (wpAny_newFunctionEnv B.nocell (by intro y hy;simp at hy) (fun h₁ hns₁ hsb₁=> ?_) B.kind);dsimp only at hns₁ hsb₁ ⊢
 generalize hH2:s₂.heap.push { cls:= .type "list",dict:=none,data:= .seq ([]:List Value).toArray }=HH at hns₁ hsb₁ ⊢
 have hC:HH.objs.size=s₂.heap.objs.size+1:=by rw [<- hH2,C5]
 generalize hCC:HH.objs.size=C at hC hns₁ hsb₁ ⊢
 generalize hDD:s₂.heap.objs.size=D at hC ⊢
 have hDC:D≠C:=by omega
 have below:∀ b,b < D->b≠C/\b≠D:=fun b hb=>⟨by omega,by omega⟩
 have old:∀ b o,s₂.heap.get? b=some o->h₁.get? b=some o:=fun b o e=>hsb₁.extBut b o (below b (hDD ▸ Cu e)).1 (Cj _ (hH2 ▸ Cj _ e))
 have hacc:h₁.PlainList D #[]:=⟨_,hsb₁.extBut _ _ hDC (Cj _ (by rw [<- hH2,<- hDD];exact Ct _ rfl))⟩
 have hCs:s₂.heap.objs.size<=C:=by omega
 generalize hS4:({ s₂ with heap:=h₁,toks:=s₂.toks+([]:List (Str×Value)).length }:Shared)=s₄
 have I4:Inv (blk X sc (clF X.env sc.names []) C fp s₂ H2 (M++tgs)) [] (σ++List.replicate tgs.length none) H2 s₄ :=
  I2.blk B f2 hfl hCs (by rw [<- hS4];exact hns₁) (by rw [<- hS4];exact old) (by rw [<- hS4]) (by rw [<- hS4])
 have hD4:s₄.heap.PlainList D #[]:=by rw [<- hS4];exact hacc
 have st4:tn 0 s₄.heap:=by rw [<- hS4];exact T.keep _ _ _ st2 fun b _ o e=>old b o e
 let X':=blk X sc (clF X.env sc.names []) C fp s₂ H2 (M++tgs)
 have nfs:∀ b,s₂.heap.objs.size<=b->b∉frs X.stack:=fun b hb z=>by
  rcases Cr.mp (I2.stkSub b z) with q | q
  ·rw [q] at hb;exact absurd I2.lt (Nat.not_lt.mpr hb)
  ·exact I2.nofs hb q
 have Dpin:∀ {s':Shared} {H':Hp} {its:Array Value} {n:Nat},s'.heap.get? D=some { cls:= .type "list",data:= .seq its n }->H' D=none ->
  ∀ p∈[(D,({ cls:= .type "list",data:= .seq its n }:Obj))],s'.heap.get? p.1=some p.2/\H' p.1=none/\p.1≠X'.env.locals/\p.1∉X'.fs/\∀ v,p.2.data ≠ .cell v:=fun {s' H' its n} e hn p hp=>by
  have e1:p=(D,({ cls:= .type "list",data:= .seq its n }:Obj)):=by simpa using hp
  subst e1;exact ⟨e,hn,hDC,nfs D (by omega),fun v z=>by cases z⟩
 have fpk:∀ {pl:List (Addr×Obj)} {H':Hp},(∀ p∈pl,p.1=D)->(∀ b∈fp,H' b=none)->∀ b∈fp,rT X' pl H' b:=fun {pl H'} hpl hn b hb=>by
  refine ⟨hn b hb,(below b (hDD ▸ hfl b hb)).1,fun z=> ?_,.inl hb,fun x c e=>(f2 b hb).2.2.2.2.1 x c (hsub x c e),fun p hp=> ?_⟩
  ·rcases Cr.mp (I2.stkSub b z) with q | q
   ·exact (f2 b hb).2.1 q
   ·exact (f2 b hb).2.2.1 q
  ·have hp':p∈pl:=by simpa [X',blk] using hp
   rw [hpl p hp'];exact Ne.symm (below b (hDD ▸ hfl b hb)).2
 have cellD:∀ x c,X'.env.cells.lookup x=some c->c≠D:=fun x c e z=>by
  obtain ⟨v,q⟩:=I2.cell x c (hsub x c e);have q:=q.lt;rw [z,hDD] at q;exact Ew _ q
 have A7:codeAny (model X.prog X.w) X.A (.compLoop (.ListComp elt [⟨tg,iter,ifs,0⟩] sc pos) 0 (.ref it) (.ref D) (compEnvC sc (clF X.env sc.names []) C X.env))
  (compPost (model X.prog X.w) X.A X.xe use Qf (.ref D) C) s₄:=by
  refine pL (fun n s'=>∃ i ys its k H',Inv X' [(D,{ cls:= .type "list",data:= .seq its k })] (σ++List.replicate tgs.length none) H' s'/\aw ys its.toList/\tn i s'.heap/\(∀ b∈fp,H' b=none)/\W i n ys H') ?_ m0 ?_
  ·rintro n s5 ⟨i,ys,its,k,H5,I5,hv,st5,fr5,w5⟩
   obtain ⟨hz,w5⟩:=turn i n ys H5 w5;have hD5:=I5.pin (D,{ cls:= .type "list",data:= .seq its k }) (Co _ (by simp))
   have one:∀ p∈[(D,({ cls:= .type "list",data:= .seq its k }:Obj))],p.1=D:=fun p hp=>by
    have:p=(D,({ cls:= .type "list",data:= .seq its k }:Obj)):=by simpa using hp
    rw [this]
   rcases w5 with ⟨stop,qn⟩ | ⟨go,step⟩
   ·refine thn (T.done X' rfl rfl rfl hc i _ s5 _ H5 _ I5 (fpk one fr5) st5 stop) fun r s6 ⟨hr,I6⟩=> ?_
    subst hr;obtain ⟨m6,hn6,_⟩:=I6.loc;have hn6:s6.heap.Ns C m6:=hn6;obtain ⟨e6,n6,_⟩:=I6.pin (D,{ cls:= .type "list",data:= .seq its k }) (Co _ (by simp));have hC6:H5 C=none:=I6.free;have hln:ys.length<=sizeLine:=hz;have ok8:HOk X.prog X.w (upd H5 D (.lst ys)) s6.heap:=I6.hok.track n6 ⟨hln,its.toList,k,hv,by simpa using e6⟩;have un:Un (frs X.stack) fp H2 H5 s₂.heap s6.heap:=I6.base
    have neC:∀ b o,s₂.heap.get? b=some o->b≠C/\b≠D:=fun b o e=>below b (hDD ▸ Cu e)
    have un7:Un (frs X.stack) fp H2 (upd H5 D (.lst ys)) s₂.heap s6.heap:=by
     refine ⟨un.keep,un.slot,fun b o e n hx=> ?_,un.there,fun b xs e=> ?_,fun b o u e=> ?_,fun b ps e=> ?_⟩
     ·rw [ah (neC b o e).2];exact un.free b o e n hx
     ·have q:=un.tups b xs e
      rw [ah (aq q n6)];exact q
     ·have q:=un.frzs b o u e
      rw [ah (aq q n6)];exact q
     ·obtain ⟨more,q⟩:=un.tbls b ps e
      exact ⟨more,by rw [ah (aq q n6)];exact q⟩
    have I8:Inv X pins σ (upd H5 D (.lst ys)) s6:=I2.call' (ch:=fp) I6.os un7 ok8 I6.bare (fun b hb=>⟨(f2 b hb).2.2.2.1,(f2 b hb).2.1,(f2 b hb).2.2.2.2.1,(f2 b hb).2.2.2.2.2⟩);have hLC:X.env.locals < C:=CO I2.lt hCs
    have hcC:∀ x c,X.env.cells.lookup x=some c->c≠C:=fun x c e z=>by
     obtain ⟨v,q⟩:=I2.cell x c e;have q:=q.lt;rw [z] at q;exact absurd q (Nat.not_lt.mpr hCs)
    exact fin C D m6 s6 _ I8 hn6 (by rw [ah (Ne.symm hDC)];exact hC6) hLC (DD I2.sz hCs) hcC (fun p hp z=>by
     have:=Cu (I2.pin p hp).1;rw [z] at this
     exact absurd this (Nat.not_lt.mpr hCs)) (qn D n6) _
   ·refine thn (T.item X' rfl rfl rfl hc i _ s5 _ H5 _ I5 (fpk one fr5) st5 go) fun r s6 ⟨u,hr,h6⟩=> ?_
    subst hr
    refine thn h6 fun _ s7 ⟨x,H7,I7,r7,y7,st7,fr7⟩=> ?_
    have I7':=I7.pinned (fpk one fr7) (T.obj _ _ st7)
    refine thn (hg _ _ _ _ _ _ s7 _ H7 x u _ I7' r7 (step x H7 y7)) fun _ s8 ⟨σ8,H8,I8,tk8,q8⟩=> ?_
    refine thn (ht _ _ _ _ _ _ s8 σ8 H8 _ I8 q8) fun b s9 ⟨H9,I9,q9⟩=> ?_
    have weak:∀ {pl:List (Addr×Obj)} {H':Hp} {s':Shared},Inv X' pl σ8 H' s'->Inv X' pl (σ++List.replicate tgs.length none) H' s':=fun {pl H' s'} J=>J.weak (by
     have e1:σ8.length=(M++tgs).length:=J.len
     rw [e1,Cy,Cy,Dj,B.len,I2.len]) (zT tk8)
    have fin:∀ {H':Hp} {s':Shared},Inv X' ([(D,{ cls:= .type "list",data:= .seq its k })]++l0 fp s7.heap) σ8 H' s'->tn (i+1) s'.heap/\∀ b∈fp,H' b=none:=fun {H' s'} J=>by
     refine ⟨T.keep _ _ _ st7 fun b hb o e=>(J.pin (b,o) (Co _ (Co _ (fF hb e)))).1,fun b hb=> ?_⟩;obtain ⟨o,e,d⟩:=T.obj _ _ st7 b hb;exact (J.pin (b,o) (Co _ (Co _ (fF hb e)))).2.1
    cases b with
    | false =>
     rw [if_neg Cq] at q9 ⊢;obtain ⟨m',hm,w9⟩:=q9;exact ⟨m',hm,i+1,ys,its,k,H9,weak I9.unpinned,hv,(fin I9).1,(fin I9).2,w9⟩
    | true =>
     rw [if_pos rfl] at q9 ⊢
     refine thn (he _ _ _ _ _ _ s9 σ8 H9 _ I9 q9) fun y s10 ⟨yv,H10,I10,r10,q10⟩=> ?_
     obtain ⟨m',hm,w10⟩:=q10;obtain ⟨e10,n10,_⟩:=I10.pin (D,{ cls:= .type "list",data:= .seq its k }) (Co _ (Cp _ (by simp)))
     have hsz:its.size<=sizeLine:=by
      have e1:=hv.length
      have e2:its.toList.length=its.size:=by simp
      omega
     refine wpAny_list_append_plain (hsz:=hsz) ⟨k,e10⟩ fun h11 hl11 hs11=> ?_
     obtain ⟨k',e11⟩:=hl11
     have J0:Inv X' [] σ8 H10 s10:=I10.pins_of fun p hp=>by simp at hp
     have J1:Inv X' [] σ8 H10 { s10 with heap:=h11 }:=J0.turned (t':=s10.toks) (it:=D) (fun b o hb e=>(hs11.2 b hb).trans e) n10 hDC (.inr (by show s₂.heap.objs.size<=D;omega)) cellD (fun p hp=>by
      have hp':p∈([]:List (Addr×Obj)):=by simpa [X',blk] using hp
      simp at hp')
     have J2:Inv X' [(D,{ cls:= .type "list",data:= .seq (its.push y) k' })] σ8 H10 { s10 with heap:=h11 }:=J1.pins_of (Dpin e11 n10);refine ⟨m',hm,i+1,ys++[yv],its.push y,k',H10,weak J2,?_,?_,(fin I10).2,w10⟩
     ·rw [Array.toList_push]
      exact hv.append (.cons r10 .nil)
     ·refine T.keep _ _ _ (fin I10).1 fun b hb o e=>(hs11.2 b ?_).trans e
      exact (below b (hDD ▸ hfl b hb)).2
  ·obtain ⟨k,e⟩:=hD4
   exact ⟨0,[],#[],k,H2,I4.pins_of (Dpin e (I2.hok.fresh (by omega))),.nil,st4,fun b hb=>(f2 b hb).1,w0⟩
 exact codeAny_compStart_list A7 (T.self _ _ _ _ _ st4 A7)
theorem AH{elt tg iter:Expr}{ifs:List Expr}{sc:Scope}{M tgs:List Str}{pos:Pos}{wi:TI}{g:TG}{tt:TT}{te:TE}(hc:X.calm=true)(B:mX X sc M tgs)(hi:PI X tg iter wi)
 (hg:∀ cl C fp s H,PG (blk X sc cl C fp s H (M++tgs)) tg g) (ht:∀ cl C fp s H,wv (blk X sc cl C fp s H (M++tgs)) ifs tt) (he:∀ cl C fp s H,PE (blk X sc cl C fp s H (M++tgs)) elt te)
 (hs:∀ x,foldedSetIterable iter X.env x=pure x:=by intro _;rfl):PE X (.ListComp elt [⟨tg,iter,ifs,0⟩] sc pos) (qi wi tgs.length g tt te):=by
 intro pins s σ H Q I h;rw [eval_ListComp]
 exact oD hc B hi hg ht he hs I h fun C D m s6 H' I8 hn hC hLC hsz hcC hp q f=>⟨m,hn,fun h' hs'=>⟨.ref D,H',I8.turned (t':=s6.toks) (it:=C) (fun b o hb e=>(hs'.2 b hb).trans e) hC (DW hLC) (.inr hsz) hcC hp,rfl,q⟩⟩
end
end L2
namespace HT
open PySem PySem.Spec PyProof.Rows PySem.SeqAt
section
open PySem.SeqAt
open PySem.AutoSeq1 (wpAny_loadPart')
open PySem.MeetsSeq PySem.MeetsSeq2 PySem.MeetsSeq3
end
section
variable{prog:Program}{w:World}{A:Around}{E:Value->Shared->Prop}{s:Shared}
end
end HT
namespace L2
open PySem PySem.Spec PyProof.Rows
section
variable{X:Cx}
noncomputable def B7(K:E2)(H:Hp)(T:String):V->Prop
 | .non=>T = "NoneType"
 | .bl _=>T = "bool"
 | .int _=>T = "int"
 | .str _=>T = "str"
 | .ref p=>(T = "list" /\ ∃ xs,SqL K H p xs)\/(T = "tuple" /\ ∃ xs,SqT K H p xs)\/(T = "dict" /\ ((∃ kvs,H p=some (.dK kvs))\/∃ kvs,H p=some (.dT kvs)))
 | _=>False
noncomputable def Bd(T C:String):Bool:=T == C||(T == "bool" && C == "int")
noncomputable def isiC(C:String):Prop:=C = "int" \/ C = "bool" \/ C = "tuple" \/ C = "list" \/ C = "str"
noncomputable def rIsi(K:E2):List V->Hp->VK->Prop:=fun xs H Q=>∃ x T C,xs=[x,.ty C]/\isiC C/\B7 K H T x/\Q (.bl (Bd T C)) H
theorem zd:aF X (.builtin "isinstance") (rIsi X.K):=by
 intro pins s σ H xs us Q I r h;obtain ⟨x,T,C,rfl,hC,hk,q⟩:=h;obtain ⟨u,w',rfl,rx,rc⟩:=nJ r;cases rc
 have fin:∀ (b:Bool) (t:Nat),b=Bd T C->EP X pins σ Q (.bool b) { s with toks:=t }:=fun b t e=>⟨.bl b,H,I.tok t,rfl,by rw [e];exact q⟩
 have fin0:∀ (b:Bool),b=Bd T C->EP X pins σ Q (.bool b) s:=fun b e=>⟨.bl b,H,I,rfl,by rw [e];exact q⟩
 cases x with
 | non =>
  cases rx;cases (show T = "NoneType" from hk)
  rcases hC with rfl | rfl | rfl | rfl | rfl
  ·exact IsiPair.NoneType_int (fin _ _ rfl)
  ·exact IsiPair.NoneType_bool (fin _ _ rfl)
  ·exact IsiPair.NoneType_tuple (fin _ _ rfl)
  ·exact IsiPair.NoneType_list (fin _ _ rfl)
  ·exact IsiPair.NoneType_str (fin _ _ rfl)
 | bl b =>
  cases rx;cases (show T = "bool" from hk)
  rcases hC with rfl | rfl | rfl | rfl | rfl
  ·exact IsiPair.bool_int (fin0 _ rfl)
  ·exact IsiPair.bool_bool (fin0 _ rfl)
  ·exact IsiPair.bool_tuple (fin _ _ rfl)
  ·exact IsiPair.bool_list (fin _ _ rfl)
  ·exact IsiPair.bool_str (fin _ _ rfl)
 | int i =>
  obtain ⟨t,rfl⟩:=rx;cases (show T = "int" from hk)
  rcases hC with rfl | rfl | rfl | rfl | rfl
  ·exact IsiPair.int_int (fin0 _ rfl)
  ·exact IsiPair.int_bool (fin _ _ rfl)
  ·exact IsiPair.int_tuple (fin _ _ rfl)
  ·exact IsiPair.int_list (fin _ _ rfl)
  ·exact IsiPair.int_str (fin _ _ rfl)
 | str z =>
  obtain ⟨t,rfl⟩:=rx;cases (show T = "str" from hk)
  rcases hC with rfl | rfl | rfl | rfl | rfl
  ·exact IsiPair.str_int (fin _ _ rfl)
  ·exact IsiPair.str_bool (fin _ _ rfl)
  ·exact IsiPair.str_tuple (fin _ _ rfl)
  ·exact IsiPair.str_list (fin _ _ rfl)
  ·exact IsiPair.str_str (fin0 _ rfl)
 | ref p =>
  cases rx
  rcases hk with ⟨rfl,xs,hq⟩ | ⟨rfl,xs,hq⟩ | ⟨rfl,hk⟩
  ·obtain ⟨its,_,pl,_⟩:=I.list hq
   obtain ⟨o,n,e,c,hd,_⟩:=pl
   rcases hC with rfl | rfl | rfl | rfl | rfl
   ·exact IsiPair.list_int e c (fin _ _ rfl)
   ·exact IsiPair.list_bool e c (fin _ _ rfl)
   ·exact IsiPair.list_tuple e c (fin _ _ rfl)
   ·exact IsiPair.list_list e c (fin0 _ rfl)
   ·exact IsiPair.list_str e c (fin _ _ rfl)
  ·obtain ⟨its,_,⟨o,e,c,_⟩,_⟩:=I.tuple hq
   rcases hC with rfl | rfl | rfl | rfl | rfl
   ·exact IsiPair.tuple_int e c (fin _ _ rfl)
   ·exact IsiPair.tuple_bool e c (fin _ _ rfl)
   ·exact IsiPair.tuple_tuple e c (fin0 _ rfl)
   ·exact IsiPair.tuple_list e c (fin _ _ rfl)
   ·exact IsiPair.tuple_str e c (fin _ _ rfl)
  ·have z:∃ o,s.heap.get? p=some o/\o.cls = .type "dict" := by
    rcases hk with ⟨kvs,hk⟩ | ⟨kvs,hk⟩
    ·obtain ⟨_,_,_,_,o,_,_,e,ex,_⟩:=I.hok p _ hk
     exact ⟨o,e,ex.1⟩
    ·obtain ⟨_,_,_,_,o,_,_,e,ex,_⟩:=I.hok p _ hk
     exact ⟨o,e,ex.1⟩
   obtain ⟨o,e,c⟩:=z
   rcases hC with rfl | rfl | rfl | rfl | rfl
   ·exact IsiPair.dict_int e c (fin _ _ rfl)
   ·exact IsiPair.dict_bool e c (fin _ _ rfl)
   ·exact IsiPair.dict_tuple e c (fin _ _ rfl)
   ·exact IsiPair.dict_list e c (fin _ _ rfl)
   ·exact IsiPair.dict_str e c (fin _ _ rfl)
 | _=>exact False.elim hk
end
end L2
namespace RawD
open PySem PySem.Spec PyProof.Rows PySem.W
noncomputable def At(h:Heap)(d:Addr)(es:Array DictEntry)(ep:Nat):Prop:=∃ o,h.get? d=some o/\o.ExactDict/\o.data = .dict es ep
theorem At.keep{h h':Heap}{d:Addr}{es:Array DictEntry}{ep:Nat}(x:At h d es ep)(k:∀ o,h.get? d=some o->h'.get? d=some o):At h' d es ep:=let ⟨o,a,r⟩:=x;⟨o,k o a,r⟩
theorem At.ty{s:Shared}{d:Addr}{es:Array DictEntry}{ep:Nat}(x:At s.heap d es ep):s.TypeIs (.ref d) "dict" := let ⟨o,a,b,_⟩:=x;⟨o,a,b.1⟩
theorem At.lt{h:Heap}{d:Addr}{es:Array DictEntry}{ep:Nat}(x:At h d es ep):d < h.objs.size:=let ⟨_,a,_⟩:=x;Cu a
section
variable{prog:Program}{w:World}{A:Around}{E:Value->Shared->Prop}{s:Shared}{d it:Addr}{es:Array DictEntry}{ep i:Nat}
theorem iter{Q:Value->Shared->Prop}(lo:(d == sysModules)=false)(x:At s.heap d es ep)
 (q:Q (.ref s.heap.objs.size) { s with heap:=s.heap.push { cls:= .type "dict_keyiterator",data:= .fields #[.ref d,.int 0 0,.int es.size 0,.int ep 0] } }) :
 wpAny (model prog w) A (pyIter (.ref d)) Q E s:=by
 have ty:=x.ty;obtain ⟨o,a1,a2,a3⟩:=x;refine wpAny_pyIter_slot ty F.slot_dict_iter (C6 F.slot_dict_iter ty F.entry_dict_iter ?_ (F.args_dict_iter_1 _));unfold Builtin.«dict.__iter__»;refine Cg ?_;unfold Builtin.Dict.dictSlotNone;refine Cg (wpAny_notOrdered_dict ty ?_)
 show wpAny _ _ (pure (Value.ref d)) _ _ s
 refine wpAny_pure ?_
 show wpAny _ _ (Builtin.Dict.showsAll d >>= _) _ _ s
 unfold Builtin.Dict.showsAll;rw [if_neg (by rw [lo];exact Cq)];refine Cg (wpAny_pure ?_);refine Cg (wpAny_dictEntries a1 a3 (Cg (wpAny_dictEpoch a1 a3 ?_)));exact Cg (CW (wpAny_pure ⟨_,rfl, "dict_keyiterator",_,⟨_,Ct _ rfl,rfl⟩,F.slot_dict_keyiterator_next.lookup,q⟩))
theorem item{Q:Option Value->Shared->Prop}(hit:s.heap.IsKeyIter it d i es.size ep)(x:At s.heap d es ep)(hi:i < es.size)
 (q:∀ h',h'.IsKeyIter it d (i+1) es.size ep->Heap.SameBut it s.heap h'->Q (some es[i].key) { s with heap:=h' }):wpAny (model prog w) A (pyNext (.ref it)) Q E s:=by
 obtain ⟨oi,b1,b2,b3⟩:=id hit;obtain ⟨o,a1,a2,a3⟩:=x;unfold pyNext
 refine Cg (wpAny_attempt (CZ (name:=Str.ofString "__next__") hit.typeIs F.slot_dict_keyiterator_next
  (C6 F.slot_dict_keyiterator_next hit.typeIs F.entry_dict_keyiterator_next ?_ (F.args_dict_keyiterator_next_1 _))))
 refine Cg (wpAny_pure (Cg (Cg ?_)))
 first | refine Cg (Eb hit.typeIs (wpAny_pure ?_)) | refine Cg (Ep hit.typeIs (wpAny_pure ?_))
 refine Cg (wpAny_fieldsOf b1 b3 ?_)
 have no:Builtin.Dict_items.ownsTuple "dict_keyiterator" = false:=by decide
 simp only [no,DG,if_false]
 show wpAny _ _ (if (Value.ref d == Value.none)=true then _ else _) _ _ s
 rw [if_neg (show ¬ ((Value.ref d == Value.none)=true) from Cq)];refine Cg (wpAny_pure (Cg (wpAny_dictEntries a1 a3 ?_)));rw [if_neg (by simp)];refine Cg (wpAny_pure (Cg (wpAny_dictEpoch a1 a3 ?_)));rw [if_neg (by simp)];refine wpAny_pure ?_;simp only [show ¬ ((i:Int) < 0) from by omega,if_false,EE,DR hi];refine Cg ?_
 first | refine Cg (Eb hit.typeIs (wpAny_pure ?_)) | refine Cg (Ep hit.typeIs (wpAny_pure ?_))
 refine Cg (wpAny_isOneOf_keyiter hit.typeIs ?_)
 show wpAny _ _ (setField (.ref it) 1 (rawInt ((i:Int)+1)) >>= _) _ _ s
 refine Cg (DQ b1 b3 (by simp) ?_)
 have on:(s.heap.update it (Obj.mapFields (·.setIfInBounds 1 (rawInt ((i:Int)+1))))).IsKeyIter it d (i+1) es.size ep :=
  ⟨_,Dp _ b1 (Obj.isFreed_of_fields (EU b3 _)),(Obj.cls_mapFields ..).trans b2,by rw [EU b3];simp [rawInt]⟩
 refine Cg (DC (Cg (wpAny_isOneOf_keyiter (s:={ s with heap:=s.heap.update it (Obj.mapFields (·.setIfInBounds 1 (rawInt ((i:Int)+1)))) }) on.typeIs ?_)))
 show wpAny _ _ (pure es[i].key) _ _ _
 exact wpAny_pure (wpAny_pure ⟨_,rfl,wpAny_pure (q _ on (Heap.SameBut.update ..))⟩)
theorem stop{Q:Option Value->Shared->Prop}(hh:A.handled=none)(hit:s.heap.IsKeyIter it d i es.size ep)(x:At s.heap d es ep)(hi:es.size<=i)
 (q:∀ h',Heap.ExtBut it s.heap h'->Q none { s with heap:=h' }):wpAny (model prog w) A (pyNext (.ref it)) Q E s:=by
 obtain ⟨oi,b1,b2,b3⟩:=id hit;obtain ⟨o,a1,a2,a3⟩:=x;unfold pyNext
 refine Cg (wpAny_attempt (CZ (name:=Str.ofString "__next__") hit.typeIs F.slot_dict_keyiterator_next
  (C6 F.slot_dict_keyiterator_next hit.typeIs F.entry_dict_keyiterator_next ?_ (F.args_dict_keyiterator_next_1 _))))
 refine Cg (wpAny_pure (Cg (Cg ?_)))
 first | refine Cg (Eb hit.typeIs (wpAny_pure ?_)) | refine Cg (Ep hit.typeIs (wpAny_pure ?_))
 refine Cg (wpAny_fieldsOf b1 b3 ?_)
 have no:Builtin.Dict_items.ownsTuple "dict_keyiterator" = false:=by decide
 simp only [no,DG,if_false]
 show wpAny _ _ (if (Value.ref d == Value.none)=true then _ else _) _ _ s
 rw [if_neg (show ¬ ((Value.ref d == Value.none)=true) from Cq)];refine Cg (wpAny_pure (Cg (wpAny_dictEntries a1 a3 ?_)));rw [if_neg (by simp)];refine Cg (wpAny_pure (Cg (wpAny_dictEpoch a1 a3 ?_)));rw [if_neg (by simp)];refine wpAny_pure ?_;simp only [show ¬ ((i:Int) < 0) from by omega,if_false,EE,Array.getElem?_eq_none hi];refine Cg ?_
 first | refine Cg (Eb hit.typeIs (wpAny_pure ?_)) | refine Cg (Ep hit.typeIs (wpAny_pure ?_))
 show wpAny _ _ (setField (.ref it) 0 .none >>= _) _ _ s
 refine Cg (DQ b1 b3 (by simp) ?_)
 show wpAny _ _ (newExc (.type "StopIteration") [] >>= _) _ _ _
 refine Cg ?_;simp only [newExc,newTuple];refine Cg (CW ?_ (by size_fits));refine Cg (m:=firstArgMember _ _) (wpAny_of_eq (a:=Value.none) (by first | rfl | (simp only [firstArgMember];rfl)) ?_);refine CW ?_ (by size_fits);simp only [raiseNew];refine Cg (wpAny_handled ?_);rw [show A.in1.handled=none from hh];refine Cg (wpAny_pure (wpAny_throw ?_));refine Cg (wpAny_isInstance (T := "StopIteration") (b:=true) ⟨_,Ct _ rfl,rfl⟩ isSubtype_stop ?_);exact wpAny_pure (q _ (((Heap.SameBut.update ..).extBut.push _).push _))
theorem walks(hh:A.handled=none)(I d:Addr)(hne:d≠I)(es:Array DictEntry)(ep:Nat) :
 Walks prog w A I [I,d] [I] es.size (fun i v=>∃ h:i < es.size,v=es[i].key) (fun i h=>h.IsKeyIter I d i es.size ep/\At h d es ep) where
 sub:=fun b hb=>by simp at hb;simp [hb]
 frame:=fun _ _ _ st hk=>⟨st.1.at fun o e=>hk I (by simp) o e,st.2.keep fun o e=>hk d (by simp) o e⟩
 item:=fun i s Q E hi st hQ=>item st.1 st.2 hi fun h' a b=>hQ _ h' s.toks ⟨hi,rfl⟩ ⟨a,st.2.keep fun o e=>b.extBut d o hne e⟩ fun b' o hb e=>b.extBut b' o (fun h=>hb (by simp [h])) e
 done:=fun s Q E st hQ=>stop hh st.1 st.2 (Cw _) fun h' he'=>hQ h' s.toks fun b o hb e=>he' b o (fun h=>hb (by simp [h])) e
 self:=fun _ _ _ _ st hQ=>wpAny_pyIter_keyiter st.1 hQ
theorem src(lo:(d == sysModules)=false):KdlSrc prog w "dict" d d es.size (fun i v=>∃ h:i < es.size,v=es[i].key) (fun h=>At h d es ep) where
 type:=fun _ x=>x.ty
 there:=fun _ x=>⟨x.lt,x.lt⟩
 keep:=fun _ _ x hk=>x.keep fun o e=>hk d (.inl rfl) o e
 notList:=by decide
 notTuple:=by decide
 hint:=fun _ _ _ _ x q=>kdl_hint_dict x.ty q
 iter:=fun _ _ hh x=>⟨_,_,(fun _ _ q=>iter lo x q),walks hh _ d (CJ x.lt) es ep,⟨⟨_,Ct _ rfl,rfl,rfl⟩,x.keep fun _ e=>Cj _ e⟩⟩
end
end RawD
namespace RawD
open PySem PySem.Spec PyProof.Rows PySem.W
section
variable{prog:Program}{w:World}{A:Around}{E:Value->Shared->Prop}{s:Shared}{d:Addr}{es:Array DictEntry}{ep:Nat}
theorem vz(lo:(d == sysModules)=false) :
 MeetsIn prog w (Builtin.«dict.__len__» ⟨[.ref d],[]⟩) (fun _ R s=>∃ es ep,At s.heap d es ep/\R (.ok (.ret (.int es.size s.toks))) { s with toks:=s.toks+1 }) :=
 .of_wp fun A R s hZ=>by
  obtain ⟨es,ep,x,h⟩:=hZ;obtain ⟨o,a1,a2,a3⟩:=x
  show wpAny _ _ (dictSize d >>= _) _ _ s
  unfold dictSize;refine Cg (Cg (wpAny_dictEntries a1 a3 (wpAny_pure ?_)))
  show wpAny _ _ (Builtin.Dict.pendingCount d >>= _) _ _ s
  refine Cg (wpAny_pendingCount_other lo (wpAny_ret_mkInt ?_));rw [Nat.add_zero];exact h
theorem len{Q:Value->Shared->Prop}(lo:(d == sysModules)=false)(x:At s.heap d es ep)(fit:(es.size:Int) < 2 ^ 63)
 (h:Q (.int es.size (s.toks+1)) { s with toks:=s.toks+1+1 }):wpAny (model prog w) A (call (.builtin "len") [.ref d]) Q E s:=by
 refine Calls.call_function_entry kind_len plain_len entry_len (args_len1 _) ?_;unfold Builtin.«len»;refine Cg (m:=oneArg "len" _) (wpAny_pure ?_)
 refine Cg (m:=callSpecial? (.ref d) (Str.ofString "__len__")) (CZ (name:=Str.ofString "__len__") x.ty F.slot_dict_len
  (call_meetsIn F.slot_dict_len x.ty F.entry_dict_len (F.args_dict_len_1 _) (vz lo) ⟨es,ep,x,?_⟩))
 show wpAny _ _ _ _ _ { s with toks:=s.toks+1 }
 refine Cg (DC (wpAny_pure (Cg (wpAny_letGo ?_))))
 show wpAny _ _ (if ((es.size:Nat):Int) < 0 then _ else _) _ _ _
 rw [if_neg (by omega)]
 show wpAny _ _ (if ((es.size:Nat):Int)>=2 ^ 63 then _ else _) _ _ _
 rw [if_neg (by omega)];exact Cg (wpAny_mkInt (wpAny_pure ⟨_,rfl,h⟩))
end
end RawD
namespace L2
open PySem PySem.Spec PyProof.Rows
section
variable{X:Cx}
theorem sr{P:Program}{w:World}{H:Hp}{h:Heap}{a:Addr}{kvs:List (List Key×V)}(ok:HOk P w H h)(e:H a=some (.dT kvs)) :
 kvs.length<=sizeLine/\(a == sysModules)=false/\(kvs.map (·.1)).Nodup/\∃ es ep,RawD.At h a es ep/\es.size=kvs.length/\∀ i (hi:i < es.size),∃ b k v,es[i].key = .ref b/\kvs[i]?=some (k,v)/\H b=some (.tup (k.map kV)):=by
 obtain ⟨z,y,xs,r,o,es,ep,h1,h2,h3,h4,h5⟩:=(show bH P w H h a (.dT kvs) from ok a _ e);have hl:=r.length
 have hl2:es.size=xs.length:=by
  have:=congrArg List.length h4;simpa using this
 have keys:∀ {l:List (List Key×V)} {m:List (List Key×Addr×Value)},
  Paired (fun (p:List Key×V) (q:List Key×Addr×Value)=>p.1=q.1/\H q.2.1=some (.tup (p.1.map kV))/\aB p.2 q.2.2) l m->l.map (·.1)=m.map (·.1):=by
  intro l m pr
  induction pr with
  | nil=>rfl
  | cons hd _ ih=>rw [CF,CF,ih,hd.1]
 refine ⟨z,y,by rw [keys r];exact h5,es,ep,⟨o,h1,h2,h3⟩,hl2.trans hl.symm,fun i hi=> ?_⟩
 have hx:i < xs.length:=by omega
 have get:∀ {l:List (List Key×V)} {m:List (List Key×Addr×Value)} {i:Nat} {q:List Key×Addr×Value},
  Paired (fun (p:List Key×V) (q:List Key×Addr×Value)=>p.1=q.1/\H q.2.1=some (.tup (p.1.map kV))/\aB p.2 q.2.2) l m->m[i]?=some q->∃ p,l[i]?=some p/\p.1=q.1/\H q.2.1=some (.tup (p.1.map kV)):=by
  intro l m i q pr
  induction pr generalizing i with
  | nil=>intro e;simp at e
  | cons hd _ ih =>
   intro e
   cases i with
   | zero=>simp at e;subst e;exact ⟨_,rfl,hd.1,hd.2.1⟩
   | succ i=>simp at e;exact ih e
 obtain ⟨p,e1,_,e2⟩:=get (i:=i) r (Ch hx);refine ⟨xs[i].2.1,p.1,p.2,?_,e1,e2⟩
 have:es[i]=entryOfKey (tupleKind (bL P w)) xs[i]:=by
  have q:es.toList[i]?=some (entryOfKey (tupleKind (bL P w)) xs[i]):=by rw [h4];simp [hx]
  rw [DF,DR hi] at q;exact Option.some.inj q
 rw [this];rfl
theorem wf:aF X (.builtin "len") (fun xs H Q=>∃ a kvs,xs=[V.ref a]/\H a=some (.dT kvs)/\Q (.int kvs.length) H):=by
 intro pins s σ H xs us Q I r h;obtain ⟨a,kvs,rfl,ha,q⟩:=h;obtain ⟨u,rfl,ru⟩:=cg r;cases ru;obtain ⟨z,lo,_,es,ep,x,hl,_⟩:=sr I.hok ha;exact RawD.len lo x (by rw [hl];rw [sizeLine_eq] at z;omega) ⟨.int kvs.length,H,I.tok _,⟨_,by rw [hl]⟩,q⟩
theorem tS(hc:X.calm=true):aF X (.type "list") (fun xs H Q=>∃ a kvs,xs=[V.ref a]/\H a=some (.dT kvs) /\
 ∀ l bs,H l=none->(kvs.map (·.1)).Nodup->bs.length=kvs.length->(∀ (i:Nat) k v,kvs[i]?=some (k,v)->∃ b,bs[i]?=some (V.ref b)/\H b=some (.tup (k.map kV)))->Q (.ref l) (upd H l (.lst bs))):=by
 intro pins s σ H xs us Q I r h;obtain ⟨a,kvs,rfl,ha,q⟩:=h;obtain ⟨u,rfl,ru⟩:=cg r;cases ru;obtain ⟨z,lo,nd,es,ep,x,hl,hk⟩:=sr I.hok ha
 refine PySem.W.kdl_call (RawD.src (ep:=ep) (es:=es) lo) (I.ok.hd hc) x (by rw [hl];exact z) fun h' tk acc c keep hD hacc=> ?_
 have hf:H s.heap.objs.size=none:=I.hok.fresh (Cw _);have hlen:acc.size=es.size:=hacc.1
 let bs:List V:=acc.toList.map fun u=>match u with | .ref b=>V.ref b | _=>V.non
 have key:∀ i (hi:i < acc.size),∃ b k v,acc[i] = .ref b/\kvs[i]?=some (k,v)/\H b=some (.tup (k.map kV)):=fun i hi=>by
  obtain ⟨hi',e⟩:=hacc.2 i acc[i] (by simp [hi]);obtain ⟨b,k,v,e1,e2,e3⟩:=hk i hi';exact ⟨b,k,v,e.trans e1,e2,e3⟩
 have hv:aw bs acc.toList:=by
  have gen:∀ (l:List Value),(∀ u∈l,∃ b,u = .ref b)->aw (l.map fun u=>match u with | .ref b=>V.ref b | _=>V.non) l:=by
   intro l
   induction l with
   | nil=>intro _;exact .nil
   | cons u l ih =>
    intro h;obtain ⟨b,rfl⟩:=h u Cs;exact .cons rfl (ih fun v hv=>h v (Cn _ hv))
  refine gen acc.toList fun u hu=> ?_
  obtain ⟨i,hi,e⟩:=DS.mp hu
  have hi':i < acc.size:=by simpa using hi
  obtain ⟨b,k,v,e1,_⟩:=key i hi';exact ⟨b,by rw [<- e];simpa using e1⟩
 have hbl:bs.length=kvs.length:=by
  show (acc.toList.map _).length=_
  rw [Ci,Da,hlen,hl]
 refine ⟨.ref s.heap.objs.size,upd H s.heap.objs.size (.lst bs),?_,rfl,q _ bs hf nd hbl fun i k v e=> ?_⟩
 ·exact I.laid (t':=tk) keep (Cw _) ⟨by rw [hbl];exact z,acc.toList,c,hv,by simpa using hD⟩
 ·have hi:i < acc.size:=by
   have:=(Cv.mp e).1;omega
  obtain ⟨b,k',v',e1,e2,e3⟩:=key i hi;rw [e] at e2;cases e2;refine ⟨b,?_,e3⟩
  show (acc.toList.map _)[i]?=_
  rw [CG,DF,DR hi,e1];rfl
theorem wt:∀ (bs:List Bool),(List.range bs.length).all (fun i=>bs.getD i false)=bs.all id:=fun bs=>by
 rw [DV];simp only [CH,Dq]
 constructor
 ·intro h b hb
  obtain ⟨i,hi,e⟩:=DS.mp hb;have:=h i hi;rw [Ck,Ch hi,e] at this;exact this
 ·intro h i hi
  rw [Ck,Ch hi];exact h _ (CT hi)
theorem ze(hc:X.calm=true):aF X (.builtin "all") (fun xs H Q=>∃ (p:Addr) (bs:List Bool),xs=[V.ref p]/\SqL X.K H p (bs.map V.bl)/\Q (.bl (bs.all id)) H):=by
 intro pins s σ H xs us Q I r h;obtain ⟨p,bs,rfl,hq,q⟩:=h;obtain ⟨u,rfl,ru⟩:=cg r;cases ru;obtain ⟨its,rv,pl,hz⟩:=I.list hq;have hlen:=rv.length;rw [Ci] at hlen
 have hlt:p < s.heap.objs.size:=by
  obtain ⟨o,n,e,_⟩:=pl;exact Cu e
 refine call_all_walk (DT pl.isList ⟨s.heap.objs.size,_,_,its.toArray.size,_,_,fun i=>bs.getD i false,rfl,Walks.list (show X.A.in1.handled=none from I.ok.hd hc) s.heap.objs.size p (CJ hlt) its.toArray,
  ⟨⟨_,Ct _ rfl,rfl,rfl⟩,pl.isList.at fun o e=>Cj _ e⟩,fun i v s' Q' E' hP hQ'=> ?_,fun h' tk hk=> ?_⟩)
 ·have hP:its.toArray[i]?=some v:=hP
  have hi:i < bs.length:=by
   have:=(Array.getElem?_eq_some_iff.mp hP).1;rw [Cm] at this;omega
  obtain ⟨u,e1,e2⟩:=rv.get (i:=i) (x:=V.bl bs[i]) (by simp [hi])
  have:v = .bool bs[i]:=by
   rw [show its.toArray[i]?=its[i]? by simp,e1] at hP;cases hP;exact e2
  subst this;have hQ':Q' (bs.getD i false) s':=hQ';rw [show bs.getD i false=bs[i] by simp [Ck,hi]] at hQ';exact DK hQ'
 ·refine ⟨.bl (bs.all id),H,?_,?_,q⟩
  ·exact I.kept (h':=h') (t':=tk) fun b o e=>hk b o (by have:=Cu e;simp;exact CJ this) (Cj _ e)
  ·show Value.bool _=Value.bool _
   rw [Cm,<- hlen,wt]
theorem zc:aF X (.type "range") (fun xs H Q=>(∃ j:Int,xs=[V.int j]/\∀ l,H l=none->Q (.ref l) (upd H l (.rng 0 j)))\/(∃ i j:Int,xs=[V.int i,V.int j]/\∀ l,H l=none->Q (.ref l) (upd H l (.rng i j)))):=by
 intro pins s σ H xs us Q I r h;have hf:H s.heap.objs.size=none:=I.hok.fresh (Cw _)
 rcases h with ⟨j,rfl,q⟩ | ⟨i,j,rfl,q⟩
 ·obtain ⟨u,rfl,t,rfl⟩:=cg r
  exact call_range_1 ⟨.ref s.heap.objs.size,_,I.laid (o:= .rng 0 j) (fun _ _ e=>Cj _ e) (Cw _) ⟨_,_,_,Ct _ rfl⟩,rfl,q _ hf⟩
 ·obtain ⟨u,w',rfl,⟨t,rfl⟩,⟨t',rfl⟩⟩:=nJ r
  exact call_range_2 ⟨.ref s.heap.objs.size,_,I.laid (o:= .rng i j) (fun _ _ e=>Cj _ e) (Cw _) ⟨_,_,_,Ct _ rfl⟩,rfl,q _ hf⟩
theorem xo(lo hi i:Int):(Builtin.Range.rangePlace? lo hi 1 i).isSome=decide (lo<=i/\i < hi):=by
 unfold Builtin.Range.rangePlace?
 by_cases h:lo<=i/\i < hi
 ·rw [CK h]
  simp [h.1,h.2,Int.emod_one]
 ·rw [CL h]
  by_cases h1:lo<=i
  ·have h2:¬ i < hi:=fun q=>h ⟨h1,q⟩
   simp [h1,h2]
  ·simp [h1]
section
open PySem.SeqAt
open PySem.AutoSeq1 (wpAny_loadPart')
open PySem.MeetsSeq PySem.MeetsSeq2 PySem.MeetsSeq3
theorem vh(l:Addr)(lo hi i:Int)(a b c t:Tok):Meets (Builtin.«range.__contains__» ⟨[.ref l,.int i t],[]⟩)
 (fun _ R s=>s.heap.get? l=some { cls:= .type "range",data:= .fields #[.int lo a,.int hi b,.int 1 c] }/\R (.ok (.ret (.bool (decide (lo<=i/\i < hi))))) s) :=
 .of_wp fun prog w A R s h=>by
  obtain ⟨hp,g,d,tk,os⟩:=s;obtain ⟨hl,h⟩:=h;rw [<- xo] at h
  wp_walk using Ds hl
  exact ⟨_,rfl,h⟩
end
noncomputable def rInR(neg:Bool):R2:=fun x y H Q=>∃ (l:Addr) (i lo hi:Int),x = .int i/\y = .ref l/\H l=some (.rng lo hi)/\Q (.bl (if neg then !decide (lo<=i/\i < hi) else decide (lo<=i/\i < hi))) H
theorem op_inR:OpR X (compareOp .In) (rInR false):=by
 intro pins s σ H x y v u Q I rx ry h;obtain ⟨l,i,lo,hi,rfl,rfl,hl,q⟩:=h;obtain ⟨t,rfl⟩:=rx;cases ry;obtain ⟨a,b,c,e⟩:=(show bH X.prog X.w H s.heap l (.rng lo hi) from I.hok l _ hl);exact PySem.SeqRoads2.in_meets ⟨_,e,rfl⟩ F.slot_range_contains F.entry_range_contains (F.args_range_contains_2 _ _) (vh l lo hi i a b c t) ⟨e,_,rfl,⟨.bl _,H,I,rfl,q⟩⟩
theorem Bu{prog:Program}{w:World}{A:Around}{E:Value->Shared->Prop}{s:Shared}{t b:Addr}{ws:List Value}{Q:Value->Shared->Prop}(ht:IsTup s.heap t #[])(hb:IsTup s.heap b ws.toArray)(h:Q (.ref b) s) :
 wpAny (model prog w) A (binaryOp .Add (.ref t) (.ref b)) Q E s:=by
 obtain ⟨⟨cls,dd,data,sl⟩,ho,hc,n,hd⟩:=id ht;obtain ⟨⟨cls2,dd2,data2,sl2⟩,ho2,hc2,n2,hd2⟩:=id hb;simp only at hc hd hc2 hd2;subst hc hd hc2 hd2
 exact concat_meets ⟨_,ho,rfl⟩ ⟨_,ho2,rfl⟩ noFill_tuple_add seq_tuple_add PySem.F.slot_tuple_add PySem.F.entry_tuple_add (PySem.F.args_tuple_add_2 _ _)
  (tuple_addW0 t b #[] ws.toArray n n2 dd dd2 sl sl2 (by simp)) ⟨ho,ho2,h⟩
end
end L2
namespace HT
open PySem PySem.Spec PyProof.Rows
section
variable{prog:Program}{w:World}{A:Around}{E:Value->Shared->Prop}{s:Shared}
theorem iF{t sl:Addr}{items:Array Value}{vl vu:Value}{lo hi:Option Int}{Q:Value->Shared->Prop}(ht:IsTup s.heap t items)(hs:s.heap.IsSliceOf sl vl vu .none)(pl:IsPart vl lo)(pu:IsPart vu hi)
 (hw:sIx items.size 0 lo=0/\sIx items.size items.size hi=items.size) (h:Q (.ref t) s):wpAny (model prog w) A (getItem (.ref t) (.ref sl)) Q E s:=by
 obtain ⟨os,hos,hcs,hds⟩:=id hs;have hTs:s.TypeIs (.ref sl) "slice" := ⟨os,hos,hcs⟩;unfold getItem
 try with_reducible refine DC ?_
 first | refine Cg (wpAny_pure ?_) | skip
 refine Cg (wpAny_sequenceKey ht.typeIs (by decide) ?_)
 refine Cg (CZ (name:=Str.ofString "__getitem__") ht.typeIs PyProof.Rows.slot_tuple_getitem
  (C6 PyProof.Rows.slot_tuple_getitem ht.typeIs entry_tuple_getitem ?_ (args_tuple_getitem _ _)))
 show wpAny _ _ (Builtin.Tuple.tupleItemsOf (.ref t) >>= _) _ _ s
 refine Cg (tupleItemsOf_ ht (Cg (ET hTs ?_)));rw [if_pos (by decide)];refine Cg (fj hs pl pu ?_)
 show wpAny _ _ (if (((sIx items.size 0 lo:Nat):Int) == 0&&(1:Int) == 1&&(sIx items.size items.size hi - sIx items.size 0 lo) == items.size)=true then _ else _) _ _ s
 rw [if_pos (by rw [hw.1,hw.2];simp)];unfold Builtin.Tuple.tupleIsExact;refine Cg (Cg (ET ht.typeIs (wpAny_pure ?_)));rw [if_pos (by decide)];exact Cg (wpAny_rule (wpAny_pure ⟨_,rfl,wpAny_pure h⟩))
theorem xr(xs:Array Value):((List.range xs.size).filterMap fun (m:Nat)=>xs[(((xs.size:Int) - 1)+(m:Int) * (-1)).toNat]?).toArray=xs.toList.reverse.toArray:=by
 have e:((List.range xs.size).filterMap fun (m:Nat)=>xs[(((xs.size:Int) - 1)+(m:Int) * (-1)).toNat]?)=xs.toList.reverse:=by
  have e1:((List.range xs.size).filterMap fun (m:Nat)=>xs[(((xs.size:Int) - 1)+(m:Int) * (-1)).toNat]?)=((List.range xs.size).map fun k=>xs.size - 1 - k).filterMap (xs[·]?):=by
   rw [List.filterMap_map]
   congr 1
   funext m
   show xs[(((xs.size:Int) - 1)+(m:Int) * (-1)).toNat]?=xs[xs.size - 1 - m]?
   have em:(((xs.size:Int) - 1)+(m:Int) * (-1)).toNat=xs.size - 1 - m:=by omega
   rw [em]
  rw [e1,PySem.W.krv_range,List.filterMap_reverse,PySem.W.krv_all]
 rw [e]
theorem jH{t sl:Addr}{items:Array Value}{vk:Value}{Q:Value->Shared->Prop}(ht:IsTup s.heap t items)(hs:s.heap.IsSliceOf sl .none .none vk)(pk:IsPart vk (some (-1)))
 (h:Q (.ref s.heap.objs.size) { s with heap:=s.heap.push { cls:= .type "tuple",data:= .seq items.toList.reverse.toArray } }) (hsz:items.size<=sizeLine):wpAny (model prog w) A (getItem (.ref t) (.ref sl)) Q E s:=by
 have htake:sizeOk (.seq items.toList.reverse.toArray):=by
  show items.toList.reverse.toArray.size<=sizeLine
  rw [Cm,List.length_reverse,Da];exact hsz
 obtain ⟨os,hos,hcs,hds⟩:=id hs;have hTs:s.TypeIs (.ref sl) "slice" := ⟨os,hos,hcs⟩;unfold getItem
 try with_reducible refine DC ?_
 first | refine Cg (wpAny_pure ?_) | skip
 refine Cg (wpAny_sequenceKey ht.typeIs (by decide) ?_)
 refine Cg (CZ (name:=Str.ofString "__getitem__") ht.typeIs PyProof.Rows.slot_tuple_getitem
  (C6 PyProof.Rows.slot_tuple_getitem ht.typeIs entry_tuple_getitem ?_ (args_tuple_getitem _ _)))
 show wpAny _ _ (Builtin.Tuple.tupleItemsOf (.ref t) >>= _) _ _ s
 refine Cg (tupleItemsOf_ ht (Cg (ET hTs ?_)));rw [if_pos (by decide)]
 have ap:∀ {n:Nat} {R:Int×Int×Nat->Shared->Prop},R ((n:Int) - 1,-1,n) s->wpAny (model prog w) A.in1 (Builtin.Slice.sliceApplied (.ref sl) (pure (n:Int))) R E s:=fun {n R} hR=>by
  unfold Builtin.Slice.sliceApplied Builtin.Slice.sliceFields;refine Cg (Cg (Dh hos hds (x:= .none) rfl (Cg (Dh hos hds (x:= .none) rfl (Cg (Dh hos hds (x:=vk) rfl (wpAny_pure ?_)))))));refine Cg (iT pk ?_)
  show wpAny _ _ (if ((-1:Int) == 0)=true then _ else _) _ _ s
  rw [if_neg (by decide)];refine Cg (slicePart_none (Cg (slicePart_none (Cg (wpAny_pure ?_)))))
  have e2:Builtin.Slice.slicePlaces ((n:Int) - 1) (-1) (-1)=n:=by
   unfold Builtin.Slice.slicePlaces;rw [if_neg (by decide)]
   by_cases hn:(n:Int) - 1 > -1
   ·rw [if_pos hn]
    have:((n:Int) - 1 - -1 - 1) / (- -1)=(n:Int) - 1:=by
     have e3:((n:Int) - 1 - -1 - 1)=(n:Int) - 1:=by omega
     rw [e3]
     show ((n:Int) - 1) / 1=_
     exact Int.ediv_one _
    rw [this];omega
   ·rw [if_neg hn]
    omega
  refine wpAny_pure ?_
  show R ((n:Int) - 1,-1,Builtin.Slice.slicePlaces ((n:Int) - 1) (-1) (-1)) s
  rw [e2];exact hR
 refine Cg (ap ?_)
 have hno:¬ ((((items.size:Int) - 1) == 0&&(-1:Int) == 1&&items.size == items.size)=true):=by
  intro q;rw [CD,CD] at q;exact absurd q.1.2 (by decide)
 show wpAny _ _ (if (((items.size:Int) - 1) == 0&&(-1:Int) == 1&&items.size == items.size)=true then _ else _) _ _ s
 rw [if_neg hno,xr]
 first
  | exact Cg (m:=Builtin.Tuple.tupleExact _) (CW (wpAny_pure ⟨_,rfl,wpAny_pure h⟩) htake)
  | exact Cg (m:=Builtin.Tuple.tupleExact _) (CW (Cg (wpAny_pure (wpAny_pure ⟨_,rfl,wpAny_pure h⟩))) htake)
  | exact Cg (Cg (m:=Builtin.Tuple.tupleExact _) (CW (wpAny_pure (wpAny_pure ⟨_,rfl,wpAny_pure h⟩)) htake))
end
end HT
namespace L2
open PySem PySem.Spec PyProof.Rows
section
variable{X:Cx}
noncomputable def tRevT(K:E2)(te tk:TE):TE:=fun σ H Q=>te σ H fun x H1=>BJ tk σ H1 fun k H2=>∃ a xs,k=some (-1)/\x = .ref a/\SqT K H2 a xs/\∀ p,H2 p=none->Q (.ref p) (upd H2 p (.tup xs.reverse))
theorem aw.rev:∀ {xs:List V} {us:List Value},aw xs us->aw xs.reverse us.reverse:=fun h=>aw.reverse h
theorem AE{e k:Expr}{te tk:TE}{p2 pos:Pos}(he:PE X e te)(hk:PE X k tk):PE X (.Subscript e (.Slice none none (some k) p2) pos) (tRevT X.K te tk):=by
 intro pins s σ H Q I h;refine Subscript_ (thn (he pins s σ H _ I h) fun v s1 ⟨x,H1,I1,r1,q1⟩=> ?_);refine wpAny_Slice ?_;rw [evalPart_none];refine wpAny_pure (wpAny_pure ?_)
 refine thn (lC hk pins s1 σ H1 _ I1 q1) fun vk s2 ⟨o,H2,I2,pk,q2⟩=> ?_
 obtain ⟨a,xs,rfl,rfl,hx,q⟩:=q2;cases r1
 have I3:Inv X pins σ H2 { s2 with heap:=s2.heap.push { cls:= .type "slice",data:= .fields #[.none,.none,vk] } }:=I2.kept (t':=s2.toks) fun b ob q=>Cj _ q
 obtain ⟨its,r,ht,hz⟩:=I3.tuple hx
 have hlen:its.toArray.size=xs.length:=by rw [Cm];exact r.length.symm
 show wpAny (model X.prog X.w) X.A (subscriptTail e (.Slice none none (some k) p2) (.ref a) (.ref s2.heap.objs.size)) (EP X pins σ Q) X.xe { s2 with heap:=s2.heap.push { cls:= .type "slice",data:= .fields #[.none,.none,vk] } }
 refine tail_any (ops:=[.ref a,.ref s2.heap.objs.size]) ht.typeIs PyProof.Rows.slot_tuple_getitem.lookup (HT.jH ht (Heap.IsSliceOf.new ..) pk ?_ (by rw [hlen];exact hz)) (by with_unfolding_all rfl);refine ⟨.ref (s2.heap.push _).objs.size,_,I3.laid (t':=s2.toks) (o:= .tup xs.reverse) (fun b ob q=>Cj _ q) (Cw _) ?_,rfl,q _ (I3.hok.fresh (Cw _))⟩;exact ⟨by rw [List.length_reverse];exact hz,its.reverse,r.rev,IsTup.new _ _⟩
end
end L2
namespace Srt
open PySem PySem.W PyProof.Rows
noncomputable def All{α:Type}(n:Nat)(P:α->Prop):KasT α->Prop
 | .ret a=>P a
 | .ask i j k=>i < n/\j < n/\∀ b,All n P (k b)
theorem All.bind{α β:Type}{n:Nat}{P:β->Prop}{f:α->KasT β}:∀ {t:KasT α},All n (fun a=>All n P (f a)) t->All n P (t.bind f)
 | .ret _,h=>h
 | .ask _ _ _,⟨h1,h2,h3⟩=>⟨h1,h2,fun b=>All.bind (h3 b)⟩
theorem All.mono{α:Type}{n:Nat}{P P':α->Prop}(hp:∀ a,P a->P' a):∀ {t:KasT α},All n P t->All n P' t
 | .ret a,h=>hp a h
 | .ask _ _ _,⟨h1,h2,h3⟩=>⟨h1,h2,fun b=>All.mono hp (h3 b)⟩
noncomputable def dG(n:Nat)(p:Array Nat):Prop:=0 < n/\p.toList.Perm (List.range n)
theorem dG.lt{n:Nat}{p:Array Nat}(g:dG n p)(k:Nat):p.getD k 0 < n:=by
 by_cases h:k < p.size
 ·have e:p.getD k 0=p[k]:=by simp [Array.getD,h]
  rw [e];have m:p[k]∈List.range n:=g.2.mem_iff.mp (by simp);simpa using m
 ·have e:p.getD k 0=0:=by simp [Array.getD,h]
  rw [e];exact g.1
theorem dG.perm{n:Nat}{p p':Array Nat}(g:dG n p)(h:p'.Perm p):dG n p':=⟨g.1,(Array.perm_iff_toList_perm.mp h).trans g.2⟩
theorem dG.rev{n:Nat}{p:Array Nat}(g:dG n p)(i j:Nat):dG n (kas_rev p i j):=g.perm (mirror_perm _ _ _ _)
theorem asc{n:Nat}{p:Array Nat}(g:dG n p):∀ f k,All n (fun _=>True) (kas_asc p f k)
 | 0,_=>trivial
 | f+1,k=>⟨g.lt _,g.lt _,fun b=>by
  cases b with
  | true=>show All n _ (if true=true then _ else _);rw [if_pos rfl];trivial
  | false=>show All n _ (if false=true then _ else _);rw [if_neg Cq];exact asc g f (k+1)⟩
theorem Br{n:Nat}:∀ f {p:Array Nat} (k q:Nat),dG n p->All n (fun r=>dG n r.1) (kas_desc f p k q)
 | 0,p,_,_,g=>g
 | f+1,p,k,q,g=>⟨g.lt _,g.lt _,fun b=>by
  cases b with
  | true =>
   show All n _ (if true=true then _ else _)
   rw [if_pos rfl]
   by_cases hq:q > 0
   ·rw [if_pos hq];exact Br f _ _ (g.rev _ _)
   ·rw [if_neg hq];exact Br f _ _ g
  | false =>
   show All n _ (if false=true then _ else _)
   rw [if_neg Cq];refine ⟨g.lt _,g.lt _,fun b=> ?_⟩
   cases b with
   | true=>show All n _ (if true=true then _ else _);rw [if_pos rfl];exact g
   | false=>show All n _ (if false=true then _ else _);rw [if_neg Cq];exact Br f _ _ g⟩
theorem BE{n:Nat}{p:Array Nat}(g:dG n p)(k nrem:Nat):All n (fun r:Nat×Array Nat=>dG n r.2) (kas_tail3 k nrem p):=by
 unfold kas_tail3;exact ((asc (g.rev _ _) _ _).mono fun m _=>(show All n (fun r:Nat×Array Nat=>dG n r.2) (KasT.ret (m,kas_rev p 0 k)) from g.rev _ _)).bind
theorem rq{n:Nat}{p:Array Nat}(g:dG n p)(k nrem:Nat):All n (fun r:Nat×Array Nat=>dG n r.2) (kas_descPart k nrem p):=by
 unfold kas_descPart;refine ((Br _ _ _ g).mono fun r hr=> ?_).bind
 by_cases h:r.2.2 > 0
 ·rw [if_pos h];exact BE (hr.rev _ _) _ _
 ·rw [if_neg h];exact BE hr _ _
theorem count{n:Nat}{p:Array Nat}(g:dG n p)(nrem:Nat):All n (fun r:Nat×Array Nat=>dG n r.2) (kas_count nrem p):=by
 unfold kas_count;refine ((asc g _ _).mono fun k _=> ?_).bind
 by_cases h:(k == nrem)=true
 ·rw [if_pos h];exact g
 ·rw [if_neg h]
  by_cases h2:k > 1
  ·rw [if_pos h2]
   refine ⟨g.lt _,g.lt _,fun b=> ?_⟩
   cases b with
   | true=>show All n _ (if true=true then _ else _);rw [if_pos rfl];exact g
   | false=>show All n _ (if false=true then _ else _);rw [if_neg Cq];exact rq (g.rev _ _) _ _
  ·rw [if_neg h2];exact rq g _ _
theorem xq{n:Nat}{p:Array Nat}(g:dG n p)(k:Nat):∀ f l r,All n (fun _=>True) (kas_place p k f l r)
 | 0,_,_=>trivial
 | f+1,l,r=>by
  unfold kas_place
  by_cases h:l>=r
  ·rw [if_pos h];trivial
  ·rw [if_neg h]
   refine ⟨g.lt _,g.lt _,fun b=> ?_⟩
   cases b with
   | true=>show All n _ (if true=true then _ else _);rw [if_pos rfl];exact xq g k f _ _
   | false=>show All n _ (if false=true then _ else _);rw [if_neg Cq];exact xq g k f _ _
theorem bin{n:Nat}:∀ f {p:Array Nat} (k:Nat),dG n p->All n (dG n) (kas_bin f p k)
 | 0,_,_,g=>g
 | f+1,p,k,g=>((xq g k k 0 k).mono fun l _=>bin f (k+1) (g.perm (bubble_perm _ _ _))).bind
theorem sort{n:Nat}(h:0 < n):All n (dG n) (kas_sort n):=by
 unfold kas_sort;have g:dG n (List.toArray (List.range n)):=⟨h,by simp⟩;refine ((count g n).mono fun r hr=> ?_).bind
 by_cases h:r.1 < n
 ·rw [if_pos h];exact bin _ _ hr
 ·rw [if_neg h];exact hr
section
variable{prog:Program}{w:World}{A:Around}{E:Value->Shared->Prop}{s:Shared}
noncomputable def Tups(h:Heap)(vs:List Value):Prop:=∀ v∈vs,∃ a items ns,v = .ref a/\IsTup h a items/\IntsAre items.toList ns/\ns≠[]
theorem yL{M:Model}{h:Heap}:∀ {vs:List Value},Tups h vs->∃ fs,fs.length=vs.length/\KatTups h vs fs/\∀ v∈fs,Looks M h (typeOf v) (.type "int")
 | [],_=>⟨[],rfl,.nil,fun v hv=>by cases hv⟩
 | v::vs,t=>by
  obtain ⟨fs,h1,h2,h3⟩:=yL (M:=M) (vs:=vs) fun u hu=>t u (Cn _ hu)
  obtain ⟨a,items,ns,rfl,⟨o,g1,g2,n,g3⟩,i,ne⟩:=t v Cs
  cases hi:items.toList with
  | nil =>
   rw [hi] at i;cases i;exact absurd rfl ne
  | cons f r =>
   rw [hi] at i
   cases i with
   | cons x tk _ =>
    refine ⟨.int x tk::fs,by simp [h1],.cons g1 g2 g3 (by rw [<- DF,hi];rfl) h2,fun u hu=> ?_⟩
    rcases Cr.mp hu with rfl | hu
    ·exact .now
    ·exact h3 u hu
end
end Srt
namespace L2
open PySem PySem.Spec PyProof.Rows
noncomputable def qr:Value->V
 | .ref b=> .ref b
 | _=> .non
theorem jV:∀ {l:List Value},(∀ u∈l,∃ b,u = .ref b)->aw (l.map qr) l
 | [],_=> .nil
 | u::l,h=>by
  obtain ⟨b,rfl⟩:=h u Cs;exact .cons rfl (jV fun v hv=>h v (Cn _ hv))
theorem nV:∀ {bs:List V} {l:List Value},aw bs l->(∀ b∈bs,∃ a,b = .ref a)->bs=l.map qr/\∀ u∈l,∃ b,u = .ref b
 | _,_,.nil,_=>⟨rfl,fun u hu=>by cases hu⟩
 | _,_,.cons r t,h=>by
  obtain ⟨a,rfl⟩:=h _ Cs;cases r
  obtain ⟨e,q⟩:=nV t fun b hb=>h b (Cn _ hb)
  refine ⟨by rw [CF,<- e];rfl,fun u hu=> ?_⟩
  rcases Cr.mp hu with rfl | hu
  ·exact ⟨a,rfl⟩
  ·exact q u hu
section
variable{X:Cx}
end
inductive Dt where
 | non | bl (b:Bool) | int (i:Int) | str (x:Str) | lst | dct | tup (ds:List Dt)
mutual
noncomputable def Rep(K:E2)(H:Hp):Dt->V->Prop
 | .non,v=>v = .non
 | .bl b,v=>v = .bl b
 | .int i,v=>v = .int i
 | .str x,v=>v = .str x
 | .lst,v=>∃ p xs,v = .ref p/\SqL K H p xs
 | .dct,v=>∃ p,v = .ref p/\((∃ kvs,H p=some (.dK kvs))\/∃ kvs,H p=some (.dT kvs))
 | .tup ds,v=>∃ p xs,v = .ref p/\SqT K H p xs/\zn K H ds xs
noncomputable def zn(K:E2)(H:Hp):List Dt->List V->Prop
 | [],[]=>True
 | d::ds,x::xs=>Rep K H d x/\zn K H ds xs
 | _,_=>False
end
theorem aa.tup{K:E2}{H H':Hp}{a:Addr}{xs:List V}(e:aa H H')(h:SqT K H a xs):SqT K H' a xs:=by
 rcases h with (h | ⟨o,h⟩) | h
 ·exact .inl (.inl (e _ _ h))
 ·exact .inl (.inr ⟨o,e _ _ h⟩)
 ·exact .inr h
theorem aa.upd{H:Hp}{p:Addr}{o:HO}(h:H p=none):aa H (L2.upd H p o):=fun b u e=>by rw [ah (aq e h)];exact e
mutual
theorem aa.rep{K:E2}{H H':Hp}(e:aa H H'):∀ {d:Dt} {v:V},Rep K H d v->Rep K H' d v
 | .non,_,h=>h
 | .bl _,_,h=>h
 | .int _,_,h=>h
 | .str _,_,h=>h
 | .lst,_,⟨p,xs,h1,h2⟩=>⟨p,xs,h1,e.seq h2⟩
 | .dct,_,⟨p,h1,h2⟩=>⟨p,h1,h2.elim (fun hZ=>(by obtain ⟨k,q⟩:=hZ;exact .inl ⟨k,e _ _ q⟩)) fun hZ=>(by obtain ⟨k,q⟩:=hZ;exact .inr ⟨k,e _ _ q⟩)⟩
 | .tup _,_,⟨p,xs,h1,h2,h3⟩=>⟨p,xs,h1,e.tup h2,e.repL h3⟩
theorem aa.repL{K:E2}{H H':Hp}(e:aa H H'):∀ {ds:List Dt} {xs:List V},zn K H ds xs->zn K H' ds xs
 | [],[],_=>trivial
 | _::_,_::_,h=>⟨e.rep h.1,e.repL h.2⟩
 | [],_::_,h=>h.elim
 | _::_,[],h=>h.elim
end
structure Has(K:E2)(mg:Str->Option Value)(x:Str)(st:Stmt)(ps:List Str):Prop where
 ex:∃ f fd,Fun K x x st f fd/\mg x=some (.ref f)/\kW K fd ps []
section
variable{X:Cx}{e:Expr}{es:List Expr}{t:TA}{x:Str}{ps:List Str}{k:Nat}{sp:Sp}{p pos:Pos}
end
theorem iteB{c:Bool}{A B:Prop}(h1:c=true->A)(h2:c=false->B):if c=true then A else B:=by
 cases c with
 | true=>rw [if_pos rfl];exact h1 rfl
 | false=>rw [if_neg Cq];exact h2 rfl
section
variable{X:Cx}{Pre:St->Hp->Prop}
end
structure mY(osc:Scope)(N:List Str)(sc:Scope)(M tgs:List Str):Prop where
 kind:sc.kind = .function
 names:∀ y∈sc.names,y.2 = .local->sc.names.lookup y.1=some .local
 nocell:∀ y∈sc.names,y.2 ≠ .cell
 free:∀ y∈sc.names,y.2 = .free->osc.names.lookup y.1=some .cell\/osc.names.lookup y.1=some .free
 len:M.length=N.length
 same:∀ p∈M.zip N,p.1=p.2\/p.1=("" : Str)
 dummy:sc.names.lookup ("" : Str)=none
 hid:∀ x∈M,sc.names.lookup x≠some .local
 nd:(M++tgs).Nodup
theorem mY.ok{X:Cx}{osc:Scope}{N:List Str}{sc:Scope}{M tgs:List Str}(b:mY osc N sc M tgs)(h1:X.env.scope=osc:=by rfl)(h2:X.N=N:=by rfl):mX X sc M tgs:=by
 subst h1 h2;exact ⟨b.kind,b.names,b.nocell,b.free,b.len,b.same,b.dummy,b.hid⟩
section
variable{κ:Type}[DecidableEq κ]
end
theorem bH.there{P:Program}{w:World}{H:Hp}{h:Heap}{a:Addr}{o:HO}(x:bH P w H h a o):∃ ob,h.get? a=some ob:=by
 cases o with
 | lst xs=>obtain ⟨_,_,_,_,e⟩:=x;exact ⟨_,e⟩
 | tup xs=>obtain ⟨_,_,_,ob,e,_⟩:=x;exact ⟨ob,e⟩
 | dK kvs=>obtain ⟨_,_,_,_,o,_,_,e,_⟩:=x;exact ⟨_,e⟩
 | dT kvs=>obtain ⟨_,_,_,_,o,_,_,e,_⟩:=x;exact ⟨_,e⟩
 | set S n=>obtain ⟨o,_,_,_,e,_⟩:=x;exact ⟨_,e⟩
 | ins C dx fs=>obtain ⟨_,_,_,e,_⟩:=x;exact ⟨_,e⟩
 | own y=>exact x
 | xd fs=>obtain ⟨_,⟨_,_,_,e,_⟩,_⟩:=x;exact ⟨_,e⟩
 | rng lo hi=>obtain ⟨_,_,_,e⟩:=x;exact ⟨_,e⟩
 | frz ob u=>obtain ⟨e,_⟩:=x;exact ⟨_,e⟩
 | tbl ps=>exact ⟨_,(show h.get? a=some _ from x)⟩
 | met f y=>exact ⟨_,(show h.get? a=some _ from x)⟩
 | ext φ=>obtain ⟨_,e,_⟩:=x;exact e
theorem HOk.none_of{P:Program}{w:World}{H:Hp}{h:Heap}{a:Addr}(x:HOk P w H h)(e:h.get? a=none):H a=none:=by
 cases q:H a with
 | none=>rfl
 | some u =>
  obtain ⟨ob,z⟩:=(x a u q).there;rw [e] at z;cases z
structure zk(fs:List Addr)(ea T:Addr)(h h':Heap):Prop where
 keep:∀ b o,h.get? b=some o->b∉fs->b≠ea->b≠T->h'.get? b=some o
 slot:∀ b o,h.get? b=some o->b∈fs->∃ sl,h'.get? b=some { o with slots:=sl }
structure iQ(g:Heap)(H:Hp)(ea T:Addr)(cls:Value)(h:Heap):Prop where
 obj:∃ (oe:Obj) (vs:Array Value) (oT:Obj) (ts:Array Value) (a0:Value),h.get? ea=some oe/\(oe.cls=cls/\vs[0]?=some a0)/\oe.data = .fields vs/\vs[1]?=some (.ref T)/\T≠ea/\h.get? T=some oT/\oT.data = .fields ts/\ts[3]?=some .none
 he:H ea=none
 hT:H T=none
 ge:g.get? ea=none
 gT:g.get? T=none
section
variable{P:Program}{w:World}{fs fs' ex:List Addr}{H₀ H:Hp}{g g₀ h h' base:Heap}{ea T:Addr}{cls:Value}{l l':List Env}
theorem iQ.older(F:iQ g H ea T cls h)(k:∀ b o,g₀.get? b=some o->∃ o',g.get? b=some o'):iQ g₀ H ea T cls h:=by
 refine ⟨F.obj,F.he,F.hT,?_,?_⟩
 ·cases q:g₀.get? ea with
  | none=>rfl
  | some o=>obtain ⟨o',z⟩:=k _ _ q;rw [F.ge] at z;cases z
 ·cases q:g₀.get? T with
  | none=>rfl
  | some o=>obtain ⟨o',z⟩:=k _ _ q;rw [F.gT] at z;cases z
theorem iQ.flyingW(F:iQ g H ea T cls h)(hl:h.FunFrames base l):∃ a0,Heap.FlyingW (PySem.W.hideAll h (ea::T::frs l)) l ea cls a0 h:=by
 obtain ⟨oe,vs,oT,ts,a0,h1,h2,h3,h4,h5,h6,h7,h8⟩:=F.obj;refine ⟨a0,fun b o e=>PySem.W.of_hideAll _ e,PySem.W.hideAll_none _ Cs,PySem.W.funFrames_hide hl (fun env he a hf=> ?_),oe,vs,T,oT,ts,h1,h2,h3,h4,PySem.W.hideAll_none _ (Cn _ Cs),h5,h6,h7,h8⟩;exact Cn _ (Cn _ (EV.mpr ⟨env,he,hf⟩))
theorem mF(F:iQ g H ea T cls h)(hl:h.FunFrames base l)(hok:HOk P w H h)(hg:∀ b o,g.get? b=some o->∃ o',h.get? b=some o'){a0:Value}
 (x:Heap.FlyingW (PySem.W.hideAll h (ea::T::frs l)) l' ea cls a0 h') (up:h.UpToSlots h'):zk (frs l) ea T h h'/\∃ T',iQ g H ea T' cls h':=by
 obtain ⟨x1,x2,x3,oe,vs,T',oT,ts,y1,y2,y3,y4,y5,y6,y7,y8,y9⟩:=x
 have slot:∀ b o,h.get? b=some o->b∈frs l->∃ sl,h'.get? b=some { o with slots:=sl }:=fun b o e hb=>by
  obtain ⟨_,o',ho',nf⟩:=hl.mem hb;rw [e] at ho';cases ho';exact up b o e nf
 refine ⟨⟨fun b o e n1 n2 n3=>x1 b o (En _ e (by simp [n1,n2,n3])),slot⟩,T',?_⟩
 have fr:H T'=none/\g.get? T'=none:=by
  by_cases q:T'=T
  ·subst q;exact ⟨F.hT,F.gT⟩
  ·have nf:T'∉frs l:=fun hb=>by
    obtain ⟨_,o,ho,nf⟩:=hl.mem hb;obtain ⟨sl,z⟩:=slot T' o ho hb;rw [y7] at z;cases z;exact nf ts y8
   have hn:h.get? T'=none:=by
    cases z:h.get? T' with
    | none=>rfl
    | some o =>
     have:=En (ea::T::frs l) z (by simp [nf,q,y6]);rw [y5] at this;cases this
   refine ⟨hok.none_of hn,?_⟩
   cases z:g.get? T' with
   | none=>rfl
   | some o=>obtain ⟨o',z'⟩:=hg _ _ z;rw [hn] at z';cases z'
 exact ⟨⟨oe,vs,oT,ts,a0,y1,y2,y3,y4,y6,y7,y8,y9⟩,F.he,fr.1,F.ge,fr.2⟩
theorem Un.turn(u:Un fs ex H₀ H g h)(t:zk fs' ea T h h')(ge:g.get? ea=none)(gT:g.get? T=none)(h1:∀ b∈fs,b∈fs')(h2:∀ b∈fs',b∉fs->g.get? b=none):Un fs ex H₀ H g h' where
 keep:=fun b o q n hb hx=>t.keep b o (u.keep b o q n hb hx) (fun z=>by rw [h2 b z hb] at q;cases q) (fun z=>by rw [z,ge] at q;cases q) (fun z=>by rw [z,gT] at q;cases q)
 slot:=fun b o q n hb hx=>by
  obtain ⟨sl,e⟩:=u.slot b o q n hb hx;obtain ⟨sl',e'⟩:=t.slot b _ e (h1 b hb);exact ⟨sl',e'⟩
 free:=u.free
 there:=fun b o q hx=>by
  obtain ⟨o',e⟩:=u.there b o q hx
  by_cases hb:b∈fs'
  ·obtain ⟨sl,e'⟩:=t.slot b o' e hb
   exact ⟨_,e'⟩
  ·exact ⟨o',t.keep b o' e hb (fun z=>by rw [z,ge] at q;cases q) (fun z=>by rw [z,gT] at q;cases q)⟩
 tups:=u.tups
 frzs:=u.frzs
 tbls:=u.tbls
theorem HOk.turn(x:HOk P w H h)(t:zk fs ea T h h')(he:H ea=none)(hT:H T=none)(hf:∀ b∈fs,H b=none):HOk P w H h':=fun a o e=>by
 have ne:∀ b,(b=a\/H b=some (.own a))->H b≠none:=fun b hb z=>by
  rcases hb with rfl | hb
  ·rw [z] at e;cases e
  ·rw [z] at hb;cases hb
 exact (x a o e).stay (fun b u hb q=>t.keep b u q (fun z=>ne b hb (hf b z)) (fun z=>ne b hb (z ▸ he)) (fun z=>ne b hb (z ▸ hT))) (fun _ q=>q) fun _ _ q=>q
end
noncomputable def CXr(P:Program)(w:World):CXT:=fun outer H s E e s'=>∃ ea T cls H',e = .ref ea/\s'.os=s.os/\AllBare s'.gens/\Un (frs outer) [] H H' s.heap s'.heap/\HOk P w H' s'.heap/\iQ s.heap H' ea T cls s'.heap/\E cls none H'
theorem passF{P:Program}{w:World}{X:Cx}:pZ (CXr P w) X E0:=fun _ _ _ _ _ _ _ hZ=>(by obtain ⟨_,_,_,_,_,_,_,_,_,_,z⟩:=hZ;exact z.elim)
section
variable{P:Program}{w:World}{K:E2}{mg:Str->Option Value}{base:Heap}{N:List Str}{qual:Str}{scope:Scope}{f:Addr}{cd:Value}{A:Around}{outer:List Env}{s:Shared}{H:Hp}{E E':XK}
theorem qZ{env:Env}{L:Addr}{l:List Env}(h:env.frame=some L):frs (env::l)=L::frs l:=by unfold frs;rw [ER,h]
theorem xE(himp:∀ c d H,E' c d H->E c d H):pZ (CXr P w) (bX (CXr P w) P w K mg base N qual scope f cd A outer s H E) E':=by
 intro pins σ H1 s1 e s2 I hx;obtain ⟨ea,T,cls,H2,rfl,os,bare,un,hok,fl,e1⟩:=hx
 have I2:Inv (bX (CXr P w) P w K mg base N qual scope f cd A outer s H E) pins σ H2 s2:=I.call' (ch:=[]) os un hok bare fun b z=>absurd z (by simp)
 have fl:=fl.older (g₀:=s.heap) fun b o q=>I.base.there b o q (by show b∉[];simp)
 obtain ⟨a0,fw⟩:=fl.flyingW I2.stack
 refine wpAny_leaves_onW I2.ok.frames rfl fw fun h' x1 x2=> ?_
 obtain ⟨tn,T',fl'⟩:=mF fl I2.stack hok (fun b o q=>I2.base.there b o q (by show b∉[];simp)) x1 x2;have e2:frs (bX (CXr P w) P w K mg base N qual scope f cd A outer s H E).stack=s.heap.objs.size::frs outer:=qZ rfl;refine ⟨ea,T',cls,H2,rfl,I2.os,bare,Un.turn I2.base tn fl.ge fl.gT (fun b hb=> ?_) (fun b hb nb=> ?_),hok.turn tn fl.he fl.hT I2.stkFree,fl',himp _ _ _ e1⟩
 ·rw [e2];exact Cn _ hb
 ·rw [e2] at hb
  rcases Cr.mp hb with rfl | hb
  ·exact Heap.get?_none_of_le (Cw _)
  ·exact absurd hb nb
noncomputable def tRaise(C:Addr)(E:XK):TS:=fun _ _ H=>E (.ref C) none H
theorem vj{x:Str}{C:Addr}{bm:List Value}{B newId initId:String}{np cpos pos:Pos}(O:OwnCls x C bm newId mg base)(FB:ExcBaseFacts B newId initId bm)(hh:(A.deeper (envOfC qual scope s.heap.objs.size f cd)).handled=none)
 (hg:Gl (bX (CXr P w) P w K mg base N qual scope f cd A outer s H E) x) (hd:(x == ("__debug__" : Str))=false:=by decide):PS (bX (CXr P w) P w K mg base N qual scope f cd A outer s H E) (.Raise (some (.Call (.Name x np) [] [] cpos)) none pos) (tRaise C E):=by
 intro pins s1 σ H1 D I h;obtain ⟨tl,N',nm,q,bs,hdct,sn,sub,ab,col,dd,k0,k1,k2,k3,k5,mN,hC,hN,hni,T⟩:=O.obj
 refine wpAny_Raise_call_subT (C:=C) (nm:=nm) (q:=q) (N:=N') (bs:=bs) (bm:=tl) (hdct:=hdct) (sn:=sn) (sub:=sub) (ab:=ab) (col:=col) (dd:=dd) (k0:=k0) (k1:=k1) (k2:=k2) (k3:=k3) (k5:=k5)
  FB (mN:=mN) (T.hasType FB.hasBase) hh rfl hni (iz I hg O.bound ⟨rfl,?_⟩ hd)
 refine evalArgs_empty ⟨rfl,ED _,I.bk _ _ hC,hN.keeps I.bk,T.keeps I.bk,fun h' e hm=> ?_⟩
 have hin:∀ env∈(bX (CXr P w) P w K mg base N qual scope f cd A outer s H E).stack,∀ b,env.frame=some b->b∈frs (bX (CXr P w) P w K mg base N qual scope f cd A outer s H E).stack:=fun env he b hb=>EV.mpr ⟨env,he,hb⟩
 refine wpAny_leaves_madeW (base:=PySem.W.hideAll s1.heap (frs (bX (CXr P w) P w K mg base N qual scope f cd A outer s H E).stack)) (h:=s1.heap) I.ok.frames rfl (fun b o q=>PySem.W.of_hideAll _ q) (PySem.W.funFrames_hide I.stack hin) hm fun h'' t x1 x2 x3 x4=> ?_
 obtain ⟨y1,y2,y3,oe,vs,T',oT,ts,z1,z2,z3,z4,z5,z6,z7,z8,z9⟩:=x1
 have tn:zk (frs (bX (CXr P w) P w K mg base N qual scope f cd A outer s H E).stack) e T' s1.heap h'':=by
  refine ⟨fun b o q n1 _ _=>y1 b o (En _ q n1),fun b o q hb=> ?_⟩;obtain ⟨_,o',ho',nf⟩:=I.stack.mem hb;rw [q] at ho';cases ho';exact x4 b o (hm.keeps b o q) nf
 have hT:s1.heap.get? T'=none:=by
  have nf:T'∉frs (bX (CXr P w) P w K mg base N qual scope f cd A outer s H E).stack:=fun hb=>by
   obtain ⟨_,o,ho,nf⟩:=I.stack.mem hb;obtain ⟨sl,z⟩:=tn.slot T' o ho hb;rw [z7] at z;cases z;exact nf ts z8
  cases z:s1.heap.get? T' with
  | none=>rfl
  | some o =>
   have:=En _ z nf;rw [z5] at this;cases this
 have e2:frs (bX (CXr P w) P w K mg base N qual scope f cd A outer s H E).stack=s.heap.objs.size::frs outer:=qZ rfl
 have fl:iQ s.heap H1 e T' (.ref C) h'':=by
  refine iQ.older (g:=s1.heap) ⟨⟨oe,vs,oT,ts,_,z1,z2,z3,z4,z6,z7,z8,z9⟩,I.hok.none_of hm.new,I.hok.none_of hT,hm.new,hT⟩ fun b o q=>I.base.there b o q (by show b∉[];simp)
 refine ⟨e,T',.ref C,H1,rfl,I.os,I.bare,Un.turn I.base tn fl.ge fl.gT (fun b hb=> ?_) (fun b hb nb=> ?_),I.hok.turn tn fl.he fl.hT I.stkFree,fl,h⟩
 ·rw [e2];exact Cn _ hb
 ·rw [e2] at hb
  rcases Cr.mp hb with rfl | hb
  ·exact Heap.get?_none_of_le (Cw _)
  ·exact absurd hb nb
end
structure OkX(P:Program)(w:World)(K:E2)(mg:Str->Option Value)(base:Heap)(x:Str)(ps:List Str)(k:Nat)(sp:Sp):Prop where
 ex:∃ f fd,mg x=some (.ref f)/\PySem.W.keepIn K (.ref f)=true/\kW K fd ps []/\jS P w K mg base (CXr P w) k f fd ps sp
theorem Has.okX{P:Program}{w:World}{K:E2}{mg:Str->Option Value}{base:Heap}{x:Str}{st:Stmt}{N ps:List Str}{k:Nat}{sp:Sp}(h:Has K mg x st ps)(S:cZ N ps (ac st))(len:∀ vs H Q E,sp vs H Q E->vs.length=ps.length)
 (hbody:∀ (f:Addr) (cdv:Value) (A:Around) (outer:List Env) (s:Shared) (H:Hp) (vs:List V) (Q:VK) (E:XK),cx k (A.deeper (envOfC x (ac st) s.heap.objs.size f cdv))->sp vs H Q E ->
   ∃ t,PSs (bX (CXr P w) P w K mg base N x (ac st) f cdv A outer s H E) (bf st) t/\t { nx:=fun _ H'=>Q .non H',rt:=Q } (cQ N vs) H):OkX P w K mg base x ps (k+1) sp:=by
 obtain ⟨f,fd,F,hm,hb⟩:=h.ex;obtain ⟨oc,od,kV,doc,pm,an,cdv,ct,osl,rfl,lk,hcd⟩:=F.ex;exact ⟨f,_,hm,F.kp,hb,B9 lk hcd S len fun A outer s H vs Q E hr hsp=>hbody f cdv A outer s H vs Q E hr hsp⟩
section
variable{X:Cx}{e:Expr}{es:List Expr}{t:TA}{x:Str}{ps:List Str}{k:Nat}{sp:Sp}{p pos:Pos}
theorem fo(h:OkX X.prog X.w X.K X.mg X.base x ps k sp)(hr:cx k X.A)(hg:Gl X x)(ha:PA X (e::es) t)(hdb:(x == ("__debug__" : Str))=false:=by decide)
 (he:starEach (e::es) X.env=(false,eval e X.env)::starEach es X.env:=by rfl) (hpl:(backTo pos (starEach es X.env)).any (·.1)=false:=by rfl):PE X (.Call (.Name x p) (e::es) [] pos) (nM sp [] E0 t):=by
 obtain ⟨f,fd,hm,hk,hb,F⟩:=h.ex;exact o9 F hr hg hm hk hb .nil passF ha hdb he hpl
end
theorem Inv.frame{X:Cx}{pins:List (Addr×Obj)}{σ σ':St}{H:Hp}{s:Shared}{h':Heap}{t':Nat}{m':Str->Option Value}(I:Inv X pins σ H s)(hn':h'.Ns X.env.locals m')(hs:Heap.SameBut X.env.locals s.heap h')
 (hl:∀ (i:Nat) (x:Str) (v:V),X.N[i]?=some x->σ'[i]?=some (some v)->Vis X.env.scope x->∃ u,aB v u/\Look X.env h' m' x u) (len:σ'.length=σ.length):Inv X pins σ' H { s with heap:=h',toks:=t' }:=by
 have neL:∀ b o,X.s₀.heap.get? b=some o->b≠X.env.locals:=fun b o e=>CJ (CO (Cu e) I.ok.above)
 have tracked:HOk X.prog X.w H h':=fun b ob e=>by
  refine (I.hok b ob e).stay (fun c w' hc q=>(hs.2 c ?_).trans q) (fun _ q=>q) fun _ _ q=>q
  rintro rfl
  rcases hc with rfl | hc
  ·rw [I.free] at e;cases e
  ·rw [I.free] at hc;cases hc
 refine ⟨I.ok,I.os,I.bare,⟨fun b o e n hb hx=> ?_,fun b o e n hb hx=> ?_,I.base.free,fun b o e hx=> ?_,I.base.tups,I.base.frzs,I.base.tbls⟩,⟨m',hn',hl⟩,fun y c e=> ?_,I.free,I.freeC,fun p hp=> ?_,tracked,len.trans I.len⟩
 ·exact (hs.2 b (neL b o e)).trans (I.base.keep b o e n hb hx)
 ·obtain ⟨sl,e1⟩:=I.base.slot b o e n hb hx
  exact ⟨sl,(hs.2 b (neL b o e)).trans e1⟩
 ·obtain ⟨o',e1⟩:=I.base.there b o e hx
  exact ⟨o',(hs.2 b (neL b o e)).trans e1⟩
 ·obtain ⟨w',z⟩:=I.cell y c e
  exact ⟨w',z.sameBut hs (I.cne y c e)⟩
 ·obtain ⟨e,n,ne,nf,d⟩:=I.pin p hp
  exact ⟨(hs.2 p.1 ne).trans e,n,ne,nf,d⟩
theorem iu{X:Cx}{pins:List (Addr×Obj)}{σ:St}{H:Hp}{s:Shared}{M:Model}{A:Around}{E:Value->Shared->Prop}{Q:Unit->Shared->Prop}{i:Nat}{n:Str}{pos:Pos}(I:Inv X pins σ H s)(hN:X.N.Nodup)(hi:X.N[i]?=some n)(hlo:X.env.scope.names.lookup n=some .local)
 (h:∀ s',Inv X pins (σ.set i none) H s'->Q () s'):wpAny M A (do bindName X.env n .none;unbindBehindTheSuite X.env n pos) Q E s:=by
 have hl:X.env.kindOf n=some .local:=hlo
 have hp:(X.env.scope.kind == .class||(X.env.scope.kind == .module&&X.env.locals != X.env.globals))=false:=by rw [I.ok.kind];rfl
 have hiσ:i < σ.length:=by rw [I.len];exact (Cv.mp hi).1
 refine Cg (wpAny_bindName (js I hN hi (.inl hlo) (v:= .non) rfl (fun s1 I1=> ?_) (.inr hlo)));obtain ⟨m,hn,hlk⟩:=id I1.loc
 have hmn:m n=some Value.none:=by
  obtain ⟨u,r,q⟩:=hlk i n .non hi (Df hiσ) (.inl hlo);cases r
  rcases q with ⟨_,z⟩ | ⟨k,_⟩
  ·exact z
  ·rcases k with k | k<;>(rw [hl] at k;cases k)
 unfold unbindBehindTheSuite;refine wpAny_onRaise ?_;unfold unbindName;refine Cg (wpAny_point (Cg ?_));unfold deleteName;simp only [hl,hp];rw [if_neg (by decide)];refine Cg (wpAny_nsDel_keeps hn fun h2 v hn2 hs2=> ?_);rw [hmn];simp only [if_true,Option.isSome_some,Bool.not_true,DG,if_false];refine wpAny_pure (wpAny_point (h _ ?_));refine I1.frame (t':=s1.toks) hn2 hs2 (fun j y v' e1 e2 e3=> ?_) (by simp)
 have hj:j≠i:=fun z=>by
  subst z;rw [Df hiσ] at e2;cases e2
 rw [CP (Ne.symm hj)] at e2;obtain ⟨u,r,q⟩:=hlk j y v' e1 (by rw [CP (Ne.symm hj)];exact e2) e3;refine ⟨u,r,?_⟩
 rcases q with ⟨k,e⟩ | ⟨k,c,e,z⟩
 ·refine .inl ⟨k,?_⟩
  have:y≠n:=fun e=>hj (ml hN e1 (e ▸ hi))
  simp [this,e]
 ·exact .inr ⟨k,c,e,z.sameBut hs2 (I1.cne y c e)⟩
abbrev qc(X:Cx)(pn:List (Addr×Obj))(W:Value->St->Hp->Prop):Cx :=
 { X with pn:=pn,xe:=fun e s'=>∃ σ' H1 s1,Inv { X with pn:=pn } [] σ' H1 s1/\CXr X.prog X.w X.stack H1 s1 (fun c _ H'=>W c σ' H') e s' }
abbrev iS(X:Cx)(pn:List (Addr×Obj))(ea:Addr):Cx:={ X with pn:=pn,A:=X.A.mark (some (.ref ea)),calm:=false,xe:=fun _ _=>False }
theorem Cx.Ok.suite{X:Cx}(ok:X.Ok)(pn:List (Addr×Obj))(ea:Addr):(iS X pn ea).Ok :=
 ⟨ok.mod,ok.kind,ok.glob,ok.blt,ok.above,ok.inj,ok.has,ok.cab,(fun z=>by cases z),ok.frames,ok.stk,ok.exf,ok.bs,ok.bsz,ok.noex,ok.exfs,ok.funs,ok.frf⟩
theorem Cx.Ok.try_{X:Cx}(ok:X.Ok)(pn:List (Addr×Obj))(W:Value->St->Hp->Prop):(qc X pn W).Ok :=
 ⟨ok.mod,ok.kind,ok.glob,ok.blt,ok.above,ok.inj,ok.has,ok.cab,ok.hd,ok.frames,ok.stk,ok.exf,ok.bs,ok.bsz,ok.noex,ok.exfs,ok.funs,ok.frf⟩
noncomputable def mG(ea C:Addr):HO:= .ext fun h=>∃ o,h.get? ea=some o/\o.cls = .ref C
theorem rj{M:Model}{A:Around}{E:Value->Shared->Prop}{s:Shared}{K:E2}{ea C D:Addr}{ob:Obj}{Q:Bool->Shared->Prop}(XK:K.In s.heap)(ho:s.heap.get? ea=some ob)(hc:ob.cls = .ref C)
 (h1:PySem.W.subIn K (.ref C) (.ref D)=some true) (h2:PySem.W.subIn K (.ref D) (.type "BaseException")=some true) (h3:(PySem.W.clsIn K D).isSome=true) (h4:PySem.W.typeIn K (.ref D)=some (.type "type")) (q:Q true s) :
 wpAny M A (excMatches (.ref ea) (.ref D)) Q E s:=by
 obtain ⟨hp,g,d,tk,os⟩:=s;have L1:PySem.W.Looks M hp (typeOf (.ref ea)) (.ref C):=hc ▸ (PySem.W.Looks.ld ho).andThen .now;have L2:PySem.W.Looks M hp (isSubtype (.ref C) (.ref D)) true:=PySem.W.looks_subIn XK h1;have L3:PySem.W.Looks M hp (typeOf (.ref D)) (.type "type"):=PySem.W.looks_typeIn XK h4;have L4:PySem.W.Looks M hp (isSubtype (.ref D) (.type "BaseException")) true:=PySem.W.looks_subIn XK h2
 have L5:PySem.W.Looks M hp (isType (.ref D)) true:=by
  unfold PySem.W.clsIn at h3
  split at h3
  ·rename_i c' d' cd' sl' ho'
   intro A' Q' E' s' k q;unfold isType loadHead;exact Cg (wpAny_loadPart (k _ _ (XK _ _ ho')) (wpAny_pure q))
  ·cases h3
 have f:=tc_notTuple;unfold excMatches isInstance isExcClass;refine Cg (Cg (L3.at ?_));rw [f];refine wpAny_pure ?_;simp only [DG,if_false];refine Cg (wpAny_pure ?_);simp only [EO,List.forIn_nil,bind_assoc,pure_bind];refine Cg (L5.at ?_);simp only [if_true];refine Cg (L4.at ?_);simp only [Bool.not_true,DG,if_false,pure_bind];refine Cg (L1.at (Cg (L2.at ?_)));simp only [if_true,pure_bind];exact wpAny_pure q
noncomputable def tTry(K:E2)(tb:(Value->St->Hp->Prop)->TS)(ts:TS)(i:Nat)(Dc:Addr):TS:=fun D σ H=>∃ W,tb W D σ H/\∀ cls σ' H',W cls σ' H'->∃ C,cls = .ref C/\PySem.W.subIn K (.ref C) (.ref Dc)=some true /\
 ∀ ea,H' ea=none->ts { nx:=fun σ'' H''=>D.nx (σ''.set i none) H'',rt:=D.rt,bk:=fun σ'' H''=>D.bk (σ''.set i none) H'',ct:=fun σ'' H''=>D.ct (σ''.set i none) H'' } (σ'.set i (some (.ref ea))) (upd H' ea (mG ea C))
structure Hdl(K:E2)(mg:Str->Option Value)(x:Str)(D:Addr):Prop where
 at_:mg x=some (.ref D)
 sub:PySem.W.subIn K (.ref D) (.type "BaseException")=some true
 cls:(PySem.W.clsIn K D).isSome=true
 ty:PySem.W.typeIn K (.ref D)=some (.type "type")
theorem ps_try{X:Cx}{body:List Stmt}{b0:Stmt}{suite:List Stmt}{n x:Str}{i:Nat}{Dc:Addr}{np hpos pos:Pos}{tb:(Value->St->Hp->Prop)->TS}{ts:TS}
 (hst:X.stack=X.env::X.outer) (hfr:X.env.frame=some X.env.locals) (hb:∀ pn W,PSs (qc X pn W) body (tb W)) (hs:∀ pn ea,PSs (iS X pn ea) (b0::suite) ts)
 (hN:X.N.Nodup) (hi:X.N[i]?=some n) (hlo:X.env.scope.names.lookup n=some .local) (hg:Gl X x) (hD:Hdl X.K X.mg x Dc) (hdb:(x == ("__debug__" : Str))=false:=by decide) :
 PS X (.Try body [.ExceptHandler (some (.Name x np)) (some n) (b0::suite) hpos] [] [] pos) (tTry X.K tb ts i Dc):=by
 intro pins s σ H D I h;obtain ⟨W,hw,hh⟩:=h;have I0:Inv (qc X (X.pn++pins) W) [] σ H s:=⟨I.ok.try_ _ _,I.os,I.bare,I.base,I.loc,I.cell,I.free,I.freeC,fun p hp=>I.pin p (by simpa using hp),I.hok,I.len⟩
 have back:∀ {W':Value->St->Hp->Prop} {σ':St} {H':Hp} {s':Shared},Inv (qc X (X.pn++pins) W') [] σ' H' s'->Inv X pins σ' H' s':=fun {W' σ' H' s'} J =>
  ⟨I.ok,J.os,J.bare,J.base,J.loc,J.cell,J.free,J.freeC,fun p hp=>J.pin p (by simpa using hp),J.hok,J.len⟩
 refine wpAny_Try_except (Dy (hb (X.pn++pins) W [] s σ H D I0 hw) (fun fl s1 q=> ?_) fun e s1 q=> ?_)
 ·cases fl with
  | next=>obtain ⟨σ',H',J,q⟩:=q;exact EM ⟨σ',H',back J,q⟩
  | brk=>obtain ⟨σ',H',J,q⟩:=q;exact ⟨σ',H',back J,q⟩
  | cont=>obtain ⟨σ',H',J,q⟩:=q;exact ⟨σ',H',back J,q⟩
  | ret u=>obtain ⟨v,σ',H',J,r,q⟩:=q;exact ⟨v,σ',H',back J,r,q⟩
 ·obtain ⟨σ1,H1,s2,I2,ea,T,cls,H',rfl,os,bare,un,hok,fl,hW⟩:=q
  obtain ⟨C,rfl,hsub,hts⟩:=hh _ _ _ hW
  have noch:∀ b∈([]:List Addr),(b∈X.ex\/X.s₀.heap.objs.size<=b)/\b≠X.env.locals/\(∀ x c,X.env.cells.lookup x=some c->c≠b)/\∀ p∈(X.pn++pins)++[],p.1≠b:=fun b z=>absurd z (by simp)
  have I3:Inv { X with pn:=X.pn++pins } [] σ1 H' s1:=I2.call' (ch:=[]) os un hok bare noch
  have there:∀ b o,s2.heap.get? b=some o->∃ o',s1.heap.get? b=some o':=fun b o q=>un.there b o q (by simp)
  have step:∀ h',zk (frs X.stack) ea T s1.heap h'->Inv { X with pn:=X.pn++pins } [] σ1 H' { s1 with heap:=h' }:=fun h' tn =>
   I2.call' (ch:=[]) (s':={ s1 with heap:=h' }) os (Un.turn un tn fl.ge fl.gT (fun b hb=>hb) fun b hb nb=>absurd hb nb) (hok.turn tn fl.he fl.hT I3.stkFree) bare noch
  have fn:s1.heap.FunFrames X.base (X.env::X.outer):=hst ▸ I3.stack;obtain ⟨a0,fw⟩:=fl.flyingW (l:=X.env::X.outer) fn;have fr:X.A.frames=some (X.env::X.outer):=hst ▸ I.ok.frames
  refine wpAny_looks_onW fr hfr fw fun h4 hheld4 sm4=> ?_
  refine wpAny_landsW hheld4 fun h5 fw5 sm5=> ?_
  obtain ⟨tn5,_⟩:=mF fl (l:=X.env::X.outer) fn hok there fw5 (sm4.trans sm5);rw [<- hst] at tn5;have I5:=step h5 tn5;have I5s:Inv (iS X (X.pn++pins) ea) [] σ1 H' { s1 with heap:=h5 }:=⟨I.ok.suite _ _,I5.os,I5.bare,I5.base,I5.loc,I5.cell,I5.free,I5.freeC,I5.pin,I5.hok,I5.len⟩;obtain ⟨ob5,hob5,hoc5⟩:=fw5.there;refine wpAny_handleBy_cons (codeAny_handlers_test (iz I5s hg hD.at_ ?_ hdb)) (by intro q;cases q);refine rj I5s.kIn hob5 hoc5 hsub hD.sub hD.cls hD.ty ?_;refine codeAny_handlers_suite_as ?_
  refine lands_againW fw5 fun h6 fw6 sm6=> ?_
  obtain ⟨tn6,_⟩:=mF fl (l:=X.env::X.outer) fn hok there fw6 ((sm4.trans sm5).trans sm6);rw [<- hst] at tn6;have I6:=step h6 tn6;obtain ⟨ob,hob,hoc⟩:=fw6.there;have hok7:HOk X.prog X.w (upd H' ea (mG ea C)) h6:=HOk.track I6.hok fl.he ⟨⟨ob,hob,hoc⟩,⟨ob,hob⟩,fun h1 h2 hZ k=>(by obtain ⟨o,e,c⟩:=hZ;exact ⟨o,k o e,c⟩)⟩
  have un6:=Un.turn un tn6 fl.ge fl.gT (fun b hb=>hb) fun b hb nb=>absurd hb nb
  have un7:Un (frs X.stack) [] H1 (upd H' ea (mG ea C)) s2.heap h6 :=
   ⟨un6.keep,un6.slot,fun b o q n hx=>by rw [ah (fun z=>by rw [z,fl.ge] at q;cases q)];exact un6.free b o q n hx,un6.there,
    fun b xs q=>by rw [ah (aq (un6.tups b xs q) fl.he)];exact un6.tups b xs q,fun b o u q=>by rw [ah (aq (un6.frzs b o u q) fl.he)];exact un6.frzs b o u q,
    fun b ps q=>by obtain ⟨m,z⟩:=un6.tbls b ps q;exact ⟨m,by rw [ah (aq z fl.he)];exact z⟩⟩
  have I7:Inv { X with pn:=X.pn++pins } [] σ1 (upd H' ea (mG ea C)) { s1 with heap:=h6 }:=I2.call' (ch:=[]) (s':={ s1 with heap:=h6 }) os un7 hok7 bare noch;have I7s:Inv (iS X (X.pn++pins) ea) [] σ1 (upd H' ea (mG ea C)) { s1 with heap:=h6 }:=⟨I.ok.suite _ _,I7.os,I7.bare,I7.base,I7.loc,I7.cell,I7.free,I7.freeC,I7.pin,I7.hok,I7.len⟩;refine js (X:=iS X (X.pn++pins) ea) I7s hN hi (.inl hlo) (v:= .ref ea) rfl (fun s8 I8=> ?_) (.inr hlo)
  refine Dy (hs (X.pn++pins) ea [] s8 _ _ _ I8 (hts ea fl.he)) (fun fl s9 q=> ?_) fun _ _ z=>z.elim
  have bk2:∀ {σ':St} {H':Hp} {s':Shared},Inv (iS X (X.pn++pins) ea) [] σ' H' s'->Inv X pins σ' H' s':=fun {σ' H' s'} J =>
   ⟨I.ok,J.os,J.bare,J.base,J.loc,J.cell,J.free,J.freeC,fun p hp=>J.pin p (by simpa using hp),J.hok,J.len⟩
  cases fl with
  | next=>obtain ⟨σ9,H9,J,q⟩:=q;exact iu (bk2 J) hN hi hlo fun s' J'=>⟨_,H9,J',q⟩
  | brk=>obtain ⟨σ9,H9,J,q⟩:=q;exact iu (bk2 J) hN hi hlo fun s' J'=>⟨_,H9,J',q⟩
  | cont=>obtain ⟨σ9,H9,J,q⟩:=q;exact iu (bk2 J) hN hi hlo fun s' J'=>⟨_,H9,J',q⟩
  | ret u=>obtain ⟨v,σ9,H9,J,r,q⟩:=q;exact iu (bk2 J) hN hi hlo fun s' J'=>⟨v,_,H9,J',r,q⟩
noncomputable def tCallT(sp:Sp)(W:Value->St->Hp->Prop)(t:TA):TE:=fun σ H Q=>t σ H fun vs H1=>sp vs H1 Q fun c _ H'=>W c σ H'
theorem xC{X:Cx}{pn:List (Addr×Obj)}{W:Value->St->Hp->Prop}{e:Expr}{es:List Expr}{t:TA}{x:Str}{ps:List Str}{k:Nat}{sp:Sp}{p pos:Pos}
 (h:OkX X.prog X.w X.K X.mg X.base x ps k sp) (hr:cx k X.A) (hg:Gl X x) (ha:PA (qc X pn W) (e::es) t) (hdb:(x == ("__debug__" : Str))=false:=by decide)
 (he:starEach (e::es) X.env=(false,eval e X.env)::starEach es X.env:=by rfl) (hpl:(backTo pos (starEach es X.env)).any (·.1)=false:=by rfl):PE (qc X pn W) (.Call (.Name x p) (e::es) [] pos) (tCallT sp W t):=by
 obtain ⟨f,fd,hm,hk,hb,F⟩:=h.ex;intro pins s σ H Q I hw;refine Et (iz I hg hm ?_ hdb);refine PySem.W.callWith_K (h₀:=X.base) I.ok.mod.kin hk (thn (ha pos pins s σ H _ I hw) fun us s1 ⟨vs,H1,I1,r,q⟩=>⟨I1.kIn,?_⟩) he hpl
 have hl:us.length=ps.length:=by rw [<- r.length];exact F.len _ _ _ _ q
 have hb':BindsTo s1 fd ⟨us,[]⟩ (ps.zip us):=by
  have:=hb s1 us I1.kIn (by simpa using hl)
  rwa [DE] at this
 refine wpAny_call (codeAny_mono (F.run X.A X.stack s1 H1 ⟨us,[]⟩ us vs Q _ hr I1.env0 hb' r q) fun r s' hq=> ?_)
 cases r with
 | error e =>
  have J:Inv { X with pn:=pn } [] σ H1 s1:=⟨I1.ok.unwish,I1.os,I1.bare,I1.base,I1.loc,I1.cell,I1.free,I1.freeC,fun p hp=>I1.pin p (Cp _ (by simpa using hp)),I1.hok,I1.len⟩;exact ⟨σ,H1,s1,J,hq⟩
 | ok fl =>
  cases fl with
  | ret u=>exact I1.after hq
  | next=>exact False.elim hq
  | brk=>exact False.elim hq
  | cont=>exact False.elim hq
structure eY(k:Nat)(A:Around):Prop where
 dp:A.depth+3 * k+5 < recursionLimit
 un:A.units+16 * k+200 < cLine
 gd:A.guards=some []
theorem cx.any{k:Nat}{A:Around}(r:cx k A):eY k A:=⟨r.dp,r.un,r.gd⟩
theorem eY.mono{j k:Nat}{A:Around}(r:eY k A)(h:j<=k):eY j A:=⟨by have:=r.dp;omega,by have:=r.un;omega,r.gd⟩
theorem eY.mark{k:Nat}{A:Around}{v:Option Value}(r:eY k A):eY k (A.mark v):=⟨r.dp,r.un,r.gd⟩
theorem eY.calm{k:Nat}{A:Around}(r:eY k A):cx k { A with handled:=none }:=⟨rfl,r.dp,r.un,r.gd⟩
abbrev uU(P:Program)(w:World)(K:E2)(mg:Str->Option Value)(base:Heap)(N:List Str)(qual:Str)(scope:Scope)(f:Addr)(cd:Value)(A:Around)(outer:List Env)(s:Shared)(H:Hp)(E:XK):Cx :=
 { bX CX0 P w K mg base N qual scope f cd A outer s H E with calm:=false,xe:=fun _ _=>False }
structure OkA(P:Program)(w:World)(K:E2)(mg:Str->Option Value)(base:Heap)(x:Str)(ps:List Str)(k:Nat)(sp:Sp):Prop where
 ex:∃ f fd,mg x=some (.ref f)/\PySem.W.keepIn K (.ref f)=true/\kW K fd ps []/\(∀ vs H Q E,sp vs H Q E->vs.length=ps.length) /\
  ∀ (A:Around) (outer:List Env) (s:Shared) (H:Hp) (args:Args) (us:List Value) (vs:List V) (Q:VK) (E:XK),eY k A->ww P w K mg base A outer s H->BindsTo s fd args (ps.zip us)->aw vs us->sp vs H Q E ->
   codeAny (model P w) A (.call (.ref f) args) (CR CX0 outer P w H s Q E) s
theorem Has.okA{P:Program}{w:World}{K:E2}{mg:Str->Option Value}{base:Heap}{x:Str}{st:Stmt}{N ps:List Str}{k:Nat}{sp:Sp}(h:Has K mg x st ps)(S:cZ N ps (ac st))(len:∀ vs H Q E,sp vs H Q E->vs.length=ps.length)
 (hbody:∀ (f:Addr) (cdv:Value) (A:Around) (outer:List Env) (s:Shared) (H:Hp) (vs:List V) (Q:VK) (E:XK),eY k (A.deeper (envOfC x (ac st) s.heap.objs.size f cdv))->sp vs H Q E ->
   ∃ t,PSs (uU P w K mg base N x (ac st) f cdv A outer s H E) (bf st) t/\t { nx:=fun _ H'=>Q .non H',rt:=Q } (cQ N vs) H):OkA P w K mg base x ps (k+1) sp:=by
 obtain ⟨f,fd,F,hm,hb⟩:=h.ex;obtain ⟨oc,od,kV,doc,pm,an,cdv,ct,osl,rfl,lk,hcd⟩:=F.ex;refine ⟨f,_,hm,F.kp,hb,len,fun A outer s H args us vs Q E hr e0 hb r hsp=> ?_⟩;have hl:=len _ _ _ _ hsp
 have KX:K.In s.heap:=e0.mod.kin.keeps fun b o e=>(e0.bs b o e).1
 have lim:s.heap.NoLimit:=e0.mod.nolimit.keeps fun b o e=>(e0.bs b o e).1
 have hkind:∀ y∈ps.zip us,(ac st).names.lookup y.1=some .local\/((ac st).names.lookup y.1=some .cell/\((cellsFrom (s.heap.objs.size+1) (ac st).names []).lookup y.1).isSome=true):=fun hZ hy=>by
  obtain ⟨n,v⟩:=hZ
  rcases S.par n (EN hy).1 with q | q
  ·exact .inl q
  ·exact .inr ⟨q,PySem.W.cellsFrom_some _ _ _ (.inl q)⟩
 refine codeAny_call_function hr.calm.depth (KX _ _ lk) rfl S.co S.gen rfl (PySem.W.codeRec_of KX hcd) (hb _ _ _ _ ?_)
 refine wpAny_newFunctionEnv_cells S.kind hkind fun env he s1 x1=> ?_
 subst he;refine ⟨lim.keeps x1.toInCall.keep,codeAny_func ?_⟩;have hrd:eY k (A.deeper (envOfC x (ac st) s.heap.objs.size f cdv)):=⟨by have:=hr.dp;show A.depth+1+3 * k+5 < _;omega,by have:=hr.un;show A.units+3+16 * k+200 < _;omega,hr.gd⟩;obtain ⟨t,ht,hq⟩:=hbody f cdv A outer s H vs Q E hrd hsp;have e0':ww P w K mg base { A with handled:=none } outer s H:=⟨e0.frames,e0.mod,e0.bs,e0.bsz,e0.funs,e0.frf,e0.hok,e0.bare⟩;have J:Inv (bX CX0 P w K mg base N x (ac st) f cdv { A with handled:=none } outer s H E) [] (cQ N vs) H s1:=oj S rfl e0' hl r x1
 have ok:(uU P w K mg base N x (ac st) f cdv A outer s H E).Ok :=
  ⟨J.ok.mod,J.ok.kind,J.ok.glob,J.ok.blt,J.ok.above,J.ok.inj,J.ok.has,J.ok.cab,(fun z=>by cases z),Around.frames_deeper e0.frames,J.ok.stk,J.ok.exf,J.ok.bs,J.ok.bsz,J.ok.noex,J.ok.exfs,J.ok.funs,J.ok.frf⟩
 have I:Inv (uU P w K mg base N x (ac st) f cdv A outer s H E) [] (cQ N vs) H s1:=⟨ok,J.os,J.bare,J.base,J.loc,J.cell,J.free,J.freeC,J.pin,J.hok,J.len⟩
 refine Dy (ht [] s1 (cQ N vs) H _ I hq) (fun fl s' hs=> ?_) fun e s' hs=>hs.elim
 have fin:∀ {σ':St} {H':Hp} {v:V} {u:Value},Inv (uU P w K mg base N x (ac st) f cdv A outer s H E) [] σ' H' s'->aB v u->Q v H'->CE outer P w H s Q u s' :=
  fun {σ' H' v u} J rv q=>⟨v,H',J.os,J.bare,J.base,J.hok,rv,q⟩
 cases fl with
 | ret u =>
  obtain ⟨v,σ',H',J,rv,q⟩:=hs;exact fin J rv q
 | next =>
  obtain ⟨σ',H',J,q⟩:=hs;exact fin (v:=V.non) (u:=Value.none) J rfl q
 | brk =>
  obtain ⟨_,_,_,q⟩:=hs;exact False.elim q
 | cont =>
  obtain ⟨_,_,_,q⟩:=hs;exact False.elim q
theorem xD{X:Cx}{e:Expr}{es:List Expr}{t:TA}{x:Str}{ps:List Str}{k:Nat}{sp:Sp}{p pos:Pos}(h:OkA X.prog X.w X.K X.mg X.base x ps k sp)(hr:eY k X.A)(hg:Gl X x)(ha:PA X (e::es) t)(hdb:(x == ("__debug__" : Str))=false:=by decide)
 (he:starEach (e::es) X.env=(false,eval e X.env)::starEach es X.env:=by rfl) (hpl:(backTo pos (starEach es X.env)).any (·.1)=false:=by rfl):PE X (.Call (.Name x p) (e::es) [] pos) (nM sp [] E0 t):=by
 obtain ⟨f,fd,hm,hk,hb,hlen,F⟩:=h.ex;intro pins s σ H Q I hw;refine Et (iz I hg hm ?_ hdb);refine PySem.W.callWith_K (h₀:=X.base) I.ok.mod.kin hk (thn (ha pos pins s σ H _ I hw) fun us s1 ⟨vs,H1,I1,r,q⟩=>⟨I1.kIn,?_⟩) he hpl;have q:sp (vs++[]) H1 Q E0:=q;rw [DE] at q
 have hl:us.length=ps.length:=by rw [<- r.length];exact hlen _ _ _ _ q
 have hb':BindsTo s1 fd ⟨us,[]⟩ (ps.zip us):=by
  have:=hb s1 us I1.kIn (by simpa using hl)
  rwa [DE] at this
 refine wpAny_call (codeAny_mono (F X.A X.stack s1 H1 ⟨us,[]⟩ us vs Q _ hr I1.env0 hb' r q) fun r s' hq=> ?_)
 cases r with
 | error e=>exact hq.elim
 | ok fl =>
  cases fl with
  | ret u=>exact I1.after hq
  | next=>exact False.elim hq
  | brk=>exact False.elim hq
  | cont=>exact False.elim hq
section
variable{X:Cx}
theorem mJ{x:V}:∀ {xs:List V} {us:List Value},aw xs us->xs.all gf=true->us.countP (eqU x)=xs.countP fun y=>eqV y x
 | _,_,.nil,_=>rfl
 | y::xs,u::us,.cons r t,f=>by
  rw [EL,CD] at f;rw [List.countP_cons,List.countP_cons,tH r f.1,mJ t f.2]
noncomputable def rCount:V->List V->Hp->VK->Prop:=fun x vs H Q=>∃ l xs y,x = .ref l/\vs=[y]/\H l=some (.lst xs)/\gf y=true/\xs.all gf=true/\Q (.int ((xs.countP fun z=>eqV z y):Nat)) H
theorem xZ:MtM X "list.count" rCount:=by
 intro pins s σ H x vs v us Q I rx rv h;obtain ⟨l,xs,y,rfl,rfl,hH,fy,fs,q⟩:=h;cases rx;obtain ⟨u,rfl,ru⟩:=rv.one;obtain ⟨z,its,n,r,hl,e⟩:=I.lstM hH;refine call_meets F.slot_list_count ⟨_,e,rfl⟩ F.entry_list_count (F.args_list_count_2 _ _) (SeqAt.list_countAt l its.toArray n none #[] u (eqU y)) ⟨e,fun w hw=>mm ru fy r fs w (by simpa using hw),?_⟩;refine ⟨.int _,H,I.tok _,⟨_,rfl⟩,?_⟩;rw [List.toList_toArray,mJ r fs];exact q
theorem uO{y:V}{xs:List V}{us:List Value}(r:aw xs us)(f:xs.all gf=true)(m:Nat)(h1:m < us.toArray.size)(h2:m < xs.length):eqU y us.toArray[m]=eqV xs[m] y:=by
 obtain ⟨u,e,ru⟩:=r.get (i:=m) (Ch h2)
 have hm:m < us.length:=by simpa using h1
 rw [Ch hm] at e
 have:us.toArray[m]=u:=by simpa using Option.some.inj e
 rw [this];exact tH ru (CH.mp f _ (CT h2))
noncomputable def rIndex:V->List V->Hp->VK->Prop:=fun x vs H Q=>∃ l xs y j,x = .ref l/\vs=[y]/\H l=some (.lst xs)/\gf y=true/\xs.all gf=true/\(∃ h:j < xs.length,eqV xs[j] y=true)/\(∀ m (hm:m < xs.length),m < j->eqV xs[m] y=false)/\Q (.int (j:Nat)) H
theorem xY:MtM X "list.index" rIndex:=by
 intro pins s σ H x vs v us Q I rx rv h;obtain ⟨l,xs,y,j,rfl,rfl,hH,fy,fs,⟨hj,hit⟩,hno,q⟩:=h;cases rx;obtain ⟨u,rfl,ru⟩:=rv.one;obtain ⟨z,its,n,r,hl,e⟩:=I.lstM hH
 have hz:sizeLine < 2 ^ 63 - 1:=by decide
 refine call_meets F.slot_list_index ⟨_,e,rfl⟩ F.entry_list_index (F.args_list_index_2 _ _) (SeqAt.list_indexAt l its.toArray n none #[] u (eqU y) j (by simp;omega) (by omega)
  (by rw [uO r fs j (by simp;omega) hj];exact hit) (fun m hm h2=>by rw [uO r fs m hm (by simp at hm;omega)];exact hno m _ h2)) ⟨e,fun w hw=>mm ru fy r fs w (by simpa using hw),?_⟩
 exact ⟨.int _,H,I.tok _,⟨_,rfl⟩,q⟩
end
end L2
namespace EnT
open PySem PySem.Spec PyProof.Rows
open AutoSeq1 (wpAny_loadPart')
theorem kg(l:Addr)(items:Array Value)(n:Nat)(dct:Option Addr)(sl:Array (Option Value)) :
 Meets (Builtin.«enumerate.__new__» ⟨[.type "enumerate",.ref l],[]⟩) (fun _ R s=>s.heap.get? l=some { cls:= .type "tuple",dict:=dct,data:= .seq items n,slots:=sl } /\
  R (.ok (.ret (.ref (s.heap.push { cls:= .type "tuple_iterator",data:= .fields #[.ref l,.int 0 0] }).objs.size)))
   { s with heap:=(s.heap.push { cls:= .type "tuple_iterator",data:= .fields #[.ref l,.int 0 0] }).push { cls:= .type "enumerate",data:= .fields #[.none,.bool false,.ref s.heap.objs.size,rawInt 0,.none,.none] } }) :=
 .of_wp fun prog w A R s h=>by
  obtain ⟨hp,g,d,tk,os⟩:=s;obtain ⟨hl,h⟩:=h;have hsub:=sub_enumerate;have hL:Heap.IsTuple (Shared.heap ⟨hp,g,d,tk,os⟩) l items:=⟨_,hl,rfl,n,rfl⟩
  wp_walk using Ds hl
  refine wpAny_stack_any fun st=>wpAny_pure ?_
  split
  ·rename_i c _ _ _ _ _
   cases (c == Value.type "enumerate")
   ·wp_walk using Ds hl,Dg hL
    exact ⟨_,rfl,h⟩
   ·wp_walk using Ds hl,Dg hL
    exact ⟨_,rfl,h⟩
  ·wp_walk using Ds hl,Dg hL
   exact ⟨_,rfl,h⟩
section
variable{prog:Program}{w:World}{A:Around}{E:Value->Shared->Prop}{s:Shared}
theorem mK{l:Addr}{items:Array Value}{Q:Value->Shared->Prop}(hL:s.heap.IsTuple l items)
 (h:∀ h',IsEnum h' (s.heap.objs.size+1) s.heap.objs.size 0 .none->h'.IsTupleIter s.heap.objs.size l 0->h'.objs.size=s.heap.objs.size+2 ->
   (∀ b o,s.heap.get? b=some o->h'.get? b=some o)->Q (.ref (s.heap.objs.size+1)) { s with heap:=h' }) :
 wpAny (model prog w) A (call (.type "enumerate") [.ref l]) Q E s:=by
 obtain ⟨⟨c,dct,dt,sl⟩,hl,hc,n,hd⟩:=hL
 replace hc:c = .type "tuple" := hc
 replace hd:dt = .seq items n:=hd
 subst hc hd
 refine callType_new F.called_enumerate (by decide) (F.typeCall_enumerate_1 _) (F.newCall_enumerate_1 _) (fun obj=>F.args_object_init_2 obj _) F.entry_enumerate_new
  (kg l items n dct sl) ⟨hl,?_⟩
 have hz:(s.heap.push { cls:= .type "tuple_iterator",data:= .fields #[.ref l,.int 0 0] }).objs.size=s.heap.objs.size+1:=C5 ..
 show _/\_
 rw [hz]
 have he:IsEnum ((s.heap.push { cls:= .type "tuple_iterator",data:= .fields #[.ref l,.int 0 0] }).push
  { cls:= .type "enumerate",data:= .fields #[.none,.bool false,.ref s.heap.objs.size,rawInt 0,.none,.none] }) (s.heap.objs.size+1) s.heap.objs.size 0 .none:=by
  have:=Ct (s.heap.push { cls:= .type "tuple_iterator",data:= .fields #[.ref l,.int 0 0] })
   (o:={ cls:= .type "enumerate",data:= .fields #[.none,.bool false,.ref s.heap.objs.size,rawInt 0,.none,.none] }) rfl
  rw [hz] at this;exact this
 refine ⟨⟨_,he,rfl⟩,h _ he ⟨_,Cj _ (Ct _ rfl),rfl,rfl⟩ (by rw [C5,hz]) fun b o x=>Cj _ (Cj _ x)⟩
theorem fq{it l:Addr}{i:Nat}{items}{x:Value}{Q:Value->Shared->Prop}(hit:s.heap.IsTupleIter it l i)
 (hl:s.heap.IsTuple l items) (hx:items[i]?=some x)
 (hQ:∀ h',h'.IsTupleIter it l (i+1)->Heap.SameBut it s.heap h'->Q x { s with heap:=h' }) :
 wpAny (model prog w) A (Builtin.SmallTypes.nextOf (.ref it)) Q E s:=by
 obtain ⟨o,ho,hc,hd⟩:=id hit;obtain ⟨ol,hol,_,nl,hdl⟩:=hl;unfold Builtin.SmallTypes.nextOf
 refine Cg (CZ (name:=Str.ofString "__next__") hit.typeIs F.slot_tuple_iterator_next
  (C6 F.slot_tuple_iterator_next hit.typeIs F.entry_tuple_iterator_next ?_ (F.args_tuple_iterator_next_1 _)))
 show wpAny _ _ (field (.ref it) 0 >>= _) _ _ s
 refine Cg (Dh ho hd (x:= .ref l) rfl ?_)
 show wpAny _ _ (if (Value.ref l == Value.none)=true then _ else _) _ _ s
 rw [if_neg (show ¬ ((Value.ref l == Value.none)=true) from Cq)]
 show wpAny _ _ (field (.ref it) 1 >>= _) _ _ s
 refine Cg (Dh ho hd (x:= .int i 0) rfl ?_)
 show wpAny _ _ (seqItems? (.ref l) >>= _) _ _ s
 refine Cg (Ei hol hdl ?_);simp only [EE,hx];refine Cg (DQ ho hd (by simp) (wpAny_pure ⟨x,rfl,wpAny_pure (hQ _ ?_ (Heap.SameBut.update ..))⟩))
 exact ⟨_,Dp _ ho (Obj.isFreed_of_fields (EU hd _)),(Obj.cls_mapFields ..).trans hc,by
  rw [EU hd];simp [rawInt]⟩
theorem gR{it l:Addr}{i:Nat}{items}{Q:Value->Shared->Prop}(hh:A.handled=none)
 (hit:s.heap.IsTupleIter it l i) (hl:s.heap.IsTuple l items) (hx:items[i]?=none)
 (hE:∀ h' e,Heap.ExtBut it s.heap h'->(∃ o,h'.get? e=some o/\o.cls = .type "StopIteration")->E (.ref e) { s with heap:=h' }) :
 wpAny (model prog w) A (Builtin.SmallTypes.nextOf (.ref it)) Q E s:=by
 obtain ⟨o,ho,hc,hd⟩:=id hit;obtain ⟨ol,hol,_,nl,hdl⟩:=hl;unfold Builtin.SmallTypes.nextOf
 refine Cg (CZ (name:=Str.ofString "__next__") hit.typeIs F.slot_tuple_iterator_next
  (C6 F.slot_tuple_iterator_next hit.typeIs F.entry_tuple_iterator_next ?_ (F.args_tuple_iterator_next_1 _)))
 show wpAny _ _ (field (.ref it) 0 >>= _) _ _ s
 refine Cg (Dh ho hd (x:= .ref l) rfl ?_)
 show wpAny _ _ (if (Value.ref l == Value.none)=true then _ else _) _ _ s
 rw [if_neg (show ¬ ((Value.ref l == Value.none)=true) from Cq)]
 show wpAny _ _ (field (.ref it) 1 >>= _) _ _ s
 refine Cg (Dh ho hd (x:= .int i 0) rfl ?_)
 show wpAny _ _ (seqItems? (.ref l) >>= _) _ _ s
 refine Cg (Ei hol hdl ?_);simp only [EE,hx];refine Cg (wpAny_rule (Cg (DQ ho hd (by simp) ?_)))
 show wpAny _ _ (newExc (.type "StopIteration") [] >>= _) _ _ _
 refine Cg ?_;simp only [newExc,newTuple];refine Cg (CW ?_ (by size_fits));refine Cg (m:=firstArgMember _ _) (wpAny_of_eq (a:=Value.none) (by first | rfl | (simp only [firstArgMember];rfl)) ?_);refine CW ?_ (by size_fits);simp only [raiseNew];refine Cg (wpAny_handled ?_)
 first | rw [show A.in1.handled=none from hh] | rw [hh]
 refine Cg (wpAny_pure (wpAny_throw ?_));exact hE _ _ (((Heap.SameBut.update ..).extBut.push _).push _) ⟨_,Ct _ rfl,rfl⟩
end
end EnT
namespace L2
open PySem PySem.Spec PyProof.Rows
section
variable{X:Cx}
end
end L2
namespace XK
open PySem PySem.W PySem.Spec PySem.Calls PyProof.Rows PySem.Builtin PySem.Builtin.ObjectAttr PySem.Builtin.Getset_descriptor
structure rV(K:Frag)(C:Addr):Prop where
 ga:findIn K (.ref C) "__getattribute__" = some (some (.builtin "BaseException.__getattribute__"))
 gh:findIn K (.ref C) "__getattr__" = some none
 sub:mroIn K C (.type "BaseException")=some true
 cl:findIn K (.ref C) "__class__" = some (some (.builtin "object.__class__"))
 ob:mroIn K C (.type "object")=some true
 cls:(clsIn K C).isSome=true
section
variable{prog:Program}{w:World}{A:Around}{E:Value->Shared->Prop}{h:Heap}{g:Array GenState}{d:Drawn}{t:Nat}{os:OsState}{a:Addr}{o:Obj}{C:Addr}{K:Frag}
theorem ty(hx:h.get? a=some o)(hc:o.cls = .ref C){M:Model}:Looks M h (typeOf (.ref a)) (.ref C):=hc ▸ (Looks.ld hx).andThen .now
theorem get_{tp:Value}{R:Result->Shared->Prop}(X:K.In h)(hx:h.get? a=some o)(hc:o.cls = .ref C)(k:rV K C)(hq:R (.ok (.ret (.ref C))) ⟨h,g,d,t,os⟩) :
 codeAny (model prog w) A (.call (.builtin "getset_descriptor.__get__") ⟨[.builtin "object.__class__",.ref a,tp],[]⟩) R ⟨h,g,d,t,os⟩:=by
 have L0:=ty (M:=model prog w) hx hc;have L1:=looks_mroIn (M:=model prog w) X k.ob;refine codeAny_call_builtin KF.slot_gs.plain KF.entry_gs (KF.slot_gs.check _ _ _ _ _ _ _ _ KF.type_class (KF.args_gs _ _ _) ?_);unfold Builtin.«getset_descriptor.__get__» descrGet;rw [dga_obj];refine Cg (wpAny_pure ?_);unfold descrGetter descrCheckInstance descrNameAndClass isInstance;simp only [KF.owner_class]
 repeat lk
 refine ⟨Code.quiet_builtin _ (by decide +kernel),codeAny_builtin KF.entry_class ?_⟩;unfold Builtin.«object.__class__» shownTypeOf
 repeat lk
 exact hq
theorem entry_{tk:Tok}{Q:Fin->Shared->Prop}(X:K.In h)(hx:h.get? a=some o)(hc:o.cls = .ref C)(k:rV K C)(hq:Q (.done (.ret (.ref C))) ⟨h,g,d,t,os⟩) :
 wpAny (model prog w) A (Builtin.«object.__getattribute__» ⟨[.ref a,.str "__class__" tk],[]⟩) Q E ⟨h,g,d,t,os⟩:=by
 have hT5:(⟨h,g,d,t,os⟩:Shared).TypeIs (.builtin "object.__class__") "getset_descriptor" := F.typeOf_object_class;have L0:=ty (M:=model prog w) hx hc;have L4:=looks_findIn (M:=model prog w) X k.cl;have f5:=F.typeOf_object_class;have f6:=F.slot_gs_get.lookup;have f7:=F.slot_gs_set.lookup
 repeat (any_goals (first | assumption | with_reducible refine Looks.at L0 ?_ | with_reducible refine Looks.at L4 ?_ | wp_step))
 refine get_ X hx hc k ?_
 repeat (any_goals (first | assumption | wp_step))
theorem check_{M:Model}{nameV:Value}{Q:Unit->Shared->Prop}(X:K.In h)(hx:h.get? a=some o)(hc:o.cls = .ref C)(k:rV K C)(hq:Q () ⟨h,g,d,t,os⟩):wpAny M A (checkBuiltinCall "BaseException.__getattribute__" ⟨[.ref a,nameV],[]⟩) Q E ⟨h,g,d,t,os⟩:=by
 have hk:builtinKind "BaseException.__getattribute__" = some .slot:=by decide +kernel
 have hsplit:splitId "BaseException.__getattribute__" = some ("BaseException", "__getattribute__"):=by decide +kernel
 have L0:=ty (M:=M) hx hc;have L3:=looks_mroIn (M:=M) X k.sub;have ha:=F.args_bexc_ga (.ref a) nameV;simp only [checkBuiltinCall,hk,hsplit];refine Cg ?_;unfold isInstance
 repeat (first | with_reducible refine Looks.at L0 ?_ | with_reducible refine Looks.at L3 ?_ | wp_step)
 exact hq
theorem by_{tk:Tok}{yM expr:Bool}{Q:Value->Shared->Prop}(X:K.In h)(hx:h.get? a=some o)(hc:o.cls = .ref C)(k:rV K C)(hq:Q (.ref C) ⟨h,g,d,t,os⟩) :
 wpAny (model prog w) A (getAttrBy (.ref a) (.str "__class__" tk) yM expr) Q E ⟨h,g,d,t,os⟩:=by
 have f3:=F.excAttr_ValueError.ga.bind (.ref a)
 have hx0:(expr&&onTheHeap (Value.builtin "BaseException.__getattribute__"))=false:=by cases expr<;>rfl
 have hx2:(Value.builtin "BaseException.__getattribute__" == Value.builtin "object.__getattribute__")=false:=by decide +kernel
 have hx1:(onTheHeap (Value.ref C)&&Value.builtin "BaseException.__getattribute__" == Value.builtin "object.__getattribute__")=false:=by rw [hx2];rfl
 have L0:=ty (M:=model prog w) hx hc;have L1:=looks_findIn (M:=model prog w) X k.ga;have L2:=looks_findIn (M:=model prog w) X k.gh
 repeat (any_goals (first | assumption | with_reducible refine Looks.at L0 ?_ | with_reducible refine Looks.at L1 ?_ | with_reducible refine Looks.at L2 ?_ | wp_step))
 refine codeAny_call_builtin F.excAttr_ValueError.ga.plain F.entry_bexc_ga (check_ X hx hc k (entry_ X hx hc k ?_))
 repeat (any_goals (first | assumption | wp_step))
theorem attr_{Q:Option Value->Shared->Prop}(X:K.In h)(hx:h.get? a=some o)(hc:o.cls = .ref C)(k:rV K C)(hq:Q (some (.ref C)) ⟨h,g,d,t+1,os⟩):wpAny (model prog w) A (getAttr? (.ref a) "__class__") Q E ⟨h,g,d,t,os⟩:=by
 unfold getAttr? getAttrBy?
 repeat (any_goals (first | assumption | with_reducible apply by_ X hx hc k | wp_step))
end
theorem kitx{K:Frag}{a C:Addr}(k:rV K C):KitX K (.ref a) (.ref C) (fun h=>∃ o,h.get? a=some o/\o.cls = .ref C) where
 ty:=fun M h X hZ=>(by obtain ⟨o,hx,hc⟩:=hZ;exact ty hx hc)
 it:=fun M h X _=>by
  have z:=k.cls;unfold clsIn at z
  split at z
  ·rename_i c' d' cd' sl' ho
   intro A' Q' E' s' k q;unfold isType loadHead;exact Cg (wpAny_loadPart (k _ _ (X _ _ ho)) (wpAny_pure q))
  ·cases z
 ne:=fun h tp dd its n sl X htp=>by
  have z:=k.cls
  refine Bool.eq_false_iff.mpr fun q=> ?_
  have e:C=tp:=Value.ref.inj (beq_iff_eq.mp q);subst e;unfold clsIn at z
  split at z
  ·rename_i c' d' cd' sl' ho
   have z:=(X _ _ ho).symm.trans htp;cases z
  ·cases z
 ca:=fun {prog w A E Q s} X p h=>by
  obtain ⟨hp,g,d,t,os⟩:=s;obtain ⟨o,hx,hc⟩:=p;exact attr_ X hx hc k h
end XK
namespace L2
open PySem PySem.Spec PyProof.Rows
section
variable{X:Cx}{e:Expr}{te:TE}{x:Str}{p1 p2 pos:Pos}
noncomputable def rIsx(K:E2):List V->Hp->VK->Prop:=fun xs H Q=>∃ ea C c u b,xs=[.ref ea,c]/\H ea=some (mG ea C)/\XK.rV K C/\aB c u/\PySem.W.kitOne K (.ref C) u=some b/\Q (.bl b) H
theorem rJ:aF X (.builtin "isinstance") (rIsx X.K):=by
 intro pins s σ H xs us Q I r h;obtain ⟨ea,C,c,u,b,rfl,hH,k,rc,e,q⟩:=h;obtain ⟨v,u',rfl,rv,ru⟩:=nJ r;cases rv
 have hu:u'=u:=by
  cases c with
  | ref a=>exact (show u' = .ref a from ru).trans (show u = .ref a from rc).symm
  | ty n=>exact (show u' = .type n from ru).trans (show u = .type n from rc).symm
  | non=>exact (show u' = .none from ru).trans (show u = .none from rc).symm
  | bl a=>exact (show u' = .bool a from ru).trans (show u = .bool a from rc).symm
  | int i=>exfalso;obtain ⟨t,rfl⟩:=rc;unfold PySem.W.kitOne PySem.W.kitCls at e;simp at e
  | str i=>exfalso;obtain ⟨t,rfl⟩:=rc;unfold PySem.W.kitOne PySem.W.kitCls at e;simp at e
  | byt i=>exfalso;obtain ⟨t,rfl⟩:=rc;unfold PySem.W.kitOne PySem.W.kitCls at e;simp at e
  | flt i=>exfalso;obtain ⟨t,rfl⟩:=rc;unfold PySem.W.kitOne PySem.W.kitCls at e;simp at e
 subst hu;have ho:∃ o,s.heap.get? ea=some o/\o.cls = .ref C:=(I.hok ea _ hH).1
 exact PySem.W.kia_one (XK.kitx k) I.kIn ho e (fun z=>nomatch z) fun tk=>⟨.bl b,H,I.tok tk,rfl,q⟩
end
section
variable{X:Cx}
theorem sG{elt tg iter:Expr}{ifs:List Expr}{sc:Scope}{M tgs:List Str}{pos:Pos}{wi:TI}{g:TG}{tt:TT}{te:TE}{j:Nat}{y:Str}{py spos:Pos}(hc:X.calm=true)(B:mX X sc M tgs)(hi:PI X tg iter wi)
 (hg:∀ cl C fp s H,PG (blk X sc cl C fp s H (M++tgs)) tg g) (ht:∀ cl C fp s H,wv (blk X sc cl C fp s H (M++tgs)) ifs tt) (he:∀ cl C fp s H,PE (blk X sc cl C fp s H (M++tgs)) elt te)
 (hN:X.N.Nodup) (hjy:X.N[j]?=some y) (hy:X.env.scope.names.lookup y=some .local) (hsw:swapsWith (.ListComp elt [⟨tg,iter,ifs,0⟩] sc pos) (some (.Name y py)) spos.line X.env=pure true:=by rfl)
 (hs:∀ x,foldedSetIterable iter X.env x=pure x:=by intro _;rfl):PS X (.Assign [.Name y py] (.ListComp elt [⟨tg,iter,ifs,0⟩] sc pos) spos) (dQ (qi wi tgs.length g tt te) (dD j)):=by
 intro pins s σ H Dn I h
 let Q:VK:=fun x H1=>Dn.nx (σ.set j (some x)) H1
 have h:qi wi tgs.length g tt te σ H Q:=h;rw [exec_Assign_Name_used _ _ _ _ hsw];refine Cg (wpAny_standAt (Cg ?_));refine Cg (Dy (oD (use:=some (assign (.Name y py) X.env)) (Qf:=fun _ s'=>SP X pins Dn .next s') hc B hi hg ht he hs I h fun C D m s6 H' I8 hn hC hLC hsz hcC hp q f=> ?_) (fun _ s' hq=>wpAny_pure (wpAny_pure hq)) fun _ _ e=>e)
 show wpAny _ _ (assign (.Name y py) X.env (.ref D)) _ _ _
 refine wpAny_assign_Name (nN I8 hN hjy (.inl hy) (v:= .ref D) rfl (fun s9 I9 hsb=> ?_) (.inr hy));obtain ⟨a,sb,ha⟩:=hsb
 have haC:C≠a:=by
  rcases ha with rfl | ha
  ·exact DW hLC
  ·exact Ne.symm (hcC _ _ ha)
 exact ⟨m,hn.sameBut sb haC,fun h' hs'=>⟨_,H',I9.turned (t':=s9.toks) (it:=C) (fun b o hb e=>(hs'.2 b hb).trans e) hC (DW hLC) (.inr hsz) hcC hp,q⟩⟩
end
section
variable{X:Cx}
noncomputable def ja(K:E2):List V->Hp->(V->Hp->Prop)->Prop:=fun xs H Q=>∃ (p:Addr) (ns:List Int),xs=[V.ref p]/\SqL K H p (ns.map V.int)/\ns.length < 64 /\
 ∀ l (ms:List Int),H l=none->List.Perm ms ns->ms.Pairwise (·<= ·)->Q (.ref l) (upd H l (.lst (ms.map V.int)))
theorem kB{us:List Value}{ns:List Int}(h:IntsAre us ns):aw (ns.map V.int) us:=by
 induction h with
 | nil=>exact .nil
 | cons a t _ ih=>exact .cons ⟨t,rfl⟩ ih
theorem pP:aF X (.builtin "sorted") (ja X.K):=by
 intro pins s σ H xs us Q I r h;obtain ⟨p,ns,rfl,hq,h64,q⟩:=h;obtain ⟨u,rfl,ru⟩:=cg r;cases ru;obtain ⟨its,rv,pl,hz⟩:=I.list hq;have hlen:=rv.length;rw [Ci] at hlen
 refine sorted_ints pl.isList (dj rv) (by omega) fun out ms hi hp hs=> ?_
 have hf:H (s.heap.objs.size+1)=none:=I.hok.fresh (Nat.le_succ _);obtain ⟨e,he⟩:=sortedAll_at s.heap its out;refine ⟨.ref (s.heap.objs.size+1),upd H (s.heap.objs.size+1) (.lst (ms.map V.int)),I.laid (t':=s.toks) (fun b o=>sortedAll_old) (Nat.le_succ _) ⟨?_,out.toList,e,kB hi,by simpa using he⟩,rfl,q _ _ hf hp hs⟩;rw [Ci,hp.length_eq]
 rwa [Ci] at hz
noncomputable def lT:List V->Hp->(V->Hp->Prop)->Prop:=fun xs H Q=>∃ (p:Addr) (lo hi:Int),xs=[V.ref p]/\H p=some (.rng lo hi) /\ -(2 ^ 62)<=lo/\lo < 2 ^ 62 /\ -(2 ^ 62)<=hi/\hi < 2 ^ 62/\(hi - lo).toNat<=1000 /\
 ∀ l,H l=none->Q (.ref l) (upd H l (.lst ((List.range (hi - lo).toNat).map fun k=>V.int (lo+(k:Nat)))))
theorem gD:∀ {xs:List V} {us:List Value},xs.length=us.length->(∀ (i:Nat) (x:V) (u:Value),xs[i]?=some x->us[i]?=some u->aB x u)->aw xs us
 | [],[],_,_=> .nil
 | x::xs,u::us,h,q=> .cons (q 0 x u rfl rfl) (gD (by simpa using h) fun i x' u' h1 h2=>q (i+1) x' u' (by simpa using h1) (by simpa using h2))
 | [],_::_,h,_=>by simp at h
 | _::_,[],h,_=>by simp at h
theorem tU(hc:X.calm=true):aF X (.type "list") lT:=by
 intro pins s σ H xs us Q I r h;obtain ⟨p,lo,hi,rfl,hp,h1,h2,h3,h4,hn,q⟩:=h;obtain ⟨u,rfl,ru⟩:=cg r;cases ru;obtain ⟨t,u,v,e⟩:=(show bH X.prog X.w H s.heap p (.rng lo hi) from I.hok p _ hp)
 have hsz:Builtin.Range.rangeSize lo hi 1=((hi - lo).toNat:Nat):=by rw [rangeSize_one];split<;>omega
 refine call_list_range (n:=(hi - lo).toNat) (I.ok.hd hc) (show IsRange s.heap p lo hi 1 t u v from e) (small_one h1 h2 h3 h4) hsz (by omega) fun h' tk acc c hk hS hacc=> ?_
 have hf:H s.heap.objs.size=none:=I.hok.fresh (Cw _);refine ⟨.ref s.heap.objs.size,_,I.laid (o:= .lst ((List.range (hi - lo).toNat).map fun k=>V.int (lo+(k:Nat)))) hk (Cw _) ⟨?_,acc.toList,c,gD ?_ ?_,by simpa using hS⟩,rfl,q _ hf⟩
 ·rw [Ci,DM];exact DX (eA hn)
 ·rw [Ci,DM,Da,hacc.1]
 ·intro i x w hx hw
  rw [CG] at hx;obtain ⟨k,hk',rfl⟩:=De.mp hx
  have ek:i=k:=by
   rw [Cv] at hk';obtain ⟨z,e⟩:=hk';simpa using e
  subst ek;obtain ⟨t',rfl⟩:=hacc.2 i w (by simpa using hw);refine ⟨t',?_⟩;rw [Int.mul_one]
end
end L2
namespace St2
open PySem PyProof.Rows
abbrev eL(ns:List Int)(k:Nat):List Int:=firstMet (fun j=>ns.getD j 0) k
abbrev gU(led:Bool):Obj:={ cls:= .type "set",dict:=none,data:= .set #[] 0 (.fresh 0 0 led) }
section
variable{prog:Program}{w:World}{A:Around}{E:Value->Shared->Prop}{s:Shared}
theorem u7{a:Addr}{its:Array Value}{ns:List Int}{Q:Value->Shared->Prop}(calm:A.handled=none)(tu:IsTup s.heap a its)(inz:IntsAre its.toList ns)(few:its.size+1 < scanBound)
 (q:∀ (h':Heap) (tk:Nat),h'.SetOf (intKind prog w) s.heap.objs.size (fun x=>(eL ns its.size).any (·== x)) (eL ns its.size).length->(∀ b o,b < s.heap.objs.size->s.heap.get? b=some o->h'.get? b=some o)->Q (.ref s.heap.objs.size) { s with heap:=h',toks:=tk }) :
 wpAny (model prog w) A (call (.type "set") [.ref a]) Q E s:=by
 obtain ⟨c0,tl0,mro0⟩:=F.called_set.mro;have m1:=F.called_set.made;have m2:=F.called_set.sub;have m3:=F.called_set.notType;have m4:=F.called_set.canCreate;have m5:=F.typeCall_set_1 (.ref a);refine wpAny_call (codeAny_of_tree ?_)
 show wpAny _ _ (callAny (.type "set") _) _ _ _
 refine wpAny_pure ⟨Code.quiet_builtin _ (by decide +kernel),codeAny_builtin F.entry_type_call ?_⟩;rw [Around.under_plain (weight_type_call_type "set" [.ref a] []) rfl]
 repeat (any_goals (first | assumption | wp_step))
 refine codeAny_mono (code_set_new_1 (.ref a) (E:=E) (Q₁:=fun ob t1=>∃ led:Bool,ob = .ref s.heap.objs.size/\t1={ s with heap:=s.heap.push (gU led) }) fun led=>⟨led,rfl,rfl⟩) fun res t1 hres=> ?_
 cases res with
 | error x=>exact hres
 | ok fl =>
  cases fl with
  | next=>exact hres.elim
  | brk=>exact hres.elim
  | cont=>exact hres.elim
  | ret ob =>
   obtain ⟨led,rfl,rfl⟩:=hres;have atS:(s.heap.push (gU led)).get? s.heap.objs.size=some (gU led):=Ct _ rfl;have tyS:Shared.TypeIs { s with heap:=s.heap.push (gU led) } (.ref s.heap.objs.size) "set" := ⟨_,atS,rfl⟩;have i1:=F.called_set.init.lookup;have i2:=F.called_set.init.bind (.ref s.heap.objs.size)
   repeat (any_goals (first | assumption | wp_step))
   refine codeAny_mono (codeAny_call_builtin (R:=wants (fun r t2=>r = .none/\∃ h' tk,t2={ s with heap:=h',toks:=tk }/\h'.SetOf (intKind prog w) s.heap.objs.size (fun x=>(eL ns its.size).any (·== x)) (eL ns its.size).length /\
    (∀ b o,b < s.heap.objs.size->s.heap.get? b=some o->h'.get? b=some o)) E) F.called_set.init.plain F.entry_set_init (check_set_init_1 tyS ?_)) fun r2 t2 hr2=> ?_
   ·obtain ⟨⟨k1,k2,k3,k4⟩,e0,e1,n0,e2⟩:=id tu
    simp only at e1 e2;subst e1 e2;have e0':(s.heap.push (gU led)).get? a=some ⟨.type "tuple",k2,.seq its n0,k4⟩:=Cj _ e0;have j1:=F.sub_tuple_set;have j2:=F.sub_tuple_frozenset
    have j3:(Value.type "tuple" == Value.type "dict")=false:=by decide
    have tu1:IsTup (s.heap.push (gU led)) a its:=⟨_,e0',rfl,n0,rfl⟩;unfold Builtin.«set.__init__» noKeywords Builtin.Frozenset.updateFrom
    generalize hPy:pyIter=PY
    wp_walk
    subst hPy;refine Dg (show (s.heap.push (gU led)).IsTuple a its from tu1) ?_;refine Cg (EW ?_);have lt:a < s.heap.objs.size:=Cu e0
    have calm3:A.in1.in1.in1.handled=none:=by simp [calm]
    have ne1:a≠(s.heap.push (gU led)).objs.size:=by rw [C5];exact CJ (DL lt)
    have out:s.heap.objs.size∉[(s.heap.push (gU led)).objs.size,a]:=by
     rw [C5];simp only [Cr,Dz,or_false,not_or];exact ⟨CJ (Em _),DW lt⟩
    refine codeAny_set_update_loopS ((Walks.tuple calm3 _ a ne1 its).toS) s.heap.objs.size out (fun j=>ns.getD j 0) (fun i v hv=>IntsAre.int_at inz i v (by rw [DF];exact hv)) few (its.size - 0) 0 _ (by omega) (ED _) ⟨⟨_,Ct _ rfl,rfl,rfl⟩,?T⟩ ?S ?R
    case T=>exact ⟨_,Cj _ e0',rfl,n0,rfl⟩
    case S=>exact SetOf_congr ((setObjOf_fresh (knd:=intKind prog w) led).setOf (Cj _ atS) (by unfold scanBound;omega)) (fun _=>rfl) rfl
    case R =>
     rintro ⟨h',g',d',tk',os'⟩ mv st;have w1:g'=s.gens:=mv.gens;have w2:d'=s.drawn:=mv.drawn;have w3:os'=s.os:=mv.os;subst w1 w2 w3;refine wpAny_pure ?_
     show wpAny _ _ (ret Value.none) _ _ _
     refine wpAny_pure ⟨rfl,h',tk',rfl,st,fun b o lb e=>mv.heap b o ?_ (Cj _ (Cj _ e))⟩;rw [C5];simp only [Cr,Dz,or_false,not_or];exact ⟨CJ lb,CJ (DL lb)⟩
   ·cases r2 with
    | error x=>exact hr2
    | ok f2 =>
     cases f2 with
     | ret r =>
      obtain ⟨rfl,h',tk,rfl,st,kp⟩:=hr2
      repeat (any_goals (first | assumption | wp_step))
      exact q _ _ st kp
     | next=>exact hr2.elim
     | brk=>exact hr2.elim
     | cont=>exact hr2.elim
end
end St2
namespace L2
open PySem PySem.Spec PyProof.Rows
section
variable{X:Cx}
noncomputable def uo:List V->Hp->VK->Prop:=fun xs H Q=>∃ (p:Addr) (S:Int->Bool) (n:Nat),xs=[V.ref p]/\H p=some (.set S n)/\n<=1000/\Q (.int (n:Nat)) H
theorem rH:aF X (.builtin "len") uo:=by
 intro pins s σ H xs us Q I r h;obtain ⟨p,S,n,rfl,hp,hn,q⟩:=h;obtain ⟨u,rfl,ru⟩:=cg r;cases ru;obtain ⟨o,es,ep,t,ho,ex,hd,_,_,_,hf,rfl⟩:=(show s.heap.SetOf (intKind X.prog X.w) p S n from I.hok p _ hp);exact call_len_set ho ex hd hf (by omega) ⟨.int (es.size:Nat),H,I.tok _,⟨_,rfl⟩,q⟩
end
end L2
namespace St2
open PySem PyProof.Rows
theorem qd(ns:List Int):∀ i,i<=ns.length->(List.range i).map (fun j=>ns.getD j 0)=ns.take i
 | 0,_=>rfl
 | i+1,h=>by
  have hi:i < ns.length:=by omega
  rw [List.range_succ,CU,qd ns i (by omega),List.take_add_one,Ch hi];simp [hi]
end St2
namespace Tr2
open PySem PyProof.Rows
section
variable{prog:Program}{w:World}{A:Around}{E:Value->Shared->Prop}{s:Shared}
theorem Bg{R:Result->Shared->Prop}{r:Addr}{a b:Int}{t u v:Tok}{k:Nat}(calm:A.handled=none)(rg:IsRange s.heap r a b 1 t u v)(sm:Builtin.Range.small a b 1=true)(sz:Builtin.Range.rangeSize a b 1=k)(few:k<=1000)
 (q:∀ (h':Heap) (tk:Nat) (acc:Array Value) (c0:Nat),(∀ x o,s.heap.get? x=some o->h'.get? x=some o)->h'.get? s.heap.objs.size=some { cls:= .type "list",dict:=none,data:= .seq acc c0,slots := #[] }->ItemsOf (fun i v=>∃ t,v = .int (a+i * 1) t) acc k->R (.ok (.ret (.ref s.heap.objs.size))) { s with heap:=h',toks:=tk }) :
 codeAny (model prog w) A (.builtin "proto.collect" ⟨[.ref r],[]⟩) R s:=by
 refine (codeAny_builtin PySem.F.entry_proto_collect ?_);rw [(Around.under_plainId PySem.F.plain_proto_collect _)]
 show wpAny _ A.in1 (newList [] >>= fun l=>again (.builtin "list.__iadd__" ⟨[l,.ref r],[]⟩)) (_) _ s
 refine Cg (CW (wpAny_pure ⟨plainId_quiet PySem.F.plain_list_iadd _,codeAny_builtin PySem.F.entry_list_iadd ?_⟩));rw [(Around.under_plainId PySem.F.plain_list_iadd _)];have at_:(s.heap.push { cls:= .type "list",data:= .seq ([]:List Value).toArray }).get? s.heap.objs.size=some { cls:= .type "list",data:= .seq #[] 0 }:=Ct _ rfl
 show wpAny _ A.in1 (Builtin.List.listExtendWith (.ref s.heap.objs.size) (.ref r) (.ref s.heap.objs.size)) (_) _ _
 exact wpAny_extend_range (A:=A) (R:=R) (s:={ s with heap:=s.heap.push { cls:= .type "list",data:= .seq ([]:List Value).toArray } }) calm (Cj _ rg) sm sz (by omega) s.heap.objs.size (.ref s.heap.objs.size) 0 at_ fun h' tk acc c0 kp hS it =>
  q h' tk acc c0 (fun x o e=>kp x o (CJ (Cu e)) (Cj _ e)) hS it
theorem gather{Q:List Value->Shared->Prop}{r:Addr}{a b:Int}{t u v:Tok}{k:Nat}(calm:A.handled=none)(rg:IsRange s.heap r a b 1 t u v)(sm:Builtin.Range.small a b 1=true)(sz:Builtin.Range.rangeSize a b 1=k)(few:k<=1000)
 (q:∀ (h':Heap) (tk:Nat) (acc:Array Value),s.heap.objs.size < h'.objs.size->(∀ x o,s.heap.get? x=some o->h'.get? x=some o)->ItemsOf (fun i v=>∃ t,v = .int (a+i * 1) t) acc k->Q acc.toList { s with heap:=h',toks:=tk }):wpAny (model prog w) A (collect (.ref r)) Q E s:=by
 unfold collect;refine Cg (EW (Bg calm rg sm sz few fun h' tk acc c0 kp hS it=> ?_))
 show wpAny _ A (load s.heap.objs.size >>= _) (_) _ _
 refine Cg (wpAny_load hS ?_);exact wpAny_pure (q h' tk acc (Cu hS) kp it)
theorem made{r:Addr}{a b:Int}{t u v:Tok}{k:Nat}(sm:Builtin.Range.small a b 1=true)(sz:Builtin.Range.rangeSize a b 1=k)(few:k<=1000):Meets (Builtin.«tuple.__new__» ⟨[.type "tuple",.ref r],[]⟩)
 (fun A R s=>A.handled=none/\IsRange s.heap r a b 1 t u v/\∀ (h':Heap) (tk:Nat) (acc:Array Value),s.heap.objs.size < h'.objs.size->(∀ x o,s.heap.get? x=some o->h'.get? x=some o)->ItemsOf (fun i v=>∃ t,v = .int (a+i * 1) t) acc k->R (.ok (.ret (.ref h'.objs.size))) { s with heap:=h'.push { cls:= .type "tuple",data:= .seq acc },toks:=tk }) :=
 .of_wp fun prog w A R s h=>by
  obtain ⟨calm,rg,h⟩:=h;have f1:=sub_tuple_self;have f2:=init_tuple_lookup;have f3:=madeHere_tuple;have ty:s.TypeIs (.ref r) "range" := ⟨_,rg,rfl⟩;have calm1:A.in1.handled=none:=calm
  wp_walk using ET ty,gather calm1 rg sm sz few
  intro h' tk acc lz kp it
  show wpAny _ _ (Builtin.Tuple.tupleExact acc.toList.toArray >>= fun v=>ret v) (_) _ _
  unfold Builtin.Tuple.tupleExact;refine (Cg (CW ?_ (show acc.toList.toArray.size<=sizeLine by simp only [Array.toArray_toList];rw [it.1,sizeLine_eq];omega)));refine wpAny_pure ⟨_,rfl,?_⟩;rw [show acc.toList.toArray=acc by simp];exact h h' tk acc lz kp it
theorem qb{Q:Value->Shared->Prop}{r:Addr}{a b:Int}{t u v:Tok}{k:Nat}(calm:A.handled=none)(rg:IsRange s.heap r a b 1 t u v)(sm:Builtin.Range.small a b 1=true)(sz:Builtin.Range.rangeSize a b 1=k)(few:k<=1000)
 (q:∀ (h':Heap) (tk:Nat) (acc:Array Value),s.heap.objs.size < h'.objs.size->(∀ x o,s.heap.get? x=some o->h'.get? x=some o)->ItemsOf (fun i v=>∃ t,v = .int (a+i * 1) t) acc k->Q (.ref h'.objs.size) { s with heap:=h'.push { cls:= .type "tuple",data:= .seq acc },toks:=tk }):wpAny (model prog w) A (call (.type "tuple") [.ref r]) Q E s :=
 callType_new PySem.F.called_tuple (by decide) (PySem.F.typeCall_tuple_1 _) (PySem.F.newCall_tuple_1 _) (fun obj=>PySem.F.args_object_init_2 obj _) PySem.F.entry_tuple_new (made sm sz few) ⟨calm,rg,fun h' tk acc lz kp it=>⟨⟨_,Ct _ rfl,rfl⟩,q h' tk acc lz kp it⟩⟩
end
end Tr2
namespace L2
open PySem PySem.Spec PyProof.Rows
section
variable{X:Cx}
theorem op_isB:OpR X (compareOp .Is) (fun x y H Q=>∃ a b,x = .bl a/\y = .bl b/\Q (.bl (a == b)) H):=by
 intro pins s σ H x y v u Q I rx ry h;obtain ⟨a,b,rfl,rfl,q⟩:=h;cases rx;cases ry;exact is_bool ⟨.bl (a == b),H,I,rfl,q⟩
theorem vw:OpR X (compareOp .IsNot) (fun x y H Q=>∃ a b,x = .bl a/\y = .bl b/\Q (.bl (a != b)) H):=by
 intro pins s σ H x y v u Q I rx ry h;obtain ⟨a,b,rfl,rfl,q⟩:=h;cases rx;cases ry;exact isnot_bool ⟨.bl (a != b),H,I,rfl,q⟩
noncomputable def w8:List V->Hp->VK->Prop:=fun xs H Q=>∃ (p:Addr) (lo hi:Int),xs=[V.ref p]/\H p=some (.rng lo hi) /\ -(2 ^ 62)<=lo/\lo < 2 ^ 62 /\ -(2 ^ 62)<=hi/\hi < 2 ^ 62/\(hi - lo).toNat<=1000 /\
 ∀ l,H l=none->Q (.ref l) (upd H l (.tup ((List.range (hi - lo).toNat).map fun k=>V.int (lo+(k:Nat)))))
theorem vX(hc:X.calm=true):aF X (.type "tuple") w8:=by
 intro pins s σ H xs us Q I r h;obtain ⟨p,lo,hi,rfl,hp,h1,h2,h3,h4,hn,q⟩:=h;obtain ⟨u,rfl,ru⟩:=cg r;cases ru;obtain ⟨t,u,v,e⟩:=(show bH X.prog X.w H s.heap p (.rng lo hi) from I.hok p _ hp)
 have hsz:Builtin.Range.rangeSize lo hi 1=((hi - lo).toNat:Nat):=by rw [rangeSize_one];split<;>omega
 refine Tr2.qb (k:=(hi - lo).toNat) (I.ok.hd hc) (show IsRange s.heap p lo hi 1 t u v from e) (small_one h1 h2 h3 h4) hsz hn fun h' tk acc lz kp it=> ?_
 have ge:s.heap.objs.size<=h'.objs.size:=DX lz;have hf:H h'.objs.size=none:=I.hok.fresh ge;refine ⟨.ref h'.objs.size,_,I.laid (o:= .tup ((List.range (hi - lo).toNat).map fun k=>V.int (lo+(k:Nat)))) (fun b o z=>Cj _ (kp b o z)) ge ⟨?_,acc.toList,gD ?_ ?_,⟨_,Ct _ rfl,rfl,_,rfl⟩⟩,rfl,q _ hf⟩
 ·rw [Ci,DM];exact DX (eA hn)
 ·rw [Ci,DM,Da,it.1]
 ·intro i x w hx hw
  rw [CG] at hx;obtain ⟨k,hk',rfl⟩:=De.mp hx
  have ek:i=k:=by
   rw [Cv] at hk';obtain ⟨z,e⟩:=hk';simpa using e
  subst ek;obtain ⟨t',rfl⟩:=it.2 i w (by simpa using hw);refine ⟨t',?_⟩;rw [Int.mul_one]
end
section
variable{X:Cx}
end
section
variable{X:Cx}
end
theorem fc:∀ {ns:List Int} {us:List Value},aw (ns.map V.int) us->∃ ps:List (Int×Tok),us=ps.map (fun p=>Value.int p.1 p.2)/\ps.map (·.1)=ns
 | [],_,.nil=>⟨[],rfl,rfl⟩
 | n::ns,_,.cons r1 r2=>by
  obtain ⟨t,rfl⟩:=r1;obtain ⟨ps,rfl,e⟩:=fc r2;exact ⟨(n,t)::ps,rfl,by rw [CF,e]⟩
theorem cM{ps:List (Int×Tok)}{ns:List Int}(e:ps.map (·.1)=ns){i:Nat}(h:i < ns.length):numAt ps.toArray i=ns[i]:=by
 subst e;rw [Ci] at h;unfold numAt;simp [h]
section
variable{X:Cx}
noncomputable def qx(K:E2):List V->Hp->(V->Hp->Prop)->Prop:=fun xs H Q=>∃ (p:Addr) (ns:List Int),xs=[V.ref p]/\SqL K H p (ns.map V.int)/\ns≠[]/\∀ M,M∈ns->(∀ a∈ns,a<=M)->Q (.int M) H
noncomputable def qw(K:E2):List V->Hp->(V->Hp->Prop)->Prop:=fun xs H Q=>∃ (p:Addr) (ns:List Int),xs=[V.ref p]/\SqL K H p (ns.map V.int)/\ns≠[]/\∀ M,M∈ns->(∀ a∈ns,M<=a)->Q (.int M) H
theorem v8(hc:X.calm=true):aF X (.builtin "max") (qx X.K):=by
 intro pins s σ H xs us Q I r h;obtain ⟨p,ns,rfl,hq,ne,q⟩:=h;obtain ⟨u,rfl,ru⟩:=cg r;cases ru;obtain ⟨its,rv,pl,hz⟩:=I.list hq;obtain ⟨ps,rfl,e⟩:=fc rv
 have lp:ps.length=ns.length:=by rw [<- e,Ci]
 have n0:0 < ns.length:=C4.mpr ne
 have ei:intItems ps.toArray=(ps.map fun p=>Value.int p.1 p.2).toArray:=by unfold intItems;simp
 obtain ⟨b1,b2⟩:=argBest_gt (numAt ps.toArray) (ps.toArray.size - 1)
 have sz:ps.toArray.size=ns.length:=by simp [lp]
 refine max_intList (xs:=ps.toArray) (I.ok.hd hc) (by rw [ei];exact pl.isList) (by rw [sz];exact n0) fun v h' tk hv k=> ?_
 obtain ⟨t,rfl⟩:=intItems_at hv;rw [sz] at b1 b2 ⊢;refine ⟨.int _,H,I.kept k,⟨t,rfl⟩,q _ ?_ fun a ha=> ?_⟩
 ·rw [cM e (by omega)]
  exact CT _
 ·obtain ⟨j,hj,rfl⟩:=Eo ha
  have:=b2 j (by omega);rw [cM e hj] at this;exact this
theorem v3(hc:X.calm=true):aF X (.builtin "min") (qw X.K):=by
 intro pins s σ H xs us Q I r h;obtain ⟨p,ns,rfl,hq,ne,q⟩:=h;obtain ⟨u,rfl,ru⟩:=cg r;cases ru;obtain ⟨its,rv,pl,hz⟩:=I.list hq;obtain ⟨ps,rfl,e⟩:=fc rv
 have lp:ps.length=ns.length:=by rw [<- e,Ci]
 have n0:0 < ns.length:=C4.mpr ne
 have ei:intItems ps.toArray=(ps.map fun p=>Value.int p.1 p.2).toArray:=by unfold intItems;simp
 obtain ⟨b1,b2⟩:=argBest_lt (numAt ps.toArray) (ps.toArray.size - 1)
 have sz:ps.toArray.size=ns.length:=by simp [lp]
 refine min_intList (xs:=ps.toArray) (I.ok.hd hc) (by rw [ei];exact pl.isList) (by rw [sz];exact n0) fun v h' tk hv k=> ?_
 obtain ⟨t,rfl⟩:=intItems_at hv;rw [sz] at b1 b2 ⊢;refine ⟨.int _,H,I.kept k,⟨t,rfl⟩,q _ ?_ fun a ha=> ?_⟩
 ·rw [cM e (by omega)]
  exact CT _
 ·obtain ⟨j,hj,rfl⟩:=Eo ha
  have:=b2 j (by omega);rw [cM e hj] at this;exact this
end
section
variable{X:Cx}
end
end L2
namespace ZpT
open PySem PySem.Spec PyProof.Rows
section
variable{prog:Program}{w:World}{A:Around}{E:Value->Shared->Prop}{s:Shared}
end
open AutoSeq1 (wpAny_loadPart')
section
variable{prog:Program}{w:World}{A:Around}{E:Value->Shared->Prop}{s:Shared}
end
end ZpT
namespace L2
open PySem PySem.Spec PyProof.Rows
section
variable{X:Cx}
end
end L2
namespace St2
open PySem PySem.Spec PyProof.Rows
section
variable{prog:Program}{w:World}{A:Around}{E:Value->Shared->Prop}{s:Shared}
theorem fk{a:Addr}{its:Array Value}{ns:List Int}{Q:Value->Shared->Prop}(calm:A.handled=none)(tu:s.heap.IsList a its)(inz:IntsAre its.toList ns)(few:its.size+1 < scanBound)
 (q:∀ (h':Heap) (tk:Nat),h'.SetOf (intKind prog w) s.heap.objs.size (fun x=>(eL ns its.size).any (·== x)) (eL ns its.size).length->(∀ b o,b < s.heap.objs.size->s.heap.get? b=some o->h'.get? b=some o)->Q (.ref s.heap.objs.size) { s with heap:=h',toks:=tk }) :
 wpAny (model prog w) A (call (.type "set") [.ref a]) Q E s:=by
 obtain ⟨c0,tl0,mro0⟩:=F.called_set.mro;have m1:=F.called_set.made;have m2:=F.called_set.sub;have m3:=F.called_set.notType;have m4:=F.called_set.canCreate;have m5:=F.typeCall_set_1 (.ref a);refine wpAny_call (codeAny_of_tree ?_)
 show wpAny _ _ (callAny (.type "set") _) _ _ _
 refine wpAny_pure ⟨Code.quiet_builtin _ (by decide +kernel),codeAny_builtin F.entry_type_call ?_⟩;rw [Around.under_plain (weight_type_call_type "set" [.ref a] []) rfl]
 repeat (any_goals (first | assumption | wp_step))
 refine codeAny_mono (code_set_new_1 (.ref a) (E:=E) (Q₁:=fun ob t1=>∃ led:Bool,ob = .ref s.heap.objs.size/\t1={ s with heap:=s.heap.push (gU led) }) fun led=>⟨led,rfl,rfl⟩) fun res t1 hres=> ?_
 cases res with
 | error x=>exact hres
 | ok fl =>
  cases fl with
  | next=>exact hres.elim
  | brk=>exact hres.elim
  | cont=>exact hres.elim
  | ret ob =>
   obtain ⟨led,rfl,rfl⟩:=hres;have atS:(s.heap.push (gU led)).get? s.heap.objs.size=some (gU led):=Ct _ rfl;have tyS:Shared.TypeIs { s with heap:=s.heap.push (gU led) } (.ref s.heap.objs.size) "set" := ⟨_,atS,rfl⟩;have i1:=F.called_set.init.lookup;have i2:=F.called_set.init.bind (.ref s.heap.objs.size)
   repeat (any_goals (first | assumption | wp_step))
   refine codeAny_mono (codeAny_call_builtin (R:=wants (fun r t2=>r = .none/\∃ h' tk,t2={ s with heap:=h',toks:=tk }/\h'.SetOf (intKind prog w) s.heap.objs.size (fun x=>(eL ns its.size).any (·== x)) (eL ns its.size).length /\
    (∀ b o,b < s.heap.objs.size->s.heap.get? b=some o->h'.get? b=some o)) E) F.called_set.init.plain F.entry_set_init (check_set_init_1 tyS ?_)) fun r2 t2 hr2=> ?_
   ·obtain ⟨⟨k1,k2,k3,k4⟩,e0,e1,n0,e2⟩:=id tu
    simp only at e1 e2;subst e1 e2;have e0':(s.heap.push (gU led)).get? a=some ⟨.type "list",k2,.seq its n0,k4⟩:=Cj _ e0;have j1:=F.sub_list_set;have j2:=F.sub_list_frozenset
    have j3:(Value.type "list" == Value.type "dict")=false:=by decide
    have tu1:(s.heap.push (gU led)).IsList a its:=⟨_,e0',rfl,n0,rfl⟩;unfold Builtin.«set.__init__» noKeywords Builtin.Frozenset.updateFrom
    generalize hPy:pyIter=PY
    wp_walk
    subst hPy;refine DT tu1 ?_;refine Cg (EW ?_);have lt:a < s.heap.objs.size:=Cu e0
    have calm3:A.in1.in1.in1.handled=none:=by simp [calm]
    have ne1:a≠(s.heap.push (gU led)).objs.size:=by rw [C5];exact CJ (DL lt)
    have out:s.heap.objs.size∉[(s.heap.push (gU led)).objs.size,a]:=by
     rw [C5];simp only [Cr,Dz,or_false,not_or];exact ⟨CJ (Em _),DW lt⟩
    refine codeAny_set_update_loopS ((Walks.list calm3 _ a ne1 its).toS) s.heap.objs.size out (fun j=>ns.getD j 0) (fun i v hv=>IntsAre.int_at inz i v (by rw [DF];exact hv)) few (its.size - 0) 0 _ (by omega) (ED _) ⟨⟨_,Ct _ rfl,rfl,rfl⟩,?T⟩ ?S ?R
    case T=>exact ⟨_,Cj _ e0',rfl,n0,rfl⟩
    case S=>exact SetOf_congr ((setObjOf_fresh (knd:=intKind prog w) led).setOf (Cj _ atS) (by unfold scanBound;omega)) (fun _=>rfl) rfl
    case R =>
     rintro ⟨h',g',d',tk',os'⟩ mv st;have w1:g'=s.gens:=mv.gens;have w2:d'=s.drawn:=mv.drawn;have w3:os'=s.os:=mv.os;subst w1 w2 w3;refine wpAny_pure ?_
     show wpAny _ _ (ret Value.none) _ _ _
     refine wpAny_pure ⟨rfl,h',tk',rfl,st,fun b o lb e=>mv.heap b o ?_ (Cj _ (Cj _ e))⟩;rw [C5];simp only [Cr,Dz,or_false,not_or];exact ⟨CJ lb,CJ (DL lb)⟩
   ·cases r2 with
    | error x=>exact hr2
    | ok f2 =>
     cases f2 with
     | ret r =>
      obtain ⟨rfl,h',tk,rfl,st,kp⟩:=hr2
      repeat (any_goals (first | assumption | wp_step))
      exact q _ _ st kp
     | next=>exact hr2.elim
     | brk=>exact hr2.elim
     | cont=>exact hr2.elim
theorem nB{l:Addr}{vs:List Value}{Q:List Value->Shared->Prop}(hl:s.heap.IsTuple l vs.toArray)
 (h:Q vs { s with heap:=(s.heap.push (seqObj "list" #[] 0)).update s.heap.objs.size (Obj.mapSeq (·++ vs.toArray)) }) (hz:vs.length<=sizeLine):wpAny (model prog w) A (collect (.ref l)) Q E s:=by
 unfold collect;refine Cg (EW (codeAny_builtin F.entry_proto_collect ?_));unfold Builtin.«proto.collect»
 show wpAny _ _ (newList [] >>= _) _ _ _
 refine Cg (EK ?_ (by simp));refine wpAny_pure ⟨Code.quiet_builtin _ (by decide +kernel),codeAny_builtin F.entry_list_iadd ?_⟩;obtain ⟨o,ho,hc,n,hd⟩:=id hl;have ho':(s.heap.push { cls:=Value.type "list",data:=Data.seq #[] }).get? l=some o:=Cj _ ho;have hn:(s.heap.push { cls:=Value.type "list",data:=Data.seq #[] }).get? s.heap.objs.size=some { cls:=Value.type "list",data:=Data.seq #[] }:=Ct _ rfl;have hT:Shared.TypeIs { s with heap:=s.heap.push { cls:=Value.type "list",data:=Data.seq #[] } } (.ref l) "tuple" := ⟨o,ho',hc⟩
 show wpAny _ _ (Builtin.List.listExtendWith (.ref s.heap.objs.size) (.ref l) (.ref s.heap.objs.size)) _ _ _
 unfold Builtin.List.listExtendWith;refine Cg (ET hT ?_)
 have hb:(Builtin.List.listSameRef (.ref s.heap.objs.size) (.ref l)||Value.type "tuple" == Value.type "list" || Value.type "tuple" == Value.type "tuple")=true:=by
  rw [show (Value.type "tuple" == Value.type "tuple")=true by decide,Es]
 rw [if_pos hb];refine Cg (listItems_at ho' hd (Cg (listItems_at hn rfl ?_)))
 show wpAny _ _ (Builtin.List.listUpdate (.ref s.heap.objs.size) (fun x=>x++vs.toArray) >>= _) _ _ _
 refine Cg (listUpdate_at hn rfl ?_ (by simp) (by simp;omega));refine wpAny_pure ?_;have e:=Dp (Obj.mapSeq (·++ vs.toArray)) hn rfl
 show wpAny _ _ (load s.heap.objs.size >>= _) _ _ _
 refine Cg (wpAny_load e ?_)
 show wpAny _ _ (pure (#[]++vs.toArray).toList) _ _ _
 refine wpAny_pure ?_;simpa using h
end
end St2
namespace L2
open PySem PySem.Spec PyProof.Rows
section
variable{X:Cx}
noncomputable def iZ(K:E2):List V->Hp->(V->Hp->Prop)->Prop:=fun xs H Q=>∃ (p:Addr) (ns:List Int),xs=[V.ref p]/\SqT K H p (ns.map V.int)/\ns.length < 64 /\
 ∀ l (ms:List Int),H l=none->List.Perm ms ns->ms.Pairwise (·<= ·)->Q (.ref l) (upd H l (.lst (ms.map V.int)))
theorem pO:aF X (.builtin "sorted") (iZ X.K):=by
 intro pins s σ H xs us Q I r h;obtain ⟨p,ns,rfl,hq,h64,q⟩:=h;obtain ⟨u,rfl,ru⟩:=cg r;cases ru;obtain ⟨its,rv,pl,hz⟩:=I.tuple hq;have hlen:=rv.length;rw [Ci] at hlen;refine Calls.call_function_entry kind_sorted plain_sorted entry_sorted (args_sorted1 _) ?_;unfold Builtin.«sorted»;refine Cg (m:=checkCount "sorted" 1 1 _) (wpAny_pure ?_);have lsz:sizeLine=16777216:=sizeLine_eq;refine Cg (St2.nB (show s.heap.IsTuple p its.toArray from pl) (Cg (EK ?_ (by omega))) (by omega))
 generalize hh1:(s.heap.push (seqObj "list" #[] 0)).update s.heap.objs.size (Obj.mapSeq (·++ its.toArray))=h1
 have hsz:h1.objs.size=s.heap.objs.size+1:=by rw [<- hh1,Heap.size_update,size_push']
 have k1:∀ b o,s.heap.get? b=some o->h1.get? b=some o:=fun b o q=>by
  rw [<- hh1];exact (Ed _ _ (Ne.symm (CJ (Cu q)))).trans (Cj _ q)
 show wpAny _ _ _ _ _ { s with heap:=h1.push (seqObj "list" its.toArray 0) }
 have oL:(h1.push (seqObj "list" its.toArray 0)).get? h1.objs.size=some (seqObj "list" its.toArray 0):=Ct _ rfl;refine Cg (DC (C6 slot_list_sort ⟨_,oL,rfl⟩ entry_list_sort (list_sort_tree oL (dj rv) (by omega) fun out ms hi hp hs=>⟨_,rfl,?_⟩) (args_list_sort _)))
 have hle:s.heap.objs.size<=h1.objs.size:=by rw [hsz];exact Nat.le_succ _
 have hf:H h1.objs.size=none:=I.hok.fresh hle;obtain ⟨e,he⟩:=sortedHeap_at (out:=out) oL;refine wpAny_pure ⟨_,rfl,.ref h1.objs.size,upd H h1.objs.size (.lst (ms.map V.int)),I.laid (t':=s.toks) (fun b o q=> ?_) hle ⟨?_,out.toList,e,kB hi,by simpa using he⟩,rfl,q _ _ hf hp hs⟩
 ·have lb:=Cu (k1 b o q)
  rw [sortedHeap_old (CJ lb) (by rw [C5];exact DL lb)];exact Cj _ (k1 b o q)
 ·rw [Ci,hp.length_eq]
  rwa [Ci] at hz
end
section
variable{X:Cx}
theorem rh(l:Addr)(items:Array Value)(n:Nat)(b:Addr)(items2:Array Value)(n2:Nat)(dd:Option Addr)(ss:Array (Option Value))(hs0:¬(!items.isEmpty&&Builtin.List.listTooLong (items.size+items2.size))=true)(hs1:items.size<=sizeLine)(hs2:items.size+items2.size<=sizeLine+1) :
 Meets (Builtin.«list.extend» ⟨[.ref l,.ref b],[]⟩) (fun _ R s=>s.heap.get? l=some { cls:= .type "list",dict:=none,data:= .seq items n,slots := #[] }/\s.heap.get? b=some { cls:= .type "tuple",dict:=dd,data:= .seq items2 n2,slots:=ss }/\R (.ok (.ret Value.none)) { s with heap:=s.heap.update l (Obj.mapSeq fun x=>x++items2),toks:=s.toks }) :=
 .of_wp fun prog w A R s h=>by
  obtain ⟨hp,g,d,tk,os⟩:=s;obtain ⟨hl,hb,h⟩:=h;have f1:=AutoSeq1.idx_int;have f2:=AutoSeq1.sub_tuple_tuple;have f3:=AutoSeq1.sub_list_list;have f4:=AutoSeq1.sub_tuple_list;have f5:=AutoSeq1.sub_list_tuple;
  have hz':(items++items2).size<=sizeLine+1:=by rw [Array.size_append];exact hs2
  wp_walk using (wpAny_updateSeq hl rfl (hz:=hs1) (_hz':=hz')),AutoSeq1.wpAny_loadPart' hl,AutoSeq1.wpAny_loadPart' hb;exact ⟨_,rfl,h⟩
noncomputable def qy:V->List V->Hp->VK->Prop:=fun x vs H Q=>∃ l b xs zs,x = .ref l/\vs=[.ref b]/\H l=some (.lst xs)/\H b=some (.tup zs)/\xs.length+zs.length<=sizeLine/\Q .non (upd H l (.lst (xs++zs)))
theorem sO:MtM X "list.extend" qy:=by
 intro pins s σ H x vs v us Q I rx rv h;obtain ⟨l,b,xs,zs,rfl,rfl,hH,hB,hz,q⟩:=h;cases rx;obtain ⟨u,rfl,ru⟩:=rv.one;cases ru;obtain ⟨z,its,n,r,hl,e⟩:=I.lstM hH;obtain ⟨z2,its2,r2,⟨cl,dd,dt,ss⟩,e2,ec,n2,ed⟩:=I.hok b _ hB;dsimp only at ec ed;subst ec ed;have hl2:=r2.length
 have hsz:its.toArray.size+its2.toArray.size<=sizeLine:=by rw [Cm,Cm];omega
 have hlong:¬ (!its.toArray.isEmpty&&Builtin.List.listTooLong (its.toArray.size+its2.toArray.size))=true:=by
  rw [mj hsz,Dr];exact Cq
 refine call_meets F.slot_list_extend ⟨_,e,rfl⟩ F.entry_list_extend (F.args_list_extend_2 _ _)
  (rh l its.toArray n b its2.toArray n2 dd ss hlong (by rw [Cm];omega) (by omega)) ⟨e,e2,?_⟩
 refine ⟨.non,_,I.lset (its':=its++its2) hH e (by simp) (r.append r2) ?_,rfl,q⟩;rw [Cy];omega
end
section
variable{X:Cx}
end
section
variable{X:Cx}
end
section
variable{X:Cx}{o i:Expr}{pos:Pos}{td ty:TE}
end
section
variable{X:Cx}{Pre:St->Hp->Prop}{R:Hp->V->Prop}
end
section
variable{X:Cx}{Pre:St->Hp->Prop}{R:Hp->V->Prop}
end
section
variable{X:Cx}
end
section
variable{X:Cx}
end
end L2
namespace St2
open PySem PySem.Spec PyProof.Rows
section
variable{prog:Program}{w:World}{A:Around}{E:Value->Shared->Prop}{s:Shared}
end
end St2
namespace L2
open PySem PySem.Spec PyProof.Rows
section
variable{X:Cx}
end
end L2
namespace St3
open PySem PySem.Spec PyProof.Rows PySem.SeqAt PySem.MeetsSeq PySem.MeetsSeq2 PySem.MeetsSeq3
theorem kl(ns:List Int)(x:Int):(St2.eL ns ns.length).any (·== x)=true↔x∈ns:=by
 have e:=firstMet_any (fun j=>ns.getD j 0) ns.length x;rw [show (St2.eL ns ns.length).any (·== x)=(firstMet (fun j=>ns.getD j 0) ns.length).any (·== x) from rfl,e,St2.qd ns ns.length (Cw _),List.take_length];simp
end St3
namespace L2
open PySem PySem.Spec PyProof.Rows
section
variable{X:Cx}
noncomputable def sx(K:E2):List V->Hp->VK->Prop:=fun xs H Q=>∃ (p:Addr) (ns:List Int),xs=[V.ref p]/\SqL K H p (ns.map V.int)/\ns.length<=1000 /\
 ∀ l S,H l=none->(∀ x,S x=true↔x∈ns)->Q (.ref l) (upd H l (.set S (St2.eL ns ns.length).length))
theorem tR(hc:X.calm=true):aF X (.type "set") (sx X.K):=by
 intro pins s σ H xs us Q I r h;obtain ⟨p,ns,rfl,hq,hn,q⟩:=h;obtain ⟨u,rfl,ru⟩:=cg r;cases ru;obtain ⟨its,rv,pt,_⟩:=I.list hq
 have ln:its.length=ns.length:=by rw [<- rv.length,Ci]
 refine St2.fk (ns:=ns) (I.ok.hd hc) pt.isList (by simpa using dj rv) (by rw [Cm,ln];unfold scanBound;omega) fun h' tk st kp=> ?_
 have sz:its.toArray.size=ns.length:=by rw [Cm,ln]
 rw [sz] at st;have hf:H s.heap.objs.size=none:=I.hok.fresh (Cw _);exact ⟨.ref s.heap.objs.size,_,I.laid (o:= .set _ _) (fun b o e=>kp b o (Cu e) e) (Cw _) st,rfl,q _ _ hf (St3.kl ns)⟩
end
section
variable{X:Cx}
end
section
variable{X:Cx}
end
end L2
namespace St4
open PySem PySem.Spec PyProof.Rows PySem.W
section
variable{prog:Program}{w:World}{A:Around}{E:Value->Shared->Prop}{s:Shared}{T:String}{r d:Addr}{n:Nat}{P:Nat->Value->Prop}{OK:Heap->Prop}
end
end St4
namespace L2
open PySem PySem.Spec PyProof.Rows PySem.W
section
variable{X:Cx}
end
section
variable{X:Cx}
end
end L2
namespace L2
open PySem PySem.Spec PyProof.Rows
section
variable{X:Cx}
end
section
variable{X:Cx}
end
section
variable{X:Cx}
variable{o e:Expr}{es:List Expr}{to:TE}{t:TA}{name:Str}{apos cpos:Pos}{id:String}{r:V->List V->Hp->VK->Prop}
end
section
variable{X:Cx}{Pre:St->Hp->Prop}{R R':Hp->V->Prop}
end
mutual
noncomputable def t7(K:E2)(H:Hp):PyData->V->Prop
 | .none,v=>v = .non
 | .bool b,v=>v = .bl b
 | .int i,v=>v = .int i
 | .str x,v=>v = .str x
 | .list ds,v=>∃ p xs,v = .ref p/\SqL K H p xs/\iP K H ds xs
 | .tuple ds,v=>∃ p xs,v = .ref p/\SqT K H p xs/\iP K H ds xs
 | .dict kvs,v=>kvs=[]/\∃ p,v = .ref p/\(H p=some (.dK [])\/H p=some (.dT []))
noncomputable def iP(K:E2)(H:Hp):List PyData->List V->Prop
 | [],[]=>True
 | d::ds,x::xs=>t7 K H d x/\iP K H ds xs
 | _,_=>False
end
mutual
theorem aa.repP{K:E2}{H H':Hp}(e:aa H H'):∀ {d:PyData} {v:V},t7 K H d v->t7 K H' d v
 | .none,_,h=>h
 | .bool _,_,h=>h
 | .int _,_,h=>h
 | .str _,_,h=>h
 | .list _,_,⟨p,xs,h1,h2,h3⟩=>⟨p,xs,h1,e.seq h2,e.repPL h3⟩
 | .tuple _,_,⟨p,xs,h1,h2,h3⟩=>⟨p,xs,h1,e.tup h2,e.repPL h3⟩
 | .dict _,_,⟨h0,p,h1,h2⟩=>⟨h0,p,h1,h2.elim (fun z=> .inl (e _ _ z)) fun z=> .inr (e _ _ z)⟩
theorem aa.repPL{K:E2}{H H':Hp}(e:aa H H'):∀ {ds:List PyData} {xs:List V},iP K H ds xs->iP K H' ds xs
 | [],[],_=>trivial
 | _::_,_::_,h=>⟨e.repP h.1,e.repPL h.2⟩
 | [],_::_,h=>h.elim
 | _::_,[],h=>h.elim
end
noncomputable def nG:PyData->Dt
 | .none=> .non | .bool b=> .bl b | .int i=> .int i | .str x=> .str x | .list _=> .lst | .dict _=> .dct | .tuple ds=> .tup (ds.map nG)
mutual
theorem t7.rep{K:E2}{H:Hp}:∀ {d:PyData} {v:V},t7 K H d v->Rep K H (nG d) v
 | .none,_,h=>by unfold nG;exact h
 | .bool _,_,h=>by unfold nG;exact h
 | .int _,_,h=>by unfold nG;exact h
 | .str _,_,h=>by unfold nG;exact h
 | .list _,_,⟨p,xs,h1,h2,_⟩=>by unfold nG;exact ⟨p,xs,h1,h2⟩
 | .tuple _,_,⟨p,xs,h1,h2,h3⟩=>by unfold nG;exact ⟨p,xs,h1,h2,iP.rep h3⟩
 | .dict _,_,⟨_,p,h1,h2⟩=>by unfold nG;exact ⟨p,h1,h2.elim (fun z=> .inl ⟨_,z⟩) fun z=> .inr ⟨_,z⟩⟩
theorem iP.rep{K:E2}{H:Hp}:∀ {ds:List PyData} {xs:List V},iP K H ds xs->zn K H (ds.map nG) xs
 | [],[],_=>trivial
 | _::_,_::_,h=>⟨t7.rep h.1,iP.rep h.2⟩
 | [],_::_,h=>h.elim
 | _::_,[],h=>h.elim
end
section
variable{X:Cx}{pins:List (Addr×Obj)}{σ:St}{H:Hp}{s:Shared}
mutual
theorem wX(I:Inv X pins σ H s):∀ {d:PyData} {v:V} {u:Value},t7 X.K H d v->aB v u->∃ as,Reads s.heap u d as/\((d = .dict []\/d.hasDict=false)->d.hasDict=true->sysModules∉as)
 | .none,_,_,h,r=>by cases h;cases r;exact ⟨[],.none,fun _ z=>by simp [PyData.hasDict] at z⟩
 | .bool b,_,_,h,r=>by cases h;cases r;exact ⟨[],.bool b,fun _ z=>by simp [PyData.hasDict] at z⟩
 | .int i,_,_,h,r=>by cases h;obtain ⟨t,rfl⟩:=r;exact ⟨[],.int i t,fun _ z=>by simp [PyData.hasDict] at z⟩
 | .str x,_,_,h,r=>by cases h;obtain ⟨t,rfl⟩:=r;exact ⟨[],.str x t,fun _ z=>by simp [PyData.hasDict] at z⟩
 | .list ds,_,_,⟨p,xs,h1,h2,h3⟩,r=>by
  subst h1;cases r;obtain ⟨its,rv,pl,_⟩:=I.list h2;obtain ⟨o,e1,e2,n,e3⟩:=pl.isList;obtain ⟨as,ra⟩:=gO I h3 rv;refine ⟨p::as,.list e1 e2 e3 (by simpa using ra),fun z1 z2=> ?_⟩
  rcases z1 with z1 | z1
  ·cases z1
  ·rw [z2] at z1;cases z1
 | .tuple ds,_,_,⟨p,xs,h1,h2,h3⟩,r=>by
  subst h1;cases r;obtain ⟨its,rv,pl,_⟩:=I.tuple h2;obtain ⟨o,e1,e2,n,e3⟩:=pl;obtain ⟨as,ra⟩:=gO I h3 rv;refine ⟨as,.tuple e1 e2 e3 (by simpa using ra),fun z1 z2=> ?_⟩
  rcases z1 with z1 | z1
  ·cases z1
  ·rw [z2] at z1;cases z1
 | .dict kvs,_,_,⟨h0,p,h1,h2⟩,r=>by
  subst h1 h0;cases r
  have z:∃ o es ep,s.heap.get? p=some o/\o.cls = .type "dict" /\ o.data = .dict es ep/\es.toList=[]/\(p == sysModules)=false:=by
   rcases h2 with h2 | h2
   ·obtain ⟨_,ne,vs,kv,o,es,ep,e,ex,hd,_,pr,_⟩:=I.hok p _ h2
    cases kv;refine ⟨o,es,ep,e,ex.1,hd,?_,ne⟩
    cases hes:es.toList with
    | nil=>rfl
    | cons a l=>rw [hes] at pr;cases pr
   ·obtain ⟨_,ne,xs,pr,o,es,ep,e,ex,hd,hl,_⟩:=I.hok p _ h2
    cases pr;exact ⟨o,es,ep,e,ex.1,hd,hl,ne⟩
  obtain ⟨o,es,ep,e1,e2,e3,e4,ne⟩:=z;refine ⟨_,.dict (as:=[]) (bs:=[]) e1 e2 e3 (by rw [e4];exact .nil) (by rw [e4];exact .nil),fun _ _ hm=> ?_⟩
  have:sysModules=p:=by simpa using hm
  rw [this] at ne;simp at ne
theorem gO(I:Inv X pins σ H s):∀ {ds:List PyData} {xs:List V} {us:List Value},iP X.K H ds xs->aw xs us->∃ as,ReadsAll s.heap us ds as
 | [],[],_,_,r=>by cases r;exact ⟨[],.nil⟩
 | _::_,_::_,_,h,r=>by
  cases r with
  | cons r t =>
   obtain ⟨a1,r1,_⟩:=wX I h.1 r;obtain ⟨a2,r2⟩:=gO I h.2 t;exact ⟨a1++a2,.cons r1 r2⟩
 | [],_::_,_,h,_=>h.elim
 | _::_,[],_,h,_=>h.elim
end
end
section
variable{X:Cx}
end
section
variable{X:Cx}{a b c d:Expr}{ta tb tc td:TE}{pos:Pos}
end
section
open PySem.SeqAt PySem.MeetsSeq
open AutoSeq1 (wpAny_loadPart')
variable{A:Around}{s:Shared}
end
section
variable{X:Cx}
end
section
variable{X:Cx}{tg:Expr}
end
end L2
namespace ZpA
open PySem PySem.Spec PyProof.Rows
inductive Kd where
 | L | T
noncomputable def nm:Kd->String
 | .L => "list"
 | .T => "tuple"
noncomputable def It:Kd->Heap->Addr->Addr->Nat->Prop
 | .L=>fun h it l i=>h.IsListIter it l i
 | .T=>fun h it l i=>h.IsTupleIter it l i
noncomputable def Sq:Kd->Heap->Addr->Array Value->Prop
 | .L=>fun h l xs=>h.IsList l xs
 | .T=>fun h l xs=>h.IsTuple l xs
noncomputable def yl:Kd->Addr->Obj
 | .L=>fun l=>{ cls:= .type "list_iterator",data:= .fields #[.ref l,.int 0 0] }
 | .T=>fun l=>{ cls:= .type "tuple_iterator",data:= .fields #[.ref l,.int 0 0] }
theorem It.at{c:Kd}{h h':Heap}{it l:Addr}{i:Nat}(x:It c h it l i)(k:∀ o,h.get? it=some o->h'.get? it=some o):It c h' it l i:=by
 cases c with
 | L=>exact Heap.IsListIter.at (show h.IsListIter it l i from x) k
 | T=>exact Heap.IsTupleIter.at (show h.IsTupleIter it l i from x) k
theorem It.obj{c:Kd}{h:Heap}{it l:Addr}{i:Nat}(x:It c h it l i):∃ o,h.get? it=some o/\(∃ vs,o.data = .fields vs)/\(o.cls = .type "list_iterator" \/ o.cls = .type "tuple_iterator"):=by
 cases c with
 | L=>obtain ⟨o,ho,hc,hd⟩:=(show h.IsListIter it l i from x);exact ⟨o,ho,⟨_,hd⟩,.inl hc⟩
 | T=>obtain ⟨o,ho,hc,hd⟩:=(show h.IsTupleIter it l i from x);exact ⟨o,ho,⟨_,hd⟩,.inr hc⟩
theorem Sq.at{c:Kd}{h h':Heap}{l:Addr}{xs:Array Value}(x:Sq c h l xs)(k:∀ o,h.get? l=some o->h'.get? l=some o):Sq c h' l xs:=by
 cases c with
 | L=>obtain ⟨o,ho,r⟩:=(show h.IsList l xs from x);exact ⟨o,k o ho,r⟩
 | T=>obtain ⟨o,ho,r⟩:=(show h.IsTuple l xs from x);exact ⟨o,k o ho,r⟩
theorem Sq.obj{c:Kd}{h:Heap}{l:Addr}{xs:Array Value}(x:Sq c h l xs):∃ o,h.get? l=some o/\(o.cls = .type "list" \/ o.cls = .type "tuple"):=by
 cases c with
 | L=>obtain ⟨o,ho,r,_⟩:=(show h.IsList l xs from x);exact ⟨o,ho,.inl r⟩
 | T=>obtain ⟨o,ho,r,_⟩:=(show h.IsTuple l xs from x);exact ⟨o,ho,.inr r⟩
theorem It.new{c:Kd}{h:Heap}{l:Addr}:It c (h.push (yl c l)) h.objs.size l 0:=by
 cases c with
 | L=>exact ⟨_,Ct _ rfl,rfl,rfl⟩
 | T=>exact ⟨_,Ct _ rfl,rfl,rfl⟩
section
variable{prog:Program}{w:World}{A:Around}{E:Value->Shared->Prop}{s:Shared}
theorem fq{c:Kd}{it l:Addr}{i:Nat}{items}{x:Value}{Q:Value->Shared->Prop}(hit:It c s.heap it l i)(hl:Sq c s.heap l items)(hx:items[i]?=some x)
 (hQ:∀ h',It c h' it l (i+1)->Heap.SameBut it s.heap h'->Q x { s with heap:=h' }):wpAny (model prog w) A (Builtin.SmallTypes.nextOf (.ref it)) Q E s:=by
 cases c with
 | L=>exact wpAny_nextOf_list_item (show s.heap.IsListIter it l i from hit) (show s.heap.IsList l items from hl) hx hQ
 | T=>exact EnT.fq (show s.heap.IsTupleIter it l i from hit) (show s.heap.IsTuple l items from hl) hx hQ
theorem gR{c:Kd}{it l:Addr}{i:Nat}{items}{Q:Value->Shared->Prop}(hh:A.handled=none)(hit:It c s.heap it l i)(hl:Sq c s.heap l items)(hx:items[i]?=none)
 (hE:∀ h' e,Heap.ExtBut it s.heap h'->(∃ o,h'.get? e=some o/\o.cls = .type "StopIteration")->E (.ref e) { s with heap:=h' }):wpAny (model prog w) A (Builtin.SmallTypes.nextOf (.ref it)) Q E s:=by
 cases c with
 | L=>exact wpAny_nextOf_list_end hh (show s.heap.IsListIter it l i from hit) (show s.heap.IsList l items from hl) hx hE
 | T=>exact EnT.gR hh (show s.heap.IsTupleIter it l i from hit) (show s.heap.IsTuple l items from hl) hx hE
end
theorem draws{prog:Program}{w:World}{A:Around}{c:Kd}(hh:A.handled=none)(it l:Addr)(hne:l≠it)(items:Array Value) :
 Draws prog w A it [it,l] items.size (fun i v=>items[i]?=some v) (fun i h=>It c h it l i/\Sq c h l items) where
 live:=fun _ _ st=>let ⟨o,ho,_⟩:=st.1.obj;⟨o,ho⟩
 frame:=fun _ _ _ st hk=>⟨st.1.at fun o e=>hk it (by simp) o e,st.2.at fun o e=>hk l (by simp) o e⟩
 item:=fun i s Q E hi st hQ=>by
  refine fq st.1 st.2 (x:=items[i]) (by simp [hi]) fun h' hit' hs'=> ?_
  exact hQ _ h' s.toks (by simp [hi]) ⟨hit',st.2.at fun o e=>hs'.extBut _ _ hne e⟩ hs'
 done:=fun s Q E st hE=>gR hh st.1 st.2 (by simp) hE
section
variable{prog:Program}{w:World}{A:Around}{E:Value->Shared->Prop}{s:Shared}
theorem wx{c1 c2:Kd}{z TI TO i1 i2 l1 l2:Addr}{k:Nat}{xs ys:Array Value}{x y a b:Value}{Q:Option Value->Shared->Prop}(ap:ZipApart z TI TO i1 i2 l1 l2)(hz:IsZip s.heap z TI TO .none)(hTI:IsPair s.heap TI (.ref i1) (.ref i2))(hTO:IsPair s.heap TO a b)
 (h1:It c1 s.heap i1 l1 k) (h2:It c2 s.heap i2 l2 k) (t1:Sq c1 s.heap l1 xs) (t2:Sq c2 s.heap l2 ys) (hx:xs[k]?=some x) (hy:ys[k]?=some y)
 (hQ:∀ h',IsZip h' z TI TO (rawInt s.heap.objs.size)->IsPair h' TO x y->It c1 h' i1 l1 (k+1)->It c2 h' i2 l2 (k+1)->IsPair h' s.heap.objs.size x y->(∀ c o,c≠z->c≠TO->c≠i1->c≠i2->s.heap.get? c=some o->h'.get? c=some o)->Q (some (.ref s.heap.objs.size)) { s with heap:=h' }) :
 wpAny (model prog w) A (pyNext (.ref z)) Q E s:=by
 have hT:s.TypeIs (.ref z) "zip" := ⟨_,hz,rfl⟩;unfold pyNext
 refine Cg (wpAny_attempt (CZ (name:=Str.ofString "__next__") hT F.slot_zip_next
  (C6 F.slot_zip_next hT F.entry_zip_next ?_ (F.args_zip_next_1 _))))
 show wpAny _ _ (field (.ref z) 2 >>= _) _ _ _
 refine Cg (Dh hz rfl (x:= .bool false) rfl ?_)
 show wpAny _ _ (field (.ref z) 3 >>= _) _ _ _
 refine Cg (Dh hz rfl (x:= .ref TI) rfl ?_)
 show wpAny _ _ (seqItems? (.ref TI) >>= _) _ _ _
 refine Cg (Ei hTI rfl ?_)
 show wpAny _ _ (Builtin.SmallTypes.ownedTupleIsFree (.ref z) >>= _) _ _ _
 unfold Builtin.SmallTypes.ownedTupleIsFree;refine Cg (Cg (Dh hz rfl (x:= .none) rfl (wpAny_pure ?_)))
 show wpAny _ _ (rule "zip.__next__.owned-tuple-again" >>= _) _ _ _
 refine Cg (wpAny_rule ?_)
 show wpAny _ _ (field (.ref z) 4 >>= _) _ _ _
 refine Cg (Dh hz rfl (x:= .ref TO) rfl ?_)
 show wpAny _ _ (setField (.ref z) 0 .ellipsis >>= _) _ _ _
 refine Cg (DQ hz rfl (show 0 < 5 by decide) ?_);have zA:IsZip (s.heap.update z (Obj.mapFields fun q=>q.setIfInBounds 0 .ellipsis)) z TI TO .ellipsis:=Dp _ hz rfl;have sA:Heap.SameBut z s.heap (s.heap.update z (Obj.mapFields fun q=>q.setIfInBounds 0 .ellipsis)):=Heap.SameBut.update ..
 generalize s.heap.update z (Obj.mapFields fun q=>q.setIfInBounds 0 .ellipsis)=hA at zA sA ⊢
 have ksA:∀ c o,c≠z->s.heap.get? c=some o->hA.get? c=some o:=fun c o n q=>(sA.2 c n).trans q
 have toA:IsPair hA TO a b:=ksA _ _ ap.TOz hTO
 have i1A:It c1 hA i1 l1 k:=h1.at fun o q=>ksA i1 o ap.i1z q
 have i2A:It c2 hA i2 l2 k:=h2.at fun o q=>ksA i2 o ap.i2z q
 have t1A:Sq c1 hA l1 xs:=t1.at fun o ho=>ksA l1 o ap.l1z ho
 have t2A:Sq c2 hA l2 ys:=t2.at fun o ho=>ksA l2 o ap.l2z ho
 show wpAny _ _ (forIn [(Value.ref i1,0),(Value.ref i2,1)] ((none:Option Fin),()) _ >>= _) _ _ _
 rw [EO];refine Cg (Cg (Cg (wpAny_onRaise ?_)))
 show wpAny _ _ (Builtin.SmallTypes.nextOf (.ref i1) >>= fun v=>pure (some v)) _ _ _
 refine Cg (fq (s:={ s with heap:=hA }) i1A t1A hx fun hB i1B sB=>wpAny_pure ?_)
 have ksB:∀ c o,c≠i1->hA.get? c=some o->hB.get? c=some o:=fun c o n q=>(sB.2 c n).trans q
 have toB:IsPair hB TO a b:=ksB _ _ ap.TOi1 toA
 show wpAny _ _ (seqItems? (.ref TO) >>= _) _ _ _
 refine Cg (Ei toB rfl ?_)
 show wpAny _ _ (updateSeq TO (fun q=>q.setIfInBounds 0 x) >>= _) _ _ _
 refine Cg (wpAny_updateSeq_pair (s:={ s with heap:=hB }) toB fun hC toC sC=> ?_);refine Cg (wpAny_letGo (wpAny_pure ?_))
 have ksC:∀ c o,c≠TO->hB.get? c=some o->hC.get? c=some o:=fun c o n q=>(sC.2 c n).trans q
 have i1C:It c1 hC i1 l1 (k+1):=i1B.at fun o q=>ksC i1 o (Ne.symm ap.TOi1) q
 have i2C:It c2 hC i2 l2 k:=(i2A.at fun o q=>ksB i2 o (Ne.symm ap.i12) q).at fun o q=>ksC i2 o (Ne.symm ap.TOi2) q
 have t2C:Sq c2 hC l2 ys:=t2A.at fun o ho=>ksC l2 o ap.l2TO (ksB l2 o ap.l2i1 ho)
 have zC:IsZip hC z TI TO .ellipsis:=ksC _ _ (Ne.symm ap.TOz) (ksB _ _ (Ne.symm ap.i1z) zA);have toC:IsPair hC TO x b:=toC
 show wpAny _ _ (forIn [(Value.ref i2,1)] ((none:Option Fin),()) _) _ _ _
 rw [EO];refine Cg (Cg (wpAny_onRaise ?_))
 show wpAny _ _ (Builtin.SmallTypes.nextOf (.ref i2) >>= fun v=>pure (some v)) _ _ _
 refine Cg (fq (s:={ s with heap:=hC }) i2C t2C hy fun hD i2D sD=>wpAny_pure ?_)
 have ksD:∀ c o,c≠i2->hC.get? c=some o->hD.get? c=some o:=fun c o n q=>(sD.2 c n).trans q
 have toD:IsPair hD TO x b:=ksD _ _ ap.TOi2 toC
 show wpAny _ _ (seqItems? (.ref TO) >>= _) _ _ _
 refine Cg (Ei toD rfl ?_)
 show wpAny _ _ (updateSeq TO (fun q=>q.setIfInBounds 1 y) >>= _) _ _ _
 refine Cg (wpAny_updateSeq_pair (s:={ s with heap:=hD }) toD fun hF toF sF=> ?_);refine Cg (wpAny_letGo (wpAny_pure ?_))
 have ksF:∀ c o,c≠TO->hD.get? c=some o->hF.get? c=some o:=fun c o n q=>(sF.2 c n).trans q
 have toF:IsPair hF TO x y:=toF;have zF:IsZip hF z TI TO .ellipsis:=ksF _ _ (Ne.symm ap.TOz) (ksD _ _ (Ne.symm ap.i2z) zC)
 have i1F:It c1 hF i1 l1 (k+1):=(i1C.at fun o q=>ksD i1 o ap.i12 q).at fun o q=>ksF i1 o (Ne.symm ap.TOi1) q
 have i2F:It c2 hF i2 l2 (k+1):=i2D.at fun o q=>ksF i2 o (Ne.symm ap.TOi2) q
 show wpAny _ _ (forIn ([]:List (Value×Nat)) ((none:Option Fin),()) _) _ _ _
 rw [List.forIn_nil];refine wpAny_pure ?_
 show wpAny _ _ (seqItems? (.ref TO) >>= _) _ _ _
 refine Cg (Ei toF rfl ?_)
 show wpAny _ _ (newTuple [x,y] >>= _) _ _ _
 unfold newTuple;have sz:hF.objs.size=s.heap.objs.size:=sF.1.trans (sD.1.trans (sC.1.trans (sB.1.trans sA.1)));refine Cg (CW ?_ (by size_fits))
 show wpAny _ _ (Builtin.SmallTypes.ownedTupleHandOut (.ref z) (.ref hF.objs.size) >>= _) _ _ { s with heap:=hF.push { cls:= .type "tuple",data:= .seq #[x,y] } }
 have zG:IsZip (hF.push { cls:= .type "tuple",data:= .seq #[x,y] }) z TI TO .ellipsis:=Cj _ zF;have pG:IsPair (hF.push { cls:= .type "tuple",data:= .seq #[x,y] }) hF.objs.size x y:=Ct _ rfl
 have ksG:∀ c o,hF.get? c=some o->(hF.push { cls:= .type "tuple",data:= .seq #[x,y] }).get? c=some o:=fun c o q=>Cj _ q
 generalize hF.push { cls:= .type "tuple",data:= .seq #[x,y] }=hG at zG pG ksG ⊢
 unfold Builtin.SmallTypes.ownedTupleHandOut
 show wpAny _ _ ((setField (.ref z) 0 (rawInt hF.objs.size) >>= fun _=>setField (.ref z) 1 (.bool false)) >>= _) _ _ _
 refine Cg (Cg (DQ zG rfl (show 0 < 5 by decide) ?_));have zH:IsZip (hG.update z (Obj.mapFields fun q=>q.setIfInBounds 0 (rawInt hF.objs.size))) z TI TO (rawInt hF.objs.size):=Dp _ zG rfl;have sH:Heap.SameBut z hG (hG.update z (Obj.mapFields fun q=>q.setIfInBounds 0 (rawInt hF.objs.size))):=Heap.SameBut.update ..
 generalize hG.update z (Obj.mapFields fun q=>q.setIfInBounds 0 (rawInt hF.objs.size))=hH at zH sH ⊢
 refine DQ zH rfl (show 1 < 5 by decide) ?_;have zJ:IsZip (hH.update z (Obj.mapFields fun q=>q.setIfInBounds 1 (.bool false))) z TI TO (rawInt hF.objs.size):=Dp _ zH rfl;have sJ:Heap.SameBut z hH (hH.update z (Obj.mapFields fun q=>q.setIfInBounds 1 (.bool false))):=Heap.SameBut.update ..
 generalize hH.update z (Obj.mapFields fun q=>q.setIfInBounds 1 (.bool false))=hJ at zJ sJ ⊢
 have ksJ:∀ c o,c≠z->hF.get? c=some o->hJ.get? c=some o:=fun c o n q=>(sJ.2 c n).trans ((sH.2 c n).trans (ksG c o q))
 have nz:hF.objs.size≠z:=fun e=>absurd (Cu zF) (by rw [e];exact Ew _)
 have pJ:IsPair hJ hF.objs.size x y:=(sJ.2 _ nz).trans ((sH.2 _ nz).trans pG);refine wpAny_pure ⟨_,rfl,wpAny_pure ?_⟩;rw [sz] at zJ pJ ⊢
 refine hQ hJ zJ (ksJ _ _ ap.TOz toF) (i1F.at fun o q=>ksJ i1 o ap.i1z q) (i2F.at fun o q=>ksJ i2 o ap.i2z q) pJ fun c o n1 n2 n3 n4 q=> ?_
 exact ksJ _ _ n1 (ksF _ _ n2 (ksD _ _ n4 (ksC _ _ n2 (ksB _ _ n3 (ksA _ _ n1 q)))))
theorem zq{c1:Kd}{z TI TO i1 i2 l1 l2:Addr}{k:Nat}{xs:Array Value}{a b:Value}{Q:Option Value->Shared->Prop}(hh:A.handled=none)(ap:ZipApart z TI TO i1 i2 l1 l2)(hz:IsZip s.heap z TI TO .none)(hTI:IsPair s.heap TI (.ref i1) (.ref i2))(hTO:IsPair s.heap TO a b)
 (h1:It c1 s.heap i1 l1 k) (t1:Sq c1 s.heap l1 xs) (hx:xs[k]?=none)
 (hQ:∀ h',(∀ c o,c≠z->c≠i1->s.heap.get? c=some o->h'.get? c=some o)->Q none { s with heap:=h' }) :
 wpAny (model prog w) A (pyNext (.ref z)) Q E s:=by
 have hT:s.TypeIs (.ref z) "zip" := ⟨_,hz,rfl⟩;unfold pyNext
 refine Cg (wpAny_attempt (CZ (name:=Str.ofString "__next__") hT F.slot_zip_next
  (C6 F.slot_zip_next hT F.entry_zip_next ?_ (F.args_zip_next_1 _))))
 show wpAny _ _ (field (.ref z) 2 >>= _) _ _ _
 refine Cg (Dh hz rfl (x:= .bool false) rfl ?_)
 show wpAny _ _ (field (.ref z) 3 >>= _) _ _ _
 refine Cg (Dh hz rfl (x:= .ref TI) rfl ?_)
 show wpAny _ _ (seqItems? (.ref TI) >>= _) _ _ _
 refine Cg (Ei hTI rfl ?_)
 show wpAny _ _ (Builtin.SmallTypes.ownedTupleIsFree (.ref z) >>= _) _ _ _
 unfold Builtin.SmallTypes.ownedTupleIsFree;refine Cg (Cg (Dh hz rfl (x:= .none) rfl (wpAny_pure ?_)))
 show wpAny _ _ (rule "zip.__next__.owned-tuple-again" >>= _) _ _ _
 refine Cg (wpAny_rule ?_)
 show wpAny _ _ (field (.ref z) 4 >>= _) _ _ _
 refine Cg (Dh hz rfl (x:= .ref TO) rfl ?_)
 show wpAny _ _ (setField (.ref z) 0 .ellipsis >>= _) _ _ _
 refine Cg (DQ hz rfl (show 0 < 5 by decide) ?_);have zA:IsZip (s.heap.update z (Obj.mapFields fun q=>q.setIfInBounds 0 .ellipsis)) z TI TO .ellipsis:=Dp _ hz rfl;have sA:Heap.SameBut z s.heap (s.heap.update z (Obj.mapFields fun q=>q.setIfInBounds 0 .ellipsis)):=Heap.SameBut.update ..
 generalize s.heap.update z (Obj.mapFields fun q=>q.setIfInBounds 0 .ellipsis)=hA at zA sA ⊢
 have ksA:∀ c o,c≠z->s.heap.get? c=some o->hA.get? c=some o:=fun c o n q=>(sA.2 c n).trans q
 have i1A:It c1 hA i1 l1 k:=h1.at fun o q=>ksA i1 o ap.i1z q
 have t1A:Sq c1 hA l1 xs:=t1.at fun o ho=>ksA l1 o ap.l1z ho
 show wpAny _ _ (forIn [(Value.ref i1,0),(Value.ref i2,1)] ((none:Option Fin),()) _ >>= _) _ _ _
 rw [EO];refine Cg (Cg (Cg (wpAny_onRaise ?_)))
 show wpAny _ _ (Builtin.SmallTypes.nextOf (.ref i1) >>= fun v=>pure (some v)) _ _ _
 refine Cg (gR (s:={ s with heap:=hA }) hh i1A t1A hx fun h' e eb he=> ?_);have zB:IsZip h' z TI TO .ellipsis:=eb _ _ (Ne.symm ap.i1z) zA;refine DQ zB rfl (show 0 < 5 by decide) ?_;have sC:Heap.SameBut z h' (h'.update z (Obj.mapFields fun q=>q.setIfInBounds 0 .none)):=Heap.SameBut.update ..;obtain ⟨o,ho,hc⟩:=he
 have ez:e≠z:=fun q=>by
  rw [q,zB] at ho;cases ho;exact absurd (show Value.type "zip" = Value.type "StopIteration" from hc) (by decide)
 have ho2:(h'.update z (Obj.mapFields fun q=>q.setIfInBounds 0 .none)).get? e=some o:=(sC.2 e ez).trans ho;refine Cg (wpAny_isInstance (T := "StopIteration") (b:=true) ⟨o,ho2,hc⟩ isSubtype_stop ?_);refine wpAny_pure (hQ _ fun c o n1 n2 q=>(sC.2 c n1).trans (eb c o n2 (ksA c o n1 q)))
end
abbrev H1(c1:Kd)(h:Heap)(l1:Addr):Heap:=h.push (yl c1 l1)
abbrev H2(c1 c2:Kd)(h:Heap)(l1 l2:Addr):Heap:=(H1 c1 h l1).push (yl c2 l2)
abbrev H3(c1 c2:Kd)(h:Heap)(l1 l2:Addr):Heap:=(H2 c1 c2 h l1 l2).push { cls:= .type "tuple",data:= .seq #[.ref h.objs.size,.ref (H1 c1 h l1).objs.size] }
abbrev H4(c1 c2:Kd)(h:Heap)(l1 l2:Addr):Heap:=(H3 c1 c2 h l1 l2).push { cls:= .type "tuple",data:= .seq #[.none,.none] }
abbrev H5(c1 c2:Kd)(h:Heap)(l1 l2:Addr):Heap:=(H4 c1 c2 h l1 l2).push { cls:= .type "zip",data:= .fields #[.none,.bool false,.bool false,.ref (H2 c1 c2 h l1 l2).objs.size,.ref (H3 c1 c2 h l1 l2).objs.size] }
theorem kg(c1 c2:Kd)(l1 l2:Addr)(xs ys:Array Value) :
 Meets (Builtin.«zip.__new__» ⟨[.type "zip",.ref l1,.ref l2],[]⟩) (fun _ R s=>Sq c1 s.heap l1 xs/\Sq c2 s.heap l2 ys /\
  R (.ok (.ret (.ref (H4 c1 c2 s.heap l1 l2).objs.size))) { s with heap:=H5 c1 c2 s.heap l1 l2 }):=by
 cases c1 with
 | T =>
  cases c2 with
  | T =>
   refine .of_wp fun prog w A R s h=> ?_
   obtain ⟨hp,g,d,tk,os⟩:=s;obtain ⟨hL1,hL2,h⟩:=h;have hsub:=sub_zip;have hL1:hp.IsTuple l1 xs:=hL1;have hL2':Heap.IsTuple (H1 .T hp l1) l2 ys:=let ⟨o,ho,r⟩:=(show hp.IsTuple l2 ys from hL2);⟨o,Cj _ ho,r⟩
   wp_walk using Dg hL1,Dg hL2'
   exact ⟨_,rfl,h⟩
  | L =>
   refine .of_wp fun prog w A R s h=> ?_
   obtain ⟨hp,g,d,tk,os⟩:=s;obtain ⟨hL1,hL2,h⟩:=h;have hsub:=sub_zip;have hL1:hp.IsTuple l1 xs:=hL1;have hL2':Heap.IsList (H1 .T hp l1) l2 ys:=let ⟨o,ho,r⟩:=(show hp.IsList l2 ys from hL2);⟨o,Cj _ ho,r⟩
   wp_walk using Dg hL1,DT hL2'
   exact ⟨_,rfl,h⟩
 | L =>
  cases c2 with
  | T =>
   refine .of_wp fun prog w A R s h=> ?_
   obtain ⟨hp,g,d,tk,os⟩:=s;obtain ⟨hL1,hL2,h⟩:=h;have hsub:=sub_zip;have hL1:hp.IsList l1 xs:=hL1;have hL2':Heap.IsTuple (H1 .L hp l1) l2 ys:=let ⟨o,ho,r⟩:=(show hp.IsTuple l2 ys from hL2);⟨o,Cj _ ho,r⟩
   wp_walk using DT hL1,Dg hL2'
   exact ⟨_,rfl,h⟩
  | L =>
   refine .of_wp fun prog w A R s h=> ?_
   obtain ⟨hp,g,d,tk,os⟩:=s;obtain ⟨hL1,hL2,h⟩:=h;have hsub:=sub_zip;have hL1:hp.IsList l1 xs:=hL1;have hL2':Heap.IsList (H1 .L hp l1) l2 ys:=let ⟨o,ho,r⟩:=(show hp.IsList l2 ys from hL2);⟨o,Cj _ ho,r⟩
   wp_walk using DT hL1,DT hL2'
   exact ⟨_,rfl,h⟩
section
variable{prog:Program}{w:World}{A:Around}{E:Value->Shared->Prop}{s:Shared}
theorem mK{c1 c2:Kd}{l1 l2:Addr}{xs ys:Array Value}{Q:Value->Shared->Prop}(h1:Sq c1 s.heap l1 xs)(h2:Sq c2 s.heap l2 ys)
 (h:∀ h',IsZip h' (s.heap.objs.size+4) (s.heap.objs.size+2) (s.heap.objs.size+3) .none->IsPair h' (s.heap.objs.size+2) (.ref s.heap.objs.size) (.ref (s.heap.objs.size+1))->IsPair h' (s.heap.objs.size+3) .none .none ->
   It c1 h' s.heap.objs.size l1 0->It c2 h' (s.heap.objs.size+1) l2 0->(∀ b o,s.heap.get? b=some o->h'.get? b=some o)->Q (.ref (s.heap.objs.size+4)) { s with heap:=h' }) :
 wpAny (model prog w) A (call (.type "zip") [.ref l1,.ref l2]) Q E s:=by
 refine callType_new F.called_zip (by decide) (F.typeCall_zip_2 _ _) (F.newCall_zip_2 _ _) (fun obj=>F.args_object_init_3 obj _ _) F.entry_zip_new (kg c1 c2 l1 l2 xs ys) ⟨h1,h2,?_⟩;have z1:(H1 c1 s.heap l1).objs.size=s.heap.objs.size+1:=C5 ..;have z2:(H2 c1 c2 s.heap l1 l2).objs.size=s.heap.objs.size+2:=(C5 ..).trans (by rw [z1]);have z3:(H3 c1 c2 s.heap l1 l2).objs.size=s.heap.objs.size+3:=(C5 ..).trans (by rw [z2]);have z4:(H4 c1 c2 s.heap l1 l2).objs.size=s.heap.objs.size+4:=(C5 ..).trans (by rw [z3])
 have kz:∀ {h0:Heap} {o:Obj} (b:Addr) (u:Obj),h0.get? b=some u->(h0.push o).get? b=some u:=fun b u q=>Cj _ q
 have hz:IsZip (H5 c1 c2 s.heap l1 l2) (s.heap.objs.size+4) (s.heap.objs.size+2) (s.heap.objs.size+3) .none:=by
  have:=Ct (H4 c1 c2 s.heap l1 l2) (o:={ cls:= .type "zip",data:= .fields #[.none,.bool false,.bool false,.ref (H2 c1 c2 s.heap l1 l2).objs.size,.ref (H3 c1 c2 s.heap l1 l2).objs.size] }) rfl;rw [z4] at this
  show (H5 c1 c2 s.heap l1 l2).get? _=_
  rw [show H5 c1 c2 s.heap l1 l2=(H4 c1 c2 s.heap l1 l2).push { cls:= .type "zip",data:= .fields #[.none,.bool false,.bool false,.ref (H2 c1 c2 s.heap l1 l2).objs.size,.ref (H3 c1 c2 s.heap l1 l2).objs.size] } from rfl,this,z2,z3]
 have hTO:IsPair (H5 c1 c2 s.heap l1 l2) (s.heap.objs.size+3) .none .none:=by
  have:=Ct (H3 c1 c2 s.heap l1 l2) (o:={ cls:= .type "tuple",data:= .seq #[.none,.none] }) rfl;rw [z3] at this;exact kz _ _ this
 have hTI:IsPair (H5 c1 c2 s.heap l1 l2) (s.heap.objs.size+2) (.ref s.heap.objs.size) (.ref (s.heap.objs.size+1)):=by
  have:=Ct (H2 c1 c2 s.heap l1 l2) (o:={ cls:= .type "tuple",data:= .seq #[.ref s.heap.objs.size,.ref (H1 c1 s.heap l1).objs.size] }) rfl;rw [z2,z1] at this;have e:=kz (o:={ cls:= .type "zip",data:= .fields #[.none,.bool false,.bool false,.ref (H2 c1 c2 s.heap l1 l2).objs.size,.ref (H3 c1 c2 s.heap l1 l2).objs.size] }) _ _ (kz (o:={ cls:= .type "tuple",data:= .seq #[.none,.none] }) _ _ this);rw [<- z1] at e ⊢;exact e
 have hi2:It c2 (H5 c1 c2 s.heap l1 l2) (s.heap.objs.size+1) l2 0:=by
  have:=It.new (c:=c2) (h:=H1 c1 s.heap l1) (l:=l2);rw [z1] at this
  exact this.at fun o q=>kz _ _ (kz _ _ (kz _ _ q))
 have hi1:It c1 (H5 c1 c2 s.heap l1 l2) s.heap.objs.size l1 0:=(It.new (c:=c1) (h:=s.heap) (l:=l1)).at fun o q=>kz _ _ (kz _ _ (kz _ _ (kz _ _ q)))
 show _/\_
 rw [z4];exact ⟨⟨_,hz,rfl⟩,h _ hz hTI hTO hi1 hi2 fun b o q=>kz _ _ (kz _ _ (kz _ _ (kz _ _ (kz _ _ q))))⟩
end
end ZpA
namespace L2
open PySem PySem.Spec PyProof.Rows ZpA
noncomputable def SqA:Kd->E2->Hp->Addr->List V->Prop
 | .L=>SqL
 | .T=>SqT
theorem Inv.seqA{X:Cx}{pins:List (Addr×Obj)}{σ:St}{H:Hp}{s:Shared}{c:Kd}{a:Addr}{xs:List V}(I:Inv X pins σ H s)(h:SqA c X.K H a xs):∃ its:List Value,aw xs its/\Sq c s.heap a its.toArray/\xs.length<=sizeLine:=by
 cases c with
 | L=>obtain ⟨its,r,p,z⟩:=I.list h;exact ⟨its,r,p.isList,z⟩
 | T=>obtain ⟨its,r,p,z⟩:=I.tuple h;exact ⟨its,r,(show s.heap.IsTuple a its.toArray from p),z⟩
theorem Inv.seqA_inj{X:Cx}{pins:List (Addr×Obj)}{σ:St}{H:Hp}{s:Shared}{c:Kd}{a:Addr}{xs ys:List V}(I:Inv X pins σ H s)(h:SqA c X.K H a xs)(h':SqA c X.K H a ys):xs=ys:=by
 cases c with
 | L=>exact I.list_inj h h'
 | T=>exact I.tuple_inj h h'
theorem vQ{prog:Program}{w:World}{A:Around}{E:Value->Shared->Prop}{s:Shared}{c:Kd}{e it l:Addr}{i:Nat}{j:Int}{items:Array Value}{old:Value}{Q:Option Value->Shared->Prop}(hh:A.handled=none)
 (he:IsEnum s.heap e it j old) (hit:ZpA.It c s.heap it l i) (hl:Sq c s.heap l items) (hx:items[i]?=none)
 (hQ:∀ h',Heap.ExtBut it s.heap h'->Q none { s with heap:=h' }):wpAny (model prog w) A (pyNext (.ref e)) Q E s:=by
 have hT:s.TypeIs (.ref e) "enumerate" := ⟨_,he,rfl⟩;unfold pyNext
 refine Cg (wpAny_attempt (CZ (name:=Str.ofString "__next__") hT F.slot_enumerate_next
  (C6 F.slot_enumerate_next hT F.entry_enumerate_next ?_ (F.args_enumerate_next_1 _))))
 show wpAny _ _ (field (.ref e) 2 >>= _) _ _ _
 refine Cg (Dh he rfl (x:= .ref it) rfl ?_);refine Cg (ZpA.gR hh hit hl hx fun h' x he' hx'=> ?_);obtain ⟨o,ho,hc⟩:=hx';refine Cg (wpAny_isInstance (T := "StopIteration") (b:=true) ⟨o,ho,hc⟩ isSubtype_stop ?_);exact wpAny_pure (hQ _ he')
theorem yQ{prog:Program}{w:World}{A:Around}{E:Value->Shared->Prop}{s:Shared}{c:Kd}{l:Addr}{items:Array Value}{Q:Value->Shared->Prop}(hL:Sq c s.heap l items)
 (h:∀ h',IsEnum h' (s.heap.objs.size+1) s.heap.objs.size 0 .none->ZpA.It c h' s.heap.objs.size l 0->h'.objs.size=s.heap.objs.size+2 ->
   (∀ b o,s.heap.get? b=some o->h'.get? b=some o)->Q (.ref (s.heap.objs.size+1)) { s with heap:=h' }) :
 wpAny (model prog w) A (call (.type "enumerate") [.ref l]) Q E s:=by
 cases c with
 | L=>exact call_enumerate_list (show s.heap.IsList l items from hL) h
 | T=>exact EnT.mK (show s.heap.IsTuple l items from hL) h
noncomputable def IteA(c:Kd)(K:E2)(a:Addr):L2.It :=
 ⟨fun i H=>∃ xs x,SqA c K H a xs/\xs[i]?=some x,fun i H x H'=>∃ p y,x = .ref p/\H p=none/\H'=upd H p (.tup [.int (i:Nat),y])/\∀ xs,SqA c K H a xs->xs[i]?=some y,fun i H=>∃ xs,SqA c K H a xs/\xs.length<=i⟩
theorem rZ{c:Kd}{P:Program}{w:World}{K:E2}{elts:List Expr}{k}{tpos:Pos}(a e it:Addr)(hei:e≠it):wu P w K (.Tuple elts k tpos) (IteA c K a) [e,it] e (fun i h=>(∃ old,IsEnum h e it (i:Nat) old)/\ZpA.It c h it a i) where
 mem:=by simp
 obj:=fun i h st b hb=>by
  obtain ⟨⟨old,he⟩,hit⟩:=st;obtain ⟨o,ho,⟨vs,hd⟩,hc⟩:=hit.obj
  have hb':b=e\/b=it:=by simpa using hb
  rcases hb' with rfl | rfl
  ·exact ⟨_,he,fun v z=>by
    have z':Data.fields _=Data.cell v:=z
    cases z'⟩
  ·exact ⟨o,ho,fun v z=>by rw [hd] at z;cases z⟩
 keep:=fun i h h' st k=>by
  obtain ⟨⟨old,he⟩,hit⟩:=st;exact ⟨⟨old,k e (by simp) _ he⟩,hit.at fun o x=>k it (by simp) o x⟩
 item:=by
  intro X hP hw hK hc i pins s σ H E I hf st hg;subst hP hw hK;obtain ⟨xs,y,hq,hx⟩:=hg;obtain ⟨its,rv,p,hz⟩:=I.seqA hq;obtain ⟨u,hu,ru⟩:=rv.get hx;obtain ⟨⟨old,he⟩,hit⟩:=st;have pt:=p
  have hea:e≠a:=fun z=>by
   obtain ⟨o,ho,hc⟩:=p.obj;rw [<- z,he] at ho;cases ho
   rcases hc with hc | hc
   ·exact absurd (show Value.type "enumerate" = Value.type "list" from hc) (by decide)
   ·exact absurd (show Value.type "enumerate" = Value.type "tuple" from hc) (by decide)
  have hia:a≠it:=fun z=>by
   obtain ⟨o,ho,hc⟩:=p.obj;obtain ⟨o',ho',_,hc'⟩:=hit.obj;rw [z,ho'] at ho;cases ho
   rcases hc with hc | hc<;>rcases hc' with hc' | hc'<;>(rw [hc] at hc';exact absurd hc' (by decide))
  have hil:i < its.toArray.size:=by
   have:=(Cv.mp hu).1;simpa using this
  refine wpAny_pyNext_enum_itemD (ZpA.draws (c:=c) (prog:=X.prog) (w:=X.w) (A:=X.A.in1) (I.ok.hd hc) it a hia its.toArray) he ⟨hit,pt⟩ hil hei (by simp [hea,hei]) fun x h' tk hPx ho st' hT hsz hk=> ?_
  have hxu:x=u:=by
   have:its.toArray[i]?=some u:=by simpa using hu
   rw [this] at hPx;exact (Option.some.inj hPx).symm
  subst hxu;refine ⟨_,rfl,wpAny_letOwnedTupleGo_enum ho fun h'' he' hs'=> ?_⟩
  replace hs':Heap.SameBut e h' h'':=hs'
  have hel:e < s.heap.objs.size:=Cu he
  have hil':it < s.heap.objs.size:=by obtain ⟨o,ho,_⟩:=hit.obj;exact Cu ho
  have kp:∀ b o,b≠e->b≠it->s.heap.get? b=some o->h''.get? b=some o:=fun b o n1 n2 q=>(hs'.2 b n1).trans (hk b o n1 n2 q)
  have hT2:h''.get? s.heap.objs.size=some { cls:= .type "tuple",data:= .seq #[.int (i:Nat) tk,x] }:=(hs'.2 _ (DW hel)).trans hT;have hTn:H s.heap.objs.size=none:=I.hok.fresh (Cw _);have fe:=hf e (by simp);have fi:=hf it (by simp)
  have nte:∀ b u,H b=some u->b≠e:=fun b u q z=>by rw [z,fe.1] at q;cases q
  have nti:∀ b u,H b=some u->b≠it:=fun b u q z=>by rw [z,fi.1] at q;cases q
  have hok:HOk X.prog X.w (upd H s.heap.objs.size (.tup [.int (i:Nat),y])) h'':=fun b ob q=>by
   by_cases hb:b=s.heap.objs.size
   ·subst hb
    rw [af] at q;cases q;exact ⟨by show 2<=sizeLine;decide,[.int (i:Nat) tk,x],.cons ⟨tk,rfl⟩ (.cons ru .nil),⟨_,hT2,rfl,_,rfl⟩⟩
   ·rw [ah hb] at q
    refine (I.hok b ob q).stay (fun c v hc q'=> ?_) (fun c q'=>by rw [ah (aq q' hTn)];exact q') fun c xs q'=>by rw [ah (aq q' hTn)];exact q'
    rcases hc with rfl | hc
    ·exact kp _ _ (nte _ _ q) (nti _ _ q) q'
    ·exact kp _ _ (nte _ _ hc) (nti _ _ hc) q'
  have mem2:∀ b,b∉[e,it]->b≠e/\b≠it:=fun b hb=>by
   have:=hb;simp at this;exact this
  have I2:Inv X pins σ (upd H s.heap.objs.size (.tup [.int (i:Nat),y])) { s with heap:=h'',toks:=tk+1 } :=
   I.step (g':=s.gens) (d':=s.drawn) (ch:=[e,it]) (fun b hb=>by
    have hb':b=e\/b=it:=by simpa using hb
    rcases hb' with rfl | rfl
    ·exact ⟨fe.2.2.2.1,fe.2.1,fe.2.2.2.2.1,fe.2.2.2.2.2⟩
    ·exact ⟨fi.2.2.2.1,fi.2.1,fi.2.2.2.2.1,fi.2.2.2.2.2⟩)
    (fun b o _ _ hc q _=>kp b o (mem2 b hc).1 (mem2 b hc).2 q) (fun b o _ _ hc q _=>⟨o.slots,kp b o (mem2 b hc).1 (mem2 b hc).2 q⟩)
    (fun b o _ q n=>by rw [ah (CJ (Cu q))];exact n) (fun b o hc q=>⟨o,kp b o (mem2 b hc).1 (mem2 b hc).2 q⟩)
    (fun b xs q=>by rw [ah (aq q hTn)];exact q) (fun b o u q=>by rw [ah (aq q hTn)];exact q) (fun b ps q=>⟨#[],by rw [ah (aq q hTn),q];simp⟩)
    (fun m hm=>by obtain ⟨o,es,ep,ho,r⟩:=hm;exact ⟨o,es,ep,kp _ o (Ne.symm fe.2.1) (Ne.symm fi.2.1) ho,r⟩) hok I.bare
  refine ⟨.ref s.heap.objs.size,_,I2,rfl,⟨_,y,rfl,hTn,rfl,fun ys hy=>by rw [I.seqA_inj hy hq];exact hx⟩,⟨⟨x,?_⟩,?_⟩,fun b hb=> ?_⟩
  ·have:((i+1:Nat):Int)=(i:Int)+1:=by push_cast;rfl
   rw [this];exact he'
  ·exact st'.1.at fun o q=>(hs'.2 it (Ne.symm hei)).trans q
  ·have hb':b=e\/b=it:=by simpa using hb
   rcases hb' with rfl | rfl
   ·rw [ah (CJ hel)];exact fe.1
   ·rw [ah (CJ hil')];exact fi.1
 done:=by
  intro X hP hw hK hc i pins s σ H E I hf st hg;subst hP hw hK;obtain ⟨xs,hq,hx⟩:=hg;obtain ⟨its,rv,p,hz⟩:=I.seqA hq;obtain ⟨⟨old,he⟩,hit⟩:=st;obtain ⟨f0,f1,f2,f3,f4,f5⟩:=hf it (by simp);have hl:=rv.length
  have hia:a≠it:=fun z=>by
   obtain ⟨o,ho,hc⟩:=p.obj;obtain ⟨o',ho',_,hc'⟩:=hit.obj;rw [z,ho'] at ho;cases ho
   rcases hc with hc | hc<;>rcases hc' with hc' | hc'<;>(rw [hc] at hc';exact absurd hc' (by decide))
  refine vQ (I.ok.hd hc) he hit p (by simp;omega) fun h' eb=>⟨rfl,I.turned (t':=s.toks) (fun b o hb e=>eb b o hb e) f0 f1 f3 f4 f5⟩
 self:=fun _ _ _ _ _ st h=>by
  obtain ⟨⟨old,he⟩,_⟩:=st;exact wpAny_pyIter_enum he h
section
variable{X:Cx}
noncomputable def iEnumA(K:E2)(ta:TA):TI:=fun σ H R=>ta σ H fun vs H1=>∃ a c,vs=[.ref a]/\(∃ xs,SqA c K H1 a xs/\(xs.length<=sizeLine->R (IteA c K a) H1))
theorem xu{elts:List Expr}{k}{tpos:Pos}{l:Expr}{ta:TA}{p pos:Pos}(hg:Gl X "enumerate")(hm:X.mg "enumerate" = none)(ha:PA X [l] ta)(hs:starEach [l] X.env=[(false,eval l X.env)]:=by rfl) :
 PI X (.Tuple elts k tpos) (.Call (.Name "enumerate" p) [l] [] pos) (iEnumA X.K ta):=by
 intro pins s σ H R I h;refine Call_ (jf I hg hm boot_enumerate (PyProof.Rows.callWith_type1 (thn (ha pos pins s σ H _ I h) fun us s1 ⟨vs,H1,I1,r1,q1⟩=> ?_) hs rfl));obtain ⟨a,c,e,xs,hq,q⟩:=q1;subst e
 cases r1 with
 | cons r rr =>
  cases rr;cases r;obtain ⟨its,rv,p,hz⟩:=I1.seqA hq
  refine yQ p fun h' he hit hsz hk=> ?_
  refine wpAny_pyIter_enum he ?_;refine ⟨s1.heap.objs.size+1,[s1.heap.objs.size+1,s1.heap.objs.size],_,_,H1,rfl,I1.kept (t':=s1.toks) hk,rZ a _ s1.heap.objs.size (DW (Em _)),⟨⟨.none,he⟩,hit⟩,fun b hb=> ?_,q hz⟩
  have hb':b=s1.heap.objs.size+1\/b=s1.heap.objs.size:=by simpa using hb
  rcases hb' with rfl | rfl
  ·exact I1.fpOk (by omega) (I1.hok.fresh (by omega))
  ·exact I1.fpOk (Cw _) (I1.hok.fresh (Cw _))
end
noncomputable def ItzA(c1 c2:Kd)(K:E2)(a b:Addr):L2.It :=
 ⟨fun i H=>∃ xs ys x y,SqA c1 K H a xs/\SqA c2 K H b ys/\xs[i]?=some x/\ys[i]?=some y,fun i H x H'=>∃ p y z,x = .ref p/\H p=none/\H'=upd H p (.tup [y,z])/\(∀ xs,SqA c1 K H a xs->xs[i]?=some y)/\∀ ys,SqA c2 K H b ys->ys[i]?=some z,fun i H=>∃ xs,SqA c1 K H a xs/\xs.length<=i⟩
noncomputable def ZipStA(c1 c2:Kd)(a b z TI TO i1 i2:Addr)(i:Nat)(h:Heap):Prop:=IsZip h z TI TO .none/\IsPair h TI (.ref i1) (.ref i2)/\(∃ x y,IsPair h TO x y)/\ZpA.It c1 h i1 a i/\ZpA.It c2 h i2 b i
theorem u5{c1 c2:Kd}{P:Program}{w:World}{K:E2}{elts:List Expr}{k}{tpos:Pos}(a b z TI TO i1 i2:Addr)(ap:ZipApart z TI TO i1 i2 a b) :
 wu P w K (.Tuple elts k tpos) (ItzA c1 c2 K a b) [z,TI,TO,i1,i2] z (ZipStA c1 c2 a b z TI TO i1 i2) where
 mem:=by simp
 obj:=fun i h st c hc=>by
  obtain ⟨hz,hTI,⟨x,y,hTO⟩,j1,j2⟩:=st;obtain ⟨o1,ho1,⟨v1,hd1⟩,hc1⟩:=j1.obj;obtain ⟨o2,ho2,⟨v2,hd2⟩,hc2⟩:=j2.obj
  have hc':c=z\/c=TI\/c=TO\/c=i1\/c=i2:=by simpa using hc
  rcases hc' with rfl | rfl | rfl | rfl | rfl
  ·exact ⟨_,hz,fun v q=>by have q':Data.fields _=Data.cell v:=q;cases q'⟩
  ·exact ⟨_,hTI,fun v q=>by have q':Data.seq _ _=Data.cell v:=q;cases q'⟩
  ·exact ⟨_,hTO,fun v q=>by have q':Data.seq _ _=Data.cell v:=q;cases q'⟩
  ·exact ⟨o1,ho1,fun v q=>by rw [hd1] at q;cases q⟩
  ·exact ⟨o2,ho2,fun v q=>by rw [hd2] at q;cases q⟩
 keep:=fun i h h' st k=>by
  obtain ⟨hz,hTI,⟨x,y,hTO⟩,h1,h2⟩:=st;exact ⟨k z (by simp) _ hz,k TI (by simp) _ hTI,⟨x,y,k TO (by simp) _ hTO⟩,h1.at fun o q=>k i1 (by simp) o q,h2.at fun o q=>k i2 (by simp) o q⟩
 item:=by
  intro X hP hw hK hc i pins s σ H E I hf st hg;subst hP hw hK;obtain ⟨xs,ys,y,y',hq,hq',hx,hx'⟩:=hg;obtain ⟨its,rv,p,hz'⟩:=I.seqA hq;obtain ⟨its',rv',p',hz''⟩:=I.seqA hq';obtain ⟨u,hu,ru⟩:=rv.get hx;obtain ⟨u',hu',ru'⟩:=rv'.get hx';obtain ⟨hz,hTI,⟨x0,y0,hTO⟩,h1,h2⟩:=st
  have hn:∀ c,c∈[z,TI,TO,i1,i2]->H c=none:=fun c hc=>(hf c hc).1
  have hTn:H s.heap.objs.size=none:=I.hok.fresh (Cw _)
  refine ZpA.wx ap hz hTI hTO h1 h2 p p' (x:=u) (y:=u') (by simpa using hu) (by simpa using hu') fun h' z' to' i1' i2' pT ks=>⟨_,rfl,wpAny_letOwnedTupleGo_zip z' fun h'' zz hs=> ?_⟩
  replace hs:Heap.SameBut z h' h'':=hs
  have lz:z < s.heap.objs.size:=Cu hz;have lTI:TI < s.heap.objs.size:=Cu hTI;have lTO:TO < s.heap.objs.size:=Cu hTO
  have li1:i1 < s.heap.objs.size:=by obtain ⟨o,ho,_⟩:=h1.obj;exact Cu ho
  have li2:i2 < s.heap.objs.size:=by obtain ⟨o,ho,_⟩:=h2.obj;exact Cu ho
  have kp:∀ c o,c≠z->c≠TO->c≠i1->c≠i2->s.heap.get? c=some o->h''.get? c=some o:=fun c o n1 n2 n3 n4 q=>(hs.2 c n1).trans (ks c o n1 n2 n3 n4 q)
  have hT2:IsPair h'' s.heap.objs.size u u':=(hs.2 _ (DW lz)).trans pT
  have nt:∀ c o,H c=some o->c≠z/\c≠TO/\c≠i1/\c≠i2:=fun c o q=>⟨fun e=>(by rw [e,hn z (by simp)] at q;cases q),fun e=>(by rw [e,hn TO (by simp)] at q;cases q),fun e=>(by rw [e,hn i1 (by simp)] at q;cases q),fun e=>(by rw [e,hn i2 (by simp)] at q;cases q)⟩
  have kp':∀ c o u,H c=some u->s.heap.get? c=some o->h''.get? c=some o:=fun c o u q q'=>by
   obtain ⟨n1,n2,n3,n4⟩:=nt c u q;exact kp c o n1 n2 n3 n4 q'
  have hok:HOk X.prog X.w (upd H s.heap.objs.size (.tup [y,y'])) h'':=fun c ob q=>by
   by_cases hb:c=s.heap.objs.size
   ·subst hb
    rw [af] at q;cases q;exact ⟨by show 2<=sizeLine;decide,[u,u'],.cons ru (.cons ru' .nil),⟨_,hT2,rfl,_,rfl⟩⟩
   ·rw [ah hb] at q
    refine (I.hok c ob q).stay (fun e v he q'=> ?_) (fun e q'=>by rw [ah (aq q' hTn)];exact q') fun e xs q'=>by rw [ah (aq q' hTn)];exact q'
    rcases he with rfl | he
    ·exact kp' _ _ _ q q'
    ·exact kp' _ _ _ he q'
  have mem4:∀ c,c∉[z,TO,i1,i2]->c≠z/\c≠TO/\c≠i1/\c≠i2:=fun c hc=>by
   have:=hc;simp at this;exact this
  have I2:Inv X pins σ (upd H s.heap.objs.size (.tup [y,y'])) { s with heap:=h'' } :=
   I.step (g':=s.gens) (d':=s.drawn) (t':=s.toks) (ch:=[z,TO,i1,i2]) (fun c hc=>by
    have hc':c∈[z,TI,TO,i1,i2]:=by simp at hc ⊢;rcases hc with e | e | e | e<;>simp [e]
    have f:=hf c hc'
    exact ⟨f.2.2.2.1,f.2.1,f.2.2.2.2.1,f.2.2.2.2.2⟩)
    (fun c o _ _ hc q _=>by obtain ⟨n1,n2,n3,n4⟩:=mem4 c hc;exact kp c o n1 n2 n3 n4 q) (fun c o _ _ hc q _=>by obtain ⟨n1,n2,n3,n4⟩:=mem4 c hc;exact ⟨o.slots,kp c o n1 n2 n3 n4 q⟩)
    (fun c o _ q n=>by rw [ah (CJ (Cu q))];exact n) (fun c o hc q=>by obtain ⟨n1,n2,n3,n4⟩:=mem4 c hc;exact ⟨o,kp c o n1 n2 n3 n4 q⟩)
    (fun c xs q=>by rw [ah (aq q hTn)];exact q) (fun c o u q=>by rw [ah (aq q hTn)];exact q) (fun c ps q=>⟨#[],by rw [ah (aq q hTn),q];simp⟩)
    (fun m hm=>by obtain ⟨o,es,ep,ho,r⟩:=hm;exact ⟨o,es,ep,kp _ o (Ne.symm (hf z (by simp)).2.1) (Ne.symm (hf TO (by simp)).2.1) (Ne.symm (hf i1 (by simp)).2.1) (Ne.symm (hf i2 (by simp)).2.1) ho,r⟩) hok I.bare
  refine ⟨.ref s.heap.objs.size,_,I2,rfl,⟨_,y,y',rfl,hTn,rfl,fun zs hy=>by rw [I.seqA_inj hy hq];exact hx,fun zs hy=>by rw [I.seqA_inj hy hq'];exact hx'⟩,⟨zz,?_,⟨u,u',?_⟩,?_,?_⟩,fun c hc=> ?_⟩
  ·exact kp TI _ ap.TIz ap.TITO ap.TIi1 ap.TIi2 hTI
  ·exact (hs.2 TO ap.TOz).trans to'
  ·exact i1'.at fun o q=>(hs.2 i1 ap.i1z).trans q
  ·exact i2'.at fun o q=>(hs.2 i2 ap.i2z).trans q
  ·have hc':c=z\/c=TI\/c=TO\/c=i1\/c=i2:=by simpa using hc
   have lc:c < s.heap.objs.size:=by rcases hc' with rfl | rfl | rfl | rfl | rfl<;>assumption
   rw [ah (CJ lc)];exact hn c hc
 done:=by
  intro X hP hw hK hc i pins s σ H E I hf st hg;subst hP hw hK;obtain ⟨xs,hq,hx⟩:=hg;obtain ⟨its,rv,p,hz'⟩:=I.seqA hq;obtain ⟨hz,hTI,⟨x0,y0,hTO⟩,h1,h2⟩:=st;have hl:=rv.length
  have hn:∀ c,c∈[z,TI,TO,i1,i2]->H c=none:=fun c hc=>(hf c hc).1
  refine ZpA.zq (I.ok.hd hc) ap hz hTI hTO h1 p (by simp;omega) fun h' ks=>⟨rfl,?_⟩
  have nt:∀ c o,H c=some o->c≠z/\c≠i1:=fun c o q=>⟨fun e=>(by rw [e,hn z (by simp)] at q;cases q),fun e=>(by rw [e,hn i1 (by simp)] at q;cases q)⟩
  have kp':∀ c o u,H c=some u->s.heap.get? c=some o->h'.get? c=some o:=fun c o u q q'=>by
   obtain ⟨n1,n3⟩:=nt c u q;exact ks c o n1 n3 q'
  have hok:HOk X.prog X.w H h':=fun c ob q=>by
   refine (I.hok c ob q).stay (fun e v he q'=> ?_) (fun e q'=>q') fun e xs q'=>q'
   rcases he with rfl | he
   ·exact kp' _ _ _ q q'
   ·exact kp' _ _ _ he q'
  have mem2:∀ c,c∉[z,i1]->c≠z/\c≠i1:=fun c hc=>by
   have:=hc;simp at this;exact this
  exact I.step (g':=s.gens) (d':=s.drawn) (t':=s.toks) (ch:=[z,i1]) (fun c hc=>by
   have hc':c∈[z,TI,TO,i1,i2]:=by simp at hc ⊢;rcases hc with e | e<;>simp [e]
   have f:=hf c hc'
   exact ⟨f.2.2.2.1,f.2.1,f.2.2.2.2.1,f.2.2.2.2.2⟩)
   (fun c o _ _ hc q _=>by obtain ⟨n1,n3⟩:=mem2 c hc;exact ks c o n1 n3 q) (fun c o _ _ hc q _=>by obtain ⟨n1,n3⟩:=mem2 c hc;exact ⟨o.slots,ks c o n1 n3 q⟩)
   (fun c o _ q n=>n) (fun c o hc q=>by obtain ⟨n1,n3⟩:=mem2 c hc;exact ⟨o,ks c o n1 n3 q⟩)
   (fun c xs q=>q) (fun c o u q=>q) (fun c ps q=>⟨#[],by rw [q];simp⟩)
   (fun m hm=>by obtain ⟨o,es,ep,ho,r⟩:=hm;exact ⟨o,es,ep,ks _ o (Ne.symm (hf z (by simp)).2.1) (Ne.symm (hf i1 (by simp)).2.1) ho,r⟩) hok I.bare
 self:=fun _ _ _ _ _ st h=>wpAny_pyIter_zip st.1 h
section
variable{X:Cx}
noncomputable def iZipA(K:E2)(ta:TA):TI:=fun σ H R=>ta σ H fun vs H1=>∃ a b c1 c2,vs=[.ref a,.ref b]/\(∃ xs,SqA c1 K H1 a xs/\(xs.length<=sizeLine->(∃ ys,SqA c2 K H1 b ys)/\R (ItzA c1 c2 K a b) H1))
theorem AA{elts:List Expr}{k}{tpos:Pos}{l l':Expr}{ta:TA}{p pos:Pos}(hg:Gl X "zip")(hm:X.mg "zip" = none)(ha:PA X [l,l'] ta)(hs:starEach [l,l'] X.env=[(false,eval l X.env),(false,eval l' X.env)]:=by rfl)(hs2:starEach [l'] X.env=[(false,eval l' X.env)]:=by rfl) :
 PI X (.Tuple elts k tpos) (.Call (.Name "zip" p) [l,l'] [] pos) (iZipA X.K ta):=by
 intro pins s σ H R I h;refine Call_ (jf I hg hm boot_zip (PyProof.Rows.callWith_type1 (thn (ha pos pins s σ H _ I h) fun us s1 ⟨vs,H1,I1,r1,q1⟩=> ?_) (by rw [hs,hs2]) (by rw [hs2];rfl)));obtain ⟨a,b,c1,c2,e,xs,hq,q⟩:=q1;subst e;obtain ⟨u,u',rfl,ru,ru'⟩:=nJ r1;cases ru;cases ru';obtain ⟨its,rv,p,hz⟩:=I1.seqA hq;obtain ⟨⟨ys,hq'⟩,q⟩:=q hz;obtain ⟨its',rv',p',hz'⟩:=I1.seqA hq'
 have la:a < s1.heap.objs.size:=by obtain ⟨o,ho,_⟩:=p.obj;exact Cu ho
 have lb:b < s1.heap.objs.size:=by obtain ⟨o,ho,_⟩:=p'.obj;exact Cu ho
 refine ZpA.mK p p' fun h' hz hTI hTO h1 h2 hk=> ?_
 refine wpAny_pyIter_zip hz ?_;refine ⟨s1.heap.objs.size+4,[s1.heap.objs.size+4,s1.heap.objs.size+2,s1.heap.objs.size+3,s1.heap.objs.size,s1.heap.objs.size+1],_,_,H1,rfl,I1.kept (t':=s1.toks) hk,u5 a b _ _ _ _ _ (zipApart_new la lb),⟨hz,hTI,⟨_,_,hTO⟩,h1,h2⟩,fun c hc=> ?_,q⟩
 have hc':c=s1.heap.objs.size+4\/c=s1.heap.objs.size+2\/c=s1.heap.objs.size+3\/c=s1.heap.objs.size\/c=s1.heap.objs.size+1:=by simpa using hc
 have lc:s1.heap.objs.size<=c:=by
  rcases hc' with rfl | rfl | rfl | rfl | rfl
  ·exact EI _ _
  ·exact EI _ _
  ·exact EI _ _
  ·exact Cw _
  ·exact EI _ _
 exact I1.fpOk lc (I1.hok.fresh lc)
end
end L2
namespace L2
open PySem PySem.Spec PyProof.Rows
inductive D where
 | non | bl (b:Bool) | int (i:Int) | str (x:Str) | tup (l:List D) | lst (l:List D) | ktup (l:List D) | klst (l:List D)
 | dK (ks:List Key) (vs:List D) | dT (ks:List (List Key)) (vs:List D) | set (l:List Int) | rng (lo hi:Int) | exc (C:Str)
noncomputable def h9(K:E2)(nm:Str)(C:Addr):Prop:=PySem.W.nsIn K mainGlobals nm=some (some (.ref C))
mutual
noncomputable def ay(K:E2)(H:Hp):D->V->Prop
 | .non,v=>v = .non
 | .bl b,v=>v = .bl b
 | .int i,v=>v = .int i
 | .str x,v=>v = .str x
 | .tup ds,v=>∃ p xs,v = .ref p/\H p=some (.tup xs)/\ag K H ds xs
 | .lst ds,v=>∃ p xs,v = .ref p/\H p=some (.lst xs)/\ag K H ds xs
 | .klst ds,v=>∃ p xs,v = .ref p/\SqL K H p xs/\ag K H ds xs
 | .ktup ds,v=>∃ p xs,v = .ref p/\SqT K (fun _=>none) p xs/\ag K H ds xs
 | .dK ks ds,v=>∃ p xs,v = .ref p/\H p=some (.dK (ks.zip xs))/\ks.length=xs.length/\ag K H ds xs
 | .dT ks ds,v=>∃ p xs,v = .ref p/\H p=some (.dT (ks.zip xs))/\ks.length=xs.length/\ag K H ds xs
 | .set l,v=>∃ p S,v = .ref p/\H p=some (.set S l.length)/\∀ x,S x=true↔x∈l
 | .rng lo hi,v=>∃ p,v = .ref p/\H p=some (.rng lo hi)
 | .exc nm,v=>∃ p C,v = .ref p/\h9 K nm C/\H p=some (mG p C)
noncomputable def ag(K:E2)(H:Hp):List D->List V->Prop
 | [],[]=>True
 | d::ds,x::xs=>ay K H d x/\ag K H ds xs
 | _,_=>False
end
mutual
theorem aa.repD{K:E2}{H H':Hp}(e:aa H H'):∀ {d:D} {v:V},ay K H d v->ay K H' d v
 | .non,_,h=>h
 | .bl _,_,h=>h
 | .int _,_,h=>h
 | .str _,_,h=>h
 | .tup _,_,⟨p,xs,h1,h2,h3⟩=>⟨p,xs,h1,e _ _ h2,e.repDs h3⟩
 | .lst _,_,⟨p,xs,h1,h2,h3⟩=>⟨p,xs,h1,e _ _ h2,e.repDs h3⟩
 | .klst _,_,⟨p,xs,h1,h2,h3⟩=>⟨p,xs,h1,e.seq h2,e.repDs h3⟩
 | .ktup _,_,⟨p,xs,h1,h2,h3⟩=>⟨p,xs,h1,h2,e.repDs h3⟩
 | .dK _ _,_,⟨p,xs,h1,h2,h3,h4⟩=>⟨p,xs,h1,e _ _ h2,h3,e.repDs h4⟩
 | .dT _ _,_,⟨p,xs,h1,h2,h3,h4⟩=>⟨p,xs,h1,e _ _ h2,h3,e.repDs h4⟩
 | .set _,_,⟨p,S,h1,h2,h3⟩=>⟨p,S,h1,e _ _ h2,h3⟩
 | .rng _ _,_,⟨p,h1,h2⟩=>⟨p,h1,e _ _ h2⟩
 | .exc _,_,⟨p,C,h1,h2,h3⟩=>⟨p,C,h1,h2,e _ _ h3⟩
theorem aa.repDs{K:E2}{H H':Hp}(e:aa H H'):∀ {ds:List D} {xs:List V},ag K H ds xs->ag K H' ds xs
 | [],[],_=>trivial
 | _::_,_::_,h=>⟨e.repD h.1,e.repDs h.2⟩
 | [],_::_,h=>h.elim
 | _::_,[],h=>h.elim
end
theorem ag.len{K:E2}{H:Hp}:∀ {ds:List D} {xs:List V},ag K H ds xs->ds.length=xs.length
 | [],[],_=>rfl
 | _::_,_::_,h=>by rw [CA,CA,ag.len h.2]
 | [],_::_,h=>h.elim
 | _::_,[],h=>h.elim
theorem ag.get{K:E2}{H:Hp}:∀ {ds:List D} {xs:List V} {i:Nat} {d:D},ag K H ds xs->ds[i]?=some d->∃ x,xs[i]?=some x/\ay K H d x
 | _::_,x::_,0,d,h,e=>⟨x,rfl,by have:_=d:=Option.some.inj e;rw [<- this];exact h.1⟩
 | _::_,_::_,i+1,d,h,e=>ag.get (i:=i) h.2 (by simpa using e)
 | [],[],_,_,_,e=>by simp at e
 | [],_::_,_,_,h,_=>h.elim
 | _::_,[],_,_,h,_=>h.elim
theorem ag.get'{K:E2}{H:Hp}{ds:List D}{xs:List V}{i:Nat}{x:V}(h:ag K H ds xs)(e:xs[i]?=some x):∃ d,ds[i]?=some d/\ay K H d x:=by
 have hi:i < ds.length:=by rw [h.len];exact (Cv.mp e).1
 obtain ⟨y,e2,r⟩:=h.get (Ch hi);rw [e] at e2;cases e2;exact ⟨_,Ch hi,r⟩
theorem ag.app{K:E2}{H:Hp}:∀ {ds es:List D} {xs ys:List V},ag K H ds xs->ag K H es ys->ag K H (ds++es) (xs++ys)
 | [],_,[],_,_,h=>h
 | _::_,_,_::_,_,g,h=>⟨g.1,ag.app g.2 h⟩
 | [],_,_::_,_,g,_=>g.elim
 | _::_,_,[],_,g,_=>g.elim
theorem ag.take{K:E2}{H:Hp}:∀ {ds:List D} {xs:List V} (n:Nat),ag K H ds xs->ag K H (ds.take n) (xs.take n)
 | [],[],n,_=>by simp;exact trivial
 | _::_,_::_,0,_=>trivial
 | _::_,_::_,n+1,h=>⟨h.1,ag.take n h.2⟩
 | [],_::_,_,h=>h.elim
 | _::_,[],_,h=>h.elim
theorem ag.drop{K:E2}{H:Hp}:∀ {ds:List D} {xs:List V} (n:Nat),ag K H ds xs->ag K H (ds.drop n) (xs.drop n)
 | [],[],n,_=>by simp;exact trivial
 | _::_,_::_,0,h=>h
 | _::_,_::_,n+1,h=>ag.drop n h.2
 | [],_::_,_,h=>h.elim
 | _::_,[],_,h=>h.elim
theorem ag.set{K:E2}{H:Hp}{d:D}{x:V}(r:ay K H d x):∀ {ds:List D} {xs:List V} (n:Nat),ag K H ds xs->ag K H (ds.set n d) (xs.set n x)
 | [],[],n,_=>by simp;exact trivial
 | _::_,_::_,0,h=>⟨r,h.2⟩
 | _::_,_::_,n+1,h=>⟨h.1,ag.set r n h.2⟩
 | [],_::_,_,h=>h.elim
 | _::_,[],_,h=>h.elim
theorem ag.erase{K:E2}{H:Hp}:∀ {ds:List D} {xs:List V} (n:Nat),ag K H ds xs->ag K H (ds.eraseIdx n) (xs.eraseIdx n)
 | [],[],n,_=>by simp;exact trivial
 | _::_,_::_,0,h=>h.2
 | _::_,_::_,n+1,h=>⟨h.1,ag.erase n h.2⟩
 | [],_::_,_,h=>h.elim
 | _::_,[],_,h=>h.elim
theorem ag.rev{K:E2}{H:Hp}:∀ {ds:List D} {xs:List V},ag K H ds xs->ag K H ds.reverse xs.reverse
 | [],[],_=>trivial
 | _::_,_::_,h=>by rw [List.reverse_cons,List.reverse_cons];exact (ag.rev h.2).app ⟨h.1,trivial⟩
 | [],_::_,h=>h.elim
 | _::_,[],h=>h.elim
theorem eF{K:E2}{H:Hp}:∀ (ns:List Int),ag K H (ns.map D.int) (ns.map V.int)
 | []=>trivial
 | _::ns=>⟨rfl,eF ns⟩
theorem bI{K:E2}{H:Hp}:∀ {ns:List Int} {xs:List V},ag K H (ns.map D.int) xs->xs=ns.map V.int
 | [],[],_=>rfl
 | _::_,_::_,h=>by rw [h.1,bI h.2];rfl
 | [],_::_,h=>h.elim
 | _::_,[],h=>h.elim
theorem oE{K:E2}{H:Hp}:∀ {ns:List Bool} {xs:List V},ag K H (ns.map D.bl) xs->xs=ns.map V.bl
 | [],[],_=>rfl
 | _::_,_::_,h=>by rw [h.1,oE h.2];rfl
 | [],_::_,h=>h.elim
 | _::_,[],h=>h.elim
noncomputable def hid(L:List Addr)(H:Hp):Hp:=fun a=>if a∈L then none else H a
theorem am{L:List Addr}{H:Hp}{b:Addr}{o:HO}(h:hid L H b=some o):b∉L/\H b=some o:=by
 unfold hid at h
 split at h
 ·cases h
 ·exact ⟨‹_›,h⟩
theorem aJ{L:List Addr}{H:Hp}{b:Addr}(h:b∉L):hid L H b=H b:=if_neg h
theorem aD{L L':List Addr}{H H':Hp}(hL:∀ b,b∈L'->b∈L\/H b=none)(h:∀ b o,b∉L->H b=some o->H' b=some o):aa (hid L H) (hid L' H'):=fun b o e=>by
 obtain ⟨h1,h2⟩:=am e;rw [aJ (fun z=>(hL b z).elim h1 fun n=>by rw [n] at h2;cases h2)];exact h b o h1 h2
theorem az{L:List Addr}{H:Hp}:aa (hid L H) H:=fun b o e=>(am e).2
theorem jF{L:List Addr}{H:Hp}{p:Addr}{o:HO}(h:p∈L):hid L (upd H p o)=hid L H:=by
 funext b
 unfold hid
 split
 ·rfl
 ·rw [ah (fun z=>by subst z;exact absurd h ‹_›)]
inductive Md where
 | fz | ow | io
 deriving DecidableEq
abbrev Rho:=List (Option (D×Md))
structure Fx where
 Z:List Addr
 io:Nat->Option Addr
noncomputable def aM(K:E2)(H Hh:Hp)(p:Addr):D->Prop
 | .lst ds=>∃ xs,H p=some (.lst xs)/\ag K Hh ds xs
 | .dK ks ds=>∃ xs,H p=some (.dK (ks.zip xs))/\ks.length=xs.length/\ag K Hh ds xs
 | .dT ks ds=>∃ xs,H p=some (.dT (ks.zip xs))/\ks.length=xs.length/\ag K Hh ds xs
 | _=>False
noncomputable def dO:Option HO->Prop
 | some (.lst _)=>True
 | some (.dK _)=>True
 | some (.dT _)=>True
 | _=>False
theorem aM.mu{K:E2}{H Hh:Hp}{p:Addr}{d:D}(h:aM K H Hh p d):dO (H p):=by
 cases d<;>first | exact h.elim | (obtain ⟨xs,e,_⟩:=h;rw [e];trivial)
theorem aM.at{K:E2}{H H' Hh Hh':Hp}{p:Addr}{d:D}(h:aM K H Hh p d)(e:H' p=H p)(s:aa Hh Hh'):aM K H' Hh' p d:=by
 cases d<;>first
  | exact h.elim
  | (obtain ⟨xs,h1,h2,h3⟩:=h;exact ⟨xs,e.trans h1,h2,s.repDs h3⟩)
  | (obtain ⟨xs,h1,h2⟩:=h;exact ⟨xs,e.trans h1,s.repDs h2⟩)
theorem aM.rep{K:E2}{H Hh Hh':Hp}{p:Addr}{d:D}(h:aM K H Hh p d)(e:Hh' p=H p)(s:aa Hh Hh'):ay K Hh' d (.ref p):=by
 cases d<;>first
  | exact h.elim
  | (obtain ⟨xs,h1,h2,h3⟩:=h;exact ⟨p,xs,rfl,e.trans h1,h2,s.repDs h3⟩)
  | (obtain ⟨xs,h1,h2⟩:=h;exact ⟨p,xs,rfl,e.trans h1,s.repDs h2⟩)
noncomputable def t5(K:E2)(F:Fx)(H:Hp)(W:List Addr)(i:Nat)(d:D)(v:V):Md->Prop
 | .fz=>ay K (hid (W++F.Z) H) d v
 | .ow=>∃ p,v = .ref p/\p∈W/\aM K H (hid (W++F.Z) H) p d
 | .io=>∃ p,v = .ref p/\p∈W/\aM K H (hid (W++F.Z) H) p d/\F.io i=some p
structure Rel(K:E2)(F:Fx)(σ:St)(H:Hp)(ρ:Rho)(W:List Addr):Prop where
 slot:∀ (i:Nat) (d:D) (m:Md),ρ[i]?=some (some (d,m))->∃ v,σ[i]?=some (some v)/\t5 K F H W i d v m
 apart:∀ (i j:Nat) (d e:D) (m n:Md) (p:Addr),ρ[i]?=some (some (d,m))->m ≠ .fz->ρ[j]?=some (some (e,n))->n ≠ .fz->σ[i]?=some (some (.ref p))->σ[j]?=some (some (.ref p))->i=j
 wz:∀ p∈W,p∉F.Z
 mt:∀ p∈W++F.Z,dO (H p)
 len:σ.length=ρ.length
structure Fr(W:List Addr)(H H':Hp):Prop where
 keep:∀ b o,b∉W->H b=some o->H' b=some o
 dom:∀ b,H' b=none->H b=none
theorem Fr.refl{W:List Addr}{H:Hp}:Fr W H H:=⟨fun _ _ _ h=>h,fun _ h=>h⟩
theorem aa.fr{W:List Addr}{H H':Hp}(e:aa H H'):Fr W H H':=⟨fun b o _ h=>e b o h,fun b h=>e.free h⟩
theorem Fr.trans{W W1:List Addr}{H H1 H2:Hp}(a:Fr W H H1)(b:Fr W1 H1 H2)(h:∀ p∈W1,p∈W\/H p=none):Fr W H H2 :=
 ⟨fun c o n e=>b.keep c o (fun z=>(h c z).elim n fun q=>by rw [q] at e;cases e) (a.keep c o n e),fun c e=>a.dom c (b.dom c e)⟩
theorem Fr.hid{W W' Z:List Addr}{H H':Hp}(f:Fr W H H')(s:∀ p∈W',p∈W\/H p=none):aa (L2.hid (W++Z) H) (L2.hid (W'++Z) H') :=
 aD (fun b hb=>by
  rcases CI.mp hb with q | q
  ·exact (s b q).imp (fun z=>Cp _ z) id
  ·exact .inl (Co _ q)) fun b o n e=>f.keep b o (fun z=>n (Cp _ z)) e
section
variable{K:E2}{F:Fx}{σ:St}{H H':Hp}{ρ:Rho}{W:List Addr}
theorem dO.some{o:Option HO}(h:dO o):∃ u,o=Option.some u:=by
 cases o with
 | none=>exact h.elim
 | some u=>exact ⟨u,rfl⟩
theorem Rel.same(R:Rel K F σ H ρ W)(e:aa H H'):Rel K F σ H' ρ W:=by
 have eq:∀ p,dO (H p)->H' p=H p:=fun p h=>by obtain ⟨u,q⟩:=h.some;rw [q];exact e _ _ q
 have sh:aa (hid (W++F.Z) H) (hid (W++F.Z) H'):=aD (fun b hb=> .inl hb) fun b o _ q=>e b o q
 refine ⟨fun i d m h=> ?_,R.apart,R.wz,fun p hp=>by rw [eq p (R.mt p hp)];exact R.mt p hp,R.len⟩;obtain ⟨v,h1,h2⟩:=R.slot i d m h;refine ⟨v,h1,?_⟩
 cases m with
 | fz=>exact sh.repD h2
 | ow=>obtain ⟨p,e1,e2,e3⟩:=h2;exact ⟨p,e1,e2,e3.at (eq p e3.mu) sh⟩
 | io=>obtain ⟨p,e1,e2,e3,e4⟩:=h2;exact ⟨p,e1,e2,e3.at (eq p e3.mu) sh,e4⟩
theorem Rel.fresh(R:Rel K F σ H ρ W){p:Addr}(h:H p=none):p∉W++F.Z:=fun z=>by
 have:=R.mt p z;rw [h] at this;exact this
theorem be{α:Type}{l:List (Option α)}{i j:Nat}{o:Option α}{x:α}(h:(l.set i o)[j]?=some (some x)):(j=i/\o=some x)\/(j≠i/\l[j]?=some (some x)):=by
 by_cases e:j=i
 ·subst e
  rw [List.getElem?_set] at h
  split at h
  ·split at h
   ·exact .inl ⟨rfl,Option.some.inj h⟩
   ·cases h
  ·exact absurd rfl ‹_›
 ·rw [CP (Ne.symm e)] at h
  exact .inr ⟨e,h⟩
theorem Rel.freeze(R:Rel K F σ H ρ W){i:Nat}{d:D}{p:Addr}(h:ρ[i]?=some (some (d,.ow)))(hp:σ[i]?=some (some (.ref p))) :
 Rel K F σ H (ρ.set i (some (d,.fz))) (W.filter fun a=>decide (a≠p))/\ay K (hid ((W.filter fun a=>decide (a≠p))++F.Z) H) d (.ref p):=by
 obtain ⟨v,hv,q,rfl,hq,hO⟩:=R.slot i d .ow h;rw [hp] at hv;cases hv
 have sub:∀ b,b∈W.filter (fun a=>decide (a≠p))->b∈W/\b≠p:=fun b hb=>by
  have:=Di.mp hb;exact ⟨this.1,Cz this.2⟩
 have sh:aa (hid (W++F.Z) H) (hid ((W.filter fun a=>decide (a≠p))++F.Z) H):=aD (fun b hb=>by
  rcases CI.mp hb with q | q
  ·exact .inl (Cp _ (sub b q).1)
  ·exact .inl (Co _ q)) fun b o _ e=>e
 have pn:p∉(W.filter fun a=>decide (a≠p))++F.Z:=fun z=>by
  rcases CI.mp z with q | q
  ·exact (sub p q).2 rfl
  ·exact R.wz p hq q
 have rep:ay K (hid ((W.filter fun a=>decide (a≠p))++F.Z) H) d (.ref p):=hO.rep (aJ pn) sh;refine ⟨⟨fun j e m hj=> ?_,fun j k e f m n r h1 h2 h3 h4 h5 h6=> ?_,fun r hr=>R.wz r (sub r hr).1,fun r hr=> ?_,by rw [C3];exact R.len⟩,rep⟩
 ·rcases be hj with ⟨rfl,e1⟩ | ⟨ne,e1⟩
  ·cases e1
   exact ⟨_,hp,rep⟩
  ·obtain ⟨v,g1,g2⟩:=R.slot j e m e1
   refine ⟨v,g1,?_⟩
   have other:∀ r,v = .ref r->m ≠ .fz->r≠p:=fun r er hm z=>by
    subst er z;exact ne (R.apart j i _ _ _ _ _ e1 hm h (by decide) g1 hp)
   cases m with
   | fz=>exact sh.repD g2
   | ow=>obtain ⟨r,e2,e3,e4⟩:=g2;exact ⟨r,e2,Di.mpr ⟨e3,CK (other r e2 (by decide))⟩,e4.at rfl sh⟩
   | io=>obtain ⟨r,e2,e3,e4,e5⟩:=g2;exact ⟨r,e2,Di.mpr ⟨e3,CK (other r e2 (by decide))⟩,e4.at rfl sh,e5⟩
 ·rcases be h1 with ⟨rfl,z⟩ | ⟨_,z⟩
  ·cases z;exact absurd rfl h2
  ·rcases be h3 with ⟨rfl,z'⟩ | ⟨_,z'⟩
   ·cases z';exact absurd rfl h4
   ·exact R.apart j k _ _ _ _ _ z h2 z' h4 h5 h6
 ·rcases CI.mp hr with q | q
  ·exact R.mt r (Cp _ (sub r q).1)
  ·exact R.mt r (Co _ q)
theorem Rel.write(R:Rel K F σ H ρ W){i:Nat}{d d':D}{m:Md}{p:Addr}{o:HO}(h:ρ[i]?=some (some (d,m)))(hm:m ≠ .fz)(hp:σ[i]?=some (some (.ref p)))(new:aM K (upd H p o) (hid (W++F.Z) H) p d') :
 Rel K F σ (upd H p o) (ρ.set i (some (d',m))) W/\Fr W H (upd H p o):=by
 obtain ⟨v,hv,hS⟩:=R.slot i d m h;rw [hp] at hv;cases hv
 have hw:p∈W:=by
  cases m with
  | fz=>exact absurd rfl hm
  | ow=>obtain ⟨r,e2,e3,_⟩:=hS;cases e2;exact e3
  | io=>obtain ⟨r,e2,e3,_⟩:=hS;cases e2;exact e3
 have hh:hid (W++F.Z) (upd H p o)=hid (W++F.Z) H:=jF (Cp _ hw);refine ⟨⟨fun j e n hj=> ?_,fun j k e f n n' r h1 h2 h3 h4 h5 h6=> ?_,R.wz,fun r hr=> ?_,by rw [C3];exact R.len⟩,fun b u nb e=> ?_,fun b e=> ?_⟩
 ·rcases be hj with ⟨rfl,e1⟩ | ⟨ne,e1⟩
  ·cases e1
   refine ⟨_,hp,?_⟩
   cases m with
   | fz=>exact absurd rfl hm
   | ow=>exact ⟨p,rfl,hw,by rw [hh];exact new⟩
   | io=>obtain ⟨r,e2,e3,e4,e5⟩:=hS;cases e2;exact ⟨p,rfl,hw,by rw [hh];exact new,e5⟩
  ·obtain ⟨v,g1,g2⟩:=R.slot j e n e1
   refine ⟨v,g1,?_⟩
   have other:∀ r,v = .ref r->n ≠ .fz->r≠p:=fun r er hn z=>by
    subst er z;exact ne (R.apart j i _ _ _ _ _ e1 hn h hm g1 hp)
   cases n with
   | fz=>show ay K (hid (W++F.Z) (upd H p o)) e v;rw [hh];exact g2
   | ow=>obtain ⟨r,e2,e3,e4⟩:=g2;exact ⟨r,e2,e3,e4.at (ah (other r e2 (by decide))) (by rw [hh];exact aa.refl _)⟩
   | io=>obtain ⟨r,e2,e3,e4,e5⟩:=g2;exact ⟨r,e2,e3,e4.at (ah (other r e2 (by decide))) (by rw [hh];exact aa.refl _),e5⟩
 ·have fnd:∀ {j:Nat} {e:D} {n:Md},(ρ.set i (some (d',m)))[j]?=some (some (e,n))->n ≠ .fz->∃ e',ρ[j]?=some (some (e',n)):=fun {j e n} hj hn=>by
   rcases be hj with ⟨rfl,e1⟩ | ⟨_,e1⟩
   ·cases e1;exact ⟨d,h⟩
   ·exact ⟨_,e1⟩
  obtain ⟨_,z1⟩:=fnd h1 h2;obtain ⟨_,z2⟩:=fnd h3 h4;exact R.apart j k _ _ _ _ _ z1 h2 z2 h4 h5 h6
 ·by_cases e:r=p
  ·subst e;exact new.mu
  ·rw [ah e];exact R.mt r hr
 ·rw [ah (fun z=>by subst z;exact nb hw)];exact e
 ·by_cases z:b=p
  ·subst z;rw [af] at e;cases e
  ·rw [ah z] at e;exact e
theorem Rel.put(R:Rel K F σ H ρ W){i:Nat}{d:D}{v:V}(hi:i < σ.length)(r:ay K (hid (W++F.Z) H) d v):Rel K F (σ.set i (some v)) H (ρ.set i (some (d,.fz))) W:=by
 refine ⟨fun j e m hj=> ?_,fun j k e f m n p h1 h2 h3 h4 h5 h6=> ?_,R.wz,R.mt,by rw [C3,C3];exact R.len⟩
 ·rcases be hj with ⟨rfl,e1⟩ | ⟨ne,e1⟩
  ·cases e1
   exact ⟨v,Df hi,r⟩
  ·obtain ⟨v',g1,g2⟩:=R.slot j e m e1
   exact ⟨v',by rw [CP (Ne.symm ne)];exact g1,g2⟩
 ·rcases be h1 with ⟨rfl,z⟩ | ⟨n1,z⟩
  ·cases z;exact absurd rfl h2
  ·rcases be h3 with ⟨rfl,z'⟩ | ⟨n2,z'⟩
   ·cases z';exact absurd rfl h4
   ·rw [CP (Ne.symm n1)] at h5
    rw [CP (Ne.symm n2)] at h6;exact R.apart j k _ _ _ _ _ z h2 z' h4 h5 h6
theorem Rel.own{p:Addr}(R:Rel K F σ (hid [p] H) ρ W){i:Nat}{d:D}(hi:i < σ.length)(hp:p∉W++F.Z)(r:aM K H (hid (p::(W++F.Z)) H) p d):Rel K F (σ.set i (some (.ref p))) H (ρ.set i (some (d,.ow))) (p::W):=by
 have hh:hid (W++F.Z) (hid [p] H)=hid ((p::W)++F.Z) H:=by
  funext b
  unfold hid
  by_cases z:b=p
  ·subst z
   rw [if_neg hp];simp
  ·by_cases z2:b∈W++F.Z
   ·rw [if_pos z2,if_pos (by rw [Dl];exact Cn _ z2)]
   ·rw [if_neg z2,if_neg (by simpa using z),if_neg (by rw [Dl];exact fun q=>(Cr.mp q).elim z z2)]
 have neq:∀ r,r∈W++F.Z->hid [p] H r=H r:=fun r hr=>aJ (by
  intro z
  have z:r=p:=by simpa using z
  subst z;exact hp hr)
 refine ⟨fun j e m hj=> ?_,fun j k e f m n q h1 h2 h3 h4 h5 h6=> ?_,fun q hq=> ?_,fun q hq=> ?_,by rw [C3,C3];exact R.len⟩
 ·rcases be hj with ⟨rfl,e1⟩ | ⟨ne,e1⟩
  ·cases e1
   exact ⟨_,Df hi,p,rfl,Cs,r⟩
  ·obtain ⟨v',g1,g2⟩:=R.slot j e m e1
   refine ⟨v',by rw [CP (Ne.symm ne)];exact g1,?_⟩
   cases m with
   | fz=>show ay K (hid ((p::W)++F.Z) H) e v';rw [<- hh];exact g2
   | ow=>obtain ⟨r,e2,e3,e4⟩:=g2;exact ⟨r,e2,Cn _ e3,e4.at (neq r (Cp _ e3)).symm (by rw [hh];exact aa.refl _)⟩
   | io=>obtain ⟨r,e2,e3,e4,e5⟩:=g2;exact ⟨r,e2,Cn _ e3,e4.at (neq r (Cp _ e3)).symm (by rw [hh];exact aa.refl _),e5⟩
 ·have inW:∀ {j:Nat} {e:D} {m:Md},ρ[j]?=some (some (e,m))->m ≠ .fz->σ[j]?=some (some (.ref p))->False:=fun {j e m} h1 h2 h3=>by
   obtain ⟨v,g1,g2⟩:=R.slot j e m h1;rw [h3] at g1;cases g1
   cases m with
   | fz=>exact h2 rfl
   | ow=>obtain ⟨r,e2,e3,_⟩:=g2;cases e2;exact hp (Cp _ e3)
   | io=>obtain ⟨r,e2,e3,_⟩:=g2;cases e2;exact hp (Cp _ e3)
  rcases be h1 with ⟨rfl,z⟩ | ⟨n1,z⟩
  ·rw [Df hi] at h5
   cases h5
   rcases be h3 with ⟨rfl,z'⟩ | ⟨n2,z'⟩
   ·rfl
   ·rw [CP (Ne.symm n2)] at h6
    exact (inW z' h4 h6).elim
  ·rw [CP (Ne.symm n1)] at h5
   rcases be h3 with ⟨rfl,z'⟩ | ⟨n2,z'⟩
   ·rw [Df hi] at h6
    cases h6;exact (inW z h2 h5).elim
   ·rw [CP (Ne.symm n2)] at h6
    exact R.apart j k _ _ _ _ _ z h2 z' h4 h5 h6
 ·rcases Cr.mp hq with rfl | hq
  ·exact fun z=>hp (Co _ z)
  ·exact R.wz q hq
 ·rcases Cr.mp (show q∈p::(W++F.Z) from hq) with rfl | hq
  ·exact r.mu
  ·have:=R.mt q hq
   rw [neq q hq] at this;exact this
end
theorem PE.by{X:Cx}{e:Expr}{t t':TE}(h:PE X e t)(hi:∀ σ H Q,t' σ H Q->t σ H Q):PE X e t':=fun pins s σ H Q I hw=>h pins s σ H Q I (hi σ H Q hw)
theorem PT.by{X:Cx}{e:Expr}{t t':TT}(h:PT X e t)(hi:∀ σ H Q,t' σ H Q->t σ H Q):PT X e t':=fun pins s σ H Q I hw=>h pins s σ H Q I (hi σ H Q hw)
inductive Res where
 | ok (d:D) (nw:Bool) | ex (C:Str)
inductive pW where
 | ok (ds:List D) | ex (C:Str)
inductive zm where
 | ok (b:Bool) | ex (C:Str)
abbrev SE:=Rho->Option (Res×Rho)
abbrev ST:=Rho->Option (zm×Rho)
abbrev EXT:=Str->St->Hp->Prop
section
variable(K:E2)(F:Fx)(EX:EXT)(σ:St)(H:Hp)(W:List Addr)
noncomputable def gz(H':Hp)(ρ':Rho)(W':List Addr)(d:D):Bool->V->Prop
 | false,v=>ay K (hid (W'++F.Z) H') d v/\Rel K F σ H' ρ' W'
 | true,v=>∃ p,v = .ref p/\H p=none/\p∉W'++F.Z/\aM K H' (hid (p::(W'++F.Z)) H') p d/\Rel K F σ (hid [p] H') ρ' W'
noncomputable def OkV(o:Option (Res×Rho))(Q:VK):Prop:=match o with
 | some (.ok d nw,ρ')=>∀ v H' W',Fr W H H'->(∀ p∈W',p∈W)->gz K F σ H H' ρ' W' d nw v->Q v H'
 | some (.ex C,ρ')=>∀ H' W',Fr W H H'->(∀ p∈W',p∈W)->Rel K F σ H' ρ' W'->EX C σ H'
 | none=>False
noncomputable def OkT(o:Option (zm×Rho))(Q:Bool->Hp->Prop):Prop:=match o with
 | some (.ok b,ρ')=>∀ H' W',Fr W H H'->(∀ p∈W',p∈W)->Rel K F σ H' ρ' W'->Q b H'
 | some (.ex C,ρ')=>∀ H' W',Fr W H H'->(∀ p∈W',p∈W)->Rel K F σ H' ρ' W'->EX C σ H'
 | none=>False
end
noncomputable def tV(K:E2)(EX:EXT)(f:SE):TE:=fun σ H Q=>∃ F ρ W,Rel K F σ H ρ W/\OkV K F EX σ H W (f ρ) Q
noncomputable def tVT(K:E2)(EX:EXT)(f:ST):TT:=fun σ H Q=>∃ F ρ W,Rel K F σ H ρ W/\OkT K F EX σ H W (f ρ) Q
structure JE(X:Cx)(EX:EXT)(e:Expr)(f:SE):Prop where
 p:PE X e (tV X.K EX f)
structure JT(X:Cx)(EX:EXT)(e:Expr)(f:ST):Prop where
 p:PT X e (tVT X.K EX f)
structure JW(X:Cx)(EX:EXT)(e:Expr)(f:ST):Prop where
 p:PW X e (tVT X.K EX f)
inductive Arg where
 | ex (f:SE) | bor (i:Nat)
noncomputable def tArg(K:E2)(EX:EXT):Arg->TE
 | .ex f=>tV K EX f
 | .bor i=>bR i
noncomputable def tAs(K:E2)(EX:EXT):List Arg->TA
 | []=>fC
 | a::as=>bb (tArg K EX a) (tAs K EX as)
structure JB(X:Cx)(EX:EXT)(e:Expr)(a:Arg):Prop where
 p:PE X e (tArg X.K EX a)
structure JA(X:Cx)(EX:EXT)(es:List Expr)(as:List Arg):Prop where
 p:PA X es (tAs X.K EX as)
noncomputable def evA:List Arg->Rho->Option (pW×Rho)
 | [],ρ=>some (.ok [],ρ)
 | .ex f::as,ρ=>match f ρ with
  | some (.ok d _,ρ1)=>match evA as ρ1 with
   | some (.ok ds,ρ2)=>some (.ok (d::ds),ρ2)
   | some (.ex C,ρ2)=>some (.ex C,ρ2)
   | none=>none
  | some (.ex C,ρ1)=>some (.ex C,ρ1)
  | none=>none
 | .bor i::as,ρ=>match ρ[i]? with
  | some (some _)=>match evA as ρ with
   | some (.ok ds,ρ2)=>match ρ2[i]? with
    | some (some (d,_))=>some (.ok (d::ds),ρ2)
    | _=>none
   | some (.ex C,ρ2)=>some (.ex C,ρ2)
   | none=>none
  | _=>none
noncomputable def gC(K:E2)(H Hh:Hp):D->V->Prop
 | .lst ds,v=>∃ p xs,v = .ref p/\H p=some (.lst xs)/\ag K Hh ds xs
 | .dK ks ds,v=>∃ p xs,v = .ref p/\H p=some (.dK (ks.zip xs))/\ks.length=xs.length/\ag K Hh ds xs
 | .dT ks ds,v=>∃ p xs,v = .ref p/\H p=some (.dT (ks.zip xs))/\ks.length=xs.length/\ag K Hh ds xs
 | d,v=>ay K Hh d v
noncomputable def kU(K:E2)(H Hh:Hp):List D->List V->Prop
 | [],[]=>True
 | d::ds,x::xs=>gC K H Hh d x/\kU K H Hh ds xs
 | _,_=>False
section
variable{K:E2}{F:Fx}{EX:EXT}{σ:St}{H H' Hh Hh':Hp}{ρ ρ':Rho}{W W':List Addr}
theorem ay.b{d:D}{v:V}(r:ay K Hh d v)(s:aa Hh H):gC K H Hh d v:=by
 cases d<;>first
  | exact r
  | (obtain ⟨p,xs,h1,h2,h3,h4⟩:=r;exact ⟨p,xs,h1,s _ _ h2,h3,h4⟩)
  | (obtain ⟨p,xs,h1,h2,h3⟩:=r;exact ⟨p,xs,h1,s _ _ h2,h3⟩)
theorem aM.b{p:Addr}{d:D}(h:aM K H Hh p d):gC K H Hh d (.ref p):=by
 cases d<;>first
  | exact h.elim
  | (obtain ⟨xs,h1,h2,h3⟩:=h;exact ⟨p,xs,rfl,h1,h2,h3⟩)
  | (obtain ⟨xs,h1,h2⟩:=h;exact ⟨p,xs,rfl,h1,h2⟩)
theorem gC.d{d:D}{v:V}(r:gC K H Hh d v)(s:aa Hh H):ay K H d v:=by
 cases d<;>first
  | exact s.repD r
  | (obtain ⟨p,xs,h1,h2,h3,h4⟩:=r;exact ⟨p,xs,h1,h2,h3,s.repDs h4⟩)
  | (obtain ⟨p,xs,h1,h2,h3⟩:=r;exact ⟨p,xs,h1,h2,s.repDs h3⟩)
theorem t5.b{i:Nat}{d:D}{v:V}{m:Md}(h:t5 K F H W i d v m):gC K H (hid (W++F.Z) H) d v:=by
 cases m with
 | fz=>exact ay.b h az
 | ow=>obtain ⟨p,rfl,_,h⟩:=h;exact h.b
 | io=>obtain ⟨p,rfl,_,h,_⟩:=h;exact h.b
theorem gz.plain{H0:Hp}{d:D}{nw:Bool}{v:V}(h:gz K F σ H0 H ρ W d nw v):ay K (hid (W++F.Z) H) d v/\Rel K F σ H ρ W:=by
 cases nw with
 | false=>exact h
 | true =>
  obtain ⟨p,rfl,_,hp,hO,R⟩:=h;refine ⟨hO.rep (aJ hp) (aD (fun b hb=> .inl (Cn _ hb)) fun b o _ e=>e),R.same az⟩
variable(K F EX) in
noncomputable def OkAs(σ:St)(H:Hp)(W:List Addr)(o:Option (pW×Rho))(Q:List V->Hp->Prop):Prop:=match o with
 | some (.ok ds,ρ')=>∀ vs H' W',Fr W H H'->(∀ p∈W',p∈W)->Rel K F σ H' ρ' W'->kU K H' (hid (W'++F.Z) H') ds vs->Q vs H'
 | some (.ex C,ρ')=>∀ H' W',Fr W H H'->(∀ p∈W',p∈W)->Rel K F σ H' ρ' W'->EX C σ H'
 | none=>False
theorem oK:∀ (as:List Arg) {H:Hp} {ρ:Rho} {W:List Addr} {Q:List V->Hp->Prop},Rel K F σ H ρ W->OkAs K F EX σ H W (evA as ρ) Q->tAs K EX as σ H Q
 | [],H,ρ,W,Q,R,h=>h [] H W .refl (fun _ z=>z) R trivial
 | .ex f::as,H,ρ,W,Q,R,h=>by
  refine ⟨F,ρ,W,R,?_⟩;unfold evA at h
  revert h
  cases f ρ with
  | none=>exact fun h=>h
  | some r =>
   obtain ⟨r,ρ1⟩:=r
   cases r with
   | ex C=>exact fun h=>h
   | ok d nw =>
    intro h v H1 W1 fr sub post;obtain ⟨rd,R1⟩:=post.plain;refine oK as R1 ?_
    revert h
    dsimp only
    cases evA as ρ1 with
    | none=>exact fun h=>h
    | some q =>
     obtain ⟨q,ρ2⟩:=q
     cases q with
     | ex C=>exact fun h H2 W2 fr2 sub2 R2=>h H2 W2 (fr.trans fr2 fun p hp=> .inl (sub p hp)) (fun p hp=>sub p (sub2 p hp)) R2
     | ok ds =>
      intro h vs H2 W2 fr2 sub2 R2 reps;exact h (v::vs) H2 W2 (fr.trans fr2 fun p hp=> .inl (sub p hp)) (fun p hp=>sub p (sub2 p hp)) R2 ⟨ay.b ((fr2.hid fun p hp=> .inl (sub2 p hp)).repD rd) az,reps⟩
 | .bor i::as,H,ρ,W,Q,R,h=>by
  unfold evA at h
  revert h
  cases e:ρ[i]? with
  | none=>exact fun h=>h.elim
  | some z =>
   cases z with
   | none=>exact fun h=>h.elim
   | some dm =>
    obtain ⟨d0,m0⟩:=dm;obtain ⟨v,hv,_⟩:=R.slot i d0 m0 e;intro h;refine ⟨v,hv,oK as R ?_⟩
    revert h
    dsimp only
    cases evA as ρ with
    | none=>exact fun h=>h
    | some q =>
     obtain ⟨q,ρ2⟩:=q
     cases q with
     | ex C=>exact fun h=>h
     | ok ds =>
      dsimp only
      cases e2:ρ2[i]? with
      | none=>exact fun h=>h.elim
      | some z =>
       cases z with
       | none=>exact fun h=>h.elim
       | some dm =>
        obtain ⟨d,m⟩:=dm;intro h vs H2 W2 fr2 sub2 R2 reps;obtain ⟨v2,hv2,ok2⟩:=R2.slot i d m e2;rw [hv] at hv2;cases hv2;exact h (v::vs) H2 W2 fr2 sub2 R2 ⟨ok2.b,reps⟩
variable(K F EX) in
noncomputable def OkFs(σ:St)(H:Hp)(W:List Addr)(o:Option (pW×Rho))(Q:List V->Hp->Prop):Prop:=match o with
 | some (.ok ds,ρ')=>∀ vs H' W',Fr W H H'->(∀ p∈W',p∈W)->Rel K F σ H' ρ' W'->ag K (hid (W'++F.Z) H') ds vs->Q vs H'
 | some (.ex C,ρ')=>∀ H' W',Fr W H H'->(∀ p∈W',p∈W)->Rel K F σ H' ρ' W'->EX C σ H'
 | none=>False
theorem ou:∀ (fs:List SE) {H:Hp} {ρ:Rho} {W:List Addr} {Q:List V->Hp->Prop},Rel K F σ H ρ W->OkFs K F EX σ H W (evA (fs.map Arg.ex) ρ) Q->tAs K EX (fs.map Arg.ex) σ H Q
 | [],H,ρ,W,Q,R,h=>h [] H W .refl (fun _ z=>z) R trivial
 | f::fs,H,ρ,W,Q,R,h=>by
  refine ⟨F,ρ,W,R,?_⟩;rw [CF] at h;unfold evA at h
  revert h
  cases f ρ with
  | none=>exact fun h=>h
  | some r =>
   obtain ⟨r,ρ1⟩:=r
   cases r with
   | ex C=>exact fun h=>h
   | ok d nw =>
    intro h v H1 W1 fr sub post;obtain ⟨rd,R1⟩:=post.plain;refine ou fs R1 ?_
    revert h
    dsimp only
    cases evA (fs.map Arg.ex) ρ1 with
    | none=>exact fun h=>h
    | some q =>
     obtain ⟨q,ρ2⟩:=q
     cases q with
     | ex C=>exact fun h H2 W2 fr2 sub2 R2=>h H2 W2 (fr.trans fr2 fun p hp=> .inl (sub p hp)) (fun p hp=>sub p (sub2 p hp)) R2
     | ok ds =>
      intro h vs H2 W2 fr2 sub2 R2 reps;exact h (v::vs) H2 W2 (fr.trans fr2 fun p hp=> .inl (sub p hp)) (fun p hp=>sub p (sub2 p hp)) R2 ⟨(fr2.hid fun p hp=> .inl (sub2 p hp)).repD rd,reps⟩
end
noncomputable def gA(K:E2)(H H':Hp)(L:List Addr)(d:D):Bool->V->Prop
 | false,v=>ay K (hid L H') d v
 | true,v=>∃ p,v = .ref p/\H p=none/\aM K H' (hid (p::L) H') p d
noncomputable def OpS(K:E2)(r:List V->Hp->VK->Prop)(g:List D->Option (D×Bool)):Prop :=
 ∀ vs ds H L Q d nw,(∀ p∈L,dO (H p))->kU K H (hid L H) ds vs->g ds=some (d,nw)->(∀ v H',aa H H'->gA K H H' L d nw v->Q v H')->r vs H Q
noncomputable def sOp(g:List D->Option (D×Bool))(as:List Arg):SE:=fun ρ=>match evA as ρ with
 | some (.ok ds,ρ')=>match g ds with
  | some (d,nw)=>some (.ok d nw,ρ')
  | none=>none
 | some (.ex C,ρ')=>some (.ex C,ρ')
 | none=>none
section
variable{K:E2}{F:Fx}{EX:EXT}{σ:St}{H H':Hp}{ρ ρ':Rho}{W W':List Addr}{Q:VK}
theorem gA.e{d:D}{nw:Bool}{v:V}(h:gA K H H' (W++F.Z) d nw v)(R:Rel K F σ H ρ W)(s:aa H H'):gz K F σ H H' ρ W d nw v:=by
 cases nw with
 | false=>exact ⟨h,R.same s⟩
 | true =>
  obtain ⟨p,rfl,hp,hO⟩:=h;refine ⟨p,rfl,hp,R.fresh hp,hO,R.same fun b o e=> ?_⟩
  rw [aJ (by intro z;have z:b=p:=by simpa using z
             subst z;rw [hp] at e;cases e)]
  exact s b o e
theorem gz.back{H0:Hp}{d:D}{nw:Bool}{v:V}(h:gz K F σ H H' ρ W d nw v)(fr:∀ b,H b=none->H0 b=none):gz K F σ H0 H' ρ W d nw v:=by
 cases nw with
 | false=>exact h
 | true=>obtain ⟨p,h1,h2,h3⟩:=h;exact ⟨p,h1,fr p h2,h3⟩
theorem cV{r:List V->Hp->VK->Prop}{g:List D->Option (D×Bool)}{as:List Arg}(hs:OpS K r g)(R:Rel K F σ H ρ W)(h:OkV K F EX σ H W (sOp g as ρ) Q):tAs K EX as σ H (fun vs H2=>r vs H2 Q):=by
 refine oK as R ?_;unfold sOp at h
 revert h
 cases evA as ρ with
 | none=>exact fun h=>h
 | some q =>
  obtain ⟨q,ρ2⟩:=q
  cases q with
  | ex C=>exact fun h=>h
  | ok ds =>
   dsimp only
   cases e:g ds with
   | none=>exact fun h=>h.elim
   | some z =>
    obtain ⟨d,nw⟩:=z;intro h vs H2 W2 fr2 sub2 R2 reps
    exact hs vs ds H2 (W2++F.Z) Q d nw R2.mt reps e fun v H3 s3 post=>h v H3 W2 (fr2.trans (s3.fr (W:=W2)) fun p hp=> .inl (sub2 p hp)) sub2 ((post.e R2 s3).back fr2.dom)
end
noncomputable def r2(r:R2):List V->Hp->VK->Prop
 | [x,y],H,Q=>r x y H Q
 | _,_,_=>False
section
variable{X:Cx}{EX:EXT}{a b e:Expr}{es:List Expr}{pos:Pos}{x y:Arg}{as:List Arg}
theorem fT:JA X EX [] []:=⟨aR⟩
theorem cX(h:JB X EX e x)(t:JA X EX es as)(hs:starEach (e::es) X.env=(false,eval e X.env)::starEach es X.env:=by rfl):JA X EX (e::es) (x::as):=⟨ad h.p t.p hs⟩
theorem aZ{f:SE}(h:JE X EX e f):JB X EX e (.ex f):=⟨h.p⟩
theorem cb_var{i:Nat}{n:Str}(hN:X.N[i]?=some n)(hv:Vis X.env.scope n)(hd:(n == ("__debug__" : Str))=false:=by decide)(hcd:(n == ("__classdict__" : Str))=false:=by decide):JB X EX (.Name n pos) (.bor i):=⟨gP hN hv hd hcd⟩
noncomputable def sC(d:D):SE:=fun ρ=>some (.ok d false,ρ)
theorem ue{v:V}{d:D}(h:∀ H,ay X.K H d v){σ:St}{H:Hp}{Q:VK}(hw:tV X.K EX (sC d) σ H Q):tC v σ H Q:=by
 obtain ⟨F,ρ,W,R,h2⟩:=hw;exact h2 v H W .refl (fun _ z=>z) ⟨h _,R⟩
theorem bY{i:Int}{j pos}:JE X EX (.Constant (.int i) j pos) (sC (.int i)):=⟨aX.by fun _ _ _=>ue (d:=(.int i)) (v:=(.int i)) fun _=>rfl⟩
theorem c_bl{i:Bool}{j pos}:JE X EX (.Constant (.bool i) j pos) (sC (.bl i)):=⟨uz.by fun _ _ _=>ue (d:=(.bl i)) (v:=(.bl i)) fun _=>rfl⟩
theorem zg{j pos}:JE X EX (.Constant .none j pos) (sC .non):=⟨xy.by fun _ _ _=>ue (d:= .non) (v:= .non) fun _=>rfl⟩
theorem Cb{i:Str}{j pos}:JE X EX (.Constant (.str i) j pos) (sC (.str i)):=⟨dM.by fun _ _ _=>ue (d:=(.str i)) (v:=(.str i)) fun _=>rfl⟩
noncomputable def bh(i:Nat):SE:=fun ρ=>match ρ[i]? with
 | some (some (d,.fz))=>some (.ok d false,ρ)
 | some (some (d,.ow))=>some (.ok d false,ρ.set i (some (d,.fz)))
 | _=>none
theorem c_var{i:Nat}{n:Str}(hN:X.N[i]?=some n)(hv:Vis X.env.scope n)(hd:(n == ("__debug__" : Str))=false:=by decide)(hcd:(n == ("__classdict__" : Str))=false:=by decide):JE X EX (.Name n pos) (bh i):=by
 refine ⟨(gP hN hv hd hcd).by fun σ H Q hw=> ?_⟩;obtain ⟨F,ρ,W,R,h⟩:=hw;unfold bh at h
 revert h
 cases e:ρ[i]? with
 | none=>exact fun h=>h.elim
 | some z =>
  cases z with
  | none=>exact fun h=>h.elim
  | some z =>
   obtain ⟨d,m⟩:=z;obtain ⟨v,hv,ok⟩:=R.slot i d m e
   cases m with
   | io=>exact fun h=>h.elim
   | fz=>exact fun h=>⟨v,hv,h v H W .refl (fun _ z=>z) ⟨ok,R⟩⟩
   | ow =>
    intro h;obtain ⟨p,rfl,hp,hO⟩:=ok;obtain ⟨R',rp⟩:=R.freeze e hv;exact ⟨_,hv,h _ H _ .refl (fun q hq=>(Di.mp hq).1) ⟨rp,R'⟩⟩
theorem wp{op:Operator}{r:R2}{g:List D->Option (D×Bool)}(ho:OpR X (binaryOp op) r)(hs:OpS X.K (r2 r) g)(ha:JB X EX a x)(hb:JB X EX b y):JE X EX (.BinOp a op b pos) (sOp g [x,y]) :=
 ⟨(qC ho ha.p hb.p).by fun σ H Q ⟨F,ρ,W,R,h⟩=>cV hs R h⟩
theorem uY{op:CmpOp}{r:R2}{g:List D->Option (D×Bool)}(ho:OpR X (compareOp op) r)(hs:OpS X.K (r2 r) g)(ha:JB X EX a x)(hb:JB X EX b y)(hm:behindInMarks op b=false):JE X EX (.Compare a [op] [b] pos) (sOp g [x,y]) :=
 ⟨(AI ho ha.p hb.p hm).by fun σ H Q ⟨F,ρ,W,R,h⟩=>cV hs R h⟩
theorem c_ix{r:R2}{g:List D->Option (D×Bool)}(ho:IxR X r)(hs:OpS X.K (r2 r) g)(ha:JB X EX a x)(hb:JB X EX b y)(hp:pY b:=by exact fun _ _=>rfl):JE X EX (.Subscript a b pos) (sOp g [x,y]) :=
 ⟨(cK ho ha.p hb.p hp).by fun σ H Q ⟨F,ρ,W,R,h⟩=>cV hs R h⟩
theorem jO{id:String}{n:Str}{p:Pos}{r:List V->Hp->VK->Prop}{g:List D->Option (D×Bool)}(ho:aF X (.builtin id) r)(hs:OpS X.K r g)(hg:Gl X n)(hm:X.mg n=none)(hv:bootBuiltins n=some (.builtin id))(ha:JA X EX (e::es) as)(hn:n ≠ "__name__" := by decide)(hdb:(n == ("__debug__" : Str))=false:=by decide)
 (he:starEach (e::es) X.env=(false,eval e X.env)::starEach es X.env:=by rfl) (hpl:(backTo pos (starEach es X.env)).any (·.1)=false:=by rfl):JE X EX (.Call (.Name n p) (e::es) [] pos) (sOp g as) :=
 ⟨(dA ho hg hm hv ha.p hn hdb he hpl).by fun σ H Q ⟨F,ρ,W,R,h⟩=>cV hs R h⟩
theorem ic{T:String}{n:Str}{p:Pos}{r:List V->Hp->VK->Prop}{g:List D->Option (D×Bool)}(ho:aF X (.type T) r)(hs:OpS X.K r g)(hg:Gl X n)(hm:X.mg n=none)(hv:bootBuiltins n=some (.type T))(ha:JA X EX (e::es) as)(hn:n ≠ "__name__" := by decide)(hdb:(n == ("__debug__" : Str))=false:=by decide)
 (he:starEach (e::es) X.env=(false,eval e X.env)::starEach es X.env:=by rfl) (hpl:(backTo pos (starEach es X.env)).any (·.1)=false:=by rfl):JE X EX (.Call (.Name n p) (e::es) [] pos) (sOp g as) :=
 ⟨(fm ho hg hm hv ha.p hn hdb he hpl).by fun σ H Q ⟨F,ρ,W,R,h⟩=>cV hs R h⟩
noncomputable def aP(fs:List SE):SE:=fun ρ=>match evA (fs.map Arg.ex) ρ with
 | some (.ok ds,ρ')=>some (.ok (.tup ds) false,ρ')
 | some (.ex C,ρ')=>some (.ex C,ρ')
 | none=>none
noncomputable def cA(fs:List SE):SE:=fun ρ=>match evA (fs.map Arg.ex) ρ with
 | some (.ok ds,ρ')=>some (.ok (.lst ds) true,ρ')
 | some (.ex C,ρ')=>some (.ex C,ρ')
 | none=>none
inductive JF(X:Cx)(EX:EXT):List Expr->List SE->Prop where
 | nil:JF X EX [] []
 | cons {e:Expr} {es:List Expr} {f:SE} {fs:List SE} (h:JE X EX e f) (t:JF X EX es fs) (hs:starEach (e::es) X.env=(false,eval e X.env)::starEach es X.env:=by rfl):JF X EX (e::es) (f::fs)
theorem JF.p{fs:List SE}(h:JF X EX es fs):PA X es (tAs X.K EX (fs.map Arg.ex)):=by
 induction h with
 | nil=>exact aR
 | cons h t hs ih=>exact ad h.p ih hs
theorem pI:∀ {fs:List SE} {ρ ρ':Rho} {ds:List D},evA (fs.map Arg.ex) ρ=some (.ok ds,ρ')->ds.length=fs.length
 | [],ρ,ρ',ds,h=>by
  have h:some (pW.ok [],ρ)=some (.ok ds,ρ'):=h;cases h;rfl
 | f::fs,ρ,ρ',ds,h=>by
  rw [CF] at h;unfold evA at h
  revert h
  cases f ρ with
  | none=>intro h;cases h
  | some r =>
   obtain ⟨r,ρ1⟩:=r
   cases r with
   | ex C=>intro h;cases h
   | ok d nw =>
    dsimp only
    cases e:evA (fs.map Arg.ex) ρ1 with
    | none=>intro h;cases h
    | some q =>
     obtain ⟨q,ρ2⟩:=q
     cases q with
     | ex C=>intro h;cases h
     | ok ds2=>intro h;cases h;rw [CA,CA,pI e]
theorem eS{fs:List SE}{x1}(h:JF X EX es fs)(hl:fs.length<=1000:=by decide):JE X EX (.Tuple es x1 pos) (aP fs) :=
 ⟨(sL h.p).by fun σ H Q ⟨F,ρ,W,R,h⟩=>by
   refine ou fs R ?_;unfold aP at h
   revert h
   cases e:evA (fs.map Arg.ex) ρ with
   | none=>exact fun h=>h
   | some q =>
    obtain ⟨q,ρ2⟩:=q
    cases q with
    | ex C=>exact fun h=>h
    | ok ds =>
     intro h vs H2 W2 fr2 sub2 R2 reps
     have lv:vs.length<=1000:=by rw [<- reps.len,pI e];exact hl
     refine ⟨DX (eA lv),fun p hp=>h _ _ W2 (fr2.trans ((aa.upd hp).fr (W:=W2)) fun p hp=> .inl (sub2 p hp)) sub2 ⟨⟨p,vs,rfl,?_,?_⟩,R2.same (aa.upd hp)⟩⟩
     ·rw [aJ (R2.fresh hp)];exact af
     ·exact (aD (fun b hb=> .inl hb) fun b o _ e=>aa.upd hp b o e:aa (hid (W2++F.Z) H2) _).repDs reps⟩
theorem rK{fs:List SE}(h:JF X EX es fs)(hl:fs.length<=1000:=by decide):JE X EX (.List es pos) (cA fs) :=
 ⟨(jc h.p).by fun σ H Q ⟨F,ρ,W,R,h⟩=>by
   refine ou fs R ?_;unfold cA at h
   revert h
   cases e:evA (fs.map Arg.ex) ρ with
   | none=>exact fun h=>h
   | some q =>
    obtain ⟨q,ρ2⟩:=q
    cases q with
    | ex C=>exact fun h=>h
    | ok ds =>
     intro h vs H2 W2 fr2 sub2 R2 reps
     have lv:vs.length<=1000:=by rw [<- reps.len,pI e];exact hl
     refine ⟨DX (eA lv),fun p hp=>h _ _ W2 (fr2.trans ((aa.upd hp).fr (W:=W2)) fun p hp=> .inl (sub2 p hp)) sub2 ?_⟩;refine gz.back (gA.e (nw:=true) ⟨p,rfl,hp,vs,af,?_⟩ R2 (aa.upd hp)) fr2.dom
     exact (aD (fun b hb=>(Cr.mp hb).elim (fun z=> .inr (by rw [z];exact hp)) .inl) fun b o _ e=>aa.upd hp b o e:aa (hid (W2++F.Z) H2) _).repDs reps⟩
end
section
variable{K:E2}{F:Fx}{EX:EXT}{σ:St}{H H1:Hp}{ρ ρ':Rho}{W W1:List Addr}{Q:VK}
theorem OkV.go{o:Option (Res×Rho)}(h:OkV K F EX σ H W o Q)(fr:Fr W H H1)(sub:∀ p∈W1,p∈W):OkV K F EX σ H1 W1 o Q:=by
 cases o with
 | none=>exact h
 | some r =>
  obtain ⟨r,ρ1⟩:=r
  cases r with
  | ex C=>exact fun H2 W2 f2 s2 R2=>h H2 W2 (fr.trans f2 fun p hp=> .inl (sub p hp)) (fun p hp=>sub p (s2 p hp)) R2
  | ok d nw=>exact fun v H2 W2 f2 s2 P2=>h v H2 W2 (fr.trans f2 fun p hp=> .inl (sub p hp)) (fun p hp=>sub p (s2 p hp)) (P2.back fr.dom)
theorem OkT.go{o:Option (zm×Rho)}{Q:Bool->Hp->Prop}(h:OkT K F EX σ H W o Q)(fr:Fr W H H1)(sub:∀ p∈W1,p∈W):OkT K F EX σ H1 W1 o Q:=by
 cases o with
 | none=>exact h
 | some r =>
  obtain ⟨r,ρ1⟩:=r
  cases r with
  | ex C=>exact fun H2 W2 f2 s2 R2=>h H2 W2 (fr.trans f2 fun p hp=> .inl (sub p hp)) (fun p hp=>sub p (s2 p hp)) R2
  | ok d=>exact fun H2 W2 f2 s2 P2=>h H2 W2 (fr.trans f2 fun p hp=> .inl (sub p hp)) (fun p hp=>sub p (s2 p hp)) P2
end
noncomputable def bS(g:List D->Option (D×Bool))(as:List Arg):ST:=fun ρ=>match sOp g as ρ with
 | some (.ok (.bl b) _,ρ')=>some (.ok b,ρ')
 | some (.ok _ _,_)=>none
 | some (.ex C,ρ')=>some (.ex C,ρ')
 | none=>none
theorem bl_of {K:E2} {F:Fx} {EX:EXT} {σ:St} {H:Hp} {ρ:Rho} {W:List Addr} {f:SE} {Q:Bool->Hp->Prop} (h:OkT K F EX σ H W (match f ρ with
 | some (.ok (.bl b) _,ρ')=>some (.ok b,ρ')
 | some (.ok _ _,_)=>none
 | some (.ex C,ρ')=>some (.ex C,ρ')
 | none=>none) Q):OkV K F EX σ H W (f ρ) fun x H'=>∃ k,x = .bl k/\Q k H':=by
 revert h
 cases f ρ with
 | none=>exact fun h=>h
 | some r =>
  obtain ⟨r,ρ1⟩:=r
  cases r with
  | ex C=>exact fun h=>h
  | ok d nw =>
   cases d<;>first
    | exact fun h=>h.elim
    | exact fun h v H' W' fr sub post=>⟨_,post.plain.1,h H' W' fr sub post.plain.2⟩
noncomputable def sBl(f:SE):ST:=fun ρ=>match f ρ with
 | some (.ok (.bl b) _,ρ')=>some (.ok b,ρ')
 | some (.ok _ _,_)=>none
 | some (.ex C,ρ')=>some (.ex C,ρ')
 | none=>none
noncomputable def lJ:D->Option Bool
 | .non=>some false
 | .bl b=>some b
 | .int i=>some (i != 0)
 | .lst ds=>some (!ds.isEmpty)
 | .tup ds=>some (!ds.isEmpty)
 | .dK ks _=>some (!ks.isEmpty)
 | _=>none
noncomputable def dW(a:Arg):ST:=fun ρ=>match evA [a] ρ with
 | some (.ok [d],ρ')=>match lJ d with
  | some b=>some (.ok b,ρ')
  | none=>none
 | some (.ok _,_)=>none
 | some (.ex C,ρ')=>some (.ex C,ρ')
 | none=>none
noncomputable def vg(f g:ST):ST:=fun ρ=>match f ρ with
 | some (.ok true,ρ1)=>g ρ1
 | some (.ok false,ρ1)=>some (.ok false,ρ1)
 | some (.ex C,ρ')=>some (.ex C,ρ')
 | none=>none
noncomputable def sOr(f g:ST):ST:=fun ρ=>match f ρ with
 | some (.ok false,ρ1)=>g ρ1
 | some (.ok true,ρ1)=>some (.ok true,ρ1)
 | some (.ex C,ρ')=>some (.ex C,ρ')
 | none=>none
noncomputable def dX(f:ST):ST:=fun ρ=>match f ρ with
 | some (.ok b,ρ1)=>some (.ok (!b),ρ1)
 | some (.ex C,ρ')=>some (.ex C,ρ')
 | none=>none
noncomputable def sIf(c:ST)(f g:SE):SE:=fun ρ=>match c ρ with
 | some (.ok true,ρ1)=>f ρ1
 | some (.ok false,ρ1)=>g ρ1
 | some (.ex C,ρ')=>some (.ex C,ρ')
 | none=>none
noncomputable def cj(f g:SE):SE:=fun ρ=>match f ρ with
 | some (.ok (.bl true) _,ρ1)=>g ρ1
 | some (.ok (.bl false) _,ρ1)=>some (.ok (.bl false) false,ρ1)
 | some (.ok _ _,_)=>none
 | some (.ex C,ρ')=>some (.ex C,ρ')
 | none=>none
noncomputable def vc(f g:SE):SE:=fun ρ=>match f ρ with
 | some (.ok (.bl false) _,ρ1)=>g ρ1
 | some (.ok (.bl true) _,ρ1)=>some (.ok (.bl true) false,ρ1)
 | some (.ok _ _,_)=>none
 | some (.ex C,ρ')=>some (.ex C,ρ')
 | none=>none
noncomputable def fZ(f:SE):SE:=fun ρ=>match f ρ with
 | some (.ok (.bl b) _,ρ1)=>some (.ok (.bl (!b)) false,ρ1)
 | some (.ok _ _,_)=>none
 | some (.ex C,ρ')=>some (.ex C,ρ')
 | none=>none
section
variable{X:Cx}{EX:EXT}{a b c e:Expr}{cw es:List Expr}{pos:Pos}{x y z:Arg}{as:List Arg}
theorem mr{op:CmpOp}{r:R2}{g:List D->Option (D×Bool)}(ho:OpR X (compareOp op) r)(hs:OpS X.K (r2 r) g)(ha:JB X EX a x)(hb:JB X EX b y)(hm:behindInMarks op b=false):JT X EX (.Compare a [op] [b] pos) (bS g [x,y]) :=
 ⟨(lB ho ha.p hb.p hm).by fun σ H Q ⟨F,ρ,W,R,h⟩=>cV hs R (bl_of h)⟩
theorem tru_of{K:E2}{H Hh:Hp}{d:D}{v:V}{k:Bool}(r:gC K H Hh d v)(s:aa Hh H)(e:lJ d=some k):BC K v H k:=by
 cases d<;>simp only [lJ] at e<;>first
  | cases e;done
  | (cases e;cases r;first | rfl | trivial)
  | skip
 ·obtain ⟨p,xs,rfl,h1,h2⟩:=r
  cases e;exact .inr (.inl ⟨xs,.inl (.inl (s _ _ h1)),by have:=h2.len;cases xs<;>cases ‹List D› <;> simp_all⟩)
 ·obtain ⟨p,xs,rfl,h1,h2⟩:=r
  cases e;exact .inl ⟨xs,.inl (.inl h1),by have:=h2.len;cases xs<;>cases ‹List D› <;> simp_all⟩
 ·obtain ⟨p,xs,rfl,h1,h2,h3⟩:=r
  cases e;refine .inr (.inr ⟨_,h1,?_⟩);rename_i ks vs;cases ks<;>cases xs<;>simp_all
theorem k_tru(ha:JB X EX e x)(he:∀ whole,isTrue e X.env whole=(do let v <- whole;standAt e.pos;holding [v] (truthy v)):=by intro _;rfl):JT X EX e (dW x) :=
 ⟨(xl ha.p he).by fun σ H Q ⟨F,ρ,W,R,h⟩=>by
   have z:tAs X.K EX [x] σ H (fun vs H2=>match vs with | [v]=>∃ k,BC X.K v H2 k/\Q k H2 | _=>False):=by
    refine oK [x] R ?_;unfold dW at h
    revert h
    cases evA [x] ρ with
    | none=>exact fun h=>h
    | some q =>
     obtain ⟨q,ρ2⟩:=q
     cases q with
     | ex C=>exact fun h=>h
     | ok ds =>
      match ds with
      | []=>exact fun h=>h.elim
      | _::_::_=>exact fun h=>h.elim
      | [d] =>
       dsimp only
       cases e:lJ d with
       | none=>exact fun h=>h.elim
       | some k =>
        intro h vs H2 W2 fr2 sub2 R2 reps
        match vs,reps with
        | [v],reps=>exact ⟨k,tru_of reps.1 az e,h H2 W2 fr2 sub2 R2⟩
   exact z⟩
theorem JW.t{f:ST}(h:JW X EX e f):JT X EX e f:=⟨h.p.pt⟩
theorem w_or1{f:ST}(h:JT X EX a f):JW X EX (.BoolOp .Or [a] pos) f:=⟨xi h.p⟩
theorem w_or{f g:ST}(ha:JT X EX a f)(hb:JW X EX (.BoolOp .Or (b::cw) pos) g):JW X EX (.BoolOp .Or (a::b::cw) pos) (sOr f g) :=
 ⟨fun wh pins s σ H Q I ⟨F,ρ,W,R,h⟩=>BY ha.p hb.p wh pins s σ H Q I ⟨F,ρ,W,R,by
  unfold sOr at h
  revert h
  cases f ρ with
  | none=>exact fun h=>h
  | some q =>
   obtain ⟨q,ρ2⟩:=q
   cases q with
   | ex C=>exact fun h=>h
   | ok k =>
    cases k with
    | false=>exact fun h H2 W2 fr2 sub2 R2=>⟨F,ρ2,W2,R2,OkT.go h fr2 sub2⟩
    | true=>exact fun h=>h⟩⟩
theorem k_not{f:ST}(h:JT X EX a f):JT X EX (.UnaryOp .Not a pos) (dX f) :=
 ⟨(xm h.p).by fun σ H Q ⟨F,ρ,W,R,h⟩=>⟨F,ρ,W,R,by
   unfold dX at h
   revert h
   cases f ρ with
   | none=>exact fun h=>h
   | some q =>
    obtain ⟨q,ρ2⟩:=q
    cases q with
    | ex C=>exact fun h=>h
    | ok k=>exact fun h=>h⟩⟩
theorem c_one{op}{f:SE}(h:JE X EX a f):JE X EX (.BoolOp op [a] pos) f:=⟨pe_one h.p⟩
theorem c_and{f g:SE}(ha:JE X EX a f)(hb:JE X EX (.BoolOp .And (b::cw) pos) g):JE X EX (.BoolOp .And (a::b::cw) pos) (cj f g) :=
 ⟨(pe_and ha.p hb.p).by fun σ H Q ⟨F,ρ,W,R,h⟩=>⟨F,ρ,W,R,by
   unfold cj at h
   revert h
   cases f ρ with
   | none=>exact fun h=>h
   | some q =>
    obtain ⟨q,ρ2⟩:=q
    cases q with
    | ex C=>exact fun h=>h
    | ok d nw =>
     cases d<;>first | exact fun h=>h.elim | skip
     rename_i k
     cases k with
     | true=>exact fun h v H2 W2 fr2 sub2 P2=>⟨true,P2.plain.1,F,ρ2,W2,P2.plain.2,OkV.go h fr2 sub2⟩
     | false=>exact fun h v H2 W2 fr2 sub2 P2=>⟨false,P2.plain.1,h (.bl false) H2 W2 fr2 sub2 ⟨rfl,P2.plain.2⟩⟩⟩⟩
theorem c_not{f:SE}(ha:JE X EX a f):JE X EX (.UnaryOp .Not a pos) (fZ f) :=
 ⟨(pe_not ha.p).by fun σ H Q ⟨F,ρ,W,R,h⟩=>⟨F,ρ,W,R,by
   unfold fZ at h
   revert h
   cases f ρ with
   | none=>exact fun h=>h
   | some q =>
    obtain ⟨q,ρ2⟩:=q
    cases q with
    | ex C=>exact fun h=>h
    | ok d nw =>
     cases d<;>first | exact fun h=>h.elim | skip
     exact fun h v H2 W2 fr2 sub2 P2=>⟨_,P2.plain.1,h _ H2 W2 fr2 sub2 ⟨rfl,P2.plain.2⟩⟩⟩⟩
abbrev RSl:=V->Option Int->Option Int->Hp->VK->Prop
noncomputable def rS00(r:RSl):List V->Hp->VK->Prop
 | [x],H,Q=>r x none none H Q
 | _,_,_=>False
noncomputable def rS10(r:RSl):List V->Hp->VK->Prop
 | [x,y],H,Q=>∃ i,y = .int i/\r x (some i) none H Q
 | _,_,_=>False
noncomputable def rS11(r:RSl)(i j:Int):List V->Hp->VK->Prop
 | [x],H,Q=>∃ i',V.int i = .int i'/\∃ j',V.int j = .int j'/\r x (some i') (some j') H Q
 | _,_,_=>False
theorem zf{p2:Pos}{r:RSl}{g:List D->Option (D×Bool)}(ho:SlR X r)(hs:OpS X.K (rS10 r) g)(ha:JB X EX a x)(hb:JB X EX b y):JE X EX (.Subscript a (.Slice (some b) none none p2) pos) (sOp g [x,y]) :=
 ⟨(qB ho ha.p (lC hb.p) Az).by fun σ H Q ⟨F,ρ,W,R,h⟩=>cV hs R h⟩
theorem c_sl11{p2 p3 p4:Pos}{r:RSl}{g:List D->Option (D×Bool)}{i j:Int}{k1 k2}(ho:SlR X r)(hs:OpS X.K (rS11 r i j) g)(ha:JB X EX a x):JE X EX (.Subscript a (.Slice (some (.Constant (.int i) k1 p3)) (some (.Constant (.int j) k2 p4)) none p2) pos) (sOp g [x]) :=
 ⟨(qB ho ha.p (lC aX) (lC aX)).by fun σ H Q ⟨F,ρ,W,R,h⟩=>cV hs R h⟩
end
theorem PS.by{X:Cx}{e:Stmt}{t t':TS}(h:PS X e t)(hi:∀ D σ H,t' D σ H->t D σ H):PS X e t':=fun pins s σ H D I hw=>h pins s σ H D I (hi D σ H hw)
theorem PSs.by{X:Cx}{e:List Stmt}{t t':TS}(h:PSs X e t)(hi:∀ D σ H,t' D σ H->t D σ H):PSs X e t':=fun pins s σ H D I hw=>h pins s σ H D I (hi D σ H hw)
inductive Out where
 | nx | rt (d:D) (nw:Bool) | ex (C:Str) | bk | ct
abbrev SS:=Rho->Option (Out×Rho)
section
variable(K:E2)(F:Fx)(EX:EXT)(σ:St)(H:Hp)(W:List Addr)
noncomputable def rS(σ':St)(H':Hp)(ρ':Rho)(W':List Addr)(d:D):Bool->V->Prop
 | false,v=>ay K (hid (W'++F.Z) H') d v/\Rel K F σ' H' ρ' W'
 | true,v=>∃ p,v = .ref p/\(p∈W\/H p=none)/\p∉W'++F.Z/\aM K H' (hid (p::(W'++F.Z)) H') p d/\Rel K F σ' (hid [p] H') ρ' W'
noncomputable def OkS(o:Option (Out×Rho))(D:mW):Prop:=match o with
 | some (.nx,ρ')=>∀ σ' H' W',Fr W H H'->(∀ p∈W',p∈W\/H p=none)->Rel K F σ' H' ρ' W'->D.nx σ' H'
 | some (.bk,ρ')=>∀ σ' H' W',Fr W H H'->(∀ p∈W',p∈W\/H p=none)->Rel K F σ' H' ρ' W'->D.bk σ' H'
 | some (.ct,ρ')=>∀ σ' H' W',Fr W H H'->(∀ p∈W',p∈W\/H p=none)->Rel K F σ' H' ρ' W'->D.ct σ' H'
 | some (.ex C,ρ')=>∀ σ' H' W',Fr W H H'->(∀ p∈W',p∈W\/H p=none)->Rel K F σ' H' ρ' W'->EX C σ' H'
 | some (.rt d nw,ρ')=>∀ σ' v H' W',Fr W H H'->(∀ p∈W',p∈W\/H p=none)->rS K F H W σ' H' ρ' W' d nw v->D.rt v H'
 | none=>False
end
noncomputable def tVS(K:E2)(EX:EXT)(f:SS):TS:=fun D σ H=>∃ F ρ W,Rel K F σ H ρ W/\OkS K F EX H W (f ρ) D
structure JS(X:Cx)(EX:EXT)(e:Stmt)(f:SS):Prop where
 p:PS X e (tVS X.K EX f)
structure JSs(X:Cx)(EX:EXT)(e:List Stmt)(f:SS):Prop where
 p:PSs X e (tVS X.K EX f)
section
variable{K:E2}{F:Fx}{EX:EXT}{σ σ1:St}{H H1:Hp}{ρ ρ':Rho}{W W1:List Addr}{D:mW}
theorem rS.back{σ':St}{H':Hp}{ρ':Rho}{W':List Addr}{d:L2.D}{nw:Bool}{v:V}(h:rS K F H1 W1 σ' H' ρ' W' d nw v)(fr:∀ b,H1 b=none->H b=none)(sub:∀ p∈W1,p∈W\/H p=none):rS K F H W σ' H' ρ' W' d nw v:=by
 cases nw with
 | false=>exact h
 | true=>obtain ⟨p,h1,h2,h3⟩:=h;exact ⟨p,h1,h2.elim (sub p) fun z=> .inr (fr p z),h3⟩
theorem OkS.go{o:Option (Out×Rho)}(h:OkS K F EX H W o D)(fr:Fr W H H1)(sub:∀ p∈W1,p∈W\/H p=none):OkS K F EX H1 W1 o D:=by
 have sub2:∀ {W2:List Addr},(∀ p∈W2,p∈W1\/H1 p=none)->∀ p∈W2,p∈W\/H p=none:=fun {W2} s2 p hp=>(s2 p hp).elim (sub p) fun z=> .inr (fr.dom p z)
 cases o with
 | none=>exact h
 | some r =>
  obtain ⟨r,ρ1⟩:=r
  cases r with
  | ex C=>exact fun σ2 H2 W2 f2 s2 R2=>h σ2 H2 W2 (fr.trans f2 sub) (sub2 s2) R2
  | nx=>exact fun σ2 H2 W2 f2 s2 R2=>h σ2 H2 W2 (fr.trans f2 sub) (sub2 s2) R2
  | bk=>exact fun σ2 H2 W2 f2 s2 R2=>h σ2 H2 W2 (fr.trans f2 sub) (sub2 s2) R2
  | ct=>exact fun σ2 H2 W2 f2 s2 R2=>h σ2 H2 W2 (fr.trans f2 sub) (sub2 s2) R2
  | rt d nw=>exact fun σ2 v H2 W2 f2 s2 P2=>h σ2 v H2 W2 (fr.trans f2 sub) (sub2 s2) (P2.back fr.dom sub)
theorem gz.r{H':Hp}{ρ':Rho}{W':List Addr}{d:L2.D}{nw:Bool}{v:V}(h:gz K F σ H H' ρ' W' d nw v):rS K F H W σ H' ρ' W' d nw v:=by
 cases nw with
 | false=>exact h
 | true=>obtain ⟨p,h1,h2,h3⟩:=h;exact ⟨p,h1,.inr h2,h3⟩
end
noncomputable def cU:SS:=fun ρ=>some (.nx,ρ)
noncomputable def av(f g:SS):SS:=fun ρ=>match f ρ with
 | some (.nx,ρ1)=>g ρ1
 | r=>r
noncomputable def aU(i:Nat)(f:SE):SS:=fun ρ=>match f ρ with
 | some (.ok d nw,ρ')=>match ρ'[i]? with
  | some _=>some (.nx,ρ'.set i (some (d,if nw then .ow else .fz)))
  | none=>none
 | some (.ex C,ρ')=>some (.ex C,ρ')
 | none=>none
noncomputable def bd(f:SE):SS:=fun ρ=>match f ρ with
 | some (.ok d nw,ρ')=>some (.rt d nw,ρ')
 | some (.ex C,ρ')=>some (.ex C,ρ')
 | none=>none
noncomputable def nP:SS:=fun ρ=>some (.rt .non false,ρ)
noncomputable def df(f:SE):SS:=fun ρ=>match f ρ with
 | some (.ok _ _,ρ')=>some (.nx,ρ')
 | some (.ex C,ρ')=>some (.ex C,ρ')
 | none=>none
noncomputable def ci(c:ST)(f g:SS):SS:=fun ρ=>match c ρ with
 | some (.ok true,ρ1)=>f ρ1
 | some (.ok false,ρ1)=>g ρ1
 | some (.ex C,ρ')=>some (.ex C,ρ')
 | none=>none
noncomputable def fY(i:Nat):SS:=fun ρ=>match ρ[i]? with
 | some (some (d,.fz))=>some (.rt d false,ρ)
 | some (some (d,.ow))=>some (.rt d true,ρ.set i none)
 | _=>none
theorem Rel.move{K:E2}{F:Fx}{σ:St}{H:Hp}{ρ:Rho}{W:List Addr}(R:Rel K F σ H ρ W){i:Nat}{d:D}{p:Addr}(h:ρ[i]?=some (some (d,.ow)))(hp:σ[i]?=some (some (.ref p))) :
 Rel K F σ (hid [p] H) (ρ.set i none) (W.filter fun a=>decide (a≠p))/\p∈W/\p∉(W.filter fun a=>decide (a≠p))++F.Z/\aM K H (hid (p::((W.filter fun a=>decide (a≠p))++F.Z)) H) p d:=by
 obtain ⟨v,hv,q,rfl,hq,hO⟩:=R.slot i d .ow h;rw [hp] at hv;cases hv
 have sub:∀ b,b∈W.filter (fun a=>decide (a≠p))->b∈W/\b≠p:=fun b hb=>by
  have:=Di.mp hb;exact ⟨this.1,Cz this.2⟩
 have pn:p∉(W.filter fun a=>decide (a≠p))++F.Z:=fun z=>by
  rcases CI.mp z with q | q
  ·exact (sub p q).2 rfl
  ·exact R.wz p hq q
 have sh:aa (hid (W++F.Z) H) (hid ((W.filter fun a=>decide (a≠p))++F.Z) (hid [p] H)):=fun b o e=>by
  obtain ⟨h1,h2⟩:=am e
  have bp:b≠p:=fun z=>h1 (Cp _ (z ▸ hq))
  rw [aJ (fun z=>h1 (by
   rcases CI.mp z with q | q
   ·exact Cp _ (sub b q).1
   ·exact Co _ q)),aJ (by simpa using bp)]
  exact h2
 have sh2:aa (hid (W++F.Z) H) (hid (p::((W.filter fun a=>decide (a≠p))++F.Z)) H):=fun b o e=>by
  obtain ⟨h1,h2⟩:=am e
  have bp:b≠p:=fun z=>h1 (Cp _ (z ▸ hq))
  rw [aJ (fun z=>by
   rcases Cr.mp z with q | q
   ·exact bp q
   ·rcases CI.mp q with q | q
    ·exact h1 (Cp _ (sub b q).1)
    ·exact h1 (Co _ q))]
  exact h2
 have neq:∀ r,r≠p->hid [p] H r=H r:=fun r hr=>aJ (by simpa using hr)
 refine ⟨⟨fun j e m hj=> ?_,fun j k e f m n r h1 h2 h3 h4 h5 h6=> ?_,fun r hr=>R.wz r (sub r hr).1,fun r hr=> ?_,by rw [C3];exact R.len⟩,hq,pn,hO.at rfl sh2⟩
 ·rcases be hj with ⟨rfl,e1⟩ | ⟨ne,e1⟩
  ·cases e1
  ·obtain ⟨v,g1,g2⟩:=R.slot j e m e1
   refine ⟨v,g1,?_⟩
   have other:∀ r,v = .ref r->m ≠ .fz->r≠p:=fun r er hm z=>by
    subst er z;exact ne (R.apart j i _ _ _ _ _ e1 hm h (by decide) g1 hp)
   cases m with
   | fz=>exact sh.repD g2
   | ow=>obtain ⟨r,e2,e3,e4⟩:=g2;exact ⟨r,e2,Di.mpr ⟨e3,CK (other r e2 (by decide))⟩,e4.at (neq r (other r e2 (by decide))) sh⟩
   | io=>obtain ⟨r,e2,e3,e4,e5⟩:=g2;exact ⟨r,e2,Di.mpr ⟨e3,CK (other r e2 (by decide))⟩,e4.at (neq r (other r e2 (by decide))) sh,e5⟩
 ·rcases be h1 with ⟨rfl,z⟩ | ⟨_,z⟩
  ·cases z
  ·rcases be h3 with ⟨rfl,z'⟩ | ⟨_,z'⟩
   ·cases z'
   ·exact R.apart j k _ _ _ _ _ z h2 z' h4 h5 h6
 ·have rp:r≠p:=fun z=>by subst z;exact pn hr
  rw [neq r rp]
  rcases CI.mp hr with q | q
  ·exact R.mt r (Cp _ (sub r q).1)
  ·exact R.mt r (Co _ q)
inductive Tg where
 | nm (i:Nat) | tp (ts:List Tg)
mutual
noncomputable def bQ:Tg->D->Rho->Option Rho
 | .nm i,d,ρ=>match ρ[i]? with
  | some _=>some (ρ.set i (some (d,.fz)))
  | none=>none
 | .tp ts,.tup ds,ρ=>cO ts ds ρ
 | .tp ts,.ktup ds,ρ=>cO ts ds ρ
 | .tp _,_,_=>none
noncomputable def cO:List Tg->List D->Rho->Option Rho
 | [],[],ρ=>some ρ
 | t::ts,d::ds,ρ=>match bQ t d ρ with
  | some ρ1=>cO ts ds ρ1
  | none=>none
 | _,_,_=>none
end
mutual
noncomputable def gT(K:E2):Tg->TG
 | .nm i=>dD i
 | .tp ts=>gTup K ts.length (gTs K ts)
noncomputable def gTs(K:E2):List Tg->TGs
 | []=>gNil
 | t::ts=>B8 (gT K t) (gTs K ts)
end
mutual
noncomputable def Tg.ge(n:Nat):Tg->Bool
 | .nm i=>decide (n<=i)
 | .tp ts=>Tg.geL n ts
noncomputable def Tg.geL(n:Nat):List Tg->Bool
 | []=>true
 | t::ts=>Tg.ge n t&&Tg.geL n ts
end
section
variable{K:E2}{F:Fx}{EX:EXT}{H:Hp}{W:List Addr}{Q:St->Hp->Prop}{n:Nat}
theorem eW{H:Hp}{p:Addr}{xs:List V}(h:SqT K (fun _=>none) p xs):SqT K H p xs:=by
 rcases h with (h | ⟨o,h⟩) | h
 ·cases h
 ·cases h
 ·exact .inr h
theorem oJ:∀ {ts:List Tg} {ds:List D} {ρ ρ':Rho},cO ts ds ρ=some ρ'->ds.length=ts.length
 | [],[],_,_,_=>rfl
 | [],_::_,_,_,h=>by unfold cO at h;cases h
 | _::_,[],_,_,h=>by unfold cO at h;cases h
 | t::ts,d::ds,ρ,ρ',h=>by
  unfold cO at h
  cases e:bQ t d ρ with
  | none=>rw [e] at h;cases h
  | some ρ1=>rw [e] at h;rw [CA,CA,oJ h]
mutual
theorem uK:∀ (T:Tg) {d:D} {v:V} {σ:St} {ρ ρ':Rho} {Q:St->Hp->Prop},Rel K F σ H ρ W->ay K (hid (W++F.Z) H) d v->bQ T d ρ=some ρ'->(∀ σ',(Tg.ge n T=true->σ'.take n=σ.take n)->Rel K F σ' H ρ' W->Q σ' H)->gT K T v σ H Q
 | .nm i,d,v,σ,ρ,ρ',Q,R,r,e,q=>by
  unfold bQ at e;unfold gT
  cases h:ρ[i]? with
  | none=>rw [h] at e;cases e
  | some z =>
   rw [h] at e;cases e
   have hi:i < σ.length:=by rw [R.len];exact (Cv.mp h).1
   refine q _ (fun hg=> ?_) (R.put hi r);unfold Tg.ge at hg;exact List.take_set_of_le (Cz hg)
 | .tp ts,d,v,σ,ρ,ρ',Q,R,r,e,q=>by
  unfold gT
  have two:∀ ds p xs,v = .ref p->SqT K H p xs->ag K (hid (W++F.Z) H) ds xs->cO ts ds ρ=some ρ'->gTup K ts.length (gTs K ts) v σ H Q:=fun ds p xs e1 e2 e3 e4 =>
   ⟨p,xs,e1,e2,by rw [<- e3.len];exact oJ e4,yr ts R e3 e4 fun σ' h1 h2=>q σ' (fun hg=>h1 (by unfold Tg.ge at hg;exact hg)) h2⟩
  cases d<;>first
   | (unfold bQ at e;cases e;done)
   | (obtain ⟨p,xs,e1,e2,e3⟩:=r;unfold bQ at e;exact two _ p xs e1 (.inl (.inl (am e2).2)) e3 e)
   | (obtain ⟨p,xs,e1,e2,e3⟩:=r;unfold bQ at e;exact two _ p xs e1 (eW e2) e3 e)
theorem yr:∀ (ts:List Tg) {ds:List D} {vs:List V} {σ:St} {ρ ρ':Rho} {Q:St->Hp->Prop},Rel K F σ H ρ W->ag K (hid (W++F.Z) H) ds vs->cO ts ds ρ=some ρ'->(∀ σ',(Tg.geL n ts=true->σ'.take n=σ.take n)->Rel K F σ' H ρ' W->Q σ' H)->gTs K ts vs σ H Q
 | [],ds,vs,σ,ρ,ρ',Q,R,r,e,q=>by
  unfold gTs
  cases ds with
  | cons _ _=>unfold cO at e;cases e
  | nil =>
   unfold cO at e;cases e
   cases vs with
   | cons _ _=>exact r.elim
   | nil=>exact ⟨rfl,q σ (fun _=>rfl) R⟩
 | t::ts,ds,vs,σ,ρ,ρ',Q,R,r,e,q=>by
  unfold gTs
  cases ds with
  | nil=>unfold cO at e;cases e
  | cons d ds =>
   cases vs with
   | nil=>exact r.elim
   | cons v vs =>
    unfold cO at e
    cases h:bQ t d ρ with
    | none=>rw [h] at e;cases e
    | some ρ1 =>
     rw [h] at e;refine ⟨v,vs,rfl,uK t R r.1 h fun σ1 h1 R1=>yr ts R1 r.2 e fun σ2 h2 R2=>q σ2 (fun hg=> ?_) R2⟩;unfold Tg.geL at hg;have:=(CD _ _).mp hg;exact (h2 this.2).trans (h1 this.1)
end
end
structure JG(X:Cx)(e:Expr)(T:Tg):Prop where
 p:PG X e (gT X.K T)
structure JGs(X:Cx)(es:List Expr)(ts:List Tg):Prop where
 p:PGs X es (gTs X.K ts)
noncomputable def jw(T:Tg)(f:SE):SS:=fun ρ=>match f ρ with
 | some (.ok d _,ρ')=>match bQ T d ρ' with
  | some ρ2=>some (.nx,ρ2)
  | none=>none
 | some (.ex C,ρ')=>some (.ex C,ρ')
 | none=>none
noncomputable def vf(i:Nat)(op:Int->Int->Int)(f:SE):SS:=fun ρ=>match ρ[i]? with
 | some (some (.int a,.fz))=>match f ρ with
  | some (.ok (.int b) _,ρ')=>match ρ'[i]? with
   | some _=>some (.nx,ρ'.set i (some (.int (op a b),.fz)))
   | none=>none
  | some (.ok _ _,_)=>none
  | some (.ex C,ρ')=>some (.ex C,ρ')
  | none=>none
 | _=>none
section
variable{X:Cx}{EX:EXT}{a b c e:Expr}{es:List Expr}{st:Stmt}{cw:List Stmt}{pos:Pos}
theorem BO:JSs X EX [] cU:=⟨o7.by fun D σ H ⟨F,ρ,W,R,h⟩=>h σ H W .refl (fun _ z=> .inl z) R⟩
theorem eZ{f g:SS}(h1:JS X EX st f)(h2:JSs X EX cw g):JSs X EX (st::cw) (av f g) :=
 ⟨(bc h1.p h2.p).by fun D σ H ⟨F,ρ,W,R,h⟩=>⟨F,ρ,W,R,by
   unfold av at h
   revert h
   cases f ρ with
   | none=>exact fun h=>h
   | some q =>
    obtain ⟨q,ρ2⟩:=q
    cases q with
    | nx=>exact fun h σ2 H2 W2 fr2 sub2 R2=>⟨F,ρ2,W2,R2,OkS.go h fr2 sub2⟩
    | _=>exact fun h=>h⟩⟩
theorem wP{f:SS}(h:JS X EX st f):JSs X EX [st] f:=⟨iq h.p⟩
theorem set_ok{K:E2}{F:Fx}{σ:St}{H H':Hp}{ρ':Rho}{W':List Addr}{d:D}{nw:Bool}{v:V}{i:Nat}(P:gz K F σ H H' ρ' W' d nw v)(hi:i < ρ'.length) :
 ∃ W2,(∀ p∈W2,p∈W'\/H p=none)/\Rel K F (σ.set i (some v)) H' (ρ'.set i (some (d,if nw then .ow else .fz))) W2:=by
 cases nw with
 | false=>exact ⟨W',fun p hp=> .inl hp,P.2.put (by rw [P.2.len];exact hi) P.1⟩
 | true =>
  obtain ⟨p,rfl,hp,hn,hO,R⟩:=P;exact ⟨p::W',fun q hq=>(Cr.mp hq).elim (fun z=> .inr (by rw [z];exact hp)) .inl,R.own (by rw [R.len];exact hi) hn hO⟩
theorem zj{i:Nat}{f:SE}{D:mW}{σ:St}{H:Hp}(h:tVS X.K EX (aU i f) D σ H):tV X.K EX f σ H fun x H1=>D.nx (σ.set i (some x)) H1:=by
 obtain ⟨F,ρ,W,R,h⟩:=h;refine ⟨F,ρ,W,R,?_⟩;unfold aU at h
 revert h
 cases f ρ with
 | none=>exact fun h=>h
 | some q =>
  obtain ⟨q,ρ2⟩:=q
  cases q with
  | ex C=>exact fun h H2 W2 fr2 sub2 R2=>h σ H2 W2 fr2 (fun p hp=> .inl (sub2 p hp)) R2
  | ok d nw =>
   dsimp only
   cases e:ρ2[i]? with
   | none=>exact fun h=>h.elim
   | some z =>
    intro h v H2 W2 fr2 sub2 P2;obtain ⟨W3,s3,R3⟩:=set_ok P2 (Cv.mp e).1;exact h _ H2 W3 fr2 (fun p hp=>(s3 p hp).imp (sub2 p) id) R3
theorem lM{i:Nat}{x:Str}{f:SE}{pos':Pos}(hN:X.N.Nodup)(hi:X.N[i]?=some x)(hx:Loc X.env.scope x)(he:JE X EX e f)(hs:swapsWith e (some (.Name x pos')) pos.line X.env=pure false:=by rfl)(hf:X.fn x=true\/X.env.scope.names.lookup x=some .local:=by first | exact .inl rfl | exact .inr rfl | assumption) :
 JS X EX (.Assign [.Name x pos'] e pos) (aU i f):=⟨(dL hN hi hx he.p hs hf).by fun D σ H h=>zj h⟩
theorem sY{i:Nat}{x:Str}(hN:X.N.Nodup)(hi:X.N[i]?=some x)(hx:Loc X.env.scope x)(hf:X.fn x=true\/X.env.scope.names.lookup x=some .local:=by first | exact .inl rfl | exact .inr rfl | assumption):JG X (.Name x pos) (.nm i):=⟨by unfold gT;exact AD hN hi hx hf⟩
theorem g_nil:JGs X [] []:=⟨by unfold gTs;exact AC⟩
theorem g_cons{T:Tg}{ts:List Tg}(h1:JG X e T)(h2:JGs X es ts)(hs:(assignEach (e::es) X.env).map (·.2)=assign e X.env::(assignEach es X.env).map (·.2):=by rfl):JGs X (e::es) (T::ts):=⟨by unfold gTs;exact xw h1.p h2.p hs⟩
theorem g_tup{k:Nat}{ts:List Tg}(hc:X.calm=true)(h:JGs X es ts)(hn:(assignEach es X.env).length=ts.length:=by rfl)(hst:(assignEach es X.env).findIdx? (·.1)=none:=by rfl):JG X (.Tuple es k pos) (.tp ts):=⟨by unfold gT;exact pg_tup hc h.p hn hst⟩
theorem s_asg{f:SE}{T:Tg}(he:JE X EX e f)(hg:JG X a T)(hs:swapsWithSole [a] e pos.line X.env=pure false:=by rfl)(hw:swappedStores [a] e X.env=pure none:=by rfl)
 (h1:(assignEach [a] X.env).map (·.2)=[assign a X.env]:=by rfl):JS X EX (.Assign [a] e pos) (jw T f) :=
 ⟨(lY he.p hg.p hs hw h1).by fun D σ H ⟨F,ρ,W,R,h⟩=>⟨F,ρ,W,R,by
   unfold jw at h
   revert h
   cases f ρ with
   | none=>exact fun h=>h
   | some q =>
    obtain ⟨q,ρ2⟩:=q
    cases q with
    | ex C=>exact fun h H2 W2 fr2 sub2 R2=>h σ H2 W2 fr2 (fun p hp=> .inl (sub2 p hp)) R2
    | ok d nw =>
     dsimp only
     cases e:bQ T d ρ2 with
     | none=>exact fun h=>h.elim
     | some ρ3 =>
      intro h v H2 W2 fr2 sub2 P2
      exact uK (n:=0) T P2.plain.2 P2.plain.1 e fun σ' _ R'=>h σ' H2 W2 fr2 (fun p hp=> .inl (sub2 p hp)) R'⟩⟩
theorem BN{f:SE}(he:JE X EX e f):JS X EX (.Return (some e) pos) (bd f) :=
 ⟨(lX he.p).by fun D σ H ⟨F,ρ,W,R,h⟩=>⟨F,ρ,W,R,by
   unfold bd at h
   revert h
   cases f ρ with
   | none=>exact fun h=>h
   | some q =>
    obtain ⟨q,ρ2⟩:=q
    cases q with
    | ex C=>exact fun h H2 W2 fr2 sub2 R2=>h σ H2 W2 fr2 (fun p hp=> .inl (sub2 p hp)) R2
    | ok d nw=>exact fun h v H2 W2 fr2 sub2 P2=>h σ v H2 W2 fr2 (fun p hp=> .inl (sub2 p hp)) P2.r⟩⟩
theorem s_retV{i:Nat}{n:Str}{p2:Pos}(hN:X.N[i]?=some n)(hv:Vis X.env.scope n)(hd:(n == ("__debug__" : Str))=false:=by decide)(hcd:(n == ("__classdict__" : Str))=false:=by decide):JS X EX (.Return (some (.Name n p2)) pos) (fY i) :=
 ⟨(lX (gP hN hv hd hcd)).by fun D σ H ⟨F,ρ,W,R,h⟩=>by
   unfold fY at h
   revert h
   cases e:ρ[i]? with
   | none=>exact fun h=>h.elim
   | some z =>
    cases z with
    | none=>exact fun h=>h.elim
    | some z =>
     obtain ⟨d,m⟩:=z;obtain ⟨v,hv,ok⟩:=R.slot i d m e
     cases m with
     | io=>exact fun h=>h.elim
     | fz=>exact fun h=>⟨v,hv,h σ v H W .refl (fun _ z=> .inl z) ⟨ok,R⟩⟩
     | ow =>
      intro h;obtain ⟨p,rfl,hp,hO⟩:=ok;obtain ⟨R',m1,m2,m3⟩:=R.move e hv
      exact ⟨_,hv,h σ _ H _ .refl (fun q hq=> .inl (Di.mp hq).1) ⟨p,rfl,.inl m1,m2,m3,R'⟩⟩⟩
theorem s_expr{f:SE}(he:JE X EX e f)(hs:swapsWith e none pos.line X.env=pure false:=by rfl):JS X EX (.Expr e pos) (df f) :=
 ⟨(uv he.p hs).by fun D σ H ⟨F,ρ,W,R,h⟩=>⟨F,ρ,W,R,by
   unfold df at h
   revert h
   cases f ρ with
   | none=>exact fun h=>h
   | some q =>
    obtain ⟨q,ρ2⟩:=q
    cases q with
    | ex C=>exact fun h H2 W2 fr2 sub2 R2=>h σ H2 W2 fr2 (fun p hp=> .inl (sub2 p hp)) R2
    | ok d nw=>exact fun h v H2 W2 fr2 sub2 P2=>h σ H2 W2 fr2 (fun p hp=> .inl (sub2 p hp)) P2.plain.2⟩⟩
theorem s_if{t:ST}{f g:SS}{as bs:List Stmt}(hc:JT X EX c t)(ha:JSs X EX as f)(hb:JSs X EX bs g):JS X EX (.If c as bs pos) (ci t f g) :=
 ⟨(uu hc.p ha.p hb.p).by fun D σ H ⟨F,ρ,W,R,h⟩=>⟨F,ρ,W,R,by
   unfold ci at h
   revert h
   cases t ρ with
   | none=>exact fun h=>h
   | some q =>
    obtain ⟨q,ρ2⟩:=q
    cases q with
    | ex C=>exact fun h H2 W2 fr2 sub2 R2=>h σ H2 W2 fr2 (fun p hp=> .inl (sub2 p hp)) R2
    | ok k =>
     cases k with
     | true=>exact fun h H2 W2 fr2 sub2 R2=>⟨F,ρ2,W2,R2,OkS.go h fr2 fun p hp=> .inl (sub2 p hp)⟩
     | false=>exact fun h H2 W2 fr2 sub2 R2=>⟨F,ρ2,W2,R2,OkS.go h fr2 fun p hp=> .inl (sub2 p hp)⟩⟩⟩
end
mutual
noncomputable def eR:D->Bool
 | .lst _=>false
 | .klst _=>false
 | .dK _ _=>false
 | .dT _ _=>false
 | .tup ds=>bW ds
 | .ktup ds=>bW ds
 | _=>true
noncomputable def bW:List D->Bool
 | []=>true
 | d::ds=>eR d&&bW ds
end
noncomputable def cn:D->Bool
 | .lst ds=>bW ds
 | .dK _ ds=>bW ds
 | .dT _ ds=>bW ds
 | _=>false
section
variable{K:E2}{H:Hp}{L1 L2:List Addr}
theorem jG{p:Addr}{o:HO}(h:hid L1 H p=some o)(hm:∀ p∈L2,dO (H p))(no:¬ dO (some o)):hid L2 H p=some o:=by
 have e:=(am h).2;rw [aJ fun z=>no (by have:=hm p z;rw [e] at this;exact this)];exact e
mutual
theorem ay.flat(hm:∀ p∈L2,dO (H p)):∀ {d:D} {v:V},eR d=true->ay K (hid L1 H) d v->ay K (hid L2 H) d v
 | .non,_,_,h=>h
 | .bl _,_,_,h=>h
 | .int _,_,_,h=>h
 | .str _,_,_,h=>h
 | .tup _,_,f,⟨p,xs,h1,h2,h3⟩=>⟨p,xs,h1,jG h2 hm (fun z=>z),ag.flat hm (by unfold eR at f;exact f) h3⟩
 | .ktup _,_,f,⟨p,xs,h1,h2,h3⟩=>⟨p,xs,h1,h2,ag.flat hm (by unfold eR at f;exact f) h3⟩
 | .lst _,_,f,_=>by unfold eR at f;cases f
 | .klst _,_,f,_=>by unfold eR at f;cases f
 | .dK _ _,_,f,_=>by unfold eR at f;cases f
 | .dT _ _,_,f,_=>by unfold eR at f;cases f
 | .set _,_,_,⟨p,S,h1,h2,h3⟩=>⟨p,S,h1,jG h2 hm (fun z=>z),h3⟩
 | .rng _ _,_,_,⟨p,h1,h2⟩=>⟨p,h1,jG h2 hm (fun z=>z)⟩
 | .exc _,_,_,⟨p,C,h1,h2,h3⟩=>⟨p,C,h1,h2,jG h3 hm (fun z=>z)⟩
theorem ag.flat(hm:∀ p∈L2,dO (H p)):∀ {ds:List D} {xs:List V},bW ds=true->ag K (hid L1 H) ds xs->ag K (hid L2 H) ds xs
 | [],[],_,_=>trivial
 | _::_,_::_,f,h=>by
  unfold bW at f;have f:=(CD _ _).mp f;exact ⟨ay.flat hm f.1 h.1,ag.flat hm f.2 h.2⟩
 | [],_::_,_,h=>h.elim
 | _::_,[],_,h=>h.elim
end
theorem aM.flat{H':Hp}{p:Addr}{d:D}(hm:∀ p∈L2,dO (H p))(f:cn d=true)(h:aM K H' (hid L1 H) p d):aM K H' (hid L2 H) p d:=by
 cases d<;>first
  | exact h.elim
  | (obtain ⟨xs,h1,h2,h3⟩:=h;exact ⟨xs,h1,h2,ag.flat hm f h3⟩)
  | (obtain ⟨xs,h1,h2⟩:=h;exact ⟨xs,h1,ag.flat hm f h2⟩)
end
abbrev FS:=List D->Option (Res×D)
noncomputable def spF(K:E2)(io:Option Nat)(run:FS):Sp:=fun vs H Q E=>∃ (Z W:List Addr) (ds:List D),
 vs.length=ds.length/\(∀ p∈W,p∉Z)/\(∀ p∈W++Z,dO (H p)) /\
 (∀ (j:Nat) (d:D) (v:V),io≠some j->ds[j]?=some d->vs[j]?=some v->ay K (hid (W++Z) H) d v) /\
 (∀ k,io=some k->∃ p d,vs[k]?=some (V.ref p)/\ds[k]?=some d/\W=[p]/\aM K H (hid (W++Z) H) p d) /\
 (io=none->W=[]) /\
 match run ds with
 | some (.ok d false,dio)=>∀ v H',Fr W H H'->ay K (hid (W++Z) H') d v->(∀ p,W=[p]->aM K H' (hid (W++Z) H') p dio)->Q v H'
 | some (.ok d true,dio)=>∀ q H',Fr W H H'->H q=none->aM K H' (hid (q::(W++Z)) H') q d->(∀ p,W=[p]->aM K H' (hid (q::(W++Z)) H') p dio)->Q (.ref q) H'
 | some (.ex C,dio)=>∀ H',Fr W H H'->(∀ p,W=[p]->aM K H' (hid (W++Z) H') p dio)->∀ a,h9 K C a->∀ x,E (.ref a) x H'
 | none=>False
noncomputable def jh(io:Option Nat):Nat->List D->Rho
 | _,[]=>[]
 | j,d::ds=>some (d,if io=some j then .io else .fz)::jh io (j+1) ds
noncomputable def ini(n:Nat)(io:Option Nat)(ds:List D):Rho:=jh io 0 ds++List.replicate (n - ds.length) none
noncomputable def ioD(io:Option Nat)(ρ:Rho):Option D:=match io with
 | none=>some .non
 | some k=>match ρ[k]? with
  | some (some (d,.io))=>some d
  | _=>none
noncomputable def aA(np n:Nat)(io:Option Nat)(body:SS):FS:=fun ds=>if ds.length=np then
 match body (ini n io ds) with
 | some (.rt d nw,ρ')=>match ioD io ρ' with
  | some x=>some (.ok d nw,x)
  | none=>none
 | some (.nx,ρ')=>match ioD io ρ' with
  | some x=>some (.ok .non false,x)
  | none=>none
 | some (.ex C,ρ')=>match ioD io ρ' with
  | some x=>some (.ex C,x)
  | none=>none
 | _=>none else none
theorem jE{io:Option Nat}:∀ {j:Nat} {ds:List D},(jh io j ds).length=ds.length
 | _,[]=>rfl
 | j,_::ds=>by unfold jh;rw [CA,CA,jE]
theorem qQ{io:Option Nat}:∀ {j i:Nat} {ds:List D} {d:D} {m:Md},(jh io j ds)[i]?=some (some (d,m))->ds[i]?=some d/\m=if io=some (j+i) then .io else .fz
 | j,i,[],d,m,h=>by unfold jh at h;simp at h
 | j,0,x::ds,d,m,h=>by
  unfold jh at h;simp only [CM,Option.some.injEq,Prod.mk.injEq] at h;exact ⟨by rw [<- h.1];rfl,by rw [<- h.2];rfl⟩
 | j,i+1,x::ds,d,m,h=>by
  unfold jh at h;simp only [CS] at h;obtain ⟨h1,h2⟩:=qQ h;exact ⟨by simpa using h1,by rw [h2,show j+1+i=j+(i+1) by omega]⟩
theorem pA{n:Nat}{io:Option Nat}{i:Nat}{ds:List D}{d:D}{m:Md}(h:(ini n io ds)[i]?=some (some (d,m))):ds[i]?=some d/\m=if io=some i then .io else .fz:=by
 unfold ini at h
 by_cases hi:i < ds.length
 ·rw [CV (by rw [jE];exact hi)] at h
  have:=qQ h;rw [Db] at this;exact this
 ·rw [DA (by rw [jE];omega),DZ] at h
  split at h<;>cases h
noncomputable def EXf(K:E2)(E:XK):EXT:=fun nm _ H=>∀ C,h9 K nm C->∀ x,E (.ref C) x H
theorem Fun.okX{P:Program}{w:World}{K:E2}{mg:Str->Option Value}{base:Heap}{x:Str}{st:Stmt}{N ps:List Str}{k:Nat}{sp:Sp}{f:Addr}{fd:FuncData}(F:Fun K x x st f fd)(S:cZ N ps (ac st))(len:∀ vs H Q E,sp vs H Q E->vs.length=ps.length)
 (hbody:∀ (f:Addr) (cdv:Value) (A:Around) (outer:List Env) (s:Shared) (H:Hp) (vs:List V) (Q:VK) (E:XK),cx k (A.deeper (envOfC x (ac st) s.heap.objs.size f cdv))->sp vs H Q E ->
   ∃ t,PSs (bX (CXr P w) P w K mg base N x (ac st) f cdv A outer s H E) (bf st) t/\t { nx:=fun _ H'=>Q .non H',rt:=Q } (cQ N vs) H):jS P w K mg base (CXr P w) (k+1) f fd ps sp:=by
 obtain ⟨oc,od,kV,doc,pm,an,cdv,ct,osl,rfl,lk,hcd⟩:=F.ex
 exact B9 lk hcd S len fun A outer s H vs Q E hr hsp=>hbody f cdv A outer s H vs Q E hr hsp
theorem tG{f0:Addr}{fd0:FuncData}{P:Program}{w:World}{K:E2}{mg:Str->Option Value}{base:Heap}{x:Str}{st:Stmt}{N ps:List Str}{k:Nat}{io:Option Nat}{body:SS}(h:Fun K x x st f0 fd0)(S:cZ N ps (ac st))
 (hb:∀ (f:Addr) (cdv:Value) (A:Around) (outer:List Env) (s:Shared) (H:Hp) (E:XK),cx k (A.deeper (envOfC x (ac st) s.heap.objs.size f cdv)) ->
   JSs (bX (CXr P w) P w K mg base N x (ac st) f cdv A outer s H E) (EXf K E) (bf st) body) (hps:ps.length<=N.length:=by decide):jS P w K mg base (CXr P w) (k+1) f0 fd0 ps (spF K io (aA ps.length N.length io body)):=by
 have run_len:∀ {ds:List D} {r:Res×D},aA ps.length N.length io body ds=some r->ds.length=ps.length:=fun {ds r} e=>by
  unfold aA at e
  split at e
  ·assumption
  ·cases e
 refine Fun.okX h S (fun vs H Q E hs=> ?_) (fun f cdv A outer s H vs Q E hr hs=> ?_)
 ·obtain ⟨Z,W,ds,h1,_,_,_,_,_,hm⟩:=hs
  cases e:aA ps.length N.length io body ds with
  | none=>rw [e] at hm;exact hm.elim
  | some r=>rw [h1];exact run_len e
 ·obtain ⟨Z,W,ds,h1,hwz,hmt,hfz,hio,hno,hm⟩:=hs
  refine ⟨_,(hb f cdv A outer s H E hr).p,?_⟩
  have hlen:ds.length=ps.length:=by
   cases e:aA ps.length N.length io body ds with
   | none=>rw [e] at hm;exact hm.elim
   | some r=>exact run_len e
  let F:Fx:=⟨Z,fun j=>if io=some j then W.head? else none⟩
  have st_get:∀ {j:Nat} {v:V},vs[j]?=some v->(cQ N vs)[j]?=some (some v):=fun {j v} e=>by
   unfold cQ;rw [CV (by rw [Ci];exact (Cv.mp e).1),CG,e];rfl
  have R0:Rel K F (cQ N vs) H (ini N.length io ds) W:=by
   refine ⟨fun i d m hi=> ?_,fun i j d e m n p g1 g2 g3 g4 _ _=> ?_,hwz,hmt,?_⟩
   ·obtain ⟨hd,rfl⟩:=pA hi
    have hv:i < vs.length:=by rw [h1];exact (Cv.mp hd).1
    refine ⟨vs[i],st_get (Ch hv),?_⟩
    by_cases e:io=some i
    ·rw [if_pos e]
     obtain ⟨p,d',q1,q2,q3,q4⟩:=hio i e;rw [Ch hv] at q1;rw [hd] at q2;cases q2;refine ⟨p,Option.some.inj q1,by rw [q3];exact Cs,q4,?_⟩
     show (if io=some i then W.head? else none)=some p
     rw [if_pos e,q3];rfl
    ·rw [if_neg e]
     exact hfz i d _ e hd (Ch hv)
   ·obtain ⟨_,e1⟩:=pA g1
    obtain ⟨_,e2⟩:=pA g3
    by_cases z1:io=some i
    ·by_cases z2:io=some j
     ·rw [z1] at z2;exact Option.some.inj z2
     ·rw [if_neg z2] at e2;exact absurd e2 g4
    ·rw [if_neg z1] at e1;exact absurd e1 g2
   ·unfold cQ ini
    rw [Cy,Cy,Ci,Dj,Dj,jE,h1]
  refine ⟨F,_,W,R0,?_⟩
  have ioR:∀ {σ':St} {H':Hp} {ρ':Rho} {W':List Addr} {x:D} {p:Addr},Rel K F σ' H' ρ' W'->ioD io ρ'=some x->W=[p]->p∈W'/\aM K H' (hid (W'++Z) H') p x:=fun {σ' H' ρ' W' x p} R e hW=>by
   cases hk:io with
   | none=>rw [hno hk] at hW;cases hW
   | some k =>
    unfold ioD at e;rw [hk] at e;dsimp only at e
    split at e
    ·rename_i d0 e0
     cases e;obtain ⟨v,g1,q,g2,g3,g4,g5⟩:=R.slot k _ _ e0;have g5:(if io=some k then W.head? else none)=some q:=g5;rw [if_pos hk,hW] at g5;have:p=q:=Option.some.inj g5;subst this;exact ⟨g3,g4⟩
    ·cases e
  have wsub:∀ {σ':St} {H':Hp} {ρ':Rho} {W':List Addr} {x:D},Rel K F σ' H' ρ' W'->ioD io ρ'=some x->∀ b,b∈W++Z->b∈W'++Z:=fun {σ' H' ρ' W' x} R e b hb=>by
   rcases CI.mp hb with z | z
   ·cases hk:io with
    | none=>rw [hno hk] at z;cases z
    | some k =>
     obtain ⟨p,d,_,_,q3,_⟩:=hio k hk;rw [q3] at z;rw [CC.mp z];exact Cp _ (ioR R e q3).1
   ·exact Co _ z
  have toW:∀ {σ':St} {H' H2:Hp} {ρ':Rho} {W':List Addr} {x:D},Rel K F σ' H2 ρ' W'->ioD io ρ'=some x->aa (hid (W'++Z) H') (hid (W++Z) H'):=fun R e=>aD (fun b hb=> .inl (wsub R e b hb)) fun b o _ z=>z
  revert hm
  unfold aA;rw [if_pos hlen]
  cases body (ini N.length io ds) with
  | none=>exact fun h=>h.elim
  | some r =>
   obtain ⟨r,ρ'⟩:=r
   cases r with
   | bk=>exact fun h=>h.elim
   | ct=>exact fun h=>h.elim
   | nx =>
    dsimp only
    cases e:ioD io ρ' with
    | none=>exact fun h=>h.elim
    | some x =>
     intro hm σ' H' W' fr sub R
     exact hm .non H' fr rfl fun p hp=>(ioR R e hp).2.at rfl (toW R e)
   | ex C =>
    dsimp only
    cases e:ioD io ρ' with
    | none=>exact fun h=>h.elim
    | some x =>
     intro hm σ' H' W' fr sub R
     exact hm H' fr fun p hp=>(ioR R e hp).2.at rfl (toW R e)
   | rt d nw =>
    dsimp only
    cases e:ioD io ρ' with
    | none=>exact fun h=>h.elim
    | some x =>
     cases nw with
     | false =>
      intro hm σ' v H' W' fr sub P
      exact hm v H' fr ((toW P.2 e).repD P.1) fun p hp=>(ioR P.2 e hp).2.at rfl (toW P.2 e)
     | true =>
      intro hm σ' v H' W' fr sub P;obtain ⟨q,rfl,hq,hn,hO,R⟩:=P
      have hq0:H q=none:=by
       rcases hq with z | z
       ·cases hk:io with
        | none=>rw [hno hk] at z;cases z
        | some k =>
         obtain ⟨p,d',_,_,q3,_⟩:=hio k hk;rw [q3] at z;have:q=p:=CC.mp z;subst this;exact absurd (Cp _ (ioR R e q3).1) hn
       ·exact z
      have cs:aa (hid (q::(W'++Z)) H') (hid (q::(W++Z)) H'):=aD (fun b hb=> .inl (by
       rcases Cr.mp hb with z | z
       ·rw [z];exact Cs
       ·exact Cn _ (wsub R e b z))) fun b o _ z=>z
      refine hm q H' fr hq0 (hO.at rfl cs) fun p hp=> ?_
      obtain ⟨m1,m2⟩:=ioR R e hp
      have pq:p≠q:=fun z=>by subst z;exact hn (Cp _ m1)
      refine m2.at (aJ (by simpa using pq)).symm fun b o z=> ?_
      obtain ⟨z1,z2⟩:=am z;obtain ⟨z3,z4⟩:=am z2
      rw [aJ (fun y=>by
       rcases Cr.mp y with y | y
       ·exact z3 (by simpa using y)
       ·exact z1 (wsub R e b y))]
      exact z4
theorem fn_ok{P:Program}{w:World}{K:E2}{mg:Str->Option Value}{base:Heap}{x:Str}{st:Stmt}{N ps:List Str}{k:Nat}{io:Option Nat}{body:SS}(h:Has K mg x st ps)(S:cZ N ps (ac st))
 (hb:∀ (f:Addr) (cdv:Value) (A:Around) (outer:List Env) (s:Shared) (H:Hp) (E:XK),cx k (A.deeper (envOfC x (ac st) s.heap.objs.size f cdv)) ->
   JSs (bX (CXr P w) P w K mg base N x (ac st) f cdv A outer s H E) (EXf K E) (bf st) body) (hps:ps.length<=N.length:=by decide):OkX P w K mg base x ps (k+1) (spF K io (aA ps.length N.length io body)):=by
 obtain ⟨f,fd,F,hm,hb'⟩:=h.ex;exact ⟨f,fd,hm,F.kp,hb',tG F S hb hps⟩
section
variable{K:E2}{F:Fx}{EX:EXT}{σ:St}{H H2:Hp}{ρ:Rho}{W:List Addr}
theorem Rel.wrote(R:Rel K F σ H ρ W){i:Nat}{d d':D}{m:Md}{p:Addr}(h:ρ[i]?=some (some (d,m)))(hm:m ≠ .fz)(hp:σ[i]?=some (some (.ref p)))(fr:Fr [p] H H2)(new:aM K H2 (hid (W++F.Z) H2) p d') :
 Rel K F σ H2 (ρ.set i (some (d',m))) W:=by
 obtain ⟨v,hv,hS⟩:=R.slot i d m h;rw [hp] at hv;cases hv
 have hw:p∈W:=by
  cases m with
  | fz=>exact absurd rfl hm
  | ow=>obtain ⟨r,e2,e3,_⟩:=hS;cases e2;exact e3
  | io=>obtain ⟨r,e2,e3,_⟩:=hS;cases e2;exact e3
 have sh:aa (hid (W++F.Z) H) (hid (W++F.Z) H2):=aD (fun b hb=> .inl hb) fun b o n e=>fr.keep b o (fun z=>n (by rw [CC.mp z];exact Cp _ hw)) e
 have eq:∀ r,r≠p->dO (H r)->H2 r=H r:=fun r hr hM=>by
  obtain ⟨u,q⟩:=hM.some;rw [q];exact fr.keep r u (by simpa using hr) q
 refine ⟨fun j e n hj=> ?_,fun j k e f n n' r h1 h2 h3 h4 h5 h6=> ?_,R.wz,fun r hr=> ?_,by rw [C3];exact R.len⟩
 ·rcases be hj with ⟨rfl,e1⟩ | ⟨ne,e1⟩
  ·cases e1
   refine ⟨_,hp,?_⟩
   cases m with
   | fz=>exact absurd rfl hm
   | ow=>exact ⟨p,rfl,hw,new⟩
   | io=>obtain ⟨r,e2,e3,e4,e5⟩:=hS;cases e2;exact ⟨p,rfl,hw,new,e5⟩
  ·obtain ⟨v,g1,g2⟩:=R.slot j e n e1
   refine ⟨v,g1,?_⟩
   have other:∀ r,v = .ref r->n ≠ .fz->r≠p:=fun r er hn z=>by
    subst er z;exact ne (R.apart j i _ _ _ _ _ e1 hn h hm g1 hp)
   cases n with
   | fz=>exact sh.repD g2
   | ow=>obtain ⟨r,e2,e3,e4⟩:=g2;exact ⟨r,e2,e3,e4.at (eq r (other r e2 (by decide)) e4.mu) sh⟩
   | io=>obtain ⟨r,e2,e3,e4,e5⟩:=g2;exact ⟨r,e2,e3,e4.at (eq r (other r e2 (by decide)) e4.mu) sh,e5⟩
 ·have fnd:∀ {j:Nat} {e:D} {n:Md},(ρ.set i (some (d',m)))[j]?=some (some (e,n))->n ≠ .fz->∃ e',ρ[j]?=some (some (e',n)):=fun {j e n} hj hn=>by
   rcases be hj with ⟨rfl,e1⟩ | ⟨_,e1⟩
   ·cases e1;exact ⟨d,h⟩
   ·exact ⟨_,e1⟩
  obtain ⟨_,z1⟩:=fnd h1 h2;obtain ⟨_,z2⟩:=fnd h3 h4;exact R.apart j k _ _ _ _ _ z1 h2 z2 h4 h5 h6
 ·by_cases e:r=p
  ·subst e;exact new.mu
  ·rw [eq r e (R.mt r hr)];exact R.mt r hr
variable(K F σ H ρ W) in
noncomputable def ArgR:Arg->D->V->Prop
 | .ex _,d,v=>ay K (hid (W++F.Z) H) d v
 | .bor i,d,v=>σ[i]?=some (some v)/\∃ m,ρ[i]?=some (some (d,m))
variable(K F σ H ρ W) in
noncomputable def fB:List Arg->List D->List V->Prop
 | [],[],[]=>True
 | a::as,d::ds,v::vs=>ArgR K F σ H ρ W a d v/\fB as ds vs
 | _,_,_=>False
theorem fB.len:∀ {as:List Arg} {ds:List D} {vs:List V},fB K F σ H ρ W as ds vs->vs.length=ds.length
 | [],[],[],_=>rfl
 | _::_,_::_,_::_,h=>by rw [CA,CA,fB.len h.2]
 | [],_::_,_,h=>h.elim
 | [],[],_::_,h=>h.elim
 | _::_,[],_,h=>h.elim
 | _::_,_::_,[],h=>h.elim
theorem fB.get:∀ {as:List Arg} {ds:List D} {vs:List V} {j:Nat} {d:D} {v:V},fB K F σ H ρ W as ds vs->ds[j]?=some d->vs[j]?=some v->∃ a,as[j]?=some a/\ArgR K F σ H ρ W a d v
 | a::_,_::_,_::_,0,d,v,h,e1,e2=>by
  simp only [CM,Option.some.injEq] at e1 e2;subst e1 e2;exact ⟨a,rfl,h.1⟩
 | _::_,_::_,_::_,j+1,d,v,h,e1,e2=>by
  simp only [CS] at e1 e2 ⊢;exact fB.get h.2 e1 e2
 | [],[],[],_,_,_,_,e,_=>by simp at e
 | [],_::_,_,_,_,_,h,_,_=>h.elim
 | [],[],_::_,_,_,_,h,_,_=>h.elim
 | _::_,[],_,_,_,_,h,_,_=>h.elim
 | _::_,_::_,[],_,_,_,h,_,_=>h.elim
theorem fB.at:∀ {as:List Arg} {ds:List D} {vs:List V} {j:Nat} {a:Arg},fB K F σ H ρ W as ds vs->as[j]?=some a->∃ d v,ds[j]?=some d/\vs[j]?=some v/\ArgR K F σ H ρ W a d v
 | a::_,d::_,v::_,0,b,h,e1=>by
  simp only [CM,Option.some.injEq] at e1;subst e1;exact ⟨d,v,rfl,rfl,h.1⟩
 | _::_,_::_,_::_,j+1,a,h,e1=>by
  simp only [CS] at e1 ⊢;exact fB.at h.2 e1
 | [],[],[],_,_,_,e=>by simp at e
 | [],_::_,_,_,_,h,_=>h.elim
 | [],[],_::_,_,_,h,_=>h.elim
 | _::_,[],_,_,_,h,_=>h.elim
 | _::_,_::_,[],_,_,h,_=>h.elim
variable(K F EX) in
noncomputable def OkA2(σ:St)(H:Hp)(W:List Addr)(as:List Arg)(o:Option (pW×Rho))(Q:List V->Hp->Prop):Prop:=match o with
 | some (.ok ds,ρ')=>∀ vs H' W',Fr W H H'->(∀ p∈W',p∈W)->Rel K F σ H' ρ' W'->fB K F σ H' ρ' W' as ds vs->Q vs H'
 | some (.ex C,ρ')=>∀ H' W',Fr W H H'->(∀ p∈W',p∈W)->Rel K F σ H' ρ' W'->EX C σ H'
 | none=>False
theorem t3:∀ (as:List Arg) {H:Hp} {ρ:Rho} {W:List Addr} {Q:List V->Hp->Prop},Rel K F σ H ρ W->OkA2 K F EX σ H W as (evA as ρ) Q->tAs K EX as σ H Q
 | [],H,ρ,W,Q,R,h=>h [] H W .refl (fun _ z=>z) R trivial
 | .ex f::as,H,ρ,W,Q,R,h=>by
  refine ⟨F,ρ,W,R,?_⟩;unfold evA at h
  revert h
  cases f ρ with
  | none=>exact fun h=>h
  | some r =>
   obtain ⟨r,ρ1⟩:=r
   cases r with
   | ex C=>exact fun h=>h
   | ok d nw =>
    intro h v H1 W1 fr sub post;obtain ⟨rd,R1⟩:=post.plain;refine t3 as R1 ?_
    revert h
    dsimp only
    cases evA as ρ1 with
    | none=>exact fun h=>h
    | some q =>
     obtain ⟨q,ρ2⟩:=q
     cases q with
     | ex C=>exact fun h H2 W2 fr2 sub2 R2=>h H2 W2 (fr.trans fr2 fun p hp=> .inl (sub p hp)) (fun p hp=>sub p (sub2 p hp)) R2
     | ok ds =>
      intro h vs H2 W2 fr2 sub2 R2 reps;exact h (v::vs) H2 W2 (fr.trans fr2 fun p hp=> .inl (sub p hp)) (fun p hp=>sub p (sub2 p hp)) R2 ⟨(fr2.hid fun p hp=> .inl (sub2 p hp)).repD rd,reps⟩
 | .bor i::as,H,ρ,W,Q,R,h=>by
  unfold evA at h
  revert h
  cases e:ρ[i]? with
  | none=>exact fun h=>h.elim
  | some z =>
   cases z with
   | none=>exact fun h=>h.elim
   | some dm =>
    obtain ⟨d0,m0⟩:=dm;obtain ⟨v,hv,_⟩:=R.slot i d0 m0 e;intro h;refine ⟨v,hv,t3 as R ?_⟩
    revert h
    dsimp only
    cases evA as ρ with
    | none=>exact fun h=>h
    | some q =>
     obtain ⟨q,ρ2⟩:=q
     cases q with
     | ex C=>exact fun h=>h
     | ok ds =>
      dsimp only
      cases e2:ρ2[i]? with
      | none=>exact fun h=>h.elim
      | some z =>
       cases z with
       | none=>exact fun h=>h.elim
       | some dm =>
        obtain ⟨d,m⟩:=dm;intro h vs H2 W2 fr2 sub2 R2 reps;exact h (v::vs) H2 W2 fr2 sub2 R2 ⟨⟨hv,m,e2⟩,reps⟩
end
structure jU(X:Cx)(EX:EXT):Prop where
 call:∀ {x:Str} {ps:List Str} {k:Nat} {sp:Sp} {e:Expr} {es:List Expr} {t:TA} {p pos:Pos} (h:OkX X.prog X.w X.K X.mg X.base x ps k sp) (hr:cx k X.A) (hg:Gl X x) (ha:PA X (e::es) t) (hdb:(x == ("__debug__" : Str))=false)
  (he:starEach (e::es) X.env=(false,eval e X.env)::starEach es X.env) (hpl:(backTo pos (starEach es X.env)).any (·.1)=false),PE X (.Call (.Name x p) (e::es) [] pos) (fun σ H Q=>t σ H fun vs H1=>sp vs H1 Q fun c _ H'=>∃ nm C,c = .ref C/\h9 X.K nm C/\EX nm σ H')
noncomputable def EXn:EXT:=fun _ _ _=>False
theorem mP{sp:Sp}{Q:VK}{E:XK}:(fun (vs:List V) H1=>sp (vs++[]) H1 Q E)=fun vs H1=>sp vs H1 Q E:=by
 funext vs H1
 rw [DE]
theorem tN{X:Cx}:jU X EXn:=⟨fun {x ps k sp e es t p pos} h hr hg ha hdb he hpl=>by
 obtain ⟨f,fd,hm,hk,hb,F⟩:=h.ex
 refine (o9 F hr hg hm hk hb .nil (E:=fun c _ H'=>∃ nm C,c=Value.ref C/\h9 X.K nm C/\False) (fun _ _ _ _ _ _ _ hZ=>(by obtain ⟨_,_,_,_,_,_,_,_,_,_,_,_,_,_,z⟩:=hZ;exact z.elim)) ha hdb he hpl).by fun σ H Q h=> ?_
 unfold nM;rw [mP]
 exact h⟩
theorem jl{P:Program}{w:World}{K:E2}{mg:Str->Option Value}{base:Heap}{N:List Str}{qual:Str}{scope:Scope}{f:Addr}{cd:Value}{A:Around}{outer:List Env}{s:Shared}{H:Hp}{E:XK} :
 jU (bX (CXr P w) P w K mg base N qual scope f cd A outer s H E) (EXf K E):=⟨fun {x ps k sp e es t p pos} h hr hg ha hdb he hpl=>by
 obtain ⟨f',fd,hm,hk,hb,F⟩:=h.ex
 refine (o9 (X:=bX (CXr P w) P w K mg base N qual scope f cd A outer s H E) F hr hg hm hk hb .nil (E:=fun c _ H'=>∃ nm C,c=Value.ref C/\h9 K nm C/\∀ C',h9 K nm C'->∀ x,E (.ref C') x H') (xE fun c d H' z=>by obtain ⟨nm,C,rfl,hc,z⟩:=z;exact z C hc d) ha hdb he hpl).by fun σ H Q h=> ?_
 unfold nM;rw [mP]
 exact h⟩
theorem tM{X:Cx}{pn:List (Addr×Obj)}{EX:EXT}:jU (qc X pn fun c σ H=>∃ nm C,c = .ref C/\h9 X.K nm C/\EX nm σ H) EX:=⟨fun {x ps k sp e es t p pos} h hr hg ha hdb he hpl=>xC h hr hg ha hdb he hpl⟩
noncomputable def cm(io:Option Nat):Nat->List Arg->Rho->Bool
 | _,[],_=>true
 | j,.ex _::as,ρ=>cm io (j+1) as ρ
 | j,.bor i::as,ρ=>(if io=some j then true else match ρ[i]? with
  | some (some (_,.fz))=>true
  | _=>false)&&cm io (j+1) as ρ
noncomputable def ie(i k:Nat):Nat->List Arg->Bool
 | _,[]=>true
 | j,.ex _::as=>ie i k (j+1) as
 | j,.bor i'::as=>(decide (j=k)||decide (i'≠i))&&ie i k (j+1) as
noncomputable def ioOk(io:Option Nat)(as:List Arg)(slot:Option Nat):Bool:=match io,slot with
 | none,none=>true
 | some k,some i=>(match as[k]? with
  | some (.bor i')=>decide (i'=i)
  | _=>false)&&ie i k 0 as
 | _,_=>false
noncomputable def eG(slot:Option Nat)(dio:D)(ρ:Rho):Option Rho:=match slot with
 | none=>some ρ
 | some i=>match ρ[i]? with
  | some (some (_,.ow))=>some (ρ.set i (some (dio,.ow)))
  | some (some (_,.io))=>some (ρ.set i (some (dio,.io)))
  | _=>none
noncomputable def gp(d:D)(nw:Bool):Bool:=if nw then cn d else eR d
noncomputable def ar(io slot:Option Nat)(run:FS)(as:List Arg):SE:=fun ρ=>match evA as ρ with
 | some (.ok ds,ρ1)=>match run ds with
  | some (.ok d nw,dio)=>if (cm io 0 as ρ1||(gp d nw&&(io.isNone||cn dio)))=true then
   match eG slot dio ρ1 with
   | some ρ2=>some (.ok d nw,ρ2)
   | none=>none
   else none
  | some (.ex C,dio)=>if (cm io 0 as ρ1||(io.isNone||cn dio))=true then
   match eG slot dio ρ1 with
   | some ρ2=>some (.ex C,ρ2)
   | none=>none
   else none
  | none=>none
 | some (.ex C,ρ')=>some (.ex C,ρ')
 | none=>none
theorem ir{io:Option Nat}{ρ:Rho}:∀ {as:List Arg} {j n:Nat} {i:Nat},cm io n as ρ=true->as[j]?=some (.bor i)->io≠some (n+j)->∃ d,ρ[i]?=some (some (d,.fz))
 | [],j,n,i,h,e,_=>by simp at e
 | .ex _::as,0,n,i,h,e,_=>by simp at e
 | .bor i'::as,0,n,i,h,e,ne=>by
  simp only [CM,Option.some.injEq,Arg.bor.injEq] at e;subst e;unfold cm at h;have h:=((CD _ _).mp h).1;rw [if_neg (by simpa using ne)] at h
  split at h
  ·exact ⟨_,by assumption⟩
  ·cases h
 | .ex _::as,j+1,n,i,h,e,ne=>by
  unfold cm at h;exact ir (j:=j) (n:=n+1) h (by simpa using e) (by rw [show n+1+j=n+(j+1) by omega];exact ne)
 | .bor _::as,j+1,n,i,h,e,ne=>by
  unfold cm at h;exact ir (j:=j) (n:=n+1) ((CD _ _).mp h).2 (by simpa using e) (by rw [show n+1+j=n+(j+1) by omega];exact ne)
theorem jm{i k:Nat}:∀ {as:List Arg} {j n:Nat} {i':Nat},ie i k n as=true->as[j]?=some (.bor i')->n+j≠k->i'≠i
 | [],j,n,i',h,e,_=>by simp at e
 | .ex _::as,0,n,i',h,e,_=>by simp at e
 | .bor i2::as,0,n,i',h,e,ne=>by
  simp only [CM,Option.some.injEq,Arg.bor.injEq] at e;subst e;unfold ie at h;have h:=((CD _ _).mp h).1
  rcases (Bool.or_eq_true _ _).mp h with z | z
  ·exact absurd (by simpa using Cz z) ne
  ·exact Cz z
 | .ex _::as,j+1,n,i',h,e,ne=>by
  unfold ie at h;exact jm (j:=j) (n:=n+1) h (by simpa using e) (by omega)
 | .bor _::as,j+1,n,i',h,e,ne=>by
  unfold ie at h;exact jm (j:=j) (n:=n+1) ((CD _ _).mp h).2 (by simpa using e) (by omega)
section
variable{K:E2}{F:Fx}{σ:St}{H:Hp}{ρ:Rho}{W:List Addr}
theorem Bv{io slot:Option Nat}{as:List Arg}{ds:List D}{vs:List V}{dio:D}{ρ2:Rho}(R:Rel K F σ H ρ W)(A:fB K F σ H ρ W as ds vs)(hio:ioOk io as slot=true)(hput:eG slot dio ρ=some ρ2) :
 ∃ Wc Zc,(∀ p∈Wc,p∉Zc)/\(∀ b,b∈Wc++Zc->b∈W++F.Z)/\(∀ p∈Wc,p∈W)/\(cm io 0 as ρ=true->∀ b,b∈W++F.Z->b∈Wc++Zc) /\
  (∀ (j:Nat) (d:D) (v:V),io≠some j->ds[j]?=some d->vs[j]?=some v->ay K (hid (Wc++Zc) H) d v) /\
  (∀ k,io=some k->∃ p d,vs[k]?=some (V.ref p)/\ds[k]?=some d/\Wc=[p]/\aM K H (hid (Wc++Zc) H) p d)/\(io=none->Wc=[]) /\
  ∀ H2,Fr Wc H H2->(∀ p,Wc=[p]->aM K H2 (hid (W++F.Z) H2) p dio)->Rel K F σ H2 ρ2 W:=by
 cases io with
 | none =>
  cases slot with
  | some i=>cases hio
  | none =>
   cases hput
   have fin:∀ H2,Fr [] H H2->Rel K F σ H2 ρ W:=fun H2 fr=>R.same fun b o e=>fr.keep b o (by simp) e
   by_cases hn:cm none 0 as ρ=true
   ·refine ⟨[],W++F.Z,fun p hp=>by simp at hp,fun b hb=>by simpa using hb,fun p hp=>by simp at hp,fun _ b hb=>by simpa using hb,fun j d v _ e1 e2=> ?_,fun k z=>(by cases z),fun _=>rfl,fun H2 fr _=>fin H2 fr⟩
    obtain ⟨a,ea,ra⟩:=A.get e1 e2
    cases a with
    | ex f=>exact ra
    | bor i =>
     obtain ⟨d',hd'⟩:=ir hn ea (by simp);obtain ⟨q1,m,q2⟩:=ra;rw [hd'] at q2;cases q2;obtain ⟨v',q3,q4⟩:=R.slot i _ _ hd';rw [q1] at q3;cases q3;exact q4
   ·refine ⟨[],F.Z,fun p hp=>by simp at hp,fun b hb=>Co _ (by simpa using hb),fun p hp=>by simp at hp,fun z=>absurd z hn,fun j d v _ e1 e2=> ?_,fun k z=>(by cases z),fun _=>rfl,fun H2 fr _=>fin H2 fr⟩
    have sh:aa (hid (W++F.Z) H) (hid ([]++F.Z) H):=aD (fun b hb=> .inl (Co _ (by simpa using hb))) fun b o _ e=>e
    obtain ⟨a,ea,ra⟩:=A.get e1 e2
    cases a with
    | ex f=>exact sh.repD ra
    | bor i =>
     obtain ⟨q1,m,q2⟩:=ra;obtain ⟨v',q3,q4⟩:=R.slot i _ _ q2;rw [q1] at q3;cases q3
     cases m with
     | fz=>exact sh.repD q4
     | ow=>obtain ⟨p,rfl,hp,hO⟩:=q4;exact hO.rep (aJ (by simpa using R.wz p hp)) sh
     | io=>obtain ⟨p,rfl,hp,hO,_⟩:=q4;exact hO.rep (aJ (by simpa using R.wz p hp)) sh
 | some k =>
  cases slot with
  | none=>cases hio
  | some i =>
   have hio:((match as[k]? with
    | some (.bor i')=>decide (i'=i)
    | _=>false)&&ie i k 0 as)=true:=hio
   obtain ⟨h1,hap⟩:=(CD _ _).mp hio
   have hk:as[k]?=some (.bor i):=by
    split at h1
    ·rename_i i' e
     rw [e,Cz h1]
    ·cases h1
   have hm:∃ d0 m,ρ[i]?=some (some (d0,m))/\m ≠ .fz/\ρ2=ρ.set i (some (dio,m)):=by
    unfold eG at hput;dsimp only at hput
    split at hput
    ·rename_i d0 e;cases hput;exact ⟨d0,_,e,by decide,rfl⟩
    ·rename_i d0 e;cases hput;exact ⟨d0,_,e,by decide,rfl⟩
    ·cases hput
   obtain ⟨d0,m,e0,hmf,rfl⟩:=hm;obtain ⟨v0,g1,g2⟩:=R.slot i d0 m e0
   have own:∃ p,v0 = .ref p/\p∈W/\aM K H (hid (W++F.Z) H) p d0:=by
    cases m with
    | fz=>exact absurd rfl hmf
    | ow=>exact g2
    | io=>obtain ⟨p,z1,z2,z3,_⟩:=g2;exact ⟨p,z1,z2,z3⟩
   obtain ⟨p,rfl,hpW,hO⟩:=own;obtain ⟨dk,vk,f1,f2,f3,mk,f4⟩:=A.at hk;rw [g1] at f3;cases f3;rw [e0] at f4;cases f4
   have fin:∀ H2,Fr [p] H H2->(∀ q,[p]=[q]->aM K H2 (hid (W++F.Z) H2) q dio)->Rel K F σ H2 (ρ.set i (some (dio,m))) W:=fun H2 fr new=>R.wrote e0 hmf g1 fr (new p rfl)
   have oth:∀ (j:Nat) (i':Nat) (d:D) (v:V) (m':Md),some k≠some j->as[j]?=some (.bor i')->σ[i']?=some (some v)->ρ[i']?=some (some (d,m'))->m' ≠ .fz->v ≠ .ref p:=fun j i' d v m' ne ea q1 q2 hm' z=>by
    have ni:i'≠i:=jm hap ea (fun z=>ne (by rw [<- z,Db]));subst z;exact ni (R.apart i' i _ _ _ _ _ q2 hm' e0 hmf q1 g1)
   by_cases hn:cm (some k) 0 as ρ=true
   ·have m1:∀ b,b∈[p]++(W.filter (fun a=>decide (a≠p))++F.Z)->b∈W++F.Z:=fun b hb=>by
     rcases CI.mp hb with z | z
     ·rw [CC.mp z];exact Cp _ hpW
     ·rcases CI.mp z with z | z
      ·exact Cp _ (Di.mp z).1
      ·exact Co _ z
    have m2:∀ b,b∈W++F.Z->b∈[p]++(W.filter (fun a=>decide (a≠p))++F.Z):=fun b hb=>by
     by_cases z:b=p
     ·rw [z];exact Cp _ (CC.mpr rfl)
     ·refine Co _ ?_
      rcases CI.mp hb with y | y
      ·exact Cp _ (Di.mpr ⟨y,CK z⟩)
      ·exact Co _ y
    have sh:aa (hid (W++F.Z) H) (hid ([p]++(W.filter (fun a=>decide (a≠p))++F.Z)) H):=aD (fun b hb=> .inl (m1 b hb)) fun b o _ e=>e
    refine ⟨[p],W.filter (fun a=>decide (a≠p))++F.Z,fun q hq z=> ?_,m1,fun q hq=>by rw [CC.mp hq];exact hpW,fun _=>m2,fun j d v ne e1 e2=> ?_,fun k' z=> ?_,fun z=>(by cases z),fin⟩
    ·rw [CC.mp hq] at z
     rcases CI.mp z with y | y
     ·exact absurd rfl (Cz (Di.mp y).2)
     ·exact R.wz p hpW y
    ·obtain ⟨a,ea,ra⟩:=A.get e1 e2
     cases a with
     | ex f=>exact sh.repD ra
     | bor i' =>
      obtain ⟨d',hd'⟩:=ir hn ea (by rw [Db];exact ne);obtain ⟨q1,m',q2⟩:=ra;rw [hd'] at q2;cases q2;obtain ⟨v',q3,q4⟩:=R.slot i' _ _ hd';rw [q1] at q3;cases q3;exact sh.repD q4
    ·cases z
     exact ⟨p,_,f2,f1,rfl,hO.at rfl sh⟩
   ·have m1:∀ b,b∈[p]++F.Z->b∈W++F.Z:=fun b hb=>by
     rcases CI.mp hb with z | z
     ·rw [CC.mp z];exact Cp _ hpW
     ·exact Co _ z
    have sh:aa (hid (W++F.Z) H) (hid ([p]++F.Z) H):=aD (fun b hb=> .inl (m1 b hb)) fun b o _ e=>e
    refine ⟨[p],F.Z,fun q hq z=>by rw [CC.mp hq] at z;exact R.wz p hpW z,m1,fun q hq=>by rw [CC.mp hq];exact hpW,fun z=>absurd z hn,fun j d v ne e1 e2=> ?_,fun k' z=> ?_,fun z=>(by cases z),fin⟩
    ·obtain ⟨a,ea,ra⟩:=A.get e1 e2
     cases a with
     | ex f=>exact sh.repD ra
     | bor i' =>
      obtain ⟨q1,m',q2⟩:=ra;obtain ⟨v',q3,q4⟩:=R.slot i' _ _ q2;rw [q1] at q3;cases q3
      have out:∀ r,v = .ref r->m' ≠ .fz->r∈W->r∉[p]++F.Z:=fun r er hm' hr z=>by
       rcases CI.mp z with y | y
       ·rw [CC.mp y] at er
        exact oth j i' _ _ _ ne ea q1 q2 hm' er
       ·exact R.wz r hr y
      cases m' with
      | fz=>exact sh.repD q4
      | ow=>obtain ⟨r,rfl,hr,hO'⟩:=q4;exact hO'.rep (aJ (out r rfl (by decide) hr)) sh
      | io=>obtain ⟨r,rfl,hr,hO',_⟩:=q4;exact hO'.rep (aJ (out r rfl (by decide) hr)) sh
    ·cases z
     exact ⟨p,_,f2,f1,rfl,hO.at rfl sh⟩
end
section
variable{X:Cx}{EX:EXT}{e:Expr}{es:List Expr}{as:List Arg}
theorem jt{L L':List Addr}{H:Hp}(h:∀ b,b∈L'->b∈L):aa (hid L H) (hid L' H):=aD (fun b hb=> .inl (h b hb)) fun b o _ e=>e
theorem mL{x:Str}{ps:List Str}{k k':Nat}{io slot:Option Nat}{run:FS}{p pos:Pos}(C:jU X EX)(h:OkX X.prog X.w X.K X.mg X.base x ps k (spF X.K io run))(hr:cx k' X.A)(hk:k<=k')(hg:Gl X x)(ha:JA X EX (e::es) as)
 (hio:ioOk io as slot=true:=by rfl) (hdb:(x == ("__debug__" : Str))=false:=by decide) (he:starEach (e::es) X.env=(false,eval e X.env)::starEach es X.env:=by rfl) (hpl:(backTo pos (starEach es X.env)).any (·.1)=false:=by rfl) :
 JE X EX (.Call (.Name x p) (e::es) [] pos) (ar io slot run as) :=
 ⟨(C.call h (hr.mono hk) hg ha.p hdb he hpl).by fun σ H Q ⟨F,ρ,W,R,h⟩=>by
   refine t3 as R ?_;unfold ar at h
   revert h
   cases evA as ρ with
   | none=>exact fun h=>h
   | some q =>
    obtain ⟨q,ρ1⟩:=q
    cases q with
    | ex C=>exact fun h=>h
    | ok ds =>
     dsimp only
     cases er:run ds with
     | none=>exact fun h=>h.elim
     | some r =>
      obtain ⟨r,dio⟩:=r
      have key:∀ {ρ2:Rho} {vs:List V} {H1:Hp} {W1:List Addr} (b:Bool),Rel X.K F σ H1 ρ1 W1->fB X.K F σ H1 ρ1 W1 as ds vs->eG slot dio ρ1=some ρ2->(cm io 0 as ρ1||(b&&(io.isNone||cn dio)))=true ->
       ∃ Wc Zc,(∀ p∈Wc,p∉Zc)/\(∀ p∈Wc++Zc,dO (H1 p))/\(∀ p∈Wc,p∈W1) /\
        (∀ (j:Nat) (d:D) (v:V),io≠some j->ds[j]?=some d->vs[j]?=some v->ay X.K (hid (Wc++Zc) H1) d v) /\
        (∀ k,io=some k->∃ p d,vs[k]?=some (V.ref p)/\ds[k]?=some d/\Wc=[p]/\aM X.K H1 (hid (Wc++Zc) H1) p d)/\(io=none->Wc=[]) /\
        ∀ H2 Q',Fr Wc H1 H2->(∀ b,b∈Q'->H1 b=none)->(∀ p,Wc=[p]->aM X.K H2 (hid (Q'++(Wc++Zc)) H2) p dio) ->
         Rel X.K F σ (hid Q' H2) ρ2 W1/\(∀ p∈W1++F.Z,dO (H2 p))/\((∀ b,b∈W1++F.Z->b∈Wc++Zc)\/b=true):=fun {ρ2 vs H1 W1} b R1 A1 hput hc=>by
       obtain ⟨Wc,Zc,c1,c2,c3,c4,c5,c6,c7,c8⟩:=Bv R1 A1 hio hput;refine ⟨Wc,Zc,c1,fun p hp=>R1.mt p (c2 p hp),c3,c5,c6,c7,fun H2 Q' fr hQ own=> ?_⟩
       have wc1:∀ p∈Wc,Wc=[p]:=fun p hp=>by
        cases hz:io with
        | none=>rw [c7 hz] at hp;cases hp
        | some k =>
         obtain ⟨p',_,_,_,e,_⟩:=c6 k hz;rw [e] at hp ⊢;rw [CC.mp hp]
       have mt2:∀ p∈W1++F.Z,dO (H2 p):=fun p hp=>by
        by_cases z:p∈Wc
        ·exact (own p (wc1 p z)).mu
        ·obtain ⟨u,q⟩:=(R1.mt p hp).some
         rw [fr.keep p u z q,<- q];exact R1.mt p hp
       have qn:∀ p∈W1++F.Z,p∉Q':=fun p hp z=>by
        have:=R1.mt p hp;rw [hQ p z] at this;exact this
       have fr2:Fr Wc H1 (hid Q' H2):=⟨fun b o n e=>by
        rw [aJ (fun z=>by rw [hQ b z] at e;cases e)]
        exact fr.keep b o n e,fun b e=>by
        by_cases z:b∈Q'
        ·exact hQ b z
        ·rw [aJ z] at e;exact fr.dom b e⟩
       have or1:(∀ b,b∈W1++F.Z->b∈Wc++Zc)\/(b=true/\(io.isNone||cn dio)=true):=by
        rcases (Bool.or_eq_true _ _).mp hc with z | z
        ·exact .inl (c4 z)
        ·exact .inr ((CD _ _).mp z)
       refine ⟨c8 _ fr2 fun p hp=> ?_,mt2,or1.imp id (·.1)⟩;have hpW:p∈W1++F.Z:=Cp _ (c3 p (by rw [hp];exact CC.mpr rfl));have o1:=own p hp
       have sg:aa (hid (Q'++(W1++F.Z)) H2) (hid (W1++F.Z) (hid Q' H2)):=fun b o e=>by
        obtain ⟨z1,z2⟩:=am e;rw [aJ (fun z=>z1 (Co _ z)),aJ (fun z=>z1 (Cp _ z))];exact z2
       rcases or1 with z | ⟨_,z⟩
       ·refine o1.at (aJ (qn p hpW)) (aa.trans (jt fun b hb=> ?_) sg)
        rcases CI.mp hb with y | y
        ·exact Cp _ y
        ·exact Co _ (z b y)
       ·have hf:cn dio=true:=by
         cases hz:io with
         | none=>rw [c7 hz] at hp;cases hp
         | some k=>rw [hz] at z;exact z
        have hnf:aM X.K H2 (hid (W1++F.Z) H2) p dio:=o1.flat mt2 hf
        have o2:aM X.K (hid Q' H2) (hid (Wc++Zc) (hid Q' H2)) p dio:=o1.at (aJ (qn p hpW)) fun b o e=>by
         obtain ⟨z1,z2⟩:=am e;rw [aJ (fun z=>z1 (Co _ z)),aJ (fun z=>z1 (Cp _ z))];exact z2
        exact o2.flat (fun p hp=>by rw [aJ (qn p hp)];exact mt2 p hp) hf
      cases r with
      | ex C =>
       dsimp only
       split
       ·rename_i hc
        cases ep:eG slot dio ρ1 with
        | none=>exact fun h=>h.elim
        | some ρ2 =>
         intro h vs H1 W1 fr1 sub1 R1 A1;obtain ⟨Wc,Zc,c1,c2,c3,c5,c6,c7,c8⟩:=key true R1 A1 ep (by simpa using hc);refine ⟨Zc,Wc,ds,A1.len,c1,c2,c5,c6,c7,?_⟩;rw [er];intro H2 fr2 own ca hca x;obtain ⟨R2,_,_⟩:=c8 H2 [] fr2 (fun b hb=>by simp at hb) own;exact ⟨C,ca,rfl,hca,h H2 W1 (fr1.trans fr2 fun p hp=> .inl (sub1 p (c3 p hp))) sub1 (R2.same az)⟩
       ·exact fun h=>h.elim
      | ok d nw =>
       dsimp only
       split
       ·rename_i hc
        cases ep:eG slot dio ρ1 with
        | none=>exact fun h=>h.elim
        | some ρ2 =>
         intro h vs H1 W1 fr1 sub1 R1 A1;obtain ⟨Wc,Zc,c1,c2,c3,c5,c6,c7,c8⟩:=key (gp d nw) R1 A1 ep hc;refine ⟨Zc,Wc,ds,A1.len,c1,c2,c5,c6,c7,?_⟩;rw [er]
         cases nw with
         | false =>
          intro v H2 fr2 rep own;obtain ⟨R2,mt2,z⟩:=c8 H2 [] fr2 (fun b hb=>by simp at hb) own;refine h v H2 W1 (fr1.trans fr2 fun p hp=> .inl (sub1 p (c3 p hp))) sub1 ⟨?_,R2.same az⟩
          rcases z with z | z
          ·exact (jt z).repD rep
          ·exact ay.flat mt2 z rep
         | true =>
          intro q H2 fr2 hq hO own;obtain ⟨R2,mt2,z⟩:=c8 H2 [q] fr2 (fun b hb=>by rw [CC.mp hb];exact hq) own;refine h (.ref q) H2 W1 (fr1.trans fr2 fun p hp=> .inl (sub1 p (c3 p hp))) sub1 ⟨q,rfl,fr1.dom q hq,R1.fresh hq,?_,R2⟩
          rcases z with z | z
          ·refine hO.at rfl (jt fun b hb=> ?_)
           rcases Cr.mp hb with y | y
           ·rw [y];exact Cs
           ·exact Cn _ (z b y)
          ·refine hO.flat (fun p hp=> ?_) z
           rcases Cr.mp hp with y | y
           ·rw [y];exact hO.mu
           ·exact mt2 p y
       ·exact fun h=>h.elim⟩
end
theorem PS.nox{X:Cx}{st:Stmt}{t:TS}(h:PS X.nox st t):PS X st t:=fun pins s σ H D I hw =>
 Dy (h pins s σ H D (I.wish _) hw) (fun _ _ q=>q.unwish) fun _ _ z=>False.elim z
abbrev SI:=Rho->Option (pW×Rho)
structure ItOk(K:E2)(L0:List Addr)(ds:List D)(J:It)(H0:Hp):Prop where
 go:∀ (H:Hp) (L:List Addr) (i:Nat) (d:D),aa (hid L0 H0) (hid L H)->(∀ p∈L,dO (H p))->ds[i]?=some d->J.go i H/\∀ x H',J.yld i H x H'->aa H H'/\ay K (hid L H') d x
 stop:∀ H,aa (hid L0 H0) H->J.stop ds.length H
 few:ds.length<=sizeLine
section
variable(K:E2)(F:Fx)(EX:EXT)(σ:St)(H:Hp)(W:List Addr)
noncomputable def OkI(o:Option (pW×Rho))(R:It->Hp->Prop):Prop:=match o with
 | some (.ok ds,ρ')=>∀ J H' W',Fr W H H'->(∀ p∈W',p∈W)->Rel K F σ H' ρ' W'->ItOk K (W'++F.Z) ds J H'->R J H'
 | some (.ex C,ρ')=>∀ H' W',Fr W H H'->(∀ p∈W',p∈W)->Rel K F σ H' ρ' W'->EX C σ H'
 | none=>False
end
noncomputable def tI(K:E2)(EX:EXT)(f:SI):TI:=fun σ H R=>∃ F ρ W,Rel K F σ H ρ W/\OkI K F EX σ H W (f ρ) R
structure JI(X:Cx)(EX:EXT)(tg iter:Expr)(f:SI):Prop where
 p:PI X tg iter (tI X.K EX f)
noncomputable def aY(T:Tg)(f:SS):List D->Rho->Option (Out×Rho)
 | [],ρ=>some (.nx,ρ)
 | d::ds,ρ=>match bQ T d ρ with
  | none=>none
  | some ρ1=>match f ρ1 with
   | some (.nx,ρ2)=>aY T f ds ρ2
   | some (.ct,ρ2)=>aY T f ds ρ2
   | some (.bk,ρ2)=>some (.nx,ρ2)
   | some (.rt d nw,ρ2)=>some (.rt d nw,ρ2)
   | some (.ex _,_)=>none
   | none=>none
noncomputable def eU(it:SI)(T:Tg)(f:SS):SS:=fun ρ=>match it ρ with
 | some (.ok ds,ρ1)=>aY T f ds ρ1
 | some (.ex _,_)=>none
 | none=>none
noncomputable def cT:Nat->ST->SS->SS
 | 0,_,_=>fun _=>none
 | n+1,c,f=>fun ρ=>match c ρ with
  | some (.ok false,ρ1)=>some (.nx,ρ1)
  | some (.ok true,ρ1)=>match f ρ1 with
   | some (.nx,ρ2)=>cT n c f ρ2
   | some (.ct,ρ2)=>cT n c f ρ2
   | some (.bk,ρ2)=>some (.nx,ρ2)
   | some (.rt d nw,ρ2)=>some (.rt d nw,ρ2)
   | some (.ex _,_)=>none
   | none=>none
  | some (.ex _,_)=>none
  | none=>none
section
variable{X:Cx}{EX:EXT}{tg iter c:Expr}{body:List Stmt}{pos:Pos}
theorem s_for{it:SI}{T:Tg}{f:SS}(hc:X.calm=true)(hi:JI X.nox EXn tg iter it)(hg:JG X.nox tg T)(hb:JSs X.nox EXn body f)(hs:∀ x,foldedSetIterable iter X.env x=pure x:=by intro _;rfl):JS X EX (.For tg iter body [] pos) (eU it T f) :=
 ⟨(PS.nox (ps_for (X:=X.nox) PassesOwn.never hc hi.p hg.p hb.p hs)).by fun D σ H ⟨F,ρ,W,R,h⟩=>⟨F,ρ,W,R,by
   unfold eU at h
   revert h
   cases it ρ with
   | none=>exact fun h=>h
   | some q =>
    obtain ⟨q,ρ1⟩:=q
    cases q with
    | ex C=>exact fun h=>h.elim
    | ok ds =>
     intro h J H1 W1 fr1 sub1 R1 ok;have h:OkS X.K F EX H W (aY T f ds ρ1) D:=h
     refine ⟨fun i m σ H2=>m=ds.length - i/\i<=ds.length/\∃ ρ2 W2,Rel X.K F σ H2 ρ2 W2/\Fr W1 H1 H2/\(∀ p∈W2,p∈W1\/H1 p=none)/\OkS X.K F EX H2 W2 (aY T f (ds.drop i) ρ2) D,
      ⟨ds.length,by simp,ED _,ρ1,W1,R1,.refl,fun _ z=> .inl z,OkS.go h fr1 fun p hp=> .inl (sub1 p hp)⟩,?_⟩
     rintro i m σ2 H2 ⟨rfl,hi,ρ2,W2,R2,fr2,sub2,h2⟩
     by_cases hlt:i < ds.length
     ·have hd:ds.drop i=ds[i]::ds.drop (i+1):=List.drop_eq_getElem_cons hlt
      rw [hd] at h2;unfold aY at h2;obtain ⟨g1,g2⟩:=ok.go H2 (W2++F.Z) i ds[i] (fr2.hid sub2) R2.mt (Ch hlt);refine .inr ⟨g1,fun σ3 H3=>ds.length - (i+1)=ds.length - (i+1)/\i+1<=ds.length/\∃ ρ3 W3,Rel X.K F σ3 H3 ρ3 W3/\Fr W1 H1 H3/\(∀ p∈W3,p∈W1\/H1 p=none)/\OkS X.K F EX H3 W3 (aY T f (ds.drop (i+1)) ρ3) D,fun σ3 H3 z=>⟨_,by omega,z⟩,fun x H3 y=> ?_⟩;obtain ⟨s3,rx⟩:=g2 x H3 y
      revert h2
      cases ea:bQ T ds[i] ρ2 with
      | none=>exact fun h=>h.elim
      | some ρ3 =>
       intro h2
       refine uK (n:=0) T (R2.same s3) rx ea fun σ4 _ R4=>⟨F,ρ3,W2,R4,?_⟩
       have fr3:Fr W1 H1 H3:=fr2.trans (s3.fr (W:=W2)) sub2
       have h3:OkS X.K F EX H3 W2 _ D:=OkS.go h2 (s3.fr (W:=W2)) fun p hp=> .inl hp
       have sub3:∀ {W4:List Addr},(∀ p∈W4,p∈W2\/H3 p=none)->∀ p∈W4,p∈W1\/H1 p=none:=fun {W4} s p hp=>(s p hp).elim (sub2 p) fun z=> .inr (fr3.dom p z)
       revert h3
       dsimp only
       cases f ρ3 with
       | none=>exact fun h=>h
       | some q =>
        obtain ⟨q,ρ4⟩:=q
        cases q with
        | nx=>exact fun h3 σ5 H5 W5 fr5 sub5 R5=>⟨rfl,hlt,ρ4,W5,R5,fr3.trans fr5 sub2,sub3 sub5,OkS.go h3 fr5 sub5⟩
        | ct=>exact fun h3 σ5 H5 W5 fr5 sub5 R5=>⟨rfl,hlt,ρ4,W5,R5,fr3.trans fr5 sub2,sub3 sub5,OkS.go h3 fr5 sub5⟩
        | bk=>exact fun h3=>h3
        | ex C=>exact fun h3=>h3.elim
        | rt d nw=>exact fun h3=>h3
     ·have e:i=ds.length:=by omega
      subst e;rw [List.drop_length] at h2
      exact .inl ⟨ok.stop H2 ((fr2.hid sub2).trans az),h2 σ2 H2 W2 .refl (fun _ z=> .inl z) R2⟩⟩⟩
theorem zZ{n:Nat}{t:ST}{f:SS}(hc:JT X.nox EXn c t)(hb:JSs X.nox EXn body f):JS X EX (.While c body [] pos) (cT n t f) :=
 ⟨(PS.nox (xn (X:=X.nox) PassesOwn.never hc.p hb.p)).by fun D σ H ⟨F,ρ,W,R,h⟩=>by
   refine ⟨fun m σ H2=>∃ ρ2 W2,Rel X.K F σ H2 ρ2 W2/\OkS X.K F EX H2 W2 (cT m t f ρ2) D,⟨n,ρ,W,R,h⟩,?_⟩;rintro m σ2 H2 ⟨ρ2,W2,R2,h2⟩
   cases m with
   | zero=>exact h2.elim
   | succ m =>
    refine ⟨F,ρ2,W2,R2,?_⟩;unfold cT at h2
    revert h2
    cases t ρ2 with
    | none=>exact fun h=>h
    | some q =>
     obtain ⟨q,ρ3⟩:=q
     cases q with
     | ex C=>exact fun h=>h.elim
     | ok k =>
      cases k with
      | false=>exact fun h H3 W3 fr3 sub3 R3=>h σ2 H3 W3 fr3 (fun p hp=> .inl (sub3 p hp)) R3
      | true =>
       intro h H3 W3 fr3 sub3 R3;refine ⟨fun σ' H'=>∃ ρ4 W4,Rel X.K F σ' H' ρ4 W4/\OkS X.K F EX H' W4 (cT m t f ρ4) D,fun σ' H' z=>⟨m,Em m,z⟩,F,ρ3,W3,R3,?_⟩
       have h3:OkS X.K F EX H3 W3 _ D:=OkS.go h fr3 fun p hp=> .inl (sub3 p hp)
       revert h3
       dsimp only
       cases f ρ3 with
       | none=>exact fun h=>h
       | some q =>
        obtain ⟨q,ρ4⟩:=q
        cases q with
        | nx=>exact fun h3 σ5 H5 W5 fr5 sub5 R5=>⟨ρ4,W5,R5,OkS.go h3 fr5 sub5⟩
        | ct=>exact fun h3 σ5 H5 W5 fr5 sub5 R5=>⟨ρ4,W5,R5,OkS.go h3 fr5 sub5⟩
        | bk=>exact fun h3=>h3
        | ex C=>exact fun h3=>h3.elim
        | rt d nw=>exact fun h3=>h3⟩
end
noncomputable def evC(c:Option ST)(ρ:Rho):Option (zm×Rho):=match c with
 | none=>some (.ok true,ρ)
 | some c=>c ρ
noncomputable def cf(k:Nat)(T:Tg)(c:Option ST)(f:SE):List D->Rho->Option (List D×Rho)
 | [],ρ=>some ([],ρ)
 | d::ds,ρ=>match bQ T d (ρ++List.replicate k none) with
  | none=>none
  | some ρ1=>match evC c ρ1 with
   | some (.ok true,ρ2)=>match f ρ2 with
    | some (.ok y _,ρ3)=>match cf k T c f ds (ρ3.take ρ.length) with
     | some (ys,ρ4)=>some (y::ys,ρ4)
     | none=>none
    | some (.ex _,_)=>none
    | none=>none
   | some (.ok false,ρ2)=>cf k T c f ds (ρ2.take ρ.length)
   | some (.ex _,_)=>none
   | none=>none
noncomputable def bv(k:Nat)(it:SI)(T:Tg)(c:Option ST)(f:SE):SE:=fun ρ=>match it ρ with
 | some (.ok ds,ρ1)=>if Tg.ge ρ1.length T=true then
  match cf k T c f ds ρ1 with
  | some (ys,ρ2)=>some (.ok (.lst ys) true,ρ2)
  | none=>none
  else none
 | some (.ex C,ρ1)=>some (.ex C,ρ1)
 | none=>none
noncomputable def tIfC(K:E2)(c:Option ST):TT:=match c with
 | none=>BK
 | some c=>tVT K EXn c
section
variable{K:E2}{F:Fx}{EX:EXT}{σ:St}{H:Hp}{ρ:Rho}{W:List Addr}
theorem Rel.ext(R:Rel K F σ H ρ W)(k:Nat):Rel K F (σ++List.replicate k none) H (ρ++List.replicate k none) W:=by
 have old:∀ {i:Nat} {d:D} {m:Md},(ρ++List.replicate k none)[i]?=some (some (d,m))->ρ[i]?=some (some (d,m))/\i < ρ.length:=fun {i d m} h=>by
  by_cases hi:i < ρ.length
  ·rw [CV hi] at h
   exact ⟨h,hi⟩
  ·rw [DA (by omega),DZ] at h
   split at h<;>cases h
 refine ⟨fun i d m h=> ?_,fun i j d e m n p h1 h2 h3 h4 h5 h6=> ?_,R.wz,R.mt,by rw [Cy,Cy,Dj,Dj,R.len]⟩
 ·obtain ⟨h,hi⟩:=old h
  obtain ⟨v,g1,g2⟩:=R.slot i d m h;exact ⟨v,by rw [CV (by rw [R.len];exact hi)];exact g1,g2⟩
 ·obtain ⟨h1,i1⟩:=old h1
  obtain ⟨h3,i3⟩:=old h3;rw [CV (by rw [R.len];exact i1)] at h5;rw [CV (by rw [R.len];exact i3)] at h6;exact R.apart i j _ _ _ _ _ h1 h2 h3 h4 h5 h6
theorem Rel.cut{σ2:St}(R:Rel K F σ2 H ρ W)(h:σ2.take σ.length=σ)(hl:σ.length<=σ2.length):Rel K F σ H (ρ.take σ.length) W:=by
 have old:∀ {i:Nat} {d:D} {m:Md},(ρ.take σ.length)[i]?=some (some (d,m))->ρ[i]?=some (some (d,m))/\i < σ.length:=fun {i d m} h=>by
  rw [List.getElem?_take] at h
  split at h
  ·exact ⟨h,by assumption⟩
  ·cases h
 have eq:∀ {i:Nat},i < σ.length->σ2[i]?=σ[i]?:=fun {i} hi=>by
  have e:=List.getElem?_take_of_lt (l:=σ2) hi;rw [h] at e;exact e.symm
 refine ⟨fun i d m h=> ?_,fun i j d e m n p h1 h2 h3 h4 h5 h6=> ?_,R.wz,R.mt,by rw [DH,<- R.len];omega⟩
 ·obtain ⟨h,hi⟩:=old h
  obtain ⟨v,g1,g2⟩:=R.slot i d m h;exact ⟨v,by rw [<- eq hi];exact g1,g2⟩
 ·obtain ⟨h1,i1⟩:=old h1
  obtain ⟨h3,i3⟩:=old h3;rw [<- eq i1] at h5;rw [<- eq i3] at h6;exact R.apart i j _ _ _ _ _ h1 h2 h3 h4 h5 h6
theorem uV{k:Nat}{it:SI}{T:Tg}{c:Option ST}{f:SE}{Q:VK}(hw:tV K EX (bv k it T c f) σ H Q):qi (tI K EX it) k (gT K T) (tIfC K c) (tV K EXn f) σ H Q:=by
 obtain ⟨F,ρ,W,R,h⟩:=hw;refine ⟨F,ρ,W,R,?_⟩;unfold bv at h
 revert h
 cases it ρ with
 | none=>exact fun h=>h
 | some q =>
  obtain ⟨q,ρ1⟩:=q
  cases q with
  | ex C=>exact fun h=>h
  | ok ds =>
   dsimp only
   split
   ·rename_i hge
    cases es:cf k T c f ds ρ1 with
    | none=>exact fun h=>h.elim
    | some z =>
     obtain ⟨tot,ρe⟩:=z;intro h J H1 W1 fr1 sub1 R1 ok
     refine ⟨fun i m ys H2=>m=ds.length - i/\i<=ds.length/\∃ ρ2 W2 acc cw,Rel K F σ H2 ρ2 W2/\Fr W1 H1 H2/\(∀ p∈W2,p∈W1)/\ag K (hid (W2++F.Z) H2) acc ys/\acc.length<=i/\cf k T c f (ds.drop i) ρ2=some (cw,ρe)/\acc++cw=tot,
      ⟨ds.length,by simp,ED _,ρ1,W1,[],tot,R1,.refl,fun _ z=>z,trivial,ED _,es,rfl⟩,?_⟩
     rintro i m ys H2 ⟨rfl,hi,ρ2,W2,acc,cw,R2,fr2,sub2,rp,la,e2,et⟩
     have sub2':∀ p∈W2,p∈W1\/H1 p=none:=fun p hp=> .inl (sub2 p hp)
     have few:=ok.few;have ly:=rp.len;refine ⟨by omega,?_⟩
     by_cases hlt:i < ds.length
     ·have hd:ds.drop i=ds[i]::ds.drop (i+1):=List.drop_eq_getElem_cons hlt
      rw [hd] at e2;unfold cf at e2;obtain ⟨g1,g2⟩:=ok.go H2 (W2++F.Z) i ds[i] (fr2.hid sub2') R2.mt (Ch hlt);refine .inr ⟨g1,fun x H3 y=> ?_⟩;obtain ⟨s3,rx⟩:=g2 x H3 y
      cases ea:bQ T ds[i] (ρ2++List.replicate k none) with
      | none=>rw [ea] at e2;cases e2
      | some ρ3 =>
       rw [ea] at e2;dsimp only at e2;have lenσ:σ.length=ρ1.length:=R1.len;have lenσ2:σ.length=ρ2.length:=R2.len
       refine uK (n:=σ.length) T ((R2.same s3).ext k) rx ea fun σ4 tk R4=> ?_
       have tk:=tk (by rw [lenσ];exact hge);rw [List.take_left] at tk
       have l4:σ.length<=σ4.length:=by
        have:=congrArg List.length tk;rw [DH] at this;omega
       refine ⟨tk,?_⟩;have fr3:Fr W1 H1 H3:=fr2.trans (s3.fr (W:=W2)) sub2'
       have cw:∀ b ρ4,evC c ρ3=some (.ok b,ρ4)->∀ H4 W4,Fr W2 H3 H4->(∀ p∈W4,p∈W2)->Rel K F σ4 H4 ρ4 W4 ->
        (if b=true then tV K EXn f σ4 H4 fun y H5=>∃ m',m' < ds.length - i/\(m'=ds.length - (i+1)/\i+1<=ds.length/\∃ ρ2 W2 acc cw,Rel K F σ H5 ρ2 W2/\Fr W1 H1 H5/\(∀ p∈W2,p∈W1)/\ag K (hid (W2++F.Z) H5) acc (ys++[y])/\acc.length<=i+1/\cf k T c f (ds.drop (i+1)) ρ2=some (cw,ρe)/\acc++cw=tot)
        else ∃ m',m' < ds.length - i/\(m'=ds.length - (i+1)/\i+1<=ds.length/\∃ ρ2 W2 acc cw,Rel K F σ H4 ρ2 W2/\Fr W1 H1 H4/\(∀ p∈W2,p∈W1)/\ag K (hid (W2++F.Z) H4) acc ys/\acc.length<=i+1/\cf k T c f (ds.drop (i+1)) ρ2=some (cw,ρe)/\acc++cw=tot)):=fun b ρ4 ec H4 W4 fr4 sub4 R4=>by
        rw [ec] at e2;have frA:Fr W1 H1 H4:=fr3.trans fr4 sub2';have sA:aa (hid (W2++F.Z) H2) (hid (W4++F.Z) H4):=aa.trans (aD (fun b hb=> .inl hb) fun b o _ e=>s3 b o e:aa (hid (W2++F.Z) H2) (hid (W2++F.Z) H3)) (fr4.hid fun p hp=> .inl (sub4 p hp))
        cases b with
        | false =>
         dsimp only at e2;rw [if_neg Cq];exact ⟨_,by omega,rfl,hlt,ρ4.take σ.length,W4,acc,_,R4.cut tk l4,frA,fun p hp=>sub2 p (sub4 p hp),sA.repDs rp,by omega,by rw [lenσ2];exact e2,et⟩
        | true =>
         dsimp only at e2;rw [if_pos rfl];refine ⟨F,ρ4,W4,R4,?_⟩
         cases ef:f ρ4 with
         | none=>rw [ef] at e2;cases e2
         | some q =>
          obtain ⟨q,ρ5⟩:=q;rw [ef] at e2
          cases q with
          | ex C=>cases e2
          | ok y nw =>
           dsimp only at e2
           cases e3:cf k T c f (ds.drop (i+1)) (ρ5.take ρ2.length) with
           | none=>rw [e3] at e2;cases e2
           | some z =>
            obtain ⟨rest',ρe'⟩:=z;rw [e3] at e2;cases e2;intro v H5 W5 fr5 sub5 P5;obtain ⟨rv,R5⟩:=P5.plain;refine ⟨_,by omega,rfl,hlt,ρ5.take σ.length,W5,acc++[y],rest',R5.cut tk l4,frA.trans fr5 fun p hp=> .inl (sub2 p (sub4 p hp)),fun p hp=>sub2 p (sub4 p (sub5 p hp)),ag.app ((fr5.hid fun p hp=> .inl (sub5 p hp)).repDs (sA.repDs rp)) ⟨rv,trivial⟩,?_,by rw [lenσ2];exact e3,?_⟩
            ·rw [Cy];simp;omega
            ·rw [<- et,DB];rfl
       cases c with
       | none=>exact cw true ρ3 rfl H3 W2 .refl (fun _ z=>z) R4
       | some c =>
        refine ⟨F,ρ3,W2,R4,?_⟩;have e2':=e2;unfold evC at e2';dsimp only at e2'
        cases ec:c ρ3 with
        | none=>rw [ec] at e2';cases e2'
        | some q =>
         obtain ⟨q,ρ4⟩:=q
         cases q with
         | ex C=>rw [ec] at e2';cases e2'
         | ok b=>exact fun H4 W4 fr4 sub4 R4=>cw b ρ4 ec H4 W4 fr4 sub4 R4
     ·have e:i=ds.length:=by omega
      subst e;rw [List.drop_length] at e2;have e2:some (([]:List D),ρ2)=some (cw,ρe):=e2;cases e2;rw [DE] at et;subst et;refine .inl ⟨ok.stop H2 ((fr2.hid sub2').trans az),fun l hl=> ?_⟩;refine h (.ref l) _ W2 ((fr1.trans fr2 fun p hp=> .inl (sub1 p hp)).trans ((aa.upd hl).fr (W:=W2)) fun p hp=> .inl (sub1 p (sub2 p hp))) (fun p hp=>sub1 p (sub2 p hp)) ?_
      refine gz.back (gA.e (nw:=true) ⟨l,rfl,hl,ys,af,?_⟩ R2 (aa.upd hl)) fun b hb=>fr1.dom b (fr2.dom b hb)
      exact (aD (fun b hb=>(Cr.mp hb).elim (fun z=> .inr (by rw [z];exact hl)) .inl) fun b o _ e=>aa.upd hl b o e:aa (hid (W2++F.Z) H2) _).repDs rp
   ·exact fun h=>h.elim
end
inductive JC(X:Cx):List Expr->Option ST->Prop where
 | no:JC X [] none
 | one {c:Expr} {t:ST} (h:JT X EXn c t):JC X [c] (some t)
theorem JC.p{X:Cx}{ifs:List Expr}{c:Option ST}(h:JC X ifs c):wv X ifs (tIfC X.K c):=by
 cases h with
 | no=>exact pif0
 | one h=>exact pif1 h.p
section
variable{X:Cx}{EX:EXT}{elt tg iter:Expr}{ifs:List Expr}{sc:Scope}{M tgs:List Str}{pos:Pos}{it:SI}{T:Tg}{c:Option ST}{f:SE}
theorem dN(hc:X.calm=true)(B:mX X sc M tgs)(hi:JI X EX tg iter it)(hg:∀ cl C fp s H,JG (blk X sc cl C fp s H (M++tgs)) tg T)(ht:∀ cl C fp s H,JC (blk X sc cl C fp s H (M++tgs)) ifs c)(he:∀ cl C fp s H,JE (blk X sc cl C fp s H (M++tgs)) EXn elt f)
 (hs:∀ x,foldedSetIterable iter X.env x=pure x:=by intro _;rfl):JE X EX (.ListComp elt [⟨tg,iter,ifs,0⟩] sc pos) (bv tgs.length it T c f) :=
 ⟨(AH hc B hi.p (fun cl C fp s H=>(hg cl C fp s H).p) (fun cl C fp s H=>(ht cl C fp s H).p) (fun cl C fp s H=>(he cl C fp s H).p) hs).by fun σ H Q h=>uV h⟩
theorem eB{j:Nat}{y:Str}{py spos:Pos}(hc:X.calm=true)(B:mX X sc M tgs)(hi:JI X EX tg iter it)(hg:∀ cl C fp s H,JG (blk X sc cl C fp s H (M++tgs)) tg T)(ht:∀ cl C fp s H,JC (blk X sc cl C fp s H (M++tgs)) ifs c)(he:∀ cl C fp s H,JE (blk X sc cl C fp s H (M++tgs)) EXn elt f)
 (hN:X.N.Nodup) (hjy:X.N[j]?=some y) (hy:X.env.scope.names.lookup y=some .local) (hsw:swapsWith (.ListComp elt [⟨tg,iter,ifs,0⟩] sc pos) (some (.Name y py)) spos.line X.env=pure true:=by rfl)
 (hs:∀ x,foldedSetIterable iter X.env x=pure x:=by intro _;rfl):JS X EX (.Assign [.Name y py] (.ListComp elt [⟨tg,iter,ifs,0⟩] sc pos) spos) (aU j (bv tgs.length it T c f)) :=
 ⟨(sG hc B hi.p (fun cl C fp s H=>(hg cl C fp s H).p) (fun cl C fp s H=>(ht cl C fp s H).p) (fun cl C fp s H=>(he cl C fp s H).p) hN hjy hy hsw hs).by fun D σ H h=>uV (zj h)⟩
end
mutual
noncomputable def nrm:D->D
 | .ktup ds=> .tup (cB ds)
 | .tup ds=> .tup (cB ds)
 | .klst ds=> .lst (cB ds)
 | .lst ds=> .lst (cB ds)
 | d=>d
noncomputable def cB:List D->List D
 | []=>[]
 | d::ds=>nrm d::cB ds
end
mutual
noncomputable def eqN:D->D->Bool
 | .non,.non=>true
 | .bl a,.bl b=>a == b
 | .bl a,.int b=>(if a then 1 else 0) == b
 | .int a,.bl b=>a == (if b then 1 else 0)
 | .int a,.int b=>a == b
 | .str a,.str b=>a == b
 | .tup a,.tup b=>fR a b
 | .lst a,.lst b=>fR a b
 | _,_=>false
noncomputable def fR:List D->List D->Bool
 | [],[]=>true
 | a::as,b::bs=>eqN a b&&fR as bs
 | _,_=>false
end
noncomputable def eqD(d e:D):Bool:=eqN (nrm d) (nrm e)
noncomputable def ae:Nat->D->Bool
 | _,.non=>true
 | _,.bl _=>true
 | _,.int _=>true
 | _,.str _=>true
 | n+1,.tup ds=>ds.all (ae n)
 | n+1,.ktup ds=>ds.all (ae n)
 | n+1,.lst ds=>ds.all (ae n)
 | n+1,.klst ds=>ds.all (ae n)
 | _,_=>false
theorem mf:∀ {ds:List D},(cB ds).length=ds.length
 | []=>rfl
 | _::ds=>by unfold cB;rw [CA,CA,mf]
theorem eK:∀ {ds:List D} {j:Nat},(cB ds)[j]?=ds[j]?.map nrm
 | [],j=>by unfold cB;simp
 | d::ds,0=>by unfold cB;simp
 | d::ds,j+1=>by unfold cB;simp;exact eK
theorem mH:∀ {as bs:List D},fR as bs=((List.range (min as.length bs.length)).all (fun j=>match as[j]?,bs[j]? with | some a,some b=>eqN a b | _,_=>true)&&as.length == bs.length)
 | [],[]=>rfl
 | [],b::bs=>by unfold fR;simp
 | a::as,[]=>by unfold fR;simp
 | a::as,b::bs=>by
  unfold fR;rw [mH (as:=as) (bs:=bs)]
  have e1:min (a::as).length (b::bs).length=min as.length bs.length+1:=by simp only [CA];omega
  have e2:((a::as).length == (b::bs).length)=(as.length == bs.length):=by simp
  rw [e1,e2,List.range_succ_eq_map,EL,List.all_map,Bool.and_assoc]
  congr 1
mutual
theorem jM:∀ (n:Nat) {d:D},ae n d=true->eqN (nrm d) (nrm d)=true
 | n,.non,_=>rfl
 | n,.bl _,_=>by unfold nrm eqN;simp
 | n,.int _,_=>by unfold nrm eqN;simp
 | n,.str _,_=>by unfold nrm eqN;simp
 | n+1,.tup ds,h=>by unfold nrm eqN;exact ft n (by unfold ae at h;exact h)
 | n+1,.ktup ds,h=>by unfold nrm eqN;exact ft n (by unfold ae at h;exact h)
 | n+1,.lst ds,h=>by unfold nrm eqN;exact ft n (by unfold ae at h;exact h)
 | n+1,.klst ds,h=>by unfold nrm eqN;exact ft n (by unfold ae at h;exact h)
 | 0,.tup _,h=>by unfold ae at h;cases h
 | 0,.ktup _,h=>by unfold ae at h;cases h
 | 0,.lst _,h=>by unfold ae at h;cases h
 | 0,.klst _,h=>by unfold ae at h;cases h
 | _,.dK _ _,h=>by unfold ae at h;cases h
 | _,.dT _ _,h=>by unfold ae at h;cases h
 | _,.set _,h=>by unfold ae at h;cases h
 | _,.rng _ _,h=>by unfold ae at h;cases h
 | _,.exc _,h=>by unfold ae at h;cases h
theorem ft:∀ (n:Nat) {ds:List D},ds.all (ae n)=true->fR (cB ds) (cB ds)=true
 | n,[],_=>rfl
 | n,d::ds,h=>by
  rw [EL] at h;have h:=(CD _ _).mp h;unfold cB fR;rw [jM n h.1,ft n h.2];rfl
end
section
variable{X:Cx}{pins:List (Addr×Obj)}{σ:St}{H:Hp}{s:Shared}
inductive Vw(K:E2)(H:Hp)(s:Shared):Nat->D->V->Value->Prop where
 | non {n}:Vw K H s n .non .non .none
 | bl {n} (b:Bool):Vw K H s n (.bl b) (.bl b) (.bool b)
 | int {n} (i:Int) (t:Tok):Vw K H s n (.int i) (.int i) (.int i t)
 | str {n} (x:Str) (t:Tok):Vw K H s n (.str x) (.str x) (.str x t)
 | tu {n} {d:D} {ds:List D} {p:Addr} {xs:List V} {its:List Value} (hd:nrm d = .tup (cB ds)) (ht:s.heap.IsTuple p its.toArray) (hv:aw xs its) (hr:ag K H ds xs) (he:ds.all (ae n)=true):Vw K H s (n+1) d (.ref p) (.ref p)
 | li {n} {d:D} {ds:List D} {p:Addr} {xs:List V} {its:List Value} (hd:nrm d = .lst (cB ds)) (ht:s.heap.IsList p its.toArray) (hv:aw xs its) (hr:ag K H ds xs) (he:ds.all (ae n)=true):Vw K H s (n+1) d (.ref p) (.ref p)
theorem kA(I:Inv X pins σ H s){n:Nat}{d:D}{v:V}{u:Value}(he:ae n d=true)(r:ay X.K H d v)(ru:aB v u):Vw X.K H s n d v u:=by
 have z0:n=0\/∃ m,n=m+1:=by cases n with | zero=>exact .inl rfl | succ m=>exact .inr ⟨m,rfl⟩
 cases d with
 | non=>cases r;cases ru;exact .non
 | bl b=>cases r;cases ru;exact .bl b
 | int i=>cases r;obtain ⟨t,rfl⟩:=ru;exact .int i t
 | str x=>cases r;obtain ⟨t,rfl⟩:=ru;exact .str x t
 | tup ds =>
  obtain ⟨p,xs,rfl,h1,h2⟩:=r;cases ru
  rcases z0 with rfl | ⟨m,rfl⟩
  ·unfold ae at he;cases he
  ·obtain ⟨its,rv,pl,_⟩:=I.tuple (X:=X) (.inl (.inl h1))
   exact .tu (by unfold nrm;rfl) pl rv h2 (by unfold ae at he;exact he)
 | ktup ds =>
  obtain ⟨p,xs,rfl,h1,h2⟩:=r;cases ru
  rcases z0 with rfl | ⟨m,rfl⟩
  ·unfold ae at he;cases he
  ·obtain ⟨its,rv,pl,_⟩:=I.tuple (X:=X) (eW h1)
   exact .tu (by unfold nrm;rfl) pl rv h2 (by unfold ae at he;exact he)
 | lst ds =>
  obtain ⟨p,xs,rfl,h1,h2⟩:=r;cases ru
  rcases z0 with rfl | ⟨m,rfl⟩
  ·unfold ae at he;cases he
  ·obtain ⟨its,rv,pl,_⟩:=I.list (X:=X) (.inl (.inl h1))
   exact .li (by unfold nrm;rfl) pl.isList rv h2 (by unfold ae at he;exact he)
 | klst ds =>
  obtain ⟨p,xs,rfl,h1,h2⟩:=r;cases ru
  rcases z0 with rfl | ⟨m,rfl⟩
  ·unfold ae at he;cases he
  ·obtain ⟨its,rv,pl,_⟩:=I.list h1
   exact .li (by unfold nrm;rfl) pl.isList rv h2 (by unfold ae at he;exact he)
 | dK _ _=>unfold ae at he;cases he
 | dT _ _=>unfold ae at he;cases he
 | set _=>unfold ae at he;cases he
 | rng _ _=>unfold ae at he;cases he
 | exc _=>unfold ae at he;cases he
theorem qP{p:Addr}{a b:List Value}(h1:s.heap.IsTuple p a.toArray)(h2:s.heap.IsTuple p b.toArray):a=b:=by
 obtain ⟨o,e1,_,n,d1⟩:=h1;obtain ⟨o2,e2,_,n2,d2⟩:=h2;rw [e1] at e2;cases e2;rw [d1] at d2;have:=(Data.seq.inj d2).1;simpa using congrArg Array.toList this
theorem sW{p:Addr}{a b:List Value}(h1:s.heap.IsList p a.toArray)(h2:s.heap.IsList p b.toArray):a=b:=by
 obtain ⟨o,e1,_,n,d1⟩:=h1;obtain ⟨o2,e2,_,n2,d2⟩:=h2;rw [e1] at e2;cases e2;rw [d1] at d2;have:=(Data.seq.inj d2).1;simpa using congrArg Array.toList this
theorem bg{xs:List V}{its:List Value}(r:aw xs its){j:Nat}(h:j < its.length):∃ x,xs[j]?=some x/\aB x its[j]:=by
 have hx:j < xs.length:=by rw [r.length];exact h
 obtain ⟨u,e,ru⟩:=r.get (Ch hx);rw [Ch h] at e;cases e;exact ⟨_,Ch hx,ru⟩
theorem gM(I:Inv X pins σ H s):∀ (n m:Nat) {d e:D} {v:V} {u:Value},ae n d=true->ae m e=true->ay X.K H d v->ay X.K H e v->aB v u->nrm d=nrm e
 | n,m,d,e,v,u,h1,h2,r1,r2,ru=>by
  have v1:=kA I h1 r1 ru;have v2:=kA I h2 r2 ru
  cases v1 with
  | non=>cases v2;rfl
  | bl b=>cases v2;rfl
  | int i t=>cases v2;rfl
  | str x t=>cases v2;rfl
  | @tu n _ ds p xs its hd ht hv hr he =>
   cases v2 with
   | @tu m _ es _ ys jts hd2 ht2 hv2 hr2 he2 =>
    have:=qP ht ht2;subst this;have exy:xs=ys:=hv.inj hv2;subst exy;rw [hd,hd2]
    congr 1
    apply List.ext_getElem?;intro j;rw [eK,eK];have l1:=hr.len;have l2:=hr2.len
    by_cases hj:j < xs.length
    ·obtain ⟨d',e1,q1⟩:=hr.get' (Ch hj)
     obtain ⟨e',e2,q2⟩:=hr2.get' (Ch hj);rw [e1,e2]
     have hji:j < its.length:=by rw [<- hv.length];exact hj
     obtain ⟨x,ex,rx⟩:=bg hv hji;rw [Ch hj] at ex;cases ex;exact congrArg some (gM I n m (CH.mp he _ (CB e1)) (CH.mp he2 _ (CB e2)) q1 q2 rx)
    ·rw [EF (by omega),EF (by omega)]
   | li hd2 ht2 hv2 hr2 he2=>exact absurd rfl (SeqAt.ne_of_list_tuple ht2 ht)
  | @li n _ ds p xs its hd ht hv hr he =>
   cases v2 with
   | tu hd2 ht2 hv2 hr2 he2=>exact absurd rfl (SeqAt.ne_of_list_tuple ht ht2)
   | @li m _ es _ ys jts hd2 ht2 hv2 hr2 he2 =>
    have:=sW ht ht2;subst this;have exy:xs=ys:=hv.inj hv2;subst exy;rw [hd,hd2]
    congr 1
    apply List.ext_getElem?;intro j;rw [eK,eK];have l1:=hr.len;have l2:=hr2.len
    by_cases hj:j < xs.length
    ·obtain ⟨d',e1,q1⟩:=hr.get' (Ch hj)
     obtain ⟨e',e2,q2⟩:=hr2.get' (Ch hj);rw [e1,e2]
     have hji:j < its.length:=by rw [<- hv.length];exact hj
     obtain ⟨x,ex,rx⟩:=bg hv hji;rw [Ch hj] at ex;cases ex;exact congrArg some (gM I n m (CH.mp he _ (CB e1)) (CH.mp he2 _ (CB e2)) q1 q2 rx)
    ·rw [EF (by omega),EF (by omega)]
 termination_by n=>n
theorem kX{n:Nat}{f g:Nat->Bool}(h:∀ j,j < n->f j=g j):(List.range n).all f=(List.range n).all g:=by
 rw [DV,CH,CH]
 constructor
 ·intro z x hx;rw [<- h x (Dq.mp hx)];exact z x hx
 ·intro z x hx;rw [h x (Dq.mp hx)];exact z x hx
noncomputable def bN(ds es:List D)(j:Nat):Bool:=match ds[j]?,es[j]? with
 | some a,some b=>eqD a b
 | _,_=>true
theorem dS{ds es:List D}:fR (cB ds) (cB es)=((List.range (min ds.length es.length)).all (bN ds es)&&ds.length == es.length):=by
 rw [mH,mf,mf]
 congr 1
 refine kX fun j hj=> ?_
 have h1:j < ds.length:=by omega
 have h2:j < es.length:=by omega
 rw [eK,eK];unfold bN eqD;rw [Ch h1,Ch h2];rfl
theorem tJ(I:Inv X pins σ H s):∀ (n:Nat) {A:Around} {d e:D} {v v':V} {u w:Value},A.units+n < cLine->ae n d=true->ae n e=true->ay X.K H d v->ay X.K H e v'->aB v u->aB v' w->SeqAt.EqAt A s u w (eqD d e)
 | n,A,d,e,v,v',u,w,hu0,h1,h2,r1,r2,ru,rw'=>by
  have hu:A.units < cLine:=by omega
  have v1:=kA I h1 r1 ru;have v2:=kA I h2 r2 rw';unfold eqD
  cases v1 with
  | non =>
   cases v2 with
   | non=>exact SeqAt.EqAt.same _
   | bl b2=>exact SeqAt.EqAt.none_bool b2
   | int i2 t2=>exact SeqAt.EqAt.none_int i2 t2
   | str x2 t2=>exact SeqAt.EqAt.none_str x2 t2
   | tu hd2 ht2 hv2 hr2 he2=>rw [hd2];exact SeqAt.EqAt.none_tuple ht2 hu
   | li hd2 ht2 hv2 hr2 he2=>rw [hd2];exact SeqAt.EqAt.none_list ht2 hu
  | bl b1 =>
   cases v2 with
   | non=>exact SeqAt.EqAt.bool_none b1
   | bl b2=>exact SeqAt.EqAt.bool_bool b1 b2
   | int i2 t2=>exact SeqAt.EqAt.bool_int b1 i2 t2
   | str x2 t2=>exact SeqAt.EqAt.bool_str b1 x2 t2
   | tu hd2 ht2 hv2 hr2 he2=>rw [hd2];exact SeqAt.EqAt.bool_tuple b1 ht2 hu
   | li hd2 ht2 hv2 hr2 he2=>rw [hd2];exact SeqAt.EqAt.bool_list b1 ht2 hu
  | int i1 t1 =>
   cases v2 with
   | non=>exact SeqAt.EqAt.int_none i1 t1
   | bl b2=>exact SeqAt.EqAt.int_bool i1 t1 b2
   | int i2 t2=>exact SeqAt.EqAt.int_int i1 t1 i2 t2
   | str x2 t2=>exact SeqAt.EqAt.int_str i1 t1 x2 t2
   | tu hd2 ht2 hv2 hr2 he2=>rw [hd2];exact SeqAt.EqAt.int_tuple i1 t1 ht2 hu
   | li hd2 ht2 hv2 hr2 he2=>rw [hd2];exact SeqAt.EqAt.int_list i1 t1 ht2 hu
  | str x1 t1 =>
   cases v2 with
   | non=>exact SeqAt.EqAt.str_none x1 t1
   | bl b2=>exact SeqAt.EqAt.str_bool x1 t1 b2
   | int i2 t2=>exact SeqAt.EqAt.str_int x1 t1 i2 t2
   | str x2 t2=>exact SeqAt.EqAt.str_str x1 t1 x2 t2
   | tu hd2 ht2 hv2 hr2 he2=>rw [hd2];exact SeqAt.EqAt.str_tuple x1 t1 ht2 hu
   | li hd2 ht2 hv2 hr2 he2=>rw [hd2];exact SeqAt.EqAt.str_list x1 t1 ht2 hu
  | @tu n _ ds p xs its hd ht hv hr he =>
   cases v2 with
   | non=>rw [hd];exact SeqAt.EqAt.tuple_none ht hu
   | bl b2=>rw [hd];exact SeqAt.EqAt.tuple_bool b2 ht hu
   | int i2 t2=>rw [hd];exact SeqAt.EqAt.tuple_int i2 t2 ht hu
   | str x2 t2=>rw [hd];exact SeqAt.EqAt.tuple_str x2 t2 ht hu
   | @tu _ _ es q ys jts hd2 ht2 hv2 hr2 he2 =>
    by_cases epq:p=q
    ·subst epq
     have z:nrm d=nrm e:=gM I (n+1) (n+1) h1 h2 r1 r2 rfl;rw [<- z,jM (n+1) h1];exact SeqAt.EqAt.same _
    ·refine SeqAt.EqAt.of_refs epq ?_
     have hhe:∀ j (h1:j < its.toArray.size) (h2:j < jts.toArray.size),SeqAt.EqAt A.in1 s its.toArray[j] jts.toArray[j] (bN ds es j):=fun j h1 h2=>by
      have h1':j < its.length:=by simpa using h1
      have h2':j < jts.length:=by simpa using h2
      obtain ⟨x,ex,rx⟩:=bg hv h1';obtain ⟨y,ey,ry⟩:=bg hv2 h2';obtain ⟨d',e1,q1⟩:=hr.get' ex;obtain ⟨e',e2,q2⟩:=hr2.get' ey;have z:=tJ I n (A:=A.in1) (by show A.units+1+n < cLine;omega) (CH.mp he _ (CB e1)) (CH.mp he2 _ (CB e2)) q1 q2 rx ry
      have e3:bN ds es j=eqD d' e':=by unfold bN;rw [e1,e2]
      rw [e3];simpa using z
     have l1:its.toArray.size=ds.length:=by rw [Cm,<- hv.length,<- hr.len]
     have l2:jts.toArray.size=es.length:=by rw [Cm,<- hv2.length,<- hr2.len]
     have z:=SeqAt.RcAt.tuples ht ht2 hu hhe;rw [l1,l2] at z;rw [hd,hd2]
     show SeqAt.RcAt A s (.ref p) (.ref q) ((fR (cB ds) (cB es)))
     rw [dS];exact z
   | li hd2 ht2 hv2 hr2 he2=>rw [hd,hd2];exact SeqAt.EqAt.tuple_list ht ht2 hu
  | @li n _ ds p xs its hd ht hv hr he =>
   cases v2 with
   | non=>rw [hd];exact SeqAt.EqAt.list_none ht hu
   | bl b2=>rw [hd];exact SeqAt.EqAt.list_bool b2 ht hu
   | int i2 t2=>rw [hd];exact SeqAt.EqAt.list_int i2 t2 ht hu
   | str x2 t2=>rw [hd];exact SeqAt.EqAt.list_str x2 t2 ht hu
   | tu hd2 ht2 hv2 hr2 he2=>rw [hd,hd2];exact SeqAt.EqAt.list_tuple ht ht2 hu
   | @li _ _ es q ys jts hd2 ht2 hv2 hr2 he2 =>
    by_cases epq:p=q
    ·subst epq
     have z:nrm d=nrm e:=gM I (n+1) (n+1) h1 h2 r1 r2 rfl;rw [<- z,jM (n+1) h1];exact SeqAt.EqAt.same _
    ·refine SeqAt.EqAt.of_refs epq ?_
     have hhe:∀ j (h1:j < its.toArray.size) (h2:j < jts.toArray.size),SeqAt.EqAt A.in1 s its.toArray[j] jts.toArray[j] (bN ds es j):=fun j h1 h2=>by
      have h1':j < its.length:=by simpa using h1
      have h2':j < jts.length:=by simpa using h2
      obtain ⟨x,ex,rx⟩:=bg hv h1';obtain ⟨y,ey,ry⟩:=bg hv2 h2';obtain ⟨d',e1,q1⟩:=hr.get' ex;obtain ⟨e',e2,q2⟩:=hr2.get' ey;have z:=tJ I n (A:=A.in1) (by show A.units+1+n < cLine;omega) (CH.mp he _ (CB e1)) (CH.mp he2 _ (CB e2)) q1 q2 rx ry
      have e3:bN ds es j=eqD d' e':=by unfold bN;rw [e1,e2]
      rw [e3];simpa using z
     have l1:its.toArray.size=ds.length:=by rw [Cm,<- hv.length,<- hr.len]
     have l2:jts.toArray.size=es.length:=by rw [Cm,<- hv2.length,<- hr2.len]
     rw [hd,hd2]
     show SeqAt.RcAt A s (.ref p) (.ref q) ((fR (cB ds) (cB es)))
     by_cases hl:ds.length=es.length
     ·have z:=SeqAt.RcAt.lists ht ht2 (by rw [l1,l2];exact hl) hu hhe
      rw [l1] at z;rw [dS,<- hl,Ef,EH,Ea];exact z
     ·have z:=SeqAt.RcAt.lists_lengths ht ht2 (by rw [l1,l2];simpa using hl) hu
      rw [dS,DY.mpr hl,Dr];exact z
 termination_by n=>n
theorem rcAt(I:Inv X pins σ H s)(n:Nat){A:Around}{d e:D}{v v':V}{u w:Value}(hu0:A.units+n < cLine)(h1:ae n d=true)(h2:ae n e=true)(r1:ay X.K H d v)(r2:ay X.K H e v')(ru:aB v u)(rw':aB v' w):SeqAt.RcAt A s u w (eqD d e):=by
 have hu:A.units < cLine:=by omega
 have v1:=kA I h1 r1 ru;have v2:=kA I h2 r2 rw';unfold eqD
 cases v1 with
 | non =>
  cases v2 with
  | non=>exact SeqAt.RcAt.none_none
  | bl b2=>exact SeqAt.RcAt.none_bool b2
  | int i2 t2=>exact SeqAt.RcAt.none_int i2 t2
  | str x2 t2=>exact SeqAt.RcAt.none_str x2 t2
  | tu hd2 ht2 hv2 hr2 he2=>rw [hd2];exact SeqAt.RcAt.none_tuple ht2 hu
  | li hd2 ht2 hv2 hr2 he2=>rw [hd2];exact SeqAt.RcAt.none_list ht2 hu
 | bl b1 =>
  cases v2 with
  | non=>exact SeqAt.RcAt.bool_none b1
  | bl b2=>exact SeqAt.RcAt.bool_bool b1 b2
  | int i2 t2=>exact SeqAt.RcAt.bool_int b1 i2 t2
  | str x2 t2=>exact SeqAt.RcAt.bool_str b1 x2 t2
  | tu hd2 ht2 hv2 hr2 he2=>rw [hd2];exact SeqAt.RcAt.bool_tuple b1 ht2 hu
  | li hd2 ht2 hv2 hr2 he2=>rw [hd2];exact SeqAt.RcAt.bool_list b1 ht2 hu
 | int i1 t1 =>
  cases v2 with
  | non=>exact SeqAt.RcAt.int_none i1 t1
  | bl b2=>exact SeqAt.RcAt.int_bool i1 t1 b2
  | int i2 t2=>exact SeqAt.RcAt.int_int i1 t1 i2 t2
  | str x2 t2=>exact SeqAt.RcAt.int_str i1 t1 x2 t2
  | tu hd2 ht2 hv2 hr2 he2=>rw [hd2];exact SeqAt.RcAt.int_tuple i1 t1 ht2 hu
  | li hd2 ht2 hv2 hr2 he2=>rw [hd2];exact SeqAt.RcAt.int_list i1 t1 ht2 hu
 | str x1 t1 =>
  cases v2 with
  | non=>exact SeqAt.RcAt.str_none x1 t1
  | bl b2=>exact SeqAt.RcAt.str_bool x1 t1 b2
  | int i2 t2=>exact SeqAt.RcAt.str_int x1 t1 i2 t2
  | str x2 t2=>exact SeqAt.RcAt.str_str x1 t1 x2 t2
  | tu hd2 ht2 hv2 hr2 he2=>rw [hd2];exact SeqAt.RcAt.str_tuple x1 t1 ht2 hu
  | li hd2 ht2 hv2 hr2 he2=>rw [hd2];exact SeqAt.RcAt.str_list x1 t1 ht2 hu
 | @tu n _ ds p xs its hd ht hv hr he =>
  cases v2 with
  | non=>rw [hd];exact SeqAt.RcAt.tuple_none ht hu
  | bl b2=>rw [hd];exact SeqAt.RcAt.tuple_bool b2 ht hu
  | int i2 t2=>rw [hd];exact SeqAt.RcAt.tuple_int i2 t2 ht hu
  | str x2 t2=>rw [hd];exact SeqAt.RcAt.tuple_str x2 t2 ht hu
  | @tu _ _ es q ys jts hd2 ht2 hv2 hr2 he2 =>
   have hhe:∀ j (h1:j < its.toArray.size) (h2:j < jts.toArray.size),SeqAt.EqAt A.in1 s its.toArray[j] jts.toArray[j] (bN ds es j):=fun j h1 h2=>by
    have h1':j < its.length:=by simpa using h1
    have h2':j < jts.length:=by simpa using h2
    obtain ⟨x,ex,rx⟩:=bg hv h1';obtain ⟨y,ey,ry⟩:=bg hv2 h2';obtain ⟨d',e1,q1⟩:=hr.get' ex;obtain ⟨e',e2,q2⟩:=hr2.get' ey;have z:=tJ I n (A:=A.in1) (by show A.units+1+n < cLine;omega) (CH.mp he _ (CB e1)) (CH.mp he2 _ (CB e2)) q1 q2 rx ry
    have e3:bN ds es j=eqD d' e':=by unfold bN;rw [e1,e2]
    rw [e3];simpa using z
   have l1:its.toArray.size=ds.length:=by rw [Cm,<- hv.length,<- hr.len]
   have l2:jts.toArray.size=es.length:=by rw [Cm,<- hv2.length,<- hr2.len]
   have z:=SeqAt.RcAt.tuples ht ht2 hu hhe;rw [l1,l2] at z;rw [hd,hd2]
   show SeqAt.RcAt A s (.ref p) (.ref q) ((fR (cB ds) (cB es)))
   rw [dS];exact z
  | li hd2 ht2 hv2 hr2 he2=>rw [hd,hd2];exact SeqAt.RcAt.tuple_list ht ht2 hu
 | @li n _ ds p xs its hd ht hv hr he =>
  cases v2 with
  | non=>rw [hd];exact SeqAt.RcAt.list_none ht hu
  | bl b2=>rw [hd];exact SeqAt.RcAt.list_bool b2 ht hu
  | int i2 t2=>rw [hd];exact SeqAt.RcAt.list_int i2 t2 ht hu
  | str x2 t2=>rw [hd];exact SeqAt.RcAt.list_str x2 t2 ht hu
  | tu hd2 ht2 hv2 hr2 he2=>rw [hd,hd2];exact SeqAt.RcAt.list_tuple ht ht2 hu
  | @li _ _ es q ys jts hd2 ht2 hv2 hr2 he2 =>
   have hhe:∀ j (h1:j < its.toArray.size) (h2:j < jts.toArray.size),SeqAt.EqAt A.in1 s its.toArray[j] jts.toArray[j] (bN ds es j):=fun j h1 h2=>by
    have h1':j < its.length:=by simpa using h1
    have h2':j < jts.length:=by simpa using h2
    obtain ⟨x,ex,rx⟩:=bg hv h1';obtain ⟨y,ey,ry⟩:=bg hv2 h2';obtain ⟨d',e1,q1⟩:=hr.get' ex;obtain ⟨e',e2,q2⟩:=hr2.get' ey;have z:=tJ I n (A:=A.in1) (by show A.units+1+n < cLine;omega) (CH.mp he _ (CB e1)) (CH.mp he2 _ (CB e2)) q1 q2 rx ry
    have e3:bN ds es j=eqD d' e':=by unfold bN;rw [e1,e2]
    rw [e3];simpa using z
   have l1:its.toArray.size=ds.length:=by rw [Cm,<- hv.length,<- hr.len]
   have l2:jts.toArray.size=es.length:=by rw [Cm,<- hv2.length,<- hr2.len]
   rw [hd,hd2]
   show SeqAt.RcAt A s (.ref p) (.ref q) ((fR (cB ds) (cB es)))
   by_cases hl:ds.length=es.length
   ·have z:=SeqAt.RcAt.lists ht ht2 (by rw [l1,l2];exact hl) hu hhe
    rw [l1] at z;rw [dS,<- hl,Ef,EH,Ea];exact z
   ·have z:=SeqAt.RcAt.lists_lengths ht ht2 (by rw [l1,l2];simpa using hl) hu
    rw [dS,DY.mpr hl,Dr];exact z
theorem neAt(I:Inv X pins σ H s)(n:Nat){A:Around}{d e:D}{v v':V}{u w:Value}(hu0:A.units+n < cLine)(h1:ae n d=true)(h2:ae n e=true)(r1:ay X.K H d v)(r2:ay X.K H e v')(ru:aB v u)(rw':aB v' w):SeqAt.RcNeAt A s u w (!(eqD d e)):=by
 have hu:A.units < cLine:=by omega
 have v1:=kA I h1 r1 ru;have v2:=kA I h2 r2 rw';unfold eqD
 cases v1 with
 | non =>
  cases v2 with
  | non=>exact SeqAt.RcNeAt.none_none
  | bl b2=>exact SeqAt.RcNeAt.none_bool b2
  | int i2 t2=>exact SeqAt.RcNeAt.none_int i2 t2
  | str x2 t2=>exact SeqAt.RcNeAt.none_str x2 t2
  | tu hd2 ht2 hv2 hr2 he2=>rw [hd2];exact SeqAt.RcNeAt.none_tuple ht2 hu
  | li hd2 ht2 hv2 hr2 he2=>rw [hd2];exact SeqAt.RcNeAt.none_list ht2 hu
 | bl b1 =>
  cases v2 with
  | non=>exact SeqAt.RcNeAt.bool_none b1
  | bl b2=>exact SeqAt.RcNeAt.bool_bool b1 b2
  | int i2 t2=>exact SeqAt.RcNeAt.bool_int b1 i2 t2
  | str x2 t2=>exact SeqAt.RcNeAt.bool_str b1 x2 t2
  | tu hd2 ht2 hv2 hr2 he2=>rw [hd2];exact SeqAt.RcNeAt.bool_tuple b1 ht2 hu
  | li hd2 ht2 hv2 hr2 he2=>rw [hd2];exact SeqAt.RcNeAt.bool_list b1 ht2 hu
 | int i1 t1 =>
  cases v2 with
  | non=>exact SeqAt.RcNeAt.int_none i1 t1
  | bl b2=>exact SeqAt.RcNeAt.int_bool i1 t1 b2
  | int i2 t2=>exact SeqAt.RcNeAt.int_int i1 t1 i2 t2
  | str x2 t2=>exact SeqAt.RcNeAt.int_str i1 t1 x2 t2
  | tu hd2 ht2 hv2 hr2 he2=>rw [hd2];exact SeqAt.RcNeAt.int_tuple i1 t1 ht2 hu
  | li hd2 ht2 hv2 hr2 he2=>rw [hd2];exact SeqAt.RcNeAt.int_list i1 t1 ht2 hu
 | str x1 t1 =>
  cases v2 with
  | non=>exact SeqAt.RcNeAt.str_none x1 t1
  | bl b2=>exact SeqAt.RcNeAt.str_bool x1 t1 b2
  | int i2 t2=>exact SeqAt.RcNeAt.str_int x1 t1 i2 t2
  | str x2 t2=>exact SeqAt.RcNeAt.str_str x1 t1 x2 t2
  | tu hd2 ht2 hv2 hr2 he2=>rw [hd2];exact SeqAt.RcNeAt.str_tuple x1 t1 ht2 hu
  | li hd2 ht2 hv2 hr2 he2=>rw [hd2];exact SeqAt.RcNeAt.str_list x1 t1 ht2 hu
 | @tu n _ ds p xs its hd ht hv hr he =>
  cases v2 with
  | non=>rw [hd];exact SeqAt.RcNeAt.tuple_none ht hu
  | bl b2=>rw [hd];exact SeqAt.RcNeAt.tuple_bool b2 ht hu
  | int i2 t2=>rw [hd];exact SeqAt.RcNeAt.tuple_int i2 t2 ht hu
  | str x2 t2=>rw [hd];exact SeqAt.RcNeAt.tuple_str x2 t2 ht hu
  | @tu _ _ es q ys jts hd2 ht2 hv2 hr2 he2 =>
   have hhe:∀ j (h1:j < its.toArray.size) (h2:j < jts.toArray.size),SeqAt.EqAt A.in1 s its.toArray[j] jts.toArray[j] (bN ds es j):=fun j h1 h2=>by
    have h1':j < its.length:=by simpa using h1
    have h2':j < jts.length:=by simpa using h2
    obtain ⟨x,ex,rx⟩:=bg hv h1';obtain ⟨y,ey,ry⟩:=bg hv2 h2';obtain ⟨d',e1,q1⟩:=hr.get' ex;obtain ⟨e',e2,q2⟩:=hr2.get' ey;have z:=tJ I n (A:=A.in1) (by show A.units+1+n < cLine;omega) (CH.mp he _ (CB e1)) (CH.mp he2 _ (CB e2)) q1 q2 rx ry
    have e3:bN ds es j=eqD d' e':=by unfold bN;rw [e1,e2]
    rw [e3];simpa using z
   have l1:its.toArray.size=ds.length:=by rw [Cm,<- hv.length,<- hr.len]
   have l2:jts.toArray.size=es.length:=by rw [Cm,<- hv2.length,<- hr2.len]
   have z:=SeqAt.RcNeAt.tuples ht ht2 hu hhe;rw [l1,l2] at z;rw [hd,hd2]
   show SeqAt.RcNeAt A s (.ref p) (.ref q) (!(fR (cB ds) (cB es)))
   rw [dS];exact z
  | li hd2 ht2 hv2 hr2 he2=>rw [hd,hd2];exact SeqAt.RcNeAt.tuple_list ht ht2 hu
 | @li n _ ds p xs its hd ht hv hr he =>
  cases v2 with
  | non=>rw [hd];exact SeqAt.RcNeAt.list_none ht hu
  | bl b2=>rw [hd];exact SeqAt.RcNeAt.list_bool b2 ht hu
  | int i2 t2=>rw [hd];exact SeqAt.RcNeAt.list_int i2 t2 ht hu
  | str x2 t2=>rw [hd];exact SeqAt.RcNeAt.list_str x2 t2 ht hu
  | tu hd2 ht2 hv2 hr2 he2=>rw [hd,hd2];exact SeqAt.RcNeAt.list_tuple ht ht2 hu
  | @li _ _ es q ys jts hd2 ht2 hv2 hr2 he2 =>
   have hhe:∀ j (h1:j < its.toArray.size) (h2:j < jts.toArray.size),SeqAt.EqAt A.in1 s its.toArray[j] jts.toArray[j] (bN ds es j):=fun j h1 h2=>by
    have h1':j < its.length:=by simpa using h1
    have h2':j < jts.length:=by simpa using h2
    obtain ⟨x,ex,rx⟩:=bg hv h1';obtain ⟨y,ey,ry⟩:=bg hv2 h2';obtain ⟨d',e1,q1⟩:=hr.get' ex;obtain ⟨e',e2,q2⟩:=hr2.get' ey;have z:=tJ I n (A:=A.in1) (by show A.units+1+n < cLine;omega) (CH.mp he _ (CB e1)) (CH.mp he2 _ (CB e2)) q1 q2 rx ry
    have e3:bN ds es j=eqD d' e':=by unfold bN;rw [e1,e2]
    rw [e3];simpa using z
   have l1:its.toArray.size=ds.length:=by rw [Cm,<- hv.length,<- hr.len]
   have l2:jts.toArray.size=es.length:=by rw [Cm,<- hv2.length,<- hr2.len]
   rw [hd,hd2]
   show SeqAt.RcNeAt A s (.ref p) (.ref q) (!(fR (cB ds) (cB es)))
   by_cases hl:ds.length=es.length
   ·have z:=SeqAt.RcNeAt.lists ht ht2 (by rw [l1,l2];exact hl) hu hhe
    rw [l1] at z;rw [dS,<- hl,Ef,EH,Ea];exact z
   ·have z:=SeqAt.RcNeAt.lists_lengths ht ht2 (by rw [l1,l2];simpa using hl) hu
    rw [dS,DY.mpr hl,Dr];exact z
end
noncomputable def gEq:List D->Option (D×Bool)
 | [d,e]=>if (ae 9 d&&ae 9 e)=true then some (.bl (eqD d e),false) else none
 | _=>none
noncomputable def gNe:List D->Option (D×Bool)
 | [d,e]=>if (ae 9 d&&ae 9 e)=true then some (.bl (!(eqD d e)),false) else none
 | _=>none
noncomputable def rEqD(K:E2):R2:=fun x y H Q=>∃ d e,ae 9 d=true/\ae 9 e=true/\ay K H d x/\ay K H e y/\Q (.bl (eqD d e)) H
noncomputable def rNeD(K:E2):R2:=fun x y H Q=>∃ d e,ae 9 d=true/\ae 9 e=true/\ay K H d x/\ay K H e y/\Q (.bl (!(eqD d e))) H
section
variable{X:Cx}
theorem xO(hu:X.A.units+9 < cLine):OpR X (compareOp .Eq) (rEqD X.K):=by
 intro pins s σ H x y v u Q I rx ry h;obtain ⟨d,e,h1,h2,r1,r2,q⟩:=h;exact rcAt I 9 hu h1 h2 r1 r2 rx ry _ _ _ _ ⟨.bl _,H,I,rfl,q⟩
theorem op_neD(hu:X.A.units+9 < cLine):OpR X (compareOp .NotEq) (rNeD X.K):=by
 intro pins s σ H x y v u Q I rx ry h;obtain ⟨d,e,h1,h2,r1,r2,q⟩:=h;exact neAt I 9 hu h1 h2 r1 r2 rx ry _ _ _ _ ⟨.bl _,H,I,rfl,q⟩
end
theorem aO{K:E2}{H Hh:Hp}{a b:D}{vs:List V}(h:kU K H Hh [a,b] vs):∃ x y,vs=[x,y]/\gC K H Hh a x/\gC K H Hh b y:=by
 match vs,h with
 | [x,y],h=>exact ⟨x,y,rfl,h.1,h.2.1⟩
theorem aQ{K:E2}{H Hh:Hp}{a:D}{vs:List V}(h:kU K H Hh [a] vs):∃ x,vs=[x]/\gC K H Hh a x:=by
 match vs,h with
 | [x],h=>exact ⟨x,rfl,h.1⟩
theorem B2{K:E2}:OpS K (r2 (rEqD K)) gEq:=by
 intro vs ds H L Q d nw hm r e q
 match ds,e with
 | [a,b],e =>
  obtain ⟨x,y,rfl,ra,rb⟩:=aO r;have e:(if (ae 9 a&&ae 9 b)=true then some (D.bl (eqD a b),false) else none)=some (d,nw):=e
  split at e
  ·rename_i hc
   have hc:=(CD _ _).mp hc;cases e;exact ⟨a,b,hc.1,hc.2,ra.d az,rb.d az,q _ H (aa.refl _) rfl⟩
  ·cases e
theorem os_ne{K:E2}:OpS K (r2 (rNeD K)) gNe:=by
 intro vs ds H L Q d nw hm r e q
 match ds,e with
 | [a,b],e =>
  obtain ⟨x,y,rfl,ra,rb⟩:=aO r;have e:(if (ae 9 a&&ae 9 b)=true then some (D.bl (!(eqD a b)),false) else none)=some (d,nw):=e
  split at e
  ·rename_i hc
   have hc:=(CD _ _).mp hc;cases e;exact ⟨a,b,hc.1,hc.2,ra.d az,rb.d az,q _ H (aa.refl _) rfl⟩
  ·cases e
section
variable{X:Cx}
noncomputable def xh:R2:=fun x y H Q=>∃ a b xs ys,x = .ref a/\y = .ref b/\H a=some (.tup xs)/\H b=some (.tup ys)/\xs.length+ys.length<=sizeLine /\
 ∀ p H',H' p=some (.tup (xs++ys))->aa H H'->Q (.ref p) H'
theorem AT:OpR X (binaryOp .Add) xh:=by
 intro pins s σ H x y v u Q I rx ry h;obtain ⟨a,b,xs,ys,rfl,rfl,ha,hb,hz,q⟩:=h
 by_cases hx:xs=[]
 ·subst hx
  cases rx;cases ry;obtain ⟨its,r1,p1,_⟩:=I.tuple (X:=X) (.inl (.inl ha));obtain ⟨its2,r2,p2,_⟩:=I.tuple (X:=X) (.inl (.inl hb));cases r1;exact Bu p1 p2 ⟨.ref b,H,I,rfl,q b H hb (aa.refl H)⟩
 ·refine AS pins s σ H _ _ v u Q I rx ry ⟨a,b,xs,ys,rfl,rfl,.inl (.inl ha),.inl (.inl hb),hx,hz,fun e=> ?_,fun e p hp=> ?_⟩
  ·subst e
   exact q a H (by rw [DE];exact ha) (aa.refl H)
  ·exact q p _ af fun c o e'=>by rw [ah (aq e' hp)];exact e'
noncomputable def rSlD:RSl:=fun x lo hi H Q=>∃ a xs,x = .ref a/\H a=some (.tup xs)/\∀ p H',H' p=some (.tup (mI xs lo hi))->aa H H'->Q (.ref p) H'
theorem zX:SlR X rSlD:=by
 intro pins s σ H x v vl vu lo hi sl Q I rx hs pl pu h;obtain ⟨a,xs,rfl,hx,q⟩:=h
 by_cases hw:HT.sIx xs.length 0 lo=0/\HT.sIx xs.length xs.length hi=xs.length
 ·cases rx
  obtain ⟨its,r,ht,hz⟩:=I.tuple (X:=X) (.inl (.inl hx))
  have hlen:its.toArray.size=xs.length:=by rw [Cm];exact r.length.symm
  refine ⟨"tuple",_,PyProof.Rows.slot_tuple_getitem.lookup,ht.typeIs,?_⟩;refine HT.iF ht hs pl pu (by rw [hlen];exact hw) ⟨.ref a,H,I,rfl,q a H ?_ (aa.refl H)⟩
  have:mI xs lo hi=xs:=by
   unfold mI;rw [hw.1,hw.2,List.drop_zero,Nat.sub_zero,List.take_length]
  rw [this];exact hx
 ·exact sl_tup pins s σ H _ v vl vu lo hi sl Q I rx hs pl pu ⟨a,xs,rfl,.inl (.inl hx),hw,fun p hp=>q p _ af (aa.upd hp)⟩
end
noncomputable def small(n:Nat):Bool:=decide (n<=1000000)
theorem gG{n:Nat}(h:small n=true):n<=sizeLine:=DD (Cz h) (by decide)
theorem lK{n:Nat}(h:small n=true):n < sizeLine:=Nat.lt_of_le_of_lt (Cz h) (by decide)
noncomputable def jN(xs:List D)(lo hi:Option Int):List D:=(xs.drop (HT.sIx xs.length 0 lo)).take (HT.sIx xs.length xs.length hi - HT.sIx xs.length 0 lo)
theorem ag.cut{K:E2}{H:Hp}{ds:List D}{xs:List V}(h:ag K H ds xs)(lo hi:Option Int):ag K H (jN ds lo hi) (mI xs lo hi):=by
 unfold jN mI;rw [h.len];exact (h.drop _).take _
noncomputable def kG(a b:Int):Bool:=decide (-(2 ^ 64) < a/\a < 2 ^ 64)||decide (-(2 ^ 64) < b/\b < 2 ^ 64)
noncomputable def aH:List D->Option (D×Bool)
 | [.int a,.int b]=>some (.int (a+b),false)
 | [.lst a,.lst b]=>if small (a.length+b.length)=true then some (.lst (a++b),true) else none
 | [.tup a,.tup b]=>if small (a.length+b.length)=true then some (.tup (a++b),false) else none
 | _=>none
noncomputable def dg:List D->Option (D×Bool)
 | [.int a,.int b]=>some (.int (a - b),false)
 | _=>none
noncomputable def repL(n:Nat)(l:List D):List D:=(List.replicate n l).flatten
noncomputable def fN:List D->Option (D×Bool)
 | [.int a,.int b]=>if kG a b=true then some (.int (a * b),false) else none
 | [.lst a,.int k]=>if (decide (-1000000<=k/\k<=1000000)&&small (a.length * k.toNat))=true then some (.lst (repL k.toNat a),true) else none
 | _=>none
noncomputable def jK:List D->Option (D×Bool)
 | [.int a,.int b]=>if decide (0 < b/\b < 1073741824)=true then some (.int (a / b),false) else none
 | _=>none
noncomputable def kq:List D->Option (D×Bool)
 | [.int a,.int b]=>if decide (0 < b)=true then some (.int (a % b),false) else none
 | _=>none
noncomputable def yu:List D->Option (D×Bool)
 | [.int a,.int b]=>if decide (0<=b/\b<=1000000/\a.natAbs < 2 ^ 64)=true then some (.int (a ^ b.toNat),false) else none
 | _=>none
noncomputable def bj:List D->Option (List Int)
 | []=>some []
 | .int i::ds=>match bj ds with
  | some l=>some (i::l)
  | none=>none
 | _=>none
noncomputable def iK:List D->Option (List Bool)
 | []=>some []
 | .bl i::ds=>match iK ds with
  | some l=>some (i::l)
  | none=>none
 | _=>none
theorem cb:∀ {ds:List D} {l:List Int},bj ds=some l->ds=l.map D.int
 | [],l,h=>by unfold bj at h;cases h;rfl
 | d::ds,l,h=>by
  cases d<;>first | (unfold bj at h;cases h;done) | skip
  unfold bj at h
  cases e:bj ds with
  | none=>rw [e] at h;cases h
  | some l'=>rw [e] at h;cases h;rw [cb e];rfl
theorem cI(l:List Int):bj (l.map D.int)=some l:=by
 induction l with
 | nil=>rfl
 | cons i l ih=>rw [CF];unfold bj;rw [ih]
theorem rL:∀ {ds:List D} {l:List Bool},iK ds=some l->ds=l.map D.bl
 | [],l,h=>by unfold iK at h;cases h;rfl
 | d::ds,l,h=>by
  cases d<;>first | (unfold iK at h;cases h;done) | skip
  unfold iK at h
  cases e:iK ds with
  | none=>rw [e] at h;cases h
  | some l'=>rw [e] at h;cases h;rw [rL e];rfl
theorem wq(l:List Bool):iK (l.map D.bl)=some l:=by
 induction l with
 | nil=>rfl
 | cons i l ih=>rw [CF];unfold iK;rw [ih]
noncomputable def gLt:List D->Option (D×Bool)
 | [.int a,.int b]=>some (.bl (decide (a < b)),false)
 | _=>none
noncomputable def gLe:List D->Option (D×Bool)
 | [.int a,.int b]=>some (.bl (decide (a<=b)),false)
 | _=>none
noncomputable def gGt:List D->Option (D×Bool)
 | [.int a,.int b]=>some (.bl (decide (b < a)),false)
 | _=>none
noncomputable def gGe:List D->Option (D×Bool)
 | [.int a,.int b]=>some (.bl (decide (b<=a)),false)
 | _=>none
noncomputable def uI:D->Bool
 | .non=>true
 | _=>false
noncomputable def gIs:List D->Option (D×Bool)
 | [d,.non]=>some (.bl (uI d),false)
 | [.bl a,.bl b]=>some (.bl (a == b),false)
 | _=>none
noncomputable def jj:List D->Option (D×Bool)
 | [d,.non]=>some (.bl (!uI d),false)
 | [.bl a,.bl b]=>some (.bl (a != b),false)
 | _=>none
noncomputable def rIsD:R2:=fun x y H Q=>(y = .non/\Q (.bl (decide (x = .non))) H)\/∃ a b,x = .bl a/\y = .bl b/\Q (.bl (a == b)) H
noncomputable def o5:R2:=fun x y H Q=>(y = .non/\Q (.bl (!decide (x = .non))) H)\/∃ a b,x = .bl a/\y = .bl b/\Q (.bl (a != b)) H
section
variable{K:E2}
theorem mw{H Hh:Hp}{d:D}{v:V}(r:gC K H Hh d v):decide (v = .non)=uI d:=by
 cases d<;>first
  | (have r:v=_:=r;subst r;rfl)
  | (obtain ⟨p,xs,rfl,_⟩:=r;rfl)
  | (obtain ⟨p,rfl,_⟩:=r;rfl)
theorem ck{H Hh:Hp}{i:Int}{v:V}(r:gC K H Hh (.int i) v):v = .int i:=r
theorem Ae{H Hh:Hp}{i:Bool}{v:V}(r:gC K H Hh (.bl i) v):v = .bl i:=r
theorem cD{H:Hp}{L:List Addr}{ds:List D}{xs:List V}(r:ag K (hid L H) ds xs){p:Addr}(hp:H p=none):gA K H (upd H p (.lst xs)) L (.lst ds) true (.ref p) :=
 ⟨p,rfl,hp,xs,af,(aD (fun b hb=>(Cr.mp hb).elim (fun z=> .inr (by rw [z];exact hp)) .inl) fun b o _ e=>aa.upd hp b o e:aa (hid L H) _).repDs r⟩
theorem jD{H H':Hp}{L:List Addr}{ds:List D}{xs:List V}(hm:∀ p∈L,dO (H p))(r:ag K (hid L H) ds xs){p:Addr}(s:aa H H')(hp:H' p=some (.tup xs)):gA K H H' L (.tup ds) false (.ref p):=by
 refine ⟨p,xs,rfl,?_,(aD (fun b hb=> .inl hb) fun b o _ e=>s b o e:aa (hid L H) _).repDs r⟩;rw [aJ (fun z=> ?_)]
 ·exact hp
 ·obtain ⟨u,q⟩:=(hm p z).some
  have e:=s p u q;rw [hp] at e;cases e;have:=hm p z;rw [q] at this;exact this
theorem os_add:OpS K (r2 fun x y H Q=>rI0 (fun i j=> .int (i+j)) x y H Q\/rCat x y H Q\/xh x y H Q) aH:=by
 intro vs ds H L Q d nw hm r e q;unfold aH at e
 split at e
 ·obtain ⟨x,y,rfl,ra,rb⟩:=aO r
  cases e;exact .inl ⟨_,_,ra,rb,q _ H (aa.refl _) rfl⟩
 ·obtain ⟨x,y,rfl,⟨p,xs,rfl,h1,h2⟩,⟨p',ys,rfl,h3,h4⟩⟩:=aO r
  split at e
  ·rename_i hs
   cases e;refine .inr (.inl ⟨p,p',xs,ys,rfl,rfl,h1,h3,gG (by rw [<- h2.len,<- h4.len];exact hs),fun l hl=>q _ _ (aa.upd hl) (cD (h2.app h4) hl)⟩)
  ·cases e
 ·obtain ⟨x,y,rfl,⟨p,xs,rfl,h1,h2⟩,⟨p',ys,rfl,h3,h4⟩⟩:=aO r
  split at e
  ·rename_i hs
   cases e;exact .inr (.inr ⟨p,p',xs,ys,rfl,rfl,(am h1).2,(am h3).2,gG (by rw [<- h2.len,<- h4.len];exact hs),fun l H' hl s=>q _ _ s (jD hm (h2.app h4) s hl)⟩)
  ·cases e
 ·cases e
theorem os_sub:OpS K (r2 (rI0 fun i j=> .int (i - j))) dg:=by
 intro vs ds H L Q d nw hm r e q;unfold dg at e
 split at e
 ·obtain ⟨x,y,rfl,ra,rb⟩:=aO r
  cases e;exact ⟨_,_,ra,rb,q _ H (aa.refl _) rfl⟩
 ·cases e
theorem qp:∀ {H:Hp} {ds:List D} {xs:List V} (n:Nat),ag K H ds xs->ag K H (repL n ds) (List.replicate n xs).flatten
 | _,_,_,0,_=>trivial
 | _,_,_,n+1,h=>by
  unfold repL;rw [Do,Do,DU,DU];exact h.app (qp n h)
theorem os_mul:OpS K (r2 fun x y H Q=>rI zp (fun i j=> .int (i * j)) x y H Q\/rRep x y H Q) fN:=by
 intro vs ds H L Q d nw hm r e q;unfold fN at e
 split at e
 ·obtain ⟨x,y,rfl,ra,rb⟩:=aO r
  split at e
  ·rename_i hs
   cases e;refine .inl ⟨_,_,ra,rb,?_,q _ H (aa.refl _) rfl⟩
   rcases (Bool.or_eq_true _ _).mp hs with z | z
   ·exact .inl (Cz z)
   ·exact .inr (Cz z)
  ·cases e
 ·rename_i a k
  obtain ⟨x,y,rfl,⟨p,xs,rfl,h1,h2⟩,rb⟩:=aO r
  split at e
  ·rename_i hs
   cases e;have hs:=(CD _ _).mp hs;have hb:=Cz hs.1;refine .inr ⟨p,k,xs,rfl,rb,h1,by omega,by omega,?_,fun l hl=>q _ _ (aa.upd hl) (cD (qp k.toNat h2) hl)⟩;rw [<- h2.len];exact gG hs.2
  ·cases e
 ·cases e
theorem AM:OpS K (r2 (rI CDiv fun i j=> .int (i / j))) jK:=by
 intro vs ds H L Q d nw hm r e q;unfold jK at e
 split at e
 ·obtain ⟨x,y,rfl,ra,rb⟩:=aO r
  split at e
  ·rename_i hs
   cases e;exact ⟨_,_,ra,rb,(by have z:=Cz hs;exact z),q _ H (aa.refl _) rfl⟩
  ·cases e
 ·cases e
theorem os_mod:OpS K (r2 (rI (fun _ j=>0 < j) fun i j=> .int (i % j))) kq:=by
 intro vs ds H L Q d nw hm r e q;unfold kq at e
 split at e
 ·obtain ⟨x,y,rfl,ra,rb⟩:=aO r
  split at e
  ·rename_i hs
   cases e;exact ⟨_,_,ra,rb,Cz hs,q _ H (aa.refl _) rfl⟩
  ·cases e
 ·cases e
theorem os_pow:OpS K (r2 (rI CPow fun i j=> .int (i ^ j.toNat))) yu:=by
 intro vs ds H L Q d nw hm r e q;unfold yu at e
 split at e
 ·obtain ⟨x,y,rfl,ra,rb⟩:=aO r
  split at e
  ·rename_i hs
   cases e;exact ⟨_,_,ra,rb,(by have z:=Cz hs;exact z),q _ H (aa.refl _) rfl⟩
  ·cases e
 ·cases e
theorem os_lt:OpS K (r2 (rI0 fun i j=> .bl (decide (i < j)))) gLt:=by
 intro vs ds H L Q d nw hm r e q;unfold gLt at e
 split at e
 ·obtain ⟨x,y,rfl,ra,rb⟩:=aO r
  cases e;exact ⟨_,_,ra,rb,q _ H (aa.refl _) rfl⟩
 ·cases e
theorem B0:OpS K (r2 (rI0 fun i j=> .bl (decide (i<=j)))) gLe:=by
 intro vs ds H L Q d nw hm r e q;unfold gLe at e
 split at e
 ·obtain ⟨x,y,rfl,ra,rb⟩:=aO r
  cases e;exact ⟨_,_,ra,rb,q _ H (aa.refl _) rfl⟩
 ·cases e
theorem B1:OpS K (r2 (rI0 fun i j=> .bl (decide (j < i)))) gGt:=by
 intro vs ds H L Q d nw hm r e q;unfold gGt at e
 split at e
 ·obtain ⟨x,y,rfl,ra,rb⟩:=aO r
  cases e;exact ⟨_,_,ra,rb,q _ H (aa.refl _) rfl⟩
 ·cases e
theorem os_ge:OpS K (r2 (rI0 fun i j=> .bl (decide (j<=i)))) gGe:=by
 intro vs ds H L Q d nw hm r e q;unfold gGe at e
 split at e
 ·obtain ⟨x,y,rfl,ra,rb⟩:=aO r
  cases e;exact ⟨_,_,ra,rb,q _ H (aa.refl _) rfl⟩
 ·cases e
theorem os_is:OpS K (r2 rIsD) gIs:=by
 intro vs ds H L Q d nw hm r e q;unfold gIs at e
 split at e
 ·obtain ⟨x,y,rfl,ra,rb⟩:=aO r
  cases e;refine .inl ⟨rb,?_⟩;rw [mw ra];exact q _ H (aa.refl _) rfl
 ·obtain ⟨x,y,rfl,ra,rb⟩:=aO r
  cases e;exact .inr ⟨_,_,ra,rb,q _ H (aa.refl _) rfl⟩
 ·cases e
theorem xM:OpS K (r2 o5) jj:=by
 intro vs ds H L Q d nw hm r e q;unfold jj at e
 split at e
 ·obtain ⟨x,y,rfl,ra,rb⟩:=aO r
  cases e;refine .inl ⟨rb,?_⟩;rw [mw ra];exact q _ H (aa.refl _) rfl
 ·obtain ⟨x,y,rfl,ra,rb⟩:=aO r
  cases e;exact .inr ⟨_,_,ra,rb,q _ H (aa.refl _) rfl⟩
 ·cases e
end
noncomputable def gIx:List D->Option (D×Bool)
 | [.lst ds,.int i]=>match atI ds i with
  | some d=>some (d,false)
  | none=>none
 | [.klst ds,.int i]=>match atI ds i with
  | some d=>some (d,false)
  | none=>none
 | [.tup ds,.int i]=>match atI ds i with
  | some d=>some (d,false)
  | none=>none
 | [.ktup ds,.int i]=>match atI ds i with
  | some d=>some (d,false)
  | none=>none
 | _=>none
noncomputable def gSl(lo hi:Option Int):D->Option (D×Bool)
 | .lst ds=>some (.lst (jN ds lo hi),true)
 | .klst ds=>some (.lst (jN ds lo hi),true)
 | .tup ds=>some (.tup (jN ds lo hi),false)
 | _=>none
noncomputable def vK:List D->Option (D×Bool)
 | [d,.int i]=>gSl (some i) none d
 | _=>none
noncomputable def Bh(i j:Int):List D->Option (D×Bool)
 | [d]=>gSl (some i) (some j) d
 | _=>none
noncomputable def Ar(K:E2):RSl:=fun x lo hi H Q=>rSlL K x lo hi H Q\/rSlD x lo hi H Q
section
variable{K:E2}
theorem pU{H:Hp}{ds:List D}{xs:List V}{i:Int}{d:D}(r:ag K H ds xs)(e:atI ds i=some d):∃ v,atI xs i=some v/\ay K H d v:=by
 unfold atI at e ⊢;rw [<- r.len]
 cases h:ixN ds.length i with
 | none=>rw [h] at e;cases e
 | some j =>
  rw [h] at e;obtain ⟨x,e1,e2⟩:=r.get (show ds[j]?=some d from e);exact ⟨x,e1,e2⟩
theorem os_ix:OpS K (r2 (rIx K)) gIx:=by
 intro vs ds H L Q d nw hm r e q;unfold gIx at e
 split at e
 ·rename_i es i
  obtain ⟨x,y,rfl,⟨p,xs,rfl,h1,h2⟩,rb⟩:=aO r
  cases ea:atI es i with
  | none=>rw [ea] at e;cases e
  | some d' =>
   rw [ea] at e;cases e;obtain ⟨v,e1,e2⟩:=pU h2 ea;exact .inl ⟨p,xs,i,v,rfl,rb,.inl (.inl h1),e1,q v H (aa.refl _) e2⟩
 ·rename_i es i
  obtain ⟨x,y,rfl,⟨p,xs,rfl,h1,h2⟩,rb⟩:=aO r
  cases ea:atI es i with
  | none=>rw [ea] at e;cases e
  | some d' =>
   rw [ea] at e;cases e;obtain ⟨v,e1,e2⟩:=pU h2 ea;exact .inl ⟨p,xs,i,v,rfl,rb,az.seq h1,e1,q v H (aa.refl _) e2⟩
 ·rename_i es i
  obtain ⟨x,y,rfl,⟨p,xs,rfl,h1,h2⟩,rb⟩:=aO r
  cases ea:atI es i with
  | none=>rw [ea] at e;cases e
  | some d' =>
   rw [ea] at e;cases e;obtain ⟨v,e1,e2⟩:=pU h2 ea;exact .inr (.inl ⟨p,xs,i,v,rfl,rb,.inl (.inl (am h1).2),e1,q v H (aa.refl _) e2⟩)
 ·rename_i es i
  obtain ⟨x,y,rfl,⟨p,xs,rfl,h1,h2⟩,rb⟩:=aO r
  cases ea:atI es i with
  | none=>rw [ea] at e;cases e
  | some d' =>
   rw [ea] at e;cases e;obtain ⟨v,e1,e2⟩:=pU h2 ea;exact .inr (.inl ⟨p,xs,i,v,rfl,rb,eW h1,e1,q v H (aa.refl _) e2⟩)
 ·cases e
theorem BM{H:Hp}{L:List Addr}{lo hi:Option Int}{x:V}{c d:D}{nw:Bool}{Q:VK}(hm:∀ p∈L,dO (H p))(r:gC K H (hid L H) c x)(e:gSl lo hi c=some (d,nw))(q:∀ v H',aa H H'->gA K H H' L d nw v->Q v H'):Ar K x lo hi H Q:=by
 unfold gSl at e
 split at e
 ·obtain ⟨p,xs,rfl,h1,h2⟩:=r
  cases e;exact .inl ⟨p,xs,rfl,.inl (.inl h1),fun l hl=>q _ _ (aa.upd hl) (cD (h2.cut lo hi) hl)⟩
 ·obtain ⟨p,xs,rfl,h1,h2⟩:=r
  cases e;exact .inl ⟨p,xs,rfl,az.seq h1,fun l hl=>q _ _ (aa.upd hl) (cD (h2.cut lo hi) hl)⟩
 ·obtain ⟨p,xs,rfl,h1,h2⟩:=r
  cases e;exact .inr ⟨p,xs,rfl,(am h1).2,fun l H' hl s=>q _ _ s (jD hm (h2.cut lo hi) s hl)⟩
 ·cases e
theorem xJ:OpS K (rS10 (Ar K)) vK:=by
 intro vs ds H L Q d nw hm r e q;unfold vK at e
 split at e
 ·obtain ⟨x,y,rfl,ra,rb⟩:=aO r
  exact ⟨_,rb,BM hm ra e q⟩
 ·cases e
theorem os_s11{i j:Int}:OpS K (rS11 (Ar K) i j) (Bh i j):=by
 intro vs ds H L Q d nw hm r e q;unfold Bh at e
 split at e
 ·obtain ⟨x,rfl,ra⟩:=aQ r
  exact ⟨i,rfl,j,rfl,BM hm ra e q⟩
 ·cases e
end
section
variable{X:Cx}
theorem AU:OpR X (binaryOp .Add) (fun x y H Q=>rI0 (fun i j=> .int (i+j)) x y H Q\/rCat x y H Q\/xh x y H Q):=sM.or (xP.or AT)
theorem AO:OpR X (binaryOp .Mult) (fun x y H Q=>rI zp (fun i j=> .int (i * j)) x y H Q\/rRep x y H Q):=op_mul.or op_rep
theorem r9:SlR X (Ar X.K):=zY.or zX
theorem op_isD:OpR X (compareOp .Is) rIsD:=op_isN.or op_isB
theorem nX:OpR X (compareOp .IsNot) o5:=AN.or vw
end
noncomputable def ins(x:Int):List Int->List Int
 | []=>[x]
 | y::l=>if x<=y then x::y::l else y::ins x l
noncomputable def eP:List Int->List Int
 | []=>[]
 | x::l=>ins x (eP l)
theorem mB(x:Int):∀ l:List Int,(ins x l).Perm (x::l)
 | []=> .refl _
 | y::l=>by
  unfold ins
  split
  ·exact .refl _
  ·exact ((mB x l).cons y).trans (.swap x y l)
theorem eO:∀ l:List Int,(eP l).Perm l
 | []=> .refl _
 | x::l=>(mB x _).trans ((eO l).cons x)
theorem my(x:Int):∀ {l:List Int},l.Pairwise (·<= ·)->(ins x l).Pairwise (·<= ·)
 | [],_=>by unfold ins;simp
 | y::l,h=>by
  unfold ins;have hy:=C9.mp h
  split
  ·rename_i hxy
   exact C9.mpr ⟨fun z hz=>(Cr.mp hz).elim (fun e=>e ▸ hxy) fun hz=>Int.le_trans hxy (hy.1 z hz),h⟩
  ·rename_i hxy
   refine C9.mpr ⟨fun z hz=> ?_,my x hy.2⟩
   rcases Cr.mp ((mB x l).mem_iff.mp hz) with e | hz
   ·rw [e];omega
   ·exact hy.1 z hz
theorem fJ:∀ l:List Int,(eP l).Pairwise (·<= ·)
 | []=> .nil
 | x::l=>my x (fJ l)
theorem bZ:∀ {a b:List Int},a.Pairwise (·<= ·)->b.Pairwise (·<= ·)->a.Perm b->a=b
 | [],b,_,_,h=>(h.symm.eq_nil).symm ▸ rfl
 | x::a,[],_,_,h=>absurd h.eq_nil (by simp)
 | x::a,y::b,h1,h2,h=>by
  have g1:=C9.mp h1;have g2:=C9.mp h2
  have e:x=y:=by
   have m1:x∈y::b:=h.mem_iff.mp Cs;have m2:y∈x::a:=h.mem_iff.mpr Cs;have l1:y<=x:=(Cr.mp m1).elim (fun e=>e ▸ Int.le_refl _) (g2.1 x);have l2:x<=y:=(Cr.mp m2).elim (fun e=>e ▸ Int.le_refl _) (g1.1 y);omega
  subst e;rw [bZ g1.2 g2.2 h.cons_inv]
noncomputable def dZ:List Int->Int
 | []=>0
 | [x]=>x
 | x::y::l=>if dZ (y::l)<=x then x else dZ (y::l)
noncomputable def kf:List Int->Int
 | []=>0
 | [x]=>x
 | x::y::l=>if x<=kf (y::l) then x else kf (y::l)
theorem iw:∀ {l:List Int},l≠[]->dZ l∈l/\∀ a∈l,a<=dZ l
 | [],h=>absurd rfl h
 | [x],_=>by unfold dZ;simp
 | x::y::l,_=>by
  obtain ⟨h1,h2⟩:=iw (l:=y::l) (by simp);unfold dZ
  split
  ·rename_i hx
   exact ⟨Cs,fun a ha=>(Cr.mp ha).elim (fun e=>e ▸ Int.le_refl _) fun ha=>Int.le_trans (h2 a ha) hx⟩
  ·rename_i hx
   exact ⟨Cn _ h1,fun a ha=>(Cr.mp ha).elim (fun e=>by rw [e];omega) (h2 a)⟩
theorem lE:∀ {l:List Int},l≠[]->kf l∈l/\∀ a∈l,kf l<=a
 | [],h=>absurd rfl h
 | [x],_=>by unfold kf;simp
 | x::y::l,_=>by
  obtain ⟨h1,h2⟩:=lE (l:=y::l) (by simp);unfold kf
  split
  ·rename_i hx
   exact ⟨Cs,fun a ha=>(Cr.mp ha).elim (fun e=>e ▸ Int.le_refl _) fun ha=>Int.le_trans hx (h2 a ha)⟩
  ·rename_i hx
   exact ⟨Cn _ h1,fun a ha=>(Cr.mp ha).elim (fun e=>by rw [e];omega) (h2 a)⟩
noncomputable def dd(ns:List Int):List Int:=ns.foldl step_dedup []
theorem qM(ns:List Int):St2.eL ns ns.length=dd ns:=by
 unfold St2.eL firstMet dd
 congr 1
 apply DI
 ·simp
 ·intro i h1 h2
  simp [h2]
theorem dd_any(ns:List Int)(x:Int):(dd ns).any (·== x)=true↔x∈ns:=by rw [<- qM];exact St3.kl ns x
theorem kw(ns:List Int)(x:Int):x∈dd ns↔x∈ns:=by
 rw [<- dd_any ns x];simp
section
variable{X:Cx}
noncomputable def sw(K:E2):List V->Hp->VK->Prop:=fun xs H Q=>∃ (p:Addr) (ns:List Int),xs=[V.ref p]/\SqT K H p (ns.map V.int)/\ns.length<=1000 /\
 ∀ l S,H l=none->(∀ x,S x=true↔x∈ns)->Q (.ref l) (upd H l (.set S (St2.eL ns ns.length).length))
theorem tQ(hc:X.calm=true):aF X (.type "set") (sw X.K):=by
 intro pins s σ H xs us Q I r h;obtain ⟨p,ns,rfl,hq,hn,q⟩:=h;obtain ⟨u,rfl,ru⟩:=cg r;cases ru;obtain ⟨its,rv,pt,_⟩:=I.tuple hq
 have ln:its.length=ns.length:=by rw [<- rv.length,Ci]
 refine St2.u7 (ns:=ns) (I.ok.hd hc) pt (by simpa using dj rv) (by rw [Cm,ln];unfold scanBound;omega) fun h' tk st kp=> ?_
 have sz:its.toArray.size=ns.length:=by rw [Cm,ln]
 rw [sz] at st;have hf:H s.heap.objs.size=none:=I.hok.fresh (Cw _);exact ⟨.ref s.heap.objs.size,_,I.laid (o:= .set _ _) (fun b o e=>kp b o (Cu e) e) (Cw _) st,rfl,q _ _ hf (St3.kl ns)⟩
end
noncomputable def bJ:List D->Option (D×Bool)
 | [.lst ds]=>some (.int ds.length,false)
 | [.klst ds]=>some (.int ds.length,false)
 | [.tup ds]=>some (.int ds.length,false)
 | [.ktup ds]=>some (.int ds.length,false)
 | [.dK ks _]=>some (.int ks.length,false)
 | [.dT ks _]=>some (.int ks.length,false)
 | [.set l]=>if decide (l.length<=1000)=true then some (.int l.length,false) else none
 | _=>none
noncomputable def BU(X:Cx):List V->Hp->VK->Prop:=fun xs H Q=>(∃ p ys,xs=[V.ref p]/\(SqL X.K H p ys\/SqT X.K H p ys)/\Q (.int ys.length) H)\/(∃ a kvs,xs=[V.ref a]/\H a=some (.dK kvs)/\Q (.int kvs.length) H)\/(∃ a kvs,xs=[V.ref a]/\H a=some (.dT kvs)/\Q (.int kvs.length) H)\/uo xs H Q
theorem wj{X:Cx}:aF X (.builtin "len") (BU X):=cW.or (wg.or (wf.or rH))
theorem os_len{X:Cx}:OpS X.K (BU X) bJ:=by
 intro vs ds H L Q d nw hm r e q;unfold bJ at e
 split at e
 ·obtain ⟨x,rfl,⟨p,xs,rfl,h1,h2⟩⟩:=aQ r
  cases e;exact .inl ⟨p,xs,rfl,.inl (.inl (.inl h1)),by rw [<- h2.len];exact q _ H (aa.refl _) rfl⟩
 ·obtain ⟨x,rfl,⟨p,xs,rfl,h1,h2⟩⟩:=aQ r
  cases e;exact .inl ⟨p,xs,rfl,.inl (az.seq h1),by rw [<- h2.len];exact q _ H (aa.refl _) rfl⟩
 ·obtain ⟨x,rfl,⟨p,xs,rfl,h1,h2⟩⟩:=aQ r
  cases e;exact .inl ⟨p,xs,rfl,.inr (.inl (.inl (am h1).2)),by rw [<- h2.len];exact q _ H (aa.refl _) rfl⟩
 ·obtain ⟨x,rfl,⟨p,xs,rfl,h1,h2⟩⟩:=aQ r
  cases e;exact .inl ⟨p,xs,rfl,.inr (eW h1),by rw [<- h2.len];exact q _ H (aa.refl _) rfl⟩
 ·rename_i ks vs'
  obtain ⟨x,rfl,⟨p,xs,rfl,h1,h2,h3⟩⟩:=aQ r;cases e;exact .inr (.inl ⟨p,_,rfl,h1,by rw [DN,<- h2,Ef];exact q _ H (aa.refl _) rfl⟩)
 ·rename_i ks vs'
  obtain ⟨x,rfl,⟨p,xs,rfl,h1,h2,h3⟩⟩:=aQ r;cases e;exact .inr (.inr (.inl ⟨p,_,rfl,h1,by rw [DN,<- h2,Ef];exact q _ H (aa.refl _) rfl⟩))
 ·obtain ⟨x,rfl,⟨p,S,rfl,h1,h2⟩⟩:=aQ r
  split at e
  ·rename_i hl
   cases e;exact .inr (.inr (.inr ⟨p,S,_,rfl,(am h1).2,Cz hl,q _ H (aa.refl _) rfl⟩))
  ·cases e
 ·cases e
noncomputable def gSum:List D->Option (D×Bool)
 | [.lst ds]=>match bj ds with
  | some ns=>some (.int ns.sum,false)
  | none=>none
 | [.tup ds]=>match bj ds with
  | some ns=>some (.int ns.sum,false)
  | none=>none
 | _=>none
noncomputable def nA:List D->Option (D×Bool)
 | [.lst ds]=>match iK ds with
  | some bs=>some (.bl (bs.all id),false)
  | none=>none
 | _=>none
noncomputable def BX(K:E2):List V->Hp->VK->Prop:=fun xs H Q=>∃ (p:Addr) (bs:List Bool),xs=[V.ref p]/\SqL K H p (bs.map V.bl)/\Q (.bl (bs.all id)) H
theorem wo{X:Cx}(hc:X.calm=true):aF X (.builtin "all") (BX X.K):=ze hc
theorem os_all{K:E2}:OpS K (BX K) nA:=by
 intro vs ds H L Q d nw hm r e q;unfold nA at e
 split at e
 ·rename_i es
  obtain ⟨x,rfl,⟨p,xs,rfl,h1,h2⟩⟩:=aQ r
  cases en:iK es with
  | none=>rw [en] at e;cases e
  | some ns =>
   rw [en] at e;cases e;rw [rL en] at h2;rw [oE h2] at h1;exact ⟨p,ns,rfl,.inl (.inl h1),q _ H (aa.refl _) rfl⟩
 ·cases e
noncomputable def tyD:D->Option String
 | .non=>some "NoneType"
 | .bl _=>some "bool"
 | .int _=>some "int"
 | .str _=>some "str"
 | .lst _=>some "list"
 | .klst _=>some "list"
 | .tup _=>some "tuple"
 | .ktup _=>some "tuple"
 | .dK _ _=>some "dict"
 | .dT _ _=>some "dict"
 | _=>none
noncomputable def bK(C:String):List D->Option (D×Bool)
 | [d]=>match tyD d with
  | some T=>some (.bl (Bd T C),false)
  | none=>none
 | _=>none
theorem wG{K:E2}{H Hh:Hp}{d:D}{v:V}{T:String}(r:gC K H Hh d v)(s:aa Hh H)(e:tyD d=some T):B7 K H T v:=by
 cases d<;>first
  | (unfold tyD at e;cases e;done)
  | (unfold tyD at e;cases e;have r:v=_:=r;subst r;rfl)
  | (unfold tyD at e;cases e;obtain ⟨p,xs,rfl,h1,h2,h3⟩:=r;exact .inr (.inr ⟨rfl,.inl ⟨_,h1⟩⟩))
  | (unfold tyD at e;cases e;obtain ⟨p,xs,rfl,h1,h2,h3⟩:=r;exact .inr (.inr ⟨rfl,.inr ⟨_,h1⟩⟩))
  | (unfold tyD at e;cases e;obtain ⟨p,xs,rfl,h1,h2⟩:=r;exact .inr (.inl ⟨rfl,xs,.inl (.inl (s _ _ h1))⟩))
  | (unfold tyD at e;cases e;obtain ⟨p,xs,rfl,h1,h2⟩:=r;exact .inr (.inl ⟨rfl,xs,eW h1⟩))
  | (unfold tyD at e;cases e;obtain ⟨p,xs,rfl,h1,h2⟩:=r;exact .inl ⟨rfl,xs,.inl (.inl h1)⟩)
  | (unfold tyD at e;cases e;obtain ⟨p,xs,rfl,h1,h2⟩:=r;exact .inl ⟨rfl,xs,s.seq h1⟩)
noncomputable def rIsiC(K:E2)(C:String):List V->Hp->VK->Prop
 | [x],H,Q=>rIsi K [x,.ty C] H Q
 | _,_,_=>False
theorem os_isi{K:E2}{C:String}(hC:isiC C):OpS K (rIsiC K C) (bK C):=by
 intro vs ds H L Q d nw hm r e q;unfold bK at e
 split at e
 ·rename_i c
  obtain ⟨x,rfl,ra⟩:=aQ r
  cases et:tyD c with
  | none=>rw [et] at e;cases e
  | some T =>
   rw [et] at e;cases e;exact ⟨x,T,C,rfl,hC,wG ra az et,q _ H (aa.refl _) rfl⟩
 ·cases e
theorem zh{X:Cx}{EX:EXT}{e:Expr}{a:Arg}{C:String}{nC:Str}{p1 p2 pos:Pos}(hC:isiC C)(he:JB X EX e a)(g1:Gl X "isinstance")(m1:X.mg "isinstance" = none)(g2:Gl X nC)(m2:X.mg nC=none)(b2:bootBuiltins nC=some (.type C))
 (hn:nC ≠ "__name__" := by decide) (hdb:(nC == ("__debug__" : Str))=false:=by decide)
 (hs:starEach [e,.Name nC p1] X.env=(false,eval e X.env)::starEach [.Name nC p1] X.env:=by rfl):JE X EX (.Call (.Name "isinstance" p2) [e,.Name nC p1] [] pos) (sOp (bK C) [a]) :=
 ⟨(dA zd g1 m1 boot_isinstance (ad he.p (ad (uy (v:= .ty C) g2 m2 b2 rfl hn hdb) aR) hs) (he:=hs)).by fun σ H Q ⟨F,ρ,W,R,h⟩=>cV (os_isi hC) R h⟩
noncomputable def yB:List D->Option (D×Bool)
 | [.int a,.int b]=>some (.int (if b > a then b else a),false)
 | [.lst ds]=>match bj ds with
  | some (n::ns)=>some (.int (dZ (n::ns)),false)
  | _=>none
 | _=>none
noncomputable def Bk:List D->Option (D×Bool)
 | [.int a,.int b]=>some (.int (if b < a then b else a),false)
 | [.lst ds]=>match bj ds with
  | some (n::ns)=>some (.int (kf (n::ns)),false)
  | _=>none
 | _=>none
noncomputable def um:List V->Hp->VK->Prop:=fun xs H Q=>∃ i j,xs=[.int i,.int j]/\Q (.int (if j > i then j else i)) H
noncomputable def ul:List V->Hp->VK->Prop:=fun xs H Q=>∃ i j,xs=[.int i,.int j]/\Q (.int (if j < i then j else i)) H
theorem wc{X:Cx}(hc:X.calm=true):aF X (.builtin "max") (fun xs H Q=>um xs H Q\/qx X.K xs H Q):=(we hc).or (v8 hc)
theorem v5{X:Cx}(hc:X.calm=true):aF X (.builtin "min") (fun xs H Q=>ul xs H Q\/qw X.K xs H Q):=(v6 hc).or (v3 hc)
theorem mM{M N:Int}{l:List Int}(h1:M∈l)(h2:∀ a∈l,a<=M)(h3:N∈l)(h4:∀ a∈l,a<=N):M=N:=by have:=h2 N h3;have:=h4 M h1;omega
theorem mq{M N:Int}{l:List Int}(h1:M∈l)(h2:∀ a∈l,M<=a)(h3:N∈l)(h4:∀ a∈l,N<=a):M=N:=by have:=h2 N h3;have:=h4 M h1;omega
theorem os_max{K:E2}:OpS K (fun xs H Q=>um xs H Q\/qx K xs H Q) yB:=by
 intro vs ds H L Q d nw hm r e q;unfold yB at e
 split at e
 ·obtain ⟨x,y,rfl,ra,rb⟩:=aO r
  cases e;exact .inl ⟨_,_,by rw [ck ra,ck rb],q _ H (aa.refl _) rfl⟩
 ·rename_i es
  obtain ⟨x,rfl,⟨p,xs,rfl,h1,h2⟩⟩:=aQ r
  split at e
  ·rename_i n ns en
   cases e;rw [cb en] at h2;rw [bI h2] at h1;refine .inr ⟨p,n::ns,rfl,.inl (.inl h1),by simp,fun M m1 m2=> ?_⟩;obtain ⟨z1,z2⟩:=iw (l:=n::ns) (by simp);rw [mM m1 m2 z1 z2];exact q _ H (aa.refl _) rfl
  ·cases e
 ·cases e
theorem os_min{K:E2}:OpS K (fun xs H Q=>ul xs H Q\/qw K xs H Q) Bk:=by
 intro vs ds H L Q d nw hm r e q;unfold Bk at e
 split at e
 ·obtain ⟨x,y,rfl,ra,rb⟩:=aO r
  cases e;exact .inl ⟨_,_,by rw [ck ra,ck rb],q _ H (aa.refl _) rfl⟩
 ·rename_i es
  obtain ⟨x,rfl,⟨p,xs,rfl,h1,h2⟩⟩:=aQ r
  split at e
  ·rename_i n ns en
   cases e;rw [cb en] at h2;rw [bI h2] at h1;refine .inr ⟨p,n::ns,rfl,.inl (.inl h1),by simp,fun M m1 m2=> ?_⟩;obtain ⟨z1,z2⟩:=lE (l:=n::ns) (by simp);rw [mq m1 m2 z1 z2];exact q _ H (aa.refl _) rfl
  ·cases e
 ·cases e
noncomputable def fK:List D->Option (D×Bool)
 | [.lst ds]=>match bj ds with
  | some ns=>if decide (ns.length < 64)=true then some (.lst ((eP ns).map D.int),true) else none
  | none=>none
 | [.tup ds]=>match bj ds with
  | some ns=>if decide (ns.length < 64)=true then some (.lst ((eP ns).map D.int),true) else none
  | none=>none
 | _=>none
theorem pR{X:Cx}:aF X (.builtin "sorted") (fun xs H Q=>ja X.K xs H Q\/iZ X.K xs H Q):=pP.or pO
theorem vq{K:E2}:OpS K (fun xs H Q=>ja K xs H Q\/iZ K xs H Q) fK:=by
 intro vs ds H L Q d nw hm r e q;unfold fK at e
 have fin:∀ (ns:List Int) l (ms:List Int),H l=none->List.Perm ms ns->ms.Pairwise (·<= ·)->(∀ v H',aa H H'->gA K H H' L (.lst ((eP ns).map D.int)) true v->Q v H')->Q (.ref l) (upd H l (.lst (ms.map V.int))):=fun ns l ms hl hp hs q=>by
  have:ms=eP ns:=bZ hs (fJ ns) (hp.trans (eO ns).symm);subst this;exact q _ _ (aa.upd hl) (cD (eF _) hl)
 split at e
 ·rename_i es
  obtain ⟨x,rfl,⟨p,xs,rfl,h1,h2⟩⟩:=aQ r
  cases en:bj es with
  | none=>rw [en] at e;cases e
  | some ns =>
   rw [en] at e;dsimp only at e
   split at e
   ·rename_i hl
    cases e;rw [cb en] at h2;rw [bI h2] at h1;exact .inl ⟨p,ns,rfl,.inl (.inl h1),Cz hl,fun l ms a b c=>fin ns l ms a b c q⟩
   ·cases e
 ·rename_i es
  obtain ⟨x,rfl,⟨p,xs,rfl,h1,h2⟩⟩:=aQ r
  cases en:bj es with
  | none=>rw [en] at e;cases e
  | some ns =>
   rw [en] at e;dsimp only at e
   split at e
   ·rename_i hl
    cases e;rw [cb en] at h2;rw [bI h2] at h1;exact .inr ⟨p,ns,rfl,.inl (.inl (am h1).2),Cz hl,fun l ms a b c=>fin ns l ms a b c q⟩
   ·cases e
 ·cases e
noncomputable def gK(lo:Int)(n:Nat):List D:=(List.range n).map fun k=> .int (lo+(k:Nat))
noncomputable def rngV(lo:Int)(n:Nat):List V:=(List.range n).map fun k=> .int (lo+(k:Nat))
theorem qm{K:E2}{H:Hp}(lo:Int)(n:Nat):ag K H (gK lo n) (rngV lo n):=by
 have:=eF (K:=K) (H:=H) ((List.range n).map fun k=>lo+((k:Nat):Int));rw [Dd,Dd] at this;exact this
noncomputable def ql(lo hi:Int):Bool:=decide (-1000000000<=lo/\lo<=1000000000 /\ -1000000000<=hi/\hi<=1000000000/\(hi - lo).toNat<=1000)
noncomputable def yC:List D->Option (D×Bool)
 | [.lst ds]=>some (.lst ds,true)
 | [.tup ds]=>some (.lst ds,true)
 | [.ktup ds]=>some (.lst ds,true)
 | [.rng lo hi]=>if ql lo hi=true then some (.lst (gK lo (hi - lo).toNat),true) else none
 | _=>none
noncomputable def km:List D->Option (D×Bool)
 | [.lst ds]=>some (.tup ds,false)
 | [.tup ds]=>some (.tup ds,false)
 | [.rng lo hi]=>if ql lo hi=true then some (.tup (gK lo (hi - lo).toNat),false) else none
 | _=>none
noncomputable def lA(K:E2):List V->Hp->VK->Prop:=fun xs H Q=>∃ p ys,xs=[.ref p]/\(SqL K H p ys\/SqT K H p ys)/\∀ l,H l=none->Q (.ref l) (upd H l (.lst ys))
noncomputable def qv(K:E2):List V->Hp->VK->Prop:=fun xs H Q=>∃ p ys,xs=[.ref p]/\((SqL K H p ys/\∀ l,H l=none->Q (.ref l) (upd H l (.tup ys)))\/(SqT K H p ys/\Q (.ref p) H))
theorem tW{X:Cx}(hc:X.calm=true):aF X (.type "list") (fun xs H Q=>lA X.K xs H Q\/lT xs H Q):=fS.or (tU hc)
theorem rE{X:Cx}(hc:X.calm=true):aF X (.type "tuple") (fun xs H Q=>qv X.K xs H Q\/w8 xs H Q):=fb.or (vX hc)
theorem AL{K:E2}:OpS K (fun xs H Q=>lA K xs H Q\/lT xs H Q) yC:=by
 intro vs ds H L Q d nw hm r e q;unfold yC at e
 split at e
 ·obtain ⟨x,rfl,⟨p,xs,rfl,h1,h2⟩⟩:=aQ r
  cases e;exact .inl ⟨p,xs,rfl,.inl (.inl (.inl h1)),fun l hl=>q _ _ (aa.upd hl) (cD h2 hl)⟩
 ·obtain ⟨x,rfl,⟨p,xs,rfl,h1,h2⟩⟩:=aQ r
  cases e;exact .inl ⟨p,xs,rfl,.inr (.inl (.inl (am h1).2)),fun l hl=>q _ _ (aa.upd hl) (cD h2 hl)⟩
 ·obtain ⟨x,rfl,⟨p,xs,rfl,h1,h2⟩⟩:=aQ r
  cases e;exact .inl ⟨p,xs,rfl,.inr (eW h1),fun l hl=>q _ _ (aa.upd hl) (cD h2 hl)⟩
 ·rename_i lo hi
  obtain ⟨x,rfl,⟨p,rfl,h1⟩⟩:=aQ r
  split at e
  ·rename_i hk
   cases e;have hk:=Cz hk;exact .inr ⟨p,lo,hi,rfl,(am h1).2,by omega,by omega,by omega,by omega,hk.2.2.2.2,fun l hl=>q _ _ (aa.upd hl) (cD (qm _ _) hl)⟩
  ·cases e
 ·cases e
theorem xF{K:E2}:OpS K (fun xs H Q=>qv K xs H Q\/w8 xs H Q) km:=by
 intro vs ds H L Q d nw hm r e q;unfold km at e
 split at e
 ·obtain ⟨x,rfl,⟨p,xs,rfl,h1,h2⟩⟩:=aQ r
  cases e;exact .inl ⟨p,xs,rfl,.inl ⟨.inl (.inl h1),fun l hl=>q _ _ (aa.upd hl) (jD hm h2 (aa.upd hl) af)⟩⟩
 ·obtain ⟨x,rfl,⟨p,xs,rfl,h1,h2⟩⟩:=aQ r
  cases e;exact .inl ⟨p,xs,rfl,.inr ⟨.inl (.inl (am h1).2),q _ _ (aa.refl _) ⟨p,xs,rfl,h1,h2⟩⟩⟩
 ·rename_i lo hi
  obtain ⟨x,rfl,⟨p,rfl,h1⟩⟩:=aQ r
  split at e
  ·rename_i hk
   cases e;have hk:=Cz hk;exact .inr ⟨p,lo,hi,rfl,(am h1).2,by omega,by omega,by omega,by omega,hk.2.2.2.2,fun l hl=>q _ _ (aa.upd hl) (jD hm (qm _ _) (aa.upd hl) af)⟩
  ·cases e
 ·cases e
noncomputable def pE:List D->Option (D×Bool)
 | [.lst ds]=>match bj ds with
  | some ns=>if decide (ns.length<=1000)=true then some (.set (dd ns),false) else none
  | none=>none
 | [.tup ds]=>match bj ds with
  | some ns=>if decide (ns.length<=1000)=true then some (.set (dd ns),false) else none
  | none=>none
 | _=>none
theorem vY{X:Cx}(hc:X.calm=true):aF X (.type "set") (fun xs H Q=>sx X.K xs H Q\/sw X.K xs H Q):=(tR hc).or (tQ hc)
theorem jd{K:E2}{H:Hp}{L:List Addr}{p:Addr}{o:HO}(hm:∀ p∈L,dO (H p))(hp:H p=none):hid L (upd H p o) p=some o:=by
 rw [aJ (fun z=>by have:=hm p z;rw [hp] at this;exact this)];exact af
theorem os_set{K:E2}:OpS K (fun xs H Q=>sx K xs H Q\/sw K xs H Q) pE:=by
 intro vs ds H L Q d nw hm r e q;unfold pE at e
 have fin:∀ (ns:List Int) l (S:Int->Bool),H l=none->(∀ x,S x=true↔x∈ns)->(∀ v H',aa H H'->gA K H H' L (.set (dd ns)) false v->Q v H')->Q (.ref l) (upd H l (.set S (St2.eL ns ns.length).length)):=fun ns l S hl hS q=>by
  rw [qM];exact q _ _ (aa.upd hl) ⟨l,S,rfl,jd (K:=K) hm hl,fun x=>(hS x).trans (kw ns x).symm⟩
 split at e
 ·rename_i es
  obtain ⟨x,rfl,⟨p,xs,rfl,h1,h2⟩⟩:=aQ r
  cases en:bj es with
  | none=>rw [en] at e;cases e
  | some ns =>
   rw [en] at e;dsimp only at e
   split at e
   ·rename_i hl
    cases e;rw [cb en] at h2;rw [bI h2] at h1;exact .inl ⟨p,ns,rfl,.inl (.inl h1),Cz hl,fun l S a b=>fin ns l S a b q⟩
   ·cases e
 ·rename_i es
  obtain ⟨x,rfl,⟨p,xs,rfl,h1,h2⟩⟩:=aQ r
  cases en:bj es with
  | none=>rw [en] at e;cases e
  | some ns =>
   rw [en] at e;dsimp only at e
   split at e
   ·rename_i hl
    cases e;rw [cb en] at h2;rw [bI h2] at h1;exact .inr ⟨p,ns,rfl,.inl (.inl (am h1).2),Cz hl,fun l S a b=>fin ns l S a b q⟩
   ·cases e
 ·cases e
noncomputable def vO:List D->Option (D×Bool)
 | [.int i]=>some (.int i,false)
 | [.bl b]=>some (.int (if b then 1 else 0),false)
 | _=>none
noncomputable def BV:List V->Hp->VK->Prop:=fun xs H Q=>(∃ i,xs=[.int i]/\Q (.int i) H)\/∃ k,xs=[.bl k]/\Q (.int (if k then 1 else 0)) H
theorem wk{X:Cx}:aF X (.type "int") BV:=wm
theorem os_int{K:E2}:OpS K BV vO:=by
 intro vs ds H L Q d nw hm r e q;unfold vO at e
 split at e
 ·obtain ⟨x,rfl,ra⟩:=aQ r
  cases e;exact .inl ⟨_,by rw [ck ra],q _ H (aa.refl _) rfl⟩
 ·obtain ⟨x,rfl,ra⟩:=aQ r
  cases e;exact .inr ⟨_,by rw [Ae ra],q _ H (aa.refl _) rfl⟩
 ·cases e
noncomputable def ko:List D->Option (D×Bool)
 | [.int j]=>some (.rng 0 j,false)
 | [.int i,.int j]=>some (.rng i j,false)
 | _=>none
noncomputable def BR:List V->Hp->VK->Prop:=fun xs H Q=>(∃ j:Int,xs=[V.int j]/\∀ l,H l=none->Q (.ref l) (upd H l (.rng 0 j)))\/(∃ i j:Int,xs=[V.int i,V.int j]/\∀ l,H l=none->Q (.ref l) (upd H l (.rng i j)))
theorem rF{X:Cx}:aF X (.type "range") BR:=zc
theorem xK{K:E2}:OpS K BR ko:=by
 intro vs ds H L Q d nw hm r e q;unfold ko at e
 split at e
 ·obtain ⟨x,rfl,ra⟩:=aQ r
  cases e;exact .inl ⟨_,by rw [ck ra],fun l hl=>q _ _ (aa.upd hl) ⟨l,rfl,jd (K:=K) hm hl⟩⟩
 ·obtain ⟨x,y,rfl,ra,rb⟩:=aO r
  cases e;exact .inr ⟨_,_,by rw [ck ra,ck rb],fun l hl=>q _ _ (aa.upd hl) ⟨l,rfl,jd (K:=K) hm hl⟩⟩
 ·cases e
noncomputable def kK:D->Option Key
 | .int i=>some (.inl i)
 | .str x=>some (.inr x)
 | _=>none
noncomputable def gY:List D->Option (List Key)
 | []=>some []
 | d::ds=>match kK d,gY ds with
  | some k,some l=>some (k::l)
  | _,_=>none
theorem iA{K:E2}{H:Hp}{d:D}{v:V}{k:Key}(e:kK d=some k)(r:ay K H d v):v=kV k:=by
 cases d<;>first | (unfold kK at e;cases e;done) | (unfold kK at e;cases e;exact r)
theorem fI{K:E2}{H:Hp}:∀ {ds:List D} {xs:List V} {k:List Key},gY ds=some k->ag K H ds xs->xs=k.map kV
 | [],[],k,e,_=>by unfold gY at e;cases e;rfl
 | d::ds,x::xs,k,e,h=>by
  unfold gY at e
  cases e1:kK d with
  | none=>rw [e1] at e;cases e
  | some k1 =>
   cases e2:gY ds with
   | none=>rw [e1,e2] at e;cases e
   | some l =>
    rw [e1,e2] at e;cases e;rw [iA e1 h.1,fI e2 h.2];rfl
 | [],_::_,_,_,h=>h.elim
 | _::_,[],_,_,h=>h.elim
section
variable{κ:Type}[DecidableEq κ]
noncomputable def aW:List κ->List D->κ->Option D
 | k::ks,d::ds,x=>if k=x then some d else aW ks ds x
 | _,_,_=>none
noncomputable def gB:List κ->List D->κ->D->List κ×List D
 | k::ks,d::ds,x,y=>if k=x then (k::ks,y::ds) else ((k::(gB ks ds x y).1),d::(gB ks ds x y).2)
 | _,_,x,y=>([x],[y])
theorem kh{K:E2}{H:Hp}:∀ {ks:List κ} {ds:List D} {xs:List V} {x:κ},ks.length=xs.length->ag K H ds xs ->
 (∀ d,aW ks ds x=some d->∃ v,jp (ks.zip xs) x=some v/\ay K H d v)/\(aW ks ds x=none->jp (ks.zip xs) x=none)
 | [],[],[],_,_,_=>⟨fun d h=>(by unfold aW at h;cases h),fun _=>rfl⟩
 | k::ks,d::ds,y::xs,x,hl,h=>by
  obtain ⟨i1,i2⟩:=kh (x:=x) (Nat.succ.inj hl) h.2;have hl:ks.length=xs.length:=Nat.succ.inj hl;rw [Ey]
  by_cases e:k=x
  ·rw [jn (p:=(k,y)) e]
   refine ⟨fun d' hd=> ?_,fun hd=> ?_⟩
   ·unfold aW at hd;rw [if_pos e] at hd;cases hd;exact ⟨y,rfl,h.1⟩
   ·unfold aW at hd;rw [if_pos e] at hd;cases hd
  ·rw [jo (p:=(k,y)) e]
   refine ⟨fun d' hd=> ?_,fun hd=> ?_⟩
   ·unfold aW at hd;rw [if_neg e] at hd;exact i1 d' hd
   ·unfold aW at hd;rw [if_neg e] at hd;exact i2 hd
 | [],_::_,[],_,_,h=>h.elim
 | [],[],_::_,_,_,h=>h.elim
 | [],_::_,_::_,_,hl,_=>by simp at hl
 | _::_,[],[],_,hl,_=>by simp at hl
 | _::_,[],_::_,_,_,h=>h.elim
 | _::_,_::_,[],_,_,h=>h.elim
noncomputable def jz:List κ->List V->κ->V->List κ×List V
 | k::ks,d::ds,x,y=>if k=x then (k::ks,y::ds) else ((k::(jz ks ds x y).1),d::(jz ks ds x y).2)
 | _,_,x,y=>([x],[y])
theorem lW{K:E2}{H:Hp}{d:D}{v:V}(r:ay K H d v):∀ {ks:List κ} {ds:List D} {xs:List V} {x:κ},ks.length=xs.length->ag K H ds xs ->
 (jz ks xs x v).1=(gB ks ds x d).1/\ag K H (gB ks ds x d).2 (jz ks xs x v).2/\(jz ks xs x v).1.length=(jz ks xs x v).2.length
 | [],[],[],_,_,_=>⟨rfl,⟨r,trivial⟩,rfl⟩
 | k::ks,e::ds,y::xs,x,hl,h=>by
  obtain ⟨i1,i2,i3⟩:=lW (x:=x) r (Nat.succ.inj hl) h.2;unfold jz gB;have hl:ks.length=xs.length:=Nat.succ.inj hl
  by_cases z:k=x
  ·rw [if_pos z,if_pos z]
   exact ⟨rfl,⟨r,h.2⟩,by simp [hl]⟩
  ·rw [if_neg z,if_neg z]
   exact ⟨by show k::_=k::_;rw [i1],⟨h.1,i2⟩,by show (k::_).length=(y::_).length;rw [CA,CA,i3]⟩
 | [],_::_,[],_,_,h=>h.elim
 | [],[],_::_,_,_,h=>h.elim
 | [],_::_,_::_,_,hl,_=>by simp at hl
 | _::_,[],[],_,hl,_=>by simp at hl
 | _::_,[],_::_,_,_,h=>h.elim
 | _::_,_::_,[],_,_,h=>h.elim
theorem lV{v:V}:∀ {ks:List κ} {xs:List V} {x:κ},ks.length=xs.length->ks.Nodup->(jz ks xs x v).1.zip (jz ks xs x v).2=jb (ks.zip xs) x v
 | [],[],x,_,_=>rfl
 | k::ks,y::xs,x,hl,nd=>by
  have hl:ks.length=xs.length:=Nat.succ.inj hl;have nd:=CQ.mp nd;have ih:=lV (v:=v) (x:=x) hl nd.2;unfold jz;rw [Ey]
  by_cases z:k=x
  ·rw [if_pos z,Ey]
   unfold jb;rw [if_pos (by simp [z]),CF,if_pos z]
   congr 1
   symm
   have:∀ p∈ks.zip xs,(if p.1=x then (p.1,v) else p)=p:=fun p hp=>by
    rw [if_neg (fun e=>nd.1 (by rw [z,<- e];exact (EN (show (p.1,p.2)∈_ from hp)).1))]
   exact (C1 this).trans (List.map_id' _)
  ·rw [if_neg z]
   show ((k,y)::(jz ks xs x v).1.zip (jz ks xs x v).2)=_
   rw [ih];unfold jb
   have:(((k,y)::ks.zip xs).any fun kv=>decide (kv.1=x))=(ks.zip xs).any fun kv=>decide (kv.1=x):=by rw [List.any_cons];simp [z]
   rw [this]
   split
   ·rw [CF,if_neg z]
   ·rfl
 | [],_::_,_,hl,_=>by simp at hl
 | _::_,[],_,hl,_=>by simp at hl
end
noncomputable def kQ(ds:List D)(d:D):Bool:=ds.any fun e=>eqD e d
noncomputable def gInD:D->D->Option Bool
 | d,.lst ds=>if (ae 9 d&&ds.all (ae 9))=true then some (kQ ds d) else none
 | d,.tup ds=>if (ae 9 d&&ds.all (ae 9))=true then some (kQ ds d) else none
 | d,.ktup ds=>if (ae 9 d&&ds.all (ae 9))=true then some (kQ ds d) else none
 | .int i,.rng lo hi=>some (decide (lo<=i/\i < hi))
 | d,.dK ks vs=>match kK d with
  | some k=>some (aW ks vs k).isSome
  | none=>none
 | .tup ds,.dT ks vs=>match gY ds with
  | some k=>some (aW ks vs k).isSome
  | none=>none
 | _,_=>none
noncomputable def gIn:List D->Option (D×Bool)
 | [d,c]=>match gInD d c with
  | some b=>some (.bl b,false)
  | none=>none
 | _=>none
noncomputable def rInS(K:E2)(neg:Bool):R2:=fun x y H Q=>∃ (d:D) (p:Addr) (xs:List V) (ds:List D),y = .ref p/\(SqL K H p xs\/SqT K H p xs)/\ag K H ds xs/\ds.all (ae 9)=true/\ay K H d x/\ae 9 d=true/\Q (.bl (if neg then !kQ ds d else kQ ds d)) H
noncomputable def BW(neg:Bool):R2:=fun y x H Q=>∃ a o,x = .ref a/\jT H a y o/\Q (.bl (if neg then !o.isSome else o.isSome)) H
noncomputable def Au(K:E2)(neg:Bool):R2:=fun x y H Q=>rInS K neg x y H Q\/rInR neg x y H Q\/BW neg x y H Q
section
variable{X:Cx}
open Classical in
theorem qR{pins:List (Addr×Obj)}{σ:St}{H:Hp}{s:Shared}(I:Inv X pins σ H s)(hu:X.A.units+10 < cLine){d:D}{ds:List D}{x:V}{u:Value}{xs:List V}{its:List Value}(rd:ag X.K H ds xs)(rv:aw xs its)(hds:ds.all (ae 9)=true)(r:ay X.K H d x)(hd:ae 9 d=true)(ru:aB x u) :
 ∃ e:Value->Bool,(∀ y,y∈its.toArray->SeqAt.EqAt X.A.in1 s y u (e y))/\its.toArray.any e=kQ ds d:=by
 refine ⟨fun y=>decide (∃ (j:Nat) (d':D),ds[j]?=some d'/\its[j]?=some y/\eqD d' d=true),fun y hy=> ?_,?_⟩
 ·have hy:y∈its:=by simpa using hy
  obtain ⟨j,hj,rfl⟩:=DS.mp hy;obtain ⟨v,ev,rv1⟩:=bg rv hj;obtain ⟨d',e1,q1⟩:=rd.get' ev;have hd':=CH.mp hds _ (CB e1);have z:=tJ I 9 (A:=X.A.in1) (by show X.A.units+1+9 < cLine;omega) hd' hd q1 r rv1 ru
  have e:decide (∃ (j':Nat) (d':D),ds[j']?=some d'/\its[j']?=some its[j]/\eqD d' d=true)=eqD d' d:=by
   cases hq:eqD d' d with
   | true=>exact CK ⟨j,d',e1,Ch hj,hq⟩
   | false =>
    refine CL fun hZ=> ?_
    obtain ⟨j2,d2,g1,g2,g3⟩:=hZ;obtain ⟨hj2,g2'⟩:=Cv.mp g2;obtain ⟨v2,ev2,rv2⟩:=bg rv hj2;rw [g2'] at rv2;have:v2=v:=rv2.inj rv1;subst this;obtain ⟨d3,e3,q3⟩:=rd.get' ev2;rw [g1] at e3;cases e3;have hn:=gM I 9 9 (CH.mp hds _ (CB g1)) hd' q3 q1 rv1;unfold eqD at g3 hq;rw [hn,hq] at g3;cases g3
  dsimp only;rw [e];exact z
 ·rw [DV]
  unfold kQ;simp only [List.any_toArray,List.any_eq_true]
  constructor
  ·rintro ⟨y,hy,hq⟩
   obtain ⟨j,d',g1,g2,g3⟩:=Cz hq;exact ⟨d',CB g1,g3⟩
  ·rintro ⟨d',hd',hq⟩
   obtain ⟨j,hj,rfl⟩:=DS.mp hd'
   have hji:j < its.length:=by rw [<- rv.length,<- rd.len];exact hj
   exact ⟨its[j],CT hji,CK ⟨j,_,Ch hj,Ch hji,hq⟩⟩
theorem op_inS(hu:X.A.units+10 < cLine):OpR X (compareOp .In) (rInS X.K false):=by
 intro pins s σ H x y v u Q I rx ry h;obtain ⟨d,p,xs,ds,rfl,hq,rd,hds,r,hd,q⟩:=h;cases ry
 rcases hq with hq | hq
 ·obtain ⟨its,rv,pl,_⟩:=I.list hq
  obtain ⟨e,he,ee⟩:=qR I hu rd rv hds r hd rx;refine SeqAt.in_listAt e pl.isList he ⟨.bl _,H,I,rfl,?_⟩;rw [ee];exact q
 ·obtain ⟨its,rv,pl,_⟩:=I.tuple hq
  obtain ⟨e,he,ee⟩:=qR I hu rd rv hds r hd rx;refine SeqAt.in_tupleAt e (show s.heap.IsTuple p its.toArray from pl) he ⟨.bl _,H,I,rfl,?_⟩;rw [ee];exact q
theorem AQ(hu:X.A.units+1 < cLine):OpR X (compareOp .In) (BW false):=by
 intro pins s σ H y x u v Q I ry rx h;obtain ⟨a,o,rfl,g,q⟩:=h;cases rx
 exact d_in hu I g ry fun s3 I3=>⟨.bl o.isSome,H,I3,rfl,q⟩
theorem op_inA(hu:X.A.units+10 < cLine):OpR X (compareOp .In) (Au X.K false):=(op_inS hu).or (op_inR.or (AQ (by omega)))
end
section
variable{K:E2}
theorem yV{H Hh:Hp}{p:Addr}{ks:List Key}{ds:List D}{xs:List V}{k:Key}{y:V}(h1:H p=some (.dK (ks.zip xs)))(hl:ks.length=xs.length)(h2:ag K Hh ds xs)(hy:y=kV k) :
 ∃ o,jT H p y o/\o.isSome=(aW ks ds k).isSome/\∀ d,aW ks ds k=some d->∃ v,o=some v/\ay K Hh d v:=by
 subst hy;obtain ⟨i1,i2⟩:=kh (x:=k) hl h2;refine ⟨_,jT.k (k:=k) h1,?_,fun d hd=>i1 d hd⟩
 cases e:aW ks ds k with
 | none=>rw [i2 e];rfl
 | some d=>obtain ⟨v,e1,_⟩:=i1 d e;rw [e1];rfl
theorem yU{H Hh:Hp}{p b:Addr}{ks:List (List Key)}{ds:List D}{xs:List V}{k:List Key}(h1:H p=some (.dT (ks.zip xs)))(hl:ks.length=xs.length)(h2:ag K Hh ds xs)(hb:H b=some (.tup (k.map kV))) :
 ∃ o,jT H p (.ref b) o/\o.isSome=(aW ks ds k).isSome/\∀ d,aW ks ds k=some d->∃ v,o=some v/\ay K Hh d v:=by
 obtain ⟨i1,i2⟩:=kh (x:=k) hl h2;refine ⟨_,jT.t (k:=k) h1 hb,?_,fun d hd=>i1 d hd⟩
 cases e:aW ks ds k with
 | none=>rw [i2 e];rfl
 | some d=>obtain ⟨v,e1,_⟩:=i1 d e;rw [e1];rfl
theorem yo{H:Hp}{L:List Addr}{d c:D}{x y:V}{b neg:Bool}{Q:VK}(ra:gC K H (hid L H) d x)(rb:gC K H (hid L H) c y)(e:gInD d c=some b)(q:Q (.bl (if neg then !b else b)) H):Au K neg x y H Q:=by
 have seq:∀ (p:Addr) (xs:List V) (ds:List D),y = .ref p->(SqL K H p xs\/SqT K H p xs)->ag K (hid L H) ds xs->(if (ae 9 d&&ds.all (ae 9))=true then some (kQ ds d) else none)=some b->Au K neg x y H Q:=fun p xs ds hy hs hr e=>by
  split at e
  ·rename_i hc
   have hc:=(CD _ _).mp hc;cases e;exact .inl ⟨d,p,xs,ds,hy,hs,az.repDs hr,hc.2,ra.d az,hc.1,q⟩
  ·cases e
 unfold gInD at e
 split at e
 ·obtain ⟨p,xs,rfl,h1,h2⟩:=rb
  exact seq p xs _ rfl (.inl (.inl (.inl h1))) h2 e
 ·obtain ⟨p,xs,rfl,h1,h2⟩:=rb
  exact seq p xs _ rfl (.inr (.inl (.inl (am h1).2))) h2 e
 ·obtain ⟨p,xs,rfl,h1,h2⟩:=rb
  exact seq p xs _ rfl (.inr (eW h1)) h2 e
 ·obtain ⟨p,rfl,h1⟩:=rb
  cases e;exact .inr (.inl ⟨p,_,_,_,ra,rfl,(am h1).2,q⟩)
 ·obtain ⟨p,xs,rfl,h1,h2,h3⟩:=rb
  split at e
  ·rename_i k ek
   cases e;obtain ⟨o,g1,g2,_⟩:=yV (k:=k) h1 h2 h3 (iA ek (ra.d az));exact .inr (.inr ⟨p,o,rfl,g1,by rw [g2];exact q⟩)
  ·cases e
 ·obtain ⟨p,xs,rfl,h1,h2,h3⟩:=rb
  obtain ⟨b',ys,rfl,h4,h5⟩:=ra
  split at e
  ·rename_i k ek
   cases e;have h4:=(am h4).2;rw [fI ek h5] at h4;obtain ⟨o,g1,g2,_⟩:=yU (k:=k) h1 h2 h3 h4;exact .inr (.inr ⟨p,o,rfl,g1,by rw [g2];exact q⟩)
  ·cases e
 ·cases e
theorem os_in:OpS K (r2 (Au K false)) gIn:=by
 intro vs ds H L Q d nw hm r e q;unfold gIn at e
 split at e
 ·obtain ⟨x,y,rfl,ra,rb⟩:=aO r
  split at e
  ·rename_i b eb
   cases e;exact yo ra rb eb (q _ H (aa.refl _) rfl)
  ·cases e
 ·cases e
end
noncomputable def oq:List D->Option (D×Bool)
 | [.dK ks vs,k]=>match kK k with
  | some k=>match aW ks vs k with
   | some d=>some (d,false)
   | none=>none
  | none=>none
 | [.dT ks vs,.tup l]=>match gY l with
  | some k=>match aW ks vs k with
   | some d=>some (d,false)
   | none=>none
  | none=>none
 | _=>none
noncomputable def rDGet:R2:=fun x y H Q=>∃ a v,x = .ref a/\jT H a y (some v)/\Q v H
theorem c_dget{X:Cx}{EX:EXT}{o i:Expr}{a b:Arg}{pos:Pos}(hu:X.A.units+1 < cLine)(ho:JB X EX o a)(hi:JB X EX i b)(hs:NoSl i:=by exact fun _ _=>rfl):JE X EX (.Subscript o i pos) (sOp oq [a,b]) :=
 ⟨(AG hu ho.p hi.p hs).by fun σ H Q ⟨F,ρ,W,R,h⟩=>by
   have os:OpS X.K (r2 rDGet) oq:=by
    intro vs ds H L Q d nw hm r e q;unfold oq at e
    split at e
    ·obtain ⟨x,y,rfl,⟨p,xs,rfl,h1,h2,h3⟩,rb⟩:=aO r
     split at e
     ·rename_i k ek
      split at e
      ·rename_i d' ed
       cases e;obtain ⟨o,g1,_,g3⟩:=yV (k:=k) h1 h2 h3 (iA ek (rb.d az));obtain ⟨v,rfl,rv⟩:=g3 _ ed;exact ⟨p,v,rfl,g1,q v H (aa.refl _) rv⟩
      ·cases e
     ·cases e
    ·obtain ⟨x,y,rfl,⟨p,xs,rfl,h1,h2,h3⟩,⟨b',ys,rfl,h4,h5⟩⟩:=aO r
     split at e
     ·rename_i k ek
      split at e
      ·rename_i d' ed
       cases e;have h4:=(am h4).2;rw [fI ek h5] at h4;obtain ⟨o,g1,_,g3⟩:=yU (k:=k) h1 h2 h3 h4;obtain ⟨v,rfl,rv⟩:=g3 _ ed;exact ⟨p,v,rfl,g1,q v H (aa.refl _) rv⟩
      ·cases e
     ·cases e
    ·cases e
   exact cV os R h⟩
noncomputable def cJ(j:Nat)(u:D->List D->Option (D×D))(fs:List SE):SE:=fun ρ=>match ρ[j]? with
 | some (some (_,.fz))=>none
 | some (some (.lst _,_))=>match evA (fs.map Arg.ex) ρ with
  | some (.ok ds,ρ1)=>match ρ1[j]? with
   | some (some (c,.ow))=>match u c ds with
    | some (c',d)=>some (.ok d false,ρ1.set j (some (c',.ow)))
    | none=>none
   | some (some (c,.io))=>match u c ds with
    | some (c',d)=>some (.ok d false,ρ1.set j (some (c',.io)))
    | none=>none
   | _=>none
  | some (.ex C,ρ1)=>some (.ex C,ρ1)
  | none=>none
 | _=>none
noncomputable def MeS(K:E2)(r:V->List V->Hp->VK->Prop)(u:D->List D->Option (D×D)):Prop :=
 ∀ (H:Hp) (L:List Addr) (p:Addr) (c:D) (ds:List D) (vs:List V) (c' d:D) (Q:VK),aM K H (hid L H) p c->p∈L->ag K (hid L H) ds vs->u c ds=some (c',d) ->
  (∀ v o,aM K (upd H p o) (hid L H) p c'->ay K (hid L H) d v->Q v (upd H p o))->r (.ref p) vs H Q
section
variable{K:E2}{EX:EXT}{σ:St}{H:Hp}{Q:VK}
theorem A3{j:Nat}{u:D->List D->Option (D×D)}{fs:List SE}{r:V->List V->Hp->VK->Prop}(hs:MeS K r u)(hw:tV K EX (cJ j u fs) σ H Q):tBM K "list" r (bR j) (tAs K EX (fs.map Arg.ex)) σ H Q:=by
 obtain ⟨F,ρ,W,R,h⟩:=hw;unfold cJ at h
 revert h
 cases e0:ρ[j]? with
 | none=>exact fun h=>h.elim
 | some z =>
  cases z with
  | none=>exact fun h=>h.elim
  | some z =>
   obtain ⟨c0,m0⟩:=z
   have go:m0 ≠ .fz->∀ es,c0 = .lst es->OkV K F EX σ H W (match evA (fs.map Arg.ex) ρ with
    | some (.ok ds,ρ1)=>match ρ1[j]? with
     | some (some (c,.ow))=>match u c ds with
      | some (c',d)=>some (.ok d false,ρ1.set j (some (c',.ow)))
      | none=>none
     | some (some (c,.io))=>match u c ds with
      | some (c',d)=>some (.ok d false,ρ1.set j (some (c',.io)))
      | none=>none
     | _=>none
    | some (.ex C,ρ1)=>some (.ex C,ρ1)
    | none=>none) Q->tBM K "list" r (bR j) (tAs K EX (fs.map Arg.ex)) σ H Q:=fun hm0 es hc0 h=>by
    subst hc0;obtain ⟨v,hv,ok0⟩:=R.slot j _ _ e0
    have own0:∃ p,v = .ref p/\p∈W/\aM K H (hid (W++F.Z) H) p (.lst es):=by
     cases m0 with
     | fz=>exact absurd rfl hm0
     | ow=>exact ok0
     | io=>obtain ⟨p,a,b,c,_⟩:=ok0;exact ⟨p,a,b,c⟩
    obtain ⟨p,rfl,hp,xs,hx,_⟩:=own0;refine ⟨_,hv,.inl ⟨rfl,xs,.inl (.inl hx)⟩,ou fs R ?_⟩
    revert h
    cases evA (fs.map Arg.ex) ρ with
    | none=>exact fun h=>h
    | some q =>
     obtain ⟨q,ρ1⟩:=q
     cases q with
     | ex C=>exact fun h=>h
     | ok ds =>
      dsimp only;intro h vs H1 W1 fr1 sub1 R1 reps
      have step:∀ (c:D) (m:Md),m ≠ .fz->ρ1[j]?=some (some (c,m))->∀ c' d,u c ds=some (c',d)->OkV K F EX σ H W (some (.ok d false,ρ1.set j (some (c',m)))) Q->r (.ref p) vs H1 Q:=fun c m hm e1 c' d eu h=>by
       obtain ⟨v1,hv1,ok1⟩:=R1.slot j c m e1;rw [hv] at hv1;cases hv1
       have own1:p∈W1/\aM K H1 (hid (W1++F.Z) H1) p c:=by
        cases m with
        | fz=>exact absurd rfl hm
        | ow=>obtain ⟨p',a,b,c⟩:=ok1;cases a;exact ⟨b,c⟩
        | io=>obtain ⟨p',a,b,c,_⟩:=ok1;cases a;exact ⟨b,c⟩
       refine hs H1 (W1++F.Z) p c ds vs c' d Q own1.2 (Cp _ own1.1) reps eu fun v2 o new rd=> ?_
       obtain ⟨R2,fr2⟩:=R1.write e1 hm hv new;refine h v2 _ W1 (fr1.trans fr2 fun q hq=> .inl (sub1 q hq)) sub1 ⟨?_,R2⟩;rw [jF (Cp _ own1.1)];exact rd
      revert h
      split
      ·rename_i c e1
       split
       ·rename_i c' d eu
        exact fun h=>step c .ow (by decide) e1 c' d eu h
       ·exact fun h=>h.elim
      ·rename_i c e1
       split
       ·rename_i c' d eu
        exact fun h=>step c .io (by decide) e1 c' d eu h
       ·exact fun h=>h.elim
      ·exact fun h=>h.elim
   cases m0 with
   | fz=>exact fun h=>h.elim
   | ow=>cases c0<;>first | exact fun h=>h.elim | exact fun h=>go (by decide) _ rfl h
   | io=>cases c0<;>first | exact fun h=>h.elim | exact fun h=>go (by decide) _ rfl h
end
noncomputable def cr:D->List D->Option (D×D)
 | .lst ds,[d]=>if small ds.length=true then some (.lst (ds++[d]),.non) else none
 | _,_=>none
noncomputable def jq:D->List D->Option (D×D)
 | .lst ds,[.lst es]=>if small (ds.length+es.length)=true then some (.lst (ds++es),.non) else none
 | .lst ds,[.tup es]=>if small (ds.length+es.length)=true then some (.lst (ds++es),.non) else none
 | _,_=>none
noncomputable def uPop:D->List D->Option (D×D)
 | .lst ds,[]=>match ds[ds.length - 1]? with
  | some d=>some (.lst ds.dropLast,d)
  | none=>none
 | _,_=>none
noncomputable def lI:D->List D->Option (D×D)
 | .lst ds,[.int i]=>if (decide (-1000000000<=i/\i<=1000000000))=true then match seqIndex? i ds.length with
  | some k=>match ds[k]? with
   | some d=>some (.lst (ds.eraseIdx k),d)
   | none=>none
  | none=>none
  else none
 | _,_=>none
section
variable{K:E2}
theorem vB:MeS K ut cr:=by
 intro H L p c ds vs c' d Q hO hp hr e q;unfold cr at e
 split at e
 ·obtain ⟨xs,h1,h2⟩:=hO
  split at e
  ·rename_i hs
   cases e
   match vs,hr with
   | [v],hr =>
    refine ⟨p,xs,v,rfl,rfl,h1,lK (by rw [<- h2.len];exact hs),q _ _ ⟨_,af,h2.app ⟨hr.1,trivial⟩⟩ rfl⟩
  ·cases e
 ·cases e
noncomputable def qz(K:E2):V->List V->Hp->VK->Prop:=fun x vs H Q=>ur x vs H Q\/qy x vs H Q
theorem sP{X:Cx}:MtM X "list.extend" (qz X.K):=by
 intro pins s σ H x xs v us Q I rx r h
 rcases h with h | h
 ·exact vy pins s σ H x xs v us Q I rx r h
 ·exact sO pins s σ H x xs v us Q I rx r h
theorem vA:MeS K (qz K) jq:=by
 intro H L p c ds vs c' d Q hO hp hr e q;unfold jq at e
 split at e
 ·obtain ⟨xs,h1,h2⟩:=hO
  split at e
  ·rename_i hs
   cases e
   match vs,hr with
   | [v],hr =>
    obtain ⟨b,ys,rfl,h3,h4⟩:=hr.1;exact .inl ⟨p,b,xs,ys,rfl,rfl,h1,(am h3).2,gG (by rw [<- h2.len,<- h4.len];exact hs),q _ _ ⟨_,af,h2.app h4⟩ rfl⟩
  ·cases e
 ·obtain ⟨xs,h1,h2⟩:=hO
  split at e
  ·rename_i hs
   cases e
   match vs,hr with
   | [v],hr =>
    obtain ⟨b,ys,rfl,h3,h4⟩:=hr.1;exact .inr ⟨p,b,xs,ys,rfl,rfl,h1,(am h3).2,gG (by rw [<- h2.len,<- h4.len];exact hs),q _ _ ⟨_,af,h2.app h4⟩ rfl⟩
  ·cases e
 ·cases e
theorem x9:MeS K xa lI:=by
 intro H L p c ds vs c' d Q hO hp hr e q;unfold lI at e
 split at e
 ·rename_i es i
  obtain ⟨xs,h1,h2⟩:=hO
  split at e
  ·rename_i hi
   have hi:=Cz hi
   split at e
   ·rename_i k ek
    split at e
    ·rename_i d' ed
     cases e
     match vs,hr with
     | [v],hr =>
      obtain ⟨x,ex,rx⟩:=h2.get ed;exact ⟨p,xs,i,k,x,rfl,by rw [show v = .int i from hr.1],h1,by omega,by omega,by rw [<- h2.len];exact ek,ex,q _ _ ⟨_,af,h2.erase k⟩ rx⟩
    ·cases e
   ·cases e
  ·cases e
 ·cases e
end
section
variable{X:Cx}{EX:EXT}{e:Expr}{es:List Expr}{pos p1 apos cpos:Pos}{n:Str}{j:Nat}
theorem tX{name:Str}{id:String}{u:D->List D->Option (D×D)}{fs:List SE}{r:V->List V->Hp->VK->Prop}(hs:MeS X.K r u)(hm:MtM X id r)(slot:Slot "list" name id)(hty:typeOf (.builtin id)=pure (.type "method_descriptor"))(hN:X.N[j]?=some n)(hv:Vis X.env.scope n)(ha:JF X EX (e::es) fs)
 (hbase:attributeBase (.Name n p1) name X.env (eval (.Name n p1) X.env)=eval (.Name n p1) X.env:=by rfl)
 (hfew:((backTo cpos (starEach (e::es) X.env)).all (fun x => !x.1)&&(backToKw cpos (keywordEach [] X.env)).all (fun x=>x.1.isSome)
   && decide ((e::es).length+([]:List Keyword).length+(if ([]:List Keyword).isEmpty then 0 else 1) < 30))=true:=by rfl)
 (hline:(apos.endLine == cpos.line)=true:=by rfl) (hst:starEach (e::es) X.env=(false,eval e X.env)::starEach es X.env:=by rfl) (hplain:(backTo cpos (starEach es X.env)).any (·.1)=false:=by rfl)
 (hd:(n == ("__debug__" : Str))=false:=by decide) (hcd:(n == ("__classdict__" : Str))=false:=by decide):JE X EX (.Call (.Attribute (.Name n p1) name apos) (e::es) [] cpos) (cJ j u fs) :=
 ⟨(ux Ev slot hty hm (gP hN hv hd hcd) ha.p hbase hfew hline hst hplain).by fun σ H Q h=>A3 hs h⟩
end
noncomputable def de(u:D->D->D->Option D)(j:Nat)(f fi:SE):SS:=fun ρ=>match f ρ with
 | some (.ok d _,ρ1)=>match ρ1[j]? with
  | some (some _)=>match fi ρ1 with
   | some (.ok i _,ρ2)=>match ρ2[j]? with
    | some (some (c,.ow))=>match u c i d with
     | some c'=>some (.nx,ρ2.set j (some (c',.ow)))
     | none=>none
    | some (some (c,.io))=>match u c i d with
     | some c'=>some (.nx,ρ2.set j (some (c',.io)))
     | none=>none
    | _=>none
   | some (.ex C,ρ2)=>some (.ex C,ρ2)
   | none=>none
  | _=>none
 | some (.ex C,ρ1)=>some (.ex C,ρ1)
 | none=>none
noncomputable def PuS(K:E2)(r:V->V->V->Hp->(Hp->Prop)->Prop)(u:D->D->D->Option D):Prop :=
 ∀ (H:Hp) (L:List Addr) (p:Addr) (c i d c':D) (vi vd:V) (Q:Hp->Prop),aM K H (hid L H) p c->p∈L->ay K (hid L H) i vi->ay K (hid L H) d vd->u c i d=some c' ->
  (∀ o,aM K (upd H p o) (hid L H) p c'->Q (upd H p o))->r (.ref p) vi vd H Q
theorem uH{K:E2}{EX:EXT}{u:D->D->D->Option D}{r:V->V->V->Hp->(Hp->Prop)->Prop}{j:Nat}{f fi:SE}{E:mW}{σ:St}{H:Hp}(hs:PuS K r u)(h:tVS K EX (de u j f fi) E σ H) :
 tV K EX f σ H fun v H1=>∃ o,σ[j]?=some (some o)/\tV K EX fi σ H1 fun i H2=>r o i v H2 fun H3=>E.nx σ H3:=by
 obtain ⟨F,ρ,W,R,h⟩:=h;refine ⟨F,ρ,W,R,?_⟩;unfold de at h
 revert h
 cases f ρ with
 | none=>exact fun h=>h
 | some q =>
  obtain ⟨q,ρ1⟩:=q
  cases q with
  | ex C=>exact fun h H2 W2 fr2 sub2 R2=>h σ H2 W2 fr2 (fun p hp=> .inl (sub2 p hp)) R2
  | ok d nw =>
   dsimp only
   cases e1:ρ1[j]? with
   | none=>exact fun h=>h.elim
   | some z =>
    cases z with
    | none=>exact fun h=>h.elim
    | some z =>
     obtain ⟨c1,m1⟩:=z;intro h v H1 W1 fr1 sub1 P1;obtain ⟨rd,R1⟩:=P1.plain;obtain ⟨o,ho,_⟩:=R1.slot j _ _ e1;refine ⟨o,ho,F,ρ1,W1,R1,?_⟩
     revert h
     dsimp only
     cases fi ρ1 with
     | none=>exact fun h=>h
     | some q =>
      obtain ⟨q,ρ2⟩:=q
      cases q with
      | ex C=>exact fun h H2 W2 fr2 sub2 R2=>h σ H2 W2 (fr1.trans fr2 fun p hp=> .inl (sub1 p hp)) (fun p hp=> .inl (sub1 p (sub2 p hp))) R2
      | ok i nw2 =>
       dsimp only;intro h vi H2 W2 fr2 sub2 P2;obtain ⟨ri,R2⟩:=P2.plain
       have step:∀ (c:D) (m:Md),m ≠ .fz->ρ2[j]?=some (some (c,m))->∀ c',u c i d=some c'->OkS K F EX H W (some (.nx,ρ2.set j (some (c',m)))) E->r o vi v H2 fun H3=>E.nx σ H3:=fun c m hm e2 c' eu h=>by
        obtain ⟨v1,hv1,ok1⟩:=R2.slot j c m e2;rw [ho] at hv1;cases hv1
        have own1:∃ p,o = .ref p/\p∈W2/\aM K H2 (hid (W2++F.Z) H2) p c:=by
         cases m with
         | fz=>exact absurd rfl hm
         | ow=>exact ok1
         | io=>obtain ⟨p',a,b,c,_⟩:=ok1;exact ⟨p',a,b,c⟩
        obtain ⟨p,rfl,hp,hO⟩:=own1
        refine hs H2 (W2++F.Z) p c i d c' vi v _ hO (Cp _ hp) ri ((fr2.hid fun p hp=> .inl (sub2 p hp)).repD rd) eu fun o' new=> ?_
        obtain ⟨R3,fr3⟩:=R2.write e2 hm ho new;exact h σ _ W2 ((fr1.trans fr2 fun p hp=> .inl (sub1 p hp)).trans fr3 fun p hp=> .inl (sub1 p (sub2 p hp))) (fun p hp=> .inl (sub1 p (sub2 p hp))) R3
       revert h
       split
       ·rename_i c e2
        split
        ·rename_i c' eu
         exact fun h=>step c .ow (by decide) e2 c' eu h
        ·exact fun h=>h.elim
       ·rename_i c e2
        split
        ·rename_i c' eu
         exact fun h=>step c .io (by decide) e2 c' eu h
        ·exact fun h=>h.elim
       ·exact fun h=>h.elim
noncomputable def ff:D->D->D->Option D
 | .lst ds,.int k,d=>match ixN ds.length k with
  | some n=>some (.lst (ds.set n d))
  | none=>none
 | _,_,_=>none
theorem Aw{K:E2}:PuS K jy ff:=by
 intro H L p c i d c' vi vd Q hO hp ri rd e q;unfold ff at e
 split at e
 ·rename_i ds k
  obtain ⟨xs,h1,h2⟩:=hO
  split at e
  ·rename_i n en
   cases e;exact ⟨p,xs,k,n,rfl,ri,h1,by rw [<- h2.len];exact en,q _ ⟨_,af,h2.set rd n⟩⟩
  ·cases e
 ·cases e
section
variable{X:Cx}{EX:EXT}{e i:Expr}{pos pos' p1:Pos}{n:Str}{j:Nat}{f fi:SE}
theorem s_item(he:JE X EX e f)(hi:JE X EX i fi)(hN:X.N[j]?=some n)(hv:Vis X.env.scope n)(hs:swapsWithSole [.Subscript (.Name n p1) i pos'] e pos.line X.env=pure false:=by rfl)(hw:swappedStores [.Subscript (.Name n p1) i pos'] e X.env=pure none:=by rfl)
 (h1:(assignEach [.Subscript (.Name n p1) i pos'] X.env).map (·.2)=[assign (.Subscript (.Name n p1) i pos') X.env]:=by rfl)
 (ha:∀ v,assign (.Subscript (.Name n p1) i pos') X.env v=(do
   let ov <- holding [v] (eval (.Name n p1) X.env)
   let iv <- holding [v,ov] (eval i X.env)
   standAt pos'
   holding [v,ov,iv] (setItem ov iv v)
   release [v,ov,iv] []):=by intro _;rfl)
 (hd:(n == ("__debug__" : Str))=false:=by decide) (hcd:(n == ("__classdict__" : Str))=false:=by decide):JS X EX (.Assign [.Subscript (.Name n p1) i pos'] e pos) (de ff j f fi) :=
 ⟨(lY he.p (o8 (gP hN hv hd hcd) hi.p fk ha) hs hw h1).by fun D σ H h=>uH Aw h⟩
end
noncomputable def kC:D->D->D->Option D
 | .dK ks vs,k,d=>match kK k with
  | some k=>if (small ks.length&&decide ks.Nodup)=true then some (.dK (gB ks vs k d).1 (gB ks vs k d).2) else none
  | none=>none
 | .dT ks vs,.tup l,d=>match gY l with
  | some k=>if (small ks.length&&decide ks.Nodup)=true then some (.dT (gB ks vs k d).1 (gB ks vs k d).2) else none
  | none=>none
 | _,_,_=>none
noncomputable def rPutD:V->V->V->Hp->(Hp->Prop)->Prop:=fun x y v H Q=>∃ a H',x = .ref a/\p5 H a y v H'/\Q H'
theorem Ax{K:E2}:PuS K rPutD kC:=by
 intro H L p c i d c' vi vd Q hO hp ri rd e q;unfold kC at e
 split at e
 ·rename_i ks vs
  obtain ⟨xs,h1,h2,h3⟩:=hO
  split at e
  ·rename_i k ek
   split at e
   ·rename_i hsn
    have hsn:=(CD _ _).mp hsn;cases e;obtain ⟨i1,i2,i3⟩:=lW (x:=k) rd h2 h3;refine ⟨p,_,rfl,by rw [iA ek ri];exact p5.k (k:=k) h1 (by rw [DN,<- h2,Ef];exact lK hsn.1),q _ ⟨(jz ks xs k vd).2,?_,?_,i2⟩⟩
    ·rw [<- i1,lV h2 (Cz hsn.2)]
     exact af
    ·rw [<- i1];exact i3
   ·cases e
  ·cases e
 ·rename_i ks vs l
  obtain ⟨xs,h1,h2,h3⟩:=hO;obtain ⟨b,ys,rfl,h4,h5⟩:=ri
  split at e
  ·rename_i k ek
   split at e
   ·rename_i hsn
    have hsn:=(CD _ _).mp hsn;cases e;obtain ⟨i1,i2,i3⟩:=lW (x:=k) rd h2 h3;have h4:=(am h4).2;rw [fI ek h5] at h4;refine ⟨p,_,rfl,p5.t (k:=k) h1 h4 (by rw [DN,<- h2,Ef];exact lK hsn.1),q _ ⟨(jz ks xs k vd).2,?_,?_,i2⟩⟩
    ·rw [<- i1,lV h2 (Cz hsn.2)]
     exact af
    ·rw [<- i1];exact i3
   ·cases e
  ·cases e
 ·cases e
section
variable{X:Cx}{EX:EXT}{e i:Expr}{pos pos' p1:Pos}{n:Str}{j:Nat}{f fi:SE}
theorem s_dput(hu:X.A.units+1 < cLine)(he:JE X EX e f)(hi:JE X EX i fi)(hN:X.N[j]?=some n)(hv:Vis X.env.scope n)(hs:swapsWith e (some (.Subscript (.Name n p1) i pos')) pos.line X.env=pure false:=by rfl)
 (hd:(n == ("__debug__" : Str))=false:=by decide) (hcd:(n == ("__classdict__" : Str))=false:=by decide):JS X EX (.Assign [.Subscript (.Name n p1) i pos'] e pos) (de kC j f fi) :=
 ⟨(Ay hu (gP hN hv hd hcd) hi.p he.p hs).by fun D σ H h=>uH Ax h⟩
noncomputable def nR(d:D):SE:=fun ρ=>some (.ok d true,ρ)
theorem uX:JE X EX (.Dict [] [] pos) (nR (.dK [] [])):=⟨xA.by fun σ H Q ⟨F,ρ,W,R,h⟩ p hp=>h _ _ W ((aa.upd hp).fr) (fun _ z=>z) (gA.e (nw:=true) ⟨p,rfl,hp,[],af,rfl,trivial⟩ R (aa.upd hp))⟩
theorem Bw:JE X EX (.Dict [] [] pos) (nR (.dT [] [])):=⟨xz.by fun σ H Q ⟨F,ρ,W,R,h⟩ p hp=>h _ _ W ((aa.upd hp).fr) (fun _ z=>z) (gA.e (nw:=true) ⟨p,rfl,hp,[],af,rfl,trivial⟩ R (aa.upd hp))⟩
end
end L2
namespace L2
open PySem PySem.Spec PyProof.Rows ZpA
noncomputable def cz:D->Option (List D)
 | .lst ds=>some ds
 | .klst ds=>some ds
 | .tup ds=>some ds
 | .ktup ds=>some ds
 | _=>none
noncomputable def ItsA:Kd->E2->Addr->L2.It
 | .L=>Itl
 | .T=>Itt
theorem SqA.same{c:Kd}{K:E2}{H H':Hp}{a:Addr}{xs:List V}(e:aa H H')(h:SqA c K H a xs):SqA c K H' a xs:=by
 cases c with
 | L=>exact e.seq h
 | T=>exact e.tup h
theorem lh{K:E2}{H:Hp}{d:D}{v:V}{ds:List D}(e:cz d=some ds)(r:ay K H d v):∃ a c xs,v = .ref a/\SqA c K H a xs/\ag K H ds xs:=by
 cases d<;>first
  | (unfold cz at e;cases e;done)
  | (unfold cz at e;cases e;obtain ⟨p,xs,h1,h2,h3⟩:=r;exact ⟨p,.L,xs,h1,.inl (.inl h2),h3⟩)
  | (unfold cz at e;cases e;obtain ⟨p,xs,h1,h2,h3⟩:=r;exact ⟨p,.T,xs,h1,.inl (.inl h2),h3⟩)
  | (unfold cz at e;cases e;obtain ⟨p,xs,h1,h2,h3⟩:=r;exact ⟨p,.L,xs,h1,h2,h3⟩)
  | (unfold cz at e;cases e;obtain ⟨p,xs,h1,h2,h3⟩:=r;exact ⟨p,.T,xs,h1,eW h2,h3⟩)
noncomputable def iSeqA(K:E2)(tl:TE):TI:=fun σ H R=>tl σ H fun x H1=>∃ a c,x = .ref a/\∃ xs,SqA c K H1 a xs/\(xs.length<=sizeLine->R (ItsA c K a) H1)
section
variable{X:Cx}{EX:EXT}{tg l:Expr}
theorem AB{tl:TE}(hl:PE X l tl):PI X tg l (iSeqA X.K tl):=by
 intro pins s σ H R I h
 refine thn (hl pins s σ H _ I h) fun v s1 ⟨x,H1,I1,r1,q1⟩=> ?_
 obtain ⟨a,c,e,xs,hq,q⟩:=q1;subst e;cases r1
 cases c with
 | L =>
  obtain ⟨its,rv,p,hz⟩:=I1.list hq;refine DT p.isList ?_;refine ⟨s1.heap.objs.size,[s1.heap.objs.size],_,_,H1,rfl,I1.kept (t':=s1.toks) fun b o e=>Cj _ e,u6 a _,⟨_,Ct _ rfl,rfl,rfl⟩,fun b hb=> ?_,q hz⟩
  have e:b=s1.heap.objs.size:=by simpa using hb
  subst e;exact I1.fpOk (Cw _) (I1.hok.fresh (Cw _))
 | T =>
  obtain ⟨its,rv,p,hz⟩:=I1.tuple hq;refine Dg (show s1.heap.IsTuple a its.toArray from p) ?_;refine ⟨s1.heap.objs.size,[s1.heap.objs.size],_,_,H1,rfl,I1.kept (t':=s1.toks) fun b o e=>Cj _ e,rX a _,⟨_,Ct _ rfl,rfl,rfl⟩,fun b hb=> ?_,q hz⟩
  have e:b=s1.heap.objs.size:=by simpa using hb
  subst e;exact I1.fpOk (Cw _) (I1.hok.fresh (Cw _))
theorem yk{K:E2}{L0:List Addr}{H0:Hp}{ds:List D}{xs:List V}{a:Addr}{c:Kd}(hs:SqA c K (hid L0 H0) a xs)(hr:ag K (hid L0 H0) ds xs)(hf:xs.length<=sizeLine):ItOk K L0 ds (ItsA c K a) H0 where
 go:=fun H L i d sm hm hd=>by
  obtain ⟨x0,e0,r0⟩:=hr.get hd;have sq:SqA c K H a xs:=hs.same (sm.trans az)
  cases c with
  | L=>exact ⟨⟨xs,x0,sq,e0⟩,fun x H' y=>by obtain ⟨rfl,y⟩:=y;have e:=y xs sq;rw [e0] at e;cases e;exact ⟨aa.refl _,sm.repD r0⟩⟩
  | T=>exact ⟨⟨xs,x0,sq,e0⟩,fun x H' y=>by obtain ⟨rfl,y⟩:=y;have e:=y xs sq;rw [e0] at e;cases e;exact ⟨aa.refl _,sm.repD r0⟩⟩
 stop:=fun H sm=>by
  have sq:SqA c K H a xs:=hs.same sm
  cases c with
  | L=>exact ⟨xs,sq,by rw [hr.len];exact Cw _⟩
  | T=>exact ⟨xs,sq,by rw [hr.len];exact Cw _⟩
 few:=by rw [hr.len];exact hf
noncomputable def bT(f:SE):SI:=fun ρ=>match f ρ with
 | some (.ok d _,ρ')=>match cz d with
  | some ds=>some (.ok ds,ρ')
  | none=>none
 | some (.ex C,ρ')=>some (.ex C,ρ')
 | none=>none
theorem i_seq{f:SE}(h:JE X EX l f):JI X EX tg l (bT f) :=
 ⟨fun pins s σ H R I hw=>AB h.p pins s σ H R I (by
  obtain ⟨F,ρ,W,R0,h⟩:=hw;refine ⟨F,ρ,W,R0,?_⟩;unfold bT at h
  revert h
  cases f ρ with
  | none=>exact fun h=>h
  | some q =>
   obtain ⟨q,ρ1⟩:=q
   cases q with
   | ex C=>exact fun h=>h
   | ok d nw =>
    dsimp only
    cases e:cz d with
    | none=>exact fun h=>h.elim
    | some ds =>
     intro h v H1 W1 fr1 sub1 P1;obtain ⟨rd,R1⟩:=P1.plain;obtain ⟨a,c,xs,rfl,hs,hr⟩:=lh e rd
     exact ⟨a,c,rfl,xs,hs.same az,fun hf=>h _ H1 W1 fr1 sub1 R1 (yk hs hr hf)⟩)⟩
noncomputable def okR(lo hi:Int):Bool:=decide (-1000000000<=lo/\lo<=1000000000 /\ -1000000000<=hi/\hi<=1000000000/\(hi - lo).toNat<=1000000)
noncomputable def nv:List D->Option Int
 | [.int j]=>some j
 | _=>none
noncomputable def nu:List D->Option (Int×Int)
 | [.int i,.int j]=>some (i,j)
 | _=>none
theorem yn{K:E2}{H Hh:Hp}{ds:List D}{vs:List V}{j:Int}(e:nv ds=some j)(r:kU K H Hh ds vs):vs=[.int j]:=by
 unfold nv at e
 split at e
 ·cases e
  obtain ⟨y,rfl,ry⟩:=aQ r;rw [ck ry]
 ·cases e
theorem ym{K:E2}{H Hh:Hp}{ds:List D}{vs:List V}{i j:Int}(e:nu ds=some (i,j))(r:kU K H Hh ds vs):vs=[.int i,.int j]:=by
 unfold nu at e
 split at e
 ·cases e
  obtain ⟨y,z,rfl,ry,rz⟩:=aO r;rw [ck ry,ck rz]
 ·cases e
noncomputable def cv(x:Arg):SI:=fun ρ=>match evA [x] ρ with
 | some (.ok ds,ρ')=>match nv ds with
  | some j=>if okR 0 j=true then some (.ok (gK 0 j.toNat),ρ') else none
  | none=>none
 | some (.ex C,ρ')=>some (.ex C,ρ')
 | none=>none
noncomputable def fX(x y:Arg):SI:=fun ρ=>match evA [x,y] ρ with
 | some (.ok ds,ρ')=>match nu ds with
  | some (i,j)=>if okR i j=true then some (.ok (gK i (j - i).toNat),ρ') else none
  | none=>none
 | some (.ex C,ρ')=>some (.ex C,ρ')
 | none=>none
theorem qo{lo:Int}{n:Nat}:(gK lo n).length=n:=by unfold gK;simp
theorem wT{lo:Int}{n i:Nat}{d:D}(h:(gK lo n)[i]?=some d):i < n/\d = .int (lo+(i:Nat)):=by
 unfold gK at h;rw [CG] at h;obtain ⟨k,hk,rfl⟩:=De.mp h;obtain ⟨h1,h2⟩:=Cv.mp hk;simp at h1 h2;subst h2;exact ⟨h1,rfl⟩
theorem qO{K:E2}{L0:List Addr}{H0:Hp}{lo:Int}{n:Nat}(hf:n<=1000000):ItOk K L0 (gK lo n) (Itr lo n) H0 where
 go:=fun H L i d sm hm hd=>by
  obtain ⟨h1,rfl⟩:=wT hd;exact ⟨h1,fun x H' y=>by obtain ⟨rfl,rfl⟩:=y;exact ⟨aa.refl _,rfl⟩⟩
 stop:=fun H sm=>by rw [qo];exact Cw n
 few:=by rw [qo];exact DD hf (by decide)
theorem i_rng1{a:Expr}{x:Arg}{p pos:Pos}(hg:Gl X "range")(hm:X.mg "range" = none)(ha:JA X EX [a] [x])(hs:starEach [a] X.env=[(false,eval a X.env)]:=by rfl):JI X EX tg (.Call (.Name "range" p) [a] [] pos) (cv x) :=
 ⟨fun pins s σ H R I hw=>vo hg hm ha.p hs pins s σ H R I (by
  obtain ⟨F,ρ,W,R0,h⟩:=hw;refine oK [x] R0 ?_;unfold cv at h
  revert h
  cases evA [x] ρ with
  | none=>exact fun h=>h
  | some q =>
   obtain ⟨q,ρ1⟩:=q
   cases q with
   | ex C=>exact fun h=>h
   | ok ds =>
    dsimp only
    cases e:nv ds with
    | none=>exact fun h=>h.elim
    | some j =>
     dsimp only
     split
     ·rename_i hj
      have hj:=Cz hj;intro h vs H1 W1 fr1 sub1 R1 reps;exact ⟨j,yn e reps,by omega,by omega,h _ H1 W1 fr1 sub1 R1 (qO (by have:=hj.2.2.2.2;omega))⟩
     ·exact fun h=>h.elim)⟩
theorem i_rng2{a b:Expr}{x y:Arg}{p pos:Pos}(hg:Gl X "range")(hm:X.mg "range" = none)(ha:JA X EX [a,b] [x,y])(hs:starEach [a,b] X.env=[(false,eval a X.env),(false,eval b X.env)]:=by rfl)(hs2:starEach [b] X.env=[(false,eval b X.env)]:=by rfl):JI X EX tg (.Call (.Name "range" p) [a,b] [] pos) (fX x y) :=
 ⟨fun pins s σ H R I hw=>vn hg hm ha.p hs hs2 pins s σ H R I (by
  obtain ⟨F,ρ,W,R0,h⟩:=hw;refine oK [x,y] R0 ?_;unfold fX at h
  revert h
  cases evA [x,y] ρ with
  | none=>exact fun h=>h
  | some q =>
   obtain ⟨q,ρ1⟩:=q
   cases q with
   | ex C=>exact fun h=>h
   | ok ds =>
    dsimp only
    cases e:nu ds with
    | none=>exact fun h=>h.elim
    | some ij =>
     obtain ⟨i,j⟩:=ij;dsimp only
     split
     ·rename_i hj
      have hj:=Cz hj;intro h vs H1 W1 fr1 sub1 R1 reps;exact ⟨i,j,ym e reps,⟨by omega,by omega,by omega,by omega⟩,h _ H1 W1 fr1 sub1 R1 (qO hj.2.2.2.2)⟩
     ·exact fun h=>h.elim)⟩
noncomputable def hV:Nat->List D->List D
 | _,[]=>[]
 | i,d::ds=> .tup [.int (i:Nat),d]::hV (i+1) ds
theorem ku:∀ {i:Nat} {ds:List D},(hV i ds).length=ds.length
 | _,[]=>rfl
 | i,d::ds=>by unfold hV;rw [CA,CA,ku]
theorem oB:∀ {i j:Nat} {ds:List D} {e:D},(hV i ds)[j]?=some e->∃ d,ds[j]?=some d/\e = .tup [.int ((i+j:Nat)),d]
 | i,j,[],e,h=>by unfold hV at h;simp at h
 | i,0,d::ds,e,h=>by
  unfold hV at h;simp only [CM,Option.some.injEq] at h;exact ⟨d,rfl,h.symm⟩
 | i,j+1,d::ds,e,h=>by
  unfold hV at h;simp only [CS] at h ⊢;obtain ⟨d',h1,h2⟩:=oB h;exact ⟨d',h1,by rw [h2,show i+1+j=i+(j+1) by omega]⟩
noncomputable def iR:List D->List D->List D
 | a::as,b::bs=> .tup [a,b]::iR as bs
 | _,_=>[]
theorem lH:∀ {as bs:List D},as.length<=bs.length->(iR as bs).length=as.length
 | [],_,_=>by unfold iR;rfl
 | a::as,b::bs,h=>by unfold iR;rw [CA,CA,lH (by simpa using h)]
 | _::_,[],h=>by simp at h
theorem p7:∀ {as bs:List D} {j:Nat} {e:D},(iR as bs)[j]?=some e->∃ a b,as[j]?=some a/\bs[j]?=some b/\e = .tup [a,b]
 | [],_,j,e,h=>by unfold iR at h;simp at h
 | _::_,[],j,e,h=>by unfold iR at h;simp at h
 | a::as,b::bs,0,e,h=>by
  unfold iR at h;simp only [CM,Option.some.injEq] at h;exact ⟨a,b,rfl,rfl,h.symm⟩
 | a::as,b::bs,j+1,e,h=>by
  unfold iR at h;simp only [CS] at h ⊢;exact p7 h
noncomputable def gc(f:SE):SI:=fun ρ=>match f ρ with
 | some (.ok d _,ρ')=>match cz d with
  | some ds=>some (.ok (hV 0 ds),ρ')
  | none=>none
 | some (.ex C,ρ')=>some (.ex C,ρ')
 | none=>none
theorem qD{K:E2}{H:Hp}{L:List Addr}{p:Addr}{a b:D}{x y:V}(hm:∀ p∈L,dO (H p))(hp:H p=none)(ra:ay K (hid L H) a x)(rb:ay K (hid L H) b y):ay K (hid L (upd H p (.tup [x,y]))) (.tup [a,b]) (.ref p) :=
 jD hm (show ag K (hid L H) [a,b] [x,y] from ⟨ra,rb,trivial⟩) (aa.upd hp) af
theorem i_enum{elts:List Expr}{k}{tpos:Pos}{f:SE}{p pos:Pos}(hg:Gl X "enumerate")(hm:X.mg "enumerate" = none)(h:JE X EX l f)(hs:starEach [l] X.env=[(false,eval l X.env)]:=by rfl):JI X EX (.Tuple elts k tpos) (.Call (.Name "enumerate" p) [l] [] pos) (gc f) :=
 ⟨fun pins s σ H R I hw=>xu hg hm (ad h.p aR hs) hs pins s σ H R I (by
  obtain ⟨F,ρ,W,R0,h⟩:=hw;refine ⟨F,ρ,W,R0,?_⟩;unfold gc at h
  revert h
  cases f ρ with
  | none=>exact fun h=>h
  | some q =>
   obtain ⟨q,ρ1⟩:=q
   cases q with
   | ex C=>exact fun h=>h
   | ok d nw =>
    dsimp only
    cases e:cz d with
    | none=>exact fun h=>h.elim
    | some ds =>
     intro h v H1 W1 fr1 sub1 P1;obtain ⟨rd,R1⟩:=P1.plain;obtain ⟨a,c,xs,rfl,hq,hr⟩:=lh e rd;refine ⟨a,c,rfl,xs,hq.same az,fun hf=>h _ H1 W1 fr1 sub1 R1 ⟨fun H L i d sm hm hd=> ?_,fun H sm=> ?_,?_⟩⟩
     ·obtain ⟨d0,e0,rfl⟩:=oB hd
      obtain ⟨x0,ex,r0⟩:=hr.get e0;have sq:SqA c X.K H a xs:=hq.same (sm.trans az);refine ⟨⟨xs,x0,sq,ex⟩,fun x H' y=> ?_⟩;obtain ⟨p,y,rfl,hp,rfl,hy⟩:=y;have e1:=hy xs sq;rw [ex] at e1;cases e1;refine ⟨aa.upd hp,?_⟩;have:=qD (K:=X.K) (a:= .int ((i:Nat):Int)) (x:= .int (i:Nat)) hm hp rfl (sm.repD r0);rw [Db];exact this
     ·rw [ku,hr.len]
      exact ⟨xs,hq.same sm,Cw _⟩
     ·rw [ku,hr.len];exact hf)⟩
noncomputable def u8:List D->Option (List D×List D)
 | [a,b]=>match cz a,cz b with
  | some x,some y=>some (x,y)
  | _,_=>none
 | _=>none
noncomputable def iW(fs:List SE):SI:=fun ρ=>match evA (fs.map Arg.ex) ρ with
 | some (.ok ds,ρ')=>match u8 ds with
  | some (a,b)=>if decide (a.length<=b.length)=true then some (.ok (iR a b),ρ') else none
  | none=>none
 | some (.ex C,ρ')=>some (.ex C,ρ')
 | none=>none
theorem i_zip{elts:List Expr}{k}{tpos:Pos}{l l':Expr}{fs:List SE}{p pos:Pos}(hg:Gl X "zip")(hm:X.mg "zip" = none)(h:JF X EX [l,l'] fs)(hs:starEach [l,l'] X.env=[(false,eval l X.env),(false,eval l' X.env)]:=by rfl)(hs2:starEach [l'] X.env=[(false,eval l' X.env)]:=by rfl) :
 JI X EX (.Tuple elts k tpos) (.Call (.Name "zip" p) [l,l'] [] pos) (iW fs) :=
 ⟨fun pins s σ H R I hw=>AA hg hm h.p hs hs2 pins s σ H R I (by
  obtain ⟨F,ρ,W,R0,h⟩:=hw;refine ou fs R0 ?_;unfold iW at h
  revert h
  cases evA (fs.map Arg.ex) ρ with
  | none=>exact fun h=>h
  | some q =>
   obtain ⟨q,ρ1⟩:=q
   cases q with
   | ex C=>exact fun h=>h
   | ok ds =>
    dsimp only
    cases e:u8 ds with
    | none=>exact fun h=>h.elim
    | some ab =>
     obtain ⟨as,bs⟩:=ab;dsimp only
     split
     ·rename_i hl
      have hl:=Cz hl;intro h vs H1 W1 fr1 sub1 R1 reps;unfold u8 at e
      split at e
      ·rename_i da db
       split at e
       ·rename_i x y ea eb
        cases e
        match vs,reps with
        | [va,vb],reps =>
         obtain ⟨a,c1,xs,rfl,hq,hr⟩:=lh ea reps.1;obtain ⟨b,c2,ys,rfl,hq2,hr2⟩:=lh eb reps.2.1;refine ⟨a,b,c1,c2,rfl,xs,hq.same az,fun hf=>⟨⟨ys,hq2.same az⟩,h _ H1 W1 fr1 sub1 R1 ⟨fun H L i d sm hm hd=> ?_,fun H sm=> ?_,?_⟩⟩⟩
         ·obtain ⟨d1,d2,e1,e2,rfl⟩:=p7 hd
          obtain ⟨x0,ex,r0⟩:=hr.get e1;obtain ⟨y0,ey,r1⟩:=hr2.get e2;have sq:SqA c1 X.K H a xs:=hq.same (sm.trans az);have sq2:SqA c2 X.K H b ys:=hq2.same (sm.trans az);refine ⟨⟨xs,ys,x0,y0,sq,sq2,ex,ey⟩,fun x H' y=> ?_⟩;obtain ⟨p,y,z,rfl,hp,rfl,hy,hz⟩:=y;have e3:=hy xs sq;have e4:=hz ys sq2;rw [ex] at e3;rw [ey] at e4;cases e3;cases e4;exact ⟨aa.upd hp,qD hm hp (sm.repD r0) (sm.repD r1)⟩
         ·rw [lH hl,hr.len]
          exact ⟨xs,hq.same sm,Cw _⟩
         ·rw [lH hl,hr.len];exact hf
       ·cases e
      ·cases e
     ·exact fun h=>h.elim)⟩
end
noncomputable def dJ(g g':List D->Option (D×Bool))(f1 f2 f3:SE):SE:=fun ρ=>match evA [.ex f1,.ex f2] ρ with
 | some (.ok [a,b],ρ1)=>match g [a,b] with
  | some (.bl true,false)=>match f3 ρ1 with
   | some (.ok c _,ρ2)=>match g' [b,c] with
    | some (d,false)=>some (.ok d false,ρ2)
    | _=>none
   | some (.ex C,ρ2)=>some (.ex C,ρ2)
   | none=>none
  | some (.bl false,false)=>some (.ok (.bl false) false,ρ1)
  | _=>none
 | some (.ok _,_)=>none
 | some (.ex C,ρ')=>some (.ex C,ρ')
 | none=>none
theorem za{K:E2}{EX:EXT}{σ:St}{H:Hp}{Q:VK}{r r':R2}{g g':List D->Option (D×Bool)}{f1 f2 f3:SE}(hs:OpS K (r2 r) g)(hs':OpS K (r2 r') g')(hw:tV K EX (dJ g g' f1 f2 f3) σ H Q):wM r r' (tV K EX f1) (tV K EX f2) (tV K EX f3) σ H Q:=by
 obtain ⟨F,ρ,W,R,h⟩:=hw
 have z:tAs K EX (([f1,f2]:List SE).map Arg.ex) σ H (fun vs H2=>match vs with
  | [x,y]=>r x y H2 fun z H3=>∃ k,z = .bl k/\(if k=true then tV K EX f3 σ H3 fun w' H4=>r' y w' H4 Q else Q (.bl false) H3)
  | _=>False):=by
  refine ou [f1,f2] R ?_;unfold dJ at h
  revert h
  show OkV K F EX σ H W (match evA (([f1,f2]:List SE).map Arg.ex) ρ with
   | some (.ok [a,b],ρ1)=>match g [a,b] with
    | some (.bl true,false)=>match f3 ρ1 with
     | some (.ok c _,ρ2)=>match g' [b,c] with
      | some (d,false)=>some (.ok d false,ρ2)
      | _=>none
     | some (.ex C,ρ2)=>some (.ex C,ρ2)
     | none=>none
    | some (.bl false,false)=>some (.ok (.bl false) false,ρ1)
    | _=>none
   | some (.ok _,_)=>none
   | some (.ex C,ρ')=>some (.ex C,ρ')
   | none=>none) Q->_
  cases evA (([f1,f2]:List SE).map Arg.ex) ρ with
  | none=>exact fun h=>h
  | some q =>
   obtain ⟨q,ρ1⟩:=q
   cases q with
   | ex C=>exact fun h=>h
   | ok ds =>
    match ds with
    | []=>exact fun h=>h.elim
    | [_]=>exact fun h=>h.elim
    | _::_::_::_=>exact fun h=>h.elim
    | [a,b] =>
     dsimp only;intro h vs H1 W1 fr1 sub1 R1 reps
     match vs,reps with
     | [x,y],reps =>
      have rb:kU K H1 (hid (W1++F.Z) H1) [a,b] [x,y]:=⟨ay.b reps.1 az,ay.b reps.2.1 az,trivial⟩
      cases eg:g [a,b] with
      | none=>rw [eg] at h;exact h.elim
      | some dn =>
       obtain ⟨d,nw⟩:=dn;rw [eg] at h
       refine hs [x,y] [a,b] H1 (W1++F.Z) _ d nw R1.mt rb eg fun z H2 s2 p2=> ?_
       have fr2:Fr W H H2:=fr1.trans (s2.fr (W:=W1)) fun p hp=> .inl (sub1 p hp)
       cases d<;>first | (exact h.elim) | skip
       rename_i k
       cases nw with
       | true=>cases k<;>exact h.elim
       | false =>
        have hz:z = .bl k:=p2;refine ⟨k,hz,?_⟩;have R2:=R1.same s2
        cases k with
        | false =>
         rw [if_neg Cq];exact h _ H2 W1 fr2 sub1 ⟨rfl,R2⟩
        | true =>
         rw [if_pos rfl];refine ⟨F,ρ1,W1,R2,?_⟩
         revert h
         dsimp only
         cases f3 ρ1 with
         | none=>exact fun h=>h
         | some q =>
          obtain ⟨q,ρ2⟩:=q
          cases q with
          | ex C=>exact fun h H3 W3 fr3 sub3 R3=>h H3 W3 (fr2.trans fr3 fun p hp=> .inl (sub1 p hp)) (fun p hp=>sub1 p (sub3 p hp)) R3
          | ok c nw2 =>
           dsimp only;intro h w' H3 W3 fr3 sub3 P3;obtain ⟨rc,R3⟩:=P3.plain;have ry:ay K (hid (W3++F.Z) H3) b y:=(fr3.hid fun p hp=> .inl (sub3 p hp)).repD ((aD (fun b hb=> .inl hb) fun b o _ e=>s2 b o e:aa (hid (W1++F.Z) H1) (hid (W1++F.Z) H2)).repD reps.2.1)
           cases eg2:g' [b,c] with
           | none=>rw [eg2] at h;exact h.elim
           | some dn =>
            obtain ⟨d2,nw3⟩:=dn;rw [eg2] at h
            cases nw3 with
            | true=>exact h.elim
            | false =>
             refine hs' [y,w'] [b,c] H3 (W3++F.Z) _ d2 false R3.mt ⟨ay.b ry az,ay.b rc az,trivial⟩ eg2 fun v H4 s4 p4=> ?_
             exact h v H4 W3 ((fr2.trans fr3 fun p hp=> .inl (sub1 p hp)).trans (s4.fr (W:=W3)) fun p hp=> .inl (sub1 p (sub3 p hp))) (fun p hp=>sub1 p (sub3 p hp)) ⟨p4,R3.same s4⟩
 exact z
section
variable{X:Cx}{EX:EXT}{a b c:Expr}{pos:Pos}
theorem Bx{op op':CmpOp}{r r':R2}{g g':List D->Option (D×Bool)}{f1 f2 f3:SE}(ho:OpR X (compareOp op) r)(ho':OpR X (compareOp op') r')(hs:OpS X.K (r2 r) g)(hs':OpS X.K (r2 r') g')(ha:JE X EX a f1)(hb:JE X EX b f2)(hc:JE X EX c f3)
 (hm:lastMarks [op,op'] [b,c]=false:=by with_unfolding_all rfl):JE X EX (.Compare a [op,op'] [b,c] pos) (dJ g g' f1 f2 f3) :=
 ⟨(xB ho ho' ha.p hb.p hc.p hm).by fun σ H Q h=>za hs hs' h⟩
end
end L2
namespace L2
open PySem PySem.Spec PyProof.Rows
section
variable{X:Cx}
noncomputable def xc(K:E2):List V->Hp->(V->Hp->Prop)->Prop:=fun xs H Q=>∃ (p:Addr) (ns:List Int),xs=[V.ref p]/\SqT K H p (ns.map V.int)/\ns≠[]/\∀ M,M∈ns->(∀ a∈ns,a<=M)->Q (.int M) H
noncomputable def xb(K:E2):List V->Hp->(V->Hp->Prop)->Prop:=fun xs H Q=>∃ (p:Addr) (ns:List Int),xs=[V.ref p]/\SqT K H p (ns.map V.int)/\ns≠[]/\∀ M,M∈ns->(∀ a∈ns,M<=a)->Q (.int M) H
theorem v7(hc:X.calm=true):aF X (.builtin "max") (xc X.K):=by
 intro pins s σ H xs us Q I r h;obtain ⟨p,ns,rfl,hq,ne,q⟩:=h;obtain ⟨u,rfl,ru⟩:=cg r;cases ru;obtain ⟨its,rv,pl,hz⟩:=I.tuple hq;obtain ⟨ps,rfl,e⟩:=fc rv
 have lp:ps.length=ns.length:=by rw [<- e,Ci]
 have n0:0 < ns.length:=C4.mpr ne
 have ei:intItems ps.toArray=(ps.map fun p=>Value.int p.1 p.2).toArray:=by unfold intItems;simp
 have ht:s.heap.IsTuple p (intItems ps.toArray):=by rw [ei];exact pl
 have hlt:p < s.heap.objs.size:=by obtain ⟨_,e,_⟩:=ht;exact Cu e
 have sz:ps.toArray.size=ns.length:=by simp [lp]
 obtain ⟨b1,b2⟩:=argBest_gt (numAt ps.toArray) (ps.toArray.size - 1);refine call_max_walk (Dg ht ⟨s.heap.objs.size,_,_,_,_,_,_,rfl,Walks.tuple (A:=X.A.in1) (I.ok.hd hc) _ p (CJ hlt) (intItems ps.toArray),⟨⟨_,Ct _ rfl,rfl,rfl⟩,ht.push _⟩,fun c hcm=> ?_,by simpa [intItems,lp] using n0,CmpOf.ints_gt (numAt ps.toArray) (fun _ _=>intItems_at),fun v h' tk hP hk=> ?_⟩)
 ·have e1:c=s.heap.objs.size\/c=p:=by simpa using hcm
  show c < (s.heap.push _).objs.size
  rw [C5]
  rcases e1 with e1 | e1
  ·rw [e1];exact Em _
  ·rw [e1];exact DL hlt
 ·have hv:(intItems ps.toArray)[argBest (fun i j=>decide (numAt ps.toArray i > numAt ps.toArray j)) (ps.toArray.size - 1)]?=some v:=by simpa [intItems] using hP
  obtain ⟨t,rfl⟩:=intItems_at hv;rw [sz] at b1 b2 ⊢;refine ⟨.int _,H,I.kept (h':=h') (t':=tk) fun b' o e=>hk b' o (by have:=Cu e;simp;exact CJ this) (Cj _ e),⟨t,rfl⟩,q _ ?_ fun a ha=> ?_⟩
  ·rw [cM e (by omega)]
   exact CT _
  ·obtain ⟨j,hj,rfl⟩:=Eo ha
   have:=b2 j (by omega);rw [cM e hj] at this;exact this
theorem vZ(hc:X.calm=true):aF X (.builtin "min") (xb X.K):=by
 intro pins s σ H xs us Q I r h;obtain ⟨p,ns,rfl,hq,ne,q⟩:=h;obtain ⟨u,rfl,ru⟩:=cg r;cases ru;obtain ⟨its,rv,pl,hz⟩:=I.tuple hq;obtain ⟨ps,rfl,e⟩:=fc rv
 have lp:ps.length=ns.length:=by rw [<- e,Ci]
 have n0:0 < ns.length:=C4.mpr ne
 have ei:intItems ps.toArray=(ps.map fun p=>Value.int p.1 p.2).toArray:=by unfold intItems;simp
 have ht:s.heap.IsTuple p (intItems ps.toArray):=by rw [ei];exact pl
 have hlt:p < s.heap.objs.size:=by obtain ⟨_,e,_⟩:=ht;exact Cu e
 have sz:ps.toArray.size=ns.length:=by simp [lp]
 obtain ⟨b1,b2⟩:=argBest_lt (numAt ps.toArray) (ps.toArray.size - 1);refine call_min_walk (Dg ht ⟨s.heap.objs.size,_,_,_,_,_,_,rfl,Walks.tuple (A:=X.A.in1) (I.ok.hd hc) _ p (CJ hlt) (intItems ps.toArray),⟨⟨_,Ct _ rfl,rfl,rfl⟩,ht.push _⟩,fun c hcm=> ?_,by simpa [intItems,lp] using n0,CmpOf.ints_lt (numAt ps.toArray) (fun _ _=>intItems_at),fun v h' tk hP hk=> ?_⟩)
 ·have e1:c=s.heap.objs.size\/c=p:=by simpa using hcm
  show c < (s.heap.push _).objs.size
  rw [C5]
  rcases e1 with e1 | e1
  ·rw [e1];exact Em _
  ·rw [e1];exact DL hlt
 ·have hv:(intItems ps.toArray)[argBest (fun i j=>decide (numAt ps.toArray i < numAt ps.toArray j)) (ps.toArray.size - 1)]?=some v:=by simpa [intItems] using hP
  obtain ⟨t,rfl⟩:=intItems_at hv;rw [sz] at b1 b2 ⊢;refine ⟨.int _,H,I.kept (h':=h') (t':=tk) fun b' o e=>hk b' o (by have:=Cu e;simp;exact CJ this) (Cj _ e),⟨t,rfl⟩,q _ ?_ fun a ha=> ?_⟩
  ·rw [cM e (by omega)]
   exact CT _
  ·obtain ⟨j,hj,rfl⟩:=Eo ha
   have:=b2 j (by omega);rw [cM e hj] at this;exact this
end
noncomputable def eQ:List D->Option (D×Bool)
 | [.tup ds]=>match bj ds with
  | some (n::ns)=>some (.int (dZ (n::ns)),false)
  | _=>none
 | ds=>yB ds
noncomputable def iH:List D->Option (D×Bool)
 | [.tup ds]=>match bj ds with
  | some (n::ns)=>some (.int (kf (n::ns)),false)
  | _=>none
 | ds=>Bk ds
theorem v9{X:Cx}(hc:X.calm=true):aF X (.builtin "max") (fun xs H Q=>(um xs H Q\/qx X.K xs H Q)\/xc X.K xs H Q):=(wc hc).or (v7 hc)
theorem v4{X:Cx}(hc:X.calm=true):aF X (.builtin "min") (fun xs H Q=>(ul xs H Q\/qw X.K xs H Q)\/xb X.K xs H Q):=(v5 hc).or (vZ hc)
theorem AK{K:E2}:OpS K (fun xs H Q=>(um xs H Q\/qx K xs H Q)\/xc K xs H Q) eQ:=by
 intro vs ds H L Q d nw hm r e q;unfold eQ at e
 split at e
 ·rename_i es
  obtain ⟨x,rfl,⟨p,xs,rfl,h1,h2⟩⟩:=aQ r
  split at e
  ·rename_i n ns en
   cases e;rw [cb en] at h2;rw [bI h2] at h1;refine .inr ⟨p,n::ns,rfl,.inl (.inl (am h1).2),by simp,fun M m1 m2=> ?_⟩;obtain ⟨z1,z2⟩:=iw (l:=n::ns) (by simp);rw [mM m1 m2 z1 z2];exact q _ H (aa.refl _) rfl
  ·cases e
 ·exact .inl (os_max vs _ H L Q d nw hm r e q)
theorem AJ{K:E2}:OpS K (fun xs H Q=>(ul xs H Q\/qw K xs H Q)\/xb K xs H Q) iH:=by
 intro vs ds H L Q d nw hm r e q;unfold iH at e
 split at e
 ·rename_i es
  obtain ⟨x,rfl,⟨p,xs,rfl,h1,h2⟩⟩:=aQ r
  split at e
  ·rename_i n ns en
   cases e;rw [cb en] at h2;rw [bI h2] at h1;refine .inr ⟨p,n::ns,rfl,.inl (.inl (am h1).2),by simp,fun M m1 m2=> ?_⟩;obtain ⟨z1,z2⟩:=lE (l:=n::ns) (by simp);rw [mq m1 m2 z1 z2];exact q _ H (aa.refl _) rfl
  ·cases e
 ·exact .inl (os_min vs _ H L Q d nw hm r e q)
noncomputable def oU(nm:Str):SS:=fun ρ=>some (.ex nm,ρ)
theorem Aa{P:Program}{w:World}{K:E2}{mg:Str->Option Value}{base:Heap}{N:List Str}{qual:Str}{scope:Scope}{f:Addr}{cd:Value}{A:Around}{outer:List Env}{s:Shared}{H:Hp}{E:XK}{x:Str}{C:Addr}{bm:List Value}{B newId initId:String}{np cpos pos:Pos}{k:Nat}
 (O:OwnCls x C bm newId mg base) (FB:ExcBaseFacts B newId initId bm) (hc:h9 K x C) (hr:cx k (A.deeper (envOfC qual scope s.heap.objs.size f cd)))
 (hg:Gl (bX (CXr P w) P w K mg base N qual scope f cd A outer s H E) x) (hd:(x == ("__debug__" : Str))=false:=by decide):JS (bX (CXr P w) P w K mg base N qual scope f cd A outer s H E) (EXf K E) (.Raise (some (.Call (.Name x np) [] [] cpos)) none pos) (oU x) :=
 ⟨(vj O FB hr.hd hg hd).by fun D σ H ⟨F,ρ,W,R,h⟩=>h σ H W .refl (fun _ z=> .inl z) R C hc none⟩
theorem zU{K:E2}{run:FS}{H:Hp}{a:Addr}{ns:List Int}(hrun:∃ x,run [.klst (ns.map D.int)]=some (.ok (.bl true) false,x))(hS:SqL K H a (ns.map V.int)):spF K none run [.ref a] H (fun v _=>v = .bl true) fun _ _ _=>False:=by
 obtain ⟨x,hx⟩:=hrun;refine ⟨[],[],[.klst (ns.map D.int)],rfl,(fun p hp=>by cases hp),(fun p hp=>by cases hp),fun j d v _ h1 h2=> ?_,(fun k z=>by cases z),fun _=>rfl,?_⟩
 ·have hh:hid ([]++[]) H=H:=by funext b;unfold hid;simp
  rw [hh]
  match j,h1,h2 with
  | 0,h1,h2 =>
   simp only [CM,Option.some.injEq] at h1 h2;subst h1 h2;exact ⟨a,_,rfl,hS,eF ns⟩
  | j+1,h1,h2=>simp at h1
 ·rw [hx]
  exact fun v H' _ rv _=>rv
theorem vV{P:Program}{w:World}{H:Hp}{s:Shared}{e:Value}{s':Shared}(h:CXr P w [] H s (fun _ _ _=>False) e s'):False:=by
 obtain ⟨_,_,_,_,_,_,_,_,_,_,z⟩:=h;exact z
section
variable{X:Cx}{EX:EXT}{a b e:Expr}{es:List Expr}{pos p:Pos}{x y:Arg}{as:List Arg}
theorem v(i:Nat){n:Str}(hN:X.N[i]?=some n:=by rfl)(hv:Vis X.env.scope n:=by first | exact Or.inl rfl | exact Or.inr (Or.inl rfl) | exact Or.inr (Or.inr rfl))(hd:(n == ("__debug__" : Str))=false:=by decide)(hcd:(n == ("__classdict__" : Str))=false:=by decide):JE X EX (.Name n pos) (bh i):=c_var hN hv hd hcd
theorem vb(i:Nat){n:Str}(hN:X.N[i]?=some n:=by rfl)(hv:Vis X.env.scope n:=by first | exact Or.inl rfl | exact Or.inr (Or.inl rfl) | exact Or.inr (Or.inr rfl))(hd:(n == ("__debug__" : Str))=false:=by decide)(hcd:(n == ("__classdict__" : Str))=false:=by decide):JB X EX (.Name n pos) (.bor i):=cb_var hN hv hd hcd
theorem rN(ha:JB X EX a x)(hb:JB X EX b y):JE X EX (.BinOp a .Add b pos) (sOp aH [x,y]):=wp AU os_add ha hb
theorem b_sub(ha:JB X EX a x)(hb:JB X EX b y):JE X EX (.BinOp a .Sub b pos) (sOp dg [x,y]):=wp op_sub os_sub ha hb
theorem b_mul(ha:JB X EX a x)(hb:JB X EX b y):JE X EX (.BinOp a .Mult b pos) (sOp fN [x,y]):=wp AO os_mul ha hb
theorem b_fdiv(ha:JB X EX a x)(hb:JB X EX b y):JE X EX (.BinOp a .FloorDiv b pos) (sOp jK [x,y]):=wp AR AM ha hb
theorem b_mod(ha:JB X EX a x)(hb:JB X EX b y):JE X EX (.BinOp a .Mod b pos) (sOp kq [x,y]):=wp op_mod os_mod ha hb
theorem b_pow(ha:JB X EX a x)(hb:JB X EX b y):JE X EX (.BinOp a .Pow b pos) (sOp yu [x,y]):=wp xN os_pow ha hb
theorem fu(ha:JB X EX a x)(hb:JB X EX b y)(hp:pY b:=by exact fun _ _=>rfl):JE X EX (.Subscript a b pos) (sOp gIx [x,y]):=c_ix ix_seq os_ix ha hb hp
theorem q_eq(hu:X.A.units+10 < cLine)(ha:JB X EX a x)(hb:JB X EX b y):JE X EX (.Compare a [.Eq] [b] pos) (sOp gEq [x,y]):=uY (xO (by omega)) B2 ha hb (dh _)
theorem q_gt(ha:JB X EX a x)(hb:JB X EX b y):JE X EX (.Compare a [.Gt] [b] pos) (sOp gGt [x,y]):=uY B4 B1 ha hb (dh _)
theorem q_ge(ha:JB X EX a x)(hb:JB X EX b y):JE X EX (.Compare a [.GtE] [b] pos) (sOp gGe [x,y]):=uY op_ge os_ge ha hb (dh _)
theorem Av(ha:JB X EX a x)(hb:JB X EX b y):JE X EX (.Compare a [.IsNot] [b] pos) (sOp jj [x,y]):=uY nX xM ha hb (dh _)
theorem t_eq(hu:X.A.units+10 < cLine)(ha:JB X EX a x)(hb:JB X EX b y):JT X EX (.Compare a [.Eq] [b] pos) (bS gEq [x,y]):=mr (xO (by omega)) B2 ha hb (dh _)
theorem t_ne(hu:X.A.units+10 < cLine)(ha:JB X EX a x)(hb:JB X EX b y):JT X EX (.Compare a [.NotEq] [b] pos) (bS gNe [x,y]):=mr (op_neD (by omega)) os_ne ha hb (dh _)
theorem t_lt(ha:JB X EX a x)(hb:JB X EX b y):JT X EX (.Compare a [.Lt] [b] pos) (bS gLt [x,y]):=mr op_lt os_lt ha hb (dh _)
theorem t_gt(ha:JB X EX a x)(hb:JB X EX b y):JT X EX (.Compare a [.Gt] [b] pos) (bS gGt [x,y]):=mr B4 B1 ha hb (dh _)
theorem t_is(ha:JB X EX a x)(hb:JB X EX b y):JT X EX (.Compare a [.Is] [b] pos) (bS gIs [x,y]):=mr op_isD os_is ha hb (dh _)
theorem t_in(hu:X.A.units+10 < cLine)(ha:JB X EX a x)(hb:JB X EX b y)(hm:behindInMarks .In b=false:=by with_unfolding_all rfl):JT X EX (.Compare a [.In] [b] pos) (bS gIn [x,y]):=mr (op_inA hu) os_in ha hb hm
variable(he:starEach (e::es) X.env=(false,eval e X.env)::starEach es X.env:=by rfl)(hpl:(backTo pos (starEach es X.env)).any (·.1)=false:=by rfl)
include he hpl
theorem Cc(m:X.mg "len" = none)(ha:JA X EX (e::es) as)(hg:Gl X "len" := by rfl):JE X EX (.Call (.Name "len" p) (e::es) [] pos) (sOp bJ as):=jO wj os_len hg m EY ha (by decide) (by decide) he hpl
theorem b_all(m:X.mg "all" = none)(ha:JA X EX (e::es) as)(hg:Gl X "all" := by rfl)(hc:X.calm=true:=by rfl):JE X EX (.Call (.Name "all" p) (e::es) [] pos) (sOp nA as):=jO (wo hc) os_all hg m PyProof.Rows.boot_all ha (by decide) (by decide) he hpl
theorem b_max(m:X.mg "max" = none)(ha:JA X EX (e::es) as)(hg:Gl X "max" := by rfl)(hc:X.calm=true:=by rfl):JE X EX (.Call (.Name "max" p) (e::es) [] pos) (sOp eQ as):=jO (v9 hc) AK hg m PyProof.Rows.boot_max ha (by decide) (by decide) he hpl
theorem b_min(m:X.mg "min" = none)(ha:JA X EX (e::es) as)(hg:Gl X "min" := by rfl)(hc:X.calm=true:=by rfl):JE X EX (.Call (.Name "min" p) (e::es) [] pos) (sOp iH as):=jO (v4 hc) AJ hg m PyProof.Rows.boot_min ha (by decide) (by decide) he hpl
theorem By(m:X.mg "tuple" = none)(ha:JA X EX (e::es) as)(hg:Gl X "tuple" := by rfl)(hc:X.calm=true:=by rfl):JE X EX (.Call (.Name "tuple" p) (e::es) [] pos) (sOp km as):=ic (rE hc) xF hg m PyProof.Rows.boot_tuple ha (by decide) (by decide) he hpl
theorem b_set(m:X.mg "set" = none)(ha:JA X EX (e::es) as)(hg:Gl X "set" := by rfl)(hc:X.calm=true:=by rfl):JE X EX (.Call (.Name "set" p) (e::es) [] pos) (sOp pE as):=ic (vY hc) os_set hg m PyProof.Rows.boot_set ha (by decide) (by decide) he hpl
theorem b_int(m:X.mg "int" = none)(ha:JA X EX (e::es) as)(hg:Gl X "int" := by rfl):JE X EX (.Call (.Name "int" p) (e::es) [] pos) (sOp vO as):=ic wk os_int hg m PyProof.Rows.boot_int ha (by decide) (by decide) he hpl
theorem BA(m:X.mg "range" = none)(ha:JA X EX (e::es) as)(hg:Gl X "range" := by rfl):JE X EX (.Call (.Name "range" p) (e::es) [] pos) (sOp ko as):=ic rF xK hg m PyProof.Rows.boot_range ha (by decide) (by decide) he hpl
end
section
variable{X:Cx}{EX:EXT}{e:Expr}{a:Arg}{p1 p2 pos:Pos}
theorem wr(he:JB X EX e a)(m1:X.mg "isinstance" = none)(m2:X.mg "int" = none)(g1:Gl X "isinstance" := by rfl)(g2:Gl X "int" := by rfl)(hs:starEach [e,.Name "int" p1] X.env=(false,eval e X.env)::starEach [.Name "int" p1] X.env:=by rfl):JE X EX (.Call (.Name "isinstance" p2) [e,.Name "int" p1] [] pos) (sOp (bK "int") [a]):=zh (.inl rfl) he g1 m1 g2 m2 PyProof.Rows.boot_int (by decide) (by decide) hs
theorem tY(he:JB X EX e a)(m1:X.mg "isinstance" = none)(m2:X.mg "bool" = none)(g1:Gl X "isinstance" := by rfl)(g2:Gl X "bool" := by rfl)(hs:starEach [e,.Name "bool" p1] X.env=(false,eval e X.env)::starEach [.Name "bool" p1] X.env:=by rfl):JE X EX (.Call (.Name "isinstance" p2) [e,.Name "bool" p1] [] pos) (sOp (bK "bool") [a]):=zh (.inr (.inl rfl)) he g1 m1 g2 m2 PyProof.Rows.boot_bool (by decide) (by decide) hs
theorem rM(he:JB X EX e a)(m1:X.mg "isinstance" = none)(m2:X.mg "tuple" = none)(g1:Gl X "isinstance" := by rfl)(g2:Gl X "tuple" := by rfl)(hs:starEach [e,.Name "tuple" p1] X.env=(false,eval e X.env)::starEach [.Name "tuple" p1] X.env:=by rfl):JE X EX (.Call (.Name "isinstance" p2) [e,.Name "tuple" p1] [] pos) (sOp (bK "tuple") [a]):=zh (.inr (.inr (.inl rfl))) he g1 m1 g2 m2 PyProof.Rows.boot_tuple (by decide) (by decide) hs
end
section
variable{X:Cx}{EX:EXT}{e:Expr}{pos p1 apos cpos:Pos}{n:Str}{f:SE}
theorem yd(j:Nat)(h:JE X EX e f)(hN:X.N[j]?=some n:=by rfl)(hv:Vis X.env.scope n:=by first | exact Or.inl rfl | exact Or.inr (Or.inl rfl) | exact Or.inr (Or.inr rfl))(hst:starEach [e] X.env=(false,eval e X.env)::starEach [] X.env:=by rfl)
 (hbase:attributeBase (.Name n p1) "append" X.env (eval (.Name n p1) X.env)=eval (.Name n p1) X.env:=by rfl) (hfew:((backTo cpos (starEach [e] X.env)).all (fun x => !x.1)&&(backToKw cpos (keywordEach [] X.env)).all (fun x=>x.1.isSome)&&decide ([e].length+([]:List Keyword).length+(if ([]:List Keyword).isEmpty then 0 else 1) < 30))=true:=by rfl)
 (hline:(apos.endLine == cpos.line)=true:=by rfl) (hplain:(backTo cpos (starEach [] X.env)).any (·.1)=false:=by rfl) (hd:(n == ("__debug__" : Str))=false:=by decide) (hcd:(n == ("__classdict__" : Str))=false:=by decide) :
 JE X EX (.Call (.Attribute (.Name n p1) "append" apos) [e] [] cpos) (cJ j cr [f]):=tX vB nZ PySem.F.slot_list_append PySem.F.type_list_append hN hv (.cons h .nil hst) hbase hfew hline hst hplain hd hcd
theorem yc(j:Nat)(h:JE X EX e f)(hN:X.N[j]?=some n:=by rfl)(hv:Vis X.env.scope n:=by first | exact Or.inl rfl | exact Or.inr (Or.inl rfl) | exact Or.inr (Or.inr rfl))(hst:starEach [e] X.env=(false,eval e X.env)::starEach [] X.env:=by rfl)
 (hbase:attributeBase (.Name n p1) "extend" X.env (eval (.Name n p1) X.env)=eval (.Name n p1) X.env:=by rfl) (hfew:((backTo cpos (starEach [e] X.env)).all (fun x => !x.1)&&(backToKw cpos (keywordEach [] X.env)).all (fun x=>x.1.isSome)&&decide ([e].length+([]:List Keyword).length+(if ([]:List Keyword).isEmpty then 0 else 1) < 30))=true:=by rfl)
 (hline:(apos.endLine == cpos.line)=true:=by rfl) (hplain:(backTo cpos (starEach [] X.env)).any (·.1)=false:=by rfl) (hd:(n == ("__debug__" : Str))=false:=by decide) (hcd:(n == ("__classdict__" : Str))=false:=by decide) :
 JE X EX (.Call (.Attribute (.Name n p1) "extend" apos) [e] [] cpos) (cJ j jq [f]):=tX vA sP PySem.F.slot_list_extend PySem.F.type_list_extend hN hv (.cons h .nil hst) hbase hfew hline hst hplain hd hcd
theorem A4(j:Nat)(h:JE X EX e f)(hN:X.N[j]?=some n:=by rfl)(hv:Vis X.env.scope n:=by first | exact Or.inl rfl | exact Or.inr (Or.inl rfl) | exact Or.inr (Or.inr rfl))(hst:starEach [e] X.env=(false,eval e X.env)::starEach [] X.env:=by rfl)
 (hbase:attributeBase (.Name n p1) "pop" X.env (eval (.Name n p1) X.env)=eval (.Name n p1) X.env:=by rfl) (hfew:((backTo cpos (starEach [e] X.env)).all (fun x => !x.1)&&(backToKw cpos (keywordEach [] X.env)).all (fun x=>x.1.isSome)&&decide ([e].length+([]:List Keyword).length+(if ([]:List Keyword).isEmpty then 0 else 1) < 30))=true:=by rfl)
 (hline:(apos.endLine == cpos.line)=true:=by rfl) (hplain:(backTo cpos (starEach [] X.env)).any (·.1)=false:=by rfl) (hd:(n == ("__debug__" : Str))=false:=by decide) (hcd:(n == ("__classdict__" : Str))=false:=by decide) :
 JE X EX (.Call (.Attribute (.Name n p1) "pop" apos) [e] [] cpos) (cJ j lI [f]):=tX x9 xX PySem.F.slot_list_pop PySem.F.type_list_pop hN hv (.cons h .nil hst) hbase hfew hline hst hplain hd hcd
end
end L2
namespace L2
namespace Td
open PySem L2 PyProof.Rows
noncomputable def nb(j:Int):List (Int×Int)->List Int
 | []=>[]
 | t::r=>(if j=t.1 then [t.2] else if j=t.2 then [t.1] else [])++nb j r
end Td
end L2
namespace L2
open PySem
noncomputable def eE:SS:=(av (ci (bS gLt [.bor 1,.ex (sOp bJ [.bor 0])]) (bd (sOp gIx [.bor 0,.bor 1])) cU) (bd (sC (.int 0))))
noncomputable def bx:FS:=aA 2 2 none eE
noncomputable def kF:SS:=(av (aU 0 (sOp kq [.ex (sOp aH [.bor 0,.ex (sC (.int 7919))]),.ex (sC (.int 2147483647))])) (bd (sOp kq [.ex (sOp aH [.ex (sOp aH [.ex (sOp fN [.bor 0,.bor 0]),.ex (sOp fN [.ex (sC (.int 48271)),.bor 0])]),.ex (sC (.int 12345))]),.ex (sC (.int 2147483629))])))
noncomputable def dF:FS:=aA 1 1 none kF
noncomputable def iG:SS:=(av (aU 1 (sOp eQ [.bor 0,.ex (sOp dg [.ex (sC (.int 0)),.bor 0])])) (bd (cA [(bh 1),(sOp vO [.ex (sOp gGe [.bor 1,.ex (sOp yu [.ex (sC (.int 10)),.ex (sC (.int 18))])])]),(sOp kq [.bor 1,.ex (sC (.int 1000003))])])))
noncomputable def ce:FS:=aA 1 2 none iG
noncomputable def gH:SS:=(av (ci (bS gEq [.ex (sOp gIx [.bor 0,.ex (sC (.int 1))]),.ex (sC (.int 1))]) (av (aU 2 (sOp kq [.ex (sOp gIx [.bor 0,.ex (sC (.int 0))]),.bor 1])) (av (de ff 0 (sOp jK [.ex (sOp gIx [.bor 0,.ex (sC (.int 0))]),.bor 1]) (sC (.int 0))) (fY 2))) cU) (av (de ff 0 (ar none none dF [.ex (sOp aH [.ex (ar none none dF [.ex (sOp gIx [.bor 0,.ex (sC (.int 2))])]),.ex (sC (.int 7))])]) (sC (.int 2))) (bd (sOp kq [.ex (sOp jK [.ex (sOp gIx [.bor 0,.ex (sC (.int 2))]),.ex (sC (.int 64))]),.bor 1]))))
noncomputable def ai:FS:=aA 2 3 (some 0) gH
theorem pi{a b:Int}(h1 : -(2 ^ 64) < a)(h2:a < 2 ^ 64):kG a b=true:=by unfold kG;rw [CK ⟨h1,h2⟩];rfl
noncomputable def qJ(s:Int):Int:=(((s+7919) % 2147483647) * ((s+7919) % 2147483647)+48271 * ((s+7919) % 2147483647)+12345) % 2147483629
theorem yN(s:Int):dF [.int s]=some (.ok (.int (qJ s)) false,.non):=by
 have m1:kG ((s+7919) % 2147483647) ((s+7919) % 2147483647)=true:=pi (by omega) (by omega);have m2:kG 48271 ((s+7919) % 2147483647)=true:=pi (by omega) (by omega);unfold dF kF;simp only [aA,ini,jh,ioD,cU,av,aU,bd,nP,fY,df,ci,jw,vf,de,cJ,ar,sOp,bS,sC,bh,aP,cA,evA,CF,Eg,dW,lJ,dX,sIf,vg,sOr,cj,vc,fZ,sBl,bQ,cO,eG,cm,gp,cn,eR,bW,dJ,eU,bv,bT,cv,fX,gc,iW,cz,nv,nu,Tg.ge,CA,DO,CM,CS,Dv,Dw,Dl,Dx,List.replicate,Er,Nat.reduceSub,Nat.reduceAdd,Db,Option.isNone,if_true,reduceIte,decide_true,EA,Ea,EG,Es,EC,EB,El,Dr,reduceCtorEq,kq,aH,fN,Int.reduceLT,m1,m2];rfl
theorem iB{n i:Nat}(h:i < n):ixN n (i:Int)=some i:=by
 unfold ixN;rw [if_pos (by omega),if_pos (by omega)];rfl
theorem mO{α:Type}{l:List α}{i:Nat}{x:α}(h:l[i]?=some x):atI l (i:Int)=some x:=by
 unfold atI;rw [iB (Cv.mp h).1];exact h
section
variable{α:Type}{a b c d:α}{l:List α}
theorem Ce:atI (a::l) 0=some a:=mO (i:=0) rfl
theorem Cd:atI (a::b::l) 1=some b:=mO (i:=1) rfl
theorem atI_2:atI (a::b::c::l) 2=some c:=mO (i:=2) rfl
end
theorem fO{ds:List D}{i:Int}{d:D}(h:atI ds i=some d):gIx [.lst ds,.int i]=some (d,false):=by unfold gIx;simp only [h]
theorem yE{ds:List D}{i:Int}{d:D}(h:atI ds i=some d):gIx [.klst ds,.int i]=some (d,false):=by unfold gIx;simp only [h]
theorem uL{ds:List D}{i:Int}{d:D}(h:atI ds i=some d):gIx [.tup ds,.int i]=some (d,false):=by unfold gIx;simp only [h]
theorem eX(a b:Int):gEq [.int a,.int b]=some (.bl (decide (a=b)),false):=by
 unfold gEq;simp only [ae,Bool.and_self,if_true,eqD,nrm,eqN];rw [show (a == b)=decide (a=b) from rfl]
theorem du(a b:Int):gNe [.int a,.int b]=some (.bl (!decide (a=b)),false):=by
 unfold gNe;simp only [ae,Bool.and_self,if_true,eqD,nrm,eqN];rw [show (a == b)=decide (a=b) from rfl]
theorem pF{a b:Int}(h:0 < b):kq [.int a,.int b]=some (.int (a % b),false):=by unfold kq;simp only [h,decide_true,if_true]
theorem mE{a b:Int}(h:0 < b)(h2:b < 1073741824):jK [.int a,.int b]=some (.int (a / b),false):=by unfold jK;simp only [h,h2,and_self,decide_true,if_true]
theorem Bi:yu [.int 10,.int 18]=some (.int 1000000000000000000,false):=rfl
noncomputable def vp(a f s:Int):D:= .lst [.int a,.int f,.int s]
theorem Bn(c:Int):∃ a f s,ce [.int c]=some (.ok (vp a f s) true,.non):=by
 refine ⟨if 0 - c > c then 0 - c else c,if decide (1000000000000000000<=(if 0 - c > c then 0 - c else c)) then 1 else 0,(if 0 - c > c then 0 - c else c) % 1000003,?_⟩;unfold ce iG;simp only [aA,ini,jh,ioD,cU,av,aU,bd,nP,fY,df,ci,jw,vf,de,cJ,ar,sOp,bS,sC,bh,aP,cA,evA,CF,Eg,dW,lJ,dX,sIf,vg,sOr,cj,vc,fZ,sBl,bQ,cO,eG,cm,gp,cn,eR,bW,dJ,eU,bv,bT,cv,fX,gc,iW,cz,nv,nu,Tg.ge,CA,DO,CM,CS,Dv,Dw,Dl,Dx,List.replicate,Er,Nat.reduceSub,Nat.reduceAdd,Db,Option.isNone,if_true,reduceIte,decide_true,EA,Ea,EG,Es,EC,EB,El,Dr,reduceCtorEq,eQ,yB,dg,vO,gGe,Bi,kq,Int.reduceLT];rfl
theorem rf(ns:List Int)(k:Nat):∃ c:Int,bx [.klst (ns.map D.int),.int k]=some (.ok (.int c) false,.non):=by
 by_cases h:k < ns.length
 ·refine ⟨ns[k],?_⟩
  have e:atI (ns.map D.int) (k:Int)=some (.int ns[k]):=mO (by rw [CG,Ch h];rfl)
  have h':(k:Int) < ((ns.map D.int).length:Nat):=by rw [Ci];omega
  unfold bx eE;simp only [aA,ini,jh,ioD,cU,av,aU,bd,nP,fY,df,ci,jw,vf,de,cJ,ar,sOp,bS,sC,bh,aP,cA,evA,CF,Eg,dW,lJ,dX,sIf,vg,sOr,cj,vc,fZ,sBl,bQ,cO,eG,cm,gp,cn,eR,bW,dJ,eU,bv,bT,cv,fX,gc,iW,cz,nv,nu,Tg.ge,CA,DO,CM,CS,Dv,Dw,Dl,Dx,List.replicate,Er,Nat.reduceSub,Nat.reduceAdd,Db,Option.isNone,if_true,reduceIte,decide_true,EA,Ea,EG,Es,EC,EB,El,Dr,reduceCtorEq,bJ,gLt,yE e,h']
 ·refine ⟨0,?_⟩
  have h':¬ (k:Int) < ((ns.map D.int).length:Nat):=by rw [Ci];omega
  unfold bx eE;simp only [aA,ini,jh,ioD,cU,av,aU,bd,nP,fY,df,ci,jw,vf,de,cJ,ar,sOp,bS,sC,bh,aP,cA,evA,CF,Eg,dW,lJ,dX,sIf,vg,sOr,cj,vc,fZ,sBl,bQ,cO,eG,cm,gp,cn,eR,bW,dJ,eU,bv,bT,cv,fX,gc,iW,cz,nv,nu,Tg.ge,CA,DO,CM,CS,Dv,Dw,Dl,Dx,List.replicate,Er,Nat.reduceSub,Nat.reduceAdd,Db,Option.isNone,if_true,reduceIte,decide_true,EA,Ea,EG,Es,EC,EB,El,Dr,reduceCtorEq,bJ,gLt,h',decide_false]
theorem zv{a b c d:D}:ff (.lst [a,b,c]) (.int 0) d=some (.lst [d,b,c]):=rfl
theorem zu{a b c d:D}:ff (.lst [a,b,c]) (.int 2) d=some (.lst [a,b,d]):=rfl
theorem yO(a f s m:Int)(h:0 < m)(h2:m < 1073741824):∃ r a' f' s':Int,ai [vp a f s,.int m]=some (.ok (.int r) false,vp a' f' s')/\0<=r/\r < m:=by
 by_cases hf:f=1
 ·refine ⟨a % m,a / m,f,s,?_,Int.emod_nonneg _ (by omega),Int.emod_lt_of_pos _ h⟩
  unfold ai gH vp;simp only [aA,ini,jh,ioD,cU,av,aU,bd,nP,fY,df,ci,jw,vf,de,cJ,ar,sOp,bS,sC,bh,aP,cA,evA,CF,Eg,dW,lJ,dX,sIf,vg,sOr,cj,vc,fZ,sBl,bQ,cO,eG,cm,gp,cn,eR,bW,dJ,eU,bv,bT,cv,fX,gc,iW,cz,nv,nu,Tg.ge,CA,DO,CM,CS,Dv,Dw,Dl,Dx,List.replicate,Er,Nat.reduceSub,Nat.reduceAdd,Db,Option.isNone,if_true,reduceIte,decide_true,EA,Ea,EG,Es,EC,EB,El,Dr,reduceCtorEq,eX,fO Ce,fO Cd,pF h,mE h h2,zv,hf]
 ·refine ⟨qJ (qJ s+7) / 64 % m,a,f,qJ (qJ s+7),?_,Int.emod_nonneg _ (by omega),Int.emod_lt_of_pos _ h⟩
  unfold ai gH vp;simp only [aA,ini,jh,ioD,cU,av,aU,bd,nP,fY,df,ci,jw,vf,de,cJ,ar,sOp,bS,sC,bh,aP,cA,evA,CF,Eg,dW,lJ,dX,sIf,vg,sOr,cj,vc,fZ,sBl,bQ,cO,eG,cm,gp,cn,eR,bW,dJ,eU,bv,bT,cv,fX,gc,iW,cz,nv,nu,Tg.ge,CA,DO,CM,CS,Dv,Dw,Dl,Dx,List.replicate,Er,Nat.reduceSub,Nat.reduceAdd,Db,Option.isNone,if_true,reduceIte,decide_true,EA,Ea,EG,Es,EC,EB,El,Dr,reduceCtorEq,eX,fO Ce,fO Cd,fO atI_2,pF h,mE (show (0:Int) < 64 by decide) (by decide),aH,zu,hf,decide_false,yN]
theorem jW{T:Tg}{f:SS}(I:Nat->Rho->Prop):∀ (ds:List D) (k:Nat) (ρ:Rho),I k ρ->(∀ i d ρ,ds[i]?=some d->I (k+i) ρ->∃ ρ1 ρ2,bQ T d ρ=some ρ1/\f ρ1=some (.nx,ρ2)/\I (k+i+1) ρ2)->∃ ρ',aY T f ds ρ=some (.nx,ρ')/\I (k+ds.length) ρ'
 | [],k,ρ,h,_=>⟨ρ,rfl,h⟩
 | d::ds,k,ρ,h,hs=>by
  obtain ⟨ρ1,ρ2,e1,e2,h2⟩:=hs 0 d ρ rfl h
  obtain ⟨ρ',e3,h3⟩:=jW I ds (k+1) ρ2 h2 fun i d ρ e hi=>by
   have:=hs (i+1) d ρ (by simpa using e) (by rw [show k+(i+1)=k+1+i by omega];exact hi);rw [show k+(i+1)+1=k+1+i+1 by omega] at this;exact this
  refine ⟨ρ',?_,by rw [CA,show k+(ds.length+1)=k+1+ds.length by omega];exact h3⟩;unfold aY;simp only [e1,e2,e3]
end L2
namespace L2
open PySem PySem.Spec PyProof.Rows
section
variable{ρ ρ1 ρ2:Rho}{d c c' i:D}{ds:List D}{nw b:Bool}{f g:SE}{p q:ST}{s t:SS}{C:Str}
theorem wY{j:Nat}{x:Option (D×Md)}(h:f ρ=some (.ok d nw,ρ1))(hx:ρ1[j]?=some x)(hn:ρ1.set j (some (d,if nw then .ow else .fz))=ρ2):aU j f ρ=some (.nx,ρ2):=by subst hn;unfold aU;rw [h];show (match ρ1[j]? with | some _=>_ | none=>_)=_;rw [hx]
theorem r_ret(h:f ρ=some (.ok d nw,ρ1)):bd f ρ=some (.rt d nw,ρ1):=by unfold bd;rw [h]
theorem r_expr(h:f ρ=some (.ok d nw,ρ1)):df f ρ=some (.nx,ρ1):=by unfold df;rw [h]
theorem nW{r:Option (Out×Rho)}(h:s ρ=some (.nx,ρ1))(h2:t ρ1=r):av s t ρ=r:=by unfold av;rw [h];exact h2
theorem r_seqR(h:s ρ=some (.rt d nw,ρ1)):av s t ρ=some (.rt d nw,ρ1):=by unfold av;rw [h]
theorem r_seqX(h:s ρ=some (.ex C,ρ1)):av s t ρ=some (.ex C,ρ1):=by unfold av;rw [h]
theorem r_ifT{r:Option (Out×Rho)}(h:p ρ=some (.ok b,ρ1))(hb:b=true)(h2:s ρ1=r):ci p s t ρ=r:=by unfold ci;subst hb;rw [h];exact h2
theorem r_ifF{r:Option (Out×Rho)}(h:p ρ=some (.ok b,ρ1))(hb:b=false)(h2:t ρ1=r):ci p s t ρ=r:=by unfold ci;subst hb;rw [h];exact h2
theorem r_nil:cU ρ=some (.nx,ρ):=rfl
theorem r_asg{T:Tg}(h:f ρ=some (.ok d nw,ρ1))(h2:bQ T d ρ1=some ρ2):jw T f ρ=some (.nx,ρ2):=by unfold jw;rw [h];show (match bQ T d ρ1 with | some ρ2=>_ | none=>_)=_;rw [h2]
theorem Al{u:D->D->D->Option D}{j:Nat}{x:D×Md}{nw2:Bool}(h:f ρ=some (.ok d nw,ρ1))(h1:ρ1[j]?=some (some x))(h2:g ρ1=some (.ok i nw2,ρ2))(h3:ρ2[j]?=some (some (c,.ow)))(h4:u c i d=some c'){ρ3:Rho}(hn:ρ2.set j (some (c',.ow))=ρ3):de u j f g ρ=some (.nx,ρ3):=by subst hn;unfold de;simp only [h,h1,h2,h3,h4]
theorem r_for{it:SI}{T:Tg}{r:Option (Out×Rho)}(h:it ρ=some (.ok ds,ρ1))(h2:aY T s ds ρ1=r):eU it T s ρ=r:=by unfold eU;rw [h];exact h2
theorem Aj{j:Nat}{u:D->List D->Option (D×D)}{fs:List SE}{l:List D}(h0:ρ[j]?=some (some (.lst l,.ow)))(h1:evA (fs.map Arg.ex) ρ=some (.ok ds,ρ1))(h2:ρ1[j]?=some (some (c,.ow)))(h3:u c ds=some (c',d))(hn:ρ1.set j (some (c',.ow))=ρ2):cJ j u fs ρ=some (.ok d false,ρ2):=by subst hn;unfold cJ;simp only [h0,h1,h2,h3]
theorem su:evA [] ρ=some (.ok [],ρ):=rfl
theorem wZ{as:List Arg}(h:f ρ=some (.ok d nw,ρ1))(h2:evA as ρ1=some (.ok ds,ρ2)):evA (.ex f::as) ρ=some (.ok (d::ds),ρ2):=by unfold evA;simp only [h,h2]
theorem r_nilM:evA (List.map Arg.ex []) ρ=some (.ok [],ρ):=rfl
theorem r_exM{fs:List SE}(h:f ρ=some (.ok d nw,ρ1))(h2:evA (List.map Arg.ex fs) ρ1=some (.ok ds,ρ2)):evA (List.map Arg.ex (f::fs)) ρ=some (.ok (d::ds),ρ2):=wZ h h2
theorem o0{as:List Arg}{j:Nat}{x:D×Md}{m:Md}(h:ρ[j]?=some (some x))(h2:evA as ρ=some (.ok ds,ρ2))(h3:ρ2[j]?=some (some (d,m))):evA (.bor j::as) ρ=some (.ok (d::ds),ρ2):=by unfold evA;simp only [h,h2,h3]
theorem r_op{o:List D->Option (D×Bool)}{as:List Arg}(h:evA as ρ=some (.ok ds,ρ1))(h2:o ds=some (d,nw)):sOp o as ρ=some (.ok d nw,ρ1):=by unfold sOp;simp only [h,h2]
theorem r_opT{o:List D->Option (D×Bool)}{as:List Arg}(h:evA as ρ=some (.ok ds,ρ1))(h2:o ds=some (.bl b,nw)):bS o as ρ=some (.ok b,ρ1):=by unfold bS;rw [r_op h h2]
theorem r_tru{a:Arg}(h:evA [a] ρ=some (.ok [d],ρ1))(h2:lJ d=some b):dW a ρ=some (.ok b,ρ1):=by unfold dW;simp only [h,h2]
theorem r_not(h:p ρ=some (.ok b,ρ1)):dX p ρ=some (.ok (!b),ρ1):=by unfold dX;rw [h]
theorem r_orF{r:Option (zm×Rho)}(h:p ρ=some (.ok b,ρ1))(hb:b=false)(h2:q ρ1=r):sOr p q ρ=r:=by unfold sOr;subst hb;rw [h];exact h2
theorem r_orT(h:p ρ=some (.ok b,ρ1))(hb:b=true):sOr p q ρ=some (.ok true,ρ1):=by unfold sOr;subst hb;rw [h]
theorem r_c:sC d ρ=some (.ok d false,ρ):=rfl
theorem r_varF{j:Nat}(h:ρ[j]?=some (some (d,.fz))):bh j ρ=some (.ok d false,ρ):=by unfold bh;rw [h]
theorem r_varO{j:Nat}(h:ρ[j]?=some (some (d,.ow)))(hn:ρ.set j (some (d,.fz))=ρ1):bh j ρ=some (.ok d false,ρ1):=by subst hn;unfold bh;rw [h]
theorem r_retO{j:Nat}(h:ρ[j]?=some (some (d,.ow)))(hn:ρ.set j none=ρ1):fY j ρ=some (.rt d true,ρ1):=by subst hn;unfold fY;rw [h]
theorem r_tup{fs:List SE}(h:evA (fs.map Arg.ex) ρ=some (.ok ds,ρ1)):aP fs ρ=some (.ok (.tup ds) false,ρ1):=by unfold aP;rw [h]
theorem r_lst{fs:List SE}(h:evA (fs.map Arg.ex) ρ=some (.ok ds,ρ1)):cA fs ρ=some (.ok (.lst ds) true,ρ1):=by unfold cA;rw [h]
theorem r_seqI{l:List D}(h:f ρ=some (.ok d nw,ρ1))(h2:cz d=some l):bT f ρ=some (.ok l,ρ1):=by unfold bT;simp only [h,h2]
theorem r_enum{l:List D}(h:f ρ=some (.ok d nw,ρ1))(h2:cz d=some l):gc f ρ=some (.ok (hV 0 l),ρ1):=by unfold gc;simp only [h,h2]
theorem BQ{fs:List SE}{l l':List D}(h:evA (fs.map Arg.ex) ρ=some (.ok ds,ρ1))(h2:u8 ds=some (l,l'))(h3:l.length<=l'.length):iW fs ρ=some (.ok (iR l l'),ρ1):=by unfold iW;simp only [h,h2,h3,decide_true,if_true]
theorem r_rng1{x:Arg}{j:Int}(h:evA [x] ρ=some (.ok [.int j],ρ1))(o:okR 0 j=true):cv x ρ=some (.ok (gK 0 j.toNat),ρ1):=by
 unfold cv;rw [h];show (if okR 0 j=true then some (pW.ok (gK 0 j.toNat),ρ1) else none)=_;rw [if_pos o]
theorem r_rng2{x y:Arg}{j k:Int}(h:evA [x,y] ρ=some (.ok [.int j,.int k],ρ1))(o:okR j k=true):fX x y ρ=some (.ok (gK j (k - j).toNat),ρ1):=by
 unfold fX;rw [h];show (if okR j k=true then some (pW.ok (gK j (k - j).toNat),ρ1) else none)=_;rw [if_pos o]
theorem r_comp{k:Nat}{it:SI}{T:Tg}{e:Option ST}{ys:List D}(h1:it ρ=some (.ok ds,ρ1))(h2:Tg.ge ρ1.length T=true)(h3:cf k T e f ds ρ1=some (ys,ρ2)):bv k it T e f ρ=some (.ok (.lst ys) true,ρ2):=by
 unfold bv;rw [h1];show (if Tg.ge ρ1.length T=true then _ else none)=_;rw [if_pos h2,h3]
theorem r_call{as:List Arg}{run:FS}{x:D}(h:evA as ρ=some (.ok ds,ρ1))(h2:run ds=some (.ok d nw,x))(h3:(cm none 0 as ρ1||(gp d nw&&((none:Option Nat).isNone||cn x)))=true):ar none none run as ρ=some (.ok d nw,ρ1):=by
 unfold ar;simp only [h,h2];rw [if_pos h3];rfl
theorem uj{as:List Arg}{run:FS}{x:D}(h:evA as ρ=some (.ok ds,ρ1))(h2:run ds=some (.ex C,x))(h3:(cm none 0 as ρ1||((none:Option Nat).isNone||cn x))=true):ar none none run as ρ=some (.ex C,ρ1):=by
 unfold ar;simp only [h,h2];rw [if_pos h3];rfl
theorem qu{k j:Nat}{as:List Arg}{run:FS}{x:D}(h:evA as ρ=some (.ok ds,ρ1))(h2:run ds=some (.ok d nw,x))(h3:(cm (some k) 0 as ρ1||(gp d nw&&((some k).isNone||cn x)))=true)(h4:eG (some j) x ρ1=some ρ2):ar (some k) (some j) run as ρ=some (.ok d nw,ρ2):=by
 unfold ar;simp only [h,h2];rw [if_pos h3,h4]
theorem Ao{o o':List D->Option (D×Bool)}{f3:SE}{x y z:D}{b2:Bool}(h:evA [.ex f,.ex g] ρ=some (.ok [x,y],ρ1))(h1:o [x,y]=some (.bl b,false))(h2:f3 ρ1=some (.ok z nw,ρ1))(h3:o' [y,z]=some (.bl b2,false)):dJ o o' f g f3 ρ=some (.ok (.bl (b&&b2)) false,ρ1):=by
 unfold dJ;simp only [h,h1]
 cases b with
 | true=>simp only [h2,h3,EA]
 | false=>rfl
theorem Ap{r:Option (Res×Rho)}(h:f ρ=some (.ok (.bl b) nw,ρ1))(hb:b=true)(h2:g ρ1=r):cj f g ρ=r:=by unfold cj;subst hb;rw [h];exact h2
theorem Aq(h:f ρ=some (.ok (.bl b) nw,ρ1))(hb:b=false):cj f g ρ=some (.ok (.bl false) false,ρ1):=by unfold cj;subst hb;rw [h]
theorem r_andV{b2:Bool}(h:f ρ=some (.ok (.bl b) nw,ρ1))(h2:g ρ1=some (.ok (.bl b2) false,ρ1)):cj f g ρ=some (.ok (.bl (b&&b2)) false,ρ1):=by
 unfold cj;rw [h]
 cases b with
 | true=>exact h2
 | false=>rfl
theorem r_notV(h:f ρ=some (.ok (.bl b) nw,ρ1)):fZ f ρ=some (.ok (.bl (!b)) false,ρ1):=by unfold fZ;rw [h]
section
variable{np n:Nat}{body:SS}{io:Option Nat}{x:D}
theorem r_fn(hi:ini n io ds=ρ)(h:body ρ=some (.rt d nw,ρ1))(hx:ioD io ρ1=some x)(hl:ds.length=np):aA np n io body ds=some (.ok d nw,x):=by subst hi;unfold aA;rw [if_pos hl,h];show (match ioD io ρ1 with | some x=>_ | none=>_)=_;rw [hx]
theorem r_fnN(hi:ini n io ds=ρ)(h:body ρ=some (.nx,ρ1))(hx:ioD io ρ1=some x)(hl:ds.length=np):aA np n io body ds=some (.ok .non false,x):=by subst hi;unfold aA;rw [if_pos hl,h];show (match ioD io ρ1 with | some x=>_ | none=>_)=_;rw [hx]
theorem r_fnX(hi:ini n io ds=ρ)(h:body ρ=some (.ex C,ρ1))(hx:ioD io ρ1=some x)(hl:ds.length=np):aA np n io body ds=some (.ex C,x):=by subst hi;unfold aA;rw [if_pos hl,h];show (match ioD io ρ1 with | some x=>_ | none=>_)=_;rw [hx]
end
theorem Ai{nm:Str}:oU nm ρ=some (.ex nm,ρ):=rfl
end
theorem ip{α:Type}{k:Nat}{T:Tg}{f:SE}{ρ:Rho}{inj g:α->D}:∀ (xs:List α),(∀ x∈xs,∃ ρ1 ρ3 nw,bQ T (inj x) (ρ++List.replicate k none)=some ρ1/\f ρ1=some (.ok (g x) nw,ρ3)/\ρ3.take ρ.length=ρ)->cf k T none f (xs.map inj) ρ=some (xs.map g,ρ)
 | [],_=>rfl
 | x::xs,h=>by
  obtain ⟨ρ1,ρ3,nw,e1,e2,e3⟩:=h x Cs;rw [CF];unfold cf;simp only [e1,evC,e2,e3,ip xs fun d hd=>h d (Cn _ hd),CF]
theorem jL(bs:List Bool):nA [.lst (bs.map D.bl)]=some (.bl (bs.all id),false):=by unfold nA;simp only [wq]
theorem vJ(ns:List Int)(h:ns.length<=1000):pE [.tup (ns.map D.int)]=some (.set (dd ns),false):=by unfold pE;simp only [cI,h,decide_true,if_true]
theorem sZ(ns:List Int)(h:ns.length<=1000):pE [.lst (ns.map D.int)]=some (.set (dd ns),false):=by unfold pE;simp only [cI,h,decide_true,if_true]
theorem dd_len(ns:List Int):(dd ns).length<=ns.length:=by
 unfold dd
 have:∀ (l acc:List Int),(l.foldl step_dedup acc).length<=acc.length+l.length:=by
  intro l
  induction l with
  | nil=>intro acc;simp
  | cons x l ih =>
   intro acc
   have h1:(step_dedup acc x).length<=acc.length+1:=by
    unfold step_dedup
    split<;>simp
   have:=ih (step_dedup acc x);rw [EQ,CA];omega
 have:=this ns [];simpa using this
theorem qY(ns:List Int)(h:ns.length<=1000):bJ [.set (dd ns)]=some (.int (dd ns).length,false):=by
 have:=dd_len ns;unfold bJ;simp only [show (dd ns).length<=1000 by omega,decide_true,if_true]
theorem vM(ns:List Int)(h:ns≠[]):eQ [.tup (ns.map D.int)]=some (.int (dZ ns),false):=by
 unfold eQ
 cases ns with
 | nil=>exact absurd rfl h
 | cons n ns=>simp only [cI]
theorem vN(ns:List Int)(h:ns≠[]):eQ [.lst (ns.map D.int)]=some (.int (dZ ns),false):=by
 unfold eQ yB
 cases ns with
 | nil=>exact absurd rfl h
 | cons n ns=>simp only [cI]
theorem vL(ns:List Int)(h:ns≠[]):iH [.lst (ns.map D.int)]=some (.int (kf ns),false):=by
 unfold iH Bk
 cases ns with
 | nil=>exact absurd rfl h
 | cons n ns=>simp only [cI]
theorem rP{ns:List Int}{i:Int}(h0:0<=i)(h1:i < ns.length):atI (ns.map D.int) i=some (.int (ns.getD i.toNat 0)):=by
 obtain ⟨k,rfl⟩:∃ k:Nat,i=k:=⟨i.toNat,by omega⟩
 have hk:k < ns.length:=by omega
 refine mO ?_;rw [CG,Ch hk];simp [hk]
theorem cy{n:Nat}(h:n<=1000):small n=true:=by unfold small;exact CK (by omega)
theorem cut_lo{l:List D}{n:Nat}(h:n<=l.length):jN l none (some (n:Int))=l.take n:=by
 unfold jN;have e1:HT.sIx l.length 0 none=0:=rfl
 have e2:HT.sIx l.length l.length (some (n:Int))=n:=by
  unfold HT.sIx;simp;rw [if_neg (by omega)];omega
 rw [e1,e2,List.drop_zero,Nat.sub_zero]
theorem yY{l:List D}{n:Nat}(h:n<=l.length):jN l (some (n:Int)) none=l.drop n:=by
 unfold jN;have e1:HT.sIx l.length l.length none=l.length:=rfl
 have e2:HT.sIx l.length 0 (some (n:Int))=n:=by
  unfold HT.sIx;simp;rw [if_neg (by omega)];omega
 rw [e1,e2];apply List.take_of_length_le;rw [EJ];exact Cw _
theorem xS{lo hi:Int}(h1 : -1000000<=lo)(h2:lo<=1000000)(h3 : -1000000<=hi)(h4:hi<=1000000)(h5:hi - lo<=1000000):okR lo hi=true:=by
 unfold okR
 refine CK ⟨?_,?_,?_,?_,?_⟩<;>omega
theorem el_mk{k:Nat}{T:Tg}{f:SE}{ρ ρ1 ρ3:Rho}{d y y':D}{nw:Bool}(h1:bQ T d (ρ++List.replicate k none)=some ρ1)(h2:f ρ1=some (.ok y' nw,ρ3))(h3:ρ3.take ρ.length=ρ)(hy:y'=y):∃ ρ1 ρ3 nw,bQ T d (ρ++List.replicate k none)=some ρ1/\f ρ1=some (.ok y nw,ρ3)/\ρ3.take ρ.length=ρ:=⟨ρ1,ρ3,nw,h1,by rw [<- hy];exact h2,h3⟩
theorem lp_mk{T:Tg}{f:SS}{ρ ρ1 ρ2:Rho}{d:D}{I:Rho->Prop}(h1:bQ T d ρ=some ρ1)(h2:f ρ1=some (.nx,ρ2))(h3:I ρ2):∃ ρ1 ρ2,bQ T d ρ=some ρ1/\f ρ1=some (.nx,ρ2)/\I ρ2:=⟨ρ1,ρ2,h1,h2,h3⟩
end L2
namespace Srt
open PySem PySem.W PyProof.Rows
noncomputable def Tru{α:Type}(lt:Nat->Nat->Bool)(P:α->Prop):KasT α->Prop
 | .ret a=>P a
 | .ask i j k=>Tru lt P (k (lt i j))
theorem Tru.bind{α β:Type}{lt:Nat->Nat->Bool}{P:β->Prop}{f:α->KasT β}:∀ {t:KasT α},Tru lt (fun a=>Tru lt P (f a)) t->Tru lt P (t.bind f)
 | .ret _,h=>h
 | .ask i j k,h=>Tru.bind (t:=k (lt i j)) h
theorem Tru.mono{α:Type}{lt:Nat->Nat->Bool}{P P':α->Prop}(hp:∀ a,P a->P' a):∀ {t:KasT α},Tru lt P t->Tru lt P' t
 | .ret a,h=>hp a h
 | .ask i j k,h=>Tru.mono hp (t:=k (lt i j)) h
theorem both{α:Type}{n:Nat}{lt:Nat->Nat->Bool}{P P':α->Prop}{cmp:Nat->Nat->(Bool->Shared->Prop)->Shared->Prop}{Q:α->Shared->Prop}{s:Shared}
 (hc:∀ i j C,i < n->j < n->C (lt i j) s->cmp i j C s) (hq:∀ a,P a->P' a->Q a s):∀ {t:KasT α},All n P t->Tru lt P' t->t.kasWp cmp Q s
 | .ret a,h,g=>hq a h g
 | .ask i j k,⟨h1,h2,h3⟩,g=>hc i j _ h1 h2 (both hc hq (h3 _) g)
structure Ord(lt:Nat->Nat->Bool):Prop where
 asym:∀ a b,lt a b=true->lt b a=false
 trans:∀ a b c,lt b a=false->lt c b=false->lt c a=false
section
variable{lt:Nat->Nat->Bool}(O:Ord lt)
theorem Ord.refl(O:Ord lt)(a:Nat):lt a a=false:=by
 cases h:lt a a with
 | false=>rfl
 | true=>exact absurd (O.asym a a h) (by rw [h];decide)
abbrev Le(lt:Nat->Nat->Bool)(a b:Nat):Prop:=lt b a=false
abbrev at_(p:Array Nat)(i:Nat):Nat:=p.getD i 0
noncomputable def Asc(lt:Nat->Nat->Bool)(p:Array Nat)(m:Nat):Prop:=∀ i j,i<=j->j < m->Le lt (at_ p i) (at_ p j)
noncomputable def Des(lt:Nat->Nat->Bool)(p:Array Nat)(m:Nat):Prop:=∀ i j,i<=j->j < m->Le lt (at_ p j) (at_ p i)
noncomputable def Eqv(lt:Nat->Nat->Bool)(p:Array Nat)(a b:Nat):Prop:=∀ i j,a<=i->i < b->a<=j->j < b->Le lt (at_ p i) (at_ p j)
theorem pS{p:Array Nat}{i j:Nat}(hj:j<=p.size)(k:Nat):at_ (kas_rev p i j) k=if i<=k/\k < j then at_ p (i+j - 1 - k) else at_ p k:=by
 have h:=getElem?_mirror_all (xs:=p) (i:=i) hj k
 show (kas_rev p i j).getD k 0=_
 unfold kas_rev at_;rw [C8,h]
 split<;>rw [C8]
theorem at_bub{p:Array Nat}{k l:Nat}(hk:k < p.size)(hl:l<=k)(t:Nat):at_ (bubble p k (k - l)) t=if t=l then at_ p k else if l < t/\t<=k then at_ p (t - 1) else at_ p t:=by
 have h:=getElem?_bubble (xs:=p) hk (k - l) (by omega) t;rw [show k - (k - l)=l by omega] at h
 show (bubble p k (k - l)).getD t 0=_
 rw [C8,h]
 by_cases h1:t=l
 ·rw [if_pos h1,if_pos h1,<- C8]
 ·rw [if_neg h1,if_neg h1]
  by_cases h2:l < t/\t<=k
  ·rw [if_pos h2,if_pos h2,<- C8]
  ·rw [if_neg h2,if_neg h2,<- C8]
include O
theorem Asc.snoc{p:Array Nat}{n:Nat}(h:Asc lt p n)(h1:1<=n)(hn:Le lt (at_ p (n - 1)) (at_ p n)):Asc lt p (n+1):=fun i j hij hj=>by
 by_cases e:j=n
 ·subst e
  by_cases e2:i=j
  ·subst e2;exact O.refl _
  ·exact O.trans _ _ _ (h i (j - 1) (by omega) (by omega)) hn
 ·exact h i j hij (by omega)
theorem Des.snoc{p:Array Nat}{n:Nat}(h:Des lt p n)(h1:1<=n)(hn:Le lt (at_ p n) (at_ p (n - 1))):Des lt p (n+1):=fun i j hij hj=>by
 by_cases e:j=n
 ·subst e
  by_cases e2:i=j
  ·subst e2;exact O.refl _
  ·exact O.trans _ _ _ hn (h i (j - 1) (by omega) (by omega))
 ·exact h i j hij (by omega)
theorem tZ{p:Array Nat}:∀ f n,1<=n->Asc lt p n->Tru lt (fun m=>n<=m/\m<=n+f/\Asc lt p m/\(m=n+f\/lt (at_ p m) (at_ p (m - 1))=true)) (kas_asc p f n)
 | 0,n,h1,h=>⟨Cw _,Cw _,h,.inl rfl⟩
 | f+1,n,h1,h=>by
  show Tru lt _ (if lt (at_ p n) (at_ p (n - 1))=true then KasT.ret n else kas_asc p f (n+1))
  by_cases c:lt (at_ p n) (at_ p (n - 1))=true
  ·rw [if_pos c]
   exact ⟨Cw _,by omega,h,.inr c⟩
  ·rw [if_neg c]
   exact (tZ f (n+1) (by omega) (h.snoc O h1 (by simpa using c))).mono fun m ⟨a,b,c,d⟩=>⟨by omega,by omega,c,d.imp (fun z=>by omega) id⟩
theorem lG:∀ f (p:Array Nat) n q,1<=n->q+1<=n->n+f<=p.size->Des lt p n->Eqv lt p (n - (q+1)) n ->
 Tru lt (fun r=>n<=r.2.1/\r.2.1<=n+f/\r.2.2+1<=r.2.1/\r.1.size=p.size/\Des lt r.1 r.2.1/\Eqv lt r.1 (r.2.1 - (r.2.2+1)) r.2.1) (kas_desc f p n q)
 | 0,p,n,q,h1,hq,hs,hd,he=>⟨Cw _,Cw _,hq,rfl,hd,he⟩
 | f+1,p,n,q,h1,hq,hs,hd,he=>by
  have one:∀ (p':Array Nat),Eqv lt p' (n+1 - (0+1)) (n+1):=fun p' i j a b c d=>by
   have:i=j:=by omega
   subst this;exact O.refl _
  show Tru lt _ (if lt (at_ p n) (at_ p (n - 1))=true then (if q > 0 then kas_desc f (kas_rev p (n - (q+1)) n) (n+1) 0 else kas_desc f p (n+1) 0)
   else KasT.ask (at_ p (n - 1)) (at_ p n) fun d=>if d=true then .ret (p,n,q) else kas_desc f p (n+1) (q+1))
  by_cases c:lt (at_ p n) (at_ p (n - 1))=true
  ·rw [if_pos c]
   have hle:Le lt (at_ p n) (at_ p (n - 1)):=O.asym _ _ c
   by_cases q0:q > 0
   ·rw [if_pos q0]
    have hn:n<=p.size:=by omega
    have sz:(kas_rev p (n - (q+1)) n).size=p.size:=mirror_size _ _ _ _;have R:=pS (p:=p) (i:=n - (q+1)) hn
    have D:Des lt (kas_rev p (n - (q+1)) n) (n+1):=fun i j hij hj=>by
     rw [R i,R j]
     by_cases ej:j=n
     ·subst ej
      rw [if_neg (by omega:¬ (j - (q+1)<=j/\j < j))]
      split
      ·exact O.trans _ _ _ hle (hd _ (j - 1) (by omega) (by omega))
      ·by_cases ei:i=j
       ·subst ei;exact O.refl _
       ·exact O.trans _ _ _ hle (hd _ (j - 1) (by omega) (by omega))
     ·by_cases si:n - (q+1)<=i/\i < n
      ·rw [if_pos si,if_pos (by omega:n - (q+1)<=j/\j < n)]
       exact he _ _ (by omega) (by omega) (by omega) (by omega)
      ·rw [if_neg si]
       split
       ·exact hd _ _ (by omega) (by omega)
       ·exact hd _ _ hij (by omega)
    exact (lG f _ (n+1) 0 (by omega) (by omega) (by rw [sz];omega) D (one _)).mono fun r ⟨a,b,c,d,e,g⟩=>⟨by omega,by omega,c,d.trans sz,e,g⟩
   ·rw [if_neg q0]
    exact (lG f p (n+1) 0 (by omega) (by omega) (by omega) (hd.snoc O h1 hle) (one _)).mono fun r ⟨a,b,c,d,e,g⟩=>⟨by omega,by omega,c,d,e,g⟩
  ·rw [if_neg c]
   have c:lt (at_ p n) (at_ p (n - 1))=false:=by simpa using c
   show Tru lt _ (if lt (at_ p (n - 1)) (at_ p n)=true then KasT.ret (p,n,q) else kas_desc f p (n+1) (q+1))
   by_cases d:lt (at_ p (n - 1)) (at_ p n)=true
   ·rw [if_pos d]
    exact ⟨Cw _,EI _ _,hq,rfl,hd,he⟩
   ·rw [if_neg d]
    have d:lt (at_ p (n - 1)) (at_ p n)=false:=by simpa using d
    have E:Eqv lt p (n+1 - (q+1+1)) (n+1):=fun i j a b a2 b2=>by
     by_cases ei:i=n
     ·by_cases ej:j=n
      ·rw [ei,ej];exact O.refl _
      ·rw [ei]
       exact O.trans _ _ _ d (he (n - 1) j (by omega) (by omega) (by omega) (by omega))
     ·by_cases ej:j=n
      ·rw [ej]
       exact O.trans _ _ _ (he i (n - 1) (by omega) (by omega) (by omega) (by omega)) c
      ·exact he i j (by omega) (by omega) (by omega) (by omega)
    exact (lG f p (n+1) (q+1) (by omega) (by omega) (by omega) (hd.snoc O h1 d) E).mono fun r ⟨a,b,c,d,e,g⟩=>⟨by omega,by omega,c,d,e,g⟩
theorem qe{p:Array Nat}{n N:Nat}(h1:1<=n)(hn:n<=N)(hs:p.size=N)(hd:Des lt p n):Tru lt (fun r:Nat×Array Nat=>1<=r.1/\r.1<=N/\r.2.size=N/\Asc lt r.2 r.1) (kas_tail3 n N p):=by
 unfold kas_tail3;have sz:(kas_rev p 0 n).size=p.size:=mirror_size _ _ _ _;have R:=pS (p:=p) (i:=0) (j:=n) (by omega)
 have A:Asc lt (kas_rev p 0 n) n:=fun i j hij hj=>by
  rw [R i,R j,if_pos (by omega),if_pos (by omega)];exact hd _ _ (by omega) (by omega)
 exact ((tZ O (N - n) n h1 A).mono fun m ⟨a,b,c,_⟩=>(show 1<=m/\m<=N/\(kas_rev p 0 n).size=N/\Asc lt (kas_rev p 0 n) m from ⟨by omega,by omega,sz.trans hs,c⟩)).bind
theorem kN{p:Array Nat}{n N:Nat}(h1:1<=n)(hn:n+1<=N)(hs:p.size=N)(hd:Des lt p (n+1)):Tru lt (fun r:Nat×Array Nat=>1<=r.1/\r.1<=N/\r.2.size=N/\Asc lt r.2 r.1) (kas_descPart n N p):=by
 unfold kas_descPart
 refine ((lG O (N - (n+1)) p (n+1) 0 (by omega) (by omega) (by omega) hd (fun i j a b c d=>by
  have:i=j:=by omega
  subst this
  exact O.refl _)).mono fun r ⟨a,b,c,d,e,g⟩=> ?_).bind
 by_cases q:r.2.2 > 0
 ·rw [if_pos q]
  have hz:r.2.1<=r.1.size:=by omega
  have R:=pS (p:=r.1) (i:=r.2.1 - (r.2.2+1)) (j:=r.2.1) hz
  refine qe O (by omega) (by omega) ((mirror_size _ _ _ _).trans (d.trans hs)) fun i j hij hj=> ?_
  rw [R i,R j]
  by_cases si:r.2.1 - (r.2.2+1)<=i/\i < r.2.1
  ·rw [if_pos si,if_pos (by omega)]
   exact g _ _ (by omega) (by omega) (by omega) (by omega)
  ·rw [if_neg si]
   split
   ·exact e _ _ (by omega) (by omega)
   ·exact e _ _ hij hj
 ·rw [if_neg q]
  exact qe O (by omega) (by omega) (d.trans hs) e
theorem yZ{p:Array Nat}{N:Nat}(hN:1<=N)(hs:p.size=N):Tru lt (fun r:Nat×Array Nat=>1<=r.1/\r.1<=N/\r.2.size=N/\Asc lt r.2 r.1) (kas_count N p):=by
 unfold kas_count
 refine ((tZ O (p:=p) (N - 1) 1 (Cw _) (fun i j a b=>by
  have:i=j:=by omega
  subst this
  exact O.refl _)).mono fun n ⟨a,b,c,d⟩=> ?_).bind
 by_cases e:(n == N)=true
 ·rw [if_pos e]
  exact ⟨a,by omega,hs,c⟩
 ·rw [if_neg e]
  have ne:n≠N:=by simpa using e
  have hl:lt (at_ p n) (at_ p (n - 1))=true:=d.resolve_left (by omega)
  by_cases n1:n > 1
  ·rw [if_pos n1]
   show Tru lt _ (if lt (at_ p 0) (at_ p (n - 1))=true then _ else _)
   by_cases z:lt (at_ p 0) (at_ p (n - 1))=true
   ·rw [if_pos z]
    exact ⟨a,by omega,hs,c⟩
   ·rw [if_neg z]
    have z:lt (at_ p 0) (at_ p (n - 1))=false:=by simpa using z
    have R:=pS (p:=p) (i:=0) (j:=n) (by omega)
    have ev:∀ i j,i < n->j < n->Le lt (at_ p i) (at_ p j):=fun i j hi hj =>
     O.trans _ _ _ (c i (n - 1) (by omega) (by omega)) (O.trans _ _ _ z (c 0 j (by omega) hj))
    refine kN O (by omega) (by omega) ((mirror_size _ _ _ _).trans hs) fun i j hij hj=> ?_
    rw [R i,R j]
    by_cases ej:j=n
    ·subst ej
     rw [if_neg (by omega:¬ (0<=j/\j < j))]
     split
     ·exact O.trans _ _ _ (O.asym _ _ hl) (ev _ _ (by omega) (by omega))
     ·have:i=j:=by omega
      subst this;exact O.refl _
    ·rw [if_pos (by omega:0<=i/\i < n),if_pos (by omega:0<=j/\j < n)]
     exact ev _ _ (by omega) (by omega)
  ·rw [if_neg n1]
   have:n=1:=by omega
   subst this
   refine kN O (by omega) (by omega) hs fun i j hij hj=> ?_
   by_cases e:i=j
   ·subst e;exact O.refl _
   ·have hi:i=0:=by omega
    have hj:j=1:=by omega
    subst hi hj;exact O.asym _ _ hl
theorem lZ{p:Array Nat}{k:Nat}(h:Asc lt p k):∀ f l r,l<=r->r<=k->r<=l+f->(∀ i,i < l->Le lt (at_ p i) (at_ p k))->(∀ i,r<=i->i < k->Le lt (at_ p k) (at_ p i)) ->
 Tru lt (fun m=>m<=k/\(∀ i,i < m->Le lt (at_ p i) (at_ p k))/\∀ i,m<=i->i < k->Le lt (at_ p k) (at_ p i)) (kas_place p k f l r)
 | 0,l,r,h1,h2,h3,h4,h5=>⟨by omega,h4,fun i a b=>h5 i (by omega) b⟩
 | f+1,l,r,h1,h2,h3,h4,h5=>by
  unfold kas_place
  by_cases g:l>=r
  ·rw [if_pos g]
   exact ⟨by omega,h4,fun i a b=>h5 i (by omega) b⟩
  ·rw [if_neg g]
   show Tru lt _ (if lt (at_ p k) (at_ p ((l+r) / 2))=true then _ else _)
   by_cases c:lt (at_ p k) (at_ p ((l+r) / 2))=true
   ·rw [if_pos c]
    exact lZ h f l ((l+r) / 2) (by omega) (by omega) (by omega) h4 fun i a b=>O.trans _ _ _ (O.asym _ _ c) (h _ i a b)
   ·rw [if_neg c]
    have c:lt (at_ p k) (at_ p ((l+r) / 2))=false:=by simpa using c
    exact lZ h f ((l+r) / 2+1) r (by omega) h2 (by omega) (fun i a=>O.trans _ _ _ (h i _ (by omega) (by omega)) c) h5
theorem zi{N:Nat}:∀ f (p:Array Nat) k,1<=k->k+f=N->p.size=N->Asc lt p k->Tru lt (fun r:Array Nat=>r.size=N/\Asc lt r N) (kas_bin f p k)
 | 0,p,k,h1,h2,hs,h=>⟨hs,by rw [<- h2];exact h⟩
 | f+1,p,k,h1,h2,hs,h=>by
  unfold kas_bin;refine ((lZ O h k 0 k (by omega) (Cw _) (by omega) (fun i z=>by omega) (fun i a b=>by omega)).mono fun l ⟨a,b,c⟩=> ?_).bind;have B:=at_bub (p:=p) (k:=k) (l:=l) (by omega) a
  refine zi f _ (k+1) (by omega) (by omega) ((bubble_size _ _ _).trans hs) fun i j hij hj=> ?_
  rw [B i,B j]
  by_cases ei:i=l
  ·rw [if_pos ei]
   by_cases ej:j=l
   ·rw [if_pos ej];exact O.refl _
   ·rw [if_neg ej,if_pos (by omega)]
    exact c _ (by omega) (by omega)
  ·rw [if_neg ei]
   by_cases ej:j=l
   ·rw [if_pos ej,if_neg (by omega)]
    exact b i (by omega)
   ·rw [if_neg ej]
    split
    ·rw [if_pos (by omega)]
     exact h _ _ (by omega) (by omega)
    ·split
     ·exact h _ _ (by omega) (by omega)
     ·exact h _ _ hij (by omega)
theorem zW{n:Nat}(h:1<=n):Tru lt (fun r:Array Nat=>r.size=n/\Asc lt r n) (kas_sort n):=by
 unfold kas_sort;refine ((yZ O h (by simp)).mono fun r ⟨a,b,c,d⟩=> ?_).bind
 by_cases e:r.1 < n
 ·rw [if_pos e,show max r.1 1=r.1 by omega]
  exact zi O _ _ _ a (by omega) c d
 ·rw [if_neg e]
  have:r.1=n:=by omega
  exact ⟨c,by rw [<- this];exact d⟩
end
end Srt
namespace Srt
open PySem PySem.W PyProof.Rows
noncomputable def dB:List Int->List Int->Bool
 | [],[]=>false
 | [],_::_=>true
 | _::_,[]=>false
 | a::as,b::bs=>if a=b then dB as bs else decide (a < b)
theorem je:∀ a b:List Int,dB a b=true->dB b a=false
 | [],[],h=>by cases h
 | [],_::_,_=>rfl
 | _::_,[],h=>by cases h
 | a::as,b::bs,h=>by
  unfold dB at h ⊢
  by_cases e:a=b
  ·rw [if_pos e] at h
   rw [if_pos e.symm];exact je as bs h
  ·rw [if_neg e] at h
   rw [if_neg (Ne.symm e)];have:=Cz h;exact CL (by omega)
theorem mo:∀ a b:List Int,dB a b=false->dB b a=false->a=b
 | [],[],_,_=>rfl
 | [],_::_,h,_=>by cases h
 | _::_,[],_,h=>by cases h
 | a::as,b::bs,h,g=>by
  unfold dB at h g
  by_cases e:a=b
  ·rw [if_pos e] at h
   rw [if_pos e.symm] at g;rw [e,mo as bs h g]
  ·rw [if_neg e] at h
   rw [if_neg (Ne.symm e)] at g;have h:=Eu h;have g:=Eu g;omega
theorem gX:∀ a b c:List Int,dB b a=false->dB c b=false->dB c a=false
 | [],_,[],_,_=>rfl
 | [],[],_::_,_,_=>rfl
 | [],_::_,_::_,_,_=>rfl
 | _::_,[],_,h,_=>by cases h
 | _::_,_::_,[],_,h=>by cases h
 | a::as,b::bs,c::cs,h,g=>by
  unfold dB at h g ⊢
  by_cases e1:b=a
  ·rw [if_pos e1] at h
   by_cases e2:c=b
   ·rw [if_pos e2] at g
    rw [if_pos (e2.trans e1)];exact gX as bs cs h g
   ·rw [if_neg e2] at g
    have g:=Eu g;rw [if_neg (fun z=>e2 (z.trans e1.symm))];exact CL (by omega)
  ·rw [if_neg e1] at h
   have h:=Eu h
   by_cases e2:c=b
   ·rw [if_neg (fun z=>e1 (e2.symm.trans z))]
    exact CL (by omega)
   ·rw [if_neg e2] at g
    have g:=Eu g;rw [if_neg (by omega)];exact CL (by omega)
noncomputable def vD(x:List Int):List (List Int)->List (List Int)
 | []=>[x]
 | y::l=>if dB y x=true then y::vD x l else x::y::l
noncomputable def gW:List (List Int)->List (List Int)
 | []=>[]
 | x::l=>vD x (gW l)
theorem ki(x:List Int):∀ l,(vD x l).Perm (x::l)
 | []=> .refl _
 | y::l=>by
  unfold vD
  split
  ·exact ((ki x l).cons y).trans (.swap _ _ _)
  ·exact .refl _
theorem di:∀ l,(gW l).Perm l
 | []=> .refl _
 | x::l=>(ki x _).trans ((di l).cons x)
abbrev LeL(a b:List Int):Prop:=dB b a=false
theorem kH(x:List Int):∀ l:List (List Int),l.Pairwise LeL->(vD x l).Pairwise LeL
 | [],_=>List.pairwise_singleton _ _
 | y::l,h=>by
  have hc:=C9.mp h;unfold vD
  split
  ·rename_i hl
   refine C9.mpr ⟨fun z hz=> ?_,kH x l hc.2⟩
   rcases Cr.mp ((ki x l).mem_iff.mp hz) with rfl | hz
   ·exact je _ _ hl
   ·exact hc.1 z hz
  ·rename_i hl
   have hl:dB y x=false:=by simpa using hl
   refine C9.mpr ⟨fun z hz=> ?_,h⟩
   rcases Cr.mp hz with rfl | hz
   ·exact hl
   ·exact gX _ _ _ hl (hc.1 z hz)
theorem fH:∀ l,(gW l).Pairwise LeL
 | []=> .nil
 | x::l=>kH x _ (fH l)
theorem bZ:∀ {a b:List (List Int)},a.Pairwise LeL->b.Pairwise LeL->a.Perm b->a=b
 | [],b,_,_,p=>by rw [p.nil_eq]
 | x::a,[],_,_,p=>absurd p.symm.nil_eq (by simp)
 | x::a,y::b,ha,hb,p=>by
  have ha':=C9.mp ha;have hb':=C9.mp hb
  have exy:x=y:=by
   have hx:x∈y::b:=p.mem_iff.mp Cs;have hy:y∈x::a:=p.mem_iff.mpr Cs
   rcases Cr.mp hx with e | hx
   ·exact e
   ·rcases Cr.mp hy with e | hy
    ·exact e.symm
    ·exact mo _ _ (hb'.1 x hx) (ha'.1 y hy)
  subst exy;rw [bZ ha'.2 hb'.2 (List.Perm.cons_inv p)]
theorem lexE{prog:Program}{w:World}{A:Around}{fin:Bool}{C:Bool->Shared->Prop}{s:Shared}:∀ {vs ws:List Value} {ns ms:List Int} (i:Nat),IntsAre vs ns->IntsAre ws ms->fin=decide (ns.length < ms.length)->C (dB ns ms) s->KatLex prog w A true fin C (vs.zip ws) i s
 | [],[],_,_,i,.nil,.nil,hf,hC=>kat_nil (by subst hf;exact hC)
 | [],_::_,_,_,i,.nil,.cons _ _ _,hf,hC=>kat_nil (by subst hf;rw [CK (by simp)];exact hC)
 | _::_,[],_,_,i,.cons _ _ _,.nil,hf,hC=>kat_nil (by subst hf;rw [CL (by simp)];exact hC)
 | _::vs,_::ws,_::ns,_::ms,i,.cons a t h1,.cons c u h2,hf,hC=>by
  rw [Ey];refine kat_cons ?_;obtain ⟨e,he,h3⟩:=HT.yP A s a t c u;refine he prog w _ _ ?_;unfold dB at hC
  cases e with
  | true =>
   rw [if_pos (h3.mp rfl)] at hC;exact kat_yes (lexE (i+1) h1 h2 (by rw [hf];simp) hC)
  | false =>
   rw [if_neg (fun z=>by cases h3.mpr z)] at hC;refine kat_no ?_
   cases i with
   | zero=>exact oneLt_int hC
   | succ i=>exact kat_one _ _ (lt_int hC)
section
variable{prog:Program}{w:World}{A:Around}{E:Value->Shared->Prop}{s:Shared}
noncomputable def iO(h:Heap)(vs:List Value)(ks:List (List Int)):Prop:=vs.length=ks.length/\∀ (i:Nat) (hi:i < vs.length),∃ a items,vs[i] = .ref a/\IsTup h a items/\IntsAre items.toList (ks.getD i [])/\ks.getD i []≠[]
theorem iO.tups{h:Heap}{vs:List Value}{ks:List (List Int)}(t:iO h vs ks):Tups h vs:=fun v hv=>by
 obtain ⟨i,hi,rfl⟩:=DS.mp hv;obtain ⟨a,items,h1,h2,h3,h4⟩:=t.2 i hi;exact ⟨a,items,_,h1,h2,h3,h4⟩
theorem iO.keep{h h':Heap}{vs:List Value}{ks:List (List Int)}(t:iO h vs ks)(k:∀ b o,h.get? b=some o->o.cls = .type "tuple" -> h'.get? b=some o):iO h' vs ks:=⟨t.1,fun i hi=>by
 obtain ⟨a,items,e,⟨o,h1,h2,n,h3⟩,i,ne⟩:=t.2 i hi
 exact ⟨a,items,e,⟨o,k a o h1 h2,h2,n,h3⟩,i,ne⟩⟩
abbrev klt(ks:List (List Int))(i j:Nat):Bool:=dB (ks.getD i []) (ks.getD j [])
theorem Ba(ks:List (List Int)):Ord (klt ks):=⟨fun _ _ h=>je _ _ h,fun _ _ _ h g=>gX _ _ _ h g⟩
theorem asc_pw{lt:Nat->Nat->Bool}{p:Array Nat}(h:Asc lt p p.size):p.toList.Pairwise (Le lt):=by
 rw [Ej];intro i j hi hj hij;have:=h i j (DX hij) (by simpa using hj);unfold Le at_ at this
 have gi:i < p.size:=by simpa using hi
 have gj:j < p.size:=by simpa using hj
 rw [C8,C8,DR gi,DR gj] at this;simpa using this
end
end Srt
namespace Srt
open PySem PySem.W PyProof.Rows
section
variable{prog:Program}{w:World}{A:Around}{E:Value->Shared->Prop}{s:Shared}
theorem _root_.L2.IntsAre_len{vs:List Value}{ns:List Int}(h:IntsAre vs ns):vs.length=ns.length:=by
 induction h with
 | nil=>rfl
 | cons _ _ _ ih=>rw [CA,CA,ih]
theorem BD{a:Addr}{vs:List Value}{ks:List (List Int)}{n:Nat}{P:PySem.Fin->Shared->Prop}(ho:s.heap.get? a=some (seqObj "list" vs.toArray n))(ht:iO s.heap vs ks)(h64:vs.length < 64)
 (h:∀ p:List Nat,p.Perm (List.range vs.length)->p.Pairwise (Le (klt ks))->P (.done (.ret .none)) { s with heap:=sortedHeap s.heap a vs (p.map fun i=>vs.getD i Value.none).toArray }):wpAny (model prog w) A (Builtin.«list.sort» ⟨[.ref a],[]⟩) P E s:=by
 rw [list_sort_plain];have ha:a < s.heap.objs.size:=Cu ho;refine Cg (listItems_at ho rfl (Cg (listUpdate_at ho rfl ?_)));obtain ⟨e1,o1⟩:∃ e1,(s.heap.update a (Obj.mapSeq fun _ => #[])).get? a=some (seqObj "list" #[] e1):=⟨_,get?_update_seq ho (fun _ => #[])⟩;refine Cg (seqEpoch_at o1 rfl (Cg (wpAny_newTuple (Cg (EK ?_)))));refine DC ?_;have o6:(((s.heap.update a (Obj.mapSeq fun _ => #[])).push (seqObj "tuple" vs.toArray 0)).push (seqObj "list" #[] 0)).get? a=some (seqObj "list" #[] e1):=Cj _ (Cj _ o1)
 show wpAny (model prog w) A _ P E { s with heap:=((s.heap.update a (Obj.mapSeq fun _ => #[])).push (seqObj "tuple" vs.toArray 0)).push (seqObj "list" #[] 0) }
 dsimp only
 have hsz:vs.toArray.size=vs.length:=by simp
 have t6:iO (((s.heap.update a (Obj.mapSeq fun _ => #[])).push (seqObj "tuple" vs.toArray 0)).push (seqObj "list" #[] 0)) vs ks:=ht.keep fun b o e c=>by
  refine Cj _ (Cj _ ((Ed _ _ ?_).trans e));rintro rfl;rw [ho] at e;cases e;exact absurd c (by simp [seqObj])
 by_cases h2:vs.toArray.size < 2
 ·rw [if_pos h2,if_pos h2]
  refine Cg (wpAny_pure ?_);rw [StateT.run_pure];refine Cg (wpAny_pure ?_);dsimp only;refine Cg (seqEpoch_at o6 rfl (Cg (listUpdate_at o6 rfl ?_ (hsz2:=by rw [Array.size_map];show (pairsOf vs).size<=_;rw [pairsOf_size,sizeLine_eq];omega))));simp only [bne_self_eq_false,DG,if_false];refine wpAny_pure ?_
  have e:((vs.toArray.zip vs.toArray).map (·.2))=vs.toArray:=by
   apply Array.toList_inj.mp;rw [Array.toList_map,Array.toList_zip];exact List.map_snd_zip (Cw _)
  have q:=h (List.range vs.length) (List.Perm.refl _) (Ej.mpr fun i j hi hj hij=>by
   rw [DM] at hi hj
   omega)
  rw [show ((List.range vs.length).map fun i=>vs.getD i Value.none)=vs by
   apply DI
   ·simp
   ·intro i h1 h2
    simp [h2]] at q
  rw [<- e] at q;exact q
 ·rw [if_neg h2,if_neg h2]
  have h2':2<=vs.length:=by omega
  obtain ⟨fs,f1,f2,f3⟩:=yL (M:=model prog w) t6.tups;refine Cg (kat_kind (T:= .type "int") f2 (by omega) f3 (by decide) ?_);rw [show ((Value.type "int" != Value.type "tuple")=true) from by decide]
  refine Cg (Dy (kat_run (Q:=fun st' s'=>∃ p:Array Nat,(dG vs.length p/\p.size=vs.length/\Asc (klt ks) p vs.length)/\arrOf st'=p.map (kas_item (vs.toArray.zip vs.toArray))/\failedOf st'=none/\s'=_) (G:=fun p s'=>(dG vs.length p/\p.size=vs.length/\Asc (klt ks) p vs.length)/\s'=_) (ks:=vs) rfl h2' h64
   (fun p st' s' _ a2 a3 a4=>⟨p,a4.1,a2,a3,a4.2⟩) (both (lt:=klt ks) (P:=dG vs.length) (P':=fun p:Array Nat=>p.size=vs.length/\Asc (klt ks) p vs.length) (fun i j C hi hj hC=> ?_) (fun p hp hp2=>⟨⟨hp,hp2⟩,rfl⟩) (sort (by omega)) (zW (Ba ks) (by omega)))) ?_ fun _ _ x=>x)
  ·show wpAny (model prog w) A (keyLt' (tuples' true) (vs.getD i Value.none) (vs.getD j Value.none)) C (fun _ _=>False) _
   have gi:vs.getD i Value.none=vs[i]:=by simp [hi]
   have gj:vs.getD j Value.none=vs[j]:=by simp [hj]
   rw [gi,gj];obtain ⟨x,xs,ex,⟨ox,x1,x2,nx,x3⟩,ix,_⟩:=t6.2 i hi;obtain ⟨y,ys,ey,⟨oy,y1,y2,ny,y3⟩,iy,_⟩:=t6.2 j hj;rw [ex,ey];refine kat_lt x1 x3 y1 y3 (lexE 0 ix iy ?_ hC);rw [<- Da,<- Da,L2.IntsAre_len ix,L2.IntsAre_len iy]
  ·rintro ⟨⟨⟩,st'⟩ s' ⟨p,⟨hp,hpz,hpa⟩,har,hf,rfl⟩
   dsimp only;have hout:=kat_snds (vs:=vs) (ks:=vs) rfl har
   have hperm:(p.toList.map fun i=>vs.getD i Value.none).Perm vs:=by
    have e:=hp.2.map fun i=>vs.getD i Value.none
    refine e.trans (ES ?_);apply DI
    ·simp
    ·intro i h1 h2
     simp [h2]
   rw [hout];refine Cg (seqEpoch_at o6 rfl (Cg (listUpdate_at o6 rfl ?_ (hsz2:=by rw [Cm,hperm.length_eq,sizeLine_eq];omega))));rw [hf];simp only [bne_self_eq_false,DG,if_false];exact wpAny_pure (h p.toList hp.2 (asc_pw (by rw [hpz];exact hpa)))
theorem zV{l:Addr}{vs:List Value}{ks:List (List Int)}{Q:Value->Shared->Prop}(hl:s.heap.IsList l vs.toArray)(ht:iO s.heap vs ks)(h64:vs.length < 64)
 (h:∀ p:List Nat,p.Perm (List.range vs.length)->p.Pairwise (Le (klt ks))->Q (.ref (s.heap.objs.size+1)) { s with heap:=sortedAll s.heap vs (p.map fun i=>vs.getD i Value.none).toArray }):wpAny (model prog w) A (call (.builtin "sorted") [.ref l]) Q E s:=by
 refine Calls.call_function_entry kind_sorted plain_sorted entry_sorted (args_sorted1 _) ?_;unfold Builtin.«sorted»;refine Cg (m:=checkCount "sorted" 1 1 _) (wpAny_pure ?_);refine Cg (collect_list hl (Cg (EK ?_)))
 have hsz:((s.heap.push (seqObj "list" #[] 0)).update s.heap.objs.size (Obj.mapSeq (·++ vs.toArray))).objs.size=s.heap.objs.size+1:=by
  rw [Heap.size_update,size_push']
 have oL:(((s.heap.push (seqObj "list" #[] 0)).update s.heap.objs.size (Obj.mapSeq (·++ vs.toArray))).push (seqObj "list" vs.toArray 0)).get? (s.heap.objs.size+1)=some (seqObj "list" vs.toArray 0):=by
  rw [<- hsz];exact Ct _ rfl
 show wpAny _ _ _ _ _ { s with heap:=((s.heap.push (seqObj "list" #[] 0)).update s.heap.objs.size (Obj.mapSeq (·++ vs.toArray))).push (seqObj "list" vs.toArray 0) }
 rw [hsz]
 have tL:iO (((s.heap.push (seqObj "list" #[] 0)).update s.heap.objs.size (Obj.mapSeq (·++ vs.toArray))).push (seqObj "list" vs.toArray 0)) vs ks:=ht.keep fun b o e _ =>
  Cj _ ((Ed _ _ (Ne.symm (CJ (Cu e)))).trans (Cj _ e))
 refine Cg (DC (C6 slot_list_sort ⟨_,oL,rfl⟩ entry_list_sort (BD oL tL h64 fun p hp hs=>⟨_,rfl,?_⟩) (args_list_sort _)));exact wpAny_pure ⟨_,rfl,h p hp hs⟩
end
end Srt
namespace L2
open PySem PySem.Spec PyProof.Rows
section
variable{X:Cx}
noncomputable def jX(K:E2):List V->Hp->VK->Prop:=fun xs H Q=>∃ (p:Addr) (bs:List V) (ks:List (List Int)),xs=[V.ref p]/\SqL K H p bs/\bs.length < 64/\bs.length=ks.length/\(∀ (i:Nat) (k:List Int),ks[i]?=some k->∃ a:Addr,bs[i]?=some (.ref a)/\SqT K H a (k.map V.int)/\k≠[]) /\
 ∀ l (q:List Nat),H l=none->q.Perm (List.range bs.length)->q.map (fun i=>ks.getD i [])=Srt.gW ks->Q (.ref l) (upd H l (.lst (q.map fun i=>bs.getD i .non)))
theorem pQ:aF X (.builtin "sorted") (jX X.K):=by
 intro pins s σ H xs us Q I r h;obtain ⟨p,bs,ks,rfl,hq,h64,hlk,ht,q⟩:=h;obtain ⟨u,rfl,ru⟩:=cg r;cases ru;obtain ⟨its,rv,pl,hz⟩:=I.list hq;have hlen:=rv.length
 have isref:∀ b∈bs,∃ a,b = .ref a:=fun b hb=>by
  obtain ⟨i,hi,rfl⟩:=DS.mp hb;obtain ⟨a,e,_⟩:=ht i _ (Ch (by omega));rw [Ch hi] at e;exact ⟨a,Option.some.inj e⟩
 obtain ⟨eb,refs⟩:=nV rv isref
 refine Srt.zV (ks:=ks) pl.isList ⟨by omega,fun i hi=> ?_⟩ (by omega) fun p hp hs=> ?_
 ·obtain ⟨a,e,hS,ne⟩:=ht i _ (Ch (by omega))
  have hv:its[i] = .ref a:=by
   obtain ⟨b,hb⟩:=refs its[i] (CT hi)
   have:(its.map qr)[i]?=some (.ref a):=by rw [<- eb];exact e
   rw [CG,Ch hi,hb] at this;rw [hb];have:=Option.some.inj this;cases this;rfl
  obtain ⟨items,ri,pt,_⟩:=I.tuple hS
  have hk:ks.getD i []=ks[i]'(by omega):=by simp [Ck,Ch (show i < ks.length by omega)]
  rw [hk];exact ⟨a,items.toArray,hv,pt,dj ri,ne⟩
 ·have hf:H (s.heap.objs.size+1)=none:=I.hok.fresh (Nat.le_succ _)
  have perm:(p.map fun i=>its.getD i Value.none).Perm its:=by
   refine (hp.map _).trans (ES ?_);apply DI
   ·simp
   ·intro i h1 h2
    simp [h2]
  have ro:∀ u∈(p.map fun i=>its.getD i Value.none),∃ b,u = .ref b:=fun u hu=>refs u (perm.mem_iff.mp hu)
  have eo:(p.map fun i=>its.getD i Value.none).map qr=p.map fun i=>bs.getD i .non:=by
   rw [Dd];apply C1;intro i hi
   have hi':i < its.length:=by
    have:=hp.mem_iff.mp hi;simpa using this
   show qr (its.getD i Value.none)=_
   rw [eb];simp [Ck,hi']
  have es:p.map (fun i=>ks.getD i [])=Srt.gW ks:=by
   refine Srt.bZ ?_ (Srt.fH ks) (((hp.map _).trans (ES ?_)).trans (Srt.di ks).symm)
   ·rw [List.pairwise_map]
    exact hs.imp fun h=>h
   ·rw [hlen.symm.trans hlk]
    apply DI
    ·simp
    ·intro i h1 h2
     simp [h2]
  obtain ⟨e,he⟩:=sortedAll_at s.heap its (p.map fun i=>its.getD i Value.none).toArray;refine ⟨.ref (s.heap.objs.size+1),upd H (s.heap.objs.size+1) (.lst (p.map fun i=>bs.getD i .non)),I.laid (t':=s.toks) (fun b o=>sortedAll_old) (Nat.le_succ _) ⟨?_,_,e,by rw [<- eo];exact jV ro,he⟩,rfl,q _ p hf (by rw [hlen];exact hp) es⟩;rw [Ci,hp.length_eq,DM,<- hlen];exact hz
end
noncomputable def zy:D->Option (List Int)
 | .tup ds=>match bj ds with
  | some (n::ns)=>some (n::ns)
  | _=>none
 | _=>none
noncomputable def kD:List D->Option (List (List Int))
 | []=>some []
 | d::ds=>match zy d,kD ds with
  | some k,some ks=>some (k::ks)
  | _,_=>none
abbrev oM(k:List Int):D:= .tup (k.map D.int)
theorem zx{d:D}{k:List Int}(h:zy d=some k):d=oM k/\k≠[]:=by
 unfold zy at h
 split at h
 ·rename_i ds
  split at h
  ·rename_i n ns e
   cases h;exact ⟨by rw [cb e],by simp⟩
  ·cases h
 ·cases h
theorem qa:∀ {ds:List D} {ks:List (List Int)},kD ds=some ks->ds=ks.map oM/\∀ k∈ks,k≠[]
 | [],_,h=>by cases h;exact ⟨rfl,fun k hk=>by cases hk⟩
 | d::ds,ks,h=>by
  unfold kD at h
  split at h
  ·rename_i k ks' h1 h2
   cases h;obtain ⟨e1,n1⟩:=zx h1;obtain ⟨e2,n2⟩:=qa h2;exact ⟨by rw [e1,e2];rfl,fun k hk=>(Cr.mp hk).elim (fun e=>e ▸ n1) (n2 k)⟩
  ·cases h
noncomputable def mD:List D->Option (D×Bool)
 | [.lst ds]=>match kD ds with
  | some ks=>if decide (ks.length < 64)=true then some (.lst ((Srt.gW ks).map oM),true) else none
  | none=>none
 | _=>none
theorem nU{K:E2}{H:Hp}{ds:List D}{xs:List V}(h:ag K H ds xs):∀ (q:List Nat),(∀ i∈q,i < ds.length)->ag K H (q.map fun i=>ds.getD i .non) (q.map fun i=>xs.getD i .non)
 | [],_=>trivial
 | i::q,hq=>by
  have hi:=hq i Cs;obtain ⟨x,hx,r⟩:=h.get (Ch hi);refine ⟨?_,nU h q fun j hj=>hq j (Cn _ hj)⟩
  show ay K H (ds.getD i .non) (xs.getD i .non)
  rw [Ck,Ck,hx,Ch hi];exact r
theorem xG{K:E2}:OpS K (jX K) mD:=by
 intro vs ds H L Q d nw hm r e q;unfold mD at e
 split at e
 ·rename_i es
  obtain ⟨x,rfl,⟨p,xs,rfl,h1,h2⟩⟩:=aQ r
  cases ek:kD es with
  | none=>rw [ek] at e;cases e
  | some ks =>
   rw [ek] at e;simp only at e
   split at e
   ·rename_i hk
    cases e;have hk:=Cz hk;obtain ⟨ee,hne⟩:=qa ek
    have hl:ks.length=xs.length:=by rw [<- h2.len,ee,Ci]
    refine ⟨p,xs,ks,rfl,.inl (.inl h1),by omega,hl.symm,fun i k hi=> ?_,fun l p' hl' hp hs=>q _ _ (aa.upd hl') (cD ?_ hl')⟩
    ·obtain ⟨v,hv,a,ys,rfl,g1,g2⟩:=h2.get (i:=i) (d:=oM k) (by rw [ee,CG,hi];rfl)
     exact ⟨a,hv,.inl (.inl (by rw [(am g1).2,bI g2])),hne k (CB hi)⟩
    ·have:=nU h2 p' fun i hi=>by
      have:=hp.mem_iff.mp hi;rw [Dq,<- h2.len] at this;exact this
     rw [<- hs,Dd]
     have e2:(p'.map fun i=>es.getD i .non)=p'.map (oM ∘ fun i=>ks.getD i []):=by
      apply C1;intro i hi
      have hi':i < ks.length:=by
       have:=hp.mem_iff.mp hi;rw [Dq] at this;omega
      rw [ee];simp [Ck,hi']
     rw [<- e2];exact this
   ·cases e
 ·cases e
noncomputable def ji(ds:List D):Option (D×Bool):=match fK ds with
 | some r=>some r
 | none=>mD ds
theorem xI{K:E2}:OpS K (fun xs H Q=>(ja K xs H Q\/iZ K xs H Q)\/jX K xs H Q) ji:=by
 intro vs ds H L Q d nw hm r e q;unfold ji at e
 cases es:fK ds with
 | some z =>
  rw [es] at e;cases e;exact .inl (vq vs ds H L Q d nw hm r es q)
 | none =>
  rw [es] at e;exact .inr (xG vs ds H L Q d nw hm r e q)
theorem tP{X:Cx}:aF X (.builtin "sorted") (fun xs H Q=>(ja X.K xs H Q\/iZ X.K xs H Q)\/jX X.K xs H Q):=pR.or pQ
section
variable{X:Cx}{EX:EXT}{e:Expr}{es:List Expr}{pos p:Pos}{as:List Arg}
end
noncomputable def sf(nms:List Str)(i:Nat)(f g:SS):SS:=fun ρ=>match f ρ with
 | some (.ex C,ρ1)=>if nms.elem C=true then match ρ1[i]? with
  | some _=>match g (ρ1.set i (some (.exc C,.fz))) with
   | some (.nx,ρ2)=>some (.nx,ρ2.set i none)
   | some (.bk,ρ2)=>some (.bk,ρ2.set i none)
   | some (.ct,ρ2)=>some (.ct,ρ2.set i none)
   | some (.rt d nw,ρ2)=>some (.rt d nw,ρ2)
   | some (.ex _,_)=>none
   | none=>none
  | none=>none
  else none
 | r=>r
section
variable{K:E2}{F:Fx}{EX:EXT}{σ:St}{H:Hp}{ρ:Rho}{W:List Addr}
theorem Rel.drop(R:Rel K F σ H ρ W)(i:Nat):Rel K F (σ.set i none) H (ρ.set i none) W:=by
 refine ⟨fun j e m hj=> ?_,fun j k e f m n p h1 h2 h3 h4 h5 h6=> ?_,R.wz,R.mt,by rw [C3,C3];exact R.len⟩
 ·rcases be hj with ⟨_,e1⟩ | ⟨ne,e1⟩
  ·cases e1
  ·obtain ⟨v',g1,g2⟩:=R.slot j e m e1
   exact ⟨v',by rw [CP (Ne.symm ne)];exact g1,g2⟩
 ·rcases be h1 with ⟨_,z⟩ | ⟨n1,z⟩
  ·cases z
  ·rcases be h3 with ⟨_,z'⟩ | ⟨n2,z'⟩
   ·cases z'
   ·rw [CP (Ne.symm n1)] at h5
    rw [CP (Ne.symm n2)] at h6;exact R.apart j k _ _ _ _ _ z h2 z' h4 h5 h6
end
theorem s_try{X:Cx}{EX:EXT}{body:List Stmt}{b0:Stmt}{suite:List Stmt}{n x:Str}{i:Nat}{Dc:Addr}{np hpos pos:Pos}{f g:SS}{nms:List Str}
 (hst:X.stack=X.env::X.outer) (hfr:X.env.frame=some X.env.locals)
 (hb:∀ pn (EX':EXT),JSs (qc X pn fun c σ H=>∃ nm C,c = .ref C/\h9 X.K nm C/\EX' nm σ H) EX' body f)
 (hs:∀ pn ea,JSs (iS X pn ea) EXn (b0::suite) g)
 (hN:X.N.Nodup) (hi:X.N[i]?=some n) (hlo:X.env.scope.names.lookup n=some .local) (hg:Gl X x) (hD:Hdl X.K X.mg x Dc)
 (hsub:∀ nm,nms.elem nm=true->∀ C,h9 X.K nm C->PySem.W.subIn X.K (.ref C) (.ref Dc)=some true) (hdb:(x == ("__debug__" : Str))=false:=by decide) :
 JS X EX (.Try body [.ExceptHandler (some (.Name x np)) (some n) (b0::suite) hpos] [] [] pos) (sf nms i f g):=by
 refine ⟨(ps_try (ts:=tVS X.K EXn g) (tb:=fun W D σ H=>∃ EX':EXT,(W=fun c σ H=>∃ nm C,c = .ref C/\h9 X.K nm C/\EX' nm σ H)/\tVS X.K EX' f D σ H) hst hfr (fun pn W=> ?_) (fun pn ea=>(hs pn ea).p) hN hi hlo hg hD hdb).by fun D σ H ⟨F,ρ,W0,R,h⟩=> ?_⟩
 ·intro pins s σ H D I hw
  obtain ⟨EX',rfl,hw⟩:=hw;exact (hb pn EX').p pins s σ H D I hw
 ·let D':mW:={ nx:=fun σ'' H''=>D.nx (σ''.set i none) H'',rt:=D.rt,bk:=fun σ'' H''=>D.bk (σ''.set i none) H'',ct:=fun σ'' H''=>D.ct (σ''.set i none) H'' }
  let EX':EXT:=fun nm σ' H'=>nms.elem nm=true/\∀ C ea,h9 X.K nm C->H' ea=none->tVS X.K EXn g D' (σ'.set i (some (.ref ea))) (upd H' ea (mG ea C))
  refine ⟨_,⟨EX',rfl,F,ρ,W0,R,?_⟩,?_⟩
  ·unfold sf at h
   revert h
   cases f ρ with
   | none=>exact fun h=>h
   | some q =>
    obtain ⟨q,ρ1⟩:=q
    cases q with
    | nx=>exact fun h=>h
    | bk=>exact fun h=>h
    | ct=>exact fun h=>h
    | rt d nw=>exact fun h=>h
    | ex nm =>
     intro h;simp only at h
     by_cases he:nms.elem nm=true
     ·rw [if_pos he] at h
      cases hρ:ρ1[i]? with
      | none=>rw [hρ] at h;exact h.elim
      | some z =>
       rw [hρ] at h;simp only at h;intro σ1 H1 W1 fr sub R1;refine ⟨he,fun C ea hC hea=> ?_⟩
       have hlt:i < σ1.length:=by rw [R1.len];exact (Cv.mp hρ).1
       have R2:=(R1.same (aa.upd hea (o:=mG ea C))).put (d:= .exc nm) (v:= .ref ea) hlt ⟨ea,C,rfl,hC,(aJ (R1.fresh hea)).trans af⟩;have fr2:Fr W0 H (upd H1 ea (mG ea C)):=fr.trans (W1:=[]) (aa.fr (aa.upd hea)) (fun p hp=>by cases hp);have h:=OkS.go h fr2 (W1:=W1) sub;refine ⟨F,_,W1,R2,?_⟩
       revert h
       cases g (ρ1.set i (some (.exc nm,.fz))) with
       | none=>exact fun h=>h
       | some q =>
        obtain ⟨q,ρ2⟩:=q
        cases q with
        | nx=>exact fun h σ3 H3 W3 f3 s3 R3=>h _ H3 W3 f3 s3 (R3.drop i)
        | bk=>exact fun h σ3 H3 W3 f3 s3 R3=>h _ H3 W3 f3 s3 (R3.drop i)
        | ct=>exact fun h σ3 H3 W3 f3 s3 R3=>h _ H3 W3 f3 s3 (R3.drop i)
        | rt d nw=>exact fun h=>h
        | ex _=>exact fun h=>h.elim
     ·rw [if_neg he] at h
      exact h.elim
  ·rintro cls σ' H' ⟨nm,C,rfl,hC,he,hh⟩
   exact ⟨C,rfl,hsub nm he C hC,fun ea hea=>hh C ea hC hea⟩
end L2
namespace L2
theorem oS{X:Cx}{EX:EXT}{s:PySem.Stmt}:JS X EX s (fun _=>none):=⟨fun pins s σ H D I ⟨_,_,_,_,h⟩=>h.elim⟩
namespace Kd
open PySem L2 PyProof.Rows
noncomputable def wB:List Str:=["web", "place", "kind", "share", "square", "number", "text", "row", "great"]
noncomputable def fG(j:Nat):List V:=(List.range 9).map fun i=>V.bl (decide (i=j))
structure t8(K:E2)(mg:Str->Option Value)(C:Addr)(j:Nat):Prop where
 exk:XK.rV K C
 lt:j < 9
 ve:PySem.W.kitOne K (.ref C) (.type "ValueError")=some true
 k0:∃ c,mg "NoWeb" = some (.ref c)/\PySem.W.kitOne K (.ref C) (.ref c)=some (decide (0=j))
 k1:∃ c,mg "NoPlace" = some (.ref c)/\PySem.W.kitOne K (.ref C) (.ref c)=some (decide (1=j))
 k2:∃ c,mg "NoKind" = some (.ref c)/\PySem.W.kitOne K (.ref C) (.ref c)=some (decide (2=j))
 k3:∃ c,mg "NoShare" = some (.ref c)/\PySem.W.kitOne K (.ref C) (.ref c)=some (decide (3=j))
 k4:∃ c,mg "NoSquare" = some (.ref c)/\PySem.W.kitOne K (.ref C) (.ref c)=some (decide (4=j))
 k5:∃ c,mg "NoNumber" = some (.ref c)/\PySem.W.kitOne K (.ref C) (.ref c)=some (decide (5=j))
 k6:∃ c,mg "NoText" = some (.ref c)/\PySem.W.kitOne K (.ref C) (.ref c)=some (decide (6=j))
 k7:∃ c,mg "NoRow" = some (.ref c)/\PySem.W.kitOne K (.ref C) (.ref c)=some (decide (7=j))
 k8:∃ c,mg "TooGreat" = some (.ref c)/\PySem.W.kitOne K (.ref C) (.ref c)=some (decide (8=j))
theorem yg{K:E2}{C:Addr}:PySem.W.kitOne K (.ref C) (.ref C)=some true:=by unfold PySem.W.kitOne;rw [if_pos (by simp)]
theorem cN{K:E2}{C D:Addr}{cd:ClassData}{b:Bool}(ne:C≠D)(h1:PySem.W.clsIn K D=some cd)(h2:PySem.W.typeIn K (.ref D)=some (.type "type"))(h3:PySem.W.subIn K (.ref C) (.ref D)=some b):PySem.W.kitOne K (.ref C) (.ref D)=some b:=by
 unfold PySem.W.kitOne;rw [if_neg (by simpa using ne)];unfold PySem.W.kitCls;dsimp only;rw [h1,h2];simpa using h3
theorem kit_ve{K:E2}{C:Addr}(h3:PySem.W.subIn K (.ref C) (.type "ValueError")=some true):PySem.W.kitOne K (.ref C) (.type "ValueError")=some true:=by
 unfold PySem.W.kitOne;rw [if_neg (by simp)];unfold PySem.W.kitCls;dsimp only;rw [if_pos (by decide +kernel)];exact h3
theorem mn:∀ j,(fG j).all gf=true:=fun j=>rfl
theorem vC:∀ j,j < 9->((fG j).countP fun z=>eqV z (.bl true))=1:=by decide
theorem yb:∀ j,j < 9->∃ h:j < (fG j).length,eqV (fG j)[j] (.bl true)=true:=by decide
theorem ya:∀ j,j < 9->∀ m,(hm:m < (fG j).length)->m < j->eqV (fG j)[m] (.bl true)=false:=by decide
theorem wA{j:Nat}(h:j < 9):atI [V.str "web",.str "place",.str "kind",.str "share",.str "square",.str "number",.str "text",.str "row",.str "great"] (j:Nat)=some (.str (wB.getD j "")):=by
 have:j=0\/j=1\/j=2\/j=3\/j=4\/j=5\/j=6\/j=7\/j=8:=by omega
 rcases this with rfl | rfl | rfl | rfl | rfl | rfl | rfl | rfl | rfl<;>rfl
noncomputable def r8(K:E2)(mg:Str->Option Value):Sp:=fun vs H Q _=>∃ ea C j,vs=[.ref ea]/\H ea=some (mG ea C)/\t8 K mg C j/\∀ H',aa H H'->Q (.str (wB.getD j "")) H'
section
variable{X:Cx}{e:Expr}{te:TE}{pos p1 p2:Pos}
theorem isx(mi:X.mg "isinstance" = none){x:Str}{c:Addr}(hm:X.mg x=some (.ref c))(he:PE X e te)(g1:Gl X "isinstance")(g2:Gl X x)(hd:(x == ("__debug__" : Str))=false:=by decide)(hs:starEach [e,.Name x p1] X.env=(false,eval e X.env)::starEach [.Name x p1] X.env:=by rfl) :
 PE X (.Call (.Name "isinstance" p2) [e,.Name x p1] [] pos) (tCB (rIsx X.K) (bb te (bb (tC (.ref c)) fC))) :=
 dA rJ g1 mi boot_isinstance (ad he (ad (AF (v:= .ref c) g2 hm rfl hd) aR) hs) (he:=hs)
theorem isxV(mi:X.mg "isinstance" = none)(mv:X.mg "ValueError" = none)(he:PE X e te)(g1:Gl X "isinstance")(g2:Gl X "ValueError")(hs:starEach [e,.Name "ValueError" p1] X.env=(false,eval e X.env)::starEach [.Name "ValueError" p1] X.env:=by rfl) :
 PE X (.Call (.Name "isinstance" p2) [e,.Name "ValueError" p1] [] pos) (tCB (rIsx X.K) (bb te (bb (tC (.ty "ValueError")) fC))) :=
 dA rJ g1 mi boot_isinstance (ad he (ad (uy g2 mv PyProof.Rows.Boot.«ValueError» rfl) aR) hs) (he:=hs)
end
noncomputable def names:List Str:=["NoWeb", "NoPlace", "NoKind", "NoShare", "NoSquare", "NoNumber", "NoText", "NoRow", "TooGreat"]
noncomputable def uC(nms:List Str)(C:Str):Option Str:=if nms.elem C=true then match names.findIdx? (·== C) with
 | some j=>some (wB.getD j "")
 | none=>none else none
noncomputable def qk(nms:List Str)(i:Nat):SE:=fun ρ=>match ρ[i]? with
 | some (some (.exc C,.fz))=>match uC nms C with
  | some w=>some (.ok (.str w) false,ρ)
  | none=>none
 | _=>none
structure zo(K:E2)(mg:Str->Option Value)(nms:List Str):Prop where
 is:∀ nm,nms.elem nm=true->∀ j,names.findIdx? (·== nm)=some j->∀ C,h9 K nm C->t8 K mg C j
theorem c_kind{X:Cx}{EX:EXT}{nms:List Str}{i k:Nat}{n:Str}{p q pos:Pos}(G:OkA X.prog X.w X.K X.mg X.base "_law_kind_of" ["e"] k (r8 X.K X.mg))(kn:zo X.K X.mg nms)(hr:eY k X.A)(hg:Gl X "_law_kind_of")(hN:X.N[i]?=some n:=by rfl)(hv:Vis X.env.scope n:=by first | exact Or.inl rfl | exact Or.inr (Or.inl rfl) | exact Or.inr (Or.inr rfl))
 (hd:(n == ("__debug__" : Str))=false:=by decide) (hcd:(n == ("__classdict__" : Str))=false:=by decide) (he:starEach [.Name n q] X.env=(false,eval (.Name n q) X.env)::starEach [] X.env:=by rfl) (hpl:(backTo pos (starEach [] X.env)).any (·.1)=false:=by rfl) :
 JE X EX (.Call (.Name "_law_kind_of" p) [.Name n q] [] pos) (qk nms i):=by
 refine ⟨(xD G hr hg (ad (gP hN hv hd hcd) aR he) (he:=he) (hpl:=hpl)).by fun σ H Q ⟨F,ρ,W,R,h⟩=> ?_⟩;unfold qk at h
 revert h
 cases e0:ρ[i]? with
 | none=>exact fun h=>h.elim
 | some z =>
  cases z with
  | none=>exact fun h=>h.elim
  | some z =>
   obtain ⟨d,m⟩:=z
   cases d<;>cases m<;>try exact fun h=>h.elim
   rename_i C;intro h;simp only at h
   cases ew:uC nms C with
   | none=>rw [ew] at h;exact h.elim
   | some w =>
    rw [ew] at h;obtain ⟨v,hv',p',A,rfl,hC,hp⟩:=R.slot i _ _ e0;unfold uC at ew
    split at ew
    ·rename_i hel
     split at ew
     ·rename_i j hj
      cases ew;refine ⟨_,hv',p',A,j,rfl,(am hp).2,kn.is C hel j hj A hC,fun H' s=> ?_⟩;exact h _ H' W s.fr (fun _ z=>z) ⟨rfl,R.same s⟩
     ·cases ew
    ·cases ew
end Kd
end L2
namespace L2
open PySem PySem.Spec PyProof.Rows
noncomputable def Bc:Key->D
 | .inl i=> .int i
 | .inr x=> .str x
theorem yh{K:E2}{H:Hp}:∀ (k:Key),ay K H (Bc k) (kV k)
 | .inl _=>rfl
 | .inr _=>rfl
theorem of{K:E2}{H:Hp}:∀ (k:List Key),ag K H (k.map Bc) (k.map kV)
 | []=>trivial
 | k::ks=>⟨yh k,of ks⟩
noncomputable def bn(ds:List D):Option (D×Bool):=match ds with
 | [.dT ks _]=>some (.lst (ks.map fun k=> .tup (k.map Bc)),true)
 | ds=>yC ds
noncomputable def xf:List V->Hp->VK->Prop:=fun xs H Q=>∃ a kvs,xs=[V.ref a]/\H a=some (.dT kvs) /\
 ∀ l bs,H l=none->(kvs.map (·.1)).Nodup->bs.length=kvs.length->(∀ (i:Nat) k v,kvs[i]?=some (k,v)->∃ b,bs[i]?=some (V.ref b)/\H b=some (.tup (k.map kV)))->Q (.ref l) (upd H l (.lst bs))
theorem oZ{K:E2}{H:Hp}:∀ {ds:List D} {xs:List V},ds.length=xs.length->(∀ (i:Nat) (d:D),ds[i]?=some d->∃ x,xs[i]?=some x/\ay K H d x)->ag K H ds xs
 | [],[],_,_=>trivial
 | d::ds,x::xs,hl,h=>by
  obtain ⟨y,e,r⟩:=h 0 d rfl;cases e
  exact ⟨r,oZ (by simpa using hl) fun i d' hd=>by
   obtain ⟨y,e,r⟩:=h (i+1) d' (by simpa using hd)
   exact ⟨y,by simpa using e,r⟩⟩
 | [],_::_,hl,_=>by simp at hl
 | _::_,[],hl,_=>by simp at hl
theorem xL{K:E2}:OpS K (fun xs H Q=>(lA K xs H Q\/lT xs H Q)\/xf xs H Q) bn:=by
 intro vs ds H L Q d nw hm r e q;unfold bn at e
 split at e
 ·rename_i ks es
  cases e;obtain ⟨x,rfl,⟨p,xs,rfl,h1,hl,h2⟩⟩:=aQ r;refine .inr ⟨p,_,rfl,h1,fun l bs hf _ hb hk=>q _ _ (aa.upd hf) (cD (oZ ?_ fun i d hd=> ?_) hf)⟩
  ·rw [Ci,hb,DN,hl,Ef]
  ·rw [CG] at hd
   obtain ⟨k,hk1,rfl⟩:=De.mp hd
   have hi:i < xs.length:=by rw [<- hl];exact (Cv.mp hk1).1
   obtain ⟨b,e1,e2⟩:=hk i k xs[i] (by rw [Ek];exact ⟨hk1,Ch hi⟩);refine ⟨_,e1,b,_,rfl,?_,of k⟩;rw [aJ fun z=>by have:=hm b z;rw [e2] at this;exact this];exact e2
 ·exact .inl (AL vs ds H L Q d nw hm r e q)
theorem rG{X:Cx}(hc:X.calm=true):aF X (.type "list") (fun xs H Q=>(lA X.K xs H Q\/lT xs H Q)\/xf xs H Q):=(tW hc).or (tS hc)
section
variable{X:Cx}{EX:EXT}{e:Expr}{es:List Expr}{pos p:Pos}{as:List Arg}
theorem iE(he:starEach (e::es) X.env=(false,eval e X.env)::starEach es X.env:=by rfl)(hpl:(backTo pos (starEach es X.env)).any (·.1)=false:=by rfl)(m:X.mg "list" = none)(ha:JA X EX (e::es) as)(hg:Gl X "list" := by rfl)(hc:X.calm=true:=by rfl):JE X EX (.Call (.Name "list" p) (e::es) [] pos) (sOp bn as):=ic (rG hc) xL hg m PyProof.Rows.boot_list ha (by decide) (by decide) he hpl
end
end L2
namespace St2
open PySem PySem.Spec PyProof.Rows
section
variable{prog:Program}{w:World}{A:Around}{E:Value->Shared->Prop}{s:Shared}
theorem rC{T:String}{d:Addr}{n:Nat}{P:Nat->Value->Prop}{OK:Heap->Prop}{Q:List Value->Shared->Prop}(K:PySem.W.KdlSrc prog w T d d n P OK)(hh:A.handled=none)(hd:OK s.heap)(hz:n<=sizeLine)
 (h:∀ h' tk (acc:Array Value) c,(∀ b o,s.heap.get? b=some o->h'.get? b=some o)->h'.get? s.heap.objs.size=some { cls:= .type "list",dict:=none,data:= .seq acc c,slots := #[] }->ItemsOf P acc n->Q acc.toList { s with heap:=h',toks:=tk }) :
 wpAny (model prog w) A (collect (.ref d)) Q E s:=by
 unfold collect;refine Cg (EW (codeAny_builtin F.entry_proto_collect ?_));unfold Builtin.«proto.collect»
 show wpAny _ _ (newList [] >>= _) _ _ _
 refine Cg (EK ?_ (by simp));refine wpAny_pure ⟨Code.quiet_builtin _ (by decide +kernel),codeAny_builtin F.entry_list_iadd ?_⟩;have hn:(s.heap.push { cls:=Value.type "list",data:=Data.seq #[] }).get? s.heap.objs.size=some { cls:=Value.type "list",data:=Data.seq #[] }:=Ct _ rfl
 show wpAny _ _ (Builtin.List.listExtendWith (.ref s.heap.objs.size) (.ref d) (.ref s.heap.objs.size)) _ _ _
 have nd:s.heap.objs.size≠d:=DW (K.there _ hd).1
 have key:=PySem.W.kdl_extend (A:=A) (s:={ s with heap:=s.heap.push { cls:=Value.type "list",data:=Data.seq #[] } }) (R:=fun r s'=>∃ h' tk acc c,r = .ok (.ret (.ref s.heap.objs.size))/\s'={ s with heap:=h',toks:=tk }/\(∀ b o,s.heap.get? b=some o->h'.get? b=some o)/\h'.get? s.heap.objs.size=some { cls:= .type "list",dict:=none,data:= .seq acc c,slots := #[] }/\ItemsOf P acc n)
  K hh (K.keep _ _ hd fun b _ o e=>Cj _ e) _ nd nd (.ref s.heap.objs.size) 0 hn (fun h' tk acc c keep hS items=>⟨h',tk,acc,c,rfl,rfl,fun b o e=>keep b o (CJ (Cu e)) (Cj _ e),hS,items⟩) hz
 refine Dy key (fun f s' hf=> ?_) (fun e s' he=> ?_)
 ·cases f with
  | done f =>
   obtain ⟨h',tk,acc,c,e1,rfl,keep,hS,items⟩:=hf;cases e1
   show wpAny _ _ (load s.heap.objs.size >>= _) _ _ _
   refine Cg (wpAny_load hS ?_)
   show wpAny _ _ (pure acc.toList) _ _ _
   exact wpAny_pure (h h' tk acc c keep hS items)
  | again c' =>
   refine ⟨hf.1,codeAny_mono hf.2 fun r s' z=> ?_⟩;obtain ⟨h',tk,acc,c,e1,rfl,keep,hS,items⟩:=z;cases e1
   show wpAny _ _ (load s.heap.objs.size >>= _) _ _ _
   refine Cg (wpAny_load hS ?_)
   show wpAny _ _ (pure acc.toList) _ _ _
   exact wpAny_pure (h h' tk acc c keep hS items)
 ·obtain ⟨_,_,_,_,e1,_⟩:=he
  cases e1
end
end St2
namespace L2
open PySem PySem.Spec PyProof.Rows
section
variable{X:Cx}
noncomputable def o4:List V->Hp->VK->Prop:=fun xs H Q=>∃ (a:Addr) (ks:List (List Int)) (vs:List V),xs=[V.ref a]/\H a=some (.dT ((ks.map fun k=>k.map Sum.inl).zip vs))/\ks.length=vs.length/\ks.length < 64/\(∀ k∈ks,k≠[]) /\
 ∀ l (bs:List V),H l=none->bs.length=ks.length->(∀ (i:Nat) k,(Srt.gW ks)[i]?=some k->∃ b,bs[i]?=some (V.ref b)/\H b=some (.tup (k.map V.int)))->Q (.ref l) (upd H l (.lst bs))
theorem inl_kV(k:List Int):(k.map (Sum.inl:Int->Key)).map kV=k.map V.int:=by rw [Dd];rfl
theorem nE(hc:X.calm=true):aF X (.builtin "sorted") o4:=by
 intro pins s σ H xs us Q I r h;obtain ⟨a,ks,vs,rfl,ha,hlv,h64,hne,q⟩:=h;obtain ⟨u,rfl,ru⟩:=cg r;cases ru;obtain ⟨z,lo,nd,es,ep,x,hl,hk⟩:=sr I.hok ha;have lsz:sizeLine=16777216:=sizeLine_eq
 have hlz:((ks.map fun k=>k.map (Sum.inl:Int->Key)).zip vs).length=ks.length:=by rw [DN,Ci,hlv,Ef]
 have hes:es.size=ks.length:=hl.trans hlz;refine Calls.call_function_entry kind_sorted plain_sorted entry_sorted (args_sorted1 _) ?_;unfold Builtin.«sorted»;refine Cg (m:=checkCount "sorted" 1 1 _) (wpAny_pure ?_);refine Cg (St2.rC (RawD.src (ep:=ep) (es:=es) lo) (I.ok.hd hc) x (by omega) fun h1 tk acc c keep hS items=>Cg (EK ?_ (by rw [Da,items.1];omega)));have hsz:s.heap.objs.size+1<=h1.objs.size:=Cu hS
 have lacc:acc.toList.length=ks.length:=by rw [Da,items.1,hes]
 have at_:∀ (i:Nat) (hi:i < acc.toList.length),∃ b,acc.toList[i] = .ref b/\H b=some (.tup ((ks.getD i []).map V.int))/\ks.getD i []≠[]:=fun i hi=>by
  obtain ⟨hi',e⟩:=items.2 i acc.toList[i] (by rw [<- DF];exact Ch hi);obtain ⟨b,k,v,e1,e2,e3⟩:=hk i hi'
  have hi2:i < ks.length:=by omega
  have ek:k=(ks.getD i []).map Sum.inl:=by
   rw [Ek] at e2;have:=e2.1;rw [CG,Ch hi2] at this;have this:ks[i].map Sum.inl=k:=Option.some.inj this;rw [<- this];simp [Ck,hi2]
  refine ⟨b,e.trans e1,by rw [e3,ek,inl_kV],hne _ ?_⟩;rw [Ck,Ch hi2];exact CT _
 show wpAny _ _ _ _ _ { s with heap:=h1.push (seqObj "list" acc.toList.toArray 0),toks:=tk }
 have oL:(h1.push (seqObj "list" acc.toList.toArray 0)).get? h1.objs.size=some (seqObj "list" acc.toList.toArray 0):=Ct _ rfl
 have tk1:Srt.iO (h1.push (seqObj "list" acc.toList.toArray 0)) acc.toList ks:=⟨lacc,fun i hi=>by
  obtain ⟨b,e1,e2,e3⟩:=at_ i hi;obtain ⟨items',ri,⟨o,g1,g2,n,g3⟩,_⟩:=I.tuple (X:=X) (.inl (.inl e2))
  exact ⟨b,items'.toArray,e1,⟨o,Cj _ (keep b o g1),g2,n,g3⟩,dj ri,e3⟩⟩
 refine Cg (DC (C6 slot_list_sort ⟨_,oL,rfl⟩ entry_list_sort (Srt.BD oL tk1 (by omega) fun p hp hs=>⟨_,rfl,?_⟩) (args_list_sort _)))
 have hle:s.heap.objs.size<=h1.objs.size:=by omega
 have hf:H h1.objs.size=none:=I.hok.fresh hle
 have hin:∀ i∈p,i < acc.toList.length:=fun i hi=>by
  have:=hp.mem_iff.mp hi
  rwa [Dq] at this
 have refs:∀ u∈(p.map fun i=>acc.toList.getD i Value.none),∃ b,u = .ref b:=fun u hu=>by
  obtain ⟨i,hi,rfl⟩:=C0.mp hu;obtain ⟨b,e1,_⟩:=at_ i (hin i hi);exact ⟨b,by rw [Ck,Ch (hin i hi)];exact e1⟩
 have es':p.map (fun i=>ks.getD i [])=Srt.gW ks:=by
  refine Srt.bZ ?_ (Srt.fH ks) (((hp.map _).trans (ES ?_)).trans (Srt.di ks).symm)
  ·rw [List.pairwise_map]
   exact hs.imp fun h=>h
  ·rw [lacc]
   apply DI
   ·simp
   ·intro i h1 h2
    simp [h2]
 obtain ⟨e,he⟩:=sortedHeap_at (out:=(p.map fun i=>acc.toList.getD i Value.none).toArray) oL
 have lp:p.length=ks.length:=by rw [hp.length_eq,DM,lacc]
 refine wpAny_pure ⟨_,rfl,.ref h1.objs.size,upd H h1.objs.size (.lst ((p.map fun i=>acc.toList.getD i Value.none).map qr)),I.laid (t':=tk) (fun b o q=> ?_) hle ⟨?_,_,e,jV refs,by simpa using he⟩,rfl,q _ _ hf (by rw [Ci,Ci,lp]) fun i k hik=> ?_⟩
 ·have lb:=Cu (keep b o q)
  rw [sortedHeap_old (CJ lb) (by rw [C5];exact DL lb)];exact Cj _ (keep b o q)
 ·rw [Ci,Ci,lp]
  omega
 ·rw [<- es',CG] at hik
  obtain ⟨j,hj,rfl⟩:=De.mp hik;have hj':=hin j (CB hj);obtain ⟨b,e1,e2,_⟩:=at_ j hj';refine ⟨b,?_,e2⟩;rw [CG,CG,hj]
  show some (qr (acc.toList.getD j Value.none))=_
  rw [Ck,Ch hj']
  show some (qr acc.toList[j])=_
  rw [e1];rfl
end
noncomputable def Bb:List Key->Option (List Int)
 | []=>some []
 | .inl i::ks=>match Bb ks with
  | some l=>some (i::l)
  | none=>none
 | .inr _::_=>none
noncomputable def uD:List (List Key)->Option (List (List Int))
 | []=>some []
 | k::ks=>match Bb k,uD ks with
  | some (i::l),some r=>some ((i::l)::r)
  | _,_=>none
theorem uE:∀ {k:List Key} {l:List Int},Bb k=some l->k=l.map Sum.inl
 | [],_,h=>by cases h;rfl
 | .inl i::ks,l,h=>by
  unfold Bb at h
  split at h
  ·rename_i l' e
   cases h;rw [uE e];rfl
  ·cases h
 | .inr _::_,_,h=>by cases h
theorem qN:∀ {ks:List (List Key)} {r:List (List Int)},uD ks=some r->ks=(r.map fun k=>k.map Sum.inl)/\∀ k∈r,k≠[]
 | [],_,h=>by cases h;exact ⟨rfl,fun k hk=>by cases hk⟩
 | k::ks,r,h=>by
  unfold uD at h
  split at h
  ·rename_i i l r' e1 e2
   cases h;obtain ⟨g1,g2⟩:=qN e2;exact ⟨by rw [g1,uE e1];rfl,fun k hk=>(Cr.mp hk).elim (fun e=>by rw [e];simp) (g2 k)⟩
  ·cases h
noncomputable def fM(ds:List D):Option (D×Bool):=match ds with
 | [.dT ks _]=>match uD ks with
  | some r=>if decide (r.length < 64)=true then some (.lst ((Srt.gW r).map oM),true) else none
  | none=>none
 | ds=>ji ds
theorem xH{K:E2}:OpS K (fun xs H Q=>((ja K xs H Q\/iZ K xs H Q)\/jX K xs H Q)\/o4 xs H Q) fM:=by
 intro vs ds H L Q d nw hm r e q;unfold fM at e
 split at e
 ·rename_i ks es
  split at e
  ·rename_i ns hk
   split at e
   ·rename_i h64
    cases e;have h64:=Cz h64;obtain ⟨g1,g2⟩:=qN hk;obtain ⟨x,rfl,⟨p,xs,rfl,h1,hl,h2⟩⟩:=aQ r
    have ll:ns.length=xs.length:=by rw [<- hl,g1,Ci]
    refine .inr ⟨p,ns,xs,rfl,by rw [<- g1];exact h1,ll,h64,g2,fun l bs hf hb hk'=>q _ _ (aa.upd hf) (cD (oZ ?_ fun i d hd=> ?_) hf)⟩
    ·rw [Ci,hb,(Srt.di ns).length_eq]
    ·rw [CG] at hd
     obtain ⟨k,hk1,rfl⟩:=De.mp hd;obtain ⟨b,e1,e2⟩:=hk' i k hk1;refine ⟨_,e1,b,_,rfl,?_,eF k⟩;rw [aJ fun z=>by have:=hm b z;rw [e2] at this;exact this];exact e2
   ·cases e
  ·cases e
 ·exact .inl (xI vs ds H L Q d nw hm r e q)
theorem tO{X:Cx}(hc:X.calm=true):aF X (.builtin "sorted") (fun xs H Q=>((ja X.K xs H Q\/iZ X.K xs H Q)\/jX X.K xs H Q)\/o4 xs H Q):=tP.or (nE hc)
section
variable{X:Cx}{EX:EXT}{e:Expr}{es:List Expr}{pos p:Pos}{as:List Arg}
theorem Bz(he:starEach (e::es) X.env=(false,eval e X.env)::starEach es X.env:=by rfl)(hpl:(backTo pos (starEach es X.env)).any (·.1)=false:=by rfl)(m:X.mg "sorted" = none)(ha:JA X EX (e::es) as)(hg:Gl X "sorted" := by rfl)(hc:X.calm=true:=by rfl):JE X EX (.Call (.Name "sorted" p) (e::es) [] pos) (sOp fM as):=jO (tO hc) xH hg m PyProof.Rows.boot_sorted ha (by decide) (by decide) he hpl
end
end L2
namespace L2
open PySem
section
variable{ρ ρ1 ρ2 ρ3:Rho}{d:D}{nw b:Bool}{f g:SE}{s t:SS}{C:Str}{nms:List Str}{i:Nat}
theorem r_tryR(h:s ρ=some (.rt d nw,ρ1)):sf nms i s t ρ=some (.rt d nw,ρ1):=by unfold sf;rw [h]
theorem r_tryX{x:Option (D×Md)}(h:s ρ=some (.ex C,ρ1))(he:nms.elem C=true)(hi:ρ1[i]?=some x)(hn:ρ1.set i (some (.exc C,.fz))=ρ2)(h2:t ρ2=some (.rt d nw,ρ3)):sf nms i s t ρ=some (.rt d nw,ρ3):=by
 subst hn;unfold sf;simp only [h,hi,h2];rw [if_pos he]
theorem r_kind{w:Str}(h:ρ[i]?=some (some (.exc C,.fz)))(hw:Kd.uC nms C=some w):Kd.qk nms i ρ=some (.ok (.str w) false,ρ):=by
 unfold Kd.qk;simp only [h,hw]
theorem r_dnew:nR d ρ=some (.ok d true,ρ):=rfl
end
abbrev nD(l:List Int):List D:=l.map D.int
abbrev bD(l:List Bool):List D:=l.map D.bl
abbrev zK(t:Int×Int):D:= .tup [.int t.1,.int t.2]
abbrev tD(ts:List (Int×Int)):List D:=ts.map zK
abbrev aN(n:Int)(ts:List (Int×Int)):D:= .tup [.int n,.tup (tD ts)]
noncomputable def rgI(lo:Int)(n:Nat):List Int:=(List.range n).map fun k=>lo+(k:Nat)
theorem ax(lo:Int)(n:Nat):(rgI lo n).length=n:=by unfold rgI;simp
theorem aC{lo:Int}{n:Nat}{x:Int}:x∈rgI lo n↔lo<=x/\x < lo+n:=by
 unfold rgI;rw [C0]
 constructor
 ·rintro ⟨k,hk,rfl⟩
  have:=Dq.mp hk;omega
 ·rintro ⟨a,b⟩
  exact ⟨(x - lo).toNat,Dq.mpr (by omega),by omega⟩
theorem Ad{lo:Int}{n i:Nat}{x:Int}(h:(rgI lo n)[i]?=some x):i < n/\x=lo+i:=by
 unfold rgI at h;rw [CG] at h;obtain ⟨k,hk,rfl⟩:=De.mp h;obtain ⟨a,b⟩:=Cv.mp hk;simp at a b;subst b;exact ⟨a,rfl⟩
theorem dz(lo:Int)(n:Nat):rgI lo (n+1)=rgI lo n++[lo+(n:Nat)]:=by unfold rgI;rw [List.range_succ,CU];rfl
theorem wW(lo:Int)(n:Nat):rgI lo (n+1)=lo::rgI (lo+1) n:=by
 unfold rgI;rw [List.range_succ_eq_map,CF,Dd]
 congr 1
 ·simp
 ·refine C1 fun k _=> ?_
  show lo+((k+1:Nat):Int)=lo+1+(k:Nat)
  omega
theorem oX(lo:Int)(n:Nat):gK lo n=nD (rgI lo n):=by unfold gK rgI;rw [nD,Dd];rfl
theorem oA{α:Type}{inj:α->D}:∀ (xs:List α) (k:Nat),hV k (xs.map inj)=(xs.zipIdx k).map fun p=> .tup [.int (p.2:Nat),inj p.1]
 | [],_=>rfl
 | x::xs,k=>by rw [CF,List.zipIdx_cons,CF];show _::hV (k+1) _=_;rw [oA xs (k+1)]
theorem p6{α β:Type}{i1:α->D}{i2:β->D}:∀ (xs:List α) (ys:List β),iR (xs.map i1) (ys.map i2)=(xs.zip ys).map fun p=> .tup [i1 p.1,i2 p.2]
 | [],ys=>by cases ys<;>rfl
 | _::_,[]=>rfl
 | x::xs,y::ys=>by rw [CF,CF,Ey,CF];show _::iR _ _=_;rw [p6 xs ys]
section
variable{ρ ρ1 ρ2 ρ3 ρ4:Rho}{d y:D}{ds ys:List D}{nw b:Bool}{f g:SE}{p:ST}{s:SS}{T:Tg}{k:Nat}
theorem ui{x:Arg}{j:Int}(h:evA [x] ρ=some (.ok [.int j],ρ1))(h1 : -1000000<=j)(h2:j<=1000000):cv x ρ=some (.ok (nD (rgI 0 j.toNat)),ρ1):=by rw [r_rng1 h (xS (by omega) (by omega) h1 h2 (by omega)),oX]
theorem Ah{x:Arg}{n:Nat}(h:evA [x] ρ=some (.ok [.int (n:Nat)],ρ1))(h2:n<=1000000):cv x ρ=some (.ok (nD (rgI 0 n)),ρ1):=by rw [ui h (by omega) (by omega),EE]
theorem Ag{x z:Arg}{i j:Int}(h:evA [x,z] ρ=some (.ok [.int i,.int j],ρ1))(h0 : -1000000<=i)(h0':i<=1000000)(h1 : -1000000<=j)(h2:j<=1000000)(h3:j - i<=1000000):fX x z ρ=some (.ok (nD (rgI i (j - i).toNat)),ρ1):=by rw [r_rng2 h (xS h0 h0' h1 h2 h3),oX]
theorem An{α:Type}{inj:α->D}{xs:List α}(h:f ρ=some (.ok d nw,ρ1))(hs:cz d=some (xs.map inj)):gc f ρ=some (.ok (xs.zipIdx.map fun p=> .tup [.int (p.2:Nat),inj p.1]),ρ1):=by
 rw [r_enum h hs,oA]
theorem r_zipM{α β:Type}{i1:α->D}{i2:β->D}{xs:List α}{zs:List β}{fs:List SE}(h:evA (fs.map Arg.ex) ρ=some (.ok ds,ρ1))(hs:u8 ds=some (xs.map i1,zs.map i2))(hl:xs.length<=zs.length):iW fs ρ=some (.ok ((xs.zip zs).map fun p=> .tup [i1 p.1,i2 p.2]),ρ1):=by
 rw [BQ h hs (by rw [Ci,Ci];exact hl),p6]
theorem Ak:aY T s [] ρ=some (.nx,ρ):=rfl
theorem dY{r:Option (Out×Rho)}(h1:bQ T d ρ=some ρ1)(h2:s ρ1=some (.nx,ρ2))(h3:aY T s ds ρ2=r):aY T s (d::ds) ρ=r:=by
 unfold aY;simp only [h1,h2];exact h3
theorem dq{x:D}(h1:bQ T d ρ=some ρ1)(h2:s ρ1=some (.rt x nw,ρ2)):aY T s (d::ds) ρ=some (.rt x nw,ρ2):=by
 unfold aY;simp only [h1,h2]
end
section
variable{α:Type}{k:Nat}{T:Tg}{f:SE}{c:ST}{ρ:Rho}{inj:α->D}{q:α->Bool}
theorem lQ{g:α->Int}(xs:List α)(h:∀ x∈xs,∃ ρ1 ρ3 nw,bQ T (inj x) (ρ++List.replicate k none)=some ρ1/\f ρ1=some (.ok (.int (g x)) nw,ρ3)/\ρ3.take ρ.length=ρ):cf k T none f (xs.map inj) ρ=some (nD (xs.map g),ρ):=by
 rw [ip (g:=fun x=>D.int (g x)) xs h,nD,Dd];rfl
theorem iX{g:α->Bool}(xs:List α)(h:∀ x∈xs,∃ ρ1 ρ3 nw,bQ T (inj x) (ρ++List.replicate k none)=some ρ1/\f ρ1=some (.ok (.bl (g x)) nw,ρ3)/\ρ3.take ρ.length=ρ):cf k T none f (xs.map inj) ρ=some (bD (xs.map g),ρ):=by
 rw [ip (g:=fun x=>D.bl (g x)) xs h,bD,Dd];rfl
theorem sk{g1 g2:α->Int}(xs:List α)(h:∀ x∈xs,∃ ρ1 ρ3 nw,bQ T (inj x) (ρ++List.replicate k none)=some ρ1/\f ρ1=some (.ok (.tup [.int (g1 x),.int (g2 x)]) nw,ρ3)/\ρ3.take ρ.length=ρ):cf k T none f (xs.map inj) ρ=some (tD (xs.map fun x=>(g1 x,g2 x)),ρ):=by
 rw [ip (g:=fun x=> .tup [.int (g1 x),.int (g2 x)]) xs h,tD,Dd];rfl
end
noncomputable def uZ(o:Option (Out×Rho))(Q:Rho->Prop):Prop:=∃ ρ',o=some (.nx,ρ')/\Q ρ'
theorem ex_seq{s t:SS}{ρ ρ1:Rho}{Q:Rho->Prop}(h1:s ρ=some (.nx,ρ1))(h2:uZ (t ρ1) Q):uZ (av s t ρ) Q:=by obtain ⟨ρ',e,q⟩:=h2;exact ⟨ρ',nW h1 e,q⟩
theorem ex_one{s:SS}{ρ ρ1:Rho}{Q:Rho->Prop}(h1:s ρ=some (.nx,ρ1))(h2:Q ρ1):uZ (s ρ) Q:=⟨ρ1,h1,h2⟩
section
variable{α σ:Type}{T:Tg}{f:SS}{inj:α->D}
theorem dy(R:σ->Rho->Prop)(step:σ->α->σ):∀ (xs:List α) (s:σ) (ρ:Rho),R s ρ->(∀ x∈xs,∀ s ρ,R s ρ->∃ ρ1 ρ2,bQ T (inj x) ρ=some ρ1/\f ρ1=some (.nx,ρ2)/\R (step s x) ρ2)->∃ ρ',aY T f (xs.map inj) ρ=some (.nx,ρ')/\R (xs.foldl step s) ρ'
 | [],s,ρ,h,_=>⟨ρ,rfl,h⟩
 | x::xs,s,ρ,h,hs=>by
  obtain ⟨ρ1,ρ2,e1,e2,h2⟩:=hs x Cs s ρ h
  obtain ⟨ρ',e3,h3⟩:=dy R step xs _ ρ2 h2 fun x hx=>hs x (Cn _ hx)
  exact ⟨ρ',dY e1 e2 e3,h3⟩
theorem nQ{lo:Int}(I:Nat->Rho->Prop)(n:Nat)(ρ:Rho)(h0:I 0 ρ)(hs:∀ i,i < n->∀ ρ,I i ρ->∃ ρ1 ρ2,bQ T (.int (lo+(i:Nat))) ρ=some ρ1/\f ρ1=some (.nx,ρ2)/\I (i+1) ρ2):∃ ρ',aY T f (nD (rgI lo n)) ρ=some (.nx,ρ')/\I n ρ':=by
 obtain ⟨ρ',e,h⟩:=jW (T:=T) (f:=f) I (nD (rgI lo n)) 0 ρ h0 fun i d ρ hd hI=>by
  rw [nD,CG] at hd;obtain ⟨x,hx,rfl⟩:=De.mp hd;obtain ⟨h1,rfl⟩:=Ad hx;rw [Db] at hI ⊢;exact hs i h1 ρ hI
 rw [Ci,ax,Db] at h;exact ⟨ρ',e,h⟩
theorem lP(I:Nat->Rho->Prop)(n:Nat)(ρ:Rho)(h0:I 0 ρ)(hs:∀ i,i < n->∀ ρ,I i ρ->∃ ρ1 ρ2,bQ T (.int (i:Nat)) ρ=some ρ1/\f ρ1=some (.nx,ρ2)/\I (i+1) ρ2):∃ ρ',aY T f (nD (rgI 0 n)) ρ=some (.nx,ρ')/\I n ρ' :=
 nQ I n ρ h0 fun i hi ρ hI=>by rw [Int.zero_add];exact hs i hi ρ hI
theorem gJ(R:Nat->σ->Rho->Prop)(step:σ->α->σ):∀ (xs:List α) (n:Nat) (s:σ) (ρ:Rho),R n s ρ->(∀ i x,xs[i]?=some x->∀ s ρ,R (n+i) s ρ->∃ ρ1 ρ2,bQ T (inj x) ρ=some ρ1/\f ρ1=some (.nx,ρ2)/\R (n+i+1) (step s x) ρ2)->∃ ρ',aY T f (xs.map inj) ρ=some (.nx,ρ')/\R (n+xs.length) (xs.foldl step s) ρ'
 | [],n,s,ρ,h,_=>⟨ρ,rfl,h⟩
 | x::xs,n,s,ρ,h,hs=>by
  obtain ⟨ρ1,ρ2,e1,e2,h2⟩:=hs 0 x rfl s ρ h
  obtain ⟨ρ',e3,h3⟩:=gJ R step xs (n+1) _ ρ2 h2 fun i x hx s ρ hR=>by
   have:=hs (i+1) x (by simpa using hx) s ρ (by rw [show n+(i+1)=n+1+i by omega];exact hR);rw [show n+(i+1)+1=n+1+i+1 by omega] at this;exact this
  refine ⟨ρ',dY e1 e2 e3,?_⟩;rw [CA,show n+(xs.length+1)=n+1+xs.length by omega];exact h3
noncomputable def iY(step:σ->α->Option σ):List α->σ->Option σ
 | [],s=>some s
 | x::xs,s=>match step s x with
  | some s'=>iY step xs s'
  | none=>none
theorem gI{d:D}{nw:Bool}(R:σ->Rho->Prop)(step:σ->α->Option σ):∀ (xs:List α) (s:σ) (ρ:Rho),R s ρ->(∀ x∈xs,∀ s ρ,R s ρ->∃ ρ1 ρ2,bQ T (inj x) ρ=some ρ1/\match step s x with
 | some s'=>f ρ1=some (.nx,ρ2)/\R s' ρ2
 | none=>f ρ1=some (.rt d nw,ρ2))->∃ ρ',(match iY step xs s with
 | some s'=>aY T f (xs.map inj) ρ=some (.nx,ρ')/\R s' ρ'
 | none=>aY T f (xs.map inj) ρ=some (.rt d nw,ρ'))
 | [],s,ρ,h,_=>⟨ρ,rfl,h⟩
 | x::xs,s,ρ,h,hs=>by
  obtain ⟨ρ1,ρ2,e1,e2⟩:=hs x Cs s ρ h;unfold iY
  cases hx:step s x with
  | none =>
   rw [hx] at e2;exact ⟨ρ2,dq e1 e2⟩
  | some s' =>
   rw [hx] at e2
   obtain ⟨ρ',e3⟩:=gI R step xs s' ρ2 e2.2 fun x hx=>hs x (Cn _ hx)
   refine ⟨ρ',?_⟩;dsimp only
   cases hr:iY step xs s' with
   | none=>rw [hr] at e3;exact dY e1 e2.1 e3
   | some s2=>rw [hr] at e3;exact ⟨dY e1 e2.1 e3.1,e3.2⟩
end
section
variable{α:Type}{inj:α->D}{xs ys:List α}{ns ms:List Int}{i a b:Int}
theorem kt:bJ [.lst (xs.map inj)]=some (.int (xs.length:Nat),false):=by show some (D.int ((xs.map inj).length:Nat),false)=_;rw [Ci]
theorem oo:bJ [.tup (xs.map inj)]=some (.int (xs.length:Nat),false):=by show some (D.int ((xs.map inj).length:Nat),false)=_;rw [Ci]
theorem hU(h0:0<=i)(h1:i < ns.length):gIx [.tup (nD ns),.int i]=some (.int (ns.getD i.toNat 0),false):=uL (rP h0 h1)
theorem bO(h0:0<=i)(h1:i < ns.length):gIx [.lst (nD ns),.int i]=some (.int (ns.getD i.toNat 0),false):=fO (rP h0 h1)
theorem yD{c:Bool}:gIx [.lst [.int a,.int b],.int (if c=true then 1 else 0)]=some (.int (if c=true then b else a),false):=by cases c<;>rfl
theorem tm(h:ns≠[]):eQ [.tup (nD ns)]=some (.int (dZ ns),false):=vM ns h
theorem tq(h:ns≠[]):eQ [.lst (nD ns)]=some (.int (dZ ns),false):=vN ns h
theorem tf(h:ns≠[]):iH [.lst (nD ns)]=some (.int (kf ns),false):=vL ns h
theorem Bl:eQ [.int a,.int b]=some (.int (max a b),false):=by
 show some (D.int (if b > a then b else a),false)=_
 congr 3
 rw [Int.max_def]
 split<;>split<;>omega
theorem Bj:iH [.int a,.int b]=some (.int (min a b),false):=by
 show some (D.int (if b < a then b else a),false)=_
 congr 3
 rw [Int.min_def]
 split<;>split<;>omega
theorem wS(h : -1000000<=a)(h2:b<=1000000)(h3:a<=1000000)(h4 : -1000000<=b)(h5:b - a<=1000):ql a b=true:=by
 unfold ql
 refine CK ⟨?_,?_,?_,?_,?_⟩<;>omega
theorem kr(h : -1000000<=a)(h2:b<=1000000)(h3:a<=1000000)(h4 : -1000000<=b)(h5:b - a<=1000):bn [.rng a b]=some (.lst (nD (rgI a (b - a).toNat)),true):=by
 show (if ql a b=true then some (D.lst (gK a (b - a).toNat),true) else none)=_
 rw [if_pos (wS h h2 h3 h4 h5),oX]
theorem tw{n:Nat}(h:n<=1000):bn [.rng 0 (n:Nat)]=some (.lst (nD (rgI 0 n)),true):=by rw [kr (by omega) (by omega) (by omega) (by omega) (by omega),show ((n:Int) - 0).toNat=n by omega]
theorem qW(h:ns.length < 64):fM [.tup (nD ns)]=some (.lst (nD (eP ns)),true):=by
 have:fK [.tup (nD ns)]=some (.lst (nD (eP ns)),true):=by unfold fK;simp only [cI,h,decide_true,if_true]
 show ji _=_
 unfold ji;rw [this]
noncomputable def eI(ts:List (Int×Int)):List (Int×Int):=(Srt.gW (ts.map fun t=>[t.1,t.2])).map fun k=>(k.getD 0 0,k.getD 1 0)
theorem sy(ts:List (Int×Int)):(eI ts).Perm ts:=by
 unfold eI;refine ((Srt.di _).map _).trans ?_;rw [Dd];refine ES ?_;exact (C1 (fun t _=>rfl)).trans (List.map_id' _)
theorem sE(ts:List (Int×Int)):(eI ts).map (fun t=>[t.1,t.2])=Srt.gW (ts.map fun t=>[t.1,t.2]):=by
 unfold eI;rw [Dd];refine (C1 fun k hk=> ?_).trans (List.map_id' _);obtain ⟨t,_,rfl⟩:=C0.mp ((Srt.di _).mem_iff.mp hk);rfl
theorem wL(ts:List (Int×Int)):tD ts=(ts.map fun t=>[t.1,t.2]).map oM:=by rw [tD,Dd];rfl
theorem nK:∀ (ks:List (List Int)),(∀ k∈ks,k≠[])->kD (ks.map oM)=some ks
 | [],_=>rfl
 | k::ks,h=>by
  have e:zy (oM k)=some k:=by
   cases k with
   | nil=>exact absurd rfl (h _ Cs)
   | cons n ns=>show (match bj ((n::ns).map D.int) with | some (n::ns)=>some (n::ns) | _=>none)=_;rw [cI]
  rw [CF];unfold kD;rw [e,nK ks fun k hk=>h k (Cn _ hk)]
theorem vI{ts:List (Int×Int)}(h:ts.length < 64):fM [.lst (tD ts)]=some (.lst (tD (eI ts)),true):=by
 cases hts:ts with
 | nil=>rfl
 | cons t r =>
  rw [<- hts]
  have e0:fK [.lst (tD ts)]=none:=by rw [hts];rfl
  have e1:kD (tD ts)=some (ts.map fun t=>[t.1,t.2]):=by
   rw [wL]
   refine nK _ fun k hk=> ?_
   obtain ⟨t,_,rfl⟩:=C0.mp hk
   exact fun z=>nomatch z
  show ji _=_
  unfold ji;rw [e0]
  show mD _=_
  unfold mD;simp only [e1,Ci,h,decide_true,if_true];rw [<- sE,wL]
theorem rk:∀ (a b:List Int),fR (a.map D.int) (b.map D.int)=decide (a=b)
 | [],[]=>rfl
 | [],_::_=>rfl
 | _::_,[]=>rfl
 | x::a,y::b=>by
  show ((x == y)&&fR (a.map D.int) (b.map D.int))=_
  rw [rk a b,DV];simp
theorem mh:∀ (a:List Int),cB (a.map D.int)=a.map D.int
 | []=>rfl
 | x::a=>by show nrm (.int x)::cB (a.map D.int)=_;rw [mh a];rfl
theorem ig(n:Nat):∀ (a:List Int),(a.map D.int).all (ae n)=true
 | []=>rfl
 | x::a=>by rw [CF,EL,ig n a];unfold ae;rfl
theorem kM(n:Nat)(a:List Int):ae (n+1) (.lst (nD a))=true:=by unfold ae;exact ig n a
theorem rl(a b:List Int):eqD (.lst (nD a)) (.lst (nD b))=decide (a=b):=by unfold eqD nrm;rw [mh,mh];show fR _ _=_;exact rk a b
theorem yG:gEq [.lst (nD ns),.lst (nD ms)]=some (.bl (decide (ns=ms)),false):=by unfold gEq;simp only [kM,Bool.and_self,if_true,rl]
theorem yx:gNe [.lst (nD ns),.lst (nD ms)]=some (.bl (!decide (ns=ms)),false):=by unfold gNe;simp only [kM,Bool.and_self,if_true,rl]
theorem ot(h:xs.length+ys.length<=1000):aH [.lst (xs.map inj),.lst (ys.map inj)]=some (.lst ((xs++ys).map inj),true):=by
 unfold aH;simp only [cy (show (xs.map inj).length+(ys.map inj).length<=1000 by rw [Ci,Ci];exact h),if_true,CU]
theorem iD(h:xs.length+ys.length<=1000):aH [.tup (xs.map inj),.tup (ys.map inj)]=some (.tup ((xs++ys).map inj),false):=by
 unfold aH;simp only [cy (show (xs.map inj).length+(ys.map inj).length<=1000 by rw [Ci,Ci];exact h),if_true,CU]
theorem tz(h:ns.length<=999):aH [.lst [.int a],.lst (nD ns)]=some (.lst (nD (a::ns)),true):=ot (inj:=D.int) (xs:=[a]) (ys:=ns) (by simp;omega)
theorem vP{ts:List (Int×Int)}(h:ts.length<=999):aH [.lst (tD ts),.lst [.tup [.int a,.int b]]]=some (.lst (tD (ts++[(a,b)])),true):=ot (inj:=zK) (xs:=ts) (ys:=[(a,b)]) (by simp;omega)
theorem jr(h:ns.length<=1000):cr (.lst (nD ns)) [.int a]=some (.lst (nD (ns++[a])),.non):=by
 show (if small (nD ns).length=true then some (D.lst (nD ns++[.int a]),D.non) else none)=_
 rw [if_pos (cy (by rw [Ci];exact h)),nD,nD,CU];rfl
theorem wF{ts:List (Int×Int)}(h:ts.length<=1000):cr (.lst (tD ts)) [.tup [.int a,.int b]]=some (.lst (tD (ts++[(a,b)])),.non):=by
 show (if small (tD ts).length=true then some (D.lst (tD ts++[.tup [.int a,.int b]]),D.non) else none)=_
 rw [if_pos (cy (by rw [Ci];exact h)),tD,tD,CU];rfl
theorem uSetI(h0:0<=i)(h1:i < ns.length):ff (.lst (nD ns)) (.int i) (.int a)=some (.lst (nD (ns.set i.toNat a))):=by
 obtain ⟨k,rfl⟩:∃ k:Nat,i=k:=⟨i.toNat,by omega⟩
 show (match ixN (nD ns).length (k:Int) with | some n=>some (D.lst ((nD ns).set n (.int a))) | none=>none)=_
 rw [iB (by rw [Ci];omega)];simp [nD,List.map_set]
theorem yA(h1 : -(2 ^ 64) < a)(h2:a < 2 ^ 64):fN [.int a,.int b]=some (.int (a * b),false):=by
 show (if kG a b=true then some (D.int (a * b),false) else none)=_
 rw [if_pos (pi h1 h2)]
theorem yz(h1 : -(2 ^ 64) < b)(h2:b < 2 ^ 64):fN [.int a,.int b]=some (.int (a * b),false):=by
 show (if kG a b=true then some (D.int (a * b),false) else none)=_
 rw [if_pos (by unfold kG;rw [CK (show -(2 ^ 64) < b/\b < 2 ^ 64 from ⟨h1,h2⟩),Es])]
theorem qq(d:D):∀ n,repL n [d]=List.replicate n d
 | 0=>rfl
 | n+1=>by
  have:=qq d n;unfold repL at this ⊢;rw [Do,DU,this];rfl
theorem yy(h1 : -1000000<=b)(h2:b<=1000000):fN [.lst [.int a],.int b]=some (.lst (nD (List.replicate b.toNat a)),true):=by
 show (if (decide (-1000000<=b/\b<=1000000)&&small ([D.int a].length * b.toNat))=true then some (D.lst (repL b.toNat [.int a]),true) else none)=_
 have:small ([D.int a].length * b.toNat)=true:=CK (by simp;omega);rw [if_pos (by rw [this,CK ⟨h1,h2⟩];rfl),qq,nD,List.map_replicate]
end
noncomputable def rB(xs:List Int)(lo hi:Option Int):List Int:=(xs.drop (HT.sIx xs.length 0 lo)).take (HT.sIx xs.length xs.length hi - HT.sIx xs.length 0 lo)
theorem cut_nD(ns:List Int)(lo hi:Option Int):jN (nD ns) lo hi=nD (rB ns lo hi):=by
 unfold jN rB;rw [Ci,nD,nD,List.map_take,List.map_drop]
theorem sj{n d:Nat}{i:Int}(h:0<=i):HT.sIx n d (some i)<=i.toNat:=by
 unfold HT.sIx;simp
 split<;>omega
theorem Bs{ns:List Int}{lo:Option Int}{j:Int}(h:0<=j):(rB ns lo (some j)).length<=j.toNat:=by
 unfold rB;rw [DH];have:=sj (n:=ns.length) (d:=ns.length) h;omega
theorem qX{ns:List Int}{i j:Int}:Bh i j [.klst (nD ns)]=some (.lst (nD (rB ns (some i) (some j))),true):=by
 show some (D.lst (jN (nD ns) _ _),true)=_
 rw [cut_nD]
theorem tE{ns:List Int}{a i j:Int}(h:0<=j)(h2:j < 100):aH [.lst [.int a],.lst (nD (rB ns (some i) (some j)))]=some (.lst (nD (a::rB ns (some i) (some j))),true):=tz (by have:=Bs (ns:=ns) (lo:=some i) h;omega)
structure Pn where
 a:Int
 f:Int
 s:Int
abbrev pD(P:Pn):D:=vp P.a P.f P.s
theorem lF(P:Pn)(m:Int):∃ q:Int×Pn,(0 < m->m < 1073741824->ai [pD P,.int m]=some (.ok (.int q.1) false,pD q.2))/\(0 < m->m < 1073741824->0<=q.1/\q.1 < m):=by
 by_cases h:0 < m/\m < 1073741824
 ·obtain ⟨r,a,f,s,e,h1,h2⟩:=yO P.a P.f P.s m h.1 h.2
  exact ⟨(r,⟨a,f,s⟩),fun _ _=>e,fun _ _=>⟨h1,h2⟩⟩
 ·exact ⟨(0,P),fun a b=>absurd ⟨a,b⟩ h,fun a b=>absurd ⟨a,b⟩ h⟩
noncomputable def dr(P:Pn)(m:Int):Int:=(Classical.choose (lF P m)).1
noncomputable def nx(P:Pn)(m:Int):Pn:=(Classical.choose (lF P m)).2
theorem nL{P:Pn}{m:Int}(h:0 < m)(h2:m < 1073741824):ai [pD P,.int m]=some (.ok (.int (dr P m)) false,pD (nx P m)):=(Classical.choose_spec (lF P m)).1 h h2
theorem iJ(P:Pn){m:Int}(h:0 < m)(h2:m < 1073741824):0<=dr P m/\dr P m < m:=(Classical.choose_spec (lF P m)).2 h h2
theorem xx(c:Int):∃ P:Pn,ce [.int c]=some (.ok (pD P) true,.non):=by
 obtain ⟨a,f,s,e⟩:=Bn c;exact ⟨⟨a,f,s⟩,e⟩
noncomputable def pen0(c:Int):Pn:=Classical.choose (xx c)
theorem tPen{c:Int}:ce [.int c]=some (.ok (pD (pen0 c)) true,.non):=Classical.choose_spec (xx c)
noncomputable def zb(ns:List Int)(k:Nat):Int:=Classical.choose (rf ns k)
theorem tCell{ns:List Int}{k:Nat}:bx [.klst (nD ns),.int k]=some (.ok (.int (zb ns k)) false,.non):=Classical.choose_spec (rf ns k)
theorem tCell0{ns:List Int}:bx [.klst (nD ns),.int 0]=some (.ok (.int (zb ns 0)) false,.non):=tCell (k:=0)
end L2
namespace L2
open PySem PySem.Spec PyProof.Rows
section
variable{K:E2}{F:Fx}{σ:St}{H H1 H2:Hp}{ρ:Rho}{W:List Addr}{p:Addr}
end
section
variable{X:Cx}{EX:EXT}{e:Expr}{es:List Expr}{as:List Arg}
end
noncomputable def constK:Key->Const
 | .inl i=> .int i
 | .inr x=> .str x
inductive JP(X:Cx)(EX:EXT)(pos:Pos):List (Option Expr)->List Expr->List Key->List SE->Prop where
 | nil:JP X EX pos [] [] [] []
 | cons {k:Key} {j:Nat} {p:Pos} {e:Expr} {f:SE} {es:List (Option Expr)} {vs:List Expr} {ks:List Key} {fs:List SE} (h:JE X EX e f) (t:JP X EX pos es vs ks fs):JP X EX pos (some (.Constant (constK k) j p)::es) (e::vs) (k::ks) (f::fs)
section
variable{X:Cx}{EX:EXT}{i:Expr}{pos p:Pos}{y:Arg}{n:Str}{ks:List Key}{ds:List D}
end
theorem r_zipE{ρ ρ1:Rho}{ds a b zs:List D}{fs:List SE}(h:evA (fs.map Arg.ex) ρ=some (.ok ds,ρ1))(hs:u8 ds=some (a,b))(hl:a.length<=b.length)(hz:iR a b=zs):iW fs ρ=some (.ok zs,ρ1):=by rw [BQ h hs hl,hz]
theorem r_retX{f:SE}{ρ ρ1:Rho}{C:Str}(h:f ρ=some (.ex C,ρ1)):bd f ρ=some (.ex C,ρ1):=by unfold bd;rw [h]
theorem Am{f:SE}{ρ ρ1:Rho}{C:Str}(h:f ρ=some (.ex C,ρ1)):df f ρ=some (.ex C,ρ1):=by unfold df;rw [h]
noncomputable def rR(o:Option (Out×Rho))(Q:D->Bool->Rho->Prop):Prop:=∃ d nw ρ',o=some (.rt d nw,ρ')/\Q d nw ρ'
section
variable{s t:SS}{p:ST}{ρ ρ1:Rho}{Q:D->Bool->Rho->Prop}{b:Bool}
theorem rq_seq(h1:s ρ=some (.nx,ρ1))(h2:rR (t ρ1) Q):rR (av s t ρ) Q:=by obtain ⟨d,nw,ρ',e,q⟩:=h2;exact ⟨d,nw,ρ',nW h1 e,q⟩
theorem rq_ret{d:D}{nw:Bool}(h:s ρ=some (.rt d nw,ρ1))(q:Q d nw ρ1):rR (s ρ) Q:=⟨d,nw,ρ1,h,q⟩
end
theorem r_whT{n:Nat}{c:ST}{f:SS}{ρ ρ1 ρ2:Rho}{b:Bool}{r:Option (Out×Rho)}(h:c ρ=some (.ok b,ρ1))(hb:b=true)(h2:f ρ1=some (.nx,ρ2))(h3:cT n c f ρ2=r):cT (n+1) c f ρ=r:=by
 subst hb;unfold cT;simp only [h,h2];exact h3
theorem r_whF{n:Nat}{c:ST}{f:SS}{ρ ρ1:Rho}{b:Bool}(h:c ρ=some (.ok b,ρ1))(hb:b=false):cT (n+1) c f ρ=some (.nx,ρ1):=by
 subst hb;unfold cT;simp only [h]
section
variable{X:Cx}{EX:EXT}{a b:Expr}{x y:Arg}{pos:Pos}{K:E2}
end
section
variable{P:Program}{w:World}{K:E2}{mg:Str->Option Value}{base:Heap}{x:Str}{st:Stmt}{N ps:List Str}{k:Nat}{io:Option Nat}{body:SS}
theorem Be{f:Addr}{cdv:Value}{A:Around}{outer:List Env}{s:Shared}{H:Hp}{E:XK}{c:Nat}(h:c<=10)(hr:cx k (A.deeper (envOfC x (ac st) s.heap.objs.size f cdv))):(bX (CXr P w) P w K mg base N x (ac st) f cdv A outer s H E).A.units+c < cLine:=by
 have:=hr.units
 show (A.deeper _).units+c < cLine
 omega
theorem bw(h:Has K mg x st ps)(S:cZ N ps (ac st))
 (hb:∀ (f:Addr) (cdv:Value) (A:Around) (outer:List Env) (s:Shared) (H:Hp) (E:XK),cx k (A.deeper (envOfC x (ac st) s.heap.objs.size f cdv))->N.Nodup ->
   (bX (CXr P w) P w K mg base N x (ac st) f cdv A outer s H E).A.units+10 < cLine->(bX (CXr P w) P w K mg base N x (ac st) f cdv A outer s H E).A.units+1 < cLine ->
   JSs (bX (CXr P w) P w K mg base N x (ac st) f cdv A outer s H E) (EXf K E) (bf st) body) (hps:ps.length<=N.length:=by decide):OkX P w K mg base x ps (k+1) (spF K io (aA ps.length N.length io body)) :=
 fn_ok h S (fun f cdv A outer s H E hr=>hb f cdv A outer s H E hr S.nd (Be (by decide) hr) (Be (by decide) hr)) hps
theorem fn_okV{f0:Addr}{fd0:FuncData}(h:Fun K x x st f0 fd0)(S:cZ N ps (ac st))
 (hb:∀ (f:Addr) (cdv:Value) (A:Around) (outer:List Env) (s:Shared) (H:Hp) (E:XK),cx k (A.deeper (envOfC x (ac st) s.heap.objs.size f cdv))->N.Nodup ->
   (bX (CXr P w) P w K mg base N x (ac st) f cdv A outer s H E).A.units+10 < cLine->(bX (CXr P w) P w K mg base N x (ac st) f cdv A outer s H E).A.units+1 < cLine ->
   JSs (bX (CXr P w) P w K mg base N x (ac st) f cdv A outer s H E) (EXf K E) (bf st) body) (hps:ps.length<=N.length:=by decide):jS P w K mg base (CXr P w) (k+1) f0 fd0 ps (spF K io (aA ps.length N.length io body)) :=
 tG h S (fun f cdv A outer s H E hr=>hb f cdv A outer s H E hr S.nd (Be (by decide) hr) (Be (by decide) hr)) hps
end
theorem nd_k{l:List Str}(h:decide l.Nodup=true):l.Nodup:=Cz h
abbrev OkY(x:Str)(ps:List Str)(k:Nat)(io:Option Nat)(f:FS)(P:Program)(w:World)(K:E2)(mg:Str->Option Value)(base:Heap):Prop:=OkX P w K mg base x ps k (spF K io f)
structure pX(K:E2)(mg:Str->Option Value)(base:Heap)(x:Str):Prop where
 ex:∃ C bm B newId initId,OwnCls x C bm newId mg base/\ExcBaseFacts B newId initId bm/\h9 K x C
theorem wO{P:Program}{w:World}{K:E2}{mg:Str->Option Value}{base:Heap}{N:List Str}{qual:Str}{scope:Scope}{f:Addr}{cd:Value}{A:Around}{outer:List Env}{s:Shared}{H:Hp}{E:XK}{x:Str}{np cpos pos:Pos}{k:Nat}
 (O:pX K mg base x) (hr:cx k (A.deeper (envOfC qual scope s.heap.objs.size f cd)))
 (hg:Gl (bX (CXr P w) P w K mg base N qual scope f cd A outer s H E) x) (hd:(x == ("__debug__" : Str))=false:=by decide):JS (bX (CXr P w) P w K mg base N qual scope f cd A outer s H E) (EXf K E) (.Raise (some (.Call (.Name x np) [] [] cpos)) none pos) (oU x):=by
 obtain ⟨C,bm,B,nI,iI,h1,h2,h3⟩:=O.ex;exact Aa h1 h2 h3 hr hg hd
section
variable{X:Cx}{EX:EXT}{e i1 i2:Expr}{pos pos1 pos2 tpos p1 p2:Pos}{n:Str}{j k:Nat}{f f1 f2:SE}
end
noncomputable def isBl:D->Bool
 | .bl _=>true
 | _=>false
noncomputable def jJ:List D->Option (D×Bool)
 | [d,.non]=>some (.bl (!uI d),false)
 | [.bl a,.bl b]=>some (.bl (a != b),false)
 | [d,.bl b]=>if isBl d then none else some (.bl true,false)
 | _=>none
noncomputable def uq:R2:=fun x y H Q=>∃ b,y = .bl b/\(∀ a,x ≠ .bl a)/\(∀ n,x ≠ .ty n)/\Q (.bl true) H
theorem vv{X:Cx}:OpR X (compareOp .IsNot) uq:=by
 intro pins s σ H x y v u Q I rx ry h;obtain ⟨b,rfl,hx,hy,q⟩:=h;cases ry;have z:EP X pins σ Q (.bool true) s:=⟨.bl true,H,I,rfl,q⟩
 cases x<;>first
  | exact absurd rfl (hx _)
  | exact absurd rfl (hy _)
  | (cases rx;exact wpAny_pure z)
  | (obtain ⟨t,rfl⟩:=rx;exact wpAny_pure z)
theorem nb_of{K:E2}{H Hh:Hp}{d:D}{v:V}(r:gC K H Hh d v)(h:isBl d=false):(∀ a,v ≠ .bl a)/\∀ n,v ≠ .ty n:=by
 cases d with
 | bl b=>cases h
 | non=>have r:v = .non:=r;subst r;exact ⟨fun a=>by simp,fun n=>by simp⟩
 | int i=>have r:v = .int i:=r;subst r;exact ⟨fun a=>by simp,fun n=>by simp⟩
 | str i=>have r:v = .str i:=r;subst r;exact ⟨fun a=>by simp,fun n=>by simp⟩
 | _=>obtain ⟨p,h2⟩:=r;first | (obtain ⟨xs,rfl,_⟩:=h2;exact ⟨fun a=>by simp,fun n=>by simp⟩) | (obtain ⟨rfl,_⟩:=h2;exact ⟨fun a=>by simp,fun n=>by simp⟩)
theorem vt{K:E2}:OpS K (r2 fun x y H Q=>o5 x y H Q\/uq x y H Q) jJ:=by
 intro vs ds H L Q d nw hm r e q;unfold jJ at e
 split at e
 ·obtain ⟨x,y,rfl,ra,rb⟩:=aO r
  cases e;refine .inl (.inl ⟨rb,?_⟩);rw [mw ra];exact q _ H (aa.refl _) rfl
 ·obtain ⟨x,y,rfl,ra,rb⟩:=aO r
  cases e;exact .inl (.inr ⟨_,_,ra,rb,q _ H (aa.refl _) rfl⟩)
 ·obtain ⟨x,y,rfl,ra,rb⟩:=aO r
  split at e
  ·cases e
  ·rename_i hb
   cases e;obtain ⟨h1,h2⟩:=nb_of ra (by simpa using hb);exact .inr ⟨_,rb,h1,h2,q _ H (aa.refl _) rfl⟩
 ·cases e
section
variable{X:Cx}{EX:EXT}{a b:Expr}{x y:Arg}{pos:Pos}
theorem wK(ha:JB X EX a x)(hb:JB X EX b y):JT X EX (.Compare a [.IsNot] [b] pos) (bS jJ [x,y]):=mr (nX.or vv) vt ha hb (dh _)
end
end L2
namespace L2.Od
open PySem PySem.Spec PyProof.Rows L2
abbrev LL(p0 q r:Addr)(Z:List Addr):List Addr:=[p0]++(q::r::Z)
structure Rw(K:E2)(Z:List Addr)(p0:Addr)(H0 H:Hp)(q r p:Addr)(xs ys:List V)(a b:List D)(pen:D):Prop where
 pn:aM K H (hid (LL p0 q r Z) H) p0 pen
 fr:Fr [p0] H0 H
 mt:∀ c∈LL p0 q r Z,dO (H c)
 hq:H q=some (.lst xs)
 hr:H r=some (.lst ys)
 hp:H p=some (.lst [.ref q,.ref r])
 ra:ag K (hid (LL p0 q r Z) H) a xs
 rb:ag K (hid (LL p0 q r Z) H) b ys
 nq:H0 q=none
 nr:H0 r=none
 z0:p0∉Z
 n1:q≠r
 n2:p≠q
 n3:p≠r
 n4:q≠p0
 n5:r≠p0
 n6:p≠p0
section
variable{K:E2}{Z:List Addr}{p0:Addr}{H0 H H':Hp}{q r p:Addr}{xs ys:List V}{a b:List D}{pen pen':D}
theorem Rw.go(R:Rw K Z p0 H0 H q r p xs ys a b pen)(f:Fr [p0] H H')(o:aM K H' (hid (LL p0 q r Z) H') p0 pen'):Rw K Z p0 H0 H' q r p xs ys a b pen':=by
 have s:aa (hid (LL p0 q r Z) H) (hid (LL p0 q r Z) H'):=aD (fun b hb=> .inl hb) fun b o n e=>f.keep b o (fun z=>n (Cp _ z)) e
 refine ⟨o,R.fr.trans f fun p hp=> .inl hp,fun c hc=> ?_,f.keep _ _ (by simpa using R.n4) R.hq,f.keep _ _ (by simpa using R.n5) R.hr,f.keep _ _ (by simpa using R.n6) R.hp,s.repDs R.ra,s.repDs R.rb,R.nq,R.nr,R.z0,R.n1,R.n2,R.n3,R.n4,R.n5,R.n6⟩
 by_cases z:c=p0
 ·rw [z];exact o.mu
 ·obtain ⟨u,h⟩:=(R.mt c hc).some
  rw [f.keep c u (by simpa using z) h,<- h];exact R.mt c hc
theorem Rw.same(R:Rw K Z p0 H0 H q r p xs ys a b pen)(s:aa H H'):Rw K Z p0 H0 H' q r p xs ys a b pen:=by
 refine R.go s.fr (R.pn.at ?_ (aD (fun b hb=> .inl hb) fun b o _ e=>s b o e));obtain ⟨u,h⟩:=R.pn.mu.some;rw [h];exact s _ _ h
theorem wC{L:List Addr}{l:List V}{q:Addr}(h:∀ c∈L,dO (H c)):∀ c∈L,dO (upd H q (.lst l) c):=fun c hc=>by
 by_cases z:c=q
 ·rw [z,af];trivial
 ·rw [ah z];exact h c hc
theorem wD{l:List V}{q:Addr}(f:Fr [p0] H0 H)(h:H0 q=none):Fr [p0] H0 (upd H q (.lst l)):=by
 refine ⟨fun b o n e=> ?_,fun b e=> ?_⟩
 ·rw [ah (fun z=>by rw [z,h] at e;cases e)];exact f.keep b o n e
 ·by_cases z:b=q
  ·rw [z];exact h
  ·rw [ah z] at e;exact f.dom b e
theorem Rw.putq(R:Rw K Z p0 H0 H q r p xs ys a b pen){n:Nat}{d:D}{x:V}(rd:ay K (hid (LL p0 q r Z) H) d x):Rw K Z p0 H0 (upd H q (.lst (xs.set n x))) q r p (xs.set n x) ys (a.set n d) b pen:=by
 have hh:hid (LL p0 q r Z) (upd H q (.lst (xs.set n x)))=hid (LL p0 q r Z) H:=jF (Co _ Cs);refine ⟨?_,wD R.fr R.nq,wC R.mt,af,by rw [ah (Ne.symm R.n1)];exact R.hr,by rw [ah R.n2];exact R.hp,by rw [hh];exact ag.set rd n R.ra,by rw [hh];exact R.rb,R.nq,R.nr,R.z0,R.n1,R.n2,R.n3,R.n4,R.n5,R.n6⟩;rw [hh];exact R.pn.at (ah (Ne.symm R.n4)) (aa.refl _)
theorem Rw.putr(R:Rw K Z p0 H0 H q r p xs ys a b pen){n:Nat}{d:D}{x:V}(rd:ay K (hid (LL p0 q r Z) H) d x):Rw K Z p0 H0 (upd H r (.lst (ys.set n x))) q r p xs (ys.set n x) a (b.set n d) pen:=by
 have hh:hid (LL p0 q r Z) (upd H r (.lst (ys.set n x)))=hid (LL p0 q r Z) H:=jF (Co _ (Cn _ Cs));refine ⟨?_,wD R.fr R.nr,wC R.mt,by rw [ah R.n1];exact R.hq,af,by rw [ah R.n3];exact R.hp,by rw [hh];exact R.ra,by rw [hh];exact ag.set rd n R.rb,R.nq,R.nr,R.z0,R.n1,R.n2,R.n3,R.n4,R.n5,R.n6⟩;rw [hh];exact R.pn.at (ah (Ne.symm R.n5)) (aa.refl _)
noncomputable def dw(fd:FS)(pen:D)(n:Int):Option (Int×D):=match fd [pen,.int n] with
 | some (.ok (.int k) false,p)=>some (k,p)
 | _=>none
theorem dw_eq{fd:FS}{pen p:D}{n k:Int}(h:dw fd pen n=some (k,p)):fd [pen,.int n]=some (.ok (.int k) false,p):=by
 unfold dw at h
 split at h
 ·cases h;assumption
 ·cases h
theorem Rw.sp(R:Rw K Z p0 H0 H q r p xs ys a b pen){fd:FS}{n k:Int}{Q:VK}{E:XK}(e:dw fd pen n=some (k,pen'))(h:∀ H',Fr [p0] H H'->Rw K Z p0 H0 H' q r p xs ys a b pen'->Q (.int k) H'):spF K (some 0) fd ([.ref p0,.int n]++[]) H Q E:=by
 refine ⟨q::r::Z,[p0],[pen,.int n],rfl,fun c hc z=> ?_,R.mt,fun j d v hj h1 h2=> ?_,fun k hk=> ?_,fun z=>(by cases z),?_⟩
 ·rw [CC.mp hc] at z
  rcases Cr.mp z with z | z
  ·exact R.n4 z.symm
  ·rcases Cr.mp z with z | z
   ·exact R.n5 z.symm
   ·exact R.z0 z
 ·match j with
  | 0=>exact absurd rfl hj
  | 1=>cases h1;cases h2;rfl
  | j+2=>simp at h1
 ·cases hk
  exact ⟨p0,pen,rfl,rfl,rfl,R.pn⟩
 ·rw [dw_eq e]
  intro v H' f rd o;cases rd;exact h H' f (R.go f (o p0 rfl))
end
noncomputable def rowAt(s:Int)(a b:List D):Option (List D):=if s=0 then some a else if s=1 then some b else none
noncomputable def rowPut(s:Int)(a b x:List D):List D×List D:=if s=0 then (x,b) else (a,x)
noncomputable def oddL(a b:List D)(a0:D):List D:=[.int 0,.int (-1),.int ((a.length:Int)+(b.length:Int)+1),.bl true,.non,.str "1",.tup [.int 1],.lst [.int 1],.int (10 ^ 20),.int 1,a0]
noncomputable def f1a(fd:FS)(s t:Int)(a b x:List D)(pen:D):Option (Res×D):=(dw fd pen 11).bind fun k=>(a[0]?).bind fun a0=>(x[t.toNat]?).bind fun _=>((oddL a b a0)[k.1.toNat]?).bind fun d =>
 if 0<=k.1 then some (.ok (.tup [.tup (rowPut s a b (x.set t.toNat d)).1,.tup (rowPut s a b (x.set t.toNat d)).2]) false,k.2) else none
noncomputable def f1b(fd:FS)(s t:Int)(a b x:List D)(pen:D):Option (Res×D):=(dw fd pen 2).bind fun o=>(rowAt o.1 a b).bind fun y=>(dw fd o.2 (y.length:Nat)).bind fun j=>(x[t.toNat]?).bind fun kept=>(y[j.1.toNat]?).bind fun d =>
 (rowAt o.1 (rowPut s a b (x.set t.toNat d)).1 (rowPut s a b (x.set t.toNat d)).2).bind fun y1 =>
 if 0<=j.1 then some (.ok (.tup [.tup (rowPut o.1 (rowPut s a b (x.set t.toNat d)).1 (rowPut s a b (x.set t.toNat d)).2 (y1.set j.1.toNat kept)).1,.tup (rowPut o.1 (rowPut s a b (x.set t.toNat d)).1 (rowPut s a b (x.set t.toNat d)).2 (y1.set j.1.toNat kept)).2]) false,j.2) else none
noncomputable def f1(fd:FS):FS
 | [pen,_,.tup [.tup a,.tup b]]=>(dw fd pen 4).bind fun w=>if w.1=0 then none else (dw fd w.2 2).bind fun s=>(rowAt s.1 a b).bind fun x=>(dw fd s.2 (x.length:Nat)).bind fun t =>
  if 0<=t.1 then (if w.1=1 then f1a fd s.1 t.1 a b x t.2 else f1b fd s.1 t.1 a b x t.2) else none
 | _=>none
noncomputable def either(f g:FS):FS:=fun ds=>match f ds with
 | some r=>some r
 | none=>g ds
theorem nO{K:E2}{io:Option Nat}{f g:FS}{vs:List V}{H:Hp}{Q:VK}{E:XK}(h:spF K io (either f g) vs H Q E):spF K io f vs H Q E\/spF K io g vs H Q E:=by
 obtain ⟨Z,W,ds,h1,h2,h3,h4,h5,h6,hm⟩:=h;unfold either at hm
 cases e:f ds with
 | none=>rw [e] at hm;exact .inr ⟨Z,W,ds,h1,h2,h3,h4,h5,h6,hm⟩
 | some r=>rw [e] at hm;exact .inl ⟨Z,W,ds,h1,h2,h3,h4,h5,h6,by rw [e];exact hm⟩
theorem fn_either{P:Program}{w:World}{K:E2}{mg:Str->Option Value}{base:Heap}{CX:CXT}{k:Nat}{f0:Addr}{fd:FuncData}{ps:List Str}{io:Option Nat}{f g:FS}(A:jS P w K mg base CX k f0 fd ps (spF K io f))(B:jS P w K mg base CX k f0 fd ps (spF K io g)):jS P w K mg base CX k f0 fd ps (spF K io (either f g)) :=
 ⟨fun vs H Q E h=>(nO h).elim (A.len vs H Q E) (B.len vs H Q E),fun A' outer s H args us vs Q E hr he hb hv hs=>(nO hs).elim (A.run A' outer s H args us vs Q E hr he hb hv) (B.run A' outer s H args us vs Q E hr he hb hv)⟩
noncomputable def RW(K:E2)(Z:List Addr)(p0:Addr)(H0 H:Hp)(q r p:Addr)(a b:List D)(pen:D):Prop:=∃ xs ys,Rw K Z p0 H0 H q r p xs ys a b pen
theorem iB{n k:Nat}{t:Int}(h0:0<=t)(e:t.toNat=k)(h:k < n):ixN n t=some k:=by
 unfold ixN;rw [if_pos h0,if_pos (by omega),e]
section
variable{K:E2}{Z:List Addr}{p0:Addr}{H0 H H':Hp}{q r p:Addr}{a b x:List D}{pen pen':D}{s:Int}{σ:St}
theorem RW.row(R:RW K Z p0 H0 H q r p a b pen)(hs:rowAt s a b=some x):∃ c zs,atI [V.ref q,V.ref r] s=some (.ref c)/\H c=some (.lst zs)/\ag K (hid (LL p0 q r Z) H) x zs/\c∈LL p0 q r Z/\∀ n d v,ay K (hid (LL p0 q r Z) H) d v->RW K Z p0 H0 (upd H c (.lst (zs.set n v))) q r p (rowPut s a b (x.set n d)).1 (rowPut s a b (x.set n d)).2 pen:=by
 obtain ⟨xs,ys,R⟩:=R;unfold rowAt at hs
 split at hs
 ·rename_i h
  cases hs;subst h;exact ⟨q,xs,rfl,R.hq,R.ra,Co _ Cs,fun n d v rd=>⟨_,_,R.putq rd⟩⟩
 ·split at hs
  ·rename_i h
   cases hs;subst h;exact ⟨r,ys,rfl,R.hr,R.rb,Co _ (Cn _ Cs),fun n d v rd=>⟨_,_,R.putr rd⟩⟩
  ·cases hs
abbrev fh(K:E2)(ti:TE):TE:=tOp (lU K) (bR 3) ti
abbrev BT(K:E2):List V->Hp->VK->Prop:=fun xs H Q=>∃ p ys,xs=[.ref p]/\(SqL K H p ys\/SqT K H p ys)/\Q (.int ys.length) H
theorem RW.tr{ti:TE}{Q:VK}{c:Addr}(R:RW K Z p0 H0 H q r p a b pen)(h3:σ[3]?=some (some (.ref p)))(hi:∀ Q',Q' (V.int s) H->ti σ H Q')(e:atI [V.ref q,V.ref r] s=some (.ref c))(h:Q (.ref c) H):fh K ti σ H Q:=by
 obtain ⟨xs,ys,R⟩:=R;exact ⟨_,h3,hi _ ⟨p,_,s,_,rfl,rfl,.inl (.inl R.hp),e,h⟩⟩
theorem RW.len{ti:TE}{Q:VK}(R:RW K Z p0 H0 H q r p a b pen)(hs:rowAt s a b=some x)(h3:σ[3]?=some (some (.ref p)))(hi:∀ Q',Q' (V.int s) H->ti σ H Q')(h:Q (.int (x.length:Nat)) H):tCB (BT K) (bb (fh K ti) fC) σ H Q:=by
 obtain ⟨c,zs,e1,e2,e3,_⟩:=R.row hs;refine R.tr h3 hi e1 ⟨c,zs,rfl,.inl (.inl (.inl e2)),?_⟩;rw [<- e3.len];exact h
theorem RW.item{ti tj:TE}{Q:VK}{t:Int}{d:D}(R:RW K Z p0 H0 H q r p a b pen)(hs:rowAt s a b=some x)(h3:σ[3]?=some (some (.ref p)))(hi:∀ Q',Q' (V.int s) H->ti σ H Q')(hj:∀ Q',Q' (V.int t) H->tj σ H Q')(h0:0<=t)(hd:x[t.toNat]?=some d)
 (h:∀ v,ay K (hid (LL p0 q r Z) H) d v->Q v H):tOp (lU K) (fh K ti) tj σ H Q:=by
 obtain ⟨c,zs,e1,e2,e3,_⟩:=R.row hs;obtain ⟨v,hv,rv⟩:=e3.get hd;refine R.tr h3 hi e1 (hj _ ⟨c,zs,t,v,rfl,rfl,.inl (.inl e2),?_,h v rv⟩);unfold atI;rw [iB h0 rfl (Cv.mp hv).1];exact hv
theorem RW.put{ti tj:TE}{Q:St->Hp->Prop}{t:Int}{d0 d:D}{v:V}(R:RW K Z p0 H0 H q r p a b pen)(hs:rowAt s a b=some x)(h3:σ[3]?=some (some (.ref p)))(hi:∀ Q',Q' (V.int s) H->ti σ H Q')(hj:∀ Q',Q' (V.int t) H->tj σ H Q')(h0:0<=t)(hd:x[t.toNat]?=some d0)
 (rd:ay K (hid (LL p0 q r Z) H) d v) (h:∀ H',(∀ d v,ay K (hid (LL p0 q r Z) H) d v->ay K (hid (LL p0 q r Z) H') d v)->RW K Z p0 H0 H' q r p (rowPut s a b (x.set t.toNat d)).1 (rowPut s a b (x.set t.toNat d)).2 pen->Q σ H'):qV (fh K ti) tj jy v σ H Q:=by
 obtain ⟨c,zs,e1,e2,e3,hm,e4⟩:=R.row hs;refine R.tr h3 hi e1 (hj _ ⟨c,zs,t,t.toNat,rfl,rfl,e2,iB h0 rfl ?_,h _ (fun d v z=>by rw [jF hm];exact z) (e4 _ d v rd)⟩);rw [<- e3.len];exact (Cv.mp hd).1
theorem RW.sp(R:RW K Z p0 H0 H q r p a b pen){fd:FS}{n k:Int}{Q:VK}{E:XK}(e:dw fd pen n=some (k,pen'))(h:∀ H',Fr [p0] H H'->RW K Z p0 H0 H' q r p a b pen'->Q (.int k) H'):spF K (some 0) fd ([.ref p0,.int n]++[]) H Q E:=by
 obtain ⟨xs,ys,R⟩:=R
 exact R.sp e fun H' f R'=>h H' f ⟨_,_,R'⟩
theorem RW.same(R:RW K Z p0 H0 H q r p a b pen)(s:aa H H'):RW K Z p0 H0 H' q r p a b pen:=by
 obtain ⟨xs,ys,R⟩:=R;exact ⟨_,_,R.same s⟩
abbrev uk(K:E2):List V->Hp->VK->Prop:=fun xs H Q=>∃ p ys,xs=[.ref p]/\((SqL K H p ys/\∀ l,H l=none->Q (.ref l) (upd H l (.tup ys)))\/(SqT K H p ys/\Q (.ref p) H))
theorem RW.ret{Q:VK}(R:RW K Z p0 H0 H q r p a b pen)(h3:σ[3]?=some (some (.ref p)))(h:∀ v H',Fr [p0] H0 H'->ay K (hid ([p0]++Z) H') (.tup [.tup a,.tup b]) v->(∀ c,[p0]=[c]->aM K H' (hid ([p0]++Z) H') c pen)->Q v H') :
 zO (bb (tCB (uk K) (bb (fh K (tC (.int 0))) fC)) (bb (tCB (uk K) (bb (fh K (tC (.int 1))) fC)) fC)) σ H Q:=by
 obtain ⟨xs,ys,R⟩:=R;have R0:RW K Z p0 H0 H q r p a b pen:=⟨xs,ys,R⟩;refine R0.tr (s:=0) h3 (fun _ z=>z) rfl ⟨q,xs,rfl,.inl ⟨.inl (.inl R.hq),fun l1 hl1=> ?_⟩⟩;have s1:=aa.upd (o:= .tup xs) hl1;have R1:=R.same s1;refine (R0.same s1).tr (s:=1) h3 (fun _ z=>z) rfl ⟨r,ys,rfl,.inl ⟨.inl (.inl R1.hr),fun l2 hl2=> ?_⟩⟩;have s2:=aa.upd (o:= .tup ys) hl2;have R2:=R1.same s2;refine ⟨by show 2<=sizeLine;decide,fun l3 hl3=> ?_⟩;have s3:=aa.upd (o:= .tup [V.ref l1,V.ref l2]) hl3;have R3:=R2.same s3
 have un:aa (hid (LL p0 q r Z) (upd (upd (upd H l1 (.tup xs)) l2 (.tup ys)) l3 (.tup [V.ref l1,V.ref l2]))) (hid ([p0]++Z) (upd (upd (upd H l1 (.tup xs)) l2 (.tup ys)) l3 (.tup [V.ref l1,V.ref l2]))):=jt fun c hc=>by
  rcases CI.mp hc with z | z
  ·exact Cp _ z
  ·exact Co _ (Cn _ (Cn _ z))
 have out:∀ c o,(upd (upd (upd H l1 (.tup xs)) l2 (.tup ys)) l3 (.tup [V.ref l1,V.ref l2])) c=some (.tup o)->hid ([p0]++Z) (upd (upd (upd H l1 (.tup xs)) l2 (.tup ys)) l3 (.tup [V.ref l1,V.ref l2])) c=some (.tup o):=fun c o e=>by
  rw [aJ fun z=> ?_]
  ·exact e
  ·have:=R3.mt c (by
    rcases CI.mp z with z | z
    ·exact Cp _ z
    ·exact Co _ (Cn _ (Cn _ z)))
   rw [e] at this;exact this
 refine h _ _ R3.fr ⟨l3,_,rfl,out _ _ af,⟨l1,xs,rfl,out _ _ (s3 _ _ (s2 _ _ af)),un.repDs R3.ra⟩,⟨l2,ys,rfl,out _ _ (s3 _ _ af),un.repDs R3.rb⟩,trivial⟩ fun c hc=> ?_
 cases hc;exact R3.pn.at rfl un
end
abbrev mZ(K:E2)(fd:FS)(E:XK)(tn:TE):TE:=nM (spF K (some 0) fd) [] E (bb (bR 0) (bb tn fC))
abbrev qh(K:E2)(ti:TE):TE:=tCB (BT K) (bb (fh K ti) fC)
abbrev BS(K:E2):List V->Hp->VK->Prop:=fun xs H Q=>∃ p ys,xs=[.ref p]/\(SqL K H p ys\/SqT K H p ys)/\∀ l,H l=none->Q (.ref l) (upd H l (.lst ys))
abbrev tRows(K:E2):TE:=zQ (bb (tCB (BS K) (bb (tOp (As K) (bR 2) (tC (.int 0))) fC)) (bb (tCB (BS K) (bb (tOp (As K) (bR 2) (tC (.int 1))) fC)) fC))
abbrev tOdd(K:E2):TE:=zQ (bb (tC (.int 0)) (bb (tUn (rU fun i=> .int (-i)) (tC (.int 1))) (bb (tOp (rI0 fun i j=> .int (i+j)) (tOp (rI0 fun i j=> .int (i+j)) (qh K (tC (.int 0))) (qh K (tC (.int 1)))) (tC (.int 1))) (bb (tC (.bl true)) (bb (tC .non) (bb (tC (.str "1"))
 (bb (zO (bb (tC (.int 1)) fC)) (bb (zQ (bb (tC (.int 1)) fC)) (bb (tOp (rI CPow fun i j=> .int (i ^ j.toNat)) (tC (.int 10)) (tC (.int 20))) (bb (tC (.int 1)) (bb (tOp (lU K) (fh K (tC (.int 0))) (tC (.int 0))) fC)))))))))))
abbrev BI(K:E2)(fd:FS)(E:XK):TS :=
 fg (dQ (mZ K fd E (tC (.int 2))) (dD 6)) (fg (dQ (mZ K fd E (qh K (bR 6))) (dD 7))
 (fg (zR (ud (tOp rEq (bR 4) (tC (.int 1))))
   (fg (dQ (tOdd K) (dD 8)) (dQ (tOp (lU K) (bR 8) (mZ K fd E (tC (.int 11)))) (qV (fh K (bR 6)) (bR 7) jy)))
   (fg (dQ (mZ K fd E (tC (.int 2))) (dD 9)) (fg (dQ (mZ K fd E (qh K (bR 9))) (dD 10)) (fg (dQ (tOp (lU K) (fh K (bR 6)) (bR 7)) (dD 11)) (fg (dQ (tOp (lU K) (fh K (bR 9)) (bR 10)) (qV (fh K (bR 6)) (bR 7) jy)) (dQ (bR 11) (qV (fh K (bR 9)) (bR 10) jy)))))))
 (tRet (zO (bb (tCB (uk K) (bb (fh K (tC (.int 0))) fC)) (bb (tCB (uk K) (bb (fh K (tC (.int 1))) fC)) fC))))))
abbrev tBody(K:E2)(fd:FS)(E:XK)(t0:TS):TS:=fg (dQ (tRows K) (dD 3)) (fg (dQ (mZ K fd E (tC (.int 4))) (dD 4)) (fg (zR (ud (tOp rEq (bR 4) (tC (.int 0)))) t0 BL) (BI K fd E)))
section
variable{K:E2}{Z:List Addr}{p0:Addr}{H0 H H':Hp}{q r p:Addr}{a b x:List D}{pen pen':D}{s:Int}{σ:St}{fd:FS}{E:XK}
theorem RW.draw{tn:TE}{n k:Int}{Q:VK}(R:RW K Z p0 H0 H q r p a b pen)(h0:σ[0]?=some (some (.ref p0)))(hn:∀ Q',Q' (V.int n) H->tn σ H Q')(e:dw fd pen n=some (k,pen'))(h:∀ H',Fr [p0] H H'->RW K Z p0 H0 H' q r p a b pen'->Q (.int k) H'):mZ K fd E tn σ H Q :=
 ⟨_,h0,hn _ (R.sp e h)⟩
theorem RW.odd{Q:VK}{a0:D}(R:RW K Z p0 H0 H q r p a b pen)(h3:σ[3]?=some (some (.ref p)))(ha:a[0]?=some a0)(h:∀ o H' vs,RW K Z p0 H0 H' q r p a b pen->H' o=some (.lst vs)->o≠p0->ag K (hid (LL p0 q r Z) H') (oddL a b a0) vs->Q (.ref o) H'):tOdd K σ H Q:=by
 refine ⟨1,rfl,R.len (s:=0) (x:=a) rfl h3 (fun _ z=>z) (R.len (s:=1) (x:=b) rfl h3 (fun _ z=>z) ⟨_,_,rfl,rfl,_,_,rfl,rfl,⟨by show 1<=sizeLine;decide,fun l1 hl1=>⟨by show 1<=sizeLine;decide,fun l2 hl2=>⟨10,20,rfl,rfl,⟨by decide,by decide,by decide⟩,?_⟩⟩⟩⟩)⟩;have s1:=aa.upd (o:= .tup [V.int 1]) hl1;have s2:=aa.upd (o:= .lst [V.int 1]) hl2;have R2:=(R.same s1).same s2
 refine R2.item (s:=0) (t:=0) (x:=a) rfl h3 (fun _ z=>z) (fun _ z=>z) (by decide) ha fun v rv=>⟨by show 11<=sizeLine;decide,fun o ho=> ?_⟩
 have R3:=R2.same (aa.upd (o:= .lst [V.int 0,V.int (-1),V.int ((a.length:Int)+(b.length:Int)+1),V.bl true,V.non,V.str "1",V.ref l1,V.ref l2,V.int (10 ^ 20),V.int 1,v]) ho)
 have fresh:∀ {H':Hp} {c:Addr},RW K Z p0 H0 H' q r p a b pen->H' c=none->c∉LL p0 q r Z:=fun {H' c} R e z=>by
  obtain ⟨xs,ys,R⟩:=R;have:=R.mt c z;rw [e] at this;exact this
 have f1:=fresh R hl1;have f2:=fresh (R.same s1) hl2;have f3:=fresh R2 ho
 have s3:aa (hid (LL p0 q r Z) (upd (upd H l1 (.tup [V.int 1])) l2 (.lst [V.int 1]))) (hid (LL p0 q r Z) (upd (upd (upd H l1 (.tup [V.int 1])) l2 (.lst [V.int 1])) o (.lst [V.int 0,V.int (-1),V.int ((a.length:Int)+(b.length:Int)+1),V.bl true,V.non,V.str "1",V.ref l1,V.ref l2,V.int (10 ^ 20),V.int 1,v]))) :=
  aD (fun c hc=> .inl hc) fun c u _ e=>aa.upd ho c u e
 have g1:hid (LL p0 q r Z) (upd (upd H l1 (.tup [V.int 1])) l2 (.lst [V.int 1])) l1=some (.tup [V.int 1]):=by rw [aJ f1];exact s2 _ _ af
 have g2:hid (LL p0 q r Z) (upd (upd H l1 (.tup [V.int 1])) l2 (.lst [V.int 1])) l2=some (.lst [V.int 1]):=by rw [aJ f2];exact af
 exact h o _ _ R3 af (fun z=>f3 (by rw [z];simp)) ⟨rfl,rfl,rfl,rfl,rfl,rfl,⟨l1,_,rfl,s3 _ _ g1,rfl,trivial⟩,⟨l2,_,rfl,s3 _ _ g2,rfl,trivial⟩,rfl,rfl,s3.repD rv,trivial⟩
theorem tst{i:Nat}{u v:Int}{Q:Bool->Hp->Prop}(h:σ[i]?=some (some (.int u)))(q:Q (decide (u=v)) H):ud (tOp rEq (bR i) (tC (.int v))) σ H Q :=
 ⟨_,h,rfl,_,rfl,by rw [show decide (V.int u=V.int v)=decide (u=v) from decide_eq_decide.mpr ⟨fun z=>V.int.inj z,fun z=>by rw [z]⟩];exact q⟩
theorem f1_inv{ds:List D}{o:Res×D}(h:f1 fd ds=some o):∃ pen w a b way pen1 s pen2 x t pen3,ds=[pen,w,.tup [.tup a,.tup b]]/\dw fd pen 4=some (way,pen1)/\way≠0/\dw fd pen1 2=some (s,pen2)/\rowAt s a b=some x/\dw fd pen2 (x.length:Nat)=some (t,pen3)/\0<=t/\((way=1/\f1a fd s t a b x pen3=some o)\/(way≠1/\f1b fd s t a b x pen3=some o)):=by
 unfold f1 at h
 split at h
 ·rename_i pen w a b
  obtain ⟨⟨way,pen1⟩,e1,h⟩:=CN.mp h
  split at h
  ·cases h
  ·rename_i hw
   obtain ⟨⟨s,pen2⟩,e2,h⟩:=CN.mp h;obtain ⟨x,e3,h⟩:=CN.mp h;obtain ⟨⟨t,pen3⟩,e4,h⟩:=CN.mp h
   split at h
   ·rename_i ht
    refine ⟨pen,w,a,b,way,pen1,s,pen2,x,t,pen3,rfl,e1,hw,e2,e3,e4,ht,?_⟩
    split at h
    ·exact .inl ⟨‹_›,h⟩
    ·exact .inr ⟨‹_›,h⟩
   ·cases h
 ·cases h
theorem Bp{t:Int}{o:Res×D}(h:f1a fd s t a b x pen=some o):∃ k pen4 a0 c d,dw fd pen 11=some (k,pen4)/\a[0]?=some a0/\x[t.toNat]?=some c/\(oddL a b a0)[k.toNat]?=some d/\0<=k/\o=(.ok (.tup [.tup (rowPut s a b (x.set t.toNat d)).1,.tup (rowPut s a b (x.set t.toNat d)).2]) false,pen4):=by
 unfold f1a at h;obtain ⟨⟨k,pen4⟩,e1,h⟩:=CN.mp h;obtain ⟨a0,e2,h⟩:=CN.mp h;obtain ⟨c,e3,h⟩:=CN.mp h;obtain ⟨d,e4,h⟩:=CN.mp h
 split at h
 ·exact ⟨k,pen4,a0,c,d,e1,e2,e3,e4,‹_›,(Option.some.inj h).symm⟩
 ·cases h
theorem Bo{t:Int}{o:Res×D}(h:f1b fd s t a b x pen=some o):∃ u pen4 y j pen5 kept d y1,dw fd pen 2=some (u,pen4)/\rowAt u a b=some y/\dw fd pen4 (y.length:Nat)=some (j,pen5)/\x[t.toNat]?=some kept/\y[j.toNat]?=some d/\rowAt u (rowPut s a b (x.set t.toNat d)).1 (rowPut s a b (x.set t.toNat d)).2=some y1/\0<=j /\
 o=(.ok (.tup [.tup (rowPut u (rowPut s a b (x.set t.toNat d)).1 (rowPut s a b (x.set t.toNat d)).2 (y1.set j.toNat kept)).1,.tup (rowPut u (rowPut s a b (x.set t.toNat d)).1 (rowPut s a b (x.set t.toNat d)).2 (y1.set j.toNat kept)).2]) false,pen5):=by
 unfold f1b at h;obtain ⟨⟨u,pen4⟩,e1,h⟩:=CN.mp h;obtain ⟨y,e2,h⟩:=CN.mp h;obtain ⟨⟨j,pen5⟩,e3,h⟩:=CN.mp h;obtain ⟨kept,e4,h⟩:=CN.mp h;obtain ⟨d,e5,h⟩:=CN.mp h;obtain ⟨y1,e6,h⟩:=CN.mp h
 split at h
 ·exact ⟨u,pen4,y,j,pen5,kept,d,y1,e1,e2,e3,e4,e5,e6,‹_›,(Option.some.inj h).symm⟩
 ·cases h
theorem jx{y y1:List D}{u:Int}{n:Nat}{d:D}(hx:rowAt s a b=some x)(hy:rowAt u a b=some y)(h:rowAt u (rowPut s a b (x.set n d)).1 (rowPut s a b (x.set n d)).2=some y1):y1.length=y.length:=by
 unfold rowAt at hx hy h;unfold rowPut at h
 by_cases s0:s=0
 ·rw [if_pos s0] at hx h
  cases hx
  by_cases u0:u=0
  ·rw [if_pos u0] at hy h;cases hy;cases h;exact C3
  ·rw [if_neg u0] at hy h
   by_cases u1:u=1
   ·rw [if_pos u1] at hy h;cases hy;cases h;rfl
   ·rw [if_neg u1] at hy;cases hy
 ·rw [if_neg s0] at hx h
  by_cases s1:s=1
  ·rw [if_pos s1] at hx
   cases hx
   by_cases u0:u=0
   ·rw [if_pos u0] at hy h;cases hy;cases h;rfl
   ·rw [if_neg u0] at hy h
    by_cases u1:u=1
    ·rw [if_pos u1] at hy h;cases hy;cases h;exact C3
    ·rw [if_neg u1] at hy;cases hy
  ·rw [if_neg s1] at hx;cases hx
end
section
variable{K:E2}{Z:List Addr}{p0:Addr}{H0 H H':Hp}{q r p:Addr}{a b x:List D}{pen pen':D}{s t:Int}{σ:St}{fd:FS}{E:XK}{Q:St->Hp->Prop}{D0:mW}
theorem sA{te:TE}{g:TG}{u:TS}(h:te σ H fun x H1=>g x σ H1 (u D0)):fg (dQ te g) u D0 σ H:=h
theorem sN{te:TE}{i:Nat}{u:TS}(h:te σ H fun x H1=>u D0 (σ.set i (some x)) H1):fg (dQ te (dD i)) u D0 σ H:=h
theorem aG{te:TE}{g:TG}(h:te σ H fun x H1=>g x σ H1 D0.nx):dQ te g D0 σ H:=h
theorem sI{c:TT}{t1 t2 u:TS}(h:c σ H fun b H1=>if b=true then t1 { D0 with nx:=u D0 } σ H1 else t2 { D0 with nx:=u D0 } σ H1):fg (zR c t1 t2) u D0 σ H:=h
theorem oP{r:R2}{ta tb:TE}{Q:VK}(h:ta σ H fun x H1=>tb σ H1 fun y H2=>r x y H2 Q):tOp r ta tb σ H Q:=h
theorem vR{i:Nat}{v:V}{Q:VK}(h:σ[i]?=some (some v))(q:Q v H):bR i σ H Q:=⟨v,h,q⟩
theorem goA{y1 y2 y5 y8 y9 y10 y11:Option V}{o:Res×D}(R:RW K Z p0 H0 H q r p a b pen)(hx:rowAt s a b=some x)(ht:0<=t)(two:f1a fd s t a b x pen=some o)
 (h:∀ a' b' pen' H' z8,o=(.ok (.tup [.tup a',.tup b']) false,pen')->RW K Z p0 H0 H' q r p a' b' pen'->D0.nx [some (.ref p0),y1,y2,some (.ref p),some (.int 1),y5,some (.int s),some (.int t),z8,y9,y10,y11] H') :
 fg (dQ (tOdd K) (dD 8)) (dQ (tOp (lU K) (bR 8) (mZ K fd E (tC (.int 11)))) (qV (fh K (bR 6)) (bR 7) jy)) D0 [some (.ref p0),y1,y2,some (.ref p),some (.int 1),y5,some (.int s),some (.int t),y8,y9,y10,y11] H:=by
 obtain ⟨k,pen4,a0,c,d,d4,ha0,hc,hd,hk,rfl⟩:=Bp two;refine sN (R.odd rfl ha0 fun o H4 us R ho no ru=> ?_);refine aG (oP (vR (v:= .ref o) rfl ?_));obtain ⟨v,hv,rv⟩:=ru.get hd
 refine R.draw rfl (fun _ z=>z) d4 fun H5 f5 R=>⟨o,us,k,v,rfl,rfl,.inl (.inl (f5.keep _ _ (by simpa using no) ho)),?_,?_⟩
 ·unfold atI
  rw [iB hk rfl (Cv.mp hv).1];exact hv
 ·have rv:ay K (hid (LL p0 q r Z) H5) d v:=aa.repD (aD (fun b hb=> .inl hb) fun b o n e=>f5.keep b o (fun z=>n (Cp _ z)) e) rv
  exact R.put hx rfl (fun _ y=>⟨_,rfl,y⟩) (fun _ y=>⟨_,rfl,y⟩) ht hc rv fun H6 _ R=>h _ _ _ _ _ rfl R
theorem goB{y1 y2 y5 y8 y9 y10 y11:Option V}{o:Res×D}{w:Int}(R:RW K Z p0 H0 H q r p a b pen)(hx:rowAt s a b=some x)(ht:0<=t)(two:f1b fd s t a b x pen=some o)
 (h:∀ a' b' pen' H' z9 z10 z11,o=(.ok (.tup [.tup a',.tup b']) false,pen')->RW K Z p0 H0 H' q r p a' b' pen'->D0.nx [some (.ref p0),y1,y2,some (.ref p),some (.int w),y5,some (.int s),some (.int t),y8,z9,z10,z11] H') :
 fg (dQ (mZ K fd E (tC (.int 2))) (dD 9)) (fg (dQ (mZ K fd E (qh K (bR 9))) (dD 10)) (fg (dQ (tOp (lU K) (fh K (bR 6)) (bR 7)) (dD 11)) (fg (dQ (tOp (lU K) (fh K (bR 9)) (bR 10)) (qV (fh K (bR 6)) (bR 7) jy)) (dQ (bR 11) (qV (fh K (bR 9)) (bR 10) jy))))) D0
  [some (.ref p0),y1,y2,some (.ref p),some (.int w),y5,some (.int s),some (.int t),y8,y9,y10,y11] H:=by
 obtain ⟨u,pen4,y,j,pen5,kept,d,y1,d4,hy,d5,hk,hd,hy1,hj,rfl⟩:=Bo two;refine sN (R.draw rfl (fun _ z=>z) d4 fun H4 _ R=> ?_);refine sN (R.draw rfl (fun Q' z=>R.len hy rfl (fun _ y=>⟨_,rfl,y⟩) z) d5 fun H5 _ R=> ?_);refine sN (R.item hx rfl (fun _ y=>⟨_,rfl,y⟩) (fun _ y=>⟨_,rfl,y⟩) ht hk fun v rv=> ?_);refine sA (R.item hy rfl (fun _ y=>⟨_,rfl,y⟩) (fun _ y=>⟨_,rfl,y⟩) hj hd fun v2 rv2=> ?_)
 refine R.put hx rfl (fun _ y=>⟨_,rfl,y⟩) (fun _ y=>⟨_,rfl,y⟩) ht hk rv2 fun H6 fr6 R6=> ?_
 refine aG (vR rfl ?_);have hl:=jx hx hy hy1;obtain ⟨c0,hc0⟩:∃ c0,y1[j.toNat]?=some c0:=⟨_,Ch (by rw [hl];exact (Cv.mp hd).1)⟩
 exact R6.put hy1 rfl (fun _ y=>⟨_,rfl,y⟩) (fun _ y=>⟨_,rfl,y⟩) hj hc0 (fr6 _ _ rv) fun H7 _ R7=>h _ _ _ _ _ _ _ rfl R7
theorem cw{y1 y2 y5 y6 y7 y8 y9 y10 y11:Option V}{o:Res×D}{w:Int}{pen1 pen2:D}{Q:VK}(R:RW K Z p0 H0 H q r p a b pen)(d2:dw fd pen 2=some (s,pen1))(hx:rowAt s a b=some x)(d3:dw fd pen1 (x.length:Nat)=some (t,pen2))(ht:0<=t)
 (two:(w=1/\f1a fd s t a b x pen2=some o)\/(w≠1/\f1b fd s t a b x pen2=some o)) (hQ:D0.rt=Q)
 (h:∀ a' b' pen',o=(.ok (.tup [.tup a',.tup b']) false,pen')->∀ v H',Fr [p0] H0 H'->ay K (hid ([p0]++Z) H') (.tup [.tup a',.tup b']) v->(∀ c,[p0]=[c]->aM K H' (hid ([p0]++Z) H') c pen')->Q v H') :
 BI K fd E D0 [some (.ref p0),y1,y2,some (.ref p),some (.int w),y5,y6,y7,y8,y9,y10,y11] H:=by
 subst hQ;refine sN (R.draw rfl (fun _ z=>z) d2 fun H2 _ R=> ?_);refine sN (R.draw rfl (fun Q' z=>R.len hx rfl (fun _ y=>⟨_,rfl,y⟩) z) d3 fun H3 _ R=> ?_);refine sI (tst (u:=w) rfl ?_)
 rcases two with ⟨hw1,two⟩ | ⟨hw1,two⟩
 ·rw [if_pos (by simpa using hw1)]
  subst hw1
  exact goA R hx ht two fun a' b' pen' H' z8 e R=>R.ret rfl (h a' b' pen' e)
 ·rw [if_neg (by simpa using hw1)]
  exact goB R hx ht two fun a' b' pen' H' z9 z10 z11 e R=>R.ret rfl (h a' b' pen' e)
theorem body{vs:List V}{Q:VK}{Ex:XK}{t0:TS}{N:List Str}(hN:N.length=12)(h:spF K (some 0) (f1 fd) vs H Q Ex):tBody K fd E t0 { nx:=fun _ H'=>Q .non H',rt:=Q } (cQ N vs) H:=by
 unfold cQ;rw [hN];obtain ⟨Z,W,ds,h1,hwz,hmt,hfz,hio,_,hm⟩:=h;obtain ⟨p0,pen,e0,e0',hW,hO⟩:=hio 0 rfl;subst hW
 cases e:f1 fd ds with
 | none=>rw [e] at hm;exact hm.elim
 | some o =>
  rw [e] at hm;obtain ⟨pen',w,a,b,way,pen1,s,pen2,x,t,pen3,rfl,d1,hw,d2,hx,d3,ht,two⟩:=f1_inv e;cases e0'
  match vs,h1,e0,hfz with
  | [v0,v1,v2],_,e0,hfz =>
   cases e0;obtain ⟨pt,l,hv2,hpt,hab⟩:=hfz 2 _ v2 (by decide) rfl rfl;subst hv2
   match l,hab with
   | [_,_],⟨⟨ta,xs,rfl,hta,rxs⟩,⟨tb,ys,rfl,htb,rys⟩,_⟩ =>
    have gt:∀ {c o},hid ([p0]++Z) H c=some o->H c=some o:=fun e=>(am e).2
    refine sN ?_;refine ⟨_,rfl,pt,_,0,_,rfl,rfl,.inl (.inl (gt hpt)),rfl,ta,xs,rfl,.inr (.inl (.inl (gt hta))),fun q hq=> ?_⟩;have s1:=aa.upd (o:= .lst xs) hq;refine ⟨_,rfl,pt,_,1,_,rfl,rfl,.inl (.inl (s1 _ _ (gt hpt))),rfl,tb,ys,rfl,.inr (.inl (.inl (s1 _ _ (gt htb)))),fun r hr=>⟨by show 2<=sizeLine;decide,fun p hp=> ?_⟩⟩;have s2:=aa.upd (o:= .lst ys) hr;have s3:=aa.upd (o:= .lst [V.ref q,V.ref r]) hp;have s13:=(s1.trans s2).trans s3;have nr:H r=none:=s1.free hr;have np:H p=none:=(s1.trans s2).free hp;have mu0:=hO.mu
    have ne:∀ {c:Addr},H c=none->c≠p0:=fun {c} hc z=>by rw [z] at hc;rw [hc] at mu0;exact mu0
    have n1:q≠r:=fun z=>by rw [<- z,af] at hr;cases hr
    have hq2:(upd (upd H q (.lst xs)) r (.lst ys)) q=some (.lst xs):=s2 _ _ af
    have n2:p≠q:=fun z=>by rw [z,hq2] at hp;cases hp
    have n3:p≠r:=fun z=>by rw [z,af] at hp;cases hp
    generalize hH3:upd (upd (upd H q (.lst xs)) r (.lst ys)) p (.lst [V.ref q,V.ref r])=H3 at *
    have sv:aa (hid ([p0]++Z) H) (hid (LL p0 q r Z) H3):=aD (fun c hc=>by
     rcases CI.mp hc with z | z
     ·exact .inl (Cp _ z)
     ·rcases Cr.mp z with z | z
      ·exact .inr (by rw [z];exact hq)
      ·rcases Cr.mp z with z | z
       ·exact .inr (by rw [z];exact nr)
       ·exact .inl (Co _ z)) fun c u _ e=>s13 c u e
    have hq3:H3 q=some (.lst xs):=s3 _ _ hq2;have hr3:H3 r=some (.lst ys):=s3 _ _ af
    have hp3:H3 p=some (.lst [V.ref q,V.ref r]):=by rw [<- hH3];exact af
    have mz:∀ c∈[p0]++Z,dO (H3 c):=fun c hc=>by
     obtain ⟨u,hu⟩:=(hmt c hc).some;rw [s13 _ _ hu,<- hu];exact hmt c hc
    have R:RW K Z p0 H H3 q r p a b pen:=⟨xs,ys,⟨hO.at (by obtain ⟨u,hu⟩:=mu0.some;rw [hu];exact s13 _ _ hu) sv,s13.fr,fun c hc=>by
     rcases CI.mp hc with z | z
     ·exact mz c (Cp _ z)
     ·rcases Cr.mp z with z | z
      ·rw [z,hq3];trivial
      ·rcases Cr.mp z with z | z
       ·rw [z,hr3];trivial
       ·exact mz c (Co _ z),hq3,hr3,hp3,sv.repDs rxs,sv.repDs rys,hq,nr,hwz p0 (CC.mpr rfl),n1,n2,n3,ne hq,ne nr,ne np⟩⟩
    refine sN (R.draw rfl (fun _ z=>z) d1 fun H1 _ R=> ?_);refine sI (tst (u:=way) rfl ?_);rw [if_neg (by simpa using hw)]
    refine cw R d2 hx d3 ht two rfl fun a' b' pen' e=> ?_
    subst e;exact hm
end
end L2.Od
namespace L2
open PySem PySem.Spec PyProof.Rows
noncomputable def yt:List D->Option (D×Bool)
 | [.tup ds]=>some (.tup ds.reverse,false)
 | _=>none
noncomputable def rRev(K:E2):List V->Hp->VK->Prop
 | [v],H,Q=>∃ i,V.int 1 = .int i/\∃ i',V.int (-i) = .int i'/\∃ a xs,some i'=some (-1)/\v = .ref a/\SqT K H a xs/\∀ p,H p=none->Q (.ref p) (upd H p (.tup xs.reverse))
 | _,_,_=>False
theorem os_rev{K:E2}:OpS K (rRev K) yt:=by
 intro vs ds H L Q d nw hm r e q;unfold yt at e
 split at e
 ·rename_i ds
  cases e
  match vs,r with
  | [v],⟨⟨a,xs,h1,h2,h3⟩,_⟩ =>
   refine ⟨1,rfl,-1,rfl,a,xs,rfl,h1,.inl (.inl (am h2).2),fun p hp=>q _ _ (aa.upd hp) ⟨p,xs.reverse,rfl,?_,?_⟩⟩
   ·rw [aJ (fun z=>by have:=hm p z;rw [hp] at this;exact this)]
    exact af
   ·exact ((aD (fun b hb=> .inl hb) fun b o _ e=>aa.upd hp b o e:aa (hid L H) _).repDs h3).rev
 ·cases e
theorem c_rev{X:Cx}{EX:EXT}{e:Expr}{x:Arg}{j}{p1 p2 p3 pos:Pos}(ha:JB X EX e x):JE X EX (.Subscript e (.Slice none none (some (.UnaryOp .USub (.Constant (.int 1) j p1) p3)) p2) pos) (sOp yt [x]) :=
 ⟨(AE ha.p (BZ wE aX)).by fun σ H Q ⟨F,ρ,W,R,h⟩=>cV os_rev R h⟩
end L2
namespace L2
open PyProof.Rows
theorem gF:∀ {a b:List Int},a.Pairwise (·<= ·)->b.Pairwise (·<= ·)->a.Perm b->a=b
 | [],b,_,_,p=>by rw [p.nil_eq]
 | x::a,[],_,_,p=>absurd p.symm.nil_eq (by simp)
 | x::a,y::b,ha,hb,p=>by
  have ha':=C9.mp ha;have hb':=C9.mp hb
  have e:x=y:=by
   have h1:x∈y::b:=p.mem_iff.mp Cs;have h2:y∈x::a:=p.mem_iff.mpr Cs
   rcases Cr.mp h1 with h | h
   ·exact h
   ·rcases Cr.mp h2 with g | g
    ·exact g.symm
    ·have:=hb'.1 x h
     have:=ha'.1 y g;omega
  subst e;rw [gF ha'.2 hb'.2 (List.Perm.cons_inv p)]
theorem lS(lo:Int):∀ n,(rgI lo n).Pairwise (·<= ·)
 | 0=>List.Pairwise.nil
 | n+1=>by
  rw [dz,List.pairwise_append];refine ⟨lS lo n,List.pairwise_singleton _ _,fun a ha b hb=> ?_⟩;rw [CC.mp hb];have:=aC.mp ha;omega
theorem br(lo:Int):∀ n,(rgI lo n).Nodup
 | 0=>DJ
 | n+1=>by
  rw [dz,List.nodup_append];refine ⟨br lo n,List.pairwise_singleton _ _,fun a ha b hb=> ?_⟩;rw [CC.mp hb];have:=aC.mp ha;omega
theorem uh(lo:Int)(m:Nat):∀ n,rgI lo (m+n)=rgI lo m++rgI (lo+(m:Nat)) n
 | 0=>by simp [rgI]
 | n+1=>by
  rw [<- Nat.add_assoc,dz,uh lo m n,dz,DB]
  congr 3
  omega
theorem nn{l m:List Int}(h:l.Perm m)(hm:m.Pairwise (·<= ·)):eP l=m:=gF (fJ l) hm ((eO l).trans h)
theorem vG{l:List Int}{lo:Int}{n:Nat}(h:l.Perm (rgI lo n)):eP l=rgI lo n:=nn h (lS lo n)
theorem kO:∀ (l acc:List Int),(l++acc).Nodup->(l.foldl step_dedup acc).length=acc.length+l.length
 | [],acc,_=>rfl
 | x::l,acc,h=>by
  have h':=CQ.mp h
  have e:(step_dedup acc x).length=acc.length+1/\(step_dedup acc x).Perm (x::acc):=by
   unfold step_dedup;rw [if_neg]
   ·exact ⟨by simp,by first | exact List.Perm.refl _ | exact Eh x acc⟩
   ·intro z
    refine h'.1 (Co _ ?_)
    first
     | (obtain ⟨y,hy,e⟩:=List.any_eq_true.mp z;rw [<- eq_of_beq e];exact hy)
     | simpa using z
  have nd:(l++step_dedup acc x).Nodup:=by
   refine ((List.Perm.append_left l e.2).trans ?_).nodup_iff.mpr h;exact List.perm_middle
  rw [EQ,kO l _ nd,e.1,CA];omega
theorem pK{l:List Int}(h:l.Nodup):(dd l).length=l.length:=by
 have:=kO l [] (by simpa using h);unfold dd;simpa using this
theorem rA:∀ (l acc:List Int),acc.Nodup->(l.foldl step_dedup acc).Nodup
 | [],acc,h=>h
 | x::l,acc,h=>by
  rw [EQ];refine rA l _ ?_;unfold step_dedup
  split
  ·exact h
  ·rename_i hn
   have hx:x∉acc:=fun z=>hn (by
    first
     | exact List.any_eq_true.mpr ⟨x,z,EH x⟩
     | simpa using z)
   first
    | exact CQ.mpr ⟨hx,h⟩
    | exact (Eh x acc).nodup_iff.mpr (CQ.mpr ⟨hx,h⟩)
theorem Ca(l:List Int):(dd l).Nodup:=rA l [] DJ
theorem vS{l m:List Int}(hm:m.Nodup)(h:∀ x,x∈l↔x∈m):(dd l).length=m.length:=by
 have h1:(dd l).length<=m.length:=by
  have:(dd l).Subset m:=fun x hx=>(h x).mp ((kw l x).mp hx)
  exact Dk (Ca l) this
 have h2:m.length<=(dd l).length:=by
  have:m.Subset (dd l):=fun x hx=>(kw l x).mpr ((h x).mpr hx)
  exact Dk hm this
 omega
theorem eJ{l:List Int}{lo:Int}{n:Nat}(nd:l.Nodup)(hl:l.length=n)(hb:∀ x∈l,lo<=x/\x < lo+n):l.Perm (rgI lo n):=by
 refine (List.perm_ext_iff_of_nodup nd (br lo n)).mpr fun a=>⟨fun ha=>aC.mpr (hb a ha),fun ha=> ?_⟩
 by_cases h:a∈l
 ·exact h
 ·have sub:(a::l) ⊆ rgI lo n:=fun x hx=>by
   rcases Cr.mp hx with rfl | hx
   ·exact ha
   ·exact aC.mpr (hb x hx)
  have:=Dk (CQ.mpr ⟨h,nd⟩) sub;rw [CA,ax] at this;omega
end L2
namespace L2
noncomputable def dnI(hi:Int)(n:Nat):List Int:=(List.range n).map fun k=>hi - (k:Nat)
noncomputable def cL(b:Bool)(lo hi:Int):List Nat->List Int
 | []=>[]
 | l::r=>if b then dnI hi l++cL false lo (hi - l - 1) r else rgI lo l++cL true (lo+l+1) hi r
end L2
namespace L2
theorem bi{α β:Type}{f:α->β}:∀ {l:List α},l.Nodup->(∀ x∈l,∀ y∈l,f x=f y->x=y)->(l.map f).Nodup
 | [],_,_=>DJ
 | x::l,nd,h=>by
  have nd:=CQ.mp nd;rw [CF,CQ];refine ⟨fun z=> ?_,bi nd.2 fun a ha b hb=>h a (Cn _ ha) b (Cn _ hb)⟩;obtain ⟨y,hy,e⟩:=C0.mp z;have:=h y (Cn _ hy) x Cs e;subst this;exact nd.1 hy
abbrev stG(ps:List Int)(t:Int×Int):Int:=((ps.getD t.1.toNat 0 - ps.getD t.2.toNat 0).natAbs:Nat)
structure Prt(ts:List (Int×Int))(q:Nat)(ps:List Int)(P:Int):Prop where
 p:ps.Perm (rgI 0 (q+1))
 s:(ts.map (stG ps)).Perm (rgI 1 q)
 m:∀ t∈ts,min (ps.getD t.1.toNat 0) (ps.getD t.2.toNat 0)<=P/\P < max (ps.getD t.1.toNat 0) (ps.getD t.2.toNat 0)
 r:∀ t∈ts,0<=t.1/\t.1 < (q:Int)+1/\0<=t.2/\t.2 < (q:Int)+1
 q0:0 < q
theorem Prt.len{ts:List (Int×Int)}{q:Nat}{ps:List Int}{P:Int}(h:Prt ts q ps P):ps.length=q+1:=by rw [h.p.length_eq,ax]
theorem Prt.tlen{ts:List (Int×Int)}{q:Nat}{ps:List Int}{P:Int}(h:Prt ts q ps P):ts.length=q:=by have:=h.s.length_eq;rwa [Ci,ax] at this
theorem gZ{l:List Int}{i:Nat}(h:i < l.length):l.getD i 0∈l:=by rw [Ck,Ch h];exact CT h
theorem Prt.at{ts:List (Int×Int)}{q:Nat}{ps:List Int}{P:Int}(h:Prt ts q ps P){i:Int}(h0:0<=i)(h1:i < (q:Int)+1):0<=ps.getD i.toNat 0/\ps.getD i.toNat 0<=q:=by
 have:=aC.mp (h.p.mem_iff.mp (gZ (l:=ps) (i:=i.toNat) (by rw [h.len];omega)));omega
theorem Prt.one{ts:List (Int×Int)}{q:Nat}{ps:List Int}{P:Int}(h:Prt ts q ps P):∃ t∈ts,min (ps.getD t.1.toNat 0) (ps.getD t.2.toNat 0)=P/\max (ps.getD t.1.toNat 0) (ps.getD t.2.toNat 0)=P+1:=by
 have:(1:Int)∈ts.map (stG ps):=h.s.mem_iff.mpr (aC.mpr (by have:=h.q0;omega));obtain ⟨t,ht,e⟩:=C0.mp this;have:=h.m t ht;have e:(((ps.getD t.1.toNat 0 - ps.getD t.2.toNat 0).natAbs:Nat):Int)=1:=e;exact ⟨t,ht,by omega,by omega⟩
theorem Prt.P0{ts:List (Int×Int)}{q:Nat}{ps:List Int}{P:Int}(h:Prt ts q ps P):0<=P/\P < q:=by
 obtain ⟨t,ht,e1,e2⟩:=h.one;obtain ⟨r1,r2,r3,r4⟩:=h.r t ht;have a1:=h.at r1 r2;have a2:=h.at r3 r4;omega
theorem Prt.max{ts:List (Int×Int)}{q:Nat}{ps:List Int}{P:Int}(h:Prt ts q ps P):dZ (ts.map fun t=>min (ps.getD t.1.toNat 0) (ps.getD t.2.toNat 0))=P:=by
 obtain ⟨t,ht,e1,e2⟩:=h.one
 have ne:(ts.map fun t=>min (ps.getD t.1.toNat 0) (ps.getD t.2.toNat 0))≠[]:=fun z=>by rw [List.map_eq_nil_iff] at z;rw [z] at ht;exact absurd ht Dz
 obtain ⟨m1,m2⟩:=iw ne;have:=m2 P (C0.mpr ⟨t,ht,e1⟩);obtain ⟨u,hu,e⟩:=C0.mp m1;have:=h.m u hu;omega
theorem iC{f:Int->Int}{l:List Int}{i:Nat}(h:i < l.length):(l.map f).getD i 0=f (l.getD i 0):=by
 simp [Ck,CG,Ch h]
end L2
namespace L2
theorem jC{α β:Type}{f:α->β}:∀ {l:List α},(l.map f).Nodup->l.Nodup
 | [],_=>DJ
 | x::l,h=>by
  rw [CF] at h;have h:=CQ.mp h;exact CQ.mpr ⟨fun z=>h.1 (C0.mpr ⟨x,z,rfl⟩),jC h.2⟩
end L2
namespace L2
end L2
namespace L2
end L2
namespace L2
end L2
namespace L2
abbrev smT(ps:List Int)(t:Int×Int):Int:=ps.getD t.1.toNat 0+ps.getD t.2.toNat 0
structure Tot(n:Nat)(ts:List (Int×Int))(ps us:List Int)(c:Int):Prop where
 lp:ps.length=n
 lu:us.length=ts.length
 b:∀ x∈ps++us,1<=x/\x<=(n:Int)+ts.length
 d:(ps++us).Nodup
 s:∀ i,i < ts.length->smT ps (ts.getD i (0,0))+us.getD i 0=c
abbrev yM(n:Nat)(ts:List (Int×Int))(ps:List Int)(L:Int):List Int:=(ts.map (smT ps)).map fun x=>L+(n:Int)+ts.length - x
theorem Bm{c:Int}{ts:List (Int×Int)}{ps:List Int}{i:Nat}(h:i < ts.length):smT ps (ts.getD i (0,0))+((ts.map (smT ps)).map fun x=>c - x).getD i 0=c:=by
 have e:((ts.map (smT ps)).map fun x=>c - x).getD i 0=c - smT ps (ts.getD i (0,0)):=by
  rw [Ck,CG,CG,Ck,Ch h];rfl
 rw [e];omega
theorem A5{n:Nat}{ts:List (Int×Int)}{ps:List Int}{L:Int}(hp:ps.Perm (rgI 1 n))(hs:(ts.map (smT ps)).Perm (rgI L ts.length)):Tot n ts ps (yM n ts ps L) (L+n+ts.length):=by
 have hb:∀ x∈yM n ts ps L,(n:Int) < x/\x<=(n:Int)+ts.length:=fun x hx=>by
  obtain ⟨y,hy,rfl⟩:=C0.mp hx;have:=aC.mp (hs.mem_iff.mp hy);omega
 have ha:∀ x∈ps,1<=x/\x<=(n:Int):=fun x hx=>by
  have:=aC.mp (hp.mem_iff.mp hx);omega
 refine ⟨by rw [hp.length_eq,ax],by rw [Ci,Ci],fun x hx=> ?_,?_,fun i hi=>Bm hi⟩
 ·rcases CI.mp hx with h | h
  ·have:=ha x h;omega
  ·have:=hb x h;omega
 ·refine List.nodup_append.mpr ⟨hp.nodup_iff.mpr (br _ _),bi (hs.nodup_iff.mpr (br _ _)) fun x _ y _ e=>by omega,fun x hx y hy e=> ?_⟩
  have h1:=ha x hx;have h2:=hb y hy;omega
noncomputable def upT(q P x:Int):Int:=if x<=P then x else q+P+1 - x
theorem Prt.upT_perm{ts:List (Int×Int)}{q:Nat}{ps:List Int}{P:Int}(h:Prt ts q ps P):((ps.map (upT q P)).map fun x=>x+1).Perm (rgI 1 (q+1)):=by
 have P0:=h.P0;rw [Dd]
 refine eJ (bi (h.p.nodup_iff.mpr (br _ _)) fun x hx y hy e=> ?_) (by rw [Ci,h.len]) fun x hx=> ?_
 ·have hx:=aC.mp (h.p.mem_iff.mp hx)
  have hy:=aC.mp (h.p.mem_iff.mp hy);have e:upT q P x+1=upT q P y+1:=e;unfold upT at e
  split at e<;>split at e<;>omega
 ·obtain ⟨y,hy,rfl⟩:=C0.mp hx
  have hy:=aC.mp (h.p.mem_iff.mp hy)
  show 1<=upT q P y+1/\upT q P y+1 < 1+((q+1:Nat):Int)
  unfold upT
  split<;>omega
theorem Prt.upT_sums{ts:List (Int×Int)}{q:Nat}{ps:List Int}{P:Int}(h:Prt ts q ps P):(ts.map (smT ((ps.map (upT q P)).map fun x=>x+1))).Perm (rgI (P+3) ts.length):=by
 have P0:=h.P0;have tl:=h.tlen
 have e:(ts.map (smT ((ps.map (upT q P)).map fun x=>x+1)))=(ts.map (stG ps)).map fun s=>(q:Int)+P+3 - s:=by
  rw [Dd (l:=ts)]
  refine C1 fun t ht=> ?_
  obtain ⟨r1,r2,r3,r4⟩:=h.r t ht;have hl:=h.len
  show smT ((ps.map (upT q P)).map fun x=>x+1) t=(q:Int)+P+3 - (((ps.getD t.1.toNat 0 - ps.getD t.2.toNat 0).natAbs:Nat):Int)
  unfold smT;rw [iC (by rw [Ci];omega),iC (by omega),iC (by rw [Ci];omega),iC (by omega)];have:=h.m t ht;unfold upT
  split<;>split<;>omega
 rw [e,tl];refine (h.s.map _).trans ?_
 refine eJ (bi (br _ _) fun x hx y hy z=>by omega) (by rw [Ci,ax]) fun x hx=> ?_
 obtain ⟨y,hy,rfl⟩:=C0.mp hx;have hy:=aC.mp hy;omega
noncomputable def uw(l:List Int)(lo:Int):Bool:=decide (eP l=rgI lo l.length)
theorem l8{l:List Int}{lo:Int}(h:uw l lo=true):l.Perm (rgI lo l.length):=by
 have:=Cz h;rw [<- this];exact (eO l).symm
end L2
namespace L2
abbrev kI(ns:List Int):List Key:=ns.map Sum.inl
theorem sS{ns:List Int}{i:Int}(h:i∉ns):∀ vs:List D,aW (kI ns) vs (Sum.inl i)=none:=by
 induction ns with
 | nil=>intro vs;cases vs<;>rfl
 | cons u ns ih =>
  intro vs
  cases vs with
  | nil=>rfl
  | cons v vs =>
   show aW (Sum.inl u::kI ns) (v::vs) (Sum.inl i)=none
   unfold aW;rw [if_neg (fun e=>h (by rw [<- Sum.inl.inj e];exact Cs))];exact ih (fun z=>h (Cn _ z)) vs
theorem xk{ns:List Int}{i:Int}{d:D}(h:i∉ns):gB (kI ns) (List.replicate ns.length d) (Sum.inl i) d=(kI (ns++[i]),List.replicate (ns++[i]).length d):=by
 induction ns with
 | nil=>rfl
 | cons u ns ih =>
  show gB (Sum.inl u::kI ns) (List.replicate (ns.length+1) d) (Sum.inl i) d=_
  rw [Do];unfold gB;rw [if_neg (fun e=>h (by rw [<- Sum.inl.inj e];exact Cs)),ih fun z=>h (Cn _ z)];rfl
theorem yj{ns:List Int}(h:ns.Nodup):(kI ns).Nodup:=by
 induction ns with
 | nil=>exact DJ
 | cons u ns ih =>
  have h:=CQ.mp h;refine CQ.mpr ⟨fun z=> ?_,ih h.2⟩;obtain ⟨v,hv,e⟩:=C0.mp z;exact h.1 (by rw [<- Sum.inl.inj e];exact hv)
theorem gIn_dI{ns:List Int}{i:Int}(h:i∉ns){vs:List D}:gIn [.int i,.dK (kI ns) vs]=some (.bl false,false):=by
 show (match (some (aW (kI ns) vs (Sum.inl i)).isSome) with | some b=>some (D.bl b,false) | none=>none)=_
 rw [sS h];rfl
theorem zw{ns:List Int}{i:Int}{d:D}(h:i∉ns)(nd:ns.Nodup)(hl:ns.length<=1000):kC (.dK (kI ns) (List.replicate ns.length d)) (.int i) d=some (.dK (kI (ns++[i])) (List.replicate (ns++[i]).length d)):=by
 show (if (small (kI ns).length&&decide (kI ns).Nodup)=true then some (D.dK (gB (kI ns) (List.replicate ns.length d) (Sum.inl i) d).1 (gB (kI ns) (List.replicate ns.length d) (Sum.inl i) d).2) else none)=_
 rw [xk h,if_pos];rw [cy (by rw [Ci];omega),CK (yj nd)];rfl
end L2
set_option linter.all false
private def xp(r:Array String):Nat->Char->List Nat
 | 0,_=>[]
 | k+1,c=>let x:=c.toNat;if x < 80 then [x - 33 - (if x < 35 then 0 else 1)] else if 255 < x&&x < 1024 then [x - 210] else (r.getD (if x < 127 then x - 80 - (if x < 93 then 0 else 1) else x - 978) "").toList.flatMap (xp r k)
set_option hygiene false
set_option compiler.extract_closed false
private def ta:Lean.MacroM (Lean.TSyntax `tactic) := `(tactic| (exact .nil;(simp only [Dv,Dw,reduceIte,DG];exact rfl);refine .cons ?_ ?_;exact sY nd rfl (Or.inl rfl);(with_reducible assumption);omega;exact ⟨rfl,by decide +kernel,by decide +kernel,by decide +kernel,rfl,by decide +kernel,by decide +kernel,by decide +kernel,by decide +kernel⟩;exact ⟨rfl,rfl,rfl,by decide +kernel,rfl,by decide +kernel,by decide +kernel⟩;(first | exact Or.inl rfl | exact Or.inr (Or.inl rfl) | exact Or.inr (Or.inr rfl));refine t_ne hu ?_ ?_;(simp only [bQ,cO,zK,CM,CS,Dv,Dw,List.replicate,Dl,Dx,Db];exact rfl);refine q_eq hu ?_ ?_;exact CL (by omega);(simp only [Ci,Cy,DM,CA,DO,Dj,C3,ax,List.length_zipIdx,DN,List.length_reverse] at *;omega);intros;refine Cc (m:=T.len) (ha:= ?_);refine t_eq hu ?_ ?_;(simp only [iR];exact rfl);refine rM ?_ T.isi T.tuple;refine mY.ok (osc:=ac (top 36)) (N:=["pen", "most", "one", "other", "many", "ties", "numbers", "places", "top"]) ?_;(simp only [ini,jh,CA,DO,List.replicate,Dl,Dx,DE,Nat.reduceSub,Er,Nat.reduceAdd,Db,reduceCtorEq,reduceIte,Option.some.injEq,Nat.reduceEqDiff,Nat.zero_ne_one,Nat.one_ne_zero];exact rfl);intro x0 hx0;(with_reducible apply eX _ _);(with_reducible apply du _ _);refine tY ?_ T.isi T.bool;refine b_max (m:=T.max) (ha:= ?_);refine i_rng1 (by rfl) T.range ?_;exact sY nd rfl (Or.inr rfl);refine iE (m:=T.list) (ha:= ?_);refine s_item ?_ ?_ rfl ?_;refine yd _ ?_;refine mY.ok (osc:=ac (top 34)) (N:=["pen", "most", "many", "ties", "places", "numbers", "low", "one"]) ?_;exact CK (by omega);exact sY (nd_k (by kernel_rfl)) rfl (Or.inl rfl);refine BA (m:=T.range) (ha:= ?_);refine b_min (m:=T.min) (ha:= ?_);refine i_zip (by rfl) T.zip ?_;refine By (m:=T.tuple) (ha:= ?_);refine bw (N:=["web", "thing"]) h ?_ fun f cdv A outer s H E hr nd hu hu1=> ?_;refine wr ?_ T.isi T.int;refine lM nd rfl (Or.inl rfl) ?_;refine b_int (m:=T.int) (ha:= ?_);refine s_for rfl ?_ ?_ ?_;refine dN (M:=["one", "other", "ties", "a"]) (tgs:=["b"]) rfl ?_ ?_ ?_ ?_ ?_;refine mY.ok (osc:=ac (top 32)) (N:=["one", "other", "ties", "a"]) ?_;refine mY.ok (osc:=ac (top 33)) (N:=["many", "ties", "places", "sums", "top"]) ?_;refine s_dput hu1 ?_ ?_ rfl ?_;refine Bz (m:=T.sorted) (ha:= ?_);refine s_retV rfl ?_;refine b_all (m:=T.all) (ha:= ?_);refine mY.ok (osc:=ac (top 37)) (N:=["web", "thing", "row", "size", "seen", "one", "found"]) ?_;refine b_set (m:=T.set) (ha:= ?_);(with_reducible apply jL _);(with_reducible apply vJ _);(with_reducible apply qY _);(simp only [eG,CM,CS,Dv,Dw];exact rfl);have hy0:=aC.mp hx0;refine bw (N:=["thing"]) h ?_ fun f cdv A outer s H E hr nd hu hu1=> ?_;refine bw (N:=["web", "numbers"]) h ?_ fun f cdv A outer s H E hr nd hu hu1=> ?_;refine dN (M:=["web", "numbers"]) (tgs:=["a", "b"]) rfl ?_ ?_ ?_ ?_ ?_;refine mY.ok (osc:=ac (top 19)) (N:=["web", "numbers"]) ?_;refine g_tup rfl ?_;exact .no;refine bw (N:=["script", "k"]) h ?_ fun f cdv A outer s H E hr nd hu hu1=> ?_;refine bw (N:=["seed"]) h ?_ fun f cdv A outer s H E hr nd hu hu1=> ?_;refine bw (N:=["cell", "left"]) h ?_ fun f cdv A outer s H E hr nd hu hu1=> ?_;refine bw (N:=["found"]) h ?_ fun f cdv A outer s H E hr nd hu hu1=> ?_;refine bw (N:=["one", "other", "ties", "a"]) h ?_ fun f cdv A outer s H E hr nd hu hu1=> ?_;refine yc _ ?_;refine bw (N:=["many", "ties", "places", "sums", "top"]) h ?_ fun f cdv A outer s H E hr nd hu hu1=> ?_;refine eB (M:=["many", "ties", "places", "sums", "top"]) (tgs:=["a", "b"]) rfl ?_ ?_ ?_ ?_ ?_ nd rfl rfl;refine lM nd rfl (Or.inr rfl) ?_;refine dN (M:=["many", "ties", "places", "sums", "top"]) (tgs:=["one"]) rfl ?_ ?_ ?_ ?_ ?_;refine bw (N:=["many", "ties", "places", "numbers", "order", "found", "a", "b", "number", "given", "place", "rows"]) h ?_ fun f cdv A outer s H E hr nd hu hu1=> ?_;refine dN (M:=["many", "ties", "places", "numbers", "order", "found", "a", "b", "number", "given", "place", "rows"]) (tgs:=["tie"]) rfl ?_ ?_ ?_ ?_ ?_;refine mY.ok (osc:=ac (top 35)) (N:=["many", "ties", "places", "numbers", "order", "found", "a", "b", "number", "given", "place", "rows"]) ?_;refine c_dget hu1 ?_ ?_;refine bw (N:=["thing", "least", "most"]) h ?_ fun f cdv A outer s H E hr nd hu hu1=> ?_;refine Bx B3 B3 B0 B0 ?_ ?_ ?_;refine bw (N:=["web", "numbering"]) h ?_ fun f cdv A outer s H E hr nd hu hu1=> ?_;refine dN (M:=["web", "numbering"]) (tgs:=["end", "tie"]) rfl ?_ ?_ ?_ ?_ ?_;refine mY.ok (osc:=ac (top 18)) (N:=["web", "numbering"]) ?_;refine bw (N:=["pen", "many", "found"]) h ?_ fun f cdv A outer s H E hr nd hu hu1=> ?_;refine bw (N:=["web", "thing", "row", "size", "seen", "one", "found"]) h ?_ fun f cdv A outer s H E hr nd hu hu1=> ?_;refine dN (M:=["web", "thing", "row", "size", "seen", "", "found"]) (tgs:=["one"]) rfl ?_ ?_ ?_ ?_ ?_;refine t_in hu ?_ ?_;refine eB (M:=["web", "thing", "row", "size", "seen", "one", "found"]) (tgs:=["k", "a", "b"]) rfl ?_ ?_ ?_ ?_ ?_ nd rfl rfl;refine i_enum (by rfl) T.enumerate ?_;refine bw (N:=["things", "least", "most"]) h ?_ fun f cdv A outer s H E hr nd hu hu1=> ?_;refine dN (M:=["things", "least", "most"]) (tgs:=["thing"]) rfl ?_ ?_ ?_ ?_ ?_;refine mY.ok (osc:=ac (top 3)) (N:=["things", "least", "most"]) ?_;refine bw (N:=["pen", "many", "left", "found"]) h ?_ fun f cdv A outer s H E hr nd hu hu1=> ?_;refine A4 _ ?_;refine bw (N:=["pen", "last", "ties", "numbers", "hub", "ends", "side", "place"]) h ?_ fun f cdv A outer s H E hr nd hu hu1=> ?_;refine i_rng2 (by rfl) T.range ?_;refine bw (N:=["things", "most"]) h ?_ fun f cdv A outer s H E hr nd hu hu1=> ?_;refine bw (N:=["pen", "most", "many", "ties", "places", "numbers", "low", "one"]) h ?_ fun f cdv A outer s H E hr nd hu hu1=> ?_;refine dN (M:=["pen", "most", "many", "ties", "places", "numbers", "low", "one"]) (tgs:=["place"]) rfl ?_ ?_ ?_ ?_ ?_;refine eB (M:=["pen", "most", "many", "ties", "places", "numbers", "low", "one"]) (tgs:=["place"]) rfl ?_ ?_ ?_ ?_ ?_ nd rfl rfl;refine dN (M:=["pen", "most", "many", "ties", "places", "numbers", "low", "one"]) (tgs:=["a", "b"]) rfl ?_ ?_ ?_ ?_ ?_;refine eB (M:=["pen", "most", "many", "ties", "places", "numbers", "low", ""]) (tgs:=["one"]) rfl ?_ ?_ ?_ ?_ ?_ nd rfl rfl;refine bw (N:=["web", "thing", "places", "ties"]) h ?_ fun f cdv A outer s H E hr nd hu hu1=> ?_;refine bw (N:=["pen", "most", "one", "other", "many", "ties", "numbers", "places", "top"]) h ?_ fun f cdv A outer s H E hr nd hu hu1=> ?_;refine dN (M:=["pen", "most", "one", "other", "many", "ties", "numbers", "places", "top"]) (tgs:=["a"]) rfl ?_ ?_ ?_ ?_ ?_;refine dN (M:=["pen", "most", "one", "other", "many", "ties", "numbers", "places", "top"]) (tgs:=["b"]) rfl ?_ ?_ ?_ ?_ ?_;refine eB (M:=["pen", "most", "one", "other", "many", "ties", "numbers", "places", "top"]) (tgs:=["a", "b"]) rfl ?_ ?_ ?_ ?_ ?_ nd rfl rfl;refine dN (M:=["pen", "most", "", "other", "many", "ties", "numbers", "places", "top"]) (tgs:=["one"]) rfl ?_ ?_ ?_ ?_ ?_;refine eB (M:=["pen", "most", "", "other", "many", "ties", "numbers", "places", "top"]) (tgs:=["one"]) rfl ?_ ?_ ?_ ?_ ?_ nd rfl rfl;exact wO R_NoNumber hr (by rfl);refine bw (N:=["web", "thing", "e"]) h ?_ fun f cdv A outer s H E hr nd hu hu1=> ?_;refine s_try (nms:=nms) rfl rfl ?_ ?_ nd rfl rfl (by rfl) HT SU;refine mL tM G4 hr (by decide) (by rfl) ?_;exact Kd.c_kind GK KN (hr.any.mono (by decide)).mark (by rfl);refine bw (N:=["web", "thing", "due", "turn", "found", "low", "told"]) h ?_ fun f cdv A outer s H E hr nd hu hu1=> ?_;refine fn_okV (N:=["script", "one", "thing", "cell", "pen", "web", "good", "turn"]) h ?_ fun f cdv A outer s H E hr nd hu hu1=> ?_;refine c_sl11 r9 os_s11 ?_;skip))
private def tb(k:Nat)(i:Lean.Ident):Lean.MacroM (Lean.TSyntax `tactic):=match k with | 0 => `(tactic| with_reducible apply $i) | 1 => `(tactic| exact $i) | 2 => `(tactic| refine $i ?_) | 3 => `(tactic| refine $i ?_ ?_) | 4 => `(tactic| refine $i ?_ ?_ ?_) | 5 => `(tactic| exact $i _) | 6 => `(tactic| apply $i) | 7 => `(tactic| intro $i:ident) | 8 => `(tactic| refine mL jl $i hr (by decide) (by rfl) ?_) | _ => `(tactic| refine mL tN $i hr (by decide) (by rfl) ?_)
private def tc:Array (Nat×Lean.Name) := #[(1,`rfl),(2,`aZ),(0,`su),(0,`wZ),(0,`r_nilM),(5,`vb),(0,`r_exM),(1,`fT),(0,`r_lst),(2,`wP),(1,`e),(0,`r_ret),(3,`eZ),(0,`rq_seq),(5,`v),(0,`r_orF),(0,`oo),(0,`r_ifF),(3,`rN),(3,`b_sub),(6,`Eq.trans),(0,`nW),(0,`wY),(0,`r_varF),(0,`r_comp),(0,`r_seqI),(0,`r_c),(1,`h),(1,`g2),(2,`c_one),(3,`fu),(2,`rK),(1,`zg),(1,`g),(1,`gn),(1,`ix),(0,`r_ifT),(0,`r_nil),(0,`r_for),(1,`bY),(3,`b_mul),(2,`w_or1),(1,`ga),(0,`r_opT),(1,`gm),(1,`BO),(0,`Al),(0,`ui),(1,`e2),(1,`gl2),(3,`cX),(3,`b_mod),(2,`s_expr),(0,`r_call),(1,`q),(1,`gl),(1,`u),(0,`r_tup),(0,`yA),(0,`Ah),(0,`r_dnew),(1,`e1),(0,`r_seqR),(0,`r_zipE),(2,`i_seq),(3,`g_cons),(3,`w_or),(9,`G9),(0,`Ap),(0,`r_op),(0,`r_notV),(0,`h1),(0,`h2),(1,`gr),(1,`u1),(1,`u2),(1,`us),(0,`r_asg),(1,`gb),(1,`g1),(0,`r_orT),(1,`gi),(1,`g0),(1,`i1),(1,`eo),(0,`tp),(3,`c_and),(1,`g_nil),(3,`b_fdiv),(1,`c_bl),(3,`s_asg),(0,`Aq),(1,`c),(0,`Bj),(1,`up),(1,`g3),(1,`gn2),(1,`o),(1,`i3),(1,`i2),(1,`gl1),(0,`ex_seq),(1,`Cb),(0,`h),(0,`r_andV),(0,`r_expr),(0,`rq_ret),(1,`gg),(0,`yD),(0,`jr),(0,`sk),(0,`mE),(0,`Bl),(0,`r_zipM),(1,`gL),(1,`a1),(1,`a2),(1,`a3),(0,`An),(1,`cs),(1,`e3),(0,`r_fnX),(1,`l),(1,`d),(1,`t),(1,`lt),(1,`r),(2,`c_not),(4,`s_if),(3,`t_lt),(2,`eS),(8,`G6),(9,`G5),(8,`G8),(8,`G13),(9,`G13),(3,`Av),(0,`r_fn),(0,`o0),(0,`Ao),(0,`iX),(6,`el_mk),(0,`uL),(0,`lQ),(0,`Aj),(0,`qu),(1,`ln),(1,`td),(1,`pa),(1,`ua),(1,`e'),(0,`r_retO),(6,`lp_mk),(0,`nL),(0,`Ag),(0,`r_varO),(0,`kt),(1,`gx),(0,`vP),(0,`pF),(1,`e7),(1,`hz'),(1,`gS),(0,`gg),(0,`r_not),(0,`r_tru),(0,`dq),(1,`hz),(1,`g5),(1,`g6),(1,`g7),(0,`Ai),(0,`r_seqX),(0,`Am),(0,`uj),(0,`r_tryX),(0,`r_retX),(0,`r_kind),(0,`r_fnN),(1,`k),(1,`m),(1,`i4),(1,`gs),(1,`gq),(0,`r_tryR),(1,`w),(1,`d1),(1,`gl3),(1,`s1),(1,`s2),(1,`a4),(1,`d2),(1,`gk),(1,`ge),(1,`ex),(0,`gm),(0,`g1),(0,`tPen),(0,`ex_one),(1,`o1),(1,`o2),(1,`e6),(0,`tCell0),(0,`qX),(0,`tE),(2,`BN),(3,`q_ge),(3,`b_pow),(1,`Bw),(8,`G2),(8,`G1),(2,`JW.t),(2,`k_not),(2,`k_tru),(9,`G12),(1,`uX),(3,`t_gt),(9,`G19),(3,`zZ),(8,`G23),(8,`G5),(8,`G11),(3,`q_gt),(8,`G20),(8,`G7),(8,`G10),(8,`G21),(8,`G0),(8,`G22),(8,`G16),(8,`G25),(9,`G3),(8,`G18),(3,`t_is),(8,`G12),(2,`c_rev),(9,`G17),(9,`G14),(9,`G15),(3,`wK),(9,`G24)]
private def xg(q:Array Lean.Syntax):List Nat->Lean.MacroM (Array (Lean.TSyntax `tactic))
 | []=>return #[]
 | i::l=>do let a <- (match tc[i]? with | some (k,n)=>tb k (Lean.mkIdent n) | none=>pure ⟨q.getD (2 * (i - tc.size)) .missing⟩);let b <- xg q l;return #[a]++b
local macro_rules
 | `(tactic| trace $s:str)=>do
  let q <- ta
  let a <- xg q.raw[1][0][0].getArgs (s.getString.toList.flatMap (xp #["$!", "P!", "S!", "!!", "#I", "Ą#", "ЫP", "78", "&!", "fQ", "fP", "", "4#", "jw", "ė%", "SǄ", ".ǫ", "Mf", "ėf", "+Ɵ", "ЫQ", "Ŝ!", "Ŕǅ", "ǈǈ", "'#", "Ą'", "%c", "!Ǆ", "Ы$", "cY", "ЁY", "!G", "kP", "@~", "(<", "ŪǍ", "Љ<", "ėk", "j)", "!Ǻ", "''", "1ѽ", "ĻҀ", "ĐF", "ǅ0", "'T", "6śǗ", "ćf", "&Б", "@y", "SS", "kY", "Љѩ", "(Э", ".ǭ", "ċ(", "vY", "lW", "ėЫ", "Wѭ`", "(В", "#r", "vѴ", "(Љ", "А$", "ŭl", "Iǃ", "ƦƧ#", "cQ", "9S", "Ǆ7", "s&", "х%", "kѴ", "%ц", "Ȁē", "!&", ".Œ", "$L", "ЀW", "Г(", "ļ-", "&&", "%А", "kQ", ".Ȋ", "Ur)", "+Œ", "ҁO", "%<", "ǑȁǑ", "cѴ", ":;", "73", "Iǅ", "Ѣч", "7H", "!ѫ", "4~", "ǑǤЬ", "ǅg", "шĖ", "lв", "бn", "гR", "oC", "!Q", "Ǌa", "#д", "ǝw", "Ѱе", "Aǅ", "ǃж", "҂ѱ", "ѲД", "Ŷŷ", "ţf", "şǍ", "Ѐ-", "_Ѥ", "ѥ҃", "_v", "шĭ", "9О", "_Њ", "ѷW", "ѸG", "ce", "ǻч", "tĀ", "(ѩ", "Ģѽ=Q", "Ѧѹp", "Ђ<", "ѺĨ", "Ǒ҄", "Ǥĩ", "ǊП", "Od", "ѳĩ", "UЃ", "ǃǃ", "ѻЕ", "#ѧ", "šǘ", "QM", "Ю9R", "Ёf", "ЀЯ", "ǒw", "!(", "9Ѩ", "МVѾ", "-<", "T)", "cѼ", "zC", "ѣq", "ǉѵ", "jѶ", "gа", "ēǆ", "Ѽ!", "Ē0", "ĄѬ", "Fѿǣ", "3ѿǏ", "ѮѯĉmD", "Ǌd", "ƥĔ", "VŠ", "хq", "ūhx", "MѪmǙ", "ŢѨ", "dī", "#Ʈ", "Y!", "НǤē"] 99))
  `(tactic| ($[$a];*))
set_option compiler.extract_closed true
set_option hygiene true
namespace K45
open PySem L2 PyProof.Rows
noncomputable def top(i:Nat):Stmt:=PySem.Challenge.pw_tienumbers_k45_what_is_a_total_numbering.main.body.getD i (.Pass ⟨0,0,0,0⟩)
noncomputable def nms:List Str:=["NoNumber"]
structure Txt(K:E2)(mg:Str->Option Value):Prop where
 ValueError:mg "ValueError" = none
 all:mg "all" = none
 bool:mg "bool" = none
 enumerate:mg "enumerate" = none
 int:mg "int" = none
 isi:mg "isinstance" = none
 len:mg "len" = none
 list:mg "list" = none
 max:mg "max" = none
 min:mg "min" = none
 range:mg "range" = none
 set:mg "set" = none
 sorted:mg "sorted" = none
 tuple:mg "tuple" = none
 zip:mg "zip" = none
section
variable{P:Program}{w:World}{K:E2}{mg:Str->Option Value}{base:Heap}
noncomputable def fD:SS:=(bd (cj (sOp (bK "int") [.bor 0]) (fZ (sOp (bK "bool") [.bor 0]))))
noncomputable def cq:FS:=aA 1 1 none fD
abbrev mS:=OkY "is_whole" ["thing"] 1 none cq
theorem qG(h:Has K mg "is_whole" (top 1) ["thing"])(T:Txt K mg):mS P w K mg base:=by
 trace "ǼјǪ'?őǛ'"
noncomputable def lN:SS:=(bd (bv 2 (bT (sOp gIx [.bor 0,.ex (sC (.int 1))])) (.tp [(.nm 2),(.nm 3)]) none (sOp aH [.ex (sOp gIx [.bor 1,.bor 2]),.ex (sOp gIx [.bor 1,.bor 3])])))
noncomputable def fP:FS:=aA 2 2 none lN
abbrev mT:=OkY "end_sums" ["web", "numbers"] 1 none fP
theorem qH(h:Has K mg "end_sums" (top 19) ["web", "numbers"])(T:Txt K mg):mT P w K mg base:=by
 trace "ǽѺǾǿǉĒrљњЬ]Ѓ#Ѓ"
abbrev im:=OkY "_law_cell_at" ["script", "k"] 1 none bx
theorem le(h:Has K mg "_law_cell_at" (top 24) ["script", "k"])(T:Txt K mg):im P w K mg base:=by
 trace "ȂћœiѧdЃќI"
abbrev kS:=OkY "_law_next" ["seed"] 1 none dF
theorem pf(h:Has K mg "_law_next" (top 25) ["seed"])(T:Txt K mg):kS P w K mg base:=by
 trace "ȃнąоTdą#]]Jy#JT~T"
abbrev iN:=OkY "_law_pen_of" ["cell"] 1 none ce
theorem me(h:Has K mg "_law_pen_of" (top 26) ["cell"])(T:Txt K mg):iN P w K mg base:=by
 trace "ȄнǜjU5T')dA}ǅǬUƠiơTѬǅą~ǃ"
noncomputable def dU:SS:=(bd (cj (sOp (bK "int") [.bor 0]) (fZ (sOp (bK "bool") [.bor 0]))))
noncomputable def ba:FS:=aA 1 1 none dU
abbrev fU:=OkY "_law_whole" ["found"] 1 none ba
theorem ng(h:Has K mg "_law_whole" (top 28) ["found"])(T:Txt K mg):fU P w K mg base:=by
 trace "ȅјǪ'?őǛ'"
open L2.Kd in
theorem oR:cZ ["e", "marks", "words"] ["e"] (ac (top 29)):=⟨rfl,rfl,rfl,by decide +kernel,rfl,by decide +kernel,by decide +kernel⟩
open L2.Kd in
theorem AW(h:Has K mg "_law_kind_of" (top 29) ["e"])(T:Txt K mg):OkA P w K mg base "_law_kind_of" ["e"] 1 (r8 K mg):=by
 refine h.okA oR (fun vs H Q E h=> ?_) (fun f cdv A outer s H vs Q E hr h=> ?_)
 ·obtain ⟨ea,C,j,rfl,_⟩:=h;rfl
 ·obtain ⟨ea,C,j,rfl,hH,kd,q⟩:=h
  obtain ⟨c0,m0,k0⟩:=kd.k0;obtain ⟨c1,m1,k1⟩:=kd.k1;obtain ⟨c2,m2,k2⟩:=kd.k2;obtain ⟨c3,m3,k3⟩:=kd.k3;obtain ⟨c4,m4,k4⟩:=kd.k4;obtain ⟨c5,m5,k5⟩:=kd.k5;obtain ⟨c6,m6,k6⟩:=kd.k6;obtain ⟨c7,m7,k7⟩:=kd.k7;obtain ⟨c8,m8,k8⟩:=kd.k8
  refine ⟨_,bc (dL (i:=1) oR.nd rfl (Or.inl rfl) (jc (ad (isx T.isi m0 (pv 0) (by rfl) (by rfl)) (ad (isx T.isi m1 (pv 0) (by rfl) (by rfl)) (ad (isx T.isi m2 (pv 0) (by rfl) (by rfl)) (ad (isx T.isi m3 (pv 0) (by rfl) (by rfl)) aR))))))
   (bc (dL (i:=1) oR.nd rfl (Or.inl rfl) (qC xP (pv 1) (jc (ad (isx T.isi m4 (pv 0) (by rfl) (by rfl)) (ad (isx T.isi m5 (pv 0) (by rfl) (by rfl)) (ad (isx T.isi m6 (pv 0) (by rfl) (by rfl)) (ad (isx T.isi m7 (pv 0) (by rfl) (by rfl)) aR)))))))
   (bc (uv (ux Ev PySem.F.slot_list_append PySem.F.type_list_append nZ (pv 1) (ad (isx T.isi m8 (pv 0) (by rfl) (by rfl)) aR)))
   (bc (uu (PW.pt (BY (xm (pt_val (isxV T.isi T.ValueError (pv 0) (by rfl) (by rfl)))) (xi (lB op_ne (ux Ev PySem.F.slot_list_count PySem.F.type_list_count xZ (pv 1) (ad uz aR)) aX (dh _))))) (iq (lX dM)) o7)
   (bc (dL (i:=2) oR.nd rfl (Or.inl rfl) (jc (ad dM (ad dM (ad dM (ad dM (ad dM (ad dM (ad dM (ad dM (ad dM aR)))))))))))
   (iq (lX (cK bz (pv 2) (ux Ev PySem.F.slot_list_index PySem.F.type_list_index xY (pv 1) (ad uz aR)) (fun _ _=>rfl)))))))),?_⟩
  refine ⟨_,rfl,ea,C,.ref c0,.ref c0,_,rfl,hH,kd.exk,rfl,k0,_,rfl,ea,C,.ref c1,.ref c1,_,rfl,hH,kd.exk,rfl,k1,_,rfl,ea,C,.ref c2,.ref c2,_,rfl,hH,kd.exk,rfl,k2,_,rfl,ea,C,.ref c3,.ref c3,_,rfl,hH,kd.exk,rfl,k3,by show 4<=sizeLine;decide,fun l1 hl1=> ?_⟩;have s1:=aa.upd (o:= .lst [.bl (decide (0=j)),.bl (decide (1=j)),.bl (decide (2=j)),.bl (decide (3=j))]) hl1;have h1:=s1 _ _ hH;refine ⟨_,rfl,_,rfl,ea,C,.ref c4,.ref c4,_,rfl,h1,kd.exk,rfl,k4,_,rfl,ea,C,.ref c5,.ref c5,_,rfl,h1,kd.exk,rfl,k5,_,rfl,ea,C,.ref c6,.ref c6,_,rfl,h1,kd.exk,rfl,k6,_,rfl,ea,C,.ref c7,.ref c7,_,rfl,h1,kd.exk,rfl,k7,by show 4<=sizeLine;decide,fun l2 hl2=> ?_⟩;have s2:=s1.trans (aa.upd (o:= .lst [.bl (decide (4=j)),.bl (decide (5=j)),.bl (decide (6=j)),.bl (decide (7=j))]) hl2);refine ⟨l1,l2,_,_,rfl,rfl,aa.upd hl2 _ _ af,af,DX (eA (by show 4+4<=1000;decide)),fun l3 hl3=> ?_⟩;have s3:=s2.trans (aa.upd (o:= .lst ([.bl (decide (0=j)),.bl (decide (1=j)),.bl (decide (2=j)),.bl (decide (3=j))]++[.bl (decide (4=j)),.bl (decide (5=j)),.bl (decide (6=j)),.bl (decide (7=j))])) hl3);have nl3:H l3=none:=s2.free hl3;refine ⟨_,rfl,.inl ⟨rfl,_,.inl (.inl af)⟩,_,rfl,ea,C,.ref c8,.ref c8,_,rfl,s3 _ _ hH,kd.exk,rfl,k8,l3,_,_,rfl,rfl,af,eA (by show 8<=1000;decide),?_⟩;rw [zt];have s4:aa H (upd (upd (upd H l1 (.lst [.bl (decide (0=j)),.bl (decide (1=j)),.bl (decide (2=j)),.bl (decide (3=j))])) l2 (.lst [.bl (decide (4=j)),.bl (decide (5=j)),.bl (decide (6=j)),.bl (decide (7=j))])) l3 (.lst (fG j))):=s2.trans (aa.upd hl3);refine ⟨_,rfl,ea,C,.ty "ValueError",.type "ValueError",_,rfl,s4 _ _ hH,kd.exk,rfl,kd.ve,_,rfl,iteF ⟨_,rfl,.inl ⟨rfl,_,.inl (.inl af)⟩,l3,fG j,.bl true,rfl,rfl,af,rfl,mn j,rfl,_,rfl,?_⟩⟩
  rw [vC j kd.lt]
  refine iteB (fun c=>absurd c (by decide)) fun _=> ?_
  refine ⟨by show 9<=sizeLine;decide,fun l5 hl5=> ?_⟩;refine ⟨_,rfl,_,rfl,.inl ⟨rfl,_,.inl (.inl (aa.upd hl5 _ _ af))⟩,l3,fG j,.bl true,j,rfl,rfl,aa.upd hl5 _ _ af,rfl,mn j,yb j kd.lt,ya j kd.lt,l5,_,_,_,rfl,rfl,.inl (.inl af),wA kd.lt,q _ (s4.trans (aa.upd hl5))⟩
noncomputable def cR:SS:=(df (cJ 2 jq [(bv 1 (cv (.bor 1)) (.nm 4) none (aP [(bh 3),(sOp aH [.bor 0,.bor 4])]))]))
noncomputable def jv:SS:=(av (aU 2 (cA [])) (av (eU (cv (.bor 0)) (.nm 3) cR) (bd (aP [(sOp aH [.bor 0,.bor 1]),(bh 2),(sOp aH [.ex (sOp bn [.ex (sOp ko [.bor 0])]),.ex (bv 1 (cv (.bor 1)) (.nm 4) none (sOp fN [.bor 0,.ex (sOp aH [.bor 4,.ex (sC (.int 1))])]))])]))))
noncomputable def el:FS:=aA 2 4 none jv
abbrev jQ:=OkY "_law_sides" ["one", "other"] 1 none el
theorem nj(h:Has K mg "_law_sides" (top 32) ["one", "other"])(T:Txt K mg):jQ P w K mg base:=by
 trace "ȆнAǃЈпǞ+ĆȇǮǯǉпеg0ǅ4yǃdg4y}ǅ]ǟUǥw)#ǮǯǉпеJiдǃ"
noncomputable def fW:SS:=(av (aU 3 (bv 2 (bT (bh 1)) (.tp [(.nm 5),(.nm 6)]) none (sOp aH [.ex (sOp gIx [.bor 2,.bor 5]),.ex (sOp gIx [.bor 2,.bor 6])]))) (av (aU 4 (sOp aH [.ex (sOp aH [.bor 0,.ex (sOp bJ [.bor 1])]),.ex (sOp iH [.bor 3])])) (bd (bv 1 (bT (bh 3)) (.nm 5) none (sOp dg [.bor 4,.bor 5])))))
noncomputable def cG:FS:=aA 3 5 none fW
abbrev gy:=OkY "_law_from_low" ["many", "ties", "places"] 1 none cG
theorem ke(h:Has K mg "_law_from_low" (top 33) ["many", "ties", "places"])(T:Txt K mg):gy P w K mg base:=by
 trace "ȈǊ.ȉǰѰљњЬ]Ѓ#ЃЧ]4iѧ#Ǧwdȋǰр5y"
noncomputable def cS:SS:=(de kC 5 (bh 8) (aP [(sOp iH [.ex (sOp gIx [.bor 4,.bor 6]),.ex (sOp gIx [.bor 4,.bor 7])]),(sOp eQ [.ex (sOp gIx [.bor 4,.bor 6]),.ex (sOp gIx [.bor 4,.bor 7])])]))
noncomputable def bU:SS:=(de ff 9 (sOp gIx [.bor 2,.bor 10]) (sOp gIx [.bor 4,.bor 10]))
noncomputable def lO:SS:=(av (aU 5 (nR (.dT [] []))) (av (eU (iW [(bh 1),(bh 3)]) (.tp [(.tp [(.nm 6),(.nm 7)]),(.nm 8)]) cS) (av (aU 9 (sOp fN [.ex (cA [(sC (.int 0))]),.bor 0])) (av (eU (cv (.bor 0)) (.nm 10) bU) (av (aU 11 (sOp km [.ex (sOp fM [.ex (sOp bn [.bor 5])])])) (bd (aP [(aP [(bh 0),(bh 11)]),(aP [(sOp km [.bor 9]),(sOp km [.ex (bv 1 (bT (bh 11)) (.nm 12) none (sOp oq [.bor 5,.bor 12]))])])])))))))
noncomputable def fQ:FS:=aA 5 12 none lO
abbrev mU:=OkY "_law_put" ["many", "ties", "places", "numbers", "order"] 1 none fQ
theorem qI(h:Has K mg "_law_put" (top 35) ["many", "ties", "places", "numbers", "order"])(T:Txt K mg):mU P w K mg base:=by
 trace "ȌǊЧƢЈǧ}}ǃННǆѝѝ+Ǳ0gǦўў)ǅǜўў)ǃǋaJ#сД'Јпǆ+ǠЃЃǋaǨUǲUǟw))dgg0}тǨwǅǨUȍȎрȏy)џ"
noncomputable def eC:SS:=(bd (cj (ar none none cq [.bor 0]) (dJ gLe gLe (bh 1) (bh 0) (bh 2))))
noncomputable def aK:FS:=aA 3 3 none eC
abbrev ii:=OkY "whole_within" ["thing", "least", "most"] 2 none aK
theorem kY(h:Has K mg "whole_within" (top 2) ["thing", "least", "most"])(T:Txt K mg)(G2:mS P w K mg base):ii P w K mg base:=by
 trace "Ȑјƣw?ȑ000"
noncomputable def kE:SS:=(bd (bv 2 (iW [(ar none none fP [.bor 0,.ex (sOp gIx [.bor 1,.ex (sC (.int 0))])]),(sOp gIx [.bor 1,.ex (sC (.int 1))])]) (.tp [(.nm 2),(.nm 3)]) none (sOp aH [.bor 2,.bor 3])))
noncomputable def dE:FS:=aA 2 2 none kE
abbrev ik:=OkY "totals_by" ["web", "numbering"] 2 none dE
theorem pd(h:Has K mg "totals_by" (top 18) ["web", "numbering"])(T:Txt K mg)(G1:mT P w K mg base):ik P w K mg base:=by
 trace "ȒѺȓȔǉǧǅƤjШǅrǃљњЬ4y"
abbrev cP:=OkY "_law_draw" ["pen", "many"] 2 (some 0) ai
theorem ph(h:Has K mg "_law_draw" (top 27) ["pen", "many"])(T:Txt K mg)(G6:kS P w K mg base):cP P w K mg base:=by
 trace "ȕћǓЏTaąЏ'.ǠĪЏ'Iǋ+ǳǋO.ǠŕU]ŕШѬIǋdą#ĪЏT'"
noncomputable def ak:SS:=(ci (sOr (dX (dW (.ex (sOp (bK "tuple") [.bor 2])))) (sOr (bS gNe [.ex (sOp bJ [.bor 2]),.bor 3]) (dX (dW (.ex (sOp nA [.ex (bv 1 (bT (bh 2)) (.nm 7) none (ar none none ba [.bor 7]))])))))) (bd (sC .non)) cU)
noncomputable def ao:SS:=(av (ci (sOr (bS gLt [.bor 5,.ex (sC (.int 1))]) (sOr (bS gGt [.bor 5,.ex (sOp aH [.ex (sOp gIx [.bor 0,.ex (sC (.int 0))]),.ex (sOp bJ [.ex (sOp gIx [.bor 0,.ex (sC (.int 1))])])])]) (bS gIn [.bor 5,.bor 4]))) (bd (sC .non)) cU) (de kC 4 (sC (.bl true)) (bh 5)))
noncomputable def aI:SS:=(ci (bS gNe [.bor 5,.ex (sOp gIx [.bor 6,.ex (sC (.int 0))])]) (bd (sC .non)) cU)
noncomputable def aT:SS:=(av (ci (sOr (dX (dW (.ex (sOp (bK "tuple") [.bor 1])))) (bS gNe [.ex (sOp bJ [.bor 1]),.ex (sC (.int 2))])) (bd (sC .non)) cU) (av (eU (iW [(bh 1),(cA [(sOp gIx [.bor 0,.ex (sC (.int 0))]),(sOp bJ [.ex (sOp gIx [.bor 0,.ex (sC (.int 1))])])])]) (.tp [(.nm 2),(.nm 3)]) ak) (av (aU 4 (nR (.dK [] []))) (av (eU (bT (sOp aH [.ex (sOp gIx [.bor 1,.ex (sC (.int 0))]),.ex (sOp gIx [.bor 1,.ex (sC (.int 1))])])) (.nm 5) ao) (av (aU 6 (bv 3 (gc (sOp gIx [.bor 0,.ex (sC (.int 1))])) (.tp [(.nm 7),(.tp [(.nm 8),(.nm 9)])]) none (sOp aH [.ex (sOp aH [.ex (sOp gIx [.ex (sOp gIx [.bor 1,.ex (sC (.int 0))]),.bor 8]),.ex (sOp gIx [.ex (sOp gIx [.bor 1,.ex (sC (.int 0))]),.bor 9])]),.ex (sOp gIx [.ex (sOp gIx [.bor 1,.ex (sC (.int 1))]),.bor 7])]))) (av (eU (bT (bh 6)) (.nm 5) aI) (bd (sOp gIx [.bor 6,.ex (sC (.int 0))]))))))))
noncomputable def al:FS:=aA 2 7 none aT
abbrev fv:=OkY "_law_total_due" ["web", "thing"] 2 none al
theorem jA(h:Has K mg "_law_total_due" (top 37) ["web", "thing"])(T:Txt K mg)(G12:fU P w K mg base):fv P w K mg base:=by
 trace "ȖћѠǕ'KǌѡTdBOЈǧ}ǅсrǅǒШџНǆѝЩѠǕ'Ĕǌѡ'KЕǴUȗǵрƨw)dBOaƩЈĒ]rЏǆПѻœ~Ĕƪi]r#ǒШKȘydBO+Ǳī0ǋ.șǵǉȚrљ҄њĩЬ]]@Џi@Џi@Џ'ЈѵǆЩǌirdBќr"
noncomputable def dH:SS:=(bd (cj (sOp nA [.ex (bv 1 (bT (bh 0)) (.nm 3) none (ar none none aK [.bor 3,.bor 1,.bor 2]))]) (sOp gEq [.ex (sOp bJ [.ex (sOp pE [.bor 0])]),.ex (sOp bJ [.bor 0])])))
noncomputable def bA:FS:=aA 3 3 none dH
abbrev gu:=OkY "unlike_within" ["things", "least", "most"] 3 none bA
theorem jY(h:Has K mg "unlike_within" (top 3) ["things", "least", "most"])(T:Txt K mg)(G19:ii P w K mg base):gu P w K mg base:=by
 trace "țјǴUȜȝрƫj^)?ǎ#ǒUǶw)ѡ"
noncomputable def bC:SS:=(df (cJ 3 cr [(cJ 2 lI [(ar (some 0) (some 0) ai [.bor 0,.ex (sOp bJ [.bor 2])])])]))
noncomputable def fV:SS:=(av (aU 2 (sOp bn [.ex (sOp ko [.bor 1])])) (av (aU 3 (cA [])) (av (cT 100 (bS gNe [.bor 2,.ex (cA [])]) bC) (fY 3))))
noncomputable def cE:FS:=aA 2 4 (some 0) fV
abbrev gv:=OkY "_law_order_of" ["pen", "many"] 3 (some 0) cE
theorem jZ(h:Has K mg "_law_order_of" (top 30) ["pen", "many"])(T:Txt K mg)(G5:cP P w K mg base):gv P w K mg base:=by
 trace "ȞнǟUǥw)aAǃ.ƬǌiAǃ+ĆǡȟŖjUѧ)+ǳǋ"
noncomputable def bM:SS:=(av (df (cJ 2 cr [(aP [(bh 4),(bh 7)])])) (av (df (cJ 3 cr [(sOp gIx [.bor 5,.bor 6])])) (av (de ff 5 (sOp dg [.ex (sOp aH [.ex (sOp gIx [.bor 5,.bor 6]),.ex (sC (.int 1))]),.ex (sOp fN [.ex (sC (.int 2)),.bor 6])]) (bh 6)) (ci (bS gEq [.ex (ar (some 0) (some 0) ai [.bor 0,.ex (sC (.int 3))]),.ex (sC (.int 0))]) (av (aU 4 (bh 7)) (aU 6 (sOp dg [.ex (sC (.int 1)),.bor 6]))) cU))))
noncomputable def ju:SS:=(av (aU 2 (cA [])) (av (aU 3 (cA [(sC (.int 0))])) (av (aU 4 (sC (.int 0))) (av (aU 5 (cA [(sC (.int 1)),(bh 1)])) (av (aU 6 (sC (.int 1))) (av (eU (fX (.ex (sC (.int 1))) (.ex (sOp aH [.bor 1,.ex (sC (.int 1))]))) (.nm 7) bM) (bd (aP [(sOp aH [.bor 1,.ex (sC (.int 1))]),(bh 2),(bh 3)]))))))))
noncomputable def eh:FS:=aA 2 8 (some 0) ju
abbrev jP:=OkY "_law_spine" ["pen", "last"] 3 (some 0) eh
theorem nh(h:Has K mg "_law_spine" (top 31) ["pen", "last"])(T:Txt K mg)(G5:cP P w K mg base):jP P w K mg base:=by
 trace "ȠнAǃaсДaIaса0ǃaIЈȡĄTUд)ǆ.Ćǡg0}ǃ.ĆǡЃ.Ǡ5#]@'~#JT'0ǋЩǓ#ŖѱTa0+ǫ5T'ќgд}}ǃ"
noncomputable def ifBody:Stmt->List Stmt
 | .If _ a _ _=>a
 | _=>[]
noncomputable def bu:SS:=(av (aU 5 (cA [(sC .non),(aP []),(sOp gIx [.bor 2,.ex (sC (.int 0))]),(sOp bn [.bor 2]),(aP [(sOp gIx [.bor 2,.ex (sC (.int 0))])]),(sOp aH [.bor 2,.ex (aP [(aP [])])]),(aP [(sOp gIx [.bor 2,.ex (sC (.int 1))]),(sOp gIx [.bor 2,.ex (sC (.int 0))])]),(sC (.int 0)),(sC (.str "")),(nR (.dK [] [])),(sC (.bl true))])) (av (aU 5 (sOp aH [.bor 5,.ex (cA [(aP [(sOp gIx [.bor 2,.ex (sC (.int 0))]),(sOp bn [.ex (sOp gIx [.bor 2,.ex (sC (.int 1))])])]),(aP [(sOp bn [.ex (sOp gIx [.bor 2,.ex (sC (.int 0))])]),(sOp gIx [.bor 2,.ex (sC (.int 1))])]),(aP [(sOp gIx [.bor 2,.ex (sC (.int 0))]),(sOp vK [.ex (sOp gIx [.bor 2,.ex (sC (.int 1))]),.ex (sC (.int 1))])])])])) (av (aU 5 (sOp aH [.bor 5,.ex (cA [(aP [(sOp aH [.ex (sOp gIx [.bor 2,.ex (sC (.int 0))]),.ex (aP [(sC (.int 0))])]),(sOp gIx [.bor 2,.ex (sC (.int 1))])]),(aP [(sOp vK [.ex (sOp gIx [.bor 2,.ex (sC (.int 0))]),.ex (sC (.int 1))]),(sOp gIx [.bor 2,.ex (sC (.int 1))])]),(aP [(sC .non),(sOp gIx [.bor 2,.ex (sC (.int 1))])]),(aP [(sOp gIx [.bor 2,.ex (sC (.int 0))]),(aP [])])])])) (bd (sOp gIx [.bor 5,.ex (ar (some 0) (some 0) ai [.bor 0,.ex (sOp bJ [.bor 5])])])))))
noncomputable def bq:SS:=(av (aU 3 (cA [(sOp bn [.ex (sOp gIx [.bor 2,.ex (sC (.int 0))])]),(sOp bn [.ex (sOp gIx [.bor 2,.ex (sC (.int 1))])])])) (av (aU 4 (ar (some 0) (some 0) ai [.bor 0,.ex (sC (.int 4))])) (av (ci (bS gEq [.bor 4,.ex (sC (.int 0))]) bu cU) (av (fun _=>none) (av (fun _=>none) (av (fun _=>none) (fun _=>none)))))))
noncomputable def cu:FS:=Od.either (aA 3 12 (some 0) bq) (Od.f1 ai)
theorem aj:cZ ["pen", "web", "thing", "rows", "way", "some", "side", "spot", "odd", "other", "place", "kept"] ["pen", "web", "thing"] (ac (top 38)):=⟨rfl,rfl,rfl,by decide +kernel,rfl,by decide +kernel,by decide +kernel⟩
abbrev fA:=OkY "_law_odd_total" ["pen", "web", "thing"] 3 (some 0) cu
theorem jB(h:Has K mg "_law_odd_total" (top 38) ["pen", "web", "thing"])(T:Txt K mg)(G5:cP P w K mg base):fA P w K mg base:=by
 obtain ⟨f0,fd0,F0,hm0,hb0⟩:=h.ex
 have JB0:∀ (f:Addr) (cdv:Value) (A:Around) (outer:List Env) (s:Shared) (H:Hp) (E:XK),cx 2 (A.deeper (envOfC "_law_odd_total" (ac (top 38)) s.heap.objs.size f cdv))->JSs (bX (CXr P w) P w K mg base ["pen", "web", "thing", "rows", "way", "some", "side", "spot", "odd", "other", "place", "kept"] "_law_odd_total" (ac (top 38)) f cdv A outer s H E) (EXf K E) (ifBody ((bf (top 38)).getD 2 (.Pass ⟨0,0,0,0⟩))) bu:=fun f cdv A outer s H E hr=>by
  have hu:(bX (CXr P w) P w K mg base ["pen", "web", "thing", "rows", "way", "some", "side", "spot", "odd", "other", "place", "kept"] "_law_odd_total" (ac (top 38)) f cdv A outer s H E).A.units+10 < cLine:=by have:=hr.units;show (A.deeper _).units+10 < cLine;omega
  exact (eZ (lM (i:=5) aj.nd rfl (Or.inl rfl) (rK (.cons zg (.cons (eS .nil) (.cons (fu (vb 2) (aZ bY)) (.cons (iE (m:=T.list) (ha:=(cX (vb 2) fT))) (.cons (eS (.cons (fu (vb 2) (aZ bY)) .nil)) (.cons (rN (vb 2) (aZ (eS (.cons (eS .nil) .nil)))) (.cons (eS (.cons (fu (vb 2) (aZ bY)) (.cons (fu (vb 2) (aZ bY)) .nil))) (.cons bY (.cons Cb (.cons uX (.cons c_bl .nil)))))))))))))
   (eZ (lM (i:=5) aj.nd rfl (Or.inl rfl) (rN (vb 5) (aZ (rK (.cons (eS (.cons (fu (vb 2) (aZ bY)) (.cons (iE (m:=T.list) (ha:=(cX (aZ (fu (vb 2) (aZ bY))) fT))) .nil))) (.cons (eS (.cons (iE (m:=T.list) (ha:=(cX (aZ (fu (vb 2) (aZ bY))) fT))) (.cons (fu (vb 2) (aZ bY)) .nil))) (.cons (eS (.cons (fu (vb 2) (aZ bY)) (.cons (zf r9 xJ (aZ (fu (vb 2) (aZ bY))) (aZ bY)) .nil))) .nil)))))))
   (eZ (lM (i:=5) aj.nd rfl (Or.inl rfl) (rN (vb 5) (aZ (rK (.cons (eS (.cons (rN (aZ (fu (vb 2) (aZ bY))) (aZ (eS (.cons bY .nil)))) (.cons (fu (vb 2) (aZ bY)) .nil))) (.cons (eS (.cons (zf r9 xJ (aZ (fu (vb 2) (aZ bY))) (aZ bY)) (.cons (fu (vb 2) (aZ bY)) .nil))) (.cons (eS (.cons zg (.cons (fu (vb 2) (aZ bY)) .nil))) (.cons (eS (.cons (fu (vb 2) (aZ bY)) (.cons (eS .nil) .nil))) .nil))))))))
   (wP (BN (fu (vb 5) (aZ (mL (io:=(some 0)) (slot:=(some 0)) jl G5 hr (by decide) (by rfl) (cX (vb 0) (cX (aZ (Cc (m:=T.len) (ha:=(cX (vb 5) fT)))) fT))))))))))
 refine ⟨f0,fd0,hm0,F0.kp,hb0,Od.fn_either (tG F0 aj (fun f cdv A outer s H E hr=> ?_)) (Fun.okX F0 aj (fun vs H Q E hs=> ?_) (fun f cdv A outer s H vs Q E hr hs=>⟨_,?_,Od.body (t0:=tVS K (EXf K E) bu) (E:=E0) rfl hs⟩))⟩
 ·have hu:(bX (CXr P w) P w K mg base ["pen", "web", "thing", "rows", "way", "some", "side", "spot", "odd", "other", "place", "kept"] "_law_odd_total" (ac (top 38)) f cdv A outer s H E).A.units+10 < cLine:=by have:=hr.units;show (A.deeper _).units+10 < cLine;omega
  exact (eZ (lM (i:=3) aj.nd rfl (Or.inl rfl) (rK (.cons (iE (m:=T.list) (ha:=(cX (aZ (fu (vb 2) (aZ bY))) fT))) (.cons (iE (m:=T.list) (ha:=(cX (aZ (fu (vb 2) (aZ bY))) fT))) .nil))))
   (eZ (lM (i:=4) aj.nd rfl (Or.inl rfl) (mL (io:=(some 0)) (slot:=(some 0)) jl G5 hr (by decide) (by rfl) (cX (vb 0) (cX (aZ bY) fT))))
   (eZ (s_if (t_eq hu (vb 4) (aZ bY)) (JB0 f cdv A outer s H E hr) BO)
   (eZ oS
   (eZ oS
   (eZ oS
   (wP oS)))))))
 ·obtain ⟨Z,W,ds,h1,_,_,_,_,_,hm⟩:=hs
  cases e:Od.f1 ai ds with
  | none=>rw [e] at hm;exact hm.elim
  | some o =>
   obtain ⟨_,_,_,_,_,_,_,_,_,_,_,rfl,_⟩:=Od.f1_inv e;exact h1
 ·exact (bc (dL (i:=3) aj.nd rfl (Or.inl rfl) (jc (ad (fm fS (by rfl) T.list PyProof.Rows.boot_list (ad (cK sV (pv 2) aX (fun _ _=>rfl)) aR)) (ad (fm fS (by rfl) T.list PyProof.Rows.boot_list (ad (cK sV (pv 2) aX (fun _ _=>rfl)) aR)) aR))))
   (bc (dL (i:=4) aj.nd rfl (Or.inl rfl) (fo G5 (hr.mono (by decide)) (by rfl) (ad (pv 0) (ad aX aR))))
   (bc (uu (lB B5 (pv 4) aX (dh _)) (JB0 f cdv A outer s H E hr).p o7)
   (bc (dL (i:=6) aj.nd rfl (Or.inl rfl) (fo G5 (hr.mono (by decide)) (by rfl) (ad (pv 0) (ad aX aR))))
   (bc (dL (i:=7) aj.nd rfl (Or.inl rfl) (fo G5 (hr.mono (by decide)) (by rfl) (ad (pv 0) (ad (dA cW (by rfl) T.len EY (ad (cK bz (pv 3) (pv 6) (fun _ _=>rfl)) aR)) aR))))
   (bc (uu (lB B5 (pv 4) aX (dh _)) (bc (dL (i:=8) aj.nd rfl (Or.inl rfl) (jc (ad aX (ad (BZ wE aX) (ad (qC sM (qC sM (dA cW (by rfl) T.len EY (ad (cK bz (pv 3) aX (fun _ _=>rfl)) aR)) (dA cW (by rfl) T.len EY (ad (cK bz (pv 3) aX (fun _ _=>rfl)) aR))) aX) (ad uz (ad xy (ad dM (ad (sL (ad aX aR)) (ad (jc (ad aX aR)) (ad (qC xN aX aX) (ad aX (ad (cK bz (cK bz (pv 3) aX (fun _ _=>rfl)) aX (fun _ _=>rfl)) aR)))))))))))))
   (iq (lY (cK bz (pv 8) (fo G5 (hr.mono (by decide)) (by rfl) (ad (pv 0) (ad aX aR))) (fun _ _=>rfl)) (o8 (cK bz (pv 3) (pv 6) (fun _ _=>rfl)) (pv 7) fk)))) (bc (dL (i:=9) aj.nd rfl (Or.inl rfl) (fo G5 (hr.mono (by decide)) (by rfl) (ad (pv 0) (ad aX aR))))
   (bc (dL (i:=10) aj.nd rfl (Or.inl rfl) (fo G5 (hr.mono (by decide)) (by rfl) (ad (pv 0) (ad (dA cW (by rfl) T.len EY (ad (cK bz (pv 3) (pv 9) (fun _ _=>rfl)) aR)) aR))))
   (bc (dL (i:=11) aj.nd rfl (Or.inl rfl) (cK bz (cK bz (pv 3) (pv 6) (fun _ _=>rfl)) (pv 7) (fun _ _=>rfl)))
   (bc (lY (cK bz (cK bz (pv 3) (pv 9) (fun _ _=>rfl)) (pv 10) (fun _ _=>rfl)) (o8 (cK bz (pv 3) (pv 6) (fun _ _=>rfl)) (pv 7) fk))
   (iq (lY (pv 11) (o8 (cK bz (pv 3) (pv 9) (fun _ _=>rfl)) (pv 10) fk))))))))
   (iq (lX (sL (ad (fm fb (by rfl) T.tuple PyProof.Rows.boot_tuple (ad (cK bz (pv 3) aX (fun _ _=>rfl)) aR)) (ad (fm fb (by rfl) T.tuple PyProof.Rows.boot_tuple (ad (cK bz (pv 3) aX (fun _ _=>rfl)) aR)) aR)))))))))))
noncomputable def eV:SS:=(bd (cj (sOp gEq [.ex (sOp bJ [.bor 0]),.bor 1]) (ar none none bA [.bor 0,.ex (sC (.int 1)),.bor 1])))
noncomputable def bG:FS:=aA 2 2 none eV
abbrev kR:=OkY "each_once" ["things", "most"] 4 none bG
theorem pe(h:Has K mg "each_once" (top 4) ["things", "most"])(T:Txt K mg)(G23:gu P w K mg base):kR P w K mg base:=by
 trace "Ȣјǎѡ'?ƭjĄTw"
noncomputable def bE:SS:=(df (cJ 4 cr [(sOp gIx [.ex (cA [(sOp aH [.bor 7,.ex (sC (.int 1))]),(sOp dg [.ex (sOp aH [.ex (sOp aH [.bor 2,.bor 6]),.ex (sC (.int 1))]),.bor 7])]),.ex (sOp vO [.ex (sOp gGt [.bor 7,.bor 6])])])]))
noncomputable def bV:SS:=(av (ci (bS gEq [.ex (ar (some 0) (some 0) ai [.bor 0,.ex (sC (.int 2))]),.ex (sC (.int 0))]) (aU 4 (bv 1 (bT (bh 4)) (.nm 8) none (sOp dg [.ex (sOp aH [.bor 2,.ex (sC (.int 1))]),.bor 8]))) cU) (bd (aP [(bh 2),(bh 3),(bh 4),(ar none none cG [.bor 2,.bor 3,.bor 4])])))
noncomputable def dI:SS:=(av (ci (bS gEq [.ex (ar (some 0) (some 0) ai [.bor 0,.ex (sC (.int 3))]),.ex (sC (.int 0))]) (av (aU 2 (sOp gIx [.ex (cA [(sC (.int 3)),(sC (.int 5)),(sC (.int 7)),(sC (.int 9)),(sC (.int 11))]),.ex (ar (some 0) (some 0) ai [.bor 0,.ex (sC (.int 5))])])) (av (aU 3 (sOp aH [.ex (bv 1 (cv (.ex (sOp dg [.bor 2,.ex (sC (.int 1))]))) (.nm 8) none (aP [(bh 8),(sOp aH [.bor 8,.ex (sC (.int 1))])])),.ex (cA [(aP [(sC (.int 0)),(sOp dg [.bor 2,.ex (sC (.int 1))])])])])) (aU 4 (bv 1 (cv (.bor 2)) (.nm 8) none (sOp aH [.ex (sOp aH [.ex (sOp jK [.bor 8,.ex (sC (.int 2))]),.ex (sC (.int 1))]),.ex (sOp fN [.ex (sOp jK [.ex (sOp aH [.bor 2,.ex (sC (.int 1))]),.ex (sC (.int 2))]),.ex (sOp kq [.bor 8,.ex (sC (.int 2))])])]))))) (av (jw (.tp [(.nm 2),(.nm 3),(.nm 5)]) (ar (some 0) (some 0) eh [.bor 0,.ex (sOp aH [.ex (sC (.int 1)),.ex (ar (some 0) (some 0) ai [.bor 0,.bor 1])])])) (av (aU 6 (sOp eQ [.ex (bv 2 (bT (bh 3)) (.tp [(.nm 8),(.nm 9)]) none (sOp iH [.ex (sOp gIx [.bor 5,.bor 8]),.ex (sOp gIx [.bor 5,.bor 9])]))])) (av (aU 4 (cA [])) (eU (bT (bh 5)) (.nm 7) bE))))) bV)
noncomputable def cF:FS:=aA 2 8 (some 0) dI
abbrev gw:=OkY "_law_low_made" ["pen", "most"] 4 (some 0) cF
theorem kc(h:Has K mg "_law_low_made" (top 34) ["pen", "most"])(T:Txt K mg)(G5:cP P w K mg base)(G11:jP P w K mg base)(G20:gy P w K mg base):gw P w K mg base:=by
 trace "ȣћǓуTЧ@#сааааДуa]ȤǢǉǝU5~)еg0ǅдǃ#Aжа5~џ+ȥǢǉпе]]Ī~T#J#ĪоT#ą~.ĬƯjU4T҂^)НǞѳēǞĩaǜUȦǢѰљњЬǦўў))aAǃ+ǭѵǆ+Ćǡ@#сдǅ5#]4'~'ǃ#ǬUưy)ПǓуT+ȧǢр5о'ќg0}}ǅƱj^ǃ"
noncomputable def bB:SS:=(av (ci (sOr (dX (dW (.ex (sOp (bK "tuple") [.bor 1])))) (bS gNe [.ex (sOp bJ [.bor 1]),.ex (sC (.int 2))])) (bd (sC (.bl false))) cU) (av (aU 2 (sOp gIx [.bor 1,.ex (sC (.int 0))])) (av (aU 3 (sOp gIx [.bor 1,.ex (sC (.int 1))])) (av (ci (sOr (dX (dW (.ex (sOp (bK "tuple") [.bor 2])))) (sOr (dX (dW (.ex (sOp (bK "tuple") [.bor 3])))) (bS gNe [.ex (sOp bJ [.bor 2]),.ex (sOp gIx [.bor 0,.ex (sC (.int 0))])]))) (bd (sC (.bl false))) cU) (bd (cj (ar none none bG [.ex (sOp aH [.bor 2,.bor 3]),.ex (sOp aH [.ex (sOp gIx [.bor 0,.ex (sC (.int 0))]),.ex (sOp bJ [.ex (sOp gIx [.bor 0,.ex (sC (.int 1))])])])]) (sOp gEq [.ex (sOp bJ [.ex (sOp pE [.ex (ar none none dE [.bor 0,.bor 1])])]),.ex (sC (.int 1))])))))))
noncomputable def au:FS:=aA 2 4 none bB
abbrev cY:=OkY "total_good" ["web", "thing"] 5 none au
theorem nc(h:Has K mg "total_good" (top 17) ["web", "thing"])(T:Txt K mg)(G7:kR P w K mg base)(G8:ik P w K mg base):cY P w K mg base:=by
 trace "ȨћѠǕ'KǌѡTЪararПѠǕ'ĔЕǕ'KǌѡЏЪdĨƲU4yU]r#ǒШ)?ǎ#ǒUǶUŗ^))T"
noncomputable def bo:SS:=(av (ci (bS gEq [.ex (ar (some 0) (some 0) ai [.bor 0,.ex (sC (.int 3))]),.ex (sC (.int 0))]) (av (aU 8 (sOp aH [.ex (sOp aH [.bor 4,.ex (sOp bJ [.bor 5])]),.ex (sC (.int 1))])) (av (aU 7 (bv 1 (bT (bh 7)) (.nm 9) none (sOp dg [.bor 8,.bor 9]))) (aU 6 (bv 1 (bT (bh 6)) (.nm 9) none (sOp dg [.bor 8,.bor 9]))))) cU) (bd (ar none none fQ [.bor 4,.bor 5,.bor 7,.bor 6,.ex (ar (some 0) (some 0) cE [.bor 0,.bor 4])])))
noncomputable def e9:SS:=(av (ci (bS gEq [.ex (ar (some 0) (some 0) ai [.bor 0,.ex (sC (.int 3))]),.ex (sC (.int 0))]) (av (aU 2 (sOp aH [.ex (sC (.int 1)),.ex (ar (some 0) (some 0) ai [.bor 0,.ex (sC (.int 4))])])) (av (aU 3 (sOp aH [.ex (sC (.int 1)),.ex (ar (some 0) (some 0) ai [.bor 0,.ex (sC (.int 5))])])) (av (jw (.tp [(.nm 4),(.nm 5),(.nm 6)]) (ar none none el [.bor 2,.bor 3])) (av (aU 7 (sOp aH [.ex (bv 1 (cv (.bor 2)) (.nm 9) none (sOp fN [.ex (sOp aH [.bor 9,.ex (sC (.int 1))]),.ex (sOp aH [.bor 3,.ex (sC (.int 1))])])),.ex (bv 1 (cv (.bor 3)) (.nm 9) none (sOp aH [.bor 9,.ex (sC (.int 1))]))])) (aU 6 (bv 2 (bT (bh 5)) (.tp [(.nm 9),(.nm 10)]) none (sOp dg [.ex (sOp dg [.ex (sOp fN [.ex (sOp aH [.bor 2,.ex (sC (.int 2))]),.ex (sOp aH [.bor 3,.ex (sC (.int 1))])]),.ex (sOp gIx [.bor 7,.bor 9])]),.ex (sOp gIx [.bor 7,.bor 10])]))))))) (jw (.tp [(.nm 4),(.nm 5),(.nm 7),(.nm 6)]) (ar (some 0) (some 0) cF [.bor 0,.bor 1]))) bo)
noncomputable def dv:FS:=aA 2 9 (some 0) e9
abbrev iM:=OkY "_law_totals" ["pen", "most"] 5 (some 0) dv
theorem ma(h:Has K mg "_law_totals" (top 36) ["pen", "most"])(T:Txt K mg)(G5:cP P w K mg base)(G10:jQ P w K mg base)(G21:gw P w K mg base)(G0:mU P w K mg base)(G22:gv P w K mg base):iM P w K mg base:=by
 trace "ȩћǓуTЧ4TуЧ4Tу.ĬƳ^НǆѳѝЧ]ȪǖǉпеJоо#ȫǖǉпед+ȬǖѰљњЬ5#5#Jоо#Ѓ#Ѓ+Ĭƴ^НǆѳēǞѝПǓуTЧ]4iѧTЧȭǖр5y+Ȯǖр5yќƵjjjjUƶ^)"
noncomputable def iV:SS:=(bd (cj (ar none none au [.bor 0,.bor 1]) (sOp gEq [.ex (sOp eQ [.ex (sOp gIx [.bor 1,.ex (sC (.int 0))])]),.ex (sOp gIx [.bor 0,.ex (sC (.int 0))])])))
noncomputable def dl:FS:=aA 2 2 none iV
abbrev mR:=OkY "low_good" ["web", "thing"] 6 none dl
theorem qF(h:Has K mg "low_good" (top 20) ["web", "thing"])(T:Txt K mg)(G13:cY P w K mg base):mR P w K mg base:=by
 trace "ǩјŘ^?ǎ#ǜШЏ"
noncomputable def e8:SS:=(ci (dX (dW (.ex (ar none none au [.bor 0,.bor 1])))) (oU "NoNumber") cU)
noncomputable def cc:FS:=aA 2 2 none e8
abbrev iL:=OkY "check_total" ["web", "thing"] 6 none cc
theorem l9(h:Has K mg "check_total" (top 22) ["web", "thing"])(T:Txt K mg)(G13:cY P w K mg base)(R_NoNumber:pX K mg base "NoNumber"):iL P w K mg base:=by
 trace "ǩǊЩЕŘ^+ȯO"
noncomputable def iU:SS:=(av (df (ar none none cc [.bor 0,.bor 1])) (bd (sOp gIx [.ex (ar none none dE [.bor 0,.bor 1]),.ex (sC (.int 0))])))
noncomputable def cp:FS:=aA 2 2 none iU
abbrev mQ:=OkY "total_of" ["web", "thing"] 7 none cp
theorem qE(h:Has K mg "total_of" (top 21) ["web", "thing"])(T:Txt K mg)(G16:iL P w K mg base)(G8:ik P w K mg base):mQ P w K mg base:=by
 trace "ǩǊ.ĆƷ^d@#ŗ^T"
noncomputable def eD:SS:=(sf nms 2 (bd (aP [(sC (.str "told")),(ar none none cp [.bor 0,.bor 1])])) (bd (aP [(Kd.qk nms 2),(sC .non)])))
noncomputable def bP:FS:=aA 2 3 none eD
abbrev il:=OkY "_law_told_of" ["web", "thing"] 8 none bP
theorem kZ(h:Has K mg "_law_told_of" (top 39) ["web", "thing"])(T:Txt K mg)(G4:mQ P w K mg base){TEa:Addr}(HT:Hdl K mg "TieError" TEa)(SU:∀ nm,nms.elem nm=true->∀ C,h9 K nm C->PySem.W.subIn K (.ref C) (.ref TEa)=some true)(GK:OkA P w K mg base "_law_kind_of" ["e"] 1 (Kd.r8 K mg))(KN:Kd.zo K mg nms):il P w K mg base:=by
 trace "ȰǊ+ȱǑdgĸǅȲ^ǃǑdgȳǅBǃ"
noncomputable def bt:SS:=(av (aU 4 (ar none none au [.bor 0,.bor 1])) (av (aU 5 (ar none none dl [.bor 0,.bor 1])) (av (ci (sOr (dX (dW (.ex (sOp (bK "bool") [.bor 4])))) (sOr (dX (dW (.ex (sOp (bK "bool") [.bor 5])))) (bS gNe [.bor 4,.ex (sOp jj [.bor 2,.ex (sC .non)])]))) (bd (sC (.bl false))) cU) (ci (bS gNe [.bor 5,.ex (cj (sOp jj [.bor 2,.ex (sC .non)]) (sOp gEq [.ex (sOp fM [.ex (sOp gIx [.bor 1,.ex (sC (.int 0))])]),.ex (sOp bn [.ex (sOp ko [.ex (sC (.int 1)),.ex (sOp aH [.ex (sOp gIx [.bor 0,.ex (sC (.int 0))]),.ex (sC (.int 1))])])])]))]) (bd (sC (.bl false))) cU))))
noncomputable def fE:SS:=(av (aU 2 (ar none none al [.bor 0,.bor 1])) (av (eU (cv (.ex (sC (.int 2)))) (.nm 3) bt) (av (aU 6 (ar none none bP [.bor 0,.bor 1])) (av (ci (bS gIs [.bor 2,.ex (sC .non)]) (bd (sOp gEq [.bor 6,.ex (aP [(sC (.str "number")),(sC .non)])])) cU) (bd (cj (sOp gEq [.bor 6,.ex (aP [(sC (.str "told")),(bh 2)])]) (ar none none ba [.ex (sOp gIx [.bor 6,.ex (sC (.int 1))])])))))))
noncomputable def aE:FS:=aA 2 7 none fE
abbrev jR:=OkY "_law_right" ["web", "thing"] 9 none aE
theorem nk(h:Has K mg "_law_right" (top 40) ["web", "thing"])(T:Txt K mg)(G25:fv P w K mg base)(G13:cY P w K mg base)(G3:mR P w K mg base)(G18:il P w K mg base)(G12:fU P w K mg base):jR P w K mg base:=by
 trace "ȴнƸ^ЈǝѶǆař^aƹ^ПѠǛ'ĔЕǛ'KǌiŚiBЪЩǌiĨŚiB?ǎ#ǲШ#ǟUǥĄTU]rѬ)Ъaƺ^ПƻiBdǎigĸǅBǃќĨǎigĸ}ǃ?ƼШ"
noncomputable def lq:SS:=(ci (sOr (dX (dW (.ex (ar none none aE [.bor 1,.bor 2])))) (dX (dW (.ex (ar none none aE [.ex (aP [(sC (.int 2)),(aP [(aP [(sC (.int 0)),(sC (.int 1))])])]),.ex (sOp yt [.bor 2])]))))) (bd (sC (.bl false))) cU)
noncomputable def lm:SS:=(ci (dX (dW (.ex (ar none none aE [.bor 5,.ex (ar (some 0) (some 4) cu [.bor 4,.bor 5,.bor 6])])))) (bd (sC (.bl false))) cU)
noncomputable def lj:SS:=(av (aU 4 (ar none none ce [.bor 3])) (av (jw (.tp [(.nm 5),(.nm 6)]) (ar (some 0) (some 4) dv [.bor 4,.ex (sC (.int 20))])) (av (ci (sOr (bS jJ [.ex (ar none none au [.bor 5,.bor 6]),.ex (sC (.bl true))]) (dX (dW (.ex (ar none none aE [.bor 5,.bor 6]))))) (bd (sC (.bl false))) cU) (av (eU (cv (.ex (sC (.int 5)))) (.nm 7) lm) (ci (dX (dW (.ex (ar none none aE [.bor 5,.bor 6])))) (bd (sC (.bl false))) cU)))))
noncomputable def wQ:SS:=(av (aU 1 (aP [(sC (.int 2)),(aP [(aP [(sC (.int 0)),(sC (.int 1))])])])) (av (eU (bT (cA [(aP [(aP [(sC (.int 1)),(sC (.int 2))]),(aP [(sC (.int 3))])]),(aP [(aP [(sC (.int 1)),(sC (.int 3))]),(aP [(sC (.int 2))])]),(aP [(aP [(sC (.int 3)),(sC (.int 2))]),(aP [(sC (.int 1))])]),(aP [(aP [(sC (.int 1)),(sC (.int 1))]),(aP [(sC (.int 3))])]),(aP [(aP [(sC (.int 1)),(sC (.int 2))]),(aP [])]),(aP [(aP [(sC (.int 1)),(sC (.bl true))]),(aP [(sC (.int 3))])])])) (.nm 2) lq) (av (eU (bT (sOp aH [.ex (cA [(ar none none bx [.bor 0,.ex (sC (.int 0))])]),.ex (sOp (Bh 1 6) [.bor 0])])) (.nm 3) lj) (bd (sC (.bl true))))))
noncomputable def re:FS:=aA 1 8 none wQ
theorem ok_law{f0:Addr}{fd0:FuncData}(h:Fun K "law" "law" (top 41) f0 fd0)(T:Txt K mg)(G9:jR P w K mg base)(G17:im P w K mg base)(G14:iN P w K mg base)(G15:iM P w K mg base)(G13:cY P w K mg base)(G24:fA P w K mg base):jS P w K mg base (CXr P w) 10 f0 fd0 ["script"] (spF K none re):=by
 trace "ȵнѲgфџЈĒAжфжДтфжДтфжДтфжДтфǅŔǃтѲīтДџǆЩѠĕ^KЕĕUѲgфџUƽ')ЪЈĒ]сƾѱǃ#ȶ'ǆaƿw.ĬǀѱНǆѝПѻǁ#ř^#īKЕĕ^ЪЈǝѶǆЩЕĕjUǂj^)ЪЩЕĕ^Ъҁ"
end
end K45
namespace K45
open PySem L2
theorem ub{i:Int}:cq [.int i]=some (.ok (.bl true) false,.non):=by
 unfold cq fD
 trace "зЖ!ĘЖR"
theorem qg{i:Int}:ba [.int i]=some (.ok (.bl true) false,.non):=by
 unfold ba dU
 trace "зЖ!ĘЖR"
theorem qf{i lo hi:Int}:aK [.int i,.int lo,.int hi]=some (.ok (.bl (decide (lo<=i)&&decide (i<=hi))) false,.non):=by
 have h := @ub;unfold aK eC
 trace "зЁPĹSŝ%9!%9!PЗR"
noncomputable def rW(ns:List Int)(lo hi:Int):Bool:=(ns.map fun i=>decide (lo<=i)&&decide (i<=hi)).all id&&decide (((dd ns).length:Int)=ns.length)
theorem wH{ns:List Int}{lo hi:Int}(hl:ns.length<=1000):bA [.tup (nD ns),.int lo,.int hi]=some (.ok (.bl (rW ns lo hi)) false,.non):=by
 have h := @qf;unfold bA dH
 trace "шĺщŞǘчъĹR$ǷыPǸǇ$ǹǇq2$ǙR"
noncomputable def pc(ns:List Int)(m:Int):Bool:=decide ((ns.length:Int)=m)&&rW ns 1 m
theorem wJ{ns:List Int}{m:Int}(hl:ns.length<=1000):bG [.tup (nD ns),.int m]=some (.ok (.bl (pc ns m)) false,.non):=by
 have h:=wH (ns:=ns) (lo:=1) (hi:=m) hl;unfold bG eV
 trace "шĺvP2ZǙЁЫY=Є"
structure We(n:Nat)(ts:List (Int×Int)):Prop where
 r:∀ t∈ts,0<=t.1/\t.1 < n/\0<=t.2/\t.2 < n
 l:ts.length<=60
 n:n<=40
theorem t_end{n:Nat}{m:Int}{ts:List (Int×Int)}(W:We n ts){ps:List Int}(hp:ps.length=n):fP [aN m ts,.tup (nD ps)]=some (.ok (.lst (nD (ts.map (smT ps)))) true,.non):=by
 have h1:∀ t∈ts,gIx [.tup (nD ps),.int t.1]=some (.int (ps.getD t.1.toNat 0),false):=fun t ht=>hU (W.r t ht).1 (by have:=W.r t ht;omega)
 have h2:∀ t∈ts,gIx [.tup (nD ps),.int t.2]=some (.int (ps.getD t.2.toNat 0),false):=fun t ht=>hU (W.r t ht).2.2.1 (by have:=W.r t ht;omega)
 unfold fP lN
 trace "шЮѭRбЊęǇЅĚǇQЄ"
abbrev thD(ps us:List Int):D:= .tup [.tup (nD ps),.tup (nD us)]
end K45
namespace K45
open PySem L2
end K45
namespace K45
open PySem L2
theorem xQ{ds:List D}{n:Nat}(h:ds.length≠n):bG [.tup ds,.int (n:Nat)]=some (.ok (.bl false) false,.non):=by
 have g:bJ [.tup ds]=some (.int (ds.length:Nat),false):=rfl
 have q:gEq [.int (ds.length:Nat),.int (n:Nat)]=some (.bl false,false):=by rw [eX,CL (by omega)]
 unfold bG eV
 trace "ьvPCZĈЄ"
theorem xR{ds:List D}{n:Nat}(hl:ds.length=n){g:D->Bool}(hg:∀ d∈ds,aK [d,.int 1,.int (n:Nat)]=some (.ok (.bl (g d)) false,.non))(hf:(ds.map g).all id=false):bG [.tup ds,.int (n:Nat)]=some (.ok (.bl false) false,.non):=by
 have q:gEq [.int (ds.length:Nat),.int (n:Nat)]=some (.bl true,false):=by rw [eX,CK (by omega)]
 have gl:bJ [.tup ds]=some (.int (ds.length:Nat),false):=rfl
 have c:cf 1 (.nm 3) none (ar none none aK [.bor 3,.bor 1,.bor 2]) ds [some (.tup ds,.fz),some (.int 1,.fz),some (.int (n:Nat),.fz)]=some (bD (ds.map g),[some (.tup ds,.fz),some (.int 1,.fz),some (.int (n:Nat),.fz)]):=by
  have:=iX (k:=1) (T:= .nm 3) (f:=ar none none aK [.bor 3,.bor 1,.bor 2]) (ρ:=[some (.tup ds,.fz),some (.int 1,.fz),some (.int (n:Nat),.fz)]) (inj:=id) (g:=g) ds fun d hd=>by
   have h:=hg d hd;dsimp only [id]
   trace "чъ=R"
  rw [List.map_id] at this;exact this
 have ga:nA [.lst (bD (ds.map g))]=some (.bl false,false):=by rw [jL,hf]
 have u:bA [.tup ds,.int 1,.int (n:Nat)]=some (.ok (.bl false) false,.non):=by
  unfold bA dH
  trace "ьщĮРЄ"
 unfold bG eV
 trace "зvPĉZĈ!ЁЫYĊЄ"
end K45
namespace K45
open PySem L2
section
variable{n:Nat}{ts:List (Int×Int)}
abbrev rp(ps:List Int)(sp:Nat)(d:D):List D:=nD (ps.take sp)++[d]++nD (ps.drop (sp+1))
abbrev Odd(n:Nat)(d:D):Prop:=aK [d,.int 1,.int (n:Nat)]=some (.ok (.bl false) false,.non)
theorem odd_of{d:D}(h:cq [d]=some (.ok (.bl false) false,.non)):Odd n d:=by
 show aK _=_
 unfold aK eC
 trace "ьЁP=SR"
theorem yI{a b:List D}(h:a.length+b.length<=1000):aH [.tup a,.tup b]=some (.tup (a++b),false):=by
 show (if small (a.length+b.length)=true then _ else _)=_
 rw [if_pos (cy (by omega))]
end
end K45
namespace K45
open PySem L2
section
variable{n:Nat}{ts:List (Int×Int)}
end
end K45
namespace K45
open PySem L2
section
variable{x1:Option (D×Md)}
abbrev sOc:ST:=bS gNe [.bor 2,.ex (cA [])]
theorem n8{α β:Type}{f:α->β}:∀ (l:List α) (k:Nat),(l.map f).eraseIdx k=(l.eraseIdx k).map f
 | [],_=>by simp
 | _::_,0=>rfl
 | a::l,k+1=>by
  show f a::(l.map f).eraseIdx k=f a::(l.eraseIdx k).map f
  rw [n8 l k]
theorem l7{α:Type}:∀ (l:List α) (k:Nat) (h:k < l.length),((l[k]'h)::l.eraseIdx k).Perm l
 | [],_,h=>absurd h (Nat.not_lt_zero _)
 | _::_,0,_=> .refl _
 | a::l,k+1,h=>((List.Perm.swap a _ _).trans (List.Perm.cons a (l7 l k (by simpa using h))))
theorem pop_at{l:List Int}{k:Nat}(hk:k < l.length)(hl:l.length<=1000):lI (.lst (nD l)) [.int (k:Nat)]=some (.lst (nD (l.eraseIdx k)),.int (l[k]'hk)):=by
 have e:seqIndex? ((k:Nat):Int) (nD l).length=some k:=by
  rw [Ci];unfold seqIndex?;simp;omega
 show (if (decide (-1000000000<=((k:Nat):Int)/\((k:Nat):Int)<=1000000000))=true then match seqIndex? ((k:Nat):Int) (nD l).length with
  | some k=>match (nD l)[k]? with
   | some d=>some (D.lst ((nD l).eraseIdx k),d)
   | none=>none
  | none=>none
  else none)=_
 rw [if_pos (CK (by omega)),e]
 have g:(nD l)[k]?=some (.int (l[k]'hk)):=by rw [nD,CG,Ch hk];rfl
 have h:(nD l).eraseIdx k=nD (l.eraseIdx k):=n8 l k;simp only [g,h]
theorem p8:∀ (m:Nat) (left found:List Int) (k:Nat) (P:Pn),left.length=m->m < k->found.length+m<=100->∃ (P':Pn) (os:List Int),os.Perm left/\cT k sOc bC [some (pD P,.io),x1,some (.lst (nD left),.ow),some (.lst (nD found),.ow)]=some (.nx,[some (pD P',.io),x1,some (.lst (nD []),.ow),some (.lst (nD (found++os)),.ow)])
 | _,_,_,0,_,_,h,_=>absurd h (Nat.not_lt_zero _)
 | 0,left,found,k+1,P,hl,_,_=>by
  have:left=[]:=List.length_eq_zero_iff.mp hl;subst this;have c:sOc [some (pD P,.io),x1,some (.lst (nD []),.ow),some (.lst (nD found),.ow)]=some (.ok false,[some (pD P,.io),x1,some (.lst (nD []),.ow),some (.lst (nD found),.ow)]):=rfl;exact ⟨P,[],.nil,by rw [DE];exact r_whF c rfl⟩
 | m+1,left,found,k+1,P,hl,hk,hb=>by
  have b:=iJ P (m:=((m+1:Nat):Int)) (by omega) (by omega);obtain ⟨j,hj⟩:∃ j:Nat,dr P ((m+1:Nat):Int)=(j:Nat):=⟨(dr P ((m+1:Nat):Int)).toNat,by omega⟩
  have hjl:j < left.length:=by omega
  have ln:bJ [.lst (nD left)]=some (.int ((m+1:Nat):Int),false):=by rw [kt,hl]
  have td:=nL (P:=P) (m:=((m+1:Nat):Int)) (by omega) (by omega);rw [hj] at td;have pa:=pop_at hjl (by omega)
  have gn:gNe [.lst (nD left),.lst []]=some (.bl true,false):=by
   have:=yx (ns:=left) (ms:=[]);rw [CL (fun z=>by rw [z] at hl;simp at hl)] at this;exact this
  have c:sOc [some (pD P,.io),x1,some (.lst (nD left),.ow),some (.lst (nD found),.ow)]=some (.ok true,[some (pD P,.io),x1,some (.lst (nD left),.ow),some (.lst (nD found),.ow)]):=by
   unfold sOc
   trace "6b%*&PD!"
  have ua:cr (.lst (nD found)) [.int (left[j]'hjl)]=some (.lst (nD (found++[left[j]'hjl])),.non):=jr (by omega)
  have e0:bC [some (pD P,.io),x1,some (.lst (nD left),.ow),some (.lst (nD found),.ow)]=some (.nx,[some (pD (nx P ((m+1:Nat):Int)),.io),x1,some (.lst (nD (left.eraseIdx j)),.ow),some (.lst (nD (found++[left[j]'hjl])),.ow)]):=by
   unfold bC
   trace "6{ҀцqŤPťxXŦǄXŧǄ!"
  obtain ⟨P',os,hp,e⟩:=p8 m (left.eraseIdx j) (found++[left[j]'hjl]) k (nx P ((m+1:Nat):Int)) (by rw [List.length_eraseIdx,if_pos hjl];omega) (by omega) (by rw [Cy];simp;omega);refine ⟨P',(left[j]'hjl)::os,((List.Perm.cons _ hp).trans (l7 left j hjl)),?_⟩;rw [DB] at e;exact r_whT c rfl e0 e
end
theorem uc{m:Nat}(h:m<=90)(P:Pn):∃ (P':Pn) (os:List Int),os.Perm (rgI 0 m)/\cE [pD P,.int (m:Nat)]=some (.ok (.lst (nD os)) true,pD P'):=by
 obtain ⟨P',os,hp,e⟩:=p8 (x1:=some (.int (m:Nat),.fz)) m (rgI 0 m) [] 100 P (by rw [ax]) (by omega) (by simp;omega);refine ⟨P',os,hp,?_⟩;have gr:=tw (n:=m) (by omega);have e':cT 100 (bS gNe [.bor 2,.ex (cA [])]) bC [some (pD P,.io),some (.int (m:Nat),.fz),some (.lst (nD (rgI 0 m)),.ow),some (.lst [],.ow)]=some (.nx,[some (pD P',.io),some (.int (m:Nat),.fz),some (.lst (nD []),.ow),some (.lst (nD os),.ow)]):=e;unfold cE fV
 trace "СvQ$ěЋ*&l7ŨũlR"
end K45
namespace K45
open PySem L2
structure Sp(last i:Nat)(ts:List (Int×Int))(ps:List Int)(lo hi hub:Int):Prop where
 tl:ts.length=i
 pl:ps.length=i+1
 c:lo+(last - hi)=(i:Int)+1
 l1:1<=lo
 l2:lo<=hi+1
 h2:hi<=last
 p:ps.Perm (rgI 0 lo.toNat++rgI (hi+1) (last - hi).toNat)
 t:∀ t∈ts,0<=t.1/\t.1 < t.2/\t.2<=(i:Int)
 h0:0<=hub
 h1:hub<=(i:Int)
theorem Ac(lo:Int)(n:Nat):rgI (lo - 1) (n+1)=(lo - 1)::rgI lo n:=by rw [wW,show lo - 1+1=lo by omega]
theorem Sp.up{last i:Nat}{ts:List (Int×Int)}{ps:List Int}{lo hi hub hub':Int}(h:Sp last i ts ps lo hi hub)(hi':i < last)(hb:hub'=hub\/hub'=1+(i:Int)):Sp last (i+1) (ts++[(hub,1+(i:Int))]) (ps++[hi]) lo (hi - 1) hub':=by
 have:=h.c;have:=h.l1;have:=h.l2;have:=h.h2;have:=h.h0;have:=h.h1;refine ⟨by rw [Cy,h.tl];rfl,by rw [Cy,h.pl];rfl,by omega,h.l1,by omega,by omega,?_,fun t ht=> ?_,by omega,by omega⟩
 ·refine (List.Perm.append_right _ h.p).trans ?_
  rw [DB];refine List.Perm.append_left _ ?_;rw [show (last - (hi - 1)).toNat=(last - hi).toNat+1 by omega,show hi - 1+1=(hi+1) - 1 by omega,Ac,show hi+1 - 1=hi by omega];exact Eh _ _
 ·rcases CI.mp ht with ht | ht
  ·have:=h.t t ht;omega
  ·rw [CC.mp ht]
   exact ⟨h.h0,by show hub < 1+(i:Int);omega,by show 1+(i:Int)<=_;omega⟩
theorem Sp.dn{last i:Nat}{ts:List (Int×Int)}{ps:List Int}{lo hi hub hub':Int}(h:Sp last i ts ps lo hi hub)(hi':i < last)(hb:hub'=hub\/hub'=1+(i:Int)):Sp last (i+1) (ts++[(hub,1+(i:Int))]) (ps++[lo]) (lo+1) hi hub':=by
 have:=h.c;have:=h.l1;have:=h.l2;have:=h.h2;have:=h.h0;have:=h.h1;refine ⟨by rw [Cy,h.tl];rfl,by rw [Cy,h.pl];rfl,by omega,by omega,by omega,by omega,?_,fun t ht=> ?_,by omega,by omega⟩
 ·refine (List.Perm.append_right _ h.p).trans ?_
  rw [show (lo+1).toNat=lo.toNat+1 by omega,dz,show (0:Int)+(lo.toNat:Nat)=lo by omega,DB,DB];exact List.Perm.append_left _ (List.perm_append_comm)
 ·rcases CI.mp ht with ht | ht
  ·have:=h.t t ht;omega
  ·rw [CC.mp ht]
   exact ⟨h.h0,by show hub < 1+(i:Int);omega,by show 1+(i:Int)<=_;omega⟩
theorem Sp.fin{last:Nat}{ts:List (Int×Int)}{ps:List Int}{lo hi hub:Int}(h:Sp last last ts ps lo hi hub):ps.Perm (rgI 0 (last+1)):=by
 have:=h.c;have:=h.l1;have:=h.l2;have:=h.h2
 have e:rgI 0 (last+1)=rgI 0 lo.toNat++rgI (hi+1) (last - hi).toNat:=by
  rw [show last+1=lo.toNat+(last - hi).toNat by omega,uh,show (0:Int)+(lo.toNat:Nat)=hi+1 by omega]
 rw [e];exact h.p
structure Sp2(last i:Nat)(ts:List (Int×Int))(ps:List Int)(lo hi hub sd:Int):Prop where
 b:Sp last i ts ps lo hi hub
 n:ps.getD hub.toNat 0=if sd=1 then lo - 1 else hi+1
 st:ts.map (stG ps)=(rgI 0 i).map fun k=>(last:Int) - k
 pt:∀ t∈ts,min (ps.getD t.1.toNat 0) (ps.getD t.2.toNat 0)<=lo - 1/\hi+1<=max (ps.getD t.1.toNat 0) (ps.getD t.2.toNat 0)
theorem cC{ps:List Int}{x:Int}{j:Nat}(h:j < ps.length):(ps++[x]).getD j 0=ps.getD j 0:=by
 rw [Ck,Ck,CV h]
theorem om{ps:List Int}{x:Int}{j:Nat}(h:j=ps.length):(ps++[x]).getD j 0=x:=by
 rw [Ck,h,DA (Cw _),Er];rfl
theorem Sp2.up{last i:Nat}{ts:List (Int×Int)}{ps:List Int}{lo hi hub hub' sd':Int}(h:Sp2 last i ts ps lo hi hub 1)(hi':i < last)(hb:(hub'=hub/\sd'=1)\/(hub'=1+(i:Int)/\sd'=0)):Sp2 last (i+1) (ts++[(hub,1+(i:Int))]) (ps++[hi]) lo (hi - 1) hub' sd':=by
 have B:=h.b;have:=B.c;have:=B.l1;have:=B.l2;have:=B.h2;have:=B.h0;have:=B.h1;have pl:=B.pl;have hn:=h.n;rw [if_pos rfl] at hn
 have e1:(ps++[hi]).getD hub.toNat 0=lo - 1:=by rw [cC (by omega)];exact hn
 have e2:(ps++[hi]).getD (1+(i:Int)).toNat 0=hi:=om (by omega);refine ⟨B.up hi' (by omega),?_,?_,fun t ht=> ?_⟩
 ·rcases hb with ⟨rfl,rfl⟩ | ⟨rfl,rfl⟩
  ·rw [if_pos rfl,e1]
  ·rw [if_neg (by omega),e2];omega
 ·rw [CU,dz,CU,<- h.st]
  congr 1
  ·refine C1 fun t ht=> ?_
   have:=B.t t ht;unfold stG;rw [cC (by omega),cC (by omega)]
  ·show [stG (ps++[hi]) (hub,1+(i:Int))]=[(last:Int) - (0+(i:Nat))]
   unfold stG;rw [e1,e2]
   congr 1
   omega
 ·rcases CI.mp ht with ht | ht
  ·have:=B.t t ht
   have:=h.pt t ht;rw [cC (by omega),cC (by omega)];omega
  ·rw [CC.mp ht]
   show min ((ps++[hi]).getD hub.toNat 0) ((ps++[hi]).getD (1+(i:Int)).toNat 0)<=lo - 1/\hi - 1+1<=max ((ps++[hi]).getD hub.toNat 0) ((ps++[hi]).getD (1+(i:Int)).toNat 0)
   rw [e1,e2];omega
theorem Sp2.dn{last i:Nat}{ts:List (Int×Int)}{ps:List Int}{lo hi hub hub' sd':Int}(h:Sp2 last i ts ps lo hi hub 0)(hi':i < last)(hb:(hub'=hub/\sd'=0)\/(hub'=1+(i:Int)/\sd'=1)):Sp2 last (i+1) (ts++[(hub,1+(i:Int))]) (ps++[lo]) (lo+1) hi hub' sd':=by
 have B:=h.b;have:=B.c;have:=B.l1;have:=B.l2;have:=B.h2;have:=B.h0;have:=B.h1;have pl:=B.pl;have hn:=h.n;rw [if_neg (by omega)] at hn
 have e1:(ps++[lo]).getD hub.toNat 0=hi+1:=by rw [cC (by omega)];exact hn
 have e2:(ps++[lo]).getD (1+(i:Int)).toNat 0=lo:=om (by omega);refine ⟨B.dn hi' (by omega),?_,?_,fun t ht=> ?_⟩
 ·rcases hb with ⟨rfl,rfl⟩ | ⟨rfl,rfl⟩
  ·rw [if_neg (by omega),e1]
  ·rw [if_pos rfl,e2];omega
 ·rw [CU,dz,CU,<- h.st]
  congr 1
  ·refine C1 fun t ht=> ?_
   have:=B.t t ht;unfold stG;rw [cC (by omega),cC (by omega)]
  ·show [stG (ps++[lo]) (hub,1+(i:Int))]=[(last:Int) - (0+(i:Nat))]
   unfold stG;rw [e1,e2]
   congr 1
   omega
 ·rcases CI.mp ht with ht | ht
  ·have:=B.t t ht
   have:=h.pt t ht;rw [cC (by omega),cC (by omega)];omega
  ·rw [CC.mp ht]
   show min ((ps++[lo]).getD hub.toNat 0) ((ps++[lo]).getD (1+(i:Int)).toNat 0)<=lo+1 - 1/\hi+1<=max ((ps++[lo]).getD hub.toNat 0) ((ps++[lo]).getD (1+(i:Int)).toNat 0)
   rw [e1,e2];omega
theorem Sp2.prt{last:Nat}{ts:List (Int×Int)}{ps:List Int}{lo hi hub sd:Int}(h:Sp2 last last ts ps lo hi hub sd)(h0:0 < last):Prt ts last ps hi:=by
 have B:=h.b;have:=B.c;have:=B.l1;have:=B.l2;have:=B.h2;refine ⟨B.fin,?_,fun t ht=> ?_,fun t ht=>by have:=B.t t ht;omega,h0⟩
 ·rw [h.st]
  refine eJ (bi (br _ _) fun x _ y _ e=>by omega) (by rw [Ci,ax]) fun x hx=> ?_
  obtain ⟨y,hy,rfl⟩:=C0.mp hx;have:=aC.mp hy;omega
 ·have:=h.pt t ht
  omega
theorem Sp2.nd{last i:Nat}{ts:List (Int×Int)}{ps:List Int}{lo hi hub sd:Int}(h:Sp2 last i ts ps lo hi hub sd):ts.Nodup:=by
 refine jC (f:=stG ps) ?_;rw [h.st]
 exact bi (br _ _) fun x _ y _ e=>by omega
theorem zL{last:Nat}(h1:1<=last)(h2:last<=30)(P:Pn):∃ (P':Pn) (ts:List (Int×Int)) (ps:List Int),eh [pD P,.int (last:Nat)]=some (.ok (.tup [.int ((last:Nat)+1),.lst (tD ts),.lst (nD ps)]) false,pD P')/\(∃ lw,Prt ts last ps lw)/\ts.length=last/\(∀ t∈ts,0<=t.1/\t.1 < t.2/\t.2<=(last:Int))/\ts.Nodup:=by
 obtain ⟨ρ',e,P',ts,ps,lo,hi,hub,sd,y7,hS,hsd,rfl⟩:=nQ (T:= .nm 7) (f:=bM) (lo:=1) (fun i ρ=>∃ (P:Pn) (ts:List (Int×Int)) (ps:List Int) (lo hi hub sd:Int) (y7:Option (D×Md)),Sp2 last i ts ps lo hi hub sd/\(sd=0\/sd=1)/\ρ=[some (pD P,.io),some (.int (last:Nat),.fz),some (.lst (tD ts),.ow),some (.lst (nD ps),.ow),some (.int hub,.fz),some (.lst [.int lo,.int hi],.ow),some (.int sd,.fz),y7]) last [some (pD P,.io),some (.int (last:Nat),.fz),some (.lst [],.ow),some (.lst [.int 0],.ow),some (.int 0,.fz),some (.lst [.int 1,.int (last:Nat)],.ow),some (.int 1,.fz),none]
  ⟨P,[],[0],1,(last:Nat),0,1,none,⟨⟨rfl,rfl,by omega,by omega,by omega,by omega,by
   rw [show ((last:Int) - (last:Nat)).toNat=0 by omega]
   exact .refl _,fun t ht=>absurd ht Dz,by omega,by omega⟩,rfl,rfl,fun t ht=>absurd ht Dz⟩,.inr rfl,rfl⟩ (by
  rintro i hi' ρ ⟨P,ts,ps,lo,hi,hub,sd,y7,hS,hsd,rfl⟩;have tl:=hS.b.tl;have pl:=hS.b.pl;have u1:cr (.lst (tD ts)) [.tup [.int hub,.int (1+(i:Nat))]]=some (.lst (tD (ts++[(hub,1+(i:Int))])),.non):=wF (by omega)
  rcases hsd with rfl | rfl
  ·have ix:gIx [.lst [.int lo,.int hi],.int 0]=some (.int lo,false):=rfl
   have u2:cr (.lst (nD ps)) [.int lo]=some (.lst (nD (ps++[lo])),.non):=jr (by omega)
   have gm:dg [.int (lo+1),.int (2 * 0)]=some (.int (lo+1),false):=by show some (D.int (lo+1 - 2 * 0),false)=_;rw [show lo+1 - 2 * 0=lo+1 by omega]
   have us:ff (.lst [.int lo,.int hi]) (.int 0) (.int (lo+1))=some (.lst [.int (lo+1),.int hi]):=rfl
   by_cases h3:dr P 3=0
   ·unfold bM
    trace "t7{ІэXĜИ{nEXĝИĀюEV%ЌZČh$N!ЗĞǄя9`8ЌYl"
    exact ⟨_,_,_,_,_,_,_,_,hS.dn hi' (.inr ⟨rfl,rfl⟩),.inr rfl,rfl⟩
   ·unfold bM
    trace "t7{ІэXĜИ{nEXĝИĀюEV%ЌZČh$N!ЗĞǄѐ"
    exact ⟨_,_,_,_,_,_,_,_,hS.dn hi' (.inl ⟨rfl,rfl⟩),.inl rfl,rfl⟩
  ·have ix:gIx [.lst [.int lo,.int hi],.int 1]=some (.int hi,false):=rfl
   have u2:cr (.lst (nD ps)) [.int hi]=some (.lst (nD (ps++[hi])),.non):=jr (by omega)
   have gm:dg [.int (hi+1),.int (2 * 1)]=some (.int (hi - 1),false):=by show some (D.int (hi+1 - 2 * 1),false)=_;rw [show hi+1 - 2 * 1=hi - 1 by omega]
   have us:ff (.lst [.int lo,.int hi]) (.int 1) (.int (hi - 1))=some (.lst [.int lo,.int (hi - 1)]):=rfl
   by_cases h3:dr P 3=0
   ·unfold bM
    trace "t7{ІэXĜИ{nEXĝИĀюEV%ЌZČh$N!ЗĞǄя9`8ЌYl"
    exact ⟨_,_,_,_,_,_,_,_,hS.up hi' (.inr ⟨rfl,rfl⟩),.inl rfl,rfl⟩
   ·unfold bM
    trace "t7{ІэXĜИ{nEXĝИĀюEV%ЌZČh$N!ЗĞǄѐ"
    exact ⟨_,_,_,_,_,_,_,_,hS.up hi' (.inl ⟨rfl,rfl⟩),.inr rfl,rfl⟩)
 refine ⟨P',ts,ps,?_,⟨_,hS.prt (by omega)⟩,hS.b.tl,hS.b.t,hS.nd⟩;rw [show last=((last:Int)+1 - 1).toNat by omega] at e;simp only [show ((((last:Int)+1 - 1).toNat:Nat):Int)=(last:Int) by omega] at e;unfold eh ju
 trace "С*&Ћ*ЙЋ<Ћ*s(эЋ<иŬЫke$hhǈ,-Љё(ТГ&R"
end K45
namespace K45
open PySem L2
section
variable{n:Nat}{ts:List (Int×Int)}{ps us:List Int}{c w:Int}
theorem mC{i:Nat}(h:i < ps.length):(ps.map fun x=>w - x).getD i 0=w - ps.getD i 0:=by
 rw [Ck,CG,Ck,Ch h];rfl
theorem uf(W:We n ts)(hp:ps.length=n){t:Int×Int}(ht:t∈ts):smT (ps.map fun x=>w - x) t=2 * w - smT ps t:=by
 have r:=W.r t ht;unfold smT;rw [mC (by omega),mC (by omega)];omega
theorem Bf{i:Nat}(h:i < ts.length):ts.getD i (0,0)∈ts:=by
 rw [Ck,Ch h];exact CT _
theorem xV(h:ps.Nodup):(ps.map fun x=>w - x).Nodup:=bi h fun x _ y _ e=>by omega
theorem zD(W:We n ts)(T:Tot n ts ps us c):Tot n ts (ps.map fun x=>(n:Int)+(ts.length:Int)+1 - x) (us.map fun x=>(n:Int)+(ts.length:Int)+1 - x) (3 * ((n:Int)+(ts.length:Int)+1) - c):=by
 refine ⟨by rw [Ci];exact T.lp,by rw [Ci];exact T.lu,fun x hx=> ?_,?_,fun i hi=> ?_⟩
 ·rw [<- CU] at hx
  obtain ⟨y,hy,rfl⟩:=C0.mp hx;have:=T.b y hy;omega
 ·rw [<- CU]
  exact xV T.d
 ·rw [uf W T.lp (Bf hi),mC (by rw [T.lu];exact hi)]
  have:=T.s i hi;omega
theorem rg_sub{l:List Int}{a:Int}{m:Nat}(h:l.Perm (rgI a m)):(l.map fun x=>w - x).Perm (rgI (w - a - m+1) m):=by
 refine eJ (xV (h.nodup_iff.mpr (br _ _))) (by rw [Ci,h.length_eq,ax]) fun x hx=> ?_
 obtain ⟨y,hy,rfl⟩:=C0.mp hx;have:=aC.mp (h.mem_iff.mp hy);omega
theorem min_rg{l:List Int}{a:Int}{m:Nat}(h:l.Perm (rgI a m))(h0:0 < m):kf l=a:=by
 have ne:l≠[]:=fun z=>by have:=h.length_eq;rw [z,ax] at this;simp at this;omega
 have h1:=lE ne;have h2:=aC.mp (h.mem_iff.mp h1.1);have h3:=h1.2 a (h.mem_iff.mpr (aC.mpr (by omega)));omega
theorem max_rg{l:List Int}{a:Int}{m:Nat}(h:l.Perm (rgI a m))(h0:0 < m):dZ l=a+m - 1:=by
 have ne:l≠[]:=fun z=>by have:=h.length_eq;rw [z,ax] at this;simp at this;omega
 have h1:=iw ne;have h2:=aC.mp (h.mem_iff.mp h1.1);have h3:=h1.2 (a+m - 1) (h.mem_iff.mpr (aC.mpr (by omega)));omega
theorem zE(T:Tot n ts ps us c)(h:∀ x∈ps,x<=(n:Int)):ps.Perm (rgI 1 n)/\us.Perm (rgI ((n:Int)+1) ts.length):=by
 have nd:=List.nodup_append.mp T.d
 have p1:ps.Perm (rgI 1 n):=eJ nd.1 T.lp fun x hx=>by have:=T.b x (Cp _ hx);have:=h x hx;omega
 refine ⟨p1,eJ nd.2.1 T.lu fun x hx=> ?_⟩;have b:=T.b x (Co _ hx)
 by_cases z:x<=n
 ·exact absurd rfl (nd.2.2 x (p1.mem_iff.mpr (aC.mpr (by omega))) x hx)
 ·omega
theorem wN(W:We n ts)(hp:ps.length=n):ts.map (smT (ps.map fun x=>w - x))=(ts.map (smT ps)).map fun x=>2 * w - x:=by
 rw [Dd]
 exact C1 fun t ht=>uf W hp ht
end
theorem oN{n:Nat}{ts:List (Int×Int)}(W:We n ts){ps:List Int}(hp:ps.length=n)(ne:ts≠[]):cG [.int (n:Nat),.lst (tD ts),.lst (nD ps)]=some (.ok (.lst (nD ((ts.map (smT ps)).map fun x=>(n:Int)+ts.length+kf (ts.map (smT ps)) - x))) true,.non):=by
 have h1:∀ t∈ts,gIx [.lst (nD ps),.int t.1]=some (.int (ps.getD t.1.toNat 0),false):=fun t ht=>bO (W.r t ht).1 (by have:=W.r t ht;omega)
 have h2:∀ t∈ts,gIx [.lst (nD ps),.int t.2]=some (.int (ps.getD t.2.toNat 0),false):=fun t ht=>bO (W.r t ht).2.2.1 (by have:=W.r t ht;omega)
 have ne':ts.map (smT ps)≠[]:=by simpa using ne
 have gm:=tf ne';unfold cG fW
 trace "СѤбЊęǇЅĚǇQ`WvqŮQqNQǄ-ЮГSйЄS"
noncomputable def Mk(d:D)(nw:Bool)(ρ:Rho):Prop:=∃ (n:Nat) (ts:List (Int×Int)) (ps us:List Int) (c:Int) (P:Pn),We n ts/\(∀ t∈ts,t.1 < t.2)/\ts.Nodup/\ts.length<=40/\ts≠[]/\Tot n ts ps us c/\d = .tup [.int (n:Nat),.lst (tD ts),.lst (nD ps),.lst (nD us)]/\nw=false/\ρ[0]?=some (some (pD P,.io))
theorem vW{n:Nat}{ps:List Int}(h:ps.Perm (rgI 1 n)):(ps.map fun x=>(n:Int)+1 - x).Perm (rgI 1 n):=by
 refine eJ (bi (h.nodup_iff.mpr (br _ _)) fun x hx y hy e=>by omega) (by rw [Ci,h.length_eq,ax]) fun x hx=> ?_
 obtain ⟨y,hy,rfl⟩:=C0.mp hx;have:=aC.mp (h.mem_iff.mp hy);omega
theorem q5{n:Nat}{ts:List (Int×Int)}{ps:List Int}{L:Int}(ne:ts≠[])(hp:ps.Perm (rgI 1 n))(hs:(ts.map (smT ps)).Perm (rgI L ts.length)):Tot n ts ps ((ts.map (smT ps)).map fun x=>(n:Int)+ts.length+kf (ts.map (smT ps)) - x) (L+n+ts.length):=by
 have T:=A5 hp hs;rw [min_rg hs (C4.mpr ne)]
 have e:((ts.map (smT ps)).map fun x=>(n:Int)+ts.length+L - x)=yM n ts ps L:=C1 fun x _=>by omega
 rw [e];exact T
theorem tail{n:Nat}{ts:List (Int×Int)}{ps:List Int}{L:Int}{P:Pn}{x1 x5 x6 x7:Option (D×Md)}{m3:Md}(hm:m3 = .ow\/m3 = .fz)(W:We n ts)(h1:∀ t∈ts,t.1 < t.2)(nd:ts.Nodup)(h2:ts.length<=40)(ne:ts≠[])(hp:ps.Perm (rgI 1 n))(hs:(ts.map (smT ps)).Perm (rgI L ts.length)):rR (bV [some (pD P,.io),x1,some (.int (n:Nat),.fz),some (.lst (tD ts),m3),some (.lst (nD ps),.ow),x5,x6,x7]) Mk:=by
 have hl:ps.length=n:=by rw [hp.length_eq,ax]
 have hs2:=rg_sub (w:=2 * ((n:Int)+1)) hs;rw [<- wN W hl] at hs2;have T1:=q5 ne (vW hp) hs2;have T2:=q5 ne hp hs
 rcases hm with rfl | rfl
 ·unfold bV
  by_cases h:dr P 2=0
  ·have g:=oN (ps:=ps.map fun x=>(n:Int)+1 - x) W (by rw [Ci,hl]) ne
   trace "/ѷ8ЮГSбveYRǄ"
   trace "УІТТъCО"
   exact ⟨n,ts,_,_,_,_,W,h1,nd,h2,ne,T1,rfl,rfl,rfl⟩
  ·have g:=oN (ps:=ps) W hl ne
   trace "/ѐ"
   trace "УІТТъCО"
   exact ⟨n,ts,_,_,_,_,W,h1,nd,h2,ne,T2,rfl,rfl,rfl⟩
 ·unfold bV
  by_cases h:dr P 2=0
  ·have g:=oN (ps:=ps.map fun x=>(n:Int)+1 - x) W (by rw [Ci,hl]) ne
   trace "/ѷ8ЮГSбveYRǄ"
   trace "УІѩТъCО"
   exact ⟨n,ts,_,_,_,_,W,h1,nd,h2,ne,T1,rfl,rfl,rfl⟩
  ·have g:=oN (ps:=ps) W hl ne
   trace "/ѐ"
   trace "УІѩТъCО"
   exact ⟨n,ts,_,_,_,_,W,h1,nd,h2,ne,T2,rfl,rfl,rfl⟩
end K45
namespace K45
open PySem L2
abbrev upV(n:Nat)(l x:Int):Int:=if x > l then (n:Int)+l+1 - x else x+1
theorem uM{α β:Type}{f:α->β}:∀ (xs:List α) (s:List β),xs.foldl (fun s x=>s++[f x]) s=s++xs.map f
 | [],s=>by simp
 | x::xs,s=>by rw [EQ,uM xs,CF,DB];rfl
theorem A7{n:Nat}{l:Int}{P:D}{x1 x3 x5:Option (D×Md)}(ns:List Int)(qs:List Int)(x7:Option (D×Md))(hl:qs.length+ns.length<=100):∃ y7,aY (.nm 7) bE (nD ns) [some (P,.io),x1,some (.int (n:Nat),.fz),x3,some (.lst (nD qs),.ow),x5,some (.int l,.fz),x7]=some (.nx,[some (P,.io),x1,some (.int (n:Nat),.fz),x3,some (.lst (nD (qs++ns.map (upV n l))),.ow),x5,some (.int l,.fz),y7]):=by
 obtain ⟨ρ',e,y7,hq,h⟩:=gJ (T:= .nm 7) (f:=bE) (inj:=D.int) (fun i (s:List Int) ρ=>∃ y7,s.length=qs.length+i/\ρ=[some (P,.io),x1,some (.int (n:Nat),.fz),x3,some (.lst (nD s),.ow),x5,some (.int l,.fz),y7]) (fun s x=>s++[upV n l x]) ns 0 qs _ ⟨x7,rfl,rfl⟩ (by
  rintro i x hx s ρ ⟨y7,hs,rfl⟩;have hi:i < ns.length:=(Cv.mp hx).1
  by_cases h:x > l
  ·have gg:gGt [.int x,.int l]=some (.bl true,false):=by
    show some (D.bl (decide (x > l)),false)=_
    rw [CK h]
   have u:upV n l x=_:=if_pos h;have gi:gIx [.lst [.int (x+1),.int ((n:Nat)+l+1 - x)],.int 1]=some (.int ((n:Nat)+l+1 - x),false):=rfl;unfold bE
   trace "t{_*(ё(ю!VY&%ЊĽP$ľXĿǈǄ"
   exact ⟨_,by rw [Cy,hs];rfl,by rw [u]⟩
  ·have gg:gGt [.int x,.int l]=some (.bl false,false):=by
    show some (D.bl (decide (x > l)),false)=_
    rw [CL h]
   have u:upV n l x=_:=if_neg h;have gi:gIx [.lst [.int (x+1),.int ((n:Nat)+l+1 - x)],.int 0]=some (.int (x+1),false):=rfl;unfold bE
   trace "t{_*(ё(ю!VY&%ЊĽP$ľXĿǈǄ"
   exact ⟨_,by rw [Cy,hs];rfl,by rw [u]⟩)
 rw [uM] at h;subst h;exact ⟨y7,e⟩
theorem pick5{d:Int}(h0:0<=d)(h1:d < 5):∃ k:Nat,k < 5/\gIx [.lst [.int 3,.int 5,.int 7,.int 9,.int 11],.int d]=some (.int ((2 * k+3:Nat):Int),false):=by
 have:d=0\/d=1\/d=2\/d=3\/d=4:=by omega
 rcases this with rfl | rfl | rfl | rfl | rfl
 ·exact ⟨0,by decide,rfl⟩
 ·exact ⟨1,by decide,rfl⟩
 ·exact ⟨2,by decide,rfl⟩
 ·exact ⟨3,by decide,rfl⟩
 ·exact ⟨4,by decide,rfl⟩
noncomputable def rgT(n:Nat):List (Int×Int):=((rgI 0 (n - 1)).map fun x=>(x,x+1))++[(0,(n:Int) - 1)]
noncomputable def rgP(n:Nat):List Int:=(rgI 0 n).map fun x=>x / 2+1+((n:Int)+1) / 2 * (x % 2)
theorem wU:((List.range 5).all fun k=>uw (rgP (2 * k+3)) 1&&(uw ((rgT (2 * k+3)).map (smT (rgP (2 * k+3)))) ((k:Int)+3)&&(decide (rgT (2 * k+3)).Nodup&&(rgT (2 * k+3)).all fun t=>decide (0<=t.1/\t.1 < t.2/\t.2 < 2 * k+3))))=true:=by decide +kernel
theorem Ab(n:Nat):(rgP n).length=n:=by unfold rgP;rw [Ci,ax]
theorem oY{n:Nat}(h:1<=n):(rgT n).length=n:=by unfold rgT;rw [Cy,Ci,ax,List.length_singleton];omega
theorem ring_k{k:Nat}(h:k < 5):(rgP (2 * k+3)).Perm (rgI 1 (2 * k+3))/\((rgT (2 * k+3)).map (smT (rgP (2 * k+3)))).Perm (rgI ((k:Int)+3) (rgT (2 * k+3)).length)/\We (2 * k+3) (rgT (2 * k+3))/\(∀ t∈rgT (2 * k+3),t.1 < t.2)/\(rgT (2 * k+3)).Nodup/\rgT (2 * k+3)≠[]:=by
 have a:=CH.mp wU k (Dq.mpr h);have ⟨b,a⟩:=(CD _ _).mp a;have ⟨s,a⟩:=(CD _ _).mp a;have ⟨nd,c⟩:=(CD _ _).mp a;have b:=l8 b;rw [Ab] at b;have s:=l8 s;rw [Ci] at s
 have c:∀ t∈rgT (2 * k+3),(0<=t.1/\t.1 < t.2/\t.2 < 2 * k+3):=fun t ht=>Cz (CH.mp c t ht)
 refine ⟨b,s,⟨fun t ht=> ?_,by rw [oY (by omega)];omega,by omega⟩,fun t ht=>(c t ht).2.1,Cz nd,EZ (by rw [oY (by omega)];omega)⟩;have:=c t ht;omega
theorem t_made(P:Pn):rR (dI [some (pD P,.io),some (.int 20,.fz),none,none,none,none,none,none]) Mk:=by
 unfold dI
 by_cases h3:dr P 3=0
 ·have b:=iJ (nx P 3) (m:=5) (by omega) (by omega)
  obtain ⟨k,hk,gx⟩:=pick5 b.1 b.2;obtain ⟨hp,hs,W,hn,nd,ne⟩:=ring_k hk;have l:=oY (n:=2 * k+3) (by omega)
  trace "/я_*ssssЙѪ$ůЋ_:āke$h!ŀǘђІё&S%*Б<(ёФ$Űǐl8:čZǈ!ѢђыVŁhV%ыemŁhkVűǈ$ČhQ`"
  have e1:(((2 * k+3:Nat):Int) - 1).toNat=2 * k+3 - 1:=by omega
  rw [e1];exact tail (n:=2 * k+3) (ts:=rgT (2 * k+3)) (ps:=rgP (2 * k+3)) (.inl rfl) W hn nd (by omega) ne hp hs
 ·have b:=iJ (nx P 3) (m:=20) (by omega) (by omega)
  obtain ⟨P',ts,ps,e,⟨lw,pr⟩,tl,ht,nd⟩:=zL (last:=(1+dr (nx P 3) 20).toNat) (by omega) (by omega) (nx (nx P 3) 20)
  generalize hq:(1+dr (nx P 3) 20).toNat=q at *
  have hq':1+dr (nx P 3) 20=(q:Int):=by omega
  rw [show (q:Int)+1=((q+1:Nat):Int) by omega] at e;rw [<- hq'] at e;have hl:ps.length=q+1:=pr.len
  have h1:∀ t∈ts,gIx [.lst (nD ps),.int t.1]=some (.int (ps.getD t.1.toNat 0),false):=fun t h=>bO (by have:=ht t h;omega) (by have:=ht t h;omega)
  have h2:∀ t∈ts,gIx [.lst (nD ps),.int t.2]=some (.int (ps.getD t.2.toNat 0),false):=fun t h=>bO (by have:=ht t h;omega) (by have:=ht t h;omega)
  have ne:ts≠[]:=EZ (by omega)
  have ne':(ts.map fun t=>min (ps.getD t.1.toNat 0) (ps.getD t.2.toNat 0))≠[]:=by simpa using ne
  have gm:=tq ne';rw [pr.max] at gm;have ups:=pr.upT_sums;have upp:=pr.upT_perm
  have eup:(ps.map (upT q lw)).map (fun x=>x+1)=ps.map (upV (q+1) lw):=by
   rw [Dd]
   refine C1 fun x _=> ?_
   show upT q lw x+1=upV (q+1) lw x
   unfold upT upV
   split<;>split<;>omega
  rw [eup] at ups upp
  generalize lw=l at *
  have ll:=fun (x7:Option (D×Md)) (x1 x3 x5:Option (D×Md))=>A7 (n:=q+1) (l:=l) (P:=pD P') (x1:=x1) (x3:=x3) (x5:=x5) ps [] x7 (by rw [hl];show 0+(q+1)<=100;omega)
  have wd:We (q+1) ts:=⟨fun t h=>by have:=ht t h;omega,by omega,by omega⟩;obtain ⟨y7,e7⟩:=ll none (some (.int 20,.fz)) (some (.lst (tD ts),.fz)) (some (.lst (nD ps),.fz));rw [show nD []=[] from rfl,Dx] at e7
  trace "/Ѹ7ğц%ЌМYѾPP,xǍWщбЊęǇЅĚǇ$įS$NЋ*&lH;ЗŲ"
  exact tail (n:=q+1) (ts:=ts) (ps:=ps.map (upV (q+1) l)) (.inr rfl) wd (fun t h=>by have:=ht t h;omega) nd (by omega) ne upp ups
end K45
namespace K45
open PySem L2
noncomputable def kT(t:Int×Int):List Key:=[.inl t.1,.inl t.2]
theorem sU{a b:Int×Int}(h:kT a=kT b):a=b:=by
 unfold kT at h;simp at h;exact Prod.ext h.1 h.2
theorem yi{ts:List (Int×Int)}(h:ts.Nodup):(ts.map kT).Nodup:=by
 induction ts with
 | nil=>exact DJ
 | cons u ts ih =>
  have h:=CQ.mp h;rw [CF];refine CQ.mpr ⟨fun z=> ?_,ih h.2⟩;obtain ⟨v,hv,e⟩:=C0.mp z;exact h.1 (by rw [<- sU e];exact hv)
theorem qA{t:Int×Int}{d:D}:∀ (tk:List (Int×Int)) (vs:List D),vs.length=tk.length->t∉tk->gB (tk.map kT) vs (kT t) d=((tk++[t]).map kT,vs++[d])
 | [],[],_,_=>rfl
 | u::tk,w::vs,hl,h=>by
  rw [CF];unfold gB;rw [if_neg (fun e=>h (by rw [sU e];exact Cs)),qA tk vs (Nat.succ.inj hl) fun z=>h (Cn _ z)];rfl
 | [],_::_,hl,_=>by simp at hl
 | _::_,[],hl,_=>by simp at hl
theorem uPutT{tk:List (Int×Int)}{vs:List D}{t:Int×Int}{d:D}(hl:vs.length=tk.length)(h:t∉tk)(nd:tk.Nodup)(h2:tk.length<=900):kC (.dT (tk.map kT) vs) (.tup [.int t.1,.int t.2]) d=some (.dT ((tk++[t]).map kT) (vs++[d])):=by
 show (if (small (tk.map kT).length&&decide (tk.map kT).Nodup)=true then some (D.dT (gB (tk.map kT) vs (kT t) d).1 (gB (tk.map kT) vs (kT t) d).2) else none)=_
 rw [qA tk vs hl h,if_pos];rw [cy (by rw [Ci];omega),CK (yi nd)];rfl
noncomputable def lk(tk:List (Int×Int))(us:List Int)(t:Int×Int):Int:=match aW (tk.map kT) (nD us) (kT t) with
 | some (.int i)=>i
 | _=>0
theorem ye:∀ {tk:List (Int×Int)} {us:List Int},tk.Nodup->us.length=tk.length->tk.map (lk tk us)=us
 | [],[],_,_=>rfl
 | t::tk,u::us,nd,hl=>by
  have nd:=CQ.mp nd
  have e1:lk (t::tk) (u::us) t=u:=by
   unfold lk
   show (match aW (kT t::tk.map kT) (.int u::nD us) (kT t) with | some (.int i)=>i | _=>0)=u
   unfold aW;rw [if_pos rfl]
  have e2:∀ s∈tk,lk (t::tk) (u::us) s=lk tk us s:=fun s hs=>by
   have e3:aW (kT t::tk.map kT) (.int u::nD us) (kT s)=aW (tk.map kT) (nD us) (kT s):=by
    have:aW (kT t::tk.map kT) (.int u::nD us) (kT s)=(if kT t=kT s then some (.int u) else aW (tk.map kT) (nD us) (kT s)):=rfl;rw [this,if_neg (fun e=>nd.1 (by rw [sU e];exact hs))]
   unfold lk
   show (match aW (kT t::tk.map kT) (.int u::nD us) (kT s) with | some (.int i)=>i | _=>0)=_
   rw [e3]
  rw [CF,e1,C1 e2,ye nd.2 (Nat.succ.inj hl)]
 | [],_::_,_,hl=>by simp at hl
 | _::_,[],_,hl=>by simp at hl
theorem n9{t:Int×Int}:∀ {tk:List (Int×Int)} {us:List Int},us.length=tk.length->t∈tk->∃ i:Int,aW (tk.map kT) (nD us) (kT t)=some (.int i)
 | u::tk,w::us,hl,h=>by
  show ∃ i:Int,aW (kT u::tk.map kT) (.int w::nD us) (kT t)=some (.int i)
  unfold aW
  by_cases e:kT u=kT t
  ·rw [if_pos e];exact ⟨w,rfl⟩
  ·rw [if_neg e]
   exact n9 (Nat.succ.inj hl) ((Cr.mp h).resolve_left fun z=>e (by rw [z]))
 | [],_,_,h=>by cases h
 | _::_,[],hl,_=>by simp at hl
theorem yH{tk:List (Int×Int)}{us:List Int}{t:Int×Int}(hl:us.length=tk.length)(h:t∈tk):oq [.dT (tk.map kT) (nD us),.tup [.int t.1,.int t.2]]=some (.int (lk tk us t),false):=by
 obtain ⟨i,e⟩:=n9 hl h
 show (match aW (tk.map kT) (nD us) (kT t) with | some d=>some (d,false) | none=>none)=_
 unfold lk;rw [e]
theorem A8(ts:List (Int×Int))(vs:List D):bn [.dT (ts.map kT) vs]=some (.lst (tD ts),true):=by
 show some (D.lst ((ts.map kT).map fun k=> .tup (k.map Bc)),true)=_
 rw [Dd];rfl
theorem gl_get{n:Nat}{g ps os:List Int}(hg:g.length=n)(hp:ps.length=n)(ho:os.Perm (rgI 0 n))(h:∀ j,j < n->g.getD (os.getD j 0).toNat 0=ps.getD j 0):g.Perm ps:=by
 have ol:os.length=n:=by rw [ho.length_eq,ax]
 have e1:ps=os.map fun o=>g.getD o.toNat 0:=by
  refine DI (by rw [Ci,hp,ol]) fun j a b=> ?_
  have:=h j (by omega);rw [DP];rw [Ck (l:=os),Ch (by omega),Ck (l:=ps),Ch a] at this;exact this.symm
 have e2:(rgI 0 n).map (fun o=>g.getD o.toNat 0)=g:=by
  refine DI (by rw [Ci,ax,hg]) fun j a b=> ?_
  rw [DP];unfold rgI;rw [DP,List.getElem_range,show ((0:Int)+(j:Nat)).toNat=j by omega,Ck,Ch b];rfl
 rw [e1];refine List.Perm.trans ?_ (ho.map _).symm;rw [e2]
noncomputable def mnx(os:List Int)(t:Int×Int):Int×Int:=(min (os.getD t.1.toNat 0) (os.getD t.2.toNat 0),max (os.getD t.1.toNat 0) (os.getD t.2.toNat 0))
theorem pb{n:Nat}{os:List Int}(ho:os.Perm (rgI 0 n)){i j:Nat}(hi:i < n)(hj:j < n)(h:os.getD i 0=os.getD j 0):i=j:=by
 have ol:os.length=n:=by rw [ho.length_eq,ax]
 have nd:os.Nodup:=ho.nodup_iff.mpr (br _ _);rw [Ck,Ck,Ch (by omega),Ch (by omega)] at h;have pw:=Ej.mp nd
 rcases Nat.lt_trichotomy i j with z | z | z
 ·exact absurd h (pw i j (by omega) (by omega) z)
 ·exact z
 ·exact absurd h.symm (pw j i (by omega) (by omega) z)
theorem mnx_nd{n:Nat}{ts:List (Int×Int)}{os:List Int}(W:We n ts)(ho:os.Perm (rgI 0 n))(h1:∀ t∈ts,t.1 < t.2)(nd:ts.Nodup):(ts.map (mnx os)).Nodup:=by
 refine bi nd fun s hs t ht e=> ?_
 have a:=W.r s hs;have b:=W.r t ht;have s1:=h1 s hs;have t1:=h1 t ht;have e1:min (os.getD s.1.toNat 0) (os.getD s.2.toNat 0)=min (os.getD t.1.toNat 0) (os.getD t.2.toNat 0):=congrArg Prod.fst e;have e2:max (os.getD s.1.toNat 0) (os.getD s.2.toNat 0)=max (os.getD t.1.toNat 0) (os.getD t.2.toNat 0):=congrArg Prod.snd e
 have c:(os.getD s.1.toNat 0=os.getD t.1.toNat 0/\os.getD s.2.toNat 0=os.getD t.2.toNat 0)\/(os.getD s.1.toNat 0=os.getD t.2.toNat 0/\os.getD s.2.toNat 0=os.getD t.1.toNat 0):=by omega
 rcases c with ⟨c1,c2⟩ | ⟨c1,c2⟩
 ·have d1:=pb ho (by omega) (by omega) c1
  have d2:=pb ho (by omega) (by omega) c2;exact Prod.ext (by omega) (by omega)
 ·have d1:=pb ho (by omega) (by omega) c1
  have d2:=pb ho (by omega) (by omega) c2;omega
theorem xj{n:Nat}{ts:List (Int×Int)}{us os:List Int}(W:We n ts)(h2:ts.length<=40)(hl:us.length=ts.length)(ho:os.Perm (rgI 0 n))(nd:(ts.map (mnx os)).Nodup){x0 x1 x2 x3:Option (D×Md)}{m4:Md}(hm:m4 = .ow\/m4 = .fz):∃ (a b c:Option (D×Md)),aY (.tp [(.tp [(.nm 6),(.nm 7)]),(.nm 8)]) cS ((ts.zip us).map fun p=> .tup [.tup [.int p.1.1,.int p.1.2],.int p.2]) [x0,x1,x2,x3,some (.lst (nD os),m4),some (.dT [] [],.ow),none,none,none,none,none,none]=some (.nx,[x0,x1,x2,x3,some (.lst (nD os),m4),some (.dT ((ts.map (mnx os)).map kT) (nD us),.ow),a,b,c,none,none,none]):=by
 have ol:os.length=n:=by rw [ho.length_eq,ax]
 obtain ⟨ρ',e,a,b,c,rfl⟩:=gJ (T:= .tp [(.tp [(.nm 6),(.nm 7)]),(.nm 8)]) (f:=cS) (inj:=fun p:(Int×Int)×Int=>D.tup [.tup [.int p.1.1,.int p.1.2],.int p.2]) (fun i (_:Unit) ρ=>∃ (a b c:Option (D×Md)),ρ=[x0,x1,x2,x3,some (.lst (nD os),m4),some (.dT (((ts.map (mnx os)).take i).map kT) (nD (us.take i)),.ow),a,b,c,none,none,none]) (fun _ _=>()) (ts.zip us) 0 () [x0,x1,x2,x3,some (.lst (nD os),m4),some (.dT [] [],.ow),none,none,none,none,none,none] ⟨none,none,none,rfl⟩ (by
  rintro i ⟨⟨a,b⟩,u⟩ hx ⟨⟩ ρ ⟨x6,x7,x8,rfl⟩;rw [Db] at *;obtain ⟨hx1,hx2⟩:=Ek.mp hx;have hx1:ts[i]?=some (a,b):=hx1;have hx2:us[i]?=some u:=hx2;have hi:i < ts.length:=(Cv.mp hx1).1;have mt:(a,b)∈ts:=CB hx1;have ra:=W.r _ mt;have ga:gIx [.lst (nD os),.int a]=some (.int (os.getD a.toNat 0),false):=bO (by omega) (by omega);have gb:gIx [.lst (nD os),.int b]=some (.int (os.getD b.toNat 0),false):=bO (by omega) (by omega)
  have tk:(ts.map (mnx os)).take (i+1)=(ts.map (mnx os)).take i++[mnx os (a,b)]:=by rw [List.take_add_one,CG,hx1];rfl
  have tu:us.take (i+1)=us.take i++[u]:=by rw [List.take_add_one,hx2];rfl
  have nd1:((ts.map (mnx os)).take i++[mnx os (a,b)]).Nodup:=by rw [<- tk];exact nd.sublist (List.take_sublist _ _)
  have ni:mnx os (a,b)∉(ts.map (mnx os)).take i:=fun z=>by
   rw [List.nodup_append] at nd1;exact nd1.2.2 _ z _ (CC.mpr rfl) rfl
  have up:=uPutT (vs:=nD (us.take i)) (d:= .int u) (by rw [Ci,DH,DH,Ci];omega) ni (nd.sublist (List.take_sublist _ _)) (by rw [DH,Ci];omega);rw [<- tk,show nD (us.take i)++[D.int u]=nD (us.take (i+1)) by rw [tu,nD,nD,CU];rfl] at up;have up:kC (.dT (((ts.map (mnx os)).take i).map kT) (nD (us.take i))) (.tup [.int (min (os.getD a.toNat 0) (os.getD b.toNat 0)),.int (max (os.getD a.toNat 0) (os.getD b.toNat 0))]) (.int u)=some (.dT (((ts.map (mnx os)).take (i+1)).map kT) (nD (us.take (i+1)))):=up
  rcases hm with rfl | rfl
  ·unfold cS
   trace "ѓЗЉЊLЅĠ$į(ЊLЅĠ$łXİǄ"
   exact ⟨_,_,_,rfl⟩
  ·unfold cS
   trace "ѓЗЉЊLЅĠ$į(ЊLЅĠ$łXİǄ"
   exact ⟨_,_,_,rfl⟩)
 have zl:(ts.zip us).length=ts.length:=by rw [DN];omega
 rw [zl,Db,List.take_of_length_le (by rw [Ci];omega),List.take_of_length_le (by omega)] at e;exact ⟨a,b,c,e⟩
end K45
namespace K45
open PySem L2
theorem qT{l:List Int}{i j:Nat}{x:Int}(h:j≠i):(l.set i x).getD j 0=l.getD j 0:=by
 rw [Ck,CP (Ne.symm h),Ck]
theorem qU{l:List Int}{i:Nat}{x:Int}(h:i < l.length):(l.set i x).getD i 0=x:=by
 rw [Ck,Df h];rfl
theorem given{n:Nat}{ps os:List Int}(hn:n<=40)(hp:ps.length=n)(ho:os.Perm (rgI 0 n)){x0 x1 x3 x5 x6 x7 x8:Option (D×Md)}{m2 m4:Md}(hm2:m2 = .ow\/m2 = .fz)(hm:m4 = .ow\/m4 = .fz):∃ (g:List Int) (y:Option (D×Md)),g.Perm ps/\(∀ j,j < n->g.getD (os.getD j 0).toNat 0=ps.getD j 0)/\aY (.nm 10) bU (nD (rgI 0 n)) [x0,x1,some (.lst (nD ps),m2),x3,some (.lst (nD os),m4),x5,x6,x7,x8,some (.lst (nD (List.replicate n 0)),.ow),none,none]=some (.nx,[x0,x1,some (.lst (nD ps),m2),x3,some (.lst (nD os),m4),x5,x6,x7,x8,some (.lst (nD g),.ow),y,none]):=by
 have ol:os.length=n:=by rw [ho.length_eq,ax]
 have nd:os.Nodup:=ho.nodup_iff.mpr (br _ _)
 obtain ⟨ρ',e,g,y,gl,ge,rfl⟩:=lP (T:= .nm 10) (f:=bU) (fun i ρ=>∃ (g:List Int) (y:Option (D×Md)),g.length=n/\(∀ j,j < i->g.getD (os.getD j 0).toNat 0=ps.getD j 0)/\ρ=[x0,x1,some (.lst (nD ps),m2),x3,some (.lst (nD os),m4),x5,x6,x7,x8,some (.lst (nD g),.ow),y,none]) n [x0,x1,some (.lst (nD ps),m2),x3,some (.lst (nD os),m4),x5,x6,x7,x8,some (.lst (nD (List.replicate n 0)),.ow),none,none] ⟨_,none,Dj,fun j h=>absurd h (Nat.not_lt_zero _),rfl⟩ (by
  rintro i hi ρ ⟨g,y,gl,ge,rfl⟩;have i0:=aC.mp (ho.mem_iff.mp (gZ (l:=os) (i:=i) (by omega)));have g1:gIx [.lst (nD ps),.int (i:Nat)]=some (.int (ps.getD i 0),false):=bO (by omega) (by omega);have g2:gIx [.lst (nD os),.int (i:Nat)]=some (.int (os.getD i 0),false):=bO (by omega) (by omega);have u:ff (.lst (nD g)) (.int (os.getD i 0)) (.int (ps.getD i 0))=some (.lst (nD (g.set (os.getD i 0).toNat (ps.getD i 0)))):=uSetI (by omega) (by omega)
  have fin:∀ j,j < i+1->(g.set (os.getD i 0).toNat (ps.getD i 0)).getD (os.getD j 0).toNat 0=ps.getD j 0:=fun j hj=>by
   by_cases e:j=i
   ·rw [e]
    exact qU (by omega)
   ·have j0:=aC.mp (ho.mem_iff.mp (gZ (l:=os) (i:=j) (by omega)))
    rw [qT]
    ·exact ge j (by omega)
    ·intro h
     have h:os.getD j 0=os.getD i 0:=by omega
     rw [Ck,Ck,Ch (by omega),Ch (by omega)] at h;have pw:=Ej.mp nd
     rcases Nat.lt_or_gt_of_ne e with z | z
     ·exact pw j i (by omega) (by omega) z h
     ·exact pw i j (by omega) (by omega) z h.symm
  have gl':(g.set (os.getD i 0).toNat (ps.getD i 0)).length=n:=by rw [C3,gl]
  rcases hm with rfl | rfl<;>rcases hm2 with rfl | rfl
  ·unfold bU
   trace "ѓnġ!n>!ĊǄ"
   exact ⟨_,_,gl',fin,rfl⟩
  ·unfold bU
   trace "ѓnġ!n>!ĊǄ"
   exact ⟨_,_,gl',fin,rfl⟩
  ·unfold bU
   trace "ѓnġ!n>!ĊǄ"
   exact ⟨_,_,gl',fin,rfl⟩
  ·unfold bU
   trace "ѓnġ!n>!ĊǄ"
   exact ⟨_,_,gl',fin,rfl⟩)
 exact ⟨g,y,gl_get gl hp ho ge,ge,e⟩
theorem BH{n:Nat}{ts:List (Int×Int)}{ps us os:List Int}{c:Int}(W:We n ts)(h1:∀ t∈ts,t.1 < t.2)(nd:ts.Nodup)(h2:ts.length<=40)(T:Tot n ts ps us c)(ho:os.Perm (rgI 0 n))(ne:ts≠[]):∃ (rs:List (Int×Int)) (gs vs:List Int),fQ [.int (n:Nat),.lst (tD ts),.lst (nD ps),.lst (nD us),.lst (nD os)]=some (.ok (.tup [aN (n:Nat) rs,thD gs vs]) false,.non)/\We n rs/\rs≠[]/\Tot n rs gs vs c:=by
 have wn:=W.n;have pl:=T.lp;have hl:=T.lu;have mnd:=mnx_nd W ho h1 nd
 have ol:os.length=n:=by rw [ho.length_eq,ax]
 obtain ⟨a,b,d,e1⟩:=xj (x0:=some (.int (n:Nat),.fz)) (x1:=some (.lst (tD ts),.fz)) (x2:=some (.lst (nD ps),.fz)) (x3:=some (.lst (nD us),.fz)) W h2 hl ho mnd (.inr rfl);have mlen:(ts.map (mnx os)).length=ts.length:=Ci _
 have minn:∀ r∈ts.map (mnx os),0<=r.1/\r.1 < n/\0<=r.2/\r.2 < n:=fun r hr=>by
  obtain ⟨t,ht,rfl⟩:=C0.mp hr;have:=W.r t ht;have ia:=aC.mp (ho.mem_iff.mp (gZ (l:=os) (i:=t.1.toNat) (by omega)));have ib:=aC.mp (ho.mem_iff.mp (gZ (l:=os) (i:=t.2.toNat) (by omega)));unfold mnx;dsimp only;omega
 have hat:∀ j,(hj:j < ts.length)->(ts.map (mnx os))[j]'(by rw [mlen];exact hj)=mnx os (ts[j]'hj):=fun j hj=>DP _
 generalize hk:ts.map (mnx os)=tk at *
 obtain ⟨g,y,hg,ge,e2⟩:=given (x0:=some (.int (n:Nat),.fz)) (x1:=some (.lst (tD ts),.fz)) (x3:=some (.lst (nD us),.fz)) (x5:=some (.dT (tk.map kT) (nD us),.ow)) (x6:=a) (x7:=b) (x8:=d) wn pl ho (.inr rfl) (.inr rfl)
 have hz:us.length>=ts.length:=by omega
 have hz':ts.length<=us.length:=by omega
 have gL:=A8 tk (nD us);have gS:fM [.lst (tD tk)]=some (.lst (tD (eI tk)),true):=vI (by omega)
 have gm:fN [.lst [.int 0],.int (n:Nat)]=some (.lst (nD (List.replicate n 0)),true):=by
  rw [yy (by omega) (by omega),show ((n:Nat):Int).toNat=n by omega]
 have pm:=sy tk;have lkm:=ye mnd (us:=us) (by omega)
 have gg:∀ t∈eI tk,oq [.dT (tk.map kT) (nD us),.tup [.int t.1,.int t.2]]=some (.int (lk tk us t),false):=fun t ht=>yH (by omega) (pm.mem_iff.mp ht)
 have hvp:((eI tk).map (lk tk us)).Perm us:=by
  have:=pm.map (lk tk us);rw [lkm] at this;exact this
 have pall:(g++(eI tk).map (lk tk us)).Perm (ps++us):=hg.append hvp;refine ⟨eI tk,g,(eI tk).map (lk tk us),?_,⟨fun t ht=>minn t (pm.mem_iff.mp ht),by rw [pm.length_eq];omega,wn⟩,fun z=> ?_,⟨by rw [hg.length_eq];exact pl,Ci _,fun x hx=> ?_,pall.nodup_iff.mpr T.d,fun i hi=> ?_⟩⟩
 ·unfold fQ lO
  trace "СĎиŃє9!XųďW_*ЙZNиčZǈĂWыPń$ŴQǄ-ЉІ9!ЂЖ(щйŵǇSPФR"
 ·rw [z] at pm
  have:=pm.length_eq;rw [mlen] at this;exact ne (List.length_eq_zero_iff.mp this.symm)
 ·have:=T.b x (pall.mem_iff.mp hx)
  rw [pm.length_eq,mlen];exact this
 ·have hr:(eI tk)[i]'hi∈tk:=pm.mem_iff.mp (CT hi)
  rw [Ck,Ch hi,Ck,CG,Ch hi]
  show smT g ((eI tk)[i]'hi)+lk tk us ((eI tk)[i]'hi)=c
  generalize (eI tk)[i]'hi=r at *
  obtain ⟨j,hj,rfl⟩:=Eo hr
  have hj':j < ts.length:=by omega
  have lu:lk tk us tk[j]=us[j]'(by omega):=by
   have:(tk.map (lk tk us))[j]'(by rw [Ci];exact hj)=us[j]'(by omega):=by simp only [lkm]
   rw [DP] at this;exact this
  have s:=T.s j hj';rw [Ck,Ch hj',Ck,Ch (by omega:j < us.length)] at s;have s:smT ps (ts[j]'hj')+us[j]'(by omega)=c:=s;rw [lu,hat j hj'];have rt:=W.r _ (CT hj')
  generalize ts[j]'hj'=t at *
  have g1:=ge t.1.toNat (by omega);have g2:=ge t.2.toNat (by omega)
  have:smT g (mnx os t)=smT ps t:=by
   unfold smT mnx;dsimp only;rw [<- g1,<- g2]
   by_cases z:os.getD t.1.toNat 0<=os.getD t.2.toNat 0
   ·rw [Int.min_eq_left z,Int.max_eq_right z]
   ·rw [Int.min_eq_right (by omega),Int.max_eq_left (by omega),Int.add_comm]
  rw [this];exact s
end K45
namespace K45
open PySem L2
structure Nt(n:Nat)(ts:List (Int×Int))(x:D):Prop where
 g:au [aN (n:Nat) ts,x]=some (.ok (.bl false) false,.non)
 d:al [aN (n:Nat) ts,x]=some (.ok .non false,.non)
section
variable{n:Nat}{ts:List (Int×Int)}
theorem nY{x:D}(h:bK "tuple" [x]=some (.bl false,false)):Nt n ts x:=by
 constructor
 ·unfold au bB
  trace "Ѐ|ѕк"
 ·unfold al aT
  trace "Ѐ|ѕк"
theorem pp{l:List D}(h:l.length≠2):Nt n ts (.tup l):=by
 have g:bK "tuple" [.tup l]=some (.bl true,false):=rfl;have gl:bJ [.tup l]=some (.int (l.length:Nat),false):=rfl
 have gn:gNe [.int (l.length:Nat),.int 2]=some (.bl true,false):=by rw [du,CL (by omega)];rfl
 constructor
 ·unfold au bB
  trace "Ѐ|ѹк"
 ·unfold al aT
  trace "Ѐ|ѹк"
theorem pj{u v:D}(h:bK "tuple" [u]=some (.bl false,false)):Nt n ts (.tup [u,v]):=by
 have g:bK "tuple" [.tup [u,v]]=some (.bl true,false):=rfl;have gl:bJ [.tup [u,v]]=some (.int 2,false):=rfl;have gn:gNe [.int 2,.int 2]=some (.bl false,false):=rfl
 constructor
 ·unfold au bB
  trace "іЍЍ|ѕк"
 ·have e:ak [some (aN (n:Nat) ts,.fz),some (.tup [u,v],.fz),some (u,.fz),some (.int (n:Nat),.fz),none,none,none]=some (.rt .non false,[some (aN (n:Nat) ts,.fz),some (.tup [u,v],.fz),some (u,.fz),some (.int (n:Nat),.fz),none,none,none]):=by
   unfold ak
   trace "6Fѕг!"
  unfold al aT
  trace "іĐHđє*ЇЎ2&XǐǔŸǍ,R"
noncomputable def isW:D->Bool
 | .int _=>true
 | _=>false
structure Kn(d:D):Prop where
 l:ba [d]=some (.ok (.bl (isW d)) false,.non)
 p:cq [d]=some (.ok (.bl (isW d)) false,.non)
theorem jg(i:Int):Kn (.int i):=⟨qg,ub⟩
theorem B6(b:Bool):Kn (.bl b):=by
 constructor
 ·unfold ba dU
  trace "зЖ!ĘЖR"
 ·unfold cq fD
  trace "зЖ!ĘЖR"
theorem uB{d:D}(h:bK "int" [d]=some (.bl false,false))(hd:isW d=false):Kn d:=by
 constructor
 ·rw [hd]
  unfold ba dU
  trace "ьcP=Є"
 ·rw [hd]
  unfold cq fD
  trace "ьcP=Є"
abbrev Kns(a:List D):Prop:=∀ d∈a,Kn d
theorem aV(l:List Int):Kns (nD l):=fun d hd=>by
 obtain ⟨i,_,rfl⟩:=C0.mp hd;exact jg i
theorem t9{a:List D}(hk:Kns a){w x z3 z4 z5 z6:Option (D×Md)}:cf 1 (.nm 7) none (ar none none ba [.bor 7]) a [w,x,some (.tup a,.fz),z3,z4,z5,z6]=some (bD (a.map isW),[w,x,some (.tup a,.fz),z3,z4,z5,z6]):=by
 have:=iX (k:=1) (T:= .nm 7) (f:=ar none none ba [.bor 7]) (ρ:=[w,x,some (.tup a,.fz),z3,z4,z5,z6]) (inj:=id) (g:=isW) a fun d hd=>by
  have h:=(hk d hd).l;dsimp only [id]
  trace "чЁP=R"
 rw [List.map_id] at this;exact this
theorem jx{a:List D}{s:Nat}(h:a.length≠s){w x z4 z5 z6:Option (D×Md)}:ak [w,x,some (.tup a,.fz),some (.int (s:Nat),.fz),z4,z5,z6]=some (.rt .non false,[w,x,some (.tup a,.fz),some (.int (s:Nat),.fz),z4,z5,z6]):=by
 have g:bK "tuple" [.tup a]=some (.bl true,false):=rfl;have gl:bJ [.tup a]=some (.int (a.length:Nat),false):=rfl
 have gn:gNe [.int (a.length:Nat),.int (s:Nat)]=some (.bl true,false):=by rw [du,CL (by omega)];rfl
 unfold ak
 trace "6FѮQĢMqĉZDSѫ!"
theorem row_nt{u:D}(h:bK "tuple" [u]=some (.bl false,false)){w x z3 z4 z5 z6:Option (D×Md)}:ak [w,x,some (u,.fz),z3,z4,z5,z6]=some (.rt .non false,[w,x,some (u,.fz),z3,z4,z5,z6]):=by
 unfold ak
 trace "6Fѕг!"
theorem ls{a:List D}{s:Nat}(h:a.length=s)(hk:Kns a)(hw:(a.map isW).all id=false){w x z4 z5 z6:Option (D×Md)}:ak [w,x,some (.tup a,.fz),some (.int (s:Nat),.fz),z4,z5,z6]=some (.rt .non false,[w,x,some (.tup a,.fz),some (.int (s:Nat),.fz),z4,z5,z6]):=by
 have g:bK "tuple" [.tup a]=some (.bl true,false):=rfl;have gl:bJ [.tup a]=some (.int (a.length:Nat),false):=rfl
 have gn:gNe [.int (a.length:Nat),.int (s:Nat)]=some (.bl false,false):=by rw [du,CK (by omega)];rfl
 have c:=t9 hk (w:=w) (x:=x) (z3:=some (.int (s:Nat),.fz)) (z4:=z4) (z5:=z5) (z6:=z6)
 have ga:nA [.lst (bD (a.map isW))]=some (.bl false,false):=by rw [jL,hw]
 unfold ak
 trace "6FѮQ1MqĉZD!КщĮРQѫ!"
theorem lR{a:List D}{s:Nat}(h:a.length=s)(hk:Kns a)(hw:(a.map isW).all id=true){w x z4 z5 z6:Option (D×Md)}:ak [w,x,some (.tup a,.fz),some (.int (s:Nat),.fz),z4,z5,z6]=some (.nx,[w,x,some (.tup a,.fz),some (.int (s:Nat),.fz),z4,z5,z6]):=by
 have g:bK "tuple" [.tup a]=some (.bl true,false):=rfl;have gl:bJ [.tup a]=some (.int (a.length:Nat),false):=rfl
 have gn:gNe [.int (a.length:Nat),.int (s:Nat)]=some (.bl false,false):=by rw [du,CK (by omega)];rfl
 have c:=t9 hk (w:=w) (x:=x) (z3:=some (.int (s:Nat),.fz)) (z4:=z4) (z5:=z5) (z6:=z6)
 have ga:nA [.lst (bD (a.map isW))]=some (.bl true,false):=by rw [jL,hw]
 unfold ak
 trace "63ѮQ1MqĉZD!КщĮРQG!"
theorem hX{u v:D}{z2 z3:Option (D×Md)}(h:aY (.tp [.nm 2,.nm 3]) ak [.tup [u,.int (n:Nat)],.tup [v,.int (ts.length:Nat)]] [some (aN (n:Nat) ts,.fz),some (.tup [u,v],.fz),none,none,none,none,none]=some (.rt .non false,[some (aN (n:Nat) ts,.fz),some (.tup [u,v],.fz),z2,z3,none,none,none])):al [aN (n:Nat) ts,.tup [u,v]]=some (.ok .non false,.non):=by
 have g:bK "tuple" [.tup [u,v]]=some (.bl true,false):=rfl;have gl:bJ [.tup [u,v]]=some (.int 2,false):=rfl;have gn:gNe [.int 2,.int 2]=some (.bl false,false):=rfl;unfold al aT
 trace "іĐHđє*ЇЎ2&Xǐǔ=R"
end
end K45
namespace K45
open PySem L2
section
variable{n:Nat}{ts:List (Int×Int)}
theorem gRow2{a:List D}{v:D}(h:bK "tuple" [v]=some (.bl false,false)):au [aN (n:Nat) ts,.tup [.tup a,v]]=some (.ok (.bl false) false,.non):=by
 have g:bK "tuple" [.tup [.tup a,v]]=some (.bl true,false):=rfl;have g2:bK "tuple" [.tup a]=some (.bl true,false):=rfl;have gl:bJ [.tup [.tup a,v]]=some (.int 2,false):=rfl;have gn:gNe [.int 2,.int 2]=some (.bl false,false):=rfl;unfold au bB
 trace "іЍЍ|z>Qѕк"
theorem AZ{a:List D}{v:D}(hk:Kns a)(h:bK "tuple" [v]=some (.bl false,false)):Nt n ts (.tup [.tup a,v]):=by
 refine ⟨gRow2 h,?_⟩
 by_cases hl:a.length=n
 ·cases hw:(a.map isW).all id with
  | false=>exact hX (dq rfl (ls hl hk hw))
  | true=>exact hX (dY rfl (lR hl hk hw) (dq rfl (row_nt h)))
 ·exact hX (dq rfl (jx hl))
noncomputable def inB(m:Nat):D->Bool
 | .int i=>decide (1<=i)&&decide (i<=(m:Int))
 | _=>false
theorem yo{d:D}(k:Kn d)(m:Nat):aK [d,.int 1,.int (m:Nat)]=some (.ok (.bl (inB m d)) false,.non):=by
 cases e:isW d with
 | false =>
  have h:=k.p;rw [e] at h
  have:inB m d=false:=by cases d<;>first | rfl | cases e
  rw [this];exact odd_of h
 | true=>cases d<;>first | exact qf | cases e
theorem in_bad{m:Nat}{l:List D}(h:(l.map isW).all id=false):(l.map (inB m)).all id=false:=by
 rw [List.all_map] at h ⊢;rw [List.all_eq_false] at h ⊢;obtain ⟨d,hd,h⟩:=h;refine ⟨d,hd,?_⟩
 show ¬ inB m d=true
 have h:¬ isW d=true:=h
 cases d<;>first | (exact absurd rfl h) | (show ¬ false=true;decide)
theorem yw{a b:List D}(hl:a.length=n)(h1:a.length+b.length<=1000)(h:bG [.tup (a++b),.int ((n:Int)+(ts.length:Int))]=some (.ok (.bl false) false,.non)):au [aN (n:Nat) ts,.tup [.tup a,.tup b]]=some (.ok (.bl false) false,.non):=by
 have g:bK "tuple" [.tup [.tup a,.tup b]]=some (.bl true,false):=rfl;have g2:bK "tuple" [.tup a]=some (.bl true,false):=rfl;have g3:bK "tuple" [.tup b]=some (.bl true,false):=rfl;have gl:bJ [.tup [.tup a,.tup b]]=some (.int 2,false):=rfl;have gl2:bJ [.tup a]=some (.int (a.length:Nat),false):=rfl;have gn:gNe [.int 2,.int 2]=some (.bl false,false):=rfl
 have gn2:gNe [.int (a.length:Nat),.int (n:Nat)]=some (.bl false,false):=by rw [du,CK (by omega)];rfl
 have ga:=yI h1;unfold au bB
 trace "іЍЍЯz>QzıѯăЛ$Ĳp-ĭćЅLХ%В2P$=SR"
theorem gLen1{a b:List D}(hl:a.length≠n):au [aN (n:Nat) ts,.tup [.tup a,.tup b]]=some (.ok (.bl false) false,.non):=by
 have g:bK "tuple" [.tup [.tup a,.tup b]]=some (.bl true,false):=rfl;have g2:bK "tuple" [.tup a]=some (.bl true,false):=rfl;have g3:bK "tuple" [.tup b]=some (.bl true,false):=rfl;have gl:bJ [.tup [.tup a,.tup b]]=some (.int 2,false):=rfl;have gl2:bJ [.tup a]=some (.int (a.length:Nat),false):=rfl;have gn:gNe [.int 2,.int 2]=some (.bl false,false):=rfl
 have gn2:gNe [.int (a.length:Nat),.int (n:Nat)]=some (.bl true,false):=by rw [du,CL (by omega)];rfl
 unfold au bB
 trace "іЍЍ|z>QzıѯăЛ$Ĳк"
theorem AY{a b:List D}(h1:a.length+b.length<=1000)(ka:Kns a)(kb:Kns b)(h:¬ (a.length=n/\b.length=ts.length/\(a.map isW).all id=true/\(b.map isW).all id=true)):Nt n ts (.tup [.tup a,.tup b]):=by
 by_cases hl:a.length=n
 ·have kab:Kns (a++b):=fun d hd=>(CI.mp hd).elim (ka d) (kb d)
  by_cases hm:b.length=ts.length
  ·have lab:(a++b).length=n+ts.length:=by rw [Cy];omega
   have g:((a++b).map isW).all id=false->au [aN (n:Nat) ts,.tup [.tup a,.tup b]]=some (.ok (.bl false) false,.non):=fun hw=>by
    refine yw hl h1 ?_;rw [show (n:Int)+(ts.length:Int)=((n+ts.length:Nat):Int) by omega];exact xR lab (fun d hd=>yo (kab d hd) _) (in_bad hw)
   cases wa:(a.map isW).all id with
   | false=>exact ⟨g (by rw [CU,List.all_append,wa];rfl),hX (dq rfl (ls hl ka wa))⟩
   | true =>
    cases wb:(b.map isW).all id with
    | false=>exact ⟨g (by rw [CU,List.all_append,wb,Dr]),hX (dY rfl (lR hl ka wa) (dq rfl (ls hm kb wb)))⟩
    | true=>exact absurd ⟨hl,hm,wa,wb⟩ h
  ·refine ⟨yw hl h1 ?_,?_⟩
   ·rw [show (n:Int)+(ts.length:Int)=((n+ts.length:Nat):Int) by omega]
    exact xQ (by rw [Cy];omega)
   ·cases wa:(a.map isW).all id with
    | false=>exact hX (dq rfl (ls hl ka wa))
    | true=>exact hX (dY rfl (lR hl ka wa) (dq rfl (jx hm)))
 ·exact ⟨gLen1 hl,hX (dq rfl (jx hl))⟩
end
end K45
namespace K45
open PySem L2
section
variable{n:Nat}{ts:List (Int×Int)}{ps us:List Int}
theorem xW:∀ {l:List Int},(dd l).length=l.length->l.Nodup:=by
 intro l h
 by_cases nd:l.Nodup
 ·exact nd
 ·exfalso
  have key:∀ {l:List Int},¬ l.Nodup->∃ m:List Int,m.length < l.length/\∀ x,x∈l->x∈m:=by
   intro l
   induction l with
   | nil=>intro h;exact absurd DJ h
   | cons a l ih =>
    intro h
    by_cases ha:a∈l
    ·exact ⟨l,by rw [CA];omega,fun x hx=>(Cr.mp hx).elim (fun z=>z ▸ ha) id⟩
    ·obtain ⟨m,h1,h2⟩:=ih fun z=>h (CQ.mpr ⟨ha,z⟩)
     exact ⟨a::m,by rw [CA,CA];omega,fun x hx=>(Cr.mp hx).elim (fun z=>by rw [z];exact Cs) fun z=>Cn _ (h2 x z)⟩
  obtain ⟨m,h1,h2⟩:=key nd;have:=Dk (Ca l) (fun x hx=>h2 x ((kw l x).mp hx):dd l ⊆ m);omega
abbrev tot(ts:List (Int×Int))(ps us:List Int):List Int:=((ts.map (smT ps)).zip us).map fun p=>p.1+p.2
theorem BG{m:Int}(W:We n ts)(hp:ps.length=n)(hu:us.length=ts.length):dE [aN m ts,thD ps us]=some (.ok (.lst (nD (tot ts ps us))) true,.non):=by
 have e:=t_end (m:=m) W hp
 have hz:(ts.map (smT ps)).length<=us.length:=by rw [Ci];omega
 unfold dE kE
 trace "ш:Ń(ЁЛP,ѨЭXŹ!йЄS"
theorem lg(hu:us.length=ts.length):(tot ts ps us).length=ts.length:=by
 rw [Ci,DN,Ci];omega
theorem t_tg(W:We n ts)(hp:ps.length=n)(hu:us.length=ts.length)(ho:pc (ps++us) ((n:Int)+(ts.length:Int))=true):au [aN (n:Nat) ts,thD ps us]=some (.ok (.bl (decide (((dd (tot ts ps us)).length:Int)=1))) false,.non):=by
 have wn:=W.n;have wl:=W.l;have e:=BG (m:=(n:Nat)) W hp hu;have o:=wJ (ns:=ps++us) (m:=(n:Int)+(ts.length:Int)) (by rw [Cy];omega);rw [ho] at o;have g2:bK "tuple" [.tup (nD ps)]=some (.bl true,false):=rfl;have g3:bK "tuple" [.tup (nD us)]=some (.bl true,false):=rfl
 have gl2:bJ [.tup (nD ps)]=some (.int (n:Nat),false):=by rw [oo,hp]
 have gn2:gNe [.int (n:Nat),.int (n:Nat)]=some (.bl false,false):=by rw [du,CK rfl];rfl
 have ga:aH [.tup (nD ps),.tup (nD us)]=some (.tup (nD (ps++us)),false):=by rw [iD (by omega)]
 have g5:=sZ (tot ts ps us) (by rw [lg hu];omega);have g6:=qY (tot ts ps us) (by rw [lg hu];omega)
 have g7:gEq [.int ((dd (tot ts ps us)).length:Nat),.int 1]=some (.bl (decide (((dd (tot ts ps us)).length:Int)=1)),false):=by rw [eX]
 unfold au bB
 trace "Ѧ1хЦѣЦmǚpЍЍЯz>QzıѯăЛ$Ĳp-ĖćЅLХ%В2P$ĳS___o,!$ź$ŻmżR"
theorem gQ{l:List Int}{m:Nat}:pc l (m:Nat)=true↔l.length=m/\(∀ x∈l,1<=x/\x<=(m:Int))/\l.Nodup:=by
 unfold pc rW;rw [CD,CD,List.all_map,CH,decide_eq_true_iff,decide_eq_true_iff]
 constructor
 ·rintro ⟨h1,h2,h3⟩
  refine ⟨by omega,fun x hx=> ?_,?_⟩
  ·have:=h2 x hx
   have:=(CD _ _).mp (show (decide (1<=x)&&decide (x<=(m:Int)))=true from this);exact ⟨Cz this.1,Cz this.2⟩
  ·have e:(dd l).length=l.length:=by omega
   exact xW e
 ·rintro ⟨h1,h2,h3⟩
  refine ⟨by omega,fun x hx=> ?_,?_⟩
  ·have:=h2 x hx
   show (decide (1<=x)&&decide (x<=(m:Int)))=true
   rw [CK this.1,CK this.2];rfl
  ·rw [pK h3]
end
end K45
namespace K45
open PySem L2
theorem sR{ns:List Int}{i:Int}{d:D}(h:i∈ns):aW (kI ns) (List.replicate ns.length d) (Sum.inl i)=some d:=by
 induction ns with
 | nil=>cases h
 | cons u ns ih =>
  show aW (Sum.inl u::kI ns) (d::List.replicate ns.length d) (Sum.inl i)=some d
  unfold aW
  split
  ·rfl
  ·rename_i ne
   exact ih ((Cr.mp h).resolve_left fun z=>ne (by rw [z]))
theorem gIn_dT{ns:List Int}{i:Int}{d:D}(h:i∈ns):gIn [.int i,.dK (kI ns) (List.replicate ns.length d)]=some (.bl true,false):=by
 show (match (some (aW (kI ns) (List.replicate ns.length d) (Sum.inl i)).isSome) with | some b=>some (D.bl b,false) | none=>none)=_
 rw [sR h];rfl
noncomputable def stD(M:Int)(pre:List Int)(x:Int):Option (List Int):=if 1<=x/\x<=M/\x∉pre then some (pre++[x]) else none
theorem lr{M:Int}:∀ (l pre:List Int),iY (stD M) l pre=if (∀ x∈l,1<=x/\x<=M/\x∉pre)/\l.Nodup then some (pre++l) else none
 | [],pre=>by rw [if_pos ⟨fun x hx=>(by cases hx),DJ⟩,DE];rfl
 | x::l,pre=>by
  unfold iY stD
  by_cases h:1<=x/\x<=M/\x∉pre
  ·rw [if_pos h]
   show iY (stD M) l (pre++[x])=_
   rw [lr l (pre++[x]),DB,List.singleton_append]
   by_cases h2:(∀ y∈l,1<=y/\y<=M/\y∉pre++[x])/\l.Nodup
   ·rw [if_pos h2,if_pos]
    refine ⟨fun y hy=> ?_,CQ.mpr ⟨fun z=>(h2.1 x z).2.2 (by simp),h2.2⟩⟩
    rcases Cr.mp hy with rfl | hy
    ·exact h
    ·exact ⟨(h2.1 y hy).1,(h2.1 y hy).2.1,fun z=>(h2.1 y hy).2.2 (Cp _ z)⟩
   ·rw [if_neg h2,if_neg]
    rintro ⟨h3,h4⟩;have h4:=CQ.mp h4;refine h2 ⟨fun y hy=>⟨(h3 y (Cn _ hy)).1,(h3 y (Cn _ hy)).2.1,fun z=> ?_⟩,h4.2⟩
    rcases CI.mp z with z | z
    ·exact (h3 y (Cn _ hy)).2.2 z
    ·rw [CC.mp z] at hy;exact h4.1 hy
  ·rw [if_neg h]
   show none=_
   rw [if_neg]
   exact fun z=>h (z.1 x Cs)
section
variable{n:Nat}{ts:List (Int×Int)}{ps us:List Int}
theorem due2(W:We n ts)(l:List Int)(y2 y3:Option (D×Md)):∃ ρ',match iY (stD ((n:Int)+(ts.length:Int))) l [] with
 | some pre=>∃ y,aY (.nm 5) ao (nD l) [some (aN (n:Nat) ts,.fz),some (thD ps us,.fz),y2,y3,some (.dK [] [],.ow),none,none]=some (.nx,[some (aN (n:Nat) ts,.fz),some (thD ps us,.fz),y2,y3,some (.dK (kI pre) (List.replicate pre.length (.bl true)),.ow),y,none])
 | none=>aY (.nm 5) ao (nD l) [some (aN (n:Nat) ts,.fz),some (thD ps us,.fz),y2,y3,some (.dK [] [],.ow),none,none]=some (.rt .non false,ρ'):=by
 have wn:=W.n;have wl:=W.l
 obtain ⟨ρ',h⟩:=gI (T:= .nm 5) (f:=ao) (inj:=D.int) (d:= .non) (nw:=false) (fun pre ρ=>pre.Nodup/\(∀ x∈pre,1<=x/\x<=(n:Int)+(ts.length:Int))/\∃ y,ρ=[some (aN (n:Nat) ts,.fz),some (thD ps us,.fz),y2,y3,some (.dK (kI pre) (List.replicate pre.length (.bl true)),.ow),y,none]) (stD ((n:Int)+(ts.length:Int))) l [] [some (aN (n:Nat) ts,.fz),some (thD ps us,.fz),y2,y3,some (.dK [] [],.ow),none,none] ⟨DJ,fun x hx=>(by cases hx),none,rfl⟩ (by
  rintro x hx pre ρ ⟨nd,rg,y,rfl⟩
  have hl:pre.length<=1000:=by
   have:=Dk nd (fun z hz=>aC.mpr (by have:=rg z hz;omega):pre ⊆ rgI 1 (n+ts.length));rw [ax] at this;omega
  unfold stD
  by_cases h1:1<=x
  ·by_cases h2:x<=(n:Int)+(ts.length:Int)
   ·by_cases h3:x∈pre
    ·rw [if_neg (fun z=>z.2.2 h3)]
     have gi:=gIn_dT (d:= .bl true) h3
     have q1:¬ x < 1:=by omega
     have q2:¬ x > (n:Int)+(ts.length:Int):=by omega
     refine ⟨[some (aN (n:Nat) ts,.fz),some (thD ps us,.fz),y2,y3,some (.dK (kI pre) (List.replicate pre.length (.bl true)),.ow),some (.int x,.fz),none],[some (aN (n:Nat) ts,.fz),some (thD ps us,.fz),y2,y3,some (.dK (kI pre) (List.replicate pre.length (.bl true)),.ow),some (.int x,.fz),none],rfl,?_⟩
     show ao _=_
     unfold ao
     trace "|1beǏ1bХ%В2PQǏbYģг"
    ·rw [if_pos ⟨h1,h2,h3⟩]
     have gi:=gIn_dI h3 (vs:=List.replicate pre.length (.bl true));have up:=zw (d:= .bl true) h3 nd hl
     have q1:¬ x < 1:=by omega
     have q2:¬ x > (n:Int)+(ts.length:Int):=by omega
     show ∃ ρ1 ρ2,bQ (.nm 5) (.int x) _=some ρ1/\ao ρ1=some (.nx,ρ2)/\_
     unfold ao
     trace "tЯ1beǏ1bХ%В2PQǏbYģpĀ<!ЗİǄ"
     refine ⟨?_,fun z hz=> ?_,_,rfl⟩
     ·exact (Eh x pre).nodup_iff.mpr (CQ.mpr ⟨h3,nd⟩)
     ·rcases CI.mp hz with z1 | z1
      ·exact rg z z1
      ·rw [CC.mp z1];exact ⟨h1,h2⟩
   ·rw [if_neg (fun z=>h2 z.2.1)]
    have q1:¬ x < 1:=by omega
    have q2:x > (n:Int)+(ts.length:Int):=by omega
    refine ⟨[some (aN (n:Nat) ts,.fz),some (thD ps us,.fz),y2,y3,some (.dK (kI pre) (List.replicate pre.length (.bl true)),.ow),some (.int x,.fz),none],[some (aN (n:Nat) ts,.fz),some (thD ps us,.fz),y2,y3,some (.dK (kI pre) (List.replicate pre.length (.bl true)),.ow),some (.int x,.fz),none],rfl,?_⟩
    show ao _=_
    unfold ao
    trace "|1beǏĢbХ%В2PQǣг"
  ·rw [if_neg (fun z=>h1 z.1)]
   have q1:x < 1:=by omega
   refine ⟨[some (aN (n:Nat) ts,.fz),some (thD ps us,.fz),y2,y3,some (.dK (kI pre) (List.replicate pre.length (.bl true)),.ow),some (.int x,.fz),none],[some (aN (n:Nat) ts,.fz),some (thD ps us,.fz),y2,y3,some (.dK (kI pre) (List.replicate pre.length (.bl true)),.ow),some (.int x,.fz),none],rfl,?_⟩
   show ao _=_
   unfold ao
   trace "|Ģbeǣг")
 refine ⟨ρ',?_⟩
 cases hr:iY (stD ((n:Int)+(ts.length:Int))) l [] with
 | none=>rw [hr] at h;exact h
 | some pre =>
  rw [hr] at h;obtain ⟨h,_,_,y,rfl⟩:=h;exact ⟨y,h⟩
end
end K45
namespace K45
open PySem L2
section
variable{n:Nat}{ts:List (Int×Int)}{ps us:List Int}
abbrev fl(ts:List (Int×Int))(ps us:List Int):List Int:=ts.zipIdx.map fun p:(Int×Int)×Nat=>smT ps p.1+us.getD p.2 0
theorem jk:(fl ts ps us).length=ts.length:=by rw [Ci,List.length_zipIdx]
theorem Cf(l:List Int):((nD l).map isW).all id=true:=by
 rw [List.all_map,CH];intro d hd;obtain ⟨i,_,rfl⟩:=C0.mp hd;rfl
theorem due1(hp:ps.length=n)(hu:us.length=ts.length):aY (.tp [.nm 2,.nm 3]) ak [.tup [.tup (nD ps),.int (n:Nat)],.tup [.tup (nD us),.int (ts.length:Nat)]] [some (aN (n:Nat) ts,.fz),some (thD ps us,.fz),none,none,none,none,none]=some (.nx,[some (aN (n:Nat) ts,.fz),some (thD ps us,.fz),some (.tup (nD us),.fz),some (.int (ts.length:Nat),.fz),none,none,none]) :=
 dY rfl (lR (by rw [Ci];exact hp) (aV ps) (Cf ps)) (dY rfl (lR (by rw [Ci];exact hu) (aV us) (Cf us)) Ak)
theorem fnd(W:We n ts)(hp:ps.length=n)(hu:us.length=ts.length)(y2 y3 z4 y5:Option (D×Md)):cf 3 (.tp [(.nm 7),(.tp [(.nm 8),(.nm 9)])]) none (sOp aH [.ex (sOp aH [.ex (sOp gIx [.ex (sOp gIx [.bor 1,.ex (sC (.int 0))]),.bor 8]),.ex (sOp gIx [.ex (sOp gIx [.bor 1,.ex (sC (.int 0))]),.bor 9])]),.ex (sOp gIx [.ex (sOp gIx [.bor 1,.ex (sC (.int 1))]),.bor 7])]) (ts.zipIdx.map fun p:(Int×Int)×Nat=>D.tup [.int (p.2:Nat),zK p.1]) [some (aN (n:Nat) ts,.fz),some (thD ps us,.fz),y2,y3,z4,y5,none]=some (nD (fl ts ps us),[some (aN (n:Nat) ts,.fz),some (thD ps us,.fz),y2,y3,z4,y5,none]):=by
 refine lQ ts.zipIdx fun p hp'=> ?_
 obtain ⟨t,k⟩:=p;obtain ⟨hk1,hk2⟩:=List.mem_zipIdx' hp';have hk1:k < ts.length:=hk1;have hk2:t=ts[k]'hk1:=hk2
 have ht:t∈ts:=by rw [hk2];exact CT _
 have a1:gIx [.tup (nD ps),.int t.1]=some (.int (ps.getD t.1.toNat 0),false):=hU (W.r t ht).1 (by have:=W.r t ht;omega);have a2:gIx [.tup (nD ps),.int t.2]=some (.int (ps.getD t.2.toNat 0),false):=hU (W.r t ht).2.2.1 (by have:=W.r t ht;omega);have a3:gIx [.tup (nD us),.int (k:Nat)]=some (.int (us.getD k 0),false):=hU (by omega) (by omega)
 trace "ч__АZŅХZņPХZŇQ!"
noncomputable def stE(c:Int)(_:Unit)(x:Int):Option Unit:=if x=c then some () else none
theorem oV{c:Int}:∀ l:List Int,iY (stE c) l ()=if ∀ x∈l,x=c then some () else none
 | []=>by rw [if_pos (fun x hx=>(by cases hx))];rfl
 | x::l=>by
  unfold iY stE
  by_cases h:x=c
  ·rw [if_pos h]
   show iY (stE c) l ()=_
   rw [oV l]
   by_cases h2:∀ y∈l,y=c
   ·rw [if_pos h2,if_pos (fun y hy=>(Cr.mp hy).elim (fun z=>z.trans h) (h2 y))]
   ·rw [if_neg h2,if_neg (fun z=>h2 fun y hy=>z y (Cn _ hy))]
  ·rw [if_neg h]
   show none=_
   rw [if_neg (fun z=>h (z x Cs))]
theorem due3{l:List Int}{c:Int}(g0:gIx [.lst (nD l),.int 0]=some (.int c,false)){y0 y1 y2 y3 y4 y5:Option (D×Md)}{md:Md}(hm:md = .fz):∃ ρ',match iY (stE c) l () with
 | some _=>∃ y,aY (.nm 5) aI (nD l) [y0,y1,y2,y3,y4,y5,some (.lst (nD l),md)]=some (.nx,[y0,y1,y2,y3,y4,y,some (.lst (nD l),md)])
 | none=>aY (.nm 5) aI (nD l) [y0,y1,y2,y3,y4,y5,some (.lst (nD l),md)]=some (.rt .non false,ρ'):=by
 subst hm
 obtain ⟨ρ',h⟩:=gI (T:= .nm 5) (f:=aI) (inj:=D.int) (d:= .non) (nw:=false) (fun (_:Unit) ρ=>∃ y,ρ=[y0,y1,y2,y3,y4,y,some (.lst (nD l),.fz)]) (stE c) l () [y0,y1,y2,y3,y4,y5,some (.lst (nD l),.fz)] ⟨_,rfl⟩ (by
  rintro x hx _ ρ ⟨y,rfl⟩;unfold stE
  by_cases h:x=c
  ·rw [if_pos h]
   have gn:gNe [.int x,.int c]=some (.bl false,false):=by rw [du,CK h];rfl
   show ∃ ρ1 ρ2,bQ (.nm 5) (.int x) _=some ρ1/\aI ρ1=some (.nx,ρ2)/\_
   unfold aI
   trace "t3bkVĤPDp"
   exact ⟨_,rfl⟩
  ·rw [if_neg h]
   have gn:gNe [.int x,.int c]=some (.bl true,false):=by rw [du,CL h];rfl
   refine ⟨[y0,y1,y2,y3,y4,some (.int x,.fz),some (.lst (nD l),.fz)],[y0,y1,y2,y3,y4,some (.int x,.fz),some (.lst (nD l),.fz)],rfl,?_⟩
   show aI _=_
   unfold aI
   trace "FbkVĤPDг")
 refine ⟨ρ',?_⟩
 cases hr:iY (stE c) l () with
 | none=>rw [hr] at h;exact h
 | some u =>
  rw [hr] at h;obtain ⟨h,y,rfl⟩:=h;exact ⟨y,h⟩
theorem due_no(W:We n ts)(hp:ps.length=n)(hu:us.length=ts.length)(h:pc (ps++us) ((n+ts.length:Nat):Int)=false):al [aN (n:Nat) ts,thD ps us]=some (.ok .non false,.non):=by
 have wn:=W.n;have wl:=W.l;have e1:=due1 hp hu;obtain ⟨ρ',e2⟩:=due2 (ps:=ps) (us:=us) W (ps++us) (some (.tup (nD us),.fz)) (some (.int (ts.length:Nat),.fz))
 have hr:iY (stD ((n:Int)+(ts.length:Int))) (ps++us) []=none:=by
  rw [lr,if_neg];rintro ⟨h1,h2⟩;rw [gQ.mpr ⟨by rw [Cy,hp,hu],fun x hx=>by have:=h1 x hx;omega,h2⟩] at h;cases h
 rw [hr] at e2
 have ga:aH [.tup (nD ps),.tup (nD us)]=some (.tup (nD (ps++us)),false):=by rw [iD (by omega)]
 unfold al aT
 trace "Ѧ1хЦѣЦmǚpвđє*ЇЎ2&XǐǔďWĎlĐH;АЛР!ĂR"
theorem Bq(W:We n ts)(hp:ps.length=n)(hu:us.length=ts.length)(ne:ts≠[])(h:pc (ps++us) ((n+ts.length:Nat):Int)=true)(ha:∀ x∈fl ts ps us,x=(fl ts ps us).getD 0 0):al [aN (n:Nat) ts,thD ps us]=some (.ok (.int ((fl ts ps us).getD 0 0)) false,.non):=by
 have wn:=W.n;have wl:=W.l;have tp:0 < ts.length:=C4.mpr ne;have e1:=due1 hp hu;obtain ⟨ρ',e2⟩:=due2 (ps:=ps) (us:=us) W (ps++us) (some (.tup (nD us),.fz)) (some (.int (ts.length:Nat),.fz));obtain ⟨_,o2,o3⟩:=gQ.mp h;rw [lr,if_pos ⟨fun x hx=>⟨(o2 x hx).1,by have:=(o2 x hx).2;omega,by simp⟩,o3⟩] at e2;obtain ⟨y5,e2⟩:=e2
 have ga:aH [.tup (nD ps),.tup (nD us)]=some (.tup (nD (ps++us)),false):=by rw [iD (by omega)]
 have cs:=fnd W hp hu (some (.tup (nD us),.fz)) (some (.int (ts.length:Nat),.fz)) (some (.dK (kI ([]++(ps++us))) (List.replicate ([]++(ps++us)).length (.bl true)),.ow)) y5;have g0:gIx [.lst (nD (fl ts ps us)),.int 0]=some (.int ((fl ts ps us).getD 0 0),false):=bO (by omega) (by rw [jk];omega)
 generalize (fl ts ps us).getD 0 0=c at *
 obtain ⟨ρ3,e3⟩:=due3 g0 (y0:=some (aN (n:Nat) ts,.fz)) (y1:=some (thD ps us,.fz)) (y2:=some (.tup (nD us),.fz)) (y3:=some (.int (ts.length:Nat),.fz)) (y4:=some (.dK (kI ([]++(ps++us))) (List.replicate ([]++(ps++us)).length (.bl true)),.ow)) (y5:=y5) rfl;rw [oV,if_pos ha] at e3;obtain ⟨y,e3⟩:=e3;unfold al aT
 trace "Ѧ1хЦѣЦmǚpвđє*ЇЎ2&XǐǔďWĎи;АЛР!ĂW:ňѭRŉи;Г!Ŋ-cVĤR"
theorem due_ne(W:We n ts)(hp:ps.length=n)(hu:us.length=ts.length)(ne:ts≠[])(h:pc (ps++us) ((n+ts.length:Nat):Int)=true)(ha:¬ ∀ x∈fl ts ps us,x=(fl ts ps us).getD 0 0):al [aN (n:Nat) ts,thD ps us]=some (.ok .non false,.non):=by
 have wn:=W.n;have wl:=W.l;have tp:0 < ts.length:=C4.mpr ne;have e1:=due1 hp hu;obtain ⟨ρ',e2⟩:=due2 (ps:=ps) (us:=us) W (ps++us) (some (.tup (nD us),.fz)) (some (.int (ts.length:Nat),.fz));obtain ⟨_,o2,o3⟩:=gQ.mp h;rw [lr,if_pos ⟨fun x hx=>⟨(o2 x hx).1,by have:=(o2 x hx).2;omega,by simp⟩,o3⟩] at e2;obtain ⟨y5,e2⟩:=e2
 have ga:aH [.tup (nD ps),.tup (nD us)]=some (.tup (nD (ps++us)),false):=by rw [iD (by omega)]
 have cs:=fnd W hp hu (some (.tup (nD us),.fz)) (some (.int (ts.length:Nat),.fz)) (some (.dK (kI ([]++(ps++us))) (List.replicate ([]++(ps++us)).length (.bl true)),.ow)) y5;have g0:gIx [.lst (nD (fl ts ps us)),.int 0]=some (.int ((fl ts ps us).getD 0 0),false):=bO (by omega) (by rw [jk];omega)
 generalize (fl ts ps us).getD 0 0=c at *
 obtain ⟨ρ3,e3⟩:=due3 g0 (y0:=some (aN (n:Nat) ts,.fz)) (y1:=some (thD ps us,.fz)) (y2:=some (.tup (nD us),.fz)) (y3:=some (.int (ts.length:Nat),.fz)) (y4:=some (.dK (kI ([]++(ps++us))) (List.replicate ([]++(ps++us)).length (.bl true)),.ow)) (y5:=y5) rfl;rw [oV,if_neg ha] at e3;unfold al aT
 trace "Ѧ1хЦѣЦmǚpвđє*ЇЎ2&XǐǔďWĎи;АЛР!ĂW:ňѭRŉlĐH;Г!ŊR"
end
end K45
namespace K45
open PySem L2
section
variable{n:Nat}{ts:List (Int×Int)}{ps us:List Int}{c:Int}
theorem r6(hu:us.length=ts.length):tot ts ps us=fl ts ps us:=by
 refine DI (by rw [lg hu,jk]) fun i h1 h2=> ?_
 rw [DP,DP,List.getElem_zip,DP,List.getElem_zipIdx]
 have hi:i < us.length:=by rw [lg hu] at h1;omega
 show smT ps _+us[i]=smT ps _+us.getD (0+i) 0
 rw [Db,Ck,Ch hi];rfl
theorem yX{l:List Int}(ne:l≠[]):(dd l).length=1↔∀ x∈l,x=l.getD 0 0:=by
 obtain ⟨a,l',rfl⟩:=List.exists_cons_of_ne_nil ne
 show (dd (a::l')).length=1↔∀ x∈a::l',x=a
 constructor
 ·intro h x hx
  by_cases e:x=a
  ·exact e
  ·exfalso
   have nd:[x,a].Nodup:=by simp [e]
   have:=Dk nd (fun y hy=>by
    rcases Cr.mp hy with rfl | hy
    ·exact (kw _ _).mpr hx
    ·rw [CC.mp hy];exact (kw _ _).mpr Cs:[x,a] ⊆ dd (a::l'))
   rw [h] at this;simp at this
 ·intro h
  exact vS (m:=[a]) (by simp) fun x=>⟨fun hx=>by rw [h x hx];simp,fun hx=>by rw [CC.mp hx];exact Cs⟩
theorem yK{i:Nat}(h:i < ts.length):(fl ts ps us).getD i 0=smT ps (ts.getD i (0,0))+us.getD i 0:=by
 rw [Ck,CG,List.getElem?_zipIdx,Ck (l:=ts),Ch h]
 show smT ps _+us.getD (0+i) 0=_
 rw [Db];rfl
theorem gE(W:We n ts)(ne:ts≠[])(T:Tot n ts ps us c):au [aN (n:Nat) ts,thD ps us]=some (.ok (.bl true) false,.non)/\al [aN (n:Nat) ts,thD ps us]=some (.ok (.int c) false,.non):=by
 have tp:0 < ts.length:=C4.mpr ne;have ho:pc (ps++us) ((n+ts.length:Nat):Int)=true:=gQ.mpr ⟨by rw [Cy,T.lp,T.lu],fun x hx=>by have:=T.b x hx;omega,T.d⟩
 have hc:(fl ts ps us).getD 0 0=c:=by rw [yK tp];exact T.s 0 tp
 have ha:∀ x∈fl ts ps us,x=(fl ts ps us).getD 0 0:=fun x hx=>by
  rw [hc];obtain ⟨p,hp,rfl⟩:=C0.mp hx;obtain ⟨t,k⟩:=p;obtain ⟨hk1,hk2⟩:=List.mem_zipIdx' hp;have hk1:k < ts.length:=hk1;have hk2:t=ts[k]'hk1:=hk2;have s:=T.s k hk1;rw [Ck,Ch hk1,<- hk2] at s;exact s
 refine ⟨?_,by rw [Bq W T.lp T.lu ne ho ha,hc]⟩;rw [t_tg W T.lp T.lu (by rw [show (n:Int)+(ts.length:Int)=((n+ts.length:Nat):Int) by omega];exact ho),r6 T.lu,CK];have:=(yX (l:=fl ts ps us) (fun z=>by have:=jk (ts:=ts) (ps:=ps) (us:=us);rw [z] at this;simp at this;omega)).mpr ha;omega
theorem int_or(W:We n ts)(ne:ts≠[])(hp:ps.length=n)(hu:us.length=ts.length):(∃ c,Tot n ts ps us c)\/Nt n ts (thD ps us):=by
 have tp:0 < ts.length:=C4.mpr ne;have wn:=W.n;have wl:=W.l
 have ec:(n:Int)+(ts.length:Int)=((n+ts.length:Nat):Int):=by omega
 cases ho:pc (ps++us) ((n+ts.length:Nat):Int) with
 | false =>
  refine .inr ⟨?_,due_no W hp hu ho⟩;have o:=wJ (ns:=ps++us) (m:=((n+ts.length:Nat):Int)) (by rw [Cy];omega);rw [ho,<- ec] at o;have:=yw (n:=n) (ts:=ts) (a:=nD ps) (b:=nD us) (by rw [Ci];exact hp) (by rw [Ci,Ci];omega) (by rw [show nD ps++nD us=nD (ps++us) from (CU).symm];exact o);exact this
 | true =>
  by_cases ha:∀ x∈fl ts ps us,x=(fl ts ps us).getD 0 0
  ·obtain ⟨_,o2,o3⟩:=gQ.mp ho
   refine .inl ⟨(fl ts ps us).getD 0 0,⟨hp,hu,fun x hx=>by have:=o2 x hx;omega,o3,fun i hi=> ?_⟩⟩;rw [<- yK hi];refine ha _ ?_;rw [Ck,Ch (by rw [jk];exact hi)];exact CT _
  ·refine .inr ⟨?_,due_ne W hp hu ne ho ha⟩
   rw [t_tg W hp hu (by rw [ec];exact ho),r6 hu,CL];intro z;exact ha ((yX (l:=fl ts ps us) (fun z=>by have:=jk (ts:=ts) (ps:=ps) (us:=us);rw [z] at this;simp at this;omega)).mp (by omega))
theorem xU{x:D}(h:Nt n ts x):cc [aN (n:Nat) ts,x]=some (.ex "NoNumber",.non):=by
 have g:=h.g;unfold cc e8
 trace "6ŋǗFКлмŽR"
theorem A2{x:D}(h:Nt n ts x):dl [aN (n:Nat) ts,x]=some (.ok (.bl false) false,.non):=by
 have g:=h.g;unfold dl iV
 trace "ьлSR"
theorem Af{f g:SE}{ρ ρ1 ρ2:Rho}{d:D}{nw:Bool}{C:Str}(h1:f ρ=some (.ok d nw,ρ1))(h2:g ρ1=some (.ex C,ρ2)):aP [f,g] ρ=some (.ex C,ρ2):=by
 unfold aP;simp only [List.map,evA,h1,h2]
end
end K45
namespace K45
open PySem L2
section
variable{n:Nat}{ts:List (Int×Int)}{ps us:List Int}{c:Int}
theorem no_of{x:D}(h:Nt n ts x):cp [aN (n:Nat) ts,x]=some (.ex "NoNumber",.non):=by
 have g:=xU h;unfold cp iU
 trace "6ŋǗžſƀfYCЄ"
theorem zI{x:D}(h:cp [aN (n:Nat) ts,x]=some (.ex "NoNumber",.non)):bP [aN (n:Nat) ts,x]=some (.ok (.tup [.str "number",.non]) false,.non):=by
 have e:aP [(sC (.str "told")),(ar none none cp [.bor 0,.bor 1])] [some (aN (n:Nat) ts,.fz),some (x,.fz),none]=some (.ex "NoNumber",[some (aN (n:Nat) ts,.fz),some (x,.fz),none]):=Af r_c (uj (o0 rfl (o0 rfl su rfl) rfl) h rfl);unfold bP eD
 trace "ЀƁƂ,`-ЉƃSЙR"
theorem A0{x:D}(h:Nt n ts x)(y:Option (D×Md)):∃ y3 y4 y5,aY (.nm 3) bt (nD (rgI 0 (2:Int).toNat)) [some (aN (n:Nat) ts,.fz),some (x,.fz),some (.non,.fz),y,none,none,none]=some (.nx,[some (aN (n:Nat) ts,.fz),some (x,.fz),some (.non,.fz),y3,y4,y5,none]):=by
 have g:=h.g;have l:=A2 h;have i1:jj [.non,.non]=some (.bl false,false):=rfl;have i2:gNe [.bl false,.bl false]=some (.bl false,false):=rfl;have i3:bK "bool" [.bl false]=some (.bl true,false):=rfl
 obtain ⟨ρ',e,y3,y4,y5,rfl⟩:=dy (T:= .nm 3) (f:=bt) (inj:=D.int) (fun (_:Unit) ρ=>∃ y3 y4 y5,ρ=[some (aN (n:Nat) ts,.fz),some (x,.fz),some (.non,.fz),y3,y4,y5,none]) (fun _ _=>()) (rgI 0 (2:Int).toNat) () [some (aN (n:Nat) ts,.fz),some (x,.fz),some (.non,.fz),y,none,none,none] ⟨_,_,_,rfl⟩ (by
  rintro d hd _ ρ ⟨y3,y4,y5,rfl⟩;unfold bt
  trace "tWл`WoŌ`ЯzĴQzĴQbkVĥPĵp3b%ĭcVĥ!Pĵp"
  exact ⟨_,_,_,rfl⟩)
 exact ⟨_,_,_,e⟩
theorem wV{x:D}(h:Nt n ts x):aE [aN (n:Nat) ts,x]=some (.ok (.bl true) false,.non):=by
 have d:=h.d;obtain ⟨y3,y4,y5,e⟩:=A0 h none;have t:=zI (no_of h);have q:gEq [.tup [.str "number",.non],.tup [.str "number",.non]]=some (.bl true,false):=rfl;unfold aE fE
 trace "Сoō`вāmh,WoŎ`|be!-c%uЙPĈR"
theorem t_of(W:We n ts)(ne:ts≠[])(T:Tot n ts ps us c):cp [aN (n:Nat) ts,thD ps us]=some (.ok (.int c) false,.non):=by
 have tp:0 < ts.length:=C4.mpr ne
 have k:cc [aN (n:Nat) ts,thD ps us]=some (.ok .non false,.non):=by
  have g:=(gE W ne T).1;unfold cc e8
  trace "6ƄǗ3КлмGR"
 have e:=BG (m:=(n:Nat)) W T.lp T.lu
 have g0:gIx [.lst (nD (tot ts ps us)),.int 0]=some (.int c,false):=by
  rw [r6 T.lu,bO (by omega) (by rw [jk];omega)]
  show some (D.int ((fl ts ps us).getD 0 0),false)=_
  rw [yK tp,T.s 0 tp]
 unfold cp iU
 trace "Ѐ7Ļoƅ!-_o,!mĤR"
theorem t_lowg(W:We n ts)(ne:ts≠[])(T:Tot n ts ps us c)(np:ps≠[]):dl [aN (n:Nat) ts,thD ps us]=some (.ok (.bl (decide (dZ ps=(n:Int)))) false,.non):=by
 have g:=(gE W ne T).1;have m:=tm np
 have q:gEq [.int (dZ ps),.int (n:Nat)]=some (.bl (decide (dZ ps=(n:Int))),false):=by rw [eX]
 unfold dl iV
 trace "злS_ВƆЛ$ĈR"
theorem A6(T:Tot n ts ps us c)(np:ps≠[])(n0:0 < n):dZ ps=(n:Int)↔eP ps=rgI 1 n:=by
 constructor
 ·intro h
  exact vG (zE T fun x hx=>by have:=(iw np).2 x hx;omega).1
 ·intro h
  have p:ps.Perm (rgI 1 n):=by rw [<- h];exact (eO ps).symm
  have:=max_rg p n0;omega
theorem yF(c:Int):gEq [.tup [.str "told",.int c],.tup [.str "told",.int c]]=some (.bl true,false):=by
 have e:ae 9 (.tup [.str "told",.int c])=true:=rfl
 show (if (ae 9 (.tup [.str "told",.int c])&&ae 9 (.tup [.str "told",.int c]))=true then some (D.bl (eqD (.tup [.str "told",.int c]) (.tup [.str "told",.int c])),false) else none)=_
 rw [e,show eqD (.tup [.str "told",.int c]) (.tup [.str "told",.int c])=true from jM 9 e];rfl
theorem wy(W:We n ts)(ne:ts≠[])(T:Tot n ts ps us c)(np:ps≠[])(n0:0 < n)(y:Option (D×Md)):∃ y3 y4 y5,aY (.nm 3) bt (nD (rgI 0 (2:Int).toNat)) [some (aN (n:Nat) ts,.fz),some (thD ps us,.fz),some (.int c,.fz),y,none,none,none]=some (.nx,[some (aN (n:Nat) ts,.fz),some (thD ps us,.fz),some (.int c,.fz),y3,y4,y5,none]):=by
 have wn:=W.n;have lp:=T.lp;have g:=(gE W ne T).1;have l:=t_lowg W ne T np;have i1:jj [.int c,.non]=some (.bl true,false):=rfl;have i2:gNe [.bl true,.bl true]=some (.bl false,false):=rfl;have i3:bK "bool" [.bl true]=some (.bl true,false):=rfl;have i4:bK "bool" [.bl (decide (dZ ps=(n:Int)))]=some (.bl true,false):=rfl;have gs:fM [.tup (nD ps)]=some (.lst (nD (eP ps)),true):=qW (by omega)
 have gr:bn [.rng 1 ((n:Nat)+1)]=some (.lst (nD (rgI 1 n)),true):=by
  rw [kr (by omega) (by omega) (by omega) (by omega) (by omega),show ((n:Nat)+1 - (1:Int)).toNat=n by omega]
 have gq:gEq [.lst (nD (eP ps)),.lst (nD (rgI 1 n))]=some (.bl (decide (dZ ps=(n:Int))),false):=by
  rw [yG,decide_eq_decide.mpr (A6 T np n0)]
 have gn:gNe [.bl (decide (dZ ps=(n:Int))),.bl (decide (dZ ps=(n:Int)))]=some (.bl false,false):=by
  cases decide (dZ ps=(n:Int))<;>rfl
 generalize decide (dZ ps=(n:Int))=b at *
 obtain ⟨ρ',e,y3,y4,y5,rfl⟩:=dy (T:= .nm 3) (f:=bt) (inj:=D.int) (fun (_:Unit) ρ=>∃ y3 y4 y5,ρ=[some (aN (n:Nat) ts,.fz),some (thD ps us,.fz),some (.int c,.fz),y3,y4,y5,none]) (fun _ _=>()) (rgI 0 (2:Int).toNat) () [some (aN (n:Nat) ts,.fz),some (thD ps us,.fz),some (.int c,.fz),y,none,none,none] ⟨_,_,_,rfl⟩ (by
  rintro d hd _ ρ ⟨y3,y4,y5,rfl⟩;unfold bt
  trace "tWл`WoŌ`ЯzĴQzƇQbkVĥPĵp3b%ĖcVĥ!_Вƈ%_ЌХVP$ě$ƉPDp"
  exact ⟨_,_,_,rfl⟩)
 exact ⟨_,_,_,e⟩
theorem nS(W:We n ts)(ne:ts≠[])(T:Tot n ts ps us c):aE [aN (n:Nat) ts,thD ps us]=some (.ok (.bl true) false,.non):=by
 have n0:0 < n:=by
  obtain ⟨t,ht⟩:=E1 _ ne;have:=W.r t ht;omega
 have np:ps≠[]:=fun z=>by have:=T.lp;rw [z] at this;simp at this;omega
 have d:=(gE W ne T).2;obtain ⟨y3,y4,y5,e⟩:=wy W ne T np n0 none;have o:=t_of W ne T
 have t:bP [aN (n:Nat) ts,thD ps us]=some (.ok (.tup [.str "told",.int c]) false,.non):=by
  unfold bP eD
  trace "ЀƊ-u(oĳОR"
 have q:=yF c;have gi:gIs [.int c,.non]=some (.bl false,false):=rfl;have w:=qg (i:=c);unfold aE fE
 trace "Сoō`вāmh,WoŎ`ЯbVģp-Ėc%u(эPĈ!ćЛ$ƋЄ"
noncomputable def Ok(n:Nat)(ts:List (Int×Int))(x:D):Prop:=aE [aN (n:Nat) ts,x]=some (.ok (.bl true) false,.non)
theorem dP{x:D}(h:Nt n ts x):Ok n ts x:=wV h
theorem ok_int(W:We n ts)(ne:ts≠[])(hp:ps.length=n)(hu:us.length=ts.length):Ok n ts (thD ps us):=(int_or W ne hp hu).elim (fun ⟨_,T⟩=>nS W ne T) dP
end
end K45
namespace K45
open PySem L2
section
variable{n:Nat}{ts:List (Int×Int)}{ps us:List Int}
theorem pz:∀ {a:List D},(a.map isW).all id=true->∃ l:List Int,a=nD l
 | [],_=>⟨[],rfl⟩
 | d::a,h=>by
  rw [CF,EL] at h;have h:=(CD _ _).mp h;obtain ⟨l,rfl⟩:=pz h.2
  match d,h.1 with
  | .int i,_=>exact ⟨i::l,rfl⟩
theorem lD(W:We n ts)(ne:ts≠[]){a b:List D}(hl:a.length+b.length<=1000)(ka:Kns a)(kb:Kns b):Ok n ts (.tup [.tup a,.tup b]):=by
 by_cases h:a.length=n/\b.length=ts.length/\(a.map isW).all id=true/\(b.map isW).all id=true
 ·obtain ⟨h1,h2,h3,h4⟩:=h
  obtain ⟨ps,rfl⟩:=pz h3;obtain ⟨us,rfl⟩:=pz h4;rw [Ci] at h1 h2;exact ok_int W ne h1 h2
 ·exact dP (AY hl ka kb h)
abbrev L1(ps us:List Int):List D:=[.non,.tup [],.tup (nD ps),.lst [.tup (nD ps),.tup (nD us)],.tup [.tup (nD ps)],.tup [.tup (nD ps),.tup (nD us),.tup []],thD us ps,.int 0,.str "",.dK [] [],.bl true]
abbrev L2'(ps us:List Int):List D:=[.tup [.tup (nD ps),.lst (nD us)],.tup [.lst (nD ps),.tup (nD us)],.tup [.tup (nD ps),.tup (nD (us.drop 1))]]
abbrev L3(ps us:List Int):List D:=[.tup [.tup (nD ps++[.int 0]),.tup (nD us)],.tup [.tup (nD (ps.drop 1)),.tup (nD us)],.tup [.non,.tup (nD us)],.tup [.tup (nD ps),.tup []]]
theorem L_ok(W:We n ts)(ne:ts≠[])(hp:ps.length=n)(hu:us.length=ts.length):∀ x∈L1 ps us++L2' ps us++L3 ps us,Ok n ts x:=by
 have wn:=W.n;have wl:=W.l
 have rows:∀ {a b:List Int},a.length<=100->b.length<=100->Ok n ts (.tup [.tup (nD a),.tup (nD b)]):=fun h1 h2=>lD W ne (by rw [Ci,Ci];omega) (aV _) (aV _)
 intro x hx;simp only [Dl,Dx,Cr,Dz,or_false] at hx
 rcases hx with rfl | rfl | rfl | rfl | rfl | rfl | rfl | rfl | rfl | rfl | rfl | rfl | rfl | rfl | rfl | rfl | rfl | rfl
 ·exact dP (nY rfl)
 ·exact dP (pp (by simp))
 ·by_cases h:ps.length=2
  ·obtain ⟨a,b,rfl⟩:∃ a b,ps=[a,b]:=by
    match ps,h with
    | [a,b],_=>exact ⟨a,b,rfl⟩
   exact dP (pj rfl)
  ·exact dP (pp (by rw [Ci];exact h))
 ·exact dP (nY rfl)
 ·exact dP (pp (by simp))
 ·exact dP (pp (by simp))
 ·exact rows (by omega) (by omega)
 ·exact dP (nY rfl)
 ·exact dP (nY rfl)
 ·exact dP (nY rfl)
 ·exact dP (nY rfl)
 ·exact dP (AZ (aV _) rfl)
 ·exact dP (pj rfl)
 ·exact rows (by omega) (by rw [EJ];omega)
 ·rw [show nD ps++[D.int 0]=nD (ps++[0]) by rw [nD,nD,CU];rfl]
  exact rows (by rw [Cy];simp;omega) (by omega)
 ·exact rows (by rw [EJ];omega) (by omega)
 ·exact dP (pj rfl)
 ·exact rows (b:=[]) (by omega) (by simp)
theorem odd_0(W:We n ts)(ne:ts≠[])(hp:ps.length=n)(hu:us.length=ts.length){web:D}{P:Pn}(h:dr P 4=0):∃ (x:D) (P':Pn),aA 3 12 (some 0) bq [pD P,web,thD ps us]=some (.ok x false,pD P')/\Ok n ts x:=by
 have wn:=W.n;have wl:=W.l;have d1:=nL (P:=P) (m:=4) (by omega) (by omega);rw [h] at d1;have hb:=iJ (nx P 4) (m:=18) (by omega) (by omega);have d2:=nL (P:=nx P 4) (m:=18) (by omega) (by omega);obtain ⟨k,hk⟩:∃ k:Nat,dr (nx P 4) 18=(k:Nat):=⟨(dr (nx P 4) 18).toNat,by omega⟩
 have hkl:k < (L1 ps us++L2' ps us++L3 ps us).length:=by show k < 18;omega
 have gk:gIx [.lst (L1 ps us++L2' ps us++L3 ps us),.int (dr (nx P 4) 18)]=some ((L1 ps us++L2' ps us++L3 ps us)[k]'hkl,false):=by
  rw [hk];exact fO (BB (Ch hkl))
 have gL:bJ [.lst (L1 ps us++L2' ps us++L3 ps us)]=some (.int 18,false):=rfl;have gl1:bn [.tup (nD ps)]=some (.lst (nD ps),true):=rfl;have gl2:bn [.tup (nD us)]=some (.lst (nD us),true):=rfl;have gl3:bn [thD ps us]=some (.lst [.tup (nD ps),.tup (nD us)],true):=rfl
 have s1:vK [.tup (nD us),.int 1]=some (.tup (nD (us.drop 1)),false):=by
  show some (D.tup (jN (nD us) (some ((1:Nat):Int)) none),false)=_
  have tp:=C4.mpr ne;rw [yY (by rw [Ci];omega),nD,nD,List.map_drop]
 have s2:vK [.tup (nD ps),.int 1]=some (.tup (nD (ps.drop 1)),false):=by
  show some (D.tup (jN (nD ps) (some ((1:Nat):Int)) none),false)=_
  have n0:0 < n:=by
   obtain ⟨t,ht⟩:=E1 _ ne;have:=W.r t ht;omega
  rw [yY (by rw [Ci];omega),nD,nD,List.map_drop]
 have a1:aH [thD ps us,.tup [.tup []]]=some (.tup [.tup (nD ps),.tup (nD us),.tup []],false):=rfl;have a2:aH [.tup (nD ps),.tup [.int 0]]=some (.tup (nD ps++[.int 0]),false):=yI (by rw [Ci];simp;omega);have a3:aH [.lst (L1 ps us),.lst (L2' ps us)]=some (.lst (L1 ps us++L2' ps us),true):=rfl;have a4:aH [.lst (L1 ps us++L2' ps us),.lst (L3 ps us)]=some (.lst (L1 ps us++L2' ps us++L3 ps us),true):=rfl;refine ⟨_,nx (nx P 4) 18,?_,L_ok W ne hp hu _ (CT hkl)⟩
 generalize (L1 ps us++L2' ps us++L3 ps us)[k]'hkl=x at *
 unfold bq bu
 trace "С*ЎĶЎă&ЋцVƌxl|bVǙ!W*s(ċ&Ї(cPƍБЭ&(c%ЉċФPŅБЭЇ&ss(ĎЙЋc%*БЭЎăЂВĶЇЂЭ(АmƎФPŇЋc%*БА%u&$ņЇЂАmƏЇїЇЂЭ(ċФ&PƐl-cМqńPƑxPƒR"
end
end K45
namespace K45
open PySem L2
section
variable{n:Nat}{ts:List (Int×Int)}{ps us:List Int}
theorem oC{P:Pn}{m:Int}(h:0 < m)(h2:m < 1073741824):Od.dw ai (pD P) m=some (dr P m,pD (nx P m)):=by
 unfold Od.dw;rw [nL h h2]
theorem fn_no{web:D}{P:Pn}(h:dr P 4≠0):aA 3 12 (some 0) bq [pD P,web,thD ps us]=none:=by
 have d1:=nL (P:=P) (m:=4) (by omega) (by omega);have gl1:bn [.tup (nD ps)]=some (.lst (nD ps),true):=rfl;have gl2:bn [.tup (nD us)]=some (.lst (nD us),true):=rfl
 have ge:gEq [.int (dr P 4),.int 0]=some (.bl false,false):=by rw [eX,CL h]
 have e1:aU 3 (cA [(sOp bn [.ex (sOp gIx [.bor 2,.ex (sC (.int 0))])]),(sOp bn [.ex (sOp gIx [.bor 2,.ex (sC (.int 1))])])]) [some (pD P,.io),some (web,.fz),some (thD ps us,.fz),none,none,none,none,none,none,none,none,none]=some (.nx,[some (pD P,.io),some (web,.fz),some (thD ps us,.fz),some (.lst [.lst (nD ps),.lst (nD us)],.ow),none,none,none,none,none,none,none,none]):=by
  refine wY (ρ1:=[some (pD P,.io),some (web,.fz),some (thD ps us,.fz),none,none,none,none,none,none,none,none,none]) (nw:=true) (d:= .lst [.lst (nD ps),.lst (nD us)]) ?_ rfl rfl
  trace "*ЎĶЎă&"
 have e2:aU 4 (ar (some 0) (some 0) ai [.bor 0,.ex (sC (.int 4))]) [some (pD P,.io),some (web,.fz),some (thD ps us,.fz),some (.lst [.lst (nD ps),.lst (nD us)],.ow),none,none,none,none,none,none,none,none]=some (.nx,[some (pD (nx P 4),.io),some (web,.fz),some (thD ps us,.fz),some (.lst [.lst (nD ps),.lst (nD us)],.ow),some (.int (dr P 4),.fz),none,none,none,none,none,none,none]):=by
  refine wY (ρ1:=[some (pD (nx P 4),.io),some (web,.fz),some (thD ps us,.fz),some (.lst [.lst (nD ps),.lst (nD us)],.ow),none,none,none,none,none,none,none,none]) (nw:=false) (d:= .int (dr P 4)) (qu (o0 rfl (wZ r_c su) rfl) d1 rfl rfl) rfl rfl
 have e3:ci (bS gEq [.bor 4,.ex (sC (.int 0))]) bu cU [some (pD (nx P 4),.io),some (web,.fz),some (thD ps us,.fz),some (.lst [.lst (nD ps),.lst (nD us)],.ow),some (.int (dr P 4),.fz),none,none,none,none,none,none,none]=some (.nx,[some (pD (nx P 4),.io),some (web,.fz),some (thD ps us,.fz),some (.lst [.lst (nD ps),.lst (nD us)],.ow),some (.int (dr P 4),.fz),none,none,none,none,none,none,none]):=by
  trace "3bVƓp"
 have e:bq [some (pD P,.io),some (web,.fz),some (thD ps us,.fz),none,none,none,none,none,none,none,none,none]=none:=by
  unfold bq;exact nW e1 (nW e2 (nW e3 rfl))
 unfold aA;rw [if_pos (show [pD P,web,thD ps us].length=3 from rfl)];have i:ini 12 (some 0) [pD P,web,thD ps us]=[some (pD P,.io),some (web,.fz),some (thD ps us,.fz),none,none,none,none,none,none,none,none,none]:=rfl;rw [i,e]
theorem so(P:Pn)(a b:List D):∃ x,Od.rowAt (dr P 2) a b=some x/\(x=a\/x=b):=by
 have h:=iJ P (m:=2) (by omega) (by omega);unfold Od.rowAt
 by_cases h0:dr P 2=0
 ·rw [if_pos h0];exact ⟨a,rfl,.inl rfl⟩
 ·rw [if_neg h0,if_pos (by omega)];exact ⟨b,rfl,.inr rfl⟩
abbrev rQ(n:Nat)(ts:List (Int×Int))(a b:List D):Prop:=a.length=n/\b.length=ts.length/\Kns a/\Kns b
theorem uA{a:List D}{k:Nat}{d:D}(h:Kns a)(hd:Kn d):Kns (a.set k d):=fun e he=>(List.mem_or_eq_of_mem_set he).elim (h e) fun z=>z ▸ hd
theorem oW{s:Int}{a b x:List D}{k:Nat}{d:D}(h:rQ n ts a b)(hx:Od.rowAt s a b=some x)(hd:Kn d):rQ n ts (Od.rowPut s a b (x.set k d)).1 (Od.rowPut s a b (x.set k d)).2:=by
 unfold Od.rowAt at hx;unfold Od.rowPut
 by_cases h0:s=0
 ·rw [if_pos h0] at hx ⊢
  cases hx;exact ⟨by rw [C3];exact h.1,h.2.1,uA h.2.2.1 hd,h.2.2.2⟩
 ·rw [if_neg h0] at hx ⊢
  by_cases h1:s=1
  ·rw [if_pos h1] at hx
   cases hx;exact ⟨h.1,by rw [C3];exact h.2.1,h.2.2.1,uA h.2.2.2 hd⟩
  ·rw [if_neg h1] at hx;cases hx
theorem wR{s:Int}{a b x:List D}(h:rQ n ts a b)(hx:Od.rowAt s a b=some x):Kns x/\(x.length=n\/x.length=ts.length):=by
 unfold Od.rowAt at hx
 split at hx
 ·cases hx;exact ⟨h.2.2.1,.inl h.1⟩
 ·split at hx
  ·cases hx;exact ⟨h.2.2.2,.inr h.2.1⟩
  ·cases hx
theorem odd_kn{a b:List D}{a0:D}(h:Kn a0):Kns (Od.oddL a b a0):=by
 intro d hd;unfold Od.oddL at hd;simp only [Cr,Dz,or_false] at hd
 rcases hd with rfl | rfl | rfl | rfl | rfl | rfl | rfl | rfl | rfl | rfl | rfl
 ·exact jg _
 ·exact jg _
 ·exact jg _
 ·exact B6 _
 ·exact uB rfl rfl
 ·exact uB rfl rfl
 ·exact uB rfl rfl
 ·exact uB rfl rfl
 ·exact jg _
 ·exact jg _
 ·exact h
theorem odd_1(W:We n ts)(ne:ts≠[])(hp:ps.length=n)(hu:us.length=ts.length){web:D}{P:Pn}(h:dr P 4≠0):∃ (a b:List D) (P':Pn),Od.f1 ai [pD P,web,thD ps us]=some (.ok (.tup [.tup a,.tup b]) false,pD P')/\rQ n ts a b:=by
 have wn:=W.n;have wl:=W.l;have tp:0 < ts.length:=C4.mpr ne
 have n0:0 < n:=by
  obtain ⟨t,ht⟩:=E1 _ ne;have:=W.r t ht;omega
 have R0:rQ n ts (nD ps) (nD us):=⟨by rw [Ci];exact hp,by rw [Ci];exact hu,aV _,aV _⟩;obtain ⟨x,hx,_⟩:=so (nx P 4) (nD ps) (nD us);obtain ⟨kx,lx⟩:=wR R0 hx
 have hxl:0 < x.length/\x.length<=100:=by omega
 have t1:=iJ (nx (nx P 4) 2) (m:=(x.length:Nat)) (by omega) (by omega)
 have hf:Od.f1 ai [pD P,web,thD ps us]=if dr P 4=1 then Od.f1a ai (dr (nx P 4) 2) (dr (nx (nx P 4) 2) (x.length:Nat)) (nD ps) (nD us) x (pD (nx (nx (nx P 4) 2) (x.length:Nat))) else Od.f1b ai (dr (nx P 4) 2) (dr (nx (nx P 4) 2) (x.length:Nat)) (nD ps) (nD us) x (pD (nx (nx (nx P 4) 2) (x.length:Nat))):=by
  unfold Od.f1;dsimp only;rw [oC (by omega) (by omega),C7];dsimp only;rw [if_neg h,oC (by omega) (by omega),C7];dsimp only;rw [hx,C7,oC (by omega) (by omega),C7];dsimp only;rw [if_pos t1.1]
 rw [hf]
 generalize dr (nx (nx P 4) 2) (x.length:Nat)=t at *
 generalize nx (nx (nx P 4) 2) (x.length:Nat)=Q at *
 generalize dr (nx P 4) 2=s at *
 have ht:t.toNat < x.length:=by omega
 by_cases h1:dr P 4=1
 ·rw [if_pos h1]
  have k1:=iJ Q (m:=11) (by omega) (by omega);have ha:(nD ps)[0]?=some ((nD ps)[0]'(by rw [R0.1];exact n0)):=Ch _
  generalize (nD ps)[0]'(by rw [R0.1];exact n0)=a0 at *
  have ka0:Kn a0:=aV ps a0 (CB ha)
  have hk:(dr Q 11).toNat < (Od.oddL (nD ps) (nD us) a0).length:=by show _ < 11;omega
  refine ⟨_,_,nx Q 11,?_,oW (k:=t.toNat) R0 hx (odd_kn ka0 _ (CT hk))⟩;unfold Od.f1a;rw [oC (by omega) (by omega),C7];dsimp only;rw [ha,C7,Ch ht,C7,Ch hk,C7,if_pos k1.1]
 ·rw [if_neg h1]
  obtain ⟨y,hy,_⟩:=so Q (nD ps) (nD us);obtain ⟨ky,ly⟩:=wR R0 hy
  have hyl:0 < y.length/\y.length<=100:=by omega
  have j1:=iJ (nx Q 2) (m:=(y.length:Nat)) (by omega) (by omega)
  have hj:(dr (nx Q 2) (y.length:Nat)).toNat < y.length:=by omega
  have kd:Kn (y[(dr (nx Q 2) (y.length:Nat)).toNat]'hj):=ky _ (CT hj);have kk:Kn (x[t.toNat]'ht):=kx _ (CT ht);have R1:=oW (k:=t.toNat) R0 hx kd;obtain ⟨y1,hy1,_⟩:=so Q (Od.rowPut s (nD ps) (nD us) (x.set t.toNat (y[(dr (nx Q 2) (y.length:Nat)).toNat]'hj))).1 (Od.rowPut s (nD ps) (nD us) (x.set t.toNat (y[(dr (nx Q 2) (y.length:Nat)).toNat]'hj))).2;refine ⟨_,_,nx (nx Q 2) (y.length:Nat),?_,oW (k:=(dr (nx Q 2) (y.length:Nat)).toNat) R1 hy1 kk⟩;unfold Od.f1b;rw [oC (by omega) (by omega),C7];dsimp only;rw [hy,C7,oC (by omega) (by omega),C7];dsimp only;rw [Ch ht,C7,Ch hj,C7,hy1,C7,if_pos j1.1]
theorem t_odd(W:We n ts)(ne:ts≠[])(hp:ps.length=n)(hu:us.length=ts.length)(web:D)(P:Pn):∃ (x:D) (P':Pn),cu [pD P,web,thD ps us]=some (.ok x false,pD P')/\Ok n ts x:=by
 have wn:=W.n;have wl:=W.l;unfold cu Od.either
 by_cases h:dr P 4=0
 ·obtain ⟨x,P',e,o⟩:=odd_0 W ne hp hu (web:=web) h
  exact ⟨x,P',by rw [e],o⟩
 ·obtain ⟨a,b,P',e,r1,r2,r3,r4⟩:=odd_1 W ne hp hu (web:=web) h
  exact ⟨_,P',by rw [fn_no h];exact e,lD W ne (by omega) r3 r4⟩
end
end K45
namespace K45
open PySem L2
abbrev dR(m n i:Nat):List (Int×Int):=(rgI 0 i).flatMap fun a=>(rgI 0 n).map fun b=>(a,(m:Int)+b)
theorem qj(m n i:Nat):dR m n (i+1)=dR m n i++(rgI 0 n).map fun b=>((i:Int),(m:Int)+b):=by
 unfold dR;rw [dz,List.flatMap_append];simp
theorem oQ(m n:Nat):∀ i,(dR m n i).length=i * n
 | 0=>by simp [dR,rgI]
 | i+1=>by rw [qj,Cy,oQ m n i,Ci,ax,Nat.succ_mul]
theorem sid_in{m n i:Nat}(h:i<=m):∀ t∈dR m n i,0<=t.1/\t.1 < m/\(m:Int)<=t.2/\t.2 < (m:Int)+n:=fun t ht=>by
 obtain ⟨a,ha,h3⟩:=List.mem_flatMap.mp ht;obtain ⟨b,hb,rfl⟩:=C0.mp h3;have h1:=aC.mp ha;have h2:=aC.mp hb
 show 0<=a/\a < m/\(m:Int)<=(m:Int)+b/\(m:Int)+b < (m:Int)+n
 omega
theorem se{m n:Nat}(hm:m<=4)(hn:n<=5)(y:Option (D×Md)):∃ y',aY (.nm 3) cR (nD (rgI 0 m)) [some (.int (m:Nat),.fz),some (.int (n:Nat),.fz),some (.lst [],.ow),y]=some (.nx,[some (.int (m:Nat),.fz),some (.int (n:Nat),.fz),some (.lst (tD (dR m n m)),.ow),y']):=by
 obtain ⟨ρ',e,y',rfl⟩:=lP (T:= .nm 3) (f:=cR) (fun i ρ=>∃ y,ρ=[some (.int (m:Nat),.fz),some (.int (n:Nat),.fz),some (.lst (tD (dR m n i)),.ow),y]) m [some (.int (m:Nat),.fz),some (.int (n:Nat),.fz),some (.lst [],.ow),y] ⟨y,rfl⟩ (by
  rintro i hi ρ ⟨y,rfl⟩;have hl:=oQ m n i;have hb:i * n<=4 * 5:=Nat.mul_le_mul (by omega) hn
  have eN:((n:Nat):Int).toNat=n:=by omega
  have ex:jq (.lst (tD (dR m n i))) [.lst (tD ((rgI 0 n).map fun b=>((i:Int),(m:Int)+b)))]=some (.lst (tD (dR m n (i+1))),.non):=by
   rw [qj]
   show (if small _=true then _ else _)=_
   rw [if_pos (cy (by rw [Ci,Ci,Ci,ax];omega)),tD,tD,tD,CU]
  unfold cR
  trace "t{:čZǈ!ŀǘђІnОSXƔǄ"
  exact ⟨_,rfl⟩)
 exact ⟨_,e⟩
theorem zM{m n:Nat}(hm:m<=4)(hn:n<=5):el [.int (m:Nat),.int (n:Nat)]=some (.ok (.tup [.int ((m:Nat)+(n:Nat)),.lst (tD (dR m n m)),.lst (nD (rgI 0 m++(rgI 0 n).map fun b=>(m:Int) * (b+1)))]) false,.non):=by
 obtain ⟨y,e⟩:=se hm hn none
 have eM:((m:Nat):Int).toNat=m:=by omega
 have eN:((n:Nat):Int).toNat=n:=by omega
 have gm:∀ b∈rgI 0 n,fN [.int (m:Nat),.int (b+1)]=some (.int ((m:Int) * (b+1)),false):=fun b hb=>yA (by omega) (by omega)
 have gr:bn [.rng 0 (m:Nat)]=some (.lst (nD (rgI 0 m)),true):=by
  rw [kr (by omega) (by omega) (by omega) (by omega) (by omega),show ((m:Nat) - (0:Int)).toNat=m by omega]
 have ga:aH [.lst (nD (rgI 0 m)),.lst (nD ((rgI 0 n).map fun b=>(m:Int) * (b+1)))]=some (.lst (nD (rgI 0 m++(rgI 0 n).map fun b=>(m:Int) * (b+1))),true):=by
  show (if small _=true then _ else _)=_
  rw [if_pos (cy (by rw [Ci,Ci,Ci,ax,ax];omega)),nD,nD,nD,CU]
 unfold el jv
 trace "С*&иčZǈ,-ЉnѨТыQ$ě%:čZǈ!ѢђckePƕǇSР&R"
theorem pH:∀ l:List Int,bW (nD l)=true
 | []=>rfl
 | _::l=>pH l
theorem uN:∀ l:List (Int×Int),bW (tD l)=true
 | []=>rfl
 | _::l=>uN l
theorem yJ(n:Nat)(rs:List (Int×Int))(gs vs:List Int):gp (D.tup [aN (n:Nat) rs,thD gs vs]) false=true:=by
 show (((true&&((bW (tD rs))&&true))&&((bW (nD gs)&&(bW (nD vs)&&true))&&true)))=true
 rw [pH,pH,uN];rfl
theorem tr_put(n:Nat)(rs:List (Int×Int))(gs vs:List Int)(as:List L2.Arg)(ρ:Rho):(cm none 0 as ρ||(gp (D.tup [aN (n:Nat) rs,thD gs vs]) false&&((none:Option Nat).isNone||cn D.non)))=true:=by
 rw [yJ];cases cm none 0 as ρ<;>rfl
noncomputable def Mt(d:D)(nw:Bool)(ρ:Rho):Prop:=∃ (n:Nat) (rs:List (Int×Int)) (gs vs:List Int) (c:Int) (P:Pn),We n rs/\rs≠[]/\Tot n rs gs vs c/\d = .tup [aN (n:Nat) rs,thD gs vs]/\nw=false/\ρ[0]?=some (some (pD P,.io))
theorem BF{n:Nat}{ts:List (Int×Int)}{ps us:List Int}{c:Int}{P:Pn}{x1 x2 x3:Option (D×Md)}{m6 m7:Md}(hm:(m6 = .ow/\m7 = .ow)\/(m6 = .fz/\m7 = .fz))(W:We n ts)(h1:∀ t∈ts,t.1 < t.2)(nd:ts.Nodup)(h2:ts.length<=40)(ne:ts≠[])(T:Tot n ts ps us c):rR (bo [some (pD P,.io),x1,x2,x3,some (.int (n:Nat),.fz),some (.lst (tD ts),.fz),some (.lst (nD us),m6),some (.lst (nD ps),m7),none]) Mt:=by
 have wn:=W.n;have tp := @tr_put
 have lt:bJ [.lst (tD ts)]=some (.int (ts.length:Nat),false):=by rw [kt]
 by_cases h:dr P 3=0
 ·obtain ⟨P',os,ho,eo⟩:=uc (m:=n) (by omega) (nx P 3)
  obtain ⟨rs,gs,vs',e,W',ne',T'⟩:=BH W h1 nd h2 (zD W T) ho ne
  rcases hm with ⟨rfl,rfl⟩ | ⟨rfl,rfl⟩
  ·unfold bo
   trace "/яvqŏQeǄWЮГSйS`8ЮГSйS`"
   trace "УѥffМYĦxQS,ħ"
   exact ⟨n,rs,gs,vs',_,P',W',ne',T',rfl,rfl,rfl⟩
  ·unfold bo
   trace "/яvqŏQeǄWѤйS`8ѤйS`"
   trace "УѥffМYĦxQS,ħ"
   exact ⟨n,rs,gs,vs',_,P',W',ne',T',rfl,rfl,rfl⟩
 ·obtain ⟨P',os,ho,eo⟩:=uc (m:=n) (by omega) (nx P 3)
  obtain ⟨rs,gs,vs',e,W',ne',T'⟩:=BH W h1 nd h2 T ho ne
  rcases hm with ⟨rfl,rfl⟩ | ⟨rfl,rfl⟩
  ·unfold bo
   trace "/ѐ"
   trace "УѥffМYĦxQS,ħ"
   exact ⟨n,rs,gs,vs',_,P',W',ne',T',rfl,rfl,rfl⟩
  ·unfold bo
   trace "/ѐ"
   trace "УѥffМYĦxQS,ħ"
   exact ⟨n,rs,gs,vs',_,P',W',ne',T',rfl,rfl,rfl⟩
abbrev sdQ(m n:Nat):List Int:=((rgI 0 m).map fun a=>(a+1) * ((n:Int)+1))++(rgI 0 n).map fun b=>b+1
abbrev sdV(m n:Nat):List Int:=(dR m n m).map fun t=>((m:Int)+2) * ((n:Int)+1) - (sdQ m n).getD t.1.toNat 0 - (sdQ m n).getD t.2.toNat 0
noncomputable def sdG(m n:Nat):Bool:=uw (sdQ m n++sdV m n) 1&&decide (dR m n m).Nodup
theorem sd_all:((List.range 4).all fun m=>(List.range 5).all fun n=>sdG (m+1) (n+1))=true:=by decide +kernel
theorem ug(m n:Nat):(sdQ m n).length=m+n:=by rw [Cy,Ci,Ci,ax,ax]
theorem sd_is{m n:Nat}(h1:1<=m)(h2:m<=4)(h3:1<=n)(h4:n<=5):Tot (m+n) (dR m n m) (sdQ m n) (sdV m n) (((m:Int)+2) * ((n:Int)+1))/\(dR m n m).Nodup:=by
 have a:=CH.mp (CH.mp sd_all (m - 1) (Dq.mpr (by omega))) (n - 1) (Dq.mpr (by omega));rw [show m - 1+1=m by omega,show n - 1+1=n by omega] at a;have ⟨b,c⟩:=(CD _ _).mp a;have p:=l8 b;have lv:(sdV m n).length=(dR m n m).length:=Ci _
 have ll:(sdQ m n++sdV m n).length=m+n+(dR m n m).length:=by rw [Cy,ug,lv]
 refine ⟨⟨ug m n,lv,fun x hx=> ?_,p.nodup_iff.mpr (br _ _),fun i hi=> ?_⟩,Cz c⟩
 ·have:=aC.mp (p.mem_iff.mp hx)
  rw [ll] at this;omega
 ·rw [Ck,Ch hi,Ck,CG,Ch hi]
  show (sdQ m n).getD ((dR m n m)[i]'hi).1.toNat 0+(sdQ m n).getD ((dR m n m)[i]'hi).2.toNat 0+(((m:Int)+2) * ((n:Int)+1) - (sdQ m n).getD ((dR m n m)[i]'hi).1.toNat 0 - (sdQ m n).getD ((dR m n m)[i]'hi).2.toNat 0)=_
  omega
theorem zN(P:Pn):∃ (n:Nat) (ts:List (Int×Int)) (ps us:List Int) (c:Int) (P':Pn),cF [pD P,.int 20]=some (.ok (.tup [.int (n:Nat),.lst (tD ts),.lst (nD ps),.lst (nD us)]) false,pD P')/\We n ts/\(∀ t∈ts,t.1 < t.2)/\ts.Nodup/\ts.length<=40/\ts≠[]/\Tot n ts ps us c:=by
 obtain ⟨d,nw,ρ',e,n,ts,ps,us,c,P',W,h1,nd,h2,ne,T,rfl,rfl,h0⟩:=t_made P;refine ⟨n,ts,ps,us,c,P',?_,W,h1,nd,h2,ne,T⟩;unfold cF;refine r_fn (ρ1:=ρ') rfl e ?_ rfl;unfold ioD;simp only [h0]
theorem wI(P:Pn):rR (e9 [some (pD P,.io),some (.int 20,.fz),none,none,none,none,none,none,none]) Mt:=by
 unfold e9
 by_cases h:dr P 3=0
 ·have b1:=iJ (nx P 3) (m:=4) (by omega) (by omega)
  have b2:=iJ (nx (nx P 3) 4) (m:=5) (by omega) (by omega);obtain ⟨m,hm⟩:∃ m:Nat,(1+dr (nx P 3) 4)=(m:Int):=⟨(1+dr (nx P 3) 4).toNat,by omega⟩;obtain ⟨n,hn⟩:∃ n:Nat,(1+dr (nx (nx P 3) 4) 5)=(n:Int):=⟨(1+dr (nx (nx P 3) 4) 5).toNat,by omega⟩
  have eM:(1+dr (nx P 3) 4).toNat=m:=by omega
  have eN:(1+dr (nx (nx P 3) 4) 5).toNat=n:=by omega
  have e:=zM (m:=m) (n:=n) (by omega) (by omega);rw [<- hm,<- hn] at e
  have g1:∀ a∈rgI 0 (1+dr (nx P 3) 4).toNat,fN [.int (a+1),.int ((1+dr (nx (nx P 3) 4) 5)+1)]=some (.int ((a+1) * ((1+dr (nx (nx P 3) 4) 5)+1)),false):=fun a _=>yz (by omega) (by omega)
  have g2:fN [.int ((1+dr (nx P 3) 4)+2),.int ((1+dr (nx (nx P 3) 4) 5)+1)]=some (.int (((1+dr (nx P 3) 4)+2) * ((1+dr (nx (nx P 3) 4) 5)+1)),false):=yz (by omega) (by omega)
  have ga:aH [.lst (nD ((rgI 0 (1+dr (nx P 3) 4).toNat).map fun a=>(a+1) * ((1+dr (nx (nx P 3) 4) 5)+1))),.lst (nD ((rgI 0 (1+dr (nx (nx P 3) 4) 5).toNat).map fun b=>b+1))]=some (.lst (nD (((rgI 0 (1+dr (nx P 3) 4).toNat).map fun a=>(a+1) * ((1+dr (nx (nx P 3) 4) 5)+1))++(rgI 0 (1+dr (nx (nx P 3) 4) 5).toNat).map fun b=>b+1)),true):=by
   show (if small _=true then _ else _)=_
   rw [if_pos (cy (by rw [Ci,Ci,Ci,Ci,ax,ax];omega)),nD,nD,nD,CU]
  have lps:(((rgI 0 (1+dr (nx P 3) 4).toNat).map fun a=>(a+1) * ((1+dr (nx (nx P 3) 4) 5)+1))++(rgI 0 (1+dr (nx (nx P 3) 4) 5).toNat).map fun b=>b+1).length=m+n:=by
   rw [Cy,Ci,Ci,ax,ax,eM,eN]
  generalize hps:(((rgI 0 (1+dr (nx P 3) 4).toNat).map fun a=>(a+1) * ((1+dr (nx (nx P 3) 4) 5)+1))++(rgI 0 (1+dr (nx (nx P 3) 4) 5).toNat).map fun b=>b+1)=ps at *
  obtain ⟨T,snd⟩:=sd_is (m:=m) (n:=n) (by omega) (by omega) (by omega) (by omega)
  have hpq:sdQ m n=ps:=by
   rw [<- hps,eM,eN,hn]
  unfold sdV at T;rw [hpq,<- hm,<- hn] at T;have hin:=sid_in (m:=m) (n:=n) (i:=m) (Cw m)
  have h1:∀ t∈dR m n m,gIx [.lst (nD ps),.int t.1]=some (.int (ps.getD t.1.toNat 0),false):=fun t h=>bO (by have:=hin t h;omega) (by have:=hin t h;omega)
  have h2:∀ t∈dR m n m,gIx [.lst (nD ps),.int t.2]=some (.int (ps.getD t.2.toNat 0),false):=fun t h=>bO (by have:=hin t h;omega) (by have:=hin t h;omega)
  have sl:=oQ m n m;have mb:m * n<=4 * 5:=Nat.mul_le_mul (by omega) (by omega);have mp:1 * 1<=m * n:=Nat.mul_le_mul (by omega) (by omega)
  generalize hts:dR m n m=ts at *
  trace "/яЌѪQǄWЌѪQИğo,!ǍW_:āZh!Ѣђveke$ƖǇS%:āZh!ѢђёSРl8Ѥб_ыeke$>ЅęǇPЅĚǇQ`"
  have hN:(1+dr (nx P 3) 4)+(1+dr (nx (nx P 3) 4) 5)=((m+n:Nat):Int):=by omega
  rw [hN];exact BF (n:=m+n) (.inl ⟨rfl,rfl⟩) ⟨fun t h=>by have:=hin t h;omega,by omega,by omega⟩ (fun t h=>by have:=hin t h;omega) snd (by omega) (EZ (by omega)) T
 ·obtain ⟨n,ts,ps,us,c,P',e,W,h1,nd,h2,ne,T⟩:=zN (nx P 3)
  trace "/ѸğцY,xǍ"
  exact BF (.inr ⟨rfl,rfl⟩) W h1 nd h2 ne T
end K45
namespace K45
open PySem L2
theorem t_totF(P:Pn):∃ (n:Nat) (rs:List (Int×Int)) (gs vs:List Int) (c:Int) (P':Pn),dv [pD P,.int 20]=some (.ok (.tup [aN (n:Nat) rs,thD gs vs]) false,pD P')/\We n rs/\rs≠[]/\Tot n rs gs vs c:=by
 obtain ⟨d,nw,ρ',e,n,rs,gs,vs,c,P',W,ne,T,rfl,rfl,h0⟩:=wI P;refine ⟨n,rs,gs,vs,c,P',?_,W,ne,T⟩;unfold dv;refine r_fn (ρ1:=ρ') rfl e ?_ rfl;unfold ioD;simp only [h0]
abbrev w2:D:= .tup [.int 2,.tup [.tup [.int 0,.int 1]]]
abbrev Z(ns:List Int)(ρ:Rho):Prop:=∃ y2 y3 y4 y5 y6 y7,ρ=[some (.klst (nD ns),.fz),some (w2,.fz),y2,y3,y4,y5,y6,y7]
theorem turns{n:Nat}{ts:List (Int×Int)}{ps us:List Int}(W:We n ts)(ne:ts≠[])(hp:ps.length=n)(hu:us.length=ts.length){x0 x1 x2 x3 x7:Option (D×Md)}(P:Pn):∃ (P':Pn) (y:Option (D×Md)),aY (.nm 7) lm (nD (rgI 0 (5:Int).toNat)) [x0,x1,x2,x3,some (pD P,.ow),some (aN (n:Nat) ts,.fz),some (thD ps us,.fz),x7]=some (.nx,[x0,x1,x2,x3,some (pD P',.ow),some (aN (n:Nat) ts,.fz),some (thD ps us,.fz),y]):=by
 obtain ⟨ρ',e,P',y,rfl⟩:=dy (T:= .nm 7) (f:=lm) (inj:=D.int) (fun (_:Unit) ρ=>∃ (P:Pn) (y:Option (D×Md)),ρ=[x0,x1,x2,x3,some (pD P,.ow),some (aN (n:Nat) ts,.fz),some (thD ps us,.fz),y]) (fun _ _=>()) (rgI 0 (5:Int).toNat) () [x0,x1,x2,x3,some (pD P,.ow),some (aN (n:Nat) ts,.fz),some (thD ps us,.fz),x7] ⟨P,x7,rfl⟩ (by
  rintro d hd _ ρ ⟨P,y,rfl⟩;obtain ⟨x,P',e,o⟩:=t_odd W ne hp hu (aN (n:Nat) ts) P;have o:aE [aN (n:Nat) ts,x]=some (.ok (.bl true) false,.non):=o;unfold lm
  trace "t3КЁМf҃,xPĳмG"
  exact ⟨_,_,rfl⟩)
 exact ⟨P',y,e⟩
theorem body(ns:List Int)(c:Int)(x2 x4 x5 x6 x7:Option (D×Md)):uZ (lj [some (.klst (nD ns),.fz),some (w2,.fz),x2,some (.int c,.fz),x4,x5,x6,x7]) (Z ns):=by
 obtain ⟨n,rs,gs,us,t,P1,e1,W,ne,T⟩:=t_totF (pen0 c);have g:=(gE W ne T).1;have r:=nS W ne T;have gi:jJ [.bl true,.bl true]=some (.bl false,false):=rfl;obtain ⟨P2,y7,e2⟩:=turns W ne T.lp T.lu (x0:=some (.klst (nD ns),.fz)) (x1:=some (w2,.fz)) (x2:=x2) (x3:=some (.int c,.fz)) (x7:=x7) P1;unfold lj
 trace "ķ8ЁPƗ`"
 trace "ķğцVďxǍ"
 trace "ķ31M%л!mģ!КoŐмG"
 trace "ƘвāmhĂ3КoŐмG"
 exact ⟨_,_,_,_,_,_,rfl⟩
abbrev Two(d:D):Prop:=∃ a b:List D,d = .tup [.tup a,.tup b]/\a.length+b.length<=1000/\Kns a/\Kns b
theorem W2:We 2 [(0,1)]:=⟨by decide,by decide,by decide⟩
abbrev l6:List D:=[.tup [.tup [.int 1,.int 2],.tup [.int 3]],.tup [.tup [.int 1,.int 3],.tup [.int 2]],.tup [.tup [.int 3,.int 2],.tup [.int 1]],.tup [.tup [.int 1,.int 1],.tup [.int 3]],.tup [.tup [.int 1,.int 2],.tup []],.tup [.tup [.int 1,.bl true],.tup [.int 3]]]
theorem two6:∀ d∈l6,Two d:=by
 have k1:Kns [.int 1,.bl true]:=fun d hd=>by
  rcases Cr.mp hd with rfl | hd
  ·exact jg 1
  ·rw [CC.mp hd];exact B6 true
 intro d hd;simp only [Cr,Dz,or_false] at hd
 rcases hd with rfl | rfl | rfl | rfl | rfl | rfl
 ·exact ⟨_,_,rfl,by decide,aV [1,2],aV [3]⟩
 ·exact ⟨_,_,rfl,by decide,aV [1,3],aV [2]⟩
 ·exact ⟨_,_,rfl,by decide,aV [3,2],aV [1]⟩
 ·exact ⟨_,_,rfl,by decide,aV [1,1],aV [3]⟩
 ·exact ⟨_,_,rfl,by decide,aV [1,2],aV []⟩
 ·exact ⟨_,_,rfl,by decide,k1,aV [3]⟩
theorem loop6{x0 x3 x4 x5 x6 x7:Option (D×Md)}:∃ y,aY (.nm 2) lq l6 [x0,some (w2,.fz),none,x3,x4,x5,x6,x7]=some (.nx,[x0,some (w2,.fz),y,x3,x4,x5,x6,x7]):=by
 obtain ⟨ρ',e,y,rfl⟩:=jW (T:= .nm 2) (f:=lq) (fun _ ρ=>∃ y,ρ=[x0,some (w2,.fz),y,x3,x4,x5,x6,x7]) l6 0 [x0,some (w2,.fz),none,x3,x4,x5,x6,x7] ⟨none,rfl⟩ (by
  rintro i d ρ hd ⟨y,rfl⟩;obtain ⟨a,b,rfl,hl,ka,kb⟩:=two6 d (CB hd);have o1:aE [w2,.tup [.tup a,.tup b]]=some (.ok (.bl true) false,.non):=lD W2 (by decide) hl ka kb;have o2:aE [w2,.tup [.tup b,.tup a]]=some (.ok (.bl true) false,.non):=lD W2 (by decide) (by omega) kb ka;have gr:yt [.tup [.tup a,.tup b]]=some (.tup [.tup b,.tup a],false):=rfl;unfold lq
  trace "t31КoƙмКć%uБuЙФqě$ƚмG"
  exact ⟨_,rfl⟩)
 exact ⟨y,e⟩
theorem law_ok(ns:List Int):re [.klst (nD ns)]=some (.ok (.bl true) false,.non):=by
 obtain ⟨y2,e6⟩:=loop6 (x0:=some (.klst (nD ns),.fz)) (x3:=none) (x4:=none) (x5:=none) (x6:=none) (x7:=none)
 have R:rR (wQ [some (.klst (nD ns),.fz),none,none,none,none,none,none,none]) (fun d nw ρ=>d = .bl true/\nw=false):=by
  unfold wQ
  trace "/8uБuЙФl"
  trace "/H;*Бusї&Ђusї&Ђusї&Ђusї&ЂuЙ(ċ&ЂusїФXƛ"
  obtain ⟨ρ',e,z2,y3,y4,y5,y6,y7,rfl⟩:=dy (T:= .nm 3) (f:=lj) (inj:=D.int) (fun (_:Unit) ρ=>Z ns ρ) (fun _ _=>()) (zb ns 0::rB ns (some 1) (some 6)) () [some (.klst (nD ns),.fz),some (w2,.fz),y2,none,none,none,none,none] ⟨_,_,_,_,_,_,rfl⟩ (by
   rintro c hc _ ρ ⟨y2,y3,y4,y5,y6,y7,rfl⟩;obtain ⟨ρ',e,hq⟩:=body ns c y2 y4 y5 y6 y7
   exact ⟨_,_,rfl,e,hq⟩)
  trace "/H;_*(ЁVƜОqƝ$ƞh!,"
  trace "ļѫ"
  exact ⟨rfl,rfl⟩
 obtain ⟨d,nw,ρ',e2,rfl,rfl⟩:=R;unfold re
 trace "ЀĂR"
end K45
namespace K45
open PySem L2 PyProof.Rows
noncomputable def DIn(K:E2)(x:Str)(i:Nat):Prop:=∃ (f:Addr) (od an:Option Addr) (sl:Array (Option Value)) (oc kV dc pm cd ct:Value),PySem.W.nsIn K mainGlobals x=some (some (.ref f))/\K.lookup f=some ⟨oc,od,.func (PySem.W.fnOf x x (cH (top i)) (bf (top i)) (ac (top i)) .none kV dc pm an cd ct),sl⟩/\PySem.W.codeIn K cd x=true/\PySem.W.keepIn K (.ref f)=true
theorem din_mk{K:E2}{x:Str}{i:Nat}{f:Addr}{od an:Option Addr}{sl:Array (Option Value)}{oc kV dc pm cd ct:Value}(a:PySem.W.nsIn K mainGlobals x=some (some (.ref f)))(l:K.lookup f=some ⟨oc,od,.func (PySem.W.fnOf x x (cH (top i)) (bf (top i)) (ac (top i)) .none kV dc pm an cd ct),sl⟩)(c:PySem.W.codeIn K cd x=true)(k:PySem.W.keepIn K (.ref f)=true):DIn K x i:=⟨f,od,an,sl,oc,kV,dc,pm,cd,ct,a,l,c,k⟩
theorem pC{K:E2}{mg:Str->Option Value}{h:Heap}(X:K.In h)(G:h.Ns mainGlobals mg){x:Str}{i:Nat}{ps:List Str}(d:DIn K x i)
 (hb:∀ (kV doc pm:Value) (an:Option Addr) (cdv ct:Value) (us:List Value),us.length=ps.length->bindArgs (PySem.W.fnOf x x (cH (top i)) (bf (top i)) (ac (top i)) .none kV doc pm an cdv ct) ⟨us,[]⟩=pure (ps.zip us)):Has K mg x (top i) ps:=by
 obtain ⟨f,od,an,sl,oc,kV,dc,pm,cd,ct,a,l,c,k⟩:=d;exact ⟨f,_,tF l c k,Du X G a,(tF (st:=top i) l c k).binds hb⟩
theorem own_of{K:E2}{mg:Str->Option Value}{h:Heap}{x:Str}{C:Addr}{bs:List Value}{ni:String}(X:K.In h)(G:h.Ns mainGlobals mg)(e:PySem.W.nsIn K mainGlobals x=some (some (.ref C)))(q:PySem.W.excIn K C bs ni=true):OwnCls x C bs ni mg h where
 bound:=Du X G e
 obj:=by
  unfold PySem.W.excIn at q
  split at q
  case h_2=>cases q
  case h_1 d1 cl ss look =>
   split at q
   case h_2=>cases q
   case h_1 C2 cw a0 a1 a2 a3 nw a5 hmro hslots =>
    rcases cl with ⟨c1,c2,c3,c4,c5,c6,c7,c8,c9,c10,c11⟩
    rcases ss with ⟨ss⟩
    simp only [CD,beq_iff_eq,Bool.not_eq_true'] at q
    rcases q with ⟨⟨⟨⟨⟨w1,w2⟩,w3⟩,w4⟩,w5⟩,w6⟩
    dsimp only at hmro hslots w3 w5 w6;cases w1;cases w2;cases hmro;cases w3;cases hslots;exact ⟨cw,c4,c1,c5,c2,c6,c7,c8,c9,c10,d1,a0,a1,a2,a3,a5,_,X _ _ look,.of_isNs (PySem.W.isNs_of_in X w5),PySem.W.nsMap_none_of_in X w5 w6,PySem.W.tail_of_in X w4⟩
theorem qS{K:E2}{mg:Str->Option Value}{h:Heap}(X:K.In h)(G:h.Ns mainGlobals mg){x:Str}{i:Nat}(p0:Str)(d:DIn K x i)(hb:∀ (kV doc pm:Value) (an:Option Addr) (cdv ct u0:Value),bindArgs (PySem.W.fnOf x x (cH (top i)) (bf (top i)) (ac (top i)) .none kV doc pm an cdv ct) ⟨[u0],[]⟩=pure ([p0].zip [u0])):Has K mg x (top i) [p0]:=pC X G d fun _ _ _ _ _ _ us hl=>match us,hl with | [u0],_=>hb _ _ _ _ _ _ _
theorem dC{K:E2}{mg:Str->Option Value}{h:Heap}(X:K.In h)(G:h.Ns mainGlobals mg){x:Str}{i:Nat}(p0 p1:Str)(d:DIn K x i)(hb:∀ (kV doc pm:Value) (an:Option Addr) (cdv ct u0 u1:Value),bindArgs (PySem.W.fnOf x x (cH (top i)) (bf (top i)) (ac (top i)) .none kV doc pm an cdv ct) ⟨[u0,u1],[]⟩=pure ([p0,p1].zip [u0,u1])):Has K mg x (top i) [p0,p1]:=pC X G d fun _ _ _ _ _ _ us hl=>match us,hl with | [u0,u1],_=>hb _ _ _ _ _ _ _ _
theorem uJ{K:E2}{mg:Str->Option Value}{h:Heap}(X:K.In h)(G:h.Ns mainGlobals mg){x:Str}{i:Nat}(p0 p1 p2:Str)(d:DIn K x i)(hb:∀ (kV doc pm:Value) (an:Option Addr) (cdv ct u0 u1 u2:Value),bindArgs (PySem.W.fnOf x x (cH (top i)) (bf (top i)) (ac (top i)) .none kV doc pm an cdv ct) ⟨[u0,u1,u2],[]⟩=pure ([p0,p1,p2].zip [u0,u1,u2])):Has K mg x (top i) [p0,p1,p2]:=pC X G d fun _ _ _ _ _ _ us hl=>match us,hl with | [u0,u1,u2],_=>hb _ _ _ _ _ _ _ _ _
theorem hasN5{K:E2}{mg:Str->Option Value}{h:Heap}(X:K.In h)(G:h.Ns mainGlobals mg){x:Str}{i:Nat}(p0 p1 p2 p3 p4:Str)(d:DIn K x i)(hb:∀ (kV doc pm:Value) (an:Option Addr) (cdv ct u0 u1 u2 u3 u4:Value),bindArgs (PySem.W.fnOf x x (cH (top i)) (bf (top i)) (ac (top i)) .none kV doc pm an cdv ct) ⟨[u0,u1,u2,u3,u4],[]⟩=pure ([p0,p1,p2,p3,p4].zip [u0,u1,u2,u3,u4])):Has K mg x (top i) [p0,p1,p2,p3,p4]:=pC X G d fun _ _ _ _ _ _ us hl=>match us,hl with | [u0,u1,u2,u3,u4],_=>hb _ _ _ _ _ _ _ _ _ _ _
theorem all_mk{l:PySem.W.OpenLaw}{w:World}{K:E2}{h:Heap}{mg:Str->Option Value}{fa:Addr}(X:K.In h)(G:h.Ns mainGlobals mg)(hfa:mg "law" = some (.ref fa))
 {b7:Addr} {f7:ClassData}
 {k3:Addr} {f4:ClassData}
 {a6:Addr} {c6:ClassData}
 {f8:Addr} {i8:ClassData}
 {b6:Addr} {f6:ClassData}
 {m3:Addr} {g4:ClassData}
 {c7:Addr} {g7:ClassData}
 {g8:Addr} {j8:ClassData}
 {a4:Addr} {i4:ClassData}
 {TE:Addr} {eT:ClassData}
 (d0:DIn K "is_whole" 1)
 (d1:DIn K "whole_within" 2)
 (d2:DIn K "unlike_within" 3)
 (d3:DIn K "each_once" 4)
 (d4:DIn K "total_good" 17)
 (d5:DIn K "totals_by" 18)
 (d6:DIn K "end_sums" 19)
 (d7:DIn K "low_good" 20)
 (d8:DIn K "total_of" 21)
 (d9:DIn K "check_total" 22)
 (d10:DIn K "_law_cell_at" 24)
 (d11:DIn K "_law_next" 25)
 (d12:DIn K "_law_pen_of" 26)
 (d13:DIn K "_law_draw" 27)
 (d14:DIn K "_law_whole" 28)
 (d15:DIn K "_law_kind_of" 29)
 (d16:DIn K "_law_order_of" 30)
 (d17:DIn K "_law_spine" 31)
 (d18:DIn K "_law_sides" 32)
 (d19:DIn K "_law_from_low" 33)
 (d20:DIn K "_law_low_made" 34)
 (d21:DIn K "_law_put" 35)
 (d22:DIn K "_law_totals" 36)
 (d23:DIn K "_law_total_due" 37)
 (d24:DIn K "_law_odd_total" 38)
 (d25:DIn K "_law_told_of" 39)
 (d26:DIn K "_law_right" 40)
 (d27:DIn K "law" 41)
 (k2:PySem.W.nsIn K mainGlobals "ValueError" = some none)
 (m9:PySem.W.nsIn K mainGlobals "all" = some none)
 (j9:PySem.W.nsIn K mainGlobals "bool" = some none)
 (j3:PySem.W.nsIn K mainGlobals "enumerate" = some none)
 (a10:PySem.W.nsIn K mainGlobals "int" = some none)
 (m2:PySem.W.nsIn K mainGlobals "isinstance" = some none)
 (b10:PySem.W.nsIn K mainGlobals "len" = some none)
 (k9:PySem.W.nsIn K mainGlobals "list" = some none)
 (c10:PySem.W.nsIn K mainGlobals "max" = some none)
 (f10:PySem.W.nsIn K mainGlobals "min" = some none)
 (g9:PySem.W.nsIn K mainGlobals "range" = some none)
 (g10:PySem.W.nsIn K mainGlobals "set" = some none)
 (c8:PySem.W.nsIn K mainGlobals "sorted" = some none)
 (i9:PySem.W.nsIn K mainGlobals "tuple" = some none)
 (i10:PySem.W.nsIn K mainGlobals "zip" = some none)
 (j4:PySem.W.nsIn K mainGlobals "NoNumber" = some (some (.ref k3)))
 (i5:PySem.W.excIn K k3 [.type "ValueError",.type "Exception",.type "BaseException",.type "object"] "ValueError.__new__" = true)
 (nT:PySem.W.nsIn K mainGlobals "TieError" = some (some (.ref TE)))
 (yT:PySem.W.clsIn K TE=some eT)
 (tT:PySem.W.typeIn K (.ref TE)=some (.type "type"))
 (sT:PySem.W.subIn K (.ref TE) (.type "BaseException")=some true)
 (g5:PySem.W.subIn K (.ref k3) (.ref TE)=some true)
 (m8:PySem.W.nsIn K mainGlobals "NoWeb" = some (some (.ref g8)))
 (f9:PySem.W.clsIn K g8=some j8)
 (b9:PySem.W.typeIn K (.ref g8)=some (.type "type"))
 (g6:PySem.W.nsIn K mainGlobals "NoPlace" = some (some (.ref a6)))
 (m6:PySem.W.clsIn K a6=some c6)
 (j6:PySem.W.typeIn K (.ref a6)=some (.type "type"))
 (i7:PySem.W.nsIn K mainGlobals "NoKind" = some (some (.ref b7)))
 (a8:PySem.W.clsIn K b7=some f7)
 (k7:PySem.W.typeIn K (.ref b7)=some (.type "type"))
 (i6:PySem.W.nsIn K mainGlobals "NoShare" = some (some (.ref b6)))
 (a7:PySem.W.clsIn K b6=some f6)
 (k6:PySem.W.typeIn K (.ref b6)=some (.type "type"))
 (k4:PySem.W.nsIn K mainGlobals "NoSquare" = some (some (.ref m3)))
 (k5:PySem.W.clsIn K m3=some g4)
 (b5:PySem.W.typeIn K (.ref m3)=some (.type "type"))
 (j5:PySem.W.clsIn K k3=some f4)
 (a5:PySem.W.typeIn K (.ref k3)=some (.type "type"))
 (j7:PySem.W.nsIn K mainGlobals "NoText" = some (some (.ref c7)))
 (b8:PySem.W.clsIn K c7=some g7)
 (m7:PySem.W.typeIn K (.ref c7)=some (.type "type"))
 (k8:PySem.W.nsIn K mainGlobals "NoRow" = some (some (.ref f8)))
 (c9:PySem.W.clsIn K f8=some i8)
 (a9:PySem.W.typeIn K (.ref f8)=some (.type "type"))
 (m4:PySem.W.nsIn K mainGlobals "TooGreat" = some (some (.ref a4)))
 (m5:PySem.W.clsIn K a4=some i4)
 (c5:PySem.W.typeIn K (.ref a4)=some (.type "type"))
 (g2:PySem.W.subIn K (.ref k3) (.ref g8)=some false)
 (j2:k3≠g8)
 (g1:PySem.W.subIn K (.ref k3) (.ref a6)=some false)
 (j1:k3≠a6)
 (m1:PySem.W.subIn K (.ref k3) (.ref b7)=some false)
 (b2:k3≠b7)
 (i1:PySem.W.subIn K (.ref k3) (.ref b6)=some false)
 (k1:k3≠b6)
 (a1:PySem.W.subIn K (.ref k3) (.ref m3)=some false)
 (c1:k3≠m3)
 (a2:PySem.W.subIn K (.ref k3) (.ref c7)=some false)
 (c2:k3≠c7)
 (f2:PySem.W.subIn K (.ref k3) (.ref f8)=some false)
 (i2:k3≠f8)
 (b1:PySem.W.subIn K (.ref k3) (.ref a4)=some false)
 (f1:k3≠a4)
 (f5:PySem.W.subIn K (.ref k3) (.type "ValueError")=some true)
 (c3:PySem.W.findIn K (.ref k3) "__getattribute__" = some (some (.builtin "BaseException.__getattribute__")))
 (f3:PySem.W.findIn K (.ref k3) "__getattr__" = some none)
 (g3:PySem.W.mroIn K k3 (.type "BaseException")=some true)
 (b3:PySem.W.findIn K (.ref k3) "__class__" = some (some (.builtin "object.__class__")))
 (i3:PySem.W.mroIn K k3 (.type "object")=some true)
 : ∃ fd:FuncData,(∀ (s:Shared) (v:Value),BindsTo s fd ⟨[v],[]⟩ [("script",v)])/\∀ base:Heap,K.In base->base.Ns mainGlobals mg->jS l.prog w K mg base (CXr l.prog w) 10 fa fd ["script"] (spF K none re):=by
 obtain ⟨fL,odL,anL,slL,ocL,kVL,dcL,pmL,cdL,ctL,aL,lL,cL,kL⟩:=d27;cases hfa.symm.trans (Du X G aL);have T:Txt K mg:=⟨CY X G k2,CY X G m9,CY X G j9,CY X G j3,CY X G a10,CY X G m2,CY X G b10,CY X G k9,CY X G c10,CY X G f10,CY X G g9,CY X G g10,CY X G c8,CY X G i9,CY X G i10⟩;have D0:=qS X G "thing" d0 (by intros;rfl);have D1:=uJ X G "thing" "least" "most" d1 (by intros;rfl);have D2:=uJ X G "things" "least" "most" d2 (by intros;rfl);have D3:=dC X G "things" "most" d3 (by intros;rfl);have D4:=dC X G "web" "thing" d4 (by intros;rfl);have D5:=dC X G "web" "numbering" d5 (by intros;rfl);have D6:=dC X G "web" "numbers" d6 (by intros;rfl);have D7:=dC X G "web" "thing" d7 (by intros;rfl);have D8:=dC X G "web" "thing" d8 (by intros;rfl);have D9:=dC X G "web" "thing" d9 (by intros;rfl);have D10:=dC X G "script" "k" d10 (by intros;rfl);have D11:=qS X G "seed" d11 (by intros;rfl);have D12:=qS X G "cell" d12 (by intros;rfl);have D13:=dC X G "pen" "many" d13 (by intros;rfl);have D14:=qS X G "found" d14 (by intros;rfl);have D15:=qS X G "e" d15 (by intros;rfl);have D16:=dC X G "pen" "many" d16 (by intros;rfl);have D17:=dC X G "pen" "last" d17 (by intros;rfl);have D18:=dC X G "one" "other" d18 (by intros;rfl);have D19:=uJ X G "many" "ties" "places" d19 (by intros;rfl);have D20:=dC X G "pen" "most" d20 (by intros;rfl);have D21:=hasN5 X G "many" "ties" "places" "numbers" "order" d21 (by intros;rfl);have D22:=dC X G "pen" "most" d22 (by intros;rfl);have D23:=dC X G "web" "thing" d23 (by intros;rfl);have D24:=uJ X G "pen" "web" "thing" d24 (by intros;rfl);have D25:=dC X G "web" "thing" d25 (by intros;rfl);have D26:=dC X G "web" "thing" d26 (by intros;rfl);refine ⟨PySem.W.fnOf "law" "law" (cH (top 41)) (bf (top 41)) (ac (top 41)) .none kVL dcL pmL anL cdL ctL,fun s v=> .of_eq rfl,fun base KB GB=> ?_⟩
 have b4:OwnCls "NoNumber" k3 [.type "ValueError",.type "Exception",.type "BaseException",.type "object"] "ValueError.__new__" mg base:=own_of KB GB j4 i5;have c4:pX K mg base "NoNumber" := ⟨_,_,_,_,_,b4,PySem.F.excBase_ValueError,j4⟩;have HT:Hdl K mg "TieError" TE:=⟨Du X G nT,sT,by rw [yT];rfl,tT⟩
 have SU:∀ nm,nms.elem nm=true->∀ C,h9 K nm C->PySem.W.subIn K (.ref C) (.ref TE)=some true:=fun nm h C hC=>by
  rcases (by simpa [nms] using h:nm=("NoNumber" : Str)) with rfl
  ·have e:C=k3:=by have:=(show PySem.W.nsIn K mainGlobals "NoNumber" = _ from hC).symm.trans j4;simpa using this
   subst e;exact g5
 have a3:Kd.t8 K mg k3 5:=⟨⟨c3,f3,g3,b3,i3,by rw [j5];rfl⟩,by decide,Kd.kit_ve f5,⟨g8,Du X G m8,Kd.cN j2 f9 b9 g2⟩,⟨a6,Du X G g6,Kd.cN j1 m6 j6 g1⟩,⟨b7,Du X G i7,Kd.cN b2 a8 k7 m1⟩,⟨b6,Du X G i6,Kd.cN k1 a7 k6 i1⟩,⟨m3,Du X G k4,Kd.cN c1 k5 b5 a1⟩,⟨k3,Du X G j4,Kd.yg⟩,⟨c7,Du X G j7,Kd.cN c2 b8 m7 a2⟩,⟨f8,Du X G k8,Kd.cN i2 c9 a9 f2⟩,⟨a4,Du X G m4,Kd.cN f1 m5 c5 b1⟩⟩
 have KN:Kd.zo K mg nms:=⟨fun nm h j hj C hC=>by
  rcases (by simpa [nms] using h:nm=("NoNumber" : Str)) with rfl
  ·have e:C=k3:=by have:=(show PySem.W.nsIn K mainGlobals "NoNumber" = _ from hC).symm.trans j4;simpa using this
   subst e;rw [show Kd.names.findIdx? (·== ("NoNumber" : Str))=some 5 by decide +kernel] at hj;cases hj
   exact a3⟩
 have GK:=AW (P:=l.prog) (w:=w) (base:=base) D15 T;have G2:=qG (P:=l.prog) (w:=w) (base:=base) D0 T;have G1:=qH (P:=l.prog) (w:=w) (base:=base) D6 T;have G17:=le (P:=l.prog) (w:=w) (base:=base) D10 T;have G6:=pf (P:=l.prog) (w:=w) (base:=base) D11 T;have G14:=me (P:=l.prog) (w:=w) (base:=base) D12 T;have G12:=ng (P:=l.prog) (w:=w) (base:=base) D14 T;have G10:=nj (P:=l.prog) (w:=w) (base:=base) D18 T;have G20:=ke (P:=l.prog) (w:=w) (base:=base) D19 T;have G0:=qI (P:=l.prog) (w:=w) (base:=base) D21 T;have G19:=kY (P:=l.prog) (w:=w) (base:=base) D1 T G2;have G8:=pd (P:=l.prog) (w:=w) (base:=base) D5 T G1;have G5:=ph (P:=l.prog) (w:=w) (base:=base) D13 T G6;have G25:=jA (P:=l.prog) (w:=w) (base:=base) D23 T G12;have G23:=jY (P:=l.prog) (w:=w) (base:=base) D2 T G19;have G22:=jZ (P:=l.prog) (w:=w) (base:=base) D16 T G5;have G11:=nh (P:=l.prog) (w:=w) (base:=base) D17 T G5;have G24:=jB (P:=l.prog) (w:=w) (base:=base) D24 T G5;have G7:=pe (P:=l.prog) (w:=w) (base:=base) D3 T G23;have G21:=kc (P:=l.prog) (w:=w) (base:=base) D20 T G5 G11 G20;have G13:=nc (P:=l.prog) (w:=w) (base:=base) D4 T G7 G8;have G15:=ma (P:=l.prog) (w:=w) (base:=base) D22 T G5 G10 G21 G0 G22;have G3:=qF (P:=l.prog) (w:=w) (base:=base) D7 T G13;have G16:=l9 (P:=l.prog) (w:=w) (base:=base) D9 T G13 c4;have G4:=qE (P:=l.prog) (w:=w) (base:=base) D8 T G16 G8;have G18:=kZ (P:=l.prog) (w:=w) (base:=base) D25 T G4 HT SU GK KN;have G9:=nk (P:=l.prog) (w:=w) (base:=base) D26 T G25 G13 G3 G18 G12;exact ok_law (P:=l.prog) (w:=w) (base:=base) (tF lL cL kL) T G9 G17 G14 G15 G13 G24
end K45
open PySem PySem.W PyProof.Rows
noncomputable def PySem.W.Fast.tw10426125643436316091:=0
noncomputable def PySem.W.Fast.tw11187973929812520656:=0
noncomputable def PySem.W.Fast.tw4584130408075211490:=0
noncomputable def PySem.W.Fast.tw9206760257372789951:=0
noncomputable def PySem.W.Fast.tw6513688561603925361:=0
noncomputable def PySem.W.Fast.tw11930311979851757478:=0
noncomputable def PySem.W.Fast.tw9774394379856643515:=0
noncomputable def PySem.W.Fast.tw7523194637212750777:=0
noncomputable def PySem.W.Fast.tw7498633149979677338:=0
noncomputable def PySem.W.Fast.tw3092117133297227249:=0
noncomputable def PySem.W.Fast.tw5681066748535004433:=0
noncomputable def PySem.W.Fast.tw12996339429388188178:=0
noncomputable def PySem.W.Fast.tw16465384495482172369:=0
noncomputable def PySem.W.Fast.tw11849525312028181438:=0
noncomputable def PySem.W.Fast.tw17312996333117680517:=0
noncomputable def PySem.W.Fast.tw3094701115853657799:=0
noncomputable def PySem.W.Fast.tw9766887352012807212:=0
noncomputable def PySem.W.Fast.tw4179031660912777645:=0
noncomputable def PySem.W.Fast.tw15508019666092448443:=0
noncomputable def PySem.W.Fast.tw16469568281967520401:=0
noncomputable def PySem.W.Fast.tw15213048550514571353:=0
noncomputable def PySem.W.Fast.tw4033379813872489195:=0
noncomputable def PySem.W.Fast.tw13816761405361552965:=0
noncomputable def PySem.W.Fast.tw12059592832596718669:=0
noncomputable def PySem.W.Fast.tw8160871880118814707:=0
noncomputable def PySem.W.Fast.tw11002848052431835627:=0
noncomputable def PySem.W.Fast.tw10390157646234782899:=0
noncomputable def PySem.W.Fast.tw3992908553847606798:=0
noncomputable def PySem.W.Fast.tw5353813085845620550:=0
noncomputable def PySem.W.Fast.tw4475145619620083286:=0
noncomputable def PySem.W.Fast.tw15572355999047233042:=0
noncomputable def PySem.W.Fast.tw8478115696639743908:=0
noncomputable def PySem.W.Fast.tw4077504559007278572:=0
noncomputable def PySem.W.Fast.tw5300659998066318136:=0
noncomputable def PySem.W.Fast.tw3904583755211930517:=0
noncomputable def PySem.W.Fast.tw18431155831084640082:=0
noncomputable def PySem.W.Fast.tw11069628954808310989:=0
noncomputable def PySem.W.Fast.tw548943366391343654:=0
noncomputable def PySem.W.Fast.tw12694589447371642155:=0
noncomputable def PySem.W.Fast.tw15545184769064153574:=0
noncomputable def PySem.W.Fast.tw1647960591809683682:=0
noncomputable def PySem.W.Fast.tw10364838811517235677:=0
noncomputable def PySem.W.Fast.tw2631051879327533642:=0
noncomputable def PySem.W.Fast.tw5310652868755799522:=0
noncomputable def PySem.W.Fast.tw6771182271545134960:=0
noncomputable def PySem.W.Fast.tw10131873952172028942:=0
noncomputable def PySem.W.Fast.tw8131721106225051767:=0
noncomputable def PySem.W.Fast.tw1947361589491995326:=0
noncomputable def PySem.W.Fast.tw1567247161763788871:=0
noncomputable def PySem.W.Fast.tw5845538515087863352:=0
noncomputable def PySem.W.Fast.tw6623812351622530092:=0
noncomputable def PySem.W.Fast.tw2207379490860805584:=0
noncomputable def PySem.W.Fast.tw670427922429333600:=0
noncomputable def PySem.W.Fast.tw3083371992184736890:=0
noncomputable def PySem.W.Fast.tw12079628635447562283:=0
noncomputable def PySem.W.Fast.tw16884622931589843948:=0
noncomputable def PySem.W.Fast.tw14064692534454641163:=0
noncomputable def PySem.W.Fast.tw11347631108264317165:=0
noncomputable def PySem.W.Fast.tw15961656504987544514:=0
noncomputable def PySem.W.Fast.tw11887224372650548316:=0
noncomputable def PySem.W.Fast.tw10276631330486657221:=0
noncomputable def PySem.W.Fast.tw12661032092557703082:=0
noncomputable def PySem.W.Fast.tw16970792351503237766:=0
noncomputable def PySem.W.Fast.tw1122505984323709140:=0
noncomputable def PySem.W.Fast.tw11843833423457600547:=0
open_top head for PySem.Challenge.rw_tienumbers_k45_what_is_a_total_numbering
set_option maxRecDepth 100000 in
set_option maxHeartbeats 0 in
theorem PySem.Challenge.cw_tienumbers_k45_what_is_a_total_numbering_holds : PySem.Challenge.rw_tienumbers_k45_what_is_a_total_numbering.Holds := by
 refine head ?_
 k_fill
 refine L2.zr (l:=PySem.Challenge.rw_tienumbers_k45_what_is_a_total_numbering) (n:=63) (k:=10) (x := "script") (CX:=fun w=>L2.CXr (PySem.Challenge.rw_tienumbers_k45_what_is_a_total_numbering).prog w) (sp:=fun w=>L2.spF _ none K45.re) rfl (by decide) rfl ⟨rfl,by decide,by decide,rfl⟩ (fun w h Y=>PySem.W.kIn_of Y) ?F (fun _ _ a ns hl _ hS=>L2.zU ⟨_,K45.law_ok ns⟩ hS) fun _ _ _ _ _ z=>L2.vV z
 case F =>
  intro w mg fa h KX G hmg;refine' K45.all_mk KX G hmg ?_ ?_ ?_ ?_ ?_ ?_ ?_ ?_ ?_ ?_ ?_ ?_ ?_ ?_ ?_ ?_ ?_ ?_ ?_ ?_ ?_ ?_ ?_ ?_ ?_ ?_ ?_ ?_ ?_ ?_ ?_ ?_ ?_ ?_ ?_ ?_ ?_ ?_ ?_ ?_ ?_ ?_ ?_ ?_ ?_ ?_ ?_ ?_ ?_ ?_ ?_ ?_ ?_ ?_ ?_ ?_ ?_ ?_ ?_ ?_ ?_ ?_ ?_ ?_ ?_ ?_ ?_ ?_ ?_ ?_ ?_ ?_ ?_ ?_ ?_ ?_ ?_ ?_ ?_ ?_ ?_ ?_ ?_ ?_ ?_ ?_ ?_ ?_ ?_ ?_ ?_ ?_ ?_ ?_ ?_ ?_ ?_ ?_
  all_goals first | (apply K45.din_mk<;>k_is) | k_is | k_exc | decide | skip
end
